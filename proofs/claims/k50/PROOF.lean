import PyProof.Rows.All
import Wide.All
import OpenK.AllK
import Wide.FinOn
import PyProof.EqAt
import PyProof.EqKinds
import PyProof.NeKinds
import PyProof.TupleCall
import KE.KRevIter
import PyProof.ZipIter
import PyProof.Rows.SetFrom
import PyProof.StrWalks
import PyProof.DictStraight
import PyProof.DictDisplay
import PyProof.StrLawsFrom
import PyProof.Rows.StrNews2
import KE.KMinBuiltin
import PyProof.Rows.CallKwBuiltin
import PyProof.Rows.SortShell
import KE.KSortTup
import KE.KBoundM
import KE.KLam
import KE.KDictLaws
import PyProof.DictWalks
import Lean
import PySem.Challenge.RW_letterlaw_k50_what_is_too_far
set_option compiler.extract_closed false
open Lean(mkIdent)
set_option tactic.hygienic false
def zzP(s:Lean.Syntax):Lean.MacroM Lean.Syntax:=s.rewriteBottomUpM λs=>do if s.isIdent then `(rcasesPat| $(⟨s⟩):ident) else if s[0].getAtomVal=="#[" then `(rcasesPat| ⟨$(←s[1].getSepArgs.mapM λp=>`(Lean.Parser.Tactic.rcasesPatLo| $(⟨p⟩):rcasesPat)),*⟩) else if s[0].getAtomVal=="_" then `(rcasesPat| _) else return s
local macro_rules | `(tactic| let#[$a,*]:=$e)=>do `(tactic| obtain $(⟨←zzP (←`(#[$a,*]))⟩):rcasesPat:=$e)
local macro_rules | `(⇑$a)=>`(.str ($(mkIdent `tx) $a))
local macro_rules | `(tactic| rintro $p* : 0)=>`(tactic| (rintro $p* : _;right))
local macro_rules | `(↥$a)=>`(by simpa using $a)
local macro_rules | `(%[$a,*|$n:num])=>do let x<-`(none);`([$(a.getElems++Array.replicate n.getNat x),*])
open Lean in
local macro_rules | `(mutual $c* end)=>if c[0]!.raw.isOfKind ``Parser.Command.section then do let m<-`(noncomputable def x:=0);return mkNullNode (<-(c.drop 1).mapM λx=>do let y<-x.raw.rewriteBottomUpM λx=>pure (x.setInfo .none);return if y[0].getArgs.all (·.getNumArgs==0)&&(["def","abbrev"].contains y[1][0].getAtomVal||y[1][1].getAtomVal=="instance")then y.setArg 0 m.raw[0] else y) else Macro.throwUnsupported
def zzA(h:True:=by first | rfl | exact .inl rfl | exact .inr rfl | exact .inr (.inl rfl) | exact .inr (.inr rfl) | decide | assumption | (intro _;rfl) | exact ⟨rfl,rfl⟩):=h
local macro_rules | `(‹$t›)=>`(autoParam $t $(mkIdent `zzA._auto_1))
local macro_rules | `(end in $d)=>do let m<-`(noncomputable def x:=0);return d.raw.setArg 0 m.raw[0]
local macro_rules | `(!0)=>`(by decide +kernel)
local macro_rules | `(!-$i)=>`($(mkIdent `zk) $(mkIdent `v9) ($(mkIdent `pv) $i) $(mkIdent `ze))
local macro_rules | `(tactic| exists $t)=>`(tactic| refine $t (λvs H Q E h=>by repeat (first | (obtain⟨e,_⟩:=h;subst e;rfl) | obtain⟨_,h⟩:=h)) (λ$(mkIdent `cdv) $(mkIdent `A) $(mkIdent `outer) $(mkIdent `s) $(mkIdent `H) $(mkIdent `vs) $(mkIdent `Q) $(mkIdent `E) $(mkIdent `hr) $(mkIdent `h)=>?_))
local macro_rules | `(tactic| exists $t,0)=>`(tactic| refine $t (λvs H Q E h=>by repeat (first | (obtain⟨e,_⟩:=h;subst e;rfl) | obtain⟨_,h⟩:=h)) (λ$(mkIdent `cdv) $(mkIdent `A) $(mkIdent `outer) $(mkIdent `s) $(mkIdent `H) $(mkIdent `vs) $(mkIdent `Q) $(mkIdent `E) $(mkIdent `hr) $(mkIdent `hx) $(mkIdent `h)=>?_))
local macro_rules | `(tactic| rintro $p* : _)=>`(tactic| rintro $(mkIdent `Gz):ident $(mkIdent `hGz):ident $p*)
local macro_rules | `(tactic| right)=>`(tactic| subst $(mkIdent `hGz))
local macro_rules | `($s⁻¹)=>`(($s).heap.objs.size)
def sizL{n:Nat}(h:n.ble 9=true):n<=PySem.sizeLine:=Nat.le_trans (Nat.le_of_ble_eq_true h) (by decide)
local macro_rules | `(⋯)=>`(by first | exact $(mkIdent `sizL) rfl | lia)
local macro_rules | `(∅)=>`(by decide)
local macro_rules | `(tactic| erw [$[$a:term],*] $[$l:location]?)=>`(tactic| simp only [$[$a:term],*] $[$l:location]?)
local macro_rules | `(())=>`(List Nat)
local macro_rules | `(#[$a,*])=>if a.getElems.size>1 then `(⟨$a,*⟩) else Lean.Macro.throwUnsupported
open List renaming toArray→u9
open PySem.Value renaming ref→r9
open PySem.Value renaming none→p9
open PySem.PassesOwn renaming never→o9
open PySem.Builtin.Str renaming strSliceIndices→o8
open List renaming getElem?_eq_some_iff→tL,mem_map→tM,mem_cons→tN,mem_append→tO,mem_singleton→tP,all_eq_true→tQ,mem_range→tR,mem_filter→tT,mem_reverse→tU,nodup_cons→tV,length_pos_iff→tX,pairwise_map→tY,mem_replicate→tZ,mem_iff_getElem?→Ab,mem_filterMap→Ac,any_eq_true→Ae,find?_eq_none→Af,nodup_iff_count→Ag,pairwise_append→Ah,pairwise_cons→Ai,mem_flatMap→Aj,isPerm_iff→Ak,filter_eq_self→Al,mem_mapIdx→Am
open Option renaming map_eq_some_iff→tS,isSome_iff_exists→tW,bind_eq_some_iff→Aa
open Nat renaming lt_one_iff→Ad
local macro_rules | `(tactic| symm)=>`(tactic| decide +kernel)
local macro_rules | `(tactic| nofun)=>`(tactic| exact⟨rfl,rfl,rfl,by decide +kernel,rfl,by decide +kernel,by decide +kernel⟩)
open List renaming length_map→aa,getD_eq_getElem?_getD→ae,replicate→af,mem_of_getElem?→ag,getElem?_eq_getElem→ah,map_cons→ak,size_toArray→al,length_append→aq,map_append→ar,mem_cons_of_mem→av,getElem?_map→ay,mem_cons_self→az,map_nil→aA,mem_append_right→aC,length_take→aF,take_length→aI,length_cons→aJ,range→aN,drop_eq_getElem_cons→aO,map_map→aP,toArray→aT,append_assoc→aU,append_nil→aV,map_congr_left→aW,sum_cons→aX,drop_of_length_le→aZ,lookup_cons→ba,not_mem_nil→bc,mem_cons→be,length_replicate→bf,length_drop→bh,take_zero→bi,take_of_length_le→bj,take_append_of_le_length→bq,lookup→br,set_cons_zero→bt,set_cons_succ→bu,cons_append→bw,getElem?_reverse→bx,nil_append→bz,filter_cons_of_pos→bD,mem_append_left→bF,mem_of_mem_take→bQ,replicate_succ→bT,length_nil→ci,range_succ→cq,length_range→cu,drop_append_of_le_length→cz,filter_cons_of_neg→cA,idxOf_lt_length_of_mem→cD,take_append_drop→cF,getElem?_append_right→cH,drop_zero→cM,getElem?_cons_zero→cP,of_mem_zip→cS,filter_append→cU,range_succ_eq_map→cX,flatten_cons→cZ,length_filter_le→dc,map_reverse→di,mem_of_mem_drop→dj,take_succ_cons→dq,flatMap_append→dw,getElem?_append_left→dA,forIn_cons→dB,filter_nil→dD,getElem?_take_of_lt→dH,contains_cons→dI,zip_cons_cons→dJ,map_replicate→dL,getElem?_cons_succ→dM,reverse_cons→dN,flatMap_cons→dP,getElem?_set_self→dQ,length→dU,getElem_mem→dY,filter_cons→dZ,getElem?_set_ne→d6,count_cons→d9,any_map→ee,find?_some→ef,sum_nil→eg,eq_nil_of_length_eq_zero→eh,filterMap_cons→et,replicate_zero→eE,length_reverse→eF,map_id→eK,getElem_idxOf→eL,map_take→eO,map_drop→eP,extract_eq_drop_take→eV,mem_of_find?_eq_some→eW,drop_length→eY,mem_nil_iff→e8,ext_getElem→fg,map_fst_zip→fm,reverse→ft,getElem?_replicate→fu,pairwise_singleton→fz,idxOf_cons→fF,range'→fJ,length_singleton→fN,forIn_nil→fO,getElem?_eq_none→fQ,drop_drop→fR,mem_range→fS,take_take→fV,range_eq_range'→fY,all_cons→fZ,getElem_range→gp,length_mapIdx→gq
open PySem.Heap renaming get?_push_of_some→ac,lt_size→au,get?_push_size→aD,get?_update_other→aH,size_push→bG,get?_update_self→bY,size_update→df,get?_update_ne→gf
open PySem.W renaming findIn→aj,nsIn→aE,keepIn→aK,mg_of→aL,mg_none_of→aQ,kitOne→aS,kia_one→bo,isFn→bp,fnOf→bv,emptyDict→bJ,callWith_K→bL,mroIn→bO,codeIn→bP,methodCall_KW→bX,kla_fn→cb,instObj→ce,subIn→cy,plainGet→cB,hasDictIn→cI,specialIn→cJ,looks_findIn→cK,plainOver→cY,makesIn→dz,takesIn→d7,plainGet_of→eD,lookIn→eG,methodObj→eQ,kitx_list→eR,envX→fh,takerIn→fA,cellsFrom_some→fH,callWith_K0→ge,kitx_tuple→gk,set_plain→gr,kitx_dict→gu,handedIn→gv,bind_fn→gw,findObj→gx,readsIn→gy,findCls→gz,kat_nil→gB,kas_ask→gC
open Nat renaming le_refl→am,lt_of_lt_of_le→ao,zero_le→aw,ne_of_lt→ax,le_trans→aG,lt_of_le_of_lt→bn,le_of_lt_succ→bK,not_lt_zero→bR,ne_of_gt→bU,le_of_not_lt→bV,lt_of_le_of_ne→bZ,le_of_lt→cf,le_antisymm→cp,lt_succ_of_lt→cr,lt_irrefl→cw,le_add_right→cC,le_succ→cL,succ_pos→cN,add_right_comm→cT,lt_trans→db,succ_le_succ→dg,le_sub_one_of_lt→dh,add_sub_cancel'→dv,min_eq_left→dC,le_of_eq→dF,min_eq_right→dX,mul_le_mul→eJ,lt_trichotomy→eS,succ_mul→eX,min_self→eZ,lt_or_ge→e7,lt_of_not_le→e9,lt_add_of_pos_right→fw,min_le_left→fB,sub_lt_sub_right→fX,zero_add→gn
open Bool renaming false_ne_true→aB,and_eq_true→aM,false_eq_true→aY,eq_false_or_eq_true→cj,eq_iff_iff→cQ,not_eq_true'→dO,or_true→d8,and_false→eI,not_false→fP,and_true→gb,beq_comm→gc,not_true→gd
open Int renaming toNat_natCast→aR,eq_ofNat_of_zero_le→bC,emod_lt_of_pos→cE,emod_nonneg→cG,natCast_mul→fG
open Decidable renaming byContradiction→bg
open PySem.Str renaming ofString→bA,empty→gh
open PyProof.Rows renaming callWith_type1→bB,boot_sorted→fo
open PySem.F renaming plainAttrs_list→bE,plain_max_loop→bH,plainAttrs_str→bI,slot_list_append→bM,type_list_append→bN,entry_max_loop→dW,slot_str_find→d4,type_str_find→d5,excBase_ValueError→eN,slot_str_count→fL,type_str_count→fM
open PySem renaming mem_of_lookup→bS,strKind→dk,frameOf→eM,call→fW,passOn→gm
open Option renaming bind_some→bW,getD_none→de,isSome_map→eU,join_some→fj,join_none→fk,getD_some→fq
open Array renaming length_toList→eC,toList_append→gg,getD→gA
open PySem renaming wpAny_bind→ph,wpAny_pure→pi,mainGlobals→pj,starEach→pq,sizeLine→pA
open PySem.W renaming Frag→pB
open PySem renaming Addr→pC,Value→pD,wpAny→pE,Shared→pF,Str→pG,compareOp→pH,Program→pJ,wpAny_holding→pL,sizeLine_eq→pM,Stmt→pN,wpAny_field→pO,keywordEach→pP,backTo→pQ,World→pR,Heap→pS,FuncData→pT,wpAny_noRaise→pV,strIterType→pW,wpAny_truthy_bool→pX,wpAny_Call_Name_kw→pY,bootBuiltins→pZ,backToKw→ra,wpAny_seqItems→re,wpAny_loadPart_at→rf,wpAny_execs_nil→rg,Around→rh,wpAny_standAt→rj,wpAny_setField→rm,IsPair→rn,wpAny_passesOwn→rp,wpAny_mono→rq,codeAny→rz,wpAny_execs_cons→rA,wpAny_setField_rec→rB,wpAny_pyIter_list→rD,wpAny_call→rE,Expr→rF,codeAny_mono→rG,Obj→rH,wpAny_isSubtype_exc→rJ,wpAny_comprehension_free→rM,codeAny_builtin→rN,wpAny_letGo→rO,wpAny_tryCatch→rP,plainObj_wpAny_Assign_Attribute→rQ,wpAny_call_entry→rR,wpAny_newList→rS,wpAny_attempt→rT,wpAny_newFunctionEnv→rV,codeAny_call_builtin→rW,NameKind→rX,Scope→rY,IsZip→rZ,wpAny_newObj_type→sf,wpAny_Assign_Name→si,wpAny_Try_except→sj,wpAny_rule→sk,wpAny_pyNext_list_item→so,codeAny_compStart_list→sr,wpAny_updateSeq→su,wpAny_pyNext_list_end→sv,codeAny_handlers_test→sw,wpAny_updateSeq_pair→sy,wpAny_pyIter_revIter→sA,wpAny_newTuple→sB,wpAny_loadPart→sC,recursionLimit→sF,excClassObj→sG,BindsTo→sI,Arguments→sJ,wpAny_handleBy_cons→sK,wpAny_onRaise→sL,ExceptHandler→sM,wpAny_pyIter_tuple→sN,Tok→sP,wpAny_pyIter_enum→sQ,wpAny_assign_Name→sR,wpAny_Return_some→sS,wpAny_pyIter_zip→sU,wpAny_lookBehind→sV,isCodeTable→sX,CmpOp→sY,Keyword→sZ,wpAny_Name→tj,Env→tm,TriplesOk→tu,Paired→tw,Pos→tB
open PyProof.Rows renaming seqObj→pK,envOfC→rL,AllBare→rU,subscriptTail_builtinR→sq,IntsAre→sH
open PySem.W renaming OpenLaw→tz,KasT→tD
open Option renaming some→tE,none→tF
open Bool renaming true→tG,false→tH
open PySem PySem.Spec PyProof.Rows
local macro_rules | `(tactic| change $t:term)=>`(tactic| refine $(mkIdent `zj) (λ$(mkIdent `σ) $(mkIdent `H')=>$t) ?_ ?_)
local macro_rules | `(tactic| intros $xs*)=>`(tactic| (intro $(mkIdent `tI):ident $(mkIdent `s):ident $(mkIdent `σ):ident $(mkIdent `H):ident;intro $[$(xs.map λx=>(⟨x.raw⟩:Lean.TSyntax `term))]*))
def z9:=@if_neg
def z6:=@if_pos
def y9:=@absurd
def y6:=@decide_eq_false
def y4:=@decide_eq_true
def y3:=@of_decide_eq_true
set_option Elab.async false
set_option linter.all false
set_option maxRecDepth 100000
set_option maxHeartbeats 0
set_option compiler.extract_closed false
namespace L2
mutual section
abbrev Key:=Sum Int pG
def zdh:Key->pD->Bool
 | .inl k,v=>Value.isInt k v
 | .inr x,v=>Value.isStrOf x v
def zgC(w:pR):Key->Int
 | .inl k=>hashInt k
 | .inr x=>hashStr w x
theorem ym:∀{k:Key} {v:pD},zdh k v=tG->(∃i t,k=Sum.inl i/\v=Value.int i t)\/(∃x t,k=Sum.inr x/\v=Value.str x t)
 | .inl i,v,h=>by
  let#[t,e]:=Value.isInt_shape (k:=i) (v:=v) h;exact .inl #[i,t,rfl,e]
 | .inr x,v,h=>by
  let#[t,e]:=Value.isStrOf_shape (x:=x) (v:=v) h;exact .inr #[x,t,rfl,e]
def zdk(a b:Int):decide ((Sum.inl a:Key)=Sum.inl b)=(a == b):=by
 by_cases e:a=b
 ·subst e;simp
 ·have h:¬ (Sum.inl a:Key)=Sum.inl b:=λq=>e (Sum.inl.inj q);rw[y6 h];exact (beq_eq_false_iff_ne.mpr e).symm
def zcL(a b:pG):decide ((Sum.inr a:Key)=Sum.inr b)=decide (a=b):=by
 by_cases e:a=b
 ·subst e;simp
 ·have h:¬ (Sum.inr a:Key)=Sum.inr b:=λq=>e (Sum.inr.inj q);rw[y6 h,y6 e]
def zdb(a:Int)(b:pG):decide ((Sum.inl a:Key)=Sum.inr b)=tH:=y6 (λq=>nomatch q)
def zdV(a:pG)(b:Int):decide ((Sum.inr a:Key)=Sum.inl b)=tH:=y6 (λq=>nomatch q)
def Xz(prog:pJ)(w:pR):PySem.KeyKind prog w Key where
 is:=zdh
 hash:=zgC w
 inj:=λv a b ha hb=>by
  rcases ym ha with ⟨i,t,rfl,rfl⟩ | ⟨x,t,rfl,rfl⟩
  ·rcases ym hb with ⟨j,u,rfl,e⟩ | ⟨y,u,rfl,e⟩
   ·injection e with e1 _;rw[e1]
   ·exact nomatch e
  ·rcases ym hb with ⟨j,u,rfl,e⟩ | ⟨y,u,rfl,e⟩
   ·exact nomatch e
   ·injection e with e1 _;rw[e1]
 byValue:=λk v h=>by
  rcases ym h with ⟨i,t,rfl,rfl⟩ | ⟨x,t,rfl,rfl⟩ <;> rfl
 pyHash:=λhv h=>by
  rcases ym hv with ⟨i,t,rfl,rfl⟩ | ⟨x,t,rfl,rfl⟩
  ·exact wpAny_pyHash_int h
  ·exact wpAny_pyHash_str h
 eqBool:=λhu hv h=>by
  rcases ym hu with ⟨i,t,rfl,rfl⟩ | ⟨x,t,rfl,rfl⟩
  ·rcases ym hv with ⟨j,u,rfl,rfl⟩ | ⟨y,u,rfl,rfl⟩
   ·rw[zdk]at h;exact wpAny_eqBool_int h
   ·rw[zdb]at h;exact SeqAt.EqAt.int_str i t y u _ _ _ _ h
  ·rcases ym hv with ⟨j,u,rfl,rfl⟩ | ⟨y,u,rfl,rfl⟩
   ·rw[zdV]at h;exact SeqAt.EqAt.str_int x t j u _ _ _ _ h
   ·rw[zcL]at h;exact wpAny_eqBool_str h
 «strs»:=λk x t v h=>by
  rcases ym h with ⟨i,u,rfl,e⟩ | ⟨y,u,rfl,e⟩
  ·exact nomatch e
  ·injection e with e1 _;subst e1;cases v <;> rfl
inductive V where
 | non | bl (b:Bool) | int (i:Int) | str (x:pG) | byt (b:Array UInt8) | flt (b:UInt64) | ref (a:pC) | ty (n:String)
 deriving DecidableEq
def RelV:V->pD->Prop
 | .non,u=>u=p9
 | .bl b,u=>u=Value.bool b
 | .int i,u=>∃t,u=Value.int i t
 | .str x,u=>∃t,u=Value.str x t
 | .byt b,u=>∃t,u=Value.bytes b t
 | .flt b,u=>∃t,u=Value.float b t
 | .ref a,u=>u=r9 a
 | .ty n,u=>u=Value.type n
abbrev Vals:List V->List pD->Prop:=tw RelV
def Vals.length(r:Vals xs us):xs.length=us.length:=Paired.length r
theorem Vals.get:∀{xs:List V} {us:List pD} {i:Nat} {x:V},Vals xs us->xs[i]? = tE x->∃u,us[i]? = tE u/\RelV x u
 | _,_,_,_,.nil,e=>by simp at e
 | _,_,0,_,.cons r _,e=>by simp at e;subst e;exact#[_,rfl,r]
 | _,_,i+1,x,.cons _ t,e=>by
  let#[u,h1,h2]:=Vals.get (i:=i) (x:=x) t ↥e;exact#[u,by simpa using h1,h2]
theorem Vals.set(r:RelV x u):∀{xs:List V} {us:List pD} (i:Nat),Vals xs us->Vals (xs.set i x) (us.set i u)
 | _,_,_,.nil=>.nil
 | _,_,0,.cons _ t=>.cons r t
 | _,_,i+1,.cons q t=>.cons q (Vals.set r i t)
theorem Vals.append(h:Vals xs us)(s:Vals ys ws):Vals (xs ++ ys) (us ++ ws):=by
 induction h with
 | nil=>exact s
 | cons r t ih=>exact .cons r ih
theorem Vals.take:∀{xs:List V} {us:List pD} (n:Nat),Vals xs us->Vals (xs.take n) (us.take n)
 | _,_,0,_=>.nil
 | _,_,_+1,.nil=>.nil
 | _,_,n+1,.cons r t=>.cons r (Vals.take n t)
theorem Vals.drop:∀{xs:List V} {us:List pD} (n:Nat),Vals xs us->Vals (xs.drop n) (us.drop n)
 | _,_,0,r=>r
 | _,_,_+1,.nil=>.nil
 | _,_,n+1,.cons _ t=>Vals.drop n t
def RelO:Option V->Option pD->Prop
 | some v,tE u=>RelV v u
 | none,tF=>True
 | _,_=>False
def KV{κ:Type}:List (κ × V)->List (κ × pD)->Prop:=tw λ(p:κ × V) (q:κ × pD)=>p.1=q.1/\RelV p.2 q.2
def kV:Key->V
 | .inl i=>.int i
 | .inr x=>.str x
inductive HO where
  | lst (xs:List V)
  | tup (xs:List V)
  | dK (kvs:List (Key × V)) | dT (kvs:List (List Key × V))
  | set (S:Int->Bool) (n:Nat)
  | ins (C dx:pC) (fs:List (pG × V))
  | own (x:pC)
  | xd (fs:List (pG × V))
  | met (f x:pC)
  | rng (lo hi:Int)
  | frz (o:rH) (u:HO)
  | tbl (ps:Array pD)
  | ext (φ:pS->Prop)
abbrev Hp:=pC->Option HO
def upd(H:Hp)(a:pC)(o:HO):Hp:=λb=>if b=a then tE o else H b
def zb : upd H a o a=tE o:=by unfold upd;rw[z6 rfl]
def zm(h:b≠a):upd H a o b=H b:=by unfold upd;rw[z9 h]
def zD{H:Hp}(h:H a=tE o)(h':H b=tF):a≠b:=by intro e;subst e;rw[h]at h';cases h'
end
section
variable(P:pJ)(w:pR)
def ObjOk(H:Hp)(h:pS)(a:pC):HO->Prop
 | .lst xs=>xs.length<=pA/\∃(its:List pD) (n:Nat),Vals xs its/\h.get? a=tE { cls:=.type "list",data:=.seq its.toArray n }
 | .tup xs=>xs.length<=pA/\∃its:List pD,Vals xs its/\IsTup h a its.toArray
 | .dK kvs=>kvs.length<=pA/\(a == sysModules)=tH/\∃vs,KV kvs vs/\h.DictOf (Xz P w) a vs
 | .dT kvs=>kvs.length<=pA/\(a == sysModules)=tH/\∃xs:List (List Key × pC × pD),
   tw (λ(p:List Key × V) (q:List Key × pC × pD)=>p.1=q.1/\H q.2.1=tE (.tup (p.1.map kV))/\RelV p.2 q.2.2) kvs xs /\
   ∃o es ep,h.get? a=tE o/\o.ExactDict/\o.data=.dict es ep/\es.toList=xs.map (entryOfKey (tupleKind (Xz P w)))/\(xs.map (·.1)).Nodup
 | .set S n=>h.SetOf (intKind P w) a S n
 | .ins C dx fs=>H dx=tE (.own a)/\fs.length<=1000/\dx≠a/\h.get? a=tE (ce C dx) /\
   ∃mA,h.Ns1 dx mA/\(∀f,RelO (fs.lookup f) (mA f))/\PySem.Within mA (fs.map (·.1))
 | .own _=>∃o,h.get? a=tE o
 | .xd fs=>∃mA,h.Ns1 a mA/\∀f,RelO (fs.lookup f) (mA f)
 | .rng lo hi=>∃t u v,h.get? a=tE { cls:=.type "range",data:=.fields (u9 [.int lo t,.int hi u,.int 1 v]) }
 | .frz o u=>h.get? a=tE o/\ObjOk H h a u
 | .tbl ps=>h.get? a=tE { cls:=.none,data:=.fields ps }
 | .met f x=>h.get? a=tE (eQ (.ref f) (.ref x))
 | .ext φ=>φ h/\(∃o,h.get? a=tE o)/\∀h1 h2:pS,φ h1->(∀o,h1.get? a=tE o->h2.get? a=tE o)->φ h2
def HOk(H:Hp)(h:pS):Prop:=∀a o,H a=tE o->ObjOk P w H h a o
end
mutual section
theorem ObjOk.lt(x:ObjOk P w H h a o):a<h.objs.size:=by
 cases o with
 | lst xs=>let#[_,_,_,_,e]:=x;exact au e
 | tup xs=>let#[_,_,_,p]:=x;exact p.lt
 | dK kvs=>let#[_,_,_,_,o,_,_,e,_]:=x;exact au e
 | dT kvs=>let#[_,_,_,_,o,_,_,e,_]:=x;exact au e
 | set S n=>let#[o,_,_,_,e,_]:=x;exact au e
 | ins C dx fs=>let#[_,_,_,e,_]:=x;exact au e
 | own y=>let#[_,e]:=x;exact au e
 | xd fs=>let#[_,#[_,_,_,e,_],_]:=x;exact au e
 | rng lo hi=>let#[_,_,_,e]:=x;exact au e
 | frz ob u=>let#[e,_]:=x;exact au e
 | tbl ps=>exact au (show h.get? a=tE _ from x)
 | met f y=>exact au (show h.get? a=tE _ from x)
 | ext φ=>let#[_,#[_,e],_]:=x;exact au e
theorem Paired.mapP(h:tw F l₁ l₂)(f:∀a b,F a b->G a b):tw G l₁ l₂:=by
 induction h with
 | nil=>exact .nil
 | cons r t ih=>exact .cons (f _ _ r) ih
theorem ObjOk.stay(x:ObjOk P w H h a o)(k:∀b u,(b=a\/H b=tE (.own a))->h.get? b=tE u->h'.get? b=tE u)(ho:∀b,H b=tE (.own a)->H' b=tE (.own a)) (ht:∀b xs,H b=tE (.tup xs)->H' b=tE (.tup xs)):ObjOk P w H' h' a o:=by
 induction o with
 | lst xs=>let#[z,its,n,r,e]:=x;exact#[z,its,n,r,k _ _ (.inl rfl) e]
 | tup xs=>let#[z,its,r,ob,e,c]:=x;exact#[z,its,r,ob,k _ _ (.inl rfl) e,c]
 | dK kvs=>let#[z,y,vs,r,ob,es,ep,e,c]:=x;exact#[z,y,vs,r,ob,es,ep,k _ _ (.inl rfl) e,c]
 | dT kvs =>
  let#[z,y,xs,r,ob,es,ep,e,c]:=x;exact#[z,y,xs,Paired.mapP r λp q z=>#[z.1,ht _ _ z.2.1,z.2.2],ob,es,ep,k _ _ (.inl rfl) e,c]
 | set S n=>let#[ob,es,ep,t,e,c]:=x;exact#[ob,es,ep,t,k _ _ (.inl rfl) e,c]
 | ins C dx fs =>
  let#[d,z,ne,e,mA,#[od,es,ep,e2,c],r]:=x;exact#[ho _ d,z,ne,k _ _ (.inl rfl) e,mA,#[od,es,ep,k _ _ (.inr d) e2,c],r]
 | own y=>let#[ob,e]:=x;exact#[ob,k _ _ (.inl rfl) e]
 | xd fs=>let#[mA,#[od,es,ep,e,c],r]:=x;exact#[mA,#[od,es,ep,k _ _ (.inl rfl) e,c],r]
 | rng lo hi=>let#[t,u,v,e]:=x;exact#[t,u,v,k _ _ (.inl rfl) e]
 | frz ob u ih=>let#[e,q]:=x;exact#[k _ _ (.inl rfl) e,ih q]
 | tbl ps =>
  have e:h.get? a=tE { cls:=.none,data:=.fields ps }:=x;show h'.get? a=tE { cls:=.none,data:=.fields ps };exact k a _ (.inl rfl) e
 | met f y =>
  have e:h.get? a=tE (eQ (.ref f) (.ref y)):=x;show h'.get? a=tE (eQ (.ref f) (.ref y));exact k a _ (.inl rfl) e
 | ext φ=>let#[p,#[o,e],st]:=x;exact#[st _ _ p λo q=>k _ _ (.inl rfl) q,#[o,k _ _ (.inl rfl) e],st]
def HOk.lt(x:HOk P w H h)(e:H a=tE o):a<h.objs.size:=(x a o e).lt
theorem HOk.fresh(x:HOk P w H h)(e:h.objs.size<=a):H a=tF:=by
 cases q:H a with
 | none=>rfl
 | some u=>exact y9 (ao (x.lt q) e) (cw _)
def HOk.kept(x:HOk P w H h)(k:∀b u,h.get? b=tE u->h'.get? b=tE u):HOk P w H h':=λa o e =>
 (x a o e).stay (λb u Z q=>k b u q) (λZ q=>q) λZ Z q=>q
def HOk.laid(x:HOk P w H h)(k:∀b u,h.get? b=tE u->h'.get? b=tE u)(hp:h.objs.size<=a)(new:ObjOk P w (upd H a o) h' a o):HOk P w (upd H a o) h':=λb u e=>by
 have hn:=x.fresh hp;by_cases hb:b=a
 ·subst hb;rw[zb]at e;cases e;exact new
 ·rw[zm hb]at e;exact (x b u e).stay (λc v Z q=>k c v q) (λc q=>by rw[zm (zD q hn)];exact q) λc xs q=>by rw[zm (zD q hn)];exact q
def Rd(H:Hp)(a:pC)(u:HO):Prop:=H a=tE u\/∃o,H a=tE (.frz o u)
def Rd.ok(r:Rd H a u)(x:HOk P w H h):ObjOk P w H h a u:=by
 rcases r with r | ⟨o,r⟩
 ·exact x a u r
 ·let#[_,q]:=x a _ r;exact q
def Mut:Option HO->Prop
 | some (.lst _)=>True
 | some (.dK _)=>True
 | some (.dT _)=>True
 | some (.set _ _)=>True
 | some (.ins _ _ _)=>True
 | some (.ext _)=>True
 | _=>False
def HOk.write(ok:HOk P w H h)(mu:Mut (H x))(he:e=x\/H e=tE (.own x))(k:∀b u,b≠e->h.get? b=tE u->h'.get? b=tE u)(heo:∃u,h'.get? e=tE u)(new:ObjOk P w (upd H x o') h' x o'):HOk P w (upd H x o') h':=λb u q=>by
 have nown:∀c y,H c=tE (.own y)->c≠x:=λc y r z=>by subst z;rw[r]at mu;exact mu
 have ntup:∀c xs,H c=tE (.tup xs)->c≠x:=λc xs r z=>by subst z;rw[r]at mu;exact mu
 by_cases hb:b=x
 ·subst hb;rw[zb]at q;cases q;exact new
 ·rw[zm hb]at q;by_cases hbe:b=e
  ·have q':H b=tE (.own x):=by
    rcases he with z | z
    ·exact y9 (hbe.trans z) hb
    ·rw[hbe];exact z
   rw[q]at q';cases q';let#[v,hv]:=heo;exact#[v,by rw[hbe];exact hv]
  ·refine (ok b u q).stay (λc v hc r=>k c v ?_ r) (λc r=>by rw[zm (nown c b r)];exact r) λc xs r=>by rw[zm (ntup c xs r)];exact r
   rcases hc with rfl | hc
   ·exact hbe
   ·rintro rfl;rcases he with z | z
    ·exact nown c b hc z
    ·rw[hc]at z;cases z;exact hb rfl
structure Un(fs ex:List pC)(H H':Hp)(h h':pS):Prop where
 keep:∀b o,h.get? b=tE o->H b=tF->b ∉ fs->b ∉ ex->h'.get? b=tE o
 slot:∀b o,h.get? b=tE o->H b=tF->b ∈ fs->b ∉ ex->∃sl,h'.get? b=tE { o with slots:=sl }
 free:∀b o,h.get? b=tE o->H b=tF->b ∉ ex->H' b=tF
 there:∀b o,h.get? b=tE o->b ∉ ex->∃o',h'.get? b=tE o'
 tups:∀b xs,H b=tE (.tup xs)->H' b=tE (.tup xs)
 frzs:∀b o u,H b=tE (.frz o u)->H' b=tE (.frz o u)
 tbls:∀b ps,H b=tE (.tbl ps)->∃more,H' b=tE (.tbl (ps ++ more))
def Un.any(u:Un fs ex H H1 h h1)(q:h.get? b=tE ob)(n:H b=tF)(hx:b ∉ ex):∃sl,h1.get? b=tE { ob with slots:=sl }:=by
 by_cases hb:b ∈ fs
 ·exact u.slot b ob q n hb hx
 ·exact#[ob.slots,u.keep b ob q n hb hx]
def Un.kept(k:∀b u,h.get? b=tE u->h'.get? b=tE u):Un fs ex H H h h' :=
 #[λb ob q Z Z Z=>k b ob q,λb ob q Z Z Z=>#[ob.slots,k b ob q],λZ Z Z n Z=>n,λb ob q Z=>#[ob,k b ob q],λZ Z q=>q,λZ Z Z q=>q,λZ ps q=>#[#[],by rw[q];simp]]
def Un.refl:Un fs ex H H h h:=Un.kept λZ Z q=>q
def Un.laid(k:∀b u,h.get? b=tE u->h'.get? b=tE u)(hp:h.objs.size<=a)(hn:H a=tF):Un fs ex H (upd H a o) h h' where
 keep:=λb u q Z Z Z=>k b u q
 slot:=λb u q Z Z Z=>#[u.slots,k b u q]
 free:=λb u q n Z=>by rw[zm (ax (ao (au q) hp))];exact n
 there:=λb u q Z=>#[u,k b u q]
 tups:=λb xs q=>by rw[zm (zD q hn)];exact q
 frzs:=λb u xs q=>by rw[zm (zD q hn)];exact q
 tbls:=λb ps q=>#[#[],by rw[zm (zD q hn),q];simp]
def Un.write(mu:Mut (H x))(he:e=x\/H e=tE (.own x))(k:∀b u,b≠e->h.get? b=tE u->h'.get? b=tE u)(heo:∃u,h'.get? e=tE u):Un fs ex H (upd H x o) h h':=by
 have hx:∀b,H b=tF->b≠x:=λb n z=>by subst z;rw[n]at mu;exact mu
 have hb:∀b,H b=tF->b≠e:=λb n z=>by
  subst z;rcases he with r | r
  ·exact hx b n r
  ·rw[n]at r;cases r
 have hm:∀b u,H b=tE u->¬ Mut (tE u)->b≠x:=λb u q nm z=>by subst z;rw[q]at mu;exact nm mu
 refine#[λb u q n Z Z=>k b u (hb b n) q,λb u q n Z Z=>#[u.slots,k b u (hb b n) q],λb u q n Z=>by rw[zm (hx b n)];exact n,λb u q Z=>?_,
  λb xs q=>by rw[zm (hm b _ q λz=>z)];exact q,λb u xs q=>by rw[zm (hm b _ q λz=>z)];exact q,λb ps q=>#[#[],by rw[zm (hm b _ q λz=>z),q];simp]]
 by_cases hbe:b=e
 ·subst hbe;exact heo
 ·exact#[u,k b u hbe q]
def trk(h:pS)(H:Hp):List pC:=(aN h.objs.size).filter λa=>(H a).isSome
def V8(h:pS)(H:Hp):pS:=PySem.W.hideAll h (trk h H)
def Ui(h:pS)(H:Hp):(V8 h H).objs.size=h.objs.size:=PySem.W.hideAll_size _ _
def XZ(e:h.get? b=tE o)(n:H b=tF):(V8 h H).get? b=tE o :=
 PySem.W.hideAll_get _ e λhm=>by
  have q:(H b).isSome=tG:=(tT.mp hm).2;rw[n]at q;simp at q
theorem zaW(e:(V8 h H).get? b=tE o):h.get? b=tE o/\H b=tF:=by
 have e':h.get? b=tE o:=PySem.W.of_hideAll (trk h H) e;refine#[e',?_]
 cases q:H b with
 | none=>rfl
 | some x =>
  have hm:b ∈ trk h H:=tT.mpr #[tR.mpr (au e'),by simp [q]];have z:(V8 h H).get? b=tF:=PySem.W.hideAll_none (trk h H) hm;rw[z]at e;cases e
def zbx(g h:pS)(L:pC):List (pC × rH):=(aN h.objs.size).filterMap λa=>if a=L\/(g.get? a).isSome=tG then tF else (h.get? a).map λo=>(a,o)
def rest(g h:pS)(L d:pC):List (pC × rH):=(zbx g h L).filter λp=>decide (p.1≠d)
structure Mod(K:pB)(mg:pG->Option pD)(base:pS):Prop where
 kin:K.In base
 glob:base.Ns pj mg
 blt:∃mb,base.Ns builtinsNs mb/\∀x:pG,x≠"__name__"->mb x=pZ x
 nolimit:base.NoLimit
structure Cx where
 prog:pJ
 w:pR
 K:pB
 mg:pG->Option pD
 base:pS
 A:rh
 N:List pG
 s₀:pF
 H₀:Hp
 env:tm
 outer:List tm
 stack:List tm
 ex:List pC
 fn:pG->Bool
 calm:Bool
 pn:List (pC × rH)
 xe:pD->pF->Prop
def frs(l:List tm):List pC:=l.filterMap (·.frame)
abbrev Cx.fs(X:Cx):List pC:=frs X.outer
def Vis(sc:rY)(x:pG):Prop:=sc.names.lookup x=tE .local\/sc.names.lookup x=tE .cell\/sc.names.lookup x=tE .free
def Loc(sc:rY)(x:pG):Prop:=sc.names.lookup x=tE .local\/sc.names.lookup x=tE .cell
def zgM(env:tm)(h:pS)(m:pG->Option pD)(x:pG)(u:pD):Prop :=
 (env.kindOf x=tE .local/\m x=tE u)\/((env.kindOf x=tE .cell\/env.kindOf x=tE .free)/\∃c,env.cells.lookup x=tE c/\h.IsCell c (tE u))
structure Cx.Ok(X:Cx):Prop where
 mod:Mod X.K X.mg X.base
 kind:X.env.scope.kind=.function
 glob:X.env.globals=pj
 blt:X.env.builtins=builtinsNs
 above:X.s₀.heap.objs.size<=X.env.locals
 inj:∀x y c,X.env.cells.lookup x=tE c->X.env.cells.lookup y=tE c->x=y
 has:∀x,(X.env.kindOf x=tE .cell\/X.env.kindOf x=tE .free)->∃c,X.env.cells.lookup x=tE c
 cab:∀x c,X.fn x=tG->X.env.cells.lookup x=tE c->X.s₀.heap.objs.size<=c
 hd:X.calm=tG->X.A.handled=tF
 frames:X.A.frames=tE X.stack
 stk:X.stack=X.outer\/(X.stack=X.env::X.outer/\X.env.frame=tE X.env.locals)
 exf:∀b ∈ X.ex,b≠X.env.locals/\∀x c,X.env.cells.lookup x=tE c->c≠b
 bs:∀b o,X.base.get? b=tE o->X.s₀.heap.get? b=tE o/\X.H₀ b=tF
 bsz:X.base.objs.size<=X.s₀.heap.objs.size
 noex:∀b o,X.base.get? b=tE o->b ∉ X.ex
 exfs:∀b ∈ X.ex,b ∉ X.fs
 funs:X.s₀.heap.FunFrames X.base X.outer
 frf:∀b ∈ X.fs,X.H₀ b=tF
structure Inv(X:Cx)(tI:List (pC × rH))(σ:List (Option V))(H:Hp)(s:pF):Prop where
 ok:X.Ok
 os:s.os=X.s₀.os
 bare:rU s.gens
 base:Un X.fs X.ex X.H₀ H X.s₀.heap s.heap
 loc:∃m,s.heap.Ns X.env.locals m/\∀(i:Nat) (x:pG) (v:V),X.N[i]? = tE x->σ[i]? = tE (tE v)->Vis X.env.scope x->∃u,RelV v u/\zgM X.env s.heap m x u
 cell:∀x c,X.env.cells.lookup x=tE c->∃v,s.heap.IsCell c v
 free:H X.env.locals=tF
 freeC:∀x c,X.env.cells.lookup x=tE c->H c=tF
 pin:∀p ∈ X.pn ++ tI,s.heap.get? p.1=tE p.2/\H p.1=tF/\p.1≠X.env.locals/\p.1 ∉ X.fs/\∀v,p.2.data≠.cell v
 hok:HOk X.prog X.w H s.heap
 len:σ.length=X.N.length
def Cx.Ok.nofr{X:Cx}(ok:X.Ok)(e:X.base.get? b=tE o):b ∉ X.fs:=λhb=>by
 have:=(ok.funs.mem hb).1;rw[e]at this;cases this
def Inv.bs(I:Inv X tI σ H s):∀b o,X.base.get? b=tE o->s.heap.get? b=tE o/\H b=tF:=λb o e =>
 #[I.base.keep b o (I.ok.bs b o e).1 (I.ok.bs b o e).2 (I.ok.nofr e) (I.ok.noex b o e),I.base.free b o (I.ok.bs b o e).1 (I.ok.bs b o e).2 (I.ok.noex b o e)]
def Inv.bk(I:Inv X tI σ H s):∀b o,X.base.get? b=tE o->s.heap.get? b=tE o:=λb o e=>(I.bs b o e).1
def Inv.mod(I:Inv X tI σ H s):Mod X.K X.mg X.base:=I.ok.mod
def Inv.kIn(I:Inv X tI σ H s):X.K.In s.heap:=I.ok.mod.kin.keeps I.bk
def Inv.nolimit(I:Inv X tI σ H s):s.heap.NoLimit:=I.ok.mod.nolimit.keeps I.bk
def Inv.fr(I:Inv X tI σ H s):∃m,Fr X.base X.env.locals s.heap m :=
 let #[m,hn,_]:=I.loc
 #[m,hn,I.bk,aG I.ok.bsz I.ok.above]
def Inv.lt(I:Inv X tI σ H s):X.env.locals<s⁻¹:=let #[_,hn,_]:=I.loc;hn.lt
def Inv.sz(I:Inv X tI σ H s):X.s₀.heap.objs.size<=s⁻¹:=aG I.ok.above (cf I.lt)
def Inv.nofs(I:Inv X tI σ H s)(h:s⁻¹<=a):a ∉ X.fs:=λhb=>by
 let#[_,o,ho,_]:=I.ok.funs.mem hb;exact y9 (ao (au ho) (aG I.sz h)) (cw _)
def Inv.cne(I:Inv X tI σ H s):∀x c,X.env.cells.lookup x=tE c->c≠X.env.locals:=λx c e z=>by
 let#[v,o,ho,hd]:=I.cell x c e;let#[m,#[o',es,ep,ho',hd',_],_]:=I.loc;rw[z,ho']at ho;cases ho;rw[hd']at hd;cases hd
def Inv.funs(I:Inv X tI σ H s):s.heap.FunFrames X.base X.outer:=by
 have all:∀(l:List tm),(∀b ∈ frs l,b ∈ X.fs)->X.s₀.heap.FunFrames X.base l->s.heap.FunFrames X.base l:=by
  intro l
  induction l with
  | nil=>intro _ _;trivial
  | cons env r ih =>
   intro hs hl;let#[hk,#[L,o,hf,hn,ho,hd],hr]:=hl;have hL:L ∈ X.fs:=hs L (by unfold frs;rw[et,hf];exact az);let#[sl,e]:=I.base.slot L o ho (I.ok.frf L hL) hL λz=>I.ok.exfs L z hL;exact#[hk,#[L,_,hf,hn,e,hd],ih (λb hb=>hs b (by unfold frs;rw[et,hf];exact av _ hb)) hr]
 exact all X.outer (λZ hb=>hb) I.ok.funs
def Inv.stack(I:Inv X tI σ H s):s.heap.FunFrames X.base X.stack:=by
 rcases I.ok.stk with e | ⟨e,hf⟩
 ·rw[e];exact I.funs
 ·rw[e];let#[m,hn,_]:=I.loc;refine .cons (by rw[I.ok.kind];decide) hf hn ?_ I.funs;exact Heap.get?_none_of_le (aG I.ok.bsz I.ok.above)
def Inv.stkSub(I:Inv X tI σ H s):∀b ∈ frs X.stack,b ∈ X.env.locals::X.fs:=λb hb=>by
 rcases I.ok.stk with e | ⟨e,hf⟩
 ·rw[e]at hb;exact av _ hb
 ·rw[e]at hb;unfold frs at hb;rw[et,hf]at hb;exact hb
def Inv.stkFree(I:Inv X tI σ H s):∀b ∈ frs X.stack,H b=tF:=λb hb=>by
 rcases tN.mp (I.stkSub b hb)with e | hb
 ·rw[e];exact I.free
 ·let#[_,o,ho,_]:=I.ok.funs.mem hb;exact I.base.free b o ho (I.ok.frf b hb) λz=>I.ok.exfs b z hb
def Inv.step{ch:List pC}(I:Inv X tI σ H s)(hch:∀b ∈ ch,(b ∈ X.ex\/X.s₀.heap.objs.size<=b)/\b≠X.env.locals/\(∀x c,X.env.cells.lookup x=tE c->c≠b)/\∀p ∈ X.pn ++ tI,p.1≠b)(keep:∀b o,b≠X.env.locals->b ∉ X.fs->b ∉ ch->s.heap.get? b=tE o->H b=tF->h'.get? b=tE o)(slot:∀b o,b≠X.env.locals->b ∈ X.fs->b ∉ ch->s.heap.get? b=tE o->H b=tF->∃sl,h'.get? b=tE { o with slots:=sl })(free:∀b o,b ∉ ch->s.heap.get? b=tE o->H b=tF->H' b=tF)(there:∀b o,b ∉ ch->s.heap.get? b=tE o->∃o',h'.get? b=tE o')(tups:∀b xs,H b=tE (.tup xs)->H' b=tE (.tup xs))(frzs:∀b o u,H b=tE (.frz o u)->H' b=tE (.frz o u))(tbls:∀b ps,H b=tE (.tbl ps)->∃more,H' b=tE (.tbl (ps ++ more)))(ns:∀m,s.heap.Ns X.env.locals m->h'.Ns X.env.locals m)(hok:HOk X.prog X.w H' h')(hg:rU g') :
  Inv X tI σ H' { s with heap:=h',gens:=g',drawn:=d',toks:=t' }:=by
 have neL:∀b o,X.s₀.heap.get? b=tE o->b≠X.env.locals:=λb o e=>ax (ao (au e) I.ok.above)
 have neC:∀b o,X.s₀.heap.get? b=tE o->b ∉ X.ex->b ∉ ch:=λb o e hx hb=>by
  rcases (hch b hb).1 with z | z
  ·exact hx z
  ·exact y9 (ao (au e) z) (cw _)
 have cellK:∀x c,X.env.cells.lookup x=tE c->∀v,s.heap.IsCell c v->h'.IsCell c v:=λx c e v ⟨o,ho,hd⟩=>by
  have nch:c ∉ ch:=λz=>(hch c z).2.2.1 x c e rfl;by_cases hc:c ∈ X.fs
  ·let#[sl,q]:=slot c o (I.cne x c e) hc nch ho (I.freeC x c e);exact#[_,q,hd]
  ·exact#[o,keep c o (I.cne x c e) hc nch ho (I.freeC x c e),hd]
 refine#[I.ok,I.os,hg,#[λb o e n hb hx=>?_,λb o e n hb hx=>?_,λb o e n hx=>?_,λb o e hx=>?_,λb xs e=>tups b xs (I.base.tups b xs e),λb o xs e=>frzs b o xs (I.base.frzs b o xs e),λb ps e=>?_],?_,λx c e=>?_,?_,λx c e=>?_,λp hp=>?_,hok,I.len]
 ·exact keep b o (neL b o e) hb (neC b o e hx) (I.base.keep b o e n hb hx) (I.base.free b o e n hx)
 ·let#[sl,e1]:=I.base.slot b o e n hb hx;let#[sl',e2]:=slot b _ (neL b o e) hb (neC b o e hx) e1 (I.base.free b o e n hx);exact#[sl',e2]
 ·let#[o',e1]:=I.base.there b o e hx;exact free b o' (neC b o e hx) e1 (I.base.free b o e n hx)
 ·let#[o',e1]:=I.base.there b o e hx;exact there b o' (neC b o e hx) e1
 ·let#[m1,e1]:=I.base.tbls b ps e;let#[m2,e2]:=tbls b _ e1;exact#[m1 ++ m2,by rw[e2,Array.append_assoc]]
 ·let#[m,hn,hl]:=I.loc;refine#[m,ns m hn,λi x v e1 e2 e3=>?_];let#[u,r,l]:=hl i x v e1 e2 e3;refine#[u,r,?_];rcases l with l | ⟨k,c,e,z⟩
  ·exact .inl l
  ·exact .inr #[k,c,e,cellK x c e _ z]
 ·let#[v,z]:=I.cell x c e;exact#[v,cellK x c e v z]
 ·let#[m,#[o,_,_,ho,_],_]:=I.loc;exact free _ o (λz=>(hch _ z).2.1 rfl) ho I.free
 ·let#[v,o,ho,hd]:=I.cell x c e;exact free c o (λz=>(hch c z).2.2.1 x c e rfl) ho (I.freeC x c e)
 ·let#[e,n,ne,nf,d]:=I.pin p hp;have nch:p.1 ∉ ch:=λz=>(hch p.1 z).2.2.2 p hp rfl;exact#[keep p.1 p.2 ne nf nch e n,free p.1 p.2 nch e n,ne,nf,d]
def Inv.un(I:Inv X tI σ H s)(u:Un X.fs [] H H' s.heap h')(hok:HOk X.prog X.w H' h'):Inv X tI σ H' { s with heap:=h',toks:=t' }:=by
 let#[m,#[o,es,ep,ho,r],_]:=id I.loc;let#[sl,hL]:=u.any ho I.free (by simp)
 exact I.step (g':=s.gens) (d':=s.drawn) (ch:=[]) (λZ z=>nomatch z) (λb o Z hb Z e n=>u.keep b o e n hb (by simp)) (λb o Z hb Z e n=>u.slot b o e n hb (by simp)) (λb o Z e n=>u.free b o e n (by simp)) (λb o Z e=>u.there b o e (by simp)) u.tups u.frzs u.tbls (λm' hm=>by
  let#[o',es',ep',ho',r']:=hm;rw[ho]at ho';cases ho'
  exact#[_,es',ep',hL,r']) hok I.bare
def Inv.call(I:Inv X tI σ H s)(u:Un (frs X.stack) ch H H' s.heap h')(hok:HOk X.prog X.w H' h')(hg:rU g')(hch:∀b ∈ ch,(b ∈ X.ex\/X.s₀.heap.objs.size<=b)/\b≠X.env.locals/\(∀x c,X.env.cells.lookup x=tE c->c≠b)/\∀p ∈ X.pn ++ tI,p.1≠b) :
  Inv X tI σ H' { s with heap:=h',gens:=g',drawn:=d',toks:=t' }:=by
 let#[m,#[o,es,ep,ho,r],_]:=id I.loc;let#[sl,hL]:=u.any ho I.free λz=>(hch _ z).2.1 rfl
 exact I.step (ch:=ch) hch (λb o hL hb hc e n=>u.keep b o e n (λz=>(tN.mp (I.stkSub b z)).elim hL hb) hc) (λb o Z Z hc e n=>u.any e n hc) (λb o hc e n=>u.free b o e n hc) (λb o hc e=>u.there b o e hc) u.tups u.frzs u.tbls (λm' hm=>by
  let#[o',es',ep',ho',r']:=hm;rw[ho]at ho';cases ho'
  exact#[_,es',ep',hL,r']) hok hg
def Inv.turned(I:Inv X tI σ H s)(k:∀b o,b≠it->s.heap.get? b=tE o->h'.get? b=tE o)(hn:H it=tF)(hL:it≠X.env.locals)(h1:it ∈ X.ex\/X.s₀.heap.objs.size<=it)(h2:∀x c,X.env.cells.lookup x=tE c->c≠it)(h3:∀p ∈ X.pn ++ tI,p.1≠it):Inv X tI σ H { s with heap:=h',toks:=t' }:=by
 have nit:∀b u,H b=tE u->b≠it:=λb u e z=>by rw[z,hn]at e;cases e
 refine I.step (g':=s.gens) (d':=s.drawn) (ch:=[it]) (λb hb=>?_) (λb o Z Z hc e Z=>k b o (λz=>hc (by simp [z])) e) (λb o Z Z hc e Z=>#[o.slots,k b o (λz=>hc (by simp [z])) e]) (λZ Z Z Z n=>n)
  (λb o hc e=>#[o,k b o (λz=>hc (by simp [z])) e]) (λZ Z e=>e) (λZ Z Z e=>e) (λb ps e=>#[#[],by rw[e];simp]) (λm hm=>?_) (λb u e=>?_) I.bare
 ·have e:b=it:=by simpa using hb
  subst e;exact#[h1,hL,h2,h3]
 ·let#[o,es,ep,ho,r]:=hm;exact#[o,es,ep,k _ o (Ne.symm hL) ho,r]
 ·refine (I.hok b u e).stay (λc v hc q=>k c v ?_ q) (λZ q=>q) λZ Z q=>q;rcases hc with z | z
  ·rw[z];exact nit b u e
  ·exact nit c _ z
def Inv.tok(I:Inv X tI σ H s)(t:Nat):Inv X tI σ H { s with toks:=t }:=I.un (h':=s.heap) (t':=t) Un.refl I.hok
def Inv.kept(I:Inv X tI σ H s)(k:∀b u,s.heap.get? b=tE u->h'.get? b=tE u):Inv X tI σ H { s with heap:=h',toks:=t' }:=I.un (Un.kept k) (I.hok.kept k)
def Inv.laid(I:Inv X tI σ H s)(k:∀b u,s.heap.get? b=tE u->h'.get? b=tE u)(hp:s⁻¹<=a)(new:ObjOk X.prog X.w (upd H a o) h' a o) :
  Inv X tI σ (upd H a o) { s with heap:=h',toks:=t' }:=I.un (Un.laid k hp (I.hok.fresh hp)) (I.hok.laid k hp new)
def Inv.write(I:Inv X tI σ H s)(mu:Mut (H x))(he:e=x\/H e=tE (.own x))(k:∀b u,b≠e->s.heap.get? b=tE u->h'.get? b=tE u)(heo:∃u,h'.get? e=tE u)(new:ObjOk X.prog X.w (upd H x o) h' x o):Inv X tI σ (upd H x o) { s with heap:=h',toks:=t' }:=I.un (Un.write mu he k heo) (I.hok.write mu he k heo new)
def Inv.weak(I:Inv X tI σ H s)(hl:σ'.length=σ.length)(w:∀(i:Nat) v,σ'[i]? = tE (tE v)->σ[i]? = tE (tE v)):Inv X tI σ' H s :=
 #[I.ok,I.os,I.bare,I.base,let #[m,hn,hl']:=I.loc; #[m,hn,λi x v e1 e2 e3=>hl' i x v e1 (w i v e2) e3],I.cell,I.free,I.freeC,I.pin,I.hok,hl.trans I.len]
def Inv.pins_of(I:Inv X tI σ H s)(h:∀p ∈ pins',s.heap.get? p.1=tE p.2/\H p.1=tF/\p.1≠X.env.locals/\p.1 ∉ X.fs/\∀v,p.2.data≠.cell v):Inv X pins' σ H s :=
 #[I.ok,I.os,I.bare,I.base,I.loc,I.cell,I.free,I.freeC,λp hp=>(tO.mp hp).elim (λz=>I.pin p (bF _ z)) (h p),I.hok,I.len]
def ZB{N:List pG}(hN:N.Nodup){i j:Nat}(a:N[i]? = tE x)(b:N[j]? = tE x):i=j:=by let#[h1,e1]:=tL.mp a;let#[h2,e2]:=tL.mp b;exact (List.getElem_inj hN).mp (e1.trans e2.symm)
def Z8(I:Inv X tI σ H s)(hN:X.N.Nodup)(hi:X.N[i]? = tE x)(hx:Loc X.env.scope x)(r:RelV v u)(h:∀s',Inv X tI (σ.set i (tE v)) H s'->(∃a,Heap.SameBut a s.heap s'.heap/\(a=X.env.locals\/X.env.cells.lookup x=tE a))->Q Unit.unit s')(hf:‹X.fn x=tG\/X.env.scope.names.lookup x=tE .local›):pE M A (storeName X.env x u) Q E s:=by
 let#[m,hn,hl]:=id I.loc;have hcls:(X.env.scope.kind == .class || (X.env.scope.kind == .module && X.env.locals != X.env.globals))=tH:=by rw[I.ok.kind];rfl
 have hiσ:i<σ.length:=by rw[I.len];exact (tL.mp hi).1
 have cne:=I.cne
 have tracked:∀{a:pC} {h':pS},(∃o,s.heap.get? a=tE o/\H a=tF)->Heap.SameBut a s.heap h'->HOk X.prog X.w H h':=λ{a h'} ha hs b ob e=>by
  let#[_,_,hfree]:=ha;refine (I.hok b ob e).stay (λc w' hc q=>(hs.2 c ?_).trans q) (λZ q=>q) λZ Z q=>q;rintro rfl;rcases hc with rfl | hc
  ·rw[hfree]at e;cases e
  ·rw[hfree]at hc;cases hc
 rcases hx with hk | hk
 ·refine wpAny_storeName_local hk hn (λh' hn' hs=>?_) hcls;let#[oL,_,_,hoL,_]:=id hn;refine h _ #[I.ok,I.os,I.bare,#[λb o e n hb hx=>?_,λb o e n hb hx=>?_,I.base.free,λb o e hx=>?_,I.base.tups,I.base.frzs,I.base.tbls],#[_,hn',λj y v' e1 e2 e3=>?_],λy c e=>?_,I.free,I.freeC,λp hp=>?_,tracked #[oL,hoL,I.free] hs,by simpa using I.len] #[_,hs,.inl rfl]
  ·exact (hs.2 b (ax (ao (au e) I.ok.above))).trans (I.base.keep b o e n hb hx)
  ·let#[sl,e1]:=I.base.slot b o e n hb hx;exact#[sl,(hs.2 b (ax (ao (au e) I.ok.above))).trans e1]
  ·let#[o',e1]:=I.base.there b o e hx;exact#[o',(hs.2 b (ax (ao (au e) I.ok.above))).trans e1]
  ·by_cases hj:j=i
   ·subst hj;rw[hi]at e1;cases e1;rw[dQ hiσ]at e2;cases e2;exact#[u,r,.inl #[hk,by simp]]
   ·rw[d6 (Ne.symm hj)]at e2;let#[u',r',q]:=hl j y v' e1 e2 e3;refine#[u',r',?_];rcases q with ⟨k,e⟩ | ⟨k,c,e,z⟩
    ·refine .inl #[k,?_];have:y≠x:=λe=>hj (ZB hN e1 (e ▸ hi));simp [this,e]
    ·exact .inr #[k,c,e,z.sameBut hs (cne y c e)]
  ·let#[w',z]:=I.cell y c e;exact#[w',z.sameBut hs (cne y c e)]
  ·let#[e,n,ne,nf,d]:=I.pin p hp;exact#[(hs.2 p.1 ne).trans e,n,ne,nf,d]
 ·have hfn:X.fn x=tG:=by
   rcases hf with z | z
   ·exact z
   ·rw[z]at hk;cases hk
  let#[c,hc]:=I.ok.has x (.inl hk);let#[w',z]:=I.cell x c hc;refine wpAny_storeName_cell I.ok.kind hk hc z (λh' hc' hs=>?_);let#[oc,hoc,hocd]:=id z;refine h { s with heap:=h' } #[I.ok,I.os,I.bare,#[λb o e n hb hx=>?_,λb o e n hb hx=>?_,I.base.free,λb o e hx=>?_,I.base.tups,I.base.frzs,I.base.tbls],#[m,hn.sameBut hs (Ne.symm (cne x c hc)),λj y v' e1 e2 e3=>?_],λy c' e=>?_,I.free,I.freeC,λp hp=>?_,tracked #[oc,hoc,I.freeC x c hc] hs,by simpa using I.len] #[c,hs,.inr hc]
  ·exact (hs.2 b (ax (ao (au e) (I.ok.cab x c hfn hc)))).trans (I.base.keep b o e n hb hx)
  ·let#[sl,e1]:=I.base.slot b o e n hb hx;exact#[sl,(hs.2 b (ax (ao (au e) (I.ok.cab x c hfn hc)))).trans e1]
  ·let#[o',e1]:=I.base.there b o e hx;exact#[o',(hs.2 b (ax (ao (au e) (I.ok.cab x c hfn hc)))).trans e1]
  ·by_cases hj:j=i
   ·subst hj;rw[hi]at e1;cases e1;rw[dQ hiσ]at e2;cases e2;exact#[u,r,.inr #[.inl hk,c,hc,hc']]
   ·rw[d6 (Ne.symm hj)]at e2;let#[u',r',q]:=hl j y v' e1 e2 e3;refine#[u',r',?_];rcases q with q | ⟨k,c',e,z'⟩
    ·exact .inl q
    ·refine .inr #[k,c',e,z'.sameBut hs ?_];rintro rfl;exact hj (ZB hN e1 (I.ok.inj _ _ _ e hc ▸ hi))
  ·by_cases hcc:c'=c
   ·subst hcc;exact#[_,hc']
   ·let#[w2,z2]:=I.cell y c' e;exact#[w2,z2.sameBut hs hcc]
  ·let#[e,n,ne,nf,d]:=I.pin p hp;refine#[(hs.2 p.1 ?_).trans e,n,ne,nf,d];intro q;rw[q,hoc]at e;have q':oc=p.2:=Option.some.inj e;exact d w' (by rw[<- q'];exact hocd)
def uh(I:Inv X tI σ H s)(hN:X.N.Nodup)(hi:X.N[i]? = tE x)(hx:Loc X.env.scope x)(r:RelV v u)(h:∀s',Inv X tI (σ.set i (tE v)) H s'->Q Unit.unit s')(hf:‹X.fn x=tG\/X.env.scope.names.lookup x=tE .local›):pE M A (storeName X.env x u) Q E s :=
 Z8 I hN hi hx r (λs' I' Z=>h s' I') hf
def Inv.call'(I:Inv X tI σ H s)(ho:s'.os=s.os)(u:Un (frs X.stack) ch H H' s.heap s'.heap)(hok:HOk X.prog X.w H' s'.heap)(hg:rU s'.gens)(hch:∀b ∈ ch,(b ∈ X.ex\/X.s₀.heap.objs.size<=b)/\b≠X.env.locals/\(∀x c,X.env.cells.lookup x=tE c->c≠b)/\∀p ∈ X.pn ++ tI,p.1≠b):Inv X tI σ H' s':=by let#[h',g',d',t',o']:=s';have e:o'=s.os:=ho;subst e;exact I.call (g':=g') (t':=t') (d':=d') u hok hg hch
abbrev XK:=pD->Option pC->Hp->Prop
abbrev St:=List (Option V)
abbrev VK:=V->Hp->Prop
abbrev TE:=St->Hp->VK->Prop
abbrev TT:=St->Hp->(Bool->Hp->Prop)->Prop
abbrev TA:=St->Hp->(List V->Hp->Prop)->Prop
structure ZH where
 nx:St->Hp->Prop
 rt:VK
 bk:St->Hp->Prop:=λZ Z=>False
 ct:St->Hp->Prop:=λZ Z=>False
abbrev TS:=ZH->St->Hp->Prop
def EP(X:Cx)(tI:List (pC × rH))(σ:St)(Q:VK)(u:pD)(s':pF):Prop:=∃v H',Inv X tI σ H' s'/\RelV v u/\Q v H'
def TP(X:Cx)(tI:List (pC × rH))(σ:St)(Q:Bool->Hp->Prop)(b:Bool)(s':pF):Prop:=∃H',Inv X tI σ H' s'/\Q b H'
def AP(X:Cx)(tI:List (pC × rH))(σ:St)(Q:List V->Hp->Prop)(us:List pD)(s':pF):Prop:=∃vs H',Inv X tI σ H' s'/\Vals vs us/\Q vs H'
def SP(X:Cx)(tI:List (pC × rH))(D:ZH)(f:Flow)(s':pF):Prop :=
 match f with
 | .next=>∃σ' H',Inv X tI σ' H' s'/\D.nx σ' H'
 | .brk=>∃σ' H',Inv X tI σ' H' s'/\D.bk σ' H'
 | .cont=>∃σ' H',Inv X tI σ' H' s'/\D.ct σ' H'
 | .ret u=>∃v σ' H',Inv X tI σ' H' s'/\RelV v u/\D.rt v H'
def PE(X:Cx)(e:rF)(t:TE):Prop :=
 ∀(tI:List (pC × rH)) (s:pF) (σ:St) (H:Hp) (Q:VK),Inv X tI σ H s->t σ H Q->pE (model X.prog X.w) X.A (eval e X.env) (EP X tI σ Q) X.xe s
def PT(X:Cx)(e:rF)(t:TT):Prop :=
 ∀(tI:List (pC × rH)) (s:pF) (σ:St) (H:Hp) (Q:Bool->Hp->Prop),Inv X tI σ H s->t σ H Q->pE (model X.prog X.w) X.A (isTrue e X.env (eval e X.env)) (TP X tI σ Q) X.xe s
def PW(X:Cx)(e:rF)(t:TT):Prop :=
 ∀(whole:Sem pD) (tI:List (pC × rH)) (s:pF) (σ:St) (H:Hp) (Q:Bool->Hp->Prop),Inv X tI σ H s->t σ H Q->pE (model X.prog X.w) X.A (isTrue e X.env whole) (TP X tI σ Q) X.xe s
def PW.pt(h:PW X e t):PT X e t:=h _
def PA(X:Cx)(es:List rF)(t:TA):Prop :=
 ∀(pos:tB) (tI:List (pC × rH)) (s:pF) (σ:St) (H:Hp) (Q:List V->Hp->Prop),Inv X tI σ H s->t σ H Q->pE (model X.prog X.w) X.A (spliced (pQ pos (pq es X.env))) (AP X tI σ Q) X.xe s
def PS(X:Cx)(st:pN)(t:TS):Prop :=
 ∀(tI:List (pC × rH)) (s:pF) (σ:St) (H:Hp) (D:ZH),Inv X tI σ H s->t D σ H->pE (model X.prog X.w) X.A (exec st X.env) (SP X tI D) X.xe s
def PSs(X:Cx)(st:List pN)(t:TS):Prop :=
 ∀(tI:List (pC × rH)) (s:pF) (σ:St) (H:Hp) (D:ZH),Inv X tI σ H s->t D σ H->pE (model X.prog X.w) X.A (execs st X.env) (SP X tI D) X.xe s
def thn(h:pE M A t Q E s)(hQ:∀a s,Q a s->Q' a s):pE M A t Q' E s:=rq h hQ λZ Z x=>x
def el5{α β:Type}{a b c:α->β->Prop}{C:Prop}(f:∀x y,a x y->b x y->c x y->C):(∃x y,a x y/\b x y/\c x y)->C:=λh=>Exists.elim h λx h=>Exists.elim h λy h=>f x y h.1 h.2.1 h.2.2
def el3{α:Type}{a b:α->Prop}{C:Prop}(f:∀x,a x->b x->C):(∃x,a x/\b x)->C:=λh=>Exists.elim h λx h=>f x h.1 h.2
def ua2{a b C:Prop}(f:a->b->C):a/\b->C:=λh=>f h.1 h.2
end
section
mutual section
variable{X:Cx}
def onSl(σ:St)(i:Nat)(p:V->Prop):Prop:=match σ[i]? with | some (tE v)=>p v | _=>False
theorem onSl.of(h:onSl σ i p):∃v,σ[i]? = tE (tE v)/\p v:=by
 unfold onSl at h;split at h
 ·exact#[_,by assumption,h]
 ·exact h.elim
def onInt(x:V)(p:Int->Prop):Prop:=match x with | .int k=>p k | _=>False
def onInt.of(h:onInt x p):∃k,x=.int k/\p k:=by cases x <;> first | exact#[_,rfl,h] | exact h.elim
def onInt.to(h:∃k,x=.int k/\p k):onInt x p:=by let#[k,rfl,h]:=h;exact h
def onStr(x:V)(p:pG->Prop):Prop:=match x with | .str k=>p k | _=>False
def onStr.of(h:onStr x p):∃k,x=.str k/\p k:=by cases x <;> first | exact#[_,rfl,h] | exact h.elim
def onStr.to(h:∃k,x=.str k/\p k):onStr x p:=by let#[k,rfl,h]:=h;exact h
def onBl(x:V)(p:Bool->Prop):Prop:=match x with | .bl k=>p k | _=>False
def onBl.of(h:onBl x p):∃k,x=.bl k/\p k:=by cases x <;> first | exact#[_,rfl,h] | exact h.elim
def onBl.to(h:∃k,x=.bl k/\p k):onBl x p:=by let#[k,rfl,h]:=h;exact h
def onRef(x:V)(p:pC->Prop):Prop:=match x with | .ref k=>p k | _=>False
def onRef.of(h:onRef x p):∃k,x=.ref k/\p k:=by cases x <;> first | exact#[_,rfl,h] | exact h.elim
def onRef.to(h:∃k,x=.ref k/\p k):onRef x p:=by let#[k,rfl,h]:=h;exact h
def z7(i:Nat):TE:=λσ H Q=>onSl σ i λv=>Q v H
def tC(v:V):TE:=λZ H Q=>Q v H
def zd0(hN:X.N[i]? = tE x)(hv:Vis X.env.scope x)(hd:‹(x ==("__debug__" : pG))=tH›)(hcd:‹(x ==("__classdict__" : pG))=tH›):PE X (.Name x pos) (z7 i):=by
 intros Q I h;let#[v,e,h]:=onSl.of h;let#[m,hn,hl]:=I.loc;let#[u,r,l]:=hl i x v hN e hv;have fin:EP X tI σ Q u s:=#[v,H,I,r,h];rcases l with ⟨hk,hm⟩ | ⟨hk,c,hc,hcell⟩
 ·exact tj (wpAny_loadName_local I.ok.kind hk hn hm fin) hd
 ·rcases hk with hk | hk
  ·exact tj (wpAny_loadName_cell I.ok.kind hk hc hcell fin) hd
  ·exact tj (wpAny_loadName_free I.ok.kind hk hc hcell fin hcd) hd
def ze{i j pos}:PE X (.Constant (.int i) j pos) (tC (.int i)):=λZ Z Z H Z I h=>wpAny_Constant_int #[.int i,H,I.tok _,#[_,rfl],h]
def yA{b j pos}:PE X (.Constant (.bool b) j pos) (tC (.bl b)):=λZ Z Z H Z I h=>Constant_bool #[.bl b,H,I,rfl,h]
def xj{j pos}:PE X (.Constant .none j pos) (tC .non):=λZ Z Z H Z I h=>Constant_none #[.non,H,I,rfl,h]
def zO{x j pos}:PE X (.Constant (.str x) j pos) (tC (.str x)):=λZ Z Z H Z I h=>Calls.Constant_str #[.str x,H,I.tok _,#[_,rfl],h]
def Gl(X:Cx)(x:pG):Prop:=X.env.kindOf x=tE .globalImplicit
def wS(I:Inv X tI σ H s)(hg:Gl X x)(hm:X.mg x=tE u)(h:Q u s)(hd:‹(x ==("__debug__" : pG))=tH›):pE (model X.prog X.w) X.A (eval (.Name x pos) X.env) Q E s :=
 Calls.Name_function_global I.ok.kind hg (Calls.loadGlobal_global (by rw[I.ok.glob];exact I.mod.glob.keeps I.bk) hm h) hd
def vC(I:Inv X tI σ H s)(hg:Gl X x)(hm:X.mg x=tF)(hv:pZ x=tE u)(h:Q u s)(hn:‹x≠"__name__"›)(hd:‹(x ==("__debug__" : pG))=tH›):pE (model X.prog X.w) X.A (eval (.Name x pos) X.env) Q E s:=by let#[mb,h1,h2]:=I.mod.blt;exact Calls.Name_function_global I.ok.kind hg (Calls.loadGlobal_builtin (by rw[I.ok.glob];exact I.mod.glob.keeps I.bk) hm (by rw[I.ok.blt];exact h1.keeps I.bk) ((h2 x hn).trans hv) h) hd
def yT(hg:Gl X x)(hm:X.mg x=tE u)(r:RelV v u)(hd:‹(x ==("__debug__" : pG))=tH›):PE X (.Name x pos) (tC v) :=
 λZ Z Z H Z I h=>wS I hg hm #[v,H,I,r,h] hd
def zbz(hg:Gl X x)(hm:X.mg x=tF)(hv:pZ x=tE u)(r:RelV v u)(hn:‹x≠"__name__"›)(hd:‹(x ==("__debug__" : pG))=tH›):PE X (.Name x pos) (tC v) :=
 λZ Z Z H Z I h=>vC I hg hm hv #[v,H,I,r,h] hn hd
variable{a b:rF}{ta tb:TE}{pos:tB}
def PC(X:Cx)(op:sY)(a b:rF)(t:TE):Prop :=
 ∀(tI:List (pC × rH)) (s:pF) (σ:St) (H:Hp) (Q:VK),Inv X tI σ H s->t σ H Q ->
  pE (model X.prog X.w) X.A (eval a X.env) (λv s₁=>pE (model X.prog X.w) X.A (eval b X.env) (λu s₂=>pE (model X.prog X.w) X.A (pH op v u) (EP X tI σ Q) X.xe s₂) X.xe s₁) X.xe s
def JA(b:rF)(h:op≠.In)(h2:op≠.NotIn):behindInMarks op b=tH:=by
 have e1:(op == CmpOp.In)=tH:=by cases op <;> first | rfl | exact y9 rfl h
 have e2:(op == CmpOp.NotIn)=tH:=by cases op <;> first | rfl | exact y9 rfl h2
 cases b <;> simp [behindInMarks,e1,e2]
def xf(h:PC X op a b t)(h1:behindInMarks op b=tH:=by first | exact JA _ ∅ ∅ | rfl):PE X (.Compare a [op] [b] pos) t:=λtI s σ H Q I hw=>wpAny_Compare1 (h tI s σ H Q I hw) h1
variable{tA tB':TT}{rest:List rF}
def tOr(t u:TT):TT:=λσ H Q=>t σ H λc H1=>if c=tG then Q tG H1 else u σ H1 Q
def zcA(t:TT):TT:=λσ H Q=>t σ H λc H1=>Q (!c) H1
theorem wY(ha:PT X a tA):PW X (.BoolOp .Or [a] pos) tA:=by
 intro wh tI s σ H Q I h;refine isTrue_or (thn (ha tI s σ H Q I h) λc s1 e=>?_)
 cases c with
 | false=>exact isTrue_or_nil e
 | true=>exact e
theorem w4(ha:PT X a tA)(hb:PW X (.BoolOp .Or (b::rest) pos) tB'):PW X (.BoolOp .Or (a::b::rest) pos) (tOr tA tB'):=by
 intro wh tI s σ H Q I h;refine isTrue_or (thn (ha tI s σ H _ I h) λc s1=>el3 λH1 I1 q1=>?_)
 cases c with
 | true=>exact#[H1,I1,q1]
 | false=>exact hb wh tI s1 σ H1 Q I1 q1
def yl(ha:PT X a tA):PT X (.UnaryOp .Not a pos) (zcA tA):=by intros Q I h;exact isTrue_not (ha tI s σ H (λc H1=>Q (!c) H1) I h)
def UD(ta tb:TE):TE:=λσ H Q=>ta σ H λx H1=>onBl x λc=>if c=tG then tb σ H1 Q else Q (.bl tH) H1
def Xi(ta:TE):TE:=λσ H Q=>ta σ H λx H1=>onBl x λc=>Q (.bl (!c)) H1
def w9{op}(h:PE X a t):PE X (.BoolOp op [a] pos) t:=λtI s σ H Q I hw=>BoolOp_one (h tI s σ H Q I hw)
theorem va(ha:PE X a ta)(hb:PE X (.BoolOp .And (b::rest) pos) tb):PE X (.BoolOp .And (a::b::rest) pos) (UD ta tb):=by
 intros Q I h;refine BoolOp_and (thn (ha tI s σ H _ I h) λv s1=>el5 λx H1 I1 r1 q1=>?_);let#[c,rfl,q1]:=onBl.of q1;cases r1;refine pX ?_
 cases c with
 | true=>exact hb tI s1 σ H1 Q I1 q1
 | false=>exact#[.bl tH,H1,I1,rfl,q1]
def jF(ha:PE X a ta):PE X (.UnaryOp .Not a pos) (Xi ta):=by intros Q I h;refine UnaryOp_ (thn (ha tI s σ H _ I h) λv s1=>el5 λx H1 I1 r1 q1=>?_);let#[c,rfl,q1]:=onBl.of q1;cases r1;exact not_of (pX #[.bl (!c),H1,I1,rfl,q1])
def tIf(t:TT)(ta tb:TE):TE:=λσ H Q=>t σ H λc H1=>if c=tG then ta σ H1 Q else tb σ H1 Q
theorem kD(hc:PT X c tA)(ha:PE X a ta)(hb:PE X b tb):PE X (.IfExp c a b pos) (tIf tA ta tb):=by
 intros Q I h;refine wpAny_IfExp (thn (hc tI s σ H _ I h) λd s1=>el3 λH1 I1 q1=>?_)
 cases d with
 | true=>exact ha tI s1 σ H1 Q I1 q1
 | false=>exact hb tI s1 σ H1 Q I1 q1
end
end
mutual section
def SqL(K:pB)(H:Hp)(a:pC)(xs:List V):Prop :=
 Rd H a (.lst xs) \/
  ∃(o:rH) (its:Array pD) (n:Nat),K.lookup a=tE o/\o.cls=.type "list"/\o.dict=tF/\o.data=.seq its n/\its.size<=pA/\Vals xs its.toList
def SqT(K:pB)(H:Hp)(a:pC)(xs:List V):Prop :=
 Rd H a (.tup xs) \/
  ∃(o:rH) (its:Array pD) (n:Nat),K.lookup a=tE o/\o.cls=.type "tuple"/\o.data=.seq its n/\its.size<=pA/\Vals xs its.toList
def zgy:pD->Option V
 | .none=>tE .non
 | .bool b=>tE (.bl b)
 | .int i _=>tE (.int i)
 | .str x _=>tE (.str x)
 | .bytes b _=>tE (.byt b)
 | .float b _=>tE (.flt b)
 | .ref a=>tE (.ref a)
 | .type n=>tE (.ty n)
 | _=>tF
theorem RelV.abs(r:RelV x u):zgy u=tE x:=by
 cases x with
 | non=>cases r;rfl
 | bl _=>cases r;rfl
 | int _=>let#[t,rfl]:=r;rfl
 | str _=>let#[t,rfl]:=r;rfl
 | byt _=>let#[t,rfl]:=r;rfl
 | flt _=>let#[t,rfl]:=r;rfl
 | ref _=>cases r;rfl
 | ty _=>cases r;rfl
def RelV.inj(r:RelV x u)(q:RelV y u):x=y:=Option.some.inj (r.abs.symm.trans q.abs)
theorem Vals.inj(h:Vals xs us)(h':Vals ys us):xs=ys:=by
 induction h generalizing ys with
 | nil =>
  cases h';rfl
 | cons r t ih =>
  cases h' with
  | cons r' t'=>rw[r.inj r',ih t']
def SqL.of{K:pB}(h:H a=tE (.lst xs)):SqL K H a xs:=.inl (.inl h)
def SqT.of{K:pB}(h:H a=tE (.tup xs)):SqT K H a xs:=.inl (.inl h)
def Inv.list(I:Inv X tI σ H s)(h:SqL X.K H a xs):∃its:List pD,Vals xs its/\PlainL s.heap a its.toArray/\xs.length<=pA:=by
 rcases h with h | ⟨o,its,n,hk,hc,hd,hs,hz,r⟩
 ·let#[z,its,n,r,e]:=h.ok I.hok;exact#[its,r,#[_,n,e,rfl,rfl,rfl],z]
 ·refine#[its.toList,r,#[o,n,I.kIn a o hk,hc,hd,by simpa using hs],?_];have e:=r.length
  erw[eC]at e
  lia
def Inv.tuple(I:Inv X tI σ H s)(h:SqT X.K H a xs):∃its:List pD,Vals xs its/\IsTup s.heap a its.toArray/\xs.length<=pA:=by
 rcases h with h | ⟨o,its,n,hk,hc,hs,hz,r⟩
 ·let#[z,its,r,p]:=h.ok I.hok;exact#[its,r,p,z]
 ·refine#[its.toList,r,#[o,I.kIn a o hk,hc,n,by simpa using hs],?_];have e:=r.length
  erw[eC]at e
  lia
def Inv.list_inj(I:Inv X tI σ H s)(h:SqL X.K H a xs)(h':SqL X.K H a ys):xs=ys:=by
 let#[its,r,#[o,n,e,_,_,d],_]:=I.list h;let#[its',r',#[o',n',e',_,_,d'],_]:=I.list h';rw[e]at e';cases e';rw[d]at d';injection d' with d1 _;have:its=its':=by simpa using congrArg Array.toList d1
 subst this;exact r.inj r'
def Inv.tuple_inj(I:Inv X tI σ H s)(h:SqT X.K H a xs)(h':SqT X.K H a ys):xs=ys:=by
 let#[its,r,#[o,e,_,n,d],_]:=I.tuple h;let#[its',r',#[o',e',_,n',d'],_]:=I.tuple h';rw[e]at e';cases e';rw[d]at d';injection d' with d1 _;have:its=its':=by simpa using congrArg Array.toList d1
 subst this;exact r.inj r'
abbrev Cx.wish(X:Cx)(E:pD->pF->Prop):Cx:={ X with xe:=E }
abbrev Cx.nox(X:Cx):Cx:=X.wish λZ Z=>False
def Cx.Ok.wish{X:Cx}(ok:X.Ok)(E:pD->pF->Prop):(X.wish E).Ok :=
 #[ok.mod,ok.kind,ok.glob,ok.blt,ok.above,ok.inj,ok.has,ok.cab,ok.hd,ok.frames,ok.stk,ok.exf,ok.bs,ok.bsz,ok.noex,ok.exfs,ok.funs,ok.frf]
def Cx.Ok.unwish{X:Cx}(ok:(X.wish E).Ok):X.Ok :=
 #[ok.mod,ok.kind,ok.glob,ok.blt,ok.above,ok.inj,ok.has,ok.cab,ok.hd,ok.frames,ok.stk,ok.exf,ok.bs,ok.bsz,ok.noex,ok.exfs,ok.funs,ok.frf]
def Inv.wish(I:Inv X tI σ H s)(E:pD->pF->Prop):Inv (X.wish E) tI σ H s:=#[I.ok.wish E,I.os,I.bare,I.base,I.loc,I.cell,I.free,I.freeC,I.pin,I.hok,I.len]
def Inv.unwish(I:Inv (X.wish E) tI σ H s):Inv X tI σ H s:=#[I.ok.unwish,I.os,I.bare,I.base,I.loc,I.cell,I.free,I.freeC,I.pin,I.hok,I.len]
theorem SP.unwish(h:SP (X.wish E) tI D f s'):SP X tI D f s':=by
 cases f with
 | next=>let#[σ',H',I,q]:=h;exact#[σ',H',I.unwish,q]
 | brk=>let#[σ',H',I,q]:=h;exact#[σ',H',I.unwish,q]
 | cont=>let#[σ',H',I,q]:=h;exact#[σ',H',I.unwish,q]
 | ret u=>let#[v,σ',H',I,r,q]:=h;exact#[v,σ',H',I.unwish,r,q]
def PSs.nox{st:List pN}(h:PSs X.nox st t):PSs X st t:=λtI s σ H D I hw =>
 rq (h tI s σ H D (I.wish _) hw) (λZ Z q=>q.unwish) λZ Z z=>False.elim z
def JH:TS:=λD σ H=>D.nx σ H
def zeC(t u:TS):TS:=λD σ H=>t { D with nx:=u D } σ H
def zv:PSs X [] JH:=λZ Z σ H Z I h=>rg #[σ,H,I,h]
theorem zZ{X:Cx}{st:pN}{rest:List pN}{t:TS}{u:TS}(h1:PS X st t)(h2:PSs X rest u):PSs X (st::rest) (zeC t u):=by
 intros D I h;refine rA (thn (h1 tI s σ H { D with nx:=u D } I h) λf s1 q=>?_)
 cases f with
 | next =>
  let#[σ',H',I',q]:=q;exact h2 tI s1 σ' H' D I' q
 | ret v=>exact q
 | brk=>exact q
 | cont=>exact q
theorem zh{X:Cx}{st:pN}{t:TS}(h1:PS X st t):PSs X [st] t:=by
 intros D I h;refine rA (thn (h1 tI s σ H D I h) λf s1 q=>?_)
 cases f with
 | next=>exact rg q
 | ret v=>exact q
 | brk=>exact q
 | cont=>exact q
def Inv.quiet(I:Inv X tI σ H s):interactive X.env=tH:=by simp [interactive,I.ok.kind]
def Kb(te:TE):TS:=λD σ H=>te σ H λZ H1=>D.nx σ H1
def ww(he:PE X e te)(hs:‹swapsWith e tF pos.line X.env=pure tH›):PS X (.Expr e pos) (Kb te):=by intros D I h;exact wpAny_Expr_any (thn (he tI s σ H _ I h) λv s1=>el5 λx H1 I1 r1 q1=>#[σ,H1,I1,q1]) I.quiet hs
def zct(te:TE):TS:=λD σ H=>te σ H D.rt
def zp(he:PE X e te):PS X (.Return (tE e) pos) (zct te):=by intros D I h;exact sS (thn (he tI s σ H _ I h) λv s1=>el5 λx H1 I1 r1 q1=>#[x,σ,H1,I1,r1,q1])
def zeG(c:TT)(t u:TS):TS:=λD σ H=>c σ H λb H1=>if b=tG then t D σ H1 else u D σ H1
theorem zS(hc:PT X c tc)(ha:PSs X a t)(hb:PSs X b u):PS X (.If c a b pos) (zeG tc t u):=by
 intros D I h;refine wpAny_If (thn (hc tI s σ H _ I h) λd s1=>el3 λH1 I1 q1=>?_)
 cases d with
 | true=>exact ha tI s1 σ H1 D I1 q1
 | false=>exact hb tI s1 σ H1 D I1 q1
abbrev TG:=V->St->Hp->(St->Hp->Prop)->Prop
abbrev TGs:=List V->St->Hp->(St->Hp->Prop)->Prop
def PG(X:Cx)(target:rF)(t:TG):Prop :=
 ∀(tI:List (pC × rH)) (s:pF) (σ:St) (H:Hp) (v:V) (u:pD) (Q:St->Hp->Prop),Inv X tI σ H s->RelV v u->t v σ H Q ->
  pE (model X.prog X.w) X.A (assign target X.env u) (λZ s'=>∃σ' H',Inv X tI σ' H' s'/\Q σ' H') X.xe s
def PGs(X:Cx)(ts:List rF)(t:TGs):Prop :=
 ∀(tI:List (pC × rH)) (s:pF) (σ:St) (H:Hp) (vs:List V) (us:List pD) (Q:St->Hp->Prop),Inv X tI σ H s->Vals vs us->t vs σ H Q ->
  pE (model X.prog X.w) X.A (assignInOrder ((assignEach ts X.env).map (·.2)) us) (λZ s'=>∃σ' H',Inv X tI σ' H' s'/\Q σ' H') X.xe s
abbrev zfX:=V->V->V->Hp->(Hp->Prop)->Prop
def zfZ(X:Cx)(t:zfX):Prop :=
 ∀(tI:List (pC × rH)) (s:pF) (σ:St) (H:Hp) (o i v:V) (ov iv u:pD) (Q:Hp->Prop),Inv X tI σ H s->RelV o ov->RelV i iv->RelV v u->t o i v H Q ->
  pE (model X.prog X.w) X.A (setItem ov iv u) (λZ s'=>∃H',Inv X tI σ H' s'/\Q H') X.xe s
def yW(i:Nat):TG:=λv σ H Q=>Q (σ.set i (tE v)) H
def zr(hN:X.N.Nodup)(hi:X.N[i]? = tE x)(hx:Loc X.env.scope x)(hf:‹X.fn x=tG\/X.env.scope.names.lookup x=tE .local›):PG X (.Name x pos) (yW i):=by intros v u Q I r h;exact sR (uh I hN hi hx r (λs' I'=>#[_,H,I',h]) hf)
def zbu:TGs:=λvs σ H Q=>vs=[]/\Q σ H
def jO(t:TG)(u:TGs):TGs:=λvs σ H Q=>∃v r,vs=v::r/\t v σ H λσ' H'=>u r σ' H' Q
def yV:PGs X [] zbu:=by intros vs us Q I r h;let#[e,h]:=h;subst e;cases r;exact assignInOrder_nil #[σ,H,I,h]
theorem zK(h1:PG X e t)(h2:PGs X es u)(hs:‹(assignEach (e::es) X.env).map (·.2)=assign e X.env::(assignEach es X.env).map (·.2)›):PGs X (e::es) (jO t u):=by
 intros vs us Q I r h;let#[v,vr,e1,h]:=h;subst e1
 cases r with
 | cons r rr =>
  rw[hs];refine assignInOrder_cons (thn (h1 tI s σ H _ _ _ I r h) λ_ s1 ⟨σ1,H1,I1,q1⟩=>?_);exact h2 tI s1 σ1 H1 _ _ Q I1 rr q1
def zaK(K:pB)(n:Nat)(t:TGs):TG:=λv σ H Q=>∃a xs,v=.ref a/\SqT K H a xs/\xs.length=n/\t xs σ H Q
def wF(hc:X.calm=tG)(h:PGs X es t)(hn:‹(assignEach es X.env).length=n›)(hst:‹(assignEach es X.env).findIdx? (·.1)=tF›):PG X (.Tuple es k pos) (zaK X.K n t):=by intros v u Q I r hw;let#[a,xs,e1,hq,hl,hw]:=hw;subst e1;cases r;let#[its,rv,ht,hz]:=I.tuple hq;refine assign_Tuple_tuple (I.ok.hd hc) ht (by simp [hn,<- hl,rv.length]) hst λh' hx=>?_;have I1:Inv X tI σ H { s with heap:=h' }:=I.kept (t':=s.toks) λb o e=>hx b o (ax (au e)) e;exact h tI _ σ H xs _ Q I1 ↥rv hw
def zgr(to ti:TE)(t:zfX):TG:=λv σ H Q=>to σ H λo H1=>ti σ H1 λi H2=>t o i v H2 λH3=>Q σ H3
def zeb(ho:PE X o to)(hi:PE X i ti)(hs:zfZ X t)(ha:∀v,assign (.Subscript o i pos) X.env v=(do
   let ov <- holding [v] (eval o X.env)
   let iv <- holding [v,ov] (eval i X.env)
   standAt pos
   holding [v,ov,iv] (setItem ov iv v)
   release [v,ov,iv] []):=by intro _;rfl):PG X (.Subscript o i pos) (zgr to ti t):=by intros v u Q I r h;rw[ha];refine ph (pL (thn (ho tI s σ H _ I h) λov s1=>el5 λx H1 I1 r1 q1=>?_));refine ph (pL (thn (hi tI s1 σ H1 _ I1 q1) λiv s2=>el5 λy H2 I2 r2 q2=>?_));refine ph (rj (ph (pL (thn (hs tI s2 σ H2 x y v ov iv u _ I2 r1 r2 r q2) λZ s3=>el3 λH3 I3 q3=>?_))));exact wpAny_release #[σ,H3,I3,q3]
def za6(te:TE)(g:TG):TS:=λD σ H=>te σ H λx H1=>g x σ H1 D.nx
def jv(he:PE X e te)(hg:PG X tg g)(hs:‹swapsWithSole [tg] e pos.line X.env=pure tH›)(hw:‹swappedStores [tg] e X.env=pure tF›)(h1:‹(assignEach [tg] X.env).map (·.2)=[assign tg X.env]›):PS X (.Assign [tg] e pos) (za6 te g):=by intros D I h;refine wpAny_Assign_stores (thn (he tI s σ H _ I h) λv s1=>el5 λx H1 I1 r1 q1=>?_) hs hw;rw[h1];exact thn (hg tI s1 σ H1 x v _ I1 r1 q1) λZ s2 q=>q
def qN(hN:X.N.Nodup)(hi:X.N[i]? = tE x)(hx:Loc X.env.scope x)(he:PE X e te)(hs:‹swapsWith e (tE (.Name x pos')) pos.line X.env=pure tH›)(hf:‹X.fn x=tG\/X.env.scope.names.lookup x=tE .local›) :
  PS X (.Assign [.Name x pos'] e pos) (za6 te (yW i)):=by intros D I h;refine si (thn (he tI s σ H _ I h) λv s1=>el5 λy H1 I1 r1 q1=>?_) hs;exact uh I1 hN hi hx r1 (λs2 I2=>#[_,H1,I2,q1]) hf
def Ut(c:TT)(tb:TS):TS:=λD σ H=>∃W:Nat->St->Hp->Prop,(∃m,W m σ H)/\∀m σ H,W m σ H ->
 c σ H λb H1=>if b=tG then ∃N:St->Hp->Prop,(∀σ' H',N σ' H'->∃m',m'<m/\W m' σ' H')/\tb { D with nx:=N,ct:=N,bk:=D.nx } σ H1 else D.nx σ H1
theorem Wi(hp:PassesOwn (model X.prog X.w) X.A X.env X.xe)(hc:PT X c tc)(hb:PSs X body tb):PS X (.While c body [] pos) (Ut tc tb):=by
 intros D I h;let#[W,#[m0,w0],turn]:=h;refine wpAny_While (codeAny_whileLoop (λn s'=>∃σ' H',Inv X tI σ' H' s'/\W n σ' H') ?_ m0 #[σ,H,I,w0]);rintro n s1 ⟨σ1,H1,I1,w1⟩;refine rp hp (thn (hc tI s1 σ1 H1 _ I1 (turn n σ1 H1 w1)) λb s2=>el3 λH2 I2 q2=>?_)
 cases b with
 | true =>
  let#[N,hN,q2]:=q2;rw[z6 rfl];refine rp hp (thn (hb tI s2 σ1 H2 _ I2 q2) λf s3 q3=>?_)
  cases f with
  | next =>
   let#[σ3,H3,I3,n3]:=q3;let#[m',hm,w3]:=hN σ3 H3 n3;exact#[m',hm,σ3,H3,I3,w3]
  | cont =>
   let#[σ3,H3,I3,n3]:=q3;let#[m',hm,w3]:=hN σ3 H3 n3;exact#[m',hm,σ3,H3,I3,w3]
  | brk=>exact q3
  | ret v=>exact q3
 | false =>
  rw[z9 aB];exact rg #[σ1,H2,I2,q2]
structure It where
 go:Nat->Hp->Prop
 yld:Nat->Hp->V->Hp->Prop
 stop:Nat->Hp->Prop
def xK(X:Cx)(tI:List (pC × rH))(H:Hp)(b:pC):Prop :=
 H b=tF/\b≠X.env.locals/\b ∉ X.fs/\(b ∈ X.ex\/X.s₀.heap.objs.size<=b)/\(∀x c,X.env.cells.lookup x=tE c->c≠b)/\∀p ∈ X.pn ++ tI,p.1≠b
def Inv.fpOk(I:Inv X tI σ H s)(hb:s⁻¹<=b)(hn:H' b=tF):xK X tI H' b:=by
 refine#[hn,bU (ao I.lt hb),I.nofs hb,.inr (aG I.sz hb),λx c e z=>?_,λp hp z=>?_]
 ·let#[v,q]:=I.cell x c e;exact y9 (ao q.lt (by rw[z];exact hb)) (cw _)
 ·exact y9 (ao (au (I.pin p hp).1) (by rw[z];exact hb)) (cw _)
structure Q5(P:pJ)(w:pR)(K:pB)(tg:rF)(J:It)(fp:List pC)(it:pC)(tn:Nat->pS->Prop):Prop where
 mem:it ∈ fp
 obj:∀i h,tn i h->∀b ∈ fp,∃o,h.get? b=tE o/\∀v,o.data≠.cell v
 keep:∀i h h',tn i h->(∀b ∈ fp,∀o,h.get? b=tE o->h'.get? b=tE o)->tn i h'
 item:∀(X:Cx),X.prog=P->X.w=w->X.K=K->X.calm=tG->∀(i:Nat) (tI:List (pC × rH)) (s:pF) (σ:St) (H:Hp) (E:pD->pF->Prop),Inv X tI σ H s->(∀b ∈ fp,xK X tI H b)->tn i s.heap->J.go i H ->
  pE (model P w) X.A (pyNext (.ref it)) (λr s1=>∃u,r=tE u /\
   pE (model P w) X.A (letOwnedTupleGo tg (.ref it) u) (λZ s2=>∃x H',Inv X tI σ H' s2/\RelV x u/\J.yld i H x H'/\tn (i+1) s2.heap/\∀b ∈ fp,H' b=tF) E s1) E s
 done:∀(X:Cx),X.prog=P->X.w=w->X.K=K->X.calm=tG->∀(i:Nat) (tI:List (pC × rH)) (s:pF) (σ:St) (H:Hp) (E:pD->pF->Prop),Inv X tI σ H s->(∀b ∈ fp,xK X tI H b)->tn i s.heap->J.stop i H ->
  pE (model P w) X.A (pyNext (.ref it)) (λr s1=>r=tF/\Inv X tI σ H s1) E s
 self:∀(A:rh) (i:Nat) (s:pF) (Q:pD->pF->Prop) (E:pD->pF->Prop),tn i s.heap->Q (.ref it) s->pE (model P w) A (pyIter (.ref it)) Q E s
abbrev TI:=St->Hp->(It->Hp->Prop)->Prop
def PIE(X:Cx)(tI:List (pC × rH))(σ:St)(tg:rF)(R:It->Hp->Prop)(itv:pD)(s2:pF):Prop :=
 ∃(it:pC) (fp:List pC) (tn:Nat->pS->Prop) (J:It) (H':Hp),itv=.ref it/\Inv X tI σ H' s2/\Q5 X.prog X.w X.K tg J fp it tn/\tn 0 s2.heap/\(∀b ∈ fp,xK X tI H' b)/\R J H'
def PI(X:Cx)(tg iter:rF)(wi:TI):Prop :=
 ∀(tI:List (pC × rH)) (s:pF) (σ:St) (H:Hp) (R:It->Hp->Prop),Inv X tI σ H s->wi σ H R ->
  pE (model X.prog X.w) X.A (eval iter X.env) (λv s1=>pE (model X.prog X.w) X.A (pyIter v) (PIE X tI σ tg R) X.xe s1) X.xe s
def U7(ho:s.heap.get? it=tE o)(hc:o.cls=.type n)(hd:o.data=.fields vs)(hn:["enumerate","zip","dict_itemiterator","dict_reverseitemiterator","odict_iterator","itertools.zip_longest","itertools.pairwise"].contains n=tH)(hQ:Q Unit.unit s):pE M A (letOwnedTupleGo tg (.ref it) u) Q E s:=by
  unfold letOwnedTupleGo
  cases tg <;> first
    | exact pi hQ
    | (cases u <;> first
        | exact pi hQ
        | (refine ph (wpAny_load ho ?_)
           rw[hc,hd];show pE M A (if (["enumerate","zip","dict_itemiterator","dict_reverseitemiterator","odict_iterator","itertools.zip_longest","itertools.pairwise"].contains n && vs[0]? == tE (rawInt _))=tG then _ else _) Q E s;rw[z9 (by intro h;rw[hn,Bool.false_and]at h;cases h)]
           exact pi hQ))
def Itl(K:pB)(a:pC):It :=
 #[λi H=>∃xs x,SqL K H a xs/\xs[i]? = tE x,λi H x H'=>H'=H/\∀xs,SqL K H a xs->xs[i]? = tE x,λi H=>∃xs,SqL K H a xs/\xs.length<=i]
def Itt(K:pB)(a:pC):It :=
 #[λi H=>∃xs x,SqT K H a xs/\xs[i]? = tE x,λi H x H'=>H'=H/\∀xs,SqT K H a xs->xs[i]? = tE x,λi H=>∃xs,SqT K H a xs/\xs.length<=i]
def Itr(lo:Int)(n:Nat):It:=#[λi Z=>i<n,λi H x H'=>H'=H/\x=.int (lo+i),λi Z=>n<=i]
def Qi{K:pB}(a it:pC):Q5 P w K tg (Itl K a) [it] it (λi h=>h.IsListIter it a i) where
 mem:=by simp
 obj:=λi h st b hb=>by
  have e:b=it:=by simpa using hb
  subst e;let#[o,e,c,d]:=st;exact#[o,e,λv z=>by rw[d]at z;cases z]
 keep:=λi h h' st k=>st.at λo e=>k it (by simp) o e
 item:=by
  intro X hP hw hK hc i tI s σ H E I hf st hg;subst hP hw hK;let#[xs,x,hq,hx]:=hg;let#[its,rv,p,hz]:=I.list hq;let#[u,hu,ru]:=rv.get hx;let#[f0,f1,f2,f3,f4,f5]:=hf it (by simp);refine so st p.isList (x:=u) ↥hu λh' st' sb=>?_;have I1:Inv X tI σ H { s with heap:=h' }:=I.turned (t':=s.toks) (λb o hb e=>(sb.2 b hb).trans e) f0 f1 f3 f4 f5;let#[o,e,c,d]:=id st';exact#[u,rfl,U7 (s:={ s with heap:=h' }) e c d ∅ #[x,H,I1,ru,#[rfl,λys hy=>by rw[I.list_inj hy hq];exact hx],st',λb hb=>(hf b hb).1]]
 done:=by
  intro X hP hw hK hc i tI s σ H E I hf st hg;subst hP hw hK;let#[xs,hq,hx]:=hg;let#[its,rv,p,hz]:=I.list hq;let#[f0,f1,f2,f3,f4,f5]:=hf it (by simp);have hl:=rv.length;exact sv (I.ok.hd hc) st p.isList (by simp;lia) λh' eb=>#[rfl,I.turned (t':=s.toks) (λb o hb e=>eb b o hb e) f0 f1 f3 f4 f5]
 self:=λZ Z Z Z Z st h=>wpAny_pyIter_listiter st h
def W8{K:pB}(a it:pC):Q5 P w K tg (Itt K a) [it] it (λi h=>h.IsTupleIter it a i) where
 mem:=by simp
 obj:=λi h st b hb=>by
  have e:b=it:=by simpa using hb
  subst e;let#[o,e,c,d]:=st;exact#[o,e,λv z=>by rw[d]at z;cases z]
 keep:=λi h h' st k=>st.at λo e=>k it (by simp) o e
 item:=by
  intro X hP hw hK hc i tI s σ H E I hf st hg;subst hP hw hK;let#[xs,x,hq,hx]:=hg;let#[its,rv,p,hz]:=I.tuple hq;let#[u,hu,ru]:=rv.get hx;let#[f0,f1,f2,f3,f4,f5]:=hf it (by simp);refine wpAny_pyNext_tuple_item st (show s.heap.IsTuple a its.toArray from p) (x:=u) ↥hu λh' st' sb=>?_;have I1:Inv X tI σ H { s with heap:=h' }:=I.turned (t':=s.toks) (λb o hb e=>(sb.2 b hb).trans e) f0 f1 f3 f4 f5;let#[o,e,c,d]:=id st';exact#[u,rfl,U7 (s:={ s with heap:=h' }) e c d ∅ #[x,H,I1,ru,#[rfl,λys hy=>by rw[I.tuple_inj hy hq];exact hx],st',λb hb=>(hf b hb).1]]
 done:=by
  intro X hP hw hK hc i tI s σ H E I hf st hg;subst hP hw hK;let#[xs,hq,hx]:=hg;let#[its,rv,p,hz]:=I.tuple hq;let#[f0,f1,f2,f3,f4,f5]:=hf it (by simp);have hl:=rv.length;exact wpAny_pyNext_tuple_end (I.ok.hd hc) st (show s.heap.IsTuple a its.toArray from p) (by simp;lia) λh' eb=>#[rfl,I.turned (t':=s.toks) (λb o hb e=>eb b o hb e) f0 f1 f3 f4 f5]
 self:=λZ Z Z Z Z st h=>wpAny_pyIter_tupleiter st h
def W5{K:pB}(it:pC)(lo:Int)(n:Nat):Q5 P w K tg (Itr lo n) [it] it (λi h=>IsRangeIter h it (lo+(i:Nat) * 1) ((n:Int) - (i:Nat)) 1) where
 mem:=by simp
 obj:=λi h st b hb=>by
  have e:b=it:=by simpa using hb
  subst e
  exact#[_,st,λv z=>by
   have z':Data.fields _=Data.cell v:=z
   cases z']
 keep:=λi h h' st k=>k it (by simp) _ st
 item:=by
  intro X hP hw hK hc i tI s σ H E I hf st hg;subst hP hw hK;let#[f0,f1,f2,f3,f4,f5]:=hf it (by simp);have W:=Walks.range (prog:=X.prog) (w:=X.w) (I.ok.hd hc) it lo 1 n;refine W.item i s _ _ hg st λv h' tk hv st' kk=>?_;let#[t,rfl]:=hv;have I1:Inv X tI σ H { s with heap:=h',toks:=tk }:=I.turned (λb o hb e=>kk b o ↥hb e) f0 f1 f3 f4 f5;refine#[_,rfl,U7 (s:={ s with heap:=h',toks:=tk }) (n:="range_iterator") st' rfl rfl ∅ #[.int (lo+i),H,I1,#[t,?_],#[rfl,rfl],st',λb hb=>(hf b hb).1]];rw[Int.mul_one]
 done:=by
  intro X hP hw hK hc i tI s σ H E I hf st hg;subst hP hw hK;let#[f0,f1,f2,f3,f4,f5]:=hf it (by simp);exact wpAny_pyNext_range_end (I.ok.hd hc) st (by have:n<=i:=hg;lia) λh' eb=>#[rfl,I.turned (t':=s.toks) (λb o hb e=>eb b o hb e) f0 f1 f3 f4 f5]
 self:=λZ Z Z Z Z st h=>wpAny_pyIter_rangeiter st h
def zb8(K:pB)(tl:TE):TI:=λσ H R=>tl σ H λx H1=>∃a,x=.ref a/\(∃xs,SqL K H1 a xs)/\R (Itl K a) H1
def zf8(K:pB)(tl:TE):TI:=λσ H R=>tl σ H λx H1=>∃a,x=.ref a/\(∃xs,SqT K H1 a xs)/\R (Itt K a) H1
def ye(hl:PE X l tl):PI X tg l (zb8 X.K tl):=by
 intros R I h;refine thn (hl tI s σ H _ I h) λv s1=>el5 λx H1 I1 r1 q1=>?_;let#[a,e,#[xs,hq],q]:=q1;subst e;cases r1;let#[its,rv,p,hz]:=I1.list hq;refine rD p.isList ?_;refine#[s1⁻¹,[s1⁻¹],_,_,H1,rfl,I1.kept (t':=s1.toks) λb o e=>ac _ e,Qi a _,#[_,aD _ rfl,rfl,rfl],λb hb=>?_,q];have e:b=s1⁻¹:=by simpa using hb
 subst e;exact I1.fpOk (am _) (I1.hok.fresh (am _))
def zdS(hl:PE X l tl):PI X tg l (zf8 X.K tl):=by
 intros R I h;refine thn (hl tI s σ H _ I h) λv s1=>el5 λx H1 I1 r1 q1=>?_;let#[a,e,#[xs,hq],q]:=q1;subst e;cases r1;let#[its,rv,p,hz]:=I1.tuple hq;refine sN (show s1.heap.IsTuple a its.toArray from p) ?_;refine#[s1⁻¹,[s1⁻¹],_,_,H1,rfl,I1.kept (t':=s1.toks) λb o e=>ac _ e,W8 a _,#[_,aD _ rfl,rfl,rfl],λb hb=>?_,q];have e:b=s1⁻¹:=by simpa using hb
 subst e;exact I1.fpOk (am _) (I1.hok.fresh (am _))
def WK{lo hi:Int}(I:Inv X tI σ H s)(h1:-(2 ^ 62)<=lo)(h2:lo<2 ^ 62)(h3:-(2 ^ 62)<=hi)(h4:hi<2 ^ 62)(q:R (Itr lo (hi - lo).toNat) H):pE (model X.prog X.w) X.A (pyIter (.ref s⁻¹)) (PIE X tI σ tg R) E { s with heap:=s.heap.push { cls:=.type "range",data:=.fields (u9 [.int lo t,.int hi u,.int 1 v]) },toks:=tk }:=by
 refine wpAny_pyIter_range (IsRange.new ..) (small_one h1 h2 h3 h4) ?_;have I1:Inv X tI σ H { s with heap:=s.heap.push { cls:=.type "range",data:=.fields (u9 [.int lo t,.int hi u,.int 1 v]) },toks:=tk }:=I.kept λb o e=>ac _ e
 refine#[(s.heap.push { cls:=.type "range",data:=.fields (u9 [.int lo t,.int hi u,.int 1 v]) }).objs.size,[(s.heap.push { cls:=.type "range",data:=.fields (u9 [.int lo t,.int hi u,.int 1 v]) }).objs.size],_,_,H,rfl,
  I1.kept (t':=tk) λb o e=>ac _ e,W5 _ lo (hi - lo).toNat,?_,λb hb=>?_,q]
 ·have e1:lo+((0:Nat):Int) * 1=lo:=by simp
  have e2:(((hi - lo).toNat:Nat):Int) - ((0:Nat):Int)=Builtin.Range.rangeSize lo hi 1:=by rw[rangeSize_one];split <;> lia
  show IsRangeIter _ _ (lo+((0:Nat):Int) * 1) ((((hi - lo).toNat:Nat):Int) - ((0:Nat):Int)) 1;rw[e1,e2];exact aD _ rfl
 ·have e:b=(s.heap.push { cls:=.type "range",data:=.fields (u9 [.int lo t,.int hi u,.int 1 v]) }).objs.size:=by simpa using hb
  subst e;exact I1.fpOk (am _) (I1.hok.fresh (am _))
def zbH(ta:TA):TI:=λσ H R=>ta σ H λvs H1=>∃j:Int,vs=[.int j]/\-(2 ^ 62)<=j/\j<2 ^ 62/\R (Itr 0 j.toNat) H1
def zcV(ta:TA):TI:=λσ H R=>ta σ H λvs H1=>∃i j:Int,vs=[.int i,.int j]/\(-(2 ^ 62)<=i/\i<2 ^ 62/\-(2 ^ 62)<=j/\j<2 ^ 62)/\R (Itr i (j - i).toNat) H1
theorem wc(hg:Gl X "range")(hm:X.mg "range" = tF)(ha:PA X [a] ta)(hs:‹pq [a] X.env=[(tH,eval a X.env)]›):PI X tg (.Call (.Name "range" p) [a] [] pos) (zbH ta):=by
 intros R I h;refine Call_ (vC I hg hm boot_range (bB (thn (ha pos tI s σ H _ I h) λus s1=>el5 λvs H1 I1 r1 q1=>?_) hs rfl));let#[j,e,q1,q2,q]:=q1;subst e
 cases r1 with
 | cons r rr =>
  cases rr;let#[t,rfl]:=r;exact call_range_1 (WK I1 ⋯ ⋯ q1 q2 ↥q)
theorem V2(hg:Gl X "range")(hm:X.mg "range" = tF)(ha:PA X [a,b] ta)(hs:‹pq [a,b] X.env=[(tH,eval a X.env),(tH,eval b X.env)]›)(hs2:‹pq [b] X.env=[(tH,eval b X.env)]›) :
  PI X tg (.Call (.Name "range" p) [a,b] [] pos) (zcV ta):=by
 intros R I h;refine Call_ (vC I hg hm boot_range (bB (thn (ha pos tI s σ H _ I h) λus s1=>el5 λvs H1 I1 r1 q1=>?_) (by rw[hs,hs2]) (by rw[hs2];rfl)));let#[i,j,e,#[q1,q2,q3,q4],q]:=q1;subst e
 cases r1 with
 | cons r rr =>
  cases rr with
  | cons r' rr =>
   cases rr;let#[t,rfl]:=r;let#[t',rfl]:=r';exact call_range_2 (WK I1 q1 q2 q3 q4 q)
def Jh(wi:TI)(g:TG)(tb:TS):TS:=λD σ H=>wi σ H λJ H1=>∃W:Nat->Nat->St->Hp->Prop,(∃m,W 0 m σ H1)/\∀i m σ H,W i m σ H ->
 (J.stop i H/\D.nx σ H)\/(J.go i H/\∃N:St->Hp->Prop,(∀σ' H',N σ' H'->∃m',m'<m/\W (i+1) m' σ' H')/\∀x H',J.yld i H x H'->g x σ H' λσ2 H2=>tb { D with nx:=N,ct:=N,bk:=D.nx } σ2 H2)
def kg(fp:List pC)(h:pS):List (pC × rH):=fp.filterMap λb=>(h.get? b).map λo=>(b,o)
def xB(hb:b ∈ fp)(e:h.get? b=tE o):(b,o) ∈ kg fp h:=Ac.mpr #[b,hb,by rw[e];rfl]
theorem QB(hp:p ∈ kg fp h):p.1 ∈ fp/\h.get? p.1=tE p.2:=by
 let#[b,hb,e]:=Ac.mp hp
 cases q:h.get? b with
 | none=>rw[q]at e;cases e
 | some o =>
  rw[q]at e;have e':(b,o)=p:=Option.some.inj e;subst e';exact#[hb,q]
def Inv.pinned(I:Inv X tI σ H s)(hf:∀b ∈ fp,xK X tI H b)(ho:∀b ∈ fp,∃o,s.heap.get? b=tE o/\∀v,o.data≠.cell v):Inv X (tI ++ kg fp s.heap) σ H s :=
 I.pins_of λp hp=>(tO.mp hp).elim (λz=>I.pin p (aC _ z)) λz=>by
  let#[hb,e]:=QB z;let#[f0,f1,f2,_]:=hf p.1 hb;let#[o,e',d]:=ho p.1 hb;rw[e]at e';cases e';exact#[e,f0,f1,f2,d]
def Inv.unpinned(I:Inv X (tI ++ pl) σ H s):Inv X tI σ H s:=I.pins_of λp hp=>I.pin p (aC _ (bF _ hp))
def xh(hp:PassesOwn (model X.prog X.w) X.A X.env X.xe)(hc:X.calm=tG)(hi:PI X tg iter wi)(hg:PG X tg g)(hb:PSs X body tb)(hs:‹∀x,foldedSetIterable iter X.env x=pure x›):PS X (.For tg iter body [] pos) (Jh wi g tb):=by
 intros D I h;refine wpAny_For (thn (hi tI s σ H _ I h) λv s1 h1=>thn h1 λitv s2 h2=>?_) hs;let#[it,fp,tn,J,H2,e,I2,T,st2,f2,W,#[m0,w0],turn]:=h2;subst e;have stat:∀{H':Hp},(∀b ∈ fp,H' b=tF)->∀b ∈ fp,xK X tI H' b:=λhn b hb=>#[hn b hb,(f2 b hb).2];refine codeAny_forLoop_any (λn s'=>∃i σ' H',Inv X tI σ' H' s'/\tn i s'.heap/\(∀b ∈ fp,H' b=tF)/\W i n σ' H') ?_ m0 #[0,σ,H2,I2,st2,λb hb=>(f2 b hb).1,w0];rintro n s3 ⟨i,σ3,H3,I3,st3,fr3,w3⟩;rcases turn i n σ3 H3 w3 with ⟨stop,qn⟩ | ⟨go,N,hN,step⟩
 ·refine rp hp (thn (T.done X rfl rfl rfl hc i tI s3 σ3 H3 X.xe I3 (stat fr3) st3 stop) λr s4 ⟨hr,I4⟩=>?_);subst hr;exact rg #[σ3,H3,I4,qn]
 ·refine rp hp (thn (T.item X rfl rfl rfl hc i tI s3 σ3 H3 X.xe I3 (stat fr3) st3 go) λr s4 ⟨u,hr,h4⟩=>?_);subst hr;refine rp hp (thn h4 λZ s5=>el5 λx H5 I5 r5 q_z=>?_);let#[y5,st5,fr5]:=q_z;have I5':=I5.pinned (stat fr5) (T.obj _ _ st5);refine rp hp (thn (hg _ s5 σ3 H5 x u _ I5' r5 (step x H5 y5)) λ_ s6 ⟨σ6,H6,I6,q6⟩=>?_);refine rp hp (thn (hb _ s6 σ6 H6 _ I6 q6) λf s7 q7=>?_)
  have again:∀{σ7:St} {H7:Hp},Inv X (tI ++ kg fp s5.heap) σ7 H7 s7->N σ7 H7->∃m,m<n/\∃i σ' H',Inv X tI σ' H' s7/\tn i s7.heap/\(∀b ∈ fp,H' b=tF)/\W i m σ' H':=λ{σ7 H7} I7 n7=>by
   let#[m',hm,w7]:=hN σ7 H7 n7;refine#[m',hm,i+1,σ7,H7,I7.unpinned,T.keep _ _ _ st5 λb hb o e=>(I7.pin (b,o) (aC _ (aC _ (xB hb e)))).1,λb hb=>?_,w7];let#[o,e,d]:=T.obj _ _ st5 b hb;exact (I7.pin (b,o) (aC _ (aC _ (xB hb e)))).2.1
  cases f with
  | next=>let#[σ7,H7,I7,n7]:=q7;exact again I7 n7
  | cont=>let#[σ7,H7,I7,n7]:=q7;exact again I7 n7
  | brk=>let#[σ7,H7,I7,q7]:=q7;exact#[σ7,H7,I7.unpinned,q7]
  | ret v=>let#[x7,σ7,H7,I7,r7,q7]:=q7;exact#[x7,σ7,H7,I7.unpinned,r7,q7]
def JG{K:pB}{g:TG}{tb:TS}{D:ZH}(Pv:Nat->St->Hp->Prop)(h0:Pv 0 σ H)(hl:∀i σ H,i<=xs.length->Pv i σ H->SqL K H a xs)(hs:∀i x σ H,xs[i]? = tE x->Pv i σ H->g x σ H λσ2 H2=>tb { D with nx:=Pv (i+1),ct:=Pv (i+1),bk:=D.nx } σ2 H2)(hd:∀σ H,Pv xs.length σ H->D.nx σ H) :
  ∃W:Nat->Nat->St->Hp->Prop,(∃m,W 0 m σ H)/\∀i m σ H,W i m σ H ->
   ((Itl K a).stop i H/\D.nx σ H)\/((Itl K a).go i H/\∃N:St->Hp->Prop,(∀σ' H',N σ' H'->∃m',m'<m/\W (i+1) m' σ' H')/\∀x H',(Itl K a).yld i H x H'->g x σ H' λσ2 H2=>tb { D with nx:=N,ct:=N,bk:=D.nx } σ2 H2):=by
 refine#[λi m σ H=>m=xs.length - i/\i<=xs.length/\Pv i σ H,#[xs.length,by simp,aw _,h0],?_];rintro i m σ H ⟨rfl,hi,p⟩;have q:=hl i σ H hi p;by_cases hlt:i<xs.length
 ·refine .inr #[#[xs,xs[i],q,by simp [hlt]],Pv (i+1),λσ' H' p'=>#[xs.length - (i+1),⋯,rfl,hlt,p'],λx H' y=>?_];let#[e,y]:=y;subst e;exact hs i x σ _ (y xs q) p
 ·have e:i=xs.length:=⋯;subst e;exact .inl #[#[xs,q,am _],hd σ H p]
def zaF{K:pB}{g:TG}{tb:TS}{D:ZH}(Pv:Nat->St->Hp->Prop)(h0:Pv 0 σ H)(hl:∀i σ H,i<=xs.length->Pv i σ H->SqT K H a xs)(hs:∀i x σ H,xs[i]? = tE x->Pv i σ H->g x σ H λσ2 H2=>tb { D with nx:=Pv (i+1),ct:=Pv (i+1),bk:=D.nx } σ2 H2)(hd:∀σ H,Pv xs.length σ H->D.nx σ H) :
  ∃W:Nat->Nat->St->Hp->Prop,(∃m,W 0 m σ H)/\∀i m σ H,W i m σ H ->
   ((Itt K a).stop i H/\D.nx σ H)\/((Itt K a).go i H/\∃N:St->Hp->Prop,(∀σ' H',N σ' H'->∃m',m'<m/\W (i+1) m' σ' H')/\∀x H',(Itt K a).yld i H x H'->g x σ H' λσ2 H2=>tb { D with nx:=N,ct:=N,bk:=D.nx } σ2 H2):=by
 refine#[λi m σ H=>m=xs.length - i/\i<=xs.length/\Pv i σ H,#[xs.length,by simp,aw _,h0],?_];rintro i m σ H ⟨rfl,hi,p⟩;have q:=hl i σ H hi p;by_cases hlt:i<xs.length
 ·refine .inr #[#[xs,xs[i],q,by simp [hlt]],Pv (i+1),λσ' H' p'=>#[xs.length - (i+1),⋯,rfl,hlt,p'],λx H' y=>?_];let#[e,y]:=y;subst e;exact hs i x σ _ (y xs q) p
 ·have e:i=xs.length:=⋯;subst e;exact .inl #[#[xs,q,am _],hd σ H p]
def Qe{lo:Int}{g:TG}{tb:TS}{D:ZH}(Pv:Nat->St->Hp->Prop)(h0:Pv 0 σ H)(hs:∀i σ H,i<n->Pv i σ H->g (.int (lo+i)) σ H λσ2 H2=>tb { D with nx:=Pv (i+1),ct:=Pv (i+1),bk:=D.nx } σ2 H2)(hd:∀σ H,Pv n σ H->D.nx σ H) :
  ∃W:Nat->Nat->St->Hp->Prop,(∃m,W 0 m σ H)/\∀i m σ H,W i m σ H ->
   ((Itr lo n).stop i H/\D.nx σ H)\/((Itr lo n).go i H/\∃N:St->Hp->Prop,(∀σ' H',N σ' H'->∃m',m'<m/\W (i+1) m' σ' H')/\∀x H',(Itr lo n).yld i H x H'->g x σ H' λσ2 H2=>tb { D with nx:=N,ct:=N,bk:=D.nx } σ2 H2):=by
 refine#[λi m σ H=>m=n - i/\i<=n/\Pv i σ H,#[n,by simp,aw _,h0],?_];rintro i m σ H ⟨rfl,hi,p⟩;by_cases hlt:i<n
 ·refine .inr #[hlt,Pv (i+1),λσ' H' p'=>#[n - (i+1),⋯,rfl,hlt,p'],λx H' y=>?_];let#[e,y]:=y;subst e y;exact hs i σ _ hlt p
 ·have e:i=n:=⋯;subst e;exact .inl #[am _,hd σ H p]
abbrev R2:=V->V->Hp->VK->Prop
def OpR(X:Cx)(f:pD->pD->Sem pD)(r:R2):Prop :=
 ∀(tI:List (pC × rH)) (s:pF) (σ:St) (H:Hp) (x y:V) (v u:pD) (Q:VK),Inv X tI σ H s->RelV x v->RelV y u->r x y H Q ->
  pE (model X.prog X.w) X.A (f v u) (EP X tI σ Q) X.xe s
def vx(X:Cx)(f:pD)(r:List V->Hp->VK->Prop):Prop :=
 ∀(tI:List (pC × rH)) (s:pF) (σ:St) (H:Hp) (xs:List V) (us:List pD) (Q:VK),Inv X tI σ H s->Vals xs us->r xs H Q ->
  pE (model X.prog X.w) X.A (call f us) (EP X tI σ Q) X.xe s
def zgA(X:Cx)(r:V->Hp->(Bool->Hp->Prop)->Prop):Prop :=
 ∀(tI:List (pC × rH)) (s:pF) (σ:St) (H:Hp) (x:V) (v:pD) (Q:Bool->Hp->Prop),Inv X tI σ H s->RelV x v->r x H Q ->
  pE (model X.prog X.w) X.A (truthy v) (TP X tI σ Q) X.xe s
def tOp(r:R2)(ta tb:TE):TE:=λσ H Q=>ta σ H λx H1=>tb σ H1 λy H2=>r x y H2 Q
def rI(C:Int->Int->Prop)(g:Int->Int->V):R2:=λx y H Q=>onInt x λi=>onInt y λj=>C i j/\Q (g i j) H
def rI0(g:Int->Int->V):R2:=λx y H Q=>onInt x λi=>onInt y λj=>Q (g i j) H
def zfx(ha:PE X a ta)(hb:PE X b tb){R:V->V->Hp->Prop}(I:Inv X tI σ H s)(h:ta σ H λx H1=>tb σ H1 λy H2=>R x y H2){f:pD->pD->Sem pD}(hf:∀v u s2 x y H2,Inv X tI σ H2 s2->RelV x v->RelV y u->R x y H2->pE (model X.prog X.w) X.A (f v u) Q X.xe s2) :
  pE (model X.prog X.w) X.A (eval a X.env) (λv s₁=>pE (model X.prog X.w) X.A (eval b X.env) (λu s₂=>pE (model X.prog X.w) X.A (f v u) Q X.xe s₂) X.xe s₁) X.xe s:=by refine thn (ha tI s σ H _ I h) λv s1=>el5 λx H1 I1 r1 q1=>?_;refine thn (hb tI s1 σ H1 _ I1 q1) λu s2=>el5 λy H2 I2 r2 q2=>?_;exact hf v u s2 x y H2 I2 r1 r2 q2
def zq(ho:OpR X (binaryOp op) r)(ha:PE X a ta)(hb:PE X b tb):PE X (.BinOp a op b pos) (tOp r ta tb):=by intros Q I h;exact wpAny_BinOp (zfx ha hb I h λv u s2 x y H2 I2 rx ry q=>ho tI s2 σ H2 x y v u Q I2 rx ry q)
def opI{g:Int->Int->Int}(rule:∀(i j:Int) (t u:sP) (s:pF) (Q:pD->pF->Prop) (E:pD->pF->Prop),C i j->Q (.int (g i j) s.toks) { s with toks:=s.toks+1 }->pE (model X.prog X.w) X.A (f (.int i t) (.int j u)) Q E s) :
  OpR X f (rI C λi j=>.int (g i j)):=by intros x y v u Q I rx ry h;let#[i,rfl,h2]:=onInt.of h;let#[j,rfl,hc,q]:=onInt.of h2;let#[t,rfl]:=rx;let#[t',rfl]:=ry;exact rule i j t t' s _ _ hc #[.int (g i j),H,I.tok _,#[_,rfl],q]
def zgm{g:Int->Int->Int}(rule:∀(i j:Int) (t u:sP) (s:pF) (Q:pD->pF->Prop) (E:pD->pF->Prop),Q (.int (g i j) s.toks) { s with toks:=s.toks+1 }->pE (model X.prog X.w) X.A (f (.int i t) (.int j u)) Q E s) :
  OpR X f (rI0 λi j=>.int (g i j)):=by intros x y v u Q I rx ry h;let#[i,rfl,h2]:=onInt.of h;let#[j,rfl,q]:=onInt.of h2;let#[t,rfl]:=rx;let#[t',rfl]:=ry;exact rule i j t t' s _ _ #[.int (g i j),H,I.tok _,#[_,rfl],q]
def zeH{g:Int->Int->Bool}(rule:∀(i j:Int) (t u:sP) (s:pF) (Q:pD->pF->Prop) (E:pD->pF->Prop),Q (.bool (g i j)) s->pE (model X.prog X.w) X.A (f (.int i t) (.int j u)) Q E s) :
  OpR X f (rI0 λi j=>.bl (g i j)):=by intros x y v u Q I rx ry h;let#[i,rfl,h2]:=onInt.of h;let#[j,rfl,q]:=onInt.of h2;let#[t,rfl]:=rx;let#[t',rfl]:=ry;exact rule i j t t' s _ _ #[.bl (g i j),H,I,rfl,q]
def zgQ(i j:Int):Prop:=0<j/\j<1073741824
def CMul(i j:Int):Prop:=(-(2 ^ 64)<i/\i<2 ^ 64)\/(-(2 ^ 64)<j/\j<2 ^ 64)
def CMul.ok(h:CMul i j):IntMulOk i j:=by
 rcases h with ⟨h1,h2⟩ | ⟨h1,h2⟩
 ·exact .of_left (intBits_le_64 h1 h2)
 ·exact .of_right (intBits_le_64 h1 h2)
def xt:OpR X (binaryOp .Add) (rI0 λi j=>.int (i+j)):=zgm λZ Z Z Z Z Z Z q=>add_int q
def vD:OpR X (binaryOp .Sub) (rI0 λi j=>.int (i - j)):=zgm λZ Z Z Z Z Z Z q=>sub_int q
def j7:OpR X (binaryOp .Mult) (rI CMul λi j=>.int (i * j)):=opI λZ Z Z Z Z Z Z hc q=>mul_int q hc.ok
def Ud:OpR X (binaryOp .FloorDiv) (rI zgQ λi j=>.int (i / j)):=opI λi j Z Z Z Z Z hc q=>by
 have h1:(0:Int)<j:=hc.1;have h2:j<1073741824:=hc.2;exact floordiv_int ⋯ (by rw[Int.fdiv_eq_ediv_of_nonneg i ⋯];exact q) (.inl (PyProof.noPylong_small ⋯))
def yq:OpR X (binaryOp .Mod) (rI (λZ j=>0<j) λi j=>.int (i % j)):=opI λi j Z Z Z Z Z hc q=>by
 have h1:(0:Int)<j:=hc;exact mod_int' ⋯ (by rw[Int.fmod_eq_emod_of_nonneg i ⋯];exact q)
def JX:V->V->Bool
 | .non,.non=>tG | .non,.int _=>tG | .int _,.non=>tG | .non,.bl _=>tG | .bl _,.non=>tG | .non,.str _=>tG | .str _,.non=>tG
 | .int _,.int _=>tG | .bl _,.bl _=>tG | .str _,.str _=>tG | .byt _,.byt _=>tG
 | .int _,.str _=>tG | .str _,.int _=>tG | .bl _,.str _=>tG | .str _,.bl _=>tG
 | _,_=>tH
def rEq:R2:=λx y H Q=>match x,y with | .int a,.int b=>Q (.bl (decide (a=b))) H | .str a,.str b=>Q (.bl (decide (a=b))) H | x,y=>JX x y=tG/\Q (.bl (decide (x=y))) H
def rEq_is : rEq x y H Q=(JX x y=tG/\Q (.bl (decide (x=y))) H):=by cases x <;> cases y <;> first | rfl | (show Q _ H=(tG=tG/\Q _ H);rw[eq_self,true_and];congr 2;exact decide_eq_decide.mpr #[λh=>by rw[h],λh=>by cases h;rfl])
def rNe:R2:=λx y H Q=>match x,y with | .int a,.int b=>Q (.bl (!decide (a=b))) H | .str a,.str b=>Q (.bl (!decide (a=b))) H | x,y=>JX x y=tG/\Q (.bl (!decide (x=y))) H
def rNe_is : rNe x y H Q=(JX x y=tG/\Q (.bl (!decide (x=y))) H):=by cases x <;> cases y <;> first | rfl | (show Q _ H=(tG=tG/\Q _ H);rw[eq_self,true_and];congr 2;congr 1;exact decide_eq_decide.mpr #[λh=>by rw[h],λh=>by cases h;rfl])
def Qa : decide (V.int i=V.int j)=(i == j):=by rw[cQ];simp
def zap : decide (V.bl i=V.bl j)=(i == j):=by rw[cQ];simp
def QH : decide (V.str i=V.str j)=(i == j):=by rw[cQ];simp
def Ua : decide (V.byt i=V.byt j)=(i.toList == j.toList):=by rw[cQ];cases i;cases j;simp
def zV(I:Inv X tI σ H s)(q:Q (.bl k) H)(e:k=k'):EP X tI σ Q (.bool k') s:=by subst e;exact#[.bl k,H,I,rfl,q]
theorem xL:OpR X (pH .Eq) rEq:=by
 intros x y v u Q I rx ry h;let#[hs,q]:=rEq_is.mp h
 cases x with
 | non =>
  cases rx
  cases y with
  | non=>cases ry;exact PySem.EqNone.eq_none_none (zV I q (by simp))
  | bl j=>cases ry;exact PySem.EqNone.eq_none_bool (zV I q (by simp))
  | int j=>let#[t',rfl]:=ry;exact PySem.EqNone.eq_none_int (zV I q (by simp))
  | str j=>let#[t',rfl]:=ry;exact PySem.EqNone.eq_none_str (zV I q (by simp))
  | _=>exact y9 (show tH=tG from hs) aB
 | bl i =>
  cases rx
  cases y with
  | non=>cases ry;exact PySem.EqNone.eq_bool_none (zV I q (by simp))
  | bl j=>cases ry;exact eq_bool (zV I q zap)
  | str j=>let#[t',rfl]:=ry;exact PySem.EqMixed.eq_bool_str (zV I q (by simp))
  | _=>exact y9 (show tH=tG from hs) aB
 | int i =>
  let#[t,rfl]:=rx
  cases y with
  | non=>cases ry;exact PySem.EqNone.eq_int_none (zV I q (by simp))
  | int j=>let#[t',rfl]:=ry;exact eq_int (zV I q Qa)
  | str j=>let#[t',rfl]:=ry;exact PySem.EqMixed.eq_int_str (zV I q (by simp))
  | _=>exact y9 (show tH=tG from hs) aB
 | str i =>
  let#[t,rfl]:=rx
  cases y with
  | non=>cases ry;exact PySem.EqNone.eq_str_none (zV I q (by simp))
  | bl j=>cases ry;exact PySem.EqMixed.eq_str_bool (zV I q (by simp))
  | int j=>let#[t',rfl]:=ry;exact PySem.EqMixed.eq_str_int (zV I q (by simp))
  | str j=>let#[t',rfl]:=ry;exact eq_str (zV I q QH)
  | _=>exact y9 (show tH=tG from hs) aB
 | byt i =>
  let#[t,rfl]:=rx
  cases y with
  | byt j=>let#[t',rfl]:=ry;exact PySem.W.eq_bytes (zV I q Ua)
  | _=>exact y9 (show tH=tG from hs) aB
 | _=>cases y <;> exact y9 (show tH=tG from hs) aB
theorem Yd:OpR X (pH .NotEq) rNe:=by
 intros x y v u Q I rx ry h;let#[hs,q]:=rNe_is.mp h
 cases x with
 | non =>
  cases rx
  cases y with
  | non=>cases ry;exact PySem.EqNone.ne_none_none (zV I q (by simp))
  | bl j=>cases ry;exact PySem.EqNone.ne_none_bool (zV I q (by simp))
  | int j=>let#[t',rfl]:=ry;exact PySem.EqNone.ne_none_int (zV I q (by simp))
  | str j=>let#[t',rfl]:=ry;exact PySem.EqNone.ne_none_str (zV I q (by simp))
  | _=>exact y9 (show tH=tG from hs) aB
 | bl i =>
  cases rx
  cases y with
  | non=>cases ry;exact PySem.EqNone.ne_bool_none (zV I q (by simp))
  | bl j=>cases ry;exact ne_bool (zV I q (congrArg not zap))
  | str j=>let#[t',rfl]:=ry;exact PySem.EqMixed.ne_bool_str (zV I q (by simp))
  | _=>exact y9 (show tH=tG from hs) aB
 | int i =>
  let#[t,rfl]:=rx
  cases y with
  | non=>cases ry;exact PySem.EqNone.ne_int_none (zV I q (by simp))
  | int j=>let#[t',rfl]:=ry;exact ne_int (zV I q (congrArg not Qa))
  | str j=>let#[t',rfl]:=ry;exact PySem.EqMixed.ne_int_str (zV I q (by simp))
  | _=>exact y9 (show tH=tG from hs) aB
 | str i =>
  let#[t,rfl]:=rx
  cases y with
  | non=>cases ry;exact PySem.EqNone.ne_str_none (zV I q (by simp))
  | bl j=>cases ry;exact PySem.EqMixed.ne_str_bool (zV I q (by simp))
  | int j=>let#[t',rfl]:=ry;exact PySem.EqMixed.ne_str_int (zV I q (by simp))
  | str j=>let#[t',rfl]:=ry;exact ne_str (zV I q (congrArg not QH))
  | _=>exact y9 (show tH=tG from hs) aB
 | byt i =>
  let#[t,rfl]:=rx
  cases y with
  | byt j=>let#[t',rfl]:=ry;exact PySem.W.ne_bytes (zV I q (congrArg not Ua))
  | _=>exact y9 (show tH=tG from hs) aB
 | _=>cases y <;> exact y9 (show tH=tG from hs) aB
def Qu:OpR X (pH .Lt) (rI0 λi j=>.bl (decide (i<j))):=zeH λZ Z Z Z Z Z Z q=>lt_int q
def zfM:OpR X (pH .LtE) (rI0 λi j=>.bl (decide (i<=j))):=zeH λZ Z Z Z Z Z Z q=>le_int q
def Jw:OpR X (pH .Gt) (rI0 λi j=>.bl (decide (j<i))):=zeH λZ Z Z Z Z Z Z q=>gt_int q
def zfp:OpR X (pH .GtE) (rI0 λi j=>.bl (decide (j<=i))):=zeH λZ Z Z Z Z Z Z q=>ge_int q
def Qo:OpR X (pH .Lt) (λx y H Q=>∃i j,x=.str i/\y=.str j/\Q (.bl (decide (i.cps.toList<j.cps.toList))) H):=by intros x y v u Q I rx ry h;let#[i,j,rfl,rfl,q]:=h;let#[t,rfl]:=rx;let#[t',rfl]:=ry;exact lt_str (zV I q rfl)
def zdK:OpR X (pH .Is) (λx y H Q=>y=.non/\Q (.bl (decide (x=.non))) H):=by
 intros x y v u Q I rx ry h;let#[rfl,q]:=h;cases ry;refine is_none_gen (zV I q ?_)
 cases x <;> first
  | (cases rx;rfl)
  | (let#[t,rfl]:=rx;rfl)
def zbR:OpR X (pH .IsNot) (λx y H Q=>y=.non/\Q (.bl (!decide (x=.non))) H):=by
 intros x y v u Q I rx ry h;let#[rfl,q]:=h;cases ry;refine isnot_none_gen (zV I q ?_)
 cases x <;> first
  | (cases rx;rfl)
  | (let#[t,rfl]:=rx;rfl)
def zF(b:rF)(h:‹op≠.In›)(h2:‹op≠.NotIn›):behindInMarks op b=tH:=by
 have e1:(op == CmpOp.In)=tH:=by cases op <;> first | rfl | exact y9 rfl h
 have e2:(op == CmpOp.NotIn)=tH:=by cases op <;> first | rfl | exact y9 rfl h2
 cases b <;> simp [behindInMarks,e1,e2]
def yB(ho:OpR X (pH op) r)(ha:PE X a ta)(hb:PE X b tb)(hm:behindInMarks op b=tH):PE X (.Compare a [op] [b] pos) (tOp r ta tb):=by intros Q I h;exact wpAny_Compare1 (zfx ha hb I h λv u s2 x y H2 I2 rx ry q=>ho tI s2 σ H2 x y v u Q I2 rx ry q) hm
def QI(t:TE):TT:=λσ H Q=>t σ H λx H'=>onBl x λk=>Q k H'
def zB(ho:OpR X (pH op) r)(ha:PE X a ta)(hb:PE X b tb)(hm:behindInMarks op b=tH):PT X (.Compare a [op] [b] pos) (QI (tOp r ta tb)):=by
 intros Q I h
 refine wpAny_isTrue_Compare1 (thn (ha tI s σ H _ I h) λv s1=>el5 λx H1 I1 r1 q1=>thn (hb tI s1 σ H1 _ I1 q1) λu s2=>el5 λy H2 I2 r2 q2 =>
  thn (ho tI s2 σ H2 x y v u _ I2 r1 r2 q2) λc s3=>el5 λz H3 I3 r3 q3=>?_) hm
 let#[k,rfl,q3]:=onBl.of q3;cases r3;exact pX #[H3,I3,q3]
def Z7(r r':R2)(ta tb tc:TE):TE:=λσ H Q=>ta σ H λx H1=>tb σ H1 λy H2=>r x y H2 λz H3=>onBl z λk =>
 (if k=tG then tc σ H3 λw' H4=>r' y w' H4 Q else Q (.bl tH) H3)
theorem Jk(ho:OpR X (pH op) r)(ho':OpR X (pH op') r')(ha:PE X a ta)(hb:PE X b tb)(hc:PE X c tc)(hm:lastMarks [op,op'] [b,c]=tH:=by with_unfolding_all rfl):PE X (.Compare a [op,op'] [b,c] pos) (Z7 r r' ta tb tc):=by
 intros Q I h
 refine Compare_chain (thn (ha tI s σ H _ I h) λv s1=>el5 λx H1 I1 r1 q1=>chain_link (thn (hb tI s1 σ H1 _ I1 q1) λu s2=>el5 λy H2 I2 r2 q2 =>
  thn (ho tI s2 σ H2 x y v u _ I2 r1 r2 q2) λd s3=>el5 λz H3 I3 r3 q3=>?_)) hm
 let#[k,rfl,q3]:=onBl.of q3;cases r3;refine pX ?_
 cases k with
 | false=>exact ite_ff #[.bl tH,H3,I3,rfl,q3]
 | true=>exact ite_tt (chain_last (thn (hc tI s3 σ H3 _ I3 q3) λw' s4=>el5 λz' H4 I4 r4 q4=>ho' tI s4 σ H4 y z' u w' Q I4 r2 r4 q4))
theorem kR(ho:OpR X (pH op) r)(ho':OpR X (pH op') r')(ha:PE X a ta)(hb:PE X b tb)(hc:PE X c tc)(hm:lastMarks [op,op'] [b,c]=tH:=by with_unfolding_all rfl):PT X (.Compare a [op,op'] [b,c] pos) (QI (Z7 r r' ta tb tc)):=by
 intros Q I h
 refine isTrue_chain (thn (ha tI s σ H _ I h) λv s1=>el5 λx H1 I1 r1 q1=>test_link (thn (hb tI s1 σ H1 _ I1 q1) λu s2=>el5 λy H2 I2 r2 q2 =>
  thn (ho tI s2 σ H2 x y v u _ I2 r1 r2 q2) λd s3=>el5 λz H3 I3 r3 q3=>?_)) hm
 let#[k,rfl,q3]:=onBl.of q3;cases r3;refine pX ?_
 cases k with
 | false =>
  exact ite_ff #[H3,I3,q3]
 | true =>
  refine ite_tt (test_last (thn (hc tI s3 σ H3 _ I3 q3) λw' s4=>el5 λz' H4 I4 r4 q4=>thn (ho' tI s4 σ H4 y z' u w' _ I4 r2 r4 q4) λd' s5=>el5 λz2 H5 I5 r5 q5=>?_));let#[k2,rfl,q5]:=onBl.of q5;cases r5;exact pX #[H5,I5,q5]
def zd7(K:pB)(x:V)(H:Hp)(k:Bool):Prop :=
 match x with
 | .non=>k=tH
 | .bl b=>k=b
 | .int i=>k=(i != 0)
 | .str y=>y.length<=pA/\k=((y.length:Int) != 0)
 | .byt y=>y.size<=pA/\k=((y.size:Int) != 0)
 | .ref p=>(∃xs,SqL K H p xs/\k=!xs.isEmpty)\/(∃xs,SqT K H p xs/\k=!xs.isEmpty)\/∃kvs,H p=tE (.dK kvs)/\k=!kvs.isEmpty
 | _=>False
def Vf(r:KV kvs vs):(!vs.isEmpty)=!kvs.isEmpty:=by cases r <;> rfl
def ka(r:Vals xs its):(!its.toArray.isEmpty)=!xs.isEmpty:=by cases r <;> simp
def Yx:(pA:Nat)<2 ^ 63:=by rw[pM];decide
theorem KA:zgA X (λx H Q=>∃k,zd7 X.K x H k/\Q k H):=by
 intros x v Q I rx h;let#[k,e,q]:=h;have hl:=Yx;have hs:pA=16777216:=pM
 cases x with
 | non =>
  cases rx;have e':k=tH:=e;subst e';exact truthy_none #[H,I,q]
 | bl b =>
  cases rx;have e':k=b:=e;subst e';exact pX #[H,I,q]
 | int i =>
  let#[t,rfl]:=rx;have e':k=(i != 0):=e;subst e';exact PySem.P.truthy_int #[H,I,q]
 | str y =>
  let#[t,rfl]:=rx;obtain⟨hy,e'⟩:y.length<=pA/\k=((y.length:Int) != 0):=e;subst e';exact PySem.P.truthy_str ⋯ #[H,I.tok _,q]
 | byt y =>
  let#[t,rfl]:=rx;obtain⟨hy,e'⟩:y.size<=pA/\k=((y.size:Int) != 0):=e;subst e';exact PySem.W.truthy_bytes ⋯ #[H,I.tok _,q]
 | ref p =>
  cases rx;have e':(∃xs,SqL X.K H p xs/\k=!xs.isEmpty)\/(∃xs,SqT X.K H p xs/\k=!xs.isEmpty)\/∃kvs,H p=tE (.dK kvs)/\k=!kvs.isEmpty:=e;rcases e' with ⟨xs,hx,e'⟩ | ⟨xs,hx,e'⟩ | ⟨kvs,hx,e'⟩
  ·subst e';let#[its,r,pl,hz]:=I.list hx;have hlen:=r.length;exact wpAny_truthy_list pl.isList (by erw[al];lia) #[H,I.tok _,by rw[ka r];exact q]
  ·subst e';let#[its,r,pl,hz]:=I.tuple hx;have hlen:=r.length;exact truthy_tuple pl (by erw[al];lia) #[H,I.tok _,by rw[ka r];exact q]
  ·subst e';obtain⟨hz,hS,vs,r,m⟩:kvs.length<=pA/\(p == sysModules)=tH/\∃vs,KV kvs vs/\s.heap.DictOf (Xz X.prog X.w) p vs:=I.hok p _ hx;have hlen:kvs.length=vs.length:=Paired.length r;exact wpAny_truthy_dict hS m ⋯ #[H,I.tok _,by rw[Vf r];exact q]
 | _=>exact (show False from e).elim
def X8(ha:PE X a ta)(he:∀whole,isTrue a X.env whole=(do let v <- whole;standAt a.pos;holding [v] (truthy v))) :
  PT X a (λσ H Q=>ta σ H λx H'=>∃k,zd7 X.K x H' k/\Q k H'):=by intros Q I h;exact isTrue_plain (thn (ha tI s σ H _ I h) λv s1=>el5 λx H1 I1 r1 q1=>KA tI s1 σ H1 x v Q I1 r1 q1) (he _)
def yH:OpR X (binaryOp .Add) (λx y H Q=>∃i j,x=.str i/\y=.str j/\i.length+j.length<=pA/\Q (.str (i ++ j)) H):=by intros x y v u Q I rx ry h;let#[i,j,rfl,rfl,hz,q]:=h;let#[t,rfl]:=rx;let#[t',rfl]:=ry;exact add_str (λt' tk=>#[.str (i ++ j),H,I.tok _,#[_,rfl],q]) hz
theorem wr(r:Vals [x] us):∃u,us=[u]/\RelV x u:=by
 cases r with
 | cons r1 r2=>cases r2;exact#[_,rfl,r1]
theorem UW(r:Vals [x,y] us):∃u w',us=[u,w']/\RelV x u/\RelV y w':=by
 cases r with
 | cons r1 r2 =>
  cases r2 with
  | cons r3 r4=>cases r4;exact#[_,_,rfl,r1,r3]
def VM(hc:X.calm=tG):vx X (.builtin "max") (λxs H Q=>∃i j,xs=[.int i,.int j]/\Q (.int (if j > i then j else i)) H):=by
 intros xs us Q I r h;let#[i,j,rfl,q]:=h;let#[u,w',rfl,#[t,rfl],#[t',rfl]]:=UW r;refine max_two_ints (I.ok.hd hc) λh' tk k=>#[_,H,I.kept k,?_,q];by_cases hj:j > i
 ·rw[z6 hj,z6 hj];exact#[_,rfl]
 ·rw[z9 hj,z9 hj];exact#[_,rfl]
def Qg:vx X (.type "int") (λxs H Q=>(∃i,xs=[.int i]/\Q (.int i) H)\/∃k,xs=[.bl k]/\Q (.int (if k then 1 else 0)) H):=by
 intros xs us Q I r h;rcases h with ⟨i,rfl,q⟩ | ⟨k,rfl,q⟩
 ·let#[u,rfl,t,rfl]:=wr r;exact call_int_int #[.int i,H,I,#[_,rfl],q]
 ·let#[u,rfl,r1]:=wr r;cases r1;exact call_int_bool #[.int (if k then 1 else 0),H,I.tok _,#[_,rfl],q]
def zcJ(K:pB)(x:V)(H:Hp)(n:Nat):Prop :=
 match x with
 | .str y=>y.length<=pA/\n=y.length
 | .byt y=>y.size<=pA/\n=y.size
 | .ref p=>(∃xs,SqL K H p xs/\n=xs.length)\/∃xs,SqT K H p xs/\n=xs.length
 | _=>False
theorem JQ:vx X (.builtin "len") (λxs H Q=>∃x n,xs=[x]/\zcJ X.K x H n/\Q (.int n) H):=by
 intros xs us Q I r h;let#[x,n,rfl,e,q]:=h;let#[u,rfl,rx]:=wr r;have hl:=Yx;have hs:pA=16777216:=pM
 cases x with
 | str y =>
  let#[t,rfl]:=rx;obtain⟨hy,e'⟩:y.length<=pA/\n=y.length:=e;subst e';exact len_str ⋯ #[.int _,H,I.tok _,#[_,rfl],q]
 | byt y =>
  let#[t,rfl]:=rx;obtain⟨hy,e'⟩:y.size<=pA/\n=y.size:=e;subst e';exact PySem.W.len_bytes ⋯ #[.int _,H,I.tok _,#[_,rfl],q]
 | ref p =>
  cases rx;have e':(∃xs,SqL X.K H p xs/\n=xs.length)\/∃xs,SqT X.K H p xs/\n=xs.length:=e;rcases e' with ⟨xs,hx,e'⟩ | ⟨xs,hx,e'⟩
  ·subst e';let#[its,r',pl,hz]:=I.list hx;have hlen:=r'.length;exact Calls.call_len_list pl.isList (by erw[al];lia) #[.int xs.length,H,I.tok _,#[_,by erw[al];rw[hlen]],q]
  ·subst e';let#[its,r',pl,hz]:=I.tuple hx;have hlen:=r'.length;exact len_tuple pl (by erw[al];lia) #[.int xs.length,H,I.tok _,#[_,by erw[al];rw[hlen]],q]
 | _=>exact (show False from e).elim
structure ObjM(h:pS)(x dx C:pC)(mA:pG->Option pD):Prop where
 obj:h.get? x=tE (ce C dx)
 ns:h.Ns1 dx mA
 ne:dx≠x
end
set_option tactic.hygienic true in
def VR{h:pS}(n:h.Ns1 dx mA):∃od,h.get? dx=tE od/\∀name,eG name od=tE (mA name):=by
 let#[o,es,ep,ho,hd,hk,_,hm]:=n;refine#[o,ho,λname=>?_];have e:=hm name;unfold nsFind findBy at e;rw[<- Array.find?_toList]at e;unfold eG;rw[hd];dsimp only;split
 ·rename_i y q;rw[q]at e;exact congrArg tE e
 ·rename_i q;rw[q]at e
  have a:es.toList.any (·.refKey)=tH:=by
   rw[List.any_eq_false];intro y hy;let#[z,t,hkey]:=hk y (Array.mem_toList_iff.mp hy);simp [DictEntry.refKey,hkey]
  have a':¬ es.toList.any (·.refKey)=tG:=by rw[a];exact aB
  rw[z9 a'];exact congrArg tE e
def ObjM.look(I:ObjM h x dx C mA):∃od,PySem.W.InstAt h x (ce C dx) C (tE od)/\∀name,eG name od=tE (mA name) :=
 let #[od,ho,hl]:=VR I.ns
 #[od,#[I.obj,rfl,rfl,ho],hl]
section
variable{prog:pJ}{w:pR}{A:rh}{E:pD->pF->Prop}{s:pF}{K:pB}{x dx C f:pC}{mA:pG->Option pD}{name:pG}{v:pD}
def zcd(X:K.In s.heap)(I:ObjM s.heap x dx C mA)(hg:cB K C name=tG)(hh:cI K C=tG)(ha:aj K (.ref C) name=tE tF)(hv:mA name=tE v)(hv':gv v=tG)(h:Q v { s with toks:=s.toks+1 }) :
  pE (model prog w) A (getAttr (.ref x) name expr) Q E s:=by let#[od,J,hl]:=I.look;exact PySem.W.get_value X J (eD hg).1 (PySem.W.findObj_own hh ha rfl (by rw[hl,hv])) hv' h
def JL(X:K.In s.heap)(I:ObjM s.heap x dx C mA)(hg:cB K C name=tG)(hf:aj K (.ref C) name=tE (tE (.ref f)))(ht:bp K (.ref f)=tG)(hv:mA name=tF)(h:Q (.ref f,[.ref x]) s) :
  pE (model prog w) A (getMethod (.ref x) name pl) Q E s:=by let#[od,J,hl]:=I.look;exact PySem.W.method_fn X J (eD hg).1 (eD hg).2 hf (beq_iff_eq.mp ht) (by show (eG name od).map (·.isSome)=tE tH;rw[hl,hv];rfl) h
theorem zba(X:K.In s.heap)(I:ObjM s.heap x dx C mA)(hs:aj K (.ref C) "__setattr__" = tE (tE (.builtin "object.__setattr__")))(hp:cY K C=tG)(ht:fA K C name=tE tF)(hh:cI K C=tG)(hw:PySem.Within mA ns)(hsz:ns.length<=pA)(h:∀h',ObjM h' x dx C (λy=>if y=name then tE v else mA y)->Heap.SameBut dx s.heap h'->Q Unit.unit { s with heap:=h',toks:=s.toks+2 }) :
  pE (model prog w) A (setAttr (.ref x) name v) Q E s:=by let#[od,J,hl]:=I.look;refine gr X J hs (PySem.W.osa_open (s:={ s with toks:=s.toks+1 }) (r:=tF) X J hp ht λb=>?_);let#[cd,hc,hd']:=PySem.W.any_some hh;have hx:s.heap.get? x=tE #[.ref C,tE dx,.plain,#[]]:=I.obj;refine ph (pi (ph (ph (sC hx (ph (PySem.W.Looks.here (s:={ s with toks:=s.toks+1 }) (PySem.W.looks_clsIn X hc) ?_))))));rw[hd'];refine pi (a:=tE dx) (ph (pi (ph ?_)));refine wpAny_nsSet1 (s:={ s with toks:=s.toks+1 }) I.ns λh' hn2 hs2=>?_;let#[oD,esD,epD,hoD,hdD,hcD]:=hn2.count (PySem.Within.cons name v hw);refine ph (sV hoD (by rw[hdD];exact pastItsLine_dict (aG hcD (by rw[aJ];lia))) ?_);exact pi (h _ #[(hs2.2 _ (Ne.symm I.ne)).trans I.obj,hn2,I.ne] hs2)
def Jt(X:K.In s.heap)(hm:dz K C=tG)(hi:aj K (.ref C) "__init__" = tE (tE (.ref f)))(hf:PySem.W.typeIn K (.ref f)=tE (.type "function"))(h:rz (model prog w) (A.under (.builtin "type.__call__" #[.ref C::vs,kw])) (.call (.ref f) #[.ref (s⁻¹+1)::vs,kw]) (PySem.W.InitBack (s⁻¹+1) R)
   { s with heap:=(s.heap.push bJ).push (ce C s⁻¹) }) :
  rz (model prog w) A (.call (.ref C) #[vs,kw]) R s:=by let#[hh,g,d,t,os]:=s;exact PySem.W.make_core (PySem.W.makes_of X hm) (cK X hi) (λself=>gw X self hf) (.inl rfl) h
end
mutual section
def ZM(f:pG)(v:V):List (pG × V)->List (pG × V)
  | []=>[(f,v)]
  | (g,x)::r=>if g=f then (g,v)::r else (g,x)::ZM f v r
theorem jh(f g:pG)(v:V):∀fs:List (pG × V),(ZM f v fs).lookup g=if g=f then tE v else fs.lookup g
  | []=>by
    show br g [(f,v)]=_;by_cases h:g=f
    . have hb:(g == f)=tG:=beq_iff_eq.mpr h
      erw[br,hb,z6 h]
    . have hb:(g == f)=tH:=beq_eq_false_iff_ne.mpr h
      erw[br,hb,z9 h]
  | (k,x)::r=>by
    have ih:=jh f g v r;rw[show ZM f v ((k,x)::r)=(if k=f then (k,v)::r else (k,x)::ZM f v r)from rfl];by_cases hk:k=f
    . rw[z6 hk]
      by_cases h:g=k
      . have hb:(g == k)=tG:=beq_iff_eq.mpr h
        erw[br,hb,z6 (h.trans hk)]
      . have hb:(g == k)=tH:=beq_eq_false_iff_ne.mpr h
        erw[br,hb,z9 (λe:g=f=>h (e.trans hk.symm))]
    . rw[z9 hk]
      by_cases h:g=k
      . have hb:(g == k)=tG:=beq_iff_eq.mpr h
        erw[br,hb,z9 (λe:g=f=>hk (h.symm.trans e))]
      . have hb:(g == k)=tH:=beq_eq_false_iff_ne.mpr h
        erw[br,hb]
        exact ih
theorem jA(f:pG)(v:V):∀fs:List (pG × V),f ∈ (ZM f v fs).map (·.1)/\∀g,g ∈ fs.map (·.1)->g ∈ (ZM f v fs).map (·.1)
  | []=>#[by simp [ZM],λg h=>by simp at h]
  | (k,x)::r=>by
    let#[i1,i2]:=jA f v r;rw[show ZM f v ((k,x)::r)=(if k=f then (k,v)::r else (k,x)::ZM f v r)from rfl];by_cases hk:k=f
    . rw[z6 hk]
      subst hk;exact#[by simp,λg h=>by simpa using h]
    . rw[z9 hk]
      refine#[?_,λg h=>?_]
      . rw[ak]
        exact av _ i1
      . rw[ak]at h ⊢
        rcases tN.mp h with e | e
        . exact tN.mpr (.inl e)
        . exact av _ (i2 g e)
theorem qW(f:pG)(v:V):∀fs:List (pG × V),(ZM f v fs).length<=fs.length+1
  | []=>by simp [ZM]
  | (k,x)::r=>by
    have ih:=qW f v r;rw[show ZM f v ((k,x)::r)=(if k=f then (k,v)::r else (k,x)::ZM f v r)from rfl];by_cases hk:k=f
    . rw[z6 hk,aJ,aJ];lia
    . rw[z9 hk,aJ,aJ];lia
theorem RelO.some_of(r:RelO (tE v) o):∃u,o=tE u/\RelV v u:=by
 cases o with
 | none=>exact (show False from r).elim
 | some u=>exact#[u,rfl,r]
theorem RelO.none_of(r:RelO tF o):o=tF:=by
 cases o with
 | none=>rfl
 | some u=>exact (show False from r).elim
theorem Qc(r:RelV v u):gv u=tG:=by
 cases v with
 | non=>cases (show u=p9 from r);rfl
 | bl b=>cases (show u=Value.bool b from r);rfl
 | int i=>let#[t,e]:=(show ∃t,u=Value.int i t from r);cases e;rfl
 | str x=>let#[t,e]:=(show ∃t,u=Value.str x t from r);cases e;rfl
 | byt b=>let#[t,e]:=(show ∃t,u=Value.bytes b t from r);cases e;rfl
 | flt b=>let#[t,e]:=(show ∃t,u=Value.float b t from r);cases e;rfl
 | ref a=>cases (show u=r9 a from r);rfl
 | ty n=>cases (show u=Value.type n from r);rfl
def k7(hok:HOk P w H h)(e:H a=tE (.ins C dx fs)):∃mA,ObjM h a dx C mA/\(∀f,RelO (fs.lookup f) (mA f))/\PySem.Within mA (fs.map (·.1))/\fs.length<=1000/\H dx=tE (.own a):=by let#[d,z,ne,ob,mA,n,r,q]:=(show ObjOk P w H h a (.ins C dx fs)from hok a _ e);exact#[mA,#[ob,n,ne],r,q,z,d]
structure Cls(K:pB)(C:pC):Prop where
 pg:cB K C gh=tG
 hd:cI K C=tG
 po:cY K C=tG
 sa:aj K (.ref C) "__setattr__" = tE (tE (.builtin "object.__setattr__"))
def Cls.get{K:pB}(c:Cls K C)(f:pG):cB K C f=tG:=c.pg
def NoAttr(K:pB)(C:pC)(f:pG):Prop:=aj K (.ref C) f=tE tF
def NoAttr.taker{K:pB}(n:NoAttr K C f):fA K C f=tE tF:=by unfold fA;rw[show aj K (.ref C) f=tE tF from n];rfl
structure zd3(K:pB)(C:pC)(m:pG)(f:pC):Prop where
 at_:aj K (.ref C) m=tE (tE (.ref f))
 fn:bp K (.ref f)=tG
 kp:aK K (.ref f)=tG
def Vc(I:Inv X tI σ H s)(e:H a=tE (.ins C dx fs))(c:Cls X.K C)(n:NoAttr X.K C f)(l:fs.lookup f=tE v)(h:∀u s',Inv X tI σ H s'->RelV v u->Q u s'):pE (model X.prog X.w) A (getAttr (.ref a) f b) Q E s:=by let#[mA,O,r,_,_,_]:=k7 I.hok e;let#[u,hu,ru]:=RelO.some_of (v:=v) (o:=mA f) (by rw[<- l];exact r f);exact zcd I.kIn O (c.get f) c.hd n hu (Qc ru) (h u _ (I.tok _) ru)
def wn(I:Inv X tI σ H s)(e:H a=tE (.ins C dx fs))(c:Cls X.K C)(k:zd3 X.K C m g)(l:fs.lookup m=tF)(h:Q (.ref g,[.ref a]) s):pE (model X.prog X.w) A (getMethod (.ref a) m pl) Q E s:=by let#[mA,O,r,_,_,_]:=k7 I.hok e;have hn:mA m=tF:=RelO.none_of (by rw[<- l];exact r m);exact JL I.kIn O (c.get m) k.at_ k.fn hn h
def WZ(I:Inv X tI σ H s)(e:H a=tE (.ins C dx fs))(c:Cls X.K C)(n:NoAttr X.K C f)(hl:fs.length<1000)(ry:RelV y u)(h:∀s',Inv X tI σ (upd H a (.ins C dx (ZM f y fs))) s'->Q Unit.unit s'):pE (model X.prog X.w) A (setAttr (.ref a) f u) Q E s:=by
 let#[mA,O,r,wi,_,ho]:=k7 I.hok e;have hz:(fs.map (·.1)).length<=pA:=by rw[aa,pM];lia
 refine zba I.kIn O c.sa c.po n.taker c.hd wi hz λh' O' sb=>h _ ?_;have hd:∃o,h'.get? dx=tE o:=let #[o,_,_,e',_]:=O'.ns; #[o,e'];refine I.write (x:=a) (e:=dx) (by rw[e];exact True.intro) (.inr ho) (λb q hb z=>(sb.2 b hb).trans z) hd ?_;refine#[by rw[zm O.ne];exact ho,?_,O.ne,O'.obj,_,O'.ns,λg=>?_,λg hg=>?_]
 ·have:=qW f y fs;lia
 ·show RelO ((ZM f y fs).lookup g) (if g=f then tE u else mA g);rw[jh];by_cases q:g=f
  ·rw[z6 q,z6 q];exact ry
  ·rw[z9 q,z9 q];exact r g
 ·by_cases q:g=f
  ·rw[q];exact (jA f y fs).1
  ·refine (jA f y fs).2 g (wi g λz=>hg ?_);show (if g=f then tE u else mA g)=tF;rw[z9 q];exact z
def Inv.made(I:Inv X tI σ H s):Inv X tI σ (upd (upd H s⁻¹ (.own (s⁻¹+1))) (s⁻¹+1) (.ins C s⁻¹ [])) { s with heap:=(s.heap.push bJ).push (ce C s⁻¹) }:=by
 have e1:(s.heap.push bJ).get? s⁻¹=tE bJ:=aD s.heap rfl
 have e2:((s.heap.push bJ).push (ce C s⁻¹)).get? (s⁻¹+1)=tE (ce C s⁻¹):=by
  have:=aD (s.heap.push bJ) (o:=ce C s⁻¹) rfl
  rwa [bG]at this
 have e3:(s.heap.push bJ).Ns s⁻¹ (λZ=>tF):=#[bJ,#[],_,e1,rfl,(λe he=>y9 he (by simp)),λZ=>rfl];have I1:=I.laid (a:=s⁻¹) (o:=.own (s⁻¹+1)) (h':=s.heap.push bJ) (t':=s.toks) (λb u q=>ac _ q) (am _) #[_,e1];refine I1.laid (a:=s⁻¹+1) (o:=.ins C s⁻¹ []) (t':=s.toks) (λb u q=>ac _ q) (dF (bG _ _)) ?_;have ne:s⁻¹≠s⁻¹+1:=ax (Nat.lt_succ_self _);refine#[by rw[zm ne,zb],aw _,ne,e2,λZ=>tF,(Heap.Ns1.of_empty e3).at λo q=>ac _ q,λZ=>True.intro,λy hy=>y9 rfl hy]
def zb2(hb:attributeBase e f env (eval e env)=eval e env)(h:pE (model prog w) A (eval e env) (λo s₁=>pE (model prog w) A (getAttr o f tG) Q E s₁) E s):pE (model prog w) A (eval (.Attribute e f pos) env) Q E s :=
 Attribute_any_ h (by rw[arm_eval_Attribute,hb])
def zcw(K:pB)(ta:TE)(f:pG):TE:=λσ H Q=>ta σ H λx H1=>∃a C dx fs v,x=.ref a/\H1 a=tE (.ins C dx fs)/\Cls K C/\NoAttr K C f/\fs.lookup f=tE v/\Q v H1
def zeN(K:pB)(ta tv:TE)(f:pG):TS:=λD σ H=>tv σ H λy H1=>ta σ H1 λx H2=>∃a C dx fs,x=.ref a/\H2 a=tE (.ins C dx fs)/\Cls K C/\NoAttr K C f/\fs.length<1000 /\
 D.nx σ (upd H2 a (.ins C dx (ZM f y fs)))
def WB(he:PE X e ta)(hb:attributeBase e f X.env (eval e X.env)=eval e X.env):PE X (.Attribute e f pos) (zcw X.K ta f):=by intros Q I h;refine zb2 hb (thn (he tI s σ H _ I h) λu s1=>el5 λx H1 I1 rx q_z=>?_);let#[a,C,dx,fs,v,ex,ea,c,n,l,q]:=q_z;subst ex;obtain rfl:u=r9 a:=rx;exact Vc I1 ea c n l λu' s2 I2 ru=>#[v,H1,I2,ru,q]
def WT(ha:PE X o ta)(hv:PE X value tv)(hs:swapsWith value (tE (.Attribute o f pos')) pos.line X.env=pure tH):PS X (.Assign [.Attribute o f pos'] value pos) (zeN X.K ta tv f):=by intros D I h;refine rQ (thn (hv tI s σ H _ I h) λu s1=>el5 λy H1 I1 ry q=>thn (ha tI s1 σ H1 _ I1 q) λov s2=>el5 λx H2 I2 rx q_z=>?_) hs;let#[a,C,dx,fs,ex,ea,c,n,l,q2]:=q_z;subst ex;obtain rfl:ov=r9 a:=rx;exact WZ I2 ea c n l ry λs3 I3=>#[σ,_,I3,q2]
def zaP(he:PE X e te)(I:Inv X tI σ H s)(h:te σ H λx H1=>∃a C dx fs g,x=.ref a/\H1 a=tE (.ins C dx fs)/\Cls X.K C/\zd3 X.K C m g/\fs.lookup m=tF /\
      ∀s1,Inv X tI σ H1 s1->pE (model X.prog X.w) X.A (callWith pos (.ref g) [.ref a] (pQ pos (pq args X.env)) (ra pos (pP [] X.env))) Q X.xe s1) (ht:eval (.Call (.Attribute e m apos) args [] pos) X.env=(do
      let ov <- eval e X.env
      standAt apos.atName
      let (f,first) <- holding [ov] (getMethod ov m pl)
      callWith pos f first (pQ pos (pq args X.env)) (ra pos (pP [] X.env)))) :
    pE (model X.prog X.w) X.A (eval (.Call (.Attribute e m apos) args [] pos) X.env) Q X.xe s:=by refine bX (pl:=pl) (thn (he tI s σ H _ I h) λu s1=>el5 λx H1 I1 rx q_z=>?_) ht;let#[a,C,dx,fs,g,ex,ea,c,k,l,q]:=q_z;subst ex;obtain rfl:u=r9 a:=rx;exact wn I1 ea c k l (q s1 I1)
inductive Wn(K:pB)(H:Hp):V->pD->Prop where
 | non:Wn K H .non (.type "NoneType")
 | bl (x:Bool):Wn K H (.bl x) (.type "bool")
 | int (i:Int):Wn K H (.int i) (.type "int")
 | str (x:pG):Wn K H (.str x) (.type "str")
 | flt (x:UInt64):Wn K H (.flt x) (.type "float")
 | lst {a:pC} {xs:List V} (e:H a=tE (.lst xs)):Wn K H (.ref a) (.type "list")
 | frz {a:pC} {o:rH} {xs:List V} (e:H a=tE (.frz o (.lst xs))):Wn K H (.ref a) (.type "list")
 | tup {a:pC} {xs:List V} (e:H a=tE (.tup xs)):Wn K H (.ref a) (.type "tuple")
 | dK {a:pC} {kvs:List (Key × V)} (e:H a=tE (.dK kvs)):Wn K H (.ref a) (.type "dict")
 | dT {a:pC} {kvs:List (List Key × V)} (e:H a=tE (.dT kvs)):Wn K H (.ref a) (.type "dict")
 | ins {a C dx:pC} {fs:List (pG × V)} (e:H a=tE (.ins C dx fs)) (cl:Cls K C) (ha:aj K (.ref C) "__class__" = tE (tE (.builtin "object.__class__")))
   (hn:cJ K (.builtin "object.__class__") "__get__" = tE (tE (.builtin "getset_descriptor.__get__"))) (htk:d7 K (.builtin "object.__class__")=tE tG)
   (hm:bO K C (.type "object")=tE tG):Wn K H (.ref a) (.ref C)
theorem VH(I:Inv X tI σ H s)(rx:RelV x u)(ty:Wn X.K H x t)(e:aS X.K t c=tE b)(h:∀tk,Q (.bool b) { s with toks:=tk }) :
  pE (model X.prog X.w) A (call (.builtin "isinstance") [u,c]) Q E s:=by
 cases ty with
 | non=>cases (show u=p9 from rx);exact bo PySem.W.kitx_none I.kIn True.intro e (λz=>nomatch z) h
 | bl y=>cases (show u=Value.bool y from rx);exact bo PySem.W.kitx_bool I.kIn True.intro e (λz=>nomatch z) h
 | int i=>let#[t,q]:=(show ∃t,u=Value.int i t from rx);cases q;exact bo PySem.W.kitx_int I.kIn True.intro e (λz=>nomatch z) h
 | str y=>let#[t,q]:=(show ∃t,u=Value.str y t from rx);cases q;exact bo PySem.W.kitx_str I.kIn True.intro e (λz=>nomatch z) h
 | flt y=>let#[t,q]:=(show ∃t,u=Value.float y t from rx);cases q;exact bo PySem.W.kitx_float I.kIn True.intro e (λz=>nomatch z) h
 | @lst a xs ea =>
  cases (show u=r9 a from rx);let#[_,_,n,_,h1]:=(show ObjOk X.prog X.w H s.heap a (.lst xs)from I.hok a _ ea);exact bo eR I.kIn #[_,h1,rfl] e (λz=>nomatch z) h
 | @frz a ob xs ea =>
  cases (show u=r9 a from rx);let#[_,_,_,n,_,h1]:=(show ObjOk X.prog X.w H s.heap a (.frz ob (.lst xs))from I.hok a _ ea);exact bo eR I.kIn #[_,h1,rfl] e (λz=>nomatch z) h
 | @tup a xs ea =>
  cases (show u=r9 a from rx);let#[_,_,_,p]:=(show ObjOk X.prog X.w H s.heap a (.tup xs)from I.hok a _ ea);let#[o,h1,h2,_]:=p;exact bo gk I.kIn #[o,h1,h2] e (λz=>nomatch z) h
 | @dK a kvs ea =>
  cases (show u=r9 a from rx);let#[_,_,vs,_,p]:=(show ObjOk X.prog X.w H s.heap a (.dK kvs)from I.hok a _ ea);let#[o,es,ep,h1,h2,_]:=p;exact bo gu I.kIn #[o,h1,h2.1] e (λz=>nomatch z) h
 | @dT a kvs ea =>
  cases (show u=r9 a from rx);let#[_,_,xs,_,o,es,ep,h1,h2,_]:=(show ObjOk X.prog X.w H s.heap a (.dT kvs)from I.hok a _ ea);exact bo gu I.kIn #[o,h1,h2.1] e (λz=>nomatch z) h
 | @ins a C dx fs ea cl ha hn htk hm =>
  cases (show u=r9 a from rx);let#[mA,O,_]:=k7 I.hok ea;let#[od,J,_]:=O.look;exact bo (PySem.W.kitx_own (cl.get _) cl.hd ha hn htk hm) I.kIn J e (λz=>nomatch z) h
structure Room(k:Nat)(A:rh):Prop where
 hd:A.handled=tF
 dp:A.depth+3 * k+5<sF
 un:A.units+16 * k+200<cLine
def Room.mono(r:Room k A)(h:j<=k):Room j A:=#[r.hd,by have:=r.dp;lia,by have:=r.un;lia]
def Room.deeper(r:Room (k+1) A)(env:tm):Room k (A.deeper env) :=
 #[r.hd,by have:=r.dp;show A.depth+1+3 * k+5<_;lia,by have:=r.un;show A.units+3+16 * k+200<_;lia]
def Room.in1(r:Room (k+1) A):Room k A.in1 :=
 #[r.hd,by have:=r.dp;show A.depth+3 * k+5<_;lia,by have:=r.un;show A.units+1+16 * k+200<_;lia]
def Vv{A:rh}:(A.under (.builtin "type.__call__" #[.ref C::us,kw])).depth=A.depth+1:=by first | rfl | simp [Around.under,Code.weight,Code.isCreation,Code.isGuard,Code.isCaller,Code.frames,Code.isFrame,guardIds]
def Va{A:rh}:(A.under (.builtin "type.__call__" #[.ref C::us,kw])).units=A.units+1:=by first | rfl | simp [Around.under,Code.cUnits,Code.frames,Code.isFrame]
def Room.make(r:Room (k+1) A)(C:pC)(us:List pD)(kw:List (pG × pD)):Room k (A.under (.builtin "type.__call__" #[.ref C::us,kw])) :=
 #[r.hd,by have:=r.dp;rw[Vv];lia,by have:=r.un;rw[Va];lia]
def Room.depth(r:Room k A):A.depth<sF:=by have:=r.dp;lia
def Room.units(r:Room k A):A.units+64<cLine:=by have:=r.un;lia
def xp:TA:=λZ H Q=>Q [] H
def zI(ta:TE)(tr:TA):TA:=λσ H Q=>ta σ H λx H1=>tr σ H1 λxs H2=>Q (x::xs) H2
def zd:PA X [] xp:=λZ Z Z Z H Q I h=>Calls.spliced_nil #[[],H,I,.nil,h]
def za(ha:PE X e te)(hr:PA X es t)(hs:‹pq (e::es) X.env=(tH,eval e X.env)::pq es X.env›):PA X (e::es) (zI te t):=by intro pos tI s σ H Q I h;rw[hs];show pE _ _ (spliced ((tH,eval e X.env)::pQ pos (pq es X.env))) _ _ s;refine Calls.spliced_cons (thn (ha tI s σ H _ I h) λu s1=>el5 λx H1 I1 r1 q1=>?_);exact thn (hr pos tI s1 σ H1 _ I1 q1) λus s2=>el5 λxs H2 I2 r2 q2=>#[x::xs,H2,I2,.cons r1 r2,q2]
def Zo(t:TA):TE:=λσ H Q=>t σ H λxs H1=>xs.length<=pA/\∀p,H1 p=tF->Q (.ref p) (upd H1 p (.tup xs))
def zdI(t:TA):TE:=λσ H Q=>t σ H λxs H1=>xs.length<=pA/\∀p,H1 p=tF->Q (.ref p) (upd H1 p (.lst xs))
def zy{x1}(h:PA X es t):PE X (.Tuple es x1 pos) (Zo t):=by intros Q I hq;refine wpAny_Tuple_spliced (thn (h pos tI s σ H _ I hq) λus s1=>el5 λxs H1 I1 r=>ua2 λz q=>#[by rw[<- r.length];exact z,?_]);have hf:H1 s1⁻¹=tF:=I1.hok.fresh (am _);refine#[.ref s1⁻¹,upd H1 s1⁻¹ (.tup xs),I1.laid (t':=s1.toks) (λb u e=>ac _ e) (am _) ?_,rfl,q _ hf];exact#[z,us,r,#[_,aD _ rfl,rfl,_,rfl]]
def zX(h:PA X es t):PE X (.List es pos) (zdI t):=by intros Q I hq;refine wpAny_List_spliced (thn (h pos tI s σ H _ I hq) λus s1=>el5 λxs H1 I1 r=>ua2 λz q=>#[by rw[<- r.length];exact z,?_]);have hf:H1 s1⁻¹=tF:=I1.hok.fresh (am _);refine#[.ref s1⁻¹,upd H1 s1⁻¹ (.lst xs),I1.laid (t':=s1.toks) (λb u e=>ac _ e) (am _) ?_,rfl,q _ hf];exact#[z,us,0,r,aD _ rfl]
abbrev Sp:=List V->Hp->VK->XK->Prop
abbrev CXT:=List tm->Hp->pF->XK->pD->pF->Prop
structure Env0(P:pJ)(w:pR)(K:pB)(mg:pG->Option pD)(base:pS)(A:rh)(outer:List tm)(s:pF)(H:Hp):Prop where
 frames:A.frames=tE outer
 mod:Mod K mg base
 bs:∀b o,base.get? b=tE o->s.heap.get? b=tE o/\H b=tF
 bsz:base.objs.size<=s⁻¹
 funs:s.heap.FunFrames base outer
 frf:∀b ∈ frs outer,H b=tF
 hok:HOk P w H s.heap
 bare:rU s.gens
def CE(outer:List tm)(P:pJ)(w:pR)(H:Hp)(s:pF)(Q:VK)(u:pD)(s':pF):Prop :=
 ∃v H',s'.os=s.os/\rU s'.gens/\Un (frs outer) [] H H' s.heap s'.heap/\HOk P w H' s'.heap/\RelV v u/\Q v H'
def CR(CX:CXT)(outer:List tm)(P:pJ)(w:pR)(H:Hp)(s:pF)(Q:VK)(E:XK)(r:Result)(s':pF):Prop :=
 match r with
 | .ok (.ret u)=>CE outer P w H s Q u s'
 | .ok _=>False
 | .error e=>CX outer H s E e s'
structure FnOk(P:pJ)(w:pR)(K:pB)(mg:pG->Option pD)(base:pS)(CX:CXT)(k:Nat)(f:pC)(fd:pT)(ps:List pG)(sp:Sp):Prop where
 len:∀vs H Q E,sp vs H Q E->vs.length=ps.length
 run:∀(A:rh) (outer:List tm) (s:pF) (H:Hp) (args:Args) (us:List pD) (vs:List V) (Q:VK) (E:XK),Room k A->Env0 P w K mg base A outer s H->sI s fd args (ps.zip us)->Vals vs us->sp vs H Q E ->
  rz (model P w) A (.call (.ref f) args) (CR CX outer P w H s Q E) s
def FnOk.imp{K:pB}(F:FnOk P w K mg base CX k f fd ps sp)(h:∀vs H Q E,sp' vs H Q E->sp vs H Q E):FnOk P w K mg base CX k f fd ps sp' :=
 #[λvs H Q E q=>F.len vs H Q E (h _ _ _ _ q),λA outer s H args us vs Q E hr he hb hv hs=>F.run A outer s H args us vs Q E hr he hb hv (h _ _ _ _ hs)]
def Env0.make{K:pB}(e:Env0 P w K mg base A outer s H)(C:pC)(us:List pD)(kw:List (pG × pD)) :
  Env0 P w K mg base (A.under (.builtin "type.__call__" #[.ref C::us,kw])) outer s H:=#[by first | exact e.frames | (simpa [Around.under,Code.envs,Code.isFrame,pushEnvs] using e.frames),e.mod,e.bs,e.bsz,e.funs,e.frf,e.hok,e.bare]
def Inv.env0(I:Inv X tI σ H s):Env0 X.prog X.w X.K X.mg X.base X.A X.stack s H :=
 #[I.ok.frames,I.ok.mod,I.bs,aG I.ok.bsz I.sz,I.stack,I.stkFree,I.hok,I.bare]
def Inv.after(I:Inv X tI σ H s)(h:CE X.stack X.prog X.w H s Q u s'):EP X tI σ Q u s':=by let#[v,H',os,bare,un,hok,r,q]:=h;let#[hh,g,d,t,os']:=s';obtain rfl:os'=s.os:=os;exact#[v,H',I.call (h':=hh) (g':=g) (d':=d) (t':=t) (ch:=[]) un hok bare (λb z=>y9 z (by simp)),r,q]
def qT(sp:Sp)(dvs:List V)(E:XK)(t:TA):TE:=λσ H Q=>t σ H λvs H1=>sp (vs ++ dvs) H1 Q E
def ZD(C:pC)(m:pG)(sp:Sp)(dvs:List V)(E:XK)(ta:TE)(t:TA):TE:=λσ H Q=>ta σ H λx H1=>∃a dx fs,x=.ref a/\H1 a=tE (.ins C dx fs)/\fs.lookup m=tF /\
 t σ H1 λvs H2=>sp (x::(vs ++ dvs)) H2 Q E
def UL(C:pC)(sp:Sp)(dvs:List V)(E:XK)(t:TA):TE:=λσ H Q=>t σ H λvs H1=>∀x dx,H1 x=tF->H1 dx=tF->dx≠x ->
 sp (.ref x::(vs ++ dvs)) (upd (upd H1 dx (.own x)) x (.ins C dx [])) (λv H2=>v=.non/\Q (.ref x) H2) E
def Binds(K:pB)(fd:pT)(ps:List pG)(ds:List pD):Prop :=
 ∀(s:pF) (us:List pD),K.In s.heap->(us ++ ds).length=ps.length->sI s fd #[us,[]] (ps.zip (us ++ ds))
def Binds.all{K:pB}(h:∀us:List pD,us.length=ps.length->bindArgs fd #[us,[]]=pure (ps.zip us)):Binds K fd ps []:=λs us Z hl=>by
 rw[aV]at hl ⊢;exact .of_eq (h us hl)
def uW(CX:CXT)(X:Cx)(E:XK):Prop:=∀(tI:List (pC × rH)) (σ:St) (H:Hp) (s:pF) (e:pD) (s':pF),Inv X tI σ H s->CX X.stack H s E e s'->X.xe e s'
theorem j4(F:FnOk X.prog X.w X.K X.mg X.base CX k f fd ps sp)(hr:Room k X.A)(hb:Binds X.K fd ps ds)(hd:Vals dvs ds)(hx:uW CX X E)(I:Inv X tI σ H s)(r:Vals vs us)(h:sp (vs ++ dvs) H Q E):pE (model X.prog X.w) X.A (call (.ref f) us) (EP X tI σ Q) X.xe s:=by
 have r2:Vals (vs ++ dvs) (us ++ ds):=r.append hd;have hl:(us ++ ds).length=ps.length:=by rw[<- r2.length];exact F.len _ _ _ _ h
 refine rE (rG (F.run X.A X.stack s H #[us,[]] (us ++ ds) (vs ++ dvs) Q E hr I.env0 (hb s us I.kIn hl) r2 h) λr s' hq=>?_)
 cases r with
 | error e=>exact hx tI σ H s e s' I hq
 | ok fl =>
  cases fl with
  | ret u=>exact I.after hq
  | next=>exact False.elim hq
  | brk=>exact False.elim hq
  | cont=>exact False.elim hq
def VX(F:FnOk X.prog X.w X.K X.mg X.base CX k f fd ps sp)(hr:Room k X.A)(hg:Gl X x)(hm:X.mg x=tE (.ref f))(hk:aK X.K (.ref f)=tG)(hb:Binds X.K fd ps ds)(hd:Vals dvs ds)(hx:uW CX X E)(ha:PA X (e::es) t) (hdb:‹(x ==("__debug__" : pG))=tH›) (he:‹pq (e::es) X.env=(tH,eval e X.env)::pq es X.env›) (hpl:‹(pQ pos (pq es X.env)).any (·.1)=tH›) :
  PE X (.Call (.Name x p) (e::es) [] pos) (qT sp dvs E t):=by intros Q I h;refine pY (wS I hg hm ?_ hdb);refine bL (h₀:=X.base) I.ok.mod.kin hk (thn (ha pos tI s σ H _ I h) λus s1=>el5 λvs H1 I1 r q=>#[I1.kIn,?_]) he hpl;exact j4 F hr hb hd hx I1 r q
def zb3(he:PE X o ta)(c:Cls X.K C)(hm:zd3 X.K C m f)(F:FnOk X.prog X.w X.K X.mg X.base CX k f fd ps sp)(hr:Room k X.A)(hb:Binds X.K fd ps ds)(hd:Vals dvs ds)(hx:uW CX X E)(ha:PA X (e::es) t)(hst:‹pq (e::es) X.env=(tH,eval e X.env)::pq es X.env›)(hpl:‹(pQ pos (pq es X.env)).any (·.1)=tH›)(ht:eval (.Call (.Attribute o m apos) (e::es) [] pos) X.env=(do
      let ov <- eval o X.env
      standAt apos.atName
      let (f,first) <- holding [ov] (getMethod ov m pl)
      callWith pos f first (pQ pos (pq (e::es) X.env)) (ra pos (pP [] X.env))):=by rfl) :
    PE X (.Call (.Attribute o m apos) (e::es) [] pos) (ZD C m sp dvs E ta t):=by intros Q I h;refine bX (pl:=pl) (thn (he tI s σ H _ I h) λu s1=>el5 λx H1 I1 rx q_z=>?_) ht;let#[a,dx,fs,ex,ea,l,q]:=q_z;subst ex;obtain rfl:u=r9 a:=rx;refine wn I1 ea c hm l ?_;refine bL (first:=[.ref a]) (h₀:=X.base) I.ok.mod.kin hm.kp (thn (ha pos tI s1 σ H1 _ I1 q) λus s2=>el5 λvs H2 I2 r q2=>#[I2.kIn,?_]) hst hpl;exact j4 (us:=.ref a::us) (vs:=.ref a::vs) F hr hb hd hx I2 (.cons rfl r) q2
def Kv(he:PE X o ta)(c:Cls X.K C)(hm:zd3 X.K C m f)(F:FnOk X.prog X.w X.K X.mg X.base CX k f fd ps sp)(hr:Room k X.A)(hb:Binds X.K fd ps ds)(hd:Vals dvs ds)(hx:uW CX X E)(ht:eval (.Call (.Attribute o m apos) [] [] pos) X.env=(do
      let ov <- eval o X.env
      standAt apos.atName
      let (f,first) <- holding [ov] (getMethod ov m pl)
      callWith pos f first (pQ pos (pq [] X.env)) (ra pos (pP [] X.env))):=by rfl) :
    PE X (.Call (.Attribute o m apos) [] [] pos) (ZD C m sp dvs E ta xp):=by intros Q I h;refine bX (pl:=pl) (thn (he tI s σ H _ I h) λu s1=>el5 λx H1 I1 rx q_z=>?_) ht;let#[a,dx,fs,ex,ea,l,q]:=q_z;subst ex;obtain rfl:u=r9 a:=rx;refine wn I1 ea c hm l ?_;exact ge (first:=[.ref a]) I1.kIn hm.kp (j4 (us:=[.ref a]) (vs:=[.ref a]) F hr hb hd hx I1 (.cons rfl .nil) q)
structure Mk(K:pB)(C f:pC):Prop where
 makes:dz K C=tG
 init:aj K (.ref C) "__init__" = tE (tE (.ref f))
 fn:bp K (.ref f)=tG
 kp:aK K (.ref C)=tG
theorem JT(M:Mk X.K C f)(F:FnOk X.prog X.w X.K X.mg X.base CX k f fd ps sp)(hr:Room (k+1) X.A)(hb:Binds X.K fd ps ds)(hd:Vals dvs ds)(hx:uW CX X E)(I:Inv X tI σ H s)(r:Vals vs us)(h:∀x dx,H x=tF->H dx=tF->dx≠x->sp (.ref x::(vs ++ dvs)) (upd (upd H dx (.own x)) x (.ins C dx [])) (λv H2=>v=.non/\Q (.ref x) H2) E) :
  pE (model X.prog X.w) X.A (call (.ref C) us) (EP X tI σ Q) X.xe s:=by
 have hq:=h (s⁻¹+1) s⁻¹ (I.hok.fresh (cL _)) (I.hok.fresh (am _)) (ax (Nat.lt_succ_self _));have I2:=Inv.made (C:=C) I;have r2:Vals (V.ref (s⁻¹+1)::(vs ++ dvs)) (r9 (s⁻¹+1)::(us ++ ds)):=.cons rfl (r.append hd)
 have hl:(r9 (s⁻¹+1)::us ++ ds).length=ps.length:=by
  have e:=r2.length;rw[F.len _ _ _ _ hq]at e;exact e.symm
 refine rE (Jt (f:=f) I.kIn M.makes M.init (beq_iff_eq.mp M.fn) (rG (F.run _ X.stack _ _ #[r9 (s⁻¹+1)::us,[]] (r9 (s⁻¹+1)::(us ++ ds)) _ _ E (hr.make C us [])
  (I2.env0.make C us []) (hb _ (r9 (s⁻¹+1)::us) I2.kIn hl) r2 hq) λr s' hq'=>?_))
 cases r with
 | error e=>exact hx tI σ _ _ e s' I2 hq'
 | ok fl =>
  cases fl with
  | ret u =>
   let#[v,H',I3,rv,ev,q3]:=I2.after hq';subst ev;exact#[rv,#[V.ref (s⁻¹+1),H',I3,rfl,q3]]
  | next=>exact False.elim hq'
  | brk=>exact False.elim hq'
  | cont=>exact False.elim hq'
def QK(M:Mk X.K C f)(F:FnOk X.prog X.w X.K X.mg X.base CX k f fd ps sp)(hr:Room (k+1) X.A)(hg:Gl X x)(hm:X.mg x=tE (.ref C))(hb:Binds X.K fd ps ds)(hd:Vals dvs ds)(hx:uW CX X E)(ha:PA X (e::es) t) (hdb:‹(x ==("__debug__" : pG))=tH›) (he:‹pq (e::es) X.env=(tH,eval e X.env)::pq es X.env›) (hpl:‹(pQ pos (pq es X.env)).any (·.1)=tH›) :
  PE X (.Call (.Name x p) (e::es) [] pos) (UL C sp dvs E t):=by intros Q I h;refine pY (wS I hg hm ?_ hdb);refine bL (h₀:=X.base) I.ok.mod.kin M.kp (thn (ha pos tI s σ H _ I h) λus s1=>el5 λvs H1 I1 r q=>#[I1.kIn,?_]) he hpl;exact JT M F hr hb hd hx I1 r q
def PK(X:Cx)(kws:List sZ)(t:TA):Prop :=
 ∀(pos:tB) (tI:List (pC × rH)) (s:pF) (σ:St) (H:Hp) (Q:List V->Hp->Prop),Inv X tI σ H s->t σ H Q->pE (model X.prog X.w) X.A (evalAll ((ra pos (pP kws X.env)).map (·.2))) (AP X tI σ Q) X.xe s
end
section
variable{X:Cx}{CX:CXT}{k:Nat}{f C:pC}{fd:pT}{ps ks:List pG}{sp:Sp}{E:XK}{x m:pG}{p pos apos kpos:tB}{e o:rF}{es:List rF}{kws:List sZ}{te ta:TE}{t tk:TA}{nm:Option pG}
def zai:PK X [] xp:=λZ Z Z Z H Q I h=>wpAny_evalAll_nil #[[],H,I,.nil,h]
def Ux(ha:PE X e te)(hr:PK X kws t):PK X (#[nm,e,kpos]::kws) (zI te t):=by intro pos tI s σ H Q I h;show pE _ _ (evalAll ((do let v <- eval e X.env;standAt pos;pure v)::(ra pos (pP kws X.env)).map (·.2))) _ _ s;refine wpAny_evalAll_cons (ph (thn (ha tI s σ H _ I h) λu s1=>el5 λx H1 I1 r1 q1=>ph (rj (pi ?_))));exact thn (hr pos tI s1 σ H1 _ I1 q1) λus s2=>el5 λxs H2 I2 r2 q2=>#[x::xs,H2,I2,.cons r1 r2,q2]
variable{g:List pD->List pD->List pD}{gV:List V->List V->List V}
end
mutual section
structure zo(N P:List pG)(sc:rY):Prop where
 kind:sc.kind=.function
 co:sc.isCoroutine=tH
 gen:sc.isGenerator=tH
 nd:N.Nodup
 pre:N.take P.length=P
 par:∀x ∈ P,sc.names.lookup x=tE .local\/sc.names.lookup x=tE .cell
 nofree:∀y ∈ sc.names,y.2≠.free
theorem Z2{kindOf:pG->Option rX}:∀{binds:List (pG × pD)} {m:pG->Option pD},(∀v,(x,v) ∉ binds)->bindL kindOf binds m x=m x
  | [],_,_=>rfl
  | (n,v)::r,m,h=>by
    unfold bindL;rw[Z2 λw hw=>h w (av _ hw)];split
    . have:x≠n:=by rintro rfl;exact h v az
      simp [this]
    . rfl
theorem ZR{kindOf:pG->Option rX}:∀{binds:List (pG × pD)} {m:pG->Option pD},(∀v,(x,v) ∉ binds)->bindC kindOf binds m x=m x
  | [],_,_=>rfl
  | (n,v)::r,m,h=>by
    unfold bindC;rw[ZR λw hw=>h w (av _ hw)];split
    . rfl
    . have:x≠n:=by rintro rfl;exact h v az
      simp [this]
theorem Yw{kindOf:pG->Option rX}:∀{P:List pG} {vs:List pD} {i:Nat} {m:pG->Option pD},P.Nodup->P[i]? = tE x->vs[i]? = tE v->kindOf x=tE .local ->
  bindL kindOf (P.zip vs) m x=tE v
 | [],_,_,_,_,h,_,_=>by simp at h
 | _::_,[],_,_,_,_,h,_=>by simp at h
 | p::P,w::vs,0,m,nd,h1,h2,hk=>by
  simp at h1 h2;subst h1;subst h2;show bindL kindOf ((p,w)::P.zip vs) m p=_;unfold bindL;rw[Z2 λv hv=>(tV.mp nd).1 (cS hv).1,z6 hk];simp
 | p::P,w::vs,i+1,m,nd,h1,h2,hk=>by
  show bindL kindOf ((p,w)::P.zip vs) m x=_;unfold bindL;exact Yw (i:=i) (tV.mp nd).2 ↥h1 ↥h2 hk
theorem Yy{kindOf:pG->Option rX}:∀{P:List pG} {vs:List pD} {i:Nat} {m:pG->Option pD},P.Nodup->P[i]? = tE x->vs[i]? = tE v->kindOf x≠tE .local ->
  bindC kindOf (P.zip vs) m x=tE v
 | [],_,_,_,_,h,_,_=>by simp at h
 | _::_,[],_,_,_,_,h,_=>by simp at h
 | p::P,w::vs,0,m,nd,h1,h2,hk=>by
  simp at h1 h2;subst h1;subst h2;show bindC kindOf ((p,w)::P.zip vs) m p=_;unfold bindC;rw[ZR λv hv=>(tV.mp nd).1 (cS hv).1,z9 hk];simp
 | p::P,w::vs,i+1,m,nd,h1,h2,hk=>by
  show bindC kindOf ((p,w)::P.zip vs) m x=_;unfold bindC;exact Yy (i:=i) (tV.mp nd).2 ↥h1 ↥h2 hk
def start(N:List pG)(vs:List V):St:=vs.map tE ++ af (N.length - vs.length) tF
def qy(CX:CXT)(P:pJ)(w:pR)(K:pB)(mg:pG->Option pD)(base:pS)(N:List pG)(qual:pG)(scope:rY)(f:pC)(cd:pD)(A:rh)(outer:List tm)(s:pF)(H:Hp)(E:XK):Cx where
 prog:=P
 w:=w
 K:=K
 mg:=mg
 base:=base
 A:=A.deeper (rL qual scope s⁻¹ f cd)
 N:=N
 s₀:=s
 H₀:=H
 env:=rL qual scope s⁻¹ f cd
 outer:=outer
 stack:=rL qual scope s⁻¹ f cd::outer
 ex:=[]
 calm:=tG
 fn:=λZ=>tG
 pn:=[]
 xe:=λe s'=>pE (model P w) (A.deeper (rL qual scope s⁻¹ f cd)) (leaving (rL qual scope s⁻¹ f cd) e) (λZ s''=>CX outer H s E e s'') (λe' s''=>CX outer H s E e' s'') s'
def WF{sc:rY}(h:sc.names.lookup x=tE .cell):∃c,(cellsFrom n sc.names []).lookup x=tE c:=by have q:=fH sc.names n [] (.inl h);exact tW.mp q
def Uo{K:pB}(S:zo N ps scope)(hd:A.handled=tF)(e0:Env0 P w K mg base A outer s H)(hl:vs.length=ps.length)(r:Vals vs us)(x:InCallC s s⁻¹ (bindL (rL qual scope s⁻¹ f cd).kindOf (ps.zip us) λZ=>tF) (cellsFrom (s⁻¹+1) scope.names []) (bindC (rL qual scope s⁻¹ f cd).kindOf (ps.zip us) λZ=>tF) s1) :
  Inv (qy CX P w K mg base N qual scope f cd A outer s H E) [] (start N vs) H s1:=by
 have hpl:ps.length<=N.length:=by have:=congrArg dU S.pre;rw[aF]at this;lia
 let#[h1,tk,rfl,hk]:=x.done;have noA:∀b:pC,b ∉ (qy CX P w K mg base N qual scope f cd A outer s H E).ex:=λb z=>y9 (show b ∈ ([]:List pC)from z) (by simp)
 refine#[#[e0.mod,S.kind,rfl,rfl,am _,λy z c h1 h2=>?_,λy hy=>?_,λy c Z h=>?_,λZ=>hd,Around.frames_deeper e0.frames,.inr #[rfl,rfl],λb z=>y9 z (noA b),e0.bs,e0.bsz,λb Z Z=>noA b,λb z=>y9 z (noA b),e0.funs,e0.frf],
  rfl,e0.bare,Un.kept hk,#[_,x.toInCall.ns,λi y v h1 h2 h3=>?_],λy c h=>#[_,x.cell y c h],e0.hok.fresh (am _),λy c h=>?_,λp hp=>y9 (show p ∈ ([]:List (pC × rH))from hp) (by simp),e0.hok.kept hk,?_]
 ·exact name_of_addr x.apart (bS h1) (bS h2)
 ·have hy:scope.names.lookup y=tE .cell\/scope.names.lookup y=tE .free:=hy;rcases hy with hy | hy
  ·exact WF hy
  ·exact y9 rfl (S.nofree _ (bS hy))
 ·exact cf (x.above y c (bS h))
 ·have hi:i<vs.length:=by
   unfold start at h2;by_cases hi:i<vs.length
   ·exact hi
   ·rw[cH ↥hi]at h2;rw[fu]at h2;split at h2 <;> cases h2
  have ha:vs[i]? = tE v:=by
   unfold start at h2;rw[dA ↥hi,ay]at h2
   cases e:vs[i]? with
   | none=>rw[e]at h2;cases h2
   | some a=>rw[e]at h2;cases h2;rfl
  let#[u,hu,rv]:=r.get ha
  have hp:ps[i]? = tE y:=by
   rw[<- S.pre,dH ⋯];exact h1
  have ndP:ps.Nodup:=by rw[<- S.pre];exact S.nd.sublist (List.take_sublist _ _)
  refine#[u,rv,?_];rcases S.par y (ag hp)with k | k
  ·exact .inl #[k,Yw ndP hp hu k]
  ·let#[c,e]:=WF (n:=s⁻¹+1) k;refine .inr #[.inl k,c,e,?_];have q:=x.cell y c e;rw[Yy ndP hp hu (by show scope.names.lookup y≠_;rw[k];decide)]at q;exact q
 ·exact e0.hok.fresh (cf (x.above y c (bS h)))
 ·unfold start;show _=N.length;rw[aq,aa,bf];lia
theorem Jq{K:pB}{dV kV doc pm cdv ct oc:pD}(lk:K.lookup f=tE #[oc,od,.func (bv name qual params body scope dV kV doc pm an cdv ct),osl])(hcd:bP K cdv qual=tG)(S:zo N ps scope)(len:∀vs H Q E,sp vs H Q E->vs.length=ps.length)(hbody:∀(A:rh) (outer:List tm) (s:pF) (H:Hp) (vs:List V) (Q:VK) (E:XK),Room k (A.deeper (rL qual scope s⁻¹ f cdv))->sp vs H Q E ->
   ∃t,PSs (qy CX P w K mg base N qual scope f cdv A outer s H E) body t/\t { nx:=λZ H'=>Q .non H',rt:=Q } (start N vs) H) :
  FnOk P w K mg base CX (k+1) f (bv name qual params body scope dV kV doc pm an cdv ct) ps sp:=by
 refine#[len,λA outer s H args us vs Q E hr e0 hb r hsp=>?_];have hl:=len _ _ _ _ hsp;have KX:K.In s.heap:=e0.mod.kin.keeps λb o e=>(e0.bs b o e).1;have lim:s.heap.NoLimit:=e0.mod.nolimit.keeps λb o e=>(e0.bs b o e).1
 have hkind:∀y ∈ ps.zip us,scope.names.lookup y.1=tE .local\/(scope.names.lookup y.1=tE .cell/\((cellsFrom (s⁻¹+1) scope.names []).lookup y.1).isSome=tG):=λ⟨n,v⟩ hy=>by
  rcases S.par n (cS hy).1 with q | q
  ·exact .inl q
  ·exact .inr #[q,fH _ _ _ (.inl q)]
 refine codeAny_call_function hr.depth (KX _ _ lk) rfl S.co S.gen rfl (PySem.W.codeRec_of KX hcd) (hb _ _ _ _ ?_);refine wpAny_newFunctionEnv_cells S.kind hkind λenv he s1 x=>?_;subst he;refine#[lim.keeps x.toInCall.keep,codeAny_func ?_];let#[t,ht,hq]:=hbody A outer s H vs Q E (hr.deeper _) hsp;have I:Inv (qy CX P w K mg base N qual scope f cdv A outer s H E) [] (start N vs) H s1:=Uo S hr.hd e0 hl r x;refine rq (ht [] s1 (start N vs) H _ I hq) (λfl s' hs=>?_) λe s' hs=>hs
 have fin:∀{σ':St} {H':Hp} {v:V} {u:pD},Inv (qy CX P w K mg base N qual scope f cdv A outer s H E) [] σ' H' s'->RelV v u->Q v H'->CE outer P w H s Q u s' :=
  λ{σ' H' v u} J rv q=>#[v,H',J.os,J.bare,J.base,J.hok,rv,q]
 cases fl with
 | ret u =>
  let#[v,σ',H',J,rv,q]:=hs;exact fin J rv q
 | next =>
  let#[σ',H',J,q]:=hs;exact fin (v:=V.non) (u:=p9) J rfl q
 | brk =>
  let#[_,_,_,q]:=hs;exact False.elim q
 | cont =>
  let#[_,_,_,q]:=hs;exact False.elim q
def tCB(r:List V->Hp->VK->Prop)(t:TA):TE:=λσ H Q=>t σ H λvs H1=>r vs H1 Q
def xa{X:Cx}{x:pG}{p:tB}{pos:tB}{e:rF}{es:List rF}{t:TA}{id:String}{r:List V->Hp->VK->Prop}(hc:vx X (.builtin id) r)(hg:Gl X x)(hm:X.mg x=tF)(hv:pZ x=tE (.builtin id))(ha:PA X (e::es) t)(hn:‹x≠"__name__"›)(hdb:‹(x ==("__debug__" : pG))=tH›)(he:‹pq (e::es) X.env=(tH,eval e X.env)::pq es X.env›) (hpl:‹(pQ pos (pq es X.env)).any (·.1)=tH›):PE X (.Call (.Name x p) (e::es) [] pos) (tCB r t):=by intros Q I h;refine pY (vC I hg hm hv ?_ hn hdb);exact PyProof.Rows.callWith_builtin1 (thn (ha pos tI s σ H _ I h) λus s1=>el5 λvs H1 I1 r1 q1=>hc tI s1 σ H1 vs us Q I1 r1 q1) he hpl
def yR(hc:vx X (.type T) r)(hg:Gl X x)(hm:X.mg x=tF)(hv:pZ x=tE (.type T))(ha:PA X (e::es) t)(hn:‹x≠"__name__"›)(hdb:‹(x ==("__debug__" : pG))=tH›)(he:‹pq (e::es) X.env=(tH,eval e X.env)::pq es X.env›) (hpl:‹(pQ pos (pq es X.env)).any (·.1)=tH›):PE X (.Call (.Name x p) (e::es) [] pos) (tCB r t):=by intros Q I h;refine pY (vC I hg hm hv ?_ hn hdb);exact bB (thn (ha pos tI s σ H _ I h) λus s1=>el5 λvs H1 I1 r1 q1=>hc tI s1 σ H1 vs us Q I1 r1 q1) he hpl
end
end L2
namespace HT
open PySem PyProof.Rows
section
open PySem.SeqAt
open PySem.AutoSeq1 (wpAny_loadPart')
open PySem.MeetsSeq PySem.MeetsSeq2 PySem.MeetsSeq3
end
end in def sIx(n d:Nat):Option Int->Nat
 | none=>d
 | some v=>if v<0 then (v+(n:Int)).toNat else min v.toNat n
def sIx_none(n d:Nat):sIx n d tF=d:=rfl
def sIx_nat(n d k:Nat):sIx n d (tE (k:Int))=min k n:=by show (if (k:Int)<0 then ((k:Int)+(n:Int)).toNat else min (k:Int).toNat n)=min k n;rw[z9 ⋯,aR]
theorem sIx_le(n d:Nat)(hd:d<=n)(o:Option Int):sIx n d o<=n:=by
 cases o with
 | none=>exact hd
 | some v =>
  show (if v<0 then (v+(n:Int)).toNat else min v.toNat n)<=n;by_cases hv:v<0
  ·rw[z6 hv];lia
  ·rw[z9 hv];exact Nat.min_le_right _ _
end HT
namespace L2
end in abbrev TO:=St->Hp->(Option Int->Hp->Prop)->Prop
def PO(X:Cx)(e:Option rF)(t:TO):Prop :=
 ∀(tI:List (pC × rH)) (s:pF) (σ:St) (H:Hp) (Q:Option Int->Hp->Prop),Inv X tI σ H s->t σ H Q ->
  pE (model X.prog X.w) X.A (evalPart e X.env) (λu s'=>∃o H',Inv X tI σ H' s'/\IsPart u o/\Q o H') X.xe s
def Zk:TO:=λZ H Q=>Q tF H
def Jb(t:TE):TO:=λσ H Q=>t σ H λx H1=>onInt x λi=>Q (tE i) H1
section
variable{X:Cx}{e:rF}{te:TE}{lo hi:Option rF}{tl th:TO}{pos p2:tB}
def wz:PO X tF Zk:=by intros Q I h;rw[evalPart_none];exact pi #[tF,H,I,.none,h]
def yF(h:PE X e te):PO X (tE e) (Jb te):=by intros Q I hw;rw[evalPart_some];refine thn (h tI s σ H _ I hw) λu s1=>el5 λx H1 I1 r1 q1=>?_;let#[i,rfl,q]:=onInt.of q1;let#[t,rfl]:=r1;exact#[tE i,H1,I1,.int i t,q]
def SlR(X:Cx)(r:V->Option Int->Option Int->Hp->VK->Prop):Prop :=
 ∀(tI:List (pC × rH)) (s:pF) (σ:St) (H:Hp) (x:V) (v vl vu:pD) (lo hi:Option Int) (sl:pC) (Q:VK),Inv X tI σ H s->RelV x v->s.heap.IsSliceOf sl vl vu .none->IsPart vl lo->IsPart vu hi->r x lo hi H Q ->
  ∃T id,typeLookup (.type T) "__getitem__" = pure (tE (.builtin id))/\s.TypeIs v T/\pE (model X.prog X.w) X.A (getItem v (.ref sl)) (EP X tI σ Q) X.xe s
def tSl(r:V->Option Int->Option Int->Hp->VK->Prop)(te:TE)(tl th:TO):TE:=λσ H Q=>te σ H λx H1=>tl σ H1 λl H2=>th σ H2 λu H3=>r x l u H3 Q
def yE(hr:SlR X r)(he:PE X e te)(hl:PO X lo tl)(hu:PO X hi th):PE X (.Subscript e (.Slice lo hi tF p2) pos) (tSl r te tl th):=by intros Q I h;refine Subscript_ (thn (he tI s σ H _ I h) λv s1=>el5 λx H1 I1 r1 q1=>?_);refine wpAny_Slice (thn (hl tI s1 σ H1 _ I1 q1) λvl s2=>el5 λl H2 I2 pl q2=>thn (hu tI s2 σ H2 _ I2 q2) λvu s3=>el5 λu H3 I3 pu q3=>?_);rw[evalPart_none];refine pi ?_;have I4:Inv X tI σ H3 { s3 with heap:=s3.heap.push { cls:=.type "slice",data:=.fields (u9 [vl,vu,.none]) } }:=I3.kept (t':=s3.toks) λb ob q=>ac _ q;let#[T,id,hT,ht,hg]:=hr tI { s3 with heap:=s3.heap.push { cls:=.type "slice",data:=.fields (u9 [vl,vu,.none]) } } σ H3 x v vl vu l u s3⁻¹ Q I4 r1 (Heap.IsSliceOf.new ..) pl pu q3;show pE (model X.prog X.w) X.A (subscriptTail e (.Slice lo hi tF p2) v (.ref s3⁻¹)) (EP X tI σ Q) X.xe { s3 with heap:=s3.heap.push { cls:=.type "slice",data:=.fields (u9 [vl,vu,.none]) } };exact tail_any (ops:=[.ref s3⁻¹,v]) ht hT hg (by with_unfolding_all rfl)
end in def zcr(xs:List V)(lo hi:Option Int):List V:=(xs.drop (HT.sIx xs.length 0 lo)).take (HT.sIx xs.length xs.length hi - HT.sIx xs.length 0 lo)
theorem YK(xs:List V)(lo hi:Option Int):(zcr xs lo hi).length<=xs.length:=by unfold zcr;rw[aF,bh];lia
end
end in def ixN(n:Nat)(i:Int):Option Nat:=if 0<=i then (if i<n then tE i.toNat else tF)else if -(n:Int)<=i then tE (i+n).toNat else tF
end in def atI{α:Type}(xs:List α)(i:Int):Option α:=(ixN xs.length i).bind λj=>xs[j]?
def zbl(h:ixN n i=tE j):seqIndex? i n=tE j/\j<n/\-(n:Int)<=i/\i<n:=by
 unfold ixN at h;by_cases h0:0<=i
 ·rw[z6 h0]at h;by_cases h1:i<n
  ·rw[z6 h1]at h;have e:i.toNat=j:=Option.some.inj h;exact#[by rw[seqIndex_of h0 h1,e],⋯,⋯,h1]
  ·rw[z9 h1]at h;cases h
 ·rw[z9 h0]at h;by_cases h1:-(n:Int)<=i
  ·rw[z6 h1]at h;have e:(i+n).toNat=j:=Option.some.inj h;exact#[by rw[seqIndex_neg ⋯ h1,e],⋯,h1,⋯]
  ·rw[z9 h1]at h;cases h
theorem Xr(h:atI xs i=tE v):∃j,seqIndex? i xs.length=tE j/\xs[j]? = tE v/\j<xs.length/\-(xs.length:Int)<=i/\i<xs.length:=by
 unfold atI at h
 cases e:ixN xs.length i with
 | none=>rw[e]at h;cases h
 | some j =>
  rw[e]at h;let#[h1,h2,h3,h4]:=zbl e;exact#[j,h1,h,h2,h3,h4]
def w8{xs:List α}{j:Nat}{v:α}(h:xs[j]? = tE v):atI xs (j:Int)=tE v:=by
 have hj:j<xs.length:=(tL.mp h).1
 have e:ixN xs.length (j:Int)=tE j:=by
  unfold ixN;rw[z6 ⋯,z6 ⋯];simp
 unfold atI;rw[e];exact h
def QM(b:rF):Prop:=∀o i,subscripted b tH o i=operate [o,i] (getItem o i)
def IxR(X:Cx)(r:R2):Prop :=
 ∀(value slice:rF) (tI:List (pC × rH)) (s:pF) (σ:St) (H:Hp) (x y:V) (v u:pD) (Q:VK),Inv X tI σ H s->RelV x v->RelV y u->r x y H Q ->
  subscripted slice tH v u=operate [v,u] (getItem v u)->pE (model X.prog X.w) X.A (subscriptTail value slice v u) (EP X tI σ Q) X.xe s
def MtR(X:Cx)(id:String)(r:V->List V->Hp->VK->Prop):Prop :=
 ∀(tI:List (pC × rH)) (s:pF) (σ:St) (H:Hp) (x:V) (xs:List V) (v:pD) (us:List pD) (Q:VK),Inv X tI σ H s->RelV x v->Vals xs us->r x xs H Q ->
  pE (model X.prog X.w) X.A (call (.builtin id) (v::us)) (EP X tI σ Q) X.xe s
section
mutual section
variable{X:Cx}{a b:rF}{ta tb:TE}{pos:tB}
def IxR.or(h:IxR X r)(h':IxR X r'):IxR X (λx y H Q=>r x y H Q\/r' x y H Q):=by
 intro value slice tI s σ H x y v u Q I rx ry q hs;rcases q with q | q
 ·exact h value slice tI s σ H x y v u Q I rx ry q hs
 ·exact h' value slice tI s σ H x y v u Q I rx ry q hs
def ze6(hr:IxR X r)(ha:PE X a ta)(hb:PE X b tb)(hs:QM b):PE X (.Subscript a b pos) (tOp r ta tb):=by intros Q I h;exact Subscript_ (zfx ha hb I h λv u s2 x y H2 I2 rx ry q=>hr a b tI s2 σ H2 x y v u Q I2 rx ry q (hs _ _))
def zet(K:pB):R2:=λx y H Q=>onRef x λp=>onInt y λi=>∃xs,SqL K H p xs/\∃v,atI xs i=tE v/\Q v H
def xO(K:pB):R2:=λx y H Q=>onRef x λp=>onInt y λi=>∃xs,SqT K H p xs/\∃v,atI xs i=tE v/\Q v H
def JN:R2:=λx y H Q=>onStr x λz=>onInt y λi=>z.length<=pA/\∃c,atI z.cps.toList i=tE c/\Q (.str ⟨#[c]⟩) H
theorem ix_list:IxR X (zet X.K):=by
 intro value slice tI s σ H x y v u Q I rx ry h hs;let#[p,rfl,h2]:=onRef.of h;let#[i,rfl,xs,hq,z,he,q]:=onInt.of h2;cases rx;let#[t,rfl]:=ry;let#[its,r,pl,hz]:=I.list hq;let#[j,h1,h2,h3,h4,h5]:=Xr he;let#[w,ew,rw']:=r.get h2;have hl:=r.length;have hn:=Yx;have fin:EP X tI σ Q w s:=#[z,H,I,rw',q];by_cases h0:0<=i
 ·have hj:i.toNat=j:=by
   rw[seqIndex_of h0 h5]at h1;exact Option.some.inj h1
  exact item_listR pl.isList h0 ⋯ (by rw[hj];simpa using ew) fin hs
 ·have hj:(i+(its.toArray.size:Int)).toNat=j:=by
   rw[seqIndex_neg ⋯ h4]at h1;rw[al,<- hl];exact Option.some.inj h1
  exact sq (x:=w) pl.isList.typeIs slot_list_getitem.lookup
   (wpAny_getItem_list_neg (Q:=λr s'=>r=w/\EP X tI σ Q r s') pl.isList ⋯ (by rw[al] <;> lia) ⋯ (by rw[hj];simpa using ew) #[rfl,fin]) hs
theorem v9:IxR X (xO X.K):=by
 intro value slice tI s σ H x y v u Q I rx ry h hs;let#[p,rfl,h2]:=onRef.of h;let#[i,rfl,xs,hq,z,he,q]:=onInt.of h2;cases rx;let#[t,rfl]:=ry;let#[its,r,pl,hz]:=I.tuple hq;let#[j,h1,h2,h3,h4,h5]:=Xr he;let#[w,ew,rw']:=r.get h2;have hl:=r.length;have hn:=Yx;have fin:EP X tI σ Q w s:=#[z,H,I,rw',q]
 exact sq (x:=w) pl.typeIs slot_tuple_getitem.lookup
  (getItem_tuple (j:=j) (Q:=λr s'=>r=w/\EP X tI σ Q r s') pl ⋯ ⋯ (by rw[al,<- hl];exact h1) ↥ew #[rfl,fin]) hs
theorem vW:IxR X JN:=by
 intro value slice tI s σ H x y v u Q I rx ry h hs;let#[z,rfl,h2]:=onStr.of h;let#[i,rfl,hz,c,he,q]:=onInt.of h2;let#[t,rfl]:=rx;let#[t',rfl]:=ry;let#[j,h1,h2,h3,h4,h5]:=Xr he;have hl:z.cps.toList.length=z.length:=by simp [Str.length]
 rw[hl]at h1 h4 h5;have hn:=Yx
 exact tail_any (typeIs_str s z t) slot_str_getitem.lookup (getItem_str (c:=c) (by
  have e1:decide (i < -(2 ^ 63:Int))=tH:=y6 ⋯;have e2:decide (i ≥ 2 ^ 63)=tH:=y6 ⋯
  rw[e1,e2,Bool.or_false]) (by rw[h1];simpa using h2) #[.str ⟨#[c]⟩,H,I.tok _,#[_,rfl],q]) hs
def rIx(K:pB):R2:=λx y H Q=>match x with | .ref p=>onInt y λi=>(∃xs,SqL K H p xs/\∃v,atI xs i=tE v/\Q v H)\/∃xs,SqT K H p xs/\∃v,atI xs i=tE v/\Q v H | .str z=>JN (.str z) y H Q | _=>False
def rIx.of{K:pB}(h:rIx K x y H Q):zet K x y H Q\/xO K x y H Q\/JN x y H Q:=by unfold rIx at h;cases x <;> first | exact .inr (.inr h) | (let#[i,rfl,h]:=onInt.of h;exact h.elim .inl λh=>.inr (.inl h)) | exact h.elim
def zam:IxR X (rIx X.K):=λa b tI s σ H x y v u Q I rx ry h hs=>(ix_list.or (v9.or vW)) a b tI s σ H x y v u Q I rx ry h.of hs
def Inv.lst{tI:List (pC × rH)}{σ:St}{H:Hp}{s:pF}{p:pC}{xs:List V}(I:Inv X tI σ H s)(h:H p=tE (.lst xs)) :
  ∃(its:List pD) (n:Nat),Vals xs its/\s.heap.get? p=tE { cls:=.type "list",data:=.seq its.toArray n }/\xs.length<=pA:=by let#[z,its,n,r,e]:=I.hok p _ h;exact#[its,n,r,e,z]
theorem YA(lo hi:Option Int)(n:Nat):(sliceBounds lo hi tF n).1=((HT.sIx n 0 lo:Nat):Int)/\(sliceBounds lo hi tF n).2.1=((HT.sIx n n hi:Nat):Int)/\(sliceBounds lo hi tF n).2.2=1:=by
 refine#[?_,?_,rfl]
 ·cases lo with
  | none=>simp [sliceBounds,HT.sIx]
  | some i =>
   erw[sliceBounds,HT.sIx,de,show (1:Int) > 0 by decide,if_true]
   by_cases h:i<0
   ·erw[h,if_true] <;> lia
   ·erw[h,if_false] <;> lia
 ·cases hi with
  | none=>simp [sliceBounds,HT.sIx]
  | some i =>
   erw[sliceBounds,HT.sIx,de,show (1:Int) > 0 by decide,if_true]
   by_cases h:i<0
   ·erw[h,if_true] <;> lia
   ·erw[h,if_false] <;> lia
def ZI(its:List pD)(lo hi:Option Int):slicePick its.toArray lo hi tF=((its.drop (HT.sIx its.length 0 lo)).take (HT.sIx its.length its.length hi - HT.sIx its.length 0 lo)).toArray:=by
 let#[h1,h2,h3]:=YA lo hi its.toArray.size;unfold slicePick;rw[h1,h2,h3]
 erw[sliceRange_one,pick_run,al] <;> rfl
def zc0(K:pB):V->Option Int->Option Int->Hp->VK->Prop:=λx lo hi H Q=>onRef x λa=>∃xs,SqL K H a xs/\∀p,H p=tF->Q (.ref p) (upd H p (.lst (zcr xs lo hi)))
theorem UG:SlR X (zc0 X.K):=by intros x v vl vu lo hi sl Q I rx hs pl pu h;let#[a,rfl,xs,hx,q]:=onRef.of h;cases rx;let#[its,r,ht,hz]:=I.list hx;have hlen:=r.length;refine#["list",_,slot_list_getitem.lookup,ht.isList.typeIs,?_];refine wpAny_getItem_list_slice ht.isList hs pl pu .none (by simp) ?_ (by rw[al] <;> lia);rw[ZI,<- hlen];refine#[.ref s⁻¹,_,I.laid (t':=s.toks) (o:=.lst (zcr xs lo hi)) (λb ob q=>ac _ q) (am _) ?_,rfl,q _ (I.hok.fresh (am _))];exact#[aG (YK xs lo hi) hz,_,0,(r.drop (HT.sIx xs.length 0 lo)).take (HT.sIx xs.length xs.length hi - HT.sIx xs.length 0 lo),aD _ rfl]
def zdo:V->Bool
 | .non=>tG
 | .bl _=>tG
 | .int _=>tG
 | .str _=>tG
 | _=>tH
def eqV:V->V->Bool
 | .non,.non=>tG
 | .bl a,.bl b=>a == b
 | .bl a,.int b=>(if a then 1 else 0) == b
 | .int a,.bl b=>a ==(if b then 1 else 0)
 | .int a,.int b=>a == b
 | .str a,.str b=>a == b
 | _,_=>tH
theorem Wx(ry:RelV y u)(rx:RelV x v)(fy:zdo y=tG)(fx:zdo x=tG):SeqAt.EqAt A s u v (eqV y x):=by
 cases y with
 | non =>
  cases ry
  cases x with
  | non=>cases rx;exact SeqAt.EqAt.same _
  | bl b=>cases rx;exact SeqAt.EqAt.none_bool b
  | int b=>let#[t,rfl]:=rx;exact SeqAt.EqAt.none_int b t
  | str b=>let#[t,rfl]:=rx;exact SeqAt.EqAt.none_str b t
  | _=>exact y9 (show tH=tG from fx) aB
 | bl a =>
  cases ry
  cases x with
  | non=>cases rx;exact SeqAt.EqAt.bool_none a
  | bl b=>cases rx;exact SeqAt.EqAt.bool_bool a b
  | int b=>let#[t,rfl]:=rx;exact SeqAt.EqAt.bool_int a b t
  | str b=>let#[t,rfl]:=rx;exact SeqAt.EqAt.bool_str a b t
  | _=>exact y9 (show tH=tG from fx) aB
 | int a =>
  let#[t',rfl]:=ry
  cases x with
  | non=>cases rx;exact SeqAt.EqAt.int_none a t'
  | bl b=>cases rx;exact SeqAt.EqAt.int_bool a t' b
  | int b=>let#[t,rfl]:=rx;exact SeqAt.EqAt.int_int a t' b t
  | str b=>let#[t,rfl]:=rx;exact SeqAt.EqAt.int_str a t' b t
  | _=>exact y9 (show tH=tG from fx) aB
 | str a =>
  let#[t',rfl]:=ry
  cases x with
  | non=>cases rx;exact SeqAt.EqAt.str_none a t'
  | bl b=>cases rx;exact SeqAt.EqAt.str_bool a t' b
  | int b=>let#[t,rfl]:=rx;exact SeqAt.EqAt.str_int a t' b t
  | str b=>let#[t,rfl]:=rx;exact SeqAt.EqAt.str_str a t' b t
  | _=>exact y9 (show tH=tG from fx) aB
 | _=>exact y9 (show tH=tG from fy) aB
theorem yv:vx X (.type "list") (λxs H Q=>∃p ys,xs=[.ref p]/\(SqL X.K H p ys\/SqT X.K H p ys)/\∀l,H l=tF->Q (.ref l) (upd H l (.lst ys))):=by
 intros xs us Q I r h;let#[p,ys,rfl,hq,q]:=h;let#[u,rfl,rx]:=wr r;cases rx
 have fin:∀(its:List pD),Vals ys its->ys.length<=pA->∀(h':pS) (c':Nat),(∀b o',s.heap.get? b=tE o'->h'.get? b=tE o') ->
   h'.get? s⁻¹=tE { cls:=.type "list",dict:=tF,data:=.seq its.toArray c',slots:=#[] }->EP X tI σ Q (.ref s⁻¹) { s with heap:=h' }:=λits r' hz h' c' kp e =>
  #[.ref s⁻¹,_,I.laid (t':=s.toks) kp (am _) (show ObjOk X.prog X.w _ h' _ (.lst ys)from #[hz,its,c',r',e]),rfl,q _ (I.hok.fresh (am _))]
 rcases hq with hq | hq
 ·let#[its,r',pl,hz]:=I.list hq;have hlen:=r'.length;let#[o,ho,hc,n,hd]:=pl.isList;exact call_list_seq p (.inl rfl) ho hc hd (λh' c' kp e=>fin its r' hz h' c' kp e) (by erw[al] <;> lia)
 ·let#[its,r',pl,hz]:=I.tuple hq;have hlen:=r'.length;let#[o,ho,hc,n,hd]:=pl;exact call_list_seq p (.inr rfl) ho hc hd (λh' c' kp e=>fin its r' hz h' c' kp e) (by erw[al] <;> lia)
theorem ZE:vx X (.type "tuple") (λxs H Q=>∃p ys,xs=[.ref p]/\((SqL X.K H p ys/\∀l,H l=tF->Q (.ref l) (upd H l (.tup ys)))\/(SqT X.K H p ys/\Q (.ref p) H))):=by
 intros xs us Q I r h;let#[p,ys,rfl,h]:=h;let#[u,rfl,rx]:=wr r;cases rx;rcases h with ⟨hq,q⟩ | ⟨hq,q⟩
 ·let#[its,r',pl,hz]:=I.list hq;have hlen:=r'.length;refine call_tuple_list pl.isList (λh' kp=>?_) (by erw[al] <;> lia);have I1:Inv X tI σ H { s with heap:=h' }:=I.kept (t':=s.toks) kp
  have I2:Inv X tI σ (upd H h'.objs.size (.tup ys)) { s with heap:=h'.push { cls:=.type "tuple",data:=.seq its.toArray } } :=
   I1.laid (t':=s.toks) (λb o e=>ac _ e) (am _) (show ObjOk X.prog X.w _ _ _ (.tup ys)from #[hz,its,r',IsTup.new _ _])
  exact#[.ref h'.objs.size,_,I2,rfl,q _ (I1.hok.fresh (am _))]
 ·let#[its,r',pl,hz]:=I.tuple hq;exact call_tuple_same pl #[.ref p,H,I,rfl,q]
def tyV(K:pB)(T:String)(x:V)(H:Hp):Prop:=match x with
 | .str _=>T="str"
 | .int _=>T="int"
 | .ref p=>(T="list"/\∃xs,SqL K H p xs)\/(T="tuple"/\∃o,K.lookup p=tE o/\o.cls=.type "tuple"/\o.dict=tF) \/
   (T="dict"/\((∃kvs,H p=tE (.dK kvs))\/∃kvs,H p=tE (.dT kvs)))\/(T="set"/\∃S n,H p=tE (.set S n))
 | _=>False
theorem zdg(I:Inv X tI σ H s)(r:RelV x v)(ty:tyV X.K T x H) :
  s.TypeIs v T/\∀a,v=.ref a->∃ob,s.heap.get? a=tE ob/\ob.dict=tF:=by
 cases x with
 | str z =>
  let#[t,rfl]:=r;cases (show T="str" from ty);exact#[typeIs_str s z t,λZ e=>nomatch e]
 | int i =>
  let#[t,rfl]:=r;cases (show T="int" from ty);exact#[typeIs_int s i t,λZ e=>nomatch e]
 | ref p =>
  cases r;rcases ty with ⟨rfl,xs,hq⟩ | ⟨rfl,o,hk,hc,hd⟩ | ⟨rfl,hk⟩ | ⟨rfl,S,n,hk⟩
  ·let#[its,_,pl,_]:=I.list hq;refine#[pl.isList.typeIs,λa e=>?_];cases e;let#[o,n,e,c,hd,_]:=pl;exact#[o,e,hd]
  ·refine#[#[o,I.kIn p o hk,hc],λa e=>?_];cases e;exact#[o,I.kIn _ o hk,hd]
  ·have z:∃o,s.heap.get? p=tE o/\o.ExactDict:=by
    rcases hk with ⟨kvs,hk⟩ | ⟨kvs,hk⟩
    ·let#[_,_,_,_,o,_,_,e,ex,_]:=I.hok p _ hk;exact#[o,e,ex]
    ·let#[_,_,_,_,o,_,_,e,ex,_]:=I.hok p _ hk;exact#[o,e,ex]
   let#[o,e,ex]:=z;refine#[#[o,e,ex.1],λa e2=>?_];cases e2;exact#[o,e,ex.2.1]
  ·let#[o,_,_,_,e,ex,_]:=I.hok p _ hk;refine#[#[o,e,ex.1],λa e2=>?_];cases e2;exact#[o,e,ex.2.1]
 | _=>exact False.elim ty
def tBM(K:pB)(T:String)(r:V->List V->Hp->VK->Prop)(to:TE)(t:TA):TE:=λσ H Q=>to σ H λx H1=>tyV K T x H1/\t σ H1 λxs H2=>r x xs H2 Q
variable{o e:rF}{es:List rF}{to:TE}{t:TA}{name:pG}{apos cpos:tB}{T id:String}{r:V->List V->Hp->VK->Prop}
def ut(pa:PlainAttrs T)(slot:Slot T name id)(hty:typeOf (.builtin id)=pure (.type "method_descriptor"))(hm:MtR X id r)(ho:PE X o to)(ha:PA X (e::es) t)(hbase:‹attributeBase o name X.env (eval o X.env)=eval o X.env›)(hfew:((pQ cpos (pq (e::es) X.env)).all (λx=>!x.1) && (ra cpos (pP [] X.env)).all (λx=>x.1.isSome)
   && decide ((e::es).length+([]:List sZ).length+(if ([]:List sZ).isEmpty then 0 else 1)<30))=tG:=by rfl)(hline:‹(apos.endLine == cpos.line)=tG›) (hs:‹pq (e::es) X.env=(tH,eval e X.env)::pq es X.env›) (hplain:‹(pQ cpos (pq es X.env)).any (·.1)=tH›) :
  PE X (.Call (.Attribute o name apos) (e::es) [] cpos) (tBM X.K T r to t):=by intros Q I h;refine wpAny_Call_method_late hbase hfew hline rfl (thn (ho tI s σ H _ I h) λv s1=>el5 λx H1 I1 r1=>ua2 λty q1=>?_);let#[h1,h2]:=zdg I1 r1 ty;refine#[T,id,pa,slot,hty,h1,h2,?_];have hA:=ha cpos tI s1 σ H1 _ I1 q1;rw[hs]at hA ⊢;refine Calls.callWith_builtin (by show (tH || (pQ cpos (pq es X.env)).any (·.1))=tH;rw[hplain] <;> rfl) (Calls.evalArgs_plain ?_);exact thn hA λus s2=>el5 λvs H2 I2 r2 q2=>hm tI s2 σ H2 x vs v us Q I2 r1 r2 q2
/- xs.append(e),list.index on a module's tuple .. are MtR facts of 06m -/
end
end
mutual section
def MtM(X:Cx)(id:String)(r:V->List V->Hp->VK->Prop):Prop :=
 ∀(tI:List (pC × rH)) (s:pF) (σ:St) (H:Hp) (x:V) (xs:List V) (v:pD) (us:List pD) (Q:VK),Inv X tI σ H s->RelV x v->Vals xs us->r x xs H Q ->
  pE (model X.prog X.w) X.A (call (.builtin id) (v::us)) (EP X tI σ Q) X.xe s
theorem Vals.one(h:Vals [x] us):∃u,us=[u]/\RelV x u:=by
 cases h with
 | cons r t =>
  cases t;exact#[_,rfl,r]
theorem Vals.two(h:Vals [x,y] us):∃u v,us=[u,v]/\RelV x u/\RelV y v:=by
 cases h with
 | cons r t =>
  let#[u,rfl,q]:=Vals.one t;exact#[_,_,rfl,r,q]
theorem Vals.zero:∀{us:List pD},Vals [] us->us=[]
 | _,.nil=>rfl
theorem Vals.reverse(h:Vals xs us):Vals xs.reverse us.reverse:=by
 induction h with
 | nil=>exact .nil
 | cons r t ih=>rw[dN,dN];exact Vals.append ih (.cons r .nil)
def Inv.lset{its its':List pD}(I:Inv X tI σ H s)(hH:H l=tE (.lst xs))(e:s.heap.get? l=tE { cls:=.type "list",data:=.seq its.toArray n })(hf:f its.toArray=its'.toArray)(hv:Vals ys its')(hz:ys.length<=pA) :
  Inv X tI σ (upd H l (.lst ys)) { s with heap:=s.heap.update l (Obj.mapSeq f),toks:=t' }:=by have q:=PySem.IsL.update e f;rw[hf]at q;refine I.write (x:=l) (e:=l) (by rw[hH];exact trivial) (.inl rfl) (λb' u hb hu=>(aH s.heap (Obj.mapSeq f) (Ne.symm hb)).trans hu) #[_,q] ?_;exact#[hz,its',_,hv,q]
def Inv.lnew(I:Inv X tI σ H s)(hv:Vals ys its)(hz:ys.length<=pA) :
  Inv X tI σ (upd H s⁻¹ (.lst ys)) { s with heap:=s.heap.push { cls:=.type "list",data:=.seq its.toArray },toks:=t' } :=
 I.laid (λZ Z q=>ac _ q) (am _) #[hz,its,0,hv,aD _ rfl]
def Inv.fresh(I:Inv X tI σ H s):H s⁻¹=tF:=I.hok.fresh (am _)
def Inv.lstM(I:Inv X tI σ H s)(hH:H l=tE (.lst xs)):xs.length<=pA/\∃(its:List pD) (n:Nat),Vals xs its/\xs.length=its.length/\s.heap.get? l=tE { cls:=.type "list",data:=.seq its.toArray n }:=by let#[z,its,n,r,e]:=I.hok l _ hH;exact#[z,its,n,r,r.length,e]
def Ke(h:n<=pA):Builtin.List.listTooLong n=tH:=by unfold Builtin.List.listTooLong;exact y6 ⋯
def Qn:V->List V->Hp->VK->Prop:=λx vs H Q=>onRef x λl=>match vs with | [y]=>∃xs,H l=tE (.lst xs)/\xs.length<pA/\Q .non (upd H l (.lst (xs ++ [y]))) | _=>False
def xg:MtM X "list.append" Qn:=by
 intros x vs v us Q I rx rv h;let#[l,rfl,h2]:=onRef.of h
 obtain⟨y,rfl,xs,hH,hz,q⟩:∃y,vs=[y]/\∃xs,H l=tE (.lst xs)/\xs.length<pA/\Q .non (upd H l (.lst (xs ++ [y]))):=by
  split at h2
  ·exact#[_,rfl,h2]
  ·exact h2.elim
 cases rx;let#[u,rfl,ru]:=rv.one;let#[z,its,n,r,hl,e]:=I.lstM hH;refine call_meets F.slot_list_append #[_,e,rfl] F.entry_list_append (F.args_list_append_2 _ _) (PySem.list_append l its.toArray n u (by rw[al];lia)) #[e,?_];refine#[.non,_,I.lset (its':=its ++ [u]) hH e (by simp) (r.append (.cons ru .nil)) ?_,rfl,q];rw[aq,fN];lia
def VA:V->List V->Hp->VK->Prop:=λx vs H Q=>∃l b xs zs,x=.ref l/\vs=[.ref b]/\H l=tE (.lst xs)/\H b=tE (.lst zs)/\xs.length+zs.length<=pA/\Q .non (upd H l (.lst (xs ++ zs)))
def V1:MtM X "list.extend" VA:=by
 intros x vs v us Q I rx rv h;let#[l,b,xs,zs,rfl,rfl,hH,hB,hz,q]:=h;cases rx;let#[u,rfl,ru]:=rv.one;cases ru;let#[z,its,n,r,hl,e]:=I.lstM hH;let#[z2,its2,n2,r2,hl2,e2]:=I.lstM hB;have hsz:its.toArray.size+its2.toArray.size<=pA:=by rw[al,al];lia
 have hlong:¬ (!its.toArray.isEmpty && Builtin.List.listTooLong (its.toArray.size+its2.toArray.size))=tG:=by
  rw[Ke hsz,eI];exact aB
 refine call_meets F.slot_list_extend #[_,e,rfl] F.entry_list_extend (F.args_list_extend_2 _ _)
  (AutoSeq1.list_extend_list_list_0 l its.toArray n b its2.toArray n2 hlong (by rw[al];lia) ⋯) #[e,e2,?_]
 refine#[.non,_,I.lset (its':=its ++ its2) hH e (by simp) (r.append r2) ?_,rfl,q];rw[aq];lia
def zcv:R2:=λx y H Q=>onRef x λl=>onRef y λb=>∃xs,H l=tE (.lst xs)/\∃zs,H b=tE (.lst zs)/\xs.length+zs.length<=pA/\∀p,H p=tF->Q (.ref p) (upd H p (.lst (xs ++ zs)))
def UR:OpR X (binaryOp .Add) zcv:=by
 intros x y v u Q I rx ry h;let#[l,rfl,h2]:=onRef.of h;let#[b,rfl,xs,hH,zs,hB,hz,q]:=onRef.of h2;cases rx;cases ry;let#[z,its,n,r,hl,e]:=I.lstM hH;let#[z2,its2,n2,r2,hl2,e2]:=I.lstM hB;refine PySem.P.add_list e e2 ?_ (by rw[al,al];lia);have ea:its.toArray ++ its2.toArray=(its ++ its2).toArray:=by simp
 rw[ea];exact#[.ref _,_,I.lnew (t':=s.toks) (r.append r2) (by rw[aq];lia),rfl,q _ I.fresh]
theorem len_rep{α:Type}(xs:List α)(k:Nat):(af k xs).flatten.length=k * xs.length:=by
 induction k with
 | zero=>simp
 | succ k ih=>rw[bT,cZ,aq,ih,eX,Nat.add_comm]
end
end L2
namespace Att
open PySem PySem.W PySem.Calls PyProof.Rows
theorem qJ : ∀(ns:List Int) (vs:List pD),WellAll P h vs (ns.map WData.int)->sH vs ns:=by
 intro ns
 induction ns with
 | nil =>
  intro vs w;rw[aA]at w;cases w;exact .nil
 | cons n ns ih =>
  intro vs w;rw[ak]at w
  cases w with
  | cons a b =>
   cases a;exact .cons _ _ (ih _ b)
theorem script_of{l:tz}(hn:l.most=tE n)(hpre:l.row.toRowW.claim.pre args=tG)(hwl:WellAll P h vals args) :
  ∃a vs ns,vals=[r9 a]/\args=[WData.list (ns.map WData.int)]/\h.get? a=tE { cls:=.type "list",data:=.seq vs.toArray }/\sH vs ns/\ns.length<=n:=by
 have hsh:WShape.hasAll [] args [.list .int]=tG:=(pre_splitW hpre).1;have hc:l.pre.holds [] { args:=args }=tG:=(pre_splitW hpre).2;let#[d,r,rfl,h1,h2]:=hasAllW_cons hsh;obtain rfl:=hasAllW_nil h2;let#[xs,rfl,h3]:=hasW_list h1;let#[ns,rfl]:=items_int h3
 have hlen:ns.length<=n:=by
  unfold OpenLaw.pre at hc
  have h4:(WTm.not (.lt (.lit (.int (n:Int))) (.len (.arg 0)))).holds [] { args:=[.list (ns.map .int)] }=tG:=by
   have h4:=(holds_andW hc).1;rw[hn]at h4;exact h4
  have h5:=condW_of h4 (w_not (w_lt w_lit (w_len_list (w_arg rfl))));rw[aa]at h5;refine bV λq=>?_;have q':(n:Int)<((ns.length:Nat):Int):=⋯
  first
   | (rw[y4 q']at h5;exact y9 h5 ∅)
   | (simp at h5;lia)
 cases hwl with
 | cons w1 w2 =>
  cases w2
  cases w1 with
  | list ho hall=>exact#[_,_,ns,rfl,rfl,ho,qJ ns _ hall,hlen]
def post_true(l:tz)(args:List WData):l.row.toRowW.claim.post args (.bool tG) args=tG :=
 postW_of (r:=l.row.toRowW) (X:=(tG == tG))
  (show WShape.has [] (.bool tG) .bool=tG by first | rfl | decide | simp [WShape.has,WShape.arms,WShape.armsAll])
  (show (WTm.eq .res (.lit (.bool tG))).value [] { args:=args,res:=tE (.bool tG),after:=args }=tE (.bool (tG == tG))from w_eq_bool (w_res rfl) w_lit) rfl
def attach{l:tz}(hn:l.most=tE n)(hdf:d.params.defaults=[])(hbind:∀pm cd doc v:pD,bindArgs (docDef d.name d.params d.body d.scope pm cd doc) #[[v],[]]=pure [(x,v)])(hx:d.scope.names.lookup x=tE .local\/d.scope.names.lookup x=tE .cell)(hk:d.scope.kind=.function)(hco:d.scope.isCoroutine=tH)(hgen:d.scope.isGenerator=tH)(body:∀(w:pR) (s₀ s₁ s:pF) (mg mb:pG->Option pD) (fa:pC) (o:rH) (pm cd doc:pD) (a:pC) (vs:List pD) (ns:List Int),
   Ground q loose [] XP w s₀ mg mb s₁.heap->YP w s₁.heap ->
   s₁.heap.get? fa=tE o->o.data=.func (docDef d.name d.params d.body d.scope pm cd doc)->s₁.heap.CodeRec cd d.name->mg d.name=tE (.ref fa) ->
   s₁.heap.get? a=tE { cls:=.type "list",data:=.seq vs.toArray }->sH vs ns->ns.length<=n ->
   s.gens=#[]->s.os=s₁.os ->
   Fr s₁.heap s₁⁻¹ s.heap (bindL (rL d.name d.scope s₁⁻¹ fa cd).kindOf [(x,.ref a)] λZ=>tF) ->
   Cl s₁⁻¹ (cellsFrom (s₁⁻¹+1) d.scope.names []) s.heap (bindC (rL d.name d.scope s₁⁻¹ fa cd).kindOf [(x,.ref a)] λZ=>tF) ->
   pE (model l.prog w) (callerA.deeper (rL d.name d.scope s₁⁻¹ fa cd)) (execs d.body (rL d.name d.scope s₁⁻¹ fa cd))
    (λf s'=>f=.ret (.bool tG)/\OldK s₁.heap s'.heap/\s'.os=s₁.os/\rU s'.gens) (λZ Z=>False) s) :
  WalkO q loose XP YP l.row.toRowW d [] (λf vs=>fW f vs):=by
 intro w s₀ s₁ mg mb G Y fa o pm cd doc dV kV ho hd hcd hD hmg hg args vals as hpre hlay hrd hwl hlo;obtain rfl:dV=.none:=Dflts.none hD hdf;obtain rfl:kV=.none:=Dflts.noKw hD;let#[a,vs,ns,rfl,rfl,hobj,hints,hlen]:=script_of hn hpre hwl;refine enter_call ?_;refine call_cells_ret (o:=o) (by rw[depth_caller];decide) ho (fd_plain hd) G.T.nolimit hcd (hbind pm cd doc (.ref a)) (λy hy=>?_) (λh₁ tk F X=>?_) hco hgen hk
 ·obtain rfl:y=(x,r9 a):=tP.mp hy;rcases hx with e | e
  ·exact .inl e
  ·exact .inr #[e,cellsFrom_some _ _ _ (.inl e)]
 ·refine rq (body w s₀ s₁ { s₁ with heap:=h₁,toks:=tk } mg mb fa o pm cd doc a vs ns G Y ho (fd_plain hd) hcd hmg hobj hints hlen hg rfl F X) (λf s' hq=>?_) (λZ Z hq=>hq);let#[rfl,h2,h3,h4]:=hq;exact#[.inl #[.bool tG,.bool tG,[],rfl,λZ=>rfl,.bool tG,post_true l _,λZ=>#[List.Pairwise.nil,λZ hm=>(nomatch hm)]],h2,h3,h4]
end in def zgb(h:pS)(L d:pC):List (pC × rH):=(aN h.objs.size).filterMap λa=>if a=L\/a=d then tF else (h.get? a).map λo=>(a,o)
end Att
namespace L2
theorem Yr:∀{vs:List pD} {ns:List Int},sH vs ns->Vals (ns.map V.int) vs
 | _,_,.nil=>.nil
 | _,_,.cons n t h=>.cons #[t,rfl] (Yr h)
end in def xG(s:pN)(j:Nat):pN:=match s with
 | .ClassDef _ _ _ body _ _ _ _ _ _ _=>body.getD j (.Pass #[0,0,0,0])
 | _=>.Pass #[0,0,0,0]
end in def yQ(s:pN):sJ:=match s with
 | .FunctionDef _ a _ _ _ _ _ _ _ _=>a
 | _=>{ posonlyargs:=[],args:=[],vararg:=tF,kwonlyargs:=[],kw_defaults:=[],kwarg:=tF,defaults:=[] }
end in def yn(s:pN):List pN:=match s with
 | .FunctionDef _ _ b _ _ _ _ _ _ _=>b
 | _=>[]
end in def zi(s:pN):rY:=match s with
 | .FunctionDef _ _ _ _ _ _ sc _ _ _=>sc
 | _=>{ kind:=.function,names:=[],isGenerator:=tH,isCoroutine:=tH }
abbrev CX0:CXT:=λZ Z Z Z Z Z=>False
end in abbrev E0:XK:=λZ Z Z=>False
def YQ : uW CX0 X E0:=λZ Z Z Z Z Z Z h=>h.elim
structure Fun(K:pB)(x qual:pG)(st:pN)(f:pC)(fd:pT):Prop where
 ex:∃(oc:pD) (od:Option pC) (kV doc pm:pD) (an:Option pC) (cdv ct:pD) (osl:Array (Option pD)),
  fd=bv x qual (yQ st) (yn st) (zi st) .none kV doc pm an cdv ct/\K.lookup f=tE #[oc,od,.func fd,osl]/\bP K cdv qual=tG
 kp:aK K (.ref f)=tG
section
variable{P:pJ}{w:pR}{K:pB}{mg:pG->Option pD}{base:pS}
def Fun.ok{st:pN}(F:Fun K x qual st f fd)(S:zo N ps (zi st))(len:∀vs H Q E,sp vs H Q E->vs.length=ps.length)(hbody:∀(cdv:pD) (A:rh) (outer:List tm) (s:pF) (H:Hp) (vs:List V) (Q:VK) (E:XK),Room k (A.deeper (rL qual (zi st) s⁻¹ f cdv))->sp vs H Q E ->
   ∃t,PSs (qy CX0 P w K mg base N qual (zi st) f cdv A outer s H E).nox (yn st) t/\t { nx:=λZ H'=>Q .non H',rt:=Q } (start N vs) H):FnOk P w K mg base CX0 (k+1) f fd ps sp:=by let#[oc,od,kV,doc,pm,an,cdv,ct,osl,rfl,lk,hcd]:=F.ex;refine Jq lk hcd S len λA outer s H vs Q E hr hsp=>?_;let#[t,h,q]:=hbody cdv A outer s H vs Q E hr hsp;exact#[t,h.nox,q]
def Fun.binds{x qual:pG}{st:pN}{f:pC}{fd:pT}{ps:List pG}(F:Fun K x qual st f fd)(h:∀(kV doc pm:pD) (an:Option pC) (cdv ct:pD) (us:List pD),us.length=ps.length->bindArgs (bv x qual (yQ st) (yn st) (zi st) .none kV doc pm an cdv ct) #[us,[]]=pure (ps.zip us)):Binds K fd ps []:=by let#[oc,od,kV,doc,pm,an,cdv,ct,osl,rfl,lk,hcd]:=F.ex;exact .all (h kV doc pm an cdv ct)
def fun_mk{st:pN}{kV doc pm cdv ct:pD}(l:K.lookup f=tE #[oc,od,.func (bv x qual (yQ st) (yn st) (zi st) .none kV doc pm an cdv ct),osl])(c:bP K cdv qual=tG)(k:aK K (.ref f)=tG):Fun K x qual st f (bv x qual (yQ st) (yn st) (zi st) .none kV doc pm an cdv ct):=#[#[oc,od,kV,doc,pm,an,cdv,ct,osl,rfl,l,c],k]
end
def pv(i:Nat)(hN:‹X.N[i]? = tE x›)(hv:‹Vis X.env.scope x›)(hd:‹(x ==("__debug__" : pG))=tH›)(hcd:‹(x ==("__classdict__" : pG))=tH›):PE X (.Name x pos) (z7 i):=zd0 hN hv hd hcd
def zen{A B:Prop}(h:A):if tG=tG then A else B:=by rw[z6 rfl];exact h
def yC{c A B:Prop}[Decidable c](h1:c->A)(h2:¬ c->B):if c then A else B:=by
 by_cases h:c
 ·rw[z6 h];exact h1 h
 ·rw[z9 h];exact h2 h
def Same(H H':Hp):Prop:=∀b o,H b=tE o->H' b=tE o
def Same.refl(H:Hp):Same H H:=λZ Z h=>h
def Same.trans(a:Same H H1)(b:Same H1 H2):Same H H2:=λc o h=>b c o (a c o h)
theorem Same.free(e:Same H H')(h:H' l=Option.none):H l=Option.none:=by
 cases q:H l with
 | none=>rfl
 | some o =>
  rw[e l o q]at h;cases h
def Same.seq{K:pB}(e:Same H H')(h:SqL K H a xs):SqL K H' a xs:=by
 rcases h with (h | ⟨o,h⟩) | h
 ·exact .inl (.inl (e _ _ h))
 ·exact .inl (.inr #[o,e _ _ h])
 ·exact .inr h
end L2
open L2
namespace L3
mutual section
abbrev St:=L2.St
abbrev cs(x:pG):():=x.cps.toList
abbrev tx(l:()):pG:=⟨l.toArray⟩
def zer(x:pG):tx (cs x)=x:=by cases x;rfl
def Y6(l:()):cs (tx l)=l:=rfl
def XJ(x:pG):x.length=(cs x).length:=by simp [Str.length,cs]
def yk(l:()):(tx l).length=l.length:=by simp [Str.length,tx]
def Yz(h:cs x=cs y):x=y:=by rw[<- zer x,<- zer y,h]
def kd(h:tx l=tx m):l=m:=by rw[<- Y6 l,<- Y6 m,h]
def zda : tx l=tx m ↔ l=m:=#[kd,λh=>by rw[h]]
def wR(l m:()):tx l ++ tx m=tx (l ++ m):=by apply Yz;show (tx l ++ tx m).cps.toList=l ++ m;rw[Str.cps_append];simp
def cut{α:Type}(l:List α)(lo hi:Option Int):List α:=(l.drop (HT.sIx l.length 0 lo)).take (HT.sIx l.length l.length hi - HT.sIx l.length 0 lo)
def wM(l:List α)(lo hi:Option Int):(cut l lo hi).length<=l.length:=by unfold cut;rw[aF,bh];lia
def U6(a b:Nat):sliceRange (a:Int) (b:Int) 1=(aN (b - a)).map (λk=>a+k):=by
 unfold sliceRange
 have e:(if (1:Int) > 0 then (if (a:Int)<b then ((b:Int) - a+1 - 1) / 1 else 0)else (if (a:Int) > b then ((a:Int) - b - 1 - 1) / (-1)else 0)).toNat=b - a:=by
  rw[z6 ∅];by_cases h:(a:Int)<b
  ·rw[z6 h,Int.ediv_one];lia
  ·rw[z9 h];lia
 show (aN ((if (1:Int) > 0 then (if (a:Int)<b then ((b:Int) - a+1 - 1) / 1 else 0)else (if (a:Int) > b then ((a:Int) - b - 1 - 1) / (-1)else 0)).toNat)).map _=_;rw[e];refine aW λk Z=>?_;lia
theorem zch(lo hi:Option Int)(n:Nat):o8 lo hi 1 n=(aN (HT.sIx n n hi - HT.sIx n 0 lo)).map (λk=>HT.sIx n 0 lo+k):=by
 rw[<- U6]
 have clip:∀(v:Int) (d:Nat),max 0 (min (if v<0 then v+(n:Int)else v) (n:Int))=((HT.sIx n d (tE v):Nat):Int):=λv d=>by
  show _=(((if v<0 then (v+(n:Int)).toNat else min v.toNat n):Nat):Int);by_cases hv:v<0
  ·erw[z6 hv];lia
  ·erw[z9 hv];lia
 have h1:((1:Int) > 0)=True:=by simp
 unfold o8
 cases lo with
 | none =>
  cases hi with
  | none=>erw[h1,if_true];rfl
  | some j=>erw[h1,if_true,clip j n];rfl
 | some i =>
  cases hi with
  | none=>erw[h1,if_true,clip i 0];rfl
  | some j=>erw[h1,if_true,clip i 0,clip j n]
end
set_option tactic.hygienic true in
mutual section
def QQ(x:pG)(lo hi:Option Int):Txt.slice x lo hi=tx (cut (cs x) lo hi):=by
 have hn:x.length=x.cps.toList.length:=XJ x;have hj:HT.sIx x.length x.length hi<=x.length:=HT.sIx_le _ _ (am _) hi;have hi0:HT.sIx x.length 0 lo<=x.length:=HT.sIx_le _ _ (aw _) lo;unfold Txt.slice;rw[zch];split
 ·rename_i h;have h':HT.sIx x.length x.length hi - HT.sIx x.length 0 lo=x.length:=by simpa using h
  apply Yz;show x.cps.toList=cut x.cps.toList lo hi;unfold cut;rw[<- hn];by_cases z:x.length=0
  ·have:x.cps.toList=[]:=eh ⋯;rw[this];simp
  ·have e0:HT.sIx x.length 0 lo=0:=⋯;rw[e0]at h' ⊢;rw[h',cM,hn,aI]
 ·apply Yz;have h:=StrLaws.picks x.cps.toList (HT.sIx x.length x.length hi - HT.sIx x.length 0 lo) (HT.sIx x.length 0 lo) ⋯;show (List.filterMap (λk=>x.cps[k]?) _).toArray.toList=cut x.cps.toList lo hi;unfold cut;rw[<- hn];simpa using h
theorem Ql(p:IsPart v o):∃l:Option (Int × sP),v=partValue l/\l.map (·.1)=o:=by
 cases p with
 | none=>exact#[tF,rfl,rfl]
 | int i t=>exact#[tE (i,t),rfl,rfl]
def zcW:V->Option Int->Option Int->Hp->VK->Prop:=λx lo hi H Q=>onStr x λz=>z.length<=pA/\Q ⇑(cut (cs z) lo hi) H
def vg:SlR X zcW:=by
 intros x v vl vu lo hi sl Q I rx hs pl pu h;let#[z,rfl,hz,q]:=onStr.of h;let#[t,rfl]:=rx;let#[l,rfl,el]:=Ql pl;let#[u,rfl,eu]:=Ql pu;refine#["str",_,slot_str_getitem.lookup,typeIs_str s z t,?_];refine wpAny_getItem_str_slice (l:=l) (u:=u) (st:=tF) hs rfl ?_;have e:Txt.slice z lo hi=tx (cut (cs z) lo hi):=QQ z lo hi;have hl:(tx (cut (cs z) lo hi)).length<=pA:=by rw[yk];have:=wM (cs z) lo hi;rw[<- XJ]at this;lia
 unfold sliceMade slicePicked;rw[el,eu];unfold Txt.slice at e;by_cases hc:((1:Int) == 1 && (o8 lo hi 1 z.length).length == z.length)=tG
 ·rw[z6 hc]at e;have hc':(((tF:Option (Int × sP)).map (·.1)).getD 1 == 1 && (o8 lo hi (((tF:Option (Int × sP)).map (·.1)).getD 1) z.length).length == z.length)=tG:=hc;rw[z6 hc'];exact#[⇑(cut (cs z) lo hi),H,I,#[t,by rw[<- e]],q]
 ·rw[z9 hc]at e;have hc':¬ (((tF:Option (Int × sP)).map (·.1)).getD 1 == 1 && (o8 lo hi (((tF:Option (Int × sP)).map (·.1)).getD 1) z.length).length == z.length)=tG:=hc;rw[z9 hc'];show (Str.mk ((o8 lo hi 1 z.length).filterMap (z.cps[·]?)).toArray).length<=pA/\_;rw[e];refine#[hl,?_]
  exact#[⇑(cut (cs z) lo hi),H,I.tok _,#[_,by
   show Value.str (Str.mk ((o8 lo hi 1 z.length).filterMap (z.cps[·]?)).toArray) _=_
   rw[e]],q]
theorem Wl(l:()):∀(k:Nat) (tK:Array Nat),((af k l.toArray).foldl (· ++ ·) tK).toList=tK.toList ++ (af k l).flatten
 | 0,tK=>by simp
 | k+1,tK=>by
  rw[bT,List.foldl_cons,Wl l k,bT,cZ];simp
def Ve:OpR X (binaryOp .Mult) (λx y H Q=>∃z n,x=.str z/\y=.int n/\0<=n/\n<=1000/\z.length<=1000/\Q ⇑(af n.toNat (cs z)).flatten H):=by
 intros x y v u Q I rx ry h;let#[z,n,rfl,rfl,h0,h1,hz,q]:=h;let#[t,rfl]:=rx;let#[t',rfl]:=ry;have hs:pA=16777216:=pM;have hmul:z.length * n.toNat<=1000 * 1000:=eJ hz ⋯;have fl:((af n.toNat (cs z)).flatten).length=n.toNat * z.length:=by rw[L2.len_rep,<- XJ]
 refine PySem.P.mul_str ?_ (λZ Z=>?_) (λZ Z=>?_) ?_
 ·rw[y6 ⋯,y6 ⋯];rfl
 ·have:(1000:Int)<=(2 ^ 63 - 1) / n:=by
   apply Int.le_ediv_of_mul_le ⋯;lia
  lia
 ·unfold Builtin.Str.tooLong;exact y6 ⋯
 ·by_cases c1:n<1
  ·rw[z6 c1];have e:n.toNat=0:=⋯;rw[e]at q;exact#[∅,⇑[],H,I.tok _,#[_,rfl],q]
  ·rw[z9 c1];by_cases c2:(n == 1 || z.length == 0)=tG
   ·rw[z6 c2]
    have e:tx (af n.toNat (cs z)).flatten=z:=by
     rw[Bool.or_eq_true]at c2;rcases c2 with c | c
     ·have:n.toNat=1:=by have:=eq_of_beq c;lia
      rw[this]
      erw[List.replicate_one,List.flatten_singleton]
     ·have c0:z.length=0:=eq_of_beq c;have:cs z=[]:=eh (by rw[<- XJ];exact c0);apply Yz;rw[this];show (af n.toNat ([]:())).flatten=[]
      erw[List.flatten_replicate_nil]
    rw[e]at q;exact#[.str z,H,I,#[_,rfl],q]
   ·rw[z9 c2]
    have e:(⟨(af n.toNat z.cps).foldl (· ++ ·) #[]⟩:pG)=tx (af n.toNat (cs z)).flatten:=by
     apply Yz;have:=Wl (cs z) n.toNat #[];have e2:(cs z).toArray=z.cps:=by cases z;rfl
     rw[e2]at this;show (List.foldl (· ++ ·) #[] (af n.toNat z.cps)).toList=(af n.toNat (cs z)).flatten;rw[this];rfl
    rw[e];refine#[by rw[yk,fl,Nat.mul_comm];lia,.str _,H,I.tok _,#[_,rfl],q]
def QX:OpR X (pH .LtE) (λx y H Q=>∃i j,x=.str i/\y=.str j/\Q (.bl (!(decide (cs j<cs i)))) H):=by intros x y v u Q I rx ry h;let#[i,j,rfl,rfl,q]:=h;let#[t,rfl]:=rx;let#[t',rfl]:=ry;exact PySem.P.le_str #[.bl _,H,I,rfl,q]
def op_lt_str':OpR X (pH .Lt) (λx y H Q=>∃i j,x=.str i/\y=.str j/\Q (.bl (decide (cs i<cs j))) H):=Qo
def Kj:MtR X "str.count" (λx xs H Q=>∃z y,x=.str z/\xs=[.str y]/\Q (.int (Txt.count z y)) H):=by intros x xs v us Q I rx rv h;let#[z,y,rfl,rfl,q]:=h;let#[t,rfl]:=rx;let#[u,rfl,t',rfl]:=wr rv;exact PySem.SC.count #[.int _,H,I.tok _,#[_,rfl],q]
def zbg:MtR X "str.find" (λx xs H Q=>∃z y,x=.str z/\xs=[.str y]/\Q (.int (Txt.find z y)) H):=by intros x xs v us Q I rx rv h;let#[z,y,rfl,rfl,q]:=h;let#[t,rfl]:=rx;let#[u,rfl,t',rfl]:=wr rv;exact PySem.SC.find #[.int _,H,I.tok _,#[_,rfl],q]
def Inv.turns{X:Cx}{tI:List (pC × rH)}{σ:St}{H:Hp}{s:pF}{fp:List pC}{h':pS}{t':Nat}(I:Inv X tI σ H s)(k:∀b o,b ∉ fp->s.heap.get? b=tE o->h'.get? b=tE o)(hf:∀b ∈ fp,xK X tI H b):Inv X tI σ H { s with heap:=h',toks:=t' }:=by
 have nit:∀b u,H b=tE u->b ∉ fp:=λb u e z=>by rw[(hf b z).1]at e;cases e
 refine I.step (g':=s.gens) (d':=s.drawn) (ch:=fp) (λb hb=>?_) (λb o Z Z hc e Z=>k b o hc e) (λb o Z Z hc e Z=>#[o.slots,k b o hc e]) (λZ Z Z Z n=>n)
  (λb o hc e=>#[o,k b o hc e]) (λZ Z e=>e) (λZ Z Z e=>e) (λb ps e=>#[#[],by rw[e];simp]) (λm hm=>?_) (λb u e=>?_) I.bare
 ·let#[_,a1,_,a3,a4,a5]:=hf b hb;exact#[a3,a1,a4,a5]
 ·let#[o,es,ep,ho,r]:=hm;exact#[o,es,ep,k _ o (λz=>(hf _ z).2.1 rfl) ho,r]
 ·refine (I.hok b u e).stay (λc v hc q=>k c v ?_ q) (λZ q=>q) λZ Z q=>q;rcases hc with z | z
  ·rw[z];exact nit b u e
  ·exact nit c _ z
def Inv.track(I:Inv X tI σ H s)(fa:xK X tI H a)(new:ObjOk X.prog X.w (upd H a o) s.heap a o):Inv X tI σ (upd H a o) s:=by
 let#[a0,a1,a2,a3,a4,a5]:=fa;have e:s={ s with heap:=s.heap,gens:=s.gens,drawn:=s.drawn,toks:=s.toks }:=rfl;rw[e]
 refine I.step (g':=s.gens) (d':=s.drawn) (ch:=[a]) (λb hb=>?_) (λb o Z Z Z e Z=>e) (λb o Z Z Z e Z=>#[o.slots,e]) (λb o hc Z n=>?_)
  (λb o Z e=>#[o,e]) (λb xs e=>?_) (λb u xs e=>?_) (λb ps e=>?_) (λm hm=>hm) (λb u e=>?_) I.bare
 ·have eb:b=a:=by simpa using hb
  subst eb;exact#[a3,a1,a4,a5]
 ·rw[zm ↥hc];exact n
 ·rw[zm (zD e a0)];exact e
 ·rw[zm (zD e a0)];exact e
 ·exact#[#[],by rw[zm (zD e a0),e];simp]
 ·by_cases hb:b=a
  ·subst hb;rw[zb]at e;cases e;exact new
  ·rw[zm hb]at e;exact (I.hok b u e).stay (λc v Z q=>q) (λc q=>by rw[zm (zD q a0)];exact q) λc xs q=>by rw[zm (zD q a0)];exact q
def Its(x:pG):It:=#[λi Z=>i<(cs x).length,λi H v H'=>H'=H/\∃c,(cs x)[i]? = tE c/\v=⇑[c],λi Z=>i=(cs x).length]
def JK{K:pB}(hty:["enumerate","zip","dict_itemiterator","dict_reverseitemiterator","odict_iterator","itertools.zip_longest","itertools.pairwise"].contains ty=tH)(it:pC)(x:pG)(t:sP)(W:∀A:rh,A.handled=tF->Walks P w A it [it] [it] x.cps.size (SignAt x) λi h=>h.IsStrIter it ty x t i)(S:∀(A:rh) (i:Nat) (s:pF) (Q:pD->pF->Prop) (E:pD->pF->Prop),s.heap.IsStrIter it ty x t i->Q (.ref it) s->pE (model P w) A (pyIter (.ref it)) Q E s) :
  Q5 P w K tg (Its x) [it] it (λi h=>h.IsStrIter it ty x t i) where
 mem:=by simp
 obj:=λi h st b hb=>by
  have e:b=it:=by simpa using hb
  subst e;let#[o,e,c,d]:=st;exact#[o,e,λv z=>by rw[d]at z;cases z]
 keep:=λi h h' st k=>let #[o,e,r]:=st; #[o,k it (by simp) o e,r]
 item:=by
  intro X hP hw hK hc i tI s σ H E I hf st hg;subst hP hw hK;let#[f0,f1,f2,f3,f4,f5]:=hf it (by simp);have hg':i<x.cps.size:=by have:i<x.cps.toList.length:=hg;simpa using this
  refine (W X.A (I.ok.hd hc)).item i s _ _ hg' st λv h' tk hv st' kk=>?_;let#[c,u,hcc,rfl]:=hv;have I1:Inv X tI σ H { s with heap:=h',toks:=tk }:=I.turned (λb o hb e=>kk b o ↥hb e) f0 f1 f3 f4 f5;let#[o,e,cl,d]:=id st';refine#[_,rfl,U7 (s:={ s with heap:=h',toks:=tk }) e cl d hty #[⇑[c],H,I1,#[u,rfl],#[rfl,c,?_,rfl],st',λb hb=>(hf b hb).1]];show x.cps.toList[i]? = tE c;simpa using hcc
 done:=by
  intro X hP hw hK hc i tI s σ H E I hf st hg;subst hP hw hK;let#[f0,f1,f2,f3,f4,f5]:=hf it (by simp);have hi:i=x.cps.size:=by have:i=x.cps.toList.length:=hg;simpa using this
  rw[hi]at st;exact (W X.A (I.ok.hd hc)).done s _ _ st λh' tk kk=>#[rfl,I.turned (λb o hb e=>kk b o ↥hb e) f0 f1 f3 f4 f5]
 self:=λA i s Q E st h=>S A i s Q E st h
def zeE(tl:TE):TI:=λσ H R=>tl σ H λv H1=>∃x,v=.str x/\R (Its x) H1
def XM(hl:PE X l tl):PI X tg l (zeE tl):=by
 intros R I h;refine thn (hl tI s σ H _ I h) λv s1=>el5 λy H1 I1 r1 q1=>?_;let#[x,e,q]:=q1;subst e;let#[t,rfl]:=r1
 have fin:∀(ty:String) (hty:["enumerate","zip","dict_itemiterator","dict_reverseitemiterator","odict_iterator","itertools.zip_longest","itertools.pairwise"].contains ty=tH)
   (W:∀A:rh,A.handled=tF->Walks X.prog X.w A s1⁻¹ [s1⁻¹] [s1⁻¹] x.cps.size (SignAt x) λi h=>h.IsStrIter s1⁻¹ ty x t i)
   (S:∀(A:rh) (i:Nat) (s:pF) (Q:pD->pF->Prop) (E:pD->pF->Prop),s.heap.IsStrIter s1⁻¹ ty x t i->Q (.ref s1⁻¹) s->pE (model X.prog X.w) A (pyIter (.ref s1⁻¹)) Q E s),
   PIE X tI σ tg R (.ref s1⁻¹) { s1 with heap:=s1.heap.push { cls:=.type ty,data:=.fields (u9 [.str x t,.int 0 0]) } }:=λty hty W S=>by
  refine#[s1⁻¹,[s1⁻¹],_,_,H1,rfl,I1.kept (t':=s1.toks) λb o e=>ac _ e,JK hty _ x t W S,#[_,aD _ rfl,rfl,rfl],λb hb=>?_,q];have e:b=s1⁻¹:=by simpa using hb
  subst e;exact I1.fpOk (am _) (I1.hok.fresh (am _))
 cases ha:x.cps.all (· < 128)
 ·exact wpAny_pyIter_wide ha (fin "str_iterator" ∅ (λA hA=>Walks.strWide hA _ x t) λA i s Q E st h=>wpAny_pyIter_striter_wide st h)
 ·exact wpAny_pyIter_ascii ha (fin "str_ascii_iterator" ∅ (λA hA=>Walks.strAscii hA _ x t) λA i s Q E st h=>wpAny_pyIter_striter_ascii st h)
def zcl{g:TG}{tb:TS}{D:ZH}(Pv:Nat->St->Hp->Prop)(h0:Pv 0 σ H)(hs:∀i c σ H,(cs x)[i]? = tE c->Pv i σ H->g ⇑[c] σ H λσ2 H2=>tb { D with nx:=Pv (i+1),ct:=Pv (i+1),bk:=D.nx } σ2 H2)(hd:∀σ H,Pv (cs x).length σ H->D.nx σ H) :
  ∃W:Nat->Nat->St->Hp->Prop,(∃m,W 0 m σ H)/\∀i m σ H,W i m σ H ->
   ((Its x).stop i H/\D.nx σ H)\/((Its x).go i H/\∃N:St->Hp->Prop,(∀σ' H',N σ' H'->∃m',m'<m/\W (i+1) m' σ' H')/\∀v H',(Its x).yld i H v H'->g v σ H' λσ2 H2=>tb { D with nx:=N,ct:=N,bk:=D.nx } σ2 H2):=by
 refine#[λi m σ H=>m=(cs x).length - i/\i<=(cs x).length/\Pv i σ H,#[(cs x).length,by simp,aw _,h0],?_];rintro i m σ H ⟨rfl,hi,p⟩;by_cases hlt:i<(cs x).length
 ·refine .inr #[hlt,Pv (i+1),λσ' H' p'=>#[(cs x).length - (i+1),⋯,rfl,hlt,p'],λv H' y=>?_];let#[e,c,hc,ev]:=y;subst e ev;exact hs i c σ _ hc p
 ·have e:i=(cs x).length:=⋯;subst e;exact .inl #[rfl,hd σ H p]
def Ite(x:pG):It:=#[λi Z=>i<(cs x).length,λi H v H'=>∃p c,H p=tF/\(cs x)[i]? = tE c/\v=.ref p/\H'=upd H p (.tup [.int (i:Nat),⇑[c]]),λi Z=>i=(cs x).length]
def zeM(ta:TA):TI:=λσ H R=>ta σ H λvs H1=>∃x,vs=[.str x]/\R (Ite x) H1
theorem uN : ∀(names:List (pG × rX)) (tK:List (pG × pC)),
    (∀y,(y,NameKind.free) ∈ names->∃c,env.cells.lookup y=tE c)->(∀y c,tK.lookup y=tE c->env.cells.lookup y=tE c) ->
    ∃cl,(forIn names tK λ(x:pG × rX) (cs:List (pG × pC))=>if (x.2 == NameKind.free)=tG then (do let a <- cellOf env x.1;pure (ForInStep.yield ((x.1,a)::cs)))else pure (ForInStep.yield cs):Sem (List (pG × pC)))=pure cl /\
      (∀y c,cl.lookup y=tE c->env.cells.lookup y=tE c)/\(∀y,(y,NameKind.free) ∈ names\/(tK.lookup y).isSome=tG->∃c,cl.lookup y=tE c)
  | [],tK,_,ha=>#[tK,rfl,ha,λy h=>by
      rcases h with h | h
      . cases h
      . exact tW.mp h]
  | (n,k)::r,tK,hn,ha=>by
    by_cases hk:k=NameKind.free
    . subst hk
      let#[c,hc]:=hn n (by simp)
      have ha':∀y d,((n,c)::tK).lookup y=tE d->env.cells.lookup y=tE d:=λy d e=>by
        rw[ba]at e;by_cases hy:(y == n)=tG
        . rw[hy]at e
          have:y=n:=eq_of_beq hy;subst this;cases e;exact hc
        . have hy':(y == n)=tH:=by simpa using hy
          rw[hy']at e;exact ha y d e
      let#[cl,e,h1,h2]:=uN r ((n,c)::tK) (λy hy=>hn y (av _ hy)) ha';refine#[cl,?_,h1,λy hy=>h2 y ?_]
      . rw[dB]
        have ec:cellOf env n=pure c:=by unfold cellOf;rw[hc]
        erw[beq_self_eq_true,if_true,ec,pure_bind]
        exact e
      . rcases hy with hy | hy
        . rcases tN.mp hy with q | q
          . cases q
            exact .inr (by simp)
          . exact .inl q
        . refine .inr ?_
          rw[ba];by_cases hyn:(y == n)=tG
          . rw[hyn];rfl
          . have hy':(y == n)=tH:=by simpa using hyn
            rw[hy'];exact hy
    . let#[cl,e,h1,h2]:=uN r tK (λy hy=>hn y (av _ hy)) ha
      refine#[cl,?_,h1,λy hy=>h2 y ?_]
      . rw[dB]
        have ek:(k == NameKind.free)=tH:=by simpa using hk
        erw[ek,aY,if_false,pure_bind]
        exact e
      . rcases hy with hy | hy
        . rcases tN.mp hy with q | q
          . cases q;exact y9 rfl hk
          . exact .inl q
        . exact .inr hy
def wu(hn:∀y,(y,NameKind.free) ∈ scope.names->∃c,env.cells.lookup y=tE c) :
  ∃cl,closureFor scope env=pure cl/\(∀y c,cl.lookup y=tE c->env.cells.lookup y=tE c)/\(∀y,(y,NameKind.free) ∈ scope.names->∃c,cl.lookup y=tE c):=by
 let#[cl,e,h1,h2]:=uN scope.names [] hn (λy c h=>by cases h);refine#[cl,?_,h1,λy hy=>h2 y (.inl hy)];unfold closureFor
 erw[bind_pure]
 exact e
abbrev Qt(ifs:List rF)(env:tm):Sem Bool :=
 forIn ifs tG λc r=>if r=tG then (do let ok <- isTrue c env (eval c env);pure (ForInStep.yield ok))else pure (ForInStep.yield r)
theorem YI(I:Nat->pF->Prop)(hEE:EE=notedBy (model prog w) A env λe s'=>R (.error e) s')(turn:∀n s,I n s->pE (model prog w) A (pyNext it) (λr s1=>match r with
   | none=>R (.ok .next) s1
   | some v=>pE (model prog w) A (letOwnedTupleGo tg it v) (λZ s2=>pE (model prog w) A (assign tg env v) (λ_ s3 =>
     pE (model prog w) A (Qt ifs env) (λok s4=>if ok=tG then
      pE (model prog w) A (eval elt env) (λx s5=>pE (model prog w) A (call (.builtin "list.append") [tK,x]) (λZ s6=>∃m,m<n/\I m s6) EE s5) EE s4
      else ∃m,m<n/\I m s4) EE s3) EE s2) EE s1) EE s) (n:Nat) (h:I n s) :
  rz (model prog w) A (.compLoop (.ListComp elt [#[tg,iter,ifs,0]] scope pos) 0 it tK env) R s:=by
 subst hEE;refine codeAny_loop rfl I (λn s hI=>?_) n h;show pE _ A ((compTurn (.ListComp elt [#[tg,iter,ifs,0]] scope pos) 0 it tK env).onRaise (λx=>do noteFrame x env;theTreesLotGoes x)) _ _ s;refine wpAny_noted ?_;rw[compTurn_list];refine ph (rj (ph (thn (turn n s hI) λr s1 h1=>?_)))
 cases r with
 | none=>exact pi h1
 | some v =>
  refine ph (thn h1 λZ s2 h2=>ph (thn h2 λZ s3 h3=>ph (thn h3 λok s4 h4=>?_)))
  cases ok with
  | false=>exact pi #[rfl,h4]
  | true=>exact ph (ph (thn h4 λx s5 h5=>ph (thn h5 λZ s6 h6=>pi (pi #[rfl,h6]))))
def ya(X:Cx)(scope:rY)(cl:List (pG × pC))(C:pC)(N:List pG)(tI:List (pC × rH))(s3:pF)(H3:Hp)(fp:List pC)(E:pD->pF->Prop):Cx :=
 { X with N:=N,s₀:=s3,H₀:=H3,env:=compEnvC scope cl C X.env,outer:=X.stack,ex:=fp,fn:=λZ=>tH,pn:=X.pn ++ tI,xe:=E }
def wX(σ:St)(own:Nat)(ix:()):St:=af own tF ++ ix.map λi=>(σ[i]?).join
structure uU(X:Cx)(scope:rY)(own caps:List pG)(ix:()):Prop where
 kind:scope.kind=.function
 nocell:∀y ∈ scope.names,y.2≠.cell
 names:∀y ∈ scope.names,y.2=.local->scope.names.lookup y.1=tE .local
 free:∀y,(y,NameKind.free) ∈ scope.names->X.env.kindOf y=tE .cell\/X.env.kindOf y=tE .free
 hown:∀y ∈ own,scope.names.lookup y=tE .local
 hcaps:∀y ∈ caps,scope.names.lookup y=tE .free
 hix:ix.map (λi=>X.N[i]?)=caps.map tE
theorem wb{α β:Type}[BEq α][LawfulBEq α]{l:List (α × β)}{a:α}{b:β}(h:l.lookup a=tE b):(a,b) ∈ l:=by
 induction l with
 | nil=>cases h
 | cons p r ih =>
  let#[c,d]:=p;rw[ba]at h;by_cases e:(a == c)=tG
  ·rw[e]at h;cases h;rw[eq_of_beq e];exact az
  ·have e':(a == c)=tH:=by simpa using e
   rw[e']at h;exact av _ (ih h)
theorem vG{scope:rY}{env:tm}(hf:env.scope.kind=.function):∀{names:List (pG × rX)} {x:pG} {k:rX},names.lookup x=tE k ->
    (names.map λ(n,k)=>if (k == NameKind.free && env.scope.kind == .function && env.kindOf n == tE .cell)then (n,NameKind.cell)else (n,k)).lookup x=tE (if (k == NameKind.free && env.scope.kind == .function && env.kindOf x == tE .cell)=tG then .cell else k)
  | [],_,_,h=>by simp at h
  | (n,k')::r,x,k,h=>by
    have ih:=@vG scope env hf r x k;show br x ((if (k' == NameKind.free && env.scope.kind == .function && env.kindOf n == tE .cell)=tG then (n,NameKind.cell)else (n,k'))::_)=_;by_cases hx:(x == n)=tG
    . have hxn:x=n:=eq_of_beq hx
      subst hxn;rw[ba,hx]at h;cases h;by_cases c:(k' == NameKind.free && env.scope.kind == .function && env.kindOf x == tE .cell)=tG
      . rw[z6 c,z6 c,ba,hx]
      . rw[z9 c,z9 c,ba,hx]
    . have hx':(x == n)=tH:=by simpa using hx
      rw[ba,hx']at h;by_cases c:(k' == NameKind.free && env.scope.kind == .function && env.kindOf n == tE .cell)=tG
      . rw[z6 c,ba,hx'];exact ih h
      . rw[z9 c,ba,hx'];exact ih h
theorem qc{scope:rY}{env:tm}:∀{names:List (pG × rX)} {x:pG},names.lookup x=tF ->
    (names.map λ(n,k)=>if (k == NameKind.free && env.scope.kind == .function && env.kindOf n == tE .cell)then (n,NameKind.cell)else (n,k)).lookup x=tF
  | [],_,_=>rfl
  | (n,k')::r,x,h=>by
    have ih:=@qc scope env r x;show br x ((if (k' == NameKind.free && env.scope.kind == .function && env.kindOf n == tE .cell)=tG then (n,NameKind.cell)else (n,k'))::_)=_;by_cases hx:(x == n)=tG
    . rw[ba,hx]at h;cases h
    . have hx':(x == n)=tH:=by simpa using hx
      rw[ba,hx']at h;by_cases c:(k' == NameKind.free && env.scope.kind == .function && env.kindOf n == tE .cell)=tG
      . rw[z6 c,ba,hx'];exact ih h
      . rw[z9 c,ba,hx'];exact ih h
def ko(S:uU X scope own caps ix)(hcl1:∀y c,cl.lookup y=tE c->X.env.cells.lookup y=tE c)(hcl2:∀y,(y,NameKind.free) ∈ scope.names->∃c,cl.lookup y=tE c)(I:Inv X tI σ H s)(hfp:∀b ∈ fp,xK X tI H b)(hlt:∀b ∈ fp,b<s⁻¹)(hn:h4.Ns s⁻¹ λZ=>tF)(hk:∀b o,s.heap.get? b=tE o->h4.get? b=tE o) :
  Inv (ya X scope cl s⁻¹ (own ++ caps) tI s H fp E) [] (wX σ own.length ix) H { s with heap:=h4,toks:=t4 }:=by
 have kf:X.env.scope.kind=.function:=I.ok.kind;have nofp:∀b ∈ fp,b≠s⁻¹:=λb hb=>ax (hlt b hb)
 have cellLt:∀x c,X.env.cells.lookup x=tE c->c<s⁻¹:=λx c e=>by
  let#[v,o,ho,_]:=I.cell x c e;exact au ho
 have kinds:∀y k,scope.names.lookup y=tE k->(relabel scope X.env).names.lookup y=tE (if (k == NameKind.free && X.env.scope.kind == .function && X.env.kindOf y == tE .cell)=tG then .cell else k):=λy k e=>vG (scope:=scope) kf e
 have back:∀y k,(relabel scope X.env).names.lookup y=tE k->∃k',scope.names.lookup y=tE k'/\k=(if (k' == NameKind.free && X.env.scope.kind == .function && X.env.kindOf y == tE .cell)=tG then .cell else k'):=λy k e=>by
  cases q:scope.names.lookup y with
  | none =>
   have:=qc (scope:=scope) (env:=X.env) q;have e':(scope.names.map λ(n,k)=>if (k == NameKind.free && X.env.scope.kind == .function && X.env.kindOf n == tE .cell)then (n,NameKind.cell)else (n,k)).lookup y=tE k:=e;rw[this]at e';cases e'
  | some k' =>
   refine#[k',rfl,?_];have:=kinds y k' q;rw[e]at this;exact Option.some.inj this
 have isCell:∀y,scope.names.lookup y=tE .free->(relabel scope X.env).names.lookup y=tE .cell\/(relabel scope X.env).names.lookup y=tE .free:=λy e=>by
  have:=kinds y _ e;rcases S.free y (wb e)with q | q
  ·refine .inl ?_;rw[this,z6];rw[q,kf];rfl
  ·refine .inr ?_;rw[this,z9];rw[q];simp
 refine#[#[I.ok.mod,?_,I.ok.glob,I.ok.blt,am _,?_,?_,?_,I.ok.hd,I.ok.frames,.inl rfl,?_,I.bs,aG I.ok.bsz I.sz,?_,?_,I.stack,I.stkFree],rfl,I.bare,Un.kept hk,#[_,hn,?_],?_,?_,?_,?_,I.hok.kept hk,?_]
 ·show (relabel scope X.env).kind=.function;exact S.kind
 ·intro x y c h1 h2;exact I.ok.inj x y c (hcl1 x c h1) (hcl1 y c h2)
 ·intro y hy;have hy':(relabel scope X.env).names.lookup y=tE .cell\/(relabel scope X.env).names.lookup y=tE .free:=hy
  have:scope.names.lookup y=tE .free:=by
   rcases hy' with q | q
   ·let#[k',e,ek]:=back y _ q;by_cases c:(k' == NameKind.free && X.env.scope.kind == .function && X.env.kindOf y == tE .cell)=tG
    ·rw[aM,aM]at c;rw[e,eq_of_beq c.1.1]
    ·rw[z9 c]at ek;exact y9 ek.symm (S.nocell _ (wb e))
   ·let#[k',e,ek]:=back y _ q;by_cases c:(k' == NameKind.free && X.env.scope.kind == .function && X.env.kindOf y == tE .cell)=tG
    ·rw[z6 c]at ek;cases ek
    ·rw[z9 c]at ek;rw[e,<- ek]
  exact hcl2 y (wb this)
 ·intro x c h _;exact y9 h (by simp [ya])
 ·intro b hb;refine#[nofp b hb,λx c e=>?_];exact (hfp b hb).2.2.2.2.1 x c (hcl1 x c e)
 ·intro b o e hb;let#[_,_,_,q,_]:=hfp b hb;rcases q with q | q
  ·exact I.ok.noex b o e q
  ·exact y9 (ao (au e) (aG I.ok.bsz q)) (cw _)
 ·intro b hb z;rcases tN.mp (I.stkSub b z)with e | e
  ·exact (hfp b hb).2.1 e
  ·exact (hfp b hb).2.2.1 e
 ·intro i y v h1 h2 h3
  have hi:own.length<=i:=by
   refine bV λhlt'=>?_;unfold wX at h2;rw[dA (by rw[bf];exact hlt'),fu,z6 hlt']at h2;cases h2
  have h1':caps[i - own.length]? = tE y:=by
   have:(own ++ caps)[i]? = tE y:=h1;rw[cH hi]at this;exact this
  have h2':(ix.map λi=>(σ[i]?).join)[i - own.length]? = tE (tE v):=by
   unfold wX at h2;rw[cH (by rw[bf];exact hi),bf]at h2;exact h2
  rw[ay]at h2';have hx:=congrArg (λl=>l[i - own.length]?) S.hix
  erw[ay,h1',Option.map_some]at hx
  cases q:ix[i - own.length]? with
  | none=>rw[q]at h2';cases h2'
  | some j =>
   rw[q]at h2' hx;have hj:X.N[j]? = tE y:=Option.some.inj hx;have hv:(σ[j]?).join=tE v:=Option.some.inj h2'
   have hσ:σ[j]? = tE (tE v):=by
    cases r:σ[j]? with
    | none=>rw[r]at hv;cases hv
    | some z=>rw[r]at hv;cases z with
     | none=>cases hv
     | some z=>cases hv;rfl
   have hfree:scope.names.lookup y=tE .free:=S.hcaps y (ag h1');have hkc:=S.free y (wb hfree);let#[m,hm,hl]:=I.loc;let#[u,ru,l]:=hl j y v hj hσ (.inr hkc);refine#[u,ru,.inr #[isCell y hfree,?_]];rcases l with ⟨k,_⟩ | ⟨_,c,e,z⟩
   ·have:X.env.kindOf y=tE .local:=k;rcases hkc with q' | q' <;> (rw[q']at this;cases this)
   ·let#[c',e']:=hcl2 y (wb hfree);have:=hcl1 y c' e';rw[e]at this;cases this;let#[o,ho,hd]:=z;exact#[c,e',o,hk c o ho,hd]
 ·intro x c e;let#[v,o,ho,hd]:=I.cell x c (hcl1 x c e);exact#[v,o,hk c o ho,hd]
 ·exact I.hok.fresh (am _)
 ·intro x c e;exact I.freeC x c (hcl1 x c e)
 ·intro p hp
  have hp':p ∈ X.pn ++ tI:=by
   have:p ∈ (X.pn ++ tI) ++ []:=hp
   rwa [aV]at this
  let#[e,n,ne,nf,d]:=I.pin p hp';refine#[hk _ _ e,n,?_,λz=>?_,d]
  ·exact ax (au e)
  ·rcases tN.mp (I.stkSub p.1 z)with q | q
   ·exact ne q
   ·exact nf q
 ·show (wX σ own.length ix).length=(own ++ caps).length;have:=congrArg dU S.hix;rw[aa,aa]at this;unfold wX;rw[aq,bf,aa,aq,this]
def xm(σ σ':St):Prop:=σ.length=σ'.length/\∀(i:Nat) v,σ[i]? = tE (tE v)->σ'[i]? = tE (tE v)
def PTs(X:Cx)(ifs:List rF)(t:TT):Prop :=
 ∀(tI:List (pC × rH)) (s:pF) (σ:St) (H:Hp) (Q:Bool->Hp->Prop),Inv X tI σ H s->t σ H Q->pE (model X.prog X.w) X.A (Qt ifs X.env) (TP X tI σ Q) X.xe s
def xy:TT:=λZ H Q=>Q tG H
def zY : PTs X [] xy:=λZ Z Z H Z I h=>pi #[H,I,h]
def Ul(h:PT X c t):PTs X [c] t:=λtI s σ H Q I hq=>by
 show pE _ _ (forIn [c] tG _) _ _ s
 erw[dB,fO,if_true]
 exact ph (ph (thn (h tI s σ H Q I hq) λb s' hb=>pi (pi hb)))
def qP(wi:TI)(g:TG)(tt:TT)(te:TE)(own:Nat)(ix:()):TE:=λσ H Q=>wi σ H λJ H1=>∀D,H1 D=tF->∃W:Nat->Nat->List V->Hp->Prop,(∃m,W 0 m [] (upd H1 D (.lst []))) /\
 ∀i m tK H',W i m tK H'->(J.stop i H'/\Q (.ref D) H')\/(J.go i H'/\∀x H2,J.yld i H' x H2->g x (wX σ own ix) H2 λσ3 H3=>xm (wX σ own ix) σ3/\tt σ3 H3 λb H4=>if b=tG then
  te σ3 H4 λv H5=>H5 D=tE (.lst tK)/\tK.length<pA/\∃m',m'<m/\W (i+1) m' (tK ++ [v]) (upd H5 D (.lst (tK ++ [v])))
  else ∃m',m'<m/\W (i+1) m' tK H4)
def HOk.but(ok:HOk P w H h1)(sb:Heap.SameBut a h1 h2)(ha:H a=tF):HOk P w H h2:=λb ob e=>by
 refine (ok b ob e).stay (λc u hc q=>(sb.2 c ?_).trans q) (λZ q=>q) λZ Z q=>q;rintro rfl;rcases hc with rfl | hc
 ·rw[ha]at e;cases e
 ·rw[ha]at hc;cases hc
def Vj(hc:X.calm=tG)(S:uU X scope own caps ix)(hg:∀cl C tI s3 H3 fp,PG (ya X scope cl C (own ++ caps) tI s3 H3 fp λZ Z=>False) tg g)(ht:∀cl C tI s3 H3 fp,PTs (ya X scope cl C (own ++ caps) tI s3 H3 fp λZ Z=>False) ifs tt)(he:∀cl C tI s3 H3 fp,PE (ya X scope cl C (own ++ caps) tI s3 H3 fp λZ Z=>False) elt te)(hc1:∀y c,cl.lookup y=tE c->X.env.cells.lookup y=tE c)(hc2:∀y,(y,NameKind.free) ∈ scope.names->∃c,cl.lookup y=tE c){Q:VK}(I2:Inv X tI σ H2 s2)(T:Q5 X.prog X.w X.K tg J fp it tn)(st2:tn 0 s2.heap)(f2:∀b ∈ fp,xK X tI H2 b)(q:∀D,H2 D=tF->∃W:Nat->Nat->List V->Hp->Prop,(∃m,W 0 m [] (upd H2 D (.lst []))) /\
   ∀i m tK H',W i m tK H'->(J.stop i H'/\Q (.ref D) H')\/(J.go i H'/\∀x H2,J.yld i H' x H2->g x (wX σ own.length ix) H2 λσ3 H3=>xm (wX σ own.length ix) σ3/\tt σ3 H3 λb H4=>if b=tG then
    te σ3 H4 λv H5=>H5 D=tE (.lst tK)/\tK.length<pA/\∃m',m'<m/\W (i+1) m' (tK ++ [v]) (upd H5 D (.lst (tK ++ [v])))
    else ∃m',m'<m/\W (i+1) m' tK H4)) {RR:pD->pC->Result->pF->Prop} (hRR:∀D C m s' H',H2 D=tF->s'.heap.Ns C m->xK X tI H' C->Inv X tI σ H' s'->Q (.ref D) H'->RR (.ref D) C (.ok .next) s') :
  pE (model X.prog X.w) X.A (newList []) (λtK s3=>pE (model X.prog X.w) X.A (newFunctionEnv scope X.env.globals cl [] X.env.qual tF .none (tE X.env)) (λcenv s4 =>
   rz (model X.prog X.w) X.A (.compStart (.ListComp elt [#[tg,iter,ifs,0]] scope pos) 0 (.ref it) tK { cenv with scope:=relabel scope X.env }) (RR tK cenv.locals) s4) E s3) E s2:=by
 have hD:H2 s2⁻¹=tF:=I2.hok.fresh (am _);let#[W,#[m0,w0],turn]:=q _ hD;refine sf (rV S.nocell (by intro y hy;simp at hy) (λh1 hns1 hsb1=>?_) S.kind);dsimp only at hns1 hsb1 ⊢
 have I3:Inv X tI σ (upd H2 s2⁻¹ (.lst [])) { s2 with heap:=s2.heap.push { cls:=.type "list",dict:=tF,data:=.seq ([]:List pD).toArray } } :=
  I2.lnew (its:=[]) (t':=s2.toks) .nil (aw _)
 generalize hs3:({ s2 with heap:=s2.heap.push { cls:=.type "list",dict:=tF,data:=.seq ([]:List pD).toArray } }:pF)=s3 at I3;have e3:s2.heap.push { cls:=.type "list",dict:=tF,data:=.seq ([]:List pD).toArray }=s3.heap:=by rw[<- hs3]
 rw[e3]at hns1 hsb1 ⊢;have k1:∀b o,s3.heap.get? b=tE o->h1.get? b=tE o:=λb o e=>(hsb1.2 b (ax (au e))).trans (ac _ e);have k23:∀b o,s2.heap.get? b=tE o->s3.heap.get? b=tE o:=λb o e=>by rw[<- e3];exact ac _ e
 have hz:s3⁻¹=s2⁻¹+1:=by rw[<- e3,bG]
 have fpObj:∀b ∈ fp,∃o,s2.heap.get? b=tE o:=λb hb=>let #[o,e,_]:=T.obj 0 _ st2 b hb; #[o,e];have fplt:∀b ∈ fp,b<s2⁻¹:=λb hb=>let #[o,e]:=fpObj b hb;au e;have f3:∀b ∈ fp,xK X tI (upd H2 s2⁻¹ (.lst [])) b:=λb hb=>#[by rw[zm (ax (fplt b hb))];exact (f2 b hb).1,(f2 b hb).2]
 have I4:Inv (ya X scope cl s3⁻¹ (own ++ caps) tI s3 (upd H2 s2⁻¹ (.lst [])) fp λZ Z=>False) [] (wX σ own.length ix) (upd H2 s2⁻¹ (.lst [])) { s3 with heap:=h1,toks:=s3.toks+([]:List (pG × pD)).length } :=
  ko S hc1 hc2 I3 f3 (λb hb=>by rw[hz];exact cr (fplt b hb)) hns1 k1
 have st4:tn 0 h1:=T.keep 0 _ _ st2 λb hb o e=>k1 b o (k23 b o e);generalize hs4:({ s3 with heap:=h1,toks:=s3.toks+([]:List (pG × pD)).length }:pF)=s4 at I4;have es4:({ s2 with heap:=h1,toks:=s2.toks+([]:List (pG × pD)).length }:pF)=s4:=by rw[<- hs4,<- hs3]
 have e4:h1=s4.heap:=by rw[<- hs4]
 have loop:rz (model X.prog X.w) X.A (.compLoop (.ListComp elt [#[tg,iter,ifs,0]] scope pos) 0 (.ref it) (.ref s2⁻¹) (compEnvC scope cl s3⁻¹ X.env)) (RR (.ref s2⁻¹) s3⁻¹) s4:=by
  let X':=ya X scope cl s3⁻¹ (own ++ caps) tI s3 (upd H2 s2⁻¹ (.lst [])) fp λZ Z=>False
  have fp':∀{H':Hp},(∀b ∈ fp,H' b=tF)->∀b ∈ fp,xK X' [] H' b:=λ{H'} hn b hb=>by
   let#[_,a1,a2,a3,a4,a5]:=f3 b hb;refine#[hn b hb,ax (show b<s3⁻¹ from by rw[hz];exact cr (fplt b hb)),λz=>?_,.inl hb,λx c e=>a4 x c (hc1 x c e),λp hp=>?_]
   ·rcases tN.mp (I3.stkSub b z)with e | e
    ·exact a1 e
    ·exact a2 e
   ·have:p ∈ (X.pn ++ tI) ++ []:=hp;rw[aV]at this;exact a5 p this
  refine YI (λn s'=>∃i tK H',Inv X' [] (wX σ own.length ix) H' s'/\tn i s'.heap/\(∀b ∈ fp,H' b=tF)/\W i n tK H') rfl ?_ m0 #[0,[],_,I4,by rw[<- e4];exact st4,λb hb=>(f3 b hb).1,w0];rintro n s5 ⟨i,tK,H5,I5,st5,fr5,w5⟩;refine pV ?_;rcases turn i n tK H5 w5 with ⟨stop,qn⟩ | ⟨go,step⟩
  ·refine thn (T.done X' rfl rfl rfl hc i [] s5 _ H5 _ I5 (fp' fr5) st5 stop) λr s6 ⟨hr,I6⟩=>?_;subst hr;let#[m,hm,_]:=I6.loc;refine hRR _ _ m s6 H5 hD hm (I3.fpOk (am _) I6.free) (I3.call' (s':=s6) I6.os I6.base I6.hok I6.bare λb hb=>?_) qn;let#[_,a1,a2,a3,a4,a5]:=f3 b hb;exact#[a3,a1,a4,a5]
  ·refine thn (T.item X' rfl rfl rfl hc i [] s5 _ H5 (λZ Z=>False) I5 (fp' fr5) st5 go) λr s6 ⟨u,hr,h6⟩=>?_;subst hr;refine pV (thn h6 λZ s7=>el5 λx H7 I7 r7 q_z=>?_);let#[y7,st7,fr7]:=q_z;have I7':=I7.pinned (fp' fr7) (T.obj _ _ st7);refine pV (thn (hg _ _ _ _ _ _ _ s7 _ H7 x u _ I7' r7 (step x H7 y7)) λZ s8=>el5 λσ8 H8 I8 ks q8=>?_);refine pV (thn (ht _ _ _ _ _ _ _ s8 σ8 H8 _ I8 q8) λb s9=>el3 λH9 I9 q9=>?_)
   have back:∀{s':pF} {H':Hp} {acc':List V} {m':Nat},Inv X' ([] ++ kg fp s7.heap) σ8 H' s'->m'<n->W (i+1) m' acc' H'->∃m,m<n/\∃i tK H',Inv X' [] (wX σ own.length ix) H' s'/\tn i s'.heap/\(∀b ∈ fp,H' b=tF)/\W i m tK H':=λ{s' H' acc' m'} J' hm w'=>by
    refine#[m',hm,i+1,acc',H',(J'.unpinned).weak ks.1 ks.2,T.keep _ _ _ st7 λb hb o e=>(J'.pin (b,o) (aC _ (aC _ (xB hb e)))).1,λb hb=>?_,w'];let#[o,e,d]:=T.obj _ _ st7 b hb;exact (J'.pin (b,o) (aC _ (aC _ (xB hb e)))).2.1
   cases b with
   | false =>
    rw[z9 aB]at q9 ⊢;let#[m',hm,w']:=q9;exact back I9 hm w'
   | true =>
    rw[z6 rfl]at q9 ⊢;refine pV (thn (he _ _ _ _ _ _ _ s9 σ8 H9 _ I9 q9) λv s10=>el5 λy H10 I10 r10 q_z=>?_);let#[hD10,hsz,m',hm,w']:=q_z;refine pV ?_;have:=xg (X:=X') _ s10 σ8 H10 (.ref s2⁻¹) [y] (.ref s2⁻¹) [v] (λZ H'=>H'=upd H10 s2⁻¹ (.lst (tK ++ [y]))) I10 rfl (.cons r10 .nil) #[tK,hD10,hsz,rfl];refine thn this λ_ s11 ⟨_,H11,I11,_,eH⟩=>?_;subst eH;exact back I11 hm w'
 have goal:rz (model X.prog X.w) X.A (.compStart (.ListComp elt [#[tg,iter,ifs,0]] scope pos) 0 (.ref it) (.ref s2⁻¹) (compEnvC scope cl s3⁻¹ X.env)) (RR (.ref s2⁻¹) s3⁻¹) s4 :=
  sr loop (T.self _ 0 s4 _ _ (by rw[<- e4];exact st4) loop)
 rw[<- es4]at goal;exact goal
def pe_comp(hc:X.calm=tG)(S:uU X scope own caps ix)(hi:PI X tg iter wi)(hg:∀cl C tI s3 H3 fp,PG (ya X scope cl C (own ++ caps) tI s3 H3 fp λZ Z=>False) tg g)(ht:∀cl C tI s3 H3 fp,PTs (ya X scope cl C (own ++ caps) tI s3 H3 fp λZ Z=>False) ifs tt)(he:∀cl C tI s3 H3 fp,PE (ya X scope cl C (own ++ caps) tI s3 H3 fp λZ Z=>False) elt te)(hs:‹∀x,foldedSetIterable iter X.env x=pure x›) :
  PE X (.ListComp elt [#[tg,iter,ifs,0]] scope pos) (qP wi g tt te own.length ix):=by intros Q I h;let#[cl,hclos,hc1,hc2]:=wu (scope:=scope) (env:=X.env) λy hy=>I.ok.has y (S.free y hy);rw[eval_ListComp];refine rM (use:=tF) rfl hs hclos S.kind S.names (thn (hi tI s σ H _ I h) λv s1 h1=>thn h1 λitv s2 h2=>?_);let#[it,fp,tn,J,H2,e,I2,T,st2,f2,q]:=h2;subst e;refine Vj (RR:=λtK C=>compPost (model X.prog X.w) X.A X.xe tF (EP X tI σ Q) tK C) hc S hg ht he hc1 hc2 I2 T st2 f2 q ?_;intro D C m s' H' _ hn fc I' qn;let#[a0,a1,a2,a3,a4,a5]:=fc;exact#[m,hn,λh' sb=>#[.ref D,H',I'.turned (t':=s'.toks) (λb o hb e=>(sb.2 b hb).trans e) a0 a1 a3 a4 a5,rfl,qn]]
def Zr(i:Nat)(t:TE):TS:=λD σ H=>t σ H λx H1=>D.nx (σ.set i (tE x)) H1
def QU:R2:=λx y H Q=>match x with | .int i=>onInt y λj=>Q (.int (i+j)) H | .str i=>onStr y λj=>i.length+j.length<=pA/\Q (.str (i ++ j)) H | .ref l=>zcv (.ref l) y H Q | _=>False
theorem zC:OpR X (binaryOp .Add) QU:=by
 intros x y v u Q I rx ry h
 cases x with
 | int i=>exact xt tI s σ H (.int i) y v u Q I rx ry h
 | str i=>exact yH tI s σ H (.str i) y v u Q I rx ry (by let#[j,rfl,q]:=onStr.of h;exact#[i,j,rfl,rfl,q])
 | ref l=>exact UR tI s σ H (.ref l) y v u Q I rx ry h
 | _=>exact h.elim
def Jf:R2:=λx y H Q=>match x with | .int i=>onInt y λj=>CMul i j/\Q (.int (i * j)) H | .str z=>onInt y λn=>0<=n/\n<=1000/\z.length<=1000/\Q ⇑(af n.toNat (cs z)).flatten H | _=>False
theorem yj:OpR X (binaryOp .Mult) Jf:=by
 intros x y v u Q I rx ry h
 cases x with
 | int i=>exact j7 tI s σ H (.int i) y v u Q I rx ry h
 | str z=>exact Ve tI s σ H (.str z) y v u Q I rx ry (by let#[n,rfl,q]:=onInt.of h;exact#[z,n,rfl,rfl,q])
 | _=>exact h.elim
def zeQ:R2:=λx y H Q=>match x with | .int i=>onInt y λj=>Q (.bl (decide (i<j))) H | .str i=>onStr y λj=>Q (.bl (decide (cs i<cs j))) H | _=>False
theorem zdR:OpR X (pH .Lt) zeQ:=by
 intros x y v u Q I rx ry h
 cases x with
 | int i=>exact Qu tI s σ H (.int i) y v u Q I rx ry h
 | str i=>exact op_lt_str' tI s σ H (.str i) y v u Q I rx ry (by let#[j,rfl,q]:=onStr.of h;exact#[i,j,rfl,rfl,q])
 | _=>exact h.elim
def zfo:R2:=λx y H Q=>match x with | .int i=>onInt y λj=>Q (.bl (decide (i<=j))) H | .str i=>onStr y λj=>Q (.bl (!(decide (cs j<cs i)))) H | _=>False
theorem vY:OpR X (pH .LtE) zfo:=by
 intros x y v u Q I rx ry h
 cases x with
 | int i=>exact zfM tI s σ H (.int i) y v u Q I rx ry h
 | str i=>exact QX tI s σ H (.str i) y v u Q I rx ry (by let#[j,rfl,q]:=onStr.of h;exact#[i,j,rfl,rfl,q])
 | _=>exact h.elim
def VL:OpR X (pH .Gt) (λx y H Q=>∃i j,x=.str i/\y=.str j/\Q (.bl (decide (cs j<cs i))) H):=by intros x y v u Q I rx ry h;let#[i,j,rfl,rfl,q]:=h;let#[t,rfl]:=rx;let#[t',rfl]:=ry;exact PySem.P.gt_str #[.bl _,H,I,rfl,q]
def zez:R2:=λx y H Q=>match x with | .int i=>onInt y λj=>Q (.bl (decide (j<i))) H | .str i=>onStr y λj=>Q (.bl (decide (cs j<cs i))) H | _=>False
theorem uT:OpR X (pH .Gt) zez:=by
 intros x y v u Q I rx ry h
 cases x with
 | int i=>exact Jw tI s σ H (.int i) y v u Q I rx ry h
 | str i=>exact VL tI s σ H (.str i) y v u Q I rx ry (by let#[j,rfl,q]:=onStr.of h;exact#[i,j,rfl,rfl,q])
 | _=>exact h.elim
def zeT(K:pB):V->Option Int->Option Int->Hp->VK->Prop:=λx lo hi H Q=>match x with | .ref a=>zc0 K (.ref a) lo hi H Q | .str z=>zcW (.str z) lo hi H Q | _=>False
theorem zef:SlR X (zeT X.K):=by
 intros x v vl vu lo hi sl Q I rx hs pl pu h
 cases x with
 | ref a=>exact UG tI s σ H (.ref a) v vl vu lo hi sl Q I rx hs pl pu h
 | str z=>exact vg tI s σ H (.str z) v vl vu lo hi sl Q I rx hs pl pu h
 | _=>exact h.elim
def cV:V->Option pD
 | .ty n=>tE (.type n)
 | .ref a=>tE (.ref a)
 | _=>tF
def Jz:vx X (.builtin "isinstance") (λxs H Q=>∃x c u t b,xs=[x,c]/\cV c=tE u/\Wn X.K H x t/\aS X.K t u=tE b/\Q (.bl b) H):=by
 intros xs us Q I r h;let#[x,c,u,t,b,rfl,hc,ty,e,q]:=h;let#[v,w',rfl,rx,rc]:=UW r
 have:w'=u:=by
  cases c with
  | ty n=>cases hc;exact rc
  | ref a=>cases hc;exact rc
  | _=>cases hc
 subst this;exact VH I rx ty e λtk=>#[.bl b,H,I.tok tk,rfl,q]
def Iel(K:pB)(a:pC):It:=#[λi H=>∃xs x,SqL K H a xs/\xs[i]? = tE x,λi H v H'=>∃p x,H p=tF/\(∀xs,SqL K H a xs->xs[i]? = tE x)/\v=.ref p/\H'=upd H p (.tup [.int (i:Nat),x]),λi H=>∃xs,SqL K H a xs/\i=xs.length]
def Vi{K:pB}(e it a:pC)(hei:e≠it) :
  Q5 P w K (.Tuple elts x1 tpos) (Iel K a) [e,it] e (λi h=>(∃old,IsEnum h e it i old)/\h.IsListIter it a i) where
 mem:=by simp
 obj:=λi h st b hb=>by
  let#[#[old,he],o,e2,c,d]:=st;rcases tN.mp hb with q | q
  ·subst q;exact#[_,he,λv z=>by have z':Data.fields _=Data.cell v:=z;cases z']
  ·have q':b=it:=by simpa using q
   subst q';exact#[o,e2,λv z=>by rw[d]at z;cases z]
 keep:=λi h h' st k=>by
  let#[#[old,he],st]:=st;exact#[#[old,k e (by simp) _ he],st.at λo q=>k it (by simp) o q]
 item:=by
  intro X hP hw hK hc i tI s σ H E I hf st hg;subst hP hw hK;let#[#[old,he],st]:=st;let#[xs,x,hq,hx]:=hg;let#[its,rv,p,hz]:=I.list hq;let#[u,hu,ru]:=rv.get hx;have hA:X.A.in1.handled=tF:=I.ok.hd hc;have pl:=p.isList
  have hai:a≠it:=λz=>by
   subst z;let#[o1,q1,c1,_]:=st;let#[o2,q2,c2,_]:=pl;rw[q1]at q2;cases q2;rw[c1]at c2;exact y9 (Value.type.inj c2) ∅
  have hea:e≠a:=λz=>by
   subst z;let#[o2,q2,c2,_]:=pl;rw[he]at q2;cases q2;exact y9 (Value.type.inj c2) ∅
  refine wpAny_pyNext_enum_itemD (Draws.list (A:=X.A.in1) hA it a hai its.toArray) he #[st,pl] (by rw[al];exact (tL.mp hu).1) hei (by simp [hei,hea]) λv h' tk hv ho st' hT hsz kk=>?_
  have ev:v=u:=by
   have hv':its.toArray[i]? = tE v:=hv;rw[List.getElem?_toArray,hu]at hv';exact (Option.some.inj hv').symm
  subst ev;refine#[_,rfl,wpAny_letOwnedTupleGo_enum ho λh2 he2 sb=>?_];have elt:e<s⁻¹:=au he;have ilt:it<s⁻¹:=by let#[o,q,_]:=st;exact au q
  have I1:Inv X tI σ H { s with heap:=h2,toks:=tk+1 }:=Inv.turns (fp:=[e,it]) I (λb o hb q=>by
   have hb':b≠e/\b≠it:=by simpa using hb
   exact (sb.2 b hb'.1).trans (kk b o hb'.1 hb'.2 q)) hf
  have hp:H s⁻¹=tF:=I.hok.fresh (am _);have hT2:h2.get? s⁻¹=tE { cls:=.type "tuple",data:=.seq (u9 [.int (i:Nat) tk,v]) }:=(sb.2 _ (bU elt)).trans hT
  have I2:Inv X tI σ (upd H s⁻¹ (.tup [.int (i:Nat),x])) { s with heap:=h2,toks:=tk+1 } :=
   Inv.track I1 (I.fpOk (am _) hp) #[by show 2<=pA;decide,[.int (i:Nat) tk,v],.cons #[_,rfl] (.cons ru .nil),#[_,hT2,rfl,_,rfl]]
  refine#[.ref s⁻¹,_,I2,rfl,#[s⁻¹,x,hp,λys hy=>by rw[I.list_inj hy hq];exact hx,rfl,rfl],#[#[_,by simpa using he2],?_],λb hb=>?_]
  ·exact st'.1.at λo q=>(sb.2 it (Ne.symm hei)).trans q
  ·rw[zm]
   ·exact (hf b hb).1
   ·rcases tN.mp hb with q | q
    ·rw[q];exact ax elt
    ·have q':b=it:=by simpa using q
     rw[q'];exact ax ilt
 done:=by
  intro X hP hw hK hc i tI s σ H E I hf st hg;subst hP hw hK;let#[#[old,he],st]:=st;let#[xs,hq,hi]:=hg;let#[its,rv,p,hz]:=I.list hq;have pl:=p.isList
  have hai:a≠it:=λz=>by
   subst z;let#[o1,q1,c1,_]:=st;let#[o2,q2,c2,_]:=pl;rw[q1]at q2;cases q2;rw[c1]at c2;exact y9 (Value.type.inj c2) ∅
  have hA:X.A.in1.handled=tF:=I.ok.hd hc;have hi':i=its.toArray.size:=by rw[al,<- rv.length];exact hi
  subst hi';refine wpAny_pyNext_enum_endD (Draws.list (A:=X.A.in1) hA it a hai its.toArray) he #[st,pl] λh' hx=>#[rfl,?_];exact Inv.turns (fp:=[e,it]) (t':=s.toks) I (λb o hb q=>hx b o (λz=>hb (by simp [z])) q) hf
 self:=λA i s Q E st h=>by
  let#[#[old,he],_]:=st;exact sQ he h
def UC(K:pB)(ta:TA):TI:=λσ H R=>ta σ H λvs H1=>∃a,vs=[.ref a]/\(∃xs,SqL K H1 a xs)/\R (Iel K a) H1
def vq(hg:Gl X "enumerate")(hm:X.mg "enumerate" = tF)(ha:PA X [a] ta)(hs:‹pq [a] X.env=[(tH,eval a X.env)]›) :
  PI X (.Tuple elts x1 tpos) (.Call (.Name "enumerate" p) [a] [] pos) (UC X.K ta):=by
 intros R I h;refine Call_ (vC I hg hm PyProof.Rows.boot_enumerate (bB (thn (ha pos tI s σ H _ I h) λus s1=>el5 λvs H1 I1 r1 q1=>?_) hs rfl));let#[l,e,#[xs,hq],q]:=q1;subst e;let#[u,rfl,ru]:=wr r1;cases ru;let#[its,rv,pl,hz]:=I1.list hq;refine call_enumerate_list pl.isList λh' he hit hsz kk=>?_;have I2:Inv X tI σ H1 { s1 with heap:=h' }:=I1.kept (t':=s1.toks) kk;refine sQ (s:={ s1 with heap:=h' }) (i:=0) he ?_;refine#[s1⁻¹+1,[s1⁻¹+1,s1⁻¹],_,_,H1,rfl,I2,Vi _ _ l (Nat.succ_ne_self _),#[#[_,he],hit],λb hb=>?_,q]
 have hb':s1⁻¹<=b:=by
  rcases tN.mp hb with e | e
  ·rw[e];exact cL _
  ·have:b=s1⁻¹:=by simpa using e
   rw[this];exact am _
 exact I1.fpOk hb' (I1.hok.fresh hb')
def ForEL(K:pB)(a:pC)(g:TG)(tb:TS)(D:ZH)(σ:St)(H:Hp):Prop:=∃W:Nat->Nat->St->Hp->Prop,(∃m,W 0 m σ H)/\∀i m σ H,W i m σ H ->
 ((Iel K a).stop i H/\D.nx σ H)\/((Iel K a).go i H/\∃N:St->Hp->Prop,(∀σ' H',N σ' H'->∃m',m'<m/\W (i+1) m' σ' H')/\∀x H',(Iel K a).yld i H x H'->g x σ H' λσ2 H2=>tb { D with nx:=N,ct:=N,bk:=D.nx } σ2 H2)
def zeh{K:pB}:Jh (UC K ta) g tb D σ H=ta σ H λvs H1=>∃a,vs=[.ref a]/\(∃xs,SqL K H1 a xs)/\ForEL K a g tb D σ H1:=rfl
def ForEL.by{K:pB}(Pv:Nat->St->Hp->Prop)(h0:Pv 0 σ H)(hl:∀i σ H,i<=xs.length->Pv i σ H->SqL K H a xs)(hs:∀i x σ H p,xs[i]? = tE x->Pv i σ H->H p=tF->g (.ref p) σ (upd H p (.tup [.int (i:Nat),x])) λσ2 H2=>tb { D with nx:=Pv (i+1),ct:=Pv (i+1),bk:=D.nx } σ2 H2)(hd:∀σ H,Pv xs.length σ H->D.nx σ H):ForEL K a g tb D σ H:=by
 refine#[λi m σ H=>m=xs.length - i/\i<=xs.length/\Pv i σ H,#[xs.length,by simp,aw _,h0],?_];rintro i m σ H ⟨rfl,hi,p⟩;have q:=hl i σ H hi p;by_cases hlt:i<xs.length
 ·refine .inr #[#[xs,xs[i],q,by simp [hlt]],Pv (i+1),λσ' H' p'=>#[xs.length - (i+1),⋯,rfl,hlt,p'],λv H' y=>?_];let#[p',x,hp,hx,ev,eH]:=y;subst ev eH;exact hs i x σ H p' (hx xs q) p hp
 ·have e:i=xs.length:=⋯;subst e;exact .inl #[#[xs,q,rfl],hd σ H p]
def ForT(K:pB)(a:pC)(g:TG)(tb:TS)(D:ZH)(σ:St)(H:Hp):Prop:=∃W:Nat->Nat->St->Hp->Prop,(∃m,W 0 m σ H)/\∀i m σ H,W i m σ H ->
 ((Itt K a).stop i H/\D.nx σ H)\/((Itt K a).go i H/\∃N:St->Hp->Prop,(∀σ' H',N σ' H'->∃m',m'<m/\W (i+1) m' σ' H')/\∀x H',(Itt K a).yld i H x H'->g x σ H' λσ2 H2=>tb { D with nx:=N,ct:=N,bk:=D.nx } σ2 H2)
def zgp{K:pB}:Jh (zf8 K tl) g tb D σ H=tl σ H λx H1=>∃a,x=.ref a/\(∃xs,SqT K H1 a xs)/\ForT K a g tb D σ H1:=rfl
def ForT.by{K:pB}(Pv:Nat->St->Hp->Prop)(h0:Pv 0 σ H)(hl:∀i σ H,i<=xs.length->Pv i σ H->SqT K H a xs)(hs:∀i x σ H,xs[i]? = tE x->Pv i σ H->g x σ H λσ2 H2=>tb { D with nx:=Pv (i+1),ct:=Pv (i+1),bk:=D.nx } σ2 H2)(hd:∀σ H,Pv xs.length σ H->D.nx σ H):ForT K a g tb D σ H:=zaF Pv h0 hl hs hd
def zfr(K:pB)(x:V)(H:Hp)(p:Bool->Prop):Prop:=match x with | .bl b=>p b | x=>∃k,zd7 K x H k/\p k
def tTr(K:pB)(ta:TE):TT:=λσ H Q=>ta σ H λx H'=>zfr K x H' λk=>Q k H'
def zbd{K:pB}:tTr K ta σ H Q=ta σ H λx H'=>zfr K x H' λk=>Q k H':=rfl
def tBl(ta:TE):TT:=λσ H Q=>ta σ H λx H'=>onBl x λk=>Q k H'
def zcb : tBl ta σ H Q=ta σ H λx H'=>onBl x λk=>Q k H':=rfl
def yU(ha:PE X a ta)(he:∀whole,isTrue a X.env whole=(do let v <- whole;standAt a.pos;holding [v] (truthy v))):PT X a (tBl ta):=by intros Q I h;refine isTrue_plain (thn (ha tI s σ H _ I h) λv s1=>el5 λx H1 I1 r1 q1=>?_) (he _);let#[k,rfl,q1]:=onBl.of q1;exact KA tI s1 σ H1 (.bl k) v Q I1 r1 #[k,rfl,q1]
theorem zdf(hne:t≠it):∀(n i:Nat) (s:pF) (Q:List pD->pF->Prop),s.heap.IsListIter it t i->s.heap.IsList t items->i+n<=items.size ->
  (∀h',h'.IsListIter it t (i+n)->Heap.SameBut it s.heap h'->Q ((items.toList.drop i).take n) { s with heap:=h' })->pE (model prog w) A (draw (.ref it) n) Q E s
 | 0,i,s,Q,hit,_,_,hQ=>by
  show pE _ _ (pure []) Q E s;exact pi (by simpa using hQ s.heap hit (Heap.SameBut.refl ..))
 | n+1,i,s,Q,hit,ht,hle,hQ=>by
  have hlt:i<items.size:=⋯;show pE _ _ (pyNext (.ref it) >>= _) Q E s;refine ph (so hit ht (x:=items[i]) (by simp [hlt]) λh₁ hit₁ hs₁=>?_);refine ph (pL (zdf hne n (i+1) _ _ hit₁ (ht.extBut hs₁.extBut hne) ⋯ λh₂ hit₂ hs₂=>pi ?_));have hd:items.toList.drop i=items[i]::items.toList.drop (i+1):=by simp [aO,hlt]
  have:=hQ h₂ (by rw[show i+(n+1)=i+1+n by lia];exact hit₂) (hs₁.trans hs₂);rw[hd,dq]at this;exact this
def zcg(hh:A.handled=tF)(ht:s.heap.IsList t items)(hn:targets.length=items.size)(hstar:targets.findIdx? (·.1)=tF)(h:∀h',Heap.ExtBut s⁻¹ s.heap h'->pE (model prog w) A (assignInOrder (targets.map (·.2)) items.toList) Q E { s with heap:=h' }) :
  pE (model prog w) A (unpack (.ref t) targets) Q E s:=by
 have hlt:t≠s⁻¹:=by let#[o,ho,_]:=ht;exact ax (au ho)
 unfold unpack;rw[hn,hstar];refine ph (pL ?_);unfold unpackItems;refine ph ?_;unfold notIterableAtAll;refine ph (wpAny_specialOf ht.typeIs slot_list_iter.lookup ?_);refine pi ?_
 erw[aY,if_false]
 refine ph (pL (rD ht ?_));refine ph (pL (zdf hlt items.size 0 _ _ #[_,aD _ rfl,rfl,rfl] (ht.push _) ⋯ λh₁ hit₁ hs₁=>?_))
 have hall:List.take items.size (List.drop 0 items.toList)=items.toList:=by
  rw[cM];exact bj (by simp)
 rw[hall,z9 (by simp)];have ht₁:h₁.IsList t items:=(ht.push _).extBut hs₁.extBut hlt;refine ph (pL (sv hh hit₁ ht₁ (by simp) λh₂ he₂=>?_))
 erw[Option.isSome_none,aY,if_false]
 exact pi (h h₂ λb o hb e=>he₂ b o hb (hs₁.extBut b o hb (ac _ e)))
def zdG(K:pB)(n:Nat)(t:TGs):TG:=λv σ H Q=>∃a xs,v=.ref a/\SqL K H a xs/\xs.length=n/\t xs σ H Q
def zbC(hc:X.calm=tG)(h:PGs X es t)(hn:‹(assignEach es X.env).length=n›)(hst:‹(assignEach es X.env).findIdx? (·.1)=tF›):PG X (.Tuple es k pos) (zdG X.K n t):=by intros v u Q I r hw;let#[a,xs,e1,hq,hl,hw]:=hw;subst e1;cases r;let#[its,rv,#[o,m,ho,hcl,_,hd],hz]:=I.list hq;rw[assign_Tuple];refine ph (rj (zcg (I.ok.hd hc) #[o,ho,hcl,m,hd] (by simp [hn,<- hl,rv.length]) hst λh' hx=>?_));have I1:Inv X tI σ H { s with heap:=h' }:=I.kept (t':=s.toks) λb o e=>hx b o (ax (au e)) e;exact h tI _ σ H xs _ Q I1 ↥rv hw
def Irv(K:pB)(a:pC)(n:Nat):It:=#[λi H=>∃xs,SqL K H a xs/\xs.length=n/\i<n,λi H v H'=>H'=H/\∀xs,SqL K H a xs->xs.length=n->xs[n - 1 - i]? = tE v,λi H=>i=n]
def Jo{K:pB}(a it:pC)(n:Nat):Q5 P w K tg (Irv K a n) [it] it (λi h=>i<=n/\h.IsRevIter it a ((n:Int) - 1 - (i:Int))) where
 mem:=by simp
 obj:=λi h st b hb=>by
  have e:b=it:=by simpa using hb
  subst e;let#[_,o,e,c,d]:=st;exact#[o,e,λv z=>by rw[d]at z;cases z]
 keep:=λi h h' st k=>#[st.1,st.2.at λo e=>k it (by simp) o e]
 item:=by
  intro X hP hw hK hc i tI s σ H E I hf st hg;subst hP hw hK;let#[xs,hq,hn,hi]:=hg;let#[its,rv,p,hz]:=I.list hq;let#[f0,f1,f2,f3,f4,f5]:=hf it (by simp);have hx:xs[n - 1 - i]? = tE (xs[n - 1 - i]'⋯):=ah ⋯;generalize xs[n - 1 - i]'⋯=x at hx;let#[u,hu,ru]:=rv.get hx;have st2:=st.2;have e:(n:Int) - 1 - (i:Int)=((n - 1 - i:Nat):Int):=⋯;rw[e]at st2;refine wpAny_pyNext_rev_item st2 p.isList (x:=u) ↥hu λh' st' sb=>?_;have I1:Inv X tI σ H { s with heap:=h' }:=I.turned (t':=s.toks) (λb o hb e=>(sb.2 b hb).trans e) f0 f1 f3 f4 f5;have e2:((n - 1 - i:Nat):Int) - 1=(n:Int) - 1 - ((i+1:Nat):Int):=⋯;rw[e2]at st';let#[o,e,c,d]:=id st';exact#[u,rfl,U7 (s:={ s with heap:=h' }) e c d ∅ #[x,H,I1,ru,#[rfl,λys hy Z=>by rw[I.list_inj hy hq];exact hx],#[hi,st'],λb hb=>(hf b hb).1]]
 done:=by
  intro X hP hw hK hc i tI s σ H E I hf st hg;subst hP hw hK;let#[f0,f1,f2,f3,f4,f5]:=hf it (by simp);have hi:i=n:=hg;have st2:=st.2;rw[hi,show (n:Int) - 1 - (n:Int)=-1 by lia]at st2;exact wpAny_pyNext_rev_end (I.ok.hd hc) st2 λh' eb=>#[rfl,I.turned (t':=s.toks) (λb o hb e=>eb b o hb e) f0 f1 f3 f4 f5]
 self:=λZ Z Z Z Z st h=>sA st.2 h
def Jr:pZ "reversed" = tE (.type "reversed"):=PyProof.Rows.boot_reversed
def zf4(K:pB)(ta:TA):TI:=λσ H R=>ta σ H λvs H1=>∃a xs,vs=[.ref a]/\SqL K H1 a xs/\R (Irv K a xs.length) H1
def K4(hg:Gl X "reversed")(hm:X.mg "reversed" = tF)(ha:PA X [a] ta)(hs:‹pq [a] X.env=[(tH,eval a X.env)]›) :
  PI X tg (.Call (.Name "reversed" p) [a] [] pos) (zf4 X.K ta):=by
 intros R I h;refine Call_ (vC I hg hm Jr (bB (thn (ha pos tI s σ H _ I h) λus s1=>el5 λvs H1 I1 r1 q1=>?_) hs rfl));let#[l,xs,e,hq,q]:=q1;subst e;let#[u,rfl,ru]:=wr r1;cases ru;let#[its,rv,pl,hz]:=I1.list hq;have hn:its.toArray.size=xs.length:=by rw[al,<- rv.length]
 refine call_reversed_list pl.isList ?_
 have hit:(s1.heap.push (revObj l ((its.toArray.size:Int) - 1))).IsRevIter s1⁻¹ l ((xs.length:Int) - 1 - ((0:Nat):Int)):=by
  refine#[_,aD _ rfl,rfl,?_];rw[hn,show (xs.length:Int) - 1 - ((0:Nat):Int)=(xs.length:Int) - 1 by lia];rfl
 refine sA (s:={ s1 with heap:=s1.heap.push (revObj l ((its.toArray.size:Int) - 1)) }) hit ?_;refine#[s1⁻¹,[s1⁻¹],_,_,H1,rfl,I1.kept (t':=s1.toks) λb o e=>ac _ e,Jo l _ xs.length,#[aw _,hit],λb hb=>?_,q];have e:b=s1⁻¹:=by simpa using hb
 subst e;exact I1.fpOk (am _) (I1.hok.fresh (am _))
def zfv(K:pB)(ta:TA):TE:=λσ H Q=>ta σ H λvs H1=>∃a xs,vs=[.ref a]/\SqL K H1 a xs/\∀l,H1 l=tF->Q (.ref l) (upd H1 l (.lst xs.reverse))
def U4{K:pB}:zfv K ta σ H Q=ta σ H λvs H1=>∃a xs,vs=[.ref a]/\SqL K H1 a xs/\∀l,H1 l=tF->Q (.ref l) (upd H1 l (.lst xs.reverse)):=rfl
def Izp(K:pB)(a b:pC):It:=#[λi H=>∃xs ys x y,SqL K H a xs/\SqL K H b ys/\xs[i]? = tE x/\ys[i]? = tE y,λi H v H'=>∃p x y,H p=tF/\(∀xs,SqL K H a xs->xs[i]? = tE x)/\(∀ys,SqL K H b ys->ys[i]? = tE y)/\v=.ref p/\H'=upd H p (.tup [x,y]),λi H=>∃xs ys,SqL K H a xs/\SqL K H b ys/\(xs.length=i\/ys.length=i)/\i<=xs.length/\i<=ys.length]
def wI{h:pS}(h1:h.get? a=tE o1)(c1:o1.cls=.type t)(h2:h.get? b=tE o2)(c2:o2.cls=.type u)(hne:t≠u):a≠b:=λz=>by
 rw[z,h2]at h1;cases h1;rw[c2]at c1;exact hne (Value.type.inj c1).symm
structure Kx(z TI TO i1 i2:pC):Prop where
 TIz:TI≠z
 TOz:TO≠z
 i1z:i1≠z
 i2z:i2≠z
 TITO:TI≠TO
 TIi1:TI≠i1
 TIi2:TI≠i2
 TOi1:TO≠i1
 TOi2:TO≠i2
 i12:i1≠i2
def ZipAt(z TI TO i1 i2 l1 l2:pC)(i:Nat)(h:pS):Prop:=rZ h z TI TO .none/\rn h TI (.ref i1) (.ref i2)/\(∃a b,rn h TO a b)/\h.IsListIter i1 l1 i/\h.IsListIter i2 l2 i
def ZipAt.apart{z TI TO i1 i2 l1 l2:pC}(D:Kx z TI TO i1 i2)(st:ZipAt z TI TO i1 i2 l1 l2 i h)(h1:h.IsList l1 xs)(h2:h.IsList l2 ys):ZipApart z TI TO i1 i2 l1 l2:=by let#[hz,hTI,#[a,b,hTO],#[o1,e1,c1,_],#[o2,e2,c2,_]]:=st;let#[p1,q1,k1,_]:=h1;let#[p2,q2,k2,_]:=h2;exact#[D.TIz,D.TOz,D.i1z,D.i2z,D.TITO,D.TIi1,D.TIi2,D.TOi1,D.TOi2,D.i12,wI q1 k1 hz rfl ∅,wI q1 k1 hTO rfl ∅,wI q1 k1 e1 c1 ∅,wI q1 k1 e2 c2 ∅,wI q2 k2 hz rfl ∅,wI q2 k2 hTO rfl ∅,wI q2 k2 e1 c1 ∅,wI q2 k2 e2 c2 ∅]
def zgv(K:pB)(ta:TA):TI:=λσ H R=>ta σ H λvs H1=>∃a b,vs=[.ref a,.ref b]/\(∃xs,SqL K H1 a xs)/\(∃ys,SqL K H1 b ys)/\R (Izp K a b) H1
def zgO(K:pB)(a b:pC)(g:TG)(tb:TS)(D:ZH)(σ:L2.St)(H:Hp):Prop:=∃W:Nat->Nat->L2.St->Hp->Prop,(∃m,W 0 m σ H)/\∀i m σ H,W i m σ H ->
 ((Izp K a b).stop i H/\D.nx σ H)\/((Izp K a b).go i H/\∃N:L2.St->Hp->Prop,(∀σ' H',N σ' H'->∃m',m'<m/\W (i+1) m' σ' H')/\∀x H',(Izp K a b).yld i H x H'->g x σ H' λσ2 H2=>tb { D with nx:=N,ct:=N,bk:=D.nx } σ2 H2)
def zgq{K:pB}:Jh (zgv K ta) g tb D σ H=ta σ H λvs H1=>∃a b,vs=[.ref a,.ref b]/\(∃xs,SqL K H1 a xs)/\(∃ys,SqL K H1 b ys)/\zgO K a b g tb D σ H1:=rfl
abbrev xob(C:pC)(dx:Option pC)(t:pC)(tb:pD):rH:={ cls:=.ref C,dict:=dx,data:=.fields (u9 [.ref t,tb,.none,.none,.bool tH,.none]) }
abbrev xog(C:pC)(dx:Option pC)(t:pC)(tb c:pD)(k:Bool):rH:={ cls:=.ref C,dict:=dx,data:=.fields (u9 [.ref t,tb,c,.none,.bool k,.none]) }
def zck(h:pS)(x:pC)(tb:pD):Prop:=tb=.none\/∃T oT ts,tb=.ref T/\T≠x/\h.get? T=tE oT/\oT.data=.fields ts/\3<ts.size
def YE(h:env.frame=env0.frame):eM env=eM env0:=by unfold eM;rw[h]
def Zv(hfr:A.frames=tE (env0::outer))(hl:s.heap.FunFrames base (env0::outer))(hf:env0.frame=tE L)(he:env.frame=tE L)(hx:s.heap.get? x=tE (xog C dx t tb cx kx))(h:∀h' oT ts,h'.get? x=tE (xog C dx t (.ref s⁻¹) cx kx)->s⁻¹≠x->h'.get? s⁻¹=tE oT->oT.data=.fields ts->3<ts.size ->
   (∀b o,b≠x->b ∉ frs (env0::outer)->s.heap.get? b=tE o->h'.get? b=tE o)->(∀b o,b≠x->s.heap.get? b=tE o->∃sl,h'.get? b=tE { o with slots:=sl })->Q Unit.unit { s with heap:=h' }) :
  pE M A (do let a <- eM env;let pl <- entryPlaceOf L hadNext;let b <- EntryCells.newEntry head a .none (rawInt L) .none pl;setField (.ref x) 1 b) Q E s:=by
 have hxf:x ∉ frs (env0::outer):=λhm=>by
  let#[_,o,ho,hnf]:=hl.mem hm;rw[hx]at ho;cases ho;exact hnf _ rfl
 rw[YE (he.trans hf.symm)];refine ph (wpAny_frameOf_fun hfr hl hf λh1 hs1=>ph (wpAny_entryPlaceOf λpl hpl=>?_));unfold EntryCells.newEntry newFields;refine ph (sf ?_ (hpl.sizeOk5 _ _ _ _ _));have hz:h1.objs.size=s⁻¹:=hs1.1;have hx1:h1.get? x=tE (xog C dx t tb cx kx):=(hs1.2.1 x hxf).trans hx;generalize ho:({ cls:=.type "traceback",dict:=tF,data:=.fields ([head,.ref L,.none,rawInt L,.none] ++ (if pl.isEmpty then af 6 p9 else pl)).toArray }:rH)=ob;have hx2:(h1.push ob).get? x=tE (xog C dx t tb cx kx):=ac _ hx1;refine rm hx2 rfl (by show 1<6;decide) ?_;have hne:h1.objs.size≠x:=bU (au hx1)
 have hx3:((h1.push ob).update x (Obj.mapFields (·.setIfInBounds 1 (r9 h1.objs.size)))).get? x=tE (xog C dx t (.ref h1.objs.size) cx kx) :=
  bY (Obj.mapFields (·.setIfInBounds 1 (r9 h1.objs.size))) hx2 rfl
 have hT:((h1.push ob).update x (Obj.mapFields (·.setIfInBounds 1 (r9 h1.objs.size)))).get? h1.objs.size=tE ob :=
  (aH _ _ (Ne.symm hne)).trans (aD h1 (by rw[<- ho];rfl))
 rw[hz]at hx3 hT hne
 have kp:∀b o,b≠x->h1.get? b=tE o->((h1.push ob).update x (Obj.mapFields (·.setIfInBounds 1 (r9 h1.objs.size)))).get? b=tE o:=λb o hb e =>
  (aH _ _ (Ne.symm hb)).trans (ac _ e)
 rw[hz]at kp ⊢;refine h _ ob _ hx3 hne hT (by rw[<- ho]) (by erw[al,aq,aJ,ci] <;> lia) (λb o hb hbf e=>kp b o hb ((hs1.2.1 b hbf).trans e)) λb o hb e=>?_;let#[sl,q]:=hs1.2.2 b o e;exact#[sl,kp b _ hb q]
def qm(hfr:A.frames=tE (env0::outer))(hl:s.heap.FunFrames base (env0::outer))(hf:env0.frame=tE L)(he:env.frame=tE L)(hx:s.heap.get? x=tE (xog C dx t tb cx kx))(htb:zck s.heap x tb)(h:∀h' T oT ts,h'.get? x=tE (xog C dx t (.ref T) cx kx)->T≠x->(tb=.ref T\/s⁻¹<=T)->h'.get? T=tE oT->oT.data=.fields ts->3<ts.size ->
   (∀b o,b≠x->tb≠.ref b->b ∉ frs (env0::outer)->s.heap.get? b=tE o->h'.get? b=tE o)->(∀b o,b≠x->tb≠.ref b->s.heap.get? b=tE o->∃sl,h'.get? b=tE { o with slots:=sl })->Q Unit.unit { s with heap:=h' }) :
  pE M A (noteFrame (.ref x) env) (λZ s1=>pE M A (setFlight (.ref x) tF) Q E s1) E s:=by
 have land:∀(h1:pS) (T:pC) (oT:rH) (ts:Array pD),h1.get? x=tE (xog C dx t (.ref T) cx kx)->T≠x->(tb=.ref T\/s⁻¹<=T)->h1.get? T=tE oT->oT.data=.fields ts->3<ts.size ->
   (∀b o,b≠x->tb≠.ref b->b ∉ frs (env0::outer)->s.heap.get? b=tE o->h1.get? b=tE o)->(∀b o,b≠x->tb≠.ref b->s.heap.get? b=tE o->∃sl,h1.get? b=tE { o with slots:=sl }) ->
   pE M A (setFlight (.ref x) tF) Q E { s with heap:=h1 }:=λh1 T oT ts e1 nT oldT e2 d2 z2 k1 k2=>by
  unfold setFlight;refine ph (pO (s:={ s with heap:=h1 }) e1 rfl (x:=.ref T) rfl ?_);rw[z6 (show (r9 T != p9)=tG from by simp)];refine rm (s:={ s with heap:=h1 }) e2 d2 z2 ?_;have d3:=Obj.data_mapFields d2 (·.setIfInBounds 3 ((tF:Option pC).elim p9 λf=>rawInt f))
  have nb:∀b,b≠x->tb≠.ref b->(∃o,s.heap.get? b=tE o)->b≠T:=λb hb hbt ⟨o,eo⟩ z=>by
   subst z;rcases oldT with q | q
   ·exact hbt q
   ·exact y9 (au eo) (Nat.not_lt.mpr q)
  refine h _ T _ _ ((aH _ _ nT).trans e1) nT oldT (bY _ e2 (Obj.isFreed_of_fields d3)) d3 ↥z2 (λb o hb hbt hbf e=>?_) λb o hb hbt e=>?_
  ·exact (aH _ _ (Ne.symm (nb b hb hbt #[o,e]))).trans (k1 b o hb hbt hbf e)
  ·let#[sl,q]:=k2 b o hb hbt e;exact#[sl,(aH _ _ (Ne.symm (nb b hb hbt #[o,e]))).trans q]
 unfold noteFrame
 erw[he]
 refine ph (pO hx rfl (x:=tb) rfl ?_);rcases htb with rfl | ⟨T,oT,ts,rfl,nT,e2,d2,z2⟩
 ·rw[z9 ∅];refine Zv hfr hl hf he hx λh' oT ts e1 ne e2 d2 z2 k1 k2=>land h' _ oT ts e1 ne (.inr (am _)) e2 d2 z2 (λb o hb Z hbf e=>k1 b o hb hbf e) λb o hb Z e=>k2 b o hb e
 ·rw[z6 (show (r9 T != p9)=tG from by simp)];obtain⟨y,hy⟩:∃y,ts[3]? = tE y:=#[ts[3],by simp [z2]];refine ph (pO e2 d2 (x:=y) hy ?_);by_cases c:(y == rawInt L)=tG
  ·rw[z6 c];exact pi (land s.heap T oT ts hx nT (.inl rfl) e2 d2 z2 (λb o Z Z Z e=>e) λb o Z Z e=>#[o.slots,e])
  ·rw[z9 c];refine ph (rm e2 d2 z2 ?_);have oth:∀b,b≠T->(s.heap.update T (Obj.mapFields (·.setIfInBounds 3 p9))).get? b=s.heap.get? b:=λb hb=>aH _ _ (Ne.symm hb);have hl1:(s.heap.update T (Obj.mapFields (·.setIfInBounds 3 p9))).FunFrames base (env0::outer):=hl.of_keeps λb o hb hnf=>#[o,(oth b λq=>by rw[q,e2]at hb;cases hb;exact hnf ts d2).trans hb,rfl];have hsz:(s.heap.update T (Obj.mapFields (·.setIfInBounds 3 p9))).objs.size=s⁻¹:=df ..;refine Zv (s:={ s with heap:=s.heap.update T (Obj.mapFields (·.setIfInBounds 3 p9)) }) hfr hl1 hf he ((oth x (Ne.symm nT)).trans hx) λh' oT' ts' e1 ne e2' d2' z2' k1 k2=>?_;refine land h' _ oT' ts' e1 ne (.inr (by rw[hsz];exact am _)) e2' d2' z2' (λb o hb hbt hbf e=>k1 b o hb hbf ((oth b λq=>hbt (by rw[q])).trans e)) λb o hb hbt e=>k2 b o hb ((oth b λq=>hbt (by rw[q])).trans e)
def zaQ(hfr:A.frames=tE (env0::outer))(hl:s.heap.FunFrames base (env0::outer))(hf:env0.frame=tE L)(he:env.frame=tE L)(hx:s.heap.get? x=tE (xog C dx t tb cx kx))(htb:zck s.heap x tb)(h:∀h' T oT ts,h'.get? x=tE (xog C dx t (.ref T) cx kx)->T≠x->(tb=.ref T\/s⁻¹<=T)->h'.get? T=tE oT->oT.data=.fields ts->3<ts.size ->
   (∀b o,b≠x->tb≠.ref b->b ∉ frs (env0::outer)->s.heap.get? b=tE o->h'.get? b=tE o)->(∀b o,b≠x->tb≠.ref b->s.heap.get? b=tE o->∃sl,h'.get? b=tE { o with slots:=sl })->Q Unit.unit { s with heap:=h' }) :
  pE M A (leaving env (.ref x)) Q E s:=ph (qm hfr hl hf he hx htb h)
def CXx(P:pJ)(w:pR):CXT:=λouter H s E e s'=>∃(x C t:pC) (dx:Option pC) (tb:pD) (H':Hp),e=.ref x/\s'.os=s.os/\rU s'.gens/\Un (frs outer) [] H H' s.heap s'.heap/\HOk P w H' s'.heap /\
 s'.heap.get? x=tE (xob C dx t tb)/\zck s'.heap x tb/\H' x=tF/\s⁻¹<=x/\(∀T,tb=.ref T->H' T=tF/\s⁻¹<=T)/\E (.ref C) dx H'
def zea(X:Cx)(E:XK)(e:pD)(s:pF):Prop:=∃(tI:List (pC × rH)) (σ:St) (H:Hp) (x C t:pC) (dx:Option pC) (tb:pD),e=.ref x/\Inv X tI σ H s /\
 s.heap.get? x=tE (xob C dx t tb)/\zck s.heap x tb/\xK X tI H x/\(∀T,tb=.ref T->xK X tI H T)/\E (.ref C) dx H
def XE(X:Cx)(E:XK):Prop:=∀e s,zea X E e s->X.xe e s
def WA(hx:XE X E):uW (CXx X.prog X.w) X E:=by intro tI σ H s e s' I h;let#[x,C,t,dx,tb,H',rfl,os,bare,un,hok,ob,tr,hn,hsz,hT,q]:=h;have I':Inv X tI σ H' s':=I.call' os un hok bare λb z=>y9 z (by simp);exact hx _ _ #[tI,σ,H',x,C,t,dx,tb,rfl,I',ob,tr,I.fpOk hsz hn,λT e=>I.fpOk (hT T e).2 (hT T e).1,q]
def zdL{K:pB} :
  XE (qy (CXx P w) P w K mg base N qual scope f cd A outer s H E) E:=by
 intro e s1 h;let#[tI,σ,H1,x,C,t,dx,tb,rfl,I,ob,tr,fx,fT,q]:=h;show pE _ _ (leaving _ (.ref x)) _ _ s1;have ff:=I.stack;refine zaQ (A:=(qy (CXx P w) P w K mg base N qual scope f cd A outer s H E).A) (env0:=rL qual scope s⁻¹ f cd) (outer:=outer) I.ok.frames ff rfl rfl ob tr λh' T oT ts e1 nT oldT e2 d2 z2 k1 k2=>?_;have szs:s⁻¹<=s1⁻¹:=I.sz
 have hxs:s⁻¹<=x:=by
  rcases fx.2.2.2.1 with z | z
  ·exact y9 z (by simp [qy])
  ·exact z
 have hTs:s⁻¹<=T/\H1 T=tF:=by
  rcases oldT with z | z
  ·let#[a0,_,_,a3,_]:=fT T z;rcases a3 with y | y
   ·exact y9 y (by simp [qy])
   ·exact#[y,a0]
  ·exact#[aG szs z,I.hok.fresh z]
 have tbs:∀b,tb=.ref b->s⁻¹<=b/\H1 b=tF:=λb hb=>by
  let#[a0,_,_,a3,_]:=fT b hb;rcases a3 with y | y
  ·exact y9 y (by simp [qy])
  ·exact#[y,a0]
 have old:∀b o,s.heap.get? b=tE o->b≠x/\tb≠.ref b:=λb o e=>by
  have hb:=au e;refine#[ax (ao hb hxs),λz=>?_];exact y9 (ao hb (tbs b z).1) (cw _)
 have un:Un (frs outer) [] H H1 s.heap h':=by
  have B:=I.base;refine#[λb o e n hb Z=>?_,λb o e n hb Z=>?_,λb o e n Z=>B.free b o e n (by simp [qy]),λb o e Z=>?_,B.tups,B.frzs,B.tbls]
  ·have e1:=B.keep b o e n hb (by simp [qy]);refine k1 b o (old b o e).1 (old b o e).2 (λz=>?_) e1;have z':=I.stkSub b z;rcases tN.mp z' with q | q
   ·exact y9 q (ax (ao (au e) I.ok.above))
   ·exact hb q
  ·let#[sl,e1]:=B.slot b o e n hb (by simp [qy]);let#[sl',e2]:=k2 b _ (old b o e).1 (old b o e).2 e1;exact#[sl',e2]
  ·let#[o',e1]:=B.there b o e (by simp [qy]);let#[sl',e2]:=k2 b _ (old b o e).1 (old b o e).2 e1;exact#[_,e2]
 have hok:HOk P w H1 h':=λb u e=>by
  refine (I.hok b u e).stay (λc v hc q=>k1 c v ?_ ?_ ?_ q) (λZ q=>q) λZ Z q=>q
  ·rintro rfl;rcases hc with rfl | hc
   ·rw[fx.1]at e;cases e
   ·rw[fx.1]at hc;cases hc
  ·intro z;have:=(tbs c z).2;rcases hc with rfl | hc
   ·rw[this]at e;cases e
   ·rw[this]at hc;cases hc
  ·intro z;have:=I.stkFree c z;rcases hc with rfl | hc
   ·rw[this]at e;cases e
   ·rw[this]at hc;cases hc
 exact#[x,C,t,dx,.ref T,H1,rfl,I.os,I.bare,un,hok,e1,.inr #[T,oT,ts,rfl,nT,e2,d2,z2],fx.1,hxs,λT' z=>by cases z;exact#[hTs.2,hTs.1],q]
def Fun.okX{K:pB}{st:pN}(F:Fun K x qual st f fd)(S:zo N ps (zi st))(len:∀vs H Q E,sp vs H Q E->vs.length=ps.length)(hbody:∀(cdv:pD) (A:rh) (outer:List tm) (s:pF) (H:Hp) (vs:List V) (Q:VK) (E:XK),Room k (A.deeper (rL qual (zi st) s⁻¹ f cdv))->XE (qy (CXx P w) P w K mg base N qual (zi st) f cdv A outer s H E) E->sp vs H Q E ->
   ∃t,PSs (qy (CXx P w) P w K mg base N qual (zi st) f cdv A outer s H E) (yn st) t/\t { nx:=λZ H'=>Q .non H',rt:=Q } (start N vs) H):FnOk P w K mg base (CXx P w) (k+1) f fd ps sp:=by let#[oc,od,kV,doc,pm,an,cdv,ct,osl,rfl,lk,hcd]:=F.ex;exact Jq lk hcd S len λA outer s H vs Q E hr hsp=>hbody cdv A outer s H vs Q E hr zdL hsp
def zdC(X:Cx)(E:XK)(e:pD)(s:pF):Prop:=∃(cx:pD) (kx:Bool) (tI:List (pC × rH)) (σ:St) (H:Hp) (x C t:pC) (dx:Option pC) (tb:pD),e=.ref x/\Inv X tI σ H s /\
 s.heap.get? x=tE (xog C dx t tb cx kx)/\zck s.heap x tb/\xK X tI H x/\(∀T,tb=.ref T->xK X tI H T)/\E (.ref C) dx H
def XEg(X:Cx)(E:XK):Prop:=∀e s,zdC X E e s->X.xe e s
structure RoomH(k:Nat)(A:rh):Prop where
 dp:A.depth+3 * k+5<sF
 un:A.units+16 * k+200<cLine
def RoomH.mark(r:RoomH k A)(e:Option pD):RoomH k (A.mark e):=#[r.dp,r.un]
def cxH(P:pJ)(w:pR)(K:pB)(mg:pG->Option pD)(base:pS)(N:List pG)(qual:pG)(scope:rY)(f:pC)(cd:pD)(A:rh)(outer:List tm)(s:pF)(H:Hp):Cx :=
 { qy CX0 P w K mg base N qual scope f cd A outer s H E0 with calm:=tH,xe:=λZ Z=>False }
abbrev bmV:List pD:=[.type "ValueError",.type "Exception",.type "BaseException",.type "object"]
def xcC(K:pB)(C:pC)(o:rH)(cd:ClassData):Bool:=decide (cd.mro.head? = tE (.ref C)/\o.slots.size=6/\o.slots[4]? = tE (tE (.builtin "ValueError.__new__"))/\o.cls=.type "type"/\cd.hasDel=tH/\cd.hasDict=tG/\PySem.W.tailIn K bmV cd.mro.tail=tG)
def xcO(K:pB)(C:pC)(o:rH):Data->Bool
 | .cls cd=>xcC K C o cd
 | _=>tH
def ZN(K:pB)(C:pC):Bool:=(K.lookup C).any λo=>xcO K C o o.data
theorem zgB{α:Type}:∀{l:List α},l.length=6->∃a b c d e f,l=[a,b,c,d,e,f]
 | [a,b,c,d,e,f],_=>#[a,b,c,d,e,f,rfl]
theorem kq{K:pB}{G:Prop}(q:ZN K C=tG)(f:∀bm N nm qn bs sn sub ab col dd k0 k1 k2 k3 k5,K.lookup C=tE (sG nm qn C N bs bm tG sn sub ab col dd k0 k1 k2 k3 k5 "ValueError.__new__")->(∀h:pS,K.In h->OwnTail h bmV bm)->G):G:=by
 let#[#[c,dd,da,sl],ho,h]:=(Option.any_eq_true _ _).mp q
 cases da with
 | cls cd =>
  let#[h1,h2,h3,h4,h5,h6,ht]:=y3 h;let#[nm,bs,mro,ns,qn,hd,sn,sub,ab,col,del]:=cd;let#[l]:=sl;let#[k0,k1,k2,k3,k,k5,e]:=zgB h2
  cases mro with
  | nil=>cases h1
  | cons v bm =>
   cases Option.some.inj h1;subst e;cases Option.some.inj h3;cases h4;cases h5;cases h6;exact f bm ns nm qn bs sn sub ab col dd k0 k1 k2 k3 k5 ho λh X=>PySem.W.tail_of_in X ht
 | _=>cases h
structure XC(K:pB)(C:pC):Prop where
 ok:ZN K C=tG
 sa:aj K (.ref C) "__setattr__" = tE (tE (.builtin "object.__setattr__"))
 ga:aj K (.ref C) "__getattribute__" = tE (tE (.builtin "BaseException.__getattribute__"))
 gt:aj K (.ref C) "__getattr__" = tE tF
 kp:aK K (.ref C)=tG
def Wg{prog:pJ}{w:pR}{A:rh}{R:Result->pF->Prop}{h:pS}{g:Array GenState}{d:Drawn}{t:Nat}{os:OsState}{K:pB}{C:pC}{rest:List pD}(X:K.In h)(q:ZN K C=tG)(hi:aj K (.ref C) "__init__" = tE (tE init))(hb:∀self,PySem.W.Looks (model prog w) h (bindSpecial init self) (init,[self]))(hrest:rest.length<=pA)(hq:rz (model prog w) (A.under (.builtin "type.__call__" #[.ref C::rest,[]])) (.call init #[.ref (h.objs.size+1)::rest,[]]) (PySem.W.InitBack (h.objs.size+1) R) #[(h.push { cls:=.type "tuple",data:=.seq rest.toArray }).push (xob C tF h.objs.size .none),g,d,t,os]) :
  rz (model prog w) A (.call (.ref C) #[rest,[]]) R #[h,g,d,t,os]:=by
 refine kq (q) λbm N nm qn bs sn sub ab col dd k0 k1 k2 k3 k5 lk tl=>?_;have hC:=X _ _ lk;have T:=tl h X;have F:=eN;have f1:=tc_lookup;have f2:=tc_bind (.ref C);have hT:(#[h,g,d,t,os]:pF).TypeIs (.ref C) "type":=#[_,hC,rfl];refine codeAny_of_tree ?_;show pE _ _ (callAny (.ref C) _) _ _ _
 repeat (any_goals (first | assumption | with_reducible refine rf hC ?_ | wp_step))
 refine#[rfl,?_];refine codeAny_call_builtin_at (Code.quiet_builtin _ (!0)) entry_typeCall (wpAny_check_type_call_sub hC ?_)
 repeat (first | with_reducible refine rf hC ?_ | with_reducible refine wpAny_madeBy_exc hC ?_ | wp_step)
 refine codeAny_call_builtin_code (Code.quiet_builtin _ F.quiet) (wpAny_check_new_subT F T hC ?_);refine codeAny_exc_new_subT F T hC ?_ hrest;show pE _ _ _ _ _ _;have k:∀b o,h.get? b=tE o->((h.push { cls:=.type "tuple",data:=.seq rest.toArray }).push (xob C tF h.objs.size .none)).get? b=tE o:=λb o e=>ac _ (ac _ e);have hC1:=k _ _ hC;have hget:((h.push { cls:=.type "tuple",data:=.seq rest.toArray }).push (xob C tF h.objs.size .none)).get? (h.objs.size+1)=tE (xob C tF h.objs.size .none):=by heap_get
 have hcC:(r9 C::bm).contains (.ref C)=tG:=by simp
 unfold isInstance
 repeat (first | with_reducible refine rf hget ?_ | wp_step)
 refine rJ (C:=C) hC1 ?_;rw[hcC]
 repeat wp_step
 show pE _ _ (typeLookup (.ref C) _) _ _ _;refine ((cK X hi).keeps k).at ?_;refine pL (ph (((hb _).keeps k).at ?_));refine ph (rE (rG hq λr s' z=>?_));rcases r with e | (v | _ | _ | _) <;> first | exact z | exact z.elim | skip;let#[rfl,z]:=z;exact pi (pi z)
def XN(x C:pC)(dx:Option pC):HO:=.ext λh=>∃t,h.get? x=tE (xob C dx t .none)
def XT(x C:pC)(dx:Option pC):HO:=.ext λh=>∃t tb c k,h.get? x=tE (xog C dx t tb c k)
def XP(x C:pC)(dx:Option pC):HO:=.ext λh=>∃t tb,h.get? x=tE (xob C dx t tb)
def zc1(e:h.get? x=tE (xob C dx t .none)):ObjOk P w H h x (XN x C dx) :=
 #[#[t,e],#[_,e],λh1 h2 ⟨t,q⟩ k=>#[t,k _ q]]
def zaZ(e:h.get? x=tE (xog C dx t tb c k)):ObjOk P w H h x (XT x C dx) :=
 #[#[t,tb,c,k,e],#[_,e],λh1 h2 ⟨t,tb,c,k',q⟩ k=>#[t,tb,c,k',k _ q]]
def zc9(o:ObjOk P w H h x (XN x C dx)):∃t,h.get? x=tE (xob C dx t .none):=o.1
def zfQ(o:ObjOk P w H h x (XT x C dx)):∃t tb c k,h.get? x=tE (xog C dx t tb c k):=o.1
def ZU{sub:List pD}(hC:h.get? C=tE (sG nm q C N bs bm hdct sn sub ab col dd k0 k1 k2 k3 k5 newId))(base:pD):PySem.W.Looks M h (isSubtype (.ref C) base) ((r9 C::bm).contains base):=λA Q E s k z=>by
 let#[hp,g,d,t,os]:=s;exact rJ (k _ _ hC) z
def Qv{sub:List pD}(hC:h.get? C=tE (sG nm q C N bs bm hdct sn sub ab col dd k0 k1 k2 k3 k5 newId)):PySem.W.Looks M h (mroOf (.ref C)) (.ref C::bm):=λA Q E s k z=>by
 let#[hp,g,d,t,os]:=s;exact wpAny_mroOf_exc (k _ _ hC) z
def V5{sub:List pD}(hC:h.get? C=tE (sG nm q C N bs bm hdct sn sub ab col dd k0 k1 k2 k3 k5 newId)):PySem.W.Looks M h (classData C) { name:=nm,bases:=bs,mro:=.ref C::bm,ns:=N,qualname:=q,hasDict:=hdct,slotNames:=sn,subclasses:=sub,abstract:=ab,collection:=col,hasDel:=tH }:=λA Q E s k z=>by
 unfold classData;exact ph (wpAny_load (k _ _ hC) (pi z))
theorem YU(T:OwnTail h bmB bm)(self:pD)(hp:refuseLoop self "__setattr__" bmB=pure Unit.unit):refuseLoop self "__setattr__" bm=pure Unit.unit:=by
 induction T with
 | base=>exact hp
 | own _ _ _ _ ih=>rw[refuseLoop_ref];exact ih
def zbj(I:Inv X tI σ H s)(e:H x=tE (XN x C tF))(xc:XC X.K C)(n:NoAttr X.K C f)(ry:RelV y u)(h:∀s' dx,H dx=tF->Inv X tI σ (upd (upd H dx (.xd [(f,y)])) x (XN x C (tE dx))) s'->Q Unit.unit s'):pE (model X.prog X.w) A (setAttr (.ref x) f u) Q E s:=by
 let#[t,ob]:=zc9 (I.hok x _ e);refine kq (xc.ok) λbm N nm qn bs sn sub ab col dd k0 k1 k2 k3 k5 lk tl=>?_;have hC:=I.kIn _ _ lk;have T:=tl _ I.kIn;have SF:=PySem.F.store_ValueError;have J:PySem.W.InstAt s.heap x (xob C tF t .none) C tF:=#[ob,rfl,rfl,trivial];have hob:(r9 C::bm).contains (.type "object")=tG:=by rw[dI,T.hasType (show bmV.contains (.type "object")=tG by symm),d8]
 have isO:PySem.W.Looks (model X.prog X.w) s.heap (isInstance (.ref x) (.type "object")) tG:=J.type.andThen (by have:=ZU (M:=model X.prog X.w) hC (.type "object");rw[hob]at this;exact this);refine gr I.kIn J xc.sa ?_;refine rW SF.slot.plain SF.entry (@PySem.W.check_slot (model X.prog X.w) _ _ { s with toks:=s.toks+1 } "object.__setattr__" "object" "__setattr__" (.ref x) [.str f s.toks,u] [] _ SF.kind SF.split isO (SF.args _ _ _) ?_);rw[PySem.W.osa_eq,refuse_eq];refine ph (ph (J.type.here (s:={ s with toks:=s.toks+1 }) (ph ((Qv hC).here (s:={ s with toks:=s.toks+1 }) ?_))));rw[refuseLoop_ref,YU T _ (SF.passes _)];refine pi (ph (J.type.here (s:={ s with toks:=s.toks+1 }) (ph ((cK I.kIn n).here (s:={ s with toks:=s.toks+1 }) (ph (pi ?_))))));show pE _ _ (Builtin.ObjectAttr.storeInOwnDict (.ref x) (.ref C) (.str f s.toks) f u tH) _ _ _;have hx1:(s.heap.push { cls:=.type "dict",data:=.dict #[] }).get? x=tE (xob C tF t .none):=ac _ ob;have hxs:x≠s⁻¹:=ax (au ob);refine ph (pi (ph (ph (sC ob (ph ((V5 hC).here (s:={ s with toks:=s.toks+1 }) ?_))))));rw[z9 (by simp)];show pE _ _ (if (!tG || !typeHasDict (.ref C))=tG then _ else _) _ _ _;rw[z9 (by simp [typeHasDict])]
 have hgd:((s.heap.push { cls:=.type "dict",data:=.dict #[] }).update x λo=>{ cls:=o.cls,dict:=tE s⁻¹,data:=o.data,slots:=o.slots }).get? s⁻¹=tE { cls:=.type "dict",data:=.dict #[] } :=
  (aH _ _ hxs).trans (Heap.get?_push_at rfl rfl)
 have hgx:((s.heap.push { cls:=.type "dict",data:=.dict #[] }).update x λo=>{ cls:=o.cls,dict:=tE s⁻¹,data:=o.data,slots:=o.slots }).get? x=tE (xob C (tE s⁻¹) t .none) :=
  bY _ hx1 rfl
 have hnd:((s.heap.push { cls:=.type "dict",data:=.dict #[] }).update x λo=>{ cls:=o.cls,dict:=tE s⁻¹,data:=o.data,slots:=o.slots }).Ns s⁻¹ (λZ=>tF) :=
  #[_,#[],_,hgd,rfl,λe he=>y9 he (by simp),λZ=>rfl]
 refine ph (wpAny_alloc' (ph (wpAny_update' hx1 (pi ?_))));show pE _ _ (Builtin.ObjectAttr.storeInDict s⁻¹ (.str f s.toks) f u) _ _ _;unfold Builtin.ObjectAttr.storeInDict Builtin.ObjectAttr.newKeyGuard;refine ph (pi (ph (wpAny_nsSet1 (Heap.Ns1.of_empty hnd) λh' hn' hs=>?_)));let#[oD,esD,epD,hoD,hdD,hcD]:=hn'.count (Within.cons f u Within.nil);refine ph (sV hoD (by rw[hdD];exact pastItsLine_dict (aG hcD (by rw[aJ,ci,pM];lia))) ?_);refine pi ?_;have hx2:h'.get? x=tE (xob C (tE s⁻¹) t .none):=(hs.2 x hxs).trans hgx;have hfr:H s⁻¹=tF:=I.hok.fresh (am _);have hxe:x≠s⁻¹:=hxs;refine h _ s⁻¹ hfr ?_
 have k0:∀b o,b≠x->s.heap.get? b=tE o->h'.get? b=tE o:=λb o hb q =>
  (hs.2 b (ax (au q))).trans ((aH _ _ (Ne.symm hb)).trans (ac _ q))
 have I1:Inv X tI σ (upd H x (XN x C (tE s⁻¹))) { s with heap:=h',toks:=s.toks+1+1 } :=
  I.write (x:=x) (e:=x) (by rw[e];exact True.intro) (.inl rfl) k0 ⟨_,hx2⟩ (zc1 hx2)
 have hd2:ObjOk X.prog X.w (upd (upd H x (XN x C (tE s⁻¹))) s⁻¹ (.xd [(f,y)])) h' s⁻¹ (.xd [(f,y)]):=by
  refine#[_,hn',λg=>?_];show RelO (br g [(f,y)]) (if g=f then tE u else tF);by_cases q:g=f
  ·subst q;rw[z6 rfl];simp [br,RelO,ry]
  ·rw[z9 q];have q':(g == f)=tH:=by simpa using q
   simp [br,q',RelO]
 have fd:xK X tI (upd H x (XN x C (tE s⁻¹))) s⁻¹:=I.fpOk (am _) (by rw[zm (Ne.symm hxe)];exact hfr);have I2:=Inv.track I1 fd hd2
 have eH:upd (upd H x (XN x C (tE s⁻¹))) s⁻¹ (.xd [(f,y)])=upd (upd H s⁻¹ (.xd [(f,y)])) x (XN x C (tE s⁻¹)):=by
  funext b;unfold upd;by_cases b1:b=s⁻¹
  ·subst b1;rw[z6 rfl,z9 (Ne.symm hxe),z6 rfl]
  ·by_cases b2:b=x
   ·subst b2;rw[z9 b1,z6 rfl,z6 rfl]
   ·rw[z9 b1,z9 b2,z9 b2,z9 b1]
 rw[eH]at I2;exact I2
def zbZ(K:pB)(ta tv:TE)(f:pG):TS:=λD σ H=>tv σ H λy H1=>ta σ H1 λo H2=>∃x C,o=.ref x/\H2 x=tE (XN x C tF)/\XC K C/\NoAttr K C f/\∀dx,H2 dx=tF->D.nx σ (upd (upd H2 dx (.xd [(f,y)])) x (XN x C (tE dx)))
def QY(ha:PE X o ta)(hv:PE X value tv)(hs:swapsWith value (tE (.Attribute o f pos')) pos.line X.env=pure tH):PS X (.Assign [.Attribute o f pos'] value pos) (zbZ X.K ta tv f):=by intros D I h;refine rQ (thn (hv tI s σ H _ I h) λu s1=>el5 λy H1 I1 ry q=>thn (ha tI s1 σ H1 _ I1 q) λov s2=>el5 λx' H2 I2 rx q_z=>?_) hs;let#[x,C,ex,e,xc,n,q2]:=q_z;subst ex;obtain rfl:ov=r9 x:=rx;exact zbj I2 e xc n ry λs3 dx hdx I3=>#[σ,_,I3,q2 dx hdx]
def QV{K:pB}(hh:A.handled=tF)(h:pE M A x (λv s1=>∃e C t dx,v=.ref e/\K.In s1.heap/\ZN K C=tG/\s1.heap.get? e=tE (xob C dx t .none)/\E (.ref e) s1) E s):pE M A (raiseStmt env (tE x) tF) Q E s:=by
 unfold raiseStmt;refine ph (thn h λv s1 h1=>?_);let#[e,C,t,dx,rfl,X,hC,he,hE]:=h1;refine kq (hC) λbm N nm qn bs sn sub ab col dd k0 k1 k2 k3 k5 lk tl=>?_;have hCo:=X _ _ lk;have T:=tl _ X;have hcB:(r9 C::bm).contains (.type "BaseException")=tG:=by rw[dI,T.hasType (show bmV.contains (.type "BaseException")=tG by symm),d8]
 let#[hp,g,d,tk,os]:=s1
 repeat (first | with_reducible refine rf he ?_ | with_reducible refine rf hCo ?_ | (with_reducible refine rJ hCo ?_;rw[hcB]) | wp_step)
 exact wpAny_raiseNew_none hh hE
def Um{K:pB}(hh:A.handled=tF)(h:pE M A (eval e env) (λv s1=>∃a C t dx,v=.ref a/\K.In s1.heap/\ZN K C=tG/\s1.heap.get? a=tE (xob C dx t .none)/\E (.ref a) s1) E s):pE M A (exec (.Raise (tE e) tF pos) env) Q E s:=by
 rw[arm_exec_Raise]
 first
  | exact ph (rj (QV hh (ph (thn h λv s1 h1=>ph (rj (pi h1))))))
  | (erw[evalOpt,Option.map];exact ph (rj (QV hh (ph (thn h λv s1 h1=>ph (rj (pi h1)))))))
def del(H:Hp)(x:pC):Hp:=λb=>if b=x then tF else H b
def UU(h:b≠x):del H x b=H b:=z9 h
def X2 : del H x x=tF:=z6 rfl
def Inv.untrack(I:Inv X tI σ H s)(e:H x=tE (.ext φ))(hs:X.s₀.heap.objs.size<=x):Inv X tI σ (del H x) s:=by
 have nx:∀b u,H b=tE u->(∀ψ,u≠.ext ψ)->b≠x:=λb u q nu z=>by subst z;rw[e]at q;cases q;exact nu _ rfl
 have hn:∀b,b≠x->del H x b=H b:=λb hb=>UU hb;have es:s={ s with heap:=s.heap,gens:=s.gens,drawn:=s.drawn,toks:=s.toks }:=rfl;rw[es]
 refine I.step (g':=s.gens) (d':=s.drawn) (ch:=[x]) (λb hb=>?_) (λb o Z Z Z q Z=>q) (λb o Z Z Z q Z=>#[o.slots,q]) (λb o hc Z n=>?_)
  (λb o Z q=>#[o,q]) (λb xs q=>?_) (λb u xs q=>?_) (λb ps q=>?_) (λm hm=>hm) (λb u q=>?_) I.bare
 ·have eb:b=x:=by simpa using hb
  subst eb;refine#[.inr hs,λz=>?_,λy c q z=>?_,λp hp z=>?_]
  ·rw[z,I.free]at e;cases e
  ·have:=I.freeC y c q;rw[z,e]at this;cases this
  ·have:=(I.pin p hp).2.1;rw[z,e]at this;cases this
 ·rw[hn b ↥hc];exact n
 ·rw[hn b (nx b _ q λZ z=>by cases z)];exact q
 ·rw[hn b (nx b _ q λZ z=>by cases z)];exact q
 ·exact#[#[],by rw[hn b (nx b _ q λZ z=>by cases z),q];simp]
 ·by_cases hb:b=x
  ·subst hb;rw[X2]at q;cases q
  ·rw[hn b hb]at q;exact (I.hok b u q).stay (λc v Z z=>z) (λc z=>by rw[hn c (nx c _ z λZ y=>by cases y)];exact z) λc xs z=>by rw[hn c (nx c _ z λZ y=>by cases y)];exact z
def WX(I:Inv X tI σ H s)(xc:ZN X.K C=tG)(hi:aj X.K (.ref C) "__init__" = tE (tE (.builtin "ValueError.__init__")))(hl:us.length<=pA)(h:∀s' x t,s⁻¹<=x->Inv X tI σ H s'->s'.heap.get? x=tE (xob C tF t .none)->Q (.ref x) s'):pE (model X.prog X.w) X.A (call (.ref C) us) Q E s:=by
 have F:=eN;refine kq (xc) λbm N nm qn bs sn sub ab col dd k0 k1 k2 k3 k5 lk tl=>?_;have hC:=I.kIn _ _ lk;have T:=tl _ I.kIn;let#[hp,g,d,t,os]:=s;have k:∀b o,hp.get? b=tE o->((hp.push { cls:=.type "tuple",data:=.seq us.toArray }).push (xob C tF hp.objs.size .none)).get? b=tE o:=λb o e=>ac _ (ac _ e);refine rE (Wg I.kIn xc hi (λself=>PySem.W.Looks.of_pure (F.init.bind self)) hl ?_);have hget:((hp.push { cls:=.type "tuple",data:=.seq us.toArray }).push (xob C tF hp.objs.size .none)).get? (hp.objs.size+1)=tE (xob C tF hp.objs.size .none):=by heap_get
 refine rW F.init.plain F.initEntry (wpAny_check_init_subT F (T.keeps k) (k _ _ hC) hget rfl ?_)
 wp_walk
 refine#[rfl,h _ (hp.objs.size+1) ((hp.push { cls:=.type "tuple",data:=.seq us.toArray }).push (xob C tF hp.objs.size .none)).objs.size (cL _) (I.kept (t':=t) λb o e=>?_) ?_]
 ·exact (aH _ _ (bU (cr (au e)))).trans (ac _ (k b o e))
 ·exact bY (Obj.mapFields λx=>x.setIfInBounds 0 (r9 ((hp.push { cls:=.type "tuple",data:=.seq us.toArray }).push (xob C tF hp.objs.size .none)).objs.size)) (ac _ hget) rfl
def Xd(E:XK)(C:pC)(t:TA):TS:=λZ σ H=>t σ H λvs H1=>vs.length<=pA/\E (.ref C) tF H1
def yS(hx:XE X E)(hc:X.calm=tG)(xc:XC X.K C)(hi:aj X.K (.ref C) "__init__" = tE (tE (.builtin "ValueError.__init__")))(hg:Gl X cn)(hm:X.mg cn=tE (.ref C))(ha:PA X (e::es) t)(hdb:‹(cn ==("__debug__" : pG))=tH›)(he:‹pq (e::es) X.env=(tH,eval e X.env)::pq es X.env›)(hpl:‹(pQ cpos (pq es X.env)).any (·.1)=tH›) :
  PS X (.Raise (tE (.Call (.Name cn np) (e::es) [] cpos)) tF pos) (Xd E C t):=by intros D I h;refine Um (K:=X.K) (I.ok.hd hc) (pY (wS I hg hm ?_ hdb));refine bL (h₀:=X.base) I.ok.mod.kin xc.kp (thn (ha cpos tI s σ H _ I h) λus s1=>el5 λvs H1 I1 r=>ua2 λz q=>#[I1.kIn,?_]) he hpl;refine WX (us:=[] ++ us) I1 xc.ok hi (by show us.length<=pA;rw[<- r.length];exact z) λs2 x t hz I2 ob=>#[x,C,t,tF,rfl,I2.kIn,xc.ok,ob,?_];exact hx _ _ #[tI,σ,H1,x,C,t,tF,.none,rfl,I2,ob,.inl rfl,I1.fpOk hz (I1.hok.fresh hz),λT z=>(by cases z),q]
def UP(r:Room (k+1) A):Room k (A.under (.builtin "type.__call__" #[.ref C::us,[]])):=r.make C us []
def YJ(E:XK)(C:pC)(sp:Sp)(t:TA):TS:=λZ σ H=>t σ H λvs H1=>vs.length<=pA/\∀x,H1 x=tF->sp (.ref x::vs) (upd H1 x (XN x C tF)) (λv H2=>v=.non/\∃dx,H2 x=tE (XN x C dx)/\E (.ref C) dx (del H2 x)) E0
theorem YD(hx:XE X E)(hc:X.calm=tG)(xc:XC X.K C)(hi:aj X.K (.ref C) "__init__" = tE (tE (.ref f)))(hfn:bp X.K (.ref f)=tG)(F:FnOk X.prog X.w X.K X.mg X.base CX0 k f fd ps sp)(hr:Room (k+1) X.A)(hb:Binds X.K fd ps [])(hg:Gl X cn)(hm:X.mg cn=tE (.ref C))(ha:PA X (e::es) t)(hdb:‹(cn ==("__debug__" : pG))=tH›)(he:‹pq (e::es) X.env=(tH,eval e X.env)::pq es X.env›)(hpl:‹(pQ cpos (pq es X.env)).any (·.1)=tH›) :
  PS X (.Raise (tE (.Call (.Name cn np) (e::es) [] cpos)) tF pos) (YJ E C sp t):=by
 intros D I h;refine Um (K:=X.K) (I.ok.hd hc) (pY (wS I hg hm ?_ hdb));refine bL (h₀:=X.base) I.ok.mod.kin xc.kp (thn (ha cpos tI s σ H _ I h) λus s1=>el5 λvs H1 I1 r=>ua2 λz q=>#[I1.kIn,?_]) he hpl;have hl:us.length<=pA:=by rw[<- r.length];exact z
 have ob:((s1.heap.push { cls:=.type "tuple",data:=.seq us.toArray }).push (xob C tF s1⁻¹ .none)).get? (s1⁻¹+1)=tE (xob C tF s1⁻¹ .none):=by heap_get
 have hfr:H1 (s1⁻¹+1)=tF:=I1.hok.fresh (cL _)
 have I2:Inv X tI σ (upd H1 (s1⁻¹+1) (XN (s1⁻¹+1) C tF)) { s1 with heap:=(s1.heap.push { cls:=.type "tuple",data:=.seq us.toArray }).push (xob C tF s1⁻¹ .none) } :=
  I1.laid (t':=s1.toks) (λb o e=>ac _ (ac _ e)) (cL _) (zc1 ob)
 have q1:=q _ hfr;have r2:Vals (V.ref (s1⁻¹+1)::vs) (r9 (s1⁻¹+1)::us):=.cons rfl r
 have hlen:(r9 (s1⁻¹+1)::us ++ ([]:List pD)).length=ps.length:=by
  rw[aV,<- r2.length];exact F.len _ _ _ _ q1
 have hb2:=hb { s1 with heap:=(s1.heap.push { cls:=.type "tuple",data:=.seq us.toArray }).push (xob C tF s1⁻¹ .none) } (r9 (s1⁻¹+1)::us) I2.kIn hlen;rw[aV]at hb2;have run:=F.run _ X.stack _ _ #[r9 (s1⁻¹+1)::us,[]] (r9 (s1⁻¹+1)::us) _ _ E0 (UP (C:=C) (us:=us) hr) (I2.env0.make C us []) hb2 r2 q1;have sz0:X.s₀.heap.objs.size<=s1⁻¹+1:=aG I1.sz (cL _);show pE (model X.prog X.w) X.A (call (.ref C) us) _ X.xe s1;refine rE ?_;refine Wg (h:=s1.heap) (g:=s1.gens) (d:=s1.drawn) (t:=s1.toks) (os:=s1.os) (rest:=us) I1.kIn xc.ok hi (λself=>gw I1.kIn self (beq_iff_eq.mp hfn)) hl (rG run λr s' hq=>?_)
 cases r with
 | error e=>exact False.elim hq
 | ok fl =>
  cases fl with
  | ret u =>
   let#[v,H',I3,rv,ev,dx,hx3,q3]:=I2.after hq;subst ev;refine#[rv,?_];let#[t,ob3]:=zc9 (I3.hok _ _ hx3);have I4:=Inv.untrack I3 hx3 sz0;refine#[_,C,t,dx,rfl,I3.kIn,xc.ok,ob3,hx _ _ #[tI,σ,_,_,C,t,dx,.none,rfl,I4,ob3,.inl rfl,?_,λT z=>(by cases z),q3]];exact I1.fpOk (cL _) X2
  | next=>exact False.elim hq
  | brk=>exact False.elim hq
  | cont=>exact False.elim hq
def zbk(X:Cx)(tI:List (pC × rH))(σ:St)(E:XK)(e:pD)(s:pF):Prop:=∃(cx:pD) (kx:Bool) (H:Hp) (x C t:pC) (dx:Option pC) (tb:pD),e=.ref x/\Inv X tI σ H s /\
 s.heap.get? x=tE (xog C dx t tb cx kx)/\zck s.heap x tb/\xK X tI H x/\(∀T,tb=.ref T->xK X tI H T)/\E (.ref C) dx H
abbrev TX:=St->Hp->VK->XK->Prop
def PEX(X:Cx)(e:rF)(t:TX):Prop :=
 ∀(tI:List (pC × rH)) (s:pF) (σ:St) (H:Hp) (Q:VK) (E:XK),Inv X tI σ H s->t σ H Q E->pE (model X.prog X.w) X.A (eval e X.env) (EP X tI σ Q) (zbk X tI σ E) s
theorem JS(F:FnOk X.prog X.w X.K X.mg X.base (CXx X.prog X.w) k f fd ps sp)(hr:Room k X.A)(hg:Gl X x)(hm:X.mg x=tE (.ref f))(hk:aK X.K (.ref f)=tG)(hb:Binds X.K fd ps ds)(hd:Vals dvs ds)(ha:PA X.nox (e::es) t) (hdb:‹(x ==("__debug__" : pG))=tH›) (he:‹pq (e::es) X.env=(tH,eval e X.env)::pq es X.env›) (hpl:‹(pQ pos (pq es X.env)).any (·.1)=tH›) :
  PEX X (.Call (.Name x p) (e::es) [] pos) (λσ H Q E=>t σ H λvs H1=>sp (vs ++ dvs) H1 Q E):=by
 intros Q E I h;refine pY (wS I hg hm ?_ hdb);refine bL (h₀:=X.base) I.ok.mod.kin hk (pV (thn (ha pos tI s σ H _ (I.wish _) h) λus s1=>el5 λvs H1 I1 r q=>#[I1.kIn,?_])) he hpl;have I1':Inv X tI σ H1 s1:=I1.unwish;have r2:Vals (vs ++ dvs) (us ++ ds):=r.append hd;have hl:(us ++ ds).length=ps.length:=by rw[<- r2.length];exact F.len _ _ _ _ q
 refine rE (rG (F.run X.A X.stack s1 H1 #[us,[]] (us ++ ds) (vs ++ dvs) Q E hr I1'.env0 (hb s1 us I1'.kIn hl) r2 q) λr s' hq=>?_)
 cases r with
 | error e =>
  let#[x,C,t,dx,tb,H',rfl,os,bare,un,hok,ob,tr,hn,hsz,hT,q]:=hq;exact#[.none,tH,H',x,C,t,dx,tb,rfl,I1'.call' os un hok bare (λb z=>y9 z (by simp)),ob,tr,I1'.fpOk hsz hn,λT e=>I1'.fpOk (hT T e).2 (hT T e).1,q]
 | ok fl =>
  cases fl with
  | ret u=>exact I1'.after hq
  | next=>exact False.elim hq
  | brk=>exact False.elim hq
  | cont=>exact False.elim hq
abbrev Cx.suite(X:Cx)(e:pD):Cx:={ X with A:=X.A.mark (tE e),calm:=tH,xe:=λZ Z=>False }
def Inv.suite(I:Inv X tI σ H s)(e:pD):Inv (Cx.suite X e) tI σ H s :=
 #[#[I.ok.mod,I.ok.kind,I.ok.glob,I.ok.blt,I.ok.above,I.ok.inj,I.ok.has,I.ok.cab,λz=>y9 z (by simp [Cx.suite]),I.ok.frames,I.ok.stk,I.ok.exf,I.ok.bs,I.ok.bsz,I.ok.noex,I.ok.exfs,I.ok.funs,I.ok.frf],
  I.os,I.bare,I.base,I.loc,I.cell,I.free,I.freeC,I.pin,I.hok,I.len]
def Inv.unsuite(J:Inv X tI σ' H' s')(I:Inv (Cx.suite X e) tI σ H s):Inv X tI σ H s :=
 #[J.ok,I.os,I.bare,I.base,I.loc,I.cell,I.free,I.freeC,I.pin,I.hok,I.len]
structure Hd where
 D:pC
 i:Nat
 ts:TS
def tHs(K:pB)(C:pC)(dx:Option pC)(x:pC)(Dd:ZH)(σ:St)(H:Hp):List Hd->Prop
 | []=>False
 | h::r=>∃b,cy K (.ref C) (.ref h.D)=tE b/\if b=tG then h.ts { Dd with nx:=λσ' H'=>Dd.nx (σ'.set h.i tF) H',bk:=λσ' H'=>Dd.bk (σ'.set h.i tF) H',ct:=λσ' H'=>Dd.ct (σ'.set h.i tF) H' } (σ.set h.i (tE (.ref x))) H else tHs K C dx x Dd σ H r
def ud(I:Inv X tI σ H s)(hN:X.N.Nodup)(hi:X.N[i]? = tE n)(hk:X.env.scope.names.lookup n=tE .local)(h:∀s',Inv X tI (σ.set i tF) H s'->Q Unit.unit s'):pE M A (do bindName X.env n .none;unbindBehindTheSuite X.env n pos) Q E s:=by
 let#[m,hn,hl]:=id I.loc;have hcls:(X.env.scope.kind == .class || (X.env.scope.kind == .module && X.env.locals != X.env.globals))=tH:=by rw[I.ok.kind];rfl
 have hiσ:i<σ.length:=by rw[I.len];exact (tL.mp hi).1
 have cne:=I.cne;refine wpAny_nameGoes_keeps hk hn hcls λh' v hn' hs=>?_;let#[oL,_,_,hoL,_]:=id hn;refine h _ #[I.ok,I.os,I.bare,#[λb o e n hb hx=>?_,λb o e n hb hx=>?_,I.base.free,λb o e hx=>?_,I.base.tups,I.base.frzs,I.base.tbls],#[_,hn',λj y v' e1 e2 e3=>?_],λy c e=>?_,I.free,I.freeC,λp hp=>?_,?_,by simpa using I.len]
 ·exact (hs.2 b (ax (ao (au e) I.ok.above))).trans (I.base.keep b o e n hb hx)
 ·let#[sl,e1]:=I.base.slot b o e n hb hx;exact#[sl,(hs.2 b (ax (ao (au e) I.ok.above))).trans e1]
 ·let#[o',e1]:=I.base.there b o e hx;exact#[o',(hs.2 b (ax (ao (au e) I.ok.above))).trans e1]
 ·by_cases hj:j=i
  ·subst hj;rw[dQ hiσ]at e2;cases e2
  ·rw[d6 (Ne.symm hj)]at e2;let#[u',r',q]:=hl j y v' e1 e2 e3;refine#[u',r',?_];rcases q with ⟨k,e⟩ | ⟨k,c,e,z⟩
   ·refine .inl #[k,?_];have:y≠n:=λe=>hj (ZB hN e1 (e ▸ hi));simp [this,e]
   ·exact .inr #[k,c,e,z.sameBut hs (cne y c e)]
 ·let#[w',z]:=I.cell y c e;exact#[w',z.sameBut hs (cne y c e)]
 ·let#[e,n,ne,nf,d]:=I.pin p hp;exact#[(hs.2 p.1 ne).trans e,n,ne,nf,d]
 ·exact HOk.but I.hok hs I.free
theorem KC{K:pB}(X:K.In s.heap)(hD:ZN K D=tG)(he:s.heap.get? x=tE (xog C dx t tb cx kx))(hs:cy K (.ref C) (.ref D)=tE b)(h:Q b s):pE M A (excMatches (.ref x) (.ref D)) Q E s:=by
 refine kq (hD) λbm N nm qn bs sn sub ab col dd k0 k1 k2 k3 k5 lk tl=>?_;have hDo:=X _ _ lk;have T:=tl _ X;have hcB:(r9 D::bm).contains (.type "BaseException")=tG:=by rw[dI,T.hasType (show bmV.contains (.type "BaseException")=tG by symm),d8]
 have L:=PySem.W.looks_subIn (M:=M) X hs;have f:=tc_notTuple;let#[hp,g,d,tk,os]:=s;unfold excMatches
 repeat (first | with_reducible refine rf he ?_ | with_reducible refine rf hDo ?_ | (with_reducible refine rJ hDo ?_;rw[hcB]) | (with_reducible refine PySem.W.Looks.at L ?_) | wp_step)
 cases b with
 | false=>exact pi (pi (pi h))
 | true=>exact pi (pi (pi h))
structure zgL(X:Cx)(h:sM)(d:Hd):Prop where
 ex:∃(cn n:pG) (np pos:tB) (b0:pN) (suite:List pN),h=.ExceptHandler (tE (.Name cn np)) (tE n) (b0::suite) pos/\Gl X cn/\X.mg cn=tE (.ref d.D)/\X.N[d.i]? = tE n/\X.env.scope.names.lookup n=tE .local/\(cn ==("__debug__" : pG))=tH /\
  (∀e,PSs (Cx.suite X e) (b0::suite) d.ts)
 xc:ZN X.K d.D=tG
inductive Xg(X:Cx):List sM->List Hd->Prop
 | nil {hs}:Xg X hs []
 | cons {h d hs ds}:zgL X h d->Xg X hs ds->Xg X (h::hs) (d::ds)
theorem Yp(hN:X.N.Nodup):∀{hs:List sM} {ds:List Hd},Xg X hs ds->∀{tI:List (pC × rH)} {s:pF} {σ:St} {H:Hp} {Dd:ZH} {x C T:pC} {dx:Option pC},Inv X tI σ H s->H x=tE (XT x C dx) ->
  (∃t cx kx,s.heap.get? x=tE (xog C dx t (.ref T) cx kx))->(∃oT ts,s.heap.get? T=tE oT/\oT.data=.fields ts/\3<ts.size)->xK X tI H T->tHs X.K C dx x Dd σ H ds ->
  pE (model X.prog X.w) X.A (handleBy (.ref x) X.env hs) (SP X tI Dd) X.xe s
 | _,_,.nil,_,_,_,_,_,_,_,_,_,_,_,_,_,_,h=>h.elim
 | _,_,.cons h1 h2,tI,s,σ,H,Dd,x,C,T,dx,I,hx,ho_,hT_,fT,h=>by
  let#[t,cx,kx,ob]:=ho_;let#[oT,ts,eT,dT,zT]:=hT_;let#[#[cn,n,np,pos,b0,suite,rfl,hg,hm,hi,hk,hdb,hsu],xc]:=h1;let#[b,hb,q]:=h;have I':=Inv.suite I (.ref x);refine sK (sw (wS (X:=Cx.suite X (.ref x)) I' hg hm (KC I.kIn xc ob hb ?_) hdb)) (by intro q;cases q)
  cases b with
  | false =>
   rw[z9 aB]at q;exact Yp hN h2 I hx #[t,cx,kx,ob] #[oT,ts,eT,dT,zT] fT q
  | true =>
   rw[z6 rfl]at q;refine codeAny_handlers_suite_as ?_;unfold setFlight;refine ph (pO ob rfl (x:=.ref T) rfl ?_);rw[z6 (show (r9 T != p9)=tG from by simp)];refine rm eT dT zT ?_;let#[f0,f1,f2,f3,f4,f5]:=fT
   have I2:Inv X tI σ H { s with heap:=s.heap.update T (Obj.mapFields (·.setIfInBounds 3 ((tF:Option pC).elim p9 λf=>rawInt f))) } :=
    I.turned (t':=s.toks) (λb o hb e=>(aH _ _ (Ne.symm hb)).trans e) f0 f1 f3 f4 f5
   refine uh (X:=Cx.suite X (.ref x)) (v:=.ref x) (Inv.suite I2 (.ref x)) hN hi (.inl hk) rfl (λs3 I3=>?_) (.inr hk);refine pV (thn (hsu _ tI s3 _ H _ I3 q) λfl s4 q4=>?_)
   cases fl with
   | next =>
    let#[σ4,H4,I4,n4]:=q4;exact ud (Inv.unsuite I I4) hN hi hk λs5 I5=>#[_,_,I5,n4]
   | brk =>
    let#[σ4,H4,I4,n4]:=q4;exact ud (Inv.unsuite I I4) hN hi hk λs5 I5=>#[_,_,I5,n4]
   | cont =>
    let#[σ4,H4,I4,n4]:=q4;exact ud (Inv.unsuite I I4) hN hi hk λs5 I5=>#[_,_,I5,n4]
   | ret v =>
    let#[y,σ4,H4,I4,r4,n4]:=q4;exact ud (Inv.unsuite I I4) hN hi hk λs5 I5=>#[y,_,_,I5,r4,n4]
def tbL:pD->List pC
 | .ref b=>[b]
 | _=>[]
def zey(K:pB)(i:Nat)(te:TX)(hds:List Hd):TS:=λD σ H=>te σ H (λv H1=>D.nx (σ.set i (tE v)) H1) λcls dx H1=>∃C,cls=.ref C/\∀x,H1 x=tF->tHs K C dx x D σ (upd H1 x (XT x C dx)) hds
def zcR(hN:X.N.Nodup)(hy:X.N[i]? = tE y)(hly:Loc X.env.scope y)(hf:X.fn y=tG\/X.env.scope.names.lookup y=tE .local)(hst:X.stack=X.env::X.outer/\X.env.frame=tE X.env.locals)(he:PEX X e te)(hh:Xg X (h::hs) hds)(hsw:‹swapsWith e (tE (.Name y yp)) apos.line X.env=pure tH›) :
    PS X (.Try [.Assign [.Name y yp] e apos] (h::hs) [] [] pos) (zey X.K i te hds):=by
  intros D I hq;refine sj (rA (si (rq (he tI s σ H _ _ I hq) (λv s1=>el5 λz H1 I1 r1 q1=>?_) λe s1 fl=>?_) hsw))
  . exact uh I1 hN hy hly r1 (λs2 I2=>rg (rg #[_,H1,I2,q1])) hf
  . let#[cx,kx,H1,x,C,t,dx,tb,rfl,I1,ob,tr,fx,fT,C',ec,q1]:=fl
    cases ec;have fr:X.A.frames=tE (X.env::X.outer):=by rw[<- hst.1];exact I1.ok.frames
    have ff:s1.heap.FunFrames X.base (X.env::X.outer):=by rw[<- hst.1];exact I1.stack
    refine qm fr ff hst.2 hst.2 ob tr λh' T oT ts e1 nT oldT e2 d2 z2 k1 k2=>?_
    have fT':xK X tI H1 T:=by
      rcases oldT with z | z
      . exact fT T z
      . exact I1.fpOk z (I1.hok.fresh z)
    have tbs:∀b,tb=.ref b->H1 b=tF:=λb hb=>(fT b hb).1
    have nch:∀b o,s1.heap.get? b=tE o->b ∉ (x::T::tbL tb)->b≠x/\tb≠.ref b:=λb o Z hb=>by
      refine#[λz=>hb (by simp [z]),λz=>hb ?_];rw[z];simp [tbL]
    have un:Un (frs X.stack) (x::T::tbL tb) H1 H1 s1.heap h':=by
      rw[hst.1];refine#[λb o e n hb hc=>?_,λb o e n hb hc=>?_,λb o e n Z=>n,λb o e hc=>?_,λb xs e=>e,λb o u e=>e,λb ps e=>#[#[],by rw[e];simp]]
      . let#[a1,a2]:=nch b o e hc
        exact k1 b o a1 a2 hb e
      . let#[a1,a2]:=nch b o e hc
        exact k2 b o a1 a2 e
      . let#[a1,a2]:=nch b o e hc
        let#[sl,q]:=k2 b o a1 a2 e;exact#[_,q]
    have hok:HOk X.prog X.w H1 h':=λb u e=>by
      refine (I1.hok b u e).stay (λc v hc q=>k1 c v ?_ ?_ ?_ q) (λZ q=>q) λZ Z q=>q
      . rintro rfl
        rcases hc with rfl | hc
        . rw[fx.1]at e;cases e
        . rw[fx.1]at hc;cases hc
      . intro z
        have:=tbs c z;rcases hc with rfl | hc
        . rw[this]at e;cases e
        . rw[this]at hc;cases hc
      . intro z
        rw[<- hst.1]at z;have:=I1.stkFree c z;rcases hc with rfl | hc
        . rw[this]at e;cases e
        . rw[this]at hc;cases hc
    have I2:Inv X tI σ H1 { s1 with heap:=h' }:=I1.call' (s':={ s1 with heap:=h' }) rfl un hok I1.bare λb hb=>by
      have fb:xK X tI H1 b:=by
        rcases tN.mp hb with z | z
        . rw[z];exact fx
        . rcases tN.mp z with z | z
          . rw[z];exact fT'
          . cases tb with
            | ref b' =>
              have:b=b':=by simpa [tbL] using z
              rw[this];exact fT b' rfl
            | _=>simp [tbL]at z
      let#[_,a1,_,a3,a4,a5]:=fb;exact#[a3,a1,a4,a5]
    have I3:Inv X tI σ (upd H1 x (XT x C dx)) { s1 with heap:=h' }:=Inv.track I2 fx (zaZ e1);exact Yp hN hh I3 zb #[t,_,_,e1] #[oT,ts,e2,d2,z2] #[by rw[zm nT];exact fT'.1,fT'.2] (q1 x fx.1)
end
section
variable{prog:pJ}{w:pR}{A:rh}{E:pD->pF->Prop}{s:pF}{K:pB}{x C:pC}{ox:rH}{od:Option rH}{name:pG}{tk:sP}
def zdr{fill expr:Bool}(X:K.In s.heap)(xc:XC K C)(J:PySem.W.InstAt s.heap x ox C od)(h:pE (model prog w) A.in1 (Builtin.«object.__getattribute__» #[[.ref x,.str name tk],[]]) (λfin s'=>match fin with | .done (.ret v)=>pE (model prog w) A (handedOut v) Q E s' | _=>False) (λZ Z=>False) s) :
  pE (model prog w) A (getAttrBy (.ref x) (.str name tk) fill expr) Q E s:=by
 refine kq (xc.ok) λbm N nm qn bs sn sub ab col dd k0 k1 k2 k3 k5 lk tl=>?_;have hC:=X _ _ lk;have T:=tl _ X;have FB:=PySem.F.attrBase_ValueError;have L0:=J.type (M:=model prog w);have L1:=cK (M:=model prog w) X xc.ga;have L2:=cK (M:=model prog w) X xc.gt;have hcB:(r9 C::bm).contains (.type "BaseException")=tG:=by rw[dI,T.hasType (show bmV.contains (.type "BaseException")=tG by symm),d8]
 have isB:PySem.W.Looks (model prog w) s.heap (isInstance (.ref x) (.type "BaseException")) tG:=L0.andThen (by have:=ZU (M:=model prog w) hC (.type "BaseException");rw[hcB]at this;exact this);have f3:=FB.ga.bind (.ref x);have hx0:(expr && onTheHeap (Value.builtin "BaseException.__getattribute__"))=tH:=by cases expr <;> rfl
 have hx2:(Value.builtin "BaseException.__getattribute__" == Value.builtin "object.__getattribute__")=tH:=by symm
 have hx1:(onTheHeap (r9 C) && Value.builtin "BaseException.__getattribute__" == Value.builtin "object.__getattribute__")=tH:=by rw[hx2];rfl
 unfold getAttrBy;refine pL (ph (L0.here (ph (L1.here ?_))));show pE _ _ (if (onTheHeap (r9 C) && Value.builtin "BaseException.__getattribute__" == Value.builtin "object.__getattribute__")=tG then _ else _) _ _ _;rw[hx1,z9 aB];unfold getAttrByItsOwn hookBefore;rw[z6 (by rfl)];refine ph (L2.here (ph (rT (pL ?_))));unfold callGetattribute;rw[hx0,z9 aB];unfold boundAndCalled;rw[f3];refine ph (pi ?_);show pE (model prog w) A (call (.builtin "BaseException.__getattribute__") [.ref x,.str name tk]) _ _ s;refine rE (rW FB.ga.plain PySem.F.entry_bexc_ga (@PySem.W.check_slot (model prog w) _ _ s "BaseException.__getattribute__" "BaseException" "__getattribute__" (.ref x) [.str name tk] [] _ (!0) (!0) isB (PySem.F.args_bexc_ga _ _) ?_));refine rq h (λfin s' z=>?_) λZ Z z=>z.elim;rcases fin with (_ | _ | _ | v) | _ <;> first | exact z | exact z.elim
def KQ(X:K.In s.heap)(xc:XC K C)(J:PySem.W.InstAt s.heap x ox C od)(ha:aj K (.ref C) "__class__" = tE (tE (.builtin "object.__class__")))(hn:cJ K (.builtin "object.__class__") "__get__" = tE (tE (.builtin "getset_descriptor.__get__")))(htk:d7 K (.builtin "object.__class__")=tE tG)(hm:bO K C (.type "object")=tE tG)(h:Q (tE (.ref C)) { s with toks:=s.toks+1 }):pE (model prog w) A (getAttr? (.ref x) "__class__") Q E s:=by
 have hf:gx K C od "__class__" = tE (.bind (.builtin "getset_descriptor.__get__") (.builtin "object.__class__")):=by
  refine kq (xc.ok) λbm N nm qn bs sn sub ab col dd k0 k1 k2 k3 k5 lk tl=>?_;have hcl:(PySem.W.clsIn K C).isSome=tG:=by unfold PySem.W.clsIn;rw[lk];rfl
  let#[cd,hc]:=tW.mp hcl;unfold gx;rw[hc,bW,ha,bW];simp [hn,htk]
 unfold getAttr? getAttrBy?;refine ph (wpAny_mkText (ph (rT (zdr (s:={ s with toks:=s.toks+1 }) X xc J ?_))));have L0:=J.type (M:=model prog w);have L1:=PySem.W.looks_find (M:=model prog w) X J hf;unfold Builtin.«object.__getattribute__»;refine ph (pi (ph (pi (ph (L0.here (s:={ s with toks:=s.toks+1 }) (ph (L1.here (s:={ s with toks:=s.toks+1 }) ?_)))))));show pE _ _ (holding [.builtin "object.__class__"] (call (.builtin "getset_descriptor.__get__") [.builtin "object.__class__",.ref x,.ref C]) >>= ret) _ _ _;refine ph (pL (rE (PySem.W.class_get (s:={ s with toks:=s.toks+1 }) X J hm ?_)));refine pi ?_;show pE _ _ (handedOut (.ref C)) _ _ _;rw[PySem.W.handedOut_of rfl];exact pi (pi h)
end
mutual section
structure XI(K:pB)(C:pC):Prop extends XC K C where
 ca:aj K (.ref C) "__class__" = tE (tE (.builtin "object.__class__"))
 cg:cJ K (.builtin "object.__class__") "__get__" = tE (tE (.builtin "getset_descriptor.__get__"))
 ct:d7 K (.builtin "object.__class__")=tE tG
 mo:bO K C (.type "object")=tE tG
def zdD(ob:h.get? x=tE (xog C tF t tb c k)):PySem.W.InstAt h x (xog C tF t tb c k) C tF:=#[ob,rfl,rfl,trivial]
def ze1{K:pB}(xi:XI K C):PySem.W.KitX K (.ref x) (.ref C) (λh=>(∃t tb c k,h.get? x=tE (xog C dx t tb c k))/\∀d,dx=tE d->∃o,h.get? d=tE o) where
 ty:=λM h X ⟨⟨t,tb,c,k',ob⟩,_⟩=>(PySem.W.Looks.ld ob).andThen .now
 it:=λM h X Z=>by
  refine kq (xi.ok) λbm N nm qn bs sn sub ab col dd k0 k1 k2 k3 k5 lk tl=>?_;intro A' Q' E' s' k q;unfold isType loadHead;exact ph (sC (k _ _ (X _ _ lk)) (pi q))
 ne:=λh tp dd its n sl X htp=>by
  refine kq (xi.ok) λbm N nm qn bs sn sub ab col dd k0 k1 k2 k3 k5 lk tl=>?_;refine Bool.eq_false_iff.mpr λq=>?_;have e:C=tp:=Value.ref.inj (beq_iff_eq.mp q);subst e;have z:=congrArg (λo:Option rH=>o.map λo=>match o.data with | .cls _=>tG | _=>tH) ((X _ _ lk).symm.trans htp);exact y9 (show tG=tH from Option.some.inj z) ∅
 ca:=λ{prog w A E Q s} X ⟨⟨t,tb,c,k',ob⟩,hd⟩ k=>by
  cases dx with
  | none=>exact KQ X xi.toXC (zdD ob) xi.ca xi.cg xi.ct xi.mo k
  | some d =>
   let#[o,e]:=hd d rfl;exact KQ (od:=tE o) X xi.toXC #[ob,rfl,rfl,e] xi.ca xi.cg xi.ct xi.mo k
def XAt(H:Hp)(x C:pC)(dx:Option pC)(fs:List (pG × V)):Prop:=H x=tE (XT x C dx)/\((dx=tF/\fs=[])\/∃d,dx=tE d/\H d=tE (.xd fs))
def QN:vx X (.builtin "isinstance") (λxs H Q=>∃x C dx fs c u b,xs=[.ref x,c]/\cV c=tE u/\XAt H x C dx fs/\XI X.K C/\aS X.K (.ref C) u=tE b/\Q (.bl b) H):=by
 intros xs us Q I r h;let#[x,C,dx,fs,c,u,b,rfl,hc,#[hx,hd],xi,e,q]:=h;let#[v,w',rfl,rx,rc]:=UW r;cases rx
 have:w'=u:=by
  cases c with
  | ty n=>cases hc;exact rc
  | ref a=>cases hc;exact rc
  | _=>cases hc
 subst this;refine bo (ze1 (dx:=dx) xi) I.kIn #[zfQ (I.hok _ _ hx),λd z=>?_] e (λz=>nomatch z) λtk=>#[.bl b,H,I.tok tk,rfl,q];rcases hd with ⟨z',_⟩ | ⟨d',z',hd'⟩
 ·rw[z']at z;cases z
 ·rw[z']at z;cases z;let#[mA,#[o,es,ep,ho,_],_]:=I.hok _ _ hd';exact#[o,ho]
structure Df(P:pJ)(w:pR)(K:pB)(mg:pG->Option pD)(base:pS)(CX:CXT)(k:Nat)(nm:pG)(ps:List pG)(ds:List pD)(sp:Sp):Prop where
 ex:∃f fd,FnOk P w K mg base CX k f fd ps sp/\mg nm=tE (.ref f)/\aK K (.ref f)=tG/\Binds K fd ps ds
structure Bt(mg:pG->Option pD):Prop where
 len:mg "len" = tF
 range:mg "range" = tF
 isi:mg "isinstance" = tF
 str:mg "str" = tF
 int:mg "int" = tF
 tuple:mg "tuple" = tF
 list:mg "list" = tF
 bool:mg "bool" = tF
 enum:mg "enumerate" = tF
 all:mg "all" = tF
 verr:mg "ValueError" = tF
 max:mg "max" = tF
 rev:mg "reversed" = tF
 zip:mg "zip" = tF
 sum:mg "sum" = tF
 sorted:mg "sorted" = tF
def cl0(D:Df X.prog X.w X.K X.mg X.base CX0 k x ps ds sp)(hr:Room j X.A)(hd:Vals dvs ds)(hg:Gl X x)(ha:PA X (e::es) t)(hdb:‹(x ==("__debug__" : pG))=tH›)(he:‹pq (e::es) X.env=(tH,eval e X.env)::pq es X.env›)(hpl:‹(pQ pos (pq es X.env)).any (·.1)=tH›)(hj:‹k<=j›):PE X (.Call (.Name x p) (e::es) [] pos) (qT sp dvs E0 t):=by let#[f,fd,F,hm,hk,hb]:=D.ex;exact VX F (hr.mono hj) hg hm hk hb hd YQ ha hdb he hpl
def clX(D:Df X.prog X.w X.K X.mg X.base (CXx X.prog X.w) k x ps ds sp)(hr:Room j X.A)(hd:Vals dvs ds)(hg:Gl X x)(ha:PA X.nox (e::es) t)(hdb:‹(x ==("__debug__" : pG))=tH›)(he:‹pq (e::es) X.env=(tH,eval e X.env)::pq es X.env›)(hpl:‹(pQ pos (pq es X.env)).any (·.1)=tH›)(hj:‹k<=j›):PEX X (.Call (.Name x p) (e::es) [] pos) (λσ H Q E=>t σ H λvs H1=>sp (vs ++ dvs) H1 Q E):=by let#[f,fd,F,hm,hk,hb]:=D.ex;exact JS F (hr.mono hj) hg hm hk hb hd ha hdb he hpl
def clP(hx:XE X E)(D:Df X.prog X.w X.K X.mg X.base (CXx X.prog X.w) k x ps ds sp)(hr:Room j X.A)(hd:Vals dvs ds)(hg:Gl X x)(ha:PA X (e::es) t)(hdb:‹(x ==("__debug__" : pG))=tH›)(he:‹pq (e::es) X.env=(tH,eval e X.env)::pq es X.env›)(hpl:‹(pQ pos (pq es X.env)).any (·.1)=tH›)(hj:‹k<=j›):PE X (.Call (.Name x p) (e::es) [] pos) (qT sp dvs E t):=by let#[f,fd,F,hm,hk,hb]:=D.ex;exact VX F (hr.mono hj) hg hm hk hb hd (WA hx) ha hdb he hpl
def zco(i:Nat)(hsu:∀e,PSs (Cx.suite X e) (b0::suite) ts)(hg:Gl X cn)(hm:X.mg cn=tE (.ref D))(hi:X.N[i]? = tE n)(hk:X.env.scope.names.lookup n=tE .local)(xc:ZN X.K D=tG)(r:Xg X hs ds)(hdb:‹(cn ==("__debug__" : pG))=tH›):Xg X (.ExceptHandler (tE (.Name cn np)) (tE n) (b0::suite) pos::hs) (#[D,i,ts]::ds) :=
 .cons #[#[cn,n,np,pos,b0,suite,rfl,hg,hm,hi,hk,hdb,hsu],xc] r
def TyX(K:pB)(H:Hp)(x:V)(t:pD):Prop:=Wn K H x t\/(∃a C dx fs,x=.ref a/\t=.ref C/\XAt H a C dx fs/\XI K C)\/(∃a xs,x=.ref a/\t=.type "list"/\SqL K H a xs)\/∃a xs,x=.ref a/\t=.type "tuple"/\SqT K H a xs
def zb9(K:pB):List V->Hp->VK->Prop:=λxs H Q=>∃x c u t b,xs=[x,c]/\cV c=tE u/\TyX K H x t/\aS K t u=tE b/\Q (.bl b) H
def zcK : vx X (.builtin "isinstance") (zb9 X.K):=by
 intros xs us Q I r h;let#[x,c,u,t,b,rfl,hc,ty,e,q]:=h;rcases ty with ty | ⟨a,C,dx,fs,rfl,rfl,ha,xi⟩ | ⟨a,ys,rfl,rfl,hq⟩ | ⟨a,ys,rfl,rfl,hq⟩
 ·exact Jz tI s σ H _ us Q I r #[x,c,u,t,b,rfl,hc,ty,e,q]
 ·exact QN tI s σ H _ us Q I r #[a,C,dx,fs,c,u,b,rfl,hc,ha,xi,e,q]
 all_goals
  let#[v,w',rfl,rx,rc]:=UW r
  have:w'=u:=by
   cases c with
   | ty n=>cases hc;exact rc
   | ref a=>cases hc;exact rc
   | _=>cases hc
  subst this;cases rx
 ·let#[its,_,p,_]:=I.list hq;let#[o,h1,h2,_]:=p.isList;exact bo eR I.kIn #[o,h1,h2] e (λz=>nomatch z) λtk=>#[.bl b,H,I.tok tk,rfl,q]
 ·let#[its,_,p,_]:=I.tuple hq;let#[o,h1,h2,_]:=p;exact bo gk I.kIn #[o,h1,h2] e (λz=>nomatch z) λtk=>#[.bl b,H,I.tok tk,rfl,q]
def K6(h1:Gl X "isinstance")(h2:X.mg "isinstance" = tF)(he:PE X e te)(hg:Gl X c)(hm:X.mg c=tE (.ref C))(hd:‹(c ==("__debug__" : pG))=tH›)(hs1:‹pq [e,.Name c q] X.env=(tH,eval e X.env)::pq [.Name c q] X.env›)(hs3:‹pq [.Name c q] X.env=(tH,eval (.Name c q) X.env)::pq [] X.env›)(hs2:‹(pQ pos (pq [.Name c q] X.env)).any (·.1)=tH›):PE X (.Call (.Name "isinstance" p) [e,.Name c q] [] pos) (tCB (zb9 X.K) (zI te (zI (tC (.ref C)) xp))) :=
 xa zcK h1 h2 boot_isinstance (za he (za (yT hg hm rfl hd) zd hs3) hs1) (he:=hs1) (hpl:=hs2)
def yN(h1:Gl X "isinstance")(h2:X.mg "isinstance" = tF)(he:PE X e te)(hg:Gl X c)(hm:X.mg c=tF)(hv:pZ c=tE (.type n))(hn:‹c≠"__name__"›)(hd:‹(c ==("__debug__" : pG))=tH›)(hs1:‹pq [e,.Name c q] X.env=(tH,eval e X.env)::pq [.Name c q] X.env›)(hs3:‹pq [.Name c q] X.env=(tH,eval (.Name c q) X.env)::pq [] X.env›)(hs2:‹(pQ pos (pq [.Name c q] X.env)).any (·.1)=tH›):PE X (.Call (.Name "isinstance" p) [e,.Name c q] [] pos) (tCB (zb9 X.K) (zI te (zI (tC (.ty n)) xp))) :=
 xa zcK h1 h2 boot_isinstance (za he (za (zbz hg hm hv rfl hn hd) zd hs3) hs1) (he:=hs1) (hpl:=hs2)
def zaf : cV (.ref a)=tE (.ref a):=rfl
def zcT : cV (.ty n)=tE (.type n):=rfl
def zfE{P w K mg base N q sc f cd A o s H}:(cxH P w K mg base N q sc f cd A o s H).K=K:=rfl
def XS:V->List V->Hp->VK->Prop:=λx xs H Q=>∃z y,x=.str z/\xs=[.str y]/\Q (.int (Txt.count z y)) H
def VG : MtR X "str.count" XS:=Kj
def Vg:V->List V->Hp->VK->Prop:=λx xs H Q=>∃z y,x=.str z/\xs=[.str y]/\Q (.int (Txt.find z y)) H
def K2 : MtR X "str.find" Vg:=zbg
def YZ(l:())(c:Nat):Txt.count (tx l) (tx [c])=(l.count c:Int):=by
 have h:∀l:(),cnt c l=(l.count c:Int):=λl=>by
  induction l with
  | nil=>rfl
  | cons n r ih =>
   rw[cnt_cons,ih,d9];by_cases e:n=c
   ·subst e;simp;lia
   ·have:(n == c)=tH:=by simpa using e
    simp [e,this]
 exact (PyProof.Rows.count_is (tx l) c).trans (h l)
def lt1 :([a]:()) < [b] ↔ a<b:=by rw[List.cons_lt_cons_iff];exact#[λh=>h.elim id λ⟨_,q⟩=>y9 q (List.not_lt_nil _),.inl]
def Uf{k v:Nat}(h:l[k]? = tE v):(v::(l.take k ++ l.drop (k+1))).Perm l:=by
 let#[hk,e]:=tL.mp h
 have e2:l.take k ++ (v::l.drop (k+1))=l:=by
  rw[<- e,<- aO hk,cF]
 exact (List.perm_middle.symm.trans (by rw[e2]))
def Vz(K:pB):List V->Hp->VK->Prop:=λxs H Q=>match xs with
 | [.str z]=>z.length<=pA/\Q (.int z.length) H
 | [.ref a]=>∃n:Nat,((∃xs,SqL K H a xs/\n=xs.length)\/∃xs,SqT K H a xs/\n=xs.length)/\Q (.int n) H
 | xs=>∃x n,xs=[x]/\zcJ K x H n/\Q (.int n) H
def rLen_is{K:pB}:Vz K xs H Q=∃x n,xs=[x]/\zcJ K x H n/\Q (.int n) H:=by
 unfold Vz;split
 ·exact propext #[λh=>#[_,_,rfl,#[h.1,rfl],h.2],λ⟨_,_,e,h,q⟩=>by cases e;let#[h,rfl]:=h;exact#[h,q]]
 ·exact propext #[λ⟨n,h,q⟩=>#[_,n,rfl,h,q],λ⟨_,n,e,h,q⟩=>by cases e;exact#[n,h,q]]
 ·rfl
def zfk : vx X (.builtin "len") (Vz X.K):=λtI s σ H xs us Q I r h=>JQ tI s σ H xs us Q I r (rLen_is.mp h)
def ForR(lo:Int)(n:Nat)(g:TG)(tb:TS)(D:ZH)(σ:St)(H:Hp):Prop:=∃W:Nat->Nat->St->Hp->Prop,(∃m,W 0 m σ H)/\∀i m σ H,W i m σ H ->
 ((Itr lo n).stop i H/\D.nx σ H)\/((Itr lo n).go i H/\∃N:St->Hp->Prop,(∀σ' H',N σ' H'->∃m',m'<m/\W (i+1) m' σ' H')/\∀x H',(Itr lo n).yld i H x H'->g x σ H' λσ2 H2=>tb { D with nx:=N,ct:=N,bk:=D.nx } σ2 H2)
def zdA : Jh (zbH ta) g tb D σ H=ta σ H λvs H1=>∃j:Int,vs=[.int j]/\-(2 ^ 62)<=j/\j<2 ^ 62/\ForR 0 j.toNat g tb D σ H1:=rfl
def zdY : Jh (zcV ta) g tb D σ H=ta σ H λvs H1=>∃i j:Int,vs=[.int i,.int j]/\(-(2 ^ 62)<=i/\i<2 ^ 62/\-(2 ^ 62)<=j/\j<2 ^ 62)/\ForR i (j - i).toNat g tb D σ H1:=rfl
def ForR.by{lo:Int}(Pv:Nat->St->Hp->Prop)(h0:Pv 0 σ H)(hs:∀i σ H,i<n->Pv i σ H->g (.int (lo+i)) σ H λσ2 H2=>tb { D with nx:=Pv (i+1),ct:=Pv (i+1),bk:=D.nx } σ2 H2)(hd:∀σ H,Pv n σ H->D.nx σ H):ForR lo n g tb D σ H:=Qe Pv h0 hs hd
def ForL(K:pB)(a:pC)(g:TG)(tb:TS)(D:ZH)(σ:St)(H:Hp):Prop:=∃W:Nat->Nat->St->Hp->Prop,(∃m,W 0 m σ H)/\∀i m σ H,W i m σ H ->
 ((Itl K a).stop i H/\D.nx σ H)\/((Itl K a).go i H/\∃N:St->Hp->Prop,(∀σ' H',N σ' H'->∃m',m'<m/\W (i+1) m' σ' H')/\∀x H',(Itl K a).yld i H x H'->g x σ H' λσ2 H2=>tb { D with nx:=N,ct:=N,bk:=D.nx } σ2 H2)
def zf3{K:pB}:Jh (zb8 K tl) g tb D σ H=tl σ H λx H1=>∃a,x=.ref a/\(∃xs,SqL K H1 a xs)/\ForL K a g tb D σ H1:=rfl
def ForS(x:pG)(g:TG)(tb:TS)(D:ZH)(σ:St)(H:Hp):Prop:=∃W:Nat->Nat->St->Hp->Prop,(∃m,W 0 m σ H)/\∀i m σ H,W i m σ H ->
 ((Its x).stop i H/\D.nx σ H)\/((Its x).go i H/\∃N:St->Hp->Prop,(∀σ' H',N σ' H'->∃m',m'<m/\W (i+1) m' σ' H')/\∀v H',(Its x).yld i H v H'->g v σ H' λσ2 H2=>tb { D with nx:=N,ct:=N,bk:=D.nx } σ2 H2)
def zf9 : Jh (zeE tl) g tb D σ H=tl σ H λv H1=>∃x,v=.str x/\ForS x g tb D σ H1:=rfl
def ForS.by(Pv:Nat->St->Hp->Prop)(h0:Pv 0 σ H)(hs:∀i c σ H,l[i]? = tE c->Pv i σ H->g ⇑[c] σ H λσ2 H2=>tb { D with nx:=Pv (i+1),ct:=Pv (i+1),bk:=D.nx } σ2 H2)(hd:∀σ H,Pv l.length σ H->D.nx σ H):ForS (tx l) g tb D σ H:=zcl Pv h0 hs hd
def zgI(x:pG)(g:TG)(tb:TS)(D:ZH)(σ:St)(H:Hp):Prop:=∃W:Nat->Nat->St->Hp->Prop,(∃m,W 0 m σ H)/\∀i m σ H,W i m σ H ->
 ((Ite x).stop i H/\D.nx σ H)\/((Ite x).go i H/\∃N:St->Hp->Prop,(∀σ' H',N σ' H'->∃m',m'<m/\W (i+1) m' σ' H')/\∀v H',(Ite x).yld i H v H'->g v σ H' λσ2 H2=>tb { D with nx:=N,ct:=N,bk:=D.nx } σ2 H2)
def zgi : Jh (zeM ta) g tb D σ H=ta σ H λvs H1=>∃x,vs=[.str x]/\zgI x g tb D σ H1:=rfl
def Yg(l:List α)(h:0<=k):cut l tF (tE k)=l.take k.toNat:=by
 let#[n,rfl]:=bC h;unfold cut;rw[HT.sIx_none,HT.sIx_nat,cM,Nat.sub_zero];by_cases q:n<=l.length
 ·rw[dC q];rfl
 ·rw[dX ⋯,aI,bj (by simp;lia)]
def qr(l:List α)(h:0<=k):cut l (tE k) tF=l.drop k.toNat:=by
 let#[n,rfl]:=bC h;unfold cut;rw[HT.sIx_none,HT.sIx_nat];by_cases q:n<=l.length
 ·rw[dC q];rw[bj (by rw[bh] <;> lia)];rfl
 ·rw[dX ⋯,eY,aZ (by simp;lia)];simp
def Z3(h0:0<=i)(h1:i<xs.length):∃v,atI xs i=tE v/\xs[i.toNat]? = tE v:=by let#[n,rfl]:=bC h0;have hn:n<xs.length:=⋯;exact#[xs[n],w8 (ah hn),ah hn]
def alpha:():=[97,98,99,100,101,102,103,104,105,106,107,108,109,110,111,112,113,114,115,116,117,118,119,120,121,122]
def Ur:(("abcdefghijklmnopqrstuvwxyz" : pG))=tx alpha:=by symm
def yb:(pA:Nat)=16777216:=pM
def cxK{CX P w K mg base N q sc f cd A o s H E}:(qy CX P w K mg base N q sc f cd A o s H E).K=K:=rfl
def cxP{CX P w K mg base N q sc f cd A o s H E}:(qy CX P w K mg base N q sc f cd A o s H E).prog=P:=rfl
def cxW{CX P w K mg base N q sc f cd A o s H E}:(qy CX P w K mg base N q sc f cd A o s H E).w=w:=rfl
def zes : JX (.int a) (.int b)=tG:=rfl
def zdd : JX (.str a) (.str b)=tG:=rfl
def zcN : JX (.bl a) (.bl b)=tG:=rfl
def zdw : JX .non (.str b)=tG:=rfl
def zeg : JX (.str b) .non=tG:=rfl
def zc(h:H p=tF):Same H (upd H p o):=λb u e=>by
 rw[zm (zD e h)];exact e
def zP{α:Type}{l:List α}{c:α}(h:l[i]? = tE c):l.take (i+1)=l.take i ++ [c]:=by rw[List.take_add_one,h];rfl
structure FunD(K:pB)(x qual:pG)(st:pN)(dV:pD)(f:pC)(fd:pT):Prop where
 ex:∃(oc:pD) (od:Option pC) (kV doc pm:pD) (an:Option pC) (cdv ct:pD) (osl:Array (Option pD)),
  fd=bv x qual (yQ st) (yn st) (zi st) dV kV doc pm an cdv ct/\K.lookup f=tE #[oc,od,.func fd,osl]/\bP K cdv qual=tG
def FunD.okX{K:pB}{st:pN}(F:FunD K x qual st dV f fd)(S:zo N ps (zi st))(len:∀vs H Q E,sp vs H Q E->vs.length=ps.length)(hbody:∀(cdv:pD) (A:rh) (outer:List tm) (s:pF) (H:Hp) (vs:List V) (Q:VK) (E:XK),Room k (A.deeper (rL qual (zi st) s⁻¹ f cdv))->XE (qy (CXx P w) P w K mg base N qual (zi st) f cdv A outer s H E) E->sp vs H Q E ->
   ∃t,PSs (qy (CXx P w) P w K mg base N qual (zi st) f cdv A outer s H E) (yn st) t/\t { nx:=λZ H'=>Q .non H',rt:=Q } (start N vs) H):FnOk P w K mg base (CXx P w) (k+1) f fd ps sp:=by let#[oc,od,kV,doc,pm,an,cdv,ct,osl,rfl,lk,hcd]:=F.ex;exact Jq lk hcd S len λA outer s H vs Q E hr hsp=>hbody cdv A outer s H vs Q E hr zdL hsp
def vU(C:pC)(f:pG):Sp:=λvs H Q Z=>∃x v,vs=[.ref x,v]/\H x=tE (XN x C tF)/\∀dx,H dx=tF->Q .non (upd (upd H dx (.xd [(f,v)])) x (XN x C (tE dx)))
def zfD(H:Hp)(d:pC)(f:pG)(v:V)(H':Hp):Prop:=H d=tF/\Same H H'/\H' d=tE (.xd [(f,v)])
def QE{E:XK}(h:∀d H',zfD H d f v H'->E (.ref C) (tE d) H'):∀x,H x=tF->vU C f [.ref x,v] (upd H x (XN x C tF)) (λu H2=>u=.non/\∃dx,H2 x=tE (XN x C dx)/\E (.ref C) dx (del H2 x)) E0:=by
 intro x hx;refine#[x,v,rfl,zb,λdx hd=>#[rfl,tE dx,zb,h dx _ #[?_,?_,?_]]]
 ·by_cases e:dx=x
  ·rw[e];exact hx
  ·rw[zm e]at hd;exact hd
 ·have hne:dx≠x:=λe=>by rw[e,zb]at hd;cases hd
  rw[zm hne]at hd;intro b o q;have b1:b≠x:=zD q hx;have b2:b≠dx:=zD q hd;rw[UU b1,zm b1,zm b2,zm b1];exact q
 ·have hne:dx≠x:=λe=>by rw[e,zb]at hd;cases hd
  rw[UU hne,zm hne,zb]
def zf5:R2:=λx y H Q=>match y with | .non=>Q (.bl (decide (x=.non))) H | _=>False
theorem op_isN':OpR X (pH .Is) zf5:=λtI s σ H x y v u Q I rx ry h=>by
 cases y with
 | non=>exact zdK tI s σ H x .non v u Q I rx ry #[rfl,h]
 | _=>exact h.elim
def zc6:R2:=λx y H Q=>match y with | .non=>Q (.bl (!decide (x=.non))) H | _=>False
theorem op_notN':OpR X (pH .IsNot) zc6:=λtI s σ H x y v u Q I rx ry h=>by
 cases y with
 | non=>exact zbR tI s σ H x .non v u Q I rx ry #[rfl,h]
 | _=>exact h.elim
def Q7:List V->Hp->VK->Prop:=λxs H Q=>match xs with | [.int i,.int j]=>Q (.int (if j > i then j else i)) H | _=>False
def U3(hc:X.calm=tG):vx X (.builtin "max") Q7:=λtI s σ H xs us Q I r h=>by
 unfold Q7 at h;split at h
 ·exact VM hc tI s σ H _ us Q I r #[_,_,rfl,h]
 ·exact h.elim
def rGe:R2:=λx y H Q=>onInt x λi=>onInt y λj=>Q (.bl (decide (j<=i))) H
def op_ge':OpR X (pH .GtE) rGe:=zfp
def qv:pZ "max" = tE (.builtin "max"):=by symm
def zbs(ls l:())(m:Int)(k:Nat):Prop:=∃c,l[k]? = tE c/\(m<=k\/c ∉ ls)
def FB(ls l:())(m:Int)(k:Nat):Prop:=zbs ls l m k/\∀j<k,¬ zbs ls l m j
def NB(ls l:())(m:Int):Prop:=∀j,¬ zbs ls l m j
def FB.nb(h:FB ls l m k)(n:NB ls l m):False:=n k h.1
inductive D where
 | non | bl (b:Bool) | int (i:Int) | str (x:pG) | lst (l:List D) | tup (l:List D)
end
mutual
def Is(K:pB)(H:Hp):D->V->Prop
 | .non,v=>v=.non
 | .bl b,v=>v=.bl b
 | .int i,v=>v=.int i
 | .str x,v=>v=.str x
 | .lst l,v=>∃a xs,v=.ref a/\SqL K H a xs/\Iss K H l xs
 | .tup l,v=>∃a xs,v=.ref a/\SqT K H a xs/\Iss K H l xs
def Iss(K:pB)(H:Hp):List D->List V->Prop
 | [],vs=>vs=[]
 | d::l,vs=>∃v r,vs=v::r/\Is K H d v/\Iss K H l r
end
mutual
noncomputable def eqD:D->D->Bool
 | .non,e=>match e with | .non=>tG | _=>tH
 | .bl a,e=>match e with | .bl b=>a == b | .int b=>(if a then 1 else 0) == b | _=>tH
 | .int a,e=>match e with | .bl b=>a ==(if b then 1 else 0) | .int b=>a == b | _=>tH
 | .str a,e=>match e with | .str b=>a == b | _=>tH
 | .lst l,e=>match e with | .lst m=>vT l m | _=>tH
 | .tup l,e=>match e with | .tup m=>vT l m | _=>tH
noncomputable def vT:List D->List D->Bool
 | [],m=>match m with | []=>tG | _::_=>tH
 | d::l,m=>match m with | e::m=>eqD d e && vT l m | []=>tH
end
mutual
noncomputable def dpD:D->Nat
 | .lst l=>vw l+1
 | .tup l=>vw l+1
 | _=>0
noncomputable def vw:List D->Nat
 | []=>0
 | d::l=>max (dpD d) (vw l)
end
theorem za9:∀{l:List D} {j:Nat} {d:D},l[j]? = tE d->dpD d<=vw l
 | d::l,0,_,h=>by
  cases h
  erw[vw]
  lia
 | d::l,j+1,e,h=>by
  have:=za9 (l:=l) (j:=j) (d:=e) h
  erw[vw]
  lia
mutual
theorem uf:∀d:D,eqD d d=tG
 | .non=>rfl
 | .bl b=>by simp [eqD]
 | .int i=>by simp [eqD]
 | .str x=>by simp [eqD]
 | .lst l=>by erw[eqD];exact xI l
 | .tup l=>by erw[eqD];exact xI l
theorem xI:∀l:List D,vT l l=tG
 | []=>rfl
 | d::l=>by erw[vT,uf d,xI l,Bool.and_self]
end
theorem Iss.len{K:pB}:∀{l:List D} {vs:List V},Iss K H l vs->vs.length=l.length
 | [],vs,h=>by erw[Iss]at h;rw[h];rfl
 | d::l,vs,h=>by
  erw[Iss]at h
  let#[v,r,rfl,_,h2]:=h
  erw[aJ,Iss.len h2]
theorem Iss.at{K:pB}:∀{l:List D} {vs:List V} {j:Nat} {d:D},Iss K H l vs->l[j]? = tE d->∃v,vs[j]? = tE v/\Is K H d v
 | d::l,vs,0,_,h,q=>by
  cases q
  erw[Iss]at h
  let#[v,r,rfl,h1,_]:=h;exact#[v,rfl,h1]
 | d::l,vs,j+1,e,h,q=>by
  erw[Iss]at h
  let#[v,r,rfl,_,h2]:=h;exact Iss.at (j:=j) h2 q
theorem Iss.append{K:pB}:∀{l m:List D} {vs us:List V},Iss K H l vs->Iss K H m us->Iss K H (l ++ m) (vs ++ us)
 | [],m,vs,us,h,g=>by erw[Iss]at h;rw[h];exact g
 | d::l,m,vs,us,h,g=>by
  erw[Iss]at h
  let#[v,r,rfl,h1,h2]:=h
  erw[bw,Iss]
  exact#[v,r ++ us,rfl,h1,Iss.append h2 g]
theorem Iss.ints{K:pB}:∀(l:List Int),Iss K H (l.map D.int) (l.map V.int)
 | []=>by erw[aA,Iss]
 | i::l=>by
  erw[ak,Iss,Is]
  exact#[_,_,rfl,rfl,Iss.ints l]
def zl{K:pB}(e:Same H H')(h:SqT K H a xs):SqT K H' a xs:=by
 rcases h with (h | ⟨o,h⟩) | h
 ·exact .inl (.inl (e _ _ h))
 ·exact .inl (.inr #[o,e _ _ h])
 ·exact .inr h
mutual
theorem Is.same{K:pB}{H H':Hp}(e:Same H H'):∀(d:D) (v:V),Is K H d v->Is K H' d v
 | .non,v,h=>by erw[Is]at h ⊢;exact h
 | .bl b,v,h=>by erw[Is]at h ⊢;exact h
 | .int b,v,h=>by erw[Is]at h ⊢;exact h
 | .str b,v,h=>by erw[Is]at h ⊢;exact h
 | .lst l,v,h=>by
  erw[Is]at h ⊢
  let#[a,xs,e1,e2,e3]:=h;exact#[a,xs,e1,e.seq e2,Iss.same e l xs e3]
 | .tup l,v,h=>by
  erw[Is]at h ⊢
  let#[a,xs,e1,e2,e3]:=h;exact#[a,xs,e1,zl e e2,Iss.same e l xs e3]
theorem Iss.same{K:pB}{H H':Hp}(e:Same H H'):∀(l:List D) (vs:List V),Iss K H l vs->Iss K H' l vs
 | [],vs,h=>by erw[Iss]at h ⊢;exact h
 | d::l,vs,h=>by
  erw[Iss]at h ⊢
  let#[v,r,e1,e2,e3]:=h;exact#[v,r,e1,Is.same e d v e2,Iss.same e l r e3]
end
theorem xW:∀(l m:List D),vT l m=((aN (min l.length m.length)).all (λj=>eqD (l.getD j .non) (m.getD j .non)) && l.length == m.length)
 | [],[]=>rfl
 | [],e::m=>by simp [vT]
 | d::l,[]=>by simp [vT]
 | d::l,e::m=>by
  erw[vT,xW l m,aJ]
  have h1:min (l.length+1) (m.length+1)=min l.length m.length+1:=⋯;rw[h1,cX,fZ,List.all_map]
  have h2:(l.length+1 == m.length+1)=(l.length == m.length):=by
   rw[cQ,beq_iff_eq,beq_iff_eq];lia
  rw[h2]
  erw[List.getD_cons_zero,Bool.and_assoc]
  rfl
section
variable{X:Cx}{tI:List (pC × rH)}{σ:St}{H:Hp}{s:pF}
def Ys(I:Inv X tI σ H s)(h:SqL X.K H a xs)(g:SqT X.K H a ys):False:=by let#[its,r,#[o,n,e,c,_,d],_]:=I.list h;let#[its',r',#[o',e',c',n',d'],_]:=I.tuple g;rw[e]at e';cases e';rw[c]at c';exact y9 (Value.type.inj c') ∅
mutual
theorem Qb(I:Inv X tI σ H s):∀(d e:D) (v:V),Is X.K H d v->Is X.K H e v->d=e
 | .lst l,.lst m,v,h,g=>by
  erw[Is]at h g
  let#[a,xs,rfl,h1,h2]:=h;let#[b,ys,e,g1,g2]:=g;cases e;have:=I.list_inj h1 g1;subst this;rw[YT I l m xs h2 g2]
 | .tup l,.tup m,v,h,g=>by
  erw[Is]at h g
  let#[a,xs,rfl,h1,h2]:=h;let#[b,ys,e,g1,g2]:=g;cases e;have:=I.tuple_inj h1 g1;subst this;rw[YT I l m xs h2 g2]
 | .lst l,.tup m,v,h,g=>by
  erw[Is]at h g
  let#[a,xs,rfl,h1,h2]:=h;let#[b,ys,e,g1,g2]:=g;cases e;exact (Ys I h1 g1).elim
 | .tup l,.lst m,v,h,g=>by
  erw[Is]at h g
  let#[a,xs,rfl,h1,h2]:=h;let#[b,ys,e,g1,g2]:=g;cases e;exact (Ys I g1 h1).elim
 | .lst l,.non,v,h,g=>by erw[Is]at h g;let#[a,xs,rfl,_]:=h;cases g
 | .lst l,.bl _,v,h,g=>by erw[Is]at h g;let#[a,xs,rfl,_]:=h;cases g
 | .lst l,.int _,v,h,g=>by erw[Is]at h g;let#[a,xs,rfl,_]:=h;cases g
 | .lst l,.str _,v,h,g=>by erw[Is]at h g;let#[a,xs,rfl,_]:=h;cases g
 | .tup l,.non,v,h,g=>by erw[Is]at h g;let#[a,xs,rfl,_]:=h;cases g
 | .tup l,.bl _,v,h,g=>by erw[Is]at h g;let#[a,xs,rfl,_]:=h;cases g
 | .tup l,.int _,v,h,g=>by erw[Is]at h g;let#[a,xs,rfl,_]:=h;cases g
 | .tup l,.str _,v,h,g=>by erw[Is]at h g;let#[a,xs,rfl,_]:=h;cases g
 | .non,e,v,h,g=>by
  erw[Is]at h
  subst h;cases e <;> erw[Is]at g
  all_goals first | rfl | (let#[a,xs,q,_]:=g;cases q) | cases g
 | .bl _,e,v,h,g=>by
  erw[Is]at h
  subst h;cases e <;> erw[Is]at g
  all_goals first | (cases g;rfl) | (let#[a,xs,q,_]:=g;cases q) | cases g
 | .int _,e,v,h,g=>by
  erw[Is]at h
  subst h;cases e <;> erw[Is]at g
  all_goals first | (cases g;rfl) | (let#[a,xs,q,_]:=g;cases q) | cases g
 | .str _,e,v,h,g=>by
  erw[Is]at h
  subst h;cases e <;> erw[Is]at g
  all_goals first | (cases g;rfl) | (let#[a,xs,q,_]:=g;cases q) | cases g
theorem YT(I:Inv X tI σ H s):∀(l m:List D) (vs:List V),Iss X.K H l vs->Iss X.K H m vs->l=m
 | [],[],_,_,_=>rfl
 | [],e::m,vs,h,g=>by
  erw[Iss]at h g
  subst h;let#[_,_,q,_]:=g;cases q
 | d::l,[],vs,h,g=>by
  erw[Iss]at h g
  subst g;let#[_,_,q,_]:=h;cases q
 | d::l,e::m,vs,h,g=>by
  erw[Iss]at h g
  let#[v,r,rfl,h1,h2]:=h;let#[v',r',q,g1,g2]:=g;cases q;rw[Qb I d e v h1 g1,YT I l m r h2 g2]
end
theorem xX:∀{xs:List V} {us:List pD} {j:Nat} {x:V},Vals xs us->xs[j]? = tE x->∃u,us[j]? = tE u/\RelV x u
 | _,_,0,_,.cons r t,h=>by cases h;exact#[_,rfl,r]
 | _,_,j+1,_,.cons r t,h=>xX (j:=j) t h
theorem xN(hl:Iss X.K H l xs)(hm:Iss X.K H m ys)(r:Vals xs its)(r':Vals ys its')(hn:vw l<n)(ih:∀(d e:D) (x y:V) (u v:pD),dpD d<n->Is X.K H d x->Is X.K H e y->RelV x u->RelV y v->SeqAt.EqAt A s u v (eqD d e)) :
  ∀j (h1:j<its.toArray.size) (h2:j<its'.toArray.size),SeqAt.EqAt A s its.toArray[j] its'.toArray[j] (eqD (l.getD j .non) (m.getD j .non)):=by
 intro j h1 h2;rw[al]at h1 h2;have e1:=hl.len;have e2:=hm.len;have e3:=r.length;have e4:=r'.length;have g1:l[j]? = tE l[j]:=ah ⋯;have g2:m[j]? = tE m[j]:=ah ⋯;generalize l[j]=d at g1;generalize m[j]=e at g2;let#[x,hx,ix]:=hl.at g1;let#[y,hy,iy]:=hm.at g2;let#[u,hu,ru]:=xX r hx;let#[v,hv,rv]:=xX r' hy
 have q1:its.toArray[j]=u:=by
  have:=(tL.mp hu).2;simpa using this
 have q2:its'.toArray[j]=v:=by
  have:=(tL.mp hv).2;simpa using this
 rw[q1,q2,ae,ae,g1,g2];exact ih d e x y u v (bn (za9 g1) hn) ix iy ru rv
theorem qM(I:Inv X tI σ H s):∀(n:Nat) (A:rh) (d e:D) (x y:V) (u v:pD),A.units+n<cLine->dpD d<n->Is X.K H d x->Is X.K H e y->RelV x u->RelV y v->SeqAt.EqAt A s u v (eqD d e):=by
 intro n
 induction n with
 | zero=>intro A d e x y u v _ h;exact y9 h (bR _)
 | succ n ih =>
  intro A d e x y u v hu hd hx hy rx ry;have hu1:A.units<cLine:=⋯;have huA:A.in1.units+n<cLine:=by show A.units+1+n<cLine;lia
  cases d with
  | lst l =>
   erw[Is]at hx
   let#[a,xs,rfl,h1,h2]:=hx;cases rx;let#[its,r,p,_]:=I.list h1
   cases e with
   | non=>erw[Is]at hy;subst hy;cases ry;exact SeqAt.EqAt.list_none p.isList hu1
   | bl b=>erw[Is]at hy;subst hy;cases ry;exact SeqAt.EqAt.list_bool b p.isList hu1
   | int b=>erw[Is]at hy;subst hy;let#[t,rfl]:=ry;exact SeqAt.EqAt.list_int b t p.isList hu1
   | str b=>erw[Is]at hy;subst hy;let#[t,rfl]:=ry;exact SeqAt.EqAt.list_str b t p.isList hu1
   | tup m =>
    erw[Is]at hy
    let#[b,ys,rfl,g1,g2]:=hy;cases ry;let#[its',r',p',_]:=I.tuple g1;exact SeqAt.EqAt.list_tuple p.isList p' hu1
   | lst m =>
    have hy':=hy
    erw[Is]at hy
    let#[b,ys,rfl,g1,g2]:=hy;cases ry;let#[its',r',p',_]:=I.list g1
    erw[dpD]at hd
    by_cases hab:a=b
    ·subst hab;have:=Qb I (.lst l) (.lst m) (.ref a) (by erw[Is];exact#[a,xs,rfl,h1,h2]) hy';rw[this,uf];exact SeqAt.EqAt.same _
    ·refine .of_refs hab ?_
     erw[eqD]
     have L1:=h2.len;have L2:=g2.len;have L3:=r.length;have L4:=r'.length;by_cases hl:l.length=m.length
     ·have:=SeqAt.RcAt.lists (A:=A) p.isList p'.isList (by erw[al];lia) hu1 (xN h2 g2 r r' (n:=n) ⋯ λd e x y u v q1 q2 q3 q4 q5=>ih A.in1 d e x y u v huA q1 q2 q3 q4 q5);rw[xW,hl,eZ,beq_self_eq_true,gb];have e1:its.toArray.size=m.length:=by erw[al];lia
      rw[e1]at this;exact this
     ·rw[xW,beq_eq_false_iff_ne.mpr hl,eI];exact SeqAt.RcAt.lists_lengths p.isList p'.isList (by rw[bne_iff_ne];erw[al];lia) hu1
  | tup l =>
   erw[Is]at hx
   let#[a,xs,rfl,h1,h2]:=hx;cases rx;let#[its,r,p,_]:=I.tuple h1
   cases e with
   | non=>erw[Is]at hy;subst hy;cases ry;exact SeqAt.EqAt.tuple_none p hu1
   | bl b=>erw[Is]at hy;subst hy;cases ry;exact SeqAt.EqAt.tuple_bool b p hu1
   | int b=>erw[Is]at hy;subst hy;let#[t,rfl]:=ry;exact SeqAt.EqAt.tuple_int b t p hu1
   | str b=>erw[Is]at hy;subst hy;let#[t,rfl]:=ry;exact SeqAt.EqAt.tuple_str b t p hu1
   | lst m =>
    erw[Is]at hy
    let#[b,ys,rfl,g1,g2]:=hy;cases ry;let#[its',r',p',_]:=I.list g1;exact SeqAt.EqAt.tuple_list p p'.isList hu1
   | tup m =>
    have hy':=hy
    erw[Is]at hy
    let#[b,ys,rfl,g1,g2]:=hy;cases ry;let#[its',r',p',_]:=I.tuple g1
    erw[dpD]at hd
    by_cases hab:a=b
    ·subst hab;have:=Qb I (.tup l) (.tup m) (.ref a) (by erw[Is];exact#[a,xs,rfl,h1,h2]) hy';rw[this,uf];exact SeqAt.EqAt.same _
    ·refine .of_refs hab ?_
     erw[eqD]
     have L1:=h2.len;have L2:=g2.len;have L3:=r.length;have L4:=r'.length;have:=SeqAt.RcAt.tuples (A:=A) p p' hu1 (xN h2 g2 r r' (n:=n) ⋯ λd e x y u v q1 q2 q3 q4 q5=>ih A.in1 d e x y u v huA q1 q2 q3 q4 q5);rw[xW]
     erw[al]at this
     rw[<- L1,<- L2,L3,L4];exact this
  | non =>
   erw[Is]at hx
   subst hx
   cases e with
   | lst m =>
    erw[Is]at hy
    let#[b,ys,rfl,g1,g2]:=hy;cases rx;cases ry;let#[its',r',p',_]:=I.list g1;exact SeqAt.EqAt.none_list p'.isList hu1
   | tup m =>
    erw[Is]at hy
    let#[b,ys,rfl,g1,g2]:=hy;cases rx;cases ry;let#[its',r',p',_]:=I.tuple g1;exact SeqAt.EqAt.none_tuple p' hu1
   | _=>erw[Is]at hy;subst hy;exact Wx rx ry rfl rfl
  | bl c =>
   erw[Is]at hx
   subst hx
   cases e with
   | lst m =>
    erw[Is]at hy
    let#[b,ys,rfl,g1,g2]:=hy;cases rx;cases ry;let#[its',r',p',_]:=I.list g1;exact SeqAt.EqAt.bool_list _ p'.isList hu1
   | tup m =>
    erw[Is]at hy
    let#[b,ys,rfl,g1,g2]:=hy;cases rx;cases ry;let#[its',r',p',_]:=I.tuple g1;exact SeqAt.EqAt.bool_tuple _ p' hu1
   | _=>erw[Is]at hy;subst hy;exact Wx rx ry rfl rfl
  | int c =>
   erw[Is]at hx
   subst hx
   cases e with
   | lst m =>
    erw[Is]at hy
    let#[b,ys,rfl,g1,g2]:=hy;let#[t,rfl]:=rx;cases ry;let#[its',r',p',_]:=I.list g1;exact SeqAt.EqAt.int_list _ _ p'.isList hu1
   | tup m =>
    erw[Is]at hy
    let#[b,ys,rfl,g1,g2]:=hy;let#[t,rfl]:=rx;cases ry;let#[its',r',p',_]:=I.tuple g1;exact SeqAt.EqAt.int_tuple _ _ p' hu1
   | _=>erw[Is]at hy;subst hy;exact Wx rx ry rfl rfl
  | str c =>
   erw[Is]at hx
   subst hx
   cases e with
   | lst m =>
    erw[Is]at hy
    let#[b,ys,rfl,g1,g2]:=hy;let#[t,rfl]:=rx;cases ry;let#[its',r',p',_]:=I.list g1;exact SeqAt.EqAt.str_list _ _ p'.isList hu1
   | tup m =>
    erw[Is]at hy
    let#[b,ys,rfl,g1,g2]:=hy;let#[t,rfl]:=rx;cases ry;let#[its',r',p',_]:=I.tuple g1;exact SeqAt.EqAt.str_tuple _ _ p' hu1
   | _=>erw[Is]at hy;subst hy;exact Wx rx ry rfl rfl
def zgf(K:pB):R2:=λx y H Q=>∃l m,((Is K H (.lst l) x/\Is K H (.lst m) y)\/(Is K H (.tup l) x/\Is K H (.tup m) y))/\vw l<50/\Q (.bl (vT l m)) H
def zfW(K:pB):R2:=λx y H Q=>∃l m,((Is K H (.lst l) x/\Is K H (.lst m) y)\/(Is K H (.tup l) x/\Is K H (.tup m) y))/\vw l<50/\Q (.bl (!vT l m)) H
theorem X7(hu:X.A.units+100<cLine):OpR X (pH .Eq) (zgf X.K):=by
 intros x y v u Q I rx ry h;let#[l,m,hh,hd,q]:=h;have hu1:X.A.units<cLine:=⋯;have huA:X.A.in1.units+50<cLine:=by show X.A.units+1+50<cLine;lia
 rcases hh with ⟨hx,hy⟩ | ⟨hx,hy⟩
 ·erw[Is]at hx hy
  let#[a,xs,rfl,h1,h2]:=hx;let#[b,ys,rfl,g1,g2]:=hy;cases rx;cases ry;let#[its,r,p,_]:=I.list h1;let#[its',r',p',_]:=I.list g1;have L1:=h2.len;have L2:=g2.len;have L3:=r.length;have L4:=r'.length;by_cases hl:l.length=m.length
  ·have:=SeqAt.RcAt.lists (A:=X.A) p.isList p'.isList (by erw[al];lia) hu1 (xN h2 g2 r r' (n:=50) hd λd e x y u v q1 q2 q3 q4 q5=>qM I 50 X.A.in1 d e x y u v huA q1 q2 q3 q4 q5);have e1:its.toArray.size=m.length:=by erw[al];lia
   rw[e1]at this;rw[xW,hl,eZ,beq_self_eq_true,gb]at q;exact this X.prog X.w X.xe _ #[.bl _,H,I,rfl,q]
  ·rw[xW,beq_eq_false_iff_ne.mpr hl,eI]at q;exact SeqAt.RcAt.lists_lengths p.isList p'.isList (by rw[bne_iff_ne];erw[al];lia) hu1 X.prog X.w X.xe _ #[.bl _,H,I,rfl,q]
 ·erw[Is]at hx hy
  let#[a,xs,rfl,h1,h2]:=hx;let#[b,ys,rfl,g1,g2]:=hy;cases rx;cases ry;let#[its,r,p,_]:=I.tuple h1;let#[its',r',p',_]:=I.tuple g1;have L1:=h2.len;have L2:=g2.len;have L3:=r.length;have L4:=r'.length;have:=SeqAt.RcAt.tuples (A:=X.A) p p' hu1 (xN h2 g2 r r' (n:=50) hd λd e x y u v q1 q2 q3 q4 q5=>qM I 50 X.A.in1 d e x y u v huA q1 q2 q3 q4 q5)
  erw[al]at this
  rw[xW,<- L1,<- L2,L3,L4]at q;exact this X.prog X.w X.xe _ #[.bl _,H,I,rfl,q]
theorem zcX(hu:X.A.units+100<cLine):OpR X (pH .NotEq) (zfW X.K):=by
 intros x y v u Q I rx ry h;let#[l,m,hh,hd,q]:=h;have hu1:X.A.units<cLine:=⋯;have huA:X.A.in1.units+50<cLine:=by show X.A.units+1+50<cLine;lia
 rcases hh with ⟨hx,hy⟩ | ⟨hx,hy⟩
 ·erw[Is]at hx hy
  let#[a,xs,rfl,h1,h2]:=hx;let#[b,ys,rfl,g1,g2]:=hy;cases rx;cases ry;let#[its,r,p,_]:=I.list h1;let#[its',r',p',_]:=I.list g1;have L1:=h2.len;have L2:=g2.len;have L3:=r.length;have L4:=r'.length;by_cases hl:l.length=m.length
  ·have:=SeqAt.RcNeAt.lists (A:=X.A) p.isList p'.isList (by erw[al];lia) hu1 (xN h2 g2 r r' (n:=50) hd λd e x y u v q1 q2 q3 q4 q5=>qM I 50 X.A.in1 d e x y u v huA q1 q2 q3 q4 q5);have e1:its.toArray.size=m.length:=by erw[al];lia
   rw[e1]at this;rw[xW,hl,eZ,beq_self_eq_true,gb]at q;exact this X.prog X.w X.xe _ #[.bl _,H,I,rfl,q]
  ·rw[xW,beq_eq_false_iff_ne.mpr hl,eI]at q;exact SeqAt.RcNeAt.lists_lengths p.isList p'.isList (by rw[bne_iff_ne];erw[al];lia) hu1 X.prog X.w X.xe _ #[.bl _,H,I,rfl,q]
 ·erw[Is]at hx hy
  let#[a,xs,rfl,h1,h2]:=hx;let#[b,ys,rfl,g1,g2]:=hy;cases rx;cases ry;let#[its,r,p,_]:=I.tuple h1;let#[its',r',p',_]:=I.tuple g1;have L1:=h2.len;have L2:=g2.len;have L3:=r.length;have L4:=r'.length;have:=SeqAt.RcNeAt.tuples (A:=X.A) p p' hu1 (xN h2 g2 r r' (n:=50) hd λd e x y u v q1 q2 q3 q4 q5=>qM I 50 X.A.in1 d e x y u v huA q1 q2 q3 q4 q5)
  erw[al]at this
  rw[xW,<- L1,<- L2,L3,L4]at q;exact this X.prog X.w X.xe _ #[.bl _,H,I,rfl,q]
end
theorem jD(l m:List Int):vT (l.map D.int) (m.map D.int)=decide (l=m):=by
 induction l generalizing m with
 | nil=>cases m <;> simp [vT]
 | cons a l ih =>
  cases m with
  | nil=>simp [vT]
  | cons b m =>
   erw[ak,vT,eqD,ih m]
   by_cases h1:a=b
   ·subst h1;by_cases h2:l=m
    ·simp [h2]
    ·simp [h2]
   ·simp [h1]
theorem Zu(l:List Int):vw (l.map D.int)=0:=by
 induction l with
 | nil=>rfl
 | cons a l ih=>erw[ak,vw,dpD,ih];rfl
abbrev CNx(n i:Nat)(Pv:Nat->List V->Hp->Prop)(tK:List V)(H:Hp):Prop:=∃m',m'<n - i/\(m'=n - (i+1)/\i+1<=n/\Pv (i+1) tK H)
def CNx.mk(hi:i<n)(h:Pv (i+1) tK H):CNx n i Pv tK H:=#[n - (i+1),⋯,rfl,hi,h]
def Vl(J:It)(g:TG)(tt:TT)(te:TE)(own:Nat)(ix:())(σ:St)(H1:Hp)(Q:VK)(D:pC):Prop:=∃W:Nat->Nat->List V->Hp->Prop,(∃m,W 0 m [] (upd H1 D (.lst []))) /\
 ∀i m tK H',W i m tK H'->(J.stop i H'/\Q (.ref D) H')\/(J.go i H'/\∀x H2,J.yld i H' x H2->g x (wX σ own ix) H2 λσ3 H3=>xm (wX σ own ix) σ3/\tt σ3 H3 λb H4=>if b=tG then
  te σ3 H4 λv H5=>H5 D=tE (.lst tK)/\tK.length<pA/\∃m',m'<m/\W (i+1) m' (tK ++ [v]) (upd H5 D (.lst (tK ++ [v])))
  else ∃m',m'<m/\W (i+1) m' tK H4)
def CompR(lo:Int)(n:Nat)(g:TG)(tt:TT)(te:TE)(own:Nat)(ix:())(σ:St)(H1:Hp)(Q:VK)(D:pC):Prop:=Vl (Itr lo n) g tt te own ix σ H1 Q D
def CompL(K:pB)(a:pC)(g:TG)(tt:TT)(te:TE)(own:Nat)(ix:())(σ:St)(H1:Hp)(Q:VK)(D:pC):Prop:=Vl (Itl K a) g tt te own ix σ H1 Q D
def CompS(x:pG)(g:TG)(tt:TT)(te:TE)(own:Nat)(ix:())(σ:St)(H1:Hp)(Q:VK)(D:pC):Prop:=Vl (Its x) g tt te own ix σ H1 Q D
def zav : qP (zbH ta) g tt te own ix σ H Q=ta σ H λvs H1=>∃j:Int,vs=[.int j]/\-(2 ^ 62)<=j/\j<2 ^ 62/\∀D,H1 D=tF->CompR 0 j.toNat g tt te own ix σ H1 Q D:=rfl
def zcO{K:pB}:qP (zb8 K tl) g tt te own ix σ H Q=tl σ H λx H1=>∃a,x=.ref a/\(∃xs,SqL K H1 a xs)/\∀D,H1 D=tF->CompL K a g tt te own ix σ H1 Q D:=rfl
def zcG : qP (zeE tl) g tt te own ix σ H Q=tl σ H λv H1=>∃x,v=.str x/\∀D,H1 D=tF->CompS x g tt te own ix σ H1 Q D:=rfl
section
variable{g:TG}{tt:TT}{te:TE}{own:Nat}{ix:()}{σ:St}{H1:Hp}{Q:VK}{D:pC}
theorem CompR.by{lo:Int}(Pv:Nat->List V->Hp->Prop)(h0:Pv 0 [] (upd H1 D (.lst [])))(hs:∀i tK H',i<n->Pv i tK H'->g (.int (lo+i)) (wX σ own ix) H' λσ3 H3=>xm (wX σ own ix) σ3/\tt σ3 H3 λb H4=>if b=tG then
   te σ3 H4 λv H5=>H5 D=tE (.lst tK)/\tK.length<pA/\CNx n i Pv (tK ++ [v]) (upd H5 D (.lst (tK ++ [v])))else CNx n i Pv tK H4) (hd:∀tK H',Pv n tK H'->Q (.ref D) H'):CompR lo n g tt te own ix σ H1 Q D:=by
 refine#[λi m tK H=>m=n - i/\i<=n/\Pv i tK H,#[n,by simp,aw _,h0],?_];rintro i m tK H' ⟨rfl,hi,p⟩;by_cases hlt:i<n
 ·refine .inr #[hlt,λx H2 y=>?_];let#[e,y]:=y;subst e y;exact hs i tK _ hlt p
 ·have e:i=n:=⋯;subst e;exact .inl #[am _,hd tK H' p]
theorem CompL.by{K:pB}(Pv:Nat->List V->Hp->Prop)(h0:Pv 0 [] (upd H1 D (.lst [])))(hl:∀i tK H',i<=xs.length->Pv i tK H'->SqL K H' a xs)(hs:∀i x tK H',xs[i]? = tE x->Pv i tK H'->g x (wX σ own ix) H' λσ3 H3=>xm (wX σ own ix) σ3/\tt σ3 H3 λb H4=>if b=tG then
   te σ3 H4 λv H5=>H5 D=tE (.lst tK)/\tK.length<pA/\CNx xs.length i Pv (tK ++ [v]) (upd H5 D (.lst (tK ++ [v])))else CNx xs.length i Pv tK H4) (hd:∀tK H',Pv xs.length tK H'->Q (.ref D) H'):CompL K a g tt te own ix σ H1 Q D:=by
 refine#[λi m tK H=>m=xs.length - i/\i<=xs.length/\Pv i tK H,#[xs.length,by simp,aw _,h0],?_];rintro i m tK H' ⟨rfl,hi,p⟩;have q:=hl i tK H' hi p;by_cases hlt:i<xs.length
 ·refine .inr #[#[xs,xs[i],q,by simp [hlt]],λx H2 y=>?_];let#[e,y]:=y;subst e;exact hs i x tK _ (y xs q) p
 ·have e:i=xs.length:=⋯;subst e;exact .inl #[#[xs,q,am _],hd tK H' p]
theorem CompS.by(Pv:Nat->List V->Hp->Prop)(h0:Pv 0 [] (upd H1 D (.lst [])))(hs:∀i c tK H',l[i]? = tE c->Pv i tK H'->g ⇑[c] (wX σ own ix) H' λσ3 H3=>xm (wX σ own ix) σ3/\tt σ3 H3 λb H4=>if b=tG then
   te σ3 H4 λv H5=>H5 D=tE (.lst tK)/\tK.length<pA/\CNx l.length i Pv (tK ++ [v]) (upd H5 D (.lst (tK ++ [v])))else CNx l.length i Pv tK H4) (hd:∀tK H',Pv l.length tK H'->Q (.ref D) H'):CompS (tx l) g tt te own ix σ H1 Q D:=by
 refine#[λi m tK H=>m=l.length - i/\i<=l.length/\Pv i tK H,#[l.length,by simp,aw _,h0],?_];rintro i m tK H' ⟨rfl,hi,p⟩;by_cases hlt:i<l.length
 ·refine .inr #[hlt,λv H2 y=>?_];let#[e,c,hc,ev]:=y;subst e ev;exact hs i c tK _ hc p
 ·have e:i=l.length:=⋯;subst e;exact .inl #[rfl,hd tK H' p]
end
mutual section
theorem yJ : xm (tF::r) (tE x::r):=#[rfl,λi v h=>by
 cases i with
 | zero=>cases h
 | succ i=>exact h]
def zM(h1:scope.kind=.function)(h2:scope.names.all (λy=>y.2 != .cell)=tG)(h3:scope.names.all (λy=>y.2 != .local || scope.names.lookup y.1 == tE .local)=tG)(h4:scope.names.all (λy=>y.2 != .free || sc.names.lookup y.1 == tE .cell)=tG)(hsc:X.env.scope=sc)(h5:own.all (λy=>scope.names.lookup y == tE .local)=tG)(h6:caps.all (λy=>scope.names.lookup y == tE .free)=tG)(h7:ix.map (λi=>X.N[i]?)=caps.map tE):uU X scope own caps ix:=by
 refine#[h1,λy hy=>?_,λy hy e=>?_,λy hy=>?_,λy hy=>?_,λy hy=>?_,h7]
 ·have:=tQ.mp h2 y hy;simpa using this
 ·have:=tQ.mp h3 y hy;rw[e]at this;simpa using this
 ·have:=tQ.mp h4 _ hy;have:=by simpa using this
  refine .inl ?_;show X.env.scope.names.lookup y=tE .cell;rw[hsc];exact this
 ·have:=tQ.mp h5 y hy;simpa using this
 ·have:=tQ.mp h6 y hy;simpa using this
def Y7(l:List α){a b:Int}(h0:0<=a)(h1:a<=b)(h2:b<=l.length):cut l (tE a) (tE b)=(l.drop a.toNat).take (b - a).toNat:=by let#[m,rfl]:=bC h0;let#[n,rfl]:=bC (by lia:0<=b);unfold cut;rw[HT.sIx_nat,HT.sIx_nat,dC ⋯,dC ⋯];have:((n:Int) - (m:Int)).toNat=n - m:=⋯;rw[this];rfl
def uJ(r:Room k A):A.units+100<cLine:=by have:=r.un;lia
def kA{K:pB}(h:(Is K H (.lst l) x/\Is K H (.lst m) y)\/(Is K H (.tup l) x/\Is K H (.tup m) y))(hd:vw l<50)(q:Q (.bl (vT l m)) H):zgf K x y H Q:=#[l,m,h,hd,q]
def zbQ{K:pB}(h:(Is K H (.lst l) x/\Is K H (.lst m) y)\/(Is K H (.tup l) x/\Is K H (.tup m) y))(hd:vw l<50)(q:Q (.bl (!vT l m)) H):zfW K x y H Q:=#[l,m,h,hd,q]
def zgn(t u:TS):TS:=λD σ H=>∃R:St->Hp->Prop,t { D with nx:=R } σ H/\∀σ' H',R σ' H'->u D σ' H'
theorem zg{st:pN}{rest:List pN}(h1:PS X st t)(h2:PSs X rest u):PSs X (st::rest) (zgn t u):=by
 intros D I h;let#[R,h,hr]:=h;refine rA (thn (h1 tI s σ H { D with nx:=R } I h) λf s1 q=>?_)
 cases f with
 | next =>
  let#[σ',H',I',q]:=q;exact h2 tI s1 σ' H' D I' (hr _ _ q)
 | ret v=>exact q
 | brk=>exact q
 | cont=>exact q
def zj{D:ZH}(R:St->Hp->Prop)(h:t { D with nx:=R } σ H)(hr:∀G:St->Hp->Prop,G=u D->∀σ' H',R σ' H'->G σ' H'):zgn t u D σ H:=#[R,h,hr _ rfl]
def nm4{α β γ δ:Type}{P R:α->β->γ->δ->Prop}{B:α->β->γ->δ->Prop}(h:∀G:α->β->γ->δ->Prop,G=B->∀a b c d,P a b c d->R a b c d->G a b c d):∀a b c d,P a b c d->R a b c d->B a b c d:=h _ rfl
def nm3{α β γ:Type}{P R:α->β->γ->Prop}{B:α->β->γ->Prop}(h:∀G:α->β->γ->Prop,G=B->∀a b c,P a b c->R a b c->G a b c):∀a b c,P a b c->R a b c->B a b c:=h _ rfl
def zH(h:Same H H')(e:H a=tF):Same H (upd H' a o):=λb u q=>by
 rw[zm (zD q e)];exact h b u q
def ForL.by{K:pB}{D:ZH}(Pv:Nat->St->Hp->Prop)(h0:Pv 0 σ H)(hl:∀i σ H,i<=xs.length->Pv i σ H->SqL K H a xs)(hs:∀i x σ H,xs[i]? = tE x->Pv i σ H->g x σ H λσ2 H2=>tb { D with nx:=Pv (i+1),ct:=Pv (i+1),bk:=D.nx } σ2 H2)(hd:∀σ H,Pv xs.length σ H->D.nx σ H):ForL K a g tb D σ H:=JG Pv h0 hl hs hd
def ZO{A B:Prop}(h:B):if tG=tH then A else B:=by rw[z9 ∅];exact h
def CompV(K:pB)(a:pC)(n:Nat)(g:TG)(tt:TT)(te:TE)(own:Nat)(ix:())(σ:L2.St)(H1:Hp)(Q:VK)(D:pC):Prop:=Vl (Irv K a n) g tt te own ix σ H1 Q D
def zcU{K:pB}:qP (zf4 K ta) g tt te own ix σ H Q=ta σ H λvs H1=>∃a xs,vs=[.ref a]/\SqL K H1 a xs/\∀D,H1 D=tF->CompV K a xs.length g tt te own ix σ H1 Q D:=rfl
def CompV.by{K:pB}{D:pC}(Pv:Nat->List V->Hp->Prop)(h0:Pv 0 [] (upd H1 D (.lst [])))(hl:∀i tK H',i<=xs.length->Pv i tK H'->SqL K H' a xs)(hs:∀i x tK H',xs.reverse[i]? = tE x->Pv i tK H'->g x (wX σ own ix) H' λσ3 H3=>xm (wX σ own ix) σ3/\tt σ3 H3 λb H4=>if b=tG then
   te σ3 H4 λv H5=>H5 D=tE (.lst tK)/\tK.length<pA/\CNx xs.length i Pv (tK ++ [v]) (upd H5 D (.lst (tK ++ [v])))else CNx xs.length i Pv tK H4) (hd:∀tK H',Pv xs.length tK H'->Q (.ref D) H'):CompV K a xs.length g tt te own ix σ H1 Q D:=by
 refine#[λi m tK H=>m=xs.length - i/\i<=xs.length/\Pv i tK H,#[xs.length,by simp,aw _,h0],?_];rintro i m tK H' ⟨rfl,hi,p⟩;have q:=hl i tK H' hi p;by_cases hlt:i<xs.length
 ·refine .inr #[#[xs,q,rfl,hlt],λx H2 y=>?_];let#[e,y]:=y;subst e;refine hs i x tK _ ?_ p;rw[bx hlt];exact y xs q rfl
 ·have e:i=xs.length:=⋯;subst e;exact .inl #[rfl,hd tK H' p]
def zfG : z7 0 (tE v::σ) H Q=Q v H:=rfl
def zeW : z7 1 (a0::tE v::σ) H Q=Q v H:=rfl
def zeJ : z7 2 (a0::a1::tE v::σ) H Q=Q v H:=rfl
def zfy : z7 3 (a0::a1::a2::tE v::σ) H Q=Q v H:=rfl
def ze5 : z7 4 (a0::a1::a2::a3::tE v::σ) H Q=Q v H:=rfl
def zfc : z7 5 (a0::a1::a2::a3::a4::tE v::σ) H Q=Q v H:=rfl
def zfm : z7 6 (a0::a1::a2::a3::a4::a5::tE v::σ) H Q=Q v H:=rfl
def zeS : z7 7 (a0::a1::a2::a3::a4::a5::a6::tE v::σ) H Q=Q v H:=rfl
def zff : z7 8 (a0::a1::a2::a3::a4::a5::a6::a7::tE v::σ) H Q=Q v H:=rfl
def zfa : z7 9 (a0::a1::a2::a3::a4::a5::a6::a7::a8::tE v::σ) H Q=Q v H:=rfl
def zbP : z7 10 (a0::a1::a2::a3::a4::a5::a6::a7::a8::a9::tE v::σ) H Q=Q v H:=rfl
def zaT : z7 11 (a0::a1::a2::a3::a4::a5::a6::a7::a8::a9::a10::tE v::σ) H Q=Q v H:=rfl
def zbA : z7 12 (a0::a1::a2::a3::a4::a5::a6::a7::a8::a9::a10::a11::tE v::σ) H Q=Q v H:=rfl
def zc7{p:Bool->Prop}:(∃k,V.bl b=V.bl k/\p k)=p b:=propext #[λ⟨_,h,q⟩=>by cases h;exact q,λq=>#[_,rfl,q]]
def zad{p:Int->Prop}:(∃k,V.int b=V.int k/\p k)=p b:=propext #[λ⟨_,h,q⟩=>by cases h;exact q,λq=>#[_,rfl,q]]
def zah{p:pG->Prop}:(∃k,V.str b=V.str k/\p k)=p b:=propext #[λ⟨_,h,q⟩=>by cases h;exact q,λq=>#[_,rfl,q]]
def KM{p:pC->Prop}:(∃k,V.ref b=V.ref k/\p k)=p b:=propext #[λ⟨_,h,q⟩=>by cases h;exact q,λq=>#[_,rfl,q]]
def ze9 : onInt (.int i) p=p i:=rfl
def zfq : onStr (.str i) p=p i:=rfl
def zeK : onBl (.bl i) p=p i:=rfl
def ze3 : onRef (.ref i) p=p i:=rfl
def zfI{K:pB}:zfr K (.bl b) H p=p b:=rfl
def KG : onInt x p=∃k,x=.int k/\p k:=propext #[onInt.of,onInt.to]
def Kw : onStr x p=∃k,x=.str k/\p k:=propext #[onStr.of,onStr.to]
def zat : onBl x p=∃k,x=.bl k/\p k:=propext #[onBl.of,onBl.to]
def K7 : onRef x p=∃k,x=.ref k/\p k:=propext #[onRef.of,onRef.to]
def QG : z7 i σ H Q=∃v,σ[i]? = tE (tE v)/\Q v H:=propext #[onSl.of,λ⟨v,h,q⟩=>by erw[z7,onSl,h];exact q]
def zaE : rEq (.int a) (.int b) H Q=Q (.bl (decide (a=b))) H:=rfl
def zaG : rEq (.str a) (.str b) H Q=Q (.bl (decide (a=b))) H:=rfl
def zbI : rNe (.int a) (.int b) H Q=Q (.bl (!decide (a=b))) H:=rfl
def zbU : rNe (.str a) (.str b) H Q=Q (.bl (!decide (a=b))) H:=rfl
def zaV : QU (.int a) y H Q=onInt y λj=>Q (.int (a+j)) H:=rfl
def zbG : QU (.str a) y H Q=onStr y λj=>a.length+j.length<=pA/\Q (.str (a ++ j)) H:=rfl
def za3 : QU (.ref a) y H Q=zcv (.ref a) y H Q:=rfl
def zaX : Jf (.int a) y H Q=onInt y λj=>CMul a j/\Q (.int (a * j)) H:=rfl
def zbF : Jf (.str z) y H Q=onInt y λn=>0<=n/\n<=1000/\z.length<=1000/\Q ⇑(af n.toNat (cs z)).flatten H:=rfl
def zeL : zeQ (.int a) y H Q=onInt y λj=>Q (.bl (decide (a<j))) H:=rfl
def zfU : zeQ (.str a) y H Q=onStr y λj=>Q (.bl (decide (cs a<cs j))) H:=rfl
def zeV : zfo (.int a) y H Q=onInt y λj=>Q (.bl (decide (a<=j))) H:=rfl
def zeP : zfo (.str a) y H Q=onStr y λj=>Q (.bl (!(decide (cs j<cs a)))) H:=rfl
def zfh : zez (.int a) y H Q=onInt y λj=>Q (.bl (decide (j<a))) H:=rfl
def zfS : zez (.str a) y H Q=onStr y λj=>Q (.bl (decide (cs j<cs a))) H:=rfl
def zeY{K:pB}:rIx K (.ref a) y H Q=onInt y λi=>(∃xs,SqL K H a xs/\∃v,atI xs i=tE v/\Q v H)\/∃xs,SqT K H a xs/\∃v,atI xs i=tE v/\Q v H:=rfl
def zft{K:pB}:rIx K (.str z) y H Q=JN (.str z) y H Q:=rfl
def zbo{K:pB}{lo hi:Option Int}:zeT K (.str z) lo hi H Q=(z.length<=pA/\Q ⇑(cut (cs z) lo hi) H):=rfl
def zbE{K:pB}{lo hi:Option Int}:zeT K (.ref a) lo hi H Q=(∃xs,SqL K H a xs/\∀p,H p=tF->Q (.ref p) (upd H p (.lst (zcr xs lo hi)))):=rfl
def zb6{K:pB}:Vz K [.str z] H Q=(z.length<=pA/\Q (.int z.length) H):=rfl
def zbr{K:pB}:Vz K [.ref a] H Q=(∃n:Nat,((∃xs,SqL K H a xs/\n=xs.length)\/∃xs,SqT K H a xs/\n=xs.length)/\Q (.int n) H):=rfl
def zaH : zf5 x .non H Q=Q (.bl (decide (x=.non))) H:=rfl
def za5 : zc6 x .non H Q=Q (.bl (!decide (x=.non))) H:=rfl
def za4 : Q7 [.int i,.int j] H Q=Q (.int (if j > i then j else i)) H:=rfl
def zaL : Qn (.ref a) [y] H Q=(∃xs,H a=tE (.lst xs)/\xs.length<pA/\Q .non (upd H a (.lst (xs ++ [y])))):=rfl
def zgo{K:pB}:(tyV K "str" (.str z) H/\p)=p:=propext #[λh=>h.2,λh=>#[rfl,h]]
def zE(i:Nat)(hN:X.N.Nodup)(he:PE X e te)(hi:‹X.N[i]? = tE x›)(hx:‹Loc X.env.scope x›)(hs:‹swapsWith e (tE (.Name x pos')) pos.line X.env=pure tH›)(hf:‹X.fn x=tG\/X.env.scope.names.lookup x=tE .local›) :
  PS X (.Assign [.Name x pos'] e pos) (za6 te (yW i)):=qN hN hi hx he hs hf
def zk(hr:IxR X r)(ha:PE X a ta)(hb:PE X b tb)(hs:QM b:=by exact λZ Z=>rfl):PE X (.Subscript a b pos) (tOp r ta tb):=ze6 hr ha hb hs
def zR(hm:X.mg "len" = tF)(he:PE X e te)(hg:‹Gl X "len"›)(h1:‹pq [e] X.env=(tH,eval e X.env)::pq [] X.env›)(h2:‹(pQ pos (pq [] X.env)).any (·.1)=tH›):PE X (.Call (.Name "len" p) [e] [] pos) (tCB (Vz X.K) (zI te xp)) :=
 xa zfk hg hm PySem.boot_len (za he zd h1) (he:=h1) (hpl:=h2)
theorem Qd:∀{ys:List pG} {its:List pD},Vals (ys.map V.str) its->∃l:List (pG × sP),its=strValues l/\l.map (·.1)=ys
 | [],_,.nil=>#[[],rfl,rfl]
 | y::ys,_,.cons r t=>by
  let#[tk,rfl]:=r;let#[l,e1,e2]:=Qd t;exact#[(y,tk)::l,by rw[e1];rfl,by rw[ak,e2]]
def ze0(K:pB):V->List V->Hp->VK->Prop:=λx xs H Q=>∃z p ys,x=.str z/\xs=[.ref p]/\SqL K H p (ys.map V.str)/\JoinOk z ys=tG/\Q (.str (Txt.join z ys)) H
def zc4:MtR X "str.join" (ze0 X.K):=by intros x xs v us Q I rx rv h;let#[z,p,ys,rfl,rfl,hS,hok,q]:=h;let#[t,rfl]:=rx;let#[u,rfl,ru]:=wr rv;cases ru;let#[its,r,pl,_]:=I.list hS;let#[l,rfl,e]:=Qd r;exact PySem.SC.join pl.isList e hok λt' k=>#[.str _,H,I.tok _,#[_,rfl],q]
theorem k8:∀{bs:List Bool} {its:List pD} {i:Nat} {v:pD},Vals (bs.map V.bl) its->its[i]? = tE v->v=.bool (bs.getD i tH)
 | [],_,_,_,.nil,h=>by cases h
 | b::bs,_,0,v,.cons r t,h=>by
  cases r;cases h;rfl
 | b::bs,_,i+1,v,.cons r t,h=>k8 (bs:=bs) (i:=i) t h
theorem V4(bs:List Bool):(aN bs.length).all (λi=>bs.getD i tH)=bs.all id:=by
 induction bs with
 | nil=>rfl
 | cons b bs ih =>
  rw[aJ,cX,fZ,List.all_map,fZ,<- ih];rfl
def zgJ(K:pB):List V->Hp->VK->Prop:=λxs H Q=>∃(p:pC) (bs:List Bool),xs=[.ref p]/\SqL K H p (bs.map V.bl)/\Q (.bl (bs.all id)) H
def zfO(hc:X.calm=tG):vx X (.builtin "all") (zgJ X.K):=by
 intros xs us Q I r h;let#[p,bs,rfl,hS,q]:=h;let#[u,rfl,ru]:=wr r;cases ru;let#[its,rv,pl,hz]:=I.list hS
 have hlen:its.length=bs.length:=by
  have:=rv.length;rw[aa]at this;exact this.symm
 have hh:X.A.in1.handled=tF:=I.ok.hd hc
 have hne:p≠s⁻¹:=by
  let#[o,n,e,_]:=pl;exact ax (au e)
 let#[f0,f1,f2,f3,f4,f5]:=I.fpOk (H':=H) (am _) (I.hok.fresh (am _));have I1:=I.kept (t':=s.toks) (h':=s.heap.push { cls:=.type "list_iterator",data:=.fields (u9 [.ref p,.int 0 0]) }) λb o e=>ac _ e;refine call_all_walk (rD pl.isList ?_);refine#[s⁻¹,_,_,_,_,_,λi=>bs.getD i tH,rfl,Walks.list hh s⁻¹ p hne its.toArray,#[#[_,aD _ rfl,rfl,rfl],?_],?_,?_]
 ·let#[o,n,e,c,d,dt]:=pl;exact#[o,ac _ e,c,n,dt]
 ·intro i v s' Q' E' hv hq;have:=k8 rv (i:=i) (v:=v) ↥hv;rw[this];exact pX hq
 ·intro h' tk hk
  have e:(aN its.toArray.size).all (λi=>bs.getD i tH)=bs.all id:=by
   rw[al,hlen,V4]
  rw[e];refine#[.bl _,H,?_,rfl,q];exact I1.turned (t':=tk) (it:=s⁻¹) (λb o hb q=>hk b o ↥hb q) f0 f1 f3 f4 f5
def zdP(hfr:A.frames=tE (env0::outer))(hl:s.heap.FunFrames base (env0::outer))(hf:env0.frame=tE L)(he:env.frame=tE L)(hx:s.heap.get? x=tE (xob C dx t tb))(htb:zck s.heap x tb)(h:∀h' T oT ts,h'.get? x=tE (xob C dx t (.ref T))->T≠x->(tb=.ref T\/s⁻¹<=T)->h'.get? T=tE oT->oT.data=.fields ts->3<ts.size ->
   (∀b o,b≠x->tb≠.ref b->b ∉ frs (env0::outer)->s.heap.get? b=tE o->h'.get? b=tE o)->(∀b o,b≠x->tb≠.ref b->s.heap.get? b=tE o->∃sl,h'.get? b=tE { o with slots:=sl })->Q Unit.unit { s with heap:=h' }) :
  pE M A (noteFrame (.ref x) env) Q E s:=by
 have land:∀(h1:pS) (T:pC) (oT:rH) (ts:Array pD),h1.get? x=tE (xob C dx t (.ref T))->T≠x->(tb=.ref T\/s⁻¹<=T)->h1.get? T=tE oT->oT.data=.fields ts->3<ts.size ->
   (∀b o,b≠x->tb≠.ref b->b ∉ frs (env0::outer)->s.heap.get? b=tE o->h1.get? b=tE o)->(∀b o,b≠x->tb≠.ref b->s.heap.get? b=tE o->∃sl,h1.get? b=tE { o with slots:=sl }) ->
   Q Unit.unit { s with heap:=h1 }:=λh1 T oT ts e1 nT oldT e2 d2 z2 k1 k2=>h h1 T oT ts e1 nT oldT e2 d2 z2 k1 k2
 unfold noteFrame
 erw[he]
 refine ph (pO hx rfl (x:=tb) rfl ?_);rcases htb with rfl | ⟨T,oT,ts,rfl,nT,e2,d2,z2⟩
 ·rw[z9 ∅];refine Zv hfr hl hf he hx λh' oT ts e1 ne e2 d2 z2 k1 k2=>land h' _ oT ts e1 ne (.inr (am _)) e2 d2 z2 (λb o hb Z hbf e=>k1 b o hb hbf e) λb o hb Z e=>k2 b o hb e
 ·rw[z6 (show (r9 T != p9)=tG from by simp)];obtain⟨y,hy⟩:∃y,ts[3]? = tE y:=#[ts[3],by simp [z2]];refine ph (pO e2 d2 (x:=y) hy ?_);by_cases c:(y == rawInt L)=tG
  ·rw[z6 c];exact pi (land s.heap T oT ts hx nT (.inl rfl) e2 d2 z2 (λb o Z Z Z e=>e) λb o Z Z e=>#[o.slots,e])
  ·rw[z9 c];refine ph (rm e2 d2 z2 ?_);have oth:∀b,b≠T->(s.heap.update T (Obj.mapFields (·.setIfInBounds 3 p9))).get? b=s.heap.get? b:=λb hb=>aH _ _ (Ne.symm hb);have hl1:(s.heap.update T (Obj.mapFields (·.setIfInBounds 3 p9))).FunFrames base (env0::outer):=hl.of_keeps λb o hb hnf=>#[o,(oth b λq=>by rw[q,e2]at hb;cases hb;exact hnf ts d2).trans hb,rfl];have hsz:(s.heap.update T (Obj.mapFields (·.setIfInBounds 3 p9))).objs.size=s⁻¹:=df ..;refine Zv (s:={ s with heap:=s.heap.update T (Obj.mapFields (·.setIfInBounds 3 p9)) }) hfr hl1 hf he ((oth x (Ne.symm nT)).trans hx) λh' oT' ts' e1 ne e2' d2' z2' k1 k2=>?_;refine land h' _ oT' ts' e1 ne (.inr (by rw[hsz];exact am _)) e2' d2' z2' (λb o hb hbt hbf e=>k1 b o hb hbf ((oth b λq=>hbt (by rw[q])).trans e)) λb o hb hbt e=>k2 b o hb ((oth b λq=>hbt (by rw[q])).trans e)
def Inv.noted{tb:pD}(I1:Inv X tI σ H1 s1)(hst:X.stack=X.env::X.outer)(fx:xK X tI H1 x)(fT:∀T,tb=.ref T->xK X tI H1 T)(fT':xK X tI H1 T)(k1:∀b o,b≠x->tb≠.ref b->b ∉ frs (X.env::X.outer)->s1.heap.get? b=tE o->h'.get? b=tE o)(k2:∀b o,b≠x->tb≠.ref b->s1.heap.get? b=tE o->∃sl,h'.get? b=tE { o with slots:=sl }):Inv X tI σ H1 { s1 with heap:=h' }:=by
 have tbs:∀b,tb=.ref b->H1 b=tF:=λb hb=>(fT b hb).1
 have nch:∀b o,s1.heap.get? b=tE o->b ∉ (x::T::tbL tb)->b≠x/\tb≠.ref b:=λb o Z hb=>by
  refine#[λz=>hb (by simp [z]),λz=>hb ?_];rw[z];simp [tbL]
 have un:Un (frs X.stack) (x::T::tbL tb) H1 H1 s1.heap h':=by
  rw[hst];refine#[λb o e n hb hc=>?_,λb o e n hb hc=>?_,λb o e n Z=>n,λb o e hc=>?_,λb xs e=>e,λb o u e=>e,λb ps e=>#[#[],by rw[e];simp]]
  ·let#[a1,a2]:=nch b o e hc;exact k1 b o a1 a2 hb e
  ·let#[a1,a2]:=nch b o e hc;exact k2 b o a1 a2 e
  ·let#[a1,a2]:=nch b o e hc;let#[sl,q]:=k2 b o a1 a2 e;exact#[_,q]
 have hok:HOk X.prog X.w H1 h':=λb u e=>by
  refine (I1.hok b u e).stay (λc v hc q=>k1 c v ?_ ?_ ?_ q) (λZ q=>q) λZ Z q=>q
  ·rintro rfl;rcases hc with rfl | hc
   ·rw[fx.1]at e;cases e
   ·rw[fx.1]at hc;cases hc
  ·intro z;have:=tbs c z;rcases hc with rfl | hc
   ·rw[this]at e;cases e
   ·rw[this]at hc;cases hc
  ·intro z;rw[<- hst]at z;have:=I1.stkFree c z;rcases hc with rfl | hc
   ·rw[this]at e;cases e
   ·rw[this]at hc;cases hc
 exact I1.call' (s':={ s1 with heap:=h' }) rfl un hok I1.bare λb hb=>by
  have fb:xK X tI H1 b:=by
   rcases tN.mp hb with z | z
   ·rw[z];exact fx
   ·rcases tN.mp z with z | z
    ·rw[z];exact fT'
    ·cases tb with
     | ref b' =>
      have:b=b':=by simpa [tbL] using z
      rw[this];exact fT b' rfl
     | _=>simp [tbL]at z
  let#[_,a1,_,a3,a4,a5]:=fb;exact#[a3,a1,a4,a5]
def Us(hst:X.stack=X.env::X.outer/\X.env.frame=tE X.env.locals)(hxe:XE X EX)(hc1:∀y c,cl.lookup y=tE c->X.env.cells.lookup y=tE c)(I3:Inv X tI σ H3 s3)(f3:∀b ∈ fp,xK X tI H3 b)(fl:zea (ya X scope cl s3⁻¹ N tI s3 H3 fp xe) EX e s1)(hRE:∀m s' x,s'.heap.Ns s3⁻¹ m->(∀h',Heap.SameBut s3⁻¹ s'.heap h'->∀cenv:tm,cenv.locals=s3⁻¹->pE (model X.prog X.w) X.A (gm "comprehension.variables-let-go" x cenv:Sem pD) (λZ Z=>False) X.xe { s' with heap:=h' })->RE x s') :
  notedBy (model X.prog X.w) X.A (compEnvC scope cl s3⁻¹ X.env) RE e s1:=by
 let#[pins',σ',H1,x,C,t,dx,tb,rfl,I1,ob,tr,fx,fT,q]:=fl
 have IX:Inv X tI σ H1 s1:=I3.call' (s':=s1) I1.os I1.base I1.hok I1.bare λb hb=>by
  let#[_,a1,a2,a3,a4,a5]:=f3 b hb;exact#[a3,a1,a4,a5]
 have up:∀b,xK (ya X scope cl s3⁻¹ N tI s3 H3 fp xe) pins' H1 b->xK X tI H1 b:=λb hb=>by
  let#[a0,a1,a2,a3,a4,a5]:=hb;rcases a3 with a3 | a3
  ·exact#[a0,(f3 b a3).2]
  ·exact I3.fpOk a3 a0
 have fx':=up x fx;have fT':∀T,tb=.ref T->xK X tI H1 T:=λT h=>up T (fT T h);have fr:X.A.frames=tE (X.env::X.outer):=by rw[<- hst.1];exact IX.ok.frames
 have ff:s1.heap.FunFrames X.base (X.env::X.outer):=by rw[<- hst.1];exact IX.stack
 let#[m,hm,_]:=I1.loc;have fC:xK X tI H1 s3⁻¹:=I3.fpOk (am _) I1.free;refine zdP fr ff hst.2 hst.2 ob tr λh' T oT ts e1 nT oldT e2 d2 z2 k1 k2=>?_
 have fT2:xK X tI H1 T:=by
  rcases oldT with z | z
  ·exact fT' T z
  ·exact IX.fpOk z (IX.hok.fresh z)
 have I2:Inv X tI σ H1 { s1 with heap:=h' }:=Inv.noted IX hst.1 fx' fT' fT2 k1 k2;have hCx:s3⁻¹≠x:=λz=>fx.2.1 z.symm;have hCtb:tb≠.ref s3⁻¹:=λz=>(fT _ z).2.1 rfl;let#[oC,es,ep,hoC,rC]:=hm
 have hCT:T≠s3⁻¹:=by
  rcases oldT with z | z
  ·exact (fT T z).2.1
  ·exact bU (ao (au hoC) z)
 have hCf:s3⁻¹ ∉ frs (X.env::X.outer):=λz=>by
  rw[<- hst.1]at z;rcases tN.mp (IX.stkSub _ z)with y | y
  ·exact fC.2.1 y
  ·exact fC.2.2.1 y
 refine hRE m _ _ #[oC,es,ep,k1 _ _ hCx hCtb hCf hoC,rC] λh2 sb cenv hcenv=>?_;have I3':Inv X tI σ H1 { s1 with heap:=h2 }:=I2.turned (t':=s1.toks) (λb o hb e=>(sb.2 b hb).trans e) fC.1 fC.2.1 fC.2.2.2.1 fC.2.2.2.2.1 fC.2.2.2.2.2;have ob2:h2.get? x=tE (xob C dx t (.ref T)):=(sb.2 x (Ne.symm hCx)).trans e1;have oT2:h2.get? T=tE oT:=(sb.2 T hCT).trans e2;unfold gm;refine ph (pO (s:={ s1 with heap:=h2 }) ob2 rfl (x:=.ref T) rfl ?_);rw[z9 (show ¬ (r9 T == p9)=tG from by simp)];unfold setFlight;refine ph (ph (pO (s:={ s1 with heap:=h2 }) ob2 rfl (x:=.ref T) rfl ?_));rw[z6 (show (r9 T != p9)=tG from by simp)];refine rm (s:={ s1 with heap:=h2 }) oT2 d2 z2 (wpAny_throw (hxe _ _ ?_));have d3:=Obj.data_mapFields d2 (·.setIfInBounds 3 (cenv.frame.elim p9 λf=>rawInt f))
 have I4:Inv X tI σ H1 { s1 with heap:=h2.update T (Obj.mapFields (·.setIfInBounds 3 (cenv.frame.elim p9 λf=>rawInt f))) } :=
  I3'.turned (t':=s1.toks) (λb o hb e=>(aH _ _ (Ne.symm hb)).trans e) fT2.1 fT2.2.1 fT2.2.2.2.1 fT2.2.2.2.2.1 fT2.2.2.2.2.2
 exact#[tI,σ,H1,x,C,t,dx,.ref T,rfl,I4,(aH _ _ nT).trans ob2,.inr #[T,_,_,rfl,nT,bY _ oT2 (Obj.isFreed_of_fields d3),d3,by simpa using z2],fx',λT' z=>by cases z;exact fT2,q]
end
open PySem.AutoSeq1 (wpAny_loadPart')
open MeetsSeq MeetsSeq2 MeetsSeq3 SeqRoads2 SeqAt
mutual section
def qE(op:sY)(A:rh)(s:pF)(y x:pD)(b:Bool):Prop :=
 ∀(prog:pJ) (w:pR) (E:pD->pF->Prop) (Q:pD->pF->Prop),Q (.bool b) s->pE (model prog w) A (richCompare op y x) Q E s
abbrev LtAt:=qE .Lt
def zdc:sY->Nat->Nat->Bool
 | .Gt,m,n=>decide (n<m)
 | _,m,n=>decide (m<n)
def zf0:sY->Int
 | .Gt=>4
 | _=>0
def LG(op:sY):Prop:=op=.Lt\/op=.Gt
def uj(op:sY)(e t r:Nat->Bool)(m n:Nat):Prop:=∀i,i<=m->i<=n->r i=if i<m/\i<n then (if e i=tG then r (i+1)else t i)else zdc op m n
abbrev zfK:=uj .Lt
variable{op:sY}
theorem Ub(ho:LG op)(l b:pC)(items tJ:Array pD)(n n2:Nat)(dd dd2:Option pC)(sl sl2:Array (Option pD))(e t r:Nat->Bool)(hr:uj op e t r items.size tJ.size)(k:Nat) :
  ∀i:Nat,i<=items.size->i<=tJ.size->items.size - i=k->Meets (Builtin.«list.__eq__.loop» #[[.ref l,.ref b,rawInt i,rawInt (zf0 op)],[]]) (λA R s=>s.heap.get? l=tE { cls:=.type "list",dict:=dd,data:=.seq items n,slots:=sl }/\s.heap.get? b=tE { cls:=.type "list",dict:=dd2,data:=.seq tJ n2,slots:=sl2 } /\
    (∀j (h1:j<items.size) (h2:j<tJ.size),EqAt A.in1 s items[j] tJ[j] (e j))/\(∀j (h1:j<items.size) (h2:j<tJ.size),e j=tH->qE op A.in1 s items[j] tJ[j] (t j)) /\
    R (.ok (.ret (.bool (r i)))) s):=by
 rcases ho with rfl | rfl <;> erw[zf0] <;> erw[uj,zdc]at hr
 all_goals
  induction k with
  | zero =>
   intro i b1 b2 hk prog w A R s h;let#[hp,g,d,tk,os]:=s;let#[hl,hb,he,ht,h]:=h;have hri:=hr i b1 b2;rw[z9 ⋯]at hri;rw[hri]at h
   wp_walk using wpAny_loadPart' hl,wpAny_loadPart' hb
   have hi1:items[((i:Nat):Int).toNat]? = tF:=by simp;lia
   rw[hi1]
   wp_walk using wpAny_loadPart' hl,wpAny_loadPart' hb
   exact h
  | succ k ih =>
   intro i b1 b2 hk prog w A R s h;let#[hp,g,d,tk,os]:=s;let#[hl,hb,he,ht,h]:=h;have hlt:i<items.size:=⋯;have hi1:items[((i:Nat):Int).toNat]? = tE items[i]:=by simp [hlt]
   have hc:((i:Int)+1)=((i+1:Nat):Int):=by push_cast;rfl
   have hri:=hr i b1 b2;by_cases hlt2:i<tJ.size
   ·rw[z6 #[hlt,hlt2]]at hri;rw[hri]at h;have hi2:tJ[((i:Nat):Int).toNat]? = tE tJ[i]:=by simp [hlt2]
    wp_walk using wpAny_loadPart' hl,wpAny_loadPart' hb
    rw[hi1,hi2];refine ph (he i hlt hlt2 prog w _ _ ?_)
    cases hb':e i with
    | true =>
     rw[hb',z6 rfl]at h
     wp_walk
     rw[hc]
     exact#[plainId_quiet plain_eq_loop _,rN entry_eq_loop (by
      rw[Around.under_plainId plain_eq_loop _]
      exact ih (i+1) ⋯ ⋯ ⋯ prog w A R _ #[hl,hb,he,ht,h])]
    | false =>
     rw[hb',z9 aB]at h
     wp_walk using wpAny_loadPart' hl,wpAny_loadPart' hb
     rw[hi1,hi2];refine ph (ht i hlt hlt2 hb' prog w _ _ ?_)
     wp_walk
     exact h
   ·rw[z9 ⋯]at hri;rw[hri]at h;have hi2:tJ[((i:Nat):Int).toNat]? = tF:=by simp;lia
    wp_walk using wpAny_loadPart' hl,wpAny_loadPart' hb
    rw[hi1,hi2]
    wp_walk using wpAny_loadPart' hl,wpAny_loadPart' hb
    exact h
def Yi(ho:LG op)(l b:pC)(items tJ:Array pD)(n n2:Nat)(dd dd2:Option pC)(sl sl2:Array (Option pD))(e t r:Nat->Bool)(hr:uj op e t r items.size tJ.size) :
  Meets ((match op with | .Gt=>Builtin.«list.__gt__» | _=>Builtin.«list.__lt__») ⟨[.ref l,.ref b],[]⟩) (λA R s=>s.heap.get? l=tE { cls:=.type "list",dict:=dd,data:=.seq items n,slots:=sl }/\s.heap.get? b=tE { cls:=.type "list",dict:=dd2,data:=.seq tJ n2,slots:=sl2 } /\
    (∀j (h1:j<items.size) (h2:j<tJ.size),EqAt A.in1 s items[j] tJ[j] (e j))/\(∀j (h1:j<items.size) (h2:j<tJ.size),e j=tH->qE op A.in1 s items[j] tJ[j] (t j)) /\
    R (.ok (.ret (.bool (r 0)))) s):=by
 rcases id ho with rfl | rfl
 all_goals
  intro prog w A R s h;let#[hp,g,d,tk,os]:=s;let#[hl,hb,he,ht,h]:=h;have f3:=AutoSeq1.sub_list_list
  wp_walk using wpAny_loadPart' hl,wpAny_loadPart' hb
  exact#[plainId_quiet plain_eq_loop _,rN entry_eq_loop (by
   rw[Around.under_plainId plain_eq_loop _]
   exact Ub ho l b items tJ n n2 dd dd2 sl sl2 e t r hr _ 0 (aw _) (aw _) rfl prog w A R _ #[hl,hb,he,ht,h])]
theorem ke(ho:LG op)(l b:pC)(items tJ:Array pD)(n n2:Nat)(dd dd2:Option pC)(sl sl2:Array (Option pD))(e t r:Nat->Bool)(hr:uj op e t r items.size tJ.size) :
  Meets ((match op with | .Gt=>Builtin.«tuple.__gt__» | _=>Builtin.«tuple.__lt__») ⟨[.ref l,.ref b],[]⟩) (λA R s=>s.heap.get? l=tE { cls:=.type "tuple",dict:=dd,data:=.seq items n,slots:=sl }/\s.heap.get? b=tE { cls:=.type "tuple",dict:=dd2,data:=.seq tJ n2,slots:=sl2 } /\
    (∀j (h1:j<items.size) (h2:j<tJ.size),EqAt A.in1 s items[j] tJ[j] (e j))/\(∀j (h1:j<items.size) (h2:j<tJ.size),e j=tH->qE op A.in1 s items[j] tJ[j] (t j)) /\
    R (.ok (.ret (.bool (r 0)))) s):=by
 rcases ho with rfl | rfl <;> erw[uj,zdc]at hr
 all_goals
  refine .of_wp λprog w A R s h=>?_;let#[hp,g,d,tk,os]:=s;let#[hl,hb,he,ht,h]:=h;have f2:=AutoSeq1.sub_tuple_tuple;have hZ:(items.toList.zip tJ.toList).length=min items.size tJ.size:=by simp
  wp_walk using wpAny_loadPart' hl,wpAny_loadPart' hb,wpAny_forIn_list _ (λrest b s'=>b.1=tF/\s'=#[hp,g,d,tk,os]/\∃i,i<=min items.size tJ.size/\rest=(items.toList.zip tJ.toList).drop i /\
   R (.ok (.ret (.bool (r i)))) #[hp,g,d,tk,os]) _
  case turn =>
   rintro⟨y,x⟩ rest b s' ⟨hb',rfl,i,hi,hz,hR⟩
   have hlt:i<(items.toList.zip tJ.toList).length:=by
    rcases e7 i (items.toList.zip tJ.toList).length with h' | h'
    ·exact h'
    ·rw[aZ h']at hz;cases hz
   have hm:i<min items.size tJ.size:=hZ ▸ hlt;have h1:i<items.size:=ao hm (fB _ _);have h2:i<tJ.size:=ao hm (Nat.min_le_right _ _);rw[aO hlt]at hz;injection hz with hyx hrest;have hy:y=items[i]:=by have:=congrArg Prod.fst hyx;simpa using this
   have hx:x=tJ[i]:=by have:=congrArg Prod.snd hyx;simpa using this
   subst hy hx;have hri:=hr i ⋯ ⋯;rw[z6 #[h1,h2]]at hri;rw[hri]at hR;refine ph (he i h1 h2 prog w _ _ ?_)
   cases hy:e i with
   | true =>
    rw[hy,z6 rfl]at hR
    wp_walk
    exact#[rfl,rfl,i+1,⋯,hrest,hR]
   | false =>
    rw[hy,z9 aB]at hR
    erw[fP,if_true]
    refine ph (sk ?_);refine ph (ht i h1 h2 hy prog w _ _ ?_)
    wp_walk
    exact#[_,rfl,hR]
  case fin =>
   rintro⟨b1,b2⟩ s' ⟨hb',rfl,i,hi,hz,hR⟩;simp only at hb';subst hb'
   have hge:min items.size tJ.size<=i:=by
    rcases e7 i (items.toList.zip tJ.toList).length with h' | h'
    ·rw[aO h']at hz;cases hz
    ·exact hZ ▸ h'
   have hri:=hr i ⋯ ⋯;rw[z9 ⋯]at hri;rw[hri]at hR
   wp_walk
   exact#[_,rfl,hR]
  case h =>
   exact#[rfl,rfl,0,aw _,rfl,h]
def LtAt.lists(ho:LG op)(hl:s.heap.IsList l items)(hb:s.heap.IsList b tJ)(hr:uj op e t r items.size tJ.size)(hu:A.units<cLine)(he:∀j (h1:j<items.size) (h2:j<tJ.size),EqAt A.in1 s items[j] tJ[j] (e j))(ht:∀j (h1:j<items.size) (h2:j<tJ.size),e j=tH->qE op A.in1 s items[j] tJ[j] (t j)):qE op A s (.ref l) (.ref b) (r 0):=λprog w E Q h=>by
 let#[#[cls,dd,data,sl],h1,hc,n,hd]:=id hl;let#[#[cls2,dd2,data2,sl2],h2,hc2,n2,hd2]:=id hb;simp only at hc hd hc2 hd2;subst hc hd hc2 hd2;have z:Value.bool (r 0)≠Value.notImplemented/\Q (.bool (r 0)) s:=#[(λx=>nomatch x),h];rcases id ho with rfl | rfl
 ·exact richCompare_meets_room #[_,h1,rfl] #[_,h2,rfl] F.slot_list_lt F.entry_list_lt (F.args_list_lt_2 _ _) (Yi ho l b items tJ n n2 dd dd2 sl sl2 e t r hr) #[h1,h2,he,ht,z] hu
 ·exact richCompare_meets_room #[_,h1,rfl] #[_,h2,rfl] F.slot_list_gt F.entry_list_gt (F.args_list_gt_2 _ _) (Yi ho l b items tJ n n2 dd dd2 sl sl2 e t r hr) #[h1,h2,he,ht,z] hu
def LtAt.tuples(ho:LG op)(hl:s.heap.IsTuple l items)(hb:s.heap.IsTuple b tJ)(hr:uj op e t r items.size tJ.size)(hu:A.units<cLine)(he:∀j (h1:j<items.size) (h2:j<tJ.size),EqAt A.in1 s items[j] tJ[j] (e j))(ht:∀j (h1:j<items.size) (h2:j<tJ.size),e j=tH->qE op A.in1 s items[j] tJ[j] (t j)):qE op A s (.ref l) (.ref b) (r 0):=λprog w E Q h=>by
 let#[#[cls,dd,data,sl],h1,hc,n,hd]:=id hl;let#[#[cls2,dd2,data2,sl2],h2,hc2,n2,hd2]:=id hb;simp only at hc hd hc2 hd2;subst hc hd hc2 hd2;have z:Value.bool (r 0)≠Value.notImplemented/\Q (.bool (r 0)) s:=#[(λx=>nomatch x),h];rcases id ho with rfl | rfl
 ·exact richCompare_meets_room #[_,h1,rfl] #[_,h2,rfl] F.slot_tuple_lt F.entry_tuple_lt (F.args_tuple_lt_2 _ _) (ke ho l b items tJ n n2 dd dd2 sl sl2 e t r hr) #[h1,h2,he,ht,z] hu
 ·exact richCompare_meets_room #[_,h1,rfl] #[_,h2,rfl] F.slot_tuple_gt F.entry_tuple_gt (F.args_tuple_gt_2 _ _) (ke ho l b items tJ n n2 dd dd2 sl sl2 e t r hr) #[h1,h2,he,ht,z] hu
end
mutual
def okD:D->D->Prop
 | .int _,e=>match e with | .int _=>True | _=>False
 | .lst l,e=>match e with | .lst m=>ZP l m | _=>False
 | .tup l,e=>match e with | .tup m=>ZP l m | _=>False
 | _,_=>False
def ZP:List D->List D->Prop
 | d::l,m=>match m with | e::m=>okD d e/\ZP l m | []=>True
 | [],_=>True
end
mutual
noncomputable def ltD:D->D->Bool
 | .int a,e=>match e with | .int b=>decide (a<b) | _=>tH
 | .lst l,e=>match e with | .lst m=>wQ l m | _=>tH
 | .tup l,e=>match e with | .tup m=>wQ l m | _=>tH
 | _,_=>tH
noncomputable def wQ:List D->List D->Bool
 | d::l,m=>match m with | e::m=>if eqD d e=tG then wQ l m else ltD d e | []=>tH
 | [],m=>match m with | []=>tH | _::_=>tG
end
theorem Uk(l m:List D):zfK (λj=>eqD (l.getD j .non) (m.getD j .non)) (λj=>ltD (l.getD j .non) (m.getD j .non)) (λi=>wQ (l.drop i) (m.drop i)) l.length m.length:=by
 intro i b1 b2
 erw[zdc]
 by_cases h:i<l.length/\i<m.length
 ·rw[z6 h,aO h.1,aO h.2,wQ];rw[ae,ae,ah h.1,ah h.2];rfl
 ·rw[z9 h];by_cases h1:i<l.length
  ·have h2:¬ i<m.length:=λz=>h #[h1,z];rw[aO h1,aZ (bV h2),wQ]
   ·simp;lia
   all_goals simp
  ·rw[aZ (bV h1)];by_cases h2:i<m.length
   ·rw[aO h2,wQ];simp;lia
   ·rw[aZ (bV h2),wQ]
    ·simp;lia
    all_goals simp
mutual
theorem WQ:∀d e:D,eqD d e=eqD e d
 | .lst l,e=>by cases e <;> erw[eqD];exact qX l _
 | .tup l,e=>by cases e <;> erw[eqD];exact qX l _
 | .int _,e=>by cases e <;> erw[eqD] <;> exact gc
 | .str _,e=>by cases e <;> erw[eqD] <;> exact gc
 | .bl _,e=>by cases e <;> erw[eqD] <;> exact gc
 | .non,e=>by cases e <;> erw[eqD]
theorem qX:∀l m:List D,vT l m=vT m l
 | [],[]=>rfl
 | [],_::_=>by erw[vT]
 | _::_,[]=>by erw[vT]
 | d::l,e::m=>by erw[vT,WQ d e,qX l m]
end
mutual section
def cm:sY->D->D->Bool
 | .Gt,d,e=>ltD e d
 | _,d,e=>ltD d e
def cms:sY->List D->List D->Bool
 | .Gt,d,e=>wQ e d
 | _,d,e=>wQ d e
def QD(ho:LG op)(l m:List D):uj op (λj=>eqD (l.getD j .non) (m.getD j .non)) (λj=>cm op (l.getD j .non) (m.getD j .non)) (λi=>cms op (l.drop i) (m.drop i)) l.length m.length:=by
 rcases ho with rfl | rfl
 ·exact Uk l m
 ·intro i b1 b2;have h:=Uk m l i b2 b1
  erw[zdc,cm,cms]at h ⊢
  rw[h,WQ (m.getD i .non)];by_cases q:i<l.length/\i<m.length
  ·rw[z6 q,z6 q.symm]
  ·rw[z9 q,z9 λz=>q z.symm]
theorem zdT:∀{l m:List D} {j:Nat} {d e:D},ZP l m->l[j]? = tE d->m[j]? = tE e->okD d e
 | d::l,e::m,0,_,_,h,q1,q2=>by
  cases q1;cases q2
  erw[ZP]at h
  exact h.1
 | d::l,e::m,j+1,_,_,h,q1,q2=>by
  erw[ZP]at h
  exact zdT (j:=j) h.2 q1 q2
theorem WV{X:Cx}{H:Hp}{s:pF}(hl:Iss X.K H l xs)(hm:Iss X.K H m ys)(r:Vals xs its)(r':Vals ys its')(hn:vw l<n)(ok:ZP l m)(ih:∀(d e:D) (x y:V) (u v:pD),dpD d<n->okD d e->Is X.K H d x->Is X.K H e y->RelV x u->RelV y v->qE op A s u v (cm op d e)) :
  ∀j (h1:j<its.toArray.size) (h2:j<its'.toArray.size),qE op A s its.toArray[j] its'.toArray[j] (cm op (l.getD j .non) (m.getD j .non)):=by
 intro j h1 h2;rw[al]at h1 h2;have e1:=hl.len;have e2:=hm.len;have e3:=r.length;have e4:=r'.length;have g1:l[j]? = tE l[j]:=ah ⋯;have g2:m[j]? = tE m[j]:=ah ⋯;generalize l[j]=d at g1;generalize m[j]=e at g2;let#[x,hx,ix]:=hl.at g1;let#[y,hy,iy]:=hm.at g2;let#[u,hu,ru]:=xX r hx;let#[v,hv,rv]:=xX r' hy
 have q1:its.toArray[j]=u:=by
  have:=(tL.mp hu).2;simpa using this
 have q2:its'.toArray[j]=v:=by
  have:=(tL.mp hv).2;simpa using this
 rw[q1,q2,ae,ae,g1,g2];exact ih d e x y u v (bn (za9 g1) hn) (zdT ok g1 g2) ix iy ru rv
theorem zb4(ho:LG op)(I:Inv X tI σ H s):∀(n:Nat) (A:rh) (d e:D) (x y:V) (u v:pD),A.units+n<cLine->dpD d<n->okD d e->Is X.K H d x->Is X.K H e y->RelV x u->RelV y v->qE op A s u v (cm op d e):=by
 intro n
 induction n with
 | zero=>intro A d e x y u v _ h;exact y9 h (bR _)
 | succ n ih =>
  intro A d e x y u v hu hd ok hx hy rx ry;have hu1:A.units<cLine:=⋯;have huA:A.in1.units+n<cLine:=by show A.units+1+n<cLine;lia
  cases d with
  | int a =>
   cases e with
   | int b =>
    erw[Is]at hx hy
    subst hx hy;let#[t,rfl]:=rx;let#[t',rfl]:=ry;rcases ho with rfl | rfl
    ·exact λprog w E Q h=>lt_int h
    ·exact λprog w E Q h=>gt_int h
   | _=>erw[okD]at ok
  | lst l =>
   cases e with
   | lst m =>
    erw[Is]at hx hy
    let#[a,xs,rfl,h1,h2]:=hx;let#[b,ys,rfl,g1,g2]:=hy;cases rx;cases ry;let#[its,r,p,_]:=I.list h1;let#[its',r',p',_]:=I.list g1
    erw[dpD]at hd
    erw[okD]at ok
    have L1:=h2.len;have L2:=g2.len;have L3:=r.length;have L4:=r'.length;have st:=QD ho l m;rw[show l.length=its.toArray.size by erw[al];lia,show m.length=its'.toArray.size by erw[al];lia]at st
    have r0:=LtAt.lists ho (A:=A) p.isList p'.isList st hu1 (xN h2 g2 r r' (n:=n) ⋯ λd e x y u v q1 q2 q3 q4 q5=>qM I n A.in1 d e x y u v huA q1 q2 q3 q4 q5)
     (λj h1 h2 Z=>WV (n:=n) (A:=A.in1) (by assumption) g2 r r' ⋯ ok (λd e x y u v q1 q2 q3 q4 q5 q6=>ih A.in1 d e x y u v huA q1 q2 q3 q4 q5 q6) j h1 h2)
    rcases id ho with rfl | rfl <;> exact r0
   | _=>erw[okD]at ok
  | tup l =>
   cases e with
   | tup m =>
    erw[Is]at hx hy
    let#[a,xs,rfl,h1,h2]:=hx;let#[b,ys,rfl,g1,g2]:=hy;cases rx;cases ry;let#[its,r,p,_]:=I.tuple h1;let#[its',r',p',_]:=I.tuple g1
    erw[dpD]at hd
    erw[okD]at ok
    have L1:=h2.len;have L2:=g2.len;have L3:=r.length;have L4:=r'.length;have st:=QD ho l m;rw[show l.length=its.toArray.size by erw[al];lia,show m.length=its'.toArray.size by erw[al];lia]at st
    have r0:=LtAt.tuples ho (A:=A) p p' st hu1 (xN h2 g2 r r' (n:=n) ⋯ λd e x y u v q1 q2 q3 q4 q5=>qM I n A.in1 d e x y u v huA q1 q2 q3 q4 q5)
     (λj h1 h2 Z=>WV (n:=n) (A:=A.in1) (by assumption) g2 r r' ⋯ ok (λd e x y u v q1 q2 q3 q4 q5 q6=>ih A.in1 d e x y u v huA q1 q2 q3 q4 q5 q6) j h1 h2)
    rcases id ho with rfl | rfl <;> exact r0
   | _=>erw[okD]at ok
  | non=>cases e <;> erw[okD]at ok
  | bl _=>cases e <;> erw[okD]at ok
  | str _=>cases e <;> erw[okD]at ok
def KU(I:Inv X tI σ H s):∀(n:Nat) (A:rh) (d e:D) (x y:V) (u v:pD),A.units+n<cLine->dpD d<n->okD d e->Is X.K H d x->Is X.K H e y->RelV x u->RelV y v->LtAt A s u v (ltD d e):=zb4 (.inl rfl) I
def zfY(K:pB):R2:=λx y H Q=>∃d e,Is K H d x/\Is K H e y/\dpD d<50/\okD d e/\Q (.bl (ltD d e)) H
theorem zcH(hu:X.A.units+100<cLine):OpR X (pH .Lt) (zfY X.K):=by intros x y v u Q I rx ry h;let#[d,e,hx,hy,hd,ok,q]:=h;exact KU I 50 X.A d e x y v u ⋯ hd ok hx hy rx ry X.prog X.w X.xe _ #[.bl _,H,I,rfl,q]
def zaD{K:pB}(h1:Is K H d x)(h2:Is K H e y)(h3:dpD d<50)(h4:okD d e)(q:Q (.bl (ltD d e)) H):zfY K x y H Q:=#[d,e,h1,h2,h3,h4,q]
def ltI:List Int->List Int->Bool
 | a::l,m=>match m with | b::m=>if a=b then ltI l m else decide (a<b) | []=>tH
 | [],m=>match m with | []=>tH | _::_=>tG
theorem uu:∀(l m:List Int),ZP (l.map D.int) (m.map D.int)
 | [],_=>by erw[aA,ZP]
 | _::_,[]=>by erw[aA,ak,ZP]
 | a::l,b::m=>by erw[ak,ZP,okD,true_and];exact uu l m
theorem YC:∀(l m:List Int),wQ (l.map D.int) (m.map D.int)=ltI l m
 | [],[]=>by erw[aA,wQ,ltI]
 | [],_::_=>by erw[aA,ak,wQ,ltI]
 | _::_,[]=>by erw[aA,ak,wQ,ltI]
 | a::l,b::m=>by
  erw[ak,wQ,ltI,eqD,ltD,YC l m,beq_iff_eq]
end
mutual
def xv:D->Prop
 | .lst _=>False
 | .tup l=>z8 l
 | _=>True
def z8:List D->Prop
 | []=>True
 | d::l=>xv d/\z8 l
end
def XQ{K:pB}(hp:H p=tE (.lst ys))(h:SqT K H a xs):SqT K (upd H p (.lst zs)) a xs:=by
 rcases h with (h | ⟨o,h⟩) | h
 ·refine .inl (.inl ?_);rw[zm (λe=>by rw[e,hp]at h;cases h)];exact h
 ·refine .inl (.inr #[o,?_]);rw[zm (λe=>by rw[e,hp]at h;cases h)];exact h
 ·exact .inr h
mutual
theorem Is.updL{K:pB}(hp:H p=tE (.lst ys)):∀(d:D) (v:V),xv d->Is K H d v->Is K (upd H p (.lst zs)) d v
 | .non,v,_,h=>by erw[Is]at h ⊢;exact h
 | .bl b,v,_,h=>by erw[Is]at h ⊢;exact h
 | .int b,v,_,h=>by erw[Is]at h ⊢;exact h
 | .str b,v,_,h=>by erw[Is]at h ⊢;exact h
 | .lst l,v,f,h=>by erw[xv]at f
 | .tup l,v,f,h=>by
  erw[Is]at h ⊢
  erw[xv]at f
  let#[a,xs,e1,e2,e3]:=h;exact#[a,xs,e1,XQ hp e2,Iss.updL hp l xs f e3]
theorem Iss.updL{K:pB}(hp:H p=tE (.lst ys)):∀(l:List D) (vs:List V),z8 l->Iss K H l vs->Iss K (upd H p (.lst zs)) l vs
 | [],vs,_,h=>by erw[Iss]at h ⊢;exact h
 | d::l,vs,f,h=>by
  erw[Iss]at h ⊢
  erw[z8]at f
  let#[v,r,e1,e2,e3]:=h;exact#[v,r,e1,Is.updL hp d v f.1 e2,Iss.updL hp l r f.2 e3]
end
mutual section
theorem wU:∀{l:List D},(∀d ∈ l,xv d)->z8 l
 | [],_=>by erw[z8]
 | d::l,h=>by erw[z8];exact#[h d (by simp),wU λe he=>h e (by simp [he])]
theorem Zp : ∀{l:List D},(∀d ∈ l,dpD d<=n)->vw l<=n
 | [],_=>by erw[vw];lia
 | d::l,h=>by
  have h1:=h d (by simp);have h2:=Zp (n:=n) (l:=l) λe he=>h e (by simp [he])
  erw[vw]
  lia
def LsA(K:pB)(H:Hp)(a:pC)(ds:List D):Prop:=∃xs,H a=tE (.lst xs)/\Iss K H ds xs
def LsA.same{K:pB}{H H':Hp}{a:pC}{ds:List D}(h:LsA K H a ds)(e:Same H H'):LsA K H' a ds:=let #[xs,h1,h2]:=h; #[xs,e _ _ h1,Iss.same e _ _ h2]
def LsA.is{K:pB}(h:LsA K H a ds):Is K H (.lst ds) (.ref a):=by
 let#[xs,h1,h2]:=h
 erw[Is]
 exact#[a,xs,rfl,SqL.of h1,h2]
def LsA.nil{K:pB}:LsA K (upd H a (.lst [])) a []:=#[[],zb,by erw[Iss]]
def LsA.snoc{K:pB}(h1:H a=tE (.lst xs))(h2:Iss K H ds xs)(f:z8 ds)(fd:xv d)(hv:Is K H d v):LsA K (upd H a (.lst (xs ++ [v]))) a (ds ++ [d]) :=
 #[_,zb,Iss.append (Iss.updL h1 _ _ f h2) (by erw[Iss];exact#[v,[],rfl,Is.updL h1 _ _ fd hv,rfl])]
def Is.tup{K:pB}{H:Hp}{p:pC}{vs:List V}{ds:List D}(hp:H p=tF)(h:Iss K H ds vs):Is K (upd H p (.tup vs)) (.tup ds) (.ref p):=by
 erw[Is]
 exact#[p,vs,rfl,SqT.of zb,Iss.same (zc hp) _ _ h]
abbrev dS(l:()):D:=⇑l
abbrev zG:=() × ()
def dR(r:zG):D:=.tup [dS r.1,dS r.2]
def zed{K:pB}(h:Is K H (dR r) v):∃p,v=.ref p/\SqT K H p [⇑r.1,⇑r.2]:=by
 erw[dR,Is,Iss]at h
 let#[a,xs,e,hs,v1,r1,rfl,rfl,v2,r2,rfl,rfl,rfl]:=h;exact#[a,e,hs]
def UF{K:pB}(h:SqT K H p [⇑l,⇑m]):Is K H (dR (l,m)) (.ref p):=by
 erw[dR,Is,Iss]
 exact#[p,_,rfl,h,_,_,rfl,rfl,_,_,rfl,rfl,rfl]
def Zj(r:zG):xv (dR r):=by erw[dR,xv,z8,and_self]
theorem zeZ(r:zG):dpD (dR r)<=1:=by erw[dR,dpD,vw];lia
def qA(rs:List zG):z8 (rs.map dR):=wU λd h=>by let#[r,_,rfl]:=tM.mp h;exact Zj r
def U8(rs:List zG):vw (rs.map dR)<=1:=Zp λd h=>by let#[r,_,rfl]:=tM.mp h;exact zeZ r
abbrev N3:=Nat × Nat × Nat
def d3(t:N3):D:=.tup [.int (t.1:Nat),.int (t.2.1:Nat),.int (t.2.2:Nat)]
def zfg{K:pB}(h:Is K H (d3 t) v):∃p,v=.ref p/\SqT K H p [.int (t.1:Nat),.int (t.2.1:Nat),.int (t.2.2:Nat)]:=by
 erw[d3,Is,Iss]at h
 let#[a,xs,e,hs,v1,r1,rfl,rfl,v2,r2,rfl,rfl,v3,r3,rfl,rfl,rfl]:=h;exact#[a,e,hs]
def zcF{K:pB}:Iss K H [.int (i:Nat),.int (j:Nat),.int (k:Nat)] [.int (i:Nat),.int (j:Nat),.int (k:Nat)]:=by
 erw[Iss,Is]
 exact#[_,_,rfl,rfl,_,_,rfl,rfl,_,_,rfl,rfl,rfl]
def zcj(t:N3):xv (d3 t):=by erw[d3,xv,z8,and_self]
def XW(rs:List N3):z8 (rs.map d3):=wU λd h=>by let#[r,_,rfl]:=tM.mp h;exact zcj r
theorem Iss.get{K:pB}{j:Nat}(h:Iss K H l vs)(q:vs[j]? = tE v):∃d,l[j]? = tE d/\Is K H d v:=by have hj:=(tL.mp q).1;have hl:=h.len;have g1:l[j]? = tE l[j]:=ah ⋯;let#[x,hx,ix]:=h.at g1;rw[q]at hx;cases hx;exact#[_,g1,ix]
def Iss.getR{K:pB}{rs:List zG}{j:Nat}(h:Iss K H (rs.map dR) vs)(q:vs[j]? = tE v):∃r p,rs[j]? = tE r/\v=.ref p/\SqT K H p [⇑r.1,⇑r.2]:=by let#[d,e,i]:=h.get q;rw[ay]at e;let#[r,hr,rfl]:=tS.mp e;let#[p,e1,e2]:=zed i;exact#[r,p,hr,e1,e2]
def Iss.get3{K:pB}{rs:List N3}{j:Nat}(h:Iss K H (rs.map d3) vs)(q:vs[j]? = tE v):∃r p,rs[j]? = tE r/\v=.ref p/\SqT K H p [.int (r.1:Nat),.int (r.2.1:Nat),.int (r.2.2:Nat)]:=by let#[d,e,i]:=h.get q;rw[ay]at e;let#[r,hr,rfl]:=tS.mp e;let#[p,e1,e2]:=zfg i;exact#[r,p,hr,e1,e2]
theorem zel(l:List α)(h0:0<=a)(h1:a<=b):cut l (tE a) (tE b)=(l.drop a.toNat).take (b - a).toNat:=by
 by_cases h2:b<=l.length
 ·exact Y7 l h0 h1 h2
 ·let#[m,rfl]:=bC h0;let#[n,rfl]:=bC (by lia:0<=b);unfold cut;rw[HT.sIx_nat,HT.sIx_nat,dX (by lia:l.length<=n)];have e:(((n:Nat):Int) - ((m:Nat):Int)).toNat=n - m:=⋯;have e2:((m:Nat):Int).toNat=m:=rfl;rw[e,e2,bj (l:=l.drop m) (by rw[bh];lia)];by_cases hm:m<=l.length
  ·rw[dC hm,bj (by rw[bh];lia)]
  ·rw[dX ⋯,aZ (am _),aZ ⋯,List.take_nil]
end
open Classical in
section
variable{X:Cx}{tI:List (pC × rH)}{σ:L2.St}{H:Hp}{s:pF}
open Classical in
end
mutual section
structure DM(P:pJ)(w:pR)(K:pB)(mg:pG->Option pD)(base:pS)(CX:CXT)(k:Nat)(C:pC)(m:pG)(ps:List pG)(sp:Sp):Prop where
 ex:∃f fd,zd3 K C m f/\FnOk P w K mg base CX k f fd ps sp/\Binds K fd ps []
structure DMk(P:pJ)(w:pR)(K:pB)(mg:pG->Option pD)(base:pS)(CX:CXT)(k:Nat)(C:pC)(ps:List pG)(sp:Sp):Prop where
 ex:∃f fd,Mk K C f/\FnOk P w K mg base CX k f fd ps sp/\Binds K fd ps []
def me0(D:DM X.prog X.w X.K X.mg X.base CX0 k C m ps sp)(c:Cls X.K C)(hr:Room j X.A)(he:PE X o ta)(ht:eval (.Call (.Attribute o m apos) [] [] pos) X.env=(do
      let ov <- eval o X.env
      standAt apos.atName
      let (f,first) <- holding [ov] (getMethod ov m pl)
      callWith pos f first (pQ pos (pq [] X.env)) (ra pos (pP [] X.env))):=by rfl) (hj:‹k<=j›):PE X (.Call (.Attribute o m apos) [] [] pos) (ZD C m sp [] E0 ta xp):=by let#[f,fd,hm,F,hb]:=D.ex;exact Kv he c hm F (hr.mono hj) hb .nil YQ ht
def me1(D:DM X.prog X.w X.K X.mg X.base CX0 k C m ps sp)(c:Cls X.K C)(hr:Room j X.A)(he:PE X o ta)(ha:PA X (e::es) t)(hst:‹pq (e::es) X.env=(tH,eval e X.env)::pq es X.env›)(hpl:‹(pQ pos (pq es X.env)).any (·.1)=tH›)(ht:eval (.Call (.Attribute o m apos) (e::es) [] pos) X.env=(do
      let ov <- eval o X.env
      standAt apos.atName
      let (f,first) <- holding [ov] (getMethod ov m pl)
      callWith pos f first (pQ pos (pq (e::es) X.env)) (ra pos (pP [] X.env))):=by rfl) (hj:‹k<=j›):PE X (.Call (.Attribute o m apos) (e::es) [] pos) (ZD C m sp [] E0 ta t):=by let#[f,fd,hm,F,hb]:=D.ex;exact zb3 he c hm F (hr.mono hj) hb .nil YQ ha hst hpl ht
def mkC(D:DMk X.prog X.w X.K X.mg X.base CX0 k C ps sp)(hr:Room j X.A)(hg:Gl X x)(hm:X.mg x=tE (.ref C))(ha:PA X (e::es) t)(hdb:‹(x ==("__debug__" : pG))=tH›)(he:‹pq (e::es) X.env=(tH,eval e X.env)::pq es X.env›)(hpl:‹(pQ pos (pq es X.env)).any (·.1)=tH›) (hj:‹k+1<=j›):PE X (.Call (.Name x p) (e::es) [] pos) (UL C sp [] E0 t):=by let#[f,fd,M,F,hb]:=D.ex;exact QK M F (hr.mono hj) hg hm hb .nil YQ ha hdb he hpl
def zw(Fam:pC->Prop)(m:pG)(sp:pC->Sp)(dvs:List V)(E:XK)(ta:TE)(t:TA):TE:=λσ H Q=>ta σ H λx H1=>∃C a dx fs,Fam C/\x=.ref a/\H1 a=tE (.ins C dx fs)/\fs.lookup m=tF /\
 t σ H1 λvs H2=>sp C (x::(vs ++ dvs)) H2 Q E
structure DMF(P:pJ)(w:pR)(K:pB)(mg:pG->Option pD)(base:pS)(CX:CXT)(k:Nat)(Fam:pC->Prop)(m:pG)(ps:List pG)(sp:pC->Sp):Prop where
 ex:∀C,Fam C->Cls K C/\DM P w K mg base CX k C m ps (sp C)
def zgR(D:DMF X.prog X.w X.K X.mg X.base CX0 k Fam m ps sp)(hr:Room j X.A)(he:PE X o ta)(ht:eval (.Call (.Attribute o m apos) [] [] pos) X.env=(do
      let ov <- eval o X.env
      standAt apos.atName
      let (f,first) <- holding [ov] (getMethod ov m pl)
      callWith pos f first (pQ pos (pq [] X.env)) (ra pos (pP [] X.env))):=by rfl) (hj:‹k<=j›):PE X (.Call (.Attribute o m apos) [] [] pos) (zw Fam m sp [] E0 ta xp):=by intros Q I h;refine bX (pl:=pl) (thn (he tI s σ H _ I h) λu s1=>el5 λx H1 I1 rx q_z=>?_) ht;let#[C,a,dx,fs,fam,ex,ea,l,q]:=q_z;subst ex;obtain rfl:u=r9 a:=rx;let#[c,#[f,fd,hm,F,hb]]:=D.ex C fam;refine wn I1 ea c hm l ?_;exact ge (first:=[.ref a]) I1.kIn hm.kp (j4 (us:=[.ref a]) (vs:=[.ref a]) F (hr.mono hj) hb .nil YQ I1 (.cons rfl .nil) q)
def zcx(D:DMF X.prog X.w X.K X.mg X.base CX0 k Fam m ps sp)(hr:Room j X.A)(he:PE X o ta)(ha:PA X (e::es) t)(hst:‹pq (e::es) X.env=(tH,eval e X.env)::pq es X.env›)(hpl:‹(pQ pos (pq es X.env)).any (·.1)=tH›)(ht:eval (.Call (.Attribute o m apos) (e::es) [] pos) X.env=(do
      let ov <- eval o X.env
      standAt apos.atName
      let (f,first) <- holding [ov] (getMethod ov m pl)
      callWith pos f first (pQ pos (pq (e::es) X.env)) (ra pos (pP [] X.env))):=by rfl) (hj:‹k<=j›):PE X (.Call (.Attribute o m apos) (e::es) [] pos) (zw Fam m sp [] E0 ta t):=by intros Q I h;refine bX (pl:=pl) (thn (he tI s σ H _ I h) λu s1=>el5 λx H1 I1 rx q_z=>?_) ht;let#[C,a,dx,fs,fam,ex,ea,l,q]:=q_z;subst ex;obtain rfl:u=r9 a:=rx;let#[c,#[f,fd,hm,F,hb]]:=D.ex C fam;refine wn I1 ea c hm l ?_;refine bL (first:=[.ref a]) (h₀:=X.base) I.ok.mod.kin hm.kp (thn (ha pos tI s1 σ H1 _ I1 q) λus s2=>el5 λvs H2 I2 r q2=>#[I2.kIn,?_]) hst hpl;exact j4 (us:=.ref a::us) (vs:=.ref a::vs) F (hr.mono hj) hb .nil YQ I2 (.cons rfl r) q2
theorem Wd:∀{ns:List Int} {its:List pD},Vals (ns.map V.int) its->sH its ns
 | [],_,.nil=>.nil
 | n::ns,_,.cons r t=>by
  let#[tk,rfl]:=r;exact .cons n tk (Wd t)
def yw(K:pB):List V->Hp->VK->Prop:=λxs H Q=>∃(p:pC) (ns:List Int),xs=[.ref p]/\SqL K H p (ns.map V.int)/\Q (.int ns.sum) H
def zfA(hc:X.calm=tG):vx X (.builtin "sum") (yw X.K):=by
 intros xs us Q I r h;let#[p,ns,rfl,hS,q]:=h;let#[u,rfl,ru]:=wr r;cases ru;let#[its,rv,pl,hz]:=I.list hS;have hh:X.A.handled=tF:=I.ok.hd hc;have ia:=Wd rv;let#[ps,e]:=ia.allInts.items
 have en:ps.toList.map (·.1)=ns:=by
  rw[<- nums_intItems,<- e];exact ia.numsOf
 refine sum_intListG hh (by rw[<- e];exact pl.isList) λh' tk t' hk=>?_;rw[preSum_eq,bj (by simp),en];exact#[.int ns.sum,H,I.kept hk,#[_,rfl],q]
def yy(te ts:TE):TE:=λσ H Q=>te σ H λx H1=>ts σ H1 λy H2=>y=.int (-1)/\∃l:(),x=⇑l/\l.length<=pA/\Q ⇑l.reverse H2
structure zgw(K:pB)(C:pC)(m:pG)(f:pC):Prop where
 sg:cJ K (.ref C) "__getattribute__" = tE (tE (.builtin "type.__getattribute__"))
 rd:gy K C (.type "type")=tG
 fc:gz K (.ref C) (.type "type") m=tE (.val (.ref f))
 kp:aK K (.ref f)=tG
structure DC(P:pJ)(w:pR)(K:pB)(mg:pG->Option pD)(base:pS)(CX:CXT)(k:Nat)(C:pC)(m:pG)(ps:List pG)(sp:Sp):Prop where
 ex:∃f fd,zgw K C m f/\FnOk P w K mg base CX k f fd ps sp/\Binds K fd ps []
def zbb(D:DC X.prog X.w X.K X.mg X.base CX0 k C m ps sp)(hr:Room j X.A)(hg:Gl X x)(hm:X.mg x=tE (.ref C))(ha:PA X (e::es) t)(hdb:‹(x ==("__debug__" : pG))=tH›)(hst:‹pq (e::es) X.env=(tH,eval e X.env)::pq es X.env›)(hpl:‹(pQ pos (pq es X.env)).any (·.1)=tH›)(ht:eval (.Call (.Attribute (.Name x p) m apos) (e::es) [] pos) X.env=(do
      let ov <- eval (.Name x p) X.env
      standAt apos.atName
      let (f,first) <- holding [ov] (getMethod ov m pl)
      callWith pos f first (pQ pos (pq (e::es) X.env)) (ra pos (pP [] X.env))):=by rfl) (hj:‹k<=j›):PE X (.Call (.Attribute (.Name x p) m apos) (e::es) [] pos) (qT sp [] E0 t):=by let#[f,fd,cm,F,hb]:=D.ex;have hn:PE X (.Name x p) (tC (.ref C)):=yT hg hm rfl hdb;intros Q I h;refine bX (pl:=pl) (thn (hn tI s σ H (λy H1=>y=.ref C/\H1=H) I #[rfl,rfl]) λu s1=>el5 λy H1 I1 ry q_z=>?_) ht;let#[ey,eH]:=q_z;subst ey eH;obtain rfl:u=r9 C:=ry;refine PySem.W.method_cls I1.kIn cm.sg (PySem.W.cls_value I1.kIn cm.rd cm.fc rfl ?_);refine bL (first:=[]) (h₀:=X.base) I.ok.mod.kin cm.kp (thn (ha pos tI _ σ H1 _ (I1.tok _) h) λus s2=>el5 λvs H2 I2 r q2=>#[I2.kIn,?_]) hst hpl;exact j4 (us:=us) (vs:=vs) F (hr.mono hj) hb .nil YQ I2 r q2
def zx:V->List V->Hp->VK->Prop:=λx xs H Q=>∃(z y:pG) (i:Nat),x=.str z/\xs=[.str y]/\PySem.Txt.find z y=(i:Int)/\Q (.int (i:Nat)) H
theorem zbJ:MtR X "str.index" zx:=by
 intros x xs v us Q I rx rv h;let#[z,y,i,rfl,rfl,hf,q]:=h;let#[t,rfl]:=rx;let#[u,rfl,t',rfl]:=wr rv;unfold PySem.Txt.find at hf
 cases ho:Builtin.Str.occurrences z y 0 z.length 1 with
 | nil=>rw[ho]at hf;dsimp only at hf;lia
 | cons a r =>
  rw[ho]at hf;have:a=i:=by dsimp only at hf;lia
  subst this;exact PySem.SC.index ho #[.int _,H,I.tok _,#[_,rfl],q]
def vt{h h':pS}(y:h.IsStrIter a ty x t i)(e:∀o,h.get? a=tE o->h'.get? a=tE o):h'.IsStrIter a ty x t i:=let #[o,ho,r]:=y; #[o,e o ho,r]
def uq{h h':pS}(y:h.IsTupleIter a t i)(e:∀o,h.get? a=tE o->h'.get? a=tE o):h'.IsTupleIter a t i:=let #[o,ho,r]:=y; #[o,e o ho,r]
def zak{h h':pS}(y:h.IsTuple a xs)(e:∀o,h.get? a=tE o->h'.get? a=tE o):h'.IsTuple a xs:=let #[o,ho,r]:=y; #[o,e o ho,r]
def sit(x:pG):pW x="str_ascii_iterator"\/pW x="str_iterator":=by
 unfold pW;split
 ·exact .inl rfl
 ·exact .inr rfl
def jy(hit:s.heap.IsStrIter it (pW x) x t i)(hx:x.cps[i]? = tE c)(hQ:∀h',h'.IsStrIter it (pW x) x t (i+1)->Heap.SameBut it s.heap h'->Q (.str ⟨#[c]⟩ s.toks) { s with heap:=h',toks:=s.toks+1 }) :
  pE (model prog w) A (Builtin.SmallTypes.nextOf (.ref it)) Q E s:=by
 rcases sit x with e | e
 ·rw[e]at hit hQ;exact wpAny_nextOf_ascii_item hit hx hQ
 ·rw[e]at hit hQ;exact wpAny_nextOf_wide_item hit hx hQ
def jT(hh:A.handled=tF)(hit:s.heap.IsStrIter it (pW x) x t i)(hx:x.cps[i]? = tF)(hE:∀h' e,Heap.ExtBut it s.heap h'->(∃o,h'.get? e=tE o/\o.cls=.type "StopIteration")->E (.ref e) { s with heap:=h' }) :
  pE (model prog w) A (Builtin.SmallTypes.nextOf (.ref it)) Q E s:=by
 rcases sit x with e | e
 ·rw[e]at hit;exact wpAny_nextOf_ascii_end hh hit hx hE
 ·rw[e]at hit;exact wpAny_nextOf_wide_end hh hit hx hE
def ja(hit:s.heap.IsTupleIter it t i)(ht:s.heap.IsTuple t items)(hx:items[i]? = tE x)(hQ:∀h',h'.IsTupleIter it t (i+1)->Heap.SameBut it s.heap h'->Q x { s with heap:=h' }) :
  pE (model prog w) A (Builtin.SmallTypes.nextOf (.ref it)) Q E s:=by
 let#[o,ho,hc,hd]:=id hit;let#[ol,hol,_,nl,hdl]:=ht;unfold Builtin.SmallTypes.nextOf
 refine ph (wpAny_callSpecial?_slot (name:=bA "__next__") hit.typeIs F.slot_tuple_iterator_next
  (rR F.slot_tuple_iterator_next hit.typeIs F.entry_tuple_iterator_next ?_ (F.args_tuple_iterator_next_1 _)))
 show pE _ _ (field (.ref it) 0 >>= _) _ _ s;refine ph (pO ho hd (x:=.ref t) rfl ?_);show pE _ _ (if (r9 t == p9)=tG then _ else _) _ _ s;rw[z9 (show ¬ ((r9 t == p9)=tG)from aB)];show pE _ _ (field (.ref it) 1 >>= _) _ _ s;refine ph (pO ho hd (x:=.int i 0) rfl ?_);show pE _ _ (seqItems? (.ref t) >>= _) _ _ s;refine ph (re hol hdl ?_)
 erw[aR,hx]
 refine ph (rm ho hd (by simp) (pi #[x,rfl,pi (hQ _ ?_ (Heap.SameBut.update ..))]))
 exact#[_,bY _ ho (Obj.isFreed_of_fields (Obj.data_mapFields hd _)),(Obj.cls_mapFields ..).trans hc,by
  rw[Obj.data_mapFields hd];simp [rawInt]]
structure zcC(z TI TO i1 i2 l2:pC):Prop extends Kx z TI TO i1 i2 where
 l2z:l2≠z
 l2TO:l2≠TO
 l2i1:l2≠i1
 l2i2:l2≠i2
def JC{z TI TO i1 i2 l2:pC}{tx:sP}{Q:pD->pF->Prop}(D:zcC z TI TO i1 i2 l2)(hz:rZ s.heap z TI TO .none)(hTI:rn s.heap TI (.ref i1) (.ref i2))(hTO:rn s.heap TO a b)(h1:s.heap.IsStrIter i1 (pW X) X tx k)(h2:s.heap.IsTupleIter i2 l2 k)(hl2:s.heap.IsTuple l2 ys)(hx:X.cps[k]? = tE c)(hy:ys[k]? = tE y)(hQ:∀h' t',rZ h' z TI TO (rawInt s⁻¹)->rn h' TO (.str ⟨#[c]⟩ t') y->h'.IsStrIter i1 (pW X) X tx (k+1)->h'.IsTupleIter i2 l2 (k+1)->rn h' s⁻¹ (.str ⟨#[c]⟩ t') y->h'.objs.size=s⁻¹+1 ->
   (∀c o,c≠z->c≠TO->c≠i1->c≠i2->s.heap.get? c=tE o->h'.get? c=tE o)->Q (.ref s⁻¹) { s with heap:=h',toks:=s.toks+1 }) :
  pE (model prog w) A (Builtin.«zip.__next__» #[[.ref z],[]]) (λfin s'=>∃v,fin=.done (.ret v)/\Q v s') E s:=by
 show pE _ _ (field (.ref z) 2 >>= _) _ _ _;refine ph (pO hz rfl (x:=.bool tH) rfl ?_);show pE _ _ (field (.ref z) 3 >>= _) _ _ _;refine ph (pO hz rfl (x:=.ref TI) rfl ?_);refine ph (re hTI rfl ?_);show pE _ _ (Builtin.SmallTypes.ownedTupleIsFree (.ref z) >>= _) _ _ _;refine ph ?_;unfold Builtin.SmallTypes.ownedTupleIsFree;refine ph (pO hz rfl (x:=.none) rfl (pi ?_))
 erw[if_true]
 refine ph (sk ?_);refine ph (pO hz rfl (x:=.ref TO) rfl ?_);refine ph (rB hz (by simp) λh₁ hz₁ hs₁=>?_)
 replace hz₁:rZ h₁ z TI TO .ellipsis:=hz₁
 refine ph ?_
 erw[List.zipIdx_cons,List.zipIdx_nil,dB,fO]
 refine ph (ph (sL ?_));show pE _ _ (Builtin.SmallTypes.nextOf (.ref i1) >>= _) _ _ _;refine ph (jy (s:={ s with heap:=h₁ }) (vt h1 λo e=>hs₁.extBut _ _ D.i1z e) hx λh₂ h1₂ hs₂=>pi ?_);have hTO₂:rn h₂ TO a b:=hs₂.extBut _ _ D.TOi1 (hs₁.extBut _ _ D.TOz hTO);refine ph (re hTO₂ rfl ?_);refine ph (sy hTO₂ λh₃ hTO₃ hs₃=>?_)
 replace hTO₃:rn h₃ TO (.str ⟨#[c]⟩ s.toks) b:=hTO₃
 refine ph (rO (pi ?_));refine ph (ph (sL ?_));show pE _ _ (Builtin.SmallTypes.nextOf (.ref i2) >>= _) _ _ _;have up3:∀d o,d≠z->d≠i1->d≠TO->s.heap.get? d=tE o->h₃.get? d=tE o:=λd o d1 d2 d3 e=>hs₃.extBut _ _ d3 (hs₂.extBut _ _ d2 (hs₁.extBut _ _ d1 e));refine ph (ja (uq h2 λo e=>up3 _ o D.i2z D.i12.symm D.TOi2.symm e) (zak hl2 λo e=>up3 _ o D.l2z D.l2i1 D.l2TO e) hy λh₄ h2₄ hs₄=>pi ?_);have hTO₄:rn h₄ TO (.str ⟨#[c]⟩ s.toks) b:=hs₄.extBut _ _ D.TOi2 hTO₃;refine ph (re hTO₄ rfl ?_);refine ph (sy hTO₄ λh₅ hTO₅ hs₅=>?_)
 replace hTO₅:rn h₅ TO (.str ⟨#[c]⟩ s.toks) y:=hTO₅
 refine ph (rO (pi (pi ?_)));refine ph (re hTO₅ rfl ?_);refine ph (sB ?_);have hsz:h₅.objs.size=s⁻¹:=by rw[hs₅.1,hs₄.1,hs₃.1,hs₂.1,hs₁.1]
 have hz₅:rZ h₅ z TI TO .ellipsis:=hs₅.extBut _ _ D.TOz.symm (hs₄.extBut _ _ D.i2z.symm (hs₃.extBut _ _ D.TOz.symm (hs₂.extBut _ _ D.i1z.symm hz₁)))
 have hk₅:∀c o,c≠z->c≠TO->c≠i1->c≠i2->s.heap.get? c=tE o->h₅.get? c=tE o:=λc o c1 c2 c3 c4 e =>
  hs₅.extBut _ _ c2 (hs₄.extBut _ _ c4 (up3 _ _ c1 c3 c2 e))
 have h1₅:h₅.IsStrIter i1 (pW X) X tx (k+1):=vt h1₂ λo e=>hs₅.extBut _ _ D.TOi1.symm (hs₄.extBut _ _ D.i12 (hs₃.extBut _ _ D.TOi1.symm e));have h2₅:h₅.IsTupleIter i2 l2 (k+1):=uq h2₄ λo e=>hs₅.extBut _ _ D.TOi2.symm e;have hzlt:z<h₅.objs.size:=au hz₅;show pE _ _ (Builtin.SmallTypes.ownedTupleHandOut (.ref z) (.ref h₅.objs.size) >>= _) _ _ _;refine ph ?_;unfold Builtin.SmallTypes.ownedTupleHandOut;have hz₆:rZ (h₅.push { cls:=.type "tuple",data:=.seq (u9 [.str ⟨#[c]⟩ s.toks,y]) }) z TI TO .ellipsis:=ac _ hz₅;refine ph (rB hz₆ (by simp) λh₇ hz₇ hs₇=>?_)
 replace hz₇:rZ h₇ z TI TO (rawInt h₅.objs.size):=hz₇
 refine rB hz₇ (by simp) λh₈ hz₈ hs₈=>?_
 replace hz₈:rZ h₈ z TI TO (rawInt h₅.objs.size):=hz₈
 have up:∀c o,c≠z->h₅.get? c=tE o->h₈.get? c=tE o:=λc o c1 e=>hs₈.extBut _ _ c1 (hs₇.extBut _ _ c1 (ac _ e));have hT₈:rn h₈ h₅.objs.size (.str ⟨#[c]⟩ s.toks) y:=hs₈.extBut _ _ (bU hzlt) (hs₇.extBut _ _ (bU hzlt) (aD _ rfl));have hz8:h₈.objs.size=h₅.objs.size+1:=by rw[hs₈.1,hs₇.1,bG]
 rw[hsz]at hz₈ hT₈ hz8;refine pi #[_,rfl,?_];show Q (.ref h₅.objs.size) _;rw[hsz];exact hQ h₈ s.toks hz₈ (up _ _ D.TOz hTO₅) (vt h1₅ λo e=>up _ o D.i1z e) (uq h2₅ λo e=>up _ o D.i2z e) hT₈ hz8 λc o c1 c2 c3 c4 e=>up c o c1 (hk₅ c o c1 c2 c3 c4 e)
def zby{z TI TO i1 i2 l2:pC}{tx:sP}(hh:A.handled=tF)(D:zcC z TI TO i1 i2 l2)(hz:rZ s.heap z TI TO .none)(hTI:rn s.heap TI (.ref i1) (.ref i2))(hTO:rn s.heap TO a b)(h1:s.heap.IsStrIter i1 (pW X) X tx k)(hx:X.cps[k]? = tF)(hE:∀h' e,(∀c o,c≠z->c≠TO->c≠i1->c≠i2->s.heap.get? c=tE o->h'.get? c=tE o)->(∃o,h'.get? e=tE o/\o.cls=.type "StopIteration")->E (.ref e) { s with heap:=h' }) :
  pE (model prog w) A (Builtin.«zip.__next__» #[[.ref z],[]]) Q E s:=by
 show pE _ _ (field (.ref z) 2 >>= _) _ _ _;refine ph (pO hz rfl (x:=.bool tH) rfl ?_);show pE _ _ (field (.ref z) 3 >>= _) _ _ _;refine ph (pO hz rfl (x:=.ref TI) rfl ?_);refine ph (re hTI rfl ?_);show pE _ _ (Builtin.SmallTypes.ownedTupleIsFree (.ref z) >>= _) _ _ _;refine ph ?_;unfold Builtin.SmallTypes.ownedTupleIsFree;refine ph (pO hz rfl (x:=.none) rfl (pi ?_))
 erw[if_true]
 refine ph (sk ?_);refine ph (pO hz rfl (x:=.ref TO) rfl ?_);refine ph (rB hz (by simp) λh₁ hz₁ hs₁=>?_)
 replace hz₁:rZ h₁ z TI TO .ellipsis:=hz₁
 refine ph ?_
 erw[List.zipIdx_cons,List.zipIdx_nil,dB,fO]
 refine ph (ph (sL ?_));show pE _ _ (Builtin.SmallTypes.nextOf (.ref i1) >>= _) _ _ _;refine ph (jT (s:={ s with heap:=h₁ }) hh (vt h1 λo e=>hs₁.extBut _ _ D.i1z e) hx λh₂ e hs₂ he=>?_);let#[oe,hoe,hce]:=he;have hz₂:rZ h₂ z TI TO .ellipsis:=hs₂ _ _ D.i1z.symm hz₁;have hez:e≠z:=λx=>by subst x;rw[hz₂]at hoe;cases hoe;simp at hce
 refine rB hz₂ (by simp) λh₃ Z hs₃=>hE h₃ e (λc o c1 Z c3 Z x=>hs₃.extBut _ _ c1 (hs₂ _ _ c3 (hs₁.extBut _ _ c1 x))) #[oe,hs₃.extBut _ _ hez hoe,hce]
def qO{z TI TO i1 i2 l2:pC}{tx:sP}(D:zcC z TI TO i1 i2 l2)(hz:rZ s.heap z TI TO .none)(hTI:rn s.heap TI (.ref i1) (.ref i2))(hTO:rn s.heap TO a b)(h1:s.heap.IsStrIter i1 (pW X) X tx k)(h2:s.heap.IsTupleIter i2 l2 k)(hl2:s.heap.IsTuple l2 ys)(hx:X.cps[k]? = tE c)(hy:ys[k]? = tE y)(hQ:∀h' t',rZ h' z TI TO (rawInt s⁻¹)->rn h' TO (.str ⟨#[c]⟩ t') y->h'.IsStrIter i1 (pW X) X tx (k+1)->h'.IsTupleIter i2 l2 (k+1)->rn h' s⁻¹ (.str ⟨#[c]⟩ t') y->h'.objs.size=s⁻¹+1 ->
   (∀c o,c≠z->c≠TO->c≠i1->c≠i2->s.heap.get? c=tE o->h'.get? c=tE o)->Q (tE (.ref s⁻¹)) { s with heap:=h',toks:=s.toks+1 }) :
  pE (model prog w) A (pyNext (.ref z)) Q E s:=by
 have hT:s.TypeIs (.ref z) "zip":=#[_,hz,rfl];unfold pyNext
 exact ph (rT (wpAny_callSpecial?_slot (name:=bA "__next__") hT F.slot_zip_next
  (rR F.slot_zip_next hT F.entry_zip_next
   (JC D hz hTI hTO h1 h2 hl2 hx hy λh' t' a1 a2 a3 a4 a5 a6 a7=>pi (hQ h' t' a1 a2 a3 a4 a5 a6 a7)) (F.args_zip_next_1 _))))
def jR{z TI TO i1 i2 l2:pC}{tx:sP}(hh:A.handled=tF)(D:zcC z TI TO i1 i2 l2)(hz:rZ s.heap z TI TO .none)(hTI:rn s.heap TI (.ref i1) (.ref i2))(hTO:rn s.heap TO a b)(h1:s.heap.IsStrIter i1 (pW X) X tx k)(hx:X.cps[k]? = tF)(hQ:∀h',(∀c o,c≠z->c≠TO->c≠i1->c≠i2->s.heap.get? c=tE o->h'.get? c=tE o)->Q tF { s with heap:=h' }):pE (model prog w) A (pyNext (.ref z)) Q E s:=by
 have hT:s.TypeIs (.ref z) "zip":=#[_,hz,rfl];unfold pyNext
 refine ph (rT (wpAny_callSpecial?_slot (name:=bA "__next__") hT F.slot_zip_next
  (rR F.slot_zip_next hT F.entry_zip_next (zby hh D hz hTI hTO h1 hx λh' e hk he=>?_) (F.args_zip_next_1 _))))
 let#[o,ho,hc]:=he;refine ph (wpAny_isInstance (T:="StopIteration") (b:=tG) #[o,ho,hc] isSubtype_stop ?_);exact pi (hQ _ hk)
abbrev zeB(h:pS)(x:pG)(t:sP):pS:=h.push { cls:=.type (pW x),data:=.fields (u9 [.str x t,.int 0 0]) }
abbrev zeF(h:pS)(x:pG)(t:sP)(l2:pC):pS:=(zeB h x t).push { cls:=.type "tuple_iterator",data:=.fields (u9 [.ref l2,.int 0 0]) }
abbrev zex(h:pS)(x:pG)(t:sP)(l2:pC):pS:=(zeF h x t l2).push { cls:=.type "tuple",data:=.seq (u9 [.ref h.objs.size,.ref (zeB h x t).objs.size]) }
abbrev zeD(h:pS)(x:pG)(t:sP)(l2:pC):pS:=(zex h x t l2).push { cls:=.type "tuple",data:=.seq (u9 [.none,.none]) }
abbrev zbh(h:pS)(x:pG)(t:sP)(l2:pC):pS:=(zeD h x t l2).push { cls:=.type "zip",data:=.fields (u9 [.none,.bool tH,.bool tH,.ref (zeF h x t l2).objs.size,.ref (zex h x t l2).objs.size]) }
def Zq(x:pG)(t:sP)(l2:pC)(ys:Array pD) :
  Meets (Builtin.«zip.__new__» #[[.type "zip",.str x t,.ref l2],[]]) (λZ R s=>s.heap.IsTuple l2 ys /\
   R (.ok (.ret (.ref (zeD s.heap x t l2).objs.size))) { s with heap:=zbh s.heap x t l2 }) :=
 .of_wp λprog w A R s h=>by
  let#[hp,g,d,tk,os]:=s;let#[hl2,h]:=h;have hsub:=sub_zip;have hL2:Heap.IsTuple (Shared.heap #[hp.push { cls:=.type (pW x),data:=.fields (u9 [.str x t,.int 0 0]) },g,d,tk,os]) l2 ys:=zak hl2 λo e=>ac _ e
  wp_walk using wpAny_pyIter_strU (s:=#[hp,g,d,tk,os]) (x:=x) (t:=t),sN hL2
  exact#[_,rfl,h]
def Kk(hl2:s.heap.IsTuple l2 ys)(h:∀h',rZ h' (s⁻¹+4) (s⁻¹+2) (s⁻¹+3) .none->rn h' (s⁻¹+2) (.ref s⁻¹) (.ref (s⁻¹+1)) ->
   rn h' (s⁻¹+3) .none .none->h'.IsStrIter s⁻¹ (pW x) x t 0->h'.IsTupleIter (s⁻¹+1) l2 0->h'.objs.size=s⁻¹+5 ->
   (∀c o,s.heap.get? c=tE o->h'.get? c=tE o)->Q (.ref (s⁻¹+4)) { s with heap:=h' }) :
  pE (model prog w) A (call (.type "zip") [.str x t,.ref l2]) Q E s:=by
 refine callType_new F.called_zip ∅ (F.typeCall_zip_2 _ _) (F.newCall_zip_2 _ _) (λobj=>F.args_object_init_3 obj _ _) F.entry_zip_new
  (Zq x t l2 ys) #[hl2,?_]
 have z1:(zeB s.heap x t).objs.size=s⁻¹+1:=bG ..;have z2:(zeF s.heap x t l2).objs.size=s⁻¹+2:=by rw[bG,z1]
 have z3:(zex s.heap x t l2).objs.size=s⁻¹+3:=by rw[bG,z2]
 have z4:(zeD s.heap x t l2).objs.size=s⁻¹+4:=by rw[bG,z3]
 have z5:(zbh s.heap x t l2).objs.size=s⁻¹+5:=by rw[bG,z4]
 have g5:(zbh s.heap x t l2).get? (zeD s.heap x t l2).objs.size=tE _:=aD _ rfl;have g4:(zbh s.heap x t l2).get? (zex s.heap x t l2).objs.size=tE _:=ac _ (aD _ rfl);have g3:(zbh s.heap x t l2).get? (zeF s.heap x t l2).objs.size=tE _:=ac _ (ac _ (aD _ rfl));have g2:(zbh s.heap x t l2).get? (zeB s.heap x t).objs.size=tE _:=ac _ (ac _ (ac _ (aD _ rfl)));have g1:(zbh s.heap x t l2).get? s⁻¹=tE _:=ac _ (ac _ (ac _ (ac _ (aD _ rfl))));show _/\_;rw[z2,z3,z4]at g5;rw[z1,z2]at g3;rw[z3]at g4;rw[z1]at g2;rw[z4]
 exact#[#[_,g5,rfl],h _ g5 g3 g4 #[_,g1,rfl,rfl] #[_,g2,rfl,rfl] z5 λc o x =>
  ac _ (ac _ (ac _ (ac _ (ac _ x))))]
def Izs(K:pB)(l:())(b:pC):It:=#[λi H=>∃ys y,SqT K H b ys/\i<l.length/\ys[i]? = tE y,λi H v H'=>∃p c y,H p=tF/\l[i]? = tE c/\(∀ys,SqT K H b ys->ys[i]? = tE y)/\v=.ref p/\H'=upd H p (.tup [⇑[c],y]),λi H=>i=l.length]
def ZSt(z TI TO i1 i2:pC)(X:pG)(t:sP)(l2:pC)(i:Nat)(h:pS):Prop:=rZ h z TI TO .none/\rn h TI (.ref i1) (.ref i2)/\(∃a b,rn h TO a b)/\h.IsStrIter i1 (pW X) X t i/\h.IsTupleIter i2 l2 i
theorem Q9{K:pB}(z TI TO i1 i2 l2:pC)(l:())(t:sP)(D:zcC z TI TO i1 i2 l2) :
  Q5 P w K (.Tuple elts x1 tpos) (Izs K l l2) [z,TI,TO,i1,i2] z (λi h=>ZSt z TI TO i1 i2 (tx l) t l2 i h) where
 mem:=by simp
 obj:=λi h st b hb=>by
  let#[hz,hTI,#[a,c,hTO],#[o1,e1,c1,d1],#[o2,e2,c2,d2]]:=st
  erw[be,e8,or_false]at hb
  rcases hb with rfl | rfl | rfl | rfl | rfl
  ·exact#[_,hz,λv q=>by have q':Data.fields _=Data.cell v:=q;cases q']
  ·exact#[_,hTI,λv q=>by have q':Data.seq _ _=Data.cell v:=q;cases q']
  ·exact#[_,hTO,λv q=>by have q':Data.seq _ _=Data.cell v:=q;cases q']
  ·exact#[o1,e1,λv q=>by rw[d1]at q;cases q]
  ·exact#[o2,e2,λv q=>by rw[d2]at q;cases q]
 keep:=λi h h' st k=>by
  let#[hz,hTI,#[a,c,hTO],h1,h2]:=st;exact#[k z (by simp) _ hz,k TI (by simp) _ hTI,#[a,c,k TO (by simp) _ hTO],vt h1 λo e=>k i1 (by simp) o e,uq h2 λo e=>k i2 (by simp) o e]
 item:=by
  intro X hP hw hK hc i tI s σ H E I hf st hg;subst hP hw hK;let#[ys,y,hqy,hi,hy]:=hg;let#[its2,rv2,p2,_]:=I.tuple hqy;let#[u2,hu2,ru2]:=rv2.get hy;let#[hz,hTI,#[a,b,hTO],h1,h2]:=st;have hl2:s.heap.IsTuple l2 its2.toArray:=p2
  have hx:(tx l).cps[i]? = tE l[i]:=by
   show l.toArray[i]? = _;simp [hi]
  refine qO D hz hTI hTO h1 h2 hl2 hx (y:=u2) ↥hu2 λh' t' a1 a2 a3 a4 a5 a6 hk=>?_;refine#[_,rfl,wpAny_letOwnedTupleGo_zip (s:={ s with heap:=h',toks:=s.toks+1 }) a1 λh2' hz2 sb=>?_];have zlt:z<s⁻¹:=au hz;have TIlt:TI<s⁻¹:=au hTI;have TOlt:TO<s⁻¹:=au hTO;have i1lt:i1<s⁻¹:=by let#[o,e,_]:=h1;exact au e
  have i2lt:i2<s⁻¹:=by let#[o,e,_]:=h2;exact au e
  have I1:Inv X tI σ H { s with heap:=h2',toks:=s.toks+1 }:=Inv.turns (fp:=[z,TI,TO,i1,i2]) I (λb o hb q=>by
   have hb':b≠z/\b≠TI/\b≠TO/\b≠i1/\b≠i2:=by simpa using hb
   exact (sb.2 b hb'.1).trans (hk b o hb'.1 hb'.2.2.1 hb'.2.2.2.1 hb'.2.2.2.2 q)) hf
  have hp:H s⁻¹=tF:=I.hok.fresh (am _);have hT2:h2'.get? s⁻¹=tE { cls:=.type "tuple",data:=.seq (u9 [.str ⟨#[l[i]]⟩ t',u2]) }:=(sb.2 _ (bU zlt)).trans a5;have ru1:RelV ⇑[l[i]] (.str ⟨#[l[i]]⟩ t'):=#[t',rfl]
  have I2:Inv X tI σ (upd H s⁻¹ (.tup [⇑[l[i]],y])) { s with heap:=h2',toks:=s.toks+1 } :=
   Inv.track I1 (I.fpOk (am _) hp) #[by show 2<=pA;decide,[.str ⟨#[l[i]]⟩ t',u2],.cons ru1 (.cons ru2 .nil),#[_,hT2,rfl,_,rfl]]
  refine#[.ref s⁻¹,_,I2,rfl,#[s⁻¹,l[i],y,hp,by simp [hi],λzs hz'=>by rw[I.tuple_inj hz' hqy];exact hy,rfl,rfl],#[hz2,(sb.2 _ D.TIz).trans (hk _ _ D.TIz D.TITO D.TIi1 D.TIi2 hTI),#[_,_,(sb.2 _ D.TOz).trans a2],vt a3 λo e=>(sb.2 _ D.i1z).trans e,uq a4 λo e=>(sb.2 _ D.i2z).trans e],λb hb=>?_];rw[zm]
  ·exact (hf b hb).1
  ·erw[be,e8,or_false]at hb
   rcases hb with rfl | rfl | rfl | rfl | rfl <;> exact ax (by assumption)
 done:=by
  intro X hP hw hK hc i tI s σ H E I hf st hg;subst hP hw hK;have hi:i=l.length:=hg;let#[hz,hTI,#[a,b,hTO],h1,h2]:=st;refine jR (I.ok.hd hc) D hz hTI hTO h1 ?_ λh' hk=>#[rfl,?_]
  ·show l.toArray[i]? = tF;simp [hi]
  ·exact Inv.turns (fp:=[z,TI,TO,i1,i2]) (t':=s.toks) I (λb o hb q=>by
    have hb':b≠z/\b≠TI/\b≠TO/\b≠i1/\b≠i2:=by simpa using hb
    exact hk b o hb'.1 hb'.2.2.1 hb'.2.2.2.1 hb'.2.2.2.2 q) hf
 self:=λA i s Q E st h=>sU st.1 h
def iZs(K:pB)(ta:TA):TI:=λσ H R=>ta σ H λvs H1=>∃l b,vs=[⇑l,.ref b]/\(∃ys,SqT K H1 b ys)/\R (Izs K l b) H1
def zdW(hg:Gl X "zip")(hm:X.mg "zip" = tF)(ha:PA X [a,b] ta)(hs:‹pq [a,b] X.env=(tH,eval a X.env)::pq [b] X.env›)(hpl:‹(pQ pos (pq [b] X.env)).any (·.1)=tH›):PI X (.Tuple elts x1 tpos) (.Call (.Name "zip" p) [a,b] [] pos) (iZs X.K ta):=by
 intros R I h;refine Call_ (vC I hg hm PyProof.Rows.boot_zip (bB (thn (ha pos tI s σ H _ I h) λus s1=>el5 λvs H1 I1 r1 q1=>?_) hs hpl));let#[l,l2,e,#[ys,hqy],q]:=q1;subst e;let#[u1,u2,rfl,ru1,ru2]:=UW r1;let#[t,rfl]:=ru1;cases ru2;let#[its2,rv2,p2,_]:=I1.tuple hqy;have hl2:s1.heap.IsTuple l2 its2.toArray:=p2;have l2lt:l2<s1⁻¹:=by let#[o,e,_]:=hl2;exact au e
 have ne:∀a b:Nat,a≠b->s1⁻¹+a≠s1⁻¹+b:=λa b h e=>h (Nat.add_left_cancel e);have nl:∀a:Nat,l2≠s1⁻¹+a:=λa=>ax (ao l2lt (cC _ _));refine Kk hl2 λh' hz hTI hTO h1 h2 hsz kk=>?_;have I2:Inv X tI σ H1 { s1 with heap:=h' }:=I1.kept (t':=s1.toks) kk;refine sU (s:={ s1 with heap:=h' }) hz ?_;refine#[s1⁻¹+4,[s1⁻¹+4,s1⁻¹+2,s1⁻¹+3,s1⁻¹,s1⁻¹+1],_,_,H1,rfl,I2,Q9 (s1⁻¹+4) (s1⁻¹+2) (s1⁻¹+3) s1⁻¹ (s1⁻¹+1) l2 l t #[#[ne 2 4 ∅,ne 3 4 ∅,ne 0 4 ∅,ne 1 4 ∅,ne 2 3 ∅,ne 2 0 ∅,ne 2 1 ∅,ne 3 0 ∅,ne 3 1 ∅,ne 0 1 ∅],nl 4,nl 3,nl 0,nl 1],#[hz,hTI,#[_,_,hTO],h1,h2],λb hb=>?_,q]
 have hb':s1⁻¹<=b:=by
  erw[be,e8,or_false]at hb
  rcases hb with e | e | e | e | e
  ·rw[e];exact cC _ _
  ·rw[e];exact cC _ _
  ·rw[e];exact cC _ _
  ·rw[e];exact am _
  ·rw[e];exact cC _ _
 exact I1.fpOk hb' (I1.hok.fresh hb')
def CompZ(K:pB)(l:())(b:pC)(g:TG)(tt:TT)(te:TE)(own:Nat)(ix:())(σ:L2.St)(H1:Hp)(Q:VK)(D:pC):Prop:=Vl (Izs K l b) g tt te own ix σ H1 Q D
def zN{K:pB}:qP (iZs K ta) g tt te own ix σ H Q=ta σ H λvs H1=>∃l b,vs=[⇑l,.ref b]/\(∃ys,SqT K H1 b ys)/\∀D,H1 D=tF->CompZ K l b g tt te own ix σ H1 Q D:=rfl
theorem CompZ.by{g:TG}{tt:TT}{te:TE}{own:Nat}{ix:()}{σ:L2.St}{H1:Hp}{Q:VK}{D:pC}{K:pB}(Pv:Nat->List V->Hp->Prop)(hlen:l.length=ys.length)(h0:Pv 0 [] (upd H1 D (.lst [])))(hl:∀i tK H',i<=l.length->Pv i tK H'->SqT K H' b ys)(hs:∀i c y tK H' p,l[i]? = tE c->ys[i]? = tE y->Pv i tK H'->H' p=tF->g (.ref p) (wX σ own ix) (upd H' p (.tup [⇑[c],y])) λσ3 H3=>xm (wX σ own ix) σ3/\tt σ3 H3 λb H4=>if b=tG then
   te σ3 H4 λv H5=>H5 D=tE (.lst tK)/\tK.length<pA/\CNx l.length i Pv (tK ++ [v]) (upd H5 D (.lst (tK ++ [v])))else CNx l.length i Pv tK H4) (hd:∀tK H',Pv l.length tK H'->Q (.ref D) H'):CompZ K l b g tt te own ix σ H1 Q D:=by
 refine#[λi m tK H=>m=l.length - i/\i<=l.length/\Pv i tK H,#[l.length,by simp,aw _,h0],?_];rintro i m tK H' ⟨rfl,hi,p⟩;have q:=hl i tK H' hi p;by_cases hlt:i<l.length
 ·refine .inr #[#[ys,ys[i],q,hlt,by simp [<- hlen,hlt]],λx H2 y=>?_];let#[p',c,y,hp,hc,hy,ev,eH]:=y;subst ev eH;exact hs i c y tK H' p' hc (hy ys q) p hp
 ·have e:i=l.length:=⋯;subst e;exact .inl #[rfl,hd tK H' p]
def yu(t1 t2:TE):TE:=λσ H Q=>t1 σ H Q\/t2 σ H Q
def zac(h1:PE X e t1)(h2:PE X e t2):PE X e (yu t1 t2):=by
 intros Q I h;rcases h with h | h
 ·exact h1 tI s σ H Q I h
 ·exact h2 tI s σ H Q I h
def zdJ(D1:DM X.prog X.w X.K X.mg X.base CX0 k1 C1 m ps s1)(D2:DM X.prog X.w X.K X.mg X.base CX0 k2 C2 m ps s2)(D3:DM X.prog X.w X.K X.mg X.base CX0 k3 C3 m ps s3)(c1:Cls X.K C1)(c2:Cls X.K C2)(c3:Cls X.K C3)(hr:Room j X.A)(he:PE X o ta)(ha:PA X (e::es) t)(hst:‹pq (e::es) X.env=(tH,eval e X.env)::pq es X.env›)(hpl:‹(pQ pos (pq es X.env)).any (·.1)=tH›)(ht:eval (.Call (.Attribute o m apos) (e::es) [] pos) X.env=(do
      let ov <- eval o X.env
      standAt apos.atName
      let (f,first) <- holding [ov] (getMethod ov m pl)
      callWith pos f first (pQ pos (pq (e::es) X.env)) (ra pos (pP [] X.env))):=by rfl) (h1:‹k1<=j›) (h2:‹k2<=j›) (h3:‹k3<=j›) :
    PE X (.Call (.Attribute o m apos) (e::es) [] pos) (yu (ZD C1 m s1 [] E0 ta t) (yu (ZD C2 m s2 [] E0 ta t) (ZD C3 m s3 [] E0 ta t))) :=
  zac (me1 (pl:=pl) D1 c1 hr he ha hst hpl ht h1) (zac (me1 (pl:=pl) D2 c2 hr he ha hst hpl ht h2) (me1 (pl:=pl) D3 c3 hr he ha hst hpl ht h3))
end
open PySem PySem.Spec PyProof.Rows L2 PySem.W PySem.Calls
def ub(n:Int):Prop:=Builtin.Int.intBits n<=1048576
theorem K9:∀(ns:List Int),WData.weightAll (ns.map WData.int)<=1048576->∀n ∈ ns,ub n
 | [],_,n,h=>nomatch h
 | m::ns,hw,n,h=>by
  rw[ak,WData.weightAll]at hw;rcases tN.mp h with rfl | h
  ·have e:WData.weight (.int n)=Builtin.Int.intBits n:=by
    rw[WData.weight];rfl
   unfold ub;lia
  ·exact K9 ns ⋯ n h
theorem JF(hi:ub i)(hj:ub j):IntMulOk i j:=by unfold IntMulOk Builtin.Int.intTooBig;unfold ub at hi hj;have:(bitsLine:Nat)=134217728:=rfl;simp;intro _ _;lia
def J5:OpR X (binaryOp .Mult) (rI (λi j=>ub i/\ub j) λi j=>.int (i * j)):=opI λZ Z Z Z Z Z Z hc q=>mul_int q (JF hc.1 hc.2)
def Yt{l:tz}{XP:(pG->Option pD)->pS->Prop}(hn:l.most=tE n)(hdf:d.params.defaults=[])(call:∀(w:pR) (s₀ s₁:pF) (mg mb:pG->Option pD) (fa:pC) (o:rH) (pm cd doc:pD) (a:pC) (vs:List pD) (ns:List Int),
   Ground q loose [] XP w s₀ mg mb s₁.heap->YP w s₁.heap ->
   s₁.heap.get? fa=tE o->o.data=.func (docDef d.name d.params d.body d.scope pm cd doc)->s₁.heap.CodeRec cd d.name->mg d.name=tE (.ref fa) ->
   s₁.heap.get? a=tE { cls:=.type "list",data:=.seq vs.toArray }->sH vs ns->ns.length<=n->(∀z ∈ ns,ub z)->s₁.gens=#[] ->
   rz (model l.prog w) callerA (.call (.ref fa) #[[.ref a],[]]) (λr s'=>r=.ok (.ret (.bool tG))/\OldK s₁.heap s'.heap/\s'.os=s₁.os/\rU s'.gens) s₁) :
  WalkO q loose XP YP l.row.toRowW d [] (λf vs=>fW f vs):=by
 intro w s₀ s₁ mg mb G Y fa o pm cd doc dV kV ho hd hcd hD hmg hg args vals as hpre hlay hrd hwl hlo;obtain rfl:dV=.none:=Dflts.none hD hdf;obtain rfl:kV=.none:=Dflts.noKw hD;let#[a,vs,ns,rfl,rfl,hobj,hints,hlen]:=Att.script_of hn hpre hwl
 have hb:∀z ∈ ns,ub z:=by
  refine K9 ns ?_
  have h1:WData.layable (WData.list (ns.map WData.int))=tG:=by
   have:=hlay;unfold WData.layableAll at this;simpa using this
  unfold WData.layable at h1
  erw[aM,decide_eq_true_eq]at h1
  have h2:=h1.2;rw[WData.weight]at h2;exact h2
 refine enter_call (rG (call w s₀ s₁ mg mb fa o pm cd doc a vs ns G Y ho (fd_plain hd) hcd hmg hobj hints hlen hb hg) λr s' hq=>?_);let#[rfl,h2,h3,h4]:=hq;exact#[.inl #[.bool tG,.bool tG,[],rfl,λZ=>rfl,.bool tG,Att.post_true l _,λZ=>#[List.Pairwise.nil,λZ hm=>(nomatch hm)]],h2,h3,h4]
def XEg.xe(h:XEg X E):XE X E:=λe s hz=>by
 let#[tI,σ,H,x,C,t,dx,tb,q]:=hz;exact h e s #[.none,tH,tI,σ,H,x,C,t,dx,tb,q]
theorem YM(x y:pG)(i j:Int)(t u v v':sP):Gives (Builtin.«str.find» #[[.str x t,.str y u,.int i v,.int j v'],[]]) (.int (match Builtin.Str.occurrences x y (fromIndex x.length i) (min (fromIndex x.length j) x.length) 1 with | k::_=>(k:Int) | []=>-1)):=by
 show Gives (match Builtin.Str.occurrences x y (fromIndex x.length i) (min (fromIndex x.length j) x.length) 1 with | k::_=>retInt k | []=>(do rule "str.find.not-found";retInt (-1))) _
 cases Builtin.Str.occurrences x y (fromIndex x.length i) (min (fromIndex x.length j) x.length) 1 with
 | nil=>exact .rule (.of_eq rfl)
 | cons k _=>exact .of_eq rfl
theorem Xl(x y:pG)(lo hi:Nat) :
  (Builtin.Str.occurrences x y lo hi 1=[]/\∀i,lo<=i->¬ StrLaws.At x y hi i) \/
  ∃i r,Builtin.Str.occurrences x y lo hi 1=i::r/\lo<=i/\StrLaws.At x y hi i/\∀k,lo<=k->k<i->¬ StrLaws.At x y hi k:=by
 rw[StrLaws.occ_eq];rcases StrLaws.occ_first x y hi 1 (am 1) (fJ lo (hi+1 - lo)) lo (λi hm=>(List.mem_range'_1.mp hm).1)with ⟨e,no⟩ | ⟨pre,a,post,e,e0,at_a,no⟩
 ·exact .inl #[by rw[e],λi h1 h2=>no i (by have:=h2.1;rw[List.mem_range'_1];lia) h2]
 ·have sp:=StrLaws.range'_split_from e;generalize (forIn (fJ lo (hi+1 - lo)) ((#[]:Array Nat),lo) (StrLaws.occBody x y hi 1)).run.fst=z at e0 ⊢;let#[zs]:=z
  cases zs with
  | nil=>simp at e0
  | cons b r =>
   have:b=a:=by simpa using e0
   subst this;exact .inr #[b,r,rfl,sp.1,at_a,λk h1 h2=>no k (sp.2 k h1 h2)]
def zfL(l p:())(hi i:Nat):StrLaws.At (tx l) (tx p) hi i ↔ i+p.length<=hi/\(l.drop i).take p.length=p:=by
 unfold StrLaws.At Builtin.Str.subAt;rw[yk,beq_iff_eq]
 have e1:((tx l).cps.extract i (i+p.length)).toList=(l.drop i).take p.length:=by
  show (l.toArray.extract i (i+p.length)).toList=_;simp [eV]
 have e2:((tx l).cps.extract i (i+p.length)=(tx p).cps) ↔ (l.drop i).take p.length=p:=by
  constructor
  ·intro h;rw[<- e1,h]
  ·intro h;apply Array.toList_inj.mp;rw[e1,h]
 rw[e2]
def zab:V->List V->Hp->VK->Prop:=λx xs H Q=>∃(l p:()) (lo hi:Int),x=⇑l/\xs=[⇑p,.int lo,.int hi]/\0<=lo/\0<=hi/\∀r:Int,((r=-1/\∀q:Nat,lo<=q->(q:Int)+p.length<=hi->q+p.length<=l.length->(l.drop q).take p.length≠p)\/∃k:Nat,r=k/\lo<=k/\(k:Int)+p.length<=hi/\k+p.length<=l.length/\(l.drop k).take p.length=p/\∀q:Nat,lo<=q->q<k->(l.drop q).take p.length≠p)->Q (.int r) H
theorem zbK : MtR X "str.find" zab:=by
 intros x xs v us Q I rx rv h;let#[l,p,lo,hi,rfl,rfl,h0,h1,q]:=h;let#[t,rfl]:=rx
 cases rv with
 | cons r1 r2 =>
  cases r2 with
  | cons r2 r3 =>
   let#[w3,rfl,t3,rfl]:=wr r3;let#[t1,rfl]:=r1;let#[t2,rfl]:=r2;have f0:fromIndex (tx l).length lo=lo.toNat:=by unfold fromIndex;rw[z9 ⋯];lia
   have f1:fromIndex (tx l).length hi=hi.toNat:=by unfold fromIndex;rw[z9 ⋯];lia
   refine call_gives F.slot_str_find (typeIs_str _ _ _) F.entry_str_find (F.args_str_find_4 _ _ _ _) (YM _ _ lo hi t t1 t2 t3) ?_;refine#[.int _,H,I.tok _,#[_,rfl],q _ ?_];rw[f0,f1];have hm:∀k:Nat,k+p.length<=min hi.toNat (tx l).length ↔ (k:Int)+p.length<=hi/\k+p.length<=l.length:=λk=>by rw[yk];lia
   rcases Xl (tx l) (tx p) lo.toNat (min hi.toNat (tx l).length)with ⟨e,no⟩ | ⟨i,r,e,hl,ha,no⟩
   ·rw[e];exact .inl #[rfl,λk k1 k2 k3 k4=>no k ⋯ ((zfL l p _ k).mpr #[(hm k).mpr #[k2,k3],k4])]
   ·rw[e];let#[a1,a2]:=(zfL l p _ i).mp ha;let#[b1,b2]:=(hm i).mp a1;exact .inr #[i,rfl,⋯,b1,b2,a2,λk k1 k2 k4=>no k ⋯ k2 ((zfL l p _ k).mpr #[(hm k).mpr #[⋯,⋯],k4])]
end L3
set_option linter.unusedVariables false
namespace L3
mutual section
theorem QT(hh:A.handled=tF)(hlI:l≠I)(hSI:S≠I)(hSl:S≠l)(xs:Array pD)(val:Nat->Int)(hv:∀i v,xs[i]? = tE v->∃t,v=Value.int (val i) t)(d:pD) :
  ∀(k j:Nat) (z:Int) (t:sP) (s:pF) (c:Nat),xs.size - j=k->j<=xs.size->(∀i,i<j->val i<=z)->s.heap.IsListIter I l j->s.heap.IsList l xs->s.heap.get? S=tE (pK "list" (u9 [.int z t,.int z t]) c) ->
   (∀z' t' h' tk,(∀i,i<xs.size->val i<=z')->(∀b o,b≠I->b≠S->s.heap.get? b=tE o->h'.get? b=tE o)->R (.ok (.ret (.int z' t'))) { s with heap:=h',toks:=tk }) ->
   rz (model prog w) A (.builtin "max.loop" #[[.ref I,.none,.ref S],[(bA "default",d)]]) R s:=by
 have nm:(toString "max" ++ toString ".loop" : String)="max.loop":=∅;have W:=Walks.list (prog:=prog) (w:=w) (A:=A.in1) hh I l hlI xs;intro k
 induction k with
 | zero =>
  intro j z t s c hk hj hz hit hl hS hR;have e:j=xs.size:=⋯;refine rN (b:=Builtin.«max.loop») dW ?_;rw[Around.under_plainId (id:="max.loop") bH _];show pE _ A.in1 (seqItems? (r9 S) >>= _) _ _ s;refine ph (re (items:=(u9 [.int z t,.int z t])) hS rfl ?_);show pE _ A.in1 (tryCatch (pyNext (r9 I)) _ >>= _) _ _ s;refine ph (rP (W.done s _ _ #[e ▸ hit,hl] λh' tk kp=>?_));have hS':=kp S _ ↥hSI hS;show pE _ A.in1 (updateSeq S (λZ=>(#[]:Array pD)) >>= _) _ _ _;refine ph (su hS' rfl (ph (rO (pi ?_))));exact hR z t _ tk (λi hi=>hz i ⋯) λb o hb hb' q=>(aH _ _ (Ne.symm hb')).trans (kp b o ↥hb q)
 | succ k ih =>
  intro j z t s c hk hj hz hit hl hS hR;refine rN (b:=Builtin.«max.loop») dW ?_;rw[Around.under_plainId (id:="max.loop") bH _];show pE _ A.in1 (seqItems? (r9 S) >>= _) _ _ s;refine ph (re (items:=(u9 [.int z t,.int z t])) hS rfl ?_);show pE _ A.in1 (tryCatch (pyNext (r9 I)) _ >>= _) _ _ s;refine ph (rP (W.item j s _ _ ⋯ #[hit,hl] λv h' tk hP st kp=>?_));let#[t2,rfl]:=hv j v hP;have hS':=kp S _ ↥hSI hS;show pE _ A.in1 (tryCatch (holding [Value.int (val j) t2,Value.int (val j) t2] (richCompare .Gt (.int (val j) t2) (.int z t) >>= _)) _ >>= _) _ _ _;refine ph (rP (pL (ph (CmpOf.ints_gt (prog:=prog) (w:=w) (A:=A.in1) (P:=λi v=>∃t,v=Value.int (if i=0 then val j else z) t) (λi=>if i=0 then val j else z) (λi v h=>h) 0 1 _ _ _ _ _ #[t2,rfl] #[t,rfl] ?_))));refine ph (pL (pX (ph (rO (pi ?_)))));by_cases g:val j > z
  ·erw[if_true,Nat.one_ne_zero,if_false,g,decide_true]
   refine ph (su hS' rfl (ph (rO ?_)));rw[nm];refine pi #[plainId_quiet bH _,ih (j+1) (val j) t2 _ _ ⋯ ⋯ (λi hi=>?_) (W.frame _ _ _ st λb hb o q=>?_).1 (W.frame _ _ _ st λb hb o q=>?_).2 (get?_update_seq hS' _) λz' t' h'' tk'' a1 a2=>hR z' t' h'' tk'' a1 λb o hb hb' q=>a2 b o hb hb' ((aH _ _ (Ne.symm hb')).trans (kp b o ↥hb q))]
   ·by_cases e:i=j
    ·rw[e];exact Int.le_refl _
    ·have:=hz i ⋯;lia
   all_goals
    refine (aH _ _ (λe:S=b=>?_)).trans q;subst e;rcases tN.mp hb with e | e
    ·exact hSI e
    ·exact hSl (tP.mp e)
  ·erw[if_true,Nat.one_ne_zero,if_false,g,decide_false,aY]
   refine ph (rO ?_);rw[nm];refine pi #[plainId_quiet bH _,ih (j+1) z t _ _ ⋯ ⋯ (λi hi=>?_) st.1 st.2 hS' λz' t' h'' tk'' a1 a2=>hR z' t' h'' tk'' a1 λb o hb hb' q=>a2 b o hb hb' (kp b o ↥hb q)];by_cases e:i=j
   ·rw[e];lia
   ·exact hz i ⋯
def QR(a v:pD):argsOk "max" #[[a],[(bA "default",v)]]:=by unfold argsOk;kernel_rfl
def VT(hh:A.handled=tF)(xs:Array pD)(val:Nat->Int)(hv:∀i v,xs[i]? = tE v->∃t,v=Value.int (val i) t)(hl:s.heap.IsList l xs)(d:pD)(h:∀v h' tk,(xs.size=0->v=d)->(0<xs.size->∃z t,v=Value.int z t/\∀i,i<xs.size->val i<=z)->(∀b o,s.heap.get? b=tE o->h'.get? b=tE o)->Q v { s with heap:=h',toks:=tk }) :
  pE (model prog w) A (call (.builtin "max") [.ref l] [(bA "default",d)]) Q E s:=by
 have nm:(toString "max" ++ toString ".loop" : String)="max.loop":=∅;have hlt:l<s⁻¹:=by let#[_,e,_]:=hl;exact au e
 refine kmb_tree PySem.F.kind_max PySem.F.plain_max PySem.F.entry_max (QR _ _) ?_;show pE _ A.in1 (Builtin.Builtins.bindParams "max" ["key","default"] 0 #[[],[(bA "default",d)]] >>= _) _ _ s;refine ph (wpAny_of_eq (show Builtin.Builtins.bindParams "max" ["key","default"] 0 #[[],[(bA "default",d)]]=pure [tF,tE d]from rfl) (ph (pi ?_)));refine ph (rD hl (ph (rS ?_ (aw _))));rw[nm];refine pi #[plainId_quiet bH _,?_];have gI:(s.heap.push { cls:=.type "list_iterator",data:=.fields (u9 [.ref l,.int 0 0]) }).IsListIter s⁻¹ l 0:=#[_,aD _ rfl,rfl,rfl];have gl:=hl.push { cls:=.type "list_iterator",data:=.fields (u9 [.ref l,.int 0 0]) };have kp0:∀b o,s.heap.get? b=tE o->(s.heap.push { cls:=.type "list_iterator",data:=.fields (u9 [.ref l,.int 0 0]) }).get? b=tE o:=λb o q=>ac _ q;have hsz:(s.heap.push { cls:=.type "list_iterator",data:=.fields (u9 [.ref l,.int 0 0]) }).objs.size=s⁻¹+1:=bG _ _;have hold:∀b o,s.heap.get? b=tE o->b<s⁻¹:=λb o q=>au q;have hlI:l≠s⁻¹:=ax hlt;generalize s.heap.push { cls:=.type "list_iterator",data:=.fields (u9 [.ref l,.int 0 0]) }=h1 at *;generalize hIe:s⁻¹=I at *;have W:=Walks.list (prog:=prog) (w:=w) (A:=A.in1) hh I l hlI xs;have gS:(h1.push { cls:=.type "list",data:=.seq ([]:List pD).toArray }).get? h1.objs.size=tE (pK "list" #[] 0):=aD _ rfl;have st0:=W.frame 0 _ (h1.push { cls:=.type "list",data:=.seq ([]:List pD).toArray }) #[gI,gl] λb Z o q=>ac _ q;have kp1:∀b o,s.heap.get? b=tE o->(h1.push { cls:=.type "list",data:=.seq ([]:List pD).toArray }).get? b=tE o:=λb o q=>ac _ (kp0 b o q);have hSI:h1.objs.size≠I:=by rw[hsz];exact Nat.succ_ne_self I
 have hSl:h1.objs.size≠l:=by rw[hsz];exact bU (cr hlt)
 have hSb:∀b o,s.heap.get? b=tE o->b≠I/\b≠h1.objs.size:=λb o q=>#[ax (hold b o q),by rw[hsz];exact ax (cr (hold b o q))];generalize h1.push { cls:=.type "list",data:=.seq ([]:List pD).toArray }=h2 at *;generalize h1.objs.size=S at *;refine rN (b:=Builtin.«max.loop») dW ?_;rw[Around.under_plainId (id:="max.loop") bH _];show pE _ A.in1 (seqItems? (r9 S) >>= _) _ _ _;refine ph (re (items:=#[]) gS rfl ?_);show pE _ A.in1 (tryCatch (pyNext (r9 I)) _ >>= _) _ _ _;by_cases hz:xs.size=0
 ·refine ph (rP (W.done _ _ _ (by rw[hz];exact st0) λh' tk kp=>?_));show pE _ A.in1 (rule _ >>= λZ=>_) _ _ _;refine ph (sk (pi ?_));exact h d h' tk (λZ=>rfl) (λq=>y9 q ⋯) λb o q=>kp b o ↥(hSb b o q).1 (kp1 b o q)
 ·refine ph (rP (W.item 0 _ _ _ ⋯ st0 λv h' tk hP st kp=>?_));let#[t,rfl]:=hv 0 v hP;have hS':=kp S _ ↥hSI gS;show pE _ A.in1 (updateSeq S (λZ=>(u9 [Value.int (val 0) t,Value.int (val 0) t])) >>= _) _ _ _;refine ph (su hS' rfl ?_);rw[nm]
  have st':=W.frame _ _ (h'.update S (Obj.mapSeq λZ=>(u9 [Value.int (val 0) t,Value.int (val 0) t]))) st λb hb o q=>by
   refine (aH _ _ (λe:S=b=>?_)).trans q;subst e;rcases tN.mp hb with e | e
   ·exact hSI e
   ·exact hSl (tP.mp e)
  refine pi #[plainId_quiet bH _,QT hh hlI hSI hSl xs val hv d _ 1 (val 0) t _ _ rfl ⋯ (λi hi=>?_) st'.1 st'.2 (get?_update_seq hS' _) λz' t' h'' tk'' a1 a2=>?_]
  ·have:i=0:=⋯;rw[this];exact Int.le_refl _
  ·exact h _ h'' tk'' (λq=>y9 q hz) (λZ=>#[z',t',rfl,a1]) λb o q=>a2 b o (hSb b o q).1 (hSb b o q).2 ((aH _ _ (Ne.symm (hSb b o q).2)).trans (kp b o ↥(hSb b o q).1 (kp1 b o q)))
def KZ(X:Cx)(id:String)(ks:List pG)(r:List V->List V->Hp->VK->Prop):Prop :=
 ∀(tI:List (pC × rH)) (s:pF) (σ:L2.St) (H:Hp) (vs zs:List V) (us ws:List pD) (Q:VK),Inv X tI σ H s->Vals vs us->Vals zs ws->r vs zs H Q->pE (model X.prog X.w) X.A (call (.builtin id) us (ks.zip ws)) (EP X tI σ Q) X.xe s
def zgk(r:List V->List V->Hp->VK->Prop)(t tk:TA):TE:=λσ H Q=>t σ H λvs H1=>tk σ H1 λzs H2=>r vs zs H2 Q
def Uw{X:Cx}{id:String}{x:pG}{e:rF}{es:List rF}{kws:List sZ}{ks:List pG}{p:tB}{pos:tB}{t:TA}{tk:TA}(hc:KZ X id ks r)(hg:Gl X x)(hm:X.mg x=tF)(hv:pZ x=tE (.builtin id))(ha:PA X (e::es) t)(hk:PK X kws tk)(hks:‹(ra pos (pP kws X.env)).filterMap (·.1)=ks›)(hn:‹x≠"__name__"›)(hdb:‹(x ==("__debug__" : pG))=tH›)(he:‹pQ pos (pq (e::es) X.env)=(tH,eval e X.env)::pQ pos (pq es X.env)›)(hpl:‹(pQ pos (pq (e::es) X.env)).any (·.1)=tH›)(hall:‹(ra pos (pP kws X.env)).all (·.1.isSome)=tG›)(hkw:‹(ra pos (pP kws X.env)).any (·.1.isNone)=tH›):PE X (.Call (.Name x p) (e::es) kws pos) (zgk r t tk):=by intros Q I h;refine pY (vC I hg hm hv ?_ hn hdb);refine callWith_kw (thn (ha pos tI s σ H _ I h) λus s1=>el5 λvs H1 I1 r1 q1=>thn (hk pos tI s1 σ H1 _ I1 q1) λws s2=>el5 λzs H2 I2 r2 q2=>?_) he hpl hall hkw;rw[hks];exact hc tI s2 σ H2 vs zs us ws Q I2 r1 r2 q2
def zfd(K:pB):List V->List V->Hp->VK->Prop:=λvs zs H Q=>∃(a:pC) (ns:List Int) (d:Int),vs=[.ref a]/\zs=[.int d]/\SqL K H a (ns.map V.int)/\∀z:Int,(ns=[]->z=d)->(∀n ∈ ns,n<=z)->Q (.int z) H
def zd8(hc:X.calm=tG):KZ X "max" [bA "default"] (zfd X.K):=by
 intros vs zs us ws Q I r1 r2 h;let#[a,ns,d,rfl,rfl,hS,q]:=h;let#[u,rfl,ru]:=wr r1;cases ru;let#[w',rfl,td,rfl]:=wr r2;let#[its,rv,pl,hz]:=I.list hS;have hlen:=rv.length;rw[aa]at hlen
 have hat:∀(i:Nat) (v:pD),its.toArray[i]? = tE v->∃t,v=Value.int (ns.getD i 0) t:=λi v hi=>by
  have hi':its[i]? = tE v:=by simpa using hi
  have hil:=(tL.mp hi').1;let#[u,hu,t,rfl]:=xX rv (j:=i) (x:=.int (ns.getD i 0)) (by rw[ay,ae,ah ⋯];rfl);rw[hi']at hu;cases hu;exact#[t,rfl]
 refine VT (I.ok.hd hc) its.toArray (λi=>ns.getD i 0) hat pl.isList (.int d td) λv h' tk h0 h1 kp=>?_;by_cases hn:ns=[]
 ·have:=h0 (by rw[al,<- hlen,hn];rfl);subst this;exact#[.int d,H,I.kept kp,#[_,rfl],q d (λZ=>rfl) (λn hm=>by rw[hn]at hm;cases hm)]
 ·let#[z,t,rfl,hzz]:=h1 (by rw[al,<- hlen];exact tX.mpr hn);refine#[.int z,H,I.kept kp,#[_,rfl],q z (λe=>y9 e hn) λn hm=>?_];let#[i,hi,rfl]:=List.getElem_of_mem hm;have:=hzz i (by rw[al,<- hlen];exact hi);rw[ae,ah hi]at this;exact this
def zfR(y l:())(e:Nat):Prop:=e+y.length<=l.length/\(l.drop e).take y.length=y
instance (y l:()) (e:Nat):Decidable (zfR y l e):=by unfold zfR;infer_instance
def zgP(y l:()):Option (() × ()):=((aN (l.length+1)).find? λe=>decide (zfR y l e)).map λe=>(l.take e,l.drop (e+y.length))
theorem j6{D:pC}(hg:Gl X cn)(hm:X.mg cn=tE (.ref D))(hdb:(cn ==("__debug__" : pG))=tH)(xc:ZN X.K D=tG)(hsu:∀e,PSs (Cx.suite X e) (b0::suite) th)(I:Inv X tI σ H s)(hob:∃t cx kx,s.heap.get? x=tE (xog C dx t (.ref T) cx kx))(hoT:∃oT ts,s.heap.get? T=tE oT/\oT.data=.fields ts/\3<ts.size)(fT:xK X tI H T)(hb:cy X.K (.ref C) (.ref D)=tE tG)(q:th Dd σ H):pE (model X.prog X.w) X.A (handleBy (.ref x) X.env (.ExceptHandler (tE (.Name cn np)) tF (b0::suite) hpos::hs)) (SP X tI Dd) X.xe s:=by
 let#[t,cx,kx,ob]:=hob;let#[oT,ts,eT,dT,zT]:=hoT;have I':=Inv.suite I (.ref x);refine sK (sw (wS (X:=Cx.suite X (.ref x)) I' hg hm (KC I.kIn xc ob hb ?_) hdb)) (by intro q;cases q);refine codeAny_handlers_suite ?_;unfold setFlight;refine ph (pO ob rfl (x:=.ref T) rfl ?_);rw[z6 (show (r9 T != p9)=tG from by simp)];refine rm eT dT zT ?_;let#[f0,f1,f2,f3,f4,f5]:=fT
 have I2:Inv X tI σ H { s with heap:=s.heap.update T (Obj.mapFields (·.setIfInBounds 3 ((tF:Option pC).elim p9 λf=>rawInt f))) } :=
  I.turned (t':=s.toks) (λb o hb e=>(aH _ _ (Ne.symm hb)).trans e) f0 f1 f3 f4 f5
 refine pV (thn (hsu _ tI _ σ H _ (Inv.suite I2 (.ref x)) q) λfl s4 q4=>?_)
 cases fl with
 | next =>
  let#[σ4,H4,I4,n4]:=q4;exact#[_,_,Inv.unsuite I I4,n4]
 | brk =>
  let#[σ4,H4,I4,n4]:=q4;exact#[_,_,Inv.unsuite I I4,n4]
 | cont =>
  let#[σ4,H4,I4,n4]:=q4;exact#[_,_,Inv.unsuite I I4,n4]
 | ret v =>
  let#[y,σ4,H4,I4,r4,n4]:=q4;exact#[y,_,_,Inv.unsuite I I4,r4,n4]
def KN(K:pB)(i:Nat)(D:pC)(te:TX)(th:TS):TS:=λDd σ H=>te σ H (λv H1=>Dd.nx (σ.set i (tE v)) H1) λcls dx H1=>∃C,cls=.ref C/\cy K (.ref C) (.ref D)=tE tG/\∀x,H1 x=tF->th Dd σ (upd H1 x (XT x C dx))
def Kt{D:pC}(hN:X.N.Nodup)(hy:X.N[i]? = tE y)(hly:Loc X.env.scope y)(hf:X.fn y=tG\/X.env.scope.names.lookup y=tE .local)(hst:X.stack=X.env::X.outer/\X.env.frame=tE X.env.locals)(he:PEX X e te)(hg:Gl X cn)(hm:X.mg cn=tE (.ref D))(xc:ZN X.K D=tG)(hsu:∀e,PSs (Cx.suite X e) (b0::suite) th)(hdb:‹(cn ==("__debug__" : pG))=tH›)(hsw:‹swapsWith e (tE (.Name y yp)) apos.line X.env=pure tH›) :
  PS X (.Try [.Assign [.Name y yp] e apos] (.ExceptHandler (tE (.Name cn np)) tF (b0::suite) hpos::hs) [] [] pos) (KN X.K i D te th):=by
 intros D I hq;refine sj (rA (si (rq (he tI s σ H _ _ I hq) (λv s1=>el5 λz H1 I1 r1 q1=>?_) λe s1 fl=>?_) hsw))
 ·exact uh I1 hN hy hly r1 (λs2 I2=>rg (rg #[_,H1,I2,q1])) hf
 ·let#[cx,kx,H1,x,C,t,dx,tb,rfl,I1,ob,tr,fx,fT,C',ec,hsb,q1]:=fl;cases ec;have fr:X.A.frames=tE (X.env::X.outer):=by rw[<- hst.1];exact I1.ok.frames
  have ff:s1.heap.FunFrames X.base (X.env::X.outer):=by rw[<- hst.1];exact I1.stack
  refine qm fr ff hst.2 hst.2 ob tr λh' T oT ts e1 nT oldT e2 d2 z2 k1 k2=>?_
  have fT':xK X tI H1 T:=by
   rcases oldT with z | z
   ·exact fT T z
   ·exact I1.fpOk z (I1.hok.fresh z)
  have tbs:∀b,tb=.ref b->H1 b=tF:=λb hb=>(fT b hb).1
  have nch:∀b o,s1.heap.get? b=tE o->b ∉ (x::T::tbL tb)->b≠x/\tb≠.ref b:=λb o Z hb=>by
   refine#[λz=>hb (by simp [z]),λz=>hb ?_];rw[z];simp [tbL]
  have un:Un (frs X.stack) (x::T::tbL tb) H1 H1 s1.heap h':=by
   rw[hst.1];refine#[λb o e n hb hc=>?_,λb o e n hb hc=>?_,λb o e n Z=>n,λb o e hc=>?_,λb xs e=>e,λb o u e=>e,λb ps e=>#[#[],by rw[e];simp]]
   ·let#[a1,a2]:=nch b o e hc;exact k1 b o a1 a2 hb e
   ·let#[a1,a2]:=nch b o e hc;exact k2 b o a1 a2 e
   ·let#[a1,a2]:=nch b o e hc;let#[sl,q]:=k2 b o a1 a2 e;exact#[_,q]
  have hok:HOk X.prog X.w H1 h':=λb u e=>by
   refine (I1.hok b u e).stay (λc v hc q=>k1 c v ?_ ?_ ?_ q) (λZ q=>q) λZ Z q=>q
   ·rintro rfl;rcases hc with rfl | hc
    ·rw[fx.1]at e;cases e
    ·rw[fx.1]at hc;cases hc
   ·intro z;have:=tbs c z;rcases hc with rfl | hc
    ·rw[this]at e;cases e
    ·rw[this]at hc;cases hc
   ·intro z;rw[<- hst.1]at z;have:=I1.stkFree c z;rcases hc with rfl | hc
    ·rw[this]at e;cases e
    ·rw[this]at hc;cases hc
  have I2:Inv X tI σ H1 { s1 with heap:=h' }:=I1.call' (s':={ s1 with heap:=h' }) rfl un hok I1.bare λb hb=>by
   have fb:xK X tI H1 b:=by
    rcases tN.mp hb with z | z
    ·rw[z];exact fx
    ·rcases tN.mp z with z | z
     ·rw[z];exact fT'
     ·cases tb with
      | ref b' =>
       have:b=b':=by simpa [tbL] using z
       rw[this];exact fT b' rfl
      | _=>simp [tbL]at z
   let#[_,a1,_,a3,a4,a5]:=fb;exact#[a3,a1,a4,a5]
  have I3:Inv X tI σ (upd H1 x (XT x C dx)) { s1 with heap:=h' }:=Inv.track I2 fx (zaZ e1);exact j6 hg hm hdb xc hsu I3 #[t,_,_,e1] #[oT,ts,e2,d2,z2] #[by rw[zm nT];exact fT'.1,fT'.2] hsb (q1 x fx.1)
def zae(K:pB)(D:pC)(te:TX)(th:TS):TS:=λDd σ H=>te σ H (λz H1=>Dd.rt z H1) λcls dx H1=>∃C,cls=.ref C/\cy K (.ref C) (.ref D)=tE tG/\∀x,H1 x=tF->th Dd σ (upd H1 x (XT x C dx))
def Ku{D:pC}(hst:X.stack=X.env::X.outer/\X.env.frame=tE X.env.locals)(he:PEX X e te)(hg:Gl X cn)(hm:X.mg cn=tE (.ref D))(xc:ZN X.K D=tG)(hsu:∀e,PSs (Cx.suite X e) (b0::suite) th)(hdb:‹(cn ==("__debug__" : pG))=tH›) :
  PS X (.Try [.Return (tE e) apos] (.ExceptHandler (tE (.Name cn np)) tF (b0::suite) hpos::hs) [] [] pos) (zae X.K D te th):=by
 intros D I hq;refine sj (rA (sS (rq (he tI s σ H _ _ I hq) (λv s1=>el5 λz H1 I1 r1 q1=>?_) λe s1 fl=>?_)))
 ·exact#[z,σ,H1,I1,r1,q1]
 ·let#[cx,kx,H1,x,C,t,dx,tb,rfl,I1,ob,tr,fx,fT,C',ec,hsb,q1]:=fl;cases ec;have fr:X.A.frames=tE (X.env::X.outer):=by rw[<- hst.1];exact I1.ok.frames
  have ff:s1.heap.FunFrames X.base (X.env::X.outer):=by rw[<- hst.1];exact I1.stack
  refine qm fr ff hst.2 hst.2 ob tr λh' T oT ts e1 nT oldT e2 d2 z2 k1 k2=>?_
  have fT':xK X tI H1 T:=by
   rcases oldT with z | z
   ·exact fT T z
   ·exact I1.fpOk z (I1.hok.fresh z)
  have tbs:∀b,tb=.ref b->H1 b=tF:=λb hb=>(fT b hb).1
  have nch:∀b o,s1.heap.get? b=tE o->b ∉ (x::T::tbL tb)->b≠x/\tb≠.ref b:=λb o Z hb=>by
   refine#[λz=>hb (by simp [z]),λz=>hb ?_];rw[z];simp [tbL]
  have un:Un (frs X.stack) (x::T::tbL tb) H1 H1 s1.heap h':=by
   rw[hst.1];refine#[λb o e n hb hc=>?_,λb o e n hb hc=>?_,λb o e n Z=>n,λb o e hc=>?_,λb xs e=>e,λb o u e=>e,λb ps e=>#[#[],by rw[e];simp]]
   ·let#[a1,a2]:=nch b o e hc;exact k1 b o a1 a2 hb e
   ·let#[a1,a2]:=nch b o e hc;exact k2 b o a1 a2 e
   ·let#[a1,a2]:=nch b o e hc;let#[sl,q]:=k2 b o a1 a2 e;exact#[_,q]
  have hok:HOk X.prog X.w H1 h':=λb u e=>by
   refine (I1.hok b u e).stay (λc v hc q=>k1 c v ?_ ?_ ?_ q) (λZ q=>q) λZ Z q=>q
   ·rintro rfl;rcases hc with rfl | hc
    ·rw[fx.1]at e;cases e
    ·rw[fx.1]at hc;cases hc
   ·intro z;have:=tbs c z;rcases hc with rfl | hc
    ·rw[this]at e;cases e
    ·rw[this]at hc;cases hc
   ·intro z;rw[<- hst.1]at z;have:=I1.stkFree c z;rcases hc with rfl | hc
    ·rw[this]at e;cases e
    ·rw[this]at hc;cases hc
  have I2:Inv X tI σ H1 { s1 with heap:=h' }:=I1.call' (s':={ s1 with heap:=h' }) rfl un hok I1.bare λb hb=>by
   have fb:xK X tI H1 b:=by
    rcases tN.mp hb with z | z
    ·rw[z];exact fx
    ·rcases tN.mp z with z | z
     ·rw[z];exact fT'
     ·cases tb with
      | ref b' =>
       have:b=b':=by simpa [tbL] using z
       rw[this];exact fT b' rfl
      | _=>simp [tbL]at z
   let#[_,a1,_,a3,a4,a5]:=fb;exact#[a3,a1,a4,a5]
  have I3:Inv X tI σ (upd H1 x (XT x C dx)) { s1 with heap:=h' }:=Inv.track I2 fx (zaZ e1);exact j6 hg hm hdb xc hsu I3 #[t,_,_,e1] #[oT,ts,e2,d2,z2] #[by rw[zm nT];exact fT'.1,fT'.2] hsb (q1 x fx.1)
theorem Uv(bs:List Bool):(aN bs.length).any (λi=>bs.getD i tH)=bs.any id:=by
 induction bs with
 | nil=>rfl
 | cons b bs ih =>
  rw[aJ,cX,List.any_cons,ee,List.any_cons,<- ih];rfl
def zgx(K:pB):List V->Hp->VK->Prop:=λxs H Q=>∃(p:pC) (bs:List Bool),xs=[.ref p]/\SqL K H p (bs.map V.bl)/\Q (.bl (bs.any id)) H
def zfs(hc:X.calm=tG):vx X (.builtin "any") (zgx X.K):=by
 intros xs us Q I r h;let#[p,bs,rfl,hS,q]:=h;let#[u,rfl,ru]:=wr r;cases ru;let#[its,rv,pl,hz]:=I.list hS
 have hlen:its.length=bs.length:=by
  have:=rv.length;rw[aa]at this;exact this.symm
 have hh:X.A.in1.handled=tF:=I.ok.hd hc
 have hne:p≠s⁻¹:=by
  let#[o,n,e,_]:=pl;exact ax (au e)
 let#[f0,f1,f2,f3,f4,f5]:=I.fpOk (H':=H) (am _) (I.hok.fresh (am _));have I1:=I.kept (t':=s.toks) (h':=s.heap.push { cls:=.type "list_iterator",data:=.fields (u9 [.ref p,.int 0 0]) }) λb o e=>ac _ e;refine call_any_walk (rD pl.isList ?_);refine#[s⁻¹,_,_,_,_,_,λi=>bs.getD i tH,rfl,Walks.list hh s⁻¹ p hne its.toArray,#[#[_,aD _ rfl,rfl,rfl],?_],?_,?_]
 ·let#[o,n,e,c,d,dt]:=pl;exact#[o,ac _ e,c,n,dt]
 ·intro i v s' Q' E' hv hq;have:=k8 rv (i:=i) (v:=v) ↥hv;rw[this];exact pX hq
 ·intro h' tk hk
  have e:(aN its.toArray.size).any (λi=>bs.getD i tH)=bs.any id:=by
   rw[al,hlen,Uv]
  rw[e];refine#[.bl _,H,?_,rfl,q];exact I1.turned (t':=tk) (it:=s⁻¹) (λb o hb q=>hk b o ↥hb q) f0 f1 f3 f4 f5
def CompEL(K:pB)(a:pC)(g:TG)(tt:TT)(te:TE)(own:Nat)(ix:())(σ:L2.St)(H1:Hp)(Q:VK)(D:pC):Prop:=Vl (Iel K a) g tt te own ix σ H1 Q D
def zc8{K:pB}:qP (UC K ta) g tt te own ix σ H Q=ta σ H λvs H1=>∃a,vs=[.ref a]/\(∃xs,SqL K H1 a xs)/\∀D,H1 D=tF->CompEL K a g tt te own ix σ H1 Q D:=rfl
def CompEL.by{g:TG}{tt:TT}{te:TE}{own:Nat}{ix:()}{σ:L2.St}{H1:Hp}{Q:VK}{D:pC}{K:pB}(Pv:Nat->List V->Hp->Prop)(h0:Pv 0 [] (upd H1 D (.lst [])))(hl:∀i tK H',i<=xs.length->Pv i tK H'->SqL K H' a xs)(hs:∀i x tK H' p,xs[i]? = tE x->Pv i tK H'->H' p=tF->g (.ref p) (wX σ own ix) (upd H' p (.tup [.int (i:Nat),x])) λσ3 H3=>xm (wX σ own ix) σ3/\tt σ3 H3 λb H4=>if b=tG then
   te σ3 H4 λv H5=>H5 D=tE (.lst tK)/\tK.length<pA/\CNx xs.length i Pv (tK ++ [v]) (upd H5 D (.lst (tK ++ [v])))else CNx xs.length i Pv tK H4) (hd:∀tK H',Pv xs.length tK H'->Q (.ref D) H'):CompEL K a g tt te own ix σ H1 Q D:=by
 refine#[λi m tK H=>m=xs.length - i/\i<=xs.length/\Pv i tK H,#[xs.length,by simp,aw _,h0],?_];rintro i m tK H' ⟨rfl,hi,p⟩;have q:=hl i tK H' hi p;by_cases hlt:i<xs.length
 ·refine .inr #[#[xs,xs[i],q,by simp [hlt]],λv H2 y=>?_];let#[p',x,hp,hx,ev,eH]:=y;subst ev eH;exact hs i x tK H' p' (hx xs q) p hp
 ·have e:i=xs.length:=⋯;subst e;exact .inl #[#[xs,q,rfl],hd tK H' p]
end
open PySem PySem.W PyProof.Rows
end in def Q4(lt:Nat->Nat->Bool){α:Type}:tD α->α
 | .ret a=>a
 | .ask i j k=>Q4 lt (k (lt i j))
def Kok(lt:Nat->Nat->Bool)(n:Nat){α:Type}:tD α->(α->Prop)->Prop
 | .ret a,Q=>Q a
 | .ask i j k,Q=>i<n/\j<n/\Kok lt n (k (lt i j)) Q
section
variable{lt:Nat->Nat->Bool}{n:Nat}{α β:Type}
theorem Kok.mono(hq:∀a,Q a->Q' a):∀(t:tD α),Kok lt n t Q->Kok lt n t Q'
 | .ret a,h=>hq a h
 | .ask _ _ k,h=>#[h.1,h.2.1,Kok.mono hq (k _) h.2.2]
theorem Kok.bind : ∀(t:tD α),Kok lt n t (λa=>Kok lt n (f a) Q)->Kok lt n (t.bind f) Q
 | .ret _,h=>h
 | .ask _ _ k,h=>#[h.1,h.2.1,Kok.bind (k _) h.2.2]
theorem Kok.run : ∀(t:tD α),Kok lt n t Q->Q (Q4 lt t)
 | .ret _,h=>h
 | .ask _ _ k,h=>Kok.run (k _) h.2.2
theorem Kok.same{Q:α->Prop}:∀(t:tD α),Kok lt n t Q->Kok lt n t (λa=>a=Q4 lt t)
 | .ret _,h=>rfl
 | .ask _ _ k,h=>#[h.1,h.2.1,Kok.same (k _) h.2.2]
theorem Kok.wp{I:pF->Prop}(hc:∀i j C s,i<n->j<n->I s->(∀s',I s'->C (lt i j) s')->cmp i j C s)(hR:∀a s,Q a->I s->R a s):∀(t:tD α) (s:pF),I s->Kok lt n t Q->t.kasWp cmp R s
 | .ret a,s,hI,h=>hR a s h hI
 | .ask i j k,s,hI,h=>hc i j _ s h.1 h.2.1 hI λs' hI'=>Kok.wp hc hR (k _) s' hI' h.2.2
end
structure Wk(lt:Nat->Nat->Bool):Prop where
 asym:∀a b,lt a b=tG->lt b a=tH
 ntr:∀a b c,lt b a=tH->lt c b=tH->lt c a=tH
section
mutual section
variable{lt:Nat->Nat->Bool}{n:Nat}
abbrev Lq(lt:Nat->Nat->Bool)(a b:Nat):Prop:=lt b a=tH
theorem Wk.refl(W:Wk lt)(a:Nat):Lq lt a a:=by
 cases h:lt a a with
 | false=>exact h
 | true=>exact y9 h (by rw[W.asym a a h];decide)
abbrev pg(p:Array Nat)(i:Nat):Nat:=p.getD i 0
def W4(p:Array Nat)(i:Nat):pg p i=(p[i]?).getD 0:=by simp [pg,Array.getD_eq_getD_getElem?]
def Up(lt:Nat->Nat->Bool)(p:Array Nat)(m:Nat):Prop:=∀i j,i<j->j<m->Lq lt (pg p i) (pg p j)
def Dn(lt:Nat->Nat->Bool)(p:Array Nat)(m:Nat):Prop:=∀i j,i<j->j<m->Lq lt (pg p j) (pg p i)
def Rg(n:Nat)(p:Array Nat):Prop:=p.toList.Perm (aN n)
def Rg.size(h:Rg n p):p.size=n:=by have:=h.length_eq;simpa using this
theorem Rg.bd(h:Rg n p)(hi:i<n):pg p i<n:=by
 have hs:=h.size;have hi':i<p.size:=⋯;have e:pg p i=p[i]:=by simp [pg,gA,hi']
 rw[e];have hm:p[i] ∈ p.toList:=Array.mem_toList_iff.mpr (Array.getElem_mem hi');exact tR.mp (h.mem_iff.mp hm)
def vJ(hj:j<=p.size)(k:Nat):pg (kas_rev p i j) k=if i<=k/\k<j then pg p (i+j - 1 - k)else pg p k:=by rw[W4,kas_rev,getElem?_mirror_all hj];split <;> rw[W4]
def Rg.rev(h:Rg n p)(i j:Nat):Rg n (kas_rev p i j):=(Array.perm_iff_toList_perm.mp (mirror_perm p i j _)).trans h
def Rg.bub(h:Rg n p)(i j:Nat):Rg n (bubble p i j):=(Array.perm_iff_toList_perm.mp (bubble_perm p i j)).trans h
theorem Q1(W:Wk lt)(hp:Rg n p):∀(f k:Nat),1<=k->k+f<=n->Up lt p k->Kok lt n (kas_asc p f k) (λm=>k<=m/\m<=k+f/\Up lt p m/\(m=k+f\/lt (pg p m) (pg p (m - 1))=tG))
 | 0,k,h1,h2,hu=>#[⋯,⋯,hu,Or.inl ⋯]
 | f+1,k,h1,h2,hu=>by
  refine#[hp.bd ⋯,hp.bd ⋯,?_];rcases cj (lt (pg p k) (pg p (k - 1)))with hc | hc
  ·show Kok lt n (if lt (pg p k) (pg p (k - 1))=tG then .ret k else _) _;rw[z6 hc];exact#[⋯,⋯,hu,Or.inr hc]
  ·show Kok lt n (if lt (pg p k) (pg p (k - 1))=tG then .ret k else _) _;rw[z9 (by rw[hc];decide)];refine (Q1 W hp f (k+1) ⋯ ⋯ λi j hij hj=>?_).mono (λm hm=>#[⋯,⋯,hm.2.2.1,?_]) _
   ·by_cases e:j=k
    ·subst e;by_cases e2:i=j - 1
     ·subst e2;exact hc
     ·exact W.ntr _ _ _ (hu i (j - 1) ⋯ ⋯) hc
    ·exact hu i j hij ⋯
   ·rcases hm.2.2.2 with h | h
    ·exact Or.inl ⋯
    ·exact Or.inr h
def Ev(lt:Nat->Nat->Bool)(p:Array Nat)(a b:Nat):Prop:=∀i j,a<=i->i<b->a<=j->j<b->Lq lt (pg p i) (pg p j)
theorem mir(h1:a<=k)(h2:k<m):a<=a+m - 1 - k/\a+m - 1 - k<m:=⋯
theorem zgD(h1:i<j)(h2:j<m):a+m - 1 - j<a+m - 1 - i:=⋯
def Yq(h:i<k+1)(e:i≠k):i<k:=bZ (bK h) e
def zcc(h:1<=k):k - 1<k:=Nat.sub_lt h Nat.one_pos
end
set_option tactic.hygienic true in
def KJ(hm:m<=p.size)(hd:Dn lt p m)(he:Ev lt p a m):Dn lt (kas_rev p a m) m:=by
 intro i j hij hj;rw[vJ hm,vJ hm];by_cases h1:a<=i
 ·have hi:=db hij hj;have h2:=aG h1 (cf hij);rw[z6 #[h2,hj],z6 #[h1,hi]];exact he _ _ (mir h2 hj).1 (mir h2 hj).2 (mir h1 hi).1 (mir h1 hi).2
 ·rw[z9 (show ¬ (a<=i/\i<m)from λz=>h1 z.1)];split
  ·rename_i h;exact hd _ _ (ao (e9 h1) (mir h.1 h.2).1) (mir h.1 h.2).2
  ·exact hd _ _ hij hj
set_option tactic.hygienic true in
theorem Zl(W:Wk lt):∀(f:Nat) (p:Array Nat) (k q:Nat),Rg n p->1<=k->k+f<=n->q+1<=k->Dn lt p k->Ev lt p (k - (q+1)) k ->
  Kok lt n (kas_desc f p k q) (λr=>Rg n r.1/\k<=r.2.1/\r.2.1<=k+f/\r.2.2+1<=r.2.1/\Dn lt r.1 r.2.1/\Ev lt r.1 (r.2.1 - (r.2.2+1)) r.2.1)
 | 0,p,k,q,hp,h1,h2,hq,hd,he=>#[hp,am _,cC _ _,hq,hd,he]
 | f+1,p,k,q,hp,h1,h2,hq,hd,he=>by
  have hkn:k<n:=ao (fw (cN f)) h2;have hkp:k<=p.size:=by rw[hp.size];exact cf hkn
  have k1:=zcc h1;have k1n:=db k1 hkn;have ha:k - (q+1)<=k - 1:=Nat.sub_le_sub_left (dg (aw q)) k;have h2':k+1+f<=n:=cT k 1 f ▸ h2;refine#[hp.bd hkn,hp.bd k1n,?_]
  have one:∀(p:Array Nat),Ev lt p (k+1 - (0+1)) (k+1):=λp i j a b c d=>by
   rw[cp (bK b) a,cp (bK d) c];exact W.refl _
  have fin:∀r:Array Nat × Nat × Nat,Rg n r.1/\k+1<=r.2.1/\r.2.1<=k+1+f/\r.2.2+1<=r.2.1/\Dn lt r.1 r.2.1/\Ev lt r.1 (r.2.1 - (r.2.2+1)) r.2.1->Rg n r.1/\k<=r.2.1/\r.2.1<=k+(f+1)/\r.2.2+1<=r.2.1/\Dn lt r.1 r.2.1/\Ev lt r.1 (r.2.1 - (r.2.2+1)) r.2.1:=λr hr=>#[hr.1,Nat.le_of_succ_le hr.2.1,aG hr.2.2.1 (dF (cT k 1 f)),hr.2.2.2]
  have grow:Lq lt (pg p k) (pg p (k - 1))->Dn lt p (k+1):=λhle i j hij hj=>by
   by_cases e:j=k
   ·subst e;by_cases e2:i=j - 1
    ·subst e2;exact hle
    ·exact W.ntr _ _ _ hle (hd i (j - 1) (bZ (dh hij) e2) k1)
   ·exact hd i j hij (Yq hj e)
  rcases cj (lt (pg p k) (pg p (k - 1)))with hc | hc
  ·show Kok lt n (if lt (pg p k) (pg p (k - 1))=tG then _ else _) _;rw[z6 hc];have hle:Lq lt (pg p k) (pg p (k - 1)):=W.asym _ _ hc;split
   ·refine (Zl W f _ (k+1) 0 (hp.rev _ _) (cN k) h2' (dg (aw _)) (λi j hij hj=>?_) (one _)).mono fin _;by_cases e:j=k
    ·subst e;rw[vJ hkp,vJ hkp,z9 λz=>cw _ z.2];split
     ·rename_i h;exact W.ntr _ _ _ hle (he _ _ ha k1 (mir h.1 h.2).1 (mir h.1 h.2).2)
     ·rename_i h;exact W.ntr _ _ _ hle (hd _ _ (ao (e9 λz=>h #[z,hij]) ha) k1)
    ·exact KJ hkp hd he i j hij (Yq hj e)
   ·exact (Zl W f _ (k+1) 0 hp (cN k) h2' (dg (aw _)) (grow hle) (one _)).mono fin _
  ·show Kok lt n (if lt (pg p k) (pg p (k - 1))=tG then _ else _) _;rw[z9 (by rw[hc];decide)];refine#[hp.bd k1n,hp.bd hkn,?_];rcases cj (lt (pg p (k - 1)) (pg p k))with hd2 | hd2
   ·show Kok lt n (if lt (pg p (k - 1)) (pg p k)=tG then _ else _) _;rw[z6 hd2];exact#[hp,am _,cC _ _,hq,hd,he]
   ·show Kok lt n (if lt (pg p (k - 1)) (pg p k)=tG then _ else _) _;rw[z9 (by rw[hd2];decide)];refine (Zl W f _ (k+1) (q+1) hp (cN k) h2' (dg hq) (grow hd2) (λi j a b c d=>?_)).mono fin _;rw[Nat.add_sub_add_right]at a c;have b1:∀i,k - (q+1)<=i->i<k->Lq lt (pg p i) (pg p (k - 1))/\Lq lt (pg p (k - 1)) (pg p i):=λi a b=>#[he _ _ a b ha k1,he _ _ ha k1 a b];by_cases e:j=k
    ·subst e;by_cases e3:i=j
     ·subst e3;exact W.refl _
     ·exact W.ntr _ _ _ (b1 i a (Yq b e3)).1 hc
    ·by_cases e3:i=k
     ·subst e3;exact W.ntr _ _ _ hd2 (b1 j c (Yq d e)).2
     ·exact he _ _ a (Yq b e3) c (Yq d e)
def Wh(W:Wk lt)(hp:Rg n p)(h1:1<=m)(hm:m<=n)(hd:Dn lt p m):Kok lt n (kas_tail3 m n p) (λr=>Rg n r.2/\1<=r.1/\r.1<=n/\Up lt r.2 r.1):=by
 have hps:m<=p.size:=by rw[hp.size];exact hm
 have hmn:=dF (dv hm);unfold kas_tail3;refine Kok.bind _ ((Q1 W (hp.rev 0 m) (n - m) m h1 hmn λi j hij hj=>?_).mono (λk hk=>#[hp.rev 0 m,aG h1 hk.1,aG hk.2.1 hmn,hk.2.2.1]) _);have hi:=db hij hj;rw[vJ hps,vJ hps,z6 #[aw _,hi],z6 #[aw _,hj]];exact hd _ _ (zgD hij hj) (mir (aw _) hi).2
def jG(W:Wk lt)(hp:Rg n p)(h1:1<=m)(hm:m+1<=n)(hd:Dn lt p (m+1)):Kok lt n (kas_descPart m n p) (λr=>Rg n r.2/\1<=r.1/\r.1<=n/\Up lt r.2 r.1):=by
 unfold kas_descPart;have hmn:=dF (dv hm);refine Kok.bind _ ((Zl W (n - (m+1)) p (m+1) 0 hp (cN m) hmn (dg (aw _)) hd λi j a b c d=>?_).mono (λr hr=>?_) _)
 ·rw[cp (bK b) a,cp (bK d) c];exact W.refl _
 ·let#[r1,r2,r3,r4,r5,r6]:=hr;have hs:r.2.1<=r.1.size:=by rw[r1.size];exact aG r3 hmn
  have g1:=aG (cN m) r2;have g2:=aG r3 hmn
  (try dsimp only)
  split
  ·exact Wh W (r1.rev _ _) g1 g2 (KJ hs r5 r6)
  ·exact Wh W r1 g1 g2 r5
def Ki(W:Wk lt)(hp:Rg n p)(hn:1<=n):Kok lt n (kas_count n p) (λr=>Rg n r.2/\1<=r.1/\r.1<=n/\Up lt r.2 r.1):=by
 have hps:=hp.size;unfold kas_count;have hn1:=dF (dv hn);refine Kok.bind _ ((Q1 W hp (n - 1) 1 (am _) hn1 λi j hij hj=>y9 hij (by rw[Ad.mp hj];exact bR i)).mono (λm hm=>?_) _);let#[m1,m2,mu,ms]:=hm;have m2:=aG m2 hn1;by_cases e:(m == n)=tG
 ·rw[z6 e];exact#[hp,m1,m2,mu]
 ·rw[z9 e];have hne:m≠n:=λh=>e (by rw[h];exact beq_self_eq_true _);have hmn:=bZ m2 hne;have hlt:lt (pg p m) (pg p (m - 1))=tG:=ms.resolve_left λh=>hne (h.trans (dv hn));have hle:Lq lt (pg p m) (pg p (m - 1)):=W.asym _ _ hlt;have k1:=zcc m1;by_cases h1:m > 1
  ·rw[z6 h1];refine#[hp.bd hn,hp.bd (db k1 hmn),?_];rcases cj (lt (pg p 0) (pg p (m - 1)))with hc | hc
   ·show Kok lt n (if lt (pg p 0) (pg p (m - 1))=tG then _ else _) _;rw[z6 hc];exact#[hp,m1,m2,mu]
   ·show Kok lt n (if lt (pg p 0) (pg p (m - 1))=tG then _ else _) _;rw[z9 (by rw[hc];decide)]
    have u0:∀i,i<m->Lq lt (pg p 0) (pg p i):=λi hi=>by
     by_cases h:i=0
     ·subst h;exact W.refl _
     ·exact mu 0 i (Nat.pos_of_ne_zero h) hi
    have ul:∀i,i<m->Lq lt (pg p i) (pg p (m - 1)):=λi hi=>by
     by_cases h:i=m - 1
     ·subst h;exact W.refl _
     ·exact mu i (m - 1) (bZ (dh hi) h) k1
    have ev:∀i j,i<m->j<m->Lq lt (pg p i) (pg p j):=λi j hi hj=>W.ntr _ _ _ (ul i hi) (W.ntr _ _ _ hc (u0 j hj));have hmp:m<=p.size:=by rw[hps];exact m2
    refine jG W (hp.rev 0 m) m1 hmn λi j hij hj=>?_;by_cases h:j=m
    ·subst h;rw[vJ hmp,vJ hmp,z9 (λz=>cw _ z.2),z6 #[aw _,hij]];exact W.ntr _ _ _ hle (ev _ _ k1 (mir (aw _) hij).2)
    ·have hj':=Yq hj h;have hi':=db hij hj';rw[vJ hmp,vJ hmp,z6 #[aw _,hj'],z6 #[aw _,hi']];exact ev _ _ (mir (aw _) hj').2 (mir (aw _) hi').2
  ·rw[z9 h1];have e1:m=1:=cp (bV h1) m1;subst e1;refine jG W hp (am _) hmn λi j hij hj=>?_;have h1:j=1:=cp (bK hj) (bn (aw _) hij);subst h1;rw[Ad.mp hij];exact hle
theorem mid(h:l<r):l<=(l+r) / 2/\(l+r) / 2<r:=⋯
theorem kE(W:Wk lt)(hp:Rg n p)(hk:k<n)(hu:Up lt p k):∀(f l r:Nat),l<=r->r<=k->r - l<=f->(∀i,i<l->Lq lt (pg p i) (pg p k))->(∀i,r<=i->i<k->Lq lt (pg p k) (pg p i)) ->
  Kok lt n (kas_place p k f l r) (λm=>m<=k/\(∀i,i<m->Lq lt (pg p i) (pg p k))/\(∀i,m<=i->i<k->Lq lt (pg p k) (pg p i)))
 | 0,l,r,hl,hr,hf,h1,h2=>by
  have:l=r:=cp hl (Nat.le_of_sub_eq_zero (Nat.le_zero.mp hf));subst this;exact#[hr,h1,h2]
 | f+1,l,r,hl,hr,hf,h1,h2=>by
  unfold kas_place;by_cases e:l ≥ r
  ·rw[z6 e];have:l=r:=cp hl e;subst this;exact#[hr,h1,h2]
  ·rw[z9 e];have hlr:=e9 e;let#[a,b]:=mid hlr;have bk:=ao b hr;refine#[hp.bd hk,hp.bd (db bk hk),?_];generalize (l+r) / 2=m at *;rcases cj (lt (pg p k) (pg p m))with hc | hc
   ·show Kok lt n (if lt (pg p k) (pg p m)=tG then _ else _) _;rw[z6 hc];refine kE W hp hk hu f l m a (cf bk) (bK (ao (fX a b) hf)) h1 λi hi hik=>?_;by_cases e2:i=m
    ·subst e2;exact W.asym _ _ hc
    ·exact W.ntr _ _ _ (W.asym _ _ hc) (hu _ _ (bZ hi (Ne.symm e2)) hik)
   ·show Kok lt n (if lt (pg p k) (pg p m)=tG then _ else _) _;rw[z9 (by rw[hc];decide)];refine kE W hp hk hu f (m+1) r b hr (bK (ao (Nat.sub_lt_sub_left hlr (Nat.lt_succ_of_le a)) hf)) (λi hi=>?_) h2;by_cases e2:i=m
    ·subst e2;exact hc
    ·exact W.ntr _ _ _ (hu i m (Yq hi e2) bk) hc
def zax(hk:k<p.size)(hl:l<=k)(i:Nat):pg (bubble p k (k - l)) i=if i=l then pg p k else if l<i/\i<=k then pg p (i - 1)else pg p i:=by
 have e:k - (k - l)=l:=Nat.sub_sub_self hl;rw[W4,getElem?_bubble hk (k - l) (Nat.sub_le _ _),e];by_cases h:i=l
 ·rw[z6 h,z6 h];exact (W4 p k).symm
 ·rw[z9 h,z9 h];by_cases h':l<i/\i<=k
  ·rw[z6 h',z6 h'];exact (W4 p (i - 1)).symm
  ·rw[z9 h',z9 h'];exact (W4 p i).symm
theorem zaa(W:Wk lt):∀(f:Nat) (p:Array Nat) (k:Nat),Rg n p->k+f=n->Up lt p k->Kok lt n (kas_bin f p k) (λp'=>Rg n p'/\Up lt p' n)
 | 0,p,k,hp,hk,hu=>by
  have:k=n:=hk;subst this;exact#[hp,hu]
 | f+1,p,k,hp,hk,hu=>by
  have hkn:k<n:=hk ▸ fw (cN f);have hkp:k<p.size:=by rw[hp.size];exact hkn
  refine Kok.bind _ ((kE W hp hkn hu k 0 k (aw _) (am _) (Nat.sub_le _ _) (λi hi=>y9 hi (bR i)) (λi h1 h2=>y9 h1 (Nat.not_le_of_lt h2))).mono (λl hl=>?_) _);let#[l1,l2,l3]:=hl;refine zaa W f _ (k+1) (hp.bub _ _) ((cT k 1 f).trans hk) λi j hij hj=>?_;have hjk:=bK hj;have j1:=ao (zcc (bn (aw i) hij)) hjk;rw[zax hkp l1,zax hkp l1];by_cases h1:i=l
  ·subst h1;rw[z6 rfl,z9 (bU hij),z6 #[hij,hjk]];exact l3 _ (dh hij) j1
  ·rw[z9 h1];by_cases h2:j=l
   ·subst h2;rw[z6 rfl,z9 λz=>Nat.lt_asymm z.1 hij];exact l2 _ hij
   ·rw[z9 h2];by_cases h3:l<i/\i<=k
    ·rw[z6 h3,z6 #[db h3.1 hij,hjk]];exact hu _ _ (fX (bn (aw l) h3.1) hij) j1
    ·rw[z9 h3];by_cases h4:l<j/\j<=k
     ·rw[z6 h4];have hil:i<l:=bZ (bV λz=>h3 #[z,cf (ao hij h4.2)]) h1;exact hu _ _ (ao hil (dh h4.1)) j1
     ·rw[z9 h4];exact hu _ _ hij (ao (bZ (bV λz=>h4 #[z,hjk]) h2) l1)
theorem Xp(W:Wk lt)(hn:1<=n):Kok lt n (kas_sort n) (λp=>Rg n p/\Up lt p n):=by
 unfold kas_sort;refine Kok.bind _ ((Ki W (p:=aT (aN n)) (by unfold Rg;exact List.Perm.refl _) hn).mono (λr hr=>?_) _);let#[r1,r2,r3,r4]:=hr
 (try dsimp only)
 split
 ·have:max r.1 1=r.1:=⋯;rw[this];exact zaa W _ _ _ r1 ⋯ r4
 ·have:r.1=n:=⋯;rw[this]at r4;exact#[r1,r4]
end
end in def srt{α:Type}(lt:α->α->Bool)(d:α)(xs:List α):List α :=
 if xs.length<2 then xs else (Q4 (λi j=>lt (xs.getD i d) (xs.getD j d)) (kas_sort xs.length)).toList.map λi=>xs.getD i d
structure WkO{α:Type}(lt:α->α->Bool):Prop where
 asym:∀a b,lt a b=tG->lt b a=tH
 ntr:∀a b c,lt b a=tH->lt c b=tH->lt c a=tH
set_option tactic.hygienic true in
def WI{lt:α->α->Bool}(W:WkO lt)(d:α)(xs:List α):(srt lt d xs).Perm xs/\(srt lt d xs).Pairwise λa b=>lt b a=tH:=by
 unfold srt;split
 ·rename_i h;refine#[List.Perm.refl _,?_]
  match xs,h with
  | [],_=>exact List.Pairwise.nil
  | [a],_=>exact fz _ _
  | _::_::_,h=>exact y9 h (by simp)
 ·rename_i h;have W':Wk (λi j=>lt (xs.getD i d) (xs.getD j d)):=#[λa b=>W.asym _ _,λa b c=>W.ntr _ _ _];let#[h1,h2]:=Kok.run _ (Xp (n:=xs.length) W' ⋯);generalize Q4 (λi j=>lt (xs.getD i d) (xs.getD j d)) (kas_sort xs.length)=p at h1 h2
  have e:(aN xs.length).map (λi=>xs.getD i d)=xs:=by
   refine fg (by simp) λi a b=>?_;have hb:i<xs.length:=by simpa using b
   simp [hb]
  refine#[(h1.map (λi=>xs.getD i d)).trans (by rw[e]),?_];rw[List.pairwise_map,List.pairwise_iff_getElem];intro i j hi hj hij;have hs:=h1.size;have hi':i<p.size:=by simpa using hi
  have hj':j<p.size:=by simpa using hj
  have q:=h2 i j hij ⋯;have ei:pg p i=p.toList[i]:=by simp [pg,gA,hi']
  have ej:pg p j=p.toList[j]:=by simp [pg,gA,hj']
  rw[ei,ej]at q;exact q
theorem UA{lt lt':Nat->Nat->Bool}{Q:α->Prop}(h:∀i j,i<n->j<n->lt i j=lt' i j):∀t:tD α,Kok lt n t Q->Q4 lt t=Q4 lt' t
 | .ret _,_=>rfl
 | .ask i j k,q=>by
  show Q4 lt (k (lt i j))=Q4 lt' (k (lt' i j));rw[<- h i j q.1 q.2.1];exact UA h _ q.2.2
set_option tactic.hygienic true in
def zaw{lt lt':α->α->Bool}(W:WkO lt){d d':α}{xs:List α}(h:∀a ∈ xs,∀b ∈ xs,lt a b=lt' a b):srt lt d xs=srt lt' d' xs:=by
 have g:∀i,i<xs.length->∃a ∈ xs,xs.getD i d=a/\xs.getD i d'=a:=λi hi=>#[xs[i],dY hi,by rw[ae,ah hi];rfl,by rw[ae,ah hi];rfl];unfold srt;split
 ·rfl
 ·rename_i hl;have W':Wk (λi j=>lt (xs.getD i d) (xs.getD j d)):=#[λa b=>W.asym _ _,λa b c=>W.ntr _ _ _];have ok:=Xp (n:=xs.length) W' ⋯
  have e:=UA (lt':=λi j=>lt' (xs.getD i d') (xs.getD j d')) (λi j hi hj=>by
   let#[a,ha,a1,a2]:=g i hi;let#[b,hb,b1,b2]:=g j hj;show lt (xs.getD i d) (xs.getD j d)=lt' (xs.getD i d') (xs.getD j d');rw[a1,a2,b1,b2]
   exact h a ha b hb) _ ok
  rw[<- e];let#[h1,_]:=Kok.run _ ok;refine aW λi hi=>?_;let#[a,_,a1,a2]:=g i (tR.mp (h1.mem_iff.mp hi));rw[a1,a2]
def QZ{lt:β->β->Bool}(f:α->β)(d:α)(xs:List α):srt lt (f d) (xs.map f)=(srt (λa b=>lt (f a) (f b)) d xs).map f:=by
 have e:∀i,(xs.map f).getD i (f d)=f (xs.getD i d):=λi=>by
  rw[ae,ae,ay];cases xs[i]? <;> rfl
 unfold srt;rw[aa];split
 ·rfl
 ·erw[e,aP]
  rfl
end L3
namespace L3
open PySem PySem.W PyProof.Rows
def Sq(lt:Nat->Nat->Bool)(a b:Nat):Prop:=lt a b=tG\/(lt b a=tH/\a<b)
def DnS(lt:Nat->Nat->Bool)(p:Array Nat)(m:Nat):Prop:=∀i j,i<j->j<m->Sq lt (pg p j) (pg p i)
structure Idp(n:Nat)(p:Array Nat)(m:Nat):Prop where
 r:Rg n p
 lo:∀i,i<m->pg p i<m
 hi:∀i,m<=i->i<n->pg p i=i
def Idp.up(h:Idp n p m)(hk:m<=k)(hn:k<=n):Idp n p k:=#[h.r,λi hi=>by
 by_cases e:i<m
 ·have:=h.lo i e;lia
 ·rw[h.hi i ⋯ ⋯];exact hi,λi a b=>h.hi i ⋯ b]
structure DsI(lt:Nat->Nat->Bool)(n:Nat)(p:Array Nat)(k q:Nat):Prop where
 hq:q+1<=k
 hk:k<=n
 id:Idp n p (k - (q+1))
 dn:DnS lt p (k - (q+1))
 st:∀i j,i<k - (q+1)->k - (q+1)<=j->j<k->lt (pg p j) (pg p i)=tG
 ev:∀i j,k - (q+1)<=i->i<k->k - (q+1)<=j->j<k->lt (pg p i) (pg p j)=tH
def DsI.next{lt:Nat->Nat->Bool}(W:Wk lt)(hk:k+1<=n)(h1:DnS lt p k)(h2:Idp n p k)(h0:∀i,i<k->lt (pg p k) (pg p i)=tG):DsI lt n p (k+1) 0:=by
 have e:k+1 - (0+1)=k:=rfl;refine#[⋯,hk,h2,h1,λi j a b c=>?_,λi j a b c d=>?_]
 ·have:j=k:=⋯;subst this;exact h0 i ⋯
 ·have:i=j:=⋯;subst this;exact W.refl _
end L3
namespace L3
structure KeyFam(α:Type) where
 dec:α->List D
 lt:α->α->Bool
 fst:Bool
 d0:α
structure KeyFam.Ok{α:Type}(F:KeyFam α):Prop where
 w:WkO F.lt
 eq:∀a b,wQ (F.dec a) (F.dec b)=F.lt a b
 ok:∀a b,ZP (F.dec a) (F.dec b)
 dp:∀a,vw (F.dec a)<40
 sh:∀a,∃d r,F.dec a=d::r/\((F.fst=tG/\∃n,d=.int n)\/(F.fst=tH/\∃l,d=.tup l))
def okF:List D->List D->Prop
 | d::l,e::m=>if eqD d e=tG then okF l m else okD d e
 | _,_=>True
structure KeyFam.OkF{α:Type}(F:KeyFam α):Prop where
 w:WkO F.lt
 eq:∀a b,wQ (F.dec a) (F.dec b)=F.lt a b
 ok:∀a b,okF (F.dec a) (F.dec b)
 dp:∀a,vw (F.dec a)<40
 sh:∀a,∃d r,F.dec a=d::r/\((F.fst=tG/\∃n,d=.int n)\/(F.fst=tH/\∃l,d=.tup l))
theorem K1:∀{l m:List D},ZP l m->okF l m
 | [],m,_=>by erw[okF]
 | d::l,[],_=>by erw[okF]
 | d::l,e::m,h=>by
  erw[ZP]at h
  erw[okF]
  split
  ·exact K1 h.2
  ·exact h.1
def KeyFam.Ok.f{F:KeyFam α}(h:F.Ok):F.OkF:=#[h.w,h.eq,λa b=>K1 (h.ok a b),h.dp,h.sh]
def Inv.repin(I:Inv X (tI ++ [(b,o)]) σ H s)(hs:X.s₀.heap.objs.size<=b)(hn:∀p ∈ X.pn ++ tI,p.1≠b)(sb:Heap.SameBut b s.heap h')(ho:h'.get? b=tE o')(hd:∀v,o'.data≠.cell v) :
  Inv X (tI ++ [(b,o')]) σ H { s with heap:=h' }:=by
 have I1:Inv X tI σ H s:=I.unpinned;let#[p1,p2,p3,p4,p5]:=I.pin (b,o) (aC _ (aC _ (tP.mpr rfl)))
 have I2:Inv X tI σ H { s with heap:=h' }:=Inv.turns I1 (fp:=[b]) (t':=s.toks) (λb' u hb e=>(sb.2 b' ↥hb).trans e) λb' hb=>by
  have e:b'=b:=by simpa using hb
  subst e;refine#[p2,p3,p4,.inr hs,λx c e z=>?_,hn];let#[v,o1,ho1,hd1]:=I.cell x c e;subst z;rw[p1]at ho1;cases ho1;exact p5 v hd1
 exact I2.pins_of λp hp=>by
  rcases tO.mp hp with z | z
  ·exact I2.pin p (aC _ z)
  ·have e:p=(b,o'):=by simpa using z
   subst e;exact#[ho,p2,p3,p4,hd]
def Inv.newpin(I:Inv X tI σ H s)(hf:xK X tI H b)(ho:s.heap.get? b=tE o)(hd:∀v,o.data≠.cell v):Inv X (tI ++ [(b,o)]) σ H s :=
 I.pins_of λp hp=>by
  rcases tO.mp hp with z | z
  ·exact I.pin p (aC _ z)
  ·have e:p=(b,o):=by simpa using z
   subst e;exact#[ho,hf.1,hf.2.1,hf.2.2.1,hd]
set_option tactic.hygienic true in
theorem zd6(I:Inv X tI σ H s)(hu:A.units+50<cLine):∀(l m:List D) (xs ys:List V) (its its':List pD) (i:Nat),Iss X.K H l xs->Iss X.K H m ys->Vals xs its->Vals ys its'->okF l m->vw l<40 ->
  (b=tG->i=0->(∃n r,l=.int n::r)/\∃n r,m=.int n::r)->Q (wQ l m) s->PySem.W.KatLex X.prog X.w A b (decide (its.length<its'.length)) Q (its.zip its') i s
 | [],m,xs,ys,its,its',i,h1,h2,r1,r2,ok,hd,hb,q=>by
  erw[Iss]at h1
  subst h1;cases r1
  have e:wQ [] m=decide (([]:List pD).length<its'.length):=by
   have e1:=h2.len;have e2:=r2.length;have e3:m.length=its'.length:=⋯;rw[<- e3]
   cases m with
   | nil=>simp [wQ]
   | cons _ _=>simp [wQ]
  rw[e]at q;rw[List.zip_nil_left];exact gB q
 | d::l,[],xs,ys,its,its',i,h1,h2,r1,r2,ok,hd,hb,q=>by
  erw[Iss]at h2
  subst h2;cases r2
  erw[wQ]at q
  rw[List.zip_nil_right];exact gB ↥q
 | d::l,e::m,xs,ys,its,its',i,h1,h2,r1,r2,ok,hd,hb,q=>by
  erw[Iss]at h1 h2
  let#[x,xr,rfl,hx,hxr]:=h1;let#[y,yr,rfl,hy,hyr]:=h2
  cases r1 with | cons rx rxr =>
  cases r2 with | cons ry ryr =>
  erw[okF]at ok
  erw[vw]at hd
  rename_i u us v vs;rw[dJ];refine PySem.W.kat_cons (qM I 45 A d e x y u v ⋯ ⋯ hx hy rx ry X.prog X.w _ _ ?_)
  cases he:eqD d e with
  | true =>
   refine PySem.W.kat_yes ?_;have:=zd6 I (b:=b) hu l m xr yr us vs (i+1) hxr hyr rxr ryr (by rw[z6 he]at ok;exact ok) ⋯ (λZ z=>y9 z ⋯) (by simpa only[wQ,he,if_true] using q);simpa using this
  | false =>
   refine PySem.W.kat_no ?_;have q':Q (ltD d e) s:=by simpa only[wQ,he,aY,if_false] using q
   by_cases hbi:(b && i == 0)=tG
   ·rw[hbi]
    erw[aM,beq_iff_eq]at hbi
    let#[#[n,r,e1],n',r',e2]:=hb hbi.1 hbi.2;cases e1;cases e2
    erw[Is]at hx hy
    subst hx hy;let#[t,rfl]:=rx;let#[t',rfl]:=ry
    erw[ltD]at q'
    exact oneLt_int q'
   ·rw[show (b && i == 0)=tH by simpa using hbi];exact PySem.W.kat_one _ _ (KU I 45 A d e x y u v ⋯ ⋯ (by rw[z9 (by rw[he];decide)]at ok;exact ok) hx hy rx ry X.prog X.w _ _ q')
def zaM(I:Inv X tI σ H s)(hu:A.units+50<cLine)(hx:Is X.K H (.tup l) x)(hy:Is X.K H (.tup m) y)(rx:RelV x u)(ry:RelV y v)(ok:okF l m)(hd:vw l<40)(hb:b=tG->(∃n r,l=.int n::r)/\∃n r,m=.int n::r)(q:Q (wQ l m) s):pE (model X.prog X.w) A (keyLt' (tuples' b) u v) Q E s:=by
 erw[Is]at hx hy
 let#[a,xs,rfl,h1,h2]:=hx;let#[c,ys,rfl,g1,g2]:=hy;cases rx;cases ry;let#[its,r,#[o,ho,hoc,n,hod],_]:=I.tuple h1;let#[its',r',#[o',ho',hoc',n',hod'],_]:=I.tuple g1;refine PySem.W.kat_lt ho hod ho' hod' ?_;have:=zd6 I (A:=A) (b:=b) (Q:=Q) hu l m xs ys its its' 0 h2 g2 r r' ok hd (λz Z=>hb z) q;simpa using this
set_option tactic.hygienic true in
mutual section
theorem KY{F:KeyFam α}(FO:F.OkF)(I:Inv X tI σ H s):∀(rs:List α) (tK:List V) (ks:List pD),Iss X.K H (rs.map λa=>.tup (F.dec a)) tK->Vals tK ks ->
  ∃fs,PySem.W.KatTups s.heap ks fs/\fs.length=rs.length/\∀v ∈ fs,PySem.W.Looks M s.heap (typeOf v) (.type (if F.fst=tG then "int" else "tuple"))
 | [],tK,ks,h,r=>by
  erw[aA,Iss]at h
  subst h;cases r;exact#[[],PySem.W.KatTups.nil,rfl,λv hv=>by cases hv]
 | a::rs,tK,ks,h,r=>by
  erw[ak,Iss]at h
  let#[x,xr,rfl,hx,hxr]:=h
  cases r with | cons rx rxr =>
  rename_i u us;let#[fs,t1,t2,t3]:=KY FO I (M:=M) rs xr us hxr rxr
  erw[Is]at hx
  let#[c,xs,rfl,h1,h2]:=hx;cases rx;let#[its,ri,#[o,ho,hoc,n,hod],_]:=I.tuple h1;let#[d,dr,ed,hsh]:=FO.sh a;rw[ed]at h2
  erw[Iss]at h2
  let#[y,yr,rfl,hy,_]:=h2
  cases ri with | cons ry rir =>
  rename_i v vs;refine#[v::fs,PySem.W.KatTups.cons ho hoc hod (by simp) t1,by simp [t2],λz hz=>?_];rcases tN.mp hz with e | hz
  ·subst e;rcases hsh with ⟨hf,n',rfl⟩ | ⟨hf,l,rfl⟩
   ·rw[z6 hf]
    erw[Is]at hy
    subst hy;let#[t,rfl]:=ry;exact PySem.W.Looks.of_pure rfl
   ·rw[z9 (by rw[hf];decide)]
    erw[Is]at hy
    let#[c',xs',rfl,g1,_]:=hy;cases ry;let#[its',ri',#[o',ho',hoc',n',hod'],_]:=I.tuple g1;rw[<- hoc'];exact (PySem.W.Looks.ld ho').andThen .now
  ·exact t3 z hz
def W7{α:Type}(K:pB)(F:KeyFam α)(xs:List V)(Q:VK):List V->Hp->Prop:=λtK H'=>∃rs:List α,Iss K H' (rs.map λa=>.tup (F.dec a)) tK /\
 ∀ys:List (α × V),ys=srt (λp q=>F.lt p.1 q.1) (F.d0,.non) (rs.zip xs)->∀D,H' D=tF->Q (.ref D) (upd H' D (.lst (ys.map (·.2))))
def Inv.fp_of_pin(I:Inv X (tI ++ [(b,o)]) σ H s)(hs:X.s₀.heap.objs.size<=b)(hn:∀p ∈ X.pn ++ tI,p.1≠b):xK X tI H b:=by let#[p1,p2,p3,p4,p5]:=I.pin (b,o) (aC _ (aC _ (tP.mpr rfl)));refine#[p2,p3,p4,.inr hs,λx c e z=>?_,hn];let#[v,o1,ho1,hd1]:=I.cell x c e;subst z;rw[p1]at ho1;cases ho1;exact p5 v hd1
def Inv.at_pin(I:Inv X (tI ++ [(b,o)]) σ H s):s.heap.get? b=tE o:=(I.pin (b,o) (aC _ (aC _ (tP.mpr rfl)))).1
def yY : ∀v,(pK c xs n).data≠.cell v:=λv z=>by cases z
def zcD{D kS:pC}{st:SortSt}(I:Inv X ((tI ++ [(D,pK "list" #[] e1)]) ++ [(kS,pK "list" (aT ks) e)]) σ H s)(hD:X.s₀.heap.objs.size<=D)(hK:X.s₀.heap.objs.size<=kS)(nD:∀p ∈ X.pn ++ tI,p.1≠D)(nK:∀p ∈ X.pn ++ (tI ++ [(D,pK "list" #[] e1)]),p.1≠kS)(hkz:ks.length<64)(hout:(arrOf st).map (·.2)=aT out)(hoz:out.length<64)(hf:failedOf st=tF)(h:∀s' c,Inv X (tI ++ [(D,pK "list" (aT out) c)]) σ H s'->P (.done (.ret .none)) s') :
  pE (model X.prog X.w) A (ksk_tail D tH e1 (.ref kS) st) P E s:=by
 have pk:=Inv.at_pin I;have s1:=Heap.SameBut.update s.heap kS (Obj.mapSeq λZ=>(#[]:Array pD));obtain⟨ck,hck⟩:∃ck,(s.heap.update kS (Obj.mapSeq λZ=>(#[]:Array pD))).get? kS=tE (pK "list" #[] ck):=#[_,get?_update_seq pk λZ=>#[]];have I2:=(Inv.repin I hK nK s1 hck yY).unpinned;have pd:=Inv.at_pin I2;have s2:=Heap.SameBut.update (s.heap.update kS (Obj.mapSeq λZ=>(#[]:Array pD))) D (Obj.mapSeq λZ=>aT out);obtain⟨c2,hc2⟩:∃c2,((s.heap.update kS (Obj.mapSeq λZ=>(#[]:Array pD))).update D (Obj.mapSeq λZ=>aT out)).get? D=tE (pK "list" (aT out) c2):=#[_,get?_update_seq pd λZ=>aT out];have I3:=Inv.repin I2 hD nD s2 hc2 yY;unfold ksk_tail
 (try dsimp only)
 rw[hout];refine ph (listUpdate_at pk rfl ?_ (by rw[al,pM];lia) (aw _));refine ph (rO ?_);refine ph (seqEpoch_at pd rfl ?_);refine ph (listUpdate_at pd rfl ?_ (aw _) (by erw[aY,if_false];rw[al,pM];lia));rw[hf]
 erw[bne_self_eq_false,aY,if_false]
 exact pi (h _ c2 I3)
def zdn{F:KeyFam α}(FO:F.OkF){rs:List α}{T:SortSt->Sem PySem.Fin}(hu:A.units+50<cLine)(I:Inv X pz σ H s)(rk:Vals tK ks)(rv:Vals xs its)(hl:ks.length=its.length)(hz:its.length<64)(hR:Iss X.K H (rs.map λa=>.tup (F.dec a)) tK)(h:∀st s' (out:List pD),Vals ((srt (λp q=>F.lt p.1 q.1) (F.d0,V.non) (rs.zip xs)).map (·.2)) out->out.length<64->(arrOf st).map (·.2)=aT out->failedOf st=tF->Inv X pz σ H s'->pE (model X.prog X.w) A (T st) P E s') :
  pE (model X.prog X.w) A (do
   let kind <- if its.toArray.size<2 then pure general' else keyKind' (aT ks)
   let (Unit.unit,st) <- (if its.toArray.size<2 then pure Unit.unit else sortRuns').run (SortSt.mk' kind ((aT ks).zip its.toArray) #[] 7 tF)
   T st) P E s:=by
 have L1:=hR.len;have L2:=rk.length;have L3:=rv.length;rw[aa]at L1;have lz:(rs.zip xs).length=its.length:=by rw[List.length_zip];lia
 by_cases h2:its.toArray.size<2
 ·rw[z6 h2,z6 h2];refine ph (pi ?_);dsimp only;rw[StateT.run_pure];refine ph (pi ?_)
  (try dsimp only)
  refine h _ _ its ?_ hz ?_ rfl I
  ·rw[al]at h2;unfold srt;rw[z6 ⋯,List.map_snd_zip ⋯];exact rv
  ·show ((aT ks).zip its.toArray).map (·.2)=_;apply Array.toList_inj.mp;rw[Array.toList_map,ksk_zip];exact List.map_snd_zip (by simp;lia)
 ·rw[z9 h2,z9 h2];rw[al]at h2;let#[fs,t1,t2,t3]:=KY FO I (M:=model X.prog X.w) rs tK ks hR rk;refine ph (PySem.W.kat_kind t1 ⋯ t3 (by simp) ?_)
  have hfst:((Value.type (if F.fst=tG then "int" else "tuple"):pD) != Value.type "tuple")=F.fst:=by
   cases hF:F.fst with
   | true=>rfl
   | false=>rfl
  rw[hfst];have W:Wk (λi j=>F.lt (rs.getD i F.d0) (rs.getD j F.d0)):=#[λa b=>FO.w.asym _ _,λa b c=>FO.w.ntr _ _ _];have ok:=Xp (n:=its.length) W ⋯
  have lt_eq:(λi j=>F.lt (rs.getD i F.d0) (rs.getD j F.d0))=(λi j=>(λ(p q:α × V)=>F.lt p.1 q.1) ((rs.zip xs).getD i (F.d0,.non)) ((rs.zip xs).getD j (F.d0,.non))):=by
   have one:∀i,((rs.zip xs).getD i (F.d0,V.non)).1=rs.getD i F.d0:=λi=>by
    by_cases hi:i<its.length
    ·have a1:i<rs.length:=⋯;have a2:i<xs.length:=⋯;rw[ae,ae,ah ⋯,ah a1];simp
    ·rw[ae,ae,fQ ⋯,fQ ⋯];rfl
   funext i j
   erw[one]
  have wp:=Kok.wp (n:=its.length) (cmp:=gC X.prog X.w A (tuples' F.fst) ks) (I:=λs'=>Inv X pz σ H s')
   (R:=λp s'=>p=Q4 (λi j=>F.lt (rs.getD i F.d0) (rs.getD j F.d0)) (PySem.W.kas_sort its.length)/\Inv X pz σ H s')
   (λi j C s' hi hj I' hC=>?_) (λp s' hp I'=>#[hp,I']) _ s I (Kok.same _ ok)
  ·have run:=PySem.W.kat_run (E:=E) (vs:=its) (ks:=ks) (Q:=λst' s'=>∃p:Array Nat,p.size=its.length/\arrOf st'=p.map (PySem.W.kas_item (ks.toArray.zip its.toArray))/\failedOf st'=tF/\_) hl ⋯ hz (λp' st' s' a1 a2 a3 a4=>#[p',a1,a2,a3,a4]) wp;refine ph (rq run ?_ λZ Z e=>e);rintro⟨⟨⟩,st'⟩ s' ⟨p,hp,har,hf,hpk,I'⟩
   (try dsimp only)
   have hout:=PySem.W.kat_snds (ks:=ks) (vs:=its) hl har;have hR1:Rg its.length p:=by rw[hpk];exact (Kok.run _ ok).1
   have g1:(p.toList.map λi=>(rs.zip xs).getD i (F.d0,.non))=srt (λp q=>F.lt p.1 q.1) (F.d0,.non) (rs.zip xs):=by
    unfold srt;rw[z9 ⋯,lz,<- lt_eq,<- hpk]
   have olen:(p.toList.map λi=>its.getD i p9).length=its.length:=by rw[aa,eC,hp]
   refine h _ _ (p.toList.map λi=>its.getD i p9) ?_ ⋯ hout hf I';rw[<- g1,aP]
   have all:∀(js:()),(∀j ∈ js,j<its.length)->Vals (js.map ((λx:α × V=>x.2) ∘ λi=>(rs.zip xs).getD i (F.d0,.non))) (js.map λi=>its.getD i p9):=by
    intro js
    induction js with
    | nil=>intro _;exact .nil
    | cons j js ih =>
     intro hj;refine .cons ?_ (ih λi hi=>hj i (av _ hi));have hjl:=hj j az;have a1:j<xs.length:=⋯;let#[u,hu1,ru]:=xX rv (j:=j) (x:=xs[j]) (ah a1)
     have e1:((rs.zip xs).getD j (F.d0,V.non)).2=xs[j]:=by
      rw[ae,ah ⋯];simp
     have e2:its.getD j p9=u:=by rw[ae,hu1];rfl
     show RelV ((rs.zip xs).getD j (F.d0,V.non)).2 (its.getD j p9);rw[e1,e2];exact ru
   exact all p.toList λj hj=>tR.mp (hR1.mem_iff.mp hj)
  ·have a1:i<rs.length:=⋯;have a2:j<rs.length:=⋯;have gi:(rs.map λa=>_root_.L3.D.tup (F.dec a))[i]? = tE (.tup (F.dec rs[i])):=by rw[ay,ah a1];rfl
   have gj:(rs.map λa=>_root_.L3.D.tup (F.dec a))[j]? = tE (.tup (F.dec rs[j])):=by rw[ay,ah a2];rfl
   let#[x,hx,ix]:=hR.at gi;let#[y,hy,iy]:=hR.at gj;let#[u,hu1,ru]:=xX rk hx;let#[v,hv1,rv1]:=xX rk hy;have e1:ks.getD i p9=u:=by rw[ae,hu1];rfl
   have e2:ks.getD j p9=v:=by rw[ae,hv1];rfl
   have e3:rs.getD i F.d0=rs[i]:=by rw[ae,ah a1];rfl
   have e4:rs.getD j F.d0=rs[j]:=by rw[ae,ah a2];rfl
   unfold gC;rw[e1,e2];refine zaM I' hu ix iy ru rv1 (FO.ok _ _) (FO.dp _) (λhb=>?_) ?_
   ·let#[d,r,ed,hd]:=FO.sh rs[i];let#[d',r',ed',hd']:=FO.sh rs[j];rcases hd with ⟨_,n,rfl⟩ | ⟨z,_⟩
    ·rcases hd' with ⟨_,n',rfl⟩ | ⟨z,_⟩
     ·exact#[#[n,r,ed],n',r',ed']
     ·rw[hb]at z;cases z
    ·rw[hb]at z;cases z
   ·rw[FO.eq,<- e3,<- e4];exact hC s' I'
def zeX{F:KeyFam α}(FO:F.OkF){D kS:pC}{rs:List α}(hu:A.units+50<cLine)(I:Inv X ((tI ++ [(D,pK "list" #[] e1)]) ++ [(kS,pK "list" (aT ks) e)]) σ H s)(hD:X.s₀.heap.objs.size<=D)(hK:X.s₀.heap.objs.size<=kS)(nD:∀p ∈ X.pn ++ tI,p.1≠D)(nK:∀p ∈ X.pn ++ (tI ++ [(D,pK "list" #[] e1)]),p.1≠kS)(rk:Vals tK ks)(rv:Vals xs its)(hl:ks.length=its.length)(hz:its.length<64)(hR:Iss X.K H (rs.map λa=>.tup (F.dec a)) tK)(h:∀s' (ys:List (α × V)) (out:List pD) c,ys=srt (λp q=>F.lt p.1 q.1) (F.d0,.non) (rs.zip xs)->Vals (ys.map (·.2)) out->out.length<64->Inv X (tI ++ [(D,pK "list" (aT out) c)]) σ H s'->P (.done (.ret .none)) s') :
  pE (model X.prog X.w) A (ksk_end D tH its.toArray e1 (.ref kS) (aT ks)) P E s:=by
 unfold ksk_end
 erw[aY,if_false]
 exact zdn FO hu I rk rv hl hz hR λst s' out hv ho har hf I'=>zcD I' hD hK nD nK ⋯ har ho hf λs2 c I2=>h s2 _ out c rfl hv ho I2
def uV(kc:V->Hp->VK->Prop):List V->List V->Hp->(List V->Hp->Prop)->Prop
 | [],tK,H,Q=>Q tK H
 | x::xs,tK,H,Q=>kc x H (λk H'=>uV kc xs (tK ++ [k]) H' Q)
def zcq(FO:F.Ok)(hr:Room (k+2) X.A)(hkc:∀(pins':List (pC × rH)) (s:pF) (H:Hp) (x:V) (u:pD) (Q:VK),Inv X pins' σ H s->RelV x u->kc x H Q->pE (model X.prog X.w) X.A.in1.in1 (call (.ref q) [u]) (EP X pins' σ Q) (λZ Z=>False) s){D kS:pC}(I:Inv X ((tI ++ [(D,pK "list" #[] e1)]) ++ [(kS,pK "list" #[] 0)]) σ H s)(hD:X.s₀.heap.objs.size<=D)(hK:X.s₀.heap.objs.size<=kS)(nD:∀p ∈ X.pn ++ tI,p.1≠D)(nK:∀p ∈ X.pn ++ (tI ++ [(D,pK "list" #[] e1)]),p.1≠kS)(rv:Vals xs its)(hz:its.length<64)(ht:uV kc xs [] H (W7 X.K F xs Q))(hP:∀s',EP X tI σ Q (.ref D) s'->P (.done (.ret .none)) s') :
  pE (model X.prog X.w) X.A.in1.in1 (ksk_rest D (.ref q) tH its.toArray e1 (.ref kS)) P E s:=by
 unfold ksk_rest;refine ph (sk ?_);rw[List.forIn_toArray]
 refine ph (ksk_fold (λj s'=>∃tK ks e H',Inv X ((tI ++ [(D,pK "list" #[] e1)]) ++ [(kS,pK "list" (aT ks) e)]) σ H' s'/\Vals tK ks/\ks.length=j/\uV kc (xs.drop j) tK H' (W7 X.K F xs Q))
  its 0 s #[[],[],0,H,I,.nil,rfl,ht] (λj x s1 hx hJ=>?_) λs1 hJ=>?_)
 ·let#[tK,ks,e,H1,I1,rk,hkl,tk]:=hJ;rw[gn]at hkl tk;have hjl:j<its.length:=(tL.mp hx).1;have L3:=rv.length;let#[u,hu,ru]:=xX rv (j:=j) (x:=xs[j]) (ah ⋯);rw[hx]at hu;cases hu;rw[aO ⋯]at tk;refine ph (rT (rq (hkc _ _ _ _ _ _ I1 ru tk) (λkv s2 hk=>?_) λZ Z z=>z.elim));let#[v,H2,I2,rv2,tk2]:=hk;have pk:=Inv.at_pin I2;have sb:=Heap.SameBut.update s2.heap kS (Obj.mapSeq (·.push kv));have ea:(aT ks).push kv=aT (ks ++ [kv]):=by simp
  obtain⟨c2,hc2⟩:∃c2,(s2.heap.update kS (Obj.mapSeq (·.push kv))).get? kS=tE (pK "list" (aT (ks ++ [kv])) c2):=#[_,by rw[<- ea];exact get?_update_seq pk (·.push kv)];have I3:=Inv.repin I2 hK nK sb hc2 yY
  (try dsimp only)
  refine ph (listUpdate_at pk rfl ?_ (by rw[al,pM];lia) (by rw[Array.size_push,al,pM];lia));refine pi #[rfl,tK ++ [v],ks ++ [kv],c2,H2,I3,rk.append (.cons rv2 .nil),by rw[aq,fN,hkl];lia,?_];rw[gn];exact tk2
 ·let#[tK,ks,e,H1,I1,rk,hkl,tk]:=hJ;rw[gn]at hkl tk;have L3:=rv.length;rw[<- L3,eY]at tk;let#[rs,hR,hq]:=tk
  (try dsimp only)
  refine ph (listItems_at (Inv.at_pin I1) rfl ?_);refine zeX FO.f (by have:=hr.in1.in1.un;lia) I1 hD hK nD nK rk rv hkl hz hR λs' ys out c p1 p3 p4 I'=>hP s' ?_;have fp:=Inv.fp_of_pin I' hD nD;refine#[.ref D,_,Inv.track I'.unpinned (a:=D) (o:=.lst (ys.map (·.2))) fp #[?_,out,c,p3,Inv.at_pin I'],rfl,hq ys p1 D fp.1];rw[p3.length,pM];lia
def Qs(FO:F.Ok)(hr:Room (k+2) X.A)(hkc:∀(pins':List (pC × rH)) (s:pF) (H:Hp) (x:V) (u:pD) (Q:VK),Inv X pins' σ H s->RelV x u->kc x H Q->pE (model X.prog X.w) X.A.in1.in1 (call (.ref q) [u]) (EP X pins' σ Q) (λZ Z=>False) s)(I:Inv X tI σ H s)(hS:SqL X.K H l xs)(hz:xs.length<64)(ht:uV kc xs [] H (W7 X.K F xs Q)) :
  pE (model X.prog X.w) X.A (call (.builtin "sorted") [.ref l] [(bA "key",.ref q)]) (EP X tI σ Q) X.xe s:=by
 let#[its,rv,pl,_]:=I.list hS;have hlen:=rv.length;refine call_function_entry_kw kind_sorted plain_sorted entry_sorted (ksk_s1 _ _) ?_;unfold Builtin.«sorted»;refine ph (m:=checkCount "sorted" 1 1 _) (pi ?_);refine ph (collect_list pl.isList ?_ (by rw[pM];lia));refine ph (rS ?_ (by rw[pM];lia));generalize hh1:((s.heap.push (pK "list" #[] 0)).update s⁻¹ (Obj.mapSeq (· ++ its.toArray)))=h1;have sz1:h1.objs.size=s⁻¹+1:=by rw[<- hh1,df,size_push']
 have kp1:∀b o,s.heap.get? b=tE o->h1.get? b=tE o:=λb o e=>by
  have hlt:b<s⁻¹:=au e;rw[<- hh1,gf _ _ _ _ (ax hlt),Heap.get?_push_ne _ _ _ (ax hlt)];exact e
 have hoL:(h1.push (pK "list" its.toArray 0)).get? h1.objs.size=tE (pK "list" its.toArray 0):=aD _ rfl;show pE _ _ _ _ _ { s with heap:=h1.push (pK "list" its.toArray 0) };refine ph (pL (wpAny_call_entry_kw slot_list_sort #[_,hoL,rfl] entry_list_sort ?body (ksk_l1 _ _)));show pE _ _ (Builtin.«list.sort» #[[.ref h1.objs.size],[(bA "key",.ref q)]]) _ _ _;rw[ksk_t1];generalize hh2:h1.push (pK "list" its.toArray 0)=h2 at hoL;have sz2:h2.objs.size=h1.objs.size+1:=by rw[<- hh2,size_push']
 have kp2:∀b o,s.heap.get? b=tE o->h2.get? b=tE o:=λb o e=>by rw[<- hh2];exact ac _ (kp1 b o e)
 generalize hDD:h1.objs.size=D at hoL;obtain⟨e1,ho1⟩:∃e1,(h2.update D (Obj.mapSeq λZ=>(#[]:Array pD))).get? D=tE (pK "list" #[] e1):=#[_,get?_update_seq hoL λZ=>#[]];have hDs:s⁻¹<=D:=by rw[<- hDD,sz1];exact cL _
 have sb:=Heap.SameBut.update h2 D (Obj.mapSeq λZ=>(#[]:Array pD));unfold ksk_tree;refine ph (listItems_at hoL rfl ?_);refine ph (listUpdate_at hoL rfl ?_ (by rw[al,pM];lia) (aw _));refine ph (seqEpoch_at ho1 rfl ?_);refine ph (sB ?_ (by show its.length<=_;rw[pM];lia));refine ph (rS ?_ (aw _));refine pL ?_;generalize hh3:(h2.update D (Obj.mapSeq λZ=>(#[]:Array pD))).push (pK "tuple" its.toArray 0)=h3;have sz3:h3.objs.size=s⁻¹+3:=by rw[<- hh3,size_push',df,sz2,sz1]
 have hoK:(h3.push (pK "list" #[] 0)).get? h3.objs.size=tE (pK "list" #[] 0):=aD _ rfl;have hoD:(h3.push (pK "list" #[] 0)).get? D=tE (pK "list" #[] e1):=ac _ (by rw[<- hh3];exact ac _ ho1)
 have kp3:∀b o,s.heap.get? b=tE o->(h3.push (pK "list" #[] 0)).get? b=tE o:=λb o e=>by
  have hlt:b<s⁻¹:=au e;refine ac _ ?_;rw[<- hh3];exact ac _ ((sb.2 b (ax (ao hlt hDs))).trans (kp2 b o e))
 have I1:Inv X tI σ H { s with heap:=h3.push (pK "list" #[] 0) }:=I.kept (t':=s.toks) kp3;have fD:xK X tI H D:=I.fpOk ⋯ (I.hok.fresh ⋯);have fK:xK X tI H h3.objs.size:=I.fpOk ⋯ (I.hok.fresh ⋯);have I2:=Inv.newpin I1 fD hoD yY
 have nK:∀p ∈ X.pn ++ (tI ++ [(D,pK "list" #[] e1)]),p.1≠h3.objs.size:=λp hp=>by
  rcases tO.mp hp with z | z
  ·exact fK.2.2.2.2.2 p (bF _ z)
  ·rcases tO.mp z with z | z
   ·exact fK.2.2.2.2.2 p (aC _ z)
   ·have e:p=(D,pK "list" #[] e1):=by simpa using z
    subst e;show D≠_;lia
 have I3:=Inv.newpin I2 (b:=h3.objs.size) #[fK.1,fK.2.1,fK.2.2.1,fK.2.2.2.1,fK.2.2.2.2.1,nK] hoK yY;have hsz:=I.sz;have hK0:X.s₀.heap.objs.size<=h3.objs.size:=⋯;exact zcq FO hr hkc I3 ⋯ hK0 fD.2.2.2.2.2 nK rv ⋯ ht λs' hE=>#[_,rfl,pi #[_,rfl,hE]]
def jH(D:pC)(before:Nat)(st:SortSt):Sem PySem.Fin:=do
 let sorted:=(arrOf st).map (·.2)
 let touched:=(<- seqEpoch D) != before
 Builtin.List.listUpdate (.ref D) λZ=>sorted
 if let tE e:=failedOf st then rule "list.sort.comparison-raised";throw e
 if touched then rule "list.sort.modified";raiseError "ValueError" "list modified during sort"
 ret .none
def zdl(K:pB):List V->Hp->VK->Prop:=λvs H Q=>∃(l:pC) (xs:List V) (α:Type) (F:KeyFam α) (rs:List α),vs=[.ref l]/\SqL K H l xs/\xs.length<64/\F.OkF/\Iss K H (rs.map λa=>.tup (F.dec a)) xs /\
 ∀D,H D=tF->Q (.ref D) (upd H D (.lst ((srt (λp q=>F.lt p.1 q.1) (F.d0,V.non) (rs.zip xs)).map (·.2))))
def zbO{D:pC}{st:SortSt}(I:Inv X (tI ++ [(D,pK "list" #[] e1)]) σ H s)(hD:X.s₀.heap.objs.size<=D)(nD:∀p ∈ X.pn ++ tI,p.1≠D)(hout:(arrOf st).map (·.2)=aT out)(hoz:out.length<64)(hf:failedOf st=tF)(h:∀s' c,Inv X (tI ++ [(D,pK "list" (aT out) c)]) σ H s'->P (.done (.ret .none)) s') :
  pE (model X.prog X.w) A (jH D e1 st) P E s:=by
 have pd:=Inv.at_pin I;have s2:=Heap.SameBut.update s.heap D (Obj.mapSeq λZ=>aT out);obtain⟨c2,hc2⟩:∃c2,(s.heap.update D (Obj.mapSeq λZ=>aT out)).get? D=tE (pK "list" (aT out) c2):=#[_,get?_update_seq pd λZ=>aT out];have I3:=Inv.repin I hD nD s2 hc2 yY;unfold jH
 (try dsimp only)
 rw[hout];refine ph (seqEpoch_at pd rfl ?_);refine ph (listUpdate_at pd rfl ?_ (aw _) (by rw[al,pM];lia));rw[hf]
 erw[bne_self_eq_false,aY,if_false]
 exact pi (h _ c2 I3)
def zdM{F:KeyFam α}(FO:F.OkF){D:pC}{rs:List α}(hu:A.units+50<cLine)(I:Inv X (tI ++ [(D,pK "list" #[] e1)]) σ H s)(hD:X.s₀.heap.objs.size<=D)(nD:∀p ∈ X.pn ++ tI,p.1≠D)(rv:Vals xs its)(hz:its.length<64)(hR:Iss X.K H (rs.map λa=>.tup (F.dec a)) xs)(h:∀s' (out:List pD) c,Vals ((srt (λp q=>F.lt p.1 q.1) (F.d0,V.non) (rs.zip xs)).map (·.2)) out->out.length<64->Inv X (tI ++ [(D,pK "list" (aT out) c)]) σ H s'->P (.done (.ret .none)) s') :
  pE (model X.prog X.w) A (do
   let kind <- if its.toArray.size<2 then pure general' else keyKind' its.toArray
   let (Unit.unit,st) <- (if its.toArray.size<2 then pure Unit.unit else sortRuns').run (SortSt.mk' kind (its.toArray.zip its.toArray) #[] 7 tF)
   jH D e1 st) P E s:=by exact zdn FO hu I rv rv rfl hz hR λst s' out hv ho har hf I'=>zbO I' hD nD har ho hf λs2 c I2=>h s2 out c hv ho I2
def zcn(hr:Room (k+2) X.A):vx X (.builtin "sorted") (zdl X.K):=by
 intros vs us Q I r1 h;let#[l,xs,α,F,rs,rfl,hS,hz,FO,hR,q]:=h;let#[u,rfl,ru]:=wr r1;cases ru;let#[its,rv,pl,_]:=I.list hS;have hlen:=rv.length;refine Calls.call_function_entry kind_sorted plain_sorted entry_sorted (args_sorted1 _) ?_;unfold Builtin.«sorted»;refine ph (m:=checkCount "sorted" 1 1 _) (pi ?_);refine ph (collect_list pl.isList ?_ (by rw[pM];lia));refine ph (rS ?_ (by rw[pM];lia));generalize hh1:((s.heap.push (pK "list" #[] 0)).update s⁻¹ (Obj.mapSeq (· ++ its.toArray)))=h1;have sz1:h1.objs.size=s⁻¹+1:=by rw[<- hh1,df,size_push']
 have kp1:∀b o,s.heap.get? b=tE o->h1.get? b=tE o:=λb o e=>by
  have hlt:b<s⁻¹:=au e;rw[<- hh1,gf _ _ _ _ (ax hlt),Heap.get?_push_ne _ _ _ (ax hlt)];exact e
 have hoL:(h1.push (pK "list" its.toArray 0)).get? h1.objs.size=tE (pK "list" its.toArray 0):=aD _ rfl;show pE _ _ _ _ _ { s with heap:=h1.push (pK "list" its.toArray 0) };refine ph (pL (rR slot_list_sort #[_,hoL,rfl] entry_list_sort ?body (args_list_sort _)));show pE _ _ (Builtin.«list.sort» #[[.ref h1.objs.size],[]]) _ _ _;rw[list_sort_plain];generalize hh2:h1.push (pK "list" its.toArray 0)=h2 at hoL;have sz2:h2.objs.size=h1.objs.size+1:=by rw[<- hh2,size_push']
 have kp2:∀b o,s.heap.get? b=tE o->h2.get? b=tE o:=λb o e=>by rw[<- hh2];exact ac _ (kp1 b o e)
 generalize hDD:h1.objs.size=D at hoL;obtain⟨e1,ho1⟩:∃e1,(h2.update D (Obj.mapSeq λZ=>(#[]:Array pD))).get? D=tE (pK "list" #[] e1):=#[_,get?_update_seq hoL λZ=>#[]];have hDs:s⁻¹<=D:=by rw[<- hDD,sz1];exact cL _
 have sb:=Heap.SameBut.update h2 D (Obj.mapSeq λZ=>(#[]:Array pD));refine ph (listItems_at hoL rfl ?_);refine ph (listUpdate_at hoL rfl ?_ (by rw[al,pM];lia) (aw _));refine ph (seqEpoch_at ho1 rfl ?_);refine ph (sB ?_ (by show its.length<=_;rw[pM];lia));refine ph (rS ?_ (aw _));refine pL ?_;generalize hh3:(h2.update D (Obj.mapSeq λZ=>(#[]:Array pD))).push (pK "tuple" its.toArray 0)=h3;have hoD:(h3.push (pK "list" #[] 0)).get? D=tE (pK "list" #[] e1):=ac _ (by rw[<- hh3];exact ac _ ho1)
 have kp3:∀b o,s.heap.get? b=tE o->(h3.push (pK "list" #[] 0)).get? b=tE o:=λb o e=>by
  have hlt:b<s⁻¹:=au e;refine ac _ ?_;rw[<- hh3];exact ac _ ((sb.2 b (ax (ao hlt hDs))).trans (kp2 b o e))
 have I1:Inv X tI σ H { s with heap:=h3.push (pK "list" #[] 0) }:=I.kept (t':=s.toks) kp3;have fD:xK X tI H D:=I.fpOk ⋯ (I.hok.fresh ⋯);have I2:=Inv.newpin I1 fD hoD yY;have hsz:=I.sz;refine zdM FO (by have:=hr.in1.in1.un;lia) I2 ⋯ fD.2.2.2.2.2 rv ⋯ hR λs' out c p3 p4 I'=>#[_,rfl,pi #[_,rfl,?_]];have fp:=Inv.fp_of_pin I' ⋯ fD.2.2.2.2.2;refine#[.ref D,_,Inv.track I'.unpinned (a:=D) (o:=.lst _) fp #[?_,out,c,p3,Inv.at_pin I'],rfl,q D fp.1];rw[p3.length,pM];lia
def U9(X:Cx)(N:List pG)(s:pF)(H:Hp)(qual:pG)(scope:rY)(f:pC)(cd:pD)(cl:List (pG × pC)):Cx where
 prog:=X.prog
 w:=X.w
 K:=X.K
 mg:=X.mg
 base:=X.base
 A:=X.A.in1.in1.deeper (fh qual scope s⁻¹ f cd cl)
 N:=N
 s₀:=s
 H₀:=H
 env:=fh qual scope s⁻¹ f cd cl
 outer:=X.stack
 stack:=fh qual scope s⁻¹ f cd cl::X.stack
 ex:=[]
 calm:=tG
 fn:=λZ=>tH
 pn:=[]
 xe:=λZ Z=>False
structure zb7(p y:pG)(scope:rY):Prop where
 kind:scope.kind=.function
 co:scope.isCoroutine=tH
 gen:scope.isGenerator=tH
 nocell:∀z ∈ scope.names,z.2≠.cell
 par:scope.names.lookup p=tE .local
 fre:scope.names.lookup y=tE .free
 one:∀q ∈ scope.names,q.2=.free->q.1=y
 ne:p≠y
end
section
variable{X:Cx}{tI:List (pC × rH)}{σ:L2.St}{H:Hp}{s:pF}{p y name qual:pG}{scope:rY}{params:sJ}{body:rF}{f c' c:pC}{pm ctv cv:pD}{k iy:Nat}{vy x:V}{u:pD}{Q:VK}{t:TE}
def zbc(S:zb7 p y scope)(hd:X.A.in1.in1.handled=tF)(I:Inv X tI σ H s)(hy:X.N[iy]? = tE y)(hσ:σ[iy]? = tE (tE vy))(hvis:X.env.scope.names.lookup y=tE .cell)(hc:X.env.cells.lookup y=tE c)(rx:RelV x u)(hns:h₁.Ns s⁻¹ (λz=>[(p,u)].reverse.lookup z))(hk₁:∀b o,s.heap.get? b=tE o->h₁.get? b=tE o) :
  Inv (U9 X [p,y] s H qual scope f cv [(y,c)]) [] [tE x,tE vy] H { s with heap:=h₁,toks:=tk }:=by
 let#[m,hn,hl]:=I.loc;let#[uy,ry,lk]:=hl iy y vy hy hσ (.inr (.inl hvis))
 have hcell:s.heap.IsCell c (tE uy):=by
  rcases lk with ⟨z,_⟩ | ⟨_,c2,e2,z⟩
  ·have z':X.env.scope.names.lookup y=tE .local:=z;rw[hvis]at z';cases z'
  ·rw[hc]at e2;cases e2;exact z
 have hcell':h₁.IsCell c (tE uy):=by
  let#[o,e,d]:=hcell;exact#[o,hk₁ _ _ e,d]
 have e0:=I.env0;have noA:∀b:pC,b ∉ (U9 X [p,y] s H qual scope f cv [(y,c)]).ex:=λb z=>y9 (show b ∈ ([]:List pC)from z) (by simp)
 have lkc:∀z d,br z [(y,c)]=tE d->z=y/\d=c:=λz d h=>by
  rw[ba]at h;by_cases hz:(z == y)=tG
  ·rw[hz]at h;cases h;exact#[by simpa using hz,rfl]
  ·rw[show (z == y)=tH by simpa using hz]at h;cases h
 have lky:br y [(y,c)]=tE c:=by rw[ba];simp
 refine#[#[e0.mod,S.kind,rfl,rfl,am _,λz z' d h1 h2=>?_,λz hz=>?_,λz d h Z=>?_,λZ=>hd,Around.frames_deeper e0.frames,.inr #[rfl,rfl],λb z=>y9 z (noA b),e0.bs,e0.bsz,λb Z Z=>noA b,λb z=>y9 z (noA b),e0.funs,e0.frf],
  rfl,e0.bare,Un.kept hk₁,#[_,hns,λi z v h1 h2 h3=>?_],λz d h=>?_,e0.hok.fresh (am _),λz d h=>?_,λq hq=>y9 (show q ∈ ([]:List (pC × rH))from hq) (by simp),e0.hok.kept hk₁,rfl]
 ·rw[(lkc _ _ h1).1,(lkc _ _ h2).1]
 ·have hz':scope.names.lookup z=tE .cell\/scope.names.lookup z=tE .free:=hz;rcases hz' with hz' | hz'
  ·exact y9 rfl (S.nocell _ (bS hz'))
  ·rw[show z=y from S.one _ (bS hz') rfl];exact#[c,lky]
 ·exact y9 (show (tH:Bool)=tG from h) ∅
 ·match i,h1,h2 with
  | 0,h1,h2 =>
   cases h1;cases h2;refine#[u,rx,.inl #[S.par,?_]];show br p [(p,u)].reverse=tE u;simp [br]
  | 1,h1,h2 =>
   cases h1;cases h2;exact#[uy,ry,.inr #[.inr S.fre,c,lky,hcell']]
  | i+2,h1,h2=>simp at h2
 ·let#[_,rfl]:=lkc z d h;exact#[_,hcell']
 ·let#[_,rfl]:=lkc z d h;exact I.freeC y _ hc
def Kc(S:zb7 p y scope)(hr:Room (k+3) X.A)(hbind:bindArgs (cb name qual params body scope [(y,c)] pm cv ctv) #[[u],[]]=pure [(p,u)])(I:Inv X tI σ H s)(ho:s.heap.get? f=tE { cls:=.type "function",data:=.func (cb name qual params body scope [(y,c)] pm cv ctv) }) (hcd:s.heap.CodeRec cv qual) (hy:X.N[iy]? = tE y) (hσ:σ[iy]? = tE (tE vy)) (hvis:X.env.scope.names.lookup y=tE .cell) (hc:X.env.cells.lookup y=tE c)(rx:RelV x u) (hb:PE (U9 X [p,y] s H qual scope f cv [(y,c)]) body t) (h:t [tE x,tE vy] H Q) :
  pE (model X.prog X.w) X.A.in1.in1 (call (.ref f) [u]) (EP X tI σ Q) (λZ Z=>False) s:=by
 have hr2:Room (k+1) X.A.in1.in1:=hr.in1.in1;refine rE (PySem.W.kla_callFunE hr2.depth ho rfl S.co S.gen rfl hcd ?_);rw[hbind];refine pi (rV S.nocell (λz hz=>?_) (λh₁ hns hsb=>?_) S.kind)
 ·have e:z=(p,u):=by simpa using hz
  subst e;exact S.par
 have hk₁:∀b o,s.heap.get? b=tE o->h₁.get? b=tE o:=λb o e=>hsb.extBut b o (ax (au e)) (ac _ e);refine#[I.nolimit.keeps hk₁,?_];have I1:=zbc (qual:=qual) (f:=f) (cv:=cv) (tk:=s.toks+1) S hr2.hd I hy hσ hvis hc rx hns hk₁;show rz _ _ (.expr body (fh qual scope s⁻¹ f cv [(y,c)])) _ _;refine PySem.W.kla_codeExpr (rq (hb [] _ _ H Q I1 h) (λv s' hv=>?_) λZ Z z=>False.elim z);let#[w',H',J,rw',q]:=hv;exact I.after #[w',H',J.os,J.bare,J.base,J.hok,rw',q]
end
mutual section
def cdE(c':pC)(q:pG):HO:=.ext λh=>h.CodeRec (.ref c') q
def fnE(f:pC)(o:rH):HO:=.ext λh=>h.get? f=tE o
def TabOk(H:Hp)(P:pC)(pos:tB)(q:pG):Prop :=
 ∃ps:Array pD,H P=tE (.tbl ps)/\tu ps.toList/\(codeAmong pos ps.toList=tF\/∃c',codeAmong pos ps.toList=tE (.ref c')/\H c'=tE (cdE c' q))
def SamT(P:pC)(H H':Hp):Prop:=∀b o,b≠P->H b=tE o->H' b=tE o
def LamAt(H:Hp)(f:pC)(name qual:pG)(params:sJ)(body:rF)(scope:rY)(cl:List (pG × pC)):Prop :=
 ∃(c':pC) (pm ctv:pD),H c'=tE (cdE c' qual)/\H f=tE (fnE f { cls:=.type "function",data:=.func (cb name qual params body scope cl pm (.ref c') ctv) })
def zdO(x:h.CodeRec (.ref c') q):ObjOk P w H h c' (cdE c' q):=by
 refine#[x,?_,λh1 h2 a k=>?_]
 ·let#[c,o,vs,t,e,g,_]:=x;cases e;exact#[o,g]
 ·let#[c,o,vs,t,e,g,r]:=a;cases e;exact#[_,o,vs,t,rfl,k o g,r]
def Kz(x:h.get? f=tE o):ObjOk P w H h f (fnE f o) :=
 #[x,#[o,x],λh1 h2 a k=>k o a]
def Inv.grow(I:Inv X tI σ H s)(hP:H P=tE (.tbl ps))(hk:∀b u,b≠P->s.heap.get? b=tE u->h'.get? b=tE u)(hP':h'.get? P=tE { cls:=.none,data:=.fields (ps ++ more) })(hc:s⁻¹<=c')(hf:s⁻¹<=f)(hcf:c'≠f)(hcr:h'.CodeRec (.ref c') q)(hfo:h'.get? f=tE o) :
  Inv X tI σ (upd (upd (upd H P (.tbl (ps ++ more))) c' (cdE c' q)) f (fnE f o)) { s with heap:=h',toks:=tk }:=by
 have Pl:P<s⁻¹:=I.hok.lt hP;have hPc:P≠c':=ax (ao Pl hc);have hPf:P≠f:=ax (ao Pl hf)
 have old:∀b,b<s⁻¹->b≠P->(upd (upd (upd H P (.tbl (ps ++ more))) c' (cdE c' q)) f (fnE f o)) b=H b:=λb hb hbP=>by
  rw[zm (ax (ao hb hf)),zm (ax (ao hb hc)),zm hbP]
 have atP:(upd (upd (upd H P (.tbl (ps ++ more))) c' (cdE c' q)) f (fnE f o)) P=tE (.tbl (ps ++ more)):=by
  rw[zm hPf,zm hPc,zb]
 have neP:∀b,H b=tF->b≠P:=λb e z=>by rw[z,hP]at e;cases e
 refine I.un #[λb u e n Z Z=>hk b u (neP b n) e,λb u e n Z Z=>#[u.slots,hk b u (neP b n) e],λb u e n Z=>?_,λb u e Z=>?_,λb xs e=>?_,λb ob u e=>?_,λb qs e=>?_] λb u e=>?_
 ·rw[old b (au e) (neP b n)];exact n
 ·by_cases hb:b=P
  ·subst hb;exact#[_,hP']
  ·exact#[u,hk b u hb e]
 ·rw[old b (I.hok.lt e) (λz=>by rw[z,hP]at e;cases e)];exact e
 ·rw[old b (I.hok.lt e) (λz=>by rw[z,hP]at e;cases e)];exact e
 ·by_cases hb:b=P
  ·subst hb;rw[hP]at e;cases e;exact#[more,atP]
  ·rw[old b (I.hok.lt e) hb];exact#[#[],by rw[e];simp]
 ·by_cases hbf:b=f
  ·subst hbf;rw[zb]at e;cases e;exact Kz hfo
  ·rw[zm hbf]at e;by_cases hbc:b=c'
   ·subst hbc;rw[zb]at e;cases e;exact zdO hcr
   ·rw[zm hbc]at e;by_cases hbP:b=P
    ·subst hbP;rw[zb]at e;cases e;exact hP'
    ·rw[zm hbP]at e;refine (I.hok b u e).stay (λd v hd g=>hk d v ?_ g) (λd g=>?_) λd xs g=>?_
     ·rcases hd with z | z
      ·rw[z];exact hbP
      ·intro z';rw[z',hP]at z;cases z
     ·rw[old d (I.hok.lt g) (λz=>by rw[z,hP]at g;cases g)];exact g
     ·rw[old d (I.hok.lt g) (λz=>by rw[z,hP]at g;cases g)];exact g
theorem uX : ∀(l:List pD),tu l->tu (l ++ [rawInt a,rawInt b,v])
 | [],_=>trivial
 | .int _ _::.int _ _::_::rest,h=>uX rest h
def ZW{h h':pS}(x:h.BuiltinsAt mg T)(k:∀b o,h.get? b=tE o->h'.get? b=tE o):h'.BuiltinsAt mg T:=by let#[bm,o,b1,b2,b3,b4,b5,b6]:=x;exact#[bm,o,b1,b2,b3,b4,k _ _ b5,b6]
def Q8(hcode:X.env.code=.ref cc)(hC:PySem.W.CodeHd X.base cc P)(hB:X.base.BuiltinsAt X.mg P)(hgP:pj≠P)(hcl:closureFor scope X.env=pure [(y,c)])(hdef:defaultsOf params X.env=([],[]))(I:Inv X tI σ H s)(hT:TabOk H P pos (X.env.qual ++ "<lambda>"))(h:∀f H',H f=tF->LamAt H' f "<lambda>" (X.env.qual ++ "<lambda>") params body scope [(y,c)]->TabOk H' P pos (X.env.qual ++ "<lambda>")->SamT P H H'->Q (.ref f) H') :
  pE (model X.prog X.w) X.A (eval (.Lambda params body scope pos) X.env) (EP X tI σ Q) X.xe s:=by
 refine PySem.W.kla_eval hdef ?_;let#[ps,hP,ht,hh]:=hT;have hPo:s.heap.get? P=tE (PySem.W.tabObj ps):=I.hok _ _ hP;have hg:=I.mod.glob.keeps I.bk;have Pl:P<s⁻¹:=I.hok.lt hP;rcases hh with hn | ⟨c',hit,hc'⟩
 ·refine PySem.W.kla_makeFunction (mg:=X.mg) hcl I.ok.glob hg hcode (hC.keeps I.bk) hPo ht hn hgP (ZW hB I.bk) λc' ctv h' tk hx hge hlt hrec htb=>?_;have hsz:s⁻¹<=h'.objs.size:=cf (bn hge hlt)
  have I1:=Inv.grow (P:=P) (c':=c') (f:=h'.objs.size) (more:=(u9 [rawInt pos.line,rawInt pos.col,.ref c'])) (tk:=tk) (o:={ cls:=.type "function",data:=.func (cb "<lambda>" (X.env.qual ++ "<lambda>") params body scope [(y,c)] ((X.mg "__name__").getD .none) (.ref c') ctv) }) I hP
   (λb u hb e=>ac _ (hx b u hb e)) (ac _ htb) hge hsz (ax hlt) (hrec.push _) (aD _ rfl)
  have hPc:P≠c':=ax (ao Pl hge);have hPf:P≠h'.objs.size:=ax (ao Pl hsz)
  have atc:(upd (upd (upd H P (.tbl (ps ++ (u9 [rawInt pos.line,rawInt pos.col,.ref c'])))) c' (cdE c' (X.env.qual ++ "<lambda>"))) h'.objs.size (fnE h'.objs.size { cls:=.type "function",data:=.func (cb "<lambda>" (X.env.qual ++ "<lambda>") params body scope [(y,c)] ((X.mg "__name__").getD .none) (.ref c') ctv) })) c'=tE (cdE c' (X.env.qual ++ "<lambda>")):=by
   rw[zm (ax hlt),zb]
  refine#[.ref h'.objs.size,_,I1,rfl,h _ _ (I.hok.fresh hsz) #[c',_,ctv,atc,zb] #[ps ++ (u9 [rawInt pos.line,rawInt pos.col,.ref c']),?_,?_,.inr #[c',?_,atc]] λb o hb e=>?_]
  ·rw[zm hPf,zm hPc,zb]
  ·rw[gg];exact uX _ ht
  ·rw[gg];exact codeAmong_snoc _ ht hn
  ·have hl:=I.hok.lt e;rw[zm (ax (ao hl hsz)),zm (ax (ao hl hge)),zm hb];exact e
 ·refine PySem.W.kla_makeFunctionHit (mg:=X.mg) hcl I.ok.glob hg hcode (hC.keeps I.bk) hPo ht hit (ZW hB I.bk) λctv h' tk hk hsz=>?_;have hfr:H h'.objs.size=tF:=I.hok.fresh hsz
  have I1:=I.laid (a:=h'.objs.size) (t':=tk) (h':=h'.push { cls:=.type "function",data:=.func (cb "<lambda>" (X.env.qual ++ "<lambda>") params body scope [(y,c)] ((X.mg "__name__").getD .none) (.ref c') ctv) })
   (o:=fnE h'.objs.size { cls:=.type "function",data:=.func (cb "<lambda>" (X.env.qual ++ "<lambda>") params body scope [(y,c)] ((X.mg "__name__").getD .none) (.ref c') ctv) })
   (λb u e=>ac _ (hk b u e)) hsz (Kz (aD _ rfl))
  have sm:=zc (o:=fnE h'.objs.size { cls:=.type "function",data:=.func (cb "<lambda>" (X.env.qual ++ "<lambda>") params body scope [(y,c)] ((X.mg "__name__").getD .none) (.ref c') ctv) }) hfr;exact#[.ref h'.objs.size,_,I1,rfl,h _ _ hfr #[c',_,ctv,sm _ _ hc',zb] #[ps,sm _ _ hP,ht,.inr #[c',hit,sm _ _ hc']] λb o Z e=>sm _ _ e]
def ze7(R:V->Hp->Prop):List V->Hp->Prop
 | [v],H=>R v H
 | _,_=>False
theorem U2 : ∀{vs:List V} {H:Hp},ze7 R vs H->∃v,vs=[v]/\R v H
 | [v],_,h=>#[v,rfl,h]
def zf7(P:pC)(pos:tB)(q:pG)(LA:Hp->pC->Prop):TE:=λσ H Q=>TabOk H P pos q/\∀f H',H f=tF->LA H' f->TabOk H' P pos q->SamT P H H'->Q (.ref f) H'
def KH{α:Type}(K:pB)(F:KeyFam α)(P:pC)(pos:tB)(q:pG)(LA:Hp->pC->Prop)(iy:Nat)(te tb:TE):TE:=λσ H Q=>te σ H λv H1=>TabOk H1 P pos q /\
 ∀f H2,H1 f=tF->LA H2 f->TabOk H2 P pos q->SamT P H1 H2->∃l xs vy,v=.ref l/\SqL K H2 l xs/\xs.length<64/\σ[iy]? = tE (tE vy)/\uV (λx H Q=>LA H f/\tb [tE x,tE vy] H Q) xs [] H2 (W7 K F xs Q)
def zeo(hcode:X.env.code=.ref cc)(hC:PySem.W.CodeHd X.base cc P)(hB:X.base.BuiltinsAt X.mg P)(hgP:pj≠P)(hcl:closureFor scope X.env=pure [(y,c)])(hdef:defaultsOf params X.env=([],[])) :
  PE X (.Lambda params body scope lpos) (zf7 P lpos (X.env.qual ++ "<lambda>") λH f=>LamAt H f "<lambda>" (X.env.qual ++ "<lambda>") params body scope [(y,c)]):=by intros Q I h;exact Q8 hcode hC hB hgP hcl hdef I h.1 h.2
def JJ(FO:F.Ok)(S:zb7 p y scope)(hr:Room (k+3) X.A)(hg:Gl X x)(hm:X.mg x=tF)(hv:pZ x=tE (.builtin "sorted"))(ha:PA X [e] (zI te xp))(hcode:X.env.code=.ref cc)(hC:PySem.W.CodeHd X.base cc P)(hB:X.base.BuiltinsAt X.mg P)(hgP:pj≠P)(hcl:closureFor scope X.env=pure [(y,c)])(hdef:defaultsOf params X.env=([],[]))(hbind:∀(cv pm ctv u:pD),bindArgs (cb "<lambda>" (X.env.qual ++ "<lambda>") params body scope [(y,c)] pm cv ctv) #[[u],[]]=pure [(p,u)])(hy:X.N[iy]? = tE y)(hvis:X.env.scope.names.lookup y=tE .cell)(hc:X.env.cells.lookup y=tE c)(hb:∀(s:pF) (H:Hp) (f:pC) (cv:pD),Room k (U9 X [p,y] s H (X.env.qual ++ "<lambda>") scope f cv [(y,c)]).A->PE (U9 X [p,y] s H (X.env.qual ++ "<lambda>") scope f cv [(y,c)]) body tb)(hn:‹x≠"__name__"›)(hdb:‹(x ==("__debug__" : pG))=tH›)(hks:‹(ra pos (pP [#[tE "key",.Lambda params body scope lpos,kpos]] X.env)).filterMap (·.1)=[bA "key"]›)(hst:‹pQ pos (pq [e] X.env)=(tH,eval e X.env)::pQ pos (pq [] X.env)›)(hpl:‹(pQ pos (pq [e] X.env)).any (·.1)=tH›)(hall:‹(ra pos (pP [#[tE "key",.Lambda params body scope lpos,kpos]] X.env)).all (·.1.isSome)=tG›)(hkw:‹(ra pos (pP [#[tE "key",.Lambda params body scope lpos,kpos]] X.env)).any (·.1.isNone)=tH›) :
  PE X (.Call (.Name x pp) [e] [#[tE "key",.Lambda params body scope lpos,kpos]] pos) (KH X.K F P lpos (X.env.qual ++ "<lambda>") (λH f=>LamAt H f "<lambda>" (X.env.qual ++ "<lambda>") params body scope [(y,c)]) iy te tb):=by
 intros Q I h;have hlam:PE X (.Lambda params body scope lpos) (zf7 P lpos (X.env.qual ++ "<lambda>") λH f=>LamAt H f "<lambda>" (X.env.qual ++ "<lambda>") params body scope [(y,c)]):=zeo hcode hC hB hgP hcl hdef;refine pY (vC I hg hm hv ?_ hn hdb)
 have h':(zI te xp) σ H (ze7 λv H1=>TabOk H1 P lpos (X.env.qual ++ "<lambda>")/\∀f H2,H1 f=tF->LamAt H2 f "<lambda>" (X.env.qual ++ "<lambda>") params body scope [(y,c)]->TabOk H2 P lpos (X.env.qual ++ "<lambda>")->SamT P H1 H2 ->
   ∃l xs vy,v=.ref l/\SqL X.K H2 l xs/\xs.length<64/\σ[iy]? = tE (tE vy)/\uV (λx H Q=>LamAt H f "<lambda>" (X.env.qual ++ "<lambda>") params body scope [(y,c)]/\tb [tE x,tE vy] H Q) xs [] H2 (W7 X.K F xs Q)):=h
 refine callWith_kw (thn (ha pos tI s σ H _ I h') λus s1=>el5 λvs H1 I1 r1 q1=>?_) hst hpl hall hkw;let#[v,rfl,hT,q1]:=U2 q1;let#[u,rfl,ru]:=wr r1
 refine thn ((Ux hlam zai:PK X [#[tE "key",.Lambda params body scope lpos,kpos]] _) pos tI s1 σ H1 (ze7 λkv H2=>∃f,kv=.ref f/\LamAt H2 f "<lambda>" (X.env.qual ++ "<lambda>") params body scope [(y,c)] /\
   ∃l xs vy,v=.ref l/\SqL X.K H2 l xs/\xs.length<64/\σ[iy]? = tE (tE vy)/\uV (λx H Q=>LamAt H f "<lambda>" (X.env.qual ++ "<lambda>") params body scope [(y,c)]/\tb [tE x,tE vy] H Q) xs [] H2 (W7 X.K F xs Q)) I1 #[hT,λf H2 a1 a2 a3 a4=>#[f,rfl,a2,q1 f H2 a1 a2 a3 a4]]) λws s2=>el5 λzs H2 I2 r2 q2=>?_
 let#[kv,rfl,f,rfl,hLA,l,xs,vy,rfl,hS,hz,hσ,hk]:=U2 q2;let#[w',rfl,rw']:=wr r2;cases rw';cases ru;rw[hks];show pE _ _ (call (.builtin "sorted") [.ref l] [(bA "key",.ref f)]) _ _ _;refine Qs FO (k:=k+1) hr (λpins' s3 H3 x3 u3 Q3 I3 r3 h3=>?_) I2 hS hz hk;let#[#[c',pm,ctv,e1,e2],h4]:=h3;have hcd:s3.heap.CodeRec (.ref c') (X.env.qual ++ "<lambda>"):=(I3.hok _ _ e1).1;have ho:=(I3.hok _ _ e2).1;exact Kc (k:=k) S hr (hbind _ _ _ _) I3 ho hcd hy hσ hvis hc r3 (hb s3 H3 f (.ref c') (hr.in1.in1.deeper _)) h4
end
section
variable{K:pB}
def SamT.of(s:Same H H'):SamT T H H':=λb o Z e=>s b o e
def SamT.trans(s:SamT T H H')(s':SamT T H' H''):SamT T H H'':=λb o n e=>s' b o n (s b o n e)
def SamT.at(s:SamT T H H')(hT:H T=tE (.tbl ps))(e:H b=tE o)(ho:∀qs,o≠.tbl qs):H' b=tE o:=s b o (λz=>by rw[z,hT]at e;cases e;exact ho _ rfl) e
theorem SamT.free(s:SamT T H H')(hT:H' T=tE o)(h:H' b=tF):H b=tF:=by
 cases e:H b with
 | none=>rfl
 | some u =>
  by_cases hb:b=T
  ·rw[hb,hT]at h;cases h
  ·rw[s b u hb e]at h;cases h
def SamT.seqL(s:SamT T H H')(hT:H T=tE (.tbl ps))(h:SqL K H a xs):SqL K H' a xs:=by
 rcases h with (h | ⟨o,h⟩) | h
 ·exact .inl (.inl (s.at hT h λZ z=>by cases z))
 ·exact .inl (.inr #[o,s.at hT h λZ z=>by cases z])
 ·exact .inr h
def SamT.seqT(s:SamT T H H')(hT:H T=tE (.tbl ps))(h:SqT K H a xs):SqT K H' a xs:=by
 rcases h with (h | ⟨o,h⟩) | h
 ·exact .inl (.inl (s.at hT h λZ z=>by cases z))
 ·exact .inl (.inr #[o,s.at hT h λZ z=>by cases z])
 ·exact .inr h
mutual
theorem Is.samT(s:SamT T H H')(hT:H T=tE (.tbl ps)):∀(d:D) (v:V),Is K H d v->Is K H' d v
 | .non,v,h=>by erw[Is]at h ⊢;exact h
 | .bl b,v,h=>by erw[Is]at h ⊢;exact h
 | .int b,v,h=>by erw[Is]at h ⊢;exact h
 | .str b,v,h=>by erw[Is]at h ⊢;exact h
 | .lst l,v,h=>by
  erw[Is]at h ⊢
  let#[a,xs,e1,e2,e3]:=h;exact#[a,xs,e1,s.seqL hT e2,Iss.samT s hT l xs e3]
 | .tup l,v,h=>by
  erw[Is]at h ⊢
  let#[a,xs,e1,e2,e3]:=h;exact#[a,xs,e1,s.seqT hT e2,Iss.samT s hT l xs e3]
theorem Iss.samT(s:SamT T H H')(hT:H T=tE (.tbl ps)):∀(l:List D) (vs:List V),Iss K H l vs->Iss K H' l vs
 | [],vs,h=>by erw[Iss]at h ⊢;exact h
 | d::l,vs,h=>by
  erw[Iss]at h ⊢
  let#[v,r,e1,e2,e3]:=h;exact#[v,r,e1,Is.samT s hT d v e2,Iss.samT s hT l r e3]
end
def LsA.samT(h:LsA K H a ds)(s:SamT T H H')(hT:H T=tE (.tbl ps)):LsA K H' a ds:=by let#[xs,h1,h2]:=h;exact#[xs,s.at hT h1 (λZ z=>by cases z),Iss.samT s hT _ _ h2]
def TabOk.same{H H':Hp}{T:pC}{pos:tB}{q:pG}(h:TabOk H T pos q)(s:Same H H'):TabOk H' T pos q:=by
 let#[ps,h1,h2,h3]:=h;refine#[ps,s _ _ h1,h2,?_];rcases h3 with h3 | ⟨c',h4,h5⟩
 ·exact .inl h3
 ·exact .inr #[c',h4,s _ _ h5]
def LamAt.same{H H':Hp}{f:pC}{name qual:pG}{params:sJ}{body:rF}{scope:rY}{cl:List (pG × pC)}(h:LamAt H f name qual params body scope cl)(s:Same H H'):LamAt H' f name qual params body scope cl:=by let#[c',pm,ctv,h1,h2]:=h;exact#[c',pm,ctv,s _ _ h1,s _ _ h2]
end
section
variable{P:pJ}{w:pR}{K:pB}{mg mb:pG->Option pD}{CX:CXT}{k:Nat}{fa a T cc:pC}{fd:pT}{x:pG}{sp:Sp}{s₁:pF}{vs:List pD}{ns:List Int}{ps:Array pD}
def Z6(KX:K.In s₁.heap)(hKT:K.lookup T=tF)(hT:s₁.heap.get? T=tE { cls:=.none,data:=.fields ps })(hTc:sX s₁.heap T)(hns:s₁.heap.Ns pj mg)(hb:s₁.heap.Ns builtinsNs mb)(hbb:∀x:pG,x≠"__name__"->mb x=pZ x)(hlim:s₁.heap.NoLimit)(hg:s₁.gens=#[])(ha:s₁.heap.get? a=tE { cls:=.type "list",data:=.seq vs.toArray }) (hr:Room k callerA)(hbm:s₁.heap.BuiltinsAt mg T) (hcd:PySem.W.CodeHd s₁.heap cc T) (F:∀base:pS,K.In base->base.Ns pj mg->base.BuiltinsAt mg T->PySem.W.CodeHd base cc T->FnOk P w K mg base CX k fa fd [x] sp) (hbind:∀(s:pF) (u:pD),sI s fd #[[u],[]] [(x,u)])(hCX:∀H e s',CX [] H s₁ (λZ Z Z=>False) e s'->False) (H:Hp) (h1:H T=tE (.tbl ps)) (h2:∀b u,H b=tE u->b=T\/(b=a/\K.lookup a=tF/\u=.frz { cls:=.type "list",data:=.seq vs.toArray } (.lst (ns.map V.int))))(hok:HOk P w H s₁.heap) (hsp:sp [.ref a] H (λv Z=>v=.bl tG) λZ Z Z=>False) :
  rz (model P w) callerA (.call (.ref fa) #[[.ref a],[]]) (λr s'=>r=.ok (.ret (.bool tG))/\OldK s₁.heap s'.heap/\s'.os=s₁.os/\rU s'.gens) s₁:=by
 have stay:∀b o,s₁.heap.get? b=tE o->(b≠T)->(b≠a)->(V8 s₁.heap H).get? b=tE o:=λb o e n1 n2=>XZ e (by
  cases q:H b with
  | none=>rfl
  | some u =>
   rcases h2 b u q with z | z
   ·exact y9 z n1
   ·exact y9 z.1 n2)
 have nsStay:∀(b:pC) (m:pG->Option pD),s₁.heap.Ns b m->(V8 s₁.heap H).Ns b m:=λb m hN=>by
  let#[o,es,ep,e,d,rest]:=hN;refine#[o,es,ep,stay b o e (λz=>?_) (λz=>?_),d,rest]
  ·rw[z,hT]at e;cases e;cases d
  ·rw[z,ha]at e;cases e;cases d
 have kStay:K.In (V8 s₁.heap H):=λb o e=>by
  have g:=KX b o e;refine XZ g ?_
  cases q:H b with
  | none=>rfl
  | some u =>
   rcases h2 b u q with z | z
   ·rw[z,hKT]at e;cases e
   ·rw[z.1,z.2.1]at e;cases e
 have bStay:(V8 s₁.heap H).BuiltinsAt mg T:=by
  let#[bm,o,b1,b2,b3,b4,b5,b6,b7,b8]:=hbm;refine#[bm,o,b1,b2,b3,b4,stay bm o b5 b4 (λz=>?_),b6,b7,b8];rw[z,ha]at b5;cases b5;simp at b6
 have cStay:PySem.W.CodeHd (V8 s₁.heap H) cc T:=by
  let#[o,vs',file,tf,flags,tg,inF,text,tt,c1,c2,c3,c4,c5,c6,c7,c8,c9,c10]:=hcd;refine#[o,vs',file,tf,flags,tg,inF,text,tt,stay cc o c1 c10 (λz=>?_),c2,c3,c4,c5,c6,c7,c8,c9,c10];rw[z,ha]at c1;cases c1;simp at c2
 let#[mc,l1,l2]:=hlim;have M0:Mod K mg (V8 s₁.heap H):={ kin:=kStay,glob:=nsStay _ _ hns,blt:=#[mb,nsStay _ _ hb,hbb],nolimit:=#[mc,nsStay _ _ l1,l2] };have E0:Env0 P w K mg (V8 s₁.heap H) callerA [] s₁ H:={ frames:=rfl,mod:=M0,bs:=λb o e=>zaW e,bsz:=dF (Ui _ _),funs:=trivial,frf:=λb z=>(nomatch (show b ∈ ([]:List pC)from z)),hok:=hok,bare:=.of_eq hg };refine rG ((F _ kStay (nsStay _ _ hns) bStay cStay).run callerA [] s₁ H #[[.ref a],[]] [.ref a] [.ref a] (λv Z=>v=.bl tG) (λZ Z Z=>False) hr E0 (hbind s₁ (.ref a)) (.cons rfl .nil) hsp) λr s' hq=>?_;rcases r with e | fl
 ·exact (hCX H e s' hq).elim
 rcases fl with _ | _ | _ | u
 all_goals first | exact False.elim hq | skip
 let#[v,H',e1,e2,un,hok',rv,ev]:=hq;have ev':v=V.bl tG:=ev;subst ev';have eu:u=Value.bool tG:=rv;subst eu;let#[more,hT2]:=un.tbls T ps h1;have hT3:s'.heap.get? T=tE { cls:=.none,data:=.fields (ps ++ more) }:=hok' T _ hT2
 have each:∀b o,s₁.heap.get? b=tE o->b≠T->s'.heap.get? b=tE o:=λb o e n=>by
  cases q:H b with
  | none=>exact un.keep b o e q (λz=>(nomatch (show b ∈ ([]:List pC)from z))) (λz=>(nomatch z))
  | some ob =>
   rcases h2 b ob q with z | ⟨z,_,zz⟩
   ·exact y9 z n
   ·subst zz;have g:=(hok' b _ (un.frzs b _ _ q)).1;rw[z,ha]at e;cases e;exact g
 refine#[rfl,#[λb o e=>?_,λb o e=>?_],e1,e2]
 ·by_cases hbT:b=T
  ·subst hbT;rw[hT]at e;cases e;exact .inr (.inl #[hTc,rfl,ps,more,rfl,hT3])
  ·exact .inl (each b o e hbT)
 ·by_cases hbT:b=T
  ·subst hbT;exact#[_,hT3]
  ·exact#[o,each b o e hbT]
def Ue(KX:K.In s₁.heap)(hKT:K.lookup T=tF)(hT:s₁.heap.get? T=tE { cls:=.none,data:=.fields ps })(hTc:sX s₁.heap T)(hns:s₁.heap.Ns pj mg)(hb:s₁.heap.Ns builtinsNs mb)(hbb:∀x:pG,x≠"__name__"->mb x=pZ x)(hlim:s₁.heap.NoLimit)(hg:s₁.gens=#[])(ha:s₁.heap.get? a=tE { cls:=.type "list",data:=.seq vs.toArray }) (hi:sH vs ns) (hl:ns.length<=pA) (hr:Room k callerA)(hbm:s₁.heap.BuiltinsAt mg T) (hcd:PySem.W.CodeHd s₁.heap cc T) (F:∀base:pS,K.In base->base.Ns pj mg->base.BuiltinsAt mg T->PySem.W.CodeHd base cc T->FnOk P w K mg base CX k fa fd [x] sp) (hbind:∀(s:pF) (u:pD),sI s fd #[[u],[]] [(x,u)])(hCX:∀H e s',CX [] H s₁ (λZ Z Z=>False) e s'->False) (hsp:∀H:Hp,H T=tE (.tbl ps)->SqL K H a (ns.map V.int)->sp [.ref a] H (λv Z=>v=.bl tG) λZ Z Z=>False) :
  rz (model P w) callerA (.call (.ref fa) #[[.ref a],[]]) (λr s'=>r=.ok (.ret (.bool tG))/\OldK s₁.heap s'.heap/\s'.os=s₁.os/\rU s'.gens) s₁:=by
 have rv:=Yr hi;have hlv:=hi.length
 have hTa:a≠T:=λz=>by
  rw[z,hT]at ha;cases ha
 rcases hk:K.lookup a with _ | o
 ·refine Z6 (ns:=ns) KX hKT hT hTc hns hb hbb hlim hg ha hr hbm hcd F hbind hCX (upd (upd (λZ=>tF) T (.tbl ps)) a (.frz { cls:=.type "list",data:=.seq vs.toArray } (.lst (ns.map V.int)))) ?_ (λb u e=>?_) (λb u e=>?_) ?_
  ·rw[zm (Ne.symm hTa),zb]
  ·by_cases hba:b=a
   ·subst hba;rw[zb]at e;cases e;exact .inr #[rfl,hk,rfl]
   ·rw[zm hba]at e;by_cases hbT:b=T
    ·exact .inl hbT
    ·rw[zm hbT]at e;cases e
  ·by_cases hba:b=a
   ·subst hba;rw[zb]at e;cases e;exact#[ha,by rw[aa];exact hl,vs,_,rv,ha]
   ·rw[zm hba]at e;by_cases hbT:b=T
    ·subst hbT;rw[zb]at e;cases e;exact hT
    ·rw[zm hbT]at e;cases e
  ·exact hsp _ (by rw[zm (Ne.symm hTa),zb]) (.inl (.inr #[_,zb]))
 ·have e:=KX a o hk;rw[ha]at e;cases e;refine Z6 (ns:=ns) KX hKT hT hTc hns hb hbb hlim hg ha hr hbm hcd F hbind hCX (upd (λZ=>tF) T (.tbl ps)) zb (λb u e=>?_) (λb u e=>?_) (hsp _ zb (.inr #[_,vs.toArray,_,hk,rfl,rfl,rfl,by rw[al,hlv];exact hl,by simpa using rv]))
  ·by_cases hbT:b=T
   ·exact .inl hbT
   ·rw[zm hbT]at e;cases e
  ·by_cases hbT:b=T
   ·subst hbT;rw[zb]at e;cases e;exact hT
   ·rw[zm hbT]at e;cases e
end
end in def zbp(K:pB):Bool:=K.all λp=>match p.2 with
 | ⟨.none,_,.fields _,_⟩=>tH
 | _=>tG
theorem WU : ∀{K:pB},K.lookup T=tE o->(T,o) ∈ K
 | [],h=>by cases h
 | p::K,h=>by
  rw[ba]at h;by_cases hp:T=p.1
  ·rw[show (T == p.1)=tG by simpa using hp]at h;cases h;rw[hp];exact az
  ·rw[show (T == p.1)=tH by simpa using hp]at h;exact av _ (WU h)
theorem Jm{K:pB}(e:zbp K=tG)(X:K.In h)(hT:h.get? T=tE { cls:=.none,data:=.fields ps }):K.lookup T=tF:=by
 cases q:K.lookup T with
 | none=>rfl
 | some o =>
  have g:=X _ _ q;rw[hT]at g;cases g;have:=tQ.mp e _ (WU q);simp at this
def walk_ofT{l:PySem.W.OpenLaw}{XP:(pG->Option pD)->pS->Prop}{K:Params->pB}{CX:pR->CXT}{sp:pR->pC->Sp}(hn:l.most=tE n)(hn2:n<=pA)(hdf:d.params.defaults=[])(hr:Room k callerA)(hdin:din ∈ recsOf q)(hY:∀(w:pR) (h:pS),YP w h->(K w.params).In h)(hno:∀w:pR,zbp (K w.params)=tG)(F:∀(w:pR) (mg:pG->Option pD) (fa:pC) (h:pS) (cc T:pC),(K w.params).In h->h.Ns pj mg->mg d.name=tE (.ref fa)->(∃a o fd,mg din.name=tE (.ref a)/\h.get? a=tE o/\o.data=.func fd/\fd.code=.ref cc)->pj≠T ->
   ∃fd:pT,(∀(s:pF) (u:pD),sI s fd #[[u],[]] [(x,u)]) /\
    ∀base:pS,(K w.params).In base->base.Ns pj mg->base.BuiltinsAt mg T->PySem.W.CodeHd base cc T->FnOk l.prog w (K w.params) mg base (CX w) k fa fd [x] (sp w T)) (hsp:∀(w:pR) (H:Hp) (a:pC) (ns:List Int) (T:pC),ns.length<=n->(∀z ∈ ns,ub z)->H T=tE (.tbl #[])->SqL (K w.params) H a (ns.map V.int)->sp w T [.ref a] H (λv Z=>v=.bl tG) λZ Z Z=>False) (hCX:∀(w:pR) (H:Hp) (s:pF) (e:pD) (s':pF),CX w [] H s (λZ Z Z=>False) e s'->False) :
  PySem.W.WalkO q loose XP YP l.row.toRowW d [] (λf vs=>fW f vs):=by
 refine Yt hn hdf λw s₀ s₁ mg mb fa o pm cd doc a vs ns G Y ho hd hcd hmg hobj hints hlen hb' hg=>?_;have X0:=hY w _ Y;let#[ai,oi,fdi,cc,T,m1,m2,m3,m4,m5,m6]:=G.T.tab din hdin;have hcd':PySem.W.CodeHd s₁.heap cc T:=PySem.W.CodeHd.of m5 m6;have hTo:s₁.heap.get? T=tE { cls:=.none,data:=.fields #[] }:=m6.2;have hTc:sX s₁.heap T:=m6.isCodeTable
 have hgT:pj≠T:=λz=>by
  let#[o,es,ep,e,hd',_]:=G.T.g;rw[z,hTo]at e;cases e;cases hd'
 have hbm:s₁.heap.BuiltinsAt mg T:=by
  let#[bm,ob,b1,b2,b3,b4,b5,b6]:=G.T.bmain;refine#[bm,ob,b1,b2,λz=>?_,λz=>?_,b3,b4,b5,b6]
  ·let#[o,es,ep,e,hd',_]:=G.T.g;rw[z,e]at b3;cases b3;rw[hd']at b6;cases b6
  ·rw[z,hTo]at b3;cases b3;cases b4
 let#[fd,hbd,hF]:=F w mg fa _ cc T X0 G.T.g hmg #[ai,oi,fdi,m1,m2,m3,m4] hgT;exact Ue (T:=T) (ps:=#[]) X0 (Jm (hno w) X0 hTo) hTo hTc G.T.g G.T.b G.T.builtins G.T.nolimit hg hobj hints (aG hlen hn2) hr hbm hcd' hF hbd (λH e s'=>hCX w H s₁ e s') λH h1 h2=>hsp w H a ns T hlen hb' h1 h2
def zbf{K:pB}{st:pN}(F:Fun K x qual st f fd)(hcc:fd.code=.ref cc)(S:zo N ps (zi st))(len:∀vs H Q E,sp vs H Q E->vs.length=ps.length)(hbody:∀(A:rh) (outer:List tm) (s:pF) (H:Hp) (vs:List V) (Q:VK) (E:XK),Room k (A.deeper (rL qual (zi st) s⁻¹ f (.ref cc)))->sp vs H Q E ->
   ∃t,PSs (qy CX0 P w K mg base N qual (zi st) f (.ref cc) A outer s H E).nox (yn st) t/\t { nx:=λZ H'=>Q .non H',rt:=Q } (start N vs) H):FnOk P w K mg base CX0 (k+1) f fd ps sp:=by let#[oc,od,kV,doc,pm,an,cdv,ct,osl,rfl,lk,hcd]:=F.ex;have e:cdv=.ref cc:=hcc;subst e;refine Jq lk hcd S len λA outer s H vs Q E hr hsp=>?_;let#[t,h,q]:=hbody A outer s H vs Q E hr hsp;exact#[t,h.nox,q]
end L3
namespace L3
structure LamD where
 p:pG
 ys:List pG
 qual:pG
 params:sJ
 body:rF
 scope:rY
 tb:TE
def LamD.At(L:LamD)(cl:List (pG × pC))(H:Hp)(f:pC):Prop:=LamAt H f "<lambda>" L.qual L.params L.body L.scope cl
end L3
namespace PySem
namespace F
end F
def Heap.IsRevS(h:pS)(a:pC)(x:pG)(t:sP)(i:Int):Prop:=∃o,h.get? a=tE o/\o.cls=.type "reversed"/\o.data=.fields (u9 [.str x t,rawInt i])
def Heap.IsRevS.typeIs{s:pF}(z:s.heap.IsRevS a x t i):s.TypeIs (.ref a) "reversed":=let #[o,ho,hc,_]:=z; #[o,ho,hc]
def Heap.IsRevS.at{h h':pS}(z:h.IsRevS a x t i)(e:∀o,h.get? a=tE o->h'.get? a=tE o):h'.IsRevS a x t i:=let #[o,ho,r]:=z; #[o,e _ ho,r]
end PySem
namespace L3
end L3
namespace L2
end L2
namespace L3
open PySem L2
end L3
namespace L3
open PySem.AutoSeq1 (wpAny_loadPart')
open MeetsSeq MeetsSeq2 MeetsSeq3 SeqRoads2 SeqAt
end L3
namespace L3
theorem WO{α:Type}[DecidableEq α](k:α)(v:pD)(x:α):∀kvs:List (α × pD),(kvs.map λkv=>if kv.1=k then (kv.1,v)else kv).find? (λkv=>kv.1=x)=(kvs.find? λkv=>kv.1=x).map λkv=>if kv.1=k then (kv.1,v)else kv
 | []=>rfl
 | p::kvs=>by
  have e:(if p.1=k then (p.1,v)else p).1=p.1:=by split <;> rfl
  rw[ak,List.find?_cons,List.find?_cons,WO k v x kvs]
  erw[e]
  by_cases h:p.1=x
  ·simp [h]
  ·simp [h]
set_option tactic.hygienic true in
mutual section
def Vh[DecidableEq α](kvs:List (α × pD))(k:α)(v:pD)(x:α):valueAt (stored kvs k v) x=if x=k then tE v else valueAt kvs x:=by
 unfold stored valueAt;split
 ·rename_i h;rw[WO];by_cases e:x=k
  ·subst e;rw[z6 rfl];let#[p,hp,hk]:=Ae.mp h
   cases hf:kvs.find? λkv=>kv.1=x with
   | none =>
    have:=Af.mp hf p hp;exact y9 hk this
   | some q =>
    have hq:=ef hf;have hq':q.1=x:=by simpa using hq
    simp [hq']
  ·rw[z9 e]
   cases hf:kvs.find? λkv=>kv.1=x with
   | none=>rfl
   | some q =>
    have hq:=ef hf;have hq':q.1=x:=by simpa using hq
    have:¬ q.1=k:=λz=>e (hq'.symm.trans z);simp [this]
 ·rename_i h;rw[List.find?_append];by_cases e:x=k
  ·subst e;rw[z6 rfl]
   have:kvs.find? (λkv=>kv.1=x)=tF:=by
    rw[List.find?_eq_none];intro p hp hk;exact h (Ae.mpr #[p,hp,hk])
   rw[this];simp
  ·have e':¬ k=x:=λz=>e z.symm;rw[z9 e];simp [e']
def jL(P:pJ)(w:pR)(a:pC)(m:pG->Option V)(n:Nat):HO:=.ext λh=>(a == sysModules)=tH/\∃kvs:List (pG × pD),h.DictOf (dk P w) a kvs/\kvs.length<=n/\∀k,RelO (m k) (valueAt kvs k)
def QO(hs:(a == sysModules)=tH)(d:h.DictOf (dk P w) a kvs)(hl:kvs.length<=n)(r:∀k,RelO (m k) (valueAt kvs k)):ObjOk P w H h a (jL P w a m n) :=
 #[#[hs,kvs,d,hl,r],(let #[o,es,ep,ho,_]:=d; #[o,ho]),λh1 h2 ⟨hs,kvs,⟨o,es,ep,ho,rest⟩,z⟩ k=>#[hs,kvs,#[o,es,ep,k _ ho,rest],z]]
def Inv.beyond(I:Inv X tI σ H s):(s⁻¹ == sysModules)=tH:=by let#[o,es,ep,e,_]:=I.ok.mod.glob;have h1:=au e;have h2:=I.ok.bsz;have h3:=I.sz;have h4:1<=pj:=∅;have h5:1<s⁻¹:=ao (bn h4 h1) (aG h2 h3);rw[beq_eq_false_iff_ne];intro z;exact bU h5 z
def zde(P:pJ)(w:pR):TE:=λZ H Q=>∀p,H p=tF->Q (.ref p) (upd H p (jL P w p (λZ=>tF) 0))
def zb0:PE X (.Dict [] [] pos) (zde X.prog X.w):=λtI s σ H Q I h =>
 wpAny_Dict_empty #[.ref s⁻¹,_,I.laid (a:=s⁻¹) (t':=s.toks) (λZ Z q=>ac _ q) (am _) (QO (m:=λZ=>tF) (Inv.beyond I) (Heap.DictOf.new s.heap) (am _) λZ=>trivial),rfl,h _ (I.hok.fresh (am _))]
def Inv.tdic(I:Inv X tI σ H s)(h:H a=tE (jL X.prog X.w a m n)):(a == sysModules)=tH/\∃kvs:List (pG × pD),s.heap.DictOf (dk X.prog X.w) a kvs/\kvs.length<=n/\∀k,RelO (m k) (valueAt kvs k):=(I.hok _ _ h).1
def zfe(P:pJ)(w:pR):R2:=λx y H Q=>∃a m n k v,x=.ref a/\y=.str k/\H a=tE (jL P w a m n)/\m k=tE v/\Q v H
def za2:IxR X (zfe X.prog X.w):=by intro value slice tI s σ H x y v u Q I rx ry h hs;let#[a,m,n,k,z,rfl,rfl,ha,hk,q]:=h;cases rx;let#[t,rfl]:=ry;let#[_,kvs,dd,hl,r]:=Inv.tdic I ha;let#[w',hw,rw']:=RelO.some_of (v:=z) (o:=valueAt kvs k) (by rw[<- hk];exact r k);exact tail_any dd.typeIs slot_dict_getitem.lookup (wpAny_getItem_of (knd:=dk X.prog X.w) (strKind_is _ _ _ _) dd.mapOf hw #[z,H,I.tok _,rw',q]) hs
def zds(P:pJ)(w:pR):V->V->V->Hp->(Hp->Prop)->Prop:=λo i v H Q=>∃a m n k,o=.ref a/\i=.str k/\H a=tE (jL P w a m n)/\n<=100000/\Q (upd H a (jL P w a (λx=>if x=k then tE v else m x) (n+1)))
def Jp:zfZ X (zds X.prog X.w):=by
 intros o i v ov iv u Q I ro ri rv h;let#[a,m,n,k,rfl,rfl,ha,hn,q]:=h;cases ro;let#[t,rfl]:=ri;let#[hsm,kvs,dd,hl,r]:=Inv.tdic I ha;have s16:=yb;refine wpAny_setItem_pairs (knd:=dk X.prog X.w) (hsz:=by lia) (strKind_is _ _ _ _) dd λh' dd' hs=>#[_,?_,q];have he:∃q,h'.get? a=tE q:=let #[q,_,_,hq,_]:=dd'; #[q,hq];refine I.write (x:=a) (e:=a) (by rw[ha];exact True.intro) (.inl rfl) (λb q hb z=>(hs.2 b hb).trans z) he (QO hsm dd' (aG (stored_length_le _ _ _) ⋯) λx=>?_);rw[Vh];by_cases e:x=k
 ·rw[z6 e,z6 e];exact rv
 ·rw[z9 e,z9 e];exact r x
def zep(P:pJ)(w:pR):R2:=λx y H Q=>∃a m n k,x=.str k/\y=.ref a/\H a=tE (jL P w a m n)/\Q (.bl (m k).isNone) H
def Jg:OpR X (pH .NotIn) (zep X.prog X.w):=by
 intros x y v u Q I rx ry h;let#[a,m,n,k,rfl,rfl,ha,q]:=h;let#[t,rfl]:=rx;cases ry;let#[hsm,kvs,dd,hl,r]:=Inv.tdic I ha;refine wpAny_notIn_of (knd:=dk X.prog X.w) (strKind_is _ _ _ _) hsm dd.mapOf ?_
 have e:(!(valueAt kvs k).isSome)=(m k).isNone:=by
  have:=r k
  cases hm:m k with
  | none =>
   cases hv:valueAt kvs k with
   | none=>rfl
   | some z=>rw[hm,hv]at this;exact this.elim
  | some z0 =>
   cases hv:valueAt kvs k with
   | none=>rw[hm,hv]at this;exact this.elim
   | some z=>rfl
 rw[e];exact#[.bl _,H,I.tok _,rfl,q]
def uQ(hc:X.calm=tG)(S:uU X scope own caps ix)(hg:∀cl C tI s3 H3 fp,PG (ya X scope cl C (own ++ caps) tI s3 H3 fp λZ Z=>False) tg g)(ht:∀cl C tI s3 H3 fp xe,XE (ya X scope cl C (own ++ caps) tI s3 H3 fp xe) EX->PTs (ya X scope cl C (own ++ caps) tI s3 H3 fp xe) ifs tt)(hst:X.stack=X.env::X.outer/\X.env.frame=tE X.env.locals)(hxe:XE X EX)(he:∀cl C tI s3 H3 fp xe,XE (ya X scope cl C (own ++ caps) tI s3 H3 fp xe) EX->PE (ya X scope cl C (own ++ caps) tI s3 H3 fp xe) elt te)(hc1:∀y c,cl.lookup y=tE c->X.env.cells.lookup y=tE c)(hc2:∀y,(y,NameKind.free) ∈ scope.names->∃c,cl.lookup y=tE c){Q:VK}(I2:Inv X tI σ H2 s2)(T:Q5 X.prog X.w X.K tg J fp it tn)(st2:tn 0 s2.heap)(f2:∀b ∈ fp,xK X tI H2 b)(q:∀D,H2 D=tF->∃W:Nat->Nat->List V->Hp->Prop,(∃m,W 0 m [] (upd H2 D (.lst []))) /\
   ∀i m tK H',W i m tK H'->(J.stop i H'/\Q (.ref D) H')\/(J.go i H'/\∀x H2,J.yld i H' x H2->g x (wX σ own.length ix) H2 λσ3 H3=>xm (wX σ own.length ix) σ3/\tt σ3 H3 λb H4=>if b=tG then
    te σ3 H4 λv H5=>H5 D=tE (.lst tK)/\tK.length<pA/\∃m',m'<m/\W (i+1) m' (tK ++ [v]) (upd H5 D (.lst (tK ++ [v])))
    else ∃m',m'<m/\W (i+1) m' tK H4)) {RR:pD->pC->Result->pF->Prop} (hRR:∀D C m s' H',H2 D=tF->s'.heap.Ns C m->xK X tI H' C->Inv X tI σ H' s'->Q (.ref D) H'->RR (.ref D) C (.ok .next) s') (hRE:∀D C m s' x,s'.heap.Ns C m->(∀h',Heap.SameBut C s'.heap h'->∀cenv:tm,cenv.locals=C->pE (model X.prog X.w) X.A (gm "comprehension.variables-let-go" x cenv:Sem pD) (λZ Z=>False) X.xe { s' with heap:=h' })->RR (.ref D) C (.error x) s') :
  pE (model X.prog X.w) X.A (newList []) (λtK s3=>pE (model X.prog X.w) X.A (newFunctionEnv scope X.env.globals cl [] X.env.qual tF .none (tE X.env)) (λcenv s4 =>
   rz (model X.prog X.w) X.A (.compStart (.ListComp elt [#[tg,iter,ifs,0]] scope pos) 0 (.ref it) tK { cenv with scope:=relabel scope X.env }) (RR tK cenv.locals) s4) E s3) E s2:=by
 have hD:H2 s2⁻¹=tF:=I2.hok.fresh (am _);let#[W,#[m0,w0],turn]:=q _ hD;refine sf (rV S.nocell (by intro y hy;simp at hy) (λh1 hns1 hsb1=>?_) S.kind);dsimp only at hns1 hsb1 ⊢
 have I3:Inv X tI σ (upd H2 s2⁻¹ (.lst [])) { s2 with heap:=s2.heap.push { cls:=.type "list",dict:=tF,data:=.seq ([]:List pD).toArray } } :=
  I2.lnew (its:=[]) (t':=s2.toks) .nil (aw _)
 generalize hs3:({ s2 with heap:=s2.heap.push { cls:=.type "list",dict:=tF,data:=.seq ([]:List pD).toArray } }:pF)=s3 at I3;have e3:s2.heap.push { cls:=.type "list",dict:=tF,data:=.seq ([]:List pD).toArray }=s3.heap:=by rw[<- hs3]
 rw[e3]at hns1 hsb1 ⊢;have k1:∀b o,s3.heap.get? b=tE o->h1.get? b=tE o:=λb o e=>(hsb1.2 b (ax (au e))).trans (ac _ e);have k23:∀b o,s2.heap.get? b=tE o->s3.heap.get? b=tE o:=λb o e=>by rw[<- e3];exact ac _ e
 have hz:s3⁻¹=s2⁻¹+1:=by rw[<- e3,bG]
 have fpObj:∀b ∈ fp,∃o,s2.heap.get? b=tE o:=λb hb=>let #[o,e,_]:=T.obj 0 _ st2 b hb; #[o,e];have fplt:∀b ∈ fp,b<s2⁻¹:=λb hb=>let #[o,e]:=fpObj b hb;au e;have f3:∀b ∈ fp,xK X tI (upd H2 s2⁻¹ (.lst [])) b:=λb hb=>#[by rw[zm (ax (fplt b hb))];exact (f2 b hb).1,(f2 b hb).2]
 have I4:Inv (ya X scope cl s3⁻¹ (own ++ caps) tI s3 (upd H2 s2⁻¹ (.lst [])) fp λZ Z=>False) [] (wX σ own.length ix) (upd H2 s2⁻¹ (.lst [])) { s3 with heap:=h1,toks:=s3.toks+([]:List (pG × pD)).length } :=
  ko S hc1 hc2 I3 f3 (λb hb=>by rw[hz];exact cr (fplt b hb)) hns1 k1
 have st4:tn 0 h1:=T.keep 0 _ _ st2 λb hb o e=>k1 b o (k23 b o e);generalize hs4:({ s3 with heap:=h1,toks:=s3.toks+([]:List (pG × pD)).length }:pF)=s4 at I4;have es4:({ s2 with heap:=h1,toks:=s2.toks+([]:List (pG × pD)).length }:pF)=s4:=by rw[<- hs4,<- hs3]
 have e4:h1=s4.heap:=by rw[<- hs4]
 have loop:rz (model X.prog X.w) X.A (.compLoop (.ListComp elt [#[tg,iter,ifs,0]] scope pos) 0 (.ref it) (.ref s2⁻¹) (compEnvC scope cl s3⁻¹ X.env)) (RR (.ref s2⁻¹) s3⁻¹) s4:=by
  let X':=ya X scope cl s3⁻¹ (own ++ caps) tI s3 (upd H2 s2⁻¹ (.lst [])) fp λZ Z=>False
  have fp':∀{H':Hp},(∀b ∈ fp,H' b=tF)->∀b ∈ fp,xK X' [] H' b:=λ{H'} hn b hb=>by
   let#[_,a1,a2,a3,a4,a5]:=f3 b hb;refine#[hn b hb,ax (show b<s3⁻¹ from by rw[hz];exact cr (fplt b hb)),λz=>?_,.inl hb,λx c e=>a4 x c (hc1 x c e),λp hp=>?_]
   ·rcases tN.mp (I3.stkSub b z)with e | e
    ·exact a1 e
    ·exact a2 e
   ·have:p ∈ (X.pn ++ tI) ++ []:=hp;rw[aV]at this;exact a5 p this
  refine YI (λn s'=>∃i tK H',Inv X' [] (wX σ own.length ix) H' s'/\tn i s'.heap/\(∀b ∈ fp,H' b=tF)/\W i n tK H') rfl ?_ m0 #[0,[],_,I4,by rw[<- e4];exact st4,λb hb=>(f3 b hb).1,w0];rintro n s5 ⟨i,tK,H5,I5,st5,fr5,w5⟩;refine pV ?_;rcases turn i n tK H5 w5 with ⟨stop,qn⟩ | ⟨go,step⟩
  ·refine thn (T.done X' rfl rfl rfl hc i [] s5 _ H5 _ I5 (fp' fr5) st5 stop) λr s6 ⟨hr,I6⟩=>?_;subst hr;let#[m,hm,_]:=I6.loc;refine hRR _ _ m s6 H5 hD hm (I3.fpOk (am _) I6.free) (I3.call' (s':=s6) I6.os I6.base I6.hok I6.bare λb hb=>?_) qn;let#[_,a1,a2,a3,a4,a5]:=f3 b hb;exact#[a3,a1,a4,a5]
  ·refine thn (T.item X' rfl rfl rfl hc i [] s5 _ H5 (λZ Z=>False) I5 (fp' fr5) st5 go) λr s6 ⟨u,hr,h6⟩=>?_;subst hr;refine pV (thn h6 λZ s7=>el5 λx H7 I7 r7 q_z=>?_);let#[y7,st7,fr7]:=q_z;have I7':=I7.pinned (fp' fr7) (T.obj _ _ st7);refine pV (thn (hg _ _ _ _ _ _ _ s7 _ H7 x u _ I7' r7 (step x H7 y7)) λZ s8=>el5 λσ8 H8 I8 ks q8=>?_);refine thn (ht cl _ tI s3 (upd H2 s2⁻¹ (.lst [])) fp _ (λe s hfl=>Us (RE:=λe s'=>RR (.ref s2⁻¹) s3⁻¹ (.error e) s') hst hxe hc1 I3 f3 hfl λm s' x a b=>hRE _ _ m s' x a b) _ s8 σ8 H8 _ (I8.wish _) q8) λb s9=>el3 λH9 I9' q9=>?_;have I9:=Inv.unwish (X:=X') I9'
   have back:∀{s':pF} {H':Hp} {acc':List V} {m':Nat},Inv X' ([] ++ kg fp s7.heap) σ8 H' s'->m'<n->W (i+1) m' acc' H'->∃m,m<n/\∃i tK H',Inv X' [] (wX σ own.length ix) H' s'/\tn i s'.heap/\(∀b ∈ fp,H' b=tF)/\W i m tK H':=λ{s' H' acc' m'} J' hm w'=>by
    refine#[m',hm,i+1,acc',H',(J'.unpinned).weak ks.1 ks.2,T.keep _ _ _ st7 λb hb o e=>(J'.pin (b,o) (aC _ (aC _ (xB hb e)))).1,λb hb=>?_,w'];let#[o,e,d]:=T.obj _ _ st7 b hb;exact (J'.pin (b,o) (aC _ (aC _ (xB hb e)))).2.1
   cases b with
   | false =>
    rw[z9 aB]at q9 ⊢;let#[m',hm,w']:=q9;exact back I9 hm w'
   | true =>
    rw[z6 rfl]at q9 ⊢;refine thn (he cl _ tI s3 (upd H2 s2⁻¹ (.lst [])) fp _ (λe s hfl=>Us (RE:=λe s'=>RR (.ref s2⁻¹) s3⁻¹ (.error e) s') hst hxe hc1 I3 f3 hfl λm s' x a b=>hRE _ _ m s' x a b) _ s9 σ8 H9 _ (I9.wish _) q9) λv s10=>el5 λy H10 I10' r10 q_z=>?_;let#[hD10,hsz,m',hm,w']:=q_z;have I10:=Inv.unwish (X:=X') I10';refine pV ?_;have:=xg (X:=X') _ s10 σ8 H10 (.ref s2⁻¹) [y] (.ref s2⁻¹) [v] (λZ H'=>H'=upd H10 s2⁻¹ (.lst (tK ++ [y]))) I10 rfl (.cons r10 .nil) #[tK,hD10,hsz,rfl];refine thn this λ_ s11 ⟨_,H11,I11,_,eH⟩=>?_;subst eH;exact back I11 hm w'
 have goal:rz (model X.prog X.w) X.A (.compStart (.ListComp elt [#[tg,iter,ifs,0]] scope pos) 0 (.ref it) (.ref s2⁻¹) (compEnvC scope cl s3⁻¹ X.env)) (RR (.ref s2⁻¹) s3⁻¹) s4 :=
  sr loop (T.self _ 0 s4 _ _ (by rw[<- e4];exact st4) loop)
 rw[<- es4]at goal;exact goal
def Yk(hc:X.calm=tG)(S:uU X scope own caps ix)(hst:X.stack=X.env::X.outer/\X.env.frame=tE X.env.locals)(hxe:XE X EX)(hi:PI X tg iter wi)(hg:∀cl C tI s3 H3 fp,PG (ya X scope cl C (own ++ caps) tI s3 H3 fp λZ Z=>False) tg g)(ht:∀cl C tI s3 H3 fp xe,XE (ya X scope cl C (own ++ caps) tI s3 H3 fp xe) EX->PTs (ya X scope cl C (own ++ caps) tI s3 H3 fp xe) ifs tt)(he:∀cl C tI s3 H3 fp xe,XE (ya X scope cl C (own ++ caps) tI s3 H3 fp xe) EX->PE (ya X scope cl C (own ++ caps) tI s3 H3 fp xe) elt te)(hs:‹∀x,foldedSetIterable iter X.env x=pure x›) :
  PE X (.ListComp elt [#[tg,iter,ifs,0]] scope pos) (qP wi g tt te own.length ix):=by
 intros Q I h;let#[cl,hclos,hc1,hc2]:=wu (scope:=scope) (env:=X.env) λy hy=>I.ok.has y (S.free y hy);rw[eval_ListComp];refine rM (use:=tF) rfl hs hclos S.kind S.names (thn (hi tI s σ H _ I h) λv s1 h1=>thn h1 λitv s2 h2=>?_);let#[it,fp,tn,J,H2,e,I2,T,st2,f2,q]:=h2;subst e;refine uQ (RR:=λtK C=>compPost (model X.prog X.w) X.A X.xe tF (EP X tI σ Q) tK C) hc S hg ht hst hxe he hc1 hc2 I2 T st2 f2 q ?_ ?_
 ·intro D C m s' H' _ hn fc I' qn;let#[a0,a1,a2,a3,a4,a5]:=fc;exact#[m,hn,λh' sb=>#[.ref D,H',I'.turned (t':=s'.toks) (λb o hb e=>(sb.2 b hb).trans e) a0 a1 a3 a4 a5,rfl,qn]]
 ·intro D C m s' x hn hp;exact#[m,hn,hp]
def xeN:XE X E0:=λe s h=>by
 let#[_,_,_,_,_,_,_,_,_,_,_,_,_,_,h]:=h;exact h.elim
def zdX(h:PE (X.wish λZ Z=>False) e t):PE X e t:=λtI s σ H Q I hq=>pV (thn (h tI s σ H Q (I.wish _) hq) λv s'=>el5 λx H' I' r q=>#[x,H',I'.unwish,r,q])
def KO(h:PTs (X.wish λZ Z=>False) ifs t):PTs X ifs t:=λtI s σ H Q I hq=>pV (thn (h tI s σ H Q (I.wish _) hq) λv s'=>el3 λH' I' q=>#[H',I'.unwish,q])
def xf(hc:X.calm=tG)(S:uU X scope own caps ix)(hi:PI X tg iter wi)(hg:∀cl C tI s3 H3 fp,PG (ya X scope cl C (own ++ caps) tI s3 H3 fp λZ Z=>False) tg g)(ht:∀cl C tI s3 H3 fp,PTs (ya X scope cl C (own ++ caps) tI s3 H3 fp λZ Z=>False) ifs tt)(he:∀cl C tI s3 H3 fp,PE (ya X scope cl C (own ++ caps) tI s3 H3 fp λZ Z=>False) elt te)(hst:‹X.stack=X.env::X.outer/\X.env.frame=tE X.env.locals›) (hs:‹∀x,foldedSetIterable iter X.env x=pure x›) :
  PE X (.ListComp elt [#[tg,iter,ifs,0]] scope pos) (qP wi g tt te own.length ix) :=
 Yk hc S hst xeN hi hg (λa b c d e f Z Z=>KO (ht a b c d e f)) (λa b c d e f Z Z=>zdX (he a b c d e f)) hs
def vO(hN:X.N.Nodup)(hy:X.N[i]? = tE y)(hly:Loc X.env.scope y)(hf:X.fn y=tG\/X.env.scope.names.lookup y=tE .local)(hc:X.calm=tG)(S:uU X scope own caps ix)(hi:PI X tg iter wi)(hg:∀cl C tI s3 H3 fp,PG (ya X scope cl C (own ++ caps) tI s3 H3 fp λZ Z=>False) tg g)(ht:∀cl C tI s3 H3 fp,PTs (ya X scope cl C (own ++ caps) tI s3 H3 fp λZ Z=>False) ifs tt)(he:∀cl C tI s3 H3 fp,PE (ya X scope cl C (own ++ caps) tI s3 H3 fp λZ Z=>False) elt te)(hst:‹X.stack=X.env::X.outer/\X.env.frame=tE X.env.locals›)(hsw:‹swapsWith (.ListComp elt [#[tg,iter,ifs,0]] scope pos) (tE (.Name y py)) spos.line X.env=pure tG›)(hs:‹∀x,foldedSetIterable iter X.env x=pure x›) :
  PS X (.Assign [.Name y py] (.ListComp elt [#[tg,iter,ifs,0]] scope pos) spos) (Zr i (qP wi g tt te own.length ix)):=by
 intros D I h;let#[cl,hclos,hc1,hc2]:=wu (scope:=scope) (env:=X.env) λy hy=>I.ok.has y (S.free y hy);rw[exec_Assign_Name_used _ _ _ _ hsw];refine ph (rj (ph ?_));show pE _ X.A (do let _ <- comprehension (.ListComp elt [#[tg,iter,ifs,0]] scope pos) scope X.env _ (newList []) tH (eval iter X.env) (tE (assign (.Name y py) X.env))) _ _ s;refine ph (thn (rM (use:=tE (assign (.Name y py) X.env)) (Q:=λZ s'=>SP X tI D .next s') rfl hs hclos S.kind S.names (thn (hi tI s σ H _ I h) λv s1 h1=>thn h1 λitv s2 h2=>?_)) λZ s' hq=>pi (pi hq));let#[it,fp,tn,J,H2,e,I2,T,st2,f2,q]:=h2;subst e;refine uQ (Q:=λx H1=>D.nx (σ.set i (tE x)) H1) (RR:=λtK C=>compPost (model X.prog X.w) X.A X.xe (tE (assign (.Name y py) X.env)) (λZ s'=>SP X tI D .next s') tK C) hc S hg (λa b c d e f Z Z=>KO (ht a b c d e f)) hst xeN (λa b c d e f Z Z=>zdX (he a b c d e f)) hc1 hc2 I2 T st2 f2 q ?_ λD C m s' x hn hp=>#[m,hn,hp];intro D' C m s' H1 hD' hn fc I1 nx;let#[a0,a1,a2,a3,a4,a5]:=fc;show pE _ X.A (assign (.Name y py) X.env (.ref D')) _ _ s';refine sR (Z8 I1 hN hy hly (v:=.ref D') rfl (λs'' I2' ⟨a,sb,ha⟩=>?_) hf)
 have hCa:C≠a:=by
  rcases ha with e | e
  ·rw[e];exact a1
  ·exact λz=>a4 _ _ e z.symm
 refine#[m,hn.sameBut sb hCa,λh' sb'=>#[_,H1,I2'.turned (t':=s''.toks) (λb o hb e=>(sb'.2 b hb).trans e) a0 a1 a3 a4 a5,nx]]
end
end L3
namespace LL
open PySem L2 L3
open L2.SqL renaming of→x6
open L2.SqT renaming of→x8
open CNx renaming mk→x9
open SamT renaming of→ja0
open Iss renaming same→ja1,append→jb2
open CompL renaming «by»→ja2
open L2.Same renaming refl→ja3
open PySem.Pv renaming boot_list→jb0,boot_tuple→jb1,boot_bool→jb3
mutual section
def top(i:Nat):pN:=PySem.Challenge.pw_letterlaw_k50_what_is_too_far.main.body.getD i (.Pass #[0,0,0,0])
abbrev yI:pN:=xG (top 5) 0
abbrev yd:pN:=xG (top 6) 0
abbrev yX:pN:=top 11
abbrev wT:pN:=top 12
abbrev vP:pN:=top 13
abbrev zbt:pN:=top 14
abbrev Ww:pN:=top 16
abbrev kX:pN:=top 17
abbrev xZ:pN:=top 20
abbrev wL:pN:=top 21
abbrev vH:pN:=top 22
abbrev wE:pN:=xG (top 23) 0
abbrev yG:pN:=xG (top 23) 1
abbrev uF:pN:=top 29
abbrev vm:pN:=top 30
abbrev vL:pN:=top 31
abbrev jm:pN:=top 32
abbrev yK:pN:=top 33
abbrev xU:pN:=top 34
abbrev xH:pN:=top 35
abbrev vh:pN:=top 36
abbrev jE:pN:=top 37
abbrev Y8:pN:=top 39
abbrev uK:pN:=top 40
abbrev VP:pN:=top 41
abbrev ji:pN:=top 42
abbrev kC:pN:=top 43
abbrev xY:pN:=top 44
abbrev yO:pN:=top 50
abbrev wC:pN:=top 51
abbrev xo:pN:=top 52
abbrev xT:pN:=top 53
abbrev uE:pN:=top 54
abbrev wA:pN:=top 55
abbrev vd:pN:=xG (top 58) 0
abbrev wa:pN:=xG (top 58) 1
abbrev ve:pN:=xG (top 58) 2
abbrev xQ:pN:=xG (top 58) 3
abbrev xV:pN:=xG (top 58) 4
abbrev xn:pN:=xG (top 59) 0
abbrev yt:pN:=xG (top 59) 1
abbrev U1:pN:=top 61
abbrev Xt:pN:=top 62
abbrev jp:pN:=top 63
abbrev Xq:pN:=top 64
abbrev YY:pN:=top 65
abbrev VW:pN:=top 66
abbrev zci:pN:=top 67
abbrev jz:pN:=top 68
abbrev ZA:pN:=top 69
abbrev qx:pN:=top 70
abbrev vM:pN:=top 71
abbrev wf:pN:=top 72
abbrev jl:pN:=top 73
abbrev xP:pN:=top 74
abbrev YW:pN:=top 75
abbrev VQ:pN:=top 76
abbrev vk:pN:=top 77
abbrev yz:pN:=top 78
abbrev yP:pN:=top 79
abbrev uc:pN:=top 80
abbrev jS:pN:=top 81
end
section
variable{P:pJ}{w:pR}{K:pB}{mg:pG->Option pD}{base:pS}
seal L2.PE L2.PS L2.PA L2.PT L2.PSs L2.PI L2.PG L2.PW L2.PGs
local macro_rules | `($a<<<$b)=>`(Df $(mkIdent `P) $(mkIdent `w) $(mkIdent `K) $(mkIdent `mg) $(mkIdent `base) CX0 $a $b)
local macro_rules | `($a>>>$b)=>`(Df $(mkIdent `P) $(mkIdent `w) $(mkIdent `K) $(mkIdent `mg) $(mkIdent `base) (CXx $(mkIdent `P) $(mkIdent `w)) $a $b)
local macro_rules | `($a&&&$b)=>`(FnOk $(mkIdent `P) $(mkIdent `w) $(mkIdent `K) $(mkIdent `mg) $(mkIdent `base) CX0 $a $(mkIdent `f) $(mkIdent `fd) $b)
local macro_rules | `($a|||$b)=>`(FnOk $(mkIdent `P) $(mkIdent `w) $(mkIdent `K) $(mkIdent `mg) $(mkIdent `base) (CXx $(mkIdent `P) $(mkIdent `w)) $a $(mkIdent `f) $(mkIdent `fd) $b)
local macro_rules | `(!!$a)=>`(tE (.ref $a))
local macro_rules | `(~~~$a)=>`(tE (.str (tx $a)))
local macro_rules | `(-~~~$a)=>`(tE (.int (($a):Nat)))
local macro_rules | `(~~~!$a)=>`(tE (.int $a))
local macro_rules | `($a^^^$b)=>`(Fun $(mkIdent `K) $a $a $b $(mkIdent `f) $(mkIdent `fd))
end in abbrev sQz(n:Nat)(a:List PySem.Str)(s:PySem.Stmt):=zo a (a.take n) (zi s)
local macro_rules | `(tactic| rfl')=>do
 let A0←("zfG zeW zeJ zfy ze5 zfc zfm zeS zff zfa zbP zaT zbA ze9 zfq zeK ze3 zfI zaE zaG zbI zbU zaV zbG za3 zaX zbF zeL zfU zeV zeP zfh zfS zeY zft zbo zbE zb6 zbr zaH za5 za4 zaL".splitOn " ").toArray.mapM fun s=>`(Lean.Parser.Tactic.simpLemma| ↓$(mkIdent s.toName):ident)
 let A1←("zeC JH zct zeG QI tOp tC qT zI xp tCB za6 yW Kb zcA tOr UD Xi Z7 tIf rI rI0 rGe zet xO JN zcv zc0 zcW tSl Zk Jb Zo zdI tBM zbd zcb L2.start zfE cxK cxP cxW ak aA aJ ci bT eE Nat.reduceAdd Nat.reduceSub cP dM bt bu bz bw wX fj fk".splitOn " ").toArray.mapM fun s=>`(Lean.Parser.Tactic.simpLemma| $(mkIdent s.toName):ident)
 let A2←("zc7 zad zah KM zgo zfG zeW zeJ zfy ze5 zfc zfm zeS zff zfa zbP zaT zbA ze9 zfq zeK ze3 zfI zaE zaG zbI zbU zaV zbG za3 zaX zbF zeL zfU zeV zeP zfh zfS zeY zft zbo zbE zb6 zbr zaH za5 za4 zaL".splitOn " ").toArray.mapM fun s=>`(Lean.Parser.Tactic.simpLemma| ↓$(mkIdent s.toName):ident)
 let A3←("zeC wX fj fk Zr zav zcO zcG JH zct zeG QI tOp QG tC qT zI xp tCB za6 yW Kb zcA tOr UD Xi Z7 tIf rI rI0 rEq_is rNe_is zet xO JN zc0 zcW zcv tSl Zk Jb rGe decide_false decide_true Prod.mk.injEq rLen_is zcJ zb9 XS Vg YZ tyV tBM if_true if_false aY decide_eq_true_eq decide_eq_false_iff_not dO gd fP lt1 Zo zdI zaK jO zbu Xd YJ zey tHs zd7 zes zdd zcN zdw zeg Value.ref.injEq L2.start zdA zdY zf3 zf9 zgi zeh zgp zbd zcb zgq U4 zcU zcw zeN ZD UL ZM wR Y6 yk zfE zaf zcT cxK cxP cxW ak aA aJ ci bT eE Nat.reduceAdd Nat.reduceSub and_assoc zda exists_eq exists_eq' exists_eq_left' exists_eq_left exists_eq_right exists_eq_right' exists_and_left exists_and_right V.int.injEq V.ref.injEq V.str.injEq V.bl.injEq V.ty.injEq reduceCtorEq false_and and_false true_and and_true or_false false_or exists_false exists_const cP dM Option.some.injEq bt bu List.cons.injEq aV bz bw KG Kw zat K7".splitOn " ").toArray.mapM fun s=>`(Lean.Parser.Tactic.simpLemma| $(mkIdent s.toName):ident)
 `(tactic| first | (dsimp only[$A0,*,$A1,*];try simp only[$A2,*,$A3,*]) | simp only[$A2,*,$A3,*])
local macro_rules | `(tactic| ac_rfl)=>do
 let A0←("yu zw zN yy yw zx".splitOn " ").toArray.mapM fun s=>`(Lean.Parser.Tactic.simpLemma| $(mkIdent s.toName):ident)
 `(tactic| repeat (first | rfl' | simp only[$A0,*]))
mutual section
def nmB{α β:Type}{P B:α->β->Prop}(h:∀G:α->β->Prop,G=B->∀a b,P a b->G a b):∀a b,P a b->B a b:=h _ rfl
def nmC{α β γ:Type}{P B:α->β->γ->Prop}(h:∀G:α->β->γ->Prop,G=B->∀a b c,P a b c->G a b c):∀a b c,P a b c->B a b c:=h _ rfl
def nmE{α β γ δ ε:Type}{P R S B:α->β->γ->δ->ε->Prop}(h:∀G:α->β->γ->δ->ε->Prop,G=B->∀a b c d e,P a b c d e->R a b c d e->S a b c d e->G a b c d e):∀a b c d e,P a b c d e->R a b c d e->S a b c d e->B a b c d e:=h _ rfl
def xe0 : XE X E0:=λe s h=>by
 let#[_,_,_,_,_,_,_,_,_,_,_,_,_,_,h]:=h;exact h.elim
def ZS(l:()):Prop:=∀c ∈ l,97<=c/\c<=122
instance (l:()):Decidable (ZS l):=by unfold ZS;infer_instance
def wG(l:()):Bool:=decide (1<=l.length/\l.length<=6/\ZS l/\l.Nodup)
def Zy:Sp:=λvs H Q Z=>∃c:Nat,vs=[⇑[c]]/\Q (.bl (decide (97<=c/\c<=122))) H
def JZ:sQz 1 ["sign"] yX:=by nofun
def JY(F:("is_small_letter"^^^yX)):(1&&&["sign"]) Zy:=by
 exists F.ok JZ
 ·let#[c,rfl,q]:=h;refine#[_,(zh (zp (Jk vY vY zO (pv 0) zO))),?_];have ea:cs (("a" : pG))=[97]:=rfl;have ez:cs (("z" : pG))=[122]:=rfl
  rfl'
  erw[ea,ez,Y6,lt1]
  refine yC (λh=>?_) λh=>?_
  ·have e:decide (97<=c/\c<=122)=!decide (122<c):=by
    by_cases h2:122<c
    ·rw[y4 h2,y6 ⋯];rfl
    ·rw[y6 h2,y4 ⋯];rfl
   rw[e]at q;exact q
  ·rw[y6 ⋯]at q;exact q
structure zge(K:pB)(mg:pG->Option pD)(C:pC):Prop where
 xi:XI K C
 ini:aj K (.ref C) "__init__" = tE (tE (.builtin "ValueError.__init__"))
 g:mg "NoLetters" = tE (.ref C)
 most:∃t,mg "MOST_LETTERS" = tE (.int 6 t)
def v0(C:pC):Sp:=λvs H Q E=>∃l:(),vs=[⇑l]/\l.length<=1000/\(wG l=tG->Q ⇑l H)/\(wG l=tH->E (.ref C) tF H)
def mH:sQz 1 ["text","sign"] wT:=by nofun
def Zw(B:Bt mg)(T:zge K mg C)(F:("letters_of"^^^wT))(Ds:(1<<<"is_small_letter") ["sign"] [] Zy):(2|||["text"]) (v0 C):=by
 exists Fun.okX F mH,0
 ·let#[l,rfl,hl,q1,q2]:=h;let#[t6,g6]:=T.most
  refine#[_,(zZ (zS (yl (kR vY vY ze (zR B.len (pv 0)) (yT (v:=.int 6) rfl g6 #[t6,rfl]))) (zh (yS hx rfl T.xi.toXC T.ini rfl T.g (za zO zd)))
    zv) (zZ (xh PassesOwn.leaving rfl (XM (pv 0)) (zr (i:=1) mH.nd rfl (.inl rfl)) (zZ (zS (yl (X8 (cl0 Ds hr .nil rfl (za (pv 1) zd)) (λZ=>rfl))) (zh (yS hx rfl T.xi.toXC T.ini rfl T.g (za zO zd)))
     zv) (zh (zS (zB uT (ut bI fL fM VG (pv 0) (za (pv 1) zd)) ze (zF _)) (zh (yS hx rfl T.xi.toXC T.ini rfl T.g (za zO zd)))
     zv)))) (zh (zp (pv 0))))),?_]
  have s16:=yb
  rfl'
  have bad:(¬ (1<=l.length/\l.length<=6/\ZS l/\l.Nodup))->∀H':Hp,H'=H->E (.ref C) tF H':=λh H' e=>by
   rw[e];exact q2 (y6 h)
  refine#[⋯,yC (λc=>yC (λc2=>#[⋯,bad (λh=>by have:=h.2.1;lia) H rfl]) (λc2=>?_)) (λc=>#[⋯,bad (λh=>by have:=h.1;lia) H rfl])];refine ForS.by (λi σ H'=>H'=H/\∃v,σ=[~~~l,v]/\ZS (l.take i)/\∀c ∈ l.take i,l.count c<=1) #[rfl,tF,rfl,λc h=>y9 h (by simp),λc h=>y9 h (by simp)] ?_ ?_
  ·refine nm4 ?_;rintro i c σ H' hg ⟨eH,v,rfl,hs,hn⟩:_;have hc:=ag hg;right
   rfl'
   erw[Zy]
   rfl'
   refine yC (λh=>#[⋯,bad (λz=>by have:=z.2.2.1 c hc;lia) _ eH]) (λh=>yC (λh2=>#[⋯,bad (λz=>?_) _ eH]) (λh2=>#[eH,?_,?_]))
   ·have:=Ag.mp z.2.2.2 c;lia
   ·rw[zP hg];intro x hx;rcases tO.mp hx with q | q
    ·exact hs x q
    ·have:x=c:=by simpa using q
     subst this;lia
   ·rw[zP hg];intro x hx;rcases tO.mp hx with q | q
    ·exact hn x q
    ·have:x=c:=by simpa using q
     subst this;lia
  ·refine nmB ?_;rintro σ H' ⟨eH,v,rfl,hs,hn⟩:_;rw[aI]at hs hn;right
   rfl'
   rw[eH];refine q1 (y4 #[⋯,⋯,hs,Ag.mpr λc=>?_]);by_cases hc:c ∈ l
   ·exact hn c hc
   ·rw[List.count_eq_zero.mpr hc];lia
def zt(l:())(k:Int)(p:()):Bool:=decide (0<=k/\k+p.length<=l.length/\(l.drop k.toNat).take p.length=p)
def wJ:Sp:=λvs H Q Z=>∃(l p:()) (k:Int),vs=[⇑l,.int k,⇑p]/\l.length<=10000/\p.length<=10000/\Q (.bl (zt l k p)) H
def ZK(h1:l.length<=10000)(h2:p.length<=10000)(h:Q (.bl (zt l k p)) H):wJ [⇑l,.int k,⇑p] H Q E:=#[l,p,k,rfl,h1,h2,h]
def Ym:sQz 3 ["word","place","part"] vP:=by nofun
def Z5(B:Bt mg)(F:("stands_at"^^^vP)):(1&&&["word","place","part"]) wJ:=by
 exists F.ok Ym
 ·let#[l,p,k,rfl,hl,hp,q]:=h
  refine#[_,(zZ (zS (yl (kR vY vY ze (pv 1) (zq vD (zR B.len (pv 0)) (zR B.len (pv 2))))) (zh (zp yA))
    zv) (zh (zp (yB xL (yE vg (pv 0) (yF (pv 1)) (yF (zq xt (pv 1) (zR B.len (pv 2))))) (pv 2) (zF _))))),?_]
  have s16:=yb
  rfl'
  have no:¬ (0<=k/\k+p.length<=l.length/\(l.drop k.toNat).take p.length=p)->Q (.bl tH) H:=λh=>by
   have e:zt l k p=tH:=y6 h;rw[e]at q;exact q
  refine yC (λh0=>#[⋯,⋯,yC (λh1=>no λh=>y9 h.2.1 ⋯) λh1=>#[⋯,⋯,?_]]) λh0=>no λh=>h0 h.1;rw[Y7 _ h0 ⋯ ⋯];have e:(k+(p.length:Int) - k).toNat=p.length:=⋯;rw[e]
  have e2:zt l k p=decide ((l.drop k.toNat).take p.length=p):=by
   unfold zt;exact decide_eq_decide.mpr #[λh=>h.2.2,λh=>#[h0,⋯,h]]
  rw[<- e2];exact q
def yM(l:())(k:Int)(o n:()):():=l.take k.toNat ++ n ++ l.drop (k.toNat+o.length)
def yZ(h:zt l k o=tG):l.take k.toNat ++ o ++ l.drop (k.toNat+o.length)=l/\(l.take k.toNat).length=k.toNat/\0<=k/\k+o.length<=l.length:=by
 unfold zt at h;rw[decide_eq_true_eq]at h;let#[h0,h1,h2]:=h;refine#[?_,by rw[aF];lia,h0,h1]
 have e:l.drop k.toNat=o ++ l.drop (k.toNat+o.length):=by
  have:=cF o.length (l.drop k.toNat);rw[h2,fR]at this;exact this.symm
 rw[aU,<- e,cF]
def XO(n:())(h:zt l k o=tG):zt (yM l k o n) k n=tG/\yM (yM l k o n) k n o=l:=by
 let#[e,hl,h0,h1]:=yZ h
 have e1:(yM l k o n).take k.toNat=l.take k.toNat:=by
  unfold yM;rw[aU,bq ⋯,bj ⋯]
 have e2:(yM l k o n).drop k.toNat=n ++ l.drop (k.toNat+o.length):=by
  unfold yM;rw[aU,cz ⋯,aZ ⋯,bz]
 have e3:(yM l k o n).length=l.length - o.length+n.length:=by
  unfold yM
  erw[aq,bh,hl]
  lia
 refine#[?_,?_]
 ·unfold zt;refine y4 #[h0,⋯,?_];rw[e2,bq ⋯,bj ⋯]
 ·show (yM l k o n).take k.toNat ++ o ++ (yM l k o n).drop (k.toNat+n.length)=l;rw[e1,<- fR,e2,cz ⋯,aZ ⋯,bz];exact e
def zaO(h0:0<=k):cut l tF (tE k) ++ n ++ cut l (tE (k + ↑o.length)) tF=yM l k o n:=by rw[Yg _ h0,qr _ ⋯];have:(k+(o.length:Int)).toNat=k.toNat+o.length:=⋯;rw[this];rfl
structure TNU(K:pB)(mg:pG->Option pD)(C:pC):Prop where
 xi:XI K C
 g:mg "NoUse" = tE (.ref C)
 na:NoAttr K C "at"
def kT:sQz 2 ["self","at"] yI:=by nofun
def ky(T:TNU K mg C)(F:Fun K "__init__" "NoUse.__init__" yI f fd):(1&&&["self","at"]) (vU C "at"):=by
 exists F.ok kT
 ·let#[x,v,rfl,hx,q]:=h;refine#[_,(zh (QY (pv 0) (pv 1) rfl)),?_]
  erw[zbZ]
  rfl'
  exact#[C,hx,T.xi.toXC,T.na,q]
structure DNU(P:pJ)(w:pR)(K:pB)(mg:pG->Option pD)(base:pS)(C:pC):Prop extends TNU K mg C where
 ini:∃f fd,aj K (.ref C) "__init__" = tE (tE (.ref f))/\bp K (.ref f)=tG/\(1&&&["self","at"]) (vU C "at")/\Binds K fd ["self","at"] []
def XU(C:pC):Sp:=λvs H Q E=>∃(l o n:()) (k:Int),vs=[⇑l,.int k,⇑o,⇑n]/\l.length<=10000/\o.length<=10000/\n.length<=10000/\(zt l k o=tG->Q ⇑(yM l k o n) H)/\(zt l k o=tH->∀d H',zfD H d "at" (.int 0) H'->E (.ref C) (tE d) H')
def zdm:sQz 4 ["word","place","old","new"] zbt:=by nofun
def zd4(B:Bt mg)(T:DNU P w K mg base C)(F:("put"^^^zbt))(oF:(1<<<"stands_at") ["word","place","part"] [] wJ):(3|||["word","place","old","new"]) (XU C):=by
 let#[fi,fdi,hi,hfn,Fi,Bi]:=T.ini
 exists Fun.okX F zdm,0
 ·let#[l,o,n,k,rfl,hl,ho,hn,q1,q2]:=h
  refine#[_,(zZ (zS (yl (X8 (cl0 oF hr .nil rfl (za (pv 0) (za (pv 1) (za (pv 2) zd)))) (λZ=>rfl))) (zh (YD hx rfl T.xi.toXC hi hfn Fi hr Bi rfl T.g (za ze zd)))
    zv) (zh (zp (zq yH (zq yH (yE vg (pv 0) wz (yF (pv 1))) (pv 3)) (yE vg (pv 0) (yF (zq xt (pv 1) (zR B.len (pv 2)))) wz))))),?_]
  have s16:=yb
  rfl'
  refine ZK hl ho ?_
  rfl'
  refine yC (λhb=>#[⋯,QE (q2 hb)]) λhb=>?_;have hb':zt l k o=tG:=by simpa using hb
  let#[_,_,h0,h1]:=yZ hb';have c1:=wM l tF (tE k);have c2:=wM l (tE (k + ↑o.length)) tF;refine#[⋯,⋯,⋯,⋯,?_,?_]
  ·erw[aq]
   lia
  ·have e:cut l tF (tE k) ++ n ++ cut l (tE (k + ↑o.length)) tF=yM l k o n:=by
    rw[Yg _ h0,qr _ ⋯];have:(k+(o.length:Int)).toNat=k.toNat+o.length:=⋯;rw[this];rfl
   rw[e];exact q1 hb'
structure TOrd(K:pB)(mg:pG->Option pD)(CO CR CW:pC):Prop where
 cO:Cls K CO
 cR:Cls K CR
 cW:Cls K CW
 gO:mg "Order" = tE (.ref CO)
 gW:mg "ByWeights" = tE (.ref CW)
 lO:NoAttr K CO "letters"
 lR:NoAttr K CR "letters"
 lW:NoAttr K CW "letters"
 wW:NoAttr K CW "weights"
def OrdAt(CO CR CW:pC)(H:Hp)(o:pC)(k:Nat)(l:())(ns:List Int):Prop:=∃dx,(k=0/\H o=tE (.ins CO dx [("letters",⇑l)])) \/
 (k=2/\ns.length=l.length/\∃w,H o=tE (.ins CW dx [("letters",⇑l),("weights",.ref w)])/\H w=tE (.tup (ns.map V.int)))
def OrdAt.same{CO CR CW:pC}{H H':Hp}{o:pC}{k:Nat}{l:()}{ns:List Int}(h:OrdAt CO CR CW H o k l ns)(e:Same H H'):OrdAt CO CR CW H' o k l ns:=by
 obtain⟨dx,⟨h1,h2⟩ | ⟨h1,h2,w,h3,h4⟩⟩:=h
 ·exact#[dx,.inl #[h1,e _ _ h2]]
 ·exact#[dx,.inr #[h1,h2,w,e _ _ h3,e _ _ h4]]
def jJ(l:())(ns:List Int)(w:()):Int:=((l.zip ns).map λp=>(w.count p.1:Int) * p.2).sum
def zu(k:Nat)(l:())(ns:List Int)(w:()):Int:=if k=2 then jJ l ns w else (w.length:Int)
def xu(k:Nat)(w:()):():=if k=1 then w.reverse else w
def qw(K:pB):Sp:=λvs H Q Z=>∃(x C dx:pC) (l:()),vs=[.ref x,⇑l]/\wG l=tG/\Cls K C/\NoAttr K C "letters"/\H x=tE (.ins C dx [])/\Q .non (upd H x (.ins C dx [("letters",⇑l)]))
def kQ:sQz 2 ["self","letters"] vd:=by nofun
def v8(B:Bt mg)(F:Fun K "__init__" "Order.__init__" vd f fd)(om:(2>>>"letters_of") ["text"] [] (v0 C)):(3&&&["self","letters"]) (qw K):=by
 exists F.ok kQ
 ·let#[x,C,dx,l,rfl,hg,hC,hN,hx,q]:=h;refine#[_,(zh (WT (pv 0) (clP xe0 om hr .nil rfl (za (pv 1) zd)) rfl)),?_];have s16:=yb
  rfl'
  exact#[l,rfl,by have:=y3 hg;lia,λZ=>#[_,_,_,hx,hC,hN,∅,q],λe=>by rw[hg]at e;cases e]
def YR:Sp:=λvs H Q Z=>∃(o:pC) (w:()),vs=[.ref o,⇑w]/\w.length<=1000/\Q (.int (w.length:Nat)) H
def qH:sQz 2 ["self","word"] wa:=by nofun
def qQ(B:Bt mg)(F:Fun K "weight" "Order.weight" wa f fd):(1&&&["self","word"]) YR:=by
 exists F.ok qH
 ·let#[o,w,rfl,hw,q]:=h;refine#[_,(zh (zp (zR B.len (pv 1)))),?_];have s16:=yb
  rfl'
  exact#[⋯,q]
def X1:Sp:=λvs H Q Z=>∃(o:pC) (w:()),vs=[.ref o,⇑w]/\Q ⇑w H
def kY:sQz 2 ["self","word"] ve:=by nofun
def um(B:Bt mg)(F:Fun K "seen" "Order.seen" ve f fd):(1&&&["self","word"]) X1:=by
 exists F.ok kY
 ·let#[o,w,rfl,q]:=h;refine#[_,(zh (zp (pv 1))),?_];have s16:=yb
  rfl'
  exact q
structure zf1(K:pB)(mg:pG->Option pD)(C:pC):Prop where
 xi:XI K C
 ini:aj K (.ref C) "__init__" = tE (tE (.builtin "ValueError.__init__"))
 g:mg "NoOrder" = tE (.ref C)
 most:∃t,mg "MOST_WEIGHT" = tE (.int 1000000 t)
abbrev DOI(P:pJ)(w:pR)(K:pB)(mg:pG->Option pD)(base:pS)(CO:pC):Prop:=DC P w K mg base CX0 3 CO "__init__" ["self","letters"] (qw K)
def qj(K:pB)(CW:pC):Sp:=λvs H Q Z=>∃(x dx a:pC) (l:()) (ns:List Int),vs=[.ref x,⇑l,.ref a]/\wG l=tG/\SqL K H a (ns.map V.int)/\ns.length=l.length/\(∀n ∈ ns,1<=n/\n<=1000000)/\H x=tE (.ins CW dx []) /\
 ∀w H',H w=tF->w≠x->(∀b o,b≠x->H b=tE o->H' b=tE o)->H' w=tE (.tup (ns.map V.int))->H' x=tE (.ins CW dx [("letters",⇑l),("weights",.ref w)])->Q .non H'
def lM:sQz 3 ["self","letters","weights","weight"] xn:=by nofun
def ux{f CO CR CW CN:pC}{fd:pT}(B:Bt mg)(T:TOrd K mg CO CR CW)(TN:zf1 K mg CN)(DI:DOI P w K mg base CO)(F:Fun K "__init__" "ByWeights.__init__" xn f fd) :(4|||["self","letters","weights"]) (qj K CW):=by
 let#[t6,g6]:=TN.most
 exists Fun.okX F lM,0
 ·let#[x,dx,a,l,ns,rfl,hg,hS,hl,hb,hX,q]:=h
  refine#[_,(zg (ww (zbb DI hr rfl T.gO (za (pv 0) (za (pv 1) zd)))) (zg (zS (zB Yd (zR B.len (pv 2)) (zR B.len (pv 1)) (zF _)) (zh (yS hx rfl TN.xi.toXC TN.ini rfl TN.g (za zO zd)))
    zv) (zg (xh PassesOwn.leaving rfl (ye (pv 2)) (zr (i:=3) lM.nd rfl (.inl rfl)) (zh (zS (yl (kR vY vY ze (pv 3) (yT (v:=.int 1000000) rfl g6 #[t6,rfl]))) (zh (yS hx rfl TN.xi.toXC TN.ini rfl TN.g (za zO zd)))
     zv))) (zh (WT (pv 0) (yR ZE rfl B.tuple jb1 (za (pv 2) zd)) rfl))))),?_]
  have s16:=yb;have hbx:∀b o,b≠x->H b=tE o->upd H x (.ins CW dx [("letters",⇑l)]) b=tE o:=λb o hb e=>by rw[zm hb];exact e
  have hS1:SqL K (upd H x (.ins CW dx [("letters",⇑l)])) a (ns.map V.int):=by
   rcases hS with (h | ⟨o,h⟩) | h
   ·exact .inl (.inl (hbx _ _ (λe=>by rw[e,hX]at h;cases h) h))
   ·exact .inl (.inr #[o,hbx _ _ (λe=>by rw[e,hX]at h;cases h) h])
   ·exact .inr h
  change H'=upd H x (.ins CW dx [("letters",⇑l)])/\σ=[!!x,~~~l,!!a,tF]
  ·ac_rfl;exact#[x,CW,dx,l,rfl,hg,T.cW,T.lW,hX,rfl]
  rintro σ H1 ⟨rfl,rfl⟩:0;change H'=upd H x (.ins CW dx [("letters",⇑l)])/\σ=[!!x,~~~l,!!a,tF]
  ·have hl6:l.length<=6:=by have:=y3 hg;lia
   ac_rfl;refine#[ns.length,.inl #[_,hS1,by rw[aa]],⋯,yC (λh=>y9 ⋯ h) λZ=>trivial]
  rintro σ H1 ⟨rfl,rfl⟩:0;change H'=upd H x (.ins CW dx [("letters",⇑l)])/\∃v3,σ=[!!x,~~~l,!!a,v3]
  ·ac_rfl;refine#[#[_,hS1],ForL.by (xs:=ns.map V.int) (λi σ H'=>H'=upd H x (.ins CW dx [("letters",⇑l)])/\∃v3,σ=[!!x,~~~l,!!a,v3]) #[rfl,tF,rfl] (λi σ H' Z h=>by rw[h.1];exact hS1) ?_ λσ H' h=>h];refine nm4 ?_;rintro i y σ H' hy ⟨rfl,v3,rfl⟩:_;rw[ay]at hy;let#[n,hn,rfl]:=tS.mp hy;let#[n1,n2]:=hb n (ag hn);right;ac_rfl;exact yC (λZ=>yC (λh=>y9 n2 h) λZ=>trivial) λh=>y9 n1 h
  rintro σ H1 ⟨rfl,v3,rfl⟩:0;ac_rfl;refine#[_,.inl #[hS1,λw hw=>?_]];have hwx:w≠x:=λe=>by rw[e,zb]at hw;cases hw
  have hwH:H w=tF:=by rw[zm hwx]at hw;exact hw
  have hX2:=zc (o:=.tup (ns.map V.int)) hw _ _ (zb (H:=H) (a:=x) (o:=.ins CW dx [("letters",⇑l)]));refine#[_,_,_,hX2,T.cW,T.wW,by show 1<1000;decide,q w _ hwH hwx (λb o hb' e=>?_) ?_ zb]
  ·rw[zm hb'];exact zc hw _ _ (hbx b o hb' e)
  ·rw[zm hwx];exact zb
theorem KR : xm (tF::tF::r) (tE x::tE y::r):=#[rfl,λi v h=>by
 cases i with
 | zero=>cases h
 | succ i =>
  cases i with
  | zero=>cases h
  | succ i=>exact h]
def Y4(CW:pC):Sp:=λvs H Q Z=>∃(o dx t:pC) (w l:()) (ns:List Int),vs=[.ref o,⇑w]/\w.length<=1000/\l.length<=6/\ns.length=l.length/\(∀n ∈ ns,1<=n/\n<=1000000)/\H o=tE (.ins CW dx [("letters",⇑l),("weights",.ref t)])/\H t=tE (.tup (ns.map V.int))/\∀H',Same H H'->Q (.int (jJ l ns w)) H'
def vN:sQz 2 ["self","word"] yt:=by nofun
def vR{f CO CR CW:pC}{fd:pT}(B:Bt mg)(T:TOrd K mg CO CR CW)(F:Fun K "weight" "ByWeights.weight" yt f fd) :(1&&&["self","word"]) (Y4 CW):=by
 exists F.ok vN
 ·let#[o,dx,t,w,l,ns,rfl,hw,hl,hn,hb,ho,ht,q]:=h;refine#[_,(zh (zp (xa (zfA rfl) rfl B.sum PyProof.Rows.boot_sum (za (xf (g:=zaK K 2 (jO (yW 0) (jO (yW 1) zbu))) (own:=["letter","weight"]) (caps:=["word"]) (ix:=[1]) (tt:=xy) (te:=(tOp Jf (tBM K "str" XS (z7 2) (zI (z7 0) xp)) (z7 1))) rfl (zM (sc:=zi yt) rfl (!0) (!0) (!0) rfl (!0) (!0) rfl) (zdW rfl B.zip (za (WB (pv 0) rfl) (za (WB (pv 0) rfl) zd))) (λZ Z Z Z Z Z=>wF (n:=2) rfl (zK (zr (i:=0) (show List.Nodup [_,_,_] by decide) rfl (.inl rfl)) (zK (zr (i:=1) (show List.Nodup [_,_,_] by decide) rfl (.inl rfl)) yV))) (λZ Z Z Z Z Z=>zY) (λZ Z Z Z Z Z=>(zq yj (ut bI fL fM VG (pv 2) (za (pv 0) zd)) (pv 1)))) zd)))),?_];have s16:=yb;ac_rfl;refine#[_,_,_,ho,T.cW,T.lW,_,rfl,_,_,_,ho,T.cW,T.wW,_,rfl,l,rfl,t,rfl,#[_,x8 ht],λD hD=>CompZ.by (ys:=ns.map V.int) (λi tK H'=>Same H H'/\H' D=tE (.lst tK)/\tK=((((l.zip ns).map λp=>(w.count p.1:Int) * p.2).take i).map V.int)) (by rw[aa];lia) #[zc hD,zb,rfl] (λi tK H' Z h=>x8 (h.1 _ _ ht)) ?_ ?_]
  ·rintro i c y tK H' p hc hy ⟨hs,hH,rfl⟩ hp;have hi:=(tL.mp hc).1;rw[ay]at hy;let#[n,hn',rfl]:=tS.mp hy
   have hz:((l.zip ns).map λp=>(w.count p.1:Int) * p.2)[i]? = tE ((w.count c:Int) * n):=by
    rw[ay,(List.getElem?_zip_eq_some (z:=(c,n))).mpr #[hc,hn']];rfl
   let#[n1,n2]:=hb n (ag hn');have hcl:w.count c<=w.length:=List.count_le_length;have hcn:(w.count c:Int) * n=(w.count c:Int) * n:=rfl
   erw[xy]
   ac_rfl;refine#[_,x8 zb,rfl,_,_,rfl,_,_,rfl,rfl,KR,_,rfl,_,rfl,?_,zc hp _ _ hH,by rw[aa,aF];lia,?_]
   ·exact .inr #[⋯,⋯]
   ·rw[YZ];refine x9 hi #[zH (hs.trans (zc hp)) hD,zb,?_];rw[zP hz,ar];rfl
  ·refine nmB ?_;rintro tK H' ⟨hs,hH,rfl⟩:_;have e:l.length=((l.zip ns).map λp=>(w.count p.1:Int) * p.2).length:=by rw[aa,List.length_zip];lia
   right;refine#[D,rfl,_,x6 hH,?_];rw[e,aI];exact q _ hs
def zfj(l:())(c e:Nat):StrLaws.At (tx l) (tx [c]) (tx l).length e ↔ l[e]? = tE c:=by
 unfold StrLaws.At Builtin.Str.subAt;rw[yk,yk];have h1:[c].length=1:=rfl;rw[h1,beq_iff_eq]
 have e1:((tx l).cps.extract e (e+1)).toList=(l.drop e).take 1:=by
  show (l.toArray.extract e (e+1)).toList=_;simp [eV]
 have e2:((tx l).cps.extract e (e+1)=(tx [c]).cps) ↔ (l.drop e).take 1=[c]:=by
  constructor
  ·intro h;rw[<- e1,h]
  ·intro h;apply Array.toList_inj.mp;rw[e1,h]
 constructor
 ·rintro⟨h2,h3⟩;have:=e2.mp h3;rw[aO ⋯,dq,bi]at this;rw[ah ⋯];injection this with h _;rw[h]
 ·intro h;let#[he,hx]:=tL.mp h;refine#[⋯,e2.mpr ?_];rw[aO he,dq,bi,hx]
def V3(h:c ∈ l):Txt.find (tx l) (tx [c])=((l.idxOf c:Nat):Int):=by
 have hlt:=cD h;have hg:l[l.idxOf c]? = tE c:=by rw[ah hlt,eL]
 rcases PyProof.Rows.find_whole (tx l) (tx [c])with ⟨h1,h2⟩ | ⟨e,h1,h2,h3⟩
 ·exact y9 ((zfj l c _).mpr hg) (h2 _)
 ·have he:=(zfj l c e).mp h2
  have:e=l.idxOf c:=by
   rcases eS e (l.idxOf c)with q | q | q
   ·have:=List.not_of_lt_findIdx (p:=(· == c)) q;let#[h4,h5]:=tL.mp he;simp [h5]at this
   ·exact q
   ·exact y9 ((zfj l c _).mpr hg) (h3 _ q)
  rw[h1,this]
abbrev MkO(P:pJ)(w:pR)(K:pB)(mg:pG->Option pD)(base:pS)(C:pC):Prop:=DMk P w K mg base CX0 3 C ["self","letters"] (qw K)
abbrev MkW(P:pJ)(w:pR)(K:pB)(mg:pG->Option pD)(base:pS)(C:pC):Prop:=DMk P w K mg base (CXx P w) 4 C ["self","letters","weights"] (qj K C)
abbrev MW(P:pJ)(w:pR)(K:pB)(mg:pG->Option pD)(base:pS)(C:pC)(m:pG)(sp:Sp):Prop:=DM P w K mg base CX0 1 C m ["self","word"] sp
structure TWS(P:pJ)(w:pR)(K:pB)(mg:pG->Option pD)(base:pS)(CO CR CW:pC):Prop extends TOrd K mg CO CR CW where
 mO:MkO P w K mg base CO
 mW:MkW P w K mg base CW
 wO:MW P w K mg base CO "weight" YR
 wW':MW P w K mg base CW "weight" (Y4 CW)
 sO:MW P w K mg base CO "seen" X1
 sW:MW P w K mg base CW "seen" X1
structure OG(l:())(ns:List Int)(k:Nat):Prop where
 g:wG l=tG
 k3:k<3
 nl:ns.length=l.length
 nb:∀n ∈ ns,1<=n/\n<=1000000
def uP(l:())(w:()):List Int:=w.map λc=>((l.idxOf c:Nat):Int)
def wV(k:Nat)(l:())(w:()):List Int:=uP l (xu k w)
def zdQ(CO CR CW:pC):pC->Prop:=λC=>C=CO\/C=CR\/C=CW
def OrdAt.fam{CO CR CW:pC}(h:OrdAt CO CR CW H o k l ns):∃C dx fs,zdQ CO CR CW C/\H o=tE (.ins C dx fs)/\(∀m:pG,m≠"letters"->m≠"weights"->fs.lookup m=tF)/\fs.lookup ("letters" : pG)=tE (V.str (tx l)):=by
 have e1:∀m:pG,m≠"letters"->(m ==("letters" : pG))=tH:=λm hm=>by simpa using hm
 have e2:∀m:pG,m≠"weights"->(m ==("weights" : pG))=tH:=λm hm=>by simpa using hm
 obtain⟨dx,⟨h1,h2⟩ | ⟨h1,h2,w,h3,h4⟩⟩:=h
 ·exact#[_,_,_,.inl rfl,h2,λm hm Z=>by simp [br,e1 m hm],rfl]
 ·exact#[_,_,_,.inr (.inr rfl),h3,λm hm hm2=>by simp [br,e1 m hm,e2 m hm2],rfl]
def jt(CO CR CW:pC):Sp:=λvs H Q Z=>∃(o:pC) (k:Nat) (l:()) (ns:List Int) (w:()),vs=[.ref o,⇑w]/\OrdAt CO CR CW H o k l ns/\OG l ns k/\w.length<=1000/\(∀c ∈ w,c ∈ l)/\∀(p q:pC) (H':Hp),Same H H'->H' p=tE (.tup [.int (zu k l ns w),.ref q])->H' q=tE (.lst ((wV k l w).map V.int))->Q (.ref p) H'
def Jl{CO CR CW o D:pC}(T:TOrd K mg CO CR CW)(ho:OrdAt CO CR CW H o k l ns)(hl:v.length<=1000)(hm:∀c ∈ v,c ∈ l)(hD:H D=tF)(q:∀H',Same H H'->H' D=tE (.lst ((uP l v).map V.int))->Q (.ref D) H') :
  CompS (tx v) (yW 0) xy (tBM K "str" zx (zcw K (z7 1) "letters") (zI (z7 0) xp)) 1 [0] [!!o,a1] H Q D:=by
 have s16:=yb;refine CompS.by (λi tK H'=>Same H H'/\H' D=tE (.lst tK)/\tK=(uP l (v.take i)).map V.int) #[zc hD,zb,rfl] ?_ ?_
 ·refine nm4 ?_;rintro i c tK H' hc ⟨hs,hH,rfl⟩:_;have hci:=(tL.mp hc).1;have hcl:=hm c (ag hc);let#[C,dx,fs,hf,ho',_,hlk]:=(ho.same hs).fam
  have hC:Cls K C/\NoAttr K C "letters":=by
   rcases hf with rfl | rfl | rfl
   ·exact#[T.cO,T.lO]
   ·exact#[T.cR,T.lR]
   ·exact#[T.cW,T.lW]
  right
  erw[xy]
  ac_rfl;refine#[yJ,_,_,_,ho',hC.1,hC.2,_,hlk,trivial,_,rfl,_,V3 hcl,hH,by rw[aa];unfold uP;rw[aa,aF];lia,x9 hci #[zH hs hD,zb,?_]];unfold uP;rw[zP hc,ar,ar];rfl
 ·refine nmB ?_;rintro tK H' ⟨hs,hH,rfl⟩:_;rw[aI]at hH;right;exact q H' hs hH
def kB:sQz 2 ["self","word"] xQ:=by nofun
def ue{f CO CR CW:pC}(B:Bt mg)(T:TWS P w K mg base CO CR CW)(F:Fun K "rank" "Order.rank" xQ f fd):(2&&&["self","word"]) (jt CO CR CW):=by
 exists F.ok kB
 ·let#[o,k,l,ns,w,rfl,ho,hG,hw,hm,q]:=h;refine#[_,(zh (zp (zy (za (zdJ T.wO T.wO T.wW' T.cO T.cO T.cW hr (pv 0) (za (pv 1) zd)) (za (xf (own:=["letter"]) (caps:=["self"]) (ix:=[0]) (tt:=xy) (te:=(tBM K "str" zx (zcw K (z7 1) "letters") (zI (z7 0) xp))) rfl (zM (sc:=zi xQ) rfl (!0) (!0) (!0) rfl (!0) (!0) rfl) (XM (zdJ T.sO T.sO T.sW T.cO T.cO T.cW hr (pv 0) (za (pv 1) zd))) (λZ Z Z Z Z Z=>zr (i:=0) (show List.Nodup [_,_] by decide) rfl (.inl rfl)) (λZ Z Z Z Z Z=>zY) (λZ Z Z Z Z Z=>(ut bI PySem.F.slot_str_index PySem.F.type_str_index zbJ (WB (pv 1) rfl) (za (pv 0) zd)))) zd))))),?_];have s16:=yb
  have hsl:(xu k w).length<=1000:=by
   unfold xu;split
   ·rw[eF];exact hw
   ·exact hw
  have hsm:∀c ∈ xu k w,c ∈ l:=λc hc=>by
   unfold xu at hc;split at hc
   ·exact hm c (tU.mp hc)
   ·exact hm c hc
  have l6:l.length<=6:=(y3 hG.g).2.1;have fin:∀H1,Same H H1->∀D,H1 D=tF->CompS (tx (xu k w)) (yW 0) xy (tBM K "str" zx (zcw K (z7 1) "letters") (zI (z7 0) xp)) 1 [0] [!!o,~~~w] H1 (λx5 H1=>2<=pA/\∀p,H1 p=tF->Q (.ref p) (upd H1 p (.tup [.int (zu k l ns w),x5]))) D:=λH1 s1 D hD=>Jl T.toTOrd (ho.same s1) hsl hsm hD λH' s' hH=>#[⋯,λp hp=>q p D _ (s1.trans (s'.trans (zc hp))) zb (zc hp _ _ hH)];ac_rfl;obtain⟨dx',⟨h1,h2⟩ | ⟨h1,h2,t',h3,h4⟩⟩:=id ho
  ·have e1:zu k l ns w=(w.length:Int):=by unfold zu;rw[z9 ⋯]
   have e2:xu k w=w:=by unfold xu;rw[z9 ⋯]
   rw[e1,e2]at fin;exact .inl #[_,_,h2,rfl,o,w,rfl,hw,.inl #[_,_,h2,rfl,o,w,rfl,_,rfl,fin H (ja3 _)]]
  ·have e1:zu k l ns w=jJ l ns w:=by unfold zu;rw[z6 h1]
   have e2:xu k w=w:=by unfold xu;rw[z9 ⋯]
   rw[e1,e2]at fin;exact .inr (.inr #[_,_,h3,rfl,o,dx',t',w,l,ns,rfl,hw,l6,hG.nl,hG.nb,h3,h4,λH' s'=>.inr (.inr #[_,_,s' _ _ h3,rfl,o,w,rfl,_,rfl,fin H' s'])])
def zJ(k:Nat)(l:())(ns:List Int)(u v:()):Bool:=if zu k l ns u=zu k l ns v then ltI (wV k l u) (wV k l v)else decide (zu k l ns u<zu k l ns v)
abbrev DR(P:pJ)(w:pR)(K:pB)(mg:pG->Option pD)(base:pS)(CO CR CW:pC):Prop:=DMF P w K mg base CX0 2 (zdQ CO CR CW) "rank" ["self","word"] (λZ=>jt CO CR CW)
def ZF{ns:List Int}(hp:H p=tE (.tup [.int z,.ref q]))(hq:H q=tE (.lst (ns.map V.int))):Is K H (.tup [.int z,.lst (ns.map L3.D.int)]) (.ref p):=by
 erw[Is,Iss]
 exact#[p,_,rfl,x8 hp,_,_,rfl,rfl,_,_,rfl,#[q,_,rfl,x6 hq,Iss.ints ns],rfl]
theorem xC:∀x:List Int,ltI x x=tH
 | []=>rfl
 | a::x=>by
  rw[ltI,z6 rfl];exact xC x
def QF(a b:Int)(x y:List Int):ltD (.tup [.int a,.lst (x.map L3.D.int)]) (.tup [.int b,.lst (y.map L3.D.int)])=if a=b then ltI x y else decide (a<b):=by
 erw[ltD,wQ,eqD,jD,YC]
 by_cases h:a=b
 ·subst h;by_cases h2:x=y
  ·subst h2;simp [xC]
  ·simp [h2]
 ·simp [h]
def QL(CO CR CW:pC):Sp:=λvs H Q Z=>∃(o:pC) (k:Nat) (l:()) (ns:List Int) (u v:()),vs=[.ref o,⇑u,⇑v]/\OrdAt CO CR CW H o k l ns/\OG l ns k/\u.length<=1000/\v.length<=1000/\(∀c ∈ u,c ∈ l)/\(∀c ∈ v,c ∈ l)/\∀H':Hp,Same H H'->Q (.bl (zJ k l ns u v)) H'
def jd:sQz 3 ["self","one","other"] xV:=by nofun
def vj{f CO CR CW:pC}(B:Bt mg)(DRk:DR P w K mg base CO CR CW)(F:Fun K "before" "Order.before" xV f fd):(3&&&["self","one","other"]) (QL CO CR CW):=by
 exists F.ok jd
 ·let#[o,k,l,ns,u,v,rfl,ho,hG,hu,hv,hmu,hmv,q]:=h;refine#[_,(zh (zp (yB (zcH (uJ hr)) (zcx DRk hr (pv 0) (za (pv 1) zd)) (zcx DRk hr (pv 0) (za (pv 2) zd)) (zF _)))),?_];have s16:=yb;ac_rfl;let#[C,dx,fs,hf,ho1,hn,_]:=ho.fam;have h1:fs.lookup ("rank" : pG)=tF:=hn _ ∅ ∅;refine#[C,hf,dx,fs,ho1,h1,o,k,l,ns,u,rfl,ho,hG,hu,hmu,λp x H1 s1 hp hx=>#[C,hf,dx,fs,s1 _ _ ho1,h1,o,k,l,ns,v,rfl,ho.same s1,hG,hv,hmv,λp' x' H2 s2 hp' hx'=>?_]];refine zaD (ZF (s2 _ _ hp) (s2 _ _ hx)) (ZF hp' hx') (by erw[dpD,vw,Zu];decide) (by erw[okD,ZP];exact#[trivial,uu _ _,trivial]) ?_;rw[QF];exact q H2 (s1.trans s2)
abbrev DB(P:pJ)(w:pR)(K:pB)(mg:pG->Option pD)(base:pS)(CO CR CW:pC):Prop:=DMF P w K mg base CX0 3 (zdQ CO CR CW) "before" ["self","one","other"] (λZ=>QL CO CR CW)
def KS(k:Int)(ls:())(ns:List Int)(w:()):Int:=(w.map λc=>if k=2 then ns.getD (ls.idxOf c) 0 else 1).sum
theorem Kd{w:()}(h:k≠2):KS k ls ns w=(w.length:Int):=by
 unfold KS
 induction w with
 | nil=>rfl
 | cons c w ih =>
  rw[ak,aX,ih,z9 h,aJ];lia
theorem qY{ls:()}(f g:Nat->Int):((ls.zip ns).map λp=>(f p.1+g p.1) * p.2).sum=((ls.zip ns).map λp=>f p.1 * p.2).sum+((ls.zip ns).map λp=>g p.1 * p.2).sum:=by
 induction ls.zip ns with
 | nil=>rfl
 | cons p r ih =>
  rw[ak,ak,ak,aX,aX,aX,ih,Int.add_mul];lia
theorem UJ:∀{ls:()} {ns:List Int} {c:Nat},ls.Nodup->ns.length=ls.length->c ∈ ls->((ls.zip ns).map λp=>(if p.1=c then (1:Int)else 0) * p.2).sum=ns.getD (ls.idxOf c) 0
 | [],ns,c,_,_,hc=>(nomatch hc)
 | d::ls,[],c,_,hl,_=>by cases hl
 | d::ls,n::ns,c,hn,hl,hc=>by
  rw[dJ,ak,aX];have hnd:=tV.mp hn;by_cases h:d=c
  ·subst h
   have h0:∀(l:()) (m:List Int),d ∉ l->((l.zip m).map λp=>(if p.1=d then (1:Int)else 0) * p.2).sum=0:=by
    intro l
    induction l with
    | nil=>intro m _;rfl
    | cons x l ih =>
     intro m hx
     cases m with
     | nil=>rfl
     | cons y m =>
      rw[dJ,ak,aX,ih m (λq=>hx (av _ q)),z9 (show ¬ x=d from λe=>hx (by rw[e];exact az))];lia
   rw[h0 ls ns hnd.1,z6 rfl,List.idxOf_cons_self];simp
  ·have hc':c ∈ ls:=by
    rcases tN.mp hc with e | e
    ·exact y9 e.symm h
    ·exact e
   rw[UJ hnd.2 ↥hl hc',z9 h,fF,show (d == c)=tH by simpa using h];simp
theorem WE(hn:ls.Nodup)(hl:ns.length=ls.length):∀{w:()},(∀x ∈ w,x ∈ ls)->KS 2 ls ns w=jJ ls ns w
 | [],_=>by
  have h0:∀r:List (Nat × Int),(r.map λp=>((([]:()).count p.1:Nat):Int) * p.2).sum=0:=by
   intro r
   induction r with
   | nil=>rfl
   | cons p r ih=>rw[ak,aX,ih];simp
  exact (h0 _).symm
 | c::w,h=>by
  have ih:=WE hn hl (w:=w) λx hx=>h x (av _ hx)
  have e1:KS 2 ls ns (c::w)=ns.getD (ls.idxOf c) 0+KS 2 ls ns w:=by
   unfold KS;rw[ak,aX,z6 rfl]
  rw[e1,ih,<- UJ hn hl (h c az)];unfold jJ;rw[<- qY (λx=>if x=c then 1 else 0) (λx=>(w.count x:Int))];refine congrArg List.sum (aW λp Z=>?_);rw[d9];by_cases e:c=p.1
  ·rw[z6 e.symm,z6 ↥e];simp [Int.add_comm]
  ·rw[z9 (λz=>e z.symm),z9 ↥e];simp
def wt(k:Nat)(ns:List Int)(i:Int):Int:=if k=2 then ns.getD i.toNat 0 else 1
theorem we{g:Int->Int}:∀{x:List Int},(∀i ∈ x,0<g i)->0<=(x.map g).sum
 | [],_=>by simp
 | a::x,h=>by
  have h1:=h a az;have h2:=we (x:=x) λi hi=>h i (av _ hi);rw[ak,aX];lia
theorem wZ:∀{x y:List Int},x≠y->ltI x y=!ltI y x
 | [],[],h=>y9 rfl h
 | [],_::_,_=>rfl
 | _::_,[],_=>rfl
 | a::x,b::y,h=>by
  rw[ltI,ltI];by_cases e:a=b
  ·rw[z6 e,z6 e.symm];exact wZ λq=>h (by rw[e,q])
  ·rw[z9 e,z9 λq=>e q.symm];by_cases c:a<b
   ·rw[y4 c,y6 ⋯];rfl
   ·rw[y6 c,y4 ⋯];rfl
theorem ju:∀{x y z:List Int},ltI x y=tG->ltI y z=tG->ltI x z=tG
 | [],[],_,h,_=>by cases h
 | [],_::_,[],_,h=>by cases h
 | [],_::_,_::_,_,_=>rfl
 | _::_,[],_,h,_=>by cases h
 | _::_,_::_,[],_,h=>by cases h
 | a::x,b::y,c::z,h1,h2=>by
  rw[ltI]at h1 h2 ⊢;by_cases e:a=b
  ·subst e;rw[z6 rfl]at h1;by_cases f:a=c
   ·rw[z6 f]at h2 ⊢;exact ju h1 h2
   ·rw[z9 f]at h2 ⊢;exact h2
  ·rw[z9 e]at h1;have h1':=y3 h1;by_cases f:b=c
   ·subst f;rw[z9 e];exact h1
   ·rw[z9 f]at h2;have h2':=y3 h2;rw[z9 ⋯];exact y4 ⋯
theorem Xh:∀(c x y:List Int),ltI (c ++ x) (c ++ y)=ltI x y
 | [],_,_=>rfl
 | a::c,x,y=>by
  rw[bw,bw,ltI,z6 rfl];exact Xh c x y
theorem XD{g:Int->Int}:∀{x y:List Int},(∀i ∈ x,0<g i)->(∀i ∈ y,0<g i)->(x.map g).sum=(y.map g).sum->ltI (x ++ c) (y ++ c)=ltI x y
 | [],[],_,_,_=>xC c
 | [],b::y,_,hy,h=>by
  have h1:=hy b az;have h2:=we (x:=y) λi hi=>hy i (av _ hi);rw[ak,aX,aA,eg]at h;lia
 | a::x,[],hx,_,h=>by
  have h1:=hx a az;have h2:=we (x:=x) λi hi=>hx i (av _ hi);rw[ak,aX,aA,eg]at h;lia
 | a::x,b::y,hx,hy,h=>by
  rw[bw,bw,ltI,ltI];by_cases e:a=b
  ·rw[z6 e,z6 e];rw[ak,aX,ak,aX,e]at h;exact XD (λi hi=>hx i (av _ hi)) (λi hi=>hy i (av _ hi)) ⋯
  ·rw[z9 e,z9 e]
end
section
mutual section
variable{k:Nat}{l:()}{ns:List Int}{t u v:()}
def Jv(a b:()):jJ l ns (a ++ b)=jJ l ns a+jJ l ns b:=by unfold jJ;rw[<- qY (λx=>(a.count x:Int)) (λx=>(b.count x:Int))];refine congrArg List.sum (aW λp Z=>?_);rw[List.count_append];simp
theorem xz(a b:()):zu k l ns (a ++ b)=zu k l ns a+zu k l ns b:=by
 unfold zu;by_cases h:k=2
 ·rw[z6 h,z6 h,z6 h,Jv]
 ·rw[z9 h,z9 h,z9 h,aq];lia
theorem xA(G:OG l ns k):∀{w:()},(∀c ∈ w,c ∈ l)->zu k l ns w=((uP l w).map (wt k ns)).sum:=by
 intro w hm;have hn:l.Nodup:=(y3 G.g).2.2.2
 have e:((uP l w).map (wt k ns)).sum=KS (k:Int) l ns w:=by
  unfold uP KS;rw[aP];refine congrArg List.sum (aW λc Z=>?_);show wt k ns _=_;unfold wt;by_cases h:k=2
  ·rw[z6 h,z6 ⋯,aR]
  ·rw[z9 h,z9 ⋯]
 rw[e];unfold zu;by_cases h:k=2
 ·rw[z6 h,h];exact (WE hn G.nl hm).symm
 ·rw[z9 h,Kd ⋯]
theorem Z9(G:OG l ns k)(hm:∀c ∈ u,c ∈ l):∀i ∈ uP l u,0<wt k ns i:=by
 intro i hi;let#[c,hc,rfl]:=tM.mp hi;have hlt:=cD (hm c hc);have hl:=G.nl;unfold wt;split
 ·rw[aR,ae,ah ⋯];have:=(G.nb _ (dY (l:=ns) (n:=l.idxOf c) ⋯)).1;show 0<ns[l.idxOf c];lia
 ·decide
def vX(G:OG l ns k)(hm:∀c ∈ u,c ∈ l):0<=zu k l ns u:=by rw[xA G hm];exact we (Z9 G hm)
theorem kn(G:OG l ns k)(hm:∀c ∈ u,c ∈ l)(h:u≠[]):0<zu k l ns u:=by
 cases u with
 | nil=>exact y9 rfl h
 | cons a u =>
  have h1:=Z9 G hm (l.idxOf a:Nat) (tM.mpr #[a,az,rfl]);have h2:0<=((uP l u).map (wt k ns)).sum:=we (Z9 (u:=u) G λc hc=>hm c (av _ hc));rw[xA G hm];show 0<((((l.idxOf a:Nat):Int)::uP l u).map (wt k ns)).sum;rw[ak,aX];lia
theorem Zx:∀{u v:()},(∀c ∈ u,c ∈ l)->(∀c ∈ v,c ∈ l)->uP l u=uP l v->u=v
 | [],[],_,_,_=>rfl
 | [],_::_,_,_,h=>by cases h
 | _::_,[],_,_,h=>by cases h
 | a::u,b::v,hu,hv,h=>by
  unfold uP at h;rw[ak,ak]at h;injection h with h1 h2;have h3:l.idxOf a=l.idxOf b:=⋯;have ha:=eL (cD (hu a az));have hb:=eL (cD (hv b az))
  have:a=b:=by
   rw[<- ha,<- hb]
   erw[h3]
  rw[this,Zx (λc hc=>hu c (av _ hc)) (λc hc=>hv c (av _ hc)) h2]
def xS:zJ k l ns u u=tH:=by unfold zJ;rw[z6 rfl,xC]
def Zz(hu:∀c ∈ u,c ∈ l)(hv:∀c ∈ v,c ∈ l)(h:wV k l u=wV k l v):u=v:=by
 unfold wV xu at h;by_cases e:k=1
 ·rw[z6 e,z6 e]at h;exact List.reverse_inj.mp (Zx (λc hc=>hu c (tU.mp hc)) (λc hc=>hv c (tU.mp hc)) h)
 ·rw[z9 e,z9 e]at h;exact Zx hu hv h
theorem qZ(hu:∀c ∈ u,c ∈ l)(hv:∀c ∈ v,c ∈ l)(h:u≠v):zJ k l ns u v=!zJ k l ns v u:=by
 unfold zJ;by_cases e:zu k l ns u=zu k l ns v
 ·rw[z6 e,z6 e.symm];exact wZ λq=>h (Zz hu hv q)
 ·rw[z9 e,z9 λq=>e q.symm];by_cases c:zu k l ns u<zu k l ns v
  ·rw[y4 c,y6 ⋯];rfl
  ·rw[y6 c,y4 ⋯];rfl
theorem jf(h1:zJ k l ns t u=tG)(h2:zJ k l ns u v=tG):zJ k l ns t v=tG:=by
 unfold zJ at h1 h2 ⊢;generalize zu k l ns t=a at *;generalize zu k l ns u=b at *;generalize zu k l ns v=c at *;by_cases e:a=b
 ·subst e;rw[z6 rfl]at h1;by_cases f:a=c
  ·rw[z6 f]at h2 ⊢;exact ju h1 h2
  ·rw[z9 f]at h2 ⊢;exact h2
 ·rw[z9 e]at h1;have h1':=y3 h1;by_cases f:b=c
  ·subst f;rw[z9 e];exact h1
  ·rw[z9 f]at h2;have h2':=y3 h2;rw[z9 ⋯];exact y4 ⋯
def WC(a b:()):uP l (a ++ b)=uP l a ++ uP l b:=ar
def YG(G:OG l ns k)(hu:∀c ∈ u,c ∈ l)(hv:∀c ∈ v,c ∈ l)(e:zu k l ns u=zu k l ns v)(c:List Int):ltI (uP l u ++ c) (uP l v ++ c)=ltI (uP l u) (uP l v):=by rw[xA G hu,xA G hv]at e;exact XD (Z9 G hu) (Z9 G hv) e
def jX(G:OG l ns k)(hu:∀c ∈ u,c ∈ l):zu k l ns u.reverse=zu k l ns u:=by rw[xA G hu,xA G λc hc=>hu c (tU.mp hc)];unfold uP;rw[di,di,List.sum_reverse]
theorem ZV(G:OG l ns k)(ht:∀c ∈ t,c ∈ l)(hu:∀c ∈ u,c ∈ l)(hv:∀c ∈ v,c ∈ l):zJ k l ns (t ++ u) (t ++ v)=zJ k l ns u v/\zJ k l ns (u ++ t) (v ++ t)=zJ k l ns u v:=by
 have hur:∀c ∈ u.reverse,c ∈ l:=λc hc=>hu c (tU.mp hc);have hvr:∀c ∈ v.reverse,c ∈ l:=λc hc=>hv c (tU.mp hc);unfold zJ;rw[xz,xz,xz,xz];by_cases e:zu k l ns u=zu k l ns v
 ·rw[z6 ⋯,z6 e,z6 ⋯];unfold wV xu;by_cases f:k=1
  ·erw[z6 f,List.reverse_append,WC]
   exact#[YG G hur hvr (by rw[jX G hu,jX G hv,e]) _,Xh _ _ _]
  ·erw[z9 f,WC]
   exact#[Xh _ _ _,YG G hu hv e _]
 ·rw[z9 ⋯,z9 e,z9 ⋯];exact#[by congr 1;exact propext ⋯,by congr 1;exact propext ⋯]
theorem Kr(G:OG l ns k)(ht:∀c ∈ t,c ∈ l)(hu:∀c ∈ u,c ∈ l)(hv:∀c ∈ v,c ∈ l)(h:t ++ u ++ v≠u):zJ k l ns u (t ++ u ++ v)=tG/\zJ k l ns (t ++ u ++ v) u=tH:=by
 have h0:0<zu k l ns t+zu k l ns v:=by
  have h1:=vX G ht;have h2:=vX G hv;by_cases e:t=[]
  ·by_cases f:v=[]
   ·subst e f;simp at h
   ·have:=kn G hv f;lia
  ·have:=kn G ht e;lia
 unfold zJ;rw[xz,xz,z9 ⋯,z9 ⋯];exact#[y4 ⋯,y6 ⋯]
end
end
mutual section
theorem Yu:∀x y:List Int,ltI x y=tG->ltI y x=tH
 | [],[],h=>by cases h
 | [],_::_,_=>rfl
 | _::_,[],h=>by cases h
 | a::x,b::y,h=>by
  rw[ltI]at h ⊢;by_cases e:a=b
  ·rw[z6 e]at h;rw[z6 e.symm];exact Yu x y h
  ·rw[z9 e]at h;rw[z9 (λq=>e q.symm)];have:=y3 h;exact y6 ⋯
def Xu(h:zJ k l ns u v=tG):zJ k l ns v u=tH:=by
 unfold zJ at h ⊢;by_cases e:zu k l ns u=zu k l ns v
 ·rw[z6 e]at h;rw[z6 e.symm];exact Yu _ _ h
 ·rw[z9 e]at h;rw[z9 (λq=>e q.symm)];have:=y3 h;exact y6 ⋯
def stJ(l:())(ps:List zG)(q j:Nat):Bool:=((ps[j]?).map λp=>zt l (q:Int) p.1).getD tH
def kj(h:ps[j]? = tE p):stJ l ps q j=zt l (q:Int) p.1:=by unfold stJ;rw[h];rfl
theorem vF(h:stJ l ps q j=tG):j<ps.length/\∃p,ps[j]? = tE p/\zt l (q:Int) p.1=tG:=by
 unfold stJ at h
 cases e:ps[j]? with
 | none=>rw[e]at h;cases h
 | some p =>
  rw[e]at h;exact#[(tL.mp e).1,p,rfl,h]
def wN(l:())(ps:List zG)(q i:Nat):List (Nat × Nat):=((aN i).filter (stJ l ps q)).map λj=>(j,q)
def xl(l:())(ps:List zG)(k:Nat):List (Nat × Nat):=(aN k).flatMap λq=>wN l ps q ps.length
def Vn(l:())(ps:List zG)(q i:Nat):wN l ps q (i+1)=wN l ps q i ++ (if stJ l ps q i=tG then [(i,q)]else []):=by
 unfold wN;rw[cq,cU,ar];congr 1;by_cases h:stJ l ps q i=tG
 ·rw[z6 h,bD h];rfl
 ·rw[z9 h,cA h];rfl
def j3(l:())(ps:List zG)(k:Nat):xl l ps (k+1)=xl l ps k ++ wN l ps k ps.length:=by unfold xl;rw[cq,dw];simp
def Uq(l:())(ps:List zG)(q i:Nat):(wN l ps q i).length<=i:=by unfold wN;rw[aa];have:=dc (stJ l ps q) (aN i);rw[cu]at this;exact this
theorem U5(l:())(ps:List zG):∀k,(xl l ps k).length<=k * ps.length
 | 0=>by simp [xl]
 | k+1=>by
  rw[j3,aq,eX];have:=U5 l ps k;have:=Uq l ps k ps.length;lia
def usesN_mem : u ∈ wN l ps q i ↔ u.2=q/\u.1<i/\stJ l ps q u.1=tG:=by
 unfold wN;rw[List.mem_map];constructor
 ·rintro⟨j,hj,rfl⟩;rw[List.mem_filter,fS]at hj;exact#[rfl,hj.1,hj.2]
 ·rintro⟨h1,h2,h3⟩;exact#[u.1,tT.mpr #[tR.mpr h2,h3],by rw[<- h1]]
def usesK_mem : u ∈ xl l ps k ↔ u.2<k/\stJ l ps u.2 u.1=tG:=by
 unfold xl;rw[List.mem_flatMap];constructor
 ·rintro⟨q,hq,hu⟩;let#[h1,h2,h3]:=usesN_mem.mp hu;rw[fS]at hq;rw[h1];exact#[hq,h3]
 ·rintro⟨h1,h2⟩;exact#[u.2,tR.mpr h1,usesN_mem.mpr #[rfl,(vF h2).1,h2]]
def uLt(a b:Nat × Nat):Prop:=a.2<b.2\/(a.2=b.2/\a.1<b.1)
theorem qb(l:())(ps:List zG)(q:Nat):∀i,(wN l ps q i).Pairwise uLt
 | 0=>by simp [wN]
 | i+1=>by
  rw[Vn];refine Ah.mpr #[qb l ps q i,?_,λa ha b hb=>?_]
  ·split
   ·exact fz _ _
   ·exact List.Pairwise.nil
  ·let#[h1,h2,_]:=usesN_mem.mp ha;split at hb
   ·rw[tP.mp hb];exact .inr #[h1,h2]
   ·cases hb
theorem vf(l:())(ps:List zG):∀k,(xl l ps k).Pairwise uLt
 | 0=>by simp [xl]
 | k+1=>by
  rw[j3];refine Ah.mpr #[vf l ps k,qb l ps k _,λa ha b hb=>?_];have h1:=(usesK_mem.mp ha).1;have h2:=(usesN_mem.mp hb).1;exact .inl ⋯
def FirstN(l:())(ps:List zG)(lo hi n:Nat)(r:Option (Nat × Nat)):Prop :=
 (r=tF/\∀j q,j<n->lo<=q->q<hi->stJ l ps q j=tH) \/
 ∃n0 q0,r=tE (n0,q0)/\n0<n/\lo<=q0/\q0<hi/\stJ l ps q0 n0=tG/\∀j q,j<n->lo<=q->stJ l ps q j=tG->q0<q\/(q0=q/\n0<=j)
def FirstN.uniq{lo hi n:Nat}(h:FirstN l ps lo hi n r)(h':FirstN l ps lo hi n r'):r=r':=by
 rcases h with ⟨rfl,h⟩ | ⟨n0,q0,rfl,a1,a2,a3,a4,a5⟩
 ·rcases h' with ⟨rfl,_⟩ | ⟨n0,q0,rfl,a1,a2,a3,a4,a5⟩
  ·rfl
  ·rw[h n0 q0 a1 a2 a3]at a4;cases a4
 ·rcases h' with ⟨rfl,h⟩ | ⟨n1,q1,rfl,b1,b2,b3,b4,b5⟩
  ·rw[h n0 q0 a1 a2 a3]at a4;cases a4
  ·have x1:=a5 n1 q1 b1 b2 b4;have x2:=b5 n0 q0 a1 a2 a4;have e1:q0=q1:=⋯;have e2:n0=n1:=⋯;rw[e1,e2]
theorem Vq(h:FirstN l ps 0 l.length ps.length r):r=(xl l ps l.length).head?:=by
 have hs:=vf l ps l.length;refine h.uniq ?_
 cases e:xl l ps l.length with
 | nil =>
  refine .inl #[rfl,λj q Z Z hq=>?_]
  cases hb:stJ l ps q j with
  | false=>rfl
  | true =>
   have:(j,q) ∈ xl l ps l.length:=usesK_mem.mpr #[hq,hb];rw[e]at this;cases this
 | cons u us =>
  rw[e]at hs;have hu:u ∈ xl l ps l.length:=by rw[e];exact az
  let#[h1,h2]:=usesK_mem.mp hu;refine .inr #[u.1,u.2,rfl,(vF h2).1,aw _,h1,h2,λj q hj Z hb=>?_];by_cases hq:q<l.length
  ·have:(j,q) ∈ xl l ps l.length:=usesK_mem.mpr #[hq,hb];rw[e]at this;rcases tN.mp this with e2 | e2
   ·rw[<- e2];exact .inr #[rfl,am _]
   ·rcases (Ai.mp hs).1 _ e2 with h | ⟨h,h'⟩
    ·exact .inl h
    ·exact .inr #[h,cf h']
  ·exact .inl ⋯
def qG{q:Nat}(hp:p≠[])(h:zt l (q:Int) p=tG):q<l.length:=by let#[h0,h1,_]:=y3 h;have:0<p.length:=tX.mpr hp;lia
def FirstN.keep{lo hi n:Nat}(h:FirstN l ps lo hi n r)(hp:ps[n]? = tE p)(hn:∀q:Nat,lo<=q->q<(r.map Prod.snd).getD hi->zt l (q:Int) p.1=tH):FirstN l ps lo hi (n+1) r:=by
 rcases h with ⟨rfl,h⟩ | ⟨n0,q0,rfl,a1,a2,a3,a4,a5⟩
 ·refine .inl #[rfl,λj q hj h1 h2=>?_];by_cases e:j<n
  ·exact h j q e h1 h2
  ·have:j=n:=⋯;subst this;rw[kj hp];exact hn q h1 h2
 ·refine .inr #[n0,q0,rfl,⋯,a2,a3,a4,λj q hj h1 h2=>?_];by_cases e:j<n
  ·exact a5 j q e h1 h2
  ·have:j=n:=⋯;subst this;rw[kj hp]at h2;by_cases hq:q<q0
   ·rw[hn q h1 hq]at h2;cases h2
   ·lia
def FirstN.take{lo hi n k:Nat}(h:FirstN l ps lo hi n r)(hp:ps[n]? = tE p)(h1:lo<=k)(h2:k<(r.map Prod.snd).getD hi)(h3:zt l (k:Int) p.1=tG)(hn:∀q:Nat,lo<=q->q<k->zt l (q:Int) p.1=tH):FirstN l ps lo hi (n+1) (tE (n,k)):=by
 have hk:k<hi/\∀j q,j<n->lo<=q->stJ l ps q j=tG->k<q:=by
  rcases h with ⟨rfl,h⟩ | ⟨n0,q0,rfl,a1,a2,a3,a4,a5⟩
  ·refine#[h2,λj q hj hl hb=>?_];by_cases hq:q<hi
   ·rw[h j q hj hl hq]at hb;cases hb
   ·have h2':k<hi:=h2;lia
  ·have h2':k<q0:=h2;refine#[⋯,λj q hj hl hb=>?_];have:=a5 j q hj hl hb;lia
 refine .inr #[n,k,rfl,⋯,h1,hk.1,by rw[kj hp];exact h3,λj q hj hl hb=>?_];by_cases e:j<n
 ·exact .inl (hk.2 j q e hl hb)
 ·have:j=n:=⋯;subst this;rw[kj hp]at hb;by_cases hq:q<k
  ·rw[hn q hl hq]at hb;cases hb
  ·lia
def FirstN.window{lo mid hi n:Nat}(h0:FirstN l ps lo mid n tF)(hm:lo<=mid)(h:FirstN l ps mid hi n r):FirstN l ps lo hi n r:=by
 have h0':∀j q,j<n->lo<=q->q<mid->stJ l ps q j=tH:=by
  rcases h0 with ⟨_,h⟩ | ⟨_,_,h,_⟩
  ·exact h
  ·cases h
 rcases h with ⟨rfl,h⟩ | ⟨n0,q0,rfl,a1,a2,a3,a4,a5⟩
 ·refine .inl #[rfl,λj q hj h1 h2=>?_];by_cases e:q<mid
  ·exact h0' j q hj h1 e
  ·exact h j q hj ⋯ h2
 ·refine .inr #[n0,q0,rfl,a1,⋯,a3,a4,λj q hj h1 h2=>?_];by_cases e:q<mid
  ·rw[h0' j q hj h1 e]at h2;cases h2
  ·exact a5 j q hj ⋯ h2
def NeL(ps:List zG):Prop:=∀p ∈ ps,p.1≠[]
def FirstN.toEnd{lo hi n:Nat}(hN:NeL ps)(h:FirstN l ps lo hi n r)(hl:r=tF->l.length<=hi):FirstN l ps lo l.length n r:=by
 have hlt:∀j q,stJ l ps q j=tG->q<l.length:=λj q hb=>by
  let#[_,p,hp,hs]:=vF hb;exact qG (hN p (ag hp)) hs
 rcases h with ⟨rfl,h⟩ | ⟨n0,q0,rfl,a1,a2,a3,a4,a5⟩
 ·exact .inl #[rfl,λj q hj h1 h2=>h j q hj h1 (by have:=hl rfl;lia)]
 ·exact .inr #[n0,q0,rfl,a1,a2,hlt _ _ a4,a4,a5]
def zA(l:())(ps:List zG):Option (Nat × Nat):=(xl l ps l.length).head?
def Wa(h:FirstN l ps 0 l.length ps.length r):r=zA l ps:=Vq h
theorem XF(l:())(ps:List zG)(hN:NeL ps):FirstN l ps 0 l.length ps.length (zA l ps):=by
 have hs:=vf l ps l.length;unfold zA
 cases e:xl l ps l.length with
 | nil =>
  refine .inl #[rfl,λj q Z Z hq=>?_]
  cases hb:stJ l ps q j with
  | false=>rfl
  | true =>
   have:(j,q) ∈ xl l ps l.length:=usesK_mem.mpr #[hq,hb];rw[e]at this;cases this
 | cons u us =>
  rw[e]at hs;have hu:u ∈ xl l ps l.length:=by rw[e];exact az
  let#[h1,h2]:=usesK_mem.mp hu;refine .inr #[u.1,u.2,rfl,(vF h2).1,aw _,h1,h2,λj q hj Z hb=>?_]
  have hq:q<l.length:=by
   let#[_,p,hp,hs]:=vF hb;exact qG (hN p (ag hp)) hs
  have:(j,q) ∈ xl l ps l.length:=usesK_mem.mpr #[hq,hb];rw[e]at this;rcases tN.mp this with e2 | e2
  ·rw[<- e2];exact .inr #[rfl,am _]
  ·rcases (Ai.mp hs).1 _ e2 with h | ⟨h,h'⟩
   ·exact .inl h
   ·exact .inr #[h,cf h']
def jZ(ps:List zG)(n:Nat):zG:=ps.getD n ([],[])
def wo(h:ps[n]? = tE p):jZ ps n=p:=by unfold jZ;rw[ae,h];rfl
def uO(l:())(ps:List zG)(u:Nat × Nat):():=yM l (u.2:Int) (jZ ps u.1).1 (jZ ps u.1).2
def Yj(ps:List zG)(l:()):():=((zA l ps).map (uO l ps)).getD l
def wAt(ps:List zG)(l:()):Nat->()
 | 0=>l
 | j+1=>Yj ps (wAt ps l j)
def sAt(ps:List zG)(l:())(j:Nat):List (Nat × Nat):=(aN j).map λi=>(zA (wAt ps l i) ps).getD (0,0)
def Wt(ps:List zG)(l:())(j:Nat):sAt ps l (j+1)=sAt ps l j ++ [(zA (wAt ps l j) ps).getD (0,0)]:=by unfold sAt;rw[cq,ar];rfl
def Xv(ps:List zG)(l:())(j:Nat):(sAt ps l j).length=j:=by unfold sAt;rw[aa,cu]
def wx(h:zA (wAt ps l j) ps=tE u):wAt ps l (j+1)=uO (wAt ps l j) ps u:=by show Yj ps (wAt ps l j)=_;unfold Yj;rw[h];rfl
def Wc(ps:List zG)(l:())(j:Nat):Prop:=∀i,i<j->zA (wAt ps l i) ps≠tF
def kW(h1:Wc ps l i)(h2:zA (wAt ps l i) ps=tF)(h3:Wc ps l j)(h4:zA (wAt ps l j) ps=tF):i=j:=by
 rcases eS i j with h | h | h
 ·exact y9 h2 (h3 i h)
 ·exact h
 ·exact y9 h4 (h1 j h)
def Vk{n q M lo:Nat}(h:FirstN l ps 0 l.length ps.length (tE (n,q)))(hN:NeL ps)(hM:∀p ∈ ps,p.1.length<=M)(hlo:lo=0\/lo+M<=q+1):FirstN (uO l ps (n,q)) ps 0 lo ps.length tF:=by
 refine .inl #[rfl,λj x hj Z hx=>?_];rcases h with ⟨h,_⟩ | ⟨n0,q0,e,a1,a2,a3,a4,a5⟩
 ·cases h
 ·injection e with e;injection e with e1 e2;subst e1 e2
  cases hb:stJ (uO l ps (n,q)) ps x j with
  | false=>rfl
  | true =>
   let#[_,p,hp,hs]:=vF hb;have hpm:=hM p (ag hp);have hpn:=tX.mpr (hN p (ag hp));have hxq:x+p.1.length<=q:=⋯;let#[s0,s1,s2]:=y3 hs;rw[aR]at s2;let#[_,p2,hp2,hs2]:=vF a4;let#[t0,t1,t2]:=y3 hs2
   have e4:(uO l ps (n,q)).take q=l.take q:=by
    unfold uO yM;rw[aR,aU,bq (by rw[aF];lia),fV,eZ]
   have e5:∀z:(),((z.take q).drop x).take p.1.length=(z.drop x).take p.1.length:=λz=>by
    rw[List.drop_take,fV];congr 1;lia
   have s3:(l.drop x).take p.1.length=p.1:=by rw[<- e5,<- e4,e5,s2]
   have:stJ l ps x j=tG:=by
    rw[kj hp];exact y4 #[⋯,⋯,by rw[aR];exact s3]
   have:=a5 j x hj (aw _) this;lia
def FirstN.lower{lo hi n:Nat}(h:FirstN l ps 0 hi n tF)(hl:lo<=hi):FirstN l ps 0 lo n tF:=by
 rcases h with ⟨_,h⟩ | ⟨_,_,h,_⟩
 ·exact .inl #[rfl,λj q hj h1 h2=>h j q hj h1 ⋯]
 ·cases h
def zfV(a b c:Nat):min a b+(b - (a+c))<=b:=⋯
def JP(h:FirstN l ps 0 l.length ps.length (tE (n,q)))(hm:∀p ∈ ps,p.2.length<=m):(uO l ps (n,q)).length<=l.length+m:=by
 rcases h with ⟨h,_⟩ | ⟨n0,q0,e,a1,a2,a3,a4,a5⟩
 ·cases h
 ·injection e with e;injection e with e1 e2;subst e1 e2;let#[_,p,hp,hs]:=vF a4;have:=hm p (ag hp);have er:=wo hp;unfold uO yM
  erw[aq,aF,bh,er]
  rw[cT];exact Nat.add_le_add (zfV _ _ _) this
theorem jn(hN:NeL ps)(hm:∀p ∈ ps,p.2.length<=m):∀j,(wAt ps l j).length<=l.length+j * m
 | 0=>by simp [wAt]
 | j+1=>by
  have ih:=jn (l:=l) hN hm j;have hf:=XF (wAt ps l j) ps hN;rw[eX]
  cases e:zA (wAt ps l j) ps with
  | none =>
   show (Yj ps (wAt ps l j)).length<=_;unfold Yj;rw[e];show (wAt ps l j).length<=_;lia
  | some u =>
   rw[wx e];rw[e]at hf;let#[a,b]:=u;have:=JP hf hm;lia
def UseAt(H:Hp)(r:Option (Nat × Nat))(v:V):Prop:=(r=tF/\v=.non)\/∃(n q:Nat) (p:pC),r=tE (n,q)/\v=.ref p/\H p=tE (.tup [.int (n:Nat),.int (q:Nat)])
def UseAt.same{H H':Hp}{r:Option (Nat × Nat)}{v:V}(h:UseAt H r v)(s:Same H H'):UseAt H' r v:=by
 rcases h with h | ⟨n,q,p,h1,h2,h3⟩
 ·exact .inl h
 ·exact .inr #[n,q,p,h1,h2,s _ _ h3]
def UX{lo hi:Int}(h0:0<=lo)(h1:0<=hi)(h:∀r:Int,((r=-1/\∀q:Nat,lo<=q->(q:Int)+p.length<=hi->zt l q p=tH)\/∃k:Nat,r=k/\lo<=k/\(k:Int)+p.length<=hi/\zt l k p=tG/\∀q:Nat,lo<=q->q<k->zt l q p=tH)->Q (.int r) H):zab ⇑l [⇑p,.int lo,.int hi] H Q:=by
 refine#[l,p,lo,hi,rfl,rfl,h0,h1,λr hr=>h r ?_]
 have no:∀q:Nat,((l.drop q).take p.length≠p\/¬ q+p.length<=l.length)->zt l q p=tH:=λq hq=>y6 λ⟨_,b,c⟩=>by
  rcases hq with hq | hq
  ·exact hq c
  ·lia
 rcases hr with ⟨rfl,hn⟩ | ⟨k,rfl,k1,k2,k3,k4,hn⟩
 ·refine .inl #[rfl,λq q1 q2=>no q ?_];by_cases e:q+p.length<=l.length
  ·exact .inl (hn q q1 q2 e)
  ·exact .inr e
 ·exact .inr #[k,rfl,k1,k2,y4 #[⋯,⋯,k4],λq q1 q2=>no q (.inl (hn q q1 q2))]
def uI(K:pB):Sp:=λvs H Q Z=>∃(a:pC) (l:()) (ps:List zG) (st en:Nat),vs=[.ref a,⇑l,.int (st:Nat),.int (en:Nat)]/\LsA K H a (ps.map dR)/\NeL ps/\(∀p ∈ ps,p.1.length<=1000)/\∀(r:Option (Nat × Nat)) (v:V) (H':Hp),Same H H'->UseAt H' r v->FirstN l ps st en ps.length r->Q v H'
def Xw{st en:Nat}{s e:Int}(hs:s=(st:Nat))(he:e=(en:Nat))(hA:LsA K H a (ps.map dR))(hN:NeL ps)(hP:∀p ∈ ps,p.1.length<=1000)(q:∀(r:Option (Nat × Nat)) (v:V) (H':Hp),Same H H'->UseAt H' r v->FirstN l ps st en ps.length r->Q v H'):uI K [.ref a,⇑l,.int s,.int e] H Q E:=by subst hs he;exact#[a,l,ps,st,en,rfl,hA,hN,hP,q]
def gT:sQz 4 ["rules","word","start","end","found","number","rule","place"] xZ:=by nofun
def qR(B:Bt mg)(F:("first_within"^^^xZ)):(1&&&["rules","word","start","end"]) (uI K):=by
 exists F.ok gT
 ·let#[a,l,ps,st,en,rfl,hA,hN,hP,q]:=h
  refine#[_,(zg (zE 4 gT.nd xj) (zg (xh o9 rfl (vq rfl B.enum (za (pv 0) zd)) (wF (n:=2) rfl (zK (zr (i:=5) gT.nd rfl (.inl rfl)) (zK (zr (i:=6) gT.nd rfl (.inl rfl)) yV))) (zZ (zE 7 gT.nd (ut bI d4 d5 zbK (pv 1) (za (!-6) (za (pv 2) (za (zq xt (zq vD (pv 3) ze) (zR B.len (!-6))) zd))))) (zh (zS (zB op_ge' (pv 7) ze (zF _)) (zZ (zE 4 gT.nd (zy (za (pv 5) (za (pv 7) zd)))) (zh (zE 3 gT.nd (pv 7))))
     zv)))) (zh (zp (pv 4))))),?_]
  have s16:=yb;let#[xs,hX,hI]:=id hA;have hxl:=hI.len;rw[aa]at hxl;have s16:=yb;change H'=H/\σ=%[!!a,~~~l,-~~~st,-~~~en,tE (.non)|3]
  ·rfl'
  rintro σ H1 ⟨rfl,rfl⟩:0;change Same H1 H'/\∃(r:Option (Nat × Nat)) (v:V) (v3 v5 v6 v7:Option V),UseAt H' r v/\FirstN l ps st en ps.length r/\σ=[!!a,~~~l,-~~~st,v3,tE (v),v5,v6,v7]
  ·rfl'
   refine#[#[_,x6 hX],ForEL.by (xs:=xs) (λi σ H'=>Same H1 H'/\∃(r:Option (Nat × Nat)) (v:V) (v5 v6 v7:Option V),UseAt H' r v/\FirstN l ps st en i r/\σ=[!!a,~~~l,-~~~st,tE (.int (((r.map Prod.snd).getD en:Nat):Int)),tE (v),v5,v6,v7]) #[ja3 _,tF,.non,tF,tF,tF,.inl #[rfl,rfl],.inl #[rfl,λj q h=>y9 h (bR j)],rfl] (λi σ H' Z h=>x6 (h.1 _ _ hX)) ?_ ?_]
   ·refine nmE ?_;rintro i y σ H' p hy ⟨hs,r,v,v5,v6,v7,hu,hF,rfl⟩ hpn:_;let#[rl,pr,hri,rfl,hqr]:=hI.getR hy;have hm:=ag hri;have hne:=tX.mpr (hN rl hm);have hrl:=hP rl hm;have s2:=hs.trans (zc (o:=.tup [.int (i:Nat),.ref pr]) hpn);have hq2:=zl s2 hqr;have hu2:=hu.same (zc (o:=.tup [.int (i:Nat),.ref pr]) hpn);right
    rfl'
    refine#[_,x8 zb,rfl,_,_,rfl,_,_,rfl,rfl,_,rfl,_,hq2,_,rfl,_,rfl,_,hq2,_,rfl,_,#[by rw[yk];lia,rfl],UX ⋯ (by rw[yk];lia) λz hz=>#[z,rfl,?_]];rw[yk]at hz;rcases hz with ⟨rfl,hn⟩ | ⟨k,rfl,k1,k2,k3,hn⟩
    ·rw[z9 ∅];exact#[s2,r,v,hu2,hF.keep hri λq q1 q2=>hn q ⋯ ⋯,rfl,rfl]
    ·rw[z6 ⋯];refine#[⋯,λp2 hp2=>#[s2.trans (zc hp2),tE (i,k),.ref p2,.inr #[i,k,p2,rfl,rfl,zb],hF.take hri ⋯ ⋯ k3 λq q1 q2=>hn q ⋯ q2,rfl,rfl]]
   ·refine nmB ?_;rintro σ H' ⟨hs,r,v,v5,v6,v7,hu,hF,rfl⟩:_;rw[hxl]at hF;right;exact#[hs,r,v,hu,hF,_,_,_,_,rfl]
  rintro σ H2 ⟨s2,r,v,v3,v5,v6,v7,hu,hF,rfl⟩:0
  rfl'
  exact q r v H2 s2 hu hF
structure zgl(mg:pG->Option pD):Prop where
 g:∃t,mg "WINDOW" = tE (.int 128 t)
def ZG(K:pB):Sp:=λvs H Q Z=>∃(a:pC) (l:()) (ps:List zG) (st:Nat),vs=[.ref a,⇑l,.int (st:Nat)]/\LsA K H a (ps.map dR)/\NeL ps/\(∀p ∈ ps,p.1.length<=1000)/\l.length<=100000/\∀(r:Option (Nat × Nat)) (v:V) (H':Hp),Same H H'->UseAt H' r v->FirstN l ps st l.length ps.length r->Q v H'
def ZQ{st:Nat}{s:Int}(hs:s=(st:Nat))(hA:LsA K H a (ps.map dR))(hN:NeL ps)(hP:∀p ∈ ps,p.1.length<=1000)(hl:l.length<=100000)(q:∀(r:Option (Nat × Nat)) (v:V) (H':Hp),Same H H'->UseAt H' r v->FirstN l ps st l.length ps.length r->Q v H'):ZG K [.ref a,⇑l,.int s] H Q E:=by subst hs;exact#[a,l,ps,st,rfl,hA,hN,hP,hl,q]
def iz:sQz 3 ["rules","word","start","size","found"] wL:=by nofun
def kG(B:Bt mg)(T:zgl mg)(F:("first_from"^^^wL))(nR:(1<<<"first_within") ["rules","word","start","end"] [] (uI K)):(2&&&["rules","word","start"]) (ZG K):=by
 let#[t8,g8]:=T.g
 exists F.ok iz
 ·let#[a,l,ps,st,rfl,hA,hN,hP,hl,q]:=h
  refine#[_,(zg (zE 3 iz.nd (yT (v:=.int 128) rfl g8 #[t8,rfl])) (zg (Wi o9 (zB Qu (pv 2) (zR B.len (pv 1)) (zF _)) (zZ (zE 4 iz.nd (cl0 nR hr .nil rfl (za (pv 0) (za (pv 1) (za (pv 2) (za (zq xt (pv 2) (pv 3)) zd)))))) (zZ (zS (zB op_notN' (pv 4) xj (zF _)) (zh (zp (pv 4)))
     zv) (zZ (zE 2 iz.nd (zq xt (pv 2) (pv 3))) (zh (zE 3 iz.nd (zq j7 (pv 3) ze))))))) (zh (zp xj)))),?_]
  have s16:=yb;change H'=H/\σ=[!!a,~~~l,-~~~st,~~~!128,tF]
  ·rfl'
  rintro σ H1 ⟨rfl,rfl⟩:0;change Same H1 H'/\FirstN l ps st l.length ps.length tF
  ·unfold Ut;refine#[λm σ H'=>∃(s z:Nat) (v4:Option V),m=l.length - s/\st<=s/\1<=z/\Same H1 H'/\FirstN l ps st s ps.length tF/\σ=[!!a,~~~l,-~~~s,-~~~z,v4],#[_,st,128,tF,rfl,am _,∅,ja3 _,.inl #[rfl,λj q Z h1 h2=>by lia],rfl],?_];refine nmC ?_;rintro m σ H' ⟨s,z,v4,rfl,hs,hz,sm,hF,rfl⟩:0
   rfl'
   refine#[⋯,yC (λhlt=>?_) λhge=>#[sm,hF.toEnd hN λZ=>by lia]];refine#[λσ' H''=>∃v4:Option V,Same H1 H''/\FirstN l ps st (s+z) ps.length tF/\σ'=[!!a,~~~l,tE (.int ((s+z:Nat):Int)),tE (.int ((z * 2:Nat):Int)),v4],λσ' H'' ⟨v4,a1,a2,a3⟩=>#[l.length - (s+z),⋯,s+z,rfl,⋯,z * 2,⋯,a1,a2,v4,a3],?_];refine Xw (en:=s+z) rfl ⋯ (hA.same sm) hN hP λr v H2 s2 hu hF2=>?_;rcases hu with ⟨rfl,rfl⟩ | ⟨n,qq,p,rfl,rfl,hp⟩
   ·rw[z9 (λh=>h rfl)];exact#[.inr #[∅,∅],tE .non,sm.trans s2,hF.window hs hF2,by push_cast;rfl]
   ·rw[z6 (by intro h;cases h)];exact q _ _ H2 (sm.trans s2) (.inr #[n,qq,p,rfl,rfl,hp]) ((hF.window hs hF2).toEnd hN (λe=>by cases e))
  rintro σ H2 ⟨s2,hF⟩:0
  rfl'
  exact q tF .non H2 s2 (.inl #[rfl,rfl]) hF
def LsA.pushT{D p:pC}(h1:H D=tE (.lst xs))(h2:Iss K H ds xs)(hp:H p=tF)(hv:Iss K H es vs)(f:z8 ds)(fe:z8 es):LsA K (upd (upd H p (.tup vs)) D (.lst (xs ++ [.ref p]))) D (ds ++ [.tup es]):=by have e:(upd H p (.tup vs)) D=tE (.lst xs):=zc hp _ _ h1;exact LsA.snoc e (ja1 (zc hp) _ _ h2) f (by erw[xv];exact fe) (Is.tup hp hv)
structure zaU(K:pB)(mg:pG->Option pD)(C:pC):Prop where
 xi:XI K C
 ini:aj K (.ref C) "__init__" = tE (tE (.builtin "ValueError.__init__"))
 g:mg "TooFar" = tE (.ref C)
def dG(u:Nat × Nat):L3.D:=.tup [.int (u.1:Nat),.int (u.2:Nat),.bl tG]
def zcp(u:Nat × Nat):xv (dG u):=by erw[dG,xv,z8,and_self]
def JD(us:List (Nat × Nat)):z8 (us.map dG):=wU λd h=>by let#[r,_,rfl]:=tM.mp h;exact zcp r
def ze4 : Iss K H [.int (n:Nat),.int (q:Nat),.bl tG] [.int (n:Nat),.int (q:Nat),.bl tG]:=by
 erw[Iss,Is]
 exact#[_,_,rfl,rfl,_,_,rfl,rfl,_,_,rfl,rfl,rfl]
structure Rd(ps:List zG)(l:())(J:Nat):Prop where
 live:Wc ps l J
 len:∀j,j<=J->(wAt ps l j).length<=10000
 most:J<=10000
def vc(K:pB)(CF:pC):Sp:=λvs H Q E=>∃(a:pC) (l:()) (ps:List zG) (m:Int) (J:Nat),vs=[.ref a,⇑l,.int m]/\LsA K H a (ps.map dR)/\NeL ps/\ps.length<=100/\(∀p ∈ ps,p.1.length<=1000/\p.2.length<=1000)/\Rd ps l J /\
 ((zA (wAt ps l J) ps=tF/\(J:Int)<=m/\∀(p S:pC) (H':Hp),Same H H'->H' p=tE (.tup [.ref S,⇑(wAt ps l J)])->LsA K H' S ((sAt ps l J).map dG)->H S=tF->Q (.ref p) H') \/
  (zA (wAt ps l J) ps≠tF/\(J:Int)=m/\∀H',Same H H'->E (.ref CF) tF H'))
def Uj{ps:List zG}{D:pC}(hA:LsA K H a (ps.map dR))(hP:∀p ∈ ps,p.1.length<=1000)(hpl:ps.length<=100)(hD:H D=tF)(q:∀H',Same H H'->H' D=tE (.lst ((ps.map λp=>(p.1.length:Int)).map V.int))->Q (.ref D) H') :
  CompL K a (yW 0) xy (tCB (Vz K) (zI (tOp (xO K) (z7 0) (tC (.int 0))) xp)) 1 [] σ H Q D:=by
 have s16:=yb;let#[xs,hX,hI]:=hA;have hxl:=hI.len;rw[aa]at hxl;refine ja2 (xs:=xs) (λi tK H'=>Same H H'/\H' D=tE (.lst tK)/\tK=((ps.take i).map λp=>(p.1.length:Int)).map V.int) #[zc hD,zb,rfl] (λi tK H' Z h=>x6 (h.1 _ _ hX)) ?_ ?_
 ·refine nm4 ?_;rintro i x tK H' hx ⟨hs,hH,rfl⟩:_;have hil:=(tL.mp hx).1;let#[r,pr,hri,rfl,hqr]:=hI.getR hx;have hm:=hP r (ag hri);right
  erw[xy]
  rfl'
  refine#[yJ,_,zl hs hqr,_,rfl,_,#[by rw[yk];lia,rfl],hH,by rw[aa,aa,aF];lia,x9 hil #[zH hs hD,zb,?_]];rw[zP hri,ar,ar,yk];rfl
 ·refine nmB ?_;rintro tK H' ⟨hs,hH,rfl⟩:_;rw[hxl,aI]at hH;right;exact q H' hs hH
def zfu{rs:List zG}{i:Nat}(hI:Iss K H (rs.map dR) xs)(hi:rs[i]? = tE r):∃p,atI xs (i:Int)=tE (.ref p)/\SqT K H p [⇑r.1,⇑r.2]:=by have hl:=hI.len;rw[aa]at hl;have hil:=(tL.mp hi).1;let#[v,a1,b1]:=Z3 (xs:=xs) (i:=(i:Int)) ⋯ ⋯;let#[r',p,h1,rfl,h3]:=hI.getR (j:=i) b1;rw[hi]at h1;cases h1;exact#[p,a1,h3]
def la:sQz 3 ["rules","word","most","longest","steps","use","number","place"] vH:=by nofun
def zaS(B:Bt mg)(T:zaU K mg CF)(TU:DNU P w K mg base CU)(F:FunD K "gone" "gone" vH dV f fd)(mS:(2<<<"first_from") ["rules","word","start"] [] (ZG K))(oj:(3>>>"put") ["word","place","old","new"] [] (XU CU)):(4|||["rules","word","most"]) (vc K CF):=by
 exists FunD.okX F la,0
 ·let#[a,l,ps,m,J,rfl,hA,hN,hpl,hP,hR,hq]:=h
  refine#[_,(zg (zE 3 la.nd (Uw (zd8 rfl) rfl B.max qv (za (xf (own:=["rule"]) (caps:=[]) (ix:=[]) (tt:=xy) (te:=(tCB (Vz K) (zI (tOp (xO K) (z7 0) (tC (.int 0))) xp))) rfl (zM (sc:=zi vH) rfl (!0) (!0) (!0) rfl (!0) (!0) rfl) (ye (pv 0)) (λZ Z Z Z Z Z=>zr (i:=0) (show List.Nodup [_] by decide) rfl (.inl rfl)) (λZ Z Z Z Z Z=>zY) (λZ Z Z Z Z Z=>(zR B.len (!-0)))) zd) (Ux ze zai))) (zg (zE 4 la.nd (zX zd)) (zg (zE 5 la.nd (cl0 mS hr .nil rfl (za (pv 0) (za (pv 1) (za ze zd))))) (zg (Wi PassesOwn.leaving (zB op_notN' (pv 5) xj (zF _)) (zg (zS (zB op_ge' (zR B.len (pv 4)) (pv 2) (zF _)) (zh (yS hx rfl T.xi.toXC T.ini rfl T.g (za zO zd)))
     zv) (zg (zE 6 la.nd (!-5)) (zg (zE 7 la.nd (!-5)) (zg (zE 1 la.nd (clP hx oj hr .nil rfl (za (pv 1) (za (pv 7) (za (zk v9 (zk ix_list (pv 0) (pv 6)) ze) (za (zk v9 (zk ix_list (pv 0) (pv 6)) ze) zd)))))) (zg (ww (ut bE bM bN xg (pv 4) (za (zy (za (pv 6) (za (pv 7) (za yA zd)))) zd))) (zh (zE 5 la.nd (cl0 mS hr .nil rfl (za (pv 0) (za (pv 1) (za (xa (U3 rfl) rfl B.max qv (za ze (za (zq xt (zq vD (pv 7) (pv 3)) ze) zd))) zd)))))))))))) (zh (zp (zy (za (pv 4) (za (pv 1) zd))))))))),?_]
  have s16:=yb;change Same H H'/\∃M:Int,(∀p ∈ ps,(p.1.length:Int)<=M)/\σ=%[!!a,~~~l,~~~!m,~~~!M|4]
  ·rfl'
   erw[zgk]
   rfl'
   let#[xs,hX,hI]:=id hA;exact#[#[_,x6 hX],λD hD=>Uj hA (λp hp=>(hP p hp).1) hpl hD λH' s' hH=>#[D,_,0,rfl,rfl,x6 hH,λz Z hz=>#[s',z,λp hp=>hz _ (tM.mpr #[p,hp,rfl]),rfl]]]
  rintro σ H1 ⟨s1,M,hM,rfl⟩:0;change Same H H'/\∃S:pC,H S=tF/\H' S=tE (.lst [])/\σ=%[!!a,~~~l,~~~!m,~~~!M,!!S|3]
  ·rfl'
   exact#[⋯,λp hp=>#[s1.trans (zc hp),p,s1.free hp,zb,rfl]]
  rintro σ H2 ⟨s2,S,hSn,hS,rfl⟩:0;change Same H H'/\H' S=tE (.lst [])/\∃uv:V,UseAt H' (zA l ps) uv/\σ=%[!!a,~~~l,~~~!m,~~~!M,!!S,tE (uv)|2]
  ·rfl'
   exact ZQ (st:=0) rfl (hA.same s2) hN (λp hp=>(hP p hp).1) (by have:=hR.len 0 (aw _);exact aG this ∅) λr v H' s' hu hF=>#[s2.trans s',s' _ _ hS,(by rw[Wa hF]at hu;exact hu)]
  rintro σ H3 ⟨s3,hS3,uv,hu,rfl⟩:0;change Same H H'/\zA (wAt ps l J) ps=tF/\LsA K H' S ((sAt ps l J).map dG)/\∃v5 v6 v7,σ=[!!a,tE ⇑(wAt ps l J),~~~!m,~~~!M,!!S,v5,v6,v7]
  ·unfold Ut;refine#[λk σ H'=>∃(j:Nat) (uv:V) (v6 v7:Option V),k=J - j/\j<=J/\Same H H'/\LsA K H' S ((sAt ps l j).map dG)/\UseAt H' (zA (wAt ps l j) ps) uv/\σ=[!!a,tE ⇑(wAt ps l j),~~~!m,~~~!M,!!S,tE (uv),v6,v7],#[_,0,uv,tF,tF,rfl,aw _,s3,#[[],hS3,by erw[sAt,List.range_zero,aA,Iss]],hu,rfl],?_];refine nmC ?_;rintro k σ H' ⟨j,uv,v6,v7,rfl,hj,hs,hL,hu,rfl⟩:_;have hlj:=hR.len j hj;have hRm:=hR.most;let#[xs,hX,hI]:=id hA;right
   rfl'
   refine yC (λhne=>?_) λhne=>?_
   ·rcases hu with ⟨_,h⟩ | ⟨n,q0,p,hf,rfl,hp⟩
    ·exact y9 h hne
    have hF:=XF (wAt ps l j) ps hN;rw[hf]at hF
    have hjJ:j<J\/(j=J/\(J:Int)=m/\∀H',Same H H'->E (.ref CF) tF H'):=by
     by_cases e:j=J
     ·subst e;rcases hq with ⟨h,_⟩ | ⟨_,h1,h2⟩
      ·rw[hf]at h;cases h
      ·exact .inr #[rfl,h1,h2]
     ·exact .inl ⋯
    have hJm:(J:Int)<=m:=by
     rcases hq with ⟨_,h,_⟩ | ⟨_,h,_⟩ <;> lia
    obtain⟨rl,hrl,hst⟩:∃rl,ps[n]? = tE rl/\zt (wAt ps l j) (q0:Int) rl.1=tG:=by
     rcases hF with ⟨h,_⟩ | ⟨n0,q1,e,_,_,_,a4,_⟩
     ·cases h
     ·cases e;exact (vF a4).2
    have hlp:=hP rl (ag hrl);have hw:=wx hf;let#[pr,hai,hqr]:=zfu hI hrl;refine#[λσ' H''=>∃(uv:V) (v6 v7:Option V),j<J/\Same H H''/\LsA K H'' S ((sAt ps l (j+1)).map dG)/\UseAt H'' (zA (wAt ps l (j+1)) ps) uv/\σ'=[!!a,tE ⇑(wAt ps l (j+1)),~~~!m,~~~!M,!!S,tE (uv),v6,v7],λσ' H'' ⟨uv,v6,v7,a0,a1,a2,a3,a4⟩=>#[J - (j+1),⋯,j+1,rfl,⋯,a1,a2,uv,a3,v6,v7,a4],?_];let#[ys,hY,hJ2]:=id hL;have hyl:=hJ2.len;rw[aa,Xv]at hyl;refine zj (λσ' H''=>H''=H'/\j<J/\σ'=[!!a,tE ⇑(wAt ps l j),~~~!m,~~~!M,!!S,!!p,v6,v7]) ?_ ?_
    ·rfl'
     refine#[_,.inl #[_,x6 hY,rfl],yC (λhge=>?_) λhge=>?_]
     ·rcases hjJ with h | ⟨_,_,h⟩
      ·lia
      ·exact#[⋯,h _ hs]
     ·rcases hjJ with h | ⟨e,h,_⟩
      ·exact h
      ·lia
    rintro σ' G1 ⟨rfl,hlt,rfl⟩:0;refine zj (λσ' H''=>H''=G1/\σ'=[!!a,tE ⇑(wAt ps l j),~~~!m,~~~!M,!!S,!!p,-~~~n,v7]) ?_ ?_
    ·rfl'
     exact#[_,x8 hp,rfl]
    rintro σ' G2 ⟨rfl,rfl⟩:0;refine zj (λσ' H''=>H''=G2/\σ'=[!!a,tE ⇑(wAt ps l j),~~~!m,~~~!M,!!S,!!p,-~~~n,-~~~q0]) ?_ ?_
    ·rfl'
     exact#[_,x8 hp,rfl]
    rintro σ' G3 ⟨rfl,rfl⟩:0;refine zj (λσ' H''=>H''=G3/\σ'=[!!a,tE ⇑(wAt ps l (j+1)),~~~!m,~~~!M,!!S,!!p,-~~~n,-~~~q0]) ?_ ?_
    ·rfl'
     have hq2:=zl hs hqr;exact#[_,x6 (hs _ _ hX),_,hai,_,rfl,_,hq2,_,rfl,_,x6 (hs _ _ hX),_,hai,_,rfl,_,hq2,_,rfl,wAt ps l j,rl.1,rl.2,(q0:Nat),rfl,hlj,by have:=hlp.1;lia,by have:=hlp.2;lia,λZ=>#[rfl,by rw[hw];unfold uO;rw[wo hrl]],λh=>by rw[hst]at h;cases h]
    rintro σ' G4 ⟨rfl,rfl⟩:0;refine zj (λσ' H''=>Same H H''/\LsA K H'' S ((sAt ps l (j+1)).map dG)/\σ'=[!!a,tE ⇑(wAt ps l (j+1)),~~~!m,~~~!M,!!S,!!p,-~~~n,-~~~q0]) ?_ ?_
    ·rfl'
     refine#[.inl #[_,x6 hY],⋯,λt ht=>#[_,zc ht _ _ hY,⋯,zH (hs.trans (zc ht)) hSn,?_]];rw[Wt,hf,ar];exact LsA.pushT hY hJ2 ht ze4 (JD _) (by erw[z8,xv,and_self])
    rintro σ' G5 ⟨s5,hL5,rfl⟩:_;have hl1:=hR.len (j+1) hlt;have hM0:=hM rl (ag hrl);right
    rfl'
    refine ZQ (st:=(if (q0:Int) - M+1 > 0 then (q0:Int) - M+1 else 0).toNat) (by split <;> lia) (hA.same s5) hN (λp hp=>(hP p hp).1) (aG hl1 ∅) λr v H' s' hu hF2=>#[hlt,s5.trans s',hL5.same s',?_];have hb:=Vk (M:=M.toNat) (lo:=(if (q0:Int) - M+1 > 0 then (q0:Int) - M+1 else 0).toNat) hF hN (λp hp=>by have:=hM p hp;lia) (by split <;> lia);rw[<- hw]at hb;rw[Wa (hb.window (aw _) hF2)]at hu;exact hu
   ·have hv:uv=.non:=Decidable.not_not.mp hne
    have hf:zA (wAt ps l j) ps=tF:=by
     rcases hu with ⟨h,_⟩ | ⟨_,_,_,_,h,_⟩
     ·exact h
     ·rw[hv]at h;cases h
    have e:j=J:=by
     rcases e7 j J with h | h
     ·exact y9 hf (hR.live j h)
     ·lia
    subst e;exact#[hs,hf,hL,rfl]
  rintro σ H4 ⟨s4,hF,hL,v5,v6,v7,rfl⟩:0
  rfl'
  rcases hq with ⟨_,_,hq⟩ | ⟨h,_⟩
  ·exact#[⋯,λp hp=>hq p S _ (s4.trans (zc hp)) zb (hL.same (zc hp)) hSn]
  ·exact y9 hF h
abbrev Stp:=Int × Int × Bool
def dSt(t:Stp):D:=.tup [.int t.1,.int t.2.1,.bl t.2.2]
def sdl(r:zG)(f:Bool):zG:=if f=tG then r else (r.2,r.1)
def yf(ps:List zG)(w:())(t:Stp):Option (()) :=
 if 0<=t.1/\t.1<ps.length then (if zt w t.2.1 (sdl (ps.getD t.1.toNat ([],[])) t.2.2).1=tG then tE (yM w t.2.1 (sdl (ps.getD t.1.toNat ([],[])) t.2.2).1 (sdl (ps.getD t.1.toNat ([],[])) t.2.2).2)else tF)else tF
def JO{D p:pC}(h1:H D=tE (.lst xs))(h2:Iss K H ds xs)(hp:H p=tF)(hv:Iss K H es vs)(f:z8 ds)(fe:z8 es):LsA K (upd (upd H p (.tup vs)) D (.lst (xs ++ [.ref p]))) D (ds ++ [.tup es]):=by have e:(upd H p (.tup vs)) D=tE (.lst xs):=zc hp _ _ h1;exact LsA.snoc e (ja1 (zc hp) _ _ h2) f (by erw[xv];exact fe) (Is.tup hp hv)
def zdN : Iss K H [dS l,dS m] [⇑l,⇑m]:=by
 erw[Iss,Is]
 exact#[_,_,rfl,rfl,_,_,rfl,rfl,rfl]
def jV(rs:List zG):Prop:=rs.length<=30/\∀r ∈ rs,r.1.length<=100/\r.2.length<=100
def KL(h:Is K H (dSt t) v):∃p,v=.ref p/\SqT K H p [.int t.1,.int t.2.1,.bl t.2.2]:=by
 erw[dSt,Is,Iss]at h
 let#[a,xs,e,hs,v1,r1,rfl,rfl,v2,r2,rfl,rfl,v3,r3,rfl,rfl,rfl]:=h;exact#[a,e,hs]
def vE(h:SqT K H p [.int t.1,.int t.2.1,.bl t.2.2]):Is K H (dSt t) (.ref p):=by
 erw[dSt,Is,Iss]
 exact#[p,_,rfl,h,_,_,rfl,rfl,_,_,rfl,rfl,_,_,rfl,rfl,rfl]
def zaq : Iss K H [.int i,.int j,.bl b] [.int i,.int j,.bl b]:=by
 erw[Iss,Is]
 exact#[_,_,rfl,rfl,_,_,rfl,rfl,_,_,rfl,rfl,rfl]
def wq(rs:List Stp):z8 (rs.map dSt):=wU λd h=>by let#[r,_,rfl]:=tM.mp h;erw[dSt,xv,z8,and_self]
def zce(rs:List Stp):vw (rs.map dSt)<=1:=Zp λd h=>by let#[r,_,rfl]:=tM.mp h;erw[dSt,dpD,vw];lia
def vo{rs:List Stp}{j:Nat}(h:Iss K H (rs.map dSt) vs)(q:vs[j]? = tE v):∃r p,rs[j]? = tE r/\v=.ref p/\SqT K H p [.int r.1,.int r.2.1,.bl r.2.2]:=by let#[d,e,i]:=h.get q;rw[ay]at e;let#[r,hr,rfl]:=tS.mp e;let#[p,e1,e2]:=KL i;exact#[r,p,hr,e1,e2]
def zcQ{rs:List zG}{i:Int}(hI:Iss K H (rs.map dR) xs)(h0:0<=i)(hi:i<rs.length):∃p,atI xs i=tE (.ref p)/\rs[i.toNat]? = tE (rs.getD i.toNat ([],[]))/\SqT K H p [⇑(rs.getD i.toNat ([],[])).1,⇑(rs.getD i.toNat ([],[])).2]:=by
 have hl:=hI.len;rw[aa]at hl;let#[v,a1,b1]:=Z3 (xs:=xs) (i:=i) h0 ⋯;let#[r,p,h1,rfl,h3]:=hI.getR b1;have e:rs.getD i.toNat ([],[])=r:=by rw[ae,h1];rfl
 rw[e];exact#[p,a1,h1,h3]
theorem YS(h:jV rs)(i:Nat):(rs.getD i ([],[])).1.length<=100/\(rs.getD i ([],[])).2.length<=100:=by
 rw[ae]
 cases e:rs[i]? with
 | none=>exact#[aw _,aw _]
 | some r=>exact h.2 r (ag e)
def xD{w:()}{t:Stp}(h:¬ (0<=t.1/\t.1<ps.length)):yf ps w t=tF:=z9 h
def yL{w:()}{t:Stp}(h:0<=t.1/\t.1<ps.length):yf ps w t=if zt w t.2.1 (sdl (ps.getD t.1.toNat ([],[])) t.2.2).1=tG then tE (yM w t.2.1 (sdl (ps.getD t.1.toNat ([],[])) t.2.2).1 (sdl (ps.getD t.1.toNat ([],[])) t.2.2).2)else tF:=z6 h
def Ch(rs:List zG)(ws:List (()))(ss:List Stp):Prop:=ws.length=ss.length+1/\∀i s,ss[i]? = tE s->∃w w',ws[i]? = tE w/\ws[i+1]? = tE w'/\yf rs w s=tE w'
def bk(s:Stp):Stp:=(s.1,s.2.1,!s.2.2)
def yh(ss:List Stp):List Stp:=ss.reverse.map bk
def mvL(ss:List Stp)(z:Int):List Stp:=ss.map λs=>(s.1,s.2.1+z,s.2.2)
def zaR(r:zG)(f:Bool):sdl r (!f)=((sdl r f).2,(sdl r f).1):=by cases f <;> rfl
def j2{w w':()}(h:yf rs w s=tE w'):yf rs w' (bk s)=tE w:=by
 by_cases hb:0<=s.1/\s.1<rs.length
 ·rw[yL hb]at h;have hb':0<=(bk s).1/\(bk s).1<rs.length:=hb;rw[yL hb']
  erw[bk,zaR]
  generalize sdl (rs.getD s.1.toNat ([],[])) s.2.2=r at *;by_cases hs:zt w s.2.1 r.1=tG
  ·rw[z6 hs]at h;cases h;let#[e1,e2]:=XO r.2 hs;rw[z6 e1,e2]
  ·rw[z9 hs]at h;cases h
 ·rw[xD hb]at h;cases h
def Ch.back(h:Ch rs ws ss):Ch rs ws.reverse (yh ss):=by
 let#[hl,hs]:=h;refine#[by simp [yh,hl],λi s hi=>?_];have hil:i<ss.length:=by have:=(tL.mp hi).1;simpa [yh] using this
 unfold yh at hi;rw[ay,bx hil]at hi;let#[s0,h0,rfl]:=tS.mp hi;let#[w,w',e1,e2,e3]:=hs _ _ h0;refine#[w',w,?_,?_,j2 e3]
 ·rw[bx ⋯,<- e2];congr 1;lia
 ·rw[bx ⋯,<- e1];congr 1;lia
def WJ{a w b:()}(h:k<=w.length):(a ++ w ++ b).drop (a.length+k)=w.drop k ++ b:=by rw[aU,<- fR,List.drop_left,cz h]
def kJ{a w b o:()}(h:zt w k o=tG):zt (a ++ w ++ b) (k+(a.length:Int)) o=tG:=by let#[_,_,h0,h1]:=yZ h;unfold zt at h ⊢;rw[decide_eq_true_eq]at h ⊢;let#[_,_,h2]:=h;refine#[⋯,by erw[aq];lia,?_];rw[show (k+(a.length:Int)).toNat=a.length+k.toNat by lia,WJ ⋯,bq (by rw[bh];lia),h2]
def Vs{a w b o n:()}(h:zt w k o=tG):yM (a ++ w ++ b) (k+(a.length:Int)) o n=a ++ yM w k o n ++ b:=by
 let#[_,_,h0,h1]:=yZ h;unfold yM;rw[show (k+(a.length:Int)).toNat=a.length+k.toNat by lia]
 have e1:(a ++ w ++ b).take (a.length+k.toNat)=a ++ w.take k.toNat:=by
  rw[aU,List.take_length_add_append,bq ⋯]
 have e2:(a ++ w ++ b).drop (a.length+k.toNat+o.length)=w.drop (k.toNat+o.length) ++ b:=by
  rw[Nat.add_assoc];exact WJ ⋯
 rw[e1,e2];simp [aU]
def uZ{w w':()}(a b:())(h:yf rs w s=tE w'):yf rs (a ++ w ++ b) (s.1,s.2.1+(a.length:Int),s.2.2)=tE (a ++ w' ++ b):=by
 by_cases hb:0<=s.1/\s.1<rs.length
 ·rw[yL hb]at h;rw[yL (by exact hb)];simp only;generalize sdl (rs.getD s.1.toNat ([],[])) s.2.2=r at *;by_cases hs:zt w s.2.1 r.1=tG
  ·rw[z6 hs]at h;cases h;rw[z6 (kJ hs),Vs hs]
  ·rw[z9 hs]at h;cases h
 ·rw[xD hb]at h;cases h
def Ch.within(a b:())(h:Ch rs ws ss):Ch rs (ws.map λw=>a ++ w ++ b) (mvL ss (a.length:Int)):=by let#[hl,hs]:=h;refine#[by simp [mvL,hl],λi s hi=>?_];unfold mvL at hi;rw[ay]at hi;let#[s0,h0,rfl]:=tS.mp hi;let#[w,w',e1,e2,e3]:=hs _ _ h0;exact#[a ++ w ++ b,a ++ w' ++ b,by rw[ay,e1];rfl,by rw[ay,e2];rfl,uZ a b e3]
def Kh{w o n:()}(h:zt w k o=tG):(yM w k o n).length+o.length=w.length+n.length:=by
 let#[e,hl,h0,h1]:=yZ h;unfold yM
 erw[aq,bh,hl]
 lia
def Zn{D p:pC}(h1:H D=tE (.lst xs))(h2:Iss K H ds xs)(hp:H p=tF)(hv:Iss K H es vs)(f:z8 ds)(fe:z8 es):Iss K (upd (upd H p (.tup vs)) D (.lst (xs ++ [.ref p]))) (ds ++ [.tup es]) (xs ++ [.ref p]):=by let#[ys,hy1,hy2]:=JO h1 h2 hp hv f fe;rw[zb]at hy1;cases hy1;exact hy2
def qI(K:pB):Sp:=λvs H Q Z=>∃(t:pC) (ss:List Stp),vs=[.ref t]/\Is K H (.lst (ss.map dSt)) (.ref t)/\ss.length<=1000/\∀(D:pC) (H':Hp),H D=tF->Same H H'->LsA K H' D ((yh ss).map dSt)->Q (.ref D) H'
def Zs(h1:Is K H (.lst (ss.map dSt)) (.ref t))(h2:ss.length<=1000)(h:∀(D:pC) (H':Hp),H D=tF->Same H H'->LsA K H' D ((yh ss).map dSt)->Q (.ref D) H'):qI K [.ref t] H Q E:=#[t,ss,rfl,h1,h2,h]
def Qx(h:ss.reverse[i]? = tE s):(yh ss).take (i+1)=(yh ss).take i ++ [bk s]:=zP (by unfold yh;rw[ay,h];rfl)
def za1:sQz 1 ["steps"] Ww:=by nofun
def zcm(B:Bt mg)(F:("back"^^^Ww)):(1&&&["steps"]) (qI K):=by
 exists F.ok za1
 ·let#[t,ss,rfl,hT,hsl,q]:=h;refine#[_,(zh (zp (xf (own:=["step"]) (caps:=[]) (ix:=[]) (tt:=xy) (te:=(Zo (zI (tOp (xO K) (z7 0) (tC (.int 0))) (zI (tOp (xO K) (z7 0) (tC (.int 1))) (zI (Xi (tOp (xO K) (z7 0) (tC (.int 2)))) xp))))) rfl (zM (sc:=zi Ww) rfl (!0) (!0) (!0) rfl (!0) (!0) rfl) (K4 rfl B.rev (za (pv 0) zd)) (λZ Z Z Z Z Z=>zr (i:=0) (show List.Nodup [_] by decide) rfl (.inl rfl)) (λZ Z Z Z Z Z=>zY) (λZ Z Z Z Z Z=>(zy (za (!-0) (za (!-0) (za (jF (!-0)) zd)))))))),?_];have s16:=yb
  rfl'
  erw[Is]at hT
  let#[_,ts,e,hTs,hJ]:=hT;cases e;have htl:=hJ.len;rw[aa]at htl;have hbl:(yh ss).length=ss.length:=by simp [yh]
  refine#[ts,hTs,λD hD=>CompV.by (xs:=ts) (λi tK H'=>Same H H'/\H' D=tE (.lst tK)/\Iss K H' (((yh ss).take i).map dSt) tK) #[zc hD,zb,by erw[bi,aA,Iss]] (λi tK H' Z h=>h.1.seq hTs) ?_ ?_]
  ·refine nm4 ?_;rintro i x tK H' hx ⟨hs,hH,hA⟩:_;have hi:i<ts.length:=by have:=(tL.mp hx).1;simpa using this
   rw[bx hi]at hx;let#[s,ps,hsi,rfl,hqs]:=vo hJ hx;have hsr:ss.reverse[i]? = tE s:=by rw[bx ⋯,<- hsi,htl]
   have hal:=hA.len;rw[aa,aF]at hal;right
   erw[xy]
   rfl'
   refine#[yJ,_,zl hs hqs,_,rfl,_,zl hs hqs,_,rfl,_,zl hs hqs,_,rfl,_,rfl,⋯,λp hp=>#[zc hp _ _ hH,⋯,x9 hi #[zH (hs.trans (zc hp)) hD,zb,?_]]];rw[Qx hsr,ar];exact Zn hH hA hp zaq (wq _) (by erw[z8,xv,and_self])
  ·refine nmB ?_;rintro tK H' ⟨hs,hH,hA⟩:_;rw[htl,<- hbl,aI]at hA;right;exact q D H' hD hs #[tK,hH,hA]
def kP(K:pB):Sp:=λvs H Q Z=>∃(t:pC) (ss:List Stp) (z:Int),vs=[.ref t,.int z]/\Is K H (.lst (ss.map dSt)) (.ref t)/\ss.length<=1000/\∀(D:pC) (H':Hp),H D=tF->Same H H'->LsA K H' D ((mvL ss z).map dSt)->Q (.ref D) H'
def Yh(h1:Is K H (.lst (ss.map dSt)) (.ref t))(h2:ss.length<=1000)(h:∀(D:pC) (H':Hp),H D=tF->Same H H'->LsA K H' D ((mvL ss z).map dSt)->Q (.ref D) H'):kP K [.ref t,.int z] H Q E:=#[t,ss,z,rfl,h1,h2,h]
def JB:sQz 2 ["steps","size"] kX:=by nofun
def Kq(B:Bt mg)(F:("moved"^^^kX)):(1&&&["steps","size"]) (kP K):=by
 exists F.ok JB
 ·let#[t,ss,z,rfl,hT,hsl,q]:=h;refine#[_,(zh (zp (xf (own:=["step"]) (caps:=["size"]) (ix:=[1]) (tt:=xy) (te:=(Zo (zI (tOp (xO K) (z7 0) (tC (.int 0))) (zI (tOp QU (tOp (xO K) (z7 0) (tC (.int 1))) (z7 1)) (zI (tOp (xO K) (z7 0) (tC (.int 2))) xp))))) rfl (zM (sc:=zi kX) rfl (!0) (!0) (!0) rfl (!0) (!0) rfl) (ye (pv 0)) (λZ Z Z Z Z Z=>zr (i:=0) (show List.Nodup [_,_] by decide) rfl (.inl rfl)) (λZ Z Z Z Z Z=>zY) (λZ Z Z Z Z Z=>(zy (za (!-0) (za (zq zC (!-0) (pv 1)) (za (!-0) zd)))))))),?_];have s16:=yb
  rfl'
  erw[Is]at hT
  let#[_,ts,e,hTs,hJ]:=hT;cases e;have htl:=hJ.len;rw[aa]at htl;have hbl:(mvL ss z).length=ss.length:=by simp [mvL]
  refine#[#[ts,hTs],λD hD=>ja2 (xs:=ts) (λi tK H'=>Same H H'/\H' D=tE (.lst tK)/\Iss K H' (((mvL ss z).take i).map dSt) tK) #[zc hD,zb,by erw[bi,aA,Iss]] (λi tK H' Z h=>h.1.seq hTs) ?_ ?_]
  ·refine nm4 ?_;rintro i x tK H' hx ⟨hs,hH,hA⟩:_;have hi:=(tL.mp hx).1;let#[s,ps,hsi,rfl,hqs]:=vo hJ hx;have hm:(mvL ss z)[i]? = tE (s.1,s.2.1+z,s.2.2):=by unfold mvL;rw[ay,hsi];rfl
   have hal:=hA.len;rw[aa,aF]at hal;right
   erw[xy]
   rfl'
   refine#[yJ,_,zl hs hqs,_,rfl,_,zl hs hqs,_,rfl,_,zl hs hqs,_,rfl,⋯,λp hp=>#[zc hp _ _ hH,⋯,x9 hi #[zH (hs.trans (zc hp)) hD,zb,?_]]];rw[zP hm,ar];exact Zn hH hA hp zaq (wq _) (by erw[z8,xv,and_self])
  ·refine nmB ?_;rintro tK H' ⟨hs,hH,hA⟩:_;rw[htl,<- hbl,aI]at hA;right;exact q D H' hD hs #[tK,hH,hA]
abbrev Ent:=() × () × List Stp
def dE(e:Ent):L3.D:=.tup [dS e.1,dS e.2.1,.lst (e.2.2.map dSt)]
def XX(es:List Ent)(u:Stp):List Stp:=mvL (if u.2.2=tG then (es.getD u.1.toNat ([],[],[])).2.2 else yh (es.getD u.1.toNat ([],[],[])).2.2) u.2.1
def byL(es:List Ent)(us:List Stp):List Stp:=us.flatMap (XX es)
def zc2(h:Is K H (dE e) v):∃p s,v=.ref p/\SqT K H p [⇑e.1,⇑e.2.1,.ref s]/\Is K H (.lst (e.2.2.map dSt)) (.ref s):=by
 erw[dE,Is,Iss]at h
 let#[a,xs,e0,hs,v1,r1,rfl,rfl,v2,r2,rfl,rfl,v3,r3,rfl,#[s,zs,rfl,h1,h2],rfl]:=h;refine#[a,s,e0,hs,?_]
 erw[Is]
 exact#[s,zs,rfl,h1,h2]
def zgH{es:List Ent}{i:Int}(hI:Iss K H (es.map dE) xs)(h0:0<=i)(hi:i<es.length):∃p s,atI xs i=tE (.ref p)/\es[i.toNat]? = tE (es.getD i.toNat ([],[],[]))/\SqT K H p [⇑(es.getD i.toNat ([],[],[])).1,⇑(es.getD i.toNat ([],[],[])).2.1,.ref s]/\Is K H (.lst ((es.getD i.toNat ([],[],[])).2.2.map dSt)) (.ref s):=by
 have hl:=hI.len;rw[aa]at hl;let#[v,a1,b1]:=Z3 (xs:=xs) (i:=i) h0 ⋯;let#[d,e,ix]:=hI.get b1;rw[ay]at e;let#[r,hr,rfl]:=tS.mp e;have e:es.getD i.toNat ([],[],[])=r:=by rw[ae,hr];rfl
 rw[e];let#[p,s,rfl,h2,h3]:=zc2 ix;exact#[p,s,a1,hr,h2,h3]
def YH(ss:List Stp)(z:Int):(mvL ss z).length=ss.length:=by simp [mvL]
def yg(ss:List Stp):(yh ss).length=ss.length:=by simp [yh]
def J0(K:pB):Sp:=λvs H Q Z=>∃(a t:pC) (es:List Ent) (us:List Stp),vs=[.ref a,.ref t]/\Is K H (.lst (es.map dE)) (.ref a)/\Is K H (.lst (us.map dSt)) (.ref t)/\us.length<=100/\(∀e ∈ es,e.2.2.length<=600)/\(∀u ∈ us,0<=u.1/\u.1<es.length)/\∀(D:pC) (H':Hp),H D=tF->Same H H'->LsA K H' D ((byL es us).map dSt)->Q (.ref D) H'
def lC:sQz 2 ["entries","steps","chain","step","own"] uF:=by nofun
def Xm(B:Bt mg)(F:("by_pacts"^^^uF))(oV:(1<<<"moved") ["steps","size"] [] (kP K))(mT:(1<<<"back") ["steps"] [] (qI K)):(2&&&["entries","steps"]) (J0 K):=by
 exists F.ok lC
 ·let#[a,t,es,us,rfl,hE,hU,hul,hel,hub,q]:=h
  refine#[_,(zg (zE 2 lC.nd (zX zd)) (zg (xh o9 rfl (ye (pv 1)) (zr (i:=3) lC.nd rfl (.inl rfl)) (zg (zE 4 lC.nd (zk v9 (zk ix_list (pv 0) (!-3)) ze)) (zh (ww (ut bE PySem.F.slot_list_extend PySem.F.type_list_extend V1 (pv 2) (za (cl0 oV hr .nil rfl (za (kD (yU (!-3) (λZ=>rfl)) (pv 4) (cl0 mT hr .nil rfl (za (pv 4) zd))) (za (!-3) zd))) zd)))))) (zh (zp (pv 2))))),?_]
  have s16:=yb;have hE':=hE;have hU':=hU
  erw[Is]at hE' hU'
  let#[_,xs,e,hX,hI]:=hE';cases e;let#[_,ts,e,hTs,hJ]:=hU';cases e;have htl:=hJ.len;rw[aa]at htl;change ∃D,H D=tF/\Same H H'/\H' D=tE (.lst [])/\σ=%[!!a,!!t,!!D|2]
  ·rfl'
   exact#[⋯,λp hp=>#[p,hp,zc hp,zb,rfl]]
  rintro σ H1 ⟨D,hD,s1,hD1,rfl⟩:0;change Same H H'/\LsA K H' D ((byL es us).map dSt)/\∃v3 v4,σ=[!!a,!!t,!!D,v3,v4]
  ·rfl'
   refine#[#[_,s1.seq hTs],ForL.by (xs:=ts) (λi σ H'=>Same H H'/\LsA K H' D ((byL es (us.take i)).map dSt)/\(byL es (us.take i)).length<=i * 600/\∃v3 v4,σ=[!!a,!!t,!!D,v3,v4]) #[s1,#[[],hD1,by erw[bi,byL,List.flatMap_nil,aA,Iss]],by simp [byL],_,_,rfl] (λi σ H' Z h=>h.1.seq hTs) ?_ ?_]
   ·refine nm4 ?_;rintro i x σ H' hx ⟨hs,hL,hl,v3,v4,rfl⟩:_;let#[u,pu,hui,rfl,hqu]:=vo hJ hx;have hil:=(tL.mp hui).1;let#[u0,u1]:=hub u (ag hui);let#[pe,se,g1,g2,g3,g4]:=zgH hI u0 u1;have hle:=hel _ (ag g2)
    have hby:byL es (us.take (i+1))=byL es (us.take i) ++ XX es u:=by
     unfold byL;rw[zP hui,dw];simp
    right
    erw[yW,bu,bt]
    refine zj (λσ H''=>H''=H'/\σ=[!!a,!!t,!!D,!!pu,!!se]) ?_ ?_
    ·rfl'
     exact#[_,zl hs hqu,_,rfl,_,rfl,_,hs.seq hX,_,g1,_,rfl,_,zl hs g3,rfl]
    rintro σ G ⟨rfl,rfl⟩:_;let#[zs,hZ,hZI]:=id hL;have hzl:=hZI.len;rw[aa]at hzl;have hse:=Is.same hs _ _ g4
    have fin:∀(ws:List Stp) (M:pC) (G2:Hp),XX es u=ws->ws.length<=600->Same G G2->LsA K G2 M (ws.map dSt)->VA (V.ref D) [V.ref M] G2 λx H1=>Same H H1/\LsA K H1 D ((byL es (us.take (i+1))).map dSt)/\(byL es (us.take (i+1))).length<=(i+1) * 600:=λws M G2 ew hwl sg hM=>by
     let#[ys,hY,hYI]:=hM;have hyl:=hYI.len;rw[aa]at hyl;have hZ2:=sg _ _ hZ;refine#[D,M,zs,ys,rfl,rfl,hZ2,hY,⋯,zH (hs.trans sg) hD,#[_,zb,?_],?_]
     ·rw[hby,ew,ar];exact jb2 (Iss.updL hZ2 _ _ (wq _) (ja1 sg _ _ hZI)) (Iss.updL hZ2 _ _ (wq _) hYI)
     ·rw[hby,ew,aq];lia
    right
    rfl'
    refine#[.inl #[_,x6 hZ],_,zl hs hqu,_,rfl,_,rfl,yC (λhf=>#[_,zl hs hqu,_,rfl,Yh hse ⋯ λM G2 Z sg hM=>fin _ M G2 (by unfold XX;rw[z6 hf]) (by rw[YH];lia) sg hM]) λhf=>Zs hse ⋯ λM0 G1 Z sg0 hM0=>#[_,zl (hs.trans sg0) hqu,_,rfl,Yh hM0.is (by rw[yg];lia) λM G2 Z sg hM=>fin _ M G2 (by unfold XX;rw[z9 hf]) (by rw[YH,yg];lia) (sg0.trans sg) hM]]
   ·refine nmB ?_;rintro σ H' ⟨hs,hL,hl,v3,v4,rfl⟩:_;rw[htl,aI]at hL;right;exact#[hs,hL,_,_,rfl]
  rintro σ H2 ⟨s2,hL2,v3,v4,rfl⟩:0
  rfl'
  exact q D H2 hD s2 hL2
def yc(rs:List zG):()->List Stp->Option (())
 | w,[]=>tE w
 | w,s::ss=>(yf rs w s).bind λw'=>yc rs w' ss
theorem xw(rs:List zG):∀(ss ts:List Stp) (w:()),yc rs w (ss ++ ts)=(yc rs w ss).bind λw'=>yc rs w' ts
 | [],ts,w=>rfl
 | s::ss,ts,w=>by
  erw[bw,yc]
  cases yf rs w s with
  | none=>rfl
  | some w1=>exact xw rs ss ts w1
def jC{w w':()}(h:yc rs w (s::ss)=tE w'):∃w1,yf rs w s=tE w1/\yc rs w1 ss=tE w':=by
 erw[yc]at h
 let#[w1,h1,h2]:=Aa.mp h;exact#[w1,h1,h2]
def Yf{w w1 w2:()}(h:yc rs w ss=tE w1)(h2:yf rs w1 s=tE w2):yc rs w (ss ++ [s])=tE w2:=by
 rw[xw,h]
 erw[yc,bW]
 rw[h2];rfl
def VO(s:Stp)(ss:List Stp):yh (s::ss)=yh ss ++ [bk s]:=by simp [yh]
theorem wg : ∀{ss:List Stp} {w w':()},yc rs w ss=tE w'->yc rs w' (yh ss)=tE w
 | [],w,w',h=>by cases h;rfl
 | s::ss,w,w',h=>by
  let#[w1,h1,h2]:=jC h;rw[VO];exact Yf (wg h2) (j2 h1)
theorem jb(a b:()):∀{ss:List Stp} {w w':()},yc rs w ss=tE w'->yc rs (a ++ w ++ b) (mvL ss (a.length:Int))=tE (a ++ w' ++ b)
 | [],w,w',h=>by cases h;rfl
 | s::ss,w,w',h=>by
  let#[w1,h1,h2]:=jC h;have e:mvL (s::ss) (a.length:Int)=(s.1,s.2.1+(a.length:Int),s.2.2)::mvL ss (a.length:Int):=rfl;rw[e]
  erw[yc]
  rw[uZ a b h1];exact jb a b h2
def EOk(rs:List zG)(e:Ent):Prop:=yc rs e.1 e.2.2=tE e.2.1
def zf(es:List Ent):List zG:=es.map λe=>(e.1,e.2.1)
theorem JM(hE:∀e ∈ es,EOk rs e){w w':()}(h:yf (zf es) w u=tE w'):yc rs w (XX es u)=tE w':=by
 have hb:0<=u.1/\u.1<(zf es).length:=bg λhb=>by rw[xD hb]at h;cases h
 rw[yL hb]at h;have hl:(zf es).length=es.length:=by unfold zf;rw[aa]
 rw[hl]at hb
 have hg:es[u.1.toNat]? = tE (es.getD u.1.toNat ([],[],[])):=by
  rw[ae,ah ⋯];rfl
 have hp:(zf es).getD u.1.toNat ([],[])=((es.getD u.1.toNat ([],[],[])).1,(es.getD u.1.toNat ([],[],[])).2.1):=by
  unfold zf;rw[ae,ay,hg];rfl
 rw[hp]at h;have he:=hE _ (ag hg);unfold XX;generalize es.getD u.1.toNat ([],[],[])=e at *
 have key:∀(o n:()) (ss:List Stp),sdl (e.1,e.2.1) u.2.2=(o,n)->yc rs o ss=tE n->yc rs w (mvL ss u.2.1)=tE w':=λo n ss hs hw=>by
  rw[hs]at h;by_cases hst:zt w u.2.1 o=tG
  ·rw[z6 hst]at h;cases h;let#[e1,e2,h0,h1]:=yZ hst;have:=jb (w.take u.2.1.toNat) (w.drop (u.2.1.toNat+o.length)) hw;rw[e1,e2,show ((u.2.1.toNat:Nat):Int)=u.2.1 by lia]at this;exact this
  ·rw[z9 hst]at h;cases h
 cases hf:u.2.2 with
 | true =>
  rw[z6 rfl];exact key e.1 e.2.1 e.2.2 (by rw[hf];rfl) he
 | false =>
  rw[z9 ∅];exact key e.2.1 e.1 (yh e.2.2) (by rw[hf];rfl) (wg he)
theorem ZL(hE:∀e ∈ es,EOk rs e):∀{us:List Stp} {w w':()},yc (zf es) w us=tE w'->yc rs w (byL es us)=tE w'
 | [],w,w',h=>by cases h;rfl
 | u::us,w,w',h=>by
  let#[w1,h1,h2]:=jC h;have e:byL es (u::us)=XX es u ++ byL es us:=by simp [byL]
  rw[e,xw,JM hE h1];exact ZL hE h2
def QA(ok:jV rs){w w':()}(h:yf rs w s=tE w'):w'.length<=w.length+100:=by
 have hb:0<=s.1/\s.1<rs.length:=bg λhb=>by rw[xD hb]at h;cases h
 rw[yL hb]at h;have g:=YS ok s.1.toNat;generalize rs.getD s.1.toNat ([],[])=r at *;by_cases hs:zt w s.2.1 (sdl r s.2.2).1=tG
 ·rw[z6 hs]at h;cases h;have:=Kh (n:=(sdl r s.2.2).2) hs
  have h2:(sdl r s.2.2).2.length<=100:=by
   cases s.2.2
   ·exact g.1
   ·exact g.2
  lia
 ·rw[z9 hs]at h;cases h
def jM(D:pC)(H:Hp):Hp:=λb=>if b=D then tF else H b
def w6{D b:pC}(h:b≠D):jM D H b=H b:=by unfold jM;rw[z9 h]
def jK{D:pC}:jM D H D=tF:=by unfold jM;rw[z6 rfl]
def wd{D:pC}:Same (jM D H) H:=λb o e=>by
 by_cases hb:b=D
 ·rw[hb,jK]at e;cases e
 ·rw[w6 hb]at e;exact e
def QW{D:pC}(hD:H D=tF)(s:Same H H'):Same H (jM D H'):=λb o e=>by
 have hb:b≠D:=λz=>by rw[z,hD]at e;cases e
 rw[w6 hb];exact s _ _ e
def xF{D:pC}(s:Same H H'):Same (jM D H) (jM D H'):=λb o e=>by
 by_cases hb:b=D
 ·rw[hb,jK]at e;cases e
 ·rw[w6 hb]at e ⊢;exact s _ _ e
def y0{D:pC}:Same (jM D H) (jM D (upd H D o)):=λb o' e=>by
 by_cases hb:b=D
 ·rw[hb,jK]at e;cases e
 ·rw[w6 hb]at e ⊢;rw[zm hb];exact e
def Qz{D a:pC}(hD:H D=tE (.lst ys))(h:SqT K H a xs):SqT K (jM D H) a xs:=by
 rcases h with (h | ⟨o,h⟩) | h
 ·exact .inl (.inl (by rw[w6 (λe=>by rw[e,hD]at h;cases h)];exact h))
 ·exact .inl (.inr #[o,by rw[w6 (λe=>by rw[e,hD]at h;cases h)];exact h])
 ·exact .inr h
theorem WL{D:pC}(hD:H D=tE (.lst ys)):∀(ss:List Stp) (vs:List V),Iss K H (ss.map dSt) vs->Iss K (jM D H) (ss.map dSt) vs
 | [],vs,h=>by erw[aA,Iss]at h ⊢;exact h
 | s::ss,vs,h=>by
  erw[ak,Iss]at h ⊢
  let#[v,r,rfl,h1,h2]:=h;let#[p,rfl,h3]:=KL h1;exact#[_,r,rfl,vE (Qz hD h3),WL hD ss r h2]
def zfT(h1:SqT K H p [⇑e.1,⇑e.2.1,.ref s])(h2:Is K H (.lst (e.2.2.map dSt)) (.ref s)):Is K H (dE e) (.ref p):=by
 erw[dE,Is,Iss]
 erw[Is]at h2
 exact#[p,_,rfl,h1,_,_,rfl,rfl,_,_,rfl,rfl,_,_,rfl,h2,rfl]
def WN{es:List Ent}{j:Nat}(h:Iss K H (es.map dE) vs)(q:vs[j]? = tE v):∃e p s,es[j]? = tE e/\v=.ref p/\SqT K H p [⇑e.1,⇑e.2.1,.ref s]/\Is K H (.lst (e.2.2.map dSt)) (.ref s):=by let#[d,e,i]:=h.get q;rw[ay]at e;let#[r,hr,rfl]:=tS.mp e;let#[p,s,e1,e2,e3]:=zc2 i;exact#[r,p,s,hr,e1,e2,e3]
def qK(h:Is K H d v):Iss K H [d] [v]:=by
 erw[Iss]
 exact#[v,[],rfl,h,rfl]
def EnA(K:pB)(H:Hp)(e:Ent)(v:V):Prop:=∃p s,v=.ref p/\SqT K H p [⇑e.1,⇑e.2.1,.ref s]/\LsA K H s (e.2.2.map dSt)
def EnsA(K:pB)(H:Hp):List Ent->List V->Prop
 | [],vs=>vs=[]
 | e::es,vs=>∃v r,vs=v::r/\EnA K H e v/\EnsA K H es r
def EnsL(K:pB)(H:Hp)(a:pC)(es:List Ent):Prop:=∃xs,SqL K H a xs/\EnsA K H es xs
def EnsM(K:pB)(H:Hp)(a:pC)(es:List Ent):Prop:=∃xs,H a=tE (.lst xs)/\EnsA K H es xs
def EnA.is(h:EnA K H e v):Is K H (dE e) v:=by let#[p,s,rfl,h1,h2]:=h;exact zfT h1 h2.is
def EnA.same{H H':Hp}{e:Ent}{v:V}(h:EnA K H e v)(q:Same H H'):EnA K H' e v:=by let#[p,s,e0,h1,h2]:=h;exact#[p,s,e0,zl q h1,h2.same q]
theorem EnsA.iss : ∀{es:List Ent} {vs:List V},EnsA K H es vs->Iss K H (es.map dE) vs
 | [],vs,h=>by erw[EnsA]at h;erw[aA,Iss];exact h
 | e::es,vs,h=>by
  erw[EnsA]at h
  let#[v,r,rfl,h1,h2]:=h
  erw[ak,Iss]
  exact#[v,r,rfl,h1.is,h2.iss]
def EnsA.len(h:EnsA K H es vs):vs.length=es.length:=by have:=h.iss.len;rw[aa]at this;exact this
theorem EnsA.same{H H':Hp}(q:Same H H'):∀{es:List Ent} {vs:List V},EnsA K H es vs->EnsA K H' es vs
 | [],vs,h=>by erw[EnsA]at h ⊢;exact h
 | e::es,vs,h=>by
  erw[EnsA]at h ⊢
  let#[v,r,e0,h1,h2]:=h;exact#[v,r,e0,h1.same q,h2.same q]
theorem EnsA.snoc(hv:EnA K H e v):∀{es:List Ent} {vs:List V},EnsA K H es vs->EnsA K H (es ++ [e]) (vs ++ [v])
 | [],vs,h=>by
  erw[EnsA]at h
  subst h
  erw[bz,EnsA]
  exact#[v,[],rfl,hv,rfl]
 | e'::es,vs,h=>by
  erw[EnsA]at h
  let#[x,r,rfl,hx,hr]:=h
  erw[bw,EnsA]
  exact#[x,r ++ [v],rfl,hx,hr.snoc hv]
theorem EnsA.get : ∀{es:List Ent} {vs:List V} {j:Nat} {v:V},EnsA K H es vs->vs[j]? = tE v->∃e p s,es[j]? = tE e/\v=.ref p/\SqT K H p [⇑e.1,⇑e.2.1,.ref s]/\LsA K H s (e.2.2.map dSt)
 | [],vs,j,v,h,q=>by
  erw[EnsA]at h
  subst h;simp at q
 | e::es,vs,0,v,h,q=>by
  erw[EnsA]at h
  let#[x,r,rfl,#[p,s,rfl,h1,h2],_]:=h;cases q;exact#[e,p,s,rfl,rfl,h1,h2]
 | e::es,vs,j+1,v,h,q=>by
  erw[EnsA]at h
  let#[x,r,rfl,_,hr]:=h;exact hr.get (j:=j) ↥q
def EnsL.is(h:EnsL K H a es):Is K H (.lst (es.map dE)) (.ref a):=by
 let#[xs,h1,h2]:=h
 erw[Is]
 exact#[a,xs,rfl,h1,h2.iss]
def EnsL.same{H H':Hp}{a:pC}{es:List Ent}(h:EnsL K H a es)(q:Same H H'):EnsL K H' a es:=by let#[xs,h1,h2]:=h;exact#[xs,q.seq h1,h2.same q]
def EnsM.l(h:EnsM K H a es):EnsL K H a es:=by let#[xs,h1,h2]:=h;exact#[xs,x6 h1,h2]
def EnsM.same{H H':Hp}{a:pC}{es:List Ent}(h:EnsM K H a es)(q:Same H H'):EnsM K H' a es:=by let#[xs,h1,h2]:=h;exact#[xs,q _ _ h1,h2.same q]
def EnA.new{D p s:pC}{H:Hp}{e:Ent}{ys:List V}(hD:H D=tE (.lst ys))(hp:H p=tE (.tup [⇑e.1,⇑e.2.1,.ref s]))(hs:LsA K H s (e.2.2.map dSt))(hsD:s≠D):EnA K (jM D H) e (.ref p):=by
 let#[zs,hz,hi]:=hs;have hpD:p≠D:=λz=>by rw[z,hD]at hp;cases hp
 exact#[p,s,rfl,x8 (by rw[w6 hpD];exact hp),zs,by rw[w6 hsD];exact hz,WL hD _ _ hi]
def yD(es:List Ent):(zf es).length=es.length:=by unfold zf;rw[aa]
def vn(K:pB):Sp:=λvs H Q Z=>∃(a:pC) (es:List Ent),vs=[.ref a]/\Is K H (.lst (es.map dE)) (.ref a)/\es.length<=1000/\∀(D:pC) (H':Hp),H D=tF->Same H H'->LsA K H' D ((zf es).map dR)->Q (.ref D) H'
def wP(h1:Is K H (.lst (es.map dE)) (.ref a))(h2:es.length<=1000)(h:∀(D:pC) (H':Hp),H D=tF->Same H H'->LsA K H' D ((zf es).map dR)->Q (.ref D) H'):vn K [.ref a] H Q E:=#[a,es,rfl,h1,h2,h]
def Xb:sQz 1 ["entries"] vm:=by nofun
def Y1(B:Bt mg)(F:("pairs_of"^^^vm)):(1&&&["entries"]) (vn K):=by
 exists F.ok Xb
 ·let#[a,es,rfl,hA,hl,q]:=h;refine#[_,(zh (zp (xf (own:=["entry"]) (caps:=[]) (ix:=[]) (tt:=xy) (te:=(Zo (zI (tOp (xO K) (z7 0) (tC (.int 0))) (zI (tOp (xO K) (z7 0) (tC (.int 1))) xp)))) rfl (zM (sc:=zi vm) rfl (!0) (!0) (!0) rfl (!0) (!0) rfl) (ye (pv 0)) (λZ Z Z Z Z Z=>zr (i:=0) (show List.Nodup [_] by decide) rfl (.inl rfl)) (λZ Z Z Z Z Z=>zY) (λZ Z Z Z Z Z=>(zy (za (!-0) (za (!-0) zd))))))),?_];have s16:=yb
  rfl'
  erw[Is]at hA
  let#[_,xs,e,hX,hI]:=hA;cases e;have hxl:=hI.len;rw[aa]at hxl;have hpl:=yD es;refine#[#[xs,hX],λD hD=>ja2 (xs:=xs) (λi tK H'=>Same H H'/\H' D=tE (.lst tK)/\Iss K H' (((zf es).take i).map dR) tK) #[zc hD,zb,by erw[bi,aA,Iss]] (λi tK H' Z h=>h.1.seq hX) ?_ ?_]
  ·refine nm4 ?_;rintro i x tK H' hx ⟨hs,hH,hA⟩:_;have hi:=(tL.mp hx).1;let#[e,pe,se,hei,rfl,hqe,_]:=WN hI hx;have hm:(zf es)[i]? = tE (e.1,e.2.1):=by unfold zf;rw[ay,hei];rfl
   have hal:=hA.len;rw[aa,aF]at hal;right
   erw[xy]
   rfl'
   refine#[yJ,_,zl hs hqe,_,rfl,_,zl hs hqe,_,rfl,⋯,λp hp=>#[zc hp _ _ hH,⋯,x9 hi #[zH (hs.trans (zc hp)) hD,zb,?_]]];rw[zP hm,ar];exact Zn hH hA hp zdN (qA _) (by erw[z8,xv,and_self])
  ·refine nmB ?_;rintro tK H' ⟨hs,hH,hA⟩:_;rw[hxl,<- hpl,aI]at hA;right;exact q D H' hD hs #[tK,hH,hA]
def zQ(k:Nat)(l:())(ns:List Int)(e:Ent):Ent:=if zJ k l ns e.2.1 e.1=tG then e else (e.2.1,e.1,yh e.2.2)
structure EB(l:())(e:Ent):Prop where
 a:e.1.length<=60
 b:e.2.1.length<=60
 s:e.2.2.length<=600
 ma:∀c ∈ e.1,c ∈ l
 mb:∀c ∈ e.2.1,c ∈ l
def EB.rule(h:EB l e):EB l (zQ k l ns e):=by
 unfold zQ;split
 ·exact h
 ·exact#[h.b,h.a,by rw[yg];exact h.s,h.mb,h.ma]
def vb(K:pB)(CO CR CW:pC):Sp:=λvs H Q Z=>∃(o p s:pC) (k:Nat) (l:()) (ns:List Int) (e:Ent),vs=[.ref o,.ref p]/\OrdAt CO CR CW H o k l ns/\OG l ns k/\SqT K H p [⇑e.1,⇑e.2.1,.ref s]/\Is K H (.lst (e.2.2.map dSt)) (.ref s)/\EB l e /\
 (zQ k l ns e=e->∀H',Same H H'->Q (.ref p) H') /\
 (∀(p' s':pC) (H':Hp),Same H H'->H s'=tF->H' p'=tE (.tup [⇑(zQ k l ns e).1,⇑(zQ k l ns e).2.1,.ref s'])->LsA K H' s' ((zQ k l ns e).2.2.map dSt)->Q (.ref p') H')
def j9{CO CR CW o p s:pC}(h1:OrdAt CO CR CW H o k l ns)(h2:OG l ns k)(h3:SqT K H p [⇑e.1,⇑e.2.1,.ref s])(h4:Is K H (.lst (e.2.2.map dSt)) (.ref s))(h5:EB l e)(h6:zQ k l ns e=e->∀H',Same H H'->Q (.ref p) H')(h7:∀(p' s':pC) (H':Hp),Same H H'->H s'=tF->H' p'=tE (.tup [⇑(zQ k l ns e).1,⇑(zQ k l ns e).2.1,.ref s'])->LsA K H' s' ((zQ k l ns e).2.2.map dSt)->Q (.ref p') H'):vb K CO CR CW [.ref o,.ref p] H Q E :=
 #[o,p,s,k,l,ns,e,rfl,h1,h2,h3,h4,h5,h6,h7]
def W6:sQz 2 ["order","entry"] jm:=by nofun
def W9{f CO CR CW:pC}(B:Bt mg)(DBk:DB P w K mg base CO CR CW)(F:("as_rule"^^^jm))(mT:(1<<<"back") ["steps"] [] (qI K)):(4&&&["order","entry"]) (vb K CO CR CW):=by
 exists F.ok W6
 ·let#[o,p,s,k,l,ns,e,rfl,ho,hG,hp,hs,hE,q1,q2]:=h
  refine#[_,(zZ (zS (yU (zcx DBk hr (pv 0) (za (!-1) (za (!-1) zd))) (λZ=>rfl)) (zh (zp (pv 1)))
    zv) (zh (zp (zy (za (!-1) (za (!-1) (za (cl0 mT hr .nil rfl (za (!-1) zd)) zd))))))),?_]
  have s16:=yb;ac_rfl;let#[C,dx,fs,hf,ho1,hn,_]:=ho.fam;have h1:fs.lookup ("before" : pG)=tF:=hn _ ∅ ∅;refine#[C,hf,dx,fs,ho1,h1,_,hp,_,rfl,_,hp,_,rfl,o,k,l,ns,e.2.1,e.1,rfl,ho,hG,by have:=hE.b;lia,by have:=hE.a;lia,hE.mb,hE.ma,λH1 s1=>#[_,rfl,yC (λh=>?_) λh=>?_]]
  ·exact q1 (by unfold zQ;rw[z6 h]) H1 s1
  ·have er:zQ k l ns e=(e.2.1,e.1,yh e.2.2):=by unfold zQ;rw[z9 h]
   rw[er]at q2;have hp1:=zl s1 hp;refine#[_,hp1,_,rfl,_,hp1,_,rfl,_,hp1,_,rfl,Zs (Is.same s1 _ _ hs) (by have:=hE.s;lia) λD H2 hD s2 hL=>#[⋯,λt ht=>?_]];exact q2 t D _ (s1.trans (s2.trans (zc ht))) (s1.free hD) zb (hL.same (zc ht))
def XA{w:()}(hb:∀n ∈ ns,1<=n/\n<=1000000):0<=jJ l ns w:=by
 unfold jJ
 have key:∀xs:List Int,(∀x ∈ xs,0<=x)->0<=xs.sum:=by
  intro xs
  induction xs with
  | nil=>intro _;simp
  | cons x xs ih =>
   intro h;rw[aX];have h1:=h x az;have h2:=ih λy hy=>h y (av _ hy);lia
 refine key _ λx hx=>?_;let#[p,hp,rfl]:=tM.mp hx;have h1:=(hb p.2 (cS (show (p.1,p.2) ∈ l.zip ns from hp)).2).1;exact Int.mul_nonneg ⋯ ⋯
def VC(hb:∀n ∈ ns,1<=n/\n<=1000000)(h:zJ k l ns u v=tG):v≠[]:=by
 intro e;subst e
 have h0:zu k l ns []=0:=by
  unfold zu;split
  ·unfold jJ
   have z:∀xs:List (Nat × Int),(xs.map λp=>(([]:()).count p.1:Int) * p.2).sum=0:=by
    intro xs
    induction xs with
    | nil=>rfl
    | cons x xs ih=>rw[ak,aX,ih];simp
   exact z _
  ·rfl
 have h1:0<=zu k l ns u:=by
  unfold zu;split
  ·exact XA hb
  ·lia
 have h2:wV k l []=[]:=by
  unfold wV xu;split <;> rfl
 unfold zJ at h;rw[h0,h2]at h;split at h
 ·cases hr:wV k l u with
  | nil=>rw[hr]at h;cases h
  | cons a r=>rw[hr]at h;cases h
 ·have:=y3 h;lia
def qV(hE:EB l e)(hne:e.1≠e.2.1):zJ k l ns (zQ k l ns e).2.1 (zQ k l ns e).1=tG:=by
 unfold zQ;by_cases h:zJ k l ns e.2.1 e.1=tG
 ·rw[z6 h];exact h
 ·rw[z9 h];have:=qZ (k:=k) (ns:=ns) hE.ma hE.mb hne;show zJ k l ns e.1 e.2.1=tG;rw[this];simpa using h
def vS(k:Nat)(l:())(ns:List Int)(es:List Ent):List Ent:=(es.filter λe=>!decide (e.1=e.2.1)).map (zQ k l ns)
def zbw(k:Nat)(l:())(ns:List Int)(es fs:List Ent):vS k l ns (es ++ fs)=vS k l ns es ++ vS k l ns fs:=by unfold vS;rw[cU,ar]
def Xj(k:Nat)(l:())(ns:List Int)(es:List Ent):(vS k l ns es).length<=es.length:=by unfold vS;rw[aa];exact dc _ _
def kH(k:Nat)(l:())(ns:List Int)(a b:Ent):Bool:=if a.1=b.1 then zJ k l ns a.2.1 b.2.1 else zJ k l ns a.1 b.1
structure Lined(k:Nat)(l:())(ns:List Int)(es zs:List Ent):Prop where
 perm:zs.Perm (vS k l ns es)
 srt:zs.Pairwise λa b=>kH k l ns b a=tH
 is:zs=L3.srt (kH k l ns) ([],[],[]) (vS k l ns es)
structure zU(ps:List zG)(w:())(i:Nat):Prop where
 live:Wc ps w i
 end_:zA (wAt ps w i) ps=tF
 most:i<=40
def zbD(ps:List zG)(w:()):(∃i,zU ps w i)\/(Wc ps w 40/\zA (wAt ps w 40) ps≠tF):=by
 have key:∀n,n<=41->(∃i,zU ps w i)\/Wc ps w n:=by
  intro n
  induction n with
  | zero=>intro _;exact .inr λi h=>y9 h (bR i)
  | succ n ih =>
   intro hn;rcases ih ⋯ with h | h
   ·exact .inl h
   ·cases e:zA (wAt ps w n) ps with
    | none=>exact .inl #[n,h,e,⋯]
    | some u =>
     refine .inr λi hi=>?_;by_cases hin:i=n
     ·rw[hin,e];intro z;cases z
     ·exact h i ⋯
 rcases key 41 (am _)with h | h
 ·exact .inl h
 ·exact .inr #[λi hi=>h i ⋯,h 40 ∅]
def stS(us:List (Nat × Nat)):List Stp:=us.map λu=>((u.1:Int),(u.2:Int),tG)
def yo(bs:List Ent)(e:Ent)(i j:Nat):Ent:=(wAt (zf bs) e.1 i,wAt (zf bs) e.2.1 j,byL bs (yh (stS (sAt (zf bs) e.1 i))) ++ e.2.2 ++ byL bs (stS (sAt (zf bs) e.2.1 j)))
def uY(e:Ent):Prop:=240<e.2.2.length\/60<e.1.length\/60<e.2.1.length
inductive xq(k:Nat)(l:())(ns:List Int):List Ent->List Ent->Option (List Ent)->Prop where
 | nil (bs:List Ent):xq k l ns bs [] (tE bs)
 | same {bs es:List Ent} {e:Ent} {i j:Nat} {r:Option (List Ent)} (h1:zU (zf bs) e.1 i) (h2:zU (zf bs) e.2.1 j) (h3:wAt (zf bs) e.1 i=wAt (zf bs) e.2.1 j) (h4:xq k l ns bs es r):xq k l ns bs (e::es) r
 | new {bs es:List Ent} {e:Ent} {i j:Nat} {r:Option (List Ent)} (h1:zU (zf bs) e.1 i) (h2:zU (zf bs) e.2.1 j) (h3:wAt (zf bs) e.1 i≠wAt (zf bs) e.2.1 j) (h4:¬ uY (yo bs e i j)) (h5:xq k l ns (bs ++ [zQ k l ns (yo bs e i j)]) es r):xq k l ns bs (e::es) r
 | far {bs es:List Ent} {e:Ent} {i j:Nat} (h1:zU (zf bs) e.1 i) (h2:zU (zf bs) e.2.1 j) (h3:wAt (zf bs) e.1 i≠wAt (zf bs) e.2.1 j) (h4:uY (yo bs e i j)):xq k l ns bs (e::es) tF
 | stuck {bs es:List Ent} {e:Ent} (h:(∀i,¬ zU (zf bs) e.1 i)\/(∀j,¬ zU (zf bs) e.2.1 j)):xq k l ns bs (e::es) tF
inductive wH(k:Nat)(l:())(ns:List Int):Nat->List Ent->Option (List Ent)->Prop where
 | out (es:List Ent):wH k l ns 0 es tF
 | bad {n:Nat} {es zs:List Ent} (h1:Lined k l ns es zs) (h2:xq k l ns [] zs tF):wH k l ns (n+1) es tF
 | done {n:Nat} {es zs bs:List Ent} (h1:Lined k l ns es zs) (h2:xq k l ns [] zs (tE bs)) (h3:zf bs=zf zs):wH k l ns (n+1) es (tE bs)
 | more {n:Nat} {es zs bs:List Ent} {r:Option (List Ent)} (h1:Lined k l ns es zs) (h2:xq k l ns [] zs (tE bs)) (h3:zf bs≠zf zs) (h4:wH k l ns n bs r):wH k l ns (n+1) es r
def xb{w:()}(h:zA w ps=tE u):∃p,ps[u.1]? = tE p/\zt w (u.2:Int) p.1=tG:=by have hm:u ∈ xl w ps w.length:=List.mem_of_mem_head? (by unfold zA at h;rw[h];rfl);exact (vF (usesK_mem.mp hm).2).2
theorem uz{l w:()}(hw:∀c ∈ w,c ∈ l)(hp:∀p ∈ ps,∀c ∈ p.2,c ∈ l):∀j,∀c ∈ wAt ps w j,c ∈ l
 | 0=>hw
 | j+1=>by
  have ih:=uz hw hp j
  cases e:zA (wAt ps w j) ps with
  | none =>
   show ∀c ∈ Yj ps (wAt ps w j),c ∈ l;unfold Yj;rw[e];exact ih
  | some u =>
   let#[p,h1,h2]:=xb e;rw[wx e];unfold uO yM;rw[wo h1];intro c hc;rcases tO.mp hc with hc | hc
   ·rcases tO.mp hc with hc | hc
    ·exact ih c (bQ hc)
    ·exact hp p (ag h1) c hc
   ·exact ih c (dj hc)
structure zew(R:()->()->Prop):Prop where
 refl:∀u,R u u
 symm:∀{u v},R u v->R v u
 trans:∀{u v w},R u v->R v w->R u w
 ctx:∀{u v} (a b:()),R u v->R (a ++ u ++ b) (a ++ v ++ b)
def Vp(R:()->()->Prop)(es:List Ent):Prop:=∀e ∈ es,R e.1 e.2.1
theorem za8(hR:zew R)(hk:∀p ∈ ps,R p.1 p.2)(w:()):∀j,R w (wAt ps w j)
 | 0=>hR.refl w
 | j+1=>by
  have ih:=za8 hR hk w j
  cases e:zA (wAt ps w j) ps with
  | none =>
   show R w (Yj ps (wAt ps w j));unfold Yj;rw[e];exact ih
  | some u =>
   let#[p,h1,h2]:=xb e;rw[wx e];refine hR.trans ih ?_;let#[e1,_]:=yZ h2;unfold uO yM;rw[wo h1];have:=hR.ctx ((wAt ps w j).take ((u.2:Int)).toNat) ((wAt ps w j).drop (((u.2:Int)).toNat+p.1.length)) (hk p (ag h1));rw[e1]at this;exact this
def jr(h:Vp R bs):∀p ∈ zf bs,R p.1 p.2:=λp hp=>by
 unfold zf at hp;let#[e,he,rfl]:=tM.mp hp;exact h e he
def kh(hR:zew R):R (zQ k l ns e).1 (zQ k l ns e).2.1 ↔ R e.1 e.2.1:=by
 unfold zQ;split
 ·exact Iff.rfl
 ·exact#[hR.symm,hR.symm]
def VV(hR:zew R){e:Ent}(h:Vp R bs):R (wAt (zf bs) e.1 i) (wAt (zf bs) e.2.1 j) ↔ R e.1 e.2.1:=by have h1:=za8 hR (jr h) e.1 i;have h2:=za8 hR (jr h) e.2.1 j;exact#[λx=>hR.trans h1 (hR.trans x (hR.symm h2)),λx=>hR.trans (hR.symm h1) (hR.trans x h2)]
theorem zfH(hR:zew R)(h:xq k l ns bs es r):∀fs,r=tE fs->(Vp R fs ↔ Vp R bs/\Vp R es):=by
 induction h with
 | nil bs =>
  intro fs e;cases e;exact#[λh=>#[h,λe he=>(nomatch he)],λh=>h.1]
 | @same bs es e i j r h1 h2 h3 h4 ih =>
  intro fs er;rw[ih fs er];refine#[λ⟨a,b⟩=>#[a,λx hx=>?_],λ⟨a,b⟩=>#[a,λx hx=>b x (av _ hx)]];rcases tN.mp hx with rfl | hx
  ·refine (VV hR a (i:=i) (j:=j)).mp ?_;rw[h3];exact hR.refl _
  ·exact b x hx
 | @new bs es e i j r h1 h2 h3 h4 h5 ih =>
  intro fs er;rw[ih fs er];constructor
  ·rintro⟨a,b⟩;have a':Vp R bs:=λx hx=>a x (bF _ hx);refine#[a',λx hx=>?_];rcases tN.mp hx with rfl | hx
   ·have:=a _ (aC bs (tP.mpr rfl));exact (VV hR a' (i:=i) (j:=j)).mp ((kh hR).mp this)
   ·exact b x hx
  ·rintro⟨a,b⟩;refine#[λx hx=>?_,λx hx=>b x (av _ hx)];rcases tO.mp hx with hx | hx
   ·exact a x hx
   ·rw[tP.mp hx];exact (kh hR).mpr ((VV hR a (i:=i) (j:=j)).mpr (b e az))
 | far=>intro fs e;cases e
 | stuck=>intro fs e;cases e
def Within(p w:()):Prop:=∃a b:(),w=a ++ p ++ b
def UT{w p:()}(h:Within p w):∃q:Nat,zt w (q:Int) p=tG:=by let#[a,b,rfl]:=h;refine#[a.length,?_];unfold zt;refine y4 #[⋯,by erw[aq];lia,?_];rw[aR,aU,List.drop_left,List.take_left]
def V6{w:()}(hN:NeL ps)(h:zA w ps=tF):∀p ∈ ps,¬ Within p.1 w:=λp hp hw=>by
 let#[q,hq]:=UT hw;let#[j,hj]:=Ab.mp hp;have hlt:=qG (hN p hp) hq;have hs:stJ w ps q j=tG:=by rw[kj hj];exact hq
 have:(j,q) ∈ xl w ps w.length:=usesK_mem.mpr #[hlt,hs];unfold zA at h;rw[List.head?_eq_none_iff]at h;rw[h]at this;cases this
structure RL(k:Nat)(l:())(ns:List Int)(bs:List Ent):Prop where
 e:∀e ∈ bs,EB l e
 lt:∀e ∈ bs,zJ k l ns e.2.1 e.1=tG
def JV{w:()}(G:OG l ns k)(hp:∀p ∈ ps,zJ k l ns p.2 p.1=tG/\(∀c ∈ p.1,c ∈ l)/\∀c ∈ p.2,c ∈ l)(hw:∀c ∈ w,c ∈ l)(h:zA w ps=tE u):zJ k l ns (uO w ps u) w=tG:=by let#[p,h1,h2]:=xb h;let#[e1,_]:=yZ h2;let#[p1,p2,p3]:=hp p (ag h1);unfold uO yM;rw[wo h1];have ha:∀c ∈ w.take ((u.2:Int)).toNat,c ∈ l:=λc hc=>hw c (bQ hc);have hb:∀c ∈ w.drop (((u.2:Int)).toNat+p.1.length),c ∈ l:=λc hc=>hw c (dj hc);generalize w.take ((u.2:Int)).toNat=a at *;generalize w.drop (((u.2:Int)).toNat+p.1.length)=b at *;rw[<- e1];have ap:∀x:(),(∀c ∈ x,c ∈ l)->∀c ∈ a ++ x,c ∈ l:=λx hx c hc=>(tO.mp hc).elim (ha c) (hx c);rw[(ZV G hb (ap p.2 p3) (ap p.1 p2)).2,(ZV G ha p3 p2).1];exact p1
theorem KP{w:()}(G:OG l ns k)(hp:∀p ∈ ps,zJ k l ns p.2 p.1=tG/\(∀c ∈ p.1,c ∈ l)/\∀c ∈ p.2,c ∈ l)(hw:∀c ∈ w,c ∈ l):∀j,wAt ps w j=w\/zJ k l ns (wAt ps w j) w=tG
 | 0=>.inl rfl
 | j+1=>by
  have ih:=KP G hp hw j;have hm:=uz hw (λp hp'=>(hp p hp').2.2) j
  cases e:zA (wAt ps w j) ps with
  | none =>
   show Yj ps (wAt ps w j)=w\/zJ k l ns (Yj ps (wAt ps w j)) w=tG;unfold Yj;rw[e];exact ih
  | some u =>
   rw[wx e];have h:=JV G hp hm e;rcases ih with h' | h'
   ·rw[h']at h ⊢;exact .inr h
   ·exact .inr (jf h h')
def RL.pairs(h:RL k l ns bs):∀p ∈ zf bs,zJ k l ns p.2 p.1=tG/\(∀c ∈ p.1,c ∈ l)/\∀c ∈ p.2,c ∈ l:=λp hp=>by
 unfold zf at hp;let#[e,he,rfl]:=tM.mp hp;exact#[h.lt e he,(h.e e he).ma,(h.e e he).mb]
def RL.ne(h:RL k l ns bs)(G:OG l ns k):NeL (zf bs):=λp hp=>VC G.nb (h.pairs p hp).1
def RL.snoc(h:RL k l ns bs)(hd:EB l d)(hne:d.1≠d.2.1):RL k l ns (bs ++ [zQ k l ns d]):=by
 refine#[λe he=>?_,λe he=>?_]
 ·rcases tO.mp he with he | he
  ·exact h.e e he
  ·rw[tP.mp he];exact hd.rule
 ·rcases tO.mp he with he | he
  ·exact h.lt e he
  ·rw[tP.mp he];exact qV hd hne
def zaN(hB:RL k l ns bs)(hE:EB l e)(hF:¬ uY (yo bs e i j)):EB l (yo bs e i j):=by unfold uY at hF;exact#[⋯,⋯,⋯,uz hE.ma (λp hp=>(hB.pairs p hp).2.2) i,uz hE.mb (λp hp=>(hB.pairs p hp).2.2) j]
def WY(G:OG l ns k)(hB:RL k l ns bs)(hE:EB l e)(hlt:zJ k l ns e.2.1 e.1=tG)(h1:zU (zf bs) e.1 i)(h2:zU (zf bs) e.2.1 j)(hp1:(zQ k l ns (yo bs e i j)).1=e.1)(hp2:(zQ k l ns (yo bs e i j)).2.1=e.2.1):zA e.1 (zf bs)=tF/\zA e.2.1 (zf bs)=tF:=by
 unfold zQ at hp1 hp2;by_cases h:zJ k l ns (yo bs e i j).2.1 (yo bs e i j).1=tG
 ·rw[z6 h]at hp1 hp2;have a1:wAt (zf bs) e.1 i=e.1:=hp1;have a2:wAt (zf bs) e.2.1 j=e.2.1:=hp2;have b1:=h1.end_;have b2:=h2.end_;rw[a1]at b1;rw[a2]at b2;exact#[b1,b2]
 ·rw[z9 h]at hp1 hp2;have a1:wAt (zf bs) e.2.1 j=e.1:=hp1;rcases KP G hB.pairs hE.mb j with h' | h'
  ·rw[a1]at h';rw[h',xS]at hlt;cases hlt
  ·rw[a1]at h';rw[Xu h']at hlt;cases hlt
theorem jY(G:OG l ns k)(h:xq k l ns bs es r):∀fs,r=tE fs->RL k l ns bs->RL k l ns es->∃gs,fs=bs ++ gs/\gs.length<=es.length/\RL k l ns fs /\
  (zf gs=zf es->∀i e,es[i]? = tE e->zA e.1 (zf (bs ++ gs.take i))=tF/\zA e.2.1 (zf (bs ++ gs.take i))=tF):=by
 induction h with
 | nil bs =>
  intro fs er hb he;cases er;exact#[[],by simp,am _,hb,λZ i e h=>by simp at h]
 | @same bs es e i j r h1 h2 h3 h4 ih =>
  intro fs er hb he;let#[gs,g1,g2,g3,g4]:=ih fs er hb #[λx hx=>he.e x (av _ hx),λx hx=>he.lt x (av _ hx)];refine#[gs,g1,by rw[aJ];lia,g3,λhp=>?_];have:=congrArg dU hp;unfold zf at this;rw[aa,aa,aJ]at this;lia
 | @new bs es e i j r h1 h2 h3 h4 h5 ih =>
  intro fs er hb he;have hEe:=he.e e az;have hd:=zaN hb hEe h4;let#[gs,g1,g2,g3,g4]:=ih fs er (hb.snoc hd h3) #[λx hx=>he.e x (av _ hx),λx hx=>he.lt x (av _ hx)];refine#[zQ k l ns (yo bs e i j)::gs,by rw[g1,aU];rfl,by rw[aJ,aJ];lia,g3,λhp n x hx=>?_];unfold zf at hp;rw[ak,ak]at hp;injection hp with hp1 hp2;have hp1a:=(Prod.ext_iff.mp hp1).1;have hp1b:=(Prod.ext_iff.mp hp1).2
  cases n with
  | zero =>
   have e0:e=x:=by simpa using hx
   subst e0;rw[bi,aV];exact WY G hb hEe (he.lt _ az) h1 h2 hp1a hp1b
  | succ n =>
   have:=g4 hp2 n x ↥hx;rw[aU]at this;rw[dq];exact this
 | far=>intro fs e;cases e
 | stuck=>intro fs e;cases e
def uR(G:OG l ns k){p w:()}(hw:∀c ∈ w,c ∈ l)(h:Within p w):p=w\/zJ k l ns p w=tG:=by
 let#[a,b,rfl]:=h;by_cases e:a ++ p ++ b=p
 ·exact .inl e.symm
 ·refine .inr (Kr G (λc hc=>hw c ?_) (λc hc=>hw c ?_) (λc hc=>hw c ?_) e).1
  ·exact bF _ (bF _ hc)
  ·exact bF _ (aC _ hc)
  ·exact aC _ hc
structure ThinL(k:Nat)(l:())(ns:List Int)(zs:List Ent):Prop where
 rl:RL k l ns zs
 up:∀(i j:Nat) (a b:Ent),zs[i]? = tE a->zs[j]? = tE b->i<j->zJ k l ns a.1 b.1=tG
 no1:∀(i j:Nat) (a b:Ent),zs[i]? = tE a->zs[j]? = tE b->i≠j->¬ Within b.1 a.1
 no2:∀(i j:Nat) (a b:Ent),zs[i]? = tE a->zs[j]? = tE b->¬ Within b.1 a.2.1
def zcf(G:OG l ns k)(hz:RL k l ns zs)(hs:zs.Pairwise λa b=>kH k l ns b a=tH)(h:xq k l ns [] zs (tE bs))(hp:zf bs=zf zs):ThinL k l ns zs:=by
 let#[gs,g1,g2,g3,g4]:=jY G h bs rfl #[λe he=>(nomatch he),λe he=>(nomatch he)] hz;rw[bz]at g1;subst g1;have irr:=g4 hp
 erw[bz]at irr
 have early:∀(i j:Nat) (a b:Ent),zs[i]? = tE a->zs[j]? = tE b->j<i->¬ Within b.1 a.1/\¬ Within b.1 a.2.1:=λi j a b ha hb hj=>by
  have hm:(b.1,b.2.1) ∈ zf (bs.take i):=by
   have e1:zf (bs.take i)=(zf zs).take i:=by
    rw[<- hp];unfold zf;rw[eO]
   rw[e1];refine Ab.mpr #[j,?_];rw[dH hj];unfold zf;rw[ay,hb];rfl
  have hN:NeL (zf (bs.take i)):=λp hp'=>by
   refine (g3.ne G) p ?_;unfold zf at hp' ⊢;let#[x,hx,rfl]:=tM.mp hp';exact tM.mpr #[x,bQ hx,rfl]
  let#[f1,f2]:=irr i a ha;exact#[V6 hN f1 _ hm,V6 hN f2 _ hm]
 have later:∀(i j:Nat) (a b:Ent),zs[i]? = tE a->zs[j]? = tE b->i<j->zJ k l ns b.1 a.1=tH:=λi j a b ha hb hij=>by
  have hi:=(tL.mp ha);have hj:=(tL.mp hb);have:=List.pairwise_iff_getElem.mp hs i j hi.1 hj.1 hij;rw[hi.2,hj.2]at this;unfold kH at this;by_cases e:b.1=a.1
  ·rw[e,xS]
  ·rw[z9 e]at this;exact this
 have memz:∀{i:Nat} {a:Ent},zs[i]? = tE a->EB l a/\zJ k l ns a.2.1 a.1=tG:=λ{i a} ha=>#[hz.e _ (ag ha),hz.lt _ (ag ha)]
 have up:∀(i j:Nat) (a b:Ent),zs[i]? = tE a->zs[j]? = tE b->i<j->zJ k l ns a.1 b.1=tG:=λi j a b ha hb hij=>by
  have hne:a.1≠b.1:=λe=>(early j i b a hb ha hij).1 #[[],[],by rw[e];simp];have t:=qZ (k:=k) (ns:=ns) (memz ha).1.ma (memz hb).1.ma hne;rw[later i j a b ha hb hij]at t;simpa using t
 refine#[hz,up,λi j a b ha hb hij=>?_,λi j a b ha hb hw=>?_]
 ·rcases Nat.lt_or_gt_of_ne hij with h1 | h1
  ·intro hw;rcases uR G (memz ha).1.ma hw with e | e
   ·have:=up i j a b ha hb h1;rw[e,xS]at this;cases this
   ·rw[later i j a b ha hb h1]at e;cases e
  ·exact (early i j a b ha hb h1).1
 ·have hle:zJ k l ns b.1 a.1=tG:=by
   rcases uR G (memz ha).1.mb hw with e | e
   ·rw[e];exact (memz ha).2
   ·exact jf e (memz ha).2
  rcases eS i j with h1 | h1 | h1
  ·rw[later i j a b ha hb h1]at hle;cases hle
  ·subst h1;rw[ha]at hb;cases hb;rw[xS]at hle;cases hle
  ·exact (early i j a b ha hb h1).2 hw
theorem kr{w:()}:∀{i:Nat},Wc ps w i->yc ps w (stS (sAt ps w i))=tE (wAt ps w i)
 | 0,_=>rfl
 | i+1,h=>by
  have ih:=kr (i:=i) λj hj=>h j ⋯;have hne:=h i ⋯
  cases e:zA (wAt ps w i) ps with
  | none=>exact y9 e hne
  | some u =>
   rw[Wt,wx e,e];unfold stS at ih ⊢;rw[ar];refine Yf ih ?_;let#[p,h1,h2]:=xb e;have hl:=(tL.mp h1).1;show yf ps (wAt ps w i) ((u.1:Int),(u.2:Int),tG)=_;rw[yL (by show (0:Int)<=(u.1:Int)/\(u.1:Int)<ps.length;lia)];have e2:ps.getD ((u.1:Int)).toNat ([],[])=p:=by rw[aR,ae,h1];rfl
   show (if zt (wAt ps w i) (u.2:Int) (sdl (ps.getD ((u.1:Int)).toNat ([],[])) tG).1=tG then _ else tF)=_;rw[e2,z6 (show zt (wAt ps w i) (u.2:Int) (sdl p tG).1=tG from h2)];unfold uO;rw[wo h1];rfl
def QP(h:EOk rs e):EOk rs (zQ k l ns e):=by
 unfold zQ;split
 ·exact h
 ·exact wg h
def zbX(hb:∀e ∈ bs,EOk rs e)(he:EOk rs e)(h1:zU (zf bs) e.1 i)(h2:zU (zf bs) e.2.1 j):EOk rs (yo bs e i j):=by have w1:=ZL hb (wg (kr h1.live));have w2:=ZL hb (kr h2.live);have he':yc rs e.1 e.2.2=tE e.2.1:=he;show yc rs (wAt (zf bs) e.1 i) (byL bs (yh (stS (sAt (zf bs) e.1 i))) ++ e.2.2 ++ byL bs (stS (sAt (zf bs) e.2.1 j)))=tE (wAt (zf bs) e.2.1 j);rw[xw,xw,w1,bW,he',bW];exact w2
theorem XV(h:xq k l ns bs es r):∀fs,r=tE fs->(∀e ∈ bs,EOk rs e)->(∀e ∈ es,EOk rs e)->∀e ∈ fs,EOk rs e:=by
 induction h with
 | nil bs=>intro fs er hb _;cases er;exact hb
 | @same bs es e i j r h1 h2 h3 h4 ih=>intro fs er hb he;exact ih fs er hb λx hx=>he x (av _ hx)
 | @new bs es e i j r h1 h2 h3 h4 h5 ih =>
  intro fs er hb he;refine ih fs er (λx hx=>?_) λx hx=>he x (av _ hx);rcases tO.mp hx with hx | hx
  ·exact hb x hx
  ·rw[tP.mp hx];exact QP (zbX hb (he e az) h1 h2)
 | far=>intro fs e;cases e
 | stuck=>intro fs e;cases e
def Wr(h:Lined k l ns es zs)(he:∀e ∈ es,EOk rs e):∀e ∈ zs,EOk rs e:=λe hz=>by
 have hm:=h.perm.mem_iff.mp hz;unfold vS at hm;let#[y,hy,rfl]:=tM.mp hm;exact QP (he y (tT.mp hy).1)
def Wf(h:Lined k l ns es zs)(he:∀e ∈ es,EB l e):RL k l ns zs:=by
 have key:∀e ∈ zs,∃y,EB l y/\y.1≠y.2.1/\e=zQ k l ns y:=λe hz=>by
  have hm:=h.perm.mem_iff.mp hz;unfold vS at hm;let#[y,hy,rfl]:=tM.mp hm;let#[h1,h2]:=tT.mp hy;exact#[y,he y h1,by simpa using h2,rfl]
 refine#[λe hz=>?_,λe hz=>?_]
 ·let#[y,h1,_,rfl]:=key e hz;exact h1.rule
 ·let#[y,h1,h2,rfl]:=key e hz;exact qV h1 h2
def Kf(G:OG l ns k)(hz:RL k l ns zs)(h:xq k l ns [] zs (tE bs)):RL k l ns bs:=by let#[gs,g1,g2,g3,g4]:=jY G h bs rfl #[λe he=>(nomatch he),λe he=>(nomatch he)] hz;exact g3
theorem qo(G:OG l ns k)(h:wH k l ns n es r):∀fs,r=tE fs->(∀e ∈ es,EB l e)->(∀e ∈ es,EOk rs e)->(∀e ∈ fs,EOk rs e)/\∃zs,ThinL k l ns zs/\zf fs=zf zs:=by
 induction h with
 | out=>intro fs e;cases e
 | bad=>intro fs e;cases e
 | @done n es zs bs h1 h2 h3 =>
  intro fs er he ho;cases er;have hz:=Wf h1 he;exact#[XV h2 bs rfl (λe h=>(nomatch h)) (Wr h1 ho),zs,zcf G hz h1.srt h2 h3,h3]
 | @more n es zs bs r h1 h2 h3 h4 ih =>
  intro fs er he ho;have hz:=Wf h1 he;exact ih fs er (Kf G hz h2).e (XV h2 bs rfl (λe h=>(nomatch h)) (Wr h1 ho))
def rankF:KeyFam (Int × List Int):=#[λr=>[.int r.1,.lst (r.2.map L3.D.int)],λa b=>if a.1=b.1 then ltI a.2 b.2 else decide (a.1<b.1),tG,(0,[])]
def Ks(h:ltI x y=tG):ltI y x=tH:=by
 by_cases e:x=y
 ·subst e;rw[xC]at h;cases h
 ·have:=wZ e;rw[h]at this;simpa using this.symm
theorem za0(h1:ltI y x=tH)(h2:ltI z y=tH):ltI z x=tH:=by
 cases h:ltI z x with
 | false=>rfl
 | true =>
  by_cases e:y=x
  ·subst e;rw[h2]at h;cases h
  ·have h3:=wZ e;rw[h1]at h3;have h4:ltI x y=tG:=by simpa using h3.symm
   rw[ju h h4]at h2;cases h2
def rankF_ok:rankF.Ok where
 w:=#[λa b h=>by
   erw[rankF]at h ⊢
   by_cases e:a.1=b.1
   ·rw[z6 e]at h;rw[z6 e.symm];exact Ks h
   ·rw[z9 e]at h;rw[z9 (λz=>e z.symm)];have:=y3 h;exact y6 ⋯,
  λa b c h1 h2=>by
   erw[rankF]at h1 h2 ⊢
   by_cases e:b.1=a.1
   ·rw[z6 e]at h1;rw[e]at h2;by_cases f:c.1=a.1
    ·rw[z6 f]at h2 ⊢;exact za0 h1 h2
    ·rw[z9 f]at h2 ⊢;exact h2
   ·rw[z9 e]at h1;have h1':=of_decide_eq_false h1;by_cases f:c.1=b.1
    ·rw[z9 ⋯];exact y6 ⋯
    ·rw[z9 f]at h2;have h2':=of_decide_eq_false h2;rw[z9 ⋯]
     exact y6 ⋯]
 eq:=λa b=>by
  have:=QF a.1 b.1 a.2 b.2
  erw[ltD]at this
  exact this
 ok:=λa b=>by erw[rankF,ZP,okD];exact#[trivial,uu _ _,trivial]
 dp:=λa=>by erw[rankF,dpD,vw,Zu];decide
 sh:=λa=>#[_,_,rfl,.inl #[rfl,_,rfl]]
def j8(k:Nat)(l:())(ns:List Int)(w:()):Int × List Int:=(zu k l ns w,wV k l w)
theorem WR : ∀{ds:List L3.D} {vs:List V},Iss K H ds vs->Is K H d v->Iss K H (ds ++ [d]) (vs ++ [v])
 | [],vs,h,hv=>by
  erw[Iss]at h
  subst h
  erw[bz,Iss]
  exact#[v,[],rfl,hv,rfl]
 | e::ds,vs,h,hv=>by
  erw[Iss]at h
  let#[x,r,rfl,hx,hr]:=h
  erw[bw,Iss]
  exact#[x,r ++ [v],rfl,hx,WR hr hv]
def OrdAt.samT{T CO CR CW:pC}(h:OrdAt CO CR CW H o k l ns)(s:SamT T H H')(hT:H T=tE (.tbl ps)):OrdAt CO CR CW H' o k l ns:=by
 obtain⟨dx,⟨h1,h2⟩ | ⟨h1,h2,w,h3,h4⟩⟩:=h
 ·exact#[dx,.inl #[h1,s.at hT h2 λZ z=>by cases z]]
 ·exact#[dx,.inr (#[h1,h2,w,s.at hT h3 (λZ z=>by cases z),s.at hT h4 λZ z=>by cases z])]
theorem EnsA.samT(s:SamT T H H')(hT:H T=tE (.tbl ps)):∀{es:List Ent} {vs:List V},EnsA K H es vs->EnsA K H' es vs
 | [],vs,h=>by erw[EnsA]at h ⊢;exact h
 | e::es,vs,h=>by
  erw[EnsA]at h ⊢
  let#[v,r,e0,#[p,s',e1,h1,h2],h3]:=h;exact#[v,r,e0,#[p,s',e1,s.seqT hT h1,h2.samT s hT],EnsA.samT s hT h3]
def qF(h:a≠b):rankF.lt a b=!rankF.lt b a:=by
 erw[rankF]
 by_cases e:a.1=b.1
 ·rw[z6 e,z6 e.symm];exact wZ λq=>h (Prod.ext e q)
 ·rw[z9 e,z9 λq=>e q.symm];by_cases c:a.1<b.1
  ·rw[y4 c,y6 ⋯];rfl
  ·rw[y6 c,y4 ⋯];rfl
def QJ(a b:Int × List Int):eqD (.tup (rankF.dec a)) (.tup (rankF.dec b))=decide (a=b):=by
 let#[a1,a2]:=a;let#[b1,b2]:=b
 erw[rankF,eqD,vT,jD]
 by_cases h:a1=b1
 ·by_cases h2:a2=b2
  ·simp [h,h2]
  ·simp [h,h2]
 ·simp [h]
def Wj(a b:Int × List Int):ltD (.tup (rankF.dec a)) (.tup (rankF.dec b))=rankF.lt a b:=by
 erw[ltD]
 exact rankF_ok.eq a b
def ZT(a:Int × List Int):rankF.lt a a=tH:=by
 erw[rankF]
 rw[z6 trivial];exact xC _
def pairF:KeyFam ((Int × List Int) × (Int × List Int)):=#[λr=>[.tup (rankF.dec r.1),.tup (rankF.dec r.2)],λa b=>if a.1=b.1 then rankF.lt a.2 b.2 else rankF.lt a.1 b.1,tH,((0,[]),(0,[]))]
def qp(a b:(Int × List Int) × (Int × List Int)):pairF.lt a b=if a.1=b.1 then rankF.lt a.2 b.2 else rankF.lt a.1 b.1:=rfl
def pairF_ok:pairF.Ok where
 w:=#[λa b h=>by
   rw[qp]at h ⊢;by_cases e:a.1=b.1
   ·rw[z6 e]at h;rw[z6 e.symm];exact rankF_ok.w.asym _ _ h
   ·rw[z9 e]at h;rw[z9 λq=>e q.symm];exact rankF_ok.w.asym _ _ h,
  λa b c h1 h2=>by
   rw[qp]at h1 h2 ⊢;by_cases e:b.1=a.1
   ·rw[z6 e]at h1;rw[e]at h2;by_cases f:c.1=a.1
    ·rw[z6 f]at h2 ⊢;exact rankF_ok.w.ntr _ _ _ h1 h2
    ·rw[z9 f]at h2 ⊢;exact h2
   ·rw[z9 e]at h1;by_cases g:c.1=b.1
    ·rw[g,z9 e];exact h1
    ·rw[z9 g]at h2;by_cases f:c.1=a.1
     ·rw[f]at h2;have:=qF (a:=b.1) (b:=a.1) e;rw[h1,h2]at this;cases this
     ·rw[z9 f]
      exact rankF_ok.w.ntr _ _ _ h1 h2]
 eq:=λa b=>by
  show wQ [.tup (rankF.dec a.1),.tup (rankF.dec a.2)] [.tup (rankF.dec b.1),.tup (rankF.dec b.2)]=_;rw[qp,wQ,QJ,wQ,QJ,Wj,Wj,wQ];by_cases e:a.1=b.1
  ·rw[z6 (y4 e),z6 e];by_cases f:a.2=b.2
   ·rw[z6 (y4 f),f,ZT]
   ·rw[z9 ↥f]
  ·rw[z9 ↥e,z9 e]
 ok:=λa b=>by
  show ZP [.tup (rankF.dec a.1),.tup (rankF.dec a.2)] [.tup (rankF.dec b.1),.tup (rankF.dec b.2)]
  erw[ZP,okD]
  exact#[rankF_ok.ok _ _,rankF_ok.ok _ _,trivial]
 dp:=λa=>by erw[pairF,rankF,dpD,vw,Zu];decide
 sh:=λa=>#[_,_,rfl,.inr #[rfl,_,rfl]]
def rkE(k:Nat)(l:())(ns:List Int)(e:Ent):(Int × List Int) × (Int × List Int):=(j8 k l ns e.1,j8 k l ns e.2.1)
def K8(hu:∀c ∈ u,c ∈ l)(hv:∀c ∈ v,c ∈ l):j8 k l ns u=j8 k l ns v ↔ u=v :=
 #[λh=>Zz hu hv (Prod.ext_iff.mp h).2,λh=>by rw[h]]
def VU(ha:EB l a)(hb:EB l b):pairF.lt (rkE k l ns a) (rkE k l ns b)=kH k l ns a b:=by
 rw[qp];unfold kH;have h:(rkE k l ns a).1=(rkE k l ns b).1 ↔ a.1=b.1:=K8 ha.ma hb.ma;by_cases e:a.1=b.1
 ·rw[z6 (h.mpr e),z6 e];rfl
 ·rw[z9 λq=>e (h.mp q),z9 e];rfl
theorem V9 : ∀{es:List Ent} {vs:List V},EnsA K H es vs->∀t ∈ es.zip vs,EnA K H t.1 t.2
 | [],_,_,t,ht=>by simp at ht
 | e::es,vs,h,t,ht=>by
  erw[EnsA]at h
  let#[v,r,rfl,h1,h2]:=h;rw[dJ]at ht;rcases tN.mp ht with rfl | ht
  ·exact h1
  ·exact V9 h2 t ht
theorem KW : ∀{ts:List (Ent × V)},(∀t ∈ ts,EnA K H t.1 t.2)->EnsA K H (ts.map (·.1)) (ts.map (·.2))
 | [],_=>by erw[aA,EnsA]
 | t::ts,h=>by
  erw[ak,EnsA]
  exact#[_,_,rfl,h t az,KW λu hu=>h u (av _ hu)]
def Xf(hI:EnsA K H es vs)(hE:∀e ∈ es,EB l e)(h1:ys=srt (λp q=>pairF.lt p.1 q.1) d ((es.map (rkE k l ns)).zip vs)) :
  ∃zs:List Ent,zs.Perm es/\zs.Pairwise (λa b=>kH k l ns b a=tH)/\zs=srt (kH k l ns) ([],[],[]) es/\EnsA K H zs (ys.map (·.2)):=by
 have hl:=hI.len
 have e0:(es.map (rkE k l ns)).zip vs=(es.zip vs).map λt=>(rkE k l ns t.1,t.2):=by
  rw[List.zip_map_left];rfl
 have W0:WkO λ(p q:((Int × List Int) × (Int × List Int)) × V)=>pairF.lt p.1 q.1:=#[λa b=>pairF_ok.w.asym _ _,λa b c=>pairF_ok.w.ntr _ _ _];have W1:WkO λ(p q:Ent × V)=>pairF.lt (rkE k l ns p.1) (rkE k l ns q.1):=#[λa b=>pairF_ok.w.asym _ _,λa b c=>pairF_ok.w.ntr _ _ _];have W2:WkO λ(p q:Ent)=>pairF.lt (rkE k l ns p) (rkE k l ns q):=#[λa b=>pairF_ok.w.asym _ _,λa b c=>pairF_ok.w.ntr _ _ _];rw[e0,zaw W0 (d':=(λt:Ent × V=>(rkE k l ns t.1,t.2)) (([],[],[]),.non)) (λZ Z Z Z=>rfl)]at h1
 replace h1:=h1.trans (QZ (lt:=λ(p q:((Int × List Int) × (Int × List Int)) × V)=>pairF.lt p.1 q.1) (λt:Ent × V=>(rkE k l ns t.1,t.2)) (([],[],[]),.non) (es.zip vs))
 let#[p,h2]:=WI W1 (([],[],[]),.non) (es.zip vs)
 have e2:(srt (λ(p q:Ent × V)=>pairF.lt (rkE k l ns p.1) (rkE k l ns q.1)) (([],[],[]),.non) (es.zip vs)).map (·.1)=srt (kH k l ns) ([],[],[]) es:=by
  rw[<- zaw W2 (d:=([],[],[])) λa ha b hb=>VU (hE a ha) (hE b hb)];have:=QZ (lt:=λ(p q:Ent)=>pairF.lt (rkE k l ns p) (rkE k l ns q)) (λt:Ent × V=>t.1) (([],[],[]),.non) (es.zip vs);rw[fm ⋯]at this;exact this.symm
 generalize srt (λ(p q:Ent × V)=>pairF.lt (rkE k l ns p.1) (rkE k l ns q.1)) (([],[],[]),.non) (es.zip vs)=ts at h1 h2 p e2;have hm:∀t ∈ ts,t.1 ∈ es:=λt ht=>(cS (show (t.1,t.2) ∈ es.zip vs from p.mem_iff.mp ht)).1;refine#[ts.map (·.1),?_,?_,e2,?_]
 ·have:=p.map (·.1);rw[fm ⋯]at this;exact this
 ·rw[List.pairwise_map];refine h2.imp_of_mem λ{a b} ha hb h=>?_;rw[<- VU (hE _ (hm _ hb)) (hE _ (hm _ ha))];exact h
 ·rw[h1,aP];exact KW λt ht=>V9 hI t (p.mem_iff.mp ht)
def tbE(K:pB)(CO CR CW:pC):TE:=Zo (zI (zw (zdQ CO CR CW) "rank" (λZ=>jt CO CR CW) [] E0 (z7 1) (zI (tOp (xO K) (z7 0) (tC (.int 0))) xp)) (zI (zw (zdQ CO CR CW) "rank" (λZ=>jt CO CR CW) [] E0 (z7 1) (zI (tOp (xO K) (z7 0) (tC (.int 1))) xp)) xp))
def zd5{CO CR CW o p s:pC}(hG:OG l ns k)(ho:OrdAt CO CR CW H o k l ns)(hE:EB l e)(hp:SqT K H p [⇑e.1,⇑e.2.1,.ref s])(q:∀(t:pC) (H':Hp),Same H H'->Is K H' (.tup (pairF.dec (rkE k l ns e))) (.ref t)->Q (.ref t) H'):tbE K CO CR CW [!!p,!!o] H Q:=by
 have s16:=yb;let#[C,dx,fs,hf,ho1,hn,_]:=ho.fam;have h1:fs.lookup ("rank" : pG)=tF:=hn _ ∅ ∅;unfold tbE;ac_rfl;refine#[C,hf,dx,fs,ho1,h1,_,hp,_,rfl,o,k,l,ns,e.1,rfl,ho,hG,by have:=hE.a;lia,hE.ma,λp1 q1 H1 s1 hp1 hq1=>#[C,hf,dx,fs,s1 _ _ ho1,h1,_,zl s1 hp,_,rfl,o,k,l,ns,e.2.1,rfl,ho.same s1,hG,by have:=hE.b;lia,hE.mb,λp2 q2 H2 s2 hp2 hq2=>#[⋯,λt ht=>?_]]];refine q t _ (s1.trans (s2.trans (zc (o:=.tup [.ref p1,.ref p2]) ht))) ?_;show Is K _ (.tup [.tup (rankF.dec (j8 k l ns e.1)),.tup (rankF.dec (j8 k l ns e.2.1))]) (.ref t);refine Is.tup ht ?_
 erw[Iss]
 exact#[_,_,rfl,ZF (s2 _ _ hp1) (s2 _ _ hq1),_,_,rfl,ZF hp2 hq2,rfl]
theorem zaj{CO CR CW o:pC}{LA:Hp->Prop}(hG:OG l ns k)(hLA:∀H H',LA H->Same H H'->LA H'):∀(es:List Ent) (vs tK:List V) (rs:List ((Int × List Int) × (Int × List Int))) (H:Hp),LA H->OrdAt CO CR CW H o k l ns->(∀e ∈ es,EB l e)->EnsA K H es vs ->
  Iss K H (rs.map λa=>.tup (pairF.dec a)) tK->(∀acc' H',Same H H'->Iss K H' ((rs ++ es.map (rkE k l ns)).map λa=>.tup (pairF.dec a)) acc'->Qf acc' H')->uV (λx H Q=>LA H/\tbE K CO CR CW [tE x,!!o] H Q) vs tK H Qf
 | [],vs,tK,rs,H,hL,ho,hw,hV,hI,h=>by
  erw[EnsA]at hV
  subst hV;exact h tK H (ja3 _) ↥hI
 | e::es,vs,tK,rs,H,hL,ho,hw,hV,hI,h=>by
  have s16:=yb
  erw[EnsA]at hV
  let#[v,r,rfl,#[p,s,rfl,hp,_],hV]:=hV;refine#[hL,zd5 hG ho (hw e az) hp λt H' s3 hIs=>?_];refine zaj hG hLA es r (tK ++ [.ref t]) (rs ++ [rkE k l ns e]) _ (hLA _ _ hL s3) (ho.same s3) (λx hx=>hw x (av _ hx)) (hV.same s3) ?_ λacc' H' s' hI'=>h acc' H' (s3.trans s') ↥hI';rw[ar];exact WR (ja1 s3 _ _ hI) hIs
def zdt:rF->tB
 | .Lambda _ _ _ p=>p
 | _=>default
def zgF:List pN->tB
 | _::.Return (tE (.Call _ _ (k::_) _)) _::_=>zdt k.value
 | _=>default
def lp:tB:=zgF (yn yK)
def lq:pG:="in_order.<locals>.<lambda>"
def kL(K:pB)(CO CR CW T:pC):Sp:=λvs H Q Z=>∃(o a:pC) (k:Nat) (l:()) (ns:List Int) (es:List Ent),vs=[.ref o,.ref a]/\OrdAt CO CR CW H o k l ns/\OG l ns k/\EnsL K H a es/\es.length<64/\(∀e ∈ es,EB l e)/\TabOk H T lp lq /\
 ∀(D:pC) (zs:List Ent) (H':Hp),SamT T H H'->TabOk H' T lp lq->H D=tF->Lined k l ns es zs->EnsM K H' D zs->Q (.ref D) H'
def UH{CO CR CW T o a:pC}(h1:OrdAt CO CR CW H o k l ns)(h2:OG l ns k)(h3:EnsL K H a es)(h4:es.length<64)(h5:∀e ∈ es,EB l e)(h6:TabOk H T lp lq)(h:∀(D:pC) (zs:List Ent) (H':Hp),SamT T H H'->TabOk H' T lp lq->H D=tF->Lined k l ns es zs->EnsM K H' D zs->Q (.ref D) H'):kL K CO CR CW T [.ref o,.ref a] H Q E:=#[o,a,k,l,ns,es,rfl,h1,h2,h3,h4,h5,h6,h]
abbrev Qw(mg:pG->Option pD):Prop:=mg "sorted" = tF
def nB:sQz 2 ["order","entries","unlike"] yK:=by nofun
def Xk{f CO CR CW CC TB:pC}(B:Bt mg)(DRk:DR P w K mg base CO CR CW)(hsorted:Qw mg)(hCd:PySem.W.CodeHd base CC TB)(hBt:base.BuiltinsAt mg TB)(hgT:pj≠TB)(F:("in_order"^^^yK))(HC:fd.code=.ref CC)(mU:(4<<<"as_rule") ["order","entry"] [] (vb K CO CR CW)):(6&&&["order","entries"]) (kL K CO CR CW TB):=by
 refine zbf F HC nB (λvs H Q E h=>?_) (λA outer s H vs Q E hr h=>?_)
 ·let#[o,a,k,l,ns,es,rfl,_]:=h;rfl
 ·let#[o,a,k,l,ns,es,rfl,ho,hG,hA,hz,hE,hTab,q]:=h
  refine#[_,(zg (vO (i:=2) nB.nd rfl (.inl rfl) (.inl rfl) (own:=["entry"]) (caps:=["order"]) (ix:=[0]) (tt:=(tBl (tOp rNe (tOp (xO K) (z7 0) (tC (.int 0))) (tOp (xO K) (z7 0) (tC (.int 1)))))) (te:=(qT (vb K CO CR CW) [] E0 (zI (z7 1) (zI (z7 0) xp)))) rfl (zM (sc:=zi yK) rfl (!0) (!0) (!0) rfl (!0) (!0) rfl) (ye (pv 1)) (λZ Z Z Z Z Z=>zr (i:=0) (show List.Nodup [_,_] by decide) rfl (.inl rfl)) (λZ Z Z Z Z Z=>(Ul (zB Yd (!-0) (!-0) (zF _)))) (λZ Z Z Z Z Z=>(cl0 mU hr .nil rfl (za (pv 1) (za (pv 0) zd))))) (zh (zp (JJ (k:=2) (p:="entry") (y:="order") (iy:=0) (c:=s⁻¹+1) (tb:=tbE K CO CR CW) pairF_ok #[rfl,rfl,rfl,∅,rfl,rfl,∅,∅] (hr.mono ∅) rfl hsorted fo (za (pv 2) zd) rfl hCd hBt hgT rfl rfl (by intro _ _ _ _;exact rfl) rfl rfl rfl (λs H f cv hr'=>zy (za (zcx DRk hr' (pv 1) (za (!-0) zd)) (za (zcx DRk hr' (pv 1) (za (!-0) zd)) zd))))))),?_]
  have s16:=yb;let#[xs,hX,hI]:=id hA;have hxl:=hI.len
  have hEr:∀e ∈ vS k l ns es,EB l e:=λe he=>by
   unfold vS at he;let#[y,hy,rfl]:=tM.mp he;exact (hE y (tT.mp hy).1).rule
  have hrl:=Xj k l ns es;change Same H H'/\∃(D0:pC) (tK:List V),H D0=tF/\H' D0=tE (.lst tK)/\EnsA K (jM D0 H') (vS k l ns es) tK/\σ=[!!o,!!a,!!D0]
  ·ac_rfl;refine#[#[xs,hX],λD hD=>ja2 (xs:=xs) (λi tK H'=>Same H H'/\H' D=tE (.lst tK)/\EnsA K (jM D H') (vS k l ns (es.take i)) tK) #[zc hD,zb,by erw[bi,vS,dD,aA,EnsA]] (λi tK H' Z h=>h.1.seq hX) ?_ ?_]
   ·refine nm4 ?_;rintro i x tK H' hx ⟨hs,hH,hA⟩:_;have hi:=(tL.mp hx).1;let#[e,pe,se,hei,rfl,hqe,hse]:=hI.get hx;have hEe:=hE e (ag hei);have hal:=hA.len;have hal2:=Xj k l ns (es.take i);rw[aF]at hal2;have hq1:=zl hs hqe
    have hraw:vS k l ns (es.take (i+1))=vS k l ns (es.take i) ++ if e.1=e.2.1 then []else [zQ k l ns e]:=by
     rw[zP hei,zbw];congr 1;unfold vS;by_cases hne:e.1=e.2.1
     ·rw[z6 hne,cA (by simp [hne])];rfl
     ·rw[z9 hne,bD (by simp [hne])];rfl
    right;ac_rfl;refine#[yJ,_,hq1,_,rfl,_,hq1,_,rfl,rfl,yC (λhne=>?_) λheq=>?_]
    ·have hne':¬ e.1=e.2.1:=λz=>hne (by rw[z]);rw[z9 hne']at hraw
     have fin:∀(v:V) (H2:Hp),Same H' H2->EnA K (jM D H2) (zQ k l ns e) v->H2 D=tE (.lst tK)/\tK.length<pA/\CNx xs.length i (λi tK H'=>Same H H'/\H' D=tE (.lst tK)/\EnsA K (jM D H') (vS k l ns (es.take i)) tK) (tK ++ [v]) (upd H2 D (.lst (tK ++ [v]))):=λv H2 s2 hv=>by
      refine#[s2 _ _ hH,⋯,x9 hi #[zH (hs.trans s2) hD,zb,?_]];rw[hraw];exact (hA.same ((xF s2).trans y0)).snoc (hv.same y0)
     refine j9 (ho.same hs) hG hq1 (hse.same hs).is hEe (λer H2 s2=>fin _ _ s2 ?_) λp' s' H2 s2 hsn hp' hL=>fin _ _ s2 ?_
     ·rw[er];exact EnA.same #[pe,se,rfl,hqe,hse] (QW hD (hs.trans s2))
     ·exact EnA.new (s2 _ _ hH) hp' hL (λz=>by rw[z,hH]at hsn;cases hsn)
    ·have heq':e.1=e.2.1:=by
      have:=Classical.not_not.mp heq;injection this with this;exact kd this
     rw[z6 heq',aV]at hraw;exact x9 hi #[hs,hH,by rw[hraw];exact hA]
   ·refine nmB ?_;rintro tK H' ⟨hs,hH,hA⟩:_;rw[hxl,aI]at hA;right;exact#[hs,D,hD,tK,hH,hA,rfl]
  rintro σ H1 ⟨s1,D0,tK,hD0,hH1,hI1,rfl⟩:_;have hal:=hI1.len;have hT1:=hTab.same s1;let#[ps1,hps1,_]:=id hT1;right;ac_rfl;unfold KH;refine#[hT1,λf H2 hf hLA hT2 sT=>?_];let#[ps2,hps2,_]:=id hT2;have hI2:=EnsA.samT sT hps1 (hI1.same wd);refine#[D0,tK,.ref o,rfl,x6 (sT.at hps1 hH1 λZ z=>by cases z),⋯,rfl,?_];refine zaj hG (λA A' h1 h2=>LamAt.same h1 h2) (vS k l ns es) tK [] [] H2 hLA ((ho.same s1).samT sT hps1) hEr hI2 (by erw[aA,Iss]) λacc' H3 s3 hI3=>#[(vS k l ns es).map (rkE k l ns),by simpa using hI3,λys p1 D hD=>?_];let#[zs,z1,z2,z4,z3]:=Xf (hI2.same s3) hEr p1;have sD:=zc (o:=.lst (ys.map (·.2))) hD;refine q D zs _ ((ja0 s1).trans (sT.trans (ja0 (s3.trans sD)))) (hT2.same (s3.trans sD)) ?_ #[z1,z2,z4] #[_,zb,z3.same sD];exact ((ja0 s1).trans (sT.trans (ja0 s3))).free (s3 _ _ hps2) hD
structure TMo(mg:pG->Option pD):Prop where
 u:∃t,mg "MOST_USES_thinning" = tE (.int 40 t)
 s:∃t,mg "MOST_STEPS" = tE (.int 240 t)
 d:∃t,mg "MOST_SIDE_thinning" = tE (.int 60 t)
 p:∃t,mg "MOST_PASSES" = tE (.int 20 t)
structure BG(k:Nat)(l:())(ns:List Int)(bs:List Ent):Prop where
 n:bs.length<64
 e:∀e ∈ bs,EB l e
 lt:∀e ∈ bs,zJ k l ns e.2.1 e.1=tG
def BG.ne(h:BG k l ns bs)(G:OG l ns k):NeL (zf bs):=λp hp=>by
 unfold zf at hp;let#[e,he,rfl]:=tM.mp hp;exact VC G.nb (h.lt e he)
def BG.le(h:BG k l ns bs):∀p ∈ zf bs,p.1.length<=60/\p.2.length<=60:=λp hp=>by
 unfold zf at hp;let#[e,he,rfl]:=tM.mp hp;exact#[(h.e e he).a,(h.e e he).b]
def BG.mem(h:BG k l ns bs):∀p ∈ zf bs,∀c ∈ p.2,c ∈ l:=λp hp=>by
 unfold zf at hp;let#[e,he,rfl]:=tM.mp hp;exact (h.e e he).mb
def jW{w:()}(hA:LsA K H a (ps.map dR))(hN:NeL ps)(hpl:ps.length<=100)(hP:∀p ∈ ps,p.1.length<=60/\p.2.length<=60)(hw:w.length<=60)(h1:∀(i:Nat) (p S:pC) (H':Hp),zU ps w i->Same H H'->H' p=tE (.tup [.ref S,⇑(wAt ps w i)])->LsA K H' S ((sAt ps w i).map dG)->H S=tF->Q (.ref p) H')(h2:(∀i,¬ zU ps w i)->∀H',Same H H'->E (.ref CF) tF H'):vc K CF [.ref a,⇑w,.int 40] H Q E:=by
 have hP':∀p ∈ ps,p.1.length<=1000/\p.2.length<=1000:=λp hp=>by
  have:=hP p hp;lia
 have len:∀j,j<=40->(wAt ps w j).length<=10000:=λj hj=>by
  have:=jn (l:=w) (m:=60) hN (λp hp=>(hP p hp).2) j;lia
 rcases zbD ps w with ⟨i,hi⟩ | ⟨hL,hf⟩
 ·have hm:=hi.most;exact#[a,w,ps,40,i,rfl,hA,hN,hpl,hP',#[hi.live,λj hj=>len j ⋯,⋯],.inl #[hi.end_,⋯,λp S H' s' hp hL hS=>h1 i p S H' hi s' hp hL hS]]
 ·refine#[a,w,ps,40,40,rfl,hA,hN,hpl,hP',#[hL,λj hj=>len j hj,∅],.inr #[hf,rfl,h2 λi hi=>?_]];have hm:=hi.most;by_cases e:i=40
  ·subst e;exact hf hi.end_
  ·exact hL i ⋯ hi.end_
def zbB(us:List (Nat × Nat)):us.map dG=(stS us).map dSt:=by unfold stS;rw[aP];rfl
def UQ(us:List (Nat × Nat)):(stS us).length=us.length:=by unfold stS;rw[aa]
theorem zcZ{w:()}(h:Wc ps w i):∀u ∈ sAt ps w i,u.1<ps.length:=λu hu=>by
 unfold sAt at hu;let#[j,hj,rfl]:=tM.mp hu
 cases e:zA (wAt ps w j) ps with
 | none=>exact y9 e (h j (tR.mp hj))
 | some v =>
  let#[p,h1,_]:=xb e;exact (tL.mp h1).1
def K5{w:()}(h:Wc ps w i):∀u ∈ stS (sAt ps w i),0<=u.1/\u.1<ps.length:=λu hu=>by
 unfold stS at hu;let#[v,hv,rfl]:=tM.mp hu;have:=zcZ h v hv;show 0<=(v.1:Int)/\(v.1:Int)<ps.length;lia
def zaC(h:∀u ∈ ss,0<=u.1/\u.1<n):∀u ∈ yh ss,0<=u.1/\u.1<n:=λu hu=>by
 unfold yh at hu;let#[v,hv,rfl]:=tM.mp hu;exact h v (tU.mp hv)
def zd9(h:∀e ∈ es,e.2.2.length<=600)(u:Stp):(XX es u).length<=600:=by
 have hg:(es.getD u.1.toNat ([],[],[])).2.2.length<=600:=by
  rw[ae]
  cases e:es[u.1.toNat]? with
  | none=>exact aw _
  | some r=>exact h r (ag e)
 unfold XX;rw[YH];split
 ·exact hg
 ·rw[yg];exact hg
theorem zbM(h:∀e ∈ es,e.2.2.length<=600):∀us:List Stp,(byL es us).length<=us.length * 600
 | []=>by simp [byL]
 | u::us=>by
  have e:byL es (u::us)=XX es u ++ byL es us:=by simp [byL]
  have h1:=zd9 h u;have h2:=zbM h us;rw[e,aq,aJ,eX];lia
def YV(K:pB)(CF:pC):Sp:=λvs H Q E=>∃(a p s:pC) (k:Nat) (l:()) (ns:List Int) (bs:List Ent) (e:Ent),vs=[.ref a,.ref p]/\OG l ns k/\Is K H (.lst (bs.map dE)) (.ref a)/\BG k l ns bs/\SqT K H p [⇑e.1,⇑e.2.1,.ref s]/\LsA K H s (e.2.2.map dSt)/\EB l e /\
 (∀i j H',zU (zf bs) e.1 i->zU (zf bs) e.2.1 j->wAt (zf bs) e.1 i=wAt (zf bs) e.2.1 j->Same H H'->Q .non H') /\
 (∀i j p' s' H',zU (zf bs) e.1 i->zU (zf bs) e.2.1 j->wAt (zf bs) e.1 i≠wAt (zf bs) e.2.1 j->Same H H'->H s'=tF->H' p'=tE (.tup [⇑(yo bs e i j).1,⇑(yo bs e i j).2.1,.ref s'])->LsA K H' s' ((yo bs e i j).2.2.map dSt)->Q (.ref p') H') /\
 ((∀i,¬ zU (zf bs) e.1 i)\/(∀j,¬ zU (zf bs) e.2.1 j)->∀H',Same H H'->E (.ref CF) tF H')
def Qy(h1:Is K H (.lst (es.map dE)) (.ref a))(h2:Is K H (.lst (us.map dSt)) (.ref t))(h3:us.length<=100)(h4:∀e ∈ es,e.2.2.length<=600)(h5:∀u ∈ us,0<=u.1/\u.1<es.length)(h:∀(D:pC) (H':Hp),H D=tF->Same H H'->LsA K H' D ((byL es us).map dSt)->Q (.ref D) H'):J0 K [.ref a,.ref t] H Q E:=#[a,t,es,us,rfl,h1,h2,h3,h4,h5,h]
def ig:sQz 2 ["entries","entry","rules","one","other","steps"] xU:=by nofun
def qD(B:Bt mg)(TM:TMo mg)(F:("brought_down"^^^xU))(ij:(1<<<"pairs_of") ["entries"] [] (vn K))(nI:(4>>>"gone") ["rules","word","most"] [] (vc K CF))(DD_gone:(4>>>"gone") ["rules","word","most"] [.int 4000 nv] (vc K CF))(lP:(2<<<"by_pacts") ["entries","steps"] [] (J0 K))(mT:(1<<<"back") ["steps"] [] (qI K)):(5|||["entries","entry"]) (YV K CF):=by
 let#[t9,g9]:=TM.u
 exists Fun.okX F ig,0
 ·let#[a,p,s,k,l,ns,bs,e,rfl,hG,hA,hB,hp,hs,hE,q1,q2,q3]:=h
  refine#[_,(zg (zE 2 ig.nd (cl0 ij hr .nil rfl (za (pv 0) zd))) (zg (zE 3 ig.nd (clP hx nI hr .nil rfl (za (pv 2) (za (!-1) (za (yT (v:=.int 40) rfl g9 #[t9,rfl]) zd))))) (zg (zE 4 ig.nd (clP hx nI hr .nil rfl (za (pv 2) (za (!-1) (za (yT (v:=.int 40) rfl g9 #[t9,rfl]) zd))))) (zg (zS (zB xL (!-3) (!-4) (zF _)) (zh (zp xj))
    zv) (zg (zE 5 ig.nd (zq UR (zq UR (cl0 lP hr .nil rfl (za (pv 0) (za (cl0 mT hr .nil rfl (za (!-3) zd)) zd))) (!-1)) (cl0 lP hr .nil rfl (za (pv 0) (za (!-4) zd))))) (zh (zp (zy (za (!-3) (za (!-4) (za (pv 5) zd))))))))))),?_]
  have s16:=yb;have hbl:=hB.n;have hN:=hB.ne hG;have hpl:=yD bs;have hst:∀e ∈ bs,e.2.2.length<=600:=λe he=>(hB.e e he).s;have hst3:∀e ∈ bs,e.2.2.length<=600:=λe he=>by have:=hst e he;lia
  change Same H H'/\∃R:pC,LsA K H' R ((zf bs).map dR)/\σ=%[!!a,!!p,!!R|3]
  ·ac_rfl;exact wP hA ⋯ λD H' Z s' hL=>#[s',D,hL,rfl]
  rintro σ H1 ⟨s1,R,hR,rfl⟩:0;change Same H1 H'/\∃(i:Nat),zU (zf bs) e.1 i/\∃p1:pC,(∃S1:pC,H' p1=tE (.tup [.ref S1,⇑(wAt (zf bs) e.1 i)])/\LsA K H' S1 ((sAt (zf bs) e.1 i).map dG))/\σ=%[!!a,!!p,!!R,!!p1|2]
  ·ac_rfl;refine#[_,zl s1 hp,_,rfl,jW hR hN ⋯ hB.le hE.a (λi p1 S1 H' hi s' hp1 hL Z=>#[s',i,hi,p1,#[S1,hp1,hL],rfl]) λhno H' s'=>q3 (.inl hno) H' (s1.trans s')]
  rintro σ H2 ⟨s2,i,hi,p1,⟨S1,hp1,hS1⟩,rfl⟩:_;have s12:=s1.trans s2;right;change Same H2 H'/\∃(j:Nat),zU (zf bs) e.2.1 j/\∃p2:pC,(∃S2:pC,H' p2=tE (.tup [.ref S2,⇑(wAt (zf bs) e.2.1 j)])/\LsA K H' S2 ((sAt (zf bs) e.2.1 j).map dG))/\σ=[!!a,!!p,!!R,!!p1,!!p2,tF]
  ·ac_rfl;refine#[_,zl s12 hp,_,rfl,jW (hR.same s2) hN ⋯ hB.le hE.b (λj p2 S2 H' hj s' hp2 hL Z=>#[s',j,hj,p2,#[S2,hp2,hL],rfl]) λhno H' s'=>q3 (.inr hno) H' (s12.trans s')]
  rintro σ H3 ⟨s3,j,hj,p2,⟨S2,hp2,hS2⟩,rfl⟩:_;have s13:=s12.trans s3;have hp1':=s3 _ _ hp1;have hS1':=hS1.same s3;right;change H'=H3/\wAt (zf bs) e.1 i≠wAt (zf bs) e.2.1 j/\σ=[!!a,!!p,!!R,!!p1,!!p2,tF]
  ·ac_rfl;refine#[_,x8 hp1',_,rfl,_,x8 hp2,_,rfl,rfl,yC (λh=>?_) λh=>?_]
   ·exact q1 i j H3 hi hj (kd (by injection h)) s13
   ·exact λz=>h (by rw[z])
  rintro σ H4 ⟨rfl,hne,rfl⟩:_;have him:=hi.most;have hjm:=hj.most;have hl1:(stS (sAt (zf bs) e.1 i)).length=i:=by rw[UQ,Xv]
  have hl2:(stS (sAt (zf bs) e.2.1 j)).length=j:=by rw[UQ,Xv]
  rw[zbB]at hS1' hS2;have hA4:=Is.same s13 _ _ hA;have hb1:=zbM hst (yh (stS (sAt (zf bs) e.1 i)));have hb2:=zbM hst (stS (sAt (zf bs) e.2.1 j));rw[yg,hl1]at hb1;rw[hl2]at hb2;have hes:=hE.s;right;change Same H4 H'/\∃S:pC,H4 S=tF/\LsA K H' S ((yo bs e i j).2.2.map dSt)/\σ=[!!a,!!p,!!R,!!p1,!!p2,!!S]
  ·ac_rfl;refine#[_,x8 hp1',_,rfl,Zs hS1'.is ⋯ λB1 G1 Z t1 hB1=>Qy (Is.same t1 _ _ hA4) hB1.is (by rw[yg];lia) hst3 (by rw[<- hpl];exact zaC (K5 hi.live)) λC1 G2 hC1n t2 hC1=>?_];have t12:=t1.trans t2;let#[c1,hc1,ic1]:=id hC1;let#[es0,hs0,is0]:=hs.same (s13.trans t12);have lc1:=ic1.len;have ls0:=is0.len;rw[aa]at lc1 ls0;refine#[_,zl (s13.trans t12) hp,_,rfl,C1,rfl,s,rfl,c1,hc1,es0,hs0,⋯,λM hM=>?_];have t3:=zc (o:=.lst (c1 ++ es0)) hM;have t13:=t12.trans t3;refine#[_,x8 (t13 _ _ hp2),_,rfl,Qy (Is.same t13 _ _ hA4) (hS2.same t13).is ⋯ hst3 (by rw[<- hpl];exact K5 hj.live) λC2 G3 hC2n t4 hC2=>?_];let#[c2,hc2,ic2]:=id hC2;have lc2:=ic2.len;rw[aa]at lc2;refine#[C2,rfl,c1 ++ es0,t4 _ _ zb,c2,hc2,by rw[aq];lia,λS hS=>?_];have t5:=zc (o:=.lst (c1 ++ es0 ++ c2)) hS;refine#[t13.trans (t4.trans t5),S,(t13.trans t4).free hS,#[_,zb,?_],rfl];show Iss K _ ((byL bs (yh (stS (sAt (zf bs) e.1 i))) ++ e.2.2 ++ byL bs (stS (sAt (zf bs) e.2.1 j))).map dSt) _;rw[ar,ar];exact jb2 (jb2 (ja1 (t3.trans (t4.trans t5)) _ _ ic1) (ja1 (t3.trans (t4.trans t5)) _ _ is0)) (ja1 t5 _ _ ic2)
  rintro σ H5 ⟨s5,S,hSn,hS,rfl⟩:0;ac_rfl;refine#[_,x8 (s5 _ _ hp1'),_,rfl,_,x8 (s5 _ _ hp2),_,rfl,⋯,λt ht=>?_];have st:=zc (o:=.tup [⇑(wAt (zf bs) e.1 i),⇑(wAt (zf bs) e.2.1 j),.ref S]) ht;exact q2 i j t S _ hi hj hne (s13.trans (s5.trans st)) (s13.free hSn) zb (hS.same st)
def jo(K:pB)(CF:pC):Sp:=λvs H Q E=>∃(p s:pC) (e:Ent),vs=[.ref p]/\SqT K H p [⇑e.1,⇑e.2.1,.ref s]/\Is K H (.lst (e.2.2.map dSt)) (.ref s)/\e.1.length<=10000/\e.2.1.length<=10000/\(¬ uY e->Q .non H)/\(uY e->E (.ref CF) tF H)
def Vb(h1:SqT K H p [⇑e.1,⇑e.2.1,.ref s])(h2:Is K H (.lst (e.2.2.map dSt)) (.ref s))(h3:e.1.length<=10000)(h4:e.2.1.length<=10000)(h5:¬ uY e->Q .non H)(h6:uY e->E (.ref CF) tF H):jo K CF [.ref p] H Q E:=#[p,s,e,rfl,h1,h2,h3,h4,h5,h6]
def qi:sQz 1 ["entry"] xH:=by nofun
def qg(B:Bt mg)(T:zaU K mg CF)(TM:TMo mg)(F:("refuse_beyond"^^^xH)):(1|||["entry"]) (jo K CF):=by
 let#[#[t9,g9],#[t8,g8]]:=And.intro TM.s TM.d
 exists Fun.okX F qi,0
 ·let#[p,s,e,rfl,hp,hs,ha,hb,q1,q2]:=h
  refine#[_,(zg (zS (zB Jw (zR B.len (!-0)) (yT (v:=.int 240) rfl g9 #[t9,rfl]) (zF _)) (zh (yS hx rfl T.xi.toXC T.ini rfl T.g (za zO zd)))
    zv) (zh (zS (zB Jw (xa (U3 rfl) rfl B.max qv (za (zR B.len (!-0)) (za (zR B.len (!-0)) zd))) (yT (v:=.int 60) rfl g8 #[t8,rfl]) (zF _)) (zh (yS hx rfl T.xi.toXC T.ini rfl T.g (za zO zd)))
    zv))),?_]
  have s16:=yb
  erw[Is]at hs
  let#[_,zs,e0,hZ,hI]:=hs;cases e0;have hzl:=hI.len;rw[aa]at hzl;change H'=H/\e.2.2.length<=240/\σ=[!!p]
  ·ac_rfl;refine#[_,hp,_,rfl,_,.inl #[_,hZ,rfl],yC (λh=>#[⋯,q2 (.inl ⋯)]) λh=>by lia]
  rintro σ H1 ⟨rfl,h1,rfl⟩:0;ac_rfl;refine#[_,hp,_,rfl,_,#[by rw[yk];lia,rfl],_,hp,_,rfl,_,#[by rw[yk];lia,rfl],?_];rw[yk,yk];refine yC (λh=>#[⋯,q2 ?_]) λh=>q1 ?_
  ·unfold uY;split at h <;> lia
  ·unfold uY;split at h <;> lia
def J4(hB:BG k l ns bs)(hE:EB l e)(hF:¬ uY (yo bs e i j)):EB l (yo bs e i j):=by unfold uY at hF;exact#[⋯,⋯,⋯,uz hE.ma hB.mem i,uz hE.mb hB.mem j]
def BG.snoc(h:BG k l ns bs)(hn:bs.length+1<64)(hd:EB l d)(hne:d.1≠d.2.1):BG k l ns (bs ++ [zQ k l ns d]):=by
 refine#[by rw[aq];exact hn,λe he=>?_,λe he=>?_]
 ·rcases tO.mp he with he | he
  ·exact h.e e he
  ·rw[tP.mp he];exact hd.rule
 ·rcases tO.mp he with he | he
  ·exact h.lt e he
  ·rw[tP.mp he];exact qV hd hne
def J3(h1:OG l ns k)(h2:Is K H (.lst (bs.map dE)) (.ref a))(h3:BG k l ns bs)(h4:SqT K H p [⇑e.1,⇑e.2.1,.ref s])(h5:LsA K H s (e.2.2.map dSt))(h6:EB l e)(q1:∀i j H',zU (zf bs) e.1 i->zU (zf bs) e.2.1 j->wAt (zf bs) e.1 i=wAt (zf bs) e.2.1 j->Same H H'->Q .non H')(q2:∀i j p' s' H',zU (zf bs) e.1 i->zU (zf bs) e.2.1 j->wAt (zf bs) e.1 i≠wAt (zf bs) e.2.1 j->Same H H'->H s'=tF->H' p'=tE (.tup [⇑(yo bs e i j).1,⇑(yo bs e i j).2.1,.ref s'])->LsA K H' s' ((yo bs e i j).2.2.map dSt)->Q (.ref p') H')(q3:(∀i,¬ zU (zf bs) e.1 i)\/(∀j,¬ zU (zf bs) e.2.1 j)->∀H',Same H H'->E (.ref CF) tF H'):YV K CF [.ref a,.ref p] H Q E:=#[a,p,s,k,l,ns,bs,e,rfl,h1,h2,h3,h4,h5,h6,q1,q2,q3]
def Je(hB:BG k l ns bs)(hG:OG l ns k)(hE:EB l e)(hi:i<=40)(hj:j<=40):(yo bs e i j).1.length<=10000/\(yo bs e i j).2.1.length<=10000:=by have h1:=jn (l:=e.1) (m:=60) (hB.ne hG) (λp hp=>(hB.le p hp).2) i;have h2:=jn (l:=e.2.1) (m:=60) (hB.ne hG) (λp hp=>(hB.le p hp).2) j;have h3:=hE.a;have h4:=hE.b;show (wAt (zf bs) e.1 i).length<=10000/\(wAt (zf bs) e.2.1 j).length<=10000;lia
def Zg(K:pB)(CO CR CW CF:pC):Sp:=λvs H Q E=>∃(o a:pC) (k:Nat) (l:()) (ns:List Int) (zs:List Ent),vs=[.ref o,.ref a]/\OrdAt CO CR CW H o k l ns/\OG l ns k/\EnsL K H a zs/\zs.length<64/\(∀e ∈ zs,EB l e) /\
 (∀(bs:List Ent) (D:pC) (H':Hp),xq k l ns [] zs (tE bs)->BG k l ns bs->Same H H'->H D=tF->EnsM K H' D bs->Q (.ref D) H')/\(xq k l ns [] zs tF->∀H',Same H H'->E (.ref CF) tF H')
def U0{CO CR CW CF o a:pC}(h1:OrdAt CO CR CW H o k l ns)(h2:OG l ns k)(h3:EnsL K H a zs)(h4:zs.length<64)(h5:∀e ∈ zs,EB l e)(q1:∀(bs:List Ent) (D:pC) (H':Hp),xq k l ns [] zs (tE bs)->BG k l ns bs->Same H H'->H D=tF->EnsM K H' D bs->Q (.ref D) H')(q2:xq k l ns [] zs tF->∀H',Same H H'->E (.ref CF) tF H'):Zg K CO CR CW CF [.ref o,.ref a] H Q E:=#[o,a,k,l,ns,zs,rfl,h1,h2,h3,h4,h5,q1,q2]
def zfN(K:pB)(H1 H':Hp)(bs:List Ent)(e:Ent)(v:V):Prop:=∃i j,zU (zf bs) e.1 i/\zU (zf bs) e.2.1 j/\((wAt (zf bs) e.1 i=wAt (zf bs) e.2.1 j/\v=.non) \/
 (wAt (zf bs) e.1 i≠wAt (zf bs) e.2.1 j/\∃p s:pC,v=.ref p/\H1 s=tF/\H' p=tE (.tup [⇑(yo bs e i j).1,⇑(yo bs e i j).2.1,.ref s])/\LsA K H' s ((yo bs e i j).2.2.map dSt)))
def zfw(K:pB)(H:Hp)(D:pC)(k:Nat)(l:())(ns:List Int)(zs:List Ent)(i:Nat)(H':Hp):Prop:=∃(bs:List Ent) (tK:List V),Same H H'/\H' D=tE (.lst tK)/\EnsA K (jM D H') bs tK/\BG k l ns bs/\bs.length<=i/\∀r,xq k l ns bs (zs.drop i) r->xq k l ns [] zs r
def iR:sQz 2 ["order","entries","built","entry","lower"] vh:=by nofun
def Zi{f CO CR CW CF:pC}(B:Bt mg)(F:("built_anew"^^^vh))(nS:(5>>>"brought_down") ["entries","entry"] [] (YV K CF))(nJ:(1>>>"refuse_beyond") ["entry"] [] (jo K CF))(mU:(4<<<"as_rule") ["order","entry"] [] (vb K CO CR CW)):(6|||["order","entries"]) (Zg K CO CR CW CF):=by
 exists Fun.okX F iR,0
 ·let#[o,a,k,l,ns,zs,rfl,ho,hG,hA,hz,hE,q1,q2]:=h
  refine#[_,(zg (zE 2 iR.nd (zX zd)) (zg (xh PassesOwn.leaving rfl (ye (pv 1)) (zr (i:=3) iR.nd rfl (.inl rfl)) (zg (zE 4 iR.nd (clP hx nS hr .nil rfl (za (pv 2) (za (pv 3) zd)))) (zh (zS (zB op_notN' (pv 4) xj (zF _)) (zg (ww (clP hx nJ hr .nil rfl (za (pv 4) zd))) (zh (ww (ut bE bM bN xg (pv 2) (za (cl0 mU hr .nil rfl (za (pv 0) (za (pv 4) zd))) zd)))))
     zv)))) (zh (zp (pv 2))))),?_]
  have s16:=yb;let#[xs,hX,hI]:=id hA;have hxl:=hI.len;change Same H H'/\∃D:pC,H D=tF/\H' D=tE (.lst [])/\σ=%[!!o,!!a,!!D|2]
  ·ac_rfl;exact#[⋯,λp hp=>#[zc hp,p,hp,zb,rfl]]
  rintro σ H0 ⟨s0,D,hD,hD0,rfl⟩:0;change zfw K H D k l ns zs zs.length H'/\∃(v3 v4:Option V),σ=[!!o,!!a,!!D,v3,v4]
  ·ac_rfl;refine#[#[_,s0.seq hX],ForL.by (xs:=xs) (λi σ H'=>zfw K H D k l ns zs i H'/\∃(v3 v4:Option V),σ=[!!o,!!a,!!D,v3,v4]) #[#[[],[],s0,hD0,by erw[EnsA],#[∅,λe he=>(nomatch he),λe he=>(nomatch he)],am _,λr h=>h],tF,tF,rfl] (λi σ H' _ ⟨⟨_,_,h,_⟩,_⟩=>h.seq hX) ?_ ?_]
   ·refine nm4 ?_;rintro i x σ H1 hx ⟨⟨bs,tK,s1,hH1,hI1,hB,hbi,hr⟩,v3,v4,rfl⟩:_;have hix:=(tL.mp hx).1;let#[e,pe,se,hei,rfl,hqe,hse]:=hI.get hx;have hEe:=hE e (ag hei)
    have hdrop:zs.drop i=e::zs.drop (i+1):=by
     let#[h1,h2]:=tL.mp hei;rw[aO h1,h2]
    rw[hdrop]at hr;have hal:=hI1.len;have hbn:=hB.n
    have hIs:Is K H1 (.lst (bs.map dE)) (.ref D):=by
     erw[Is]
     exact#[D,tK,rfl,x6 hH1,(hI1.same wd).iss]
    right
    erw[yW,bu,bt]
    change Same H1 H'/\∃v:V,zfN K H1 H' bs e v/\σ=[!!o,!!a,!!D,!!pe,tE (v)]
    ·ac_rfl;exact J3 hG hIs hB (zl s1 hqe) (hse.same s1) hEe (λi' j' H' a1 a2 a3 s'=>#[s',i',j',a1,a2,.inl #[a3,rfl]]) (λi' j' p' s' H' a1 a2 a3 t' a4 a5 a6=>#[t',i',j',a1,a2,.inr #[a3,p',s',rfl,a4,a5,a6]]) λh H' s'=>q2 (hr _ (.stuck h)) H' (s1.trans s')
    rintro σ H2 ⟨s2,v,⟨i',j',hi',hj',hc⟩,rfl⟩:0;rcases hc with ⟨hw,rfl⟩ | ⟨hw,p',s',rfl,hsn,hp',hL'⟩
    ·ac_rfl;exact#[bs,tK,s1.trans s2,s2 _ _ hH1,hI1.same (xF s2),hB,⋯,λr h=>hr r (.same hi' hj' hw h)]
    ·ac_rfl
     try rw[z6 not_false]
     have hdl:=Je hB hG hEe hi'.most hj'.most;change H'=H2/\¬ uY (yo bs e i' j')/\σ=[!!o,!!a,!!D,!!pe,!!p']
     ·ac_rfl;exact Vb (x8 hp') hL'.is hdl.1 hdl.2 (λh=>#[rfl,h]) λh=>q2 (hr _ (.far hi' hj' hw h)) H2 (s1.trans s2)
     rintro σ H3 ⟨rfl,hF,rfl⟩:_;have hEd:=J4 hB hEe hF;have hH3:=s2 _ _ hH1
     have fin:∀(v:V) (H4:Hp),Same H3 H4->EnA K (jM D H4) (zQ k l ns (yo bs e i' j')) v->zfw K H D k l ns zs (i+1) (upd H4 D (.lst (tK ++ [v]))):=λv H4 s4 hv=>by
      refine#[bs ++ [zQ k l ns (yo bs e i' j')],tK ++ [v],zH (s1.trans (s2.trans s4)) hD,zb,?_,hB.snoc ⋯ hEd hw,by rw[aq];show bs.length+1<=i+1;lia,λr h=>hr r (.new hi' hj' hw hF h)];exact (hI1.same ((xF (s2.trans s4)).trans y0)).snoc (hv.same y0)
     right;ac_rfl;refine#[.inl #[_,x6 hH3],j9 (ho.same (s1.trans s2)) hG (x8 hp') hL'.is hEd (λer H4 s4=>#[tK,s4 _ _ hH3,⋯,fin _ _ s4 ?_]) λp2 t2 H4 s4 htn hp2 hL2=>#[tK,s4 _ _ hH3,⋯,fin _ _ s4 ?_]]
     ·rw[er];exact EnA.new (s4 _ _ hH3) (s4 _ _ hp') (hL'.same s4) (λz=>by rw[z,hH1]at hsn;cases hsn)
     ·exact EnA.new (s4 _ _ hH3) hp2 hL2 (λz=>by rw[z,hH3]at htn;cases htn)
   ·refine nmB ?_;rintro σ H' ⟨h,v3,v4,rfl⟩:_;rw[hxl]at h;right;exact#[h,_,_,rfl]
  rintro σ H2 ⟨⟨bs,tK,s2,hH2,hI2,hB,hbi,hr⟩,v3,v4,rfl⟩:_;rw[eY]at hr;right;ac_rfl;exact q1 bs D H2 (hr _ (.nil bs)) hB s2 hD #[tK,hH2,hI2.same wd]
theorem Jx(rs ss:List zG):vT (rs.map dR) (ss.map dR)=decide (rs=ss):=by
 induction rs generalizing ss with
 | nil=>cases ss with
  | nil=>simp [vT]
  | cons s ss=>simp [vT]
 | cons r rs ih=>cases ss with
  | nil=>simp [vT]
  | cons s ss =>
   rw[ak,ak,vT,ih]
   have h:eqD (dR r) (dR s)=decide (r=s):=by
    let#[a,b]:=r;let#[c,d]:=s
    have e1:∀x y:(),eqD (dS x) (dS y)=decide (x=y):=λx y=>by
     have:eqD (dS x) (dS y)=decide (tx x=tx y):=by erw[dS,eqD];rfl
     rw[this];exact decide_eq_decide.mpr #[kd,λh=>by rw[h]]
    erw[dR,eqD,vT,e1]
    by_cases h1:a=c <;> by_cases h2:b=d <;> simp [h1,h2]
   rw[h];by_cases h1:r=s <;> by_cases h2:rs=ss <;> simp [h1,h2]
def Lined.eb(h:Lined k l ns es zs)(hE:∀e ∈ es,EB l e):∀e ∈ zs,EB l e:=λe he=>by
 have hm:=h.perm.mem_iff.mp he;unfold vS at hm;let#[y,hy,rfl]:=tM.mp hm;exact (hE y (tT.mp hy).1).rule
def Lined.len(h:Lined k l ns es zs):zs.length<=es.length:=by rw[h.perm.length_eq];exact Xj k l ns es
def Xe(K:pB)(CO CR CW T CF:pC):Sp:=λvs H Q E=>∃(o a:pC) (k:Nat) (l:()) (ns:List Int) (es:List Ent),vs=[.ref o,.ref a]/\OrdAt CO CR CW H o k l ns/\OG l ns k/\EnsL K H a es/\es.length<64/\(∀e ∈ es,EB l e)/\TabOk H T lp lq /\
 (∀(bs:List Ent) (D:pC) (H':Hp),wH k l ns 20 es (tE bs)->BG k l ns bs->SamT T H H'->TabOk H' T lp lq->EnsM K H' D bs->Q (.ref D) H')/\(wH k l ns 20 es tF->∀H',SamT T H H'->TabOk H' T lp lq->E (.ref CF) tF H')
def zgg(K:pB)(T:pC)(H:Hp)(k:Nat)(l:())(ns:List Int)(es:List Ent)(n:Nat)(H':Hp)(b:pC):Prop:=∃fs:List Ent,SamT T H H'/\TabOk H' T lp lq/\(∀r,wH k l ns n fs r->wH k l ns 20 es r)/\EnsL K H' b fs/\fs.length<64/\∀e ∈ fs,EB l e
def lQ:sQz 2 ["order","entries","turn","lined_up"] jE:=by nofun
def Vd{f CO CR CW TB CF:pC}(B:Bt mg)(T:zaU K mg CF)(TM:TMo mg)(F:("thinned"^^^jE))(oM:(6<<<"in_order") ["order","entries"] [] (kL K CO CR CW TB))(oo:(6>>>"built_anew") ["order","entries"] [] (Zg K CO CR CW CF))(ij:(1<<<"pairs_of") ["entries"] [] (vn K)):(7|||["order","entries"]) (Xe K CO CR CW TB CF):=by
 let#[t9,g9]:=TM.p
 exists Fun.okX F lQ,0
 ·let#[o,a,k,l,ns,es,rfl,ho,hG,hA,hz,hE,hTab,q1,q2]:=h
  refine#[_,(zg (xh PassesOwn.leaving rfl (wc rfl B.range (za (yT (v:=.int 20) rfl g9 #[t9,rfl]) zd)) (zr (i:=2) lQ.nd rfl (.inl rfl)) (zg (zE 3 lQ.nd (cl0 oM hr .nil rfl (za (pv 0) (za (pv 1) zd)))) (zg (zE 1 lQ.nd (clP hx oo hr .nil rfl (za (pv 0) (za (pv 3) zd)))) (zh (zS (zB (X7 (uJ hr)) (cl0 ij hr .nil rfl (za (pv 1) zd)) (cl0 ij hr .nil rfl (za (pv 3) zd)) (zF _)) (zh (zp (pv 1)))
     zv))))) (zh (yS hx rfl T.xi.toXC T.ini rfl T.g (za zO zd)))),?_]
  have s16:=yb;let#[ps0,hps0,_]:=id hTab;change ∃b:pC,zgg K TB H k l ns es 0 H' b
  ·ac_rfl;refine#[⋯,⋯,ForR.by (λi σ H'=>∃(b:pC) (v2 v3:Option V),zgg K TB H k l ns es (20 - i) H' b/\σ=[!!o,!!b,v2,v3]) #[a,tF,tF,#[es,ja0 (ja3 _),hTab,λr h=>h,hA,hz,hE],rfl] ?_ ?_]
   ·refine nm3 ?_;rintro i σ H1 hi ⟨b,v2,v3,⟨fs,s1,hT1,hr,hF,hfl,hFE⟩,rfl⟩:_;have ho1:=ho.samT s1 hps0;have hi20:i<20:=hi;obtain⟨n,hn⟩:∃n,20 - i=n+1:=#[20 - i - 1,⋯];rw[hn]at hr;right
    erw[yW,bu,bt]
    change SamT TB H1 H'/\TabOk H' TB lp lq/\∃(z:pC),(∃zs:List Ent,Lined k l ns fs zs/\EnsM K H' z zs)/\∃v2,σ=[!!o,!!b,v2,!!z]
    ·ac_rfl;exact UH ho1 hG hF hfl hFE hT1 λD zs H' s' hT' Z hLn hM=>#[s',hT',D,#[zs,hLn,hM],rfl]
    rintro σ H2 ⟨s2,hT2,z,⟨zs,hLn,hZ⟩,v2,rfl⟩:_;have s12:=s1.trans s2;have ho2:=ho.samT s12 hps0;have hzE:=hLn.eb hFE;have hzl:=hLn.len;right;change Same H2 H'/\∃(c:pC),(∃bs:List Ent,xq k l ns [] zs (tE bs)/\BG k l ns bs/\EnsM K H' c bs)/\σ=[!!o,!!c,v2,!!z]
    ·ac_rfl;exact U0 ho2 hG hZ.l ⋯ hzE (λbs D H' hb hB s' Z hM=>#[s',D,#[bs,hb,hB,hM],rfl]) λhb H' s'=>q2 (hr _ (.bad hLn hb)) H' (s12.trans (ja0 s')) (hT2.same s')
    rintro σ H3 ⟨s3,c,⟨bs,hb,hB,hM⟩,rfl⟩:_;have hbn:=hB.n;right;ac_rfl;refine wP hM.l.is ⋯ λP1 H4 Z s4 hP1=>wP ((hZ.same s3).same s4).l.is ⋯ λP2 H5 Z s5 hP2=>kA (.inl #[(hP1.same s5).is,hP2.is]) (bn (U8 _) ∅) ?_;rw[Jx];have s45:=s4.trans s5;have s15:=s12.trans (ja0 (s3.trans s45));have hT5:=hT2.same (s3.trans s45);refine#[_,rfl,yC (λh=>?_) λh=>?_]
    ·exact q1 bs c H5 (hr _ (.done hLn hb (y3 h))) hB s15 hT5 (hM.same s45)
    ·have e:20 - (i+1)=n:=⋯;rw[e];exact#[bs,s15,hT5,λr h'=>hr r (.more hLn hb (λz=>h (y4 z)) h'),(hM.same s45).l,hbn,hB.e]
   ·refine nmB ?_;rintro σ H' ⟨b,v2,v3,h,rfl⟩:0;exact#[b,h]
  rintro σ H2 ⟨b,fs,s2,hT2,hr,_⟩:0;ac_rfl;exact#[⋯,q2 (hr _ (.out fs)) H2 s2 hT2]
def YO(K:pB):Sp:=λvs H Q Z=>∃(a:pC) (ns:List Int) (k:Int),vs=[.ref a,.int k]/\SqL K H a (ns.map V.int)/\(∀z ∈ ns,ub z)/\0<=k/\∀c:Int,ub c->Q (.int c) H
def y8{ns:List Int}(hS:SqL K H a (ns.map V.int))(hB:∀z ∈ ns,ub z)(hk:0<=k)(h:∀c:Int,ub c->Q (.int c) H):YO K [.ref a,.int k] H Q E:=#[a,ns,k,rfl,hS,hB,hk,h]
def zaJ:sQz 2 ["_law_script","_law_k"] U1:=by nofun
def zbL(B:Bt mg)(F:("_law_cell"^^^U1)):(1&&&["_law_script","_law_k"]) (YO K):=by
 exists F.ok zaJ
 ·let#[a,ns,k,rfl,hS,hB,hk,q]:=h
  refine#[_,(zZ (zS (zB Qu (pv 1) (zR B.len (pv 0)) (zF _)) (zh (zp (zk zam (pv 0) (pv 1))))
    zv) (zh (zp ze))),?_]
  have s16:=yb
  rfl'
  refine#[_,.inl #[_,hS,rfl],yC (λc=>?_) (λc=>q 0 (by unfold ub;decide))];let#[v,h1,h2]:=Z3 hk c;rw[ay]at h2;let#[z,hz,rfl]:=tS.mp h2;exact .inl #[_,hS,_,h1,q z (hB z (ag hz))]
def xx:Sp:=λvs H Q Z=>∃(c t:Int),vs=[.int c,.int t]/\ub c/\0<=t/\t<=100/\∀z:Int,0<=z->Q (.int z) H
def zW(hc:ub c)(h0:0<=t)(h1:t<=100)(q:∀z:Int,0<=z->Q (.int z) H):xx [.int c,.int t] H Q E:=#[c,t,rfl,hc,h0,h1,q]
def oq:sQz 2 ["_law_cell_here","_law_turn","_law_number"] Xt:=by nofun
def J9(B:Bt mg)(F:("_law_mixed"^^^Xt)):(1&&&["_law_cell_here","_law_turn"]) xx:=by
 exists F.ok oq
 ·let#[c,t,rfl,hc,h0,h1,q]:=h
  refine#[_,(zZ (zE 2 oq.nd (zq xt (zq j7 (zq J5 (pv 0) (pv 0)) ze) (zq j7 (zq j7 (pv 0) ze) (zq xt (pv 1) ze)))) (zh (zp (zq Ud (zq yq (zq xt (pv 2) (zq j7 (pv 1) ze)) ze) ze)))),?_]
  have s16:=yb
  rfl'
  exact#[hc,hc,.inr #[∅,∅],.inr #[∅,∅],.inr #[⋯,⋯],.inr #[∅,∅],∅,#[∅,∅],q _ (Int.ediv_nonneg (cG _ ∅) ∅)]
def uA:Sp:=λvs H Q Z=>∃c m:Int,vs=[.int c,.int m]/\ub c/\0<=m/\m<=26/\∀l:(),(l.length:Int)=m->l.Nodup->ZS l->Q ⇑l H
def wD(h:ub c)(h0:0<=m)(h1:m<=26)(q:∀l:(),(l.length:Int)=m->l.Nodup->ZS l->Q ⇑l H):uA [.int c,.int m] H Q E:=#[c,m,rfl,h,h0,h1,q]
def zf6(c m:Int)(i:Nat)(σ:L2.St):Prop:=∃(left found:()) (number:Int) (v5 v6:Option V),found.length=i/\(found ++ left).Perm alpha/\σ=[~~~!c,~~~!m,~~~left,~~~!number,~~~found,v5,v6]
def ic:sQz 2 ["_law_cell_here","_law_many","_law_left","_law_number","_law_letters_here","_law_k","_law_at"] jp:=by nofun
def Vm(B:Bt mg)(F:("_law_letters"^^^jp))(gK:(1<<<"_law_mixed") ["_law_cell_here","_law_turn"] [] xx):(2&&&["_law_cell_here","_law_many"]) uA:=by
 exists F.ok ic
 ·let#[c,m,rfl,hc,h0,h1,q]:=h
  refine#[_,(zg (zE 2 ic.nd zO) (zg (zE 3 ic.nd (cl0 gK hr .nil rfl (za (pv 0) (za ze zd)))) (zg (zE 4 ic.nd zO) (zg (xh o9 rfl (wc rfl B.range (za (pv 1) zd)) (zr (i:=5) ic.nd rfl (.inl rfl)) (zg (zE 6 ic.nd (zq yq (pv 3) (zR B.len (pv 2)))) (zg (zE 3 ic.nd (zq Ud (pv 3) (zR B.len (pv 2)))) (zg (zE 4 ic.nd (zq yH (pv 4) (zk vW (pv 2) (pv 6)))) (zh (zE 2 ic.nd (zq yH (yE vg (pv 2) wz (yF (pv 6))) (yE vg (pv 2) (yF (zq xt (pv 6) ze)) wz)))))))) (zh (zp (pv 4))))))),?_]
  have s16:=yb;have ha:alpha.length=26:=rfl;change H'=H/\σ=%[~~~!c,~~~!m,~~~alpha|4]
  ·rfl'
   exact Ur
  rintro σ H1 ⟨rfl,rfl⟩:0;change H'=H1/\∃z:Int,σ=%[~~~!c,~~~!m,~~~alpha,~~~!z|3]
  ·rfl'
   exact zW hc ∅ ∅ λz Z=>#[rfl,z,rfl]
  rintro σ H2 ⟨rfl,z,rfl⟩:0;change H'=H2/\σ=%[~~~!c,~~~!m,~~~alpha,~~~!z,tE ⇑[]|2]
  ·rfl'
   rfl
  rintro σ H3 ⟨rfl,rfl⟩:0;change H'=H3/\zf6 c m m.toNat σ
  ·rfl'
   refine#[⋯,⋯,ForR.by (λi σ H'=>H'=H3/\zf6 c m i σ) #[rfl,alpha,[],z,tF,tF,rfl,.refl _,rfl] ?_ λσ H' h=>h];refine nm3 ?_;rintro i σ H' hi ⟨rfl,left,found,number,v5,v6,hf,hp,rfl⟩:_;have hpl:=hp.length_eq;rw[aq]at hpl;have hl:left.length+i=26:=⋯;have hm0:=cG number (b:=(left.length:Int)) ⋯;have hm1:=cE number (b:=(left.length:Int)) ⋯;right;generalize hz:number % (left.length:Int)=at_ at hm0 hm1;let#[v,e1,e2]:=Z3 hm0 hm1
   erw[yW,bu,bt]
   refine zj (λσ H''=>H''=H'/\∃v5,σ=[~~~!c,~~~!m,~~~left,~~~!number,~~~found,v5,~~~!at_]) ?_ ?_
   ·rfl'
    exact#[⋯,⋯,hz]
   rintro σ G1 ⟨rfl,v5',rfl⟩:0;refine zj (λσ H''=>H''=G1/\∃n v5,σ=[~~~!c,~~~!m,~~~left,~~~!n,~~~found,v5,~~~!at_]) ?_ ?_
   ·rfl'
    exact#[⋯,#[⋯,⋯]]
   rintro σ G2 ⟨rfl,n,v5',rfl⟩:0;refine zj (λσ H''=>H''=G2/\∃v5,σ=[~~~!c,~~~!m,~~~left,~~~!n,tE ⇑(found ++ [v]),v5,~~~!at_]) ?_ ?_
   ·rfl'
    exact#[⋯,v,e1,⋯,rfl]
   rintro σ G3 ⟨rfl,v5',rfl⟩:_;have hc1:=wM left tF (tE at_);have hc2:=wM left (tE (at_+1)) tF;right
   rfl'
   refine#[⋯,⋯,⋯,_,_,_,_,_,by rw[aq,hf];rfl,?_,rfl];rw[Yg _ hm0,qr _ ⋯,aU];have e3:(at_+1).toNat=at_.toNat+1:=⋯;rw[e3];exact ((Uf e2).append_left found).trans hp
  rintro σ H4 ⟨rfl,left,found,number,v5,v6,hf,hp,rfl⟩:0
  rfl'
  have hnd:(found ++ left).Nodup:=hp.nodup_iff.mpr ∅;refine q found ⋯ (List.nodup_append.mp hnd).1 λc hc=>?_;have h:c ∈ alpha:=hp.mem_iff.mp (bF _ hc);exact (by decide:∀c ∈ alpha,97<=c/\c<=122) c h
structure zgu(K:pB):Prop where
 ii:aS K (.type "int") (.type "int")=tE tG
 ib:aS K (.type "int") (.type "bool")=tE tH
def k9:Sp:=λvs H Q Z=>∃i:Int,vs=[.int i]/\Q (.bl tG) H
def Yc(h:Q (.bl tG) H):k9 [.int i] H Q E:=#[i,rfl,h]
def Ju:sQz 1 ["_law_found"] Xq:=by nofun
def Jd(B:Bt mg)(T:zgu K)(F:("_law_whole"^^^Xq)):(1&&&["_law_found"]) k9:=by
 exists F.ok Ju
 ·let#[i,rfl,q]:=h;refine#[_,(zh (zp (va (yN rfl B.isi (pv 0) rfl B.int PySem.Pv.boot_int) (w9 (jF (yN rfl B.isi (pv 0) rfl B.bool jb3)))))),?_]
  rfl'
  exact#[_,.inl (.int _),tG,T.ii,zen #[_,.inl (.int _),tH,T.ib,q]]
structure TLs(K:pB):Prop where
 ll:aS K (.type "list") (.type "list")=tE tG
 tt:aS K (.type "tuple") (.type "tuple")=tE tG
 bb:aS K (.type "bool") (.type "bool")=tE tG
def WP(K:pB):Sp:=λvs H Q Z=>∃(t:pC) (ss:List Stp),vs=[.ref t]/\Is K H (.lst (ss.map dSt)) (.ref t)/\Q (.bl tG) H
def ot:sQz 1 ["_law_found","_law_step"] YY:=by nofun
def JW(B:Bt mg)(T:TLs K)(F:("_law_steps"^^^YY))(oJ:(1<<<"_law_whole") ["_law_found"] [] k9):(2&&&["_law_found"]) (WP K):=by
 exists F.ok ot
 ·let#[t,ss,rfl,hT,q]:=h
  refine#[_,(zg (zS (yl (yU (yN rfl B.isi (pv 0) rfl B.list jb0) (λZ=>rfl))) (zh (zp yA))
    zv) (zg (xh o9 rfl (ye (pv 0)) (zr (i:=1) ot.nd rfl (.inl rfl)) (zg (zS (PW.pt (w4 (yl (yU (yN rfl B.isi (pv 1) rfl B.tuple jb1) (λZ=>rfl))) (w4 (zB Yd (zR B.len (pv 1)) ze (zF _)) (wY (yl (yU (yN rfl B.isi (!-1) rfl B.bool jb3) (λZ=>rfl))))))) (zh (zp yA))
     zv) (zh (zS (PW.pt (w4 (yl (yU (cl0 oJ hr .nil rfl (za (!-1) zd)) (λZ=>rfl))) (wY (yl (yU (cl0 oJ hr .nil rfl (za (!-1) zd)) (λZ=>rfl)))))) (zh (zp yA))
     zv)))) (zh (zp yA)))),?_]
  have s16:=yb
  erw[Is]at hT
  let#[_,ts,e,hTs,hJ]:=hT;cases e;change H'=H/\σ=[!!t,tF]
  ·rfl'
   exact#[_,.inr (.inr (.inl #[_,_,rfl,rfl,hTs])),tG,T.ll,ZO trivial]
  rintro σ H1 ⟨rfl,rfl⟩:0;change H'=H1/\∃v1,σ=[!!t,v1]
  ·rfl'
   refine#[#[_,hTs],ForL.by (xs:=ts) (λi σ H'=>H'=H1/\∃v1,σ=[!!t,v1]) #[rfl,_,rfl] (λi σ H' Z h=>by rw[h.1];exact hTs) ?_ λσ H' h=>h];refine nm4 ?_;rintro i x σ H' hx ⟨rfl,v1,rfl⟩:_;let#[u,pu,hui,rfl,hqu]:=vo hJ hx;right
   erw[yW,bu,bt]
   refine zj (λσ H''=>H''=H'/\σ=[!!t,!!pu]) ?_ ?_
   ·rfl'
    exact#[_,.inr (.inr (.inr #[_,_,rfl,rfl,hqu])),tG,T.tt,ZO #[_,.inr #[_,hqu,rfl],yC (λh=>y9 rfl h) λZ=>#[_,hqu,_,rfl,_,.inl (.bl _),tG,T.bb,ZO trivial]]]
   rintro σ G ⟨rfl,rfl⟩:0
   rfl'
   exact#[_,hqu,_,rfl,Yc #[tG,rfl,ZO #[_,hqu,_,rfl,Yc #[tG,rfl,ZO rfl]]]]
  rintro σ H2 ⟨rfl,v1,rfl⟩:0
  rfl'
  exact q
def Zm(K:pB):Sp:=λvs H Q Z=>∃(a t:pC) (rs:List zG) (w w':()) (s:Stp),vs=[.ref a,⇑w,.ref t]/\Is K H (.lst (rs.map dR)) (.ref a)/\jV rs/\w.length<=300000/\SqT K H t [.int s.1,.int s.2.1,.bl s.2.2]/\yf rs w s=tE w'/\Q ⇑w' H
def V7{w w':()}(h1:Is K H (.lst (rs.map dR)) (.ref a))(h2:jV rs)(h3:w.length<=300000)(h4:SqT K H t [.int s.1,.int s.2.1,.bl s.2.2])(h5:yf rs w s=tE w')(q:Q ⇑w' H):Zm K [.ref a,⇑w,.ref t] H Q E:=#[a,t,rs,w,w',s,rfl,h1,h2,h3,h4,h5,q]
def mq:sQz 3 ["_law_pacts","_law_word","_law_step","_law_old","_law_new"] VW:=by nofun
def zbi{f:pC}{fd:pT}(B:Bt mg)(F:("_law_used"^^^VW)) :(1&&&["_law_pacts","_law_word","_law_step"]) (Zm K):=by
 refine F.ok mq (λvs H Q E h=>?_) (λcdv A outer s H vs Q E hr h=>?_)
 ·let#[a,t,rs,w,w',s,rfl,_]:=h;rfl
 ·let#[a,t,rs,w,w',s,rfl,hR,ok,hw,ht,ha,q]:=h
  refine#[_,(zg (zE 3 mq.nd (zk v9 (zk ix_list (pv 0) (!-2)) ze)) (zg (zE 4 mq.nd (zk v9 (zk ix_list (pv 0) (!-2)) ze)) (zg (zS (yl (yU (!-2) (λZ=>rfl))) (zZ (zE 3 mq.nd (zk v9 (zk ix_list (pv 0) (!-2)) ze)) (zh (zE 4 mq.nd (zk v9 (zk ix_list (pv 0) (!-2)) ze))))
    zv) (zh (zp (zq yH (zq yH (yE vg (pv 1) wz (yF (!-2))) (pv 4)) (yE vg (pv 1) (yF (zq xt (!-2) (zR B.len (pv 3)))) wz))))))),?_]
  have s16:=yb
  erw[Is]at hR
  let#[_,xs,e,hX,hI]:=hR;cases e;have hb:0<=s.1/\s.1<rs.length:=bg λhb=>by rw[xD hb]at ha;cases ha
  let#[p,a1,_,hp]:=zcQ hI hb.1 hb.2;have gl:=YS ok s.1.toNat;rw[yL hb]at ha;generalize rs.getD s.1.toNat ([],[])=r at *;change H'=H/\σ=[!!a,~~~w,!!t,tE ⇑r.1,tF]
  ·rfl'
   exact#[_,ht,_,rfl,_,rfl,_,hX,_,a1,_,rfl,_,hp,rfl]
  rintro σ H1 ⟨rfl,rfl⟩:0;change H'=H1/\σ=[!!a,~~~w,!!t,tE ⇑r.1,tE ⇑r.2]
  ·rfl'
   exact#[_,ht,_,rfl,_,rfl,_,hX,_,a1,_,rfl,_,hp,rfl]
  rintro σ H2 ⟨rfl,rfl⟩:0;change H'=H2/\σ=[!!a,~~~w,!!t,tE ⇑(sdl r s.2.2).1,tE ⇑(sdl r s.2.2).2]
  ·rfl'
   refine#[_,ht,_,rfl,_,rfl,yC (λh=>#[_,ht,_,rfl,_,rfl,_,hX,_,a1,_,rfl,_,hp,_,rfl,_,ht,_,rfl,_,rfl,_,hX,_,a1,_,rfl,_,hp,_,rfl,?_]) λh=>?_]
   ·rw[h];exact#[rfl,rfl]
   ·rw[Bool.not_eq_false]at h;rw[h];exact#[rfl,rfl]
  rintro σ H3 ⟨rfl,rfl⟩:_
  have hol:(sdl r s.2.2).1.length<=100:=by
   cases s.2.2
   ·exact gl.2
   ·exact gl.1
  have hnl:(sdl r s.2.2).2.length<=100:=by
   cases s.2.2
   ·exact gl.1
   ·exact gl.2
  right;generalize sdl r s.2.2=on at *;have hst:zt w s.2.1 on.1=tG:=bg λhst=>by rw[z9 hst]at ha;cases ha
  rw[z6 hst]at ha;let#[_,_,h0,h1]:=yZ hst;have c1:=wM w tF (tE s.2.1);have c2:=wM w (tE (s.2.1 + ↑on.1.length)) tF
  rfl'
  refine#[_,ht,_,rfl,_,rfl,⋯,⋯,_,ht,_,rfl,⋯,_,rfl,⋯,?_,?_]
  ·rw[aq];lia
  ·rw[zaO h0];cases ha;exact q
def XQ(hp:H p=tE (.lst ys))(h:SqT K H a xs):SqT K (upd H p (.lst zs)) a xs:=by
 rcases h with (h | ⟨o,h⟩) | h
 ·exact .inl (.inl (by rw[zm (λe=>by rw[e,hp]at h;cases h)];exact h))
 ·exact .inl (.inr #[o,by rw[zm (λe=>by rw[e,hp]at h;cases h)];exact h])
 ·exact .inr h
def QC{w w':()}(h:yf rs w s=tE w'):0<=s.1/\s.1<rs.length:=bg λhb=>by rw[xD hb]at h;cases h
def Wq(K:pB):Sp:=λvs H Q Z=>∃(a t:pC) (rs:List zG) (w w':()) (ss:List Stp),vs=[.ref a,⇑w,.ref t]/\Is K H (.lst (rs.map dR)) (.ref a)/\jV rs/\w.length<=60/\Is K H (.lst (ss.map dSt)) (.ref t)/\ss.length<=2000/\yc rs w ss=tE w'/\Q ⇑w' H
def zbV{w w':()}(h1:Is K H (.lst (rs.map dR)) (.ref a))(h2:jV rs)(h3:w.length<=60)(h4:Is K H (.lst (ss.map dSt)) (.ref t))(h5:ss.length<=2000)(h6:yc rs w ss=tE w')(q:Q ⇑w' H):Wq K [.ref a,⇑w,.ref t] H Q E:=#[a,t,rs,w,w',ss,rfl,h1,h2,h3,h4,h5,h6,q]
def VF{w w':()}(h:yc rs w ss=tE w')(hs:ss[i]? = tE s)(h1:yc rs w (ss.take i)=tE w1):∃w2,yf rs w1 s=tE w2/\yc rs w (ss.take (i+1))=tE w2:=by
 have e:ss=ss.take (i+1) ++ ss.drop (i+1):=(cF _ _).symm;rw[e,xw]at h;let#[w2,h2,_]:=Aa.mp h;refine#[w2,?_,h2];rw[zP hs,xw,h1]at h2
 erw[yc,bW]at h2
 let#[w3,h3,h4]:=Aa.mp h2;cases h4;exact h3
def nL:sQz 3 ["_law_pacts","_law_word","_law_steps_here","_law_step","_law_old"] zci:=by nofun
def zcM{f:pC}{fd:pT}(B:Bt mg)(F:("_law_end"^^^zci))(pb:(1<<<"_law_used") ["_law_pacts","_law_word","_law_step"] [] (Zm K)):(2&&&["_law_pacts","_law_word","_law_steps_here"]) (Wq K):=by
 refine F.ok nL (λvs H Q E h=>?_) (λcdv A outer s H vs Q E hr h=>?_)
 ·let#[a,t,rs,w,w',ss,rfl,_]:=h;rfl
 ·let#[a,t,rs,w,w',ss,rfl,hR,ok,hw,hT,hsl,hwk,q]:=h
  refine#[_,(zg (xh o9 rfl (ye (pv 2)) (zr (i:=3) nL.nd rfl (.inl rfl)) (zg (zS (PW.pt (w4 (zB Qu (!-3) ze (zF _)) (w4 (zB op_ge' (!-3) (zR B.len (pv 0)) (zF _)) (wY (zB Qu (!-3) ze (zF _)))))) (zh (zp xj))
     zv) (zg (zE 4 nL.nd (zk v9 (zk ix_list (pv 0) (!-3)) (zq vD ze (yR Qg rfl B.int PySem.Pv.boot_int (za (!-3) zd))))) (zg (zS (PW.pt (w4 (zB Jw (zq xt (!-3) (zR B.len (pv 4))) (zR B.len (pv 1)) (zF _)) (wY (zB Yd (yE vg (pv 1) (yF (!-3)) (yF (zq xt (!-3) (zR B.len (pv 4))))) (pv 4) (zF _))))) (zh (zp xj))
     zv) (zh (zE 1 nL.nd (cl0 pb hr .nil rfl (za (pv 0) (za (pv 1) (za (pv 3) zd)))))))))) (zh (zp (pv 1)))),?_]
  have s16:=yb;have hR':=hR;have hT':=hT
  erw[Is]at hR' hT'
  let#[_,xs,e,hX,hI]:=hR';cases e;let#[_,ts,e,hTs,hJ]:=hT';cases e;have htl:=hJ.len;rw[aa]at htl;change H'=H/\∃v3 v4,σ=[!!a,~~~w',!!t,v3,v4]
  ·rfl'
   refine#[#[_,hTs],ForL.by (xs:=ts) (λi σ H'=>H'=H/\∃w1 v3 v4,yc rs w (ss.take i)=tE w1/\w1.length<=60+i * 100/\σ=[!!a,~~~w1,!!t,v3,v4]) #[rfl,w,_,_,rfl,⋯,rfl] (λi σ H' Z h=>by rw[h.1];exact hTs) ?_ ?_]
   ·refine nm4 ?_;rintro i x σ H' hx ⟨rfl,w1,v3,v4,hw1,hl1,rfl⟩:_;let#[s,ps,hsi,rfl,hqs]:=vo hJ hx;have hil:=(tL.mp hsi).1;let#[w2,haf,hw2]:=VF hwk hsi hw1;have hl2:=QA ok haf;have hb:=QC haf;let#[p,a1,_,hp]:=zcQ hI hb.1 hb.2;have gl:=YS ok s.1.toNat;have ha:=haf;rw[yL hb]at ha;right;generalize rs.getD s.1.toNat ([],[])=r at *;have hst:zt w1 s.2.1 (sdl r s.2.2).1=tG:=bg λhst=>by rw[z9 hst]at ha;cases ha
    let#[_,_,h0,h1]:=yZ hst
    erw[yW,bu,bt]
    refine zj (λσ H''=>H''=H'/\σ=[!!a,~~~w1,!!t,!!ps,v4]) ?_ ?_
    ·rfl'
     exact#[_,hqs,_,rfl,_,rfl,yC (λh=>y9 hb.1 ⋯) λZ=>#[_,hqs,_,rfl,_,.inl #[_,hX,rfl],_,rfl,yC (λh=>y9 hb.2 (by have:=hI.len;rw[aa]at this;lia)) λZ=>#[_,hqs,_,rfl,_,rfl,yC (λh=>y9 h0 ⋯) λZ=>trivial]]]
    rintro σ G ⟨rfl,rfl⟩:0;refine zj (λσ H''=>H''=G/\σ=[!!a,~~~w1,!!t,!!ps,tE ⇑(sdl r s.2.2).1]) ?_ ?_
    ·rfl'
     refine#[_,hqs,_,rfl,_,rfl,_,hX,_,a1,_,hqs,_,rfl,.inr #[_,rfl,_,rfl,_,hp,?_]];cases s.2.2 <;> rfl
    rintro σ G1 ⟨rfl,rfl⟩:0;refine zj (λσ H''=>H''=G1/\σ=[!!a,~~~w1,!!t,!!ps,tE ⇑(sdl r s.2.2).1]) ?_ ?_
    ·rfl'
     have hol:(sdl r s.2.2).1.length<=100:=by
      cases s.2.2
      ·exact gl.2
      ·exact gl.1
     refine#[_,hqs,_,rfl,⋯,_,rfl,⋯,yC (λh=>y9 h1 ⋯) λZ=>#[_,hqs,_,rfl,_,rfl,_,hqs,_,rfl,⋯,_,rfl,⋯,yC (λh=>y9 ?_ h) λZ=>trivial]];have hst':=hst;unfold zt at hst';rw[decide_eq_true_eq]at hst';rw[Y7 _ h0 ⋯ ⋯];have e:(s.2.1+((sdl r s.2.2).1.length:Int) - s.2.1).toNat=(sdl r s.2.2).1.length:=⋯;rw[e];exact hst'.2.2
    rintro σ G2 ⟨rfl,rfl⟩:0
    rfl'
    refine V7 hR ok ⋯ hqs haf #[rfl,w2,hw2,⋯,rfl]
   ·refine nmB ?_;rintro σ H' ⟨rfl,w1,v3,v4,hw1,hl1,rfl⟩:_;rw[htl,aI,hwk]at hw1;right;cases hw1;exact#[rfl,_,_,rfl]
  rintro σ H2 ⟨rfl,v3,v4,rfl⟩:0
  rfl'
  exact q
def zeA(hx:XE X E)(D:DMk X.prog X.w X.K X.mg X.base (CXx X.prog X.w) k C ps sp)(hr:Room j X.A)(hg:Gl X x)(hm:X.mg x=tE (.ref C))(ha:PA X (e::es) t)(hdb:‹(x ==("__debug__" : pG))=tH›)(he:‹pq (e::es) X.env=(tH,eval e X.env)::pq es X.env›)(hpl:‹(pQ pos (pq es X.env)).any (·.1)=tH›)(hj:‹k+1<=j›):PE X (.Call (.Name x p) (e::es) [] pos) (UL C sp [] E t):=by let#[f,fd,M,F,hb]:=D.ex;exact QK M F (hr.mono hj) hg hm hb .nil (WA hx) ha hdb he hpl
abbrev zgz(mg:pG->Option pD):Prop:=mg "any" = tF
structure TNT(K:pB)(mg:pG->Option pD)(C:pC):Prop where
 xi:XI K C
 g:mg "NotTurned" = tE (.ref C)
 na:NoAttr K C "number"
def uM:sQz 2 ["self","number"] yd:=by nofun
def uC(T:TNT K mg C)(F:Fun K "__init__" "NotTurned.__init__" yd f fd):(1&&&["self","number"]) (vU C "number"):=by
 exists F.ok uM
 ·let#[x,v,rfl,hx,q]:=h;refine#[_,(zh (QY (pv 0) (pv 1) rfl)),?_]
  erw[zbZ]
  rfl'
  exact#[C,hx,T.xi.toXC,T.na,q]
structure DNT(P:pJ)(w:pR)(K:pB)(mg:pG->Option pD)(base:pS)(C:pC):Prop extends TNT K mg C where
 ini:∃f fd,aj K (.ref C) "__init__" = tE (tE (.ref f))/\bp K (.ref f)=tG/\(1&&&["self","number"]) (vU C "number")/\Binds K fd ["self","number"] []
structure zdB(K:pB)(mg:pG->Option pD)(CH:pC):Prop where
 cl:Cls K CH
 g:mg "System" = tE (.ref CH)
 no:NoAttr K CH "order"
 nr:NoAttr K CH "rules"
def wK(k:Nat)(l:())(ns:List Int):List zG->Nat->Option Nat
 | [],_=>tF
 | r::rs,i=>if zJ k l ns r.2 r.1=tG then wK k l ns rs (i+1)else tE i
theorem We : ∀{ps:List zG} {j i:Nat} {r:zG},(∀(m:Nat) (p:zG),m<i->ps[m]? = tE p->zJ k l ns p.2 p.1=tG)->ps[i]? = tE r->zJ k l ns r.2 r.1=tH->wK k l ns ps j=tE (j+i)
 | [],_,_,_,_,h,_=>by simp at h
 | p::ps,j,0,r,_,h,hl=>by
  cases h;rw[wK,hl,z9 aB];rfl
 | p::ps,j,i+1,r,hb,h,hl=>by
  rw[wK,z6 (hb 0 p (cN _) rfl),We (i:=i) (λm q hm e=>hb (m+1) q ⋯ e) h hl];congr 1;lia
theorem uG : ∀{ps:List zG} {j:Nat},(∀(m:Nat) (p:zG),ps[m]? = tE p->zJ k l ns p.2 p.1=tG)->wK k l ns ps j=tF
 | [],_,_=>rfl
 | p::ps,j,hb=>by
  rw[wK,z6 (hb 0 p rfl)];exact uG λm q e=>hb (m+1) q e
def InL(l:())(ps:List zG):Prop:=∀p ∈ ps,p.1.length<=1000/\p.2.length<=1000/\(∀c ∈ p.1,c ∈ l)/\∀c ∈ p.2,c ∈ l
def qz(K:pB)(CO CR CW CT CH:pC):Sp:=λvs H Q E=>∃(x dx o a:pC) (k:Nat) (l:()) (ns:List Int) (ps:List zG) (xs:List V),vs=[.ref x,.ref o,.ref a]/\H x=tE (.ins CH dx [])/\OrdAt CO CR CW H o k l ns/\OG l ns k/\H a=tE (.lst xs)/\Iss K H (ps.map dR) xs/\InL l ps /\
 (∀i,wK k l ns ps 0=tE i->∀H1,Same H H1->∀d H',zfD H1 d "number" (.int (i:Nat)) H'->E (.ref CT) (tE d) H') /\
 (wK k l ns ps 0=tF->∀(q:pC) (H':Hp),(∀b o',b≠x->H b=tE o'->H' b=tE o')->H' x=tE (.ins CH dx [("order",.ref o),("rules",.ref q)])->H' q=tE (.lst xs)->H q=tF->Q .non H')
def lu:sQz 3 ["self","order","rules","number","rule"] wE:=by nofun
def jU{f CO CR CW CT CH:pC}(B:Bt mg)(T:DNT P w K mg base CT)(TS:zdB K mg CH)(DBk:DB P w K mg base CO CR CW)(F:Fun K "__init__" "System.__init__" wE f fd):(5|||["self","order","rules"]) (qz K CO CR CW CT CH):=by
 let#[fi,fdi,hi,hfn,Fi,Bi]:=T.ini
 exists Fun.okX F lu,0
 ·let#[x,dx,o,a,k,l,ns,ps,xs,rfl,hx0,ho,hG,hA,hI,hP,q1,q2]:=h
  refine#[_,(zg (xh PassesOwn.leaving rfl (vq rfl B.enum (za (pv 2) zd)) (wF (n:=2) rfl (zK (zr (i:=3) lu.nd rfl (.inl rfl)) (zK (zr (i:=4) lu.nd rfl (.inl rfl)) yV))) (zh (zS (yl (yU (zcx DBk hr (pv 1) (za (!-4) (za (!-4) zd))) (λZ=>rfl))) (zh (YD hx rfl T.xi.toXC hi hfn Fi (hr.mono ∅) Bi rfl T.g (za (pv 3) zd)))
     zv))) (zg (WT (pv 0) (pv 1) rfl) (zh (WT (pv 0) (yR yv rfl B.list jb0 (za (pv 2) zd)) rfl)))),?_]
  have s16:=yb;change Same H H'/\wK k l ns ps 0=tF/\∃v3 v4,σ=[!!x,!!o,!!a,v3,v4]
  ·ac_rfl;refine#[#[_,x6 hA],ForEL.by (xs:=xs) (λi σ H'=>Same H H'/\(∀(j:Nat) (p:zG),j<i->ps[j]? = tE p->zJ k l ns p.2 p.1=tG)/\∃v3 v4,σ=[!!x,!!o,!!a,v3,v4]) #[ja3 _,λj p h=>y9 h (bR j),_,_,rfl] ?_ ?_ ?_]
   ·rintro i σ H' _ ⟨hs,_⟩;exact x6 (hs _ _ hA)
   ·refine nmE ?_;rintro i y σ H' p hy ⟨hs,hb,v3,v4,rfl⟩ hpn:_;let#[r,pr,hri,rfl,hqr]:=hI.getR hy;have hm:=hP r (ag hri);have s2:=hs.trans (zc (o:=.tup [.int (i:Nat),.ref pr]) hpn);have ho2:=ho.same s2;have hq2:=zl s2 hqr;let#[C,dy,fs,hf,hoC,hn,_]:=ho2.fam;have hn1:fs.lookup ("before" : pG)=tF:=hn _ ∅ ∅;right;ac_rfl;refine#[_,x8 zb,rfl,_,_,rfl,_,_,rfl,rfl,C,hf,dy,fs,hoC,hn1,_,rfl,_,hq2,_,rfl,_,rfl,_,hq2,_,rfl,o,k,l,ns,r.2,r.1,rfl,ho2,hG,hm.2.1,hm.1,hm.2.2.2,hm.2.2.1,λH3 s3=>?_];have s16:=yb;refine#[_,rfl,yC (λe=>#[⋯,QE (q1 i (by have:=We (j:=0) hb hri e;simpa using this) H3 (s2.trans s3))]) λe=>#[s2.trans s3,λj p' hj hp'=>?_]];by_cases hj':j<i
    ·exact hb j p' hj' hp'
    ·have:j=i:=⋯;rw[this,hri]at hp';cases hp';simpa using e
   ·refine nmB ?_;rintro σ H' ⟨hs,hb,v3,v4,rfl⟩:_;have hxl:=hI.len;rw[aa]at hxl;right;exact#[hs,uG λm p e=>hb m p (by have:=(tL.mp e).1;lia) e,v3,v4,rfl]
  rintro σ H1 ⟨s1,hf,v3,v4,rfl⟩:0;change H'=upd H1 x (.ins CH dx [("order",.ref o)])/\σ=[!!x,!!o,!!a,v3,v4]
  ·ac_rfl;exact#[_,_,_,s1 _ _ hx0,TS.cl,TS.no,∅,rfl]
  rintro σ H2 ⟨rfl,rfl⟩:0;ac_rfl;have hax:a≠x:=λe=>by rw[e,hx0]at hA;cases hA
  refine#[xs,.inl (x6 (by rw[zm hax];exact s1 _ _ hA)),λq hq=>?_];have hqx:q≠x:=λe=>by rw[e,zb]at hq;cases hq
  rw[zm hqx]at hq
  have hqH:H q=tF:=by
   cases e:H q with
   | none=>rfl
   | some o'=>rw[s1 _ _ e]at hq;cases hq
  refine#[CH,dx,_,by rw[zm hqx.symm,zb],TS.cl,TS.nr,by show 1<1000;decide,q2 hf q _ (λb o' hb e=>?_) zb (by rw[zm hqx,zb]) hqH];rw[zm hb,zm (λz=>by rw[z,hqH]at e;cases e),zm hb];exact s1 _ _ e
def Ka(K:pB)(CH:pC)(H:Hp)(y o q:pC)(ps:List zG):Prop:=∃dx xs,H y=tE (.ins CH dx [("order",.ref o),("rules",.ref q)])/\H q=tE (.lst xs)/\Iss K H (ps.map dR) xs
def xR(l m:())(k:Nat):Bool:=decide ((l.drop k).take m.length=m.take (l.length - k))
def lf(rs:List zG)(i:Nat):():=(rs.getD i ([],[])).1
def ur(h:rs[i]? = tE r):lf rs i=r.1:=by unfold lf;rw[ae,h];rfl
def Ya(rs:List zG)(i j n:Nat):List N3:=((aN n).filter λk=>(decide (i≠j) || decide (k≠0)) && xR (lf rs i) (lf rs j) k).map λk=>(i,j,k)
def ovI(rs:List zG)(i m:Nat):List N3:=(aN m).flatMap λj=>Ya rs i j (lf rs i).length
def ovA(rs:List zG)(m:Nat):List N3:=(aN m).flatMap λi=>ovI rs i rs.length
def qL(rs:List zG)(i j n:Nat):Ya rs i j (n+1)=Ya rs i j n ++ (if ((decide (i≠j) || decide (n≠0)) && xR (lf rs i) (lf rs j) n)=tG then [(i,j,n)]else []):=by
 unfold Ya;rw[cq,cU,ar];congr 1
 erw[dZ,dD]
 split <;> rfl
def qB(rs:List zG)(i m:Nat):ovI rs i (m+1)=ovI rs i m ++ Ya rs i m (lf rs i).length:=by unfold ovI;rw[cq,dw];simp
def ku(rs:List zG)(m:Nat):ovA rs (m+1)=ovA rs m ++ ovI rs m rs.length:=by unfold ovA;rw[cq,dw];simp
def qk(rs:List zG)(i j n:Nat):(Ya rs i j n).length<=n:=by unfold Ya;rw[aa];have:=dc (λk=>(decide (i≠j) || decide (k≠0)) && xR (lf rs i) (lf rs j) k) (aN n);rw[cu]at this;exact this
theorem zcI(h:jV rs)(i:Nat):(lf rs i).length<=100:=by
 cases e:rs[i]? with
 | none=>unfold lf;rw[ae,e];exact aw _
 | some r=>rw[ur e];exact (h.2 r (ag e)).1
theorem YN(h:jV rs)(i m:Nat):(ovI rs i m).length<=m * 100:=by
 induction m with
 | zero=>exact aw _
 | succ m ih =>
  rw[qB,aq];have h1:=qk rs i m (lf rs i).length;have h2:=zcI h i;lia
theorem VD(h:jV rs)(m:Nat):(ovA rs m).length<=m * 3000:=by
 induction m with
 | zero=>exact aw _
 | succ m ih =>
  rw[ku,aq];have h1:=YN h m rs.length;have h2:=h.1;lia
def Zf:Sp:=λvs H Q Z=>∃(l m:()) (k:Nat),vs=[⇑l,⇑m,.int (k:Nat)]/\l.length<=1000/\m.length<=1000/\k<=l.length/\Q (.bl (xR l m k)) H
def Yn(h1:l.length<=1000)(h2:m.length<=1000)(h3:k<=l.length)(h:Q (.bl (xR l m k)) H):Zf [⇑l,⇑m,.int (k:Nat)] H Q E:=#[l,m,k,rfl,h1,h2,h3,h]
def Kp:sQz 3 ["one","other","place"] Y8:=by nofun
def Jn(B:Bt mg)(F:("agree"^^^Y8)):(1&&&["one","other","place"]) Zf:=by
 exists F.ok Kp
 ·let#[l,m,k,rfl,hl,hm,hk,q]:=h;refine#[_,(zh (zp (yB xL (yE vg (pv 0) (yF (pv 2)) (yF (zq xt (pv 2) (zR B.len (pv 1))))) (yE vg (pv 1) wz (yF (zq vD (zR B.len (pv 0)) (pv 2)))) (zF _)))),?_];have s16:=yb
  rfl'
  refine#[⋯,⋯,⋯,⋯,?_];rw[zel _ ⋯ ⋯,Yg _ ⋯];have e1:((k:Int)+(m.length:Int) - (k:Int)).toNat=m.length:=⋯;have e2:((l.length:Int) - (k:Int)).toNat=l.length - k:=⋯;rw[e1,e2];exact q
def vK(K:pB):Sp:=λvs H Q Z=>∃(a:pC) (rs:List zG),vs=[.ref a]/\Is K H (.lst (rs.map dR)) (.ref a)/\jV rs/\∀D H',H D=tF->Same H H'->LsA K H' D ((ovA rs rs.length).map d3)->Q (.ref D) H'
def Ye(h1:Is K H (.lst (rs.map dR)) (.ref a))(h2:jV rs)(h:∀D H',H D=tF->Same H H'->LsA K H' D ((ovA rs rs.length).map d3)->Q (.ref D) H'):vK K [.ref a] H Q E:=#[a,rs,rfl,h1,h2,h]
def il:sQz 1 ["rules","found","i","one","j","other","place"] uK:=by nofun
def XB(B:Bt mg)(F:("overlaps"^^^uK))(oW:(1<<<"agree") ["one","other","place"] [] Zf):(2&&&["rules"]) (vK K):=by
 exists F.ok il
 ·let#[a,rs,rfl,hR,ok,q]:=h
  refine#[_,(zZ (zE 1 il.nd (zX zd)) (zZ (xh o9 rfl (vq rfl B.enum (za (pv 0) zd)) (wF (n:=2) rfl (zK (zr (i:=2) il.nd rfl (.inl rfl)) (zK (zr (i:=3) il.nd rfl (.inl rfl)) yV))) (zh (xh o9 rfl (vq rfl B.enum (za (pv 0) zd)) (wF (n:=2) rfl (zK (zr (i:=4) il.nd rfl (.inl rfl)) (zK (zr (i:=5) il.nd rfl (.inl rfl)) yV))) (zh (xh o9 rfl (V2 rfl B.range (za (kD (zB xL (pv 2) (pv 4) (zF _)) ze ze) (za (zR B.len (!-3)) zd))) (zr (i:=6) il.nd rfl (.inl rfl)) (zh (zS (yU (cl0 oW hr .nil rfl (za (!-3) (za (!-5) (za (pv 6) zd)))) (λZ=>rfl)) (zh (ww (ut bE bM bN xg (pv 1) (za (zy (za (pv 2) (za (pv 4) (za (pv 6) zd)))) zd))))
       zv))))))) (zh (zp (pv 1))))),?_]
  have s16:=yb
  rfl'
  erw[Is]at hR
  let#[_,xs,e,hX,hI]:=hR;cases e;refine#[⋯,λD hD=>#[#[_,(zc hD).seq hX],ForEL.by (xs:=xs) (λi σ H'=>∃v2 v3 v4 v5 v6,σ=[!!a,!!D,v2,v3,v4,v5,v6]/\Same H H'/\LsA K H' D ((ovA rs i).map d3)) #[tF,tF,tF,tF,tF,rfl,zc hD,LsA.nil] ?_ ?_ ?_]]
  ·refine nm3 ?_;rintro i σ H' hi ⟨v2,v3,v4,v5,v6,rfl,hs,_⟩:0;exact hs.seq hX
  ·refine nmE ?_;rintro i x σ H' p hx ⟨v2,v3,v4,v5,v6,rfl,hs,hL⟩ hp:_;let#[r,pr,hri,rfl,hqr]:=hI.getR hx;have er:=ur hri;have hr1:=(ok.2 r (ag hri)).1;right
   rfl'
   refine#[_,x8 zb,rfl,_,_,rfl,_,_,rfl,rfl,#[_,((hs.trans (zc hp)).seq hX)],ForEL.by (xs:=xs) (λj σ H''=>∃v4 v5 v6,σ=[!!a,!!D,-~~~i,!!pr,v4,v5,v6]/\Same H H''/\LsA K H'' D ((ovA rs i ++ ovI rs i j).map d3)) #[v4,v5,v6,rfl,hs.trans (zc hp),by rw[show ovI rs i 0=[]from rfl,aV];exact hL.same (zc hp)] ?_ ?_ ?_]
   ·refine nm3 ?_;rintro j σ H2 hj ⟨v4,v5,v6,rfl,hs2,_⟩:0;exact hs2.seq hX
   ·refine nmE ?_;rintro j y σ H2 p2 hy ⟨v4,v5,v6,rfl,hs2,hL2⟩ hp2:_;let#[r2,pr2,hri2,rfl,hqr2]:=hI.getR hy;have er2:=ur hri2;have hr2:=(ok.2 r2 (ag hri2)).1;have hs3:=hs2.trans (zc (o:=.tup [.int (j:Nat),.ref pr2]) hp2);have hq1:=zl hs3 hqr;have el:(tx r.1).length=r.1.length:=yk _;right
    rfl'
    refine#[_,x8 zb,rfl,_,_,rfl,_,_,rfl,rfl,rfl,yC (λh=>?_) λh=>?_]
    ·have hij:i=j:=by injection h with h;lia
     have z0:Ya rs i j (1+0)=[]:=by
      subst hij;rw[show 1+0=0+1 from rfl,qL];simp [Ya]
     have zn:Ya rs i j (1+((r.1.length:Int) - 1).toNat)=Ya rs i j r.1.length:=by
      by_cases h0:r.1.length=0
      ·rw[h0];exact z0
      ·rw[show 1+((r.1.length:Int) - 1).toNat=r.1.length by lia]
     refine#[_,hq1,_,rfl,_,#[⋯,rfl],∅,∅,⋯,⋯,ForR.by (λt σ H3=>∃v6,σ=[!!a,!!D,-~~~i,!!pr,-~~~j,!!pr2,v6]/\Same H H3/\LsA K H3 D ((ovA rs i ++ ovI rs i j ++ Ya rs i j (1+t)).map d3)) #[v6,rfl,hs3,(by rw[z0,aV];exact hL2.same (zc hp2))] ?_ ?_]
     ·refine nm3 ?_;rintro n σ H3 hn ⟨v6,rfl,hs4,hL4⟩:_;have hn':1+n<r.1.length:=⋯;have en:((1:Int)+(n:Int))=((1+n:Nat):Int):=⋯;right;dsimp only;rw[en];let#[ys,hY,hJ]:=hL4;have hlen:=hJ.len;have l1:=VD ok i;have l2:=YN ok i j;have l3:=qk rs i j (1+n);have i1:=(tL.mp hri).1;have i2:=(tL.mp hri2).1;have i3:=ok.1
      erw[aa,aq]at hlen
      have es:=qL rs i j (1+n);have etest:(decide (i≠j) || decide (1+n≠0))=tG:=by rw[show decide (1+n≠0)=tG from y4 ⋯,d8]
      rw[etest,Bool.true_and,er,er2]at es
      rfl'
      refine#[_,zl hs4 hqr,_,rfl,_,zl hs4 hqr2,_,rfl,Yn ⋯ ⋯ ⋯ #[_,rfl,yC (λhb=>#[.inl #[_,x6 hY],⋯,λt ht=>#[_,zc ht _ _ hY,⋯,zH (hs4.trans (zc ht)) hD,?_]]) λhb=>#[hs4,ys,hY,?_]]]
      ·rw[hb,z6 rfl]at es;rw[show 1+(n+1)=1+n+1 by lia,es,<- aU,ar];exact LsA.pushT hY hJ ht zcF (XW _) (by erw[z8,xv,and_self])
      ·have hb':xR r.1 r2.1 (1+n)=tH:=by simpa using hb
       rw[hb',z9 aB,aV]at es;rw[show 1+(n+1)=1+n+1 by lia,es];exact hJ
     ·refine nmB ?_;rintro σ H3 ⟨v6,rfl,hs4,hL4⟩:0;refine#[#[_,_,_,rfl],hs4,?_];rw[qB,er,<- aU];rw[el,zn]at hL4;exact hL4
    ·have hij:i≠j:=λz=>h (by rw[z]);refine#[_,hq1,_,rfl,_,#[⋯,rfl],∅,∅,⋯,⋯,ForR.by (λt σ H3=>∃v6,σ=[!!a,!!D,-~~~i,!!pr,-~~~j,!!pr2,v6]/\Same H H3/\LsA K H3 D ((ovA rs i ++ ovI rs i j ++ Ya rs i j (0+t)).map d3)) #[v6,rfl,hs3,(by rw[show Ya rs i j (0+0)=[]from rfl,aV];exact hL2.same (zc hp2))] ?_ ?_]
     ·refine nm3 ?_;rintro n σ H3 hn ⟨v6,rfl,hs4,hL4⟩:_;have hn':0+n<r.1.length:=⋯;have en:((0:Int)+(n:Int))=((0+n:Nat):Int):=⋯;right;dsimp only;rw[en];let#[ys,hY,hJ]:=hL4;have hlen:=hJ.len;have l1:=VD ok i;have l2:=YN ok i j;have l3:=qk rs i j (0+n);have i1:=(tL.mp hri).1;have i2:=(tL.mp hri2).1;have i3:=ok.1
      erw[aa,aq]at hlen
      have es:=qL rs i j (0+n);have etest:(decide (i≠j) || decide (0+n≠0))=tG:=by rw[show decide (i≠j)=tG from y4 hij,Bool.true_or]
      rw[etest,Bool.true_and,er,er2]at es
      rfl'
      refine#[_,zl hs4 hqr,_,rfl,_,zl hs4 hqr2,_,rfl,Yn ⋯ ⋯ ⋯ #[_,rfl,yC (λhb=>#[.inl #[_,x6 hY],⋯,λt ht=>#[_,zc ht _ _ hY,⋯,zH (hs4.trans (zc ht)) hD,?_]]) λhb=>#[hs4,ys,hY,?_]]]
      ·rw[hb,z6 rfl]at es;rw[show 0+(n+1)=0+n+1 by lia,es,<- aU,ar];exact LsA.pushT hY hJ ht zcF (XW _) (by erw[z8,xv,and_self])
      ·have hb':xR r.1 r2.1 (0+n)=tH:=by simpa using hb
       rw[hb',z9 aB,aV]at es;rw[show 0+(n+1)=0+n+1 by lia,es];exact hJ
     ·refine nmB ?_;rintro σ H3 ⟨v6,rfl,hs4,hL4⟩:0;refine#[#[_,_,_,rfl],hs4,?_];rw[qB,er,<- aU];rw[el,show 0+((r.1.length:Int) - 0).toNat=r.1.length by lia]at hL4;exact hL4
   ·refine nmB ?_;rintro σ H2 ⟨v4,v5,v6,rfl,hs2,hL2⟩:_;have e:=hI.len;rw[aa]at e;rw[e,<- ku]at hL2;right;exact#[#[_,_,_,_,_,rfl],hs2,hL2]
  ·refine nmB ?_;rintro σ H' ⟨v2,v3,v4,v5,v6,rfl,hs,hL⟩:_;have e:=hI.len;rw[aa]at e;rw[e]at hL;right
   rfl'
   exact q D H' hD hs hL
def yx(l m:())(k:Nat):():=l ++ m.drop (l.length - k)
def ui(l m:())(k:Nat)(hk:k<=l.length):(yx l m k).length=max l.length (k+m.length):=by unfold yx;rw[aq,bh];lia
def j5(l m:())(k:Nat):zt (yx l m k) 0 l=tG:=by unfold zt yx;refine y4 #[∅,by rw[aq];lia,?_];rw[show (0:Int).toNat=0 from rfl,cM,bq (am _),aI]
def jq(hk:k<=l.length)(h:xR l m k=tG):zt (yx l m k) (k:Nat) m=tG:=by
 unfold xR at h;rw[decide_eq_true_eq]at h;have hl:=ui l m k hk;unfold zt;refine y4 #[⋯,⋯,?_];rw[show ((k:Nat):Int).toNat=k from rfl];unfold yx;rw[cz hk];by_cases hm:m.length<=l.length - k
 ·rw[bq (by rw[bh];lia),h,bj hm]
 ·rw[bj (by rw[bh];lia)]at h;rw[h,cF,aI]
def JR(h:t ∈ Ya rs i j n):t.1=i/\t.2.1=j/\t.2.2<n/\xR (lf rs i) (lf rs j) t.2.2=tG:=by unfold Ya at h;let#[k,hk,rfl]:=tM.mp h;rw[List.mem_filter,fS,aM]at hk;exact#[rfl,rfl,hk.1,hk.2.2]
def qS(h:t ∈ ovA rs rs.length):t.1<rs.length/\t.2.1<rs.length/\t.2.2<(lf rs t.1).length/\xR (lf rs t.1) (lf rs t.2.1) t.2.2=tG:=by unfold ovA ovI at h;let#[i,hi,h]:=Aj.mp h;let#[j,hj,h]:=Aj.mp h;let#[e1,e2,e3,e4]:=JR h;rw[e1,e2];exact#[tR.mp hi,tR.mp hj,e3,e4]
def Za(K:pB):Sp:=λvs H Q Z=>∃(a t:pC) (rs:List zG) (i j k:Nat) (r r2:zG),vs=[.ref a,.ref t]/\Is K H (.lst (rs.map dR)) (.ref a)/\SqT K H t [.int (i:Nat),.int (j:Nat),.int (k:Nat)]/\jV rs/\rs[i]? = tE r/\rs[j]? = tE r2/\k<=r.1.length/\xR r.1 r2.1 k=tG /\
 ∀p H',H p=tF->Same H H'->H' p=tE (.tup [⇑(yx r.1 r2.1 k),⇑(yM (yx r.1 r2.1 k) 0 r.1 r.2),⇑(yM (yx r.1 r2.1 k) (k:Nat) r2.1 r2.2)])->Q (.ref p) H'
def XY(h1:Is K H (.lst (rs.map dR)) (.ref a))(h2:SqT K H t [.int (i:Nat),.int (j:Nat),.int (k:Nat)])(h3:jV rs)(h4:rs[i]? = tE r)(h5:rs[j]? = tE r2)(h6:k<=r.1.length)(h7:xR r.1 r2.1 k=tG)(h:∀p H',H p=tF->Same H H'->H' p=tE (.tup [⇑(yx r.1 r2.1 k),⇑(yM (yx r.1 r2.1 k) 0 r.1 r.2),⇑(yM (yx r.1 r2.1 k) (k:Nat) r2.1 r2.2)])->Q (.ref p) H'):Za K [.ref a,.ref t] H Q E:=#[a,t,rs,i,j,k,r,r2,rfl,h1,h2,h3,h4,h5,h6,h7,h]
def VB(h1:l.length<=10000)(h2:o.length<=10000)(h3:n.length<=10000)(hs:zt l k o=tG)(q:Q ⇑(yM l k o n) H):XU CU [⇑l,.int k,⇑o,⇑n] H Q E:=#[l,o,n,k,rfl,h1,h2,h3,λZ=>q,λh=>by rw[hs]at h;cases h]
def mr:sQz 2 ["rules","overlap","one","other","place","word"] VP:=by nofun
def zaA(B:Bt mg)(F:("peak"^^^VP))(oj:(3>>>"put") ["word","place","old","new"] [] (XU CU)):(4&&&["rules","overlap"]) (Za K):=by
 exists F.ok mr
 ·let#[a,t,rs,i,j,k,r,r2,rfl,hR,ht,ok,hr1,hr2,hk,hag,q]:=h
  refine#[_,(zg (zE 2 mr.nd (zk ix_list (pv 0) (!-1))) (zg (zE 3 mr.nd (zk ix_list (pv 0) (!-1))) (zg (zE 4 mr.nd (!-1)) (zg (zE 5 mr.nd (zq yH (!-2) (yE zef (!-3) (yF (zq vD (zR B.len (!-2)) (pv 4))) wz))) (zh (zp (zy (za (pv 5) (za (clP xe0 oj hr .nil rfl (za (pv 5) (za ze (za (!-2) (za (!-2) zd))))) (za (clP xe0 oj hr .nil rfl (za (pv 5) (za (pv 4) (za (!-3) (za (!-3) zd))))) zd)))))))))),?_]
  have s16:=yb
  erw[Is]at hR
  let#[_,xs,e,hX,hI]:=hR;cases e;let#[p1,a1,q1]:=zfu hI hr1;let#[p2,a2,q2]:=zfu hI hr2;have b1:=ok.2 r (ag hr1);have b2:=ok.2 r2 (ag hr2);change H'=H/\σ=%[!!a,!!t,!!p1|3]
  ·rfl'
   exact#[_,ht,_,rfl,_,rfl,_,hX,a1]
  rintro σ H1 ⟨rfl,rfl⟩:0;change H'=H1/\σ=%[!!a,!!t,!!p1,!!p2|2]
  ·rfl'
   exact#[_,ht,_,rfl,_,rfl,_,hX,a2]
  rintro σ H2 ⟨rfl,rfl⟩:0;change H'=H2/\σ=[!!a,!!t,!!p1,!!p2,-~~~k,tF]
  ·rfl'
   exact#[_,ht,rfl]
  rintro σ H3 ⟨rfl,rfl⟩:0;change H'=H3/\σ=[!!a,!!t,!!p1,!!p2,-~~~k,tE ⇑(yx r.1 r2.1 k)]
  ·rfl'
   refine#[_,q1,_,rfl,_,q2,_,rfl,_,q1,_,rfl,_,#[by rw[yk];lia,rfl],#[by rw[yk];lia,_,rfl,_,rfl,?_,rfl,?_]]
   ·erw[yk,Y6]
    have:=wM r2.1 (tE ((r.1.length:Int) - (k:Int))) tF;lia
   ·rw[yk,Y6,wR,qr _ ⋯,show ((r.1.length:Int) - (k:Int)).toNat=r.1.length - k by lia];rfl
  rintro σ H4 ⟨rfl,rfl⟩:_;have hw:=ui r.1 r2.1 k hk;right
  rfl'
  exact#[_,q1,_,rfl,_,q1,_,rfl,VB ⋯ ⋯ ⋯ (j5 _ _ _) #[_,q2,_,rfl,_,q2,_,rfl,VB ⋯ ⋯ ⋯ (jq hk hag) #[⋯,λp hp=>q p _ hp (zc hp) zb]]]
def FmOk(ps:List zG)(most:Int)(m:pG->Option V):Prop:=∀k v,m k=tE v->∃(w:()) (J:Nat),k=tx w/\v=⇑(wAt ps w J)/\Wc ps w J/\zA (wAt ps w J) ps=tF/\(J:Int)<=most
def FmOk.get(h:FmOk ps most m){w:()}(e:m (tx w)=tE v)(hl:Wc ps w J)(hf:zA (wAt ps w J) ps=tF):v=⇑(wAt ps w J):=by let#[w',J',e1,e2,e3,e4,_]:=h _ _ e;have e5:=kd e1;subst e5;rw[e2,kW e3 e4 hl hf]
def FmOk.put(h:FmOk ps most m){w:()}(hl:Wc ps w J)(hf:zA (wAt ps w J) ps=tF)(hJ:(J:Int)<=most):FmOk ps most (λx=>if x=tx w then tE ⇑(wAt ps w J)else m x):=λk v e=>by
 by_cases hk:k=tx w
 ·erw[hk,if_true]at e
  cases e;exact#[w,J,hk,rfl,hl,hf,hJ]
 ·erw[hk,if_false]at e
  exact h k v e
def Y2(P:pJ)(w:pR)(K:pB)(CF:pC):Sp:=λvs H Q E=>∃(a F:pC) (l:()) (ps:List zG) (m:Int) (J n:Nat) (mp:pG->Option V),vs=[.ref a,⇑l,.int m,.ref F]/\LsA K H a (ps.map dR)/\NeL ps/\ps.length<=100/\(∀p ∈ ps,p.1.length<=1000/\p.2.length<=1000)/\Rd ps l J/\H F=tE (jL P w F mp n)/\FmOk ps m mp/\n<=10000 /\
 ((zA (wAt ps l J) ps=tF/\(J:Int)<=m/\∀(mp':pG->Option V) (n':Nat) (H':Hp),SamT F H H'->H' F=tE (jL P w F mp' n')->FmOk ps m mp'->n'<=n+1->Q ⇑(wAt ps l J) H') \/
  (zA (wAt ps l J) ps≠tF/\(J:Int)=m/\∀H',Same H H'->E (.ref CF) tF H'))
def Vu:sQz 4 ["rules","word","most","forms"] ji:=by nofun
def W3(B:Bt mg)(F:("form_of"^^^ji))(nI:(4>>>"gone") ["rules","word","most"] [] (vc K CF))(DD_gone:(4>>>"gone") ["rules","word","most"] [.int 4000 nv] (vc K CF)):(5|||["rules","word","most","forms"]) (Y2 P w K CF):=by
 exists Fun.okX F Vu,0
 ·let#[a,F0,l,ps,m,J,n,mp,rfl,hA,hN,hpl,hP,hR,hF,hM,hn,hq]:=h
  refine#[_,(zg (zS (zB Jg (pv 1) (pv 3) (by with_unfolding_all rfl)) (zh (jv (zk v9 (clP hx nI hr .nil rfl (za (pv 0) (za (pv 1) (za (pv 2) zd)))) ze) (zeb (pv 3) (pv 1) Jp (by intro _;rfl))))
    zv) (zh (zp (zk za2 (pv 3) (pv 1))))),?_]
  have s16:=yb;change SamT F0 H H'/\zA (wAt ps l J) ps=tF/\(J:Int)<=m/\(∃(mp':pG->Option V) (n':Nat),H' F0=tE (jL P w F0 mp' n')/\FmOk ps m mp'/\n'<=n+1/\mp' (tx l)=tE ⇑(wAt ps l J))/\σ=[!!a,~~~l,~~~!m,!!F0]
  ·rfl'
   refine#[F0,mp,n,tx l,rfl,rfl,hF,_,rfl,yC (λhnone=>#[a,l,ps,m,J,rfl,hA,hN,hpl,hP,hR,?_]) λhsome=>?_]
   ·rcases hq with ⟨hf,hJ,_⟩ | h
    ·refine .inl #[hf,hJ,λp S H' s' hp Z Z=>#[p,rfl,_,x8 hp,_,rfl,?_]]
     erw[zgr]
     rfl'
     exact#[F0,mp,n,tx l,rfl,rfl,s' _ _ hF,⋯,λb o hb e=>by rw[zm hb];exact s' _ _ e,hf,hJ,_,_,zb,hM.put hR.live hf hJ,am _,z6 rfl]
    ·exact .inr h
   ·cases hv:mp (tx l)with
    | none=>rw[hv]at hsome;exact y9 rfl hsome
    | some v =>
     let#[w',J',e1,e2,e3,e4,e5]:=hM _ _ hv;have e6:=kd e1;subst e6;rcases hq with ⟨hf,hJ,_⟩ | ⟨hf,hJ,_⟩
     ·exact#[λb o Z e=>e,hf,hJ,mp,n,hF,hM,⋯,by rw[hM.get hv hR.live hf]at hv;exact hv]
     ·exfalso;rcases e7 J' J with h | h
      ·exact hR.live J' h e4
      ·have:J'=J:=⋯;subst this;exact hf e4
  rintro σ H1 ⟨s1,hf,hJ,⟨mp',n',h1,h2,h3,h4⟩,rfl⟩:0
  rfl'
  refine#[F0,mp',n',tx l,_,rfl,rfl,h1,h4,?_];rcases hq with ⟨_,_,q⟩ | ⟨h,_⟩
  ·exact q mp' n' H1 s1 h1 h2 h3
  ·exact y9 hf h
def pkA(ps:List zG)(t:N3):():=yM (yx (lf ps t.1) (lf ps t.2.1) t.2.2) 0 (lf ps t.1) (ps.getD t.1 ([],[])).2
def pkB(ps:List zG)(t:N3):():=yM (yx (lf ps t.1) (lf ps t.2.1) t.2.2) (t.2.2:Nat) (lf ps t.2.1) (ps.getD t.2.1 ([],[])).2
inductive zcy(ps:List zG)(m:Int)(l:()):Option Nat->Prop where
 | yes {J:Nat} (h:Rd ps l J) (h1:zA (wAt ps l J) ps=tF) (h2:(J:Int)<=m):zcy ps m l (tE J)
 | no {J:Nat} (h:Rd ps l J) (h1:zA (wAt ps l J) ps≠tF) (h2:(J:Int)=m):zcy ps m l tF
def Zh(P:pJ)(w:pR)(K:pB)(CF:pC):Sp:=λvs H Q E=>∃(a t F:pC) (ps:List zG) (tr:N3) (m:Int) (n:Nat) (mp:pG->Option V) (g1 g2:Option Nat),vs=[.ref a,.ref t,.int m,.ref F]/\LsA K H a (ps.map dR)/\NeL ps/\jV ps/\SqT K H t [.int (tr.1:Nat),.int (tr.2.1:Nat),.int (tr.2.2:Nat)]/\tr ∈ ovA ps ps.length/\H F=tE (jL P w F mp n)/\FmOk ps m mp/\n<=9000/\zcy ps m (pkA ps tr) g1/\zcy ps m (pkB ps tr) g2 /\
 (∀(J1 J2:Nat) (mp':pG->Option V) (n':Nat) (H':Hp),g1=tE J1->g2=tE J2->SamT F H H'->H' F=tE (jL P w F mp' n')->FmOk ps m mp'->n'<=n+2->Q (.bl (decide (wAt ps (pkA ps tr) J1=wAt ps (pkB ps tr) J2))) H') /\
 ((g1=tF\/g2=tF)->∀H',SamT F H H'->E (.ref CF) tF H')
theorem Wm(hA:LsA K H a (ps.map dR))(hN:NeL ps)(hok:jV ps)(hF:H F=tE (jL P w F mp n))(hM:FmOk ps m mp)(hn:n<=10000)(hg:zcy ps m l g)(h1:∀(J:Nat) (mp':pG->Option V) (n':Nat) (H':Hp),g=tE J->SamT F H H'->H' F=tE (jL P w F mp' n')->FmOk ps m mp'->n'<=n+1->Q ⇑(wAt ps l J) H')(h2:g=tF->∀H',Same H H'->E (.ref CF) tF H'):Y2 P w K CF [.ref a,⇑l,.int m,.ref F] H Q E:=by
 have hP:∀p ∈ ps,p.1.length<=1000/\p.2.length<=1000:=λp hp=>by have:=hok.2 p hp;lia
 have hl:ps.length<=100:=by have:=hok.1;lia
 cases hg with
 | yes h e1 e2=>exact#[a,F,l,ps,m,_,n,mp,rfl,hA,hN,hl,hP,h,hF,hM,hn,.inl #[e1,e2,λmp' n' H' a1 a2 a3 a4=>h1 _ mp' n' H' rfl a1 a2 a3 a4]]
 | no h e1 e2=>exact#[a,F,l,ps,m,_,n,mp,rfl,hA,hN,hl,hP,h,hF,hM,hn,.inr #[e1,e2,h2 rfl]]
def qC(s:SamT F H H')(hF:H F=tE (jL P w F mp n))(h:SqT K H t xs):SqT K H' t xs:=by
 rcases h with (h | ⟨o,h⟩) | h
 ·exact .inl (.inl (s _ _ (λz=>by rw[z,hF]at h;cases h) h))
 ·exact .inl (.inr #[o,s _ _ (λz=>by rw[z,hF]at h;cases h) h])
 ·exact .inr h
def XH{ps:List zG}(s:SamT F H H')(hF:H F=tE (jL P w F mp n))(h:LsA K H a (ps.map dR)):LsA K H' a (ps.map dR):=by
 let#[xs,h1,h2]:=h;refine#[xs,s _ _ (λz=>by rw[z,hF]at h1;cases h1) h1,?_]
 have key:∀(qs:List zG) (vs:List V),Iss K H (qs.map dR) vs->Iss K H' (qs.map dR) vs:=by
  intro qs
  induction qs with
  | nil=>intro vs h;erw[aA,Iss]at h ⊢;exact h
  | cons q qs ih =>
   intro vs h
   erw[ak,Iss]at h ⊢
   let#[v,r,e,h3,h4]:=h;let#[p,rfl,h5]:=zed h3;exact#[_,r,e,UF (qC s hF h5),ih r h4]
 exact key ps xs h2
def mf:sQz 4 ["rules","overlap","most","forms","sides","one","other"] kC:=by nofun
def Qq(B:Bt mg)(F:("is_met"^^^kC))(ow:(4<<<"peak") ["rules","overlap"] [] (Za K))(nX:(5>>>"form_of") ["rules","word","most","forms"] [] (Y2 P w K CF)):(6|||["rules","overlap","most","forms"]) (Zh P w K CF):=by
 exists Fun.okX F mf,0
 ·let#[a,t,F0,ps,tr,m,n,mp,g1,g2,rfl,hA,hN,hok,ht,htr,hF,hM,hn,hg1,hg2,q1,q2]:=h
  refine#[_,(zg (zE 4 mf.nd (cl0 ow hr .nil rfl (za (pv 0) (za (pv 1) zd)))) (zg (zE 5 mf.nd (clP hx nX hr .nil rfl (za (pv 0) (za (!-4) (za (pv 2) (za (pv 3) zd)))))) (zg (zE 6 mf.nd (clP hx nX hr .nil rfl (za (pv 0) (za (!-4) (za (pv 2) (za (pv 3) zd)))))) (zh (zp (yB xL (pv 5) (pv 6) (zF _))))))),?_]
  have s16:=yb;let#[i1,i2,i3,i4]:=qS htr;obtain⟨r,hr⟩:∃r,ps[tr.1]? = tE r:=#[_,ah i1];obtain⟨r2,hr2⟩:∃r,ps[tr.2.1]? = tE r:=#[_,ah i2];have l1:=ur hr;have l2:=ur hr2;have d1:ps.getD tr.1 ([],[])=r:=by rw[ae,hr];rfl
  have d2:ps.getD tr.2.1 ([],[])=r2:=by rw[ae,hr2];rfl
  have eA:pkA ps tr=yM (yx r.1 r2.1 tr.2.2) 0 r.1 r.2:=by unfold pkA;rw[l1,l2,d1]
  have eB:pkB ps tr=yM (yx r.1 r2.1 tr.2.2) (tr.2.2:Nat) r2.1 r2.2:=by unfold pkB;rw[l1,l2,d2]
  rw[l1]at i3;rw[l1,l2]at i4;change Same H H'/\∃p:pC,(∃x,H' p=tE (.tup [x,⇑(pkA ps tr),⇑(pkB ps tr)]))/\σ=%[!!a,!!t,~~~!m,!!F0,!!p|2]
  ·rfl'
   exact XY hA.is ht hok hr hr2 ⋯ i4 λp H' Z s' hp=>#[s',p,#[_,by rw[eA,eB];exact hp],rfl]
  rintro σ H1 ⟨s1,p,⟨x,hp⟩,rfl⟩:_;have hF1:=s1 _ _ hF;right;change SamT F0 H1 H'/\∃(J1:Nat),g1=tE J1/\(∃mp' n',H' F0=tE (jL P w F0 mp' n')/\FmOk ps m mp'/\n'<=n+1)/\σ=[!!a,!!t,~~~!m,!!F0,!!p,tE ⇑(wAt ps (pkA ps tr) J1),tF]
  ·rfl'
   refine#[_,x8 hp,_,rfl,Wm (hA.same s1) hN hok hF1 hM ⋯ hg1 (λJ mp' n' H' e a1 a2 a3 a4=>?_) λe H' s'=>q2 (.inl e) H' (ja0 (s1.trans s'))];exact#[a1,J,e,#[mp',n',a2,a3,a4],rfl]
  rintro σ H2 ⟨s2,J1,e1,⟨mp1,n1,hF2,hM2,hn2⟩,rfl⟩:_;have s12:SamT F0 H H2:=(ja0 s1).trans s2;have hpF:p≠F0:=λz=>by rw[z,hF1]at hp;cases hp
  right;change SamT F0 H2 H'/\∃(J2:Nat),g2=tE J2/\(∃mp' n',H' F0=tE (jL P w F0 mp' n')/\FmOk ps m mp'/\n'<=n+2)/\σ=[!!a,!!t,~~~!m,!!F0,!!p,tE ⇑(wAt ps (pkA ps tr) J1),tE ⇑(wAt ps (pkB ps tr) J2)]
  ·rfl'
   exact#[_,x8 (s2 _ _ hpF hp),_,rfl,Wm (XH s2 hF1 (hA.same s1)) hN hok hF2 hM2 ⋯ hg2 (λJ mp' n' H' e a1 a2 a3 a4=>#[a1,J,e,#[mp',n',a2,a3,⋯],rfl]) λe H' s'=>q2 (.inr e) H' (s12.trans (ja0 s'))]
  rintro σ H3 ⟨s3,J2,e2,⟨mp2,n2,hF3,hM3,hn3⟩,rfl⟩:0
  rfl'
  exact q1 J1 J2 mp2 n2 H3 e1 e2 (s12.trans s3) hF3 hM3 hn3
def Ze(K:pB)(CH:pC):Sp:=λvs H Q Z=>∃(y o q:pC) (ps:List zG),vs=[.ref y]/\Ka K CH H y o q ps/\∀(r:pC) (H':Hp),Same H H'->LsA K H' r (ps.map dR)->H r=tF->Q (.ref r) H'
def vB:sQz 1 ["self"] yG:=by nofun
def vA(B:Bt mg)(TS:zdB K mg CH)(F:Fun K "rules_told" "System.rules_told" yG f fd):(1&&&["self"]) (Ze K CH):=by
 exists F.ok vB
 ·let#[y,o,q,ps,rfl,hy,k]:=h;refine#[_,(zh (zp (yR yv rfl B.list jb0 (za (WB (pv 0) rfl) zd)))),?_];have s16:=yb
  rfl'
  let#[dx,xs,h1,h2,h3]:=hy;exact#[_,_,_,h1,TS.cl,TS.nr,_,rfl,_,rfl,_,.inl (x6 h2),λr hr'=>k r _ (zc hr') #[xs,zb,ja1 (zc hr') _ _ h3] hr']
def goJ(ps:List zG)(m:Nat)(v:()):Option Nat:=(aN (m+1)).find? λj=>(zA (wAt ps v j) ps).isNone
def ql(e:goJ ps m v=tE i):i<=m/\Wc ps v i/\zA (wAt ps v i) ps=tF:=by
 unfold goJ at e;have h1:=ef e;have h2:zA (wAt ps v i) ps=tF:=Option.isNone_iff_eq_none.mp h1;have hm:=tR.mp (eW e);refine#[⋯,λn hn hno=>?_,h2];let#[_,as,bs,e2,h3]:=List.find?_eq_some_iff_append.mp e
 have hlen:as.length=i:=by
  have:=congrArg (λl=>l[as.length]?) e2
  erw[cH (am _),Nat.sub_self,cP]at this
  let#[h7,h8]:=tL.mp this;rw[gp]at h8;exact h8
 have h9:(aN (m+1))[n]? = as[n]?:=by rw[e2,dA ⋯]
 have h10:n<(aN (m+1)).length:=by rw[cu];lia
 rw[ah h10,gp]at h9;have:=h3 n (ag h9.symm);rw[hno]at this;cases this
def kO(e:goJ ps m v=tF):∀j,j<=m->zA (wAt ps v j) ps≠tF:=λj hj hno=>by
 unfold goJ at e;have:=Af.mp e j (tR.mpr ⋯);rw[hno]at this;exact this rfl
theorem VZ(hl:∀j,j<=m->(wAt ps v j).length<=10000)(hm:m<=10000):zcy ps (m:Int) v (goJ ps m v):=by
 cases e:goJ ps m v with
 | some i =>
  let#[h1,h2,h3]:=ql e;exact .yes #[h2,λj hj=>hl j ⋯,⋯] h3 ⋯
 | none =>
  have h:=kO e;exact .no (J:=m) #[λi hi=>h i ⋯,λj hj=>hl j hj,hm] (h m (am _)) rfl
def zfJ(ps:List zG)(m:Nat)(v:()):():=wAt ps v ((goJ ps m v).getD 0)
def zaz(ps:List zG)(m:Nat)(t:N3):Bool:=decide (zfJ ps m (pkA ps t)=zfJ ps m (pkB ps t))
def OkG(ps:List zG)(m:Nat)(t:N3):Prop:=(goJ ps m (pkA ps t)).isSome=tG/\(goJ ps m (pkB ps t)).isSome=tG
def zgd(ps:List zG)(m:Nat):Prop:=m<=10000/\∀t ∈ ovA ps ps.length,(∀j,j<=m->(wAt ps (pkA ps t) j).length<=10000)/\∀j,j<=m->(wAt ps (pkB ps t) j).length<=10000
def UZ(e1:goJ ps m (pkA ps t)=tE J1)(e2:goJ ps m (pkB ps t)=tE J2):decide (wAt ps (pkA ps t) J1=wAt ps (pkB ps t) J2)=zaz ps m t:=by unfold zaz zfJ;rw[e1,e2];rfl
def zej(h:goJ ps m (pkA ps t)=tF\/goJ ps m (pkB ps t)=tF):¬ OkG ps m t:=λho=>by
 let#[h1,h2]:=ho;rcases h with h | h
 ·rw[h]at h1;cases h1
 ·rw[h]at h2;cases h2
def FmOk.nil : FmOk ps m λZ=>tF:=λk v e=>by cases e
theorem YF(s:SamT F H H')(hF:H F=tE (jL P w F mp n)):∀{ts:List N3} {vs:List V},Iss K H (ts.map d3) vs->Iss K H' (ts.map d3) vs
 | [],vs,h=>by erw[aA,Iss]at h ⊢;exact h
 | t::ts,vs,h=>by
  erw[ak,Iss]at h ⊢
  let#[v,r,e,h3,h4]:=h;refine#[v,r,e,?_,YF s hF h4]
  erw[d3,Is]at h3 ⊢
  let#[a,xs,e1,e2,e3]:=h3;refine#[a,xs,e1,qC s hF e2,?_]
  erw[Iss,Is]at e3 ⊢
  exact e3
def unG(ps:List zG)(m:Nat):List N3:=(ovA ps ps.length).filter λt=>!zaz ps m t
def vV(K:pB)(CH CF:pC):Sp:=λvs H Q E=>∃(y o q:pC) (ps:List zG) (m:Nat),vs=[.ref y,.int (m:Nat)]/\Ka K CH H y o q ps/\NeL ps/\jV ps/\(ovA ps ps.length).length<=4000/\zgd ps m /\
 ((∀t ∈ ovA ps ps.length,OkG ps m t)->∀D H',Same H H'->H D=tF->LsA K H' D ((unG ps m).map d3)->Q (.ref D) H')/\(∀t ∈ ovA ps ps.length,¬ OkG ps m t->∀H',Same H H'->E (.ref CF) tF H')
def nC:sQz 2 ["system","most","rules","forms"] xY:=by nofun
def Jj(B:Bt mg)(TS:zdB K mg CH)(F:FunD K "unmet" "unmet" xY dV f fd)(oN:(2<<<"overlaps") ["rules"] [] (vK K))(oR:(6>>>"is_met") ["rules","overlap","most","forms"] [] (Zh P w K CF))(M_system_rules_told:DM P w K mg base CX0 1 CH "rules_told" ["self"] (Ze K CH)):(7|||["system","most"]) (vV K CH CF):=by
 exists FunD.okX F nC,0
 ·let#[y,o,q,ps,m,rfl,hy,hN,hok,hlen,hE,k1,k2]:=h
  refine#[_,(zg (qN (i:=2) nC.nd rfl (Or.inr rfl) (me0 M_system_rules_told TS.cl hr (pv 0))) (zg (qN (i:=3) nC.nd rfl (Or.inr rfl) zb0) (zh (zp (Yk (EX:=E) (own:=["overlap"]) (caps:=["rules","most","forms"]) (ix:=[2,1,3]) (tt:=(zcA (tBl (qT (Zh P w K CF) [] E (zI (z7 1) (zI (z7 0) (zI (z7 2) (zI (z7 3) xp)))))))) (te:=(z7 0)) rfl (zM (sc:=zi xY) rfl (!0) (!0) (!0) rfl (!0) (!0) rfl) #[rfl,rfl] hx (ye (cl0 oN hr .nil rfl (za (pv 2) zd))) (λZ Z Z Z Z Z=>zr (i:=0) (show List.Nodup [_,_,_,_] by decide) rfl (.inl rfl)) (λZ Z Z Z Z Z Z hx'=>(Ul (yl (yU (clP hx' oR hr .nil rfl (za (pv 1) (za (pv 0) (za (pv 2) (za (pv 3) zd))))) (λZ=>rfl))))) (λZ Z Z Z Z Z Z Z=>(pv 0))))))),?_]
  have s16:=yb;let#[dx,xs0,h1,h2,h3]:=id hy;change Same H H'/\∃r:pC,LsA K H' r (ps.map dR)/\σ=[!!y,-~~~m,!!r,tF]
  ·rfl'
   exact#[_,_,h1,rfl,y,o,q,ps,rfl,hy,λr H1 s1 hA hr'=>#[s1,r,hA,rfl]]
  rintro σ H1 ⟨s1,r,hA,rfl⟩:0;change Same H H'/\LsA K H' r (ps.map dR)/\∃F:pC,H F=tF/\H' F=tE (jL P w F (λZ=>tF) 0)/\σ=[!!y,-~~~m,!!r,!!F]
  ·rfl'
   erw[zde]
   intro F hF;have s2:=zc (o:=jL P w F (λZ=>tF) 0) hF
   rfl'
   exact#[s1.trans s2,hA.same s2,F,s1.free hF,zb,rfl]
  rintro σ H2 ⟨s2,hA2,F,hF0,hF,rfl⟩:0
  rfl'
  refine Ye hA2.is hok λO H3 hO s3 hL=>#[O,rfl,?_,λD hD=>?_]
  ·let#[xs,hX,_]:=hL;exact#[_,x6 hX]
  let#[xs,hX,hI]:=hL;have hxl:=hI.len;rw[aa]at hxl;have hF3:=s3 _ _ hF;have s03:=s2.trans s3;have hDF:D≠F:=λz=>by rw[z,hF3]at hD;cases hD
  have hOF:O≠F:=λz=>by rw[z,hF3]at hX;cases hX
  have back:∀{G:Hp},SamT F H3 G->Same H G:=λ{G} sT b o' e=>sT b o' (λz=>by rw[z,hF0]at e;cases e) (s03 b o' e);refine ja2 (xs:=xs) (λi tK H'=>SamT F H3 H'/\H' D=tE (.lst tK)/\(∃(mp:pG->Option V) (n:Nat),H' F=tE (jL P w F mp n)/\FmOk ps (m:Nat) mp/\n<=2 * i)/\Iss K H3 ((((ovA ps ps.length).take i).filter λt=>!zaz ps m t).map d3) tK/\∀t ∈ (ovA ps ps.length).take i,OkG ps m t) #[ja0 (zc hD),zb,#[_,0,by rw[zm (λz=>hDF z.symm)];exact hF3,FmOk.nil,⋯],by erw[bi,dD,aA,Iss],λt ht=>by simp at ht] (λi tK H' Z h=>x6 (h.1 _ _ hOF hX)) ?_ ?_
  ·refine nm4 ?_;rintro i x tK H' hx ⟨sT,hH,⟨mp,n,hFm,hM,hn⟩,hI',hle⟩:_;have hil:=(tL.mp hx).1;let#[t,p,ht,rfl,hp]:=hI.get3 hx;have htm:=ag ht;have hE':=hE.2 t htm
   have hal:tK.length<=i:=by
    have:=hI'.len;rw[aa]at this;have h5:=dc (λt=>!zaz ps m t) ((ovA ps ps.length).take i);rw[aF]at h5;lia
   right
   erw[zcA,tBl]
   rfl'
   refine#[yJ,r,p,F,ps,t,(m:Nat),n,mp,_,_,rfl,XH sT hF3 (hA2.same s3),hN,hok,qC sT hF3 hp,htm,hFm,hM,⋯,VZ hE'.1 hE.1,VZ hE'.2 hE.1,λJ1 J2 mp' n' H5 e1 e2 s5 hF5 hM5 hn5=>?_,λh H5 s5=>k2 t htm (zej h) H5 (back (sT.trans s5))]
   have hle':∀t' ∈ (ovA ps ps.length).take (i+1),OkG ps m t':=λt' ht'=>by
    rw[zP ht]at ht';rcases tO.mp ht' with h | h
    ·exact hle t' h
    ·rw[tP.mp h];exact#[by rw[e1];rfl,by rw[e2];rfl]
   rw[UZ e1 e2]
   have hcase:∀b,zaz ps m t=b->(!b)=tG->Iss K H3 ((((ovA ps ps.length).take (i+1)).filter λt=>!zaz ps m t).map d3) (tK ++ [.ref p]):=λb hb hb'=>by
    rw[zP ht,cU,ar];refine jb2 hI' ?_;rw[dZ,hb,z6 hb']
    erw[dD,ak,aA,Iss]
    refine#[_,[],rfl,?_,rfl]
    erw[d3,Is,Iss]
    exact#[p,_,rfl,hp,_,_,rfl,rfl,_,_,rfl,rfl,_,_,rfl,rfl,rfl]
   refine#[_,rfl,?_]
   cases hb:zaz ps m t with
   | false =>
    rw[z6 rfl];refine#[s5 _ _ hDF hH,⋯,x9 hil #[λb o' hbF e=>?_,zb,#[mp',n',by rw[zm (λz=>hDF z.symm)];exact hF5,hM5,⋯],hcase _ hb rfl,hle']];rw[zm (λz=>by rw[z,hD]at e;cases e)];exact s5 b o' hbF (sT b o' hbF e)
   | true =>
    rw[z9 ∅];refine x9 hil #[sT.trans s5,s5 _ _ hDF hH,#[mp',n',hF5,hM5,⋯],?_,hle'];rw[zP ht,cU,dZ,hb]
    erw[gd,aY,if_false,dD,aV]
    exact hI'
  ·refine nmB ?_;rintro tK H' ⟨sT,hH,_,hI',hle⟩:_;rw[hxl,aI]at hI' hle;right;exact k1 hle D H' (back sT) (s03.free hD) #[tK,hH,YF sT hF3 hI']
theorem ze8(h:SqT K H p [a,b])(k:R ((σ.set i (tE a)).set j (tE b)) H):zaK K 2 (jO (yW i) (jO (yW j) zbu)) (.ref p) σ H R:=by
 erw[zaK,jO,yW,zbu]
 first
 | exact⟨_,_,rfl,h,rfl,_,_,rfl,_,_,rfl,rfl,k⟩
 | exact⟨_,_,rfl,.inr h,rfl,_,_,rfl,_,_,rfl,rfl,k⟩
theorem EnsA.app(hf:EnsA K H fs us):∀{es:List Ent} {vs:List V},EnsA K H es vs->EnsA K H (es ++ fs) (vs ++ us)
 | [],vs,h=>by
  erw[EnsA]at h
  subst h;exact hf
 | e::es,vs,h=>by
  erw[EnsA]at h
  let#[x,r,rfl,hx,hr]:=h
  erw[bw,EnsA]
  exact#[x,r ++ us,rfl,hx,hf.app hr]
abbrev MkS(P:pJ)(w:pR)(K:pB)(mg:pG->Option pD)(base:pS)(CO CR CW CT CH:pC):Prop:=DMk P w K mg base (CXx P w) 5 CH ["self","order","rules"] (qz K CO CR CW CT CH)
def zbn{Q:pC->Hp->Prop}{CO CR CW CT CH o a:pC}(ho:OrdAt CO CR CW H o k l ns)(hG:OG l ns k)(hA:LsA K H a (ps.map dR))(hin:InL l ps)(hf:wK k l ns ps 0=tF)(q:∀(y qa:pC) (H':Hp),Same H H'->Ka K CH H' y o qa ps->Q y H'):∀x dx,H x=tF->H dx=tF->dx≠x->qz K CO CR CW CT CH [.ref x,.ref o,.ref a] (upd (upd H dx (.own x)) x (.ins CH dx [])) (λv H'=>v=.non/\Q x H') E0:=by
 intro x dx hx hdx hne;let#[xs,hX,hI]:=hA;have sd:=zc (o:=.own x) hdx
 have k1:Same H (upd (upd H dx (.own x)) x (.ins CH dx [])):=λb' o' e=>by
  rw[zm (zD e hx)];exact sd _ _ e
 refine#[x,dx,o,a,k,l,ns,ps,xs,rfl,zb,ho.same k1,hG,k1 _ _ hX,ja1 k1 _ _ hI,hin,(λi e=>by rw[hf]at e;cases e),λZ q1 H'' kp hx' hq' hqn=>#[rfl,?_]];have k3:Same H H'':=λb' o' e=>kp b' o' (λz=>by rw[z,hx]at e;cases e) (k1 _ _ e);exact q x q1 H'' k3 #[dx,xs,hx',hq',ja1 k3 _ _ hI]
def BG.inL(h:BG k l ns bs):InL l (zf bs):=λp hp=>by
 let#[e,he,rfl]:=tM.mp hp;have b:=h.e e he;exact#[aG b.a ∅,aG b.b ∅,b.ma,b.mb]
def BG.fault(h:BG k l ns bs):wK k l ns (zf bs) 0=tF:=uG λm p e=>by
 let#[e',he,rfl]:=tM.mp (ag e);exact h.lt e' he
def WG(K:pB)(CO CR CW CH:pC):Sp:=λvs H Q Z=>∃(o a:pC) (k:Nat) (l:()) (ns:List Int) (bs:List Ent),vs=[.ref o,.ref a]/\OrdAt CO CR CW H o k l ns/\OG l ns k/\EnsL K H a bs/\BG k l ns bs/\∀(y qa:pC) (H':Hp),Same H H'->Ka K CH H' y o qa (zf bs)->Q (.ref y) H'
def Z4:sQz 2 ["order","entries"] vL:=by nofun
def Yo{f CO CR CW CT CH:pC}(B:Bt mg)(TS:zdB K mg CH)(MS:MkS P w K mg base CO CR CW CT CH)(F:("system_by"^^^vL))(ij:(1<<<"pairs_of") ["entries"] [] (vn K)):(7&&&["order","entries"]) (WG K CO CR CW CH):=by
 exists F.ok Z4
 ·let#[o,a,k,l,ns,bs,rfl,ho,hG,hA,hB,q]:=h;refine#[_,(zh (zp (zeA xe0 MS hr rfl TS.g (za (pv 0) (za (cl0 ij hr .nil rfl (za (pv 1) zd)) zd))))),?_];have s16:=yb;ac_rfl;refine wP hA.is (by have:=hB.n;lia) λD H' Z s' hL=>?_;exact zbn (ho.same s') hG hL hB.inL hB.fault λy qa H'' s'' hy=>q y qa H'' (s'.trans s'') hy
def fE(i:Nat)(p:zG):Ent:=(p.1,p.2,[((i:Int),(0:Int),tG)])
def fEs(rs:List zG):Nat->List Ent
 | 0=>[]
 | n+1=>fEs rs n ++ ((rs[n]?).map (fE n)).toList
def Wo(h:rs[n]? = tE p):fEs rs (n+1)=fEs rs n ++ [fE n p]:=by show fEs rs n ++ ((rs[n]?).map (fE n)).toList=_;rw[h];rfl
theorem UN(rs:List zG):∀n,(fEs rs n).length<=n
 | 0=>am _
 | n+1=>by
  have:=UN rs n;show (fEs rs n ++ ((rs[n]?).map (fE n)).toList).length<=_;rw[aq]
  cases rs[n]? with
  | none=>simp;lia
  | some p=>simp;lia
theorem Zd : ∀{n:Nat} {e:Ent},e ∈ fEs rs n->∃i p,i<n/\rs[i]? = tE p/\e=fE i p
 | 0,e,h=>(nomatch h)
 | n+1,e,h=>by
  have h':e ∈ fEs rs n ++ ((rs[n]?).map (fE n)).toList:=h;rcases tO.mp h' with h | h
  ·let#[i,p,hi,hp,he]:=Zd h;exact#[i,p,⋯,hp,he]
  ·cases hn:rs[n]? with
   | none=>rw[hn]at h;simp at h
   | some p =>
    rw[hn]at h;exact#[n,p,⋯,hn,by simpa using h]
def Wp(K:pB):Sp:=λvs H Q Z=>∃(a:pC) (rs:List zG),vs=[.ref a]/\LsA K H a (rs.map dR)/\rs.length<=20/\∀(D:pC) (H':Hp),Same H H'->H D=tF->EnsM K H' D (fEs rs rs.length)->Q (.ref D) H'
def qd:sQz 1 ["pacts"] yO:=by nofun
def qh(B:Bt mg)(F:("first_entries"^^^yO)):(1&&&["pacts"]) (Wp K):=by
 exists F.ok qd
 ·let#[a,rs,rfl,hA,hrl,q]:=h;refine#[_,(zh (zp (xf (g:=zaK K 2 (jO (yW 0) (jO (yW 1) zbu))) (own:=["number","pact"]) (caps:=[]) (ix:=[]) (tt:=xy) (te:=(Zo (zI (tOp (xO K) (z7 1) (tC (.int 0))) (zI (tOp (xO K) (z7 1) (tC (.int 1))) (zI (zdI (zI (Zo (zI (z7 0) (zI (tC (.int 0)) (zI (tC (.bl tG)) xp)))) xp)) xp))))) rfl (zM (sc:=zi yO) rfl (!0) (!0) (!0) rfl (!0) (!0) rfl) (vq rfl B.enum (za (pv 0) zd)) (λZ Z Z Z Z Z=>wF (n:=2) rfl (zK (zr (i:=0) (show List.Nodup [_,_] by decide) rfl (.inl rfl)) (zK (zr (i:=1) (show List.Nodup [_,_] by decide) rfl (.inl rfl)) yV))) (λZ Z Z Z Z Z=>zY) (λZ Z Z Z Z Z=>(zy (za (!-1) (za (!-1) (za (zX (za (zy (za (pv 0) (za ze (za yA zd)))) zd)) zd)))))))),?_];have s16:=yb;let#[xs,hX,hI]:=id hA;have hxl:=hI.len;rw[aa]at hxl;ac_rfl;rw[zc8];ac_rfl;refine#[#[_,x6 hX],λD hD=>CompEL.by (xs:=xs) (λi tK H'=>Same H H'/\H' D=tE (.lst tK)/\tK.length<=i/\EnsA K (jM D H') (fEs rs i) tK) #[zc hD,zb,am _,rfl] (λi tK H' Z h=>x6 (h.1 _ _ hX)) ?_ ?_]
  ·refine nmE ?_;rintro i x tK H' p hx ⟨hs,hH,hal,hEn⟩ hp:_;have hil:=(tL.mp hx).1;let#[r,pr,hri,rfl,hqr]:=hI.getR hx;have u1:=zc (o:=HO.tup [.int (i:Nat),.ref pr]) hp;have hq:=zl (hs.trans u1) hqr;right;dsimp only;refine ze8 (x8 zb) ?_
   erw[xy]
   rfl'
   refine#[KR,_,hq,_,rfl,_,hq,_,rfl,⋯,λp1 hp1=>#[⋯,λp2 hp2=>#[⋯,λp3 hp3=>?_]]];have u2:=zc (o:=HO.tup [.int (i:Nat),.int 0,.bl tG]) hp1;have u3:=zc (o:=HO.lst [.ref p1]) hp2;have u4:=zc (o:=HO.tup [⇑r.1,⇑r.2,.ref p2]) hp3;have u:=u1.trans (u2.trans (u3.trans u4));have hD4:=u _ _ hH;have hp2D:p2≠D:=λz=>by rw[z,u2 _ _ (u1 _ _ hH)]at hp2;cases hp2
   refine#[hD4,⋯,x9 hil #[zH (hs.trans u) hD,zb,by rw[aq];erw[aJ,ci];lia,?_]];rw[Wo hri];refine (hEn.same ((xF u).trans y0)).snoc (EnA.same ?_ y0);refine EnA.new (e:=fE i r) hD4 zb #[_,u4 _ _ zb,?_] hp2D;show Iss K _ [dSt ((i:Int),(0:Int),tG)] _;exact qK (vE (x8 (u4 _ _ (u3 _ _ zb))))
  ·refine nmB ?_;rintro tK H' ⟨hs,hH,hal,hEn⟩:_;rw[hxl]at hEn;right;exact q D H' hs hD #[tK,hH,hEn.same wd]
def jI(es:List Ent):Bool:=decide (12<es.length) || es.any λe=>decide (10<max e.1.length e.2.1.length)
structure TMc(mg:pG->Option pD):Prop where
 u:∃t,mg "MOST_USES_completing" = tE (.int 40 t)
 e:∃t,mg "MOST_ENTRIES" = tE (.int 12 t)
 d:∃t,mg "MOST_SIDE_completing" = tE (.int 10 t)
 p:∃t,mg "MOST_PEAKS" = tE (.int 8 t)
def ZY(K:pB):Sp:=λvs H Q Z=>∃(a:pC) (es:List Ent),vs=[.ref a]/\EnsL K H a es/\es.length<64/\(∀e ∈ es,e.1.length<=10000/\e.2.1.length<=10000)/\∀H',Same H H'->Q (.bl (jI es)) H'
def Yb:sQz 1 ["entries"] wC:=by nofun
def Z0(B:Bt mg)(hany:zgz mg)(TM:TMc mg)(F:("is_beyond"^^^wC)):(1&&&["entries"]) (ZY K):=by
 let#[#[t9,g9],#[t8,g8]]:=And.intro TM.e TM.d
 exists F.ok Yb
 ·let#[a,es,rfl,hA,hl,hE,q]:=h
  refine#[_,(zg (zS (zB uT (zR B.len (pv 0)) (yT (v:=.int 12) rfl g9 #[t9,rfl]) (zF _)) (zh (zp yA))
    zv) (zh (zp (xa (zfs rfl) rfl hany PyProof.Rows.boot_any (za (xf (own:=["entry"]) (caps:=[]) (ix:=[]) (tt:=xy) (te:=(tOp zez (tCB Q7 (zI (tCB (Vz K) (zI (tOp (xO K) (z7 0) (tC (.int 0))) xp)) (zI (tCB (Vz K) (zI (tOp (xO K) (z7 0) (tC (.int 1))) xp)) xp))) (tC (.int 10)))) rfl (zM (sc:=zi wC) rfl (!0) (!0) (!0) rfl (!0) (!0) rfl) (ye (pv 0)) (λZ Z Z Z Z Z=>zr (i:=0) (show List.Nodup [_] by decide) rfl (.inl rfl)) (λZ Z Z Z Z Z=>zY) (λZ Z Z Z Z Z=>(yB uT (xa (U3 rfl) rfl B.max qv (za (zR B.len (!-0)) (za (zR B.len (!-0)) zd))) (yT (v:=.int 10) rfl g8 #[t8,rfl]) (zF _)))) zd))))),?_]
  have s16:=yb;let#[xs,hX,hEn]:=id hA;have hxl:=hEn.len;change H'=H/\¬ 12<es.length/\σ=[!!a]
  ·ac_rfl;refine#[_,.inl #[_,hX,rfl],yC (λh=>?_) λh=>by lia]
   have e:jI es=tG:=by
    unfold jI;rw[y4 ⋯,Bool.true_or]
   rw[<- e];exact q H (ja3 _)
  rintro σ H1 ⟨rfl,h12,rfl⟩:0;ac_rfl;refine#[#[_,hX],λD hD=>ja2 (xs:=xs) (λi tK H'=>Same H1 H'/\H' D=tE (.lst tK)/\tK=((es.take i).map λe=>decide (10<max e.1.length e.2.1.length)).map V.bl) #[zc hD,zb,rfl] (λi tK H' Z h=>h.1.seq hX) ?_ ?_]
  ·refine nm4 ?_;rintro i x tK H' hx ⟨hs,hH,rfl⟩:_;have hil:=(tL.mp hx).1;let#[e,p,s,he,rfl,hp,_]:=hEn.get hx;have hq:=zl hs hp;have hb:=hE e (ag he);right
   erw[xy]
   rfl'
   refine#[yJ,_,hq,_,rfl,_,#[by rw[yk];lia,rfl],_,hq,_,rfl,_,#[by rw[yk];lia,rfl],hH,by rw[aa,aa,aF];lia,x9 hil #[zH hs hD,zb,?_]];rw[zP he,ar,ar,yk,yk];congr 1;show [V.bl _]=[V.bl _];congr 2;refine decide_eq_decide.mpr ?_;split <;> lia
  ·refine nmB ?_;rintro tK H' ⟨hs,hH,rfl⟩:_;rw[hxl,aI]at hH;right;refine#[D,_,rfl,x6 hH,?_]
   have e:(es.map λe=>decide (10<max e.1.length e.2.1.length)).any id=jI es:=by
    unfold jI;rw[y6 h12,Bool.false_or,ee];rfl
   rw[e];exact q H' hs
def Xx(h:jI es=tH):es.length<=12/\∀e ∈ es,e.1.length<=10/\e.2.1.length<=10:=by unfold jI at h;rw[Bool.or_eq_false_iff]at h;refine#[by have:=of_decide_eq_false h.1;lia,λe he=>?_];have:=List.any_eq_false.mp h.2 e he;have h2:¬ 10<max e.1.length e.2.1.length:=λz=>this (y4 z);lia
def KI(K:pB)(CO CR CW T:pC):Sp:=λvs H Q Z=>∃(o a:pC) (k:Nat) (l:()) (ns:List Int) (es:List Ent),vs=[.ref o,.ref a]/\OrdAt CO CR CW H o k l ns/\OG l ns k/\EnsL K H a es/\es.length<64/\(∀e ∈ es,EB l e)/\TabOk H T lp lq /\
 (∀(bs:List Ent) (D:pC) (H':Hp),wH k l ns 20 es (tE bs)->BG k l ns bs->jI bs=tH->SamT T H H'->TabOk H' T lp lq->EnsM K H' D bs->Q (.ref D) H')/\((wH k l ns 20 es tF\/∃bs,wH k l ns 20 es (tE bs)/\jI bs=tG)->∀H',SamT T H H'->TabOk H' T lp lq->Q .non H')
structure zgc(K:pB)(CF:pC):Prop where
 s:cy K (.ref CF) (.ref CF)=tE tG
def lN:sQz 2 ["order","entries","slim"] xo:=by nofun
def uB{f CO CR CW TB CF:pC}(B:Bt mg)(TFx:zaU K mg CF)(TSb:zgc K CF)(F:("thinned_within"^^^xo))(mV:(7>>>"thinned") ["order","entries"] [] (Xe K CO CR CW TB CF))(oG:(1<<<"is_beyond") ["entries"] [] (ZY K)):(8&&&["order","entries"]) (KI K CO CR CW TB):=by
 exists F.ok lN
 ·let#[o,a,k,l,ns,es,rfl,ho,hG,hA,hz,hE,hTab,q1,q2]:=h
  refine#[_,(zg (Kt (i:=2) (th:=(zct (tC .non))) lN.nd rfl (.inl rfl) (.inl rfl) #[rfl,rfl] (clX mV hr .nil rfl (za (pv 0) (za (pv 1) zd))) rfl TFx.g TFx.xi.ok (λe=>(zh (zp xj)))) (zh (zp (kD (yU (cl0 oG hr .nil rfl (za (pv 2) zd)) (λZ=>rfl)) xj (pv 2))))),?_]
  have s16:=yb;change SamT TB H H'/\TabOk H' TB lp lq/\∃(bs:List Ent) (D:pC),wH k l ns 20 es (tE bs)/\BG k l ns bs/\EnsM K H' D bs/\σ=[!!o,!!a,!!D]
  ·erw[KN]
   ac_rfl;exact#[o,a,k,l,ns,es,rfl,ho,hG,hA,hz,hE,hTab,λbs D H' h1 h2 h3 h4 h5=>#[h3,h4,bs,h1,h2,D,h5,rfl],λh H' h3 h4=>#[CF,rfl,TSb.s,λx hx=>q2 (.inl h) _ (h3.trans (ja0 (zc hx))) (h4.same (zc hx))]]
  rintro σ H1 ⟨s1,hT1,bs,D,hTh,hB,hM,rfl⟩:0;ac_rfl;exact#[D,bs,rfl,hM.l,hB.n,λe he=>#[aG (hB.e e he).a ∅,aG (hB.e e he).b ∅],λH' s'=>#[_,rfl,yC (λh=>q2 (.inr #[bs,hTh,h]) H' (s1.trans (ja0 s')) (hT1.same s')) λh=>q1 bs D H' hTh hB ↥h (s1.trans (ja0 s')) (hT1.same s') (hM.same s')]]
def qu(w:())(k:Int)(o n:()):(yM w k o n).length<=w.length+n.length:=by unfold yM;rw[aq,aq,aF,bh,cT];exact Nat.add_le_add_right (zfV _ _ _) _
def BG.ok(h:BG k l ns bs)(hl:bs.length<=30):jV (zf bs):=by refine#[by unfold zf;rw[aa];exact hl,λr hr=>?_];let#[e,he,rfl]:=tM.mp hr;exact#[aG (h.e e he).a ∅,aG (h.e e he).b ∅]
def zdF(hok:∀r ∈ ps,r.1.length<=60/\r.2.length<=60)(ht:t ∈ ovA ps ps.length):(pkA ps t).length<=180/\(pkB ps t).length<=180:=by
 let#[i1,i2,i3,i4]:=qS ht;obtain⟨r,hr⟩:∃r,ps[t.1]? = tE r:=#[_,ah i1];obtain⟨r2,hr2⟩:∃r,ps[t.2.1]? = tE r:=#[_,ah i2];have l1:=ur hr;have l2:=ur hr2;have d1:ps.getD t.1 ([],[])=r:=by rw[ae,hr];rfl
 have d2:ps.getD t.2.1 ([],[])=r2:=by rw[ae,hr2];rfl
 rw[l1]at i3;have b1:=hok r (ag hr);have b2:=hok r2 (ag hr2);have hp:=ui r.1 r2.1 t.2.2 ⋯;have p1:=qu (yx r.1 r2.1 t.2.2) 0 r.1 r.2;have p2:=qu (yx r.1 r2.1 t.2.2) (t.2.2:Nat) r2.1 r2.2;unfold pkA pkB;rw[l1,l2,d1,d2];lia
def zdU(hN:NeL ps)(hok:∀r ∈ ps,r.1.length<=60/\r.2.length<=60):zgd ps 40:=by
 refine#[∅,λt ht=>?_];let#[h1,h2]:=zdF hok ht
 have key:∀(v:()),v.length<=180->∀j,j<=40->(wAt ps v j).length<=10000:=λv hv j hj=>by
  have:=jn (l:=v) hN (λp hp=>(hok p hp).2) j;have h3:j * 60<=40 * 60:=eJ hj (am _);lia
 exact#[key _ h1,key _ h2]
def zar(K:pB)(CO CR CW:pC):Sp:=λvs H Q Z=>∃(o a:pC) (k:Nat) (l:()) (ns:List Int) (bs:List Ent),vs=[.ref o,.ref a]/\OrdAt CO CR CW H o k l ns/\OG l ns k/\EnsL K H a bs/\BG k l ns bs/\bs.length<=30/\(ovA (zf bs) (zf bs).length).length<=4000 /\
 ((∀t ∈ ovA (zf bs) (zf bs).length,OkG (zf bs) 40 t)->∀D H',Same H H'->LsA K H' D ((unG (zf bs) 40).map d3)->Q (.ref D) H')/\(∀t ∈ ovA (zf bs) (zf bs).length,¬ OkG (zf bs) 40 t->∀H',Same H H'->Q .non H')
def jj:sQz 2 ["order","entries"] xT:=by nofun
def jg{f CO CR CW CF CH:pC}(B:Bt mg)(TFx:zaU K mg CF)(TSb:zgc K CF)(TM:TMc mg)(F:("unmet_within"^^^xT))(oX:(7>>>"unmet") ["system","most"] [] (vV K CH CF))(DD_unmet:(7>>>"unmet") ["system","most"] [.int 4000 nE] (vV K CH CF))(oH:(7<<<"system_by") ["order","entries"] [] (WG K CO CR CW CH)):(9&&&["order","entries"]) (zar K CO CR CW):=by
 let#[t9,g9]:=TM.u
 exists F.ok jj
 ·let#[o,a,k,l,ns,bs,rfl,ho,hG,hA,hB,hbl,hol,q1,q2]:=h;refine#[_,(zh (Ku (th:=(zct (tC .non))) #[rfl,rfl] (clX oX hr .nil rfl (za (cl0 oH hr .nil rfl (za (pv 0) (za (pv 1) zd))) (za (yT (v:=.int 40) rfl g9 #[t9,rfl]) zd))) rfl TFx.g TFx.xi.ok (λe=>(zh (zp xj))))),?_];have s16:=yb;have s16:=yb
  erw[zae]
  ac_rfl
  have hsd:∀r ∈ zf bs,r.1.length<=60/\r.2.length<=60:=λr hr=>by
   let#[e,he,rfl]:=tM.mp hr;exact#[(hB.e e he).a,(hB.e e he).b]
  exact#[o,a,k,l,ns,bs,rfl,ho,hG,hA,hB,λy qa H' s' hy=>#[y,o,qa,zf bs,40,rfl,hy,hB.ne hG,hB.ok hbl,hol,zdU (hB.ne hG) hsd,λh D H'' s'' Z hL=>q1 h D H'' (s'.trans s'') hL,λt ht h H'' s''=>#[CF,rfl,TSb.s,λx hx=>q2 t ht h _ (s'.trans (s''.trans (zc hx)))]]]
def jw(es:List Ent)(t:N3):Ent:=(pkA (zf es) t,pkB (zf es) t,byL es [((t.1:Int),(0:Int),tH),((t.2.1:Int),(t.2.2:Int),tG)])
def Zb(K:pB):Sp:=λvs H Q Z=>∃(a t:pC) (es:List Ent) (tr:N3),vs=[.ref a,.ref t]/\EnsL K H a es/\SqT K H t [.int (tr.1:Nat),.int (tr.2.1:Nat),.int (tr.2.2:Nat)]/\tr ∈ ovA (zf es) (zf es).length/\jV (zf es)/\(∀e ∈ es,e.2.2.length<=600)/\∀(p s:pC) (H':Hp),Same H H'->H' p=tE (.tup [⇑(jw es tr).1,⇑(jw es tr).2.1,.ref s])->LsA K H' s ((jw es tr).2.2.map dSt)->H s=tF->Q (.ref p) H'
def mn:sQz 2 ["entries","overlap","sides","steps"] uE:=by nofun
def Xy(B:Bt mg)(F:("entry_of"^^^uE))(ow:(4<<<"peak") ["rules","overlap"] [] (Za K))(lP:(2<<<"by_pacts") ["entries","steps"] [] (J0 K))(ij:(1<<<"pairs_of") ["entries"] [] (vn K)):(5&&&["entries","overlap"]) (Zb K):=by
 exists F.ok mn
 ·let#[a,t,es,tr,rfl,hA,ht,htr,hok,hst,q]:=h
  refine#[_,(zg (zE 2 mn.nd (cl0 ow hr .nil rfl (za (cl0 ij hr .nil rfl (za (pv 0) zd)) (za (pv 1) zd)))) (zg (zE 3 mn.nd (cl0 lP hr .nil rfl (za (pv 0) (za (zX (za (zy (za (!-1) (za ze (za yA zd)))) (za (zy (za (!-1) (za (!-1) (za yA zd)))) zd))) zd)))) (zh (zp (zy (za (!-2) (za (!-2) (za (pv 3) zd)))))))),?_]
  have s16:=yb;have hlp:(zf es).length=es.length:=by unfold zf;rw[aa]
  let#[i1,i2,i3,i4]:=qS htr;obtain⟨r,hr1⟩:∃r,(zf es)[tr.1]? = tE r:=#[_,ah i1];obtain⟨r2,hr2⟩:∃r,(zf es)[tr.2.1]? = tE r:=#[_,ah i2];have l1:=ur hr1;have l2:=ur hr2;have d1:(zf es).getD tr.1 ([],[])=r:=by rw[ae,hr1];rfl
  have d2:(zf es).getD tr.2.1 ([],[])=r2:=by rw[ae,hr2];rfl
  have eA:pkA (zf es) tr=yM (yx r.1 r2.1 tr.2.2) 0 r.1 r.2:=by unfold pkA;rw[l1,l2,d1]
  have eB:pkB (zf es) tr=yM (yx r.1 r2.1 tr.2.2) (tr.2.2:Nat) r2.1 r2.2:=by unfold pkB;rw[l1,l2,d2]
  rw[l1]at i3;rw[l1,l2]at i4;change Same H H'/\∃p:pC,(∃x,H' p=tE (.tup [x,⇑(pkA (zf es) tr),⇑(pkB (zf es) tr)]))/\σ=[!!a,!!t,!!p,tF]
  ·rfl'
   refine wP hA.is (by have:=hok.1;lia) λD H1 Z s1 hL=>?_;exact XY hL.is (zl s1 ht) hok hr1 hr2 ⋯ i4 λp H' Z s' hp=>#[s1.trans s',p,#[_,by rw[eA,eB];exact hp],rfl]
  rintro σ H1 ⟨s1,p,⟨x,hp⟩,rfl⟩:0;change Same H1 H'/\∃S:pC,H S=tF/\LsA K H' S ((jw es tr).2.2.map dSt)/\σ=[!!a,!!t,!!p,!!S]
  ·have ht1:=zl s1 ht
   rfl'
   refine#[_,ht1,_,rfl,⋯,λp1 hp1=>?_];have u1:=zc (o:=HO.tup [.int (tr.1:Nat),.int 0,.bl tH]) hp1;refine#[_,zl u1 ht1,_,rfl,_,zl u1 ht1,_,rfl,⋯,λp2 hp2=>#[⋯,λp3 hp3=>?_]];have u2:=zc (o:=HO.tup [.int (tr.2.1:Nat),.int (tr.2.2:Nat),.bl tG]) hp2;have u3:=zc (o:=HO.lst [.ref p1,.ref p2]) hp3;have u:=u1.trans (u2.trans u3);refine Qy (us:=[((tr.1:Int),(0:Int),tH),((tr.2.1:Int),(tr.2.2:Int),tG)]) (hA.same (s1.trans u)).is (LsA.is #[_,zb,?_]) (by simp) hst (λv hv=>?_) λD H' hDn s' hL=>#[u.trans s',D,(s1.trans u).free hDn,hL,rfl]
   ·erw[ak,aA,Iss]
    exact#[_,_,rfl,vE (x8 (u3 _ _ (u2 _ _ zb))),_,_,rfl,vE (x8 (u3 _ _ zb)),rfl]
   ·erw[be,bc,or_false]at hv
    rcases hv with rfl | rfl
    ·exact#[by simp,by show (tr.1:Int)<_;lia]
    ·exact#[by simp,by show (tr.2.1:Int)<_;lia]
  rintro σ H2 ⟨s2,S,hSn,hS,rfl⟩:0
  rfl'
  exact#[_,x8 (s2 _ _ hp),_,rfl,_,x8 (s2 _ _ hp),_,rfl,⋯,λp' hp'=>q p' S _ (s1.trans (s2.trans (zc hp'))) zb (hS.same (zc hp')) hSn]
def Ko(h:¬ uY e):¬ uY (zQ k l ns e):=by
 unfold zQ;split
 ·exact h
 ·unfold uY at h ⊢;rw[yg];show ¬ (240<e.2.2.length\/60<e.2.1.length\/60<e.1.length);lia
theorem Vt(h:xq k l ns bs es r):(∀e ∈ bs,¬ uY e)->∀fs,r=tE fs->∀e ∈ fs,¬ uY e:=by
 induction h with
 | nil bs=>exact λh fs e=>by cases e;exact h
 | same _ _ _ _ ih=>exact ih
 | new _ _ _ h4 _ ih =>
  intro h;refine ih λe he=>?_;rcases tO.mp he with he | he
  ·exact h e he
  ·rw[tP.mp he];exact Ko h4
 | far _ _ _ _=>exact λZ fs e=>by cases e
 | stuck _=>exact λZ fs e=>by cases e
theorem jc(h:wH k l ns n es r):∀fs,r=tE fs->∀e ∈ fs,¬ uY e:=by
 induction h with
 | out es=>exact λfs e=>by cases e
 | bad _ _=>exact λfs e=>by cases e
 | done _ h2 _=>exact λfs e=>by cases e;exact Vt h2 (λe he=>(nomatch he)) _ rfl
 | more _ _ _ _ ih=>exact ih
def Qp(h:∀e ∈ es,e.2.2.length<=M)(u:Stp):(XX es u).length<=M:=by
 have hg:(es.getD u.1.toNat ([],[],[])).2.2.length<=M:=by
  rw[ae]
  cases e:es[u.1.toNat]? with
  | none=>exact aw _
  | some x=>exact h x (ag e)
 unfold XX;rw[YH];split
 ·exact hg
 ·rw[yg];exact hg
inductive Cpl(k:Nat)(l:())(ns:List Int):Nat->List Ent->List Ent->Bool->List Ent->Prop where
 | out (kept fresh:List Ent):Cpl k l ns 0 kept fresh tH kept
 | slim {n:Nat} {kept fresh:List Ent} (h:wH k l ns 20 fresh tF\/∃bs,wH k l ns 20 fresh (tE bs)/\jI bs=tG):Cpl k l ns (n+1) kept fresh tH kept
 | far {n:Nat} {kept fresh bs:List Ent} {t:N3} (h:wH k l ns 20 fresh (tE bs)) (hb:jI bs=tH) (ht:t ∈ ovA (zf bs) (zf bs).length) (ho:¬ OkG (zf bs) 40 t):Cpl k l ns (n+1) kept fresh tH bs
 | whole {n:Nat} {kept fresh bs:List Ent} (h:wH k l ns 20 fresh (tE bs)) (hb:jI bs=tH) (ho:∀t ∈ ovA (zf bs) (zf bs).length,OkG (zf bs) 40 t) (hu:unG (zf bs) 40=[]):Cpl k l ns (n+1) kept fresh tG bs
 | more {n:Nat} {kept fresh bs es:List Ent} {w:Bool} (h:wH k l ns 20 fresh (tE bs)) (hb:jI bs=tH) (ho:∀t ∈ ovA (zf bs) (zf bs).length,OkG (zf bs) 40 t) (hu:unG (zf bs) 40≠[]) (r:Cpl k l ns n bs (bs ++ ((unG (zf bs) 40).take 8).map (jw bs)) w es):Cpl k l ns (n+1) kept fresh w es
def zdy(hl:ps.length<=12)(h:∀r ∈ ps,r.1.length<=10):(ovA ps ps.length).length<=4000:=by
 have lfl:∀i,(lf ps i).length<=10:=λi=>by
  cases e:ps[i]? with
  | none=>unfold lf;rw[ae,e];exact aw _
  | some r=>rw[ur e];exact h r (ag e)
 have oI:∀i m,(ovI ps i m).length<=m * 10:=λi m=>by
  induction m with
  | zero=>exact aw _
  | succ m ih =>
   rw[qB,aq];have h1:=qk ps i m (lf ps i).length;have h2:=lfl i;lia
 have oA:∀m,(ovA ps m).length<=m * 120:=λm=>by
  induction m with
  | zero=>exact aw _
  | succ m ih =>
   rw[ku,aq];have h1:=oI m ps.length;lia
 have:=oA ps.length;lia
def zfC{l:()}(hin:∀r ∈ ps,(∀c ∈ r.1,c ∈ l)/\∀c ∈ r.2,c ∈ l)(h10:∀r ∈ ps,r.1.length<=10/\r.2.length<=10)(ht:t ∈ ovA ps ps.length):((pkA ps t).length<=40/\∀c ∈ pkA ps t,c ∈ l)/\(pkB ps t).length<=40/\∀c ∈ pkB ps t,c ∈ l:=by
 let#[i1,i2,i3,i4]:=qS ht;obtain⟨r,hr⟩:∃r,ps[t.1]? = tE r:=#[_,ah i1];obtain⟨r2,hr2⟩:∃r,ps[t.2.1]? = tE r:=#[_,ah i2];have l1:=ur hr;have l2:=ur hr2;have d1:ps.getD t.1 ([],[])=r:=by rw[ae,hr];rfl
 have d2:ps.getD t.2.1 ([],[])=r2:=by rw[ae,hr2];rfl
 rw[l1]at i3;have b1:=h10 r (ag hr);have b2:=h10 r2 (ag hr2);have n1:=hin r (ag hr);have n2:=hin r2 (ag hr2);have hp:=ui r.1 r2.1 t.2.2 ⋯;have p1:=qu (yx r.1 r2.1 t.2.2) 0 r.1 r.2;have p2:=qu (yx r.1 r2.1 t.2.2) (t.2.2:Nat) r2.1 r2.2
 have hw:∀c ∈ yx r.1 r2.1 t.2.2,c ∈ l:=λc hc=>by
  unfold yx at hc;rcases tO.mp hc with h | h
  ·exact n1.1 c h
  ·exact n2.1 c (dj h)
 have put:∀(k:Int) (o n:()),(∀c ∈ n,c ∈ l)->∀c ∈ yM (yx r.1 r2.1 t.2.2) k o n,c ∈ l:=λk o n hn c hc=>by
  unfold yM at hc;rcases tO.mp hc with hc | hc
  ·rcases tO.mp hc with hc | hc
   ·exact hw c (bQ hc)
   ·exact hn c hc
  ·exact hw c (dj hc)
 unfold pkA pkB;rw[l1,l2,d1,d2];exact#[#[⋯,put _ _ _ n1.2],⋯,put _ _ _ n2.2]
def Q0(hB:BG k l ns bs)(hb:jI bs=tH)(hs:∀e ∈ bs,e.2.2.length<=240)(ht:t ∈ ovA (zf bs) (zf bs).length):EB l (jw bs t):=by
 let#[b1,b2]:=Xx hb
 let#[h1,h2]:=zfC (l:=l) (ps:=zf bs) (λr hr=>by
  let#[e,he,rfl]:=tM.mp hr
  exact#[(hB.e e he).ma,(hB.e e he).mb]) (λr hr=>by
  let#[e,he,rfl]:=tM.mp hr
  exact b2 e he) ht
 refine#[aG h1.1 ∅,aG h2.1 ∅,?_,h1.2,h2.2];show (byL bs [((t.1:Int),(0:Int),tH),((t.2.1:Int),(t.2.2:Int),tG)]).length<=600;unfold byL;rw[dP,dP,List.flatMap_nil,aV,aq];have o1:=Qp hs ((t.1:Int),(0:Int),tH);have o2:=Qp hs ((t.2.1:Int),(t.2.2:Int),tG);lia
def EnsM.samT(h:EnsM K H a es)(s:SamT T H H')(hT:H T=tE (.tbl ps)):EnsM K H' a es:=by let#[xs,h1,h2]:=h;exact#[xs,s.at hT h1 (λZ z=>by cases z),EnsA.samT s hT h2]
def zeO(K:pB)(T:pC)(H:Hp)(k:Nat)(l:())(ns:List Int)(rs:List zG)(m n:Nat)(H':Hp)(Dk Df:pC):Prop:=∃kept fresh:List Ent,SamT T H H'/\TabOk H' T lp lq/\EnsM K H' Dk kept/\EnsL K H' Df fresh/\fresh.length<64/\(∀e ∈ fresh,EB l e)/\BG k l ns kept/\∀w es,Cpl k l ns n kept fresh w es->Cpl k l ns m [] (fEs rs rs.length) w es
def jB(K:pB)(CO CR CW T:pC):Sp:=λvs H Q Z=>∃(o a:pC) (k:Nat) (l:()) (ns:List Int) (rs:List zG) (m:Nat),vs=[.ref o,.ref a,.int (m:Nat)]/\OrdAt CO CR CW H o k l ns/\OG l ns k/\LsA K H a (rs.map dR)/\rs.length<=20/\InL l rs/\(∀r ∈ rs,r.1.length<=60/\r.2.length<=60)/\m<=1000/\TabOk H T lp lq/\∀(w:Bool) (es:List Ent) (p D:pC) (H':Hp),Cpl k l ns (m+1) [] (fEs rs rs.length) w es->BG k l ns es->SamT T H H'->TabOk H' T lp lq->H' p=tE (.tup [.bl w,.ref D])->EnsM K H' D es->Q (.ref p) H'
def gX:sQz 3 ["order","pacts","rounds","kept","fresh","turn","slim","lacking"] wA:=by nofun
def Yv{f CO CR CW TB:pC}(B:Bt mg)(TM:TMc mg)(F:("completed"^^^wA))(nM:(1<<<"first_entries") ["pacts"] [] (Wp K))(nF:(8<<<"thinned_within") ["order","entries"] [] (KI K CO CR CW TB))(nU:(9<<<"unmet_within") ["order","entries"] [] (zar K CO CR CW))(oO:(5<<<"entry_of") ["entries","overlap"] [] (Zb K)):(10&&&["order","pacts","rounds"]) (jB K CO CR CW TB):=by
 let#[t9,g9]:=TM.p
 exists F.ok gX
 ·let#[o,a,k,l,ns,rs,m,rfl,ho,hG,hA,hrl,hin,h60,hm,hTab,q]:=h
  refine#[_,(zg (qN (i:=3) gX.nd rfl (Or.inr rfl) (zX zd)) (zg (zE 4 gX.nd (cl0 nM hr .nil rfl (za (pv 1) zd))) (zg (xh o9 rfl (wc rfl B.range (za (zq xt (pv 2) ze) zd)) (zr (i:=5) gX.nd rfl (.inl rfl)) (zg (zE 6 gX.nd (cl0 nF hr .nil rfl (za (pv 0) (za (pv 4) zd)))) (zg (zS (zB op_isN' (pv 6) xj (zF _)) (zh (zp (zy (za yA (za (pv 3) zd)))))
     zv) (zg (qN (i:=3) gX.nd rfl (Or.inr rfl) (pv 6)) (zg (zE 7 gX.nd (cl0 nU hr .nil rfl (za (pv 0) (za (pv 3) zd)))) (zg (zS (zB op_isN' (pv 7) xj (zF _)) (zh (zp (zy (za yA (za (pv 3) zd)))))
     zv) (zg (zS (zB xL (zR B.len (pv 7)) ze (zF _)) (zh (zp (zy (za yA (za (pv 3) zd)))))
     zv) (zh (zE 4 gX.nd (zq zC (pv 3) (xf (own:=["overlap"]) (caps:=["kept"]) (ix:=[3]) (tt:=xy) (te:=(qT (Zb K) [] E0 (zI (z7 1) (zI (z7 0) xp)))) rfl (zM (sc:=zi wA) rfl (!0) (!0) (!0) rfl (!0) (!0) rfl) (ye (yE UG (pv 7) wz (yF (yT (v:=.int 8) rfl g9 #[t9,rfl])))) (λZ Z Z Z Z Z=>zr (i:=0) (show List.Nodup [_,_] by decide) rfl (.inl rfl)) (λZ Z Z Z Z Z=>zY) (λZ Z Z Z Z Z=>(cl0 oO hr .nil rfl (za (pv 1) (za (pv 0) zd))))))))))))))) (zh (zp (zy (za yA (za (pv 3) zd)))))))),?_]
  have s16:=yb;have hTt:=hTab;let#[tp,htp,_]:=hTt;change Same H H'/\∃Dk:pC,H' Dk=tE (.lst [])/\σ=%[!!o,!!a,-~~~m,!!Dk|4]
  ·ac_rfl;exact#[⋯,λp hp=>#[zc hp,zb]]
  rintro σ H1 ⟨s1,Dk0,hDk0,rfl⟩:_
  have hE0:∀e ∈ fEs rs rs.length,EB l e:=λe he=>by
   let#[i,p,hi,hp,rfl]:=Zd he;have h1:=h60 p (ag hp);have h2:=hin p (ag hp);exact#[h1.1,h1.2,by show ([((i:Int),(0:Int),tG)]:List Stp).length<=600;simp,h2.2.2.1,h2.2.2.2]
  right;change ∃Df:pC,zeO K TB H k l ns rs (m+1) (m+1) H' Dk0 Df/\σ=%[!!o,!!a,-~~~m,!!Dk0,!!Df|3]
  ·ac_rfl;exact#[a,rs,rfl,hA.same s1,hrl,λDf H' s' Z hM=>#[Df,#[[],fEs rs rs.length,ja0 (s1.trans s'),hTab.same (s1.trans s'),#[[],s' _ _ hDk0,rfl],hM.l,by have:=UN rs rs.length;lia,hE0,#[by simp,λe he=>(nomatch he),λe he=>(nomatch he)],λw es h=>h],rfl]]
  rintro σ H2 ⟨Df0,hC0,rfl⟩:0;change ∃(Dk Df:pC) (v5 v6 v7:Option V),zeO K TB H k l ns rs (m+1) 0 H' Dk Df/\σ=[!!o,!!a,-~~~m,!!Dk,!!Df,v5,v6,v7]
  ·ac_rfl;refine#[⋯,⋯,ForR.by (λi σ H'=>∃(Dk Df:pC) (v5 v6 v7:Option V),zeO K TB H k l ns rs (m+1) (m+1 - i) H' Dk Df/\σ=[!!o,!!a,-~~~m,!!Dk,!!Df,v5,v6,v7]) #[Dk0,Df0,tF,tF,tF,hC0,rfl] ?_ ?_]
   ·refine nm3 ?_;rintro i σ H' hi ⟨Dk,Df,v5,v6,v7,⟨kept,fresh,sT,hT,hK,hF,hfl,hfE,hB,hcp⟩,rfl⟩:_;have hi':i<m+1:=⋯;have en:m+1 - i=(m+1 - (i+1))+1:=⋯;rw[en]at hcp;have hTt:=hT;let#[tq,htq,_]:=hTt;have ho':=ho.samT sT htp;right
    erw[yW,bu,bt]
    refine zj (λσ' G=>SamT TB H' G/\TabOk G TB lp lq/\(((wH k l ns 20 fresh tF\/∃bs,wH k l ns 20 fresh (tE bs)/\jI bs=tG)/\σ'=[!!o,!!a,-~~~m,!!Dk,!!Df,tE (.int (0+(i:Int))),tE (.non),v7])\/∃(bs:List Ent) (D:pC),wH k l ns 20 fresh (tE bs)/\BG k l ns bs/\jI bs=tH/\EnsM K G D bs/\σ'=[!!o,!!a,-~~~m,!!Dk,!!Df,tE (.int (0+(i:Int))),!!D,v7])) ?_ ?_
    ·ac_rfl;exact#[o,Df,k,l,ns,fresh,rfl,ho',hG,hF,hfl,hfE,hT,λbs D G h1 h2 h3 h4 h5 h6=>#[h4,h5,.inr #[bs,h1,h2,h3,D,h6,rfl]],λh G h4 h5=>#[h4,h5,.inl #[h,rfl]]]
    rintro σ' G1 ⟨g1,hT1,hcase⟩:_;have hK1:=hK.samT g1 htq;right;refine zj (λσ' G=>Same G1 G/\∃(bs:List Ent) (D:pC),wH k l ns 20 fresh (tE bs)/\BG k l ns bs/\jI bs=tH/\EnsM K G D bs/\σ'=[!!o,!!a,-~~~m,!!Dk,!!Df,tE (.int (0+(i:Int))),!!D,v7]) ?_ ?_
    ·rcases hcase with ⟨hno,rfl⟩ | ⟨bs,D,h1,h2,h3,h4,rfl⟩
     ·ac_rfl;exact#[⋯,λp hp=>q tH kept p Dk _ (hcp _ _ (.slim hno)) hB (sT.trans (g1.trans (ja0 (zc hp)))) (hT1.same (zc hp)) zb (hK1.same (zc hp))]
     ·ac_rfl;exact#[ja3 _,bs,h1,h2,h3,h4]
    rintro σ' G2 ⟨s2,bs,D,hTh,hBb,hbey,hD,rfl⟩:_;clear hcase;right;refine zj (λσ' G=>G=G2/\σ'=[!!o,!!a,-~~~m,!!D,!!Df,tE (.int (0+(i:Int))),!!D,v7]) ?_ ?_
    ·ac_rfl
    rintro σ' G3 ⟨rfl,rfl⟩:_;have sT3:SamT TB H G3:=sT.trans (g1.trans (ja0 s2));have hT3:=hT1.same s2;have ho3:=ho.samT sT3 htp;let#[b12,b10]:=Xx hbey;have hpl:(zf bs).length=bs.length:=by unfold zf;rw[aa]
    have hol:=zdy (ps:=zf bs) ⋯ λr hr=>by
     let#[e,he,rfl]:=tM.mp hr;exact (b10 e he).1
    have hnear:∀e ∈ bs,e.2.2.length<=240:=λe he=>by
     have:=jc hTh bs rfl e he;unfold uY at this;lia
    right;refine zj (λσ' G=>Same G3 G/\(((∃t ∈ ovA (zf bs) (zf bs).length,¬ OkG (zf bs) 40 t)/\σ'=[!!o,!!a,-~~~m,!!D,!!Df,tE (.int (0+(i:Int))),!!D,tE (.non)])\/∃L:pC,(∀t ∈ ovA (zf bs) (zf bs).length,OkG (zf bs) 40 t)/\LsA K G L ((unG (zf bs) 40).map d3)/\σ'=[!!o,!!a,-~~~m,!!D,!!Df,tE (.int (0+(i:Int))),!!D,!!L])) ?_ ?_
    ·ac_rfl;exact#[o,D,k,l,ns,bs,rfl,ho3,hG,hD.l,hBb,⋯,hol,λh L G s' hL=>#[s',.inr #[h,L,hL,rfl]],λt ht h G s'=>#[s',.inl #[#[t,ht,h],rfl]]]
    rintro σ' G4 ⟨s4,hcase⟩:0;refine zj (λσ' G=>Same G3 G/\∃L:pC,(∀t ∈ ovA (zf bs) (zf bs).length,OkG (zf bs) 40 t)/\LsA K G L ((unG (zf bs) 40).map d3)/\σ'=[!!o,!!a,-~~~m,!!D,!!Df,tE (.int (0+(i:Int))),!!D,!!L]) ?_ ?_
    ·rcases hcase with ⟨⟨t,ht,hno⟩,rfl⟩ | ⟨L,h1,h2,rfl⟩
     ·ac_rfl;exact#[⋯,λp hp=>q tH bs p D _ (hcp _ _ (.far hTh hbey ht hno)) hBb (sT3.trans (ja0 (s4.trans (zc hp)))) (hT3.same (s4.trans (zc hp))) zb (hD.same (s4.trans (zc hp)))]
     ·ac_rfl;exact#[s4,h1,h2]
    rintro σ' G5 ⟨s5,L,hok,hL,rfl⟩:_;clear hcase;right;refine zj (λσ' G=>G=G5/\unG (zf bs) 40≠[]/\σ'=[!!o,!!a,-~~~m,!!D,!!Df,tE (.int (0+(i:Int))),!!D,!!L]) ?_ ?_
    ·ac_rfl;let#[xs,hX,hI]:=id hL;have hxl:=hI.len;rw[aa]at hxl;refine#[_,.inl #[_,x6 hX,rfl],yC (λh=>#[⋯,λp hp=>q tG bs p D _ (hcp _ _ (.whole hTh hbey hok (List.length_eq_zero_iff.mp ⋯))) hBb (sT3.trans (ja0 (s5.trans (zc hp)))) (hT3.same (s5.trans (zc hp))) zb (hD.same (s5.trans (zc hp)))]) λh z=>h ?_];rw[z]at hxl;show ((xs.length:Nat):Int)=0;rw[hxl];rfl
    rintro σ' G6 ⟨rfl,hne,rfl⟩:0;ac_rfl;let#[xs,hX,hI]:=id hL;have hxl:=hI.len;rw[aa]at hxl;have hct:zcr xs tF (tE 8)=xs.take 8:=Yg xs (k:=8) ∅;refine#[_,x6 hX,λp hp=>?_];rw[hct];have u1:=zc (o:=HO.lst (xs.take 8)) hp;have hS7:(upd G6 p (.lst (xs.take 8))) p=tE (.lst (xs.take 8)):=zb;have hX7:=ja1 u1 _ _ hI;have hD7:=hD.same (s5.trans u1);refine#[#[_,x6 hS7],λE1 hE1=>?_];generalize upd G6 p (.lst (xs.take 8))=G7 at *;refine ja2 (xs:=xs.take 8) (λj tK H'=>Same G7 H'/\H' E1=tE (.lst tK)/\tK.length<=j/\EnsA K (jM E1 H') (((unG (zf bs) 40).take j).map (jw bs)) tK) #[zc hE1,zb,am _,rfl] (λj tK H' Z h=>x6 (h.1 _ _ hS7)) ?_ ?_
    ·refine nm4 ?_;rintro j x tK H' hx ⟨hs,hH,hal,hEn⟩:_;have hjl:=(tL.mp hx).1;have hj8:j<8:=by rw[aF]at hjl;lia
     rw[dH hj8]at hx;let#[t,pt,ht,rfl,hpt]:=hX7.get3 hx;have htm:=(tT.mp (ag ht)).1;right
     erw[xy]
     rfl'
     refine#[yJ,D,pt,bs,t,rfl,(hD7.same hs).l,zl hs hpt,htm,hBb.ok ⋯,λe he=>(hBb.e e he).s,λp' s' H5 h1 h2 h3 h4=>?_];have hH5:=h1 _ _ hH;have hsE:s'≠E1:=λz=>by rw[z,hH]at h4;cases h4
     refine#[hH5,⋯,x9 hjl #[zH (hs.trans h1) hE1,zb,by rw[aq];erw[aJ,ci];lia,?_]];rw[zP ht,ar];exact (hEn.same ((xF h1).trans y0)).snoc ((EnA.new (e:=jw bs t) hH5 h2 h3 hsE).same y0)
    ·refine nmB ?_;rintro tK H' ⟨hs,hH,hal,hEn⟩:_
     have hEn':EnsA K H' (((unG (zf bs) 40).take 8).map (jw bs)) tK:=by
      have h1:=hEn.same wd;rw[aF,hxl]at h1
      have e:(unG (zf bs) 40).take (min 8 (unG (zf bs) 40).length)=(unG (zf bs) 40).take 8:=by
       rw[<- fV,aI]
      rw[e]at h1;exact h1
     have hal8:tK.length<=8:=by rw[aF]at hal;lia
     let#[xk,hxk,hek]:=hD7.same hs;have hkl:=hek.len;right;refine#[E1,rfl,xk,hxk,tK,hH,⋯,λp2 hp2=>#[D,p2,#[bs,_,sT3.trans (ja0 (s5.trans (u1.trans (hs.trans (zc hp2))))),hT3.same (s5.trans (u1.trans (hs.trans (zc hp2)))),#[xk,zc hp2 _ _ hxk,hek.same (zc hp2)],#[xk ++ tK,x6 zb,(hEn'.same (zc hp2)).app (hek.same (zc hp2))],?_,λe he=>?_,hBb,λw es h=>hcp w es (.more hTh hbey hok hne h)],rfl,rfl]]
     ·rw[aq,aa,aF];lia
     ·rcases tO.mp he with he | he
      ·exact hBb.e e he
      ·let#[t,ht,rfl]:=tM.mp he;exact Q0 hBb hbey hnear (tT.mp (bQ ht)).1
   ·refine nmB ?_;rintro σ H' ⟨Dk,Df,v5,v6,v7,hC,rfl⟩:_;rw[show ((m:Int)+1).toNat=m+1 by lia,Nat.sub_self]at hC;right;exact#[Dk,Df,hC,_,_,_,rfl]
  rintro σ H3 ⟨Dk,Df,v5,v6,v7,⟨kept,fresh,sT,hT,hK,hF,hfl,hfE,hB,hcp⟩,rfl⟩:0;ac_rfl;exact#[⋯,λp hp=>q tH kept p Dk _ (hcp _ _ (.out kept fresh)) hB (sT.trans (ja0 (zc hp))) (hT.same (zc hp)) zb (hK.same (zc hp))]
def ThinL.pairs(h:ThinL k l ns zs)(hp:zf bs=zf zs)(hE:∀e ∈ bs,EB l e):ThinL k l ns bs:=by
 have key:∀(i:Nat) (a:Ent),bs[i]? = tE a->∃z,zs[i]? = tE z/\z.1=a.1/\z.2.1=a.2.1:=λi a ha=>by
  have h1:(zf bs)[i]? = tE (a.1,a.2.1):=by unfold zf;rw[ay,ha];rfl
  rw[hp]at h1;unfold zf at h1;rw[ay]at h1;let#[z,hz,e]:=tS.mp h1;exact#[z,hz,(Prod.ext_iff.mp e).1,(Prod.ext_iff.mp e).2]
 refine#[#[hE,λe he=>?_],λi j a b ha hb hij=>?_,λi j a b ha hb hij=>?_,λi j a b ha hb=>?_]
 ·let#[i,hi]:=Ab.mp he;let#[z,hz,e1,e2]:=key i e hi;rw[<- e1,<- e2];exact h.rl.lt z (ag hz)
 all_goals
  let#[x,hx,e1,e2]:=key i a ha;let#[y,hy,f1,f2]:=key j b hb;rw[<- f1]
 ·rw[<- e1];exact h.up i j x y hx hy hij
 ·rw[<- e1];exact h.no1 i j x y hx hy hij
 ·rw[<- e2];exact h.no2 i j x y hx hy
structure KXs(K:pB):Prop where
 ss:aS K (.type "str") (.type "str")=tE tG
def Y5(K:pB):Sp:=λvs H Q Z=>∃(a:pC) (es:List Ent),vs=[.ref a]/\Is K H (.lst (es.map dE)) (.ref a)/\Q (.bl tG) H
def nN:sQz 1 ["_law_found","_law_entry"] jz:=by nofun
def Vr(B:Bt mg)(T:TLs K)(TX:KXs K)(F:("_law_entries"^^^jz))(oY:(2<<<"_law_steps") ["_law_found"] [] (WP K)):(3&&&["_law_found"]) (Y5 K):=by
 exists F.ok nN
 ·let#[a,es,rfl,hA,q]:=h
  refine#[_,(zg (zS (yl (yU (yN rfl B.isi (pv 0) rfl B.list jb0) (λZ=>rfl))) (zh (zp yA))
    zv) (zg (xh o9 rfl (ye (pv 0)) (zr (i:=1) nN.nd rfl (.inl rfl)) (zg (zS (PW.pt (w4 (yl (yU (yN rfl B.isi (pv 1) rfl B.tuple jb1) (λZ=>rfl))) (w4 (zB Yd (zR B.len (pv 1)) ze (zF _)) (wY (yl (yU (cl0 oY hr .nil rfl (za (!-1) zd)) (λZ=>rfl))))))) (zh (zp yA))
     zv) (zh (zS (PW.pt (w4 (yl (yU (yN rfl B.isi (!-1) rfl B.str PySem.Pv.boot_str) (λZ=>rfl))) (wY (yl (yU (yN rfl B.isi (!-1) rfl B.str PySem.Pv.boot_str) (λZ=>rfl)))))) (zh (zp yA))
     zv)))) (zh (zp yA)))),?_]
  have s16:=yb
  erw[Is]at hA
  let#[_,xs,e,hX,hI]:=hA;cases e;change H'=H/\σ=[!!a,tF]
  ·rfl'
   exact#[_,.inr (.inr (.inl #[_,_,rfl,rfl,hX])),tG,T.ll,ZO trivial]
  rintro σ H1 ⟨rfl,rfl⟩:0;change H'=H1/\∃v1,σ=[!!a,v1]
  ·rfl'
   refine#[#[_,hX],ForL.by (xs:=xs) (λi σ H'=>H'=H1/\∃v1,σ=[!!a,v1]) #[rfl,_,rfl] (λi σ H' Z h=>by rw[h.1];exact hX) ?_ λσ H' h=>h];refine nm4 ?_;rintro i x σ H' hx ⟨rfl,v1,rfl⟩:_;let#[e,pe,se,hei,rfl,hqe,hse]:=WN hI hx;right
   erw[yW,bu,bt]
   refine zj (λσ H''=>H''=H'/\σ=[!!a,!!pe]) ?_ ?_
   ·rfl'
    exact#[_,.inr (.inr (.inr #[_,_,rfl,rfl,hqe])),tG,T.tt,ZO #[_,.inr #[_,hqe,rfl],yC (λh=>y9 rfl h) λZ=>#[_,hqe,_,rfl,se,e.2.2,rfl,hse,tG,rfl,ZO rfl]]]
   rintro σ G ⟨rfl,rfl⟩:0
   rfl'
   exact#[_,hqe,_,rfl,_,.inl (.str _),tG,TX.ss,ZO #[_,hqe,_,rfl,_,.inl (.str _),tG,TX.ss,ZO trivial]]
  rintro σ H2 ⟨rfl,v1,rfl⟩:0
  rfl'
  exact q
def ZJ{w:()}{i:Nat}(hr:ps[i]? = tE r)(h:zt w q (sdl r f).1=tG):yf ps w ((i:Int),q,f)=tE (yM w q (sdl r f).1 (sdl r f).2):=by
 have hi:=(tL.mp hr).1
 have e:ps.getD ((i:Int),q,f).1.toNat ([],[])=r:=by
  show ps.getD ((i:Int)).toNat ([],[])=r;rw[aR,ae,hr];rfl
 rw[yL (show 0 ≤ ((i:Int),q,f).1/\((i:Int),q,f).1<ps.length by constructor <;> simp <;> lia),e,z6 h]
def JI(h:e ∈ fEs rs n):EOk rs e:=by
 let#[i,p,hi,hp,rfl]:=Zd h;show yc rs p.1 [((i:Int),(0:Int),tG)]=tE p.2
 have hs:zt p.1 0 (sdl p tG).1=tG:=by
  show zt p.1 0 p.1=tG;refine y4 #[⋯,⋯,?_];show (p.1.drop 0).take p.1.length=p.1;rw[cM,aI]
 erw[yc,ZJ hp hs,bW]
 show tE (yM p.1 0 p.1 p.2)=tE p.2;congr 1;unfold yM;show p.1.take 0 ++ p.2 ++ p.1.drop (0+p.1.length)=p.2;rw[bi,bz,aZ ⋯,aV]
def zbW(hb:∀e ∈ bs,EOk rs e)(ht:t ∈ ovA (zf bs) (zf bs).length):EOk rs (jw bs t):=by
 let#[i1,i2,i3,i4]:=qS ht;obtain⟨r,hr⟩:∃r,(zf bs)[t.1]? = tE r:=#[_,ah i1];obtain⟨r2,hr2⟩:∃r,(zf bs)[t.2.1]? = tE r:=#[_,ah i2];have l1:=ur hr;have l2:=ur hr2;have d1:(zf bs).getD t.1 ([],[])=r:=by rw[ae,hr];rfl
 have d2:(zf bs).getD t.2.1 ([],[])=r2:=by rw[ae,hr2];rfl
 rw[l1]at i3;rw[l1,l2]at i4;have eA:pkA (zf bs) t=yM (yx r.1 r2.1 t.2.2) 0 r.1 r.2:=by unfold pkA;rw[l1,l2,d1]
 have eB:pkB (zf bs) t=yM (yx r.1 r2.1 t.2.2) (t.2.2:Nat) r2.1 r2.2:=by unfold pkB;rw[l1,l2,d2]
 refine ZL hb ?_;show yc (zf bs) (pkA (zf bs) t) [((t.1:Int),(0:Int),tH),((t.2.1:Int),(t.2.2:Int),tG)]=tE (pkB (zf bs) t);let#[b1,b2]:=XO r.2 (j5 r.1 r2.1 t.2.2);rw[eA,eB];have h1:=ZJ (f:=tH) (q:=0) hr (w:=yM (yx r.1 r2.1 t.2.2) 0 r.1 r.2) b1;have h2:=ZJ (f:=tG) (q:=(t.2.2:Int)) hr2 (w:=yx r.1 r2.1 t.2.2) (jq ⋯ i4)
 have h1':yf (zf bs) (yM (yx r.1 r2.1 t.2.2) 0 r.1 r.2) ((t.1:Int),(0:Int),tH)=tE (yx r.1 r2.1 t.2.2):=by
  rw[h1];congr 1
 have h2':yf (zf bs) (yx r.1 r2.1 t.2.2) ((t.2.1:Int),(t.2.2:Int),tG)=tE (yM (yx r.1 r2.1 t.2.2) (t.2.2:Nat) r2.1 r2.2):=h2
 erw[yc,h1',h2',bW]
def VS(h:wH k l ns 20 es (tE bs))(hb:jI bs=tH)(hz:ThinL k l ns zs)(hp:zf bs=zf zs):BG k l ns bs:=by
 let#[b1,_]:=Xx hb
 have key:∀e ∈ bs,∃z ∈ zs,z.1=e.1/\z.2.1=e.2.1:=λe he=>by
  have:(e.1,e.2.1) ∈ zf zs:=by rw[<- hp];exact tM.mpr #[e,he,rfl]
  let#[z,hz,e2]:=tM.mp this;injection e2 with h1 h2;exact#[z,hz,h1,h2]
 refine#[⋯,λe he=>?_,λe he=>?_]
 ·let#[z,hzm,h1,h2]:=key e he;have hE:=hz.rl.e z hzm;have hn:=jc h bs rfl e he;unfold uY at hn;exact#[⋯,⋯,⋯,by rw[<- h1];exact hE.ma,by rw[<- h2];exact hE.mb]
 ·let#[z,hzm,h1,h2]:=key e he;rw[<- h1,<- h2];exact hz.rl.lt z hzm
def Gd(rs:List zG)(k:Nat)(l:())(ns:List Int)(es:List Ent):Prop:=(∀e ∈ es,EOk rs e)/\(es=[]\/(ThinL k l ns es/\jI es=tH/\BG k l ns es))
def Xc(G:OG l ns k)(h:wH k l ns 20 es (tE bs))(hb:jI bs=tH)(he:∀e ∈ es,EB l e)(ho:∀e ∈ es,EOk rs e):Gd rs k l ns bs:=by let#[h1,zs,hz,hp]:=qo (rs:=rs) G h bs rfl he ho;have hB:=VS h hb hz hp;exact#[h1,.inr #[hz.pairs hp hB.e,hb,hB]]
theorem zee(G:OG l ns k){kept fresh es:List Ent}{w:Bool}(h:Cpl k l ns n kept fresh w es):(∀e ∈ fresh,EB l e)->(∀e ∈ fresh,EOk rs e)->Gd rs k l ns kept->Gd rs k l ns es:=by
 induction h with
 | out kept fresh=>exact λZ Z h=>h
 | slim _=>exact λZ Z h=>h
 | far h hb _ _=>exact λhe ho Z=>Xc G h hb he ho
 | whole h hb _ _=>exact λhe ho Z=>Xc G h hb he ho
 | @more n kept fresh bs es w h hb ho' hu r ih =>
  intro he ho _;have hg:=Xc (rs:=rs) G h hb he ho
  have hB:BG k l ns bs:=by
   let#[h1,zs,hz,hp]:=qo (rs:=rs) G h bs rfl he ho;exact VS h hb hz hp
  have hnear:∀e ∈ bs,e.2.2.length ≤ 240:=λe hm=>by
   have:=jc h bs rfl e hm;unfold uY at this;lia
  refine ih (λe hm=>?_) (λe hm=>?_) hg
  ·rcases tO.mp hm with hm | hm
   ·exact hB.e e hm
   ·let#[t,ht,rfl]:=tM.mp hm;exact Q0 hB hb hnear (tT.mp (bQ ht)).1
  ·rcases tO.mp hm with hm | hm
   ·exact hg.1 e hm
   ·let#[t,ht,rfl]:=tM.mp hm;exact zbW hg.1 (tT.mp (bQ ht)).1
def Rw(ps:List zG)(u v:()):Prop:=∃p,p ∈ ps/\∃a b,u=a ++ p.1 ++ b/\v=a ++ p.2 ++ b
inductive Rws(ps:List zG):()->()->Prop where
 | nil {u:()}:Rws ps u u
 | cons {u v w:()} (h:Rw ps u v) (h2:Rws ps v w):Rws ps u w
def Rw.ctx(h:Rw ps u v)(c d:()):Rw ps (c ++ u ++ d) (c ++ v ++ d):=by let#[p,hp,a,b,rfl,rfl]:=h;exact#[p,hp,c ++ a,b ++ d,by erw[aU],by erw[aU]]
theorem Rws.ctx(h:Rws ps u v)(c d:()):Rws ps (c ++ u ++ d) (c ++ v ++ d):=by
 induction h with
 | nil=>exact .nil
 | cons s _ ih=>exact .cons (s.ctx c d) ih
end
section
variable{k:Nat}{l:()}{ws:List Int}{ps:List zG}
end in def mu(k:Nat)(l:())(ws:List Int)(Ws:List (()))(v:()):Nat:=Ws.countP λy=>zJ k l ws y v
end
section
variable{k:Nat}{l:()}{ws:List Int}{es fs:List Ent}
end
abbrev Inj(f:Nat->Nat):Prop:=∀a b,f a=f b->a=b
section
mutual section
variable{f:Nat->Nat}
def mp(f:Nat->Nat)(p:zG):zG:=(p.1.map f,p.2.map f)
theorem wk(hf:Inj f):∀{u v:()},u.map f=v.map f ↔ u=v
 | [],[]=>#[λZ=>rfl,λZ=>rfl]
 | [],b::v=>#[(nomatch ·),(nomatch ·)]
 | a::u,[]=>#[(nomatch ·),(nomatch ·)]
 | a::u,b::v=>by
  rw[ak,ak,List.cons.injEq,List.cons.injEq,wk hf];exact#[λh=>#[hf _ _ h.1,h.2],λh=>#[by rw[h.1],h.2]]
def zc5(hf:Inj f):mp f p=mp f q ↔ p=q:=by unfold mp;rw[Prod.mk.injEq,wk hf,wk hf];exact#[λh=>Prod.ext h.1 h.2,λh=>#[by rw[h],by rw[h]]]
theorem Q2(hf:Inj f):∀{u v:List zG},u.map (mp f)=v.map (mp f) ↔ u=v
 | [],[]=>#[λZ=>rfl,λZ=>rfl]
 | [],b::v=>#[(nomatch ·),(nomatch ·)]
 | a::u,[]=>#[(nomatch ·),(nomatch ·)]
 | a::u,b::v=>by
  rw[ak,ak,List.cons.injEq,List.cons.injEq,Q2 hf,zc5 hf]
def JU(ps:List zG)(n:Nat):(ps.map (mp f)).getD n ([],[])=mp f (ps.getD n ([],[])):=by rw[ae,ae,ay];cases ps[n]? <;> rfl
def zgK(hf:Inj f)(w p:())(q:Int):zt (w.map f) q (p.map f)=zt w q p:=by unfold zt;rw[aa,aa,<- eP,<- eO];exact decide_eq_decide.mpr #[λh=>#[h.1,h.2.1,(wk hf).mp h.2.2],λh=>#[h.1,h.2.1,(wk hf).mpr h.2.2]]
def YL(hf:Inj f)(w:())(ps:List zG):zA (w.map f) (ps.map (mp f))=zA w ps:=by
 have e:∀q,stJ (w.map f) (ps.map (mp f)) q=stJ w ps q:=λq=>funext λj=>by
  unfold stJ;rw[ay]
  cases ps[j]? with
  | none=>rfl
  | some p=>exact zgK hf _ _ _
 unfold zA xl wN
 erw[e,aa]
def Jy(w o n:())(k:Int):yM (w.map f) k (o.map f) (n.map f)=(yM w k o n).map f:=by unfold yM;rw[ar,ar,eO,eP,aa]
theorem zeI(hf:Inj f)(ps:List zG)(w:()):∀j,wAt (ps.map (mp f)) (w.map f) j=(wAt ps w j).map f
 | 0=>rfl
 | j+1=>by
  show Yj _ (wAt _ _ j)=(Yj _ _).map f;rw[zeI hf ps w j];unfold Yj;rw[YL hf]
  cases zA (wAt ps w j) ps with
  | none=>rfl
  | some u =>
   show uO _ _ u=(uO _ _ u).map f;unfold uO jZ;rw[JU];exact Jy _ _ _ _
def zgh(ps:List zG)(i:Nat):lf (ps.map (mp f)) i=(lf ps i).map f:=by unfold lf;rw[JU];rfl
def zgN(hf:Inj f)(ps:List zG)(m:Nat):ovA (ps.map (mp f)) m=ovA ps m:=by unfold ovA ovI Ya xR;simp only[zgh,aa,<- eP,<- eO,wk hf]
def zgs(ps:List zG)(t:N3):pkA (ps.map (mp f)) t=(pkA ps t).map f/\pkB (ps.map (mp f)) t=(pkB ps t).map f:=by unfold pkA pkB yx;simp only[zgh,JU,aa,<- eP,<- ar];exact#[Jy _ _ _ _,Jy _ _ _ _]
theorem zfi(hf:Inj f)(l:())(c:Nat):(l.map f).idxOf (f c)=l.idxOf c:=by
 induction l with
 | nil=>rfl
 | cons a l ih =>
  rw[ak,fF,fF,ih];by_cases e:a=c
  ·subst e;simp
  ·rw[beq_eq_false_iff_ne.mpr λh=>e (hf _ _ h),beq_eq_false_iff_ne.mpr e]
end
end
end in abbrev EL:=zG × Nat
end in def elE(e:Ent):EL:=((e.1,e.2.1),e.2.2.length)
end in def elL(es:List Ent):List EL:=es.map elE
end in def mE(f:Nat->Nat)(e:EL):EL:=(mp f e.1,e.2)
end in def rdX(ps:List zG):Nat->()->Option (() × ())
 | 0,w=>match zA w ps with
  | none=>tE ([],w)
  | some _=>tF
 | m+1,w=>match zA w ps with
  | none=>tE ([],w)
  | some u=>(rdX ps m (uO w ps u)).map λx=>(u.1::x.1,x.2)
end in def lnX(bs:List EL)(ks:()):Nat:=(ks.map λk=>(bs.getD k (([],[]),0)).2).sum
section
variable(dm:()->Bool)(lt:()->()->Bool)
end in def jN(e:EL):EL:=if lt e.1.2 e.1.1=tG then e else ((e.1.2,e.1.1),e.2)
end in def Yl(es:List EL):List EL:=(es.filter λe=>!decide (e.1.1=e.1.2)).map (jN lt)
end in def Vw(a b:EL):Bool:=if a.1.1=b.1.1 then lt a.1.2 b.1.2 else lt a.1.1 b.1.1
end in def zgj(p:EL):List EL->List EL
 | []=>[p]
 | q::r=>if Vw lt q p=tG then q::zgj p r else p::q::r
end in def zan(ps:List EL):List EL:=ps.foldr (zgj lt) []
end in def zbv(ps zs:List EL):Bool:=zs.isPerm ps && decide (zs.Pairwise λa b=>Vw lt b a=tH) && (zs.all λa=>zs.all λb=>Vw lt a b || Vw lt b a || decide (a=b)) && zs.all λe=>dm e.1.1 && dm e.1.2
end in def UM:List EL->List EL->Option (Option (List EL))
 | bs,[]=>tE (tE bs)
 | bs,e::es=>match rdX (bs.map Prod.fst) 40 e.1.1,rdX (bs.map Prod.fst) 40 e.1.2 with
  | some x,tE y=>if x.2=y.2 then UM bs es else
    if 240<lnX bs x.1+e.2+lnX bs y.1\/60<x.2.length\/60<y.2.length then tE tF else
    if dm x.2 && dm y.2 then UM (bs ++ [jN lt ((x.2,y.2),lnX bs x.1+e.2+lnX bs y.1)]) es else tF
  | _,_=>tE tF
end in def Ug:Nat->List EL->Option (Option (List EL))
 | 0,_=>tE tF
 | n+1,es=>if zbv dm lt (Yl lt es) (zan lt (Yl lt es))=tG then
   match UM dm lt [] (zan lt (Yl lt es))with
   | none=>tF
   | some tF=>tE tF
   | some (tE bs)=>if bs.map Prod.fst=(zan lt (Yl lt es)).map Prod.fst then tE (tE bs)else Ug n bs
  else tF
end in def zbm(ps:List zG):Bool:=decide (12<ps.length) || ps.any λe=>decide (10<max e.1.length e.2.length)
end in def unX(ps:List zG):Option (List N3) :=
 if (ovA ps ps.length).all (λt=>(rdX ps 40 (pkA ps t)).isSome && (rdX ps 40 (pkB ps t)).isSome)=tG then
  tE ((ovA ps ps.length).filter λt=>!decide ((rdX ps 40 (pkA ps t)).map Prod.snd=(rdX ps 40 (pkB ps t)).map Prod.snd))else tF
end in def Uh:Nat->List EL->List EL->Option (Bool × List EL)
 | 0,kept,_=>tE (tH,kept)
 | n+1,kept,fresh=>match Ug dm lt 20 fresh with
  | none=>tF
  | some tF=>tE (tH,kept)
  | some (tE bs)=>if zbm (bs.map Prod.fst)=tG then tE (tH,kept)else
   match unX (bs.map Prod.fst)with
   | none=>tE (tH,bs)
   | some ts=>if ts=[]then tE (tG,bs)else Uh n bs (bs ++ (ts.take 8).map λt=>((pkA (bs.map Prod.fst) t,pkB (bs.map Prod.fst) t),lnX bs [t.1,t.2.1]))
end
theorem wj{w:()}(h:zA w ps=tE u):∀i,wAt ps w (i+1)=wAt ps (uO w ps u) i
 | 0=>wx (j:=0) h
 | i+1=>by
  show Yj ps (wAt ps w (i+1))=Yj ps _;rw[wj h i]
def US{w:()}(h:zA w ps=tE u)(i:Nat):sAt ps w (i+1)=u::sAt ps (uO w ps u) i:=by
 unfold sAt;rw[cX,ak,aP];congr 1
 ·show (zA w ps).getD (0,0)=u;rw[h];rfl
 ·refine aW λj Z=>?_;show (zA (wAt ps w (j+1)) ps).getD (0,0)=_;rw[wj h]
theorem Wy : ∀{m i:Nat} {w:()},Wc ps w i->zA (wAt ps w i) ps=tF->i ≤ m->rdX ps m w=tE ((sAt ps w i).map Prod.fst,wAt ps w i)
 | m,0,w,_,h,_=>by
  have h':zA w ps=tF:=h;cases m <;> (unfold rdX;rw[h'];rfl)
 | 0,i+1,w,_,_,h=>y9 h ⋯
 | m+1,i+1,w,hL,h,hi=>by
  cases e:zA w ps with
  | none=>exact y9 e (hL 0 ⋯)
  | some u =>
   unfold rdX;rw[e];simp only;rw[Wy (m:=m) (i:=i) (w:=uO w ps u) (λj hj=>by rw[<- wj e];exact hL (j+1) ⋯) (by rw[<- wj e];exact h) ⋯,US e,wj e];rfl
theorem KD : ∀{m:Nat} {w:()},(∀i ≤ m,zA (wAt ps w i) ps≠tF)->rdX ps m w=tF
 | 0,w,h=>by
  unfold rdX
  cases e:zA w ps with
  | none=>exact y9 e (h 0 (am _))
  | some u=>rfl
 | m+1,w,h=>by
  unfold rdX
  cases e:zA w ps with
  | none=>exact y9 e (h 0 (aw _))
  | some u =>
   simp only;rw[KD (m:=m) λi hi=>by rw[<- wj e];exact h (i+1) ⋯];rfl
theorem km(ps:List zG)(m:Nat)(w:()):rdX ps m w=(goJ ps m w).map λi=>((sAt ps w i).map Prod.fst,wAt ps w i):=by
 cases e:goJ ps m w with
 | none=>exact KD λi hi=>kO e i hi
 | some i =>
  let#[h1,h2,h3]:=ql e;exact Wy h2 h3 h1
theorem zbY{w:()}(h:zU ps w i):goJ ps 40 w=tE i:=by
 cases e:goJ ps 40 w with
 | none=>exact y9 h.end_ (kO e i h.most)
 | some j =>
  let#[_,h2,h3]:=ql e;rw[kW h2 h3 h.live h.end_]
theorem zd1{w:()}(h:∀i,¬ zU ps w i):goJ ps 40 w=tF:=by
 cases e:goJ ps 40 w with
 | none=>rfl
 | some i =>
  let#[h1,h2,h3]:=ql e;exact y9 #[h2,h3,h1] (h i)
theorem ZX(es:List Ent):∀us:List Stp,(byL es us).length=(us.map λu=>(es.getD u.1.toNat ([],[],[])).2.2.length).sum
 | []=>rfl
 | u::us=>by
  have ih:=ZX es us;unfold byL at ih ⊢;rw[dP,aq,ak,aX,ih];congr 1;unfold XX;rw[YH];split
  ·rfl
  ·exact yg _
theorem zdi(es:List Ent)(f:Nat->Nat)(B:List EL)(hB:elL es=B.map (mE f))(n:Nat):(es.getD n ([],[],[])).2.2.length=(B.getD n (([],[]),0)).2:=by
 have h:=congrArg (λz=>z[n]?) hB
 erw[elL,ay]at h
 rw[ae,ae]
 cases e1:es[n]? with
 | none =>
  rw[e1]at h
  cases e2:B[n]? with
  | none=>rfl
  | some y=>rw[e2]at h;cases h
 | some x =>
  rw[e1]at h
  cases e2:B[n]? with
  | none=>rw[e2]at h;cases h
  | some y =>
   rw[e2]at h;have:=Option.some.inj h;exact congrArg Prod.snd this
def Kg(hB:elL es=B.map (mE f))(us:List (Nat × Nat)):(byL es (stS us)).length=lnX B (us.map Prod.fst)/\(byL es (yh (stS us))).length=lnX B (us.map Prod.fst):=by
 have key:(byL es (stS us)).length=lnX B (us.map Prod.fst):=by
  rw[ZX];unfold stS lnX;rw[aP,aP];congr 1;exact aW λu Z=>zdi es f B hB u.1
 refine#[key,?_];rw[<- key,ZX,ZX];unfold yh;rw[aP];exact ((List.reverse_perm (stS us)).map _).sum_nat
abbrev LtX(dm:()->Bool)(lt:()->()->Bool)(f:Nat->Nat)(k:Nat)(l:())(ns:List Int):Prop:=∀u v,dm u=tG->dm v=tG->zJ k l ns (u.map f) (v.map f)=lt u v
section
variable{f:Nat->Nat}{dm:()->Bool}{lt:()->()->Bool}{k:Nat}{l:()}{ns:List Int}
def zeU(ps:List zG)(w:())(u:Nat × Nat):uO (w.map f) (ps.map (mp f)) u=(uO w ps u).map f:=by unfold uO jZ;rw[JU];exact Jy _ _ _ _
theorem zem(hf:Inj f)(ps:List zG):∀(m:Nat) (w:()),rdX (ps.map (mp f)) m (w.map f)=(rdX ps m w).map λx=>(x.1,x.2.map f)
 | 0,w=>by
  unfold rdX;rw[YL hf];cases zA w ps <;> rfl
 | m+1,w=>by
  unfold rdX;rw[YL hf]
  cases zA w ps with
  | none=>rfl
  | some u =>
   simp only;rw[zeU,zem hf ps m];cases rdX ps m (uO w ps u) <;> rfl
def wv{B:List EL}(h:elL es=B.map (mE f)):zf es=(B.map Prod.fst).map (mp f):=by have:=congrArg (List.map Prod.fst) h;unfold elL at this;rw[aP,aP]at this;rw[aP];exact this
def UB(hlt:LtX dm lt f k l ns)(h:elE e=mE f x)(h1:dm x.1.1=tG)(h2:dm x.1.2=tG):elE (zQ k l ns e)=mE f (jN lt x):=by
 have e1:e.1=x.1.1.map f:=congrArg (λz:EL=>z.1.1) h;have e2:e.2.1=x.1.2.map f:=congrArg (λz:EL=>z.1.2) h;have e3:e.2.2.length=x.2:=congrArg (λz:EL=>z.2) h;unfold zQ jN;rw[e1,e2,hlt _ _ h2 h1];split
 ·exact h
 ·show ((_,_),(yh e.2.2).length)=_;rw[yg,e3];rfl
theorem Q6(hf:Inj f)(hlt:LtX dm lt f k l ns):∀{es:List Ent} {F:List EL},elL es=F.map (mE f)->(∀z ∈ Yl lt F,dm z.1.1=tG/\dm z.1.2=tG)->(vS k l ns es).map elE=(Yl lt F).map (mE f)
 | [],[],_,_=>rfl
 | [],_::_,h,_=>nomatch h
 | _::_,[],h,_=>nomatch h
 | e::es,x::F,h,hd=>by
  have h0:elE e=mE f x:=(List.cons.inj h).1;have e1:e.1=x.1.1.map f:=congrArg (λz:EL=>z.1.1) h0;have e2:e.2.1=x.1.2.map f:=congrArg (λz:EL=>z.1.2) h0
  have hq:decide (e.1=e.2.1)=decide (x.1.1=x.1.2):=by
   rw[e1,e2];exact decide_eq_decide.mpr (wk hf)
  have ih:=Q6 hf hlt (es:=es) (F:=F) (List.cons.inj h).2;unfold vS Yl at ih ⊢;unfold Yl at hd
  cases hx:decide (x.1.1=x.1.2)with
  | true =>
   rw[cA (by simp [hq,hx]),cA (by simp [hx])];rw[cA (by simp [hx])]at hd;exact ih hd
  | false =>
   rw[bD (by simp [hq,hx]),bD (by simp [hx]),ak,ak,ak,ak,ih λz hz=>hd z (by rw[bD (by simp [hx])];exact av _ hz)];congr 1;have:=hd (jN lt x) (by rw[bD (by simp [hx])];exact az);unfold jN at this;split at this
   ·exact UB hlt h0 this.1 this.2
   ·exact UB hlt h0 this.2 this.1
abbrev FrX(dm:()->Bool)(lt:()->()->Bool)(f:Nat->Nat)(k:Nat)(l:())(ns:List Int)(es:List Ent)(F:List EL):Prop:=zbv dm lt (Yl lt F) (zan lt (Yl lt F))=tG->((vS k l ns es).map elE).Perm ((Yl lt F).map (mE f))
def YX(hf:Inj f)(hlt:LtX dm lt f k l ns)(hr:((vS k l ns es).map elE).Perm (F.map (mE f)))(h:Lined k l ns es zs)(hk:zbv dm lt F ys=tG):elL zs=ys.map (mE f):=by
 unfold zbv at hk;rw[aM,aM,aM]at hk;let#[#[#[h1,h2],h3],h4]:=hk
 have hdm:∀e ∈ ys,dm e.1.1=tG/\dm e.1.2=tG:=λe he=>by
  have:=tQ.mp h4 e he
  rwa [aM]at this
 have hless:∀a ∈ ys,∀b ∈ ys,(if (mE f a).1.1=(mE f b).1.1 then zJ k l ns (mE f a).1.2 (mE f b).1.2 else zJ k l ns (mE f a).1.1 (mE f b).1.1)=Vw lt a b:=λa ha b hb=>by
  unfold Vw;show (if a.1.1.map f=b.1.1.map f then zJ k l ns (a.1.2.map f) (b.1.2.map f)else zJ k l ns (a.1.1.map f) (b.1.1.map f))=_
  erw[wk hf,hlt _ _ (hdm a ha).1 (hdm b hb).1,hlt _ _ (hdm a ha).2 (hdm b hb).2]
 have hp:(elL zs).Perm (ys.map (mE f)):=(h.perm.map elE).trans (hr.trans ((Ak.mp h1).symm.map _));refine List.Perm.eq_of_pairwise (le:=λa b:EL=>(if b.1.1=a.1.1 then zJ k l ns b.1.2 a.1.2 else zJ k l ns b.1.1 a.1.1)=tH) (λa b ha hb g1 g2=>?_) (tY.mpr h.srt) ?_ hp
 ·let#[a',ha',rfl]:=tM.mp (hp.mem_iff.mp ha);let#[b',hb',rfl]:=tM.mp hb;rw[hless b' hb' a' ha']at g1;rw[hless a' ha' b' hb']at g2;have:=tQ.mp (tQ.mp h3 a' ha') b' hb';rw[g1,g2]at this;rw[show a'=b' by simpa using this]
 ·refine tY.mpr (List.Pairwise.imp_of_mem (λ{a b} ha hb g=>?_) (y3 h2));rw[hless b hb a ha];exact g
def zb1(hk:zbv dm lt F (zan lt F)=tG):∀z ∈ F,dm z.1.1=tG/\dm z.1.2=tG:=λz hz=>by
 unfold zbv at hk;rw[aM,aM,aM]at hk;let#[#[#[h1,_],_],h4]:=hk;have:=tQ.mp h4 z ((Ak.mp h1).mem_iff.mpr hz)
 rwa [aM]at this
set_option tactic.hygienic true in
theorem Uc(hf:Inj f)(hlt:LtX dm lt f k l ns)(h:xq k l ns bs es r):∀{B E:List EL} {x:Option (List EL)},elL bs=B.map (mE f)->elL es=E.map (mE f)->UM dm lt B E=tE x->r.map elL=x.map λz=>z.map (mE f):=by
 have road:∀{bs:List Ent} {B:List EL} (hB:elL bs=B.map (mE f)) {w u:()} {i:Nat} (hw:w=u.map f),zU (zf bs) w i->∃x,rdX (B.map Prod.fst) 40 u=tE x/\wAt (zf bs) w i=x.2.map f/\(sAt (zf bs) w i).map Prod.fst=x.1:=λ{bs B} hB {w u i} hw hE=>by
  have e:=km (zf bs) 40 w;rw[zbY hE,wv hB,hw,zem hf]at e
  cases hx:rdX (B.map Prod.fst) 40 u with
  | none=>rw[hx]at e;cases e
  | some x =>
   rw[hx]at e;have e:=Option.some.inj e;refine#[x,rfl,?_,?_]
   ·rw[wv hB,hw];exact (congrArg Prod.snd e).symm
   ·rw[wv hB,hw];exact (congrArg Prod.fst e).symm
 have noroad:∀{bs:List Ent} {B:List EL} (hB:elL bs=B.map (mE f)) {w u:()} (hw:w=u.map f),(∀i,¬ zU (zf bs) w i)->rdX (B.map Prod.fst) 40 u=tF:=λ{bs B} hB {w u} hw hE=>by
  have e:=km (zf bs) 40 w;rw[zd1 hE,wv hB,hw,zem hf]at e
  cases hx:rdX (B.map Prod.fst) 40 u with
  | none=>rfl
  | some x=>rw[hx]at e;cases e
 induction h with
 | nil bs =>
  intro B E x hB hE hx
  cases E with
  | cons _ _=>cases hE
  | nil=>cases hx;show tE _=tE _;rw[hB]
 | @same bs es e i j r h1 h2 h3 h4 ih =>
  intro B E x hB hE hx
  cases E with
  | nil=>cases hE
  | cons y E =>
   have h0:=(List.cons.inj hE).1;have y1:e.1=y.1.1.map f:=congrArg (λz:EL=>z.1.1) h0;have y2:e.2.1=y.1.2.map f:=congrArg (λz:EL=>z.1.2) h0;let#[a,ha,a1,a2]:=road hB y1 h1;let#[b,hb,b1,b2]:=road hB y2 h2;unfold UM at hx;rw[ha,hb]at hx
   erw[z6 ((wk hf).mp (a1.symm.trans (h3.trans b1)))]at hx
   exact ih hB (List.cons.inj hE).2 hx
 | @new bs es e i j r h1 h2 h3 h4 h5 ih =>
  intro B E x hB hE hx
  cases E with
  | nil=>cases hE
  | cons y E =>
   have h0:elE e=mE f y:=(List.cons.inj hE).1;have y1:e.1=y.1.1.map f:=congrArg (λz:EL=>z.1.1) h0;have y2:e.2.1=y.1.2.map f:=congrArg (λz:EL=>z.1.2) h0;let#[a,ha,a1,a2]:=road hB y1 h1;let#[b,hb,b1,b2]:=road hB y2 h2;have e3:e.2.2.length=y.2:=congrArg (λz:EL=>z.2) h0
   have hl:(yo bs e i j).2.2.length=lnX B a.1+y.2+lnX B b.1:=by
    unfold yo
    erw[aq]
    rw[(Kg hB _).2,(Kg hB _).1,a2,b2,e3]
   have hd:elE (yo bs e i j)=mE f ((a.2,b.2),lnX B a.1+y.2+lnX B b.1):=by
    unfold elE mE;rw[hl];show ((wAt _ _ i,wAt _ _ j),_)=_;rw[a1,b1];rfl
   unfold UM at hx;rw[ha,hb]at hx;simp only at hx;rw[z9 (λz=>h3 (by rw[a1,b1,z]))]at hx;rw[z9 (λz=>h4 (by unfold uY;rw[hl];show _\/60<(wAt _ _ i).length\/60<(wAt _ _ j).length;rw[a1,b1,aa,aa];exact z))]at hx;split at hx
   ·rename_i hdd;rw[aM]at hdd;refine ih (B:=B ++ [jN lt ((a.2,b.2),lnX B a.1+y.2+lnX B b.1)]) ?_ (List.cons.inj hE).2 hx;unfold elL at hB ⊢;rw[ar,ar,hB,ak,aA,ak,aA,UB hlt hd hdd.1 hdd.2]
   ·cases hx
 | @far bs es e i j h1 h2 h3 h4 =>
  intro B E x hB hE hx
  cases E with
  | nil=>cases hE
  | cons y E =>
   have h0:elE e=mE f y:=(List.cons.inj hE).1;have y1:e.1=y.1.1.map f:=congrArg (λz:EL=>z.1.1) h0;have y2:e.2.1=y.1.2.map f:=congrArg (λz:EL=>z.1.2) h0;let#[a,ha,a1,a2]:=road hB y1 h1;let#[b,hb,b1,b2]:=road hB y2 h2;have e3:e.2.2.length=y.2:=congrArg (λz:EL=>z.2) h0
   have hl:(yo bs e i j).2.2.length=lnX B a.1+y.2+lnX B b.1:=by
    unfold yo
    erw[aq]
    rw[(Kg hB _).2,(Kg hB _).1,a2,b2,e3]
   unfold uY at h4;rw[hl,show (yo bs e i j).1=wAt _ _ i from rfl,show (yo bs e i j).2.1=wAt _ _ j from rfl,a1,b1,aa,aa]at h4;unfold UM at hx;rw[ha,hb]at hx;simp only at hx;rw[z9 (λz=>h3 (by rw[a1,b1,z])),z6 h4]at hx;cases hx;rfl
 | @stuck bs es e h =>
  intro B E x hB hE hx
  cases E with
  | nil=>cases hE
  | cons y E =>
   have h0:elE e=mE f y:=(List.cons.inj hE).1;unfold UM at hx;rcases h with h | h
   ·rw[noroad hB (congrArg (λz:EL=>z.1.1) h0) h]at hx;cases hx;rfl
   ·rw[noroad hB (congrArg (λz:EL=>z.1.2) h0) h]at hx;cases hz:rdX (B.map Prod.fst) 40 y.1.1 <;> (rw[hz]at hx;cases hx;rfl)
set_option tactic.hygienic true in
theorem kN(hf:Inj f)(hlt:LtX dm lt f k l ns)(h:wH k l ns n es r):∀{F:List EL} {x:Option (List EL)},FrX dm lt f k l ns es F->Ug dm lt n F=tE x->r.map elL=x.map λz=>z.map (mE f):=by
 have fstE:∀{zs:List Ent} {Z:List EL},elL zs=Z.map (mE f)->∀{bs:List Ent} {B:List EL},elL bs=B.map (mE f)->(zf bs=zf zs ↔ B.map Prod.fst=Z.map Prod.fst):=λ{zs Z} hz {bs B} hb=>by
  rw[wv hz,wv hb];exact Q2 hf
 induction h with
 | out es=>intro F x _ hx;cases hx;rfl
 | bad h1 h2 =>
  intro F x hr hx;unfold Ug at hx;split at hx
  ·rename_i hk;have hz:=YX hf hlt (hr hk) h1 hk;split at hx
   ·cases hx
   ·cases hx;rfl
   ·rename_i bs hb;have:=Uc hf hlt h2 (B:=[]) rfl hz hb;cases this
  ·cases hx
 | done h1 h2 h3 =>
  intro F x hr hx;unfold Ug at hx;split at hx
  ·rename_i hk;have hz:=YX hf hlt (hr hk) h1 hk;split at hx
   ·cases hx
   ·rename_i hb;have:=Uc hf hlt h2 (B:=[]) rfl hz hb;cases this
   ·rename_i bs hb;have e:=Option.some.inj (Uc hf hlt h2 (B:=[]) rfl hz hb);rw[z6 ((fstE hz e).mp h3)]at hx;cases hx;exact congrArg tE e
  ·cases hx
 | more h1 h2 h3 h4 ih =>
  intro F x hr hx;unfold Ug at hx;split at hx
  ·rename_i hk;have hz:=YX hf hlt (hr hk) h1 hk;split at hx
   ·cases hx
   ·rename_i hb;have:=Uc hf hlt h2 (B:=[]) rfl hz hb;cases this
   ·rename_i bs hb;have e:=Option.some.inj (Uc hf hlt h2 (B:=[]) rfl hz hb);rw[z9 λz=>h3 ((fstE hz e).mpr z)]at hx;refine ih (λhk=>?_) hx;rw[Q6 hf hlt e (zb1 hk)]
  ·cases hx
def zcs(hf:Inj f){B:List EL}(hB:elL es=B.map (mE f)):unX (B.map Prod.fst)=unX (zf es)/\(∀t,pkA (zf es) t=(pkA (B.map Prod.fst) t).map f/\pkB (zf es) t=(pkB (B.map Prod.fst) t).map f)/\zbm (B.map Prod.fst)=jI es:=by
 have e:=wv hB;have hp:∀t,pkA (zf es) t=(pkA (B.map Prod.fst) t).map f/\pkB (zf es) t=(pkB (B.map Prod.fst) t).map f:=λt=>by rw[e];exact zgs _ t
 refine#[?_,hp,?_]
 ·have ho:ovA (zf es) (zf es).length=ovA (B.map Prod.fst) (B.map Prod.fst).length:=by rw[e,aa,zgN hf]
  have h1:∀t,(rdX (zf es) 40 (pkA (zf es) t))=(rdX (B.map Prod.fst) 40 (pkA (B.map Prod.fst) t)).map (λx=>(x.1,x.2.map f)):=λt=>by rw[(hp t).1,e,zem hf]
  have h2:∀t,(rdX (zf es) 40 (pkB (zf es) t))=(rdX (B.map Prod.fst) 40 (pkB (B.map Prod.fst) t)).map (λx=>(x.1,x.2.map f)):=λt=>by rw[(hp t).2,e,zem hf]
  unfold unX;rw[ho]
  erw[h1,h2,eU,Option.map_map]
  congr 2;refine List.filter_congr λt Z=>?_;congr 1;refine decide_eq_decide.mpr ?_;cases rdX (B.map Prod.fst) 40 (pkA (B.map Prod.fst) t) <;> cases rdX (B.map Prod.fst) 40 (pkB (B.map Prod.fst) t) <;> simp [wk hf]
 ·have:=congrArg (λz=>zbm (z.map Prod.fst)) hB
  have e2:zbm ((elL es).map Prod.fst)=jI es:=by
   unfold zbm jI elL;rw[aP,ee,aa];rfl
  rw[<- e2,this];unfold zbm;rw[aP,ee,ee,aa,aa];congr 2;funext x;show decide (10<max (x.1.1.length) (x.1.2.length))=decide (10<max (x.1.1.map f).length (x.1.2.map f).length);rw[aa,aa]
set_option tactic.hygienic true in
def un_is :(unX ps=tF->∃t ∈ ovA ps ps.length,¬ OkG ps 40 t)/\∀ts,unX ps=tE ts->(∀t ∈ ovA ps ps.length,OkG ps 40 t)/\unG ps 40=ts:=by
 have ok:∀t,((rdX ps 40 (pkA ps t)).isSome && (rdX ps 40 (pkB ps t)).isSome)=tG ↔ OkG ps 40 t:=λt=>by
  rw[aM,km,km,eU,eU];rfl
 refine#[λh=>?_,λts h=>?_]
 ·unfold unX at h;split at h
  ·cases h
  ·rename_i hn;rw[List.all_eq_true]at hn;let#[t,ht]:=Classical.not_forall.mp hn;let#[h1,h2]:=Classical.not_imp.mp ht;exact#[t,h1,λz=>h2 ((ok t).mpr z)]
 ·unfold unX at h;split at h
  ·rename_i ha;have ha':∀t ∈ ovA ps ps.length,OkG ps 40 t:=λt ht=>(ok t).mp (tQ.mp ha t ht);refine#[ha',?_];rw[<- Option.some.inj h];unfold unG;refine List.filter_congr λt ht=>?_;let#[g1,g2]:=ha' t ht;let#[i,hi]:=tW.mp g1;let#[j,hj]:=tW.mp g2;rw[km,km,hi,hj,<- UZ hi hj];simp
  ·cases h
set_option tactic.hygienic true in
theorem zek(hf:Inj f)(hlt:LtX dm lt f k l ns){kept fresh es:List Ent}{w:Bool}(h:Cpl k l ns n kept fresh w es):∀{D F:List EL} {x:Bool × List EL},elL kept=D.map (mE f)->FrX dm lt f k l ns fresh F->Uh dm lt n D F=tE x->w=x.1/\elL es=x.2.map (mE f):=by
 induction h with
 | out kept fresh=>intro D F x hD _ hx;cases hx;exact#[rfl,hD]
 | @slim n kept fresh h =>
  intro D F x hD hr hx;unfold Uh at hx;split at hx
  ·cases hx
  ·cases hx;exact#[rfl,hD]
  ·rename_i bs ht;rcases h with h | ⟨zs,h,hb⟩
   ·have:=kN hf hlt h hr ht;cases this
   ·have e:=Option.some.inj (kN hf hlt h hr ht);rw[(zcs hf e).2.2,hb,z6 rfl]at hx;cases hx;exact#[rfl,hD]
 | @far n kept fresh bs t h hb ht ho =>
  intro D F x hD hr hx;unfold Uh at hx;split at hx
  ·cases hx
  ·rename_i ht;have:=kN hf hlt h hr ht;cases this
  ·rename_i B hth;have e:elL bs=B.map (mE f):=Option.some.inj (kN hf hlt h hr hth);rw[(zcs hf e).2.2,hb,z9 (λz=>nomatch z),(zcs hf e).1]at hx;split at hx
   ·cases hx;exact#[rfl,e]
   ·rename_i ts hts;exact y9 ((un_is.2 ts hts).1 t ht) ho
 | @whole n kept fresh bs h hb ho hu =>
  intro D F x hD hr hx;unfold Uh at hx;split at hx
  ·cases hx
  ·rename_i ht;have:=kN hf hlt h hr ht;cases this
  ·rename_i B hth;have e:elL bs=B.map (mE f):=Option.some.inj (kN hf hlt h hr hth);rw[(zcs hf e).2.2,hb,z9 (λz=>nomatch z),(zcs hf e).1]at hx;split at hx
   ·rename_i hn;let#[t,h1,h2]:=un_is.1 hn;exact y9 (ho t h1) h2
   ·rename_i ts hts;rw[z6 (by rw[<- (un_is.2 ts hts).2,hu])]at hx;cases hx;exact#[rfl,e]
 | @more n kept fresh bs es w h hb ho hu r ih =>
  intro D F x hD hr hx;unfold Uh at hx;split at hx
  ·cases hx
  ·rename_i ht;have:=kN hf hlt h hr ht;cases this
  ·rename_i B hth;have e:elL bs=B.map (mE f):=Option.some.inj (kN hf hlt h hr hth);have hU:=zcs hf e;rw[hU.2.2,hb,z9 (λz=>nomatch z),hU.1]at hx;split at hx
   ·rename_i hn;let#[t,h1,h2]:=un_is.1 hn;exact y9 (ho t h1) h2
   ·rename_i ts hts;have ets:=(un_is.2 ts hts).2;rw[z9 (by rw[<- ets];exact hu)]at hx;refine ih e (λhk=>?_) hx;rw[Q6 hf hlt (F:=B ++ (ts.take 8).map λt=>((pkA (B.map Prod.fst) t,pkB (B.map Prod.fst) t),lnX B [t.1,t.2.1])) ?_ (zb1 hk)];rw[ets];unfold elL at e ⊢;rw[ar,ar,e,aP,aP];congr 1;refine aW λt Z=>?_;show ((pkA (zf bs) t,pkB (zf bs) t),_)=((_,_),_);rw[(hU.2.1 t).1,(hU.2.1 t).2,show (jw bs t).2.2=byL bs [((t.1:Int),(0:Int),tH),((t.2.1:Int),(t.2.2:Int),tG)]from rfl,ZX]
    erw[ak,aA,aX,eg,aR,zdi bs f B e]
    rfl
end
mutual section
def zao{rs:List zG}{i:Nat}{r:zG}(h:rs[i]? = tE r):EOk rs (r.1,r.2,[(((i:Nat):Int),(0:Int),tG)]):=by
 have hl:=(tL.mp h).1;show (yf rs r.1 (((i:Nat):Int),(0:Int),tG)).bind (λw'=>tE w')=tE r.2;have e2:rs.getD ((i:Int)).toNat ([],[])=r:=by rw[aR,ae,h];rfl
 rw[yL (by show (0:Int) ≤ (i:Int)/\(i:Int)<rs.length;lia)];show (if zt r.1 0 (sdl (rs.getD ((i:Int)).toNat ([],[])) tG).1=tG then _ else tF).bind _=_;rw[e2];have hs:zt r.1 0 (sdl r tG).1=tG:=y4 #[⋯,by show (0:Int)+r.1.length ≤ r.1.length;lia,by show (r.1.drop 0).take r.1.length=r.1;simp];rw[z6 hs];show tE (yM r.1 0 r.1 r.2)=tE r.2;unfold yM;simp
def zcE{rs:List zG}{i:Nat}{r:zG}(h:rs[i]? = tE r):EOk rs (r.2,r.1,[(((i:Nat):Int),(0:Int),tH)]):=wg (zao h)
def WH{H:Hp}{i:Nat}{t S:pC}{b:Bool}(ht:H t=tE (.tup [.int (i:Nat),.int 0,.bl b]))(hS:H S=tE (.lst [.ref t])):LsA K H S ([(((i:Nat):Int),(0:Int),b)].map dSt):=by refine#[_,hS,?_];rw[ak,aA];exact qK (vE (x8 ht))
def KB(rs:List zG)(i:Nat)(b:Bool):Ent:=if b=tG then ((rs.getD i ([],[])).2,(rs.getD i ([],[])).1,[((i:Int),(0:Int),tH)])else ((rs.getD i ([],[])).1,(rs.getD i ([],[])).2,[((i:Int),(0:Int),tG)])
def uk(rs:List zG)(bs:List Bool):List Ent:=bs.mapIdx λi b=>KB rs i b
def VJ(rs:List zG)(bs:List Bool)(b:Bool):uk rs (bs ++ [b])=uk rs bs ++ [KB rs bs.length b]:=by unfold uk;rw[List.mapIdx_append];simp
theorem WD{H:Hp}:∀{es:List Ent} {vs:List V},EnsA K H es vs->EnsA K H es.reverse vs.reverse
 | [],vs,h=>by erw[EnsA]at h;subst h;erw[List.reverse_nil,EnsA]
 | e::es,vs,h=>by
  erw[EnsA]at h
  let#[v,r,rfl,hv,hr]:=h;rw[dN,dN];exact EnsA.snoc hv (WD hr)
def SInv(K:pB)(H:Hp)(D:pC)(rs:List zG)(n:Nat)(H':Hp):Prop:=∃(bs:List Bool) (tK:List V),Same H H'/\H' D=tE (.lst tK)/\EnsA K (jM D H') (uk rs bs) tK/\bs.length=n
def SInv.add{H H1 H2:Hp}{D p S:pC}{rs:List zG}{n:Nat}{b:Bool}{e:Ent}(he:e=KB rs n b)(hD:H D=tF)(h:SInv K H D rs n H1)(s:Same H1 H2)(hp:H2 p=tE (.tup [⇑e.1,⇑e.2.1,.ref S]))(hS:LsA K H2 S (e.2.2.map dSt))(hSn:H1 S=tF):∃tK,H2 D=tE (.lst tK)/\tK.length=n/\SInv K H D rs (n+1) (upd H2 D (.lst (tK ++ [.ref p]))):=by let#[bs,tK,s1,hH,hI,hl]:=h;have hal:=hI.len;have hH2:=s _ _ hH;refine#[tK,hH2,by rw[hal];unfold uk;rw[gq];exact hl,bs ++ [b],tK ++ [.ref p],zH (s1.trans s) hD,zb,?_,by rw[aq,hl];rfl];rw[VJ,hl,<- he];exact (hI.same ((xF s).trans y0)).snoc ((EnA.new hH2 hp hS (λz=>by rw[z,hH]at hSn;cases hSn)).same y0)
def vv(K:pB):Sp:=λvs H Q Z=>∃(pa:pC) (c:Int) (rs:List zG),vs=[.ref pa,.int c]/\ub c/\LsA K H pa (rs.map dR)/\rs.length ≤ 12/\∀(D:pC) (bs:List Bool) (rv:Bool) (H':Hp),Same H H'->H D=tF->bs.length=rs.length->EnsM K H' D (if rv then (uk rs bs).reverse else uk rs bs)->Q (.ref D) H'
def lS:sQz 2 ["_law_pairs","_law_cell_here","_law_entries_here","_law_number","_law_pair"] ZA:=by nofun
def JE{f:pC}{fd:pT}(B:Bt mg)(F:("_law_sides"^^^ZA))(gK:(1<<<"_law_mixed") ["_law_cell_here","_law_turn"] [] xx):(2&&&["_law_pairs","_law_cell_here"]) (vv K):=by
 exists F.ok lS
 ·let#[pa,c,rs,rfl,hc,hP,hrl,q]:=h
  refine#[_,(zg (qN (i:=2) lS.nd rfl (Or.inr rfl) (zX zd)) (zg (xh o9 rfl (vq rfl B.enum (za (pv 0) zd)) (wF (n:=2) rfl (zK (zr (i:=3) lS.nd rfl (.inl rfl)) (zK (zr (i:=4) lS.nd rfl (.inl rfl)) yV))) (zh (zS (zB xL (zq yq (cl0 gK hr .nil rfl (za (pv 1) (za (zq zC ze (pv 3)) zd))) ze) ze (zF _)) (zh (ww (ut bE bM bN xg (pv 2) (za (zy (za (!-4) (za (!-4) (za (zX (za (zy (za (pv 3) (za ze (za yA zd)))) zd)) zd)))) zd)))) (zh (ww (ut bE bM bN xg (pv 2) (za (zy (za (!-4) (za (!-4) (za (zX (za (zy (za (pv 3) (za ze (za yA zd)))) zd)) zd)))) zd))))))) (zg (zS (zB xL (zq yq (cl0 gK hr .nil rfl (za (pv 1) (za ze zd))) ze) ze (zF _)) (zh (qN (i:=2) lS.nd rfl (Or.inr rfl) (xf (own:=["_law_k"]) (caps:=["_law_entries_here"]) (ix:=[2]) (tt:=xy) (te:=(tOp (rIx K) (z7 1) (tOp (rI0 λi j=>.int (i - j)) (tOp (rI0 λi j=>.int (i - j)) (tCB (Vz K) (zI (z7 1) xp)) (tC (.int 1))) (z7 0)))) rfl (zM (sc:=zi ZA) rfl (!0) (!0) (!0) rfl (!0) (!0) rfl) (wc rfl B.range (za (zR B.len (pv 2)) zd)) (λZ Z Z Z Z Z=>zr (i:=0) (show List.Nodup [_,_] by decide) rfl (.inl rfl)) (λZ Z Z Z Z Z=>zY) (λZ Z Z Z Z Z=>(zk zam (pv 1) (zq vD (zq vD (zR B.len (pv 1)) ze) (pv 0)))))))
    zv) (zh (zp (pv 2)))))),?_]
  have s16:=yb;let#[xs,hX,hI]:=id hP;have hxl:=hI.len;rw[aa]at hxl;change Same H H'/\∃D:pC,H D=tF/\H' D=tE (.lst [])/\σ=%[!!pa,~~~!c,!!D|2]
  ·ac_rfl;exact#[⋯,λp hp=>#[zc hp,p,hp,zb,rfl]]
  rintro σ H0 ⟨s0,D,hD,hD0,rfl⟩:0;change SInv K H D rs rs.length H'/\∃(v3 v4:Option V),σ=[!!pa,~~~!c,!!D,v3,v4]
  ·ac_rfl;refine#[#[_,x6 (s0 _ _ hX)],ForEL.by (xs:=xs) (λi σ H'=>SInv K H D rs i H'/\∃(v3 v4:Option V),σ=[!!pa,~~~!c,!!D,v3,v4]) #[#[[],[],s0,hD0,by erw[uk,List.mapIdx_nil,EnsA],rfl],tF,tF,rfl] (λi σ H' _ ⟨⟨_,_,h,_⟩,_⟩=>x6 (h _ _ hX)) ?_ ?_]
   ·refine nmE ?_;rintro i x σ H1 p hx ⟨hL,v4,v5,rfl⟩ hp:_;let#[r,pr,hri,rfl,hqr]:=hI.getR hx;have hir:=(tL.mp hri).1;have s1:Same H H1:=by let#[_,_,h,_]:=hL;exact h
    have sp:=zc (o:=.tup [.int (i:Nat),.ref pr]) hp;have hq:=zl (s1.trans sp) hqr;have hrg:rs.getD i ([],[])=r:=by rw[ae,hri];rfl
    right;ac_rfl;refine#[_,x8 zb,rfl,_,_,rfl,_,_,rfl,rfl,_,rfl,?_]
    have hL1:SInv K H D rs i (upd H1 p (.tup [.int (i:Nat),.ref pr])):=by
     let#[es,tK,a1,a2,a3,a4]:=hL;exact#[es,tK,a1.trans sp,sp _ _ a2,a3.same (xF sp),a4]
    generalize upd H1 p (.tup [.int (i:Nat),.ref pr])=H2 at *;have hSl:∃zs,SqL K H2 D zs:=by let#[es,tK,a1,a2,a3]:=hL1;exact#[tK,x6 a2]
    refine zW hc ⋯ ⋯ λz hz=>#[z,rfl,∅,yC (λZ=>#[.inl hSl,_,rfl,_,hq,_,rfl,_,rfl,_,hq,_,rfl,⋯,λt ht=>#[⋯,λS hS'=>#[⋯,λp3 hp3=>?_]]]) λZ=>#[.inl hSl,_,rfl,_,hq,_,rfl,_,rfl,_,hq,_,rfl,⋯,λt ht=>#[⋯,λS hS'=>#[⋯,λp3 hp3=>?_]]]]
    ·have u1:=zc (o:=.tup [.int (i:Nat),.int 0,.bl tH]) ht;have u2:=zc (o:=.lst [.ref t]) hS';have u3:=zc (o:=.tup [⇑r.2,⇑r.1,.ref S]) hp3;let#[tK,b1,b2,b3]:=SInv.add (b:=tG) (e:=(r.2,r.1,[(((i:Nat):Int),(0:Int),tH)])) (by unfold KB;rw[hrg];rfl) hD hL1 (u1.trans (u2.trans u3)) zb (WH (u3 _ _ (u2 _ _ zb)) (u3 _ _ zb)) (u1.free hS');exact#[tK,b1,⋯,b3]
    ·have u1:=zc (o:=.tup [.int (i:Nat),.int 0,.bl tG]) ht;have u2:=zc (o:=.lst [.ref t]) hS';have u3:=zc (o:=.tup [⇑r.1,⇑r.2,.ref S]) hp3;let#[tK,b1,b2,b3]:=SInv.add (b:=tH) (e:=(r.1,r.2,[(((i:Nat):Int),(0:Int),tG)])) (by unfold KB;rw[hrg];rfl) hD hL1 (u1.trans (u2.trans u3)) zb (WH (u3 _ _ (u2 _ _ zb)) (u3 _ _ zb)) (u1.free hS');exact#[tK,b1,⋯,b3]
   ·refine nmB ?_;rintro σ H' ⟨h,v4,v5,rfl⟩:_;rw[hxl]at h;right;exact#[h,_,_,rfl]
  rintro σ H2 ⟨hL,v3,v4,rfl⟩:_;let#[bs,tK,s2,hH2,hA2,hbl]:=hL;have hA3:EnsA K H2 (uk rs bs) tK:=hA2.same wd;have hal:=hA3.len;have hsl:(uk rs bs).length=rs.length:=by unfold uk;rw[gq,hbl]
  right;change Same H H'/\∃(D':pC) (rv:Bool),(H D'=tF/\EnsM K H' D' (if rv then (uk rs bs).reverse else uk rs bs))/\σ=[!!pa,~~~!c,!!D',v3,v4]
  ·ac_rfl;refine zW hc ∅ ∅ λz hz=>#[z,rfl,∅,yC (λZ=>?_) λZ=>#[s2,D,hD,#[tH,tK,hH2,hA3],rfl]];refine#[_,.inl #[_,x6 hH2,rfl],⋯,⋯,λE hE=>CompR.by (λi acc' H'=>Same H2 H'/\H' E=tE (.lst acc')/\acc'=tK.reverse.take i) #[zc hE,zb,rfl] ?_ ?_]
   ·refine nm3 ?_;rintro i acc' H' hi ⟨hs,hH,rfl⟩:_;rw[aR]at hi;have hlt:i<tK.reverse.length:=by rw[eF];exact hi
    have hat:tK.reverse[i]? = tE tK.reverse[i]:=ah hlt
    have hat2:atI tK ((tK.length:Int) - 1 - (0+(i:Int)))=tE tK.reverse[i]:=by
     rw[show (tK.length:Int) - 1 - (0+(i:Int))=((tK.length - 1 - i:Nat):Int) by lia];refine w8 ?_;rw[<- hat,bx ⋯]
    right;generalize tK.reverse[i]=vz at hat hat2
    erw[xy]
    ac_rfl;exact#[yJ,_,.inl #[_,x6 (hs _ _ hH2),rfl],.inl #[_,x6 (hs _ _ hH2),vz,hat2,hH,by rw[aF];exact bn (fB _ _) ⋯,x9 ⋯ #[zH hs hE,zb,(zP hat).symm]]]
   ·refine nmB ?_;rintro acc' H' ⟨hs,hH,rfl⟩:_;rw[aR,<- eF,aI]at hH;right;exact#[s2.trans hs,E,s2.free hE,#[tG,_,hH,(WD hA3).same hs],rfl]
  rintro σ H4 ⟨s4,D',rv,⟨hD',hM⟩,rfl⟩:0;ac_rfl;exact q D' bs rv H4 s4 hD' hbl hM
def U8(rs:List zG):vw (rs.map dR)<=1:=Zp λd h=>by let#[r,_,rfl]:=tM.mp h;erw[dR,dS,dpD,vw];lia
def StE(ps:List zG)(e:Ent):Prop:=e.1.length<=60/\e.2.2.length<=600/\yc ps e.1 e.2.2=tE e.2.1
def jk(K:pB):Sp:=λvs H Q Z=>∃(D du pa:pC) (es:List Ent) (ps:List zG),vs=[.ref D,.ref du,.ref pa]/\EnsM K H D es/\LsA K H du ((zf es).map dR)/\LsA K H pa (ps.map dR)/\jV ps/\es.length<=64/\(∀e ∈ es,StE ps e)/\∀H',Same H H'->Q (.bl tG) H'
def Xs:sQz 3 ["_law_found","_law_pairs","_law_pacts"] wf:=by nofun
def Xa{f:pC}{fd:pT}(B:Bt mg)(F:("_law_due_list"^^^wf))(mX:(3<<<"_law_entries") ["_law_found"] [] (Y5 K))(pf:(2<<<"_law_end") ["_law_pacts","_law_word","_law_steps_here"] [] (Wq K)):(4&&&["_law_found","_law_pairs","_law_pacts"]) (jk K):=by
 exists F.ok Xs
 ·let#[D,du,pa,es,ps,rfl,hM,hdu,hP,hok,hel,hst,q]:=h
  refine#[_,(zg (zS (PW.pt (w4 (yl (yU (cl0 mX hr .nil rfl (za (pv 0) zd)) (λZ=>rfl))) (wY (zB (zcX (uJ hr)) (xf (own:=["_law_entry"]) (caps:=[]) (ix:=[]) (tt:=xy) (te:=(Zo (zI (tOp (xO K) (z7 0) (tC (.int 0))) (zI (tOp (xO K) (z7 0) (tC (.int 1))) xp)))) rfl (zM (sc:=zi wf) rfl (!0) (!0) (!0) rfl (!0) (!0) rfl) (ye (pv 0)) (λZ Z Z Z Z Z=>zr (i:=0) (show List.Nodup [_] by decide) rfl (.inl rfl)) (λZ Z Z Z Z Z=>zY) (λZ Z Z Z Z Z=>(zy (za (!-0) (za (!-0) zd))))) (pv 1) (zF _))))) (zh (zp yA))
    zv) (zh (zp (xa (zfO rfl) rfl B.all PyProof.Rows.boot_all (za (xf (own:=["_law_entry"]) (caps:=["_law_pacts"]) (ix:=[2]) (tt:=xy) (te:=(tOp rEq (qT (Wq K) [] E0 (zI (z7 1) (zI (tOp (xO K) (z7 0) (tC (.int 0))) (zI (tOp (xO K) (z7 0) (tC (.int 2))) xp)))) (tOp (xO K) (z7 0) (tC (.int 1))))) rfl (zM (sc:=zi wf) rfl (!0) (!0) (!0) rfl (!0) (!0) rfl) (ye (pv 0)) (λZ Z Z Z Z Z=>zr (i:=0) (show List.Nodup [_,_] by decide) rfl (.inl rfl)) (λZ Z Z Z Z Z=>zY) (λZ Z Z Z Z Z=>(yB xL (cl0 pf hr .nil rfl (za (pv 1) (za (!-0) (za (!-0) zd)))) (!-0) (zF _)))) zd))))),?_]
  have s16:=yb;let#[xs,hX,hEn]:=id hM;have hxl:=hEn.len;change Same H H'/\σ=[!!D,!!du,!!pa]
  ·ac_rfl;refine#[D,es,rfl,hM.l.is,tG,rfl,ZO #[#[_,x6 hX],λJ hJ=>ja2 (xs:=xs) (λi tK H'=>Same H H'/\H' J=tE (.lst tK)/\Iss K H' (((zf es).take i).map dR) tK) #[zc hJ,zb,by erw[bi,aA,Iss]] (λi tK H' Z h=>x6 (h.1 _ _ hX)) ?_ ?_]]
   ·refine nm4 ?_;rintro i x0 tK H' hx ⟨hs,hH,hIs⟩:_;have hi:=(tL.mp hx).1;let#[e,pe,se,hei,rfl,hqe,hse]:=hEn.get hx;have hm:(zf es)[i]? = tE (e.1,e.2.1):=by unfold zf;rw[ay,hei];rfl
    have hal:=hIs.len;rw[aa,aF]at hal;have hq2:=zl hs hqe;right
    erw[xy]
    rfl'
    refine#[yJ,_,hq2,_,rfl,_,hq2,_,rfl,⋯,λp hp=>#[zc hp _ _ hH,⋯,x9 hi #[zH (hs.trans (zc hp)) hJ,zb,?_]]];rw[zP hm,ar];have u2:=zc (o:=HO.tup [⇑e.1,⇑e.2.1]) hp;let#[ys,hY,hV]:=LsA.snoc (u2 _ _ hH) (ja1 u2 _ _ hIs) (qA _) (Zj (e.1,e.2.1)) (UF (x8 zb));rw[zb]at hY;cases hY;exact hV
   ·refine nmB ?_;rintro tK H' ⟨hs,hH,hIs⟩:_;have hpl:=yD es;rw[hxl,<- hpl,aI]at hIs;right;exact zbQ (.inl #[LsA.is #[tK,hH,hIs],(hdu.same hs).is]) (bn (U8 _) ∅) #[_,rfl,yC (λe=>by rw[xI]at e;cases e) λZ=>hs]
  rintro σ H8 ⟨s8,rfl⟩:_;let#[xs2,hX2,hI2]:=hM.same s8;have hxl2:=hI2.len;have hP8:=hP.same s8;right
  rfl'
  refine#[#[_,x6 hX2],λJ hJ=>ja2 (xs:=xs2) (λi tK H'=>Same H8 H'/\H' J=tE (.lst tK)/\tK=(af i tG).map V.bl) #[zc hJ,zb,rfl] (λi tK H' Z h=>x6 (h.1 _ _ hX2)) ?_ ?_]
  ·refine nm4 ?_;rintro i x0 tK H' hx ⟨hs,hH,rfl⟩:_;have hi:=(tL.mp hx).1;let#[e,pe,se,hei,rfl,hqe,hse]:=hI2.get hx;let#[e1,e2,e3]:=hst e (ag hei);have hq2:=zl hs hqe;right
   erw[xy]
   rfl'
   refine#[yJ,_,hq2,_,rfl,_,hq2,_,rfl,zbV (hP8.same hs).is hok ⋯ (hse.same hs).is ⋯ e3 #[_,hq2,_,rfl,rfl,hH,by rw[aa,bf];lia,x9 hi #[zH hs hJ,zb,?_]]];rw[List.replicate_succ',ar];simp
  ·refine nmB ?_;rintro tK H' ⟨hs,hH,rfl⟩:0;refine#[J,af xs2.length tG,rfl,x6 hH,?_];have e:(af xs2.length tG).all id=tG:=by simp
   rw[e];exact q _ (s8.trans hs)
structure TTr(K:pB):Prop where
 kt:aS K (.type "tuple") (.type "tuple")=tE tG
 kb:aS K (.type "bool") (.type "bool")=tE tG
def vZ(K:pB):Sp:=λvs H Q Z=>∃(f D du pa:pC) (w:Bool) (es:List Ent) (ps:List zG),vs=[.ref f,.bl w,.ref du,.ref pa]/\H f=tE (.tup [.bl w,.ref D])/\EnsM K H D es/\LsA K H du ((zf es).map dR)/\LsA K H pa (ps.map dR)/\jV ps/\es.length<=64/\(∀e ∈ es,StE ps e)/\∀H',Same H H'->Q (.bl tG) H'
def kZ:sQz 4 ["_law_found","_law_whole_here","_law_pairs","_law_pacts"] vk:=by nofun
def ZC{f:pC}{fd:pT}(B:Bt mg)(TR:TTr K)(F:("_law_told_right"^^^vk))(ik:(4<<<"_law_due_list") ["_law_found","_law_pairs","_law_pacts"] [] (jk K)):(5&&&["_law_found","_law_whole_here","_law_pairs","_law_pacts"]) (vZ K):=by
 refine F.ok kZ (λvs H Q E h=>?_) (λcdv A outer s H vs Q E hr h=>?_)
 ·let#[f',D,du,pa,w',es,ps,rfl,_]:=h;rfl
 ·let#[f',D,du,pa,w',es,ps,rfl,hf,hM,hdu,hP,hok,hel,hst,q]:=h
  refine#[_,(zg (zS (PW.pt (w4 (yl (yU (yN rfl B.isi (pv 0) rfl B.tuple jb1) (λZ=>rfl))) (w4 (zB Yd (zR B.len (pv 0)) ze (zF _)) (wY (yl (yU (yN rfl B.isi (!-0) rfl B.bool jb3) (λZ=>rfl))))))) (zh (zp yA))
    zv) (zh (zp (va (yB xL (!-0) (pv 1) (zF _)) (w9 (cl0 ik hr .nil rfl (za (!-0) (za (pv 2) (za (pv 3) zd))))))))),?_]
  have s16:=yb;change H'=H/\σ=[!!f',tE (.bl w'),!!du,!!pa]
  ·rfl'
   exact#[_,.inl (.tup hf),tG,TR.kt,ZO #[_,.inr #[_,x8 hf,rfl],yC (λz=>y9 rfl z) λZ=>#[_,x8 hf,_,rfl,_,.inl (.bl _),tG,TR.kb,ZO trivial]]]
  rintro σ H1 ⟨rfl,rfl⟩:0
  rfl'
  exact#[_,x8 hf,_,rfl,rfl,yC (λZ=>#[_,x8 hf,_,rfl,D,du,pa,es,ps,rfl,hM,hdu,hP,hok,hel,hst,q]) λz=>y9 rfl z]
structure zga(K:pB)(mg:pG->Option pD)(CF CE CM:pC):Prop where
 gE:mg "LetterError" = tE (.ref CE)
 gM:mg "TooMany" = tE (.ref CM)
 xE:XI K CE
 sE:cy K (.ref CF) (.ref CE)=tE tG
 kF:aS K (.ref CF) (.ref CF)=tE tG
 kM:aS K (.ref CF) (.ref CM)=tE tH
def qt(K:pB)(CO CR CW TB:pC):Sp:=λvs H Q Z=>∃(o a:pC) (k:Nat) (l:()) (ns:List Int) (es:List Ent),vs=[.ref o,.ref a]/\OrdAt CO CR CW H o k l ns/\OG l ns k/\EnsL K H a es/\es.length<64/\(∀e ∈ es,EB l e)/\TabOk H TB lp lq /\
 (wH k l ns 20 es tF->∀(p:pC) (H':Hp),SamT TB H H'->H' p=tE (.tup [.non,.bl tG])->Q (.ref p) H') /\
 ∀(bs:List Ent) (D p:pC) (H':Hp),wH k l ns 20 es (tE bs)->BG k l ns bs->SamT TB H H'->EnsM K H' D bs->H' p=tE (.tup [.ref D,.bl tH])->Q (.ref p) H'
def iJ:sQz 2 ["_law_order","_law_entries_here","_law_found","_law_refused","_law_e"] vM:=by nofun
def Z1{f CO CR CW TB CF CE CM:pC}{fd:pT}(B:Bt mg)(TA:zga K mg CF CE CM)(TF:zaU K mg CF)(F:("_law_thinned"^^^vM))(mV:(7>>>"thinned") ["order","entries"] [] (Xe K CO CR CW TB CF)):(8&&&["_law_order","_law_entries_here"]) (qt K CO CR CW TB):=by
 exists F.ok iJ
 ·let#[o,a,k,l,ns,es,rfl,ho,hG,hA,hel,hE,hTab,q1,q2]:=h
  refine#[_,(zg (zE 2 iJ.nd xj) (zg (zE 3 iJ.nd yA) (zg (zcR (i:=2) iJ.nd rfl (.inl rfl) (.inl rfl) #[rfl,rfl] (clX mV hr .nil rfl (za (pv 0) (za (pv 1) zd))) (zco (ts:=(za6 (UD (tCB (zb9 K) (zI (z7 4) (zI (tC (.ref CF)) xp))) (Xi (tCB (zb9 K) (zI (z7 4) (zI (tC (.ref CM)) xp))))) (yW 3))) 4 (λe=>(zh (zE 3 iJ.nd (va (K6 rfl B.isi (pv 4) rfl TF.g) (w9 (jF (K6 rfl B.isi (pv 4) rfl TA.gM))))))) rfl TA.gE rfl rfl TA.xE.ok .nil)) (zh (zp (zy (za (pv 2) (za (pv 3) zd)))))))),?_]
  have s16:=yb;let#[tp,htp,_]:=id hTab;change H'=H/\σ=%[!!o,!!a,tE (.non)|2]
  ·rfl'
  rintro σ H1 ⟨rfl,rfl⟩:0;change H'=H1/\σ=[!!o,!!a,tE (.non),tE (.bl tH),tF]
  ·rfl'
  rintro σ H2 ⟨rfl,rfl⟩:0;change SamT TB H2 H'/\TabOk H' TB lp lq/\((wH k l ns 20 es tF/\∃v4,σ=[!!o,!!a,tE (.non),tE (.bl tG),v4])\/∃D:pC,(∃bs,wH k l ns 20 es (tE bs)/\BG k l ns bs/\EnsM K H' D bs)/\∃v4,σ=[!!o,!!a,!!D,tE (.bl tH),v4])
  ·erw[zey]
   ac_rfl;have ty:∀{H':Hp} {x:pC},TyX K (upd H' x (XT x CF tF)) (.ref x) (.ref CF):=λ{H' x}=>.inr (.inl #[x,CF,tF,[],rfl,rfl,#[zb,.inl #[rfl,rfl]],TF.xi]);exact#[o,a,k,l,ns,es,rfl,ho,hG,hA,hel,hE,hTab,λbs D H' h1 h2 h3 h4 h5=>#[h3,h4,D,#[bs,h1,h2,h5],rfl],λh1 H' h3 h4=>#[CF,rfl,λx hx=>#[tG,TA.sE,zen #[_,ty,tG,TA.kF,zen #[_,ty,tH,TA.kM,h3.trans (ja0 (zc hx)),h4.same (zc hx),h1,rfl]]]]]
  rintro σ H3 ⟨s3,hT3,hc⟩:0;rcases hc with ⟨hT,v4,rfl⟩ | ⟨D,⟨bs,hT,hB,hM⟩,v4,rfl⟩
  ·rfl'
   exact#[⋯,λp hp=>q1 hT p _ (s3.trans (ja0 (zc hp))) zb]
  ·rfl'
   exact#[⋯,λp hp=>q2 bs D p _ hT hB (s3.trans (ja0 (zc hp))) (hM.same (zc hp)) zb]
def nmL(l:())(n:Nat):Nat:=(l[n]?).getD (n+l.sum+1)
theorem vQ(h:l.Nodup)(a b:Nat)(e:nmL l a=nmL l b):a=b:=by
 have ls:∀{l:()} {c},c ∈ l->c<=l.sum:=λ{l c} h=>by
  induction l with
  | nil=>cases h
  | cons a l ih =>
   rw[aX];rcases tN.mp h with rfl | h
   ·lia
   ·have:=ih h;lia
 have le:∀{i c},l[i]? = tE c->c<=l.sum:=λh=>ls (ag h);unfold nmL at e
 cases ha:l[a]? with
 | none =>
  cases hb:l[b]? with
  | none=>rw[ha,hb]at e;erw[de]at e;lia
  | some c=>rw[ha,hb]at e;erw[de,fq]at e;have:=le hb;lia
 | some c =>
  cases hb:l[b]? with
  | none=>rw[ha,hb]at e;erw[de,fq]at e;have:=le ha;lia
  | some d =>
   rw[ha,hb]at e
   erw[fq]at e
   subst e;exact (List.getElem?_inj (tL.mp ha).1 h).mp (by rw[ha,hb])
def wB(hf:Inj f)(k:Nat)(l:())(ns:List Int)(u v:()):zJ k (l.map f) ns (u.map f) (v.map f)=zJ k l ns u v:=by
 have c:∀(w:()) (a:Nat),(w.map f).count (f a)=w.count a:=λw a=>by
  induction w with
  | nil=>rfl
  | cons b w ih =>
   rw[ak,d9,d9,ih];congr 1;by_cases e:b=a
   ·rw[e];simp
   ·rw[z9 (by simpa using λz=>e (hf _ _ z)),z9 ↥e]
 have W:∀w:(),zu k (l.map f) ns (w.map f)=zu k l ns w:=λw=>by
  unfold zu jJ;rw[aa,List.zip_map_left,aP];congr 2;exact aW λp Z=>by show ((w.map f).count (f p.1):Int) * p.2=_;rw[c]
 have r:∀w:(),wV k (l.map f) (w.map f)=wV k l w:=λw=>by
  have s:xu k (w.map f)=(xu k w).map f:=by
   unfold xu;split
   ·exact List.map_reverse.symm
   ·rfl
  unfold wV uP;rw[s,aP];exact aW λc Z=>by show (((l.map f).idxOf (f c):Nat):Int)=_;rw[zfi hf]
 unfold zJ;rw[W,W,r,r]
def KF(f:Nat->Nat)(R:List zG):elL (fEs (R.map (mp f)) R.length)=(R.map λp=>(p,1)).map (mE f):=by
 have key:∀n,n<=R.length->elL (fEs (R.map (mp f)) n)=((R.take n).map λp=>(p,1)).map (mE f):=λn=>by
  induction n with
  | zero=>intro _;rfl
  | succ n ih =>
   intro hn;have h1:R[n]? = tE R[n]:=ah ⋯;rw[Wo (p:=mp f R[n]) (by rw[ay,h1];rfl),List.take_succ,h1];unfold elL at ih ⊢;rw[ar,ih ⋯,ar,ar];rfl
 have:=key R.length (am _)
 rwa [aI]at this
def zdH{lt:()->()->Bool}(hf:Inj f)(hlt:LtX dm lt f k l ns){R:List zG}{w:Bool}(h:Cpl k l ns n [] (fEs (R.map (mp f)) R.length) w es)(hx:Uh dm lt n [] (R.map λp=>(p,1))=tE x):w=x.1/\elL es=x.2.map (mE f) :=
 zek hf hlt h (D:=[]) rfl (λhk=>by rw[Q6 hf hlt (KF f R) (zb1 hk)]) hx
def isX(a:Option (Bool × List EL))(b:Bool × List EL):Bool:=match a with | some x=>decide (x=b) | none=>tH
def zdz(h:isX a b=tG):a=tE b:=by
 unfold isX at h;split at h
 ·rw[y3 h]
 ·cases h
def Zc(b:Bool)(p:zG):zG:=if b=tG then (p.2,p.1)else p
def flL(f:Nat->Nat)(R:List zG)(bs:List Bool):List EL:=(R.zip bs).map λq=>(Zc q.2 (mp f q.1),1)
def X6(f:Nat->Nat){R:List zG}{bs:List Bool}(hb:bs.length=R.length):elL (uk (R.map (mp f)) bs)=flL f R bs:=by
 unfold elL uk flL;refine fg (by simp [hb]) λi h1 h2=>?_;have hi:i<bs.length:=by simpa using h1
 have hr:i<R.length:=⋯
 erw[List.getElem_map,List.getElem_mapIdx,List.getElem_zip]
 have hg:(R.map (mp f)).getD i ([],[])=mp f R[i]:=by rw[ae,ay,ah hr];rfl
 unfold elE KB Zc;rw[hg];split <;> rfl
def zdp{k:Nat}{l:()}{ns:List Int}(es:List Ent):(vS k l ns es).map elE=((elL es).filter λx=>!decide (x.1.1=x.1.2)).map λx=>if zJ k l ns x.1.2 x.1.1=tG then x else ((x.1.2,x.1.1),x.2):=by
 unfold vS elL;rw[aP,List.filter_map,aP];refine aW λe Z=>?_;show elE (zQ k l ns e)=if zJ k l ns e.2.1 e.1=tG then elE e else ((e.2.1,e.1),e.2.2.length);unfold zQ;split
 ·rfl
 ·show ((_,_),(yh e.2.2).length)=_;rw[yg]
def OkR(dm:()->Bool)(lt:()->()->Bool)(p:zG):Bool:=dm p.1 && dm p.2 && lt p.2 p.1 && !lt p.1 p.2 && !decide (p.1=p.2)
def VN{f:Nat->Nat}{dm:()->Bool}{lt:()->()->Bool}{k:Nat}{l:()}{ns:List Int}(hf:Inj f)(hlt:LtX dm lt f k l ns){R:List zG}(hR:R.all (OkR dm lt)=tG){bs:List Bool}(hb:bs.length=R.length){es:List Ent}{rv:Bool}(he:elL es=if rv then (flL f R bs).reverse else flL f R bs):FrX dm lt f k l ns es (R.map λp=>(p,1)):=by
 have ok:∀p ∈ R,dm p.1=tG/\dm p.2=tG/\lt p.2 p.1=tG/\lt p.1 p.2=tH/\p.1≠p.2:=λp hp=>by
  have:=tQ.mp hR p hp;unfold OkR at this
  erw[aM,dO,decide_eq_false_iff_not]at this
  let#[#[#[#[a,b],c],d],e]:=this;exact#[a,b,c,d,e]
 have g:∀p ∈ R,∀b,(if zJ k l ns (Zc b (mp f p)).2 (Zc b (mp f p)).1=tG then ((Zc b (mp f p),1):EL)else (((Zc b (mp f p)).2,(Zc b (mp f p)).1),1))=(mp f p,1):=λp hp b=>by
  let#[a1,a2,a3,a4,a5]:=ok p hp;cases b
  ·show (if zJ k l ns (p.2.map f) (p.1.map f)=tG then _ else _)=_;rw[hlt _ _ a2 a1,a3,z6 rfl];rfl
  ·show (if zJ k l ns (p.1.map f) (p.2.map f)=tG then _ else _)=_;rw[hlt _ _ a1 a2,a4,z9 ∅];rfl
 have u:∀p ∈ R,∀b,(Zc b (mp f p)).1≠(Zc b (mp f p)).2:=λp hp b e=>by
  let#[_,_,_,_,a5]:=ok p hp;cases b
  ·exact a5 ((wk hf).mp e)
  ·exact a5 ((wk hf).mp e.symm)
 have main:((flL f R bs).filter λx=>!decide (x.1.1=x.1.2)).map (λx=>if zJ k l ns x.1.2 x.1.1=tG then x else ((x.1.2,x.1.1),x.2))=(R.map λp=>(p,1)).map (mE f):=by
  have fl:(flL f R bs).filter (λx=>!decide (x.1.1=x.1.2))=flL f R bs:=Al.mpr λx hx=>by
   unfold flL at hx;let#[q,hq,rfl]:=tM.mp hx;simpa using u q.1 (cS hq).1 q.2
  rw[fl];unfold flL;rw[aP,aP];refine fg (by simp [hb]) λi h1 h2=>?_;have hr:i<R.length:=by simpa using h2
  erw[List.getElem_map,List.getElem_zip,Function.comp]
  exact g R[i] (dY hr) _
 have rx:Yl lt (R.map λp=>(p,1))=R.map λp=>(p,1):=by
  unfold Yl;rw[Al.mpr λx hx=>by let#[p,hp,rfl]:=tM.mp hx;simpa using (ok p hp).2.2.2.2,aP];refine aW λp hp=>?_;show jN lt (p,1)=(p,1);unfold jN;rw[z6 (ok p hp).2.2.1]
 intro _;rw[zdp,he,rx];cases rv
 ·exact .of_eq main
 ·erw[if_true]
  rw[List.filter_reverse,di];exact (List.reverse_perm _).trans (.of_eq main)
def qe(i j:Nat):List zG:=[([1,0],[0,1]),(af i 1 ++ af j 0,[])]
def Jc(i j:Nat):List zG:=[([1,0],[0,1]),(af j 0 ++ af i 1,[])]
def isT(a:Option (Option (List EL)))(b:Option (List zG)):Bool:=match a,b with
 | some tF,tF=>tG
 | some (tE x),tE y=>decide (x.map Prod.fst=y)
 | _,_=>tH
def zcY{a:Option (Option (List EL))}{b:Option (List zG)}(h:isT a b=tG):∃x:Option (List EL),a=tE x/\x.map (λz=>z.map Prod.fst)=b:=by
 unfold isT at h;split at h
 ·exact#[tF,rfl,rfl]
 ·exact#[_,rfl,congrArg tE (y3 h)]
 ·cases h
def t12:():=[1,2,3,4,5,6,7,8,9,10,11,12]
def J7:∀i ∈ t12,∀j ∈ t12,2<i+j->((qe i j).all (OkR (λZ=>tG) (zJ 0 [0,1] [])) && isT (Ug (λZ=>tG) (zJ 0 [0,1] []) 20 ((qe i j).map λp=>(p,1))) (if 40<i * j then tF else tE (Jc i j)))=tG:=by symm
def zc3{i:Nat}(h:i<12):1+i ∈ t12:=by have:∀i ∈ aN 12,1+i ∈ t12:=∅;exact this i (tR.mpr h)
theorem WS{f:Nat->Nat}{dm:()->Bool}{lt:()->()->Bool}{k:Nat}{l:()}{ns:List Int}(hf:Inj f)(hlt:LtX dm lt f k l ns){R:List zG}{o:Option (List zG)}(h:(R.all (OkR dm lt) && isT (Ug dm lt 20 (R.map λp=>(p,1))) o)=tG){bs:List Bool}(hb:bs.length=R.length){rv:Bool}{r:Option (List Ent)}(ht:wH k l ns 20 (if rv then (uk (R.map (mp f)) bs).reverse else uk (R.map (mp f)) bs) r):r.map zf=o.map λz=>z.map (mp f):=by
 rw[aM]at h;let#[x,hx,ho]:=zcY h.2
 have e:=kN hf hlt ht (VN hf hlt h.1 hb (rv:=rv) (by
  cases rv
  ·exact X6 f hb
  ·show elL (ft _)=_;unfold elL;rw[di]
   exact congrArg ft (X6 f hb))) hx
 rw[<- ho]
 cases r with
 | none=>cases x with
  | none=>rfl
  | some x=>cases e
 | some bs=>cases x with
  | none=>cases e
  | some x =>
   have e:=Option.some.inj e;show tE _=tE _;rw[wv e]
def UY(rs:List zG)(bs:List Bool)(hb:bs.length=rs.length){l:()}(hl:∀p ∈ rs,p.1.length<=60/\p.2.length<=60/\(∀c ∈ p.1,c ∈ l)/\∀c ∈ p.2,c ∈ l)(rv:Bool):∀e ∈ (if rv then (uk rs bs).reverse else uk rs bs),EB l e/\EOk rs e:=by
 have key:∀e ∈ uk rs bs,EB l e/\EOk rs e:=λe he=>by
  unfold uk at he;let#[i,hi,rfl]:=Am.mp he;have hr:rs[i]? = tE rs[i]:=ah ⋯;have hg:rs.getD i ([],[])=rs[i]:=by rw[ae,hr];rfl
  let#[a,b,c,d]:=hl _ (ag hr);unfold KB;rw[hg];split
  ·exact#[#[b,a,by show 1<=_;decide,d,c],zcE hr]
  ·exact#[#[a,b,by show 1<=_;decide,c,d],zao hr]
 intro e he;cases rv
 ·exact key e he
 ·exact key e (tU.mp he)
theorem uL(y n:Nat):(af n [y]).flatten=af n y:=by
 induction n with
 | zero=>rfl
 | succ n ih=>rw[bT,cZ,ih];rfl
def zL(hp:H p=tE (.tup [⇑r.1,⇑r.2]))(h:Iss K H (rs.map dR) vs):Iss K H ((r::rs).map dR) (.ref p::vs):=by
 erw[ak,Iss]
 refine#[_,_,rfl,?_,h];unfold dR
 erw[Is]
 exact#[p,_,rfl,x8 hp,zdN]
def xJ{H:Hp}:Iss K H (([]:List zG).map dR) []:=by erw[aA,Iss]
def X4{x y:Nat}(a b:Nat):(qe a b).map (mp (nmL [x,y]))=[([y,x],[x,y]),(af a y ++ af b x,[])]/\(Jc a b).map (mp (nmL [x,y]))=[([y,x],[x,y]),(af b x ++ af a y,[])]:=by
 unfold qe Jc
 erw[ak,aA,mp,ar,dL]
 exact#[rfl,rfl]
def VE(K:pB)(TB:pC):Sp:=λvs H Q Z=>∃(x y:Nat) (c:Int),vs=[⇑[x],⇑[y],.int c]/\wG [x,y]=tG/\ub c/\TabOk H TB lp lq/\∀H',Q (.bl tG) H'
def io:sQz 3 ["_law_x","_law_y","_law_cell_here","_law_i","_law_j","_law_pacts","_law_found","_law_refused"] jl:=by nofun
def Vo{f CO CR CW TB:pC}{fd:pT}(B:Bt mg)(T:TWS P w K mg base CO CR CW)(F:("_law_passing"^^^jl))(iP:(8<<<"_law_thinned") ["_law_order","_law_entries_here"] [] (qt K CO CR CW TB))(iA:(2<<<"_law_sides") ["_law_pairs","_law_cell_here"] [] (vv K))(ik:(4<<<"_law_due_list") ["_law_found","_law_pairs","_law_pacts"] [] (jk K))(gK:(1<<<"_law_mixed") ["_law_cell_here","_law_turn"] [] xx):(9&&&["_law_x","_law_y","_law_cell_here"]) (VE K TB):=by
 exists F.ok io
 ·let#[x,y,c,rfl,hg,hc,hTab,q]:=h
  refine#[_,(zg (zE 3 io.nd (zq zC ze (zq yq (cl0 gK hr .nil rfl (za (pv 2) (za ze zd))) ze))) (zg (zE 4 io.nd (zq zC ze (zq yq (cl0 gK hr .nil rfl (za (pv 2) (za ze zd))) ze))) (zg (zS (zB xL (zq zC (pv 3) (pv 4)) ze (zF _)) (zh (zE 4 io.nd ze))
    zv) (zg (zE 5 io.nd (zX (za (zy (za (zq zC (pv 1) (pv 0)) (za (zq zC (pv 0) (pv 1)) zd))) (za (zy (za (zq zC (zq yj (pv 1) (pv 3)) (zq yj (pv 0) (pv 4))) (za zO zd))) zd)))) (zg (jv (cl0 iP hr .nil rfl (za (mkC T.mO hr rfl T.gO (za (zq zC (pv 0) (pv 1)) zd)) (za (cl0 iA hr .nil rfl (za (pv 5) (za (pv 2) zd))) zd))) (wF (n:=2) rfl (zK (zr (i:=6) io.nd rfl (.inl rfl)) (zK (zr (i:=7) io.nd rfl (.inl rfl)) yV)))) (zg (zS (zB uT (zq yj (pv 3) (pv 4)) ze (zF _)) (zh (zp (va (pv 7) (w9 (yB op_isN' (pv 6) xj (zF _))))))
    zv) (zh (zp (va (jF (pv 7)) (w9 (cl0 ik hr .nil rfl (za (pv 6) (za (zX (za (zk ix_list (pv 5) ze) (za (zy (za (zq zC (zq yj (pv 0) (pv 4)) (zq yj (pv 1) (pv 3))) (za zO zd))) zd))) (za (pv 5) zd)))))))))))))),?_]
  have s16:=yb;have hn:=(y3 hg).2.2.2;have hf:=vQ hn;change H'=H/\∃i:Nat,i<12/\σ=%[tE ⇑[x],tE ⇑[y],~~~!c,tE (.int ((1+i:Nat):Int))|4]
  ·rfl'
   exact zW hc ∅ ∅ λz hz=>#[_,rfl,∅,rfl,(z % 12).toNat,⋯,⋯]
  rintro σ H1 ⟨rfl,i,hi,rfl⟩:0;change H'=H1/\∃j:Nat,j<12/\σ=%[tE ⇑[x],tE ⇑[y],~~~!c,tE (.int ((1+i:Nat):Int)),tE (.int ((1+j:Nat):Int))|3]
  ·rfl'
   exact zW hc ∅ ∅ λz hz=>#[_,rfl,∅,rfl,(z % 12).toNat,⋯,⋯]
  rintro σ H1 ⟨rfl,j0,hj0,rfl⟩:0;change H'=H1/\∃j:Nat,(j<12/\2<1+i+(1+j))/\σ=%[tE ⇑[x],tE ⇑[y],~~~!c,tE (.int ((1+i:Nat):Int)),tE (.int ((1+j:Nat):Int))|3]
  ·rfl'
   exact yC (λh=>#[1,⋯,⋯,⋯]) λh=>#[j0,hj0,⋯,rfl]
  rintro σ H1 ⟨rfl,j,⟨hj,hij⟩,rfl⟩:0;change Same H1 H'/\∃pa p0:pC,∃p1:pC,(H' pa=tE (.lst [.ref p0,.ref p1])/\H' p0=tE (.tup [⇑[y,x],⇑[x,y]])/\LsA K H' pa (((qe (1+i) (1+j)).map (mp (nmL [x,y]))).map dR))/\σ=%[tE ⇑[x],tE ⇑[y],~~~!c,tE (.int ((1+i:Nat):Int)),tE (.int ((1+j:Nat):Int)),!!pa|2]
  ·rfl'
   erw[uL,aR,bf]
   refine#[⋯,⋯,⋯,λp hp=>#[⋯,⋯,∅,⋯,⋯,∅,⋯,⋯,λp1 hp1=>#[⋯,λp2 hp2=>?_]]];have t0:=zc (o:=.tup [⇑[y,x],⇑[x,y]]) hp;have t1:=zc (o:=.tup [⇑(af (1+i) y ++ af (1+j) x),⇑[]]) hp1;have t2:=zc (o:=.lst [.ref p,.ref p1]) hp2;rw[(X4 _ _).1];exact#[t0.trans (t1.trans t2),p2,p,#[p1,zb],t2 _ _ (t1 _ _ zb),#[_,zb,zL (r:=([y,x],[x,y])) (t2 _ _ (t1 _ _ zb)) (zL (r:=(af (1+i) y ++ af (1+j) x,[])) (t2 _ _ zb) xJ)],rfl]
  rintro σ H2 ⟨s2,pa,p0,p1,⟨hpa,hp0,hP⟩,rfl⟩:0;change ∃(fv:V) (b:Bool),(H' pa=tE (.lst [.ref p0,.ref p1])/\H' p0=tE (.tup [⇑[y,x],⇑[x,y]])/\LsA K H' pa (((qe (1+i) (1+j)).map (mp (nmL [x,y]))).map dR)/\((40<(1+i) * (1+j)/\fv=.non/\b=tG)\/((1+i) * (1+j)<=40/\b=tH/\∃(D:pC) (es:List Ent),fv=.ref D/\EnsM K H' D es/\zf es=(Jc (1+i) (1+j)).map (mp (nmL [x,y]))/\es.length<=64/\∀e ∈ es,StE ((qe (1+i) (1+j)).map (mp (nmL [x,y]))) e)))/\σ=[tE ⇑[x],tE ⇑[y],~~~!c,tE (.int ((1+i:Nat):Int)),tE (.int ((1+j:Nat):Int)),!!pa,tE (fv),tE (.bl b)]
  ·rfl'
   refine#[⋯,λz dx hz hdx hne=>?_];have sd:=zc (o:=.own z) hdx
   have sx:Same H2 (upd (upd (upd H2 dx (.own z)) z (.ins CO dx [])) z (.ins CO dx [("letters",⇑[x,y])])):=λb o' e=>by
    rw[zm (zD e hz),zm (zD e hz)];exact sd _ _ e
   have hT2:=hTab.same (s2.trans sx)
   have hin:∀p ∈ (qe (1+i) (1+j)).map (mp (nmL [x,y])),p.1.length<=60/\p.2.length<=60/\(∀c ∈ p.1,c ∈ [x,y])/\∀c ∈ p.2,c ∈ [x,y]:=λp hp=>by
    rw[(X4 _ _).1]at hp
    erw[be,bc,or_false]at hp
    rcases hp with rfl | rfl
    ·simp
    ·refine#[by simp;lia,by simp,λc hc=>?_,λc hc=>(nomatch hc)]
     erw[List.mem_append,List.mem_replicate]at hc
     erw[be,bc,or_false]
     lia
   refine#[z,CO,dx,_,rfl,hg,T.cO,T.lO,zb,rfl,pa,c,_,rfl,hc,hP.same sx,by show 2<=12;decide,λD bs rv H' s' hD hbl hM=>?_];have hbl':bs.length=(qe (1+i) (1+j)).length:=hbl;have hT3:=hT2.same s';let#[tp,htp,_]:=id hT3;have hG:OG [x,y] [1,1] 0:=#[hg,∅,rfl,by simp];have hso:=UY _ bs hbl hin rv;have hev:=J7 (1+i) (zc3 hi) (1+j) (zc3 hj) hij;have hlt:LtX (λZ=>tG) (zJ 0 [0,1] []) (nmL [x,y]) 0 [x,y] [1,1]:=λu v Z Z=>wB hf 0 [0,1] [1,1] u v;refine#[z,D,0,[x,y],[1,1],_,rfl,OrdAt.same #[dx,.inl #[rfl,zb]] s',hG,hM.l,?_,λe he=>(hso e he).1,hT3,λhT0 p H'' sT hp=>?_,λfs D' p H'' hT1 hBG sT hM' hp=>?_]
   ·have:((if rv then (uk ((qe (1+i) (1+j)).map (mp (nmL [x,y]))) bs).reverse else uk ((qe (1+i) (1+j)).map (mp (nmL [x,y]))) bs)).length=2:=by cases rv <;> simp [uk,hbl'] <;> rfl
    lia
   ·have h40:40<(1+i) * (1+j):=bg λz=>by
     have e:=WS hf hlt hev hbl' hT0;rw[z9 z]at e;cases e
    exact#[_,rfl,_,x8 hp,rfl,_,_,rfl,_,_,rfl,rfl,sT.at htp (s' _ _ (sx _ _ hpa)) (λZ z=>by cases z),sT.at htp (s' _ _ (sx _ _ hp0)) (λZ z=>by cases z),((hP.same sx).same s').samT sT htp,_,_,.inl #[h40,rfl,rfl],rfl,rfl]
   ·have e:=WS hf hlt hev hbl' hT1
    have h40:¬ 40<(1+i) * (1+j):=λz=>by
     rw[z6 z]at e;cases e
    rw[z9 h40]at e;have hok:=(qo (rs:=(qe (1+i) (1+j)).map (mp (nmL [x,y]))) hG hT1 fs rfl (λe he=>(hso e he).1) λe he=>(hso e he).2).1;have hfn:=hBG.n;exact#[_,rfl,_,x8 hp,rfl,_,_,rfl,_,_,rfl,rfl,sT.at htp (s' _ _ (sx _ _ hpa)) (λZ z=>by cases z),sT.at htp (s' _ _ (sx _ _ hp0)) (λZ z=>by cases z),((hP.same sx).same s').samT sT htp,_,_,.inr #[⋯,rfl,D',rfl,fs,hM',Option.some.inj e,⋯,λe he=>#[(hBG.e e he).a,(hBG.e e he).s,hok e he]],rfl,rfl]
  rintro σ H3 ⟨fv,b,⟨hpa3,hp03,hP3,hc3⟩,rfl⟩:0;change H'=H3/\(1+i) * (1+j)<=40/\σ=[tE ⇑[x],tE ⇑[y],~~~!c,tE (.int ((1+i:Nat):Int)),tE (.int ((1+j:Nat):Int)),!!pa,tE (fv),tE (.bl b)]
  ·rfl'
   have em:((1+i:Nat):Int) * ((1+j:Nat):Int)=(((1+i) * (1+j):Nat):Int):=(fG _ _).symm;rw[em];refine#[.inl #[⋯,⋯],yC (λh=>?_) λh=>by lia];rcases hc3 with ⟨_,rfl,rfl⟩ | ⟨h',_⟩
   ·exact yC (λZ=>q _) λz=>y9 rfl z
   ·lia
  rintro σ H4 ⟨rfl,h40,rfl⟩:0;rcases hc3 with ⟨h,_⟩ | ⟨_,rfl,D,es,rfl,hM,hpr,hel,hst⟩
  ·lia
  rfl'
  erw[uL,aR,bf]
  refine#[_,x6 hpa3,_,rfl,⋯,⋯,∅,⋯,⋯,∅,⋯,⋯,λp hp=>#[⋯,λp2 hp2=>?_]];have t1:=zc (o:=.tup [⇑(af (1+j) x ++ af (1+i) y),⇑[]]) hp;have t2:=zc (o:=.lst [.ref p0,.ref p]) hp2;refine#[D,p2,pa,es,_,rfl,hM.same (t1.trans t2),?_,hP3.same (t1.trans t2),#[by show 2<=30;decide,λr hr'=>?_],hel,hst,λH' Z=>q H']
  ·rw[hpr,(X4 _ _).2];exact#[_,zb,zL (r:=([y,x],[x,y])) (t2 _ _ (t1 _ _ hp03)) (zL (r:=(af (1+j) x ++ af (1+i) y,[])) (t2 _ _ zb) xJ)]
  ·rw[(X4 _ _).1]at hr'
   erw[be,bc,or_false]at hr'
   rcases hr' with rfl | rfl
   ·simp
   ·simp;lia
def fjF(w:()):List zG->Nat->Option Nat
 | [],_=>tF
 | p::ps,j=>if p.1.isPrefixOf w=tG then tE j else fjF w ps (j+1)
def fsF(ps:List zG):()->Nat->Option (Nat × Nat)
 | [],_=>tF
 | c::w,q=>match fjF (c::w) ps 0 with
  | some j=>tE (j,q)
  | none=>fsF ps w (q+1)
def zd2(l:())(q:Nat)(p:())(hq:q<=l.length):zt l (q:Int) p=p.isPrefixOf (l.drop q):=by
 unfold zt;rw[cQ,List.isPrefixOf_iff_prefix,decide_eq_true_iff,aR,List.prefix_iff_eq_take];constructor
 ·exact λh=>h.2.2.symm
 ·intro h;have:=congrArg dU h;rw[aF,bh]at this;exact#[⋯,⋯,h.symm]
theorem zei(l:())(ps:List zG)(q:Nat)(hq:q<=l.length):∀(n j:Nat),j+n=ps.length->((fJ j n).filter (stJ l ps q)).head? = fjF (l.drop q) (ps.drop j) j
 | 0,j,h=>by rw[aZ (l:=ps) ⋯];rfl
 | n+1,j,h=>by
  have hj:j<ps.length:=⋯;rw[List.range'_succ,aO hj,fjF,dZ]
  have e:stJ l ps q j=ps[j].1.isPrefixOf (l.drop q):=by
   unfold stJ;rw[ah hj];exact zd2 l q _ hq
  rw[e];split
  ·rfl
  ·exact zei l ps q hq n (j+1) ⋯
theorem zdZ(l:())(ps:List zG):∀(n q:Nat),q+n=l.length->((fJ q n).flatMap λq=>wN l ps q ps.length).head? = fsF ps (l.drop q) q
 | 0,q,h=>by rw[aZ ⋯];rfl
 | n+1,q,h=>by
  have hq:q<l.length:=⋯;have e:=zei l ps q ⋯ ps.length 0 ⋯;rw[cM]at e;rw[List.range'_succ,dP,List.head?_append]
  have e2:(wN l ps q ps.length).head? =(fjF (l.drop q) ps 0).map λj=>(j,q):=by
   unfold wN;rw[List.head?_map,fY,e]
  rw[e2,zdZ l ps n (q+1) ⋯,aO hq,fsF];cases fjF (l[q]::l.drop (q+1)) ps 0 <;> rfl
def UV(l:())(ps:List zG):zA l ps=fsF ps l 0:=by have:=zdZ l ps l.length 0 ⋯;rw[cM]at this;unfold zA xl;rw[fY,this]
def rdF(ps:List zG):Nat->()->Option (() × ())
 | 0,w=>match fsF ps w 0 with
  | none=>tE ([],w)
  | some _=>tF
 | m+1,w=>match fsF ps w 0 with
  | none=>tE ([],w)
  | some u=>(rdF ps m (uO w ps u)).map λx=>(u.1::x.1,x.2)
theorem zfF(ps:List zG):∀(m:Nat) (w:()),rdX ps m w=rdF ps m w
 | 0,w=>by unfold rdX rdF;rw[UV] <;> rfl
 | m+1,w=>by
  unfold rdX rdF;rw[UV]
  cases fsF ps w 0 with
  | none=>rfl
  | some u=>simp only;rw[zfF ps m]
end
section
variable(dm:()->Bool)(lt:()->()->Bool)
end in def zcz:List EL->List EL->Option (Option (List EL))
 | bs,[]=>tE (tE bs)
 | bs,e::es=>match rdF (bs.map Prod.fst) 40 e.1.1,rdF (bs.map Prod.fst) 40 e.1.2 with
  | some x,tE y=>if x.2=y.2 then zcz bs es else
    if 240<lnX bs x.1+e.2+lnX bs y.1\/60<x.2.length\/60<y.2.length then tE tF else
    if dm x.2 && dm y.2 then zcz (bs ++ [jN lt ((x.2,y.2),lnX bs x.1+e.2+lnX bs y.1)]) es else tF
  | _,_=>tE tF
end in def zbq:Nat->List EL->Option (Option (List EL))
 | 0,_=>tE tF
 | n+1,es=>if zbv dm lt (Yl lt es) (zan lt (Yl lt es))=tG then
   match zcz dm lt [] (zan lt (Yl lt es))with
   | none=>tF
   | some tF=>tE tF
   | some (tE bs)=>if bs.map Prod.fst=(zan lt (Yl lt es)).map Prod.fst then tE (tE bs)else zbq n bs
  else tF
end in def unF(ps:List zG):Option (List N3) :=
 if (ovA ps ps.length).all (λt=>(rdF ps 40 (pkA ps t)).isSome && (rdF ps 40 (pkB ps t)).isSome)=tG then
  tE ((ovA ps ps.length).filter λt=>!decide ((rdF ps 40 (pkA ps t)).map Prod.snd=(rdF ps 40 (pkB ps t)).map Prod.snd))else tF
end in def VY:Nat->List EL->List EL->Option (Bool × List EL)
 | 0,kept,_=>tE (tH,kept)
 | n+1,kept,fresh=>match zbq dm lt 20 fresh with
  | none=>tF
  | some tF=>tE (tH,kept)
  | some (tE bs)=>if zbm (bs.map Prod.fst)=tG then tE (tH,kept)else
   match unF (bs.map Prod.fst)with
   | none=>tE (tH,bs)
   | some ts=>if ts=[]then tE (tG,bs)else VY n bs (bs ++ (ts.take 8).map λt=>((pkA (bs.map Prod.fst) t,pkB (bs.map Prod.fst) t),lnX bs [t.1,t.2.1]))
end
section
variable{dm:()->Bool}{lt:()->()->Bool}
theorem zdv:∀(es bs:List EL),UM dm lt bs es=zcz dm lt bs es
 | [],bs=>by unfold UM zcz;rfl
 | e::es,bs=>by unfold UM zcz;erw[zfF,zdv es] <;> rfl
theorem zaY:∀(n:Nat) (es:List EL),Ug dm lt n es=zbq dm lt n es
 | 0,es=>by unfold Ug zbq;rfl
 | n+1,es=>by unfold Ug zbq;erw[zdv,zaY n] <;> rfl
def zgt(ps:List zG):unX ps=unF ps:=by unfold unX unF;erw[zfF]
theorem zec:∀(n:Nat) (kept fresh:List EL),Uh dm lt n kept fresh=VY dm lt n kept fresh
 | 0,_,_=>by unfold Uh VY;rfl
 | n+1,_,_=>by unfold Uh VY;erw[zaY,zgt,zec n] <;> rfl
end
abbrev RIn(l:())(rs:List zG):Prop:=∀p ∈ rs,p.1.length<=60/\p.2.length<=60/\(∀c ∈ p.1,c ∈ l)/\∀c ∈ p.2,c ∈ l
def zdE(h:RIn l rs):∀e ∈ fEs rs rs.length,EB l e:=λe he=>by
 let#[i,p,hi,hp,rfl]:=Zd he;let#[a,b,c,d]:=h p (ag hp);exact#[a,b,by show 1<=_;decide,c,d]
end in abbrev sdL(rv:Bool)(rs:List zG)(bs:List Bool):List Ent:=if rv then (uk rs bs).reverse else uk rs bs
def vI{rv:Bool}{rs:List zG}{bs:List Bool}(hb:bs.length=rs.length):(sdL rv rs bs).length=rs.length:=by cases rv <;> simp [sdL,uk,hb]
def zdx{rv:Bool}{rs:List zG}{bs:List Bool}:∀e ∈ sdL rv rs bs,e.2.2.length=1:=λe he=>by
 have he:e ∈ uk rs bs:=by
  cases rv
  ·exact he
  ·exact tU.mp he
 unfold uk at he;let#[i,hi,rfl]:=Am.mp he;unfold KB;split <;> rfl
def zeu{es:List Ent}(h:∀e ∈ es,e.2.2.length=1):elL es=(zf es).map λp=>(p,1):=by unfold elL zf;rw[aP];exact aW λe he=>by show ((e.1,e.2.1),e.2.2.length)=_;rw[h e he];rfl
def zfb(ts:List zG):elL (fEs ts ts.length)=ts.map λp=>(p,1):=by
 have:=KF id ts
 have e:ts.map (mp id)=ts:=by
  refine (aW (g:=id) λp Z=>?_).trans (eK ts);unfold mp;rw[eK,eK];rfl
 rw[e]at this;rw[this,aP];exact aW λp Z=>by show ((p.1.map id,p.2.map id),1)=_;rw[eK,eK]
def ze2(f:Nat->Nat){R:List zG}{bs:List Bool}(hb:bs.length=R.length)(rv:Bool):elL (sdL rv (R.map (mp f)) bs)=if rv then (flL f R bs).reverse else flL f R bs:=by
 cases rv
 ·exact X6 f hb
 ·show elL (ft _)=_;unfold elL;rw[di];exact congrArg ft (X6 f hb)
end in def isC(a:Option (Bool × List EL))(b:Bool × List zG):Bool:=match a with
 | some x=>(x.1 == b.1) && decide (x.2.map Prod.fst=b.2)
 | none=>tH
set_option tactic.hygienic true in
mutual section
def zdj{a:Option (Bool × List EL)}{b:Bool × List zG}(h:isC a b=tG):∃x,a=tE x/\x.1=b.1/\x.2.map Prod.fst=b.2:=by
 unfold isC at h;split at h
 ·rename_i x;rw[aM]at h;exact#[x,rfl,eq_of_beq h.1,y3 h.2]
 ·cases h
def zcP{f:Nat->Nat}{dm:()->Bool}{lt:()->()->Bool}{k:Nat}{l:()}{ns:List Int}(hf:Inj f)(hlt:LtX dm lt f k l ns){R:List zG}{n:Nat}{o:Bool × List zG}(h:(R.all (OkR dm lt) && isC (VY dm lt n [] (R.map λp=>(p,1))) o)=tG){bs:List Bool}(hb:bs.length=R.length){rv w:Bool}{es:List Ent}(hc:Cpl k l ns n [] (fEs (zf (sdL rv (R.map (mp f)) bs)) (zf (sdL rv (R.map (mp f)) bs)).length) w es):w=o.1/\zf es=o.2.map (mp f):=by rw[aM]at h;let#[x,hx,h1,h2]:=zdj h.2;rw[<- zec]at hx;let#[g1,g2]:=zek hf hlt hc (D:=[]) rfl (VN hf hlt h.1 hb (rv:=rv) (by rw[zfb,<- zeu zdx];exact ze2 f hb rv)) hx;exact#[g1.trans h1,by rw[wv g2,h2]]
def zay{told:List zG}{k n:Nat}{l:()}{ns:List Int}{w:Bool}{es:List Ent}(hG:OG l ns k)(hin:RIn l told)(hB:BG k l ns es)(hc:Cpl k l ns n [] (fEs told told.length) w es):∀e ∈ es,StE told e:=λe he =>
 #[(hB.e e he).a,(hB.e e he).s,(zee (rs:=told) hG hc (zdE hin) (λe he=>JI he) #[λe h=>(nomatch h),.inl rfl]).1 e he]
def UK{l:()}{rs:List zG}{rv:Bool}{bs:List Bool}(hb:bs.length=rs.length)(h:RIn l rs):RIn l (zf (sdL rv rs bs)):=λp hp=>by
 unfold zf at hp;let#[e,he,rfl]:=tM.mp hp;have:=(UY rs bs hb h rv e he).1;exact#[this.a,this.b,this.ma,this.mb]
def xM(k n:Nat):List zG:=[([0],af k 1),(af n 0,[])]
def uo(k n:Nat):List zG:=if k * n<5 then [(af (k * n) 1,[]),([0],af k 1)]else [([0],af k 1),(af (k * n) 1,[])]
def ltG:()->()->Bool:=zJ 2 [0,1] [5,1]
abbrev dmT:()->Bool:=λZ=>tG
def t39:():=(aN 39).map (2 + ·)
def uH(k n:Nat):Bool:=(xM k n).all (OkR dmT ltG) && isT (zbq dmT ltG 20 ((xM k n).map λp=>(p,1))) (if 60<k * n then tF else tE (uo k n))
def tGa:():=(aN 21).map (2 + ·)
def tGb:():=(aN 10).map (23 + ·)
def tGc:():=(aN 8).map (33 + ·)
def g2A:∀n ∈ tGa,uH 2 n=tG:=by symm
def g2B:∀n ∈ tGb,uH 2 n=tG:=by symm
def g2C:∀n ∈ tGc,uH 2 n=tG:=by symm
def g3A:∀n ∈ tGa,uH 3 n=tG:=by symm
def g3B:∀n ∈ tGb,uH 3 n=tG:=by symm
def g3C:∀n ∈ tGc,uH 3 n=tG:=by symm
def g4A:∀n ∈ tGa,uH 4 n=tG:=by symm
def g4B:∀n ∈ tGb,uH 4 n=tG:=by symm
def g4C:∀n ∈ tGc,uH 4 n=tG:=by symm
def J6:∀k ∈ [2,3,4],∀n ∈ t39,((xM k n).all (OkR dmT ltG) && isT (zbq dmT ltG 20 ((xM k n).map λp=>(p,1))) (if 60<k * n then tF else tE (uo k n)))=tG:=λk hk n hn=>by
 have hn':n ∈ tGa ++ (tGb ++ tGc):=hn;have key:∀{k:Nat},(∀n ∈ tGa,uH k n=tG)->(∀n ∈ tGb,uH k n=tG)->(∀n ∈ tGc,uH k n=tG)->uH k n=tG:=λa b c=>(tO.mp hn').elim (a n) λh=>(tO.mp h).elim (b n) (c n);rcases tN.mp hk with rfl | hk
 ·exact key g2A g2B g2C
 rcases tN.mp hk with rfl | hk
 ·exact key g3A g3B g3C
 rw[tP.mp hk];exact key g4A g4B g4C
def V0:∀k ∈ [2,3,4],∀n ∈ [2,3,4,5,6,7,8,9,10],∀r ∈ [0,1,2,3],((xM k n).all (OkR dmT ltG) && isC (VY dmT ltG (r+1) [] ((xM k n).map λp=>(p,1))) (if 10<k * n then (tH,[])else (tG,uo k n)))=tG:=by symm
def lt6:()->()->Bool:=zJ 0 [0,1,2,3,4,5] []
def eightR:List zG:=[([0,1],[]),([2,1],[]),([3,1],[]),([1,4,4],[]),([1,4,5],[]),([1,5,4],[]),([1,5,5],[])]
def eightO:List zG:=[([2],[0]),([0,1],[]),([1,0],[]),([3,1],[]),([4,4],[0]),([4,5],[0]),([5,4],[0]),([5,5],[0])]
def eight_all:(eightR.all (OkR dmT lt6) && isC (VY dmT lt6 1 [] (eightR.map λp=>(p,1))) (tH,eightR))=tG/\(eightR.all (OkR dmT lt6) && isC (VY dmT lt6 2 [] (eightR.map λp=>(p,1))) (tH,eightO))=tG:=by symm
def twelveR:List zG:=[([0,0,3],[]),([0,0,4],[]),([0,0,5],[]),([0,1,4],[]),([0,1,5],[]),([0,2,4],[]),([0,2,5],[]),([1,0,4],[]),([1,0,5],[]),([1,1,4],[]),([1,1,5],[]),([3,2,2],[])]
def Vx:∀r ∈ [0,1,2,3,4,5,6],(twelveR.all (OkR dmT lt6) && isC (VY dmT lt6 (r+1) [] (twelveR.map λp=>(p,1))) (tH,twelveR))=tG:=by symm
def lt3:()->()->Bool:=zJ 0 [0,1,2] []
def qf(i j:Nat):List zG:=[([1,0],[0,1]),(af i 1 ++ [2],af i 1),([2] ++ af j 0,af j 0)]
def zcu(i j:Nat):List zG:=if i=1 then (if j=1 then [([1,0],[0,1]),([1,2],[1]),([2,0],[0])]else [([1,0],[0,1]),([1,2],[1]),([2] ++ af j 0,af j 0)])else if j=1 then [([1,0],[0,1]),([2,0],[0]),(af i 1 ++ [2],af i 1)]else if i<=j then qf i j else [([1,0],[0,1]),([2] ++ af j 0,af j 0),(af i 1 ++ [2],af i 1)]
def t9:():=[1,2,3,4,5,6,7,8,9]
def zbT:∀i ∈ t9,∀j ∈ t9,∀r ∈ [0,1,2,3,4,5,6],((qf i j).all (OkR dmT lt3) && isC (VY dmT lt3 (r+1) [] ((qf i j).map λp=>(p,1))) (decide (i * j<=40),zcu i j))=tG:=by symm
def zal{x y:Nat}(k n:Nat):(xM k n).map (mp (nmL [x,y]))=[([x],af k y),(af n x,[])]/\(uo k n).map (mp (nmL [x,y]))=if k * n<5 then [(af (k * n) y,[]),([x],af k y)]else [([x],af k y),(af (k * n) y,[])]:=by
 refine#[?_,?_]
 ·unfold xM
  erw[ak,aA,mp,dL]
  rfl
 ·unfold uo;split <;> (erw[ak,aA,mp,dL];rfl)
def X9(K:pB):Sp:=λvs H Q Z=>∃(x y m:Nat) (c:Int),vs=[⇑[x],⇑[y],.int c,.int (m:Nat)]/\ub c/\1<=m/\m<=39/\∀(k n:Nat) (pa du p:pC) (H':Hp),k ∈ [2,3,4]->2<=n->n<2+m->Same H H'->LsA K H' pa (((xM k n).map (mp (nmL [x,y]))).map dR)->LsA K H' du (((uo k n).map (mp (nmL [x,y]))).map dR)->H' p=tE (.tup [.ref pa,.ref du,.int ((k * n:Nat):Int)])->Q (.ref p) H'
def lv:sQz 4 ["_law_x","_law_y","_law_cell_here","_law_most","_law_k","_law_n","_law_pacts","_law_pairs"] YW:=by nofun
def J8{f:pC}{fd:pT}(B:Bt mg)(F:("_law_grown"^^^YW))(gK:(1<<<"_law_mixed") ["_law_cell_here","_law_turn"] [] xx):(2&&&["_law_x","_law_y","_law_cell_here","_law_most"]) (X9 K):=by
 exists F.ok lv
 ·let#[x,y,m,c,rfl,hc,hm1,hm9,q]:=h
  refine#[_,(zg (zE 4 lv.nd (zq zC ze (zq yq (cl0 gK hr .nil rfl (za (pv 2) (za ze zd))) ze))) (zg (zE 5 lv.nd (zq zC ze (zq yq (cl0 gK hr .nil rfl (za (pv 2) (za ze zd))) (pv 3)))) (zg (zE 6 lv.nd (zX (za (zy (za (pv 0) (za (zq yj (pv 1) (pv 4)) zd))) (za (zy (za (zq yj (pv 0) (pv 5)) (za zO zd))) zd)))) (zg (zE 7 lv.nd (zX (za (zk ix_list (pv 6) ze) (za (zy (za (zq yj (pv 1) (zq yj (pv 4) (pv 5))) (za zO zd))) zd)))) (zg (zS (zB zdR (zq yj (pv 4) (pv 5)) ze (zF _)) (zh (zE 7 lv.nd (zX (za (zk ix_list (pv 7) ze) (za (zk ix_list (pv 7) ze) zd)))))
    zv) (zh (zp (zy (za (pv 6) (za (pv 7) (za (zq yj (pv 4) (pv 5)) zd))))))))))),?_]
  have s16:=yb;change H'=H/\∃k:Nat,k ∈ [2,3,4]/\σ=%[tE ⇑[x],tE ⇑[y],~~~!c,-~~~m,-~~~k|3]
  ·rfl'
   exact zW hc ∅ ∅ λz hz=>#[_,rfl,∅,rfl,(2+z % 3).toNat,by erw[be,bc,or_false];lia,⋯]
  rintro σ H1 ⟨rfl,k,hk,rfl⟩:_;have hk4:2<=k/\k<=4:=by erw[be,bc,or_false]at hk;lia
  right;change H'=H1/\∃n:Nat,(2<=n/\n<2+m)/\σ=%[tE ⇑[x],tE ⇑[y],~~~!c,-~~~m,-~~~k,-~~~n|2]
  ·rfl'
   refine zW hc ∅ ∅ λz hz=>?_;have e1:=cG z (b:=(m:Int)) ⋯;have e2:=cE z (b:=(m:Int)) ⋯;refine#[_,rfl,⋯,?_];generalize z % (m:Int)=t at e1 e2;exact#[rfl,(2+t).toNat,⋯,⋯]
  rintro σ H1 ⟨rfl,n,hn,rfl⟩:_;have hkn:k * n<=4 * 40:=eJ hk4.2 ⋯;have em:((k:Nat):Int) * ((n:Nat):Int)=((k * n:Nat):Int):=(fG _ _).symm;right;change Same H1 H'/\∃pa p0:pC,∃p1:pC,(H' pa=tE (.lst [.ref p0,.ref p1])/\H' p0=tE (.tup [⇑[x],⇑(af k y)])/\H' p1=tE (.tup [⇑(af n x),⇑[]]))/\σ=[tE ⇑[x],tE ⇑[y],~~~!c,-~~~m,-~~~k,-~~~n,!!pa,tF]
  ·rfl'
   erw[uL,aR,bf]
   refine#[⋯,⋯,∅,⋯,λp hp=>#[⋯,⋯,∅,⋯,λp1 hp1=>#[⋯,λp2 hp2=>?_]]];have t0:=zc (o:=.tup [⇑[x],⇑(af k y)]) hp;have t1:=zc (o:=.tup [⇑(af n x),⇑[]]) hp1;have t2:=zc (o:=.lst [.ref p,.ref p1]) hp2;exact#[t0.trans (t1.trans t2),p2,p,p1,zb,t2 _ _ (t1 _ _ zb),t2 _ _ zb,rfl]
  rintro σ H2 ⟨s2,pa,p0,p1,⟨hpa,hp0,hp1⟩,rfl⟩:0;change Same H2 H'/\∃du p2:pC,(H' du=tE (.lst [.ref p0,.ref p2])/\H' p2=tE (.tup [⇑(af (k * n) y),⇑[]]))/\σ=[tE ⇑[x],tE ⇑[y],~~~!c,-~~~m,-~~~k,-~~~n,!!pa,!!du]
  ·rfl'
   rw[em]
   erw[uL,aR,bf]
   refine#[_,x6 hpa,_,rfl,.inl #[⋯,⋯],⋯,⋯,∅,⋯,λp hp=>#[⋯,λp2 hp2=>?_]];have t1:=zc (o:=.tup [⇑(af (k * n) y),⇑[]]) hp;have t2:=zc (o:=.lst [.ref p0,.ref p]) hp2;exact#[t1.trans t2,p2,p,zb,t2 _ _ zb,rfl]
  rintro σ H3 ⟨s3,du,p2,⟨hdu,hp2⟩,rfl⟩:0;change Same H3 H'/\∃du:pC,LsA K H' du (((uo k n).map (mp (nmL [x,y]))).map dR)/\σ=[tE ⇑[x],tE ⇑[y],~~~!c,-~~~m,-~~~k,-~~~n,!!pa,!!du]
  ·rfl'
   rw[em];rw[(zal k n).2];refine#[.inl #[⋯,⋯],yC (λh=>#[_,x6 hdu,_,rfl,_,x6 hdu,_,rfl,⋯,λp hp=>#[zc hp,?_]]) λh=>#[ja3 _,?_]]
   ·have t1:=zc (o:=.lst [.ref p2,.ref p0]) hp;rw[z6 ⋯];exact#[_,zb,zL (r:=(af (k * n) y,[])) (t1 _ _ hp2) (zL (r:=([x],af k y)) (t1 _ _ (s3 _ _ hp0)) xJ)]
   ·rw[z9 ⋯];exact#[_,hdu,zL (r:=([x],af k y)) (s3 _ _ hp0) (zL (r:=(af (k * n) y,[])) hp2 xJ)]
  rintro σ H4 ⟨s4,du',hD,rfl⟩:0
  rfl'
  rw[em];refine#[.inl #[⋯,⋯],⋯,λp hp=>q k n pa du' p _ hk hn.1 hn.2 (s2.trans (s3.trans (s4.trans (zc hp)))) ?_ (hD.same (zc hp)) zb];have t:=s3.trans (s4.trans (zc (o:=.tup [.ref pa,.ref du',.int ((k * n:Nat):Int)]) hp));rw[(zal k n).1];exact#[_,t _ _ hpa,zL (r:=([x],af k y)) (t _ _ hp0) (zL (r:=(af n x,[])) (t _ _ hp1) xJ)]
def Vy{w:()}{i:Nat}(h:zU [] w i):i=0:=kW h.live h.end_ (λi hi=>y9 hi (bR i)) (by unfold zA xl wN;simp)
def zfl(w:()):zU [] w 0:=#[λi hi=>y9 hi (bR i),by show zA w []=tF;unfold zA xl wN;simp,aw _]
def zdq(e:Ent):yo [] e 0 0=e:=by unfold yo;show (e.1,e.2.1,[] ++ e.2.2 ++ [])=e;rw[bz,aV]
theorem Wz{k n:Nat}{l:()}{ns:List Int}{e:Ent}{r:Option (List Ent)}(hne:e.1≠e.2.1)(h1:e.1.length<=60)(h2:e.2.1.length<=60)(hr:zQ k l ns (zQ k l ns e)=zQ k l ns e)(h:wH k l ns (n+1) [e] r):r=if 240<e.2.2.length then tF else tE [zQ k l ns e]:=by
 have raw:vS k l ns [e]=[zQ k l ns e]:=by
  unfold vS;rw[bD ↥hne];rfl
 have lin:∀{zs},Lined k l ns [e] zs->zs=[zQ k l ns e]:=λ{zs} h=>List.perm_singleton.mp (raw ▸ h.perm)
 have len:(zQ k l ns e).2.2.length=e.2.2.length:=by
  unfold zQ;split
  ·rfl
  ·exact yg _
 have l1:(zQ k l ns e).1.length<=60/\(zQ k l ns e).2.1.length<=60/\(zQ k l ns e).1≠(zQ k l ns e).2.1:=by
  unfold zQ;split
  ·exact#[h1,h2,hne]
  ·exact#[h2,h1,hne.symm]
 have bld:∀{q},xq k l ns [] [zQ k l ns e] q->q=if 240<e.2.2.length then tF else tE [zQ k l ns e]:=λ{q} h=>by
  have farI:uY (zQ k l ns e) ↔ 240<e.2.2.length:=by
   unfold uY;rw[len];lia
  generalize hx:zQ k l ns e=x at *
  cases h with
  | same a b c d =>
   cases Vy a;cases Vy b;exact y9 c l1.2.2
  | new a b c d g =>
   cases Vy a;cases Vy b;rw[zdq]at d g;rw[z9 λz=>d (farI.mpr z)];rw[bz,hr]at g;cases g;rfl
  | far a b c d =>
   cases Vy a;cases Vy b;rw[zdq]at d;rw[z6 (farI.mp d)]
  | stuck a=>rcases a with a | a <;> exact y9 (zfl _) (a 0)
 cases h with
 | bad a b =>
  cases lin a;exact bld b
 | done a b c =>
  cases lin a;exact bld b
 | more a b c d =>
  cases lin a;have:=bld b;split at this
  ·cases this
  ·cases this;exact y9 rfl c
def swS(m:Nat):List Stp:=(aN (m - 1)).map (λk=>((0:Int),(0:Int),decide (k % 2=0))) ++ [if 1<m then (0,1,tG)else (0,0,tG)]
def swW(x y m:Nat):():=if 1<m then [if (m - 1) % 2=0 then x else y,y]else [y,x]
def swB(x y m:Nat):Ent:=(swW x y m,[x,x],yh (swS m))
def je{m:Nat}(h:1<=m):(swS m).length=m:=by unfold swS;rw[aq,aa,cu];show m - 1+1=m;lia
theorem zag(x y:Nat):∀n,yc [([x],[y])] [x,x] ((aN n).map λk=>((0:Int),(0:Int),decide (k % 2=0)))=tE [if n % 2=0 then x else y,x]
 | 0=>rfl
 | n+1=>by
  rw[cq,ar,xw,zag x y n];show (yc _ _ [((0:Int),(0:Int),decide (n % 2=0))])=_;rcases (show n % 2=0\/n % 2=1 by lia)with h | h
  ·have h':(n+1) % 2=1:=⋯;simp [h,h',yc,yf,zt,sdl,yM]
  ·have h':(n+1) % 2=0:=⋯;simp [h,h',yc,yf,zt,sdl,yM]
def zbN(x y m:Nat)(h:1<=m):yc [([x],[y])] [x,x] (swS m)=tE (swW x y m):=by
 unfold swS swW;rw[xw,zag];by_cases h1:1<m
 ·rw[z6 h1,z6 h1];rcases (show (m - 1) % 2=0\/(m - 1) % 2=1 by lia)with h | h <;> simp [h,yc,yf,zt,sdl,yM]
 ·rw[z9 h1,z9 h1,show m - 1=0 by lia];simp [yc,yf,zt,sdl,yM]
def zfn(x y m:Nat):swW x y m=(swW 0 1 m).map (nmL [x,y]):=by
 unfold swW;split
 ·split <;> rfl
 ·rfl
def zb5{x y:Nat}(hxy:x≠y)(m:Nat):zJ 0 [x,y] [1,1] [x,x] (swW x y m)=tG/\zJ 0 [x,y] [1,1] (swW x y m) [x,x]=tH:=by have hf:=vQ (l:=[x,y]) (by simp [hxy]);have e1:=wB hf 0 [0,1] [1,1] [0,0] (swW 0 1 m);have e2:=wB hf 0 [0,1] [1,1] (swW 0 1 m) [0,0];rw[<- zfn]at e1 e2;refine#[e1.trans ?_,e2.trans ?_] <;> (unfold swW; (repeat' split) <;> decide)
def Xo(x y m:Nat):(swW x y m).length=2:=by unfold swW;split <;> rfl
def zau(x y m:Nat):∀c ∈ swW x y m,c ∈ [x,y]:=by unfold swW; (repeat' split) <;> simp
def zas{x y:Nat}(hxy:x≠y)(m:Nat):[x,x]≠swW x y m:=by unfold swW; (repeat' split) <;> simp [hxy,hxy.symm]
def swH(x y m:Nat)(b:Bool):Ent:=if b then swB x y m else ([x,x],swW x y m,swS m)
def Uz{x y m:Nat}(hxy:x≠y)(hm:1<=m){b:Bool}{r:Option (List Ent)}(h:wH 0 [x,y] [1,1] 20 [swH x y m b] r):r=if 240<m then tF else tE [swB x y m]:=by
 let#[l1,l2]:=zb5 hxy m
 have r1:zQ 0 [x,y] [1,1] (swB x y m)=swB x y m:=by
  unfold zQ;rw[z6];exact l1
 have r2:zQ 0 [x,y] [1,1] ([x,x],swW x y m,swS m)=swB x y m:=by
  unfold zQ;rw[z9]
  ·rfl
  ·show ¬ zJ 0 [x,y] [1,1] (swW x y m) [x,x]=tG;rw[l2];decide
 have wl:=Xo x y m;cases b
 ·have h':wH 0 [x,y] [1,1] 20 [([x,x],swW x y m,swS m)] r:=h;have:=Wz (zas hxy m) (by show 2<=60;decide) (by show (swW x y m).length<=60;lia) (by rw[r2,r1]) h';rw[r2]at this;rw[this];show (if 240<(swS m).length then _ else _)=_;rw[je hm]
 ·have h':wH 0 [x,y] [1,1] 20 [swB x y m] r:=h;have:=Wz (zas hxy m).symm (by show (swW x y m).length<=60;lia) (by show 2<=60;decide) (by rw[r1,r1]) h';rw[r1]at this;rw[this];show (if 240<(yh (swS m)).length then _ else _)=_;rw[yg,je hm]
def Xn{H:Hp}{D p:pC}{ds:List L3.D}{d:L3.D}{xs:List V}{o:HO}(hH:H D=tE (.lst xs))(hI:Iss K H ds xs)(hp:H p=tF)(f:z8 ds)(fd:xv d)(hd:Is K (upd H p o) d (.ref p)):Iss K (upd (upd H p o) D (.lst (xs ++ [.ref p]))) (ds ++ [d]) (xs ++ [.ref p]):=by have u2:=zc (o:=o) hp;let#[ys,hY,hV]:=LsA.snoc (u2 _ _ hH) (ja1 u2 _ _ hI) f fd hd;rw[zb]at hY;cases hY;exact hV
def Qh(t:Stp):xv (dSt t):=by erw[dSt,xv,z8,and_self]
def Wb(K:pB):Sp:=λvs H Q Z=>∃(x y m:Nat),vs=[⇑[x],⇑[y],.int (m:Nat)]/\1<=m/\m<=300/\∀(p S:pC) (H':Hp),Same H H'->H' p=tE (.tup [⇑[x,x],⇑(swW x y m),.ref S])->LsA K H' S ((swS m).map dSt)->Q (.ref p) H'
def lb:sQz 3 ["_law_x","_law_y","_law_many","_law_steps_here","_law_last","_law_word"] qx:=by nofun
def Qk{f:pC}{fd:pT}(B:Bt mg)(F:("_law_swings"^^^qx)) :(1&&&["_law_x","_law_y","_law_many"]) (Wb K):=by
 exists F.ok lb
 ·let#[x,y,m,rfl,hm1,hm3,q]:=h
  refine#[_,(zg (vO (i:=3) lb.nd rfl (.inl rfl) (.inl rfl) (own:=["_law_k"]) (caps:=[]) (ix:=[]) (tt:=xy) (te:=(Zo (zI (tC (.int 0)) (zI (tC (.int 0)) (zI (tOp rEq (tOp (rI (λZ j=>0<j) λi j=>.int (i % j)) (z7 0) (tC (.int 2))) (tC (.int 0))) xp))))) rfl (zM (sc:=zi qx) rfl (!0) (!0) (!0) rfl (!0) (!0) rfl) (wc rfl B.range (za (zq vD (pv 2) ze) zd)) (λZ Z Z Z Z Z=>zr (i:=0) (show List.Nodup [_] by decide) rfl (.inl rfl)) (λZ Z Z Z Z Z=>zY) (λZ Z Z Z Z Z=>(zy (za ze (za ze (za (yB xL (zq yq (pv 0) ze) ze (zF _)) zd)))))) (zg (zS (zB uT (pv 2) ze (zF _)) (zZ (zE 4 lb.nd (zy (za ze (za ze (za yA zd))))) (zh (zE 5 lb.nd (zq zC (zk ix_list (zX (za (pv 0) (za (pv 1) zd))) (zq yq (zq vD (pv 2) ze) ze)) (pv 1))))) (zZ (zE 4 lb.nd (zy (za ze (za ze (za yA zd))))) (zh (zE 5 lb.nd (zq zC (pv 1) (pv 0)))))) (zh (zp (zy (za (zq zC (pv 0) (pv 0)) (za (pv 5) (za (zq zC (pv 3) (zX (za (pv 4) zd))) zd)))))))),?_]
  have s16:=yb;change Same H H'/\∃S:pC,LsA K H' S (((aN (m - 1)).map λk=>((0:Int),(0:Int),decide (k % 2=0))).map dSt)/\σ=%[tE ⇑[x],tE ⇑[y],-~~~m,!!S|2]
  ·rfl'
   refine#[⋯,⋯,λD hD=>CompR.by (λi tK H'=>Same H H'/\H' D=tE (.lst tK)/\Iss K H' (((aN i).map λk=>((0:Int),(0:Int),decide (k % 2=0))).map dSt) tK) #[zc hD,zb,by erw[List.range_zero,aA,Iss]] ?_ ?_]
   ·refine nm3 ?_;rintro i tK H' hi ⟨hs,hH,hI⟩:_;have hal:=hI.len;rw[aa,aa,cu]at hal;right
    erw[xy]
    rfl'
    rw[show decide ((0+(i:Int)) % 2=0)=decide (i % 2=0)from decide_eq_decide.mpr ⋯];refine#[yJ,∅,⋯,λp hp=>#[zc hp _ _ hH,⋯,x9 hi #[zH (hs.trans (zc hp)) hD,zb,?_]]];rw[cq,ar,ar];exact Xn hH hI hp (wq _) (Qh (0,0,decide (i % 2=0))) (vE (x8 zb))
   ·refine nmB ?_;rintro tK H' ⟨hs,hH,hI⟩:_;rw[show ((m:Int) - 1).toNat=m - 1 by lia]at hI;right;exact#[hs,D,#[tK,hH,hI],rfl]
  rintro σ H1 ⟨s1,S,hS,rfl⟩:0;change Same H1 H'/\∃t:pC,H' t=tE (.tup [.int 0,.int (if 1<m then 1 else 0),.bl tG])/\σ=[tE ⇑[x],tE ⇑[y],-~~~m,!!S,!!t,tE ⇑(swW x y m)]
  ·rfl'
   have sz:pA=16777216:=s16;refine yC (λh=>#[⋯,λp hp=>#[⋯,λp1 hp1=>#[∅,_,x6 zb,⇑[if (m - 1) % 2=0 then x else y],?_,?_]]]) λh=>#[⋯,λp hp=>#[⋯,zc hp,p,?_,rfl,?_]]
   ·rcases (show ((m:Int) - 1) % 2=0/\(m - 1) % 2=0\/((m:Int) - 1) % 2=1/\(m - 1) % 2=1 by lia)with ⟨e1,e2⟩ | ⟨e1,e2⟩
    ·rw[e1,e2];rfl
    ·rw[e1,e2];rfl
   ·have t1:=zc (o:=.tup [.int 0,.int 1,.bl tG]) hp;have t2:=zc (o:=.lst [⇑[x],⇑[y]]) hp1
    rfl'
    refine#[⋯,t1.trans t2,p,?_,rfl,?_]
    ·rw[z6 ⋯];exact t2 _ _ zb
    ·unfold swW;rw[z6 (c:=1<m) ⋯]
   ·rw[z9 ⋯];exact zb
   ·unfold swW;rw[z9 ⋯]
  rintro σ H2 ⟨s2,t,ht,rfl⟩:0
  rfl'
  let#[xs,hX,hI]:=id (hS.same s2);have hal:=hI.len;rw[aa,aa,cu]at hal;refine#[⋯,⋯,λp hp=>#[xs,zc hp _ _ hX,[.ref t],zb,by erw[aJ,ci];lia,λp1 hp1=>#[⋯,λp2 hp2=>q p2 p1 _ ?_ zb ?_]]]
  ·exact s1.trans (s2.trans ((zc hp).trans ((zc hp1).trans (zc hp2))))
  ·have t1:=(zc (o:=.lst [.ref t]) hp).trans ((zc (o:=.lst (xs ++ [.ref t])) hp1).trans (zc (o:=.tup [⇑[x,x],⇑(swW x y m),.ref p1]) hp2));refine#[_,zc hp2 _ _ zb,?_];unfold swS;rw[ar];refine (ja1 t1 _ _ hI).append ?_;have ht':=t1 _ _ ht;rw[ak,aA];refine qK ?_;by_cases h:1<m
   ·rw[z6 h]at ht' ⊢;exact vE (x8 ht')
   ·rw[z9 h]at ht' ⊢;exact vE (x8 ht')
def Y9{H:Hp}{p S:pC}{e:Ent}(hp:H p=tE (.tup [⇑e.1,⇑e.2.1,.ref S]))(hS:LsA K H S (e.2.2.map dSt)):EnA K H e (.ref p):=#[p,S,rfl,x8 hp,hS]
def WW{H:Hp}{a:pC}{e:Ent}{v:V}(ha:H a=tE (.lst [v]))(h:EnA K H e v):EnsM K H a [e]:=#[[v],ha,v,[],rfl,h,rfl]
def Uu(K:pB)(TB:pC):Sp:=λvs H Q Z=>∃(x y:Nat) (c:Int),vs=[⇑[x],⇑[y],.int c]/\wG [x,y]=tG/\ub c/\TabOk H TB lp lq/\∀H',Q (.bl tG) H'
def gU:sQz 3 ["_law_x","_law_y","_law_cell_here","_law_many","_law_entry","_law_back_told","_law_handed","_law_found","_law_refused"] xP:=by nofun
def Zt{f CO CR CW TB:pC}{fd:pT}(B:Bt mg)(T:TWS P w K mg base CO CR CW)(F:("_law_long_chain"^^^xP))(oS:(1<<<"_law_swings") ["_law_x","_law_y","_law_many"] [] (Wb K))(iP:(8<<<"_law_thinned") ["_law_order","_law_entries_here"] [] (qt K CO CR CW TB))(gK:(1<<<"_law_mixed") ["_law_cell_here","_law_turn"] [] xx)(ik:(4<<<"_law_due_list") ["_law_found","_law_pairs","_law_pacts"] [] (jk K)):(9&&&["_law_x","_law_y","_law_cell_here"]) (Uu K TB):=by
 exists F.ok gU
 ·let#[x,y,c,rfl,hg,hc,hTab,q]:=h
  refine#[_,(zg (zE 3 gU.nd (zq zC ze (zq yq (cl0 gK hr .nil rfl (za (pv 2) (za ze zd))) ze))) (zg (zS (zB xL (zq yq (cl0 gK hr .nil rfl (za (pv 2) (za ze zd))) ze) ze (zF _)) (zh (zE 3 gU.nd (zq zC ze (zq yq (cl0 gK hr .nil rfl (za (pv 2) (za ze zd))) ze))))
    zv) (zg (zE 4 gU.nd (cl0 oS hr .nil rfl (za (pv 0) (za (pv 1) (za (pv 3) zd))))) (zg (zE 5 gU.nd (zy (za (!-4) (za (!-4) (za (xf (own:=["_law_step"]) (caps:=[]) (ix:=[]) (tt:=xy) (te:=(Zo (zI (tOp (xO K) (z7 0) (tC (.int 0))) (zI (tOp (xO K) (z7 0) (tC (.int 1))) (zI (Xi (tOp (xO K) (z7 0) (tC (.int 2)))) xp))))) rfl (zM (sc:=zi xP) rfl (!0) (!0) (!0) rfl (!0) (!0) rfl) (K4 rfl B.rev (za (!-4) zd)) (λZ Z Z Z Z Z=>zr (i:=0) (show List.Nodup [_] by decide) rfl (.inl rfl)) (λZ Z Z Z Z Z=>zY) (λZ Z Z Z Z Z=>(zy (za (!-0) (za (!-0) (za (jF (!-0)) zd)))))) zd))))) (zg (zE 6 gU.nd (zk ix_list (zX (za (pv 4) (za (pv 5) zd))) (zq yq (cl0 gK hr .nil rfl (za (pv 2) (za ze zd))) ze))) (zg (jv (cl0 iP hr .nil rfl (za (mkC T.mO hr rfl T.gO (za (zq zC (pv 0) (pv 1)) zd)) (za (zX (za (pv 6) zd)) zd))) (wF (n:=2) rfl (zK (zr (i:=7) gU.nd rfl (.inl rfl)) (zK (zr (i:=8) gU.nd rfl (.inl rfl)) yV)))) (zg (zS (zB uT (pv 3) ze (zF _)) (zh (zp (va (pv 8) (w9 (yB op_isN' (pv 7) xj (zF _))))))
    zv) (zg (zS (PW.pt (w4 (yU (pv 8) (λZ=>rfl)) (wY (yl (yU (cl0 ik hr .nil rfl (za (pv 7) (za (zX (za (zy (za (!-4) (za (!-4) zd))) zd)) (za (zX (za (zy (za (pv 0) (za (pv 1) zd))) zd)) zd)))) (λZ=>rfl)))))) (zh (zp yA))
    zv) (zh (zp (yB (X7 (uJ hr)) (zk v9 (zk ix_list (pv 7) ze) ze) (!-5) (zF _)))))))))))),?_]
  have s16:=yb;have hn:=(y3 hg).2.2.2;have hxy:x≠y:=by simpa using hn
  change H'=H/\∃m:Nat,(1<=m/\m<=300)/\σ=%[tE ⇑[x],tE ⇑[y],~~~!c,-~~~m|5]
  ·rfl'
   exact zW hc ∅ ∅ λz hz=>#[_,rfl,∅,rfl,(231+z % 21).toNat,⋯,⋯]
  rintro σ H1 ⟨rfl,m0,hm0,rfl⟩:0;change H'=H1/\∃m:Nat,(1<=m/\m<=300)/\σ=%[tE ⇑[x],tE ⇑[y],~~~!c,-~~~m|5]
  ·rfl'
   exact zW hc ∅ ∅ λz hz=>#[_,rfl,∅,yC (λZ=>zW hc ∅ ∅ λz hz=>#[_,rfl,∅,rfl,(1+z % 300).toNat,⋯,⋯]) λZ=>#[rfl,m0,hm0.1,hm0.2,rfl]]
  rintro σ H1 ⟨rfl,m,⟨hm1,hm3⟩,rfl⟩:0;change Same H1 H'/\∃e S:pC,(H' e=tE (.tup [⇑[x,x],⇑(swW x y m),.ref S])/\LsA K H' S ((swS m).map dSt))/\σ=%[tE ⇑[x],tE ⇑[y],~~~!c,-~~~m,!!e|4]
  ·rfl'
   exact#[x,y,m,rfl,hm1,hm3,λp S H' s' hp hS=>#[s',p,S,hp,hS,rfl]]
  rintro σ H2 ⟨s2,e,S,⟨he,hS⟩,rfl⟩:0;change Same H2 H'/\∃b B:pC,(H' b=tE (.tup [⇑(swW x y m),⇑[x,x],.ref B])/\LsA K H' B ((yh (swS m)).map dSt))/\σ=%[tE ⇑[x],tE ⇑[y],~~~!c,-~~~m,!!e,!!b|3]
  ·rfl'
   let#[ts,hTs,hJ]:=id hS;have htl:=hJ.len;rw[aa]at htl;have hbl:(yh (swS m)).length=(swS m).length:=yg _;have hsl:=je hm1;refine#[_,x8 he,_,rfl,_,x8 he,_,rfl,_,x8 he,_,rfl,S,rfl,ts,x6 hTs,λD hD=>CompV.by (xs:=ts) (λi tK H'=>Same H2 H'/\H' D=tE (.lst tK)/\Iss K H' (((yh (swS m)).take i).map dSt) tK) #[zc hD,zb,by erw[bi,aA,Iss]] (λi tK H' Z h=>x6 (h.1 _ _ hTs)) ?_ ?_]
   ·refine nm4 ?_;rintro i z tK H' hx ⟨hs,hH,hA⟩:_;have hi:i<ts.length:=by have:=(tL.mp hx).1;simpa using this
    rw[bx hi]at hx;let#[s',ps,hsi,rfl,hqs]:=vo hJ hx;have hsr:(swS m).reverse[i]? = tE s':=by rw[bx ⋯,<- hsi,htl]
    have hal:=hA.len;rw[aa,aF]at hal;right
    erw[xy]
    rfl'
    refine#[yJ,_,zl hs hqs,_,rfl,_,zl hs hqs,_,rfl,_,zl hs hqs,_,rfl,_,rfl,⋯,λp hp=>#[zc hp _ _ hH,⋯,x9 hi #[zH (hs.trans (zc hp)) hD,zb,?_]]];rw[Qx hsr,ar];exact Xn hH hA hp (wq _) (Qh (bk s')) (vE (x8 zb))
   ·refine nmB ?_;rintro tK H' ⟨hs,hH,hA⟩:_;rw[htl,<- hbl,aI]at hA;right;exact#[⋯,λp hp=>#[hs.trans (zc hp),p,D,zb,LsA.same #[tK,hH,hA] (zc hp),rfl]]
  rintro σ H3 ⟨s3,b,Bk,⟨hb,hBk⟩,rfl⟩:_;have s13:Same H1 H3:=s2.trans s3;right;change Same H3 H'/\∃hd:pC,(∃bb:Bool,EnA K H' (swH x y m bb) (.ref hd))/\σ=%[tE ⇑[x],tE ⇑[y],~~~!c,-~~~m,!!e,!!b,!!hd|2]
  ·rfl'
   refine#[⋯,λp hp=>zW hc ∅ ∅ λz hz=>#[_,rfl,∅,_,x6 zb,?_]];have t1:=zc (o:=.lst [.ref e,.ref b]) hp;rcases (show z % 2=0\/z % 2=1 by lia)with h | h <;> rw[h]
   ·exact#[.ref e,rfl,t1,e,#[tH,Y9 (e:=([x,x],swW x y m,swS m)) (t1 _ _ (s3 _ _ he)) ((hS.same s3).same t1)],rfl]
   ·exact#[.ref b,rfl,t1,b,#[tG,Y9 (e:=swB x y m) (t1 _ _ hb) (hBk.same t1)],rfl]
  rintro σ H4 ⟨s4,hd,⟨bb,hE⟩,rfl⟩:0;change ∃(fv:V) (rb:Bool),(H' e=tE (.tup [⇑[x,x],⇑(swW x y m),.ref S])/\H' b=tE (.tup [⇑(swW x y m),⇑[x,x],.ref Bk])/\LsA K H' Bk ((yh (swS m)).map dSt)/\((240<m/\fv=.non/\rb=tG)\/(m<=240/\rb=tH/\∃D:pC,fv=.ref D/\EnsM K H' D [swB x y m])))/\σ=[tE ⇑[x],tE ⇑[y],~~~!c,-~~~m,!!e,!!b,!!hd,tE (fv),tE (.bl rb)]
  ·rfl'
   refine#[⋯,λz dx hz hdx hne=>?_];have sd:=zc (o:=.own z) hdx
   have sx:Same H4 (upd (upd (upd H4 dx (.own z)) z (.ins CO dx [])) z (.ins CO dx [("letters",⇑[x,y])])):=λb o' e=>by
    rw[zm (zD e hz),zm (zD e hz)];exact sd _ _ e
   refine#[z,CO,dx,_,rfl,hg,T.cO,T.lO,zb,rfl,⋯,λpl hpl=>?_];have sl:=zc (o:=.lst [.ref hd]) hpl;have sa:=sx.trans sl;have hT3:=(hTab.same (s13.trans s4)).same sa;let#[tp,htp,_]:=id hT3;have hG:OG [x,y] [1,1] 0:=#[hg,∅,rfl,by simp];have hw:=Xo x y m;have hsl:=je hm1
   have hEB:∀e ∈ [swH x y m bb],EB [x,y] e:=λe he=>by
    rw[tP.mp he];unfold swH;split
    ·exact#[by show (swW x y m).length<=60;lia,by show 2<=60;decide,by show (yh (swS m)).length<=600;rw[yg];lia,zau x y m,by simp [swB]]
    ·exact#[by show 2<=60;decide,by show (swW x y m).length<=60;lia,by show (swS m).length<=600;lia,by simp,zau x y m]
   refine#[z,pl,0,[x,y],[1,1],[swH x y m bb],rfl,OrdAt.same #[dx,.inl #[rfl,zb]] sl,hG,(WW zb (hE.same sa)).l,by show 1<64;decide,hEB,hT3,λhT0 p H'' sT hp=>?_,λfs D' p H'' hT1 hBG sT hM' hp=>?_]
   ·have e:=Uz hxy hm1 hT0
    have h24:240<m:=bg λz=>by
     rw[z9 z]at e;cases e
    exact#[_,rfl,_,x8 hp,rfl,_,_,rfl,_,_,rfl,rfl,sT.at htp (sa _ _ (s4 _ _ (s3 _ _ he))) (λZ z=>by cases z),sT.at htp (sa _ _ (s4 _ _ hb)) (λZ z=>by cases z),((hBk.same s4).same sa).samT sT htp,_,_,.inl #[h24,rfl,rfl],rfl,rfl]
   ·have e:=Uz hxy hm1 hT1
    have h24:¬ 240<m:=λz=>by
     rw[z6 z]at e;cases e
    rw[z9 h24]at e;cases e;exact#[_,rfl,_,x8 hp,rfl,_,_,rfl,_,_,rfl,rfl,sT.at htp (sa _ _ (s4 _ _ (s3 _ _ he))) (λZ z=>by cases z),sT.at htp (sa _ _ (s4 _ _ hb)) (λZ z=>by cases z),((hBk.same s4).same sa).samT sT htp,_,_,.inr #[⋯,rfl,D',rfl,hM'],rfl,rfl]
  rintro σ H5 ⟨fv,rb,⟨he5,hb5,hB5,hc5⟩,rfl⟩:0;change H'=H5/\m<=240/\σ=[tE ⇑[x],tE ⇑[y],~~~!c,-~~~m,!!e,!!b,!!hd,tE (fv),tE (.bl rb)]
  ·rfl'
   refine yC (λh=>?_) λh=>by lia
   rcases hc5 with ⟨_,rfl,rfl⟩ | ⟨h',_⟩
   ·exact yC (λZ=>q _) λz=>y9 rfl z
   ·lia
  rintro σ H5 ⟨rfl,h24,rfl⟩:0;rcases hc5 with ⟨h,_⟩ | ⟨_,rfl,D,rfl,hM⟩
  ·lia
  change Same H5 H'/\σ=[tE ⇑[x],tE ⇑[y],~~~!c,-~~~m,!!e,!!b,!!hd,!!D,tE (.bl tH)]
  ·rfl'
   refine#[_,x8 he5,_,rfl,_,x8 he5,_,rfl,⋯,λp hp=>#[⋯,λp1 hp1=>#[⋯,λp2 hp2=>#[⋯,λp3 hp3=>?_]]]];have t0:=zc (o:=.tup [⇑(swW x y m),⇑[x,x]]) hp;have t1:=zc (o:=.lst [.ref p]) hp1;have t2:=zc (o:=.tup [⇑[x],⇑[y]]) hp2;have t3:=zc (o:=.lst [.ref p2]) hp3;have hsl:=je hm1;have hw:=Xo x y m;refine#[D,p1,p3,[swB x y m],[([x],[y])],rfl,hM.same (t0.trans (t1.trans (t2.trans t3))),#[_,t3 _ _ (t2 _ _ zb),zL (r:=(swW x y m,[x,x])) (t3 _ _ (t2 _ _ (t1 _ _ zb))) xJ],#[_,zb,zL (r:=([x],[y])) (t3 _ _ zb) xJ],#[by show 1<=30;decide,λr hr'=>?_],by show 1<=64;decide,λe he=>?_,λH' s'=>#[tG,rfl,ZO ((t0.trans (t1.trans (t2.trans t3))).trans s')]]
   ·rw[tP.mp hr'];simp
   ·rw[tP.mp he];exact#[by show (swW x y m).length<=60;lia,by show (yh (swS m)).length<=600;rw[yg];lia,wg (zbN x y m hm1)]
  rintro σ H6 ⟨s6,rfl⟩:0
  rfl'
  let#[xs,hX,v,r,rfl,#[p,s',rfl,hqp,hLp],hrn]:=id (hM.same s6);cases (show r=[]from hrn);have hLp:LsA K H6 s' ((yh (swS m)).map dSt):=hLp;exact#[_,x6 hX,_,rfl,p,rfl,_,hqp,_,rfl,_,x8 (s6 _ _ hb5),_,rfl,kA (.inl #[hLp.is,(hB5.same s6).is]) (bn (zce _) ∅) (by rw[xI];exact q _)]
def tenY:():=[1,1,1,1,1,1,1,1,1,1]
def setK:List (()):=[[0,0],tenY,tenY ++ [0],0::tenY]
def zca(u:()):Bool:=setK.contains u
def hvK(h:Int):Int:=if h<10 then 6 else if h=10 then 10 else 11
def lK(q:Bool):():=if q then [0,1]else [1,0]
def nK(q:Bool)(h:Int):List Int:=if q then [h,1]else [1,h]
def rK(p:Bool):zG:=if p then ([0,0],tenY)else (tenY,[0,0])
def zbS:∀q ∈ [tG,tH],∀h ∈ [(6:Int),10,11],∀p ∈ [tG,tH],∀r ∈ [0,1,2,3,4,5,6],isX (Uh zca (zJ 2 (lK q) (nK q h)) (r+1) [] [(rK p,1)]) (tH,[(([0,0],tenY),1)])=tG:=by symm
def zeq(hh:6<=h)(hu:zca u=tG)(hv:zca v=tG):zJ 2 (lK q) (nK q h) u v=zJ 2 (lK q) (nK q (hvK h)) u v:=by
 have W:∀z,zca z=tG->∀g:Int,jJ (lK q) (nK q g) z=(z.count 0:Int) * g+z.count 1:=λz Z g=>by
  cases q
  ·show (([(1,(1:Int)),(0,g)]).map λp=>(z.count p.1:Int) * p.2).sum=_
   erw[ak,aA,aX,eg]
   lia
  ·show (([(0,g),(1,(1:Int))]).map λp=>(z.count p.1:Int) * p.2).sum=_
   erw[ak,aA,aX,eg]
   lia
 have m:∀z,zca z=tG->((z.count 0:Int)=2/\(z.count 1:Int)=0)\/((z.count 0:Int)=0/\(z.count 1:Int)=10)\/((z.count 0:Int)=1/\(z.count 1:Int)=10):=λz hz=>by
  have:z ∈ setK:=by simpa [zca] using hz
  unfold setK at this
  erw[be,bc,or_false]at this
  rcases this with rfl | rfl | rfl | rfl <;> decide
 have key:(jJ (lK q) (nK q h) u=jJ (lK q) (nK q h) v ↔ jJ (lK q) (nK q (hvK h)) u=jJ (lK q) (nK q (hvK h)) v)/\(jJ (lK q) (nK q h) u<jJ (lK q) (nK q h) v ↔ jJ (lK q) (nK q (hvK h)) u<jJ (lK q) (nK q (hvK h)) v):=by
  rw[W u hu,W v hv,W u hu,W v hv]
  have hc:(h<10/\hvK h=6)\/(h=10/\hvK h=10)\/(10<h/\hvK h=11):=by
   unfold hvK;split
   ·exact .inl #[by assumption,rfl]
   ·split
    ·exact .inr (.inl #[by assumption,rfl])
    ·exact .inr (.inr #[⋯,rfl])
  rcases m u hu with ⟨a,b⟩ | ⟨a,b⟩ | ⟨a,b⟩ <;> rcases m v hv with ⟨c,d⟩ | ⟨c,d⟩ | ⟨c,d⟩ <;> rw[a,b,c,d] <;> rcases hc with ⟨e,e'⟩ | ⟨e,e'⟩ | ⟨e,e'⟩ <;> rw[e'] <;> lia
 have e:∀g z,zu 2 (lK q) (nK q g) z=jJ (lK q) (nK q g) z:=λg z=>rfl;unfold zJ;rw[e,e,e,e]
 erw[key.1,key.2]
def zfP{x y r:Nat}{h:Int}{q p w:Bool}{es:List Ent}(hxy:x≠y)(hh:6<=h)(hr:r<7)(hc:Cpl 2 ((lK q).map (nmL [x,y])) (nK q h) (r+1) [] (fEs [mp (nmL [x,y]) (rK p)] 1) w es):w=tH/\elL es=[(([x,x],tenY.map (nmL [x,y])),1)]:=by
  have hf:=vQ (l:=[x,y]) (by simp [hxy]);have hq:q ∈ [tG,tH]:=by cases q <;> simp
  have hp:p ∈ [tG,tH]:=by cases p <;> simp
  have hv:hvK h ∈ [(6:Int),10,11]:=by unfold hvK;split <;> (try split) <;> simp
  have:=(zdH (dm:=zca) (R:=[rK p]) hf (λu v hu hv=>(wB hf 2 (lK q) (nK q h) u v).trans (zeq hh hu hv)) hc (zdz (zbS q hq _ hv p hp r (by erw[be,bc,or_false];lia))));exact this
def jx{CO CR CW E1 x dx:pC}(hg:wG l=tG)(hwl:ws.length=l.length)(hwb:∀n ∈ ws,1<=n/\n<=1000000)(hE:H E1=tF)(hx:(upd H E1 (.lst (ws.map V.int))) x=tF)(hdx:(upd H E1 (.lst (ws.map V.int))) dx=tF)(q:∀H',Same H H'->OrdAt CO CR CW H' x 2 l ws->Q .non H'):qj K CW [.ref x,⇑l,.ref E1] (upd (upd (upd H E1 (.lst (ws.map V.int))) dx (.own x)) x (.ins CW dx [])) Q E:=by
 have se:=zc (o:=.lst (ws.map V.int)) hE;have sd:=zc (o:=.own x) hdx
 have k1:∀b o',(upd H E1 (.lst (ws.map V.int))) b=tE o'->(upd (upd (upd H E1 (.lst (ws.map V.int))) dx (.own x)) x (.ins CW dx [])) b=tE o':=λb o' e=>by
  rw[zm (zD e hx)];exact sd _ _ e
 exact#[x,dx,E1,l,ws,rfl,hg,x6 (k1 _ _ zb),hwl,hwb,zb,λw H' hw hwx kp ht hx'=>q _ (λb o' e=>kp b o' (zD (se _ _ e) hx) (k1 b o' (se _ _ e))) #[dx,.inr #[rfl,hwl,w,hx',ht]]]
def Ja(h:wG (x::y::t)=tG):x≠y/\wG [x,y]=tG/\wG [y,x]=tG:=by
 let#[h1,h2,h3,h4]:=y3 h;have hn:x≠y:=λe=>(tV.mp h4).1 (by rw[e];exact az);have hx:=h3 x az;have hy:=h3 y (av _ az);refine#[hn,y4 #[by simp,by simp,?_,by simp [hn]],y4 #[by simp,by simp,?_,by simp [hn.symm]]] <;>
 ·intro c hc
  erw[be,bc,or_false]at hc
  rcases hc with rfl | rfl <;> assumption
def zfB:R2:=λx y H Q=>∃a b,x=.bl a/\y=.bl b/\Q (.bl (a != b)) H
def zaB{X:Cx}:OpR X (pH .IsNot) zfB:=by intros x y v u Q I rx ry h;let#[a,b,rfl,rfl,q]:=h;cases rx;cases ry;exact PyProof.Rows.isnot_bool (zV I q rfl)
end
set_option tactic.hygienic true in
mutual section
def Qj{x y:Nat}{pp:Bool}{s:Stp}{w:()}(h:yc [mp (nmL [x,y]) (rK pp)] [x,x] [s]=tE w):s=(0,0,pp):=by
 have h:(yf [mp (nmL [x,y]) (rK pp)] [x,x] s).bind (λw'=>tE w')=tE w:=h;let#[a,b,c]:=s;unfold yf at h;split at h
 ·rename_i ha;have ha:0<=a/\a<1:=ha;obtain rfl:a=0:=⋯;split at h
  ·rename_i hs;have hs:=y3 hs;have h2:b+((sdl (mp (nmL [x,y]) (rK pp)) c).1.length:Int)<=2:=hs.2.1;have h0:0<=b:=hs.1;cases pp <;> cases c
   ·have h2:b+2<=2:=h2;obtain rfl:b=0:=⋯;rfl
   ·have h2:b+10<=2:=h2;lia
   ·have h2:b+10<=2:=h2;lia
   ·have h2:b+2<=2:=h2;obtain rfl:b=0:=⋯;rfl
  ·cases h
 ·cases h
theorem za7{x y:Nat}{pp:Bool}{es:List Ent}(h:elL es=[(([x,x],tenY.map (nmL [x,y])),1)])(ho:∀e ∈ es,EOk [mp (nmL [x,y]) (rK pp)] e):es=[([x,x],af 10 y,[(0,0,pp)])]:=by
 match es,h,ho with
 | [e],h,ho =>
  have h0:elE e=(([x,x],tenY.map (nmL [x,y])),1):=(List.cons.inj h).1;let#[a,b,ss]:=e;have h1:a=[x,x]:=congrArg (λz:EL=>z.1.1) h0;have h2:b=af 10 y:=congrArg (λz:EL=>z.1.2) h0;have h3:ss.length=1:=congrArg (λz:EL=>z.2) h0;subst h1 h2
  match ss,h3 with
  | [s],_=>rw[Qj (ho _ az)]
 | [],h,_=>cases h
 | _::_::_,h,_=>exact y9 (congrArg dU h) (by simp [elL])
def zfz{x y:Nat}{q p:Bool}:RIn ((lK q).map (nmL [x,y])) [mp (nmL [x,y]) (rK p)]:=λr hr=>by
 rw[tP.mp hr]
 have hm:∀c ∈ [x,y],c ∈ (lK q).map (nmL [x,y]):=λc hc=>by
  cases q
  ·show c ∈ [y,x];simpa [or_comm] using hc
  ·exact hc
 cases p
 ·exact#[by show 10<=60;decide,by show 2<=60;decide,λc hc=>hm c (av _ (by have:c ∈ af 10 y:=hc;rw[(tZ.mp this).2];exact az)),λc hc=>hm c (by have:c ∈ af 2 x:=hc;rw[(tZ.mp this).2];exact az)]
 ·exact#[by show 2<=60;decide,by show 10<=60;decide,λc hc=>hm c (by have:c ∈ af 2 x:=hc;rw[(tZ.mp this).2];exact az),λc hc=>hm c (av _ (by have:c ∈ af 10 y:=hc;rw[(tZ.mp this).2];exact az))]
def Wv(K:pB)(TB:pC):Sp:=λvs H Q Z=>∃(x y:Nat) (c r0:Int),vs=[⇑[x],⇑[y],.int c,.int r0]/\wG [x,y]=tG/\wG [y,x]=tG/\ub c/\TabOk H TB lp lq/\∀H',Q (.bl tG) H'
def lc:sQz 4 ["_law_x","_law_y","_law_cell_here","_law_rounds","_law_heavy","_law_order","_law_forth","_law_pact","_law_found"] VQ:=by nofun
def zaI{f CO CR CW TB:pC}{fd:pT}(B:Bt mg)(T:TWS P w K mg base CO CR CW)(TR:TTr K)(F:("_law_kept"^^^VQ))(gR:(10<<<"completed") ["order","pacts","rounds"] [] (jB K CO CR CW TB))(mX:(3<<<"_law_entries") ["_law_found"] [] (Y5 K))(gK:(1<<<"_law_mixed") ["_law_cell_here","_law_turn"] [] xx):(11&&&["_law_x","_law_y","_law_cell_here","_law_rounds"]) (Wv K TB):=by
 exists F.ok lc
 ·let#[x,y,c,r0,rfl,g1,g2,hc,hTab,q]:=h
  refine#[_,(zg (zE 4 lc.nd (zq zC ze (zq yq (cl0 gK hr .nil rfl (za (pv 2) (za ze zd))) ze))) (zg (zE 5 lc.nd (zeA xe0 T.mW hr rfl T.gW (za (zq zC (pv 0) (pv 1)) (za (zX (za (pv 4) (za ze zd))) zd)))) (zg (zS (zB xL (zq yq (cl0 gK hr .nil rfl (za (pv 2) (za ze zd))) ze) ze (zF _)) (zh (zE 5 lc.nd (zeA xe0 T.mW hr rfl T.gW (za (zq zC (pv 1) (pv 0)) (za (zX (za ze (za (pv 4) zd))) zd)))))
    zv) (zg (zE 6 lc.nd (yB xL (zq yq (cl0 gK hr .nil rfl (za (pv 2) (za ze zd))) ze) ze (zF _))) (zg (zE 7 lc.nd (zy (za (zq zC (pv 0) (pv 0)) (za (zq yj (pv 1) ze) zd)))) (zg (zS (yl (yU (pv 6) (λZ=>rfl))) (zh (zE 7 lc.nd (zy (za (zq yj (pv 1) ze) (za (zq zC (pv 0) (pv 0)) zd)))))
    zv) (zg (zE 8 lc.nd (cl0 gR hr .nil rfl (za (pv 5) (za (zX (za (pv 7) zd)) (za (zq yq (pv 3) ze) zd))))) (zg (zS (PW.pt (w4 (yl (yU (yN rfl B.isi (pv 8) rfl B.tuple jb1) (λZ=>rfl))) (w4 (zB Yd (zR B.len (pv 8)) ze (zF _)) (wY (zB zaB (!-8) yA (zF _)))))) (zh (zp yA))
    zv) (zh (zp (va (cl0 mX hr .nil rfl (za (!-8) zd)) (w9 (yB (X7 (uJ hr)) (!-8) (zX (za (zy (za (zq zC (pv 0) (pv 0)) (za (zq yj (pv 1) ze) (za (zX (za (zy (za ze (za ze (za (pv 6) zd)))) zd)) zd)))) zd)) (zF _)))))))))))))),?_]
  have s16:=yb;have hxy:x≠y:=by simpa using (y3 g1).2.2.2
  change H'=H/\∃h:Int,(6<=h/\h<=1000000)/\σ=%[tE ⇑[x],tE ⇑[y],~~~!c,~~~!r0,~~~!h|4]
  ·rfl'
   exact zW hc ∅ ∅ λz hz=>#[_,rfl,∅,rfl,6+z % 999995,⋯,⋯,rfl]
  rintro σ H1 ⟨rfl,h,⟨h6,hM⟩,rfl⟩:0;change Same H1 H'/\∃o:pC,OrdAt CO CR CW H' o 2 [x,y] [h,1]/\σ=%[tE ⇑[x],tE ⇑[y],~~~!c,~~~!r0,~~~!h,!!o|3]
  ·rfl'
   refine#[⋯,⋯,λp hp z dx hz hdx hne=>jx (ws:=[h,1]) g1 rfl (by simp;lia) hp hz hdx λH' s' ho=>#[rfl,s',ho]]
  rintro σ H2 ⟨s2,o1,ho1,rfl⟩:0;change Same H2 H'/\∃(o:pC),(∃qq:Bool,OrdAt CO CR CW H' o 2 ((lK qq).map (nmL [x,y])) (nK qq h))/\σ=%[tE ⇑[x],tE ⇑[y],~~~!c,~~~!r0,~~~!h,!!o|3]
  ·rfl'
   exact zW hc ∅ ∅ λz hz=>#[_,rfl,∅,yC (λZ=>#[⋯,⋯,λp hp z dx hz hdx hne=>jx (ws:=[1,h]) g2 rfl (by simp;lia) hp hz hdx λH' s' ho=>#[rfl,s',tH,ho]]) λZ=>#[ja3 _,tG,ho1]]
  rintro σ H3 ⟨s3,o,⟨qq,ho⟩,rfl⟩:0;change H'=H3/\∃pp:Bool,σ=%[tE ⇑[x],tE ⇑[y],~~~!c,~~~!r0,~~~!h,!!o,tE (.bl pp)|2]
  ·rfl'
   exact zW hc ∅ ∅ λz hz=>#[#[z,rfl],∅,rfl]
  rintro σ H3 ⟨rfl,pp,rfl⟩:0;change Same H3 H'/\∃P0:pC,H' P0=tE (.tup [⇑[x,x],⇑(af 10 y)])/\σ=[tE ⇑[x],tE ⇑[y],~~~!c,~~~!r0,~~~!h,!!o,tE (.bl pp),!!P0,tF]
  ·rfl'
   exact#[⋯,∅,∅,∅,⋯,λp hp=>#[zc hp,zb]]
  rintro σ H4 ⟨s4,P0,hP0,rfl⟩:0;change Same H4 H'/\∃P1:pC,H' P1=tE (.tup [⇑(mp (nmL [x,y]) (rK pp)).1,⇑(mp (nmL [x,y]) (rK pp)).2])/\σ=[tE ⇑[x],tE ⇑[y],~~~!c,~~~!r0,~~~!h,!!o,tE (.bl pp),!!P1,tF]
  ·rfl'
   cases pp
   ·exact yC (λZ=>#[∅,∅,∅,⋯,⋯,λp hp=>#[zc hp,zb]]) λz=>y9 rfl z
   ·exact yC (λz=>(nomatch z)) λZ=>#[ja3 _,hP0]
  rintro σ H5 ⟨s5,P1,hP1,rfl⟩:0;change ∃f' D:pC,(H' f'=tE (.tup [.bl tH,.ref D])/\EnsM K H' D [(([x,x]:()),(af 10 y,[((0:Int),(0:Int),pp)]))])/\σ=[tE ⇑[x],tE ⇑[y],~~~!c,~~~!r0,~~~!h,!!o,tE (.bl pp),!!P1,!!f']
  ·rfl'
   refine#[⋯,λp hp=>#[∅,?_]];have sp:=zc (o:=.lst [.ref P1]) hp;have s15:=((s2.trans (s3.trans (s4.trans s5))).trans sp);have hr0:0<=r0 % 7/\r0 % 7<7:=#[cG _ ∅,cE _ ∅];rw[show r0 % 7=((r0 % 7).toNat:Int) by lia];have r7:(r0 % 7).toNat<7:=⋯;generalize (r0 % 7).toNat=r at r7
   have hG:OG ((lK qq).map (nmL [x,y])) (nK qq h) 2:=by
    cases qq
    ·exact#[g2,∅,rfl,by unfold nK;simp;lia]
    ·exact#[g1,∅,rfl,by unfold nK;simp;lia]
   have hin:=zfz (x:=x) (y:=y) (q:=qq) (p:=pp);refine#[o,p,2,_,_,[mp (nmL [x,y]) (rK pp)],r,rfl,ho.same ((s4.trans s5).trans sp),hG,#[_,zb,zL (r:=mp (nmL [x,y]) (rK pp)) (sp _ _ hP1) xJ],by show 1<=20;decide,λp hp=>#[aG (hin p hp).1 ∅,aG (hin p hp).2.1 ∅,(hin p hp).2.2],λp hp=>#[(hin p hp).1,(hin p hp).2.1],⋯,hTab.same s15,λw' es p' D H' hC hBG sT hT' hp' hM=>?_];let#[e1,e2]:=zfP hxy h6 r7 hC;subst e1;have e3:=za7 e2 λe he=>(zay hG hin hBG hC e he).2.2;subst e3;exact#[p',D,hp',hM,rfl]
  rintro σ H6 ⟨f',D,⟨hf',hD⟩,rfl⟩:0;change H'=H6/\σ=[tE ⇑[x],tE ⇑[y],~~~!c,~~~!r0,~~~!h,!!o,tE (.bl pp),!!P1,!!f']
  ·rfl'
   exact#[_,.inl (.tup hf'),tG,TR.kt,ZO #[_,.inr #[_,x8 hf',rfl],yC (λz=>y9 rfl z) λZ=>#[_,x8 hf',_,rfl,_,_,rfl,rfl,_,rfl,rfl]]]
  rintro σ H7 ⟨rfl,rfl⟩:0
  rfl'
  refine#[_,x8 hf',_,rfl,D,_,rfl,hD.l.is,tG,rfl,zen ?_]
  erw[uL]
  refine#[_,x8 hf',_,rfl,⋯,∅,∅,∅,⋯,λp hp=>#[⋯,λp1 hp1=>#[⋯,λp2 hp2=>#[⋯,λp3 hp3=>?_]]]];have t0:=zc (o:=.tup [.int 0,.int 0,.bl pp]) hp;have t1:=zc (o:=.lst [.ref p]) hp1;have t2:=zc (o:=.tup [⇑[x,x],⇑(af 10 y),.ref p1]) hp2;have t3:=zc (o:=.lst [.ref p2]) hp3;have hE:EnsM K _ p3 [(([x,x]:()),(af 10 y,[((0:Int),(0:Int),pp)]))]:=WW zb (Y9 (e:=(([x,x]:()),(af 10 y,[((0:Int),(0:Int),pp)]))) (t3 _ _ zb) #[_,t3 _ _ (t2 _ _ zb),qK (vE (x8 (t3 _ _ (t2 _ _ (t1 _ _ zb)))))]);exact kA (.inl #[(hD.same (t0.trans (t1.trans (t2.trans t3)))).l.is,hE.l.is]) (by erw[ak,aA,dE,dS,dSt,dpD,vw];decide) (by rw[xI];exact q _)
def dK3(k:Nat)(l:())(r:zG):List L3.D:=[.int (r.1.length:Nat),.lst ((wV k l r.1).map L3.D.int),dR r]
def wm(k:Nat)(l:())(rs:List zG)(d:{r // r ∈ rs}):KeyFam {r // r ∈ rs}:=#[λa=>dK3 k l a.1,λa b=>rankF.lt (j8 k l [] a.1.1) (j8 k l [] b.1.1),tG,d]
theorem Km(h:eqD x1 y1=tG->eqD x2 y2=tH):wQ (x1::x2::r) (y1::y2::r')=wQ [x1,x2] [y1,y2]:=by
 cases e:eqD x1 y1 with
 | false=>erw[wQ,e,aY,if_false]
 | true=>erw[wQ,e,h e,aY,if_false]
theorem kz{rs:List zG}(h:(rs.map (·.1)).Nodup)(ha:a ∈ rs)(hb:b ∈ rs)(e:a.1=b.1):a=b:=by
 induction rs with
 | nil=>cases ha
 | cons c rs ih =>
  rw[ak,List.nodup_cons]at h;rcases tN.mp ha with e1 | ha'
  ·rcases tN.mp hb with e2 | hb'
   ·rw[e1,e2]
   ·exact y9 (tM.mpr #[b,hb',by rw[<- e1];exact e.symm]) h.1
  ·rcases tN.mp hb with e2 | hb'
   ·exact y9 (tM.mpr #[a,ha',by rw[<- e2];exact e]) h.1
   ·exact ih h.2 ha' hb'
def WM(hu:∀c ∈ u,c ∈ l)(hv:∀c ∈ v,c ∈ l)(h:u≠v):eqD (.lst ((wV k l u).map L3.D.int)) (.lst ((wV k l v).map L3.D.int))=tH:=by
 erw[eqD]
 rw[jD];exact y6 λe=>h (Zz hu hv e)
def XR(hk:k≠2)(hn:(rs.map (·.1)).Nodup)(hl:∀r ∈ rs,∀c ∈ r.1,c ∈ l):(wm k l rs d).OkF where
 w:=#[λa b h=>rankF_ok.w.asym _ _ h,λa b c h1 h2=>rankF_ok.w.ntr _ _ _ h1 h2]
 eq:=λa b=>by
  by_cases e:a.1.1=b.1.1
  ·obtain rfl:a=b:=Subtype.ext (kz hn a.2 b.2 e)
   have h1:(wm k l rs d).lt a a=tH:=by
    cases h:(wm k l rs d).lt a a with
    | false=>rfl
    | true=>exact (rankF_ok.w.asym _ _ h).symm.trans h |>.symm
   rw[h1]
   erw[wm,dK3,wQ,uf,if_true]
  ·have h:=rankF_ok.eq (j8 k l [] a.1.1) (j8 k l [] b.1.1);have w1:∀u:(),zu k l [] u=(u.length:Int):=λu=>by unfold zu;rw[z9 hk]
   erw[wm]
   rw[<- h];unfold dK3;rw[Km λZ=>WM (hl _ a.2) (hl _ b.2) e]
   erw[rankF,j8,w1]
 ok:=λa b=>by
  by_cases e:a.1.1=b.1.1
  ·obtain rfl:a=b:=Subtype.ext (kz hn a.2 b.2 e)
   erw[wm,dK3,okF,uf,if_true]
  ·erw[wm,dK3,okF,WM (hl _ a.2) (hl _ b.2) e,aY,if_false,okD]
   split
   ·exact uu _ _
   ·trivial
 dp:=λa=>by erw[wm,dK3,dR,dpD,vw,Zu];decide
 sh:=λa=>#[_,_,rfl,.inl #[rfl,_,rfl]]
theorem QS{β:Type}{H:Hp}{f:β->L3.D}{g:β->V}:∀{ys:List β},(∀y ∈ ys,Is K H (f y) (g y))->Iss K H (ys.map f) (ys.map g)
 | [],_=>by erw[aA,Iss]
 | y::ys,h=>by
  erw[ak,Iss]
  exact#[_,_,rfl,h y az,QS λz hz=>h z (av _ hz)]
theorem VI{β:Type}{f:β->L3.D}:∀{bs:List β} {xs:List V},Iss K H (bs.map f) xs->∀y ∈ bs.zip xs,Is K H (f y.1) y.2
 | [],xs,_,y,hy=>by cases hy
 | b::bs,xs,h,y,hy=>by
  erw[ak,Iss]at h
  let#[x,r,rfl,h1,h2]:=h;rcases tN.mp hy with rfl | hy
  ·exact h1
  ·exact VI h2 y hy
def Kl(k:Nat)(l:())(rs rs':List zG):Prop:=rs'.Perm rs/\rs'.Pairwise λa b=>rankF.lt (j8 k l [] b.1) (j8 k l [] a.1)=tH
def Y3(hk:k≠2)(hn:(rs.map (·.1)).Nodup)(hl:∀r ∈ rs,∀c ∈ r.1,c ∈ l)(hI:Iss K H (rs.attach.map λa=>.tup ((wm k l rs d).dec a)) xs) :
  ∃rs':List zG,Kl k l rs rs'/\Iss K H (rs'.map λr=>.tup (dK3 k l r)) ((srt (λp q=>(wm k l rs d).lt p.1 q.1) ((wm k l rs d).d0,V.non) (rs.attach.zip xs)).map (·.2)):=by
 have W:=(XR (d:=d) hk hn hl).w;let#[p1,p2]:=WI (lt:=λ(p q:{r // r ∈ rs} × V)=>(wm k l rs d).lt p.1 q.1) #[λa b=>W.asym _ _,λa b c=>W.ntr _ _ _] ((wm k l rs d).d0,V.non) (rs.attach.zip xs);generalize srt (λ(p q:{r // r ∈ rs} × V)=>(wm k l rs d).lt p.1 q.1) ((wm k l rs d).d0,V.non) (rs.attach.zip xs)=ys at p1 p2;refine#[ys.map λy=>y.1.1,#[?_,?_],?_]
 ·have h1:=(p1.map (·.1)).map Subtype.val;have hlen:=hI.len;rw[aa]at hlen;rw[fm ⋯,List.attach_map_subtype_val,aP]at h1;exact h1
 ·exact tY.mpr p2
 ·rw[aP];exact QS λy hy=>VI hI y (p1.mem_iff.mp hy)
def hid(H:Hp)(R:pC):Hp:=λb=>if b=R then tF else H b
def uS(h:b≠R):hid H R b=H b:=z9 h
def Wu : Same (hid H R) H:=λb o h=>by
 by_cases e:b=R
 ·rw[e,hid,z6 rfl]at h;cases h
 ·rw[uS e]at h;exact h
def UO : hid (upd H R o) R=hid H R:=funext λb=>by
 by_cases e:b=R
 ·rw[e,hid,hid,z6 rfl,z6 rfl]
 ·rw[uS e,uS e,zm e]
def Js(s:Same H H')(hR:H R=tF):Same H (hid H' R):=λb o h=>by
 rw[uS (zD h hR)];exact s b o h
def X3(s:Same H H'):Same (hid H R) (hid H' R):=λb o h=>by
 by_cases e:b=R
 ·rw[e,hid,z6 rfl]at h;cases h
 ·rw[uS e]at h ⊢;exact s b o h
def zbe(hk:k≠2)(u v:()):zJ k l ns u v=rankF.lt (j8 k l [] u) (j8 k l [] v):=by
 unfold zJ
 erw[rankF,j8,zu,z9 hk]
def K3{l:()}{w:()}(h:w.all (λc=>decide (c<l.length))=tG):∀c ∈ w.map (nmL l),c ∈ l:=λc hc=>by
 let#[d,hd,rfl]:=tM.mp hc;have hd4:d<l.length:=y3 (tQ.mp h d hd);unfold nmL;rw[ah hd4];exact dY _
def inB(n:Nat)(R:List zG):Bool:=R.all λp=>decide (p.1.length<=60) && decide (p.2.length<=60) && p.1.all (λc=>decide (c<n)) && p.2.all (λc=>decide (c<n))
def qU{l:()}{n:Nat}{R:List zG}(hn:n=l.length)(h:inB n R=tG):RIn l (R.map (mp (nmL l))):=λp hp=>by
 let#[q,hq,rfl]:=tM.mp hp;have:=tQ.mp h q hq;rw[aM,aM,aM,hn]at this;let#[#[#[a,b],c],d]:=this;exact#[by unfold mp;rw[aa];exact y3 a,by unfold mp;rw[aa];exact y3 b,K3 c,K3 d]
def RIn.ok{l:()}{rs:List zG}(h:RIn l rs)(hl:rs.length<=30):jV rs:=#[hl,λr hr=>by have:=h r hr;lia]
def ug{CO CR CW TB o a:pC}{k:Nat}{l:()}{ns:List Int}{f:Nat->Nat}{lt:()->()->Bool}{R:List zG}{r:Nat}{ou:Bool × List zG}{bs:List Bool}{rv:Bool}{H:Hp}{Q:VK}{E:XK}(ho:OrdAt CO CR CW H o k l ns)(hG:OG l ns k)(hf:Inj f)(hlt:LtX dmT lt f k l ns)(hev:(R.all (OkR dmT lt) && isC (VY dmT lt (r+1) [] (R.map λp=>(p,1))) ou)=tG)(hb:bs.length=R.length)(hR:R.length<=20)(hin:RIn l (R.map (mp f)))(hA:LsA K H a ((zf (sdL rv (R.map (mp f)) bs)).map dR))(hr:r<=1000)(hT:TabOk H TB lp lq)(q:∀(D p:pC) (es:List Ent) (H':Hp),SamT TB H H'->TabOk H' TB lp lq->H' p=tE (.tup [.bl ou.1,.ref D])->EnsM K H' D es->zf es=ou.2.map (mp f)->(∀e ∈ es,StE (zf (sdL rv (R.map (mp f)) bs)) e)->es.length<=64->Q (.ref p) H'):jB K CO CR CW TB [.ref o,.ref a,.int (r:Nat)] H Q E:=by
 have hbm:bs.length=(R.map (mp f)).length:=by rw[aa];exact hb
 have hin':=UK (rv:=rv) hbm hin;have hl:(zf (sdL rv (R.map (mp f)) bs)).length=R.length:=by rw[yD,vI hbm,aa]
 refine#[o,a,k,l,ns,_,r,rfl,ho,hG,hA,⋯,λp hp=>#[aG (hin' p hp).1 ∅,aG (hin' p hp).2.1 ∅,(hin' p hp).2.2],λp hp=>#[(hin' p hp).1,(hin' p hp).2.1],hr,hT,λw' es p D H' hC hBG sT hT' hp hM=>?_];let#[e1,e2]:=zcP hf hlt hev hb hC;subst e1;have:=hBG.n;exact q D p es H' sT hT' hp hM e2 (zay hG hin' hBG hC) ⋯
def vp{D0 D:pC}{es:List Ent}{σ:L2.St}{H1:Hp}{Q:VK}(hM:EnsM K H1 D0 es)(hel:es.length<=64)(hD:H1 D=tF)(q:∀H',Same H1 H'->LsA K H' D ((zf es).map dR)->Q (.ref D) H'):CompL K D0 (yW 0) xy (Zo (zI (tOp (xO K) (z7 0) (tC (.int 0))) (zI (tOp (xO K) (z7 0) (tC (.int 1))) xp))) 1 [] σ H1 Q D:=by
 have s16:=yb;let#[xs,hX,hEn]:=id hM;have hxl:=hEn.len;refine ja2 (xs:=xs) (λi tK H'=>Same H1 H'/\H' D=tE (.lst tK)/\Iss K H' (((zf es).take i).map dR) tK) #[zc hD,zb,by erw[bi,aA,Iss]] (λi tK H' Z h=>x6 (h.1 _ _ hX)) ?_ ?_
 ·refine nm4 ?_;rintro i x0 tK H' hx ⟨hs,hH,hIs⟩:_;have hi:=(tL.mp hx).1;let#[e,pe,se,hei,rfl,hqe,hse]:=hEn.get hx;have hm:(zf es)[i]? = tE (e.1,e.2.1):=by unfold zf;rw[ay,hei];rfl
  have hal:=hIs.len;rw[aa,aF]at hal;have hq2:=zl hs hqe;have e0:wX σ 1 []=[tF]:=rfl;right
  erw[xy,e0]
  rfl'
  refine#[yJ,_,hq2,_,rfl,_,hq2,_,rfl,⋯,λp hp=>#[zc hp _ _ hH,⋯,x9 hi #[zH (hs.trans (zc hp)) hD,zb,?_]]];rw[zP hm,ar];exact Xn hH hIs hp (qA _) (Zj (e.1,e.2.1)) (UF (x8 zb))
 ·refine nmB ?_;rintro tK H' ⟨hs,hH,hIs⟩:_;have hpl:=yD es;rw[hxl,<- hpl,aI]at hIs;right;exact q H' hs #[tK,hH,hIs]
def zeR{x y z:Nat}(i j:Nat):(qf i j).map (mp (nmL [x,y,z]))=[([y,x],[x,y]),(af i y ++ [z],af i y),([z] ++ af j x,af j x)]:=by
 unfold qf
 erw[ak,aA,mp,ar,dL]
 rfl
def Ji{k:Nat}{l:()}{rs a b:List zG}(hk:k≠2)(hl:∀r ∈ rs,∀c ∈ r.1,c ∈ l)(hn:(rs.map (·.1)).Nodup)(ha:Kl k l rs a)(hb:Kl k l rs b):a=b:=by
 refine List.Perm.eq_of_pairwise (le:=λa b:zG=>rankF.lt (j8 k l [] b.1) (j8 k l [] a.1)=tH) (λu v hu hv h1 h2=>?_) ha.2 hb.2 (ha.1.trans hb.1.symm);have hu':=ha.1.mem_iff.mp hu;have hv':=hb.1.mem_iff.mp hv;refine kz hn hu' hv' ((K8 (k:=k) (ns:=[]) (hl u hu') (hl v hv')).mp ?_);by_cases e:j8 k l [] u.1=j8 k l [] v.1
 ·exact e
 ·have:=qF e;rw[h1,h2]at this;cases this
def Uy:∀i ∈ t9,∀j ∈ t9,inB 3 (qf i j)=tG:=by symm
def zcB:∀i ∈ t9,∀j ∈ t9,((qf i j).map (·.1)).Nodup/\(zcu i j).Perm (qf i j)/\(zcu i j).Pairwise λa b=>lt3 b.1 a.1=tH:=by symm
def zf2{n:Nat}(h1:1<=n)(h9:n<=9):n ∈ t9:=by
 erw[t9,be,bc,or_false]
 lia
def UE{n:Nat}(h:n ∈ t9):1<=n/\n<=9:=by
 erw[t9,be,bc,or_false]at h
 lia
def Ky(K:pB)(TB:pC):Sp:=λvs H Q Z=>∃(x y z:Nat) (c r0:Int),vs=[⇑[x,y,z],.int c,.int r0]/\wG [x,y,z]=tG/\ub c/\TabOk H TB lp lq/\∀H',Q (.bl tG) H'
def gP:sQz 3 ["_law_letters_here","_law_cell_here","_law_rounds","_law_x","_law_y","_law_z","_law_i","_law_j","_law_pairs","_law_pacts","_law_ranks","_law_found"] yz:=by nofun
def jQ{f CO CR CW TB:pC}{fd:pT}(B:Bt mg)(T:TWS P w K mg base CO CR CW)(hsorted:Qw mg)(F:("_law_far_overlap"^^^yz))(gR:(10<<<"completed") ["order","pacts","rounds"] [] (jB K CO CR CW TB))(im:(5<<<"_law_told_right") ["_law_found","_law_whole_here","_law_pairs","_law_pacts"] [] (vZ K))(gK:(1<<<"_law_mixed") ["_law_cell_here","_law_turn"] [] xx)(iA:(2<<<"_law_sides") ["_law_pairs","_law_cell_here"] [] (vv K)):(11&&&["_law_letters_here","_law_cell_here","_law_rounds"]) (Ky K TB):=by
 exists F.ok gP
 ·let#[x,y,z,c,r0,rfl,hg,hc,hTab,q]:=h
  refine#[_,(zg (zE 3 gP.nd (zk vW (pv 0) ze)) (zg (zE 4 gP.nd (zk vW (pv 0) ze)) (zg (zE 5 gP.nd (zk vW (pv 0) ze)) (zg (zE 6 gP.nd (zq zC ze (zq yq (cl0 gK hr .nil rfl (za (pv 1) (za ze zd))) ze))) (zg (zE 7 gP.nd (zq zC ze (zq yq (cl0 gK hr .nil rfl (za (pv 1) (za ze zd))) ze))) (zg (zE 8 gP.nd (zX (za (zy (za (zq zC (pv 4) (pv 3)) (za (zq zC (pv 3) (pv 4)) zd))) (za (zy (za (zq zC (zq yj (pv 4) (pv 6)) (pv 5)) (za (zq yj (pv 4) (pv 6)) zd))) (za (zy (za (zq zC (pv 5) (zq yj (pv 3) (pv 7))) (za (zq yj (pv 3) (pv 7)) zd))) zd))))) (zg (vO (i:=9) gP.nd rfl (.inl rfl) (.inl rfl) (own:=["_law_entry"]) (caps:=[]) (ix:=[]) (tt:=xy) (te:=(Zo (zI (tOp (xO K) (z7 0) (tC (.int 0))) (zI (tOp (xO K) (z7 0) (tC (.int 1))) xp)))) rfl (zM (sc:=zi yz) rfl (!0) (!0) (!0) rfl (!0) (!0) rfl) (ye (cl0 iA hr .nil rfl (za (pv 8) (za (pv 1) zd)))) (λZ Z Z Z Z Z=>zr (i:=0) (show List.Nodup [_] by decide) rfl (.inl rfl)) (λZ Z Z Z Z Z=>zY) (λZ Z Z Z Z Z=>(zy (za (!-0) (za (!-0) zd))))) (zg (vO (i:=10) gP.nd rfl (.inl rfl) (.inl rfl) (own:=["_law_pair"]) (caps:=["_law_letters_here"]) (ix:=[0]) (tt:=xy) (te:=(Zo (zI (tCB (Vz K) (zI (tOp (xO K) (z7 0) (tC (.int 0))) xp)) (zI (qP (zeE (tOp (xO K) (z7 0) (tC (.int 0)))) (yW 0) xy (tBM K "str" Vg (z7 1) (zI (z7 0) xp)) 1 [1]) (zI (z7 0) xp))))) rfl (zM (sc:=zi yz) rfl (!0) (!0) (!0) rfl (!0) (!0) rfl) (ye (pv 8)) (λZ Z Z Z Z Z=>zr (i:=0) (show List.Nodup [_,_] by decide) rfl (.inl rfl)) (λZ Z Z Z Z Z=>zY) (λZ Z Z Z Z Z=>(zy (za (zR B.len (!-0)) (za (L3.pe_comp (own:=["_law_sign"]) (caps:=["_law_letters_here"]) (ix:=[1]) (tt:=xy) (te:=(tBM K "str" Vg (z7 1) (zI (z7 0) xp))) rfl (zM rfl (!0) (!0) rfl rfl (!0) (!0) rfl) (XM (!-0)) (λZ Z Z Z Z Z=>zr (i:=0) (show List.Nodup [_,_] by decide) rfl (.inl rfl)) (λZ Z Z Z Z Z=>zY) (λZ Z Z Z Z Z=>(ut bI d4 d5 K2 (pv 1) (za (pv 0) zd)))) (za (pv 0) zd)))))) (zg (zE 11 gP.nd (cl0 gR hr .nil rfl (za (mkC T.mO hr rfl T.gO (za (pv 0) zd)) (za (yR yv rfl B.list jb0 (za (pv 9) zd)) (za (zq yq (pv 2) ze) zd))))) (zh (zp (cl0 im hr .nil rfl (za (pv 11) (za (yB vY (zq yj (pv 6) (pv 7)) ze (zF _)) (za (xf (own:=["_law_rank"]) (caps:=[]) (ix:=[]) (tt:=xy) (te:=(tOp (xO K) (z7 0) (tC (.int 2)))) rfl (zM (sc:=zi yz) rfl (!0) (!0) (!0) rfl (!0) (!0) rfl) (ye (xa (zcn (k:=0) (hr.mono ∅)) rfl hsorted fo (za (pv 10) zd))) (λZ Z Z Z Z Z=>zr (i:=0) (show List.Nodup [_] by decide) rfl (.inl rfl)) (λZ Z Z Z Z Z=>zY) (λZ Z Z Z Z Z=>(!-0))) (za (pv 9) zd)))))))))))))))),?_]
  have s16:=yb;have hn:=(y3 hg).2.2.2;have hf:=vQ hn;change H'=H/\σ=%[tE ⇑[x,y,z],~~~!c,~~~!r0,tE ⇑[x]|8]
  ·rfl'
   exact#[by show 3<=_;decide,w8 (j:=0) rfl]
  rintro σ H1 ⟨rfl,rfl⟩:0;change H'=H1/\σ=%[tE ⇑[x,y,z],~~~!c,~~~!r0,tE ⇑[x],tE ⇑[y]|7]
  ·rfl'
   exact#[by show 3<=_;decide,w8 (j:=1) rfl]
  rintro σ H1 ⟨rfl,rfl⟩:0;change H'=H1/\σ=%[tE ⇑[x,y,z],~~~!c,~~~!r0,tE ⇑[x],tE ⇑[y],tE ⇑[z]|6]
  ·rfl'
   exact#[by show 3<=_;decide,w8 (j:=2) rfl]
  rintro σ H1 ⟨rfl,rfl⟩:0;change H'=H1/\∃i:Nat,i ∈ t9/\σ=%[tE ⇑[x,y,z],~~~!c,~~~!r0,tE ⇑[x],tE ⇑[y],tE ⇑[z],-~~~i|5]
  ·rfl'
   exact zW hc ∅ ∅ λz hz=>#[_,rfl,∅,rfl,(1+z % 9).toNat,zf2 ⋯ ⋯,⋯]
  rintro σ H1 ⟨rfl,i,hi,rfl⟩:0;change H'=H1/\∃j:Nat,j ∈ t9/\σ=%[tE ⇑[x,y,z],~~~!c,~~~!r0,tE ⇑[x],tE ⇑[y],tE ⇑[z],-~~~i,-~~~j|4]
  ·rfl'
   exact zW hc ∅ ∅ λz hz=>#[_,rfl,∅,rfl,(1+z % 9).toNat,zf2 ⋯ ⋯,⋯]
  rintro σ H1 ⟨rfl,j,hj,rfl⟩:_;have hi9:=UE hi;have hj9:=UE hj;right;change Same H1 H'/\∃pa:pC,LsA K H' pa (((qf i j).map (mp (nmL [x,y,z]))).map dR)/\σ=%[tE ⇑[x,y,z],~~~!c,~~~!r0,tE ⇑[x],tE ⇑[y],tE ⇑[z],-~~~i,-~~~j,!!pa|3]
  ·rfl'
   erw[uL,aR,bf]
   refine#[⋯,⋯,⋯,λp hp=>#[⋯,⋯,∅,⋯,⋯,⋯,∅,⋯,λp1 hp1=>#[⋯,⋯,∅,⋯,⋯,⋯,∅,⋯,λp2 hp2=>#[⋯,λp3 hp3=>?_]]]];have t0:=zc (o:=.tup [⇑[y,x],⇑[x,y]]) hp;have t1:=zc (o:=.tup [⇑(af i y ++ [z]),⇑(af i y)]) hp1;have t2:=zc (o:=.tup [⇑(z::af j x),⇑(af j x)]) hp2;have t3:=zc (o:=.lst [.ref p,.ref p1,.ref p2]) hp3;rw[zeR];exact#[t0.trans (t1.trans (t2.trans t3)),_,zb,zL (r:=([y,x],[x,y])) (t3 _ _ (t2 _ _ (t1 _ _ zb))) (zL (r:=(af i y ++ [z],af i y)) (t3 _ _ (t2 _ _ zb)) (zL (r:=(z::af j x,af j x)) (t3 _ _ zb) xJ))]
  rintro σ H2 ⟨s2,pa,hP,rfl⟩:0;change Same H2 H'/\∃pt:pC,(∃rv bs,bs.length=(qf i j).length/\LsA K H' pt ((zf (sdL rv ((qf i j).map (mp (nmL [x,y,z]))) bs)).map dR))/\σ=%[tE ⇑[x,y,z],~~~!c,~~~!r0,tE ⇑[x],tE ⇑[y],tE ⇑[z],-~~~i,-~~~j,!!pa,!!pt|2]
  ·rfl'
   refine#[pa,c,_,rfl,hc,hP,by rw[aa];show 3<=12;decide,λD bs rv H' s' hD hbl hM=>#[D,rfl,?_,λD1 hD1=>?_]]
   ·let#[xs,hX,_]:=id hM;exact#[_,x6 hX]
   ·rw[aa]at hbl;exact vp hM (by rw[vI (by rw[aa];exact hbl),aa];show 3<=64;decide) hD1 λH'' s'' hL=>#[s'.trans s'',D1,#[rv,bs,hbl,hL],rfl]
  rintro σ H3 ⟨s3,pt,⟨rv,bs,hbl,hPt⟩,rfl⟩:0;change Same H3 H'/\∃R:pC,LsA K H' R (((qf i j).map (mp (nmL [x,y,z]))).map λr=>.tup (dK3 0 [x,y,z] r))/\σ=[tE ⇑[x,y,z],~~~!c,~~~!r0,tE ⇑[x],tE ⇑[y],tE ⇑[z],-~~~i,-~~~j,!!pa,!!pt,!!R,tF]
  ·rfl'
   let#[xs,hX,hI]:=id (hP.same s3);have hxl:=hI.len;rw[aa]at hxl;have hn3:((qf i j).map (mp (nmL [x,y,z]))).length=3:=by rw[aa];rfl
   have hin:=qU (l:=[x,y,z]) rfl (Uy i hi j hj);generalize (qf i j).map (mp (nmL [x,y,z]))=rs at *;refine#[#[_,x6 hX],λD hD=>ja2 (xs:=xs) (λi tK H'=>Same H3 H'/\H' D=tE (.lst tK)/\Iss K (hid H' D) ((rs.take i).map λr=>.tup (dK3 0 [x,y,z] r)) tK) #[zc hD,zb,by erw[bi,aA,Iss]] (λi tK H' Z h=>x6 (h.1 _ _ hX)) ?_ ?_]
   ·refine nm4 ?_;rintro i v tK H' hx ⟨hs,hH,hJ⟩:_;have hil:=(tL.mp hx).1;let#[r,pr,hri,rfl,hqr]:=hI.getR hx;let#[l1,l2,l3,l4]:=hin r (ag hri);have hq2:=zl hs hqr;have hal:=hJ.len;rw[aa,aF]at hal;right
    erw[xy]
    rfl'
    refine#[yJ,_,hq2,_,rfl,?_]
    rfl'
    refine#[⋯,_,hq2,_,rfl,_,rfl,λD1 hD1=>CompS.by (l:=r.1) (λi tK H1=>Same H' H1/\H1 D1=tE (.lst tK)/\tK=(uP [x,y,z] (r.1.take i)).map V.int) #[zc hD1,zb,rfl] ?_ ?_]
    ·refine nm4 ?_;rintro i c tK H' hc ⟨hs,hH,rfl⟩:_;have hci:=(tL.mp hc).1;have hcl:=l3 c (ag hc);right
     erw[xy]
     rfl'
     rw[V3 hcl];refine#[yJ,hH,by rw[aa];unfold uP;rw[aa,aF];lia,x9 hci #[zH hs hD1,zb,?_]];unfold uP;rw[zP hc,ar,ar];rfl
    ·refine nmB ?_;rintro acc1 H1 ⟨hs1,hH1,rfl⟩:_;rw[aI]at hH1;have hD':=hs1 _ _ hH;right;refine#[⋯,λp hp=>?_];have up:=zc (o:=HO.tup [.int (r.1.length:Nat),.ref D1,.ref pr]) hp;have hDR:D1≠D:=λe=>by rw[e,hH]at hD1;cases hD1
     have hpR:p≠D:=λe=>by rw[e,hD']at hp;cases hp
     have s5:=hs.trans (hs1.trans up);refine#[up _ _ hD',⋯,x9 hil #[zH s5 hD,zb,?_]];rw[UO,zP hri,ar];refine jb2 (ja1 (X3 (hs1.trans up)) _ _ hJ) ?_
     erw[ak,aA,Iss,dK3,Is]
     refine#[_,_,rfl,#[p,_,rfl,x8 ((uS hpR).trans zb),_,_,rfl,rfl,_,_,rfl,#[D1,_,rfl,x6 ((uS hDR).trans (up _ _ hH1)),Iss.ints _],_,_,rfl,UF (zl (Js s5 hD) hqr),rfl],rfl]
   ·refine nmB ?_;rintro tK H' ⟨hs,hH,hJ⟩:_;rw[hxl,aI]at hJ;right;exact#[hs,D,#[tK,hH,ja1 Wu _ _ hJ],rfl]
  rintro σ H4 ⟨s4,R,hR,rfl⟩:0;change ∃(f' D:pC) (es:List Ent),(LsA K H' pt ((zf (sdL rv ((qf i j).map (mp (nmL [x,y,z]))) bs)).map dR)/\LsA K H' R (((qf i j).map (mp (nmL [x,y,z]))).map λr=>.tup (dK3 0 [x,y,z] r))/\H' f'=tE (.tup [.bl (decide (i * j<=40)),.ref D])/\EnsM K H' D es/\zf es=(zcu i j).map (mp (nmL [x,y,z]))/\∀e ∈ es,StE (zf (sdL rv ((qf i j).map (mp (nmL [x,y,z]))) bs)) e)/\σ=[tE ⇑[x,y,z],~~~!c,~~~!r0,tE ⇑[x],tE ⇑[y],tE ⇑[z],-~~~i,-~~~j,!!pa,!!pt,!!R,!!f']
  ·rfl'
   intro o dx hz hdx hne;have sd:=zc (o:=.own o) hdx
   have sx:Same H4 (upd (upd (upd H4 dx (.own o)) o (.ins CO dx [])) o (.ins CO dx [("letters",⇑[x,y,z])])):=λb o' e=>by
    rw[zm (zD e hz),zm (zD e hz)];exact sd _ _ e
   let#[px,hPx,hPi]:=id (hPt.same s4);refine#[o,CO,dx,_,rfl,hg,T.cO,T.lO,zb,rfl,px,.inl (x6 (sx _ _ hPx)),λld hld=>#[∅,?_]];have sl:=zc (o:=.lst px) hld;have sa:=sx.trans sl;have hT3:=(hTab.same (s2.trans (s3.trans s4))).same sa;let#[tp,htp,_]:=id hT3;have hG:OG [x,y,z] [1,1,1] 0:=#[hg,∅,rfl,by simp];have hr0:0<=r0 % 7/\r0 % 7<7:=#[cG _ ∅,cE _ ∅];rw[show r0 % 7=((r0 % 7).toNat:Int) by lia];have r7:(r0 % 7).toNat ∈ [0,1,2,3,4,5,6]:=by erw[be,bc,or_false];lia
   have r8:(r0 % 7).toNat<=1000:=⋯;generalize (r0 % 7).toNat=r at r7 r8;refine ug (CR:=CR) (CW:=CW) (k:=0) (l:=[x,y,z]) (ns:=[1,1,1]) (OrdAt.same #[dx,.inl #[rfl,zb]] sl) hG hf (λu v Z Z=>wB hf 0 [0,1,2] [1,1,1] u v) (zbT i hi j hj r r7) hbl (by show 3<=20;decide) (qU rfl (Uy i hi j hj)) #[px,zb,ja1 sa _ _ hPi] r8 hT3 λD p es H' sT hT' hp hM hpr hst hel=>?_;exact#[((hPt.same s4).same sa).samT sT htp,(hR.same sa).samT sT htp,p,D,hp,es,hM,hpr,hst,rfl]
  rintro σ H5 ⟨f',D,es,⟨hPt5,hR5,hf5,hM5,hpr,hst⟩,rfl⟩:0
  rfl'
  have em:((i:Nat):Int) * ((j:Nat):Int)=((i * j:Nat):Int):=(fG _ _).symm;have hij:i * j<=9 * 9:=eJ hi9.2 hj9.2;rw[em,show decide (((i * j:Nat):Int)<=40)=decide (i * j<=40)from decide_eq_decide.mpr ⋯];refine#[.inl #[⋯,⋯],?_];let#[ys,hY,hJ]:=id hR5;let#[nd,pm,pw]:=zcB i hi j hj;have hin:=qU (l:=[x,y,z]) rfl (Uy i hi j hj);have hinT:=(UK (rv:=rv) (bs:=bs) (by rw[aa];exact hbl) hin).ok (by rw[yD,vI (by rw[aa];exact hbl),aa];show 3<=30;decide)
  have hn':(((qf i j).map (mp (nmL [x,y,z]))).map (·.1)).Nodup:=by
   rw[aP];have:((qf i j).map ((·.1) ∘ mp (nmL [x,y,z])))=((qf i j).map (·.1)).map (List.map (nmL [x,y,z])):=by rw[aP];rfl
   rw[this];exact nd.map _ λa b hab e=>hab ((wk hf).mp e)
  have hO:Kl 0 [x,y,z] ((qf i j).map (mp (nmL [x,y,z]))) ((zcu i j).map (mp (nmL [x,y,z]))):=#[pm.map _,tY.mpr (pw.imp λ{a b} h=>by
   rw[<- zbe (ns:=[1,1,1]) ∅]
   exact (wB hf 0 [0,1,2] [1,1,1] b.1 a.1).trans h)]
  have h3:((qf i j).map (mp (nmL [x,y,z]))).length=3:=by rw[aa];rfl
  have hel:es.length<=64:=by
   have:=congrArg dU hpr;rw[yD,aa,pm.length_eq]at this;have h3':(qf i j).length=3:=rfl;lia
  have r0m:([y,x],[x,y]) ∈ (qf i j).map (mp (nmL [x,y,z])):=az;have hl:=λr hr=>(hin r hr).2.2.1;generalize (qf i j).map (mp (nmL [x,y,z]))=rs at *
  have hJ':Iss K H5 (rs.attach.map λa=>.tup ((wm 0 [x,y,z] rs #[_,r0m]).dec a)) ys:=by
   rw[show (rs.attach.map λa=>L3.D.tup ((wm 0 [x,y,z] rs #[_,r0m]).dec a))=rs.map λr=>.tup (dK3 0 [x,y,z] r)from List.attach_map_val (f:=λr=>L3.D.tup (dK3 0 [x,y,z] r))];exact hJ
  have hyl:=hJ.len;rw[aa]at hyl;let#[rs',hS,hO']:=Y3 ∅ hn' hl hJ';have er:rs'=(zcu i j).map (mp (nmL [x,y,z])):=Ji ∅ hl hn' hS hO;refine#[R,ys,_,wm 0 [x,y,z] rs #[_,r0m],rs.attach,rfl,x6 hY,⋯,XR ∅ hn' hl,hJ',λD1 hD1=>#[D1,rfl,#[_,x6 zb],λJ hJn=>?_]];generalize (srt (λ(p q:{r // r ∈ rs} × V)=>(wm 0 [x,y,z] rs #[_,r0m]).lt p.1 q.1) ((wm 0 [x,y,z] rs #[_,r0m]).d0,V.non) (rs.attach.zip ys)).map (·.2)=zs at *;have uD:=zc (o:=HO.lst zs) hD1;have hzl:=hO'.len;have hpl:=hS.1.length_eq;rw[aa]at hzl;refine ja2 (xs:=zs) (λi tK H'=>Same (upd H5 D1 (.lst zs)) H'/\H' J=tE (.lst tK)/\Iss K H' ((rs'.take i).map dR) tK) #[zc hJn,zb,by erw[bi,aA,Iss]] (λi tK H' Z h=>x6 (h.1 _ _ zb)) ?_ ?_
  ·refine nm4 ?_;rintro i x tK H' hx ⟨hs,hH,hIs⟩:_;have hil:=(tL.mp hx).1;let#[dd,e,hi]:=hO'.get hx;rw[ay,ah ⋯]at e;obtain rfl:=Option.some.inj e;have ht:rs'[i]? = tE (rs'[i]'⋯):=ah ⋯;right;generalize rs'[i]'⋯=r at *
   erw[dK3,Is,Iss]at hi
   let#[p,us,rfl,hq,u1,t1,rfl,rfl,u2,t2,rfl,_,u3,t3,rfl,h3,rfl]:=hi;have hal:=hIs.len;rw[aa,aF]at hal;have hs2:=uD.trans hs
   erw[xy]
   rfl'
   refine#[yJ,_,zl hs2 hq,_,rfl,hH,⋯,x9 hil #[zH hs hJn,zb,?_]];rw[zP ht,ar];let#[ws,hW,hV]:=LsA.snoc hH hIs (qA _) (Zj r) (Is.same hs2 _ _ h3);rw[zb]at hW;cases hW;exact hV
  ·refine nmB ?_;rintro tK H' ⟨hs,hH,hIs⟩:_;rw[hzl,aI]at hIs;have sz:=uD.trans hs;right;exact#[f',D,J,pt,_,es,_,rfl,sz _ _ hf5,hM5.same sz,#[tK,hH,by rw[hpr,<- er];exact hIs],hPt5.same sz,hinT,hel,hst,λH' Z=>q H']
def K0{l:()}(h:l.length=6):∃x0 x1 x2 x3 x4 x5,l=[x0,x1,x2,x3,x4,x5]:=match l,h with | [x0,x1,x2,x3,x4,x5],_=>#[x0,x1,x2,x3,x4,x5,rfl]
def eight_m{x0 x1 x2 x3 x4 x5:Nat}:eightR.map (mp (nmL [x0,x1,x2,x3,x4,x5]))=[([x0,x1],[]),([x2,x1],[]),([x3,x1],[]),([x1,x4,x4],[]),([x1,x4,x5],[]),([x1,x5,x4],[]),([x1,x5,x5],[])]/\eightO.map (mp (nmL [x0,x1,x2,x3,x4,x5]))=[([x2],[x0]),([x0,x1],[]),([x1,x0],[]),([x3,x1],[]),([x4,x4],[x0]),([x4,x5],[x0]),([x5,x4],[x0]),([x5,x5],[x0])]:=#[rfl,rfl]
def X5(K:pB)(TB:pC):Sp:=λvs H Q Z=>∃(x0 x1 x2 x3 x4 x5:Nat) (c:Int),vs=[⇑[x0,x1,x2,x3,x4,x5],.int c]/\wG [x0,x1,x2,x3,x4,x5]=tG/\ub c/\TabOk H TB lp lq/\∀H',Q (.bl tG) H'
def gJ:sQz 2 ["_law_letters_here","_law_cell_here","_law_a","_law_b","_law_c","_law_d","_law_e","_law_f","_law_pairs","_law_pacts","_law_order","_law_behind"] yP:=by nofun
def jP{f CO CR CW TB:pC}{fd:pT}(B:Bt mg)(T:TWS P w K mg base CO CR CW)(F:("_law_first_eight"^^^yP))(im:(5<<<"_law_told_right") ["_law_found","_law_whole_here","_law_pairs","_law_pacts"] [] (vZ K))(gR:(10<<<"completed") ["order","pacts","rounds"] [] (jB K CO CR CW TB))(iA:(2<<<"_law_sides") ["_law_pairs","_law_cell_here"] [] (vv K)):(11&&&["_law_letters_here","_law_cell_here"]) (X5 K TB):=by
 exists F.ok gJ
 ·let#[x0,x1,x2,x3,x4,x5,c,rfl,hg,hc,hTab,q]:=h
  refine#[_,(zg (jv (xf (own:=["_law_k"]) (caps:=["_law_letters_here"]) (ix:=[0]) (tt:=xy) (te:=(tOp JN (z7 1) (z7 0))) rfl (zM (sc:=zi yP) rfl (!0) (!0) (!0) rfl (!0) (!0) rfl) (wc rfl B.range (za ze zd)) (λZ Z Z Z Z Z=>zr (i:=0) (show List.Nodup [_,_] by decide) rfl (.inl rfl)) (λZ Z Z Z Z Z=>zY) (λZ Z Z Z Z Z=>(zk vW (pv 1) (pv 0)))) (zbC (n:=6) rfl (zK (zr (i:=2) gJ.nd rfl (.inl rfl)) (zK (zr (i:=3) gJ.nd rfl (.inl rfl)) (zK (zr (i:=4) gJ.nd rfl (.inl rfl)) (zK (zr (i:=5) gJ.nd rfl (.inl rfl)) (zK (zr (i:=6) gJ.nd rfl (.inl rfl)) (zK (zr (i:=7) gJ.nd rfl (.inl rfl)) yV)))))))) (zg (zE 8 gJ.nd (zX (za (zy (za (zq zC (pv 2) (pv 3)) (za zO zd))) (za (zy (za (zq zC (pv 4) (pv 3)) (za zO zd))) (za (zy (za (zq zC (pv 5) (pv 3)) (za zO zd))) (za (zy (za (zq zC (zq zC (pv 3) (pv 6)) (pv 6)) (za zO zd))) (za (zy (za (zq zC (zq zC (pv 3) (pv 6)) (pv 7)) (za zO zd))) (za (zy (za (zq zC (zq zC (pv 3) (pv 7)) (pv 6)) (za zO zd))) (za (zy (za (zq zC (zq zC (pv 3) (pv 7)) (pv 7)) (za zO zd))) zd))))))))) (zg (vO (i:=9) gJ.nd rfl (.inl rfl) (.inl rfl) (own:=["_law_entry"]) (caps:=[]) (ix:=[]) (tt:=xy) (te:=(Zo (zI (tOp (xO K) (z7 0) (tC (.int 0))) (zI (tOp (xO K) (z7 0) (tC (.int 1))) xp)))) rfl (zM (sc:=zi yP) rfl (!0) (!0) (!0) rfl (!0) (!0) rfl) (ye (cl0 iA hr .nil rfl (za (pv 8) (za (pv 1) zd)))) (λZ Z Z Z Z Z=>zr (i:=0) (show List.Nodup [_] by decide) rfl (.inl rfl)) (λZ Z Z Z Z Z=>zY) (λZ Z Z Z Z Z=>(zy (za (!-0) (za (!-0) zd))))) (zg (zE 10 gJ.nd (mkC T.mO hr rfl T.gO (za (pv 0) zd))) (zg (zS (yl (yU (cl0 im hr .nil rfl (za (cl0 gR hr .nil rfl (za (pv 10) (za (yR yv rfl B.list jb0 (za (pv 9) zd)) (za ze zd)))) (za yA (za (pv 8) (za (pv 9) zd))))) (λZ=>rfl))) (zh (zp yA))
    zv) (zg (zE 11 gJ.nd (zX (za (zy (za (pv 4) (za (pv 2) zd))) (za (zy (za (zq zC (pv 2) (pv 3)) (za zO zd))) (za (zy (za (zq zC (pv 3) (pv 2)) (za zO zd))) (za (zy (za (zq zC (pv 5) (pv 3)) (za zO zd))) (za (zy (za (zq zC (pv 6) (pv 6)) (za (pv 2) zd))) (za (zy (za (zq zC (pv 6) (pv 7)) (za (pv 2) zd))) (za (zy (za (zq zC (pv 7) (pv 6)) (za (pv 2) zd))) (za (zy (za (zq zC (pv 7) (pv 7)) (za (pv 2) zd))) zd)))))))))) (zh (zp (cl0 im hr .nil rfl (za (cl0 gR hr .nil rfl (za (pv 10) (za (yR yv rfl B.list jb0 (za (pv 9) zd)) (za ze zd)))) (za yA (za (pv 11) (za (pv 9) zd))))))))))))),?_]
  have s16:=yb;have hn:=(y3 hg).2.2.2;have hf:=vQ hn;have hG:OG [x0,x1,x2,x3,x4,x5] [1,1,1,1,1,1] 0:=#[hg,∅,rfl,by simp];have hlt:LtX dmT lt6 (nmL [x0,x1,x2,x3,x4,x5]) 0 [x0,x1,x2,x3,x4,x5] [1,1,1,1,1,1]:=λu v Z Z=>wB hf 0 [0,1,2,3,4,5] [1,1,1,1,1,1] u v;have hin:RIn [x0,x1,x2,x3,x4,x5] (eightR.map (mp (nmL [x0,x1,x2,x3,x4,x5]))):=qU (n:=6) rfl ∅;change Same H H'/\σ=%[tE ⇑[x0,x1,x2,x3,x4,x5],~~~!c,tE ⇑[x0],tE ⇑[x1],tE ⇑[x2],tE ⇑[x3],tE ⇑[x4],tE ⇑[x5]|4]
  ·rfl'
   erw[zdG]
   rfl'
   refine#[∅,∅,λD hD=>CompR.by (λi tK H'=>Same H H'/\H' D=tE (.lst tK)/\tK=(([x0,x1,x2,x3,x4,x5].take i).map λx=>V.str (tx [x]))) #[zc hD,zb,rfl] ?_ ?_]
   ·refine nm3 ?_;rintro i tK H' hi ⟨hs,hH,rfl⟩:_;have h4:i=0\/i=1\/i=2\/i=3\/i=4\/i=5:=by have:i<6:=hi;lia
    right
    erw[xy]
    rfl'
    rcases h4 with rfl | rfl | rfl | rfl | rfl | rfl <;> exact#[yJ,⋯,_,rfl,hH,by rw[aa,aF];exact bn (fB _ _) ⋯,x9 hi #[zH hs hD,zb,rfl]]
   ·refine nmB ?_;rintro tK H' ⟨hs,hH,rfl⟩:0;exact#[_,rfl,_,x6 hH,rfl,_,_,rfl,_,_,rfl,_,_,rfl,_,_,rfl,_,_,rfl,_,_,rfl,rfl,hs,rfl,rfl,rfl,rfl,rfl,rfl]
  rintro σ H1 ⟨s1,rfl⟩:0;change Same H1 H'/\∃pa:pC,LsA K H' pa ((eightR.map (mp (nmL [x0,x1,x2,x3,x4,x5]))).map dR)/\σ=%[tE ⇑[x0,x1,x2,x3,x4,x5],~~~!c,tE ⇑[x0],tE ⇑[x1],tE ⇑[x2],tE ⇑[x3],tE ⇑[x4],tE ⇑[x5],!!pa|3]
  ·rfl'
   refine#[⋯,⋯,λp0 hp0=>#[⋯,⋯,λp1 hp1=>#[⋯,⋯,λp2 hp2=>#[⋯,⋯,⋯,λp3 hp3=>#[⋯,⋯,⋯,λp4 hp4=>#[⋯,⋯,⋯,λp5 hp5=>#[⋯,⋯,⋯,λp6 hp6=>#[⋯,λp7 hp7=>?_]]]]]]]];have t0:=zc (o:=.tup [⇑[x0,x1],⇑[]]) hp0;have t1:=zc (o:=.tup [⇑[x2,x1],⇑[]]) hp1;have t2:=zc (o:=.tup [⇑[x3,x1],⇑[]]) hp2;have t3:=zc (o:=.tup [⇑[x1,x4,x4],⇑[]]) hp3;have t4:=zc (o:=.tup [⇑[x1,x4,x5],⇑[]]) hp4;have t5:=zc (o:=.tup [⇑[x1,x5,x4],⇑[]]) hp5;have t6:=zc (o:=.tup [⇑[x1,x5,x5],⇑[]]) hp6;have t7:=zc (o:=.lst [.ref p0,.ref p1,.ref p2,.ref p3,.ref p4,.ref p5,.ref p6]) hp7;have u7:=t7;have u6:=t6.trans u7;have u5:=t5.trans u6;have u4:=t4.trans u5;have u3:=t3.trans u4;have u2:=t2.trans u3;have u1:=t1.trans u2;rw[eight_m.1];exact#[t0.trans u1,_,zb,(zL (r:=([x0,x1],[])) (u1 _ _ zb) (zL (r:=([x2,x1],[])) (u2 _ _ zb) (zL (r:=([x3,x1],[])) (u3 _ _ zb) (zL (r:=([x1,x4,x4],[])) (u4 _ _ zb) (zL (r:=([x1,x4,x5],[])) (u5 _ _ zb) (zL (r:=([x1,x5,x4],[])) (u6 _ _ zb) (zL (r:=([x1,x5,x5],[])) (u7 _ _ zb) xJ)))))))]
  rintro σ H2 ⟨s2,pa,hP,rfl⟩:0;change Same H2 H'/\∃pt:pC,(∃rv bs,bs.length=eightR.length/\LsA K H' pt ((zf (sdL rv (eightR.map (mp (nmL [x0,x1,x2,x3,x4,x5]))) bs)).map dR))/\σ=%[tE ⇑[x0,x1,x2,x3,x4,x5],~~~!c,tE ⇑[x0],tE ⇑[x1],tE ⇑[x2],tE ⇑[x3],tE ⇑[x4],tE ⇑[x5],!!pa,!!pt|2]
  ·rfl'
   refine#[pa,c,_,rfl,hc,hP,by rw[aa];show 7<=12;decide,λD bs rv H' s' hD hbl hM=>#[D,rfl,?_,λD1 hD1=>?_]]
   ·let#[xs,hX,_]:=id hM;exact#[_,x6 hX]
   ·rw[aa]at hbl;exact vp hM (by rw[vI (by rw[aa];exact hbl),aa];show 7<=64;decide) hD1 λH'' s'' hL=>#[s'.trans s'',D1,#[rv,bs,hbl,hL],rfl]
  rintro σ H3 ⟨s3,pt,⟨rv,bs,hbl,hPt⟩,rfl⟩:_;have hbm:bs.length=(eightR.map (mp (nmL [x0,x1,x2,x3,x4,x5]))).length:=by rw[aa];exact hbl
  have hinT:=(UK (rv:=rv) hbm hin).ok (by rw[yD,vI hbm,aa];show 7<=30;decide);right;change Same H3 H'/\∃o:pC,OrdAt CO CR CW H' o 0 [x0,x1,x2,x3,x4,x5] [1,1,1,1,1,1]/\σ=[tE ⇑[x0,x1,x2,x3,x4,x5],~~~!c,tE ⇑[x0],tE ⇑[x1],tE ⇑[x2],tE ⇑[x3],tE ⇑[x4],tE ⇑[x5],!!pa,!!pt,!!o,tF]
  ·rfl'
   intro o dx hz hdx hne;have sd:=zc (o:=.own o) hdx
   have sx:Same H3 (upd (upd (upd H3 dx (.own o)) o (.ins CO dx [])) o (.ins CO dx [("letters",⇑[x0,x1,x2,x3,x4,x5])])):=λb o' e=>by
    rw[zm (zD e hz),zm (zD e hz)];exact sd _ _ e
   exact#[o,CO,dx,_,rfl,hg,T.cO,T.lO,zb,rfl,sx,dx,.inl #[rfl,zb]]
  rintro σ H4 ⟨s4,o,ho,rfl⟩:_;have hT4:=hTab.same (s1.trans (s2.trans (s3.trans s4)));right;change (TabOk H' TB lp lq/\OrdAt CO CR CW H' o 0 [x0,x1,x2,x3,x4,x5] [1,1,1,1,1,1]/\LsA K H' pt ((zf (sdL rv (eightR.map (mp (nmL [x0,x1,x2,x3,x4,x5]))) bs)).map dR))/\σ=[tE ⇑[x0,x1,x2,x3,x4,x5],~~~!c,tE ⇑[x0],tE ⇑[x1],tE ⇑[x2],tE ⇑[x3],tE ⇑[x4],tE ⇑[x5],!!pa,!!pt,!!o,tF]
  ·rfl'
   let#[px,hPx,hPi]:=id (hPt.same s4);refine#[px,.inl (x6 hPx),λld hld=>?_];have sl:=zc (o:=.lst px) hld;let#[tp,htp,_]:=id (hT4.same sl);refine ug (CR:=CR) (CW:=CW) (R:=eightR) (bs:=bs) (rv:=rv) (r:=0) (ou:=(tH,eightR)) (k:=0) (l:=[x0,x1,x2,x3,x4,x5]) (ns:=[1,1,1,1,1,1]) (ho.same sl) hG hf hlt eight_all.1 hbl ∅ hin #[px,zb,ja1 sl _ _ hPi] ∅ (hT4.same sl) λD p es H' sT hT' hp hM hpr hst hel=>?_;have hP':=((hP.same (s3.trans s4)).same sl).samT sT htp;have hPt':=((hPt.same s4).same sl).samT sT htp;exact#[p,D,pa,pt,tH,es,_,rfl,hp,hM,by rw[hpr];exact hP',hPt',hinT,hel,hst,λH'' s''=>#[tG,rfl,ZO #[hT'.same s'',((ho.same sl).samT sT htp).same s'',hPt'.same s'']]]
  rintro σ H5 ⟨⟨hT5,ho5,hPt5⟩,rfl⟩:0;change Same H5 H'/\∃pe:pC,LsA K H' pe ((eightO.map (mp (nmL [x0,x1,x2,x3,x4,x5]))).map dR)/\σ=[tE ⇑[x0,x1,x2,x3,x4,x5],~~~!c,tE ⇑[x0],tE ⇑[x1],tE ⇑[x2],tE ⇑[x3],tE ⇑[x4],tE ⇑[x5],!!pa,!!pt,!!o,!!pe]
  ·rfl'
   refine#[⋯,λp0 hp0=>#[⋯,⋯,λp1 hp1=>#[⋯,⋯,λp2 hp2=>#[⋯,⋯,λp3 hp3=>#[⋯,⋯,λp4 hp4=>#[⋯,⋯,λp5 hp5=>#[⋯,⋯,λp6 hp6=>#[⋯,⋯,λp7 hp7=>#[⋯,λp8 hp8=>?_]]]]]]]]];have t0:=zc (o:=.tup [⇑[x2],⇑[x0]]) hp0;have t1:=zc (o:=.tup [⇑[x0,x1],⇑[]]) hp1;have t2:=zc (o:=.tup [⇑[x1,x0],⇑[]]) hp2;have t3:=zc (o:=.tup [⇑[x3,x1],⇑[]]) hp3;have t4:=zc (o:=.tup [⇑[x4,x4],⇑[x0]]) hp4;have t5:=zc (o:=.tup [⇑[x4,x5],⇑[x0]]) hp5;have t6:=zc (o:=.tup [⇑[x5,x4],⇑[x0]]) hp6;have t7:=zc (o:=.tup [⇑[x5,x5],⇑[x0]]) hp7;have t8:=zc (o:=.lst [.ref p0,.ref p1,.ref p2,.ref p3,.ref p4,.ref p5,.ref p6,.ref p7]) hp8;have u8:=t8;have u7:=t7.trans u8;have u6:=t6.trans u7;have u5:=t5.trans u6;have u4:=t4.trans u5;have u3:=t3.trans u4;have u2:=t2.trans u3;have u1:=t1.trans u2;rw[eight_m.2];exact#[t0.trans u1,_,zb,(zL (r:=([x2],[x0])) (u1 _ _ zb) (zL (r:=([x0,x1],[])) (u2 _ _ zb) (zL (r:=([x1,x0],[])) (u3 _ _ zb) (zL (r:=([x3,x1],[])) (u4 _ _ zb) (zL (r:=([x4,x4],[x0])) (u5 _ _ zb) (zL (r:=([x4,x5],[x0])) (u6 _ _ zb) (zL (r:=([x5,x4],[x0])) (u7 _ _ zb) (zL (r:=([x5,x5],[x0])) (u8 _ _ zb) xJ))))))))]
  rintro σ H6 ⟨s6,pe,hPe,rfl⟩:0
  rfl'
  let#[px,hPx,hPi]:=id (hPt5.same s6);refine#[px,.inl (x6 hPx),λld hld=>?_];have sl:=zc (o:=.lst px) hld;let#[tp,htp,_]:=id ((hT5.same s6).same sl);refine ug (CR:=CR) (CW:=CW) (R:=eightR) (bs:=bs) (rv:=rv) (r:=1) (ou:=(tH,eightO)) (k:=0) (l:=[x0,x1,x2,x3,x4,x5]) (ns:=[1,1,1,1,1,1]) ((ho5.same s6).same sl) hG hf hlt eight_all.2 hbl ∅ hin #[px,zb,ja1 sl _ _ hPi] ∅ ((hT5.same s6).same sl) λD p es H' sT hT' hp hM hpr hst hel=>?_;exact#[p,D,pe,pt,tH,es,_,rfl,hp,hM,by rw[hpr];exact (hPe.same sl).samT sT htp,((hPt5.same s6).same sl).samT sT htp,hinT,hel,hst,λH' Z=>q H']
theorem Qr:∀ws:List (()),Str.join (tx []) (ws.map tx)=tx ws.flatten
 | []=>rfl
 | [w]=>by
  show tx w=_;simp
 | w::v::r=>by
  have ih:=Qr (v::r);show tx w ++ tx [] ++ Str.join (tx []) ((v::r).map tx)=_;rw[ih,wR,wR];simp
def Kn{ws:List (())}(h:ws.flatten.length<=100000):JoinOk (tx []) (ws.map tx)=tG:=by
 have s16:=yb
 have hf:∀(l:List (())) (n:Nat),(l.map tx).foldl (λa y=>a+y.length+0) n=n+l.flatten.length:=λl=>by
  induction l with
  | nil=>intro n;rfl
  | cons c r ih =>
   intro n;rw[ak,List.foldl_cons,ih,yk,cZ,aq];lia
 have e:JoinOk (tx []) (ws.map tx)=!PySem.Builtin.Str.tooLong ((ws.map tx).foldl (λa y=>a+y.length+0) 0):=by
  unfold JoinOk;rw[List.foldl_toArray];rfl
 rw[e,hf];unfold PySem.Builtin.Str.tooLong;rw[dO,decide_eq_false_iff_not];lia
def w12:List V:=twelveR.map λp=>V.str (tx (p.1.map (97 + ·)))
def zcS{i:Nat}{v:V}(h:w12[i]? = tE v):∃p,twelveR[i]? = tE p/\v=⇑(p.1.map (97 + ·))/\p.2=[]/\p.1.length=3/\∀d ∈ p.1,d<6:=by unfold w12 at h;rw[ay]at h;let#[p,hp,rfl]:=tS.mp h;have:∀p ∈ twelveR,p.2=[]/\p.1.length=3/\∀d ∈ p.1,d<6:=∅;exact#[p,hp,rfl,this p (ag hp)]
def ix6:∀d,d<6->97+d ∈ [97,98,99,100,101,102]/\[97,98,99,100,101,102].idxOf (97+d)=d:=∅
def YB(K:pB)(TB:pC):Sp:=λvs H Q Z=>∃(x0 x1 x2 x3 x4 x5:Nat) (c r0:Int),vs=[⇑[x0,x1,x2,x3,x4,x5],.int c,.int r0]/\wG [x0,x1,x2,x3,x4,x5]=tG/\ub c/\TabOk H TB lp lq/\∀H',Q (.bl tG) H'
def mh:sQz 3 ["_law_letters_here","_law_cell_here","_law_rounds","_law_pairs","_law_word","_law_pacts"] uc:=by nofun
def Qm{f CO CR CW TB:pC}{fd:pT}(B:Bt mg)(T:TWS P w K mg base CO CR CW)(F:("_law_twelve"^^^uc))(im:(5<<<"_law_told_right") ["_law_found","_law_whole_here","_law_pairs","_law_pacts"] [] (vZ K))(gR:(10<<<"completed") ["order","pacts","rounds"] [] (jB K CO CR CW TB))(iA:(2<<<"_law_sides") ["_law_pairs","_law_cell_here"] [] (vv K)):(11&&&["_law_letters_here","_law_cell_here","_law_rounds"]) (YB K TB):=by
 exists F.ok mh
 ·let#[x0,x1,x2,x3,x4,x5,c,r0,rfl,hg,hc,hTab,q]:=h
  refine#[_,(zg (zE 3 mh.nd (zX zd)) (zg (xh o9 rfl (zdS (zy (za zO (za zO (za zO (za zO (za zO (za zO (za zO (za zO (za zO (za zO (za zO (za zO zd)))))))))))))) (zr (i:=4) mh.nd rfl (.inl rfl)) (zh (ww (ut bE bM bN xg (pv 3) (za (zy (za (ut bI PySem.F.slot_str_join PySem.F.type_str_join zc4 zO (za (xf (own:=["_law_sign"]) (caps:=["_law_letters_here"]) (ix:=[0]) (tt:=xy) (te:=(tOp JN (z7 1) (tBM K "str" Vg (tC (.str "abcdef")) (zI (z7 0) xp)))) rfl (zM (sc:=zi uc) rfl (!0) (!0) (!0) rfl (!0) (!0) rfl) (XM (pv 4)) (λZ Z Z Z Z Z=>zr (i:=0) (show List.Nodup [_,_] by decide) rfl (.inl rfl)) (λZ Z Z Z Z Z=>zY) (λZ Z Z Z Z Z=>(zk vW (pv 1) (ut bI d4 d5 K2 zO (za (pv 0) zd))))) zd)) (za zO zd))) zd))))) (zg (vO (i:=5) mh.nd rfl (.inl rfl) (.inl rfl) (own:=["_law_entry"]) (caps:=[]) (ix:=[]) (tt:=xy) (te:=(Zo (zI (tOp (xO K) (z7 0) (tC (.int 0))) (zI (tOp (xO K) (z7 0) (tC (.int 1))) xp)))) rfl (zM (sc:=zi uc) rfl (!0) (!0) (!0) rfl (!0) (!0) rfl) (ye (cl0 iA hr .nil rfl (za (pv 3) (za (pv 1) zd)))) (λZ Z Z Z Z Z=>zr (i:=0) (show List.Nodup [_] by decide) rfl (.inl rfl)) (λZ Z Z Z Z Z=>zY) (λZ Z Z Z Z Z=>(zy (za (!-0) (za (!-0) zd))))) (zh (zp (cl0 im hr .nil rfl (za (cl0 gR hr .nil rfl (za (mkC T.mO hr rfl T.gO (za (pv 0) zd)) (za (yR yv rfl B.list jb0 (za (pv 5) zd)) (za (zq yq (pv 2) ze) zd)))) (za yA (za (pv 3) (za (pv 5) zd)))))))))),?_]
  have s16:=yb;have hn:=(y3 hg).2.2.2;have hf:=vQ hn;have hG:OG [x0,x1,x2,x3,x4,x5] [1,1,1,1,1,1] 0:=#[hg,∅,rfl,by simp];have hlt:LtX dmT lt6 (nmL [x0,x1,x2,x3,x4,x5]) 0 [x0,x1,x2,x3,x4,x5] [1,1,1,1,1,1]:=λu v Z Z=>wB hf 0 [0,1,2,3,4,5] [1,1,1,1,1,1] u v;have hin:RIn [x0,x1,x2,x3,x4,x5] (twelveR.map (mp (nmL [x0,x1,x2,x3,x4,x5]))):=qU (n:=6) rfl ∅;change Same H H'/\∃D:pC,H D=tF/\H' D=tE (.lst [])/\σ=%[tE ⇑[x0,x1,x2,x3,x4,x5],~~~!c,~~~!r0,!!D|2]
  ·rfl'
   exact#[⋯,λp hp=>#[zc hp,p,hp,zb,rfl]]
  rintro σ H1 ⟨s1,D,hD,hD1,rfl⟩:0;change Same H H'/\∃v4:Option V,LsA K H' D ((twelveR.map (mp (nmL [x0,x1,x2,x3,x4,x5]))).map dR)/\σ=[tE ⇑[x0,x1,x2,x3,x4,x5],~~~!c,~~~!r0,!!D,v4,tF]
  ·rfl'
   refine#[⋯,λpt hpt=>?_];have e12:[V.str "aad",V.str "aae",V.str "aaf",V.str "abe",V.str "abf",V.str "ace",V.str "acf",V.str "bae",V.str "baf",V.str "bbe",V.str "bbf",V.str "dcc"]=w12:=rfl;have hpD:pt≠D:=λe=>by rw[e,hD1]at hpt;cases hpt
   rw[e12];refine#[#[_,x8 zb],ForT.by (xs:=w12) (λi σ H'=>Same H H'/\H' pt=tE (.tup w12)/\∃v4:Option V,(∃tK,H' D=tE (.lst tK)/\Iss K (hid H' D) (((twelveR.map (mp (nmL [x0,x1,x2,x3,x4,x5]))).take i).map dR) tK)/\σ=[tE ⇑[x0,x1,x2,x3,x4,x5],~~~!c,~~~!r0,!!D,v4,tF]) #[s1.trans (zc hpt),zb,tF,#[[],zc hpt _ _ hD1,by erw[bi,aA,Iss]],rfl] (λi σ H' Z h=>x8 h.2.1) ?_ ?_]
   ·refine nm4 ?_;rintro i x σ H2 hx ⟨s2,hpt2,v4,⟨tK,hA,hI⟩,rfl⟩:_;let#[p,hp,rfl,hp2,hp3,hp6]:=zcS hx;have hal:=hI.len;rw[aa,aF]at hal;have hi12:=(tL.mp hx).1;have h12:w12.length=12:=rfl;right;ac_rfl;refine#[.inl #[_,x6 hA],λD1 hD1'=>CompS.by (l:=p.1.map (97 + ·)) (λn acc1 H'=>Same H2 H'/\H' D1=tE (.lst acc1)/\acc1=(((p.1.take n).map λd=>[nmL [x0,x1,x2,x3,x4,x5] d]).map tx).map V.str) #[zc hD1',zb,rfl] ?_ ?_]
    ·refine nm4 ?_;rintro n ch acc1 H' hch ⟨hs,hH,rfl⟩:_;rw[ay]at hch;let#[d,hd,rfl]:=tS.mp hch;have hd6:=hp6 d (ag hd);have hdl:=(tL.mp hd).1;right
     erw[xy]
     rfl'
     have hfd:Txt.find (bA "abcdef") (tx [97+d])=((d:Nat):Int):=by
      have:=V3 (l:=[97,98,99,100,101,102]) (ix6 d hd6).1;rw[(ix6 d hd6).2]at this;exact this
     rw[hfd];refine#[yJ,⋯,nmL [x0,x1,x2,x3,x4,x5] d,w8 ?_,hH,by erw[aa,aF];lia,x9 (by rw[aa];exact hdl) #[zH hs hD1',zb,?_]]
     ·unfold nmL;rw[ah (show d < [x0,x1,x2,x3,x4,x5].length from hd6)];rfl
     ·rw[zP hd,ar,ar,ar];rfl
    ·refine nmB ?_;rintro acc1 H' ⟨hs,hH,rfl⟩:_;rw[aa,aI]at hH
     have hfl:(p.1.map λd=>[nmL [x0,x1,x2,x3,x4,x5] d]).flatten=p.1.map (nmL [x0,x1,x2,x3,x4,x5]):=by
      induction p.1 with
      | nil=>rfl
      | cons a r ih=>rw[ak,cZ,ih];rfl
     right;refine#[tx [],D1,(p.1.map λd=>[nmL [x0,x1,x2,x3,x4,x5] d]).map tx,rfl,rfl,x6 hH,Kn (by rw[hfl,aa];lia),?_];have e:Txt.join (tx []) ((p.1.map λd=>[nmL [x0,x1,x2,x3,x4,x5] d]).map tx)=Str.join (tx []) ((p.1.map λd=>[nmL [x0,x1,x2,x3,x4,x5] d]).map tx):=StrLaws.glued_eq_join _ _;rw[e,Qr,hfl];have hD':=hs _ _ hA;refine#[⋯,λp1 hp1=>#[tK,zc hp1 _ _ hD',⋯,?_]];have up:=zc (o:=HO.tup [⇑(p.1.map (nmL [x0,x1,x2,x3,x4,x5])),⇑[]]) hp1;have hpR:p1≠D:=λe=>by rw[e,hD']at hp1;cases hp1
     have s5:=(s2.trans hs).trans up
     have hm:(twelveR.map (mp (nmL [x0,x1,x2,x3,x4,x5])))[i]? = tE (p.1.map (nmL [x0,x1,x2,x3,x4,x5]),[]):=by
      rw[ay,hp];show tE (p.1.map _,p.2.map _)=_;rw[hp2];rfl
     refine#[zH s5 hD,(zm hpD).trans (up _ _ (hs _ _ hpt2)),_,zb,?_];rw[UO,zP hm,ar];exact jb2 (ja1 (X3 (hs.trans up)) _ _ hI) (qK (UF (x8 ((uS hpR).trans zb))))
   ·refine nmB ?_;rintro σ H2 ⟨s2,hpt2,v4,⟨tK,hA,hI⟩,rfl⟩:0;exact#[s2,#[tK,hA,ja1 Wu _ _ hI],v4,rfl]
  rintro σ H2 ⟨s2,v4,hP,rfl⟩:0;change Same H2 H'/\∃pt:pC,(∃rv bs,bs.length=twelveR.length/\LsA K H' pt ((zf (sdL rv (twelveR.map (mp (nmL [x0,x1,x2,x3,x4,x5]))) bs)).map dR))/\σ=[tE ⇑[x0,x1,x2,x3,x4,x5],~~~!c,~~~!r0,!!D,v4,!!pt]
  ·rfl'
   refine#[D,c,_,rfl,hc,hP,by rw[aa];show 12<=12;decide,λD bs rv H' s' hD hbl hM=>#[D,rfl,?_,λD1 hD1=>?_]]
   ·let#[xs,hX,_]:=id hM;exact#[_,x6 hX]
   ·rw[aa]at hbl;exact vp hM (by rw[vI (by rw[aa];exact hbl),aa];show 12<=64;decide) hD1 λH'' s'' hL=>#[s'.trans s'',D1,#[rv,bs,hbl,hL],rfl]
  rintro σ H3 ⟨s3,pt,⟨rv,bs,hbl,hPt⟩,rfl⟩:_;have hbm:bs.length=(twelveR.map (mp (nmL [x0,x1,x2,x3,x4,x5]))).length:=by rw[aa];exact hbl
  have hinT:=(UK (rv:=rv) hbm hin).ok (by rw[yD,vI hbm,aa];show 12<=30;decide);right
  rfl'
  intro o dx hz hdx hne;have sd:=zc (o:=.own o) hdx
  have sx:Same H3 (upd (upd (upd H3 dx (.own o)) o (.ins CO dx [])) o (.ins CO dx [("letters",⇑[x0,x1,x2,x3,x4,x5])])):=λb o' e=>by
   rw[zm (zD e hz),zm (zD e hz)];exact sd _ _ e
  let#[px,hPx,hPi]:=id hPt;refine#[o,CO,dx,_,rfl,hg,T.cO,T.lO,zb,rfl,px,.inl (x6 (sx _ _ hPx)),λld hld=>#[∅,?_]];have sl:=zc (o:=.lst px) hld;have sa:=sx.trans sl;have hT3:=(hTab.same (s2.trans s3)).same sa;let#[tp,htp,_]:=id hT3;have hr0:0<=r0 % 7/\r0 % 7<7:=#[cG _ ∅,cE _ ∅];rw[show r0 % 7=((r0 % 7).toNat:Int) by lia];have r7:(r0 % 7).toNat ∈ [0,1,2,3,4,5,6]:=by erw[be,bc,or_false];lia
  have r8:(r0 % 7).toNat<=1000:=⋯;generalize (r0 % 7).toNat=r at r7 r8;refine ug (CR:=CR) (CW:=CW) (R:=twelveR) (bs:=bs) (rv:=rv) (r:=r) (ou:=(tH,twelveR)) (k:=0) (l:=[x0,x1,x2,x3,x4,x5]) (ns:=[1,1,1,1,1,1]) (OrdAt.same #[dx,.inl #[rfl,zb]] sl) hG hf hlt (Vx r r7) hbl ∅ hin #[px,zb,ja1 sa _ _ hPi] r8 hT3 λD' p es H' sT hT' hp hM hpr hst hel=>?_;exact#[p,D',D,pt,tH,es,_,rfl,hp,hM,by rw[hpr];exact ((hP.same s3).same sa).samT sT htp,(hPt.same sa).samT sT htp,hinT,hel,hst,λH' Z=>q H']
def kK{l:()}{n:Nat}(h0:1<=n)(h6:n<=6)(h1:(l.length:Int)=(n:Nat))(h2:l.Nodup)(h3:ZS l):wG l=tG:=y4 #[⋯,⋯,h3,h2]
def UI:∀k ∈ [2,3,4],∀n ∈ t39,inB 2 (xM k n)=tG:=by symm
def zdu{n m:Nat}(h2:2<=n)(h:n<2+m)(hm:m<=39):n ∈ t39:=by unfold t39;exact tM.mpr #[n - 2,tR.mpr ⋯,⋯]
def XG(K:pB)(T:pC):Sp:=λvs H Q Z=>∃(a:pC) (ns:List Int),vs=[.ref a]/\SqL K H a (ns.map V.int)/\(∀z ∈ ns,ub z)/\H T=tE (.tbl #[])/\∀H',Q (.bl tG) H'
def gY:sQz 1 ["_law_script","_law_letters_here","_law_x","_law_y","_law_way","_law_cell_here","_law_order","_law_pacts","_law_pairs","_law_size","_law_found","_law_refused","_law_told"] jS:=by nofun
def zev{f CO CR CW TB:pC}{fd:pT}(B:Bt mg)(T:TWS P w K mg base CO CR CW)(TR:TTr K)(F:("law"^^^jS))(mi:(2<<<"_law_letters") ["_law_cell_here","_law_many"] [] uA)(iQ:(1<<<"_law_cell") ["_law_script","_law_k"] [] (YO K))(oK:(2<<<"_law_grown") ["_law_x","_law_y","_law_cell_here","_law_most"] [] (X9 K))(gR:(10<<<"completed") ["order","pacts","rounds"] [] (jB K CO CR CW TB))(oP:(9<<<"_law_passing") ["_law_x","_law_y","_law_cell_here"] [] (VE K TB))(oy:(9<<<"_law_long_chain") ["_law_x","_law_y","_law_cell_here"] [] (Uu K TB))(pc:(11<<<"_law_kept") ["_law_x","_law_y","_law_cell_here","_law_rounds"] [] (Wv K TB))(nY:(11<<<"_law_far_overlap") ["_law_letters_here","_law_cell_here","_law_rounds"] [] (Ky K TB))(nZ:(11<<<"_law_first_eight") ["_law_letters_here","_law_cell_here"] [] (X5 K TB))(oU:(11<<<"_law_twelve") ["_law_letters_here","_law_cell_here","_law_rounds"] [] (YB K TB))(iP:(8<<<"_law_thinned") ["_law_order","_law_entries_here"] [] (qt K CO CR CW TB))(ik:(4<<<"_law_due_list") ["_law_found","_law_pairs","_law_pacts"] [] (jk K))(iA:(2<<<"_law_sides") ["_law_pairs","_law_cell_here"] [] (vv K)):(12&&&["_law_script"]) (XG K TB):=by
 exists F.ok gY
 ·let#[a,ns,rfl,hS,hB,hT,q]:=h
  refine#[_,(zg (zE 1 gY.nd (cl0 mi hr .nil rfl (za (cl0 iQ hr .nil rfl (za (pv 0) (za ze zd))) (za ze zd)))) (zg (zE 2 gY.nd (zk vW (pv 1) ze)) (zg (zE 3 gY.nd (zk vW (pv 1) ze)) (zg (zE 4 gY.nd (zq yq (cl0 iQ hr .nil rfl (za (pv 0) (za ze zd))) ze)) (zg (zE 5 gY.nd (cl0 iQ hr .nil rfl (za (pv 0) (za ze zd)))) (zg (zS (zB xL (pv 4) ze (zF _)) (zh (zp (cl0 oP hr .nil rfl (za (pv 2) (za (pv 3) (za (pv 5) zd))))))
    zv) (zg (zS (zB xL (pv 4) ze (zF _)) (zh (zp (cl0 oy hr .nil rfl (za (pv 2) (za (pv 3) (za (pv 5) zd))))))
    zv) (zg (zS (zB xL (pv 4) ze (zF _)) (zh (zp (cl0 pc hr .nil rfl (za (pv 2) (za (pv 3) (za (pv 5) (za (cl0 iQ hr .nil rfl (za (pv 0) (za ze zd))) zd)))))))
    zv) (zg (zS (zB xL (pv 4) ze (zF _)) (zh (zp (cl0 nY hr .nil rfl (za (cl0 mi hr .nil rfl (za (cl0 iQ hr .nil rfl (za (pv 0) (za ze zd))) (za ze zd))) (za (pv 5) (za (cl0 iQ hr .nil rfl (za (pv 0) (za ze zd))) zd))))))
    zv) (zg (zS (zB xL (pv 4) ze (zF _)) (zh (zp (cl0 nZ hr .nil rfl (za (cl0 mi hr .nil rfl (za (cl0 iQ hr .nil rfl (za (pv 0) (za ze zd))) (za ze zd))) (za (pv 5) zd)))))
    zv) (zg (zS (zB xL (pv 4) ze (zF _)) (zh (zp (cl0 oU hr .nil rfl (za (cl0 mi hr .nil rfl (za (cl0 iQ hr .nil rfl (za (pv 0) (za ze zd))) (za ze zd))) (za (pv 5) (za (cl0 iQ hr .nil rfl (za (pv 0) (za ze zd))) zd))))))
    zv) (zg (zE 6 gY.nd (zeA xe0 T.mW hr rfl T.gW (za (pv 1) (za (zX (za ze (za ze zd))) zd)))) (zg (zS (zB xL (pv 4) ze (zF _)) (zg (jv (cl0 oK hr .nil rfl (za (pv 2) (za (pv 3) (za (pv 5) (za ze zd))))) (wF (n:=3) rfl (zK (zr (i:=7) gY.nd rfl (.inl rfl)) (zK (zr (i:=8) gY.nd rfl (.inl rfl)) (zK (zr (i:=9) gY.nd rfl (.inl rfl)) yV))))) (zg (jv (cl0 iP hr .nil rfl (za (pv 6) (za (cl0 iA hr .nil rfl (za (pv 7) (za (pv 5) zd))) zd))) (wF (n:=2) rfl (zK (zr (i:=10) gY.nd rfl (.inl rfl)) (zK (zr (i:=11) gY.nd rfl (.inl rfl)) yV)))) (zg (zS (zB uT (pv 9) ze (zF _)) (zh (zp (va (pv 11) (w9 (yB op_isN' (pv 10) xj (zF _))))))
     zv) (zh (zp (va (jF (pv 11)) (w9 (cl0 ik hr .nil rfl (za (pv 10) (za (pv 8) (za (pv 7) zd)))))))))))
    zv) (zg (jv (cl0 oK hr .nil rfl (za (pv 2) (za (pv 3) (za (pv 5) (za ze zd))))) (wF (n:=3) rfl (zK (zr (i:=7) gY.nd rfl (.inl rfl)) (zK (zr (i:=8) gY.nd rfl (.inl rfl)) (zK (zr (i:=9) gY.nd rfl (.inl rfl)) yV))))) (zg (vO (i:=12) gY.nd rfl (.inl rfl) (.inl rfl) (own:=["_law_entry"]) (caps:=[]) (ix:=[]) (tt:=xy) (te:=(Zo (zI (tOp (xO K) (z7 0) (tC (.int 0))) (zI (tOp (xO K) (z7 0) (tC (.int 1))) xp)))) rfl (zM (sc:=zi jS) rfl (!0) (!0) (!0) rfl (!0) (!0) rfl) (ye (cl0 iA hr .nil rfl (za (pv 7) (za (pv 5) zd)))) (λZ Z Z Z Z Z=>zr (i:=0) (show List.Nodup [_] by decide) rfl (.inl rfl)) (λZ Z Z Z Z Z=>zY) (λZ Z Z Z Z Z=>(zy (za (!-0) (za (!-0) zd))))) (zg (zE 10 gY.nd (cl0 gR hr .nil rfl (za (pv 6) (za (yR yv rfl B.list jb0 (za (pv 12) zd)) (za (zq yq (cl0 iQ hr .nil rfl (za (pv 0) (za ze zd))) ze) zd))))) (zg (zS (PW.pt (w4 (yl (yU (yN rfl B.isi (pv 10) rfl B.tuple jb1) (λZ=>rfl))) (w4 (zB Yd (zR B.len (pv 10)) ze (zF _)) (wY (yl (yU (yN rfl B.isi (!-10) rfl B.bool jb3) (λZ=>rfl))))))) (zh (zp yA))
    zv) (zg (zS (zB uT (pv 9) ze (zF _)) (zh (zp (va (jF (!-10)) (w9 (yB (X7 (uJ hr)) (!-10) (zX zd) (zF _))))))
    zv) (zh (zp (va (!-10) (w9 (cl0 ik hr .nil rfl (za (!-10) (za (pv 8) (za (pv 12) zd)))))))))))))))))))))))))),?_]
  have s16:=yb;have hTab:TabOk H TB lp lq:=#[#[],hT,trivial,.inl rfl];change H'=H/\∃x y:Nat,wG [x,y]=tG/\σ=%[!!a,tE ⇑[x,y]|11]
  ·rfl'
   refine y8 hS hB ∅ λc hc=>wD hc ∅ ∅ λl h1 h2 h3=>?_;obtain⟨x,y,rfl⟩:∃x y,l=[x,y]:=match l,h1 with | [x,y],_=>#[x,y,rfl]
   exact#[rfl,x,y,kK (n:=2) ∅ ∅ h1 h2 h3,rfl]
  rintro σ H1 ⟨rfl,x,y,hg,rfl⟩:_;let#[hxy,g1,g2]:=Ja hg;right;change H'=H1/\σ=%[!!a,tE ⇑[x,y],tE ⇑[x]|10]
  ·rfl'
   exact#[by show 2<=_;decide,w8 (j:=0) rfl]
  rintro σ H1 ⟨rfl,rfl⟩:0;change H'=H1/\σ=%[!!a,tE ⇑[x,y],tE ⇑[x],tE ⇑[y]|9]
  ·rfl'
   exact#[by show 2<=_;decide,w8 (j:=1) rfl]
  rintro σ H1 ⟨rfl,rfl⟩:0;change H'=H1/\∃wy:Int,σ=%[!!a,tE ⇑[x,y],tE ⇑[x],tE ⇑[y],~~~!wy|8]
  ·rfl'
   exact y8 hS hB ∅ λc hc=>#[#[_,rfl],∅,rfl]
  rintro σ H1 ⟨rfl,wy,rfl⟩:0;change H'=H1/\∃c:Int,ub c/\σ=%[!!a,tE ⇑[x,y],tE ⇑[x],tE ⇑[y],~~~!wy,~~~!c|7]
  ·rfl'
   exact y8 hS hB ∅ λc hc=>#[rfl,c,hc,rfl]
  rintro σ H1 ⟨rfl,c,hc,rfl⟩:0;change H'=H1/\σ=%[!!a,tE ⇑[x,y],tE ⇑[x],tE ⇑[y],~~~!wy,~~~!c|7]
  ·rfl'
   exact yC (λZ=>#[x,y,c,rfl,hg,hc,hTab,q]) λZ=>trivial
  rintro σ H1 ⟨rfl,rfl⟩:0;change H'=H1/\σ=%[!!a,tE ⇑[x,y],tE ⇑[x],tE ⇑[y],~~~!wy,~~~!c|7]
  ·rfl'
   exact yC (λZ=>#[x,y,c,rfl,hg,hc,hTab,q]) λZ=>trivial
  rintro σ H1 ⟨rfl,rfl⟩:0;change H'=H1/\σ=%[!!a,tE ⇑[x,y],tE ⇑[x],tE ⇑[y],~~~!wy,~~~!c|7]
  ·rfl'
   exact yC (λZ=>y8 hS hB ∅ λr Z=>#[x,y,c,r,rfl,g1,g2,hc,hTab,q]) λZ=>trivial
  rintro σ H1 ⟨rfl,rfl⟩:0;change H'=H1/\σ=%[!!a,tE ⇑[x,y],tE ⇑[x],tE ⇑[y],~~~!wy,~~~!c|7]
  ·rfl'
   refine yC (λZ=>y8 hS hB ∅ λc0 hc0=>wD hc0 ∅ ∅ λl h1 h2 h3=>y8 hS hB ∅ λr Z=>?_) λZ=>trivial;obtain⟨x,y,z,rfl⟩:∃x y z,l=[x,y,z]:=match l,h1 with | [x,y,z],_=>#[x,y,z,rfl]
   exact#[x,y,z,c,r,rfl,kK (n:=3) ∅ ∅ h1 h2 h3,hc,hTab,q]
  rintro σ H1 ⟨rfl,rfl⟩:0;change H'=H1/\σ=%[!!a,tE ⇑[x,y],tE ⇑[x],tE ⇑[y],~~~!wy,~~~!c|7]
  ·rfl'
   refine yC (λZ=>y8 hS hB ∅ λc0 hc0=>wD hc0 ∅ ∅ λl h1 h2 h3=>?_) λZ=>trivial;let#[x0,x1,x2,x3,x4,x5,rfl]:=K0 (l:=l) ⋯;exact#[x0,x1,x2,x3,x4,x5,c,rfl,kK (n:=6) ∅ ∅ h1 h2 h3,hc,hTab,q]
  rintro σ H1 ⟨rfl,rfl⟩:0;change H'=H1/\σ=%[!!a,tE ⇑[x,y],tE ⇑[x],tE ⇑[y],~~~!wy,~~~!c|7]
  ·rfl'
   refine yC (λZ=>y8 hS hB ∅ λc0 hc0=>wD hc0 ∅ ∅ λl h1 h2 h3=>y8 hS hB ∅ λr Z=>?_) λZ=>trivial;let#[x0,x1,x2,x3,x4,x5,rfl]:=K0 (l:=l) ⋯;exact#[x0,x1,x2,x3,x4,x5,c,r,rfl,kK (n:=6) ∅ ∅ h1 h2 h3,hc,hTab,q]
  rintro σ H1 ⟨rfl,rfl⟩:0;change Same H1 H'/\∃o:pC,OrdAt CO CR CW H' o 2 [x,y] [5,1]/\σ=%[!!a,tE ⇑[x,y],tE ⇑[x],tE ⇑[y],~~~!wy,~~~!c,!!o|6]
  ·rfl'
   refine#[⋯,λp hp z dx hz hdx hne=>jx (ws:=[5,1]) hg rfl (by simp) hp hz hdx λH' s' ho=>#[rfl,s',ho]]
  rintro σ H2 ⟨s2,o,ho,rfl⟩:_;have hf:=vQ (l:=[x,y]) (by simp [hxy]);have hG:OG [x,y] [5,1] 2:=#[hg,∅,rfl,by simp];have hlt:LtX dmT ltG (nmL [x,y]) 2 [x,y] [5,1]:=λu v Z Z=>wB hf 2 [0,1] [5,1] u v;have hT2:=hTab.same s2;right;change H'=H2/\σ=%[!!a,tE ⇑[x,y],tE ⇑[x],tE ⇑[y],~~~!wy,~~~!c,!!o|6]
  ·rfl'
   refine yC (λZ=>?_) λZ=>trivial;change Same H2 H'/\∃(k n:Nat) (pa du:pC),(k ∈ [2,3,4]/\(2<=n/\n<2+39)/\LsA K H' pa (((xM k n).map (mp (nmL [x,y]))).map dR)/\LsA K H' du (((uo k n).map (mp (nmL [x,y]))).map dR))/\σ=%[!!a,tE ⇑[x,y],tE ⇑[x],tE ⇑[y],~~~!wy,~~~!c,!!o,!!pa,!!du,tE (.int ((k * n:Nat):Int))|3]
   ·rfl'
    refine#[x,y,39,c,rfl,hc,∅,∅,λk n pa du p H' hk h2 hn s' hP hDu hp=>?_];exact#[p,rfl,_,x8 hp,rfl,_,_,rfl,_,_,rfl,_,_,rfl,rfl,s',k,hk,n,h2,hn,pa,hP,du,hDu,rfl,rfl,rfl]
   rintro σ H3 ⟨s3,k,n,pa,du,⟨hk,hn,hP,hDu⟩,rfl⟩:_;have hn39:=zdu hn.1 hn.2 ∅;have hin:=qU (l:=[x,y]) rfl (UI k hk n hn39);have hev:=J6 k hk n hn39;rw[<- zaY]at hev;right;change ∃(fv:V) (b:Bool),(LsA K H' pa (((xM k n).map (mp (nmL [x,y]))).map dR)/\LsA K H' du (((uo k n).map (mp (nmL [x,y]))).map dR)/\((60<k * n/\fv=.non/\b=tG)\/(k * n<=60/\b=tH/\∃(D:pC) (es:List Ent),fv=.ref D/\EnsM K H' D es/\zf es=(uo k n).map (mp (nmL [x,y]))/\es.length<=64/\∀e ∈ es,StE ((xM k n).map (mp (nmL [x,y]))) e)))/\σ=[!!a,tE ⇑[x,y],tE ⇑[x],tE ⇑[y],~~~!wy,~~~!c,!!o,!!pa,!!du,tE (.int ((k * n:Nat):Int)),tE (fv),tE (.bl b),tF]
   ·rfl'
    refine#[pa,c,_,rfl,hc,hP,by rw[aa];show 2<=12;decide,λD bs rv H' s' hD hbl hM=>?_];have hbl':bs.length=(xM k n).length:=by rw[aa]at hbl;exact hbl
    have hT3:=(hT2.same s3).same s';let#[tp,htp,_]:=id hT3;have hso:=UY _ bs hbl hin rv;refine#[o,D,2,[x,y],[5,1],_,rfl,(ho.same s3).same s',hG,hM.l,?_,λe he=>(hso e he).1,hT3,λhT0 p H'' sT hp=>?_,λfs D' p H'' hT1 hBG sT hM' hp=>?_]
    ·have:=vI (rv:=rv) hbl;rw[aa]at this;show (sdL rv _ bs).length<64;rw[this];show 2<64;decide
    ·have h60:60<k * n:=bg λz=>by
      have e:=WS hf hlt hev hbl' hT0;rw[z9 z]at e;cases e
     exact#[_,rfl,_,x8 hp,rfl,_,_,rfl,_,_,rfl,rfl,(hP.same s').samT sT htp,(hDu.same s').samT sT htp,_,_,.inl #[h60,rfl,rfl],rfl,rfl]
    ·have e:=WS hf hlt hev hbl' hT1
     have h60:¬ 60<k * n:=λz=>by
      rw[z6 z]at e;cases e
     rw[z9 h60]at e;have hok:=(qo (rs:=(xM k n).map (mp (nmL [x,y]))) hG hT1 fs rfl (λe he=>(hso e he).1) λe he=>(hso e he).2).1;have hfn:=hBG.n;exact#[_,rfl,_,x8 hp,rfl,_,_,rfl,_,_,rfl,rfl,(hP.same s').samT sT htp,(hDu.same s').samT sT htp,_,_,.inr #[⋯,rfl,D',rfl,fs,hM',Option.some.inj e,⋯,λe he=>#[(hBG.e e he).a,(hBG.e e he).s,hok e he]],rfl,rfl]
   rintro σ H4 ⟨fv,b,⟨hP4,hDu4,hc4⟩,rfl⟩:0;change H'=H4/\k * n<=60/\σ=[!!a,tE ⇑[x,y],tE ⇑[x],tE ⇑[y],~~~!wy,~~~!c,!!o,!!pa,!!du,tE (.int ((k * n:Nat):Int)),tE (fv),tE (.bl b),tF]
   ·rfl'
    refine yC (λh=>?_) λh=>by lia
    rcases hc4 with ⟨_,rfl,rfl⟩ | ⟨h',_⟩
    ·exact yC (λZ=>q _) λz=>y9 rfl z
    ·lia
   rintro σ H5 ⟨rfl,h60,rfl⟩:0;rcases hc4 with ⟨h,_⟩ | ⟨_,rfl,D,es,rfl,hM,hpr,hel,hst⟩
   ·lia
   rfl'
   exact#[D,du,pa,es,_,rfl,hM,by rw[hpr];exact hDu4,hP4,hin.ok (by rw[aa];show 2<=30;decide),hel,hst,λH' Z=>q H']
  rintro σ H2 ⟨rfl,rfl⟩:0;change Same H2 H'/\∃(k n:Nat) (pa du:pC),(k ∈ [2,3,4]/\(2<=n/\n<2+9)/\LsA K H' pa (((xM k n).map (mp (nmL [x,y]))).map dR)/\LsA K H' du (((uo k n).map (mp (nmL [x,y]))).map dR))/\σ=%[!!a,tE ⇑[x,y],tE ⇑[x],tE ⇑[y],~~~!wy,~~~!c,!!o,!!pa,!!du,tE (.int ((k * n:Nat):Int))|3]
  ·rfl'
   refine#[x,y,9,c,rfl,hc,∅,∅,λk n pa du p H' hk h2 hn s' hP hDu hp=>?_];exact#[p,rfl,_,x8 hp,rfl,_,_,rfl,_,_,rfl,_,_,rfl,rfl,s',k,hk,n,h2,hn,pa,hP,du,hDu,rfl,rfl,rfl]
  rintro σ H3 ⟨s3,k,n,pa,du,⟨hk,hn,hP,hDu⟩,rfl⟩:_;have hn39:=zdu hn.1 hn.2 ∅;have hin:=qU (l:=[x,y]) rfl (UI k hk n hn39);right;change Same H3 H'/\∃pt:pC,(∃rv bs,bs.length=(xM k n).length/\LsA K H' pt ((zf (sdL rv ((xM k n).map (mp (nmL [x,y]))) bs)).map dR))/\σ=[!!a,tE ⇑[x,y],tE ⇑[x],tE ⇑[y],~~~!wy,~~~!c,!!o,!!pa,!!du,tE (.int ((k * n:Nat):Int)),tF,tF,!!pt]
  ·rfl'
   refine#[pa,c,_,rfl,hc,hP,by rw[aa];show 2<=12;decide,λD bs rv H' s' hD hbl hM=>#[D,rfl,?_,λD1 hD1=>?_]]
   ·let#[xs,hX,_]:=id hM;exact#[_,x6 hX]
   ·rw[aa]at hbl;exact vp hM (by rw[vI (by rw[aa];exact hbl),aa];show 2<=64;decide) hD1 λH'' s'' hL=>#[s'.trans s'',D1,#[rv,bs,hbl,hL],rfl]
  rintro σ H4 ⟨s4,pt,⟨rv,bs,hbl,hPt⟩,rfl⟩:_;have hbm:bs.length=((xM k n).map (mp (nmL [x,y]))).length:=by rw[aa];exact hbl
  have hinT:=(UK (rv:=rv) hbm hin).ok (by rw[yD,vI hbm,aa];show 2<=30;decide);right;change ∃(f' D:pC) (es:List Ent),(LsA K H' pt ((zf (sdL rv ((xM k n).map (mp (nmL [x,y]))) bs)).map dR)/\LsA K H' du (((uo k n).map (mp (nmL [x,y]))).map dR)/\H' f'=tE (.tup [.bl (!decide (10<k * n)),.ref D])/\EnsM K H' D es/\zf es=(if 10<k * n then []else (uo k n).map (mp (nmL [x,y])))/\es.length<=64/\∀e ∈ es,StE (zf (sdL rv ((xM k n).map (mp (nmL [x,y]))) bs)) e)/\σ=[!!a,tE ⇑[x,y],tE ⇑[x],tE ⇑[y],~~~!wy,~~~!c,!!o,!!pa,!!du,tE (.int ((k * n:Nat):Int)),!!f',tF,!!pt]
  ·rfl'
   let#[px,hPx,hPi]:=id hPt;refine#[px,.inl (x6 hPx),λld hld=>y8 ((s2.trans (s3.trans (s4.trans (zc hld)))).seq hS) hB ∅ λr0 Z=>#[_,rfl,∅,?_]];have sl:=zc (o:=.lst px) hld;have hT4:=((hT2.same s3).same s4).same sl;let#[tp,htp,_]:=id hT4;have hr0:0<=r0 % 4/\r0 % 4<4:=#[cG _ ∅,cE _ ∅];rw[show r0 % 4=((r0 % 4).toNat:Int) by lia];have r7:(r0 % 4).toNat ∈ [0,1,2,3]:=by erw[be,bc,or_false];lia
   have r8:(r0 % 4).toNat<=1000:=⋯;generalize (r0 % 4).toNat=r at r7 r8;have hn10:n ∈ [2,3,4,5,6,7,8,9,10]:=by erw[be,bc,or_false];lia
   refine ug (CR:=CR) (CW:=CW) (R:=xM k n) (bs:=bs) (rv:=rv) (r:=r) (ou:=if 10<k * n then (tH,[])else (tG,uo k n)) (k:=2) (l:=[x,y]) (ns:=[5,1]) (((ho.same s3).same s4).same sl) hG hf hlt (V0 k hk n hn10 r r7) hbl (by show 2<=20;decide) hin #[px,zb,ja1 sl _ _ hPi] r8 hT4 λD p es H' sT hT' hp hM hpr hst hel=>?_;refine#[(hPt.same sl).samT sT htp,((hDu.same s4).same sl).samT sT htp,p,D,?_,es,hM,?_,hel,hst,rfl]
   ·rw[hp];by_cases h:10<k * n
    ·rw[z6 h,y4 h];rfl
    ·rw[z9 h,y6 h];rfl
   ·rw[hpr];by_cases h:10<k * n
    ·rw[z6 h,z6 h];rfl
    ·rw[z9 h,z9 h]
  rintro σ H5 ⟨f',D,es,⟨hPt5,hDu5,hf5,hM5,hpr,hel,hst⟩,rfl⟩:0;change H'=H5/\σ=[!!a,tE ⇑[x,y],tE ⇑[x],tE ⇑[y],~~~!wy,~~~!c,!!o,!!pa,!!du,tE (.int ((k * n:Nat):Int)),!!f',tF,!!pt]
  ·rfl'
   exact#[_,.inl (.tup hf5),tG,TR.kt,ZO #[_,.inr #[_,x8 hf5,rfl],yC (λz=>y9 rfl z) λZ=>#[_,x8 hf5,_,rfl,_,.inl (.bl _),tG,TR.kb,ZO trivial]]]
  rintro σ H5 ⟨rfl,rfl⟩:0;change H'=H5/\k * n<=10/\σ=[!!a,tE ⇑[x,y],tE ⇑[x],tE ⇑[y],~~~!wy,~~~!c,!!o,!!pa,!!du,tE (.int ((k * n:Nat):Int)),!!f',tF,!!pt]
  ·rfl'
   refine yC (λh=>?_) λh=>by lia
   have h10:10<k * n:=⋯;rw[y4 h10]at hf5;rw[z6 h10]at hpr;obtain rfl:es=[]:=List.map_eq_nil_iff.mp hpr;refine#[_,x8 hf5,_,rfl,tH,rfl,yC (λZ=>#[_,x8 hf5,_,rfl,aw _,λp hp=>?_]) λz=>y9 rfl z];refine kA (l:=[]) (m:=[]) (.inl #[(hM5.same (zc hp)).l.is,LsA.is #[[],zb,by erw[Iss]]]) ∅ (by rw[xI];exact q _)
  rintro σ H5 ⟨rfl,h10,rfl⟩:_;have h10':¬ 10<k * n:=⋯;rw[y6 h10']at hf5;rw[z9 h10']at hpr;right
  rfl'
  exact#[_,x8 hf5,_,rfl,tG,rfl,zen #[_,x8 hf5,_,rfl,D,du,pt,es,_,rfl,hM5,by rw[hpr];exact hDu5,hPt5,hinT,hel,hst,λH' Z=>q H']]
end
end
mutual section
def FnE(K:pB)(x q:pG)(st:pN)(f:pC):Prop:=∃fd,Fun K x q st f fd
def FnA(K:pB)(x:pG)(st:pN)(f:pC):Prop:=aE K pj x=tE (tE (.ref f))/\FnE K x x st f
def FnA.mk{K:pB}{x:pG}{st:pN}{f:pC}{h:pS}{mg:pG->Option pD}(q:FnA K x st f)(X:K.In h)(G:h.Ns pj mg):mg x=tE (.ref f)/\aK K (.ref f)=tG/\FnE K x x st f:=by let#[a,fd,F]:=q;exact#[aL X G a,F.kp,fd,F]
def Y0{us:List pD}(h:us.length=1):∃a,us=[a]:=List.length_eq_one_iff.mp h
theorem uw{us:List pD}(h:us.length=2):∃a0 a1,us=[a0,a1]:=by
 cases us with
 | nil=>cases h
 | cons a r =>
  let#[a1,rfl]:=Y0 (Nat.succ.inj h);exact#[a,a1,rfl]
theorem ZZ{us:List pD}(h:us.length=3):∃a0 a1 a2,us=[a0,a1,a2]:=by
 cases us with
 | nil=>cases h
 | cons a r =>
  let#[a1,a2,rfl]:=uw (Nat.succ.inj h);exact#[a,a1,a2,rfl]
theorem KT{us:List pD}(h:us.length=4):∃a0 a1 a2 a3,us=[a0,a1,a2,a3]:=by
 cases us with
 | nil=>cases h
 | cons a r =>
  let#[a1,a2,a3,rfl]:=ZZ (Nat.succ.inj h);exact#[a,a1,a2,a3,rfl]
theorem zgG{us:List pD}(h:us.length=5):∃a0 a1 a2 a3 a4,us=[a0,a1,a2,a3,a4]:=by
 cases us with
 | nil=>cases h
 | cons a r =>
  let#[a1,a2,a3,a4,rfl]:=KT (Nat.succ.inj h);exact#[a,a1,a2,a3,a4,rfl]
theorem zgE{us:List pD}(h:us.length=6):∃a0 a1 a2 a3 a4 a5,us=[a0,a1,a2,a3,a4,a5]:=by
 cases us with
 | nil=>cases h
 | cons a r =>
  let#[a1,a2,a3,a4,a5,rfl]:=zgG (Nat.succ.inj h);exact#[a,a1,a2,a3,a4,a5,rfl]
theorem zgS{us:List pD}(h:us.length=7):∃a0 a1 a2 a3 a4 a5 a6,us=[a0,a1,a2,a3,a4,a5,a6]:=by
 cases us with
 | nil=>cases h
 | cons a r =>
  let#[a1,a2,a3,a4,a5,a6,rfl]:=zgE (Nat.succ.inj h);exact#[a,a1,a2,a3,a4,a5,a6,rfl]
def dfm(P:pJ)(w:pR){K:pB}{mg:pG->Option pD}(base:pS){CX:CXT}{k:Nat}{f:pC}{fd:pT}{nm:pG}{ps:List pG}{sp:Sp}(h:FnOk P w K mg base CX k f fd ps sp)(m:mg nm=tE (.ref f))(p:aK K (.ref f)=tG)(b:Binds K fd ps []):Df P w K mg base CX k nm ps [] sp:=#[_,_,h,m,p,b]
def FnA.df(P:pJ)(w:pR){K:pB}{h:pS}{mg:pG->Option pD}(base:pS){x:pG}{st:pN}{f:_}{CX:CXT}{k:Nat}{ps:List pG}{sp:Sp}(q:FnA K x st f)(X:K.In h)(G:h.Ns pj mg)(H:∀{fd},Fun K x x st f fd->FnOk P w K mg base CX k f fd ps sp)(hb:∀(kV doc pm:pD) (an:Option pC) (cdv ct:pD) (us:List pD),us.length=ps.length->bindArgs (bv x x (yQ st) (yn st) (zi st) .none kV doc pm an cdv ct) #[us,[]]=pure (ps.zip us)):Df P w K mg base CX k x ps [] sp:=by let#[M,p,_,F]:=q.mk X G;exact dfm P w base (H F) M p (F.binds hb)
end
local macro_rules | `(tactic| injections)=>`(tactic| (intro _ _ _ _ _ _ us hl;first | (obtain⟨_,e⟩:=Y0 hl;subst e;rfl) | (obtain⟨_,_,e⟩:=uw hl;subst e;rfl) | (obtain⟨_,_,_,e⟩:=ZZ hl;subst e;rfl) | (obtain⟨_,_,_,_,e⟩:=KT hl;subst e;rfl)))
local macro_rules | `(nofun)=>`(by injections)
def all_mk{l:PySem.W.OpenLaw}{w:pR}{K:pB}{h:pS}{mg:pG->Option pD}{fa f0 f1 f2 f3 f4 f5 f6 f7 f8 f9 f10 f11 f12 f13 f14 f15 f16 f17 f18 f19 f20 f21 f22 f23 f24 f25 f26 f27 f28 f29 f30 f31 f32 f33 f34 f35 f36 f37 f38 f39 f40 f41 f42 f43 f44 f45 f46 f47 f48 f49 f50 gN gQ gZ gF gD gH gL ie gG mY:pC}{cc TB:pC}(X:K.In h)(G:h.Ns pj mg)(hfa:mg "law" = tE (.ref fa))(hlam:∃a o fd,mg "in_order" = tE (.ref a)/\h.get? a=tE o/\o.data=.func fd/\fd.code=.ref cc)(hgT:pj≠TB)
{od6 an6 od12 an12 od29 an29 od50 an50:Option pC}{sl6 sl12 sl29 sl50:Array (Option pD)}{oc6 kV6 dc6 pm6 cd6 ct6 oc12 kV12 dc12 pm12 cd12 ct12 oc29 kV29 dc29 pm29 cd29 ct29 oc50 kV50 dc50 pm50 cd50 ct50:pD}
  {t6 t7:sP}
  {fI:pC}
  {odI anI:Option pC}
  {slI:Array (Option pD)}
  {ocI kVI dcI pmI cdI ctI:pD}
  {t8:sP}
  {fU:pC}
  {odU anU:Option pC}
  {slU:Array (Option pD)}
  {ocU kVU dcU pmU cdU ctU:pD}
  {tmu tms tmd tmp:sP}
  {tcu tce tcd tcp:sP}
  {iS:pC}
  {lg:pC}
  {iT:pC}
  {iK:pC}
  {iB:pC}
  {iU:pC}
  {iG:pC}
  {lw:pC}
  {ip:pC}
  {nw:pC}
  {nv:sP}
  {d1_gone:pD}
  {d2_gone:Option pC}
  {d3_gone:Nat}
  {d4_gone:Array (Option pD)}
  {mv:pC}
  {nE:sP}
  {d1_unmet:pD}
  {d2_unmet:Option pC}
  {d3_unmet:Nat}
  {d4_unmet:Array (Option pD)}
  (a0:FnA K "is_small_letter" yX f0)
  (a1:FnA K "letters_of" wT f1)
  (a2:FnA K "stands_at" vP f2)
  (a3:FnA K "put" zbt f3)
  (a4:FnA K "first_within" xZ f4)
  (a5:FnA K "first_from" wL f5)
  (a6:aE K pj "gone" = tE (tE (.ref f6))) (l6:K.lookup f6=tE #[oc6,od6,.func (bv "gone" "gone" (yQ vH) (yn vH) (zi vH) (.ref nw) kV6 dc6 pm6 an6 cd6 ct6),sl6]) (k6:bP K cd6 "gone" = tG) (p6:aK K (.ref f6)=tG)
  (a7:FnA K "back" Ww f7)
  (a8:FnA K "moved" kX f8)
  (a9:FnA K "by_pacts" uF f9)
  (a10:FnA K "pairs_of" vm f10)
  (a11:FnA K "as_rule" jm f11)
  (a12:aE K pj "in_order" = tE (tE (.ref f12))) (l12:K.lookup f12=tE #[oc12,od12,.func (bv "in_order" "in_order" (yQ yK) (yn yK) (zi yK) .none kV12 dc12 pm12 an12 cd12 ct12),sl12]) (k12:bP K cd12 "in_order" = tG) (p12:aK K (.ref f12)=tG)
  (a13:FnA K "brought_down" xU f13)
  (a14:FnA K "refuse_beyond" xH f14)
  (a15:FnA K "built_anew" vh f15)
  (a16:FnA K "thinned" jE f16)
  (a17:FnA K "_law_cell" U1 f17)
  (a18:FnA K "_law_mixed" Xt f18)
  (a19:FnA K "_law_letters" jp f19)
  (a20:FnA K "_law_whole" Xq f20)
  (a21:FnA K "_law_steps" YY f21)
  (a22:FnA K "_law_used" VW f22)
  (a23:FnA K "_law_end" zci f23)
  (a24:FnA K "agree" Y8 f24)
  (a25:FnA K "overlaps" uK f25)
  (a26:FnA K "peak" VP f26)
  (a27:FnA K "form_of" ji f27)
  (a28:FnA K "is_met" kC f28)
  (a29:aE K pj "unmet" = tE (tE (.ref f29))) (l29:K.lookup f29=tE #[oc29,od29,.func (bv "unmet" "unmet" (yQ xY) (yn xY) (zi xY) (.ref mv) kV29 dc29 pm29 an29 cd29 ct29),sl29]) (k29:bP K cd29 "unmet" = tG) (p29:aK K (.ref f29)=tG)
  (a30:FnA K "system_by" vL f30)
  (a31:FnA K "first_entries" yO f31)
  (a32:FnA K "is_beyond" wC f32)
  (a33:FnA K "thinned_within" xo f33)
  (a34:FnA K "unmet_within" xT f34)
  (a35:FnA K "entry_of" uE f35)
  (a36:FnA K "completed" wA f36)
  (a37:FnA K "_law_entries" jz f37)
  (a38:FnA K "_law_sides" ZA f38)
  (a39:FnA K "_law_due_list" wf f39)
  (a40:FnA K "_law_told_right" vk f40)
  (a41:FnA K "_law_thinned" vM f41)
  (a42:FnA K "_law_passing" jl f42)
  (a43:FnA K "_law_grown" YW f43)
  (a44:FnA K "_law_swings" qx f44)
  (a45:FnA K "_law_long_chain" xP f45)
  (a46:FnA K "_law_kept" VQ f46)
  (a47:FnA K "_law_far_overlap" yz f47)
  (a48:FnA K "_law_first_eight" yP f48)
  (a49:FnA K "_law_twelve" uc f49)
  (a50:aE K pj "law" = tE (tE (.ref f50))) (l50:K.lookup f50=tE #[oc50,od50,.func (bv "law" "law" (yQ jS) (yn jS) (zi jS) .none kV50 dc50 pm50 an50 cd50 ct50),sl50]) (k50:bP K cd50 "law" = tG) (p50:aK K (.ref f50)=tG)
  (g_LetterError:aE K pj "LetterError" = tE (tE (.ref gN)))
  (g_NoLetters:aE K pj "NoLetters" = tE (tE (.ref gQ)))
  (g_NoOrder:aE K pj "NoOrder" = tE (tE (.ref gZ)))
  (g_Order:aE K pj "Order" = tE (tE (.ref gF)))
  (g_ByWeights:aE K pj "ByWeights" = tE (tE (.ref gD)))
  (g_NotTurned:aE K pj "NotTurned" = tE (tE (.ref gH)))
  (g_System:aE K pj "System" = tE (tE (.ref gL)))
  (g_NoUse:aE K pj "NoUse" = tE (tE (.ref ie)))
  (g_TooFar:aE K pj "TooFar" = tE (tE (.ref gG)))
  (g_TooMany:aE K pj "TooMany" = tE (tE (.ref mY)))
  (kbb:aS K (.type "bool") (.type "bool")=tE tG)
  (kt:aS K (.type "tuple") (.type "tuple")=tE tG)
  (ki:aS K (.type "int") (.type "int")=tE tG)
  (kb:aS K (.type "int") (.type "bool")=tE tH)
  (kl:aS K (.type "list") (.type "list")=tE tG)
  (XIl:XI K gQ)
  (xi:aj K (.ref gQ) "__init__" = tE (tE (.builtin "ValueError.__init__")))
  (XIo:XI K gZ)
  (yi:aj K (.ref gZ) "__init__" = tE (tE (.builtin "ValueError.__init__")))
  (most:aE K pj "MOST_LETTERS" = tE (tE (.int 6 t6)))
  (mostw:aE K pj "MOST_WEIGHT" = tE (tE (.int 1000000 t7)))
  (mw:cB K gF gh=tG)
  (mx:cI K gF=tG)
  (my:cY K gF=tG)
  (mz:aj K (.ref gF) "__setattr__" = tE (tE (.builtin "object.__setattr__")))
  (nG:dz K gF=tG)
  (nH:aK K (.ref gF)=tG)
  (mB:aj K (.ref gF) "letters" = tE tF)
  (oz:aS K (.ref gF) (.ref gF)=tE tG)
  (oB:aj K (.ref gF) "__class__" = tE (tE (.builtin "object.__class__")))
  (oE:bO K gF (.type "object")=tE tG)
  (lT:cB K gD gh=tG)
  (lV:cI K gD=tG)
  (lX:cY K gD=tG)
  (lY:aj K (.ref gD) "__setattr__" = tE (tE (.builtin "object.__setattr__")))
  (lZ:dz K gD=tG)
  (md:aK K (.ref gD)=tG)
  (me:aj K (.ref gD) "letters" = tE tF)
  (mZ:aS K (.ref gD) (.ref gF)=tE tG)
  (nc:aj K (.ref gD) "__class__" = tE (tE (.builtin "object.__class__")))
  (ng:bO K gD (.type "object")=tE tG)
  (nw_ByWeights:aj K (.ref gD) "weights" = tE tF)
  (sgO:cJ K (.ref gF) "__getattribute__" = tE (tE (.builtin "type.__getattribute__")))
  (rdO:gy K gF (.type "type")=tG)
  (win:aE K pj "WINDOW" = tE (tE (.int 128 t8)))
  (XIt:XI K gH)
  (nn:aj K (.ref gH) "number" = tE tF)
  (ini:aj K (.ref gH) "__init__" = tE (tE (.ref fI)))
  (lI:K.lookup fI=tE #[ocI,odI,.func (bv "__init__" "NotTurned.__init__" (yQ yd) (yn yd) (zi yd) .none kVI dcI pmI anI cdI ctI),slI])
  (kI:bP K cdI "NotTurned.__init__" = tG)
  (pI:aK K (.ref fI)=tG)
  (fnI:bp K (.ref fI)=tG)
  (nh:cB K gL gh=tG)
  (ni:cI K gL=tG)
  (nj:cY K gL=tG)
  (nk:aj K (.ref gL) "__setattr__" = tE (tE (.builtin "object.__setattr__")))
  (nq:dz K gL=tG)
  (nt:aK K (.ref gL)=tG)
  (no_System:aj K (.ref gL) "order" = tE tF)
  (nr_System:aj K (.ref gL) "rules" = tE tF)
  (XIu:XI K ie)
  (ua:aj K (.ref ie) "at" = tE tF)
  (iniU:aj K (.ref ie) "__init__" = tE (tE (.ref fU)))
  (lU:K.lookup fU=tE #[ocU,odU,.func (bv "__init__" "NoUse.__init__" (yQ yI) (yn yI) (zi yI) .none kVU dcU pmU anU cdU ctU),slU])
  (kU:bP K cdU "NoUse.__init__" = tG)
  (pU:aK K (.ref fU)=tG)
  (fnU:bp K (.ref fU)=tG)
  (XIf:XI K gG)
  (vi:aj K (.ref gG) "__init__" = tE (tE (.builtin "ValueError.__init__")))
  (sFF:cy K (.ref gG) (.ref gG)=tE tG)
  (XIe:XI K gN)
  (sFE:cy K (.ref gG) (.ref gN)=tE tG)
  (kFF:aS K (.ref gG) (.ref gG)=tE tG)
  (kFM:aS K (.ref gG) (.ref mY)=tE tH)
  (ks:aS K (.type "str") (.type "str")=tE tG)
  (nany:aE K pj "any" = tE tF)
  (nsorted:aE K pj "sorted" = tE tF)
  (mou:aE K pj "MOST_USES_thinning" = tE (tE (.int 40 tmu)))
  (mos:aE K pj "MOST_STEPS" = tE (tE (.int 240 tms)))
  (mod_:aE K pj "MOST_SIDE_thinning" = tE (tE (.int 60 tmd)))
  (mop:aE K pj "MOST_PASSES" = tE (tE (.int 20 tmp)))
  (mcu:aE K pj "MOST_USES_completing" = tE (tE (.int 40 tcu)))
  (mce:aE K pj "MOST_ENTRIES" = tE (tE (.int 12 tce)))
  (mcd:aE K pj "MOST_SIDE_completing" = tE (tE (.int 10 tcd)))
  (mcp:aE K pj "MOST_PEAKS" = tE (tE (.int 8 tcp)))
  (lD:aj K (.ref gF) "__init__" = tE (tE (.ref iS)))
  (lE:FnE K "__init__" "Order.__init__" vd iS)
  (lF:bp K (.ref iS)=tG)
  (lh:aj K (.ref gF) "weight" = tE (tE (.ref lg)))
  (li:FnE K "weight" "Order.weight" wa lg)
  (lj:bp K (.ref lg)=tG)
  (lG:aj K (.ref gF) "seen" = tE (tE (.ref iT)))
  (lH:FnE K "seen" "Order.seen" ve iT)
  (iV:bp K (.ref iT)=tG)
  (iL:aj K (.ref gD) "__init__" = tE (tE (.ref iK)))
  (iM:FnE K "__init__" "ByWeights.__init__" xn iK)
  (iN:bp K (.ref iK)=tG)
  (iC:aj K (.ref gD) "weight" = tE (tE (.ref iB)))
  (iD:FnE K "weight" "ByWeights.weight" yt iB)
  (iE:bp K (.ref iB)=tG)
  (lJ:aj K (.ref gF) "rank" = tE (tE (.ref iU)))
  (lL:FnE K "rank" "Order.rank" xQ iU)
  (iW:bp K (.ref iU)=tG)
  (lm:aj K (.ref gF) "before" = tE (tE (.ref iG)))
  (ln:FnE K "before" "Order.before" xV iG)
  (iH:bp K (.ref iG)=tG)
  (lx:aj K (.ref gL) "__init__" = tE (tE (.ref lw)))
  (ly:FnE K "__init__" "System.__init__" wE lw)
  (lA:bp K (.ref lw)=tG)
  (iq:aj K (.ref gL) "rules_told" = tE (tE (.ref ip)))
  (ir:FnE K "rules_told" "System.rules_told" yG ip)
  (iu:bp K (.ref ip)=tG)
  (ny:K.lookup nw=tE #[d1_gone,d2_gone,.seq #[.int 4000 nv] d3_gone,d4_gone])
  (mC:K.lookup mv=tE #[d1_unmet,d2_unmet,.seq #[.int 4000 nE] d3_unmet,d4_unmet])
  (fcO:gz K (.ref gF) (.type "type") "__init__" = tE (.val (.ref iS)))
  (fiW_seen:aj K (.ref gD) "seen" = tE (tE (.ref iT)))
  (fiW_rank:aj K (.ref gD) "rank" = tE (tE (.ref iU)))
  (fiW_before:aj K (.ref gD) "before" = tE (tE (.ref iG)))
  (b0:aE K pj "len" = tE tF)
  (b1:aE K pj "range" = tE tF)
  (b2:aE K pj "isinstance" = tE tF)
  (b3:aE K pj "str" = tE tF)
  (b4:aE K pj "int" = tE tF)
  (b5:aE K pj "tuple" = tE tF)
  (b6:aE K pj "list" = tE tF)
  (b7:aE K pj "bool" = tE tF)
  (b8:aE K pj "enumerate" = tE tF)
  (b9:aE K pj "all" = tE tF)
  (b10:aE K pj "ValueError" = tE tF)
  (b11:aE K pj "max" = tE tF)
  (b12:aE K pj "reversed" = tE tF)
  (b13:aE K pj "zip" = tE tF)
  (b14:aE K pj "sum" = tE tF)
  (b15:aE K pj "sorted" = tE tF)
  : ∃fd:pT,(∀(s:pF) (v:pD),sI s fd #[[v],[]] [("_law_script",v)])/\∀base:pS,K.In base->base.Ns pj mg->base.BuiltinsAt mg TB->PySem.W.CodeHd base cc TB->FnOk l.prog w K mg base CX0 12 fa fd ["_law_script"] (XG K TB):=by
 have e:=hfa.symm.trans (aL X G a50);cases e;have B:Bt mg:=#[aQ X G b0,aQ X G b1,aQ X G b2,aQ X G b3,aQ X G b4,aQ X G b5,aQ X G b6,aQ X G b7,aQ X G b8,aQ X G b9,aQ X G b10,aQ X G b11,aQ X G b12,aQ X G b13,aQ X G b14,aQ X G b15];have F6:FunD K "gone" "gone" vH (.ref nw) f6 (bv "gone" "gone" (yQ vH) (yn vH) (zi vH) (.ref nw) kV6 dc6 pm6 an6 cd6 ct6):=⟨#[_,_,_,_,_,_,_,_,_,rfl,l6,k6]⟩;have M6:=aL X G a6;have F12:=fun_mk (st:=yK) l12 k12 p12;have M12:=aL X G a12;have F29:FunD K "unmet" "unmet" xY (.ref mv) f29 (bv "unmet" "unmet" (yQ xY) (yn xY) (zi xY) (.ref mv) kV29 dc29 pm29 an29 cd29 ct29):=⟨#[_,_,_,_,_,_,_,_,_,rfl,l29,k29]⟩;have M29:=aL X G a29;have F50:=fun_mk (st:=jS) l50 k50 p50;have B50:=F50.binds (ps:=["_law_script"]) nofun;have M50:=aL X G a50
 have HCC:cd12=.ref cc:=by
  let#[ai,oi,fdi,m1,m2,m3,m4]:=hlam;have e1:=m1.symm.trans (aL X G a12);cases e1;have e2:=m2.symm.trans (X _ _ l12);cases e2;cases m3;exact m4
 refine#[bv "law" "law" (yQ jS) (yn jS) (zi jS) .none kV50 dc50 pm50 an50 cd50 ct50,λs v=>.of_eq rfl,λbase Z Z HBT HCH=>?_];have TL:zge K mg gQ:=#[XIl,xi,aL X G g_NoLetters,t6,aL X G most];have TN:zf1 K mg gZ:=#[XIo,yi,aL X G g_NoOrder,t7,aL X G mostw];have TO:TOrd K mg gF gF gD:=#[#[mw,mx,my,mz],#[mw,mx,my,mz],#[lT,lV,lX,lY],aL X G g_Order,aL X G g_ByWeights,mB,mB,me,nw_ByWeights];have TNt:TNT K mg gH:=#[XIt,aL X G g_NotTurned,nn];have FI:=fun_mk (st:=yd) lI kI pI;have BI:=FI.binds (ps:=["self","number"]) nofun;have TD:DNT l.prog w K mg base gH:=#[TNt,_,_,ini,fnI,uC TNt FI,BI];have TS:zdB K mg gL:=#[#[nh,ni,nj,nk],aL X G g_System,no_System,nr_System];have TWi:zgl mg:=#[t8,aL X G win];have TNu:TNU K mg ie:=#[XIu,aL X G g_NoUse,ua];have FU:=fun_mk (st:=yI) lU kU pU;have BU:=FU.binds (ps:=["self","at"]) nofun;have TUd:DNU l.prog w K mg base ie:=#[TNu,_,_,iniU,fnU,ky TNu FU,BU];have TF:zaU K mg gG:=#[XIf,vi,aL X G g_TooFar];have TMk:TMo mg:=#[#[tmu,aL X G mou],#[tms,aL X G mos],#[tmd,aL X G mod_],#[tmp,aL X G mop]];have TMcc:TMc mg:=#[#[tcu,aL X G mcu],#[tce,aL X G mce],#[tcd,aL X G mcd],#[tcp,aL X G mcp]];have d:=λ{x st f CX k ps sp}(q:FnA K x st f) H hb=>FnA.df l.prog w base (CX:=CX) (k:=k) (ps:=ps) (sp:=sp) q X G H hb;have D0:=d a0 (λF=>JY F) nofun;have D1:=d a1 (λF=>Zw B TL F D0) nofun;have D2:=d a2 (λF=>Z5 B F) nofun;have D3:=d a3 (λF=>zd4 B TUd F D2) nofun;let#[_,iX]:=lE;have oa:=iX.kp;have mI:=iX.binds (ps:=["self","letters"]) nofun;have og:DMk l.prog w K mg base CX0 3 gF ["self","letters"] (qw K):=#[_,_,#[nG,lD,lF,nH],v8 B iX D1,mI];have DI:DOI l.prog w K mg base gF:=#[_,_,#[sgO,rdO,fcO,oa],v8 B iX D1,mI];let#[_,lr]:=li;have nO:=lr.kp;have nP:=lr.binds (ps:=["self","word"]) nofun;have nQ:DM l.prog w K mg base CX0 1 gF "weight" ["self","word"] YR:=#[_,_,#[lh,lj,nO],qQ B lr,nP];let#[_,iY]:=lH;have mJ:=iY.kp;have mK:=iY.binds (ps:=["self","word"]) nofun;have oh:DM l.prog w K mg base CX0 1 gF "seen" ["self","word"] X1:=#[_,_,#[lG,iV,mJ],um B iY,mK];let#[_,iO]:=iM;have oQ:=iO.kp;have nz:=iO.binds (ps:=["self","letters","weights"]) nofun;have nA:DMk l.prog w K mg base (CXx l.prog w) 4 gD ["self","letters","weights"] (qj K gD):=#[_,_,#[lZ,iL,iN,md],ux B TO TN DI iO,nz];let#[_,iF]:=iD;have mP:=iF.kp;have mQ:=iF.binds (ps:=["self","word"]) nofun;have mR:DM l.prog w K mg base CX0 1 gD "weight" ["self","word"] (Y4 gD):=#[_,_,#[iC,iE,mP],vR B TO iF,mQ];have TT:TWS l.prog w K mg base gF gF gD:=#[TO,og,nA,nQ,mR,oh,#[_,_,#[fiW_seen,iV,mJ],um B iY,mK]];let#[_,iZ]:=lL;have mL:=iZ.kp;have mM:=iZ.binds (ps:=["self","word"]) nofun;have mN:DM l.prog w K mg base CX0 2 gF "rank" ["self","word"] (jt gF gF gD):=#[_,_,#[lJ,iW,mL],ue B TT iZ,mM];have DRk:DR l.prog w K mg base gF gF gD:=⟨λC h=>by rcases h with e | e | e; (rw[e];exact#[TO.cO,mN]); (rw[e];exact#[TO.cO,mN]); (rw[e];exact#[TO.cW,#[_,_,#[fiW_rank,iW,mL],ue B TT iZ,mM]])⟩;let#[_,iI]:=ln;have mj:=iI.kp;have ml:=iI.binds (ps:=["self","one","other"]) nofun;have mm:DM l.prog w K mg base CX0 3 gF "before" ["self","one","other"] (QL gF gF gD):=#[_,_,#[lm,iH,mj],vj B DRk iI,ml];have DBk:DB l.prog w K mg base gF gF gD:=⟨λC h=>by rcases h with e | e | e; (rw[e];exact#[TO.cO,mm]); (rw[e];exact#[TO.cO,mm]); (rw[e];exact#[TO.cW,#[_,_,#[fiW_before,iH,mj],vj B DRk iI,ml]])⟩;have D4:=d a4 (λF=>qR B F) nofun;have D5:=d a5 (λF=>kG B TWi F D4) nofun;have O6:=zaS (P:=l.prog) (w:=w) (base:=base) B TF TUd F6 D5 D3;have D6:Df l.prog w K mg base (CXx l.prog w) 4 "gone" ["rules","word","most"] [] (vc K gG):=#[_,_,O6,M6,p6,λs us hK hl=>by let#[_,_,_,rfl]:=ZZ (us:=us) ↥hl;exact BindsTo.of_defaults rfl (hK _ _ ny) rfl rfl rfl];have D6d:Df l.prog w K mg base (CXx l.prog w) 4 "gone" ["rules","word","most"] [.int 4000 nv] (vc K gG):=#[_,_,O6,M6,p6,λs us hK hl=>by let#[_,_,rfl]:=uw (us:=us) ↥hl;exact BindsTo.of_defaults rfl (hK _ _ ny) rfl rfl rfl];have D7:=d a7 (λF=>zcm B F) nofun;have D8:=d a8 (λF=>Kq B F) nofun;have D9:=d a9 (λF=>Xm B F D8 D7) nofun;have D10:=d a10 (λF=>Y1 B F) nofun;have D11:=d a11 (λF=>W9 B DBk F D7) nofun;have D12:=dfm l.prog w base (Xk B DRk (aQ X G nsorted) HCH HBT hgT F12 HCC D11) M12 p12 (F12.binds nofun);have D13:=d a13 (λF=>qD B TMk F D10 D6 D6d D9 D7) nofun;have D14:=d a14 (λF=>qg B TF TMk F) nofun;have D15:=d a15 (λF=>Zi B F D13 D14 D11) nofun;have D16:=d a16 (λF=>Vd B TF TMk F D12 D15 D10) nofun;have D17:=d a17 (λF=>zbL B F) nofun;have D18:=d a18 (λF=>J9 B F) nofun;have D19:=d a19 (λF=>Vm B F D18) nofun;have D20:=d a20 (λF=>Jd B #[ki,kb] F) nofun;have D21:=d a21 (λF=>JW B #[kl,kt,kbb] F D20) nofun;have D22:=d a22 (λF=>zbi B F) nofun;have D23:=d a23 (λF=>zcM B F D22) nofun;let#[_,lB]:=ly;have oZ:=lB.kp;have nV:=lB.binds (ps:=["self","order","rules"]) nofun;have nW:DMk l.prog w K mg base (CXx l.prog w) 5 gL ["self","order","rules"] (qz K gF gF gD gH gL):=#[_,_,#[nq,lx,lA,nt],jU B TD TS DBk lB,nV];have MS:MkS l.prog w K mg base gF gF gD gH gL:=nW;have D24:=d a24 (λF=>Jn B F) nofun;have D25:=d a25 (λF=>XB B F D24) nofun;have D26:=d a26 (λF=>zaA B F D3) nofun;have D27:=d a27 (λF=>W3 B F D6 D6d) nofun;have D28:=d a28 (λF=>Qq B F D26 D27) nofun;let#[_,iw]:=ir;have mD:=iw.kp;have mF:=iw.binds (ps:=["self"]) nofun;have mG:DM l.prog w K mg base CX0 1 gL "rules_told" ["self"] (Ze K gL):=#[_,_,#[iq,iu,mD],vA B TS iw,mF];have O29:=Jj (P:=l.prog) (w:=w) (base:=base) B TS F29 D25 D28 mG;have D29:Df l.prog w K mg base (CXx l.prog w) 7 "unmet" ["system","most"] [] (vV K gL gG):=#[_,_,O29,M29,p29,λs us hK hl=>by let#[_,_,rfl]:=uw (us:=us) ↥hl;exact BindsTo.of_defaults rfl (hK _ _ mC) rfl rfl rfl];have D29d:Df l.prog w K mg base (CXx l.prog w) 7 "unmet" ["system","most"] [.int 4000 nE] (vV K gL gG):=#[_,_,O29,M29,p29,λs us hK hl=>by let#[_,rfl]:=Y0 (us:=us) ↥hl;exact BindsTo.of_defaults rfl (hK _ _ mC) rfl rfl rfl];have D30:=d a30 (λF=>Yo B TS MS F D10) nofun;have D31:=d a31 (λF=>qh B F) nofun;have D32:=d a32 (λF=>Z0 B (aQ X G nany) TMcc F) nofun;have D33:=d a33 (λF=>uB B TF ⟨sFF⟩ F D16 D32) nofun;have D34:=d a34 (λF=>jg B TF ⟨sFF⟩ TMcc F D29 D29d D30) nofun;have D35:=d a35 (λF=>Xy B F D26 D9 D10) nofun;have D36:=d a36 (λF=>Yv B TMcc F D31 D33 D34 D35) nofun;have D37:=d a37 (λF=>Vr B #[kl,kt,kbb] ⟨ks⟩ F D21) nofun;have D38:=d a38 (λF=>JE B F D18) nofun;have D39:=d a39 (λF=>Xa B F D37 D23) nofun;have D40:=d a40 (λF=>ZC B #[kt,kbb] F D39) nofun;have TA:zga K mg gG gN mY:=#[aL X G g_LetterError,aL X G g_TooMany,XIe,sFE,kFF,kFM];have D41:=d a41 (λF=>Z1 B TA TF F D16) nofun;have D42:=d a42 (λF=>Vo B TT F D41 D38 D39 D18) nofun;have D43:=d a43 (λF=>J8 B F D18) nofun;have D44:=d a44 (λF=>Qk B F) nofun;have D45:=d a45 (λF=>Zt B TT F D44 D41 D18 D39) nofun;have D46:=d a46 (λF=>zaI B TT #[kt,kbb] F D36 D37 D18) nofun;have D47:=d a47 (λF=>jQ B TT (aQ X G nsorted) F D36 D40 D18 D38) nofun;have D48:=d a48 (λF=>jP B TT F D40 D36 D38) nofun;have D49:=d a49 (λF=>Qm B TT F D40 D36 D38) nofun;exact zev B TT #[kt,kbb] F50 D19 D17 D43 D36 D42 D45 D46 D47 D48 D49 D41 D39 D38
def walk{l:PySem.W.OpenLaw}{q:pJ}{loose:List pG}{XP:(pG->Option pD)->pS->Prop}{YP:pR->pS->Prop}{d:DefRec}{K:Params->pB}(hn:l.most=tE 63)(hdf:d.params.defaults=[])(hY:∀(w:pR) (h:pS),YP w h->(K w.params).In h) (hj:((PyProof.Rows.recsOf q).find? λr=>r.name ==("in_order" : pG)).isSome=tG) (hno:∀w:pR,zbp (K w.params)=tG)(F:∀(w:pR) (mg:pG->Option pD) (fa:pC) (h:pS) (cc T:pC),(K w.params).In h->h.Ns pj mg->mg d.name=tE (.ref fa)->(∃a o fd,mg "in_order" = tE (.ref a)/\h.get? a=tE o/\o.data=.func fd/\fd.code=.ref cc)->pj≠T ->
   ∃fd:pT,(∀(s:pF) (u:pD),sI s fd #[[u],[]] [("_law_script",u)])/\∀base:pS,(K w.params).In base->base.Ns pj mg->base.BuiltinsAt mg T->PySem.W.CodeHd base cc T->FnOk l.prog w (K w.params) mg base CX0 12 fa fd ["_law_script"] (XG (K w.params) T)) :
  PySem.W.WalkO q loose XP YP l.row.toRowW d [] (λf vs=>fW f vs):=by
 let#[din,hd]:=tW.mp hj;have hnm:din.name="in_order":=by simpa using ef hd
 exact L3.walk_ofT (n:=63) (k:=12) (x:="_law_script") (CX:=λZ=>CX0) (din:=din) (sp:=λw T=>XG (K w.params) T) hn ∅ hdf #[rfl,∅,∅] (eW hd) hY hno (λw mg fa h cc T a b c e g=>F w mg fa h cc T a b c (by rw[hnm]at e;exact e) g) (λZ Z a ns T hl hB hT hS=>#[a,ns,rfl,hS,hB,hT,λZ=>rfl]) λZ Z Z Z Z z=>z
end LL
namespace PySem.W.Fast
local macro_rules | `(#print $s:str)=>do let c:=s.getString.toList;let d<-(List.range (c.length/10)).mapM λi=>`(def $(mkIdent (.mkSimple s!"tw{((c.drop (10*i)).take 10).foldl (λa x=>let n:=x.toNat;a*86+(n-36-if n>92 then 5 else if n>64 then 3 else if n>47 then 2 else if n>45 then 1 else 0)) 0}")):ident:=Nat);return Lean.mkNullNode d.toArray
#print "8]{ca)C62~n%2rh3|m~+`Y8i(p%lT1]q.~><AoM_GpvwctRuHA'0N~TvSc4u6OibXdXFNdZPiPMBM:,M1%ykURQq'H9%a]eN^Ij$2<Y&v(1E)t)Qmp'~{K}fpMf<S=6keC${&P>c>}T73>})4*I,5..cSV>.~]un;lIRW5_}{m<J0zC%HE%iUQ<AkWsJk3^:$'wzh4=H:,EP.BhJ'C;Y_i;?u+m<Ih^,_:qFZjbu}aMyt|ICjD::`t$Y?`mrs:X8doJS'QulBiD9a5Bf|M0,=s`;%Fv,xDdP7Se.vzd(X9Ggk]]br;Fs5'D$iMFf_zeX<c{Cmtvjnx_*wr0kJNkYdoDF;SlK~zkX*19mQKNfQm~6rLwlkO*rP4vme,iT*cXG]{REe;HtIEfa^A3gTk9Ui2hwW|g{Utjj?mjX_D{:rBV)N&,I6m~%GW'1jC:o1tt^Z9V]$f7>Q4oq`C1sLXX0P)'5T2`(RZ}<F*Ce$RIr2,cqXZ{:V3Hi(ymv3Qn_K<jqAXhL3&pve,j$5%Gr^~.9Ja{X8BSP_Senp.PYdZ$>_AkyF&LY=Xl2*OBb?Lk~y}J8nSa?R=OR;GU<ZUAMVhW]j^jL<`=F3Do$<53>F0S?bQ<u6NiQKn<Dm:arsIPc`mk?ewcrUul(5dTk^hzHV)Rk5shAy$Y)<<`X+&0=1gzz3{LLcC{KX(?72FwLm.fWgJa=^n<2*ea5U,N&%D}+FL<r6Tu6t0gVgk.Tw2zl30cXn<dkac.9GlQ*yl2A^O>TQw5*7dUJR{;>.xtiiugLT,51]?I<s~`XU'3{kyP>`s=N)iX=Fit?(Tp_U}+L`.Br$+='(eqTY$f'&f8CK7sQ=4m=*YYhNM&>TUBRI{_Fuxc:'CSR*<lTL`3T*.i2Km`)_2(nxY2::.~,2`eE>YAeC}?7$D4a'ITU6PaogaK^,(4Y2&Ec'n]1j]&nw;G^%}g~*EVuZ:1?l:bSO8],Jq'}a{jC5?]%}Aej'_Zsn^G120.7,zd*yPVBW~oMm,C2.T^)=b77Hb+2{8Ibq%n,m|~4b0M5QTRywef%{pdxMdL,U1Ra%Or.Xpg6=qc{i?]cTw1XP*&(?TZ>FbXH2.=W4wMd]:nj49)S2]ur%30XHj8ShtAewaT2gbeovkMxT8djP%{b^037~}CUJTj|^2.>8=+W(.7>HXb52bcjisc6K,RziZWCDs;^]dj0nZtMko$y$OTzf8x(xlfi;?]jfuUB*5%inh;2FevYgKO_4jROZdK3=8GMQuPkCqmQ_prP]H9$|1,HVO}XlR^T~UY=KEBTF(>q56c(O~6ns*>]`nS+uk:A5j4D?l'm]2kt$;`AJ(8J*gDW'HoVF91%:VO.cQ6)U+d3UoFC=Cz*]k'KGOFBO^>Nou^c'?DE^IOd}W+A.7JRV|7CnLK2w55='>p08I+.Z^V4y4cFe0OZ_NZnQ}0tgvi9%KmX+o),Q,>^Ip=tNP=f_=^wqRmQAs?M].>v+5H$C=MO'hCqigOL97_qGBK=W~F2A34X32,%uYQo9%54Z2BVWI&&v=T~68t_Ypj>ipwSE4hh.nTWmP>iMCv%i<EjlNKI7kcLMZCL?Kltf?JwB5gu9qQB?PT(%CrVu,jY(A.Fby0Rhilgb'mwN|5Y8X%k{hKW,O{6<abVdpyH<NbkCwLAuL{P,**7&zJHml^cd8a4cK_F(8juG%{U8^X1`9f+`s;U1IU_{,,Gu`a$IyJzHKxrTa`%]2>JNE?+WFfyFJr)nMkcb%5PFNC}qH`VPSh7lfbAxlevuN8mI~e}*wl2U$,q:?Q?+7%;5z'_8n4JDE7ZBJ9?<kbFcd]1^,GLP|XoC1gdKa5VNbA|PWyWn%8rO)^Z}AAZ8N>x:ZIOeR0QX1EFYGK2E*.=Nq5~2}1wif:}%SjHbJR4HW0;pEpOeOFg*,aOtai}ZWha^j??zfh)hs&X`>M{Z_C$9Va?6H*Z|R.;HB%:9(>MW'e)Et%gkY]qipc'rs&OfkO~f*EB&K?QQJK].%Lbl2niErvkvhcnpXsRptYHA4n]zhmUQu0vLxTzcS$GcbHz4y1)%:6]E]W+z;w<V(PsAVMJ't,wRD>PR'Ls(TB|GlpjS=1),]VXb5?CE5.Wt|;bcDT=y'N^8a0.BvFQ^cj131J<dTy)*Jg4UHf`xg}8V'O+rvG1OQ{K$Wu4cuuwdHFDgY(8i]4dUQ|oh}T'Eb,bupb(sfWVcQ&smQs]EDhh_li2ukJ0'{Lvd}OCBN=.^)EUPpGWjf{sF)^0~ud$cU~OjmK42Dh2Y$Nx2MPC'urs4m$8bv~JB]_kp3=d+Nbx+Y_2?=%:y^^2~rFX'%w,h0mib1|V3`s2J(Y'=MY`DNLlH7eQmFDsYE$MLrEX:3orUPTs]W+LCf)87Ryd2v91gy|UAow&MYJomEB}=qu;RXmu>04s`sRNG$d?kIjP;WDuX|vD)(fNlizJbRu9B,O$B3Yi,.on,l.0F2R1PM{_mwqElz%Oe|5k*p^KUyQuu4;q,np^EC']eAVnT&cWR+Sl*.BjhN=X=sSUTah<eHks3YF1Lq7uXt7pC%~2E9zQk%'_8&S?1;4lkbk|.:O9{D0wN~^Uv$km3f5JCG_7E8H*ez}rv*MCOqNCnzd2c]T7eTawHK:5e%R{X;_5oOYAg(HkE7$Ogwv1Cy'A{._l+9p~syb)dqh|&K`LhP:3dh((6)VKm(7krw$HQCQi8SK{l+xg]CD}T9AluRBXOVl$kbauK=m,>f>c|uG?rJwU~.MzQ%QxiFVO^493WK;Cc(NWcKqNcmQ:w1(0acoA^PysS=g*]8ENRKO.nzI'RKsT_}kyV)(2:NAIV`HG,AMs]gD7PPP2Vh:*OlJ}:JUW_k6*r%F=}lD|Dj(4o=jm,6x%HnRA|V2AXK~q;B6oIDTkyLME*(Jx^Z7=v]NtL=x}'<EdBC7)t8yyylHpCE)u.YQiz,Ml3U|u:ZE<E.dhn7U>q&Z8%besGLn'otR'hU0LK`Deb0`0N,sz.pP78eLM3>EqGQiFs^9I<DA*$_].QsYzdw8|bGyk(NNUFs^CNC?,WDg{69$U1&1*CwC3hsY5tC)D<1.(hyv(Z.=ZRwYC8BU5y2~P:H4h1+HKkin{h{+M~u>O>aitI7E'H4I`Jj*p0JH>MKIwG,SR^,I1$<4SFERO3RyMiFhW{5^NJDeP5LA{7GRTGC<uas20E;Y^=>2wAh0g&bdrHUNU>KW_cyzgar0t:Nj^8`VWIt'P<|T6ej}l|{Br4h_2bRq|2b$c&%6_x]&'PB`eZTck(<`B$;a'N2)c%FB(J*Dc`(4mpUpIc'w.H%oDXVU'w]V&5Z0Y+_N:LVV(g}S~6jFs6Q}z.ZtQvI?O*m>3pMf`fQkwgE+fZJH0G6aMBX,?HGt^9G+:oOTtnhiR^KqVM|xw%KyQo{kIw%*.Dr{OZvp3~O.Qu>WPHO<=djF.T?=ECluE3Y6zJXQsKz{T(v`:cdn.^9W|<51qRsicnwO';G_<T`F?82k(1B?ulI^m<Gy3l1H.=8ZXgoBg+ZF,;,`YwB<(+`ZoDL.`nev%p{%rr`aQGrou>=iAd1Vm2aA&{5Wn++nh'AbW).Bj]0o+Fn:%p(G7G%tWFm;UlD1N(47LUu:kFI.=,Ka|YgMGu7Uk`2u_]kUjg8,m~]=q{*i:w:U55IL2E^^9:N.SD;><ew1Z`+WZhg8uxx2phN<XvrYL?(w+W3917eqXo:oJU97*bSATkkGCtM9Br+.j=wVGD^>%_197WMV`AN&Yj`uV*iSFM>6B~'EDMF2&ofs(<4`g=JJd%E'iq7JzuHbL,5C`S5j($5etaVG%9oWjYb,?.~Ce4dPq&HH027lg1eUnUuq+|GHAEzErXJEey{%)I+Yk=DA<B2:<u6s;u>(aOYF&Q_$qDtRo=6Fb:kB_&=1r)y;I.4FRMbmG9?)4ZP2bdByd{Uo~I+FNn]&DT5egi`^+&'jK'&mBo%`4YA*Jks>zSUgkBM?F%OSS,](rB]esL'KPTlvLH99WPP_iz|S=fM:XfbUUzBq46O6=}F)orX.H3LU91Z9um2Y=K3Bri]jBC=iv,41J1D?fn>4LA3U0OkaRW}jGK_<wy}LX4zL`Y+>.Q*miVRNvu>adH]4'`hyQz]SBBfv^J?h2ctWpis6X?j]{4C$s5f.6M(m|=(2x8}lN3=7{JaE7a+W,P;pc?507boiP;)Rkb&(Vdc}g{P(=?%3g|E2hI*We}pWu7Dt=F{._0|aGu=LThT]0vte<OP,REnMEy;i~b]f|?w:z$(R5JJ8EYe),0;?xl0~rcjX3f0BB):d}FvEnpRWQP(?7^DpK4|dQJeksxj_qTSPgKf:P|W$PSb5ak`lq,F2`7^~<PIYeJQ>2R?|O9|u7.3ousC=^;<jOS.8d,$$)}W]d^N.Z*LVsl9E)Lq7FAWw<H0OXKsL(,NP%A66MSm((HL=jKsZ1NLLHh7r.maiyncTIFr}BMv4X=d4w]:W$o8i=c?0'TK{6CW:,'>;0)Tok:7)Df%?5DuI?Na|=f}'>*.mXDO:MF9y38uOO(69M27>w:g<b*R.pjun%8i3g?zMRY+P3^bV`g`$~H|LZ=qB`*=??DFr*hv)ReIJHm68G?]M==]NOQN_za61z6,ozgPeT,bcXektk7{FB2uCS&I5{'T483GJobQ(4xPS$18g+:&Yq]=N{8tbTU=ZLYkT,Tc,y|SJRhMg`l^d1SJjG?I'n7k*:s(b7ZwU7_u^*^Oo,8oM)ZBSQnpmGz6%U&6;P_V]FA<Osx7'py|*}>nG&R%:bs$lxi)_Wj7T^KluID]`mHbSW;~gOo<J<&LpS1bRM92Q4zY}fRN'^Q;wCkY_kcpO=.sw<5l|N3eU5eUzYeP;7D5'*bbZ_KtD]PXOVs6X{R&hb5+Gdf^.By+)e,E&a`el&~Qs?1a4WM<_V)~V,E.FnUf<s4F|]V+JK<'CsfBkTu<:D3AyeC8A5M51n8l~1rH=Z8Ojk,P4lp98Iv+{L7t<>]n<;MvHJ,lp63)F3t,9SK_nbCDuh(pZMs=1LRsk&0Ep`WpVVPz$YFM_.3SJV4Y2uqwrCd2D`H50xP|PYjhKoA)cFy<Q|?1~7po]2D5YRJ6Au.U4&IpPwkQCD=l%zyT'$lfVx5$oQgcl$3vJegX=t:zd7}hk=nZo(?l=jx%AKog<a{6Yz1]RH(x^^L8Y7Uxb0)S>:Bo2yQ?,fI;g>`n^?k%(h:glOcA*Ko'2^DH6~mufef&ux5cqR4hOe2P%`DKdQw$}RiKw9lOID$9'&SKWM1bXN.QfPk~}cDcZ8tMbrb~=5Menemh~~?,gBwZ9cubyQg;_Q0?A99,H=2$xk%&aSC]ZVm{NHIbBxS6x,hvpr,k5wZZL7CoUc<'w2cg(ikTTs+sY$C]3|o0pv%7{$VFN{~J&AFrYZ$s`l66aCOXWyhr7%2.i1Kv1)(v><a|%j1JE&TR;tcC$+m|^|8NoWF(m7>=GuoQJC4*Uz>{F%h,Fj`cKQY8iO`_6TD,<fZ:*j}TC+zMG)j;01RtM)hsW?JF.Keg7rf}y_bj(fScCksxH&`bwpW*lvYM'wK?)Ilnis.:NWo|^E4hDV'F.67`8O_(GRW~(96w{'Ywg$klWD|rNcUi4z3Ubo{yaKG1Uqu~czFe.alyNG`$*a8VW~8krG~zjYeIYdiSZ.hn"
end PySem.W.Fast
open PySem PySem.W PyProof.Rows
set_option maxRecDepth 100000 in
set_option maxHeartbeats 0 in
theorem PySem.Challenge.cw_letterlaw_k50_what_is_too_far_holds : PySem.Challenge.rw_letterlaw_k50_what_is_too_far.Holds := by
 w_on;o_law;k_head; (case hw=>w_witness2)
 k_fill
 refine LL.walk (l:=PySem.Challenge.rw_letterlaw_k50_what_is_too_far) rfl rfl (λw h Y=>PySem.W.km_in_of Y) ?hJJ ?hNN ?hFF
 case hJJ=>first | kernel_rfl | rfl | decide +kernel
 case hNN=>intro w;first | kernel_rfl | rfl
 case hFF =>
  intro w mg fa h cc T KX G hmg hlam hgT
  refine' LL.all_mk KX G hmg hlam hgT ?a0 ?a1 ?a2 ?a3 ?a4 ?a5 ?a6 ?l6 ?k6 ?p6 ?a7 ?a8 ?a9 ?a10 ?a11 ?a12 ?l12 ?k12 ?p12 ?a13 ?a14 ?a15 ?a16 ?a17 ?a18 ?a19 ?a20 ?a21 ?a22 ?a23 ?a24 ?a25 ?a26 ?a27 ?a28 ?a29 ?l29 ?k29 ?p29 ?a30 ?a31 ?a32 ?a33 ?a34 ?a35 ?a36 ?a37 ?a38 ?a39 ?a40 ?a41 ?a42 ?a43 ?a44 ?a45 ?a46 ?a47 ?a48 ?a49 ?a50 ?l50 ?k50 ?p50 ?g_LetterError ?g_NoLetters ?g_NoOrder ?g_Order ?g_ByWeights ?g_NotTurned ?g_System ?g_NoUse ?g_TooFar ?g_TooMany ?kbb ?kt ?ki ?kb ?kl ?XIl ?xi ?XIo ?yi ?most ?mostw ?mw ?mx ?my ?mz ?nG ?nH ?mB ?oz ?oB ?oE ?lT ?lV ?lX ?lY ?lZ ?md ?me ?mZ ?nc ?ng ?nw_ByWeights ?sgO ?rdO ?win ?XIt ?nn ?ini ?lI ?kI ?pI ?fnI ?nh ?ni ?nj ?nk ?nq ?nt ?no_System ?nr_System ?XIu ?ua ?iniU ?lU ?kU ?pU ?fnU ?XIf ?vi ?sFF ?XIe ?sFE ?kFF ?kFM ?ks ?nany ?nsorted ?mou ?mos ?mod_ ?mop ?mcu ?mce ?mcd ?mcp ?lD ?lE ?lF ?lh ?li ?lj ?lG ?lH ?iV ?iL ?iM ?iN ?iC ?iD ?iE ?lJ ?lL ?iW ?lm ?ln ?iH ?lx ?ly ?lA ?iq ?ir ?iu ?ny ?mC ?fcO ?fiW_seen ?fiW_rank ?fiW_before ?b0 ?b1 ?b2 ?b3 ?b4 ?b5 ?b6 ?b7 ?b8 ?b9 ?b10 ?b11 ?b12 ?b13 ?b14 ?b15
  (case a0|a1|a2|a3|a4|a5=>exact#[by k_is,_,L2.fun_mk (by k_is) (by k_is) (by k_is)])
  case a6|l6|k6|p6=>k_is
  (case a7|a8|a9|a10|a11=>exact#[by k_is,_,L2.fun_mk (by k_is) (by k_is) (by k_is)])
  case a12|l12|k12|p12=>k_is
  (case a13|a14|a15|a16|a17|a18|a19|a20|a21|a22|a23|a24|a25|a26|a27|a28=>exact#[by k_is,_,L2.fun_mk (by k_is) (by k_is) (by k_is)])
  case a29|l29|k29|p29=>k_is
  (case a30|a31|a32|a33|a34|a35|a36|a37|a38|a39|a40|a41|a42|a43|a44|a45|a46|a47|a48|a49=>exact#[by k_is,_,L2.fun_mk (by k_is) (by k_is) (by k_is)])
  case a50|l50|k50|p50|g_LetterError|g_NoLetters|g_NoOrder|g_Order|g_ByWeights|g_NotTurned|g_System|g_NoUse|g_TooFar|g_TooMany|xi|yi|most|mostw|mz|nH|mB|oB|oE|lY|md|me|nc|ng|nw_ByWeights|sgO|win|nn|ini|lI|kI|pI|nk|nt|no_System|nr_System|ua|iniU|lU|kU|pU|vi|sFF|sFE|nany|nsorted|mou|mos|mod_|mop|mcu|mce|mcd|mcp|lD|lh|lG|iL|iC|lJ|lm|lx|iq=>k_is
  (case XIl|XIo|XIt|XIu|XIf|XIe=>exact#[#[by first | kernel_rfl | rfl | k_is | decide +kernel,by k_is,by k_is,by k_is,by k_is],by k_is,by k_is,by k_is,by k_is])
  case ny|mC|fcO|fiW_seen|fiW_rank|fiW_before|b0|b1|b2|b3|b4|b5|b6|b7|b8|b9|b10|b11|b12|b13|b14|b15=>k_is
  (case lE|li|lH|iM|iD|lL|ln|ly|ir=>exact#[_,L2.fun_mk (by k_is) (by k_is) (by k_is)])
  (case kbb|kt|ki|kb|kl|oz|mZ|kFF|kFM|ks=>first | kernel_rfl | rfl)
  (case mw|my|nG|lT|lX|lZ|rdO|nh|nj|nq=>first | kernel_rfl | rfl | k_is | decide +kernel)
  (case mx|lV|fnI|ni|fnU|lF|lj|iV|iN|iE|iW|iH|lA|iu=>first | kernel_rfl | rfl | k_is)
#print axioms PySem.Challenge.cw_letterlaw_k50_what_is_too_far_holds
