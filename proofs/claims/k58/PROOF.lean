import PyProof.Rows.All
import Wide.All
import OpenK.AllK
import Wide.FinOn
import PyProof.EqAt
import PyProof.EqKinds
import PyProof.NeKinds
import PyProof.TupleCall
import KE.KRevIter
import PyProof.ZipIter
import PyProof.Rows.SetFrom
import PyProof.StrWalks
import PyProof.DictStraight
import PyProof.StrLawsFrom
import PyProof.Rows.StrNews2
import KE.KMinBuiltin
import PyProof.Rows.CallKwBuiltin
import PyProof.Rows.SortShell
import KE.KSortTup
import KE.KBoundM
import KE.KLam
import KE.KDictLaws
import PyProof.DictWalks
import Lean
import PySem.Challenge.RW_letterlaw_k58_whole_commuting
set_option compiler.extract_closed false
local macro_rules | `(tactic| exists $t)=>`(tactic| refine $t (λvs H Q E h=>by repeat (first | (obtain⟨e,_⟩:=h;subst e;rfl) | obtain⟨_,h⟩:=h)) (λ$(Lean.mkIdent `cdv) $(Lean.mkIdent `A) $(Lean.mkIdent `outer) $(Lean.mkIdent `s) $(Lean.mkIdent `H) $(Lean.mkIdent `vs) $(Lean.mkIdent `Q) $(Lean.mkIdent `E) $(Lean.mkIdent `hr) $(Lean.mkIdent `h)=>?_))
local macro_rules | `(tactic| exists $t,0)=>`(tactic| refine $t (λvs H Q E h=>by repeat (first | (obtain⟨e,_⟩:=h;subst e;rfl) | obtain⟨_,h⟩:=h)) (λ$(Lean.mkIdent `cdv) $(Lean.mkIdent `A) $(Lean.mkIdent `outer) $(Lean.mkIdent `s) $(Lean.mkIdent `H) $(Lean.mkIdent `vs) $(Lean.mkIdent `Q) $(Lean.mkIdent `E) $(Lean.mkIdent `hr) $(Lean.mkIdent `hx) $(Lean.mkIdent `h)=>?_))
local macro_rules | `(tactic| rintro $p* : _)=>`(tactic| rintro $(Lean.mkIdent `Gz):ident $(Lean.mkIdent `hGz):ident $p*)
local macro_rules | `(tactic| right)=>`(tactic| subst $(Lean.mkIdent `hGz))
local macro_rules | `($s⁻¹)=>`(($s).heap.objs.size)
local macro_rules | `(⋯)=>`(by lia)
local macro_rules | `(∅)=>`(by decide)
local macro_rules | `(tactic| erw [$[$a:term],*] $[$l:location]?)=>`(tactic| simp only [$[$a:term],*] $[$l:location]?)
local macro_rules | `(())=>`(List Nat)
local macro_rules | `(#[$a,*])=>if a.getElems.size>1 then `(⟨$a,*⟩) else Lean.Macro.throwUnsupported
open List renaming getElem?_eq_some_iff→tN,mem_map→tO,mem_cons→tP,mem_append→tQ,mem_singleton→tR,mem_filter→tS,mem_range→tT,nodup_cons→tV,mem_reverse→tW,pairwise_cons→tX,all_eq_true→tY,length_eq_zero_iff→tZ,mem_iff_getElem?→Ab,pairwise_append→Ac,length_pos_iff→Ad,mem_replicate→Ae,filter_eq_self→Af,nodup_append→Ah,mem_flatMap→Ai,mem_filterMap→Aj,any_eq_true→Al,find?_eq_none→Am,nodup_iff_count→An,count_eq_zero→Ao,pairwise_map→Ap
open Option renaming map_eq_some_iff→tU,isSome_iff_exists→Aa,bind_eq_some_iff→Ag
open Bool renaming eq_false_iff→Ak
local macro_rules | `(tactic| symm)=>`(tactic| decide +kernel)
local macro_rules | `(tactic| nofun)=>`(tactic| exact⟨rfl,rfl,rfl,by decide +kernel,rfl,by decide +kernel,by decide +kernel⟩)
open List renaming length_map→aa,mem_of_getElem?→ae,getD_eq_getElem?_getD→af,getElem?_eq_getElem→ag,length_append→ah,size_toArray→ak,replicate→am,mem_cons_of_mem→ao,map_append→aq,map_cons→ar,mem_cons_self→av,mem_append_right→ay,getElem?_map→az,length_cons→aD,append_nil→aE,length_take→aF,append_assoc→aH,map_nil→aJ,take_length→aK,mem_append_left→aO,length_replicate→aQ,drop_eq_getElem_cons→aR,nil_append→aT,cons_append→aV,range→aW,idxOf_lt_length_of_mem→aY,lookup_cons→bc,set_cons_zero→be,set_cons_succ→bg,lookup→bh,length_drop→bi,length_nil→bj,eq_of_mem_replicate→bn,take_of_length_le→bp,drop_of_length_le→bq,toArray→bt,filter_append→bu,map_congr_left→bw,mem_cons→bx,sum_cons→bz,not_mem_nil→bA,take_append_of_le_length→bC,mem_of_mem_take→bD,take_zero→bI,replicate_succ→bQ,getElem_idxOf→bT,length→ci,map_map→cp,drop_append_of_le_length→cu,length_reverse→cw,take_append_drop→cC,getElem?_reverse→cD,length_filter_le→cE,getElem?_append_right→cF,count_append→cI,flatMap_def→cK,flatMap_append→cL,getElem?_cons_zero→cM,eraseIdx_cons_succ→cN,range_succ→cT,flatten_cons→cU,getElem?_eq_none→cZ,drop_length→db,getElem_mem→dc,mem_of_mem_drop→de,take_succ_cons→dh,of_mem_zip→dj,getElem?_append_left→dk,forIn_cons→dm,pairwise_iff_getElem→dq,find?_some→dv,filter_nil→dw,mem_of_find?_eq_some→dz,getElem?_take_of_lt→dA,contains_cons→dB,zip_cons_cons→dC,pairwise_singleton→dD,getElem?_cons_succ→dF,filter_cons_of_pos→dH,filter_cons_of_neg→dI,length_range→dL,flatMap_cons→dM,range_succ_eq_map→dN,replicate_succ'→d7,eq_nil_of_length_eq_zero→d8,filterMap_cons→d9,replicate_zero→eh,drop_zero→eD,append_of_mem→eF,pairwise_map→eM,eraseIdx_nil→eO,extract_eq_drop_take→eP,mem_nil_iff→eV,map_fst_zip→e9,filter_cons→fh,getElem?_replicate→fj,mem_append→fo,getElem?_set_self→fq,length_singleton→fz,forIn_nil→fA,drop_drop→fF,mem_range→fH,take_take→fJ,getElem?_set_ne→fL,idxOf_cons_self→fP,count_replicate→fQ,all_cons→fR,getElem_range→gc,countP_append→gd
open PySem.Heap renaming get?_push_of_some→ac,lt_size→au,get?_push_size→aC,get?_update_other→aI,size_push→bV,get?_update_self→ce,size_update→dP
open PySem.W renaming findIn→aj,nsIn→aA,keepIn→aL,mg_of→aM,mg_none_of→aN,kitOne→aU,kla_fn→bo,isFn→br,kia_one→bv,fnOf→bB,codeIn→bN,emptyDict→bP,callWith_K→bS,mroIn→bU,plainGet→bX,methodCall_KW→bZ,instObj→cj,hasDictIn→cr,plainOver→cG,specialIn→cH,looks_findIn→cJ,makesIn→cQ,subIn→df,takesIn→d4,envX→d6,plainGet_of→eg,lookIn→em,kla_makeFunctionHit→eE,methodObj→eK,kitx_list→eL,kla_makeFunction→eX,takerIn→fk,cellsFrom_some→ft,kla_callFunE→fN,kla_codeExpr→fO,callWith_K0→fW,kitx_tuple→fY,set_plain→ge,kitx_dict→gf,handedIn→gg,kla_eval→gk,bind_fn→gm,findObj→gn,readsIn→gp,findCls→gq,kat_nil→gu,kas_ask→gv
open Nat renaming le_refl→al,lt_of_lt_of_le→aw,ne_of_lt→ax,zero_le→aG,le_trans→aP,ne_of_gt→bW,lt_of_le_of_lt→cf,le_add_right→cA,le_succ→cB,lt_irrefl→cP,not_lt_zero→cS,lt_succ_of_lt→cX,le_of_lt→cY,le_of_not_lt→da,min_eq_left→dn,min_eq_right→dQ,lt_trichotomy→eN,succ_mul→eQ,succ_ne_self→eR,min_self→eS,lt_or_ge→eU,zero_add→eW,add_mod→fw
open Bool renaming false_ne_true→aB,false_eq_true→bE,eq_false_or_eq_true→cq,and_eq_true→cz,eq_iff_iff→di,not_eq_true'→dJ,or_true→d5,and_false→eC,not_true→eJ,not_false→fB,and_true→fS,beq_comm→fV
open PySem.F renaming plainAttrs_list→aS,slot_list_append→aZ,type_list_append→ba,plainAttrs_str→bF,plain_max_loop→bO,entry_max_loop→dO,slot_str_find→dU,type_str_find→dW,slot_str_join→dY,type_str_join→dZ,excBase_ValueError→eI,slot_list_extend→e7,type_list_extend→e8,slot_str_count→fu,type_str_count→fv
open Int renaming toNat_natCast→aX,emod_nonneg→bK,emod_lt_of_pos→bL,eq_ofNat_of_zero_le→bM,ofNat→dX
open PySem renaming mem_of_lookup→bG,strKind→dg,frameOf→eG,passOn→fZ,call→gr
open PyProof.Rows renaming callWith_type1→bH,boot_sorted→fg,boot_sum→fG,recsOf→fX
open PySem.Str renaming ofString→bJ,empty→fm
open Decidable renaming byContradiction→bR
open Option renaming bind_some→bY,join_some→eY,join_none→eZ,getD_none→gh
open Array renaming toList_append→cy,length_toList→ee,getD→fM
open PySem renaming wpAny_bind→pi,wpAny_pure→pj,mainGlobals→pq,starEach→pz,sizeLine→pA
open PySem.W renaming Frag→pB
open PySem renaming Addr→pC,Value→pD,Shared→pE,wpAny→pF,FuncData→pG,Program→pH,Str→pJ,World→pK,Around→pL,Expr→pM,Heap→pN,keywordEach→pO,strIterType→pP,Stmt→pQ,compareOp→pR,backTo→pS,wpAny_field→pT,wpAny_Call_Name_kw→pV,wpAny_truthy_bool→pX,sizeLine_eq→pY,backToKw→pZ,bootBuiltins→ra,Obj→rb,wpAny_holding→re,Scope→rf,wpAny_seqItems→rg,wpAny_loadPart_at→rh,Pos→rj,IsPair→rm,wpAny_passesOwn→rn,wpAny_standAt→rp,wpAny_noRaise→rq,wpAny_setField→rz,Arguments→rA,wpAny_setField_rec→rB,wpAny_mono→rD,wpAny_call→rE,wpAny_execs_nil→rF,codeAny→rG,wpAny_execs_cons→rH,codeAny_mono→rJ,wpAny_isSubtype_exc→rK,codeAny_builtin→rL,wpAny_letGo→rM,wpAny_tryCatch→rN,wpAny_pyIter_list→rO,wpAny_pyIter_enum→rP,plainObj_wpAny_Assign_Attribute→rQ,CmpOp→rR,wpAny_attempt→rS,wpAny_newFunctionEnv→rT,codeAny_call_builtin→rV,NameKind→rW,wpAny_letOwnedTupleGo_enum→rZ,IsZip→sf,Tok→si,wpAny_comprehension_free→sj,wpAny_pyNext_enum_itemD→sk,wpAny_getItem_str_slice→so,wpAny_call_entry→sq,wpAny_rule→sr,wpAny_pyNext_enum_endD→su,wpAny_updateSeq→sw,Env→sx,wpAny_updateSeq_pair→sy,wpAny_pyIter_revIter→sA,wpAny_loadPart→sB,recursionLimit→sE,isCodeTable→sF,excClassObj→sG,Result→sH,TriplesOk→sI,BindsTo→sJ,wpAny_onRaise→sK,wpAny_newList→sL,ExceptHandler→sN,wpAny_newObj_type→sP,wpAny_assign_Name→sQ,wpAny_Return_some→sS,wpAny_Assign_Name→sU,Model→sV,GenState→sY,wpAny_pyIter_zip→sZ,wpAny_lookBehind→tj,wpAny_Try_except→tm,Sem→tu,Keyword→tw,wpAny_Name→tz,Paired→tD
open PyProof.Rows renaming seqObj→pW,envOfC→rX,AllBare→rY,subscriptTail_builtinR→sv,subscriptTail→sM,IntsAre→sX,Subscript_→tB,Call_→tF
open PySem.W renaming KasT→tE
open Option renaming some→tG,none→tH
open Bool renaming true→tI,false→tJ
open PySem PySem.Spec PyProof.Rows
set_option Elab.async false
set_option linter.all false
set_option maxRecDepth 100000
set_option maxHeartbeats 4000000
namespace L2
noncomputable abbrev Key:=Sum Int pJ
noncomputable def zcQ:Key->pD->Bool
 | .inl k,v=>Value.isInt k v
 | .inr x,v=>Value.isStrOf x v
noncomputable def zeM(w:pK):Key->Int
 | .inl k=>hashInt k
 | .inr x=>hashStr w x
theorem z9:∀{k:Key} {v:pD},zcQ k v=tI->(∃i t,k=Sum.inl i/\v=Value.int i t)\/(∃x t,k=Sum.inr x/\v=Value.str x t)
 | .inl i,v,h=>by
  obtain⟨t,e⟩:=Value.isInt_shape (k:=i) (v:=v) h;exact .inl #[i,t,rfl,e]
 | .inr x,v,h=>by
  obtain⟨t,e⟩:=Value.isStrOf_shape (x:=x) (v:=v) h;exact .inr #[x,t,rfl,e]
theorem zbB(a b:Int):decide ((Sum.inl a:Key)=Sum.inl b)=(a == b):=by
 by_cases e:a=b
 ·subst e;simp
 ·have h:¬ (Sum.inl a:Key)=Sum.inl b:=λq=>e (Sum.inl.inj q);rw[decide_eq_false h];exact (beq_eq_false_iff_ne.mpr e).symm
theorem zbT(a b:pJ):decide ((Sum.inr a:Key)=Sum.inr b)=decide (a=b):=by
 by_cases e:a=b
 ·subst e;simp
 ·have h:¬ (Sum.inr a:Key)=Sum.inr b:=λq=>e (Sum.inr.inj q);rw[decide_eq_false h,decide_eq_false e]
theorem zbR(a:Int)(b:pJ):decide ((Sum.inl a:Key)=Sum.inr b)=tJ:=decide_eq_false (λq=>nomatch q)
theorem zcp(a:pJ)(b:Int):decide ((Sum.inr a:Key)=Sum.inl b)=tJ:=decide_eq_false (λq=>nomatch q)
noncomputable def Yy(prog:pH)(w:pK):PySem.KeyKind prog w Key where
 is:=zcQ
 hash:=zeM w
 inj:=λv a b ha hb=>by
  rcases z9 ha with ⟨i,t,rfl,rfl⟩ | ⟨x,t,rfl,rfl⟩
  ·rcases z9 hb with ⟨j,u,rfl,e⟩ | ⟨y,u,rfl,e⟩
   ·injection e with e1 _;rw[e1]
   ·exact nomatch e
  ·rcases z9 hb with ⟨j,u,rfl,e⟩ | ⟨y,u,rfl,e⟩
   ·exact nomatch e
   ·injection e with e1 _;rw[e1]
 byValue:=λk v h=>by
  rcases z9 h with ⟨i,t,rfl,rfl⟩ | ⟨x,t,rfl,rfl⟩ <;> rfl
 pyHash:=λhv h=>by
  rcases z9 hv with ⟨i,t,rfl,rfl⟩ | ⟨x,t,rfl,rfl⟩
  ·exact wpAny_pyHash_int h
  ·exact wpAny_pyHash_str h
 eqBool:=λhu hv h=>by
  rcases z9 hu with ⟨i,t,rfl,rfl⟩ | ⟨x,t,rfl,rfl⟩
  ·rcases z9 hv with ⟨j,u,rfl,rfl⟩ | ⟨y,u,rfl,rfl⟩
   ·rw[zbB]at h;exact wpAny_eqBool_int h
   ·rw[zbR]at h;exact SeqAt.EqAt.int_str i t y u _ _ _ _ h
  ·rcases z9 hv with ⟨j,u,rfl,rfl⟩ | ⟨y,u,rfl,rfl⟩
   ·rw[zcp]at h;exact SeqAt.EqAt.str_int x t j u _ _ _ _ h
   ·rw[zbT]at h;exact wpAny_eqBool_str h
 «strs»:=λk x t v h=>by
  rcases z9 h with ⟨i,u,rfl,e⟩ | ⟨y,u,rfl,e⟩
  ·exact nomatch e
  ·injection e with e1 _;subst e1;cases v <;> rfl
inductive V where
 | non | bl (b:Bool) | int (i:Int) | str (x:pJ) | byt (b:Array UInt8) | flt (b:UInt64) | ref (a:pC) | ty (n:String)
 deriving DecidableEq
def RelV:V->pD->Prop
 | .non,u=>u=Value.none
 | .bl b,u=>u=Value.bool b
 | .int i,u=>∃t,u=Value.int i t
 | .str x,u=>∃t,u=Value.str x t
 | .byt b,u=>∃t,u=Value.bytes b t
 | .flt b,u=>∃t,u=Value.float b t
 | .ref a,u=>u=Value.ref a
 | .ty n,u=>u=Value.type n
abbrev Vals:List V->List pD->Prop:=tD RelV
theorem Vals.length{xs:List V}{us:List pD}(r:Vals xs us):xs.length=us.length:=Paired.length r
theorem Vals.get:∀{xs:List V} {us:List pD} {i:Nat} {x:V},Vals xs us->xs[i]? = tG x->∃u,us[i]? = tG u/\RelV x u
 | _,_,_,_,.nil,e=>by simp at e
 | _,_,0,_,.cons r _,e=>by simp at e;subst e;exact#[_,rfl,r]
 | _,_,i+1,x,.cons _ t,e=>by
  obtain⟨u,h1,h2⟩:=Vals.get (i:=i) (x:=x) t (by simpa using e);exact#[u,by simpa using h1,h2]
theorem Vals.set{x:V}{u:pD}(r:RelV x u):∀{xs:List V} {us:List pD} (i:Nat),Vals xs us->Vals (xs.set i x) (us.set i u)
 | _,_,_,.nil=>.nil
 | _,_,0,.cons _ t=>.cons r t
 | _,_,i+1,.cons q t=>.cons q (Vals.set r i t)
theorem Vals.append:∀{xs ys:List V} {us ws:List pD},Vals xs us->Vals ys ws->Vals (xs ++ ys) (us ++ ws)
 | _,_,_,_,.nil,s=>s
 | _,_,_,_,.cons r t,s=>.cons r (Vals.append t s)
theorem Vals.take:∀{xs:List V} {us:List pD} (n:Nat),Vals xs us->Vals (xs.take n) (us.take n)
 | _,_,0,_=>.nil
 | _,_,_+1,.nil=>.nil
 | _,_,n+1,.cons r t=>.cons r (Vals.take n t)
theorem Vals.drop:∀{xs:List V} {us:List pD} (n:Nat),Vals xs us->Vals (xs.drop n) (us.drop n)
 | _,_,0,r=>r
 | _,_,_+1,.nil=>.nil
 | _,_,n+1,.cons _ t=>Vals.drop n t
def RelO:Option V->Option pD->Prop
 | some v,tG u=>RelV v u
 | none,tH=>True
 | _,_=>False
def KV{κ:Type}:List (κ × V)->List (κ × pD)->Prop:=tD λ(p:κ × V) (q:κ × pD)=>p.1=q.1/\RelV p.2 q.2
noncomputable def kV:Key->V
 | .inl i=>.int i
 | .inr x=>.str x
inductive HO where
  | lst (xs:List V)
  | tup (xs:List V)
  | dK (kvs:List (Key × V)) | dT (kvs:List (List Key × V))
  | set (S:Int->Bool) (n:Nat)
  | ins (C dx:pC) (fs:List (pJ × V))
  | own (x:pC)
  | xd (fs:List (pJ × V))
  | met (f x:pC)
  | rng (lo hi:Int)
  | frz (o:rb) (u:HO)
  | tbl (ps:Array pD)
  | ext (φ:pN->Prop)
noncomputable abbrev Hp:=pC->Option HO
noncomputable def upd(H:Hp)(a:pC)(o:HO):Hp:=λb=>if b=a then tG o else H b
theorem zc{H:Hp}{a:pC}{o:HO}:upd H a o a=tG o:=by unfold upd;rw[if_pos rfl]
theorem zk{H:Hp}{a b:pC}{o:HO}(h:b≠a):upd H a o b=H b:=by unfold upd;rw[if_neg h]
theorem zD{H:Hp}{a b:pC}{o:HO}(h:H a=tG o)(h':H b=tH):a≠b:=by
 intro e;subst e;rw[h]at h';cases h'
section
variable(P:pH)(w:pK)
def ObjOk(H:Hp)(h:pN)(a:pC):HO->Prop
 | .lst xs=>xs.length<=pA/\∃(its:List pD) (n:Nat),Vals xs its/\h.get? a=tG { cls:=.type "list",data:=.seq its.toArray n }
 | .tup xs=>xs.length<=pA/\∃its:List pD,Vals xs its/\IsTup h a its.toArray
 | .dK kvs=>kvs.length<=pA/\(a == sysModules)=tJ/\∃vs,KV kvs vs/\h.DictOf (Yy P w) a vs
 | .dT kvs=>kvs.length<=pA/\(a == sysModules)=tJ/\∃xs:List (List Key × pC × pD),
   tD (λ(p:List Key × V) (q:List Key × pC × pD)=>p.1=q.1/\H q.2.1=tG (.tup (p.1.map kV))/\RelV p.2 q.2.2) kvs xs /\
   ∃o es ep,h.get? a=tG o/\o.ExactDict/\o.data=.dict es ep/\es.toList=xs.map (entryOfKey (tupleKind (Yy P w)))/\(xs.map (·.1)).Nodup
 | .set S n=>h.SetOf (intKind P w) a S n
 | .ins C dx fs=>H dx=tG (.own a)/\fs.length<=1000/\dx≠a/\h.get? a=tG (cj C dx) /\
   ∃mA,h.Ns1 dx mA/\(∀f,RelO (fs.lookup f) (mA f))/\PySem.Within mA (fs.map (·.1))
 | .own _=>∃o,h.get? a=tG o
 | .xd fs=>∃mA,h.Ns1 a mA/\∀f,RelO (fs.lookup f) (mA f)
 | .rng lo hi=>∃t u v,h.get? a=tG { cls:=.type "range",data:=.fields (List.toArray [.int lo t,.int hi u,.int 1 v]) }
 | .frz o u=>h.get? a=tG o/\ObjOk H h a u
 | .tbl ps=>h.get? a=tG { cls:=.none,data:=.fields ps }
 | .met f x=>h.get? a=tG (eK (.ref f) (.ref x))
 | .ext φ=>φ h/\(∃o,h.get? a=tG o)/\∀h1 h2:pN,φ h1->(∀o,h1.get? a=tG o->h2.get? a=tG o)->φ h2
def HOk(H:Hp)(h:pN):Prop:=∀a o,H a=tG o->ObjOk P w H h a o
end
section
variable{P:pH}{w:pK}{H H':Hp}{h h':pN}{a:pC}{o:HO}
theorem ObjOk.lt(x:ObjOk P w H h a o):a<h.objs.size:=by
 cases o with
 | lst xs=>obtain⟨_,_,_,_,e⟩:=x;exact au e
 | tup xs=>obtain⟨_,_,_,p⟩:=x;exact p.lt
 | dK kvs=>obtain⟨_,_,_,_,o,_,_,e,_⟩:=x;exact au e
 | dT kvs=>obtain⟨_,_,_,_,o,_,_,e,_⟩:=x;exact au e
 | set S n=>obtain⟨o,_,_,_,e,_⟩:=x;exact au e
 | ins C dx fs=>obtain⟨_,_,_,e,_⟩:=x;exact au e
 | own y=>obtain⟨_,e⟩:=x;exact au e
 | xd fs=>obtain⟨_,⟨_,_,_,e,_⟩,_⟩:=x;exact au e
 | rng lo hi=>obtain⟨_,_,_,e⟩:=x;exact au e
 | frz ob u=>obtain⟨e,_⟩:=x;exact au e
 | tbl ps=>exact au (show h.get? a=tG _ from x)
 | met f y=>exact au (show h.get? a=tG _ from x)
 | ext φ=>obtain⟨_,⟨_,e⟩,_⟩:=x;exact au e
theorem Paired.mapP{α β:Type}{F G:α->β->Prop}:∀{l₁:List α} {l₂:List β},tD F l₁ l₂->(∀a b,F a b->G a b)->tD G l₁ l₂
 | _,_,.nil,_=>.nil
 | _,_,.cons r t,f=>.cons (f _ _ r) (Paired.mapP t f)
theorem ObjOk.stay(x:ObjOk P w H h a o)(k:∀b u,(b=a\/H b=tG (.own a))->h.get? b=tG u->h'.get? b=tG u)
  (ho:∀b,H b=tG (.own a)->H' b=tG (.own a)) (ht:∀b xs,H b=tG (.tup xs)->H' b=tG (.tup xs)):ObjOk P w H' h' a o:=by
 induction o with
 | lst xs=>obtain⟨z,its,n,r,e⟩:=x;exact#[z,its,n,r,k _ _ (.inl rfl) e]
 | tup xs=>obtain⟨z,its,r,ob,e,c⟩:=x;exact#[z,its,r,ob,k _ _ (.inl rfl) e,c]
 | dK kvs=>obtain⟨z,y,vs,r,ob,es,ep,e,c⟩:=x;exact#[z,y,vs,r,ob,es,ep,k _ _ (.inl rfl) e,c]
 | dT kvs =>
  obtain⟨z,y,xs,r,ob,es,ep,e,c⟩:=x;exact#[z,y,xs,Paired.mapP r λp q z=>#[z.1,ht _ _ z.2.1,z.2.2],ob,es,ep,k _ _ (.inl rfl) e,c]
 | set S n=>obtain⟨ob,es,ep,t,e,c⟩:=x;exact#[ob,es,ep,t,k _ _ (.inl rfl) e,c]
 | ins C dx fs =>
  obtain⟨d,z,ne,e,mA,⟨od,es,ep,e2,c⟩,r⟩:=x;exact#[ho _ d,z,ne,k _ _ (.inl rfl) e,mA,#[od,es,ep,k _ _ (.inr d) e2,c],r]
 | own y=>obtain⟨ob,e⟩:=x;exact#[ob,k _ _ (.inl rfl) e]
 | xd fs=>obtain⟨mA,⟨od,es,ep,e,c⟩,r⟩:=x;exact#[mA,#[od,es,ep,k _ _ (.inl rfl) e,c],r]
 | rng lo hi=>obtain⟨t,u,v,e⟩:=x;exact#[t,u,v,k _ _ (.inl rfl) e]
 | frz ob u ih=>obtain⟨e,q⟩:=x;exact#[k _ _ (.inl rfl) e,ih q]
 | tbl ps =>
  have e:h.get? a=tG { cls:=.none,data:=.fields ps }:=x;show h'.get? a=tG { cls:=.none,data:=.fields ps };exact k a _ (.inl rfl) e
 | met f y =>
  have e:h.get? a=tG (eK (.ref f) (.ref y)):=x;show h'.get? a=tG (eK (.ref f) (.ref y));exact k a _ (.inl rfl) e
 | ext φ=>obtain⟨p,⟨o,e⟩,st⟩:=x;exact#[st _ _ p λo q=>k _ _ (.inl rfl) q,#[o,k _ _ (.inl rfl) e],st]
theorem HOk.lt(x:HOk P w H h)(e:H a=tG o):a<h.objs.size:=(x a o e).lt
theorem HOk.fresh(x:HOk P w H h)(e:h.objs.size<=a):H a=tH:=by
 cases q:H a with
 | none=>rfl
 | some u=>exact absurd (aw (x.lt q) e) (cP _)
theorem HOk.kept(x:HOk P w H h)(k:∀b u,h.get? b=tG u->h'.get? b=tG u):HOk P w H h':=λa o e =>
 (x a o e).stay (λb u _ q=>k b u q) (λ_ q=>q) λ_ _ q=>q
theorem HOk.laid(x:HOk P w H h)(k:∀b u,h.get? b=tG u->h'.get? b=tG u)(hp:h.objs.size<=a)(new:ObjOk P w (upd H a o) h' a o):HOk P w (upd H a o) h':=λb u e=>by
 have hn:=x.fresh hp;by_cases hb:b=a
 ·subst hb;rw[zc]at e;cases e;exact new
 ·rw[zk hb]at e;exact (x b u e).stay (λc v _ q=>k c v q) (λc q=>by rw[zk (zD q hn)];exact q) λc xs q=>by rw[zk (zD q hn)];exact q
end
def Rd(H:Hp)(a:pC)(u:HO):Prop:=H a=tG u\/∃o,H a=tG (.frz o u)
theorem Rd.ok{P:pH}{w:pK}{H:Hp}{h:pN}{a:pC}{u:HO}(r:Rd H a u)(x:HOk P w H h):ObjOk P w H h a u:=by
 rcases r with r | ⟨o,r⟩
 ·exact x a u r
 ·obtain⟨_,q⟩:=x a _ r;exact q
def Mut:Option HO->Prop
 | some (.lst _)=>True
 | some (.dK _)=>True
 | some (.dT _)=>True
 | some (.set _ _)=>True
 | some (.ins _ _ _)=>True
 | some (.ext _)=>True
 | _=>False
section
variable{P:pH}{w:pK}{H:Hp}{h h':pN}{x e:pC}{o':HO}
theorem HOk.write(ok:HOk P w H h)(mu:Mut (H x))(he:e=x\/H e=tG (.own x))(k:∀b u,b≠e->h.get? b=tG u->h'.get? b=tG u)(heo:∃u,h'.get? e=tG u)
  (new:ObjOk P w (upd H x o') h' x o'):HOk P w (upd H x o') h':=λb u q=>by
 have nown:∀c y,H c=tG (.own y)->c≠x:=λc y r z=>by subst z;rw[r]at mu;exact mu
 have ntup:∀c xs,H c=tG (.tup xs)->c≠x:=λc xs r z=>by subst z;rw[r]at mu;exact mu
 by_cases hb:b=x
 ·subst hb;rw[zc]at q;cases q;exact new
 ·rw[zk hb]at q;by_cases hbe:b=e
  ·have q':H b=tG (.own x):=by
    rcases he with z | z
    ·exact absurd (hbe.trans z) hb
    ·rw[hbe];exact z
   rw[q]at q';cases q';obtain⟨v,hv⟩:=heo;exact#[v,by rw[hbe];exact hv]
  ·refine (ok b u q).stay (λc v hc r=>k c v ?_ r) (λc r=>by rw[zk (nown c b r)];exact r) λc xs r=>by rw[zk (ntup c xs r)];exact r
   rcases hc with rfl | hc
   ·exact hbe
   ·rintro rfl;rcases he with z | z
    ·exact nown c b hc z
    ·rw[hc]at z;cases z;exact hb rfl
end
structure Un(fs ex:List pC)(H H':Hp)(h h':pN):Prop where
 keep:∀b o,h.get? b=tG o->H b=tH->b ∉ fs->b ∉ ex->h'.get? b=tG o
 slot:∀b o,h.get? b=tG o->H b=tH->b ∈ fs->b ∉ ex->∃sl,h'.get? b=tG { o with slots:=sl }
 free:∀b o,h.get? b=tG o->H b=tH->b ∉ ex->H' b=tH
 there:∀b o,h.get? b=tG o->b ∉ ex->∃o',h'.get? b=tG o'
 tups:∀b xs,H b=tG (.tup xs)->H' b=tG (.tup xs)
 frzs:∀b o u,H b=tG (.frz o u)->H' b=tG (.frz o u)
 tbls:∀b ps,H b=tG (.tbl ps)->∃more,H' b=tG (.tbl (ps ++ more))
section
variable{fs fs' ex ex':List pC}{H H1 H2:Hp}{h h1 h2 h':pN}{a x e:pC}{o:HO}
theorem Un.any(u:Un fs ex H H1 h h1){b:pC}{ob:rb}(q:h.get? b=tG ob)(n:H b=tH)(hx:b ∉ ex):∃sl,h1.get? b=tG { ob with slots:=sl }:=by
 by_cases hb:b ∈ fs
 ·exact u.slot b ob q n hb hx
 ·exact#[ob.slots,u.keep b ob q n hb hx]
theorem Un.kept(k:∀b u,h.get? b=tG u->h'.get? b=tG u):Un fs ex H H h h' :=
 #[λb ob q _ _ _=>k b ob q,λb ob q _ _ _=>#[ob.slots,k b ob q],λ_ _ _ n _=>n,λb ob q _=>#[ob,k b ob q],λ_ _ q=>q,λ_ _ _ q=>q,λ_ ps q=>#[#[],by rw[q];simp]]
theorem Un.refl:Un fs ex H H h h:=Un.kept λ_ _ q=>q
theorem Un.laid(k:∀b u,h.get? b=tG u->h'.get? b=tG u)(hp:h.objs.size<=a)(hn:H a=tH):Un fs ex H (upd H a o) h h' where
 keep:=λb u q _ _ _=>k b u q
 slot:=λb u q _ _ _=>#[u.slots,k b u q]
 free:=λb u q n _=>by rw[zk (ax (aw (au q) hp))];exact n
 there:=λb u q _=>#[u,k b u q]
 tups:=λb xs q=>by rw[zk (zD q hn)];exact q
 frzs:=λb u xs q=>by rw[zk (zD q hn)];exact q
 tbls:=λb ps q=>#[#[],by rw[zk (zD q hn),q];simp]
theorem Un.write(mu:Mut (H x))(he:e=x\/H e=tG (.own x))(k:∀b u,b≠e->h.get? b=tG u->h'.get? b=tG u)(heo:∃u,h'.get? e=tG u):Un fs ex H (upd H x o) h h':=by
 have hx:∀b,H b=tH->b≠x:=λb n z=>by subst z;rw[n]at mu;exact mu
 have hb:∀b,H b=tH->b≠e:=λb n z=>by
  subst z;rcases he with r | r
  ·exact hx b n r
  ·rw[n]at r;cases r
 have hm:∀b u,H b=tG u->¬ Mut (tG u)->b≠x:=λb u q nm z=>by subst z;rw[q]at mu;exact nm mu
 refine#[λb u q n _ _=>k b u (hb b n) q,λb u q n _ _=>#[u.slots,k b u (hb b n) q],λb u q n _=>by rw[zk (hx b n)];exact n,λb u q _=>?_,
  λb xs q=>by rw[zk (hm b _ q λz=>z)];exact q,λb u xs q=>by rw[zk (hm b _ q λz=>z)];exact q,λb ps q=>#[#[],by rw[zk (hm b _ q λz=>z),q];simp]]
 by_cases hbe:b=e
 ·subst hbe;exact heo
 ·exact#[u,k b u hbe q]
end
noncomputable def trk(h:pN)(H:Hp):List pC:=(aW h.objs.size).filter λa=>(H a).isSome
noncomputable def UU(h:pN)(H:Hp):pN:=PySem.W.hideAll h (trk h H)
theorem UP(h:pN)(H:Hp):(UU h H).objs.size=h.objs.size:=PySem.W.hideAll_size _ _
theorem Xd{h:pN}{H:Hp}{b:pC}{o:rb}(e:h.get? b=tG o)(n:H b=tH):(UU h H).get? b=tG o :=
 PySem.W.hideAll_get _ e λhm=>by
  have q:(H b).isSome=tI:=(tS.mp hm).2;rw[n]at q;simp at q
theorem K5{h:pN}{H:Hp}{b:pC}{o:rb}(e:(UU h H).get? b=tG o):h.get? b=tG o/\H b=tH:=by
 have e':h.get? b=tG o:=PySem.W.of_hideAll (trk h H) e;refine#[e',?_]
 cases q:H b with
 | none=>rfl
 | some x =>
  have hm:b ∈ trk h H:=tS.mpr #[tT.mpr (au e'),by simp [q]];have z:(UU h H).get? b=tH:=PySem.W.hideAll_none (trk h H) hm;rw[z]at e;cases e
noncomputable def KW(g h:pN)(L:pC):List (pC × rb):=(aW h.objs.size).filterMap λa=>if a=L\/(g.get? a).isSome=tI then tH else (h.get? a).map λo=>(a,o)
noncomputable def rest(g h:pN)(L d:pC):List (pC × rb):=(KW g h L).filter λp=>decide (p.1≠d)
structure Mod(K:pB)(mg:pJ->Option pD)(base:pN):Prop where
 kin:K.In base
 glob:base.Ns pq mg
 blt:∃mb,base.Ns builtinsNs mb/\∀x:pJ,x≠"__name__"->mb x=ra x
 nolimit:base.NoLimit
structure Cx where
 prog:pH
 w:pK
 K:pB
 mg:pJ->Option pD
 base:pN
 A:pL
 N:List pJ
 s₀:pE
 H₀:Hp
 env:sx
 outer:List sx
 stack:List sx
 ex:List pC
 fn:pJ->Bool
 calm:Bool
 pn:List (pC × rb)
 xe:pD->pE->Prop
noncomputable def frs(l:List sx):List pC:=l.filterMap (·.frame)
noncomputable abbrev Cx.fs(X:Cx):List pC:=frs X.outer
def Vis(sc:rf)(x:pJ):Prop:=sc.names.lookup x=tG .local\/sc.names.lookup x=tG .cell\/sc.names.lookup x=tG .free
def Loc(sc:rf)(x:pJ):Prop:=sc.names.lookup x=tG .local\/sc.names.lookup x=tG .cell
def ze2(env:sx)(h:pN)(m:pJ->Option pD)(x:pJ)(u:pD):Prop :=
 (env.kindOf x=tG .local/\m x=tG u)\/((env.kindOf x=tG .cell\/env.kindOf x=tG .free)/\∃c,env.cells.lookup x=tG c/\h.IsCell c (tG u))
structure Cx.Ok(X:Cx):Prop where
 mod:Mod X.K X.mg X.base
 kind:X.env.scope.kind=.function
 glob:X.env.globals=pq
 blt:X.env.builtins=builtinsNs
 above:X.s₀.heap.objs.size<=X.env.locals
 inj:∀x y c,X.env.cells.lookup x=tG c->X.env.cells.lookup y=tG c->x=y
 has:∀x,(X.env.kindOf x=tG .cell\/X.env.kindOf x=tG .free)->∃c,X.env.cells.lookup x=tG c
 cab:∀x c,X.fn x=tI->X.env.cells.lookup x=tG c->X.s₀.heap.objs.size<=c
 hd:X.calm=tI->X.A.handled=tH
 frames:X.A.frames=tG X.stack
 stk:X.stack=X.outer\/(X.stack=X.env::X.outer/\X.env.frame=tG X.env.locals)
 exf:∀b ∈ X.ex,b≠X.env.locals/\∀x c,X.env.cells.lookup x=tG c->c≠b
 bs:∀b o,X.base.get? b=tG o->X.s₀.heap.get? b=tG o/\X.H₀ b=tH
 bsz:X.base.objs.size<=X.s₀.heap.objs.size
 noex:∀b o,X.base.get? b=tG o->b ∉ X.ex
 exfs:∀b ∈ X.ex,b ∉ X.fs
 funs:X.s₀.heap.FunFrames X.base X.outer
 frf:∀b ∈ X.fs,X.H₀ b=tH
structure Inv(X:Cx)(tK:List (pC × rb))(σ:List (Option V))(H:Hp)(s:pE):Prop where
 ok:X.Ok
 os:s.os=X.s₀.os
 bare:rY s.gens
 base:Un X.fs X.ex X.H₀ H X.s₀.heap s.heap
 loc:∃m,s.heap.Ns X.env.locals m/\∀(i:Nat) (x:pJ) (v:V),X.N[i]? = tG x->σ[i]? = tG (tG v)->Vis X.env.scope x->∃u,RelV v u/\ze2 X.env s.heap m x u
 cell:∀x c,X.env.cells.lookup x=tG c->∃v,s.heap.IsCell c v
 free:H X.env.locals=tH
 freeC:∀x c,X.env.cells.lookup x=tG c->H c=tH
 pin:∀p ∈ X.pn ++ tK,s.heap.get? p.1=tG p.2/\H p.1=tH/\p.1≠X.env.locals/\p.1 ∉ X.fs/\∀v,p.2.data≠.cell v
 hok:HOk X.prog X.w H s.heap
 len:σ.length=X.N.length
section
variable{X:Cx}{tK:List (pC × rb)}{σ:List (Option V)}{H H':Hp}{s:pE}{h':pN}
theorem Cx.Ok.nofr(ok:X.Ok){b:pC}{o:rb}(e:X.base.get? b=tG o):b ∉ X.fs:=λhb=>by
 have:=(ok.funs.mem hb).1;rw[e]at this;cases this
theorem Inv.bs(I:Inv X tK σ H s):∀b o,X.base.get? b=tG o->s.heap.get? b=tG o/\H b=tH:=λb o e =>
 #[I.base.keep b o (I.ok.bs b o e).1 (I.ok.bs b o e).2 (I.ok.nofr e) (I.ok.noex b o e),I.base.free b o (I.ok.bs b o e).1 (I.ok.bs b o e).2 (I.ok.noex b o e)]
theorem Inv.bk(I:Inv X tK σ H s):∀b o,X.base.get? b=tG o->s.heap.get? b=tG o:=λb o e=>(I.bs b o e).1
theorem Inv.mod(I:Inv X tK σ H s):Mod X.K X.mg X.base:=I.ok.mod
theorem Inv.kIn(I:Inv X tK σ H s):X.K.In s.heap:=I.ok.mod.kin.keeps I.bk
theorem Inv.nolimit(I:Inv X tK σ H s):s.heap.NoLimit:=I.ok.mod.nolimit.keeps I.bk
theorem Inv.fr(I:Inv X tK σ H s):∃m,Fr X.base X.env.locals s.heap m :=
 let #[m,hn,_]:=I.loc
 #[m,hn,I.bk,aP I.ok.bsz I.ok.above]
theorem Inv.lt(I:Inv X tK σ H s):X.env.locals<s⁻¹:=let #[_,hn,_]:=I.loc;hn.lt
theorem Inv.sz(I:Inv X tK σ H s):X.s₀.heap.objs.size<=s⁻¹:=aP I.ok.above (cY I.lt)
theorem Inv.nofs(I:Inv X tK σ H s){a:pC}(h:s⁻¹<=a):a ∉ X.fs:=λhb=>by
 obtain⟨_,o,ho,_⟩:=I.ok.funs.mem hb;exact absurd (aw (au ho) (aP I.sz h)) (cP _)
theorem Inv.cne(I:Inv X tK σ H s):∀x c,X.env.cells.lookup x=tG c->c≠X.env.locals:=λx c e z=>by
 obtain⟨v,o,ho,hd⟩:=I.cell x c e;obtain⟨m,⟨o',es,ep,ho',hd',_⟩,_⟩:=I.loc;rw[z,ho']at ho;cases ho;rw[hd']at hd;cases hd
theorem Inv.funs(I:Inv X tK σ H s):s.heap.FunFrames X.base X.outer:=by
 have all:∀(l:List sx),(∀b ∈ frs l,b ∈ X.fs)->X.s₀.heap.FunFrames X.base l->s.heap.FunFrames X.base l:=by
  intro l
  induction l with
  | nil=>intro _ _;trivial
  | cons env r ih =>
   intro hs hl;obtain⟨hk,⟨L,o,hf,hn,ho,hd⟩,hr⟩:=hl;have hL:L ∈ X.fs:=hs L (by unfold frs;rw[d9,hf];exact av);obtain⟨sl,e⟩:=I.base.slot L o ho (I.ok.frf L hL) hL λz=>I.ok.exfs L z hL;exact#[hk,#[L,_,hf,hn,e,hd],ih (λb hb=>hs b (by unfold frs;rw[d9,hf];exact ao _ hb)) hr]
 exact all X.outer (λ_ hb=>hb) I.ok.funs
theorem Inv.stack(I:Inv X tK σ H s):s.heap.FunFrames X.base X.stack:=by
 rcases I.ok.stk with e | ⟨e,hf⟩
 ·rw[e];exact I.funs
 ·rw[e];obtain⟨m,hn,_⟩:=I.loc;refine .cons (by rw[I.ok.kind];decide) hf hn ?_ I.funs;exact Heap.get?_none_of_le (aP I.ok.bsz I.ok.above)
theorem Inv.stkSub(I:Inv X tK σ H s):∀b ∈ frs X.stack,b ∈ X.env.locals::X.fs:=λb hb=>by
 rcases I.ok.stk with e | ⟨e,hf⟩
 ·rw[e]at hb;exact ao _ hb
 ·rw[e]at hb;unfold frs at hb;rw[d9,hf]at hb;exact hb
theorem Inv.stkFree(I:Inv X tK σ H s):∀b ∈ frs X.stack,H b=tH:=λb hb=>by
 rcases tP.mp (I.stkSub b hb)with e | hb
 ·rw[e];exact I.free
 ·obtain⟨_,o,ho,_⟩:=I.ok.funs.mem hb;exact I.base.free b o ho (I.ok.frf b hb) λz=>I.ok.exfs b z hb
theorem Inv.step{g':Array sY}{t':Nat}{d':Drawn}{ch:List pC}(I:Inv X tK σ H s)
  (hch:∀b ∈ ch,(b ∈ X.ex\/X.s₀.heap.objs.size<=b)/\b≠X.env.locals/\(∀x c,X.env.cells.lookup x=tG c->c≠b)/\∀p ∈ X.pn ++ tK,p.1≠b)
  (keep:∀b o,b≠X.env.locals->b ∉ X.fs->b ∉ ch->s.heap.get? b=tG o->H b=tH->h'.get? b=tG o)
  (slot:∀b o,b≠X.env.locals->b ∈ X.fs->b ∉ ch->s.heap.get? b=tG o->H b=tH->∃sl,h'.get? b=tG { o with slots:=sl }) (free:∀b o,b ∉ ch->s.heap.get? b=tG o->H b=tH->H' b=tH)
  (there:∀b o,b ∉ ch->s.heap.get? b=tG o->∃o',h'.get? b=tG o')
  (tups:∀b xs,H b=tG (.tup xs)->H' b=tG (.tup xs)) (frzs:∀b o u,H b=tG (.frz o u)->H' b=tG (.frz o u)) (tbls:∀b ps,H b=tG (.tbl ps)->∃more,H' b=tG (.tbl (ps ++ more)))
  (ns:∀m,s.heap.Ns X.env.locals m->h'.Ns X.env.locals m) (hok:HOk X.prog X.w H' h') (hg:rY g') :
  Inv X tK σ H' { s with heap:=h',gens:=g',drawn:=d',toks:=t' }:=by
 have neL:∀b o,X.s₀.heap.get? b=tG o->b≠X.env.locals:=λb o e=>ax (aw (au e) I.ok.above)
 have neC:∀b o,X.s₀.heap.get? b=tG o->b ∉ X.ex->b ∉ ch:=λb o e hx hb=>by
  rcases (hch b hb).1 with z | z
  ·exact hx z
  ·exact absurd (aw (au e) z) (cP _)
 have cellK:∀x c,X.env.cells.lookup x=tG c->∀v,s.heap.IsCell c v->h'.IsCell c v:=λx c e v ⟨o,ho,hd⟩=>by
  have nch:c ∉ ch:=λz=>(hch c z).2.2.1 x c e rfl;by_cases hc:c ∈ X.fs
  ·obtain⟨sl,q⟩:=slot c o (I.cne x c e) hc nch ho (I.freeC x c e);exact#[_,q,hd]
  ·exact#[o,keep c o (I.cne x c e) hc nch ho (I.freeC x c e),hd]
 refine#[I.ok,I.os,hg,#[λb o e n hb hx=>?_,λb o e n hb hx=>?_,λb o e n hx=>?_,λb o e hx=>?_,λb xs e=>tups b xs (I.base.tups b xs e),λb o xs e=>frzs b o xs (I.base.frzs b o xs e),λb ps e=>?_],?_,λx c e=>?_,?_,λx c e=>?_,λp hp=>?_,hok,I.len]
 ·exact keep b o (neL b o e) hb (neC b o e hx) (I.base.keep b o e n hb hx) (I.base.free b o e n hx)
 ·obtain⟨sl,e1⟩:=I.base.slot b o e n hb hx;obtain⟨sl',e2⟩:=slot b _ (neL b o e) hb (neC b o e hx) e1 (I.base.free b o e n hx);exact#[sl',e2]
 ·obtain⟨o',e1⟩:=I.base.there b o e hx;exact free b o' (neC b o e hx) e1 (I.base.free b o e n hx)
 ·obtain⟨o',e1⟩:=I.base.there b o e hx;exact there b o' (neC b o e hx) e1
 ·obtain⟨m1,e1⟩:=I.base.tbls b ps e;obtain⟨m2,e2⟩:=tbls b _ e1;exact#[m1 ++ m2,by rw[e2,Array.append_assoc]]
 ·obtain⟨m,hn,hl⟩:=I.loc;refine#[m,ns m hn,λi x v e1 e2 e3=>?_];obtain⟨u,r,l⟩:=hl i x v e1 e2 e3;refine#[u,r,?_];rcases l with l | ⟨k,c,e,z⟩
  ·exact .inl l
  ·exact .inr #[k,c,e,cellK x c e _ z]
 ·obtain⟨v,z⟩:=I.cell x c e;exact#[v,cellK x c e v z]
 ·obtain⟨m,⟨o,_,_,ho,_⟩,_⟩:=I.loc;exact free _ o (λz=>(hch _ z).2.1 rfl) ho I.free
 ·obtain⟨v,o,ho,hd⟩:=I.cell x c e;exact free c o (λz=>(hch c z).2.2.1 x c e rfl) ho (I.freeC x c e)
 ·obtain⟨e,n,ne,nf,d⟩:=I.pin p hp;have nch:p.1 ∉ ch:=λz=>(hch p.1 z).2.2.2 p hp rfl;exact#[keep p.1 p.2 ne nf nch e n,free p.1 p.2 nch e n,ne,nf,d]
theorem Inv.un{t':Nat}(I:Inv X tK σ H s)(u:Un X.fs [] H H' s.heap h')(hok:HOk X.prog X.w H' h'):Inv X tK σ H' { s with heap:=h',toks:=t' }:=by
 obtain⟨m,⟨o,es,ep,ho,r⟩,_⟩:=id I.loc;obtain⟨sl,hL⟩:=u.any ho I.free (by simp)
 exact I.step (g':=s.gens) (d':=s.drawn) (ch:=[]) (λ_ z=>nomatch z) (λb o _ hb _ e n=>u.keep b o e n hb (by simp)) (λb o _ hb _ e n=>u.slot b o e n hb (by simp)) (λb o _ e n=>u.free b o e n (by simp)) (λb o _ e=>u.there b o e (by simp)) u.tups u.frzs u.tbls (λm' hm=>by
  obtain⟨o',es',ep',ho',r'⟩:=hm;rw[ho]at ho';cases ho'
  exact#[_,es',ep',hL,r']) hok I.bare
theorem Inv.call{g':Array sY}{t':Nat}{d':Drawn}{ch:List pC}(I:Inv X tK σ H s)(u:Un (frs X.stack) ch H H' s.heap h')(hok:HOk X.prog X.w H' h')(hg:rY g')
  (hch:∀b ∈ ch,(b ∈ X.ex\/X.s₀.heap.objs.size<=b)/\b≠X.env.locals/\(∀x c,X.env.cells.lookup x=tG c->c≠b)/\∀p ∈ X.pn ++ tK,p.1≠b) :
  Inv X tK σ H' { s with heap:=h',gens:=g',drawn:=d',toks:=t' }:=by
 obtain⟨m,⟨o,es,ep,ho,r⟩,_⟩:=id I.loc;obtain⟨sl,hL⟩:=u.any ho I.free λz=>(hch _ z).2.1 rfl
 exact I.step (ch:=ch) hch (λb o hL hb hc e n=>u.keep b o e n (λz=>(tP.mp (I.stkSub b z)).elim hL hb) hc) (λb o _ _ hc e n=>u.any e n hc) (λb o hc e n=>u.free b o e n hc) (λb o hc e=>u.there b o e hc) u.tups u.frzs u.tbls (λm' hm=>by
  obtain⟨o',es',ep',ho',r'⟩:=hm;rw[ho]at ho';cases ho'
  exact#[_,es',ep',hL,r']) hok hg
theorem Inv.turned{t':Nat}{it:pC}(I:Inv X tK σ H s)(k:∀b o,b≠it->s.heap.get? b=tG o->h'.get? b=tG o)(hn:H it=tH)(hL:it≠X.env.locals)
  (h1:it ∈ X.ex\/X.s₀.heap.objs.size<=it) (h2:∀x c,X.env.cells.lookup x=tG c->c≠it) (h3:∀p ∈ X.pn ++ tK,p.1≠it):Inv X tK σ H { s with heap:=h',toks:=t' }:=by
 have nit:∀b u,H b=tG u->b≠it:=λb u e z=>by rw[z,hn]at e;cases e
 refine I.step (g':=s.gens) (d':=s.drawn) (ch:=[it]) (λb hb=>?_) (λb o _ _ hc e _=>k b o (λz=>hc (by simp [z])) e) (λb o _ _ hc e _=>#[o.slots,k b o (λz=>hc (by simp [z])) e]) (λ_ _ _ _ n=>n)
  (λb o hc e=>#[o,k b o (λz=>hc (by simp [z])) e]) (λ_ _ e=>e) (λ_ _ _ e=>e) (λb ps e=>#[#[],by rw[e];simp]) (λm hm=>?_) (λb u e=>?_) I.bare
 ·have e:b=it:=by simpa using hb
  subst e;exact#[h1,hL,h2,h3]
 ·obtain⟨o,es,ep,ho,r⟩:=hm;exact#[o,es,ep,k _ o (Ne.symm hL) ho,r]
 ·refine (I.hok b u e).stay (λc v hc q=>k c v ?_ q) (λ_ q=>q) λ_ _ q=>q;rcases hc with z | z
  ·rw[z];exact nit b u e
  ·exact nit c _ z
theorem Inv.tok(I:Inv X tK σ H s)(t:Nat):Inv X tK σ H { s with toks:=t }:=I.un (h':=s.heap) (t':=t) Un.refl I.hok
theorem Inv.kept{t':Nat}(I:Inv X tK σ H s)(k:∀b u,s.heap.get? b=tG u->h'.get? b=tG u):Inv X tK σ H { s with heap:=h',toks:=t' }:=I.un (Un.kept k) (I.hok.kept k)
theorem Inv.laid{a:pC}{o:HO}{t':Nat}(I:Inv X tK σ H s)(k:∀b u,s.heap.get? b=tG u->h'.get? b=tG u)(hp:s⁻¹<=a)(new:ObjOk X.prog X.w (upd H a o) h' a o) :
  Inv X tK σ (upd H a o) { s with heap:=h',toks:=t' }:=I.un (Un.laid k hp (I.hok.fresh hp)) (I.hok.laid k hp new)
theorem Inv.write{x e:pC}{o:HO}{t':Nat}(I:Inv X tK σ H s)(mu:Mut (H x))(he:e=x\/H e=tG (.own x))(k:∀b u,b≠e->s.heap.get? b=tG u->h'.get? b=tG u)(heo:∃u,h'.get? e=tG u)
  (new:ObjOk X.prog X.w (upd H x o) h' x o):Inv X tK σ (upd H x o) { s with heap:=h',toks:=t' }:=I.un (Un.write mu he k heo) (I.hok.write mu he k heo new)
theorem Inv.weak{σ':List (Option V)}(I:Inv X tK σ H s)(hl:σ'.length=σ.length)(w:∀(i:Nat) v,σ'[i]? = tG (tG v)->σ[i]? = tG (tG v)):Inv X tK σ' H s :=
 #[I.ok,I.os,I.bare,I.base,let #[m,hn,hl']:=I.loc; #[m,hn,λi x v e1 e2 e3=>hl' i x v e1 (w i v e2) e3],I.cell,I.free,I.freeC,I.pin,I.hok,hl.trans I.len]
theorem Inv.pins_of{pins':List (pC × rb)}(I:Inv X tK σ H s)(h:∀p ∈ pins',s.heap.get? p.1=tG p.2/\H p.1=tH/\p.1≠X.env.locals/\p.1 ∉ X.fs/\∀v,p.2.data≠.cell v):Inv X pins' σ H s :=
 #[I.ok,I.os,I.bare,I.base,I.loc,I.cell,I.free,I.freeC,λp hp=>(tQ.mp hp).elim (λz=>I.pin p (aO _ z)) (h p),I.hok,I.len]
theorem X3{N:List pJ}(hN:N.Nodup){i j:Nat}{x:pJ}(a:N[i]? = tG x)(b:N[j]? = tG x):i=j:=by
 obtain⟨h1,e1⟩:=tN.mp a;obtain⟨h2,e2⟩:=tN.mp b;exact (List.getElem_inj hN).mp (e1.trans e2.symm)
theorem Zo{M:sV}{A:pL}{E:pD->pE->Prop}{i:Nat}{x:pJ}{v:V}{u:pD}{Q:Unit->pE->Prop}(I:Inv X tK σ H s)(hN:X.N.Nodup)(hi:X.N[i]? = tG x)(hx:Loc X.env.scope x)(r:RelV v u)
  (h:∀s',Inv X tK (σ.set i (tG v)) H s'->(∃a,Heap.SameBut a s.heap s'.heap/\(a=X.env.locals\/X.env.cells.lookup x=tG a))->Q Unit.unit s') (hf:X.fn x=tI\/X.env.scope.names.lookup x=tG .local:=by first | exact .inl rfl | exact .inr rfl | assumption):pF M A (storeName X.env x u) Q E s:=by
 obtain⟨m,hn,hl⟩:=id I.loc;have hcls:(X.env.scope.kind == .class || (X.env.scope.kind == .module && X.env.locals != X.env.globals))=tJ:=by rw[I.ok.kind];rfl
 have hiσ:i<σ.length:=by rw[I.len];exact (tN.mp hi).1
 have cne:=I.cne
 have tracked:∀{a:pC} {h':pN},(∃o,s.heap.get? a=tG o/\H a=tH)->Heap.SameBut a s.heap h'->HOk X.prog X.w H h':=λ{a h'} ha hs b ob e=>by
  obtain⟨_,_,hfree⟩:=ha;refine (I.hok b ob e).stay (λc w' hc q=>(hs.2 c ?_).trans q) (λ_ q=>q) λ_ _ q=>q;rintro rfl;rcases hc with rfl | hc
  ·rw[hfree]at e;cases e
  ·rw[hfree]at hc;cases hc
 rcases hx with hk | hk
 ·refine wpAny_storeName_local hk hn (λh' hn' hs=>?_) hcls;obtain⟨oL,_,_,hoL,_⟩:=id hn;refine h _ #[I.ok,I.os,I.bare,#[λb o e n hb hx=>?_,λb o e n hb hx=>?_,I.base.free,λb o e hx=>?_,I.base.tups,I.base.frzs,I.base.tbls],#[_,hn',λj y v' e1 e2 e3=>?_],λy c e=>?_,I.free,I.freeC,λp hp=>?_,tracked #[oL,hoL,I.free] hs,by simpa using I.len] #[_,hs,.inl rfl]
  ·exact (hs.2 b (ax (aw (au e) I.ok.above))).trans (I.base.keep b o e n hb hx)
  ·obtain⟨sl,e1⟩:=I.base.slot b o e n hb hx;exact#[sl,(hs.2 b (ax (aw (au e) I.ok.above))).trans e1]
  ·obtain⟨o',e1⟩:=I.base.there b o e hx;exact#[o',(hs.2 b (ax (aw (au e) I.ok.above))).trans e1]
  ·by_cases hj:j=i
   ·subst hj;rw[hi]at e1;cases e1;rw[fq hiσ]at e2;cases e2;exact#[u,r,.inl #[hk,by simp]]
   ·rw[fL (Ne.symm hj)]at e2;obtain⟨u',r',q⟩:=hl j y v' e1 e2 e3;refine#[u',r',?_];rcases q with ⟨k,e⟩ | ⟨k,c,e,z⟩
    ·refine .inl #[k,?_];have:y≠x:=λe=>hj (X3 hN e1 (e ▸ hi));simp [this,e]
    ·exact .inr #[k,c,e,z.sameBut hs (cne y c e)]
  ·obtain⟨w',z⟩:=I.cell y c e;exact#[w',z.sameBut hs (cne y c e)]
  ·obtain⟨e,n,ne,nf,d⟩:=I.pin p hp;exact#[(hs.2 p.1 ne).trans e,n,ne,nf,d]
 ·have hfn:X.fn x=tI:=by
   rcases hf with z | z
   ·exact z
   ·rw[z]at hk;cases hk
  obtain⟨c,hc⟩:=I.ok.has x (.inl hk);obtain⟨w',z⟩:=I.cell x c hc;refine wpAny_storeName_cell I.ok.kind hk hc z (λh' hc' hs=>?_);obtain⟨oc,hoc,hocd⟩:=id z;refine h { s with heap:=h' } #[I.ok,I.os,I.bare,#[λb o e n hb hx=>?_,λb o e n hb hx=>?_,I.base.free,λb o e hx=>?_,I.base.tups,I.base.frzs,I.base.tbls],#[m,hn.sameBut hs (Ne.symm (cne x c hc)),λj y v' e1 e2 e3=>?_],λy c' e=>?_,I.free,I.freeC,λp hp=>?_,tracked #[oc,hoc,I.freeC x c hc] hs,by simpa using I.len] #[c,hs,.inr hc]
  ·exact (hs.2 b (ax (aw (au e) (I.ok.cab x c hfn hc)))).trans (I.base.keep b o e n hb hx)
  ·obtain⟨sl,e1⟩:=I.base.slot b o e n hb hx;exact#[sl,(hs.2 b (ax (aw (au e) (I.ok.cab x c hfn hc)))).trans e1]
  ·obtain⟨o',e1⟩:=I.base.there b o e hx;exact#[o',(hs.2 b (ax (aw (au e) (I.ok.cab x c hfn hc)))).trans e1]
  ·by_cases hj:j=i
   ·subst hj;rw[hi]at e1;cases e1;rw[fq hiσ]at e2;cases e2;exact#[u,r,.inr #[.inl hk,c,hc,hc']]
   ·rw[fL (Ne.symm hj)]at e2;obtain⟨u',r',q⟩:=hl j y v' e1 e2 e3;refine#[u',r',?_];rcases q with q | ⟨k,c',e,z'⟩
    ·exact .inl q
    ·refine .inr #[k,c',e,z'.sameBut hs ?_];rintro rfl;exact hj (X3 hN e1 (I.ok.inj _ _ _ e hc ▸ hi))
  ·by_cases hcc:c'=c
   ·subst hcc;exact#[_,hc']
   ·obtain⟨w2,z2⟩:=I.cell y c' e;exact#[w2,z2.sameBut hs hcc]
  ·obtain⟨e,n,ne,nf,d⟩:=I.pin p hp;refine#[(hs.2 p.1 ?_).trans e,n,ne,nf,d];intro q;rw[q,hoc]at e;have q':oc=p.2:=Option.some.inj e;exact d w' (by rw[<- q'];exact hocd)
theorem kK{M:sV}{A:pL}{E:pD->pE->Prop}{i:Nat}{x:pJ}{v:V}{u:pD}{Q:Unit->pE->Prop}(I:Inv X tK σ H s)(hN:X.N.Nodup)(hi:X.N[i]? = tG x)(hx:Loc X.env.scope x)(r:RelV v u)
  (h:∀s',Inv X tK (σ.set i (tG v)) H s'->Q Unit.unit s') (hf:X.fn x=tI\/X.env.scope.names.lookup x=tG .local:=by first | exact .inl rfl | exact .inr rfl | assumption):pF M A (storeName X.env x u) Q E s :=
 Zo I hN hi hx r (λs' I' _=>h s' I') hf
theorem Inv.call'{s':pE}{ch:List pC}(I:Inv X tK σ H s)(ho:s'.os=s.os)(u:Un (frs X.stack) ch H H' s.heap s'.heap)(hok:HOk X.prog X.w H' s'.heap)(hg:rY s'.gens)
  (hch:∀b ∈ ch,(b ∈ X.ex\/X.s₀.heap.objs.size<=b)/\b≠X.env.locals/\(∀x c,X.env.cells.lookup x=tG c->c≠b)/\∀p ∈ X.pn ++ tK,p.1≠b):Inv X tK σ H' s':=by
 obtain⟨h',g',d',t',o'⟩:=s';have e:o'=s.os:=ho;subst e;exact I.call (g':=g') (t':=t') (d':=d') u hok hg hch
end
noncomputable abbrev XK:=pD->Option pC->Hp->Prop
noncomputable abbrev St:=List (Option V)
noncomputable abbrev VK:=V->Hp->Prop
noncomputable abbrev TE:=St->Hp->VK->Prop
noncomputable abbrev TT:=St->Hp->(Bool->Hp->Prop)->Prop
noncomputable abbrev TA:=St->Hp->(List V->Hp->Prop)->Prop
structure w4 where
 nx:St->Hp->Prop
 rt:VK
 bk:St->Hp->Prop:=λ_ _=>False
 ct:St->Hp->Prop:=λ_ _=>False
noncomputable abbrev TS:=w4->St->Hp->Prop
def EP(X:Cx)(tK:List (pC × rb))(σ:St)(Q:VK)(u:pD)(s':pE):Prop:=∃v H',Inv X tK σ H' s'/\RelV v u/\Q v H'
def TP(X:Cx)(tK:List (pC × rb))(σ:St)(Q:Bool->Hp->Prop)(b:Bool)(s':pE):Prop:=∃H',Inv X tK σ H' s'/\Q b H'
def AP(X:Cx)(tK:List (pC × rb))(σ:St)(Q:List V->Hp->Prop)(us:List pD)(s':pE):Prop:=∃vs H',Inv X tK σ H' s'/\Vals vs us/\Q vs H'
def SP(X:Cx)(tK:List (pC × rb))(D:w4)(f:Flow)(s':pE):Prop :=
 match f with
 | .next=>∃σ' H',Inv X tK σ' H' s'/\D.nx σ' H'
 | .brk=>∃σ' H',Inv X tK σ' H' s'/\D.bk σ' H'
 | .cont=>∃σ' H',Inv X tK σ' H' s'/\D.ct σ' H'
 | .ret u=>∃v σ' H',Inv X tK σ' H' s'/\RelV v u/\D.rt v H'
def PE(X:Cx)(e:pM)(t:TE):Prop :=
 ∀(tK:List (pC × rb)) (s:pE) (σ:St) (H:Hp) (Q:VK),Inv X tK σ H s->t σ H Q->pF (model X.prog X.w) X.A (eval e X.env) (EP X tK σ Q) X.xe s
def PT(X:Cx)(e:pM)(t:TT):Prop :=
 ∀(tK:List (pC × rb)) (s:pE) (σ:St) (H:Hp) (Q:Bool->Hp->Prop),Inv X tK σ H s->t σ H Q->pF (model X.prog X.w) X.A (isTrue e X.env (eval e X.env)) (TP X tK σ Q) X.xe s
def PW(X:Cx)(e:pM)(t:TT):Prop :=
 ∀(whole:tu pD) (tK:List (pC × rb)) (s:pE) (σ:St) (H:Hp) (Q:Bool->Hp->Prop),Inv X tK σ H s->t σ H Q->pF (model X.prog X.w) X.A (isTrue e X.env whole) (TP X tK σ Q) X.xe s
theorem PW.pt{X:Cx}{e:pM}{t:TT}(h:PW X e t):PT X e t:=h _
def PA(X:Cx)(es:List pM)(t:TA):Prop :=
 ∀(pos:rj) (tK:List (pC × rb)) (s:pE) (σ:St) (H:Hp) (Q:List V->Hp->Prop),Inv X tK σ H s->t σ H Q->pF (model X.prog X.w) X.A (spliced (pS pos (pz es X.env))) (AP X tK σ Q) X.xe s
def PS(X:Cx)(st:pQ)(t:TS):Prop :=
 ∀(tK:List (pC × rb)) (s:pE) (σ:St) (H:Hp) (D:w4),Inv X tK σ H s->t D σ H->pF (model X.prog X.w) X.A (exec st X.env) (SP X tK D) X.xe s
def PSs(X:Cx)(st:List pQ)(t:TS):Prop :=
 ∀(tK:List (pC × rb)) (s:pE) (σ:St) (H:Hp) (D:w4),Inv X tK σ H s->t D σ H->pF (model X.prog X.w) X.A (execs st X.env) (SP X tK D) X.xe s
theorem thn{α:Type}{t:tu α}{Q Q':α->pE->Prop}{M:sV}{A:pL}{E:pD->pE->Prop}{s:pE}(h:pF M A t Q E s)(hQ:∀a s,Q a s->Q' a s):pF M A t Q' E s:=rD h hQ λ_ _ x=>x
section
variable{X:Cx}
theorem bin{a b:pM}{ta tb:TE}(ha:PE X a ta)(hb:PE X b tb){tK:List (pC × rb)}{s:pE}{σ:St}{H:Hp}{R:V->V->Hp->Prop}(I:Inv X tK σ H s)(h:ta σ H λx H1=>tb σ H1 λy H2=>R x y H2)
  {α:Type} {Q:α->pE->Prop} {f:pD->pD->tu α}
  (hf:∀v u s2 x y H2,Inv X tK σ H2 s2->RelV x v->RelV y u->R x y H2->pF (model X.prog X.w) X.A (f v u) Q X.xe s2) :
  pF (model X.prog X.w) X.A (eval a X.env) (λv s₁=>pF (model X.prog X.w) X.A (eval b X.env) (λu s₂=>pF (model X.prog X.w) X.A (f v u) Q X.xe s₂) X.xe s₁) X.xe s:=by
 refine thn (ha tK s σ H _ I h) λv s1 ⟨x,H1,I1,r1,q1⟩=>?_;refine thn (hb tK s1 σ H1 _ I1 q1) λu s2 ⟨y,H2,I2,r2,q2⟩=>?_;exact hf v u s2 x y H2 I2 r1 r2 q2
def onSl(σ:St)(i:Nat)(p:V->Prop):Prop:=match σ[i]? with | some (tG v)=>p v | _=>False
theorem onSl.of{σ:St}{i:Nat}{p:V->Prop}(h:onSl σ i p):∃v,σ[i]? = tG (tG v)/\p v:=by
 unfold onSl at h;split at h
 ·exact#[_,by assumption,h]
 ·exact h.elim
def onInt(x:V)(p:Int->Prop):Prop:=match x with | .int k=>p k | _=>False
theorem onInt.of{x:V}{p:Int->Prop}(h:onInt x p):∃k,x=.int k/\p k:=by
 cases x <;> first | exact#[_,rfl,h] | exact h.elim
theorem onInt.to{x:V}{p:Int->Prop}(h:∃k,x=.int k/\p k):onInt x p:=by
 obtain⟨k,rfl,h⟩:=h;exact h
def onStr(x:V)(p:pJ->Prop):Prop:=match x with | .str k=>p k | _=>False
theorem onStr.of{x:V}{p:pJ->Prop}(h:onStr x p):∃k,x=.str k/\p k:=by
 cases x <;> first | exact#[_,rfl,h] | exact h.elim
theorem onStr.to{x:V}{p:pJ->Prop}(h:∃k,x=.str k/\p k):onStr x p:=by
 obtain⟨k,rfl,h⟩:=h;exact h
def onBl(x:V)(p:Bool->Prop):Prop:=match x with | .bl k=>p k | _=>False
theorem onBl.of{x:V}{p:Bool->Prop}(h:onBl x p):∃k,x=.bl k/\p k:=by
 cases x <;> first | exact#[_,rfl,h] | exact h.elim
theorem onBl.to{x:V}{p:Bool->Prop}(h:∃k,x=.bl k/\p k):onBl x p:=by
 obtain⟨k,rfl,h⟩:=h;exact h
def onRef(x:V)(p:pC->Prop):Prop:=match x with | .ref k=>p k | _=>False
theorem onRef.of{x:V}{p:pC->Prop}(h:onRef x p):∃k,x=.ref k/\p k:=by
 cases x <;> first | exact#[_,rfl,h] | exact h.elim
theorem onRef.to{x:V}{p:pC->Prop}(h:∃k,x=.ref k/\p k):onRef x p:=by
 obtain⟨k,rfl,h⟩:=h;exact h
def zZ(i:Nat):TE:=λσ H Q=>onSl σ i λv=>Q v H
def tC(v:V):TE:=λ_ H Q=>Q v H
theorem zb2{i:Nat}{x:pJ}{pos:rj}(hN:X.N[i]? = tG x)(hv:Vis X.env.scope x)(hd:(x ==("__debug__" : pJ))=tJ:=by decide)(hcd:(x ==("__classdict__" : pJ))=tJ:=by decide):PE X (.Name x pos) (zZ i):=by
 intro tK s σ H Q I h;obtain⟨v,e,h⟩:=onSl.of h;obtain⟨m,hn,hl⟩:=I.loc;obtain⟨u,r,l⟩:=hl i x v hN e hv;have fin:EP X tK σ Q u s:=#[v,H,I,r,h];rcases l with ⟨hk,hm⟩ | ⟨hk,c,hc,hcell⟩
 ·exact tz (wpAny_loadName_local I.ok.kind hk hn hm fin) hd
 ·rcases hk with hk | hk
  ·exact tz (wpAny_loadName_cell I.ok.kind hk hc hcell fin) hd
  ·exact tz (wpAny_loadName_free I.ok.kind hk hc hcell fin hcd) hd
theorem zf{i j pos}:PE X (.Constant (.int i) j pos) (tC (.int i)):=λ_ _ _ H _ I h=>wpAny_Constant_int #[.int i,H,I.tok _,#[_,rfl],h]
theorem xf{b j pos}:PE X (.Constant (.bool b) j pos) (tC (.bl b)):=λ_ _ _ H _ I h=>Constant_bool #[.bl b,H,I,rfl,h]
theorem xV{j pos}:PE X (.Constant .none j pos) (tC .non):=λ_ _ _ H _ I h=>Constant_none #[.non,H,I,rfl,h]
theorem yB{x j pos}:PE X (.Constant (.str x) j pos) (tC (.str x)):=λ_ _ _ H _ I h=>Calls.Constant_str #[.str x,H,I.tok _,#[_,rfl],h]
def Gl(X:Cx)(x:pJ):Prop:=X.env.kindOf x=tG .globalImplicit
theorem vk{E:pD->pE->Prop}{tK:List (pC × rb)}{s:pE}{σ:St}{H:Hp}{x:pJ}{u:pD}{pos:rj}{Q:pD->pE->Prop}(I:Inv X tK σ H s)(hg:Gl X x)(hm:X.mg x=tG u)(h:Q u s)
  (hd:(x ==("__debug__" : pJ))=tJ:=by decide):pF (model X.prog X.w) X.A (eval (.Name x pos) X.env) Q E s :=
 Calls.Name_function_global I.ok.kind hg (Calls.loadGlobal_global (by rw[I.ok.glob];exact I.mod.glob.keeps I.bk) hm h) hd
theorem wm{E:pD->pE->Prop}{tK:List (pC × rb)}{s:pE}{σ:St}{H:Hp}{x:pJ}{u:pD}{pos:rj}{Q:pD->pE->Prop}(I:Inv X tK σ H s)(hg:Gl X x)(hm:X.mg x=tH)(hv:ra x=tG u)(h:Q u s)
  (hn:x≠"__name__":=by decide) (hd:(x ==("__debug__" : pJ))=tJ:=by decide):pF (model X.prog X.w) X.A (eval (.Name x pos) X.env) Q E s:=by
 obtain⟨mb,h1,h2⟩:=I.mod.blt;exact Calls.Name_function_global I.ok.kind hg (Calls.loadGlobal_builtin (by rw[I.ok.glob];exact I.mod.glob.keeps I.bk) hm (by rw[I.ok.blt];exact h1.keeps I.bk) ((h2 x hn).trans hv) h) hd
theorem yQ{x:pJ}{v:V}{u:pD}{pos:rj}(hg:Gl X x)(hm:X.mg x=tG u)(r:RelV v u)(hd:(x ==("__debug__" : pJ))=tJ:=by decide):PE X (.Name x pos) (tC v) :=
 λ_ _ _ H _ I h=>vk I hg hm #[v,H,I,r,h] hd
theorem Ku{x:pJ}{v:V}{u:pD}{pos:rj}(hg:Gl X x)(hm:X.mg x=tH)(hv:ra x=tG u)(r:RelV v u)(hn:x≠"__name__":=by decide)(hd:(x ==("__debug__" : pJ))=tJ:=by decide):PE X (.Name x pos) (tC v) :=
 λ_ _ _ H _ I h=>wm I hg hm hv #[v,H,I,r,h] hn hd
variable{a b:pM}{ta tb:TE}{pos:rj}
def PC(X:Cx)(op:rR)(a b:pM)(t:TE):Prop :=
 ∀(tK:List (pC × rb)) (s:pE) (σ:St) (H:Hp) (Q:VK),Inv X tK σ H s->t σ H Q ->
  pF (model X.prog X.w) X.A (eval a X.env) (λv s₁=>pF (model X.prog X.w) X.A (eval b X.env) (λu s₂=>pF (model X.prog X.w) X.A (pR op v u) (EP X tK σ Q) X.xe s₂) X.xe s₁) X.xe s
theorem Qo(b:pM){op:rR}(h:op≠.In)(h2:op≠.NotIn):behindInMarks op b=tJ:=by
 have e1:(op == CmpOp.In)=tJ:=by cases op <;> first | rfl | exact absurd rfl h
 have e2:(op == CmpOp.NotIn)=tJ:=by cases op <;> first | rfl | exact absurd rfl h2
 cases b <;> simp [behindInMarks,e1,e2]
theorem yO{op:rR}{t:TE}(h:PC X op a b t)(h1:behindInMarks op b=tJ:=by first | exact Qo _ ∅ ∅ | rfl):PE X (.Compare a [op] [b] pos) t:=λtK s σ H Q I hw=>wpAny_Compare1 (h tK s σ H Q I hw) h1
variable{tA tB':TT}{rest:List pM}
def zdc(t u:TT):TT:=λσ H Q=>t σ H λc H1=>if c=tI then u σ H1 Q else Q tJ H1
def tOr(t u:TT):TT:=λσ H Q=>t σ H λc H1=>if c=tI then Q tI H1 else u σ H1 Q
def zbn(t:TT):TT:=λσ H Q=>t σ H λc H1=>Q (!c) H1
theorem U3(ha:PT X a tA):PW X (.BoolOp .And [a] pos) tA:=by
 intro wh tK s σ H Q I h;refine isTrue_and (thn (ha tK s σ H Q I h) λc s1 e=>?_)
 cases c with
 | true=>exact isTrue_and_nil e
 | false=>exact e
theorem uz(ha:PT X a tA):PW X (.BoolOp .Or [a] pos) tA:=by
 intro wh tK s σ H Q I h;refine isTrue_or (thn (ha tK s σ H Q I h) λc s1 e=>?_)
 cases c with
 | false=>exact isTrue_or_nil e
 | true=>exact e
theorem XU(ha:PT X a tA)(hb:PW X (.BoolOp .And (b::rest) pos) tB'):PW X (.BoolOp .And (a::b::rest) pos) (zdc tA tB'):=by
 intro wh tK s σ H Q I h;refine isTrue_and (thn (ha tK s σ H _ I h) λc s1 ⟨H1,I1,q1⟩=>?_)
 cases c with
 | true=>exact hb wh tK s1 σ H1 Q I1 q1
 | false=>exact#[H1,I1,q1]
theorem uH(ha:PT X a tA)(hb:PW X (.BoolOp .Or (b::rest) pos) tB'):PW X (.BoolOp .Or (a::b::rest) pos) (tOr tA tB'):=by
 intro wh tK s σ H Q I h;refine isTrue_or (thn (ha tK s σ H _ I h) λc s1 ⟨H1,I1,q1⟩=>?_)
 cases c with
 | true=>exact#[H1,I1,q1]
 | false=>exact hb wh tK s1 σ H1 Q I1 q1
theorem yj(ha:PT X a tA):PT X (.UnaryOp .Not a pos) (zbn tA):=by
 intro tK s σ H Q I h;exact isTrue_not (ha tK s σ H (λc H1=>Q (!c) H1) I h)
def Qi(ta tb:TE):TE:=λσ H Q=>ta σ H λx H1=>onBl x λc=>if c=tI then tb σ H1 Q else Q (.bl tJ) H1
def UY(ta:TE):TE:=λσ H Q=>ta σ H λx H1=>onBl x λc=>Q (.bl (!c)) H1
theorem zcK{op}{t:TE}(h:PE X a t):PE X (.BoolOp op [a] pos) t:=λtK s σ H Q I hw=>BoolOp_one (h tK s σ H Q I hw)
theorem zbM(ha:PE X a ta)(hb:PE X (.BoolOp .And (b::rest) pos) tb):PE X (.BoolOp .And (a::b::rest) pos) (Qi ta tb):=by
 intro tK s σ H Q I h;refine BoolOp_and (thn (ha tK s σ H _ I h) λv s1 ⟨x,H1,I1,r1,q1⟩=>?_);obtain⟨c,rfl,q1⟩:=onBl.of q1;cases r1;refine pX ?_
 cases c with
 | true=>exact hb tK s1 σ H1 Q I1 q1
 | false=>exact#[.bl tJ,H1,I1,rfl,q1]
theorem J9(ha:PE X a ta):PE X (.UnaryOp .Not a pos) (UY ta):=by
 intro tK s σ H Q I h;refine UnaryOp_ (thn (ha tK s σ H _ I h) λv s1 ⟨x,H1,I1,r1,q1⟩=>?_);obtain⟨c,rfl,q1⟩:=onBl.of q1;cases r1;exact not_of (pX #[.bl (!c),H1,I1,rfl,q1])
def tIf(t:TT)(ta tb:TE):TE:=λσ H Q=>t σ H λc H1=>if c=tI then ta σ H1 Q else tb σ H1 Q
theorem jQ{c:pM}(hc:PT X c tA)(ha:PE X a ta)(hb:PE X b tb):PE X (.IfExp c a b pos) (tIf tA ta tb):=by
 intro tK s σ H Q I h;refine wpAny_IfExp (thn (hc tK s σ H _ I h) λd s1 ⟨H1,I1,q1⟩=>?_)
 cases d with
 | true=>exact ha tK s1 σ H1 Q I1 q1
 | false=>exact hb tK s1 σ H1 Q I1 q1
end
def SqL(K:pB)(H:Hp)(a:pC)(xs:List V):Prop :=
 Rd H a (.lst xs) \/
  ∃(o:rb) (its:Array pD) (n:Nat),K.lookup a=tG o/\o.cls=.type "list"/\o.dict=tH/\o.data=.seq its n/\its.size<=pA/\Vals xs its.toList
def SqT(K:pB)(H:Hp)(a:pC)(xs:List V):Prop :=
 Rd H a (.tup xs) \/
  ∃(o:rb) (its:Array pD) (n:Nat),K.lookup a=tG o/\o.cls=.type "tuple"/\o.data=.seq its n/\its.size<=pA/\Vals xs its.toList
noncomputable def zeW:pD->Option V
 | .none=>tG .non
 | .bool b=>tG (.bl b)
 | .int i _=>tG (.int i)
 | .str x _=>tG (.str x)
 | .bytes b _=>tG (.byt b)
 | .float b _=>tG (.flt b)
 | .ref a=>tG (.ref a)
 | .type n=>tG (.ty n)
 | _=>tH
theorem RelV.abs{x:V}{u:pD}(r:RelV x u):zeW u=tG x:=by
 cases x with
 | non=>cases r;rfl
 | bl _=>cases r;rfl
 | int _=>obtain⟨t,rfl⟩:=r;rfl
 | str _=>obtain⟨t,rfl⟩:=r;rfl
 | byt _=>obtain⟨t,rfl⟩:=r;rfl
 | flt _=>obtain⟨t,rfl⟩:=r;rfl
 | ref _=>cases r;rfl
 | ty _=>cases r;rfl
theorem RelV.inj{x y:V}{u:pD}(r:RelV x u)(q:RelV y u):x=y:=Option.some.inj (r.abs.symm.trans q.abs)
theorem Vals.inj:∀{xs ys:List V} {us:List pD},Vals xs us->Vals ys us->xs=ys
 | _,_,_,.nil,.nil=>rfl
 | _,_,_,.cons r t,.cons r' t'=>by rw[r.inj r',Vals.inj t t']
section
variable{X:Cx}{tK:List (pC × rb)}{σ:St}{H:Hp}{s:pE}{a:pC}{xs ys:List V}
theorem SqL.of{K:pB}(h:H a=tG (.lst xs)):SqL K H a xs:=.inl (.inl h)
theorem SqT.of{K:pB}(h:H a=tG (.tup xs)):SqT K H a xs:=.inl (.inl h)
theorem Inv.list(I:Inv X tK σ H s)(h:SqL X.K H a xs):∃its:List pD,Vals xs its/\PlainL s.heap a its.toArray/\xs.length<=pA:=by
 rcases h with h | ⟨o,its,n,hk,hc,hd,hs,hz,r⟩
 ·obtain⟨z,its,n,r,e⟩:=h.ok I.hok;exact#[its,r,#[_,n,e,rfl,rfl,rfl],z]
 ·refine#[its.toList,r,#[o,n,I.kIn a o hk,hc,hd,by simpa using hs],?_];have e:=r.length
  erw[ee]at e
  lia
theorem Inv.tuple(I:Inv X tK σ H s)(h:SqT X.K H a xs):∃its:List pD,Vals xs its/\IsTup s.heap a its.toArray/\xs.length<=pA:=by
 rcases h with h | ⟨o,its,n,hk,hc,hs,hz,r⟩
 ·obtain⟨z,its,r,p⟩:=h.ok I.hok;exact#[its,r,p,z]
 ·refine#[its.toList,r,#[o,I.kIn a o hk,hc,n,by simpa using hs],?_];have e:=r.length
  erw[ee]at e
  lia
theorem Inv.list_inj(I:Inv X tK σ H s)(h:SqL X.K H a xs)(h':SqL X.K H a ys):xs=ys:=by
 obtain⟨its,r,⟨o,n,e,_,_,d⟩,_⟩:=I.list h;obtain⟨its',r',⟨o',n',e',_,_,d'⟩,_⟩:=I.list h';rw[e]at e';cases e';rw[d]at d';injection d' with d1 _;have:its=its':=by simpa using congrArg Array.toList d1
 subst this;exact r.inj r'
theorem Inv.tuple_inj(I:Inv X tK σ H s)(h:SqT X.K H a xs)(h':SqT X.K H a ys):xs=ys:=by
 obtain⟨its,r,⟨o,e,_,n,d⟩,_⟩:=I.tuple h;obtain⟨its',r',⟨o',e',_,n',d'⟩,_⟩:=I.tuple h';rw[e]at e';cases e';rw[d]at d';injection d' with d1 _;have:its=its':=by simpa using congrArg Array.toList d1
 subst this;exact r.inj r'
end
noncomputable abbrev Cx.wish(X:Cx)(E:pD->pE->Prop):Cx:={ X with xe:=E }
noncomputable abbrev Cx.nox(X:Cx):Cx:=X.wish λ_ _=>False
theorem Cx.Ok.wish{X:Cx}(ok:X.Ok)(E:pD->pE->Prop):(X.wish E).Ok :=
 #[ok.mod,ok.kind,ok.glob,ok.blt,ok.above,ok.inj,ok.has,ok.cab,ok.hd,ok.frames,ok.stk,ok.exf,ok.bs,ok.bsz,ok.noex,ok.exfs,ok.funs,ok.frf]
theorem Cx.Ok.unwish{X:Cx}{E:pD->pE->Prop}(ok:(X.wish E).Ok):X.Ok :=
 #[ok.mod,ok.kind,ok.glob,ok.blt,ok.above,ok.inj,ok.has,ok.cab,ok.hd,ok.frames,ok.stk,ok.exf,ok.bs,ok.bsz,ok.noex,ok.exfs,ok.funs,ok.frf]
section
variable{X:Cx}{tK:List (pC × rb)}{σ:St}{H:Hp}{s:pE}{E:pD->pE->Prop}
theorem Inv.wish(I:Inv X tK σ H s)(E:pD->pE->Prop):Inv (X.wish E) tK σ H s:=#[I.ok.wish E,I.os,I.bare,I.base,I.loc,I.cell,I.free,I.freeC,I.pin,I.hok,I.len]
theorem Inv.unwish(I:Inv (X.wish E) tK σ H s):Inv X tK σ H s:=#[I.ok.unwish,I.os,I.bare,I.base,I.loc,I.cell,I.free,I.freeC,I.pin,I.hok,I.len]
theorem SP.unwish{D:w4}{f:Flow}{s':pE}(h:SP (X.wish E) tK D f s'):SP X tK D f s':=by
 cases f with
 | next=>obtain⟨σ',H',I,q⟩:=h;exact#[σ',H',I.unwish,q]
 | brk=>obtain⟨σ',H',I,q⟩:=h;exact#[σ',H',I.unwish,q]
 | cont=>obtain⟨σ',H',I,q⟩:=h;exact#[σ',H',I.unwish,q]
 | ret u=>obtain⟨v,σ',H',I,r,q⟩:=h;exact#[v,σ',H',I.unwish,r,q]
theorem PSs.nox{st:List pQ}{t:TS}(h:PSs X.nox st t):PSs X st t:=λtK s σ H D I hw =>
 rD (h tK s σ H D (I.wish _) hw) (λ_ _ q=>q.unwish) λ_ _ z=>False.elim z
end
section
variable{X:Cx}{st:pQ}{rest:List pQ}{t u:TS}{e:pM}{te:TE}{pos:rj}
def Q0:TS:=λD σ H=>D.nx σ H
def zde(t u:TS):TS:=λD σ H=>t { D with nx:=u D } σ H
theorem zy:PSs X [] Q0:=λ_ _ σ H _ I h=>rF #[σ,H,I,h]
theorem zS(h1:PS X st t)(h2:PSs X rest u):PSs X (st::rest) (zde t u):=by
 intro tK s σ H D I h;refine rH (thn (h1 tK s σ H { D with nx:=u D } I h) λf s1 q=>?_)
 cases f with
 | next =>
  obtain⟨σ',H',I',q⟩:=q;exact h2 tK s1 σ' H' D I' q
 | ret v=>exact q
 | brk=>exact q
 | cont=>exact q
theorem zh(h1:PS X st t):PSs X [st] t:=by
 intro tK s σ H D I h;refine rH (thn (h1 tK s σ H D I h) λf s1 q=>?_)
 cases f with
 | next=>exact rF q
 | ret v=>exact q
 | brk=>exact q
 | cont=>exact q
theorem Inv.quiet{tK:List (pC × rb)}{σ:St}{H:Hp}{s:pE}(I:Inv X tK σ H s):interactive X.env=tJ:=by simp [interactive,I.ok.kind]
def Q2(te:TE):TS:=λD σ H=>te σ H λ_ H1=>D.nx σ H1
theorem yw(he:PE X e te)(hs:swapsWith e tH pos.line X.env=pure tJ:=by rfl):PS X (.Expr e pos) (Q2 te):=by
 intro tK s σ H D I h;exact wpAny_Expr_any (thn (he tK s σ H _ I h) λv s1 ⟨x,H1,I1,r1,q1⟩=>#[σ,H1,I1,q1]) I.quiet hs
def zbm(te:TE):TS:=λD σ H=>te σ H D.rt
theorem zr(he:PE X e te):PS X (.Return (tG e) pos) (zbm te):=by
 intro tK s σ H D I h;exact sS (thn (he tK s σ H _ I h) λv s1 ⟨x,H1,I1,r1,q1⟩=>#[x,σ,H1,I1,r1,q1])
def zc7(c:TT)(t u:TS):TS:=λD σ H=>c σ H λb H1=>if b=tI then t D σ H1 else u D σ H1
theorem zP{c:pM}{a b:List pQ}{tc:TT}(hc:PT X c tc)(ha:PSs X a t)(hb:PSs X b u):PS X (.If c a b pos) (zc7 tc t u):=by
 intro tK s σ H D I h;refine wpAny_If (thn (hc tK s σ H _ I h) λd s1 ⟨H1,I1,q1⟩=>?_)
 cases d with
 | true=>exact ha tK s1 σ H1 D I1 q1
 | false=>exact hb tK s1 σ H1 D I1 q1
end
noncomputable abbrev TG:=V->St->Hp->(St->Hp->Prop)->Prop
noncomputable abbrev TGs:=List V->St->Hp->(St->Hp->Prop)->Prop
def PG(X:Cx)(target:pM)(t:TG):Prop :=
 ∀(tK:List (pC × rb)) (s:pE) (σ:St) (H:Hp) (v:V) (u:pD) (Q:St->Hp->Prop),Inv X tK σ H s->RelV v u->t v σ H Q ->
  pF (model X.prog X.w) X.A (assign target X.env u) (λ_ s'=>∃σ' H',Inv X tK σ' H' s'/\Q σ' H') X.xe s
def PGs(X:Cx)(ts:List pM)(t:TGs):Prop :=
 ∀(tK:List (pC × rb)) (s:pE) (σ:St) (H:Hp) (vs:List V) (us:List pD) (Q:St->Hp->Prop),Inv X tK σ H s->Vals vs us->t vs σ H Q ->
  pF (model X.prog X.w) X.A (assignInOrder ((assignEach ts X.env).map (·.2)) us) (λ_ s'=>∃σ' H',Inv X tK σ' H' s'/\Q σ' H') X.xe s
noncomputable abbrev zdN:=V->V->V->Hp->(Hp->Prop)->Prop
def zeJ(X:Cx)(t:zdN):Prop :=
 ∀(tK:List (pC × rb)) (s:pE) (σ:St) (H:Hp) (o i v:V) (ov iv u:pD) (Q:Hp->Prop),Inv X tK σ H s->RelV o ov->RelV i iv->RelV v u->t o i v H Q ->
  pF (model X.prog X.w) X.A (setItem ov iv u) (λ_ s'=>∃H',Inv X tK σ H' s'/\Q H') X.xe s
section
variable{X:Cx}{pos:rj}
def yR(i:Nat):TG:=λv σ H Q=>Q (σ.set i (tG v)) H
theorem zx{i:Nat}{x:pJ}(hN:X.N.Nodup)(hi:X.N[i]? = tG x)(hx:Loc X.env.scope x)(hf:X.fn x=tI\/X.env.scope.names.lookup x=tG .local:=by first | exact .inl rfl | exact .inr rfl | assumption):PG X (.Name x pos) (yR i):=by
 intro tK s σ H v u Q I r h;exact sQ (kK I hN hi hx r (λs' I'=>#[_,H,I',h]) hf)
def zaP:TGs:=λvs σ H Q=>vs=[]/\Q σ H
def jc(t:TG)(u:TGs):TGs:=λvs σ H Q=>∃v r,vs=v::r/\t v σ H λσ' H'=>u r σ' H' Q
theorem wy:PGs X [] zaP:=by
 intro tK s σ H vs us Q I r h;obtain⟨e,h⟩:=h;subst e;cases r;exact assignInOrder_nil #[σ,H,I,h]
theorem zY{e:pM}{es:List pM}{t:TG}{u:TGs}(h1:PG X e t)(h2:PGs X es u)
  (hs:(assignEach (e::es) X.env).map (·.2)=assign e X.env::(assignEach es X.env).map (·.2):=by rfl):PGs X (e::es) (jc t u):=by
 intro tK s σ H vs us Q I r h;obtain⟨v,vr,e1,h⟩:=h;subst e1
 cases r with
 | cons r rr =>
  rw[hs];refine assignInOrder_cons (thn (h1 tK s σ H _ _ _ I r h) λ_ s1 ⟨σ1,H1,I1,q1⟩=>?_);exact h2 tK s1 σ1 H1 _ _ Q I1 rr q1
def KI(K:pB)(n:Nat)(t:TGs):TG:=λv σ H Q=>∃a xs,v=.ref a/\SqT K H a xs/\xs.length=n/\t xs σ H Q
theorem uA{es:List pM}{k:Nat}{t:TGs}{n:Nat}(hc:X.calm=tI)(h:PGs X es t)
  (hn:(assignEach es X.env).length=n:=by rfl) (hst:(assignEach es X.env).findIdx? (·.1)=tH:=by rfl):PG X (.Tuple es k pos) (KI X.K n t):=by
 intro tK s σ H v u Q I r hw;obtain⟨a,xs,e1,hq,hl,hw⟩:=hw;subst e1;cases r;obtain⟨its,rv,ht,hz⟩:=I.tuple hq;refine assign_Tuple_tuple (I.ok.hd hc) ht (by simp [hn,<- hl,rv.length]) hst λh' hx=>?_;have I1:Inv X tK σ H { s with heap:=h' }:=I.kept (t':=s.toks) λb o e=>hx b o (ax (au e)) e;exact h tK _ σ H xs _ Q I1 (by simpa using rv) hw
def zez(to ti:TE)(t:zdN):TG:=λv σ H Q=>to σ H λo H1=>ti σ H1 λi H2=>t o i v H2 λH3=>Q σ H3
theorem zbW{o i:pM}{to ti:TE}{t:zdN}(ho:PE X o to)(hi:PE X i ti)(hs:zeJ X t)
  (ha:∀v,assign (.Subscript o i pos) X.env v=(do
   let ov <- holding [v] (eval o X.env)
   let iv <- holding [v,ov] (eval i X.env)
   standAt pos
   holding [v,ov,iv] (setItem ov iv v)
   release [v,ov,iv] []):=by intro _;rfl):PG X (.Subscript o i pos) (zez to ti t):=by
 intro tK s σ H v u Q I r h;rw[ha];refine pi (re (thn (ho tK s σ H _ I h) λov s1 ⟨x,H1,I1,r1,q1⟩=>?_));refine pi (re (thn (hi tK s1 σ H1 _ I1 q1) λiv s2 ⟨y,H2,I2,r2,q2⟩=>?_));refine pi (rp (pi (re (thn (hs tK s2 σ H2 x y v ov iv u _ I2 r1 r2 r q2) λ_ s3 ⟨H3,I3,q3⟩=>?_))));exact wpAny_release #[σ,H3,I3,q3]
def zbj(te:TE)(g:TG):TS:=λD σ H=>te σ H λx H1=>g x σ H1 D.nx
theorem zcs{tg e:pM}{te:TE}{g:TG}(he:PE X e te)(hg:PG X tg g)(hs:swapsWithSole [tg] e pos.line X.env=pure tJ:=by rfl)(hw:swappedStores [tg] e X.env=pure tH:=by rfl)
  (h1:(assignEach [tg] X.env).map (·.2)=[assign tg X.env]:=by rfl):PS X (.Assign [tg] e pos) (zbj te g):=by
 intro tK s σ H D I h;refine wpAny_Assign_stores (thn (he tK s σ H _ I h) λv s1 ⟨x,H1,I1,r1,q1⟩=>?_) hs hw;rw[h1];exact thn (hg tK s1 σ H1 x v _ I1 r1 q1) λ_ s2 q=>q
theorem qK{i:Nat}{x:pJ}{e:pM}{te:TE}{pos':rj}(hN:X.N.Nodup)(hi:X.N[i]? = tG x)(hx:Loc X.env.scope x)(he:PE X e te)(hs:swapsWith e (tG (.Name x pos')) pos.line X.env=pure tJ:=by rfl)(hf:X.fn x=tI\/X.env.scope.names.lookup x=tG .local:=by first | exact .inl rfl | exact .inr rfl | assumption) :
  PS X (.Assign [.Name x pos'] e pos) (zbj te (yR i)):=by
 intro tK s σ H D I h;refine sU (thn (he tK s σ H _ I h) λv s1 ⟨y,H1,I1,r1,q1⟩=>?_) hs;exact kK I1 hN hi hx r1 (λs2 I2=>#[_,H1,I2,q1]) hf
def XO(c:TT)(tb:TS):TS:=λD σ H=>∃W:Nat->St->Hp->Prop,(∃m,W m σ H)/\∀m σ H,W m σ H ->
 c σ H λb H1=>if b=tI then ∃N:St->Hp->Prop,(∀σ' H',N σ' H'->∃m',m'<m/\W m' σ' H')/\tb { D with nx:=N,ct:=N,bk:=D.nx } σ H1 else D.nx σ H1
theorem kP{c:pM}{body:List pQ}{tc:TT}{tb:TS}(hp:PassesOwn (model X.prog X.w) X.A X.env X.xe)(hc:PT X c tc)(hb:PSs X body tb):PS X (.While c body [] pos) (XO tc tb):=by
 intro tK s σ H D I h;obtain⟨W,⟨m0,w0⟩,turn⟩:=h;refine wpAny_While (codeAny_whileLoop (λn s'=>∃σ' H',Inv X tK σ' H' s'/\W n σ' H') ?_ m0 #[σ,H,I,w0]);rintro n s1 ⟨σ1,H1,I1,w1⟩;refine rn hp (thn (hc tK s1 σ1 H1 _ I1 (turn n σ1 H1 w1)) λb s2 ⟨H2,I2,q2⟩=>?_)
 cases b with
 | true =>
  obtain⟨N,hN,q2⟩:=q2;rw[if_pos rfl];refine rn hp (thn (hb tK s2 σ1 H2 _ I2 q2) λf s3 q3=>?_)
  cases f with
  | next =>
   obtain⟨σ3,H3,I3,n3⟩:=q3;obtain⟨m',hm,w3⟩:=hN σ3 H3 n3;exact#[m',hm,σ3,H3,I3,w3]
  | cont =>
   obtain⟨σ3,H3,I3,n3⟩:=q3;obtain⟨m',hm,w3⟩:=hN σ3 H3 n3;exact#[m',hm,σ3,H3,I3,w3]
  | brk=>exact q3
  | ret v=>exact q3
 | false =>
  rw[if_neg aB];exact rF #[σ1,H2,I2,q2]
end
structure It where
 go:Nat->Hp->Prop
 yld:Nat->Hp->V->Hp->Prop
 stop:Nat->Hp->Prop
def wf(X:Cx)(tK:List (pC × rb))(H:Hp)(b:pC):Prop :=
 H b=tH/\b≠X.env.locals/\b ∉ X.fs/\(b ∈ X.ex\/X.s₀.heap.objs.size<=b)/\(∀x c,X.env.cells.lookup x=tG c->c≠b)/\∀p ∈ X.pn ++ tK,p.1≠b
theorem Inv.fpOk{X:Cx}{tK:List (pC × rb)}{σ:St}{H H':Hp}{s:pE}{b:pC}(I:Inv X tK σ H s)(hb:s⁻¹<=b)(hn:H' b=tH):wf X tK H' b:=by
 refine#[hn,bW (aw I.lt hb),I.nofs hb,.inr (aP I.sz hb),λx c e z=>?_,λp hp z=>?_]
 ·obtain⟨v,q⟩:=I.cell x c e;exact absurd (aw q.lt (by rw[z];exact hb)) (cP _)
 ·exact absurd (aw (au (I.pin p hp).1) (by rw[z];exact hb)) (cP _)
structure Q7(P:pH)(w:pK)(K:pB)(tg:pM)(J:It)(fp:List pC)(it:pC)(tn:Nat->pN->Prop):Prop where
 mem:it ∈ fp
 obj:∀i h,tn i h->∀b ∈ fp,∃o,h.get? b=tG o/\∀v,o.data≠.cell v
 keep:∀i h h',tn i h->(∀b ∈ fp,∀o,h.get? b=tG o->h'.get? b=tG o)->tn i h'
 item:∀(X:Cx),X.prog=P->X.w=w->X.K=K->X.calm=tI->∀(i:Nat) (tK:List (pC × rb)) (s:pE) (σ:St) (H:Hp) (E:pD->pE->Prop),Inv X tK σ H s->(∀b ∈ fp,wf X tK H b)->tn i s.heap->J.go i H ->
  pF (model P w) X.A (pyNext (.ref it)) (λr s1=>∃u,r=tG u /\
   pF (model P w) X.A (letOwnedTupleGo tg (.ref it) u) (λ_ s2=>∃x H',Inv X tK σ H' s2/\RelV x u/\J.yld i H x H'/\tn (i+1) s2.heap/\∀b ∈ fp,H' b=tH) E s1) E s
 done:∀(X:Cx),X.prog=P->X.w=w->X.K=K->X.calm=tI->∀(i:Nat) (tK:List (pC × rb)) (s:pE) (σ:St) (H:Hp) (E:pD->pE->Prop),Inv X tK σ H s->(∀b ∈ fp,wf X tK H b)->tn i s.heap->J.stop i H ->
  pF (model P w) X.A (pyNext (.ref it)) (λr s1=>r=tH/\Inv X tK σ H s1) E s
 self:∀(A:pL) (i:Nat) (s:pE) (Q:pD->pE->Prop) (E:pD->pE->Prop),tn i s.heap->Q (.ref it) s->pF (model P w) A (pyIter (.ref it)) Q E s
noncomputable abbrev TI:=St->Hp->(It->Hp->Prop)->Prop
def PIE(X:Cx)(tK:List (pC × rb))(σ:St)(tg:pM)(R:It->Hp->Prop)(itv:pD)(s2:pE):Prop :=
 ∃(it:pC) (fp:List pC) (tn:Nat->pN->Prop) (J:It) (H':Hp),itv=.ref it/\Inv X tK σ H' s2/\Q7 X.prog X.w X.K tg J fp it tn/\tn 0 s2.heap/\(∀b ∈ fp,wf X tK H' b)/\R J H'
def PI(X:Cx)(tg iter:pM)(wi:TI):Prop :=
 ∀(tK:List (pC × rb)) (s:pE) (σ:St) (H:Hp) (R:It->Hp->Prop),Inv X tK σ H s->wi σ H R ->
  pF (model X.prog X.w) X.A (eval iter X.env) (λv s1=>pF (model X.prog X.w) X.A (pyIter v) (PIE X tK σ tg R) X.xe s1) X.xe s
theorem Q8{M:sV}{A:pL}{E:pD->pE->Prop}{s:pE}{tg:pM}{it:pC}{u:pD}{o:rb}{n:String}{vs:Array pD}{Q:Unit->pE->Prop}(ho:s.heap.get? it=tG o)(hc:o.cls=.type n)(hd:o.data=.fields vs)
    (hn:["enumerate","zip","dict_itemiterator","dict_reverseitemiterator","odict_iterator","itertools.zip_longest","itertools.pairwise"].contains n=tJ) (hQ:Q Unit.unit s):pF M A (letOwnedTupleGo tg (.ref it) u) Q E s:=by
  unfold letOwnedTupleGo
  cases tg <;> first
    | exact pj hQ
    | (cases u <;> first
        | exact pj hQ
        | (refine pi (wpAny_load ho ?_)
           rw[hc,hd];show pF M A (if (["enumerate","zip","dict_itemiterator","dict_reverseitemiterator","odict_iterator","itertools.zip_longest","itertools.pairwise"].contains n && vs[0]? == tG (rawInt _))=tI then _ else _) Q E s;rw[if_neg (by intro h;rw[hn,Bool.false_and]at h;cases h)]
           exact pj hQ))
noncomputable def Itl(K:pB)(a:pC):It :=
 #[λi H=>∃xs x,SqL K H a xs/\xs[i]? = tG x,λi H x H'=>H'=H/\∀xs,SqL K H a xs->xs[i]? = tG x,λi H=>∃xs,SqL K H a xs/\xs.length<=i]
noncomputable def Itt(K:pB)(a:pC):It :=
 #[λi H=>∃xs x,SqT K H a xs/\xs[i]? = tG x,λi H x H'=>H'=H/\∀xs,SqT K H a xs->xs[i]? = tG x,λi H=>∃xs,SqT K H a xs/\xs.length<=i]
noncomputable def Itr(lo:Int)(n:Nat):It:=#[λi _=>i<n,λi H x H'=>H'=H/\x=.int (lo+i),λi _=>n<=i]
theorem Vk{P:pH}{w:pK}{K:pB}{tg:pM}(a it:pC):Q7 P w K tg (Itl K a) [it] it (λi h=>h.IsListIter it a i) where
 mem:=by simp
 obj:=λi h st b hb=>by
  have e:b=it:=by simpa using hb
  subst e;obtain⟨o,e,c,d⟩:=st;exact#[o,e,λv z=>by rw[d]at z;cases z]
 keep:=λi h h' st k=>st.at λo e=>k it (by simp) o e
 item:=by
  intro X hP hw hK hc i tK s σ H E I hf st hg;subst hP hw hK;obtain⟨xs,x,hq,hx⟩:=hg;obtain⟨its,rv,p,hz⟩:=I.list hq;obtain⟨u,hu,ru⟩:=rv.get hx;obtain⟨f0,f1,f2,f3,f4,f5⟩:=hf it (by simp);refine wpAny_pyNext_list_item st p.isList (x:=u) (by simpa using hu) λh' st' sb=>?_;have I1:Inv X tK σ H { s with heap:=h' }:=I.turned (t':=s.toks) (λb o hb e=>(sb.2 b hb).trans e) f0 f1 f3 f4 f5;obtain⟨o,e,c,d⟩:=id st';exact#[u,rfl,Q8 (s:={ s with heap:=h' }) e c d ∅ #[x,H,I1,ru,#[rfl,λys hy=>by rw[I.list_inj hy hq];exact hx],st',λb hb=>(hf b hb).1]]
 done:=by
  intro X hP hw hK hc i tK s σ H E I hf st hg;subst hP hw hK;obtain⟨xs,hq,hx⟩:=hg;obtain⟨its,rv,p,hz⟩:=I.list hq;obtain⟨f0,f1,f2,f3,f4,f5⟩:=hf it (by simp);have hl:=rv.length;exact wpAny_pyNext_list_end (I.ok.hd hc) st p.isList (by simp;lia) λh' eb=>#[rfl,I.turned (t':=s.toks) (λb o hb e=>eb b o hb e) f0 f1 f3 f4 f5]
 self:=λ_ _ _ _ _ st h=>wpAny_pyIter_listiter st h
theorem Wh{P:pH}{w:pK}{K:pB}{tg:pM}(it:pC)(lo:Int)(n:Nat):Q7 P w K tg (Itr lo n) [it] it (λi h=>IsRangeIter h it (lo+(i:Nat) * 1) ((n:Int) - (i:Nat)) 1) where
 mem:=by simp
 obj:=λi h st b hb=>by
  have e:b=it:=by simpa using hb
  subst e
  exact#[_,st,λv z=>by
   have z':Data.fields _=Data.cell v:=z
   cases z']
 keep:=λi h h' st k=>k it (by simp) _ st
 item:=by
  intro X hP hw hK hc i tK s σ H E I hf st hg;subst hP hw hK;obtain⟨f0,f1,f2,f3,f4,f5⟩:=hf it (by simp);have W:=Walks.range (prog:=X.prog) (w:=X.w) (I.ok.hd hc) it lo 1 n;refine W.item i s _ _ hg st λv h' tk hv st' kk=>?_;obtain⟨t,rfl⟩:=hv;have I1:Inv X tK σ H { s with heap:=h',toks:=tk }:=I.turned (λb o hb e=>kk b o (by simpa using hb) e) f0 f1 f3 f4 f5;refine#[_,rfl,Q8 (s:={ s with heap:=h',toks:=tk }) (n:="range_iterator") st' rfl rfl ∅ #[.int (lo+i),H,I1,#[t,?_],#[rfl,rfl],st',λb hb=>(hf b hb).1]];rw[Int.mul_one]
 done:=by
  intro X hP hw hK hc i tK s σ H E I hf st hg;subst hP hw hK;obtain⟨f0,f1,f2,f3,f4,f5⟩:=hf it (by simp);exact wpAny_pyNext_range_end (I.ok.hd hc) st (by have:n<=i:=hg;lia) λh' eb=>#[rfl,I.turned (t':=s.toks) (λb o hb e=>eb b o hb e) f0 f1 f3 f4 f5]
 self:=λ_ _ _ _ _ st h=>wpAny_pyIter_rangeiter st h
section
variable{X:Cx}{tg:pM}
def zah(K:pB)(tl:TE):TI:=λσ H R=>tl σ H λx H1=>∃a,x=.ref a/\(∃xs,SqL K H1 a xs)/\R (Itl K a) H1
def zeT(K:pB)(tl:TE):TI:=λσ H R=>tl σ H λx H1=>∃a,x=.ref a/\(∃xs,SqT K H1 a xs)/\R (Itt K a) H1
theorem yh{l:pM}{tl:TE}(hl:PE X l tl):PI X tg l (zah X.K tl):=by
 intro tK s σ H R I h;refine thn (hl tK s σ H _ I h) λv s1 ⟨x,H1,I1,r1,q1⟩=>?_;obtain⟨a,e,⟨xs,hq⟩,q⟩:=q1;subst e;cases r1;obtain⟨its,rv,p,hz⟩:=I1.list hq;refine rO p.isList ?_;refine#[s1⁻¹,[s1⁻¹],_,_,H1,rfl,I1.kept (t':=s1.toks) λb o e=>ac _ e,Vk a _,#[_,aC _ rfl,rfl,rfl],λb hb=>?_,q];have e:b=s1⁻¹:=by simpa using hb
 subst e;exact I1.fpOk (al _) (I1.hok.fresh (al _))
theorem Xs{tK:List (pC × rb)}{σ:St}{H:Hp}{s:pE}{R:It->Hp->Prop}{E:pD->pE->Prop}{lo hi:Int}{t u v:si}{tk:Nat}(I:Inv X tK σ H s)(h1:-(2 ^ 62)<=lo)(h2:lo<2 ^ 62)(h3:-(2 ^ 62)<=hi)(h4:hi<2 ^ 62)
  (q:R (Itr lo (hi - lo).toNat) H):pF (model X.prog X.w) X.A (pyIter (.ref s⁻¹)) (PIE X tK σ tg R) E { s with heap:=s.heap.push { cls:=.type "range",data:=.fields (List.toArray [.int lo t,.int hi u,.int 1 v]) },toks:=tk }:=by
 refine wpAny_pyIter_range (IsRange.new ..) (small_one h1 h2 h3 h4) ?_;have I1:Inv X tK σ H { s with heap:=s.heap.push { cls:=.type "range",data:=.fields (List.toArray [.int lo t,.int hi u,.int 1 v]) },toks:=tk }:=I.kept λb o e=>ac _ e
 refine#[(s.heap.push { cls:=.type "range",data:=.fields (List.toArray [.int lo t,.int hi u,.int 1 v]) }).objs.size,[(s.heap.push { cls:=.type "range",data:=.fields (List.toArray [.int lo t,.int hi u,.int 1 v]) }).objs.size],_,_,H,rfl,
  I1.kept (t':=tk) λb o e=>ac _ e,Wh _ lo (hi - lo).toNat,?_,λb hb=>?_,q]
 ·have e1:lo+((0:Nat):Int) * 1=lo:=by simp
  have e2:(((hi - lo).toNat:Nat):Int) - ((0:Nat):Int)=Builtin.Range.rangeSize lo hi 1:=by rw[rangeSize_one];split <;> lia
  show IsRangeIter _ _ (lo+((0:Nat):Int) * 1) ((((hi - lo).toNat:Nat):Int) - ((0:Nat):Int)) 1;rw[e1,e2];exact aC _ rfl
 ·have e:b=(s.heap.push { cls:=.type "range",data:=.fields (List.toArray [.int lo t,.int hi u,.int 1 v]) }).objs.size:=by simpa using hb
  subst e;exact I1.fpOk (al _) (I1.hok.fresh (al _))
def zab(ta:TA):TI:=λσ H R=>ta σ H λvs H1=>∃j:Int,vs=[.int j]/\-(2 ^ 62)<=j/\j<2 ^ 62/\R (Itr 0 j.toNat) H1
def zcD(ta:TA):TI:=λσ H R=>ta σ H λvs H1=>∃i j:Int,vs=[.int i,.int j]/\(-(2 ^ 62)<=i/\i<2 ^ 62/\-(2 ^ 62)<=j/\j<2 ^ 62)/\R (Itr i (j - i).toNat) H1
theorem yu{a:pM}{ta:TA}{p pos:rj}(hg:Gl X "range")(hm:X.mg "range" = tH)(ha:PA X [a] ta)(hs:pz [a] X.env=[(tJ,eval a X.env)]:=by rfl):PI X tg (.Call (.Name "range" p) [a] [] pos) (zab ta):=by
 intro tK s σ H R I h;refine tF (wm I hg hm boot_range (bH (thn (ha pos tK s σ H _ I h) λus s1 ⟨vs,H1,I1,r1,q1⟩=>?_) hs rfl));obtain⟨j,e,q1,q2,q⟩:=q1;subst e
 cases r1 with
 | cons r rr =>
  cases rr;obtain⟨t,rfl⟩:=r;exact call_range_1 (Xs I1 ⋯ ⋯ q1 q2 (by simpa using q))
theorem Z1{a b:pM}{ta:TA}{p pos:rj}(hg:Gl X "range")(hm:X.mg "range" = tH)(ha:PA X [a,b] ta)(hs:pz [a,b] X.env=[(tJ,eval a X.env),(tJ,eval b X.env)]:=by rfl)(hs2:pz [b] X.env=[(tJ,eval b X.env)]:=by rfl) :
  PI X tg (.Call (.Name "range" p) [a,b] [] pos) (zcD ta):=by
 intro tK s σ H R I h;refine tF (wm I hg hm boot_range (bH (thn (ha pos tK s σ H _ I h) λus s1 ⟨vs,H1,I1,r1,q1⟩=>?_) (by rw[hs,hs2]) (by rw[hs2];rfl)));obtain⟨i,j,e,⟨q1,q2,q3,q4⟩,q⟩:=q1;subst e
 cases r1 with
 | cons r rr =>
  cases rr with
  | cons r' rr =>
   cases rr;obtain⟨t,rfl⟩:=r;obtain⟨t',rfl⟩:=r';exact call_range_2 (Xs I1 q1 q2 q3 q4 q)
def Qm(wi:TI)(g:TG)(tb:TS):TS:=λD σ H=>wi σ H λJ H1=>∃W:Nat->Nat->St->Hp->Prop,(∃m,W 0 m σ H1)/\∀i m σ H,W i m σ H ->
 (J.stop i H/\D.nx σ H)\/(J.go i H/\∃N:St->Hp->Prop,(∀σ' H',N σ' H'->∃m',m'<m/\W (i+1) m' σ' H')/\∀x H',J.yld i H x H'->g x σ H' λσ2 H2=>tb { D with nx:=N,ct:=N,bk:=D.nx } σ2 H2)
noncomputable def ZT(fp:List pC)(h:pN):List (pC × rb):=fp.filterMap λb=>(h.get? b).map λo=>(b,o)
theorem wU{fp:List pC}{h:pN}{b:pC}{o:rb}(hb:b ∈ fp)(e:h.get? b=tG o):(b,o) ∈ ZT fp h:=Aj.mpr #[b,hb,by rw[e];rfl]
theorem Ui{fp:List pC}{h:pN}{p:pC × rb}(hp:p ∈ ZT fp h):p.1 ∈ fp/\h.get? p.1=tG p.2:=by
 obtain⟨b,hb,e⟩:=Aj.mp hp
 cases q:h.get? b with
 | none=>rw[q]at e;cases e
 | some o =>
  rw[q]at e;have e':(b,o)=p:=Option.some.inj e;subst e';exact#[hb,q]
theorem Inv.pinned{tK:List (pC × rb)}{σ:St}{H:Hp}{s:pE}{fp:List pC}(I:Inv X tK σ H s)(hf:∀b ∈ fp,wf X tK H b)(ho:∀b ∈ fp,∃o,s.heap.get? b=tG o/\∀v,o.data≠.cell v):Inv X (tK ++ ZT fp s.heap) σ H s :=
 I.pins_of λp hp=>(tQ.mp hp).elim (λz=>I.pin p (ay _ z)) λz=>by
  obtain⟨hb,e⟩:=Ui z;obtain⟨f0,f1,f2,_⟩:=hf p.1 hb;obtain⟨o,e',d⟩:=ho p.1 hb;rw[e]at e';cases e';exact#[e,f0,f1,f2,d]
theorem Inv.unpinned{tK pl:List (pC × rb)}{σ:St}{H:Hp}{s:pE}(I:Inv X (tK ++ pl) σ H s):Inv X tK σ H s:=I.pins_of λp hp=>I.pin p (ay _ (aO _ hp))
theorem ym{iter:pM}{body:List pQ}{wi:TI}{g:TG}{tb:TS}{pos:rj}(hp:PassesOwn (model X.prog X.w) X.A X.env X.xe)(hc:X.calm=tI)(hi:PI X tg iter wi)(hg:PG X tg g)(hb:PSs X body tb)
  (hs:∀x,foldedSetIterable iter X.env x=pure x:=by intro _;rfl):PS X (.For tg iter body [] pos) (Qm wi g tb):=by
 intro tK s σ H D I h;refine wpAny_For (thn (hi tK s σ H _ I h) λv s1 h1=>thn h1 λitv s2 h2=>?_) hs;obtain⟨it,fp,tn,J,H2,e,I2,T,st2,f2,W,⟨m0,w0⟩,turn⟩:=h2;subst e;have stat:∀{H':Hp},(∀b ∈ fp,H' b=tH)->∀b ∈ fp,wf X tK H' b:=λhn b hb=>#[hn b hb,(f2 b hb).2];refine codeAny_forLoop_any (λn s'=>∃i σ' H',Inv X tK σ' H' s'/\tn i s'.heap/\(∀b ∈ fp,H' b=tH)/\W i n σ' H') ?_ m0 #[0,σ,H2,I2,st2,λb hb=>(f2 b hb).1,w0];rintro n s3 ⟨i,σ3,H3,I3,st3,fr3,w3⟩;rcases turn i n σ3 H3 w3 with ⟨stop,qn⟩ | ⟨go,N,hN,step⟩
 ·refine rn hp (thn (T.done X rfl rfl rfl hc i tK s3 σ3 H3 X.xe I3 (stat fr3) st3 stop) λr s4 ⟨hr,I4⟩=>?_);subst hr;exact rF #[σ3,H3,I4,qn]
 ·refine rn hp (thn (T.item X rfl rfl rfl hc i tK s3 σ3 H3 X.xe I3 (stat fr3) st3 go) λr s4 ⟨u,hr,h4⟩=>?_);subst hr;refine rn hp (thn h4 λ_ s5 ⟨x,H5,I5,r5,y5,st5,fr5⟩=>?_);have I5':=I5.pinned (stat fr5) (T.obj _ _ st5);refine rn hp (thn (hg _ s5 σ3 H5 x u _ I5' r5 (step x H5 y5)) λ_ s6 ⟨σ6,H6,I6,q6⟩=>?_);refine rn hp (thn (hb _ s6 σ6 H6 _ I6 q6) λf s7 q7=>?_)
  have again:∀{σ7:St} {H7:Hp},Inv X (tK ++ ZT fp s5.heap) σ7 H7 s7->N σ7 H7->∃m,m<n/\∃i σ' H',Inv X tK σ' H' s7/\tn i s7.heap/\(∀b ∈ fp,H' b=tH)/\W i m σ' H':=λ{σ7 H7} I7 n7=>by
   obtain⟨m',hm,w7⟩:=hN σ7 H7 n7;refine#[m',hm,i+1,σ7,H7,I7.unpinned,T.keep _ _ _ st5 λb hb o e=>(I7.pin (b,o) (ay _ (ay _ (wU hb e)))).1,λb hb=>?_,w7];obtain⟨o,e,d⟩:=T.obj _ _ st5 b hb;exact (I7.pin (b,o) (ay _ (ay _ (wU hb e)))).2.1
  cases f with
  | next=>obtain⟨σ7,H7,I7,n7⟩:=q7;exact again I7 n7
  | cont=>obtain⟨σ7,H7,I7,n7⟩:=q7;exact again I7 n7
  | brk=>obtain⟨σ7,H7,I7,q7⟩:=q7;exact#[σ7,H7,I7.unpinned,q7]
  | ret v=>obtain⟨x7,σ7,H7,I7,r7,q7⟩:=q7;exact#[x7,σ7,H7,I7.unpinned,r7,q7]
end
theorem Jl{K:pB}{a:pC}{xs:List V}{g:TG}{tb:TS}{D:w4}{σ:St}{H:Hp}(Pv:Nat->St->Hp->Prop)(h0:Pv 0 σ H)(hl:∀i σ H,i<=xs.length->Pv i σ H->SqL K H a xs)
  (hs:∀i x σ H,xs[i]? = tG x->Pv i σ H->g x σ H λσ2 H2=>tb { D with nx:=Pv (i+1),ct:=Pv (i+1),bk:=D.nx } σ2 H2) (hd:∀σ H,Pv xs.length σ H->D.nx σ H) :
  ∃W:Nat->Nat->St->Hp->Prop,(∃m,W 0 m σ H)/\∀i m σ H,W i m σ H ->
   ((Itl K a).stop i H/\D.nx σ H)\/((Itl K a).go i H/\∃N:St->Hp->Prop,(∀σ' H',N σ' H'->∃m',m'<m/\W (i+1) m' σ' H')/\∀x H',(Itl K a).yld i H x H'->g x σ H' λσ2 H2=>tb { D with nx:=N,ct:=N,bk:=D.nx } σ2 H2):=by
 refine#[λi m σ H=>m=xs.length - i/\i<=xs.length/\Pv i σ H,#[xs.length,by simp,aG _,h0],?_];rintro i m σ H ⟨rfl,hi,p⟩;have q:=hl i σ H hi p;by_cases hlt:i<xs.length
 ·refine .inr #[#[xs,xs[i],q,by simp [hlt]],Pv (i+1),λσ' H' p'=>#[xs.length - (i+1),⋯,rfl,hlt,p'],λx H' y=>?_];obtain⟨e,y⟩:=y;subst e;exact hs i x σ _ (y xs q) p
 ·have e:i=xs.length:=⋯;subst e;exact .inl #[#[xs,q,al _],hd σ H p]
theorem Vf{lo:Int}{n:Nat}{g:TG}{tb:TS}{D:w4}{σ:St}{H:Hp}(Pv:Nat->St->Hp->Prop)(h0:Pv 0 σ H)
  (hs:∀i σ H,i<n->Pv i σ H->g (.int (lo+i)) σ H λσ2 H2=>tb { D with nx:=Pv (i+1),ct:=Pv (i+1),bk:=D.nx } σ2 H2) (hd:∀σ H,Pv n σ H->D.nx σ H) :
  ∃W:Nat->Nat->St->Hp->Prop,(∃m,W 0 m σ H)/\∀i m σ H,W i m σ H ->
   ((Itr lo n).stop i H/\D.nx σ H)\/((Itr lo n).go i H/\∃N:St->Hp->Prop,(∀σ' H',N σ' H'->∃m',m'<m/\W (i+1) m' σ' H')/\∀x H',(Itr lo n).yld i H x H'->g x σ H' λσ2 H2=>tb { D with nx:=N,ct:=N,bk:=D.nx } σ2 H2):=by
 refine#[λi m σ H=>m=n - i/\i<=n/\Pv i σ H,#[n,by simp,aG _,h0],?_];rintro i m σ H ⟨rfl,hi,p⟩;by_cases hlt:i<n
 ·refine .inr #[hlt,Pv (i+1),λσ' H' p'=>#[n - (i+1),⋯,rfl,hlt,p'],λx H' y=>?_];obtain⟨e,y⟩:=y;subst e y;exact hs i σ _ hlt p
 ·have e:i=n:=⋯;subst e;exact .inl #[al _,hd σ H p]
noncomputable abbrev R2:=V->V->Hp->VK->Prop
def OpR(X:Cx)(f:pD->pD->tu pD)(r:R2):Prop :=
 ∀(tK:List (pC × rb)) (s:pE) (σ:St) (H:Hp) (x y:V) (v u:pD) (Q:VK),Inv X tK σ H s->RelV x v->RelV y u->r x y H Q ->
  pF (model X.prog X.w) X.A (f v u) (EP X tK σ Q) X.xe s
def UnR(X:Cx)(f:pD->tu pD)(r:V->Hp->VK->Prop):Prop :=
 ∀(tK:List (pC × rb)) (s:pE) (σ:St) (H:Hp) (x:V) (v:pD) (Q:VK),Inv X tK σ H s->RelV x v->r x H Q ->
  pF (model X.prog X.w) X.A (f v) (EP X tK σ Q) X.xe s
def vm(X:Cx)(f:pD)(r:List V->Hp->VK->Prop):Prop :=
 ∀(tK:List (pC × rb)) (s:pE) (σ:St) (H:Hp) (xs:List V) (us:List pD) (Q:VK),Inv X tK σ H s->Vals xs us->r xs H Q ->
  pF (model X.prog X.w) X.A (call f us) (EP X tK σ Q) X.xe s
def zeK(X:Cx)(r:V->Hp->(Bool->Hp->Prop)->Prop):Prop :=
 ∀(tK:List (pC × rb)) (s:pE) (σ:St) (H:Hp) (x:V) (v:pD) (Q:Bool->Hp->Prop),Inv X tK σ H s->RelV x v->r x H Q ->
  pF (model X.prog X.w) X.A (truthy v) (TP X tK σ Q) X.xe s
def tOp(r:R2)(ta tb:TE):TE:=λσ H Q=>ta σ H λx H1=>tb σ H1 λy H2=>r x y H2 Q
def tUn(r:V->Hp->VK->Prop)(ta:TE):TE:=λσ H Q=>ta σ H λx H1=>r x H1 Q
def rI(C:Int->Int->Prop)(g:Int->Int->V):R2:=λx y H Q=>onInt x λi=>onInt y λj=>C i j/\Q (g i j) H
def rI0(g:Int->Int->V):R2:=λx y H Q=>onInt x λi=>onInt y λj=>Q (g i j) H
def rU(g:Int->V):V->Hp->VK->Prop:=λx H Q=>onInt x λi=>Q (g i) H
section
variable{X:Cx}{a b c:pM}{ta tb tc:TE}{pos:rj}
theorem zdS(ha:PE X a ta)(hb:PE X b tb){tK:List (pC × rb)}{s:pE}{σ:St}{H:Hp}{R:V->V->Hp->Prop}(I:Inv X tK σ H s)
  (h:ta σ H λx H1=>tb σ H1 λy H2=>R x y H2) {Q:pD->pE->Prop} {f:pD->pD->tu pD}
  (hf:∀v u s2 x y H2,Inv X tK σ H2 s2->RelV x v->RelV y u->R x y H2->pF (model X.prog X.w) X.A (f v u) Q X.xe s2) :
  pF (model X.prog X.w) X.A (eval a X.env) (λv s₁=>pF (model X.prog X.w) X.A (eval b X.env) (λu s₂=>pF (model X.prog X.w) X.A (f v u) Q X.xe s₂) X.xe s₁) X.xe s:=by
 refine thn (ha tK s σ H _ I h) λv s1 ⟨x,H1,I1,r1,q1⟩=>?_;refine thn (hb tK s1 σ H1 _ I1 q1) λu s2 ⟨y,H2,I2,r2,q2⟩=>?_;exact hf v u s2 x y H2 I2 r1 r2 q2
theorem zC{op:Operator}{r:R2}(ho:OpR X (binaryOp op) r)(ha:PE X a ta)(hb:PE X b tb):PE X (.BinOp a op b pos) (tOp r ta tb):=by
 intro tK s σ H Q I h;exact wpAny_BinOp (zdS ha hb I h λv u s2 x y H2 I2 rx ry q=>ho tK s2 σ H2 x y v u Q I2 rx ry q)
theorem zd6{op:UnaryOp}{r:V->Hp->VK->Prop}(ho:UnR X (unaryOp op) r)(ha:PE X a ta):PE X (.UnaryOp op a pos) (tUn r ta):=by
 intro tK s σ H Q I h;exact UnaryOp_ (thn (ha tK s σ H _ I h) λv s1 ⟨x,H1,I1,r1,q1⟩=>ho tK s1 σ H1 x v Q I1 r1 q1)
theorem opI{f:pD->pD->tu pD}{C:Int->Int->Prop}{g:Int->Int->Int}
  (rule:∀(i j:Int) (t u:si) (s:pE) (Q:pD->pE->Prop) (E:pD->pE->Prop),C i j->Q (.int (g i j) s.toks) { s with toks:=s.toks+1 }->pF (model X.prog X.w) X.A (f (.int i t) (.int j u)) Q E s) :
  OpR X f (rI C λi j=>.int (g i j)):=by
 intro tK s σ H x y v u Q I rx ry h;obtain⟨i,rfl,h2⟩:=onInt.of h;obtain⟨j,rfl,hc,q⟩:=onInt.of h2;obtain⟨t,rfl⟩:=rx;obtain⟨t',rfl⟩:=ry;exact rule i j t t' s _ _ hc #[.int (g i j),H,I.tok _,#[_,rfl],q]
theorem zeG{f:pD->pD->tu pD}{g:Int->Int->Int}
  (rule:∀(i j:Int) (t u:si) (s:pE) (Q:pD->pE->Prop) (E:pD->pE->Prop),Q (.int (g i j) s.toks) { s with toks:=s.toks+1 }->pF (model X.prog X.w) X.A (f (.int i t) (.int j u)) Q E s) :
  OpR X f (rI0 λi j=>.int (g i j)):=by
 intro tK s σ H x y v u Q I rx ry h;obtain⟨i,rfl,h2⟩:=onInt.of h;obtain⟨j,rfl,q⟩:=onInt.of h2;obtain⟨t,rfl⟩:=rx;obtain⟨t',rfl⟩:=ry;exact rule i j t t' s _ _ #[.int (g i j),H,I.tok _,#[_,rfl],q]
theorem zdg{f:pD->pD->tu pD}{g:Int->Int->Bool}
  (rule:∀(i j:Int) (t u:si) (s:pE) (Q:pD->pE->Prop) (E:pD->pE->Prop),Q (.bool (g i j)) s->pF (model X.prog X.w) X.A (f (.int i t) (.int j u)) Q E s) :
  OpR X f (rI0 λi j=>.bl (g i j)):=by
 intro tK s σ H x y v u Q I rx ry h;obtain⟨i,rfl,h2⟩:=onInt.of h;obtain⟨j,rfl,q⟩:=onInt.of h2;obtain⟨t,rfl⟩:=rx;obtain⟨t',rfl⟩:=ry;exact rule i j t t' s _ _ #[.bl (g i j),H,I,rfl,q]
def zeV(i j:Int):Prop:=0<j/\j<1073741824
def zdt(i j:Int):Prop:=0<=j/\j<=1000000/\i.natAbs<2 ^ 64
def CMul(i j:Int):Prop:=(-(2 ^ 64)<i/\i<2 ^ 64)\/(-(2 ^ 64)<j/\j<2 ^ 64)
theorem CMul.ok{i j:Int}(h:CMul i j):IntMulOk i j:=by
 rcases h with ⟨h1,h2⟩ | ⟨h1,h2⟩
 ·exact .of_left (intBits_le_64 h1 h2)
 ·exact .of_right (intBits_le_64 h1 h2)
theorem yN:OpR X (binaryOp .Add) (rI0 λi j=>.int (i+j)):=zeG λ_ _ _ _ _ _ _ q=>add_int q
theorem uu:OpR X (binaryOp .Sub) (rI0 λi j=>.int (i - j)):=zeG λ_ _ _ _ _ _ _ q=>sub_int q
theorem ql:OpR X (binaryOp .Mult) (rI CMul λi j=>.int (i * j)):=opI λ_ _ _ _ _ _ _ hc q=>mul_int q hc.ok
theorem vd:OpR X (binaryOp .FloorDiv) (rI zeV λi j=>.int (i / j)):=opI λi j _ _ _ _ _ hc q=>by
 have h1:(0:Int)<j:=hc.1;have h2:j<1073741824:=hc.2;exact floordiv_int ⋯ (by rw[Int.fdiv_eq_ediv_of_nonneg i ⋯];exact q) (.inl (PyProof.noPylong_small ⋯))
theorem xS:OpR X (binaryOp .Mod) (rI (λ_ j=>0<j) λi j=>.int (i % j)):=opI λi j _ _ _ _ _ hc q=>by
 have h1:(0:Int)<j:=hc;exact mod_int' ⋯ (by rw[Int.fmod_eq_emod_of_nonneg i ⋯];exact q)
theorem Vo:OpR X (binaryOp .Pow) (rI zdt λi j=>.int (i ^ j.toNat)):=opI λ_ _ _ _ _ _ _ hc q=>pow_int_small hc.1 hc.2.1 hc.2.2 q
theorem unI{f:pD->tu pD}{g:Int->Int}
  (rule:∀(i:Int) (t:si) (s:pE) (Q:pD->pE->Prop) (E:pD->pE->Prop),Q (.int (g i) s.toks) { s with toks:=s.toks+1 }->pF (model X.prog X.w) X.A (f (.int i t)) Q E s) :
  UnR X f (rU λi=>.int (g i)):=by
 intro tK s σ H x v Q I rx h;obtain⟨i,rfl,q⟩:=onInt.of h;obtain⟨t,rfl⟩:=rx;exact rule i t s _ _ #[.int (g i),H,I.tok _,#[_,rfl],q]
theorem zbI:UnR X (unaryOp .USub) (rU λi=>.int (-i)):=unI λ_ _ _ _ _ q=>neg_int q
end
noncomputable def U1:V->V->Bool
 | .non,.non=>tI | .non,.int _=>tI | .int _,.non=>tI | .non,.bl _=>tI | .bl _,.non=>tI | .non,.str _=>tI | .str _,.non=>tI
 | .int _,.int _=>tI | .bl _,.bl _=>tI | .str _,.str _=>tI | .byt _,.byt _=>tI
 | .int _,.str _=>tI | .str _,.int _=>tI | .bl _,.str _=>tI | .str _,.bl _=>tI
 | _,_=>tJ
def rEq:R2:=λx y H Q=>match x,y with | .int a,.int b=>Q (.bl (decide (a=b))) H | .str a,.str b=>Q (.bl (decide (a=b))) H | x,y=>U1 x y=tI/\Q (.bl (decide (x=y))) H
theorem rEq_is{x y:V}{H:Hp}{Q:VK}:rEq x y H Q=(U1 x y=tI/\Q (.bl (decide (x=y))) H):=by
 unfold rEq;split <;> simp [U1]
def rNe:R2:=λx y H Q=>match x,y with | .int a,.int b=>Q (.bl (!decide (a=b))) H | .str a,.str b=>Q (.bl (!decide (a=b))) H | x,y=>U1 x y=tI/\Q (.bl (!decide (x=y))) H
theorem rNe_is{x y:V}{H:Hp}{Q:VK}:rNe x y H Q=(U1 x y=tI/\Q (.bl (!decide (x=y))) H):=by
 unfold rNe;split <;> simp [U1]
theorem VP{i j:Int}:decide (V.int i=V.int j)=(i == j):=by
 rw[di];simp
theorem Kd{i j:Bool}:decide (V.bl i=V.bl j)=(i == j):=by
 rw[di];simp
theorem WY{i j:pJ}:decide (V.str i=V.str j)=(i == j):=by
 rw[di];simp
theorem Um{i j:Array UInt8}:decide (V.byt i=V.byt j)=(i.toList == j.toList):=by
 rw[di];cases i;cases j;simp
section
variable{X:Cx}{a b c:pM}{ta tb tc:TE}{pos:rj}
theorem zM{tK:List (pC × rb)}{σ:St}{H:Hp}{s:pE}{Q:VK}{k k':Bool}(I:Inv X tK σ H s)(q:Q (.bl k) H)(e:k=k'):EP X tK σ Q (.bool k') s:=by
 subst e;exact#[.bl k,H,I,rfl,q]
theorem uL:OpR X (pR .Eq) rEq:=by
 intro tK s σ H x y v u Q I rx ry h;obtain⟨hs,q⟩:=rEq_is.mp h
 cases x with
 | non =>
  cases rx
  cases y with
  | non=>cases ry;exact PySem.EqNone.eq_none_none (zM I q (by simp))
  | bl j=>cases ry;exact PySem.EqNone.eq_none_bool (zM I q (by simp))
  | int j=>obtain⟨t',rfl⟩:=ry;exact PySem.EqNone.eq_none_int (zM I q (by simp))
  | str j=>obtain⟨t',rfl⟩:=ry;exact PySem.EqNone.eq_none_str (zM I q (by simp))
  | _=>exact absurd (show tJ=tI from hs) aB
 | bl i =>
  cases rx
  cases y with
  | non=>cases ry;exact PySem.EqNone.eq_bool_none (zM I q (by simp))
  | bl j=>cases ry;exact eq_bool (zM I q Kd)
  | str j=>obtain⟨t',rfl⟩:=ry;exact PySem.EqMixed.eq_bool_str (zM I q (by simp))
  | _=>exact absurd (show tJ=tI from hs) aB
 | int i =>
  obtain⟨t,rfl⟩:=rx
  cases y with
  | non=>cases ry;exact PySem.EqNone.eq_int_none (zM I q (by simp))
  | int j=>obtain⟨t',rfl⟩:=ry;exact eq_int (zM I q VP)
  | str j=>obtain⟨t',rfl⟩:=ry;exact PySem.EqMixed.eq_int_str (zM I q (by simp))
  | _=>exact absurd (show tJ=tI from hs) aB
 | str i =>
  obtain⟨t,rfl⟩:=rx
  cases y with
  | non=>cases ry;exact PySem.EqNone.eq_str_none (zM I q (by simp))
  | bl j=>cases ry;exact PySem.EqMixed.eq_str_bool (zM I q (by simp))
  | int j=>obtain⟨t',rfl⟩:=ry;exact PySem.EqMixed.eq_str_int (zM I q (by simp))
  | str j=>obtain⟨t',rfl⟩:=ry;exact eq_str (zM I q WY)
  | _=>exact absurd (show tJ=tI from hs) aB
 | byt i =>
  obtain⟨t,rfl⟩:=rx
  cases y with
  | byt j=>obtain⟨t',rfl⟩:=ry;exact PySem.W.eq_bytes (zM I q Um)
  | _=>exact absurd (show tJ=tI from hs) aB
 | _=>cases y <;> exact absurd (show tJ=tI from hs) aB
theorem qL:OpR X (pR .NotEq) rNe:=by
 intro tK s σ H x y v u Q I rx ry h;obtain⟨hs,q⟩:=rNe_is.mp h
 cases x with
 | non =>
  cases rx
  cases y with
  | non=>cases ry;exact PySem.EqNone.ne_none_none (zM I q (by simp))
  | bl j=>cases ry;exact PySem.EqNone.ne_none_bool (zM I q (by simp))
  | int j=>obtain⟨t',rfl⟩:=ry;exact PySem.EqNone.ne_none_int (zM I q (by simp))
  | str j=>obtain⟨t',rfl⟩:=ry;exact PySem.EqNone.ne_none_str (zM I q (by simp))
  | _=>exact absurd (show tJ=tI from hs) aB
 | bl i =>
  cases rx
  cases y with
  | non=>cases ry;exact PySem.EqNone.ne_bool_none (zM I q (by simp))
  | bl j=>cases ry;exact ne_bool (zM I q (congrArg not Kd))
  | str j=>obtain⟨t',rfl⟩:=ry;exact PySem.EqMixed.ne_bool_str (zM I q (by simp))
  | _=>exact absurd (show tJ=tI from hs) aB
 | int i =>
  obtain⟨t,rfl⟩:=rx
  cases y with
  | non=>cases ry;exact PySem.EqNone.ne_int_none (zM I q (by simp))
  | int j=>obtain⟨t',rfl⟩:=ry;exact ne_int (zM I q (congrArg not VP))
  | str j=>obtain⟨t',rfl⟩:=ry;exact PySem.EqMixed.ne_int_str (zM I q (by simp))
  | _=>exact absurd (show tJ=tI from hs) aB
 | str i =>
  obtain⟨t,rfl⟩:=rx
  cases y with
  | non=>cases ry;exact PySem.EqNone.ne_str_none (zM I q (by simp))
  | bl j=>cases ry;exact PySem.EqMixed.ne_str_bool (zM I q (by simp))
  | int j=>obtain⟨t',rfl⟩:=ry;exact PySem.EqMixed.ne_str_int (zM I q (by simp))
  | str j=>obtain⟨t',rfl⟩:=ry;exact ne_str (zM I q (congrArg not WY))
  | _=>exact absurd (show tJ=tI from hs) aB
 | byt i =>
  obtain⟨t,rfl⟩:=rx
  cases y with
  | byt j=>obtain⟨t',rfl⟩:=ry;exact PySem.W.ne_bytes (zM I q (congrArg not Um))
  | _=>exact absurd (show tJ=tI from hs) aB
 | _=>cases y <;> exact absurd (show tJ=tI from hs) aB
theorem QI:OpR X (pR .Lt) (rI0 λi j=>.bl (decide (i<j))):=zdg λ_ _ _ _ _ _ _ q=>lt_int q
theorem zdR:OpR X (pR .LtE) (rI0 λi j=>.bl (decide (i<=j))):=zdg λ_ _ _ _ _ _ _ q=>le_int q
theorem Yi:OpR X (pR .Gt) (rI0 λi j=>.bl (decide (j<i))):=zdg λ_ _ _ _ _ _ _ q=>gt_int q
theorem zdA:OpR X (pR .GtE) (rI0 λi j=>.bl (decide (j<=i))):=zdg λ_ _ _ _ _ _ _ q=>ge_int q
theorem zco:OpR X (pR .Is) (λx y H Q=>y=.non/\Q (.bl (decide (x=.non))) H):=by
 intro tK s σ H x y v u Q I rx ry h;obtain⟨rfl,q⟩:=h;cases ry;refine is_none_gen (zM I q ?_)
 cases x <;> first
  | (cases rx;rfl)
  | (obtain⟨t,rfl⟩:=rx;rfl)
theorem KS:OpR X (pR .IsNot) (λx y H Q=>y=.non/\Q (.bl (!decide (x=.non))) H):=by
 intro tK s σ H x y v u Q I rx ry h;obtain⟨rfl,q⟩:=h;cases ry;refine isnot_none_gen (zM I q ?_)
 cases x <;> first
  | (cases rx;rfl)
  | (obtain⟨t,rfl⟩:=rx;rfl)
theorem zE(b:pM){op:rR}(h:op≠.In:=by decide)(h2:op≠.NotIn:=by decide):behindInMarks op b=tJ:=by
 have e1:(op == CmpOp.In)=tJ:=by cases op <;> first | rfl | exact absurd rfl h
 have e2:(op == CmpOp.NotIn)=tJ:=by cases op <;> first | rfl | exact absurd rfl h2
 cases b <;> simp [behindInMarks,e1,e2]
theorem uc{op:rR}{r:R2}(ho:OpR X (pR op) r)(ha:PE X a ta)(hb:PE X b tb)(hm:behindInMarks op b=tJ):PE X (.Compare a [op] [b] pos) (tOp r ta tb):=by
 intro tK s σ H Q I h;exact wpAny_Compare1 (zdS ha hb I h λv u s2 x y H2 I2 rx ry q=>ho tK s2 σ H2 x y v u Q I2 rx ry q) hm
def Uc(t:TE):TT:=λσ H Q=>t σ H λx H'=>onBl x λk=>Q k H'
theorem zA{op:rR}{r:R2}(ho:OpR X (pR op) r)(ha:PE X a ta)(hb:PE X b tb)(hm:behindInMarks op b=tJ):PT X (.Compare a [op] [b] pos) (Uc (tOp r ta tb)):=by
 intro tK s σ H Q I h
 refine wpAny_isTrue_Compare1 (thn (ha tK s σ H _ I h) λv s1 ⟨x,H1,I1,r1,q1⟩=>thn (hb tK s1 σ H1 _ I1 q1) λu s2 ⟨y,H2,I2,r2,q2⟩ =>
  thn (ho tK s2 σ H2 x y v u _ I2 r1 r2 q2) λc s3 ⟨z,H3,I3,r3,q3⟩=>?_) hm
 obtain⟨k,rfl,q3⟩:=onBl.of q3;cases r3;exact pX #[H3,I3,q3]
def ZZ(r r':R2)(ta tb tc:TE):TE:=λσ H Q=>ta σ H λx H1=>tb σ H1 λy H2=>r x y H2 λz H3=>onBl z λk =>
 (if k=tI then tc σ H3 λw' H4=>r' y w' H4 Q else Q (.bl tJ) H3)
theorem Q5{op op':rR}{r r':R2}(ho:OpR X (pR op) r)(ho':OpR X (pR op') r')(ha:PE X a ta)(hb:PE X b tb)(hc:PE X c tc)
  (hm:lastMarks [op,op'] [b,c]=tJ:=by with_unfolding_all rfl):PE X (.Compare a [op,op'] [b,c] pos) (ZZ r r' ta tb tc):=by
 intro tK s σ H Q I h
 refine Compare_chain (thn (ha tK s σ H _ I h) λv s1 ⟨x,H1,I1,r1,q1⟩=>chain_link (thn (hb tK s1 σ H1 _ I1 q1) λu s2 ⟨y,H2,I2,r2,q2⟩ =>
  thn (ho tK s2 σ H2 x y v u _ I2 r1 r2 q2) λd s3 ⟨z,H3,I3,r3,q3⟩=>?_)) hm
 obtain⟨k,rfl,q3⟩:=onBl.of q3;cases r3;refine pX ?_
 cases k with
 | false=>exact ite_ff #[.bl tJ,H3,I3,rfl,q3]
 | true=>exact ite_tt (chain_last (thn (hc tK s3 σ H3 _ I3 q3) λw' s4 ⟨z',H4,I4,r4,q4⟩=>ho' tK s4 σ H4 y z' u w' Q I4 r2 r4 q4))
theorem jN{op op':rR}{r r':R2}(ho:OpR X (pR op) r)(ho':OpR X (pR op') r')(ha:PE X a ta)(hb:PE X b tb)(hc:PE X c tc)
  (hm:lastMarks [op,op'] [b,c]=tJ:=by with_unfolding_all rfl):PT X (.Compare a [op,op'] [b,c] pos) (Uc (ZZ r r' ta tb tc)):=by
 intro tK s σ H Q I h
 refine isTrue_chain (thn (ha tK s σ H _ I h) λv s1 ⟨x,H1,I1,r1,q1⟩=>test_link (thn (hb tK s1 σ H1 _ I1 q1) λu s2 ⟨y,H2,I2,r2,q2⟩ =>
  thn (ho tK s2 σ H2 x y v u _ I2 r1 r2 q2) λd s3 ⟨z,H3,I3,r3,q3⟩=>?_)) hm
 obtain⟨k,rfl,q3⟩:=onBl.of q3;cases r3;refine pX ?_
 cases k with
 | false =>
  exact ite_ff #[H3,I3,q3]
 | true =>
  refine ite_tt (test_last (thn (hc tK s3 σ H3 _ I3 q3) λw' s4 ⟨z',H4,I4,r4,q4⟩=>thn (ho' tK s4 σ H4 y z' u w' _ I4 r2 r4 q4) λd' s5 ⟨z2,H5,I5,r5,q5⟩=>?_));obtain⟨k2,rfl,q5⟩:=onBl.of q5;cases r5;exact pX #[H5,I5,q5]
def zch(K:pB)(x:V)(H:Hp)(k:Bool):Prop :=
 match x with
 | .non=>k=tJ
 | .bl b=>k=b
 | .int i=>k=(i != 0)
 | .str y=>y.length<=pA/\k=((y.length:Int) != 0)
 | .byt y=>y.size<=pA/\k=((y.size:Int) != 0)
 | .ref p=>(∃xs,SqL K H p xs/\k=!xs.isEmpty)\/(∃xs,SqT K H p xs/\k=!xs.isEmpty)\/∃kvs,H p=tG (.dK kvs)/\k=!kvs.isEmpty
 | _=>False
theorem Wi{κ:Type}{kvs:List (κ × V)}{vs:List (κ × pD)}(r:KV kvs vs):(!vs.isEmpty)=!kvs.isEmpty:=by
 cases r <;> rfl
theorem jD{xs:List V}{its:List pD}(r:Vals xs its):(!its.toArray.isEmpty)=!xs.isEmpty:=by
 cases r <;> simp
theorem ZS:(pA:Nat)<2 ^ 63:=by rw[pY];decide
theorem Ka:zeK X (λx H Q=>∃k,zch X.K x H k/\Q k H):=by
 intro tK s σ H x v Q I rx h;obtain⟨k,e,q⟩:=h;have hl:=ZS;have hs:pA=16777216:=pY
 cases x with
 | non =>
  cases rx;have e':k=tJ:=e;subst e';exact truthy_none #[H,I,q]
 | bl b =>
  cases rx;have e':k=b:=e;subst e';exact pX #[H,I,q]
 | int i =>
  obtain⟨t,rfl⟩:=rx;have e':k=(i != 0):=e;subst e';exact PySem.P.truthy_int #[H,I,q]
 | str y =>
  obtain⟨t,rfl⟩:=rx;obtain⟨hy,e'⟩:y.length<=pA/\k=((y.length:Int) != 0):=e;subst e';exact PySem.P.truthy_str ⋯ #[H,I.tok _,q]
 | byt y =>
  obtain⟨t,rfl⟩:=rx;obtain⟨hy,e'⟩:y.size<=pA/\k=((y.size:Int) != 0):=e;subst e';exact PySem.W.truthy_bytes ⋯ #[H,I.tok _,q]
 | ref p =>
  cases rx;have e':(∃xs,SqL X.K H p xs/\k=!xs.isEmpty)\/(∃xs,SqT X.K H p xs/\k=!xs.isEmpty)\/∃kvs,H p=tG (.dK kvs)/\k=!kvs.isEmpty:=e;rcases e' with ⟨xs,hx,e'⟩ | ⟨xs,hx,e'⟩ | ⟨kvs,hx,e'⟩
  ·subst e';obtain⟨its,r,pl,hz⟩:=I.list hx;have hlen:=r.length;exact wpAny_truthy_list pl.isList (by erw[ak];lia) #[H,I.tok _,by rw[jD r];exact q]
  ·subst e';obtain⟨its,r,pl,hz⟩:=I.tuple hx;have hlen:=r.length;exact truthy_tuple pl (by erw[ak];lia) #[H,I.tok _,by rw[jD r];exact q]
  ·subst e';obtain⟨hz,hS,vs,r,m⟩:kvs.length<=pA/\(p == sysModules)=tJ/\∃vs,KV kvs vs/\s.heap.DictOf (Yy X.prog X.w) p vs:=I.hok p _ hx;have hlen:kvs.length=vs.length:=Paired.length r;exact wpAny_truthy_dict hS m ⋯ #[H,I.tok _,by rw[Wi r];exact q]
 | _=>exact (show False from e).elim
theorem Xw(ha:PE X a ta)(he:∀whole,isTrue a X.env whole=(do let v <- whole;standAt a.pos;holding [v] (truthy v))) :
  PT X a (λσ H Q=>ta σ H λx H'=>∃k,zch X.K x H' k/\Q k H'):=by
 intro tK s σ H Q I h;exact isTrue_plain (thn (ha tK s σ H _ I h) λv s1 ⟨x,H1,I1,r1,q1⟩=>Ka tK s1 σ H1 x v Q I1 r1 q1) (he _)
theorem yF:OpR X (binaryOp .Add) (λx y H Q=>∃i j,x=.str i/\y=.str j/\i.length+j.length<=pA/\Q (.str (i ++ j)) H):=by
 intro tK s σ H x y v u Q I rx ry h;obtain⟨i,j,rfl,rfl,hz,q⟩:=h;obtain⟨t,rfl⟩:=rx;obtain⟨t',rfl⟩:=ry;exact add_str (λt' tk=>#[.str (i ++ j),H,I.tok _,#[_,rfl],q]) hz
theorem xz{x:V}{us:List pD}(r:Vals [x] us):∃u,us=[u]/\RelV x u:=by
 cases r with
 | cons r1 r2=>cases r2;exact#[_,rfl,r1]
theorem Vb{x y:V}{us:List pD}(r:Vals [x,y] us):∃u w',us=[u,w']/\RelV x u/\RelV y w':=by
 cases r with
 | cons r1 r2 =>
  cases r2 with
  | cons r3 r4=>cases r4;exact#[_,_,rfl,r1,r3]
theorem Vq(hc:X.calm=tI):vm X (.builtin "max") (λxs H Q=>∃i j,xs=[.int i,.int j]/\Q (.int (if j > i then j else i)) H):=by
 intro tK s σ H xs us Q I r h;obtain⟨i,j,rfl,q⟩:=h;obtain⟨u,w',rfl,⟨t,rfl⟩,⟨t',rfl⟩⟩:=Vb r;refine max_two_ints (I.ok.hd hc) λh' tk k=>#[_,H,I.kept k,?_,q];by_cases hj:j > i
 ·rw[if_pos hj,if_pos hj];exact#[_,rfl]
 ·rw[if_neg hj,if_neg hj];exact#[_,rfl]
theorem UQ:vm X (.type "int") (λxs H Q=>(∃i,xs=[.int i]/\Q (.int i) H)\/∃k,xs=[.bl k]/\Q (.int (if k then 1 else 0)) H):=by
 intro tK s σ H xs us Q I r h;rcases h with ⟨i,rfl,q⟩ | ⟨k,rfl,q⟩
 ·obtain⟨u,rfl,t,rfl⟩:=xz r;exact call_int_int #[.int i,H,I,#[_,rfl],q]
 ·obtain⟨u,rfl,r1⟩:=xz r;cases r1;exact call_int_bool #[.int (if k then 1 else 0),H,I.tok _,#[_,rfl],q]
def zbu(K:pB)(x:V)(H:Hp)(n:Nat):Prop :=
 match x with
 | .str y=>y.length<=pA/\n=y.length
 | .byt y=>y.size<=pA/\n=y.size
 | .ref p=>(∃xs,SqL K H p xs/\n=xs.length)\/∃xs,SqT K H p xs/\n=xs.length
 | _=>False
theorem Qs:vm X (.builtin "len") (λxs H Q=>∃x n,xs=[x]/\zbu X.K x H n/\Q (.int n) H):=by
 intro tK s σ H xs us Q I r h;obtain⟨x,n,rfl,e,q⟩:=h;obtain⟨u,rfl,rx⟩:=xz r;have hl:=ZS;have hs:pA=16777216:=pY
 cases x with
 | str y =>
  obtain⟨t,rfl⟩:=rx;obtain⟨hy,e'⟩:y.length<=pA/\n=y.length:=e;subst e';exact len_str ⋯ #[.int _,H,I.tok _,#[_,rfl],q]
 | byt y =>
  obtain⟨t,rfl⟩:=rx;obtain⟨hy,e'⟩:y.size<=pA/\n=y.size:=e;subst e';exact PySem.W.len_bytes ⋯ #[.int _,H,I.tok _,#[_,rfl],q]
 | ref p =>
  cases rx;have e':(∃xs,SqL X.K H p xs/\n=xs.length)\/∃xs,SqT X.K H p xs/\n=xs.length:=e;rcases e' with ⟨xs,hx,e'⟩ | ⟨xs,hx,e'⟩
  ·subst e';obtain⟨its,r',pl,hz⟩:=I.list hx;have hlen:=r'.length;exact Calls.call_len_list pl.isList (by erw[ak];lia) #[.int xs.length,H,I.tok _,#[_,by erw[ak];rw[hlen]],q]
  ·subst e';obtain⟨its,r',pl,hz⟩:=I.tuple hx;have hlen:=r'.length;exact len_tuple pl (by erw[ak];lia) #[.int xs.length,H,I.tok _,#[_,by erw[ak];rw[hlen]],q]
 | _=>exact (show False from e).elim
end
structure ObjM(h:pN)(x dx C:pC)(mA:pJ->Option pD):Prop where
 obj:h.get? x=tG (cj C dx)
 ns:h.Ns1 dx mA
 ne:dx≠x
theorem VN{h:pN}{dx:pC}{mA:pJ->Option pD}(n:h.Ns1 dx mA):∃od,h.get? dx=tG od/\∀name,em name od=tG (mA name):=by
 obtain⟨o,es,ep,ho,hd,hk,_,hm⟩:=n;refine#[o,ho,λname=>?_];have e:=hm name;unfold nsFind findBy at e;rw[<- Array.find?_toList]at e;unfold em;rw[hd];dsimp only;split
 ·rename_i y q;rw[q]at e;exact congrArg tG e
 ·rename_i q;rw[q]at e
  have a:es.toList.any (·.refKey)=tJ:=by
   rw[List.any_eq_false];intro y hy;obtain⟨z,t,hkey⟩:=hk y (Array.mem_toList_iff.mp hy);simp [DictEntry.refKey,hkey]
  have a':¬ es.toList.any (·.refKey)=tI:=by rw[a];exact aB
  rw[if_neg a'];exact congrArg tG e
theorem ObjM.look{h:pN}{x dx C:pC}{mA:pJ->Option pD}(I:ObjM h x dx C mA):∃od,PySem.W.InstAt h x (cj C dx) C (tG od)/\∀name,em name od=tG (mA name) :=
 let #[od,ho,hl]:=VN I.ns
 #[od,#[I.obj,rfl,rfl,ho],hl]
section
variable{prog:pH}{w:pK}{A:pL}{E:pD->pE->Prop}{s:pE}{K:pB}{x dx C f:pC}{mA:pJ->Option pD}{name:pJ}{v:pD}
theorem za9{expr:Bool}{Q:pD->pE->Prop}(X:K.In s.heap)(I:ObjM s.heap x dx C mA)(hg:bX K C name=tI)(hh:cr K C=tI)
  (ha:aj K (.ref C) name=tG tH) (hv:mA name=tG v) (hv':gg v=tI) (h:Q v { s with toks:=s.toks+1 }) :
  pF (model prog w) A (getAttr (.ref x) name expr) Q E s:=by
 obtain⟨od,J,hl⟩:=I.look;exact PySem.W.get_value X J (eg hg).1 (PySem.W.findObj_own hh ha rfl (by rw[hl,hv])) hv' h
theorem Jj{pl:tu Bool}{Q:pD × List pD->pE->Prop}(X:K.In s.heap)(I:ObjM s.heap x dx C mA)(hg:bX K C name=tI)
  (hf:aj K (.ref C) name=tG (tG (.ref f))) (ht:br K (.ref f)=tI) (hv:mA name=tH) (h:Q (.ref f,[.ref x]) s) :
  pF (model prog w) A (getMethod (.ref x) name pl) Q E s:=by
 obtain⟨od,J,hl⟩:=I.look;exact PySem.W.method_fn X J (eg hg).1 (eg hg).2 hf (beq_iff_eq.mp ht) (by show (em name od).map (·.isSome)=tG tJ;rw[hl,hv];rfl) h
theorem zaZ{ns:List pJ}{Q:Unit->pE->Prop}(X:K.In s.heap)(I:ObjM s.heap x dx C mA)
  (hs:aj K (.ref C) "__setattr__" = tG (tG (.builtin "object.__setattr__"))) (hp:cG K C=tI) (ht:fk K C name=tG tH) (hh:cr K C=tI)
  (hw:PySem.Within mA ns) (hsz:ns.length<=pA)
  (h:∀h',ObjM h' x dx C (λy=>if y=name then tG v else mA y)->Heap.SameBut dx s.heap h'->Q Unit.unit { s with heap:=h',toks:=s.toks+2 }) :
  pF (model prog w) A (setAttr (.ref x) name v) Q E s:=by
 obtain⟨od,J,hl⟩:=I.look;refine ge X J hs (PySem.W.osa_open (s:={ s with toks:=s.toks+1 }) (r:=tH) X J hp ht λb=>?_);obtain⟨cd,hc,hd'⟩:=PySem.W.any_some hh;have hx:s.heap.get? x=tG #[.ref C,tG dx,.plain,#[]]:=I.obj;refine pi (pj (pi (pi (sB hx (pi (PySem.W.Looks.here (s:={ s with toks:=s.toks+1 }) (PySem.W.looks_clsIn X hc) ?_))))));rw[hd'];refine pj (a:=tG dx) (pi (pj (pi ?_)));refine wpAny_nsSet1 (s:={ s with toks:=s.toks+1 }) I.ns λh' hn2 hs2=>?_;obtain⟨oD,esD,epD,hoD,hdD,hcD⟩:=hn2.count (PySem.Within.cons name v hw);refine pi (tj hoD (by rw[hdD];exact pastItsLine_dict (aP hcD (by rw[aD];lia))) ?_);exact pj (h _ #[(hs2.2 _ (Ne.symm I.ne)).trans I.obj,hn2,I.ne] hs2)
theorem QH{R:sH->pE->Prop}{vs:List pD}{kw:List (pJ × pD)}(X:K.In s.heap)(hm:cQ K C=tI)
  (hi:aj K (.ref C) "__init__" = tG (tG (.ref f))) (hf:PySem.W.typeIn K (.ref f)=tG (.type "function"))
  (h:rG (model prog w) (A.under (.builtin "type.__call__" #[.ref C::vs,kw])) (.call (.ref f) #[.ref (s⁻¹+1)::vs,kw]) (PySem.W.InitBack (s⁻¹+1) R)
   { s with heap:=(s.heap.push bP).push (cj C s⁻¹) }) :
  rG (model prog w) A (.call (.ref C) #[vs,kw]) R s:=by
 obtain⟨hh,g,d,t,os⟩:=s;exact PySem.W.make_core (PySem.W.makes_of X hm) (cJ X hi) (λself=>gm X self hf) (.inl rfl) h
end
noncomputable def k9(f:pJ)(v:V):List (pJ × V)->List (pJ × V)
  | []=>[(f,v)]
  | (g,x)::r=>if g=f then (g,v)::r else (g,x)::k9 f v r
theorem qG(f g:pJ)(v:V):∀fs:List (pJ × V),(k9 f v fs).lookup g=if g=f then tG v else fs.lookup g
  | []=>by
    show bh g [(f,v)]=_;by_cases h:g=f
    . have hb:(g == f)=tI:=beq_iff_eq.mpr h
      erw[bh,hb,if_pos h]
    . have hb:(g == f)=tJ:=beq_eq_false_iff_ne.mpr h
      erw[bh,hb,if_neg h]
  | (k,x)::r=>by
    have ih:=qG f g v r;rw[show k9 f v ((k,x)::r)=(if k=f then (k,v)::r else (k,x)::k9 f v r)from rfl];by_cases hk:k=f
    . rw[if_pos hk]
      by_cases h:g=k
      . have hb:(g == k)=tI:=beq_iff_eq.mpr h
        erw[bh,hb,if_pos (h.trans hk)]
      . have hb:(g == k)=tJ:=beq_eq_false_iff_ne.mpr h
        erw[bh,hb,if_neg (λe:g=f=>h (e.trans hk.symm))]
    . rw[if_neg hk]
      by_cases h:g=k
      . have hb:(g == k)=tI:=beq_iff_eq.mpr h
        erw[bh,hb,if_neg (λe:g=f=>hk (h.symm.trans e))]
      . have hb:(g == k)=tJ:=beq_eq_false_iff_ne.mpr h
        erw[bh,hb]
        exact ih
theorem qC(f:pJ)(v:V):∀fs:List (pJ × V),f ∈ (k9 f v fs).map (·.1)/\∀g,g ∈ fs.map (·.1)->g ∈ (k9 f v fs).map (·.1)
  | []=>#[by simp [k9],λg h=>by simp at h]
  | (k,x)::r=>by
    obtain⟨i1,i2⟩:=qC f v r;rw[show k9 f v ((k,x)::r)=(if k=f then (k,v)::r else (k,x)::k9 f v r)from rfl];by_cases hk:k=f
    . rw[if_pos hk]
      subst hk;exact#[by simp,λg h=>by simpa using h]
    . rw[if_neg hk]
      refine#[?_,λg h=>?_]
      . rw[ar]
        exact ao _ i1
      . rw[ar]at h ⊢
        rcases tP.mp h with e | e
        . exact tP.mpr (.inl e)
        . exact ao _ (i2 g e)
theorem qe(f:pJ)(v:V):∀fs:List (pJ × V),(k9 f v fs).length<=fs.length+1
  | []=>by simp [k9]
  | (k,x)::r=>by
    have ih:=qe f v r;rw[show k9 f v ((k,x)::r)=(if k=f then (k,v)::r else (k,x)::k9 f v r)from rfl];by_cases hk:k=f
    . rw[if_pos hk,aD,aD];lia
    . rw[if_neg hk,aD,aD];lia
theorem RelO.some_of{v:V}{o:Option pD}(r:RelO (tG v) o):∃u,o=tG u/\RelV v u:=by
 cases o with
 | none=>exact (show False from r).elim
 | some u=>exact#[u,rfl,r]
theorem RelO.none_of{o:Option pD}(r:RelO tH o):o=tH:=by
 cases o with
 | none=>rfl
 | some u=>exact (show False from r).elim
theorem VH{v:V}{u:pD}(r:RelV v u):gg u=tI:=by
 cases v with
 | non=>cases (show u=Value.none from r);rfl
 | bl b=>cases (show u=Value.bool b from r);rfl
 | int i=>obtain⟨t,e⟩:=(show ∃t,u=Value.int i t from r);cases e;rfl
 | str x=>obtain⟨t,e⟩:=(show ∃t,u=Value.str x t from r);cases e;rfl
 | byt b=>obtain⟨t,e⟩:=(show ∃t,u=Value.bytes b t from r);cases e;rfl
 | flt b=>obtain⟨t,e⟩:=(show ∃t,u=Value.float b t from r);cases e;rfl
 | ref a=>cases (show u=Value.ref a from r);rfl
 | ty n=>cases (show u=Value.type n from r);rfl
section
variable{P:pH}{w:pK}{H H':Hp}{h h':pN}{a C dx:pC}{fs fs':List (pJ × V)}
theorem j1(hok:HOk P w H h)(e:H a=tG (.ins C dx fs)):∃mA,ObjM h a dx C mA/\(∀f,RelO (fs.lookup f) (mA f))/\PySem.Within mA (fs.map (·.1))/\fs.length<=1000/\H dx=tG (.own a):=by
 obtain⟨d,z,ne,ob,mA,n,r,q⟩:=(show ObjOk P w H h a (.ins C dx fs)from hok a _ e);exact#[mA,#[ob,n,ne],r,q,z,d]
end
structure Cls(K:pB)(C:pC):Prop where
 pg:bX K C fm=tI
 hd:cr K C=tI
 po:cG K C=tI
 sa:aj K (.ref C) "__setattr__" = tG (tG (.builtin "object.__setattr__"))
theorem Cls.get{K:pB}{C:pC}(c:Cls K C)(f:pJ):bX K C f=tI:=c.pg
def NoAttr(K:pB)(C:pC)(f:pJ):Prop:=aj K (.ref C) f=tG tH
theorem NoAttr.taker{K:pB}{C:pC}{f:pJ}(n:NoAttr K C f):fk K C f=tG tH:=by
 unfold fk;rw[show aj K (.ref C) f=tG tH from n];rfl
structure zcN(K:pB)(C:pC)(m:pJ)(f:pC):Prop where
 at_:aj K (.ref C) m=tG (tG (.ref f))
 fn:br K (.ref f)=tI
 kp:aL K (.ref f)=tI
section
variable{X:Cx}{tK:List (pC × rb)}{σ:St}{H:Hp}{s:pE}{a C dx:pC}{fs:List (pJ × V)}{f:pJ}{v:V}{A:pL}{E:pD->pE->Prop}
theorem We{b:Bool}{Q:pD->pE->Prop}(I:Inv X tK σ H s)(e:H a=tG (.ins C dx fs))(c:Cls X.K C)(n:NoAttr X.K C f)(l:fs.lookup f=tG v)
  (h:∀u s',Inv X tK σ H s'->RelV v u->Q u s'):pF (model X.prog X.w) A (getAttr (.ref a) f b) Q E s:=by
 obtain⟨mA,O,r,_,_,_⟩:=j1 I.hok e;obtain⟨u,hu,ru⟩:=RelO.some_of (v:=v) (o:=mA f) (by rw[<- l];exact r f);exact za9 I.kIn O (c.get f) c.hd n hu (VH ru) (h u _ (I.tok _) ru)
theorem xU{m:pJ}{g:pC}{pl:tu Bool}{Q:pD × List pD->pE->Prop}(I:Inv X tK σ H s)(e:H a=tG (.ins C dx fs))(c:Cls X.K C)(k:zcN X.K C m g)(l:fs.lookup m=tH)
  (h:Q (.ref g,[.ref a]) s):pF (model X.prog X.w) A (getMethod (.ref a) m pl) Q E s:=by
 obtain⟨mA,O,r,_,_,_⟩:=j1 I.hok e;have hn:mA m=tH:=RelO.none_of (by rw[<- l];exact r m);exact Jj I.kIn O (c.get m) k.at_ k.fn hn h
theorem WF{y:V}{u:pD}{Q:Unit->pE->Prop}(I:Inv X tK σ H s)(e:H a=tG (.ins C dx fs))(c:Cls X.K C)(n:NoAttr X.K C f)(hl:fs.length<1000)(ry:RelV y u)
  (h:∀s',Inv X tK σ (upd H a (.ins C dx (k9 f y fs))) s'->Q Unit.unit s'):pF (model X.prog X.w) A (setAttr (.ref a) f u) Q E s:=by
 obtain⟨mA,O,r,wi,_,ho⟩:=j1 I.hok e;have hz:(fs.map (·.1)).length<=pA:=by rw[aa,pY];lia
 refine zaZ I.kIn O c.sa c.po n.taker c.hd wi hz λh' O' sb=>h _ ?_;have hd:∃o,h'.get? dx=tG o:=let #[o,_,_,e',_]:=O'.ns; #[o,e'];refine I.write (x:=a) (e:=dx) (by rw[e];exact True.intro) (.inr ho) (λb q hb z=>(sb.2 b hb).trans z) hd ?_;refine#[by rw[zk O.ne];exact ho,?_,O.ne,O'.obj,_,O'.ns,λg=>?_,λg hg=>?_]
 ·have:=qe f y fs;lia
 ·show RelO ((k9 f y fs).lookup g) (if g=f then tG u else mA g);rw[qG];by_cases q:g=f
  ·rw[if_pos q,if_pos q];exact ry
  ·rw[if_neg q,if_neg q];exact r g
 ·by_cases q:g=f
  ·rw[q];exact (qC f y fs).1
  ·refine (qC f y fs).2 g (wi g λz=>hg ?_);show (if g=f then tG u else mA g)=tH;rw[if_neg q];exact z
theorem Inv.made(I:Inv X tK σ H s):Inv X tK σ (upd (upd H s⁻¹ (.own (s⁻¹+1))) (s⁻¹+1) (.ins C s⁻¹ []))
  { s with heap:=(s.heap.push bP).push (cj C s⁻¹) }:=by
 have e1:(s.heap.push bP).get? s⁻¹=tG bP:=aC s.heap rfl
 have e2:((s.heap.push bP).push (cj C s⁻¹)).get? (s⁻¹+1)=tG (cj C s⁻¹):=by
  have:=aC (s.heap.push bP) (o:=cj C s⁻¹) rfl
  rwa [bV]at this
 have e3:(s.heap.push bP).Ns s⁻¹ (λ_=>tH):=#[bP,#[],_,e1,rfl,(λe he=>absurd he (by simp)),λ_=>rfl];have I1:=I.laid (a:=s⁻¹) (o:=.own (s⁻¹+1)) (h':=s.heap.push bP) (t':=s.toks) (λb u q=>ac _ q) (al _) #[_,e1];refine I1.laid (a:=s⁻¹+1) (o:=.ins C s⁻¹ []) (t':=s.toks) (λb u q=>ac _ q) (Nat.le_of_eq (bV _ _)) ?_;have ne:s⁻¹≠s⁻¹+1:=ax (Nat.lt_succ_self _);refine#[by rw[zk ne,zc],aG _,ne,e2,λ_=>tH,(Heap.Ns1.of_empty e3).at λo q=>ac _ q,λ_=>True.intro,λy hy=>absurd rfl hy]
theorem zaB{prog:pH}{w:pK}{env:sx}{e:pM}{f:pJ}{pos:rj}{s:pE}{Q:pD->pE->Prop}(hb:attributeBase e f env (eval e env)=eval e env)
  (h:pF (model prog w) A (eval e env) (λo s₁=>pF (model prog w) A (getAttr o f tI) Q E s₁) E s):pF (model prog w) A (eval (.Attribute e f pos) env) Q E s :=
 Attribute_any_ h (by rw[arm_eval_Attribute,hb])
end
def zbe(K:pB)(ta:TE)(f:pJ):TE:=λσ H Q=>ta σ H λx H1=>∃a C dx fs v,x=.ref a/\H1 a=tG (.ins C dx fs)/\Cls K C/\NoAttr K C f/\fs.lookup f=tG v/\Q v H1
def zdL(K:pB)(ta tv:TE)(f:pJ):TS:=λD σ H=>tv σ H λy H1=>ta σ H1 λx H2=>∃a C dx fs,x=.ref a/\H2 a=tG (.ins C dx fs)/\Cls K C/\NoAttr K C f/\fs.length<1000 /\
 D.nx σ (upd H2 a (.ins C dx (k9 f y fs)))
section
variable{X:Cx}{o e value:pM}{f:pJ}{pos pos' tpos:rj}{ta tv:TE}
theorem Xr(he:PE X e ta)(hb:attributeBase e f X.env (eval e X.env)=eval e X.env):PE X (.Attribute e f pos) (zbe X.K ta f):=by
 intro tK s σ H Q I h;refine zaB hb (thn (he tK s σ H _ I h) λu s1 ⟨x,H1,I1,rx,a,C,dx,fs,v,ex,ea,c,n,l,q⟩=>?_);subst ex;obtain rfl:u=Value.ref a:=rx;exact We I1 ea c n l λu' s2 I2 ru=>#[v,H1,I2,ru,q]
theorem Y5(ha:PE X o ta)(hv:PE X value tv)(hs:swapsWith value (tG (.Attribute o f pos')) pos.line X.env=pure tJ):PS X (.Assign [.Attribute o f pos'] value pos) (zdL X.K ta tv f):=by
 intro tK s σ H D I h;refine rQ (thn (hv tK s σ H _ I h) λu s1 ⟨y,H1,I1,ry,q⟩=>thn (ha tK s1 σ H1 _ I1 q) λov s2 ⟨x,H2,I2,rx,a,C,dx,fs,ex,ea,c,n,l,q2⟩=>?_) hs;subst ex;obtain rfl:ov=Value.ref a:=rx;exact WF I2 ea c n l ry λs3 I3=>#[σ,_,I3,q2]
theorem zaO{pl:tu Bool}{m:pJ}{apos:rj}{args:List pM}{tK:List (pC × rb)}{s:pE}{σ:St}{H:Hp}{Q:pD->pE->Prop}{te:TE}(he:PE X e te)(I:Inv X tK σ H s)
    (h:te σ H λx H1=>∃a C dx fs g,x=.ref a/\H1 a=tG (.ins C dx fs)/\Cls X.K C/\zcN X.K C m g/\fs.lookup m=tH /\
      ∀s1,Inv X tK σ H1 s1->pF (model X.prog X.w) X.A (callWith pos (.ref g) [.ref a] (pS pos (pz args X.env)) (pZ pos (pO [] X.env))) Q X.xe s1)
    (ht:eval (.Call (.Attribute e m apos) args [] pos) X.env=(do
      let ov <- eval e X.env
      standAt apos.atName
      let (f,first) <- holding [ov] (getMethod ov m pl)
      callWith pos f first (pS pos (pz args X.env)) (pZ pos (pO [] X.env)))) :
    pF (model X.prog X.w) X.A (eval (.Call (.Attribute e m apos) args [] pos) X.env) Q X.xe s:=by
  refine bZ (pl:=pl) (thn (he tK s σ H _ I h) λu s1 ⟨x,H1,I1,rx,a,C,dx,fs,g,ex,ea,c,k,l,q⟩=>?_) ht;subst ex;obtain rfl:u=Value.ref a:=rx;exact xU I1 ea c k l (q s1 I1)
end
section
variable{X:Cx}{tK:List (pC × rb)}{σ:St}{H:Hp}{s:pE}{A:pL}{E:pD->pE->Prop}{Q:pD->pE->Prop}{c:pD}{b:Bool}
inductive Xa(K:pB)(H:Hp):V->pD->Prop where
 | non:Xa K H .non (.type "NoneType")
 | bl (x:Bool):Xa K H (.bl x) (.type "bool")
 | int (i:Int):Xa K H (.int i) (.type "int")
 | str (x:pJ):Xa K H (.str x) (.type "str")
 | flt (x:UInt64):Xa K H (.flt x) (.type "float")
 | lst {a:pC} {xs:List V} (e:H a=tG (.lst xs)):Xa K H (.ref a) (.type "list")
 | frz {a:pC} {o:rb} {xs:List V} (e:H a=tG (.frz o (.lst xs))):Xa K H (.ref a) (.type "list")
 | tup {a:pC} {xs:List V} (e:H a=tG (.tup xs)):Xa K H (.ref a) (.type "tuple")
 | dK {a:pC} {kvs:List (Key × V)} (e:H a=tG (.dK kvs)):Xa K H (.ref a) (.type "dict")
 | dT {a:pC} {kvs:List (List Key × V)} (e:H a=tG (.dT kvs)):Xa K H (.ref a) (.type "dict")
 | ins {a C dx:pC} {fs:List (pJ × V)} (e:H a=tG (.ins C dx fs)) (cl:Cls K C) (ha:aj K (.ref C) "__class__" = tG (tG (.builtin "object.__class__")))
   (hn:cH K (.builtin "object.__class__") "__get__" = tG (tG (.builtin "getset_descriptor.__get__"))) (htk:d4 K (.builtin "object.__class__")=tG tI)
   (hm:bU K C (.type "object")=tG tI):Xa K H (.ref a) (.ref C)
theorem VL{x:V}{u t:pD}(I:Inv X tK σ H s)(rx:RelV x u)(ty:Xa X.K H x t)(e:aU X.K t c=tG b)(h:∀tk,Q (.bool b) { s with toks:=tk }) :
  pF (model X.prog X.w) A (call (.builtin "isinstance") [u,c]) Q E s:=by
 cases ty with
 | non=>cases (show u=Value.none from rx);exact bv PySem.W.kitx_none I.kIn True.intro e (λz=>nomatch z) h
 | bl y=>cases (show u=Value.bool y from rx);exact bv PySem.W.kitx_bool I.kIn True.intro e (λz=>nomatch z) h
 | int i=>obtain⟨t,q⟩:=(show ∃t,u=Value.int i t from rx);cases q;exact bv PySem.W.kitx_int I.kIn True.intro e (λz=>nomatch z) h
 | str y=>obtain⟨t,q⟩:=(show ∃t,u=Value.str y t from rx);cases q;exact bv PySem.W.kitx_str I.kIn True.intro e (λz=>nomatch z) h
 | flt y=>obtain⟨t,q⟩:=(show ∃t,u=Value.float y t from rx);cases q;exact bv PySem.W.kitx_float I.kIn True.intro e (λz=>nomatch z) h
 | @lst a xs ea =>
  cases (show u=Value.ref a from rx);obtain⟨_,_,n,_,h1⟩:=(show ObjOk X.prog X.w H s.heap a (.lst xs)from I.hok a _ ea);exact bv eL I.kIn #[_,h1,rfl] e (λz=>nomatch z) h
 | @frz a ob xs ea =>
  cases (show u=Value.ref a from rx);obtain⟨_,_,_,n,_,h1⟩:=(show ObjOk X.prog X.w H s.heap a (.frz ob (.lst xs))from I.hok a _ ea);exact bv eL I.kIn #[_,h1,rfl] e (λz=>nomatch z) h
 | @tup a xs ea =>
  cases (show u=Value.ref a from rx);obtain⟨_,_,_,p⟩:=(show ObjOk X.prog X.w H s.heap a (.tup xs)from I.hok a _ ea);obtain⟨o,h1,h2,_⟩:=p;exact bv fY I.kIn #[o,h1,h2] e (λz=>nomatch z) h
 | @dK a kvs ea =>
  cases (show u=Value.ref a from rx);obtain⟨_,_,vs,_,p⟩:=(show ObjOk X.prog X.w H s.heap a (.dK kvs)from I.hok a _ ea);obtain⟨o,es,ep,h1,h2,_⟩:=p;exact bv gf I.kIn #[o,h1,h2.1] e (λz=>nomatch z) h
 | @dT a kvs ea =>
  cases (show u=Value.ref a from rx);obtain⟨_,_,xs,_,o,es,ep,h1,h2,_⟩:=(show ObjOk X.prog X.w H s.heap a (.dT kvs)from I.hok a _ ea);exact bv gf I.kIn #[o,h1,h2.1] e (λz=>nomatch z) h
 | @ins a C dx fs ea cl ha hn htk hm =>
  cases (show u=Value.ref a from rx);obtain⟨mA,O,_⟩:=j1 I.hok ea;obtain⟨od,J,_⟩:=O.look;exact bv (PySem.W.kitx_own (cl.get _) cl.hd ha hn htk hm) I.kIn J e (λz=>nomatch z) h
end
structure Room(k:Nat)(A:pL):Prop where
 hd:A.handled=tH
 dp:A.depth+3 * k+5<sE
 un:A.units+16 * k+200<cLine
theorem Room.mono{j k:Nat}{A:pL}(r:Room k A)(h:j<=k):Room j A:=#[r.hd,by have:=r.dp;lia,by have:=r.un;lia]
theorem Room.deeper{k:Nat}{A:pL}(r:Room (k+1) A)(env:sx):Room k (A.deeper env) :=
 #[r.hd,by have:=r.dp;show A.depth+1+3 * k+5<_;lia,by have:=r.un;show A.units+3+16 * k+200<_;lia]
theorem Room.in1{k:Nat}{A:pL}(r:Room (k+1) A):Room k A.in1 :=
 #[r.hd,by have:=r.dp;show A.depth+3 * k+5<_;lia,by have:=r.un;show A.units+1+16 * k+200<_;lia]
theorem Wu{A:pL}{C:pC}{us:List pD}{kw:List (pJ × pD)}:(A.under (.builtin "type.__call__" #[.ref C::us,kw])).depth=A.depth+1:=by
 first | rfl | simp [Around.under,Code.weight,Code.isCreation,Code.isGuard,Code.isCaller,Code.frames,Code.isFrame,guardIds]
theorem WB{A:pL}{C:pC}{us:List pD}{kw:List (pJ × pD)}:(A.under (.builtin "type.__call__" #[.ref C::us,kw])).units=A.units+1:=by
 first | rfl | simp [Around.under,Code.cUnits,Code.frames,Code.isFrame]
theorem Room.make{k:Nat}{A:pL}(r:Room (k+1) A)(C:pC)(us:List pD)(kw:List (pJ × pD)):Room k (A.under (.builtin "type.__call__" #[.ref C::us,kw])) :=
 #[r.hd,by have:=r.dp;rw[Wu];lia,by have:=r.un;rw[WB];lia]
theorem Room.depth{k:Nat}{A:pL}(r:Room k A):A.depth<sE:=by have:=r.dp;lia
theorem Room.units{k:Nat}{A:pL}(r:Room k A):A.units+64<cLine:=by have:=r.un;lia
def xF:TA:=λ_ H Q=>Q [] H
def zH(ta:TE)(tr:TA):TA:=λσ H Q=>ta σ H λx H1=>tr σ H1 λxs H2=>Q (x::xs) H2
section
variable{X:Cx}{e:pM}{es:List pM}{te:TE}{t:TA}{pos:rj}
theorem ze:PA X [] xF:=λ_ _ _ _ H Q I h=>Calls.spliced_nil #[[],H,I,.nil,h]
theorem za(ha:PE X e te)(hr:PA X es t)(hs:pz (e::es) X.env=(tJ,eval e X.env)::pz es X.env:=by rfl):PA X (e::es) (zH te t):=by
 intro pos tK s σ H Q I h;rw[hs];show pF _ _ (spliced ((tJ,eval e X.env)::pS pos (pz es X.env))) _ _ s;refine Calls.spliced_cons (thn (ha tK s σ H _ I h) λu s1 ⟨x,H1,I1,r1,q1⟩=>?_);exact thn (hr pos tK s1 σ H1 _ I1 q1) λus s2 ⟨xs,H2,I2,r2,q2⟩=>#[x::xs,H2,I2,.cons r1 r2,q2]
def WL(t:TA):TE:=λσ H Q=>t σ H λxs H1=>xs.length<=pA/\∀p,H1 p=tH->Q (.ref p) (upd H1 p (.tup xs))
def zb5(t:TA):TE:=λσ H Q=>t σ H λxs H1=>xs.length<=pA/\∀p,H1 p=tH->Q (.ref p) (upd H1 p (.lst xs))
theorem zO{x1}(h:PA X es t):PE X (.Tuple es x1 pos) (WL t):=by
 intro tK s σ H Q I hq;refine wpAny_Tuple_spliced (thn (h pos tK s σ H _ I hq) λus s1 ⟨xs,H1,I1,r,z,q⟩=>#[by rw[<- r.length];exact z,?_]);have hf:H1 s1⁻¹=tH:=I1.hok.fresh (al _);refine#[.ref s1⁻¹,upd H1 s1⁻¹ (.tup xs),I1.laid (t':=s1.toks) (λb u e=>ac _ e) (al _) ?_,rfl,q _ hf];exact#[z,us,r,#[_,aC _ rfl,rfl,_,rfl]]
theorem xZ(h:PA X es t):PE X (.List es pos) (zb5 t):=by
 intro tK s σ H Q I hq;refine wpAny_List_spliced (thn (h pos tK s σ H _ I hq) λus s1 ⟨xs,H1,I1,r,z,q⟩=>#[by rw[<- r.length];exact z,?_]);have hf:H1 s1⁻¹=tH:=I1.hok.fresh (al _);refine#[.ref s1⁻¹,upd H1 s1⁻¹ (.lst xs),I1.laid (t':=s1.toks) (λb u e=>ac _ e) (al _) ?_,rfl,q _ hf];exact#[z,us,0,r,aC _ rfl]
end
noncomputable abbrev Sp:=List V->Hp->VK->XK->Prop
noncomputable abbrev CXT:=List sx->Hp->pE->XK->pD->pE->Prop
structure Env0(P:pH)(w:pK)(K:pB)(mg:pJ->Option pD)(base:pN)(A:pL)(outer:List sx)(s:pE)(H:Hp):Prop where
 frames:A.frames=tG outer
 mod:Mod K mg base
 bs:∀b o,base.get? b=tG o->s.heap.get? b=tG o/\H b=tH
 bsz:base.objs.size<=s⁻¹
 funs:s.heap.FunFrames base outer
 frf:∀b ∈ frs outer,H b=tH
 hok:HOk P w H s.heap
 bare:rY s.gens
def CE(outer:List sx)(P:pH)(w:pK)(H:Hp)(s:pE)(Q:VK)(u:pD)(s':pE):Prop :=
 ∃v H',s'.os=s.os/\rY s'.gens/\Un (frs outer) [] H H' s.heap s'.heap/\HOk P w H' s'.heap/\RelV v u/\Q v H'
def CR(CX:CXT)(outer:List sx)(P:pH)(w:pK)(H:Hp)(s:pE)(Q:VK)(E:XK)(r:sH)(s':pE):Prop :=
 match r with
 | .ok (.ret u)=>CE outer P w H s Q u s'
 | .ok _=>False
 | .error e=>CX outer H s E e s'
structure FnOk(P:pH)(w:pK)(K:pB)(mg:pJ->Option pD)(base:pN)(CX:CXT)(k:Nat)(f:pC)(fd:pG)(ps:List pJ)(sp:Sp):Prop where
 len:∀vs H Q E,sp vs H Q E->vs.length=ps.length
 run:∀(A:pL) (outer:List sx) (s:pE) (H:Hp) (args:Args) (us:List pD) (vs:List V) (Q:VK) (E:XK),Room k A->Env0 P w K mg base A outer s H->sJ s fd args (ps.zip us)->Vals vs us->sp vs H Q E ->
  rG (model P w) A (.call (.ref f) args) (CR CX outer P w H s Q E) s
theorem FnOk.imp{P:pH}{w:pK}{K:pB}{mg:pJ->Option pD}{base:pN}{CX:CXT}{k:Nat}{f:pC}{fd:pG}{ps:List pJ}{sp sp':Sp}(F:FnOk P w K mg base CX k f fd ps sp)
  (h:∀vs H Q E,sp' vs H Q E->sp vs H Q E):FnOk P w K mg base CX k f fd ps sp' :=
 #[λvs H Q E q=>F.len vs H Q E (h _ _ _ _ q),λA outer s H args us vs Q E hr he hb hv hs=>F.run A outer s H args us vs Q E hr he hb hv (h _ _ _ _ hs)]
theorem Env0.make{P:pH}{w:pK}{K:pB}{mg:pJ->Option pD}{base:pN}{A:pL}{outer:List sx}{s:pE}{H:Hp}(e:Env0 P w K mg base A outer s H)(C:pC)(us:List pD)(kw:List (pJ × pD)) :
  Env0 P w K mg base (A.under (.builtin "type.__call__" #[.ref C::us,kw])) outer s H:=#[by first | exact e.frames | (simpa [Around.under,Code.envs,Code.isFrame,pushEnvs] using e.frames),e.mod,e.bs,e.bsz,e.funs,e.frf,e.hok,e.bare]
section
variable{X:Cx}{tK:List (pC × rb)}{σ:St}{H:Hp}{s s':pE}
theorem Inv.env0(I:Inv X tK σ H s):Env0 X.prog X.w X.K X.mg X.base X.A X.stack s H :=
 #[I.ok.frames,I.ok.mod,I.bs,aP I.ok.bsz I.sz,I.stack,I.stkFree,I.hok,I.bare]
theorem Inv.after{Q:VK}{u:pD}(I:Inv X tK σ H s)(h:CE X.stack X.prog X.w H s Q u s'):EP X tK σ Q u s':=by
 obtain⟨v,H',os,bare,un,hok,r,q⟩:=h;obtain⟨hh,g,d,t,os'⟩:=s';obtain rfl:os'=s.os:=os;exact#[v,H',I.call (h':=hh) (g':=g) (d':=d) (t':=t) (ch:=[]) un hok bare (λb z=>absurd z (by simp)),r,q]
end
def vF(sp:Sp)(dvs:List V)(E:XK)(t:TA):TE:=λσ H Q=>t σ H λvs H1=>sp (vs ++ dvs) H1 Q E
def kh(C:pC)(m:pJ)(sp:Sp)(dvs:List V)(E:XK)(ta:TE)(t:TA):TE:=λσ H Q=>ta σ H λx H1=>∃a dx fs,x=.ref a/\H1 a=tG (.ins C dx fs)/\fs.lookup m=tH /\
 t σ H1 λvs H2=>sp (x::(vs ++ dvs)) H2 Q E
def VE(C:pC)(sp:Sp)(dvs:List V)(E:XK)(t:TA):TE:=λσ H Q=>t σ H λvs H1=>∀x dx,H1 x=tH->H1 dx=tH->dx≠x ->
 sp (.ref x::(vs ++ dvs)) (upd (upd H1 dx (.own x)) x (.ins C dx [])) (λv H2=>v=.non/\Q (.ref x) H2) E
def Binds(K:pB)(fd:pG)(ps:List pJ)(ds:List pD):Prop :=
 ∀(s:pE) (us:List pD),K.In s.heap->(us ++ ds).length=ps.length->sJ s fd #[us,[]] (ps.zip (us ++ ds))
theorem Binds.all{K:pB}{fd:pG}{ps:List pJ}(h:∀us:List pD,us.length=ps.length->bindArgs fd #[us,[]]=pure (ps.zip us)):Binds K fd ps []:=λs us _ hl=>by
 rw[aE]at hl ⊢;exact .of_eq (h us hl)
def uw(CX:CXT)(X:Cx)(E:XK):Prop:=∀(tK:List (pC × rb)) (σ:St) (H:Hp) (s:pE) (e:pD) (s':pE),Inv X tK σ H s->CX X.stack H s E e s'->X.xe e s'
section
variable{X:Cx}{CX:CXT}{k:Nat}{f C:pC}{fd:pG}{ps:List pJ}{sp:Sp}{dvs:List V}{ds:List pD}{E:XK}{x m:pJ}{p pos apos:rj}{e o:pM}{es:List pM}{ta:TE}{t:TA}
theorem jz{tK:List (pC × rb)}{σ:St}{H:Hp}{s:pE}{Q:VK}{us:List pD}{vs:List V}(F:FnOk X.prog X.w X.K X.mg X.base CX k f fd ps sp)(hr:Room k X.A)(hb:Binds X.K fd ps ds)(hd:Vals dvs ds)(hx:uw CX X E)
  (I:Inv X tK σ H s) (r:Vals vs us) (h:sp (vs ++ dvs) H Q E):pF (model X.prog X.w) X.A (call (.ref f) us) (EP X tK σ Q) X.xe s:=by
 have r2:Vals (vs ++ dvs) (us ++ ds):=r.append hd;have hl:(us ++ ds).length=ps.length:=by rw[<- r2.length];exact F.len _ _ _ _ h
 refine rE (rJ (F.run X.A X.stack s H #[us,[]] (us ++ ds) (vs ++ dvs) Q E hr I.env0 (hb s us I.kIn hl) r2 h) λr s' hq=>?_)
 cases r with
 | error e=>exact hx tK σ H s e s' I hq
 | ok fl =>
  cases fl with
  | ret u=>exact I.after hq
  | next=>exact False.elim hq
  | brk=>exact False.elim hq
  | cont=>exact False.elim hq
theorem VA(F:FnOk X.prog X.w X.K X.mg X.base CX k f fd ps sp)(hr:Room k X.A)(hg:Gl X x)(hm:X.mg x=tG (.ref f))(hk:aL X.K (.ref f)=tI)(hb:Binds X.K fd ps ds)(hd:Vals dvs ds)(hx:uw CX X E)
  (ha:PA X (e::es) t) (hdb:(x ==("__debug__" : pJ))=tJ:=by decide) (he:pz (e::es) X.env=(tJ,eval e X.env)::pz es X.env:=by rfl) (hpl:(pS pos (pz es X.env)).any (·.1)=tJ:=by rfl) :
  PE X (.Call (.Name x p) (e::es) [] pos) (vF sp dvs E t):=by
 intro tK s σ H Q I h;refine pV (vk I hg hm ?_ hdb);refine bS (h₀:=X.base) I.ok.mod.kin hk (thn (ha pos tK s σ H _ I h) λus s1 ⟨vs,H1,I1,r,q⟩=>#[I1.kIn,?_]) he hpl;exact jz F hr hb hd hx I1 r q
theorem za6{pl:tu Bool}(he:PE X o ta)(c:Cls X.K C)(hm:zcN X.K C m f)(F:FnOk X.prog X.w X.K X.mg X.base CX k f fd ps sp)(hr:Room k X.A)(hb:Binds X.K fd ps ds)(hd:Vals dvs ds)(hx:uw CX X E)(ha:PA X (e::es) t)
    (hst:pz (e::es) X.env=(tJ,eval e X.env)::pz es X.env:=by rfl) (hpl:(pS pos (pz es X.env)).any (·.1)=tJ:=by rfl)
    (ht:eval (.Call (.Attribute o m apos) (e::es) [] pos) X.env=(do
      let ov <- eval o X.env
      standAt apos.atName
      let (f,first) <- holding [ov] (getMethod ov m pl)
      callWith pos f first (pS pos (pz (e::es) X.env)) (pZ pos (pO [] X.env))):=by rfl) :
    PE X (.Call (.Attribute o m apos) (e::es) [] pos) (kh C m sp dvs E ta t):=by
  intro tK s σ H Q I h;refine bZ (pl:=pl) (thn (he tK s σ H _ I h) λu s1 ⟨x,H1,I1,rx,a,dx,fs,ex,ea,l,q⟩=>?_) ht;subst ex;obtain rfl:u=Value.ref a:=rx;refine xU I1 ea c hm l ?_;refine bS (first:=[.ref a]) (h₀:=X.base) I.ok.mod.kin hm.kp (thn (ha pos tK s1 σ H1 _ I1 q) λus s2 ⟨vs,H2,I2,r,q2⟩=>#[I2.kIn,?_]) hst hpl;exact jz (us:=.ref a::us) (vs:=.ref a::vs) F hr hb hd hx I2 (.cons rfl r) q2
theorem Qg{pl:tu Bool}(he:PE X o ta)(c:Cls X.K C)(hm:zcN X.K C m f)(F:FnOk X.prog X.w X.K X.mg X.base CX k f fd ps sp)(hr:Room k X.A)(hb:Binds X.K fd ps ds)(hd:Vals dvs ds)(hx:uw CX X E)
    (ht:eval (.Call (.Attribute o m apos) [] [] pos) X.env=(do
      let ov <- eval o X.env
      standAt apos.atName
      let (f,first) <- holding [ov] (getMethod ov m pl)
      callWith pos f first (pS pos (pz [] X.env)) (pZ pos (pO [] X.env))):=by rfl) :
    PE X (.Call (.Attribute o m apos) [] [] pos) (kh C m sp dvs E ta xF):=by
  intro tK s σ H Q I h;refine bZ (pl:=pl) (thn (he tK s σ H _ I h) λu s1 ⟨x,H1,I1,rx,a,dx,fs,ex,ea,l,q⟩=>?_) ht;subst ex;obtain rfl:u=Value.ref a:=rx;refine xU I1 ea c hm l ?_;exact fW (first:=[.ref a]) I1.kIn hm.kp (jz (us:=[.ref a]) (vs:=[.ref a]) F hr hb hd hx I1 (.cons rfl .nil) q)
structure Mk(K:pB)(C f:pC):Prop where
 makes:cQ K C=tI
 init:aj K (.ref C) "__init__" = tG (tG (.ref f))
 fn:br K (.ref f)=tI
 kp:aL K (.ref C)=tI
theorem QO{tK:List (pC × rb)}{σ:St}{H:Hp}{s:pE}{Q:VK}{us:List pD}{vs:List V}(M:Mk X.K C f)(F:FnOk X.prog X.w X.K X.mg X.base CX k f fd ps sp)(hr:Room (k+1) X.A)(hb:Binds X.K fd ps ds)(hd:Vals dvs ds)
  (hx:uw CX X E) (I:Inv X tK σ H s) (r:Vals vs us)
  (h:∀x dx,H x=tH->H dx=tH->dx≠x->sp (.ref x::(vs ++ dvs)) (upd (upd H dx (.own x)) x (.ins C dx [])) (λv H2=>v=.non/\Q (.ref x) H2) E) :
  pF (model X.prog X.w) X.A (call (.ref C) us) (EP X tK σ Q) X.xe s:=by
 have hq:=h (s⁻¹+1) s⁻¹ (I.hok.fresh (cB _)) (I.hok.fresh (al _)) (ax (Nat.lt_succ_self _));have I2:=Inv.made (C:=C) I;have r2:Vals (V.ref (s⁻¹+1)::(vs ++ dvs)) (Value.ref (s⁻¹+1)::(us ++ ds)):=.cons rfl (r.append hd)
 have hl:(Value.ref (s⁻¹+1)::us ++ ds).length=ps.length:=by
  have e:=r2.length;rw[F.len _ _ _ _ hq]at e;exact e.symm
 refine rE (QH (f:=f) I.kIn M.makes M.init (beq_iff_eq.mp M.fn) (rJ (F.run _ X.stack _ _ #[Value.ref (s⁻¹+1)::us,[]] (Value.ref (s⁻¹+1)::(us ++ ds)) _ _ E (hr.make C us [])
  (I2.env0.make C us []) (hb _ (Value.ref (s⁻¹+1)::us) I2.kIn hl) r2 hq) λr s' hq'=>?_))
 cases r with
 | error e=>exact hx tK σ _ _ e s' I2 hq'
 | ok fl =>
  cases fl with
  | ret u =>
   obtain⟨v,H',I3,rv,ev,q3⟩:=I2.after hq';subst ev;exact#[rv,#[V.ref (s⁻¹+1),H',I3,rfl,q3]]
  | next=>exact False.elim hq'
  | brk=>exact False.elim hq'
  | cont=>exact False.elim hq'
theorem UA(M:Mk X.K C f)(F:FnOk X.prog X.w X.K X.mg X.base CX k f fd ps sp)(hr:Room (k+1) X.A)(hg:Gl X x)(hm:X.mg x=tG (.ref C))(hb:Binds X.K fd ps ds)(hd:Vals dvs ds)(hx:uw CX X E)
  (ha:PA X (e::es) t) (hdb:(x ==("__debug__" : pJ))=tJ:=by decide) (he:pz (e::es) X.env=(tJ,eval e X.env)::pz es X.env:=by rfl) (hpl:(pS pos (pz es X.env)).any (·.1)=tJ:=by rfl) :
  PE X (.Call (.Name x p) (e::es) [] pos) (VE C sp dvs E t):=by
 intro tK s σ H Q I h;refine pV (vk I hg hm ?_ hdb);refine bS (h₀:=X.base) I.ok.mod.kin M.kp (thn (ha pos tK s σ H _ I h) λus s1 ⟨vs,H1,I1,r,q⟩=>#[I1.kIn,?_]) he hpl;exact QO M F hr hb hd hx I1 r q
end
def PK(X:Cx)(kws:List tw)(t:TA):Prop :=
 ∀(pos:rj) (tK:List (pC × rb)) (s:pE) (σ:St) (H:Hp) (Q:List V->Hp->Prop),Inv X tK σ H s->t σ H Q->pF (model X.prog X.w) X.A (evalAll ((pZ pos (pO kws X.env)).map (·.2))) (AP X tK σ Q) X.xe s
section
variable{X:Cx}{CX:CXT}{k:Nat}{f C:pC}{fd:pG}{ps ks:List pJ}{sp:Sp}{E:XK}{x m:pJ}{p pos apos kpos:rj}{e o:pM}{es:List pM}{kws:List tw}{te ta:TE}{t tk:TA}{nm:Option pJ}
theorem W3:PK X [] xF:=λ_ _ _ _ H Q I h=>wpAny_evalAll_nil #[[],H,I,.nil,h]
theorem Yc(ha:PE X e te)(hr:PK X kws t):PK X (#[nm,e,kpos]::kws) (zH te t):=by
 intro pos tK s σ H Q I h;show pF _ _ (evalAll ((do let v <- eval e X.env;standAt pos;pure v)::(pZ pos (pO kws X.env)).map (·.2))) _ _ s;refine wpAny_evalAll_cons (pi (thn (ha tK s σ H _ I h) λu s1 ⟨x,H1,I1,r1,q1⟩=>pi (rp (pj ?_))));exact thn (hr pos tK s1 σ H1 _ I1 q1) λus s2 ⟨xs,H2,I2,r2,q2⟩=>#[x::xs,H2,I2,.cons r1 r2,q2]
variable{g:List pD->List pD->List pD}{gV:List V->List V->List V}
end
structure zo(N P:List pJ)(sc:rf):Prop where
 kind:sc.kind=.function
 co:sc.isCoroutine=tJ
 gen:sc.isGenerator=tJ
 nd:N.Nodup
 pre:N.take P.length=P
 par:∀x ∈ P,sc.names.lookup x=tG .local\/sc.names.lookup x=tG .cell
 nofree:∀y ∈ sc.names,y.2≠.free
theorem Zz{kindOf:pJ->Option rW}{x:pJ}:∀{binds:List (pJ × pD)} {m:pJ->Option pD},(∀v,(x,v) ∉ binds)->bindL kindOf binds m x=m x
  | [],_,_=>rfl
  | (n,v)::r,m,h=>by
    unfold bindL;rw[Zz λw hw=>h w (ao _ hw)];split
    . have:x≠n:=by rintro rfl;exact h v av
      simp [this]
    . rfl
theorem Zy{kindOf:pJ->Option rW}{x:pJ}:∀{binds:List (pJ × pD)} {m:pJ->Option pD},(∀v,(x,v) ∉ binds)->bindC kindOf binds m x=m x
  | [],_,_=>rfl
  | (n,v)::r,m,h=>by
    unfold bindC;rw[Zy λw hw=>h w (ao _ hw)];split
    . rfl
    . have:x≠n:=by rintro rfl;exact h v av
      simp [this]
theorem Z3{kindOf:pJ->Option rW}{x:pJ}{v:pD}:∀{P:List pJ} {vs:List pD} {i:Nat} {m:pJ->Option pD},P.Nodup->P[i]? = tG x->vs[i]? = tG v->kindOf x=tG .local ->
  bindL kindOf (P.zip vs) m x=tG v
 | [],_,_,_,_,h,_,_=>by simp at h
 | _::_,[],_,_,_,_,h,_=>by simp at h
 | p::P,w::vs,0,m,nd,h1,h2,hk=>by
  simp at h1 h2;subst h1;subst h2;show bindL kindOf ((p,w)::P.zip vs) m p=_;unfold bindL;rw[Zz λv hv=>(tV.mp nd).1 (dj hv).1,if_pos hk];simp
 | p::P,w::vs,i+1,m,nd,h1,h2,hk=>by
  show bindL kindOf ((p,w)::P.zip vs) m x=_;unfold bindL;exact Z3 (i:=i) (tV.mp nd).2 (by simpa using h1) (by simpa using h2) hk
theorem Zd{kindOf:pJ->Option rW}{x:pJ}{v:pD}:∀{P:List pJ} {vs:List pD} {i:Nat} {m:pJ->Option pD},P.Nodup->P[i]? = tG x->vs[i]? = tG v->kindOf x≠tG .local ->
  bindC kindOf (P.zip vs) m x=tG v
 | [],_,_,_,_,h,_,_=>by simp at h
 | _::_,[],_,_,_,_,h,_=>by simp at h
 | p::P,w::vs,0,m,nd,h1,h2,hk=>by
  simp at h1 h2;subst h1;subst h2;show bindC kindOf ((p,w)::P.zip vs) m p=_;unfold bindC;rw[Zy λv hv=>(tV.mp nd).1 (dj hv).1,if_neg hk];simp
 | p::P,w::vs,i+1,m,nd,h1,h2,hk=>by
  show bindC kindOf ((p,w)::P.zip vs) m x=_;unfold bindC;exact Zd (i:=i) (tV.mp nd).2 (by simpa using h1) (by simpa using h2) hk
noncomputable def start(N:List pJ)(vs:List V):St:=vs.map tG ++ am (N.length - vs.length) tH
noncomputable def uP(CX:CXT)(P:pH)(w:pK)(K:pB)(mg:pJ->Option pD)(base:pN)(N:List pJ)(qual:pJ)(scope:rf)(f:pC)(cd:pD)(A:pL)(outer:List sx)(s:pE)(H:Hp)(E:XK):Cx where
 prog:=P
 w:=w
 K:=K
 mg:=mg
 base:=base
 A:=A.deeper (rX qual scope s⁻¹ f cd)
 N:=N
 s₀:=s
 H₀:=H
 env:=rX qual scope s⁻¹ f cd
 outer:=outer
 stack:=rX qual scope s⁻¹ f cd::outer
 ex:=[]
 calm:=tI
 fn:=λ_=>tI
 pn:=[]
 xe:=λe s'=>pF (model P w) (A.deeper (rX qual scope s⁻¹ f cd)) (leaving (rX qual scope s⁻¹ f cd) e) (λ_ s''=>CX outer H s E e s'') (λe' s''=>CX outer H s E e' s'') s'
theorem XR{sc:rf}{n:Nat}{x:pJ}(h:sc.names.lookup x=tG .cell):∃c,(cellsFrom n sc.names []).lookup x=tG c:=by
 have q:=ft sc.names n [] (.inl h);exact Aa.mp q
theorem Ug{CX:CXT}{P:pH}{w:pK}{K:pB}{mg:pJ->Option pD}{base:pN}{N ps:List pJ}{qual:pJ}{scope:rf}{f:pC}{cd:pD}{A:pL}{outer:List sx}{s s1:pE}{H:Hp}{E:XK}{us:List pD}{vs:List V}
  (S:zo N ps scope) (hd:A.handled=tH) (e0:Env0 P w K mg base A outer s H) (hl:vs.length=ps.length) (r:Vals vs us)
  (x:InCallC s s⁻¹ (bindL (rX qual scope s⁻¹ f cd).kindOf (ps.zip us) λ_=>tH) (cellsFrom (s⁻¹+1) scope.names []) (bindC (rX qual scope s⁻¹ f cd).kindOf (ps.zip us) λ_=>tH) s1) :
  Inv (uP CX P w K mg base N qual scope f cd A outer s H E) [] (start N vs) H s1:=by
 have hpl:ps.length<=N.length:=by have:=congrArg ci S.pre;rw[aF]at this;lia
 obtain⟨h1,tk,rfl,hk⟩:=x.done;have noA:∀b:pC,b ∉ (uP CX P w K mg base N qual scope f cd A outer s H E).ex:=λb z=>absurd (show b ∈ ([]:List pC)from z) (by simp)
 refine#[#[e0.mod,S.kind,rfl,rfl,al _,λy z c h1 h2=>?_,λy hy=>?_,λy c _ h=>?_,λ_=>hd,Around.frames_deeper e0.frames,.inr #[rfl,rfl],λb z=>absurd z (noA b),e0.bs,e0.bsz,λb _ _=>noA b,λb z=>absurd z (noA b),e0.funs,e0.frf],
  rfl,e0.bare,Un.kept hk,#[_,x.toInCall.ns,λi y v h1 h2 h3=>?_],λy c h=>#[_,x.cell y c h],e0.hok.fresh (al _),λy c h=>?_,λp hp=>absurd (show p ∈ ([]:List (pC × rb))from hp) (by simp),e0.hok.kept hk,?_]
 ·exact name_of_addr x.apart (bG h1) (bG h2)
 ·have hy:scope.names.lookup y=tG .cell\/scope.names.lookup y=tG .free:=hy;rcases hy with hy | hy
  ·exact XR hy
  ·exact absurd rfl (S.nofree _ (bG hy))
 ·exact cY (x.above y c (bG h))
 ·have hi:i<vs.length:=by
   unfold start at h2;by_cases hi:i<vs.length
   ·exact hi
   ·rw[cF (by simpa using hi)]at h2;rw[fj]at h2;split at h2 <;> cases h2
  have ha:vs[i]? = tG v:=by
   unfold start at h2;rw[dk (by simpa using hi),az]at h2
   cases e:vs[i]? with
   | none=>rw[e]at h2;cases h2
   | some a=>rw[e]at h2;cases h2;rfl
  obtain⟨u,hu,rv⟩:=r.get ha
  have hp:ps[i]? = tG y:=by
   rw[<- S.pre,dA ⋯];exact h1
  have ndP:ps.Nodup:=by rw[<- S.pre];exact S.nd.sublist (List.take_sublist _ _)
  refine#[u,rv,?_];rcases S.par y (ae hp)with k | k
  ·exact .inl #[k,Z3 ndP hp hu k]
  ·obtain⟨c,e⟩:=XR (n:=s⁻¹+1) k;refine .inr #[.inl k,c,e,?_];have q:=x.cell y c e;rw[Zd ndP hp hu (by show scope.names.lookup y≠_;rw[k];decide)]at q;exact q
 ·exact e0.hok.fresh (cY (x.above y c (bG h)))
 ·unfold start;show _=N.length;rw[ah,aa,aQ];lia
theorem Qd{CX:CXT}{P:pH}{w:pK}{K:pB}{mg:pJ->Option pD}{base:pN}{k:Nat}{f:pC}{name qual:pJ}{params:rA}{body:List pQ}{scope:rf}{dV kV doc pm cdv ct oc:pD}{an od:Option pC}
  {osl:Array (Option pD)} {N ps:List pJ} {sp:Sp} (lk:K.lookup f=tG #[oc,od,.func (bB name qual params body scope dV kV doc pm an cdv ct),osl]) (hcd:bN K cdv qual=tI) (S:zo N ps scope)
  (len:∀vs H Q E,sp vs H Q E->vs.length=ps.length)
  (hbody:∀(A:pL) (outer:List sx) (s:pE) (H:Hp) (vs:List V) (Q:VK) (E:XK),Room k (A.deeper (rX qual scope s⁻¹ f cdv))->sp vs H Q E ->
   ∃t,PSs (uP CX P w K mg base N qual scope f cdv A outer s H E) body t/\t { nx:=λ_ H'=>Q .non H',rt:=Q } (start N vs) H) :
  FnOk P w K mg base CX (k+1) f (bB name qual params body scope dV kV doc pm an cdv ct) ps sp:=by
 refine#[len,λA outer s H args us vs Q E hr e0 hb r hsp=>?_];have hl:=len _ _ _ _ hsp;have KX:K.In s.heap:=e0.mod.kin.keeps λb o e=>(e0.bs b o e).1;have lim:s.heap.NoLimit:=e0.mod.nolimit.keeps λb o e=>(e0.bs b o e).1
 have hkind:∀y ∈ ps.zip us,scope.names.lookup y.1=tG .local\/(scope.names.lookup y.1=tG .cell/\((cellsFrom (s⁻¹+1) scope.names []).lookup y.1).isSome=tI):=λ⟨n,v⟩ hy=>by
  rcases S.par n (dj hy).1 with q | q
  ·exact .inl q
  ·exact .inr #[q,ft _ _ _ (.inl q)]
 refine codeAny_call_function hr.depth (KX _ _ lk) rfl S.co S.gen rfl (PySem.W.codeRec_of KX hcd) (hb _ _ _ _ ?_);refine wpAny_newFunctionEnv_cells S.kind hkind λenv he s1 x=>?_;subst he;refine#[lim.keeps x.toInCall.keep,codeAny_func ?_];obtain⟨t,ht,hq⟩:=hbody A outer s H vs Q E (hr.deeper _) hsp;have I:Inv (uP CX P w K mg base N qual scope f cdv A outer s H E) [] (start N vs) H s1:=Ug S hr.hd e0 hl r x;refine rD (ht [] s1 (start N vs) H _ I hq) (λfl s' hs=>?_) λe s' hs=>hs
 have fin:∀{σ':St} {H':Hp} {v:V} {u:pD},Inv (uP CX P w K mg base N qual scope f cdv A outer s H E) [] σ' H' s'->RelV v u->Q v H'->CE outer P w H s Q u s' :=
  λ{σ' H' v u} J rv q=>#[v,H',J.os,J.bare,J.base,J.hok,rv,q]
 cases fl with
 | ret u =>
  obtain⟨v,σ',H',J,rv,q⟩:=hs;exact fin J rv q
 | next =>
  obtain⟨σ',H',J,q⟩:=hs;exact fin (v:=V.non) (u:=Value.none) J rfl q
 | brk =>
  obtain⟨_,_,_,q⟩:=hs;exact False.elim q
 | cont =>
  obtain⟨_,_,_,q⟩:=hs;exact False.elim q
section
variable{X:Cx}{x:pJ}{p pos:rj}{e:pM}{es:List pM}{t:TA}{id T:String}{r:List V->Hp->VK->Prop}
def tCB(r:List V->Hp->VK->Prop)(t:TA):TE:=λσ H Q=>t σ H λvs H1=>r vs H1 Q
theorem xg(hc:vm X (.builtin id) r)(hg:Gl X x)(hm:X.mg x=tH)(hv:ra x=tG (.builtin id))(ha:PA X (e::es) t)(hn:x≠"__name__":=by decide)(hdb:(x ==("__debug__" : pJ))=tJ:=by decide)
  (he:pz (e::es) X.env=(tJ,eval e X.env)::pz es X.env:=by rfl) (hpl:(pS pos (pz es X.env)).any (·.1)=tJ:=by rfl):PE X (.Call (.Name x p) (e::es) [] pos) (tCB r t):=by
 intro tK s σ H Q I h;refine pV (wm I hg hm hv ?_ hn hdb);exact PyProof.Rows.callWith_builtin1 (thn (ha pos tK s σ H _ I h) λus s1 ⟨vs,H1,I1,r1,q1⟩=>hc tK s1 σ H1 vs us Q I1 r1 q1) he hpl
theorem xT(hc:vm X (.type T) r)(hg:Gl X x)(hm:X.mg x=tH)(hv:ra x=tG (.type T))(ha:PA X (e::es) t)(hn:x≠"__name__":=by decide)(hdb:(x ==("__debug__" : pJ))=tJ:=by decide)
  (he:pz (e::es) X.env=(tJ,eval e X.env)::pz es X.env:=by rfl) (hpl:(pS pos (pz es X.env)).any (·.1)=tJ:=by rfl):PE X (.Call (.Name x p) (e::es) [] pos) (tCB r t):=by
 intro tK s σ H Q I h;refine pV (wm I hg hm hv ?_ hn hdb);exact bH (thn (ha pos tK s σ H _ I h) λus s1 ⟨vs,H1,I1,r1,q1⟩=>hc tK s1 σ H1 vs us Q I1 r1 q1) he hpl
end
end L2
namespace HT
open PySem PyProof.Rows
section
open PySem.SeqAt
open PySem.AutoSeq1 (wpAny_loadPart')
open PySem.MeetsSeq PySem.MeetsSeq2 PySem.MeetsSeq3
end
section
variable{prog:pH}{w:pK}{A:pL}{E:pD->pE->Prop}{s:pE}
noncomputable def sIx(n d:Nat):Option Int->Nat
 | none=>d
 | some v=>if v<0 then (v+(n:Int)).toNat else min v.toNat n
theorem sIx_none(n d:Nat):sIx n d tH=d:=rfl
theorem sIx_nat(n d k:Nat):sIx n d (tG (k:Int))=min k n:=by
 show (if (k:Int)<0 then ((k:Int)+(n:Int)).toNat else min (k:Int).toNat n)=min k n;rw[if_neg ⋯,aX]
theorem sIx_le(n d:Nat)(hd:d<=n)(o:Option Int):sIx n d o<=n:=by
 cases o with
 | none=>exact hd
 | some v =>
  show (if v<0 then (v+(n:Int)).toNat else min v.toNat n)<=n;by_cases hv:v<0
  ·rw[if_pos hv];lia
  ·rw[if_neg hv];exact Nat.min_le_right _ _
end
end HT
namespace L2
noncomputable abbrev TO:=St->Hp->(Option Int->Hp->Prop)->Prop
def PO(X:Cx)(e:Option pM)(t:TO):Prop :=
 ∀(tK:List (pC × rb)) (s:pE) (σ:St) (H:Hp) (Q:Option Int->Hp->Prop),Inv X tK σ H s->t σ H Q ->
  pF (model X.prog X.w) X.A (evalPart e X.env) (λu s'=>∃o H',Inv X tK σ H' s'/\IsPart u o/\Q o H') X.xe s
def jO:TO:=λ_ H Q=>Q tH H
def Ji(t:TE):TO:=λσ H Q=>t σ H λx H1=>onInt x λi=>Q (tG i) H1
section
variable{X:Cx}{e:pM}{te:TE}{lo hi:Option pM}{tl th:TO}{pos p2:rj}
theorem xw:PO X tH jO:=by
 intro tK s σ H Q I h;rw[evalPart_none];exact pj #[tH,H,I,.none,h]
theorem yk(h:PE X e te):PO X (tG e) (Ji te):=by
 intro tK s σ H Q I hw;rw[evalPart_some];refine thn (h tK s σ H _ I hw) λu s1 ⟨x,H1,I1,r1,q1⟩=>?_;obtain⟨i,rfl,q⟩:=onInt.of q1;obtain⟨t,rfl⟩:=r1;exact#[tG i,H1,I1,.int i t,q]
def SlR(X:Cx)(r:V->Option Int->Option Int->Hp->VK->Prop):Prop :=
 ∀(tK:List (pC × rb)) (s:pE) (σ:St) (H:Hp) (x:V) (v vl vu:pD) (lo hi:Option Int) (sl:pC) (Q:VK),Inv X tK σ H s->RelV x v->s.heap.IsSliceOf sl vl vu .none->IsPart vl lo->IsPart vu hi->r x lo hi H Q ->
  ∃T id,typeLookup (.type T) "__getitem__" = pure (tG (.builtin id))/\s.TypeIs v T/\pF (model X.prog X.w) X.A (getItem v (.ref sl)) (EP X tK σ Q) X.xe s
def tSl(r:V->Option Int->Option Int->Hp->VK->Prop)(te:TE)(tl th:TO):TE:=λσ H Q=>te σ H λx H1=>tl σ H1 λl H2=>th σ H2 λu H3=>r x l u H3 Q
theorem yc{r:V->Option Int->Option Int->Hp->VK->Prop}(hr:SlR X r)(he:PE X e te)(hl:PO X lo tl)(hu:PO X hi th):PE X (.Subscript e (.Slice lo hi tH p2) pos) (tSl r te tl th):=by
 intro tK s σ H Q I h;refine tB (thn (he tK s σ H _ I h) λv s1 ⟨x,H1,I1,r1,q1⟩=>?_);refine wpAny_Slice (thn (hl tK s1 σ H1 _ I1 q1) λvl s2 ⟨l,H2,I2,pl,q2⟩=>thn (hu tK s2 σ H2 _ I2 q2) λvu s3 ⟨u,H3,I3,pu,q3⟩=>?_);rw[evalPart_none];refine pj ?_;have I4:Inv X tK σ H3 { s3 with heap:=s3.heap.push { cls:=.type "slice",data:=.fields (List.toArray [vl,vu,.none]) } }:=I3.kept (t':=s3.toks) λb ob q=>ac _ q;obtain⟨T,id,hT,ht,hg⟩:=hr tK { s3 with heap:=s3.heap.push { cls:=.type "slice",data:=.fields (List.toArray [vl,vu,.none]) } } σ H3 x v vl vu l u s3⁻¹ Q I4 r1 (Heap.IsSliceOf.new ..) pl pu q3;show pF (model X.prog X.w) X.A (sM e (.Slice lo hi tH p2) v (.ref s3⁻¹)) (EP X tK σ Q) X.xe { s3 with heap:=s3.heap.push { cls:=.type "slice",data:=.fields (List.toArray [vl,vu,.none]) } };exact tail_any (ops:=[.ref s3⁻¹,v]) ht hT hg (by with_unfolding_all rfl)
noncomputable def zaA(xs:List V)(lo hi:Option Int):List V:=(xs.drop (HT.sIx xs.length 0 lo)).take (HT.sIx xs.length xs.length hi - HT.sIx xs.length 0 lo)
theorem Yh(xs:List V)(lo hi:Option Int):(zaA xs lo hi).length<=xs.length:=by
 unfold zaA;rw[aF,bi];lia
end
noncomputable def ixN(n:Nat)(i:Int):Option Nat:=if 0<=i then (if i<n then tG i.toNat else tH)else if -(n:Int)<=i then tG (i+n).toNat else tH
noncomputable def atI{α:Type}(xs:List α)(i:Int):Option α:=(ixN xs.length i).bind λj=>xs[j]?
theorem zae{n:Nat}{i:Int}{j:Nat}(h:ixN n i=tG j):seqIndex? i n=tG j/\j<n/\-(n:Int)<=i/\i<n:=by
 unfold ixN at h;by_cases h0:0<=i
 ·rw[if_pos h0]at h;by_cases h1:i<n
  ·rw[if_pos h1]at h;have e:i.toNat=j:=Option.some.inj h;exact#[by rw[seqIndex_of h0 h1,e],⋯,⋯,h1]
  ·rw[if_neg h1]at h;cases h
 ·rw[if_neg h0]at h;by_cases h1:-(n:Int)<=i
  ·rw[if_pos h1]at h;have e:(i+n).toNat=j:=Option.some.inj h;exact#[by rw[seqIndex_neg ⋯ h1,e],⋯,h1,⋯]
  ·rw[if_neg h1]at h;cases h
theorem kg{α:Type}{xs:List α}{i:Int}{v:α}(h:atI xs i=tG v):∃j,seqIndex? i xs.length=tG j/\xs[j]? = tG v/\j<xs.length/\-(xs.length:Int)<=i/\i<xs.length:=by
 unfold atI at h
 cases e:ixN xs.length i with
 | none=>rw[e]at h;cases h
 | some j =>
  rw[e]at h;obtain⟨h1,h2,h3,h4⟩:=zae e;exact#[j,h1,h,h2,h3,h4]
theorem vY{α:Type}{xs:List α}{j:Nat}{v:α}(h:xs[j]? = tG v):atI xs (j:Int)=tG v:=by
 have hj:j<xs.length:=(tN.mp h).1
 have e:ixN xs.length (j:Int)=tG j:=by
  unfold ixN;rw[if_pos ⋯,if_pos ⋯];simp
 unfold atI;rw[e];exact h
def Uu(b:pM):Prop:=∀o i,subscripted b tJ o i=operate [o,i] (getItem o i)
def IxR(X:Cx)(r:R2):Prop :=
 ∀(value slice:pM) (tK:List (pC × rb)) (s:pE) (σ:St) (H:Hp) (x y:V) (v u:pD) (Q:VK),Inv X tK σ H s->RelV x v->RelV y u->r x y H Q ->
  subscripted slice tJ v u=operate [v,u] (getItem v u)->pF (model X.prog X.w) X.A (sM value slice v u) (EP X tK σ Q) X.xe s
def MtR(X:Cx)(id:String)(r:V->List V->Hp->VK->Prop):Prop :=
 ∀(tK:List (pC × rb)) (s:pE) (σ:St) (H:Hp) (x:V) (xs:List V) (v:pD) (us:List pD) (Q:VK),Inv X tK σ H s->RelV x v->Vals xs us->r x xs H Q ->
  pF (model X.prog X.w) X.A (call (.builtin id) (v::us)) (EP X tK σ Q) X.xe s
section
variable{X:Cx}{a b:pM}{ta tb:TE}{pos:rj}
theorem IxR.or{r r':R2}(h:IxR X r)(h':IxR X r'):IxR X (λx y H Q=>r x y H Q\/r' x y H Q):=by
 intro value slice tK s σ H x y v u Q I rx ry q hs;rcases q with q | q
 ·exact h value slice tK s σ H x y v u Q I rx ry q hs
 ·exact h' value slice tK s σ H x y v u Q I rx ry q hs
theorem zed{r:R2}(hr:IxR X r)(ha:PE X a ta)(hb:PE X b tb)(hs:Uu b):PE X (.Subscript a b pos) (tOp r ta tb):=by
 intro tK s σ H Q I h;exact tB (zdS ha hb I h λv u s2 x y H2 I2 rx ry q=>hr a b tK s2 σ H2 x y v u Q I2 rx ry q (hs _ _))
def zcI(K:pB):R2:=λx y H Q=>onRef x λp=>onInt y λi=>∃xs,SqL K H p xs/\∃v,atI xs i=tG v/\Q v H
def vM(K:pB):R2:=λx y H Q=>onRef x λp=>onInt y λi=>∃xs,SqT K H p xs/\∃v,atI xs i=tG v/\Q v H
def zaU:R2:=λx y H Q=>onStr x λz=>onInt y λi=>z.length<=pA/\∃c,atI z.cps.toList i=tG c/\Q (.str ⟨#[c]⟩) H
theorem ix_list:IxR X (zcI X.K):=by
 intro value slice tK s σ H x y v u Q I rx ry h hs;obtain⟨p,rfl,h2⟩:=onRef.of h;obtain⟨i,rfl,xs,hq,z,he,q⟩:=onInt.of h2;cases rx;obtain⟨t,rfl⟩:=ry;obtain⟨its,r,pl,hz⟩:=I.list hq;obtain⟨j,h1,h2,h3,h4,h5⟩:=kg he;obtain⟨w,ew,rw'⟩:=r.get h2;have hl:=r.length;have hn:=ZS;have fin:EP X tK σ Q w s:=#[z,H,I,rw',q];by_cases h0:0<=i
 ·have hj:i.toNat=j:=by
   rw[seqIndex_of h0 h5]at h1;exact Option.some.inj h1
  exact item_listR pl.isList h0 ⋯ (by rw[hj];simpa using ew) fin hs
 ·have hj:(i+(its.toArray.size:Int)).toNat=j:=by
   rw[seqIndex_neg ⋯ h4]at h1;rw[ak,<- hl];exact Option.some.inj h1
  exact sv (x:=w) pl.isList.typeIs slot_list_getitem.lookup
   (wpAny_getItem_list_neg (Q:=λr s'=>r=w/\EP X tK σ Q r s') pl.isList ⋯ (by rw[ak] <;> lia) ⋯ (by rw[hj];simpa using ew) #[rfl,fin]) hs
theorem ix_tup:IxR X (vM X.K):=by
 intro value slice tK s σ H x y v u Q I rx ry h hs;obtain⟨p,rfl,h2⟩:=onRef.of h;obtain⟨i,rfl,xs,hq,z,he,q⟩:=onInt.of h2;cases rx;obtain⟨t,rfl⟩:=ry;obtain⟨its,r,pl,hz⟩:=I.tuple hq;obtain⟨j,h1,h2,h3,h4,h5⟩:=kg he;obtain⟨w,ew,rw'⟩:=r.get h2;have hl:=r.length;have hn:=ZS;have fin:EP X tK σ Q w s:=#[z,H,I,rw',q]
 exact sv (x:=w) pl.typeIs slot_tuple_getitem.lookup
  (getItem_tuple (j:=j) (Q:=λr s'=>r=w/\EP X tK σ Q r s') pl ⋯ ⋯ (by rw[ak,<- hl];exact h1) (by simpa using ew) #[rfl,fin]) hs
theorem jy:IxR X zaU:=by
 intro value slice tK s σ H x y v u Q I rx ry h hs;obtain⟨z,rfl,h2⟩:=onStr.of h;obtain⟨i,rfl,hz,c,he,q⟩:=onInt.of h2;obtain⟨t,rfl⟩:=rx;obtain⟨t',rfl⟩:=ry;obtain⟨j,h1,h2,h3,h4,h5⟩:=kg he;have hl:z.cps.toList.length=z.length:=by simp [Str.length]
 rw[hl]at h1 h4 h5;have hn:=ZS
 exact tail_any (typeIs_str s z t) slot_str_getitem.lookup (getItem_str (c:=c) (by
  have e1:decide (i < -(2 ^ 63:Int))=tJ:=decide_eq_false ⋯;have e2:decide (i ≥ 2 ^ 63)=tJ:=decide_eq_false ⋯
  rw[e1,e2,Bool.or_false]) (by rw[h1];simpa using h2) #[.str ⟨#[c]⟩,H,I.tok _,#[_,rfl],q]) hs
def rIx(K:pB):R2:=λx y H Q=>match x with | .ref p=>onInt y λi=>(∃xs,SqL K H p xs/\∃v,atI xs i=tG v/\Q v H)\/∃xs,SqT K H p xs/\∃v,atI xs i=tG v/\Q v H | .str z=>zaU (.str z) y H Q | _=>False
theorem rIx.of{K:pB}{x y:V}{H:Hp}{Q:VK}(h:rIx K x y H Q):zcI K x y H Q\/vM K x y H Q\/zaU x y H Q:=by
 unfold rIx at h;cases x <;> first | exact .inr (.inr h) | (obtain⟨i,rfl,h⟩:=onInt.of h;exact h.elim .inl λh=>.inr (.inl h)) | exact h.elim
theorem W8:IxR X (rIx X.K):=λa b tK s σ H x y v u Q I rx ry h hs=>(ix_list.or (ix_tup.or jy)) a b tK s σ H x y v u Q I rx ry h.of hs
theorem Inv.lst{tK:List (pC × rb)}{σ:St}{H:Hp}{s:pE}{p:pC}{xs:List V}(I:Inv X tK σ H s)(h:H p=tG (.lst xs)) :
  ∃(its:List pD) (n:Nat),Vals xs its/\s.heap.get? p=tG { cls:=.type "list",data:=.seq its.toArray n }/\xs.length<=pA:=by
 obtain⟨z,its,n,r,e⟩:=I.hok p _ h;exact#[its,n,r,e,z]
theorem Zb(lo hi:Option Int)(n:Nat):(sliceBounds lo hi tH n).1=((HT.sIx n 0 lo:Nat):Int)/\(sliceBounds lo hi tH n).2.1=((HT.sIx n n hi:Nat):Int)/\(sliceBounds lo hi tH n).2.2=1:=by
 refine#[?_,?_,rfl]
 ·cases lo with
  | none=>simp [sliceBounds,HT.sIx]
  | some i =>
   erw[sliceBounds,HT.sIx,gh,show (1:Int) > 0 by decide,if_true]
   by_cases h:i<0
   ·erw[h,if_true] <;> lia
   ·erw[h,if_false] <;> lia
 ·cases hi with
  | none=>simp [sliceBounds,HT.sIx]
  | some i =>
   erw[sliceBounds,HT.sIx,gh,show (1:Int) > 0 by decide,if_true]
   by_cases h:i<0
   ·erw[h,if_true] <;> lia
   ·erw[h,if_false] <;> lia
theorem kD(its:List pD)(lo hi:Option Int):slicePick its.toArray lo hi tH=((its.drop (HT.sIx its.length 0 lo)).take (HT.sIx its.length its.length hi - HT.sIx its.length 0 lo)).toArray:=by
 obtain⟨h1,h2,h3⟩:=Zb lo hi its.toArray.size;unfold slicePick;rw[h1,h2,h3]
 erw[sliceRange_one,pick_run,ak] <;> rfl
def zcf(K:pB):V->Option Int->Option Int->Hp->VK->Prop:=λx lo hi H Q=>onRef x λa=>∃xs,SqL K H a xs/\∀p,H p=tH->Q (.ref p) (upd H p (.lst (zaA xs lo hi)))
theorem Yk:SlR X (zcf X.K):=by
 intro tK s σ H x v vl vu lo hi sl Q I rx hs pl pu h;obtain⟨a,rfl,xs,hx,q⟩:=onRef.of h;cases rx;obtain⟨its,r,ht,hz⟩:=I.list hx;have hlen:=r.length;refine#["list",_,slot_list_getitem.lookup,ht.isList.typeIs,?_];refine wpAny_getItem_list_slice ht.isList hs pl pu .none (by simp) ?_ (by rw[ak] <;> lia);rw[kD,<- hlen];refine#[.ref s⁻¹,_,I.laid (t':=s.toks) (o:=.lst (zaA xs lo hi)) (λb ob q=>ac _ q) (al _) ?_,rfl,q _ (I.hok.fresh (al _))];exact#[aP (Yh xs lo hi) hz,_,0,(r.drop (HT.sIx xs.length 0 lo)).take (HT.sIx xs.length xs.length hi - HT.sIx xs.length 0 lo),aC _ rfl]
noncomputable def zcB:V->Bool
 | .non=>tI
 | .bl _=>tI
 | .int _=>tI
 | .str _=>tI
 | _=>tJ
noncomputable def eqV:V->V->Bool
 | .non,.non=>tI
 | .bl a,.bl b=>a == b
 | .bl a,.int b=>(if a then 1 else 0) == b
 | .int a,.bl b=>a ==(if b then 1 else 0)
 | .int a,.int b=>a == b
 | .str a,.str b=>a == b
 | _,_=>tJ
theorem Xo{A:pL}{s:pE}{y x:V}{u v:pD}(ry:RelV y u)(rx:RelV x v)(fy:zcB y=tI)(fx:zcB x=tI):SeqAt.EqAt A s u v (eqV y x):=by
 cases y with
 | non =>
  cases ry
  cases x with
  | non=>cases rx;exact SeqAt.EqAt.same _
  | bl b=>cases rx;exact SeqAt.EqAt.none_bool b
  | int b=>obtain⟨t,rfl⟩:=rx;exact SeqAt.EqAt.none_int b t
  | str b=>obtain⟨t,rfl⟩:=rx;exact SeqAt.EqAt.none_str b t
  | _=>exact absurd (show tJ=tI from fx) aB
 | bl a =>
  cases ry
  cases x with
  | non=>cases rx;exact SeqAt.EqAt.bool_none a
  | bl b=>cases rx;exact SeqAt.EqAt.bool_bool a b
  | int b=>obtain⟨t,rfl⟩:=rx;exact SeqAt.EqAt.bool_int a b t
  | str b=>obtain⟨t,rfl⟩:=rx;exact SeqAt.EqAt.bool_str a b t
  | _=>exact absurd (show tJ=tI from fx) aB
 | int a =>
  obtain⟨t',rfl⟩:=ry
  cases x with
  | non=>cases rx;exact SeqAt.EqAt.int_none a t'
  | bl b=>cases rx;exact SeqAt.EqAt.int_bool a t' b
  | int b=>obtain⟨t,rfl⟩:=rx;exact SeqAt.EqAt.int_int a t' b t
  | str b=>obtain⟨t,rfl⟩:=rx;exact SeqAt.EqAt.int_str a t' b t
  | _=>exact absurd (show tJ=tI from fx) aB
 | str a =>
  obtain⟨t',rfl⟩:=ry
  cases x with
  | non=>cases rx;exact SeqAt.EqAt.str_none a t'
  | bl b=>cases rx;exact SeqAt.EqAt.str_bool a t' b
  | int b=>obtain⟨t,rfl⟩:=rx;exact SeqAt.EqAt.str_int a t' b t
  | str b=>obtain⟨t,rfl⟩:=rx;exact SeqAt.EqAt.str_str a t' b t
  | _=>exact absurd (show tJ=tI from fx) aB
 | _=>exact absurd (show tJ=tI from fy) aB
theorem xB:vm X (.type "list") (λxs H Q=>∃p ys,xs=[.ref p]/\(SqL X.K H p ys\/SqT X.K H p ys)/\∀l,H l=tH->Q (.ref l) (upd H l (.lst ys))):=by
 intro tK s σ H xs us Q I r h;obtain⟨p,ys,rfl,hq,q⟩:=h;obtain⟨u,rfl,rx⟩:=xz r;cases rx
 have fin:∀(its:List pD),Vals ys its->ys.length<=pA->∀(h':pN) (c':Nat),(∀b o',s.heap.get? b=tG o'->h'.get? b=tG o') ->
   h'.get? s⁻¹=tG { cls:=.type "list",dict:=tH,data:=.seq its.toArray c',slots:=#[] }->EP X tK σ Q (.ref s⁻¹) { s with heap:=h' }:=λits r' hz h' c' kp e =>
  #[.ref s⁻¹,_,I.laid (t':=s.toks) kp (al _) (show ObjOk X.prog X.w _ h' _ (.lst ys)from #[hz,its,c',r',e]),rfl,q _ (I.hok.fresh (al _))]
 rcases hq with hq | hq
 ·obtain⟨its,r',pl,hz⟩:=I.list hq;have hlen:=r'.length;obtain⟨o,ho,hc,n,hd⟩:=pl.isList;exact call_list_seq p (.inl rfl) ho hc hd (λh' c' kp e=>fin its r' hz h' c' kp e) (by erw[ak] <;> lia)
 ·obtain⟨its,r',pl,hz⟩:=I.tuple hq;have hlen:=r'.length;obtain⟨o,ho,hc,n,hd⟩:=pl;exact call_list_seq p (.inr rfl) ho hc hd (λh' c' kp e=>fin its r' hz h' c' kp e) (by erw[ak] <;> lia)
theorem jZ:vm X (.type "tuple") (λxs H Q=>∃p ys,xs=[.ref p]/\((SqL X.K H p ys/\∀l,H l=tH->Q (.ref l) (upd H l (.tup ys)))\/(SqT X.K H p ys/\Q (.ref p) H))):=by
 intro tK s σ H xs us Q I r h;obtain⟨p,ys,rfl,h⟩:=h;obtain⟨u,rfl,rx⟩:=xz r;cases rx;rcases h with ⟨hq,q⟩ | ⟨hq,q⟩
 ·obtain⟨its,r',pl,hz⟩:=I.list hq;have hlen:=r'.length;refine call_tuple_list pl.isList (λh' kp=>?_) (by erw[ak] <;> lia);have I1:Inv X tK σ H { s with heap:=h' }:=I.kept (t':=s.toks) kp
  have I2:Inv X tK σ (upd H h'.objs.size (.tup ys)) { s with heap:=h'.push { cls:=.type "tuple",data:=.seq its.toArray } } :=
   I1.laid (t':=s.toks) (λb o e=>ac _ e) (al _) (show ObjOk X.prog X.w _ _ _ (.tup ys)from #[hz,its,r',IsTup.new _ _])
  exact#[.ref h'.objs.size,_,I2,rfl,q _ (I1.hok.fresh (al _))]
 ·obtain⟨its,r',pl,hz⟩:=I.tuple hq;exact call_tuple_same pl #[.ref p,H,I,rfl,q]
def tyV(K:pB)(T:String)(x:V)(H:Hp):Prop:=match x with
 | .str _=>T="str"
 | .int _=>T="int"
 | .ref p=>(T="list"/\∃xs,SqL K H p xs)\/(T="tuple"/\∃o,K.lookup p=tG o/\o.cls=.type "tuple"/\o.dict=tH) \/
   (T="dict"/\((∃kvs,H p=tG (.dK kvs))\/∃kvs,H p=tG (.dT kvs)))\/(T="set"/\∃S n,H p=tG (.set S n))
 | _=>False
theorem zcT{tK:List (pC × rb)}{σ:St}{H:Hp}{s:pE}{T:String}{x:V}{v:pD}(I:Inv X tK σ H s)(r:RelV x v)(ty:tyV X.K T x H) :
  s.TypeIs v T/\∀a,v=.ref a->∃ob,s.heap.get? a=tG ob/\ob.dict=tH:=by
 cases x with
 | str z =>
  obtain⟨t,rfl⟩:=r;cases (show T="str" from ty);exact#[typeIs_str s z t,λ_ e=>nomatch e]
 | int i =>
  obtain⟨t,rfl⟩:=r;cases (show T="int" from ty);exact#[typeIs_int s i t,λ_ e=>nomatch e]
 | ref p =>
  cases r;rcases ty with ⟨rfl,xs,hq⟩ | ⟨rfl,o,hk,hc,hd⟩ | ⟨rfl,hk⟩ | ⟨rfl,S,n,hk⟩
  ·obtain⟨its,_,pl,_⟩:=I.list hq;refine#[pl.isList.typeIs,λa e=>?_];cases e;obtain⟨o,n,e,c,hd,_⟩:=pl;exact#[o,e,hd]
  ·refine#[#[o,I.kIn p o hk,hc],λa e=>?_];cases e;exact#[o,I.kIn _ o hk,hd]
  ·have z:∃o,s.heap.get? p=tG o/\o.ExactDict:=by
    rcases hk with ⟨kvs,hk⟩ | ⟨kvs,hk⟩
    ·obtain⟨_,_,_,_,o,_,_,e,ex,_⟩:=I.hok p _ hk;exact#[o,e,ex]
    ·obtain⟨_,_,_,_,o,_,_,e,ex,_⟩:=I.hok p _ hk;exact#[o,e,ex]
   obtain⟨o,e,ex⟩:=z;refine#[#[o,e,ex.1],λa e2=>?_];cases e2;exact#[o,e,ex.2.1]
  ·obtain⟨o,_,_,_,e,ex,_⟩:=I.hok p _ hk;refine#[#[o,e,ex.1],λa e2=>?_];cases e2;exact#[o,e,ex.2.1]
 | _=>exact False.elim ty
def tBM(K:pB)(T:String)(r:V->List V->Hp->VK->Prop)(to:TE)(t:TA):TE:=λσ H Q=>to σ H λx H1=>tyV K T x H1/\t σ H1 λxs H2=>r x xs H2 Q
variable{o e:pM}{es:List pM}{to:TE}{t:TA}{name:pJ}{apos cpos:rj}{T id:String}{r:V->List V->Hp->VK->Prop}
theorem xu(pa:PlainAttrs T)(slot:Slot T name id)(hty:typeOf (.builtin id)=pure (.type "method_descriptor"))(hm:MtR X id r)(ho:PE X o to)(ha:PA X (e::es) t)
  (hbase:attributeBase o name X.env (eval o X.env)=eval o X.env:=by rfl)
  (hfew:((pS cpos (pz (e::es) X.env)).all (λx=>!x.1) && (pZ cpos (pO [] X.env)).all (λx=>x.1.isSome)
   && decide ((e::es).length+([]:List tw).length+(if ([]:List tw).isEmpty then 0 else 1)<30))=tI:=by rfl)
  (hline:(apos.endLine == cpos.line)=tI:=by rfl) (hs:pz (e::es) X.env=(tJ,eval e X.env)::pz es X.env:=by rfl) (hplain:(pS cpos (pz es X.env)).any (·.1)=tJ:=by rfl) :
  PE X (.Call (.Attribute o name apos) (e::es) [] cpos) (tBM X.K T r to t):=by
 intro tK s σ H Q I h;refine wpAny_Call_method_late hbase hfew hline rfl (thn (ho tK s σ H _ I h) λv s1 ⟨x,H1,I1,r1,ty,q1⟩=>?_);obtain⟨h1,h2⟩:=zcT I1 r1 ty;refine#[T,id,pa,slot,hty,h1,h2,?_];have hA:=ha cpos tK s1 σ H1 _ I1 q1;rw[hs]at hA ⊢;refine Calls.callWith_builtin (by show (tJ || (pS cpos (pz es X.env)).any (·.1))=tJ;rw[hplain] <;> rfl) (Calls.evalArgs_plain ?_);exact thn hA λus s2 ⟨vs,H2,I2,r2,q2⟩=>hm tK s2 σ H2 x vs v us Q I2 r1 r2 q2
/- xs.append(e),list.index on a module's tuple .. are MtR facts of 06m -/
end
def MtM(X:Cx)(id:String)(r:V->List V->Hp->VK->Prop):Prop :=
 ∀(tK:List (pC × rb)) (s:pE) (σ:St) (H:Hp) (x:V) (xs:List V) (v:pD) (us:List pD) (Q:VK),Inv X tK σ H s->RelV x v->Vals xs us->r x xs H Q ->
  pF (model X.prog X.w) X.A (call (.builtin id) (v::us)) (EP X tK σ Q) X.xe s
theorem Vals.one:∀{x:V} {us:List pD},Vals [x] us->∃u,us=[u]/\RelV x u
 | _,_,.cons r .nil=>#[_,rfl,r]
theorem Vals.two:∀{x y:V} {us:List pD},Vals [x,y] us->∃u v,us=[u,v]/\RelV x u/\RelV y v
 | _,_,_,.cons r (.cons q .nil)=>#[_,_,rfl,r,q]
theorem Vals.zero:∀{us:List pD},Vals [] us->us=[]
 | _,.nil=>rfl
theorem Vals.eraseIdx:∀{xs:List V} {us:List pD} (i:Nat),Vals xs us->Vals (xs.eraseIdx i) (us.eraseIdx i)
 | _,_,_,.nil=>.nil
 | _,_,0,.cons _ t=>t
 | _,_,i+1,.cons r t=>.cons r (Vals.eraseIdx i t)
theorem Vals.reverse{xs:List V}{us:List pD}(h:Vals xs us):Vals xs.reverse us.reverse:=by
 induction h with
 | nil=>exact .nil
 | cons r t ih=>rw[List.reverse_cons,List.reverse_cons];exact Vals.append ih (.cons r .nil)
theorem ZH{α:Type}:∀(l:List α) (i:Nat),(l.eraseIdx i).length<=l.length
 | [],_=>al _
 | _::_,0=>cB _
 | _::r,i+1=>Nat.succ_le_succ (ZH r i)
section
variable{X:Cx}{tK:List (pC × rb)}{σ:St}{H:Hp}{s:pE}{l b:pC}{xs ys zs:List V}
theorem Inv.lset{its its':List pD}{n:Nat}{f:Array pD->Array pD}{t':Nat}(I:Inv X tK σ H s)(hH:H l=tG (.lst xs))
  (e:s.heap.get? l=tG { cls:=.type "list",data:=.seq its.toArray n }) (hf:f its.toArray=its'.toArray) (hv:Vals ys its') (hz:ys.length<=pA) :
  Inv X tK σ (upd H l (.lst ys)) { s with heap:=s.heap.update l (Obj.mapSeq f),toks:=t' }:=by
 have q:=PySem.IsL.update e f;rw[hf]at q;refine I.write (x:=l) (e:=l) (by rw[hH];exact trivial) (.inl rfl) (λb' u hb hu=>(aI s.heap (Obj.mapSeq f) (Ne.symm hb)).trans hu) #[_,q] ?_;exact#[hz,its',_,hv,q]
theorem Inv.lnew{its:List pD}{t':Nat}(I:Inv X tK σ H s)(hv:Vals ys its)(hz:ys.length<=pA) :
  Inv X tK σ (upd H s⁻¹ (.lst ys)) { s with heap:=s.heap.push { cls:=.type "list",data:=.seq its.toArray },toks:=t' } :=
 I.laid (λ_ _ q=>ac _ q) (al _) #[hz,its,0,hv,aC _ rfl]
theorem Inv.fresh(I:Inv X tK σ H s):H s⁻¹=tH:=I.hok.fresh (al _)
theorem Inv.lstM(I:Inv X tK σ H s)(hH:H l=tG (.lst xs)):xs.length<=pA/\∃(its:List pD) (n:Nat),Vals xs its/\xs.length=its.length/\s.heap.get? l=tG { cls:=.type "list",data:=.seq its.toArray n }:=by
 obtain⟨z,its,n,r,e⟩:=I.hok l _ hH;exact#[z,its,n,r,r.length,e]
theorem QT{n:Nat}(h:n<=pA):Builtin.List.listTooLong n=tJ:=by
 unfold Builtin.List.listTooLong;exact decide_eq_false ⋯
end
section
variable{X:Cx}
def UR:V->List V->Hp->VK->Prop:=λx vs H Q=>onRef x λl=>match vs with | [y]=>∃xs,H l=tG (.lst xs)/\xs.length<pA/\Q .non (upd H l (.lst (xs ++ [y]))) | _=>False
theorem ya:MtM X "list.append" UR:=by
 intro tK s σ H x vs v us Q I rx rv h;obtain⟨l,rfl,h2⟩:=onRef.of h
 obtain⟨y,rfl,xs,hH,hz,q⟩:∃y,vs=[y]/\∃xs,H l=tG (.lst xs)/\xs.length<pA/\Q .non (upd H l (.lst (xs ++ [y]))):=by
  split at h2
  ·exact#[_,rfl,h2]
  ·exact h2.elim
 cases rx;obtain⟨u,rfl,ru⟩:=rv.one;obtain⟨z,its,n,r,hl,e⟩:=I.lstM hH;refine call_meets F.slot_list_append #[_,e,rfl] F.entry_list_append (F.args_list_append_2 _ _) (PySem.list_append l its.toArray n u (by rw[ak];lia)) #[e,?_];refine#[.non,_,I.lset (its':=its ++ [u]) hH e (by simp) (r.append (.cons ru .nil)) ?_,rfl,q];rw[ah,fz];lia
def UK:V->List V->Hp->VK->Prop:=λx vs H Q=>∃l b xs zs,x=.ref l/\vs=[.ref b]/\H l=tG (.lst xs)/\H b=tG (.lst zs)/\xs.length+zs.length<=pA/\Q .non (upd H l (.lst (xs ++ zs)))
theorem Zl:MtM X "list.extend" UK:=by
 intro tK s σ H x vs v us Q I rx rv h;obtain⟨l,b,xs,zs,rfl,rfl,hH,hB,hz,q⟩:=h;cases rx;obtain⟨u,rfl,ru⟩:=rv.one;cases ru;obtain⟨z,its,n,r,hl,e⟩:=I.lstM hH;obtain⟨z2,its2,n2,r2,hl2,e2⟩:=I.lstM hB;have hsz:its.toArray.size+its2.toArray.size<=pA:=by rw[ak,ak];lia
 have hlong:¬ (!its.toArray.isEmpty && Builtin.List.listTooLong (its.toArray.size+its2.toArray.size))=tI:=by
  rw[QT hsz,eC];exact aB
 refine call_meets F.slot_list_extend #[_,e,rfl] F.entry_list_extend (F.args_list_extend_2 _ _)
  (AutoSeq1.list_extend_list_list_0 l its.toArray n b its2.toArray n2 hlong (by rw[ak];lia) ⋯) #[e,e2,?_]
 refine#[.non,_,I.lset (its':=its ++ its2) hH e (by simp) (r.append r2) ?_,rfl,q];rw[ah];lia
def zcZ:V->List V->Hp->VK->Prop:=λx vs H Q=>∃l xs i k y,x=.ref l/\vs=[.int i]/\H l=tG (.lst xs)/\-(2 ^ 63)<=i/\i<2 ^ 63/\seqIndex? i xs.length=tG k/\xs[k]? = tG y/\Q y (upd H l (.lst (xs.eraseIdx k)))
theorem JC:MtM X "list.pop" zcZ:=by
 intro tK s σ H x vs v us Q I rx rv h;obtain⟨l,xs,i,k,y,rfl,rfl,hH,h1,h2,hk,hy,q⟩:=h;cases rx;obtain⟨u,rfl,ru⟩:=rv.one;obtain⟨t,rfl⟩:=ru;obtain⟨z,its,n,r,hl,e⟩:=I.lstM hH;obtain⟨w,hw,rw'⟩:=r.get hy
 refine call_meets F.slot_list_pop #[_,e,rfl] F.entry_list_pop (F.args_list_pop_2 _ _)
  (MeetsSeq.list_pop_at l its.toArray n i t k w (fitsIndex_both h1 h2) (by rw[ak,<- hl];exact hk) (by rw[<- Array.getElem?_toList];exact hw) (by rw[ak];lia)) #[e,?_]
 refine#[y,_,I.lset (its':=its.eraseIdx k) hH e ?_ (r.eraseIdx k) ?_,rw',q]
 ·show its.toArray.eraseIdxIfInBounds k=(its.eraseIdx k).toArray;rw[List.eraseIdxIfInBounds_toArray]
 ·have:=ZH xs k;lia
def zbh:R2:=λx y H Q=>onRef x λl=>onRef y λb=>∃xs,H l=tG (.lst xs)/\∃zs,H b=tG (.lst zs)/\xs.length+zs.length<=pA/\∀p,H p=tH->Q (.ref p) (upd H p (.lst (xs ++ zs)))
theorem VO:OpR X (binaryOp .Add) zbh:=by
 intro tK s σ H x y v u Q I rx ry h;obtain⟨l,rfl,h2⟩:=onRef.of h;obtain⟨b,rfl,xs,hH,zs,hB,hz,q⟩:=onRef.of h2;cases rx;cases ry;obtain⟨z,its,n,r,hl,e⟩:=I.lstM hH;obtain⟨z2,its2,n2,r2,hl2,e2⟩:=I.lstM hB;refine PySem.P.add_list e e2 ?_ (by rw[ak,ak];lia);have ea:its.toArray ++ its2.toArray=(its ++ its2).toArray:=by simp
 rw[ea];exact#[.ref _,_,I.lnew (t':=s.toks) (r.append r2) (by rw[ah];lia),rfl,q _ I.fresh]
theorem len_rep{α:Type}(xs:List α)(k:Nat):(am k xs).flatten.length=k * xs.length:=by
 induction k with
 | zero=>simp
 | succ k ih=>rw[bQ,cU,ah,ih,eQ,Nat.add_comm]
end
section
variable{prog:pH}{w:pK}{A:pL}{E:pD->pE->Prop}{s:pE}
end
section
variable{X:Cx}
end
end L2
namespace Att
open PySem PySem.W PySem.Calls PyProof.Rows
theorem qz{P:Params}{h:pN}:∀(ns:List Int) (vs:List pD),WellAll P h vs (ns.map WData.int)->sX vs ns:=by
 intro ns
 induction ns with
 | nil =>
  intro vs w;rw[aJ]at w;cases w;exact .nil
 | cons n ns ih =>
  intro vs w;rw[ar]at w
  cases w with
  | cons a b =>
   cases a;exact .cons _ _ (ih _ b)
theorem script_of{l:OpenLaw}{n:Nat}(hn:l.most=tG n){P:Params}{h:pN}{args:List WData}{vals:List pD}
  (hpre:l.row.toRowW.claim.pre args=tI) (hwl:WellAll P h vals args) :
  ∃a vs ns,vals=[Value.ref a]/\args=[WData.list (ns.map WData.int)]/\h.get? a=tG { cls:=.type "list",data:=.seq vs.toArray }/\sX vs ns/\ns.length<=n:=by
 have hsh:WShape.hasAll [] args [.list .int]=tI:=(pre_splitW hpre).1;have hc:l.pre.holds [] { args:=args }=tI:=(pre_splitW hpre).2;obtain⟨d,r,rfl,h1,h2⟩:=hasAllW_cons hsh;obtain rfl:=hasAllW_nil h2;obtain⟨xs,rfl,h3⟩:=hasW_list h1;obtain⟨ns,rfl⟩:=items_int h3
 have hlen:ns.length<=n:=by
  unfold OpenLaw.pre at hc
  have h4:(WTm.not (.lt (.lit (.int (n:Int))) (.len (.arg 0)))).holds [] { args:=[.list (ns.map .int)] }=tI:=by
   have h4:=(holds_andW hc).1;rw[hn]at h4;exact h4
  have h5:=condW_of h4 (w_not (w_lt w_lit (w_len_list (w_arg rfl))));rw[aa]at h5;refine da λq=>?_;have q':(n:Int)<((ns.length:Nat):Int):=⋯
  first
   | (rw[decide_eq_true q']at h5;exact absurd h5 ∅)
   | (simp at h5;lia)
 cases hwl with
 | cons w1 w2 =>
  cases w2
  cases w1 with
  | list ho hall=>exact#[_,_,ns,rfl,rfl,ho,qz ns _ hall,hlen]
theorem post_true(l:OpenLaw)(args:List WData):l.row.toRowW.claim.post args (.bool tI) args=tI :=
 postW_of (r:=l.row.toRowW) (X:=(tI == tI))
  (show WShape.has [] (.bool tI) .bool=tI by first | rfl | decide | simp [WShape.has,WShape.arms,WShape.armsAll])
  (show (WTm.eq .res (.lit (.bool tI))).value [] { args:=args,res:=tG (.bool tI),after:=args }=tG (.bool (tI == tI))from w_eq_bool (w_res rfl) w_lit) rfl
section
variable{prog:pH}{w:pK}{A:pL}{E:pD->pE->Prop}{s:pE}{K:Frag}
noncomputable def zeD(h:pN)(L d:pC):List (pC × rb):=(aW h.objs.size).filterMap λa=>if a=L\/a=d then tH else (h.get? a).map λo=>(a,o)
end
end Att
namespace L2
theorem Zx:∀{vs:List pD} {ns:List Int},sX vs ns->Vals (ns.map V.int) vs
 | _,_,.nil=>.nil
 | _,_,.cons n t h=>.cons #[t,rfl] (Zx h)
noncomputable def yY(s:pQ)(j:Nat):pQ:=match s with
 | .ClassDef _ _ _ body _ _ _ _ _ _ _=>body.getD j (.Pass #[0,0,0,0])
 | _=>.Pass #[0,0,0,0]
noncomputable def yx(s:pQ):rA:=match s with
 | .FunctionDef _ a _ _ _ _ _ _ _ _=>a
 | _=>{ posonlyargs:=[],args:=[],vararg:=tH,kwonlyargs:=[],kw_defaults:=[],kwarg:=tH,defaults:=[] }
noncomputable def zX(s:pQ):List pQ:=match s with
 | .FunctionDef _ _ b _ _ _ _ _ _ _=>b
 | _=>[]
noncomputable def zg(s:pQ):rf:=match s with
 | .FunctionDef _ _ _ _ _ _ sc _ _ _=>sc
 | _=>{ kind:=.function,names:=[],isGenerator:=tJ,isCoroutine:=tJ }
abbrev CX0:CXT:=λ_ _ _ _ _ _=>False
noncomputable abbrev E0:XK:=λ_ _ _=>False
theorem YG{X:Cx}:uw CX0 X E0:=λ_ _ _ _ _ _ _ h=>h.elim
structure Fun(K:pB)(x qual:pJ)(st:pQ)(f:pC)(fd:pG):Prop where
 ex:∃(oc:pD) (od:Option pC) (kV doc pm:pD) (an:Option pC) (cdv ct:pD) (osl:Array (Option pD)),
  fd=bB x qual (yx st) (zX st) (zg st) .none kV doc pm an cdv ct/\K.lookup f=tG #[oc,od,.func fd,osl]/\bN K cdv qual=tI
 kp:aL K (.ref f)=tI
section
variable{P:pH}{w:pK}{K:pB}{mg:pJ->Option pD}{base:pN}
theorem Fun.ok{x qual:pJ}{st:pQ}{f:pC}{fd:pG}{N ps:List pJ}{k:Nat}{sp:Sp}(F:Fun K x qual st f fd)(S:zo N ps (zg st))(len:∀vs H Q E,sp vs H Q E->vs.length=ps.length)
  (hbody:∀(cdv:pD) (A:pL) (outer:List sx) (s:pE) (H:Hp) (vs:List V) (Q:VK) (E:XK),Room k (A.deeper (rX qual (zg st) s⁻¹ f cdv))->sp vs H Q E ->
   ∃t,PSs (uP CX0 P w K mg base N qual (zg st) f cdv A outer s H E).nox (zX st) t/\t { nx:=λ_ H'=>Q .non H',rt:=Q } (start N vs) H):FnOk P w K mg base CX0 (k+1) f fd ps sp:=by
 obtain⟨oc,od,kV,doc,pm,an,cdv,ct,osl,rfl,lk,hcd⟩:=F.ex;refine Qd lk hcd S len λA outer s H vs Q E hr hsp=>?_;obtain⟨t,h,q⟩:=hbody cdv A outer s H vs Q E hr hsp;exact#[t,h.nox,q]
theorem Fun.binds{x qual:pJ}{st:pQ}{f:pC}{fd:pG}{ps:List pJ}(F:Fun K x qual st f fd)
  (h:∀(kV doc pm:pD) (an:Option pC) (cdv ct:pD) (us:List pD),us.length=ps.length->bindArgs (bB x qual (yx st) (zX st) (zg st) .none kV doc pm an cdv ct) #[us,[]]=pure (ps.zip us)):Binds K fd ps []:=by
 obtain⟨oc,od,kV,doc,pm,an,cdv,ct,osl,rfl,lk,hcd⟩:=F.ex;exact .all (h kV doc pm an cdv ct)
theorem fun_mk{x qual:pJ}{st:pQ}{f:pC}{oc:pD}{od an:Option pC}{osl:Array (Option pD)}{kV doc pm cdv ct:pD}(l:K.lookup f=tG #[oc,od,.func (bB x qual (yx st) (zX st) (zg st) .none kV doc pm an cdv ct),osl])
  (c:bN K cdv qual=tI) (k:aL K (.ref f)=tI):Fun K x qual st f (bB x qual (yx st) (zX st) (zg st) .none kV doc pm an cdv ct):=#[#[oc,od,kV,doc,pm,an,cdv,ct,osl,rfl,l,c],k]
end
section
variable{X:Cx}
theorem pv(i:Nat){x:pJ}{pos:rj}(hN:X.N[i]? = tG x:=by rfl)(hv:Vis X.env.scope x:=by first | exact Or.inl rfl | exact Or.inr (.inl rfl) | exact Or.inr (Or.inr rfl))(hd:(x ==("__debug__" : pJ))=tJ:=by decide)
  (hcd:(x ==("__classdict__" : pJ))=tJ:=by decide):PE X (.Name x pos) (zZ i):=zb2 hN hv hd hcd
end
theorem ze1{A B:Prop}(h:A):if tI=tI then A else B:=by
 rw[if_pos rfl];exact h
theorem yA{c A B:Prop}[Decidable c](h1:c->A)(h2:¬ c->B):if c then A else B:=by
 by_cases h:c
 ·rw[if_pos h];exact h1 h
 ·rw[if_neg h];exact h2 h
def Same(H H':Hp):Prop:=∀b o,H b=tG o->H' b=tG o
theorem Same.refl(H:Hp):Same H H:=λ_ _ h=>h
theorem Same.trans{H H1 H2:Hp}(a:Same H H1)(b:Same H1 H2):Same H H2:=λc o h=>b c o (a c o h)
theorem Same.free{H H':Hp}(e:Same H H'){l:pC}(h:H' l=Option.none):H l=Option.none:=by
 cases q:H l with
 | none=>rfl
 | some o =>
  rw[e l o q]at h;cases h
theorem Same.seq{K:pB}{H H':Hp}{a:pC}{xs:List V}(e:Same H H')(h:SqL K H a xs):SqL K H' a xs:=by
 rcases h with (h | ⟨o,h⟩) | h
 ·exact .inl (.inl (e _ _ h))
 ·exact .inl (.inr #[o,e _ _ h])
 ·exact .inr h
end L2
open L2
namespace L3
noncomputable abbrev St:=L2.St
noncomputable abbrev cs(x:pJ):():=x.cps.toList
noncomputable abbrev tx(l:()):pJ:=⟨l.toArray⟩
theorem zcd(x:pJ):tx (cs x)=x:=by cases x;rfl
theorem Yg(l:()):cs (tx l)=l:=rfl
theorem Xg(x:pJ):x.length=(cs x).length:=by simp [Str.length,cs]
theorem zV(l:()):(tx l).length=l.length:=by simp [Str.length,tx]
theorem Zp{x y:pJ}(h:cs x=cs y):x=y:=by rw[<- zcd x,<- zcd y,h]
theorem jq{l m:()}(h:tx l=tx m):l=m:=by rw[<- Yg l,<- Yg m,h]
theorem zcV{l m:()}:tx l=tx m ↔ l=m:=#[jq,λh=>by rw[h]]
theorem wK(l m:()):tx l ++ tx m=tx (l ++ m):=by
 apply Zp;show (tx l ++ tx m).cps.toList=l ++ m;rw[Str.cps_append];simp
noncomputable def cut{α:Type}(l:List α)(lo hi:Option Int):List α:=(l.drop (HT.sIx l.length 0 lo)).take (HT.sIx l.length l.length hi - HT.sIx l.length 0 lo)
theorem wC{α:Type}(l:List α)(lo hi:Option Int):(cut l lo hi).length<=l.length:=by
 unfold cut;rw[aF,bi];lia
theorem VD(a b:Nat):sliceRange (a:Int) (b:Int) 1=(aW (b - a)).map (λk=>a+k):=by
 unfold sliceRange
 have e:(if (1:Int) > 0 then (if (a:Int)<b then ((b:Int) - a+1 - 1) / 1 else 0)else (if (a:Int) > b then ((a:Int) - b - 1 - 1) / (-1)else 0)).toNat=b - a:=by
  rw[if_pos ∅];by_cases h:(a:Int)<b
  ·rw[if_pos h,Int.ediv_one];lia
  ·rw[if_neg h];lia
 show (aW ((if (1:Int) > 0 then (if (a:Int)<b then ((b:Int) - a+1 - 1) / 1 else 0)else (if (a:Int) > b then ((a:Int) - b - 1 - 1) / (-1)else 0)).toNat)).map _=_;rw[e];refine bw λk _=>?_;lia
theorem zao(lo hi:Option Int)(n:Nat):Builtin.Str.strSliceIndices lo hi 1 n=(aW (HT.sIx n n hi - HT.sIx n 0 lo)).map (λk=>HT.sIx n 0 lo+k):=by
 rw[<- VD]
 have clip:∀(v:Int) (d:Nat),max 0 (min (if v<0 then v+(n:Int)else v) (n:Int))=((HT.sIx n d (tG v):Nat):Int):=λv d=>by
  show _=(((if v<0 then (v+(n:Int)).toNat else min v.toNat n):Nat):Int);by_cases hv:v<0
  ·erw[if_pos hv];lia
  ·erw[if_neg hv];lia
 have h1:((1:Int) > 0)=True:=by simp
 unfold Builtin.Str.strSliceIndices
 cases lo with
 | none =>
  cases hi with
  | none=>erw[h1,if_true];rfl
  | some j=>erw[h1,if_true,clip j n];rfl
 | some i =>
  cases hi with
  | none=>erw[h1,if_true,clip i 0];rfl
  | some j=>erw[h1,if_true,clip i 0,clip j n]
theorem U7(x:pJ)(lo hi:Option Int):Txt.slice x lo hi=tx (cut (cs x) lo hi):=by
 have hn:x.length=x.cps.toList.length:=Xg x;have hj:HT.sIx x.length x.length hi<=x.length:=HT.sIx_le _ _ (al _) hi;have hi0:HT.sIx x.length 0 lo<=x.length:=HT.sIx_le _ _ (aG _) lo;unfold Txt.slice;rw[zao];split
 ·rename_i h;have h':HT.sIx x.length x.length hi - HT.sIx x.length 0 lo=x.length:=by simpa using h
  apply Zp;show x.cps.toList=cut x.cps.toList lo hi;unfold cut;rw[<- hn];by_cases z:x.length=0
  ·have:x.cps.toList=[]:=d8 ⋯;rw[this];simp
  ·have e0:HT.sIx x.length 0 lo=0:=⋯;rw[e0]at h' ⊢;rw[h',eD,hn,aK]
 ·apply Zp;have h:=StrLaws.picks x.cps.toList (HT.sIx x.length x.length hi - HT.sIx x.length 0 lo) (HT.sIx x.length 0 lo) ⋯;show (List.filterMap (λk=>x.cps[k]?) _).toArray.toList=cut x.cps.toList lo hi;unfold cut;rw[<- hn];simpa using h
section
variable{X:Cx}
theorem Uq{v:pD}{o:Option Int}(p:IsPart v o):∃l:Option (Int × si),v=partValue l/\l.map (·.1)=o:=by
 cases p with
 | none=>exact#[tH,rfl,rfl]
 | int i t=>exact#[tG (i,t),rfl,rfl]
def zbU:V->Option Int->Option Int->Hp->VK->Prop:=λx lo hi H Q=>onStr x λz=>z.length<=pA/\Q (.str (tx (cut (cs z) lo hi))) H
theorem wl:SlR X zbU:=by
 intro tK s σ H x v vl vu lo hi sl Q I rx hs pl pu h;obtain⟨z,rfl,hz,q⟩:=onStr.of h;obtain⟨t,rfl⟩:=rx;obtain⟨l,rfl,el⟩:=Uq pl;obtain⟨u,rfl,eu⟩:=Uq pu;refine#["str",_,slot_str_getitem.lookup,typeIs_str s z t,?_];refine so (l:=l) (u:=u) (st:=tH) hs rfl ?_;have e:Txt.slice z lo hi=tx (cut (cs z) lo hi):=U7 z lo hi;have hl:(tx (cut (cs z) lo hi)).length<=pA:=by rw[zV];have:=wC (cs z) lo hi;rw[<- Xg]at this;lia
 unfold sliceMade slicePicked;rw[el,eu];unfold Txt.slice at e;by_cases hc:((1:Int) == 1 && (Builtin.Str.strSliceIndices lo hi 1 z.length).length == z.length)=tI
 ·rw[if_pos hc]at e;have hc':(((tH:Option (Int × si)).map (·.1)).getD 1 == 1 && (Builtin.Str.strSliceIndices lo hi (((tH:Option (Int × si)).map (·.1)).getD 1) z.length).length == z.length)=tI:=hc;rw[if_pos hc'];exact#[.str (tx (cut (cs z) lo hi)),H,I,#[t,by rw[<- e]],q]
 ·rw[if_neg hc]at e;have hc':¬ (((tH:Option (Int × si)).map (·.1)).getD 1 == 1 && (Builtin.Str.strSliceIndices lo hi (((tH:Option (Int × si)).map (·.1)).getD 1) z.length).length == z.length)=tI:=hc;rw[if_neg hc'];show (Str.mk ((Builtin.Str.strSliceIndices lo hi 1 z.length).filterMap (z.cps[·]?)).toArray).length<=pA/\_;rw[e];refine#[hl,?_]
  exact#[.str (tx (cut (cs z) lo hi)),H,I.tok _,#[_,by
   show Value.str (Str.mk ((Builtin.Str.strSliceIndices lo hi 1 z.length).filterMap (z.cps[·]?)).toArray) _=_
   rw[e]],q]
theorem X9(l:()):∀(k:Nat) (tM:Array Nat),((am k l.toArray).foldl (· ++ ·) tM).toList=tM.toList ++ (am k l).flatten
 | 0,tM=>by simp
 | k+1,tM=>by
  rw[bQ,List.foldl_cons,X9 l k,bQ,cU];simp
theorem WC:OpR X (binaryOp .Mult) (λx y H Q=>∃z n,x=.str z/\y=.int n/\0<=n/\n<=1000/\z.length<=1000/\Q (.str (tx (am n.toNat (cs z)).flatten)) H):=by
 intro tK s σ H x y v u Q I rx ry h;obtain⟨z,n,rfl,rfl,h0,h1,hz,q⟩:=h;obtain⟨t,rfl⟩:=rx;obtain⟨t',rfl⟩:=ry;have hs:pA=16777216:=pY;have hmul:z.length * n.toNat<=1000 * 1000:=Nat.mul_le_mul hz ⋯;have fl:((am n.toNat (cs z)).flatten).length=n.toNat * z.length:=by rw[L2.len_rep,<- Xg]
 refine PySem.P.mul_str ?_ (λ_ _=>?_) (λ_ _=>?_) ?_
 ·rw[decide_eq_false ⋯,decide_eq_false ⋯];rfl
 ·have:(1000:Int)<=(2 ^ 63 - 1) / n:=by
   apply Int.le_ediv_of_mul_le ⋯;lia
  lia
 ·unfold Builtin.Str.tooLong;exact decide_eq_false ⋯
 ·by_cases c1:n<1
  ·rw[if_pos c1];have e:n.toNat=0:=⋯;rw[e]at q;exact#[∅,.str (tx []),H,I.tok _,#[_,rfl],q]
  ·rw[if_neg c1];by_cases c2:(n == 1 || z.length == 0)=tI
   ·rw[if_pos c2]
    have e:tx (am n.toNat (cs z)).flatten=z:=by
     rw[Bool.or_eq_true]at c2;rcases c2 with c | c
     ·have:n.toNat=1:=by have:=eq_of_beq c;lia
      rw[this]
      erw[List.replicate_one,List.flatten_singleton]
     ·have c0:z.length=0:=eq_of_beq c;have:cs z=[]:=d8 (by rw[<- Xg];exact c0);apply Zp;rw[this];show (am n.toNat ([]:())).flatten=[]
      erw[List.flatten_replicate_nil]
    rw[e]at q;exact#[.str z,H,I,#[_,rfl],q]
   ·rw[if_neg c2]
    have e:(⟨(am n.toNat z.cps).foldl (· ++ ·) #[]⟩:pJ)=tx (am n.toNat (cs z)).flatten:=by
     apply Zp;have:=X9 (cs z) n.toNat #[];have e2:(cs z).toArray=z.cps:=by cases z;rfl
     rw[e2]at this;show (List.foldl (· ++ ·) #[] (am n.toNat z.cps)).toList=(am n.toNat (cs z)).flatten;rw[this];rfl
    rw[e];refine#[by rw[zV,fl,Nat.mul_comm];lia,.str _,H,I.tok _,#[_,rfl],q]
theorem W5:OpR X (pR .LtE) (λx y H Q=>∃i j,x=.str i/\y=.str j/\Q (.bl (!(decide (cs j<cs i)))) H):=by
 intro tK s σ H x y v u Q I rx ry h;obtain⟨i,j,rfl,rfl,q⟩:=h;obtain⟨t,rfl⟩:=rx;obtain⟨t',rfl⟩:=ry;exact PySem.P.le_str #[.bl _,H,I,rfl,q]
theorem Qj:MtR X "str.count" (λx xs H Q=>∃z y,x=.str z/\xs=[.str y]/\Q (.int (Txt.count z y)) H):=by
 intro tK s σ H x xs v us Q I rx rv h;obtain⟨z,y,rfl,rfl,q⟩:=h;obtain⟨t,rfl⟩:=rx;obtain⟨u,rfl,t',rfl⟩:=xz rv;exact PySem.SC.count #[.int _,H,I.tok _,#[_,rfl],q]
theorem K8:MtR X "str.find" (λx xs H Q=>∃z y,x=.str z/\xs=[.str y]/\Q (.int (Txt.find z y)) H):=by
 intro tK s σ H x xs v us Q I rx rv h;obtain⟨z,y,rfl,rfl,q⟩:=h;obtain⟨t,rfl⟩:=rx;obtain⟨u,rfl,t',rfl⟩:=xz rv;exact PySem.SC.find #[.int _,H,I.tok _,#[_,rfl],q]
end
section
variable{X:Cx}{tK:List (pC × rb)}{σ:St}{H:Hp}{s:pE}{fp:List pC}{h':pN}{t':Nat}
theorem Inv.turns(I:Inv X tK σ H s)(k:∀b o,b ∉ fp->s.heap.get? b=tG o->h'.get? b=tG o)(hf:∀b ∈ fp,wf X tK H b):Inv X tK σ H { s with heap:=h',toks:=t' }:=by
 have nit:∀b u,H b=tG u->b ∉ fp:=λb u e z=>by rw[(hf b z).1]at e;cases e
 refine I.step (g':=s.gens) (d':=s.drawn) (ch:=fp) (λb hb=>?_) (λb o _ _ hc e _=>k b o hc e) (λb o _ _ hc e _=>#[o.slots,k b o hc e]) (λ_ _ _ _ n=>n)
  (λb o hc e=>#[o,k b o hc e]) (λ_ _ e=>e) (λ_ _ _ e=>e) (λb ps e=>#[#[],by rw[e];simp]) (λm hm=>?_) (λb u e=>?_) I.bare
 ·obtain⟨_,a1,_,a3,a4,a5⟩:=hf b hb;exact#[a3,a1,a4,a5]
 ·obtain⟨o,es,ep,ho,r⟩:=hm;exact#[o,es,ep,k _ o (λz=>(hf _ z).2.1 rfl) ho,r]
 ·refine (I.hok b u e).stay (λc v hc q=>k c v ?_ q) (λ_ q=>q) λ_ _ q=>q;rcases hc with z | z
  ·rw[z];exact nit b u e
  ·exact nit c _ z
theorem Inv.track{a:pC}{o:HO}(I:Inv X tK σ H s)(fa:wf X tK H a)(new:ObjOk X.prog X.w (upd H a o) s.heap a o):Inv X tK σ (upd H a o) s:=by
 obtain⟨a0,a1,a2,a3,a4,a5⟩:=fa;have e:s={ s with heap:=s.heap,gens:=s.gens,drawn:=s.drawn,toks:=s.toks }:=rfl;rw[e]
 refine I.step (g':=s.gens) (d':=s.drawn) (ch:=[a]) (λb hb=>?_) (λb o _ _ _ e _=>e) (λb o _ _ _ e _=>#[o.slots,e]) (λb o hc _ n=>?_)
  (λb o _ e=>#[o,e]) (λb xs e=>?_) (λb u xs e=>?_) (λb ps e=>?_) (λm hm=>hm) (λb u e=>?_) I.bare
 ·have eb:b=a:=by simpa using hb
  subst eb;exact#[a3,a1,a4,a5]
 ·rw[zk (by simpa using hc)];exact n
 ·rw[zk (zD e a0)];exact e
 ·rw[zk (zD e a0)];exact e
 ·exact#[#[],by rw[zk (zD e a0),e];simp]
 ·by_cases hb:b=a
  ·subst hb;rw[zc]at e;cases e;exact new
  ·rw[zk hb]at e;exact (I.hok b u e).stay (λc v _ q=>q) (λc q=>by rw[zk (zD q a0)];exact q) λc xs q=>by rw[zk (zD q a0)];exact q
end
noncomputable def Its(x:pJ):It:=#[λi _=>i<(cs x).length,λi H v H'=>H'=H/\∃c,(cs x)[i]? = tG c/\v=.str (tx [c]),λi _=>i=(cs x).length]
theorem Ja{P:pH}{w:pK}{K:pB}{tg:pM}{ty:String}(hty:["enumerate","zip","dict_itemiterator","dict_reverseitemiterator","odict_iterator","itertools.zip_longest","itertools.pairwise"].contains ty=tJ)(it:pC)(x:pJ)(t:si)
  (W:∀A:pL,A.handled=tH->Walks P w A it [it] [it] x.cps.size (SignAt x) λi h=>h.IsStrIter it ty x t i)
  (S:∀(A:pL) (i:Nat) (s:pE) (Q:pD->pE->Prop) (E:pD->pE->Prop),s.heap.IsStrIter it ty x t i->Q (.ref it) s->pF (model P w) A (pyIter (.ref it)) Q E s) :
  Q7 P w K tg (Its x) [it] it (λi h=>h.IsStrIter it ty x t i) where
 mem:=by simp
 obj:=λi h st b hb=>by
  have e:b=it:=by simpa using hb
  subst e;obtain⟨o,e,c,d⟩:=st;exact#[o,e,λv z=>by rw[d]at z;cases z]
 keep:=λi h h' st k=>let #[o,e,r]:=st; #[o,k it (by simp) o e,r]
 item:=by
  intro X hP hw hK hc i tK s σ H E I hf st hg;subst hP hw hK;obtain⟨f0,f1,f2,f3,f4,f5⟩:=hf it (by simp);have hg':i<x.cps.size:=by have:i<x.cps.toList.length:=hg;simpa using this
  refine (W X.A (I.ok.hd hc)).item i s _ _ hg' st λv h' tk hv st' kk=>?_;obtain⟨c,u,hcc,rfl⟩:=hv;have I1:Inv X tK σ H { s with heap:=h',toks:=tk }:=I.turned (λb o hb e=>kk b o (by simpa using hb) e) f0 f1 f3 f4 f5;obtain⟨o,e,cl,d⟩:=id st';refine#[_,rfl,Q8 (s:={ s with heap:=h',toks:=tk }) e cl d hty #[.str (tx [c]),H,I1,#[u,rfl],#[rfl,c,?_,rfl],st',λb hb=>(hf b hb).1]];show x.cps.toList[i]? = tG c;simpa using hcc
 done:=by
  intro X hP hw hK hc i tK s σ H E I hf st hg;subst hP hw hK;obtain⟨f0,f1,f2,f3,f4,f5⟩:=hf it (by simp);have hi:i=x.cps.size:=by have:i=x.cps.toList.length:=hg;simpa using this
  rw[hi]at st;exact (W X.A (I.ok.hd hc)).done s _ _ st λh' tk kk=>#[rfl,I.turned (λb o hb e=>kk b o (by simpa using hb) e) f0 f1 f3 f4 f5]
 self:=λA i s Q E st h=>S A i s Q E st h
section
variable{X:Cx}{tg:pM}
def zdZ(tl:TE):TI:=λσ H R=>tl σ H λv H1=>∃x,v=.str x/\R (Its x) H1
theorem ZR{l:pM}{tl:TE}(hl:PE X l tl):PI X tg l (zdZ tl):=by
 intro tK s σ H R I h;refine thn (hl tK s σ H _ I h) λv s1 ⟨y,H1,I1,r1,q1⟩=>?_;obtain⟨x,e,q⟩:=q1;subst e;obtain⟨t,rfl⟩:=r1
 have fin:∀(ty:String) (hty:["enumerate","zip","dict_itemiterator","dict_reverseitemiterator","odict_iterator","itertools.zip_longest","itertools.pairwise"].contains ty=tJ)
   (W:∀A:pL,A.handled=tH->Walks X.prog X.w A s1⁻¹ [s1⁻¹] [s1⁻¹] x.cps.size (SignAt x) λi h=>h.IsStrIter s1⁻¹ ty x t i)
   (S:∀(A:pL) (i:Nat) (s:pE) (Q:pD->pE->Prop) (E:pD->pE->Prop),s.heap.IsStrIter s1⁻¹ ty x t i->Q (.ref s1⁻¹) s->pF (model X.prog X.w) A (pyIter (.ref s1⁻¹)) Q E s),
   PIE X tK σ tg R (.ref s1⁻¹) { s1 with heap:=s1.heap.push { cls:=.type ty,data:=.fields (List.toArray [.str x t,.int 0 0]) } }:=λty hty W S=>by
  refine#[s1⁻¹,[s1⁻¹],_,_,H1,rfl,I1.kept (t':=s1.toks) λb o e=>ac _ e,Ja hty _ x t W S,#[_,aC _ rfl,rfl,rfl],λb hb=>?_,q];have e:b=s1⁻¹:=by simpa using hb
  subst e;exact I1.fpOk (al _) (I1.hok.fresh (al _))
 cases ha:x.cps.all (· < 128)
 ·exact wpAny_pyIter_wide ha (fin "str_iterator" ∅ (λA hA=>Walks.strWide hA _ x t) λA i s Q E st h=>wpAny_pyIter_striter_wide st h)
 ·exact wpAny_pyIter_ascii ha (fin "str_ascii_iterator" ∅ (λA hA=>Walks.strAscii hA _ x t) λA i s Q E st h=>wpAny_pyIter_striter_ascii st h)
end
theorem zaa{x:pJ}{g:TG}{tb:TS}{D:w4}{σ:St}{H:Hp}(Pv:Nat->St->Hp->Prop)(h0:Pv 0 σ H)
  (hs:∀i c σ H,(cs x)[i]? = tG c->Pv i σ H->g (.str (tx [c])) σ H λσ2 H2=>tb { D with nx:=Pv (i+1),ct:=Pv (i+1),bk:=D.nx } σ2 H2) (hd:∀σ H,Pv (cs x).length σ H->D.nx σ H) :
  ∃W:Nat->Nat->St->Hp->Prop,(∃m,W 0 m σ H)/\∀i m σ H,W i m σ H ->
   ((Its x).stop i H/\D.nx σ H)\/((Its x).go i H/\∃N:St->Hp->Prop,(∀σ' H',N σ' H'->∃m',m'<m/\W (i+1) m' σ' H')/\∀v H',(Its x).yld i H v H'->g v σ H' λσ2 H2=>tb { D with nx:=N,ct:=N,bk:=D.nx } σ2 H2):=by
 refine#[λi m σ H=>m=(cs x).length - i/\i<=(cs x).length/\Pv i σ H,#[(cs x).length,by simp,aG _,h0],?_];rintro i m σ H ⟨rfl,hi,p⟩;by_cases hlt:i<(cs x).length
 ·refine .inr #[hlt,Pv (i+1),λσ' H' p'=>#[(cs x).length - (i+1),⋯,rfl,hlt,p'],λv H' y=>?_];obtain⟨e,c,hc,ev⟩:=y;subst e ev;exact hs i c σ _ hc p
 ·have e:i=(cs x).length:=⋯;subst e;exact .inl #[rfl,hd σ H p]
noncomputable def Ite(x:pJ):It:=#[λi _=>i<(cs x).length,λi H v H'=>∃p c,H p=tH/\(cs x)[i]? = tG c/\v=.ref p/\H'=upd H p (.tup [.int (i:Nat),.str (tx [c])]),λi _=>i=(cs x).length]
theorem UB{P:pH}{w:pK}{K:pB}{elts:List pM}{x1:Nat}{tpos:rj}{ty:String}(e it:pC)(hei:e≠it)(x:pJ)(t:si)
  (D:∀A:pL,A.handled=tH->Draws P w A it [it] x.cps.size (λi v=>∃c u,x.cps[i]? = tG c/\v=.str ⟨#[c]⟩ u) λi h=>h.IsStrIter it ty x t i) :
  Q7 P w K (.Tuple elts x1 tpos) (Ite x) [e,it] e (λi h=>(∃old,IsEnum h e it i old)/\h.IsStrIter it ty x t i) where
 mem:=by simp
 obj:=λi h st b hb=>by
  obtain⟨⟨old,he⟩,o,e2,c,d⟩:=st;rcases tP.mp hb with q | q
  ·subst q;exact#[_,he,λv z=>by have z':Data.fields _=Data.cell v:=z;cases z']
  ·have q':b=it:=by simpa using q
   subst q';exact#[o,e2,λv z=>by rw[d]at z;cases z]
 keep:=λi h h' st k=>by
  obtain⟨⟨old,he⟩,o,e2,r⟩:=st;exact#[#[old,k e (by simp) _ he],o,k it (by simp) o e2,r]
 item:=by
  intro X hP hw hK hc i tK s σ H E I hf st hg;subst hP hw hK;obtain⟨⟨old,he⟩,st⟩:=st;have hg':i<x.cps.size:=by have:i<x.cps.toList.length:=hg;simpa using this
  have hA:X.A.in1.handled=tH:=I.ok.hd hc;refine sk (D X.A.in1 hA) he st hg' hei (by simpa using hei) λv h' tk hv ho st' hT hsz kk=>?_;obtain⟨c,u,hcc,rfl⟩:=hv;refine#[_,rfl,rZ ho λh2 he2 sb=>?_];have elt:e<s⁻¹:=au he;have ilt:it<s⁻¹:=by obtain⟨o,q,_⟩:=st;exact au q
  have I1:Inv X tK σ H { s with heap:=h2,toks:=tk+1 }:=Inv.turns (fp:=[e,it]) I (λb o hb q=>by
   have hb':b≠e/\b≠it:=by simpa using hb
   exact (sb.2 b hb'.1).trans (kk b o hb'.1 hb'.2 q)) hf
  have hp:H s⁻¹=tH:=I.hok.fresh (al _);have hT2:h2.get? s⁻¹=tG { cls:=.type "tuple",data:=.seq (List.toArray [.int (i:Nat) tk,.str ⟨#[c]⟩ u]) }:=(sb.2 _ (bW elt)).trans hT
  have I2:Inv X tK σ (upd H s⁻¹ (.tup [.int (i:Nat),.str (tx [c])])) { s with heap:=h2,toks:=tk+1 } :=
   Inv.track I1 (I.fpOk (al _) hp) #[by show 2<=pA;decide,[.int (i:Nat) tk,.str ⟨#[c]⟩ u],.cons #[_,rfl] (.cons #[_,rfl] .nil),#[_,hT2,rfl,_,rfl]]
  refine#[.ref s⁻¹,_,I2,rfl,#[s⁻¹,c,hp,?_,rfl,rfl],#[#[_,by simpa using he2],?_],λb hb=>?_]
  ·show x.cps.toList[i]? = tG c;simpa using hcc
  ·obtain⟨o,q,r⟩:=st';exact#[o,(sb.2 it (Ne.symm hei)).trans q,r]
  ·rw[zk]
   ·exact (hf b hb).1
   ·rcases tP.mp hb with q | q
    ·rw[q];exact ax elt
    ·have q':b=it:=by simpa using q
     rw[q'];exact ax ilt
 done:=by
  intro X hP hw hK hc i tK s σ H E I hf st hg;subst hP hw hK;obtain⟨⟨old,he⟩,st⟩:=st;have hi:i=x.cps.size:=by have:i=x.cps.toList.length:=hg;simpa using this
  have hA:X.A.in1.handled=tH:=I.ok.hd hc;rw[hi]at st;refine su (D X.A.in1 hA) he st λh' hx=>#[rfl,?_];exact Inv.turns (fp:=[e,it]) (t':=s.toks) I (λb o hb q=>hx b o (λz=>hb (by simp [z])) q) hf
 self:=λA i s Q E st h=>by
  obtain⟨⟨old,he⟩,_⟩:=st;exact rP he h
section
variable{X:Cx}
def zcy(ta:TA):TI:=λσ H R=>ta σ H λvs H1=>∃x,vs=[.str x]/\R (Ite x) H1
theorem WN{a:pM}{ta:TA}{p pos tpos:rj}{elts:List pM}{x1:Nat}(hg:Gl X "enumerate")(hm:X.mg "enumerate" = tH)(ha:PA X [a] ta)(hs:pz [a] X.env=[(tJ,eval a X.env)]:=by rfl) :
  PI X (.Tuple elts x1 tpos) (.Call (.Name "enumerate" p) [a] [] pos) (zcy ta):=by
 intro tK s σ H R I h;refine tF (wm I hg hm boot_enumerate (bH (thn (ha pos tK s σ H _ I h) λus s1 ⟨vs,H1,I1,r1,q1⟩=>?_) hs rfl));obtain⟨x,e,q⟩:=q1;subst e;obtain⟨u,rfl,t,rfl⟩:=xz r1;refine call_enumerate_str λh' he hit hsz kk=>?_;have I2:Inv X tK σ H1 { s1 with heap:=h' }:=I1.kept (t':=s1.toks) kk;refine rP (s:={ s1 with heap:=h' }) (i:=0) he ?_
 have fin:∀(ty:String) (hi:h'.IsStrIter s1⁻¹ ty x t 0) (D:∀A:pL,A.handled=tH->Draws X.prog X.w A s1⁻¹ [s1⁻¹] x.cps.size (λi v=>∃c u,x.cps[i]? = tG c/\v=.str ⟨#[c]⟩ u) λi h=>h.IsStrIter s1⁻¹ ty x t i),
   PIE X tK σ (.Tuple elts x1 tpos) R (.ref (s1⁻¹+1)) { s1 with heap:=h' }:=λty hi D=>by
  refine#[s1⁻¹+1,[s1⁻¹+1,s1⁻¹],_,_,H1,rfl,I2,UB _ _ (eR _) x t D,#[#[_,he],hi],λb hb=>?_,q]
  have hb':s1⁻¹<=b:=by
   rcases tP.mp hb with e | e
   ·rw[e];exact cB _
   ·have:b=s1⁻¹:=by simpa using e
    rw[this];exact al _
  exact I1.fpOk hb' (I1.hok.fresh hb')
 cases ha:x.cps.all (· < 128)
 ·have e:pP x="str_iterator":=by simp [pP,ha]
  rw[e]at hit;exact fin _ hit λA hA=>Draws.strWide hA _ x t
 ·have e:pP x="str_ascii_iterator":=by simp [pP,ha]
  rw[e]at hit;exact fin _ hit λA hA=>Draws.strAscii hA _ x t
end
theorem QJ{x:pJ}{g:TG}{tb:TS}{D:w4}{σ:St}{H:Hp}(Pv:Nat->St->Hp->Prop)(h0:Pv 0 σ H)
  (hs:∀i c σ H p,(cs x)[i]? = tG c->Pv i σ H->H p=tH->g (.ref p) σ (upd H p (.tup [.int (i:Nat),.str (tx [c])])) λσ2 H2=>tb { D with nx:=Pv (i+1),ct:=Pv (i+1),bk:=D.nx } σ2 H2) (hd:∀σ H,Pv (cs x).length σ H->D.nx σ H) :
  ∃W:Nat->Nat->St->Hp->Prop,(∃m,W 0 m σ H)/\∀i m σ H,W i m σ H ->
   ((Ite x).stop i H/\D.nx σ H)\/((Ite x).go i H/\∃N:St->Hp->Prop,(∀σ' H',N σ' H'->∃m',m'<m/\W (i+1) m' σ' H')/\∀v H',(Ite x).yld i H v H'->g v σ H' λσ2 H2=>tb { D with nx:=N,ct:=N,bk:=D.nx } σ2 H2):=by
 refine#[λi m σ H=>m=(cs x).length - i/\i<=(cs x).length/\Pv i σ H,#[(cs x).length,by simp,aG _,h0],?_];rintro i m σ H ⟨rfl,hi,p⟩;by_cases hlt:i<(cs x).length
 ·refine .inr #[hlt,Pv (i+1),λσ' H' p'=>#[(cs x).length - (i+1),⋯,rfl,hlt,p'],λv H' y=>?_];obtain⟨p',c,hp,hc,ev,eH⟩:=y;subst ev eH;exact hs i c σ H p' hc p hp
 ·have e:i=(cs x).length:=⋯;subst e;exact .inl #[rfl,hd σ H p]
theorem ue{env:sx}:∀(names:List (pJ × rW)) (tM:List (pJ × pC)),
    (∀y,(y,NameKind.free) ∈ names->∃c,env.cells.lookup y=tG c)->(∀y c,tM.lookup y=tG c->env.cells.lookup y=tG c) ->
    ∃cl,(forIn names tM λ(x:pJ × rW) (cs:List (pJ × pC))=>if (x.2 == NameKind.free)=tI then (do let a <- cellOf env x.1;pure (ForInStep.yield ((x.1,a)::cs)))else pure (ForInStep.yield cs):tu (List (pJ × pC)))=pure cl /\
      (∀y c,cl.lookup y=tG c->env.cells.lookup y=tG c)/\(∀y,(y,NameKind.free) ∈ names\/(tM.lookup y).isSome=tI->∃c,cl.lookup y=tG c)
  | [],tM,_,ha=>#[tM,rfl,ha,λy h=>by
      rcases h with h | h
      . cases h
      . exact Aa.mp h]
  | (n,k)::r,tM,hn,ha=>by
    by_cases hk:k=NameKind.free
    . subst hk
      obtain⟨c,hc⟩:=hn n (by simp)
      have ha':∀y d,((n,c)::tM).lookup y=tG d->env.cells.lookup y=tG d:=λy d e=>by
        rw[bc]at e;by_cases hy:(y == n)=tI
        . rw[hy]at e
          have:y=n:=eq_of_beq hy;subst this;cases e;exact hc
        . have hy':(y == n)=tJ:=by simpa using hy
          rw[hy']at e;exact ha y d e
      obtain⟨cl,e,h1,h2⟩:=ue r ((n,c)::tM) (λy hy=>hn y (ao _ hy)) ha';refine#[cl,?_,h1,λy hy=>h2 y ?_]
      . rw[dm]
        have ec:cellOf env n=pure c:=by unfold cellOf;rw[hc]
        erw[beq_self_eq_true,if_true,ec,pure_bind]
        exact e
      . rcases hy with hy | hy
        . rcases tP.mp hy with q | q
          . cases q
            exact .inr (by simp)
          . exact .inl q
        . refine .inr ?_
          rw[bc];by_cases hyn:(y == n)=tI
          . rw[hyn];rfl
          . have hy':(y == n)=tJ:=by simpa using hyn
            rw[hy'];exact hy
    . obtain⟨cl,e,h1,h2⟩:=ue r tM (λy hy=>hn y (ao _ hy)) ha
      refine#[cl,?_,h1,λy hy=>h2 y ?_]
      . rw[dm]
        have ek:(k == NameKind.free)=tJ:=by simpa using hk
        erw[ek,bE,if_false,pure_bind]
        exact e
      . rcases hy with hy | hy
        . rcases tP.mp hy with q | q
          . cases q;exact absurd rfl hk
          . exact .inl q
        . exact .inr hy
theorem vt{scope:rf}{env:sx}(hn:∀y,(y,NameKind.free) ∈ scope.names->∃c,env.cells.lookup y=tG c) :
  ∃cl,closureFor scope env=pure cl/\(∀y c,cl.lookup y=tG c->env.cells.lookup y=tG c)/\(∀y,(y,NameKind.free) ∈ scope.names->∃c,cl.lookup y=tG c):=by
 obtain⟨cl,e,h1,h2⟩:=ue scope.names [] hn (λy c h=>by cases h);refine#[cl,?_,h1,λy hy=>h2 y (.inl hy)];unfold closureFor
 erw[bind_pure]
 exact e
noncomputable abbrev Vd(ifs:List pM)(env:sx):tu Bool :=
 forIn ifs tI λc r=>if r=tI then (do let ok <- isTrue c env (eval c env);pure (ForInStep.yield ok))else pure (ForInStep.yield r)
theorem Vt{prog:pH}{w:pK}{A:pL}{R:sH->pE->Prop}{s:pE}{elt tg iter:pM}{ifs:List pM}{scope:rf}{pos:rj}{it tM:pD}{env:sx}
  (I:Nat->pE->Prop) {EE:pD->pE->Prop} (hEE:EE=notedBy (model prog w) A env λe s'=>R (.error e) s')
  (turn:∀n s,I n s->pF (model prog w) A (pyNext it) (λr s1=>match r with
   | none=>R (.ok .next) s1
   | some v=>pF (model prog w) A (letOwnedTupleGo tg it v) (λ_ s2=>pF (model prog w) A (assign tg env v) (λ_ s3 =>
     pF (model prog w) A (Vd ifs env) (λok s4=>if ok=tI then
      pF (model prog w) A (eval elt env) (λx s5=>pF (model prog w) A (call (.builtin "list.append") [tM,x]) (λ_ s6=>∃m,m<n/\I m s6) EE s5) EE s4
      else ∃m,m<n/\I m s4) EE s3) EE s2) EE s1) EE s) (n:Nat) (h:I n s) :
  rG (model prog w) A (.compLoop (.ListComp elt [#[tg,iter,ifs,0]] scope pos) 0 it tM env) R s:=by
 subst hEE;refine codeAny_loop rfl I (λn s hI=>?_) n h;show pF _ A ((compTurn (.ListComp elt [#[tg,iter,ifs,0]] scope pos) 0 it tM env).onRaise (λx=>do noteFrame x env;theTreesLotGoes x)) _ _ s;refine wpAny_noted ?_;rw[compTurn_list];refine pi (rp (pi (thn (turn n s hI) λr s1 h1=>?_)))
 cases r with
 | none=>exact pj h1
 | some v =>
  refine pi (thn h1 λ_ s2 h2=>pi (thn h2 λ_ s3 h3=>pi (thn h3 λok s4 h4=>?_)))
  cases ok with
  | false=>exact pj #[rfl,h4]
  | true=>exact pi (pi (thn h4 λx s5 h5=>pi (thn h5 λ_ s6 h6=>pj (pj #[rfl,h6]))))
noncomputable def yl(X:Cx)(scope:rf)(cl:List (pJ × pC))(C:pC)(N:List pJ)(tK:List (pC × rb))(s3:pE)(H3:Hp)(fp:List pC)(E:pD->pE->Prop):Cx :=
 { X with N:=N,s₀:=s3,H₀:=H3,env:=compEnvC scope cl C X.env,outer:=X.stack,ex:=fp,fn:=λ_=>tJ,pn:=X.pn ++ tK,xe:=E }
noncomputable def vp(σ:St)(own:Nat)(ix:()):St:=am own tH ++ ix.map λi=>(σ[i]?).join
structure jp(X:Cx)(scope:rf)(own caps:List pJ)(ix:()):Prop where
 kind:scope.kind=.function
 nocell:∀y ∈ scope.names,y.2≠.cell
 names:∀y ∈ scope.names,y.2=.local->scope.names.lookup y.1=tG .local
 free:∀y,(y,NameKind.free) ∈ scope.names->X.env.kindOf y=tG .cell\/X.env.kindOf y=tG .free
 hown:∀y ∈ own,scope.names.lookup y=tG .local
 hcaps:∀y ∈ caps,scope.names.lookup y=tG .free
 hix:ix.map (λi=>X.N[i]?)=caps.map tG
theorem xY{α β:Type}[BEq α][LawfulBEq α]{l:List (α × β)}{a:α}{b:β}(h:l.lookup a=tG b):(a,b) ∈ l:=by
 induction l with
 | nil=>cases h
 | cons p r ih =>
  obtain⟨c,d⟩:=p;rw[bc]at h;by_cases e:(a == c)=tI
  ·rw[e]at h;cases h;rw[eq_of_beq e];exact av
  ·have e':(a == c)=tJ:=by simpa using e
   rw[e']at h;exact ao _ (ih h)
theorem w8{scope:rf}{env:sx}(hf:env.scope.kind=.function):∀{names:List (pJ × rW)} {x:pJ} {k:rW},names.lookup x=tG k ->
    (names.map λ(n,k)=>if (k == NameKind.free && env.scope.kind == .function && env.kindOf n == tG .cell)then (n,NameKind.cell)else (n,k)).lookup x=tG (if (k == NameKind.free && env.scope.kind == .function && env.kindOf x == tG .cell)=tI then .cell else k)
  | [],_,_,h=>by simp at h
  | (n,k')::r,x,k,h=>by
    have ih:=@w8 scope env hf r x k;show bh x ((if (k' == NameKind.free && env.scope.kind == .function && env.kindOf n == tG .cell)=tI then (n,NameKind.cell)else (n,k'))::_)=_;by_cases hx:(x == n)=tI
    . have hxn:x=n:=eq_of_beq hx
      subst hxn;rw[bc,hx]at h;cases h;by_cases c:(k' == NameKind.free && env.scope.kind == .function && env.kindOf x == tG .cell)=tI
      . rw[if_pos c,if_pos c,bc,hx]
      . rw[if_neg c,if_neg c,bc,hx]
    . have hx':(x == n)=tJ:=by simpa using hx
      rw[bc,hx']at h;by_cases c:(k' == NameKind.free && env.scope.kind == .function && env.kindOf n == tG .cell)=tI
      . rw[if_pos c,bc,hx'];exact ih h
      . rw[if_neg c,bc,hx'];exact ih h
theorem ut{scope:rf}{env:sx}:∀{names:List (pJ × rW)} {x:pJ},names.lookup x=tH ->
    (names.map λ(n,k)=>if (k == NameKind.free && env.scope.kind == .function && env.kindOf n == tG .cell)then (n,NameKind.cell)else (n,k)).lookup x=tH
  | [],_,_=>rfl
  | (n,k')::r,x,h=>by
    have ih:=@ut scope env r x;show bh x ((if (k' == NameKind.free && env.scope.kind == .function && env.kindOf n == tG .cell)=tI then (n,NameKind.cell)else (n,k'))::_)=_;by_cases hx:(x == n)=tI
    . rw[bc,hx]at h;cases h
    . have hx':(x == n)=tJ:=by simpa using hx
      rw[bc,hx']at h;by_cases c:(k' == NameKind.free && env.scope.kind == .function && env.kindOf n == tG .cell)=tI
      . rw[if_pos c,bc,hx'];exact ih h
      . rw[if_neg c,bc,hx'];exact ih h
section
variable{X:Cx}{scope:rf}{own caps:List pJ}{ix:()}{cl:List (pJ × pC)}{tK:List (pC × rb)}{σ:St}{H:Hp}{s:pE}{fp:List pC}{E:pD->pE->Prop}
theorem Wc(S:jp X scope own caps ix)(hcl1:∀y c,cl.lookup y=tG c->X.env.cells.lookup y=tG c)(hcl2:∀y,(y,NameKind.free) ∈ scope.names->∃c,cl.lookup y=tG c)
  (I:Inv X tK σ H s) (hfp:∀b ∈ fp,wf X tK H b) (hlt:∀b ∈ fp,b<s⁻¹) {h4:pN} {t4:Nat} (hn:h4.Ns s⁻¹ λ_=>tH) (hk:∀b o,s.heap.get? b=tG o->h4.get? b=tG o) :
  Inv (yl X scope cl s⁻¹ (own ++ caps) tK s H fp E) [] (vp σ own.length ix) H { s with heap:=h4,toks:=t4 }:=by
 have kf:X.env.scope.kind=.function:=I.ok.kind;have nofp:∀b ∈ fp,b≠s⁻¹:=λb hb=>ax (hlt b hb)
 have cellLt:∀x c,X.env.cells.lookup x=tG c->c<s⁻¹:=λx c e=>by
  obtain⟨v,o,ho,_⟩:=I.cell x c e;exact au ho
 have kinds:∀y k,scope.names.lookup y=tG k->(relabel scope X.env).names.lookup y=tG (if (k == NameKind.free && X.env.scope.kind == .function && X.env.kindOf y == tG .cell)=tI then .cell else k):=λy k e=>w8 (scope:=scope) kf e
 have back:∀y k,(relabel scope X.env).names.lookup y=tG k->∃k',scope.names.lookup y=tG k'/\k=(if (k' == NameKind.free && X.env.scope.kind == .function && X.env.kindOf y == tG .cell)=tI then .cell else k'):=λy k e=>by
  cases q:scope.names.lookup y with
  | none =>
   have:=ut (scope:=scope) (env:=X.env) q;have e':(scope.names.map λ(n,k)=>if (k == NameKind.free && X.env.scope.kind == .function && X.env.kindOf n == tG .cell)then (n,NameKind.cell)else (n,k)).lookup y=tG k:=e;rw[this]at e';cases e'
  | some k' =>
   refine#[k',rfl,?_];have:=kinds y k' q;rw[e]at this;exact Option.some.inj this
 have isCell:∀y,scope.names.lookup y=tG .free->(relabel scope X.env).names.lookup y=tG .cell\/(relabel scope X.env).names.lookup y=tG .free:=λy e=>by
  have:=kinds y _ e;rcases S.free y (xY e)with q | q
  ·refine .inl ?_;rw[this,if_pos];rw[q,kf];rfl
  ·refine .inr ?_;rw[this,if_neg];rw[q];simp
 refine#[#[I.ok.mod,?_,I.ok.glob,I.ok.blt,al _,?_,?_,?_,I.ok.hd,I.ok.frames,.inl rfl,?_,I.bs,aP I.ok.bsz I.sz,?_,?_,I.stack,I.stkFree],rfl,I.bare,Un.kept hk,#[_,hn,?_],?_,?_,?_,?_,I.hok.kept hk,?_]
 ·show (relabel scope X.env).kind=.function;exact S.kind
 ·intro x y c h1 h2;exact I.ok.inj x y c (hcl1 x c h1) (hcl1 y c h2)
 ·intro y hy;have hy':(relabel scope X.env).names.lookup y=tG .cell\/(relabel scope X.env).names.lookup y=tG .free:=hy
  have:scope.names.lookup y=tG .free:=by
   rcases hy' with q | q
   ·obtain⟨k',e,ek⟩:=back y _ q;by_cases c:(k' == NameKind.free && X.env.scope.kind == .function && X.env.kindOf y == tG .cell)=tI
    ·rw[cz,cz]at c;rw[e,eq_of_beq c.1.1]
    ·rw[if_neg c]at ek;exact absurd ek.symm (S.nocell _ (xY e))
   ·obtain⟨k',e,ek⟩:=back y _ q;by_cases c:(k' == NameKind.free && X.env.scope.kind == .function && X.env.kindOf y == tG .cell)=tI
    ·rw[if_pos c]at ek;cases ek
    ·rw[if_neg c]at ek;rw[e,<- ek]
  exact hcl2 y (xY this)
 ·intro x c h _;exact absurd h (by simp [yl])
 ·intro b hb;refine#[nofp b hb,λx c e=>?_];exact (hfp b hb).2.2.2.2.1 x c (hcl1 x c e)
 ·intro b o e hb;obtain⟨_,_,_,q,_⟩:=hfp b hb;rcases q with q | q
  ·exact I.ok.noex b o e q
  ·exact absurd (aw (au e) (aP I.ok.bsz q)) (cP _)
 ·intro b hb z;rcases tP.mp (I.stkSub b z)with e | e
  ·exact (hfp b hb).2.1 e
  ·exact (hfp b hb).2.2.1 e
 ·intro i y v h1 h2 h3
  have hi:own.length<=i:=by
   refine da λhlt'=>?_;unfold vp at h2;rw[dk (by rw[aQ];exact hlt'),fj,if_pos hlt']at h2;cases h2
  have h1':caps[i - own.length]? = tG y:=by
   have:(own ++ caps)[i]? = tG y:=h1;rw[cF hi]at this;exact this
  have h2':(ix.map λi=>(σ[i]?).join)[i - own.length]? = tG (tG v):=by
   unfold vp at h2;rw[cF (by rw[aQ];exact hi),aQ]at h2;exact h2
  rw[az]at h2';have hx:=congrArg (λl=>l[i - own.length]?) S.hix
  erw[az,h1',Option.map_some]at hx
  cases q:ix[i - own.length]? with
  | none=>rw[q]at h2';cases h2'
  | some j =>
   rw[q]at h2' hx;have hj:X.N[j]? = tG y:=Option.some.inj hx;have hv:(σ[j]?).join=tG v:=Option.some.inj h2'
   have hσ:σ[j]? = tG (tG v):=by
    cases r:σ[j]? with
    | none=>rw[r]at hv;cases hv
    | some z=>rw[r]at hv;cases z with
     | none=>cases hv
     | some z=>cases hv;rfl
   have hfree:scope.names.lookup y=tG .free:=S.hcaps y (ae h1');have hkc:=S.free y (xY hfree);obtain⟨m,hm,hl⟩:=I.loc;obtain⟨u,ru,l⟩:=hl j y v hj hσ (.inr hkc);refine#[u,ru,.inr #[isCell y hfree,?_]];rcases l with ⟨k,_⟩ | ⟨_,c,e,z⟩
   ·have:X.env.kindOf y=tG .local:=k;rcases hkc with q' | q' <;> (rw[q']at this;cases this)
   ·obtain⟨c',e'⟩:=hcl2 y (xY hfree);have:=hcl1 y c' e';rw[e]at this;cases this;obtain⟨o,ho,hd⟩:=z;exact#[c,e',o,hk c o ho,hd]
 ·intro x c e;obtain⟨v,o,ho,hd⟩:=I.cell x c (hcl1 x c e);exact#[v,o,hk c o ho,hd]
 ·exact I.hok.fresh (al _)
 ·intro x c e;exact I.freeC x c (hcl1 x c e)
 ·intro p hp
  have hp':p ∈ X.pn ++ tK:=by
   have:p ∈ (X.pn ++ tK) ++ []:=hp
   rwa [aE]at this
  obtain⟨e,n,ne,nf,d⟩:=I.pin p hp';refine#[hk _ _ e,n,?_,λz=>?_,d]
  ·exact ax (au e)
  ·rcases tP.mp (I.stkSub p.1 z)with q | q
   ·exact ne q
   ·exact nf q
 ·show (vp σ own.length ix).length=(own ++ caps).length;have:=congrArg ci S.hix;rw[aa,aa]at this;unfold vp;rw[ah,aQ,aa,ah,this]
end
def xp(σ σ':St):Prop:=σ.length=σ'.length/\∀(i:Nat) v,σ[i]? = tG (tG v)->σ'[i]? = tG (tG v)
def PTs(X:Cx)(ifs:List pM)(t:TT):Prop :=
 ∀(tK:List (pC × rb)) (s:pE) (σ:St) (H:Hp) (Q:Bool->Hp->Prop),Inv X tK σ H s->t σ H Q->pF (model X.prog X.w) X.A (Vd ifs X.env) (TP X tK σ Q) X.xe s
def xQ:TT:=λ_ H Q=>Q tI H
theorem z7{X:Cx}:PTs X [] xQ:=λ_ _ _ H _ I h=>pj #[H,I,h]
theorem Uy{X:Cx}{c:pM}{t:TT}(h:PT X c t):PTs X [c] t:=λtK s σ H Q I hq=>by
 show pF _ _ (forIn [c] tI _) _ _ s
 erw[dm,fA,if_true]
 exact pi (pi (thn (h tK s σ H Q I hq) λb s' hb=>pj (pj hb)))
def kO(wi:TI)(g:TG)(tt:TT)(te:TE)(own:Nat)(ix:()):TE:=λσ H Q=>wi σ H λJ H1=>∀D,H1 D=tH->∃W:Nat->Nat->List V->Hp->Prop,(∃m,W 0 m [] (upd H1 D (.lst []))) /\
 ∀i m tM H',W i m tM H'->(J.stop i H'/\Q (.ref D) H')\/(J.go i H'/\∀x H2,J.yld i H' x H2->g x (vp σ own ix) H2 λσ3 H3=>xp (vp σ own ix) σ3/\tt σ3 H3 λb H4=>if b=tI then
  te σ3 H4 λv H5=>H5 D=tG (.lst tM)/\tM.length<pA/\∃m',m'<m/\W (i+1) m' (tM ++ [v]) (upd H5 D (.lst (tM ++ [v])))
  else ∃m',m'<m/\W (i+1) m' tM H4)
theorem Un.but{fs ex:List pC}{H H':Hp}{h h1 h2:pN}{a:pC}(u:Un fs ex H H' h h1)(sb:Heap.SameBut a h1 h2)(ha:h.get? a=tH):Un fs ex H H' h h2:=by
 have ne:∀b o,h.get? b=tG o->b≠a:=λb o e z=>by subst z;rw[ha]at e;cases e
 refine#[λb o e n hb hx=>(sb.2 b (ne b o e)).trans (u.keep b o e n hb hx),λb o e n hb hx=>?_,u.free,λb o e hx=>?_,u.tups,u.frzs,u.tbls]
 ·obtain⟨sl,q⟩:=u.slot b o e n hb hx;exact#[sl,(sb.2 b (ne b o e)).trans q]
 ·obtain⟨o',q⟩:=u.there b o e hx;exact#[o',(sb.2 b (ne b o e)).trans q]
theorem HOk.but{P:pH}{w:pK}{H:Hp}{h1 h2:pN}{a:pC}(ok:HOk P w H h1)(sb:Heap.SameBut a h1 h2)(ha:H a=tH):HOk P w H h2:=λb ob e=>by
 refine (ok b ob e).stay (λc u hc q=>(sb.2 c ?_).trans q) (λ_ q=>q) λ_ _ q=>q;rintro rfl;rcases hc with rfl | hc
 ·rw[ha]at e;cases e
 ·rw[ha]at hc;cases hc
section
variable{X:Cx}{scope:rf}{own caps:List pJ}{ix:()}{elt tg iter:pM}{ifs:List pM}{pos:rj}{wi:TI}{g:TG}{tt:TT}{te:TE}
def j0(i:Nat)(t:TE):TS:=λD σ H=>t σ H λx H1=>D.nx (σ.set i (tG x)) H1
end
section
variable{X:Cx}{a b:pM}{ta tb:TE}{pos:rj}
def jb:R2:=λx y H Q=>match x with | .int i=>onInt y λj=>Q (.int (i+j)) H | .str i=>onStr y λj=>i.length+j.length<=pA/\Q (.str (i ++ j)) H | .ref l=>zbh (.ref l) y H Q | _=>False
theorem yz:OpR X (binaryOp .Add) jb:=by
 intro tK s σ H x y v u Q I rx ry h
 cases x with
 | int i=>exact yN tK s σ H (.int i) y v u Q I rx ry h
 | str i=>exact yF tK s σ H (.str i) y v u Q I rx ry (by obtain⟨j,rfl,q⟩:=onStr.of h;exact#[i,j,rfl,rfl,q])
 | ref l=>exact VO tK s σ H (.ref l) y v u Q I rx ry h
 | _=>exact h.elim
def Qz:R2:=λx y H Q=>match x with | .int i=>onInt y λj=>CMul i j/\Q (.int (i * j)) H | .str z=>onInt y λn=>0<=n/\n<=1000/\z.length<=1000/\Q (.str (tx (am n.toNat (cs z)).flatten)) H | _=>False
theorem K2:OpR X (binaryOp .Mult) Qz:=by
 intro tK s σ H x y v u Q I rx ry h
 cases x with
 | int i=>exact ql tK s σ H (.int i) y v u Q I rx ry h
 | str z=>exact WC tK s σ H (.str z) y v u Q I rx ry (by obtain⟨n,rfl,q⟩:=onInt.of h;exact#[z,n,rfl,rfl,q])
 | _=>exact h.elim
def zel:R2:=λx y H Q=>match x with | .int i=>onInt y λj=>Q (.bl (decide (i<j))) H | .str i=>onStr y λj=>Q (.bl (decide (cs i<cs j))) H | _=>False
def zef:R2:=λx y H Q=>match x with | .int i=>onInt y λj=>Q (.bl (decide (i<=j))) H | .str i=>onStr y λj=>Q (.bl (!(decide (cs j<cs i)))) H | _=>False
theorem uq:OpR X (pR .LtE) zef:=by
 intro tK s σ H x y v u Q I rx ry h
 cases x with
 | int i=>exact zdR tK s σ H (.int i) y v u Q I rx ry h
 | str i=>exact W5 tK s σ H (.str i) y v u Q I rx ry (by obtain⟨j,rfl,q⟩:=onStr.of h;exact#[i,j,rfl,rfl,q])
 | _=>exact h.elim
theorem Vw:OpR X (pR .Gt) (λx y H Q=>∃i j,x=.str i/\y=.str j/\Q (.bl (decide (cs j<cs i))) H):=by
 intro tK s σ H x y v u Q I rx ry h;obtain⟨i,j,rfl,rfl,q⟩:=h;obtain⟨t,rfl⟩:=rx;obtain⟨t',rfl⟩:=ry;exact PySem.P.gt_str #[.bl _,H,I,rfl,q]
def zdf:R2:=λx y H Q=>match x with | .int i=>onInt y λj=>Q (.bl (decide (j<i))) H | .str i=>onStr y λj=>Q (.bl (decide (cs j<cs i))) H | _=>False
theorem UI:OpR X (pR .Gt) zdf:=by
 intro tK s σ H x y v u Q I rx ry h
 cases x with
 | int i=>exact Yi tK s σ H (.int i) y v u Q I rx ry h
 | str i=>exact Vw tK s σ H (.str i) y v u Q I rx ry (by obtain⟨j,rfl,q⟩:=onStr.of h;exact#[i,j,rfl,rfl,q])
 | _=>exact h.elim
def zdY(K:pB):V->Option Int->Option Int->Hp->VK->Prop:=λx lo hi H Q=>match x with | .ref a=>zcf K (.ref a) lo hi H Q | .str z=>zbU (.str z) lo hi H Q | _=>False
theorem zbO:SlR X (zdY X.K):=by
 intro tK s σ H x v vl vu lo hi sl Q I rx hs pl pu h
 cases x with
 | ref a=>exact Yk tK s σ H (.ref a) v vl vu lo hi sl Q I rx hs pl pu h
 | str z=>exact wl tK s σ H (.str z) v vl vu lo hi sl Q I rx hs pl pu h
 | _=>exact h.elim
noncomputable def cV:V->Option pD
 | .ty n=>tG (.type n)
 | .ref a=>tG (.ref a)
 | _=>tH
theorem Q9:vm X (.builtin "isinstance") (λxs H Q=>∃x c u t b,xs=[x,c]/\cV c=tG u/\Xa X.K H x t/\aU X.K t u=tG b/\Q (.bl b) H):=by
 intro tK s σ H xs us Q I r h;obtain⟨x,c,u,t,b,rfl,hc,ty,e,q⟩:=h;obtain⟨v,w',rfl,rx,rc⟩:=Vb r
 have:w'=u:=by
  cases c with
  | ty n=>cases hc;exact rc
  | ref a=>cases hc;exact rc
  | _=>cases hc
 subst this;exact VL I rx ty e λtk=>#[.bl b,H,I.tok tk,rfl,q]
end
noncomputable def Iel(K:pB)(a:pC):It:=#[λi H=>∃xs x,SqL K H a xs/\xs[i]? = tG x,λi H v H'=>∃p x,H p=tH/\(∀xs,SqL K H a xs->xs[i]? = tG x)/\v=.ref p/\H'=upd H p (.tup [.int (i:Nat),x]),λi H=>∃xs,SqL K H a xs/\i=xs.length]
theorem Wq{P:pH}{w:pK}{K:pB}{elts:List pM}{x1:Nat}{tpos:rj}(e it a:pC)(hei:e≠it) :
  Q7 P w K (.Tuple elts x1 tpos) (Iel K a) [e,it] e (λi h=>(∃old,IsEnum h e it i old)/\h.IsListIter it a i) where
 mem:=by simp
 obj:=λi h st b hb=>by
  obtain⟨⟨old,he⟩,o,e2,c,d⟩:=st;rcases tP.mp hb with q | q
  ·subst q;exact#[_,he,λv z=>by have z':Data.fields _=Data.cell v:=z;cases z']
  ·have q':b=it:=by simpa using q
   subst q';exact#[o,e2,λv z=>by rw[d]at z;cases z]
 keep:=λi h h' st k=>by
  obtain⟨⟨old,he⟩,st⟩:=st;exact#[#[old,k e (by simp) _ he],st.at λo q=>k it (by simp) o q]
 item:=by
  intro X hP hw hK hc i tK s σ H E I hf st hg;subst hP hw hK;obtain⟨⟨old,he⟩,st⟩:=st;obtain⟨xs,x,hq,hx⟩:=hg;obtain⟨its,rv,p,hz⟩:=I.list hq;obtain⟨u,hu,ru⟩:=rv.get hx;have hA:X.A.in1.handled=tH:=I.ok.hd hc;have pl:=p.isList
  have hai:a≠it:=λz=>by
   subst z;obtain⟨o1,q1,c1,_⟩:=st;obtain⟨o2,q2,c2,_⟩:=pl;rw[q1]at q2;cases q2;rw[c1]at c2;exact absurd (Value.type.inj c2) ∅
  have hea:e≠a:=λz=>by
   subst z;obtain⟨o2,q2,c2,_⟩:=pl;rw[he]at q2;cases q2;exact absurd (Value.type.inj c2) ∅
  refine sk (Draws.list (A:=X.A.in1) hA it a hai its.toArray) he #[st,pl] (by rw[ak];exact (tN.mp hu).1) hei (by simp [hei,hea]) λv h' tk hv ho st' hT hsz kk=>?_
  have ev:v=u:=by
   have hv':its.toArray[i]? = tG v:=hv;rw[List.getElem?_toArray,hu]at hv';exact (Option.some.inj hv').symm
  subst ev;refine#[_,rfl,rZ ho λh2 he2 sb=>?_];have elt:e<s⁻¹:=au he;have ilt:it<s⁻¹:=by obtain⟨o,q,_⟩:=st;exact au q
  have I1:Inv X tK σ H { s with heap:=h2,toks:=tk+1 }:=Inv.turns (fp:=[e,it]) I (λb o hb q=>by
   have hb':b≠e/\b≠it:=by simpa using hb
   exact (sb.2 b hb'.1).trans (kk b o hb'.1 hb'.2 q)) hf
  have hp:H s⁻¹=tH:=I.hok.fresh (al _);have hT2:h2.get? s⁻¹=tG { cls:=.type "tuple",data:=.seq (List.toArray [.int (i:Nat) tk,v]) }:=(sb.2 _ (bW elt)).trans hT
  have I2:Inv X tK σ (upd H s⁻¹ (.tup [.int (i:Nat),x])) { s with heap:=h2,toks:=tk+1 } :=
   Inv.track I1 (I.fpOk (al _) hp) #[by show 2<=pA;decide,[.int (i:Nat) tk,v],.cons #[_,rfl] (.cons ru .nil),#[_,hT2,rfl,_,rfl]]
  refine#[.ref s⁻¹,_,I2,rfl,#[s⁻¹,x,hp,λys hy=>by rw[I.list_inj hy hq];exact hx,rfl,rfl],#[#[_,by simpa using he2],?_],λb hb=>?_]
  ·exact st'.1.at λo q=>(sb.2 it (Ne.symm hei)).trans q
  ·rw[zk]
   ·exact (hf b hb).1
   ·rcases tP.mp hb with q | q
    ·rw[q];exact ax elt
    ·have q':b=it:=by simpa using q
     rw[q'];exact ax ilt
 done:=by
  intro X hP hw hK hc i tK s σ H E I hf st hg;subst hP hw hK;obtain⟨⟨old,he⟩,st⟩:=st;obtain⟨xs,hq,hi⟩:=hg;obtain⟨its,rv,p,hz⟩:=I.list hq;have pl:=p.isList
  have hai:a≠it:=λz=>by
   subst z;obtain⟨o1,q1,c1,_⟩:=st;obtain⟨o2,q2,c2,_⟩:=pl;rw[q1]at q2;cases q2;rw[c1]at c2;exact absurd (Value.type.inj c2) ∅
  have hA:X.A.in1.handled=tH:=I.ok.hd hc;have hi':i=its.toArray.size:=by rw[ak,<- rv.length];exact hi
  subst hi';refine su (Draws.list (A:=X.A.in1) hA it a hai its.toArray) he #[st,pl] λh' hx=>#[rfl,?_];exact Inv.turns (fp:=[e,it]) (t':=s.toks) I (λb o hb q=>hx b o (λz=>hb (by simp [z])) q) hf
 self:=λA i s Q E st h=>by
  obtain⟨⟨old,he⟩,_⟩:=st;exact rP he h
section
variable{X:Cx}
def V2(K:pB)(ta:TA):TI:=λσ H R=>ta σ H λvs H1=>∃a,vs=[.ref a]/\(∃xs,SqL K H1 a xs)/\R (Iel K a) H1
theorem vN{a:pM}{ta:TA}{p pos tpos:rj}{elts:List pM}{x1:Nat}(hg:Gl X "enumerate")(hm:X.mg "enumerate" = tH)(ha:PA X [a] ta)(hs:pz [a] X.env=[(tJ,eval a X.env)]:=by rfl) :
  PI X (.Tuple elts x1 tpos) (.Call (.Name "enumerate" p) [a] [] pos) (V2 X.K ta):=by
 intro tK s σ H R I h;refine tF (wm I hg hm PyProof.Rows.boot_enumerate (bH (thn (ha pos tK s σ H _ I h) λus s1 ⟨vs,H1,I1,r1,q1⟩=>?_) hs rfl));obtain⟨l,e,⟨xs,hq⟩,q⟩:=q1;subst e;obtain⟨u,rfl,ru⟩:=xz r1;cases ru;obtain⟨its,rv,pl,hz⟩:=I1.list hq;refine call_enumerate_list pl.isList λh' he hit hsz kk=>?_;have I2:Inv X tK σ H1 { s1 with heap:=h' }:=I1.kept (t':=s1.toks) kk;refine rP (s:={ s1 with heap:=h' }) (i:=0) he ?_;refine#[s1⁻¹+1,[s1⁻¹+1,s1⁻¹],_,_,H1,rfl,I2,Wq _ _ l (eR _),#[#[_,he],hit],λb hb=>?_,q]
 have hb':s1⁻¹<=b:=by
  rcases tP.mp hb with e | e
  ·rw[e];exact cB _
  ·have:b=s1⁻¹:=by simpa using e
   rw[this];exact al _
 exact I1.fpOk hb' (I1.hok.fresh hb')
end
def ForEL(K:pB)(a:pC)(g:TG)(tb:TS)(D:w4)(σ:St)(H:Hp):Prop:=∃W:Nat->Nat->St->Hp->Prop,(∃m,W 0 m σ H)/\∀i m σ H,W i m σ H ->
 ((Iel K a).stop i H/\D.nx σ H)\/((Iel K a).go i H/\∃N:St->Hp->Prop,(∀σ' H',N σ' H'->∃m',m'<m/\W (i+1) m' σ' H')/\∀x H',(Iel K a).yld i H x H'->g x σ H' λσ2 H2=>tb { D with nx:=N,ct:=N,bk:=D.nx } σ2 H2)
theorem zcl{K:pB}{ta:TA}{g:TG}{tb:TS}{D:w4}{σ:St}{H:Hp}:Qm (V2 K ta) g tb D σ H=ta σ H λvs H1=>∃a,vs=[.ref a]/\(∃xs,SqL K H1 a xs)/\ForEL K a g tb D σ H1:=rfl
theorem ForEL.by{K:pB}{a:pC}{xs:List V}{g:TG}{tb:TS}{D:w4}{σ:St}{H:Hp}(Pv:Nat->St->Hp->Prop)(h0:Pv 0 σ H)(hl:∀i σ H,i<=xs.length->Pv i σ H->SqL K H a xs)
  (hs:∀i x σ H p,xs[i]? = tG x->Pv i σ H->H p=tH->g (.ref p) σ (upd H p (.tup [.int (i:Nat),x])) λσ2 H2=>tb { D with nx:=Pv (i+1),ct:=Pv (i+1),bk:=D.nx } σ2 H2) (hd:∀σ H,Pv xs.length σ H->D.nx σ H):ForEL K a g tb D σ H:=by
 refine#[λi m σ H=>m=xs.length - i/\i<=xs.length/\Pv i σ H,#[xs.length,by simp,aG _,h0],?_];rintro i m σ H ⟨rfl,hi,p⟩;have q:=hl i σ H hi p;by_cases hlt:i<xs.length
 ·refine .inr #[#[xs,xs[i],q,by simp [hlt]],Pv (i+1),λσ' H' p'=>#[xs.length - (i+1),⋯,rfl,hlt,p'],λv H' y=>?_];obtain⟨p',x,hp,hx,ev,eH⟩:=y;subst ev eH;exact hs i x σ H p' (hx xs q) p hp
 ·have e:i=xs.length:=⋯;subst e;exact .inl #[#[xs,q,rfl],hd σ H p]
def zeS(K:pB)(a:pC)(g:TG)(tb:TS)(D:w4)(σ:St)(H:Hp):Prop:=∃W:Nat->Nat->St->Hp->Prop,(∃m,W 0 m σ H)/\∀i m σ H,W i m σ H ->
 ((Itt K a).stop i H/\D.nx σ H)\/((Itt K a).go i H/\∃N:St->Hp->Prop,(∀σ' H',N σ' H'->∃m',m'<m/\W (i+1) m' σ' H')/\∀x H',(Itt K a).yld i H x H'->g x σ H' λσ2 H2=>tb { D with nx:=N,ct:=N,bk:=D.nx } σ2 H2)
theorem zek{K:pB}{tl:TE}{g:TG}{tb:TS}{D:w4}{σ:St}{H:Hp}:Qm (zeT K tl) g tb D σ H=tl σ H λx H1=>∃a,x=.ref a/\(∃xs,SqT K H1 a xs)/\zeS K a g tb D σ H1:=rfl
def zdi(K:pB)(x:V)(H:Hp)(p:Bool->Prop):Prop:=match x with | .bl b=>p b | x=>∃k,zch K x H k/\p k
def tTr(K:pB)(ta:TE):TT:=λσ H Q=>ta σ H λx H'=>zdi K x H' λk=>Q k H'
theorem zar{K:pB}{ta:TE}{σ:L2.St}{H:Hp}{Q:Bool->Hp->Prop}:tTr K ta σ H Q=ta σ H λx H'=>zdi K x H' λk=>Q k H':=rfl
def tBl(ta:TE):TT:=λσ H Q=>ta σ H λx H'=>onBl x λk=>Q k H'
theorem KM{ta:TE}{σ:L2.St}{H:Hp}{Q:Bool->Hp->Prop}:tBl ta σ H Q=ta σ H λx H'=>onBl x λk=>Q k H':=rfl
section
variable{X:Cx}{a:pM}{ta:TE}
theorem xy(ha:PE X a ta)(he:∀whole,isTrue a X.env whole=(do let v <- whole;standAt a.pos;holding [v] (truthy v))):PT X a (tBl ta):=by
 intro tK s σ H Q I h;refine isTrue_plain (thn (ha tK s σ H _ I h) λv s1 ⟨x,H1,I1,r1,q1⟩=>?_) (he _);obtain⟨k,rfl,q1⟩:=onBl.of q1;exact Ka tK s1 σ H1 (.bl k) v Q I1 r1 #[k,rfl,q1]
end
noncomputable def Irv(K:pB)(a:pC)(n:Nat):It:=#[λi H=>∃xs,SqL K H a xs/\xs.length=n/\i<n,λi H v H'=>H'=H/\∀xs,SqL K H a xs->xs.length=n->xs[n - 1 - i]? = tG v,λi H=>i=n]
theorem Qh{P:pH}{w:pK}{K:pB}{tg:pM}(a it:pC)(n:Nat):Q7 P w K tg (Irv K a n) [it] it (λi h=>i<=n/\h.IsRevIter it a ((n:Int) - 1 - (i:Int))) where
 mem:=by simp
 obj:=λi h st b hb=>by
  have e:b=it:=by simpa using hb
  subst e;obtain⟨_,o,e,c,d⟩:=st;exact#[o,e,λv z=>by rw[d]at z;cases z]
 keep:=λi h h' st k=>#[st.1,st.2.at λo e=>k it (by simp) o e]
 item:=by
  intro X hP hw hK hc i tK s σ H E I hf st hg;subst hP hw hK;obtain⟨xs,hq,hn,hi⟩:=hg;obtain⟨its,rv,p,hz⟩:=I.list hq;obtain⟨f0,f1,f2,f3,f4,f5⟩:=hf it (by simp);have hx:xs[n - 1 - i]? = tG (xs[n - 1 - i]'⋯):=ag ⋯;generalize xs[n - 1 - i]'⋯=x at hx;obtain⟨u,hu,ru⟩:=rv.get hx;have st2:=st.2;have e:(n:Int) - 1 - (i:Int)=((n - 1 - i:Nat):Int):=⋯;rw[e]at st2;refine wpAny_pyNext_rev_item st2 p.isList (x:=u) (by simpa using hu) λh' st' sb=>?_;have I1:Inv X tK σ H { s with heap:=h' }:=I.turned (t':=s.toks) (λb o hb e=>(sb.2 b hb).trans e) f0 f1 f3 f4 f5;have e2:((n - 1 - i:Nat):Int) - 1=(n:Int) - 1 - ((i+1:Nat):Int):=⋯;rw[e2]at st';obtain⟨o,e,c,d⟩:=id st';exact#[u,rfl,Q8 (s:={ s with heap:=h' }) e c d ∅ #[x,H,I1,ru,#[rfl,λys hy _=>by rw[I.list_inj hy hq];exact hx],#[hi,st'],λb hb=>(hf b hb).1]]
 done:=by
  intro X hP hw hK hc i tK s σ H E I hf st hg;subst hP hw hK;obtain⟨f0,f1,f2,f3,f4,f5⟩:=hf it (by simp);have hi:i=n:=hg;have st2:=st.2;rw[hi,show (n:Int) - 1 - (n:Int)=-1 by lia]at st2;exact wpAny_pyNext_rev_end (I.ok.hd hc) st2 λh' eb=>#[rfl,I.turned (t':=s.toks) (λb o hb e=>eb b o hb e) f0 f1 f3 f4 f5]
 self:=λ_ _ _ _ _ st h=>sA st.2 h
theorem QB:ra "reversed" = tG (.type "reversed"):=PyProof.Rows.boot_reversed
section
variable{X:Cx}{tg:pM}
def zeB(K:pB)(ta:TA):TI:=λσ H R=>ta σ H λvs H1=>∃a xs,vs=[.ref a]/\SqL K H1 a xs/\R (Irv K a xs.length) H1
theorem zcS{a:pM}{ta:TA}{p pos:rj}(hg:Gl X "reversed")(hm:X.mg "reversed" = tH)(ha:PA X [a] ta)(hs:pz [a] X.env=[(tJ,eval a X.env)]:=by rfl) :
  PI X tg (.Call (.Name "reversed" p) [a] [] pos) (zeB X.K ta):=by
 intro tK s σ H R I h;refine tF (wm I hg hm QB (bH (thn (ha pos tK s σ H _ I h) λus s1 ⟨vs,H1,I1,r1,q1⟩=>?_) hs rfl));obtain⟨l,xs,e,hq,q⟩:=q1;subst e;obtain⟨u,rfl,ru⟩:=xz r1;cases ru;obtain⟨its,rv,pl,hz⟩:=I1.list hq;have hn:its.toArray.size=xs.length:=by rw[ak,<- rv.length]
 refine call_reversed_list pl.isList ?_
 have hit:(s1.heap.push (revObj l ((its.toArray.size:Int) - 1))).IsRevIter s1⁻¹ l ((xs.length:Int) - 1 - ((0:Nat):Int)):=by
  refine#[_,aC _ rfl,rfl,?_];rw[hn,show (xs.length:Int) - 1 - ((0:Nat):Int)=(xs.length:Int) - 1 by lia];rfl
 refine sA (s:={ s1 with heap:=s1.heap.push (revObj l ((its.toArray.size:Int) - 1)) }) hit ?_;refine#[s1⁻¹,[s1⁻¹],_,_,H1,rfl,I1.kept (t':=s1.toks) λb o e=>ac _ e,Qh l _ xs.length,#[aG _,hit],λb hb=>?_,q];have e:b=s1⁻¹:=by simpa using hb
 subst e;exact I1.fpOk (al _) (I1.hok.fresh (al _))
end
section
variable{prog:pH}{w:pK}{A:pL}{E:pD->pE->Prop}{s:pE}
end
section
variable{X:Cx}
def zd3(K:pB)(ta:TA):TE:=λσ H Q=>ta σ H λvs H1=>∃a xs,vs=[.ref a]/\SqL K H1 a xs/\∀l,H1 l=tH->Q (.ref l) (upd H1 l (.lst xs.reverse))
theorem V3{K:pB}{ta:TA}{σ:L2.St}{H:Hp}{Q:VK}:zd3 K ta σ H Q=ta σ H λvs H1=>∃a xs,vs=[.ref a]/\SqL K H1 a xs/\∀l,H1 l=tH->Q (.ref l) (upd H1 l (.lst xs.reverse)):=rfl
end
noncomputable def Izp(K:pB)(a b:pC):It:=#[λi H=>∃xs ys x y,SqL K H a xs/\SqL K H b ys/\xs[i]? = tG x/\ys[i]? = tG y,λi H v H'=>∃p x y,H p=tH/\(∀xs,SqL K H a xs->xs[i]? = tG x)/\(∀ys,SqL K H b ys->ys[i]? = tG y)/\v=.ref p/\H'=upd H p (.tup [x,y]),λi H=>∃xs ys,SqL K H a xs/\SqL K H b ys/\(xs.length=i\/ys.length=i)/\i<=xs.length/\i<=ys.length]
theorem wB{h:pN}{a b:pC}{o1 o2:rb}{t u:String}(h1:h.get? a=tG o1)(c1:o1.cls=.type t)(h2:h.get? b=tG o2)(c2:o2.cls=.type u)(hne:t≠u):a≠b:=λz=>by
 rw[z,h2]at h1;cases h1;rw[c2]at c1;exact hne (Value.type.inj c1).symm
structure JJ(z TI TO i1 i2:pC):Prop where
 TIz:TI≠z
 TOz:TO≠z
 i1z:i1≠z
 i2z:i2≠z
 TITO:TI≠TO
 TIi1:TI≠i1
 TIi2:TI≠i2
 TOi1:TO≠i1
 TOi2:TO≠i2
 i12:i1≠i2
def ZipAt(z TI TO i1 i2 l1 l2:pC)(i:Nat)(h:pN):Prop:=sf h z TI TO .none/\rm h TI (.ref i1) (.ref i2)/\(∃a b,rm h TO a b)/\h.IsListIter i1 l1 i/\h.IsListIter i2 l2 i
theorem ZipAt.apart{z TI TO i1 i2 l1 l2:pC}{i:Nat}{h:pN}{xs ys:Array pD}(D:JJ z TI TO i1 i2)(st:ZipAt z TI TO i1 i2 l1 l2 i h)(h1:h.IsList l1 xs)(h2:h.IsList l2 ys):ZipApart z TI TO i1 i2 l1 l2:=by
 obtain⟨hz,hTI,⟨a,b,hTO⟩,⟨o1,e1,c1,_⟩,⟨o2,e2,c2,_⟩⟩:=st;obtain⟨p1,q1,k1,_⟩:=h1;obtain⟨p2,q2,k2,_⟩:=h2;exact#[D.TIz,D.TOz,D.i1z,D.i2z,D.TITO,D.TIi1,D.TIi2,D.TOi1,D.TOi2,D.i12,wB q1 k1 hz rfl ∅,wB q1 k1 hTO rfl ∅,wB q1 k1 e1 c1 ∅,wB q1 k1 e2 c2 ∅,wB q2 k2 hz rfl ∅,wB q2 k2 hTO rfl ∅,wB q2 k2 e1 c1 ∅,wB q2 k2 e2 c2 ∅]
section
variable{X:Cx}
def zeZ(K:pB)(ta:TA):TI:=λσ H R=>ta σ H λvs H1=>∃a b,vs=[.ref a,.ref b]/\(∃xs,SqL K H1 a xs)/\(∃ys,SqL K H1 b ys)/\R (Izp K a b) H1
end
def zeP(K:pB)(a b:pC)(g:TG)(tb:TS)(D:w4)(σ:L2.St)(H:Hp):Prop:=∃W:Nat->Nat->L2.St->Hp->Prop,(∃m,W 0 m σ H)/\∀i m σ H,W i m σ H ->
 ((Izp K a b).stop i H/\D.nx σ H)\/((Izp K a b).go i H/\∃N:L2.St->Hp->Prop,(∀σ' H',N σ' H'->∃m',m'<m/\W (i+1) m' σ' H')/\∀x H',(Izp K a b).yld i H x H'->g x σ H' λσ2 H2=>tb { D with nx:=N,ct:=N,bk:=D.nx } σ2 H2)
theorem zex{K:pB}{ta:TA}{g:TG}{tb:TS}{D:w4}{σ:L2.St}{H:Hp}:Qm (zeZ K ta) g tb D σ H=ta σ H λvs H1=>∃a b,vs=[.ref a,.ref b]/\(∃xs,SqL K H1 a xs)/\(∃ys,SqL K H1 b ys)/\zeP K a b g tb D σ H1:=rfl
noncomputable abbrev xob(C:pC)(dx:Option pC)(t:pC)(tb:pD):rb:={ cls:=.ref C,dict:=dx,data:=.fields (List.toArray [.ref t,tb,.none,.none,.bool tJ,.none]) }
noncomputable abbrev xog(C:pC)(dx:Option pC)(t:pC)(tb c:pD)(k:Bool):rb:={ cls:=.ref C,dict:=dx,data:=.fields (List.toArray [.ref t,tb,c,.none,.bool k,.none]) }
def KP(h:pN)(x:pC)(tb:pD):Prop:=tb=.none\/∃T oT ts,tb=.ref T/\T≠x/\h.get? T=tG oT/\oT.data=.fields ts/\3<ts.size
section
variable{M:sV}{A:pL}{E:pD->pE->Prop}{s:pE}{base:pN}{env env0:sx}{outer:List sx}{L x t C:pC}{dx:Option pC}{cx:pD}{kx:Bool}
theorem Zt(h:env.frame=env0.frame):eG env=eG env0:=by unfold eG;rw[h]
theorem jY{tb head:pD}{hadNext:Bool}{Q:Unit->pE->Prop}(hfr:A.frames=tG (env0::outer))(hl:s.heap.FunFrames base (env0::outer))(hf:env0.frame=tG L)(he:env.frame=tG L)
  (hx:s.heap.get? x=tG (xog C dx t tb cx kx))
  (h:∀h' oT ts,h'.get? x=tG (xog C dx t (.ref s⁻¹) cx kx)->s⁻¹≠x->h'.get? s⁻¹=tG oT->oT.data=.fields ts->3<ts.size ->
   (∀b o,b≠x->b ∉ frs (env0::outer)->s.heap.get? b=tG o->h'.get? b=tG o)->(∀b o,b≠x->s.heap.get? b=tG o->∃sl,h'.get? b=tG { o with slots:=sl })->Q Unit.unit { s with heap:=h' }) :
  pF M A (do let a <- eG env;let pl <- entryPlaceOf L hadNext;let b <- EntryCells.newEntry head a .none (rawInt L) .none pl;setField (.ref x) 1 b) Q E s:=by
 have hxf:x ∉ frs (env0::outer):=λhm=>by
  obtain⟨_,o,ho,hnf⟩:=hl.mem hm;rw[hx]at ho;cases ho;exact hnf _ rfl
 rw[Zt (he.trans hf.symm)];refine pi (wpAny_frameOf_fun hfr hl hf λh1 hs1=>pi (wpAny_entryPlaceOf λpl hpl=>?_));unfold EntryCells.newEntry newFields;refine pi (sP ?_ (hpl.sizeOk5 _ _ _ _ _));have hz:h1.objs.size=s⁻¹:=hs1.1;have hx1:h1.get? x=tG (xog C dx t tb cx kx):=(hs1.2.1 x hxf).trans hx;generalize ho:({ cls:=.type "traceback",dict:=tH,data:=.fields ([head,.ref L,.none,rawInt L,.none] ++ (if pl.isEmpty then am 6 Value.none else pl)).toArray }:rb)=ob;have hx2:(h1.push ob).get? x=tG (xog C dx t tb cx kx):=ac _ hx1;refine rz hx2 rfl (by show 1<6;decide) ?_;have hne:h1.objs.size≠x:=bW (au hx1)
 have hx3:((h1.push ob).update x (Obj.mapFields (·.setIfInBounds 1 (Value.ref h1.objs.size)))).get? x=tG (xog C dx t (.ref h1.objs.size) cx kx) :=
  ce (Obj.mapFields (·.setIfInBounds 1 (Value.ref h1.objs.size))) hx2 rfl
 have hT:((h1.push ob).update x (Obj.mapFields (·.setIfInBounds 1 (Value.ref h1.objs.size)))).get? h1.objs.size=tG ob :=
  (aI _ _ (Ne.symm hne)).trans (aC h1 (by rw[<- ho];rfl))
 rw[hz]at hx3 hT hne
 have kp:∀b o,b≠x->h1.get? b=tG o->((h1.push ob).update x (Obj.mapFields (·.setIfInBounds 1 (Value.ref h1.objs.size)))).get? b=tG o:=λb o hb e =>
  (aI _ _ (Ne.symm hb)).trans (ac _ e)
 rw[hz]at kp ⊢;refine h _ ob _ hx3 hne hT (by rw[<- ho]) (by erw[ak,ah,aD,bj] <;> lia) (λb o hb hbf e=>kp b o hb ((hs1.2.1 b hbf).trans e)) λb o hb e=>?_;obtain⟨sl,q⟩:=hs1.2.2 b o e;exact#[sl,kp b _ hb q]
theorem kZ{tb:pD}{Q:Unit->pE->Prop}(hfr:A.frames=tG (env0::outer))(hl:s.heap.FunFrames base (env0::outer))(hf:env0.frame=tG L)(he:env.frame=tG L)
  (hx:s.heap.get? x=tG (xog C dx t tb cx kx)) (htb:KP s.heap x tb)
  (h:∀h' T oT ts,h'.get? x=tG (xog C dx t (.ref T) cx kx)->T≠x->(tb=.ref T\/s⁻¹<=T)->h'.get? T=tG oT->oT.data=.fields ts->3<ts.size ->
   (∀b o,b≠x->tb≠.ref b->b ∉ frs (env0::outer)->s.heap.get? b=tG o->h'.get? b=tG o)->(∀b o,b≠x->tb≠.ref b->s.heap.get? b=tG o->∃sl,h'.get? b=tG { o with slots:=sl })->Q Unit.unit { s with heap:=h' }) :
  pF M A (noteFrame (.ref x) env) (λ_ s1=>pF M A (setFlight (.ref x) tH) Q E s1) E s:=by
 have land:∀(h1:pN) (T:pC) (oT:rb) (ts:Array pD),h1.get? x=tG (xog C dx t (.ref T) cx kx)->T≠x->(tb=.ref T\/s⁻¹<=T)->h1.get? T=tG oT->oT.data=.fields ts->3<ts.size ->
   (∀b o,b≠x->tb≠.ref b->b ∉ frs (env0::outer)->s.heap.get? b=tG o->h1.get? b=tG o)->(∀b o,b≠x->tb≠.ref b->s.heap.get? b=tG o->∃sl,h1.get? b=tG { o with slots:=sl }) ->
   pF M A (setFlight (.ref x) tH) Q E { s with heap:=h1 }:=λh1 T oT ts e1 nT oldT e2 d2 z2 k1 k2=>by
  unfold setFlight;refine pi (pT (s:={ s with heap:=h1 }) e1 rfl (x:=.ref T) rfl ?_);rw[if_pos (show (Value.ref T != Value.none)=tI from by simp)];refine rz (s:={ s with heap:=h1 }) e2 d2 z2 ?_;have d3:=Obj.data_mapFields d2 (·.setIfInBounds 3 ((tH:Option pC).elim Value.none λf=>rawInt f))
  have nb:∀b,b≠x->tb≠.ref b->(∃o,s.heap.get? b=tG o)->b≠T:=λb hb hbt ⟨o,eo⟩ z=>by
   subst z;rcases oldT with q | q
   ·exact hbt q
   ·exact absurd (au eo) (Nat.not_lt.mpr q)
  refine h _ T _ _ ((aI _ _ nT).trans e1) nT oldT (ce _ e2 (Obj.isFreed_of_fields d3)) d3 (by simpa using z2) (λb o hb hbt hbf e=>?_) λb o hb hbt e=>?_
  ·exact (aI _ _ (Ne.symm (nb b hb hbt #[o,e]))).trans (k1 b o hb hbt hbf e)
  ·obtain⟨sl,q⟩:=k2 b o hb hbt e;exact#[sl,(aI _ _ (Ne.symm (nb b hb hbt #[o,e]))).trans q]
 unfold noteFrame
 erw[he]
 refine pi (pT hx rfl (x:=tb) rfl ?_);rcases htb with rfl | ⟨T,oT,ts,rfl,nT,e2,d2,z2⟩
 ·rw[if_neg ∅];refine jY hfr hl hf he hx λh' oT ts e1 ne e2 d2 z2 k1 k2=>land h' _ oT ts e1 ne (.inr (al _)) e2 d2 z2 (λb o hb _ hbf e=>k1 b o hb hbf e) λb o hb _ e=>k2 b o hb e
 ·rw[if_pos (show (Value.ref T != Value.none)=tI from by simp)];obtain⟨y,hy⟩:∃y,ts[3]? = tG y:=#[ts[3],by simp [z2]];refine pi (pT e2 d2 (x:=y) hy ?_);by_cases c:(y == rawInt L)=tI
  ·rw[if_pos c];exact pj (land s.heap T oT ts hx nT (.inl rfl) e2 d2 z2 (λb o _ _ _ e=>e) λb o _ _ e=>#[o.slots,e])
  ·rw[if_neg c];refine pi (rz e2 d2 z2 ?_);have oth:∀b,b≠T->(s.heap.update T (Obj.mapFields (·.setIfInBounds 3 Value.none))).get? b=s.heap.get? b:=λb hb=>aI _ _ (Ne.symm hb);have hl1:(s.heap.update T (Obj.mapFields (·.setIfInBounds 3 Value.none))).FunFrames base (env0::outer):=hl.of_keeps λb o hb hnf=>#[o,(oth b λq=>by rw[q,e2]at hb;cases hb;exact hnf ts d2).trans hb,rfl];have hsz:(s.heap.update T (Obj.mapFields (·.setIfInBounds 3 Value.none))).objs.size=s⁻¹:=dP ..;refine jY (s:={ s with heap:=s.heap.update T (Obj.mapFields (·.setIfInBounds 3 Value.none)) }) hfr hl1 hf he ((oth x (Ne.symm nT)).trans hx) λh' oT' ts' e1 ne e2' d2' z2' k1 k2=>?_;refine land h' _ oT' ts' e1 ne (.inr (by rw[hsz];exact al _)) e2' d2' z2' (λb o hb hbt hbf e=>k1 b o hb hbf ((oth b λq=>hbt (by rw[q])).trans e)) λb o hb hbt e=>k2 b o hb ((oth b λq=>hbt (by rw[q])).trans e)
theorem K9{tb:pD}{Q:Unit->pE->Prop}(hfr:A.frames=tG (env0::outer))(hl:s.heap.FunFrames base (env0::outer))(hf:env0.frame=tG L)(he:env.frame=tG L)
  (hx:s.heap.get? x=tG (xog C dx t tb cx kx)) (htb:KP s.heap x tb)
  (h:∀h' T oT ts,h'.get? x=tG (xog C dx t (.ref T) cx kx)->T≠x->(tb=.ref T\/s⁻¹<=T)->h'.get? T=tG oT->oT.data=.fields ts->3<ts.size ->
   (∀b o,b≠x->tb≠.ref b->b ∉ frs (env0::outer)->s.heap.get? b=tG o->h'.get? b=tG o)->(∀b o,b≠x->tb≠.ref b->s.heap.get? b=tG o->∃sl,h'.get? b=tG { o with slots:=sl })->Q Unit.unit { s with heap:=h' }) :
  pF M A (leaving env (.ref x)) Q E s:=pi (kZ hfr hl hf he hx htb h)
end
def CXx(P:pH)(w:pK):CXT:=λouter H s E e s'=>∃(x C t:pC) (dx:Option pC) (tb:pD) (H':Hp),e=.ref x/\s'.os=s.os/\rY s'.gens/\Un (frs outer) [] H H' s.heap s'.heap/\HOk P w H' s'.heap /\
 s'.heap.get? x=tG (xob C dx t tb)/\KP s'.heap x tb/\H' x=tH/\s⁻¹<=x/\(∀T,tb=.ref T->H' T=tH/\s⁻¹<=T)/\E (.ref C) dx H'
def zcU(X:Cx)(E:XK)(e:pD)(s:pE):Prop:=∃(tK:List (pC × rb)) (σ:St) (H:Hp) (x C t:pC) (dx:Option pC) (tb:pD),e=.ref x/\Inv X tK σ H s /\
 s.heap.get? x=tG (xob C dx t tb)/\KP s.heap x tb/\wf X tK H x/\(∀T,tb=.ref T->wf X tK H T)/\E (.ref C) dx H
def XE(X:Cx)(E:XK):Prop:=∀e s,zcU X E e s->X.xe e s
theorem Xf{X:Cx}{E:XK}(hx:XE X E):uw (CXx X.prog X.w) X E:=by
 intro tK σ H s e s' I h;obtain⟨x,C,t,dx,tb,H',rfl,os,bare,un,hok,ob,tr,hn,hsz,hT,q⟩:=h;have I':Inv X tK σ H' s':=I.call' os un hok bare λb z=>absurd z (by simp);exact hx _ _ #[tK,σ,H',x,C,t,dx,tb,rfl,I',ob,tr,I.fpOk hsz hn,λT e=>I.fpOk (hT T e).2 (hT T e).1,q]
theorem zbA{P:pH}{w:pK}{K:pB}{mg:pJ->Option pD}{base:pN}{N:List pJ}{qual:pJ}{scope:rf}{f:pC}{cd:pD}{A:pL}{outer:List sx}{s:pE}{H:Hp}{E:XK} :
  XE (uP (CXx P w) P w K mg base N qual scope f cd A outer s H E) E:=by
 intro e s1 h;obtain⟨tK,σ,H1,x,C,t,dx,tb,rfl,I,ob,tr,fx,fT,q⟩:=h;show pF _ _ (leaving _ (.ref x)) _ _ s1;have ff:=I.stack;refine K9 (A:=(uP (CXx P w) P w K mg base N qual scope f cd A outer s H E).A) (env0:=rX qual scope s⁻¹ f cd) (outer:=outer) I.ok.frames ff rfl rfl ob tr λh' T oT ts e1 nT oldT e2 d2 z2 k1 k2=>?_;have szs:s⁻¹<=s1⁻¹:=I.sz
 have hxs:s⁻¹<=x:=by
  rcases fx.2.2.2.1 with z | z
  ·exact absurd z (by simp [uP])
  ·exact z
 have hTs:s⁻¹<=T/\H1 T=tH:=by
  rcases oldT with z | z
  ·obtain⟨a0,_,_,a3,_⟩:=fT T z;rcases a3 with y | y
   ·exact absurd y (by simp [uP])
   ·exact#[y,a0]
  ·exact#[aP szs z,I.hok.fresh z]
 have tbs:∀b,tb=.ref b->s⁻¹<=b/\H1 b=tH:=λb hb=>by
  obtain⟨a0,_,_,a3,_⟩:=fT b hb;rcases a3 with y | y
  ·exact absurd y (by simp [uP])
  ·exact#[y,a0]
 have old:∀b o,s.heap.get? b=tG o->b≠x/\tb≠.ref b:=λb o e=>by
  have hb:=au e;refine#[ax (aw hb hxs),λz=>?_];exact absurd (aw hb (tbs b z).1) (cP _)
 have un:Un (frs outer) [] H H1 s.heap h':=by
  have B:=I.base;refine#[λb o e n hb _=>?_,λb o e n hb _=>?_,λb o e n _=>B.free b o e n (by simp [uP]),λb o e _=>?_,B.tups,B.frzs,B.tbls]
  ·have e1:=B.keep b o e n hb (by simp [uP]);refine k1 b o (old b o e).1 (old b o e).2 (λz=>?_) e1;have z':=I.stkSub b z;rcases tP.mp z' with q | q
   ·exact absurd q (ax (aw (au e) I.ok.above))
   ·exact hb q
  ·obtain⟨sl,e1⟩:=B.slot b o e n hb (by simp [uP]);obtain⟨sl',e2⟩:=k2 b _ (old b o e).1 (old b o e).2 e1;exact#[sl',e2]
  ·obtain⟨o',e1⟩:=B.there b o e (by simp [uP]);obtain⟨sl',e2⟩:=k2 b _ (old b o e).1 (old b o e).2 e1;exact#[_,e2]
 have hok:HOk P w H1 h':=λb u e=>by
  refine (I.hok b u e).stay (λc v hc q=>k1 c v ?_ ?_ ?_ q) (λ_ q=>q) λ_ _ q=>q
  ·rintro rfl;rcases hc with rfl | hc
   ·rw[fx.1]at e;cases e
   ·rw[fx.1]at hc;cases hc
  ·intro z;have:=(tbs c z).2;rcases hc with rfl | hc
   ·rw[this]at e;cases e
   ·rw[this]at hc;cases hc
  ·intro z;have:=I.stkFree c z;rcases hc with rfl | hc
   ·rw[this]at e;cases e
   ·rw[this]at hc;cases hc
 exact#[x,C,t,dx,.ref T,H1,rfl,I.os,I.bare,un,hok,e1,.inr #[T,oT,ts,rfl,nT,e2,d2,z2],fx.1,hxs,λT' z=>by cases z;exact#[hTs.2,hTs.1],q]
theorem Fun.okX{P:pH}{w:pK}{K:pB}{mg:pJ->Option pD}{base:pN}{x qual:pJ}{st:pQ}{f:pC}{fd:pG}{N ps:List pJ}{k:Nat}{sp:Sp}(F:Fun K x qual st f fd)(S:zo N ps (zg st))(len:∀vs H Q E,sp vs H Q E->vs.length=ps.length)
  (hbody:∀(cdv:pD) (A:pL) (outer:List sx) (s:pE) (H:Hp) (vs:List V) (Q:VK) (E:XK),Room k (A.deeper (rX qual (zg st) s⁻¹ f cdv))->XE (uP (CXx P w) P w K mg base N qual (zg st) f cdv A outer s H E) E->sp vs H Q E ->
   ∃t,PSs (uP (CXx P w) P w K mg base N qual (zg st) f cdv A outer s H E) (zX st) t/\t { nx:=λ_ H'=>Q .non H',rt:=Q } (start N vs) H):FnOk P w K mg base (CXx P w) (k+1) f fd ps sp:=by
 obtain⟨oc,od,kV,doc,pm,an,cdv,ct,osl,rfl,lk,hcd⟩:=F.ex;exact Qd lk hcd S len λA outer s H vs Q E hr hsp=>hbody cdv A outer s H vs Q E hr zbA hsp
def zbq(X:Cx)(E:XK)(e:pD)(s:pE):Prop:=∃(cx:pD) (kx:Bool) (tK:List (pC × rb)) (σ:St) (H:Hp) (x C t:pC) (dx:Option pC) (tb:pD),e=.ref x/\Inv X tK σ H s /\
 s.heap.get? x=tG (xog C dx t tb cx kx)/\KP s.heap x tb/\wf X tK H x/\(∀T,tb=.ref T->wf X tK H T)/\E (.ref C) dx H
def XEg(X:Cx)(E:XK):Prop:=∀e s,zbq X E e s->X.xe e s
structure RoomH(k:Nat)(A:pL):Prop where
 dp:A.depth+3 * k+5<sE
 un:A.units+16 * k+200<cLine
theorem RoomH.mark{k:Nat}{A:pL}(r:RoomH k A)(e:Option pD):RoomH k (A.mark e):=#[r.dp,r.un]
noncomputable def cxH(P:pH)(w:pK)(K:pB)(mg:pJ->Option pD)(base:pN)(N:List pJ)(qual:pJ)(scope:rf)(f:pC)(cd:pD)(A:pL)(outer:List sx)(s:pE)(H:Hp):Cx :=
 { uP CX0 P w K mg base N qual scope f cd A outer s H E0 with calm:=tJ,xe:=λ_ _=>False }
section
variable{X:Cx}{k:Nat}{f:pC}{fd:pG}{ps:List pJ}{sp:Sp}{x:pJ}{p pos:rj}{e:pM}{es:List pM}{t:TA}
end
noncomputable abbrev bmV:List pD:=[.type "ValueError",.type "Exception",.type "BaseException",.type "object"]
noncomputable def Z6(K:pB)(C:pC):Bool:=match K.lookup C with
 | some ⟨.type "type",_,.cls cd,sl⟩=>(match cd.mro,sl.toList with
  | .ref C'::bm,[_,_,_,_,tG (.builtin n),_]=>C' == C && (n == "ValueError.__new__" && (!cd.hasDel && (cd.hasDict && PySem.W.tailIn K bmV bm)))
  | _,_=>tJ)
 | _=>tJ
theorem vC{K:pB}{C:pC}(q:Z6 K C=tI):∃bm N nm qn bs sn sub ab col dd k0 k1 k2 k3 k5,K.lookup C=tG (sG nm qn C N bs bm tI sn sub ab col dd k0 k1 k2 k3 k5 "ValueError.__new__")/\∀h:pN,K.In h->OwnTail h bmV bm:=by
 unfold Z6 at q;split at q
 ·rename_i dd cd sl ho;split at q
  ·rename_i C' bm k0 k1 k2 k3 n k5 hm hs
   erw[cz,beq_iff_eq,dJ]at q
   obtain⟨rfl,rfl,hdel,hdct,ht⟩:=q;obtain⟨nm,bs,mro,ns,qn,hd,sn,sub,ab,col,del⟩:=cd;dsimp only at hm hdel hdct;subst hm hdel hdct
   have hsl:sl=(List.toArray [k0,k1,k2,k3,tG (.builtin "ValueError.__new__"),k5]):=by
    obtain⟨l⟩:=sl;simp only at hs;rw[hs]
   subst hsl;exact#[bm,ns,nm,qn,bs,sn,sub,ab,col,dd,k0,k1,k2,k3,k5,ho,λh X=>PySem.W.tail_of_in X ht]
  ·cases q
 ·cases q
structure XC(K:pB)(C:pC):Prop where
 ok:Z6 K C=tI
 sa:aj K (.ref C) "__setattr__" = tG (tG (.builtin "object.__setattr__"))
 ga:aj K (.ref C) "__getattribute__" = tG (tG (.builtin "BaseException.__getattribute__"))
 gt:aj K (.ref C) "__getattr__" = tG tH
 kp:aL K (.ref C)=tI
section
variable{prog:pH}{w:pK}{A:pL}{R:sH->pE->Prop}{h:pN}{g:Array sY}{d:Drawn}{t:Nat}{os:OsState}{K:pB}{C:pC}
theorem Xj{init:pD}{rest:List pD}(X:K.In h)(q:Z6 K C=tI)(hi:aj K (.ref C) "__init__" = tG (tG init))
  (hb:∀self,PySem.W.Looks (model prog w) h (bindSpecial init self) (init,[self])) (hrest:rest.length<=pA)
  (hq:rG (model prog w) (A.under (.builtin "type.__call__" #[.ref C::rest,[]])) (.call init #[.ref (h.objs.size+1)::rest,[]]) (PySem.W.InitBack (h.objs.size+1) R) #[(h.push { cls:=.type "tuple",data:=.seq rest.toArray }).push (xob C tH h.objs.size .none),g,d,t,os]) :
  rG (model prog w) A (.call (.ref C) #[rest,[]]) R #[h,g,d,t,os]:=by
 obtain⟨bm,N,nm,qn,bs,sn,sub,ab,col,dd,k0,k1,k2,k3,k5,lk,tl⟩:=vC q;have hC:=X _ _ lk;have T:=tl h X;have F:=eI;have f1:=tc_lookup;have f2:=tc_bind (.ref C);have hT:(#[h,g,d,t,os]:pE).TypeIs (.ref C) "type":=#[_,hC,rfl];refine codeAny_of_tree ?_;show pF _ _ (callAny (.ref C) _) _ _ _
 repeat (any_goals (first | assumption | with_reducible refine rh hC ?_ | wp_step))
 refine#[rfl,?_];refine codeAny_call_builtin_at (Code.quiet_builtin _ (by symm)) entry_typeCall (wpAny_check_type_call_sub hC ?_)
 repeat (first | with_reducible refine rh hC ?_ | with_reducible refine wpAny_madeBy_exc hC ?_ | wp_step)
 refine codeAny_call_builtin_code (Code.quiet_builtin _ F.quiet) (wpAny_check_new_subT F T hC ?_);refine codeAny_exc_new_subT F T hC ?_ hrest;show pF _ _ _ _ _ _;have k:∀b o,h.get? b=tG o->((h.push { cls:=.type "tuple",data:=.seq rest.toArray }).push (xob C tH h.objs.size .none)).get? b=tG o:=λb o e=>ac _ (ac _ e);have hC1:=k _ _ hC;have hget:((h.push { cls:=.type "tuple",data:=.seq rest.toArray }).push (xob C tH h.objs.size .none)).get? (h.objs.size+1)=tG (xob C tH h.objs.size .none):=by heap_get
 have hcC:(Value.ref C::bm).contains (.ref C)=tI:=by simp
 unfold isInstance
 repeat (first | with_reducible refine rh hget ?_ | wp_step)
 refine rK (C:=C) hC1 ?_;rw[hcC]
 repeat wp_step
 show pF _ _ (typeLookup (.ref C) _) _ _ _;refine ((cJ X hi).keeps k).at ?_;refine re (pi (((hb _).keeps k).at ?_));refine pi (rE (rJ hq λr s' z=>?_));rcases r with e | (v | _ | _ | _) <;> first | exact z | exact z.elim | skip;obtain⟨rfl,z⟩:=z;exact pj (pj z)
end
noncomputable def XN(x C:pC)(dx:Option pC):HO:=.ext λh=>∃t,h.get? x=tG (xob C dx t .none)
noncomputable def XT(x C:pC)(dx:Option pC):HO:=.ext λh=>∃t tb c k,h.get? x=tG (xog C dx t tb c k)
noncomputable def XP(x C:pC)(dx:Option pC):HO:=.ext λh=>∃t tb,h.get? x=tG (xob C dx t tb)
theorem zbS{P:pH}{w:pK}{H:Hp}{h:pN}{x C t:pC}{dx:Option pC}(e:h.get? x=tG (xob C dx t .none)):ObjOk P w H h x (XN x C dx) :=
 #[#[t,e],#[_,e],λh1 h2 ⟨t,q⟩ k=>#[t,k _ q]]
theorem zbC{P:pH}{w:pK}{H:Hp}{h:pN}{x C t:pC}{dx:Option pC}{tb c:pD}{k:Bool}(e:h.get? x=tG (xog C dx t tb c k)):ObjOk P w H h x (XT x C dx) :=
 #[#[t,tb,c,k,e],#[_,e],λh1 h2 ⟨t,tb,c,k',q⟩ k=>#[t,tb,c,k',k _ q]]
theorem zbP{P:pH}{w:pK}{H:Hp}{h:pN}{x C:pC}{dx:Option pC}(o:ObjOk P w H h x (XN x C dx)):∃t,h.get? x=tG (xob C dx t .none):=o.1
theorem zd0{P:pH}{w:pK}{H:Hp}{h:pN}{x C:pC}{dx:Option pC}(o:ObjOk P w H h x (XT x C dx)):∃t tb c k,h.get? x=tG (xog C dx t tb c k):=o.1
section
variable{nm q:pJ}{C N:pC}{bs bm:List pD}{hdct:Bool}{sn:List pJ}{sub:List pD}{ab:Bool}{col:Option Bool}{dd:Option pC}{k0 k1 k2 k3 k5:Option pD}{newId:String}{h:pN}{M:sV}
theorem ZN(hC:h.get? C=tG (sG nm q C N bs bm hdct sn sub ab col dd k0 k1 k2 k3 k5 newId))(base:pD):PySem.W.Looks M h (isSubtype (.ref C) base) ((Value.ref C::bm).contains base):=λA Q E s k z=>by
 obtain⟨hp,g,d,t,os⟩:=s;exact rK (k _ _ hC) z
theorem VZ(hC:h.get? C=tG (sG nm q C N bs bm hdct sn sub ab col dd k0 k1 k2 k3 k5 newId)):PySem.W.Looks M h (mroOf (.ref C)) (.ref C::bm):=λA Q E s k z=>by
 obtain⟨hp,g,d,t,os⟩:=s;exact wpAny_mroOf_exc (k _ _ hC) z
theorem U8(hC:h.get? C=tG (sG nm q C N bs bm hdct sn sub ab col dd k0 k1 k2 k3 k5 newId)):PySem.W.Looks M h (classData C) { name:=nm,bases:=bs,mro:=.ref C::bm,ns:=N,qualname:=q,hasDict:=hdct,slotNames:=sn,subclasses:=sub,abstract:=ab,collection:=col,hasDel:=tJ }:=λA Q E s k z=>by
 unfold classData;exact pi (wpAny_load (k _ _ hC) (pj z))
theorem YX{bmB bm:List pD}(T:OwnTail h bmB bm)(self:pD)(hp:refuseLoop self "__setattr__" bmB=pure Unit.unit):refuseLoop self "__setattr__" bm=pure Unit.unit:=by
 induction T with
 | base=>exact hp
 | own _ _ _ _ ih=>rw[refuseLoop_ref];exact ih
end
section
variable{X:Cx}{tK:List (pC × rb)}{σ:St}{H:Hp}{s:pE}{A:pL}{E:pD->pE->Prop}{x C:pC}{f:pJ}{y:V}{u:pD}
theorem zaf{Q:Unit->pE->Prop}(I:Inv X tK σ H s)(e:H x=tG (XN x C tH))(xc:XC X.K C)(n:NoAttr X.K C f)(ry:RelV y u)
  (h:∀s' dx,H dx=tH->Inv X tK σ (upd (upd H dx (.xd [(f,y)])) x (XN x C (tG dx))) s'->Q Unit.unit s'):pF (model X.prog X.w) A (setAttr (.ref x) f u) Q E s:=by
 obtain⟨t,ob⟩:=zbP (I.hok x _ e);obtain⟨bm,N,nm,qn,bs,sn,sub,ab,col,dd,k0,k1,k2,k3,k5,lk,tl⟩:=vC xc.ok;have hC:=I.kIn _ _ lk;have T:=tl _ I.kIn;have SF:=PySem.F.store_ValueError;have J:PySem.W.InstAt s.heap x (xob C tH t .none) C tH:=#[ob,rfl,rfl,trivial];have hob:(Value.ref C::bm).contains (.type "object")=tI:=by rw[dB,T.hasType (show bmV.contains (.type "object")=tI by symm),d5]
 have isO:PySem.W.Looks (model X.prog X.w) s.heap (isInstance (.ref x) (.type "object")) tI:=J.type.andThen (by have:=ZN (M:=model X.prog X.w) hC (.type "object");rw[hob]at this;exact this);refine ge I.kIn J xc.sa ?_;refine rV SF.slot.plain SF.entry (@PySem.W.check_slot (model X.prog X.w) _ _ { s with toks:=s.toks+1 } "object.__setattr__" "object" "__setattr__" (.ref x) [.str f s.toks,u] [] _ SF.kind SF.split isO (SF.args _ _ _) ?_);rw[PySem.W.osa_eq,refuse_eq];refine pi (pi (J.type.here (s:={ s with toks:=s.toks+1 }) (pi ((VZ hC).here (s:={ s with toks:=s.toks+1 }) ?_))));rw[refuseLoop_ref,YX T _ (SF.passes _)];refine pj (pi (J.type.here (s:={ s with toks:=s.toks+1 }) (pi ((cJ I.kIn n).here (s:={ s with toks:=s.toks+1 }) (pi (pj ?_))))));show pF _ _ (Builtin.ObjectAttr.storeInOwnDict (.ref x) (.ref C) (.str f s.toks) f u tJ) _ _ _;have hx1:(s.heap.push { cls:=.type "dict",data:=.dict #[] }).get? x=tG (xob C tH t .none):=ac _ ob;have hxs:x≠s⁻¹:=ax (au ob);refine pi (pj (pi (pi (sB ob (pi ((U8 hC).here (s:={ s with toks:=s.toks+1 }) ?_))))));rw[if_neg (by simp)];show pF _ _ (if (!tI || !typeHasDict (.ref C))=tI then _ else _) _ _ _;rw[if_neg (by simp [typeHasDict])]
 have hgd:((s.heap.push { cls:=.type "dict",data:=.dict #[] }).update x λo=>{ cls:=o.cls,dict:=tG s⁻¹,data:=o.data,slots:=o.slots }).get? s⁻¹=tG { cls:=.type "dict",data:=.dict #[] } :=
  (aI _ _ hxs).trans (Heap.get?_push_at rfl rfl)
 have hgx:((s.heap.push { cls:=.type "dict",data:=.dict #[] }).update x λo=>{ cls:=o.cls,dict:=tG s⁻¹,data:=o.data,slots:=o.slots }).get? x=tG (xob C (tG s⁻¹) t .none) :=
  ce _ hx1 rfl
 have hnd:((s.heap.push { cls:=.type "dict",data:=.dict #[] }).update x λo=>{ cls:=o.cls,dict:=tG s⁻¹,data:=o.data,slots:=o.slots }).Ns s⁻¹ (λ_=>tH) :=
  #[_,#[],_,hgd,rfl,λe he=>absurd he (by simp),λ_=>rfl]
 refine pi (wpAny_alloc' (pi (wpAny_update' hx1 (pj ?_))));show pF _ _ (Builtin.ObjectAttr.storeInDict s⁻¹ (.str f s.toks) f u) _ _ _;unfold Builtin.ObjectAttr.storeInDict Builtin.ObjectAttr.newKeyGuard;refine pi (pj (pi (wpAny_nsSet1 (Heap.Ns1.of_empty hnd) λh' hn' hs=>?_)));obtain⟨oD,esD,epD,hoD,hdD,hcD⟩:=hn'.count (Within.cons f u Within.nil);refine pi (tj hoD (by rw[hdD];exact pastItsLine_dict (aP hcD (by rw[aD,bj,pY];lia))) ?_);refine pj ?_;have hx2:h'.get? x=tG (xob C (tG s⁻¹) t .none):=(hs.2 x hxs).trans hgx;have hfr:H s⁻¹=tH:=I.hok.fresh (al _);have hxe:x≠s⁻¹:=hxs;refine h _ s⁻¹ hfr ?_
 have k0:∀b o,b≠x->s.heap.get? b=tG o->h'.get? b=tG o:=λb o hb q =>
  (hs.2 b (ax (au q))).trans ((aI _ _ (Ne.symm hb)).trans (ac _ q))
 have I1:Inv X tK σ (upd H x (XN x C (tG s⁻¹))) { s with heap:=h',toks:=s.toks+1+1 } :=
  I.write (x:=x) (e:=x) (by rw[e];exact True.intro) (.inl rfl) k0 ⟨_,hx2⟩ (zbS hx2)
 have hd2:ObjOk X.prog X.w (upd (upd H x (XN x C (tG s⁻¹))) s⁻¹ (.xd [(f,y)])) h' s⁻¹ (.xd [(f,y)]):=by
  refine#[_,hn',λg=>?_];show RelO (bh g [(f,y)]) (if g=f then tG u else tH);by_cases q:g=f
  ·subst q;rw[if_pos rfl];simp [bh,RelO,ry]
  ·rw[if_neg q];have q':(g == f)=tJ:=by simpa using q
   simp [bh,q',RelO]
 have fd:wf X tK (upd H x (XN x C (tG s⁻¹))) s⁻¹:=I.fpOk (al _) (by rw[zk (Ne.symm hxe)];exact hfr);have I2:=Inv.track I1 fd hd2
 have eH:upd (upd H x (XN x C (tG s⁻¹))) s⁻¹ (.xd [(f,y)])=upd (upd H s⁻¹ (.xd [(f,y)])) x (XN x C (tG s⁻¹)):=by
  funext b;unfold upd;by_cases b1:b=s⁻¹
  ·subst b1;rw[if_pos rfl,if_neg (Ne.symm hxe),if_pos rfl]
  ·by_cases b2:b=x
   ·subst b2;rw[if_neg b1,if_pos rfl,if_pos rfl]
   ·rw[if_neg b1,if_neg b2,if_neg b2,if_neg b1]
 rw[eH]at I2;exact I2
end
def zaW(K:pB)(ta tv:TE)(f:pJ):TS:=λD σ H=>tv σ H λy H1=>ta σ H1 λo H2=>∃x C,o=.ref x/\H2 x=tG (XN x C tH)/\XC K C/\NoAttr K C f/\∀dx,H2 dx=tH->D.nx σ (upd (upd H2 dx (.xd [(f,y)])) x (XN x C (tG dx)))
section
variable{X:Cx}{o value:pM}{f:pJ}{pos pos':rj}{ta tv:TE}
theorem Vu(ha:PE X o ta)(hv:PE X value tv)(hs:swapsWith value (tG (.Attribute o f pos')) pos.line X.env=pure tJ):PS X (.Assign [.Attribute o f pos'] value pos) (zaW X.K ta tv f):=by
 intro tK s σ H D I h;refine rQ (thn (hv tK s σ H _ I h) λu s1 ⟨y,H1,I1,ry,q⟩=>thn (ha tK s1 σ H1 _ I1 q) λov s2 ⟨x',H2,I2,rx,x,C,ex,e,xc,n,q2⟩=>?_) hs;subst ex;obtain rfl:ov=Value.ref x:=rx;exact zaf I2 e xc n ry λs3 dx hdx I3=>#[σ,_,I3,q2 dx hdx]
end
section
variable{M:sV}{A:pL}{E:pD->pE->Prop}{s:pE}{env:sx}
theorem VJ{K:pB}{x:tu pD}{Q:Flow->pE->Prop}(hh:A.handled=tH)
  (h:pF M A x (λv s1=>∃e C t dx,v=.ref e/\K.In s1.heap/\Z6 K C=tI/\s1.heap.get? e=tG (xob C dx t .none)/\E (.ref e) s1) E s):pF M A (raiseStmt env (tG x) tH) Q E s:=by
 unfold raiseStmt;refine pi (thn h λv s1 h1=>?_);obtain⟨e,C,t,dx,rfl,X,hC,he,hE⟩:=h1;obtain⟨bm,N,nm,qn,bs,sn,sub,ab,col,dd,k0,k1,k2,k3,k5,lk,tl⟩:=vC hC;have hCo:=X _ _ lk;have T:=tl _ X;have hcB:(Value.ref C::bm).contains (.type "BaseException")=tI:=by rw[dB,T.hasType (show bmV.contains (.type "BaseException")=tI by symm),d5]
 obtain⟨hp,g,d,tk,os⟩:=s1
 repeat (first | with_reducible refine rh he ?_ | with_reducible refine rh hCo ?_ | (with_reducible refine rK hCo ?_;rw[hcB]) | wp_step)
 exact wpAny_raiseNew_none hh hE
theorem V0{K:pB}{e:pM}{pos:rj}{Q:Flow->pE->Prop}(hh:A.handled=tH)
  (h:pF M A (eval e env) (λv s1=>∃a C t dx,v=.ref a/\K.In s1.heap/\Z6 K C=tI/\s1.heap.get? a=tG (xob C dx t .none)/\E (.ref a) s1) E s):pF M A (exec (.Raise (tG e) tH pos) env) Q E s:=by
 rw[arm_exec_Raise]
 first
  | exact pi (rp (VJ hh (pi (thn h λv s1 h1=>pi (rp (pj h1))))))
  | (erw[evalOpt,Option.map];exact pi (rp (VJ hh (pi (thn h λv s1 h1=>pi (rp (pj h1)))))))
end
noncomputable def del(H:Hp)(x:pC):Hp:=λb=>if b=x then tH else H b
theorem Vg{H:Hp}{x b:pC}(h:b≠x):del H x b=H b:=if_neg h
theorem Xm{H:Hp}{x:pC}:del H x x=tH:=if_pos rfl
section
variable{X:Cx}{tK:List (pC × rb)}{σ:St}{H:Hp}{s:pE}
theorem Inv.untrack{x:pC}{φ:pN->Prop}(I:Inv X tK σ H s)(e:H x=tG (.ext φ))(hs:X.s₀.heap.objs.size<=x):Inv X tK σ (del H x) s:=by
 have nx:∀b u,H b=tG u->(∀ψ,u≠.ext ψ)->b≠x:=λb u q nu z=>by subst z;rw[e]at q;cases q;exact nu _ rfl
 have hn:∀b,b≠x->del H x b=H b:=λb hb=>Vg hb;have es:s={ s with heap:=s.heap,gens:=s.gens,drawn:=s.drawn,toks:=s.toks }:=rfl;rw[es]
 refine I.step (g':=s.gens) (d':=s.drawn) (ch:=[x]) (λb hb=>?_) (λb o _ _ _ q _=>q) (λb o _ _ _ q _=>#[o.slots,q]) (λb o hc _ n=>?_)
  (λb o _ q=>#[o,q]) (λb xs q=>?_) (λb u xs q=>?_) (λb ps q=>?_) (λm hm=>hm) (λb u q=>?_) I.bare
 ·have eb:b=x:=by simpa using hb
  subst eb;refine#[.inr hs,λz=>?_,λy c q z=>?_,λp hp z=>?_]
  ·rw[z,I.free]at e;cases e
  ·have:=I.freeC y c q;rw[z,e]at this;cases this
  ·have:=(I.pin p hp).2.1;rw[z,e]at this;cases this
 ·rw[hn b (by simpa using hc)];exact n
 ·rw[hn b (nx b _ q λ_ z=>by cases z)];exact q
 ·rw[hn b (nx b _ q λ_ z=>by cases z)];exact q
 ·exact#[#[],by rw[hn b (nx b _ q λ_ z=>by cases z),q];simp]
 ·by_cases hb:b=x
  ·subst hb;rw[Xm]at q;cases q
  ·rw[hn b hb]at q;exact (I.hok b u q).stay (λc v _ z=>z) (λc z=>by rw[hn c (nx c _ z λ_ y=>by cases y)];exact z) λc xs z=>by rw[hn c (nx c _ z λ_ y=>by cases y)];exact z
theorem Wm{C:pC}{us:List pD}{E:pD->pE->Prop}{Q:pD->pE->Prop}(I:Inv X tK σ H s)(xc:Z6 X.K C=tI)(hi:aj X.K (.ref C) "__init__" = tG (tG (.builtin "ValueError.__init__")))(hl:us.length<=pA)
  (h:∀s' x t,s⁻¹<=x->Inv X tK σ H s'->s'.heap.get? x=tG (xob C tH t .none)->Q (.ref x) s'):pF (model X.prog X.w) X.A (call (.ref C) us) Q E s:=by
 have F:=eI;obtain⟨bm,N,nm,qn,bs,sn,sub,ab,col,dd,k0,k1,k2,k3,k5,lk,tl⟩:=vC xc;have hC:=I.kIn _ _ lk;have T:=tl _ I.kIn;obtain⟨hp,g,d,t,os⟩:=s;have k:∀b o,hp.get? b=tG o->((hp.push { cls:=.type "tuple",data:=.seq us.toArray }).push (xob C tH hp.objs.size .none)).get? b=tG o:=λb o e=>ac _ (ac _ e);refine rE (Xj I.kIn xc hi (λself=>PySem.W.Looks.of_pure (F.init.bind self)) hl ?_);have hget:((hp.push { cls:=.type "tuple",data:=.seq us.toArray }).push (xob C tH hp.objs.size .none)).get? (hp.objs.size+1)=tG (xob C tH hp.objs.size .none):=by heap_get
 refine rV F.init.plain F.initEntry (wpAny_check_init_subT F (T.keeps k) (k _ _ hC) hget rfl ?_)
 wp_walk
 refine#[rfl,h _ (hp.objs.size+1) ((hp.push { cls:=.type "tuple",data:=.seq us.toArray }).push (xob C tH hp.objs.size .none)).objs.size (cB _) (I.kept (t':=t) λb o e=>?_) ?_]
 ·exact (aI _ _ (bW (cX (au e)))).trans (ac _ (k b o e))
 ·exact ce (Obj.mapFields λx=>x.setIfInBounds 0 (Value.ref ((hp.push { cls:=.type "tuple",data:=.seq us.toArray }).push (xob C tH hp.objs.size .none)).objs.size)) (ac _ hget) rfl
def YQ(E:XK)(C:pC)(t:TA):TS:=λ_ σ H=>t σ H λvs H1=>vs.length<=pA/\E (.ref C) tH H1
theorem yH{E:XK}{C:pC}{cn:pJ}{np cpos pos:rj}{e:pM}{es:List pM}{t:TA}(hx:XE X E)(hc:X.calm=tI)(xc:XC X.K C)(hi:aj X.K (.ref C) "__init__" = tG (tG (.builtin "ValueError.__init__")))(hg:Gl X cn)(hm:X.mg cn=tG (.ref C))(ha:PA X (e::es) t)
  (hdb:(cn ==("__debug__" : pJ))=tJ:=by decide) (he:pz (e::es) X.env=(tJ,eval e X.env)::pz es X.env:=by rfl) (hpl:(pS cpos (pz es X.env)).any (·.1)=tJ:=by rfl) :
  PS X (.Raise (tG (.Call (.Name cn np) (e::es) [] cpos)) tH pos) (YQ E C t):=by
 intro tK s σ H D I h;refine V0 (K:=X.K) (I.ok.hd hc) (pV (vk I hg hm ?_ hdb));refine bS (h₀:=X.base) I.ok.mod.kin xc.kp (thn (ha cpos tK s σ H _ I h) λus s1 ⟨vs,H1,I1,r,z,q⟩=>#[I1.kIn,?_]) he hpl;refine Wm (us:=[] ++ us) I1 xc.ok hi (by show us.length<=pA;rw[<- r.length];exact z) λs2 x t hz I2 ob=>#[x,C,t,tH,rfl,I2.kIn,xc.ok,ob,?_];exact hx _ _ #[tK,σ,H1,x,C,t,tH,.none,rfl,I2,ob,.inl rfl,I1.fpOk hz (I1.hok.fresh hz),λT z=>(by cases z),q]
theorem UT{A:pL}{C:pC}{us:List pD}{k:Nat}(r:Room (k+1) A):Room k (A.under (.builtin "type.__call__" #[.ref C::us,[]])):=r.make C us []
def Yq(E:XK)(C:pC)(sp:Sp)(t:TA):TS:=λ_ σ H=>t σ H λvs H1=>vs.length<=pA/\∀x,H1 x=tH->sp (.ref x::vs) (upd H1 x (XN x C tH)) (λv H2=>v=.non/\∃dx,H2 x=tG (XN x C dx)/\E (.ref C) dx (del H2 x)) E0
theorem Ze{E:XK}{C f:pC}{fd:pG}{k:Nat}{ps:List pJ}{sp:Sp}{cn:pJ}{np cpos pos:rj}{e:pM}{es:List pM}{t:TA}(hx:XE X E)(hc:X.calm=tI)(xc:XC X.K C)(hi:aj X.K (.ref C) "__init__" = tG (tG (.ref f)))(hfn:br X.K (.ref f)=tI)
  (F:FnOk X.prog X.w X.K X.mg X.base CX0 k f fd ps sp) (hr:Room (k+1) X.A) (hb:Binds X.K fd ps []) (hg:Gl X cn) (hm:X.mg cn=tG (.ref C)) (ha:PA X (e::es) t)
  (hdb:(cn ==("__debug__" : pJ))=tJ:=by decide) (he:pz (e::es) X.env=(tJ,eval e X.env)::pz es X.env:=by rfl) (hpl:(pS cpos (pz es X.env)).any (·.1)=tJ:=by rfl) :
  PS X (.Raise (tG (.Call (.Name cn np) (e::es) [] cpos)) tH pos) (Yq E C sp t):=by
 intro tK s σ H D I h;refine V0 (K:=X.K) (I.ok.hd hc) (pV (vk I hg hm ?_ hdb));refine bS (h₀:=X.base) I.ok.mod.kin xc.kp (thn (ha cpos tK s σ H _ I h) λus s1 ⟨vs,H1,I1,r,z,q⟩=>#[I1.kIn,?_]) he hpl;have hl:us.length<=pA:=by rw[<- r.length];exact z
 have ob:((s1.heap.push { cls:=.type "tuple",data:=.seq us.toArray }).push (xob C tH s1⁻¹ .none)).get? (s1⁻¹+1)=tG (xob C tH s1⁻¹ .none):=by heap_get
 have hfr:H1 (s1⁻¹+1)=tH:=I1.hok.fresh (cB _)
 have I2:Inv X tK σ (upd H1 (s1⁻¹+1) (XN (s1⁻¹+1) C tH)) { s1 with heap:=(s1.heap.push { cls:=.type "tuple",data:=.seq us.toArray }).push (xob C tH s1⁻¹ .none) } :=
  I1.laid (t':=s1.toks) (λb o e=>ac _ (ac _ e)) (cB _) (zbS ob)
 have q1:=q _ hfr;have r2:Vals (V.ref (s1⁻¹+1)::vs) (Value.ref (s1⁻¹+1)::us):=.cons rfl r
 have hlen:(Value.ref (s1⁻¹+1)::us ++ ([]:List pD)).length=ps.length:=by
  rw[aE,<- r2.length];exact F.len _ _ _ _ q1
 have hb2:=hb { s1 with heap:=(s1.heap.push { cls:=.type "tuple",data:=.seq us.toArray }).push (xob C tH s1⁻¹ .none) } (Value.ref (s1⁻¹+1)::us) I2.kIn hlen;rw[aE]at hb2;have run:=F.run _ X.stack _ _ #[Value.ref (s1⁻¹+1)::us,[]] (Value.ref (s1⁻¹+1)::us) _ _ E0 (UT (C:=C) (us:=us) hr) (I2.env0.make C us []) hb2 r2 q1;have sz0:X.s₀.heap.objs.size<=s1⁻¹+1:=aP I1.sz (cB _);show pF (model X.prog X.w) X.A (call (.ref C) us) _ X.xe s1;refine rE ?_;refine Xj (h:=s1.heap) (g:=s1.gens) (d:=s1.drawn) (t:=s1.toks) (os:=s1.os) (rest:=us) I1.kIn xc.ok hi (λself=>gm I1.kIn self (beq_iff_eq.mp hfn)) hl (rJ run λr s' hq=>?_)
 cases r with
 | error e=>exact False.elim hq
 | ok fl =>
  cases fl with
  | ret u =>
   obtain⟨v,H',I3,rv,ev,dx,hx3,q3⟩:=I2.after hq;subst ev;refine#[rv,?_];obtain⟨t,ob3⟩:=zbP (I3.hok _ _ hx3);have I4:=Inv.untrack I3 hx3 sz0;refine#[_,C,t,dx,rfl,I3.kIn,xc.ok,ob3,hx _ _ #[tK,σ,_,_,C,t,dx,.none,rfl,I4,ob3,.inl rfl,?_,λT z=>(by cases z),q3]];exact I1.fpOk (cB _) Xm
  | next=>exact False.elim hq
  | brk=>exact False.elim hq
  | cont=>exact False.elim hq
end
def zal(X:Cx)(tK:List (pC × rb))(σ:St)(E:XK)(e:pD)(s:pE):Prop:=∃(cx:pD) (kx:Bool) (H:Hp) (x C t:pC) (dx:Option pC) (tb:pD),e=.ref x/\Inv X tK σ H s /\
 s.heap.get? x=tG (xog C dx t tb cx kx)/\KP s.heap x tb/\wf X tK H x/\(∀T,tb=.ref T->wf X tK H T)/\E (.ref C) dx H
noncomputable abbrev TX:=St->Hp->VK->XK->Prop
def PEX(X:Cx)(e:pM)(t:TX):Prop :=
 ∀(tK:List (pC × rb)) (s:pE) (σ:St) (H:Hp) (Q:VK) (E:XK),Inv X tK σ H s->t σ H Q E->pF (model X.prog X.w) X.A (eval e X.env) (EP X tK σ Q) (zal X tK σ E) s
section
variable{X:Cx}
variable{k:Nat}{f:pC}{fd:pG}{ps:List pJ}{sp:Sp}{dvs:List V}{ds:List pD}{x:pJ}{p pos:rj}{e:pM}{es:List pM}{t:TA}
theorem QX(F:FnOk X.prog X.w X.K X.mg X.base (CXx X.prog X.w) k f fd ps sp)(hr:Room k X.A)(hg:Gl X x)(hm:X.mg x=tG (.ref f))(hk:aL X.K (.ref f)=tI)(hb:Binds X.K fd ps ds)(hd:Vals dvs ds)
  (ha:PA X.nox (e::es) t) (hdb:(x ==("__debug__" : pJ))=tJ:=by decide) (he:pz (e::es) X.env=(tJ,eval e X.env)::pz es X.env:=by rfl) (hpl:(pS pos (pz es X.env)).any (·.1)=tJ:=by rfl) :
  PEX X (.Call (.Name x p) (e::es) [] pos) (λσ H Q E=>t σ H λvs H1=>sp (vs ++ dvs) H1 Q E):=by
 intro tK s σ H Q E I h;refine pV (vk I hg hm ?_ hdb);refine bS (h₀:=X.base) I.ok.mod.kin hk (rq (thn (ha pos tK s σ H _ (I.wish _) h) λus s1 ⟨vs,H1,I1,r,q⟩=>#[I1.kIn,?_])) he hpl;have I1':Inv X tK σ H1 s1:=I1.unwish;have r2:Vals (vs ++ dvs) (us ++ ds):=r.append hd;have hl:(us ++ ds).length=ps.length:=by rw[<- r2.length];exact F.len _ _ _ _ q
 refine rE (rJ (F.run X.A X.stack s1 H1 #[us,[]] (us ++ ds) (vs ++ dvs) Q E hr I1'.env0 (hb s1 us I1'.kIn hl) r2 q) λr s' hq=>?_)
 cases r with
 | error e =>
  obtain⟨x,C,t,dx,tb,H',rfl,os,bare,un,hok,ob,tr,hn,hsz,hT,q⟩:=hq;exact#[.none,tJ,H',x,C,t,dx,tb,rfl,I1'.call' os un hok bare (λb z=>absurd z (by simp)),ob,tr,I1'.fpOk hsz hn,λT e=>I1'.fpOk (hT T e).2 (hT T e).1,q]
 | ok fl =>
  cases fl with
  | ret u=>exact I1'.after hq
  | next=>exact False.elim hq
  | brk=>exact False.elim hq
  | cont=>exact False.elim hq
end
noncomputable abbrev Cx.suite(X:Cx)(e:pD):Cx:={ X with A:=X.A.mark (tG e),calm:=tJ,xe:=λ_ _=>False }
theorem Inv.suite{X:Cx}{tK:List (pC × rb)}{σ:St}{H:Hp}{s:pE}(I:Inv X tK σ H s)(e:pD):Inv (Cx.suite X e) tK σ H s :=
 #[#[I.ok.mod,I.ok.kind,I.ok.glob,I.ok.blt,I.ok.above,I.ok.inj,I.ok.has,I.ok.cab,λz=>absurd z (by simp [Cx.suite]),I.ok.frames,I.ok.stk,I.ok.exf,I.ok.bs,I.ok.bsz,I.ok.noex,I.ok.exfs,I.ok.funs,I.ok.frf],
  I.os,I.bare,I.base,I.loc,I.cell,I.free,I.freeC,I.pin,I.hok,I.len]
theorem Inv.unsuite{X:Cx}{tK:List (pC × rb)}{σ σ':St}{H H':Hp}{s s':pE}{e:pD}(J:Inv X tK σ' H' s')(I:Inv (Cx.suite X e) tK σ H s):Inv X tK σ H s :=
 #[J.ok,I.os,I.bare,I.base,I.loc,I.cell,I.free,I.freeC,I.pin,I.hok,I.len]
section
variable{X:Cx}{tK:List (pC × rb)}{σ:St}{H:Hp}{s:pE}
end
theorem zcX{M:sV}{A:pL}{E:pD->pE->Prop}{K:pB}{s:pE}{x C D t:pC}{dx:Option pC}{tb cx:pD}{kx:Bool}{b:Bool}{Q:Bool->pE->Prop}(X:K.In s.heap)(hD:Z6 K D=tI)(he:s.heap.get? x=tG (xog C dx t tb cx kx))
  (hs:df K (.ref C) (.ref D)=tG b) (h:Q b s):pF M A (excMatches (.ref x) (.ref D)) Q E s:=by
 obtain⟨bm,N,nm,qn,bs,sn,sub,ab,col,dd,k0,k1,k2,k3,k5,lk,tl⟩:=vC hD;have hDo:=X _ _ lk;have T:=tl _ X;have hcB:(Value.ref D::bm).contains (.type "BaseException")=tI:=by rw[dB,T.hasType (show bmV.contains (.type "BaseException")=tI by symm),d5]
 have L:=PySem.W.looks_subIn (M:=M) X hs;have f:=tc_notTuple;obtain⟨hp,g,d,tk,os⟩:=s;unfold excMatches
 repeat (first | with_reducible refine rh he ?_ | with_reducible refine rh hDo ?_ | (with_reducible refine rK hDo ?_;rw[hcB]) | (with_reducible refine PySem.W.Looks.at L ?_) | wp_step)
 cases b with
 | false=>exact pj (pj (pj h))
 | true=>exact pj (pj (pj h))
section
variable{X:Cx}
noncomputable def tbL:pD->List pC
 | .ref b=>[b]
 | _=>[]
end
section
variable{prog:pH}{w:pK}{A:pL}{E:pD->pE->Prop}{s:pE}{K:pB}{x C:pC}{ox:rb}{od:Option rb}{name:pJ}{tk:si}
theorem zbo{fill expr:Bool}{Q:pD->pE->Prop}(X:K.In s.heap)(xc:XC K C)(J:PySem.W.InstAt s.heap x ox C od)
  (h:pF (model prog w) A.in1 (Builtin.«object.__getattribute__» #[[.ref x,.str name tk],[]]) (λfin s'=>match fin with | .done (.ret v)=>pF (model prog w) A (handedOut v) Q E s' | _=>False) (λ_ _=>False) s) :
  pF (model prog w) A (getAttrBy (.ref x) (.str name tk) fill expr) Q E s:=by
 obtain⟨bm,N,nm,qn,bs,sn,sub,ab,col,dd,k0,k1,k2,k3,k5,lk,tl⟩:=vC xc.ok;have hC:=X _ _ lk;have T:=tl _ X;have FB:=PySem.F.attrBase_ValueError;have L0:=J.type (M:=model prog w);have L1:=cJ (M:=model prog w) X xc.ga;have L2:=cJ (M:=model prog w) X xc.gt;have hcB:(Value.ref C::bm).contains (.type "BaseException")=tI:=by rw[dB,T.hasType (show bmV.contains (.type "BaseException")=tI by symm),d5]
 have isB:PySem.W.Looks (model prog w) s.heap (isInstance (.ref x) (.type "BaseException")) tI:=L0.andThen (by have:=ZN (M:=model prog w) hC (.type "BaseException");rw[hcB]at this;exact this);have f3:=FB.ga.bind (.ref x);have hx0:(expr && onTheHeap (Value.builtin "BaseException.__getattribute__"))=tJ:=by cases expr <;> rfl
 have hx2:(Value.builtin "BaseException.__getattribute__" == Value.builtin "object.__getattribute__")=tJ:=by symm
 have hx1:(onTheHeap (Value.ref C) && Value.builtin "BaseException.__getattribute__" == Value.builtin "object.__getattribute__")=tJ:=by rw[hx2];rfl
 unfold getAttrBy;refine re (pi (L0.here (pi (L1.here ?_))));show pF _ _ (if (onTheHeap (Value.ref C) && Value.builtin "BaseException.__getattribute__" == Value.builtin "object.__getattribute__")=tI then _ else _) _ _ _;rw[hx1,if_neg aB];unfold getAttrByItsOwn hookBefore;rw[if_pos (by rfl)];refine pi (L2.here (pi (rS (re ?_))));unfold callGetattribute;rw[hx0,if_neg aB];unfold boundAndCalled;rw[f3];refine pi (pj ?_);show pF (model prog w) A (call (.builtin "BaseException.__getattribute__") [.ref x,.str name tk]) _ _ s;refine rE (rV FB.ga.plain PySem.F.entry_bexc_ga (@PySem.W.check_slot (model prog w) _ _ s "BaseException.__getattribute__" "BaseException" "__getattribute__" (.ref x) [.str name tk] [] _ (by symm) (by symm) isB (PySem.F.args_bexc_ga _ _) ?_));refine rD h (λfin s' z=>?_) λ_ _ z=>z.elim;rcases fin with (_ | _ | _ | v) | _ <;> first | exact z | exact z.elim
theorem JE{Q:Option pD->pE->Prop}(X:K.In s.heap)(xc:XC K C)(J:PySem.W.InstAt s.heap x ox C od)(ha:aj K (.ref C) "__class__" = tG (tG (.builtin "object.__class__")))
  (hn:cH K (.builtin "object.__class__") "__get__" = tG (tG (.builtin "getset_descriptor.__get__"))) (htk:d4 K (.builtin "object.__class__")=tG tI) (hm:bU K C (.type "object")=tG tI)
  (h:Q (tG (.ref C)) { s with toks:=s.toks+1 }):pF (model prog w) A (getAttr? (.ref x) "__class__") Q E s:=by
 have hf:gn K C od "__class__" = tG (.bind (.builtin "getset_descriptor.__get__") (.builtin "object.__class__")):=by
  obtain⟨bm,N,nm,qn,bs,sn,sub,ab,col,dd,k0,k1,k2,k3,k5,lk,tl⟩:=vC xc.ok;have hcl:(PySem.W.clsIn K C).isSome=tI:=by unfold PySem.W.clsIn;rw[lk];rfl
  obtain⟨cd,hc⟩:=Aa.mp hcl;unfold gn;rw[hc,bY,ha,bY];simp [hn,htk]
 unfold getAttr? getAttrBy?;refine pi (wpAny_mkText (pi (rS (zbo (s:={ s with toks:=s.toks+1 }) X xc J ?_))));have L0:=J.type (M:=model prog w);have L1:=PySem.W.looks_find (M:=model prog w) X J hf;unfold Builtin.«object.__getattribute__»;refine pi (pj (pi (pj (pi (L0.here (s:={ s with toks:=s.toks+1 }) (pi (L1.here (s:={ s with toks:=s.toks+1 }) ?_)))))));show pF _ _ (holding [.builtin "object.__class__"] (call (.builtin "getset_descriptor.__get__") [.builtin "object.__class__",.ref x,.ref C]) >>= ret) _ _ _;refine pi (re (rE (PySem.W.class_get (s:={ s with toks:=s.toks+1 }) X J hm ?_)));refine pj ?_;show pF _ _ (handedOut (.ref C)) _ _ _;rw[PySem.W.handedOut_of rfl];exact pj (pj h)
end
structure XI(K:pB)(C:pC):Prop extends XC K C where
 ca:aj K (.ref C) "__class__" = tG (tG (.builtin "object.__class__"))
 cg:cH K (.builtin "object.__class__") "__get__" = tG (tG (.builtin "getset_descriptor.__get__"))
 ct:d4 K (.builtin "object.__class__")=tG tI
 mo:bU K C (.type "object")=tG tI
theorem zbw{h:pN}{x C t:pC}{tb c:pD}{k:Bool}(ob:h.get? x=tG (xog C tH t tb c k)):PySem.W.InstAt h x (xog C tH t tb c k) C tH:=#[ob,rfl,rfl,trivial]
theorem zdw{K:pB}{x C:pC}{dx:Option pC}(xi:XI K C):PySem.W.KitX K (.ref x) (.ref C) (λh=>(∃t tb c k,h.get? x=tG (xog C dx t tb c k))/\∀d,dx=tG d->∃o,h.get? d=tG o) where
 ty:=λM h X ⟨⟨t,tb,c,k',ob⟩,_⟩=>(PySem.W.Looks.ld ob).andThen .now
 it:=λM h X _=>by
  obtain⟨bm,N,nm,qn,bs,sn,sub,ab,col,dd,k0,k1,k2,k3,k5,lk,tl⟩:=vC xi.ok;intro A' Q' E' s' k q;unfold isType loadHead;exact pi (sB (k _ _ (X _ _ lk)) (pj q))
 ne:=λh tp dd its n sl X htp=>by
  obtain⟨bm,N,nm,qn,bs,sn,sub,ab,col,dd,k0,k1,k2,k3,k5,lk,tl⟩:=vC xi.ok;refine Ak.mpr λq=>?_;have e:C=tp:=Value.ref.inj (beq_iff_eq.mp q);subst e;have z:=congrArg (λo:Option rb=>o.map λo=>match o.data with | .cls _=>tI | _=>tJ) ((X _ _ lk).symm.trans htp);exact absurd (show tI=tJ from Option.some.inj z) ∅
 ca:=λ{prog w A E Q s} X ⟨⟨t,tb,c,k',ob⟩,hd⟩ k=>by
  cases dx with
  | none=>exact JE X xi.toXC (zbw ob) xi.ca xi.cg xi.ct xi.mo k
  | some d =>
   obtain⟨o,e⟩:=hd d rfl;exact JE (od:=tG o) X xi.toXC #[ob,rfl,rfl,e] xi.ca xi.cg xi.ct xi.mo k
section
variable{X:Cx}
def XAt(H:Hp)(x C:pC)(dx:Option pC)(fs:List (pJ × V)):Prop:=H x=tG (XT x C dx)/\((dx=tH/\fs=[])\/∃d,dx=tG d/\H d=tG (.xd fs))
theorem U4:vm X (.builtin "isinstance") (λxs H Q=>∃x C dx fs c u b,xs=[.ref x,c]/\cV c=tG u/\XAt H x C dx fs/\XI X.K C/\aU X.K (.ref C) u=tG b/\Q (.bl b) H):=by
 intro tK s σ H xs us Q I r h;obtain⟨x,C,dx,fs,c,u,b,rfl,hc,⟨hx,hd⟩,xi,e,q⟩:=h;obtain⟨v,w',rfl,rx,rc⟩:=Vb r;cases rx
 have:w'=u:=by
  cases c with
  | ty n=>cases hc;exact rc
  | ref a=>cases hc;exact rc
  | _=>cases hc
 subst this;refine bv (zdw (dx:=dx) xi) I.kIn #[zd0 (I.hok _ _ hx),λd z=>?_] e (λz=>nomatch z) λtk=>#[.bl b,H,I.tok tk,rfl,q];rcases hd with ⟨z',_⟩ | ⟨d',z',hd'⟩
 ·rw[z']at z;cases z
 ·rw[z']at z;cases z;obtain⟨mA,⟨o,es,ep,ho,_⟩,_⟩:=I.hok _ _ hd';exact#[o,ho]
end
structure Df(P:pH)(w:pK)(K:pB)(mg:pJ->Option pD)(base:pN)(CX:CXT)(k:Nat)(nm:pJ)(ps:List pJ)(ds:List pD)(sp:Sp):Prop where
 ex:∃f fd,FnOk P w K mg base CX k f fd ps sp/\mg nm=tG (.ref f)/\aL K (.ref f)=tI/\Binds K fd ps ds
structure Bt(mg:pJ->Option pD):Prop where
 len:mg "len" = tH
 range:mg "range" = tH
 isi:mg "isinstance" = tH
 str:mg "str" = tH
 int:mg "int" = tH
 tuple:mg "tuple" = tH
 list:mg "list" = tH
 bool:mg "bool" = tH
 enum:mg "enumerate" = tH
 all:mg "all" = tH
 verr:mg "ValueError" = tH
 max:mg "max" = tH
 rev:mg "reversed" = tH
 zip:mg "zip" = tH
 sum:mg "sum" = tH
 sorted:mg "sorted" = tH
section
variable{X:Cx}{CX:CXT}{k:Nat}{ps:List pJ}{sp:Sp}{ds:List pD}{dvs:List V}{E:XK}{x:pJ}{p pos:rj}{e:pM}{es:List pM}{t:TA}
theorem cl0{j:Nat}(D:Df X.prog X.w X.K X.mg X.base CX0 k x ps ds sp)(hr:Room j X.A)(hd:Vals dvs ds)(hg:Gl X x)(ha:PA X (e::es) t)(hdb:(x ==("__debug__" : pJ))=tJ:=by decide)(he:pz (e::es) X.env=(tJ,eval e X.env)::pz es X.env:=by rfl)
  (hpl:(pS pos (pz es X.env)).any (·.1)=tJ:=by rfl) (hj:k<=j:=by decide):PE X (.Call (.Name x p) (e::es) [] pos) (vF sp dvs E0 t):=by
 obtain⟨f,fd,F,hm,hk,hb⟩:=D.ex;exact VA F (hr.mono hj) hg hm hk hb hd YG ha hdb he hpl
theorem clX{j:Nat}(D:Df X.prog X.w X.K X.mg X.base (CXx X.prog X.w) k x ps ds sp)(hr:Room j X.A)(hd:Vals dvs ds)(hg:Gl X x)(ha:PA X.nox (e::es) t)(hdb:(x ==("__debug__" : pJ))=tJ:=by decide)(he:pz (e::es) X.env=(tJ,eval e X.env)::pz es X.env:=by rfl)
  (hpl:(pS pos (pz es X.env)).any (·.1)=tJ:=by rfl) (hj:k<=j:=by decide):PEX X (.Call (.Name x p) (e::es) [] pos) (λσ H Q E=>t σ H λvs H1=>sp (vs ++ dvs) H1 Q E):=by
 obtain⟨f,fd,F,hm,hk,hb⟩:=D.ex;exact QX F (hr.mono hj) hg hm hk hb hd ha hdb he hpl
theorem clP{j:Nat}(hx:XE X E)(D:Df X.prog X.w X.K X.mg X.base (CXx X.prog X.w) k x ps ds sp)(hr:Room j X.A)(hd:Vals dvs ds)(hg:Gl X x)(ha:PA X (e::es) t)(hdb:(x ==("__debug__" : pJ))=tJ:=by decide)(he:pz (e::es) X.env=(tJ,eval e X.env)::pz es X.env:=by rfl)
  (hpl:(pS pos (pz es X.env)).any (·.1)=tJ:=by rfl) (hj:k<=j:=by decide):PE X (.Call (.Name x p) (e::es) [] pos) (vF sp dvs E t):=by
 obtain⟨f,fd,F,hm,hk,hb⟩:=D.ex;exact VA F (hr.mono hj) hg hm hk hb hd (Xf hx) ha hdb he hpl
end
def TyX(K:pB)(H:Hp)(x:V)(t:pD):Prop:=Xa K H x t\/(∃a C dx fs,x=.ref a/\t=.ref C/\XAt H a C dx fs/\XI K C)\/(∃a xs,x=.ref a/\t=.type "list"/\SqL K H a xs)\/∃a xs,x=.ref a/\t=.type "tuple"/\SqT K H a xs
def zc8(K:pB):List V->Hp->VK->Prop:=λxs H Q=>∃x c u t b,xs=[x,c]/\cV c=tG u/\TyX K H x t/\aU K t u=tG b/\Q (.bl b) H
theorem zdm{X:Cx}:vm X (.builtin "isinstance") (zc8 X.K):=by
 intro tK s σ H xs us Q I r h;obtain⟨x,c,u,t,b,rfl,hc,ty,e,q⟩:=h;rcases ty with ty | ⟨a,C,dx,fs,rfl,rfl,ha,xi⟩ | ⟨a,ys,rfl,rfl,hq⟩ | ⟨a,ys,rfl,rfl,hq⟩
 ·exact Q9 tK s σ H _ us Q I r #[x,c,u,t,b,rfl,hc,ty,e,q]
 ·exact U4 tK s σ H _ us Q I r #[a,C,dx,fs,c,u,b,rfl,hc,ha,xi,e,q]
 all_goals
  obtain⟨v,w',rfl,rx,rc⟩:=Vb r
  have:w'=u:=by
   cases c with
   | ty n=>cases hc;exact rc
   | ref a=>cases hc;exact rc
   | _=>cases hc
  subst this;cases rx
 ·obtain⟨its,_,p,_⟩:=I.list hq;obtain⟨o,h1,h2,_⟩:=p.isList;exact bv eL I.kIn #[o,h1,h2] e (λz=>nomatch z) λtk=>#[.bl b,H,I.tok tk,rfl,q]
 ·obtain⟨its,_,p,_⟩:=I.tuple hq;obtain⟨o,h1,h2,_⟩:=p;exact bv fY I.kIn #[o,h1,h2] e (λz=>nomatch z) λtk=>#[.bl b,H,I.tok tk,rfl,q]
theorem xo{X:Cx}{e:pM}{te:TE}{c:pJ}{n:String}{p q pos:rj}(h1:Gl X "isinstance")(h2:X.mg "isinstance" = tH)(he:PE X e te)(hg:Gl X c)(hm:X.mg c=tH)(hv:ra c=tG (.type n))(hn:c≠"__name__":=by decide)(hd:(c ==("__debug__" : pJ))=tJ:=by decide)
  (hs1:pz [e,.Name c q] X.env=(tJ,eval e X.env)::pz [.Name c q] X.env:=by rfl) (hs3:pz [.Name c q] X.env=(tJ,eval (.Name c q) X.env)::pz [] X.env:=by rfl) (hs2:(pS pos (pz [.Name c q] X.env)).any (·.1)=tJ:=by rfl):PE X (.Call (.Name "isinstance" p) [e,.Name c q] [] pos) (tCB (zc8 X.K) (zH te (zH (tC (.ty n)) xF))) :=
 xg zdm h1 h2 boot_isinstance (za he (za (Ku hg hm hv rfl hn hd) ze hs3) hs1) (he:=hs1) (hpl:=hs2)
theorem JQ{a:pC}:cV (.ref a)=tG (.ref a):=rfl
theorem zcz{n:String}:cV (.ty n)=tG (.type n):=rfl
theorem zdu{P w K mg base N q sc f cd A o s H}:(cxH P w K mg base N q sc f cd A o s H).K=K:=rfl
def Xi:V->List V->Hp->VK->Prop:=λx xs H Q=>∃z y,x=.str z/\xs=[.str y]/\Q (.int (Txt.count z y)) H
theorem VU{X:Cx}:MtR X "str.count" Xi:=Qj
def VW:V->List V->Hp->VK->Prop:=λx xs H Q=>∃z y,x=.str z/\xs=[.str y]/\Q (.int (Txt.find z y)) H
theorem JI{X:Cx}:MtR X "str.find" VW:=K8
theorem Yl(l:())(c:Nat):Txt.count (tx l) (tx [c])=(l.count c:Int):=by
 have h:∀l:(),cnt c l=(l.count c:Int):=λl=>by
  induction l with
  | nil=>rfl
  | cons n r ih =>
   rw[cnt_cons,ih,List.count_cons];by_cases e:n=c
   ·subst e;simp;lia
   ·have:(n == c)=tJ:=by simpa using e
    simp [e,this]
 exact (PyProof.Rows.count_is (tx l) c).trans (h l)
theorem lt1{a b:Nat}:([a]:()) < [b] ↔ a<b:=by rw[List.cons_lt_cons_iff];exact#[λh=>h.elim id λ⟨_,q⟩=>absurd q (List.not_lt_nil _),.inl]
theorem UF{l:()}{k v:Nat}(h:l[k]? = tG v):(v::(l.take k ++ l.drop (k+1))).Perm l:=by
 obtain⟨hk,e⟩:=tN.mp h
 have e2:l.take k ++ (v::l.drop (k+1))=l:=by
  rw[<- e,<- aR hk,cC]
 exact (List.perm_middle.symm.trans (by rw[e2]))
def Ut(K:pB):List V->Hp->VK->Prop:=λxs H Q=>match xs with
 | [.str z]=>z.length<=pA/\Q (.int z.length) H
 | [.ref a]=>∃n:Nat,((∃xs,SqL K H a xs/\n=xs.length)\/∃xs,SqT K H a xs/\n=xs.length)/\Q (.int n) H
 | xs=>∃x n,xs=[x]/\zbu K x H n/\Q (.int n) H
theorem rLen_is{K:pB}{xs:List V}{H:Hp}{Q:VK}:Ut K xs H Q=∃x n,xs=[x]/\zbu K x H n/\Q (.int n) H:=by
 unfold Ut;split
 ·exact propext #[λh=>#[_,_,rfl,#[h.1,rfl],h.2],λ⟨_,_,e,h,q⟩=>by cases e;obtain⟨h,rfl⟩:=h;exact#[h,q]]
 ·exact propext #[λ⟨n,h,q⟩=>#[_,n,rfl,h,q],λ⟨_,n,e,h,q⟩=>by cases e;exact#[n,h,q]]
 ·rfl
theorem zdU{X:Cx}:vm X (.builtin "len") (Ut X.K):=λtK s σ H xs us Q I r h=>Qs tK s σ H xs us Q I r (rLen_is.mp h)
def ForR(lo:Int)(n:Nat)(g:TG)(tb:TS)(D:w4)(σ:St)(H:Hp):Prop:=∃W:Nat->Nat->St->Hp->Prop,(∃m,W 0 m σ H)/\∀i m σ H,W i m σ H ->
 ((Itr lo n).stop i H/\D.nx σ H)\/((Itr lo n).go i H/\∃N:St->Hp->Prop,(∀σ' H',N σ' H'->∃m',m'<m/\W (i+1) m' σ' H')/\∀x H',(Itr lo n).yld i H x H'->g x σ H' λσ2 H2=>tb { D with nx:=N,ct:=N,bk:=D.nx } σ2 H2)
theorem zbK{ta:TA}{g:TG}{tb:TS}{D:w4}{σ:St}{H:Hp}:Qm (zab ta) g tb D σ H=ta σ H λvs H1=>∃j:Int,vs=[.int j]/\-(2 ^ 62)<=j/\j<2 ^ 62/\ForR 0 j.toNat g tb D σ H1:=rfl
theorem zcc{ta:TA}{g:TG}{tb:TS}{D:w4}{σ:St}{H:Hp}:Qm (zcD ta) g tb D σ H=ta σ H λvs H1=>∃i j:Int,vs=[.int i,.int j]/\(-(2 ^ 62)<=i/\i<2 ^ 62/\-(2 ^ 62)<=j/\j<2 ^ 62)/\ForR i (j - i).toNat g tb D σ H1:=rfl
theorem ForR.by{lo:Int}{n:Nat}{g:TG}{tb:TS}{D:w4}{σ:St}{H:Hp}(Pv:Nat->St->Hp->Prop)(h0:Pv 0 σ H)
  (hs:∀i σ H,i<n->Pv i σ H->g (.int (lo+i)) σ H λσ2 H2=>tb { D with nx:=Pv (i+1),ct:=Pv (i+1),bk:=D.nx } σ2 H2) (hd:∀σ H,Pv n σ H->D.nx σ H):ForR lo n g tb D σ H:=Vf Pv h0 hs hd
def ForL(K:pB)(a:pC)(g:TG)(tb:TS)(D:w4)(σ:St)(H:Hp):Prop:=∃W:Nat->Nat->St->Hp->Prop,(∃m,W 0 m σ H)/\∀i m σ H,W i m σ H ->
 ((Itl K a).stop i H/\D.nx σ H)\/((Itl K a).go i H/\∃N:St->Hp->Prop,(∀σ' H',N σ' H'->∃m',m'<m/\W (i+1) m' σ' H')/\∀x H',(Itl K a).yld i H x H'->g x σ H' λσ2 H2=>tb { D with nx:=N,ct:=N,bk:=D.nx } σ2 H2)
theorem zej{K:pB}{tl:TE}{g:TG}{tb:TS}{D:w4}{σ:St}{H:Hp}:Qm (zah K tl) g tb D σ H=tl σ H λx H1=>∃a,x=.ref a/\(∃xs,SqL K H1 a xs)/\ForL K a g tb D σ H1:=rfl
def ForS(x:pJ)(g:TG)(tb:TS)(D:w4)(σ:St)(H:Hp):Prop:=∃W:Nat->Nat->St->Hp->Prop,(∃m,W 0 m σ H)/\∀i m σ H,W i m σ H ->
 ((Its x).stop i H/\D.nx σ H)\/((Its x).go i H/\∃N:St->Hp->Prop,(∀σ' H',N σ' H'->∃m',m'<m/\W (i+1) m' σ' H')/\∀v H',(Its x).yld i H v H'->g v σ H' λσ2 H2=>tb { D with nx:=N,ct:=N,bk:=D.nx } σ2 H2)
theorem zeo{tl:TE}{g:TG}{tb:TS}{D:w4}{σ:St}{H:Hp}:Qm (zdZ tl) g tb D σ H=tl σ H λv H1=>∃x,v=.str x/\ForS x g tb D σ H1:=rfl
theorem ForS.by{l:()}{g:TG}{tb:TS}{D:w4}{σ:St}{H:Hp}(Pv:Nat->St->Hp->Prop)(h0:Pv 0 σ H)
  (hs:∀i c σ H,l[i]? = tG c->Pv i σ H->g (.str (tx [c])) σ H λσ2 H2=>tb { D with nx:=Pv (i+1),ct:=Pv (i+1),bk:=D.nx } σ2 H2) (hd:∀σ H,Pv l.length σ H->D.nx σ H):ForS (tx l) g tb D σ H:=zaa Pv h0 hs hd
def ForE(x:pJ)(g:TG)(tb:TS)(D:w4)(σ:St)(H:Hp):Prop:=∃W:Nat->Nat->St->Hp->Prop,(∃m,W 0 m σ H)/\∀i m σ H,W i m σ H ->
 ((Ite x).stop i H/\D.nx σ H)\/((Ite x).go i H/\∃N:St->Hp->Prop,(∀σ' H',N σ' H'->∃m',m'<m/\W (i+1) m' σ' H')/\∀v H',(Ite x).yld i H v H'->g v σ H' λσ2 H2=>tb { D with nx:=N,ct:=N,bk:=D.nx } σ2 H2)
theorem zen{ta:TA}{g:TG}{tb:TS}{D:w4}{σ:St}{H:Hp}:Qm (zcy ta) g tb D σ H=ta σ H λvs H1=>∃x,vs=[.str x]/\ForE x g tb D σ H1:=rfl
theorem ForE.by{l:()}{g:TG}{tb:TS}{D:w4}{σ:St}{H:Hp}(Pv:Nat->St->Hp->Prop)(h0:Pv 0 σ H)
  (hs:∀i c σ H p,l[i]? = tG c->Pv i σ H->H p=tH->g (.ref p) σ (upd H p (.tup [.int (i:Nat),.str (tx [c])])) λσ2 H2=>tb { D with nx:=Pv (i+1),ct:=Pv (i+1),bk:=D.nx } σ2 H2) (hd:∀σ H,Pv l.length σ H->D.nx σ H):ForE (tx l) g tb D σ H:=QJ Pv h0 hs hd
theorem jm{α:Type}(l:List α){k:Int}(h:0<=k):cut l tH (tG k)=l.take k.toNat:=by
 obtain⟨n,rfl⟩:=bM h;unfold cut;rw[HT.sIx_none,HT.sIx_nat,eD,Nat.sub_zero];by_cases q:n<=l.length
 ·rw[dn q];rfl
 ·rw[dQ ⋯,aK,bp (by simp;lia)]
theorem vz{α:Type}(l:List α){k:Int}(h:0<=k):cut l (tG k) tH=l.drop k.toNat:=by
 obtain⟨n,rfl⟩:=bM h;unfold cut;rw[HT.sIx_none,HT.sIx_nat];by_cases q:n<=l.length
 ·rw[dn q];rw[bp (by rw[bi] <;> lia)];rfl
 ·rw[dQ ⋯,db,bq (by simp;lia)];simp
theorem jo{α:Type}{xs:List α}{i:Int}(h0:0<=i)(h1:i<xs.length):∃v,atI xs i=tG v/\xs[i.toNat]? = tG v:=by
 obtain⟨n,rfl⟩:=bM h0;have hn:n<xs.length:=⋯;exact#[xs[n],vY (ag hn),ag hn]
noncomputable def alpha:():=[97,98,99,100,101,102,103,104,105,106,107,108,109,110,111,112,113,114,115,116,117,118,119,120,121,122]
theorem Uv:(("abcdefghijklmnopqrstuvwxyz" : pJ))=tx alpha:=by symm
theorem yb:(pA:Nat)=16777216:=pY
theorem cxK{CX P w K mg base N q sc f cd A o s H E}:(uP CX P w K mg base N q sc f cd A o s H E).K=K:=rfl
theorem cxP{CX P w K mg base N q sc f cd A o s H E}:(uP CX P w K mg base N q sc f cd A o s H E).prog=P:=rfl
theorem cxW{CX P w K mg base N q sc f cd A o s H E}:(uP CX P w K mg base N q sc f cd A o s H E).w=w:=rfl
theorem zce{a b:Int}:U1 (.int a) (.int b)=tI:=rfl
theorem zbN{a b:pJ}:U1 (.str a) (.str b)=tI:=rfl
theorem zcC{a b:Bool}:U1 (.bl a) (.bl b)=tI:=rfl
theorem zcR{b:pJ}:U1 .non (.str b)=tI:=rfl
theorem zcF{b:pJ}:U1 (.str b) .non=tI:=rfl
theorem zd{H:Hp}{p:pC}{o:HO}(h:H p=tH):Same H (upd H p o):=λb u e=>by
 rw[zk (zD e h)];exact e
theorem zL{α:Type}{l:List α}{i:Nat}{c:α}(h:l[i]? = tG c):l.take (i+1)=l.take i ++ [c]:=by
 rw[List.take_add_one,h];rfl
theorem ky{α:Type}{l:List α}{i j:Nat}{c:α}(nd:l.Nodup)(hi:l[i]? = tG c)(hj:l[j]? = tG c):i=j :=
 (List.getElem?_inj (tN.mp hi).1 nd).mp (hi.trans hj.symm)
structure FunD(K:pB)(x qual:pJ)(st:pQ)(dV:pD)(f:pC)(fd:pG):Prop where
 ex:∃(oc:pD) (od:Option pC) (kV doc pm:pD) (an:Option pC) (cdv ct:pD) (osl:Array (Option pD)),
  fd=bB x qual (yx st) (zX st) (zg st) dV kV doc pm an cdv ct/\K.lookup f=tG #[oc,od,.func fd,osl]/\bN K cdv qual=tI
theorem FunD.okX{P:pH}{w:pK}{K:pB}{mg:pJ->Option pD}{base:pN}{x qual:pJ}{st:pQ}{dV:pD}{f:pC}{fd:pG}{N ps:List pJ}{k:Nat}{sp:Sp}(F:FunD K x qual st dV f fd)(S:zo N ps (zg st))(len:∀vs H Q E,sp vs H Q E->vs.length=ps.length)
  (hbody:∀(cdv:pD) (A:pL) (outer:List sx) (s:pE) (H:Hp) (vs:List V) (Q:VK) (E:XK),Room k (A.deeper (rX qual (zg st) s⁻¹ f cdv))->XE (uP (CXx P w) P w K mg base N qual (zg st) f cdv A outer s H E) E->sp vs H Q E ->
   ∃t,PSs (uP (CXx P w) P w K mg base N qual (zg st) f cdv A outer s H E) (zX st) t/\t { nx:=λ_ H'=>Q .non H',rt:=Q } (start N vs) H):FnOk P w K mg base (CXx P w) (k+1) f fd ps sp:=by
 obtain⟨oc,od,kV,doc,pm,an,cdv,ct,osl,rfl,lk,hcd⟩:=F.ex;exact Qd lk hcd S len λA outer s H vs Q E hr hsp=>hbody cdv A outer s H vs Q E hr zbA hsp
def vO(C:pC)(f:pJ):Sp:=λvs H Q _=>∃x v,vs=[.ref x,v]/\H x=tG (XN x C tH)/\∀dx,H dx=tH->Q .non (upd (upd H dx (.xd [(f,v)])) x (XN x C (tG dx)))
def zec(H:Hp)(d:pC)(f:pJ)(v:V)(H':Hp):Prop:=H d=tH/\Same H H'/\H' d=tG (.xd [(f,v)])
theorem V1{E:XK}{C:pC}{f:pJ}{v:V}{H:Hp}(h:∀d H',zec H d f v H'->E (.ref C) (tG d) H'):∀x,H x=tH->vO C f [.ref x,v] (upd H x (XN x C tH)) (λu H2=>u=.non/\∃dx,H2 x=tG (XN x C dx)/\E (.ref C) dx (del H2 x)) E0:=by
 intro x hx;refine#[x,v,rfl,zc,λdx hd=>#[rfl,tG dx,zc,h dx _ #[?_,?_,?_]]]
 ·by_cases e:dx=x
  ·rw[e];exact hx
  ·rw[zk e]at hd;exact hd
 ·have hne:dx≠x:=λe=>by rw[e,zc]at hd;cases hd
  rw[zk hne]at hd;intro b o q;have b1:b≠x:=zD q hx;have b2:b≠dx:=zD q hd;rw[Vg b1,zk b1,zk b2,zk b1];exact q
 ·have hne:dx≠x:=λe=>by rw[e,zc]at hd;cases hd
  rw[Vg hne,zk hne,zc]
section
variable{X:Cx}
def zer:R2:=λx y H Q=>match y with | .non=>Q (.bl (decide (x=.non))) H | _=>False
theorem op_isN':OpR X (pR .Is) zer:=λtK s σ H x y v u Q I rx ry h=>by
 cases y with
 | non=>exact zco tK s σ H x .non v u Q I rx ry #[rfl,h]
 | _=>exact h.elim
def zbs:R2:=λx y H Q=>match y with | .non=>Q (.bl (!decide (x=.non))) H | _=>False
theorem op_notN':OpR X (pR .IsNot) zbs:=λtK s σ H x y v u Q I rx ry h=>by
 cases y with
 | non=>exact KS tK s σ H x .non v u Q I rx ry #[rfl,h]
 | _=>exact h.elim
def Je:List V->Hp->VK->Prop:=λxs H Q=>match xs with | [.int i,.int j]=>Q (.int (if j > i then j else i)) H | _=>False
theorem WX(hc:X.calm=tI):vm X (.builtin "max") Je:=λtK s σ H xs us Q I r h=>by
 unfold Je at h;split at h
 ·exact Vq hc tK s σ H _ us Q I r #[_,_,rfl,h]
 ·exact h.elim
def rGe:R2:=λx y H Q=>onInt x λi=>onInt y λj=>Q (.bl (decide (j<=i))) H
theorem op_ge':OpR X (pR .GtE) rGe:=zdA
end
theorem uW:ra "max" = tG (.builtin "max"):=by symm
def Kt(ls l:())(m:Int)(k:Nat):Prop:=∃c,l[k]? = tG c/\(m<=k\/c ∉ ls)
def FB(ls l:())(m:Int)(k:Nat):Prop:=Kt ls l m k/\∀j<k,¬ Kt ls l m j
def NB(ls l:())(m:Int):Prop:=∀j,¬ Kt ls l m j
theorem FB.nb{ls l:()}{m:Int}{k:Nat}(h:FB ls l m k)(n:NB ls l m):False:=n k h.1
inductive D where
 | non | bl (b:Bool) | int (i:Int) | str (x:pJ) | lst (l:List D) | tup (l:List D)
mutual
def Is(K:pB)(H:Hp):D->V->Prop
 | .non,v=>v=.non
 | .bl b,v=>v=.bl b
 | .int i,v=>v=.int i
 | .str x,v=>v=.str x
 | .lst l,v=>∃a xs,v=.ref a/\SqL K H a xs/\Iss K H l xs
 | .tup l,v=>∃a xs,v=.ref a/\SqT K H a xs/\Iss K H l xs
def Iss(K:pB)(H:Hp):List D->List V->Prop
 | [],vs=>vs=[]
 | d::l,vs=>∃v r,vs=v::r/\Is K H d v/\Iss K H l r
end
mutual
noncomputable def eqD:D->D->Bool
 | .non,.non=>tI
 | .bl a,.bl b=>a == b
 | .bl a,.int b=>(if a then 1 else 0) == b
 | .int a,.bl b=>a ==(if b then 1 else 0)
 | .int a,.int b=>a == b
 | .str a,.str b=>a == b
 | .lst l,.lst m=>vH l m
 | .tup l,.tup m=>vH l m
 | _,_=>tJ
noncomputable def vH:List D->List D->Bool
 | [],[]=>tI
 | d::l,e::m=>eqD d e && vH l m
 | _,_=>tJ
end
mutual
noncomputable def dpD:D->Nat
 | .lst l=>uE l+1
 | .tup l=>uE l+1
 | _=>0
noncomputable def uE:List D->Nat
 | []=>0
 | d::l=>max (dpD d) (uE l)
end
theorem zaD:∀{l:List D} {j:Nat} {d:D},l[j]? = tG d->dpD d<=uE l
 | d::l,0,_,h=>by
  cases h
  erw[uE]
  lia
 | d::l,j+1,e,h=>by
  have:=zaD (l:=l) (j:=j) (d:=e) h
  erw[uE]
  lia
mutual
theorem ku:∀d:D,eqD d d=tI
 | .non=>rfl
 | .bl b=>by simp [eqD]
 | .int i=>by simp [eqD]
 | .str x=>by simp [eqD]
 | .lst l=>by erw[eqD];exact vL l
 | .tup l=>by erw[eqD];exact vL l
theorem vL:∀l:List D,vH l l=tI
 | []=>rfl
 | d::l=>by erw[vH,ku d,vL l,Bool.and_self]
end
theorem Iss.len{K:pB}{H:Hp}:∀{l:List D} {vs:List V},Iss K H l vs->vs.length=l.length
 | [],vs,h=>by erw[Iss]at h;rw[h];rfl
 | d::l,vs,h=>by
  erw[Iss]at h
  obtain⟨v,r,rfl,_,h2⟩:=h
  erw[aD,Iss.len h2]
theorem Iss.at{K:pB}{H:Hp}:∀{l:List D} {vs:List V} {j:Nat} {d:D},Iss K H l vs->l[j]? = tG d->∃v,vs[j]? = tG v/\Is K H d v
 | d::l,vs,0,_,h,q=>by
  cases q
  erw[Iss]at h
  obtain⟨v,r,rfl,h1,_⟩:=h;exact#[v,rfl,h1]
 | d::l,vs,j+1,e,h,q=>by
  erw[Iss]at h
  obtain⟨v,r,rfl,_,h2⟩:=h;exact Iss.at (j:=j) h2 q
theorem Iss.append{K:pB}{H:Hp}:∀{l m:List D} {vs us:List V},Iss K H l vs->Iss K H m us->Iss K H (l ++ m) (vs ++ us)
 | [],m,vs,us,h,g=>by erw[Iss]at h;rw[h];exact g
 | d::l,m,vs,us,h,g=>by
  erw[Iss]at h
  obtain⟨v,r,rfl,h1,h2⟩:=h
  erw[aV,Iss]
  exact#[v,r ++ us,rfl,h1,Iss.append h2 g]
theorem Iss.ints{K:pB}{H:Hp}:∀(l:List Int),Iss K H (l.map D.int) (l.map V.int)
 | []=>by erw[aJ,Iss]
 | i::l=>by
  erw[ar,Iss,Is]
  exact#[_,_,rfl,rfl,Iss.ints l]
theorem zp{K:pB}{H H':Hp}{a:pC}{xs:List V}(e:Same H H')(h:SqT K H a xs):SqT K H' a xs:=by
 rcases h with (h | ⟨o,h⟩) | h
 ·exact .inl (.inl (e _ _ h))
 ·exact .inl (.inr #[o,e _ _ h])
 ·exact .inr h
mutual
theorem Is.same{K:pB}{H H':Hp}(e:Same H H'):∀(d:D) (v:V),Is K H d v->Is K H' d v
 | .non,v,h=>by erw[Is]at h ⊢;exact h
 | .bl b,v,h=>by erw[Is]at h ⊢;exact h
 | .int b,v,h=>by erw[Is]at h ⊢;exact h
 | .str b,v,h=>by erw[Is]at h ⊢;exact h
 | .lst l,v,h=>by
  erw[Is]at h ⊢
  obtain⟨a,xs,e1,e2,e3⟩:=h;exact#[a,xs,e1,e.seq e2,Iss.same e l xs e3]
 | .tup l,v,h=>by
  erw[Is]at h ⊢
  obtain⟨a,xs,e1,e2,e3⟩:=h;exact#[a,xs,e1,zp e e2,Iss.same e l xs e3]
theorem Iss.same{K:pB}{H H':Hp}(e:Same H H'):∀(l:List D) (vs:List V),Iss K H l vs->Iss K H' l vs
 | [],vs,h=>by erw[Iss]at h ⊢;exact h
 | d::l,vs,h=>by
  erw[Iss]at h ⊢
  obtain⟨v,r,e1,e2,e3⟩:=h;exact#[v,r,e1,Is.same e d v e2,Iss.same e l r e3]
end
theorem xP:∀(l m:List D),vH l m=((aW (min l.length m.length)).all (λj=>eqD (l.getD j .non) (m.getD j .non)) && l.length == m.length)
 | [],[]=>rfl
 | [],e::m=>by simp [vH]
 | d::l,[]=>by simp [vH]
 | d::l,e::m=>by
  erw[vH,xP l m,aD]
  have h1:min (l.length+1) (m.length+1)=min l.length m.length+1:=⋯;rw[h1,dN,fR,List.all_map]
  have h2:(l.length+1 == m.length+1)=(l.length == m.length):=by
   rw[di,beq_iff_eq,beq_iff_eq];lia
  rw[h2]
  erw[List.getD_cons_zero,Bool.and_assoc]
  rfl
section
variable{X:Cx}{tK:List (pC × rb)}{σ:St}{H:Hp}{s:pE}
theorem Zu{a:pC}{xs ys:List V}(I:Inv X tK σ H s)(h:SqL X.K H a xs)(g:SqT X.K H a ys):False:=by
 obtain⟨its,r,⟨o,n,e,c,_,d⟩,_⟩:=I.list h;obtain⟨its',r',⟨o',e',c',n',d'⟩,_⟩:=I.tuple g;rw[e]at e';cases e';rw[c]at c';exact absurd (Value.type.inj c') ∅
mutual
theorem UC(I:Inv X tK σ H s):∀(d e:D) (v:V),Is X.K H d v->Is X.K H e v->d=e
 | .lst l,.lst m,v,h,g=>by
  erw[Is]at h g
  obtain⟨a,xs,rfl,h1,h2⟩:=h;obtain⟨b,ys,e,g1,g2⟩:=g;cases e;have:=I.list_inj h1 g1;subst this;rw[YB I l m xs h2 g2]
 | .tup l,.tup m,v,h,g=>by
  erw[Is]at h g
  obtain⟨a,xs,rfl,h1,h2⟩:=h;obtain⟨b,ys,e,g1,g2⟩:=g;cases e;have:=I.tuple_inj h1 g1;subst this;rw[YB I l m xs h2 g2]
 | .lst l,.tup m,v,h,g=>by
  erw[Is]at h g
  obtain⟨a,xs,rfl,h1,h2⟩:=h;obtain⟨b,ys,e,g1,g2⟩:=g;cases e;exact (Zu I h1 g1).elim
 | .tup l,.lst m,v,h,g=>by
  erw[Is]at h g
  obtain⟨a,xs,rfl,h1,h2⟩:=h;obtain⟨b,ys,e,g1,g2⟩:=g;cases e;exact (Zu I g1 h1).elim
 | .lst l,.non,v,h,g=>by erw[Is]at h g;obtain⟨a,xs,rfl,_⟩:=h;cases g
 | .lst l,.bl _,v,h,g=>by erw[Is]at h g;obtain⟨a,xs,rfl,_⟩:=h;cases g
 | .lst l,.int _,v,h,g=>by erw[Is]at h g;obtain⟨a,xs,rfl,_⟩:=h;cases g
 | .lst l,.str _,v,h,g=>by erw[Is]at h g;obtain⟨a,xs,rfl,_⟩:=h;cases g
 | .tup l,.non,v,h,g=>by erw[Is]at h g;obtain⟨a,xs,rfl,_⟩:=h;cases g
 | .tup l,.bl _,v,h,g=>by erw[Is]at h g;obtain⟨a,xs,rfl,_⟩:=h;cases g
 | .tup l,.int _,v,h,g=>by erw[Is]at h g;obtain⟨a,xs,rfl,_⟩:=h;cases g
 | .tup l,.str _,v,h,g=>by erw[Is]at h g;obtain⟨a,xs,rfl,_⟩:=h;cases g
 | .non,e,v,h,g=>by
  erw[Is]at h
  subst h;cases e <;> erw[Is]at g
  all_goals first | rfl | (obtain⟨a,xs,q,_⟩:=g;cases q) | cases g
 | .bl _,e,v,h,g=>by
  erw[Is]at h
  subst h;cases e <;> erw[Is]at g
  all_goals first | (cases g;rfl) | (obtain⟨a,xs,q,_⟩:=g;cases q) | cases g
 | .int _,e,v,h,g=>by
  erw[Is]at h
  subst h;cases e <;> erw[Is]at g
  all_goals first | (cases g;rfl) | (obtain⟨a,xs,q,_⟩:=g;cases q) | cases g
 | .str _,e,v,h,g=>by
  erw[Is]at h
  subst h;cases e <;> erw[Is]at g
  all_goals first | (cases g;rfl) | (obtain⟨a,xs,q,_⟩:=g;cases q) | cases g
theorem YB(I:Inv X tK σ H s):∀(l m:List D) (vs:List V),Iss X.K H l vs->Iss X.K H m vs->l=m
 | [],[],_,_,_=>rfl
 | [],e::m,vs,h,g=>by
  erw[Iss]at h g
  subst h;obtain⟨_,_,q,_⟩:=g;cases q
 | d::l,[],vs,h,g=>by
  erw[Iss]at h g
  subst g;obtain⟨_,_,q,_⟩:=h;cases q
 | d::l,e::m,vs,h,g=>by
  erw[Iss]at h g
  obtain⟨v,r,rfl,h1,h2⟩:=h;obtain⟨v',r',q,g1,g2⟩:=g;cases q;rw[UC I d e v h1 g1,YB I l m r h2 g2]
end
theorem xO:∀{xs:List V} {us:List pD} {j:Nat} {x:V},Vals xs us->xs[j]? = tG x->∃u,us[j]? = tG u/\RelV x u
 | _,_,0,_,.cons r t,h=>by cases h;exact#[_,rfl,r]
 | _,_,j+1,_,.cons r t,h=>xO (j:=j) t h
theorem xA{l m:List D}{xs ys:List V}{its its':List pD}{A:pL}{n:Nat}(hl:Iss X.K H l xs)(hm:Iss X.K H m ys)(r:Vals xs its)(r':Vals ys its')(hn:uE l<n)
  (ih:∀(d e:D) (x y:V) (u v:pD),dpD d<n->Is X.K H d x->Is X.K H e y->RelV x u->RelV y v->SeqAt.EqAt A s u v (eqD d e)) :
  ∀j (h1:j<its.toArray.size) (h2:j<its'.toArray.size),SeqAt.EqAt A s its.toArray[j] its'.toArray[j] (eqD (l.getD j .non) (m.getD j .non)):=by
 intro j h1 h2;rw[ak]at h1 h2;have e1:=hl.len;have e2:=hm.len;have e3:=r.length;have e4:=r'.length;have g1:l[j]? = tG l[j]:=ag ⋯;have g2:m[j]? = tG m[j]:=ag ⋯;generalize l[j]=d at g1;generalize m[j]=e at g2;obtain⟨x,hx,ix⟩:=hl.at g1;obtain⟨y,hy,iy⟩:=hm.at g2;obtain⟨u,hu,ru⟩:=xO r hx;obtain⟨v,hv,rv⟩:=xO r' hy
 have q1:its.toArray[j]=u:=by
  have:=(tN.mp hu).2;simpa using this
 have q2:its'.toArray[j]=v:=by
  have:=(tN.mp hv).2;simpa using this
 rw[q1,q2,af,af,g1,g2];exact ih d e x y u v (cf (zaD g1) hn) ix iy ru rv
theorem qr(I:Inv X tK σ H s):∀(n:Nat) (A:pL) (d e:D) (x y:V) (u v:pD),A.units+n<cLine->dpD d<n->Is X.K H d x->Is X.K H e y->RelV x u->RelV y v->SeqAt.EqAt A s u v (eqD d e):=by
 intro n
 induction n with
 | zero=>intro A d e x y u v _ h;exact absurd h (cS _)
 | succ n ih =>
  intro A d e x y u v hu hd hx hy rx ry;have hu1:A.units<cLine:=⋯;have huA:A.in1.units+n<cLine:=by show A.units+1+n<cLine;lia
  cases d with
  | lst l =>
   erw[Is]at hx
   obtain⟨a,xs,rfl,h1,h2⟩:=hx;cases rx;obtain⟨its,r,p,_⟩:=I.list h1
   cases e with
   | non=>erw[Is]at hy;subst hy;cases ry;exact SeqAt.EqAt.list_none p.isList hu1
   | bl b=>erw[Is]at hy;subst hy;cases ry;exact SeqAt.EqAt.list_bool b p.isList hu1
   | int b=>erw[Is]at hy;subst hy;obtain⟨t,rfl⟩:=ry;exact SeqAt.EqAt.list_int b t p.isList hu1
   | str b=>erw[Is]at hy;subst hy;obtain⟨t,rfl⟩:=ry;exact SeqAt.EqAt.list_str b t p.isList hu1
   | tup m =>
    erw[Is]at hy
    obtain⟨b,ys,rfl,g1,g2⟩:=hy;cases ry;obtain⟨its',r',p',_⟩:=I.tuple g1;exact SeqAt.EqAt.list_tuple p.isList p' hu1
   | lst m =>
    have hy':=hy
    erw[Is]at hy
    obtain⟨b,ys,rfl,g1,g2⟩:=hy;cases ry;obtain⟨its',r',p',_⟩:=I.list g1
    erw[dpD]at hd
    by_cases hab:a=b
    ·subst hab;have:=UC I (.lst l) (.lst m) (.ref a) (by erw[Is];exact#[a,xs,rfl,h1,h2]) hy';rw[this,ku];exact SeqAt.EqAt.same _
    ·refine .of_refs hab ?_
     erw[eqD]
     have L1:=h2.len;have L2:=g2.len;have L3:=r.length;have L4:=r'.length;by_cases hl:l.length=m.length
     ·have:=SeqAt.RcAt.lists (A:=A) p.isList p'.isList (by erw[ak];lia) hu1 (xA h2 g2 r r' (n:=n) ⋯ λd e x y u v q1 q2 q3 q4 q5=>ih A.in1 d e x y u v huA q1 q2 q3 q4 q5);rw[xP,hl,eS,beq_self_eq_true,fS];have e1:its.toArray.size=m.length:=by erw[ak];lia
      rw[e1]at this;exact this
     ·rw[xP,beq_eq_false_iff_ne.mpr hl,eC];exact SeqAt.RcAt.lists_lengths p.isList p'.isList (by rw[bne_iff_ne];erw[ak];lia) hu1
  | tup l =>
   erw[Is]at hx
   obtain⟨a,xs,rfl,h1,h2⟩:=hx;cases rx;obtain⟨its,r,p,_⟩:=I.tuple h1
   cases e with
   | non=>erw[Is]at hy;subst hy;cases ry;exact SeqAt.EqAt.tuple_none p hu1
   | bl b=>erw[Is]at hy;subst hy;cases ry;exact SeqAt.EqAt.tuple_bool b p hu1
   | int b=>erw[Is]at hy;subst hy;obtain⟨t,rfl⟩:=ry;exact SeqAt.EqAt.tuple_int b t p hu1
   | str b=>erw[Is]at hy;subst hy;obtain⟨t,rfl⟩:=ry;exact SeqAt.EqAt.tuple_str b t p hu1
   | lst m =>
    erw[Is]at hy
    obtain⟨b,ys,rfl,g1,g2⟩:=hy;cases ry;obtain⟨its',r',p',_⟩:=I.list g1;exact SeqAt.EqAt.tuple_list p p'.isList hu1
   | tup m =>
    have hy':=hy
    erw[Is]at hy
    obtain⟨b,ys,rfl,g1,g2⟩:=hy;cases ry;obtain⟨its',r',p',_⟩:=I.tuple g1
    erw[dpD]at hd
    by_cases hab:a=b
    ·subst hab;have:=UC I (.tup l) (.tup m) (.ref a) (by erw[Is];exact#[a,xs,rfl,h1,h2]) hy';rw[this,ku];exact SeqAt.EqAt.same _
    ·refine .of_refs hab ?_
     erw[eqD]
     have L1:=h2.len;have L2:=g2.len;have L3:=r.length;have L4:=r'.length;have:=SeqAt.RcAt.tuples (A:=A) p p' hu1 (xA h2 g2 r r' (n:=n) ⋯ λd e x y u v q1 q2 q3 q4 q5=>ih A.in1 d e x y u v huA q1 q2 q3 q4 q5);rw[xP]
     erw[ak]at this
     rw[<- L1,<- L2,L3,L4];exact this
  | non =>
   erw[Is]at hx
   subst hx
   cases e with
   | lst m =>
    erw[Is]at hy
    obtain⟨b,ys,rfl,g1,g2⟩:=hy;cases rx;cases ry;obtain⟨its',r',p',_⟩:=I.list g1;exact SeqAt.EqAt.none_list p'.isList hu1
   | tup m =>
    erw[Is]at hy
    obtain⟨b,ys,rfl,g1,g2⟩:=hy;cases rx;cases ry;obtain⟨its',r',p',_⟩:=I.tuple g1;exact SeqAt.EqAt.none_tuple p' hu1
   | _=>erw[Is]at hy;subst hy;exact Xo rx ry rfl rfl
  | bl c =>
   erw[Is]at hx
   subst hx
   cases e with
   | lst m =>
    erw[Is]at hy
    obtain⟨b,ys,rfl,g1,g2⟩:=hy;cases rx;cases ry;obtain⟨its',r',p',_⟩:=I.list g1;exact SeqAt.EqAt.bool_list _ p'.isList hu1
   | tup m =>
    erw[Is]at hy
    obtain⟨b,ys,rfl,g1,g2⟩:=hy;cases rx;cases ry;obtain⟨its',r',p',_⟩:=I.tuple g1;exact SeqAt.EqAt.bool_tuple _ p' hu1
   | _=>erw[Is]at hy;subst hy;exact Xo rx ry rfl rfl
  | int c =>
   erw[Is]at hx
   subst hx
   cases e with
   | lst m =>
    erw[Is]at hy
    obtain⟨b,ys,rfl,g1,g2⟩:=hy;obtain⟨t,rfl⟩:=rx;cases ry;obtain⟨its',r',p',_⟩:=I.list g1;exact SeqAt.EqAt.int_list _ _ p'.isList hu1
   | tup m =>
    erw[Is]at hy
    obtain⟨b,ys,rfl,g1,g2⟩:=hy;obtain⟨t,rfl⟩:=rx;cases ry;obtain⟨its',r',p',_⟩:=I.tuple g1;exact SeqAt.EqAt.int_tuple _ _ p' hu1
   | _=>erw[Is]at hy;subst hy;exact Xo rx ry rfl rfl
  | str c =>
   erw[Is]at hx
   subst hx
   cases e with
   | lst m =>
    erw[Is]at hy
    obtain⟨b,ys,rfl,g1,g2⟩:=hy;obtain⟨t,rfl⟩:=rx;cases ry;obtain⟨its',r',p',_⟩:=I.list g1;exact SeqAt.EqAt.str_list _ _ p'.isList hu1
   | tup m =>
    erw[Is]at hy
    obtain⟨b,ys,rfl,g1,g2⟩:=hy;obtain⟨t,rfl⟩:=rx;cases ry;obtain⟨its',r',p',_⟩:=I.tuple g1;exact SeqAt.EqAt.str_tuple _ _ p' hu1
   | _=>erw[Is]at hy;subst hy;exact Xo rx ry rfl rfl
def zeA(K:pB):R2:=λx y H Q=>∃l m,((Is K H (.lst l) x/\Is K H (.lst m) y)\/(Is K H (.tup l) x/\Is K H (.tup m) y))/\uE l<50/\Q (.bl (vH l m)) H
def zem(K:pB):R2:=λx y H Q=>∃l m,((Is K H (.lst l) x/\Is K H (.lst m) y)\/(Is K H (.tup l) x/\Is K H (.tup m) y))/\uE l<50/\Q (.bl (!vH l m)) H
theorem zbL(hu:X.A.units+100<cLine):OpR X (pR .Eq) (zeA X.K):=by
 intro tK s σ H x y v u Q I rx ry h;obtain⟨l,m,hh,hd,q⟩:=h;have hu1:X.A.units<cLine:=⋯;have huA:X.A.in1.units+50<cLine:=by show X.A.units+1+50<cLine;lia
 rcases hh with ⟨hx,hy⟩ | ⟨hx,hy⟩
 ·erw[Is]at hx hy
  obtain⟨a,xs,rfl,h1,h2⟩:=hx;obtain⟨b,ys,rfl,g1,g2⟩:=hy;cases rx;cases ry;obtain⟨its,r,p,_⟩:=I.list h1;obtain⟨its',r',p',_⟩:=I.list g1;have L1:=h2.len;have L2:=g2.len;have L3:=r.length;have L4:=r'.length;by_cases hl:l.length=m.length
  ·have:=SeqAt.RcAt.lists (A:=X.A) p.isList p'.isList (by erw[ak];lia) hu1 (xA h2 g2 r r' (n:=50) hd λd e x y u v q1 q2 q3 q4 q5=>qr I 50 X.A.in1 d e x y u v huA q1 q2 q3 q4 q5);have e1:its.toArray.size=m.length:=by erw[ak];lia
   rw[e1]at this;rw[xP,hl,eS,beq_self_eq_true,fS]at q;exact this X.prog X.w X.xe _ #[.bl _,H,I,rfl,q]
  ·rw[xP,beq_eq_false_iff_ne.mpr hl,eC]at q;exact SeqAt.RcAt.lists_lengths p.isList p'.isList (by rw[bne_iff_ne];erw[ak];lia) hu1 X.prog X.w X.xe _ #[.bl _,H,I,rfl,q]
 ·erw[Is]at hx hy
  obtain⟨a,xs,rfl,h1,h2⟩:=hx;obtain⟨b,ys,rfl,g1,g2⟩:=hy;cases rx;cases ry;obtain⟨its,r,p,_⟩:=I.tuple h1;obtain⟨its',r',p',_⟩:=I.tuple g1;have L1:=h2.len;have L2:=g2.len;have L3:=r.length;have L4:=r'.length;have:=SeqAt.RcAt.tuples (A:=X.A) p p' hu1 (xA h2 g2 r r' (n:=50) hd λd e x y u v q1 q2 q3 q4 q5=>qr I 50 X.A.in1 d e x y u v huA q1 q2 q3 q4 q5)
  erw[ak]at this
  rw[xP,<- L1,<- L2,L3,L4]at q;exact this X.prog X.w X.xe _ #[.bl _,H,I,rfl,q]
theorem zcW(hu:X.A.units+100<cLine):OpR X (pR .NotEq) (zem X.K):=by
 intro tK s σ H x y v u Q I rx ry h;obtain⟨l,m,hh,hd,q⟩:=h;have hu1:X.A.units<cLine:=⋯;have huA:X.A.in1.units+50<cLine:=by show X.A.units+1+50<cLine;lia
 rcases hh with ⟨hx,hy⟩ | ⟨hx,hy⟩
 ·erw[Is]at hx hy
  obtain⟨a,xs,rfl,h1,h2⟩:=hx;obtain⟨b,ys,rfl,g1,g2⟩:=hy;cases rx;cases ry;obtain⟨its,r,p,_⟩:=I.list h1;obtain⟨its',r',p',_⟩:=I.list g1;have L1:=h2.len;have L2:=g2.len;have L3:=r.length;have L4:=r'.length;by_cases hl:l.length=m.length
  ·have:=SeqAt.RcNeAt.lists (A:=X.A) p.isList p'.isList (by erw[ak];lia) hu1 (xA h2 g2 r r' (n:=50) hd λd e x y u v q1 q2 q3 q4 q5=>qr I 50 X.A.in1 d e x y u v huA q1 q2 q3 q4 q5);have e1:its.toArray.size=m.length:=by erw[ak];lia
   rw[e1]at this;rw[xP,hl,eS,beq_self_eq_true,fS]at q;exact this X.prog X.w X.xe _ #[.bl _,H,I,rfl,q]
  ·rw[xP,beq_eq_false_iff_ne.mpr hl,eC]at q;exact SeqAt.RcNeAt.lists_lengths p.isList p'.isList (by rw[bne_iff_ne];erw[ak];lia) hu1 X.prog X.w X.xe _ #[.bl _,H,I,rfl,q]
 ·erw[Is]at hx hy
  obtain⟨a,xs,rfl,h1,h2⟩:=hx;obtain⟨b,ys,rfl,g1,g2⟩:=hy;cases rx;cases ry;obtain⟨its,r,p,_⟩:=I.tuple h1;obtain⟨its',r',p',_⟩:=I.tuple g1;have L1:=h2.len;have L2:=g2.len;have L3:=r.length;have L4:=r'.length;have:=SeqAt.RcNeAt.tuples (A:=X.A) p p' hu1 (xA h2 g2 r r' (n:=50) hd λd e x y u v q1 q2 q3 q4 q5=>qr I 50 X.A.in1 d e x y u v huA q1 q2 q3 q4 q5)
  erw[ak]at this
  rw[xP,<- L1,<- L2,L3,L4]at q;exact this X.prog X.w X.xe _ #[.bl _,H,I,rfl,q]
end
theorem Zs(l m:List Int):vH (l.map D.int) (m.map D.int)=decide (l=m):=by
 induction l generalizing m with
 | nil=>cases m <;> simp [vH]
 | cons a l ih =>
  cases m with
  | nil=>simp [vH]
  | cons b m =>
   erw[ar,vH,eqD,ih m]
   by_cases h1:a=b
   ·subst h1;by_cases h2:l=m
    ·simp [h2]
    ·simp [h2]
   ·simp [h1]
theorem Yj(l:List Int):uE (l.map D.int)=0:=by
 induction l with
 | nil=>rfl
 | cons a l ih=>erw[ar,uE,dpD,ih];rfl
abbrev CNx(n i:Nat)(Pv:Nat->List V->Hp->Prop)(tM:List V)(H:Hp):Prop:=∃m',m'<n - i/\(m'=n - (i+1)/\i+1<=n/\Pv (i+1) tM H)
theorem CNx.mk{n i:Nat}{Pv:Nat->List V->Hp->Prop}{tM:List V}{H:Hp}(hi:i<n)(h:Pv (i+1) tM H):CNx n i Pv tM H:=#[n - (i+1),⋯,rfl,hi,h]
def Wg(J:It)(g:TG)(tt:TT)(te:TE)(own:Nat)(ix:())(σ:St)(H1:Hp)(Q:VK)(D:pC):Prop:=∃W:Nat->Nat->List V->Hp->Prop,(∃m,W 0 m [] (upd H1 D (.lst []))) /\
 ∀i m tM H',W i m tM H'->(J.stop i H'/\Q (.ref D) H')\/(J.go i H'/\∀x H2,J.yld i H' x H2->g x (vp σ own ix) H2 λσ3 H3=>xp (vp σ own ix) σ3/\tt σ3 H3 λb H4=>if b=tI then
  te σ3 H4 λv H5=>H5 D=tG (.lst tM)/\tM.length<pA/\∃m',m'<m/\W (i+1) m' (tM ++ [v]) (upd H5 D (.lst (tM ++ [v])))
  else ∃m',m'<m/\W (i+1) m' tM H4)
def CompR(lo:Int)(n:Nat)(g:TG)(tt:TT)(te:TE)(own:Nat)(ix:())(σ:St)(H1:Hp)(Q:VK)(D:pC):Prop:=Wg (Itr lo n) g tt te own ix σ H1 Q D
def CompL(K:pB)(a:pC)(g:TG)(tt:TT)(te:TE)(own:Nat)(ix:())(σ:St)(H1:Hp)(Q:VK)(D:pC):Prop:=Wg (Itl K a) g tt te own ix σ H1 Q D
def CompS(x:pJ)(g:TG)(tt:TT)(te:TE)(own:Nat)(ix:())(σ:St)(H1:Hp)(Q:VK)(D:pC):Prop:=Wg (Its x) g tt te own ix σ H1 Q D
theorem Kh{ta:TA}{g:TG}{tt:TT}{te:TE}{own:Nat}{ix:()}{σ:St}{H:Hp}{Q:VK}:kO (zab ta) g tt te own ix σ H Q=ta σ H λvs H1=>∃j:Int,vs=[.int j]/\-(2 ^ 62)<=j/\j<2 ^ 62/\∀D,H1 D=tH->CompR 0 j.toNat g tt te own ix σ H1 Q D:=rfl
theorem zcr{K:pB}{tl:TE}{g:TG}{tt:TT}{te:TE}{own:Nat}{ix:()}{σ:St}{H:Hp}{Q:VK}:kO (zah K tl) g tt te own ix σ H Q=tl σ H λx H1=>∃a,x=.ref a/\(∃xs,SqL K H1 a xs)/\∀D,H1 D=tH->CompL K a g tt te own ix σ H1 Q D:=rfl
theorem zbr{tl:TE}{g:TG}{tt:TT}{te:TE}{own:Nat}{ix:()}{σ:St}{H:Hp}{Q:VK}:kO (zdZ tl) g tt te own ix σ H Q=tl σ H λv H1=>∃x,v=.str x/\∀D,H1 D=tH->CompS x g tt te own ix σ H1 Q D:=rfl
section
variable{g:TG}{tt:TT}{te:TE}{own:Nat}{ix:()}{σ:St}{H1:Hp}{Q:VK}{D:pC}
theorem CompR.by{lo:Int}{n:Nat}(Pv:Nat->List V->Hp->Prop)(h0:Pv 0 [] (upd H1 D (.lst [])))
  (hs:∀i tM H',i<n->Pv i tM H'->g (.int (lo+i)) (vp σ own ix) H' λσ3 H3=>xp (vp σ own ix) σ3/\tt σ3 H3 λb H4=>if b=tI then
   te σ3 H4 λv H5=>H5 D=tG (.lst tM)/\tM.length<pA/\CNx n i Pv (tM ++ [v]) (upd H5 D (.lst (tM ++ [v])))else CNx n i Pv tM H4)
  (hd:∀tM H',Pv n tM H'->Q (.ref D) H'):CompR lo n g tt te own ix σ H1 Q D:=by
 refine#[λi m tM H=>m=n - i/\i<=n/\Pv i tM H,#[n,by simp,aG _,h0],?_];rintro i m tM H' ⟨rfl,hi,p⟩;by_cases hlt:i<n
 ·refine .inr #[hlt,λx H2 y=>?_];obtain⟨e,y⟩:=y;subst e y;exact hs i tM _ hlt p
 ·have e:i=n:=⋯;subst e;exact .inl #[al _,hd tM H' p]
theorem CompL.by{K:pB}{a:pC}{xs:List V}(Pv:Nat->List V->Hp->Prop)(h0:Pv 0 [] (upd H1 D (.lst [])))(hl:∀i tM H',i<=xs.length->Pv i tM H'->SqL K H' a xs)
  (hs:∀i x tM H',xs[i]? = tG x->Pv i tM H'->g x (vp σ own ix) H' λσ3 H3=>xp (vp σ own ix) σ3/\tt σ3 H3 λb H4=>if b=tI then
   te σ3 H4 λv H5=>H5 D=tG (.lst tM)/\tM.length<pA/\CNx xs.length i Pv (tM ++ [v]) (upd H5 D (.lst (tM ++ [v])))else CNx xs.length i Pv tM H4)
  (hd:∀tM H',Pv xs.length tM H'->Q (.ref D) H'):CompL K a g tt te own ix σ H1 Q D:=by
 refine#[λi m tM H=>m=xs.length - i/\i<=xs.length/\Pv i tM H,#[xs.length,by simp,aG _,h0],?_];rintro i m tM H' ⟨rfl,hi,p⟩;have q:=hl i tM H' hi p;by_cases hlt:i<xs.length
 ·refine .inr #[#[xs,xs[i],q,by simp [hlt]],λx H2 y=>?_];obtain⟨e,y⟩:=y;subst e;exact hs i x tM _ (y xs q) p
 ·have e:i=xs.length:=⋯;subst e;exact .inl #[#[xs,q,al _],hd tM H' p]
theorem CompS.by{l:()}(Pv:Nat->List V->Hp->Prop)(h0:Pv 0 [] (upd H1 D (.lst [])))
  (hs:∀i c tM H',l[i]? = tG c->Pv i tM H'->g (.str (tx [c])) (vp σ own ix) H' λσ3 H3=>xp (vp σ own ix) σ3/\tt σ3 H3 λb H4=>if b=tI then
   te σ3 H4 λv H5=>H5 D=tG (.lst tM)/\tM.length<pA/\CNx l.length i Pv (tM ++ [v]) (upd H5 D (.lst (tM ++ [v])))else CNx l.length i Pv tM H4)
  (hd:∀tM H',Pv l.length tM H'->Q (.ref D) H'):CompS (tx l) g tt te own ix σ H1 Q D:=by
 refine#[λi m tM H=>m=l.length - i/\i<=l.length/\Pv i tM H,#[l.length,by simp,aG _,h0],?_];rintro i m tM H' ⟨rfl,hi,p⟩;by_cases hlt:i<l.length
 ·refine .inr #[hlt,λv H2 y=>?_];obtain⟨e,c,hc,ev⟩:=y;subst e ev;exact hs i c tM _ hc p
 ·have e:i=l.length:=⋯;subst e;exact .inl #[rfl,hd tM H' p]
end
theorem yM{x:V}{r:St}:xp (tH::r) (tG x::r):=#[rfl,λi v h=>by
 cases i with
 | zero=>cases h
 | succ i=>exact h]
theorem zJ{X:Cx}{scope sc:rf}{own caps:List pJ}{ix:()}(h1:scope.kind=.function)(h2:scope.names.all (λy=>y.2 != .cell)=tI)(h3:scope.names.all (λy=>y.2 != .local || scope.names.lookup y.1 == tG .local)=tI)
  (h4:scope.names.all (λy=>y.2 != .free || sc.names.lookup y.1 == tG .cell)=tI) (hsc:X.env.scope=sc) (h5:own.all (λy=>scope.names.lookup y == tG .local)=tI) (h6:caps.all (λy=>scope.names.lookup y == tG .free)=tI) (h7:ix.map (λi=>X.N[i]?)=caps.map tG):jp X scope own caps ix:=by
 refine#[h1,λy hy=>?_,λy hy e=>?_,λy hy=>?_,λy hy=>?_,λy hy=>?_,h7]
 ·have:=tY.mp h2 y hy;simpa using this
 ·have:=tY.mp h3 y hy;rw[e]at this;simpa using this
 ·have:=tY.mp h4 _ hy;have:=by simpa using this
  refine .inl ?_;show X.env.scope.names.lookup y=tG .cell;rw[hsc];exact this
 ·have:=tY.mp h5 y hy;simpa using this
 ·have:=tY.mp h6 y hy;simpa using this
theorem YE{α:Type}(l:List α){a b:Int}(h0:0<=a)(h1:a<=b)(h2:b<=l.length):cut l (tG a) (tG b)=(l.drop a.toNat).take (b - a).toNat:=by
 obtain⟨m,rfl⟩:=bM h0;obtain⟨n,rfl⟩:=bM (by lia:0<=b);unfold cut;rw[HT.sIx_nat,HT.sIx_nat,dn ⋯,dn ⋯];have:((n:Int) - (m:Int)).toNat=n - m:=⋯;rw[this];rfl
theorem Z9{k:Nat}{A:pL}(r:Room k A):A.units+100<cLine:=by have:=r.un;lia
theorem zau{K:pB}{x y:V}{H:Hp}{Q:VK}{l m:List D}(h:(Is K H (.lst l) x/\Is K H (.lst m) y)\/(Is K H (.tup l) x/\Is K H (.tup m) y))(hd:uE l<50)(q:Q (.bl (vH l m)) H):zeA K x y H Q:=#[l,m,h,hd,q]
theorem zaX{K:pB}{x y:V}{H:Hp}{Q:VK}{l m:List D}(h:(Is K H (.lst l) x/\Is K H (.lst m) y)\/(Is K H (.tup l) x/\Is K H (.tup m) y))(hd:uE l<50)(q:Q (.bl (!vH l m)) H):zem K x y H Q:=#[l,m,h,hd,q]
def zdT(t u:TS):TS:=λD σ H=>∃R:St->Hp->Prop,t { D with nx:=R } σ H/\∀σ' H',R σ' H'->u D σ' H'
theorem zi{X:Cx}{st:pQ}{rest:List pQ}{t u:TS}(h1:PS X st t)(h2:PSs X rest u):PSs X (st::rest) (zdT t u):=by
 intro tK s σ H D I h;obtain⟨R,h,hr⟩:=h;refine rH (thn (h1 tK s σ H { D with nx:=R } I h) λf s1 q=>?_)
 cases f with
 | next =>
  obtain⟨σ',H',I',q⟩:=q;exact h2 tK s1 σ' H' D I' (hr _ _ q)
 | ret v=>exact q
 | brk=>exact q
 | cont=>exact q
theorem zb1{t u:TS}{D:w4}{σ:St}{H:Hp}(R:St->Hp->Prop)(h:t { D with nx:=R } σ H)(hr:∀σ' H',R σ' H'->u D σ' H'):zdT t u D σ H:=#[R,h,hr]
theorem zj{t u:TS}{D:w4}{σ:St}{H:Hp}(R:St->Hp->Prop)(h:t { D with nx:=R } σ H)(hr:∀G:St->Hp->Prop,G=u D->∀σ' H',R σ' H'->G σ' H'):zdT t u D σ H:=#[R,h,hr _ rfl]
theorem nm4{α β γ δ:Type}{P R:α->β->γ->δ->Prop}{B:α->β->γ->δ->Prop}(h:∀G:α->β->γ->δ->Prop,G=B->∀a b c d,P a b c d->R a b c d->G a b c d):∀a b c d,P a b c d->R a b c d->B a b c d:=h _ rfl
theorem nm3{α β γ:Type}{P R:α->β->γ->Prop}{B:α->β->γ->Prop}(h:∀G:α->β->γ->Prop,G=B->∀a b c,P a b c->R a b c->G a b c):∀a b c,P a b c->R a b c->B a b c:=h _ rfl
theorem zw{H H':Hp}{a:pC}{o:HO}(h:Same H H')(e:H a=tH):Same H (upd H' a o):=λb u q=>by
 rw[zk (zD q e)];exact h b u q
theorem ForL.by{K:pB}{a:pC}{xs:List V}{g:TG}{tb:TS}{D:w4}{σ:St}{H:Hp}(Pv:Nat->St->Hp->Prop)(h0:Pv 0 σ H)(hl:∀i σ H,i<=xs.length->Pv i σ H->SqL K H a xs)
  (hs:∀i x σ H,xs[i]? = tG x->Pv i σ H->g x σ H λσ2 H2=>tb { D with nx:=Pv (i+1),ct:=Pv (i+1),bk:=D.nx } σ2 H2) (hd:∀σ H,Pv xs.length σ H->D.nx σ H):ForL K a g tb D σ H:=Jl Pv h0 hl hs hd
theorem Qb{A B:Prop}(h:B):if tI=tJ then A else B:=by rw[if_neg ∅];exact h
def CompV(K:pB)(a:pC)(n:Nat)(g:TG)(tt:TT)(te:TE)(own:Nat)(ix:())(σ:L2.St)(H1:Hp)(Q:VK)(D:pC):Prop:=Wg (Irv K a n) g tt te own ix σ H1 Q D
theorem zct{K:pB}{ta:TA}{g:TG}{tt:TT}{te:TE}{own:Nat}{ix:()}{σ:L2.St}{H:Hp}{Q:VK}:kO (zeB K ta) g tt te own ix σ H Q=ta σ H λvs H1=>∃a xs,vs=[.ref a]/\SqL K H1 a xs/\∀D,H1 D=tH->CompV K a xs.length g tt te own ix σ H1 Q D:=rfl
theorem CompV.by{K:pB}{a:pC}{xs:List V}{g:TG}{tt:TT}{te:TE}{own:Nat}{ix:()}{σ:L2.St}{H1:Hp}{Q:VK}{D:pC}(Pv:Nat->List V->Hp->Prop)(h0:Pv 0 [] (upd H1 D (.lst [])))(hl:∀i tM H',i<=xs.length->Pv i tM H'->SqL K H' a xs)
  (hs:∀i x tM H',xs.reverse[i]? = tG x->Pv i tM H'->g x (vp σ own ix) H' λσ3 H3=>xp (vp σ own ix) σ3/\tt σ3 H3 λb H4=>if b=tI then
   te σ3 H4 λv H5=>H5 D=tG (.lst tM)/\tM.length<pA/\CNx xs.length i Pv (tM ++ [v]) (upd H5 D (.lst (tM ++ [v])))else CNx xs.length i Pv tM H4)
  (hd:∀tM H',Pv xs.length tM H'->Q (.ref D) H'):CompV K a xs.length g tt te own ix σ H1 Q D:=by
 refine#[λi m tM H=>m=xs.length - i/\i<=xs.length/\Pv i tM H,#[xs.length,by simp,aG _,h0],?_];rintro i m tM H' ⟨rfl,hi,p⟩;have q:=hl i tM H' hi p;by_cases hlt:i<xs.length
 ·refine .inr #[#[xs,q,rfl,hlt],λx H2 y=>?_];obtain⟨e,y⟩:=y;subst e;refine hs i x tM _ ?_ p;rw[cD hlt];exact y xs q rfl
 ·have e:i=xs.length:=⋯;subst e;exact .inl #[rfl,hd tM H' p]
theorem zdn{v:V}{σ:L2.St}{H:Hp}{Q:VK}:zZ 0 (tG v::σ) H Q=Q v H:=rfl
theorem zdE{a0:Option V}{v:V}{σ:L2.St}{H:Hp}{Q:VK}:zZ 1 (a0::tG v::σ) H Q=Q v H:=rfl
theorem zdD{a0 a1:Option V}{v:V}{σ:L2.St}{H:Hp}{Q:VK}:zZ 2 (a0::a1::tG v::σ) H Q=Q v H:=rfl
theorem zd4{a0 a1 a2:Option V}{v:V}{σ:L2.St}{H:Hp}{Q:VK}:zZ 3 (a0::a1::a2::tG v::σ) H Q=Q v H:=rfl
theorem zea{a0 a1 a2 a3:Option V}{v:V}{σ:L2.St}{H:Hp}{Q:VK}:zZ 4 (a0::a1::a2::a3::tG v::σ) H Q=Q v H:=rfl
theorem zdq{a0 a1 a2 a3 a4:Option V}{v:V}{σ:L2.St}{H:Hp}{Q:VK}:zZ 5 (a0::a1::a2::a3::a4::tG v::σ) H Q=Q v H:=rfl
theorem zdI{a0 a1 a2 a3 a4 a5:Option V}{v:V}{σ:L2.St}{H:Hp}{Q:VK}:zZ 6 (a0::a1::a2::a3::a4::a5::tG v::σ) H Q=Q v H:=rfl
theorem zd2{a0 a1 a2 a3 a4 a5 a6:Option V}{v:V}{σ:L2.St}{H:Hp}{Q:VK}:zZ 7 (a0::a1::a2::a3::a4::a5::a6::tG v::σ) H Q=Q v H:=rfl
theorem zd1{a0 a1 a2 a3 a4 a5 a6 a7:Option V}{v:V}{σ:L2.St}{H:Hp}{Q:VK}:zZ 8 (a0::a1::a2::a3::a4::a5::a6::a7::tG v::σ) H Q=Q v H:=rfl
theorem KG{a0 a1 a2 a3 a4 a5 a6 a7 a8 a9:Option V}{v:V}{σ:L2.St}{H:Hp}{Q:VK}:zZ 10 (a0::a1::a2::a3::a4::a5::a6::a7::a8::a9::tG v::σ) H Q=Q v H:=rfl
theorem zaH{a0 a1 a2 a3 a4 a5 a6 a7 a8 a9 a10:Option V}{v:V}{σ:L2.St}{H:Hp}{Q:VK}:zZ 11 (a0::a1::a2::a3::a4::a5::a6::a7::a8::a9::a10::tG v::σ) H Q=Q v H:=rfl
theorem zc4{b:Bool}{p:Bool->Prop}:(∃k,V.bl b=V.bl k/\p k)=p b:=propext #[λ⟨_,h,q⟩=>by cases h;exact q,λq=>#[_,rfl,q]]
theorem J3{b:Int}{p:Int->Prop}:(∃k,V.int b=V.int k/\p k)=p b:=propext #[λ⟨_,h,q⟩=>by cases h;exact q,λq=>#[_,rfl,q]]
theorem JD{b:pJ}{p:pJ->Prop}:(∃k,V.str b=V.str k/\p k)=p b:=propext #[λ⟨_,h,q⟩=>by cases h;exact q,λq=>#[_,rfl,q]]
theorem Kl{b:pC}{p:pC->Prop}:(∃k,V.ref b=V.ref k/\p k)=p b:=propext #[λ⟨_,h,q⟩=>by cases h;exact q,λq=>#[_,rfl,q]]
theorem zeh{i:Int}{p:Int->Prop}:onInt (.int i) p=p i:=rfl
theorem zdo{i:pJ}{p:pJ->Prop}:onStr (.str i) p=p i:=rfl
theorem zdv{i:Bool}{p:Bool->Prop}:onBl (.bl i) p=p i:=rfl
theorem zdx{i:pC}{p:pC->Prop}:onRef (.ref i) p=p i:=rfl
theorem zd7{K:pB}{b:Bool}{H:Hp}{p:Bool->Prop}:zdi K (.bl b) H p=p b:=rfl
theorem Ks{x:V}{p:Int->Prop}:onInt x p=∃k,x=.int k/\p k:=propext #[onInt.of,onInt.to]
theorem JT{x:V}{p:pJ->Prop}:onStr x p=∃k,x=.str k/\p k:=propext #[onStr.of,onStr.to]
theorem Kk{x:V}{p:Bool->Prop}:onBl x p=∃k,x=.bl k/\p k:=propext #[onBl.of,onBl.to]
theorem JY{x:V}{p:pC->Prop}:onRef x p=∃k,x=.ref k/\p k:=propext #[onRef.of,onRef.to]
theorem Ur{i:Nat}{σ:L2.St}{H:Hp}{Q:VK}:zZ i σ H Q=∃v,σ[i]? = tG (tG v)/\Q v H:=propext #[onSl.of,λ⟨v,h,q⟩=>by erw[zZ,onSl,h];exact q]
theorem KO{a b:Int}{H:Hp}{Q:VK}:rEq (.int a) (.int b) H Q=Q (.bl (decide (a=b))) H:=rfl
theorem KH{a b:pJ}{H:Hp}{Q:VK}:rEq (.str a) (.str b) H Q=Q (.bl (decide (a=b))) H:=rfl
theorem zbc{a b:Int}{H:Hp}{Q:VK}:rNe (.int a) (.int b) H Q=Q (.bl (!decide (a=b))) H:=rfl
theorem zaM{a b:pJ}{H:Hp}{Q:VK}:rNe (.str a) (.str b) H Q=Q (.bl (!decide (a=b))) H:=rfl
theorem zaj{a:Int}{y:V}{H:Hp}{Q:VK}:jb (.int a) y H Q=onInt y λj=>Q (.int (a+j)) H:=rfl
theorem KC{a:pJ}{y:V}{H:Hp}{Q:VK}:jb (.str a) y H Q=onStr y λj=>a.length+j.length<=pA/\Q (.str (a ++ j)) H:=rfl
theorem za5{a:pC}{y:V}{H:Hp}{Q:VK}:jb (.ref a) y H Q=zbh (.ref a) y H Q:=rfl
theorem za0{a:Int}{y:V}{H:Hp}{Q:VK}:Qz (.int a) y H Q=onInt y λj=>CMul a j/\Q (.int (a * j)) H:=rfl
theorem KJ{z:pJ}{y:V}{H:Hp}{Q:VK}:Qz (.str z) y H Q=onInt y λn=>0<=n/\n<=1000/\z.length<=1000/\Q (.str (tx (am n.toNat (cs z)).flatten)) H:=rfl
theorem zdP{a:Int}{y:V}{H:Hp}{Q:VK}:zel (.int a) y H Q=onInt y λj=>Q (.bl (decide (a<j))) H:=rfl
theorem zdG{a:pJ}{y:V}{H:Hp}{Q:VK}:zel (.str a) y H Q=onStr y λj=>Q (.bl (decide (cs a<cs j))) H:=rfl
theorem zee{a:Int}{y:V}{H:Hp}{Q:VK}:zef (.int a) y H Q=onInt y λj=>Q (.bl (decide (a<=j))) H:=rfl
theorem zdp{a:pJ}{y:V}{H:Hp}{Q:VK}:zef (.str a) y H Q=onStr y λj=>Q (.bl (!(decide (cs j<cs a)))) H:=rfl
theorem zdj{a:Int}{y:V}{H:Hp}{Q:VK}:zdf (.int a) y H Q=onInt y λj=>Q (.bl (decide (j<a))) H:=rfl
theorem zdK{a:pJ}{y:V}{H:Hp}{Q:VK}:zdf (.str a) y H Q=onStr y λj=>Q (.bl (decide (cs j<cs a))) H:=rfl
theorem zdy{K:pB}{a:pC}{y:V}{H:Hp}{Q:VK}:rIx K (.ref a) y H Q=onInt y λi=>(∃xs,SqL K H a xs/\∃v,atI xs i=tG v/\Q v H)\/∃xs,SqT K H a xs/\∃v,atI xs i=tG v/\Q v H:=rfl
theorem zdV{K:pB}{z:pJ}{y:V}{H:Hp}{Q:VK}:rIx K (.str z) y H Q=zaU (.str z) y H Q:=rfl
theorem zap{K:pB}{z:pJ}{lo hi:Option Int}{H:Hp}{Q:VK}:zdY K (.str z) lo hi H Q=(z.length<=pA/\Q (.str (tx (cut (cs z) lo hi))) H):=rfl
theorem zbd{K:pB}{a:pC}{lo hi:Option Int}{H:Hp}{Q:VK}:zdY K (.ref a) lo hi H Q=(∃xs,SqL K H a xs/\∀p,H p=tH->Q (.ref p) (upd H p (.lst (zaA xs lo hi)))):=rfl
theorem zaF{K:pB}{z:pJ}{H:Hp}{Q:VK}:Ut K [.str z] H Q=(z.length<=pA/\Q (.int z.length) H):=rfl
theorem K1{K:pB}{a:pC}{H:Hp}{Q:VK}:Ut K [.ref a] H Q=(∃n:Nat,((∃xs,SqL K H a xs/\n=xs.length)\/∃xs,SqT K H a xs/\n=xs.length)/\Q (.int n) H):=rfl
theorem zak{x:V}{H:Hp}{Q:VK}:zer x .non H Q=Q (.bl (decide (x=.non))) H:=rfl
theorem zad{x:V}{H:Hp}{Q:VK}:zbs x .non H Q=Q (.bl (!decide (x=.non))) H:=rfl
theorem KN{i j:Int}{H:Hp}{Q:VK}:Je [.int i,.int j] H Q=Q (.int (if j > i then j else i)) H:=rfl
theorem Kv{a:pC}{y:V}{H:Hp}{Q:VK}:UR (.ref a) [y] H Q=(∃xs,H a=tG (.lst xs)/\xs.length<pA/\Q .non (upd H a (.lst (xs ++ [y])))):=rfl
theorem zeF{K:pB}{z:pJ}{H:Hp}{p:Prop}:(tyV K "str" (.str z) H/\p)=p:=propext #[λh=>h.2,λh=>#[rfl,h]]
section
variable{X:Cx}{a b e:pM}{ta tb te:TE}{pos p:rj}
theorem zF(i:Nat){x:pJ}{pos':rj}(hN:X.N.Nodup)(he:PE X e te)(hi:X.N[i]? = tG x:=by rfl)(hx:Loc X.env.scope x:=by exact .inl rfl)(hs:swapsWith e (tG (.Name x pos')) pos.line X.env=pure tJ:=by rfl)(hf:X.fn x=tI\/X.env.scope.names.lookup x=tG .local:=by first | exact .inl rfl | exact .inr rfl | assumption) :
  PS X (.Assign [.Name x pos'] e pos) (zbj te (yR i)):=qK hN hi hx he hs hf
theorem zl{r:R2}(hr:IxR X r)(ha:PE X a ta)(hb:PE X b tb)(hs:Uu b:=by exact λ_ _=>rfl):PE X (.Subscript a b pos) (tOp r ta tb):=zed hr ha hb hs
theorem zK(hm:X.mg "len" = tH)(he:PE X e te)(hg:Gl X "len":=by rfl)(h1:pz [e] X.env=(tJ,eval e X.env)::pz [] X.env:=by rfl)(h2:(pS pos (pz [] X.env)).any (·.1)=tJ:=by rfl):PE X (.Call (.Name "len" p) [e] [] pos) (tCB (Ut X.K) (zH te xF)) :=
 xg zdU hg hm PySem.boot_len (za he ze h1) (he:=h1) (hpl:=h2)
end
section
variable{X:Cx}
theorem VR:∀{ys:List pJ} {its:List pD},Vals (ys.map V.str) its->∃l:List (pJ × si),its=strValues l/\l.map (·.1)=ys
 | [],_,.nil=>#[[],rfl,rfl]
 | y::ys,_,.cons r t=>by
  obtain⟨tk,rfl⟩:=r;obtain⟨l,e1,e2⟩:=VR t;exact#[(y,tk)::l,by rw[e1];rfl,by rw[ar,e2]]
def zbz(K:pB):V->List V->Hp->VK->Prop:=λx xs H Q=>∃z p ys,x=.str z/\xs=[.ref p]/\SqL K H p (ys.map V.str)/\JoinOk z ys=tI/\Q (.str (Txt.join z ys)) H
theorem UJ:MtR X "str.join" (zbz X.K):=by
 intro tK s σ H x xs v us Q I rx rv h;obtain⟨z,p,ys,rfl,rfl,hS,hok,q⟩:=h;obtain⟨t,rfl⟩:=rx;obtain⟨u,rfl,ru⟩:=xz rv;cases ru;obtain⟨its,r,pl,_⟩:=I.list hS;obtain⟨l,rfl,e⟩:=VR r;exact PySem.SC.join pl.isList e hok λt' k=>#[.str _,H,I.tok _,#[_,rfl],q]
theorem kz:∀{bs:List Bool} {its:List pD} {i:Nat} {v:pD},Vals (bs.map V.bl) its->its[i]? = tG v->v=.bool (bs.getD i tJ)
 | [],_,_,_,.nil,h=>by cases h
 | b::bs,_,0,v,.cons r t,h=>by
  cases r;cases h;rfl
 | b::bs,_,i+1,v,.cons r t,h=>kz (bs:=bs) (i:=i) t h
theorem VC(bs:List Bool):(aW bs.length).all (λi=>bs.getD i tJ)=bs.all id:=by
 induction bs with
 | nil=>rfl
 | cons b bs ih =>
  rw[aD,dN,fR,List.all_map,fR,<- ih];rfl
def zeO(K:pB):List V->Hp->VK->Prop:=λxs H Q=>∃(p:pC) (bs:List Bool),xs=[.ref p]/\SqL K H p (bs.map V.bl)/\Q (.bl (bs.all id)) H
theorem zdX(hc:X.calm=tI):vm X (.builtin "all") (zeO X.K):=by
 intro tK s σ H xs us Q I r h;obtain⟨p,bs,rfl,hS,q⟩:=h;obtain⟨u,rfl,ru⟩:=xz r;cases ru;obtain⟨its,rv,pl,hz⟩:=I.list hS
 have hlen:its.length=bs.length:=by
  have:=rv.length;rw[aa]at this;exact this.symm
 have hh:X.A.in1.handled=tH:=I.ok.hd hc
 have hne:p≠s⁻¹:=by
  obtain⟨o,n,e,_⟩:=pl;exact ax (au e)
 obtain⟨f0,f1,f2,f3,f4,f5⟩:=I.fpOk (H':=H) (al _) (I.hok.fresh (al _));have I1:=I.kept (t':=s.toks) (h':=s.heap.push { cls:=.type "list_iterator",data:=.fields (List.toArray [.ref p,.int 0 0]) }) λb o e=>ac _ e;refine call_all_walk (rO pl.isList ?_);refine#[s⁻¹,_,_,_,_,_,λi=>bs.getD i tJ,rfl,Walks.list hh s⁻¹ p hne its.toArray,#[#[_,aC _ rfl,rfl,rfl],?_],?_,?_]
 ·obtain⟨o,n,e,c,d,dt⟩:=pl;exact#[o,ac _ e,c,n,dt]
 ·intro i v s' Q' E' hv hq;have:=kz rv (i:=i) (v:=v) (by simpa using hv);rw[this];exact pX hq
 ·intro h' tk hk
  have e:(aW its.toArray.size).all (λi=>bs.getD i tJ)=bs.all id:=by
   rw[ak,hlen,VC]
  rw[e];refine#[.bl _,H,?_,rfl,q];exact I1.turned (t':=tk) (it:=s⁻¹) (λb o hb q=>hk b o (by simpa using hb) q) f0 f1 f3 f4 f5
end
section
variable{M:sV}{A:pL}{E:pD->pE->Prop}{s:pE}{base:pN}{env env0:sx}{outer:List sx}{L x t C:pC}{dx:Option pC}
theorem zcY{tb:pD}{Q:Unit->pE->Prop}(hfr:A.frames=tG (env0::outer))(hl:s.heap.FunFrames base (env0::outer))(hf:env0.frame=tG L)(he:env.frame=tG L)
  (hx:s.heap.get? x=tG (xob C dx t tb)) (htb:KP s.heap x tb)
  (h:∀h' T oT ts,h'.get? x=tG (xob C dx t (.ref T))->T≠x->(tb=.ref T\/s⁻¹<=T)->h'.get? T=tG oT->oT.data=.fields ts->3<ts.size ->
   (∀b o,b≠x->tb≠.ref b->b ∉ frs (env0::outer)->s.heap.get? b=tG o->h'.get? b=tG o)->(∀b o,b≠x->tb≠.ref b->s.heap.get? b=tG o->∃sl,h'.get? b=tG { o with slots:=sl })->Q Unit.unit { s with heap:=h' }) :
  pF M A (noteFrame (.ref x) env) Q E s:=by
 have land:∀(h1:pN) (T:pC) (oT:rb) (ts:Array pD),h1.get? x=tG (xob C dx t (.ref T))->T≠x->(tb=.ref T\/s⁻¹<=T)->h1.get? T=tG oT->oT.data=.fields ts->3<ts.size ->
   (∀b o,b≠x->tb≠.ref b->b ∉ frs (env0::outer)->s.heap.get? b=tG o->h1.get? b=tG o)->(∀b o,b≠x->tb≠.ref b->s.heap.get? b=tG o->∃sl,h1.get? b=tG { o with slots:=sl }) ->
   Q Unit.unit { s with heap:=h1 }:=λh1 T oT ts e1 nT oldT e2 d2 z2 k1 k2=>h h1 T oT ts e1 nT oldT e2 d2 z2 k1 k2
 unfold noteFrame
 erw[he]
 refine pi (pT hx rfl (x:=tb) rfl ?_);rcases htb with rfl | ⟨T,oT,ts,rfl,nT,e2,d2,z2⟩
 ·rw[if_neg ∅];refine jY hfr hl hf he hx λh' oT ts e1 ne e2 d2 z2 k1 k2=>land h' _ oT ts e1 ne (.inr (al _)) e2 d2 z2 (λb o hb _ hbf e=>k1 b o hb hbf e) λb o hb _ e=>k2 b o hb e
 ·rw[if_pos (show (Value.ref T != Value.none)=tI from by simp)];obtain⟨y,hy⟩:∃y,ts[3]? = tG y:=#[ts[3],by simp [z2]];refine pi (pT e2 d2 (x:=y) hy ?_);by_cases c:(y == rawInt L)=tI
  ·rw[if_pos c];exact pj (land s.heap T oT ts hx nT (.inl rfl) e2 d2 z2 (λb o _ _ _ e=>e) λb o _ _ e=>#[o.slots,e])
  ·rw[if_neg c];refine pi (rz e2 d2 z2 ?_);have oth:∀b,b≠T->(s.heap.update T (Obj.mapFields (·.setIfInBounds 3 Value.none))).get? b=s.heap.get? b:=λb hb=>aI _ _ (Ne.symm hb);have hl1:(s.heap.update T (Obj.mapFields (·.setIfInBounds 3 Value.none))).FunFrames base (env0::outer):=hl.of_keeps λb o hb hnf=>#[o,(oth b λq=>by rw[q,e2]at hb;cases hb;exact hnf ts d2).trans hb,rfl];have hsz:(s.heap.update T (Obj.mapFields (·.setIfInBounds 3 Value.none))).objs.size=s⁻¹:=dP ..;refine jY (s:={ s with heap:=s.heap.update T (Obj.mapFields (·.setIfInBounds 3 Value.none)) }) hfr hl1 hf he ((oth x (Ne.symm nT)).trans hx) λh' oT' ts' e1 ne e2' d2' z2' k1 k2=>?_;refine land h' _ oT' ts' e1 ne (.inr (by rw[hsz];exact al _)) e2' d2' z2' (λb o hb hbt hbf e=>k1 b o hb hbf ((oth b λq=>hbt (by rw[q])).trans e)) λb o hb hbt e=>k2 b o hb ((oth b λq=>hbt (by rw[q])).trans e)
end
section
variable{X:Cx}{tK:List (pC × rb)}{σ:St}{H1:Hp}{s1:pE}
theorem Inv.noted{h':pN}{x T:pC}{tb:pD}(I1:Inv X tK σ H1 s1)(hst:X.stack=X.env::X.outer)(fx:wf X tK H1 x)(fT:∀T,tb=.ref T->wf X tK H1 T)(fT':wf X tK H1 T)
  (k1:∀b o,b≠x->tb≠.ref b->b ∉ frs (X.env::X.outer)->s1.heap.get? b=tG o->h'.get? b=tG o) (k2:∀b o,b≠x->tb≠.ref b->s1.heap.get? b=tG o->∃sl,h'.get? b=tG { o with slots:=sl }):Inv X tK σ H1 { s1 with heap:=h' }:=by
 have tbs:∀b,tb=.ref b->H1 b=tH:=λb hb=>(fT b hb).1
 have nch:∀b o,s1.heap.get? b=tG o->b ∉ (x::T::tbL tb)->b≠x/\tb≠.ref b:=λb o _ hb=>by
  refine#[λz=>hb (by simp [z]),λz=>hb ?_];rw[z];simp [tbL]
 have un:Un (frs X.stack) (x::T::tbL tb) H1 H1 s1.heap h':=by
  rw[hst];refine#[λb o e n hb hc=>?_,λb o e n hb hc=>?_,λb o e n _=>n,λb o e hc=>?_,λb xs e=>e,λb o u e=>e,λb ps e=>#[#[],by rw[e];simp]]
  ·obtain⟨a1,a2⟩:=nch b o e hc;exact k1 b o a1 a2 hb e
  ·obtain⟨a1,a2⟩:=nch b o e hc;exact k2 b o a1 a2 e
  ·obtain⟨a1,a2⟩:=nch b o e hc;obtain⟨sl,q⟩:=k2 b o a1 a2 e;exact#[_,q]
 have hok:HOk X.prog X.w H1 h':=λb u e=>by
  refine (I1.hok b u e).stay (λc v hc q=>k1 c v ?_ ?_ ?_ q) (λ_ q=>q) λ_ _ q=>q
  ·rintro rfl;rcases hc with rfl | hc
   ·rw[fx.1]at e;cases e
   ·rw[fx.1]at hc;cases hc
  ·intro z;have:=tbs c z;rcases hc with rfl | hc
   ·rw[this]at e;cases e
   ·rw[this]at hc;cases hc
  ·intro z;rw[<- hst]at z;have:=I1.stkFree c z;rcases hc with rfl | hc
   ·rw[this]at e;cases e
   ·rw[this]at hc;cases hc
 exact I1.call' (s':={ s1 with heap:=h' }) rfl un hok I1.bare λb hb=>by
  have fb:wf X tK H1 b:=by
   rcases tP.mp hb with z | z
   ·rw[z];exact fx
   ·rcases tP.mp z with z | z
    ·rw[z];exact fT'
    ·cases tb with
     | ref b' =>
      have:b=b':=by simpa [tbL] using z
      rw[this];exact fT b' rfl
     | _=>simp [tbL]at z
  obtain⟨_,a1,_,a3,a4,a5⟩:=fb;exact#[a3,a1,a4,a5]
end
section
variable{X:Cx}{scope:rf}{own caps:List pJ}{ix:()}{cl:List (pJ × pC)}
theorem Uj{N:List pJ}{EX:XK}{tK:List (pC × rb)}{σ:St}{H3:Hp}{s3:pE}{fp:List pC}{xe:pD->pE->Prop}{e:pD}{s1:pE}{RE:pD->pE->Prop}(hst:X.stack=X.env::X.outer/\X.env.frame=tG X.env.locals)(hxe:XE X EX)
  (hc1:∀y c,cl.lookup y=tG c->X.env.cells.lookup y=tG c) (I3:Inv X tK σ H3 s3) (f3:∀b ∈ fp,wf X tK H3 b) (fl:zcU (yl X scope cl s3⁻¹ N tK s3 H3 fp xe) EX e s1)
  (hRE:∀m s' x,s'.heap.Ns s3⁻¹ m->(∀h',Heap.SameBut s3⁻¹ s'.heap h'->∀cenv:sx,cenv.locals=s3⁻¹->pF (model X.prog X.w) X.A (fZ "comprehension.variables-let-go" x cenv:tu pD) (λ_ _=>False) X.xe { s' with heap:=h' })->RE x s') :
  notedBy (model X.prog X.w) X.A (compEnvC scope cl s3⁻¹ X.env) RE e s1:=by
 obtain⟨pins',σ',H1,x,C,t,dx,tb,rfl,I1,ob,tr,fx,fT,q⟩:=fl
 have IX:Inv X tK σ H1 s1:=I3.call' (s':=s1) I1.os I1.base I1.hok I1.bare λb hb=>by
  obtain⟨_,a1,a2,a3,a4,a5⟩:=f3 b hb;exact#[a3,a1,a4,a5]
 have up:∀b,wf (yl X scope cl s3⁻¹ N tK s3 H3 fp xe) pins' H1 b->wf X tK H1 b:=λb hb=>by
  obtain⟨a0,a1,a2,a3,a4,a5⟩:=hb;rcases a3 with a3 | a3
  ·exact#[a0,(f3 b a3).2]
  ·exact I3.fpOk a3 a0
 have fx':=up x fx;have fT':∀T,tb=.ref T->wf X tK H1 T:=λT h=>up T (fT T h);have fr:X.A.frames=tG (X.env::X.outer):=by rw[<- hst.1];exact IX.ok.frames
 have ff:s1.heap.FunFrames X.base (X.env::X.outer):=by rw[<- hst.1];exact IX.stack
 obtain⟨m,hm,_⟩:=I1.loc;have fC:wf X tK H1 s3⁻¹:=I3.fpOk (al _) I1.free;refine zcY fr ff hst.2 hst.2 ob tr λh' T oT ts e1 nT oldT e2 d2 z2 k1 k2=>?_
 have fT2:wf X tK H1 T:=by
  rcases oldT with z | z
  ·exact fT' T z
  ·exact IX.fpOk z (IX.hok.fresh z)
 have I2:Inv X tK σ H1 { s1 with heap:=h' }:=Inv.noted IX hst.1 fx' fT' fT2 k1 k2;have hCx:s3⁻¹≠x:=λz=>fx.2.1 z.symm;have hCtb:tb≠.ref s3⁻¹:=λz=>(fT _ z).2.1 rfl;obtain⟨oC,es,ep,hoC,rC⟩:=hm
 have hCT:T≠s3⁻¹:=by
  rcases oldT with z | z
  ·exact (fT T z).2.1
  ·exact bW (aw (au hoC) z)
 have hCf:s3⁻¹ ∉ frs (X.env::X.outer):=λz=>by
  rw[<- hst.1]at z;rcases tP.mp (IX.stkSub _ z)with y | y
  ·exact fC.2.1 y
  ·exact fC.2.2.1 y
 refine hRE m _ _ #[oC,es,ep,k1 _ _ hCx hCtb hCf hoC,rC] λh2 sb cenv hcenv=>?_;have I3':Inv X tK σ H1 { s1 with heap:=h2 }:=I2.turned (t':=s1.toks) (λb o hb e=>(sb.2 b hb).trans e) fC.1 fC.2.1 fC.2.2.2.1 fC.2.2.2.2.1 fC.2.2.2.2.2;have ob2:h2.get? x=tG (xob C dx t (.ref T)):=(sb.2 x (Ne.symm hCx)).trans e1;have oT2:h2.get? T=tG oT:=(sb.2 T hCT).trans e2;unfold fZ;refine pi (pT (s:={ s1 with heap:=h2 }) ob2 rfl (x:=.ref T) rfl ?_);rw[if_neg (show ¬ (Value.ref T == Value.none)=tI from by simp)];unfold setFlight;refine pi (pi (pT (s:={ s1 with heap:=h2 }) ob2 rfl (x:=.ref T) rfl ?_));rw[if_pos (show (Value.ref T != Value.none)=tI from by simp)];refine rz (s:={ s1 with heap:=h2 }) oT2 d2 z2 (wpAny_throw (hxe _ _ ?_));have d3:=Obj.data_mapFields d2 (·.setIfInBounds 3 (cenv.frame.elim Value.none λf=>rawInt f))
 have I4:Inv X tK σ H1 { s1 with heap:=h2.update T (Obj.mapFields (·.setIfInBounds 3 (cenv.frame.elim Value.none λf=>rawInt f))) } :=
  I3'.turned (t':=s1.toks) (λb o hb e=>(aI _ _ (Ne.symm hb)).trans e) fT2.1 fT2.2.1 fT2.2.2.2.1 fT2.2.2.2.2.1 fT2.2.2.2.2.2
 exact#[tK,σ,H1,x,C,t,dx,.ref T,rfl,I4,(aI _ _ nT).trans ob2,.inr #[T,_,_,rfl,nT,ce _ oT2 (Obj.isFreed_of_fields d3),d3,by simpa using z2],fx',λT' z=>by cases z;exact fT2,q]
end
section
variable{X:Cx}{scope:rf}{own caps:List pJ}{ix:()}{elt tg iter:pM}{ifs:List pM}{pos:rj}{wi:TI}{g:TG}{tt:TT}{te:TE}
end
open PySem.AutoSeq1 (wpAny_loadPart')
open MeetsSeq MeetsSeq2 MeetsSeq3 SeqRoads2 SeqAt
def qm(op:rR)(A:pL)(s:pE)(y x:pD)(b:Bool):Prop :=
 ∀(prog:pH) (w:pK) (E:pD->pE->Prop) (Q:pD->pE->Prop),Q (.bool b) s->pF (model prog w) A (richCompare op y x) Q E s
noncomputable abbrev LtAt:=qm .Lt
noncomputable def zbv:rR->Nat->Nat->Bool
 | .Gt,m,n=>decide (n<m)
 | _,m,n=>decide (m<n)
noncomputable def zet:rR->Int
 | .Gt=>4
 | _=>0
def LG(op:rR):Prop:=op=.Lt\/op=.Gt
def vP(op:rR)(e t r:Nat->Bool)(m n:Nat):Prop:=∀i,i<=m->i<=n->r i=if i<m/\i<n then (if e i=tI then r (i+1)else t i)else zbv op m n
noncomputable abbrev zd5:=vP .Lt
variable{op:rR}
theorem V7(ho:LG op)(l b:pC)(items tL:Array pD)(n n2:Nat)(dd dd2:Option pC)(sl sl2:Array (Option pD))(e t r:Nat->Bool)(hr:vP op e t r items.size tL.size)(k:Nat) :
  ∀i:Nat,i<=items.size->i<=tL.size->items.size - i=k->Meets (Builtin.«list.__eq__.loop» #[[.ref l,.ref b,rawInt i,rawInt (zet op)],[]])
   (λA R s=>s.heap.get? l=tG { cls:=.type "list",dict:=dd,data:=.seq items n,slots:=sl }/\s.heap.get? b=tG { cls:=.type "list",dict:=dd2,data:=.seq tL n2,slots:=sl2 } /\
    (∀j (h1:j<items.size) (h2:j<tL.size),EqAt A.in1 s items[j] tL[j] (e j))/\(∀j (h1:j<items.size) (h2:j<tL.size),e j=tJ->qm op A.in1 s items[j] tL[j] (t j)) /\
    R (.ok (.ret (.bool (r i)))) s):=by
 rcases ho with rfl | rfl <;> erw[zet] <;> erw[vP,zbv]at hr
 all_goals
  induction k with
  | zero =>
   intro i b1 b2 hk prog w A R s h;obtain⟨hp,g,d,tk,os⟩:=s;obtain⟨hl,hb,he,ht,h⟩:=h;have hri:=hr i b1 b2;rw[if_neg ⋯]at hri;rw[hri]at h
   wp_walk using wpAny_loadPart' hl,wpAny_loadPart' hb
   have hi1:items[((i:Nat):Int).toNat]? = tH:=by simp;lia
   rw[hi1]
   wp_walk using wpAny_loadPart' hl,wpAny_loadPart' hb
   exact h
  | succ k ih =>
   intro i b1 b2 hk prog w A R s h;obtain⟨hp,g,d,tk,os⟩:=s;obtain⟨hl,hb,he,ht,h⟩:=h;have hlt:i<items.size:=⋯;have hi1:items[((i:Nat):Int).toNat]? = tG items[i]:=by simp [hlt]
   have hc:((i:Int)+1)=((i+1:Nat):Int):=by push_cast;rfl
   have hri:=hr i b1 b2;by_cases hlt2:i<tL.size
   ·rw[if_pos #[hlt,hlt2]]at hri;rw[hri]at h;have hi2:tL[((i:Nat):Int).toNat]? = tG tL[i]:=by simp [hlt2]
    wp_walk using wpAny_loadPart' hl,wpAny_loadPart' hb
    rw[hi1,hi2];refine pi (he i hlt hlt2 prog w _ _ ?_)
    cases hb':e i with
    | true =>
     rw[hb',if_pos rfl]at h
     wp_walk
     rw[hc]
     exact#[plainId_quiet plain_eq_loop _,rL entry_eq_loop (by
      rw[Around.under_plainId plain_eq_loop _]
      exact ih (i+1) ⋯ ⋯ ⋯ prog w A R _ #[hl,hb,he,ht,h])]
    | false =>
     rw[hb',if_neg aB]at h
     wp_walk using wpAny_loadPart' hl,wpAny_loadPart' hb
     rw[hi1,hi2];refine pi (ht i hlt hlt2 hb' prog w _ _ ?_)
     wp_walk
     exact h
   ·rw[if_neg ⋯]at hri;rw[hri]at h;have hi2:tL[((i:Nat):Int).toNat]? = tH:=by simp;lia
    wp_walk using wpAny_loadPart' hl,wpAny_loadPart' hb
    rw[hi1,hi2]
    wp_walk using wpAny_loadPart' hl,wpAny_loadPart' hb
    exact h
theorem Zw(ho:LG op)(l b:pC)(items tL:Array pD)(n n2:Nat)(dd dd2:Option pC)(sl sl2:Array (Option pD))(e t r:Nat->Bool)(hr:vP op e t r items.size tL.size) :
  Meets ((match op with | .Gt=>Builtin.«list.__gt__» | _=>Builtin.«list.__lt__») ⟨[.ref l,.ref b],[]⟩)
   (λA R s=>s.heap.get? l=tG { cls:=.type "list",dict:=dd,data:=.seq items n,slots:=sl }/\s.heap.get? b=tG { cls:=.type "list",dict:=dd2,data:=.seq tL n2,slots:=sl2 } /\
    (∀j (h1:j<items.size) (h2:j<tL.size),EqAt A.in1 s items[j] tL[j] (e j))/\(∀j (h1:j<items.size) (h2:j<tL.size),e j=tJ->qm op A.in1 s items[j] tL[j] (t j)) /\
    R (.ok (.ret (.bool (r 0)))) s):=by
 rcases id ho with rfl | rfl
 all_goals
  intro prog w A R s h;obtain⟨hp,g,d,tk,os⟩:=s;obtain⟨hl,hb,he,ht,h⟩:=h;have f3:=AutoSeq1.sub_list_list
  wp_walk using wpAny_loadPart' hl,wpAny_loadPart' hb
  exact#[plainId_quiet plain_eq_loop _,rL entry_eq_loop (by
   rw[Around.under_plainId plain_eq_loop _]
   exact V7 ho l b items tL n n2 dd dd2 sl sl2 e t r hr _ 0 (aG _) (aG _) rfl prog w A R _ #[hl,hb,he,ht,h])]
theorem jB(ho:LG op)(l b:pC)(items tL:Array pD)(n n2:Nat)(dd dd2:Option pC)(sl sl2:Array (Option pD))(e t r:Nat->Bool)(hr:vP op e t r items.size tL.size) :
  Meets ((match op with | .Gt=>Builtin.«tuple.__gt__» | _=>Builtin.«tuple.__lt__») ⟨[.ref l,.ref b],[]⟩)
   (λA R s=>s.heap.get? l=tG { cls:=.type "tuple",dict:=dd,data:=.seq items n,slots:=sl }/\s.heap.get? b=tG { cls:=.type "tuple",dict:=dd2,data:=.seq tL n2,slots:=sl2 } /\
    (∀j (h1:j<items.size) (h2:j<tL.size),EqAt A.in1 s items[j] tL[j] (e j))/\(∀j (h1:j<items.size) (h2:j<tL.size),e j=tJ->qm op A.in1 s items[j] tL[j] (t j)) /\
    R (.ok (.ret (.bool (r 0)))) s):=by
 rcases ho with rfl | rfl <;> erw[vP,zbv]at hr
 all_goals
  refine .of_wp λprog w A R s h=>?_;obtain⟨hp,g,d,tk,os⟩:=s;obtain⟨hl,hb,he,ht,h⟩:=h;have f2:=AutoSeq1.sub_tuple_tuple;have hZ:(items.toList.zip tL.toList).length=min items.size tL.size:=by simp
  wp_walk using wpAny_loadPart' hl,wpAny_loadPart' hb,wpAny_forIn_list _ (λrest b s'=>b.1=tH/\s'=#[hp,g,d,tk,os]/\∃i,i<=min items.size tL.size/\rest=(items.toList.zip tL.toList).drop i /\
   R (.ok (.ret (.bool (r i)))) #[hp,g,d,tk,os]) _
  case turn =>
   rintro⟨y,x⟩ rest b s' ⟨hb',rfl,i,hi,hz,hR⟩
   have hlt:i<(items.toList.zip tL.toList).length:=by
    rcases eU i (items.toList.zip tL.toList).length with h' | h'
    ·exact h'
    ·rw[bq h']at hz;cases hz
   have hm:i<min items.size tL.size:=hZ ▸ hlt;have h1:i<items.size:=aw hm (Nat.min_le_left _ _);have h2:i<tL.size:=aw hm (Nat.min_le_right _ _);rw[aR hlt]at hz;injection hz with hyx hrest;have hy:y=items[i]:=by have:=congrArg Prod.fst hyx;simpa using this
   have hx:x=tL[i]:=by have:=congrArg Prod.snd hyx;simpa using this
   subst hy hx;have hri:=hr i ⋯ ⋯;rw[if_pos #[h1,h2]]at hri;rw[hri]at hR;refine pi (he i h1 h2 prog w _ _ ?_)
   cases hy:e i with
   | true =>
    rw[hy,if_pos rfl]at hR
    wp_walk
    exact#[rfl,rfl,i+1,⋯,hrest,hR]
   | false =>
    rw[hy,if_neg aB]at hR
    erw[fB,if_true]
    refine pi (sr ?_);refine pi (ht i h1 h2 hy prog w _ _ ?_)
    wp_walk
    exact#[_,rfl,hR]
  case fin =>
   rintro⟨b1,b2⟩ s' ⟨hb',rfl,i,hi,hz,hR⟩;simp only at hb';subst hb'
   have hge:min items.size tL.size<=i:=by
    rcases eU i (items.toList.zip tL.toList).length with h' | h'
    ·rw[aR h']at hz;cases hz
    ·exact hZ ▸ h'
   have hri:=hr i ⋯ ⋯;rw[if_neg ⋯]at hri;rw[hri]at hR
   wp_walk
   exact#[_,rfl,hR]
  case h =>
   exact#[rfl,rfl,0,aG _,rfl,h]
theorem LtAt.lists(ho:LG op){A:pL}{s:pE}{l b:pC}{items tL:Array pD}{e t r:Nat->Bool}(hl:s.heap.IsList l items)(hb:s.heap.IsList b tL)(hr:vP op e t r items.size tL.size)(hu:A.units<cLine)
  (he:∀j (h1:j<items.size) (h2:j<tL.size),EqAt A.in1 s items[j] tL[j] (e j)) (ht:∀j (h1:j<items.size) (h2:j<tL.size),e j=tJ->qm op A.in1 s items[j] tL[j] (t j)):qm op A s (.ref l) (.ref b) (r 0):=λprog w E Q h=>by
 obtain⟨⟨cls,dd,data,sl⟩,h1,hc,n,hd⟩:=id hl;obtain⟨⟨cls2,dd2,data2,sl2⟩,h2,hc2,n2,hd2⟩:=id hb;simp only at hc hd hc2 hd2;subst hc hd hc2 hd2;have z:Value.bool (r 0)≠Value.notImplemented/\Q (.bool (r 0)) s:=#[(λx=>nomatch x),h];rcases id ho with rfl | rfl
 ·exact richCompare_meets_room #[_,h1,rfl] #[_,h2,rfl] F.slot_list_lt F.entry_list_lt (F.args_list_lt_2 _ _) (Zw ho l b items tL n n2 dd dd2 sl sl2 e t r hr) #[h1,h2,he,ht,z] hu
 ·exact richCompare_meets_room #[_,h1,rfl] #[_,h2,rfl] F.slot_list_gt F.entry_list_gt (F.args_list_gt_2 _ _) (Zw ho l b items tL n n2 dd dd2 sl sl2 e t r hr) #[h1,h2,he,ht,z] hu
theorem LtAt.tuples(ho:LG op){A:pL}{s:pE}{l b:pC}{items tL:Array pD}{e t r:Nat->Bool}(hl:s.heap.IsTuple l items)(hb:s.heap.IsTuple b tL)(hr:vP op e t r items.size tL.size)(hu:A.units<cLine)
  (he:∀j (h1:j<items.size) (h2:j<tL.size),EqAt A.in1 s items[j] tL[j] (e j)) (ht:∀j (h1:j<items.size) (h2:j<tL.size),e j=tJ->qm op A.in1 s items[j] tL[j] (t j)):qm op A s (.ref l) (.ref b) (r 0):=λprog w E Q h=>by
 obtain⟨⟨cls,dd,data,sl⟩,h1,hc,n,hd⟩:=id hl;obtain⟨⟨cls2,dd2,data2,sl2⟩,h2,hc2,n2,hd2⟩:=id hb;simp only at hc hd hc2 hd2;subst hc hd hc2 hd2;have z:Value.bool (r 0)≠Value.notImplemented/\Q (.bool (r 0)) s:=#[(λx=>nomatch x),h];rcases id ho with rfl | rfl
 ·exact richCompare_meets_room #[_,h1,rfl] #[_,h2,rfl] F.slot_tuple_lt F.entry_tuple_lt (F.args_tuple_lt_2 _ _) (jB ho l b items tL n n2 dd dd2 sl sl2 e t r hr) #[h1,h2,he,ht,z] hu
 ·exact richCompare_meets_room #[_,h1,rfl] #[_,h2,rfl] F.slot_tuple_gt F.entry_tuple_gt (F.args_tuple_gt_2 _ _) (jB ho l b items tL n n2 dd dd2 sl sl2 e t r hr) #[h1,h2,he,ht,z] hu
mutual
def okD:D->D->Prop
 | .int _,.int _=>True
 | .lst l,.lst m=>jU l m
 | .tup l,.tup m=>jU l m
 | _,_=>False
def jU:List D->List D->Prop
 | d::l,e::m=>okD d e/\jU l m
 | _,_=>True
end
mutual
noncomputable def ltD:D->D->Bool
 | .int a,.int b=>decide (a<b)
 | .lst l,.lst m=>vD l m
 | .tup l,.tup m=>vD l m
 | _,_=>tJ
noncomputable def vD:List D->List D->Bool
 | d::l,e::m=>if eqD d e=tI then vD l m else ltD d e
 | [],_::_=>tI
 | _,[]=>tJ
end
theorem U5(l m:List D):zd5 (λj=>eqD (l.getD j .non) (m.getD j .non)) (λj=>ltD (l.getD j .non) (m.getD j .non)) (λi=>vD (l.drop i) (m.drop i)) l.length m.length:=by
 intro i b1 b2
 erw[zbv]
 by_cases h:i<l.length/\i<m.length
 ·rw[if_pos h,aR h.1,aR h.2,vD];rw[af,af,ag h.1,ag h.2];rfl
 ·rw[if_neg h];by_cases h1:i<l.length
  ·have h2:¬ i<m.length:=λz=>h #[h1,z];rw[aR h1,bq (da h2),vD]
   ·simp;lia
   all_goals simp
  ·rw[bq (da h1)];by_cases h2:i<m.length
   ·rw[aR h2,vD];simp;lia
   ·rw[bq (da h2),vD]
    ·simp;lia
    all_goals simp
mutual
theorem Xe:∀d e:D,eqD d e=eqD e d
 | .lst l,e=>by cases e <;> erw[eqD];exact qO l _
 | .tup l,e=>by cases e <;> erw[eqD];exact qO l _
 | .int _,e=>by cases e <;> erw[eqD] <;> exact fV
 | .str _,e=>by cases e <;> erw[eqD] <;> exact fV
 | .bl _,e=>by cases e <;> erw[eqD] <;> exact fV
 | .non,e=>by cases e <;> erw[eqD]
theorem qO:∀l m:List D,vH l m=vH m l
 | [],[]=>rfl
 | [],_::_=>by erw[vH]
 | _::_,[]=>by erw[vH]
 | d::l,e::m=>by erw[vH,Xe d e,qO l m]
end
noncomputable def cm:rR->D->D->Bool
 | .Gt,d,e=>ltD e d
 | _,d,e=>ltD d e
noncomputable def cms:rR->List D->List D->Bool
 | .Gt,d,e=>vD e d
 | _,d,e=>vD d e
theorem UD{op:rR}(ho:LG op)(l m:List D):vP op (λj=>eqD (l.getD j .non) (m.getD j .non)) (λj=>cm op (l.getD j .non) (m.getD j .non)) (λi=>cms op (l.drop i) (m.drop i)) l.length m.length:=by
 rcases ho with rfl | rfl
 ·exact U5 l m
 ·intro i b1 b2;have h:=U5 m l i b2 b1
  erw[zbv,cm,cms]at h ⊢
  rw[h,Xe (m.getD i .non)];by_cases q:i<l.length/\i<m.length
  ·rw[if_pos q,if_pos q.symm]
  ·rw[if_neg q,if_neg λz=>q z.symm]
theorem zc2:∀{l m:List D} {j:Nat} {d e:D},jU l m->l[j]? = tG d->m[j]? = tG e->okD d e
 | d::l,e::m,0,_,_,h,q1,q2=>by
  cases q1;cases q2
  erw[jU]at h
  exact h.1
 | d::l,e::m,j+1,_,_,h,q1,q2=>by
  erw[jU]at h
  exact zc2 (j:=j) h.2 q1 q2
section
variable{X:Cx}{tK:List (pC × rb)}{σ:St}{H:Hp}{s:pE}
theorem XJ{op:rR}{l m:List D}{xs ys:List V}{its its':List pD}{A:pL}{n:Nat}(hl:Iss X.K H l xs)(hm:Iss X.K H m ys)(r:Vals xs its)(r':Vals ys its')(hn:uE l<n)(ok:jU l m)
  (ih:∀(d e:D) (x y:V) (u v:pD),dpD d<n->okD d e->Is X.K H d x->Is X.K H e y->RelV x u->RelV y v->qm op A s u v (cm op d e)) :
  ∀j (h1:j<its.toArray.size) (h2:j<its'.toArray.size),qm op A s its.toArray[j] its'.toArray[j] (cm op (l.getD j .non) (m.getD j .non)):=by
 intro j h1 h2;rw[ak]at h1 h2;have e1:=hl.len;have e2:=hm.len;have e3:=r.length;have e4:=r'.length;have g1:l[j]? = tG l[j]:=ag ⋯;have g2:m[j]? = tG m[j]:=ag ⋯;generalize l[j]=d at g1;generalize m[j]=e at g2;obtain⟨x,hx,ix⟩:=hl.at g1;obtain⟨y,hy,iy⟩:=hm.at g2;obtain⟨u,hu,ru⟩:=xO r hx;obtain⟨v,hv,rv⟩:=xO r' hy
 have q1:its.toArray[j]=u:=by
  have:=(tN.mp hu).2;simpa using this
 have q2:its'.toArray[j]=v:=by
  have:=(tN.mp hv).2;simpa using this
 rw[q1,q2,af,af,g1,g2];exact ih d e x y u v (cf (zaD g1) hn) (zc2 ok g1 g2) ix iy ru rv
theorem zac{op:rR}(ho:LG op)(I:Inv X tK σ H s):∀(n:Nat) (A:pL) (d e:D) (x y:V) (u v:pD),A.units+n<cLine->dpD d<n->okD d e->Is X.K H d x->Is X.K H e y->RelV x u->RelV y v->qm op A s u v (cm op d e):=by
 intro n
 induction n with
 | zero=>intro A d e x y u v _ h;exact absurd h (cS _)
 | succ n ih =>
  intro A d e x y u v hu hd ok hx hy rx ry;have hu1:A.units<cLine:=⋯;have huA:A.in1.units+n<cLine:=by show A.units+1+n<cLine;lia
  cases d with
  | int a =>
   cases e with
   | int b =>
    erw[Is]at hx hy
    subst hx hy;obtain⟨t,rfl⟩:=rx;obtain⟨t',rfl⟩:=ry;rcases ho with rfl | rfl
    ·exact λprog w E Q h=>lt_int h
    ·exact λprog w E Q h=>gt_int h
   | _=>erw[okD]at ok
  | lst l =>
   cases e with
   | lst m =>
    erw[Is]at hx hy
    obtain⟨a,xs,rfl,h1,h2⟩:=hx;obtain⟨b,ys,rfl,g1,g2⟩:=hy;cases rx;cases ry;obtain⟨its,r,p,_⟩:=I.list h1;obtain⟨its',r',p',_⟩:=I.list g1
    erw[dpD]at hd
    erw[okD]at ok
    have L1:=h2.len;have L2:=g2.len;have L3:=r.length;have L4:=r'.length;have st:=UD ho l m;rw[show l.length=its.toArray.size by erw[ak];lia,show m.length=its'.toArray.size by erw[ak];lia]at st
    have r0:=LtAt.lists ho (A:=A) p.isList p'.isList st hu1 (xA h2 g2 r r' (n:=n) ⋯ λd e x y u v q1 q2 q3 q4 q5=>qr I n A.in1 d e x y u v huA q1 q2 q3 q4 q5)
     (λj h1 h2 _=>XJ (n:=n) (A:=A.in1) ‹_› g2 r r' ⋯ ok (λd e x y u v q1 q2 q3 q4 q5 q6=>ih A.in1 d e x y u v huA q1 q2 q3 q4 q5 q6) j h1 h2)
    rcases id ho with rfl | rfl <;> exact r0
   | _=>erw[okD]at ok
  | tup l =>
   cases e with
   | tup m =>
    erw[Is]at hx hy
    obtain⟨a,xs,rfl,h1,h2⟩:=hx;obtain⟨b,ys,rfl,g1,g2⟩:=hy;cases rx;cases ry;obtain⟨its,r,p,_⟩:=I.tuple h1;obtain⟨its',r',p',_⟩:=I.tuple g1
    erw[dpD]at hd
    erw[okD]at ok
    have L1:=h2.len;have L2:=g2.len;have L3:=r.length;have L4:=r'.length;have st:=UD ho l m;rw[show l.length=its.toArray.size by erw[ak];lia,show m.length=its'.toArray.size by erw[ak];lia]at st
    have r0:=LtAt.tuples ho (A:=A) p p' st hu1 (xA h2 g2 r r' (n:=n) ⋯ λd e x y u v q1 q2 q3 q4 q5=>qr I n A.in1 d e x y u v huA q1 q2 q3 q4 q5)
     (λj h1 h2 _=>XJ (n:=n) (A:=A.in1) ‹_› g2 r r' ⋯ ok (λd e x y u v q1 q2 q3 q4 q5 q6=>ih A.in1 d e x y u v huA q1 q2 q3 q4 q5 q6) j h1 h2)
    rcases id ho with rfl | rfl <;> exact r0
   | _=>erw[okD]at ok
  | non=>cases e <;> erw[okD]at ok
  | bl _=>cases e <;> erw[okD]at ok
  | str _=>cases e <;> erw[okD]at ok
theorem Kp(I:Inv X tK σ H s):∀(n:Nat) (A:pL) (d e:D) (x y:V) (u v:pD),A.units+n<cLine->dpD d<n->okD d e->Is X.K H d x->Is X.K H e y->RelV x u->RelV y v->LtAt A s u v (ltD d e):=zac (.inl rfl) I
def zep(K:pB):R2:=λx y H Q=>∃d e,Is K H d x/\Is K H e y/\dpD d<50/\okD d e/\Q (.bl (ltD d e)) H
theorem zb8(hu:X.A.units+100<cLine):OpR X (pR .Lt) (zep X.K):=by
 intro tK s σ H x y v u Q I rx ry h;obtain⟨d,e,hx,hy,hd,ok,q⟩:=h;exact Kp I 50 X.A d e x y v u ⋯ hd ok hx hy rx ry X.prog X.w X.xe _ #[.bl _,H,I,rfl,q]
end
theorem zai{K:pB}{x y:V}{H:Hp}{Q:VK}{d e:D}(h1:Is K H d x)(h2:Is K H e y)(h3:dpD d<50)(h4:okD d e)(q:Q (.bl (ltD d e)) H):zep K x y H Q:=#[d,e,h1,h2,h3,h4,q]
noncomputable def ltI:List Int->List Int->Bool
 | a::l,b::m=>if a=b then ltI l m else decide (a<b)
 | [],_::_=>tI
 | _,[]=>tJ
theorem qf:∀(l m:List Int),jU (l.map D.int) (m.map D.int)
 | [],_=>by erw[aJ,jU]
 | _::_,[]=>by erw[aJ,ar,jU]
 | a::l,b::m=>by erw[ar,jU,okD,true_and];exact qf l m
theorem Z0:∀(l m:List Int),vD (l.map D.int) (m.map D.int)=ltI l m
 | [],[]=>by erw[aJ,vD,ltI]
 | [],_::_=>by erw[aJ,ar,vD,ltI]
 | _::_,[]=>by erw[aJ,ar,vD,ltI]
 | a::l,b::m=>by
  erw[ar,vD,ltI,eqD,ltD,Z0 l m,beq_iff_eq]
mutual
def xv:D->Prop
 | .lst _=>False
 | .tup l=>zQ l
 | _=>True
def zQ:List D->Prop
 | []=>True
 | d::l=>xv d/\zQ l
end
theorem jG{K:pB}{H:Hp}{a p:pC}{xs ys zs:List V}(hp:H p=tG (.lst ys))(h:SqT K H a xs):SqT K (upd H p (.lst zs)) a xs:=by
 rcases h with (h | ⟨o,h⟩) | h
 ·refine .inl (.inl ?_);rw[zk (λe=>by rw[e,hp]at h;cases h)];exact h
 ·refine .inl (.inr #[o,?_]);rw[zk (λe=>by rw[e,hp]at h;cases h)];exact h
 ·exact .inr h
mutual
theorem Is.updL{K:pB}{H:Hp}{p:pC}{ys zs:List V}(hp:H p=tG (.lst ys)):∀(d:D) (v:V),xv d->Is K H d v->Is K (upd H p (.lst zs)) d v
 | .non,v,_,h=>by erw[Is]at h ⊢;exact h
 | .bl b,v,_,h=>by erw[Is]at h ⊢;exact h
 | .int b,v,_,h=>by erw[Is]at h ⊢;exact h
 | .str b,v,_,h=>by erw[Is]at h ⊢;exact h
 | .lst l,v,f,h=>by erw[xv]at f
 | .tup l,v,f,h=>by
  erw[Is]at h ⊢
  erw[xv]at f
  obtain⟨a,xs,e1,e2,e3⟩:=h;exact#[a,xs,e1,jG hp e2,Iss.updL hp l xs f e3]
theorem Iss.updL{K:pB}{H:Hp}{p:pC}{ys zs:List V}(hp:H p=tG (.lst ys)):∀(l:List D) (vs:List V),zQ l->Iss K H l vs->Iss K (upd H p (.lst zs)) l vs
 | [],vs,_,h=>by erw[Iss]at h ⊢;exact h
 | d::l,vs,f,h=>by
  erw[Iss]at h ⊢
  erw[zQ]at f
  obtain⟨v,r,e1,e2,e3⟩:=h;exact#[v,r,e1,Is.updL hp d v f.1 e2,Iss.updL hp l r f.2 e3]
end
theorem wx:∀{l:List D},(∀d ∈ l,xv d)->zQ l
 | [],_=>by erw[zQ]
 | d::l,h=>by erw[zQ];exact#[h d (by simp),wx λe he=>h e (by simp [he])]
theorem WZ{n:Nat}:∀{l:List D},(∀d ∈ l,dpD d<=n)->uE l<=n
 | [],_=>by erw[uE];lia
 | d::l,h=>by
  have h1:=h d (by simp);have h2:=WZ (n:=n) (l:=l) λe he=>h e (by simp [he])
  erw[uE]
  lia
def LsA(K:pB)(H:Hp)(a:pC)(ds:List D):Prop:=∃xs,H a=tG (.lst xs)/\Iss K H ds xs
theorem LsA.same{K:pB}{H H':Hp}{a:pC}{ds:List D}(h:LsA K H a ds)(e:Same H H'):LsA K H' a ds:=let #[xs,h1,h2]:=h; #[xs,e _ _ h1,Iss.same e _ _ h2]
theorem LsA.is{K:pB}{H:Hp}{a:pC}{ds:List D}(h:LsA K H a ds):Is K H (.lst ds) (.ref a):=by
 obtain⟨xs,h1,h2⟩:=h
 erw[Is]
 exact#[a,xs,rfl,SqL.of h1,h2]
theorem LsA.nil{K:pB}{H:Hp}{a:pC}:LsA K (upd H a (.lst [])) a []:=#[[],zc,by erw[Iss]]
theorem LsA.snoc{K:pB}{H:Hp}{a:pC}{ds:List D}{d:D}{xs:List V}{v:V}(h1:H a=tG (.lst xs))(h2:Iss K H ds xs)(f:zQ ds)(fd:xv d)(hv:Is K H d v):LsA K (upd H a (.lst (xs ++ [v]))) a (ds ++ [d]) :=
 #[_,zc,Iss.append (Iss.updL h1 _ _ f h2) (by erw[Iss];exact#[v,[],rfl,Is.updL h1 _ _ fd hv,rfl])]
theorem Is.tup{K:pB}{H:Hp}{p:pC}{vs:List V}{ds:List D}(hp:H p=tH)(h:Iss K H ds vs):Is K (upd H p (.tup vs)) (.tup ds) (.ref p):=by
 erw[Is]
 exact#[p,vs,rfl,SqT.of zc,Iss.same (zd hp) _ _ h]
noncomputable abbrev dS(l:()):D:=.str (tx l)
noncomputable abbrev zm:=() × ()
noncomputable def dR(r:zm):D:=.tup [dS r.1,dS r.2]
theorem zbJ{K:pB}{H:Hp}{r:zm}{v:V}(h:Is K H (dR r) v):∃p,v=.ref p/\SqT K H p [.str (tx r.1),.str (tx r.2)]:=by
 erw[dR,Is,Iss]at h
 obtain⟨a,xs,e,hs,v1,r1,rfl,rfl,v2,r2,rfl,rfl,rfl⟩:=h;exact#[a,e,hs]
theorem ZD{K:pB}{H:Hp}{p:pC}{l m:()}(h:SqT K H p [.str (tx l),.str (tx m)]):Is K H (dR (l,m)) (.ref p):=by
 erw[dR,Is,Iss]
 exact#[p,_,rfl,h,_,_,rfl,rfl,_,_,rfl,rfl,rfl]
theorem wv(r:zm):xv (dR r):=by erw[dR,xv,zQ,and_self]
theorem zdz(r:zm):dpD (dR r)<=1:=by erw[dR,dpD,uE];lia
theorem z8(rs:List zm):zQ (rs.map dR):=wx λd h=>by obtain⟨r,_,rfl⟩:=tO.mp h;exact wv r
theorem JP(rs:List zm):uE (rs.map dR)<=1:=WZ λd h=>by obtain⟨r,_,rfl⟩:=tO.mp h;exact zdz r
noncomputable abbrev N3:=Nat × Nat × Nat
noncomputable def d3(t:N3):D:=.tup [.int (t.1:Nat),.int (t.2.1:Nat),.int (t.2.2:Nat)]
theorem zdl{K:pB}{H:Hp}{t:N3}{v:V}(h:Is K H (d3 t) v):∃p,v=.ref p/\SqT K H p [.int (t.1:Nat),.int (t.2.1:Nat),.int (t.2.2:Nat)]:=by
 erw[d3,Is,Iss]at h
 obtain⟨a,xs,e,hs,v1,r1,rfl,rfl,v2,r2,rfl,rfl,v3,r3,rfl,rfl,rfl⟩:=h;exact#[a,e,hs]
theorem zc6{K:pB}{H:Hp}{i j k:Nat}:Iss K H [.int (i:Nat),.int (j:Nat),.int (k:Nat)] [.int (i:Nat),.int (j:Nat),.int (k:Nat)]:=by
 erw[Iss,Is]
 exact#[_,_,rfl,rfl,_,_,rfl,rfl,_,_,rfl,rfl,rfl]
theorem Kw(t:N3):xv (d3 t):=by erw[d3,xv,zQ,and_self]
theorem Wb(rs:List N3):zQ (rs.map d3):=wx λd h=>by obtain⟨r,_,rfl⟩:=tO.mp h;exact Kw r
theorem Iss.get{K:pB}{H:Hp}{l:List D}{vs:List V}{j:Nat}{v:V}(h:Iss K H l vs)(q:vs[j]? = tG v):∃d,l[j]? = tG d/\Is K H d v:=by
 have hj:=(tN.mp q).1;have hl:=h.len;have g1:l[j]? = tG l[j]:=ag ⋯;obtain⟨x,hx,ix⟩:=h.at g1;rw[q]at hx;cases hx;exact#[_,g1,ix]
theorem Iss.getR{K:pB}{H:Hp}{rs:List zm}{vs:List V}{j:Nat}{v:V}(h:Iss K H (rs.map dR) vs)(q:vs[j]? = tG v):∃r p,rs[j]? = tG r/\v=.ref p/\SqT K H p [.str (tx r.1),.str (tx r.2)]:=by
 obtain⟨d,e,i⟩:=h.get q;rw[az]at e;obtain⟨r,hr,rfl⟩:=tU.mp e;obtain⟨p,e1,e2⟩:=zbJ i;exact#[r,p,hr,e1,e2]
theorem Iss.get3{K:pB}{H:Hp}{rs:List N3}{vs:List V}{j:Nat}{v:V}(h:Iss K H (rs.map d3) vs)(q:vs[j]? = tG v):∃r p,rs[j]? = tG r/\v=.ref p/\SqT K H p [.int (r.1:Nat),.int (r.2.1:Nat),.int (r.2.2:Nat)]:=by
 obtain⟨d,e,i⟩:=h.get q;rw[az]at e;obtain⟨r,hr,rfl⟩:=tU.mp e;obtain⟨p,e1,e2⟩:=zdl i;exact#[r,p,hr,e1,e2]
theorem zbV{α:Type}(l:List α){a b:Int}(h0:0<=a)(h1:a<=b):cut l (tG a) (tG b)=(l.drop a.toNat).take (b - a).toNat:=by
 by_cases h2:b<=l.length
 ·exact YE l h0 h1 h2
 ·obtain⟨m,rfl⟩:=bM h0;obtain⟨n,rfl⟩:=bM (by lia:0<=b);unfold cut;rw[HT.sIx_nat,HT.sIx_nat,dQ (by lia:l.length<=n)];have e:(((n:Nat):Int) - ((m:Nat):Int)).toNat=n - m:=⋯;have e2:((m:Nat):Int).toNat=m:=rfl;rw[e,e2,bp (l:=l.drop m) (by rw[bi];lia)];by_cases hm:m<=l.length
  ·rw[dn hm,bp (by rw[bi];lia)]
  ·rw[dQ ⋯,bq (al _),bq ⋯,List.take_nil]
open Classical in
section
variable{X:Cx}{tK:List (pC × rb)}{σ:L2.St}{H:Hp}{s:pE}
open Classical in
end
structure DM(P:pH)(w:pK)(K:pB)(mg:pJ->Option pD)(base:pN)(CX:CXT)(k:Nat)(C:pC)(m:pJ)(ps:List pJ)(sp:Sp):Prop where
 ex:∃f fd,zcN K C m f/\FnOk P w K mg base CX k f fd ps sp/\Binds K fd ps []
structure DMk(P:pH)(w:pK)(K:pB)(mg:pJ->Option pD)(base:pN)(CX:CXT)(k:Nat)(C:pC)(ps:List pJ)(sp:Sp):Prop where
 ex:∃f fd,Mk K C f/\FnOk P w K mg base CX k f fd ps sp/\Binds K fd ps []
section
variable{X:Cx}{k j:Nat}{C:pC}{m:pJ}{ps:List pJ}{sp:Sp}{o e:pM}{es:List pM}{ta:TE}{t:TA}{apos pos p:rj}{x:pJ}{E:XK}
theorem me0(D:DM X.prog X.w X.K X.mg X.base CX0 k C m ps sp)(c:Cls X.K C)(hr:Room j X.A)(he:PE X o ta){pl:tu Bool}(ht:eval (.Call (.Attribute o m apos) [] [] pos) X.env=(do
      let ov <- eval o X.env
      standAt apos.atName
      let (f,first) <- holding [ov] (getMethod ov m pl)
      callWith pos f first (pS pos (pz [] X.env)) (pZ pos (pO [] X.env))):=by rfl) (hj:k<=j:=by decide):PE X (.Call (.Attribute o m apos) [] [] pos) (kh C m sp [] E0 ta xF):=by
  obtain⟨f,fd,hm,F,hb⟩:=D.ex;exact Qg he c hm F (hr.mono hj) hb .nil YG ht
theorem me1(D:DM X.prog X.w X.K X.mg X.base CX0 k C m ps sp)(c:Cls X.K C)(hr:Room j X.A)(he:PE X o ta)(ha:PA X (e::es) t){pl:tu Bool}
    (hst:pz (e::es) X.env=(tJ,eval e X.env)::pz es X.env:=by rfl) (hpl:(pS pos (pz es X.env)).any (·.1)=tJ:=by rfl)
    (ht:eval (.Call (.Attribute o m apos) (e::es) [] pos) X.env=(do
      let ov <- eval o X.env
      standAt apos.atName
      let (f,first) <- holding [ov] (getMethod ov m pl)
      callWith pos f first (pS pos (pz (e::es) X.env)) (pZ pos (pO [] X.env))):=by rfl) (hj:k<=j:=by decide):PE X (.Call (.Attribute o m apos) (e::es) [] pos) (kh C m sp [] E0 ta t):=by
  obtain⟨f,fd,hm,F,hb⟩:=D.ex;exact za6 he c hm F (hr.mono hj) hb .nil YG ha hst hpl ht
theorem mkC(D:DMk X.prog X.w X.K X.mg X.base CX0 k C ps sp)(hr:Room j X.A)(hg:Gl X x)(hm:X.mg x=tG (.ref C))(ha:PA X (e::es) t)(hdb:(x ==("__debug__" : pJ))=tJ:=by decide)(he:pz (e::es) X.env=(tJ,eval e X.env)::pz es X.env:=by rfl)
  (hpl:(pS pos (pz es X.env)).any (·.1)=tJ:=by rfl) (hj:k+1<=j:=by decide):PE X (.Call (.Name x p) (e::es) [] pos) (VE C sp [] E0 t):=by
 obtain⟨f,fd,M,F,hb⟩:=D.ex;exact UA M F (hr.mono hj) hg hm hb .nil YG ha hdb he hpl
end
section
variable{X:Cx}
end
section
variable{X:Cx}{k j:Nat}{C:pC}{m:pJ}{ps:List pJ}{sp:Sp}{o e:pM}{es:List pM}{ta:TE}{t:TA}{apos pos p:rj}
end
def zu(Fam:pC->Prop)(m:pJ)(sp:pC->Sp)(dvs:List V)(E:XK)(ta:TE)(t:TA):TE:=λσ H Q=>ta σ H λx H1=>∃C a dx fs,Fam C/\x=.ref a/\H1 a=tG (.ins C dx fs)/\fs.lookup m=tH /\
 t σ H1 λvs H2=>sp C (x::(vs ++ dvs)) H2 Q E
structure DMF(P:pH)(w:pK)(K:pB)(mg:pJ->Option pD)(base:pN)(CX:CXT)(k:Nat)(Fam:pC->Prop)(m:pJ)(ps:List pJ)(sp:pC->Sp):Prop where
 ex:∀C,Fam C->Cls K C/\DM P w K mg base CX k C m ps (sp C)
section
variable{X:Cx}{k j:Nat}{Fam:pC->Prop}{m:pJ}{ps:List pJ}{sp:pC->Sp}{o e:pM}{es:List pM}{ta:TE}{t:TA}{apos pos p:rj}{x:pJ}{E:XK}
theorem ze4(D:DMF X.prog X.w X.K X.mg X.base CX0 k Fam m ps sp)(hr:Room j X.A)(he:PE X o ta){pl:tu Bool}(ht:eval (.Call (.Attribute o m apos) [] [] pos) X.env=(do
      let ov <- eval o X.env
      standAt apos.atName
      let (f,first) <- holding [ov] (getMethod ov m pl)
      callWith pos f first (pS pos (pz [] X.env)) (pZ pos (pO [] X.env))):=by rfl) (hj:k<=j:=by decide):PE X (.Call (.Attribute o m apos) [] [] pos) (zu Fam m sp [] E0 ta xF):=by
  intro tK s σ H Q I h;refine bZ (pl:=pl) (thn (he tK s σ H _ I h) λu s1 ⟨x,H1,I1,rx,C,a,dx,fs,fam,ex,ea,l,q⟩=>?_) ht;subst ex;obtain rfl:u=Value.ref a:=rx;obtain⟨c,⟨f,fd,hm,F,hb⟩⟩:=D.ex C fam;refine xU I1 ea c hm l ?_;exact fW (first:=[.ref a]) I1.kIn hm.kp (jz (us:=[.ref a]) (vs:=[.ref a]) F (hr.mono hj) hb .nil YG I1 (.cons rfl .nil) q)
theorem zbi(D:DMF X.prog X.w X.K X.mg X.base CX0 k Fam m ps sp)(hr:Room j X.A)(he:PE X o ta)(ha:PA X (e::es) t){pl:tu Bool}
    (hst:pz (e::es) X.env=(tJ,eval e X.env)::pz es X.env:=by rfl) (hpl:(pS pos (pz es X.env)).any (·.1)=tJ:=by rfl)
    (ht:eval (.Call (.Attribute o m apos) (e::es) [] pos) X.env=(do
      let ov <- eval o X.env
      standAt apos.atName
      let (f,first) <- holding [ov] (getMethod ov m pl)
      callWith pos f first (pS pos (pz (e::es) X.env)) (pZ pos (pO [] X.env))):=by rfl) (hj:k<=j:=by decide):PE X (.Call (.Attribute o m apos) (e::es) [] pos) (zu Fam m sp [] E0 ta t):=by
  intro tK s σ H Q I h;refine bZ (pl:=pl) (thn (he tK s σ H _ I h) λu s1 ⟨x,H1,I1,rx,C,a,dx,fs,fam,ex,ea,l,q⟩=>?_) ht;subst ex;obtain rfl:u=Value.ref a:=rx;obtain⟨c,⟨f,fd,hm,F,hb⟩⟩:=D.ex C fam;refine xU I1 ea c hm l ?_;refine bS (first:=[.ref a]) (h₀:=X.base) I.ok.mod.kin hm.kp (thn (ha pos tK s1 σ H1 _ I1 q) λus s2 ⟨vs,H2,I2,r,q2⟩=>#[I2.kIn,?_]) hst hpl;exact jz (us:=.ref a::us) (vs:=.ref a::vs) F (hr.mono hj) hb .nil YG I2 (.cons rfl r) q2
end
section
variable{X:Cx}
theorem Y4:∀{ns:List Int} {its:List pD},Vals (ns.map V.int) its->sX its ns
 | [],_,.nil=>.nil
 | n::ns,_,.cons r t=>by
  obtain⟨tk,rfl⟩:=r;exact .cons n tk (Y4 t)
def yo(K:pB):List V->Hp->VK->Prop:=λxs H Q=>∃(p:pC) (ns:List Int),xs=[.ref p]/\SqL K H p (ns.map V.int)/\Q (.int ns.sum) H
theorem zbH(hc:X.calm=tI):vm X (.builtin "sum") (yo X.K):=by
 intro tK s σ H xs us Q I r h;obtain⟨p,ns,rfl,hS,q⟩:=h;obtain⟨u,rfl,ru⟩:=xz r;cases ru;obtain⟨its,rv,pl,hz⟩:=I.list hS;have hh:X.A.handled=tH:=I.ok.hd hc;have ia:=Y4 rv;obtain⟨ps,e⟩:=ia.allInts.items
 have en:ps.toList.map (·.1)=ns:=by
  rw[<- nums_intItems,<- e];exact ia.numsOf
 refine sum_intListG hh (by rw[<- e];exact pl.isList) λh' tk t' hk=>?_;rw[preSum_eq,bp (by simp),en];exact#[.int ns.sum,H,I.kept hk,#[_,rfl],q]
end
theorem Ww(l:()):((Builtin.Str.strSliceIndices tH tH (-1) (tx l).length).filterMap ((tx l).cps[·]?))=l.reverse:=by
 rw[zV,picked_rev];have e:(tx l).cps=l.toArray:=rfl;rw[e];apply List.ext_getElem?;intro i
 have h:((aW l.length).map λk=>l.length - 1 - k).filterMap (l.toArray[·]?)=(aW l.length).map λk=>l.getD (l.length - 1 - k) 0:=by
  rw[filterMap_get,cp]
  ·refine bw λk _=>?_;show l.toArray.getD (l.length - 1 - k) 0=_;simp [fM,List.getD];split <;> simp_all
  ·intro i hi;obtain⟨k,hk,rfl⟩:=tO.mp hi;have:=tT.mp hk;show _<l.toArray.size;rw[ak];lia
 rw[h];by_cases hi:i<l.length
 ·rw[cD hi,az,List.getElem?_range hi];show tG (l.getD (l.length - 1 - i) 0)=_;rw[af,ag ⋯];rfl
 ·rw[cZ (by simp;lia),cZ (by simp;lia)]
def yq(te ts:TE):TE:=λσ H Q=>te σ H λx H1=>ts σ H1 λy H2=>y=.int (-1)/\∃l:(),x=.str (tx l)/\l.length<=pA/\Q (.str (tx l.reverse)) H2
section
variable{X:Cx}{e st:pM}{te ts:TE}{pos p2:rj}
theorem za7(he:PE X e te)(hs:PE X st ts):PE X (.Subscript e (.Slice tH tH (tG st) p2) pos) (yq te ts):=by
 intro tK s σ H Q I h;refine tB (thn (he tK s σ H _ I h) λv s1 ⟨x,H1,I1,r1,q1⟩=>?_);refine wpAny_Slice ?_;rw[evalPart_none];refine pj (pj ?_);rw[evalPart_some];refine thn (hs tK s1 σ H1 _ I1 q1) λu s2 ⟨y,H2,I2,r2,ey,l,ex,hl,q2⟩=>?_;subst ey ex;obtain⟨t,rfl⟩:=r1;obtain⟨tk,rfl⟩:=r2;have I4:Inv X tK σ H2 { s2 with heap:=s2.heap.push { cls:=.type "slice",data:=.fields (List.toArray [.none,.none,.int (-1) tk]) } }:=I2.kept (t':=s2.toks) λb ob q=>ac _ q;show pF (model X.prog X.w) X.A (sM e (.Slice tH tH (tG st) p2) (.str (tx l) t) (.ref s2⁻¹)) (EP X tK σ Q) X.xe { s2 with heap:=s2.heap.push { cls:=.type "slice",data:=.fields (List.toArray [.none,.none,.int (-1) tk]) } };refine tail_any (ops:=[.ref s2⁻¹,.str (tx l) t]) (typeIs_str _ (tx l) t) slot_str_getitem.lookup ?_ (by with_unfolding_all rfl);refine so (l:=tH) (u:=tH) (st:=tG (-1,tk)) (Heap.IsSliceOf.new ..) rfl ?_;unfold sliceMade slicePicked
 have hc':¬ (((tG ((-1:Int),tk)).map (·.1)).getD 1 == 1 && (Builtin.Str.strSliceIndices ((tH:Option (Int × si)).map (·.1)) ((tH:Option (Int × si)).map (·.1)) (((tG ((-1:Int),tk)).map (·.1)).getD 1) (tx l).length).length ==(tx l).length)=tI:=by
  have:(((tG ((-1:Int),tk)).map (·.1)).getD 1 == 1)=tJ:=rfl;rw[this];simp
 rw[if_neg hc']
 have e:Str.mk ((Builtin.Str.strSliceIndices tH tH (-1) (tx l).length).filterMap ((tx l).cps[·]?)).toArray=tx l.reverse:=by
  rw[Ww]
 show (Str.mk ((Builtin.Str.strSliceIndices tH tH (-1) (tx l).length).filterMap ((tx l).cps[·]?)).toArray).length<=pA/\_;rw[e];refine#[by rw[zV,cw];exact hl,?_]
 exact#[.str (tx l.reverse),H2,I4.tok _,#[_,by
  show Value.str (Str.mk ((Builtin.Str.strSliceIndices tH tH (-1) (tx l).length).filterMap ((tx l).cps[·]?)).toArray) _=_
  rw[e]],q2]
end
structure zeL(K:pB)(C:pC)(m:pJ)(f:pC):Prop where
 sg:cH K (.ref C) "__getattribute__" = tG (tG (.builtin "type.__getattribute__"))
 rd:gp K C (.type "type")=tI
 fc:gq K (.ref C) (.type "type") m=tG (.val (.ref f))
 kp:aL K (.ref f)=tI
structure DC(P:pH)(w:pK)(K:pB)(mg:pJ->Option pD)(base:pN)(CX:CXT)(k:Nat)(C:pC)(m:pJ)(ps:List pJ)(sp:Sp):Prop where
 ex:∃f fd,zeL K C m f/\FnOk P w K mg base CX k f fd ps sp/\Binds K fd ps []
section
variable{X:Cx}{k j:Nat}{C:pC}{m x:pJ}{ps:List pJ}{sp:Sp}{e:pM}{es:List pM}{t:TA}{apos pos p:rj}
theorem zaE(D:DC X.prog X.w X.K X.mg X.base CX0 k C m ps sp)(hr:Room j X.A)(hg:Gl X x)(hm:X.mg x=tG (.ref C))(ha:PA X (e::es) t){pl:tu Bool}(hdb:(x ==("__debug__" : pJ))=tJ:=by decide)
    (hst:pz (e::es) X.env=(tJ,eval e X.env)::pz es X.env:=by rfl) (hpl:(pS pos (pz es X.env)).any (·.1)=tJ:=by rfl)
    (ht:eval (.Call (.Attribute (.Name x p) m apos) (e::es) [] pos) X.env=(do
      let ov <- eval (.Name x p) X.env
      standAt apos.atName
      let (f,first) <- holding [ov] (getMethod ov m pl)
      callWith pos f first (pS pos (pz (e::es) X.env)) (pZ pos (pO [] X.env))):=by rfl) (hj:k<=j:=by decide):PE X (.Call (.Attribute (.Name x p) m apos) (e::es) [] pos) (vF sp [] E0 t):=by
  obtain⟨f,fd,cm,F,hb⟩:=D.ex;have hn:PE X (.Name x p) (tC (.ref C)):=yQ hg hm rfl hdb;intro tK s σ H Q I h;refine bZ (pl:=pl) (thn (hn tK s σ H (λy H1=>y=.ref C/\H1=H) I #[rfl,rfl]) λu s1 ⟨y,H1,I1,ry,ey,eH⟩=>?_) ht;subst ey eH;obtain rfl:u=Value.ref C:=ry;refine PySem.W.method_cls I1.kIn cm.sg (PySem.W.cls_value I1.kIn cm.rd cm.fc rfl ?_);refine bS (first:=[]) (h₀:=X.base) I.ok.mod.kin cm.kp (thn (ha pos tK _ σ H1 _ (I1.tok _) h) λus s2 ⟨vs,H2,I2,r,q2⟩=>#[I2.kIn,?_]) hst hpl;exact jz (us:=us) (vs:=vs) F (hr.mono hj) hb .nil YG I2 r q2
def zv:V->List V->Hp->VK->Prop:=λx xs H Q=>∃(z y:pJ) (i:Nat),x=.str z/\xs=[.str y]/\PySem.Txt.find z y=(i:Int)/\Q (.int (i:Nat)) H
theorem zaN:MtR X "str.index" zv:=by
 intro tK s σ H x xs v us Q I rx rv h;obtain⟨z,y,i,rfl,rfl,hf,q⟩:=h;obtain⟨t,rfl⟩:=rx;obtain⟨u,rfl,t',rfl⟩:=xz rv;unfold PySem.Txt.find at hf
 cases ho:Builtin.Str.occurrences z y 0 z.length 1 with
 | nil=>rw[ho]at hf;dsimp only at hf;lia
 | cons a r =>
  rw[ho]at hf;have:a=i:=by dsimp only at hf;lia
  subst this;exact PySem.SC.index ho #[.int _,H,I.tok _,#[_,rfl],q]
end
section
variable{prog:pH}{w:pK}{A:pL}{E:pD->pE->Prop}{s:pE}
theorem wS{h h':pN}{a:pC}{ty:String}{x:pJ}{t:si}{i:Nat}(y:h.IsStrIter a ty x t i)(e:∀o,h.get? a=tG o->h'.get? a=tG o):h'.IsStrIter a ty x t i:=let #[o,ho,r]:=y; #[o,e o ho,r]
theorem vo{h h':pN}{a t:pC}{i:Nat}(y:h.IsTupleIter a t i)(e:∀o,h.get? a=tG o->h'.get? a=tG o):h'.IsTupleIter a t i:=let #[o,ho,r]:=y; #[o,e o ho,r]
theorem JR{h h':pN}{a:pC}{xs:Array pD}(y:h.IsTuple a xs)(e:∀o,h.get? a=tG o->h'.get? a=tG o):h'.IsTuple a xs:=let #[o,ho,r]:=y; #[o,e o ho,r]
theorem sit(x:pJ):pP x="str_ascii_iterator"\/pP x="str_iterator":=by
 unfold pP;split
 ·exact .inl rfl
 ·exact .inr rfl
theorem qh{it:pC}{x:pJ}{t:si}{i c:Nat}{Q:pD->pE->Prop}(hit:s.heap.IsStrIter it (pP x) x t i)(hx:x.cps[i]? = tG c)
  (hQ:∀h',h'.IsStrIter it (pP x) x t (i+1)->Heap.SameBut it s.heap h'->Q (.str ⟨#[c]⟩ s.toks) { s with heap:=h',toks:=s.toks+1 }) :
  pF (model prog w) A (Builtin.SmallTypes.nextOf (.ref it)) Q E s:=by
 rcases sit x with e | e
 ·rw[e]at hit hQ;exact wpAny_nextOf_ascii_item hit hx hQ
 ·rw[e]at hit hQ;exact wpAny_nextOf_wide_item hit hx hQ
theorem ji{it:pC}{x:pJ}{t:si}{i:Nat}{Q:pD->pE->Prop}(hh:A.handled=tH)(hit:s.heap.IsStrIter it (pP x) x t i)(hx:x.cps[i]? = tH)
  (hE:∀h' e,Heap.ExtBut it s.heap h'->(∃o,h'.get? e=tG o/\o.cls=.type "StopIteration")->E (.ref e) { s with heap:=h' }) :
  pF (model prog w) A (Builtin.SmallTypes.nextOf (.ref it)) Q E s:=by
 rcases sit x with e | e
 ·rw[e]at hit;exact wpAny_nextOf_ascii_end hh hit hx hE
 ·rw[e]at hit;exact wpAny_nextOf_wide_end hh hit hx hE
theorem qA{it t:pC}{i:Nat}{items:Array pD}{x:pD}{Q:pD->pE->Prop}(hit:s.heap.IsTupleIter it t i)(ht:s.heap.IsTuple t items)(hx:items[i]? = tG x)
  (hQ:∀h',h'.IsTupleIter it t (i+1)->Heap.SameBut it s.heap h'->Q x { s with heap:=h' }) :
  pF (model prog w) A (Builtin.SmallTypes.nextOf (.ref it)) Q E s:=by
 obtain⟨o,ho,hc,hd⟩:=id hit;obtain⟨ol,hol,_,nl,hdl⟩:=ht;unfold Builtin.SmallTypes.nextOf
 refine pi (wpAny_callSpecial?_slot (name:=bJ "__next__") hit.typeIs F.slot_tuple_iterator_next
  (sq F.slot_tuple_iterator_next hit.typeIs F.entry_tuple_iterator_next ?_ (F.args_tuple_iterator_next_1 _)))
 show pF _ _ (field (.ref it) 0 >>= _) _ _ s;refine pi (pT ho hd (x:=.ref t) rfl ?_);show pF _ _ (if (Value.ref t == Value.none)=tI then _ else _) _ _ s;rw[if_neg (show ¬ ((Value.ref t == Value.none)=tI)from aB)];show pF _ _ (field (.ref it) 1 >>= _) _ _ s;refine pi (pT ho hd (x:=.int i 0) rfl ?_);show pF _ _ (seqItems? (.ref t) >>= _) _ _ s;refine pi (rg hol hdl ?_)
 erw[aX,hx]
 refine pi (rz ho hd (by simp) (pj #[x,rfl,pj (hQ _ ?_ (Heap.SameBut.update ..))]))
 exact#[_,ce _ ho (Obj.isFreed_of_fields (Obj.data_mapFields hd _)),(Obj.cls_mapFields ..).trans hc,by
  rw[Obj.data_mapFields hd];simp [rawInt]]
structure zcP(z TI TO i1 i2 l2:pC):Prop extends JJ z TI TO i1 i2 where
 l2z:l2≠z
 l2TO:l2≠TO
 l2i1:l2≠i1
 l2i2:l2≠i2
theorem Qx{z TI TO i1 i2 l2:pC}{k c:Nat}{X:pJ}{tx:si}{ys:Array pD}{y a b:pD}{Q:pD->pE->Prop}(D:zcP z TI TO i1 i2 l2)
  (hz:sf s.heap z TI TO .none) (hTI:rm s.heap TI (.ref i1) (.ref i2)) (hTO:rm s.heap TO a b)
  (h1:s.heap.IsStrIter i1 (pP X) X tx k) (h2:s.heap.IsTupleIter i2 l2 k) (hl2:s.heap.IsTuple l2 ys) (hx:X.cps[k]? = tG c) (hy:ys[k]? = tG y)
  (hQ:∀h' t',sf h' z TI TO (rawInt s⁻¹)->rm h' TO (.str ⟨#[c]⟩ t') y->h'.IsStrIter i1 (pP X) X tx (k+1)->h'.IsTupleIter i2 l2 (k+1)->rm h' s⁻¹ (.str ⟨#[c]⟩ t') y->h'.objs.size=s⁻¹+1 ->
   (∀c o,c≠z->c≠TO->c≠i1->c≠i2->s.heap.get? c=tG o->h'.get? c=tG o)->Q (.ref s⁻¹) { s with heap:=h',toks:=s.toks+1 }) :
  pF (model prog w) A (Builtin.«zip.__next__» #[[.ref z],[]]) (λfin s'=>∃v,fin=.done (.ret v)/\Q v s') E s:=by
 show pF _ _ (field (.ref z) 2 >>= _) _ _ _;refine pi (pT hz rfl (x:=.bool tJ) rfl ?_);show pF _ _ (field (.ref z) 3 >>= _) _ _ _;refine pi (pT hz rfl (x:=.ref TI) rfl ?_);refine pi (rg hTI rfl ?_);show pF _ _ (Builtin.SmallTypes.ownedTupleIsFree (.ref z) >>= _) _ _ _;refine pi ?_;unfold Builtin.SmallTypes.ownedTupleIsFree;refine pi (pT hz rfl (x:=.none) rfl (pj ?_))
 erw[if_true]
 refine pi (sr ?_);refine pi (pT hz rfl (x:=.ref TO) rfl ?_);refine pi (rB hz (by simp) λh₁ hz₁ hs₁=>?_)
 replace hz₁:sf h₁ z TI TO .ellipsis:=hz₁
 refine pi ?_
 erw[List.zipIdx_cons,List.zipIdx_nil,dm,fA]
 refine pi (pi (sK ?_));show pF _ _ (Builtin.SmallTypes.nextOf (.ref i1) >>= _) _ _ _;refine pi (qh (s:={ s with heap:=h₁ }) (wS h1 λo e=>hs₁.extBut _ _ D.i1z e) hx λh₂ h1₂ hs₂=>pj ?_);have hTO₂:rm h₂ TO a b:=hs₂.extBut _ _ D.TOi1 (hs₁.extBut _ _ D.TOz hTO);refine pi (rg hTO₂ rfl ?_);refine pi (sy hTO₂ λh₃ hTO₃ hs₃=>?_)
 replace hTO₃:rm h₃ TO (.str ⟨#[c]⟩ s.toks) b:=hTO₃
 refine pi (rM (pj ?_));refine pi (pi (sK ?_));show pF _ _ (Builtin.SmallTypes.nextOf (.ref i2) >>= _) _ _ _;have up3:∀d o,d≠z->d≠i1->d≠TO->s.heap.get? d=tG o->h₃.get? d=tG o:=λd o d1 d2 d3 e=>hs₃.extBut _ _ d3 (hs₂.extBut _ _ d2 (hs₁.extBut _ _ d1 e));refine pi (qA (vo h2 λo e=>up3 _ o D.i2z D.i12.symm D.TOi2.symm e) (JR hl2 λo e=>up3 _ o D.l2z D.l2i1 D.l2TO e) hy λh₄ h2₄ hs₄=>pj ?_);have hTO₄:rm h₄ TO (.str ⟨#[c]⟩ s.toks) b:=hs₄.extBut _ _ D.TOi2 hTO₃;refine pi (rg hTO₄ rfl ?_);refine pi (sy hTO₄ λh₅ hTO₅ hs₅=>?_)
 replace hTO₅:rm h₅ TO (.str ⟨#[c]⟩ s.toks) y:=hTO₅
 refine pi (rM (pj (pj ?_)));refine pi (rg hTO₅ rfl ?_);refine pi (wpAny_newTuple ?_);have hsz:h₅.objs.size=s⁻¹:=by rw[hs₅.1,hs₄.1,hs₃.1,hs₂.1,hs₁.1]
 have hz₅:sf h₅ z TI TO .ellipsis:=hs₅.extBut _ _ D.TOz.symm (hs₄.extBut _ _ D.i2z.symm (hs₃.extBut _ _ D.TOz.symm (hs₂.extBut _ _ D.i1z.symm hz₁)))
 have hk₅:∀c o,c≠z->c≠TO->c≠i1->c≠i2->s.heap.get? c=tG o->h₅.get? c=tG o:=λc o c1 c2 c3 c4 e =>
  hs₅.extBut _ _ c2 (hs₄.extBut _ _ c4 (up3 _ _ c1 c3 c2 e))
 have h1₅:h₅.IsStrIter i1 (pP X) X tx (k+1):=wS h1₂ λo e=>hs₅.extBut _ _ D.TOi1.symm (hs₄.extBut _ _ D.i12 (hs₃.extBut _ _ D.TOi1.symm e));have h2₅:h₅.IsTupleIter i2 l2 (k+1):=vo h2₄ λo e=>hs₅.extBut _ _ D.TOi2.symm e;have hzlt:z<h₅.objs.size:=au hz₅;show pF _ _ (Builtin.SmallTypes.ownedTupleHandOut (.ref z) (.ref h₅.objs.size) >>= _) _ _ _;refine pi ?_;unfold Builtin.SmallTypes.ownedTupleHandOut;have hz₆:sf (h₅.push { cls:=.type "tuple",data:=.seq (List.toArray [.str ⟨#[c]⟩ s.toks,y]) }) z TI TO .ellipsis:=ac _ hz₅;refine pi (rB hz₆ (by simp) λh₇ hz₇ hs₇=>?_)
 replace hz₇:sf h₇ z TI TO (rawInt h₅.objs.size):=hz₇
 refine rB hz₇ (by simp) λh₈ hz₈ hs₈=>?_
 replace hz₈:sf h₈ z TI TO (rawInt h₅.objs.size):=hz₈
 have up:∀c o,c≠z->h₅.get? c=tG o->h₈.get? c=tG o:=λc o c1 e=>hs₈.extBut _ _ c1 (hs₇.extBut _ _ c1 (ac _ e));have hT₈:rm h₈ h₅.objs.size (.str ⟨#[c]⟩ s.toks) y:=hs₈.extBut _ _ (bW hzlt) (hs₇.extBut _ _ (bW hzlt) (aC _ rfl));have hz8:h₈.objs.size=h₅.objs.size+1:=by rw[hs₈.1,hs₇.1,bV]
 rw[hsz]at hz₈ hT₈ hz8;refine pj #[_,rfl,?_];show Q (.ref h₅.objs.size) _;rw[hsz];exact hQ h₈ s.toks hz₈ (up _ _ D.TOz hTO₅) (wS h1₅ λo e=>up _ o D.i1z e) (vo h2₅ λo e=>up _ o D.i2z e) hT₈ hz8 λc o c1 c2 c3 c4 e=>up c o c1 (hk₅ c o c1 c2 c3 c4 e)
theorem zaT{z TI TO i1 i2 l2:pC}{k:Nat}{X:pJ}{tx:si}{a b:pD}{Q:Fin->pE->Prop}(hh:A.handled=tH)(D:zcP z TI TO i1 i2 l2)
  (hz:sf s.heap z TI TO .none) (hTI:rm s.heap TI (.ref i1) (.ref i2)) (hTO:rm s.heap TO a b)
  (h1:s.heap.IsStrIter i1 (pP X) X tx k) (hx:X.cps[k]? = tH)
  (hE:∀h' e,(∀c o,c≠z->c≠TO->c≠i1->c≠i2->s.heap.get? c=tG o->h'.get? c=tG o)->(∃o,h'.get? e=tG o/\o.cls=.type "StopIteration")->E (.ref e) { s with heap:=h' }) :
  pF (model prog w) A (Builtin.«zip.__next__» #[[.ref z],[]]) Q E s:=by
 show pF _ _ (field (.ref z) 2 >>= _) _ _ _;refine pi (pT hz rfl (x:=.bool tJ) rfl ?_);show pF _ _ (field (.ref z) 3 >>= _) _ _ _;refine pi (pT hz rfl (x:=.ref TI) rfl ?_);refine pi (rg hTI rfl ?_);show pF _ _ (Builtin.SmallTypes.ownedTupleIsFree (.ref z) >>= _) _ _ _;refine pi ?_;unfold Builtin.SmallTypes.ownedTupleIsFree;refine pi (pT hz rfl (x:=.none) rfl (pj ?_))
 erw[if_true]
 refine pi (sr ?_);refine pi (pT hz rfl (x:=.ref TO) rfl ?_);refine pi (rB hz (by simp) λh₁ hz₁ hs₁=>?_)
 replace hz₁:sf h₁ z TI TO .ellipsis:=hz₁
 refine pi ?_
 erw[List.zipIdx_cons,List.zipIdx_nil,dm,fA]
 refine pi (pi (sK ?_));show pF _ _ (Builtin.SmallTypes.nextOf (.ref i1) >>= _) _ _ _;refine pi (ji (s:={ s with heap:=h₁ }) hh (wS h1 λo e=>hs₁.extBut _ _ D.i1z e) hx λh₂ e hs₂ he=>?_);obtain⟨oe,hoe,hce⟩:=he;have hz₂:sf h₂ z TI TO .ellipsis:=hs₂ _ _ D.i1z.symm hz₁;have hez:e≠z:=λx=>by subst x;rw[hz₂]at hoe;cases hoe;simp at hce
 refine rB hz₂ (by simp) λh₃ _ hs₃=>hE h₃ e (λc o c1 _ c3 _ x=>hs₃.extBut _ _ c1 (hs₂ _ _ c3 (hs₁.extBut _ _ c1 x))) #[oe,hs₃.extBut _ _ hez hoe,hce]
theorem qM{z TI TO i1 i2 l2:pC}{k c:Nat}{X:pJ}{tx:si}{ys:Array pD}{y a b:pD}{Q:Option pD->pE->Prop}(D:zcP z TI TO i1 i2 l2)
  (hz:sf s.heap z TI TO .none) (hTI:rm s.heap TI (.ref i1) (.ref i2)) (hTO:rm s.heap TO a b)
  (h1:s.heap.IsStrIter i1 (pP X) X tx k) (h2:s.heap.IsTupleIter i2 l2 k) (hl2:s.heap.IsTuple l2 ys) (hx:X.cps[k]? = tG c) (hy:ys[k]? = tG y)
  (hQ:∀h' t',sf h' z TI TO (rawInt s⁻¹)->rm h' TO (.str ⟨#[c]⟩ t') y->h'.IsStrIter i1 (pP X) X tx (k+1)->h'.IsTupleIter i2 l2 (k+1)->rm h' s⁻¹ (.str ⟨#[c]⟩ t') y->h'.objs.size=s⁻¹+1 ->
   (∀c o,c≠z->c≠TO->c≠i1->c≠i2->s.heap.get? c=tG o->h'.get? c=tG o)->Q (tG (.ref s⁻¹)) { s with heap:=h',toks:=s.toks+1 }) :
  pF (model prog w) A (pyNext (.ref z)) Q E s:=by
 have hT:s.TypeIs (.ref z) "zip":=#[_,hz,rfl];unfold pyNext
 exact pi (rS (wpAny_callSpecial?_slot (name:=bJ "__next__") hT F.slot_zip_next
  (sq F.slot_zip_next hT F.entry_zip_next
   (Qx D hz hTI hTO h1 h2 hl2 hx hy λh' t' a1 a2 a3 a4 a5 a6 a7=>pj (hQ h' t' a1 a2 a3 a4 a5 a6 a7)) (F.args_zip_next_1 _))))
theorem ja{z TI TO i1 i2 l2:pC}{k:Nat}{X:pJ}{tx:si}{a b:pD}{Q:Option pD->pE->Prop}(hh:A.handled=tH)(D:zcP z TI TO i1 i2 l2)
  (hz:sf s.heap z TI TO .none) (hTI:rm s.heap TI (.ref i1) (.ref i2)) (hTO:rm s.heap TO a b)
  (h1:s.heap.IsStrIter i1 (pP X) X tx k) (hx:X.cps[k]? = tH)
  (hQ:∀h',(∀c o,c≠z->c≠TO->c≠i1->c≠i2->s.heap.get? c=tG o->h'.get? c=tG o)->Q tH { s with heap:=h' }):pF (model prog w) A (pyNext (.ref z)) Q E s:=by
 have hT:s.TypeIs (.ref z) "zip":=#[_,hz,rfl];unfold pyNext
 refine pi (rS (wpAny_callSpecial?_slot (name:=bJ "__next__") hT F.slot_zip_next
  (sq F.slot_zip_next hT F.entry_zip_next (zaT hh D hz hTI hTO h1 hx λh' e hk he=>?_) (F.args_zip_next_1 _))))
 obtain⟨o,ho,hc⟩:=he;refine pi (wpAny_isInstance (T:="StopIteration") (b:=tI) #[o,ho,hc] isSubtype_stop ?_);exact pj (hQ _ hk)
end
noncomputable abbrev zdd(h:pN)(x:pJ)(t:si):pN:=h.push { cls:=.type (pP x),data:=.fields (List.toArray [.str x t,.int 0 0]) }
noncomputable abbrev zdh(h:pN)(x:pJ)(t:si)(l2:pC):pN:=(zdd h x t).push { cls:=.type "tuple_iterator",data:=.fields (List.toArray [.ref l2,.int 0 0]) }
noncomputable abbrev zda(h:pN)(x:pJ)(t:si)(l2:pC):pN:=(zdh h x t l2).push { cls:=.type "tuple",data:=.seq (List.toArray [.ref h.objs.size,.ref (zdd h x t).objs.size]) }
noncomputable abbrev zdb(h:pN)(x:pJ)(t:si)(l2:pC):pN:=(zda h x t l2).push { cls:=.type "tuple",data:=.seq (List.toArray [.none,.none]) }
noncomputable abbrev zaL(h:pN)(x:pJ)(t:si)(l2:pC):pN:=(zdb h x t l2).push { cls:=.type "zip",data:=.fields (List.toArray [.none,.bool tJ,.bool tJ,.ref (zdh h x t l2).objs.size,.ref (zda h x t l2).objs.size]) }
theorem jX(x:pJ)(t:si)(l2:pC)(ys:Array pD) :
  Meets (Builtin.«zip.__new__» #[[.type "zip",.str x t,.ref l2],[]]) (λ_ R s=>s.heap.IsTuple l2 ys /\
   R (.ok (.ret (.ref (zdb s.heap x t l2).objs.size))) { s with heap:=zaL s.heap x t l2 }) :=
 .of_wp λprog w A R s h=>by
  obtain⟨hp,g,d,tk,os⟩:=s;obtain⟨hl2,h⟩:=h;have hsub:=sub_zip;have hL2:Heap.IsTuple (Shared.heap #[hp.push { cls:=.type (pP x),data:=.fields (List.toArray [.str x t,.int 0 0]) },g,d,tk,os]) l2 ys:=JR hl2 λo e=>ac _ e
  wp_walk using wpAny_pyIter_strU (s:=#[hp,g,d,tk,os]) (x:=x) (t:=t),wpAny_pyIter_tuple hL2
  exact#[_,rfl,h]
section
variable{prog:pH}{w:pK}{A:pL}{E:pD->pE->Prop}{s:pE}
theorem Jq{x:pJ}{t:si}{l2:pC}{ys:Array pD}{Q:pD->pE->Prop}(hl2:s.heap.IsTuple l2 ys)
  (h:∀h',sf h' (s⁻¹+4) (s⁻¹+2) (s⁻¹+3) .none->rm h' (s⁻¹+2) (.ref s⁻¹) (.ref (s⁻¹+1)) ->
   rm h' (s⁻¹+3) .none .none->h'.IsStrIter s⁻¹ (pP x) x t 0->h'.IsTupleIter (s⁻¹+1) l2 0->h'.objs.size=s⁻¹+5 ->
   (∀c o,s.heap.get? c=tG o->h'.get? c=tG o)->Q (.ref (s⁻¹+4)) { s with heap:=h' }) :
  pF (model prog w) A (call (.type "zip") [.str x t,.ref l2]) Q E s:=by
 refine callType_new F.called_zip ∅ (F.typeCall_zip_2 _ _) (F.newCall_zip_2 _ _) (λobj=>F.args_object_init_3 obj _ _) F.entry_zip_new
  (jX x t l2 ys) #[hl2,?_]
 have z1:(zdd s.heap x t).objs.size=s⁻¹+1:=bV ..;have z2:(zdh s.heap x t l2).objs.size=s⁻¹+2:=by rw[bV,z1]
 have z3:(zda s.heap x t l2).objs.size=s⁻¹+3:=by rw[bV,z2]
 have z4:(zdb s.heap x t l2).objs.size=s⁻¹+4:=by rw[bV,z3]
 have z5:(zaL s.heap x t l2).objs.size=s⁻¹+5:=by rw[bV,z4]
 have g5:(zaL s.heap x t l2).get? (zdb s.heap x t l2).objs.size=tG _:=aC _ rfl;have g4:(zaL s.heap x t l2).get? (zda s.heap x t l2).objs.size=tG _:=ac _ (aC _ rfl);have g3:(zaL s.heap x t l2).get? (zdh s.heap x t l2).objs.size=tG _:=ac _ (ac _ (aC _ rfl));have g2:(zaL s.heap x t l2).get? (zdd s.heap x t).objs.size=tG _:=ac _ (ac _ (ac _ (aC _ rfl)));have g1:(zaL s.heap x t l2).get? s⁻¹=tG _:=ac _ (ac _ (ac _ (ac _ (aC _ rfl))));show _/\_;rw[z2,z3,z4]at g5;rw[z1,z2]at g3;rw[z3]at g4;rw[z1]at g2;rw[z4]
 exact#[#[_,g5,rfl],h _ g5 g3 g4 #[_,g1,rfl,rfl] #[_,g2,rfl,rfl] z5 λc o x =>
  ac _ (ac _ (ac _ (ac _ (ac _ x))))]
end
noncomputable def Izs(K:pB)(l:())(b:pC):It:=#[λi H=>∃ys y,SqT K H b ys/\i<l.length/\ys[i]? = tG y,λi H v H'=>∃p c y,H p=tH/\l[i]? = tG c/\(∀ys,SqT K H b ys->ys[i]? = tG y)/\v=.ref p/\H'=upd H p (.tup [.str (tx [c]),y]),λi H=>i=l.length]
def ZSt(z TI TO i1 i2:pC)(X:pJ)(t:si)(l2:pC)(i:Nat)(h:pN):Prop:=sf h z TI TO .none/\rm h TI (.ref i1) (.ref i2)/\(∃a b,rm h TO a b)/\h.IsStrIter i1 (pP X) X t i/\h.IsTupleIter i2 l2 i
theorem Ju{P:pH}{w:pK}{K:pB}{elts:List pM}{x1:Nat}{tpos:rj}(z TI TO i1 i2 l2:pC)(l:())(t:si)(D:zcP z TI TO i1 i2 l2) :
  Q7 P w K (.Tuple elts x1 tpos) (Izs K l l2) [z,TI,TO,i1,i2] z (λi h=>ZSt z TI TO i1 i2 (tx l) t l2 i h) where
 mem:=by simp
 obj:=λi h st b hb=>by
  obtain⟨hz,hTI,⟨a,c,hTO⟩,⟨o1,e1,c1,d1⟩,⟨o2,e2,c2,d2⟩⟩:=st
  erw[bx,eV,or_false]at hb
  rcases hb with rfl | rfl | rfl | rfl | rfl
  ·exact#[_,hz,λv q=>by have q':Data.fields _=Data.cell v:=q;cases q']
  ·exact#[_,hTI,λv q=>by have q':Data.seq _ _=Data.cell v:=q;cases q']
  ·exact#[_,hTO,λv q=>by have q':Data.seq _ _=Data.cell v:=q;cases q']
  ·exact#[o1,e1,λv q=>by rw[d1]at q;cases q]
  ·exact#[o2,e2,λv q=>by rw[d2]at q;cases q]
 keep:=λi h h' st k=>by
  obtain⟨hz,hTI,⟨a,c,hTO⟩,h1,h2⟩:=st;exact#[k z (by simp) _ hz,k TI (by simp) _ hTI,#[a,c,k TO (by simp) _ hTO],wS h1 λo e=>k i1 (by simp) o e,vo h2 λo e=>k i2 (by simp) o e]
 item:=by
  intro X hP hw hK hc i tK s σ H E I hf st hg;subst hP hw hK;obtain⟨ys,y,hqy,hi,hy⟩:=hg;obtain⟨its2,rv2,p2,_⟩:=I.tuple hqy;obtain⟨u2,hu2,ru2⟩:=rv2.get hy;obtain⟨hz,hTI,⟨a,b,hTO⟩,h1,h2⟩:=st;have hl2:s.heap.IsTuple l2 its2.toArray:=p2
  have hx:(tx l).cps[i]? = tG l[i]:=by
   show l.toArray[i]? = _;simp [hi]
  refine qM D hz hTI hTO h1 h2 hl2 hx (y:=u2) (by simpa using hu2) λh' t' a1 a2 a3 a4 a5 a6 hk=>?_;refine#[_,rfl,wpAny_letOwnedTupleGo_zip (s:={ s with heap:=h',toks:=s.toks+1 }) a1 λh2' hz2 sb=>?_];have zlt:z<s⁻¹:=au hz;have TIlt:TI<s⁻¹:=au hTI;have TOlt:TO<s⁻¹:=au hTO;have i1lt:i1<s⁻¹:=by obtain⟨o,e,_⟩:=h1;exact au e
  have i2lt:i2<s⁻¹:=by obtain⟨o,e,_⟩:=h2;exact au e
  have I1:Inv X tK σ H { s with heap:=h2',toks:=s.toks+1 }:=Inv.turns (fp:=[z,TI,TO,i1,i2]) I (λb o hb q=>by
   have hb':b≠z/\b≠TI/\b≠TO/\b≠i1/\b≠i2:=by simpa using hb
   exact (sb.2 b hb'.1).trans (hk b o hb'.1 hb'.2.2.1 hb'.2.2.2.1 hb'.2.2.2.2 q)) hf
  have hp:H s⁻¹=tH:=I.hok.fresh (al _);have hT2:h2'.get? s⁻¹=tG { cls:=.type "tuple",data:=.seq (List.toArray [.str ⟨#[l[i]]⟩ t',u2]) }:=(sb.2 _ (bW zlt)).trans a5;have ru1:RelV (.str (tx [l[i]])) (.str ⟨#[l[i]]⟩ t'):=#[t',rfl]
  have I2:Inv X tK σ (upd H s⁻¹ (.tup [.str (tx [l[i]]),y])) { s with heap:=h2',toks:=s.toks+1 } :=
   Inv.track I1 (I.fpOk (al _) hp) #[by show 2<=pA;decide,[.str ⟨#[l[i]]⟩ t',u2],.cons ru1 (.cons ru2 .nil),#[_,hT2,rfl,_,rfl]]
  refine#[.ref s⁻¹,_,I2,rfl,#[s⁻¹,l[i],y,hp,by simp [hi],λzs hz'=>by rw[I.tuple_inj hz' hqy];exact hy,rfl,rfl],#[hz2,(sb.2 _ D.TIz).trans (hk _ _ D.TIz D.TITO D.TIi1 D.TIi2 hTI),#[_,_,(sb.2 _ D.TOz).trans a2],wS a3 λo e=>(sb.2 _ D.i1z).trans e,vo a4 λo e=>(sb.2 _ D.i2z).trans e],λb hb=>?_];rw[zk]
  ·exact (hf b hb).1
  ·erw[bx,eV,or_false]at hb
   rcases hb with rfl | rfl | rfl | rfl | rfl <;> exact ax (by assumption)
 done:=by
  intro X hP hw hK hc i tK s σ H E I hf st hg;subst hP hw hK;have hi:i=l.length:=hg;obtain⟨hz,hTI,⟨a,b,hTO⟩,h1,h2⟩:=st;refine ja (I.ok.hd hc) D hz hTI hTO h1 ?_ λh' hk=>#[rfl,?_]
  ·show l.toArray[i]? = tH;simp [hi]
  ·exact Inv.turns (fp:=[z,TI,TO,i1,i2]) (t':=s.toks) I (λb o hb q=>by
    have hb':b≠z/\b≠TI/\b≠TO/\b≠i1/\b≠i2:=by simpa using hb
    exact hk b o hb'.1 hb'.2.2.1 hb'.2.2.2.1 hb'.2.2.2.2 q) hf
 self:=λA i s Q E st h=>sZ st.1 h
section
variable{X:Cx}
def iZs(K:pB)(ta:TA):TI:=λσ H R=>ta σ H λvs H1=>∃l b,vs=[.str (tx l),.ref b]/\(∃ys,SqT K H1 b ys)/\R (Izs K l b) H1
theorem zcE{a b:pM}{ta:TA}{p pos tpos:rj}{elts:List pM}{x1:Nat}(hg:Gl X "zip")(hm:X.mg "zip" = tH)(ha:PA X [a,b] ta)(hs:pz [a,b] X.env=(tJ,eval a X.env)::pz [b] X.env:=by rfl)
  (hpl:(pS pos (pz [b] X.env)).any (·.1)=tJ:=by rfl):PI X (.Tuple elts x1 tpos) (.Call (.Name "zip" p) [a,b] [] pos) (iZs X.K ta):=by
 intro tK s σ H R I h;refine tF (wm I hg hm PyProof.Rows.boot_zip (bH (thn (ha pos tK s σ H _ I h) λus s1 ⟨vs,H1,I1,r1,q1⟩=>?_) hs hpl));obtain⟨l,l2,e,⟨ys,hqy⟩,q⟩:=q1;subst e;obtain⟨u1,u2,rfl,ru1,ru2⟩:=Vb r1;obtain⟨t,rfl⟩:=ru1;cases ru2;obtain⟨its2,rv2,p2,_⟩:=I1.tuple hqy;have hl2:s1.heap.IsTuple l2 its2.toArray:=p2;have l2lt:l2<s1⁻¹:=by obtain⟨o,e,_⟩:=hl2;exact au e
 have ne:∀a b:Nat,a≠b->s1⁻¹+a≠s1⁻¹+b:=λa b h e=>h (Nat.add_left_cancel e);have nl:∀a:Nat,l2≠s1⁻¹+a:=λa=>ax (aw l2lt (cA _ _));refine Jq hl2 λh' hz hTI hTO h1 h2 hsz kk=>?_;have I2:Inv X tK σ H1 { s1 with heap:=h' }:=I1.kept (t':=s1.toks) kk;refine sZ (s:={ s1 with heap:=h' }) hz ?_;refine#[s1⁻¹+4,[s1⁻¹+4,s1⁻¹+2,s1⁻¹+3,s1⁻¹,s1⁻¹+1],_,_,H1,rfl,I2,Ju (s1⁻¹+4) (s1⁻¹+2) (s1⁻¹+3) s1⁻¹ (s1⁻¹+1) l2 l t #[#[ne 2 4 ∅,ne 3 4 ∅,ne 0 4 ∅,ne 1 4 ∅,ne 2 3 ∅,ne 2 0 ∅,ne 2 1 ∅,ne 3 0 ∅,ne 3 1 ∅,ne 0 1 ∅],nl 4,nl 3,nl 0,nl 1],#[hz,hTI,#[_,_,hTO],h1,h2],λb hb=>?_,q]
 have hb':s1⁻¹<=b:=by
  erw[bx,eV,or_false]at hb
  rcases hb with e | e | e | e | e
  ·rw[e];exact cA _ _
  ·rw[e];exact cA _ _
  ·rw[e];exact cA _ _
  ·rw[e];exact al _
  ·rw[e];exact cA _ _
 exact I1.fpOk hb' (I1.hok.fresh hb')
end
def CompZ(K:pB)(l:())(b:pC)(g:TG)(tt:TT)(te:TE)(own:Nat)(ix:())(σ:L2.St)(H1:Hp)(Q:VK)(D:pC):Prop:=Wg (Izs K l b) g tt te own ix σ H1 Q D
theorem zI{K:pB}{ta:TA}{g:TG}{tt:TT}{te:TE}{own:Nat}{ix:()}{σ:L2.St}{H:Hp}{Q:VK}:kO (iZs K ta) g tt te own ix σ H Q=ta σ H λvs H1=>∃l b,vs=[.str (tx l),.ref b]/\(∃ys,SqT K H1 b ys)/\∀D,H1 D=tH->CompZ K l b g tt te own ix σ H1 Q D:=rfl
section
variable{g:TG}{tt:TT}{te:TE}{own:Nat}{ix:()}{σ:L2.St}{H1:Hp}{Q:VK}{D:pC}
theorem CompZ.by{K:pB}{l:()}{b:pC}{ys:List V}(Pv:Nat->List V->Hp->Prop)(hlen:l.length=ys.length)(h0:Pv 0 [] (upd H1 D (.lst [])))(hl:∀i tM H',i<=l.length->Pv i tM H'->SqT K H' b ys)
  (hs:∀i c y tM H' p,l[i]? = tG c->ys[i]? = tG y->Pv i tM H'->H' p=tH->g (.ref p) (vp σ own ix) (upd H' p (.tup [.str (tx [c]),y])) λσ3 H3=>xp (vp σ own ix) σ3/\tt σ3 H3 λb H4=>if b=tI then
   te σ3 H4 λv H5=>H5 D=tG (.lst tM)/\tM.length<pA/\CNx l.length i Pv (tM ++ [v]) (upd H5 D (.lst (tM ++ [v])))else CNx l.length i Pv tM H4)
  (hd:∀tM H',Pv l.length tM H'->Q (.ref D) H'):CompZ K l b g tt te own ix σ H1 Q D:=by
 refine#[λi m tM H=>m=l.length - i/\i<=l.length/\Pv i tM H,#[l.length,by simp,aG _,h0],?_];rintro i m tM H' ⟨rfl,hi,p⟩;have q:=hl i tM H' hi p;by_cases hlt:i<l.length
 ·refine .inr #[#[ys,ys[i],q,hlt,by simp [<- hlen,hlt]],λx H2 y=>?_];obtain⟨p',c,y,hp,hc,hy,ev,eH⟩:=y;subst ev eH;exact hs i c y tM H' p' hc (hy ys q) p hp
 ·have e:i=l.length:=⋯;subst e;exact .inl #[rfl,hd tM H' p]
end
section
variable{X:Cx}{k1 k2 k3 j:Nat}{C1 C2 C3:pC}{m:pJ}{ps:List pJ}{s1 s2 s3:Sp}{o e:pM}{es:List pM}{ta:TE}{t:TA}{apos pos p:rj}{E:XK}
def yn(t1 t2:TE):TE:=λσ H Q=>t1 σ H Q\/t2 σ H Q
theorem JG{t1 t2:TE}(h1:PE X e t1)(h2:PE X e t2):PE X e (yn t1 t2):=by
 intro tK s σ H Q I h;rcases h with h | h
 ·exact h1 tK s σ H Q I h
 ·exact h2 tK s σ H Q I h
theorem zcG(D1:DM X.prog X.w X.K X.mg X.base CX0 k1 C1 m ps s1)(D2:DM X.prog X.w X.K X.mg X.base CX0 k2 C2 m ps s2)(D3:DM X.prog X.w X.K X.mg X.base CX0 k3 C3 m ps s3)(c1:Cls X.K C1)(c2:Cls X.K C2)(c3:Cls X.K C3)(hr:Room j X.A)(he:PE X o ta)(ha:PA X (e::es) t){pl:tu Bool}
    (hst:pz (e::es) X.env=(tJ,eval e X.env)::pz es X.env:=by rfl) (hpl:(pS pos (pz es X.env)).any (·.1)=tJ:=by rfl)
    (ht:eval (.Call (.Attribute o m apos) (e::es) [] pos) X.env=(do
      let ov <- eval o X.env
      standAt apos.atName
      let (f,first) <- holding [ov] (getMethod ov m pl)
      callWith pos f first (pS pos (pz (e::es) X.env)) (pZ pos (pO [] X.env))):=by rfl) (h1:k1<=j:=by decide) (h2:k2<=j:=by decide) (h3:k3<=j:=by decide) :
    PE X (.Call (.Attribute o m apos) (e::es) [] pos) (yn (kh C1 m s1 [] E0 ta t) (yn (kh C2 m s2 [] E0 ta t) (kh C3 m s3 [] E0 ta t))) :=
  JG (me1 (pl:=pl) D1 c1 hr he ha hst hpl ht h1) (JG (me1 (pl:=pl) D2 c2 hr he ha hst hpl ht h2) (me1 (pl:=pl) D3 c3 hr he ha hst hpl ht h3))
end
section
variable{X:Cx}
end
open PySem PySem.Spec PyProof.Rows L2 PySem.W PySem.Calls
def qY(n:Int):Prop:=Builtin.Int.intBits n<=1048576
theorem J4:∀(ns:List Int),WData.weightAll (ns.map WData.int)<=1048576->∀n ∈ ns,qY n
 | [],_,n,h=>nomatch h
 | m::ns,hw,n,h=>by
  rw[ar,WData.weightAll]at hw;rcases tP.mp h with rfl | h
  ·have e:WData.weight (.int n)=Builtin.Int.intBits n:=by
    rw[WData.weight];rfl
   unfold qY;lia
  ·exact J4 ns ⋯ n h
section
variable{X:Cx}
theorem QA{i j:Int}(hi:qY i)(hj:qY j):IntMulOk i j:=by
 unfold IntMulOk Builtin.Int.intTooBig;unfold qY at hi hj;have:(bitsLine:Nat)=134217728:=rfl;simp;intro _ _;lia
theorem Jw:OpR X (binaryOp .Mult) (rI (λi j=>qY i/\qY j) λi j=>.int (i * j)):=opI λ_ _ _ _ _ _ _ hc q=>mul_int q (QA hc.1 hc.2)
end
theorem Zh{l:OpenLaw}{n:Nat}{q:pH}{loose:List pJ}{XP:(pJ->Option pD)->pN->Prop}{YP:pK->pN->Prop}{d:DefRec}
  (hn:l.most=tG n) (hdf:d.params.defaults=[])
  (call:∀(w:pK) (s₀ s₁:pE) (mg mb:pJ->Option pD) (fa:pC) (o:rb) (pm cd doc:pD) (a:pC) (vs:List pD) (ns:List Int),
   Ground q loose [] XP w s₀ mg mb s₁.heap->YP w s₁.heap ->
   s₁.heap.get? fa=tG o->o.data=.func (docDef d.name d.params d.body d.scope pm cd doc)->s₁.heap.CodeRec cd d.name->mg d.name=tG (.ref fa) ->
   s₁.heap.get? a=tG { cls:=.type "list",data:=.seq vs.toArray }->sX vs ns->ns.length<=n->(∀z ∈ ns,qY z)->s₁.gens=#[] ->
   rG (model l.prog w) callerA (.call (.ref fa) #[[.ref a],[]]) (λr s'=>r=.ok (.ret (.bool tI))/\OldK s₁.heap s'.heap/\s'.os=s₁.os/\rY s'.gens) s₁) :
  WalkO q loose XP YP l.row.toRowW d [] (λf vs=>gr f vs):=by
 intro w s₀ s₁ mg mb G Y fa o pm cd doc dV kV ho hd hcd hD hmg hg args vals as hpre hlay hrd hwl hlo;obtain rfl:dV=.none:=Dflts.none hD hdf;obtain rfl:kV=.none:=Dflts.noKw hD;obtain⟨a,vs,ns,rfl,rfl,hobj,hints,hlen⟩:=Att.script_of hn hpre hwl
 have hb:∀z ∈ ns,qY z:=by
  refine J4 ns ?_
  have h1:WData.layable (WData.list (ns.map WData.int))=tI:=by
   have:=hlay;unfold WData.layableAll at this;simpa using this
  unfold WData.layable at h1
  erw[cz,decide_eq_true_eq]at h1
  have h2:=h1.2;rw[WData.weight]at h2;exact h2
 refine enter_call (rJ (call w s₀ s₁ mg mb fa o pm cd doc a vs ns G Y ho (fd_plain hd) hcd hmg hobj hints hlen hb hg) λr s' hq=>?_);obtain⟨rfl,h2,h3,h4⟩:=hq;exact#[.inl #[.bool tI,.bool tI,[],rfl,λ_=>rfl,.bool tI,Att.post_true l _,λ_=>#[List.Pairwise.nil,λ_ hm=>(nomatch hm)]],h2,h3,h4]
section
variable{X:Cx}{k j:Nat}{C:pC}{x f':pJ}{ps:List pJ}{sp:Sp}{e:pM}{es:List pM}{t:TA}{te:TX}{pos p:rj}
end
section
variable{X:Cx}{k j:Nat}{C:pC}{m x:pJ}{ps:List pJ}{sp:Sp}{e:pM}{es:List pM}{t:TA}{apos pos p:rj}{E:XK}
end
section
variable{prog:pH}{w:pK}{A:pL}{E:pD->pE->Prop}{s:pE}{env:sx}
end
theorem XEg.xe{X:Cx}{E:XK}(h:XEg X E):XE X E:=λe s ⟨tK,σ,H,x,C,t,dx,tb,q⟩=>h e s #[.none,tJ,tK,σ,H,x,C,t,dx,tb,q]
section
variable{X:Cx}{k:Nat}{ps:List pJ}{sp:Sp}{ds:List pD}{dvs:List V}{E:XK}{x:pJ}{p pos:rj}{e:pM}{es:List pM}{t:TA}
end
section
variable{X:Cx}{o e:pM}{to:TE}{te:TX}{name:pJ}{apos cpos:rj}{T id:String}{r:V->List V->Hp->VK->Prop}
end
section
variable{X:Cx}
end
section
variable{X:Cx}{k j:Nat}{C:pC}{ps:List pJ}{sp:Sp}{e:pM}{es:List pM}{t:TA}{pos p:rj}{x:pJ}
end
theorem YT(x y:pJ)(i j:Int)(t u v v':si):Gives (Builtin.«str.find» #[[.str x t,.str y u,.int i v,.int j v'],[]]) (.int (match Builtin.Str.occurrences x y (fromIndex x.length i) (min (fromIndex x.length j) x.length) 1 with | k::_=>(k:Int) | []=>-1)):=by
 show Gives (match Builtin.Str.occurrences x y (fromIndex x.length i) (min (fromIndex x.length j) x.length) 1 with | k::_=>retInt k | []=>(do rule "str.find.not-found";retInt (-1))) _
 cases Builtin.Str.occurrences x y (fromIndex x.length i) (min (fromIndex x.length j) x.length) 1 with
 | nil=>exact .rule (.of_eq rfl)
 | cons k _=>exact .of_eq rfl
theorem Yx(x y:pJ)(lo hi:Nat) :
  (Builtin.Str.occurrences x y lo hi 1=[]/\∀i,lo<=i->¬ StrLaws.At x y hi i) \/
  ∃i r,Builtin.Str.occurrences x y lo hi 1=i::r/\lo<=i/\StrLaws.At x y hi i/\∀k,lo<=k->k<i->¬ StrLaws.At x y hi k:=by
 rw[StrLaws.occ_eq];rcases StrLaws.occ_first x y hi 1 (al 1) (List.range' lo (hi+1 - lo)) lo (λi hm=>(List.mem_range'_1.mp hm).1)with ⟨e,no⟩ | ⟨pre,a,post,e,e0,at_a,no⟩
 ·exact .inl #[by rw[e],λi h1 h2=>no i (by have:=h2.1;rw[List.mem_range'_1];lia) h2]
 ·have sp:=StrLaws.range'_split_from e;generalize (forIn (List.range' lo (hi+1 - lo)) ((#[]:Array Nat),lo) (StrLaws.occBody x y hi 1)).run.fst=z at e0 ⊢;obtain⟨zs⟩:=z
  cases zs with
  | nil=>simp at e0
  | cons b r =>
   have:b=a:=by simpa using e0
   subst this;exact .inr #[b,r,rfl,sp.1,at_a,λk h1 h2=>no k (sp.2 k h1 h2)]
theorem zdr(l p:())(hi i:Nat):StrLaws.At (tx l) (tx p) hi i ↔ i+p.length<=hi/\(l.drop i).take p.length=p:=by
 unfold StrLaws.At Builtin.Str.subAt;rw[zV,beq_iff_eq]
 have e1:((tx l).cps.extract i (i+p.length)).toList=(l.drop i).take p.length:=by
  show (l.toArray.extract i (i+p.length)).toList=_;simp [eP]
 have e2:((tx l).cps.extract i (i+p.length)=(tx p).cps) ↔ (l.drop i).take p.length=p:=by
  constructor
  ·intro h;rw[<- e1,h]
  ·intro h;apply Array.toList_inj.mp;rw[e1,h]
 rw[e2]
def J0:V->List V->Hp->VK->Prop:=λx xs H Q=>∃(l p:()) (lo hi:Int),x=.str (tx l)/\xs=[.str (tx p),.int lo,.int hi]/\0<=lo/\0<=hi/\∀r:Int,((r=-1/\∀q:Nat,lo<=q->(q:Int)+p.length<=hi->q+p.length<=l.length->(l.drop q).take p.length≠p)\/∃k:Nat,r=k/\lo<=k/\(k:Int)+p.length<=hi/\k+p.length<=l.length/\(l.drop k).take p.length=p/\∀q:Nat,lo<=q->q<k->(l.drop q).take p.length≠p)->Q (.int r) H
theorem zaJ{X:Cx}:MtR X "str.find" J0:=by
 intro tK s σ H x xs v us Q I rx rv h;obtain⟨l,p,lo,hi,rfl,rfl,h0,h1,q⟩:=h;obtain⟨t,rfl⟩:=rx
 cases rv with
 | cons r1 r2 =>
  cases r2 with
  | cons r2 r3 =>
   obtain⟨w3,rfl,t3,rfl⟩:=xz r3;obtain⟨t1,rfl⟩:=r1;obtain⟨t2,rfl⟩:=r2;have f0:fromIndex (tx l).length lo=lo.toNat:=by unfold fromIndex;rw[if_neg ⋯];lia
   have f1:fromIndex (tx l).length hi=hi.toNat:=by unfold fromIndex;rw[if_neg ⋯];lia
   refine call_gives F.slot_str_find (typeIs_str _ _ _) F.entry_str_find (F.args_str_find_4 _ _ _ _) (YT _ _ lo hi t t1 t2 t3) ?_;refine#[.int _,H,I.tok _,#[_,rfl],q _ ?_];rw[f0,f1];have hm:∀k:Nat,k+p.length<=min hi.toNat (tx l).length ↔ (k:Int)+p.length<=hi/\k+p.length<=l.length:=λk=>by rw[zV];lia
   rcases Yx (tx l) (tx p) lo.toNat (min hi.toNat (tx l).length)with ⟨e,no⟩ | ⟨i,r,e,hl,ha,no⟩
   ·rw[e];exact .inl #[rfl,λk k1 k2 k3 k4=>no k ⋯ ((zdr l p _ k).mpr #[(hm k).mpr #[k2,k3],k4])]
   ·rw[e];obtain⟨a1,a2⟩:=(zdr l p _ i).mp ha;obtain⟨b1,b2⟩:=(hm i).mp a1;exact .inr #[i,rfl,⋯,b1,b2,a2,λk k1 k2 k4=>no k ⋯ k2 ((zdr l p _ k).mpr #[(hm k).mpr #[⋯,⋯],k4])]
end L3
set_option linter.unusedVariables false
namespace L3
section
variable{X:Cx}
end
section
variable{prog:pH}{w:pK}{A:pL}{R:sH->pE->Prop}{I l S:pC}
theorem VX(hh:A.handled=tH)(hlI:l≠I)(hSI:S≠I)(hSl:S≠l)(xs:Array pD)(val:Nat->Int)(hv:∀i v,xs[i]? = tG v->∃t,v=Value.int (val i) t)(d:pD) :
  ∀(k j:Nat) (z:Int) (t:si) (s:pE) (c:Nat),xs.size - j=k->j<=xs.size->(∀i,i<j->val i<=z)->s.heap.IsListIter I l j->s.heap.IsList l xs->s.heap.get? S=tG (pW "list" (List.toArray [.int z t,.int z t]) c) ->
   (∀z' t' h' tk,(∀i,i<xs.size->val i<=z')->(∀b o,b≠I->b≠S->s.heap.get? b=tG o->h'.get? b=tG o)->R (.ok (.ret (.int z' t'))) { s with heap:=h',toks:=tk }) ->
   rG (model prog w) A (.builtin "max.loop" #[[.ref I,.none,.ref S],[(bJ "default",d)]]) R s:=by
 have nm:(toString "max" ++ toString ".loop" : String)="max.loop":=∅;have W:=Walks.list (prog:=prog) (w:=w) (A:=A.in1) hh I l hlI xs;intro k
 induction k with
 | zero =>
  intro j z t s c hk hj hz hit hl hS hR;have e:j=xs.size:=⋯;refine rL (b:=Builtin.«max.loop») dO ?_;rw[Around.under_plainId (id:="max.loop") bO _];show pF _ A.in1 (seqItems? (Value.ref S) >>= _) _ _ s;refine pi (rg (items:=(List.toArray [.int z t,.int z t])) hS rfl ?_);show pF _ A.in1 (tryCatch (pyNext (Value.ref I)) _ >>= _) _ _ s;refine pi (rN (W.done s _ _ #[e ▸ hit,hl] λh' tk kp=>?_));have hS':=kp S _ (by simpa using hSI) hS;show pF _ A.in1 (updateSeq S (λ_=>(#[]:Array pD)) >>= _) _ _ _;refine pi (sw hS' rfl (pi (rM (pj ?_))));exact hR z t _ tk (λi hi=>hz i ⋯) λb o hb hb' q=>(aI _ _ (Ne.symm hb')).trans (kp b o (by simpa using hb) q)
 | succ k ih =>
  intro j z t s c hk hj hz hit hl hS hR;refine rL (b:=Builtin.«max.loop») dO ?_;rw[Around.under_plainId (id:="max.loop") bO _];show pF _ A.in1 (seqItems? (Value.ref S) >>= _) _ _ s;refine pi (rg (items:=(List.toArray [.int z t,.int z t])) hS rfl ?_);show pF _ A.in1 (tryCatch (pyNext (Value.ref I)) _ >>= _) _ _ s;refine pi (rN (W.item j s _ _ ⋯ #[hit,hl] λv h' tk hP st kp=>?_));obtain⟨t2,rfl⟩:=hv j v hP;have hS':=kp S _ (by simpa using hSI) hS;show pF _ A.in1 (tryCatch (holding [Value.int (val j) t2,Value.int (val j) t2] (richCompare .Gt (.int (val j) t2) (.int z t) >>= _)) _ >>= _) _ _ _;refine pi (rN (re (pi (CmpOf.ints_gt (prog:=prog) (w:=w) (A:=A.in1) (P:=λi v=>∃t,v=Value.int (if i=0 then val j else z) t) (λi=>if i=0 then val j else z) (λi v h=>h) 0 1 _ _ _ _ _ #[t2,rfl] #[t,rfl] ?_))));refine pi (re (pX (pi (rM (pj ?_)))));by_cases g:val j > z
  ·erw[if_true,Nat.one_ne_zero,if_false,g,decide_true]
   refine pi (sw hS' rfl (pi (rM ?_)));rw[nm];refine pj #[plainId_quiet bO _,ih (j+1) (val j) t2 _ _ ⋯ ⋯ (λi hi=>?_) (W.frame _ _ _ st λb hb o q=>?_).1 (W.frame _ _ _ st λb hb o q=>?_).2 (get?_update_seq hS' _) λz' t' h'' tk'' a1 a2=>hR z' t' h'' tk'' a1 λb o hb hb' q=>a2 b o hb hb' ((aI _ _ (Ne.symm hb')).trans (kp b o (by simpa using hb) q))]
   ·by_cases e:i=j
    ·rw[e];exact Int.le_refl _
    ·have:=hz i ⋯;lia
   all_goals
    refine (aI _ _ (λe:S=b=>?_)).trans q;subst e;rcases tP.mp hb with e | e
    ·exact hSI e
    ·exact hSl (tR.mp e)
  ·erw[if_true,Nat.one_ne_zero,if_false,g,decide_false,bE]
   refine pi (rM ?_);rw[nm];refine pj #[plainId_quiet bO _,ih (j+1) z t _ _ ⋯ ⋯ (λi hi=>?_) st.1 st.2 hS' λz' t' h'' tk'' a1 a2=>hR z' t' h'' tk'' a1 λb o hb hb' q=>a2 b o hb hb' (kp b o (by simpa using hb) q)];by_cases e:i=j
   ·rw[e];lia
   ·exact hz i ⋯
theorem Vs(a v:pD):argsOk "max" #[[a],[(bJ "default",v)]]:=by unfold argsOk;kernel_rfl
theorem Uh{E:pD->pE->Prop}{s:pE}{Q:pD->pE->Prop}(hh:A.handled=tH)(xs:Array pD)(val:Nat->Int)(hv:∀i v,xs[i]? = tG v->∃t,v=Value.int (val i) t)(hl:s.heap.IsList l xs)(d:pD)
  (h:∀v h' tk,(xs.size=0->v=d)->(0<xs.size->∃z t,v=Value.int z t/\∀i,i<xs.size->val i<=z)->(∀b o,s.heap.get? b=tG o->h'.get? b=tG o)->Q v { s with heap:=h',toks:=tk }) :
  pF (model prog w) A (call (.builtin "max") [.ref l] [(bJ "default",d)]) Q E s:=by
 have nm:(toString "max" ++ toString ".loop" : String)="max.loop":=∅;have hlt:l<s⁻¹:=by obtain⟨_,e,_⟩:=hl;exact au e
 refine kmb_tree PySem.F.kind_max PySem.F.plain_max PySem.F.entry_max (Vs _ _) ?_;show pF _ A.in1 (Builtin.Builtins.bindParams "max" ["key","default"] 0 #[[],[(bJ "default",d)]] >>= _) _ _ s;refine pi (wpAny_of_eq (show Builtin.Builtins.bindParams "max" ["key","default"] 0 #[[],[(bJ "default",d)]]=pure [tH,tG d]from rfl) (pi (pj ?_)));refine pi (rO hl (pi (sL ?_ (aG _))));rw[nm];refine pj #[plainId_quiet bO _,?_];have gI:(s.heap.push { cls:=.type "list_iterator",data:=.fields (List.toArray [.ref l,.int 0 0]) }).IsListIter s⁻¹ l 0:=#[_,aC _ rfl,rfl,rfl];have gl:=hl.push { cls:=.type "list_iterator",data:=.fields (List.toArray [.ref l,.int 0 0]) };have kp0:∀b o,s.heap.get? b=tG o->(s.heap.push { cls:=.type "list_iterator",data:=.fields (List.toArray [.ref l,.int 0 0]) }).get? b=tG o:=λb o q=>ac _ q;have hsz:(s.heap.push { cls:=.type "list_iterator",data:=.fields (List.toArray [.ref l,.int 0 0]) }).objs.size=s⁻¹+1:=bV _ _;have hold:∀b o,s.heap.get? b=tG o->b<s⁻¹:=λb o q=>au q;have hlI:l≠s⁻¹:=ax hlt;generalize s.heap.push { cls:=.type "list_iterator",data:=.fields (List.toArray [.ref l,.int 0 0]) }=h1 at *;generalize hIe:s⁻¹=I at *;have W:=Walks.list (prog:=prog) (w:=w) (A:=A.in1) hh I l hlI xs;have gS:(h1.push { cls:=.type "list",data:=.seq ([]:List pD).toArray }).get? h1.objs.size=tG (pW "list" #[] 0):=aC _ rfl;have st0:=W.frame 0 _ (h1.push { cls:=.type "list",data:=.seq ([]:List pD).toArray }) #[gI,gl] λb _ o q=>ac _ q;have kp1:∀b o,s.heap.get? b=tG o->(h1.push { cls:=.type "list",data:=.seq ([]:List pD).toArray }).get? b=tG o:=λb o q=>ac _ (kp0 b o q);have hSI:h1.objs.size≠I:=by rw[hsz];exact eR I
 have hSl:h1.objs.size≠l:=by rw[hsz];exact bW (cX hlt)
 have hSb:∀b o,s.heap.get? b=tG o->b≠I/\b≠h1.objs.size:=λb o q=>#[ax (hold b o q),by rw[hsz];exact ax (cX (hold b o q))];generalize h1.push { cls:=.type "list",data:=.seq ([]:List pD).toArray }=h2 at *;generalize h1.objs.size=S at *;refine rL (b:=Builtin.«max.loop») dO ?_;rw[Around.under_plainId (id:="max.loop") bO _];show pF _ A.in1 (seqItems? (Value.ref S) >>= _) _ _ _;refine pi (rg (items:=#[]) gS rfl ?_);show pF _ A.in1 (tryCatch (pyNext (Value.ref I)) _ >>= _) _ _ _;by_cases hz:xs.size=0
 ·refine pi (rN (W.done _ _ _ (by rw[hz];exact st0) λh' tk kp=>?_));show pF _ A.in1 (rule _ >>= λ_=>_) _ _ _;refine pi (sr (pj ?_));exact h d h' tk (λ_=>rfl) (λq=>absurd q ⋯) λb o q=>kp b o (by simpa using (hSb b o q).1) (kp1 b o q)
 ·refine pi (rN (W.item 0 _ _ _ ⋯ st0 λv h' tk hP st kp=>?_));obtain⟨t,rfl⟩:=hv 0 v hP;have hS':=kp S _ (by simpa using hSI) gS;show pF _ A.in1 (updateSeq S (λ_=>(List.toArray [Value.int (val 0) t,Value.int (val 0) t])) >>= _) _ _ _;refine pi (sw hS' rfl ?_);rw[nm]
  have st':=W.frame _ _ (h'.update S (Obj.mapSeq λ_=>(List.toArray [Value.int (val 0) t,Value.int (val 0) t]))) st λb hb o q=>by
   refine (aI _ _ (λe:S=b=>?_)).trans q;subst e;rcases tP.mp hb with e | e
   ·exact hSI e
   ·exact hSl (tR.mp e)
  refine pj #[plainId_quiet bO _,VX hh hlI hSI hSl xs val hv d _ 1 (val 0) t _ _ rfl ⋯ (λi hi=>?_) st'.1 st'.2 (get?_update_seq hS' _) λz' t' h'' tk'' a1 a2=>?_]
  ·have:i=0:=⋯;rw[this];exact Int.le_refl _
  ·exact h _ h'' tk'' (λq=>absurd q hz) (λ_=>#[z',t',rfl,a1]) λb o q=>a2 b o (hSb b o q).1 (hSb b o q).2 ((aI _ _ (Ne.symm (hSb b o q).2)).trans (kp b o (by simpa using (hSb b o q).1) (kp1 b o q)))
end
section
variable{X:Cx}{id:String}{x:pJ}{e:pM}{es:List pM}{kws:List tw}{ks:List pJ}{p pos:rj}{t tk:TA}
def Kf(X:Cx)(id:String)(ks:List pJ)(r:List V->List V->Hp->VK->Prop):Prop :=
 ∀(tK:List (pC × rb)) (s:pE) (σ:L2.St) (H:Hp) (vs zs:List V) (us ws:List pD) (Q:VK),Inv X tK σ H s->Vals vs us->Vals zs ws->r vs zs H Q->pF (model X.prog X.w) X.A (call (.builtin id) us (ks.zip ws)) (EP X tK σ Q) X.xe s
def zeu(r:List V->List V->Hp->VK->Prop)(t tk:TA):TE:=λσ H Q=>t σ H λvs H1=>tk σ H1 λzs H2=>r vs zs H2 Q
theorem VV{r:List V->List V->Hp->VK->Prop}(hc:Kf X id ks r)(hg:Gl X x)(hm:X.mg x=tH)(hv:ra x=tG (.builtin id))(ha:PA X (e::es) t)(hk:PK X kws tk)(hks:(pZ pos (pO kws X.env)).filterMap (·.1)=ks:=by rfl)(hn:x≠"__name__":=by decide)(hdb:(x ==("__debug__" : pJ))=tJ:=by decide)
  (he:pS pos (pz (e::es) X.env)=(tJ,eval e X.env)::pS pos (pz es X.env):=by rfl) (hpl:(pS pos (pz (e::es) X.env)).any (·.1)=tJ:=by rfl)
  (hall:(pZ pos (pO kws X.env)).all (·.1.isSome)=tI:=by rfl) (hkw:(pZ pos (pO kws X.env)).any (·.1.isNone)=tJ:=by rfl):PE X (.Call (.Name x p) (e::es) kws pos) (zeu r t tk):=by
 intro tK s σ H Q I h;refine pV (wm I hg hm hv ?_ hn hdb);refine callWith_kw (thn (ha pos tK s σ H _ I h) λus s1 ⟨vs,H1,I1,r1,q1⟩=>thn (hk pos tK s1 σ H1 _ I1 q1) λws s2 ⟨zs,H2,I2,r2,q2⟩=>?_) he hpl hall hkw;rw[hks];exact hc tK s2 σ H2 vs zs us ws Q I2 r1 r2 q2
def zd8(K:pB):List V->List V->Hp->VK->Prop:=λvs zs H Q=>∃(a:pC) (ns:List Int) (d:Int),vs=[.ref a]/\zs=[.int d]/\SqL K H a (ns.map V.int)/\∀z:Int,(ns=[]->z=d)->(∀n ∈ ns,n<=z)->Q (.int z) H
theorem zci(hc:X.calm=tI):Kf X "max" [bJ "default"] (zd8 X.K):=by
 intro tK s σ H vs zs us ws Q I r1 r2 h;obtain⟨a,ns,d,rfl,rfl,hS,q⟩:=h;obtain⟨u,rfl,ru⟩:=xz r1;cases ru;obtain⟨w',rfl,td,rfl⟩:=xz r2;obtain⟨its,rv,pl,hz⟩:=I.list hS;have hlen:=rv.length;rw[aa]at hlen
 have hat:∀(i:Nat) (v:pD),its.toArray[i]? = tG v->∃t,v=Value.int (ns.getD i 0) t:=λi v hi=>by
  have hi':its[i]? = tG v:=by simpa using hi
  have hil:=(tN.mp hi').1;obtain⟨u,hu,t,rfl⟩:=xO rv (j:=i) (x:=.int (ns.getD i 0)) (by rw[az,af,ag ⋯];rfl);rw[hi']at hu;cases hu;exact#[t,rfl]
 refine Uh (I.ok.hd hc) its.toArray (λi=>ns.getD i 0) hat pl.isList (.int d td) λv h' tk h0 h1 kp=>?_;by_cases hn:ns=[]
 ·have:=h0 (by rw[ak,<- hlen,hn];rfl);subst this;exact#[.int d,H,I.kept kp,#[_,rfl],q d (λ_=>rfl) (λn hm=>by rw[hn]at hm;cases hm)]
 ·obtain⟨z,t,rfl,hzz⟩:=h1 (by rw[ak,<- hlen];exact Ad.mpr hn);refine#[.int z,H,I.kept kp,#[_,rfl],q z (λe=>absurd e hn) λn hm=>?_];obtain⟨i,hi,rfl⟩:=List.getElem_of_mem hm;have:=hzz i (by rw[ak,<- hlen];exact hi);rw[af,ag hi]at this;exact this
end
section
variable{prog:pH}{w:pK}{A:pL}{R:sH->pE->Prop}{I l S:pC}
end
section
variable{X:Cx}
end
section
variable{prog:pH}{w:pK}{A:pL}{R:sH->pE->Prop}{I S:pC}{fp wr:List pC}{P:Nat->pD->Prop}{St:Nat->pN->Prop}
end
section
variable{X:Cx}
end
section
variable{X:Cx}{k j:Nat}{C:pC}{m:pJ}{ps:List pJ}{sp:Sp}{o e:pM}{es:List pM}{ta:TE}{t:TA}{apos pos p:rj}{x:pJ}{E:XK}
end
def zdk(y l:())(e:Nat):Prop:=e+y.length<=l.length/\(l.drop e).take y.length=y
noncomputable instance (y l:()) (e:Nat):Decidable (zdk y l e):=by unfold zdk;infer_instance
noncomputable def zeY(y l:()):Option (() × ()):=((aW (l.length+1)).find? λe=>decide (zdk y l e)).map λe=>(l.take e,l.drop (e+y.length))
section
variable{X:Cx}
theorem jr{cn:pJ}{np hpos:rj}{b0:pQ}{suite:List pQ}{hs:List sN}{D:pC}{th:TS}(hg:Gl X cn)(hm:X.mg cn=tG (.ref D))(hdb:(cn ==("__debug__" : pJ))=tJ)(xc:Z6 X.K D=tI)(hsu:∀e,PSs (Cx.suite X e) (b0::suite) th)
  {tK:List (pC × rb)} {s:pE} {σ:St} {H:Hp} {Dd:w4} {x C T:pC} {dx:Option pC} (I:Inv X tK σ H s) (hob:∃t cx kx,s.heap.get? x=tG (xog C dx t (.ref T) cx kx)) (hoT:∃oT ts,s.heap.get? T=tG oT/\oT.data=.fields ts/\3<ts.size) (fT:wf X tK H T)
  (hb:df X.K (.ref C) (.ref D)=tG tI) (q:th Dd σ H):pF (model X.prog X.w) X.A (handleBy (.ref x) X.env (.ExceptHandler (tG (.Name cn np)) tH (b0::suite) hpos::hs)) (SP X tK Dd) X.xe s:=by
 obtain⟨t,cx,kx,ob⟩:=hob;obtain⟨oT,ts,eT,dT,zT⟩:=hoT;have I':=Inv.suite I (.ref x);refine wpAny_handleBy_cons (codeAny_handlers_test (vk (X:=Cx.suite X (.ref x)) I' hg hm (zcX I.kIn xc ob hb ?_) hdb)) (by intro q;cases q);refine codeAny_handlers_suite ?_;unfold setFlight;refine pi (pT ob rfl (x:=.ref T) rfl ?_);rw[if_pos (show (Value.ref T != Value.none)=tI from by simp)];refine rz eT dT zT ?_;obtain⟨f0,f1,f2,f3,f4,f5⟩:=fT
 have I2:Inv X tK σ H { s with heap:=s.heap.update T (Obj.mapFields (·.setIfInBounds 3 ((tH:Option pC).elim Value.none λf=>rawInt f))) } :=
  I.turned (t':=s.toks) (λb o hb e=>(aI _ _ (Ne.symm hb)).trans e) f0 f1 f3 f4 f5
 refine rq (thn (hsu _ tK _ σ H _ (Inv.suite I2 (.ref x)) q) λfl s4 q4=>?_)
 cases fl with
 | next =>
  obtain⟨σ4,H4,I4,n4⟩:=q4;exact#[_,_,Inv.unsuite I I4,n4]
 | brk =>
  obtain⟨σ4,H4,I4,n4⟩:=q4;exact#[_,_,Inv.unsuite I I4,n4]
 | cont =>
  obtain⟨σ4,H4,I4,n4⟩:=q4;exact#[_,_,Inv.unsuite I I4,n4]
 | ret v =>
  obtain⟨y,σ4,H4,I4,r4,n4⟩:=q4;exact#[y,_,_,Inv.unsuite I I4,r4,n4]
def Kb(K:pB)(i:Nat)(D:pC)(te:TX)(th:TS):TS:=λDd σ H=>te σ H (λv H1=>Dd.nx (σ.set i (tG v)) H1) λcls dx H1=>∃C,cls=.ref C/\df K (.ref C) (.ref D)=tG tI/\∀x,H1 x=tH->th Dd σ (upd H1 x (XT x C dx))
theorem Qk{i:Nat}{y:pJ}{yp apos pos np hpos:rj}{e:pM}{te:TX}{cn:pJ}{b0:pQ}{suite:List pQ}{hs:List sN}{D:pC}{th:TS}
  (hN:X.N.Nodup) (hy:X.N[i]? = tG y) (hly:Loc X.env.scope y) (hf:X.fn y=tI\/X.env.scope.names.lookup y=tG .local) (hst:X.stack=X.env::X.outer/\X.env.frame=tG X.env.locals) (he:PEX X e te) (hg:Gl X cn) (hm:X.mg cn=tG (.ref D)) (xc:Z6 X.K D=tI) (hsu:∀e,PSs (Cx.suite X e) (b0::suite) th) (hdb:(cn ==("__debug__" : pJ))=tJ:=by decide) (hsw:swapsWith e (tG (.Name y yp)) apos.line X.env=pure tJ:=by rfl) :
  PS X (.Try [.Assign [.Name y yp] e apos] (.ExceptHandler (tG (.Name cn np)) tH (b0::suite) hpos::hs) [] [] pos) (Kb X.K i D te th):=by
 intro tK s σ H D I hq;refine tm (rH (sU (rD (he tK s σ H _ _ I hq) (λv s1 ⟨z,H1,I1,r1,q1⟩=>?_) λe s1 fl=>?_) hsw))
 ·exact kK I1 hN hy hly r1 (λs2 I2=>rF (rF #[_,H1,I2,q1])) hf
 ·obtain⟨cx,kx,H1,x,C,t,dx,tb,rfl,I1,ob,tr,fx,fT,C',ec,hsb,q1⟩:=fl;cases ec;have fr:X.A.frames=tG (X.env::X.outer):=by rw[<- hst.1];exact I1.ok.frames
  have ff:s1.heap.FunFrames X.base (X.env::X.outer):=by rw[<- hst.1];exact I1.stack
  refine kZ fr ff hst.2 hst.2 ob tr λh' T oT ts e1 nT oldT e2 d2 z2 k1 k2=>?_
  have fT':wf X tK H1 T:=by
   rcases oldT with z | z
   ·exact fT T z
   ·exact I1.fpOk z (I1.hok.fresh z)
  have tbs:∀b,tb=.ref b->H1 b=tH:=λb hb=>(fT b hb).1
  have nch:∀b o,s1.heap.get? b=tG o->b ∉ (x::T::tbL tb)->b≠x/\tb≠.ref b:=λb o _ hb=>by
   refine#[λz=>hb (by simp [z]),λz=>hb ?_];rw[z];simp [tbL]
  have un:Un (frs X.stack) (x::T::tbL tb) H1 H1 s1.heap h':=by
   rw[hst.1];refine#[λb o e n hb hc=>?_,λb o e n hb hc=>?_,λb o e n _=>n,λb o e hc=>?_,λb xs e=>e,λb o u e=>e,λb ps e=>#[#[],by rw[e];simp]]
   ·obtain⟨a1,a2⟩:=nch b o e hc;exact k1 b o a1 a2 hb e
   ·obtain⟨a1,a2⟩:=nch b o e hc;exact k2 b o a1 a2 e
   ·obtain⟨a1,a2⟩:=nch b o e hc;obtain⟨sl,q⟩:=k2 b o a1 a2 e;exact#[_,q]
  have hok:HOk X.prog X.w H1 h':=λb u e=>by
   refine (I1.hok b u e).stay (λc v hc q=>k1 c v ?_ ?_ ?_ q) (λ_ q=>q) λ_ _ q=>q
   ·rintro rfl;rcases hc with rfl | hc
    ·rw[fx.1]at e;cases e
    ·rw[fx.1]at hc;cases hc
   ·intro z;have:=tbs c z;rcases hc with rfl | hc
    ·rw[this]at e;cases e
    ·rw[this]at hc;cases hc
   ·intro z;rw[<- hst.1]at z;have:=I1.stkFree c z;rcases hc with rfl | hc
    ·rw[this]at e;cases e
    ·rw[this]at hc;cases hc
  have I2:Inv X tK σ H1 { s1 with heap:=h' }:=I1.call' (s':={ s1 with heap:=h' }) rfl un hok I1.bare λb hb=>by
   have fb:wf X tK H1 b:=by
    rcases tP.mp hb with z | z
    ·rw[z];exact fx
    ·rcases tP.mp z with z | z
     ·rw[z];exact fT'
     ·cases tb with
      | ref b' =>
       have:b=b':=by simpa [tbL] using z
       rw[this];exact fT b' rfl
      | _=>simp [tbL]at z
   obtain⟨_,a1,_,a3,a4,a5⟩:=fb;exact#[a3,a1,a4,a5]
  have I3:Inv X tK σ (upd H1 x (XT x C dx)) { s1 with heap:=h' }:=Inv.track I2 fx (zbC e1);exact jr hg hm hdb xc hsu I3 #[t,_,_,e1] #[oT,ts,e2,d2,z2] #[by rw[zk nT];exact fT'.1,fT'.2] hsb (q1 x fx.1)
def Km(K:pB)(D:pC)(te:TX)(th:TS):TS:=λDd σ H=>te σ H (λz H1=>Dd.rt z H1) λcls dx H1=>∃C,cls=.ref C/\df K (.ref C) (.ref D)=tG tI/\∀x,H1 x=tH->th Dd σ (upd H1 x (XT x C dx))
theorem Jn{apos pos np hpos:rj}{e:pM}{te:TX}{cn:pJ}{b0:pQ}{suite:List pQ}{hs:List sN}{D:pC}{th:TS}
  (hst:X.stack=X.env::X.outer/\X.env.frame=tG X.env.locals) (he:PEX X e te) (hg:Gl X cn) (hm:X.mg cn=tG (.ref D)) (xc:Z6 X.K D=tI) (hsu:∀e,PSs (Cx.suite X e) (b0::suite) th) (hdb:(cn ==("__debug__" : pJ))=tJ:=by decide) :
  PS X (.Try [.Return (tG e) apos] (.ExceptHandler (tG (.Name cn np)) tH (b0::suite) hpos::hs) [] [] pos) (Km X.K D te th):=by
 intro tK s σ H D I hq;refine tm (rH (sS (rD (he tK s σ H _ _ I hq) (λv s1 ⟨z,H1,I1,r1,q1⟩=>?_) λe s1 fl=>?_)))
 ·exact#[z,σ,H1,I1,r1,q1]
 ·obtain⟨cx,kx,H1,x,C,t,dx,tb,rfl,I1,ob,tr,fx,fT,C',ec,hsb,q1⟩:=fl;cases ec;have fr:X.A.frames=tG (X.env::X.outer):=by rw[<- hst.1];exact I1.ok.frames
  have ff:s1.heap.FunFrames X.base (X.env::X.outer):=by rw[<- hst.1];exact I1.stack
  refine kZ fr ff hst.2 hst.2 ob tr λh' T oT ts e1 nT oldT e2 d2 z2 k1 k2=>?_
  have fT':wf X tK H1 T:=by
   rcases oldT with z | z
   ·exact fT T z
   ·exact I1.fpOk z (I1.hok.fresh z)
  have tbs:∀b,tb=.ref b->H1 b=tH:=λb hb=>(fT b hb).1
  have nch:∀b o,s1.heap.get? b=tG o->b ∉ (x::T::tbL tb)->b≠x/\tb≠.ref b:=λb o _ hb=>by
   refine#[λz=>hb (by simp [z]),λz=>hb ?_];rw[z];simp [tbL]
  have un:Un (frs X.stack) (x::T::tbL tb) H1 H1 s1.heap h':=by
   rw[hst.1];refine#[λb o e n hb hc=>?_,λb o e n hb hc=>?_,λb o e n _=>n,λb o e hc=>?_,λb xs e=>e,λb o u e=>e,λb ps e=>#[#[],by rw[e];simp]]
   ·obtain⟨a1,a2⟩:=nch b o e hc;exact k1 b o a1 a2 hb e
   ·obtain⟨a1,a2⟩:=nch b o e hc;exact k2 b o a1 a2 e
   ·obtain⟨a1,a2⟩:=nch b o e hc;obtain⟨sl,q⟩:=k2 b o a1 a2 e;exact#[_,q]
  have hok:HOk X.prog X.w H1 h':=λb u e=>by
   refine (I1.hok b u e).stay (λc v hc q=>k1 c v ?_ ?_ ?_ q) (λ_ q=>q) λ_ _ q=>q
   ·rintro rfl;rcases hc with rfl | hc
    ·rw[fx.1]at e;cases e
    ·rw[fx.1]at hc;cases hc
   ·intro z;have:=tbs c z;rcases hc with rfl | hc
    ·rw[this]at e;cases e
    ·rw[this]at hc;cases hc
   ·intro z;rw[<- hst.1]at z;have:=I1.stkFree c z;rcases hc with rfl | hc
    ·rw[this]at e;cases e
    ·rw[this]at hc;cases hc
  have I2:Inv X tK σ H1 { s1 with heap:=h' }:=I1.call' (s':={ s1 with heap:=h' }) rfl un hok I1.bare λb hb=>by
   have fb:wf X tK H1 b:=by
    rcases tP.mp hb with z | z
    ·rw[z];exact fx
    ·rcases tP.mp z with z | z
     ·rw[z];exact fT'
     ·cases tb with
      | ref b' =>
       have:b=b':=by simpa [tbL] using z
       rw[this];exact fT b' rfl
      | _=>simp [tbL]at z
   obtain⟨_,a1,_,a3,a4,a5⟩:=fb;exact#[a3,a1,a4,a5]
  have I3:Inv X tK σ (upd H1 x (XT x C dx)) { s1 with heap:=h' }:=Inv.track I2 fx (zbC e1);exact jr hg hm hdb xc hsu I3 #[t,_,_,e1] #[oT,ts,e2,d2,z2] #[by rw[zk nT];exact fT'.1,fT'.2] hsb (q1 x fx.1)
theorem UE(bs:List Bool):(aW bs.length).any (λi=>bs.getD i tJ)=bs.any id:=by
 induction bs with
 | nil=>rfl
 | cons b bs ih =>
  rw[aD,dN,List.any_cons,List.any_map,List.any_cons,<- ih];rfl
def zeU(K:pB):List V->Hp->VK->Prop:=λxs H Q=>∃(p:pC) (bs:List Bool),xs=[.ref p]/\SqL K H p (bs.map V.bl)/\Q (.bl (bs.any id)) H
theorem zeb(hc:X.calm=tI):vm X (.builtin "any") (zeU X.K):=by
 intro tK s σ H xs us Q I r h;obtain⟨p,bs,rfl,hS,q⟩:=h;obtain⟨u,rfl,ru⟩:=xz r;cases ru;obtain⟨its,rv,pl,hz⟩:=I.list hS
 have hlen:its.length=bs.length:=by
  have:=rv.length;rw[aa]at this;exact this.symm
 have hh:X.A.in1.handled=tH:=I.ok.hd hc
 have hne:p≠s⁻¹:=by
  obtain⟨o,n,e,_⟩:=pl;exact ax (au e)
 obtain⟨f0,f1,f2,f3,f4,f5⟩:=I.fpOk (H':=H) (al _) (I.hok.fresh (al _));have I1:=I.kept (t':=s.toks) (h':=s.heap.push { cls:=.type "list_iterator",data:=.fields (List.toArray [.ref p,.int 0 0]) }) λb o e=>ac _ e;refine call_any_walk (rO pl.isList ?_);refine#[s⁻¹,_,_,_,_,_,λi=>bs.getD i tJ,rfl,Walks.list hh s⁻¹ p hne its.toArray,#[#[_,aC _ rfl,rfl,rfl],?_],?_,?_]
 ·obtain⟨o,n,e,c,d,dt⟩:=pl;exact#[o,ac _ e,c,n,dt]
 ·intro i v s' Q' E' hv hq;have:=kz rv (i:=i) (v:=v) (by simpa using hv);rw[this];exact pX hq
 ·intro h' tk hk
  have e:(aW its.toArray.size).any (λi=>bs.getD i tJ)=bs.any id:=by
   rw[ak,hlen,UE]
  rw[e];refine#[.bl _,H,?_,rfl,q];exact I1.turned (t':=tk) (it:=s⁻¹) (λb o hb q=>hk b o (by simpa using hb) q) f0 f1 f3 f4 f5
end
def CompEL(K:pB)(a:pC)(g:TG)(tt:TT)(te:TE)(own:Nat)(ix:())(σ:L2.St)(H1:Hp)(Q:VK)(D:pC):Prop:=Wg (Iel K a) g tt te own ix σ H1 Q D
theorem zbx{K:pB}{ta:TA}{g:TG}{tt:TT}{te:TE}{own:Nat}{ix:()}{σ:L2.St}{H:Hp}{Q:VK}:kO (V2 K ta) g tt te own ix σ H Q=ta σ H λvs H1=>∃a,vs=[.ref a]/\(∃xs,SqL K H1 a xs)/\∀D,H1 D=tH->CompEL K a g tt te own ix σ H1 Q D:=rfl
section
variable{g:TG}{tt:TT}{te:TE}{own:Nat}{ix:()}{σ:L2.St}{H1:Hp}{Q:VK}{D:pC}
theorem CompEL.by{K:pB}{a:pC}{xs:List V}(Pv:Nat->List V->Hp->Prop)(h0:Pv 0 [] (upd H1 D (.lst [])))(hl:∀i tM H',i<=xs.length->Pv i tM H'->SqL K H' a xs)
  (hs:∀i x tM H' p,xs[i]? = tG x->Pv i tM H'->H' p=tH->g (.ref p) (vp σ own ix) (upd H' p (.tup [.int (i:Nat),x])) λσ3 H3=>xp (vp σ own ix) σ3/\tt σ3 H3 λb H4=>if b=tI then
   te σ3 H4 λv H5=>H5 D=tG (.lst tM)/\tM.length<pA/\CNx xs.length i Pv (tM ++ [v]) (upd H5 D (.lst (tM ++ [v])))else CNx xs.length i Pv tM H4)
  (hd:∀tM H',Pv xs.length tM H'->Q (.ref D) H'):CompEL K a g tt te own ix σ H1 Q D:=by
 refine#[λi m tM H=>m=xs.length - i/\i<=xs.length/\Pv i tM H,#[xs.length,by simp,aG _,h0],?_];rintro i m tM H' ⟨rfl,hi,p⟩;have q:=hl i tM H' hi p;by_cases hlt:i<xs.length
 ·refine .inr #[#[xs,xs[i],q,by simp [hlt]],λv H2 y=>?_];obtain⟨p',x,hp,hx,ev,eH⟩:=y;subst ev eH;exact hs i x tM H' p' (hx xs q) p hp
 ·have e:i=xs.length:=⋯;subst e;exact .inl #[#[xs,q,rfl],hd tM H' p]
end
section
variable{X:Cx}
end
open PySem PySem.W PyProof.Rows
noncomputable def U9(lt:Nat->Nat->Bool){α:Type}:tE α->α
 | .ret a=>a
 | .ask i j k=>U9 lt (k (lt i j))
def Kok(lt:Nat->Nat->Bool)(n:Nat){α:Type}:tE α->(α->Prop)->Prop
 | .ret a,Q=>Q a
 | .ask i j k,Q=>i<n/\j<n/\Kok lt n (k (lt i j)) Q
section
variable{lt:Nat->Nat->Bool}{n:Nat}{α β:Type}
theorem Kok.mono{Q Q':α->Prop}(hq:∀a,Q a->Q' a):∀(t:tE α),Kok lt n t Q->Kok lt n t Q'
 | .ret a,h=>hq a h
 | .ask _ _ k,h=>#[h.1,h.2.1,Kok.mono hq (k _) h.2.2]
theorem Kok.bind{f:α->tE β}{Q:β->Prop}:∀(t:tE α),Kok lt n t (λa=>Kok lt n (f a) Q)->Kok lt n (t.bind f) Q
 | .ret _,h=>h
 | .ask _ _ k,h=>#[h.1,h.2.1,Kok.bind (k _) h.2.2]
theorem Kok.run{Q:α->Prop}:∀(t:tE α),Kok lt n t Q->Q (U9 lt t)
 | .ret _,h=>h
 | .ask _ _ k,h=>Kok.run (k _) h.2.2
theorem Kok.same{Q:α->Prop}:∀(t:tE α),Kok lt n t Q->Kok lt n t (λa=>a=U9 lt t)
 | .ret _,h=>rfl
 | .ask _ _ k,h=>#[h.1,h.2.1,Kok.same (k _) h.2.2]
theorem Kok.wp{cmp:Nat->Nat->(Bool->pE->Prop)->pE->Prop}{I:pE->Prop}(hc:∀i j C s,i<n->j<n->I s->(∀s',I s'->C (lt i j) s')->cmp i j C s){Q:α->Prop}{R:α->pE->Prop}
  (hR:∀a s,Q a->I s->R a s):∀(t:tE α) (s:pE),I s->Kok lt n t Q->t.kasWp cmp R s
 | .ret a,s,hI,h=>hR a s h hI
 | .ask i j k,s,hI,h=>hc i j _ s h.1 h.2.1 hI λs' hI'=>Kok.wp hc hR (k _) s' hI' h.2.2
end
structure Wk(lt:Nat->Nat->Bool):Prop where
 asym:∀a b,lt a b=tI->lt b a=tJ
 ntr:∀a b c,lt b a=tJ->lt c b=tJ->lt c a=tJ
section
variable{lt:Nat->Nat->Bool}{n:Nat}
abbrev Lq(lt:Nat->Nat->Bool)(a b:Nat):Prop:=lt b a=tJ
theorem Wk.refl(W:Wk lt)(a:Nat):Lq lt a a:=by
 cases h:lt a a with
 | false=>exact h
 | true=>exact absurd h (by rw[W.asym a a h];decide)
noncomputable abbrev pg(p:Array Nat)(i:Nat):Nat:=p.getD i 0
theorem Wl(p:Array Nat)(i:Nat):pg p i=(p[i]?).getD 0:=by simp [pg,Array.getD_eq_getD_getElem?]
def Up(lt:Nat->Nat->Bool)(p:Array Nat)(m:Nat):Prop:=∀i j,i<j->j<m->Lq lt (pg p i) (pg p j)
def Dn(lt:Nat->Nat->Bool)(p:Array Nat)(m:Nat):Prop:=∀i j,i<j->j<m->Lq lt (pg p j) (pg p i)
def Rg(n:Nat)(p:Array Nat):Prop:=p.toList.Perm (aW n)
theorem Rg.size{p:Array Nat}(h:Rg n p):p.size=n:=by have:=h.length_eq;simpa using this
theorem Rg.bd{p:Array Nat}(h:Rg n p){i:Nat}(hi:i<n):pg p i<n:=by
 have hs:=h.size;have hi':i<p.size:=⋯;have e:pg p i=p[i]:=by simp [pg,fM,hi']
 rw[e];have hm:p[i] ∈ p.toList:=Array.mem_toList_iff.mpr (Array.getElem_mem hi');exact tT.mp (h.mem_iff.mp hm)
theorem wZ{p:Array Nat}{i j:Nat}(hj:j<=p.size)(k:Nat):pg (kas_rev p i j) k=if i<=k/\k<j then pg p (i+j - 1 - k)else pg p k:=by
 rw[Wl,kas_rev,getElem?_mirror_all hj];split <;> rw[Wl]
theorem Rg.rev{p:Array Nat}(h:Rg n p)(i j:Nat):Rg n (kas_rev p i j):=(Array.perm_iff_toList_perm.mp (mirror_perm p i j _)).trans h
theorem Rg.bub{p:Array Nat}(h:Rg n p)(i j:Nat):Rg n (bubble p i j):=(Array.perm_iff_toList_perm.mp (bubble_perm p i j)).trans h
theorem Vj(W:Wk lt){p:Array Nat}(hp:Rg n p):∀(f k:Nat),1<=k->k+f<=n->Up lt p k->Kok lt n (kas_asc p f k) (λm=>k<=m/\m<=k+f/\Up lt p m/\(m=k+f\/lt (pg p m) (pg p (m - 1))=tI))
 | 0,k,h1,h2,hu=>#[⋯,⋯,hu,Or.inl ⋯]
 | f+1,k,h1,h2,hu=>by
  refine#[hp.bd ⋯,hp.bd ⋯,?_];rcases cq (lt (pg p k) (pg p (k - 1)))with hc | hc
  ·show Kok lt n (if lt (pg p k) (pg p (k - 1))=tI then .ret k else _) _;rw[if_pos hc];exact#[⋯,⋯,hu,Or.inr hc]
  ·show Kok lt n (if lt (pg p k) (pg p (k - 1))=tI then .ret k else _) _;rw[if_neg (by rw[hc];decide)];refine (Vj W hp f (k+1) ⋯ ⋯ λi j hij hj=>?_).mono (λm hm=>#[⋯,⋯,hm.2.2.1,?_]) _
   ·by_cases e:j=k
    ·subst e;by_cases e2:i=j - 1
     ·subst e2;exact hc
     ·exact W.ntr _ _ _ (hu i (j - 1) ⋯ ⋯) hc
    ·exact hu i j hij ⋯
   ·rcases hm.2.2.2 with h | h
    ·exact Or.inl ⋯
    ·exact Or.inr h
def Ev(lt:Nat->Nat->Bool)(p:Array Nat)(a b:Nat):Prop:=∀i j,a<=i->i<b->a<=j->j<b->Lq lt (pg p i) (pg p j)
theorem JZ{p:Array Nat}{m q:Nat}(hm:m<=p.size)(hq:q+1<=m)(hd:Dn lt p m)(he:Ev lt p (m - (q+1)) m):Dn lt (kas_rev p (m - (q+1)) m) m:=by
 intro i j hij hj;rw[wZ hm,wZ hm];by_cases h1:m - (q+1)<=i
 ·rw[if_pos (show m - (q+1)<=i/\i<m by lia),if_pos (show m - (q+1)<=j/\j<m by lia)];exact he _ _ ⋯ ⋯ ⋯ ⋯
 ·rw[if_neg (show ¬ (m - (q+1)<=i/\i<m) by lia)];split
  ·exact hd _ _ ⋯ ⋯
  ·exact hd _ _ ⋯ ⋯
theorem jT(W:Wk lt):∀(f:Nat) (p:Array Nat) (k q:Nat),Rg n p->1<=k->k+f<=n->q+1<=k->Dn lt p k->Ev lt p (k - (q+1)) k ->
  Kok lt n (kas_desc f p k q) (λr=>Rg n r.1/\k<=r.2.1/\r.2.1<=k+f/\r.2.2+1<=r.2.1/\Dn lt r.1 r.2.1/\Ev lt r.1 (r.2.1 - (r.2.2+1)) r.2.1)
 | 0,p,k,q,hp,h1,h2,hq,hd,he=>#[hp,al _,cA _ _,hq,hd,he]
 | f+1,p,k,q,hp,h1,h2,hq,hd,he=>by
  have hps:=hp.size;refine#[hp.bd ⋯,hp.bd ⋯,?_]
  have one:∀(p:Array Nat),Ev lt p (k+1 - (0+1)) (k+1):=λp i j a b c d=>by
   have:i=j:=⋯;subst this;exact W.refl _
  rcases cq (lt (pg p k) (pg p (k - 1)))with hc | hc
  ·show Kok lt n (if lt (pg p k) (pg p (k - 1))=tI then _ else _) _;rw[if_pos hc];have hle:Lq lt (pg p k) (pg p (k - 1)):=W.asym _ _ hc;split
   ·rename_i hq0;refine (jT W f _ (k+1) 0 (hp.rev _ _) ⋯ ⋯ ⋯ (λi j hij hj=>?_) (one _)).mono (λr hr=>#[hr.1,⋯,⋯,hr.2.2.2]) _;by_cases e:j=k
    ·subst e;rw[wZ ⋯,wZ ⋯,if_neg ⋯];split
     ·exact W.ntr _ _ _ hle (he _ _ ⋯ ⋯ ⋯ ⋯)
     ·exact W.ntr _ _ _ hle (hd _ _ ⋯ ⋯)
    ·exact JZ ⋯ hq hd he i j hij ⋯
   ·refine (jT W f _ (k+1) 0 hp ⋯ ⋯ ⋯ (λi j hij hj=>?_) (one _)).mono (λr hr=>#[hr.1,⋯,⋯,hr.2.2.2]) _;by_cases e:j=k
    ·subst e;by_cases e2:i=j - 1
     ·subst e2;exact hle
     ·exact W.ntr _ _ _ hle (hd i (j - 1) ⋯ ⋯)
    ·exact hd i j hij ⋯
  ·show Kok lt n (if lt (pg p k) (pg p (k - 1))=tI then _ else _) _;rw[if_neg (by rw[hc];decide)];refine#[hp.bd ⋯,hp.bd ⋯,?_];rcases cq (lt (pg p (k - 1)) (pg p k))with hd2 | hd2
   ·show Kok lt n (if lt (pg p (k - 1)) (pg p k)=tI then _ else _) _;rw[if_pos hd2];exact#[hp,al _,cA _ _,hq,hd,he]
   ·show Kok lt n (if lt (pg p (k - 1)) (pg p k)=tI then _ else _) _;rw[if_neg (by rw[hd2];decide)];refine (jT W f _ (k+1) (q+1) hp ⋯ ⋯ ⋯ (λi j hij hj=>?_) (λi j a b c d=>?_)).mono (λr hr=>#[hr.1,⋯,⋯,hr.2.2.2]) _
    ·by_cases e:j=k
     ·subst e;by_cases e2:i=j - 1
      ·subst e2;exact hd2
      ·exact W.ntr _ _ _ hd2 (hd i (j - 1) ⋯ ⋯)
     ·exact hd i j hij ⋯
    ·have b1:∀i,k+1 - (q+1+1)<=i->i<k->Lq lt (pg p i) (pg p (k - 1))/\Lq lt (pg p (k - 1)) (pg p i):=λi a b=>#[he _ _ ⋯ ⋯ ⋯ ⋯,he _ _ ⋯ ⋯ ⋯ ⋯];by_cases e:j=k
     ·subst e;by_cases e3:i=j
      ·subst e3;exact W.refl _
      ·exact W.ntr _ _ _ (b1 i ⋯ ⋯).1 hc
     ·by_cases e3:i=k
      ·subst e3;exact W.ntr _ _ _ hd2 (b1 j ⋯ ⋯).2
      ·exact he _ _ ⋯ ⋯ ⋯ ⋯
theorem XB(W:Wk lt){p:Array Nat}{m:Nat}(hp:Rg n p)(h1:1<=m)(hm:m<=n)(hd:Dn lt p m):Kok lt n (kas_tail3 m n p) (λr=>Rg n r.2/\1<=r.1/\r.1<=n/\Up lt r.2 r.1):=by
 have hps:=hp.size;unfold kas_tail3;refine Kok.bind _ ((Vj W (hp.rev 0 m) (n - m) m h1 ⋯ λi j hij hj=>?_).mono (λk hk=>#[hp.rev 0 m,by show 1<=k;lia,by show k<=n;lia,hk.2.2.1]) _);rw[wZ ⋯,wZ ⋯,if_pos ⋯,if_pos ⋯];exact hd _ _ ⋯ ⋯
theorem qW(W:Wk lt){p:Array Nat}{m:Nat}(hp:Rg n p)(h1:1<=m)(hm:m+1<=n)(hd:Dn lt p (m+1)):Kok lt n (kas_descPart m n p) (λr=>Rg n r.2/\1<=r.1/\r.1<=n/\Up lt r.2 r.1):=by
 unfold kas_descPart;refine Kok.bind _ ((jT W (n - (m+1)) p (m+1) 0 hp ⋯ ⋯ ⋯ hd λi j a b c d=>?_).mono (λr hr=>?_) _)
 ·have:i=j:=⋯;subst this;exact W.refl _
 ·obtain⟨r1,r2,r3,r4,r5,r6⟩:=hr;have hs:=r1.size
  (try dsimp only)
  split
  ·exact XB W (r1.rev _ _) ⋯ ⋯ (JZ ⋯ r4 r5 r6)
  ·exact XB W r1 ⋯ ⋯ r5
theorem Jk(W:Wk lt){p:Array Nat}(hp:Rg n p)(hn:1<=n):Kok lt n (kas_count n p) (λr=>Rg n r.2/\1<=r.1/\r.1<=n/\Up lt r.2 r.1):=by
 have hps:=hp.size;unfold kas_count;refine Kok.bind _ ((Vj W hp (n - 1) 1 (al _) ⋯ λi j hij hj=>by lia).mono (λm hm=>?_) _);obtain⟨m1,m2,mu,ms⟩:=hm;by_cases e:(m == n)=tI
 ·rw[if_pos e];exact#[hp,by show 1<=m;lia,by show m<=n;lia,mu]
 ·rw[if_neg e];have hne:m≠n:=λh=>e (by rw[h];exact beq_self_eq_true _)
  have hlt:lt (pg p m) (pg p (m - 1))=tI:=by
   rcases ms with h | h
   ·lia
   ·exact h
  have hle:Lq lt (pg p m) (pg p (m - 1)):=W.asym _ _ hlt;by_cases h1:m > 1
  ·rw[if_pos h1];refine#[hp.bd ⋯,hp.bd ⋯,?_];rcases cq (lt (pg p 0) (pg p (m - 1)))with hc | hc
   ·show Kok lt n (if lt (pg p 0) (pg p (m - 1))=tI then _ else _) _;rw[if_pos hc];exact#[hp,by show 1<=m;lia,by show m<=n;lia,mu]
   ·show Kok lt n (if lt (pg p 0) (pg p (m - 1))=tI then _ else _) _;rw[if_neg (by rw[hc];decide)]
    have u0:∀i,i<m->Lq lt (pg p 0) (pg p i):=λi hi=>by
     by_cases h:i=0
     ·subst h;exact W.refl _
     ·exact mu 0 i ⋯ hi
    have ul:∀i,i<m->Lq lt (pg p i) (pg p (m - 1)):=λi hi=>by
     by_cases h:i=m - 1
     ·subst h;exact W.refl _
     ·exact mu i (m - 1) ⋯ ⋯
    have ev:∀i j,i<m->j<m->Lq lt (pg p i) (pg p j):=λi j hi hj=>W.ntr _ _ _ (ul i hi) (W.ntr _ _ _ hc (u0 j hj));refine qW W (hp.rev 0 m) ⋯ ⋯ λi j hij hj=>?_;by_cases h:j=m
    ·subst h;rw[wZ ⋯,wZ ⋯,if_neg ⋯,if_pos ⋯];exact W.ntr _ _ _ hle (ev _ _ ⋯ ⋯)
    ·rw[wZ ⋯,wZ ⋯,if_pos ⋯,if_pos ⋯];exact ev _ _ ⋯ ⋯
  ·rw[if_neg h1];refine qW W hp ⋯ ⋯ λi j hij hj=>?_;have h0:i=m - 1:=⋯;have h1:j=m:=⋯;subst h0 h1;exact hle
theorem jL(W:Wk lt){p:Array Nat}(hp:Rg n p){k:Nat}(hk:k<n)(hu:Up lt p k):∀(f l r:Nat),l<=r->r<=k->r - l<=f->(∀i,i<l->Lq lt (pg p i) (pg p k))->(∀i,r<=i->i<k->Lq lt (pg p k) (pg p i)) ->
  Kok lt n (kas_place p k f l r) (λm=>m<=k/\(∀i,i<m->Lq lt (pg p i) (pg p k))/\(∀i,m<=i->i<k->Lq lt (pg p k) (pg p i)))
 | 0,l,r,hl,hr,hf,h1,h2=>by
  have:l=r:=⋯;subst this;exact#[hr,h1,h2]
 | f+1,l,r,hl,hr,hf,h1,h2=>by
  unfold kas_place;by_cases e:l ≥ r
  ·rw[if_pos e];have:l=r:=⋯;subst this;exact#[hr,h1,h2]
  ·rw[if_neg e];refine#[hp.bd hk,hp.bd ⋯,?_];rcases cq (lt (pg p k) (pg p ((l+r) / 2)))with hc | hc
   ·show Kok lt n (if lt (pg p k) (pg p ((l+r) / 2))=tI then _ else _) _;rw[if_pos hc];refine jL W hp hk hu f l ((l+r) / 2) ⋯ ⋯ ⋯ h1 λi hi hik=>?_;by_cases e2:i=(l+r) / 2
    ·subst e2;exact W.asym _ _ hc
    ·exact W.ntr _ _ _ (W.asym _ _ hc) (hu _ _ ⋯ hik)
   ·show Kok lt n (if lt (pg p k) (pg p ((l+r) / 2))=tI then _ else _) _;rw[if_neg (by rw[hc];decide)];refine jL W hp hk hu f ((l+r) / 2+1) r ⋯ hr ⋯ (λi hi=>?_) h2;by_cases e2:i=(l+r) / 2
    ·subst e2;exact hc
    ·exact W.ntr _ _ _ (hu i ((l+r) / 2) ⋯ ⋯) hc
theorem J6{p:Array Nat}{k l:Nat}(hk:k<p.size)(hl:l<=k)(i:Nat):pg (bubble p k (k - l)) i=if i=l then pg p k else if l<i/\i<=k then pg p (i - 1)else pg p i:=by
 have e:k - (k - l)=l:=⋯;rw[Wl,getElem?_bubble hk (k - l) ⋯,e];by_cases h:i=l
 ·rw[if_pos h,if_pos h];exact (Wl p k).symm
 ·rw[if_neg h,if_neg h];by_cases h':l<i/\i<=k
  ·rw[if_pos h',if_pos h'];exact (Wl p (i - 1)).symm
  ·rw[if_neg h',if_neg h'];exact (Wl p i).symm
theorem JF(W:Wk lt):∀(f:Nat) (p:Array Nat) (k:Nat),Rg n p->k+f=n->Up lt p k->Kok lt n (kas_bin f p k) (λp'=>Rg n p'/\Up lt p' n)
 | 0,p,k,hp,hk,hu=>by
  have:k=n:=⋯;subst this;exact#[hp,hu]
 | f+1,p,k,hp,hk,hu=>by
  have hps:=hp.size;refine Kok.bind _ ((jL W hp ⋯ hu k 0 k ⋯ ⋯ ⋯ (λi hi=>by lia) (λi h1 h2=>by lia)).mono (λl hl=>?_) _);obtain⟨l1,l2,l3⟩:=hl;refine JF W f _ (k+1) (hp.bub _ _) ⋯ λi j hij hj=>?_;rw[J6 ⋯ l1,J6 ⋯ l1];by_cases h1:i=l
  ·rw[if_pos h1,if_neg ⋯,if_pos ⋯];exact l3 _ ⋯ ⋯
  ·rw[if_neg h1];by_cases h2:j=l
   ·rw[if_pos h2,if_neg ⋯];exact l2 _ ⋯
   ·rw[if_neg h2];by_cases h3:l<i/\i<=k
    ·rw[if_pos h3,if_pos ⋯];exact hu _ _ ⋯ ⋯
    ·rw[if_neg h3];by_cases h4:l<j/\j<=k
     ·rw[if_pos h4];by_cases h5:i=j - 1
      ·lia
      ·exact hu _ _ ⋯ ⋯
     ·rw[if_neg h4];exact hu _ _ ⋯ ⋯
theorem Ym(W:Wk lt)(hn:1<=n):Kok lt n (kas_sort n) (λp=>Rg n p/\Up lt p n):=by
 unfold kas_sort;refine Kok.bind _ ((Jk W (p:=bt (aW n)) (by unfold Rg;exact List.Perm.refl _) hn).mono (λr hr=>?_) _);obtain⟨r1,r2,r3,r4⟩:=hr
 (try dsimp only)
 split
 ·have:max r.1 1=r.1:=⋯;rw[this];exact JF W _ _ _ r1 ⋯ r4
 ·have:r.1=n:=⋯;rw[this]at r4;exact#[r1,r4]
end
noncomputable def srt{α:Type}(lt:α->α->Bool)(d:α)(xs:List α):List α :=
 if xs.length<2 then xs else (U9 (λi j=>lt (xs.getD i d) (xs.getD j d)) (kas_sort xs.length)).toList.map λi=>xs.getD i d
structure WkO{α:Type}(lt:α->α->Bool):Prop where
 asym:∀a b,lt a b=tI->lt b a=tJ
 ntr:∀a b c,lt b a=tJ->lt c b=tJ->lt c a=tJ
theorem X1{α:Type}{lt:α->α->Bool}(W:WkO lt)(d:α)(xs:List α):(srt lt d xs).Perm xs/\(srt lt d xs).Pairwise λa b=>lt b a=tJ:=by
 unfold srt;split
 ·rename_i h;refine#[List.Perm.refl _,?_]
  match xs,h with
  | [],_=>exact List.Pairwise.nil
  | [a],_=>exact dD _ _
  | _::_::_,h=>exact absurd h (by simp)
 ·rename_i h;have W':Wk (λi j=>lt (xs.getD i d) (xs.getD j d)):=#[λa b=>W.asym _ _,λa b c=>W.ntr _ _ _];obtain⟨h1,h2⟩:=Kok.run _ (Ym (n:=xs.length) W' ⋯);generalize U9 (λi j=>lt (xs.getD i d) (xs.getD j d)) (kas_sort xs.length)=p at h1 h2
  have e:(aW xs.length).map (λi=>xs.getD i d)=xs:=by
   refine List.ext_getElem (by simp) λi a b=>?_;have hb:i<xs.length:=by simpa using b
   simp [hb]
  refine#[(h1.map (λi=>xs.getD i d)).trans (by rw[e]),?_];rw[eM,dq];intro i j hi hj hij;have hs:=h1.size;have hi':i<p.size:=by simpa using hi
  have hj':j<p.size:=by simpa using hj
  have q:=h2 i j hij ⋯;have ei:pg p i=p.toList[i]:=by simp [pg,fM,hi']
  have ej:pg p j=p.toList[j]:=by simp [pg,fM,hj']
  rw[ei,ej]at q;exact q
theorem Vz{lt lt':Nat->Nat->Bool}{n:Nat}{α:Type}{Q:α->Prop}(h:∀i j,i<n->j<n->lt i j=lt' i j):∀t:tE α,Kok lt n t Q->U9 lt t=U9 lt' t
 | .ret _,_=>rfl
 | .ask i j k,q=>by
  show U9 lt (k (lt i j))=U9 lt' (k (lt' i j));rw[<- h i j q.1 q.2.1];exact Vz h _ q.2.2
theorem Vp{α:Type}{lt lt':α->α->Bool}(W:WkO lt){d d':α}{xs:List α}(h:∀a ∈ xs,∀b ∈ xs,lt a b=lt' a b):srt lt d xs=srt lt' d' xs:=by
 have g:∀i,i<xs.length->∃a ∈ xs,xs.getD i d=a/\xs.getD i d'=a:=λi hi=>#[xs[i],dc hi,by rw[af,ag hi];rfl,by rw[af,ag hi];rfl];unfold srt;split
 ·rfl
 ·rename_i hl;have W':Wk (λi j=>lt (xs.getD i d) (xs.getD j d)):=#[λa b=>W.asym _ _,λa b c=>W.ntr _ _ _];have ok:=Ym (n:=xs.length) W' ⋯
  have e:=Vz (lt':=λi j=>lt' (xs.getD i d') (xs.getD j d')) (λi j hi hj=>by
   obtain⟨a,ha,a1,a2⟩:=g i hi;obtain⟨b,hb,b1,b2⟩:=g j hj;show lt (xs.getD i d) (xs.getD j d)=lt' (xs.getD i d') (xs.getD j d');rw[a1,a2,b1,b2]
   exact h a ha b hb) _ ok
  rw[<- e];obtain⟨h1,_⟩:=Kok.run _ ok;refine bw λi hi=>?_;obtain⟨a,_,a1,a2⟩:=g i (tT.mp (h1.mem_iff.mp hi));rw[a1,a2]
theorem Yd{α β:Type}{lt:β->β->Bool}(f:α->β)(d:α)(xs:List α):srt lt (f d) (xs.map f)=(srt (λa b=>lt (f a) (f b)) d xs).map f:=by
 have e:∀i,(xs.map f).getD i (f d)=f (xs.getD i d):=λi=>by
  rw[af,af,az];cases xs[i]? <;> rfl
 unfold srt;rw[aa];split
 ·rfl
 ·erw[e,cp]
  rfl
end L3
namespace L3
structure KeyFam(α:Type) where
 dec:α->List D
 lt:α->α->Bool
 fst:Bool
 d0:α
structure KeyFam.Ok{α:Type}(F:KeyFam α):Prop where
 w:WkO F.lt
 eq:∀a b,vD (F.dec a) (F.dec b)=F.lt a b
 ok:∀a b,jU (F.dec a) (F.dec b)
 dp:∀a,uE (F.dec a)<40
 sh:∀a,∃d r,F.dec a=d::r/\((F.fst=tI/\∃n,d=.int n)\/(F.fst=tJ/\∃l,d=.tup l))
section
variable{X:Cx}{tK:List (pC × rb)}{σ:L2.St}{H:Hp}{s:pE}
theorem Inv.repin{b:pC}{o o':rb}{h':pN}(I:Inv X (tK ++ [(b,o)]) σ H s)(hs:X.s₀.heap.objs.size<=b)(hn:∀p ∈ X.pn ++ tK,p.1≠b)(sb:Heap.SameBut b s.heap h')(ho:h'.get? b=tG o')(hd:∀v,o'.data≠.cell v) :
  Inv X (tK ++ [(b,o')]) σ H { s with heap:=h' }:=by
 have I1:Inv X tK σ H s:=I.unpinned;obtain⟨p1,p2,p3,p4,p5⟩:=I.pin (b,o) (ay _ (ay _ (tR.mpr rfl)))
 have I2:Inv X tK σ H { s with heap:=h' }:=Inv.turns I1 (fp:=[b]) (t':=s.toks) (λb' u hb e=>(sb.2 b' (by simpa using hb)).trans e) λb' hb=>by
  have e:b'=b:=by simpa using hb
  subst e;refine#[p2,p3,p4,.inr hs,λx c e z=>?_,hn];obtain⟨v,o1,ho1,hd1⟩:=I.cell x c e;subst z;rw[p1]at ho1;cases ho1;exact p5 v hd1
 exact I2.pins_of λp hp=>by
  rcases tQ.mp hp with z | z
  ·exact I2.pin p (ay _ z)
  ·have e:p=(b,o'):=by simpa using z
   subst e;exact#[ho,p2,p3,p4,hd]
theorem Inv.newpin{b:pC}{o:rb}(I:Inv X tK σ H s)(hf:wf X tK H b)(ho:s.heap.get? b=tG o)(hd:∀v,o.data≠.cell v):Inv X (tK ++ [(b,o)]) σ H s :=
 I.pins_of λp hp=>by
  rcases tQ.mp hp with z | z
  ·exact I.pin p (ay _ z)
  ·have e:p=(b,o):=by simpa using z
   subst e;exact#[ho,hf.1,hf.2.1,hf.2.2.1,hd]
theorem zc1(I:Inv X tK σ H s){A:pL}{b:Bool}{Q:Bool->pE->Prop}(hu:A.units+50<cLine):∀(l m:List D) (xs ys:List V) (its its':List pD) (i:Nat),Iss X.K H l xs->Iss X.K H m ys->Vals xs its->Vals ys its'->jU l m->uE l<40 ->
  (b=tI->i=0->(∃n r,l=.int n::r)/\∃n r,m=.int n::r)->Q (vD l m) s->PySem.W.KatLex X.prog X.w A b (decide (its.length<its'.length)) Q (its.zip its') i s
 | [],m,xs,ys,its,its',i,h1,h2,r1,r2,ok,hd,hb,q=>by
  erw[Iss]at h1
  subst h1;cases r1
  have e:vD [] m=decide (([]:List pD).length<its'.length):=by
   have e1:=h2.len;have e2:=r2.length;have e3:m.length=its'.length:=⋯;rw[<- e3]
   cases m with
   | nil=>simp [vD]
   | cons _ _=>simp [vD]
  rw[e]at q;rw[List.zip_nil_left];exact gu q
 | d::l,[],xs,ys,its,its',i,h1,h2,r1,r2,ok,hd,hb,q=>by
  erw[Iss]at h2
  subst h2;cases r2
  erw[vD]at q
  rw[List.zip_nil_right];exact gu (by simpa using q)
 | d::l,e::m,xs,ys,its,its',i,h1,h2,r1,r2,ok,hd,hb,q=>by
  erw[Iss]at h1 h2
  obtain⟨x,xr,rfl,hx,hxr⟩:=h1;obtain⟨y,yr,rfl,hy,hyr⟩:=h2
  cases r1 with | cons rx rxr =>
  cases r2 with | cons ry ryr =>
  erw[jU]at ok
  erw[uE]at hd
  rename_i u us v vs;rw[dC];refine PySem.W.kat_cons (qr I 45 A d e x y u v ⋯ ⋯ hx hy rx ry X.prog X.w _ _ ?_)
  cases he:eqD d e with
  | true =>
   refine PySem.W.kat_yes ?_;have:=zc1 I (b:=b) hu l m xr yr us vs (i+1) hxr hyr rxr ryr ok.2 ⋯ (λ_ z=>absurd z ⋯) (by simpa only[vD,he,if_true] using q);simpa using this
  | false =>
   refine PySem.W.kat_no ?_;have q':Q (ltD d e) s:=by simpa only[vD,he,bE,if_false] using q
   by_cases hbi:(b && i == 0)=tI
   ·rw[hbi]
    erw[cz,beq_iff_eq]at hbi
    obtain⟨⟨n,r,e1⟩,n',r',e2⟩:=hb hbi.1 hbi.2;cases e1;cases e2
    erw[Is]at hx hy
    subst hx hy;obtain⟨t,rfl⟩:=rx;obtain⟨t',rfl⟩:=ry
    erw[ltD]at q'
    exact oneLt_int q'
   ·rw[show (b && i == 0)=tJ by simpa using hbi];exact PySem.W.kat_one _ _ (Kp I 45 A d e x y u v ⋯ ⋯ ok.1 hx hy rx ry X.prog X.w _ _ q')
theorem Kz(I:Inv X tK σ H s){A:pL}{b:Bool}{Q:Bool->pE->Prop}{E:pD->pE->Prop}(hu:A.units+50<cLine){l m:List D}{x y:V}{u v:pD}(hx:Is X.K H (.tup l) x)(hy:Is X.K H (.tup m) y)(rx:RelV x u)(ry:RelV y v)
  (ok:jU l m) (hd:uE l<40) (hb:b=tI->(∃n r,l=.int n::r)/\∃n r,m=.int n::r) (q:Q (vD l m) s):pF (model X.prog X.w) A (keyLt' (tuples' b) u v) Q E s:=by
 erw[Is]at hx hy
 obtain⟨a,xs,rfl,h1,h2⟩:=hx;obtain⟨c,ys,rfl,g1,g2⟩:=hy;cases rx;cases ry;obtain⟨its,r,⟨o,ho,hoc,n,hod⟩,_⟩:=I.tuple h1;obtain⟨its',r',⟨o',ho',hoc',n',hod'⟩,_⟩:=I.tuple g1;refine PySem.W.kat_lt ho hod ho' hod' ?_;have:=zc1 I (A:=A) (b:=b) (Q:=Q) hu l m xs ys its its' 0 h2 g2 r r' ok hd (λz _=>hb z) q;simpa using this
theorem Kc{α:Type}{F:KeyFam α}(FO:F.Ok)(I:Inv X tK σ H s){M:sV}:∀(rs:List α) (tM:List V) (ks:List pD),Iss X.K H (rs.map λa=>.tup (F.dec a)) tM->Vals tM ks ->
  ∃fs,PySem.W.KatTups s.heap ks fs/\fs.length=rs.length/\∀v ∈ fs,PySem.W.Looks M s.heap (typeOf v) (.type (if F.fst=tI then "int" else "tuple"))
 | [],tM,ks,h,r=>by
  erw[aJ,Iss]at h
  subst h;cases r;exact#[[],PySem.W.KatTups.nil,rfl,λv hv=>by cases hv]
 | a::rs,tM,ks,h,r=>by
  erw[ar,Iss]at h
  obtain⟨x,xr,rfl,hx,hxr⟩:=h
  cases r with | cons rx rxr =>
  rename_i u us;obtain⟨fs,t1,t2,t3⟩:=Kc FO I (M:=M) rs xr us hxr rxr
  erw[Is]at hx
  obtain⟨c,xs,rfl,h1,h2⟩:=hx;cases rx;obtain⟨its,ri,⟨o,ho,hoc,n,hod⟩,_⟩:=I.tuple h1;obtain⟨d,dr,ed,hsh⟩:=FO.sh a;rw[ed]at h2
  erw[Iss]at h2
  obtain⟨y,yr,rfl,hy,_⟩:=h2
  cases ri with | cons ry rir =>
  rename_i v vs;refine#[v::fs,PySem.W.KatTups.cons ho hoc hod (by simp) t1,by simp [t2],λz hz=>?_];rcases tP.mp hz with e | hz
  ·subst e;rcases hsh with ⟨hf,n',rfl⟩ | ⟨hf,l,rfl⟩
   ·rw[if_pos hf]
    erw[Is]at hy
    subst hy;obtain⟨t,rfl⟩:=ry;exact PySem.W.Looks.of_pure rfl
   ·rw[if_neg (by rw[hf];decide)]
    erw[Is]at hy
    obtain⟨c',xs',rfl,g1,_⟩:=hy;cases ry;obtain⟨its',ri',⟨o',ho',hoc',n',hod'⟩,_⟩:=I.tuple g1;rw[<- hoc'];exact (PySem.W.Looks.ld ho').andThen .now
  ·exact t3 z hz
end
def jI{α:Type}(K:pB)(F:KeyFam α)(xs:List V)(Q:VK):List V->Hp->Prop:=λtM H'=>∃rs:List α,Iss K H' (rs.map λa=>.tup (F.dec a)) tM /\
 ∀ys:List (α × V),ys=srt (λp q=>F.lt p.1 q.1) (F.d0,.non) (rs.zip xs)->∀D,H' D=tH->Q (.ref D) (upd H' D (.lst (ys.map (·.2))))
section
variable{X:Cx}{tK:List (pC × rb)}{σ:L2.St}{H:Hp}{s:pE}
theorem Inv.fp_of_pin{b:pC}{o:rb}(I:Inv X (tK ++ [(b,o)]) σ H s)(hs:X.s₀.heap.objs.size<=b)(hn:∀p ∈ X.pn ++ tK,p.1≠b):wf X tK H b:=by
 obtain⟨p1,p2,p3,p4,p5⟩:=I.pin (b,o) (ay _ (ay _ (tR.mpr rfl)));refine#[p2,p3,p4,.inr hs,λx c e z=>?_,hn];obtain⟨v,o1,ho1,hd1⟩:=I.cell x c e;subst z;rw[p1]at ho1;cases ho1;exact p5 v hd1
theorem Inv.at_pin{b:pC}{o:rb}(I:Inv X (tK ++ [(b,o)]) σ H s):s.heap.get? b=tG o:=(I.pin (b,o) (ay _ (ay _ (tR.mpr rfl)))).1
theorem xX{c:String}{xs:Array pD}{n:Nat}:∀v,(pW c xs n).data≠.cell v:=λv z=>by cases z
theorem Kn{D kS:pC}{e e1:Nat}{st:SortSt}{ks out:List pD}{A:pL}{E:pD->pE->Prop}{P:PySem.Fin->pE->Prop}(I:Inv X ((tK ++ [(D,pW "list" #[] e1)]) ++ [(kS,pW "list" (bt ks) e)]) σ H s)
  (hD:X.s₀.heap.objs.size<=D) (hK:X.s₀.heap.objs.size<=kS) (nD:∀p ∈ X.pn ++ tK,p.1≠D) (nK:∀p ∈ X.pn ++ (tK ++ [(D,pW "list" #[] e1)]),p.1≠kS) (hkz:ks.length<64)
  (hout:(arrOf st).map (·.2)=bt out) (hoz:out.length<64) (hf:failedOf st=tH) (h:∀s' c,Inv X (tK ++ [(D,pW "list" (bt out) c)]) σ H s'->P (.done (.ret .none)) s') :
  pF (model X.prog X.w) A (ksk_tail D tJ e1 (.ref kS) st) P E s:=by
 have pk:=Inv.at_pin I;have s1:=Heap.SameBut.update s.heap kS (Obj.mapSeq λ_=>(#[]:Array pD));obtain⟨ck,hck⟩:∃ck,(s.heap.update kS (Obj.mapSeq λ_=>(#[]:Array pD))).get? kS=tG (pW "list" #[] ck):=#[_,get?_update_seq pk λ_=>#[]];have I2:=(Inv.repin I hK nK s1 hck xX).unpinned;have pd:=Inv.at_pin I2;have s2:=Heap.SameBut.update (s.heap.update kS (Obj.mapSeq λ_=>(#[]:Array pD))) D (Obj.mapSeq λ_=>bt out);obtain⟨c2,hc2⟩:∃c2,((s.heap.update kS (Obj.mapSeq λ_=>(#[]:Array pD))).update D (Obj.mapSeq λ_=>bt out)).get? D=tG (pW "list" (bt out) c2):=#[_,get?_update_seq pd λ_=>bt out];have I3:=Inv.repin I2 hD nD s2 hc2 xX;unfold ksk_tail
 (try dsimp only)
 rw[hout];refine pi (listUpdate_at pk rfl ?_ (by rw[ak,pY];lia) (aG _));refine pi (rM ?_);refine pi (seqEpoch_at pd rfl ?_);refine pi (listUpdate_at pd rfl ?_ (aG _) (by erw[bE,if_false];rw[ak,pY];lia));rw[hf]
 erw[bne_self_eq_false,bE,if_false]
 exact pj (h _ c2 I3)
theorem zdW{α:Type}{F:KeyFam α}(FO:F.Ok){D kS:pC}{e e1:Nat}{ks its:List pD}{tM xs:List V}{rs:List α}{A:pL}{E:pD->pE->Prop}{P:PySem.Fin->pE->Prop}(hu:A.units+50<cLine)
  (I:Inv X ((tK ++ [(D,pW "list" #[] e1)]) ++ [(kS,pW "list" (bt ks) e)]) σ H s)
  (hD:X.s₀.heap.objs.size<=D) (hK:X.s₀.heap.objs.size<=kS) (nD:∀p ∈ X.pn ++ tK,p.1≠D) (nK:∀p ∈ X.pn ++ (tK ++ [(D,pW "list" #[] e1)]),p.1≠kS)
  (rk:Vals tM ks) (rv:Vals xs its) (hl:ks.length=its.length) (hz:its.length<64) (hR:Iss X.K H (rs.map λa=>.tup (F.dec a)) tM)
  (h:∀s' (ys:List (α × V)) (out:List pD) c,ys=srt (λp q=>F.lt p.1 q.1) (F.d0,.non) (rs.zip xs)->Vals (ys.map (·.2)) out->out.length<64->Inv X (tK ++ [(D,pW "list" (bt out) c)]) σ H s'->P (.done (.ret .none)) s') :
  pF (model X.prog X.w) A (ksk_end D tJ its.toArray e1 (.ref kS) (bt ks)) P E s:=by
 have L1:=hR.len;have L2:=rk.length;have L3:=rv.length;rw[aa]at L1;have lz:(rs.zip xs).length=its.length:=by rw[List.length_zip];lia
 unfold ksk_end
 erw[bE,if_false]
 by_cases h2:its.toArray.size<2
 ·rw[if_pos h2,if_pos h2];refine pi (pj ?_);rw[StateT.run_pure];refine pi (pj ?_)
  (try dsimp only)
  refine Kn (out:=its) I hD hK nD nK ⋯ ?_ hz rfl λs' c I'=>h s' (rs.zip xs) its c ?_ ?_ hz I'
  ·show ((bt ks).zip its.toArray).map (·.2)=_;apply Array.toList_inj.mp;rw[Array.toList_map,ksk_zip];exact List.map_snd_zip (by simp;lia)
  ·rw[ak]at h2;unfold srt;rw[if_pos ⋯]
  ·rw[List.map_snd_zip ⋯];exact rv
 ·rw[if_neg h2,if_neg h2];rw[ak]at h2;obtain⟨fs,t1,t2,t3⟩:=Kc FO I (M:=model X.prog X.w) rs tM ks hR rk;refine pi (PySem.W.kat_kind t1 ⋯ t3 (by simp) ?_)
  have hfst:((Value.type (if F.fst=tI then "int" else "tuple"):pD) != Value.type "tuple")=F.fst:=by
   cases hF:F.fst with
   | true=>rfl
   | false=>rfl
  rw[hfst];have W:Wk (λi j=>F.lt (rs.getD i F.d0) (rs.getD j F.d0)):=#[λa b=>FO.w.asym _ _,λa b c=>FO.w.ntr _ _ _];have ok:=Ym (n:=its.length) W ⋯
  have lt_eq:(λi j=>F.lt (rs.getD i F.d0) (rs.getD j F.d0))=(λi j=>(λ(p q:α × V)=>F.lt p.1 q.1) ((rs.zip xs).getD i (F.d0,.non)) ((rs.zip xs).getD j (F.d0,.non))):=by
   have one:∀i,((rs.zip xs).getD i (F.d0,V.non)).1=rs.getD i F.d0:=λi=>by
    by_cases hi:i<its.length
    ·have a1:i<rs.length:=⋯;have a2:i<xs.length:=⋯;rw[af,af,ag ⋯,ag a1];simp
    ·rw[af,af,cZ ⋯,cZ ⋯];rfl
   funext i j
   erw[one]
  have wp:=Kok.wp (n:=its.length) (cmp:=gv X.prog X.w A (tuples' F.fst) ks) (I:=λs'=>Inv X ((tK ++ [(D,pW "list" #[] e1)]) ++ [(kS,pW "list" (bt ks) e)]) σ H s')
   (R:=λp s'=>p=U9 (λi j=>F.lt (rs.getD i F.d0) (rs.getD j F.d0)) (PySem.W.kas_sort its.length)/\Inv X ((tK ++ [(D,pW "list" #[] e1)]) ++ [(kS,pW "list" (bt ks) e)]) σ H s')
   (λi j C s' hi hj I' hC=>?_) (λp s' hp I'=>#[hp,I']) _ s I (Kok.same _ ok)
  ·have run:=PySem.W.kat_run (E:=E) (vs:=its) (ks:=ks) (Q:=λst' s'=>∃p:Array Nat,p.size=its.length/\arrOf st'=p.map (PySem.W.kas_item (ks.toArray.zip its.toArray))/\failedOf st'=tH/\_) hl ⋯ hz (λp' st' s' a1 a2 a3 a4=>#[p',a1,a2,a3,a4]) wp;refine pi (rD run ?_ λ_ _ e=>e);rintro⟨⟨⟩,st'⟩ s' ⟨p,hp,har,hf,hpk,I'⟩
   (try dsimp only)
   have hout:=PySem.W.kat_snds (ks:=ks) (vs:=its) hl har;have hR1:Rg its.length p:=by rw[hpk];exact (Kok.run _ ok).1
   have g1:(p.toList.map λi=>(rs.zip xs).getD i (F.d0,.non))=srt (λp q=>F.lt p.1 q.1) (F.d0,.non) (rs.zip xs):=by
    unfold srt;rw[if_neg ⋯,lz,<- lt_eq,<- hpk]
   have olen:(p.toList.map λi=>its.getD i Value.none).length=its.length:=by rw[aa,ee,hp]
   refine Kn (out:=p.toList.map λi=>its.getD i Value.none) I' hD hK nD nK ⋯ hout ⋯ hf λs2 c I2=>h s2 _ _ c g1 ?_ ⋯ I2;rw[cp]
   have all:∀(js:()),(∀j ∈ js,j<its.length)->Vals (js.map ((λx:α × V=>x.2) ∘ λi=>(rs.zip xs).getD i (F.d0,.non))) (js.map λi=>its.getD i Value.none):=by
    intro js
    induction js with
    | nil=>intro _;exact .nil
    | cons j js ih =>
     intro hj;refine .cons ?_ (ih λi hi=>hj i (ao _ hi));have hjl:=hj j av;have a1:j<xs.length:=⋯;obtain⟨u,hu1,ru⟩:=xO rv (j:=j) (x:=xs[j]) (ag a1)
     have e1:((rs.zip xs).getD j (F.d0,V.non)).2=xs[j]:=by
      rw[af,ag ⋯];simp
     have e2:its.getD j Value.none=u:=by rw[af,hu1];rfl
     show RelV ((rs.zip xs).getD j (F.d0,V.non)).2 (its.getD j Value.none);rw[e1,e2];exact ru
   exact all p.toList λj hj=>tT.mp (hR1.mem_iff.mp hj)
  ·have a1:i<rs.length:=⋯;have a2:j<rs.length:=⋯;have gi:(rs.map λa=>_root_.L3.D.tup (F.dec a))[i]? = tG (.tup (F.dec rs[i])):=by rw[az,ag a1];rfl
   have gj:(rs.map λa=>_root_.L3.D.tup (F.dec a))[j]? = tG (.tup (F.dec rs[j])):=by rw[az,ag a2];rfl
   obtain⟨x,hx,ix⟩:=hR.at gi;obtain⟨y,hy,iy⟩:=hR.at gj;obtain⟨u,hu1,ru⟩:=xO rk hx;obtain⟨v,hv1,rv1⟩:=xO rk hy;have e1:ks.getD i Value.none=u:=by rw[af,hu1];rfl
   have e2:ks.getD j Value.none=v:=by rw[af,hv1];rfl
   have e3:rs.getD i F.d0=rs[i]:=by rw[af,ag a1];rfl
   have e4:rs.getD j F.d0=rs[j]:=by rw[af,ag a2];rfl
   unfold gv;rw[e1,e2];refine Kz I' hu ix iy ru rv1 (FO.ok _ _) (FO.dp _) (λhb=>?_) ?_
   ·obtain⟨d,r,ed,hd⟩:=FO.sh rs[i];obtain⟨d',r',ed',hd'⟩:=FO.sh rs[j];rcases hd with ⟨_,n,rfl⟩ | ⟨z,_⟩
    ·rcases hd' with ⟨_,n',rfl⟩ | ⟨z,_⟩
     ·exact#[#[n,r,ed],n',r',ed']
     ·rw[hb]at z;cases z
    ·rw[hb]at z;cases z
   ·rw[FO.eq,<- e3,<- e4];exact hC s' I'
end
def wk(kc:V->Hp->VK->Prop):List V->List V->Hp->(List V->Hp->Prop)->Prop
 | [],tM,H,Q=>Q tM H
 | x::xs,tM,H,Q=>kc x H (λk H'=>wk kc xs (tM ++ [k]) H' Q)
section
variable{X:Cx}{tK:List (pC × rb)}{σ:L2.St}{H:Hp}{s:pE}
theorem KU{α:Type}{F:KeyFam α}(FO:F.Ok){k:Nat}{q:pC}{kc:V->Hp->VK->Prop}(hr:Room (k+2) X.A)
  (hkc:∀(pins':List (pC × rb)) (s:pE) (H:Hp) (x:V) (u:pD) (Q:VK),Inv X pins' σ H s->RelV x u->kc x H Q->pF (model X.prog X.w) X.A.in1.in1 (call (.ref q) [u]) (EP X pins' σ Q) (λ_ _=>False) s)
  {D kS:pC} {e1:Nat} {its:List pD} {xs:List V} {E:pD->pE->Prop} {P:PySem.Fin->pE->Prop} {Q:VK}
  (I:Inv X ((tK ++ [(D,pW "list" #[] e1)]) ++ [(kS,pW "list" #[] 0)]) σ H s)
  (hD:X.s₀.heap.objs.size<=D) (hK:X.s₀.heap.objs.size<=kS) (nD:∀p ∈ X.pn ++ tK,p.1≠D) (nK:∀p ∈ X.pn ++ (tK ++ [(D,pW "list" #[] e1)]),p.1≠kS)
  (rv:Vals xs its) (hz:its.length<64)
  (ht:wk kc xs [] H (jI X.K F xs Q))
  (hP:∀s',EP X tK σ Q (.ref D) s'->P (.done (.ret .none)) s') :
  pF (model X.prog X.w) X.A.in1.in1 (ksk_rest D (.ref q) tJ its.toArray e1 (.ref kS)) P E s:=by
 unfold ksk_rest;refine pi (sr ?_);rw[List.forIn_toArray]
 refine pi (ksk_fold (λj s'=>∃tM ks e H',Inv X ((tK ++ [(D,pW "list" #[] e1)]) ++ [(kS,pW "list" (bt ks) e)]) σ H' s'/\Vals tM ks/\ks.length=j/\wk kc (xs.drop j) tM H' (jI X.K F xs Q))
  its 0 s #[[],[],0,H,I,.nil,rfl,ht] (λj x s1 hx hJ=>?_) λs1 hJ=>?_)
 ·obtain⟨tM,ks,e,H1,I1,rk,hkl,tk⟩:=hJ;rw[eW]at hkl tk;have hjl:j<its.length:=(tN.mp hx).1;have L3:=rv.length;obtain⟨u,hu,ru⟩:=xO rv (j:=j) (x:=xs[j]) (ag ⋯);rw[hx]at hu;cases hu;rw[aR ⋯]at tk;refine pi (rS (rD (hkc _ _ _ _ _ _ I1 ru tk) (λkv s2 hk=>?_) λ_ _ z=>z.elim));obtain⟨v,H2,I2,rv2,tk2⟩:=hk;have pk:=Inv.at_pin I2;have sb:=Heap.SameBut.update s2.heap kS (Obj.mapSeq (·.push kv));have ea:(bt ks).push kv=bt (ks ++ [kv]):=by simp
  obtain⟨c2,hc2⟩:∃c2,(s2.heap.update kS (Obj.mapSeq (·.push kv))).get? kS=tG (pW "list" (bt (ks ++ [kv])) c2):=#[_,by rw[<- ea];exact get?_update_seq pk (·.push kv)];have I3:=Inv.repin I2 hK nK sb hc2 xX
  (try dsimp only)
  refine pi (listUpdate_at pk rfl ?_ (by rw[ak,pY];lia) (by rw[Array.size_push,ak,pY];lia));refine pj #[rfl,tM ++ [v],ks ++ [kv],c2,H2,I3,rk.append (.cons rv2 .nil),by rw[ah,fz,hkl];lia,?_];rw[eW];exact tk2
 ·obtain⟨tM,ks,e,H1,I1,rk,hkl,tk⟩:=hJ;rw[eW]at hkl tk;have L3:=rv.length;rw[<- L3,db]at tk;obtain⟨rs,hR,hq⟩:=tk
  (try dsimp only)
  refine pi (listItems_at (Inv.at_pin I1) rfl ?_);refine zdW FO (by have:=hr.in1.in1.un;lia) I1 hD hK nD nK rk rv hkl hz hR λs' ys out c p1 p3 p4 I'=>hP s' ?_;have fp:=Inv.fp_of_pin I' hD nD;refine#[.ref D,_,Inv.track I'.unpinned (a:=D) (o:=.lst (ys.map (·.2))) fp #[?_,out,c,p3,Inv.at_pin I'],rfl,hq ys p1 D fp.1];rw[p3.length,pY];lia
theorem Zv{α:Type}{F:KeyFam α}(FO:F.Ok){k:Nat}{q l:pC}{xs:List V}{kc:V->Hp->VK->Prop}{Q:VK}(hr:Room (k+2) X.A)
  (hkc:∀(pins':List (pC × rb)) (s:pE) (H:Hp) (x:V) (u:pD) (Q:VK),Inv X pins' σ H s->RelV x u->kc x H Q->pF (model X.prog X.w) X.A.in1.in1 (call (.ref q) [u]) (EP X pins' σ Q) (λ_ _=>False) s)
  (I:Inv X tK σ H s) (hS:SqL X.K H l xs) (hz:xs.length<64) (ht:wk kc xs [] H (jI X.K F xs Q)) :
  pF (model X.prog X.w) X.A (call (.builtin "sorted") [.ref l] [(bJ "key",.ref q)]) (EP X tK σ Q) X.xe s:=by
 obtain⟨its,rv,pl,_⟩:=I.list hS;have hlen:=rv.length;refine call_function_entry_kw kind_sorted plain_sorted entry_sorted (ksk_s1 _ _) ?_;unfold Builtin.«sorted»;refine pi (m:=checkCount "sorted" 1 1 _) (pj ?_);refine pi (collect_list pl.isList ?_ (by rw[pY];lia));refine pi (sL ?_ (by rw[pY];lia));generalize hh1:((s.heap.push (pW "list" #[] 0)).update s⁻¹ (Obj.mapSeq (· ++ its.toArray)))=h1;have sz1:h1.objs.size=s⁻¹+1:=by rw[<- hh1,dP,size_push']
 have kp1:∀b o,s.heap.get? b=tG o->h1.get? b=tG o:=λb o e=>by
  have hlt:b<s⁻¹:=au e;rw[<- hh1,Heap.get?_update_ne _ _ _ _ (ax hlt),Heap.get?_push_ne _ _ _ (ax hlt)];exact e
 have hoL:(h1.push (pW "list" its.toArray 0)).get? h1.objs.size=tG (pW "list" its.toArray 0):=aC _ rfl;show pF _ _ _ _ _ { s with heap:=h1.push (pW "list" its.toArray 0) };refine pi (re (wpAny_call_entry_kw slot_list_sort #[_,hoL,rfl] entry_list_sort ?body (ksk_l1 _ _)));show pF _ _ (Builtin.«list.sort» #[[.ref h1.objs.size],[(bJ "key",.ref q)]]) _ _ _;rw[ksk_t1];generalize hh2:h1.push (pW "list" its.toArray 0)=h2 at hoL;have sz2:h2.objs.size=h1.objs.size+1:=by rw[<- hh2,size_push']
 have kp2:∀b o,s.heap.get? b=tG o->h2.get? b=tG o:=λb o e=>by rw[<- hh2];exact ac _ (kp1 b o e)
 generalize hDD:h1.objs.size=D at hoL;obtain⟨e1,ho1⟩:∃e1,(h2.update D (Obj.mapSeq λ_=>(#[]:Array pD))).get? D=tG (pW "list" #[] e1):=#[_,get?_update_seq hoL λ_=>#[]];have hDs:s⁻¹<=D:=by rw[<- hDD,sz1];exact cB _
 have sb:=Heap.SameBut.update h2 D (Obj.mapSeq λ_=>(#[]:Array pD));unfold ksk_tree;refine pi (listItems_at hoL rfl ?_);refine pi (listUpdate_at hoL rfl ?_ (by rw[ak,pY];lia) (aG _));refine pi (seqEpoch_at ho1 rfl ?_);refine pi (wpAny_newTuple ?_ (by show its.length<=_;rw[pY];lia));refine pi (sL ?_ (aG _));refine re ?_;generalize hh3:(h2.update D (Obj.mapSeq λ_=>(#[]:Array pD))).push (pW "tuple" its.toArray 0)=h3;have sz3:h3.objs.size=s⁻¹+3:=by rw[<- hh3,size_push',dP,sz2,sz1]
 have hoK:(h3.push (pW "list" #[] 0)).get? h3.objs.size=tG (pW "list" #[] 0):=aC _ rfl;have hoD:(h3.push (pW "list" #[] 0)).get? D=tG (pW "list" #[] e1):=ac _ (by rw[<- hh3];exact ac _ ho1)
 have kp3:∀b o,s.heap.get? b=tG o->(h3.push (pW "list" #[] 0)).get? b=tG o:=λb o e=>by
  have hlt:b<s⁻¹:=au e;refine ac _ ?_;rw[<- hh3];exact ac _ ((sb.2 b (ax (aw hlt hDs))).trans (kp2 b o e))
 have I1:Inv X tK σ H { s with heap:=h3.push (pW "list" #[] 0) }:=I.kept (t':=s.toks) kp3;have fD:wf X tK H D:=I.fpOk ⋯ (I.hok.fresh ⋯);have fK:wf X tK H h3.objs.size:=I.fpOk ⋯ (I.hok.fresh ⋯);have I2:=Inv.newpin I1 fD hoD xX
 have nK:∀p ∈ X.pn ++ (tK ++ [(D,pW "list" #[] e1)]),p.1≠h3.objs.size:=λp hp=>by
  rcases tQ.mp hp with z | z
  ·exact fK.2.2.2.2.2 p (aO _ z)
  ·rcases tQ.mp z with z | z
   ·exact fK.2.2.2.2.2 p (ay _ z)
   ·have e:p=(D,pW "list" #[] e1):=by simpa using z
    subst e;show D≠_;lia
 have I3:=Inv.newpin I2 (b:=h3.objs.size) #[fK.1,fK.2.1,fK.2.2.1,fK.2.2.2.1,fK.2.2.2.2.1,nK] hoK xX;have hsz:=I.sz;have hK0:X.s₀.heap.objs.size<=h3.objs.size:=⋯;exact KU FO hr hkc I3 ⋯ hK0 fD.2.2.2.2.2 nK rv ⋯ ht λs' hE=>#[_,rfl,pj #[_,rfl,hE]]
end
noncomputable def jd(X:Cx)(N:List pJ)(s:pE)(H:Hp)(qual:pJ)(scope:rf)(f:pC)(cd:pD)(cl:List (pJ × pC)):Cx where
 prog:=X.prog
 w:=X.w
 K:=X.K
 mg:=X.mg
 base:=X.base
 A:=X.A.in1.in1.deeper (d6 qual scope s⁻¹ f cd cl)
 N:=N
 s₀:=s
 H₀:=H
 env:=d6 qual scope s⁻¹ f cd cl
 outer:=X.stack
 stack:=d6 qual scope s⁻¹ f cd cl::X.stack
 ex:=[]
 calm:=tI
 fn:=λ_=>tJ
 pn:=[]
 xe:=λ_ _=>False
structure za1(p y:pJ)(scope:rf):Prop where
 kind:scope.kind=.function
 co:scope.isCoroutine=tJ
 gen:scope.isGenerator=tJ
 nocell:∀z ∈ scope.names,z.2≠.cell
 par:scope.names.lookup p=tG .local
 fre:scope.names.lookup y=tG .free
 one:∀q ∈ scope.names,q.2=.free->q.1=y
 ne:p≠y
section
variable{X:Cx}{tK:List (pC × rb)}{σ:L2.St}{H:Hp}{s:pE}{p y name qual:pJ}{scope:rf}{params:rA}{body:pM}{f c' c:pC}{pm ctv cv:pD}{k iy:Nat}{vy x:V}{u:pD}{Q:VK}{t:TE}
theorem zaK(S:za1 p y scope)(hd:X.A.in1.in1.handled=tH)(I:Inv X tK σ H s)(hy:X.N[iy]? = tG y)(hσ:σ[iy]? = tG (tG vy))(hvis:X.env.scope.names.lookup y=tG .cell)(hc:X.env.cells.lookup y=tG c)(rx:RelV x u){h₁:pN}{tk:Nat}
  (hns:h₁.Ns s⁻¹ (λz=>[(p,u)].reverse.lookup z)) (hk₁:∀b o,s.heap.get? b=tG o->h₁.get? b=tG o) :
  Inv (jd X [p,y] s H qual scope f cv [(y,c)]) [] [tG x,tG vy] H { s with heap:=h₁,toks:=tk }:=by
 obtain⟨m,hn,hl⟩:=I.loc;obtain⟨uy,ry,lk⟩:=hl iy y vy hy hσ (.inr (.inl hvis))
 have hcell:s.heap.IsCell c (tG uy):=by
  rcases lk with ⟨z,_⟩ | ⟨_,c2,e2,z⟩
  ·have z':X.env.scope.names.lookup y=tG .local:=z;rw[hvis]at z';cases z'
  ·rw[hc]at e2;cases e2;exact z
 have hcell':h₁.IsCell c (tG uy):=by
  obtain⟨o,e,d⟩:=hcell;exact#[o,hk₁ _ _ e,d]
 have e0:=I.env0;have noA:∀b:pC,b ∉ (jd X [p,y] s H qual scope f cv [(y,c)]).ex:=λb z=>absurd (show b ∈ ([]:List pC)from z) (by simp)
 have lkc:∀z d,bh z [(y,c)]=tG d->z=y/\d=c:=λz d h=>by
  rw[bc]at h;by_cases hz:(z == y)=tI
  ·rw[hz]at h;cases h;exact#[by simpa using hz,rfl]
  ·rw[show (z == y)=tJ by simpa using hz]at h;cases h
 have lky:bh y [(y,c)]=tG c:=by rw[bc];simp
 refine#[#[e0.mod,S.kind,rfl,rfl,al _,λz z' d h1 h2=>?_,λz hz=>?_,λz d h _=>?_,λ_=>hd,Around.frames_deeper e0.frames,.inr #[rfl,rfl],λb z=>absurd z (noA b),e0.bs,e0.bsz,λb _ _=>noA b,λb z=>absurd z (noA b),e0.funs,e0.frf],
  rfl,e0.bare,Un.kept hk₁,#[_,hns,λi z v h1 h2 h3=>?_],λz d h=>?_,e0.hok.fresh (al _),λz d h=>?_,λq hq=>absurd (show q ∈ ([]:List (pC × rb))from hq) (by simp),e0.hok.kept hk₁,rfl]
 ·rw[(lkc _ _ h1).1,(lkc _ _ h2).1]
 ·have hz':scope.names.lookup z=tG .cell\/scope.names.lookup z=tG .free:=hz;rcases hz' with hz' | hz'
  ·exact absurd rfl (S.nocell _ (bG hz'))
  ·rw[show z=y from S.one _ (bG hz') rfl];exact#[c,lky]
 ·exact absurd (show (tJ:Bool)=tI from h) ∅
 ·match i,h1,h2 with
  | 0,h1,h2 =>
   cases h1;cases h2;refine#[u,rx,.inl #[S.par,?_]];show bh p [(p,u)].reverse=tG u;simp [bh]
  | 1,h1,h2 =>
   cases h1;cases h2;exact#[uy,ry,.inr #[.inr S.fre,c,lky,hcell']]
  | i+2,h1,h2=>simp at h2
 ·obtain⟨_,rfl⟩:=lkc z d h;exact#[_,hcell']
 ·obtain⟨_,rfl⟩:=lkc z d h;exact I.freeC y _ hc
theorem QR(S:za1 p y scope)(hr:Room (k+3) X.A)(hbind:bindArgs (bo name qual params body scope [(y,c)] pm cv ctv) #[[u],[]]=pure [(p,u)])(I:Inv X tK σ H s)
  (ho:s.heap.get? f=tG { cls:=.type "function",data:=.func (bo name qual params body scope [(y,c)] pm cv ctv) }) (hcd:s.heap.CodeRec cv qual) (hy:X.N[iy]? = tG y) (hσ:σ[iy]? = tG (tG vy)) (hvis:X.env.scope.names.lookup y=tG .cell) (hc:X.env.cells.lookup y=tG c)
  (rx:RelV x u) (hb:PE (jd X [p,y] s H qual scope f cv [(y,c)]) body t) (h:t [tG x,tG vy] H Q) :
  pF (model X.prog X.w) X.A.in1.in1 (call (.ref f) [u]) (EP X tK σ Q) (λ_ _=>False) s:=by
 have hr2:Room (k+1) X.A.in1.in1:=hr.in1.in1;refine rE (fN hr2.depth ho rfl S.co S.gen rfl hcd ?_);rw[hbind];refine pj (rT S.nocell (λz hz=>?_) (λh₁ hns hsb=>?_) S.kind)
 ·have e:z=(p,u):=by simpa using hz
  subst e;exact S.par
 have hk₁:∀b o,s.heap.get? b=tG o->h₁.get? b=tG o:=λb o e=>hsb.extBut b o (ax (au e)) (ac _ e);refine#[I.nolimit.keeps hk₁,?_];have I1:=zaK (qual:=qual) (f:=f) (cv:=cv) (tk:=s.toks+1) S hr2.hd I hy hσ hvis hc rx hns hk₁;show rG _ _ (.expr body (d6 qual scope s⁻¹ f cv [(y,c)])) _ _;refine fO (rD (hb [] _ _ H Q I1 h) (λv s' hv=>?_) λ_ _ z=>False.elim z);obtain⟨w',H',J,rw',q⟩:=hv;exact I.after #[w',H',J.os,J.bare,J.base,J.hok,rw',q]
end
noncomputable def cdE(c':pC)(q:pJ):HO:=.ext λh=>h.CodeRec (.ref c') q
noncomputable def fnE(f:pC)(o:rb):HO:=.ext λh=>h.get? f=tG o
def TabOk(H:Hp)(P:pC)(pos:rj)(q:pJ):Prop :=
 ∃ps:Array pD,H P=tG (.tbl ps)/\sI ps.toList/\(codeAmong pos ps.toList=tH\/∃c',codeAmong pos ps.toList=tG (.ref c')/\H c'=tG (cdE c' q))
def SamT(P:pC)(H H':Hp):Prop:=∀b o,b≠P->H b=tG o->H' b=tG o
def LamAt(H:Hp)(f:pC)(name qual:pJ)(params:rA)(body:pM)(scope:rf)(cl:List (pJ × pC)):Prop :=
 ∃(c':pC) (pm ctv:pD),H c'=tG (cdE c' qual)/\H f=tG (fnE f { cls:=.type "function",data:=.func (bo name qual params body scope cl pm (.ref c') ctv) })
theorem zbZ{P:pH}{w:pK}{H:Hp}{h:pN}{c':pC}{q:pJ}(x:h.CodeRec (.ref c') q):ObjOk P w H h c' (cdE c' q):=by
 refine#[x,?_,λh1 h2 a k=>?_]
 ·obtain⟨c,o,vs,t,e,g,_⟩:=x;cases e;exact#[o,g]
 ·obtain⟨c,o,vs,t,e,g,r⟩:=a;cases e;exact#[_,o,vs,t,rfl,k o g,r]
theorem VQ{P:pH}{w:pK}{H:Hp}{h:pN}{f:pC}{o:rb}(x:h.get? f=tG o):ObjOk P w H h f (fnE f o) :=
 #[x,#[o,x],λh1 h2 a k=>k o a]
section
variable{X:Cx}{tK:List (pC × rb)}{σ:L2.St}{H:Hp}{s:pE}
theorem Inv.grow{P c' f:pC}{ps more:Array pD}{o:rb}{q:pJ}{h':pN}{tk:Nat}(I:Inv X tK σ H s)(hP:H P=tG (.tbl ps))(hk:∀b u,b≠P->s.heap.get? b=tG u->h'.get? b=tG u)(hP':h'.get? P=tG { cls:=.none,data:=.fields (ps ++ more) })
  (hc:s⁻¹<=c') (hf:s⁻¹<=f) (hcf:c'≠f) (hcr:h'.CodeRec (.ref c') q) (hfo:h'.get? f=tG o) :
  Inv X tK σ (upd (upd (upd H P (.tbl (ps ++ more))) c' (cdE c' q)) f (fnE f o)) { s with heap:=h',toks:=tk }:=by
 have Pl:P<s⁻¹:=I.hok.lt hP;have hPc:P≠c':=ax (aw Pl hc);have hPf:P≠f:=ax (aw Pl hf)
 have old:∀b,b<s⁻¹->b≠P->(upd (upd (upd H P (.tbl (ps ++ more))) c' (cdE c' q)) f (fnE f o)) b=H b:=λb hb hbP=>by
  rw[zk (ax (aw hb hf)),zk (ax (aw hb hc)),zk hbP]
 have atP:(upd (upd (upd H P (.tbl (ps ++ more))) c' (cdE c' q)) f (fnE f o)) P=tG (.tbl (ps ++ more)):=by
  rw[zk hPf,zk hPc,zc]
 have neP:∀b,H b=tH->b≠P:=λb e z=>by rw[z,hP]at e;cases e
 refine I.un #[λb u e n _ _=>hk b u (neP b n) e,λb u e n _ _=>#[u.slots,hk b u (neP b n) e],λb u e n _=>?_,λb u e _=>?_,λb xs e=>?_,λb ob u e=>?_,λb qs e=>?_] λb u e=>?_
 ·rw[old b (au e) (neP b n)];exact n
 ·by_cases hb:b=P
  ·subst hb;exact#[_,hP']
  ·exact#[u,hk b u hb e]
 ·rw[old b (I.hok.lt e) (λz=>by rw[z,hP]at e;cases e)];exact e
 ·rw[old b (I.hok.lt e) (λz=>by rw[z,hP]at e;cases e)];exact e
 ·by_cases hb:b=P
  ·subst hb;rw[hP]at e;cases e;exact#[more,atP]
  ·rw[old b (I.hok.lt e) hb];exact#[#[],by rw[e];simp]
 ·by_cases hbf:b=f
  ·subst hbf;rw[zc]at e;cases e;exact VQ hfo
  ·rw[zk hbf]at e;by_cases hbc:b=c'
   ·subst hbc;rw[zc]at e;cases e;exact zbZ hcr
   ·rw[zk hbc]at e;by_cases hbP:b=P
    ·subst hbP;rw[zc]at e;cases e;exact hP'
    ·rw[zk hbP]at e;refine (I.hok b u e).stay (λd v hd g=>hk d v ?_ g) (λd g=>?_) λd xs g=>?_
     ·rcases hd with z | z
      ·rw[z];exact hbP
      ·intro z';rw[z',hP]at z;cases z
     ·rw[old d (I.hok.lt g) (λz=>by rw[z,hP]at g;cases g)];exact g
     ·rw[old d (I.hok.lt g) (λz=>by rw[z,hP]at g;cases g)];exact g
end
theorem xD{a b:Int}{v:pD}:∀(l:List pD),sI l->sI (l ++ [rawInt a,rawInt b,v])
 | [],_=>trivial
 | .int _ _::.int _ _::_::rest,h=>xD rest h
theorem vE{h h':pN}{mg:pJ->Option pD}{T:pC}(x:h.BuiltinsAt mg T)(k:∀b o,h.get? b=tG o->h'.get? b=tG o):h'.BuiltinsAt mg T:=by
 obtain⟨bm,o,b1,b2,b3,b4,b5,b6⟩:=x;exact#[bm,o,b1,b2,b3,b4,k _ _ b5,b6]
section
variable{X:Cx}{tK:List (pC × rb)}{σ:L2.St}{H:Hp}{s:pE}{cc P c:pC}{y:pJ}{params:rA}{body:pM}{scope:rf}{pos:rj}{Q:VK}
theorem JA(hcode:X.env.code=.ref cc)(hC:PySem.W.CodeHd X.base cc P)(hB:X.base.BuiltinsAt X.mg P)(hgP:pq≠P)(hcl:closureFor scope X.env=pure [(y,c)])(hdef:defaultsOf params X.env=([],[]))(I:Inv X tK σ H s)
  (hT:TabOk H P pos (X.env.qual ++ "<lambda>"))
  (h:∀f H',H f=tH->LamAt H' f "<lambda>" (X.env.qual ++ "<lambda>") params body scope [(y,c)]->TabOk H' P pos (X.env.qual ++ "<lambda>")->SamT P H H'->Q (.ref f) H') :
  pF (model X.prog X.w) X.A (eval (.Lambda params body scope pos) X.env) (EP X tK σ Q) X.xe s:=by
 refine gk hdef ?_;obtain⟨ps,hP,ht,hh⟩:=hT;have hPo:s.heap.get? P=tG (PySem.W.tabObj ps):=I.hok _ _ hP;have hg:=I.mod.glob.keeps I.bk;have Pl:P<s⁻¹:=I.hok.lt hP;rcases hh with hn | ⟨c',hit,hc'⟩
 ·refine eX (mg:=X.mg) hcl I.ok.glob hg hcode (hC.keeps I.bk) hPo ht hn hgP (vE hB I.bk) λc' ctv h' tk hx hge hlt hrec htb=>?_;have hsz:s⁻¹<=h'.objs.size:=cY (cf hge hlt)
  have I1:=Inv.grow (P:=P) (c':=c') (f:=h'.objs.size) (more:=(List.toArray [rawInt pos.line,rawInt pos.col,.ref c'])) (tk:=tk) (o:={ cls:=.type "function",data:=.func (bo "<lambda>" (X.env.qual ++ "<lambda>") params body scope [(y,c)] ((X.mg "__name__").getD .none) (.ref c') ctv) }) I hP
   (λb u hb e=>ac _ (hx b u hb e)) (ac _ htb) hge hsz (ax hlt) (hrec.push _) (aC _ rfl)
  have hPc:P≠c':=ax (aw Pl hge);have hPf:P≠h'.objs.size:=ax (aw Pl hsz)
  have atc:(upd (upd (upd H P (.tbl (ps ++ (List.toArray [rawInt pos.line,rawInt pos.col,.ref c'])))) c' (cdE c' (X.env.qual ++ "<lambda>"))) h'.objs.size (fnE h'.objs.size { cls:=.type "function",data:=.func (bo "<lambda>" (X.env.qual ++ "<lambda>") params body scope [(y,c)] ((X.mg "__name__").getD .none) (.ref c') ctv) })) c'=tG (cdE c' (X.env.qual ++ "<lambda>")):=by
   rw[zk (ax hlt),zc]
  refine#[.ref h'.objs.size,_,I1,rfl,h _ _ (I.hok.fresh hsz) #[c',_,ctv,atc,zc] #[ps ++ (List.toArray [rawInt pos.line,rawInt pos.col,.ref c']),?_,?_,.inr #[c',?_,atc]] λb o hb e=>?_]
  ·rw[zk hPf,zk hPc,zc]
  ·rw[cy];exact xD _ ht
  ·rw[cy];exact codeAmong_snoc _ ht hn
  ·have hl:=I.hok.lt e;rw[zk (ax (aw hl hsz)),zk (ax (aw hl hge)),zk hb];exact e
 ·refine eE (mg:=X.mg) hcl I.ok.glob hg hcode (hC.keeps I.bk) hPo ht hit (vE hB I.bk) λctv h' tk hk hsz=>?_;have hfr:H h'.objs.size=tH:=I.hok.fresh hsz
  have I1:=I.laid (a:=h'.objs.size) (t':=tk) (h':=h'.push { cls:=.type "function",data:=.func (bo "<lambda>" (X.env.qual ++ "<lambda>") params body scope [(y,c)] ((X.mg "__name__").getD .none) (.ref c') ctv) })
   (o:=fnE h'.objs.size { cls:=.type "function",data:=.func (bo "<lambda>" (X.env.qual ++ "<lambda>") params body scope [(y,c)] ((X.mg "__name__").getD .none) (.ref c') ctv) })
   (λb u e=>ac _ (hk b u e)) hsz (VQ (aC _ rfl))
  have sm:=zd (o:=fnE h'.objs.size { cls:=.type "function",data:=.func (bo "<lambda>" (X.env.qual ++ "<lambda>") params body scope [(y,c)] ((X.mg "__name__").getD .none) (.ref c') ctv) }) hfr;exact#[.ref h'.objs.size,_,I1,rfl,h _ _ hfr #[c',_,ctv,sm _ _ hc',zc] #[ps,sm _ _ hP,ht,.inr #[c',hit,sm _ _ hc']] λb o _ e=>sm _ _ e]
end
def zbQ(R:V->Hp->Prop):List V->Hp->Prop
 | [v],H=>R v H
 | _,_=>False
theorem kd{R:V->Hp->Prop}:∀{vs:List V} {H:Hp},zbQ R vs H->∃v,vs=[v]/\R v H
 | [v],_,h=>#[v,rfl,h]
def zev(P:pC)(pos:rj)(q:pJ)(LA:Hp->pC->Prop):TE:=λσ H Q=>TabOk H P pos q/\∀f H',H f=tH->LA H' f->TabOk H' P pos q->SamT P H H'->Q (.ref f) H'
def JW{α:Type}(K:pB)(F:KeyFam α)(P:pC)(pos:rj)(q:pJ)(LA:Hp->pC->Prop)(iy:Nat)(te tb:TE):TE:=λσ H Q=>te σ H λv H1=>TabOk H1 P pos q /\
 ∀f H2,H1 f=tH->LA H2 f->TabOk H2 P pos q->SamT P H1 H2->∃l xs vy,v=.ref l/\SqL K H2 l xs/\xs.length<64/\σ[iy]? = tG (tG vy)/\wk (λx H Q=>LA H f/\tb [tG x,tG vy] H Q) xs [] H2 (jI K F xs Q)
section
variable{X:Cx}{cc P c:pC}{x p y:pJ}{params:rA}{body e:pM}{scope:rf}{lpos kpos pos pp:rj}{k iy:Nat}{te tb:TE}
theorem zby(hcode:X.env.code=.ref cc)(hC:PySem.W.CodeHd X.base cc P)(hB:X.base.BuiltinsAt X.mg P)(hgP:pq≠P)(hcl:closureFor scope X.env=pure [(y,c)])(hdef:defaultsOf params X.env=([],[])) :
  PE X (.Lambda params body scope lpos) (zev P lpos (X.env.qual ++ "<lambda>") λH f=>LamAt H f "<lambda>" (X.env.qual ++ "<lambda>") params body scope [(y,c)]):=by
 intro tK s σ H Q I h;exact JA hcode hC hB hgP hcl hdef I h.1 h.2
theorem Qv{α:Type}{F:KeyFam α}(FO:F.Ok)(S:za1 p y scope)(hr:Room (k+3) X.A)(hg:Gl X x)(hm:X.mg x=tH)(hv:ra x=tG (.builtin "sorted"))(ha:PA X [e] (zH te xF))
  (hcode:X.env.code=.ref cc) (hC:PySem.W.CodeHd X.base cc P) (hB:X.base.BuiltinsAt X.mg P) (hgP:pq≠P) (hcl:closureFor scope X.env=pure [(y,c)]) (hdef:defaultsOf params X.env=([],[]))
  (hbind:∀(cv pm ctv u:pD),bindArgs (bo "<lambda>" (X.env.qual ++ "<lambda>") params body scope [(y,c)] pm cv ctv) #[[u],[]]=pure [(p,u)]) (hy:X.N[iy]? = tG y) (hvis:X.env.scope.names.lookup y=tG .cell) (hc:X.env.cells.lookup y=tG c)
  (hb:∀(s:pE) (H:Hp) (f:pC) (cv:pD),Room k (jd X [p,y] s H (X.env.qual ++ "<lambda>") scope f cv [(y,c)]).A->PE (jd X [p,y] s H (X.env.qual ++ "<lambda>") scope f cv [(y,c)]) body tb)
  (hn:x≠"__name__":=by decide) (hdb:(x ==("__debug__" : pJ))=tJ:=by decide)
  (hks:(pZ pos (pO [#[tG "key",.Lambda params body scope lpos,kpos]] X.env)).filterMap (·.1)=[bJ "key"]:=by rfl)
  (hst:pS pos (pz [e] X.env)=(tJ,eval e X.env)::pS pos (pz [] X.env):=by rfl) (hpl:(pS pos (pz [e] X.env)).any (·.1)=tJ:=by rfl)
  (hall:(pZ pos (pO [#[tG "key",.Lambda params body scope lpos,kpos]] X.env)).all (·.1.isSome)=tI:=by rfl) (hkw:(pZ pos (pO [#[tG "key",.Lambda params body scope lpos,kpos]] X.env)).any (·.1.isNone)=tJ:=by rfl) :
  PE X (.Call (.Name x pp) [e] [#[tG "key",.Lambda params body scope lpos,kpos]] pos) (JW X.K F P lpos (X.env.qual ++ "<lambda>") (λH f=>LamAt H f "<lambda>" (X.env.qual ++ "<lambda>") params body scope [(y,c)]) iy te tb):=by
 intro tK s σ H Q I h;have hlam:PE X (.Lambda params body scope lpos) (zev P lpos (X.env.qual ++ "<lambda>") λH f=>LamAt H f "<lambda>" (X.env.qual ++ "<lambda>") params body scope [(y,c)]):=zby hcode hC hB hgP hcl hdef;refine pV (wm I hg hm hv ?_ hn hdb)
 have h':(zH te xF) σ H (zbQ λv H1=>TabOk H1 P lpos (X.env.qual ++ "<lambda>")/\∀f H2,H1 f=tH->LamAt H2 f "<lambda>" (X.env.qual ++ "<lambda>") params body scope [(y,c)]->TabOk H2 P lpos (X.env.qual ++ "<lambda>")->SamT P H1 H2 ->
   ∃l xs vy,v=.ref l/\SqL X.K H2 l xs/\xs.length<64/\σ[iy]? = tG (tG vy)/\wk (λx H Q=>LamAt H f "<lambda>" (X.env.qual ++ "<lambda>") params body scope [(y,c)]/\tb [tG x,tG vy] H Q) xs [] H2 (jI X.K F xs Q)):=h
 refine callWith_kw (thn (ha pos tK s σ H _ I h') λus s1 ⟨vs,H1,I1,r1,q1⟩=>?_) hst hpl hall hkw;obtain⟨v,rfl,hT,q1⟩:=kd q1;obtain⟨u,rfl,ru⟩:=xz r1
 refine thn ((Yc hlam W3:PK X [#[tG "key",.Lambda params body scope lpos,kpos]] _) pos tK s1 σ H1 (zbQ λkv H2=>∃f,kv=.ref f/\LamAt H2 f "<lambda>" (X.env.qual ++ "<lambda>") params body scope [(y,c)] /\
   ∃l xs vy,v=.ref l/\SqL X.K H2 l xs/\xs.length<64/\σ[iy]? = tG (tG vy)/\wk (λx H Q=>LamAt H f "<lambda>" (X.env.qual ++ "<lambda>") params body scope [(y,c)]/\tb [tG x,tG vy] H Q) xs [] H2 (jI X.K F xs Q)) I1 #[hT,λf H2 a1 a2 a3 a4=>#[f,rfl,a2,q1 f H2 a1 a2 a3 a4]]) λws s2 ⟨zs,H2,I2,r2,q2⟩=>?_
 obtain⟨kv,rfl,f,rfl,hLA,l,xs,vy,rfl,hS,hz,hσ,hk⟩:=kd q2;obtain⟨w',rfl,rw'⟩:=xz r2;cases rw';cases ru;rw[hks];show pF _ _ (call (.builtin "sorted") [.ref l] [(bJ "key",.ref f)]) _ _ _;refine Zv FO (k:=k+1) hr (λpins' s3 H3 x3 u3 Q3 I3 r3 h3=>?_) I2 hS hz hk;obtain⟨⟨c',pm,ctv,e1,e2⟩,h4⟩:=h3;have hcd:s3.heap.CodeRec (.ref c') (X.env.qual ++ "<lambda>"):=(I3.hok _ _ e1).1;have ho:=(I3.hok _ _ e2).1;exact QR (k:=k) S hr (hbind _ _ _ _) I3 ho hcd hy hσ hvis hc r3 (hb s3 H3 f (.ref c') (hr.in1.in1.deeper _)) h4
end
section
variable{K:pB}
theorem SamT.of{T:pC}{H H':Hp}(s:Same H H'):SamT T H H':=λb o _ e=>s b o e
theorem SamT.trans{T:pC}{H H' H'':Hp}(s:SamT T H H')(s':SamT T H' H''):SamT T H H'':=λb o n e=>s' b o n (s b o n e)
theorem SamT.at{T b:pC}{H H':Hp}{ps:Array pD}{o:HO}(s:SamT T H H')(hT:H T=tG (.tbl ps))(e:H b=tG o)(ho:∀qs,o≠.tbl qs):H' b=tG o:=s b o (λz=>by rw[z,hT]at e;cases e;exact ho _ rfl) e
theorem SamT.free{T b:pC}{H H':Hp}{o:HO}(s:SamT T H H')(hT:H' T=tG o)(h:H' b=tH):H b=tH:=by
 cases e:H b with
 | none=>rfl
 | some u =>
  by_cases hb:b=T
  ·rw[hb,hT]at h;cases h
  ·rw[s b u hb e]at h;cases h
theorem SamT.seqL{T a:pC}{H H':Hp}{ps:Array pD}{xs:List V}(s:SamT T H H')(hT:H T=tG (.tbl ps))(h:SqL K H a xs):SqL K H' a xs:=by
 rcases h with (h | ⟨o,h⟩) | h
 ·exact .inl (.inl (s.at hT h λ_ z=>by cases z))
 ·exact .inl (.inr #[o,s.at hT h λ_ z=>by cases z])
 ·exact .inr h
theorem SamT.seqT{T a:pC}{H H':Hp}{ps:Array pD}{xs:List V}(s:SamT T H H')(hT:H T=tG (.tbl ps))(h:SqT K H a xs):SqT K H' a xs:=by
 rcases h with (h | ⟨o,h⟩) | h
 ·exact .inl (.inl (s.at hT h λ_ z=>by cases z))
 ·exact .inl (.inr #[o,s.at hT h λ_ z=>by cases z])
 ·exact .inr h
mutual
theorem Is.samT{T:pC}{H H':Hp}{ps:Array pD}(s:SamT T H H')(hT:H T=tG (.tbl ps)):∀(d:D) (v:V),Is K H d v->Is K H' d v
 | .non,v,h=>by erw[Is]at h ⊢;exact h
 | .bl b,v,h=>by erw[Is]at h ⊢;exact h
 | .int b,v,h=>by erw[Is]at h ⊢;exact h
 | .str b,v,h=>by erw[Is]at h ⊢;exact h
 | .lst l,v,h=>by
  erw[Is]at h ⊢
  obtain⟨a,xs,e1,e2,e3⟩:=h;exact#[a,xs,e1,s.seqL hT e2,Iss.samT s hT l xs e3]
 | .tup l,v,h=>by
  erw[Is]at h ⊢
  obtain⟨a,xs,e1,e2,e3⟩:=h;exact#[a,xs,e1,s.seqT hT e2,Iss.samT s hT l xs e3]
theorem Iss.samT{T:pC}{H H':Hp}{ps:Array pD}(s:SamT T H H')(hT:H T=tG (.tbl ps)):∀(l:List D) (vs:List V),Iss K H l vs->Iss K H' l vs
 | [],vs,h=>by erw[Iss]at h ⊢;exact h
 | d::l,vs,h=>by
  erw[Iss]at h ⊢
  obtain⟨v,r,e1,e2,e3⟩:=h;exact#[v,r,e1,Is.samT s hT d v e2,Iss.samT s hT l r e3]
end
theorem LsA.samT{T a:pC}{H H':Hp}{ps:Array pD}{ds:List D}(h:LsA K H a ds)(s:SamT T H H')(hT:H T=tG (.tbl ps)):LsA K H' a ds:=by
 obtain⟨xs,h1,h2⟩:=h;exact#[xs,s.at hT h1 (λ_ z=>by cases z),Iss.samT s hT _ _ h2]
theorem TabOk.same{H H':Hp}{T:pC}{pos:rj}{q:pJ}(h:TabOk H T pos q)(s:Same H H'):TabOk H' T pos q:=by
 obtain⟨ps,h1,h2,h3⟩:=h;refine#[ps,s _ _ h1,h2,?_];rcases h3 with h3 | ⟨c',h4,h5⟩
 ·exact .inl h3
 ·exact .inr #[c',h4,s _ _ h5]
theorem LamAt.same{H H':Hp}{f:pC}{name qual:pJ}{params:rA}{body:pM}{scope:rf}{cl:List (pJ × pC)}(h:LamAt H f name qual params body scope cl)(s:Same H H'):LamAt H' f name qual params body scope cl:=by
 obtain⟨c',pm,ctv,h1,h2⟩:=h;exact#[c',pm,ctv,s _ _ h1,s _ _ h2]
end
section
variable{P:pH}{w:pK}{K:pB}{mg mb:pJ->Option pD}{CX:CXT}{k:Nat}{fa a T cc:pC}{fd:pG}{x:pJ}{sp:Sp}{s₁:pE}{vs:List pD}{ns:List Int}{ps:Array pD}
end
noncomputable def KA(K:pB):Bool:=K.all λp=>match p.2 with
 | ⟨.none,_,.fields _,_⟩=>tJ
 | _=>tI
theorem XZ{T:pC}{o:rb}:∀{K:pB},K.lookup T=tG o->(T,o) ∈ K
 | [],h=>by cases h
 | p::K,h=>by
  rw[bc]at h;by_cases hp:T=p.1
  ·rw[show (T == p.1)=tI by simpa using hp]at h;cases h;rw[hp];exact av
  ·rw[show (T == p.1)=tJ by simpa using hp]at h;exact ao _ (XZ h)
theorem X7{K:pB}{T:pC}{ps:Array pD}{h:pN}(e:KA K=tI)(X:K.In h)(hT:h.get? T=tG { cls:=.none,data:=.fields ps }):K.lookup T=tH:=by
 cases q:K.lookup T with
 | none=>rfl
 | some o =>
  have g:=X _ _ q;rw[hT]at g;cases g;have:=tY.mp e _ (XZ q);simp at this
theorem VM{P:pH}{w:pK}{K:pB}{mg:pJ->Option pD}{base:pN}{x qual:pJ}{st:pQ}{f cc:pC}{fd:pG}{N ps:List pJ}{k:Nat}{sp:Sp}(F:Fun K x qual st f fd)(hcc:fd.code=.ref cc)(S:zo N ps (zg st))(len:∀vs H Q E,sp vs H Q E->vs.length=ps.length)
  (hbody:∀(A:pL) (outer:List sx) (s:pE) (H:Hp) (vs:List V) (Q:VK) (E:XK),Room k (A.deeper (rX qual (zg st) s⁻¹ f (.ref cc)))->sp vs H Q E ->
   ∃t,PSs (uP CX0 P w K mg base N qual (zg st) f (.ref cc) A outer s H E).nox (zX st) t/\t { nx:=λ_ H'=>Q .non H',rt:=Q } (start N vs) H):FnOk P w K mg base CX0 (k+1) f fd ps sp:=by
 obtain⟨oc,od,kV,doc,pm,an,cdv,ct,osl,rfl,lk,hcd⟩:=F.ex;have e:cdv=.ref cc:=hcc;subst e;refine Qd lk hcd S len λA outer s H vs Q E hr hsp=>?_;obtain⟨t,h,q⟩:=hbody A outer s H vs Q E hr hsp;exact#[t,h.nox,q]
end L3
namespace L3
theorem j7{pos pos':rj}{c:pD}(l:List pD)(h:sI l)(hl:pos'.line≠pos.line):codeAmong pos' (l ++ [rawInt pos.line,rawInt pos.col,c])=codeAmong pos' l:=by
 fun_induction sI l with
 | case1 =>
  erw[aT,codeAmong,rawInt]
  rw[if_neg]
  erw[cz,beq_iff_eq]
  intro z;exact hl (by have:=z.1;lia)
 | case2 a t b u x rest ih =>
  erw[aV,codeAmong]
  split
  ·rfl
  ·exact ih h
 | case3 l h1 h2=>exact h.elim
def zbf(P:pC)(pos:rj)(H H':Hp):Prop:=∀pos' q',pos'.line≠pos.line->TabOk H P pos' q'->TabOk H' P pos' q'
theorem TabOk.same'{H H':Hp}{T:pC}{pos:rj}{q:pJ}(h:TabOk H T pos q)(s:Same H H'):TabOk H' T pos q:=by
 obtain⟨ps,h1,h2,h3⟩:=h;refine#[ps,s _ _ h1,h2,?_];rcases h3 with h3 | ⟨c',h4,h5⟩
 ·exact .inl h3
 ·exact .inr #[c',h4,s _ _ h5]
section
variable{X:Cx}{tK:List (pC × rb)}{σ:L2.St}{H:Hp}{s:pE}{cc P c:pC}{y:pJ}{params:rA}{body:pM}{scope:rf}{pos:rj}{Q:VK}
end
def zb9(P:pC)(pos:rj)(q:pJ)(LA:Hp->pC->Prop):TE:=λσ H Q=>TabOk H P pos q/\∀f H',H f=tH->LA H' f->TabOk H' P pos q->SamT P H H'->zbf P pos H H'->Q (.ref f) H'
section
variable{X:Cx}{cc P c:pC}{x p y:pJ}{params:rA}{body e:pM}{scope:rf}{lpos kpos pos pp:rj}{k iy:Nat}{te tb:TE}
end
section
variable{P:pH}{w:pK}{K:pB}{mg mb:pJ->Option pD}{CX:CXT}{k:Nat}{fa a T cc T' cc':pC}{fd:pG}{x:pJ}{sp:Sp}{s₁:pE}{vs:List pD}{ns:List Int}
noncomputable def JN:rb:={ cls:=.none,data:=.fields #[] }
theorem jj(KX:K.In s₁.heap)(hKT:K.lookup T=tH)(hKT':K.lookup T'=tH)(hT:s₁.heap.get? T=tG JN)(hTc:sF s₁.heap T)(hT':s₁.heap.get? T'=tG JN)(hTc':sF s₁.heap T')(hns:s₁.heap.Ns pq mg)(hb:s₁.heap.Ns builtinsNs mb)(hbb:∀x:pJ,x≠"__name__"->mb x=ra x)(hlim:s₁.heap.NoLimit)(hg:s₁.gens=#[])
  (ha:s₁.heap.get? a=tG { cls:=.type "list",data:=.seq vs.toArray }) (hr:Room k callerA)
  (hbm:s₁.heap.BuiltinsAt mg T) (hcd:PySem.W.CodeHd s₁.heap cc T) (hbm':s₁.heap.BuiltinsAt mg T') (hcd':PySem.W.CodeHd s₁.heap cc' T') (F:∀base:pN,K.In base->base.Ns pq mg->base.BuiltinsAt mg T->PySem.W.CodeHd base cc T->base.BuiltinsAt mg T'->PySem.W.CodeHd base cc' T'->FnOk P w K mg base CX k fa fd [x] sp) (hbind:∀(s:pE) (u:pD),sJ s fd #[[u],[]] [(x,u)])
  (hCX:∀H e s',CX [] H s₁ (λ_ _ _=>False) e s'->False) (H:Hp) (h1:H T=tG (.tbl #[])) (h1':H T'=tG (.tbl #[])) (h2:∀b u,H b=tG u->b=T\/b=T'\/(b=a/\K.lookup a=tH/\u=.frz { cls:=.type "list",data:=.seq vs.toArray } (.lst (ns.map V.int))))
  (hok:HOk P w H s₁.heap) (hsp:sp [.ref a] H (λv _=>v=.bl tI) λ_ _ _=>False) :
  rG (model P w) callerA (.call (.ref fa) #[[.ref a],[]]) (λr s'=>r=.ok (.ret (.bool tI))/\OldK s₁.heap s'.heap/\s'.os=s₁.os/\rY s'.gens) s₁:=by
 have stay:∀b o,s₁.heap.get? b=tG o->(b≠T)->(b≠T')->(b≠a)->(UU s₁.heap H).get? b=tG o:=λb o e n1 n1' n2=>Xd e (by
  cases q:H b with
  | none=>rfl
  | some u =>
   rcases h2 b u q with z | z | z
   ·exact absurd z n1
   ·exact absurd z n1'
   ·exact absurd z.1 n2)
 have nsStay:∀(b:pC) (m:pJ->Option pD),s₁.heap.Ns b m->(UU s₁.heap H).Ns b m:=λb m hN=>by
  obtain⟨o,es,ep,e,d,rest⟩:=hN;refine#[o,es,ep,stay b o e (λz=>?_) (λz=>?_) (λz=>?_),d,rest]
  ·rw[z,hT]at e;cases e;cases d
  ·rw[z,hT']at e;cases e;cases d
  ·rw[z,ha]at e;cases e;cases d
 have kStay:K.In (UU s₁.heap H):=λb o e=>by
  have g:=KX b o e;refine Xd g ?_
  cases q:H b with
  | none=>rfl
  | some u =>
   rcases h2 b u q with z | z | z
   ·rw[z,hKT]at e;cases e
   ·rw[z,hKT']at e;cases e
   ·rw[z.1,z.2.1]at e;cases e
 have bStay:∀T0,s₁.heap.BuiltinsAt mg T0->(UU s₁.heap H).BuiltinsAt mg T0:=λT0 hbm=>by
  obtain⟨bm,o,b1,b2,b3,b4,b5,b6,b7,b8⟩:=hbm;refine#[bm,o,b1,b2,b3,b4,stay bm o b5 (λz=>?_) (λz=>?_) (λz=>?_),b6,b7,b8]
  ·rw[z,hT]at b5;cases b5;cases b6
  ·rw[z,hT']at b5;cases b5;cases b6
  ·rw[z,ha]at b5;cases b5;simp at b6
 have cStay:∀c0 T0,PySem.W.CodeHd s₁.heap c0 T0->PySem.W.CodeHd (UU s₁.heap H) c0 T0:=λc0 T0 hcd=>by
  obtain⟨o,vs',file,tf,flags,tg,inF,text,tt,c1,c2,c3,c4,c5,c6,c7,c8,c9,c10⟩:=hcd;refine#[o,vs',file,tf,flags,tg,inF,text,tt,stay c0 o c1 (λz=>?_) (λz=>?_) (λz=>?_),c2,c3,c4,c5,c6,c7,c8,c9,c10]
  ·rw[z,hT]at c1;cases c1;cases c2
  ·rw[z,hT']at c1;cases c1;cases c2
  ·rw[z,ha]at c1;cases c1;simp at c2
 obtain⟨mc,l1,l2⟩:=hlim;have M0:Mod K mg (UU s₁.heap H):={ kin:=kStay,glob:=nsStay _ _ hns,blt:=#[mb,nsStay _ _ hb,hbb],nolimit:=#[mc,nsStay _ _ l1,l2] };have E0:Env0 P w K mg (UU s₁.heap H) callerA [] s₁ H:={ frames:=rfl,mod:=M0,bs:=λb o e=>K5 e,bsz:=Nat.le_of_eq (UP _ _),funs:=trivial,frf:=λb z=>(nomatch (show b ∈ ([]:List pC)from z)),hok:=hok,bare:=.of_eq hg };refine rJ ((F _ kStay (nsStay _ _ hns) (bStay _ hbm) (cStay _ _ hcd) (bStay _ hbm') (cStay _ _ hcd')).run callerA [] s₁ H #[[.ref a],[]] [.ref a] [.ref a] (λv _=>v=.bl tI) (λ_ _ _=>False) hr E0 (hbind s₁ (.ref a)) (.cons rfl .nil) hsp) λr s' hq=>?_;rcases r with e | fl
 ·exact (hCX H e s' hq).elim
 rcases fl with _ | _ | _ | u
 all_goals first | exact False.elim hq | skip
 obtain⟨v,H',e1,e2,un,hok',rv,ev⟩:=hq;have ev':v=V.bl tI:=ev;subst ev';have eu:u=Value.bool tI:=rv;subst eu
 have tabs:∀T0,H T0=tG (.tbl #[])->∃more,s'.heap.get? T0=tG { cls:=.none,data:=.fields (#[] ++ more) }:=λT0 hh=>by
  obtain⟨more,hT2⟩:=un.tbls T0 #[] hh;exact#[more,hok' T0 _ hT2]
 have each:∀b o,s₁.heap.get? b=tG o->b≠T->b≠T'->s'.heap.get? b=tG o:=λb o e n n'=>by
  cases q:H b with
  | none=>exact un.keep b o e q (λz=>(nomatch (show b ∈ ([]:List pC)from z))) (λz=>(nomatch z))
  | some ob =>
   rcases h2 b ob q with z | z | ⟨z,_,zz⟩
   ·exact absurd z n
   ·exact absurd z n'
   ·subst zz;have g:=(hok' b _ (un.frzs b _ _ q)).1;rw[z,ha]at e;cases e;exact g
 obtain⟨m1,t1⟩:=tabs T h1;obtain⟨m2,t2⟩:=tabs T' h1';refine#[rfl,#[λb o e=>?_,λb o e=>?_],e1,e2]
 ·by_cases hbT:b=T
  ·subst hbT;rw[hT]at e;cases e;exact .inr (.inl #[hTc,rfl,#[],m1,rfl,t1])
  ·by_cases hbT':b=T'
   ·subst hbT';rw[hT']at e;cases e;exact .inr (.inl #[hTc',rfl,#[],m2,rfl,t2])
   ·exact .inl (each b o e hbT hbT')
 ·by_cases hbT:b=T
  ·subst hbT;exact#[_,t1]
  ·by_cases hbT':b=T'
   ·subst hbT';exact#[_,t2]
   ·exact#[o,each b o e hbT hbT']
theorem WE(KX:K.In s₁.heap)(hKT:K.lookup T=tH)(hKT':K.lookup T'=tH)(hT:s₁.heap.get? T=tG JN)(hTc:sF s₁.heap T)(hT':s₁.heap.get? T'=tG JN)(hTc':sF s₁.heap T')(hns:s₁.heap.Ns pq mg)(hb:s₁.heap.Ns builtinsNs mb)(hbb:∀x:pJ,x≠"__name__"->mb x=ra x)(hlim:s₁.heap.NoLimit)(hg:s₁.gens=#[])
  (ha:s₁.heap.get? a=tG { cls:=.type "list",data:=.seq vs.toArray }) (hi:sX vs ns) (hl:ns.length<=pA) (hr:Room k callerA)
  (hbm:s₁.heap.BuiltinsAt mg T) (hcd:PySem.W.CodeHd s₁.heap cc T) (hbm':s₁.heap.BuiltinsAt mg T') (hcd':PySem.W.CodeHd s₁.heap cc' T') (F:∀base:pN,K.In base->base.Ns pq mg->base.BuiltinsAt mg T->PySem.W.CodeHd base cc T->base.BuiltinsAt mg T'->PySem.W.CodeHd base cc' T'->FnOk P w K mg base CX k fa fd [x] sp) (hbind:∀(s:pE) (u:pD),sJ s fd #[[u],[]] [(x,u)])
  (hCX:∀H e s',CX [] H s₁ (λ_ _ _=>False) e s'->False) (hsp:∀H:Hp,H T=tG (.tbl #[])->H T'=tG (.tbl #[])->SqL K H a (ns.map V.int)->sp [.ref a] H (λv _=>v=.bl tI) λ_ _ _=>False) :
  rG (model P w) callerA (.call (.ref fa) #[[.ref a],[]]) (λr s'=>r=.ok (.ret (.bool tI))/\OldK s₁.heap s'.heap/\s'.os=s₁.os/\rY s'.gens) s₁:=by
 have rv:=Zx hi;have hlv:=hi.length
 have hTa:a≠T:=λz=>by
  rw[z,hT]at ha;cases ha
 have hTa':a≠T':=λz=>by
  rw[z,hT']at ha;cases ha
 have g1:(upd (upd (λ_=>tH) T (.tbl #[])) T' (.tbl #[]):Hp) T=tG (.tbl #[]):=by
  by_cases z:T=T'
  ·rw[z,zc]
  ·rw[zk z,zc]
 have only:∀b u,(upd (upd (λ_=>tH) T (.tbl #[])) T' (.tbl #[]):Hp) b=tG u->(b=T\/b=T')/\u=.tbl #[]:=λb u e=>by
  by_cases hbT:b=T'
  ·subst hbT;rw[zc]at e;cases e;exact#[.inr rfl,rfl]
  ·rw[zk hbT]at e;by_cases hbT:b=T
   ·subst hbT;rw[zc]at e;cases e;exact#[.inl rfl,rfl]
   ·rw[zk hbT]at e;cases e
 have okT:∀(H:Hp) b u,(b=T\/b=T')/\u=.tbl #[]->ObjOk P w H s₁.heap b u:=λH b u h=>by
  obtain⟨h,rfl⟩:=h;rcases h with rfl | rfl
  ·exact hT
  ·exact hT'
 rcases hk:K.lookup a with _ | o
 ·refine jj (ns:=ns) KX hKT hKT' hT hTc hT' hTc' hns hb hbb hlim hg ha hr hbm hcd hbm' hcd' F hbind hCX (upd (upd (upd (λ_=>tH) T (.tbl #[])) T' (.tbl #[])) a (.frz { cls:=.type "list",data:=.seq vs.toArray } (.lst (ns.map V.int)))) ?_ ?_ (λb u e=>?_) (λb u e=>?_) ?_
  ·rw[zk (Ne.symm hTa)];exact g1
  ·rw[zk (Ne.symm hTa'),zc]
  ·by_cases hba:b=a
   ·subst hba;rw[zc]at e;cases e;exact .inr (.inr #[rfl,hk,rfl])
   ·rw[zk hba]at e;exact (only b u e).1.imp id .inl
  ·by_cases hba:b=a
   ·subst hba;rw[zc]at e;cases e;exact#[ha,by rw[aa];exact hl,vs,_,rv,ha]
   ·rw[zk hba]at e;exact okT _ b u (only b u e)
  ·exact hsp _ (by rw[zk (Ne.symm hTa)];exact g1) (by rw[zk (Ne.symm hTa'),zc]) (.inl (.inr #[_,zc]))
 ·have e:=KX a o hk;rw[ha]at e;cases e;exact jj (ns:=ns) KX hKT hKT' hT hTc hT' hTc' hns hb hbb hlim hg ha hr hbm hcd hbm' hcd' F hbind hCX (upd (upd (λ_=>tH) T (.tbl #[])) T' (.tbl #[])) g1 zc (λb u e=>(only b u e).1.imp id .inl) (λb u e=>okT _ b u (only b u e)) (hsp _ g1 zc (.inr #[_,vs.toArray,_,hk,rfl,rfl,rfl,by rw[ak,hlv];exact hl,by simpa using rv]))
end
theorem walk_ofT2{l:PySem.W.OpenLaw}{n k:Nat}{q:pH}{loose:List pJ}{XP:(pJ->Option pD)->pN->Prop}{YP:pK->pN->Prop}{d din din':DefRec}{K:Params->pB}{CX:pK->CXT}{sp:pK->pC->pC->Sp}{x:pJ}
  (hn:l.most=tG n) (hn2:n<=pA) (hdf:d.params.defaults=[]) (hr:Room k callerA) (hdin:din ∈ recsOf q) (hdin':din' ∈ recsOf q)
  (hY:∀(w:pK) (h:pN),YP w h->(K w.params).In h) (hno:∀w:pK,KA (K w.params)=tI)
  (F:∀(w:pK) (mg:pJ->Option pD) (fa:pC) (h:pN) (cc T cc' T':pC),(K w.params).In h->h.Ns pq mg->mg d.name=tG (.ref fa)->(∃a o fd,mg din.name=tG (.ref a)/\h.get? a=tG o/\o.data=.func fd/\fd.code=.ref cc)->pq≠T->(∃a o fd,mg din'.name=tG (.ref a)/\h.get? a=tG o/\o.data=.func fd/\fd.code=.ref cc')->pq≠T' ->
   ∃fd:pG,(∀(s:pE) (u:pD),sJ s fd #[[u],[]] [(x,u)]) /\
    ∀base:pN,(K w.params).In base->base.Ns pq mg->base.BuiltinsAt mg T->PySem.W.CodeHd base cc T->base.BuiltinsAt mg T'->PySem.W.CodeHd base cc' T'->FnOk l.prog w (K w.params) mg base (CX w) k fa fd [x] (sp w T T'))
  (hsp:∀(w:pK) (H:Hp) (a:pC) (ns:List Int) (T T':pC),ns.length<=n->(∀z ∈ ns,qY z)->H T=tG (.tbl #[])->H T'=tG (.tbl #[])->SqL (K w.params) H a (ns.map V.int)->sp w T T' [.ref a] H (λv _=>v=.bl tI) λ_ _ _=>False)
  (hCX:∀(w:pK) (H:Hp) (s:pE) (e:pD) (s':pE),CX w [] H s (λ_ _ _=>False) e s'->False) :
  PySem.W.WalkO q loose XP YP l.row.toRowW d [] (λf vs=>gr f vs):=by
 refine Zh hn hdf λw s₀ s₁ mg mb fa o pm cd doc a vs ns G Y ho hd hcd hmg hobj hints hlen hb' hg=>?_;have X0:=hY w _ Y;obtain⟨ai,oi,fdi,cc,T,m1,m2,m3,m4,m5,m6⟩:=G.T.tab din hdin;obtain⟨ai',oi',fdi',cc',T',m1',m2',m3',m4',m5',m6'⟩:=G.T.tab din' hdin';have hcd1:PySem.W.CodeHd s₁.heap cc T:=PySem.W.CodeHd.of m5 m6;have hcd2:PySem.W.CodeHd s₁.heap cc' T':=PySem.W.CodeHd.of m5' m6';have hTo:s₁.heap.get? T=tG JN:=m6.2;have hTo':s₁.heap.get? T'=tG JN:=m6'.2
 have hgT:∀T0,s₁.heap.get? T0=tG JN->pq≠T0:=λT0 h0 z=>by
  obtain⟨o,es,ep,e,hd',_⟩:=G.T.g;rw[z,h0]at e;cases e;cases hd'
 have hbm:∀T0,s₁.heap.get? T0=tG JN->s₁.heap.BuiltinsAt mg T0:=λT0 h0=>by
  obtain⟨bm,ob,b1,b2,b3,b4,b5,b6⟩:=G.T.bmain;refine#[bm,ob,b1,b2,λz=>?_,λz=>?_,b3,b4,b5,b6]
  ·obtain⟨o,es,ep,e,hd',_⟩:=G.T.g;rw[z,e]at b3;cases b3;rw[hd']at b6;cases b6
  ·rw[z,h0]at b3;cases b3;cases b4
 obtain⟨fd,hbd,hF⟩:=F w mg fa _ cc T cc' T' X0 G.T.g hmg #[ai,oi,fdi,m1,m2,m3,m4] (hgT _ hTo) #[ai',oi',fdi',m1',m2',m3',m4'] (hgT _ hTo');exact WE (T:=T) (T':=T') X0 (X7 (hno w) X0 hTo) (X7 (hno w) X0 hTo') hTo m6.isCodeTable hTo' m6'.isCodeTable G.T.g G.T.b G.T.builtins G.T.nolimit hg hobj hints (aP hlen hn2) hr (hbm _ hTo) hcd1 (hbm _ hTo') hcd2 hF hbd (λH e s'=>hCX w H s₁ e s') λH h1 h1' h2=>hsp w H a ns T T' hlen hb' h1 h1' h2
structure VY(p:pJ)(ys:List pJ)(scope:rf):Prop where
 kind:scope.kind=.function
 co:scope.isCoroutine=tJ
 gen:scope.isGenerator=tJ
 nocell:∀z ∈ scope.names,z.2≠.cell
 par:scope.names.lookup p=tG .local
 fre:∀y ∈ ys,scope.names.lookup y=tG .free
 one:∀q ∈ scope.names,q.2=.free->q.1 ∈ ys
structure KR(X:Cx)(ys:List pJ)(ixs:())(cl:List (pJ × pC)):Prop where
 len:ixs.length=ys.length
 at_:∀(j:Nat) (y:pJ),ys[j]? = tG y->∃(i:Nat) (c:pC),ixs[j]? = tG i/\X.N[i]? = tG y/\X.env.scope.names.lookup y=tG .cell/\X.env.cells.lookup y=tG c/\cl.lookup y=tG c
 mem:∀z d,cl.lookup z=tG d->z ∈ ys
noncomputable def Qa(σ:L2.St)(ixs:()):L2.St:=ixs.map λi=>(σ[i]?).getD tH
def zcj(σ:L2.St)(ixs:()):Prop:=∀i ∈ ixs,∃v,σ[i]? = tG (tG v)
section
variable{X:Cx}{tK:List (pC × rb)}{σ:L2.St}{H:Hp}{s:pE}{p name qual:pJ}{ys:List pJ}{ixs:()}{cl:List (pJ × pC)}{scope:rf}{params:rA}{body:pM}{f:pC}{pm ctv cv:pD}{k:Nat}{x:V}{u:pD}{Q:VK}{t:TE}
theorem QL(S:VY p ys scope)(hd:X.A.in1.in1.handled=tH)(I:Inv X tK σ H s)(hcap:KR X ys ixs cl)(hσ:zcj σ ixs)(rx:RelV x u){h₁:pN}{tk:Nat}
  (hns:h₁.Ns s⁻¹ (λz=>[(p,u)].reverse.lookup z)) (hk₁:∀b o,s.heap.get? b=tG o->h₁.get? b=tG o) :
  Inv (jd X (p::ys) s H qual scope f cv cl) [] (tG x::Qa σ ixs) H { s with heap:=h₁,toks:=tk }:=by
 obtain⟨m,hn,hl⟩:=I.loc
 have key:∀(j:Nat) (y:pJ),ys[j]? = tG y->∃c uy vy,X.env.cells.lookup y=tG c/\cl.lookup y=tG c/\(Qa σ ixs)[j]? = tG (tG vy)/\RelV vy uy/\h₁.IsCell c (tG uy):=λj y hj=>by
  obtain⟨i,c,h1,h2,h3,h4,h5⟩:=hcap.at_ j y hj;obtain⟨vy,hv⟩:=hσ i (ae h1);obtain⟨uy,ry,lk⟩:=hl i y vy h2 hv (.inr (.inl h3))
  have hcell:s.heap.IsCell c (tG uy):=by
   rcases lk with ⟨z,_⟩ | ⟨_,c2,e2,z⟩
   ·have z':X.env.scope.names.lookup y=tG .local:=z;rw[h3]at z';cases z'
   ·rw[h4]at e2;cases e2;exact z
  refine#[c,uy,vy,h4,h5,?_,ry,?_]
  ·unfold Qa;rw[az,h1];simp [hv]
  ·obtain⟨o,e,d⟩:=hcell;exact#[o,hk₁ _ _ e,d]
 have lkc:∀z d,cl.lookup z=tG d->X.env.cells.lookup z=tG d/\∃uy,h₁.IsCell d (tG uy):=λz d h=>by
  obtain⟨j,hj⟩:=Ab.mp (hcap.mem z d h);obtain⟨c,uy,vy,g1,g2,_,_,g5⟩:=key j z hj;rw[h]at g2;cases g2;exact#[g1,uy,g5]
 have e0:=I.env0;have noA:∀b:pC,b ∉ (jd X (p::ys) s H qual scope f cv cl).ex:=λb z=>absurd (show b ∈ ([]:List pC)from z) (by simp)
 refine#[#[e0.mod,S.kind,rfl,rfl,al _,λz z' d h1 h2=>?_,λz hz=>?_,λz d h _=>?_,λ_=>hd,Around.frames_deeper e0.frames,.inr #[rfl,rfl],λb z=>absurd z (noA b),e0.bs,e0.bsz,λb _ _=>noA b,λb z=>absurd z (noA b),e0.funs,e0.frf],
  rfl,e0.bare,Un.kept hk₁,#[_,hns,λi z v h1 h2 h3=>?_],λz d h=>?_,e0.hok.fresh (al _),λz d h=>?_,λq hq=>absurd (show q ∈ ([]:List (pC × rb))from hq) (by simp),e0.hok.kept hk₁,?_]
 ·exact I.ok.inj z z' d (lkc z d h1).1 (lkc z' d h2).1
 ·have hz':scope.names.lookup z=tG .cell\/scope.names.lookup z=tG .free:=hz;rcases hz' with hz' | hz'
  ·exact absurd rfl (S.nocell _ (bG hz'))
  ·obtain⟨j,hj⟩:=Ab.mp (S.one _ (bG hz') rfl);obtain⟨c,_,_,_,g2,_⟩:=key j z hj;exact#[c,g2]
 ·exact absurd (show (tJ:Bool)=tI from h) ∅
 ·match i,h1,h2 with
  | 0,h1,h2 =>
   cases h1;cases h2;refine#[u,rx,.inl #[S.par,?_]];show bh p [(p,u)].reverse=tG u;simp [bh]
  | i+1,h1,h2 =>
   have h1':ys[i]? = tG z:=h1;obtain⟨c,uy,vy,_,g2,g3,g4,g5⟩:=key i z h1';have h2':(Qa σ ixs)[i]? = tG (tG v):=h2;rw[g3]at h2';cases h2';exact#[uy,g4,.inr #[.inr (S.fre z (ae h1')),c,g2,g5]]
 ·obtain⟨_,uy,g⟩:=lkc z d h;exact#[_,g]
 ·exact I.freeC z _ (lkc z d h).1
 ·show (Qa σ ixs).length+1=ys.length+1;unfold Qa;rw[aa,hcap.len]
theorem UM(S:VY p ys scope)(hr:Room (k+3) X.A)(hbind:bindArgs (bo name qual params body scope cl pm cv ctv) #[[u],[]]=pure [(p,u)])(I:Inv X tK σ H s)
  (ho:s.heap.get? f=tG { cls:=.type "function",data:=.func (bo name qual params body scope cl pm cv ctv) }) (hcd:s.heap.CodeRec cv qual) (hcap:KR X ys ixs cl) (hσ:zcj σ ixs)
  (rx:RelV x u) (hb:PE (jd X (p::ys) s H qual scope f cv cl) body t) (h:t (tG x::Qa σ ixs) H Q) :
  pF (model X.prog X.w) X.A.in1.in1 (call (.ref f) [u]) (EP X tK σ Q) (λ_ _=>False) s:=by
 have hr2:Room (k+1) X.A.in1.in1:=hr.in1.in1;refine rE (fN hr2.depth ho rfl S.co S.gen rfl hcd ?_);rw[hbind];refine pj (rT S.nocell (λz hz=>?_) (λh₁ hns hsb=>?_) S.kind)
 ·have e:z=(p,u):=by simpa using hz
  subst e;exact S.par
 have hk₁:∀b o,s.heap.get? b=tG o->h₁.get? b=tG o:=λb o e=>hsb.extBut b o (ax (au e)) (ac _ e);refine#[I.nolimit.keeps hk₁,?_];have I1:=QL (qual:=qual) (f:=f) (cv:=cv) (tk:=s.toks+1) S hr2.hd I hcap hσ rx hns hk₁;show rG _ _ (.expr body (d6 qual scope s⁻¹ f cv cl)) _ _;refine fO (rD (hb [] _ _ H Q I1 h) (λv s' hv=>?_) λ_ _ z=>False.elim z);obtain⟨w',H',J,rw',q⟩:=hv;exact I.after #[w',H',J.os,J.bare,J.base,J.hok,rw',q]
end
section
variable{X:Cx}{tK:List (pC × rb)}{σ:L2.St}{H:Hp}{s:pE}{cc P:pC}{cl:List (pJ × pC)}{params:rA}{body:pM}{scope:rf}{pos:rj}{Q:VK}
theorem Uo(hcode:X.env.code=.ref cc)(hC:PySem.W.CodeHd X.base cc P)(hB:X.base.BuiltinsAt X.mg P)(hgP:pq≠P)(hcl:closureFor scope X.env=pure cl)(hdef:defaultsOf params X.env=([],[]))(I:Inv X tK σ H s)
  (hT:TabOk H P pos (X.env.qual ++ "<lambda>"))
  (h:∀f H',H f=tH->LamAt H' f "<lambda>" (X.env.qual ++ "<lambda>") params body scope cl->TabOk H' P pos (X.env.qual ++ "<lambda>")->SamT P H H'->zbf P pos H H'->Q (.ref f) H') :
  pF (model X.prog X.w) X.A (eval (.Lambda params body scope pos) X.env) (EP X tK σ Q) X.xe s:=by
 refine gk hdef ?_;obtain⟨ps,hP,ht,hh⟩:=hT;have hPo:s.heap.get? P=tG (PySem.W.tabObj ps):=I.hok _ _ hP;have hg:=I.mod.glob.keeps I.bk;have Pl:P<s⁻¹:=I.hok.lt hP;rcases hh with hn | ⟨c',hit,hc'⟩
 ·refine eX (mg:=X.mg) hcl I.ok.glob hg hcode (hC.keeps I.bk) hPo ht hn hgP (vE hB I.bk) λc' ctv h' tk hx hge hlt hrec htb=>?_;have hsz:s⁻¹<=h'.objs.size:=cY (cf hge hlt)
  have I1:=Inv.grow (P:=P) (c':=c') (f:=h'.objs.size) (more:=(List.toArray [rawInt pos.line,rawInt pos.col,.ref c'])) (tk:=tk) (o:={ cls:=.type "function",data:=.func (bo "<lambda>" (X.env.qual ++ "<lambda>") params body scope cl ((X.mg "__name__").getD .none) (.ref c') ctv) }) I hP
   (λb u hb e=>ac _ (hx b u hb e)) (ac _ htb) hge hsz (ax hlt) (hrec.push _) (aC _ rfl)
  have hPc:P≠c':=ax (aw Pl hge);have hPf:P≠h'.objs.size:=ax (aw Pl hsz)
  have atc:(upd (upd (upd H P (.tbl (ps ++ (List.toArray [rawInt pos.line,rawInt pos.col,.ref c'])))) c' (cdE c' (X.env.qual ++ "<lambda>"))) h'.objs.size (fnE h'.objs.size { cls:=.type "function",data:=.func (bo "<lambda>" (X.env.qual ++ "<lambda>") params body scope cl ((X.mg "__name__").getD .none) (.ref c') ctv) })) c'=tG (cdE c' (X.env.qual ++ "<lambda>")):=by
   rw[zk (ax hlt),zc]
  refine#[.ref h'.objs.size,_,I1,rfl,h _ _ (I.hok.fresh hsz) #[c',_,ctv,atc,zc] #[ps ++ (List.toArray [rawInt pos.line,rawInt pos.col,.ref c']),?_,?_,.inr #[c',?_,atc]] (λb o hb e=>?_) λpos' q' hl' ht'=>?_]
  ·rw[zk hPf,zk hPc,zc]
  ·rw[cy];exact xD _ ht
  ·rw[cy];exact codeAmong_snoc _ ht hn
  ·have hl:=I.hok.lt e;rw[zk (ax (aw hl hsz)),zk (ax (aw hl hge)),zk hb];exact e
  ·obtain⟨ps',hP2,ht2,hh2⟩:=ht';rw[hP]at hP2;cases hP2;refine#[ps ++ (List.toArray [rawInt pos.line,rawInt pos.col,.ref c']),?_,?_,?_]
   ·rw[zk hPf,zk hPc,zc]
   ·rw[cy];exact xD _ ht
   ·rw[cy];show codeAmong pos' (ps.toList ++ [rawInt pos.line,rawInt pos.col,.ref c'])=tH\/∃c_1,codeAmong pos' (ps.toList ++ [rawInt pos.line,rawInt pos.col,.ref c'])=tG (.ref c_1)/\_;rw[j7 _ ht hl'];rcases hh2 with q | ⟨c2,q,e2⟩
    ·exact .inl q
    ·refine .inr #[c2,q,?_];have hl:=I.hok.lt e2;rw[zk (ax (aw hl hsz)),zk (ax (aw hl hge)),zk (λz=>by rw[z,hP]at e2;cases e2)];exact e2
 ·refine eE (mg:=X.mg) hcl I.ok.glob hg hcode (hC.keeps I.bk) hPo ht hit (vE hB I.bk) λctv h' tk hk hsz=>?_;have hfr:H h'.objs.size=tH:=I.hok.fresh hsz
  have I1:=I.laid (a:=h'.objs.size) (t':=tk) (h':=h'.push { cls:=.type "function",data:=.func (bo "<lambda>" (X.env.qual ++ "<lambda>") params body scope cl ((X.mg "__name__").getD .none) (.ref c') ctv) })
   (o:=fnE h'.objs.size { cls:=.type "function",data:=.func (bo "<lambda>" (X.env.qual ++ "<lambda>") params body scope cl ((X.mg "__name__").getD .none) (.ref c') ctv) })
   (λb u e=>ac _ (hk b u e)) hsz (VQ (aC _ rfl))
  have sm:=zd (o:=fnE h'.objs.size { cls:=.type "function",data:=.func (bo "<lambda>" (X.env.qual ++ "<lambda>") params body scope cl ((X.mg "__name__").getD .none) (.ref c') ctv) }) hfr;exact#[.ref h'.objs.size,_,I1,rfl,h _ _ hfr #[c',_,ctv,sm _ _ hc',zc] #[ps,sm _ _ hP,ht,.inr #[c',hit,sm _ _ hc']] (λb o _ e=>sm _ _ e) λpos' q' _ ht'=>ht'.same' sm]
end
def Vx{α:Type}(K:pB)(F:KeyFam α)(P:pC)(pos:rj)(q:pJ)(LA:Hp->pC->Prop)(ixs:())(te tb:TE):TE:=λσ H Q=>te σ H λv H1=>TabOk H1 P pos q /\
 ∀f H2,H1 f=tH->LA H2 f->TabOk H2 P pos q->SamT P H1 H2->zbf P pos H1 H2->∃l xs,v=.ref l/\SqL K H2 l xs/\xs.length<64/\zcj σ ixs/\wk (λx H Q=>LA H f/\tb (tG x::Qa σ ixs) H Q) xs [] H2 (jI K F xs Q)
section
variable{X:Cx}{cc P:pC}{x p:pJ}{ys:List pJ}{ixs:()}{cl:List (pJ × pC)}{params:rA}{body e:pM}{scope:rf}{lpos kpos pos pp:rj}{k:Nat}{te tb:TE}
theorem zaQ(hcode:X.env.code=.ref cc)(hC:PySem.W.CodeHd X.base cc P)(hB:X.base.BuiltinsAt X.mg P)(hgP:pq≠P)(hcl:closureFor scope X.env=pure cl)(hdef:defaultsOf params X.env=([],[])) :
  PE X (.Lambda params body scope lpos) (zb9 P lpos (X.env.qual ++ "<lambda>") λH f=>LamAt H f "<lambda>" (X.env.qual ++ "<lambda>") params body scope cl):=by
 intro tK s σ H Q I h;exact Uo hcode hC hB hgP hcl hdef I h.1 h.2
theorem WU{α:Type}{F:KeyFam α}(FO:F.Ok)(S:VY p ys scope)(hr:Room (k+3) X.A)(hg:Gl X x)(hm:X.mg x=tH)(hv:ra x=tG (.builtin "sorted"))(ha:PA X [e] (zH te xF))
  (hcode:X.env.code=.ref cc) (hC:PySem.W.CodeHd X.base cc P) (hB:X.base.BuiltinsAt X.mg P) (hgP:pq≠P) (hcl:closureFor scope X.env=pure cl) (hdef:defaultsOf params X.env=([],[]))
  (hbind:∀(cv pm ctv u:pD),bindArgs (bo "<lambda>" (X.env.qual ++ "<lambda>") params body scope cl pm cv ctv) #[[u],[]]=pure [(p,u)]) (hcap:KR X ys ixs cl)
  (hb:∀(s:pE) (H:Hp) (f:pC) (cv:pD),Room k (jd X (p::ys) s H (X.env.qual ++ "<lambda>") scope f cv cl).A->PE (jd X (p::ys) s H (X.env.qual ++ "<lambda>") scope f cv cl) body tb)
  (hn:x≠"__name__":=by decide) (hdb:(x ==("__debug__" : pJ))=tJ:=by decide)
  (hks:(pZ pos (pO [#[tG "key",.Lambda params body scope lpos,kpos]] X.env)).filterMap (·.1)=[bJ "key"]:=by rfl)
  (hst:pS pos (pz [e] X.env)=(tJ,eval e X.env)::pS pos (pz [] X.env):=by rfl) (hpl:(pS pos (pz [e] X.env)).any (·.1)=tJ:=by rfl)
  (hall:(pZ pos (pO [#[tG "key",.Lambda params body scope lpos,kpos]] X.env)).all (·.1.isSome)=tI:=by rfl) (hkw:(pZ pos (pO [#[tG "key",.Lambda params body scope lpos,kpos]] X.env)).any (·.1.isNone)=tJ:=by rfl) :
  PE X (.Call (.Name x pp) [e] [#[tG "key",.Lambda params body scope lpos,kpos]] pos) (Vx X.K F P lpos (X.env.qual ++ "<lambda>") (λH f=>LamAt H f "<lambda>" (X.env.qual ++ "<lambda>") params body scope cl) ixs te tb):=by
 intro tK s σ H Q I h;have hlam:PE X (.Lambda params body scope lpos) (zb9 P lpos (X.env.qual ++ "<lambda>") λH f=>LamAt H f "<lambda>" (X.env.qual ++ "<lambda>") params body scope cl):=zaQ hcode hC hB hgP hcl hdef;refine pV (wm I hg hm hv ?_ hn hdb)
 have h':(zH te xF) σ H (zbQ λv H1=>TabOk H1 P lpos (X.env.qual ++ "<lambda>")/\∀f H2,H1 f=tH->LamAt H2 f "<lambda>" (X.env.qual ++ "<lambda>") params body scope cl->TabOk H2 P lpos (X.env.qual ++ "<lambda>")->SamT P H1 H2->zbf P lpos H1 H2 ->
   ∃l xs,v=.ref l/\SqL X.K H2 l xs/\xs.length<64/\zcj σ ixs/\wk (λx H Q=>LamAt H f "<lambda>" (X.env.qual ++ "<lambda>") params body scope cl/\tb (tG x::Qa σ ixs) H Q) xs [] H2 (jI X.K F xs Q)):=h
 refine callWith_kw (thn (ha pos tK s σ H _ I h') λus s1 ⟨vs,H1,I1,r1,q1⟩=>?_) hst hpl hall hkw;obtain⟨v,rfl,hT,q1⟩:=kd q1;obtain⟨u,rfl,ru⟩:=xz r1
 refine thn ((Yc hlam W3:PK X [#[tG "key",.Lambda params body scope lpos,kpos]] _) pos tK s1 σ H1 (zbQ λkv H2=>∃f,kv=.ref f/\LamAt H2 f "<lambda>" (X.env.qual ++ "<lambda>") params body scope cl /\
   ∃l xs,v=.ref l/\SqL X.K H2 l xs/\xs.length<64/\zcj σ ixs/\wk (λx H Q=>LamAt H f "<lambda>" (X.env.qual ++ "<lambda>") params body scope cl/\tb (tG x::Qa σ ixs) H Q) xs [] H2 (jI X.K F xs Q)) I1 #[hT,λf H2 a1 a2 a3 a4 a5=>#[f,rfl,a2,q1 f H2 a1 a2 a3 a4 a5]]) λws s2 ⟨zs,H2,I2,r2,q2⟩=>?_
 obtain⟨kv,rfl,f,rfl,hLA,l,xs,rfl,hS,hz,hσ,hk⟩:=kd q2;obtain⟨w',rfl,rw'⟩:=xz r2;cases rw';cases ru;rw[hks];show pF _ _ (call (.builtin "sorted") [.ref l] [(bJ "key",.ref f)]) _ _ _;refine Zv FO (k:=k+1) hr (λpins' s3 H3 x3 u3 Q3 I3 r3 h3=>?_) I2 hS hz hk;obtain⟨⟨c',pm,ctv,e1,e2⟩,h4⟩:=h3;have hcd:s3.heap.CodeRec (.ref c') (X.env.qual ++ "<lambda>"):=(I3.hok _ _ e1).1;have ho:=(I3.hok _ _ e2).1;exact UM (k:=k) S hr (hbind _ _ _ _) I3 ho hcd hcap hσ r3 (hb s3 H3 f (.ref c') (hr.in1.in1.deeper _)) h4
end
end L3
namespace PySem
namespace F
end F
section
variable{prog:pH}{w:pK}{A:pL}{E:pD->pE->Prop}{s:pE}
def Heap.IsRevS(h:pN)(a:pC)(x:pJ)(t:si)(i:Int):Prop:=∃o,h.get? a=tG o/\o.cls=.type "reversed"/\o.data=.fields (List.toArray [.str x t,rawInt i])
theorem Heap.IsRevS.typeIs{a:pC}{x:pJ}{t:si}{i:Int}(z:s.heap.IsRevS a x t i):s.TypeIs (.ref a) "reversed":=let #[o,ho,hc,_]:=z; #[o,ho,hc]
theorem Heap.IsRevS.at{h h':pN}{a:pC}{x:pJ}{t:si}{i:Int}(z:h.IsRevS a x t i)(e:∀o,h.get? a=tG o->h'.get? a=tG o):h'.IsRevS a x t i:=let #[o,ho,r]:=z; #[o,e _ ho,r]
end
end PySem
namespace L3
section
variable{X:Cx}{o a:pM}{to:TE}{ta:TA}{apos cpos p pos2:rj}
end
end L3
namespace L2
section
variable{X:Cx}{tg:pM}
end
end L2
namespace L3
open PySem L2
section
variable{g:TG}{tt:TT}{te:TE}{own:Nat}{ix:()}{σ:L2.St}{H1:Hp}{Q:VK}{D:pC}
end
end L3
namespace L3
open PySem.AutoSeq1 (wpAny_loadPart')
open MeetsSeq MeetsSeq2 MeetsSeq3 SeqRoads2 SeqAt
section
variable{X:Cx}{tK:List (pC × rb)}{σ:St}{H:Hp}{s:pE}
end
end L3
namespace L3
section
variable{prog:pH}{w:pK}{A:pL}{R:sH->pE->Prop}{I:pC}{fp wr:List pC}{G:Array sY->Array sY->Prop}{n:Nat}{P:Nat->pD->Prop}{St:Nat->pE->Prop}
end
section
variable{prog:pH}{w:pK}{A:pL}{E:pD->pE->Prop}{s:pE}
end
section
variable{X:Cx}
end
section
variable{g:TG}{tt:TT}{te:TE}{own:Nat}{ix:()}{σ:L2.St}{H1:Hp}{Q:VK}{D:pC}
end
theorem XQ{α:Type}[DecidableEq α](k:α)(v:pD)(x:α):∀kvs:List (α × pD),(kvs.map λkv=>if kv.1=k then (kv.1,v)else kv).find? (λkv=>kv.1=x)=(kvs.find? λkv=>kv.1=x).map λkv=>if kv.1=k then (kv.1,v)else kv
 | []=>rfl
 | p::kvs=>by
  have e:(if p.1=k then (p.1,v)else p).1=p.1:=by split <;> rfl
  rw[ar,List.find?_cons,List.find?_cons,XQ k v x kvs]
  erw[e]
  by_cases h:p.1=x
  ·simp [h]
  ·simp [h]
theorem WI{α:Type}[DecidableEq α](kvs:List (α × pD))(k:α)(v:pD)(x:α):valueAt (stored kvs k v) x=if x=k then tG v else valueAt kvs x:=by
 unfold stored valueAt;split
 ·rename_i h;rw[XQ];by_cases e:x=k
  ·subst e;rw[if_pos rfl];obtain⟨p,hp,hk⟩:=Al.mp h
   cases hf:kvs.find? λkv=>kv.1=x with
   | none =>
    have:=Am.mp hf p hp;exact absurd hk this
   | some q =>
    have hq:=dv hf;have hq':q.1=x:=by simpa using hq
    simp [hq']
  ·rw[if_neg e]
   cases hf:kvs.find? λkv=>kv.1=x with
   | none=>rfl
   | some q =>
    have hq:=dv hf;have hq':q.1=x:=by simpa using hq
    have:¬ q.1=k:=λz=>e (hq'.symm.trans z);simp [this]
 ·rename_i h;rw[List.find?_append];by_cases e:x=k
  ·subst e;rw[if_pos rfl]
   have:kvs.find? (λkv=>kv.1=x)=tH:=by
    rw[List.find?_eq_none];intro p hp hk;exact h (Al.mpr #[p,hp,hk])
   rw[this];simp
  ·have e':¬ k=x:=λz=>e z.symm;rw[if_neg e];simp [e']
section
variable{X:Cx}{pos:rj}
end
noncomputable def qZ(P:pH)(w:pK)(a:pC)(m:pJ->Option V)(n:Nat):HO:=.ext λh=>(a == sysModules)=tJ/\∃kvs:List (pJ × pD),h.DictOf (dg P w) a kvs/\kvs.length<=n/\∀k,RelO (m k) (valueAt kvs k)
theorem Vl{P:pH}{w:pK}{H:Hp}{h:pN}{a:pC}{m:pJ->Option V}{n:Nat}{kvs:List (pJ × pD)}(hs:(a == sysModules)=tJ)(d:h.DictOf (dg P w) a kvs)(hl:kvs.length<=n)(r:∀k,RelO (m k) (valueAt kvs k)):ObjOk P w H h a (qZ P w a m n) :=
 #[#[hs,kvs,d,hl,r],(let #[o,es,ep,ho,_]:=d; #[o,ho]),λh1 h2 ⟨hs,kvs,⟨o,es,ep,ho,rest⟩,z⟩ k=>#[hs,kvs,#[o,es,ep,k _ ho,rest],z]]
section
variable{X:Cx}{pos:rj}
theorem Inv.beyond{tK:List (pC × rb)}{σ:L2.St}{H:Hp}{s:pE}(I:Inv X tK σ H s):(s⁻¹ == sysModules)=tJ:=by
 obtain⟨o,es,ep,e,_⟩:=I.ok.mod.glob;have h1:=au e;have h2:=I.ok.bsz;have h3:=I.sz;have h4:1<=pq:=∅;have h5:1<s⁻¹:=aw (cf h4 h1) (aP h2 h3);rw[beq_eq_false_iff_ne];intro z;exact bW h5 z
def zcn(P:pH)(w:pK):TE:=λ_ H Q=>∀p,H p=tH->Q (.ref p) (upd H p (qZ P w p (λ_=>tH) 0))
theorem zaV:PE X (.Dict [] [] pos) (zcn X.prog X.w):=λtK s σ H Q I h =>
 wpAny_Dict_empty #[.ref s⁻¹,_,I.laid (a:=s⁻¹) (t':=s.toks) (λ_ _ q=>ac _ q) (al _) (Vl (m:=λ_=>tH) (Inv.beyond I) (Heap.DictOf.new s.heap) (al _) λ_=>trivial),rfl,h _ (I.hok.fresh (al _))]
theorem Inv.tdic{tK:List (pC × rb)}{σ:L2.St}{H:Hp}{s:pE}{a:pC}{m:pJ->Option V}{n:Nat}(I:Inv X tK σ H s)(h:H a=tG (qZ X.prog X.w a m n)):(a == sysModules)=tJ/\∃kvs:List (pJ × pD),s.heap.DictOf (dg X.prog X.w) a kvs/\kvs.length<=n/\∀k,RelO (m k) (valueAt kvs k):=(I.hok _ _ h).1
def zdF(P:pH)(w:pK):R2:=λx y H Q=>∃a m n k v,x=.ref a/\y=.str k/\H a=tG (qZ P w a m n)/\m k=tG v/\Q v H
theorem KB:IxR X (zdF X.prog X.w):=by
 intro value slice tK s σ H x y v u Q I rx ry h hs;obtain⟨a,m,n,k,z,rfl,rfl,ha,hk,q⟩:=h;cases rx;obtain⟨t,rfl⟩:=ry;obtain⟨_,kvs,dd,hl,r⟩:=Inv.tdic I ha;obtain⟨w',hw,rw'⟩:=RelO.some_of (v:=z) (o:=valueAt kvs k) (by rw[<- hk];exact r k);exact tail_any dd.typeIs slot_dict_getitem.lookup (wpAny_getItem_of (knd:=dg X.prog X.w) (strKind_is _ _ _ _) dd.mapOf hw #[z,H,I.tok _,rw',q]) hs
def zcq(P:pH)(w:pK):V->V->V->Hp->(Hp->Prop)->Prop:=λo i v H Q=>∃a m n k,o=.ref a/\i=.str k/\H a=tG (qZ P w a m n)/\n<=100000/\Q (upd H a (qZ P w a (λx=>if x=k then tG v else m x) (n+1)))
theorem Qp:zeJ X (zcq X.prog X.w):=by
 intro tK s σ H o i v ov iv u Q I ro ri rv h;obtain⟨a,m,n,k,rfl,rfl,ha,hn,q⟩:=h;cases ro;obtain⟨t,rfl⟩:=ri;obtain⟨hsm,kvs,dd,hl,r⟩:=Inv.tdic I ha;have s16:=yb;refine wpAny_setItem_pairs (knd:=dg X.prog X.w) (hsz:=by lia) (strKind_is _ _ _ _) dd λh' dd' hs=>#[_,?_,q];have he:∃q,h'.get? a=tG q:=let #[q,_,_,hq,_]:=dd'; #[q,hq];refine I.write (x:=a) (e:=a) (by rw[ha];exact True.intro) (.inl rfl) (λb q hb z=>(hs.2 b hb).trans z) he (Vl hsm dd' (aP (stored_length_le _ _ _) ⋯) λx=>?_);rw[WI];by_cases e:x=k
 ·rw[if_pos e,if_pos e];exact rv
 ·rw[if_neg e,if_neg e];exact r x
def zb4(P:pH)(w:pK):R2:=λx y H Q=>∃a m n k,x=.str k/\y=.ref a/\H a=tG (qZ P w a m n)/\Q (.bl (m k).isNone) H
theorem Qr:OpR X (pR .NotIn) (zb4 X.prog X.w):=by
 intro tK s σ H x y v u Q I rx ry h;obtain⟨a,m,n,k,rfl,rfl,ha,q⟩:=h;obtain⟨t,rfl⟩:=rx;cases ry;obtain⟨hsm,kvs,dd,hl,r⟩:=Inv.tdic I ha;refine wpAny_notIn_of (knd:=dg X.prog X.w) (strKind_is _ _ _ _) hsm dd.mapOf ?_
 have e:(!(valueAt kvs k).isSome)=(m k).isNone:=by
  have:=r k
  cases hm:m k with
  | none =>
   cases hv:valueAt kvs k with
   | none=>rfl
   | some z=>rw[hm,hv]at this;exact this.elim
  | some z0 =>
   cases hv:valueAt kvs k with
   | none=>rw[hm,hv]at this;exact this.elim
   | some z=>rfl
 rw[e];exact#[.bl _,H,I.tok _,rfl,q]
end
section
variable{X:Cx}{pos:rj}
variable{o e:pM}{es:List pM}{to:TE}{t:TA}{name:pJ}{apos cpos:rj}{id:String}{r:V->List V->Hp->VK->Prop}
end
section
variable{X:Cx}{tg:pM}
end
section
variable{g:TG}{tt:TT}{te:TE}{own:Nat}{ix:()}{σ:L2.St}{H1:Hp}{Q:VK}{D:pC}
end
section
variable{X:Cx}{scope:rf}{own caps:List pJ}{ix:()}{elt tg iter:pM}{ifs:List pM}{pos:rj}{wi:TI}{g:TG}{tt:TT}{te:TE}
theorem uD{EX:XK}(hc:X.calm=tI)(S:jp X scope own caps ix)
  (hg:∀cl C tK s3 H3 fp,PG (yl X scope cl C (own ++ caps) tK s3 H3 fp λ_ _=>False) tg g)
  (ht:∀cl C tK s3 H3 fp xe,XE (yl X scope cl C (own ++ caps) tK s3 H3 fp xe) EX->PTs (yl X scope cl C (own ++ caps) tK s3 H3 fp xe) ifs tt)
  (hst:X.stack=X.env::X.outer/\X.env.frame=tG X.env.locals) (hxe:XE X EX) (he:∀cl C tK s3 H3 fp xe,XE (yl X scope cl C (own ++ caps) tK s3 H3 fp xe) EX->PE (yl X scope cl C (own ++ caps) tK s3 H3 fp xe) elt te)
  {cl:List (pJ × pC)} (hc1:∀y c,cl.lookup y=tG c->X.env.cells.lookup y=tG c) (hc2:∀y,(y,NameKind.free) ∈ scope.names->∃c,cl.lookup y=tG c)
  {tK:List (pC × rb)} {σ:St} {H2:Hp} {s2:pE} {Q:VK} {it:pC} {fp:List pC} {tn:Nat->pN->Prop} {J:It} (I2:Inv X tK σ H2 s2) (T:Q7 X.prog X.w X.K tg J fp it tn) (st2:tn 0 s2.heap) (f2:∀b ∈ fp,wf X tK H2 b)
  (q:∀D,H2 D=tH->∃W:Nat->Nat->List V->Hp->Prop,(∃m,W 0 m [] (upd H2 D (.lst []))) /\
   ∀i m tM H',W i m tM H'->(J.stop i H'/\Q (.ref D) H')\/(J.go i H'/\∀x H2,J.yld i H' x H2->g x (vp σ own.length ix) H2 λσ3 H3=>xp (vp σ own.length ix) σ3/\tt σ3 H3 λb H4=>if b=tI then
    te σ3 H4 λv H5=>H5 D=tG (.lst tM)/\tM.length<pA/\∃m',m'<m/\W (i+1) m' (tM ++ [v]) (upd H5 D (.lst (tM ++ [v])))
    else ∃m',m'<m/\W (i+1) m' tM H4))
  {RR:pD->pC->sH->pE->Prop} {E:pD->pE->Prop}
  (hRR:∀D C m s' H',H2 D=tH->s'.heap.Ns C m->wf X tK H' C->Inv X tK σ H' s'->Q (.ref D) H'->RR (.ref D) C (.ok .next) s')
  (hRE:∀D C m s' x,s'.heap.Ns C m->(∀h',Heap.SameBut C s'.heap h'->∀cenv:sx,cenv.locals=C->pF (model X.prog X.w) X.A (fZ "comprehension.variables-let-go" x cenv:tu pD) (λ_ _=>False) X.xe { s' with heap:=h' })->RR (.ref D) C (.error x) s') :
  pF (model X.prog X.w) X.A (newList []) (λtM s3=>pF (model X.prog X.w) X.A (newFunctionEnv scope X.env.globals cl [] X.env.qual tH .none (tG X.env)) (λcenv s4 =>
   rG (model X.prog X.w) X.A (.compStart (.ListComp elt [#[tg,iter,ifs,0]] scope pos) 0 (.ref it) tM { cenv with scope:=relabel scope X.env }) (RR tM cenv.locals) s4) E s3) E s2:=by
 have hD:H2 s2⁻¹=tH:=I2.hok.fresh (al _);obtain⟨W,⟨m0,w0⟩,turn⟩:=q _ hD;refine sP (rT S.nocell (by intro y hy;simp at hy) (λh1 hns1 hsb1=>?_) S.kind);dsimp only at hns1 hsb1 ⊢
 have I3:Inv X tK σ (upd H2 s2⁻¹ (.lst [])) { s2 with heap:=s2.heap.push { cls:=.type "list",dict:=tH,data:=.seq ([]:List pD).toArray } } :=
  I2.lnew (its:=[]) (t':=s2.toks) .nil (aG _)
 generalize hs3:({ s2 with heap:=s2.heap.push { cls:=.type "list",dict:=tH,data:=.seq ([]:List pD).toArray } }:pE)=s3 at I3;have e3:s2.heap.push { cls:=.type "list",dict:=tH,data:=.seq ([]:List pD).toArray }=s3.heap:=by rw[<- hs3]
 rw[e3]at hns1 hsb1 ⊢;have k1:∀b o,s3.heap.get? b=tG o->h1.get? b=tG o:=λb o e=>(hsb1.2 b (ax (au e))).trans (ac _ e);have k23:∀b o,s2.heap.get? b=tG o->s3.heap.get? b=tG o:=λb o e=>by rw[<- e3];exact ac _ e
 have hz:s3⁻¹=s2⁻¹+1:=by rw[<- e3,bV]
 have fpObj:∀b ∈ fp,∃o,s2.heap.get? b=tG o:=λb hb=>let #[o,e,_]:=T.obj 0 _ st2 b hb; #[o,e];have fplt:∀b ∈ fp,b<s2⁻¹:=λb hb=>let #[o,e]:=fpObj b hb;au e;have f3:∀b ∈ fp,wf X tK (upd H2 s2⁻¹ (.lst [])) b:=λb hb=>#[by rw[zk (ax (fplt b hb))];exact (f2 b hb).1,(f2 b hb).2]
 have I4:Inv (yl X scope cl s3⁻¹ (own ++ caps) tK s3 (upd H2 s2⁻¹ (.lst [])) fp λ_ _=>False) [] (vp σ own.length ix) (upd H2 s2⁻¹ (.lst [])) { s3 with heap:=h1,toks:=s3.toks+([]:List (pJ × pD)).length } :=
  Wc S hc1 hc2 I3 f3 (λb hb=>by rw[hz];exact cX (fplt b hb)) hns1 k1
 have st4:tn 0 h1:=T.keep 0 _ _ st2 λb hb o e=>k1 b o (k23 b o e);generalize hs4:({ s3 with heap:=h1,toks:=s3.toks+([]:List (pJ × pD)).length }:pE)=s4 at I4;have es4:({ s2 with heap:=h1,toks:=s2.toks+([]:List (pJ × pD)).length }:pE)=s4:=by rw[<- hs4,<- hs3]
 have e4:h1=s4.heap:=by rw[<- hs4]
 have loop:rG (model X.prog X.w) X.A (.compLoop (.ListComp elt [#[tg,iter,ifs,0]] scope pos) 0 (.ref it) (.ref s2⁻¹) (compEnvC scope cl s3⁻¹ X.env)) (RR (.ref s2⁻¹) s3⁻¹) s4:=by
  let X':=yl X scope cl s3⁻¹ (own ++ caps) tK s3 (upd H2 s2⁻¹ (.lst [])) fp λ_ _=>False
  have fp':∀{H':Hp},(∀b ∈ fp,H' b=tH)->∀b ∈ fp,wf X' [] H' b:=λ{H'} hn b hb=>by
   obtain⟨_,a1,a2,a3,a4,a5⟩:=f3 b hb;refine#[hn b hb,ax (show b<s3⁻¹ from by rw[hz];exact cX (fplt b hb)),λz=>?_,.inl hb,λx c e=>a4 x c (hc1 x c e),λp hp=>?_]
   ·rcases tP.mp (I3.stkSub b z)with e | e
    ·exact a1 e
    ·exact a2 e
   ·have:p ∈ (X.pn ++ tK) ++ []:=hp;rw[aE]at this;exact a5 p this
  refine Vt (λn s'=>∃i tM H',Inv X' [] (vp σ own.length ix) H' s'/\tn i s'.heap/\(∀b ∈ fp,H' b=tH)/\W i n tM H') rfl ?_ m0 #[0,[],_,I4,by rw[<- e4];exact st4,λb hb=>(f3 b hb).1,w0];rintro n s5 ⟨i,tM,H5,I5,st5,fr5,w5⟩;refine rq ?_;rcases turn i n tM H5 w5 with ⟨stop,qn⟩ | ⟨go,step⟩
  ·refine thn (T.done X' rfl rfl rfl hc i [] s5 _ H5 _ I5 (fp' fr5) st5 stop) λr s6 ⟨hr,I6⟩=>?_;subst hr;obtain⟨m,hm,_⟩:=I6.loc;refine hRR _ _ m s6 H5 hD hm (I3.fpOk (al _) I6.free) (I3.call' (s':=s6) I6.os I6.base I6.hok I6.bare λb hb=>?_) qn;obtain⟨_,a1,a2,a3,a4,a5⟩:=f3 b hb;exact#[a3,a1,a4,a5]
  ·refine thn (T.item X' rfl rfl rfl hc i [] s5 _ H5 (λ_ _=>False) I5 (fp' fr5) st5 go) λr s6 ⟨u,hr,h6⟩=>?_;subst hr;refine rq (thn h6 λ_ s7 ⟨x,H7,I7,r7,y7,st7,fr7⟩=>?_);have I7':=I7.pinned (fp' fr7) (T.obj _ _ st7);refine rq (thn (hg _ _ _ _ _ _ _ s7 _ H7 x u _ I7' r7 (step x H7 y7)) λ_ s8 ⟨σ8,H8,I8,ks,q8⟩=>?_);refine thn (ht cl _ tK s3 (upd H2 s2⁻¹ (.lst [])) fp _ (λe s hfl=>Uj (RE:=λe s'=>RR (.ref s2⁻¹) s3⁻¹ (.error e) s') hst hxe hc1 I3 f3 hfl λm s' x a b=>hRE _ _ m s' x a b) _ s8 σ8 H8 _ (I8.wish _) q8) λb s9 ⟨H9,I9',q9⟩=>?_;have I9:=Inv.unwish (X:=X') I9'
   have back:∀{s':pE} {H':Hp} {acc':List V} {m':Nat},Inv X' ([] ++ ZT fp s7.heap) σ8 H' s'->m'<n->W (i+1) m' acc' H'->∃m,m<n/\∃i tM H',Inv X' [] (vp σ own.length ix) H' s'/\tn i s'.heap/\(∀b ∈ fp,H' b=tH)/\W i m tM H':=λ{s' H' acc' m'} J' hm w'=>by
    refine#[m',hm,i+1,acc',H',(J'.unpinned).weak ks.1 ks.2,T.keep _ _ _ st7 λb hb o e=>(J'.pin (b,o) (ay _ (ay _ (wU hb e)))).1,λb hb=>?_,w'];obtain⟨o,e,d⟩:=T.obj _ _ st7 b hb;exact (J'.pin (b,o) (ay _ (ay _ (wU hb e)))).2.1
   cases b with
   | false =>
    rw[if_neg aB]at q9 ⊢;obtain⟨m',hm,w'⟩:=q9;exact back I9 hm w'
   | true =>
    rw[if_pos rfl]at q9 ⊢;refine thn (he cl _ tK s3 (upd H2 s2⁻¹ (.lst [])) fp _ (λe s hfl=>Uj (RE:=λe s'=>RR (.ref s2⁻¹) s3⁻¹ (.error e) s') hst hxe hc1 I3 f3 hfl λm s' x a b=>hRE _ _ m s' x a b) _ s9 σ8 H9 _ (I9.wish _) q9) λv s10 ⟨y,H10,I10',r10,hD10,hsz,m',hm,w'⟩=>?_;have I10:=Inv.unwish (X:=X') I10';refine rq ?_;have:=ya (X:=X') _ s10 σ8 H10 (.ref s2⁻¹) [y] (.ref s2⁻¹) [v] (λ_ H'=>H'=upd H10 s2⁻¹ (.lst (tM ++ [y]))) I10 rfl (.cons r10 .nil) #[tM,hD10,hsz,rfl];refine thn this λ_ s11 ⟨_,H11,I11,_,eH⟩=>?_;subst eH;exact back I11 hm w'
 have goal:rG (model X.prog X.w) X.A (.compStart (.ListComp elt [#[tg,iter,ifs,0]] scope pos) 0 (.ref it) (.ref s2⁻¹) (compEnvC scope cl s3⁻¹ X.env)) (RR (.ref s2⁻¹) s3⁻¹) s4 :=
  codeAny_compStart_list loop (T.self _ 0 s4 _ _ (by rw[<- e4];exact st4) loop)
 rw[<- es4]at goal;exact goal
theorem ZF{EX:XK}(hc:X.calm=tI)(S:jp X scope own caps ix)(hst:X.stack=X.env::X.outer/\X.env.frame=tG X.env.locals)(hxe:XE X EX)(hi:PI X tg iter wi)
  (hg:∀cl C tK s3 H3 fp,PG (yl X scope cl C (own ++ caps) tK s3 H3 fp λ_ _=>False) tg g)
  (ht:∀cl C tK s3 H3 fp xe,XE (yl X scope cl C (own ++ caps) tK s3 H3 fp xe) EX->PTs (yl X scope cl C (own ++ caps) tK s3 H3 fp xe) ifs tt)
  (he:∀cl C tK s3 H3 fp xe,XE (yl X scope cl C (own ++ caps) tK s3 H3 fp xe) EX->PE (yl X scope cl C (own ++ caps) tK s3 H3 fp xe) elt te)
  (hs:∀x,foldedSetIterable iter X.env x=pure x:=by intro _;rfl) :
  PE X (.ListComp elt [#[tg,iter,ifs,0]] scope pos) (kO wi g tt te own.length ix):=by
 intro tK s σ H Q I h;obtain⟨cl,hclos,hc1,hc2⟩:=vt (scope:=scope) (env:=X.env) λy hy=>I.ok.has y (S.free y hy);rw[eval_ListComp];refine sj (use:=tH) rfl hs hclos S.kind S.names (thn (hi tK s σ H _ I h) λv s1 h1=>thn h1 λitv s2 h2=>?_);obtain⟨it,fp,tn,J,H2,e,I2,T,st2,f2,q⟩:=h2;subst e;refine uD (RR:=λtM C=>compPost (model X.prog X.w) X.A X.xe tH (EP X tK σ Q) tM C) hc S hg ht hst hxe he hc1 hc2 I2 T st2 f2 q ?_ ?_
 ·intro D C m s' H' _ hn fc I' qn;obtain⟨a0,a1,a2,a3,a4,a5⟩:=fc;exact#[m,hn,λh' sb=>#[.ref D,H',I'.turned (t':=s'.toks) (λb o hb e=>(sb.2 b hb).trans e) a0 a1 a3 a4 a5,rfl,qn]]
 ·intro D C m s' x hn hp;exact#[m,hn,hp]
theorem xeN:XE X E0:=λe s h=>by
 obtain⟨_,_,_,_,_,_,_,_,_,_,_,_,_,_,h⟩:=h;exact h.elim
theorem zb0{e:pM}{t:TE}(h:PE (X.wish λ_ _=>False) e t):PE X e t:=λtK s σ H Q I hq=>rq (thn (h tK s σ H Q (I.wish _) hq) λv s' ⟨x,H',I',r,q⟩=>#[x,H',I'.unwish,r,q])
theorem JX{t:TT}(h:PTs (X.wish λ_ _=>False) ifs t):PTs X ifs t:=λtK s σ H Q I hq=>rq (thn (h tK s σ H Q (I.wish _) hq) λv s' ⟨H',I',q⟩=>#[H',I'.unwish,q])
theorem yO(hc:X.calm=tI)(S:jp X scope own caps ix)(hi:PI X tg iter wi)
  (hg:∀cl C tK s3 H3 fp,PG (yl X scope cl C (own ++ caps) tK s3 H3 fp λ_ _=>False) tg g)
  (ht:∀cl C tK s3 H3 fp,PTs (yl X scope cl C (own ++ caps) tK s3 H3 fp λ_ _=>False) ifs tt)
  (he:∀cl C tK s3 H3 fp,PE (yl X scope cl C (own ++ caps) tK s3 H3 fp λ_ _=>False) elt te)
  (hst:X.stack=X.env::X.outer/\X.env.frame=tG X.env.locals:=by exact#[rfl,rfl]) (hs:∀x,foldedSetIterable iter X.env x=pure x:=by intro _;rfl) :
  PE X (.ListComp elt [#[tg,iter,ifs,0]] scope pos) (kO wi g tt te own.length ix) :=
 ZF hc S hst xeN hi hg (λa b c d e f _ _=>JX (ht a b c d e f)) (λa b c d e f _ _=>zb0 (he a b c d e f)) hs
theorem YW{i:Nat}{y:pJ}{py spos:rj}(hN:X.N.Nodup)(hy:X.N[i]? = tG y)(hly:Loc X.env.scope y)(hf:X.fn y=tI\/X.env.scope.names.lookup y=tG .local)(hc:X.calm=tI)(S:jp X scope own caps ix)(hi:PI X tg iter wi)
  (hg:∀cl C tK s3 H3 fp,PG (yl X scope cl C (own ++ caps) tK s3 H3 fp λ_ _=>False) tg g)
  (ht:∀cl C tK s3 H3 fp,PTs (yl X scope cl C (own ++ caps) tK s3 H3 fp λ_ _=>False) ifs tt)
  (he:∀cl C tK s3 H3 fp,PE (yl X scope cl C (own ++ caps) tK s3 H3 fp λ_ _=>False) elt te)
  (hst:X.stack=X.env::X.outer/\X.env.frame=tG X.env.locals:=by exact#[rfl,rfl])
  (hsw:swapsWith (.ListComp elt [#[tg,iter,ifs,0]] scope pos) (tG (.Name y py)) spos.line X.env=pure tI:=by rfl)
  (hs:∀x,foldedSetIterable iter X.env x=pure x:=by intro _;rfl) :
  PS X (.Assign [.Name y py] (.ListComp elt [#[tg,iter,ifs,0]] scope pos) spos) (j0 i (kO wi g tt te own.length ix)):=by
 intro tK s σ H D I h;obtain⟨cl,hclos,hc1,hc2⟩:=vt (scope:=scope) (env:=X.env) λy hy=>I.ok.has y (S.free y hy);rw[exec_Assign_Name_used _ _ _ _ hsw];refine pi (rp (pi ?_));show pF _ X.A (do let _ <- comprehension (.ListComp elt [#[tg,iter,ifs,0]] scope pos) scope X.env _ (newList []) tJ (eval iter X.env) (tG (assign (.Name y py) X.env))) _ _ s;refine pi (thn (sj (use:=tG (assign (.Name y py) X.env)) (Q:=λ_ s'=>SP X tK D .next s') rfl hs hclos S.kind S.names (thn (hi tK s σ H _ I h) λv s1 h1=>thn h1 λitv s2 h2=>?_)) λ_ s' hq=>pj (pj hq));obtain⟨it,fp,tn,J,H2,e,I2,T,st2,f2,q⟩:=h2;subst e;refine uD (Q:=λx H1=>D.nx (σ.set i (tG x)) H1) (RR:=λtM C=>compPost (model X.prog X.w) X.A X.xe (tG (assign (.Name y py) X.env)) (λ_ s'=>SP X tK D .next s') tM C) hc S hg (λa b c d e f _ _=>JX (ht a b c d e f)) hst xeN (λa b c d e f _ _=>zb0 (he a b c d e f)) hc1 hc2 I2 T st2 f2 q ?_ λD C m s' x hn hp=>#[m,hn,hp];intro D' C m s' H1 hD' hn fc I1 nx;obtain⟨a0,a1,a2,a3,a4,a5⟩:=fc;show pF _ X.A (assign (.Name y py) X.env (.ref D')) _ _ s';refine sQ (Zo I1 hN hy hly (v:=.ref D') rfl (λs'' I2' ⟨a,sb,ha⟩=>?_) hf)
 have hCa:C≠a:=by
  rcases ha with e | e
  ·rw[e];exact a1
  ·exact λz=>a4 _ _ e z.symm
 refine#[m,hn.sameBut sb hCa,λh' sb'=>#[_,H1,I2'.turned (t':=s''.toks) (λb o hb e=>(sb'.2 b hb).trans e) a0 a1 a3 a4 a5,nx]]
end
section
variable{X:Cx}{scope:rf}{own caps:List pJ}{ix:()}{cl:List (pJ × pC)}{tK:List (pC × rb)}{σ:St}{H:Hp}{s:pE}{fp:List pC}{E:pD->pE->Prop}
end
section
variable{X:Cx}{scope:rf}{own caps:List pJ}{ix:()}{elt tg iter:pM}{ifs:List pM}{pos:rj}{wi:TI}{g:TG}{tt:TT}{te:TE}
end
section
variable{X:Cx}
end
section
variable{X:Cx}{tK:List (pC × rb)}{σ:L2.St}{H:Hp}{s:pE}
end
end L3
namespace LL
open PySem L2 L3
noncomputable def top(i:Nat):pQ:=PySem.Challenge.pw_letterlaw_k58_whole_commuting.main.body.getD i (.Pass #[0,0,0,0])
noncomputable abbrev yG:pQ:=yY (top 5) 0
noncomputable abbrev zR:pQ:=yY (top 6) 0
noncomputable abbrev yP:pQ:=top 10
noncomputable abbrev wL:pQ:=top 11
noncomputable abbrev vb:pQ:=top 12
noncomputable abbrev zaI:pQ:=top 13
noncomputable abbrev xK:pQ:=top 16
noncomputable abbrev wn:pQ:=top 17
noncomputable abbrev w9:pQ:=top 18
noncomputable abbrev wc:pQ:=yY (top 19) 0
noncomputable abbrev yy:pQ:=yY (top 19) 1
noncomputable abbrev YL:pQ:=top 21
noncomputable abbrev ud:pQ:=top 22
noncomputable abbrev VI:pQ:=top 23
noncomputable abbrev qy:pQ:=top 24
noncomputable abbrev kN:pQ:=top 25
noncomputable abbrev xJ:pQ:=top 26
noncomputable abbrev X8:pQ:=top 28
noncomputable abbrev kL:pQ:=top 29
noncomputable abbrev vW:pQ:=top 35
noncomputable abbrev wQ:pQ:=top 36
noncomputable abbrev va:pQ:=top 37
noncomputable abbrev uZ:pQ:=top 38
noncomputable abbrev yC:pQ:=top 39
noncomputable abbrev xM:pQ:=top 40
noncomputable abbrev xn:pQ:=top 41
noncomputable abbrev ww:pQ:=top 42
noncomputable abbrev qb:pQ:=top 43
noncomputable abbrev yI:pQ:=top 49
noncomputable abbrev wa:pQ:=top 50
noncomputable abbrev yX:pQ:=top 51
noncomputable abbrev xH:pQ:=top 52
noncomputable abbrev v8:pQ:=top 53
noncomputable abbrev wb:pQ:=top 54
noncomputable abbrev wA:pQ:=yY (top 57) 0
noncomputable abbrev xL:pQ:=yY (top 57) 1
noncomputable abbrev wz:pQ:=yY (top 57) 2
noncomputable abbrev xE:pQ:=yY (top 57) 3
noncomputable abbrev xI:pQ:=yY (top 57) 4
noncomputable abbrev yW:pQ:=yY (top 58) 0
noncomputable abbrev yV:pQ:=yY (top 59) 0
noncomputable abbrev yd:pQ:=yY (top 59) 1
noncomputable abbrev W4:pQ:=top 61
noncomputable abbrev YO:pQ:=top 62
noncomputable abbrev qS:pQ:=top 63
noncomputable abbrev YS:pQ:=top 64
noncomputable abbrev YZ:pQ:=top 65
noncomputable abbrev Vr:pQ:=top 66
noncomputable abbrev zaq:pQ:=top 67
noncomputable abbrev Yo:pQ:=top 68
noncomputable abbrev jF:pQ:=top 69
noncomputable abbrev qd:pQ:=top 70
noncomputable abbrev WV:pQ:=top 71
noncomputable abbrev kM:pQ:=top 72
noncomputable abbrev wg:pQ:=top 73
noncomputable abbrev xt:pQ:=top 74
noncomputable abbrev QC:pQ:=top 75
noncomputable abbrev vX:pQ:=top 76
section
variable{P:pH}{w:pK}{K:pB}{mg:pJ->Option pD}{base:pN}
seal L2.PE L2.PS L2.PA L2.PT L2.PSs L2.PI L2.PG L2.PW L2.PGs
local macro_rules | `($a<<<$b)=>`(Df $(Lean.mkIdent `P) $(Lean.mkIdent `w) $(Lean.mkIdent `K) $(Lean.mkIdent `mg) $(Lean.mkIdent `base) CX0 $a $b)
local macro_rules | `($a>>>$b)=>`(Df $(Lean.mkIdent `P) $(Lean.mkIdent `w) $(Lean.mkIdent `K) $(Lean.mkIdent `mg) $(Lean.mkIdent `base) (CXx $(Lean.mkIdent `P) $(Lean.mkIdent `w)) $a $b)
local macro_rules | `($a&&&$b)=>`(FnOk $(Lean.mkIdent `P) $(Lean.mkIdent `w) $(Lean.mkIdent `K) $(Lean.mkIdent `mg) $(Lean.mkIdent `base) CX0 $a $(Lean.mkIdent `f) $(Lean.mkIdent `fd) $b)
local macro_rules | `($a|||$b)=>`(FnOk $(Lean.mkIdent `P) $(Lean.mkIdent `w) $(Lean.mkIdent `K) $(Lean.mkIdent `mg) $(Lean.mkIdent `base) (CXx $(Lean.mkIdent `P) $(Lean.mkIdent `w)) $a $(Lean.mkIdent `f) $(Lean.mkIdent `fd) $b)
local macro_rules | `(!!$a)=>`(tG (.ref $a))
local macro_rules | `(~~~$a)=>`(tG (.str (tx $a)))
local macro_rules | `(-~~~$a)=>`(tG (.int (($a):Nat)))
local macro_rules | `(~~~!$a)=>`(tG (.int $a))
local macro_rules | `($a^^^$b)=>`(Fun $(Lean.mkIdent `K) $a $a $b $(Lean.mkIdent `f) $(Lean.mkIdent `fd))
noncomputable abbrev sQz(n:Nat)(a:List PySem.Str)(s:PySem.Stmt):=zo a (a.take n) (zg s)
local macro_rules | `(tactic| rfl')=>do
 let A0←("zdn zdE zdD zd4 zea zdq zdI zd2 zd1 KG zaH zeh zdo zdv zdx zd7 KO KH zbc zaM zaj KC za5 za0 KJ zdP zdG zee zdp zdj zdK zdy zdV zap zbd zaF K1 zak zad KN Kv".splitOn " ").toArray.mapM fun s=>`(Lean.Parser.Tactic.simpLemma| ↓$(Lean.mkIdent s.toName):ident)
 let A1←("zde Q0 zbm zc7 Uc tOp tUn tC vF zH xF tCB zbj yR Q2 zbn zdc tOr Qi UY ZZ tIf rI rI0 rU rGe zcI vM zaU zbh zcf zbU tSl jO Ji WL zb5 tBM zar KM L2.start zdu cxK cxP cxW ar aJ aD bj bQ eh Nat.reduceAdd Nat.reduceSub cM dF be bg aT aV vp eY eZ".splitOn " ").toArray.mapM fun s=>`(Lean.Parser.Tactic.simpLemma| $(Lean.mkIdent s.toName):ident)
 let A2←("zc4 J3 JD Kl zeF zdn zdE zdD zd4 zea zdq zdI zd2 zd1 KG zaH zeh zdo zdv zdx zd7 KO KH zbc zaM zaj KC za5 za0 KJ zdP zdG zee zdp zdj zdK zdy zdV zap zbd zaF K1 zak zad KN Kv".splitOn " ").toArray.mapM fun s=>`(Lean.Parser.Tactic.simpLemma| ↓$(Lean.mkIdent s.toName):ident)
 let A3←("zde vp eY eZ rU j0 Kh zcr zbr Q0 zbm zc7 Uc tOp tUn Ur tC vF zH xF tCB zbj yR Q2 zbn zdc tOr Qi UY ZZ tIf rI rI0 rEq_is rNe_is zcI vM zaU zcf zbU zbh tSl jO Ji rGe decide_false decide_true Prod.mk.injEq rLen_is zbu zc8 Xi VW Yl tyV tBM if_true if_false bE decide_eq_true_eq decide_eq_false_iff_not dJ eJ fB lt1 WL zb5 KI jc zaP YQ Yq zch zce zbN zcC zcR zcF Value.ref.injEq L2.start zbK zcc zej zeo zen zcl zek zar KM zex V3 zct zbe zdL kh VE k9 wK Yg zV zdu JQ zcz cxK cxP cxW ar aJ aD bj bQ eh Nat.reduceAdd Nat.reduceSub and_assoc zcV exists_eq exists_eq' exists_eq_left' exists_eq_left exists_eq_right exists_eq_right' exists_and_left exists_and_right V.int.injEq V.ref.injEq V.str.injEq V.bl.injEq V.ty.injEq reduceCtorEq false_and and_false true_and and_true or_false false_or exists_false exists_const cM dF Option.some.injEq be bg List.cons.injEq aE aT aV Ks JT Kk JY".splitOn " ").toArray.mapM fun s=>`(Lean.Parser.Tactic.simpLemma| $(Lean.mkIdent s.toName):ident)
 `(tactic| first | (dsimp only[$A0,*,$A1,*];try simp only[$A2,*,$A3,*]) | simp only[$A2,*,$A3,*])
local macro_rules | `(tactic| ac_rfl)=>do
 let A0←("yn zu zI yq yo zv".splitOn " ").toArray.mapM fun s=>`(Lean.Parser.Tactic.simpLemma| $(Lean.mkIdent s.toName):ident)
 `(tactic| repeat (first | rfl' | simp only[$A0,*]))
theorem xe0{X:Cx}:XE X E0:=λe s h=>by
 obtain⟨_,_,_,_,_,_,_,_,_,_,_,_,_,_,h⟩:=h;exact h.elim
def jh(l:()):Prop:=∀c ∈ l,97<=c/\c<=122
noncomputable instance (l:()):Decidable (jh l):=by unfold jh;infer_instance
noncomputable def uJ(l:()):Bool:=decide (1<=l.length/\l.length<=6/\jh l/\l.Nodup)
def kJ:Sp:=λvs H Q _=>∃c:Nat,vs=[.str (tx [c])]/\Q (.bl (decide (97<=c/\c<=122))) H
theorem Qn:sQz 1 ["sign"] yP:=by nofun
theorem Qu{f:pC}{fd:pG}(F:("is_small_letter"^^^yP)):(1&&&["sign"]) kJ:=by
 exists F.ok Qn
 ·obtain⟨c,rfl,q⟩:=h;refine#[_,(zh (zr (Q5 uq uq yB (pv 0) yB))),?_];have ea:cs (("a" : pJ))=[97]:=rfl;have ez:cs (("z" : pJ))=[122]:=rfl
  rfl'
  erw[ea,ez,Yg,lt1]
  refine yA (λh=>?_) λh=>?_
  ·have e:decide (97<=c/\c<=122)=!decide (122<c):=by
    by_cases h2:122<c
    ·rw[decide_eq_true h2,decide_eq_false ⋯];rfl
    ·rw[decide_eq_false h2,decide_eq_true ⋯];rfl
   rw[e]at q;exact q
  ·rw[decide_eq_false ⋯]at q;exact q
structure zei(K:pB)(mg:pJ->Option pD)(C:pC):Prop where
 xi:XI K C
 ini:aj K (.ref C) "__init__" = tG (tG (.builtin "ValueError.__init__"))
 g:mg "NoLetters" = tG (.ref C)
 most:∃t,mg "MOST_LETTERS" = tG (.int 6 t)
def vw(C:pC):Sp:=λvs H Q E=>∃l:(),vs=[.str (tx l)]/\l.length<=1000/\(uJ l=tI->Q (.str (tx l)) H)/\(uJ l=tJ->E (.ref C) tH H)
theorem mB:sQz 1 ["text","sign"] wL:=by nofun
theorem kF{f C:pC}{fd:pG}(B:Bt mg)(T:zei K mg C)(F:("letters_of"^^^wL))(Ds:(1<<<"is_small_letter") ["sign"] [] kJ):(2|||["text"]) (vw C):=by
 exists Fun.okX F mB,0
 ·obtain⟨l,rfl,hl,q1,q2⟩:=h;obtain⟨t6,g6⟩:=T.most
  refine#[_,(zS (zP (yj (jN uq uq zf (zK B.len (pv 0)) (yQ (v:=.int 6) rfl g6 #[t6,rfl])))
    (zh (yH hx rfl T.xi.toXC T.ini rfl T.g (za yB ze)))
    zy)
   (zS (ym PassesOwn.leaving rfl (ZR (pv 0)) (zx (i:=1) mB.nd rfl (.inl rfl))
    (zS (zP (yj (Xw (cl0 Ds hr .nil rfl (za (pv 1) ze)) (λ_=>rfl)))
     (zh (yH hx rfl T.xi.toXC T.ini rfl T.g (za yB ze)))
     zy)
    (zh (zP (zA UI (xu bF fu fv VU (pv 0) (za (pv 1) ze)) zf (zE _))
     (zh (yH hx rfl T.xi.toXC T.ini rfl T.g (za yB ze)))
     zy))))
   (zh (zr (pv 0))))),?_]
  have s16:=yb
  rfl'
  have bad:(¬ (1<=l.length/\l.length<=6/\jh l/\l.Nodup))->∀H':Hp,H'=H->E (.ref C) tH H':=λh H' e=>by
   rw[e];exact q2 (decide_eq_false h)
  refine#[⋯,yA (λc=>yA (λc2=>#[⋯,bad (λh=>by have:=h.2.1;lia) H rfl]) (λc2=>?_)) (λc=>#[⋯,bad (λh=>by have:=h.1;lia) H rfl])];refine ForS.by (λi σ H'=>H'=H/\∃v,σ=[~~~l,v]/\jh (l.take i)/\∀c ∈ l.take i,l.count c<=1) #[rfl,tH,rfl,λc h=>absurd h (by simp),λc h=>absurd h (by simp)] ?_ ?_
  ·refine nm4 ?_;rintro i c σ H' hg ⟨eH,v,rfl,hs,hn⟩:_;have hc:=ae hg;right
   rfl'
   erw[kJ]
   rfl'
   refine yA (λh=>#[⋯,bad (λz=>by have:=z.2.2.1 c hc;lia) _ eH]) (λh=>yA (λh2=>#[⋯,bad (λz=>?_) _ eH]) (λh2=>#[eH,?_,?_]))
   ·have:=An.mp z.2.2.2 c;lia
   ·rw[zL hg];intro x hx;rcases tQ.mp hx with q | q
    ·exact hs x q
    ·have:x=c:=by simpa using q
     subst this;lia
   ·rw[zL hg];intro x hx;rcases tQ.mp hx with q | q
    ·exact hn x q
    ·have:x=c:=by simpa using q
     subst this;lia
  ·rintro σ H' ⟨eH,v,rfl,hs,hn⟩;rw[aK]at hs hn
   rfl'
   rw[eH];refine q1 (decide_eq_true #[⋯,⋯,hs,An.mpr λc=>?_]);by_cases hc:c ∈ l
   ·exact hn c hc
   ·rw[Ao.mpr hc];lia
noncomputable def zt(l:())(k:Int)(p:()):Bool:=decide (0<=k/\k+p.length<=l.length/\(l.drop k.toNat).take p.length=p)
def wM:Sp:=λvs H Q _=>∃(l p:()) (k:Int),vs=[.str (tx l),.int k,.str (tx p)]/\l.length<=10000/\p.length<=10000/\Q (.bl (zt l k p)) H
theorem j3{l p:()}{k:Int}{H:Hp}{Q:VK}{E:XK}(h1:l.length<=10000)(h2:p.length<=10000)(h:Q (.bl (zt l k p)) H):wM [.str (tx l),.int k,.str (tx p)] H Q E:=#[l,p,k,rfl,h1,h2,h]
theorem Zr:sQz 3 ["word","place","part"] vb:=by nofun
theorem Zi{f:pC}{fd:pG}(B:Bt mg)(F:("stands_at"^^^vb)):(1&&&["word","place","part"]) wM:=by
 exists F.ok Zr
 ·obtain⟨l,p,k,rfl,hl,hp,q⟩:=h
  refine#[_,(zS (zP (yj (jN uq uq zf (pv 1) (zC uu (zK B.len (pv 0)) (zK B.len (pv 2)))))
    (zh (zr xf))
    zy)
   (zh (zr (uc uL (yc wl (pv 0) (yk (pv 1)) (yk (zC yN (pv 1) (zK B.len (pv 2))))) (pv 2) (zE _))))),?_]
  have s16:=yb
  rfl'
  have no:¬ (0<=k/\k+p.length<=l.length/\(l.drop k.toNat).take p.length=p)->Q (.bl tJ) H:=λh=>by
   have e:zt l k p=tJ:=decide_eq_false h;rw[e]at q;exact q
  refine yA (λh0=>#[⋯,⋯,yA (λh1=>no λh=>absurd h.2.1 ⋯) λh1=>#[⋯,⋯,?_]]) λh0=>no λh=>h0 h.1;rw[YE _ h0 ⋯ ⋯];have e:(k+(p.length:Int) - k).toNat=p.length:=⋯;rw[e]
  have e2:zt l k p=decide ((l.drop k.toNat).take p.length=p):=by
   unfold zt;exact decide_eq_decide.mpr #[λh=>h.2.2,λh=>#[h0,⋯,h]]
  rw[<- e2];exact q
noncomputable def yK(l:())(k:Int)(o n:()):():=l.take k.toNat ++ n ++ l.drop (k.toNat+o.length)
theorem zU{l o:()}{k:Int}(h:zt l k o=tI):l.take k.toNat ++ o ++ l.drop (k.toNat+o.length)=l/\(l.take k.toNat).length=k.toNat/\0<=k/\k+o.length<=l.length:=by
 unfold zt at h;rw[decide_eq_true_eq]at h;obtain⟨h0,h1,h2⟩:=h;refine#[?_,by rw[aF];lia,h0,h1]
 have e:l.drop k.toNat=o ++ l.drop (k.toNat+o.length):=by
  have:=cC o.length (l.drop k.toNat);rw[h2,fF]at this;exact this.symm
 rw[aH,<- e,cC]
theorem Xq{l o:()}{k:Int}(n:())(h:zt l k o=tI):zt (yK l k o n) k n=tI/\yK (yK l k o n) k n o=l:=by
 obtain⟨e,hl,h0,h1⟩:=zU h
 have e1:(yK l k o n).take k.toNat=l.take k.toNat:=by
  unfold yK;rw[aH,bC ⋯,bp ⋯]
 have e2:(yK l k o n).drop k.toNat=n ++ l.drop (k.toNat+o.length):=by
  unfold yK;rw[aH,cu ⋯,bq ⋯,aT]
 have e3:(yK l k o n).length=l.length - o.length+n.length:=by
  unfold yK
  erw[ah,bi,hl]
  lia
 refine#[?_,?_]
 ·unfold zt;refine decide_eq_true #[h0,⋯,?_];rw[e2,bC ⋯,bp ⋯]
 ·show (yK l k o n).take k.toNat ++ o ++ (yK l k o n).drop (k.toNat+n.length)=l;rw[e1,<- fF,e2,cu ⋯,bq ⋯,aT];exact e
theorem zba{l o n:()}{k:Int}(h0:0<=k):cut l tH (tG k) ++ n ++ cut l (tG (k + ↑o.length)) tH=yK l k o n:=by
 rw[jm _ h0,vz _ ⋯];have:(k+(o.length:Int)).toNat=k.toNat+o.length:=⋯;rw[this];rfl
structure TNU(K:pB)(mg:pJ->Option pD)(C:pC):Prop where
 xi:XI K C
 g:mg "NoUse" = tG (.ref C)
 na:NoAttr K C "at"
theorem k7:sQz 2 ["self","at"] yG:=by nofun
theorem kC{f C:pC}{fd:pG}(T:TNU K mg C)(F:Fun K "__init__" "NoUse.__init__" yG f fd):(1&&&["self","at"]) (vO C "at"):=by
 exists F.ok k7
 ·obtain⟨x,v,rfl,hx,q⟩:=h;refine#[_,(zh (Vu (pv 0) (pv 1) rfl)),?_]
  erw[zaW]
  rfl'
  exact#[C,hx,T.xi.toXC,T.na,q]
structure DNU(P:pH)(w:pK)(K:pB)(mg:pJ->Option pD)(base:pN)(C:pC):Prop extends TNU K mg C where
 ini:∃f fd,aj K (.ref C) "__init__" = tG (tG (.ref f))/\br K (.ref f)=tI/\(1&&&["self","at"]) (vO C "at")/\Binds K fd ["self","at"] []
def XW(C:pC):Sp:=λvs H Q E=>∃(l o n:()) (k:Int),vs=[.str (tx l),.int k,.str (tx o),.str (tx n)]/\l.length<=10000/\o.length<=10000/\n.length<=10000/\(zt l k o=tI->Q (.str (tx (yK l k o n))) H)/\(zt l k o=tJ->∀d H',zec H d "at" (.int 0) H'->E (.ref C) (tG d) H')
theorem zcL:sQz 4 ["word","place","old","new"] zaI:=by nofun
theorem zck{f C:pC}{fd:pG}(B:Bt mg)(T:DNU P w K mg base C)(F:("put"^^^zaI))(ow:(1<<<"stands_at") ["word","place","part"] [] wM):(3|||["word","place","old","new"]) (XW C):=by
 obtain⟨fi,fdi,hi,hfn,Fi,Bi⟩:=T.ini
 exists Fun.okX F zcL,0
 ·obtain⟨l,o,n,k,rfl,hl,ho,hn,q1,q2⟩:=h
  refine#[_,(zS (zP (yj (Xw (cl0 ow hr .nil rfl (za (pv 0) (za (pv 1) (za (pv 2) ze)))) (λ_=>rfl)))
    (zh (Ze hx rfl T.xi.toXC hi hfn Fi hr Bi rfl T.g (za zf ze)))
    zy)
   (zh (zr (zC yF (zC yF (yc wl (pv 0) xw (yk (pv 1))) (pv 3)) (yc wl (pv 0) (yk (zC yN (pv 1) (zK B.len (pv 2)))) xw))))),?_]
  have s16:=yb
  rfl'
  refine j3 hl ho ?_
  rfl'
  refine yA (λhb=>#[⋯,V1 (q2 hb)]) λhb=>?_;have hb':zt l k o=tI:=by simpa using hb
  obtain⟨_,_,h0,h1⟩:=zU hb';have c1:=wC l tH (tG k);have c2:=wC l (tG (k + ↑o.length)) tH;refine#[⋯,⋯,⋯,⋯,?_,?_]
  ·erw[ah]
   lia
  ·have e:cut l tH (tG k) ++ n ++ cut l (tG (k + ↑o.length)) tH=yK l k o n:=by
    rw[jm _ h0,vz _ ⋯];have:(k+(o.length:Int)).toNat=k.toNat+o.length:=⋯;rw[this];rfl
   rw[e];exact q1 hb'
structure TOrd(K:pB)(mg:pJ->Option pD)(CO CR CW:pC):Prop where
 cO:Cls K CO
 cR:Cls K CR
 cW:Cls K CW
 gO:mg "Order" = tG (.ref CO)
 gR:mg "FromRight" = tG (.ref CR)
 gW:mg "ByWeights" = tG (.ref CW)
 lO:NoAttr K CO "letters"
 lR:NoAttr K CR "letters"
 lW:NoAttr K CW "letters"
 wW:NoAttr K CW "weights"
def OrdAt(CO CR CW:pC)(H:Hp)(o:pC)(k:Nat)(l:())(ns:List Int):Prop:=∃dx,(k=0/\H o=tG (.ins CO dx [("letters",.str (tx l))]))\/(k=1/\H o=tG (.ins CR dx [("letters",.str (tx l))])) \/
 (k=2/\ns.length=l.length/\∃w,H o=tG (.ins CW dx [("letters",.str (tx l)),("weights",.ref w)])/\H w=tG (.tup (ns.map V.int)))
theorem OrdAt.same{CO CR CW:pC}{H H':Hp}{o:pC}{k:Nat}{l:()}{ns:List Int}(h:OrdAt CO CR CW H o k l ns)(e:Same H H'):OrdAt CO CR CW H' o k l ns:=by
 obtain⟨dx,⟨h1,h2⟩ | ⟨h1,h2⟩ | ⟨h1,h2,w,h3,h4⟩⟩:=h
 ·exact#[dx,.inl #[h1,e _ _ h2]]
 ·exact#[dx,.inr (.inl #[h1,e _ _ h2])]
 ·exact#[dx,.inr (.inr #[h1,h2,w,e _ _ h3,e _ _ h4])]
noncomputable def WM(l:())(ns:List Int)(w:()):Int:=((l.zip ns).map λp=>(w.count p.1:Int) * p.2).sum
noncomputable def zq(k:Nat)(l:())(ns:List Int)(w:()):Int:=if k=2 then WM l ns w else (w.length:Int)
noncomputable def ye(k:Nat)(w:()):():=if k=1 then w.reverse else w
def uT(K:pB):Sp:=λvs H Q _=>∃(x C dx:pC) (l:()),vs=[.ref x,.str (tx l)]/\uJ l=tI/\Cls K C/\NoAttr K C "letters"/\H x=tG (.ins C dx [])/\Q .non (upd H x (.ins C dx [("letters",.str (tx l))]))
theorem j6:sQz 2 ["self","letters"] wA:=by nofun
theorem we{f:pC}{fd:pG}(B:Bt mg)(F:Fun K "__init__" "Order.__init__" wA f fd)(oh:(2>>>"letters_of") ["text"] [] (vw C)):(3&&&["self","letters"]) (uT K):=by
 exists F.ok j6
 ·obtain⟨x,C,dx,l,rfl,hg,hC,hN,hx,q⟩:=h;refine#[_,(zh (Y5 (pv 0) (clP xe0 oh hr .nil rfl (za (pv 1) ze)) rfl)),?_];have s16:=yb
  rfl'
  exact#[l,rfl,by have:=of_decide_eq_true hg;lia,λ_=>#[_,_,_,hx,hC,hN,∅,q],λe=>by rw[hg]at e;cases e]
def jJ:Sp:=λvs H Q _=>∃(o:pC) (w:()),vs=[.ref o,.str (tx w)]/\w.length<=1000/\Q (.int (w.length:Nat)) H
theorem qP:sQz 2 ["self","word"] xL:=by nofun
theorem wD{f:pC}{fd:pG}(B:Bt mg)(F:Fun K "weight" "Order.weight" xL f fd) :(1&&&["self","word"]) jJ:=by
 exists F.ok qP
 ·obtain⟨o,w,rfl,hw,q⟩:=h;refine#[_,(zh (zr (zK B.len (pv 1)))),?_];have s16:=yb
  rfl'
  exact#[⋯,q]
def Xc:Sp:=λvs H Q _=>∃(o:pC) (w:()),vs=[.ref o,.str (tx w)]/\Q (.str (tx w)) H
theorem j4:sQz 2 ["self","word"] wz:=by nofun
theorem vG{f:pC}{fd:pG}(B:Bt mg)(F:Fun K "seen" "Order.seen" wz f fd) :(1&&&["self","word"]) Xc:=by
 exists F.ok j4
 ·obtain⟨o,w,rfl,q⟩:=h;refine#[_,(zh (zr (pv 1))),?_];have s16:=yb
  rfl'
  exact q
def Yp:Sp:=λvs H Q _=>∃(o:pC) (w:()),vs=[.ref o,.str (tx w)]/\w.length<=1000/\Q (.str (tx w.reverse)) H
theorem vU:sQz 2 ["self","word"] yW:=by nofun
theorem uk{f:pC}{fd:pG}(B:Bt mg)(F:Fun K "seen" "FromRight.seen" yW f fd) :(1&&&["self","word"]) Yp:=by
 exists F.ok vU
 ·obtain⟨o,w,rfl,hw,q⟩:=h;refine#[_,(zh (zr (za7 (pv 1) (zd6 zbI zf)))),?_];have s16:=yb;ac_rfl;exact#[⋯,q]
structure zew(K:pB)(mg:pJ->Option pD)(C:pC):Prop where
 xi:XI K C
 ini:aj K (.ref C) "__init__" = tG (tG (.builtin "ValueError.__init__"))
 g:mg "NoOrder" = tG (.ref C)
 most:∃t,mg "MOST_WEIGHT" = tG (.int 1000000 t)
abbrev DOI(P:pH)(w:pK)(K:pB)(mg:pJ->Option pD)(base:pN)(CO:pC):Prop:=DC P w K mg base CX0 3 CO "__init__" ["self","letters"] (uT K)
def kB(K:pB)(CW:pC):Sp:=λvs H Q _=>∃(x dx a:pC) (l:()) (ns:List Int),vs=[.ref x,.str (tx l),.ref a]/\uJ l=tI/\SqL K H a (ns.map V.int)/\ns.length=l.length/\(∀n ∈ ns,1<=n/\n<=1000000)/\H x=tG (.ins CW dx []) /\
 ∀w H',H w=tH->w≠x->(∀b o,b≠x->H b=tG o->H' b=tG o)->H' w=tG (.tup (ns.map V.int))->H' x=tG (.ins CW dx [("letters",.str (tx l)),("weights",.ref w)])->Q .non H'
theorem lC:sQz 3 ["self","letters","weights","weight"] yV:=by nofun
theorem uh{f CO CR CW CN:pC}{fd:pG}(B:Bt mg)(T:TOrd K mg CO CR CW)(TN:zew K mg CN)(DI:DOI P w K mg base CO)(F:Fun K "__init__" "ByWeights.__init__" yV f fd) :(4|||["self","letters","weights"]) (kB K CW):=by
 obtain⟨t6,g6⟩:=TN.most
 exists Fun.okX F lC,0
 ·obtain⟨x,dx,a,l,ns,rfl,hg,hS,hl,hb,hX,q⟩:=h
  refine#[_,(zi (yw (zaE DI hr rfl T.gO (za (pv 0) (za (pv 1) ze))))
   (zi (zP (zA qL (zK B.len (pv 2)) (zK B.len (pv 1)) (zE _))
    (zh (yH hx rfl TN.xi.toXC TN.ini rfl TN.g (za yB ze)))
    zy)
   (zi (ym PassesOwn.leaving rfl (yh (pv 2)) (zx (i:=3) lC.nd rfl (.inl rfl))
    (zh (zP (yj (jN uq uq zf (pv 3) (yQ (v:=.int 1000000) rfl g6 #[t6,rfl])))
     (zh (yH hx rfl TN.xi.toXC TN.ini rfl TN.g (za yB ze)))
     zy)))
   (zh (Y5 (pv 0) (xT jZ rfl B.tuple PySem.Pv.boot_tuple (za (pv 2) ze)) rfl))))),?_]
  have s16:=yb;have hbx:∀b o,b≠x->H b=tG o->upd H x (.ins CW dx [("letters",.str (tx l))]) b=tG o:=λb o hb e=>by rw[zk hb];exact e
  have hS1:SqL K (upd H x (.ins CW dx [("letters",.str (tx l))])) a (ns.map V.int):=by
   rcases hS with (h | ⟨o,h⟩) | h
   ·exact .inl (.inl (hbx _ _ (λe=>by rw[e,hX]at h;cases h) h))
   ·exact .inl (.inr #[o,hbx _ _ (λe=>by rw[e,hX]at h;cases h) h])
   ·exact .inr h
  refine zj (λσ H'=>H'=upd H x (.ins CW dx [("letters",.str (tx l))])/\σ=[!!x,~~~l,!!a,tH]) ?_ ?_
  ·ac_rfl;exact#[x,CW,dx,l,rfl,hg,T.cW,T.lW,hX,rfl]
  rintro σ H1 ⟨rfl,rfl⟩:_;right;refine zj (λσ H'=>H'=upd H x (.ins CW dx [("letters",.str (tx l))])/\σ=[!!x,~~~l,!!a,tH]) ?_ ?_
  ·have hl6:l.length<=6:=by have:=of_decide_eq_true hg;lia
   ac_rfl;refine#[ns.length,.inl #[_,hS1,by rw[aa]],⋯,yA (λh=>absurd ⋯ h) λ_=>trivial]
  rintro σ H1 ⟨rfl,rfl⟩:_;right;refine zj (λσ H'=>H'=upd H x (.ins CW dx [("letters",.str (tx l))])/\∃v3,σ=[!!x,~~~l,!!a,v3]) ?_ ?_
  ·ac_rfl;refine#[#[_,hS1],ForL.by (xs:=ns.map V.int) (λi σ H'=>H'=upd H x (.ins CW dx [("letters",.str (tx l))])/\∃v3,σ=[!!x,~~~l,!!a,v3]) #[rfl,tH,rfl] (λi σ H' _ h=>by rw[h.1];exact hS1) ?_ λσ H' h=>h];refine nm4 ?_;rintro i y σ H' hy ⟨rfl,v3,rfl⟩:_;rw[az]at hy;obtain⟨n,hn,rfl⟩:=tU.mp hy;obtain⟨n1,n2⟩:=hb n (ae hn);right;ac_rfl;exact yA (λ_=>yA (λh=>absurd n2 h) λ_=>trivial) λh=>absurd n1 h
  rintro σ H1 ⟨rfl,v3,rfl⟩:_;right;ac_rfl;refine#[_,.inl #[hS1,λw hw=>?_]];have hwx:w≠x:=λe=>by rw[e,zc]at hw;cases hw
  have hwH:H w=tH:=by rw[zk hwx]at hw;exact hw
  have hX2:=zd (o:=.tup (ns.map V.int)) hw _ _ (zc (H:=H) (a:=x) (o:=.ins CW dx [("letters",.str (tx l))]));refine#[_,_,_,hX2,T.cW,T.wW,by show 1<1000;decide,q w _ hwH hwx (λb o hb' e=>?_) ?_ zc]
  ·rw[zk hb'];exact zd hw _ _ (hbx b o hb' e)
  ·rw[zk hwx];exact zc
theorem JU{x y:V}{r:L2.St}:xp (tH::tH::r) (tG x::tG y::r):=#[rfl,λi v h=>by
 cases i with
 | zero=>cases h
 | succ i =>
  cases i with
  | zero=>cases h
  | succ i=>exact h]
def YA(CW:pC):Sp:=λvs H Q _=>∃(o dx t:pC) (w l:()) (ns:List Int),vs=[.ref o,.str (tx w)]/\w.length<=1000/\l.length<=6/\ns.length=l.length/\(∀n ∈ ns,1<=n/\n<=1000000)/\H o=tG (.ins CW dx [("letters",.str (tx l)),("weights",.ref t)])/\H t=tG (.tup (ns.map V.int))/\∀H',Same H H'->Q (.int (WM l ns w)) H'
theorem ve:sQz 2 ["self","word"] yd:=by nofun
theorem vn{f CO CR CW:pC}{fd:pG}(B:Bt mg)(T:TOrd K mg CO CR CW)(F:Fun K "weight" "ByWeights.weight" yd f fd) :(1&&&["self","word"]) (YA CW):=by
 exists F.ok ve
 ·obtain⟨o,dx,t,w,l,ns,rfl,hw,hl,hn,hb,ho,ht,q⟩:=h;refine#[_,(zh (zr (xg (zbH rfl) rfl B.sum fG (za (yO (g:=KI K 2 (jc (yR 0) (jc (yR 1) zaP))) (own:=["letter","weight"]) (caps:=["word"]) (ix:=[1]) (tt:=xQ) (te:=(tOp Qz (tBM K "str" Xi (zZ 2) (zH (zZ 0) xF)) (zZ 1))) rfl (zJ (sc:=zg yd) rfl (by symm) (by symm) (by symm) rfl (by symm) (by symm) rfl) (zcE rfl B.zip (za (Xr (pv 0) rfl) (za (Xr (pv 0) rfl) ze))) (λ_ _ _ _ _ _=>uA (n:=2) rfl (zY (zx (i:=0) (show List.Nodup [_,_,_] by decide) rfl (.inl rfl)) (zY (zx (i:=1) (show List.Nodup [_,_,_] by decide) rfl (.inl rfl)) wy))) (λ_ _ _ _ _ _=>z7) (λ_ _ _ _ _ _=>(zC K2 (xu bF fu fv VU (pv 2) (za (pv 0) ze)) (pv 1)))) ze)))),?_];have s16:=yb;ac_rfl;refine#[_,_,_,ho,T.cW,T.lW,_,rfl,_,_,_,ho,T.cW,T.wW,_,rfl,l,rfl,t,rfl,#[_,SqT.of ht],λD hD=>CompZ.by (ys:=ns.map V.int) (λi tM H'=>Same H H'/\H' D=tG (.lst tM)/\tM=((((l.zip ns).map λp=>(w.count p.1:Int) * p.2).take i).map V.int)) (by rw[aa];lia) #[zd hD,zc,rfl] (λi tM H' _ h=>SqT.of (h.1 _ _ ht)) ?_ ?_]
  ·rintro i c y tM H' p hc hy ⟨hs,hH,rfl⟩ hp;have hi:=(tN.mp hc).1;rw[az]at hy;obtain⟨n,hn',rfl⟩:=tU.mp hy
   have hz:((l.zip ns).map λp=>(w.count p.1:Int) * p.2)[i]? = tG ((w.count c:Int) * n):=by
    rw[az,(List.getElem?_zip_eq_some (z:=(c,n))).mpr #[hc,hn']];rfl
   obtain⟨n1,n2⟩:=hb n (ae hn');have hcl:w.count c<=w.length:=List.count_le_length;have hcn:(w.count c:Int) * n=(w.count c:Int) * n:=rfl
   erw[xQ]
   ac_rfl;refine#[_,SqT.of zc,rfl,_,_,rfl,_,_,rfl,rfl,JU,_,rfl,_,rfl,?_,zd hp _ _ hH,by rw[aa,aF];lia,?_]
   ·exact .inr #[⋯,⋯]
   ·rw[Yl];refine CNx.mk hi #[zw (hs.trans (zd hp)) hD,zc,?_];rw[zL hz,aq];rfl
  ·rintro tM H' ⟨hs,hH,rfl⟩;have e:l.length=((l.zip ns).map λp=>(w.count p.1:Int) * p.2).length:=by rw[aa,List.length_zip];lia
   refine#[D,rfl,_,SqL.of hH,?_];rw[e,aK];exact q _ hs
theorem zdH(l:())(c e:Nat):StrLaws.At (tx l) (tx [c]) (tx l).length e ↔ l[e]? = tG c:=by
 unfold StrLaws.At Builtin.Str.subAt;rw[zV,zV];have h1:[c].length=1:=rfl;rw[h1,beq_iff_eq]
 have e1:((tx l).cps.extract e (e+1)).toList=(l.drop e).take 1:=by
  show (l.toArray.extract e (e+1)).toList=_;simp [eP]
 have e2:((tx l).cps.extract e (e+1)=(tx [c]).cps) ↔ (l.drop e).take 1=[c]:=by
  constructor
  ·intro h;rw[<- e1,h]
  ·intro h;apply Array.toList_inj.mp;rw[e1,h]
 constructor
 ·rintro⟨h2,h3⟩;have:=e2.mp h3;rw[aR ⋯,dh,bI]at this;rw[ag ⋯];injection this with h _;rw[h]
 ·intro h;obtain⟨he,hx⟩:=tN.mp h;refine#[⋯,e2.mpr ?_];rw[aR he,dh,bI,hx]
theorem V5{l:()}{c:Nat}(h:c ∈ l):Txt.find (tx l) (tx [c])=((l.idxOf c:Nat):Int):=by
 have hlt:=aY h;have hg:l[l.idxOf c]? = tG c:=by rw[ag hlt,bT]
 rcases PyProof.Rows.find_whole (tx l) (tx [c])with ⟨h1,h2⟩ | ⟨e,h1,h2,h3⟩
 ·exact absurd ((zdH l c _).mpr hg) (h2 _)
 ·have he:=(zdH l c e).mp h2
  have:e=l.idxOf c:=by
   rcases eN e (l.idxOf c)with q | q | q
   ·have:=List.not_of_lt_findIdx (p:=(· == c)) q;obtain⟨h4,h5⟩:=tN.mp he;simp [h5]at this
   ·exact q
   ·exact absurd ((zdH l c _).mpr hg) (h3 _ q)
  rw[h1,this]
abbrev MkO(P:pH)(w:pK)(K:pB)(mg:pJ->Option pD)(base:pN)(C:pC):Prop:=DMk P w K mg base CX0 3 C ["self","letters"] (uT K)
abbrev MkW(P:pH)(w:pK)(K:pB)(mg:pJ->Option pD)(base:pN)(C:pC):Prop:=DMk P w K mg base (CXx P w) 4 C ["self","letters","weights"] (kB K C)
abbrev MW(P:pH)(w:pK)(K:pB)(mg:pJ->Option pD)(base:pN)(C:pC)(m:pJ)(sp:Sp):Prop:=DM P w K mg base CX0 1 C m ["self","word"] sp
structure TWS(P:pH)(w:pK)(K:pB)(mg:pJ->Option pD)(base:pN)(CO CR CW:pC):Prop extends TOrd K mg CO CR CW where
 mO:MkO P w K mg base CO
 mR:MkO P w K mg base CR
 mW:MkW P w K mg base CW
 wO:MW P w K mg base CO "weight" jJ
 wR:MW P w K mg base CR "weight" jJ
 wW':MW P w K mg base CW "weight" (YA CW)
 sO:MW P w K mg base CO "seen" Xc
 sR:MW P w K mg base CR "seen" Yp
 sW:MW P w K mg base CW "seen" Xc
structure OG(l:())(ns:List Int)(k:Nat):Prop where
 g:uJ l=tI
 k3:k<3
 nl:ns.length=l.length
 nb:∀n ∈ ns,1<=n/\n<=1000000
noncomputable def uK(l:())(w:()):List Int:=w.map λc=>((l.idxOf c:Nat):Int)
noncomputable def vJ(k:Nat)(l:())(w:()):List Int:=uK l (ye k w)
def zbX(CO CR CW:pC):pC->Prop:=λC=>C=CO\/C=CR\/C=CW
theorem OrdAt.fam{CO CR CW:pC}{H:Hp}{o:pC}{k:Nat}{l:()}{ns:List Int}(h:OrdAt CO CR CW H o k l ns):∃C dx fs,zbX CO CR CW C/\H o=tG (.ins C dx fs)/\(∀m:pJ,m≠"letters"->m≠"weights"->fs.lookup m=tH)/\fs.lookup ("letters" : pJ)=tG (V.str (tx l)):=by
 have e1:∀m:pJ,m≠"letters"->(m ==("letters" : pJ))=tJ:=λm hm=>by simpa using hm
 have e2:∀m:pJ,m≠"weights"->(m ==("weights" : pJ))=tJ:=λm hm=>by simpa using hm
 obtain⟨dx,⟨h1,h2⟩ | ⟨h1,h2⟩ | ⟨h1,h2,w,h3,h4⟩⟩:=h
 ·exact#[_,_,_,.inl rfl,h2,λm hm _=>by simp [bh,e1 m hm],rfl]
 ·exact#[_,_,_,.inr (.inl rfl),h2,λm hm _=>by simp [bh,e1 m hm],rfl]
 ·exact#[_,_,_,.inr (.inr rfl),h3,λm hm hm2=>by simp [bh,e1 m hm,e2 m hm2],rfl]
def qg(CO CR CW:pC):Sp:=λvs H Q _=>∃(o:pC) (k:Nat) (l:()) (ns:List Int) (w:()),vs=[.ref o,.str (tx w)]/\OrdAt CO CR CW H o k l ns/\OG l ns k/\w.length<=1000/\(∀c ∈ w,c ∈ l)/\∀(p q:pC) (H':Hp),Same H H'->H' p=tG (.tup [.int (zq k l ns w),.ref q])->H' q=tG (.lst ((vJ k l w).map V.int))->Q (.ref p) H'
theorem QE{H:Hp}{CO CR CW o D:pC}{k:Nat}{l:()}{ns:List Int}{v:()}{a1:Option V}{Q:VK}(T:TOrd K mg CO CR CW)(ho:OrdAt CO CR CW H o k l ns)(hl:v.length<=1000)(hm:∀c ∈ v,c ∈ l)(hD:H D=tH)(q:∀H',Same H H'->H' D=tG (.lst ((uK l v).map V.int))->Q (.ref D) H') :
  CompS (tx v) (yR 0) xQ (tBM K "str" zv (zbe K (zZ 1) "letters") (zH (zZ 0) xF)) 1 [0] [!!o,a1] H Q D:=by
 have s16:=yb;refine CompS.by (λi tM H'=>Same H H'/\H' D=tG (.lst tM)/\tM=(uK l (v.take i)).map V.int) #[zd hD,zc,rfl] ?_ ?_
 ·refine nm4 ?_;rintro i c tM H' hc ⟨hs,hH,rfl⟩:_;have hci:=(tN.mp hc).1;have hcl:=hm c (ae hc);obtain⟨C,dx,fs,hf,ho',_,hlk⟩:=(ho.same hs).fam
  have hC:Cls K C/\NoAttr K C "letters":=by
   rcases hf with rfl | rfl | rfl
   ·exact#[T.cO,T.lO]
   ·exact#[T.cR,T.lR]
   ·exact#[T.cW,T.lW]
  right
  erw[xQ]
  ac_rfl;refine#[yM,_,_,_,ho',hC.1,hC.2,_,hlk,trivial,_,rfl,_,V5 hcl,hH,by rw[aa];unfold uK;rw[aa,aF];lia,CNx.mk hci #[zw hs hD,zc,?_]];unfold uK;rw[zL hc,aq,aq];rfl
 ·rintro tM H' ⟨hs,hH,rfl⟩;rw[aK]at hH;exact q H' hs hH
theorem jK:sQz 2 ["self","word"] xE:=by nofun
theorem wd{f CO CR CW:pC}{fd:pG}(B:Bt mg)(T:TWS P w K mg base CO CR CW)(F:Fun K "rank" "Order.rank" xE f fd) :(2&&&["self","word"]) (qg CO CR CW):=by
 exists F.ok jK
 ·obtain⟨o,k,l,ns,w,rfl,ho,hG,hw,hm,q⟩:=h;refine#[_,(zh (zr (zO (za (zcG T.wO T.wR T.wW' T.cO T.cR T.cW hr (pv 0) (za (pv 1) ze)) (za (yO (own:=["letter"]) (caps:=["self"]) (ix:=[0]) (tt:=xQ) (te:=(tBM K "str" zv (zbe K (zZ 1) "letters") (zH (zZ 0) xF))) rfl (zJ (sc:=zg xE) rfl (by symm) (by symm) (by symm) rfl (by symm) (by symm) rfl) (ZR (zcG T.sO T.sR T.sW T.cO T.cR T.cW hr (pv 0) (za (pv 1) ze))) (λ_ _ _ _ _ _=>zx (i:=0) (show List.Nodup [_,_] by decide) rfl (.inl rfl)) (λ_ _ _ _ _ _=>z7) (λ_ _ _ _ _ _=>(xu bF PySem.F.slot_str_index PySem.F.type_str_index zaN (Xr (pv 1) rfl) (za (pv 0) ze)))) ze))))),?_];have s16:=yb
  have hsl:(ye k w).length<=1000:=by
   unfold ye;split
   ·rw[cw];exact hw
   ·exact hw
  have hsm:∀c ∈ ye k w,c ∈ l:=λc hc=>by
   unfold ye at hc;split at hc
   ·exact hm c (tW.mp hc)
   ·exact hm c hc
  have l6:l.length<=6:=(of_decide_eq_true hG.g).2.1;have fin:∀H1,Same H H1->∀D,H1 D=tH->CompS (tx (ye k w)) (yR 0) xQ (tBM K "str" zv (zbe K (zZ 1) "letters") (zH (zZ 0) xF)) 1 [0] [!!o,~~~w] H1 (λx5 H1=>2<=pA/\∀p,H1 p=tH->Q (.ref p) (upd H1 p (.tup [.int (zq k l ns w),x5]))) D:=λH1 s1 D hD=>QE T.toTOrd (ho.same s1) hsl hsm hD λH' s' hH=>#[⋯,λp hp=>q p D _ (s1.trans (s'.trans (zd hp))) zc (zd hp _ _ hH)];ac_rfl;obtain⟨dx',⟨h1,h2⟩ | ⟨h1,h2⟩ | ⟨h1,h2,t',h3,h4⟩⟩:=id ho
  ·have e1:zq k l ns w=(w.length:Int):=by unfold zq;rw[if_neg ⋯]
   have e2:ye k w=w:=by unfold ye;rw[if_neg ⋯]
   rw[e1,e2]at fin;exact .inl #[_,_,h2,rfl,o,w,rfl,hw,.inl #[_,_,h2,rfl,o,w,rfl,_,rfl,fin H (Same.refl _)]]
  ·have e1:zq k l ns w=(w.length:Int):=by unfold zq;rw[if_neg ⋯]
   have e2:ye k w=w.reverse:=by unfold ye;rw[if_pos h1]
   rw[e1,e2]at fin;exact .inr (.inl #[_,_,h2,rfl,o,w,rfl,hw,.inr (.inl #[_,_,h2,rfl,o,w,rfl,hw,_,rfl,fin H (Same.refl _)])])
  ·have e1:zq k l ns w=WM l ns w:=by unfold zq;rw[if_pos h1]
   have e2:ye k w=w:=by unfold ye;rw[if_neg ⋯]
   rw[e1,e2]at fin;exact .inr (.inr #[_,_,h3,rfl,o,dx',t',w,l,ns,rfl,hw,l6,hG.nl,hG.nb,h3,h4,λH' s'=>.inr (.inr #[_,_,s' _ _ h3,rfl,o,w,rfl,_,rfl,fin H' s'])])
noncomputable def zG(k:Nat)(l:())(ns:List Int)(u v:()):Bool:=if zq k l ns u=zq k l ns v then ltI (vJ k l u) (vJ k l v)else decide (zq k l ns u<zq k l ns v)
abbrev DR(P:pH)(w:pK)(K:pB)(mg:pJ->Option pD)(base:pN)(CO CR CW:pC):Prop:=DMF P w K mg base CX0 2 (zbX CO CR CW) "rank" ["self","word"] (λ_=>qg CO CR CW)
theorem qQ{H:Hp}{p q:pC}{z:Int}{ns:List Int}(hp:H p=tG (.tup [.int z,.ref q]))(hq:H q=tG (.lst (ns.map V.int))):Is K H (.tup [.int z,.lst (ns.map L3.D.int)]) (.ref p):=by
 erw[Is,Iss]
 exact#[p,_,rfl,SqT.of hp,_,_,rfl,rfl,_,_,rfl,#[q,_,rfl,SqL.of hq,Iss.ints ns],rfl]
theorem xl:∀x:List Int,ltI x x=tJ
 | []=>rfl
 | a::x=>by
  rw[ltI,if_pos rfl];exact xl x
theorem Uf(a b:Int)(x y:List Int):ltD (.tup [.int a,.lst (x.map L3.D.int)]) (.tup [.int b,.lst (y.map L3.D.int)])=if a=b then ltI x y else decide (a<b):=by
 erw[ltD,vD,eqD,Zs,Z0]
 by_cases h:a=b
 ·subst h;by_cases h2:x=y
  ·subst h2;simp [xl]
  ·simp [h2]
 ·simp [h]
def Uw(CO CR CW:pC):Sp:=λvs H Q _=>∃(o:pC) (k:Nat) (l:()) (ns:List Int) (u v:()),vs=[.ref o,.str (tx u),.str (tx v)]/\OrdAt CO CR CW H o k l ns/\OG l ns k/\u.length<=1000/\v.length<=1000/\(∀c ∈ u,c ∈ l)/\(∀c ∈ v,c ∈ l)/\∀H':Hp,Same H H'->Q (.bl (zG k l ns u v)) H'
theorem qI:sQz 3 ["self","one","other"] xI:=by nofun
theorem xq{f CO CR CW:pC}{fd:pG}(B:Bt mg)(DRk:DR P w K mg base CO CR CW)(F:Fun K "before" "Order.before" xI f fd) :(3&&&["self","one","other"]) (Uw CO CR CW):=by
 exists F.ok qI
 ·obtain⟨o,k,l,ns,u,v,rfl,ho,hG,hu,hv,hmu,hmv,q⟩:=h;refine#[_,(zh (zr (uc (zb8 (Z9 hr)) (zbi DRk hr (pv 0) (za (pv 1) ze)) (zbi DRk hr (pv 0) (za (pv 2) ze)) (zE _)))),?_];have s16:=yb;ac_rfl;obtain⟨C,dx,fs,hf,ho1,hn,_⟩:=ho.fam;have h1:fs.lookup ("rank" : pJ)=tH:=hn _ ∅ ∅;refine#[C,hf,dx,fs,ho1,h1,o,k,l,ns,u,rfl,ho,hG,hu,hmu,λp x H1 s1 hp hx=>#[C,hf,dx,fs,s1 _ _ ho1,h1,o,k,l,ns,v,rfl,ho.same s1,hG,hv,hmv,λp' x' H2 s2 hp' hx'=>?_]];refine zai (qQ (s2 _ _ hp) (s2 _ _ hx)) (qQ hp' hx') (by erw[dpD,uE,Yj];decide) (by erw[okD,jU];exact#[trivial,qf _ _,trivial]) ?_;rw[Uf];exact q H2 (s1.trans s2)
abbrev DB(P:pH)(w:pK)(K:pB)(mg:pJ->Option pD)(base:pN)(CO CR CW:pC):Prop:=DMF P w K mg base CX0 3 (zbX CO CR CW) "before" ["self","one","other"] (λ_=>Uw CO CR CW)
noncomputable def Qt(k:Int)(ls:())(ns:List Int)(w:()):Int:=(w.map λc=>if k=2 then ns.getD (ls.idxOf c) 0 else 1).sum
theorem Jz{k:Int}{ls:()}{ns:List Int}{w:()}(h:k≠2):Qt k ls ns w=(w.length:Int):=by
 unfold Qt
 induction w with
 | nil=>rfl
 | cons c w ih =>
  rw[ar,bz,ih,if_neg h,aD];lia
theorem qp{ls:()}{ns:List Int}(f g:Nat->Int):((ls.zip ns).map λp=>(f p.1+g p.1) * p.2).sum=((ls.zip ns).map λp=>f p.1 * p.2).sum+((ls.zip ns).map λp=>g p.1 * p.2).sum:=by
 induction ls.zip ns with
 | nil=>rfl
 | cons p r ih =>
  rw[ar,ar,ar,bz,bz,bz,ih,Int.add_mul];lia
theorem Ul:∀{ls:()} {ns:List Int} {c:Nat},ls.Nodup->ns.length=ls.length->c ∈ ls->((ls.zip ns).map λp=>(if p.1=c then (1:Int)else 0) * p.2).sum=ns.getD (ls.idxOf c) 0
 | [],ns,c,_,_,hc=>(nomatch hc)
 | d::ls,[],c,_,hl,_=>by cases hl
 | d::ls,n::ns,c,hn,hl,hc=>by
  rw[dC,ar,bz];have hnd:=tV.mp hn;by_cases h:d=c
  ·subst h
   have h0:∀(l:()) (m:List Int),d ∉ l->((l.zip m).map λp=>(if p.1=d then (1:Int)else 0) * p.2).sum=0:=by
    intro l
    induction l with
    | nil=>intro m _;rfl
    | cons x l ih =>
     intro m hx
     cases m with
     | nil=>rfl
     | cons y m =>
      rw[dC,ar,bz,ih m (λq=>hx (ao _ q)),if_neg (show ¬ x=d from λe=>hx (by rw[e];exact av))];lia
   rw[h0 ls ns hnd.1,if_pos rfl,fP];simp
  ·have hc':c ∈ ls:=by
    rcases tP.mp hc with e | e
    ·exact absurd e.symm h
    ·exact e
   rw[Ul hnd.2 (by simpa using hl) hc',if_neg h,List.idxOf_cons,show (d == c)=tJ by simpa using h];simp
theorem ka{ls:()}{ns:List Int}(hn:ls.Nodup)(hl:ns.length=ls.length):∀{w:()},(∀x ∈ w,x ∈ ls)->Qt 2 ls ns w=WM ls ns w
 | [],_=>by
  have h0:∀r:List (Nat × Int),(r.map λp=>((([]:()).count p.1:Nat):Int) * p.2).sum=0:=by
   intro r
   induction r with
   | nil=>rfl
   | cons p r ih=>rw[ar,bz,ih];simp
  exact (h0 _).symm
 | c::w,h=>by
  have ih:=ka hn hl (w:=w) λx hx=>h x (ao _ hx)
  have e1:Qt 2 ls ns (c::w)=ns.getD (ls.idxOf c) 0+Qt 2 ls ns w:=by
   unfold Qt;rw[ar,bz,if_pos rfl]
  rw[e1,ih,<- Ul hn hl (h c av)];unfold WM;rw[<- qp (λx=>if x=c then 1 else 0) (λx=>(w.count x:Int))];refine congrArg List.sum (bw λp _=>?_);rw[List.count_cons];by_cases e:c=p.1
  ·rw[if_pos e.symm,if_pos (by simpa using e)];simp [Int.add_comm]
  ·rw[if_neg (λz=>e z.symm),if_neg (by simpa using e)];simp
noncomputable def wt(k:Nat)(ns:List Int)(i:Int):Int:=if k=2 then ns.getD i.toNat 0 else 1
theorem xW{g:Int->Int}:∀{x:List Int},(∀i ∈ x,0<g i)->0<=(x.map g).sum
 | [],_=>by simp
 | a::x,h=>by
  have h1:=h a av;have h2:=xW (x:=x) λi hi=>h i (ao _ hi);rw[ar,bz];lia
theorem wq:∀{x y:List Int},x≠y->ltI x y=!ltI y x
 | [],[],h=>absurd rfl h
 | [],_::_,_=>rfl
 | _::_,[],_=>rfl
 | a::x,b::y,h=>by
  rw[ltI,ltI];by_cases e:a=b
  ·rw[if_pos e,if_pos e.symm];exact wq λq=>h (by rw[e,q])
  ·rw[if_neg e,if_neg λq=>e q.symm];by_cases c:a<b
   ·rw[decide_eq_true c,decide_eq_false ⋯];rfl
   ·rw[decide_eq_false c,decide_eq_true ⋯];rfl
theorem qi:∀{x y z:List Int},ltI x y=tI->ltI y z=tI->ltI x z=tI
 | [],[],_,h,_=>by cases h
 | [],_::_,[],_,h=>by cases h
 | [],_::_,_::_,_,_=>rfl
 | _::_,[],_,h,_=>by cases h
 | _::_,_::_,[],_,h=>by cases h
 | a::x,b::y,c::z,h1,h2=>by
  rw[ltI]at h1 h2 ⊢;by_cases e:a=b
  ·subst e;rw[if_pos rfl]at h1;by_cases f:a=c
   ·rw[if_pos f]at h2 ⊢;exact qi h1 h2
   ·rw[if_neg f]at h2 ⊢;exact h2
  ·rw[if_neg e]at h1;have h1':=of_decide_eq_true h1;by_cases f:b=c
   ·subst f;rw[if_neg e];exact h1
   ·rw[if_neg f]at h2;have h2':=of_decide_eq_true h2;rw[if_neg ⋯];exact decide_eq_true ⋯
theorem YC:∀(c x y:List Int),ltI (c ++ x) (c ++ y)=ltI x y
 | [],_,_=>rfl
 | a::c,x,y=>by
  rw[aV,aV,ltI,if_pos rfl];exact YC c x y
theorem Xl{g:Int->Int}{c:List Int}:∀{x y:List Int},(∀i ∈ x,0<g i)->(∀i ∈ y,0<g i)->(x.map g).sum=(y.map g).sum->ltI (x ++ c) (y ++ c)=ltI x y
 | [],[],_,_,_=>xl c
 | [],b::y,_,hy,h=>by
  have h1:=hy b av;have h2:=xW (x:=y) λi hi=>hy i (ao _ hi);rw[ar,bz,aJ,List.sum_nil]at h;lia
 | a::x,[],hx,_,h=>by
  have h1:=hx a av;have h2:=xW (x:=x) λi hi=>hx i (ao _ hi);rw[ar,bz,aJ,List.sum_nil]at h;lia
 | a::x,b::y,hx,hy,h=>by
  rw[aV,aV,ltI,ltI];by_cases e:a=b
  ·rw[if_pos e,if_pos e];rw[ar,bz,ar,bz,e]at h;exact Xl (λi hi=>hx i (ao _ hi)) (λi hi=>hy i (ao _ hi)) ⋯
  ·rw[if_neg e,if_neg e]
section
variable{k:Nat}{l:()}{ns:List Int}{t u v:()}
theorem Jr(a b:()):WM l ns (a ++ b)=WM l ns a+WM l ns b:=by
 unfold WM;rw[<- qp (λx=>(a.count x:Int)) (λx=>(b.count x:Int))];refine congrArg List.sum (bw λp _=>?_);rw[cI];simp
theorem yE(a b:()):zq k l ns (a ++ b)=zq k l ns a+zq k l ns b:=by
 unfold zq;by_cases h:k=2
 ·rw[if_pos h,if_pos h,if_pos h,Jr]
 ·rw[if_neg h,if_neg h,if_neg h,ah];lia
theorem xj(G:OG l ns k):∀{w:()},(∀c ∈ w,c ∈ l)->zq k l ns w=((uK l w).map (wt k ns)).sum:=by
 intro w hm;have hn:l.Nodup:=(of_decide_eq_true G.g).2.2.2
 have e:((uK l w).map (wt k ns)).sum=Qt (k:Int) l ns w:=by
  unfold uK Qt;rw[cp];refine congrArg List.sum (bw λc _=>?_);show wt k ns _=_;unfold wt;by_cases h:k=2
  ·rw[if_pos h,if_pos ⋯,aX]
  ·rw[if_neg h,if_neg ⋯]
 rw[e];unfold zq;by_cases h:k=2
 ·rw[if_pos h,h];exact (ka hn G.nl hm).symm
 ·rw[if_neg h,Jz ⋯]
theorem Zq(G:OG l ns k)(hm:∀c ∈ u,c ∈ l):∀i ∈ uK l u,0<wt k ns i:=by
 intro i hi;obtain⟨c,hc,rfl⟩:=tO.mp hi;have hlt:=aY (hm c hc);have hl:=G.nl;unfold wt;split
 ·rw[aX,af,ag ⋯];have:=(G.nb _ (dc (l:=ns) (n:=l.idxOf c) ⋯)).1;show 0<ns[l.idxOf c];lia
 ·decide
theorem vB(G:OG l ns k)(hm:∀c ∈ u,c ∈ l):0<=zq k l ns u:=by
 rw[xj G hm];exact xW (Zq G hm)
theorem jC(G:OG l ns k)(hm:∀c ∈ u,c ∈ l)(h:u≠[]):0<zq k l ns u:=by
 cases u with
 | nil=>exact absurd rfl h
 | cons a u =>
  have h1:=Zq G hm (l.idxOf a:Nat) (tO.mpr #[a,av,rfl]);have h2:0<=((uK l u).map (wt k ns)).sum:=xW (Zq (u:=u) G λc hc=>hm c (ao _ hc));rw[xj G hm];show 0<((((l.idxOf a:Nat):Int)::uK l u).map (wt k ns)).sum;rw[ar,bz];lia
theorem kY:∀{u v:()},(∀c ∈ u,c ∈ l)->(∀c ∈ v,c ∈ l)->uK l u=uK l v->u=v
 | [],[],_,_,_=>rfl
 | [],_::_,_,_,h=>by cases h
 | _::_,[],_,_,h=>by cases h
 | a::u,b::v,hu,hv,h=>by
  unfold uK at h;rw[ar,ar]at h;injection h with h1 h2;have h3:l.idxOf a=l.idxOf b:=⋯;have ha:=bT (aY (hu a av));have hb:=bT (aY (hv b av))
  have:a=b:=by
   rw[<- ha,<- hb]
   erw[h3]
  rw[this,kY (λc hc=>hu c (ao _ hc)) (λc hc=>hv c (ao _ hc)) h2]
theorem yD:zG k l ns u u=tJ:=by
 unfold zG;rw[if_pos rfl,xl]
theorem XH(hu:∀c ∈ u,c ∈ l)(hv:∀c ∈ v,c ∈ l)(h:vJ k l u=vJ k l v):u=v:=by
 unfold vJ ye at h;by_cases e:k=1
 ·rw[if_pos e,if_pos e]at h;exact List.reverse_inj.mp (kY (λc hc=>hu c (tW.mp hc)) (λc hc=>hv c (tW.mp hc)) h)
 ·rw[if_neg e,if_neg e]at h;exact kY hu hv h
theorem vf(hu:∀c ∈ u,c ∈ l)(hv:∀c ∈ v,c ∈ l)(h:u≠v):zG k l ns u v=!zG k l ns v u:=by
 unfold zG;by_cases e:zq k l ns u=zq k l ns v
 ·rw[if_pos e,if_pos e.symm];exact wq λq=>h (XH hu hv q)
 ·rw[if_neg e,if_neg λq=>e q.symm];by_cases c:zq k l ns u<zq k l ns v
  ·rw[decide_eq_true c,decide_eq_false ⋯];rfl
  ·rw[decide_eq_false c,decide_eq_true ⋯];rfl
theorem vg(h1:zG k l ns t u=tI)(h2:zG k l ns u v=tI):zG k l ns t v=tI:=by
 unfold zG at h1 h2 ⊢;generalize zq k l ns t=a at *;generalize zq k l ns u=b at *;generalize zq k l ns v=c at *;by_cases e:a=b
 ·subst e;rw[if_pos rfl]at h1;by_cases f:a=c
  ·rw[if_pos f]at h2 ⊢;exact qi h1 h2
  ·rw[if_neg f]at h2 ⊢;exact h2
 ·rw[if_neg e]at h1;have h1':=of_decide_eq_true h1;by_cases f:b=c
  ·subst f;rw[if_neg e];exact h1
  ·rw[if_neg f]at h2;have h2':=of_decide_eq_true h2;rw[if_neg ⋯];exact decide_eq_true ⋯
theorem Y8(a b:()):uK l (a ++ b)=uK l a ++ uK l b:=aq
theorem Zm(G:OG l ns k)(hu:∀c ∈ u,c ∈ l)(hv:∀c ∈ v,c ∈ l)(e:zq k l ns u=zq k l ns v)(c:List Int):ltI (uK l u ++ c) (uK l v ++ c)=ltI (uK l u) (uK l v):=by
 rw[xj G hu,xj G hv]at e;exact Xl (Zq G hu) (Zq G hv) e
theorem jl(G:OG l ns k)(hu:∀c ∈ u,c ∈ l):zq k l ns u.reverse=zq k l ns u:=by
 rw[xj G hu,xj G λc hc=>hu c (tW.mp hc)];unfold uK;rw[List.map_reverse,List.map_reverse,List.sum_reverse]
theorem Zc(G:OG l ns k)(ht:∀c ∈ t,c ∈ l)(hu:∀c ∈ u,c ∈ l)(hv:∀c ∈ v,c ∈ l):zG k l ns (t ++ u) (t ++ v)=zG k l ns u v/\zG k l ns (u ++ t) (v ++ t)=zG k l ns u v:=by
 have hur:∀c ∈ u.reverse,c ∈ l:=λc hc=>hu c (tW.mp hc);have hvr:∀c ∈ v.reverse,c ∈ l:=λc hc=>hv c (tW.mp hc);unfold zG;rw[yE,yE,yE,yE];by_cases e:zq k l ns u=zq k l ns v
 ·rw[if_pos ⋯,if_pos e,if_pos ⋯];unfold vJ ye;by_cases f:k=1
  ·erw[if_pos f,List.reverse_append,Y8]
   exact#[Zm G hur hvr (by rw[jl G hu,jl G hv,e]) _,YC _ _ _]
  ·erw[if_neg f,Y8]
   exact#[YC _ _ _,Zm G hu hv e _]
 ·rw[if_neg ⋯,if_neg e,if_neg ⋯];exact#[by congr 1;exact propext ⋯,by congr 1;exact propext ⋯]
theorem Xk(G:OG l ns k)(ht:∀c ∈ t,c ∈ l)(hu:∀c ∈ u,c ∈ l)(hv:∀c ∈ v,c ∈ l)(h:t ++ u ++ v≠u):zG k l ns u (t ++ u ++ v)=tI/\zG k l ns (t ++ u ++ v) u=tJ:=by
 have h0:0<zq k l ns t+zq k l ns v:=by
  have h1:=vB G ht;have h2:=vB G hv;by_cases e:t=[]
  ·by_cases f:v=[]
   ·subst e f;simp at h
   ·have:=jC G hv f;lia
  ·have:=jC G ht e;lia
 unfold zG;rw[yE,yE,if_neg ⋯,if_neg ⋯];exact#[decide_eq_true ⋯,decide_eq_false ⋯]
end
theorem ZL:∀x y:List Int,ltI x y=tI->ltI y x=tJ
 | [],[],h=>by cases h
 | [],_::_,_=>rfl
 | _::_,[],h=>by cases h
 | a::x,b::y,h=>by
  rw[ltI]at h ⊢;by_cases e:a=b
  ·rw[if_pos e]at h;rw[if_pos e.symm];exact ZL x y h
  ·rw[if_neg e]at h;rw[if_neg (λq=>e q.symm)];have:=of_decide_eq_true h;exact decide_eq_false ⋯
theorem wj{k:Nat}{l:()}{ns:List Int}{u v:()}(h:zG k l ns u v=tI):zG k l ns v u=tJ:=by
 unfold zG at h ⊢;by_cases e:zq k l ns u=zq k l ns v
 ·rw[if_pos e]at h;rw[if_pos e.symm];exact ZL _ _ h
 ·rw[if_neg e]at h;rw[if_neg (λq=>e q.symm)];have:=of_decide_eq_true h;exact decide_eq_false ⋯
noncomputable def stJ(l:())(ps:List zm)(q j:Nat):Bool:=((ps[j]?).map λp=>zt l (q:Int) p.1).getD tJ
theorem jx{l:()}{ps:List zm}{q j:Nat}{p:zm}(h:ps[j]? = tG p):stJ l ps q j=zt l (q:Int) p.1:=by
 unfold stJ;rw[h];rfl
theorem w6{l:()}{ps:List zm}{q j:Nat}(h:stJ l ps q j=tI):j<ps.length/\∃p,ps[j]? = tG p/\zt l (q:Int) p.1=tI:=by
 unfold stJ at h
 cases e:ps[j]? with
 | none=>rw[e]at h;cases h
 | some p =>
  rw[e]at h;exact#[(tN.mp e).1,p,rfl,h]
noncomputable def qx(l:())(ps:List zm)(q i:Nat):List (Nat × Nat):=((aW i).filter (stJ l ps q)).map λj=>(j,q)
noncomputable def xN(l:())(ps:List zm)(k:Nat):List (Nat × Nat):=(aW k).flatMap λq=>qx l ps q ps.length
theorem Wy(l:())(ps:List zm)(q i:Nat):qx l ps q (i+1)=qx l ps q i ++ (if stJ l ps q i=tI then [(i,q)]else []):=by
 unfold qx;rw[cT,bu,aq];congr 1;by_cases h:stJ l ps q i=tI
 ·rw[if_pos h,dH h];rfl
 ·rw[if_neg h,dI h];rfl
theorem jk(l:())(ps:List zm)(k:Nat):xN l ps (k+1)=xN l ps k ++ qx l ps k ps.length:=by
 unfold xN;rw[cT,cL];simp
theorem WO(l:())(ps:List zm)(q i:Nat):(qx l ps q i).length<=i:=by
 unfold qx;rw[aa];have:=cE (stJ l ps q) (aW i);rw[dL]at this;exact this
theorem Vv(l:())(ps:List zm):∀k,(xN l ps k).length<=k * ps.length
 | 0=>by simp [xN]
 | k+1=>by
  rw[jk,ah,eQ];have:=Vv l ps k;have:=WO l ps k ps.length;lia
theorem usesN_mem{l:()}{ps:List zm}{q i:Nat}{u:Nat × Nat}:u ∈ qx l ps q i ↔ u.2=q/\u.1<i/\stJ l ps q u.1=tI:=by
 unfold qx;rw[List.mem_map];constructor
 ·rintro⟨j,hj,rfl⟩;rw[List.mem_filter,fH]at hj;exact#[rfl,hj.1,hj.2]
 ·rintro⟨h1,h2,h3⟩;exact#[u.1,tS.mpr #[tT.mpr h2,h3],by rw[<- h1]]
theorem usesK_mem{l:()}{ps:List zm}{k:Nat}{u:Nat × Nat}:u ∈ xN l ps k ↔ u.2<k/\stJ l ps u.2 u.1=tI:=by
 unfold xN;rw[List.mem_flatMap];constructor
 ·rintro⟨q,hq,hu⟩;obtain⟨h1,h2,h3⟩:=usesN_mem.mp hu;rw[fH]at hq;rw[h1];exact#[hq,h3]
 ·rintro⟨h1,h2⟩;exact#[u.2,tT.mpr h1,usesN_mem.mpr #[rfl,(w6 h2).1,h2]]
def uLt(a b:Nat × Nat):Prop:=a.2<b.2\/(a.2=b.2/\a.1<b.1)
theorem uC(l:())(ps:List zm)(q:Nat):∀i,(qx l ps q i).Pairwise uLt
 | 0=>by simp [qx]
 | i+1=>by
  rw[Wy];refine Ac.mpr #[uC l ps q i,?_,λa ha b hb=>?_]
  ·split
   ·exact dD _ _
   ·exact List.Pairwise.nil
  ·obtain⟨h1,h2,_⟩:=usesN_mem.mp ha;split at hb
   ·rw[tR.mp hb];exact .inr #[h1,h2]
   ·cases hb
theorem wu(l:())(ps:List zm):∀k,(xN l ps k).Pairwise uLt
 | 0=>by simp [xN]
 | k+1=>by
  rw[jk];refine Ac.mpr #[wu l ps k,uC l ps k _,λa ha b hb=>?_];have h1:=(usesK_mem.mp ha).1;have h2:=(usesN_mem.mp hb).1;exact .inl ⋯
def FirstN(l:())(ps:List zm)(lo hi n:Nat)(r:Option (Nat × Nat)):Prop :=
 (r=tH/\∀j q,j<n->lo<=q->q<hi->stJ l ps q j=tJ) \/
 ∃n0 q0,r=tG (n0,q0)/\n0<n/\lo<=q0/\q0<hi/\stJ l ps q0 n0=tI/\∀j q,j<n->lo<=q->stJ l ps q j=tI->q0<q\/(q0=q/\n0<=j)
theorem FirstN.uniq{l:()}{ps:List zm}{lo hi n:Nat}{r r':Option (Nat × Nat)}(h:FirstN l ps lo hi n r)(h':FirstN l ps lo hi n r'):r=r':=by
 rcases h with ⟨rfl,h⟩ | ⟨n0,q0,rfl,a1,a2,a3,a4,a5⟩
 ·rcases h' with ⟨rfl,_⟩ | ⟨n0,q0,rfl,a1,a2,a3,a4,a5⟩
  ·rfl
  ·rw[h n0 q0 a1 a2 a3]at a4;cases a4
 ·rcases h' with ⟨rfl,h⟩ | ⟨n1,q1,rfl,b1,b2,b3,b4,b5⟩
  ·rw[h n0 q0 a1 a2 a3]at a4;cases a4
  ·have x1:=a5 n1 q1 b1 b2 b4;have x2:=b5 n0 q0 a1 a2 a4;have e1:q0=q1:=⋯;have e2:n0=n1:=⋯;rw[e1,e2]
theorem Wz{l:()}{ps:List zm}{r:Option (Nat × Nat)}(h:FirstN l ps 0 l.length ps.length r):r=(xN l ps l.length).head?:=by
 have hs:=wu l ps l.length;refine h.uniq ?_
 cases e:xN l ps l.length with
 | nil =>
  refine .inl #[rfl,λj q _ _ hq=>?_]
  cases hb:stJ l ps q j with
  | false=>rfl
  | true =>
   have:(j,q) ∈ xN l ps l.length:=usesK_mem.mpr #[hq,hb];rw[e]at this;cases this
 | cons u us =>
  rw[e]at hs;have hu:u ∈ xN l ps l.length:=by rw[e];exact av
  obtain⟨h1,h2⟩:=usesK_mem.mp hu;refine .inr #[u.1,u.2,rfl,(w6 h2).1,aG _,h1,h2,λj q hj _ hb=>?_];by_cases hq:q<l.length
  ·have:(j,q) ∈ xN l ps l.length:=usesK_mem.mpr #[hq,hb];rw[e]at this;rcases tP.mp this with e2 | e2
   ·rw[<- e2];exact .inr #[rfl,al _]
   ·rcases (tX.mp hs).1 _ e2 with h | ⟨h,h'⟩
    ·exact .inl h
    ·exact .inr #[h,cY h']
  ·exact .inl ⋯
theorem qN{l p:()}{q:Nat}(hp:p≠[])(h:zt l (q:Int) p=tI):q<l.length:=by
 obtain⟨h0,h1,_⟩:=of_decide_eq_true h;have:0<p.length:=Ad.mpr hp;lia
theorem FirstN.keep{l:()}{ps:List zm}{lo hi n:Nat}{r:Option (Nat × Nat)}{p:zm}(h:FirstN l ps lo hi n r)(hp:ps[n]? = tG p)(hn:∀q:Nat,lo<=q->q<(r.map Prod.snd).getD hi->zt l (q:Int) p.1=tJ):FirstN l ps lo hi (n+1) r:=by
 rcases h with ⟨rfl,h⟩ | ⟨n0,q0,rfl,a1,a2,a3,a4,a5⟩
 ·refine .inl #[rfl,λj q hj h1 h2=>?_];by_cases e:j<n
  ·exact h j q e h1 h2
  ·have:j=n:=⋯;subst this;rw[jx hp];exact hn q h1 h2
 ·refine .inr #[n0,q0,rfl,⋯,a2,a3,a4,λj q hj h1 h2=>?_];by_cases e:j<n
  ·exact a5 j q e h1 h2
  ·have:j=n:=⋯;subst this;rw[jx hp]at h2;by_cases hq:q<q0
   ·rw[hn q h1 hq]at h2;cases h2
   ·lia
theorem FirstN.take{l:()}{ps:List zm}{lo hi n k:Nat}{r:Option (Nat × Nat)}{p:zm}(h:FirstN l ps lo hi n r)(hp:ps[n]? = tG p)(h1:lo<=k)(h2:k<(r.map Prod.snd).getD hi)(h3:zt l (k:Int) p.1=tI)(hn:∀q:Nat,lo<=q->q<k->zt l (q:Int) p.1=tJ):FirstN l ps lo hi (n+1) (tG (n,k)):=by
 have hk:k<hi/\∀j q,j<n->lo<=q->stJ l ps q j=tI->k<q:=by
  rcases h with ⟨rfl,h⟩ | ⟨n0,q0,rfl,a1,a2,a3,a4,a5⟩
  ·refine#[h2,λj q hj hl hb=>?_];by_cases hq:q<hi
   ·rw[h j q hj hl hq]at hb;cases hb
   ·have h2':k<hi:=h2;lia
  ·have h2':k<q0:=h2;refine#[⋯,λj q hj hl hb=>?_];have:=a5 j q hj hl hb;lia
 refine .inr #[n,k,rfl,⋯,h1,hk.1,by rw[jx hp];exact h3,λj q hj hl hb=>?_];by_cases e:j<n
 ·exact .inl (hk.2 j q e hl hb)
 ·have:j=n:=⋯;subst this;rw[jx hp]at hb;by_cases hq:q<k
  ·rw[hn q hl hq]at hb;cases hb
  ·lia
theorem FirstN.window{l:()}{ps:List zm}{lo mid hi n:Nat}{r:Option (Nat × Nat)}(h0:FirstN l ps lo mid n tH)(hm:lo<=mid)(h:FirstN l ps mid hi n r):FirstN l ps lo hi n r:=by
 have h0':∀j q,j<n->lo<=q->q<mid->stJ l ps q j=tJ:=by
  rcases h0 with ⟨_,h⟩ | ⟨_,_,h,_⟩
  ·exact h
  ·cases h
 rcases h with ⟨rfl,h⟩ | ⟨n0,q0,rfl,a1,a2,a3,a4,a5⟩
 ·refine .inl #[rfl,λj q hj h1 h2=>?_];by_cases e:q<mid
  ·exact h0' j q hj h1 e
  ·exact h j q hj ⋯ h2
 ·refine .inr #[n0,q0,rfl,a1,⋯,a3,a4,λj q hj h1 h2=>?_];by_cases e:q<mid
  ·rw[h0' j q hj h1 e]at h2;cases h2
  ·exact a5 j q hj ⋯ h2
def NeL(ps:List zm):Prop:=∀p ∈ ps,p.1≠[]
theorem FirstN.toEnd{l:()}{ps:List zm}{lo hi n:Nat}{r:Option (Nat × Nat)}(hN:NeL ps)(h:FirstN l ps lo hi n r)(hl:r=tH->l.length<=hi):FirstN l ps lo l.length n r:=by
 have hlt:∀j q,stJ l ps q j=tI->q<l.length:=λj q hb=>by
  obtain⟨_,p,hp,hs⟩:=w6 hb;exact qN (hN p (ae hp)) hs
 rcases h with ⟨rfl,h⟩ | ⟨n0,q0,rfl,a1,a2,a3,a4,a5⟩
 ·exact .inl #[rfl,λj q hj h1 h2=>h j q hj h1 (by have:=hl rfl;lia)]
 ·exact .inr #[n0,q0,rfl,a1,a2,hlt _ _ a4,a4,a5]
noncomputable def zB(l:())(ps:List zm):Option (Nat × Nat):=(xN l ps l.length).head?
theorem XS{l:()}{ps:List zm}{r:Option (Nat × Nat)}(h:FirstN l ps 0 l.length ps.length r):r=zB l ps:=Wz h
theorem XY(l:())(ps:List zm)(hN:NeL ps):FirstN l ps 0 l.length ps.length (zB l ps):=by
 have hs:=wu l ps l.length;unfold zB
 cases e:xN l ps l.length with
 | nil =>
  refine .inl #[rfl,λj q _ _ hq=>?_]
  cases hb:stJ l ps q j with
  | false=>rfl
  | true =>
   have:(j,q) ∈ xN l ps l.length:=usesK_mem.mpr #[hq,hb];rw[e]at this;cases this
 | cons u us =>
  rw[e]at hs;have hu:u ∈ xN l ps l.length:=by rw[e];exact av
  obtain⟨h1,h2⟩:=usesK_mem.mp hu;refine .inr #[u.1,u.2,rfl,(w6 h2).1,aG _,h1,h2,λj q hj _ hb=>?_]
  have hq:q<l.length:=by
   obtain⟨_,p,hp,hs⟩:=w6 hb;exact qN (hN p (ae hp)) hs
  have:(j,q) ∈ xN l ps l.length:=usesK_mem.mpr #[hq,hb];rw[e]at this;rcases tP.mp this with e2 | e2
  ·rw[<- e2];exact .inr #[rfl,al _]
  ·rcases (tX.mp hs).1 _ e2 with h | ⟨h,h'⟩
   ·exact .inl h
   ·exact .inr #[h,cY h']
noncomputable def Xp(ps:List zm)(n:Nat):zm:=ps.getD n ([],[])
theorem yv{ps:List zm}{n:Nat}{p:zm}(h:ps[n]? = tG p):Xp ps n=p:=by
 unfold Xp;rw[af,h];rfl
noncomputable def k8(l:())(ps:List zm)(u:Nat × Nat):():=yK l (u.2:Int) (Xp ps u.1).1 (Xp ps u.1).2
noncomputable def Y3(ps:List zm)(l:()):():=((zB l ps).map (k8 l ps)).getD l
noncomputable def wAt(ps:List zm)(l:()):Nat->()
 | 0=>l
 | j+1=>Y3 ps (wAt ps l j)
noncomputable def sAt(ps:List zm)(l:())(j:Nat):List (Nat × Nat):=(aW j).map λi=>(zB (wAt ps l i) ps).getD (0,0)
theorem Xv(ps:List zm)(l:())(j:Nat):sAt ps l (j+1)=sAt ps l j ++ [(zB (wAt ps l j) ps).getD (0,0)]:=by
 unfold sAt;rw[cT,aq];rfl
theorem YV(ps:List zm)(l:())(j:Nat):(sAt ps l j).length=j:=by
 unfold sAt;rw[aa,dL]
theorem yT{ps:List zm}{l:()}{j:Nat}{u:Nat × Nat}(h:zB (wAt ps l j) ps=tG u):wAt ps l (j+1)=k8 (wAt ps l j) ps u:=by
 show Y3 ps (wAt ps l j)=_;unfold Y3;rw[h];rfl
def YK(ps:List zm)(l:())(j:Nat):Prop:=∀i,i<j->zB (wAt ps l i) ps≠tH
theorem jS{ps:List zm}{l:()}{i j:Nat}(h1:YK ps l i)(h2:zB (wAt ps l i) ps=tH)(h3:YK ps l j)(h4:zB (wAt ps l j) ps=tH):i=j:=by
 rcases eN i j with h | h | h
 ·exact absurd h2 (h3 i h)
 ·exact h
 ·exact absurd h4 (h1 j h)
theorem Wo{l:()}{ps:List zm}{n q M lo:Nat}(h:FirstN l ps 0 l.length ps.length (tG (n,q)))(hN:NeL ps)(hM:∀p ∈ ps,p.1.length<=M)(hlo:lo=0\/lo+M<=q+1):FirstN (k8 l ps (n,q)) ps 0 lo ps.length tH:=by
 refine .inl #[rfl,λj x hj _ hx=>?_];rcases h with ⟨h,_⟩ | ⟨n0,q0,e,a1,a2,a3,a4,a5⟩
 ·cases h
 ·injection e with e;injection e with e1 e2;subst e1 e2
  cases hb:stJ (k8 l ps (n,q)) ps x j with
  | false=>rfl
  | true =>
   obtain⟨_,p,hp,hs⟩:=w6 hb;have hpm:=hM p (ae hp);have hpn:=Ad.mpr (hN p (ae hp));have hxq:x+p.1.length<=q:=⋯;obtain⟨s0,s1,s2⟩:=of_decide_eq_true hs;rw[aX]at s2;obtain⟨_,p2,hp2,hs2⟩:=w6 a4;obtain⟨t0,t1,t2⟩:=of_decide_eq_true hs2
   have e4:(k8 l ps (n,q)).take q=l.take q:=by
    unfold k8 yK;rw[aX,aH,bC (by rw[aF];lia),fJ,eS]
   have e5:∀z:(),((z.take q).drop x).take p.1.length=(z.drop x).take p.1.length:=λz=>by
    rw[List.drop_take,fJ];congr 1;lia
   have s3:(l.drop x).take p.1.length=p.1:=by rw[<- e5,<- e4,e5,s2]
   have:stJ l ps x j=tI:=by
    rw[jx hp];exact decide_eq_true #[⋯,⋯,by rw[aX];exact s3]
   have:=a5 j x hj (aG _) this;lia
theorem FirstN.lower{l:()}{ps:List zm}{lo hi n:Nat}(h:FirstN l ps 0 hi n tH)(hl:lo<=hi):FirstN l ps 0 lo n tH:=by
 rcases h with ⟨_,h⟩ | ⟨_,_,h,_⟩
 ·exact .inl #[rfl,λj q hj h1 h2=>h j q hj h1 ⋯]
 ·cases h
theorem Ql{l:()}{ps:List zm}{n q m:Nat}(h:FirstN l ps 0 l.length ps.length (tG (n,q)))(hm:∀p ∈ ps,p.2.length<=m):(k8 l ps (n,q)).length<=l.length+m:=by
 rcases h with ⟨h,_⟩ | ⟨n0,q0,e,a1,a2,a3,a4,a5⟩
 ·cases h
 ·injection e with e;injection e with e1 e2;subst e1 e2;obtain⟨_,p,hp,hs⟩:=w6 a4;have:=hm p (ae hp);have er:=yv hp;unfold k8 yK
  erw[ah,aF,bi,er]
  lia
theorem qw{ps:List zm}{l:()}{m:Nat}(hN:NeL ps)(hm:∀p ∈ ps,p.2.length<=m):∀j,(wAt ps l j).length<=l.length+j * m
 | 0=>by simp [wAt]
 | j+1=>by
  have ih:=qw (l:=l) hN hm j;have hf:=XY (wAt ps l j) ps hN;rw[eQ]
  cases e:zB (wAt ps l j) ps with
  | none =>
   show (Y3 ps (wAt ps l j)).length<=_;unfold Y3;rw[e];show (wAt ps l j).length<=_;lia
  | some u =>
   rw[yT e];rw[e]at hf;obtain⟨a,b⟩:=u;have:=Ql hf hm;lia
def UseAt(H:Hp)(r:Option (Nat × Nat))(v:V):Prop:=(r=tH/\v=.non)\/∃(n q:Nat) (p:pC),r=tG (n,q)/\v=.ref p/\H p=tG (.tup [.int (n:Nat),.int (q:Nat)])
theorem UseAt.same{H H':Hp}{r:Option (Nat × Nat)}{v:V}(h:UseAt H r v)(s:Same H H'):UseAt H' r v:=by
 rcases h with h | ⟨n,q,p,h1,h2,h3⟩
 ·exact .inl h
 ·exact .inr #[n,q,p,h1,h2,s _ _ h3]
theorem WW{l p:()}{lo hi:Int}{H:Hp}{Q:VK}(h0:0<=lo)(h1:0<=hi)(h:∀r:Int,((r=-1/\∀q:Nat,lo<=q->(q:Int)+p.length<=hi->zt l q p=tJ)\/∃k:Nat,r=k/\lo<=k/\(k:Int)+p.length<=hi/\zt l k p=tI/\∀q:Nat,lo<=q->q<k->zt l q p=tJ)->Q (.int r) H):J0 (.str (tx l)) [.str (tx p),.int lo,.int hi] H Q:=by
 refine#[l,p,lo,hi,rfl,rfl,h0,h1,λr hr=>h r ?_]
 have no:∀q:Nat,((l.drop q).take p.length≠p\/¬ q+p.length<=l.length)->zt l q p=tJ:=λq hq=>decide_eq_false λ⟨_,b,c⟩=>by
  rcases hq with hq | hq
  ·exact hq c
  ·lia
 rcases hr with ⟨rfl,hn⟩ | ⟨k,rfl,k1,k2,k3,k4,hn⟩
 ·refine .inl #[rfl,λq q1 q2=>no q ?_];by_cases e:q+p.length<=l.length
  ·exact .inl (hn q q1 q2 e)
  ·exact .inr e
 ·exact .inr #[k,rfl,k1,k2,decide_eq_true #[⋯,⋯,k4],λq q1 q2=>no q (.inl (hn q q1 q2))]
def uo(K:pB):Sp:=λvs H Q _=>∃(a:pC) (l:()) (ps:List zm) (st en:Nat),vs=[.ref a,.str (tx l),.int (st:Nat),.int (en:Nat)]/\LsA K H a (ps.map dR)/\NeL ps/\(∀p ∈ ps,p.1.length<=1000)/\∀(r:Option (Nat × Nat)) (v:V) (H':Hp),Same H H'->UseAt H' r v->FirstN l ps st en ps.length r->Q v H'
theorem YM{a:pC}{l:()}{ps:List zm}{st en:Nat}{s e:Int}{H:Hp}{Q:VK}{E:XK}(hs:s=(st:Nat))(he:e=(en:Nat))(hA:LsA K H a (ps.map dR))(hN:NeL ps)(hP:∀p ∈ ps,p.1.length<=1000)(q:∀(r:Option (Nat × Nat)) (v:V) (H':Hp),Same H H'->UseAt H' r v->FirstN l ps st en ps.length r->Q v H'):uo K [.ref a,.str (tx l),.int s,.int e] H Q E:=by
 subst hs he;exact#[a,l,ps,st,en,rfl,hA,hN,hP,q]
theorem gD:sQz 4 ["rules","word","start","end","found","number","rule","place"] xK:=by nofun
theorem uY{f:pC}{fd:pG}(B:Bt mg)(F:("first_within"^^^xK)) :(1&&&["rules","word","start","end"]) (uo K):=by
 exists F.ok gD
 ·obtain⟨a,l,ps,st,en,rfl,hA,hN,hP,q⟩:=h
  refine#[_,(zi (zF 4 gD.nd xV)
   (zi (ym PassesOwn.never rfl (vN rfl B.enum (za (pv 0) ze)) (uA (n:=2) rfl (zY (zx (i:=5) gD.nd rfl (.inl rfl)) (zY (zx (i:=6) gD.nd rfl (.inl rfl)) wy)))
    (zS (zF 7 gD.nd (xu bF dU dW zaJ (pv 1) (za (zl ix_tup (pv 6) zf) (za (pv 2) (za (zC yN (zC uu (pv 3) zf) (zK B.len (zl ix_tup (pv 6) zf))) ze)))))
    (zh (zP (zA op_ge' (pv 7) zf (zE _))
     (zS (zF 4 gD.nd (zO (za (pv 5) (za (pv 7) ze))))
     (zh (zF 3 gD.nd (pv 7))))
     zy))))
   (zh (zr (pv 4))))),?_]
  have s16:=yb;obtain⟨xs,hX,hI⟩:=id hA;have hxl:=hI.len;rw[aa]at hxl;have s16:=yb;refine zj (λσ H'=>H'=H/\σ=[!!a,~~~l,-~~~st,-~~~en,tG (.non),tH,tH,tH]) ?_ ?_
  ·rfl'
  rintro σ H1 ⟨rfl,rfl⟩:_;right;refine zj (λσ H'=>Same H1 H'/\∃(r:Option (Nat × Nat)) (v:V) (v3 v5 v6 v7:Option V),UseAt H' r v/\FirstN l ps st en ps.length r/\σ=[!!a,~~~l,-~~~st,v3,tG (v),v5,v6,v7]) ?_ ?_
  ·rfl'
   refine#[#[_,SqL.of hX],ForEL.by (xs:=xs) (λi σ H'=>Same H1 H'/\∃(r:Option (Nat × Nat)) (v:V) (v5 v6 v7:Option V),UseAt H' r v/\FirstN l ps st en i r/\σ=[!!a,~~~l,-~~~st,tG (.int (((r.map Prod.snd).getD en:Nat):Int)),tG (v),v5,v6,v7]) #[Same.refl _,tH,.non,tH,tH,tH,.inl #[rfl,rfl],.inl #[rfl,λj q h=>absurd h (cS j)],rfl] (λi σ H' _ h=>SqL.of (h.1 _ _ hX)) ?_ ?_]
   ·rintro i y σ H' p hy ⟨hs,r,v,v5,v6,v7,hu,hF,rfl⟩ hpn;obtain⟨rl,pr,hri,rfl,hqr⟩:=hI.getR hy;have hm:=ae hri;have hne:=Ad.mpr (hN rl hm);have hrl:=hP rl hm;have s2:=hs.trans (zd (o:=.tup [.int (i:Nat),.ref pr]) hpn);have hq2:=zp s2 hqr;have hu2:=hu.same (zd (o:=.tup [.int (i:Nat),.ref pr]) hpn)
    rfl'
    refine#[_,SqT.of zc,rfl,_,_,rfl,_,_,rfl,rfl,_,rfl,_,hq2,_,rfl,_,rfl,_,hq2,_,rfl,_,#[by rw[zV];lia,rfl],WW ⋯ (by rw[zV];lia) λz hz=>#[z,rfl,?_]];rw[zV]at hz;rcases hz with ⟨rfl,hn⟩ | ⟨k,rfl,k1,k2,k3,hn⟩
    ·rw[if_neg ∅];exact#[s2,r,v,hu2,hF.keep hri λq q1 q2=>hn q ⋯ ⋯,rfl,rfl]
    ·rw[if_pos ⋯];refine#[⋯,λp2 hp2=>#[s2.trans (zd hp2),tG (i,k),.ref p2,.inr #[i,k,p2,rfl,rfl,zc],hF.take hri ⋯ ⋯ k3 λq q1 q2=>hn q ⋯ q2,rfl,rfl]]
   ·rintro σ H' ⟨hs,r,v,v5,v6,v7,hu,hF,rfl⟩;rw[hxl]at hF;exact#[hs,r,v,hu,hF,_,_,_,_,rfl]
  rintro σ H2 ⟨s2,r,v,v3,v5,v6,v7,hu,hF,rfl⟩:_;right
  rfl'
  exact q r v H2 s2 hu hF
structure zeE(mg:pJ->Option pD):Prop where
 g:∃t,mg "WINDOW" = tG (.int 128 t)
def jR(K:pB):Sp:=λvs H Q _=>∃(a:pC) (l:()) (ps:List zm) (st:Nat),vs=[.ref a,.str (tx l),.int (st:Nat)]/\LsA K H a (ps.map dR)/\NeL ps/\(∀p ∈ ps,p.1.length<=1000)/\l.length<=100000/\∀(r:Option (Nat × Nat)) (v:V) (H':Hp),Same H H'->UseAt H' r v->FirstN l ps st l.length ps.length r->Q v H'
theorem ZB{a:pC}{l:()}{ps:List zm}{st:Nat}{s:Int}{H:Hp}{Q:VK}{E:XK}(hs:s=(st:Nat))(hA:LsA K H a (ps.map dR))(hN:NeL ps)(hP:∀p ∈ ps,p.1.length<=1000)(hl:l.length<=100000)(q:∀(r:Option (Nat × Nat)) (v:V) (H':Hp),Same H H'->UseAt H' r v->FirstN l ps st l.length ps.length r->Q v H'):jR K [.ref a,.str (tx l),.int s] H Q E:=by
 subst hs;exact#[a,l,ps,st,rfl,hA,hN,hP,hl,q]
theorem ie:sQz 3 ["rules","word","start","size","found"] wn:=by nofun
theorem ko{f:pC}{fd:pG}(B:Bt mg)(T:zeE mg)(F:("first_from"^^^wn))(nP:(1<<<"first_within") ["rules","word","start","end"] [] (uo K)):(2&&&["rules","word","start"]) (jR K):=by
 obtain⟨t8,g8⟩:=T.g
 exists F.ok ie
 ·obtain⟨a,l,ps,st,rfl,hA,hN,hP,hl,q⟩:=h
  refine#[_,(zi (zF 3 ie.nd (yQ (v:=.int 128) rfl g8 #[t8,rfl]))
   (zi (kP PassesOwn.never (zA QI (pv 2) (zK B.len (pv 1)) (zE _))
    (zS (zF 4 ie.nd (cl0 nP hr .nil rfl (za (pv 0) (za (pv 1) (za (pv 2) (za (zC yN (pv 2) (pv 3)) ze))))))
    (zS (zP (zA op_notN' (pv 4) xV (zE _))
     (zh (zr (pv 4)))
     zy)
    (zS (zF 2 ie.nd (zC yN (pv 2) (pv 3)))
    (zh (zF 3 ie.nd (zC ql (pv 3) zf)))))))
   (zh (zr xV)))),?_]
  have s16:=yb;have s16:=yb;refine zj (λσ H'=>H'=H/\σ=[!!a,~~~l,-~~~st,~~~!128,tH]) ?_ ?_
  ·rfl'
  rintro σ H1 ⟨rfl,rfl⟩:_;right;refine zj (λσ H'=>Same H1 H'/\FirstN l ps st l.length ps.length tH) ?_ ?_
  ·unfold XO;refine#[λm σ H'=>∃(s z:Nat) (v4:Option V),m=l.length - s/\st<=s/\1<=z/\Same H1 H'/\FirstN l ps st s ps.length tH/\σ=[!!a,~~~l,-~~~s,-~~~z,v4],#[_,st,128,tH,rfl,al _,∅,Same.refl _,.inl #[rfl,λj q _ h1 h2=>by lia],rfl],?_];rintro m σ H' ⟨s,z,v4,rfl,hs,hz,sm,hF,rfl⟩
   rfl'
   refine#[⋯,yA (λhlt=>?_) λhge=>#[sm,hF.toEnd hN λ_=>by lia]];refine#[λσ' H''=>∃v4:Option V,Same H1 H''/\FirstN l ps st (s+z) ps.length tH/\σ'=[!!a,~~~l,tG (.int ((s+z:Nat):Int)),tG (.int ((z * 2:Nat):Int)),v4],λσ' H'' ⟨v4,a1,a2,a3⟩=>#[l.length - (s+z),⋯,s+z,rfl,⋯,z * 2,⋯,a1,a2,v4,a3],?_];refine YM (en:=s+z) rfl ⋯ (hA.same sm) hN hP λr v H2 s2 hu hF2=>?_;rcases hu with ⟨rfl,rfl⟩ | ⟨n,qq,p,rfl,rfl,hp⟩
   ·rw[if_neg (λh=>h rfl)];exact#[.inr #[∅,∅],tG .non,sm.trans s2,hF.window hs hF2,by push_cast;rfl]
   ·rw[if_pos (by intro h;cases h)];exact q _ _ H2 (sm.trans s2) (.inr #[n,qq,p,rfl,rfl,hp]) ((hF.window hs hF2).toEnd hN (λe=>by cases e))
  rintro σ H2 ⟨s2,hF⟩:_;right
  rfl'
  exact q tH .non H2 s2 (.inl #[rfl,rfl]) hF
theorem LsA.pushT{H:Hp}{D p:pC}{ds es:List L3.D}{xs vs:List V}(h1:H D=tG (.lst xs))(h2:Iss K H ds xs)(hp:H p=tH)(hv:Iss K H es vs)(f:zQ ds)(fe:zQ es):LsA K (upd (upd H p (.tup vs)) D (.lst (xs ++ [.ref p]))) D (ds ++ [.tup es]):=by
 have e:(upd H p (.tup vs)) D=tG (.lst xs):=zd hp _ _ h1;exact LsA.snoc e (Iss.same (zd hp) _ _ h2) f (by erw[xv];exact fe) (Is.tup hp hv)
structure zbk(K:pB)(mg:pJ->Option pD)(C:pC):Prop where
 xi:XI K C
 ini:aj K (.ref C) "__init__" = tG (tG (.builtin "ValueError.__init__"))
 g:mg "TooFar" = tG (.ref C)
noncomputable def dG(u:Nat × Nat):L3.D:=.tup [.int (u.1:Nat),.int (u.2:Nat),.bl tI]
theorem zaw(u:Nat × Nat):xv (dG u):=by erw[dG,xv,zQ,and_self]
theorem Jx(us:List (Nat × Nat)):zQ (us.map dG):=wx λd h=>by obtain⟨r,_,rfl⟩:=tO.mp h;exact zaw r
theorem zd9{H:Hp}{n q:Nat}:Iss K H [.int (n:Nat),.int (q:Nat),.bl tI] [.int (n:Nat),.int (q:Nat),.bl tI]:=by
 erw[Iss,Is]
 exact#[_,_,rfl,rfl,_,_,rfl,rfl,_,_,rfl,rfl,rfl]
structure Rd(ps:List zm)(l:())(J:Nat):Prop where
 live:YK ps l J
 len:∀j,j<=J->(wAt ps l j).length<=10000
 most:J<=10000
def wJ(K:pB)(CF:pC):Sp:=λvs H Q E=>∃(a:pC) (l:()) (ps:List zm) (m:Int) (J:Nat),vs=[.ref a,.str (tx l),.int m]/\LsA K H a (ps.map dR)/\NeL ps/\ps.length<=100/\(∀p ∈ ps,p.1.length<=1000/\p.2.length<=1000)/\Rd ps l J /\
 ((zB (wAt ps l J) ps=tH/\(J:Int)<=m/\∀(p S:pC) (H':Hp),Same H H'->H' p=tG (.tup [.ref S,.str (tx (wAt ps l J))])->LsA K H' S ((sAt ps l J).map dG)->H S=tH->Q (.ref p) H') \/
  (zB (wAt ps l J) ps≠tH/\(J:Int)=m/\∀H',Same H H'->E (.ref CF) tH H'))
theorem V4{a:pC}{ps:List zm}{σ:L2.St}{H:Hp}{Q:VK}{D:pC}(hA:LsA K H a (ps.map dR))(hP:∀p ∈ ps,p.1.length<=1000)(hpl:ps.length<=100)(hD:H D=tH)(q:∀H',Same H H'->H' D=tG (.lst ((ps.map λp=>(p.1.length:Int)).map V.int))->Q (.ref D) H') :
  CompL K a (yR 0) xQ (tCB (Ut K) (zH (tOp (vM K) (zZ 0) (tC (.int 0))) xF)) 1 [] σ H Q D:=by
 have s16:=yb;obtain⟨xs,hX,hI⟩:=hA;have hxl:=hI.len;rw[aa]at hxl;refine CompL.by (xs:=xs) (λi tM H'=>Same H H'/\H' D=tG (.lst tM)/\tM=((ps.take i).map λp=>(p.1.length:Int)).map V.int) #[zd hD,zc,rfl] (λi tM H' _ h=>SqL.of (h.1 _ _ hX)) ?_ ?_
 ·refine nm4 ?_;rintro i x tM H' hx ⟨hs,hH,rfl⟩:_;have hil:=(tN.mp hx).1;obtain⟨r,pr,hri,rfl,hqr⟩:=hI.getR hx;have hm:=hP r (ae hri);right
  erw[xQ]
  rfl'
  refine#[yM,_,zp hs hqr,_,rfl,_,#[by rw[zV];lia,rfl],hH,by rw[aa,aa,aF];lia,CNx.mk hil #[zw hs hD,zc,?_]];rw[zL hri,aq,aq,zV];rfl
 ·rintro tM H' ⟨hs,hH,rfl⟩;rw[hxl,aK]at hH;exact q H' hs hH
theorem zds{H:Hp}{rs:List zm}{xs:List V}{i:Nat}{r:zm}(hI:Iss K H (rs.map dR) xs)(hi:rs[i]? = tG r):∃p,atI xs (i:Int)=tG (.ref p)/\SqT K H p [.str (tx r.1),.str (tx r.2)]:=by
 have hl:=hI.len;rw[aa]at hl;have hil:=(tN.mp hi).1;obtain⟨v,a1,b1⟩:=jo (xs:=xs) (i:=(i:Int)) ⋯ ⋯;obtain⟨r',p,h1,rfl,h3⟩:=hI.getR (j:=i) b1;rw[hi]at h1;cases h1;exact#[p,a1,h3]
theorem iR:sQz 3 ["rules","word","most","longest","steps","use","number","place"] w9:=by nofun
theorem KL{f CU CF:pC}{fd:pG}{dV:pD}(B:Bt mg)(T:zbk K mg CF)(TU:DNU P w K mg base CU)(F:FunD K "gone" "gone" w9 dV f fd)(mH:(2<<<"first_from") ["rules","word","start"] [] (jR K))(og:(3>>>"put") ["word","place","old","new"] [] (XW CU)):(4|||["rules","word","most"]) (wJ K CF):=by
 exists FunD.okX F iR,0
 ·obtain⟨a,l,ps,m,J,rfl,hA,hN,hpl,hP,hR,hq⟩:=h
  refine#[_,(zi (zF 3 iR.nd (VV (zci rfl) rfl B.max uW (za (yO (own:=["rule"]) (caps:=[]) (ix:=[]) (tt:=xQ) (te:=(tCB (Ut K) (zH (tOp (vM K) (zZ 0) (tC (.int 0))) xF))) rfl (zJ (sc:=zg w9) rfl (by symm) (by symm) (by symm) rfl (by symm) (by symm) rfl) (yh (pv 0)) (λ_ _ _ _ _ _=>zx (i:=0) (show List.Nodup [_] by decide) rfl (.inl rfl)) (λ_ _ _ _ _ _=>z7) (λ_ _ _ _ _ _=>(zK B.len (zl ix_tup (pv 0) zf)))) ze) (Yc zf W3)))
   (zi (zF 4 iR.nd (xZ ze))
   (zi (zF 5 iR.nd (cl0 mH hr .nil rfl (za (pv 0) (za (pv 1) (za zf ze)))))
   (zi (kP PassesOwn.leaving (zA op_notN' (pv 5) xV (zE _))
    (zi (zP (zA op_ge' (zK B.len (pv 4)) (pv 2) (zE _))
     (zh (yH hx rfl T.xi.toXC T.ini rfl T.g (za yB ze)))
     zy)
    (zi (zF 6 iR.nd (zl ix_tup (pv 5) zf))
    (zi (zF 7 iR.nd (zl ix_tup (pv 5) zf))
    (zi (zF 1 iR.nd (clP hx og hr .nil rfl (za (pv 1) (za (pv 7) (za (zl ix_tup (zl ix_list (pv 0) (pv 6)) zf) (za (zl ix_tup (zl ix_list (pv 0) (pv 6)) zf) ze))))))
    (zi (yw (xu aS aZ ba ya (pv 4) (za (zO (za (pv 6) (za (pv 7) (za xf ze)))) ze)))
    (zh (zF 5 iR.nd (cl0 mH hr .nil rfl (za (pv 0) (za (pv 1) (za (xg (WX rfl) rfl B.max uW (za zf (za (zC yN (zC uu (pv 7) (pv 3)) zf) ze))) ze))))))))))))
   (zh (zr (zO (za (pv 4) (za (pv 1) ze))))))))),?_]
  have s16:=yb;have s16:=yb;refine zj (λσ H'=>Same H H'/\∃M:Int,(∀p ∈ ps,(p.1.length:Int)<=M)/\σ=[!!a,~~~l,~~~!m,~~~!M,tH,tH,tH,tH]) ?_ ?_
  ·rfl'
   erw[zeu]
   rfl'
   obtain⟨xs,hX,hI⟩:=id hA;exact#[#[_,SqL.of hX],λD hD=>V4 hA (λp hp=>(hP p hp).1) hpl hD λH' s' hH=>#[D,_,0,rfl,rfl,SqL.of hH,λz _ hz=>#[s',z,λp hp=>hz _ (tO.mpr #[p,hp,rfl]),rfl]]]
  rintro σ H1 ⟨s1,M,hM,rfl⟩:_;right;refine zj (λσ H'=>Same H H'/\∃S:pC,H S=tH/\H' S=tG (.lst [])/\σ=[!!a,~~~l,~~~!m,~~~!M,!!S,tH,tH,tH]) ?_ ?_
  ·rfl'
   exact#[⋯,λp hp=>#[s1.trans (zd hp),p,s1.free hp,zc,rfl]]
  rintro σ H2 ⟨s2,S,hSn,hS,rfl⟩:_;right;refine zj (λσ H'=>Same H H'/\H' S=tG (.lst [])/\∃uv:V,UseAt H' (zB l ps) uv/\σ=[!!a,~~~l,~~~!m,~~~!M,!!S,tG (uv),tH,tH]) ?_ ?_
  ·rfl'
   exact ZB (st:=0) rfl (hA.same s2) hN (λp hp=>(hP p hp).1) (by have:=hR.len 0 (aG _);exact aP this ∅) λr v H' s' hu hF=>#[s2.trans s',s' _ _ hS,(by rw[XS hF]at hu;exact hu)]
  rintro σ H3 ⟨s3,hS3,uv,hu,rfl⟩:_;right;refine zj (λσ H'=>Same H H'/\zB (wAt ps l J) ps=tH/\LsA K H' S ((sAt ps l J).map dG)/\∃v5 v6 v7,σ=[!!a,tG (.str (tx (wAt ps l J))),~~~!m,~~~!M,!!S,v5,v6,v7]) ?_ ?_
  ·unfold XO;refine#[λk σ H'=>∃(j:Nat) (uv:V) (v6 v7:Option V),k=J - j/\j<=J/\Same H H'/\LsA K H' S ((sAt ps l j).map dG)/\UseAt H' (zB (wAt ps l j) ps) uv/\σ=[!!a,tG (.str (tx (wAt ps l j))),~~~!m,~~~!M,!!S,tG (uv),v6,v7],#[_,0,uv,tH,tH,rfl,aG _,s3,#[[],hS3,by erw[sAt,List.range_zero,aJ,Iss]],hu,rfl],?_];rintro k σ H' ⟨j,uv,v6,v7,rfl,hj,hs,hL,hu,rfl⟩;have hlj:=hR.len j hj;have hRm:=hR.most;obtain⟨xs,hX,hI⟩:=id hA
   rfl'
   refine yA (λhne=>?_) λhne=>?_
   ·rcases hu with ⟨_,h⟩ | ⟨n,q0,p,hf,rfl,hp⟩
    ·exact absurd h hne
    have hF:=XY (wAt ps l j) ps hN;rw[hf]at hF
    have hjJ:j<J\/(j=J/\(J:Int)=m/\∀H',Same H H'->E (.ref CF) tH H'):=by
     by_cases e:j=J
     ·subst e;rcases hq with ⟨h,_⟩ | ⟨_,h1,h2⟩
      ·rw[hf]at h;cases h
      ·exact .inr #[rfl,h1,h2]
     ·exact .inl ⋯
    have hJm:(J:Int)<=m:=by
     rcases hq with ⟨_,h,_⟩ | ⟨_,h,_⟩ <;> lia
    obtain⟨rl,hrl,hst⟩:∃rl,ps[n]? = tG rl/\zt (wAt ps l j) (q0:Int) rl.1=tI:=by
     rcases hF with ⟨h,_⟩ | ⟨n0,q1,e,_,_,_,a4,_⟩
     ·cases h
     ·cases e;exact (w6 a4).2
    have hlp:=hP rl (ae hrl);have hw:=yT hf;obtain⟨pr,hai,hqr⟩:=zds hI hrl;refine#[λσ' H''=>∃(uv:V) (v6 v7:Option V),j<J/\Same H H''/\LsA K H'' S ((sAt ps l (j+1)).map dG)/\UseAt H'' (zB (wAt ps l (j+1)) ps) uv/\σ'=[!!a,tG (.str (tx (wAt ps l (j+1)))),~~~!m,~~~!M,!!S,tG (uv),v6,v7],λσ' H'' ⟨uv,v6,v7,a0,a1,a2,a3,a4⟩=>#[J - (j+1),⋯,j+1,rfl,⋯,a1,a2,uv,a3,v6,v7,a4],?_];obtain⟨ys,hY,hJ2⟩:=id hL;have hyl:=hJ2.len;rw[aa,YV]at hyl;refine zj (λσ' H''=>H''=H'/\j<J/\σ'=[!!a,tG (.str (tx (wAt ps l j))),~~~!m,~~~!M,!!S,!!p,v6,v7]) ?_ ?_
    ·rfl'
     refine#[_,.inl #[_,SqL.of hY,rfl],yA (λhge=>?_) λhge=>?_]
     ·rcases hjJ with h | ⟨_,_,h⟩
      ·lia
      ·exact#[⋯,h _ hs]
     ·rcases hjJ with h | ⟨e,h,_⟩
      ·exact h
      ·lia
    rintro σ' G1 ⟨rfl,hlt,rfl⟩:_;right;refine zj (λσ' H''=>H''=G1/\σ'=[!!a,tG (.str (tx (wAt ps l j))),~~~!m,~~~!M,!!S,!!p,-~~~n,v7]) ?_ ?_
    ·rfl'
     exact#[_,SqT.of hp,rfl]
    rintro σ' G2 ⟨rfl,rfl⟩:_;right;refine zj (λσ' H''=>H''=G2/\σ'=[!!a,tG (.str (tx (wAt ps l j))),~~~!m,~~~!M,!!S,!!p,-~~~n,-~~~q0]) ?_ ?_
    ·rfl'
     exact#[_,SqT.of hp,rfl]
    rintro σ' G3 ⟨rfl,rfl⟩:_;right;refine zj (λσ' H''=>H''=G3/\σ'=[!!a,tG (.str (tx (wAt ps l (j+1)))),~~~!m,~~~!M,!!S,!!p,-~~~n,-~~~q0]) ?_ ?_
    ·rfl'
     have hq2:=zp hs hqr;exact#[_,SqL.of (hs _ _ hX),_,hai,_,rfl,_,hq2,_,rfl,_,SqL.of (hs _ _ hX),_,hai,_,rfl,_,hq2,_,rfl,wAt ps l j,rl.1,rl.2,(q0:Nat),rfl,hlj,by have:=hlp.1;lia,by have:=hlp.2;lia,λ_=>#[rfl,by rw[hw];unfold k8;rw[yv hrl]],λh=>by rw[hst]at h;cases h]
    rintro σ' G4 ⟨rfl,rfl⟩:_;right;refine zj (λσ' H''=>Same H H''/\LsA K H'' S ((sAt ps l (j+1)).map dG)/\σ'=[!!a,tG (.str (tx (wAt ps l (j+1)))),~~~!m,~~~!M,!!S,!!p,-~~~n,-~~~q0]) ?_ ?_
    ·rfl'
     refine#[.inl #[_,SqL.of hY],⋯,λt ht=>#[_,zd ht _ _ hY,⋯,zw (hs.trans (zd ht)) hSn,?_]];rw[Xv,hf,aq];exact LsA.pushT hY hJ2 ht zd9 (Jx _) (by erw[zQ,xv,and_self])
    rintro σ' G5 ⟨s5,hL5,rfl⟩:_;have hl1:=hR.len (j+1) hlt;have hM0:=hM rl (ae hrl);right
    rfl'
    refine ZB (st:=(if (q0:Int) - M+1 > 0 then (q0:Int) - M+1 else 0).toNat) (by split <;> lia) (hA.same s5) hN (λp hp=>(hP p hp).1) (aP hl1 ∅) λr v H' s' hu hF2=>#[hlt,s5.trans s',hL5.same s',?_];have hb:=Wo (M:=M.toNat) (lo:=(if (q0:Int) - M+1 > 0 then (q0:Int) - M+1 else 0).toNat) hF hN (λp hp=>by have:=hM p hp;lia) (by split <;> lia);rw[<- hw]at hb;rw[XS (hb.window (aG _) hF2)]at hu;exact hu
   ·have hv:uv=.non:=Decidable.not_not.mp hne
    have hf:zB (wAt ps l j) ps=tH:=by
     rcases hu with ⟨h,_⟩ | ⟨_,_,_,_,h,_⟩
     ·exact h
     ·rw[hv]at h;cases h
    have e:j=J:=by
     rcases eU j J with h | h
     ·exact absurd hf (hR.live j h)
     ·lia
    subst e;exact#[hs,hf,hL,rfl]
  rintro σ H4 ⟨s4,hF,hL,v5,v6,v7,rfl⟩:_;right
  rfl'
  rcases hq with ⟨_,_,hq⟩ | ⟨h,_⟩
  ·exact#[⋯,λp hp=>hq p S _ (s4.trans (zd hp)) zc (hL.same (zd hp)) hSn]
  ·exact absurd hF h
noncomputable abbrev Stp:=Int × Int × Bool
noncomputable def dSt(t:Stp):D:=.tup [.int t.1,.int t.2.1,.bl t.2.2]
noncomputable def sdl(r:zm)(f:Bool):zm:=if f=tI then r else (r.2,r.1)
noncomputable def yt(ps:List zm)(w:())(t:Stp):Option (()) :=
 if 0<=t.1/\t.1<ps.length then (if zt w t.2.1 (sdl (ps.getD t.1.toNat ([],[])) t.2.2).1=tI then tG (yK w t.2.1 (sdl (ps.getD t.1.toNat ([],[])) t.2.2).1 (sdl (ps.getD t.1.toNat ([],[])) t.2.2).2)else tH)else tH
theorem Jy{H:Hp}{D p:pC}{ds es:List L3.D}{xs vs:List V}(h1:H D=tG (.lst xs))(h2:Iss K H ds xs)(hp:H p=tH)(hv:Iss K H es vs)(f:zQ ds)(fe:zQ es):LsA K (upd (upd H p (.tup vs)) D (.lst (xs ++ [.ref p]))) D (ds ++ [.tup es]):=by
 have e:(upd H p (.tup vs)) D=tG (.lst xs):=zd hp _ _ h1;exact LsA.snoc e (Iss.same (zd hp) _ _ h2) f (by erw[xv];exact fe) (Is.tup hp hv)
theorem zaR{H:Hp}{l m:()}:Iss K H [dS l,dS m] [.str (tx l),.str (tx m)]:=by
 erw[Iss,Is]
 exact#[_,_,rfl,rfl,_,_,rfl,rfl,rfl]
def kA(rs:List zm):Prop:=rs.length<=30/\∀r ∈ rs,r.1.length<=100/\r.2.length<=100
theorem JM{H:Hp}{t:Stp}{v:V}(h:Is K H (dSt t) v):∃p,v=.ref p/\SqT K H p [.int t.1,.int t.2.1,.bl t.2.2]:=by
 erw[dSt,Is,Iss]at h
 obtain⟨a,xs,e,hs,v1,r1,rfl,rfl,v2,r2,rfl,rfl,v3,r3,rfl,rfl,rfl⟩:=h;exact#[a,e,hs]
theorem Xh{H:Hp}{p:pC}{t:Stp}(h:SqT K H p [.int t.1,.int t.2.1,.bl t.2.2]):Is K H (dSt t) (.ref p):=by
 erw[dSt,Is,Iss]
 exact#[p,_,rfl,h,_,_,rfl,rfl,_,_,rfl,rfl,_,_,rfl,rfl,rfl]
theorem JS{H:Hp}{i j:Int}{b:Bool}:Iss K H [.int i,.int j,.bl b] [.int i,.int j,.bl b]:=by
 erw[Iss,Is]
 exact#[_,_,rfl,rfl,_,_,rfl,rfl,_,_,rfl,rfl,rfl]
theorem vQ(rs:List Stp):zQ (rs.map dSt):=wx λd h=>by obtain⟨r,_,rfl⟩:=tO.mp h;erw[dSt,xv,zQ,and_self]
theorem vA{H:Hp}{rs:List Stp}{vs:List V}{j:Nat}{v:V}(h:Iss K H (rs.map dSt) vs)(q:vs[j]? = tG v):∃r p,rs[j]? = tG r/\v=.ref p/\SqT K H p [.int r.1,.int r.2.1,.bl r.2.2]:=by
 obtain⟨d,e,i⟩:=h.get q;rw[az]at e;obtain⟨r,hr,rfl⟩:=tU.mp e;obtain⟨p,e1,e2⟩:=JM i;exact#[r,p,hr,e1,e2]
theorem zbG{H:Hp}{rs:List zm}{xs:List V}{i:Int}(hI:Iss K H (rs.map dR) xs)(h0:0<=i)(hi:i<rs.length):∃p,atI xs i=tG (.ref p)/\rs[i.toNat]? = tG (rs.getD i.toNat ([],[]))/\SqT K H p [.str (tx (rs.getD i.toNat ([],[])).1),.str (tx (rs.getD i.toNat ([],[])).2)]:=by
 have hl:=hI.len;rw[aa]at hl;obtain⟨v,a1,b1⟩:=jo (xs:=xs) (i:=i) h0 ⋯;obtain⟨r,p,h1,rfl,h3⟩:=hI.getR b1;have e:rs.getD i.toNat ([],[])=r:=by rw[af,h1];rfl
 rw[e];exact#[p,a1,h1,h3]
theorem Yb{rs:List zm}(h:kA rs)(i:Nat):(rs.getD i ([],[])).1.length<=100/\(rs.getD i ([],[])).2.length<=100:=by
 rw[af]
 cases e:rs[i]? with
 | none=>exact#[aG _,aG _]
 | some r=>exact h.2 r (ae e)
theorem xm{ps:List zm}{w:()}{t:Stp}(h:¬ (0<=t.1/\t.1<ps.length)):yt ps w t=tH:=if_neg h
theorem yS{ps:List zm}{w:()}{t:Stp}(h:0<=t.1/\t.1<ps.length):yt ps w t=if zt w t.2.1 (sdl (ps.getD t.1.toNat ([],[])) t.2.2).1=tI then tG (yK w t.2.1 (sdl (ps.getD t.1.toNat ([],[])) t.2.2).1 (sdl (ps.getD t.1.toNat ([],[])) t.2.2).2)else tH:=if_pos h
def Ch(rs:List zm)(ws:List (()))(ss:List Stp):Prop:=ws.length=ss.length+1/\∀i s,ss[i]? = tG s->∃w w',ws[i]? = tG w/\ws[i+1]? = tG w'/\yt rs w s=tG w'
noncomputable def bk(s:Stp):Stp:=(s.1,s.2.1,!s.2.2)
noncomputable def y0(ss:List Stp):List Stp:=ss.reverse.map bk
noncomputable def mvL(ss:List Stp)(z:Int):List Stp:=ss.map λs=>(s.1,s.2.1+z,s.2.2)
theorem zat(r:zm)(f:Bool):sdl r (!f)=((sdl r f).2,(sdl r f).1):=by cases f <;> rfl
theorem WJ{rs:List zm}{w w':()}{s:Stp}(h:yt rs w s=tG w'):yt rs w' (bk s)=tG w:=by
 by_cases hb:0<=s.1/\s.1<rs.length
 ·rw[yS hb]at h;have hb':0<=(bk s).1/\(bk s).1<rs.length:=hb;rw[yS hb']
  erw[bk,zat]
  generalize sdl (rs.getD s.1.toNat ([],[])) s.2.2=r at *;by_cases hs:zt w s.2.1 r.1=tI
  ·rw[if_pos hs]at h;cases h;obtain⟨e1,e2⟩:=Xq r.2 hs;rw[if_pos e1,e2]
  ·rw[if_neg hs]at h;cases h
 ·rw[xm hb]at h;cases h
theorem XG{a w b:()}{k:Nat}(h:k<=w.length):(a ++ w ++ b).drop (a.length+k)=w.drop k ++ b:=by
 rw[aH,<- fF,List.drop_left,cu h]
theorem kH{a w b o:()}{k:Int}(h:zt w k o=tI):zt (a ++ w ++ b) (k+(a.length:Int)) o=tI:=by
 obtain⟨_,_,h0,h1⟩:=zU h;unfold zt at h ⊢;rw[decide_eq_true_eq]at h ⊢;obtain⟨_,_,h2⟩:=h;refine#[⋯,by erw[ah];lia,?_];rw[show (k+(a.length:Int)).toNat=a.length+k.toNat by lia,XG ⋯,bC (by rw[bi];lia),h2]
theorem WD{a w b o n:()}{k:Int}(h:zt w k o=tI):yK (a ++ w ++ b) (k+(a.length:Int)) o n=a ++ yK w k o n ++ b:=by
 obtain⟨_,_,h0,h1⟩:=zU h;unfold yK;rw[show (k+(a.length:Int)).toNat=a.length+k.toNat by lia]
 have e1:(a ++ w ++ b).take (a.length+k.toNat)=a ++ w.take k.toNat:=by
  rw[aH,List.take_length_add_append,bC ⋯]
 have e2:(a ++ w ++ b).drop (a.length+k.toNat+o.length)=w.drop (k.toNat+o.length) ++ b:=by
  rw[Nat.add_assoc];exact XG ⋯
 rw[e1,e2];simp [aH]
theorem ur{rs:List zm}{w w':()}{s:Stp}(a b:())(h:yt rs w s=tG w'):yt rs (a ++ w ++ b) (s.1,s.2.1+(a.length:Int),s.2.2)=tG (a ++ w' ++ b):=by
 by_cases hb:0<=s.1/\s.1<rs.length
 ·rw[yS hb]at h;rw[yS (by exact hb)];simp only;generalize sdl (rs.getD s.1.toNat ([],[])) s.2.2=r at *;by_cases hs:zt w s.2.1 r.1=tI
  ·rw[if_pos hs]at h;cases h;rw[if_pos (kH hs),WD hs]
  ·rw[if_neg hs]at h;cases h
 ·rw[xm hb]at h;cases h
theorem Ch.within{rs:List zm}{ws:List (())}{ss:List Stp}(a b:())(h:Ch rs ws ss):Ch rs (ws.map λw=>a ++ w ++ b) (mvL ss (a.length:Int)):=by
 obtain⟨hl,hs⟩:=h;refine#[by simp [mvL,hl],λi s hi=>?_];unfold mvL at hi;rw[az]at hi;obtain⟨s0,h0,rfl⟩:=tU.mp hi;obtain⟨w,w',e1,e2,e3⟩:=hs _ _ h0;exact#[a ++ w ++ b,a ++ w' ++ b,by rw[az,e1];rfl,by rw[az,e2];rfl,ur a b e3]
theorem Q1{w o n:()}{k:Int}(h:zt w k o=tI):(yK w k o n).length+o.length=w.length+n.length:=by
 obtain⟨e,hl,h0,h1⟩:=zU h;unfold yK
 erw[ah,bi,hl]
 lia
theorem vq{H:Hp}{D p:pC}{ds es:List L3.D}{xs vs:List V}(h1:H D=tG (.lst xs))(h2:Iss K H ds xs)(hp:H p=tH)(hv:Iss K H es vs)(f:zQ ds)(fe:zQ es):Iss K (upd (upd H p (.tup vs)) D (.lst (xs ++ [.ref p]))) (ds ++ [.tup es]) (xs ++ [.ref p]):=by
 obtain⟨ys,hy1,hy2⟩:=Jy h1 h2 hp hv f fe;rw[zc]at hy1;cases hy1;exact hy2
def qc(K:pB):Sp:=λvs H Q _=>∃(t:pC) (ss:List Stp),vs=[.ref t]/\Is K H (.lst (ss.map dSt)) (.ref t)/\ss.length<=1000/\∀(D:pC) (H':Hp),H D=tH->Same H H'->LsA K H' D ((y0 ss).map dSt)->Q (.ref D) H'
theorem kX{t:pC}{ss:List Stp}{H:Hp}{Q:VK}{E:XK}(h1:Is K H (.lst (ss.map dSt)) (.ref t))(h2:ss.length<=1000)(h:∀(D:pC) (H':Hp),H D=tH->Same H H'->LsA K H' D ((y0 ss).map dSt)->Q (.ref D) H'):qc K [.ref t] H Q E:=#[t,ss,rfl,h1,h2,h]
theorem zag{ss:List Stp}{i:Nat}{s:Stp}(h:ss.reverse[i]? = tG s):(y0 ss).take (i+1)=(y0 ss).take i ++ [bk s]:=zL (by unfold y0;rw[az,h];rfl)
theorem zaY:sQz 1 ["steps"] X8:=by nofun
theorem Kx{f:pC}{fd:pG}(B:Bt mg)(F:("back"^^^X8)) :(1&&&["steps"]) (qc K):=by
 exists F.ok zaY
 ·obtain⟨t,ss,rfl,hT,hsl,q⟩:=h;refine#[_,(zh (zr (yO (own:=["step"]) (caps:=[]) (ix:=[]) (tt:=xQ) (te:=(WL (zH (tOp (vM K) (zZ 0) (tC (.int 0))) (zH (tOp (vM K) (zZ 0) (tC (.int 1))) (zH (UY (tOp (vM K) (zZ 0) (tC (.int 2)))) xF))))) rfl (zJ (sc:=zg X8) rfl (by symm) (by symm) (by symm) rfl (by symm) (by symm) rfl) (zcS rfl B.rev (za (pv 0) ze)) (λ_ _ _ _ _ _=>zx (i:=0) (show List.Nodup [_] by decide) rfl (.inl rfl)) (λ_ _ _ _ _ _=>z7) (λ_ _ _ _ _ _=>(zO (za (zl ix_tup (pv 0) zf) (za (zl ix_tup (pv 0) zf) (za (J9 (zl ix_tup (pv 0) zf)) ze)))))))),?_];have s16:=yb
  rfl'
  erw[Is]at hT
  obtain⟨_,ts,e,hTs,hJ⟩:=hT;cases e;have htl:=hJ.len;rw[aa]at htl;have hbl:(y0 ss).length=ss.length:=by simp [y0]
  refine#[ts,hTs,λD hD=>CompV.by (xs:=ts) (λi tM H'=>Same H H'/\H' D=tG (.lst tM)/\Iss K H' (((y0 ss).take i).map dSt) tM) #[zd hD,zc,by erw[bI,aJ,Iss]] (λi tM H' _ h=>h.1.seq hTs) ?_ ?_]
  ·refine nm4 ?_;rintro i x tM H' hx ⟨hs,hH,hA⟩:_;have hi:i<ts.length:=by have:=(tN.mp hx).1;simpa using this
   rw[cD hi]at hx;obtain⟨s,ps,hsi,rfl,hqs⟩:=vA hJ hx;have hsr:ss.reverse[i]? = tG s:=by rw[cD ⋯,<- hsi,htl]
   have hal:=hA.len;rw[aa,aF]at hal;right
   erw[xQ]
   rfl'
   refine#[yM,_,zp hs hqs,_,rfl,_,zp hs hqs,_,rfl,_,zp hs hqs,_,rfl,_,rfl,⋯,λp hp=>#[zd hp _ _ hH,⋯,CNx.mk hi #[zw (hs.trans (zd hp)) hD,zc,?_]]];rw[zag hsr,aq];exact vq hH hA hp JS (vQ _) (by erw[zQ,xv,and_self])
  ·rintro tM H' ⟨hs,hH,hA⟩;rw[htl,<- hbl,aK]at hA;exact q D H' hD hs #[tM,hH,hA]
def kQ(K:pB):Sp:=λvs H Q _=>∃(t:pC) (ss:List Stp) (z:Int),vs=[.ref t,.int z]/\Is K H (.lst (ss.map dSt)) (.ref t)/\ss.length<=1000/\∀(D:pC) (H':Hp),H D=tH->Same H H'->LsA K H' D ((mvL ss z).map dSt)->Q (.ref D) H'
theorem ZJ{t:pC}{ss:List Stp}{z:Int}{H:Hp}{Q:VK}{E:XK}(h1:Is K H (.lst (ss.map dSt)) (.ref t))(h2:ss.length<=1000)(h:∀(D:pC) (H':Hp),H D=tH->Same H H'->LsA K H' D ((mvL ss z).map dSt)->Q (.ref D) H'):kQ K [.ref t,.int z] H Q E:=#[t,ss,z,rfl,h1,h2,h]
theorem Jp:sQz 2 ["steps","size"] kL:=by nofun
theorem Jo{f:pC}{fd:pG}(B:Bt mg)(F:("moved"^^^kL)) :(1&&&["steps","size"]) (kQ K):=by
 exists F.ok Jp
 ·obtain⟨t,ss,z,rfl,hT,hsl,q⟩:=h;refine#[_,(zh (zr (yO (own:=["step"]) (caps:=["size"]) (ix:=[1]) (tt:=xQ) (te:=(WL (zH (tOp (vM K) (zZ 0) (tC (.int 0))) (zH (tOp jb (tOp (vM K) (zZ 0) (tC (.int 1))) (zZ 1)) (zH (tOp (vM K) (zZ 0) (tC (.int 2))) xF))))) rfl (zJ (sc:=zg kL) rfl (by symm) (by symm) (by symm) rfl (by symm) (by symm) rfl) (yh (pv 0)) (λ_ _ _ _ _ _=>zx (i:=0) (show List.Nodup [_,_] by decide) rfl (.inl rfl)) (λ_ _ _ _ _ _=>z7) (λ_ _ _ _ _ _=>(zO (za (zl ix_tup (pv 0) zf) (za (zC yz (zl ix_tup (pv 0) zf) (pv 1)) (za (zl ix_tup (pv 0) zf) ze)))))))),?_];have s16:=yb
  rfl'
  erw[Is]at hT
  obtain⟨_,ts,e,hTs,hJ⟩:=hT;cases e;have htl:=hJ.len;rw[aa]at htl;have hbl:(mvL ss z).length=ss.length:=by simp [mvL]
  refine#[#[ts,hTs],λD hD=>CompL.by (xs:=ts) (λi tM H'=>Same H H'/\H' D=tG (.lst tM)/\Iss K H' (((mvL ss z).take i).map dSt) tM) #[zd hD,zc,by erw[bI,aJ,Iss]] (λi tM H' _ h=>h.1.seq hTs) ?_ ?_]
  ·refine nm4 ?_;rintro i x tM H' hx ⟨hs,hH,hA⟩:_;have hi:=(tN.mp hx).1;obtain⟨s,ps,hsi,rfl,hqs⟩:=vA hJ hx;have hm:(mvL ss z)[i]? = tG (s.1,s.2.1+z,s.2.2):=by unfold mvL;rw[az,hsi];rfl
   have hal:=hA.len;rw[aa,aF]at hal;right
   erw[xQ]
   rfl'
   refine#[yM,_,zp hs hqs,_,rfl,_,zp hs hqs,_,rfl,_,zp hs hqs,_,rfl,⋯,λp hp=>#[zd hp _ _ hH,⋯,CNx.mk hi #[zw (hs.trans (zd hp)) hD,zc,?_]]];rw[zL hm,aq];exact vq hH hA hp JS (vQ _) (by erw[zQ,xv,and_self])
  ·rintro tM H' ⟨hs,hH,hA⟩;rw[htl,<- hbl,aK]at hA;exact q D H' hD hs #[tM,hH,hA]
noncomputable abbrev Ent:=() × () × List Stp
variable{E:XK}{H:Hp}{Q:VK}{bs:List Ent}{e:Ent}{es:List Ent}{f:pC}{fd:pG}{k:Nat}{ns:List Int}{p:zm}{ps:List zm}{rs:List zm}{ss:List Stp}
noncomputable def dE(e:Ent):L3.D:=.tup [dS e.1,dS e.2.1,.lst (e.2.2.map dSt)]
noncomputable def Wr(es:List Ent)(u:Stp):List Stp:=mvL (if u.2.2=tI then (es.getD u.1.toNat ([],[],[])).2.2 else y0 (es.getD u.1.toNat ([],[],[])).2.2) u.2.1
noncomputable def byL(es:List Ent)(us:List Stp):List Stp:=us.flatMap (Wr es)
theorem zcA{v:V}(h:Is K H (dE e) v):∃p s,v=.ref p/\SqT K H p [.str (tx e.1),.str (tx e.2.1),.ref s]/\Is K H (.lst (e.2.2.map dSt)) (.ref s):=by
 erw[dE,Is,Iss]at h
 obtain⟨a,xs,e0,hs,v1,r1,rfl,rfl,v2,r2,rfl,rfl,v3,r3,rfl,⟨s,zs,rfl,h1,h2⟩,rfl⟩:=h;refine#[a,s,e0,hs,?_]
 erw[Is]
 exact#[s,zs,rfl,h1,h2]
theorem zeQ{xs:List V}{i:Int}(hI:Iss K H (es.map dE) xs)(h0:0<=i)(hi:i<es.length):∃p s,atI xs i=tG (.ref p)/\es[i.toNat]? = tG (es.getD i.toNat ([],[],[]))/\SqT K H p [.str (tx (es.getD i.toNat ([],[],[])).1),.str (tx (es.getD i.toNat ([],[],[])).2.1),.ref s]/\Is K H (.lst ((es.getD i.toNat ([],[],[])).2.2.map dSt)) (.ref s):=by
 have hl:=hI.len;rw[aa]at hl;obtain⟨v,a1,b1⟩:=jo (xs:=xs) (i:=i) h0 ⋯;obtain⟨d,e,ix⟩:=hI.get b1;rw[az]at e;obtain⟨r,hr,rfl⟩:=tU.mp e;have e:es.getD i.toNat ([],[],[])=r:=by rw[af,hr];rfl
 rw[e];obtain⟨p,s,rfl,h2,h3⟩:=zcA ix;exact#[p,s,a1,hr,h2,h3]
theorem X4(ss:List Stp)(z:Int):(mvL ss z).length=ss.length:=by simp [mvL]
theorem yZ(ss:List Stp):(y0 ss).length=ss.length:=by simp [y0]
def Jb(K:pB):Sp:=λvs H Q _=>∃(a t:pC) (es:List Ent) (us:List Stp),vs=[.ref a,.ref t]/\Is K H (.lst (es.map dE)) (.ref a)/\Is K H (.lst (us.map dSt)) (.ref t)/\us.length<=100/\(∀e ∈ es,e.2.2.length<=600)/\(∀u ∈ us,0<=u.1/\u.1<es.length)/\∀(D:pC) (H':Hp),H D=tH->Same H H'->LsA K H' D ((byL es us).map dSt)->Q (.ref D) H'
theorem lm:sQz 2 ["entries","steps","chain","step","own"] vW:=by nofun
theorem Yu(B:Bt mg)(F:("by_pacts"^^^vW))(oS:(1<<<"moved") ["steps","size"] [] (kQ K))(mI:(1<<<"back") ["steps"] [] (qc K)):(2&&&["entries","steps"]) (Jb K):=by
 exists F.ok lm
 ·obtain⟨a,t,es,us,rfl,hE,hU,hul,hel,hub,q⟩:=h
  refine#[_,(zi (zF 2 lm.nd (xZ ze))
   (zi (ym PassesOwn.never rfl (yh (pv 1)) (zx (i:=3) lm.nd rfl (.inl rfl))
    (zi (zF 4 lm.nd (zl ix_tup (zl ix_list (pv 0) (zl ix_tup (pv 3) zf)) zf))
    (zh (yw (xu aS e7 e8 Zl (pv 2) (za (cl0 oS hr .nil rfl (za (jQ (xy (zl ix_tup (pv 3) zf) (λ_=>rfl)) (pv 4) (cl0 mI hr .nil rfl (za (pv 4) ze))) (za (zl ix_tup (pv 3) zf) ze))) ze))))))
   (zh (zr (pv 2))))),?_]
  have s16:=yb;have hE':=hE;have hU':=hU
  erw[Is]at hE' hU'
  obtain⟨_,xs,e,hX,hI⟩:=hE';cases e;obtain⟨_,ts,e,hTs,hJ⟩:=hU';cases e;have htl:=hJ.len;rw[aa]at htl;refine zj (λσ H'=>∃D,H D=tH/\Same H H'/\H' D=tG (.lst [])/\σ=[!!a,!!t,!!D,tH,tH]) ?_ ?_
  ·rfl'
   exact#[⋯,λp hp=>#[p,hp,zd hp,zc,rfl]]
  rintro σ H1 ⟨D,hD,s1,hD1,rfl⟩:_;right;refine zj (λσ H'=>Same H H'/\LsA K H' D ((byL es us).map dSt)/\∃v3 v4,σ=[!!a,!!t,!!D,v3,v4]) ?_ ?_
  ·rfl'
   refine#[#[_,s1.seq hTs],ForL.by (xs:=ts) (λi σ H'=>Same H H'/\LsA K H' D ((byL es (us.take i)).map dSt)/\(byL es (us.take i)).length<=i * 600/\∃v3 v4,σ=[!!a,!!t,!!D,v3,v4]) #[s1,#[[],hD1,by erw[bI,byL,List.flatMap_nil,aJ,Iss]],by simp [byL],_,_,rfl] (λi σ H' _ h=>h.1.seq hTs) ?_ ?_]
   ·refine nm4 ?_;rintro i x σ H' hx ⟨hs,hL,hl,v3,v4,rfl⟩:_;obtain⟨u,pu,hui,rfl,hqu⟩:=vA hJ hx;have hil:=(tN.mp hui).1;obtain⟨u0,u1⟩:=hub u (ae hui);obtain⟨pe,se,g1,g2,g3,g4⟩:=zeQ hI u0 u1;have hle:=hel _ (ae g2)
    have hby:byL es (us.take (i+1))=byL es (us.take i) ++ Wr es u:=by
     unfold byL;rw[zL hui,cL];simp
    right
    erw[yR,bg,be]
    refine zj (λσ H''=>H''=H'/\σ=[!!a,!!t,!!D,!!pu,!!se]) ?_ ?_
    ·rfl'
     exact#[_,zp hs hqu,_,rfl,_,rfl,_,hs.seq hX,_,g1,_,rfl,_,zp hs g3,rfl]
    rintro σ G ⟨rfl,rfl⟩:_;obtain⟨zs,hZ,hZI⟩:=id hL;have hzl:=hZI.len;rw[aa]at hzl;have hse:=Is.same hs _ _ g4
    have fin:∀(ws:List Stp) (M:pC) (G2:Hp),Wr es u=ws->ws.length<=600->Same G G2->LsA K G2 M (ws.map dSt)->UK (V.ref D) [V.ref M] G2 λx H1=>Same H H1/\LsA K H1 D ((byL es (us.take (i+1))).map dSt)/\(byL es (us.take (i+1))).length<=(i+1) * 600:=λws M G2 ew hwl sg hM=>by
     obtain⟨ys,hY,hYI⟩:=hM;have hyl:=hYI.len;rw[aa]at hyl;have hZ2:=sg _ _ hZ;refine#[D,M,zs,ys,rfl,rfl,hZ2,hY,⋯,zw (hs.trans sg) hD,#[_,zc,?_],?_]
     ·rw[hby,ew,aq];exact Iss.append (Iss.updL hZ2 _ _ (vQ _) (Iss.same sg _ _ hZI)) (Iss.updL hZ2 _ _ (vQ _) hYI)
     ·rw[hby,ew,ah];lia
    right
    rfl'
    refine#[.inl #[_,SqL.of hZ],_,zp hs hqu,_,rfl,_,rfl,yA (λhf=>#[_,zp hs hqu,_,rfl,ZJ hse ⋯ λM G2 _ sg hM=>fin _ M G2 (by unfold Wr;rw[if_pos hf]) (by rw[X4];lia) sg hM]) λhf=>kX hse ⋯ λM0 G1 _ sg0 hM0=>#[_,zp (hs.trans sg0) hqu,_,rfl,ZJ hM0.is (by rw[yZ];lia) λM G2 _ sg hM=>fin _ M G2 (by unfold Wr;rw[if_neg hf]) (by rw[X4,yZ];lia) (sg0.trans sg) hM]]
   ·rintro σ H' ⟨hs,hL,hl,v3,v4,rfl⟩;rw[htl,aK]at hL;exact#[hs,hL,_,_,rfl]
  rintro σ H2 ⟨s2,hL2,v3,v4,rfl⟩:_;right
  rfl'
  exact q D H2 hD s2 hL2
noncomputable def yf(rs:List zm):()->List Stp->Option (())
 | w,[]=>tG w
 | w,s::ss=>(yt rs w s).bind λw'=>yf rs w' ss
theorem x0(rs:List zm):∀(ss ts:List Stp) (w:()),yf rs w (ss ++ ts)=(yf rs w ss).bind λw'=>yf rs w' ts
 | [],ts,w=>rfl
 | s::ss,ts,w=>by
  erw[aV,yf]
  cases yt rs w s with
  | none=>rfl
  | some w1=>exact x0 rs ss ts w1
theorem qB{s:Stp}{w w':()}(h:yf rs w (s::ss)=tG w'):∃w1,yt rs w s=tG w1/\yf rs w1 ss=tG w':=by
 erw[yf]at h
 obtain⟨w1,h1,h2⟩:=Ag.mp h;exact#[w1,h1,h2]
theorem Zk{s:Stp}{w w1 w2:()}(h:yf rs w ss=tG w1)(h2:yt rs w1 s=tG w2):yf rs w (ss ++ [s])=tG w2:=by
 rw[x0,h]
 erw[yf,bY]
 rw[h2];rfl
theorem UL(s:Stp)(ss:List Stp):y0 (s::ss)=y0 ss ++ [bk s]:=by simp [y0]
theorem vI:∀{ss:List Stp} {w w':()},yf rs w ss=tG w'->yf rs w' (y0 ss)=tG w
 | [],w,w',h=>by cases h;rfl
 | s::ss,w,w',h=>by
  obtain⟨w1,h1,h2⟩:=qB h;rw[UL];exact Zk (vI h2) (WJ h1)
theorem qv(a b:()):∀{ss:List Stp} {w w':()},yf rs w ss=tG w'->yf rs (a ++ w ++ b) (mvL ss (a.length:Int))=tG (a ++ w' ++ b)
 | [],w,w',h=>by cases h;rfl
 | s::ss,w,w',h=>by
  obtain⟨w1,h1,h2⟩:=qB h;have e:mvL (s::ss) (a.length:Int)=(s.1,s.2.1+(a.length:Int),s.2.2)::mvL ss (a.length:Int):=rfl;rw[e]
  erw[yf]
  rw[ur a b h1];exact qv a b h2
def EOk(rs:List zm)(e:Ent):Prop:=yf rs e.1 e.2.2=tG e.2.1
noncomputable def zb(es:List Ent):List zm:=es.map λe=>(e.1,e.2.1)
theorem Qw(hE:∀e ∈ es,EOk rs e){u:Stp}{w w':()}(h:yt (zb es) w u=tG w'):yf rs w (Wr es u)=tG w':=by
 have hb:0<=u.1/\u.1<(zb es).length:=bR λhb=>by rw[xm hb]at h;cases h
 rw[yS hb]at h;have hl:(zb es).length=es.length:=by unfold zb;rw[aa]
 rw[hl]at hb
 have hg:es[u.1.toNat]? = tG (es.getD u.1.toNat ([],[],[])):=by
  rw[af,ag ⋯];rfl
 have hp:(zb es).getD u.1.toNat ([],[])=((es.getD u.1.toNat ([],[],[])).1,(es.getD u.1.toNat ([],[],[])).2.1):=by
  unfold zb;rw[af,az,hg];rfl
 rw[hp]at h;have he:=hE _ (ae hg);unfold Wr;generalize es.getD u.1.toNat ([],[],[])=e at *
 have key:∀(o n:()) (ss:List Stp),sdl (e.1,e.2.1) u.2.2=(o,n)->yf rs o ss=tG n->yf rs w (mvL ss u.2.1)=tG w':=λo n ss hs hw=>by
  rw[hs]at h;by_cases hst:zt w u.2.1 o=tI
  ·rw[if_pos hst]at h;cases h;obtain⟨e1,e2,h0,h1⟩:=zU hst;have:=qv (w.take u.2.1.toNat) (w.drop (u.2.1.toNat+o.length)) hw;rw[e1,e2,show ((u.2.1.toNat:Nat):Int)=u.2.1 by lia]at this;exact this
  ·rw[if_neg hst]at h;cases h
 cases hf:u.2.2 with
 | true =>
  rw[if_pos rfl];exact key e.1 e.2.1 e.2.2 (by rw[hf];rfl) he
 | false =>
  rw[if_neg ∅];exact key e.2.1 e.1 (y0 e.2.2) (by rw[hf];rfl) (vI he)
theorem ke(hE:∀e ∈ es,EOk rs e):∀{us:List Stp} {w w':()},yf (zb es) w us=tG w'->yf rs w (byL es us)=tG w'
 | [],w,w',h=>by cases h;rfl
 | u::us,w,w',h=>by
  obtain⟨w1,h1,h2⟩:=qB h;have e:byL es (u::us)=Wr es u ++ byL es us:=by simp [byL]
  rw[e,x0,Qw hE h1];exact ke hE h2
theorem Uz(ok:kA rs){w w':()}{s:Stp}(h:yt rs w s=tG w'):w'.length<=w.length+100:=by
 have hb:0<=s.1/\s.1<rs.length:=bR λhb=>by rw[xm hb]at h;cases h
 rw[yS hb]at h;have g:=Yb ok s.1.toNat;generalize rs.getD s.1.toNat ([],[])=r at *;by_cases hs:zt w s.2.1 (sdl r s.2.2).1=tI
 ·rw[if_pos hs]at h;cases h;have:=Q1 (n:=(sdl r s.2.2).2) hs
  have h2:(sdl r s.2.2).2.length<=100:=by
   cases s.2.2
   ·exact g.1
   ·exact g.2
  lia
 ·rw[if_neg hs]at h;cases h
noncomputable def vS(D:pC)(H:Hp):Hp:=λb=>if b=D then tH else H b
theorem z6{D b:pC}(h:b≠D):vS D H b=H b:=by unfold vS;rw[if_neg h]
theorem yU{D:pC}:vS D H D=tH:=by unfold vS;rw[if_pos rfl]
theorem xx{D:pC}:Same (vS D H) H:=λb o e=>by
 by_cases hb:b=D
 ·rw[hb,yU]at e;cases e
 ·rw[z6 hb]at e;exact e
theorem UV{D:pC}{H H':Hp}(hD:H D=tH)(s:Same H H'):Same H (vS D H'):=λb o e=>by
 have hb:b≠D:=λz=>by rw[z,hD]at e;cases e
 rw[z6 hb];exact s _ _ e
theorem yL{D:pC}{H H':Hp}(s:Same H H'):Same (vS D H) (vS D H'):=λb o e=>by
 by_cases hb:b=D
 ·rw[hb,yU]at e;cases e
 ·rw[z6 hb]at e ⊢;exact s _ _ e
theorem xC{D:pC}{o:HO}:Same (vS D H) (vS D (upd H D o)):=λb o' e=>by
 by_cases hb:b=D
 ·rw[hb,yU]at e;cases e
 ·rw[z6 hb]at e ⊢;rw[zk hb];exact e
theorem VG{D a:pC}{xs ys:List V}(hD:H D=tG (.lst ys))(h:SqT K H a xs):SqT K (vS D H) a xs:=by
 rcases h with (h | ⟨o,h⟩) | h
 ·exact .inl (.inl (by rw[z6 (λe=>by rw[e,hD]at h;cases h)];exact h))
 ·exact .inl (.inr #[o,by rw[z6 (λe=>by rw[e,hD]at h;cases h)];exact h])
 ·exact .inr h
theorem kW{D:pC}{ys:List V}(hD:H D=tG (.lst ys)):∀(ss:List Stp) (vs:List V),Iss K H (ss.map dSt) vs->Iss K (vS D H) (ss.map dSt) vs
 | [],vs,h=>by erw[aJ,Iss]at h ⊢;exact h
 | s::ss,vs,h=>by
  erw[ar,Iss]at h ⊢
  obtain⟨v,r,rfl,h1,h2⟩:=h;obtain⟨p,rfl,h3⟩:=JM h1;exact#[_,r,rfl,Xh (VG hD h3),kW hD ss r h2]
theorem zdC{p s:pC}(h1:SqT K H p [.str (tx e.1),.str (tx e.2.1),.ref s])(h2:Is K H (.lst (e.2.2.map dSt)) (.ref s)):Is K H (dE e) (.ref p):=by
 erw[dE,Is,Iss]
 erw[Is]at h2
 exact#[p,_,rfl,h1,_,_,rfl,rfl,_,_,rfl,rfl,_,_,rfl,h2,rfl]
theorem XD{vs:List V}{j:Nat}{v:V}(h:Iss K H (es.map dE) vs)(q:vs[j]? = tG v):∃e p s,es[j]? = tG e/\v=.ref p/\SqT K H p [.str (tx e.1),.str (tx e.2.1),.ref s]/\Is K H (.lst (e.2.2.map dSt)) (.ref s):=by
 obtain⟨d,e,i⟩:=h.get q;rw[az]at e;obtain⟨r,hr,rfl⟩:=tU.mp e;obtain⟨p,s,e1,e2,e3⟩:=zcA i;exact#[r,p,s,hr,e1,e2,e3]
theorem za8{d:L3.D}{v:V}(h:Is K H d v):Iss K H [d] [v]:=by
 erw[Iss]
 exact#[v,[],rfl,h,rfl]
def EnA(K:pB)(H:Hp)(e:Ent)(v:V):Prop:=∃p s,v=.ref p/\SqT K H p [.str (tx e.1),.str (tx e.2.1),.ref s]/\LsA K H s (e.2.2.map dSt)
def EnsA(K:pB)(H:Hp):List Ent->List V->Prop
 | [],vs=>vs=[]
 | e::es,vs=>∃v r,vs=v::r/\EnA K H e v/\EnsA K H es r
def EnsL(K:pB)(H:Hp)(a:pC)(es:List Ent):Prop:=∃xs,SqL K H a xs/\EnsA K H es xs
def EnsM(K:pB)(H:Hp)(a:pC)(es:List Ent):Prop:=∃xs,H a=tG (.lst xs)/\EnsA K H es xs
theorem EnA.is{v:V}(h:EnA K H e v):Is K H (dE e) v:=by
 obtain⟨p,s,rfl,h1,h2⟩:=h;exact zdC h1 h2.is
theorem EnA.same{H H':Hp}{v:V}(h:EnA K H e v)(q:Same H H'):EnA K H' e v:=by
 obtain⟨p,s,e0,h1,h2⟩:=h;exact#[p,s,e0,zp q h1,h2.same q]
theorem EnsA.iss:∀{es:List Ent} {vs:List V},EnsA K H es vs->Iss K H (es.map dE) vs
 | [],vs,h=>by erw[EnsA]at h;erw[aJ,Iss];exact h
 | e::es,vs,h=>by
  erw[EnsA]at h
  obtain⟨v,r,rfl,h1,h2⟩:=h
  erw[ar,Iss]
  exact#[v,r,rfl,h1.is,h2.iss]
theorem EnsA.len{vs:List V}(h:EnsA K H es vs):vs.length=es.length:=by
 have:=h.iss.len;rw[aa]at this;exact this
theorem EnsA.same{H H':Hp}(q:Same H H'):∀{es:List Ent} {vs:List V},EnsA K H es vs->EnsA K H' es vs
 | [],vs,h=>by erw[EnsA]at h ⊢;exact h
 | e::es,vs,h=>by
  erw[EnsA]at h ⊢
  obtain⟨v,r,e0,h1,h2⟩:=h;exact#[v,r,e0,h1.same q,h2.same q]
theorem EnsA.snoc{v:V}(hv:EnA K H e v):∀{es:List Ent} {vs:List V},EnsA K H es vs->EnsA K H (es ++ [e]) (vs ++ [v])
 | [],vs,h=>by
  erw[EnsA]at h
  subst h
  erw[aT,EnsA]
  exact#[v,[],rfl,hv,rfl]
 | e'::es,vs,h=>by
  erw[EnsA]at h
  obtain⟨x,r,rfl,hx,hr⟩:=h
  erw[aV,EnsA]
  exact#[x,r ++ [v],rfl,hx,hr.snoc hv]
theorem EnsA.get:∀{es:List Ent} {vs:List V} {j:Nat} {v:V},EnsA K H es vs->vs[j]? = tG v->∃e p s,es[j]? = tG e/\v=.ref p/\SqT K H p [.str (tx e.1),.str (tx e.2.1),.ref s]/\LsA K H s (e.2.2.map dSt)
 | [],vs,j,v,h,q=>by
  erw[EnsA]at h
  subst h;simp at q
 | e::es,vs,0,v,h,q=>by
  erw[EnsA]at h
  obtain⟨x,r,rfl,⟨p,s,rfl,h1,h2⟩,_⟩:=h;cases q;exact#[e,p,s,rfl,rfl,h1,h2]
 | e::es,vs,j+1,v,h,q=>by
  erw[EnsA]at h
  obtain⟨x,r,rfl,_,hr⟩:=h;exact hr.get (j:=j) (by simpa using q)
theorem EnsL.is{a:pC}(h:EnsL K H a es):Is K H (.lst (es.map dE)) (.ref a):=by
 obtain⟨xs,h1,h2⟩:=h
 erw[Is]
 exact#[a,xs,rfl,h1,h2.iss]
theorem EnsL.same{H H':Hp}{a:pC}(h:EnsL K H a es)(q:Same H H'):EnsL K H' a es:=by
 obtain⟨xs,h1,h2⟩:=h;exact#[xs,q.seq h1,h2.same q]
theorem EnsM.l{a:pC}(h:EnsM K H a es):EnsL K H a es:=by
 obtain⟨xs,h1,h2⟩:=h;exact#[xs,SqL.of h1,h2]
theorem EnsM.same{H H':Hp}{a:pC}(h:EnsM K H a es)(q:Same H H'):EnsM K H' a es:=by
 obtain⟨xs,h1,h2⟩:=h;exact#[xs,q _ _ h1,h2.same q]
theorem EnA.new{D p s:pC}{ys:List V}(hD:H D=tG (.lst ys))(hp:H p=tG (.tup [.str (tx e.1),.str (tx e.2.1),.ref s]))(hs:LsA K H s (e.2.2.map dSt))(hsD:s≠D):EnA K (vS D H) e (.ref p):=by
 obtain⟨zs,hz,hi⟩:=hs;have hpD:p≠D:=λz=>by rw[z,hD]at hp;cases hp
 exact#[p,s,rfl,SqT.of (by rw[z6 hpD];exact hp),zs,by rw[z6 hsD];exact hz,kW hD _ _ hi]
theorem vx(es:List Ent):(zb es).length=es.length:=by unfold zb;rw[aa]
def wT(K:pB):Sp:=λvs H Q _=>∃(a:pC) (es:List Ent),vs=[.ref a]/\Is K H (.lst (es.map dE)) (.ref a)/\es.length<=1000/\∀(D:pC) (H':Hp),H D=tH->Same H H'->LsA K H' D ((zb es).map dR)->Q (.ref D) H'
theorem wG{a:pC}(h1:Is K H (.lst (es.map dE)) (.ref a))(h2:es.length<=1000)(h:∀(D:pC) (H':Hp),H D=tH->Same H H'->LsA K H' D ((zb es).map dR)->Q (.ref D) H'):wT K [.ref a] H Q E:=#[a,es,rfl,h1,h2,h]
theorem YI:sQz 1 ["entries"] wQ:=by nofun
theorem Ya(B:Bt mg)(F:("pairs_of"^^^wQ)) :(1&&&["entries"]) (wT K):=by
 exists F.ok YI
 ·obtain⟨a,es,rfl,hA,hl,q⟩:=h;refine#[_,(zh (zr (yO (own:=["entry"]) (caps:=[]) (ix:=[]) (tt:=xQ) (te:=(WL (zH (tOp (vM K) (zZ 0) (tC (.int 0))) (zH (tOp (vM K) (zZ 0) (tC (.int 1))) xF)))) rfl (zJ (sc:=zg wQ) rfl (by symm) (by symm) (by symm) rfl (by symm) (by symm) rfl) (yh (pv 0)) (λ_ _ _ _ _ _=>zx (i:=0) (show List.Nodup [_] by decide) rfl (.inl rfl)) (λ_ _ _ _ _ _=>z7) (λ_ _ _ _ _ _=>(zO (za (zl ix_tup (pv 0) zf) (za (zl ix_tup (pv 0) zf) ze))))))),?_];have s16:=yb
  rfl'
  erw[Is]at hA
  obtain⟨_,xs,e,hX,hI⟩:=hA;cases e;have hxl:=hI.len;rw[aa]at hxl;have hpl:=vx es;refine#[#[xs,hX],λD hD=>CompL.by (xs:=xs) (λi tM H'=>Same H H'/\H' D=tG (.lst tM)/\Iss K H' (((zb es).take i).map dR) tM) #[zd hD,zc,by erw[bI,aJ,Iss]] (λi tM H' _ h=>h.1.seq hX) ?_ ?_]
  ·refine nm4 ?_;rintro i x tM H' hx ⟨hs,hH,hA⟩:_;have hi:=(tN.mp hx).1;obtain⟨e,pe,se,hei,rfl,hqe,_⟩:=XD hI hx;have hm:(zb es)[i]? = tG (e.1,e.2.1):=by unfold zb;rw[az,hei];rfl
   have hal:=hA.len;rw[aa,aF]at hal;right
   erw[xQ]
   rfl'
   refine#[yM,_,zp hs hqe,_,rfl,_,zp hs hqe,_,rfl,⋯,λp hp=>#[zd hp _ _ hH,⋯,CNx.mk hi #[zw (hs.trans (zd hp)) hD,zc,?_]]];rw[zL hm,aq];exact vq hH hA hp zaR (z8 _) (by erw[zQ,xv,and_self])
  ·rintro tM H' ⟨hs,hH,hA⟩;rw[hxl,<- hpl,aK]at hA;exact q D H' hD hs #[tM,hH,hA]
noncomputable def zW(k:Nat)(l:())(ns:List Int)(e:Ent):Ent:=if zG k l ns e.2.1 e.1=tI then e else (e.2.1,e.1,y0 e.2.2)
structure EB(l:())(e:Ent):Prop where
 a:e.1.length<=60
 b:e.2.1.length<=60
 s:e.2.2.length<=600
 ma:∀c ∈ e.1,c ∈ l
 mb:∀c ∈ e.2.1,c ∈ l
theorem EB.rule{l:()}(h:EB l e):EB l (zW k l ns e):=by
 unfold zW;split
 ·exact h
 ·exact#[h.b,h.a,by rw[yZ];exact h.s,h.mb,h.ma]
def wF(K:pB)(CO CR CW:pC):Sp:=λvs H Q _=>∃(o p s:pC) (k:Nat) (l:()) (ns:List Int) (e:Ent),vs=[.ref o,.ref p]/\OrdAt CO CR CW H o k l ns/\OG l ns k/\SqT K H p [.str (tx e.1),.str (tx e.2.1),.ref s]/\Is K H (.lst (e.2.2.map dSt)) (.ref s)/\EB l e /\
 (zW k l ns e=e->∀H',Same H H'->Q (.ref p) H') /\
 (∀(p' s':pC) (H':Hp),Same H H'->H s'=tH->H' p'=tG (.tup [.str (tx (zW k l ns e).1),.str (tx (zW k l ns e).2.1),.ref s'])->LsA K H' s' ((zW k l ns e).2.2.map dSt)->Q (.ref p') H')
theorem jE{CO CR CW o p s:pC}{l:()}(h1:OrdAt CO CR CW H o k l ns)(h2:OG l ns k)(h3:SqT K H p [.str (tx e.1),.str (tx e.2.1),.ref s])(h4:Is K H (.lst (e.2.2.map dSt)) (.ref s))(h5:EB l e)
  (h6:zW k l ns e=e->∀H',Same H H'->Q (.ref p) H') (h7:∀(p' s':pC) (H':Hp),Same H H'->H s'=tH->H' p'=tG (.tup [.str (tx (zW k l ns e).1),.str (tx (zW k l ns e).2.1),.ref s'])->LsA K H' s' ((zW k l ns e).2.2.map dSt)->Q (.ref p') H'):wF K CO CR CW [.ref o,.ref p] H Q E :=
 #[o,p,s,k,l,ns,e,rfl,h1,h2,h3,h4,h5,h6,h7]
theorem WH:sQz 2 ["order","entry"] uZ:=by nofun
theorem Wt{f CO CR CW:pC}(B:Bt mg)(DBk:DB P w K mg base CO CR CW)(F:("as_rule"^^^uZ))(mI:(1<<<"back") ["steps"] [] (qc K)):(4&&&["order","entry"]) (wF K CO CR CW):=by
 exists F.ok WH
 ·obtain⟨o,p,s,k,l,ns,e,rfl,ho,hG,hp,hs,hE,q1,q2⟩:=h
  refine#[_,(zS (zP (xy (zbi DBk hr (pv 0) (za (zl ix_tup (pv 1) zf) (za (zl ix_tup (pv 1) zf) ze))) (λ_=>rfl))
    (zh (zr (pv 1)))
    zy)
   (zh (zr (zO (za (zl ix_tup (pv 1) zf) (za (zl ix_tup (pv 1) zf) (za (cl0 mI hr .nil rfl (za (zl ix_tup (pv 1) zf) ze)) ze))))))),?_]
  have s16:=yb;ac_rfl;obtain⟨C,dx,fs,hf,ho1,hn,_⟩:=ho.fam;have h1:fs.lookup ("before" : pJ)=tH:=hn _ ∅ ∅;refine#[C,hf,dx,fs,ho1,h1,_,hp,_,rfl,_,hp,_,rfl,o,k,l,ns,e.2.1,e.1,rfl,ho,hG,by have:=hE.b;lia,by have:=hE.a;lia,hE.mb,hE.ma,λH1 s1=>#[_,rfl,yA (λh=>?_) λh=>?_]]
  ·exact q1 (by unfold zW;rw[if_pos h]) H1 s1
  ·have er:zW k l ns e=(e.2.1,e.1,y0 e.2.2):=by unfold zW;rw[if_neg h]
   rw[er]at q2;have hp1:=zp s1 hp;refine#[_,hp1,_,rfl,_,hp1,_,rfl,_,hp1,_,rfl,kX (Is.same s1 _ _ hs) (by have:=hE.s;lia) λD H2 hD s2 hL=>#[⋯,λt ht=>?_]];exact q2 t D _ (s1.trans (s2.trans (zd ht))) (s1.free hD) zc (hL.same (zd ht))
theorem Yn{l:()}{w:()}(hb:∀n ∈ ns,1<=n/\n<=1000000):0<=WM l ns w:=by
 unfold WM
 have key:∀xs:List Int,(∀x ∈ xs,0<=x)->0<=xs.sum:=by
  intro xs
  induction xs with
  | nil=>intro _;simp
  | cons x xs ih =>
   intro h;rw[bz];have h1:=h x av;have h2:=ih λy hy=>h y (ao _ hy);lia
 refine key _ λx hx=>?_;obtain⟨p,hp,rfl⟩:=tO.mp hx;have h1:=(hb p.2 (dj (show (p.1,p.2) ∈ l.zip ns from hp)).2).1;exact Int.mul_nonneg ⋯ ⋯
theorem WQ{l:()}{u v:()}(hb:∀n ∈ ns,1<=n/\n<=1000000)(h:zG k l ns u v=tI):v≠[]:=by
 intro e;subst e
 have h0:zq k l ns []=0:=by
  unfold zq;split
  ·unfold WM
   have z:∀xs:List (Nat × Int),(xs.map λp=>(([]:()).count p.1:Int) * p.2).sum=0:=by
    intro xs
    induction xs with
    | nil=>rfl
    | cons x xs ih=>rw[ar,bz,ih];simp
   exact z _
  ·rfl
 have h1:0<=zq k l ns u:=by
  unfold zq;split
  ·exact Yn hb
  ·lia
 have h2:vJ k l []=[]:=by
  unfold vJ ye;split <;> rfl
 unfold zG at h;rw[h0,h2]at h;split at h
 ·cases hr:vJ k l u with
  | nil=>rw[hr]at h;cases h
  | cons a r=>rw[hr]at h;cases h
 ·have:=of_decide_eq_true h;lia
theorem qD{k:Nat}{l:()}{ns:List Int}(hE:EB l e)(hne:e.1≠e.2.1):zG k l ns (zW k l ns e).2.1 (zW k l ns e).1=tI:=by
 unfold zW;by_cases h:zG k l ns e.2.1 e.1=tI
 ·rw[if_pos h];exact h
 ·rw[if_neg h];have:=vf (k:=k) (ns:=ns) hE.ma hE.mb hne;show zG k l ns e.1 e.2.1=tI;rw[this];simpa using h
noncomputable def ux(k:Nat)(l:())(ns:List Int)(es:List Ent):List Ent:=(es.filter λe=>!decide (e.1=e.2.1)).map (zW k l ns)
theorem za2(k:Nat)(l:())(ns:List Int)(es fs:List Ent):ux k l ns (es ++ fs)=ux k l ns es ++ ux k l ns fs:=by
 unfold ux;rw[bu,aq]
theorem YF(k:Nat)(l:())(ns:List Int)(es:List Ent):(ux k l ns es).length<=es.length:=by
 unfold ux;rw[aa];exact cE _ _
noncomputable def qJ(k:Nat)(l:())(ns:List Int)(a b:Ent):Bool:=if a.1=b.1 then zG k l ns a.2.1 b.2.1 else zG k l ns a.1 b.1
structure Lined(k:Nat)(l:())(ns:List Int)(es zs:List Ent):Prop where
 perm:zs.Perm (ux k l ns es)
 srt:zs.Pairwise λa b=>qJ k l ns b a=tJ
 is:zs=L3.srt (qJ k l ns) ([],[],[]) (ux k l ns es)
structure EndsAt(ps:List zm)(w:())(i:Nat):Prop where
 live:YK ps w i
 end_:zB (wAt ps w i) ps=tH
 most:i<=40
theorem WT(ps:List zm)(w:()):(∃i,EndsAt ps w i)\/(YK ps w 40/\zB (wAt ps w 40) ps≠tH):=by
 have key:∀n,n<=41->(∃i,EndsAt ps w i)\/YK ps w n:=by
  intro n
  induction n with
  | zero=>intro _;exact .inr λi h=>absurd h (cS i)
  | succ n ih =>
   intro hn;rcases ih ⋯ with h | h
   ·exact .inl h
   ·cases e:zB (wAt ps w n) ps with
    | none=>exact .inl #[n,h,e,⋯]
    | some u =>
     refine .inr λi hi=>?_;by_cases hin:i=n
     ·rw[hin,e];intro z;cases z
     ·exact h i ⋯
 rcases key 41 (al _)with h | h
 ·exact .inl h
 ·exact .inr #[λi hi=>h i ⋯,h 40 ∅]
theorem EndsAt.uniq{w:()}{i j:Nat}(h1:EndsAt ps w i)(h2:EndsAt ps w j):i=j:=jS h1.live h1.end_ h2.live h2.end_
noncomputable def stS(us:List (Nat × Nat)):List Stp:=us.map λu=>((u.1:Int),(u.2:Int),tI)
noncomputable def yJ(bs:List Ent)(e:Ent)(i j:Nat):Ent:=(wAt (zb bs) e.1 i,wAt (zb bs) e.2.1 j,byL bs (y0 (stS (sAt (zb bs) e.1 i))) ++ e.2.2 ++ byL bs (stS (sAt (zb bs) e.2.1 j)))
def v0(e:Ent):Prop:=240<e.2.2.length\/60<e.1.length\/60<e.2.1.length
inductive y8(k:Nat)(l:())(ns:List Int):List Ent->List Ent->Option (List Ent)->Prop where
 | nil (bs:List Ent):y8 k l ns bs [] (tG bs)
 | same {bs es:List Ent} {e:Ent} {i j:Nat} {r:Option (List Ent)} (h1:EndsAt (zb bs) e.1 i) (h2:EndsAt (zb bs) e.2.1 j) (h3:wAt (zb bs) e.1 i=wAt (zb bs) e.2.1 j) (h4:y8 k l ns bs es r):y8 k l ns bs (e::es) r
 | new {bs es:List Ent} {e:Ent} {i j:Nat} {r:Option (List Ent)} (h1:EndsAt (zb bs) e.1 i) (h2:EndsAt (zb bs) e.2.1 j) (h3:wAt (zb bs) e.1 i≠wAt (zb bs) e.2.1 j) (h4:¬ v0 (yJ bs e i j)) (h5:y8 k l ns (bs ++ [zW k l ns (yJ bs e i j)]) es r):y8 k l ns bs (e::es) r
 | far {bs es:List Ent} {e:Ent} {i j:Nat} (h1:EndsAt (zb bs) e.1 i) (h2:EndsAt (zb bs) e.2.1 j) (h3:wAt (zb bs) e.1 i≠wAt (zb bs) e.2.1 j) (h4:v0 (yJ bs e i j)):y8 k l ns bs (e::es) tH
 | stuck {bs es:List Ent} {e:Ent} (h:(∀i,¬ EndsAt (zb bs) e.1 i)\/(∀j,¬ EndsAt (zb bs) e.2.1 j)):y8 k l ns bs (e::es) tH
inductive vT(k:Nat)(l:())(ns:List Int):Nat->List Ent->Option (List Ent)->Prop where
 | out (es:List Ent):vT k l ns 0 es tH
 | bad {n:Nat} {es zs:List Ent} (h1:Lined k l ns es zs) (h2:y8 k l ns [] zs tH):vT k l ns (n+1) es tH
 | done {n:Nat} {es zs bs:List Ent} (h1:Lined k l ns es zs) (h2:y8 k l ns [] zs (tG bs)) (h3:zb bs=zb zs):vT k l ns (n+1) es (tG bs)
 | more {n:Nat} {es zs bs:List Ent} {r:Option (List Ent)} (h1:Lined k l ns es zs) (h2:y8 k l ns [] zs (tG bs)) (h3:zb bs≠zb zs) (h4:vT k l ns n bs r):vT k l ns (n+1) es r
theorem zN{w:()}{u:Nat × Nat}(h:zB w ps=tG u):∃p,ps[u.1]? = tG p/\zt w (u.2:Int) p.1=tI:=by
 have hm:u ∈ xN w ps w.length:=List.mem_of_mem_head? (by unfold zB at h;rw[h];rfl);exact (w6 (usesK_mem.mp hm).2).2
theorem vh{l w:()}(hw:∀c ∈ w,c ∈ l)(hp:∀p ∈ ps,∀c ∈ p.2,c ∈ l):∀j,∀c ∈ wAt ps w j,c ∈ l
 | 0=>hw
 | j+1=>by
  have ih:=vh hw hp j
  cases e:zB (wAt ps w j) ps with
  | none =>
   show ∀c ∈ Y3 ps (wAt ps w j),c ∈ l;unfold Y3;rw[e];exact ih
  | some u =>
   obtain⟨p,h1,h2⟩:=zN e;rw[yT e];unfold k8 yK;rw[yv h1];intro c hc;rcases tQ.mp hc with hc | hc
   ·rcases tQ.mp hc with hc | hc
    ·exact ih c (bD hc)
    ·exact hp p (ae h1) c hc
   ·exact ih c (de hc)
structure zbl(R:()->()->Prop):Prop where
 refl:∀u,R u u
 symm:∀{u v},R u v->R v u
 trans:∀{u v w},R u v->R v w->R u w
 ctx:∀{u v} (a b:()),R u v->R (a ++ u ++ b) (a ++ v ++ b)
def Wp(R:()->()->Prop)(es:List Ent):Prop:=∀e ∈ es,R e.1 e.2.1
theorem QF{R:()->()->Prop}(hR:zbl R)(hk:∀p ∈ ps,R p.1 p.2)(w:()):∀j,R w (wAt ps w j)
 | 0=>hR.refl w
 | j+1=>by
  have ih:=QF hR hk w j
  cases e:zB (wAt ps w j) ps with
  | none =>
   show R w (Y3 ps (wAt ps w j));unfold Y3;rw[e];exact ih
  | some u =>
   obtain⟨p,h1,h2⟩:=zN e;rw[yT e];refine hR.trans ih ?_;obtain⟨e1,_⟩:=zU h2;unfold k8 yK;rw[yv h1];have:=hR.ctx ((wAt ps w j).take ((u.2:Int)).toNat) ((wAt ps w j).drop (((u.2:Int)).toNat+p.1.length)) (hk p (ae h1));rw[e1]at this;exact this
theorem qk{R:()->()->Prop}(h:Wp R bs):∀p ∈ zb bs,R p.1 p.2:=λp hp=>by
 unfold zb at hp;obtain⟨e,he,rfl⟩:=tO.mp hp;exact h e he
theorem jv{R:()->()->Prop}(hR:zbl R){l:()}:R (zW k l ns e).1 (zW k l ns e).2.1 ↔ R e.1 e.2.1:=by
 unfold zW;split
 ·exact Iff.rfl
 ·exact#[hR.symm,hR.symm]
theorem UH{R:()->()->Prop}(hR:zbl R){i j:Nat}(h:Wp R bs):R (wAt (zb bs) e.1 i) (wAt (zb bs) e.2.1 j) ↔ R e.1 e.2.1:=by
 have h1:=QF hR (qk h) e.1 i;have h2:=QF hR (qk h) e.2.1 j;exact#[λx=>hR.trans h1 (hR.trans x (hR.symm h2)),λx=>hR.trans (hR.symm h1) (hR.trans x h2)]
theorem zeg{R:()->()->Prop}(hR:zbl R){l:()}{bs es:List Ent}{r:Option (List Ent)}(h:y8 k l ns bs es r):∀fs,r=tG fs->(Wp R fs ↔ Wp R bs/\Wp R es):=by
 induction h with
 | nil bs =>
  intro fs e;cases e;exact#[λh=>#[h,λe he=>(nomatch he)],λh=>h.1]
 | @same bs es e i j r h1 h2 h3 h4 ih =>
  intro fs er;rw[ih fs er];refine#[λ⟨a,b⟩=>#[a,λx hx=>?_],λ⟨a,b⟩=>#[a,λx hx=>b x (ao _ hx)]];rcases tP.mp hx with rfl | hx
  ·refine (UH hR a (i:=i) (j:=j)).mp ?_;rw[h3];exact hR.refl _
  ·exact b x hx
 | @new bs es e i j r h1 h2 h3 h4 h5 ih =>
  intro fs er;rw[ih fs er];constructor
  ·rintro⟨a,b⟩;have a':Wp R bs:=λx hx=>a x (aO _ hx);refine#[a',λx hx=>?_];rcases tP.mp hx with rfl | hx
   ·have:=a _ (ay bs (tR.mpr rfl));exact (UH hR a' (i:=i) (j:=j)).mp ((jv hR).mp this)
   ·exact b x hx
  ·rintro⟨a,b⟩;refine#[λx hx=>?_,λx hx=>b x (ao _ hx)];rcases tQ.mp hx with hx | hx
   ·exact a x hx
   ·rw[tR.mp hx];exact (jv hR).mpr ((UH hR a (i:=i) (j:=j)).mpr (b e av))
 | far=>intro fs e;cases e
 | stuck=>intro fs e;cases e
def Within(p w:()):Prop:=∃a b:(),w=a ++ p ++ b
theorem ZW{w p:()}{q:Nat}(h:zt w (q:Int) p=tI):Within p w:=by
 obtain⟨e,_⟩:=zU h;exact#[_,_,e.symm]
theorem Us{w p:()}(h:Within p w):∃q:Nat,zt w (q:Int) p=tI:=by
 obtain⟨a,b,rfl⟩:=h;refine#[a.length,?_];unfold zt;refine decide_eq_true #[⋯,by erw[ah];lia,?_];rw[aX,aH,List.drop_left,List.take_left]
theorem qj{w:()}(hN:NeL ps)(h:zB w ps=tH):∀p ∈ ps,¬ Within p.1 w:=λp hp hw=>by
 obtain⟨q,hq⟩:=Us hw;obtain⟨j,hj⟩:=Ab.mp hp;have hlt:=qN (hN p hp) hq;have hs:stJ w ps q j=tI:=by rw[jx hj];exact hq
 have:(j,q) ∈ xN w ps w.length:=usesK_mem.mpr #[hlt,hs];unfold zB at h;rw[List.head?_eq_none_iff]at h;rw[h]at this;cases this
structure RL(k:Nat)(l:())(ns:List Int)(bs:List Ent):Prop where
 e:∀e ∈ bs,EB l e
 lt:∀e ∈ bs,zG k l ns e.2.1 e.1=tI
theorem QG{l:()}{w:()}{u:Nat × Nat}(G:OG l ns k)(hp:∀p ∈ ps,zG k l ns p.2 p.1=tI/\(∀c ∈ p.1,c ∈ l)/\∀c ∈ p.2,c ∈ l)(hw:∀c ∈ w,c ∈ l)(h:zB w ps=tG u):zG k l ns (k8 w ps u) w=tI:=by
 obtain⟨p,h1,h2⟩:=zN h;obtain⟨e1,_⟩:=zU h2;obtain⟨p1,p2,p3⟩:=hp p (ae h1);unfold k8 yK;rw[yv h1];have ha:∀c ∈ w.take ((u.2:Int)).toNat,c ∈ l:=λc hc=>hw c (bD hc);have hb:∀c ∈ w.drop (((u.2:Int)).toNat+p.1.length),c ∈ l:=λc hc=>hw c (de hc);generalize w.take ((u.2:Int)).toNat=a at *;generalize w.drop (((u.2:Int)).toNat+p.1.length)=b at *;rw[<- e1];have ap:∀x:(),(∀c ∈ x,c ∈ l)->∀c ∈ a ++ x,c ∈ l:=λx hx c hc=>(tQ.mp hc).elim (ha c) (hx c);rw[(Zc G hb (ap p.2 p3) (ap p.1 p2)).2,(Zc G ha p3 p2).1];exact p1
theorem Kr{l:()}{w:()}(G:OG l ns k)(hp:∀p ∈ ps,zG k l ns p.2 p.1=tI/\(∀c ∈ p.1,c ∈ l)/\∀c ∈ p.2,c ∈ l)(hw:∀c ∈ w,c ∈ l):∀j,wAt ps w j=w\/zG k l ns (wAt ps w j) w=tI
 | 0=>.inl rfl
 | j+1=>by
  have ih:=Kr G hp hw j;have hm:=vh hw (λp hp'=>(hp p hp').2.2) j
  cases e:zB (wAt ps w j) ps with
  | none =>
   show Y3 ps (wAt ps w j)=w\/zG k l ns (Y3 ps (wAt ps w j)) w=tI;unfold Y3;rw[e];exact ih
  | some u =>
   rw[yT e];have h:=QG G hp hm e;rcases ih with h' | h'
   ·rw[h']at h ⊢;exact .inr h
   ·exact .inr (vg h h')
theorem RL.pairs{l:()}(h:RL k l ns bs):∀p ∈ zb bs,zG k l ns p.2 p.1=tI/\(∀c ∈ p.1,c ∈ l)/\∀c ∈ p.2,c ∈ l:=λp hp=>by
 unfold zb at hp;obtain⟨e,he,rfl⟩:=tO.mp hp;exact#[h.lt e he,(h.e e he).ma,(h.e e he).mb]
theorem RL.ne{l:()}(h:RL k l ns bs)(G:OG l ns k):NeL (zb bs):=λp hp=>WQ G.nb (h.pairs p hp).1
theorem RL.snoc{l:()}{d:Ent}(h:RL k l ns bs)(hd:EB l d)(hne:d.1≠d.2.1):RL k l ns (bs ++ [zW k l ns d]):=by
 refine#[λe he=>?_,λe he=>?_]
 ·rcases tQ.mp he with he | he
  ·exact h.e e he
  ·rw[tR.mp he];exact hd.rule
 ·rcases tQ.mp he with he | he
  ·exact h.lt e he
  ·rw[tR.mp he];exact qD hd hne
theorem zas{l:()}{i j:Nat}(hB:RL k l ns bs)(hE:EB l e)(hF:¬ v0 (yJ bs e i j)):EB l (yJ bs e i j):=by
 unfold v0 at hF;exact#[⋯,⋯,⋯,vh hE.ma (λp hp=>(hB.pairs p hp).2.2) i,vh hE.mb (λp hp=>(hB.pairs p hp).2.2) j]
theorem WG{l:()}{i j:Nat}(G:OG l ns k)(hB:RL k l ns bs)(hE:EB l e)(hlt:zG k l ns e.2.1 e.1=tI)(h1:EndsAt (zb bs) e.1 i)(h2:EndsAt (zb bs) e.2.1 j)
  (hp1:(zW k l ns (yJ bs e i j)).1=e.1) (hp2:(zW k l ns (yJ bs e i j)).2.1=e.2.1):zB e.1 (zb bs)=tH/\zB e.2.1 (zb bs)=tH:=by
 unfold zW at hp1 hp2;by_cases h:zG k l ns (yJ bs e i j).2.1 (yJ bs e i j).1=tI
 ·rw[if_pos h]at hp1 hp2;have a1:wAt (zb bs) e.1 i=e.1:=hp1;have a2:wAt (zb bs) e.2.1 j=e.2.1:=hp2;have b1:=h1.end_;have b2:=h2.end_;rw[a1]at b1;rw[a2]at b2;exact#[b1,b2]
 ·rw[if_neg h]at hp1 hp2;have a1:wAt (zb bs) e.2.1 j=e.1:=hp1;rcases Kr G hB.pairs hE.mb j with h' | h'
  ·rw[a1]at h';rw[h',yD]at hlt;cases hlt
  ·rw[a1]at h';rw[wj h']at hlt;cases hlt
theorem jt{l:()}(G:OG l ns k){bs es:List Ent}{r:Option (List Ent)}(h:y8 k l ns bs es r):∀fs,r=tG fs->RL k l ns bs->RL k l ns es->∃gs,fs=bs ++ gs/\gs.length<=es.length/\RL k l ns fs /\
  (zb gs=zb es->∀i e,es[i]? = tG e->zB e.1 (zb (bs ++ gs.take i))=tH/\zB e.2.1 (zb (bs ++ gs.take i))=tH):=by
 induction h with
 | nil bs =>
  intro fs er hb he;cases er;exact#[[],by simp,al _,hb,λ_ i e h=>by simp at h]
 | @same bs es e i j r h1 h2 h3 h4 ih =>
  intro fs er hb he;obtain⟨gs,g1,g2,g3,g4⟩:=ih fs er hb #[λx hx=>he.e x (ao _ hx),λx hx=>he.lt x (ao _ hx)];refine#[gs,g1,by rw[aD];lia,g3,λhp=>?_];have:=congrArg ci hp;unfold zb at this;rw[aa,aa,aD]at this;lia
 | @new bs es e i j r h1 h2 h3 h4 h5 ih =>
  intro fs er hb he;have hEe:=he.e e av;have hd:=zas hb hEe h4;obtain⟨gs,g1,g2,g3,g4⟩:=ih fs er (hb.snoc hd h3) #[λx hx=>he.e x (ao _ hx),λx hx=>he.lt x (ao _ hx)];refine#[zW k l ns (yJ bs e i j)::gs,by rw[g1,aH];rfl,by rw[aD,aD];lia,g3,λhp n x hx=>?_];unfold zb at hp;rw[ar,ar]at hp;injection hp with hp1 hp2;have hp1a:=(Prod.ext_iff.mp hp1).1;have hp1b:=(Prod.ext_iff.mp hp1).2
  cases n with
  | zero =>
   have e0:e=x:=by simpa using hx
   subst e0;rw[bI,aE];exact WG G hb hEe (he.lt _ av) h1 h2 hp1a hp1b
  | succ n =>
   have:=g4 hp2 n x (by simpa using hx);rw[aH]at this;rw[dh];exact this
 | far=>intro fs e;cases e
 | stuck=>intro fs e;cases e
theorem wo{l:()}(G:OG l ns k){p w:()}(hw:∀c ∈ w,c ∈ l)(h:Within p w):p=w\/zG k l ns p w=tI:=by
 obtain⟨a,b,rfl⟩:=h;by_cases e:a ++ p ++ b=p
 ·exact .inl e.symm
 ·refine .inr (Xk G (λc hc=>hw c ?_) (λc hc=>hw c ?_) (λc hc=>hw c ?_) e).1
  ·exact aO _ (aO _ hc)
  ·exact aO _ (ay _ hc)
  ·exact ay _ hc
structure ThinL(k:Nat)(l:())(ns:List Int)(zs:List Ent):Prop where
 rl:RL k l ns zs
 up:∀(i j:Nat) (a b:Ent),zs[i]? = tG a->zs[j]? = tG b->i<j->zG k l ns a.1 b.1=tI
 no1:∀(i j:Nat) (a b:Ent),zs[i]? = tG a->zs[j]? = tG b->i≠j->¬ Within b.1 a.1
 no2:∀(i j:Nat) (a b:Ent),zs[i]? = tG a->zs[j]? = tG b->¬ Within b.1 a.2.1
theorem KT{k:Nat}{l:()}{ns:List Int}(G:OG l ns k){zs bs:List Ent}(hz:RL k l ns zs)(hs:zs.Pairwise λa b=>qJ k l ns b a=tJ)(h:y8 k l ns [] zs (tG bs))(hp:zb bs=zb zs):ThinL k l ns zs:=by
 obtain⟨gs,g1,g2,g3,g4⟩:=jt G h bs rfl #[λe he=>(nomatch he),λe he=>(nomatch he)] hz;rw[aT]at g1;subst g1;have irr:=g4 hp
 erw[aT]at irr
 have early:∀(i j:Nat) (a b:Ent),zs[i]? = tG a->zs[j]? = tG b->j<i->¬ Within b.1 a.1/\¬ Within b.1 a.2.1:=λi j a b ha hb hj=>by
  have hm:(b.1,b.2.1) ∈ zb (bs.take i):=by
   have e1:zb (bs.take i)=(zb zs).take i:=by
    rw[<- hp];unfold zb;rw[List.map_take]
   rw[e1];refine Ab.mpr #[j,?_];rw[dA hj];unfold zb;rw[az,hb];rfl
  have hN:NeL (zb (bs.take i)):=λp hp'=>by
   refine (g3.ne G) p ?_;unfold zb at hp' ⊢;obtain⟨x,hx,rfl⟩:=tO.mp hp';exact tO.mpr #[x,bD hx,rfl]
  obtain⟨f1,f2⟩:=irr i a ha;exact#[qj hN f1 _ hm,qj hN f2 _ hm]
 have later:∀(i j:Nat) (a b:Ent),zs[i]? = tG a->zs[j]? = tG b->i<j->zG k l ns b.1 a.1=tJ:=λi j a b ha hb hij=>by
  have hi:=(tN.mp ha);have hj:=(tN.mp hb);have:=List.pairwise_iff_getElem.mp hs i j hi.1 hj.1 hij;rw[hi.2,hj.2]at this;unfold qJ at this;by_cases e:b.1=a.1
  ·rw[e,yD]
  ·rw[if_neg e]at this;exact this
 have memz:∀{i:Nat} {a:Ent},zs[i]? = tG a->EB l a/\zG k l ns a.2.1 a.1=tI:=λ{i a} ha=>#[hz.e _ (ae ha),hz.lt _ (ae ha)]
 have up:∀(i j:Nat) (a b:Ent),zs[i]? = tG a->zs[j]? = tG b->i<j->zG k l ns a.1 b.1=tI:=λi j a b ha hb hij=>by
  have hne:a.1≠b.1:=λe=>(early j i b a hb ha hij).1 #[[],[],by rw[e];simp];have t:=vf (k:=k) (ns:=ns) (memz ha).1.ma (memz hb).1.ma hne;rw[later i j a b ha hb hij]at t;simpa using t
 refine#[hz,up,λi j a b ha hb hij=>?_,λi j a b ha hb hw=>?_]
 ·rcases Nat.lt_or_gt_of_ne hij with h1 | h1
  ·intro hw;rcases wo G (memz ha).1.ma hw with e | e
   ·have:=up i j a b ha hb h1;rw[e,yD]at this;cases this
   ·rw[later i j a b ha hb h1]at e;cases e
  ·exact (early i j a b ha hb h1).1
 ·have hle:zG k l ns b.1 a.1=tI:=by
   rcases wo G (memz ha).1.mb hw with e | e
   ·rw[e];exact (memz ha).2
   ·exact vg e (memz ha).2
  rcases eN i j with h1 | h1 | h1
  ·rw[later i j a b ha hb h1]at hle;cases hle
  ·subst h1;rw[ha]at hb;cases hb;rw[yD]at hle;cases hle
  ·exact (early i j a b ha hb h1).2 hw
theorem jW{w:()}:∀{i:Nat},YK ps w i->yf ps w (stS (sAt ps w i))=tG (wAt ps w i)
 | 0,_=>rfl
 | i+1,h=>by
  have ih:=jW (i:=i) λj hj=>h j ⋯;have hne:=h i ⋯
  cases e:zB (wAt ps w i) ps with
  | none=>exact absurd e hne
  | some u =>
   rw[Xv,yT e,e];unfold stS at ih ⊢;rw[aq];refine Zk ih ?_;obtain⟨p,h1,h2⟩:=zN e;have hl:=(tN.mp h1).1;show yt ps (wAt ps w i) ((u.1:Int),(u.2:Int),tI)=_;rw[yS (by show (0:Int)<=(u.1:Int)/\(u.1:Int)<ps.length;lia)];have e2:ps.getD ((u.1:Int)).toNat ([],[])=p:=by rw[aX,af,h1];rfl
   show (if zt (wAt ps w i) (u.2:Int) (sdl (ps.getD ((u.1:Int)).toNat ([],[])) tI).1=tI then _ else tH)=_;rw[e2,if_pos (show zt (wAt ps w i) (u.2:Int) (sdl p tI).1=tI from h2)];unfold k8;rw[yv h1];rfl
theorem VS{l:()}(h:EOk rs e):EOk rs (zW k l ns e):=by
 unfold zW;split
 ·exact h
 ·exact vI h
theorem zay{i j:Nat}(hb:∀e ∈ bs,EOk rs e)(he:EOk rs e)(h1:EndsAt (zb bs) e.1 i)(h2:EndsAt (zb bs) e.2.1 j):EOk rs (yJ bs e i j):=by
 have w1:=ke hb (vI (jW h1.live));have w2:=ke hb (jW h2.live);have he':yf rs e.1 e.2.2=tG e.2.1:=he;show yf rs (wAt (zb bs) e.1 i) (byL bs (y0 (stS (sAt (zb bs) e.1 i))) ++ e.2.2 ++ byL bs (stS (sAt (zb bs) e.2.1 j)))=tG (wAt (zb bs) e.2.1 j);rw[x0,x0,w1,bY,he',bY];exact w2
theorem XX{l:()}{bs es:List Ent}{r:Option (List Ent)}(h:y8 k l ns bs es r):∀fs,r=tG fs->(∀e ∈ bs,EOk rs e)->(∀e ∈ es,EOk rs e)->∀e ∈ fs,EOk rs e:=by
 induction h with
 | nil bs=>intro fs er hb _;cases er;exact hb
 | @same bs es e i j r h1 h2 h3 h4 ih=>intro fs er hb he;exact ih fs er hb λx hx=>he x (ao _ hx)
 | @new bs es e i j r h1 h2 h3 h4 h5 ih =>
  intro fs er hb he;refine ih fs er (λx hx=>?_) λx hx=>he x (ao _ hx);rcases tQ.mp hx with hx | hx
  ·exact hb x hx
  ·rw[tR.mp hx];exact VS (zay hb (he e av) h1 h2)
 | far=>intro fs e;cases e
 | stuck=>intro fs e;cases e
theorem XA{l:()}{es zs:List Ent}(h:Lined k l ns es zs)(he:∀e ∈ es,EOk rs e):∀e ∈ zs,EOk rs e:=λe hz=>by
 have hm:=h.perm.mem_iff.mp hz;unfold ux at hm;obtain⟨y,hy,rfl⟩:=tO.mp hm;exact VS (he y (tS.mp hy).1)
theorem XM{l:()}{es zs:List Ent}(h:Lined k l ns es zs)(he:∀e ∈ es,EB l e):RL k l ns zs:=by
 have key:∀e ∈ zs,∃y,EB l y/\y.1≠y.2.1/\e=zW k l ns y:=λe hz=>by
  have hm:=h.perm.mem_iff.mp hz;unfold ux at hm;obtain⟨y,hy,rfl⟩:=tO.mp hm;obtain⟨h1,h2⟩:=tS.mp hy;exact#[y,he y h1,by simpa using h2,rfl]
 refine#[λe hz=>?_,λe hz=>?_]
 ·obtain⟨y,h1,_,rfl⟩:=key e hz;exact h1.rule
 ·obtain⟨y,h1,h2,rfl⟩:=key e hz;exact qD h1 h2
theorem QY{l:()}(G:OG l ns k){zs bs:List Ent}(hz:RL k l ns zs)(h:y8 k l ns [] zs (tG bs)):RL k l ns bs:=by
 obtain⟨gs,g1,g2,g3,g4⟩:=jt G h bs rfl #[λe he=>(nomatch he),λe he=>(nomatch he)] hz;exact g3
theorem Wa{k n:Nat}{l:()}(G:OG l ns k){r:Option (List Ent)}(h:vT k l ns n es r):∀fs,r=tG fs->(∀e ∈ es,EB l e)->(∀e ∈ es,EOk rs e)->(∀e ∈ fs,EOk rs e)/\∃zs,ThinL k l ns zs/\zb fs=zb zs:=by
 induction h with
 | out=>intro fs e;cases e
 | bad=>intro fs e;cases e
 | @done n es zs bs h1 h2 h3 =>
  intro fs er he ho;cases er;have hz:=XM h1 he;exact#[XX h2 bs rfl (λe h=>(nomatch h)) (XA h1 ho),zs,KT G hz h1.srt h2 h3,h3]
 | @more n es zs bs r h1 h2 h3 h4 ih =>
  intro fs er he ho;have hz:=XM h1 he;exact ih fs er (QY G hz h2).e (XX h2 bs rfl (λe h=>(nomatch h)) (XA h1 ho))
noncomputable def rankF:KeyFam (Int × List Int):=#[λr=>[.int r.1,.lst (r.2.map L3.D.int)],λa b=>if a.1=b.1 then ltI a.2 b.2 else decide (a.1<b.1),tI,(0,[])]
theorem Jf{x y:List Int}(h:ltI x y=tI):ltI y x=tJ:=by
 by_cases e:x=y
 ·subst e;rw[xl]at h;cases h
 ·have:=wq e;rw[h]at this;simpa using this.symm
theorem za4{x y z:List Int}(h1:ltI y x=tJ)(h2:ltI z y=tJ):ltI z x=tJ:=by
 cases h:ltI z x with
 | false=>rfl
 | true =>
  by_cases e:y=x
  ·subst e;rw[h2]at h;cases h
  ·have h3:=wq e;rw[h1]at h3;have h4:ltI x y=tI:=by simpa using h3.symm
   rw[qi h h4]at h2;cases h2
theorem rankF_ok:rankF.Ok where
 w:=#[λa b h=>by
   erw[rankF]at h ⊢
   by_cases e:a.1=b.1
   ·rw[if_pos e]at h;rw[if_pos e.symm];exact Jf h
   ·rw[if_neg e]at h;rw[if_neg (λz=>e z.symm)];have:=of_decide_eq_true h;exact decide_eq_false ⋯,
  λa b c h1 h2=>by
   erw[rankF]at h1 h2 ⊢
   by_cases e:b.1=a.1
   ·rw[if_pos e]at h1;rw[e]at h2;by_cases f:c.1=a.1
    ·rw[if_pos f]at h2 ⊢;exact za4 h1 h2
    ·rw[if_neg f]at h2 ⊢;exact h2
   ·rw[if_neg e]at h1;have h1':=of_decide_eq_false h1;by_cases f:c.1=b.1
    ·rw[if_neg ⋯];exact decide_eq_false ⋯
    ·rw[if_neg f]at h2;have h2':=of_decide_eq_false h2;rw[if_neg ⋯]
     exact decide_eq_false ⋯]
 eq:=λa b=>by
  have:=Uf a.1 b.1 a.2 b.2
  erw[ltD]at this
  exact this
 ok:=λa b=>by erw[rankF,jU,okD];exact#[trivial,qf _ _,trivial]
 dp:=λa=>by erw[rankF,dpD,uE,Yj];decide
 sh:=λa=>#[_,_,rfl,.inl #[rfl,_,rfl]]
noncomputable def wH(k:Nat)(l:())(ns:List Int)(w:()):Int × List Int:=(zq k l ns w,vJ k l w)
theorem kr{d:L3.D}{v:V}:∀{ds:List L3.D} {vs:List V},Iss K H ds vs->Is K H d v->Iss K H (ds ++ [d]) (vs ++ [v])
 | [],vs,h,hv=>by
  erw[Iss]at h
  subst h
  erw[aT,Iss]
  exact#[v,[],rfl,hv,rfl]
 | e::ds,vs,h,hv=>by
  erw[Iss]at h
  obtain⟨x,r,rfl,hx,hr⟩:=h
  erw[aV,Iss]
  exact#[x,r ++ [v],rfl,hx,kr hr hv]
theorem OrdAt.samT{T CO CR CW:pC}{H H':Hp}{ps:Array pD}{o:pC}{l:()}(h:OrdAt CO CR CW H o k l ns)(s:SamT T H H')(hT:H T=tG (.tbl ps)):OrdAt CO CR CW H' o k l ns:=by
 obtain⟨dx,⟨h1,h2⟩ | ⟨h1,h2⟩ | ⟨h1,h2,w,h3,h4⟩⟩:=h
 ·exact#[dx,.inl #[h1,s.at hT h2 λ_ z=>by cases z]]
 ·exact#[dx,.inr (.inl #[h1,s.at hT h2 λ_ z=>by cases z])]
 ·exact#[dx,.inr (.inr #[h1,h2,w,s.at hT h3 (λ_ z=>by cases z),s.at hT h4 λ_ z=>by cases z])]
theorem EnsA.samT{T:pC}{H H':Hp}{ps:Array pD}(s:SamT T H H')(hT:H T=tG (.tbl ps)):∀{es:List Ent} {vs:List V},EnsA K H es vs->EnsA K H' es vs
 | [],vs,h=>by erw[EnsA]at h ⊢;exact h
 | e::es,vs,h=>by
  erw[EnsA]at h ⊢
  obtain⟨v,r,e0,⟨p,s',e1,h1,h2⟩,h3⟩:=h;exact#[v,r,e0,#[p,s',e1,s.seqT hT h1,h2.samT s hT],EnsA.samT s hT h3]
theorem qF{a b:Int × List Int}(h:a≠b):rankF.lt a b=!rankF.lt b a:=by
 erw[rankF]
 by_cases e:a.1=b.1
 ·rw[if_pos e,if_pos e.symm];exact wq λq=>h (Prod.ext e q)
 ·rw[if_neg e,if_neg λq=>e q.symm];by_cases c:a.1<b.1
  ·rw[decide_eq_true c,decide_eq_false ⋯];rfl
  ·rw[decide_eq_false c,decide_eq_true ⋯];rfl
theorem WS(a b:Int × List Int):eqD (.tup (rankF.dec a)) (.tup (rankF.dec b))=decide (a=b):=by
 obtain⟨a1,a2⟩:=a;obtain⟨b1,b2⟩:=b
 erw[rankF,eqD,vH,Zs]
 by_cases h:a1=b1
 ·by_cases h2:a2=b2
  ·simp [h,h2]
  ·simp [h,h2]
 ·simp [h]
theorem X5(a b:Int × List Int):ltD (.tup (rankF.dec a)) (.tup (rankF.dec b))=rankF.lt a b:=by
 erw[ltD]
 exact rankF_ok.eq a b
theorem ZE(a:Int × List Int):rankF.lt a a=tJ:=by
 erw[rankF]
 rw[if_pos trivial];exact xl _
noncomputable def pairF:KeyFam ((Int × List Int) × (Int × List Int)):=#[λr=>[.tup (rankF.dec r.1),.tup (rankF.dec r.2)],λa b=>if a.1=b.1 then rankF.lt a.2 b.2 else rankF.lt a.1 b.1,tJ,((0,[]),(0,[]))]
theorem uV(a b:(Int × List Int) × (Int × List Int)):pairF.lt a b=if a.1=b.1 then rankF.lt a.2 b.2 else rankF.lt a.1 b.1:=rfl
theorem pairF_ok:pairF.Ok where
 w:=#[λa b h=>by
   rw[uV]at h ⊢;by_cases e:a.1=b.1
   ·rw[if_pos e]at h;rw[if_pos e.symm];exact rankF_ok.w.asym _ _ h
   ·rw[if_neg e]at h;rw[if_neg λq=>e q.symm];exact rankF_ok.w.asym _ _ h,
  λa b c h1 h2=>by
   rw[uV]at h1 h2 ⊢;by_cases e:b.1=a.1
   ·rw[if_pos e]at h1;rw[e]at h2;by_cases f:c.1=a.1
    ·rw[if_pos f]at h2 ⊢;exact rankF_ok.w.ntr _ _ _ h1 h2
    ·rw[if_neg f]at h2 ⊢;exact h2
   ·rw[if_neg e]at h1;by_cases g:c.1=b.1
    ·rw[g,if_neg e];exact h1
    ·rw[if_neg g]at h2;by_cases f:c.1=a.1
     ·rw[f]at h2;have:=qF (a:=b.1) (b:=a.1) e;rw[h1,h2]at this;cases this
     ·rw[if_neg f]
      exact rankF_ok.w.ntr _ _ _ h1 h2]
 eq:=λa b=>by
  show vD [.tup (rankF.dec a.1),.tup (rankF.dec a.2)] [.tup (rankF.dec b.1),.tup (rankF.dec b.2)]=_;rw[uV,vD,WS,vD,WS,X5,X5,vD];by_cases e:a.1=b.1
  ·rw[if_pos (decide_eq_true e),if_pos e];by_cases f:a.2=b.2
   ·rw[if_pos (decide_eq_true f),f,ZE]
   ·rw[if_neg (by simpa using f)]
  ·rw[if_neg (by simpa using e),if_neg e]
 ok:=λa b=>by
  show jU [.tup (rankF.dec a.1),.tup (rankF.dec a.2)] [.tup (rankF.dec b.1),.tup (rankF.dec b.2)]
  erw[jU,okD]
  exact#[rankF_ok.ok _ _,rankF_ok.ok _ _,trivial]
 dp:=λa=>by erw[pairF,rankF,dpD,uE,Yj];decide
 sh:=λa=>#[_,_,rfl,.inr #[rfl,_,rfl]]
noncomputable def rkE(k:Nat)(l:())(ns:List Int)(e:Ent):(Int × List Int) × (Int × List Int):=(wH k l ns e.1,wH k l ns e.2.1)
theorem JV{l:()}{u v:()}(hu:∀c ∈ u,c ∈ l)(hv:∀c ∈ v,c ∈ l):wH k l ns u=wH k l ns v ↔ u=v :=
 #[λh=>XH hu hv (Prod.ext_iff.mp h).2,λh=>by rw[h]]
theorem V8{l:()}{a b:Ent}(ha:EB l a)(hb:EB l b):pairF.lt (rkE k l ns a) (rkE k l ns b)=qJ k l ns a b:=by
 rw[uV];unfold qJ;have h:(rkE k l ns a).1=(rkE k l ns b).1 ↔ a.1=b.1:=JV ha.ma hb.ma;by_cases e:a.1=b.1
 ·rw[if_pos (h.mpr e),if_pos e];rfl
 ·rw[if_neg λq=>e (h.mp q),if_neg e];rfl
theorem Vn:∀{es:List Ent} {vs:List V},EnsA K H es vs->∀t ∈ es.zip vs,EnA K H t.1 t.2
 | [],_,_,t,ht=>by simp at ht
 | e::es,vs,h,t,ht=>by
  erw[EnsA]at h
  obtain⟨v,r,rfl,h1,h2⟩:=h;rw[dC]at ht;rcases tP.mp ht with rfl | ht
  ·exact h1
  ·exact Vn h2 t ht
theorem J7:∀{ts:List (Ent × V)},(∀t ∈ ts,EnA K H t.1 t.2)->EnsA K H (ts.map (·.1)) (ts.map (·.2))
 | [],_=>by erw[aJ,EnsA]
 | t::ts,h=>by
  erw[ar,EnsA]
  exact#[_,_,rfl,h t av,J7 λu hu=>h u (ao _ hu)]
theorem Yr{l:()}{vs:List V}{ys:List (((Int × List Int) × (Int × List Int)) × V)}{d:((Int × List Int) × (Int × List Int)) × V}(hI:EnsA K H es vs)(hE:∀e ∈ es,EB l e)(h1:ys=srt (λp q=>pairF.lt p.1 q.1) d ((es.map (rkE k l ns)).zip vs)) :
  ∃zs:List Ent,zs.Perm es/\zs.Pairwise (λa b=>qJ k l ns b a=tJ)/\zs=srt (qJ k l ns) ([],[],[]) es/\EnsA K H zs (ys.map (·.2)):=by
 have hl:=hI.len
 have e0:(es.map (rkE k l ns)).zip vs=(es.zip vs).map λt=>(rkE k l ns t.1,t.2):=by
  rw[List.zip_map_left];rfl
 have W0:WkO λ(p q:((Int × List Int) × (Int × List Int)) × V)=>pairF.lt p.1 q.1:=#[λa b=>pairF_ok.w.asym _ _,λa b c=>pairF_ok.w.ntr _ _ _];have W1:WkO λ(p q:Ent × V)=>pairF.lt (rkE k l ns p.1) (rkE k l ns q.1):=#[λa b=>pairF_ok.w.asym _ _,λa b c=>pairF_ok.w.ntr _ _ _];have W2:WkO λ(p q:Ent)=>pairF.lt (rkE k l ns p) (rkE k l ns q):=#[λa b=>pairF_ok.w.asym _ _,λa b c=>pairF_ok.w.ntr _ _ _];rw[e0,Vp W0 (d':=(λt:Ent × V=>(rkE k l ns t.1,t.2)) (([],[],[]),.non)) (λ_ _ _ _=>rfl)]at h1
 replace h1:=h1.trans (Yd (lt:=λ(p q:((Int × List Int) × (Int × List Int)) × V)=>pairF.lt p.1 q.1) (λt:Ent × V=>(rkE k l ns t.1,t.2)) (([],[],[]),.non) (es.zip vs))
 obtain⟨p,h2⟩:=X1 W1 (([],[],[]),.non) (es.zip vs)
 have e2:(srt (λ(p q:Ent × V)=>pairF.lt (rkE k l ns p.1) (rkE k l ns q.1)) (([],[],[]),.non) (es.zip vs)).map (·.1)=srt (qJ k l ns) ([],[],[]) es:=by
  rw[<- Vp W2 (d:=([],[],[])) λa ha b hb=>V8 (hE a ha) (hE b hb)];have:=Yd (lt:=λ(p q:Ent)=>pairF.lt (rkE k l ns p) (rkE k l ns q)) (λt:Ent × V=>t.1) (([],[],[]),.non) (es.zip vs);rw[e9 ⋯]at this;exact this.symm
 generalize srt (λ(p q:Ent × V)=>pairF.lt (rkE k l ns p.1) (rkE k l ns q.1)) (([],[],[]),.non) (es.zip vs)=ts at h1 h2 p e2;have hm:∀t ∈ ts,t.1 ∈ es:=λt ht=>(dj (show (t.1,t.2) ∈ es.zip vs from p.mem_iff.mp ht)).1;refine#[ts.map (·.1),?_,?_,e2,?_]
 ·have:=p.map (·.1);rw[e9 ⋯]at this;exact this
 ·rw[eM];refine h2.imp_of_mem λ{a b} ha hb h=>?_;rw[<- V8 (hE _ (hm _ hb)) (hE _ (hm _ ha))];exact h
 ·rw[h1,cp];exact J7 λt ht=>Vn hI t (p.mem_iff.mp ht)
def tbE(K:pB)(CO CR CW:pC):TE:=WL (zH (zu (zbX CO CR CW) "rank" (λ_=>qg CO CR CW) [] E0 (zZ 1) (zH (tOp (vM K) (zZ 0) (tC (.int 0))) xF)) (zH (zu (zbX CO CR CW) "rank" (λ_=>qg CO CR CW) [] E0 (zZ 1) (zH (tOp (vM K) (zZ 0) (tC (.int 1))) xF)) xF))
theorem zcm{CO CR CW o p s:pC}{l:()}(hG:OG l ns k)(ho:OrdAt CO CR CW H o k l ns)(hE:EB l e)(hp:SqT K H p [.str (tx e.1),.str (tx e.2.1),.ref s])(q:∀(t:pC) (H':Hp),Same H H'->Is K H' (.tup (pairF.dec (rkE k l ns e))) (.ref t)->Q (.ref t) H'):tbE K CO CR CW [!!p,!!o] H Q:=by
 have s16:=yb;obtain⟨C,dx,fs,hf,ho1,hn,_⟩:=ho.fam;have h1:fs.lookup ("rank" : pJ)=tH:=hn _ ∅ ∅;unfold tbE;ac_rfl;refine#[C,hf,dx,fs,ho1,h1,_,hp,_,rfl,o,k,l,ns,e.1,rfl,ho,hG,by have:=hE.a;lia,hE.ma,λp1 q1 H1 s1 hp1 hq1=>#[C,hf,dx,fs,s1 _ _ ho1,h1,_,zp s1 hp,_,rfl,o,k,l,ns,e.2.1,rfl,ho.same s1,hG,by have:=hE.b;lia,hE.mb,λp2 q2 H2 s2 hp2 hq2=>#[⋯,λt ht=>?_]]];refine q t _ (s1.trans (s2.trans (zd (o:=.tup [.ref p1,.ref p2]) ht))) ?_;show Is K _ (.tup [.tup (rankF.dec (wH k l ns e.1)),.tup (rankF.dec (wH k l ns e.2.1))]) (.ref t);refine Is.tup ht ?_
 erw[Iss]
 exact#[_,_,rfl,qQ (s2 _ _ hp1) (s2 _ _ hq1),_,_,rfl,qQ hp2 hq2,rfl]
theorem J8{CO CR CW o:pC}{l:()}{LA:Hp->Prop}{Qf:List V->Hp->Prop}(hG:OG l ns k)(hLA:∀H H',LA H->Same H H'->LA H'):∀(es:List Ent) (vs tM:List V) (rs:List ((Int × List Int) × (Int × List Int))) (H:Hp),LA H->OrdAt CO CR CW H o k l ns->(∀e ∈ es,EB l e)->EnsA K H es vs ->
  Iss K H (rs.map λa=>.tup (pairF.dec a)) tM->(∀acc' H',Same H H'->Iss K H' ((rs ++ es.map (rkE k l ns)).map λa=>.tup (pairF.dec a)) acc'->Qf acc' H')->wk (λx H Q=>LA H/\tbE K CO CR CW [tG x,!!o] H Q) vs tM H Qf
 | [],vs,tM,rs,H,hL,ho,hw,hV,hI,h=>by
  erw[EnsA]at hV
  subst hV;exact h tM H (Same.refl _) (by simpa using hI)
 | e::es,vs,tM,rs,H,hL,ho,hw,hV,hI,h=>by
  have s16:=yb
  erw[EnsA]at hV
  obtain⟨v,r,rfl,⟨p,s,rfl,hp,_⟩,hV⟩:=hV;refine#[hL,zcm hG ho (hw e av) hp λt H' s3 hIs=>?_];refine J8 hG hLA es r (tM ++ [.ref t]) (rs ++ [rkE k l ns e]) _ (hLA _ _ hL s3) (ho.same s3) (λx hx=>hw x (ao _ hx)) (hV.same s3) ?_ λacc' H' s' hI'=>h acc' H' (s3.trans s') (by simpa using hI');rw[aq];exact kr (Iss.same s3 _ _ hI) hIs
noncomputable def zcu:pM->rj
 | .Lambda _ _ _ p=>p
 | _=>default
noncomputable def zeC:List pQ->rj
 | _::.Return (tG (.Call _ _ (k::_) _)) _::_=>zcu k.value
 | _=>default
noncomputable def lp:rj:=zeC (zX yC)
noncomputable def lq:pJ:="in_order.<locals>.<lambda>"
def kn(K:pB)(CO CR CW T:pC):Sp:=λvs H Q _=>∃(o a:pC) (k:Nat) (l:()) (ns:List Int) (es:List Ent),vs=[.ref o,.ref a]/\OrdAt CO CR CW H o k l ns/\OG l ns k/\EnsL K H a es/\es.length<64/\(∀e ∈ es,EB l e)/\TabOk H T lp lq /\
 ∀(D:pC) (zs:List Ent) (H':Hp),SamT T H H'->TabOk H' T lp lq->H D=tH->Lined k l ns es zs->EnsM K H' D zs->Q (.ref D) H'
theorem W6{CO CR CW T o a:pC}{l:()}(h1:OrdAt CO CR CW H o k l ns)(h2:OG l ns k)(h3:EnsL K H a es)(h4:es.length<64)(h5:∀e ∈ es,EB l e)(h6:TabOk H T lp lq)
  (h:∀(D:pC) (zs:List Ent) (H':Hp),SamT T H H'->TabOk H' T lp lq->H D=tH->Lined k l ns es zs->EnsM K H' D zs->Q (.ref D) H'):kn K CO CR CW T [.ref o,.ref a] H Q E:=#[o,a,k,l,ns,es,rfl,h1,h2,h3,h4,h5,h6,h]
abbrev Vm(mg:pJ->Option pD):Prop:=mg "sorted" = tH
theorem nv:sQz 2 ["order","entries","unlike"] yC:=by nofun
theorem YD{f CO CR CW CC TB:pC}(B:Bt mg)(DRk:DR P w K mg base CO CR CW)(hsorted:Vm mg)(hCd:PySem.W.CodeHd base CC TB)(hBt:base.BuiltinsAt mg TB)(hgT:pq≠TB)(F:("in_order"^^^yC))(HC:fd.code=.ref CC)(mJ:(4<<<"as_rule") ["order","entry"] [] (wF K CO CR CW)):(6&&&["order","entries"]) (kn K CO CR CW TB):=by
 refine VM F HC nv (λvs H Q E h=>?_) (λA outer s H vs Q E hr h=>?_)
 ·obtain⟨o,a,k,l,ns,es,rfl,_⟩:=h;rfl
 ·obtain⟨o,a,k,l,ns,es,rfl,ho,hG,hA,hz,hE,hTab,q⟩:=h
  refine#[_,(zi (YW (i:=2) nv.nd rfl (.inl rfl) (.inl rfl) (own:=["entry"]) (caps:=["order"]) (ix:=[0]) (tt:=(tBl (tOp rNe (tOp (vM K) (zZ 0) (tC (.int 0))) (tOp (vM K) (zZ 0) (tC (.int 1)))))) (te:=(vF (wF K CO CR CW) [] E0 (zH (zZ 1) (zH (zZ 0) xF)))) rfl (zJ (sc:=zg yC) rfl (by symm) (by symm) (by symm) rfl (by symm) (by symm) rfl) (yh (pv 1)) (λ_ _ _ _ _ _=>zx (i:=0) (show List.Nodup [_,_] by decide) rfl (.inl rfl)) (λ_ _ _ _ _ _=>(Uy (zA qL (zl ix_tup (pv 0) zf) (zl ix_tup (pv 0) zf) (zE _)))) (λ_ _ _ _ _ _=>(cl0 mJ hr .nil rfl (za (pv 1) (za (pv 0) ze)))))
   (zh (zr (Qv (k:=2) (p:="entry") (y:="order") (iy:=0) (c:=s⁻¹+1) (tb:=tbE K CO CR CW) pairF_ok #[rfl,rfl,rfl,∅,rfl,rfl,∅,∅] (hr.mono ∅) rfl hsorted fg (za (pv 2) ze) rfl hCd hBt hgT rfl rfl (by intro _ _ _ _;exact rfl) rfl rfl rfl (λs H f cv hr'=>zO (za (zbi DRk hr' (pv 1) (za (zl ix_tup (pv 0) zf) ze)) (za (zbi DRk hr' (pv 1) (za (zl ix_tup (pv 0) zf) ze)) ze))))))),?_]
  have s16:=yb;obtain⟨xs,hX,hI⟩:=id hA;have hxl:=hI.len
  have hEr:∀e ∈ ux k l ns es,EB l e:=λe he=>by
   unfold ux at he;obtain⟨y,hy,rfl⟩:=tO.mp he;exact (hE y (tS.mp hy).1).rule
  have hrl:=YF k l ns es;refine zj (λσ H'=>Same H H'/\∃(D0:pC) (tM:List V),H D0=tH/\H' D0=tG (.lst tM)/\EnsA K (vS D0 H') (ux k l ns es) tM/\σ=[!!o,!!a,!!D0]) ?_ ?_
  ·ac_rfl;refine#[#[xs,hX],λD hD=>CompL.by (xs:=xs) (λi tM H'=>Same H H'/\H' D=tG (.lst tM)/\EnsA K (vS D H') (ux k l ns (es.take i)) tM) #[zd hD,zc,by erw[bI,ux,dw,aJ,EnsA]] (λi tM H' _ h=>h.1.seq hX) ?_ ?_]
   ·refine nm4 ?_;rintro i x tM H' hx ⟨hs,hH,hA⟩:_;have hi:=(tN.mp hx).1;obtain⟨e,pe,se,hei,rfl,hqe,hse⟩:=hI.get hx;have hEe:=hE e (ae hei);have hal:=hA.len;have hal2:=YF k l ns (es.take i);rw[aF]at hal2;have hq1:=zp hs hqe
    have hraw:ux k l ns (es.take (i+1))=ux k l ns (es.take i) ++ if e.1=e.2.1 then []else [zW k l ns e]:=by
     rw[zL hei,za2];congr 1;unfold ux;by_cases hne:e.1=e.2.1
     ·rw[if_pos hne,dI (by simp [hne])];rfl
     ·rw[if_neg hne,dH (by simp [hne])];rfl
    right;ac_rfl;refine#[yM,_,hq1,_,rfl,_,hq1,_,rfl,rfl,yA (λhne=>?_) λheq=>?_]
    ·have hne':¬ e.1=e.2.1:=λz=>hne (by rw[z]);rw[if_neg hne']at hraw
     have fin:∀(v:V) (H2:Hp),Same H' H2->EnA K (vS D H2) (zW k l ns e) v->H2 D=tG (.lst tM)/\tM.length<pA/\CNx xs.length i (λi tM H'=>Same H H'/\H' D=tG (.lst tM)/\EnsA K (vS D H') (ux k l ns (es.take i)) tM) (tM ++ [v]) (upd H2 D (.lst (tM ++ [v]))):=λv H2 s2 hv=>by
      refine#[s2 _ _ hH,⋯,CNx.mk hi #[zw (hs.trans s2) hD,zc,?_]];rw[hraw];exact (hA.same ((yL s2).trans xC)).snoc (hv.same xC)
     refine jE (ho.same hs) hG hq1 (hse.same hs).is hEe (λer H2 s2=>fin _ _ s2 ?_) λp' s' H2 s2 hsn hp' hL=>fin _ _ s2 ?_
     ·rw[er];exact EnA.same #[pe,se,rfl,hqe,hse] (UV hD (hs.trans s2))
     ·exact EnA.new (s2 _ _ hH) hp' hL (λz=>by rw[z,hH]at hsn;cases hsn)
    ·have heq':e.1=e.2.1:=by
      have:=Classical.not_not.mp heq;injection this with this;exact jq this
     rw[if_pos heq',aE]at hraw;exact CNx.mk hi #[hs,hH,by rw[hraw];exact hA]
   ·rintro tM H' ⟨hs,hH,hA⟩;rw[hxl,aK]at hA;exact#[hs,D,hD,tM,hH,hA,rfl]
  rintro σ H1 ⟨s1,D0,tM,hD0,hH1,hI1,rfl⟩:_;have hal:=hI1.len;have hT1:=hTab.same s1;obtain⟨ps1,hps1,_⟩:=id hT1;right;ac_rfl;unfold JW;refine#[hT1,λf H2 hf hLA hT2 sT=>?_];obtain⟨ps2,hps2,_⟩:=id hT2;have hI2:=EnsA.samT sT hps1 (hI1.same xx);refine#[D0,tM,.ref o,rfl,SqL.of (sT.at hps1 hH1 λ_ z=>by cases z),⋯,rfl,?_];refine J8 hG (λA A' h1 h2=>LamAt.same h1 h2) (ux k l ns es) tM [] [] H2 hLA ((ho.same s1).samT sT hps1) hEr hI2 (by erw[aJ,Iss]) λacc' H3 s3 hI3=>#[(ux k l ns es).map (rkE k l ns),by simpa using hI3,λys p1 D hD=>?_];obtain⟨zs,z1,z2,z4,z3⟩:=Yr (hI2.same s3) hEr p1;have sD:=zd (o:=.lst (ys.map (·.2))) hD;refine q D zs _ ((SamT.of s1).trans (sT.trans (SamT.of (s3.trans sD)))) (hT2.same (s3.trans sD)) ?_ #[z1,z2,z4] #[_,zc,z3.same sD];exact ((SamT.of s1).trans (sT.trans (SamT.of s3))).free (s3 _ _ hps2) hD
structure TMo(mg:pJ->Option pD):Prop where
 u:∃t,mg "MOST_USES_thinning" = tG (.int 40 t)
 s:∃t,mg "MOST_STEPS" = tG (.int 240 t)
 d:∃t,mg "MOST_SIDE_thinning" = tG (.int 60 t)
 p:∃t,mg "MOST_PASSES" = tG (.int 20 t)
structure BG(k:Nat)(l:())(ns:List Int)(bs:List Ent):Prop where
 n:bs.length<64
 e:∀e ∈ bs,EB l e
 lt:∀e ∈ bs,zG k l ns e.2.1 e.1=tI
theorem BG.ne{l:()}(h:BG k l ns bs)(G:OG l ns k):NeL (zb bs):=λp hp=>by
 unfold zb at hp;obtain⟨e,he,rfl⟩:=tO.mp hp;exact WQ G.nb (h.lt e he)
theorem BG.le{l:()}(h:BG k l ns bs):∀p ∈ zb bs,p.1.length<=60/\p.2.length<=60:=λp hp=>by
 unfold zb at hp;obtain⟨e,he,rfl⟩:=tO.mp hp;exact#[(h.e e he).a,(h.e e he).b]
theorem BG.mem{l:()}(h:BG k l ns bs):∀p ∈ zb bs,∀c ∈ p.2,c ∈ l:=λp hp=>by
 unfold zb at hp;obtain⟨e,he,rfl⟩:=tO.mp hp;exact (h.e e he).mb
theorem jn{CF a:pC}{w:()}(hA:LsA K H a (ps.map dR))(hN:NeL ps)(hpl:ps.length<=100)(hP:∀p ∈ ps,p.1.length<=60/\p.2.length<=60)(hw:w.length<=60)
  (h1:∀(i:Nat) (p S:pC) (H':Hp),EndsAt ps w i->Same H H'->H' p=tG (.tup [.ref S,.str (tx (wAt ps w i))])->LsA K H' S ((sAt ps w i).map dG)->H S=tH->Q (.ref p) H') (h2:(∀i,¬ EndsAt ps w i)->∀H',Same H H'->E (.ref CF) tH H'):wJ K CF [.ref a,.str (tx w),.int 40] H Q E:=by
 have hP':∀p ∈ ps,p.1.length<=1000/\p.2.length<=1000:=λp hp=>by
  have:=hP p hp;lia
 have len:∀j,j<=40->(wAt ps w j).length<=10000:=λj hj=>by
  have:=qw (l:=w) (m:=60) hN (λp hp=>(hP p hp).2) j;lia
 rcases WT ps w with ⟨i,hi⟩ | ⟨hL,hf⟩
 ·have hm:=hi.most;exact#[a,w,ps,40,i,rfl,hA,hN,hpl,hP',#[hi.live,λj hj=>len j ⋯,⋯],.inl #[hi.end_,⋯,λp S H' s' hp hL hS=>h1 i p S H' hi s' hp hL hS]]
 ·refine#[a,w,ps,40,40,rfl,hA,hN,hpl,hP',#[hL,λj hj=>len j hj,∅],.inr #[hf,rfl,h2 λi hi=>?_]];have hm:=hi.most;by_cases e:i=40
  ·subst e;exact hf hi.end_
  ·exact hL i ⋯ hi.end_
theorem zaG(us:List (Nat × Nat)):us.map dG=(stS us).map dSt:=by
 unfold stS;rw[cp];rfl
theorem W9(us:List (Nat × Nat)):(stS us).length=us.length:=by unfold stS;rw[aa]
theorem zb6{w:()}{i:Nat}(h:YK ps w i):∀u ∈ sAt ps w i,u.1<ps.length:=λu hu=>by
 unfold sAt at hu;obtain⟨j,hj,rfl⟩:=tO.mp hu
 cases e:zB (wAt ps w j) ps with
 | none=>exact absurd e (h j (tT.mp hj))
 | some v =>
  obtain⟨p,h1,_⟩:=zN e;exact (tN.mp h1).1
theorem Kq{w:()}{i:Nat}(h:YK ps w i):∀u ∈ stS (sAt ps w i),0<=u.1/\u.1<ps.length:=λu hu=>by
 unfold stS at hu;obtain⟨v,hv,rfl⟩:=tO.mp hu;have:=zb6 h v hv;show 0<=(v.1:Int)/\(v.1:Int)<ps.length;lia
theorem KY{n:Int}(h:∀u ∈ ss,0<=u.1/\u.1<n):∀u ∈ y0 ss,0<=u.1/\u.1<n:=λu hu=>by
 unfold y0 at hu;obtain⟨v,hv,rfl⟩:=tO.mp hu;exact h v (tW.mp hv)
theorem zc0(h:∀e ∈ es,e.2.2.length<=600)(u:Stp):(Wr es u).length<=600:=by
 have hg:(es.getD u.1.toNat ([],[],[])).2.2.length<=600:=by
  rw[af]
  cases e:es[u.1.toNat]? with
  | none=>exact aG _
  | some r=>exact h r (ae e)
 unfold Wr;rw[X4];split
 ·exact hg
 ·rw[yZ];exact hg
theorem zav(h:∀e ∈ es,e.2.2.length<=600):∀us:List Stp,(byL es us).length<=us.length * 600
 | []=>by simp [byL]
 | u::us=>by
  have e:byL es (u::us)=Wr es u ++ byL es us:=by simp [byL]
  have h1:=zc0 h u;have h2:=zav h us;rw[e,ah,aD,eQ];lia
def Yf(K:pB)(CF:pC):Sp:=λvs H Q E=>∃(a p s:pC) (k:Nat) (l:()) (ns:List Int) (bs:List Ent) (e:Ent),vs=[.ref a,.ref p]/\OG l ns k/\Is K H (.lst (bs.map dE)) (.ref a)/\BG k l ns bs/\SqT K H p [.str (tx e.1),.str (tx e.2.1),.ref s]/\LsA K H s (e.2.2.map dSt)/\EB l e /\
 (∀i j H',EndsAt (zb bs) e.1 i->EndsAt (zb bs) e.2.1 j->wAt (zb bs) e.1 i=wAt (zb bs) e.2.1 j->Same H H'->Q .non H') /\
 (∀i j p' s' H',EndsAt (zb bs) e.1 i->EndsAt (zb bs) e.2.1 j->wAt (zb bs) e.1 i≠wAt (zb bs) e.2.1 j->Same H H'->H s'=tH->H' p'=tG (.tup [.str (tx (yJ bs e i j).1),.str (tx (yJ bs e i j).2.1),.ref s'])->LsA K H' s' ((yJ bs e i j).2.2.map dSt)->Q (.ref p') H') /\
 ((∀i,¬ EndsAt (zb bs) e.1 i)\/(∀j,¬ EndsAt (zb bs) e.2.1 j)->∀H',Same H H'->E (.ref CF) tH H')
theorem Ux{a t:pC}{us:List Stp}(h1:Is K H (.lst (es.map dE)) (.ref a))(h2:Is K H (.lst (us.map dSt)) (.ref t))(h3:us.length<=100)(h4:∀e ∈ es,e.2.2.length<=600)(h5:∀u ∈ us,0<=u.1/\u.1<es.length)(h:∀(D:pC) (H':Hp),H D=tH->Same H H'->LsA K H' D ((byL es us).map dSt)->Q (.ref D) H'):Jb K [.ref a,.ref t] H Q E:=#[a,t,es,us,rfl,h1,h2,h3,h4,h5,h]
theorem gJ:sQz 2 ["entries","entry","rules","one","other","steps"] xM:=by nofun
theorem uX{f CF:pC}{lG:si}(B:Bt mg)(TM:TMo mg)(F:("brought_down"^^^xM))(gK:(1<<<"pairs_of") ["entries"] [] (wT K))(nH:(4>>>"gone") ["rules","word","most"] [] (wJ K CF))(DD_gone:(4>>>"gone") ["rules","word","most"] [.int 4000 lG] (wJ K CF))(lE:(2<<<"by_pacts") ["entries","steps"] [] (Jb K))(mI:(1<<<"back") ["steps"] [] (qc K)):(5|||["entries","entry"]) (Yf K CF):=by
 obtain⟨t9,g9⟩:=TM.u
 exists Fun.okX F gJ,0
 ·obtain⟨a,p,s,k,l,ns,bs,e,rfl,hG,hA,hB,hp,hs,hE,q1,q2,q3⟩:=h
  refine#[_,(zi (zF 2 gJ.nd (cl0 gK hr .nil rfl (za (pv 0) ze)))
   (zi (zF 3 gJ.nd (clP hx nH hr .nil rfl (za (pv 2) (za (zl ix_tup (pv 1) zf) (za (yQ (v:=.int 40) rfl g9 #[t9,rfl]) ze)))))
   (zi (zF 4 gJ.nd (clP hx nH hr .nil rfl (za (pv 2) (za (zl ix_tup (pv 1) zf) (za (yQ (v:=.int 40) rfl g9 #[t9,rfl]) ze)))))
   (zi (zP (zA uL (zl ix_tup (pv 3) zf) (zl ix_tup (pv 4) zf) (zE _))
    (zh (zr xV))
    zy)
   (zi (zF 5 gJ.nd (zC VO (zC VO (cl0 lE hr .nil rfl (za (pv 0) (za (cl0 mI hr .nil rfl (za (zl ix_tup (pv 3) zf) ze)) ze))) (zl ix_tup (pv 1) zf)) (cl0 lE hr .nil rfl (za (pv 0) (za (zl ix_tup (pv 4) zf) ze)))))
   (zh (zr (zO (za (zl ix_tup (pv 3) zf) (za (zl ix_tup (pv 4) zf) (za (pv 5) ze))))))))))),?_]
  have s16:=yb;have hbl:=hB.n;have hN:=hB.ne hG;have hpl:=vx bs;have hst:∀e ∈ bs,e.2.2.length<=600:=λe he=>(hB.e e he).s;have hst3:∀e ∈ bs,e.2.2.length<=600:=λe he=>by have:=hst e he;lia
  refine zj (λσ H'=>Same H H'/\∃R:pC,LsA K H' R ((zb bs).map dR)/\σ=[!!a,!!p,!!R,tH,tH,tH]) ?_ ?_
  ·ac_rfl;exact wG hA ⋯ λD H' _ s' hL=>#[s',D,hL,rfl]
  rintro σ H1 ⟨s1,R,hR,rfl⟩:_;right;refine zj (λσ H'=>Same H1 H'/\∃(i:Nat),EndsAt (zb bs) e.1 i/\∃p1:pC,(∃S1:pC,H' p1=tG (.tup [.ref S1,.str (tx (wAt (zb bs) e.1 i))])/\LsA K H' S1 ((sAt (zb bs) e.1 i).map dG))/\σ=[!!a,!!p,!!R,!!p1,tH,tH]) ?_ ?_
  ·ac_rfl;refine#[_,zp s1 hp,_,rfl,jn hR hN ⋯ hB.le hE.a (λi p1 S1 H' hi s' hp1 hL _=>#[s',i,hi,p1,#[S1,hp1,hL],rfl]) λhno H' s'=>q3 (.inl hno) H' (s1.trans s')]
  rintro σ H2 ⟨s2,i,hi,p1,⟨S1,hp1,hS1⟩,rfl⟩:_;have s12:=s1.trans s2;right;refine zj (λσ H'=>Same H2 H'/\∃(j:Nat),EndsAt (zb bs) e.2.1 j/\∃p2:pC,(∃S2:pC,H' p2=tG (.tup [.ref S2,.str (tx (wAt (zb bs) e.2.1 j))])/\LsA K H' S2 ((sAt (zb bs) e.2.1 j).map dG))/\σ=[!!a,!!p,!!R,!!p1,!!p2,tH]) ?_ ?_
  ·ac_rfl;refine#[_,zp s12 hp,_,rfl,jn (hR.same s2) hN ⋯ hB.le hE.b (λj p2 S2 H' hj s' hp2 hL _=>#[s',j,hj,p2,#[S2,hp2,hL],rfl]) λhno H' s'=>q3 (.inr hno) H' (s12.trans s')]
  rintro σ H3 ⟨s3,j,hj,p2,⟨S2,hp2,hS2⟩,rfl⟩:_;have s13:=s12.trans s3;have hp1':=s3 _ _ hp1;have hS1':=hS1.same s3;right;refine zj (λσ H'=>H'=H3/\wAt (zb bs) e.1 i≠wAt (zb bs) e.2.1 j/\σ=[!!a,!!p,!!R,!!p1,!!p2,tH]) ?_ ?_
  ·ac_rfl;refine#[_,SqT.of hp1',_,rfl,_,SqT.of hp2,_,rfl,rfl,yA (λh=>?_) λh=>?_]
   ·exact q1 i j H3 hi hj (jq (by injection h)) s13
   ·exact λz=>h (by rw[z])
  rintro σ H4 ⟨rfl,hne,rfl⟩:_;have him:=hi.most;have hjm:=hj.most;have hl1:(stS (sAt (zb bs) e.1 i)).length=i:=by rw[W9,YV]
  have hl2:(stS (sAt (zb bs) e.2.1 j)).length=j:=by rw[W9,YV]
  rw[zaG]at hS1' hS2;have hA4:=Is.same s13 _ _ hA;have hb1:=zav hst (y0 (stS (sAt (zb bs) e.1 i)));have hb2:=zav hst (stS (sAt (zb bs) e.2.1 j));rw[yZ,hl1]at hb1;rw[hl2]at hb2;have hes:=hE.s;right;refine zj (λσ H'=>Same H4 H'/\∃S:pC,H4 S=tH/\LsA K H' S ((yJ bs e i j).2.2.map dSt)/\σ=[!!a,!!p,!!R,!!p1,!!p2,!!S]) ?_ ?_
  ·ac_rfl;refine#[_,SqT.of hp1',_,rfl,kX hS1'.is ⋯ λB1 G1 _ t1 hB1=>Ux (Is.same t1 _ _ hA4) hB1.is (by rw[yZ];lia) hst3 (by rw[<- hpl];exact KY (Kq hi.live)) λC1 G2 hC1n t2 hC1=>?_];have t12:=t1.trans t2;obtain⟨c1,hc1,ic1⟩:=id hC1;obtain⟨es0,hs0,is0⟩:=hs.same (s13.trans t12);have lc1:=ic1.len;have ls0:=is0.len;rw[aa]at lc1 ls0;refine#[_,zp (s13.trans t12) hp,_,rfl,C1,rfl,s,rfl,c1,hc1,es0,hs0,⋯,λM hM=>?_];have t3:=zd (o:=.lst (c1 ++ es0)) hM;have t13:=t12.trans t3;refine#[_,SqT.of (t13 _ _ hp2),_,rfl,Ux (Is.same t13 _ _ hA4) (hS2.same t13).is ⋯ hst3 (by rw[<- hpl];exact Kq hj.live) λC2 G3 hC2n t4 hC2=>?_];obtain⟨c2,hc2,ic2⟩:=id hC2;have lc2:=ic2.len;rw[aa]at lc2;refine#[C2,rfl,c1 ++ es0,t4 _ _ zc,c2,hc2,by rw[ah];lia,λS hS=>?_];have t5:=zd (o:=.lst (c1 ++ es0 ++ c2)) hS;refine#[t13.trans (t4.trans t5),S,(t13.trans t4).free hS,#[_,zc,?_],rfl];show Iss K _ ((byL bs (y0 (stS (sAt (zb bs) e.1 i))) ++ e.2.2 ++ byL bs (stS (sAt (zb bs) e.2.1 j))).map dSt) _;rw[aq,aq];exact Iss.append (Iss.append (Iss.same (t3.trans (t4.trans t5)) _ _ ic1) (Iss.same (t3.trans (t4.trans t5)) _ _ is0)) (Iss.same t5 _ _ ic2)
  rintro σ H5 ⟨s5,S,hSn,hS,rfl⟩:_;right;ac_rfl;refine#[_,SqT.of (s5 _ _ hp1'),_,rfl,_,SqT.of (s5 _ _ hp2),_,rfl,⋯,λt ht=>?_];have st:=zd (o:=.tup [.str (tx (wAt (zb bs) e.1 i)),.str (tx (wAt (zb bs) e.2.1 j)),.ref S]) ht;exact q2 i j t S _ hi hj hne (s13.trans (s5.trans st)) (s13.free hSn) zc (hS.same st)
def EnF(K:pB)(H0 H:Hp)(e:Ent)(v:V):Prop:=∃p s,v=.ref p/\H p=tG (.tup [.str (tx e.1),.str (tx e.2.1),.ref s])/\LsA K H s (e.2.2.map dSt)/\H0 s=tH
def EnsF(K:pB)(H0 H:Hp):List Ent->List V->Prop
 | [],vs=>vs=[]
 | e::es,vs=>∃v r,vs=v::r/\EnF K H0 H e v/\EnsF K H0 H es r
def EnsN(K:pB)(H0 H:Hp)(a:pC)(es:List Ent):Prop:=H0 a=tH/\∃xs,H a=tG (.lst xs)/\EnsF K H0 (vS a H) es xs
theorem YN{H H':Hp}{p:pC}(s:Same H H')(h:H' p=tH):H p=tH:=by
 cases e:H p with
 | none=>rfl
 | some o =>
  rw[s _ _ e]at h;cases h
theorem EnsF.map{H0 H H1 H':Hp}(f:∀e v,EnF K H0 H e v->EnF K H1 H' e v):∀{es:List Ent} {vs:List V},EnsF K H0 H es vs->EnsF K H1 H' es vs
 | [],vs,h=>by erw[EnsF]at h ⊢;exact h
 | e::es,vs,h=>by
  erw[EnsF]at h ⊢
  obtain⟨v,r,e0,h1,h2⟩:=h;exact#[v,r,e0,f _ _ h1,h2.map f]
theorem EnsF.a{H0 H:Hp}:∀{es:List Ent} {vs:List V},EnsF K H0 H es vs->EnsA K H es vs
 | [],vs,h=>by erw[EnsF]at h;erw[EnsA];exact h
 | e::es,vs,h=>by
  erw[EnsF]at h
  obtain⟨v,r,e0,⟨p,s,e1,h1,h2,_⟩,h3⟩:=h
  erw[EnsA]
  exact#[v,r,e0,#[p,s,e1,SqT.of h1,h2],h3.a]
theorem EnsF.snoc{H0 H:Hp}{v:V}(hv:EnF K H0 H e v):∀{es:List Ent} {vs:List V},EnsF K H0 H es vs->EnsF K H0 H (es ++ [e]) (vs ++ [v])
 | [],vs,h=>by
  erw[EnsF]at h
  subst h
  erw[aT,EnsF]
  exact#[v,[],rfl,hv,rfl]
 | e'::es,vs,h=>by
  erw[EnsF]at h
  obtain⟨x,r,rfl,hx,hr⟩:=h
  erw[aV,EnsF]
  exact#[x,r ++ [v],rfl,hx,hr.snoc hv]
theorem EnsF.all{H0 H:Hp}:∀{es:List Ent} {vs:List V},EnsF K H0 H es vs->∀v ∈ vs,∃e ∈ es,EnF K H0 H e v
 | [],vs,h,v,hv=>by
  erw[EnsF]at h
  subst h;cases hv
 | e::es,vs,h,v,hv=>by
  erw[EnsF]at h
  obtain⟨x,r,rfl,h1,h2⟩:=h;rcases tP.mp hv with rfl | hv
  ·exact#[e,av,h1]
  ·obtain⟨f,hf,g⟩:=h2.all v hv;exact#[f,ao _ hf,g]
theorem EnF.same{H0 H H':Hp}(q:Same H H'){v:V}(h:EnF K H0 H e v):EnF K H0 H' e v:=by
 obtain⟨p,s,e0,h1,h2,h3⟩:=h;exact#[p,s,e0,q _ _ h1,h2.same q,h3]
theorem EnsF.same{H0 H H':Hp}{vs:List V}(h:EnsF K H0 H es vs)(q:Same H H'):EnsF K H0 H' es vs:=h.map λ_ _ h=>h.same q
theorem EnF.new{D p s:pC}{H0 H:Hp}{ys:List V}(hD:H D=tG (.lst ys))(hp:H p=tG (.tup [.str (tx e.1),.str (tx e.2.1),.ref s]))(hs:LsA K H s (e.2.2.map dSt))(hsD:s≠D)(hf:H0 s=tH):EnF K H0 (vS D H) e (.ref p):=by
 obtain⟨zs,hz,hi⟩:=hs;have hpD:p≠D:=λz=>by rw[z,hD]at hp;cases hp
 exact#[p,s,rfl,by rw[z6 hpD];exact hp,#[zs,by rw[z6 hsD];exact hz,kW hD _ _ hi],hf]
theorem EnsN.m{H0 H:Hp}{a:pC}(h:EnsN K H0 H a es):EnsM K H a es:=by
 obtain⟨_,xs,h1,h2⟩:=h;exact#[xs,h1,h2.a.same xx]
theorem EnsN.same{H0 H H':Hp}{a:pC}(h:EnsN K H0 H a es)(q:Same H H'):EnsN K H0 H' a es:=by
 obtain⟨h0,xs,h1,h2⟩:=h;exact#[h0,xs,q _ _ h1,h2.same (yL q)]
theorem EnsN.back{H0 H1 H:Hp}{a:pC}(h:EnsN K H0 H a es)(f:∀b,H0 b=tH->H1 b=tH):EnsN K H1 H a es:=by
 obtain⟨h0,xs,h1,h2⟩:=h;refine#[f _ h0,xs,h1,h2.map λ_ _ h=>?_];obtain⟨p,s,e0,h1,h2,h3⟩:=h;exact#[p,s,e0,h1,h2,f _ h3]
theorem EnsN.samT{H0 H H':Hp}{a T:pC}{ps:Array pD}(h:EnsN K H0 H a es)(q:SamT T H H')(hT:H T=tG (.tbl ps)):EnsN K H0 H' a es:=by
 obtain⟨h0,xs,h1,h2⟩:=h;have hTa:T≠a:=λz=>by rw[z,h1]at hT;cases hT
 have q':SamT T (vS a H) (vS a H'):=λb o hb e=>by
  by_cases hba:b=a
  ·rw[hba,yU]at e;cases e
  ·rw[z6 hba]at e ⊢;exact q b o hb e
 refine#[h0,xs,q.at hT h1 (λ_ z=>by cases z),h2.map λ_ _ h=>?_];obtain⟨p,s,e0,g1,g2,g3⟩:=h;exact#[p,s,e0,q'.at (ps:=ps) (by rw[z6 hTa];exact hT) g1 (λ_ z=>by cases z),g2.samT q' (by rw[z6 hTa];exact hT),g3]
def qt(K:pB)(CF:pC):Sp:=λvs H Q E=>∃(p s:pC) (e:Ent),vs=[.ref p]/\SqT K H p [.str (tx e.1),.str (tx e.2.1),.ref s]/\Is K H (.lst (e.2.2.map dSt)) (.ref s)/\e.1.length<=10000/\e.2.1.length<=10000/\(¬ v0 e->Q .non H)/\(v0 e->E (.ref CF) tH H)
theorem Wf{CF p s:pC}(h1:SqT K H p [.str (tx e.1),.str (tx e.2.1),.ref s])(h2:Is K H (.lst (e.2.2.map dSt)) (.ref s))(h3:e.1.length<=10000)(h4:e.2.1.length<=10000)(h5:¬ v0 e->Q .non H)(h6:v0 e->E (.ref CF) tH H):qt K CF [.ref p] H Q E:=#[p,s,e,rfl,h1,h2,h3,h4,h5,h6]
theorem uG:sQz 1 ["entry"] xn:=by nofun
theorem uI{f CF:pC}(B:Bt mg)(T:zbk K mg CF)(TM:TMo mg)(F:("refuse_beyond"^^^xn)) :(1|||["entry"]) (qt K CF):=by
 obtain⟨⟨t9,g9⟩,⟨t8,g8⟩⟩:=And.intro TM.s TM.d
 exists Fun.okX F uG,0
 ·obtain⟨p,s,e,rfl,hp,hs,ha,hb,q1,q2⟩:=h
  refine#[_,(zi (zP (zA Yi (zK B.len (zl ix_tup (pv 0) zf)) (yQ (v:=.int 240) rfl g9 #[t9,rfl]) (zE _))
    (zh (yH hx rfl T.xi.toXC T.ini rfl T.g (za yB ze)))
    zy)
   (zh (zP (zA Yi (xg (WX rfl) rfl B.max uW (za (zK B.len (zl ix_tup (pv 0) zf)) (za (zK B.len (zl ix_tup (pv 0) zf)) ze))) (yQ (v:=.int 60) rfl g8 #[t8,rfl]) (zE _))
    (zh (yH hx rfl T.xi.toXC T.ini rfl T.g (za yB ze)))
    zy))),?_]
  have s16:=yb
  erw[Is]at hs
  obtain⟨_,zs,e0,hZ,hI⟩:=hs;cases e0;have hzl:=hI.len;rw[aa]at hzl;refine zj (λσ H'=>H'=H/\e.2.2.length<=240/\σ=[!!p]) ?_ ?_
  ·ac_rfl;refine#[_,hp,_,rfl,_,.inl #[_,hZ,rfl],yA (λh=>#[⋯,q2 (.inl ⋯)]) λh=>by lia]
  rintro σ H1 ⟨rfl,h1,rfl⟩:_;right;ac_rfl;refine#[_,hp,_,rfl,_,#[by rw[zV];lia,rfl],_,hp,_,rfl,_,#[by rw[zV];lia,rfl],?_];rw[zV,zV];refine yA (λh=>#[⋯,q2 ?_]) λh=>q1 ?_
  ·unfold v0;split at h <;> lia
  ·unfold v0;split at h <;> lia
theorem Js{l:()}{i j:Nat}(hB:BG k l ns bs)(hE:EB l e)(hF:¬ v0 (yJ bs e i j)):EB l (yJ bs e i j):=by
 unfold v0 at hF;exact#[⋯,⋯,⋯,vh hE.ma hB.mem i,vh hE.mb hB.mem j]
theorem BG.snoc{l:()}{d:Ent}(h:BG k l ns bs)(hn:bs.length+1<64)(hd:EB l d)(hne:d.1≠d.2.1):BG k l ns (bs ++ [zW k l ns d]):=by
 refine#[by rw[ah];exact hn,λe he=>?_,λe he=>?_]
 ·rcases tQ.mp he with he | he
  ·exact h.e e he
  ·rw[tR.mp he];exact hd.rule
 ·rcases tQ.mp he with he | he
  ·exact h.lt e he
  ·rw[tR.mp he];exact qD hd hne
theorem QU{CF a p s:pC}{l:()}(h1:OG l ns k)(h2:Is K H (.lst (bs.map dE)) (.ref a))(h3:BG k l ns bs)(h4:SqT K H p [.str (tx e.1),.str (tx e.2.1),.ref s])(h5:LsA K H s (e.2.2.map dSt))(h6:EB l e)
  (q1:∀i j H',EndsAt (zb bs) e.1 i->EndsAt (zb bs) e.2.1 j->wAt (zb bs) e.1 i=wAt (zb bs) e.2.1 j->Same H H'->Q .non H')
  (q2:∀i j p' s' H',EndsAt (zb bs) e.1 i->EndsAt (zb bs) e.2.1 j->wAt (zb bs) e.1 i≠wAt (zb bs) e.2.1 j->Same H H'->H s'=tH->H' p'=tG (.tup [.str (tx (yJ bs e i j).1),.str (tx (yJ bs e i j).2.1),.ref s'])->LsA K H' s' ((yJ bs e i j).2.2.map dSt)->Q (.ref p') H')
  (q3:(∀i,¬ EndsAt (zb bs) e.1 i)\/(∀j,¬ EndsAt (zb bs) e.2.1 j)->∀H',Same H H'->E (.ref CF) tH H'):Yf K CF [.ref a,.ref p] H Q E:=#[a,p,s,k,l,ns,bs,e,rfl,h1,h2,h3,h4,h5,h6,q1,q2,q3]
theorem Qy{l:()}{i j:Nat}(hB:BG k l ns bs)(hG:OG l ns k)(hE:EB l e)(hi:i<=40)(hj:j<=40):(yJ bs e i j).1.length<=10000/\(yJ bs e i j).2.1.length<=10000:=by
 have h1:=qw (l:=e.1) (m:=60) (hB.ne hG) (λp hp=>(hB.le p hp).2) i;have h2:=qw (l:=e.2.1) (m:=60) (hB.ne hG) (λp hp=>(hB.le p hp).2) j;have h3:=hE.a;have h4:=hE.b;show (wAt (zb bs) e.1 i).length<=10000/\(wAt (zb bs) e.2.1 j).length<=10000;lia
def kT(K:pB)(CO CR CW CF:pC):Sp:=λvs H Q E=>∃(o a:pC) (k:Nat) (l:()) (ns:List Int) (zs:List Ent),vs=[.ref o,.ref a]/\OrdAt CO CR CW H o k l ns/\OG l ns k/\EnsL K H a zs/\zs.length<64/\(∀e ∈ zs,EB l e) /\
 (∀(bs:List Ent) (D:pC) (H':Hp),y8 k l ns [] zs (tG bs)->BG k l ns bs->Same H H'->EnsN K H H' D bs->Q (.ref D) H')/\(y8 k l ns [] zs tH->∀H',Same H H'->E (.ref CF) tH H')
theorem V6{CO CR CW CF o a:pC}{l:()}{zs:List Ent}(h1:OrdAt CO CR CW H o k l ns)(h2:OG l ns k)(h3:EnsL K H a zs)(h4:zs.length<64)(h5:∀e ∈ zs,EB l e)
  (q1:∀(bs:List Ent) (D:pC) (H':Hp),y8 k l ns [] zs (tG bs)->BG k l ns bs->Same H H'->EnsN K H H' D bs->Q (.ref D) H') (q2:y8 k l ns [] zs tH->∀H',Same H H'->E (.ref CF) tH H'):kT K CO CR CW CF [.ref o,.ref a] H Q E:=#[o,a,k,l,ns,zs,rfl,h1,h2,h3,h4,h5,q1,q2]
def zdQ(K:pB)(H1 H':Hp)(bs:List Ent)(e:Ent)(v:V):Prop:=∃i j,EndsAt (zb bs) e.1 i/\EndsAt (zb bs) e.2.1 j/\((wAt (zb bs) e.1 i=wAt (zb bs) e.2.1 j/\v=.non) \/
 (wAt (zb bs) e.1 i≠wAt (zb bs) e.2.1 j/\∃p s:pC,v=.ref p/\H1 s=tH/\H' p=tG (.tup [.str (tx (yJ bs e i j).1),.str (tx (yJ bs e i j).2.1),.ref s])/\LsA K H' s ((yJ bs e i j).2.2.map dSt)))
def zdO(K:pB)(H:Hp)(D:pC)(k:Nat)(l:())(ns:List Int)(zs:List Ent)(i:Nat)(H':Hp):Prop:=∃(bs:List Ent) (tM:List V),Same H H'/\H' D=tG (.lst tM)/\EnsF K H (vS D H') bs tM/\BG k l ns bs/\bs.length<=i/\∀r,y8 k l ns bs (zs.drop i) r->y8 k l ns [] zs r
theorem iM:sQz 2 ["order","entries","built","entry","lower"] ww:=by nofun
theorem kR{f CO CR CW CF:pC}(B:Bt mg)(F:("built_anew"^^^ww))(nQ:(5>>>"brought_down") ["entries","entry"] [] (Yf K CF))(nI:(1>>>"refuse_beyond") ["entry"] [] (qt K CF))(mJ:(4<<<"as_rule") ["order","entry"] [] (wF K CO CR CW)):(6|||["order","entries"]) (kT K CO CR CW CF):=by
 exists Fun.okX F iM,0
 ·obtain⟨o,a,k,l,ns,zs,rfl,ho,hG,hA,hz,hE,q1,q2⟩:=h
  refine#[_,(zi (zF 2 iM.nd (xZ ze))
   (zi (ym PassesOwn.leaving rfl (yh (pv 1)) (zx (i:=3) iM.nd rfl (.inl rfl))
    (zi (zF 4 iM.nd (clP hx nQ hr .nil rfl (za (pv 2) (za (pv 3) ze))))
    (zh (zP (zA op_notN' (pv 4) xV (zE _))
     (zi (yw (clP hx nI hr .nil rfl (za (pv 4) ze)))
     (zh (yw (xu aS aZ ba ya (pv 2) (za (cl0 mJ hr .nil rfl (za (pv 0) (za (pv 4) ze))) ze)))))
     zy))))
   (zh (zr (pv 2))))),?_]
  have s16:=yb;obtain⟨xs,hX,hI⟩:=id hA;have hxl:=hI.len;refine zj (λσ H'=>Same H H'/\∃D:pC,H D=tH/\H' D=tG (.lst [])/\σ=[!!o,!!a,!!D,tH,tH]) ?_ ?_
  ·ac_rfl;exact#[⋯,λp hp=>#[zd hp,p,hp,zc,rfl]]
  rintro σ H0 ⟨s0,D,hD,hD0,rfl⟩:_;right;refine zj (λσ H'=>zdO K H D k l ns zs zs.length H'/\∃(v3 v4:Option V),σ=[!!o,!!a,!!D,v3,v4]) ?_ ?_
  ·ac_rfl;refine#[#[_,s0.seq hX],ForL.by (xs:=xs) (λi σ H'=>zdO K H D k l ns zs i H'/\∃(v3 v4:Option V),σ=[!!o,!!a,!!D,v3,v4]) #[#[[],[],s0,hD0,by erw[EnsF],#[∅,λe he=>(nomatch he),λe he=>(nomatch he)],al _,λr h=>h],tH,tH,rfl] (λi σ H' _ ⟨⟨_,_,h,_⟩,_⟩=>h.seq hX) ?_ ?_]
   ·refine nm4 ?_;rintro i x σ H1 hx ⟨⟨bs,tM,s1,hH1,hI1,hB,hbi,hr⟩,v3,v4,rfl⟩:_;have hix:=(tN.mp hx).1;obtain⟨e,pe,se,hei,rfl,hqe,hse⟩:=hI.get hx;have hEe:=hE e (ae hei)
    have hdrop:zs.drop i=e::zs.drop (i+1):=by
     obtain⟨h1,h2⟩:=tN.mp hei;rw[aR h1,h2]
    rw[hdrop]at hr;have hal:=hI1.a.len;have hbn:=hB.n
    have hIs:Is K H1 (.lst (bs.map dE)) (.ref D):=by
     erw[Is]
     exact#[D,tM,rfl,SqL.of hH1,(hI1.a.same xx).iss]
    right
    erw[yR,bg,be]
    refine zj (λσ H'=>Same H1 H'/\∃v:V,zdQ K H1 H' bs e v/\σ=[!!o,!!a,!!D,!!pe,tG (v)]) ?_ ?_
    ·ac_rfl;exact QU hG hIs hB (zp s1 hqe) (hse.same s1) hEe (λi' j' H' a1 a2 a3 s'=>#[s',i',j',a1,a2,.inl #[a3,rfl]]) (λi' j' p' s' H' a1 a2 a3 t' a4 a5 a6=>#[t',i',j',a1,a2,.inr #[a3,p',s',rfl,a4,a5,a6]]) λh H' s'=>q2 (hr _ (.stuck h)) H' (s1.trans s')
    rintro σ H2 ⟨s2,v,⟨i',j',hi',hj',hc⟩,rfl⟩:_;right;rcases hc with ⟨hw,rfl⟩ | ⟨hw,p',s',rfl,hsn,hp',hL'⟩
    ·ac_rfl;exact#[bs,tM,s1.trans s2,s2 _ _ hH1,hI1.same (yL s2),hB,⋯,λr h=>hr r (.same hi' hj' hw h)]
    ·ac_rfl
     try rw[if_pos not_false]
     have hdl:=Qy hB hG hEe hi'.most hj'.most;refine zj (λσ H'=>H'=H2/\¬ v0 (yJ bs e i' j')/\σ=[!!o,!!a,!!D,!!pe,!!p']) ?_ ?_
     ·ac_rfl;exact Wf (SqT.of hp') hL'.is hdl.1 hdl.2 (λh=>#[rfl,h]) λh=>q2 (hr _ (.far hi' hj' hw h)) H2 (s1.trans s2)
     rintro σ H3 ⟨rfl,hF,rfl⟩:_;have hEd:=Js hB hEe hF;have hH3:=s2 _ _ hH1
     have fin:∀(v:V) (H4:Hp),Same H3 H4->EnF K H (vS D H4) (zW k l ns (yJ bs e i' j')) v->zdO K H D k l ns zs (i+1) (upd H4 D (.lst (tM ++ [v]))):=λv H4 s4 hv=>by
      refine#[bs ++ [zW k l ns (yJ bs e i' j')],tM ++ [v],zw (s1.trans (s2.trans s4)) hD,zc,?_,hB.snoc ⋯ hEd hw,by rw[ah];show bs.length+1<=i+1;lia,λr h=>hr r (.new hi' hj' hw hF h)];exact (hI1.same ((yL (s2.trans s4)).trans xC)).snoc (hv.same xC)
     right;ac_rfl;refine#[.inl #[_,SqL.of hH3],jE (ho.same (s1.trans s2)) hG (SqT.of hp') hL'.is hEd (λer H4 s4=>#[tM,s4 _ _ hH3,⋯,fin _ _ s4 ?_]) λp2 t2 H4 s4 htn hp2 hL2=>#[tM,s4 _ _ hH3,⋯,fin _ _ s4 ?_]]
     ·rw[er];exact EnF.new (s4 _ _ hH3) (s4 _ _ hp') (hL'.same s4) (λz=>by rw[z,hH1]at hsn;cases hsn) (YN s1 hsn)
     ·exact EnF.new (s4 _ _ hH3) hp2 hL2 (λz=>by rw[z,hH3]at htn;cases htn) (YN (s1.trans s2) htn)
   ·rintro σ H' ⟨h,v3,v4,rfl⟩;rw[hxl]at h;exact#[h,_,_,rfl]
  rintro σ H2 ⟨⟨bs,tM,s2,hH2,hI2,hB,hbi,hr⟩,v3,v4,rfl⟩:_;rw[db]at hr;right;ac_rfl;exact q1 bs D H2 (hr _ (.nil bs)) hB s2 #[hD,tM,hH2,hI2]
theorem QN(rs ss:List zm):vH (rs.map dR) (ss.map dR)=decide (rs=ss):=by
 induction rs generalizing ss with
 | nil=>cases ss with
  | nil=>simp [vH]
  | cons s ss=>simp [vH]
 | cons r rs ih=>cases ss with
  | nil=>simp [vH]
  | cons s ss =>
   rw[ar,ar,vH,ih]
   have h:eqD (dR r) (dR s)=decide (r=s):=by
    obtain⟨a,b⟩:=r;obtain⟨c,d⟩:=s
    have e1:∀x y:(),eqD (dS x) (dS y)=decide (x=y):=λx y=>by
     have:eqD (dS x) (dS y)=decide (tx x=tx y):=by erw[dS,eqD];rfl
     rw[this];exact decide_eq_decide.mpr #[jq,λh=>by rw[h]]
    erw[dR,eqD,vH,e1]
    by_cases h1:a=c <;> by_cases h2:b=d <;> simp [h1,h2]
   rw[h];by_cases h1:r=s <;> by_cases h2:rs=ss <;> simp [h1,h2]
theorem Lined.eb{l:()}{es zs:List Ent}(h:Lined k l ns es zs)(hE:∀e ∈ es,EB l e):∀e ∈ zs,EB l e:=λe he=>by
 have hm:=h.perm.mem_iff.mp he;unfold ux at hm;obtain⟨y,hy,rfl⟩:=tO.mp hm;exact (hE y (tS.mp hy).1).rule
theorem Lined.len{l:()}{es zs:List Ent}(h:Lined k l ns es zs):zs.length<=es.length:=by
 rw[h.perm.length_eq];exact YF k l ns es
def UO(K:pB)(CO CR CW T CF:pC):Sp:=λvs H Q E=>∃(o a:pC) (k:Nat) (l:()) (ns:List Int) (es:List Ent),vs=[.ref o,.ref a]/\OrdAt CO CR CW H o k l ns/\OG l ns k/\EnsL K H a es/\es.length<64/\(∀e ∈ es,EB l e)/\TabOk H T lp lq /\
 (∀(bs:List Ent) (D:pC) (H':Hp),vT k l ns 20 es (tG bs)->BG k l ns bs->SamT T H H'->TabOk H' T lp lq->EnsN K H H' D bs->Q (.ref D) H')/\(vT k l ns 20 es tH->∀H',SamT T H H'->TabOk H' T lp lq->E (.ref CF) tH H')
def zeq(K:pB)(T:pC)(H:Hp)(k:Nat)(l:())(ns:List Int)(es:List Ent)(n:Nat)(H':Hp)(b:pC):Prop:=∃fs:List Ent,SamT T H H'/\TabOk H' T lp lq/\(∀r,vT k l ns n fs r->vT k l ns 20 es r)/\EnsL K H' b fs/\fs.length<64/\∀e ∈ fs,EB l e
theorem lF:sQz 2 ["order","entries","turn","lined_up"] qb:=by nofun
theorem Wj{f CO CR CW TB CF:pC}(B:Bt mg)(T:zbk K mg CF)(TM:TMo mg)(F:("thinned"^^^qb))(oG:(6<<<"in_order") ["order","entries"] [] (kn K CO CR CW TB))(oj:(6>>>"built_anew") ["order","entries"] [] (kT K CO CR CW CF))(gK:(1<<<"pairs_of") ["entries"] [] (wT K)):(7|||["order","entries"]) (UO K CO CR CW TB CF):=by
 obtain⟨t9,g9⟩:=TM.p
 exists Fun.okX F lF,0
 ·obtain⟨o,a,k,l,ns,es,rfl,ho,hG,hA,hz,hE,hTab,q1,q2⟩:=h
  refine#[_,(zi (ym PassesOwn.leaving rfl (yu rfl B.range (za (yQ (v:=.int 20) rfl g9 #[t9,rfl]) ze)) (zx (i:=2) lF.nd rfl (.inl rfl))
    (zi (zF 3 lF.nd (cl0 oG hr .nil rfl (za (pv 0) (za (pv 1) ze))))
    (zi (zF 1 lF.nd (clP hx oj hr .nil rfl (za (pv 0) (za (pv 3) ze))))
    (zh (zP (zA (zbL (Z9 hr)) (cl0 gK hr .nil rfl (za (pv 1) ze)) (cl0 gK hr .nil rfl (za (pv 3) ze)) (zE _))
     (zh (zr (pv 1)))
     zy)))))
   (zh (yH hx rfl T.xi.toXC T.ini rfl T.g (za yB ze)))),?_]
  have s16:=yb;obtain⟨ps0,hps0,_⟩:=id hTab;refine zj (λσ H'=>∃b:pC,zeq K TB H k l ns es 0 H' b) ?_ ?_
  ·ac_rfl;refine#[⋯,⋯,ForR.by (λi σ H'=>∃(b:pC) (v2 v3:Option V),zeq K TB H k l ns es (20 - i) H' b/\σ=[!!o,!!b,v2,v3]) #[a,tH,tH,#[es,SamT.of (Same.refl _),hTab,λr h=>h,hA,hz,hE],rfl] ?_ ?_]
   ·refine nm3 ?_;rintro i σ H1 hi ⟨b,v2,v3,⟨fs,s1,hT1,hr,hF,hfl,hFE⟩,rfl⟩:_;have ho1:=ho.samT s1 hps0;have hi20:i<20:=hi;obtain⟨n,hn⟩:∃n,20 - i=n+1:=#[20 - i - 1,⋯];rw[hn]at hr;right
    erw[yR,bg,be]
    refine zj (λσ H'=>SamT TB H1 H'/\TabOk H' TB lp lq/\∃(z:pC),(∃zs:List Ent,Lined k l ns fs zs/\EnsM K H' z zs)/\∃v2,σ=[!!o,!!b,v2,!!z]) ?_ ?_
    ·ac_rfl;exact W6 ho1 hG hF hfl hFE hT1 λD zs H' s' hT' _ hLn hM=>#[s',hT',D,#[zs,hLn,hM],rfl]
    rintro σ H2 ⟨s2,hT2,z,⟨zs,hLn,hZ⟩,v2,rfl⟩:_;have s12:=s1.trans s2;have ho2:=ho.samT s12 hps0;have hzE:=hLn.eb hFE;have hzl:=hLn.len;right;refine zj (λσ H'=>Same H2 H'/\∃(c:pC),(∃bs:List Ent,y8 k l ns [] zs (tG bs)/\BG k l ns bs/\EnsN K H2 H' c bs)/\σ=[!!o,!!c,v2,!!z]) ?_ ?_
    ·ac_rfl;exact V6 ho2 hG hZ.l ⋯ hzE (λbs D H' hb hB s' hM=>#[s',D,#[bs,hb,hB,hM],rfl]) λhb H' s'=>q2 (hr _ (.bad hLn hb)) H' (s12.trans (SamT.of s')) (hT2.same s')
    rintro σ H3 ⟨s3,c,⟨bs,hb,hB,hN⟩,rfl⟩:_;have hM:=hN.m;have hbn:=hB.n;right;ac_rfl;refine wG hM.l.is ⋯ λP1 H4 _ s4 hP1=>wG ((hZ.same s3).same s4).l.is ⋯ λP2 H5 _ s5 hP2=>zau (.inl #[(hP1.same s5).is,hP2.is]) (cf (JP _) ∅) ?_;rw[QN];have s45:=s4.trans s5;have s15:=s12.trans (SamT.of (s3.trans s45));have hT5:=hT2.same (s3.trans s45);refine#[_,rfl,yA (λh=>?_) λh=>?_]
    ·exact q1 bs c H5 (hr _ (.done hLn hb (of_decide_eq_true h))) hB s15 hT5 ((hN.back λb h=>let #[_,ht,_]:=hT2;s12.free ht h).same s45)
    ·have e:20 - (i+1)=n:=⋯;rw[e];exact#[bs,s15,hT5,λr h'=>hr r (.more hLn hb (λz=>h (decide_eq_true z)) h'),(hM.same s45).l,hbn,hB.e]
   ·rintro σ H' ⟨b,v2,v3,h,rfl⟩;exact#[b,h]
  rintro σ H2 ⟨b,fs,s2,hT2,hr,_⟩:_;right;ac_rfl;exact#[⋯,q2 (hr _ (.out fs)) H2 s2 hT2]
def qo(K:pB):Sp:=λvs H Q _=>∃(a:pC) (ns:List Int) (k:Int),vs=[.ref a,.int k]/\SqL K H a (ns.map V.int)/\(∀z ∈ ns,qY z)/\0<=k/\∀c:Int,qY c->Q (.int c) H
theorem wP{a:pC}{k:Int}(hS:SqL K H a (ns.map V.int))(hB:∀z ∈ ns,qY z)(hk:0<=k)(h:∀c:Int,qY c->Q (.int c) H):qo K [.ref a,.int k] H Q E:=#[a,ns,k,rfl,hS,hB,hk,h]
theorem KD:sQz 2 ["_law_script","_law_k"] W4:=by nofun
theorem K0(B:Bt mg)(F:("_law_cell"^^^W4)) :(1&&&["_law_script","_law_k"]) (qo K):=by
 exists F.ok KD
 ·obtain⟨a,ns,k,rfl,hS,hB,hk,q⟩:=h
  refine#[_,(zS (zP (zA QI (pv 1) (zK B.len (pv 0)) (zE _))
    (zh (zr (zl W8 (pv 0) (pv 1))))
    zy)
   (zh (zr zf))),?_]
  have s16:=yb
  rfl'
  refine#[_,.inl #[_,hS,rfl],yA (λc=>?_) (λc=>q 0 (by unfold qY;decide))];obtain⟨v,h1,h2⟩:=jo hk c;rw[az]at h2;obtain⟨z,hz,rfl⟩:=tU.mp h2;exact .inl #[_,hS,_,h1,q z (hB z (ae hz))]
def uN:Sp:=λvs H Q _=>∃(c t:Int),vs=[.int c,.int t]/\qY c/\0<=t/\t<=100/\∀z:Int,0<=z->Q (.int z) H
theorem u7{c t:Int}(hc:qY c)(h0:0<=t)(h1:t<=100)(q:∀z:Int,0<=z->Q (.int z) H):uN [.int c,.int t] H Q E:=#[c,t,rfl,hc,h0,h1,q]
theorem mn:sQz 2 ["_law_cell_here","_law_turn","_law_step","_law_number"] YO:=by nofun
theorem Qe(B:Bt mg)(F:("_law_mixed"^^^YO)) :(1&&&["_law_cell_here","_law_turn"]) uN:=by
 exists F.ok mn
 ·obtain⟨c,t,rfl,hc,h0,h1,q⟩:=h
  refine#[_,(zi (zP (zA op_ge' (pv 0) (zC Vo zf zf) (zE _))
    (zi (ym PassesOwn.never rfl (yu rfl B.range (za (zC yN zf (zC xS (pv 1) zf)) ze)) (zx (i:=2) mn.nd rfl (.inl rfl))
     (zh (zF 0 mn.nd (zC vd (pv 0) (zC Vo zf zf)))))
    (zh (zr (zC xS (pv 0) (zC Vo zf zf)))))
    zy)
   (zi (zF 3 mn.nd (zC yN (zC ql (zC Jw (pv 0) (pv 0)) zf) (zC ql (zC ql (pv 0) zf) (zC yN (pv 1) zf))))
   (zh (zr (zC vd (zC xS (zC ql (zC xS (zC yN (pv 3) (zC ql (pv 1) zf)) zf) zf) zf) zf))))),?_]
  have s16:=yb;have c6:zdt 10 6:=#[∅,∅,∅];have c12:zdt 10 12:=#[∅,∅,∅];have p6:(0:Int)<10 ^ Int.toNat 6/\(10:Int) ^ Int.toNat 6<1073741824:=∅;refine zj (λσ H'=>H'=H/\σ=[~~~!c,~~~!t,tH,tH]) ?_ ?_
  ·rfl'
   refine#[c12,yA (λ_=>?_) (λ_=>trivial)];refine zj (λσ H'=>H'=H/\∃(z:Int) (v:Option V),σ=[~~~!z,~~~!t,v,tH]) ?_ ?_
   ·rfl'
    have e1:=bK t (b:=9) ∅;have e2:=bL t (b:=9) ∅;refine#[∅,⋯,⋯,ForR.by (λi σ H'=>H'=H/\∃(z:Int) (v:Option V),σ=[~~~!z,~~~!t,v,tH]) #[rfl,_,_,rfl] ?_ λσ H' h=>h];refine nm3 ?_;rintro i σ H' hi ⟨rfl,z,v,rfl⟩:_;right
    rfl'
    exact#[c6,p6.1,p6.2]
   rintro σ H1 ⟨rfl,z,v,rfl⟩:_;right
   rfl'
   exact#[c6,p6.1,q _ (bK _ (by have:=p6.1;lia))]
  rintro σ H1 ⟨rfl,rfl⟩:_;right;refine zj (λσ H'=>H'=H1/\∃z:Int,σ=[~~~!c,~~~!t,tH,~~~!z]) ?_ ?_
  ·rfl'
   exact#[hc,hc,.inr #[∅,∅],.inr #[∅,∅],.inr #[⋯,⋯]]
  rintro σ H2 ⟨rfl,z,rfl⟩:_;right
  rfl'
  exact#[.inr #[∅,∅],∅,.inr #[∅,∅],∅,#[∅,∅],q _ (Int.ediv_nonneg (bK _ ∅) ∅)]
def uf:Sp:=λvs H Q _=>∃c m:Int,vs=[.int c,.int m]/\qY c/\0<=m/\m<=26/\∀l:(),(l.length:Int)=m->l.Nodup->jh l->Q (.str (tx l)) H
theorem Ys{c m:Int}(h:qY c)(h0:0<=m)(h1:m<=26)(q:∀l:(),(l.length:Int)=m->l.Nodup->jh l->Q (.str (tx l)) H):uf [.int c,.int m] H Q E:=#[c,m,rfl,h,h0,h1,q]
def zes(c m:Int)(i:Nat)(σ:L2.St):Prop:=∃(left found:()) (number:Int) (v5 v6:Option V),found.length=i/\(found ++ left).Perm alpha/\σ=[~~~!c,~~~!m,~~~left,~~~!number,~~~found,v5,v6]
theorem gG:sQz 2 ["_law_cell_here","_law_many","_law_left","_law_number","_law_letters_here","_law_k","_law_at"] qS:=by nofun
theorem WA(B:Bt mg)(F:("_law_letters"^^^qS))(nc:(1<<<"_law_mixed") ["_law_cell_here","_law_turn"] [] uN):(2&&&["_law_cell_here","_law_many"]) uf:=by
 exists F.ok gG
 ·obtain⟨c,m,rfl,hc,h0,h1,q⟩:=h
  refine#[_,(zi (zF 2 gG.nd yB)
   (zi (zF 3 gG.nd (cl0 nc hr .nil rfl (za (pv 0) (za zf ze))))
   (zi (zF 4 gG.nd yB)
   (zi (ym PassesOwn.never rfl (yu rfl B.range (za (pv 1) ze)) (zx (i:=5) gG.nd rfl (.inl rfl))
    (zi (zF 6 gG.nd (zC xS (pv 3) (zK B.len (pv 2))))
    (zi (zF 3 gG.nd (zC vd (pv 3) (zK B.len (pv 2))))
    (zi (zF 4 gG.nd (zC yF (pv 4) (zl jy (pv 2) (pv 6))))
    (zh (zF 2 gG.nd (zC yF (yc wl (pv 2) xw (yk (pv 6))) (yc wl (pv 2) (yk (zC yN (pv 6) zf)) xw))))))))
   (zh (zr (pv 4))))))),?_]
  have s16:=yb;have ha:alpha.length=26:=rfl;refine zj (λσ H'=>H'=H/\σ=[~~~!c,~~~!m,~~~alpha,tH,tH,tH,tH]) ?_ ?_
  ·rfl'
   exact Uv
  rintro σ H1 ⟨rfl,rfl⟩:_;right;refine zj (λσ H'=>H'=H1/\∃z:Int,σ=[~~~!c,~~~!m,~~~alpha,~~~!z,tH,tH,tH]) ?_ ?_
  ·rfl'
   exact u7 hc ∅ ∅ λz _=>#[rfl,z,rfl]
  rintro σ H2 ⟨rfl,z,rfl⟩:_;right;refine zj (λσ H'=>H'=H2/\σ=[~~~!c,~~~!m,~~~alpha,~~~!z,tG (.str (tx [])),tH,tH]) ?_ ?_
  ·rfl'
   rfl
  rintro σ H3 ⟨rfl,rfl⟩:_;right;refine zj (λσ H'=>H'=H3/\zes c m m.toNat σ) ?_ ?_
  ·rfl'
   refine#[⋯,⋯,ForR.by (λi σ H'=>H'=H3/\zes c m i σ) #[rfl,alpha,[],z,tH,tH,rfl,.refl _,rfl] ?_ λσ H' h=>h];refine nm3 ?_;rintro i σ H' hi ⟨rfl,left,found,number,v5,v6,hf,hp,rfl⟩:_;have hpl:=hp.length_eq;rw[ah]at hpl;have hl:left.length+i=26:=⋯;have hm0:=bK number (b:=(left.length:Int)) ⋯;have hm1:=bL number (b:=(left.length:Int)) ⋯;right;generalize hz:number % (left.length:Int)=at_ at hm0 hm1;obtain⟨v,e1,e2⟩:=jo hm0 hm1
   erw[yR,bg,be]
   refine zj (λσ H''=>H''=H'/\∃v5,σ=[~~~!c,~~~!m,~~~left,~~~!number,~~~found,v5,~~~!at_]) ?_ ?_
   ·rfl'
    exact#[⋯,⋯,hz]
   rintro σ G1 ⟨rfl,v5',rfl⟩:_;right;refine zj (λσ H''=>H''=G1/\∃n v5,σ=[~~~!c,~~~!m,~~~left,~~~!n,~~~found,v5,~~~!at_]) ?_ ?_
   ·rfl'
    exact#[⋯,#[⋯,⋯]]
   rintro σ G2 ⟨rfl,n,v5',rfl⟩:_;right;refine zj (λσ H''=>H''=G2/\∃v5,σ=[~~~!c,~~~!m,~~~left,~~~!n,tG (.str (tx (found ++ [v]))),v5,~~~!at_]) ?_ ?_
   ·rfl'
    exact#[⋯,v,e1,⋯,rfl]
   rintro σ G3 ⟨rfl,v5',rfl⟩:_;have hc1:=wC left tH (tG at_);have hc2:=wC left (tG (at_+1)) tH;right
   rfl'
   refine#[⋯,⋯,⋯,_,_,_,_,_,by rw[ah,hf];rfl,?_,rfl];rw[jm _ hm0,vz _ ⋯,aH];have e3:(at_+1).toNat=at_.toNat+1:=⋯;rw[e3];exact ((UF e2).append_left found).trans hp
  rintro σ H4 ⟨rfl,left,found,number,v5,v6,hf,hp,rfl⟩:_;right
  rfl'
  have hnd:(found ++ left).Nodup:=hp.nodup_iff.mpr ∅;refine q found ⋯ (Ah.mp hnd).1 λc hc=>?_;have h:c ∈ alpha:=hp.mem_iff.mp (aO _ hc);exact (by decide:∀c ∈ alpha,97<=c/\c<=122) c h
structure zeN(K:pB):Prop where
 ii:aU K (.type "int") (.type "int")=tG tI
 ib:aU K (.type "int") (.type "bool")=tG tJ
def j2:Sp:=λvs H Q _=>∃i:Int,vs=[.int i]/\Q (.bl tI) H
theorem ZO{i:Int}(h:Q (.bl tI) H):j2 [.int i] H Q E:=#[i,rfl,h]
theorem QQ:sQz 1 ["_law_found"] YS:=by nofun
theorem QM(B:Bt mg)(T:zeN K)(F:("_law_whole"^^^YS)):(1&&&["_law_found"]) j2:=by
 exists F.ok QQ
 ·obtain⟨i,rfl,q⟩:=h;refine#[_,(zh (zr (zbM (xo rfl B.isi (pv 0) rfl B.int PySem.Pv.boot_int) (zcK (J9 (xo rfl B.isi (pv 0) rfl B.bool PySem.Pv.boot_bool)))))),?_]
  rfl'
  exact#[_,.inl (.int _),tI,T.ii,ze1 #[_,.inl (.int _),tJ,T.ib,q]]
structure TLs(K:pB):Prop where
 ll:aU K (.type "list") (.type "list")=tG tI
 tt:aU K (.type "tuple") (.type "tuple")=tG tI
 bb:aU K (.type "bool") (.type "bool")=tG tI
def Y6(K:pB):Sp:=λvs H Q _=>∃(t:pC) (ss:List Stp),vs=[.ref t]/\Is K H (.lst (ss.map dSt)) (.ref t)/\Q (.bl tI) H
theorem om:sQz 1 ["_law_found","_law_step"] YZ:=by nofun
theorem Qq(B:Bt mg)(T:TLs K)(F:("_law_steps"^^^YZ))(oF:(1<<<"_law_whole") ["_law_found"] [] j2):(2&&&["_law_found"]) (Y6 K):=by
 exists F.ok om
 ·obtain⟨t,ss,rfl,hT,q⟩:=h
  refine#[_,(zi (zP (yj (xy (xo rfl B.isi (pv 0) rfl B.list PySem.Pv.boot_list) (λ_=>rfl)))
    (zh (zr xf))
    zy)
   (zi (ym PassesOwn.never rfl (yh (pv 0)) (zx (i:=1) om.nd rfl (.inl rfl))
    (zi (zP (PW.pt (uH (yj (xy (xo rfl B.isi (pv 1) rfl B.tuple PySem.Pv.boot_tuple) (λ_=>rfl))) (uH (zA qL (zK B.len (pv 1)) zf (zE _)) (uz (yj (xy (xo rfl B.isi (zl ix_tup (pv 1) zf) rfl B.bool PySem.Pv.boot_bool) (λ_=>rfl)))))))
     (zh (zr xf))
     zy)
    (zh (zP (PW.pt (uH (yj (xy (cl0 oF hr .nil rfl (za (zl ix_tup (pv 1) zf) ze)) (λ_=>rfl))) (uz (yj (xy (cl0 oF hr .nil rfl (za (zl ix_tup (pv 1) zf) ze)) (λ_=>rfl))))))
     (zh (zr xf))
     zy))))
   (zh (zr xf)))),?_]
  have s16:=yb
  erw[Is]at hT
  obtain⟨_,ts,e,hTs,hJ⟩:=hT;cases e;refine zj (λσ H'=>H'=H/\σ=[!!t,tH]) ?_ ?_
  ·rfl'
   exact#[_,.inr (.inr (.inl #[_,_,rfl,rfl,hTs])),tI,T.ll,Qb trivial]
  rintro σ H1 ⟨rfl,rfl⟩:_;right;refine zj (λσ H'=>H'=H1/\∃v1,σ=[!!t,v1]) ?_ ?_
  ·rfl'
   refine#[#[_,hTs],ForL.by (xs:=ts) (λi σ H'=>H'=H1/\∃v1,σ=[!!t,v1]) #[rfl,_,rfl] (λi σ H' _ h=>by rw[h.1];exact hTs) ?_ λσ H' h=>h];refine nm4 ?_;rintro i x σ H' hx ⟨rfl,v1,rfl⟩:_;obtain⟨u,pu,hui,rfl,hqu⟩:=vA hJ hx;right
   erw[yR,bg,be]
   refine zj (λσ H''=>H''=H'/\σ=[!!t,!!pu]) ?_ ?_
   ·rfl'
    exact#[_,.inr (.inr (.inr #[_,_,rfl,rfl,hqu])),tI,T.tt,Qb #[_,.inr #[_,hqu,rfl],yA (λh=>absurd rfl h) λ_=>#[_,hqu,_,rfl,_,.inl (.bl _),tI,T.bb,Qb trivial]]]
   rintro σ G ⟨rfl,rfl⟩:_;right
   rfl'
   exact#[_,hqu,_,rfl,ZO #[tI,rfl,Qb #[_,hqu,_,rfl,ZO #[tI,rfl,Qb rfl]]]]
  rintro σ H2 ⟨rfl,v1,rfl⟩:_;right
  rfl'
  exact q
def jH(K:pB):Sp:=λvs H Q _=>∃(a t:pC) (rs:List zm) (w w':()) (s:Stp),vs=[.ref a,.str (tx w),.ref t]/\Is K H (.lst (rs.map dR)) (.ref a)/\kA rs/\w.length<=300000/\SqT K H t [.int s.1,.int s.2.1,.bl s.2.2]/\yt rs w s=tG w'/\Q (.str (tx w')) H
theorem Ua{a t:pC}{w w':()}{s:Stp}(h1:Is K H (.lst (rs.map dR)) (.ref a))(h2:kA rs)(h3:w.length<=300000)(h4:SqT K H t [.int s.1,.int s.2.1,.bl s.2.2])(h5:yt rs w s=tG w')(q:Q (.str (tx w')) H):jH K [.ref a,.str (tx w),.ref t] H Q E:=#[a,t,rs,w,w',s,rfl,h1,h2,h3,h4,h5,q]
theorem mi:sQz 3 ["_law_pacts","_law_word","_law_step","_law_old","_law_new"] Vr:=by nofun
theorem zam(B:Bt mg)(F:("_law_used"^^^Vr)) :(1&&&["_law_pacts","_law_word","_law_step"]) (jH K):=by
 refine F.ok mi (λvs H Q E h=>?_) (λcdv A outer s H vs Q E hr h=>?_)
 ·obtain⟨a,t,rs,w,w',s,rfl,_⟩:=h;rfl
 ·obtain⟨a,t,rs,w,w',s,rfl,hR,ok,hw,ht,ha,q⟩:=h
  refine#[_,(zi (zF 3 mi.nd (zl ix_tup (zl ix_list (pv 0) (zl ix_tup (pv 2) zf)) zf))
   (zi (zF 4 mi.nd (zl ix_tup (zl ix_list (pv 0) (zl ix_tup (pv 2) zf)) zf))
   (zi (zP (yj (xy (zl ix_tup (pv 2) zf) (λ_=>rfl)))
    (zS (zF 3 mi.nd (zl ix_tup (zl ix_list (pv 0) (zl ix_tup (pv 2) zf)) zf))
    (zh (zF 4 mi.nd (zl ix_tup (zl ix_list (pv 0) (zl ix_tup (pv 2) zf)) zf))))
    zy)
   (zh (zr (zC yF (zC yF (yc wl (pv 1) xw (yk (zl ix_tup (pv 2) zf))) (pv 4)) (yc wl (pv 1) (yk (zC yN (zl ix_tup (pv 2) zf) (zK B.len (pv 3)))) xw))))))),?_]
  have s16:=yb
  erw[Is]at hR
  obtain⟨_,xs,e,hX,hI⟩:=hR;cases e;have hb:0<=s.1/\s.1<rs.length:=bR λhb=>by rw[xm hb]at ha;cases ha
  obtain⟨p,a1,_,hp⟩:=zbG hI hb.1 hb.2;have gl:=Yb ok s.1.toNat;rw[yS hb]at ha;generalize rs.getD s.1.toNat ([],[])=r at *;refine zj (λσ H'=>H'=H/\σ=[!!a,~~~w,!!t,tG (.str (tx r.1)),tH]) ?_ ?_
  ·rfl'
   exact#[_,ht,_,rfl,_,rfl,_,hX,_,a1,_,rfl,_,hp,rfl]
  rintro σ H1 ⟨rfl,rfl⟩:_;right;refine zj (λσ H'=>H'=H1/\σ=[!!a,~~~w,!!t,tG (.str (tx r.1)),tG (.str (tx r.2))]) ?_ ?_
  ·rfl'
   exact#[_,ht,_,rfl,_,rfl,_,hX,_,a1,_,rfl,_,hp,rfl]
  rintro σ H2 ⟨rfl,rfl⟩:_;right;refine zj (λσ H'=>H'=H2/\σ=[!!a,~~~w,!!t,tG (.str (tx (sdl r s.2.2).1)),tG (.str (tx (sdl r s.2.2).2))]) ?_ ?_
  ·rfl'
   refine#[_,ht,_,rfl,_,rfl,yA (λh=>#[_,ht,_,rfl,_,rfl,_,hX,_,a1,_,rfl,_,hp,_,rfl,_,ht,_,rfl,_,rfl,_,hX,_,a1,_,rfl,_,hp,_,rfl,?_]) λh=>?_]
   ·rw[h];exact#[rfl,rfl]
   ·rw[Bool.not_eq_false]at h;rw[h];exact#[rfl,rfl]
  rintro σ H3 ⟨rfl,rfl⟩:_
  have hol:(sdl r s.2.2).1.length<=100:=by
   cases s.2.2
   ·exact gl.2
   ·exact gl.1
  have hnl:(sdl r s.2.2).2.length<=100:=by
   cases s.2.2
   ·exact gl.1
   ·exact gl.2
  right;generalize sdl r s.2.2=on at *;have hst:zt w s.2.1 on.1=tI:=bR λhst=>by rw[if_neg hst]at ha;cases ha
  rw[if_pos hst]at ha;obtain⟨_,_,h0,h1⟩:=zU hst;have c1:=wC w tH (tG s.2.1);have c2:=wC w (tG (s.2.1 + ↑on.1.length)) tH
  rfl'
  refine#[_,ht,_,rfl,_,rfl,⋯,⋯,_,ht,_,rfl,⋯,_,rfl,⋯,?_,?_]
  ·rw[ah];lia
  ·rw[zba h0];cases ha;exact q
theorem jG{a p:pC}{xs:List V}{ys zs:List V}(hp:H p=tG (.lst ys))(h:SqT K H a xs):SqT K (upd H p (.lst zs)) a xs:=by
 rcases h with (h | ⟨o,h⟩) | h
 ·exact .inl (.inl (by rw[zk (λe=>by rw[e,hp]at h;cases h)];exact h))
 ·exact .inl (.inr #[o,by rw[zk (λe=>by rw[e,hp]at h;cases h)];exact h])
 ·exact .inr h
theorem VT{w w':()}{s:Stp}(h:yt rs w s=tG w'):0<=s.1/\s.1<rs.length:=bR λhb=>by rw[xm hb]at h;cases h
def Xb(K:pB):Sp:=λvs H Q _=>∃(a t:pC) (rs:List zm) (w w':()) (ss:List Stp),vs=[.ref a,.str (tx w),.ref t]/\Is K H (.lst (rs.map dR)) (.ref a)/\kA rs/\w.length<=60/\Is K H (.lst (ss.map dSt)) (.ref t)/\ss.length<=2000/\yf rs w ss=tG w'/\Q (.str (tx w')) H
theorem KZ{a t:pC}{w w':()}(h1:Is K H (.lst (rs.map dR)) (.ref a))(h2:kA rs)(h3:w.length<=60)(h4:Is K H (.lst (ss.map dSt)) (.ref t))(h5:ss.length<=2000)(h6:yf rs w ss=tG w')(q:Q (.str (tx w')) H):Xb K [.ref a,.str (tx w),.ref t] H Q E:=#[a,t,rs,w,w',ss,rfl,h1,h2,h3,h4,h5,h6,q]
theorem UW{w w':()}(h:yf rs w ss=tG w'){i:Nat}{s:Stp}(hs:ss[i]? = tG s){w1:()}(h1:yf rs w (ss.take i)=tG w1):∃w2,yt rs w1 s=tG w2/\yf rs w (ss.take (i+1))=tG w2:=by
 have e:ss=ss.take (i+1) ++ ss.drop (i+1):=(cC _ _).symm;rw[e,x0]at h;obtain⟨w2,h2,_⟩:=Ag.mp h;refine#[w2,?_,h2];rw[zL hs,x0,h1]at h2
 erw[yf,bY]at h2
 obtain⟨w3,h3,h4⟩:=Ag.mp h2;cases h4;exact h3
theorem nJ:sQz 3 ["_law_pacts","_law_word","_law_steps_here","_law_step","_law_old"] zaq:=by nofun
theorem zbp(B:Bt mg)(F:("_law_end"^^^zaq))(oZ:(1<<<"_law_used") ["_law_pacts","_law_word","_law_step"] [] (jH K)):(2&&&["_law_pacts","_law_word","_law_steps_here"]) (Xb K):=by
 refine F.ok nJ (λvs H Q E h=>?_) (λcdv A outer s H vs Q E hr h=>?_)
 ·obtain⟨a,t,rs,w,w',ss,rfl,_⟩:=h;rfl
 ·obtain⟨a,t,rs,w,w',ss,rfl,hR,ok,hw,hT,hsl,hwk,q⟩:=h
  refine#[_,(zi (ym PassesOwn.never rfl (yh (pv 2)) (zx (i:=3) nJ.nd rfl (.inl rfl))
    (zi (zP (PW.pt (uH (zA QI (zl ix_tup (pv 3) zf) zf (zE _)) (uH (zA op_ge' (zl ix_tup (pv 3) zf) (zK B.len (pv 0)) (zE _)) (uz (zA QI (zl ix_tup (pv 3) zf) zf (zE _))))))
     (zh (zr xV))
     zy)
    (zi (zF 4 nJ.nd (zl ix_tup (zl ix_list (pv 0) (zl ix_tup (pv 3) zf)) (zC uu zf (xT UQ rfl B.int PySem.Pv.boot_int (za (zl ix_tup (pv 3) zf) ze)))))
    (zi (zP (PW.pt (uH (zA Yi (zC yN (zl ix_tup (pv 3) zf) (zK B.len (pv 4))) (zK B.len (pv 1)) (zE _)) (uz (zA qL (yc wl (pv 1) (yk (zl ix_tup (pv 3) zf)) (yk (zC yN (zl ix_tup (pv 3) zf) (zK B.len (pv 4))))) (pv 4) (zE _)))))
     (zh (zr xV))
     zy)
    (zh (zF 1 nJ.nd (cl0 oZ hr .nil rfl (za (pv 0) (za (pv 1) (za (pv 3) ze))))))))))
   (zh (zr (pv 1)))),?_]
  have s16:=yb;have hR':=hR;have hT':=hT
  erw[Is]at hR' hT'
  obtain⟨_,xs,e,hX,hI⟩:=hR';cases e;obtain⟨_,ts,e,hTs,hJ⟩:=hT';cases e;have htl:=hJ.len;rw[aa]at htl;refine zj (λσ H'=>H'=H/\∃v3 v4,σ=[!!a,~~~w',!!t,v3,v4]) ?_ ?_
  ·rfl'
   refine#[#[_,hTs],ForL.by (xs:=ts) (λi σ H'=>H'=H/\∃w1 v3 v4,yf rs w (ss.take i)=tG w1/\w1.length<=60+i * 100/\σ=[!!a,~~~w1,!!t,v3,v4]) #[rfl,w,_,_,rfl,⋯,rfl] (λi σ H' _ h=>by rw[h.1];exact hTs) ?_ ?_]
   ·refine nm4 ?_;rintro i x σ H' hx ⟨rfl,w1,v3,v4,hw1,hl1,rfl⟩:_;obtain⟨s,ps,hsi,rfl,hqs⟩:=vA hJ hx;have hil:=(tN.mp hsi).1;obtain⟨w2,haf,hw2⟩:=UW hwk hsi hw1;have hl2:=Uz ok haf;have hb:=VT haf;obtain⟨p,a1,_,hp⟩:=zbG hI hb.1 hb.2;have gl:=Yb ok s.1.toNat;have ha:=haf;rw[yS hb]at ha;right;generalize rs.getD s.1.toNat ([],[])=r at *;have hst:zt w1 s.2.1 (sdl r s.2.2).1=tI:=bR λhst=>by rw[if_neg hst]at ha;cases ha
    obtain⟨_,_,h0,h1⟩:=zU hst
    erw[yR,bg,be]
    refine zj (λσ H''=>H''=H'/\σ=[!!a,~~~w1,!!t,!!ps,v4]) ?_ ?_
    ·rfl'
     exact#[_,hqs,_,rfl,_,rfl,yA (λh=>absurd hb.1 ⋯) λ_=>#[_,hqs,_,rfl,_,.inl #[_,hX,rfl],_,rfl,yA (λh=>absurd hb.2 (by have:=hI.len;rw[aa]at this;lia)) λ_=>#[_,hqs,_,rfl,_,rfl,yA (λh=>absurd h0 ⋯) λ_=>trivial]]]
    rintro σ G ⟨rfl,rfl⟩:_;right;refine zj (λσ H''=>H''=G/\σ=[!!a,~~~w1,!!t,!!ps,tG (.str (tx (sdl r s.2.2).1))]) ?_ ?_
    ·rfl'
     refine#[_,hqs,_,rfl,_,rfl,_,hX,_,a1,_,hqs,_,rfl,.inr #[_,rfl,_,rfl,_,hp,?_]];cases s.2.2 <;> rfl
    rintro σ G1 ⟨rfl,rfl⟩:_;right;refine zj (λσ H''=>H''=G1/\σ=[!!a,~~~w1,!!t,!!ps,tG (.str (tx (sdl r s.2.2).1))]) ?_ ?_
    ·rfl'
     have hol:(sdl r s.2.2).1.length<=100:=by
      cases s.2.2
      ·exact gl.2
      ·exact gl.1
     refine#[_,hqs,_,rfl,⋯,_,rfl,⋯,yA (λh=>absurd h1 ⋯) λ_=>#[_,hqs,_,rfl,_,rfl,_,hqs,_,rfl,⋯,_,rfl,⋯,yA (λh=>absurd ?_ h) λ_=>trivial]];have hst':=hst;unfold zt at hst';rw[decide_eq_true_eq]at hst';rw[YE _ h0 ⋯ ⋯];have e:(s.2.1+((sdl r s.2.2).1.length:Int) - s.2.1).toNat=(sdl r s.2.2).1.length:=⋯;rw[e];exact hst'.2.2
    rintro σ G2 ⟨rfl,rfl⟩:_;right
    rfl'
    refine Ua hR ok ⋯ hqs haf #[rfl,w2,hw2,⋯,rfl]
   ·rintro σ H' ⟨rfl,w1,v3,v4,hw1,hl1,rfl⟩;rw[htl,aK,hwk]at hw1;cases hw1;exact#[rfl,_,_,rfl]
  rintro σ H2 ⟨rfl,v3,v4,rfl⟩:_;right
  rfl'
  exact q
theorem zeI{X:Cx}{k j:Nat}{C:pC}{ps:List pJ}{sp:Sp}{e:pM}{es:List pM}{t:TA}{pos p:rj}{x:pJ}(hx:XE X E)(D:DMk X.prog X.w X.K X.mg X.base (CXx X.prog X.w) k C ps sp)(hr:Room j X.A)(hg:Gl X x)(hm:X.mg x=tG (.ref C))(ha:PA X (e::es) t)(hdb:(x ==("__debug__" : pJ))=tJ:=by decide)(he:pz (e::es) X.env=(tJ,eval e X.env)::pz es X.env:=by rfl)
  (hpl:(pS pos (pz es X.env)).any (·.1)=tJ:=by rfl) (hj:k+1<=j:=by decide):PE X (.Call (.Name x p) (e::es) [] pos) (VE C sp [] E t):=by
 obtain⟨f,fd,M,F,hb⟩:=D.ex;exact UA M F (hr.mono hj) hg hm hb .nil (Xf hx) ha hdb he hpl
def Y7(K:pB)(CO CR CW:pC):Sp:=λvs H Q _=>∃(z:Int) (l:()) (D:pC) (ws:List Int),vs=[.int z,.str (tx l),.ref D]/\0<=z/\z<3/\uJ l=tI/\H D=tG (.lst (ws.map V.int))/\ws.length=l.length/\(∀n ∈ ws,1<=n/\n<=1000000)/\∀(o:pC) (H':Hp),Same H H'->OrdAt CO CR CW H' o z.toNat l ws->Q (.ref o) H'
theorem Jv:sQz 3 ["_law_kind","_law_letters_here","_law_weights"] Yo:=by nofun
theorem Q6{f CO CR CW:pC}(B:Bt mg)(T:TWS P w K mg base CO CR CW)(F:("_law_order"^^^Yo)) :(6&&&["_law_kind","_law_letters_here","_law_weights"]) (Y7 K CO CR CW):=by
 exists F.ok Jv
 ·obtain⟨z,l,D,ws,rfl,z0,z3,hg,hD,hwl,hwb,q⟩:=h
  refine#[_,(zS (zP (zA uL (pv 0) zf (zE _))
    (zh (zr (mkC T.mR hr rfl T.gR (za (pv 1) ze))))
    zy)
   (zS (zP (zA uL (pv 0) zf (zE _))
    (zh (zr (zeI xe0 T.mW hr rfl T.gW (za (pv 1) (za (xT xB rfl B.list PySem.Pv.boot_list (za (pv 2) ze)) ze)))))
    zy)
   (zh (zr (mkC T.mO hr rfl T.gO (za (pv 1) ze)))))),?_]
  have s16:=yb;ac_rfl;refine yA (λh1=>?_) λh1=>yA (λh2=>?_) λh2=>?_
  ·intro x dx hx hdx hne;have sd:=zd (o:=.own x) hdx;refine#[x,CR,dx,l,rfl,hg,T.cR,T.lR,zc,rfl,q x _ (λb o' e=>?_) #[dx,.inr (.inl #[by rw[h1];rfl,zc])]];rw[zk (zD e hx),zk (zD e hx)];exact sd _ _ e
  ·refine#[_,.inl (SqL.of hD),λE1 hE=>?_];have se:=zd (o:=.lst (ws.map V.int)) hE;intro x dx hx hdx hne;have sd:=zd (o:=.own x) hdx
   have k1:∀b o',(upd H E1 (.lst (ws.map V.int))) b=tG o'->(upd (upd (upd H E1 (.lst (ws.map V.int))) dx (.own x)) x (.ins CW dx [])) b=tG o':=λb o' e=>by
    rw[zk (zD e hx)];exact sd _ _ e
   exact#[x,dx,E1,l,ws,rfl,hg,SqL.of (k1 _ _ zc),hwl,hwb,zc,λw H' hw hwx kp ht hx'=>#[rfl,q x _ (λb o' e=>kp b o' (zD (se _ _ e) hx) (k1 b o' (se _ _ e))) #[dx,.inr (.inr #[⋯,hwl,w,hx',ht])]]]
  ·intro x dx hx hdx hne;have sd:=zd (o:=.own x) hdx;refine#[x,CO,dx,l,rfl,hg,T.cO,T.lO,zc,rfl,q x _ (λb o' e=>?_) #[dx,.inl #[⋯,zc]]];rw[zk (zD e hx),zk (zD e hx)];exact sd _ _ e
theorem YJ:∀ws:List (()),Str.join (tx []) (ws.map tx)=tx ws.flatten
 | []=>rfl
 | [w]=>by
  show tx w=_;simp
 | w::v::r=>by
  have ih:=YJ (v::r);show tx w ++ tx [] ++ Str.join (tx []) ((v::r).map tx)=_;rw[ih,wK,wK];simp
theorem Y2{ws:List (())}(h:ws.flatten.length<=100000):JoinOk (tx []) (ws.map tx)=tI:=by
 have s16:=yb
 have hf:∀(l:List (())) (n:Nat),(l.map tx).foldl (λa y=>a+y.length+0) n=n+l.flatten.length:=λl=>by
  induction l with
  | nil=>intro n;rfl
  | cons c r ih =>
   intro n;rw[ar,List.foldl_cons,ih,zV,cU,ah];lia
 have e:JoinOk (tx []) (ws.map tx)=!PySem.Builtin.Str.tooLong ((ws.map tx).foldl (λa y=>a+y.length+0) 0):=by
  unfold JoinOk;rw[List.foldl_toArray];rfl
 rw[e,hf];unfold PySem.Builtin.Str.tooLong;rw[dJ,decide_eq_false_iff_not];lia
abbrev ze0(mg:pJ->Option pD):Prop:=mg "any" = tH
structure TNT(K:pB)(mg:pJ->Option pD)(C:pC):Prop where
 xi:XI K C
 g:mg "NotTurned" = tG (.ref C)
 na:NoAttr K C "number"
theorem ui:sQz 2 ["self","number"] zR:=by nofun
theorem ub{f C:pC}(T:TNT K mg C)(F:Fun K "__init__" "NotTurned.__init__" zR f fd):(1&&&["self","number"]) (vO C "number"):=by
 exists F.ok ui
 ·obtain⟨x,v,rfl,hx,q⟩:=h;refine#[_,(zh (Vu (pv 0) (pv 1) rfl)),?_]
  erw[zaW]
  rfl'
  exact#[C,hx,T.xi.toXC,T.na,q]
structure DNT(P:pH)(w:pK)(K:pB)(mg:pJ->Option pD)(base:pN)(C:pC):Prop extends TNT K mg C where
 ini:∃f fd,aj K (.ref C) "__init__" = tG (tG (.ref f))/\br K (.ref f)=tI/\(1&&&["self","number"]) (vO C "number")/\Binds K fd ["self","number"] []
structure zcb(K:pB)(mg:pJ->Option pD)(CH:pC):Prop where
 cl:Cls K CH
 g:mg "System" = tG (.ref CH)
 no:NoAttr K CH "order"
 nr:NoAttr K CH "rules"
noncomputable def wE(k:Nat)(l:())(ns:List Int):List zm->Nat->Option Nat
 | [],_=>tH
 | r::rs,i=>if zG k l ns r.2 r.1=tI then wE k l ns rs (i+1)else tG i
theorem Xz{l:()}:∀{ps:List zm} {j i:Nat} {r:zm},(∀(m:Nat) (p:zm),m<i->ps[m]? = tG p->zG k l ns p.2 p.1=tI)->ps[i]? = tG r->zG k l ns r.2 r.1=tJ->wE k l ns ps j=tG (j+i)
 | [],_,_,_,_,h,_=>by simp at h
 | p::ps,j,0,r,_,h,hl=>by
  cases h;rw[wE,hl,if_neg aB];rfl
 | p::ps,j,i+1,r,hb,h,hl=>by
  rw[wE,if_pos (hb 0 p (Nat.succ_pos _) rfl),Xz (i:=i) (λm q hm e=>hb (m+1) q ⋯ e) h hl];congr 1;lia
theorem ug{l:()}:∀{ps:List zm} {j:Nat},(∀(m:Nat) (p:zm),ps[m]? = tG p->zG k l ns p.2 p.1=tI)->wE k l ns ps j=tH
 | [],_,_=>rfl
 | p::ps,j,hb=>by
  rw[wE,if_pos (hb 0 p rfl)];exact ug λm q e=>hb (m+1) q e
def InL(l:())(ps:List zm):Prop:=∀p ∈ ps,p.1.length<=1000/\p.2.length<=1000/\(∀c ∈ p.1,c ∈ l)/\∀c ∈ p.2,c ∈ l
def uR(K:pB)(CO CR CW CT CH:pC):Sp:=λvs H Q E=>∃(x dx o a:pC) (k:Nat) (l:()) (ns:List Int) (ps:List zm) (xs:List V),vs=[.ref x,.ref o,.ref a]/\H x=tG (.ins CH dx [])/\OrdAt CO CR CW H o k l ns/\OG l ns k/\H a=tG (.lst xs)/\Iss K H (ps.map dR) xs/\InL l ps /\
 (∀i,wE k l ns ps 0=tG i->∀H1,Same H H1->∀d H',zec H1 d "number" (.int (i:Nat)) H'->E (.ref CT) (tG d) H') /\
 (wE k l ns ps 0=tH->∀(q:pC) (H':Hp),(∀b o',b≠x->H b=tG o'->H' b=tG o')->H' x=tG (.ins CH dx [("order",.ref o),("rules",.ref q)])->H' q=tG (.lst xs)->H q=tH->Q .non H')
theorem iZ:sQz 3 ["self","order","rules","number","rule"] wc:=by nofun
theorem jg{f CO CR CW CT CH:pC}(B:Bt mg)(T:DNT P w K mg base CT)(TS:zcb K mg CH)(DBk:DB P w K mg base CO CR CW)(F:Fun K "__init__" "System.__init__" wc f fd) :(5|||["self","order","rules"]) (uR K CO CR CW CT CH):=by
 obtain⟨fi,fdi,hi,hfn,Fi,Bi⟩:=T.ini
 exists Fun.okX F iZ,0
 ·obtain⟨x,dx,o,a,k,l,ns,ps,xs,rfl,hx0,ho,hG,hA,hI,hP,q1,q2⟩:=h
  refine#[_,(zi (ym PassesOwn.leaving rfl (vN rfl B.enum (za (pv 2) ze)) (uA (n:=2) rfl (zY (zx (i:=3) iZ.nd rfl (.inl rfl)) (zY (zx (i:=4) iZ.nd rfl (.inl rfl)) wy)))
    (zh (zP (yj (xy (zbi DBk hr (pv 1) (za (zl ix_tup (pv 4) zf) (za (zl ix_tup (pv 4) zf) ze))) (λ_=>rfl)))
     (zh (Ze hx rfl T.xi.toXC hi hfn Fi (hr.mono ∅) Bi rfl T.g (za (pv 3) ze)))
     zy)))
   (zi (Y5 (pv 0) (pv 1) rfl)
   (zh (Y5 (pv 0) (xT xB rfl B.list PySem.Pv.boot_list (za (pv 2) ze)) rfl)))),?_]
  have s16:=yb;refine zj (λσ H'=>Same H H'/\wE k l ns ps 0=tH/\∃v3 v4,σ=[!!x,!!o,!!a,v3,v4]) ?_ ?_
  ·ac_rfl;refine#[#[_,SqL.of hA],ForEL.by (xs:=xs) (λi σ H'=>Same H H'/\(∀(j:Nat) (p:zm),j<i->ps[j]? = tG p->zG k l ns p.2 p.1=tI)/\∃v3 v4,σ=[!!x,!!o,!!a,v3,v4]) #[Same.refl _,λj p h=>absurd h (cS j),_,_,rfl] ?_ ?_ ?_]
   ·rintro i σ H' _ ⟨hs,_⟩;exact SqL.of (hs _ _ hA)
   ·rintro i y σ H' p hy ⟨hs,hb,v3,v4,rfl⟩ hpn;obtain⟨r,pr,hri,rfl,hqr⟩:=hI.getR hy;have hm:=hP r (ae hri);have s2:=hs.trans (zd (o:=.tup [.int (i:Nat),.ref pr]) hpn);have ho2:=ho.same s2;have hq2:=zp s2 hqr;obtain⟨C,dy,fs,hf,hoC,hn,_⟩:=ho2.fam;have hn1:fs.lookup ("before" : pJ)=tH:=hn _ ∅ ∅;ac_rfl;refine#[_,SqT.of zc,rfl,_,_,rfl,_,_,rfl,rfl,C,hf,dy,fs,hoC,hn1,_,rfl,_,hq2,_,rfl,_,rfl,_,hq2,_,rfl,o,k,l,ns,r.2,r.1,rfl,ho2,hG,hm.2.1,hm.1,hm.2.2.2,hm.2.2.1,λH3 s3=>?_];have s16:=yb;refine#[_,rfl,yA (λe=>#[⋯,V1 (q1 i (by have:=Xz (j:=0) hb hri e;simpa using this) H3 (s2.trans s3))]) λe=>#[s2.trans s3,λj p' hj hp'=>?_]];by_cases hj':j<i
    ·exact hb j p' hj' hp'
    ·have:j=i:=⋯;rw[this,hri]at hp';cases hp';simpa using e
   ·rintro σ H' ⟨hs,hb,v3,v4,rfl⟩;have hxl:=hI.len;rw[aa]at hxl;exact#[hs,ug λm p e=>hb m p (by have:=(tN.mp e).1;lia) e,v3,v4,rfl]
  rintro σ H1 ⟨s1,hf,v3,v4,rfl⟩:_;right;refine zj (λσ H'=>H'=upd H1 x (.ins CH dx [("order",.ref o)])/\σ=[!!x,!!o,!!a,v3,v4]) ?_ ?_
  ·ac_rfl;exact#[_,_,_,s1 _ _ hx0,TS.cl,TS.no,∅,rfl]
  rintro σ H2 ⟨rfl,rfl⟩:_;right;ac_rfl;have hax:a≠x:=λe=>by rw[e,hx0]at hA;cases hA
  refine#[xs,.inl (SqL.of (by rw[zk hax];exact s1 _ _ hA)),λq hq=>?_];have hqx:q≠x:=λe=>by rw[e,zc]at hq;cases hq
  rw[zk hqx]at hq
  have hqH:H q=tH:=by
   cases e:H q with
   | none=>rfl
   | some o'=>rw[s1 _ _ e]at hq;cases hq
  refine#[CH,dx,_,by rw[zk hqx.symm,zc],TS.cl,TS.nr,by show 1<1000;decide,q2 hf q _ (λb o' hb e=>?_) zc (by rw[zk hqx,zc]) hqH];rw[zk hb,zk (λz=>by rw[z,hqH]at e;cases e),zk hb];exact s1 _ _ e
def Jd(K:pB)(CH:pC)(H:Hp)(y o q:pC)(ps:List zm):Prop:=∃dx xs,H y=tG (.ins CH dx [("order",.ref o),("rules",.ref q)])/\H q=tG (.lst xs)/\Iss K H (ps.map dR) xs
noncomputable def xG(l m:())(k:Nat):Bool:=decide ((l.drop k).take m.length=m.take (l.length - k))
noncomputable def lf(rs:List zm)(i:Nat):():=(rs.getD i ([],[])).1
theorem wV{i:Nat}{r:zm}(h:rs[i]? = tG r):lf rs i=r.1:=by unfold lf;rw[af,h];rfl
noncomputable def Z8(rs:List zm)(i j n:Nat):List N3:=((aW n).filter λk=>(decide (i≠j) || decide (k≠0)) && xG (lf rs i) (lf rs j) k).map λk=>(i,j,k)
noncomputable def ovI(rs:List zm)(i m:Nat):List N3:=(aW m).flatMap λj=>Z8 rs i j (lf rs i).length
noncomputable def ovA(rs:List zm)(m:Nat):List N3:=(aW m).flatMap λi=>ovI rs i rs.length
theorem qR(rs:List zm)(i j n:Nat):Z8 rs i j (n+1)=Z8 rs i j n ++ (if ((decide (i≠j) || decide (n≠0)) && xG (lf rs i) (lf rs j) n)=tI then [(i,j,n)]else []):=by
 unfold Z8;rw[cT,bu,aq];congr 1
 erw[fh,dw]
 split <;> rfl
theorem uQ(rs:List zm)(i m:Nat):ovI rs i (m+1)=ovI rs i m ++ Z8 rs i m (lf rs i).length:=by
 unfold ovI;rw[cT,cL];simp
theorem jV(rs:List zm)(m:Nat):ovA rs (m+1)=ovA rs m ++ ovI rs m rs.length:=by
 unfold ovA;rw[cT,cL];simp
theorem uS(rs:List zm)(i j n:Nat):(Z8 rs i j n).length<=n:=by
 unfold Z8;rw[aa];have:=cE (λk=>(decide (i≠j) || decide (k≠0)) && xG (lf rs i) (lf rs j) k) (aW n);rw[dL]at this;exact this
theorem zcJ(h:kA rs)(i:Nat):(lf rs i).length<=100:=by
 cases e:rs[i]? with
 | none=>unfold lf;rw[af,e];exact aG _
 | some r=>rw[wV e];exact (h.2 r (ae e)).1
theorem YR(h:kA rs)(i m:Nat):(ovI rs i m).length<=m * 100:=by
 induction m with
 | zero=>exact aG _
 | succ m ih =>
  rw[uQ,ah];have h1:=uS rs i m (lf rs i).length;have h2:=zcJ h i;lia
theorem Ub(h:kA rs)(m:Nat):(ovA rs m).length<=m * 3000:=by
 induction m with
 | zero=>exact aG _
 | succ m ih =>
  rw[jV,ah];have h1:=YR h m rs.length;have h2:=h.1;lia
def kj:Sp:=λvs H Q _=>∃(l m:()) (k:Nat),vs=[.str (tx l),.str (tx m),.int (k:Nat)]/\l.length<=1000/\m.length<=1000/\k<=l.length/\Q (.bl (xG l m k)) H
theorem ZQ{l m:()}(h1:l.length<=1000)(h2:m.length<=1000)(h3:k<=l.length)(h:Q (.bl (xG l m k)) H):kj [.str (tx l),.str (tx m),.int (k:Nat)] H Q E:=#[l,m,k,rfl,h1,h2,h3,h]
theorem Q4:sQz 3 ["one","other","place"] YL:=by nofun
theorem QS(B:Bt mg)(F:("agree"^^^YL)) :(1&&&["one","other","place"]) kj:=by
 exists F.ok Q4
 ·obtain⟨l,m,k,rfl,hl,hm,hk,q⟩:=h;refine#[_,(zh (zr (uc uL (yc wl (pv 0) (yk (pv 2)) (yk (zC yN (pv 2) (zK B.len (pv 1))))) (yc wl (pv 1) xw (yk (zC uu (zK B.len (pv 0)) (pv 2)))) (zE _)))),?_];have s16:=yb
  rfl'
  refine#[⋯,⋯,⋯,⋯,?_];rw[zbV _ ⋯ ⋯,jm _ ⋯];have e1:((k:Int)+(m.length:Int) - (k:Int)).toNat=m.length:=⋯;have e2:((l.length:Int) - (k:Int)).toNat=l.length - k:=⋯;rw[e1,e2];exact q
def vj(K:pB):Sp:=λvs H Q _=>∃(a:pC) (rs:List zm),vs=[.ref a]/\Is K H (.lst (rs.map dR)) (.ref a)/\kA rs/\∀D H',H D=tH->Same H H'->LsA K H' D ((ovA rs rs.length).map d3)->Q (.ref D) H'
theorem ZM{a:pC}(h1:Is K H (.lst (rs.map dR)) (.ref a))(h2:kA rs)(h:∀D H',H D=tH->Same H H'->LsA K H' D ((ovA rs rs.length).map d3)->Q (.ref D) H'):vj K [.ref a] H Q E:=#[a,rs,rfl,h1,h2,h]
theorem gP:sQz 1 ["rules","found","i","one","j","other","place"] ud:=by nofun
theorem Yt(B:Bt mg)(F:("overlaps"^^^ud))(oU:(1<<<"agree") ["one","other","place"] [] kj):(2&&&["rules"]) (vj K):=by
 exists F.ok gP
 ·obtain⟨a,rs,rfl,hR,ok,q⟩:=h
  refine#[_,(zS (zF 1 gP.nd (xZ ze))
   (zS (ym PassesOwn.never rfl (vN rfl B.enum (za (pv 0) ze)) (uA (n:=2) rfl (zY (zx (i:=2) gP.nd rfl (.inl rfl)) (zY (zx (i:=3) gP.nd rfl (.inl rfl)) wy)))
    (zh (ym PassesOwn.never rfl (vN rfl B.enum (za (pv 0) ze)) (uA (n:=2) rfl (zY (zx (i:=4) gP.nd rfl (.inl rfl)) (zY (zx (i:=5) gP.nd rfl (.inl rfl)) wy)))
     (zh (ym PassesOwn.never rfl (Z1 rfl B.range (za (jQ (zA uL (pv 2) (pv 4) (zE _)) zf zf) (za (zK B.len (zl ix_tup (pv 3) zf)) ze))) (zx (i:=6) gP.nd rfl (.inl rfl))
      (zh (zP (xy (cl0 oU hr .nil rfl (za (zl ix_tup (pv 3) zf) (za (zl ix_tup (pv 5) zf) (za (pv 6) ze)))) (λ_=>rfl))
       (zh (yw (xu aS aZ ba ya (pv 1) (za (zO (za (pv 2) (za (pv 4) (za (pv 6) ze)))) ze))))
       zy)))))))
   (zh (zr (pv 1))))),?_]
  have s16:=yb
  rfl'
  erw[Is]at hR
  obtain⟨_,xs,e,hX,hI⟩:=hR;cases e;refine#[⋯,λD hD=>#[#[_,(zd hD).seq hX],ForEL.by (xs:=xs) (λi σ H'=>∃v2 v3 v4 v5 v6,σ=[!!a,!!D,v2,v3,v4,v5,v6]/\Same H H'/\LsA K H' D ((ovA rs i).map d3)) #[tH,tH,tH,tH,tH,rfl,zd hD,LsA.nil] ?_ ?_ ?_]]
  ·rintro i σ H' hi ⟨v2,v3,v4,v5,v6,rfl,hs,_⟩;exact hs.seq hX
  ·rintro i x σ H' p hx ⟨v2,v3,v4,v5,v6,rfl,hs,hL⟩ hp;obtain⟨r,pr,hri,rfl,hqr⟩:=hI.getR hx;have er:=wV hri;have hr1:=(ok.2 r (ae hri)).1
   rfl'
   refine#[_,SqT.of zc,rfl,_,_,rfl,_,_,rfl,rfl,#[_,((hs.trans (zd hp)).seq hX)],ForEL.by (xs:=xs) (λj σ H''=>∃v4 v5 v6,σ=[!!a,!!D,-~~~i,!!pr,v4,v5,v6]/\Same H H''/\LsA K H'' D ((ovA rs i ++ ovI rs i j).map d3)) #[v4,v5,v6,rfl,hs.trans (zd hp),by rw[show ovI rs i 0=[]from rfl,aE];exact hL.same (zd hp)] ?_ ?_ ?_]
   ·rintro j σ H2 hj ⟨v4,v5,v6,rfl,hs2,_⟩;exact hs2.seq hX
   ·rintro j y σ H2 p2 hy ⟨v4,v5,v6,rfl,hs2,hL2⟩ hp2;obtain⟨r2,pr2,hri2,rfl,hqr2⟩:=hI.getR hy;have er2:=wV hri2;have hr2:=(ok.2 r2 (ae hri2)).1;have hs3:=hs2.trans (zd (o:=.tup [.int (j:Nat),.ref pr2]) hp2);have hq1:=zp hs3 hqr;have el:(tx r.1).length=r.1.length:=zV _
    rfl'
    refine#[_,SqT.of zc,rfl,_,_,rfl,_,_,rfl,rfl,rfl,yA (λh=>?_) λh=>?_]
    ·have hij:i=j:=by injection h with h;lia
     have z0:Z8 rs i j (1+0)=[]:=by
      subst hij;rw[show 1+0=0+1 from rfl,qR];simp [Z8]
     have zn:Z8 rs i j (1+((r.1.length:Int) - 1).toNat)=Z8 rs i j r.1.length:=by
      by_cases h0:r.1.length=0
      ·rw[h0];exact z0
      ·rw[show 1+((r.1.length:Int) - 1).toNat=r.1.length by lia]
     refine#[_,hq1,_,rfl,_,#[⋯,rfl],∅,∅,⋯,⋯,ForR.by (λt σ H3=>∃v6,σ=[!!a,!!D,-~~~i,!!pr,-~~~j,!!pr2,v6]/\Same H H3/\LsA K H3 D ((ovA rs i ++ ovI rs i j ++ Z8 rs i j (1+t)).map d3)) #[v6,rfl,hs3,(by rw[z0,aE];exact hL2.same (zd hp2))] ?_ ?_]
     ·refine nm3 ?_;rintro n σ H3 hn ⟨v6,rfl,hs4,hL4⟩:_;have hn':1+n<r.1.length:=⋯;have en:((1:Int)+(n:Int))=((1+n:Nat):Int):=⋯;right;dsimp only;rw[en];obtain⟨ys,hY,hJ⟩:=hL4;have hlen:=hJ.len;have l1:=Ub ok i;have l2:=YR ok i j;have l3:=uS rs i j (1+n);have i1:=(tN.mp hri).1;have i2:=(tN.mp hri2).1;have i3:=ok.1
      erw[aa,ah]at hlen
      have es:=qR rs i j (1+n);have etest:(decide (i≠j) || decide (1+n≠0))=tI:=by rw[show decide (1+n≠0)=tI from decide_eq_true ⋯,d5]
      rw[etest,Bool.true_and,er,er2]at es
      rfl'
      refine#[_,zp hs4 hqr,_,rfl,_,zp hs4 hqr2,_,rfl,ZQ ⋯ ⋯ ⋯ #[_,rfl,yA (λhb=>#[.inl #[_,SqL.of hY],⋯,λt ht=>#[_,zd ht _ _ hY,⋯,zw (hs4.trans (zd ht)) hD,?_]]) λhb=>#[hs4,ys,hY,?_]]]
      ·rw[hb,if_pos rfl]at es;rw[show 1+(n+1)=1+n+1 by lia,es,<- aH,aq];exact LsA.pushT hY hJ ht zc6 (Wb _) (by erw[zQ,xv,and_self])
      ·have hb':xG r.1 r2.1 (1+n)=tJ:=by simpa using hb
       rw[hb',if_neg aB,aE]at es;rw[show 1+(n+1)=1+n+1 by lia,es];exact hJ
     ·rintro σ H3 ⟨v6,rfl,hs4,hL4⟩;refine#[#[_,_,_,rfl],hs4,?_];rw[uQ,er,<- aH];rw[el,zn]at hL4;exact hL4
    ·have hij:i≠j:=λz=>h (by rw[z]);refine#[_,hq1,_,rfl,_,#[⋯,rfl],∅,∅,⋯,⋯,ForR.by (λt σ H3=>∃v6,σ=[!!a,!!D,-~~~i,!!pr,-~~~j,!!pr2,v6]/\Same H H3/\LsA K H3 D ((ovA rs i ++ ovI rs i j ++ Z8 rs i j (0+t)).map d3)) #[v6,rfl,hs3,(by rw[show Z8 rs i j (0+0)=[]from rfl,aE];exact hL2.same (zd hp2))] ?_ ?_]
     ·refine nm3 ?_;rintro n σ H3 hn ⟨v6,rfl,hs4,hL4⟩:_;have hn':0+n<r.1.length:=⋯;have en:((0:Int)+(n:Int))=((0+n:Nat):Int):=⋯;right;dsimp only;rw[en];obtain⟨ys,hY,hJ⟩:=hL4;have hlen:=hJ.len;have l1:=Ub ok i;have l2:=YR ok i j;have l3:=uS rs i j (0+n);have i1:=(tN.mp hri).1;have i2:=(tN.mp hri2).1;have i3:=ok.1
      erw[aa,ah]at hlen
      have es:=qR rs i j (0+n);have etest:(decide (i≠j) || decide (0+n≠0))=tI:=by rw[show decide (i≠j)=tI from decide_eq_true hij,Bool.true_or]
      rw[etest,Bool.true_and,er,er2]at es
      rfl'
      refine#[_,zp hs4 hqr,_,rfl,_,zp hs4 hqr2,_,rfl,ZQ ⋯ ⋯ ⋯ #[_,rfl,yA (λhb=>#[.inl #[_,SqL.of hY],⋯,λt ht=>#[_,zd ht _ _ hY,⋯,zw (hs4.trans (zd ht)) hD,?_]]) λhb=>#[hs4,ys,hY,?_]]]
      ·rw[hb,if_pos rfl]at es;rw[show 0+(n+1)=0+n+1 by lia,es,<- aH,aq];exact LsA.pushT hY hJ ht zc6 (Wb _) (by erw[zQ,xv,and_self])
      ·have hb':xG r.1 r2.1 (0+n)=tJ:=by simpa using hb
       rw[hb',if_neg aB,aE]at es;rw[show 0+(n+1)=0+n+1 by lia,es];exact hJ
     ·rintro σ H3 ⟨v6,rfl,hs4,hL4⟩;refine#[#[_,_,_,rfl],hs4,?_];rw[uQ,er,<- aH];rw[el,show 0+((r.1.length:Int) - 0).toNat=r.1.length by lia]at hL4;exact hL4
   ·rintro σ H2 ⟨v4,v5,v6,rfl,hs2,hL2⟩;have e:=hI.len;rw[aa]at e;rw[e,<- jV]at hL2;exact#[#[_,_,_,_,_,rfl],hs2,hL2]
  ·rintro σ H' ⟨v2,v3,v4,v5,v6,rfl,hs,hL⟩;have e:=hI.len;rw[aa]at e;rw[e]at hL
   rfl'
   exact q D H' hD hs hL
noncomputable def yg(l m:())(k:Nat):():=l ++ m.drop (l.length - k)
theorem wN(l m:())(k:Nat)(hk:k<=l.length):(yg l m k).length=max l.length (k+m.length):=by
 unfold yg;rw[ah,bi];lia
theorem vZ(l m:())(k:Nat):zt (yg l m k) 0 l=tI:=by
  unfold zt yg;refine decide_eq_true #[∅,by rw[ah];lia,?_];rw[show (0:Int).toNat=0 from rfl,eD,bC (al _),aK]
theorem vc{l m:()}(hk:k<=l.length)(h:xG l m k=tI):zt (yg l m k) (k:Nat) m=tI:=by
 unfold xG at h;rw[decide_eq_true_eq]at h;have hl:=wN l m k hk;unfold zt;refine decide_eq_true #[⋯,⋯,?_];rw[show ((k:Nat):Int).toNat=k from rfl];unfold yg;rw[cu hk];by_cases hm:m.length<=l.length - k
 ·rw[bC (by rw[bi];lia),h,bp hm]
 ·rw[bp (by rw[bi];lia)]at h;rw[h,cC,aK]
theorem QP{i j n:Nat}{t:N3}(h:t ∈ Z8 rs i j n):t.1=i/\t.2.1=j/\t.2.2<n/\xG (lf rs i) (lf rs j) t.2.2=tI:=by
 unfold Z8 at h;obtain⟨k,hk,rfl⟩:=tO.mp h;rw[List.mem_filter,fH,cz]at hk;exact#[rfl,rfl,hk.1,hk.2.2]
theorem um{t:N3}(h:t ∈ ovA rs rs.length):t.1<rs.length/\t.2.1<rs.length/\t.2.2<(lf rs t.1).length/\xG (lf rs t.1) (lf rs t.2.1) t.2.2=tI:=by
 unfold ovA ovI at h;obtain⟨i,hi,h⟩:=Ai.mp h;obtain⟨j,hj,h⟩:=Ai.mp h;obtain⟨e1,e2,e3,e4⟩:=QP h;rw[e1,e2];exact#[tT.mp hi,tT.mp hj,e3,e4]
def km(K:pB):Sp:=λvs H Q _=>∃(a t:pC) (rs:List zm) (i j k:Nat) (r r2:zm),vs=[.ref a,.ref t]/\Is K H (.lst (rs.map dR)) (.ref a)/\SqT K H t [.int (i:Nat),.int (j:Nat),.int (k:Nat)]/\kA rs/\rs[i]? = tG r/\rs[j]? = tG r2/\k<=r.1.length/\xG r.1 r2.1 k=tI /\
 ∀p H',H p=tH->Same H H'->H' p=tG (.tup [.str (tx (yg r.1 r2.1 k)),.str (tx (yK (yg r.1 r2.1 k) 0 r.1 r.2)),.str (tx (yK (yg r.1 r2.1 k) (k:Nat) r2.1 r2.2))])->Q (.ref p) H'
theorem Xx{a t:pC}{i j k:Nat}{r r2:zm}(h1:Is K H (.lst (rs.map dR)) (.ref a))(h2:SqT K H t [.int (i:Nat),.int (j:Nat),.int (k:Nat)])(h3:kA rs)(h4:rs[i]? = tG r)(h5:rs[j]? = tG r2)(h6:k<=r.1.length)(h7:xG r.1 r2.1 k=tI)
 (h:∀p H',H p=tH->Same H H'->H' p=tG (.tup [.str (tx (yg r.1 r2.1 k)),.str (tx (yK (yg r.1 r2.1 k) 0 r.1 r.2)),.str (tx (yK (yg r.1 r2.1 k) (k:Nat) r2.1 r2.2))])->Q (.ref p) H'):km K [.ref a,.ref t] H Q E:=#[a,t,rs,i,j,k,r,r2,rfl,h1,h2,h3,h4,h5,h6,h7,h]
theorem UZ{CU:pC}{l o n:()}{k:Int}(h1:l.length<=10000)(h2:o.length<=10000)(h3:n.length<=10000)(hs:zt l k o=tI)(q:Q (.str (tx (yK l k o n))) H):XW CU [.str (tx l),.int k,.str (tx o),.str (tx n)] H Q E:=#[l,o,n,k,rfl,h1,h2,h3,λ_=>q,λh=>by rw[hs]at h;cases h]
theorem mj:sQz 2 ["rules","overlap","one","other","place","word"] VI:=by nofun
theorem zax{f CU:pC}(B:Bt mg)(F:("peak"^^^VI))(og:(3>>>"put") ["word","place","old","new"] [] (XW CU)):(4&&&["rules","overlap"]) (km K):=by
 exists F.ok mj
 ·obtain⟨a,t,rs,i,j,k,r,r2,rfl,hR,ht,ok,hr1,hr2,hk,hag,q⟩:=h
  refine#[_,(zi (zF 2 mj.nd (zl ix_list (pv 0) (zl ix_tup (pv 1) zf)))
   (zi (zF 3 mj.nd (zl ix_list (pv 0) (zl ix_tup (pv 1) zf)))
   (zi (zF 4 mj.nd (zl ix_tup (pv 1) zf))
   (zi (zF 5 mj.nd (zC yF (zl ix_tup (pv 2) zf) (yc zbO (zl ix_tup (pv 3) zf) (yk (zC uu (zK B.len (zl ix_tup (pv 2) zf)) (pv 4))) xw)))
   (zh (zr (zO (za (pv 5) (za (clP xe0 og hr .nil rfl (za (pv 5) (za zf (za (zl ix_tup (pv 2) zf) (za (zl ix_tup (pv 2) zf) ze))))) (za (clP xe0 og hr .nil rfl (za (pv 5) (za (pv 4) (za (zl ix_tup (pv 3) zf) (za (zl ix_tup (pv 3) zf) ze))))) ze)))))))))),?_]
  have s16:=yb
  erw[Is]at hR
  obtain⟨_,xs,e,hX,hI⟩:=hR;cases e;obtain⟨p1,a1,q1⟩:=zds hI hr1;obtain⟨p2,a2,q2⟩:=zds hI hr2;have b1:=ok.2 r (ae hr1);have b2:=ok.2 r2 (ae hr2);refine zj (λσ H'=>H'=H/\σ=[!!a,!!t,!!p1,tH,tH,tH]) ?_ ?_
  ·rfl'
   exact#[_,ht,_,rfl,_,rfl,_,hX,a1]
  rintro σ H1 ⟨rfl,rfl⟩:_;right;refine zj (λσ H'=>H'=H1/\σ=[!!a,!!t,!!p1,!!p2,tH,tH]) ?_ ?_
  ·rfl'
   exact#[_,ht,_,rfl,_,rfl,_,hX,a2]
  rintro σ H2 ⟨rfl,rfl⟩:_;right;refine zj (λσ H'=>H'=H2/\σ=[!!a,!!t,!!p1,!!p2,-~~~k,tH]) ?_ ?_
  ·rfl'
   exact#[_,ht,rfl]
  rintro σ H3 ⟨rfl,rfl⟩:_;right;refine zj (λσ H'=>H'=H3/\σ=[!!a,!!t,!!p1,!!p2,-~~~k,tG (.str (tx (yg r.1 r2.1 k)))]) ?_ ?_
  ·rfl'
   refine#[_,q1,_,rfl,_,q2,_,rfl,_,q1,_,rfl,_,#[by rw[zV];lia,rfl],#[by rw[zV];lia,_,rfl,_,rfl,?_,rfl,?_]]
   ·erw[zV,Yg]
    have:=wC r2.1 (tG ((r.1.length:Int) - (k:Int))) tH;lia
   ·rw[zV,Yg,wK,vz _ ⋯,show ((r.1.length:Int) - (k:Int)).toNat=r.1.length - k by lia];rfl
  rintro σ H4 ⟨rfl,rfl⟩:_;have hw:=wN r.1 r2.1 k hk;right
  rfl'
  exact#[_,q1,_,rfl,_,q1,_,rfl,UZ ⋯ ⋯ ⋯ (vZ _ _ _) #[_,q2,_,rfl,_,q2,_,rfl,UZ ⋯ ⋯ ⋯ (vc hk hag) #[⋯,λp hp=>q p _ hp (zd hp) zc]]]
def FmOk(ps:List zm)(most:Int)(m:pJ->Option V):Prop:=∀k v,m k=tG v->∃(w:()) (J:Nat),k=tx w/\v=.str (tx (wAt ps w J))/\YK ps w J/\zB (wAt ps w J) ps=tH/\(J:Int)<=most
theorem FmOk.get{most:Int}{m:pJ->Option V}(h:FmOk ps most m){w:()}{v:V}(e:m (tx w)=tG v){J:Nat}(hl:YK ps w J)(hf:zB (wAt ps w J) ps=tH):v=.str (tx (wAt ps w J)):=by
 obtain⟨w',J',e1,e2,e3,e4,_⟩:=h _ _ e;have e5:=jq e1;subst e5;rw[e2,jS e3 e4 hl hf]
theorem FmOk.put{most:Int}{m:pJ->Option V}(h:FmOk ps most m){w:()}{J:Nat}(hl:YK ps w J)(hf:zB (wAt ps w J) ps=tH)(hJ:(J:Int)<=most):FmOk ps most (λx=>if x=tx w then tG (.str (tx (wAt ps w J)))else m x):=λk v e=>by
 by_cases hk:k=tx w
 ·erw[hk,if_true]at e
  cases e;exact#[w,J,hk,rfl,hl,hf,hJ]
 ·erw[hk,if_false]at e
  exact h k v e
def YU(P:pH)(w:pK)(K:pB)(CF:pC):Sp:=λvs H Q E=>∃(a F:pC) (l:()) (ps:List zm) (m:Int) (J n:Nat) (mp:pJ->Option V),vs=[.ref a,.str (tx l),.int m,.ref F]/\LsA K H a (ps.map dR)/\NeL ps/\ps.length<=100/\(∀p ∈ ps,p.1.length<=1000/\p.2.length<=1000)/\Rd ps l J/\H F=tG (qZ P w F mp n)/\FmOk ps m mp/\n<=10000 /\
 ((zB (wAt ps l J) ps=tH/\(J:Int)<=m/\∀(mp':pJ->Option V) (n':Nat) (H':Hp),SamT F H H'->H' F=tG (qZ P w F mp' n')->FmOk ps m mp'->n'<=n+1->Q (.str (tx (wAt ps l J))) H') \/
  (zB (wAt ps l J) ps≠tH/\(J:Int)=m/\∀H',Same H H'->E (.ref CF) tH H'))
theorem Wx:sQz 4 ["rules","word","most","forms"] qy:=by nofun
theorem Wn{f CF:pC}{lG:si}(B:Bt mg)(F:("form_of"^^^qy))(nH:(4>>>"gone") ["rules","word","most"] [] (wJ K CF))(DD_gone:(4>>>"gone") ["rules","word","most"] [.int 4000 lG] (wJ K CF)):(5|||["rules","word","most","forms"]) (YU P w K CF):=by
 exists Fun.okX F Wx,0
 ·obtain⟨a,F0,l,ps,m,J,n,mp,rfl,hA,hN,hpl,hP,hR,hF,hM,hn,hq⟩:=h
  refine#[_,(zi (zP (zA Qr (pv 1) (pv 3) (by with_unfolding_all rfl))
    (zh (zcs (zl ix_tup (clP hx nH hr .nil rfl (za (pv 0) (za (pv 1) (za (pv 2) ze)))) zf) (zbW (pv 3) (pv 1) Qp (by intro _;rfl))))
    zy)
   (zh (zr (zl KB (pv 3) (pv 1))))),?_]
  have s16:=yb;have s16:=yb;refine zj (λσ H'=>SamT F0 H H'/\zB (wAt ps l J) ps=tH/\(J:Int)<=m/\(∃(mp':pJ->Option V) (n':Nat),H' F0=tG (qZ P w F0 mp' n')/\FmOk ps m mp'/\n'<=n+1/\mp' (tx l)=tG (.str (tx (wAt ps l J))))/\σ=[!!a,~~~l,~~~!m,!!F0]) ?_ ?_
  ·rfl'
   refine#[F0,mp,n,tx l,rfl,rfl,hF,_,rfl,yA (λhnone=>#[a,l,ps,m,J,rfl,hA,hN,hpl,hP,hR,?_]) λhsome=>?_]
   ·rcases hq with ⟨hf,hJ,_⟩ | h
    ·refine .inl #[hf,hJ,λp S H' s' hp _ _=>#[p,rfl,_,SqT.of hp,_,rfl,?_]]
     erw[zez]
     rfl'
     exact#[F0,mp,n,tx l,rfl,rfl,s' _ _ hF,⋯,λb o hb e=>by rw[zk hb];exact s' _ _ e,hf,hJ,_,_,zc,hM.put hR.live hf hJ,al _,if_pos rfl]
    ·exact .inr h
   ·cases hv:mp (tx l)with
    | none=>rw[hv]at hsome;exact absurd rfl hsome
    | some v =>
     obtain⟨w',J',e1,e2,e3,e4,e5⟩:=hM _ _ hv;have e6:=jq e1;subst e6;rcases hq with ⟨hf,hJ,_⟩ | ⟨hf,hJ,_⟩
     ·exact#[λb o _ e=>e,hf,hJ,mp,n,hF,hM,⋯,by rw[hM.get hv hR.live hf]at hv;exact hv]
     ·exfalso;rcases eU J' J with h | h
      ·exact hR.live J' h e4
      ·have:J'=J:=⋯;subst this;exact hf e4
  rintro σ H1 ⟨s1,hf,hJ,⟨mp',n',h1,h2,h3,h4⟩,rfl⟩:_;right
  rfl'
  refine#[F0,mp',n',tx l,_,rfl,rfl,h1,h4,?_];rcases hq with ⟨_,_,q⟩ | ⟨h,_⟩
  ·exact q mp' n' H1 s1 h1 h2 h3
  ·exact absurd hf h
noncomputable def pkA(ps:List zm)(t:N3):():=yK (yg (lf ps t.1) (lf ps t.2.1) t.2.2) 0 (lf ps t.1) (ps.getD t.1 ([],[])).2
noncomputable def pkB(ps:List zm)(t:N3):():=yK (yg (lf ps t.1) (lf ps t.2.1) t.2.2) (t.2.2:Nat) (lf ps t.2.1) (ps.getD t.2.1 ([],[])).2
inductive zbg(ps:List zm)(m:Int)(l:()):Option Nat->Prop where
 | yes {J:Nat} (h:Rd ps l J) (h1:zB (wAt ps l J) ps=tH) (h2:(J:Int)<=m):zbg ps m l (tG J)
 | no {J:Nat} (h:Rd ps l J) (h1:zB (wAt ps l J) ps≠tH) (h2:(J:Int)=m):zbg ps m l tH
def kE(P:pH)(w:pK)(K:pB)(CF:pC):Sp:=λvs H Q E=>∃(a t F:pC) (ps:List zm) (tr:N3) (m:Int) (n:Nat) (mp:pJ->Option V) (g1 g2:Option Nat),vs=[.ref a,.ref t,.int m,.ref F]/\LsA K H a (ps.map dR)/\NeL ps/\kA ps/\SqT K H t [.int (tr.1:Nat),.int (tr.2.1:Nat),.int (tr.2.2:Nat)]/\tr ∈ ovA ps ps.length/\H F=tG (qZ P w F mp n)/\FmOk ps m mp/\n<=9000/\zbg ps m (pkA ps tr) g1/\zbg ps m (pkB ps tr) g2 /\
 (∀(J1 J2:Nat) (mp':pJ->Option V) (n':Nat) (H':Hp),g1=tG J1->g2=tG J2->SamT F H H'->H' F=tG (qZ P w F mp' n')->FmOk ps m mp'->n'<=n+2->Q (.bl (decide (wAt ps (pkA ps tr) J1=wAt ps (pkB ps tr) J2))) H') /\
 ((g1=tH\/g2=tH)->∀H',SamT F H H'->E (.ref CF) tH H')
theorem Y9{P:pH}{w:pK}{CF a F:pC}{l:()}{m:Int}{n:Nat}{mp:pJ->Option V}{g:Option Nat}(hA:LsA K H a (ps.map dR))(hN:NeL ps)(hok:kA ps)(hF:H F=tG (qZ P w F mp n))(hM:FmOk ps m mp)(hn:n<=10000)(hg:zbg ps m l g)
  (h1:∀(J:Nat) (mp':pJ->Option V) (n':Nat) (H':Hp),g=tG J->SamT F H H'->H' F=tG (qZ P w F mp' n')->FmOk ps m mp'->n'<=n+1->Q (.str (tx (wAt ps l J))) H') (h2:g=tH->∀H',Same H H'->E (.ref CF) tH H'):YU P w K CF [.ref a,.str (tx l),.int m,.ref F] H Q E:=by
 have hP:∀p ∈ ps,p.1.length<=1000/\p.2.length<=1000:=λp hp=>by have:=hok.2 p hp;lia
 have hl:ps.length<=100:=by have:=hok.1;lia
 cases hg with
 | yes h e1 e2=>exact#[a,F,l,ps,m,_,n,mp,rfl,hA,hN,hl,hP,h,hF,hM,hn,.inl #[e1,e2,λmp' n' H' a1 a2 a3 a4=>h1 _ mp' n' H' rfl a1 a2 a3 a4]]
 | no h e1 e2=>exact#[a,F,l,ps,m,_,n,mp,rfl,hA,hN,hl,hP,h,hF,hM,hn,.inr #[e1,e2,h2 rfl]]
theorem qH{F t:pC}{H H':Hp}{P:pH}{w:pK}{mp:pJ->Option V}{n:Nat}{xs:List V}(s:SamT F H H')(hF:H F=tG (qZ P w F mp n))(h:SqT K H t xs):SqT K H' t xs:=by
 rcases h with (h | ⟨o,h⟩) | h
 ·exact .inl (.inl (s _ _ (λz=>by rw[z,hF]at h;cases h) h))
 ·exact .inl (.inr #[o,s _ _ (λz=>by rw[z,hF]at h;cases h) h])
 ·exact .inr h
theorem XF{F a:pC}{H H':Hp}{P:pH}{w:pK}{mp:pJ->Option V}{n:Nat}(s:SamT F H H')(hF:H F=tG (qZ P w F mp n))(h:LsA K H a (ps.map dR)):LsA K H' a (ps.map dR):=by
 obtain⟨xs,h1,h2⟩:=h;refine#[xs,s _ _ (λz=>by rw[z,hF]at h1;cases h1) h1,?_]
 have key:∀(qs:List zm) (vs:List V),Iss K H (qs.map dR) vs->Iss K H' (qs.map dR) vs:=by
  intro qs
  induction qs with
  | nil=>intro vs h;erw[aJ,Iss]at h ⊢;exact h
  | cons q qs ih =>
   intro vs h
   erw[ar,Iss]at h ⊢
   obtain⟨v,r,e,h3,h4⟩:=h;obtain⟨p,rfl,h5⟩:=zbJ h3;exact#[_,r,e,ZD (qH s hF h5),ih r h4]
 exact key ps xs h2
theorem md:sQz 4 ["rules","overlap","most","forms","sides","one","other"] kN:=by nofun
theorem US{f CF:pC}(B:Bt mg)(F:("is_met"^^^kN))(oo:(4<<<"peak") ["rules","overlap"] [] (km K))(nV:(5>>>"form_of") ["rules","word","most","forms"] [] (YU P w K CF)):(6|||["rules","overlap","most","forms"]) (kE P w K CF):=by
 exists Fun.okX F md,0
 ·obtain⟨a,t,F0,ps,tr,m,n,mp,g1,g2,rfl,hA,hN,hok,ht,htr,hF,hM,hn,hg1,hg2,q1,q2⟩:=h
  refine#[_,(zi (zF 4 md.nd (cl0 oo hr .nil rfl (za (pv 0) (za (pv 1) ze))))
   (zi (zF 5 md.nd (clP hx nV hr .nil rfl (za (pv 0) (za (zl ix_tup (pv 4) zf) (za (pv 2) (za (pv 3) ze))))))
   (zi (zF 6 md.nd (clP hx nV hr .nil rfl (za (pv 0) (za (zl ix_tup (pv 4) zf) (za (pv 2) (za (pv 3) ze))))))
   (zh (zr (uc uL (pv 5) (pv 6) (zE _))))))),?_]
  have s16:=yb;have s16:=yb;obtain⟨i1,i2,i3,i4⟩:=um htr;obtain⟨r,hr⟩:∃r,ps[tr.1]? = tG r:=#[_,ag i1];obtain⟨r2,hr2⟩:∃r,ps[tr.2.1]? = tG r:=#[_,ag i2];have l1:=wV hr;have l2:=wV hr2;have d1:ps.getD tr.1 ([],[])=r:=by rw[af,hr];rfl
  have d2:ps.getD tr.2.1 ([],[])=r2:=by rw[af,hr2];rfl
  have eA:pkA ps tr=yK (yg r.1 r2.1 tr.2.2) 0 r.1 r.2:=by unfold pkA;rw[l1,l2,d1]
  have eB:pkB ps tr=yK (yg r.1 r2.1 tr.2.2) (tr.2.2:Nat) r2.1 r2.2:=by unfold pkB;rw[l1,l2,d2]
  rw[l1]at i3;rw[l1,l2]at i4;refine zj (λσ H'=>Same H H'/\∃p:pC,(∃x,H' p=tG (.tup [x,.str (tx (pkA ps tr)),.str (tx (pkB ps tr))]))/\σ=[!!a,!!t,~~~!m,!!F0,!!p,tH,tH]) ?_ ?_
  ·rfl'
   exact Xx hA.is ht hok hr hr2 ⋯ i4 λp H' _ s' hp=>#[s',p,#[_,by rw[eA,eB];exact hp],rfl]
  rintro σ H1 ⟨s1,p,⟨x,hp⟩,rfl⟩:_;have hF1:=s1 _ _ hF;right;refine zj (λσ H'=>SamT F0 H1 H'/\∃(J1:Nat),g1=tG J1/\(∃mp' n',H' F0=tG (qZ P w F0 mp' n')/\FmOk ps m mp'/\n'<=n+1)/\σ=[!!a,!!t,~~~!m,!!F0,!!p,tG (.str (tx (wAt ps (pkA ps tr) J1))),tH]) ?_ ?_
  ·rfl'
   refine#[_,SqT.of hp,_,rfl,Y9 (hA.same s1) hN hok hF1 hM ⋯ hg1 (λJ mp' n' H' e a1 a2 a3 a4=>?_) λe H' s'=>q2 (.inl e) H' (SamT.of (s1.trans s'))];exact#[a1,J,e,#[mp',n',a2,a3,a4],rfl]
  rintro σ H2 ⟨s2,J1,e1,⟨mp1,n1,hF2,hM2,hn2⟩,rfl⟩:_;have s12:SamT F0 H H2:=(SamT.of s1).trans s2;have hpF:p≠F0:=λz=>by rw[z,hF1]at hp;cases hp
  right;refine zj (λσ H'=>SamT F0 H2 H'/\∃(J2:Nat),g2=tG J2/\(∃mp' n',H' F0=tG (qZ P w F0 mp' n')/\FmOk ps m mp'/\n'<=n+2)/\σ=[!!a,!!t,~~~!m,!!F0,!!p,tG (.str (tx (wAt ps (pkA ps tr) J1))),tG (.str (tx (wAt ps (pkB ps tr) J2)))]) ?_ ?_
  ·rfl'
   exact#[_,SqT.of (s2 _ _ hpF hp),_,rfl,Y9 (XF s2 hF1 (hA.same s1)) hN hok hF2 hM2 ⋯ hg2 (λJ mp' n' H' e a1 a2 a3 a4=>#[a1,J,e,#[mp',n',a2,a3,⋯],rfl]) λe H' s'=>q2 (.inr e) H' (s12.trans (SamT.of s'))]
  rintro σ H3 ⟨s3,J2,e2,⟨mp2,n2,hF3,hM3,hn3⟩,rfl⟩:_;right
  rfl'
  exact q1 J1 J2 mp2 n2 H3 e1 e2 (s12.trans s3) hF3 hM3 hn3
def kG(K:pB)(CH:pC):Sp:=λvs H Q _=>∃(y o q:pC) (ps:List zm),vs=[.ref y]/\Jd K CH H y o q ps/\∀(r:pC) (H':Hp),Same H H'->LsA K H' r (ps.map dR)->H r=tH->Q (.ref r) H'
theorem wY:sQz 1 ["self"] yy:=by nofun
theorem wX{f CH:pC}(B:Bt mg)(TS:zcb K mg CH)(F:Fun K "rules_told" "System.rules_told" yy f fd) :(1&&&["self"]) (kG K CH):=by
 exists F.ok wY
 ·obtain⟨y,o,q,ps,rfl,hy,k⟩:=h;refine#[_,(zh (zr (xT xB rfl B.list PySem.Pv.boot_list (za (Xr (pv 0) rfl) ze)))),?_];have s16:=yb
  rfl'
  obtain⟨dx,xs,h1,h2,h3⟩:=hy;exact#[_,_,_,h1,TS.cl,TS.nr,_,rfl,_,rfl,_,.inl (SqL.of h2),λr hr'=>k r _ (zd hr') #[xs,zc,Iss.same (zd hr') _ _ h3] hr']
noncomputable def goJ(ps:List zm)(m:Nat)(v:()):Option Nat:=(aW (m+1)).find? λj=>(zB (wAt ps v j) ps).isNone
theorem Xy{m:Nat}{v:()}{i:Nat}(e:goJ ps m v=tG i):i<=m/\YK ps v i/\zB (wAt ps v i) ps=tH:=by
 unfold goJ at e;have h1:=dv e;have h2:zB (wAt ps v i) ps=tH:=Option.isNone_iff_eq_none.mp h1;have hm:=tT.mp (dz e);refine#[⋯,λn hn hno=>?_,h2];obtain⟨_,as,bs,e2,h3⟩:=List.find?_eq_some_iff_append.mp e
 have hlen:as.length=i:=by
  have:=congrArg (λl=>l[as.length]?) e2
  erw[cF (al _),Nat.sub_self,cM]at this
  obtain⟨h7,h8⟩:=tN.mp this;rw[gc]at h8;exact h8
 have h9:(aW (m+1))[n]? = as[n]?:=by rw[e2,dk ⋯]
 have h10:n<(aW (m+1)).length:=by rw[dL];lia
 rw[ag h10,gc]at h9;have:=h3 n (ae h9.symm);rw[hno]at this;cases this
theorem Xt{m:Nat}{v:()}(e:goJ ps m v=tH):∀j,j<=m->zB (wAt ps v j) ps≠tH:=λj hj hno=>by
 unfold goJ at e;have:=Am.mp e j (tT.mpr ⋯);rw[hno]at this;exact this rfl
theorem UX{m:Nat}{v:()}(hl:∀j,j<=m->(wAt ps v j).length<=10000)(hm:m<=10000):zbg ps (m:Int) v (goJ ps m v):=by
 cases e:goJ ps m v with
 | some i =>
  obtain⟨h1,h2,h3⟩:=Xy e;exact .yes #[h2,λj hj=>hl j ⋯,⋯] h3 ⋯
 | none =>
  have h:=Xt e;exact .no (J:=m) #[λi hi=>h i ⋯,λj hj=>hl j hj,hm] (h m (al _)) rfl
noncomputable def zc9(ps:List zm)(m:Nat)(v:()):():=wAt ps v ((goJ ps m v).getD 0)
noncomputable def QW(ps:List zm)(m:Nat)(t:N3):Bool:=decide (zc9 ps m (pkA ps t)=zc9 ps m (pkB ps t))
def OkG(ps:List zm)(m:Nat)(t:N3):Prop:=(goJ ps m (pkA ps t)).isSome=tI/\(goJ ps m (pkB ps t)).isSome=tI
def zeH(ps:List zm)(m:Nat):Prop:=m<=10000/\∀t ∈ ovA ps ps.length,(∀j,j<=m->(wAt ps (pkA ps t) j).length<=10000)/\∀j,j<=m->(wAt ps (pkB ps t) j).length<=10000
theorem K7{t:N3}{m J1 J2:Nat}(e1:goJ ps m (pkA ps t)=tG J1)(e2:goJ ps m (pkB ps t)=tG J2):decide (wAt ps (pkA ps t) J1=wAt ps (pkB ps t) J2)=QW ps m t:=by
 unfold QW zc9;rw[e1,e2];rfl
theorem zbt{m:Nat}{t:N3}(h:goJ ps m (pkA ps t)=tH\/goJ ps m (pkB ps t)=tH):¬ OkG ps m t:=λho=>by
 obtain⟨h1,h2⟩:=ho;rcases h with h | h
 ·rw[h]at h1;cases h1
 ·rw[h]at h2;cases h2
theorem FmOk.nil{m:Int}:FmOk ps m λ_=>tH:=λk v e=>by cases e
theorem ZX{F:pC}{H H':Hp}{P:pH}{w:pK}{mp:pJ->Option V}{n:Nat}(s:SamT F H H')(hF:H F=tG (qZ P w F mp n)):∀{ts:List N3} {vs:List V},Iss K H (ts.map d3) vs->Iss K H' (ts.map d3) vs
 | [],vs,h=>by erw[aJ,Iss]at h ⊢;exact h
 | t::ts,vs,h=>by
  erw[ar,Iss]at h ⊢
  obtain⟨v,r,e,h3,h4⟩:=h;refine#[v,r,e,?_,ZX s hF h4]
  erw[d3,Is]at h3 ⊢
  obtain⟨a,xs,e1,e2,e3⟩:=h3;refine#[a,xs,e1,qH s hF e2,?_]
  erw[Iss,Is]at e3 ⊢
  exact e3
noncomputable def unG(ps:List zm)(m:Nat):List N3:=(ovA ps ps.length).filter λt=>!QW ps m t
def vK(K:pB)(CH CF:pC):Sp:=λvs H Q E=>∃(y o q:pC) (ps:List zm) (m:Nat),vs=[.ref y,.int (m:Nat)]/\Jd K CH H y o q ps/\NeL ps/\kA ps/\(ovA ps ps.length).length<=4000/\zeH ps m /\
 ((∀t ∈ ovA ps ps.length,OkG ps m t)->∀D H',Same H H'->H D=tH->LsA K H' D ((unG ps m).map d3)->Q (.ref D) H')/\(∀t ∈ ovA ps ps.length,¬ OkG ps m t->∀H',Same H H'->E (.ref CF) tH H')
theorem nw:sQz 2 ["system","most","rules","forms"] xJ:=by nofun
theorem QK{f CF CH:pC}{dV:pD}(B:Bt mg)(TS:zcb K mg CH)(F:FunD K "unmet" "unmet" xJ dV f fd)(oH:(2<<<"overlaps") ["rules"] [] (vj K))(oP:(6>>>"is_met") ["rules","overlap","most","forms"] [] (kE P w K CF))(M_system_rules_told:DM P w K mg base CX0 1 CH "rules_told" ["self"] (kG K CH)):(7|||["system","most"]) (vK K CH CF):=by
 exists FunD.okX F nw,0
 ·obtain⟨y,o,q,ps,m,rfl,hy,hN,hok,hlen,hE,k1,k2⟩:=h
  refine#[_,(zi (qK (i:=2) nw.nd rfl (Or.inr rfl) (me0 M_system_rules_told TS.cl hr (pv 0)))
   (zi (qK (i:=3) nw.nd rfl (Or.inr rfl) zaV)
   (zh (zr (ZF (EX:=E) (own:=["overlap"]) (caps:=["rules","most","forms"]) (ix:=[2,1,3]) (tt:=(zbn (tBl (vF (kE P w K CF) [] E (zH (zZ 1) (zH (zZ 0) (zH (zZ 2) (zH (zZ 3) xF)))))))) (te:=(zZ 0)) rfl (zJ (sc:=zg xJ) rfl (by symm) (by symm) (by symm) rfl (by symm) (by symm) rfl) #[rfl,rfl] hx (yh (cl0 oH hr .nil rfl (za (pv 2) ze))) (λ_ _ _ _ _ _=>zx (i:=0) (show List.Nodup [_,_,_,_] by decide) rfl (.inl rfl)) (λ_ _ _ _ _ _ _ hx'=>(Uy (yj (xy (clP hx' oP hr .nil rfl (za (pv 1) (za (pv 0) (za (pv 2) (za (pv 3) ze))))) (λ_=>rfl))))) (λ_ _ _ _ _ _ _ _=>(pv 0))))))),?_]
  have s16:=yb;have s16:=yb;obtain⟨dx,xs0,h1,h2,h3⟩:=id hy;refine zj (λσ H'=>Same H H'/\∃r:pC,LsA K H' r (ps.map dR)/\σ=[!!y,-~~~m,!!r,tH]) ?_ ?_
  ·rfl'
   exact#[_,_,h1,rfl,y,o,q,ps,rfl,hy,λr H1 s1 hA hr'=>#[s1,r,hA,rfl]]
  rintro σ H1 ⟨s1,r,hA,rfl⟩:_;right;refine zj (λσ H'=>Same H H'/\LsA K H' r (ps.map dR)/\∃F:pC,H F=tH/\H' F=tG (qZ P w F (λ_=>tH) 0)/\σ=[!!y,-~~~m,!!r,!!F]) ?_ ?_
  ·rfl'
   erw[zcn]
   intro F hF;have s2:=zd (o:=qZ P w F (λ_=>tH) 0) hF
   rfl'
   exact#[s1.trans s2,hA.same s2,F,s1.free hF,zc,rfl]
  rintro σ H2 ⟨s2,hA2,F,hF0,hF,rfl⟩:_;right
  rfl'
  refine ZM hA2.is hok λO H3 hO s3 hL=>#[O,rfl,?_,λD hD=>?_]
  ·obtain⟨xs,hX,_⟩:=hL;exact#[_,SqL.of hX]
  obtain⟨xs,hX,hI⟩:=hL;have hxl:=hI.len;rw[aa]at hxl;have hF3:=s3 _ _ hF;have s03:=s2.trans s3;have hDF:D≠F:=λz=>by rw[z,hF3]at hD;cases hD
  have hOF:O≠F:=λz=>by rw[z,hF3]at hX;cases hX
  have back:∀{G:Hp},SamT F H3 G->Same H G:=λ{G} sT b o' e=>sT b o' (λz=>by rw[z,hF0]at e;cases e) (s03 b o' e);refine CompL.by (xs:=xs) (λi tM H'=>SamT F H3 H'/\H' D=tG (.lst tM)/\(∃(mp:pJ->Option V) (n:Nat),H' F=tG (qZ P w F mp n)/\FmOk ps (m:Nat) mp/\n<=2 * i)/\Iss K H3 ((((ovA ps ps.length).take i).filter λt=>!QW ps m t).map d3) tM/\∀t ∈ (ovA ps ps.length).take i,OkG ps m t) #[SamT.of (zd hD),zc,#[_,0,by rw[zk (λz=>hDF z.symm)];exact hF3,FmOk.nil,⋯],by erw[bI,dw,aJ,Iss],λt ht=>by simp at ht] (λi tM H' _ h=>SqL.of (h.1 _ _ hOF hX)) ?_ ?_
  ·refine nm4 ?_;rintro i x tM H' hx ⟨sT,hH,⟨mp,n,hFm,hM,hn⟩,hI',hle⟩:_;have hil:=(tN.mp hx).1;obtain⟨t,p,ht,rfl,hp⟩:=hI.get3 hx;have htm:=ae ht;have hE':=hE.2 t htm
   have hal:tM.length<=i:=by
    have:=hI'.len;rw[aa]at this;have h5:=cE (λt=>!QW ps m t) ((ovA ps ps.length).take i);rw[aF]at h5;lia
   right
   erw[zbn,tBl]
   rfl'
   refine#[yM,r,p,F,ps,t,(m:Nat),n,mp,_,_,rfl,XF sT hF3 (hA2.same s3),hN,hok,qH sT hF3 hp,htm,hFm,hM,⋯,UX hE'.1 hE.1,UX hE'.2 hE.1,λJ1 J2 mp' n' H5 e1 e2 s5 hF5 hM5 hn5=>?_,λh H5 s5=>k2 t htm (zbt h) H5 (back (sT.trans s5))]
   have hle':∀t' ∈ (ovA ps ps.length).take (i+1),OkG ps m t':=λt' ht'=>by
    rw[zL ht]at ht';rcases tQ.mp ht' with h | h
    ·exact hle t' h
    ·rw[tR.mp h];exact#[by rw[e1];rfl,by rw[e2];rfl]
   rw[K7 e1 e2]
   have hcase:∀b,QW ps m t=b->(!b)=tI->Iss K H3 ((((ovA ps ps.length).take (i+1)).filter λt=>!QW ps m t).map d3) (tM ++ [.ref p]):=λb hb hb'=>by
    rw[zL ht,bu,aq];refine Iss.append hI' ?_;rw[fh,hb,if_pos hb']
    erw[dw,ar,aJ,Iss]
    refine#[_,[],rfl,?_,rfl]
    erw[d3,Is,Iss]
    exact#[p,_,rfl,hp,_,_,rfl,rfl,_,_,rfl,rfl,_,_,rfl,rfl,rfl]
   refine#[_,rfl,?_]
   cases hb:QW ps m t with
   | false =>
    rw[if_pos rfl];refine#[s5 _ _ hDF hH,⋯,CNx.mk hil #[λb o' hbF e=>?_,zc,#[mp',n',by rw[zk (λz=>hDF z.symm)];exact hF5,hM5,⋯],hcase _ hb rfl,hle']];rw[zk (λz=>by rw[z,hD]at e;cases e)];exact s5 b o' hbF (sT b o' hbF e)
   | true =>
    rw[if_neg ∅];refine CNx.mk hil #[sT.trans s5,s5 _ _ hDF hH,#[mp',n',hF5,hM5,⋯],?_,hle'];rw[zL ht,bu,fh,hb]
    erw[eJ,bE,if_false,dw,aE]
    exact hI'
  ·rintro tM H' ⟨sT,hH,_,hI',hle⟩;rw[hxl,aK]at hI' hle;exact k1 hle D H' (back sT) (s03.free hD) #[tM,hH,ZX sT hF3 hI']
theorem K3{p:pC}{a b:V}{i j:Nat}{σ:L2.St}{R:L2.St->Hp->Prop}(h:SqT K H p [a,b])(k:R ((σ.set i (tG a)).set j (tG b)) H):KI K 2 (jc (yR i) (jc (yR j) zaP)) (.ref p) σ H R:=by
 erw[KI,jc,yR,zaP]
 first
 | exact⟨_,_,rfl,h,rfl,_,_,rfl,_,_,rfl,rfl,k⟩
 | exact⟨_,_,rfl,.inr h,rfl,_,_,rfl,_,_,rfl,rfl,k⟩
theorem EnsA.app{fs:List Ent}{us:List V}(hf:EnsA K H fs us):∀{es:List Ent} {vs:List V},EnsA K H es vs->EnsA K H (es ++ fs) (vs ++ us)
 | [],vs,h=>by
  erw[EnsA]at h
  subst h;exact hf
 | e::es,vs,h=>by
  erw[EnsA]at h
  obtain⟨x,r,rfl,hx,hr⟩:=h
  erw[aV,EnsA]
  exact#[x,r ++ us,rfl,hx,hf.app hr]
abbrev MkS(P:pH)(w:pK)(K:pB)(mg:pJ->Option pD)(base:pN)(CO CR CW CT CH:pC):Prop:=DMk P w K mg base (CXx P w) 5 CH ["self","order","rules"] (uR K CO CR CW CT CH)
theorem Ky{Q:pC->Hp->Prop}{CO CR CW CT CH o a:pC}{l:()}(ho:OrdAt CO CR CW H o k l ns)(hG:OG l ns k)(hA:LsA K H a (ps.map dR))(hin:InL l ps)(hf:wE k l ns ps 0=tH)(q:∀(y qa:pC) (H':Hp),Same H H'->Jd K CH H' y o qa ps->Q y H'):∀x dx,H x=tH->H dx=tH->dx≠x->uR K CO CR CW CT CH [.ref x,.ref o,.ref a] (upd (upd H dx (.own x)) x (.ins CH dx [])) (λv H'=>v=.non/\Q x H') E0:=by
 intro x dx hx hdx hne;obtain⟨xs,hX,hI⟩:=hA;have sd:=zd (o:=.own x) hdx
 have k1:Same H (upd (upd H dx (.own x)) x (.ins CH dx [])):=λb' o' e=>by
  rw[zk (zD e hx)];exact sd _ _ e
 refine#[x,dx,o,a,k,l,ns,ps,xs,rfl,zc,ho.same k1,hG,k1 _ _ hX,Iss.same k1 _ _ hI,hin,(λi e=>by rw[hf]at e;cases e),λ_ q1 H'' kp hx' hq' hqn=>#[rfl,?_]];have k3:Same H H'':=λb' o' e=>kp b' o' (λz=>by rw[z,hx]at e;cases e) (k1 _ _ e);exact q x q1 H'' k3 #[dx,xs,hx',hq',Iss.same k3 _ _ hI]
theorem BG.inL{l:()}(h:BG k l ns bs):InL l (zb bs):=λp hp=>by
 obtain⟨e,he,rfl⟩:=tO.mp hp;have b:=h.e e he;exact#[aP b.a ∅,aP b.b ∅,b.ma,b.mb]
theorem BG.fault{l:()}(h:BG k l ns bs):wE k l ns (zb bs) 0=tH:=ug λm p e=>by
 obtain⟨e',he,rfl⟩:=tO.mp (ae e);exact h.lt e' he
def X2(K:pB)(CO CR CW CH:pC):Sp:=λvs H Q _=>∃(o a:pC) (k:Nat) (l:()) (ns:List Int) (bs:List Ent),vs=[.ref o,.ref a]/\OrdAt CO CR CW H o k l ns/\OG l ns k/\EnsL K H a bs/\BG k l ns bs/\∀(y qa:pC) (H':Hp),Same H H'->Jd K CH H' y o qa (zb bs)->Q (.ref y) H'
theorem Zg:sQz 2 ["order","entries"] va:=by nofun
theorem ZV{f CO CR CW CT CH:pC}(B:Bt mg)(TS:zcb K mg CH)(MS:MkS P w K mg base CO CR CW CT CH)(F:("system_by"^^^va))(gK:(1<<<"pairs_of") ["entries"] [] (wT K)):(7&&&["order","entries"]) (X2 K CO CR CW CH):=by
 exists F.ok Zg
 ·obtain⟨o,a,k,l,ns,bs,rfl,ho,hG,hA,hB,q⟩:=h;refine#[_,(zh (zr (zeI xe0 MS hr rfl TS.g (za (pv 0) (za (cl0 gK hr .nil rfl (za (pv 1) ze)) ze))))),?_];have s16:=yb;ac_rfl;refine wG hA.is (by have:=hB.n;lia) λD H' _ s' hL=>?_;exact Ky (ho.same s') hG hL hB.inL hB.fault λy qa H'' s'' hy=>q y qa H'' (s'.trans s'') hy
noncomputable def fE(i:Nat)(p:zm):Ent:=(p.1,p.2,[((i:Int),(0:Int),tI)])
noncomputable def fEs(rs:List zm):Nat->List Ent
 | 0=>[]
 | n+1=>fEs rs n ++ ((rs[n]?).map (fE n)).toList
theorem Jm{n:Nat}(h:rs[n]? = tG p):fEs rs (n+1)=fEs rs n ++ [fE n p]:=by
 show fEs rs n ++ ((rs[n]?).map (fE n)).toList=_;rw[h];rfl
theorem U2(rs:List zm):∀n,(fEs rs n).length<=n
 | 0=>al _
 | n+1=>by
  have:=U2 rs n;show (fEs rs n ++ ((rs[n]?).map (fE n)).toList).length<=_;rw[ah]
  cases rs[n]? with
  | none=>simp;lia
  | some p=>simp;lia
theorem qV:∀{n:Nat} {e:Ent},e ∈ fEs rs n->∃i p,i<n/\rs[i]? = tG p/\e=fE i p
 | 0,e,h=>(nomatch h)
 | n+1,e,h=>by
  have h':e ∈ fEs rs n ++ ((rs[n]?).map (fE n)).toList:=h;rcases tQ.mp h' with h | h
  ·obtain⟨i,p,hi,hp,he⟩:=qV h;exact#[i,p,⋯,hp,he]
  ·cases hn:rs[n]? with
   | none=>rw[hn]at h;simp at h
   | some p =>
    rw[hn]at h;exact#[n,p,⋯,hn,by simpa using h]
def X6(K:pB):Sp:=λvs H Q _=>∃(a:pC) (rs:List zm),vs=[.ref a]/\LsA K H a (rs.map dR)/\rs.length<=20/\∀(D:pC) (H':Hp),Same H H'->H D=tH->EnsM K H' D (fEs rs rs.length)->Q (.ref D) H'
theorem uM:sQz 1 ["pacts"] yI:=by nofun
theorem uF(B:Bt mg)(F:("first_entries"^^^yI)) :(1&&&["pacts"]) (X6 K):=by
 exists F.ok uM
 ·obtain⟨a,rs,rfl,hA,hrl,q⟩:=h;refine#[_,(zh (zr (yO (g:=KI K 2 (jc (yR 0) (jc (yR 1) zaP))) (own:=["number","pact"]) (caps:=[]) (ix:=[]) (tt:=xQ) (te:=(WL (zH (tOp (vM K) (zZ 1) (tC (.int 0))) (zH (tOp (vM K) (zZ 1) (tC (.int 1))) (zH (zb5 (zH (WL (zH (zZ 0) (zH (tC (.int 0)) (zH (tC (.bl tI)) xF)))) xF)) xF))))) rfl (zJ (sc:=zg yI) rfl (by symm) (by symm) (by symm) rfl (by symm) (by symm) rfl) (vN rfl B.enum (za (pv 0) ze)) (λ_ _ _ _ _ _=>uA (n:=2) rfl (zY (zx (i:=0) (show List.Nodup [_,_] by decide) rfl (.inl rfl)) (zY (zx (i:=1) (show List.Nodup [_,_] by decide) rfl (.inl rfl)) wy))) (λ_ _ _ _ _ _=>z7) (λ_ _ _ _ _ _=>(zO (za (zl ix_tup (pv 1) zf) (za (zl ix_tup (pv 1) zf) (za (xZ (za (zO (za (pv 0) (za zf (za xf ze)))) ze)) ze)))))))),?_];have s16:=yb;have s16:=yb;obtain⟨xs,hX,hI⟩:=id hA;have hxl:=hI.len;rw[aa]at hxl;ac_rfl;rw[zbx];ac_rfl;refine#[#[_,SqL.of hX],λD hD=>CompEL.by (xs:=xs) (λi tM H'=>Same H H'/\H' D=tG (.lst tM)/\tM.length<=i/\EnsA K (vS D H') (fEs rs i) tM) #[zd hD,zc,al _,rfl] (λi tM H' _ h=>SqL.of (h.1 _ _ hX)) ?_ ?_]
  ·rintro i x tM H' p hx ⟨hs,hH,hal,hEn⟩ hp;have hil:=(tN.mp hx).1;obtain⟨r,pr,hri,rfl,hqr⟩:=hI.getR hx;have u1:=zd (o:=HO.tup [.int (i:Nat),.ref pr]) hp;have hq:=zp (hs.trans u1) hqr;refine K3 (SqT.of zc) ?_
   erw[xQ]
   rfl'
   refine#[JU,_,hq,_,rfl,_,hq,_,rfl,⋯,λp1 hp1=>#[⋯,λp2 hp2=>#[⋯,λp3 hp3=>?_]]];have u2:=zd (o:=HO.tup [.int (i:Nat),.int 0,.bl tI]) hp1;have u3:=zd (o:=HO.lst [.ref p1]) hp2;have u4:=zd (o:=HO.tup [.str (tx r.1),.str (tx r.2),.ref p2]) hp3;have u:=u1.trans (u2.trans (u3.trans u4));have hD4:=u _ _ hH;have hp2D:p2≠D:=λz=>by rw[z,u2 _ _ (u1 _ _ hH)]at hp2;cases hp2
   refine#[hD4,⋯,CNx.mk hil #[zw (hs.trans u) hD,zc,by rw[ah];erw[aD,bj];lia,?_]];rw[Jm hri];refine (hEn.same ((yL u).trans xC)).snoc (EnA.same ?_ xC);refine EnA.new (e:=fE i r) hD4 zc #[_,u4 _ _ zc,?_] hp2D;show Iss K _ [dSt ((i:Int),(0:Int),tI)] _;exact za8 (Xh (SqT.of (u4 _ _ (u3 _ _ zc))))
  ·rintro tM H' ⟨hs,hH,hal,hEn⟩;rw[hxl]at hEn;exact q D H' hs hD #[tM,hH,hEn.same xx]
noncomputable def qT(es:List Ent):Bool:=decide (12<es.length) || es.any λe=>decide (10<max e.1.length e.2.1.length)
structure TMc(mg:pJ->Option pD):Prop where
 u:∃t,mg "MOST_USES_completing" = tG (.int 40 t)
 e:∃t,mg "MOST_ENTRIES" = tG (.int 12 t)
 d:∃t,mg "MOST_SIDE_completing" = tG (.int 10 t)
 p:∃t,mg "MOST_PEAKS" = tG (.int 8 t)
def Z5(K:pB):Sp:=λvs H Q _=>∃(a:pC) (es:List Ent),vs=[.ref a]/\EnsL K H a es/\es.length<64/\(∀e ∈ es,e.1.length<=10000/\e.2.1.length<=10000)/\∀H',Same H H'->Q (.bl (qT es)) H'
theorem ZY:sQz 1 ["entries"] wa:=by nofun
theorem Z2(B:Bt mg)(hany:ze0 mg)(TM:TMc mg)(F:("is_beyond"^^^wa)) :(1&&&["entries"]) (Z5 K):=by
 obtain⟨⟨t9,g9⟩,⟨t8,g8⟩⟩:=And.intro TM.e TM.d
 exists F.ok ZY
 ·obtain⟨a,es,rfl,hA,hl,hE,q⟩:=h
  refine#[_,(zi (zP (zA UI (zK B.len (pv 0)) (yQ (v:=.int 12) rfl g9 #[t9,rfl]) (zE _))
    (zh (zr xf))
    zy)
   (zh (zr (xg (zeb rfl) rfl hany PyProof.Rows.boot_any (za (yO (own:=["entry"]) (caps:=[]) (ix:=[]) (tt:=xQ) (te:=(tOp zdf (tCB Je (zH (tCB (Ut K) (zH (tOp (vM K) (zZ 0) (tC (.int 0))) xF)) (zH (tCB (Ut K) (zH (tOp (vM K) (zZ 0) (tC (.int 1))) xF)) xF))) (tC (.int 10)))) rfl (zJ (sc:=zg wa) rfl (by symm) (by symm) (by symm) rfl (by symm) (by symm) rfl) (yh (pv 0)) (λ_ _ _ _ _ _=>zx (i:=0) (show List.Nodup [_] by decide) rfl (.inl rfl)) (λ_ _ _ _ _ _=>z7) (λ_ _ _ _ _ _=>(uc UI (xg (WX rfl) rfl B.max uW (za (zK B.len (zl ix_tup (pv 0) zf)) (za (zK B.len (zl ix_tup (pv 0) zf)) ze))) (yQ (v:=.int 10) rfl g8 #[t8,rfl]) (zE _)))) ze))))),?_]
  have s16:=yb;have s16:=yb;obtain⟨xs,hX,hEn⟩:=id hA;have hxl:=hEn.len;refine zj (λσ H'=>H'=H/\¬ 12<es.length/\σ=[!!a]) ?_ ?_
  ·ac_rfl;refine#[_,.inl #[_,hX,rfl],yA (λh=>?_) λh=>by lia]
   have e:qT es=tI:=by
    unfold qT;rw[decide_eq_true ⋯,Bool.true_or]
   rw[<- e];exact q H (Same.refl _)
  rintro σ H1 ⟨rfl,h12,rfl⟩:_;right;ac_rfl;refine#[#[_,hX],λD hD=>CompL.by (xs:=xs) (λi tM H'=>Same H1 H'/\H' D=tG (.lst tM)/\tM=((es.take i).map λe=>decide (10<max e.1.length e.2.1.length)).map V.bl) #[zd hD,zc,rfl] (λi tM H' _ h=>h.1.seq hX) ?_ ?_]
  ·refine nm4 ?_;rintro i x tM H' hx ⟨hs,hH,rfl⟩:_;have hil:=(tN.mp hx).1;obtain⟨e,p,s,he,rfl,hp,_⟩:=hEn.get hx;have hq:=zp hs hp;have hb:=hE e (ae he);right
   erw[xQ]
   rfl'
   refine#[yM,_,hq,_,rfl,_,#[by rw[zV];lia,rfl],_,hq,_,rfl,_,#[by rw[zV];lia,rfl],hH,by rw[aa,aa,aF];lia,CNx.mk hil #[zw hs hD,zc,?_]];rw[zL he,aq,aq,zV,zV];congr 1;show [V.bl _]=[V.bl _];congr 2;refine decide_eq_decide.mpr ?_;split <;> lia
  ·rintro tM H' ⟨hs,hH,rfl⟩;rw[hxl,aK]at hH;refine#[D,_,rfl,SqL.of hH,?_]
   have e:(es.map λe=>decide (10<max e.1.length e.2.1.length)).any id=qT es:=by
    unfold qT;rw[decide_eq_false h12,Bool.false_or,List.any_map];rfl
   rw[e];exact q H' hs
theorem Ye(h:qT es=tJ):es.length<=12/\∀e ∈ es,e.1.length<=10/\e.2.1.length<=10:=by
 unfold qT at h;rw[Bool.or_eq_false_iff]at h;refine#[by have:=of_decide_eq_false h.1;lia,λe he=>?_];have:=List.any_eq_false.mp h.2 e he;have h2:¬ 10<max e.1.length e.2.1.length:=λz=>this (decide_eq_true z);lia
def Ko(K:pB)(CO CR CW T:pC):Sp:=λvs H Q _=>∃(o a:pC) (k:Nat) (l:()) (ns:List Int) (es:List Ent),vs=[.ref o,.ref a]/\OrdAt CO CR CW H o k l ns/\OG l ns k/\EnsL K H a es/\es.length<64/\(∀e ∈ es,EB l e)/\TabOk H T lp lq /\
 (∀(bs:List Ent) (D:pC) (H':Hp),vT k l ns 20 es (tG bs)->BG k l ns bs->qT bs=tJ->SamT T H H'->TabOk H' T lp lq->EnsN K H H' D bs->Q (.ref D) H')/\((vT k l ns 20 es tH\/∃bs,vT k l ns 20 es (tG bs)/\qT bs=tI)->∀H',SamT T H H'->TabOk H' T lp lq->Q .non H')
structure zey(K:pB)(CF:pC):Prop where
 s:df K (.ref CF) (.ref CF)=tG tI
theorem lD:sQz 2 ["order","entries","slim"] yX:=by nofun
theorem vV{f CO CR CW TB CF:pC}(B:Bt mg)(TFx:zbk K mg CF)(TSb:zey K CF)(F:("thinned_within"^^^yX))(oK:(7>>>"thinned") ["order","entries"] [] (UO K CO CR CW TB CF))(oy:(1<<<"is_beyond") ["entries"] [] (Z5 K)):(8&&&["order","entries"]) (Ko K CO CR CW TB):=by
 exists F.ok lD
 ·obtain⟨o,a,k,l,ns,es,rfl,ho,hG,hA,hz,hE,hTab,q1,q2⟩:=h
  refine#[_,(zi (Qk (i:=2) (th:=(zbm (tC .non))) lD.nd rfl (.inl rfl) (.inl rfl) #[rfl,rfl] (clX oK hr .nil rfl (za (pv 0) (za (pv 1) ze))) rfl TFx.g TFx.xi.ok (λe=>(zh (zr xV))))
   (zh (zr (jQ (xy (cl0 oy hr .nil rfl (za (pv 2) ze)) (λ_=>rfl)) xV (pv 2))))),?_]
  have s16:=yb;have s16:=yb;refine zj (λσ H'=>SamT TB H H'/\TabOk H' TB lp lq/\∃(bs:List Ent) (D:pC),vT k l ns 20 es (tG bs)/\BG k l ns bs/\EnsN K H H' D bs/\σ=[!!o,!!a,!!D]) ?_ ?_
  ·erw[Kb]
   ac_rfl;exact#[o,a,k,l,ns,es,rfl,ho,hG,hA,hz,hE,hTab,λbs D H' h1 h2 h3 h4 h5=>#[h3,h4,bs,h1,h2,D,h5,rfl],λh H' h3 h4=>#[CF,rfl,TSb.s,λx hx=>q2 (.inl h) _ (h3.trans (SamT.of (zd hx))) (h4.same (zd hx))]]
  rintro σ H1 ⟨s1,hT1,bs,D,hTh,hB,hM,rfl⟩:_;right;ac_rfl;exact#[D,bs,rfl,hM.m.l,hB.n,λe he=>#[aP (hB.e e he).a ∅,aP (hB.e e he).b ∅],λH' s'=>#[_,rfl,yA (λh=>q2 (.inr #[bs,hTh,h]) H' (s1.trans (SamT.of s')) (hT1.same s')) λh=>q1 bs D H' hTh hB (by simpa using h) (s1.trans (SamT.of s')) (hT1.same s') (hM.same s')]]
theorem uU(w:())(k:Int)(o n:()):(yK w k o n).length<=w.length+n.length:=by
 unfold yK;rw[ah,ah,aF,bi];lia
theorem BG.ok{l:()}(h:BG k l ns bs)(hl:bs.length<=30):kA (zb bs):=by
 refine#[by unfold zb;rw[aa];exact hl,λr hr=>?_];obtain⟨e,he,rfl⟩:=tO.mp hr;exact#[aP (h.e e he).a ∅,aP (h.e e he).b ∅]
theorem zcH(hok:∀r ∈ ps,r.1.length<=60/\r.2.length<=60){t:N3}(ht:t ∈ ovA ps ps.length):(pkA ps t).length<=180/\(pkB ps t).length<=180:=by
 obtain⟨i1,i2,i3,i4⟩:=um ht;obtain⟨r,hr⟩:∃r,ps[t.1]? = tG r:=#[_,ag i1];obtain⟨r2,hr2⟩:∃r,ps[t.2.1]? = tG r:=#[_,ag i2];have l1:=wV hr;have l2:=wV hr2;have d1:ps.getD t.1 ([],[])=r:=by rw[af,hr];rfl
 have d2:ps.getD t.2.1 ([],[])=r2:=by rw[af,hr2];rfl
 rw[l1]at i3;have b1:=hok r (ae hr);have b2:=hok r2 (ae hr2);have hp:=wN r.1 r2.1 t.2.2 ⋯;have p1:=uU (yg r.1 r2.1 t.2.2) 0 r.1 r.2;have p2:=uU (yg r.1 r2.1 t.2.2) (t.2.2:Nat) r2.1 r2.2;unfold pkA pkB;rw[l1,l2,d1,d2];lia
theorem zbF(hN:NeL ps)(hok:∀r ∈ ps,r.1.length<=60/\r.2.length<=60):zeH ps 40:=by
 refine#[∅,λt ht=>?_];obtain⟨h1,h2⟩:=zcH hok ht
 have key:∀(v:()),v.length<=180->∀j,j<=40->(wAt ps v j).length<=10000:=λv hv j hj=>by
  have:=qw (l:=v) hN (λp hp=>(hok p hp).2) j;have h3:j * 60<=40 * 60:=Nat.mul_le_mul hj (al _);lia
 exact#[key _ h1,key _ h2]
def Kg(K:pB)(CO CR CW:pC):Sp:=λvs H Q _=>∃(o a:pC) (k:Nat) (l:()) (ns:List Int) (bs:List Ent),vs=[.ref o,.ref a]/\OrdAt CO CR CW H o k l ns/\OG l ns k/\EnsL K H a bs/\BG k l ns bs/\bs.length<=30/\(ovA (zb bs) (zb bs).length).length<=4000 /\
 ((∀t ∈ ovA (zb bs) (zb bs).length,OkG (zb bs) 40 t)->∀D H',Same H H'->LsA K H' D ((unG (zb bs) 40).map d3)->Q (.ref D) H')/\(∀t ∈ ovA (zb bs) (zb bs).length,¬ OkG (zb bs) 40 t->∀H',Same H H'->Q .non H')
theorem qu:sQz 2 ["order","entries"] xH:=by nofun
theorem qE{f CO CR CW CF CH:pC}{mq:si}(B:Bt mg)(TFx:zbk K mg CF)(TSb:zey K CF)(TM:TMc mg)(F:("unmet_within"^^^xH))(oV:(7>>>"unmet") ["system","most"] [] (vK K CH CF))(DD_unmet:(7>>>"unmet") ["system","most"] [.int 4000 mq] (vK K CH CF))(oz:(7<<<"system_by") ["order","entries"] [] (X2 K CO CR CW CH)):(9&&&["order","entries"]) (Kg K CO CR CW):=by
 obtain⟨t9,g9⟩:=TM.u
 exists F.ok qu
 ·obtain⟨o,a,k,l,ns,bs,rfl,ho,hG,hA,hB,hbl,hol,q1,q2⟩:=h;refine#[_,(zh (Jn (th:=(zbm (tC .non))) #[rfl,rfl] (clX oV hr .nil rfl (za (cl0 oz hr .nil rfl (za (pv 0) (za (pv 1) ze))) (za (yQ (v:=.int 40) rfl g9 #[t9,rfl]) ze))) rfl TFx.g TFx.xi.ok (λe=>(zh (zr xV))))),?_];have s16:=yb;have s16:=yb
  erw[Km]
  ac_rfl
  have hsd:∀r ∈ zb bs,r.1.length<=60/\r.2.length<=60:=λr hr=>by
   obtain⟨e,he,rfl⟩:=tO.mp hr;exact#[(hB.e e he).a,(hB.e e he).b]
  exact#[o,a,k,l,ns,bs,rfl,ho,hG,hA,hB,λy qa H' s' hy=>#[y,o,qa,zb bs,40,rfl,hy,hB.ne hG,hB.ok hbl,hol,zbF (hB.ne hG) hsd,λh D H'' s'' _ hL=>q1 h D H'' (s'.trans s'') hL,λt ht h H'' s''=>#[CF,rfl,TSb.s,λx hx=>q2 t ht h _ (s'.trans (s''.trans (zd hx)))]]]
noncomputable def jf(es:List Ent)(t:N3):Ent:=(pkA (zb es) t,pkB (zb es) t,byL es [((t.1:Int),(0:Int),tJ),((t.2.1:Int),(t.2.2:Int),tI)])
def j9(K:pB):Sp:=λvs H Q _=>∃(a t:pC) (es:List Ent) (tr:N3),vs=[.ref a,.ref t]/\EnsL K H a es/\SqT K H t [.int (tr.1:Nat),.int (tr.2.1:Nat),.int (tr.2.2:Nat)]/\tr ∈ ovA (zb es) (zb es).length/\kA (zb es)/\(∀e ∈ es,e.2.2.length<=600)/\∀(p s:pC) (H':Hp),Same H H'->H' p=tG (.tup [.str (tx (jf es tr).1),.str (tx (jf es tr).2.1),.ref s])->LsA K H' s ((jf es tr).2.2.map dSt)->H s=tH->Q (.ref p) H'
theorem mh:sQz 2 ["entries","overlap","sides","steps"] v8:=by nofun
theorem Yz(B:Bt mg)(F:("entry_of"^^^v8))(oo:(4<<<"peak") ["rules","overlap"] [] (km K))(lE:(2<<<"by_pacts") ["entries","steps"] [] (Jb K))(gK:(1<<<"pairs_of") ["entries"] [] (wT K)):(5&&&["entries","overlap"]) (j9 K):=by
 exists F.ok mh
 ·obtain⟨a,t,es,tr,rfl,hA,ht,htr,hok,hst,q⟩:=h
  refine#[_,(zi (zF 2 mh.nd (cl0 oo hr .nil rfl (za (cl0 gK hr .nil rfl (za (pv 0) ze)) (za (pv 1) ze))))
   (zi (zF 3 mh.nd (cl0 lE hr .nil rfl (za (pv 0) (za (xZ (za (zO (za (zl ix_tup (pv 1) zf) (za zf (za xf ze)))) (za (zO (za (zl ix_tup (pv 1) zf) (za (zl ix_tup (pv 1) zf) (za xf ze)))) ze))) ze))))
   (zh (zr (zO (za (zl ix_tup (pv 2) zf) (za (zl ix_tup (pv 2) zf) (za (pv 3) ze)))))))),?_]
  have s16:=yb;have s16:=yb;have hlp:(zb es).length=es.length:=by unfold zb;rw[aa]
  obtain⟨i1,i2,i3,i4⟩:=um htr;obtain⟨r,hr1⟩:∃r,(zb es)[tr.1]? = tG r:=#[_,ag i1];obtain⟨r2,hr2⟩:∃r,(zb es)[tr.2.1]? = tG r:=#[_,ag i2];have l1:=wV hr1;have l2:=wV hr2;have d1:(zb es).getD tr.1 ([],[])=r:=by rw[af,hr1];rfl
  have d2:(zb es).getD tr.2.1 ([],[])=r2:=by rw[af,hr2];rfl
  have eA:pkA (zb es) tr=yK (yg r.1 r2.1 tr.2.2) 0 r.1 r.2:=by unfold pkA;rw[l1,l2,d1]
  have eB:pkB (zb es) tr=yK (yg r.1 r2.1 tr.2.2) (tr.2.2:Nat) r2.1 r2.2:=by unfold pkB;rw[l1,l2,d2]
  rw[l1]at i3;rw[l1,l2]at i4;refine zj (λσ H'=>Same H H'/\∃p:pC,(∃x,H' p=tG (.tup [x,.str (tx (pkA (zb es) tr)),.str (tx (pkB (zb es) tr))]))/\σ=[!!a,!!t,!!p,tH]) ?_ ?_
  ·rfl'
   refine wG hA.is (by have:=hok.1;lia) λD H1 _ s1 hL=>?_;exact Xx hL.is (zp s1 ht) hok hr1 hr2 ⋯ i4 λp H' _ s' hp=>#[s1.trans s',p,#[_,by rw[eA,eB];exact hp],rfl]
  rintro σ H1 ⟨s1,p,⟨x,hp⟩,rfl⟩:_;right;refine zj (λσ H'=>Same H1 H'/\∃S:pC,H S=tH/\LsA K H' S ((jf es tr).2.2.map dSt)/\σ=[!!a,!!t,!!p,!!S]) ?_ ?_
  ·have ht1:=zp s1 ht
   rfl'
   refine#[_,ht1,_,rfl,⋯,λp1 hp1=>?_];have u1:=zd (o:=HO.tup [.int (tr.1:Nat),.int 0,.bl tJ]) hp1;refine#[_,zp u1 ht1,_,rfl,_,zp u1 ht1,_,rfl,⋯,λp2 hp2=>#[⋯,λp3 hp3=>?_]];have u2:=zd (o:=HO.tup [.int (tr.2.1:Nat),.int (tr.2.2:Nat),.bl tI]) hp2;have u3:=zd (o:=HO.lst [.ref p1,.ref p2]) hp3;have u:=u1.trans (u2.trans u3);refine Ux (us:=[((tr.1:Int),(0:Int),tJ),((tr.2.1:Int),(tr.2.2:Int),tI)]) (hA.same (s1.trans u)).is (LsA.is #[_,zc,?_]) (by simp) hst (λv hv=>?_) λD H' hDn s' hL=>#[u.trans s',D,(s1.trans u).free hDn,hL,rfl]
   ·erw[ar,aJ,Iss]
    exact#[_,_,rfl,Xh (SqT.of (u3 _ _ (u2 _ _ zc))),_,_,rfl,Xh (SqT.of (u3 _ _ zc)),rfl]
   ·erw[bx,bA,or_false]at hv
    rcases hv with rfl | rfl
    ·exact#[by simp,by show (tr.1:Int)<_;lia]
    ·exact#[by simp,by show (tr.2.1:Int)<_;lia]
  rintro σ H2 ⟨s2,S,hSn,hS,rfl⟩:_;right
  rfl'
  exact#[_,SqT.of (s2 _ _ hp),_,rfl,_,SqT.of (s2 _ _ hp),_,rfl,⋯,λp' hp'=>q p' S _ (s1.trans (s2.trans (zd hp'))) zc (hS.same (zd hp')) hSn]
theorem Jt{l:()}(h:¬ v0 e):¬ v0 (zW k l ns e):=by
 unfold zW;split
 ·exact h
 ·unfold v0 at h ⊢;rw[yZ];show ¬ (240<e.2.2.length\/60<e.2.1.length\/60<e.1.length);lia
theorem Wd{l:()}{bs es:List Ent}{r:Option (List Ent)}(h:y8 k l ns bs es r):(∀e ∈ bs,¬ v0 e)->∀fs,r=tG fs->∀e ∈ fs,¬ v0 e:=by
 induction h with
 | nil bs=>exact λh fs e=>by cases e;exact h
 | same _ _ _ _ ih=>exact ih
 | new _ _ _ h4 _ ih =>
  intro h;refine ih λe he=>?_;rcases tQ.mp he with he | he
  ·exact h e he
  ·rw[tR.mp he];exact Jt h4
 | far _ _ _ _=>exact λ_ fs e=>by cases e
 | stuck _=>exact λ_ fs e=>by cases e
theorem qU{k n:Nat}{l:()}{r:Option (List Ent)}(h:vT k l ns n es r):∀fs,r=tG fs->∀e ∈ fs,¬ v0 e:=by
 induction h with
 | out es=>exact λfs e=>by cases e
 | bad _ _=>exact λfs e=>by cases e
 | done _ h2 _=>exact λfs e=>by cases e;exact Wd h2 (λe he=>(nomatch he)) _ rfl
 | more _ _ _ _ ih=>exact ih
theorem WR{M:Nat}(h:∀e ∈ es,e.2.2.length<=M)(u:Stp):(Wr es u).length<=M:=by
 have hg:(es.getD u.1.toNat ([],[],[])).2.2.length<=M:=by
  rw[af]
  cases e:es[u.1.toNat]? with
  | none=>exact aG _
  | some x=>exact h x (ae e)
 unfold Wr;rw[X4];split
 ·exact hg
 ·rw[yZ];exact hg
inductive Cpl(k:Nat)(l:())(ns:List Int):Nat->List Ent->List Ent->Bool->List Ent->Prop where
 | out (kept fresh:List Ent):Cpl k l ns 0 kept fresh tJ kept
 | slim {n:Nat} {kept fresh:List Ent} (h:vT k l ns 20 fresh tH\/∃bs,vT k l ns 20 fresh (tG bs)/\qT bs=tI):Cpl k l ns (n+1) kept fresh tJ kept
 | far {n:Nat} {kept fresh bs:List Ent} {t:N3} (h:vT k l ns 20 fresh (tG bs)) (hb:qT bs=tJ) (ht:t ∈ ovA (zb bs) (zb bs).length) (ho:¬ OkG (zb bs) 40 t):Cpl k l ns (n+1) kept fresh tJ bs
 | whole {n:Nat} {kept fresh bs:List Ent} (h:vT k l ns 20 fresh (tG bs)) (hb:qT bs=tJ) (ho:∀t ∈ ovA (zb bs) (zb bs).length,OkG (zb bs) 40 t) (hu:unG (zb bs) 40=[]):Cpl k l ns (n+1) kept fresh tI bs
 | more {n:Nat} {kept fresh bs es:List Ent} {w:Bool} (h:vT k l ns 20 fresh (tG bs)) (hb:qT bs=tJ) (ho:∀t ∈ ovA (zb bs) (zb bs).length,OkG (zb bs) 40 t) (hu:unG (zb bs) 40≠[]) (r:Cpl k l ns n bs (bs ++ ((unG (zb bs) 40).take 8).map (jf bs)) w es):Cpl k l ns (n+1) kept fresh w es
theorem zca(hl:ps.length<=12)(h:∀r ∈ ps,r.1.length<=10):(ovA ps ps.length).length<=4000:=by
 have lfl:∀i,(lf ps i).length<=10:=λi=>by
  cases e:ps[i]? with
  | none=>unfold lf;rw[af,e];exact aG _
  | some r=>rw[wV e];exact h r (ae e)
 have oI:∀i m,(ovI ps i m).length<=m * 10:=λi m=>by
  induction m with
  | zero=>exact aG _
  | succ m ih =>
   rw[uQ,ah];have h1:=uS ps i m (lf ps i).length;have h2:=lfl i;lia
 have oA:∀m,(ovA ps m).length<=m * 120:=λm=>by
  induction m with
  | zero=>exact aG _
  | succ m ih =>
   rw[jV,ah];have h1:=oI m ps.length;lia
 have:=oA ps.length;lia
theorem zc3{l:()}(hin:∀r ∈ ps,(∀c ∈ r.1,c ∈ l)/\∀c ∈ r.2,c ∈ l)(h10:∀r ∈ ps,r.1.length<=10/\r.2.length<=10){t:N3}(ht:t ∈ ovA ps ps.length):((pkA ps t).length<=40/\∀c ∈ pkA ps t,c ∈ l)/\(pkB ps t).length<=40/\∀c ∈ pkB ps t,c ∈ l:=by
 obtain⟨i1,i2,i3,i4⟩:=um ht;obtain⟨r,hr⟩:∃r,ps[t.1]? = tG r:=#[_,ag i1];obtain⟨r2,hr2⟩:∃r,ps[t.2.1]? = tG r:=#[_,ag i2];have l1:=wV hr;have l2:=wV hr2;have d1:ps.getD t.1 ([],[])=r:=by rw[af,hr];rfl
 have d2:ps.getD t.2.1 ([],[])=r2:=by rw[af,hr2];rfl
 rw[l1]at i3;have b1:=h10 r (ae hr);have b2:=h10 r2 (ae hr2);have n1:=hin r (ae hr);have n2:=hin r2 (ae hr2);have hp:=wN r.1 r2.1 t.2.2 ⋯;have p1:=uU (yg r.1 r2.1 t.2.2) 0 r.1 r.2;have p2:=uU (yg r.1 r2.1 t.2.2) (t.2.2:Nat) r2.1 r2.2
 have hw:∀c ∈ yg r.1 r2.1 t.2.2,c ∈ l:=λc hc=>by
  unfold yg at hc;rcases tQ.mp hc with h | h
  ·exact n1.1 c h
  ·exact n2.1 c (de h)
 have put:∀(k:Int) (o n:()),(∀c ∈ n,c ∈ l)->∀c ∈ yK (yg r.1 r2.1 t.2.2) k o n,c ∈ l:=λk o n hn c hc=>by
  unfold yK at hc;rcases tQ.mp hc with hc | hc
  ·rcases tQ.mp hc with hc | hc
   ·exact hw c (bD hc)
   ·exact hn c hc
  ·exact hw c (de hc)
 unfold pkA pkB;rw[l1,l2,d1,d2];exact#[#[⋯,put _ _ _ n1.2],⋯,put _ _ _ n2.2]
theorem WP{l:()}(hB:BG k l ns bs)(hb:qT bs=tJ)(hs:∀e ∈ bs,e.2.2.length<=240){t:N3}(ht:t ∈ ovA (zb bs) (zb bs).length):EB l (jf bs t):=by
 obtain⟨b1,b2⟩:=Ye hb
 obtain⟨h1,h2⟩:=zc3 (l:=l) (ps:=zb bs) (λr hr=>by
  obtain⟨e,he,rfl⟩:=tO.mp hr
  exact#[(hB.e e he).ma,(hB.e e he).mb]) (λr hr=>by
  obtain⟨e,he,rfl⟩:=tO.mp hr
  exact b2 e he) ht
 refine#[aP h1.1 ∅,aP h2.1 ∅,?_,h1.2,h2.2];show (byL bs [((t.1:Int),(0:Int),tJ),((t.2.1:Int),(t.2.2:Int),tI)]).length<=600;unfold byL;rw[dM,dM,List.flatMap_nil,aE,ah];have o1:=WR hs ((t.1:Int),(0:Int),tJ);have o2:=WR hs ((t.2.1:Int),(t.2.2:Int),tI);lia
def zdB(K:pB)(T:pC)(H:Hp)(k:Nat)(l:())(ns:List Int)(rs:List zm)(m n:Nat)(H':Hp)(Dk Df:pC):Prop:=∃kept fresh:List Ent,SamT T H H'/\TabOk H' T lp lq/\EnsN K H H' Dk kept/\EnsL K H' Df fresh/\fresh.length<64/\(∀e ∈ fresh,EB l e)/\BG k l ns kept/\∀w es,Cpl k l ns n kept fresh w es->Cpl k l ns m [] (fEs rs rs.length) w es
def Kj(K:pB)(CO CR CW T:pC):Sp:=λvs H Q _=>∃(o a:pC) (k:Nat) (l:()) (ns:List Int) (rs:List zm) (m:Nat),vs=[.ref o,.ref a,.int (m:Nat)]/\OrdAt CO CR CW H o k l ns/\OG l ns k/\LsA K H a (rs.map dR)/\rs.length<=20/\InL l rs/\(∀r ∈ rs,r.1.length<=60/\r.2.length<=60)/\m<=1000/\TabOk H T lp lq/\∀(w:Bool) (es:List Ent) (p D:pC) (H':Hp),Cpl k l ns (m+1) [] (fEs rs rs.length) w es->BG k l ns es->SamT T H H'->TabOk H' T lp lq->H' p=tG (.tup [.bl w,.ref D])->EnsN K H H' D es->Q (.ref p) H'
theorem gE:sQz 3 ["order","pacts","rounds","kept","fresh","turn","slim","lacking"] wb:=by nofun
theorem Zf{f CO CR CW TB:pC}(B:Bt mg)(TM:TMc mg)(F:("completed"^^^wb))(nL:(1<<<"first_entries") ["pacts"] [] (X6 K))(ny:(8<<<"thinned_within") ["order","entries"] [] (Ko K CO CR CW TB))(nR:(9<<<"unmet_within") ["order","entries"] [] (Kg K CO CR CW))(oJ:(5<<<"entry_of") ["entries","overlap"] [] (j9 K)):(10&&&["order","pacts","rounds"]) (Kj K CO CR CW TB):=by
 obtain⟨t9,g9⟩:=TM.p
 exists F.ok gE
 ·obtain⟨o,a,k,l,ns,rs,m,rfl,ho,hG,hA,hrl,hin,h60,hm,hTab,q⟩:=h
  refine#[_,(zi (qK (i:=3) gE.nd rfl (Or.inr rfl) (xZ ze))
   (zi (zF 4 gE.nd (cl0 nL hr .nil rfl (za (pv 1) ze)))
   (zi (ym PassesOwn.never rfl (yu rfl B.range (za (zC yN (pv 2) zf) ze)) (zx (i:=5) gE.nd rfl (.inl rfl))
    (zi (zF 6 gE.nd (cl0 ny hr .nil rfl (za (pv 0) (za (pv 4) ze))))
    (zi (zP (zA op_isN' (pv 6) xV (zE _))
     (zh (zr (zO (za xf (za (pv 3) ze)))))
     zy)
    (zi (qK (i:=3) gE.nd rfl (Or.inr rfl) (pv 6))
    (zi (zF 7 gE.nd (cl0 nR hr .nil rfl (za (pv 0) (za (pv 3) ze))))
    (zi (zP (zA op_isN' (pv 7) xV (zE _))
     (zh (zr (zO (za xf (za (pv 3) ze)))))
     zy)
    (zi (zP (zA uL (zK B.len (pv 7)) zf (zE _))
     (zh (zr (zO (za xf (za (pv 3) ze)))))
     zy)
    (zh (zF 4 gE.nd (zC yz (pv 3) (yO (own:=["overlap"]) (caps:=["kept"]) (ix:=[3]) (tt:=xQ) (te:=(vF (j9 K) [] E0 (zH (zZ 1) (zH (zZ 0) xF)))) rfl (zJ (sc:=zg wb) rfl (by symm) (by symm) (by symm) rfl (by symm) (by symm) rfl) (yh (yc Yk (pv 7) xw (yk (yQ (v:=.int 8) rfl g9 #[t9,rfl])))) (λ_ _ _ _ _ _=>zx (i:=0) (show List.Nodup [_,_] by decide) rfl (.inl rfl)) (λ_ _ _ _ _ _=>z7) (λ_ _ _ _ _ _=>(cl0 oJ hr .nil rfl (za (pv 1) (za (pv 0) ze)))))))))))))))
   (zh (zr (zO (za xf (za (pv 3) ze)))))))),?_]
  have s16:=yb;have s16:=yb;have hTt:=hTab;obtain⟨tp,htp,_⟩:=hTt;refine zj (λσ H'=>Same H H'/\∃Dk:pC,H Dk=tH/\H' Dk=tG (.lst [])/\σ=[!!o,!!a,-~~~m,!!Dk,tH,tH,tH,tH]) ?_ ?_
  ·ac_rfl;exact#[⋯,λp hp=>#[zd hp,p,hp,zc,rfl]]
  rintro σ H1 ⟨s1,Dk0,hnk0,hDk0,rfl⟩:_
  have hE0:∀e ∈ fEs rs rs.length,EB l e:=λe he=>by
   obtain⟨i,p,hi,hp,rfl⟩:=qV he;have h1:=h60 p (ae hp);have h2:=hin p (ae hp);exact#[h1.1,h1.2,by show ([((i:Int),(0:Int),tI)]:List Stp).length<=600;simp,h2.2.2.1,h2.2.2.2]
  right;refine zj (λσ H'=>∃Df:pC,zdB K TB H k l ns rs (m+1) (m+1) H' Dk0 Df/\σ=[!!o,!!a,-~~~m,!!Dk0,!!Df,tH,tH,tH]) ?_ ?_
  ·ac_rfl;exact#[a,rs,rfl,hA.same s1,hrl,λDf H' s' _ hM=>#[Df,#[[],fEs rs rs.length,SamT.of (s1.trans s'),hTab.same (s1.trans s'),#[hnk0,[],s' _ _ hDk0,rfl],hM.l,by have:=U2 rs rs.length;lia,hE0,#[by simp,λe he=>(nomatch he),λe he=>(nomatch he)],λw es h=>h],rfl]]
  rintro σ H2 ⟨Df0,hC0,rfl⟩:_;right;refine zj (λσ H'=>∃(Dk Df:pC) (v5 v6 v7:Option V),zdB K TB H k l ns rs (m+1) 0 H' Dk Df/\σ=[!!o,!!a,-~~~m,!!Dk,!!Df,v5,v6,v7]) ?_ ?_
  ·ac_rfl;refine#[⋯,⋯,ForR.by (λi σ H'=>∃(Dk Df:pC) (v5 v6 v7:Option V),zdB K TB H k l ns rs (m+1) (m+1 - i) H' Dk Df/\σ=[!!o,!!a,-~~~m,!!Dk,!!Df,v5,v6,v7]) #[Dk0,Df0,tH,tH,tH,hC0,rfl] ?_ ?_]
   ·refine nm3 ?_;rintro i σ H' hi ⟨Dk,Df,v5,v6,v7,⟨kept,fresh,sT,hT,hK,hF,hfl,hfE,hB,hcp⟩,rfl⟩:_;have hi':i<m+1:=⋯;have en:m+1 - i=(m+1 - (i+1))+1:=⋯;rw[en]at hcp;have hTt:=hT;obtain⟨tq,htq,_⟩:=hTt;have ho':=ho.samT sT htp;right
    erw[yR,bg,be]
    refine zj (λσ' G=>SamT TB H' G/\TabOk G TB lp lq/\(((vT k l ns 20 fresh tH\/∃bs,vT k l ns 20 fresh (tG bs)/\qT bs=tI)/\σ'=[!!o,!!a,-~~~m,!!Dk,!!Df,tG (.int (0+(i:Int))),tG (.non),v7])\/∃(bs:List Ent) (D:pC),vT k l ns 20 fresh (tG bs)/\BG k l ns bs/\qT bs=tJ/\EnsN K H G D bs/\σ'=[!!o,!!a,-~~~m,!!Dk,!!Df,tG (.int (0+(i:Int))),!!D,v7])) ?_ ?_
    ·ac_rfl;exact#[o,Df,k,l,ns,fresh,rfl,ho',hG,hF,hfl,hfE,hT,λbs D G h1 h2 h3 h4 h5 h6=>#[h4,h5,.inr #[bs,h1,h2,h3,D,h6.back λb h=>sT.free htq h,rfl]],λh G h4 h5=>#[h4,h5,.inl #[h,rfl]]]
    rintro σ' G1 ⟨g1,hT1,hcase⟩:_;have hK1:=hK.samT g1 htq;right;refine zj (λσ' G=>Same G1 G/\∃(bs:List Ent) (D:pC),vT k l ns 20 fresh (tG bs)/\BG k l ns bs/\qT bs=tJ/\EnsN K H G D bs/\σ'=[!!o,!!a,-~~~m,!!Dk,!!Df,tG (.int (0+(i:Int))),!!D,v7]) ?_ ?_
    ·rcases hcase with ⟨hno,rfl⟩ | ⟨bs,D,h1,h2,h3,h4,rfl⟩
     ·ac_rfl;exact#[⋯,λp hp=>q tJ kept p Dk _ (hcp _ _ (.slim hno)) hB (sT.trans (g1.trans (SamT.of (zd hp)))) (hT1.same (zd hp)) zc (hK1.same (zd hp))]
     ·ac_rfl;exact#[Same.refl _,bs,h1,h2,h3,h4]
    rintro σ' G2 ⟨s2,bs,D,hTh,hBb,hbey,hD,rfl⟩:_;right;refine zj (λσ' G=>G=G2/\σ'=[!!o,!!a,-~~~m,!!D,!!Df,tG (.int (0+(i:Int))),!!D,v7]) ?_ ?_
    ·ac_rfl
    rintro σ' G3 ⟨rfl,rfl⟩:_;have sT3:SamT TB H G3:=sT.trans (g1.trans (SamT.of s2));have hT3:=hT1.same s2;have ho3:=ho.samT sT3 htp;obtain⟨b12,b10⟩:=Ye hbey;have hpl:(zb bs).length=bs.length:=by unfold zb;rw[aa]
    have hol:=zca (ps:=zb bs) ⋯ λr hr=>by
     obtain⟨e,he,rfl⟩:=tO.mp hr;exact (b10 e he).1
    have hnear:∀e ∈ bs,e.2.2.length<=240:=λe he=>by
     have:=qU hTh bs rfl e he;unfold v0 at this;lia
    right;refine zj (λσ' G=>Same G3 G/\(((∃t ∈ ovA (zb bs) (zb bs).length,¬ OkG (zb bs) 40 t)/\σ'=[!!o,!!a,-~~~m,!!D,!!Df,tG (.int (0+(i:Int))),!!D,tG (.non)])\/∃L:pC,(∀t ∈ ovA (zb bs) (zb bs).length,OkG (zb bs) 40 t)/\LsA K G L ((unG (zb bs) 40).map d3)/\σ'=[!!o,!!a,-~~~m,!!D,!!Df,tG (.int (0+(i:Int))),!!D,!!L])) ?_ ?_
    ·ac_rfl;exact#[o,D,k,l,ns,bs,rfl,ho3,hG,hD.m.l,hBb,⋯,hol,λh L G s' hL=>#[s',.inr #[h,L,hL,rfl]],λt ht h G s'=>#[s',.inl #[#[t,ht,h],rfl]]]
    rintro σ' G4 ⟨s4,hcase⟩:_;right;refine zj (λσ' G=>Same G3 G/\∃L:pC,(∀t ∈ ovA (zb bs) (zb bs).length,OkG (zb bs) 40 t)/\LsA K G L ((unG (zb bs) 40).map d3)/\σ'=[!!o,!!a,-~~~m,!!D,!!Df,tG (.int (0+(i:Int))),!!D,!!L]) ?_ ?_
    ·rcases hcase with ⟨⟨t,ht,hno⟩,rfl⟩ | ⟨L,h1,h2,rfl⟩
     ·ac_rfl;exact#[⋯,λp hp=>q tJ bs p D _ (hcp _ _ (.far hTh hbey ht hno)) hBb (sT3.trans (SamT.of (s4.trans (zd hp)))) (hT3.same (s4.trans (zd hp))) zc (hD.same (s4.trans (zd hp)))]
     ·ac_rfl;exact#[s4,h1,h2]
    rintro σ' G5 ⟨s5,L,hok,hL,rfl⟩:_;right;refine zj (λσ' G=>G=G5/\unG (zb bs) 40≠[]/\σ'=[!!o,!!a,-~~~m,!!D,!!Df,tG (.int (0+(i:Int))),!!D,!!L]) ?_ ?_
    ·ac_rfl;obtain⟨xs,hX,hI⟩:=id hL;have hxl:=hI.len;rw[aa]at hxl;refine#[_,.inl #[_,SqL.of hX,rfl],yA (λh=>#[⋯,λp hp=>q tI bs p D _ (hcp _ _ (.whole hTh hbey hok (tZ.mp ⋯))) hBb (sT3.trans (SamT.of (s5.trans (zd hp)))) (hT3.same (s5.trans (zd hp))) zc (hD.same (s5.trans (zd hp)))]) λh z=>h ?_];rw[z]at hxl;show ((xs.length:Nat):Int)=0;rw[hxl];rfl
    rintro σ' G6 ⟨rfl,hne,rfl⟩:_;right;ac_rfl;obtain⟨xs,hX,hI⟩:=id hL;have hxl:=hI.len;rw[aa]at hxl;have hct:zaA xs tH (tG 8)=xs.take 8:=jm xs (k:=8) ∅;refine#[_,SqL.of hX,λp hp=>?_];rw[hct];have u1:=zd (o:=HO.lst (xs.take 8)) hp;have hS7:(upd G6 p (.lst (xs.take 8))) p=tG (.lst (xs.take 8)):=zc;have hX7:=Iss.same u1 _ _ hI;have hD7:=hD.m.same (s5.trans u1);refine#[#[_,SqL.of hS7],λE1 hE1=>?_];generalize upd G6 p (.lst (xs.take 8))=G7 at *;refine CompL.by (xs:=xs.take 8) (λj tM H'=>Same G7 H'/\H' E1=tG (.lst tM)/\tM.length<=j/\EnsA K (vS E1 H') (((unG (zb bs) 40).take j).map (jf bs)) tM) #[zd hE1,zc,al _,rfl] (λj tM H' _ h=>SqL.of (h.1 _ _ hS7)) ?_ ?_
    ·refine nm4 ?_;rintro j x tM H' hx ⟨hs,hH,hal,hEn⟩:_;have hjl:=(tN.mp hx).1;have hj8:j<8:=by rw[aF]at hjl;lia
     rw[dA hj8]at hx;obtain⟨t,pt,ht,rfl,hpt⟩:=hX7.get3 hx;have htm:=(tS.mp (ae ht)).1;right
     erw[xQ]
     rfl'
     refine#[yM,D,pt,bs,t,rfl,(hD7.same hs).l,zp hs hpt,htm,hBb.ok ⋯,λe he=>(hBb.e e he).s,λp' s' H5 h1 h2 h3 h4=>?_];have hH5:=h1 _ _ hH;have hsE:s'≠E1:=λz=>by rw[z,hH]at h4;cases h4
     refine#[hH5,⋯,CNx.mk hjl #[zw (hs.trans h1) hE1,zc,by rw[ah];erw[aD,bj];lia,?_]];rw[zL ht,aq];exact (hEn.same ((yL h1).trans xC)).snoc ((EnA.new (e:=jf bs t) hH5 h2 h3 hsE).same xC)
    ·rintro tM H' ⟨hs,hH,hal,hEn⟩
     have hEn':EnsA K H' (((unG (zb bs) 40).take 8).map (jf bs)) tM:=by
      have h1:=hEn.same xx;rw[aF,hxl]at h1
      have e:(unG (zb bs) 40).take (min 8 (unG (zb bs) 40).length)=(unG (zb bs) 40).take 8:=by
       rw[<- fJ,aK]
      rw[e]at h1;exact h1
     have hal8:tM.length<=8:=by rw[aF]at hal;lia
     obtain⟨xk,hxk,hek⟩:=hD7.same hs;have hkl:=hek.len;refine#[E1,rfl,xk,hxk,tM,hH,⋯,λp2 hp2=>#[D,p2,#[bs,_,sT3.trans (SamT.of (s5.trans (u1.trans (hs.trans (zd hp2))))),hT3.same (s5.trans (u1.trans (hs.trans (zd hp2)))),hD.same (s5.trans (u1.trans (hs.trans (zd hp2)))),#[xk ++ tM,SqL.of zc,(hEn'.same (zd hp2)).app (hek.same (zd hp2))],?_,λe he=>?_,hBb,λw es h=>hcp w es (.more hTh hbey hok hne h)],rfl,rfl]]
     ·rw[ah,aa,aF];lia
     ·rcases tQ.mp he with he | he
      ·exact hBb.e e he
      ·obtain⟨t,ht,rfl⟩:=tO.mp he;exact WP hBb hbey hnear (tS.mp (bD ht)).1
   ·rintro σ H' ⟨Dk,Df,v5,v6,v7,hC,rfl⟩;rw[show ((m:Int)+1).toNat=m+1 by lia,Nat.sub_self]at hC;exact#[Dk,Df,hC,_,_,_,rfl]
  rintro σ H3 ⟨Dk,Df,v5,v6,v7,⟨kept,fresh,sT,hT,hK,hF,hfl,hfE,hB,hcp⟩,rfl⟩:_;right;ac_rfl;exact#[⋯,λp hp=>q tJ kept p Dk _ (hcp _ _ (.out kept fresh)) hB (sT.trans (SamT.of (zd hp))) (hT.same (zd hp)) zc (hK.same (zd hp))]
theorem ThinL.pairs{l:()}{zs bs:List Ent}(h:ThinL k l ns zs)(hp:zb bs=zb zs)(hE:∀e ∈ bs,EB l e):ThinL k l ns bs:=by
 have key:∀(i:Nat) (a:Ent),bs[i]? = tG a->∃z,zs[i]? = tG z/\z.1=a.1/\z.2.1=a.2.1:=λi a ha=>by
  have h1:(zb bs)[i]? = tG (a.1,a.2.1):=by unfold zb;rw[az,ha];rfl
  rw[hp]at h1;unfold zb at h1;rw[az]at h1;obtain⟨z,hz,e⟩:=tU.mp h1;exact#[z,hz,(Prod.ext_iff.mp e).1,(Prod.ext_iff.mp e).2]
 refine#[#[hE,λe he=>?_],λi j a b ha hb hij=>?_,λi j a b ha hb hij=>?_,λi j a b ha hb=>?_]
 ·obtain⟨i,hi⟩:=Ab.mp he;obtain⟨z,hz,e1,e2⟩:=key i e hi;rw[<- e1,<- e2];exact h.rl.lt z (ae hz)
 all_goals
  obtain⟨x,hx,e1,e2⟩:=key i a ha;obtain⟨y,hy,f1,f2⟩:=key j b hb;rw[<- f1]
 ·rw[<- e1];exact h.up i j x y hx hy hij
 ·rw[<- e1];exact h.no1 i j x y hx hy hij
 ·rw[<- e2];exact h.no2 i j x y hx hy
structure KXs(K:pB):Prop where
 ss:aU K (.type "str") (.type "str")=tG tI
def W7(K:pB):Sp:=λvs H Q _=>∃(a:pC) (es:List Ent),vs=[.ref a]/\Is K H (.lst (es.map dE)) (.ref a)/\Q (.bl tI) H
theorem nM:sQz 1 ["_law_found","_law_entry"] qd:=by nofun
theorem Wv(B:Bt mg)(T:TLs K)(TX:KXs K)(F:("_law_entries"^^^qd))(oW:(2<<<"_law_steps") ["_law_found"] [] (Y6 K)):(3&&&["_law_found"]) (W7 K):=by
 exists F.ok nM
 ·obtain⟨a,es,rfl,hA,q⟩:=h
  refine#[_,(zi (zP (yj (xy (xo rfl B.isi (pv 0) rfl B.list PySem.Pv.boot_list) (λ_=>rfl)))
    (zh (zr xf))
    zy)
   (zi (ym PassesOwn.never rfl (yh (pv 0)) (zx (i:=1) nM.nd rfl (.inl rfl))
    (zi (zP (PW.pt (uH (yj (xy (xo rfl B.isi (pv 1) rfl B.tuple PySem.Pv.boot_tuple) (λ_=>rfl))) (uH (zA qL (zK B.len (pv 1)) zf (zE _)) (uz (yj (xy (cl0 oW hr .nil rfl (za (zl ix_tup (pv 1) zf) ze)) (λ_=>rfl)))))))
     (zh (zr xf))
     zy)
    (zh (zP (PW.pt (uH (yj (xy (xo rfl B.isi (zl ix_tup (pv 1) zf) rfl B.str PySem.Pv.boot_str) (λ_=>rfl))) (uz (yj (xy (xo rfl B.isi (zl ix_tup (pv 1) zf) rfl B.str PySem.Pv.boot_str) (λ_=>rfl))))))
     (zh (zr xf))
     zy))))
   (zh (zr xf)))),?_]
  have s16:=yb
  erw[Is]at hA
  obtain⟨_,xs,e,hX,hI⟩:=hA;cases e;refine zj (λσ H'=>H'=H/\σ=[!!a,tH]) ?_ ?_
  ·rfl'
   exact#[_,.inr (.inr (.inl #[_,_,rfl,rfl,hX])),tI,T.ll,Qb trivial]
  rintro σ H1 ⟨rfl,rfl⟩:_;right;refine zj (λσ H'=>H'=H1/\∃v1,σ=[!!a,v1]) ?_ ?_
  ·rfl'
   refine#[#[_,hX],ForL.by (xs:=xs) (λi σ H'=>H'=H1/\∃v1,σ=[!!a,v1]) #[rfl,_,rfl] (λi σ H' _ h=>by rw[h.1];exact hX) ?_ λσ H' h=>h];refine nm4 ?_;rintro i x σ H' hx ⟨rfl,v1,rfl⟩:_;obtain⟨e,pe,se,hei,rfl,hqe,hse⟩:=XD hI hx;right
   erw[yR,bg,be]
   refine zj (λσ H''=>H''=H'/\σ=[!!a,!!pe]) ?_ ?_
   ·rfl'
    exact#[_,.inr (.inr (.inr #[_,_,rfl,rfl,hqe])),tI,T.tt,Qb #[_,.inr #[_,hqe,rfl],yA (λh=>absurd rfl h) λ_=>#[_,hqe,_,rfl,se,e.2.2,rfl,hse,tI,rfl,Qb rfl]]]
   rintro σ G ⟨rfl,rfl⟩:_;right
   rfl'
   exact#[_,hqe,_,rfl,_,.inl (.str _),tI,TX.ss,Qb #[_,hqe,_,rfl,_,.inl (.str _),tI,TX.ss,Qb trivial]]
  rintro σ H2 ⟨rfl,v1,rfl⟩:_;right
  rfl'
  exact q
theorem kq{w:()}{i:Nat}{q:Int}{f:Bool}{r:zm}(hr:ps[i]? = tG r)(h:zt w q (sdl r f).1=tI):yt ps w ((i:Int),q,f)=tG (yK w q (sdl r f).1 (sdl r f).2):=by
 have hi:=(tN.mp hr).1
 have e:ps.getD ((i:Int),q,f).1.toNat ([],[])=r:=by
  show ps.getD ((i:Int)).toNat ([],[])=r;rw[aX,af,hr];rfl
 rw[yS (show 0<=((i:Int),q,f).1/\((i:Int),q,f).1<ps.length by constructor <;> simp <;> lia),e,if_pos h]
theorem QV{n:Nat}(h:e ∈ fEs rs n):EOk rs e:=by
 obtain⟨i,p,hi,hp,rfl⟩:=qV h;show yf rs p.1 [((i:Int),(0:Int),tI)]=tG p.2
 have hs:zt p.1 0 (sdl p tI).1=tI:=by
  show zt p.1 0 p.1=tI;refine decide_eq_true #[⋯,⋯,?_];show (p.1.drop 0).take p.1.length=p.1;rw[eD,aK]
 erw[yf,kq hp hs,bY]
 show tG (yK p.1 0 p.1 p.2)=tG p.2;congr 1;unfold yK;show p.1.take 0 ++ p.2 ++ p.1.drop (0+p.1.length)=p.2;rw[bI,aT,bq ⋯,aE]
theorem zaz(hb:∀e ∈ bs,EOk rs e){t:N3}(ht:t ∈ ovA (zb bs) (zb bs).length):EOk rs (jf bs t):=by
 obtain⟨i1,i2,i3,i4⟩:=um ht;obtain⟨r,hr⟩:∃r,(zb bs)[t.1]? = tG r:=#[_,ag i1];obtain⟨r2,hr2⟩:∃r,(zb bs)[t.2.1]? = tG r:=#[_,ag i2];have l1:=wV hr;have l2:=wV hr2;have d1:(zb bs).getD t.1 ([],[])=r:=by rw[af,hr];rfl
 have d2:(zb bs).getD t.2.1 ([],[])=r2:=by rw[af,hr2];rfl
 rw[l1]at i3;rw[l1,l2]at i4;have eA:pkA (zb bs) t=yK (yg r.1 r2.1 t.2.2) 0 r.1 r.2:=by unfold pkA;rw[l1,l2,d1]
 have eB:pkB (zb bs) t=yK (yg r.1 r2.1 t.2.2) (t.2.2:Nat) r2.1 r2.2:=by unfold pkB;rw[l1,l2,d2]
 refine ke hb ?_;show yf (zb bs) (pkA (zb bs) t) [((t.1:Int),(0:Int),tJ),((t.2.1:Int),(t.2.2:Int),tI)]=tG (pkB (zb bs) t);obtain⟨b1,b2⟩:=Xq r.2 (vZ r.1 r2.1 t.2.2);rw[eA,eB];have h1:=kq (f:=tJ) (q:=0) hr (w:=yK (yg r.1 r2.1 t.2.2) 0 r.1 r.2) b1;have h2:=kq (f:=tI) (q:=(t.2.2:Int)) hr2 (w:=yg r.1 r2.1 t.2.2) (vc ⋯ i4)
 have h1':yt (zb bs) (yK (yg r.1 r2.1 t.2.2) 0 r.1 r.2) ((t.1:Int),(0:Int),tJ)=tG (yg r.1 r2.1 t.2.2):=by
  rw[h1];congr 1
 have h2':yt (zb bs) (yg r.1 r2.1 t.2.2) ((t.2.1:Int),(t.2.2:Int),tI)=tG (yK (yg r.1 r2.1 t.2.2) (t.2.2:Nat) r2.1 r2.2):=h2
 erw[yf,h1',h2',bY]
theorem Ue{l:()}{es bs zs:List Ent}(h:vT k l ns 20 es (tG bs))(hb:qT bs=tJ)(hz:ThinL k l ns zs)(hp:zb bs=zb zs):BG k l ns bs:=by
 obtain⟨b1,_⟩:=Ye hb
 have key:∀e ∈ bs,∃z ∈ zs,z.1=e.1/\z.2.1=e.2.1:=λe he=>by
  have:(e.1,e.2.1) ∈ zb zs:=by rw[<- hp];exact tO.mpr #[e,he,rfl]
  obtain⟨z,hz,e2⟩:=tO.mp this;injection e2 with h1 h2;exact#[z,hz,h1,h2]
 refine#[⋯,λe he=>?_,λe he=>?_]
 ·obtain⟨z,hzm,h1,h2⟩:=key e he;have hE:=hz.rl.e z hzm;have hn:=qU h bs rfl e he;unfold v0 at hn;exact#[⋯,⋯,⋯,by rw[<- h1];exact hE.ma,by rw[<- h2];exact hE.mb]
 ·obtain⟨z,hzm,h1,h2⟩:=key e he;rw[<- h1,<- h2];exact hz.rl.lt z hzm
def Gd(rs:List zm)(k:Nat)(l:())(ns:List Int)(es:List Ent):Prop:=(∀e ∈ es,EOk rs e)/\(es=[]\/(ThinL k l ns es/\qT es=tJ/\BG k l ns es))
theorem Yw{rs:List zm}{l:()}(G:OG l ns k){es bs:List Ent}(h:vT k l ns 20 es (tG bs))(hb:qT bs=tJ)(he:∀e ∈ es,EB l e)(ho:∀e ∈ es,EOk rs e):Gd rs k l ns bs:=by
 obtain⟨h1,zs,hz,hp⟩:=Wa (rs:=rs) G h bs rfl he ho;have hB:=Ue h hb hz hp;exact#[h1,.inr #[hz.pairs hp hB.e,hb,hB]]
theorem zc5{rs:List zm}{k n:Nat}{l:()}(G:OG l ns k){kept fresh es:List Ent}{w:Bool}(h:Cpl k l ns n kept fresh w es):(∀e ∈ fresh,EB l e)->(∀e ∈ fresh,EOk rs e)->Gd rs k l ns kept->Gd rs k l ns es:=by
 induction h with
 | out kept fresh=>exact λ_ _ h=>h
 | slim _=>exact λ_ _ h=>h
 | far h hb _ _=>exact λhe ho _=>Yw G h hb he ho
 | whole h hb _ _=>exact λhe ho _=>Yw G h hb he ho
 | @more n kept fresh bs es w h hb ho' hu r ih =>
  intro he ho _;have hg:=Yw (rs:=rs) G h hb he ho
  have hB:BG k l ns bs:=by
   obtain⟨h1,zs,hz,hp⟩:=Wa (rs:=rs) G h bs rfl he ho;exact Ue h hb hz hp
  have hnear:∀e ∈ bs,e.2.2.length<=240:=λe hm=>by
   have:=qU h bs rfl e hm;unfold v0 at this;lia
  refine ih (λe hm=>?_) (λe hm=>?_) hg
  ·rcases tQ.mp hm with hm | hm
   ·exact hB.e e hm
   ·obtain⟨t,ht,rfl⟩:=tO.mp hm;exact WP hB hb hnear (tS.mp (bD ht)).1
  ·rcases tQ.mp hm with hm | hm
   ·exact hg.1 e hm
   ·obtain⟨t,ht,rfl⟩:=tO.mp hm;exact zaz hg.1 (tS.mp (bD ht)).1
structure TTl(K:pB):Prop where
 tt:aU K (.type "tuple") (.type "tuple")=tG tI
 bb:aU K (.type "bool") (.type "bool")=tG tI
def Y1(K:pB):Sp:=λvs H Q _=>∃(p D:pC) (w:Bool) (es:List Ent),vs=[.ref p]/\H p=tG (.tup [.bl w,.ref D])/\EnsL K H D es/\Q (.bl tI) H
theorem zaC:sQz 1 ["_law_found"] WV:=by nofun
theorem K4(B:Bt mg)(TT':TTl K)(F:("_law_told"^^^WV))(oM:(3<<<"_law_entries") ["_law_found"] [] (W7 K)):(4&&&["_law_found"]) (Y1 K):=by
 exists F.ok zaC
 ·obtain⟨p,D,w,es,rfl,hp,hE,q⟩:=h
  refine#[_,(zi (zP (PW.pt (uH (yj (xy (xo rfl B.isi (pv 0) rfl B.tuple PySem.Pv.boot_tuple) (λ_=>rfl))) (uH (zA qL (zK B.len (pv 0)) zf (zE _)) (uz (yj (xy (xo rfl B.isi (zl ix_tup (pv 0) zf) rfl B.bool PySem.Pv.boot_bool) (λ_=>rfl)))))))
    (zh (zr xf))
    zy)
   (zh (zr (cl0 oM hr .nil rfl (za (zl ix_tup (pv 0) zf) ze))))),?_]
  have s16:=yb;refine zj (λσ H'=>H'=H/\σ=[!!p]) ?_ ?_
  ·ac_rfl;exact#[_,.inl (.tup hp),tI,TT'.tt,yA (λe=>by cases e) λ_=>#[_,.inr #[_,SqT.of hp,rfl],yA (λe=>absurd rfl e) λ_=>#[_,SqT.of hp,_,rfl,_,.inl (.bl _),tI,TT'.bb,yA (λe=>by cases e) λ_=>trivial]]]
  rintro σ H1 ⟨rfl,rfl⟩:_;right;ac_rfl;exact#[_,SqT.of hp,_,rfl,D,es,rfl,hE.is,q]
theorem Jg{t:N3}(ht:t ∈ ovA ps ps.length):∃r r2,ps[t.1]? = tG r/\ps[t.2.1]? = tG r2/\t.2.2<r.1.length/\xG r.1 r2.1 t.2.2=tI/\pkA ps t=yK (yg r.1 r2.1 t.2.2) 0 r.1 r.2/\pkB ps t=yK (yg r.1 r2.1 t.2.2) (t.2.2:Nat) r2.1 r2.2:=by
 obtain⟨i1,i2,i3,i4⟩:=um ht;obtain⟨r,hr⟩:∃r,ps[t.1]? = tG r:=#[_,ag i1];obtain⟨r2,hr2⟩:∃r,ps[t.2.1]? = tG r:=#[_,ag i2];have l1:=wV hr;have l2:=wV hr2;have d1:ps.getD t.1 ([],[])=r:=by rw[af,hr];rfl
 have d2:ps.getD t.2.1 ([],[])=r2:=by rw[af,hr2];rfl
 rw[l1]at i3;rw[l1,l2]at i4;exact#[r,r2,hr,hr2,i3,i4,by unfold pkA;rw[l1,l2,d1],by unfold pkB;rw[l1,l2,d2]]
def Rw(ps:List zm)(u v:()):Prop:=∃p,p ∈ ps/\∃a b,u=a ++ p.1 ++ b/\v=a ++ p.2 ++ b
inductive Rws(ps:List zm):()->()->Prop where
 | nil {u:()}:Rws ps u u
 | cons {u v w:()} (h:Rw ps u v) (h2:Rws ps v w):Rws ps u w
theorem Rw.ctx{u v:()}(h:Rw ps u v)(c d:()):Rw ps (c ++ u ++ d) (c ++ v ++ d):=by
 obtain⟨p,hp,a,b,rfl,rfl⟩:=h;exact#[p,hp,c ++ a,b ++ d,by erw[aH],by erw[aH]]
theorem Rws.ctx{u v:()}(h:Rws ps u v)(c d:()):Rws ps (c ++ u ++ d) (c ++ v ++ d):=by
 induction h with
 | nil=>exact .nil
 | cons s _ ih=>exact .cons (s.ctx c d) ih
section
variable{k:Nat}{l:()}{ws:List Int}{ps:List zm}
noncomputable def mu(k:Nat)(l:())(ws:List Int)(Ws:List (()))(v:()):Nat:=Ws.countP λy=>zG k l ws y v
end
theorem Zn{α:Type}{r:α->α->Prop}(irr:∀x,¬ r x x)(tr:∀x y z,r x y->r y z->r x z):∀{xs ys:List α},xs.Pairwise r->ys.Pairwise r->(∀x,x ∈ xs ↔ x ∈ ys)->xs=ys
 | [],[],_,_,_=>rfl
 | [],y::ys,_,_,h=>(nomatch (h y).mpr av)
 | x::xs,[],_,_,h=>(nomatch (h x).mp av)
 | x::xs,y::ys,h1,h2,h=>by
  obtain⟨a1,a2⟩:=tX.mp h1;obtain⟨b1,b2⟩:=tX.mp h2
  have e:x=y:=by
   rcases tP.mp ((h x).mp av)with e | m1
   ·exact e
   ·rcases tP.mp ((h y).mpr av)with e | m2
    ·exact e.symm
    ·exact absurd (tr _ _ _ (a1 y m2) (b1 x m1)) (irr x)
  subst e;rw[Zn irr tr a2 b2 λz=>#[λhz=>?_,λhz=>?_]]
  ·rcases tP.mp ((h z).mp (ao _ hz))with rfl | m
   ·exact absurd (a1 z hz) (irr z)
   ·exact m
  ·rcases tP.mp ((h z).mpr (ao _ hz))with rfl | m
   ·exact absurd (b1 z hz) (irr z)
   ·exact m
section
variable{k:Nat}{l:()}{ws:List Int}{es fs:List Ent}
theorem YY(h:ThinL k l ws es):(zb es).Pairwise λa b:zm=>zG k l ws a.1 b.1=tI:=by
 unfold zb;rw[eM,dq];exact λi j hi hj hij=>h.up i j _ _ (ag hi) (ag hj) hij
end
theorem none_of{w:()}(h:∀p ∈ ps,¬ Within p.1 w):zB w ps=tH:=by
 cases e:zB w ps with
 | none=>rfl
 | some u =>
  obtain⟨p,h1,h2⟩:=zN e;exact absurd (ZW h2) (h p (ae h1))
theorem ZK{w:()}(h:zB w ps=tH):EndsAt ps w 0:=#[λi hi=>absurd hi (cS i),h,aG _]
theorem Z4(bs:List Ent)(e:Ent):yJ bs e 0 0=e:=by
 show (e.1,e.2.1,[] ++ e.2.2 ++ [])=e;rw[aT,aE]
theorem xh{p w:()}(h:Within p w):p.length<=w.length/\(p.length=w.length->p=w):=by
 obtain⟨a,b,rfl⟩:=h
 erw[ah]
 refine#[⋯,λe=>?_];have ha:a=[]:=tZ.mp ⋯;have hb:b=[]:=tZ.mp ⋯;rw[ha,hb,aT,aE]
theorem ZP(rs:List zm):∀n,n<=rs.length->zb (fEs rs n)=rs.take n
 | 0,_=>by simp [fEs,zb]
 | n+1,h=>by
  have ih:=ZP rs n ⋯;have e:rs[n]? = tG (rs[n]'⋯):=ag ⋯;rw[zL e,<- ih]
  erw[fEs,zb,aq]
  congr 1;rw[e];rfl
theorem QD(hs:∀p ∈ ps,p.2.length<p.1.length){w:()}:∀{i:Nat},YK ps w i->(wAt ps w i).length+i<=w.length
 | 0,_=>al _
 | i+1,h=>by
  have ih:=QD hs (i:=i) λj hj=>h j ⋯
  cases e:zB (wAt ps w i) ps with
  | none=>exact absurd e (h i ⋯)
  | some u =>
   obtain⟨p,h1,h2⟩:=zN e;obtain⟨e1,_⟩:=zU h2;rw[yT e];unfold k8 yK;rw[yv h1];have e2:=congrArg ci e1;have:=hs p (ae h1)
   erw[ah]at e2 ⊢
   lia
theorem uO{w:()}{i:Nat}(h:EndsAt ps w i):goJ ps 40 w=tG i:=by
 cases e:goJ ps 40 w with
 | none=>exact absurd h.end_ (Xt e i h.most)
 | some j =>
  obtain⟨_,h2,h3⟩:=Xy e;rw[jS h2 h3 h.live h.end_]
theorem KQ(h:∀t ∈ ovA ps ps.length,∃i j,EndsAt ps (pkA ps t) i/\EndsAt ps (pkB ps t) j/\wAt ps (pkA ps t) i=wAt ps (pkB ps t) j):(∀t ∈ ovA ps ps.length,OkG ps 40 t)/\unG ps 40=[]:=by
 refine#[λt ht=>?_,?_]
 ·obtain⟨i,j,h1,h2,_⟩:=h t ht;exact#[by rw[uO h1];rfl,by rw[uO h2];rfl]
 ·unfold unG;refine List.filter_eq_nil_iff.mpr λt ht=>?_;obtain⟨i,j,h1,h2,h3⟩:=h t ht;unfold QW zc9;rw[uO h1,uO h2]
  erw[Option.getD_some,h3,decide_true,eJ,bE,not_false_eq_true]
theorem Yv{μ:()->Nat}(hs:∀p ∈ ps,∀a b:(),μ (a ++ p.2 ++ b)<μ (a ++ p.1 ++ b)){w:()}:∀{i:Nat},YK ps w i->μ (wAt ps w i)+i<=μ w
 | 0,_=>al _
 | i+1,h=>by
  have ih:=Yv hs (i:=i) λj hj=>h j ⋯
  cases e:zB (wAt ps w i) ps with
  | none=>exact absurd e (h i ⋯)
  | some u =>
   obtain⟨p,h1,h2⟩:=zN e;obtain⟨e1,_⟩:=zU h2;rw[yT e];unfold k8 yK;rw[yv h1];have:=hs p (ae h1) ((wAt ps w i).take ((u.2:Int)).toNat) ((wAt ps w i).drop (((u.2:Int)).toNat+p.1.length));rw[e1]at this;lia
theorem qX{μ:()->Nat}(hs:∀p ∈ ps,∀a b:(),μ (a ++ p.2 ++ b)<μ (a ++ p.1 ++ b)){w:()}(hw:μ w<=40):∃i,EndsAt ps w i/\i<=μ w:=by
 rcases WT ps w with ⟨i,h⟩ | ⟨h1,h2⟩
 ·have:=Yv hs h.live;exact#[i,h,⋯]
 ·have:=Yv hs (w:=w) (i:=41) λi hi=>by
   by_cases e:i=40
   ·rw[e];exact h2
   ·exact h1 i ⋯
  lia
noncomputable def inv(bf:Nat->Nat->Bool):()->Nat
 | []=>0
 | x::w=>w.countP (bf · x)+inv bf w
theorem Xu{bf:Nat->Nat->Bool}{a b:Nat}(h1:bf b a=tI)(h2:bf a b=tJ)(v:()):∀u:(),inv bf (u ++ [a,b] ++ v)=inv bf (u ++ [b,a] ++ v)+1
 | []=>by
  erw[aT,aV,inv,List.countP_cons,h1,h2]
  simp;lia
 | x::u=>by
  have ih:=Xu h1 h2 v u
  erw[aV,inv,gd,List.countP_cons,List.countP_nil]at ih ⊢
  lia
theorem UN{bf:Nat->Nat->Bool}(p v:()):∀u:(),inv bf (u ++ v)<=inv bf (u ++ p ++ v)
 | []=>by
  rw[aT,aT]
  induction p with
  | nil=>exact al _
  | cons x p ih =>
   erw[aV,inv]
   lia
 | x::u=>by
  have ih:=UN (bf:=bf) p v u
  erw[aV,inv,gd]at ih ⊢
  lia
noncomputable def Qc:Nat->Nat
 | 0=>0
 | n+1=>Qc n+n
theorem Vy{bf:Nat->Nat->Bool}:∀w:(),inv bf w<=Qc w.length
 | []=>al _
 | x::w=>by
  have ih:=Vy (bf:=bf) w;have:=List.countP_le_length (p:=(bf · x)) (l:=w)
  erw[inv,aD,Qc]
  lia
theorem Vh{bf:Nat->Nat->Bool}{w:()}(h:w.length<=7):inv bf w+w.length<=28:=by
 have h1:=Vy (bf:=bf) w;have h2:∀n,n<=7->Qc n+n<=28:=∅;have:=h2 w.length h;lia
noncomputable def bfB(k:Nat)(l:())(ns:List Int)(a b:Nat):Bool:=zG k l ns [a,b] [b,a]
theorem je{k:Nat}{l:()}{ns:List Int}{a b:Nat}(ha:a ∈ l)(hb:b ∈ l):bfB k l ns a b=if k=1 then decide (l.idxOf b<l.idxOf a)else decide (l.idxOf a<l.idxOf b):=by
 have hw:zq k l ns [a,b]=zq k l ns [b,a]:=by
  have e1:=yE (k:=k) (l:=l) (ns:=ns) [a] [b];have e2:=yE (k:=k) (l:=l) (ns:=ns) [b] [a]
  erw[List.singleton_append]at e1 e2
  lia
 have key:∀i j:Nat,ltI [(i:Int),(j:Int)] [(j:Int),(i:Int)]=decide (i<j):=λi j=>by
  erw[ltI]
  by_cases e:(i:Int)=j
  ·have e':i=j:=⋯;subst e';simp
  ·rw[if_neg e];congr 1;exact propext ⋯
 unfold bfB zG;rw[if_pos hw];unfold vJ ye;by_cases hk:k=1
 ·rw[if_pos hk,if_pos hk,if_pos hk];exact key _ _
 ·rw[if_neg hk,if_neg hk,if_neg hk];exact key _ _
noncomputable def lsO(k:Nat)(l:()):():=if k=1 then l.reverse else l
theorem lsO_mem{l:()}{x:Nat}:x ∈ lsO k l ↔ x ∈ l:=by
 unfold lsO;split
 ·exact List.mem_reverse
 ·exact Iff.rfl
theorem V9{l:()}(h:l.Nodup):(lsO k l).Nodup:=by
 unfold lsO;split
 ·exact (List.reverse_perm l).nodup_iff.mpr h
 ·exact h
theorem zcx{l:()}(h:l.Nodup):(lsO k l).Pairwise λa b=>bfB k l ns b a=tJ:=by
 have up:l.Pairwise λa b=>(a ∈ l/\b ∈ l)/\l.idxOf a<l.idxOf b:=by
  rw[dq];intro i j hi hj hij;have e:∀{n:Nat} (hn:n<l.length),l.idxOf l[n]=n:=λ{n} hn=>ky h (tN.mpr #[aY (dc hn),bT _]) (ag hn);rw[e hi,e hj];exact#[#[dc hi,dc hj],hij]
 unfold lsO;by_cases hk:k=1
 ·rw[if_pos hk,List.pairwise_reverse];refine up.imp λ{a b} hab=>?_;rw[je hab.1.1 hab.1.2,if_pos hk];exact decide_eq_false ⋯
 ·rw[if_neg hk];refine up.imp λ{a b} hab=>?_;rw[je hab.1.2 hab.1.1,if_neg hk];exact decide_eq_false ⋯
theorem JH{l:()}{a b:Nat}(ha:a ∈ l)(hb:b ∈ l)(h1:bfB k l ns a b=tJ)(h2:bfB k l ns b a=tJ):a=b:=by
 rw[je ha hb]at h1;rw[je hb ha]at h2
 have e:l.idxOf a=l.idxOf b:=by
  by_cases hk:k=1
  ·rw[if_pos hk,decide_eq_false_iff_not]at h1 h2;lia
  ·rw[if_neg hk,decide_eq_false_iff_not]at h1 h2;lia
 have ga:=bT (aY ha);have gb:=bT (aY hb);rw[<- ga,<- gb]
 erw[e]
theorem zdJ{l:()}{a b c:Nat}(ha:a ∈ l)(hb:b ∈ l)(hc:c ∈ l)(h1:bfB k l ns b a=tJ)(h2:bfB k l ns c b=tJ):bfB k l ns c a=tJ:=by
 rw[je hb ha]at h1;rw[je hc hb]at h2;rw[je hc ha];by_cases hk:k=1
 ·rw[if_pos hk,decide_eq_false_iff_not]at h1 h2 ⊢;lia
 ·rw[if_neg hk,decide_eq_false_iff_not]at h1 h2 ⊢;lia
theorem j8{l:()}{a b:Nat}(h:bfB k l ns a b=tI):bfB k l ns b a=tJ:=wj h
def CmR(k:Nat)(l:())(ns:List Int)(pw:Nat->Nat)(p:zm):Prop:=(∃x ∈ l,0<pw x/\p=(am (pw x) x,[]))\/∃a b,(a ∈ l/\b ∈ l)/\bfB k l ns b a=tI/\p=([a,b],[b,a])
def CmD(k:Nat)(l:())(ns:List Int)(pw:Nat->Nat)(p:zm):Prop:=(∃x ∈ l,0<pw x/\p=(am (pw x) x,[]))\/∃a b,(a ∈ l/\b ∈ l)/\(pw a≠1/\pw b≠1)/\bfB k l ns b a=tI/\p=([a,b],[b,a])
theorem CmD.r{l:()}{pw:Nat->Nat}(h:CmD k l ns pw p):CmR k l ns pw p:=by
 rcases h with h | ⟨a,b,h1,_,h2,h3⟩
 ·exact .inl h
 ·exact .inr #[a,b,h1,h2,h3]
theorem CmR.facts{l:()}{pw:Nat->Nat}(hp4:∀x,pw x<=4)(h:CmR k l ns pw p):(1<=p.1.length/\p.1.length<=4/\p.2.length<=2/\p.2.length<=p.1.length)/\(∀c ∈ p.1,c ∈ l)/\(∀c ∈ p.2,c ∈ l)/\p.1≠p.2:=by
 rcases h with ⟨x,hx,h0,rfl⟩ | ⟨a,b,⟨ha,hb⟩,hab,rfl⟩
 ·have:=hp4 x;refine#[by erw[aQ,bj];lia,λc hc=>by rw[bn hc];exact hx,λc hc=>(nomatch hc),λe=>?_];have:=congrArg ci e
  erw[aQ,bj]at this
  lia
 ·refine#[by erw[aD,bj];lia,λc hc=>?_,λc hc=>?_,λe=>?_]
  ·erw[bx,bA,or_false]at hc
   rcases hc with rfl | rfl
   ·exact ha
   ·exact hb
  ·erw[bx,bA,or_false]at hc
   rcases hc with rfl | rfl
   ·exact hb
   ·exact ha
  ·have e':([a,b]:())=[b,a]:=e;injection e' with e1 _;subst e1;rw[j8 hab]at hab;cases hab
noncomputable def muC(k:Nat)(l:())(ns:List Int)(w:()):Nat:=inv (bfB k l ns) w+w.length
theorem CmR.mu{l:()}{pw:Nat->Nat}(h:CmR k l ns pw p)(a b:()):muC k l ns (a ++ p.2 ++ b)<muC k l ns (a ++ p.1 ++ b):=by
 unfold muC;rcases h with ⟨x,hx,h0,rfl⟩ | ⟨c,d,_,hcd,rfl⟩
 ·have:=UN (bf:=bfB k l ns) (am (pw x) x) b a
  erw[aE,ah,aQ]
  lia
 ·have:=Xu hcd (j8 hcd) b a
  erw[ah,aD,bj]
  lia
def zdM(pw:Nat->Nat)(u v:()):Prop:=∀x,u.count x % pw x=v.count x % pw x
theorem wI(pw:Nat->Nat):zbl (zdM pw):=#[λ_ _=>rfl,λh x=>(h x).symm,λh g x=>(h x).trans (g x),λ{u v} a b h x=>by
 rw[cI,cI,cI,cI,fw,fw (a.count x),h x,<- fw (a.count x),<- fw]]
theorem CmR.sam{l:()}{pw:Nat->Nat}(h:CmR k l ns pw p):zdM pw p.1 p.2:=by
 rcases h with ⟨x,hx,h0,rfl⟩ | ⟨a,b,_,_,rfl⟩
 ·intro y;show (am (pw x) x).count y % pw y=([]:()).count y % pw y;rw[fQ,List.count_nil];by_cases e:x=y
  ·subst e;simp
  ·rw[if_neg (by simpa using e)]
 ·intro y;show ([a,b]:()).count y % pw y=([b,a]:()).count y % pw y;rw[(List.Perm.swap b a []).count_eq]
noncomputable def zbE(k:Nat)(l:())(pw:Nat->Nat)(w:()):():=(lsO k l).flatMap λx=>am (w.count x % pw x) x
theorem uB{f:Nat->Nat}{x:Nat}:∀{L:()},L.Nodup->(L.flatMap λy=>am (f y) y).count x=if x ∈ L then f x else 0
 | [],_=>rfl
 | y::L,h=>by
  obtain⟨h1,h2⟩:=tV.mp h;rw[dM,cI,uB h2,fQ];by_cases e:y=x
  ·subst e;rw[if_neg h1];simp
  ·rw[if_neg (by simpa using e)]
   have:(x ∈ y::L) ↔ x ∈ L:=by
    rw[bx];exact#[λh=>h.resolve_left λz=>e z.symm,.inr]
   erw[this,eW]
theorem zb3{l:()}{ns:List Int}{pw:Nat->Nat}(hl:l.Nodup)(hall:∀p,CmD k l ns pw p->p ∈ ps){e:()}(he:∀c ∈ e,c ∈ l)(hno:∀p ∈ ps,¬ Within p.1 e):e=zbE k l pw e:=by
 have kill:∀c ∈ e,pw c≠1:=λc hc h1=>by
  obtain⟨a,b,rfl⟩:=eF hc;refine hno _ (hall (am (pw c) c,[]) (.inl #[c,he c (by simp),⋯,rfl])) #[a,b,?_];rw[h1];simp
 have srt:∀(u e':()),e=u ++ e'->e'.Pairwise λa b=>bfB k l ns b a=tJ:=λu e'=>by
  induction e' generalizing u with
  | nil=>exact λ_=>.nil
  | cons a e' ih =>
   intro hu;have h1:=ih (u ++ [a]) (by rw[hu];simp);refine tX.mpr #[λy hy=>?_,h1]
   cases e' with
   | nil=>cases hy
   | cons b r =>
    have ma:a ∈ e:=by rw[hu];simp
    have mb:b ∈ e:=by rw[hu];simp
    have hab:bfB k l ns b a=tJ:=by
     cases hb:bfB k l ns b a with
     | false=>rfl
     | true=>exact absurd #[u,r,by rw[hu];simp] (hno _ (hall ([a,b],[b,a]) (.inr #[a,b,#[he a ma,he b mb],#[kill a ma,kill b mb],hb,rfl])))
    rcases tP.mp hy with rfl | hy'
    ·exact hab
    ·have my:y ∈ e:=by rw[hu];simp [hy']
     exact zdJ (he a ma) (he b mb) (he y my) hab ((tX.mp h1).1 y hy')
 have h0:e=(lsO k l).flatMap λx=>am (e.count x) x:=by
  refine List.Perm.eq_of_pairwise (le:=λa b=>bfB k l ns b a=tJ) (λa b ha hb h1 h2=>?_) (srt [] e rfl) ?_ ?_
  ·obtain⟨y,hy,hb⟩:=Ai.mp hb;rw[bn hb]at h1 h2 ⊢;exact JH (he a ha) (lsO_mem.mp hy) h2 h1
  ·rw[List.pairwise_flatMap];refine#[λa _=>List.pairwise_replicate.mpr (.inr yD),(zcx (ns:=ns) hl).imp λ{a b} h x hx y hy=>?_];rw[bn hx,bn hy];exact h
  ·rw[List.perm_iff_count];intro x;rw[uB (V9 hl)];split
   ·rfl
   ·rename_i h;exact Ao.mpr λhx=>h (lsO_mem.mpr (he x hx))
 have few:∀x ∈ lsO k l,e.count x % pw x=e.count x:=λx hx=>by
  by_cases hp:pw x=0
  ·rw[hp,Nat.mod_zero]
  ·refine Nat.mod_eq_of_lt (Nat.lt_of_not_le λhle=>?_);refine hno _ (hall (am (pw x) x,[]) (.inl #[x,lsO_mem.mp hx,⋯,rfl])) ?_;obtain⟨L1,L2,hL⟩:=eF hx;have e2:am (e.count x) x=am (pw x) x ++ am (e.count x - pw x) x:=by rw[List.replicate_append_replicate];congr 1;lia
   generalize hf:(λy=>am (e.count y) y)=f at h0;have hfx:f x=am (pw x) x ++ am (e.count x - pw x) x:=by rw[<- e2,<- hf]
   generalize e.count x - pw x=d at hfx;rw[hL,cL,dM,hfx]at h0;exact#[L1.flatMap f,am d x ++ L2.flatMap f,h0.trans (by erw[aH])]
 conv=>lhs;rw[h0]
 unfold zbE;rw[cK,cK];congr 1;exact bw λx hx=>by rw[few x hx]
theorem Ki{l:()}{pw:Nat->Nat}(hl:l.Nodup)(hp4:∀x,pw x<=4)(hps:∀p ∈ ps,CmD k l ns pw p)(hall:∀p,CmD k l ns pw p->p ∈ ps){w:()}(hw:∀c ∈ w,c ∈ l){i:Nat}(h:EndsAt ps w i):wAt ps w i=zbE k l pw w:=by
 have hR:=QF (wI pw) (λp h=>(hps p h).r.sam) w i;have hin:=vh hw (λp h=>((hps p h).r.facts hp4).2.2.1) i;have hno:=qj (λp h e=>by have:=((hps p h).r.facts hp4).1.1;rw[e]at this;simp at this) h.end_;rw[zb3 hl hall hin hno];unfold zbE;rw[cK,cK];congr 1;exact bw λx _=>by rw[hR x]
inductive Flt(k:Nat)(l:())(ns:List Int):List Ent->List Ent->List Ent->Prop where
 | nil (bs:List Ent):Flt k l ns bs [] bs
 | keep {bs es out:List Ent} {e:Ent} (h1:EndsAt (zb bs) e.1 0) (h2:EndsAt (zb bs) e.2.1 0) (h3:e.1≠e.2.1) (h4:zG k l ns e.2.1 e.1=tI) (h5:¬ v0 e) (h:Flt k l ns (bs ++ [e]) es out):Flt k l ns bs (e::es) out
 | drop {bs es out:List Ent} {e:Ent} {i j:Nat} (h1:EndsAt (zb bs) e.1 i) (h2:EndsAt (zb bs) e.2.1 j) (h3:wAt (zb bs) e.1 i=wAt (zb bs) e.2.1 j) (h:Flt k l ns bs es out):Flt k l ns bs (e::es) out
theorem Flt.built{l:()}{bs es out:List Ent}(h:Flt k l ns bs es out):∀{r},y8 k l ns bs es r->r=tG out:=by
 induction h with
 | nil bs =>
  intro r hb;cases hb;rfl
 | keep h1 h2 h3 h4 h5 _ ih =>
  intro r hb
  cases hb with
  | same g1 g2 g3 _ =>
   rw[g1.uniq h1,g2.uniq h2]at g3;exact absurd g3 h3
  | new g1 g2 _ _ g5 =>
   rw[g1.uniq h1,g2.uniq h2,Z4]at g5;unfold zW at g5;rw[if_pos h4]at g5;exact ih g5
  | far g1 g2 _ g4 =>
   rw[g1.uniq h1,g2.uniq h2,Z4]at g4;exact absurd g4 h5
  | stuck g=>exact g.elim (λg=>absurd h1 (g _)) λg=>absurd h2 (g _)
 | drop h1 h2 h3 _ ih =>
  intro r hb
  cases hb with
  | same _ _ _ g4=>exact ih g4
  | new g1 g2 g3 _ _=>exact absurd (by rw[g1.uniq h1,g2.uniq h2];exact h3) g3
  | far g1 g2 g3 _=>exact absurd (by rw[g1.uniq h1,g2.uniq h2];exact h3) g3
  | stuck g=>exact g.elim (λg=>absurd h1 (g _)) λg=>absurd h2 (g _)
theorem xR{p w:()}(h:Within p w):∀c ∈ p,c ∈ w:=λc hc=>by
 obtain⟨a,b,rfl⟩:=h;exact aO _ (ay _ hc)
section
variable{k:Nat}{l:()}{ns:List Int}{pw:Nat->Nat}
theorem Jh{a b:Nat}(h:bfB k l ns b a=tI):a≠b:=λe=>by
 subst e;unfold bfB at h;rw[yD]at h;cases h
theorem CmD.alone{p q:zm}(hp:CmD k l ns pw p)(hq:CmD k l ns pw q):(Within q.1 p.1->q=p)/\¬ Within q.1 p.2:=by
 have two:∀{y a b:Nat},a≠b->pw a≠1->pw b≠1->0<pw y->¬ Within (am (pw y) y) [a,b]:=λ{y a b} hab ha hb h0 hw=>by
  have hl:=xh hw;rw[aQ]at hl;have hy:y ∈ [a,b]:=xR hw y (Ae.mpr #[⋯,rfl])
  erw[bx,bA,or_false]at hy
  have h1:pw y≠1:=by rcases hy with rfl | rfl <;> assumption
  have h2:pw y=2:=by have:=hl.1;erw[aD,bj]at this;lia
  have e:=hl.2 (by rw[h2];rfl);rw[h2]at e;have e':[y,y]=[a,b]:=e;injection e' with e1 e2;injection e2 with e2 _;exact hab (e1.symm.trans e2)
 rcases hp with ⟨x,hx,h0,rfl⟩ | ⟨a,b,⟨ha,hb⟩,⟨na,nb⟩,hab,rfl⟩
 ·rcases hq with ⟨y,hy,h0',rfl⟩ | ⟨c,d,_,_,hcd,rfl⟩
  ·refine#[λhw=>?_,λhw=>?_]
   ·have:y=x:=bn (xR hw y (Ae.mpr #[⋯,rfl]));rw[this]
   ·have:=(xh hw).1
    erw[aQ,bj]at this
    lia
  ·refine#[λhw=>?_,λhw=>?_]
   ·have h1:=bn (xR hw c av);have h2:=bn (xR hw d (by simp));exact absurd (h1.trans h2.symm) (Jh hcd)
   ·have:=(xh hw).1;simp at this
 ·rcases hq with ⟨y,hy,h0',rfl⟩ | ⟨c,d,_,_,hcd,rfl⟩
  ·exact#[λhw=>absurd hw (two (Jh hab) na nb h0'),λhw=>two (Ne.symm (Jh hab)) nb na h0' hw]
  ·refine#[λhw=>?_,λhw=>?_]
   ·have e:[c,d]=[a,b]:=(xh hw).2 rfl;injection e with e1 e2;injection e2 with e2 _;rw[e1,e2]
   ·have e:[c,d]=[b,a]:=(xh hw).2 rfl;injection e with e1 e2;injection e2 with e2 _;rw[e1,e2,j8 hab]at hcd;cases hcd
theorem uj(hp:CmD k l ns pw p)(hps:∀q ∈ ps,CmD k l ns pw q):(p ∉ ps->EndsAt ps p.1 0)/\EndsAt ps p.2 0 :=
 #[λhn=>ZK (none_of λq hq hw=>hn (by rw[<- (hp.alone (hps q hq)).1 hw];exact hq)),ZK (none_of λq hq=>(hp.alone (hps q hq)).2)]
theorem zbb(hp4:∀x,pw x<=4)(hp:CmD k l ns pw p)(hps:∀q ∈ ps,CmD k l ns pw q)(hm:p ∈ ps):EndsAt ps p.1 1/\wAt ps p.1 1=p.2:=by
 cases e:zB (wAt ps p.1 0) ps with
 | none=>exact absurd #[[],[],by show p.1=_;simp] (qj (λq hq h0=>by have:=((hps q hq).r.facts hp4).1.1;rw[h0]at this;simp at this) e p hm)
 | some u =>
  obtain⟨q,h1,h2⟩:=zN e;have hq:=(hp.alone (hps q (ae h1))).1 (ZW h2);subst hq;obtain⟨e1,_⟩:=zU h2
  have e2:wAt ps q.1 1=q.2:=by
   rw[yT e];unfold k8 yK;rw[yv h1];have hl:=congrArg ci e1
   erw[ah]at hl
   change _=q.1.length at hl
   have a1:(wAt ps q.1 0).take ((u.2:Int)).toNat=[]:=tZ.mp ⋯;have a2:(wAt ps q.1 0).drop (((u.2:Int)).toNat+q.1.length)=[]:=tZ.mp ⋯;rw[a1,a2,aT,aE]
  refine#[#[λi hi=>?_,?_,∅],e2]
  ·have:i=0:=⋯;rw[this,e];intro z;cases z
  ·rw[e2];exact (uj hp hps).2.end_
theorem ZA(hp4:∀x,pw x<=4)(hps:∀q ∈ ps,CmD k l ns pw q){w:()}(hw:muC k l ns w<=40)(h1:∀c ∈ w,pw c=1->([c],[]) ∈ ps)(h3:∀q ∈ ps,¬ Within q.1 (w.filter λc=>decide (pw c≠1))):∃i,EndsAt ps w i/\wAt ps w i=w.filter λc=>decide (pw c≠1):=by
 have keep:∀j,(∀c ∈ wAt ps w j,c ∈ w)/\(wAt ps w j).filter (λc=>decide (pw c≠1))=w.filter λc=>decide (pw c≠1):=λj=>by
  induction j with
  | zero=>exact#[λc h=>h,rfl]
  | succ j ih =>
   cases e:zB (wAt ps w j) ps with
   | none =>
    have:wAt ps w (j+1)=wAt ps w j:=by show Y3 ps (wAt ps w j)=_;unfold Y3;rw[e];rfl
    rw[this];exact ih
   | some u =>
    obtain⟨q,g1,g2⟩:=zN e;have hq:=hps q (ae g1);obtain⟨e1,_⟩:=zU g2
    have one:∃c,pw c=1/\q=([c],[]):=by
     refine Classical.byContradiction λhno=>h3 q (ae g1) ?_
     have live:∀c ∈ q.1,pw c≠1:=λc hc=>by
      rcases hq with ⟨x,_,_,rfl⟩ | ⟨a,b,_,⟨na,nb⟩,_,rfl⟩
      ·rw[bn hc];intro hx;exact hno #[x,hx,by rw[hx];rfl]
      ·erw[bx,bA,or_false]at hc
       rcases hc with rfl | rfl <;> assumption
     rw[<- ih.2,<- e1,bu,bu,show q.1.filter (λc=>decide (pw c≠1))=q.1 from Af.mpr λc hc=>decide_eq_true (live c hc)];exact#[_,_,rfl]
    obtain⟨c,hc1,rfl⟩:=one;rw[yT e];unfold k8 yK;rw[yv g1];generalize (wAt ps w j).take ((u.2:Int)).toNat=a at e1;generalize (wAt ps w j).drop (((u.2:Int)).toNat+([c]:()).length)=b at e1;rw[<- e1]at ih;refine#[λd hd=>ih.1 d ?_,?_]
    ·erw[aE,fo]at hd
     rcases hd with h | h
     ·exact aO _ (aO _ h)
     ·exact ay _ h
    ·rw[<- ih.2,bu,bu,bu,bu];simp [hc1]
 obtain⟨i,hi,_⟩:=qX (λq hq a b=>(hps q hq).r.mu a b) hw;refine#[i,hi,?_];rw[<- (keep i).2];refine (Af.mpr λc hc=>?_).symm;rw[decide_eq_true_eq];intro hk;obtain⟨a,b,hab⟩:=eF hc;exact qj (λq hq h0=>by have:=((hps q hq).r.facts hp4).1.1;rw[h0]at this;simp at this) hi.end_ _ (h1 c ((keep i).1 c hc) hk) #[a,b,by rw[hab];simp]
structure FamE(k:Nat)(l:())(ns:List Int)(pw:Nat->Nat)(zs:List Ent):Prop where
 r:∀e ∈ zs,CmR k l ns pw (e.1,e.2.1)
 s:∀e ∈ zs,e.2.2.length=1
 kl:∀e ∈ zs,∀x ∈ e.1,pw x=1->∃f ∈ zs,f.1=[x]
 srt:zs.Pairwise λa b=>qJ k l ns b a=tJ
theorem CmR.lt(G:OG l ns k)(h:CmR k l ns pw p):zG k l ns p.2 p.1=tI:=by
 rcases h with ⟨x,hx,h0,rfl⟩ | ⟨a,b,_,hab,rfl⟩
 ·have hne:am (pw x) x≠[]:=λe=>by
   have:=congrArg ci e
   erw[aQ,bj]at this
   lia
  have:=(Xk (k:=k) (l:=l) (ns:=ns) (t:=am (pw x) x) (u:=[]) (v:=[]) G (λc hc=>by rw[bn hc];exact hx) (λc hc=>(nomatch hc)) (λc hc=>(nomatch hc)) (by simpa using hne)).1;simpa using this
 ·exact hab
theorem FamE.near(hp4:∀x,pw x<=4){zs:List Ent}(h:FamE k l ns pw zs)(he:e ∈ zs):¬ v0 e:=by
 have h1:=h.s e he;have h2:=((h.r e he).facts hp4).1;unfold v0;simp only at h2;lia
theorem jM(G:OG l ns k)(hp4:∀x,pw x<=4){zs:List Ent}(hz:FamE k l ns pw zs):∀(rest pre bs:List Ent),zs=pre ++ rest->(∀b ∈ bs,b ∈ zs/\CmD k l ns pw (b.1,b.2.1))->(∀e ∈ pre,CmD k l ns pw (e.1,e.2.1)->(e.1,e.2.1) ∈ zb bs)->bs.length<=pre.length->bs.Pairwise (λa b=>a.1≠b.1) ->
  ∃out,Flt k l ns bs rest out/\(∀b ∈ out,b ∈ zs/\CmD k l ns pw (b.1,b.2.1))/\(∀e ∈ zs,CmD k l ns pw (e.1,e.2.1)->(e.1,e.2.1) ∈ zb out)/\out.length<=zs.length/\out.Pairwise λa b=>a.1≠b.1
 | [],pre,bs,e0,i1,i2,i3,i4=>by
  rw[aE]at e0;subst e0;exact#[bs,.nil bs,i1,i2,i3,i4]
 | e::rest,pre,bs,e0,i1,i2,i3,i4=>by
  have hps:∀q ∈ zb bs,CmD k l ns pw q:=λq hq=>by
   obtain⟨b,hb,rfl⟩:=tO.mp hq;exact (i1 b hb).2
  have he:e ∈ zs:=by rw[e0];simp
  have hE:=hz.r e he;have e0':zs=(pre ++ [e]) ++ rest:=by rw[e0];simp
  have pre':∀{bs':List Ent},(∀q ∈ zb bs,q ∈ zb bs')->(CmD k l ns pw (e.1,e.2.1)->(e.1,e.2.1) ∈ zb bs')->∀f ∈ pre ++ [e],CmD k l ns pw (f.1,f.2.1)->(f.1,f.2.1) ∈ zb bs':=λ{bs'} s1 s2 f hf hc=>by
   rcases tQ.mp hf with h | h
   ·exact s1 _ (i2 f h hc)
   ·rw[tR.mp h]at hc ⊢;exact s2 hc
  by_cases hd:CmD k l ns pw (e.1,e.2.1)
  ·by_cases hm:(e.1,e.2.1) ∈ zb bs
   ·obtain⟨out,h1,h2⟩:=jM G hp4 hz rest (pre ++ [e]) bs e0' i1 (pre' (λ_ h=>h) λ_=>hm) (by rw[ah];lia) i4;obtain⟨g1,g2⟩:=zbb hp4 hd hps hm;exact#[out,.drop g1 (uj hd hps).2 g2 h1,h2]
   ·have mono:∀q ∈ zb bs,q ∈ zb (bs ++ [e]):=λq hq=>by
     unfold zb at hq ⊢;rw[aq];exact aO _ hq
    obtain⟨out,h1,h2⟩:=jM G hp4 hz rest (pre ++ [e]) (bs ++ [e]) e0' (λb hb=>by
     rcases tQ.mp hb with h | h
     ·exact i1 b h
     ·rw[tR.mp h]
      exact#[he,hd]) (pre' mono λ_=>by
       unfold zb;rw[aq]
       exact ay _ av) (by rw[ah,ah];simp;lia) (by
      refine Ac.mpr #[i4,dD _ _,λb hb x hx heq=>hm ?_];rw[tR.mp hx]at heq;have:=(hd.alone (i1 b hb).2).1 #[[],[],by rw[aT,aE];exact heq.symm];rw[<- this]
      exact tO.mpr #[b,hb,rfl])
    exact#[out,.keep ((uj hd hps).1 hm) (uj hd hps).2 (hE.facts hp4).2.2.2 (hE.lt G) (hz.near hp4 he) h1,h2]
  ·obtain⟨out,h1,h2⟩:=jM G hp4 hz rest (pre ++ [e]) bs e0' i1 (pre' (λ_ h=>h) λh=>absurd h hd) (by rw[ah];lia) i4;rcases hE with h | ⟨a,b,hab,hbf,hp⟩
   ·exact absurd (.inl h) hd
   injection hp with ea eb;have hk:pw a=1\/pw b=1:=Classical.byContradiction λh=>hd (.inr #[a,b,hab,#[λx=>h (.inl x),λx=>h (.inr x)],hbf,by rw[ea,eb]])
   have h1':∀c,c=a\/c=b->pw c=1->([c],[]) ∈ zb bs:=λc hc hc1=>by
    obtain⟨f,hf,ef⟩:=hz.kl e he c (by rw[ea];simpa using hc) hc1
    have hfr:CmD k l ns pw (f.1,f.2.1)/\f.2.1=[]:=by
     rcases hz.r f hf with h | ⟨x,y,_,_,hxy⟩
     ·obtain⟨x,hx,h0,hp⟩:=h;injection hp with p1 p2;exact#[.inl #[x,hx,h0,by rw[p1,p2]],p2]
     ·injection hxy with p1 p2;rw[ef]at p1;cases p1
    have hcl:∀d ∈ e.1,d ∈ l:=λd hd'=>by
     rw[ea]at hd'
     erw[bx,bA,or_false]at hd'
     rcases hd' with rfl | rfl
     ·exact hab.1
     ·exact hab.2
    have hw:Within f.1 e.1:=by
     rw[ef,ea];rcases hc with rfl | rfl
     ·exact#[[],[b],rfl]
     ·exact#[[a],[],rfl]
    have hne:f.1≠e.1:=λh=>by
     rw[ef,ea]at h;cases h
    have hlt:=(wo (k:=k) (ns:=ns) G hcl hw).resolve_left hne;have hsr:=hz.srt;rw[e0]at hf hsr
    have hpre:f ∈ pre:=by
     rcases tQ.mp hf with h | h
     ·exact h
     ·rcases tP.mp h with h | h
      ·exact absurd (by rw[h]) hne
      ·have:=(tX.mp (Ac.mp hsr).2.1).1 f h;unfold qJ at this;rw[if_neg hne,hlt]at this;cases this
    have:=i2 f hpre hfr.1;rw[ef,hfr.2]at this;exact this
   have jh:∀w:(),w.length=2->muC k l ns w<=40:=λw hw=>by
    have:=Vh (bf:=bfB k l ns) (w:=w) ⋯;unfold muC;lia
   have nof:∀w:(),(w.filter λc=>decide (pw c≠1)).length<=1->∀q ∈ zb bs,¬ Within q.1 (w.filter λc=>decide (pw c≠1)):=λw hw q hq hin=>by
    have hl:=(xh hin).1;rcases hps q hq with ⟨x,_,h0,rfl⟩ | ⟨c,d,_,_,_,rfl⟩
    ·rw[aQ]at hl;have hx:=(tS.mp (xR hin x (Ae.mpr #[⋯,rfl]))).2;have:=of_decide_eq_true hx;lia
    ·erw[aD,bj]at hl
     lia
   have fl:([a,b].filter λc=>decide (pw c≠1))=[b,a].filter (λc=>decide (pw c≠1))/\([a,b].filter λc=>decide (pw c≠1)).length<=1:=by
    by_cases ha:pw a=1 <;> by_cases hb:pw b=1 <;> simp_all
   obtain⟨i,g1,g2⟩:=ZA hp4 hps (jh [a,b] rfl) (λc hc=>h1' c (by simpa using hc)) (nof _ fl.2);obtain⟨j,g3,g4⟩:=ZA hp4 hps (jh [b,a] rfl) (λc hc=>h1' c (by erw[bx,bA,or_false]at hc;exact hc.symm)) (nof _ (by rw[<- fl.1];exact fl.2));refine#[out,.drop (i:=i) (j:=j) (by rw[ea];exact g1) (by rw[eb];exact g3) (by rw[ea,eb,g2,g4];exact fl.1) h1,h2]
theorem VF(G:OG l ns k)(hp4:∀x,pw x<=4):∀(es bs:List Ent),(∀e ∈ bs ++ es,CmD k l ns pw (e.1,e.2.1)/\¬ v0 e)->(bs ++ es).Pairwise (λa b=>a.1≠b.1)->Flt k l ns bs es (bs ++ es)
 | [],bs,_,_=>by rw[aE];exact .nil bs
 | e::es,bs,h1,h2=>by
  have hps:∀q ∈ zb bs,CmD k l ns pw q:=λq hq=>by
   obtain⟨b,hb,rfl⟩:=tO.mp hq;exact (h1 b (aO _ hb)).1
  obtain⟨hd,hf⟩:=h1 e (by simp);have ih:=VF G hp4 es (bs ++ [e]) (by simpa using h1) (by simpa using h2);rw[aH]at ih;refine .keep ((uj hd hps).1 λhm=>?_) (uj hd hps).2 (hd.r.facts hp4).2.2.2 (hd.r.lt G) hf ih;obtain⟨b,hb,e1⟩:=tO.mp hm;injection e1 with e1 _;exact (Ac.mp h2).2.2 b hb e av e1
structure JB(k:Nat)(l:())(ns:List Int)(pw:Nat->Nat)(n:Nat)(bs:List Ent):Prop where
 d:∀e ∈ bs,CmD k l ns pw (e.1,e.2.1)
 s:∀e ∈ bs,e.2.2.length=1
 all:∀p,CmD k l ns pw p->p ∈ zb bs
 n:bs.length<=n
theorem zaS(G:OG l ns k)(hp4:∀x,pw x<=4){n m:Nat}{r:Option (List Ent)}(h:vT k l ns (n+2) es r)(hz:∀zs,Lined k l ns es zs->FamE k l ns pw zs/\(∀p,CmD k l ns pw p->p ∈ zb zs)/\zs.length<=m):∃bs,r=tG bs/\JB k l ns pw m bs:=by
 have one:∀{zs},Lined k l ns es zs->∃out,Flt k l ns [] zs out/\JB k l ns pw m out/\(∀b ∈ out,¬ v0 b)/\out.Pairwise λa b=>a.1≠b.1:=λ{zs} hl=>by
  obtain⟨hf,ha,hn⟩:=hz zs hl;obtain⟨out,f1,f2,f3,f4,f5⟩:=jM G hp4 hf zs [] [] rfl (λb hb=>(nomatch hb)) (λb hb=>(nomatch hb)) (al _) .nil;refine#[out,f1,#[λe he=>(f2 e he).2,λe he=>hf.s e (f2 e he).1,λp hp=>?_,⋯],λb hb=>hf.near hp4 (f2 b hb).1,f5];obtain⟨e,he,rfl⟩:=tO.mp (ha p hp);exact f3 e he hp
 cases h with
 | bad h1 h2 =>
  obtain⟨out,f,_⟩:=one h1;cases f.built h2
 | done h1 h2 h3 =>
  obtain⟨out,f,hF,_⟩:=one h1;cases f.built h2;exact#[_,rfl,hF]
 | @more _ _ _ out _ h1 h2 h3 h4 =>
  obtain⟨out',f,hF,hnf,hpw⟩:=one h1;cases f.built h2
  have two:∀{zs},Lined k l ns out zs->Flt k l ns [] zs zs/\JB k l ns pw m zs:=λ{zs} hl=>by
   have raw:ux k l ns out=out:=by
    unfold ux
    rw[Af.mpr λe he=>by
     have:=((hF.d e he).r.facts hp4).2.2.2
     simpa using this]
    refine (bw λe he=>?_).trans (List.map_id _);unfold zW;rw[if_pos ((hF.d e he).r.lt G)];rfl
   have hp:=hl.perm;rw[raw]at hp;refine#[?_,λe he=>hF.d e (hp.mem_iff.mp he),λe he=>hF.s e (hp.mem_iff.mp he),λp hp'=>((hp.map λe:Ent=>(e.1,e.2.1)).mem_iff).mpr (hF.all p hp'),by rw[hp.length_eq];exact hF.n];have:=VF G hp4 (pw:=pw) zs [] (λe he=>#[hF.d e (hp.mem_iff.mp he),hnf e (hp.mem_iff.mp he)]) ((hp.pairwise_iff λh=>Ne.symm h).mpr hpw);exact this
  cases h4 with
  | bad g1 g2=>cases (two g1).1.built g2
  | done g1 g2 g3 =>
   cases (two g1).1.built g2;exact#[_,rfl,(two g1).2]
  | more g1 g2 g3 g4 =>
   cases (two g1).1.built g2;exact absurd rfl g3
end
def Alk(rs rs':List zm):Prop:=rs'.length=rs.length/\∀g:zm->zm,(∀p ∈ rs,g (p.2,p.1)=g p)->(rs'.map g).Perm (rs.map g)
theorem Alk.snoc{rs rs':List zm}{r r':zm}(h:Alk rs rs')(e:r'=r\/r'=(r.2,r.1)):Alk (rs ++ [r]) (rs' ++ [r']):=by
 refine#[by rw[ah,ah,h.1];rfl,λg hg=>?_];rw[aq,aq]
 have e':g r'=g r:=by
  rcases e with rfl | rfl
  ·rfl
  ·exact hg r (ay _ av)
 rw[ar,ar,e'];exact (h.2 g λp hp=>hg p (aO _ hp)).append_right _
theorem Alk.perm{rs rs1 rs2:List zm}(h:Alk rs rs1)(e:rs2.Perm rs1):Alk rs rs2:=#[e.length_eq.trans h.1,λg hg=>(e.map g).trans (h.2 g hg)]
theorem Iss.erase:∀{ds:List L3.D} {vs:List V} {j:Nat},Iss K H ds vs->Iss K H (ds.eraseIdx j) (vs.eraseIdx j)
 | [],vs,j,h=>by
  erw[Iss]at h
  subst h
  erw[eO,Iss]
 | d::ds,vs,j,h=>by
  erw[Iss]at h
  obtain⟨v,r,rfl,h1,h2⟩:=h
  cases j with
  | zero=>exact h2
  | succ j =>
   erw[cN,Iss]
   exact#[v,_,rfl,h1,Iss.erase h2]
theorem ju{α:Type}:∀{xs:List α} {j:Nat} {x:α},xs[j]? = tG x->(x::xs.eraseIdx j).Perm xs
 | [],j,x,h=>by simp at h
 | y::xs,0,x,h=>by simp at h;rw[h];exact .refl _
 | y::xs,j+1,x,h=>by
  rw[cN];exact (List.Perm.swap _ _ _).trans ((ju (by simpa using h)).cons y)
theorem Zj{H H':Hp}{p:pC}(s:Same H H')(h:H' p=tH):H p=tH:=by
 cases e:H p with
 | none=>rfl
 | some o =>
  rw[s _ _ e]at h;cases h
theorem ZG{α β:Type}{g:α->β}:∀{xs:List α} {j:Nat},(xs.map g).eraseIdx j=(xs.eraseIdx j).map g
 | [],j=>by rw[aJ,eO,eO];rfl
 | x::xs,0=>rfl
 | x::xs,j+1=>by rw[ar,cN,cN,ar,ZG]
def ZC(K:pB):Sp:=λvs H Q _=>∃(a:pC) (c:Int) (rs:List zm),vs=[.ref a,.int c]/\qY c/\LsA K H a (rs.map dR)/\rs.length<=20/\∀(D:pC) (H':Hp) (rs':List zm),H D=tH->Same H H'->LsA K H' D (rs'.map dR)->Alk rs rs'->Q (.ref D) H'
theorem gT:sQz 2 ["_law_pacts","_law_cell_here","_law_number","_law_left","_law_pact","_law_told_here"] kM:=by nofun
theorem VB(B:Bt mg)(F:("_law_turned"^^^kM))(nc:(1<<<"_law_mixed") ["_law_cell_here","_law_turn"] [] uN):(2&&&["_law_pacts","_law_cell_here"]) (ZC K):=by
 exists F.ok gT
 ·obtain⟨a,c,rs,rfl,hc,hA,hrl,q⟩:=h
  refine#[_,(zi (zF 2 gT.nd (cl0 nc hr .nil rfl (za (pv 1) (za zf ze))))
   (zi (zF 3 gT.nd (xZ ze))
   (zi (ym PassesOwn.never rfl (yh (pv 0)) (zx (i:=4) gT.nd rfl (.inl rfl))
    (zi (yw (xu aS aZ ba ya (pv 3) (za (zl ix_list (xZ (za (pv 4) (za (zO (za (zl ix_tup (pv 4) zf) (za (zl ix_tup (pv 4) zf) ze))) ze))) (zC xS (pv 2) zf)) ze)))
    (zh (zF 2 gT.nd (zC vd (pv 2) zf)))))
   (zi (zF 2 gT.nd (cl0 nc hr .nil rfl (za (pv 1) (za zf ze))))
   (zi (zF 5 gT.nd (xZ ze))
   (zi (kP PassesOwn.never (zA Yi (zK B.len (pv 3)) zf (zE _))
    (zi (yw (xu aS aZ ba ya (pv 5) (za (xu aS PySem.F.slot_list_pop PySem.F.type_list_pop JC (pv 3) (za (zC xS (pv 2) (zK B.len (pv 3))) ze)) ze)))
    (zh (zF 2 gT.nd (zC vd (pv 2) (zC yN (zK B.len (pv 3)) zf))))))
   (zh (zr (pv 5))))))))),?_]
  have s16:=yb;have s16:=yb;obtain⟨xs,hX,hI⟩:=id hA;have hxl:=hI.len;rw[aa]at hxl;refine zj (λσ H'=>H'=H/\∃z:Int,σ=[!!a,~~~!c,~~~!z,tH,tH,tH]) ?_ ?_
  ·rfl'
   exact u7 hc ∅ ∅ λz _=>#[rfl,z,rfl]
  rintro σ H1 ⟨rfl,z,rfl⟩:_;right;refine zj (λσ H'=>∃D:pC,H1 D=tH/\H'=upd H1 D (.lst [])/\σ=[!!a,~~~!c,~~~!z,!!D,tH,tH]) ?_ ?_
  ·rfl'
   exact#[⋯,λp hp=>#[p,hp,rfl,rfl]]
  rintro σ H2 ⟨D,hD,rfl,rfl⟩:_;right;refine zj (λσ H'=>Same H1 H'/\(∃rs1:List zm,LsA K H' D (rs1.map dR)/\Alk rs rs1)/\∃(z:Int) (v:Option V),σ=[!!a,~~~!c,~~~!z,!!D,v,tH]) ?_ ?_
  ·rfl'
   refine#[#[_,SqL.of (zd hD _ _ hX)],ForL.by (xs:=xs) (λi σ H'=>Same H1 H'/\(∃rs1:List zm,LsA K H' D (rs1.map dR)/\Alk (rs.take i) rs1)/\∃(z:Int) (v:Option V),σ=[!!a,~~~!c,~~~!z,!!D,v,tH]) #[zd hD,#[[],LsA.nil,rfl,λ_ _=>.refl _],_,_,rfl] (λi σ H' _ h=>SqL.of (h.1 _ _ hX)) ?_ ?_]
   ·refine nm4 ?_;rintro i x σ H3 hx ⟨s3,⟨rs1,hL1,hAk⟩,z,v,rfl⟩:_;have hi:=(tN.mp hx).1;obtain⟨r,p,hr,rfl,hsq⟩:=hI.getR hx;have hsq3:=zp s3 hsq;obtain⟨ys,hY,hJ⟩:=hL1;have hyl:=hJ.len;rw[aa,hAk.1,aF]at hyl;have m0:=bK z (b:=2) ∅;have m1:=bL z (b:=2) ∅;right
    erw[yR,bg,be]
    refine zj (λσ H'=>Same H1 H'/\(∃rs1:List zm,LsA K H' D (rs1.map dR)/\Alk (rs.take (i+1)) rs1)/\σ=[!!a,~~~!c,~~~!z,!!D,!!p,tH]) ?_ ?_
    ·rfl'
     have et:rs.take (i+1)=rs.take i ++ [r]:=by
      rw[List.take_add_one,hr];rfl
     rw[et];refine#[.inl #[_,SqL.of hY],_,hsq3,_,rfl,_,hsq3,_,rfl,⋯,λp1 hp1=>#[⋯,λp2 hp2=>#[∅,_,SqL.of zc,?_]]];have s5:=(zd (o:=.tup [.str (tx r.2),.str (tx r.1)]) hp1).trans (zd (o:=.lst [V.ref p,V.ref p1]) hp2);have hr5:SqT K _ p1 [.str (tx r.2),.str (tx r.1)]:=SqT.of (zd (o:=.lst [V.ref p,V.ref p1]) hp2 _ _ zc);rcases (show z % 2=0\/z % 2=1 by lia)with e | e <;> rw[e]
     ·refine#[_,rfl,ys,s5 _ _ hY,⋯,zw (s3.trans s5) hD,rs1 ++ [r],?_,hAk.snoc (.inl rfl)];rw[aq];exact LsA.snoc (s5 _ _ hY) (Iss.same s5 _ _ hJ) (z8 rs1) (wv r) (ZD (zp s5 hsq3))
     ·refine#[_,rfl,ys,s5 _ _ hY,⋯,zw (s3.trans s5) hD,rs1 ++ [(r.2,r.1)],?_,hAk.snoc (.inr rfl)];rw[aq];exact LsA.snoc (s5 _ _ hY) (Iss.same s5 _ _ hJ) (z8 rs1) (wv (r.2,r.1)) (ZD hr5)
    rintro σ H4 ⟨s4,⟨rs4,hL4,hA4⟩,rfl⟩:_;right
    rfl'
    exact#[#[∅,∅],s4,rs4,hL4,hA4]
   ·rintro σ H' ⟨s',⟨rs1,h1,h2⟩,z,v,rfl⟩;rw[bp ⋯]at h2;exact#[s',#[rs1,h1,h2],z,v,rfl]
  rintro σ H3 ⟨s3,⟨rs1,hL1,hAk⟩,z,v,rfl⟩:_;right;refine zj (λσ H'=>H'=H3/\∃(z:Int) (v:Option V),σ=[!!a,~~~!c,~~~!z,!!D,v,tH]) ?_ ?_
  ·rfl'
   exact u7 hc ∅ ∅ λz _=>#[rfl,z,rfl]
  rintro σ H4 ⟨rfl,z,v,rfl⟩:_;right;refine zj (λσ H'=>∃J:pC,H4 J=tH/\H'=upd H4 J (.lst [])/\∃v:Option V,σ=[!!a,~~~!c,~~~!z,!!D,v,!!J]) ?_ ?_
  ·rfl'
   exact#[⋯,λp hp=>#[p,hp,rfl,rfl]]
  rintro σ H5 ⟨J,hJ,rfl,v,rfl⟩:_
  have hJD:J≠D:=λe=>by
   obtain⟨_,h,_⟩:=hL1;rw[<- e,hJ]at h;cases h
  have hJ1:H1 J=tH:=Zj s3 hJ;right;refine zj (λσ H'=>Same H1 H'/\∃rs2:List zm,rs2.Perm rs1/\LsA K H' J (rs2.map dR)/\∃(z:Int) (v:Option V),σ=[!!a,~~~!c,~~~!z,!!D,v,!!J]) ?_ ?_
  ·unfold XO;refine#[λm σ H'=>Same H1 H'/\∃la lb:List zm,la.length=m/\(lb ++ la).Perm rs1/\LsA K H' D (la.map dR)/\LsA K H' J (lb.map dR)/\∃(z:Int) (v:Option V),σ=[!!a,~~~!c,~~~!z,!!D,v,!!J],#[_,s3.trans (zd hJ),rs1,[],rfl,.refl _,hL1.same (zd hJ),LsA.nil,_,_,rfl],?_];rintro m σ H' ⟨s',la,lb,rfl,hpm,hLa,hLb,z,v,rfl⟩;have hpl:=hpm.length_eq;have ha1:=hAk.1;rw[ah]at hpl;obtain⟨xa,hXa,hIa⟩:=id hLa;obtain⟨xb,hXb,hIb⟩:=id hLb;have hal:=hIa.len;have hbl:=hIb.len;rw[aa]at hal hbl
   rfl'
   refine#[_,.inl #[_,SqL.of hXa,rfl],yA (λhpos=>?_) λhn=>?_]
   ·refine#[λσ' H''=>Same H1 H''/\∃la' lb':List zm,la'.length+1=la.length/\(lb' ++ la').Perm rs1/\LsA K H'' D (la'.map dR)/\LsA K H'' J (lb'.map dR)/\∃(z:Int) (v:Option V),σ'=[!!a,~~~!c,~~~!z,!!D,v,!!J],?_,?_]
    ·rintro σ' H'' ⟨t1,la',lb',t2,t3,t4,t5,z,v,rfl⟩;exact#[la'.length,⋯,t1,la',rfl,lb',t3,t4,t5,z,v,rfl]
    refine zj (λσ H''=>Same H1 H''/\∃la' lb':List zm,la'.length+1=la.length/\(lb' ++ la').Perm rs1/\LsA K H'' D (la'.map dR)/\LsA K H'' J (lb'.map dR)/\σ=[!!a,~~~!c,~~~!z,!!D,v,!!J]) ?_ ?_
    ·rfl'
     have m0:=bK z (b:=(xa.length:Int)) ⋯;have m1:=bL z (b:=(xa.length:Int)) ⋯;obtain⟨y,e1,_⟩:=jo (xs:=xa) m0 m1;obtain⟨j,hj,hy,_⟩:=kg e1;obtain⟨r,pr,hr,rfl,hsq⟩:=hIa.getR hy;have ep:=ju hr;have epl:=ep.length_eq;rw[aD]at epl;refine#[.inl #[_,SqL.of hXb],.inl #[_,SqL.of hXa],_,.inl #[_,SqL.of hXa,rfl],⋯,D,xa,_,j,_,rfl,rfl,hXa,⋯,⋯,hj,hy,?_]
     have hXb8:upd H' D (.lst (xa.eraseIdx j)) J=tG (.lst xb):=by
      rw[zk hJD];exact hXb
     have hIa8:Iss K (upd H' D (.lst (xa.eraseIdx j))) ((la.eraseIdx j).map dR) (xa.eraseIdx j):=by
      have h:=Iss.erase (j:=j) (Iss.updL (zs:=xa.eraseIdx j) hXa _ _ (z8 la) hIa);rw[ZG]at h;exact h
     have hIb8:=Iss.updL (zs:=xa.eraseIdx j) hXa _ _ (z8 lb) hIb;refine#[xb,hXb8,⋯,zw (zw s' hD) hJ1,la.eraseIdx j,epl,lb ++ [r],?_,#[xa.eraseIdx j,?_,Iss.updL hXb8 _ _ (z8 _) hIa8],?_]
     ·rw[aH];exact (ep.append_left lb).trans hpm
     ·rw[zk (Ne.symm hJD)];exact zc
     ·rw[aq];exact LsA.snoc hXb8 hIb8 (z8 lb) (wv r) (ZD (jG hXa hsq))
    rintro σ H7 ⟨t1,la',lb',t2,t3,t4,t5,rfl⟩:_;obtain⟨xc,hXc,hIc⟩:=id t4;have hcl:=hIc.len;rw[aa]at hcl;right
    rfl'
    exact#[_,.inl #[_,SqL.of hXc,rfl],#[⋯,⋯],t1,la',t2,lb',t3,t4,t5]
   ·have hla:la=[]:=tZ.mp ⋯;subst hla;rw[aE]at hpm;exact#[s',lb,hpm,xb,hXb,hIb]
  rintro σ H6 ⟨s6,rs2,hp,hL2,z,v,rfl⟩:_;right
  rfl'
  exact q _ _ rs2 hJ1 s6 hL2 (hAk.perm hp)
noncomputable def cmL(pw:Nat->Nat):()->List zm
 | []=>[]
 | x::r=>((r.map λy=>([x,y],[y,x])) ++ if 0<pw x then [(am (pw x) x,[])]else []) ++ cmL pw r
theorem YH{pw:Nat->Nat}:∀{l:()},l.Nodup->p ∈ cmL pw l->(∃x ∈ l,0<pw x/\p=(am (pw x) x,[]))\/∃x y,(x ∈ l/\y ∈ l)/\x≠y/\p=([x,y],[y,x])
 | [],_,h=>(nomatch h)
 | x::r,hl,h=>by
  obtain⟨h1,h2⟩:=tV.mp hl;rcases tQ.mp h with h | h
  ·rcases tQ.mp h with h | h
   ·obtain⟨y,hy,rfl⟩:=tO.mp h;exact .inr #[x,y,#[av,ao _ hy],λe=>h1 (by rw[e];exact hy),rfl]
   ·split at h
    ·rw[tR.mp h];exact .inl #[x,av,by assumption,rfl]
    ·cases h
  ·rcases YH h2 h with ⟨y,hy,g⟩ | ⟨y,z,⟨hy,hz⟩,g⟩
   ·exact .inl #[y,ao _ hy,g]
   ·exact .inr #[y,z,#[ao _ hy,ao _ hz],g]
theorem mem_cmL{pw:Nat->Nat}:∀{l:()},(∀x ∈ l,0<pw x->(am (pw x) x,[]) ∈ cmL pw l)/\∀x ∈ l,∀y ∈ l,x≠y->([x,y],[y,x]) ∈ cmL pw l\/([y,x],[x,y]) ∈ cmL pw l
 | []=>#[λx h=>(nomatch h),λx h=>(nomatch h)]
 | z::r=>by
  obtain⟨ih1,ih2⟩:=mem_cmL (pw:=pw) (l:=r);have fst:∀y ∈ r,([z,y],[y,z]) ∈ cmL pw (z::r):=λy hy=>aO _ (aO _ (tO.mpr #[y,hy,rfl]));refine#[λx hx h0=>?_,λx hx y hy hxy=>?_]
  ·rcases tP.mp hx with rfl | hx
   ·exact aO _ (ay _ (by rw[if_pos h0];exact av))
   ·exact ay _ (ih1 x hx h0)
  ·rcases tP.mp hx with ex | hx'
   ·rcases tP.mp hy with ey | hy'
    ·exact absurd (ex.trans ey.symm) hxy
    ·rw[ex];exact .inl (fst y hy')
   ·rcases tP.mp hy with ey | hy'
    ·rw[ey];exact .inr (fst x hx')
    ·exact (ih2 x hx' y hy' hxy).imp (ay _) (ay _)
theorem jP{pw:Nat->Nat}:∀{l:()},l.length<=3->(cmL pw l).length<=6:=by
 have key:∀l:(),(cmL pw l).length<=Qc l.length+l.length:=λl=>by
  induction l with
  | nil=>exact al _
  | cons x r ih =>
   erw[cmL,ah,aa,aD,Qc]
   have:(if 0<pw x then [(am (pw x) x,([]:()))]else []).length<=1:=by split <;> simp
   lia
 intro l h;have h2:∀n,n<=3->Qc n+n<=6:=∅;have:=key l;have:=h2 _ h;lia
noncomputable def tnR(k:Nat)(l:())(ns:List Int)(p:zm):zm:=if zG k l ns p.2 p.1=tI then p else (p.2,p.1)
theorem Jc{l:()}{zs:List Ent}(hne:∀p ∈ rs,p.1≠p.2)(hz:Lined k l ns (fEs rs rs.length) zs):(zb zs).Perm (rs.map (tnR k l ns))/\∀e ∈ zs,e.2.2.length=1:=by
 have ents:∀e ∈ fEs rs rs.length,e.1≠e.2.1/\e.2.2.length=1:=λe he=>by
  obtain⟨i,p,hi,hp,rfl⟩:=qV he;exact#[hne p (ae hp),rfl]
 have raw:ux k l ns (fEs rs rs.length)=(fEs rs rs.length).map (zW k l ns):=by
  unfold ux;rw[Af.mpr λe he=>by simpa using (ents e he).1]
 have hp:=hz.perm;rw[raw]at hp;refine#[(hp.map λe:Ent=>(e.1,e.2.1)).trans (.of_eq ?_),λe he=>?_]
 ·have e1:((fEs rs rs.length).map (zW k l ns)).map (λe:Ent=>(e.1,e.2.1))=(zb (fEs rs rs.length)).map (tnR k l ns):=by
   unfold zb;rw[cp,cp];refine bw λe _=>?_;show ((zW k l ns e).1,(zW k l ns e).2.1)=tnR k l ns (e.1,e.2.1);unfold zW tnR;by_cases h:zG k l ns e.2.1 e.1=tI
   ·rw[if_pos h,if_pos h]
   ·rw[if_neg h,if_neg h]
  rw[e1,ZP _ _ (al _),aK]
 ·obtain⟨y,hy,rfl⟩:=tO.mp (hp.mem_iff.mp he);unfold zW;split
  ·exact (ents y hy).2
  ·rw[yZ];exact (ents y hy).2
theorem zbY{R:()->()->Prop}(hR:zbl R){w o n:()}{q:Int}(h:zt w q o=tI)(ho:R o n):R w (yK w q o n):=by
 obtain⟨e,_⟩:=zU h;have:=hR.ctx (w.take q.toNat) (w.drop (q.toNat+o.length)) ho;rw[e]at this;exact this
theorem U6{w o n:()}{q:Int}(h:zt w q o=tI)(ho:n.length<=o.length):(yK w q o n).length<=w.length:=by
 obtain⟨e,_⟩:=zU h;have:=congrArg ci e;unfold yK
 erw[ah]at this ⊢
 lia
section
variable{k:Nat}{l:()}{ns:List Int}{pw:Nat->Nat}
theorem zcw(G:OG l ns k){q:zm}:q ∈ (cmL pw l).map (tnR k l ns) ↔ CmR k l ns pw q:=by
 have hnd:=(of_decide_eq_true G.g).2.2.2
 have tot:∀{x y:Nat},x ∈ l->y ∈ l->x≠y->bfB k l ns y x=tJ->bfB k l ns x y=tI:=λ{x y} hx hy hxy h=>by
  cases e:bfB k l ns x y with
  | true=>rfl
  | false=>exact absurd (JH hx hy e h) hxy
 constructor
 ·intro h;obtain⟨p,hp,rfl⟩:=tO.mp h;rcases YH hnd hp with ⟨x,hx,h0,rfl⟩ | ⟨x,y,⟨hx,hy⟩,hxy,rfl⟩
  ·have hc:CmR k l ns pw (am (pw x) x,[]):=.inl #[x,hx,h0,rfl];unfold tnR;rw[if_pos (hc.lt G)];exact hc
  ·unfold tnR;by_cases h:zG k l ns [y,x] [x,y]=tI
   ·rw[if_pos h];exact .inr #[x,y,#[hx,hy],h,rfl]
   ·rw[if_neg h];exact .inr #[y,x,#[hy,hx],tot hx hy hxy (Ak.mpr h),rfl]
 ·intro h;have hlt:=h.lt G;rcases h with ⟨x,hx,h0,rfl⟩ | ⟨a,b,⟨ha,hb⟩,hab,rfl⟩
  ·refine tO.mpr #[_,mem_cmL.1 x hx h0,?_];unfold tnR;rw[if_pos hlt]
  ·rcases mem_cmL.2 a ha b hb (Jh hab)with h | h
   ·refine tO.mpr #[_,h,?_];unfold tnR;rw[if_pos hlt]
   ·refine tO.mpr #[_,h,?_];unfold tnR;rw[if_neg (by rw[show zG k l ns [a,b] [b,a]=tJ from j8 hab];decide)]
theorem J5(G:OG l ns k)(hA:Alk (cmL pw l) rs):(rs.map (tnR k l ns)).Perm ((cmL pw l).map (tnR k l ns)):=by
 have hnd:=(of_decide_eq_true G.g).2.2.2;refine hA.2 _ λp hp=>?_
 have key:∀u v:(),zG k l ns u v=!zG k l ns v u->tnR k l ns (v,u)=tnR k l ns (u,v):=λu v h=>by
  unfold tnR;simp only
  cases e:zG k l ns v u with
  | true =>
   rw[e]at h;rw[h];rfl
  | false =>
   rw[e]at h;rw[h];rfl
 rcases YH hnd hp with ⟨x,hx,h0,rfl⟩ | ⟨x,y,⟨hx,hy⟩,hxy,rfl⟩
 ·have hc:CmR k l ns pw (am (pw x) x,[]):=.inl #[x,hx,h0,rfl];refine key _ _ ?_;have h1:zG k l ns [] (am (pw x) x)=tI:=hc.lt G;rw[h1,wj h1];rfl
 ·refine key _ _ (vf (λc hc=>?_) (λc hc=>?_) λe=>?_)
  ·erw[bx,bA,or_false]at hc
   rcases hc with rfl | rfl <;> assumption
  ·erw[bx,bA,or_false]at hc
   rcases hc with rfl | rfl <;> assumption
  ·injection e with e1 _;exact hxy e1
theorem Y0(G:OG l ns k)(hp4:∀x,pw x<=4)(hA:Alk (cmL pw l) rs):∀p ∈ rs,(p.1≠p.2/\p.1.length<=4/\p.2.length<=4)/\(∀c ∈ p.1,c ∈ l)/\∀c ∈ p.2,c ∈ l:=λp hp=>by
 have h:=(zcw (pw:=pw) G).mp ((J5 G hA).mem_iff.mp (tO.mpr #[p,hp,rfl]));obtain⟨h1,h2,h3,h4⟩:=h.facts hp4;unfold tnR at h1 h2 h3 h4;by_cases g:zG k l ns p.2 p.1=tI
 ·rw[if_pos g]at h1 h2 h3 h4;exact#[#[h4,⋯,⋯],h2,h3]
 ·rw[if_neg g]at h1 h2 h3 h4;exact#[#[λe=>h4 e.symm,by simp only at h1;lia,by simp only at h1;lia],h3,h2]
theorem zb7(G:OG l ns k)(hp4:∀x,pw x<=4)(hne:∀p ∈ rs,p.1≠p.2)(hmem:∀{q},q ∈ rs.map (tnR k l ns) ↔ CmR k l ns pw q)(hn9:rs.length<=9){r:Nat}{w:Bool}(hC:Cpl k l ns (r+1) [] (fEs rs rs.length) w es):w=tI/\JB k l ns pw 9 es:=by
 have hnd:=(of_decide_eq_true G.g).2.2.2
 have thin:∀{r},vT k l ns 20 (fEs rs rs.length) r->∃bs,r=tG bs/\JB k l ns pw 9 bs:=λ{r} h=>by
  refine zaS G hp4 (n:=18) h λzs hz=>?_;obtain⟨hp,h1⟩:=Jc hne hz;have mem:∀{q},q ∈ zb zs ↔ CmR k l ns pw q:=λ{q}=>hp.mem_iff.trans hmem;have hr:∀e ∈ zs,CmR k l ns pw (e.1,e.2.1):=λe he=>mem.mp (tO.mpr #[e,he,rfl]);refine#[#[hr,h1,λe he x hx h1x=>?_,hz.srt],λp hd=>mem.mpr hd.r,?_]
  ·have hxl:=((hr e he).facts hp4).2.1 x hx;obtain⟨f,hf,e1⟩:=tO.mp (mem.mpr (.inl #[x,hxl,⋯,rfl]));injection e1 with e1 _;exact#[f,hf,by rw[e1,h1x];rfl]
  ·have:=hp.length_eq;rw[vx,aa]at this;rw[this];exact hn9
 have good:∀bs,JB k l ns pw 9 bs->qT bs=tJ/\(∀t ∈ ovA (zb bs) (zb bs).length,OkG (zb bs) 40 t)/\unG (zb bs) 40=[]:=λbs hF=>by
  have hps:∀p ∈ zb bs,CmD k l ns pw p:=λp hp=>by
   obtain⟨e,he,rfl⟩:=tO.mp hp;exact hF.d e he
  have hb:qT bs=tJ:=by
   unfold qT;have:=hF.n;rw[decide_eq_false ⋯,Bool.false_or,List.any_eq_false];intro e he;have:=((hF.d e he).r.facts hp4).1;simp only at this;rw[decide_eq_true_eq];lia
  refine#[hb,KQ λt ht=>?_];obtain⟨⟨_,a2⟩,_,b2⟩:=zc3 (l:=l) (ps:=zb bs) (λp h=>#[((hps p h).r.facts hp4).2.1,((hps p h).r.facts hp4).2.2.1]) (λp h=>by have:=((hps p h).r.facts hp4).1;lia) ht;obtain⟨q,q2,h1,h2,h3',h4,h5,h6⟩:=Jg ht;have f1:=((hps q (ae h1)).r.facts hp4).1;have f2:=((hps q2 (ae h2)).r.facts hp4).1;have s1:=vZ q.1 q2.1 t.2.2;have s2:=vc (l:=q.1) (m:=q2.1) (k:=t.2.2) ⋯ h4;have hl:=wN q.1 q2.1 t.2.2 ⋯
  have l1:(pkA (zb bs) t).length<=7:=by
   rw[h5];have:=U6 (n:=q.2) s1 ⋯;lia
  have l2:(pkB (zb bs) t).length<=7:=by
   rw[h6];have:=U6 (n:=q2.2) s2 ⋯;lia
  have mu:∀{v:()},v.length<=7->muC k l ns v<=40:=λ{v} hv=>by
   have:=Vh (bf:=bfB k l ns) hv;unfold muC;lia
  obtain⟨i,hi,_⟩:=qX (λp hp a b=>(hps p hp).r.mu a b) (mu l1);obtain⟨j,hj,_⟩:=qX (λp hp a b=>(hps p hp).r.mu a b) (mu l2);refine#[i,j,hi,hj,?_];rw[Ki hnd hp4 hps hF.all a2 hi,Ki hnd hp4 hps hF.all b2 hj]
  have hs:zdM pw (pkA (zb bs) t) (pkB (zb bs) t):=by
   rw[h5,h6];exact (wI pw).trans ((wI pw).symm (zbY (wI pw) s1 (hps q (ae h1)).r.sam)) (zbY (wI pw) s2 (hps q2 (ae h2)).r.sam)
  unfold zbE;rw[cK,cK];congr 1;exact bw λx _=>by rw[hs x]
 cases hC with
 | slim h =>
  rcases h with h | ⟨bs,h,hb⟩
  ·obtain⟨zs,e,_⟩:=thin h;cases e
  ·obtain⟨zs,e,hF⟩:=thin h;cases e;rw[(good _ hF).1]at hb;cases hb
 | far h hb ht ho =>
  obtain⟨zs,e,hF⟩:=thin h;cases e;exact absurd ((good _ hF).2.1 _ ht) ho
 | whole h hb ho hu =>
  obtain⟨zs,e,hF⟩:=thin h;cases e;exact#[rfl,hF]
 | more h hb ho hu r =>
  obtain⟨zs,e,hF⟩:=thin h;cases e;exact absurd (good _ hF).2.2 hu
end
section
variable{g:TG}{tt:TT}{te:TE}{own:Nat}{ix:()}{σ:L2.St}{H1:Hp}{Q:VK}{D:pC}
end
noncomputable def pwF(l pws:())(x:Nat):Nat:=pws.getD (l.idxOf x) 0
def JL(K:pB):Sp:=λvs H Q _=>∃(l pws:()) (P:pC),vs=[.str (tx l),.ref P]/\H P=tG (.lst ((pws.map dX).map V.int))/\pws.length=l.length/\(∀n ∈ pws,n<=4)/\l.Nodup/\l.length<=3/\∀(D:pC) (H':Hp),H D=tH->Same H H'->LsA K H' D ((cmL (pwF l pws) l).map dR)->Q (.ref D) H'
theorem UG{c n:Nat}:((am n (tx [c]))=(am n [c]).map tx)/\(am n [c]).flatten=am n c:=by
 refine#[by rw[List.map_replicate],?_]
 induction n with
 | zero=>rfl
 | succ n ih=>rw[bQ,cU,ih,bQ];rfl
theorem XV{c n:Nat}{D:pC}(hD:H D=tG (.lst ((am n (tx [c])).map V.str)))(hn:n<=1000)(q:Q (.str (tx (am n c))) H):zbz K (.str (tx [])) [.ref D] H Q:=by
 obtain⟨e1,e2⟩:=UG (c:=c) (n:=n);rw[e1]at hD;refine#[tx [],D,(am n [c]).map tx,rfl,rfl,SqL.of hD,Y2 (by rw[e2,aQ];lia),?_];have e:Txt.join (tx []) ((am n [c]).map tx)=Str.join (tx []) ((am n [c]).map tx):=StrLaws.glued_eq_join _ _;rw[e,YJ,e2];exact q
theorem iS:sQz 2 ["_law_letters_here","_law_powers","_law_pacts","_law_k","_law_letter"] xt:=by nofun
theorem ZU(B:Bt mg)(F:("_law_commuting"^^^xt)) :(1&&&["_law_letters_here","_law_powers"]) (JL K):=by
 exists F.ok iS
 ·obtain⟨l,pws,P,rfl,hP,hpl,hp4,hnd,l3,q⟩:=h
  refine#[_,(zi (zF 2 iS.nd (xZ ze))
   (zi (ym PassesOwn.never rfl (WN rfl B.enum (za (pv 0) ze)) (uA (n:=2) rfl (zY (zx (i:=3) iS.nd rfl (.inl rfl)) (zY (zx (i:=4) iS.nd rfl (Or.inr rfl)) wy)))
    (zi (yw (xu aS e7 e8 Zl (pv 2) (za (yO (own:=["_law_other"]) (caps:=["_law_letter"]) (ix:=[4]) (tt:=xQ) (te:=(WL (zH (tOp jb (zZ 1) (zZ 0)) (zH (tOp jb (zZ 0) (zZ 1)) xF)))) rfl (zJ (sc:=zg xt) rfl (by symm) (by symm) (by symm) rfl (by symm) (by symm) rfl) (ZR (yc wl (pv 0) (yk (zC yz (pv 3) zf)) xw)) (λ_ _ _ _ _ _=>zx (i:=0) (show List.Nodup [_,_] by decide) rfl (.inl rfl)) (λ_ _ _ _ _ _=>z7) (λ_ _ _ _ _ _=>(zO (za (zC yz (pv 1) (pv 0)) (za (zC yz (pv 0) (pv 1)) ze))))) ze)))
    (zh (zP (zA Yi (zl ix_list (pv 1) (pv 3)) zf (zE _))
     (zh (yw (xu aS aZ ba ya (pv 2) (za (zO (za (xu bF dY dZ UJ yB (za (yO (own:=["_law_n"]) (caps:=["_law_letter"]) (ix:=[4]) (tt:=xQ) (te:=(zZ 1)) rfl (zJ (sc:=zg xt) rfl (by symm) (by symm) (by symm) rfl (by symm) (by symm) rfl) (yu rfl B.range (za (zl ix_list (pv 1) (pv 3)) ze)) (λ_ _ _ _ _ _=>zx (i:=0) (show List.Nodup [_,_] by decide) rfl (.inl rfl)) (λ_ _ _ _ _ _=>z7) (λ_ _ _ _ _ _=>(pv 1))) ze)) (za yB ze))) ze))))
     zy))))
   (zh (zr (pv 2))))),?_]
  have s16:=yb;have hcl:=jP (pw:=pwF l pws) l3;refine zj (λσ H'=>∃D:pC,H D=tH/\H'=upd H D (.lst [])/\σ=[~~~l,!!P,!!D,tH,tH]) ?_ ?_
  ·rfl'
   exact#[⋯,λp hp=>#[p,hp,rfl,rfl]]
  rintro σ H2 ⟨D,hD,rfl,rfl⟩:_;right;refine zj (λσ H'=>Same H H'/\LsA K H' D ((cmL (pwF l pws) l).map dR)/\∃v3 v4,σ=[~~~l,!!P,!!D,v3,v4]) ?_ ?_
  ·rfl'
   refine ForE.by (λi σ H'=>Same H H'/\(∃ps:List zm,LsA K H' D (ps.map dR)/\ps ++ cmL (pwF l pws) (l.drop i)=cmL (pwF l pws) l)/\∃v3 v4,σ=[~~~l,!!P,!!D,v3,v4]) #[zd hD,#[[],LsA.nil,rfl],_,_,rfl] ?_ ?_
   ·rintro i x σ H1 p1 hx ⟨s1,⟨ps,hL1,hps⟩,v3,v4,rfl⟩ hp1;have hi:=(tN.mp hx).1;have ex:l.idxOf x=i:=ky hnd (tN.mpr #[aY (ae hx),bT _]) hx
    have hpx:pws[i]? = tG (pwF l pws x):=by
     unfold pwF;rw[ex,af,ag ⋯];rfl
    have hp5:=hp4 _ (ae hpx)
    have hdr:l.drop i=x::l.drop (i+1):=by
     rw[aR hi,(tN.mp hx).2]
    have hpl6:=congrArg ci hps;rw[ah]at hpl6;rw[hdr]at hps;have s2:=s1.trans (zd (o:=.tup [.int (i:Nat),.str (tx [x])]) hp1);have hL2:=hL1.same (zd (o:=.tup [.int (i:Nat),.str (tx [x])]) hp1);refine K3 (SqT.of zc) ?_;generalize upd H1 p1 (.tup [.int (i:Nat),.str (tx [x])])=H2 at s2 hL2;have hrl:(l.drop (i+1)).length<=3:=by rw[bi];lia
    refine zj (λσ H'=>Same H H'/\LsA K H' D ((ps ++ (l.drop (i+1)).map λy=>([x,y],[y,x])).map dR)/\σ=[~~~l,!!P,!!D,-~~~i,tG (.str (tx [x]))]) ?_ ?_
    ·rfl'
     obtain⟨xs,hX,hI⟩:=id hL2;have hxl:=hI.len;rw[aa]at hxl;rw[show (i:Int)+1=((i+1:Nat):Int) by lia,vz l (Int.natCast_nonneg _),aX];generalize l.drop (i+1)=r at hrl ⊢;refine#[.inl #[_,SqL.of hX],⋯,λA hA=>CompS.by (λj tM H'=>Same H2 H'/\H' A=tG (.lst tM)/\Iss K H' (((r.take j).map λy=>([x,y],[y,x])).map dR) tM) #[zd hA,zc,by erw[bI,aJ,Iss]] ?_ ?_]
     ·refine nm4 ?_;rintro j y tM H' hy ⟨hs,hH,hA'⟩:_;have hj:=(tN.mp hy).1;have hal:=hA'.len;rw[aa,aa,aF]at hal;right
      erw[xQ]
      rfl'
      refine#[yM,⋯,⋯,⋯,λp hp=>#[zd hp _ _ hH,⋯,CNx.mk hj #[zw (hs.trans (zd hp)) hA,zc,?_]]];rw[zL hy,aq,aq];exact vq hH hA' hp zaR (z8 _) (by erw[zQ,xv,and_self])
     ·rintro tM H' ⟨hs,hH,hA'⟩;rw[aK]at hA';have hal:=hA'.len;rw[aa,aa]at hal;refine#[D,A,xs,tM,rfl,rfl,hs _ _ hX,hH,⋯,zw (s2.trans hs) hD,#[_,zc,?_]];rw[aq];exact Iss.append (Iss.updL (hs _ _ hX) _ _ (z8 _) (Iss.same hs _ _ hI)) (Iss.updL (hs _ _ hX) _ _ (z8 _) hA')
    rintro σ H3 ⟨s3,hL3,rfl⟩:_;obtain⟨xs,hX,hI⟩:=id hL3;have hxl:=hI.len;rw[aa]at hxl;rw[ah,aa]at hxl;right
    rfl'
    have hP3:=s3 _ _ hP;have hat:atI ((pws.map dX).map V.int) ((i:Nat):Int)=tG (.int (pwF l pws x:Nat)):=vY (by rw[az,az,hpx];rfl);refine#[_,SqL.of hP3,_,hat,_,rfl,yA (λh0=>#[.inl #[_,SqL.of hX],_,SqL.of hP3,_,hat,_,rfl,⋯,⋯,λA hA=>CompR.by (λj tM H'=>Same H3 H'/\H' A=tG (.lst tM)/\tM=(am j (tx [x])).map V.str) #[zd hA,zc,rfl] ?_ ?_]) λh0=>#[s3,_,hL3,?_]]
    ·refine nm3 ?_;rintro j tM H' hj ⟨hs,hH,rfl⟩:_;right
     erw[xQ]
     rfl'
     refine#[yM,hH,by erw[aa,aQ];lia,CNx.mk hj #[zw hs hA,zc,?_]];rw[d7,aq];rfl
    ·rintro tM H' ⟨hs,hH,rfl⟩;rw[aX]at hH;refine XV hH ⋯ #[⋯,λp hp=>?_];have sp:=hs.trans (zd (o:=.tup [.str (tx (am (pwF l pws x) x)),.str (tx [])]) hp);refine#[xs,sp _ _ hX,⋯,zw (s3.trans sp) hD,ps ++ ((l.drop (i+1)).map λy=>([x,y],[y,x])) ++ [(am (pwF l pws x) x,[])],?_,?_]
     ·rw[aq];exact LsA.snoc (sp _ _ hX) (Iss.same sp _ _ hI) (z8 _) (wv (am (pwF l pws x) x,[])) (ZD (SqT.of zc))
     ·rw[<- hps]
      erw[cmL,if_pos (show 0<pwF l pws x by lia),aH]
    ·rw[<- hps]
     erw[cmL,if_neg (show ¬ 0<pwF l pws x by lia),aH,aT]
   ·rintro σ H' ⟨s',⟨ps,hL',hps⟩,v3,v4,rfl⟩;rw[db]at hps;have hps':ps=cmL (pwF l pws) l:=by rw[<- hps];exact (aE ps).symm
    rw[hps']at hL';exact#[s',hL',_,_,rfl]
  rintro σ H3 ⟨s3,hL3,v3,v4,rfl⟩:_;right
  rfl'
  exact q _ _ hD s3 hL3
def vv:Sp:=λvs H Q _=>∃(k:Int) (l:()) (W:pC) (ws:List Int) (w:()),vs=[.int k,.str (tx l),.ref W,.str (tx w)]/\0<=k/\k<3/\uJ l=tI/\H W=tG (.lst (ws.map V.int))/\ws.length=l.length/\(∀n ∈ ws,1<=n/\n<=1000000)/\w.length<=1000/\(∀x ∈ w,x ∈ l)/\∀(p q:pC) (H':Hp),Same H H'->H' p=tG (.tup [.int (zq k.toNat l ws w),.ref q])->H' q=tG (.lst ((vJ k.toNat l w).map V.int))->Q (.ref p) H'
theorem Uk{k:Int}{l:()}{W:pC}{ws:List Int}{w:()}(k0:0<=k)(k3:k<3)(hg:uJ l=tI)(hD:H W=tG (.lst (ws.map V.int)))(hwl:ws.length=l.length)(hwb:∀n ∈ ws,1<=n/\n<=1000000)(hw:w.length<=1000)(hm:∀x ∈ w,x ∈ l)(q:∀(p q:pC) (H':Hp),Same H H'->H' p=tG (.tup [.int (zq k.toNat l ws w),.ref q])->H' q=tG (.lst ((vJ k.toNat l w).map V.int))->Q (.ref p) H'):vv [.int k,.str (tx l),.ref W,.str (tx w)] H Q E:=#[k,l,W,ws,w,rfl,k0,k3,hg,hD,hwl,hwb,hw,hm,q]
theorem ml:sQz 4 ["_law_kind","_law_letters_here","_law_weights","_law_word","_law_seen","_law_weight"] jF:=by nofun
theorem KF(B:Bt mg)(F:("_law_rank"^^^jF)) :(1&&&["_law_kind","_law_letters_here","_law_weights","_law_word"]) vv:=by
 exists F.ok ml
 ·obtain⟨k,l,W,ws,w,rfl,k0,k3,hg,hW,hwl,hwb,hw,hm,q⟩:=h
  refine#[_,(zi (zF 4 ml.nd (pv 3))
   (zi (zF 5 ml.nd (zK B.len (pv 3)))
   (zi (zP (zA uL (pv 0) zf (zE _))
    (zh (zF 4 ml.nd (xu bF dY dZ UJ yB (za (yO (own:=["_law_k"]) (caps:=["_law_word"]) (ix:=[3]) (tt:=xQ) (te:=(tOp (rIx K) (zZ 1) (tOp (rI0 λi j=>.int (i - j)) (tOp (rI0 λi j=>.int (i - j)) (tCB (Ut K) (zH (zZ 1) xF)) (tC (.int 1))) (zZ 0)))) rfl (zJ (sc:=zg jF) rfl (by symm) (by symm) (by symm) rfl (by symm) (by symm) rfl) (yu rfl B.range (za (zK B.len (pv 3)) ze)) (λ_ _ _ _ _ _=>zx (i:=0) (show List.Nodup [_,_] by decide) rfl (.inl rfl)) (λ_ _ _ _ _ _=>z7) (λ_ _ _ _ _ _=>(zl W8 (pv 1) (zC uu (zC uu (zK B.len (pv 1)) zf) (pv 0))))) ze))))
    zy)
   (zi (zP (zA uL (pv 0) zf (zE _))
    (zh (zF 5 ml.nd (xg (zbH rfl) rfl B.sum fG (za (yO (own:=["_law_sign"]) (caps:=["_law_weights","_law_letters_here"]) (ix:=[2,1]) (tt:=xQ) (te:=(tOp (rIx K) (zZ 1) (tBM K "str" VW (zZ 2) (zH (zZ 0) xF)))) rfl (zJ (sc:=zg jF) rfl (by symm) (by symm) (by symm) rfl (by symm) (by symm) rfl) (ZR (pv 3)) (λ_ _ _ _ _ _=>zx (i:=0) (show List.Nodup [_,_,_] by decide) rfl (.inl rfl)) (λ_ _ _ _ _ _=>z7) (λ_ _ _ _ _ _=>(zl W8 (pv 1) (xu bF dU dW JI (pv 2) (za (pv 0) ze))))) ze))))
    zy)
   (zh (zr (zO (za (pv 5) (za (yO (own:=["_law_sign"]) (caps:=["_law_letters_here"]) (ix:=[1]) (tt:=xQ) (te:=(tBM K "str" VW (zZ 1) (zH (zZ 0) xF))) rfl (zJ (sc:=zg jF) rfl (by symm) (by symm) (by symm) rfl (by symm) (by symm) rfl) (ZR (pv 4)) (λ_ _ _ _ _ _=>zx (i:=0) (show List.Nodup [_,_] by decide) rfl (.inl rfl)) (λ_ _ _ _ _ _=>z7) (λ_ _ _ _ _ _=>(xu bF dU dW JI (pv 1) (za (pv 0) ze)))) ze))))))))),?_]
  have s16:=yb;have s16:=yb;obtain⟨l1,l6,lsm,lnd⟩:=of_decide_eq_true hg;refine zj (λσ H'=>H'=H/\σ=[~~~!k,~~~l,!!W,~~~w,~~~w,tH]) ?_ ?_
  ·rfl'
  rintro σ H1 ⟨rfl,rfl⟩:_;right;refine zj (λσ H'=>H'=H1/\σ=[~~~!k,~~~l,!!W,~~~w,~~~w,tG (.int (w.length:Nat))]) ?_ ?_
  ·rfl'
   lia
  rintro σ H2 ⟨rfl,rfl⟩:_;right;refine zj (λσ H'=>Same H2 H'/\σ=[~~~!k,~~~l,!!W,~~~w,tG (.str (tx (ye k.toNat w))),tG (.int (w.length:Nat))]) ?_ ?_
  ·rfl'
   refine yA (λhk=>#[⋯,⋯,⋯,λD hD=>CompR.by (λi tM H'=>Same H2 H'/\H' D=tG (.lst tM)/\tM=(((w.reverse.take i).map λc=>[c]).map tx).map V.str) #[zd hD,zc,rfl] ?_ ?_]) λhk=>?_
   ·refine nm3 ?_;rintro i tM H' hi ⟨hs,hH,rfl⟩:_;rw[aX]at hi
    have hr:w.reverse[i]? = tG (w[w.length - 1 - i]'⋯):=by
     rw[cD hi,ag ⋯]
    have ha:atI w ((w.length:Int) - 1 - (0+(i:Int)))=tG (w[w.length - 1 - i]'⋯):=by
     rw[show (w.length:Int) - 1 - (0+(i:Int))=((w.length - 1 - i:Nat):Int) by lia];exact vY (ag ⋯)
    right
    erw[xQ]
    rfl'
    refine#[yM,⋯,⋯,_,ha,hH,by erw[aa,aF,cw];lia,CNx.mk (by rw[aX];exact hi) #[zw hs hD,zc,?_]];rw[zL hr,aq,aq,aq];rfl
   ·rintro tM H' ⟨hs,hH,rfl⟩;rw[aX,<- cw,aK]at hH
    have hfl:(w.reverse.map λc=>[c]).flatten=w.reverse:=by
     induction w.reverse with
     | nil=>rfl
     | cons a r ih=>rw[ar,cU,ih];rfl
    refine#[tx [],D,(w.reverse.map λc=>[c]).map tx,rfl,rfl,SqL.of hH,Y2 (by rw[hfl,cw];lia),?_];have e:Txt.join (tx []) ((w.reverse.map λc=>[c]).map tx)=Str.join (tx []) ((w.reverse.map λc=>[c]).map tx):=StrLaws.glued_eq_join _ _;rw[e,YJ,hfl];refine#[hs,?_];rw[hk];rfl
   ·refine#[Same.refl _,?_];unfold ye;rw[if_neg ⋯]
  rintro σ H3 ⟨s3,rfl⟩:_;have hW3:=s3 _ _ hW;right;refine zj (λσ H'=>Same H3 H'/\σ=[~~~!k,~~~l,!!W,~~~w,tG (.str (tx (ye k.toNat w))),tG (.int (zq k.toNat l ws w))]) ?_ ?_
  ·rfl'
   refine yA (λhk=>λD hD=>CompS.by (λi tM H'=>Same H3 H'/\H' D=tG (.lst tM)/\tM=((w.take i).map λc=>ws.getD (l.idxOf c) 0).map V.int) #[zd hD,zc,rfl] ?_ ?_) λhk=>?_
   ·refine nm4 ?_;rintro i c tM H' hc ⟨hs,hH,rfl⟩:_;have hci:=(tN.mp hc).1;have hcl:=hm c (ae hc);have hlt:=aY hcl
    have ea:atI (ws.map V.int) ((l.idxOf c:Nat):Int)=tG (.int (ws.getD (l.idxOf c) 0)):=by
     refine vY ?_;rw[az,af,ag ⋯];rfl
    right
    erw[xQ]
    rfl'
    refine#[yM,.inl #[_,SqL.of (hs _ _ hW3),_,by rw[V5 hcl];exact ea,hH,by erw[aa,aF];lia,CNx.mk hci #[zw hs hD,zc,?_]]];rw[zL hc,aq,aq];rfl
   ·rintro tM H' ⟨hs,hH,rfl⟩;rw[aK]at hH;refine#[D,_,rfl,SqL.of hH,hs,congrArg V.int ?_];have e2:=ka (ls:=l) (ns:=ws) lnd hwl (w:=w) hm;unfold Qt at e2;unfold zq;rw[if_pos ⋯,<- e2];rfl
   ·refine#[Same.refl _,?_];unfold zq;rw[if_neg ⋯]
  rintro σ H4 ⟨s4,rfl⟩:_;right
  rfl'
  intro D hD
  have hsm:∀c ∈ ye k.toNat w,c ∈ l:=λc hc=>by
   unfold ye at hc;split at hc
   ·exact hm c (tW.mp hc)
   ·exact hm c hc
  have hsl:(ye k.toNat w).length<=1000:=by
   unfold ye;split
   ·rw[cw];exact hw
   ·exact hw
  refine CompS.by (λi tM H'=>Same H4 H'/\H' D=tG (.lst tM)/\tM=(uK l ((ye k.toNat w).take i)).map V.int) #[zd hD,zc,rfl] ?_ ?_
  ·refine nm4 ?_;rintro i c tM H' hc ⟨hs,hH,rfl⟩:_;have hci:=(tN.mp hc).1;have hcl:=hsm c (ae hc);right
   erw[xQ]
   rfl'
   rw[V5 hcl];refine#[yM,hH,by rw[aa];unfold uK;rw[aa,aF];lia,CNx.mk hci #[zw hs hD,zc,?_]];unfold uK;rw[zL hc,aq,aq];rfl
  ·rintro tM H' ⟨hs,hH,rfl⟩;rw[aK]at hH;exact#[⋯,λp hp=>q p D _ (s3.trans (s4.trans (hs.trans (zd hp)))) zc (zd hp _ _ hH)]
theorem za3{a b c z:pJ}{x y w d:pC}(h:bh z [(c,w),(b,y),(a,x)]=tG d):z ∈ [a,b,c]:=by
 have:=bG h
 erw[bx,Prod.mk.injEq,bA,or_false]at this ⊢
 rcases this with ⟨h,_⟩ | ⟨h,_⟩ | ⟨h,_⟩
 ·exact .inr (.inr h)
 ·exact .inr (.inl h)
 ·exact .inl h
theorem U0{β:Type}{f:β->L3.D}{g:β->V}:∀{ys:List β},(∀y ∈ ys,Is K H (f y) (g y))->Iss K H (ys.map f) (ys.map g)
 | [],_=>by erw[aJ,Iss]
 | y::ys,h=>by
  erw[ar,Iss]
  exact#[_,_,rfl,h y av,U0 λz hz=>h z (ao _ hz)]
theorem Vc{β:Type}{f:β->L3.D}:∀{bs:List β} {xs:List V},Iss K H (bs.map f) xs->∀y ∈ bs.zip xs,Is K H (f y.1) y.2
 | [],xs,_,y,hy=>by cases hy
 | b::bs,xs,h,y,hy=>by
  erw[ar,Iss]at h
  obtain⟨x,r,rfl,h1,h2⟩:=h;rcases tP.mp hy with rfl | hy
  ·exact h1
  ·exact Vc h2 y hy
noncomputable def lp2:rj:=zeC (.Pass #[0,0,0,0]::zX wg)
noncomputable def lq2:pJ:="_law_sorted.<locals>.<lambda>"
def tbR(K:pB):TE:=vF vv [] E0 (zH (zZ 1) (zH (zZ 2) (zH (zZ 3) (zH (tOp (vM K) (zZ 0) (tC (.int 0))) xF))))
theorem zcO{p:pC}{u v w:V}{a b:pJ}(hq:SqT K H p [.str a,.str b])(h:vv [u,v,w,.str a] H Q E0):tbR K [!!p,tG u,tG v,tG w] H Q:=by
 unfold tbR
 rfl'
 exact#[_,hq,_,rfl,h]
theorem JK{k:Int}{l:()}{W:pC}{ws:List Int}{LA:Hp->Prop}{Qf:List V->Hp->Prop}(k0:0<=k)(k3:k<3)(hg:uJ l=tI)(hwl:ws.length=l.length)(hwb:∀n ∈ ws,1<=n/\n<=1000000)(hLA:∀H H',LA H->Same H H'->LA H'):∀(rs:List zm) (xs tM:List V) (ks:List (Int × List Int)) (H:Hp),LA H->H W=tG (.lst (ws.map V.int))->Iss K H (rs.map dR) xs->(∀r ∈ rs,r.1.length<=100/\∀c ∈ r.1,c ∈ l)->Iss K H (ks.map λa=>.tup (rankF.dec a)) tM ->
  (∀acc' H',Same H H'->Iss K H' ((ks ++ rs.map λr=>wH k.toNat l ws r.1).map λa=>.tup (rankF.dec a)) acc'->Qf acc' H')->wk (λx H Q=>LA H/\tbR K [tG x,~~~!k,~~~l,!!W] H Q) xs tM H Qf
 | [],xs,tM,ks,H,hL,hW,hX,hr,hI,h=>by
  erw[aJ,Iss]at hX
  subst hX;exact h tM H (Same.refl _) (by simpa using hI)
 | r::rs,xs,tM,ks,H,hL,hW,hX,hr,hI,h=>by
  erw[ar,Iss]at hX
  obtain⟨v,xs,rfl,hv,hX⟩:=hX
  erw[dR,dS,Is,Iss]at hv
  obtain⟨p,us,rfl,hq,u1,t1,rfl,rfl,u2,t2,rfl,rfl,rfl⟩:=hv;obtain⟨r1,r2⟩:=hr r av;refine#[hL,zcO hq (Uk k0 k3 hg hW hwl hwb ⋯ r2 λp1 q1 H' s' hp hq1=>?_)];refine JK k0 k3 hg hwl hwb hLA rs xs (tM ++ [.ref p1]) (ks ++ [wH k.toNat l ws r.1]) H' (hLA _ _ hL s') (s' _ _ hW) (Iss.same s' _ _ hX) (λx hx=>hr x (ao _ hx)) ?_ λacc' H'' s'' hI'=>h acc' H'' (s'.trans s'') (by simpa using hI');rw[aq];exact kr (Iss.same s' _ _ hI) (qQ hp hq1)
def ZI(K:pB)(TB2:pC):Sp:=λvs H Q _=>∃(a W:pC) (k:Int) (l:()) (ws:List Int) (rs:List zm),vs=[.ref a,.int k,.str (tx l),.ref W]/\LsA K H a (rs.map dR)/\rs.length<=30/\0<=k/\k<3/\uJ l=tI/\H W=tG (.lst (ws.map V.int))/\ws.length=l.length/\(∀n ∈ ws,1<=n/\n<=1000000)/\(∀r ∈ rs,r.1.length<=100/\∀c ∈ r.1,c ∈ l)/\TabOk H TB2 lp2 lq2/\∀(D:pC) (H':Hp) (rs':List zm),SamT TB2 H H'->zbf TB2 lp2 H H'->LsA K H' D (rs'.map dR)->rs'.Perm rs->(rs'.Pairwise λa b=>rankF.lt (wH k.toNat l ws b.1) (wH k.toNat l ws a.1)=tJ)->Q (.ref D) H'
theorem Ud:sQz 4 ["_law_pairs","_law_kind","_law_letters_here","_law_weights"] wg:=by nofun
theorem Vi{f CC TB2:pC}(B:Bt mg)(hsorted:Vm mg)(hCd:PySem.W.CodeHd base CC TB2)(hBt:base.BuiltinsAt mg TB2)(hgT:pq≠TB2)(F:("_law_sorted"^^^wg))(HC:fd.code=.ref CC)(pb:(1<<<"_law_rank") ["_law_kind","_law_letters_here","_law_weights","_law_word"] [] vv):(6&&&["_law_pairs","_law_kind","_law_letters_here","_law_weights"]) (ZI K TB2):=by
 refine VM F HC Ud (λvs H Q E h=>?_) (λA outer s H vs Q E hr h=>?_)
 ·obtain⟨a,W,k,l,ws,rs,rfl,_⟩:=h;rfl
 ·obtain⟨a,W,k,l,ws,rs,rfl,hA,hrl,k0,k3,hg,hW,hwl,hwb,hrs,hTab,q⟩:=h;refine#[_,(zh (zr (WU (k:=2) (p:="_law_pair") (ys:=["_law_kind","_law_letters_here","_law_weights"]) (ixs:=[1,2,3]) (cl:=[("_law_weights",s⁻¹+1+1+1),("_law_letters_here",s⁻¹+1+1),("_law_kind",s⁻¹+1)]) (F:=rankF) (tb:=tbR K) rankF_ok #[rfl,rfl,rfl,∅,rfl,∅,∅] (hr.mono ∅) rfl hsorted fg (za (pv 0) ze) rfl hCd hBt hgT rfl rfl (by intro _ _ _ _;exact rfl) #[rfl,(λj y h=>by match j,h with | 0,h=>cases h;exact#[_,_,rfl,rfl,rfl,rfl,rfl] | 1,h=>cases h;exact#[_,_,rfl,rfl,rfl,rfl,rfl] | 2,h=>cases h;exact#[_,_,rfl,rfl,rfl,rfl,rfl] | j+3,h=>simp at h),λz d h=>za3 h] (λs H f cv hr'=>cl0 (j:=2) pb hr' .nil rfl (za (pv 1) (za (pv 2) (za (pv 3) (za (zl ix_tup (pv 0) zf) ze)))))))),?_];have s16:=yb;unfold Vx
  rfl'
  obtain⟨xs,hX,hI⟩:=id hA;have hxl:=hI.len;rw[aa]at hxl;obtain⟨tp,htp,_⟩:=id hTab;refine#[hTab,λf H2 hf hLA hT2 sT oT=>#[xs,SqL.of (sT.at htp hX λ_ z=>by cases z),⋯,?_,?_]]
  ·intro i hi
   erw[bx,bA,or_false]at hi
   rcases hi with rfl | rfl | rfl <;> exact#[_,rfl]
  ·refine JK k0 k3 hg hwl hwb (λA A' h1 h2=>LamAt.same h1 h2) rs xs [] [] H2 hLA (sT.at htp hW λ_ z=>by cases z) (Iss.samT sT htp _ _ hI) hrs (by erw[aJ,Iss]) λacc' H3 s3 hI3=>#[rs.map λr=>wH k.toNat l ws r.1,by simpa using hI3,λys e D hD=>?_];have hI4:=Iss.same s3 _ _ (Iss.samT sT htp _ _ hI);have W:=rankF_ok.w
   have ez:(rs.map λr=>wH k.toNat l ws r.1).zip xs=(rs.zip xs).map λp:zm × V=>(wH k.toNat l ws p.1.1,p.2):=by
    rw[List.zip_map_left];rfl
   have W1:WkO λ(p q:(Int × List Int) × V)=>rankF.lt p.1 q.1:=#[λa b=>W.asym _ _,λa b c=>W.ntr _ _ _];have W2:WkO λ(p q:zm × V)=>rankF.lt (wH k.toNat l ws p.1.1) (wH k.toNat l ws q.1.1):=#[λa b=>W.asym _ _,λa b c=>W.ntr _ _ _]
   have es:ys=(srt (λ(p q:zm × V)=>rankF.lt (wH k.toNat l ws p.1.1) (wH k.toNat l ws q.1.1)) (([],[]),V.non) (rs.zip xs)).map λp=>(wH k.toNat l ws p.1.1,p.2):=by
    rw[e,ez,Vp (d':=(λp:zm × V=>(wH k.toNat l ws p.1.1,p.2)) (([],[]),V.non)) W1 λ_ _ _ _=>rfl];exact Yd (lt:=λ(p q:(Int × List Int) × V)=>rankF.lt p.1 q.1) (λp:zm × V=>(wH k.toNat l ws p.1.1,p.2)) (([],[]),V.non) (rs.zip xs)
   obtain⟨p1,p2⟩:=X1 W2 (([],[]),V.non) (rs.zip xs);generalize srt (λ(p q:zm × V)=>rankF.lt (wH k.toNat l ws p.1.1) (wH k.toNat l ws q.1.1)) (([],[]),V.non) (rs.zip xs)=zs at es p1 p2;subst es;have sD:=zd (o:=HO.lst ((zs.map λp=>(wH k.toNat l ws p.1.1,p.2)).map (·.2))) hD;refine q D _ (zs.map (·.1)) (sT.trans (SamT.of (s3.trans sD))) (λpos' q' h1 h2=>(oT pos' q' h1 h2).same' (s3.trans sD)) #[_,zc,?_] ?_ (Ap.mpr p2)
   ·have hz:Iss K H3 ((zs.map (·.1)).map dR) ((zs.map λp=>(wH k.toNat l ws p.1.1,p.2)).map (·.2)):=by
     rw[cp,cp];exact U0 λy hy=>Vc (f:=dR) hI4 y (p1.mem_iff.mp hy)
    exact Iss.same sD _ _ hz
   ·have:=p1.map (·.1);rw[e9 ⋯]at this;exact this
noncomputable def u8(c:Bool)(pw:Nat->Nat)(x:Nat)(ys:()):List zm:=(ys.filter λy=>decide (pw x≠1/\pw y≠1)).map λy=>if c then ([x,y],[y,x])else ([y,x],[x,y])
noncomputable def jw(c:Bool)(pw:Nat->Nat):()->List zm
 | []=>[]
 | x::r=>(if 0<pw x then [(am (pw x) x,[])]else []) ++ u8 c pw x r ++ jw c pw r
theorem dueB_mem{c:Bool}{pw:Nat->Nat}{x:Nat}{ys:()}:p ∈ u8 c pw x ys ↔ ∃y ∈ ys,(pw x≠1/\pw y≠1)/\p=if c then ([x,y],[y,x])else ([y,x],[x,y]):=by
 unfold u8;constructor
 ·intro h;obtain⟨y,hy,rfl⟩:=tO.mp h;obtain⟨h1,h2⟩:=tS.mp hy;exact#[y,h1,of_decide_eq_true h2,rfl]
 ·rintro⟨y,hy,h,rfl⟩;exact tO.mpr #[y,tS.mpr #[hy,decide_eq_true h],rfl]
theorem j5{c:Bool}{pw:Nat->Nat}{p:zm}:∀{l:()},l.Nodup->(p ∈ jw c pw l ↔ (∃x ∈ l,0<pw x/\p=(am (pw x) x,[]))\/∃x y,(x ∈ l/\y ∈ l)/\(pw x≠1/\pw y≠1)/\l.idxOf x<l.idxOf y/\p=if c then ([x,y],[y,x])else ([y,x],[x,y]))
 | [],_=>by
  erw[jw,bA,false_and,exists_false,or_self]
 | z::r,hl=>by
  obtain⟨h1,h2⟩:=tV.mp hl;have ih:=j5 (c:=c) (pw:=pw) (p:=p) h2
  have ix:∀y ∈ r,(z::r).idxOf y=r.idxOf y+1:=λy hy=>by
   rw[List.idxOf_cons,show (z == y)=tJ from beq_eq_false_iff_ne.mpr λe=>h1 (e ▸ hy)];rfl
  have iz:(z::r).idxOf z=0:=fP
  erw[jw,fo,ih,dueB_mem]
  constructor
  ·rintro ((h | ⟨y,hy,h3,h4⟩) | ⟨x,hx,h⟩ | ⟨x,y,⟨hx,hy⟩,h3,h4,h5⟩)
   ·by_cases h0:0<pw z
    ·rw[if_pos h0]at h;exact .inl #[z,av,h0,tR.mp h]
    ·rw[if_neg h0]at h;cases h
   ·exact .inr #[z,y,#[av,ao _ hy],h3,by rw[iz,ix y hy];lia,h4]
   ·exact .inl #[x,ao _ hx,h]
   ·exact .inr #[x,y,#[ao _ hx,ao _ hy],h3,by rw[ix x hx,ix y hy];lia,h5]
  ·rintro (⟨x,hx,h0,h⟩ | ⟨x,y,⟨hx,hy⟩,h3,h4,h5⟩)
   ·rcases tP.mp hx with ex | hx
    ·rw[ex]at h0 h;rw[if_pos h0];exact .inl (.inl (tR.mpr h))
    ·exact .inr (.inl #[x,hx,h0,h])
   ·rcases tP.mp hy with ey | hy
    ·rw[ey,iz]at h4;lia
    ·rcases tP.mp hx with ex | hx
     ·rw[ex]at h3 h5;exact .inl (.inr #[y,hy,h3,h5])
     ·rw[ix x hx,ix y hy]at h4;exact .inr (.inr #[x,y,#[hx,hy],h3,⋯,h5])
theorem jA{c:Bool}{pw:Nat->Nat}:∀{l:()},l.Nodup->(jw c pw l).Nodup
 | [],_=>List.nodup_nil
 | z::r,hl=>by
  obtain⟨h1,h2⟩:=tV.mp hl
  have inr:∀p ∈ jw c pw r,∀x ∈ p.1,x ∈ r:=λp hp x hx=>by
   rcases (j5 h2).mp hp with ⟨y,hy,_,rfl⟩ | ⟨y,y',⟨hy,hy'⟩,_,_,rfl⟩
   ·rw[bn hx];exact hy
   ·cases c <;> erw[if_true,bE,if_false,bx,bA,or_false]at hx <;> rcases hx with rfl | rfl <;> assumption
  have inb:∀p ∈ u8 c pw z r,z ∈ p.1/\p.2≠[]:=λp hp=>by
   obtain⟨y,_,_,rfl⟩:=dueB_mem.mp hp;cases c <;> simp
  have inA:∀p ∈ (if 0<pw z then [(am (pw z) z,([]:()))]else []),z ∈ p.1/\p.2=[]:=λp hp=>by
   by_cases h0:0<pw z
   ·rw[if_pos h0]at hp;rw[tR.mp hp];exact#[Ae.mpr #[⋯,rfl],rfl]
   ·rw[if_neg h0]at hp;cases hp
  erw[jw]
  refine Ah.mpr #[Ah.mpr #[by split <;> simp,?_,λa ha b hb e=>?_],jA h2,λa ha b hb e=>?_]
  ·unfold u8;refine Ap.mpr ((h2.filter _).imp λ{a b} h e=>h ?_);cases c <;> simp at e
   ·exact e
   ·exact e
  ·exact (inb b hb).2 (by rw[<- e];exact (inA a ha).2)
  ·refine h1 (inr b hb z ?_);rw[<- e];rcases tQ.mp ha with h | h
   ·exact (inA a h).1
   ·exact (inb a h).1
section
variable{k:Nat}{l:()}{ns:List Int}{pw:Nat->Nat}
theorem Va(hl:l.Nodup):p ∈ jw (decide (k=1)) pw l ↔ CmD k l ns pw p:=by
 rw[j5 hl];unfold CmD;refine or_congr Iff.rfl #[?_,?_]
 ·rintro⟨x,y,⟨hx,hy⟩,⟨h1,h2⟩,h3,rfl⟩;by_cases hk:k=1
  ·exact#[x,y,#[hx,hy],#[h1,h2],by rw[je hy hx,if_pos hk];exact decide_eq_true h3,by rw[decide_eq_true hk];rfl]
  ·exact#[y,x,#[hy,hx],#[h2,h1],by rw[je hx hy,if_neg hk];exact decide_eq_true h3,by rw[decide_eq_false hk];rfl]
 ·rintro⟨a,b,⟨ha,hb⟩,⟨h1,h2⟩,h3,rfl⟩;rw[je hb ha]at h3;by_cases hk:k=1
  ·rw[if_pos hk]at h3;exact#[a,b,#[ha,hb],#[h1,h2],of_decide_eq_true h3,by rw[decide_eq_true hk];rfl]
  ·rw[if_neg hk]at h3;exact#[b,a,#[hb,ha],#[h2,h1],of_decide_eq_true h3,by rw[decide_eq_false hk];rfl]
theorem K6(u v:()):zG k l ns u v=rankF.lt (wH k l ns u) (wH k l ns v):=by
 unfold zG
 erw[rankF,wH]
theorem zbD(G:OG l ns k)(hp4:∀x,pw x<=4)(hF:JB k l ns pw 9 es)(hT:es=[]\/ThinL k l ns es)(hp:rs.Perm (jw (decide (k=1)) pw l))(hs:rs.Pairwise λa b=>rankF.lt (wH k l ns b.1) (wH k l ns a.1)=tJ):zb es=rs:=by
 have hnd:=(of_decide_eq_true G.g).2.2.2;have hm:∀p,p ∈ rs ↔ CmD k l ns pw p:=λp=>hp.mem_iff.trans (Va hnd);have hn:rs.Nodup:=hp.nodup_iff.mpr (jA hnd);refine Zn (r:=λa b:zm=>zG k l ns a.1 b.1=tI) (λx h=>?_) (λx y z h1 h2=>?_) ?_ ?_ λp=>?_
 ·rw[wj h]at h;cases h
 ·exact vg h1 h2
 ·rcases hT with rfl | h
  ·exact .nil
  ·exact YY h
 ·refine (hs.and hn).imp_of_mem λ{a b} ha hb h=>?_;obtain⟨h1,h2⟩:=h;have ca:=(hm a).mp ha;have cb:=(hm b).mp hb
  have ne:wH k l ns a.1≠wH k l ns b.1:=λe=>by
   have:=(JV (k:=k) (ns:=ns) (ca.r.facts hp4).2.1 (cb.r.facts hp4).2.1).mp e;exact h2 ((ca.alone cb).1 (by rw[this];exact#[[],[],by simp])).symm
  have:=qF ne;rw[h1]at this;rw[K6];simpa using this
 ·rw[hm];refine#[λh=>?_,hF.all p];obtain⟨e,he,rfl⟩:=tO.mp h;exact hF.d e he
end
def Ke(K:pB)(TB2:pC):Sp:=λvs H Q _=>∃(k:Int) (l pws:()) (ws:List Int) (W P:pC),vs=[.int k,.str (tx l),.ref W,.ref P]/\0<=k/\k<3/\uJ l=tI/\l.length<=3/\H W=tG (.lst (ws.map V.int))/\ws.length=l.length/\(∀n ∈ ws,1<=n/\n<=1000000)/\H P=tG (.lst ((pws.map dX).map V.int))/\pws.length=l.length/\(∀n ∈ pws,n<=4)/\TabOk H TB2 lp2 lq2/\∀(D:pC) (H':Hp) (rs:List zm),SamT TB2 H H'->zbf TB2 lp2 H H'->LsA K H' D (rs.map dR)->rs.Perm (jw (decide (k.toNat=1)) (pwF l pws) l)->(rs.Pairwise λa b=>rankF.lt (wH k.toNat l ws b.1) (wH k.toNat l ws a.1)=tJ)->Q (.ref D) H'
theorem QZ{c:Bool}{pw:Nat->Nat}{l:()}(h:l.length<=3):(jw c pw l).length<=6:=by
 have key:∀l:(),(jw c pw l).length<=Qc l.length+l.length:=λl=>by
  induction l with
  | nil=>exact al _
  | cons x r ih =>
   erw[jw,u8,ah,aa,aD,Qc]
   have h1:(if 0<pw x then [(am (pw x) x,([]:()))]else []).length<=1:=by split <;> simp
   have h2:=cE (λy=>decide (pw x≠1/\pw y≠1)) r;lia
 have h2:∀n,n<=3->Qc n+n<=6:=∅;exact aP (key l) (h2 _ h)
theorem Ve{c:Bool}{pw:Nat->Nat}{x y:Nat}{ys:()}:u8 c pw x (ys ++ [y])=u8 c pw x ys ++ if pw x≠1/\pw y≠1 then [if c then ([x,y],[y,x])else ([y,x],[x,y])]else []:=by
 unfold u8;rw[bu,aq];congr 1;by_cases h:pw x≠1/\pw y≠1
 ·rw[if_pos h,dH (p:=λy=>decide (pw x≠1/\pw y≠1)) (decide_eq_true h)];rfl
 ·rw[if_neg h,dI (p:=λy=>decide (pw x≠1/\pw y≠1)) (by rw[decide_eq_true_eq];exact h)];rfl
theorem Za{c:Bool}{pw:Nat->Nat}{x n:Nat}{ys:()}:(u8 c pw x (ys.take n)).length<=(u8 c pw x ys).length:=by
 unfold u8;rw[aa,aa];exact ((List.take_sublist n ys).filter _).length_le
theorem mK:sQz 4 ["_law_kind","_law_letters_here","_law_weights","_law_powers","_law_pairs","_law_k","_law_letter","_law_n"] QC:=by nofun
theorem zcM{f TB2:pC}(B:Bt mg)(F:("_law_due"^^^QC))(oQ:(6<<<"_law_sorted") ["_law_pairs","_law_kind","_law_letters_here","_law_weights"] [] (ZI K TB2)):(7&&&["_law_kind","_law_letters_here","_law_weights","_law_powers"]) (Ke K TB2):=by
 exists F.ok mK
 ·obtain⟨k,l,pws,ws,W,P,rfl,k0,k3,hg,l3,hW,hwl,hwb,hP,hpl,hp4,hTab,q⟩:=h
  refine#[_,(zi (zF 4 mK.nd (xZ ze))
   (zi (ym PassesOwn.never rfl (WN rfl B.enum (za (pv 1) ze)) (uA (n:=2) rfl (zY (zx (i:=5) mK.nd rfl (.inl rfl)) (zY (zx (i:=6) mK.nd rfl (Or.inr rfl)) wy)))
    (zi (zP (zA Yi (zl ix_list (pv 3) (pv 5)) zf (zE _))
     (zh (yw (xu aS aZ ba ya (pv 4) (za (zO (za (xu bF dY dZ UJ yB (za (yO (own:=["_law_n"]) (caps:=["_law_letter"]) (ix:=[6]) (tt:=xQ) (te:=(zZ 1)) rfl (zJ (sc:=zg QC) rfl (by symm) (by symm) (by symm) rfl (by symm) (by symm) rfl) (yu rfl B.range (za (zl ix_list (pv 3) (pv 5)) ze)) (λ_ _ _ _ _ _=>zx (i:=0) (show List.Nodup [_,_] by decide) rfl (.inl rfl)) (λ_ _ _ _ _ _=>z7) (λ_ _ _ _ _ _=>(pv 1))) ze)) (za yB ze))) ze))))
     zy)
    (zh (ym PassesOwn.never rfl (Z1 rfl B.range (za (zC yz (pv 5) zf) (za (zK B.len (pv 1)) ze))) (zx (i:=7) mK.nd rfl (.inl rfl))
     (zi (zP (PW.pt (XU (zA qL (zl ix_list (pv 3) (pv 5)) zf (zE _)) (XU (zA qL (zl ix_list (pv 3) (pv 7)) zf (zE _)) (U3 (zA uL (pv 0) zf (zE _))))))
      (zh (yw (xu aS aZ ba ya (pv 4) (za (zO (za (zC yz (pv 6) (zl jy (pv 1) (pv 7))) (za (zC yz (zl jy (pv 1) (pv 7)) (pv 6)) ze))) ze))))
      zy)
     (zh (zP (PW.pt (XU (zA qL (zl ix_list (pv 3) (pv 5)) zf (zE _)) (XU (zA qL (zl ix_list (pv 3) (pv 7)) zf (zE _)) (U3 (zA qL (pv 0) zf (zE _))))))
      (zh (yw (xu aS aZ ba ya (pv 4) (za (zO (za (zC yz (zl jy (pv 1) (pv 7)) (pv 6)) (za (zC yz (pv 6) (zl jy (pv 1) (pv 7))) ze))) ze))))
      zy)))))))
   (zh (zr (cl0 oQ hr .nil rfl (za (pv 4) (za (pv 0) (za (pv 1) (za (pv 2) ze))))))))),?_]
  have s16:=yb;obtain⟨l1,l6,lsm,hnd⟩:=of_decide_eq_true hg;have hcl:=QZ (c:=decide (k.toNat=1)) (pw:=pwF l pws) l3;refine zj (λσ H'=>∃D:pC,H D=tH/\H'=upd H D (.lst [])/\σ=[~~~!k,~~~l,!!W,!!P,!!D,tH,tH,tH]) ?_ ?_
  ·rfl'
   exact#[⋯,λp hp=>#[p,hp,rfl,rfl]]
  rintro σ H2 ⟨D,hD,rfl,rfl⟩:_;right;refine zj (λσ H'=>Same H H'/\LsA K H' D ((jw (decide (k.toNat=1)) (pwF l pws) l).map dR)/\∃v5 v6 v7,σ=[~~~!k,~~~l,!!W,!!P,!!D,v5,v6,v7]) ?_ ?_
  ·rfl'
   refine ForE.by (λi σ H'=>Same H H'/\(∃ps:List zm,LsA K H' D (ps.map dR)/\ps ++ jw (decide (k.toNat=1)) (pwF l pws) (l.drop i)=jw (decide (k.toNat=1)) (pwF l pws) l)/\∃v5 v6 v7,σ=[~~~!k,~~~l,!!W,!!P,!!D,v5,v6,v7]) #[zd hD,#[[],LsA.nil,rfl],_,_,_,rfl] ?_ ?_
   ·rintro i x σ H1 p1 hx ⟨s1,⟨ps,hL1,hps⟩,v5,v6,v7,rfl⟩ hp1;have hi:=(tN.mp hx).1
    have pwx:∀{j y:Nat},l[j]? = tG y->pws[j]? = tG (pwF l pws y):=λ{j y} hy=>by
     have hj:=(tN.mp hy).1;have ex:l.idxOf y=j:=ky hnd (tN.mpr #[aY (ae hy),bT _]) hy;unfold pwF;rw[ex,af,ag ⋯];rfl
    have hpx:=pwx hx;have hp5:=hp4 _ (ae hpx)
    have hdr:l.drop i=x::l.drop (i+1):=by
     rw[aR hi,(tN.mp hx).2]
    have hpl6:=congrArg ci hps;rw[ah]at hpl6;rw[hdr]at hps;have s2:=s1.trans (zd (o:=.tup [.int (i:Nat),.str (tx [x])]) hp1);have hL2:=hL1.same (zd (o:=.tup [.int (i:Nat),.str (tx [x])]) hp1);refine K3 (SqT.of zc) ?_;generalize upd H1 p1 (.tup [.int (i:Nat),.str (tx [x])])=H2 at s2 hL2;obtain⟨xs,hX,hI⟩:=id hL2;have hxl:=hI.len;rw[aa]at hxl;have hatx:∀{H':Hp},Same H H'->H' P=tG (.lst ((pws.map dX).map V.int)):=λs=>s _ _ hP;have hat:∀{j y:Nat},l[j]? = tG y->atI ((pws.map dX).map V.int) ((j:Nat):Int)=tG (.int (pwF l pws y:Nat)):=λ{j y} hy=>vY (by rw[az,az,pwx hy];rfl);refine zj (λσ H'=>Same H H'/\LsA K H' D ((ps ++ if 0<pwF l pws x then [(am (pwF l pws x) x,[])]else []).map dR)/\∃v7,σ=[~~~!k,~~~l,!!W,!!P,!!D,-~~~i,tG (.str (tx [x])),v7]) ?_ ?_
    ·rfl'
     refine#[_,SqL.of (hatx s2),_,hat hx,_,rfl,yA (λh0=>#[.inl #[_,SqL.of hX],_,SqL.of (hatx s2),_,hat hx,_,rfl,⋯,⋯,λA hA=>CompR.by (λj tM H'=>Same H2 H'/\H' A=tG (.lst tM)/\tM=(am j (tx [x])).map V.str) #[zd hA,zc,rfl] ?_ ?_]) λh0=>#[s2,?_]]
     ·refine nm3 ?_;rintro j tM H' hj ⟨hs,hH,rfl⟩:_;right
      erw[xQ]
      rfl'
      refine#[yM,hH,by erw[aa,aQ];lia,CNx.mk hj #[zw hs hA,zc,?_]];rw[d7,aq];rfl
     ·rintro tM H' ⟨hs,hH,rfl⟩;rw[aX]at hH;refine XV hH ⋯ #[⋯,λp hp=>?_];have sp:=hs.trans (zd (o:=.tup [.str (tx (am (pwF l pws x) x)),.str (tx [])]) hp);refine#[xs,sp _ _ hX,⋯,zw (s2.trans sp) hD,?_];rw[if_pos ⋯,aq];exact LsA.snoc (sp _ _ hX) (Iss.same sp _ _ hI) (z8 _) (wv (am (pwF l pws x) x,[])) (ZD (SqT.of zc))
     ·rw[if_neg ⋯,aE];exact hL2
    rintro σ H3 ⟨s3,hL3,v7,rfl⟩:_;right;generalize hA0:(ps ++ if 0<pwF l pws x then [(am (pwF l pws x) x,[])]else [])=A0 at hL3;have hdl:(l.drop (i+1)).length+(i+1)=l.length:=by rw[bi];lia
    have hA0l:A0.length+(u8 (decide (k.toNat=1)) (pwF l pws) x (l.drop (i+1))).length<=6:=by
     have:=congrArg ci hps;rw[<- hA0]
     erw[jw,ah]at this ⊢
     lia
    rfl'
    refine#[⋯,⋯,⋯,⋯,⋯,ForR.by (λj σ H'=>Same H H'/\LsA K H' D ((A0 ++ u8 (decide (k.toNat=1)) (pwF l pws) x ((l.drop (i+1)).take j)).map dR)/\∃v7,σ=[~~~!k,~~~l,!!W,!!P,!!D,-~~~i,tG (.str (tx [x])),v7]) #[s3,by simpa [u8] using hL3,_,rfl] ?_ ?_]
    ·refine nm3 ?_;rintro j σ H4 hj ⟨s4,hL4,v7,rfl⟩:_;have hj':i+1+j<l.length:=⋯;have hy:(l.drop (i+1))[j]? = tG l[i+1+j]:=by rw[List.getElem?_drop,ag hj']
     have hy':l[i+1+j]? = tG l[i+1+j]:=ag hj';right;generalize l[i+1+j]=y at hy hy';have ej:(i:Int)+1+(j:Int)=((i+1+j:Nat):Int):=⋯;have hay:atI l ((i+1+j:Nat):Int)=tG y:=vY hy';have hb6:(u8 (decide (k.toNat=1)) (pwF l pws) x ((l.drop (i+1)).take (j+1))).length<=(u8 (decide (k.toNat=1)) (pwF l pws) x (l.drop (i+1))).length:=Za;have hbe:u8 (decide (k.toNat=1)) (pwF l pws) x ((l.drop (i+1)).take (j+1))=u8 (decide (k.toNat=1)) (pwF l pws) x ((l.drop (i+1)).take j) ++ if pwF l pws x≠1/\pwF l pws y≠1 then [if decide (k.toNat=1)then ([x,y],[y,x])else ([y,x],[x,y])]else []:=by rw[zL hy,Ve]
     have hb7:(u8 (decide (k.toNat=1)) (pwF l pws) x ((l.drop (i+1)).take j)).length<=(u8 (decide (k.toNat=1)) (pwF l pws) x (l.drop (i+1))).length:=Za;have one:∀{z:Nat},¬ V.int ((pwF l pws z:Nat):Int)=V.int 1 ↔ pwF l pws z≠1:=λ{z}=>#[λh e=>h (by rw[e];rfl),λh e=>h (by have:=V.int.inj e;lia)]
     erw[yR,bg,be]
     rw[ej];refine zj (λσ H'=>Same H H'/\LsA K H' D ((A0 ++ u8 (decide (k.toNat=1)) (pwF l pws) x ((l.drop (i+1)).take j) ++ if pwF l pws x≠1/\pwF l pws y≠1/\k=1 then [([x,y],[y,x])]else []).map dR)/\σ=[~~~!k,~~~l,!!W,!!P,!!D,-~~~i,tG (.str (tx [x])),tG (.int (i+1+j:Nat))]) ?_ ?_
     ·rfl'
      obtain⟨zs,hZ,hZi⟩:=id hL4;have hzl:=hZi.len;rw[aa,ah]at hzl;refine#[_,SqL.of (hatx s4),_,hat hx,rfl,yA (λe1=>#[_,SqL.of (hatx s4),_,hat hy',rfl,yA (λe2=>yA (λe3=>#[.inl #[_,SqL.of hZ],⋯,y,hay,⋯,⋯,y,hay,⋯,⋯,λp hp=>?_]) λe3=>#[s4,?_]) λe2=>#[s4,?_]]) λe1=>#[s4,?_]]
      ·have sp:=zd (o:=.tup [.str (tx [x,y]),.str (tx [y,x])]) hp;refine#[zs,sp _ _ hZ,⋯,zw (s4.trans sp) hD,?_];rw[if_pos #[one.mp e1,one.mp e2,e3],aq];exact LsA.snoc (sp _ _ hZ) (Iss.same sp _ _ hZi) (z8 _) (wv ([x,y],[y,x])) (ZD (SqT.of zc))
      ·rw[if_neg λh=>e3 h.2.2,aE];exact hL4
      ·rw[if_neg λh=>e2 (one.mpr h.2.1),aE];exact hL4
      ·rw[if_neg λh=>e1 (one.mpr h.1),aE];exact hL4
     rintro σ H5 ⟨s5,hL5,rfl⟩:_;right
     rfl'
     rw[hbe];by_cases hon:pwF l pws x≠1/\pwF l pws y≠1/\¬ k=1
     ·rw[if_neg λh=>hon.2.2 h.2.2,aE]at hL5;obtain⟨zs,hZ,hZi⟩:=id hL5;have hzl:=hZi.len;rw[aa,ah]at hzl;refine#[_,SqL.of (hatx s5),_,hat hx,rfl,yA (λe1=>#[_,SqL.of (hatx s5),_,hat hy',rfl,yA (λe2=>yA (λe3=>#[.inl #[_,SqL.of hZ],⋯,y,hay,⋯,⋯,y,hay,⋯,⋯,λp hp=>?_]) λe3=>absurd hon.2.2 e3) λe2=>absurd (one.mpr hon.2.1) e2]) λe1=>absurd (one.mpr hon.1) e1];have sp:=zd (o:=.tup [.str (tx [y,x]),.str (tx [x,y])]) hp;refine#[zs,sp _ _ hZ,⋯,zw (s5.trans sp) hD,?_];rw[if_pos #[hon.1,hon.2.1],if_neg (by rw[decide_eq_true_eq];have:=hon.2.2;lia),<- aH,aq];exact LsA.snoc (sp _ _ hZ) (Iss.same sp _ _ hZi) (z8 _) (wv ([y,x],[x,y])) (ZD (SqT.of zc))
     ·have fin:LsA K H5 D ((A0 ++ (u8 (decide (k.toNat=1)) (pwF l pws) x ((l.drop (i+1)).take j) ++ if pwF l pws x≠1/\pwF l pws y≠1 then [if decide (k.toNat=1)then ([x,y],[y,x])else ([y,x],[x,y])]else [])).map dR):=by
       rw[<- aH];by_cases h:pwF l pws x≠1/\pwF l pws y≠1
       ·have hk1:k=1:=Classical.byContradiction λz=>hon #[h.1,h.2,z];rw[if_pos #[h.1,h.2,hk1]]at hL5;rw[if_pos h,if_pos (decide_eq_true (show k.toNat=1 by lia))];exact hL5
       ·rw[if_neg λz=>h #[z.1,z.2.1]]at hL5;rw[if_neg h];exact hL5
      exact#[_,SqL.of (hatx s5),_,hat hx,rfl,yA (λe1=>#[_,SqL.of (hatx s5),_,hat hy',rfl,yA (λe2=>yA (λe3=>absurd #[one.mp e1,one.mp e2,e3] hon) λe3=>#[s5,fin]) λe2=>#[s5,fin]]) λe1=>#[s5,fin]]
    ·rintro σ H' ⟨s',hL',v7,rfl⟩;rw[show ((l.length:Int) - ((i:Int)+1)).toNat=(l.drop (i+1)).length by lia,aK]at hL';exact#[s',#[_,hL',by rw[<- hps,<- hA0];erw[jw,aH]],_,_,_,rfl]
   ·rintro σ H' ⟨s',⟨ps,hL',hps⟩,v5,v6,v7,rfl⟩;rw[db]at hps;have hps':ps=jw (decide (k.toNat=1)) (pwF l pws) l:=by rw[<- hps];exact (aE ps).symm
    rw[hps']at hL';exact#[s',hL',_,_,_,rfl]
  rintro σ H3 ⟨s3,hL3,v5,v6,v7,rfl⟩:_;right
  rfl'
  have hTab3:=hTab.same s3;refine#[D,W,k,l,ws,_,rfl,hL3,⋯,k0,k3,hg,s3 _ _ hW,hwl,hwb,λr hr=>?_,hTab3,λD' H' rs sT oT hL hp hs=>q D' H' rs ((SamT.of s3).trans sT) (λpos' q' h1 h2=>oT pos' q' h1 (h2.same s3)) hL hp hs];have hf:=((Va (k:=k.toNat) (ns:=ws) hnd).mp hr).r.facts λx=>?_
  ·exact#[by have:=hf.1;lia,hf.2.1]
  ·unfold pwF;rw[af]
   cases e:pws[l.idxOf x]? with
   | none=>exact aG _
   | some y=>exact hp4 y (ae e)
theorem TabOk.far{H H':Hp}{T T2:pC}{pos:rj}{q:pJ}{qs:Array pD}(h:TabOk H T2 pos q)(s:SamT T H H')(hT:H T=tG (.tbl qs))(hne:T2≠T):TabOk H' T2 pos q:=by
 obtain⟨ps,h1,h2,h3⟩:=h;refine#[ps,s _ _ hne h1,h2,?_];rcases h3 with h3 | ⟨c',h4,h5⟩
 ·exact .inl h3
 ·exact .inr #[c',h4,s.at hT h5 λ_ z=>by cases z]
theorem zan{k r n:Nat}{l:()}{pw:Nat->Nat}{rs0:List zm}{w:Bool}(G:OG l ns k)(h3:l.length<=3)(hn:n<=3)(hp4:∀x,pw x<=4)(hA:Alk (cmL pw l) rs0)(hC:Cpl k l ns (r+1) [] (fEs (rs0 ++ rs0.take n) (rs0 ++ rs0.take n).length) w es):w=tI/\JB k l ns pw 9 es:=by
 refine zb7 G hp4 (λp hp=>?_) (λ{q}=>?_) ?_ hC
 ·refine (Y0 G hp4 hA p ?_).1.1;rcases tQ.mp hp with h | h
  ·exact h
  ·exact bD h
 ·rw[aq,fo];have e:q ∈ rs0.map (tnR k l ns) ↔ CmR k l ns pw q:=(J5 G hA).mem_iff.trans (zcw G);rw[<- e];refine#[λh=>h.elim id λh=>?_,.inl];obtain⟨p,hp,rfl⟩:=tO.mp h;exact tO.mpr #[p,bD hp,rfl]
 ·have h6:(cmL pw l).length<=6:=jP h3;have:=hA.1;rw[ah,aF];lia
theorem Iss.take:∀(n:Nat) {l:List L3.D} {vs:List V},Iss K H l vs->Iss K H (l.take n) (vs.take n)
 | 0,l,vs,_=>by erw[bI,Iss]
 | n+1,[],vs,h=>by
  erw[Iss]at h
  subst h
  erw[List.take_nil,Iss]
 | n+1,d::l,vs,h=>by
  erw[Iss]at h
  obtain⟨v,r,rfl,h1,h2⟩:=h
  erw[dh,Iss]
  exact#[v,r.take n,rfl,h1,Iss.take n h2]
theorem zcv{l:()}(h:∀p ∈ rs,p.1.length<=60/\p.2.length<=60/\(∀c ∈ p.1,c ∈ l)/\∀c ∈ p.2,c ∈ l):∀e ∈ fEs rs rs.length,EB l e:=λe he=>by
 obtain⟨i,p,hi,hp,rfl⟩:=qV he;obtain⟨g1,g2,g3,g4⟩:=h p (ae hp);exact#[g1,g2,by show ([((i:Int),(0:Int),tI)]:List Stp).length<=600;simp,g3,g4]
def MutE(Hc G:Hp)(D:pC)(n:Nat)(xs:List V):Prop:=∀v ∈ xs,∃p s x y ys,v=.ref p/\vS D G p=tG (.tup [x,y,.ref s])/\vS D G s=tG (.lst ys)/\ys.length<=n/\Hc s=tH
theorem MutE.same{Hc G G':Hp}{D:pC}{n:Nat}{xs:List V}(h:MutE Hc G D n xs)(s:Same G G'):MutE Hc G' D n xs:=λv hv=>by
 obtain⟨p,t,x,y,ys,e,h1,h2,h3⟩:=h v hv;exact#[p,t,x,y,ys,e,yL s _ _ h1,yL s _ _ h2,h3]
theorem MutE.put{Hc G:Hp}{D t:pC}{n:Nat}{xs zs:List V}(h:MutE Hc G D n xs)(ht:vS D G t=tG (.lst zs))(hz:zs.length<=n)(v:V):MutE Hc (upd G t (.lst (zs ++ [v]))) D (n+1) xs:=λw hw=>by
 have htD:t≠D:=λz=>by rw[z,yU]at ht;cases ht
 obtain⟨p,s,x,y,ys,e,h1,h2,h3,h4⟩:=h w hw;have hpD:p≠D:=λz=>by rw[z,yU]at h1;cases h1
 have hpt:p≠t:=λz=>by rw[z,ht]at h1;cases h1
 have hsD:s≠D:=λz=>by rw[z,yU]at h2;cases h2
 rw[z6 hpD]at h1;rw[z6 hsD]at h2;by_cases hst:s=t
 ·refine#[p,s,x,y,zs ++ [v],e,?_,?_,?_,h4]
  ·rw[z6 hpD,zk hpt];exact h1
  ·rw[z6 hsD,hst,zc]
  ·rw[ah]
   erw[aD,bj]
   lia
 ·refine#[p,s,x,y,ys,e,?_,?_,⋯,h4]
  ·rw[z6 hpD,zk hpt];exact h1
  ·rw[z6 hsD,zk hst];exact h2
theorem SamT.put{T t:pC}{H G:Hp}{o:HO}(s:SamT T H G)(ht:H t=tH):SamT T H (upd G t o):=λb o' hb e=>by
 rw[zk (zD e ht)];exact s b o' hb e
theorem TabOk.put{T t:pC}{pos:rj}{q:pJ}{xs zs:List V}(h:TabOk H T pos q)(ht:H t=tG (.lst zs)):TabOk (upd H t (.lst xs)) T pos q:=by
 obtain⟨ps,h1,h2,h3⟩:=h
 have ne:∀{b o},H b=tG o->(∀ys,o≠.lst ys)->b≠t:=λe h z=>by
  rw[z,ht]at e;cases e;exact h _ rfl
 refine#[ps,by rw[zk (ne h1 λ_ z=>by cases z)];exact h1,h2,?_];rcases h3 with h3 | ⟨c',h4,h5⟩
 ·exact .inl h3
 ·exact .inr #[c',h4,by rw[zk (ne h5 λ_ z=>by cases z)];exact h5]
def Xn(K:pB)(T T2:pC):Sp:=λvs H Q _=>∃(a:pC) (ns:List Int),vs=[.ref a]/\SqL K H a (ns.map V.int)/\(∀z ∈ ns,qY z)/\H T=tG (.tbl #[])/\H T2=tG (.tbl #[])/\∀H',Q (.bl tI) H'
theorem gQ:sQz 1 ["_law_script","_law_first","_law_kind","_law_letters_here","_law_weights","_law_powers","_law_pacts","_law_order_here","_law_due_here","_law_turn","_law_found","_law_entry"] vX:=by nofun
theorem zcg{f CO CR CW TB TB2:pC}(B:Bt mg)(F:("law"^^^vX))(mm:(1<<<"_law_cell") ["_law_script","_law_k"] [] (qo K))(oN:(2<<<"_law_letters") ["_law_cell_here","_law_many"] [] uf)(oR:(2<<<"_law_turned") ["_law_pacts","_law_cell_here"] [] (ZC K))(oX:(6<<<"_law_order") ["_law_kind","_law_letters_here","_law_weights"] [] (Y7 K CO CR CW))(pf:(7<<<"_law_due") ["_law_kind","_law_letters_here","_law_weights","_law_powers"] [] (Ke K TB2))(oB:(1<<<"_law_commuting") ["_law_letters_here","_law_powers"] [] (JL K))(oE:(10<<<"completed") ["order","pacts","rounds"] [] (Kj K CO CR CW TB))(pc:(4<<<"_law_told") ["_law_found"] [] (Y1 K))(ph:(2<<<"_law_end") ["_law_pacts","_law_word","_law_steps_here"] [] (Xb K)):(11&&&["_law_script"]) (Xn K TB TB2):=by
 exists F.ok gQ
 ·obtain⟨a,ns,rfl,hS,hB,ht1,ht2,q⟩:=h
  refine#[_,(zi (zF 1 gQ.nd (cl0 mm hr .nil rfl (za (pv 0) (za zf ze))))
   (zi (zF 2 gQ.nd (zC xS (pv 1) zf))
   (zi (zF 3 gQ.nd (cl0 oN hr .nil rfl (za (pv 1) (za (zC yz zf (zC xS (zC vd (pv 1) zf) zf)) ze))))
   (zi (YW (i:=4) gQ.nd rfl (.inl rfl) (.inl rfl) (own:=["_law_k"]) (caps:=["_law_script"]) (ix:=[0]) (tt:=xQ) (te:=(tOp jb (tC (.int 1)) (tOp (rI (λ_ j=>0<j) λi j=>.int (i % j)) (vF (qo K) [] E0 (zH (zZ 1) (zH (tOp jb (tC (.int 1)) (zZ 0)) xF))) (tC (.int 1000000))))) rfl (zJ (sc:=zg vX) rfl (by symm) (by symm) (by symm) rfl (by symm) (by symm) rfl) (yu rfl B.range (za (zK B.len (pv 3)) ze)) (λ_ _ _ _ _ _=>zx (i:=0) (show List.Nodup [_,_] by decide) rfl (.inl rfl)) (λ_ _ _ _ _ _=>z7) (λ_ _ _ _ _ _=>(zC yz zf (zC xS (cl0 mm hr .nil rfl (za (pv 1) (za (zC yz zf (pv 0)) ze))) zf))))
   (zi (YW (i:=5) gQ.nd rfl (.inl rfl) (.inl rfl) (own:=["_law_k"]) (caps:=["_law_script"]) (ix:=[0]) (tt:=xQ) (te:=(tOp (rI (λ_ j=>0<j) λi j=>.int (i % j)) (vF (qo K) [] E0 (zH (zZ 1) (zH (tOp jb (tC (.int 4)) (zZ 0)) xF))) (tC (.int 5)))) rfl (zJ (sc:=zg vX) rfl (by symm) (by symm) (by symm) rfl (by symm) (by symm) rfl) (yu rfl B.range (za (zK B.len (pv 3)) ze)) (λ_ _ _ _ _ _=>zx (i:=0) (show List.Nodup [_,_] by decide) rfl (.inl rfl)) (λ_ _ _ _ _ _=>z7) (λ_ _ _ _ _ _=>(zC xS (cl0 mm hr .nil rfl (za (pv 1) (za (zC yz zf (pv 0)) ze))) zf)))
   (zi (qK (i:=6) gQ.nd rfl (Or.inr rfl) (cl0 oR hr .nil rfl (za (cl0 oB hr .nil rfl (za (pv 3) (za (pv 5) ze))) (za (cl0 mm hr .nil rfl (za (pv 0) (za zf ze))) ze))))
   (zi (qK (i:=6) gQ.nd rfl (Or.inr rfl) (zC yz (pv 6) (yc Yk (pv 6) xw (yk (zC xS (cl0 mm hr .nil rfl (za (pv 0) (za zf ze))) zf)))))
   (zi (zF 7 gQ.nd (cl0 oX hr .nil rfl (za (pv 2) (za (pv 3) (za (pv 4) ze)))))
   (zi (zF 8 gQ.nd (cl0 pf hr .nil rfl (za (pv 2) (za (pv 3) (za (pv 4) (za (pv 5) ze))))))
   (zi (ym PassesOwn.never rfl (yu rfl B.range (za zf ze)) (zx (i:=9) gQ.nd rfl (.inl rfl))
    (zi (zF 10 gQ.nd (cl0 oE hr .nil rfl (za (pv 7) (za (xT xB rfl B.list PySem.Pv.boot_list (za (pv 6) ze)) (za (zC xS (zC vd (cl0 mm hr .nil rfl (za (pv 0) (za zf ze))) zf) zf) ze)))))
    (zi (zP (PW.pt (uH (yj (xy (cl0 pc hr .nil rfl (za (pv 10) ze)) (λ_=>rfl))) (uz (yj (xy (zl ix_tup (pv 10) zf) (λ_=>rfl))))))
     (zh (zr xf))
     zy)
    (zi (zP (zA (zcW (Z9 hr)) (yO (own:=["_law_entry"]) (caps:=[]) (ix:=[]) (tt:=xQ) (te:=(WL (zH (tOp (vM K) (zZ 0) (tC (.int 0))) (zH (tOp (vM K) (zZ 0) (tC (.int 1))) xF)))) rfl (zJ (sc:=zg vX) rfl (by symm) (by symm) (by symm) rfl (by symm) (by symm) rfl) (yh (zl ix_tup (pv 10) zf)) (λ_ _ _ _ _ _=>zx (i:=0) (show List.Nodup [_] by decide) rfl (.inl rfl)) (λ_ _ _ _ _ _=>z7) (λ_ _ _ _ _ _=>(zO (za (zl ix_tup (pv 0) zf) (za (zl ix_tup (pv 0) zf) ze))))) (pv 8) (zE _))
     (zh (zr xf))
     zy)
    (zi (zP (yj (xy (xg (zdX rfl) rfl B.all PyProof.Rows.boot_all (za (yO (own:=["_law_entry"]) (caps:=["_law_pacts"]) (ix:=[6]) (tt:=xQ) (te:=(tOp rEq (vF (Xb K) [] E0 (zH (zZ 1) (zH (tOp (vM K) (zZ 0) (tC (.int 0))) (zH (tOp (vM K) (zZ 0) (tC (.int 2))) xF)))) (tOp (vM K) (zZ 0) (tC (.int 1))))) rfl (zJ (sc:=zg vX) rfl (by symm) (by symm) (by symm) rfl (by symm) (by symm) rfl) (yh (zl ix_tup (pv 10) zf)) (λ_ _ _ _ _ _=>zx (i:=0) (show List.Nodup [_,_] by decide) rfl (.inl rfl)) (λ_ _ _ _ _ _=>z7) (λ_ _ _ _ _ _=>(uc uL (cl0 ph hr .nil rfl (za (pv 1) (za (zl ix_tup (pv 0) zf) (za (zl ix_tup (pv 0) zf) ze)))) (zl ix_tup (pv 0) zf) (zE _)))) ze)) (λ_=>rfl)))
     (zh (zr xf))
     zy)
    (zi (ym PassesOwn.never rfl (yh (zl ix_tup (pv 10) zf)) (zx (i:=11) gQ.nd rfl (.inl rfl))
     (zh (yw (xu aS aZ ba ya (zl ix_tup (pv 11) zf) (za (zO (za zf (za zf (za xf ze)))) ze)))))
    (zh (yw (xu aS aZ ba ya (zl ix_tup (pv 10) zf) (za (zO (za yB (za yB (za (xZ ze) ze)))) ze))))))))))
   (zh (zr xf)))))))))))),?_]
  have s16:=yb;have hTab:TabOk H TB lp lq:=#[#[],ht1,trivial,.inl rfl];have hTab2:TabOk H TB2 lp2 lq2:=#[#[],ht2,trivial,.inl rfl];refine zj (λσ H'=>H'=H/\∃n:Int,qY n/\σ=[!!a,~~~!n,tH,tH,tH,tH,tH,tH,tH,tH,tH,tH]) ?_ ?_
  ·rfl'
   exact wP hS hB ∅ λc hc=>#[rfl,c,hc,rfl]
  rintro σ H0 ⟨rfl,n,hn,rfl⟩:_;have m0:=bK n (b:=3) ∅;have m1:=bL n (b:=3) ∅;right;refine zj (λσ H'=>H'=H0/\σ=[!!a,~~~!n,tG (.int (n % 3)),tH,tH,tH,tH,tH,tH,tH,tH,tH]) ?_ ?_
  ·rfl'
   decide
  rintro σ H0 ⟨rfl,rfl⟩:_;obtain⟨z,hz⟩:∃z,n % 3=z:=#[_,rfl];rw[hz]at m0 m1 ⊢;right;refine zj (λσ H'=>H'=H0/\∃l:(),uJ l=tI/\l.length<=3/\σ=[!!a,~~~!n,~~~!z,~~~l,tH,tH,tH,tH,tH,tH,tH,tH]) ?_ ?_
  ·rfl'
   have e0:=bK (n / 3) (b:=3) ∅;have e1:=bL (n / 3) (b:=3) ∅;exact#[#[∅,∅],∅,Ys hn ⋯ ⋯ λl hl hnd hs=>#[rfl,l,decide_eq_true #[⋯,⋯,hs,hnd],⋯,rfl]]
  rintro σ H1 ⟨rfl,l,hg,l3,rfl⟩:_;obtain⟨l1,l6,lsm,lnd⟩:=of_decide_eq_true hg;right;refine zj (λσ H'=>Same H1 H'/\∃(W:pC) (ws:List Int),H' W=tG (.lst (ws.map V.int))/\ws.length=l.length/\(∀n ∈ ws,1<=n/\n<=1000000)/\σ=[!!a,~~~!n,~~~!z,~~~l,!!W,tH,tH,tH,tH,tH,tH,tH]) ?_ ?_
  ·rfl'
   refine#[⋯,⋯,⋯,λD hD=>CompR.by (λi tM H'=>Same H1 H'/\H' D=tG (.lst tM)/\∃ws:List Int,tM=ws.map V.int/\ws.length=i/\∀n ∈ ws,1<=n/\n<=1000000) #[zd hD,zc,[],rfl,rfl,λn h=>(nomatch h)] ?_ ?_]
   ·refine nm3 ?_;rintro i tM H' hi ⟨hs,hH,ws,rfl,hwl,hwb⟩:_;right
    erw[xQ]
    rfl'
    refine#[yM,wP (hs.seq hS) hB ⋯ λc hc=>#[_,rfl,∅,hH,by rw[aa];lia,CNx.mk hi #[zw hs hD,zc,ws ++ [1+c % 1000000],by rw[aq];rfl,by rw[ah,hwl];rfl,λz hz=>?_]]];rcases tQ.mp hz with h | h
    ·exact hwb z h
    ·rw[tR.mp h];lia
   ·rintro tM H' ⟨hs,hH,ws,rfl,hwl,hwb⟩;exact#[hs,D,ws,hH,⋯,hwb,rfl]
  rintro σ H2 ⟨s2,W,ws,hW,hwl,hwb,rfl⟩:_;have hS2:=s2.seq hS;right;refine zj (λσ H'=>Same H2 H'/\∃(P:pC) (pws:()),H' P=tG (.lst ((pws.map dX).map V.int))/\pws.length=l.length/\(∀n ∈ pws,n<=4)/\σ=[!!a,~~~!n,~~~!z,~~~l,!!W,!!P,tH,tH,tH,tH,tH,tH]) ?_ ?_
  ·rfl'
   refine#[⋯,⋯,⋯,λD hD=>CompR.by (λi tM H'=>Same H2 H'/\H' D=tG (.lst tM)/\∃ws:(),tM=(ws.map dX).map V.int/\ws.length=i/\∀n ∈ ws,n<=4) #[zd hD,zc,[],rfl,rfl,λn h=>(nomatch h)] ?_ ?_]
   ·refine nm3 ?_;rintro i tM H' hi ⟨hs,hH,ws,rfl,hwl,hwb⟩:_;right
    erw[xQ]
    rfl'
    refine#[yM,wP (hs.seq hS2) hB ⋯ λc hc=>#[_,rfl,∅,hH,by rw[aa,aa];lia,CNx.mk hi #[zw hs hD,zc,ws ++ [(c % 5).toNat],?_,by rw[ah,hwl];rfl,λz hz=>?_]]]
    ·rw[aq,aq];show _=_ ++ [V.int (((c % 5).toNat:Nat):Int)];rw[Int.toNat_of_nonneg (bK c ∅)]
    ·rcases tQ.mp hz with h | h
     ·exact hwb z h
     ·rw[tR.mp h];have:=bL c (b:=5) ∅;lia
   ·rintro tM H' ⟨hs,hH,ws,rfl,hwl,hwb⟩;exact#[hs,D,ws,hH,⋯,hwb,rfl]
  rintro σ H3 ⟨s3,P,pws,hP,hpl,hp4,rfl⟩:_;have hS3:=s3.seq hS2
  have hpw4:∀x,pwF l pws x<=4:=λx=>by
   unfold pwF;rw[af]
   cases e:pws[l.idxOf x]? with
   | none=>exact aG _
   | some y=>exact hp4 y (ae e)
  right;refine zj (λσ H'=>Same H3 H'/\∃pa:pC,(∃rs,LsA K H' pa (rs.map dR)/\Alk (cmL (pwF l pws) l) rs)/\σ=[!!a,~~~!n,~~~!z,~~~l,!!W,!!P,!!pa,tH,tH,tH,tH,tH]) ?_ ?_
  ·rfl'
   refine#[l,pws,P,rfl,hP,hpl,hp4,lnd,l3,λD H4 hD s4 hL4=>wP (s4.seq hS3) hB ∅ λc hc=>#[D,c,_,rfl,hc,hL4,aP (jP l3) ∅,λD' H5 rs' _ s5 hL5 hA=>#[s4.trans s5,D',#[rs',hL5,hA],rfl]]]
  rintro σ H4 ⟨s4,pa0,⟨rs0,hPa0,hA⟩,rfl⟩:_;have hrn0:rs0.length<=6:=by rw[hA.1];exact jP l3
  have hS4:=s4.seq hS3;right;refine zj (λσ H'=>Same H4 H'/\∃pa:pC,(∃m,m<=3/\LsA K H' pa ((rs0 ++ rs0.take m).map dR))/\σ=[!!a,~~~!n,~~~!z,~~~l,!!W,!!P,!!pa,tH,tH,tH,tH,tH]) ?_ ?_
  ·rfl'
   refine wP hS4 hB ∅ λc hc=>?_;have c0:=bK c (b:=4) ∅;have c4:=bL c (b:=4) ∅;obtain⟨px,hPx,hPi⟩:=id hPa0;have hpx:=hPi.len;rw[aa]at hpx;have hct:zaA px tH (tG (c % 4))=px.take (c % 4).toNat:=jm px c0;refine#[c,rfl,∅,px,SqL.of hPx,λp hp=>?_];rw[hct];have u1:=zd (o:=HO.lst (px.take (c % 4).toNat)) hp;refine#[px,u1 _ _ hPx,_,zc,by rw[aF];lia,λp1 hp1=>?_];have u2:=u1.trans (zd (o:=HO.lst (px ++ px.take (c % 4).toNat)) hp1);refine#[u2,(c % 4).toNat,⋯,#[_,zc,?_]];rw[aq,List.map_take];exact Iss.append (Iss.same u2 _ _ hPi) (Iss.take _ (Iss.same u2 _ _ hPi))
  rintro σ H5 ⟨s5,pa,⟨m,m3,hPa⟩,rfl⟩:_;have hW5:=(s3.trans (s4.trans s5)) _ _ hW;have hP5:=(s4.trans s5) _ _ hP;have hS5:=s5.seq hS4;right;refine zj (λσ H'=>Same H5 H'/\∃(o:pC),OrdAt CO CR CW H' o z.toNat l ws/\σ=[!!a,~~~!n,~~~!z,~~~l,!!W,!!P,!!pa,!!o,tH,tH,tH,tH]) ?_ ?_
  ·rfl'
   exact#[z,l,W,ws,rfl,m0,m1,hg,hW5,hwl,hwb,λo H' s' ho=>#[s',o,ho,rfl]]
  rintro σ H6 ⟨s6,o,ho,rfl⟩:_;have hG:OG l ws z.toNat:=#[hg,⋯,hwl,hwb];have s16:=(s2.trans s3).trans ((s4.trans s5).trans s6);have hT16:=hTab.same s16;have hT26:=hTab2.same s16;obtain⟨tp2,htp2,_⟩:=id hT26;have hS6:=s6.seq hS5;have hPa6:=hPa.same s6;right;refine zj (λσ H'=>SqL K H' a (ns.map V.int)/\LsA K H' pa ((rs0 ++ rs0.take m).map dR)/\OrdAt CO CR CW H' o z.toNat l ws/\TabOk H' TB lp lq/\∃du:pC,(∃rd:List zm,LsA K H' du (rd.map dR)/\rd.Perm (jw (decide (z.toNat=1)) (pwF l pws) l)/\rd.Pairwise λa b=>rankF.lt (wH z.toNat l ws b.1) (wH z.toNat l ws a.1)=tJ)/\σ=[!!a,~~~!n,~~~!z,~~~l,!!W,!!P,!!pa,!!o,!!du,tH,tH,tH]) ?_ ?_
  ·rfl'
   refine#[z,l,pws,ws,W,P,rfl,m0,m1,hg,l3,s6 _ _ hW5,hwl,hwb,s6 _ _ hP5,hpl,hp4,hT26,λD H' rs sT oT hL hp hs=>#[sT.seqL htp2 hS6,hPa6.samT sT htp2,ho.samT sT htp2,?_,D,#[rs,hL,hp,hs],rfl]];by_cases hTT:TB=TB2
   ·rw[hTT]at hT16 ⊢;exact oT _ _ (by symm) hT16
   ·exact TabOk.far hT16 sT htp2 hTT
  rintro σ H7 ⟨hS7,hPa7,ho7,hT7,du,⟨rd,hDu,hdp,hds⟩,rfl⟩:_;obtain⟨tp7,htp7,_⟩:=id hT7
  have hsd:∀p ∈ rs0 ++ rs0.take m,p.1.length<=60/\p.2.length<=60/\(∀c ∈ p.1,c ∈ l)/\∀c ∈ p.2,c ∈ l:=λp hp=>by
   have h:=Y0 hG hpw4 hA p (by
    rcases tQ.mp hp with h | h
    ·exact h
    ·exact bD h)
   exact#[⋯,⋯,h.2]
  have hrl:(rs0 ++ rs0.take m).length<=9:=by
   rw[ah,aF];lia
  have hok:kA (rs0 ++ rs0.take m):=#[⋯,λr hr=>by have:=hsd r hr;lia];have s16:=yb;right;generalize hrs:rs0 ++ rs0.take m=rs at hsd hrl hok hPa7;refine zb1 (λ_ _=>True) ?_ λ_ _ _=>?_
  ·rfl'
   refine#[∅,∅,ForR.by (λi σ H'=>SamT TB H7 H'/\TabOk H' TB lp lq/\∃v9 v10 v11,σ=[!!a,~~~!n,~~~!z,~~~l,!!W,!!P,!!pa,!!o,!!du,v9,v10,v11]) #[SamT.of (Same.refl _),hT7,_,_,_,rfl] ?_ λ_ _ _=>trivial];refine nm3 ?_;rintro i σ Hc hi ⟨sC,hTc,v9,v10,v11,rfl⟩:_;right
   erw[yR,bg,be]
   obtain⟨tpc,htpc,_⟩:=id hTc;have hSc:=sC.seqL htp7 hS7;have hPac:=hPa7.samT sC htp7;have hoc:=ho7.samT sC htp7;have hDuc:=hDu.samT sC htp7;obtain⟨px,hPx,hPi⟩:=id hPac;refine zj (λσ H'=>SamT TB Hc H'/\TabOk H' TB lp lq/\∃(fp D:pC) (es:List Ent),(JB z.toNat l ws (pwF l pws) 9 es/\Gd rs z.toNat l ws es/\H' fp=tG (.tup [.bl tI,.ref D])/\EnsN K Hc H' D es)/\σ=[!!a,~~~!n,~~~!z,~~~l,!!W,!!P,!!pa,!!o,!!du,tG (.int (0+(i:Int))),!!fp,v11]) ?_ ?_
   ·rfl'
    refine#[px,.inl (SqL.of hPx),λhd hh=>wP ((zd hh).seq hSc) hB ∅ λc hc=>#[c,rfl,#[∅,∅],∅,?_]];have sh:=zd (o:=HO.lst px) hh;have c0:=bK (c / 4) (b:=4) ∅;have c4:=bL (c / 4) (b:=4) ∅;rw[show c / 4 % 4=((c / 4 % 4).toNat:Int) by lia];refine#[o,hd,z.toNat,l,ws,rs,_,rfl,hoc.same sh,hG,#[px,zc,Iss.same sh _ _ hPi],⋯,(λp hp=>by have h:=hsd p hp;exact#[⋯,⋯,h.2.2]),(λp hp=>by have h:=hsd p hp;lia),⋯,hTc.same sh,λw es p D H' hC hBG hs hTk hp hN=>?_];obtain⟨rfl,hF⟩:=zan hG l3 m3 hpw4 hA (by rw[hrs];exact hC);exact#[(SamT.of sh).trans hs,hTk,p,D,es,hF,zc5 hG hC (zcv hsd) (λe he=>QV he) #[λe he=>(nomatch he),.inl rfl],hp,hN.back λb h=>YN sh h,rfl]
   rintro σ G1 ⟨g1,hT1,fp,D,es,⟨hF,⟨hAll,hor⟩,hfp,hN⟩,rfl⟩:_;right;refine zj (λσ H'=>H'=G1/\σ=[!!a,~~~!n,~~~!z,~~~l,!!W,!!P,!!pa,!!o,!!du,tG (.int (0+(i:Int))),!!fp,v11]) ?_ ?_
   ·rfl'
    exact#[fp,D,tI,es,rfl,hfp,hN.m.l,tI,rfl,yA (λe=>by cases e) λ_=>#[_,SqT.of hfp,_,rfl,tI,rfl,yA (λe=>by cases e) λ_=>rfl]]
   rintro σ G1 ⟨rfl,rfl⟩:_;right;refine zj (λσ H'=>Same G1 H'/\σ=[!!a,~~~!n,~~~!z,~~~l,!!W,!!P,!!pa,!!o,!!du,tG (.int (0+(i:Int))),!!fp,v11]) ?_ ?_
   ·rfl'
    obtain⟨xs,hX,hEn⟩:=id hN.m;have hxl:=hEn.len;have hn9:=hF.n;have hpe:zb es=rd:=zbD hG hpw4 hF (hor.imp id λh=>h.1) hdp hds;have hDu1:=hDuc.samT g1 htpc;refine#[_,SqT.of hfp,_,rfl,D,rfl,#[_,SqL.of hX],λJ hJ=>CompL.by (xs:=xs) (λi tM H'=>Same G1 H'/\H' J=tG (.lst tM)/\Iss K H' (((zb es).take i).map dR) tM) #[zd hJ,zc,by erw[bI,aJ,Iss]] (λi tM H' _ h=>SqL.of (h.1 _ _ hX)) ?_ ?_]
    ·refine nm4 ?_;rintro i x tM H' hx ⟨hs,hH,hIs⟩:_;have hi:=(tN.mp hx).1;obtain⟨e,pe,se,hei,rfl,hqe,hse⟩:=hEn.get hx;have hm:(zb es)[i]? = tG (e.1,e.2.1):=by unfold zb;rw[az,hei];rfl
     have hal:=hIs.len;rw[aa,aF]at hal;have hq2:=zp hs hqe;right
     erw[xQ]
     rfl'
     refine#[yM,_,hq2,_,rfl,_,hq2,_,rfl,⋯,λp hp=>#[zd hp _ _ hH,⋯,CNx.mk hi #[zw (hs.trans (zd hp)) hJ,zc,?_]]];rw[zL hm,aq];exact vq hH hIs hp zaR (z8 _) (by erw[zQ,xv,and_self])
    ·rintro tM H' ⟨hs,hH,hIs⟩;have hpl:=vx es;rw[hxl,<- hpl,aK,hpe]at hIs;exact zaX (.inl #[LsA.is #[tM,hH,hIs],(hDu1.same hs).is]) (cf (JP _) ∅) #[_,rfl,yA (λe=>by rw[vL]at e;cases e) λ_=>hs]
   rintro σ G2 ⟨g2,rfl⟩:_;right;refine zj (λσ H'=>Same G2 H'/\σ=[!!a,~~~!n,~~~!z,~~~l,!!W,!!P,!!pa,!!o,!!du,tG (.int (0+(i:Int))),!!fp,v11]) ?_ ?_
   ·rfl'
    obtain⟨xs,hX,hEn⟩:=(hN.same g2).m;have hxl:=hEn.len;have hn9:=hF.n;have hP2:=(hPac.samT g1 htpc).same g2;refine#[_,SqT.of (g2 _ _ hfp),_,rfl,D,rfl,#[_,SqL.of hX],λJ hJ=>CompL.by (xs:=xs) (λi tM H'=>Same G2 H'/\H' J=tG (.lst tM)/\tM=(am i tI).map V.bl) #[zd hJ,zc,rfl] (λi tM H' _ h=>SqL.of (h.1 _ _ hX)) ?_ ?_]
    ·refine nm4 ?_;rintro i x tM H' hx ⟨hs,hH,rfl⟩:_;have hi:=(tN.mp hx).1;obtain⟨e,pe,se,hei,rfl,hqe,hse⟩:=hEn.get hx;have hm:=ae hei;have hf:=((hF.d e hm).r.facts hpw4).1;have h1:=hF.s e hm;have hq2:=zp hs hqe;right
     erw[xQ]
     rfl'
     refine#[yM,_,hq2,_,rfl,_,hq2,_,rfl,KZ (hP2.same hs).is hok (by simp only at hf;lia) (hse.same hs).is ⋯ (hAll e hm) #[_,hq2,_,rfl,rfl,hH,by rw[aa,aQ];lia,CNx.mk hi #[zw hs hJ,zc,?_]]];rw[d7,aq];simp
    ·rintro tM H' ⟨hs,hH,rfl⟩;refine#[J,am xs.length tI,rfl,SqL.of hH,tI,by rw[show (am xs.length tI).all id=tI by simp],yA (λe=>by cases e) λ_=>hs]
   rintro σ G3 ⟨g3,rfl⟩:_;obtain⟨hnD,xs,hX,hEF⟩:=(hN.same g2).same g3;have hxl:=hEF.a.len;right;refine zj (λσ H'=>(SamT TB Hc H'/\TabOk H' TB lp lq/\H' fp=tG (.tup [.bl tI,.ref D])/\H' D=tG (.lst xs))/\∃v11,σ=[!!a,~~~!n,~~~!z,~~~l,!!W,!!P,!!pa,!!o,!!du,tG (.int (0+(i:Int))),!!fp,v11]) ?_ ?_
   ·rfl'
    have hn9:=hF.n;have hfp3:=(g2.trans g3) _ _ hfp
    have hM0:MutE Hc G3 D (1+0) xs:=λv hv=>by
     obtain⟨e,he,p,s,rfl,h1,⟨ys,h2,h3⟩,h4⟩:=hEF.all v hv;exact#[p,s,_,_,ys,rfl,h1,h2,by have:=h3.len;rw[aa,hF.s e he]at this;lia,h4]
    refine#[_,SqT.of hfp3,_,rfl,D,rfl,#[_,SqL.of hX],ForL.by (xs:=xs) (λj σ H'=>(SamT TB Hc H'/\TabOk H' TB lp lq/\H' fp=tG (.tup [.bl tI,.ref D])/\H' D=tG (.lst xs))/\MutE Hc H' D (1+j) xs/\∃v11,σ=[!!a,~~~!n,~~~!z,~~~l,!!W,!!P,!!pa,!!o,!!du,tG (.int (0+(i:Int))),!!fp,v11]) #[#[g1.trans (SamT.of (g2.trans g3)),hT1.same (g2.trans g3),hfp3,hX],hM0,_,rfl] (λj σ H' _ h=>SqL.of h.1.2.2.2) ?_ ?_]
    ·refine nm4 ?_;rintro j x σ H' hx ⟨⟨i1,i2,i3,i4⟩,hM,v11,rfl⟩:_;have hj:=(tN.mp hx).1;obtain⟨p,s,u,v,ys,rfl,h1,h2,h3,h4⟩:=hM x (ae hx);have h1':=xx _ _ h1;have h2':=xx _ _ h2;have hsD:s≠D:=λe=>by rw[e,yU]at h2;cases h2
     have hsf:fp≠s:=λe=>by rw[e,h2']at i3;cases i3
     right
     rfl'
     refine#[_,SqT.of h1',_,rfl,.inl #[_,SqL.of h2'],⋯,λt ht=>?_];have st:=zd (o:=HO.tup [.int 7,.int 7,.bl tI]) ht;refine#[ys,st _ _ h2',⋯,SamT.put (i1.trans (SamT.of st)) h4,TabOk.put (i2.same st) (st _ _ h2'),by rw[zk hsf];exact st _ _ i3,by rw[zk λe=>hsD e.symm];exact st _ _ i4,(hM.same st).put (yL st _ _ h2) h3 _]
    ·rintro σ H' ⟨⟨i1,i2,i3,i4⟩,_,v11,rfl⟩;exact#[i1,i2,i3,i4,_,rfl]
   rintro σ G4 ⟨⟨g4,hT4,hfp4,hX4⟩,v11,rfl⟩:_;right
   rfl'
   refine#[_,SqT.of hfp4,_,rfl,.inl #[_,SqL.of hX4],⋯,λp hp=>#[⋯,λp1 hp1=>?_]];have u1:=(zd (o:=HO.lst []) hp).trans (zd (o:=HO.tup [.str "",.str "",.ref p]) hp1);have hn9:=hF.n;exact#[xs,u1 _ _ hX4,⋯,sC.trans (SamT.put (g4.trans (SamT.of u1)) hnD),TabOk.put (hT4.same u1) (u1 _ _ hX4)]
  ·rfl'
   exact q _
end
def FnE(K:pB)(x q:pJ)(st:pQ)(f:pC):Prop:=∃fd,Fun K x q st f fd
def FnA(K:pB)(x:pJ)(st:pQ)(f:pC):Prop:=aA K pq x=tG (tG (.ref f))/\FnE K x x st f
theorem FnA.mk{K:pB}{x:pJ}{st:pQ}{h:pN}{mg:pJ->Option pD}(q:FnA K x st f)(X:K.In h)(G:h.Ns pq mg):mg x=tG (.ref f)/\aL K (.ref f)=tI/\FnE K x x st f:=by
 obtain⟨a,fd,F⟩:=q;exact#[aM X G a,F.kp,fd,F]
theorem Z7{us:List pD}(h:us.length=1):∃a,us=[a]:=List.length_eq_one_iff.mp h
theorem vR{us:List pD}(h:us.length=2):∃a0 a1,us=[a0,a1]:=by
 cases us with
 | nil=>cases h
 | cons a r =>
  obtain⟨a1,rfl⟩:=Z7 (Nat.succ.inj h);exact#[a,a1,rfl]
theorem WK{us:List pD}(h:us.length=3):∃a0 a1 a2,us=[a0,a1,a2]:=by
 cases us with
 | nil=>cases h
 | cons a r =>
  obtain⟨a1,a2,rfl⟩:=vR (Nat.succ.inj h);exact#[a,a1,a2,rfl]
theorem JO{us:List pD}(h:us.length=4):∃a0 a1 a2 a3,us=[a0,a1,a2,a3]:=by
 cases us with
 | nil=>cases h
 | cons a r =>
  obtain⟨a1,a2,a3,rfl⟩:=WK (Nat.succ.inj h);exact#[a,a1,a2,a3,rfl]
theorem zeX{us:List pD}(h:us.length=5):∃a0 a1 a2 a3 a4,us=[a0,a1,a2,a3,a4]:=by
 cases us with
 | nil=>cases h
 | cons a r =>
  obtain⟨a1,a2,a3,a4,rfl⟩:=JO (Nat.succ.inj h);exact#[a,a1,a2,a3,a4,rfl]
theorem zeR{us:List pD}(h:us.length=6):∃a0 a1 a2 a3 a4 a5,us=[a0,a1,a2,a3,a4,a5]:=by
 cases us with
 | nil=>cases h
 | cons a r =>
  obtain⟨a1,a2,a3,a4,a5,rfl⟩:=zeX (Nat.succ.inj h);exact#[a,a1,a2,a3,a4,a5,rfl]
theorem ze3{us:List pD}(h:us.length=7):∃a0 a1 a2 a3 a4 a5 a6,us=[a0,a1,a2,a3,a4,a5,a6]:=by
 cases us with
 | nil=>cases h
 | cons a r =>
  obtain⟨a1,a2,a3,a4,a5,a6,rfl⟩:=zeR (Nat.succ.inj h);exact#[a,a1,a2,a3,a4,a5,a6,rfl]
theorem dfm(P:pH)(w:pK){K:pB}{mg:pJ->Option pD}(base:pN){CX:CXT}{nm:pJ}{ps:List pJ}{sp:Sp}(h:FnOk P w K mg base CX k f fd ps sp)(m:mg nm=tG (.ref f))(p:aL K (.ref f)=tI)(b:Binds K fd ps []):Df P w K mg base CX k nm ps [] sp:=#[_,_,h,m,p,b]
local macro_rules | `(tactic| injections)=>`(tactic| (intro _ _ _ _ _ _ us hl;first | (obtain⟨_,e⟩:=Z7 hl;subst e;rfl) | (obtain⟨_,_,e⟩:=vR hl;subst e;rfl) | (obtain⟨_,_,_,e⟩:=WK hl;subst e;rfl) | (obtain⟨_,_,_,_,e⟩:=JO hl;subst e;rfl)))
local macro_rules | `(nofun)=>`(by injections)
theorem all_mk{l:PySem.W.OpenLaw}{w:pK}{K:pB}{h:pN}{mg:pJ->Option pD}{fa f0 f1 f2 f3 f4 f5 f6 f7 f8 f9 f10 f11 f12 f13 f14 f15 f16 f17 f18 f19 f20 f21 f22 f23 f24 f25 f26 f27 f28 f29 f30 f31 f32 f33 f34 f35 f36 f37 f38 f39 f40 f41 f42 f43 f44 f45 nW gC gF gy gx gw gz gA gH gB:pC}{cc TB:pC}{cc2 TB2:pC}(X:K.In h)(G:h.Ns pq mg)(hfa:mg "law" = tG (.ref fa))(hlam:∃a o fd,mg "in_order" = tG (.ref a)/\h.get? a=tG o/\o.data=.func fd/\fd.code=.ref cc)(hgT:pq≠TB)(hlam2:∃a o fd,mg "_law_sorted" = tG (.ref a)/\h.get? a=tG o/\o.data=.func fd/\fd.code=.ref cc2)(hgT2:pq≠TB2)
{od6 an6 od12 an12 od30 an30 od43 an43 od45 an45:Option pC}{sl6 sl12 sl30 sl43 sl45:Array (Option pD)}{oc6 kV6 dc6 pm6 cd6 ct6 oc12 kV12 dc12 pm12 cd12 ct12 oc30 kV30 dc30 pm30 cd30 ct30 oc43 kV43 dc43 pm43 cd43 ct43 oc45 kV45 dc45 pm45 cd45 ct45:pD}
  {t6 t7:si}
  {fI:pC}
  {odI anI:Option pC}
  {slI:Array (Option pD)}
  {ocI kVI dcI pmI cdI ctI:pD}
  {t8:si}
  {fU:pC}
  {odU anU:Option pC}
  {slU:Array (Option pD)}
  {ocU kVU dcU pmU cdU ctU:pD}
  {tmu tms tmd tmp:si}
  {tcu tce tcd tcp:si}
  {ig:pC}
  {iw:pC}
  {iN:pC}
  {iC:pC}
  {iD:pC}
  {io:pC}
  {ij:pC}
  {gL:pC}
  {lc:pC}
  {gU:pC}
  {ng:pC}
  {lG:si}
  {d1_gone:pD}
  {d2_gone:Option pC}
  {d3_gone:Nat}
  {d4_gone:Array (Option pD)}
  {mr:pC}
  {mq:si}
  {d1_unmet:pD}
  {d2_unmet:Option pC}
  {d3_unmet:Nat}
  {d4_unmet:Array (Option pD)}
  (a0:FnA K "is_small_letter" yP f0)
  (a1:FnA K "letters_of" wL f1)
  (a2:FnA K "stands_at" vb f2)
  (a3:FnA K "put" zaI f3)
  (a4:FnA K "first_within" xK f4)
  (a5:FnA K "first_from" wn f5)
  (a6:aA K pq "gone" = tG (tG (.ref f6))) (l6:K.lookup f6=tG #[oc6,od6,.func (bB "gone" "gone" (yx w9) (zX w9) (zg w9) (.ref ng) kV6 dc6 pm6 an6 cd6 ct6),sl6]) (k6:bN K cd6 "gone" = tI) (p6:aL K (.ref f6)=tI)
  (a7:FnA K "back" X8 f7)
  (a8:FnA K "moved" kL f8)
  (a9:FnA K "by_pacts" vW f9)
  (a10:FnA K "pairs_of" wQ f10)
  (a11:FnA K "as_rule" uZ f11)
  (a12:aA K pq "in_order" = tG (tG (.ref f12))) (l12:K.lookup f12=tG #[oc12,od12,.func (bB "in_order" "in_order" (yx yC) (zX yC) (zg yC) .none kV12 dc12 pm12 an12 cd12 ct12),sl12]) (k12:bN K cd12 "in_order" = tI) (p12:aL K (.ref f12)=tI)
  (a13:FnA K "brought_down" xM f13)
  (a14:FnA K "refuse_beyond" xn f14)
  (a15:FnA K "built_anew" ww f15)
  (a16:FnA K "thinned" qb f16)
  (a17:FnA K "_law_cell" W4 f17)
  (a18:FnA K "_law_mixed" YO f18)
  (a19:FnA K "_law_letters" qS f19)
  (a20:FnA K "_law_whole" YS f20)
  (a21:FnA K "_law_steps" YZ f21)
  (a22:FnA K "_law_used" Vr f22)
  (a23:FnA K "_law_end" zaq f23)
  (a24:FnA K "_law_order" Yo f24)
  (a25:FnA K "agree" YL f25)
  (a26:FnA K "overlaps" ud f26)
  (a27:FnA K "peak" VI f27)
  (a28:FnA K "form_of" qy f28)
  (a29:FnA K "is_met" kN f29)
  (a30:aA K pq "unmet" = tG (tG (.ref f30))) (l30:K.lookup f30=tG #[oc30,od30,.func (bB "unmet" "unmet" (yx xJ) (zX xJ) (zg xJ) (.ref mr) kV30 dc30 pm30 an30 cd30 ct30),sl30]) (k30:bN K cd30 "unmet" = tI) (p30:aL K (.ref f30)=tI)
  (a31:FnA K "system_by" va f31)
  (a32:FnA K "first_entries" yI f32)
  (a33:FnA K "is_beyond" wa f33)
  (a34:FnA K "thinned_within" yX f34)
  (a35:FnA K "unmet_within" xH f35)
  (a36:FnA K "entry_of" v8 f36)
  (a37:FnA K "completed" wb f37)
  (a38:FnA K "_law_entries" qd f38)
  (a39:FnA K "_law_told" WV f39)
  (a40:FnA K "_law_turned" kM f40)
  (a41:FnA K "_law_commuting" xt f41)
  (a42:FnA K "_law_rank" jF f42)
  (a43:aA K pq "_law_sorted" = tG (tG (.ref f43))) (l43:K.lookup f43=tG #[oc43,od43,.func (bB "_law_sorted" "_law_sorted" (yx wg) (zX wg) (zg wg) .none kV43 dc43 pm43 an43 cd43 ct43),sl43]) (k43:bN K cd43 "_law_sorted" = tI) (p43:aL K (.ref f43)=tI)
  (a44:FnA K "_law_due" QC f44)
  (a45:aA K pq "law" = tG (tG (.ref f45))) (l45:K.lookup f45=tG #[oc45,od45,.func (bB "law" "law" (yx vX) (zX vX) (zg vX) .none kV45 dc45 pm45 an45 cd45 ct45),sl45]) (k45:bN K cd45 "law" = tI) (p45:aL K (.ref f45)=tI)
  (g_LetterError:aA K pq "LetterError" = tG (tG (.ref nW)))
  (g_NoLetters:aA K pq "NoLetters" = tG (tG (.ref gC)))
  (g_NoOrder:aA K pq "NoOrder" = tG (tG (.ref gF)))
  (g_Order:aA K pq "Order" = tG (tG (.ref gy)))
  (g_FromRight:aA K pq "FromRight" = tG (tG (.ref gx)))
  (g_ByWeights:aA K pq "ByWeights" = tG (tG (.ref gw)))
  (g_NotTurned:aA K pq "NotTurned" = tG (tG (.ref gz)))
  (g_System:aA K pq "System" = tG (tG (.ref gA)))
  (g_NoUse:aA K pq "NoUse" = tG (tG (.ref gH)))
  (g_TooFar:aA K pq "TooFar" = tG (tG (.ref gB)))
  (kbb:aU K (.type "bool") (.type "bool")=tG tI)
  (kt:aU K (.type "tuple") (.type "tuple")=tG tI)
  (ki:aU K (.type "int") (.type "int")=tG tI)
  (kb:aU K (.type "int") (.type "bool")=tG tJ)
  (kl:aU K (.type "list") (.type "list")=tG tI)
  (XIl:XI K gC)
  (xi:aj K (.ref gC) "__init__" = tG (tG (.builtin "ValueError.__init__")))
  (XIo:XI K gF)
  (yi:aj K (.ref gF) "__init__" = tG (tG (.builtin "ValueError.__init__")))
  (most:aA K pq "MOST_LETTERS" = tG (tG (.int 6 t6)))
  (mostw:aA K pq "MOST_WEIGHT" = tG (tG (.int 1000000 t7)))
  (nz:bX K gy fm=tI)
  (nA:cr K gy=tI)
  (nB:cG K gy=tI)
  (nC:aj K (.ref gy) "__setattr__" = tG (tG (.builtin "object.__setattr__")))
  (nE:cQ K gy=tI)
  (nF:aL K (.ref gy)=tI)
  (nG:aj K (.ref gy) "letters" = tG tH)
  (oq:aU K (.ref gy) (.ref gy)=tG tI)
  (ot:aj K (.ref gy) "__class__" = tG (tG (.builtin "object.__class__")))
  (ou:bU K gy (.type "object")=tG tI)
  (lH:bX K gx fm=tI)
  (lJ:cr K gx=tI)
  (lK:cG K gx=tI)
  (lL:aj K (.ref gx) "__setattr__" = tG (tG (.builtin "object.__setattr__")))
  (lM:cQ K gx=tI)
  (lN:aL K (.ref gx)=tI)
  (lP:aj K (.ref gx) "letters" = tG tH)
  (mL:aU K (.ref gx) (.ref gy)=tG tI)
  (mM:aj K (.ref gx) "__class__" = tG (tG (.builtin "object.__class__")))
  (mN:bU K gx (.type "object")=tG tI)
  (lQ:bX K gw fm=tI)
  (lS:cr K gw=tI)
  (lT:cG K gw=tI)
  (lV:aj K (.ref gw) "__setattr__" = tG (tG (.builtin "object.__setattr__")))
  (lX:cQ K gw=tI)
  (lY:aL K (.ref gw)=tI)
  (lZ:aj K (.ref gw) "letters" = tG tH)
  (mP:aU K (.ref gw) (.ref gy)=tG tI)
  (mQ:aj K (.ref gw) "__class__" = tG (tG (.builtin "object.__class__")))
  (mS:bU K gw (.type "object")=tG tI)
  (nw_ByWeights:aj K (.ref gw) "weights" = tG tH)
  (sgO:cH K (.ref gy) "__getattribute__" = tG (tG (.builtin "type.__getattribute__")))
  (rdO:gp K gy (.type "type")=tI)
  (win:aA K pq "WINDOW" = tG (tG (.int 128 t8)))
  (XIt:XI K gz)
  (nn:aj K (.ref gz) "number" = tG tH)
  (ini:aj K (.ref gz) "__init__" = tG (tG (.ref fI)))
  (lI:K.lookup fI=tG #[ocI,odI,.func (bB "__init__" "NotTurned.__init__" (yx zR) (zX zR) (zg zR) .none kVI dcI pmI anI cdI ctI),slI])
  (kI:bN K cdI "NotTurned.__init__" = tI)
  (pI:aL K (.ref fI)=tI)
  (fnI:br K (.ref fI)=tI)
  (mT:bX K gA fm=tI)
  (mU:cr K gA=tI)
  (mV:cG K gA=tI)
  (mX:aj K (.ref gA) "__setattr__" = tG (tG (.builtin "object.__setattr__")))
  (mY:cQ K gA=tI)
  (mZ:aL K (.ref gA)=tI)
  (no_System:aj K (.ref gA) "order" = tG tH)
  (nr_System:aj K (.ref gA) "rules" = tG tH)
  (XIu:XI K gH)
  (ua:aj K (.ref gH) "at" = tG tH)
  (iniU:aj K (.ref gH) "__init__" = tG (tG (.ref fU)))
  (lU:K.lookup fU=tG #[ocU,odU,.func (bB "__init__" "NoUse.__init__" (yx yG) (zX yG) (zg yG) .none kVU dcU pmU anU cdU ctU),slU])
  (kU:bN K cdU "NoUse.__init__" = tI)
  (pU:aL K (.ref fU)=tI)
  (fnU:br K (.ref fU)=tI)
  (XIf:XI K gB)
  (vi:aj K (.ref gB) "__init__" = tG (tG (.builtin "ValueError.__init__")))
  (sFF:df K (.ref gB) (.ref gB)=tG tI)
  (ks:aU K (.type "str") (.type "str")=tG tI)
  (nany:aA K pq "any" = tG tH)
  (nsorted:aA K pq "sorted" = tG tH)
  (mou:aA K pq "MOST_USES_thinning" = tG (tG (.int 40 tmu)))
  (mos:aA K pq "MOST_STEPS" = tG (tG (.int 240 tms)))
  (mod_:aA K pq "MOST_SIDE_thinning" = tG (tG (.int 60 tmd)))
  (mop:aA K pq "MOST_PASSES" = tG (tG (.int 20 tmp)))
  (mcu:aA K pq "MOST_USES_completing" = tG (tG (.int 40 tcu)))
  (mce:aA K pq "MOST_ENTRIES" = tG (tG (.int 12 tce)))
  (mcd:aA K pq "MOST_SIDE_completing" = tG (tG (.int 10 tcd)))
  (mcp:aA K pq "MOST_PEAKS" = tG (tG (.int 8 tcp)))
  (ln:aj K (.ref gy) "__init__" = tG (tG (.ref ig)))
  (lr:FnE K "__init__" "Order.__init__" wA ig)
  (iO:br K (.ref ig)=tI)
  (iT:aj K (.ref gy) "weight" = tG (tG (.ref iw)))
  (iU:FnE K "weight" "Order.weight" xL iw)
  (iA:br K (.ref iw)=tI)
  (lu:aj K (.ref gy) "seen" = tG (tG (.ref iN)))
  (lv:FnE K "seen" "Order.seen" wz iN)
  (iP:br K (.ref iN)=tI)
  (iE:aj K (.ref gx) "seen" = tG (tG (.ref iC)))
  (iF:FnE K "seen" "FromRight.seen" yW iC)
  (iG:br K (.ref iC)=tI)
  (iH:aj K (.ref gw) "__init__" = tG (tG (.ref iD)))
  (iI:FnE K "__init__" "ByWeights.__init__" yV iD)
  (iJ:br K (.ref iD)=tI)
  (ip:aj K (.ref gw) "weight" = tG (tG (.ref io)))
  (iq:FnE K "weight" "ByWeights.weight" yd io)
  (ir:br K (.ref io)=tI)
  (lw:aj K (.ref gy) "rank" = tG (tG (.ref ij)))
  (lx:FnE K "rank" "Order.rank" xE ij)
  (ik:br K (.ref ij)=tI)
  (iV:aj K (.ref gy) "before" = tG (tG (.ref gL)))
  (iW:FnE K "before" "Order.before" xI gL)
  (gM:br K (.ref gL)=tI)
  (lg:aj K (.ref gA) "__init__" = tG (tG (.ref lc)))
  (lh:FnE K "__init__" "System.__init__" wc lc)
  (li:br K (.ref lc)=tI)
  (gX:aj K (.ref gA) "rules_told" = tG (tG (.ref gU)))
  (gY:FnE K "rules_told" "System.rules_told" yy gU)
  (gZ:br K (.ref gU)=tI)
  (nh:K.lookup ng=tG #[d1_gone,d2_gone,.seq #[.int 4000 lG] d3_gone,d4_gone])
  (mv:K.lookup mr=tG #[d1_unmet,d2_unmet,.seq #[.int 4000 mq] d3_unmet,d4_unmet])
  (fcO:gq K (.ref gy) (.type "type") "__init__" = tG (.val (.ref ig)))
  (fiR_init:aj K (.ref gx) "__init__" = tG (tG (.ref ig)))
  (fiR_weight:aj K (.ref gx) "weight" = tG (tG (.ref iw)))
  (fiW_seen:aj K (.ref gw) "seen" = tG (tG (.ref iN)))
  (fiR_rank:aj K (.ref gx) "rank" = tG (tG (.ref ij)))
  (fiW_rank:aj K (.ref gw) "rank" = tG (tG (.ref ij)))
  (fiR_before:aj K (.ref gx) "before" = tG (tG (.ref gL)))
  (fiW_before:aj K (.ref gw) "before" = tG (tG (.ref gL)))
  (b0:aA K pq "len" = tG tH)
  (b1:aA K pq "range" = tG tH)
  (b2:aA K pq "isinstance" = tG tH)
  (b3:aA K pq "str" = tG tH)
  (b4:aA K pq "int" = tG tH)
  (b5:aA K pq "tuple" = tG tH)
  (b6:aA K pq "list" = tG tH)
  (b7:aA K pq "bool" = tG tH)
  (b8:aA K pq "enumerate" = tG tH)
  (b9:aA K pq "all" = tG tH)
  (b10:aA K pq "ValueError" = tG tH)
  (b11:aA K pq "max" = tG tH)
  (b12:aA K pq "reversed" = tG tH)
  (b13:aA K pq "zip" = tG tH)
  (b14:aA K pq "sum" = tG tH)
  (b15:aA K pq "sorted" = tG tH)
  : ∃fd:pG,(∀(s:pE) (v:pD),sJ s fd #[[v],[]] [("_law_script",v)])/\∀base:pN,K.In base->base.Ns pq mg->base.BuiltinsAt mg TB->PySem.W.CodeHd base cc TB->base.BuiltinsAt mg TB2->PySem.W.CodeHd base cc2 TB2->FnOk l.prog w K mg base CX0 11 fa fd ["_law_script"] (Xn K TB TB2):=by
 have e:=hfa.symm.trans (aM X G a45);cases e;have B:Bt mg:=#[aN X G b0,aN X G b1,aN X G b2,aN X G b3,aN X G b4,aN X G b5,aN X G b6,aN X G b7,aN X G b8,aN X G b9,aN X G b10,aN X G b11,aN X G b12,aN X G b13,aN X G b14,aN X G b15];obtain⟨M0,p0,_,F0⟩:=a0.mk X G;obtain⟨M1,p1,_,F1⟩:=a1.mk X G;obtain⟨M2,p2,_,F2⟩:=a2.mk X G;obtain⟨M3,p3,_,F3⟩:=a3.mk X G;obtain⟨M4,p4,_,F4⟩:=a4.mk X G;obtain⟨M5,p5,_,F5⟩:=a5.mk X G;have F6:FunD K "gone" "gone" w9 (.ref ng) f6 (bB "gone" "gone" (yx w9) (zX w9) (zg w9) (.ref ng) kV6 dc6 pm6 an6 cd6 ct6):=⟨#[_,_,_,_,_,_,_,_,_,rfl,l6,k6]⟩;have M6:=aM X G a6;obtain⟨M7,p7,_,F7⟩:=a7.mk X G;obtain⟨M8,p8,_,F8⟩:=a8.mk X G;obtain⟨M9,p9,_,F9⟩:=a9.mk X G;obtain⟨M10,p10,_,F10⟩:=a10.mk X G;obtain⟨M11,p11,_,F11⟩:=a11.mk X G;have F12:=fun_mk (st:=yC) l12 k12 p12;have M12:=aM X G a12;obtain⟨M13,p13,_,F13⟩:=a13.mk X G;obtain⟨M14,p14,_,F14⟩:=a14.mk X G;obtain⟨M15,p15,_,F15⟩:=a15.mk X G;obtain⟨M16,p16,_,F16⟩:=a16.mk X G;obtain⟨M17,p17,_,F17⟩:=a17.mk X G;obtain⟨M18,p18,_,F18⟩:=a18.mk X G;obtain⟨M19,p19,_,F19⟩:=a19.mk X G;obtain⟨M20,p20,_,F20⟩:=a20.mk X G;obtain⟨M21,p21,_,F21⟩:=a21.mk X G;obtain⟨M22,p22,_,F22⟩:=a22.mk X G;obtain⟨M23,p23,_,F23⟩:=a23.mk X G;obtain⟨M24,p24,_,F24⟩:=a24.mk X G;obtain⟨M25,p25,_,F25⟩:=a25.mk X G;obtain⟨M26,p26,_,F26⟩:=a26.mk X G;obtain⟨M27,p27,_,F27⟩:=a27.mk X G;obtain⟨M28,p28,_,F28⟩:=a28.mk X G;obtain⟨M29,p29,_,F29⟩:=a29.mk X G;have F30:FunD K "unmet" "unmet" xJ (.ref mr) f30 (bB "unmet" "unmet" (yx xJ) (zX xJ) (zg xJ) (.ref mr) kV30 dc30 pm30 an30 cd30 ct30):=⟨#[_,_,_,_,_,_,_,_,_,rfl,l30,k30]⟩;have M30:=aM X G a30;obtain⟨M31,p31,_,F31⟩:=a31.mk X G;obtain⟨M32,p32,_,F32⟩:=a32.mk X G;obtain⟨M33,p33,_,F33⟩:=a33.mk X G;obtain⟨M34,p34,_,F34⟩:=a34.mk X G;obtain⟨M35,p35,_,F35⟩:=a35.mk X G;obtain⟨M36,p36,_,F36⟩:=a36.mk X G;obtain⟨M37,p37,_,F37⟩:=a37.mk X G;obtain⟨M38,p38,_,F38⟩:=a38.mk X G;obtain⟨M39,p39,_,F39⟩:=a39.mk X G;obtain⟨M40,p40,_,F40⟩:=a40.mk X G;obtain⟨M41,p41,_,F41⟩:=a41.mk X G;obtain⟨M42,p42,_,F42⟩:=a42.mk X G;have F43:=fun_mk (st:=wg) l43 k43 p43;have M43:=aM X G a43;obtain⟨M44,p44,_,F44⟩:=a44.mk X G;have F45:=fun_mk (st:=vX) l45 k45 p45;have B45:=F45.binds (ps:=["_law_script"]) nofun;have M45:=aM X G a45
 have HCC:cd12=.ref cc:=by
  obtain⟨ai,oi,fdi,m1,m2,m3,m4⟩:=hlam;have e1:=m1.symm.trans (aM X G a12);cases e1;have e2:=m2.symm.trans (X _ _ l12);cases e2;cases m3;exact m4
 have HCC2:cd43=.ref cc2:=by
  obtain⟨ai,oi,fdi,m1,m2,m3,m4⟩:=hlam2;have e1:=m1.symm.trans (aM X G a43);cases e1;have e2:=m2.symm.trans (X _ _ l43);cases e2;cases m3;exact m4
 refine#[bB "law" "law" (yx vX) (zX vX) (zg vX) .none kV45 dc45 pm45 an45 cd45 ct45,λs v=>.of_eq rfl,λbase _ _ HBT HCH HBT2 HCH2=>?_];have TL:zei K mg gC:=#[XIl,xi,aM X G g_NoLetters,t6,aM X G most];have TN:zew K mg gF:=#[XIo,yi,aM X G g_NoOrder,t7,aM X G mostw];have TO:TOrd K mg gy gx gw:=#[#[nz,nA,nB,nC],#[lH,lJ,lK,lL],#[lQ,lS,lT,lV],aM X G g_Order,aM X G g_FromRight,aM X G g_ByWeights,nG,lP,lZ,nw_ByWeights];have TNt:TNT K mg gz:=#[XIt,aM X G g_NotTurned,nn];have FI:=fun_mk (st:=zR) lI kI pI;have BI:=FI.binds (ps:=["self","number"]) nofun;have TD:DNT l.prog w K mg base gz:=#[TNt,_,_,ini,fnI,ub TNt FI,BI];have TS:zcb K mg gA:=#[#[mT,mU,mV,mX],aM X G g_System,no_System,nr_System];have TWi:zeE mg:=#[t8,aM X G win];have TNu:TNU K mg gH:=#[XIu,aM X G g_NoUse,ua];have FU:=fun_mk (st:=yG) lU kU pU;have BU:=FU.binds (ps:=["self","at"]) nofun;have TUd:DNU l.prog w K mg base gH:=#[TNu,_,_,iniU,fnU,kC TNu FU,BU];have TF:zbk K mg gB:=#[XIf,vi,aM X G g_TooFar];have TMk:TMo mg:=#[#[tmu,aM X G mou],#[tms,aM X G mos],#[tmd,aM X G mod_],#[tmp,aM X G mop]];have TMcc:TMc mg:=#[#[tcu,aM X G mcu],#[tce,aM X G mce],#[tcd,aM X G mcd],#[tcp,aM X G mcp]];have D0:=dfm l.prog w base (Qu F0) M0 p0 (F0.binds nofun);have D1:=dfm l.prog w base (kF B TL F1 D0) M1 p1 (F1.binds nofun);have D2:=dfm l.prog w base (Zi B F2) M2 p2 (F2.binds nofun);have D3:=dfm l.prog w base (zck B TUd F3 D2) M3 p3 (F3.binds nofun);obtain⟨_,il⟩:=lr;have nX:=il.kp;have ly:=il.binds (ps:=["self","letters"]) nofun;have nY:DMk l.prog w K mg base CX0 3 gy ["self","letters"] (uT K):=#[_,_,#[nE,ln,iO,nF],we B il D1,ly];have DI:DOI l.prog w K mg base gy:=#[_,_,#[sgO,rdO,fcO,nX],we B il D1,ly];obtain⟨_,iB⟩:=iU;have me:=iB.kp;have mf:=iB.binds (ps:=["self","word"]) nofun;have nN:DM l.prog w K mg base CX0 1 gy "weight" ["self","word"] jJ:=#[_,_,#[iT,iA,me],wD B iB,mf];obtain⟨_,iQ⟩:=lv;have mC:=iQ.kp;have mD:=iQ.binds (ps:=["self","word"]) nofun;have nZ:DM l.prog w K mg base CX0 1 gy "seen" ["self","word"] Xc:=#[_,_,#[lu,iP,mC],vG B iQ,mD];obtain⟨_,iK⟩:=iF;have ni:=iK.kp;have nj:=iK.binds (ps:=["self","word"]) nofun;have nk:DM l.prog w K mg base CX0 1 gx "seen" ["self","word"] Yp:=#[_,_,#[iE,iG,ni],uk B iK,nj];obtain⟨_,iL⟩:=iI;have oO:=iL.kp;have nq:=iL.binds (ps:=["self","letters","weights"]) nofun;have nt:DMk l.prog w K mg base (CXx l.prog w) 4 gw ["self","letters","weights"] (kB K gw):=#[_,_,#[lX,iH,iJ,lY],uh B TO TN DI iL,nq];obtain⟨_,iu⟩:=iq;have mE:=iu.kp;have mF:=iu.binds (ps:=["self","word"]) nofun;have mG:DM l.prog w K mg base CX0 1 gw "weight" ["self","word"] (YA gw):=#[_,_,#[ip,ir,mE],vn B TO iu,mF];have TT:TWS l.prog w K mg base gy gx gw:=#[TO,nY,#[_,_,#[lM,fiR_init,iO,lN],we B il D1,ly],nt,nN,#[_,_,#[fiR_weight,iA,me],wD B iB,mf],mG,nZ,nk,#[_,_,#[fiW_seen,iP,mC],vG B iQ,mD]];obtain⟨_,im⟩:=lx;have lA:=im.kp;have lB:=im.binds (ps:=["self","word"]) nofun;have oa:DM l.prog w K mg base CX0 2 gy "rank" ["self","word"] (qg gy gx gw):=#[_,_,#[lw,ik,lA],wd B TT im,lB];have DRk:DR l.prog w K mg base gy gx gw:=⟨λC h=>by rcases h with e | e | e; (rw[e];exact#[TO.cO,oa]); (rw[e];exact#[TO.cR,#[_,_,#[fiR_rank,ik,lA],wd B TT im,lB]]); (rw[e];exact#[TO.cW,#[_,_,#[fiW_rank,ik,lA],wd B TT im,lB]])⟩;obtain⟨_,gN⟩:=iW;have iX:=gN.kp;have iY:=gN.binds (ps:=["self","one","other"]) nofun;have nO:DM l.prog w K mg base CX0 3 gy "before" ["self","one","other"] (Uw gy gx gw):=#[_,_,#[iV,gM,iX],xq B DRk gN,iY];have DBk:DB l.prog w K mg base gy gx gw:=⟨λC h=>by rcases h with e | e | e; (rw[e];exact#[TO.cO,nO]); (rw[e];exact#[TO.cR,#[_,_,#[fiR_before,gM,iX],xq B DRk gN,iY]]); (rw[e];exact#[TO.cW,#[_,_,#[fiW_before,gM,iX],xq B DRk gN,iY]])⟩;have D4:=dfm l.prog w base (uY B F4) M4 p4 (F4.binds nofun);have D5:=dfm l.prog w base (ko B TWi F5 D4) M5 p5 (F5.binds nofun);have O6:=KL (P:=l.prog) (w:=w) (base:=base) B TF TUd F6 D5 D3;have D6:Df l.prog w K mg base (CXx l.prog w) 4 "gone" ["rules","word","most"] [] (wJ K gB):=#[_,_,O6,M6,p6,λs us hK hl=>by obtain⟨_,_,_,rfl⟩:=WK (us:=us) (by simpa using hl);exact BindsTo.of_defaults rfl (hK _ _ nh) rfl rfl rfl];have D6d:Df l.prog w K mg base (CXx l.prog w) 4 "gone" ["rules","word","most"] [.int 4000 lG] (wJ K gB):=#[_,_,O6,M6,p6,λs us hK hl=>by obtain⟨_,_,rfl⟩:=vR (us:=us) (by simpa using hl);exact BindsTo.of_defaults rfl (hK _ _ nh) rfl rfl rfl];have D7:=dfm l.prog w base (Kx B F7) M7 p7 (F7.binds nofun);have D8:=dfm l.prog w base (Jo B F8) M8 p8 (F8.binds nofun);have D9:=dfm l.prog w base (Yu B F9 D8 D7) M9 p9 (F9.binds nofun);have D10:=dfm l.prog w base (Ya B F10) M10 p10 (F10.binds nofun);have D11:=dfm l.prog w base (Wt B DBk F11 D7) M11 p11 (F11.binds nofun);have D12:=dfm l.prog w base (YD B DRk (aN X G nsorted) HCH HBT hgT F12 HCC D11) M12 p12 (F12.binds nofun);have D13:=dfm l.prog w base (uX B TMk F13 D10 D6 D6d D9 D7) M13 p13 (F13.binds nofun);have D14:=dfm l.prog w base (uI B TF TMk F14) M14 p14 (F14.binds nofun);have D15:=dfm l.prog w base (kR B F15 D13 D14 D11) M15 p15 (F15.binds nofun);have D16:=dfm l.prog w base (Wj B TF TMk F16 D12 D15 D10) M16 p16 (F16.binds nofun);have D17:=dfm l.prog w base (K0 B F17) M17 p17 (F17.binds nofun);have D18:=dfm l.prog w base (Qe B F18) M18 p18 (F18.binds nofun);have D19:=dfm l.prog w base (WA B F19 D18) M19 p19 (F19.binds nofun);have D20:=dfm l.prog w base (QM B #[ki,kb] F20) M20 p20 (F20.binds nofun);have D21:=dfm l.prog w base (Qq B #[kl,kt,kbb] F21 D20) M21 p21 (F21.binds nofun);have D22:=dfm l.prog w base (zam B F22) M22 p22 (F22.binds nofun);have D23:=dfm l.prog w base (zbp B F23 D22) M23 p23 (F23.binds nofun);have D24:=dfm l.prog w base (Q6 B TT F24) M24 p24 (F24.binds nofun);obtain⟨_,lj⟩:=lh;have oY:=lj.kp;have nS:=lj.binds (ps:=["self","order","rules"]) nofun;have nU:DMk l.prog w K mg base (CXx l.prog w) 5 gA ["self","order","rules"] (uR K gy gx gw gz gA):=#[_,_,#[mY,lg,li,mZ],jg B TD TS DBk lj,nS];have MS:MkS l.prog w K mg base gy gx gw gz gA:=nU;have D25:=dfm l.prog w base (QS B F25) M25 p25 (F25.binds nofun);have D26:=dfm l.prog w base (Yt B F26 D25) M26 p26 (F26.binds nofun);have D27:=dfm l.prog w base (zax B F27 D3) M27 p27 (F27.binds nofun);have D28:=dfm l.prog w base (Wn B F28 D6 D6d) M28 p28 (F28.binds nofun);have D29:=dfm l.prog w base (US B F29 D27 D28) M29 p29 (F29.binds nofun);obtain⟨_,ic⟩:=gY;have mw:=ic.kp;have mx:=ic.binds (ps:=["self"]) nofun;have mz:DM l.prog w K mg base CX0 1 gA "rules_told" ["self"] (kG K gA):=#[_,_,#[gX,gZ,mw],wX B TS ic,mx];have O30:=QK (P:=l.prog) (w:=w) (base:=base) B TS F30 D26 D29 mz;have D30:Df l.prog w K mg base (CXx l.prog w) 7 "unmet" ["system","most"] [] (vK K gA gB):=#[_,_,O30,M30,p30,λs us hK hl=>by obtain⟨_,_,rfl⟩:=vR (us:=us) (by simpa using hl);exact BindsTo.of_defaults rfl (hK _ _ mv) rfl rfl rfl];have D30d:Df l.prog w K mg base (CXx l.prog w) 7 "unmet" ["system","most"] [.int 4000 mq] (vK K gA gB):=#[_,_,O30,M30,p30,λs us hK hl=>by obtain⟨_,rfl⟩:=Z7 (us:=us) (by simpa using hl);exact BindsTo.of_defaults rfl (hK _ _ mv) rfl rfl rfl];have D31:=dfm l.prog w base (ZV B TS MS F31 D10) M31 p31 (F31.binds nofun);have D32:=dfm l.prog w base (uF B F32) M32 p32 (F32.binds nofun);have D33:=dfm l.prog w base (Z2 B (aN X G nany) TMcc F33) M33 p33 (F33.binds nofun);have D34:=dfm l.prog w base (vV B TF ⟨sFF⟩ F34 D16 D33) M34 p34 (F34.binds nofun);have D35:=dfm l.prog w base (qE B TF ⟨sFF⟩ TMcc F35 D30 D30d D31) M35 p35 (F35.binds nofun);have D36:=dfm l.prog w base (Yz B F36 D27 D9 D10) M36 p36 (F36.binds nofun);have D37:=dfm l.prog w base (Zf B TMcc F37 D32 D34 D35 D36) M37 p37 (F37.binds nofun);have D38:=dfm l.prog w base (Wv B #[kl,kt,kbb] ⟨ks⟩ F38 D21) M38 p38 (F38.binds nofun);have D39:=dfm l.prog w base (K4 B #[kt,kbb] F39 D38) M39 p39 (F39.binds nofun);have D40:=dfm l.prog w base (VB B F40 D18) M40 p40 (F40.binds nofun);have D41:=dfm l.prog w base (ZU B F41) M41 p41 (F41.binds nofun);have D42:=dfm l.prog w base (KF B F42) M42 p42 (F42.binds nofun);have D43:=dfm l.prog w base (Vi B (aN X G nsorted) HCH2 HBT2 hgT2 F43 HCC2 D42) M43 p43 (F43.binds nofun);have D44:=dfm l.prog w base (zcM B F44 D43) M44 p44 (F44.binds nofun);exact zcg B F45 D17 D19 D40 D24 D44 D41 D37 D39 D23
theorem walk{l:PySem.W.OpenLaw}{q:pH}{loose:List pJ}{XP:(pJ->Option pD)->pN->Prop}{YP:pK->pN->Prop}{d:DefRec}{K:Params->pB}(hn:l.most=tG 63)(hdf:d.params.defaults=[])
  (hY:∀(w:pK) (h:pN),YP w h->(K w.params).In h) (hj:((fX q).find? λr=>r.name ==("in_order" : pJ)).isSome=tI) (hj':((fX q).find? λr=>r.name ==("_law_sorted" : pJ)).isSome=tI) (hno:∀w:pK,KA (K w.params)=tI)
  (F:∀(w:pK) (mg:pJ->Option pD) (fa:pC) (h:pN) (cc T cc' T':pC),(K w.params).In h->h.Ns pq mg->mg d.name=tG (.ref fa)->(∃a o fd,mg "in_order" = tG (.ref a)/\h.get? a=tG o/\o.data=.func fd/\fd.code=.ref cc)->pq≠T->(∃a o fd,mg "_law_sorted" = tG (.ref a)/\h.get? a=tG o/\o.data=.func fd/\fd.code=.ref cc')->pq≠T' ->
   ∃fd:pG,(∀(s:pE) (u:pD),sJ s fd #[[u],[]] [("_law_script",u)])/\∀base:pN,(K w.params).In base->base.Ns pq mg->base.BuiltinsAt mg T->PySem.W.CodeHd base cc T->base.BuiltinsAt mg T'->PySem.W.CodeHd base cc' T'->FnOk l.prog w (K w.params) mg base CX0 11 fa fd ["_law_script"] (Xn (K w.params) T T')) :
  PySem.W.WalkO q loose XP YP l.row.toRowW d [] (λf vs=>gr f vs):=by
 obtain⟨din,hd⟩:=Aa.mp hj;obtain⟨din',hd'⟩:=Aa.mp hj';have hnm:din.name="in_order":=by simpa using dv hd
 have hnm':din'.name="_law_sorted":=by simpa using dv hd'
 exact L3.walk_ofT2 (n:=63) (k:=11) (x:="_law_script") (CX:=λ_=>CX0) (din:=din) (din':=din') (sp:=λw T T'=>Xn (K w.params) T T') hn ∅ hdf #[rfl,∅,∅] (dz hd) (dz hd') hY hno (λw mg fa h cc T cc' T' a b c e g e' g'=>F w mg fa h cc T cc' T' a b c (by rw[hnm]at e;exact e) g (by rw[hnm']at e';exact e') g') (λ_ _ a ns T T' hl hB hT hT2 hS=>#[a,ns,rfl,hS,hB,hT,hT2,λ_=>rfl]) λ_ _ _ _ _ z=>z
end LL
namespace PySem.W.Fast
def tw8905591057794516917:=Nat
def tw2638463354741328717:=Nat
def tw18321083846286759374:=Nat
def tw8881118760355826586:=Nat
def tw3729443640253969509:=Nat
def tw12315069537894429449:=Nat
def tw17887491179247862017:=Nat
def tw16697271891915916808:=Nat
def tw15315625448807884843:=Nat
def tw17137626824623065762:=Nat
def tw5244433828036547445:=Nat
def tw8376237509930194626:=Nat
def tw3644133966653234252:=Nat
def tw972684708942197070:=Nat
def tw4072583906568969727:=Nat
def tw14374363973882806183:=Nat
def tw651517304152857657:=Nat
def tw142785224594722909:=Nat
def tw11352079645325707469:=Nat
def tw13036509755403349805:=Nat
def tw7340760563206965701:=Nat
def tw3149448808603640755:=Nat
def tw7266020630071511978:=Nat
def tw16098558684695356094:=Nat
def tw14554887025746101750:=Nat
def tw8325076016666680478:=Nat
def tw14419652159809773862:=Nat
def tw15191829106468121519:=Nat
def tw2936067001139558042:=Nat
def tw2290593312070086384:=Nat
def tw10839828205209163111:=Nat
def tw13887815020437247256:=Nat
def tw16014256624875676236:=Nat
def tw18232880662391760849:=Nat
def tw12810489973460060501:=Nat
def tw16943934890546476626:=Nat
def tw244837184439370219:=Nat
def tw2914497188273174943:=Nat
def tw5832494683480842844:=Nat
def tw10210297414499941296:=Nat
def tw10046907003153213048:=Nat
def tw12049149456125949057:=Nat
def tw9419166177250313840:=Nat
def tw2844890829919591995:=Nat
def tw8629319914538182041:=Nat
def tw8553255403860694503:=Nat
def tw6575491713116083741:=Nat
def tw8088352119919611476:=Nat
def tw9781693533779920112:=Nat
def tw13611069917816386129:=Nat
def tw9146680545082938539:=Nat
def tw3058461936937372357:=Nat
def tw10711865462523249197:=Nat
def tw3068094102350569306:=Nat
def tw5471495580073735199:=Nat
def tw2060944325935953718:=Nat
def tw12853576648939324969:=Nat
def tw2378728298197683158:=Nat
def tw7727009884517646058:=Nat
def tw2139373585930624884:=Nat
def tw5994929055625098059:=Nat
def tw2267828051904947130:=Nat
def tw11967662209475655998:=Nat
def tw15329933291722209340:=Nat
def tw15848869292977018093:=Nat
def tw5390629428743832851:=Nat
def tw8543684402166863308:=Nat
def tw3918776418497673015:=Nat
def tw2720850212264204596:=Nat
def tw3792138356967309557:=Nat
def tw9050250567031932523:=Nat
def tw16463951029618952855:=Nat
def tw17665164299777774774:=Nat
def tw3395420904494786707:=Nat
def tw6906243566149584023:=Nat
def tw16633370123100748798:=Nat
def tw9545054093850582321:=Nat
def tw13650701716524673534:=Nat
def tw7229277214418555486:=Nat
def tw4857914176622314196:=Nat
def tw17679183695387118402:=Nat
def tw18373172339506903335:=Nat
def tw16370120203043139270:=Nat
def tw16764198149369682316:=Nat
def tw3743098107741689070:=Nat
def tw15387860276167629718:=Nat
def tw12154253180495366092:=Nat
def tw2885499353054423847:=Nat
def tw3248521731573988070:=Nat
def tw7049006995564069077:=Nat
def tw776846078614588115:=Nat
def tw2694994171717371061:=Nat
def tw4667261642626046181:=Nat
def tw13022593608624676660:=Nat
def tw2865366601452220344:=Nat
def tw15155978278537927715:=Nat
def tw3662633899045829488:=Nat
def tw6086723961069072320:=Nat
def tw13735913044104965347:=Nat
def tw9967456888207951234:=Nat
def tw6261336125406493132:=Nat
def tw11718905745713992580:=Nat
def tw7027687671365312385:=Nat
def tw11755151770127364065:=Nat
def tw15013117356020410454:=Nat
def tw9702950919566902741:=Nat
def tw15128836967845092801:=Nat
def tw6250275430828912813:=Nat
def tw5942089244289556553:=Nat
def tw11530485669960295096:=Nat
def tw4478857364863176023:=Nat
def tw6909082231169301441:=Nat
def tw8776840774102655832:=Nat
def tw4608683503421518977:=Nat
def tw10862216890067535151:=Nat
def tw6102621005933777260:=Nat
def tw9176655572056833745:=Nat
def tw11160097741632497851:=Nat
def tw8308192250386099729:=Nat
def tw14028240147442735455:=Nat
def tw2383703083263422102:=Nat
def tw18188228911235635631:=Nat
def tw16727784355353145732:=Nat
def tw1043031803899784513:=Nat
def tw16498457510097532000:=Nat
def tw13773020923370790475:=Nat
def tw2565752834746661905:=Nat
def tw3801351260889858520:=Nat
def tw6813055069290795121:=Nat
def tw16556415538091377672:=Nat
def tw466779381455503680:=Nat
def tw4625992672479019724:=Nat
def tw10717674184612522846:=Nat
def tw4074012493976235133:=Nat
def tw2883343544625961137:=Nat
def tw1302759047389575892:=Nat
def tw5744384863864696609:=Nat
def tw12882550416005211567:=Nat
def tw6855580729641279802:=Nat
def tw8277995454573306728:=Nat
def tw13690280392178755404:=Nat
def tw3093424995651290634:=Nat
def tw9521927096331311948:=Nat
def tw2592564288802721250:=Nat
def tw16994818094235719854:=Nat
def tw17153605426131804019:=Nat
def tw1543705414703446658:=Nat
def tw11892475280329068416:=Nat
def tw13468642790473235725:=Nat
def tw9083168770839165707:=Nat
def tw2845970324676196264:=Nat
def tw4458258726560149721:=Nat
def tw1525819325944726737:=Nat
def tw8618460354336105639:=Nat
def tw11262182970267883288:=Nat
def tw12305249811822991005:=Nat
def tw13422481171461768185:=Nat
def tw16431202107657476755:=Nat
def tw2404955287918436143:=Nat
def tw2417198833149962504:=Nat
def tw7606605811516997952:=Nat
def tw9435760923951189920:=Nat
def tw1325765065571351411:=Nat
def tw6386474265633652783:=Nat
def tw7760999803187300477:=Nat
def tw318667118104143875:=Nat
def tw13766944329829462856:=Nat
def tw17439439727043087498:=Nat
def tw5547319481393833042:=Nat
def tw16019199271873837999:=Nat
def tw4587968697559884044:=Nat
def tw9904333460108582941:=Nat
def tw8445519101982455912:=Nat
def tw10068903311867912438:=Nat
def tw4428814929888733024:=Nat
def tw17421223481756828189:=Nat
def tw18044432102754379721:=Nat
def tw13512152577334556306:=Nat
def tw5359634579111373244:=Nat
def tw14123181030644531376:=Nat
def tw8959274212480399161:=Nat
def tw1701380351191487768:=Nat
def tw16881576568967401921:=Nat
def tw4478967298070467713:=Nat
def tw17245058880164561967:=Nat
def tw4397588794692825867:=Nat
def tw13096338547569803235:=Nat
def tw1195202195179677335:=Nat
def tw17864285274565694652:=Nat
def tw8454903352935783342:=Nat
def tw10144080662696990416:=Nat
def tw2521635389118283955:=Nat
def tw6852946087175746774:=Nat
def tw3735425886502987360:=Nat
def tw300376120270524544:=Nat
end PySem.W.Fast
open PySem PySem.W PyProof.Rows
set_option maxRecDepth 100000 in
set_option maxHeartbeats 0 in
theorem PySem.Challenge.cw_letterlaw_k58_whole_commuting_holds : PySem.Challenge.rw_letterlaw_k58_whole_commuting.Holds := by
 w_on;o_law;k_head; (case hw=>w_witness2)
 k_fill
 refine LL.walk (l:=PySem.Challenge.rw_letterlaw_k58_whole_commuting) rfl rfl (λw h Y=>PySem.W.km_in_of Y) ?hJJ ?hJK ?hNN ?hFF
 case hJJ=>first | kernel_rfl | rfl | decide +kernel
 case hJK=>first | kernel_rfl | rfl | decide +kernel
 case hNN=>intro w;first | kernel_rfl | rfl
 case hFF =>
  intro w mg fa h cc T cc2 T2 KX G hmg hlam hgT hlam2 hgT2
  refine' LL.all_mk KX G hmg hlam hgT hlam2 hgT2 ?a0 ?a1 ?a2 ?a3 ?a4 ?a5 ?a6 ?l6 ?k6 ?p6 ?a7 ?a8 ?a9 ?a10 ?a11 ?a12 ?l12 ?k12 ?p12 ?a13 ?a14 ?a15 ?a16 ?a17 ?a18 ?a19 ?a20 ?a21 ?a22 ?a23 ?a24 ?a25 ?a26 ?a27 ?a28 ?a29 ?a30 ?l30 ?k30 ?p30 ?a31 ?a32 ?a33 ?a34 ?a35 ?a36 ?a37 ?a38 ?a39 ?a40 ?a41 ?a42 ?a43 ?l43 ?k43 ?p43 ?a44 ?a45 ?l45 ?k45 ?p45 ?g_LetterError ?g_NoLetters ?g_NoOrder ?g_Order ?g_FromRight ?g_ByWeights ?g_NotTurned ?g_System ?g_NoUse ?g_TooFar ?kbb ?kt ?ki ?kb ?kl ?XIl ?xi ?XIo ?yi ?most ?mostw ?nz ?nA ?nB ?nC ?nE ?nF ?nG ?oq ?ot ?ou ?lH ?lJ ?lK ?lL ?lM ?lN ?lP ?mL ?mM ?mN ?lQ ?lS ?lT ?lV ?lX ?lY ?lZ ?mP ?mQ ?mS ?nw_ByWeights ?sgO ?rdO ?win ?XIt ?nn ?ini ?lI ?kI ?pI ?fnI ?mT ?mU ?mV ?mX ?mY ?mZ ?no_System ?nr_System ?XIu ?ua ?iniU ?lU ?kU ?pU ?fnU ?XIf ?vi ?sFF ?ks ?nany ?nsorted ?mou ?mos ?mod_ ?mop ?mcu ?mce ?mcd ?mcp ?ln ?lr ?iO ?iT ?iU ?iA ?lu ?lv ?iP ?iE ?iF ?iG ?iH ?iI ?iJ ?ip ?iq ?ir ?lw ?lx ?ik ?iV ?iW ?gM ?lg ?lh ?li ?gX ?gY ?gZ ?nh ?mv ?fcO ?fiR_init ?fiR_weight ?fiW_seen ?fiR_rank ?fiW_rank ?fiR_before ?fiW_before ?b0 ?b1 ?b2 ?b3 ?b4 ?b5 ?b6 ?b7 ?b8 ?b9 ?b10 ?b11 ?b12 ?b13 ?b14 ?b15
  (case a0|a1|a2|a3|a4|a5=>exact#[by k_is,_,L2.fun_mk (by k_is) (by k_is) (by k_is)])
  case a6|l6|k6|p6=>k_is
  (case a7|a8|a9|a10|a11=>exact#[by k_is,_,L2.fun_mk (by k_is) (by k_is) (by k_is)])
  case a12|l12|k12|p12=>k_is
  (case a13|a14|a15|a16|a17|a18|a19|a20|a21|a22|a23|a24|a25|a26|a27|a28|a29=>exact#[by k_is,_,L2.fun_mk (by k_is) (by k_is) (by k_is)])
  case a30|l30|k30|p30=>k_is
  (case a31|a32|a33|a34|a35|a36|a37|a38|a39|a40|a41|a42=>exact#[by k_is,_,L2.fun_mk (by k_is) (by k_is) (by k_is)])
  case a43|l43|k43|p43=>k_is
  (case a44=>exact#[by k_is,_,L2.fun_mk (by k_is) (by k_is) (by k_is)])
  case a45|l45|k45|p45|g_LetterError|g_NoLetters|g_NoOrder|g_Order|g_FromRight|g_ByWeights|g_NotTurned|g_System|g_NoUse|g_TooFar|xi|yi|most|mostw|nC|nF|nG|ot|ou|lL|lN|lP|mM|mN|lV|lY|lZ|mQ|mS|nw_ByWeights|sgO|win|nn|ini|lI|kI|pI|mX|mZ|no_System|nr_System|ua|iniU|lU|kU|pU|vi|sFF|nany|nsorted|mou|mos|mod_|mop|mcu|mce|mcd|mcp|ln|iT|lu|iE|iH|ip|lw|iV|lg|gX=>k_is
  (case XIl|XIo|XIt|XIu|XIf=>exact#[#[by first | kernel_rfl | rfl | k_is | decide +kernel,by k_is,by k_is,by k_is,by k_is],by k_is,by k_is,by k_is,by k_is])
  case nh|mv|fcO|fiR_init|fiR_weight|fiW_seen|fiR_rank|fiW_rank|fiR_before|fiW_before|b0|b1|b2|b3|b4|b5|b6|b7|b8|b9|b10|b11|b12|b13|b14|b15=>k_is
  (case lr|iU|lv|iF|iI|iq|lx|iW|lh|gY=>exact#[_,L2.fun_mk (by k_is) (by k_is) (by k_is)])
  (case kbb|kt|ki|kb|kl|oq|mL|mP|ks=>first | kernel_rfl | rfl)
  (case nz|nB|nE|lH|lK|lM|lQ|lT|lX|rdO|mT|mV|mY=>first | kernel_rfl | rfl | k_is | decide +kernel)
  (case nA|lJ|lS|fnI|mU|fnU|iO|iA|iP|iG|iJ|ir|ik|gM|li|gZ=>first | kernel_rfl | rfl | k_is)
#print axioms PySem.Challenge.cw_letterlaw_k58_whole_commuting_holds
