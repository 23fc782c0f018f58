import PyProof.Rows.All
import Wide.All
import OpenK.AllK
import Wide.FinOn
import PyProof.EqAt
import PyProof.EqKinds
import PyProof.NeKinds
import PyProof.TupleCall
import KE.KRevIter
import PyProof.ZipIter
import PyProof.Rows.SetFrom
import PyProof.StrWalks
import PyProof.DictStraight
import PyProof.StrLawsFrom
import PyProof.Rows.StrNews2
import KE.KMinBuiltin
import PyProof.Rows.CallKwBuiltin
import PyProof.Rows.SortShell
import KE.KSortTup
import KE.KBoundM
import KE.KLam
import Lean
import PySem.Challenge.RW_letterlaw_k86_whole_commuting_judged
set_option compiler.extract_closed false
local macro_rules | `(tactic| exists $t)=>`(tactic| refine $t (λvs H Q E h=>by repeat (first | (obtain⟨e,_⟩:=h;subst e;rfl) | obtain⟨_,h⟩:=h)) (λ$(Lean.mkIdent `cdv) $(Lean.mkIdent `A) $(Lean.mkIdent `outer) $(Lean.mkIdent `s) $(Lean.mkIdent `H) $(Lean.mkIdent `vs) $(Lean.mkIdent `Q) $(Lean.mkIdent `E) $(Lean.mkIdent `hr) $(Lean.mkIdent `h)=>?_))
local macro_rules | `(tactic| exists $t,0)=>`(tactic| refine $t (λvs H Q E h=>by repeat (first | (obtain⟨e,_⟩:=h;subst e;rfl) | obtain⟨_,h⟩:=h)) (λ$(Lean.mkIdent `cdv) $(Lean.mkIdent `A) $(Lean.mkIdent `outer) $(Lean.mkIdent `s) $(Lean.mkIdent `H) $(Lean.mkIdent `vs) $(Lean.mkIdent `Q) $(Lean.mkIdent `E) $(Lean.mkIdent `hr) $(Lean.mkIdent `hx) $(Lean.mkIdent `h)=>?_))
local macro_rules | `(tactic| rintro $p* : _)=>`(tactic| rintro $(Lean.mkIdent `Gz):ident $(Lean.mkIdent `hGz):ident $p*)
local macro_rules | `(tactic| right)=>`(tactic| subst $(Lean.mkIdent `hGz))
local macro_rules | `($s⁻¹)=>`(($s).heap.objs.size)
local macro_rules | `(⋯)=>`(by lia)
local macro_rules | `(∅)=>`(by decide)
local macro_rules | `(tactic| erw [$[$a:term],*] $[$l:location]?)=>`(tactic| simp only [$[$a:term],*] $[$l:location]?)
local macro_rules | `(())=>`(List Nat)
local macro_rules | `(#[$a,*])=>if a.getElems.size>1 then `(⟨$a,*⟩) else Lean.Macro.throwUnsupported
open List renaming getElem?_eq_some_iff→tP,mem_map→tQ,mem_cons→tR,mem_append→tS,mem_singleton→tT,mem_filter→tU,mem_range→tV,nodup_cons→tX,mem_reverse→tY,all_eq_true→tZ,length_eq_zero_iff→Aa,pairwise_append→Ab,pairwise_cons→Ac,length_pos_iff→Ae,filter_eq_self→Af,mem_iff_getElem?→Ah,mem_flatMap→Ai,mem_replicate→Aj,mem_filterMap→Ak,any_eq_true→Am,find?_eq_none→An,nodup_iff_count→Ao,count_eq_zero→Ap
open Option renaming map_eq_some_iff→tW,isSome_iff_exists→Ad,bind_eq_some_iff→Ag
open Bool renaming eq_false_iff→Al
local macro_rules | `(tactic| symm)=>`(tactic| decide +kernel)
local macro_rules | `(tactic| nofun)=>`(tactic| exact⟨rfl,rfl,rfl,by decide +kernel,rfl,by decide +kernel,by decide +kernel⟩)
open PySem.Heap renaming get?_push_of_some→aa,lt_size→aq,get?_push_size→aD,get?_update_other→aH,size_push→bT,get?_update_self→cb,size_update→dF
open List renaming getD_eq_getElem?_getD→ac,mem_of_getElem?→ae,length_map→af,length_append→ah,getElem?_eq_getElem→aj,replicate→al,size_toArray→am,mem_cons_of_mem→ao,map_cons→ar,map_append→au,mem_append_right→av,length_cons→ay,mem_cons_self→az,getElem?_map→aA,length_take→aF,append_nil→aG,append_assoc→aK,map_nil→aL,mem_append_left→aM,length_replicate→aO,take_length→aP,drop_eq_getElem_cons→aS,length_nil→aT,nil_append→aU,range→aV,length_drop→aW,lookup_cons→aX,cons_append→aY,idxOf_lt_length_of_mem→ba,set_cons_zero→bc,set_cons_succ→be,sum_cons→bg,take_of_length_le→bh,drop_of_length_le→bi,toArray→bn,eq_of_mem_replicate→bp,lookup→bt,map_congr_left→bu,take_append_of_le_length→bw,filter_append→bx,mem_cons→bC,take_zero→bD,mem_of_mem_take→bF,replicate_succ→bL,getElem?_reverse→bN,getElem_idxOf→bP,not_mem_nil→bS,flatMap_cons→cp,drop_append_of_le_length→cq,flatMap_append→cr,take_append_drop→cy,getElem?_append_right→cz,count_append→cC,mem_of_mem_drop→cE,length→cF,map_map→cH,getElem_mem→cI,flatMap_def→cJ,getElem?_cons_zero→cK,eraseIdx_cons_succ→cL,range_succ→cS,getElem?_eq_none→cU,length_filter_le→cX,take_succ_cons→db,of_mem_zip→de,getElem?_append_left→df,forIn_cons→dg,filter_nil→di,getElem?_take_of_lt→dk,contains_cons→dm,zip_cons_cons→dn,pairwise_singleton→du,getElem?_cons_succ→dv,flatten_cons→dw,length_range→dA,drop_length→dI,find?_some→dM,count_le_length→dN,eq_nil_of_length_eq_zero→dO,filterMap_cons→dP,length_reverse→dW,replicate_zero→dX,drop_zero→dZ,append_of_mem→d4,eraseIdx_nil→eh,extract_eq_drop_take→eC,pairwise_iff_getElem→eD,mem_of_find?_eq_some→eE,mem_nil_iff→eJ,flatMap_nil→eQ,filter_cons→eR,getElem?_replicate→eS,filter_cons_of_pos→eU,filter_cons_of_neg→eV,getElem?_set_self→eY,range_succ_eq_map→e7,length_singleton→e9,forIn_nil→fj,drop_drop→fm,mem_range→fo,take_take→fq,singleton_append→ft,getElem?_set_ne→fw,count_replicate→fA,replicate_succ'→fB,reverse_append→fJ,getElem_range→fO,countP_append→fP
open PySem.W renaming findIn→ag,nsIn→ax,mg_of→aI,keepIn→aJ,mg_none_of→aQ,kitOne→aR,isFn→bj,kia_one→bq,fnOf→bz,mroIn→bG,emptyDict→bK,callWith_K→bO,codeIn→bU,plainGet→bX,methodCall_KW→bZ,kla_fn→ce,instObj→cf,hasDictIn→cj,plainOver→cA,specialIn→cB,looks_findIn→cD,makesIn→cN,subIn→cZ,takesIn→dJ,plainGet_of→dU,lookIn→dY,methodObj→d9,kitx_list→ee,envX→eL,takerIn→eW,cellsFrom_some→eZ,callWith_K0→fG,kitx_tuple→fL,set_plain→fQ,kitx_dict→fR,handedIn→fS,bind_fn→fW,findObj→fX,readsIn→fY,findCls→fZ,kat_nil→gd,kas_ask→ge
open Nat renaming le_refl→ak,lt_of_lt_of_le→aw,ne_of_lt→aB,zero_le→aE,le_trans→aN,ne_of_gt→bW,le_add_right→cu,le_succ→cw,lt_irrefl→cM,lt_of_le_of_lt→cP,not_lt_zero→cQ,lt_succ_of_lt→cT,le_of_not_lt→cY,min_eq_left→dh,le_of_lt→dj,min_eq_right→dH,lt_trichotomy→eg,succ_mul→eF,succ_ne_self→eG,lt_or_ge→eI,zero_add→eK,add_mod→e8,mul_le_mul→fh,min_self→fM
open Bool renaming false_ne_true→aC,false_eq_true→bB,eq_false_or_eq_true→ci,and_eq_true→cG,eq_iff_iff→dc,not_eq_true'→dz,or_true→dL,not_true→d8,and_false→fg,not_false→fk,beq_comm→fF
open Int renaming toNat_natCast→aZ,emod_lt_of_pos→bo,emod_nonneg→br,eq_ofNat_of_zero_le→bE,ofNat→dq,natCast_nonneg→d5
open PySem.F renaming plainAttrs_list→bv,plain_max_loop→bI,plainAttrs_str→bJ,slot_list_append→bQ,type_list_append→bR,entry_max_loop→dB,slot_str_count→dC,type_str_count→dD,excBase_ValueError→d7,slot_list_extend→eO,type_list_extend→eP,slot_str_join→fu,type_str_join→fv
open PyProof.Rows renaming callWith_type1→bA
open PySem.Str renaming ofString→bH,empty→eX
open Decidable renaming byContradiction→bM
open PySem renaming mem_of_lookup→bV,strKind→da,frameOf→d6,passOn→fN,call→gc
open Option renaming bind_some→bY,join_some→eM,join_none→eN,getD_none→fV
open Array renaming length_toList→dQ,getD→fz,toList_append→fH
open PySem renaming wpAny_bind→pq,wpAny_pure→pz,mainGlobals→pA,starEach→pB,sizeLine→pC
open PySem.W renaming Frag→pD
open PySem renaming Addr→pE,Value→pF,Shared→pG,FuncData→pH,wpAny→pJ,Program→pK,Str→pL,World→pM,Around→pN,Expr→pO,Heap→pP,Stmt→pQ,compareOp→pR,strIterType→pS,keywordEach→pT,backTo→pV,wpAny_field→pW,wpAny_Call_Name_kw→pY,sizeLine_eq→pZ,wpAny_truthy_bool→ra,Obj→rb,wpAny_holding→re,bootBuiltins→rf,backToKw→rg,wpAny_seqItems→rh,wpAny_loadPart_at→rj,Scope→rm,IsPair→rn,wpAny_passesOwn→rp,wpAny_standAt→rq,wpAny_noRaise→rz,wpAny_setField→rA,Pos→rB,wpAny_setField_rec→rD,wpAny_execs_nil→rE,wpAny_mono→rF,wpAny_call→rG,wpAny_execs_cons→rH,codeAny_mono→rJ,codeAny→rK,wpAny_isSubtype_exc→rL,codeAny_builtin→rM,wpAny_letGo→rN,Arguments→rO,wpAny_tryCatch→rP,wpAny_pyIter_enum→rQ,plainObj_wpAny_Assign_Attribute→rR,CmpOp→rS,wpAny_attempt→rT,codeAny_call_builtin→rV,NameKind→rW,Tok→rZ,wpAny_letOwnedTupleGo_enum→sf,IsZip→si,wpAny_pyIter_list→sj,wpAny_comprehension_free→sk,wpAny_pyNext_enum_itemD→so,wpAny_getItem_str_slice→sq,wpAny_call_entry→sr,wpAny_rule→su,wpAny_pyNext_enum_endD→sv,wpAny_updateSeq→sx,Env→sy,wpAny_updateSeq_pair→sA,wpAny_pyIter_revIter→sB,wpAny_newFunctionEnv→sC,wpAny_loadPart→sE,recursionLimit→sF,excClassObj→sG,Result→sH,BindsTo→sI,wpAny_onRaise→sJ,wpAny_newList→sK,ExceptHandler→sM,wpAny_pyIter_tuple→sN,wpAny_newObj_type→sP,wpAny_assign_Name→sQ,wpAny_Return_some→sS,wpAny_Assign_Name→sU,Model→sV,GenState→sY,wpAny_pyIter_zip→sZ,wpAny_lookBehind→tj,wpAny_Try_except→tm,isCodeTable→tu,Sem→tw,Keyword→tz,wpAny_Name→tB,TriplesOk→tE,Paired→tF
open PyProof.Rows renaming seqObj→pX,envOfC→rX,AllBare→rY,subscriptTail_builtinR→sw,subscriptTail→sL,IntsAre→sX,Subscript_→tD,Call_→tH
open PySem.W renaming KasT→tG
open Option renaming some→tI,none→tJ
open Bool renaming true→tK,false→tL
open PySem PySem.Spec PyProof.Rows
set_option Elab.async false
set_option linter.all false
set_option maxRecDepth 100000
set_option maxHeartbeats 4000000
namespace L2
noncomputable abbrev Key:=Sum Int pL
noncomputable def zbZ:Key->pF->Bool
 | .inl k,v=>Value.isInt k v
 | .inr x,v=>Value.isStrOf x v
noncomputable def ze0(w:pM):Key->Int
 | .inl k=>hashInt k
 | .inr x=>hashStr w x
theorem z8:∀{k:Key} {v:pF},zbZ k v=tK->(∃i t,k=Sum.inl i/\v=Value.int i t)\/(∃x t,k=Sum.inr x/\v=Value.str x t)
 | .inl i,v,h=>by
  obtain⟨t,e⟩:=Value.isInt_shape (k:=i) (v:=v) h;exact .inl #[i,t,rfl,e]
 | .inr x,v,h=>by
  obtain⟨t,e⟩:=Value.isStrOf_shape (x:=x) (v:=v) h;exact .inr #[x,t,rfl,e]
theorem zc0(a b:Int):decide ((Sum.inl a:Key)=Sum.inl b)=(a == b):=by
 by_cases e:a=b
 ·subst e;simp
 ·have h:¬ (Sum.inl a:Key)=Sum.inl b:=λq=>e (Sum.inl.inj q);rw[decide_eq_false h];exact (beq_eq_false_iff_ne.mpr e).symm
theorem zch(a b:pL):decide ((Sum.inr a:Key)=Sum.inr b)=decide (a=b):=by
 by_cases e:a=b
 ·subst e;simp
 ·have h:¬ (Sum.inr a:Key)=Sum.inr b:=λq=>e (Sum.inr.inj q);rw[decide_eq_false h,decide_eq_false e]
theorem zcm(a:Int)(b:pL):decide ((Sum.inl a:Key)=Sum.inr b)=tL:=decide_eq_false (λq=>nomatch q)
theorem zcg(a:pL)(b:Int):decide ((Sum.inr a:Key)=Sum.inl b)=tL:=decide_eq_false (λq=>nomatch q)
noncomputable def YV(prog:pK)(w:pM):PySem.KeyKind prog w Key where
 is:=zbZ
 hash:=ze0 w
 inj:=λv a b ha hb=>by
  rcases z8 ha with ⟨i,t,rfl,rfl⟩ | ⟨x,t,rfl,rfl⟩
  ·rcases z8 hb with ⟨j,u,rfl,e⟩ | ⟨y,u,rfl,e⟩
   ·injection e with e1 _;rw[e1]
   ·exact nomatch e
  ·rcases z8 hb with ⟨j,u,rfl,e⟩ | ⟨y,u,rfl,e⟩
   ·exact nomatch e
   ·injection e with e1 _;rw[e1]
 byValue:=λk v h=>by
  rcases z8 h with ⟨i,t,rfl,rfl⟩ | ⟨x,t,rfl,rfl⟩ <;> rfl
 pyHash:=λhv h=>by
  rcases z8 hv with ⟨i,t,rfl,rfl⟩ | ⟨x,t,rfl,rfl⟩
  ·exact wpAny_pyHash_int h
  ·exact wpAny_pyHash_str h
 eqBool:=λhu hv h=>by
  rcases z8 hu with ⟨i,t,rfl,rfl⟩ | ⟨x,t,rfl,rfl⟩
  ·rcases z8 hv with ⟨j,u,rfl,rfl⟩ | ⟨y,u,rfl,rfl⟩
   ·rw[zc0]at h;exact wpAny_eqBool_int h
   ·rw[zcm]at h;exact SeqAt.EqAt.int_str i t y u _ _ _ _ h
  ·rcases z8 hv with ⟨j,u,rfl,rfl⟩ | ⟨y,u,rfl,rfl⟩
   ·rw[zcg]at h;exact SeqAt.EqAt.str_int x t j u _ _ _ _ h
   ·rw[zch]at h;exact wpAny_eqBool_str h
 «strs»:=λk x t v h=>by
  rcases z8 h with ⟨i,u,rfl,e⟩ | ⟨y,u,rfl,e⟩
  ·exact nomatch e
  ·injection e with e1 _;subst e1;cases v <;> rfl
inductive V where
 | non | bl (b:Bool) | int (i:Int) | str (x:pL) | byt (b:Array UInt8) | flt (b:UInt64) | ref (a:pE) | ty (n:String)
 deriving DecidableEq
def RelV:V->pF->Prop
 | .non,u=>u=Value.none
 | .bl b,u=>u=Value.bool b
 | .int i,u=>∃t,u=Value.int i t
 | .str x,u=>∃t,u=Value.str x t
 | .byt b,u=>∃t,u=Value.bytes b t
 | .flt b,u=>∃t,u=Value.float b t
 | .ref a,u=>u=Value.ref a
 | .ty n,u=>u=Value.type n
abbrev Vals:List V->List pF->Prop:=tF RelV
theorem Vals.length{xs:List V}{us:List pF}(r:Vals xs us):xs.length=us.length:=Paired.length r
theorem Vals.get:∀{xs:List V} {us:List pF} {i:Nat} {x:V},Vals xs us->xs[i]? = tI x->∃u,us[i]? = tI u/\RelV x u
 | _,_,_,_,.nil,e=>by simp at e
 | _,_,0,_,.cons r _,e=>by simp at e;subst e;exact#[_,rfl,r]
 | _,_,i+1,x,.cons _ t,e=>by
  obtain⟨u,h1,h2⟩:=Vals.get (i:=i) (x:=x) t (by simpa using e);exact#[u,by simpa using h1,h2]
theorem Vals.set{x:V}{u:pF}(r:RelV x u):∀{xs:List V} {us:List pF} (i:Nat),Vals xs us->Vals (xs.set i x) (us.set i u)
 | _,_,_,.nil=>.nil
 | _,_,0,.cons _ t=>.cons r t
 | _,_,i+1,.cons q t=>.cons q (Vals.set r i t)
theorem Vals.append:∀{xs ys:List V} {us ws:List pF},Vals xs us->Vals ys ws->Vals (xs ++ ys) (us ++ ws)
 | _,_,_,_,.nil,s=>s
 | _,_,_,_,.cons r t,s=>.cons r (Vals.append t s)
theorem Vals.take:∀{xs:List V} {us:List pF} (n:Nat),Vals xs us->Vals (xs.take n) (us.take n)
 | _,_,0,_=>.nil
 | _,_,_+1,.nil=>.nil
 | _,_,n+1,.cons r t=>.cons r (Vals.take n t)
theorem Vals.drop:∀{xs:List V} {us:List pF} (n:Nat),Vals xs us->Vals (xs.drop n) (us.drop n)
 | _,_,0,r=>r
 | _,_,_+1,.nil=>.nil
 | _,_,n+1,.cons _ t=>Vals.drop n t
def RelO:Option V->Option pF->Prop
 | some v,tI u=>RelV v u
 | none,tJ=>True
 | _,_=>False
def KV{κ:Type}:List (κ × V)->List (κ × pF)->Prop:=tF λ(p:κ × V) (q:κ × pF)=>p.1=q.1/\RelV p.2 q.2
noncomputable def kV:Key->V
 | .inl i=>.int i
 | .inr x=>.str x
inductive HO where
  | lst (xs:List V)
  | tup (xs:List V)
  | dK (kvs:List (Key × V)) | dT (kvs:List (List Key × V))
  | set (S:Int->Bool) (n:Nat)
  | ins (C dx:pE) (fs:List (pL × V))
  | own (x:pE)
  | xd (fs:List (pL × V))
  | met (f x:pE)
  | rng (lo hi:Int)
  | frz (o:rb) (u:HO)
  | tbl (ps:Array pF)
  | ext (φ:pP->Prop)
noncomputable abbrev Hp:=pE->Option HO
noncomputable def upd(H:Hp)(a:pE)(o:HO):Hp:=λb=>if b=a then tI o else H b
theorem zc{H:Hp}{a:pE}{o:HO}:upd H a o a=tI o:=by unfold upd;rw[if_pos rfl]
theorem zo{H:Hp}{a b:pE}{o:HO}(h:b≠a):upd H a o b=H b:=by unfold upd;rw[if_neg h]
theorem zF{H:Hp}{a b:pE}{o:HO}(h:H a=tI o)(h':H b=tJ):a≠b:=by
 intro e;subst e;rw[h]at h';cases h'
section
variable(P:pK)(w:pM)
def ObjOk(H:Hp)(h:pP)(a:pE):HO->Prop
 | .lst xs=>xs.length<=pC/\∃(its:List pF) (n:Nat),Vals xs its/\h.get? a=tI { cls:=.type "list",data:=.seq its.toArray n }
 | .tup xs=>xs.length<=pC/\∃its:List pF,Vals xs its/\IsTup h a its.toArray
 | .dK kvs=>kvs.length<=pC/\(a == sysModules)=tL/\∃vs,KV kvs vs/\h.DictOf (YV P w) a vs
 | .dT kvs=>kvs.length<=pC/\(a == sysModules)=tL/\∃xs:List (List Key × pE × pF),
   tF (λ(p:List Key × V) (q:List Key × pE × pF)=>p.1=q.1/\H q.2.1=tI (.tup (p.1.map kV))/\RelV p.2 q.2.2) kvs xs /\
   ∃o es ep,h.get? a=tI o/\o.ExactDict/\o.data=.dict es ep/\es.toList=xs.map (entryOfKey (tupleKind (YV P w)))/\(xs.map (·.1)).Nodup
 | .set S n=>h.SetOf (intKind P w) a S n
 | .ins C dx fs=>H dx=tI (.own a)/\fs.length<=1000/\dx≠a/\h.get? a=tI (cf C dx) /\
   ∃mA,h.Ns1 dx mA/\(∀f,RelO (fs.lookup f) (mA f))/\PySem.Within mA (fs.map (·.1))
 | .own _=>∃o,h.get? a=tI o
 | .xd fs=>∃mA,h.Ns1 a mA/\∀f,RelO (fs.lookup f) (mA f)
 | .rng lo hi=>∃t u v,h.get? a=tI { cls:=.type "range",data:=.fields (List.toArray [.int lo t,.int hi u,.int 1 v]) }
 | .frz o u=>h.get? a=tI o/\ObjOk H h a u
 | .tbl ps=>h.get? a=tI { cls:=.none,data:=.fields ps }
 | .met f x=>h.get? a=tI (d9 (.ref f) (.ref x))
 | .ext φ=>φ h/\(∃o,h.get? a=tI o)/\∀h1 h2:pP,φ h1->(∀o,h1.get? a=tI o->h2.get? a=tI o)->φ h2
def HOk(H:Hp)(h:pP):Prop:=∀a o,H a=tI o->ObjOk P w H h a o
end
section
variable{P:pK}{w:pM}{H H':Hp}{h h':pP}{a:pE}{o:HO}
theorem ObjOk.lt(x:ObjOk P w H h a o):a<h.objs.size:=by
 cases o with
 | lst xs=>obtain⟨_,_,_,_,e⟩:=x;exact aq e
 | tup xs=>obtain⟨_,_,_,p⟩:=x;exact p.lt
 | dK kvs=>obtain⟨_,_,_,_,o,_,_,e,_⟩:=x;exact aq e
 | dT kvs=>obtain⟨_,_,_,_,o,_,_,e,_⟩:=x;exact aq e
 | set S n=>obtain⟨o,_,_,_,e,_⟩:=x;exact aq e
 | ins C dx fs=>obtain⟨_,_,_,e,_⟩:=x;exact aq e
 | own y=>obtain⟨_,e⟩:=x;exact aq e
 | xd fs=>obtain⟨_,⟨_,_,_,e,_⟩,_⟩:=x;exact aq e
 | rng lo hi=>obtain⟨_,_,_,e⟩:=x;exact aq e
 | frz ob u=>obtain⟨e,_⟩:=x;exact aq e
 | tbl ps=>exact aq (show h.get? a=tI _ from x)
 | met f y=>exact aq (show h.get? a=tI _ from x)
 | ext φ=>obtain⟨_,⟨_,e⟩,_⟩:=x;exact aq e
theorem Paired.mapP{α β:Type}{F G:α->β->Prop}:∀{l₁:List α} {l₂:List β},tF F l₁ l₂->(∀a b,F a b->G a b)->tF G l₁ l₂
 | _,_,.nil,_=>.nil
 | _,_,.cons r t,f=>.cons (f _ _ r) (Paired.mapP t f)
theorem ObjOk.stay(x:ObjOk P w H h a o)(k:∀b u,(b=a\/H b=tI (.own a))->h.get? b=tI u->h'.get? b=tI u)
  (ho:∀b,H b=tI (.own a)->H' b=tI (.own a)) (ht:∀b xs,H b=tI (.tup xs)->H' b=tI (.tup xs)):ObjOk P w H' h' a o:=by
 induction o with
 | lst xs=>obtain⟨z,its,n,r,e⟩:=x;exact#[z,its,n,r,k _ _ (.inl rfl) e]
 | tup xs=>obtain⟨z,its,r,ob,e,c⟩:=x;exact#[z,its,r,ob,k _ _ (.inl rfl) e,c]
 | dK kvs=>obtain⟨z,y,vs,r,ob,es,ep,e,c⟩:=x;exact#[z,y,vs,r,ob,es,ep,k _ _ (.inl rfl) e,c]
 | dT kvs =>
  obtain⟨z,y,xs,r,ob,es,ep,e,c⟩:=x;exact#[z,y,xs,Paired.mapP r λp q z=>#[z.1,ht _ _ z.2.1,z.2.2],ob,es,ep,k _ _ (.inl rfl) e,c]
 | set S n=>obtain⟨ob,es,ep,t,e,c⟩:=x;exact#[ob,es,ep,t,k _ _ (.inl rfl) e,c]
 | ins C dx fs =>
  obtain⟨d,z,ne,e,mA,⟨od,es,ep,e2,c⟩,r⟩:=x;exact#[ho _ d,z,ne,k _ _ (.inl rfl) e,mA,#[od,es,ep,k _ _ (.inr d) e2,c],r]
 | own y=>obtain⟨ob,e⟩:=x;exact#[ob,k _ _ (.inl rfl) e]
 | xd fs=>obtain⟨mA,⟨od,es,ep,e,c⟩,r⟩:=x;exact#[mA,#[od,es,ep,k _ _ (.inl rfl) e,c],r]
 | rng lo hi=>obtain⟨t,u,v,e⟩:=x;exact#[t,u,v,k _ _ (.inl rfl) e]
 | frz ob u ih=>obtain⟨e,q⟩:=x;exact#[k _ _ (.inl rfl) e,ih q]
 | tbl ps =>
  have e:h.get? a=tI { cls:=.none,data:=.fields ps }:=x;show h'.get? a=tI { cls:=.none,data:=.fields ps };exact k a _ (.inl rfl) e
 | met f y =>
  have e:h.get? a=tI (d9 (.ref f) (.ref y)):=x;show h'.get? a=tI (d9 (.ref f) (.ref y));exact k a _ (.inl rfl) e
 | ext φ=>obtain⟨p,⟨o,e⟩,st⟩:=x;exact#[st _ _ p λo q=>k _ _ (.inl rfl) q,#[o,k _ _ (.inl rfl) e],st]
theorem HOk.lt(x:HOk P w H h)(e:H a=tI o):a<h.objs.size:=(x a o e).lt
theorem HOk.fresh(x:HOk P w H h)(e:h.objs.size<=a):H a=tJ:=by
 cases q:H a with
 | none=>rfl
 | some u=>exact absurd (aw (x.lt q) e) (cM _)
theorem HOk.kept(x:HOk P w H h)(k:∀b u,h.get? b=tI u->h'.get? b=tI u):HOk P w H h':=λa o e =>
 (x a o e).stay (λb u _ q=>k b u q) (λ_ q=>q) λ_ _ q=>q
theorem HOk.laid(x:HOk P w H h)(k:∀b u,h.get? b=tI u->h'.get? b=tI u)(hp:h.objs.size<=a)(new:ObjOk P w (upd H a o) h' a o):HOk P w (upd H a o) h':=λb u e=>by
 have hn:=x.fresh hp;by_cases hb:b=a
 ·subst hb;rw[zc]at e;cases e;exact new
 ·rw[zo hb]at e;exact (x b u e).stay (λc v _ q=>k c v q) (λc q=>by rw[zo (zF q hn)];exact q) λc xs q=>by rw[zo (zF q hn)];exact q
end
def Rd(H:Hp)(a:pE)(u:HO):Prop:=H a=tI u\/∃o,H a=tI (.frz o u)
theorem Rd.ok{P:pK}{w:pM}{H:Hp}{h:pP}{a:pE}{u:HO}(r:Rd H a u)(x:HOk P w H h):ObjOk P w H h a u:=by
 rcases r with r | ⟨o,r⟩
 ·exact x a u r
 ·obtain⟨_,q⟩:=x a _ r;exact q
def Mut:Option HO->Prop
 | some (.lst _)=>True
 | some (.dK _)=>True
 | some (.dT _)=>True
 | some (.set _ _)=>True
 | some (.ins _ _ _)=>True
 | some (.ext _)=>True
 | _=>False
section
variable{P:pK}{w:pM}{H:Hp}{h h':pP}{x e:pE}{o':HO}
theorem HOk.write(ok:HOk P w H h)(mu:Mut (H x))(he:e=x\/H e=tI (.own x))(k:∀b u,b≠e->h.get? b=tI u->h'.get? b=tI u)(heo:∃u,h'.get? e=tI u)
  (new:ObjOk P w (upd H x o') h' x o'):HOk P w (upd H x o') h':=λb u q=>by
 have nown:∀c y,H c=tI (.own y)->c≠x:=λc y r z=>by subst z;rw[r]at mu;exact mu
 have ntup:∀c xs,H c=tI (.tup xs)->c≠x:=λc xs r z=>by subst z;rw[r]at mu;exact mu
 by_cases hb:b=x
 ·subst hb;rw[zc]at q;cases q;exact new
 ·rw[zo hb]at q;by_cases hbe:b=e
  ·have q':H b=tI (.own x):=by
    rcases he with z | z
    ·exact absurd (hbe.trans z) hb
    ·rw[hbe];exact z
   rw[q]at q';cases q';obtain⟨v,hv⟩:=heo;exact#[v,by rw[hbe];exact hv]
  ·refine (ok b u q).stay (λc v hc r=>k c v ?_ r) (λc r=>by rw[zo (nown c b r)];exact r) λc xs r=>by rw[zo (ntup c xs r)];exact r
   rcases hc with rfl | hc
   ·exact hbe
   ·rintro rfl;rcases he with z | z
    ·exact nown c b hc z
    ·rw[hc]at z;cases z;exact hb rfl
end
structure Un(fs ex:List pE)(H H':Hp)(h h':pP):Prop where
 keep:∀b o,h.get? b=tI o->H b=tJ->b ∉ fs->b ∉ ex->h'.get? b=tI o
 slot:∀b o,h.get? b=tI o->H b=tJ->b ∈ fs->b ∉ ex->∃sl,h'.get? b=tI { o with slots:=sl }
 free:∀b o,h.get? b=tI o->H b=tJ->b ∉ ex->H' b=tJ
 there:∀b o,h.get? b=tI o->b ∉ ex->∃o',h'.get? b=tI o'
 tups:∀b xs,H b=tI (.tup xs)->H' b=tI (.tup xs)
 frzs:∀b o u,H b=tI (.frz o u)->H' b=tI (.frz o u)
 tbls:∀b ps,H b=tI (.tbl ps)->∃more,H' b=tI (.tbl (ps ++ more))
section
variable{fs fs' ex ex':List pE}{H H1 H2:Hp}{h h1 h2 h':pP}{a x e:pE}{o:HO}
theorem Un.any(u:Un fs ex H H1 h h1){b:pE}{ob:rb}(q:h.get? b=tI ob)(n:H b=tJ)(hx:b ∉ ex):∃sl,h1.get? b=tI { ob with slots:=sl }:=by
 by_cases hb:b ∈ fs
 ·exact u.slot b ob q n hb hx
 ·exact#[ob.slots,u.keep b ob q n hb hx]
theorem Un.kept(k:∀b u,h.get? b=tI u->h'.get? b=tI u):Un fs ex H H h h' :=
 #[λb ob q _ _ _=>k b ob q,λb ob q _ _ _=>#[ob.slots,k b ob q],λ_ _ _ n _=>n,λb ob q _=>#[ob,k b ob q],λ_ _ q=>q,λ_ _ _ q=>q,λ_ ps q=>#[#[],by rw[q];simp]]
theorem Un.refl:Un fs ex H H h h:=Un.kept λ_ _ q=>q
theorem Un.laid(k:∀b u,h.get? b=tI u->h'.get? b=tI u)(hp:h.objs.size<=a)(hn:H a=tJ):Un fs ex H (upd H a o) h h' where
 keep:=λb u q _ _ _=>k b u q
 slot:=λb u q _ _ _=>#[u.slots,k b u q]
 free:=λb u q n _=>by rw[zo (aB (aw (aq q) hp))];exact n
 there:=λb u q _=>#[u,k b u q]
 tups:=λb xs q=>by rw[zo (zF q hn)];exact q
 frzs:=λb u xs q=>by rw[zo (zF q hn)];exact q
 tbls:=λb ps q=>#[#[],by rw[zo (zF q hn),q];simp]
theorem Un.write(mu:Mut (H x))(he:e=x\/H e=tI (.own x))(k:∀b u,b≠e->h.get? b=tI u->h'.get? b=tI u)(heo:∃u,h'.get? e=tI u):Un fs ex H (upd H x o) h h':=by
 have hx:∀b,H b=tJ->b≠x:=λb n z=>by subst z;rw[n]at mu;exact mu
 have hb:∀b,H b=tJ->b≠e:=λb n z=>by
  subst z;rcases he with r | r
  ·exact hx b n r
  ·rw[n]at r;cases r
 have hm:∀b u,H b=tI u->¬ Mut (tI u)->b≠x:=λb u q nm z=>by subst z;rw[q]at mu;exact nm mu
 refine#[λb u q n _ _=>k b u (hb b n) q,λb u q n _ _=>#[u.slots,k b u (hb b n) q],λb u q n _=>by rw[zo (hx b n)];exact n,λb u q _=>?_,
  λb xs q=>by rw[zo (hm b _ q λz=>z)];exact q,λb u xs q=>by rw[zo (hm b _ q λz=>z)];exact q,λb ps q=>#[#[],by rw[zo (hm b _ q λz=>z),q];simp]]
 by_cases hbe:b=e
 ·subst hbe;exact heo
 ·exact#[u,k b u hbe q]
end
noncomputable def trk(h:pP)(H:Hp):List pE:=(aV h.objs.size).filter λa=>(H a).isSome
noncomputable def UY(h:pP)(H:Hp):pP:=PySem.W.hideAll h (trk h H)
theorem U2(h:pP)(H:Hp):(UY h H).objs.size=h.objs.size:=PySem.W.hideAll_size _ _
theorem XH{h:pP}{H:Hp}{b:pE}{o:rb}(e:h.get? b=tI o)(n:H b=tJ):(UY h H).get? b=tI o :=
 PySem.W.hideAll_get _ e λhm=>by
  have q:(H b).isSome=tK:=(tU.mp hm).2;rw[n]at q;simp at q
theorem K5{h:pP}{H:Hp}{b:pE}{o:rb}(e:(UY h H).get? b=tI o):h.get? b=tI o/\H b=tJ:=by
 have e':h.get? b=tI o:=PySem.W.of_hideAll (trk h H) e;refine#[e',?_]
 cases q:H b with
 | none=>rfl
 | some x =>
  have hm:b ∈ trk h H:=tU.mpr #[tV.mpr (aq e'),by simp [q]];have z:(UY h H).get? b=tJ:=PySem.W.hideAll_none (trk h H) hm;rw[z]at e;cases e
noncomputable def K8(g h:pP)(L:pE):List (pE × rb):=(aV h.objs.size).filterMap λa=>if a=L\/(g.get? a).isSome=tK then tJ else (h.get? a).map λo=>(a,o)
noncomputable def rest(g h:pP)(L d:pE):List (pE × rb):=(K8 g h L).filter λp=>decide (p.1≠d)
structure Mod(K:pD)(mg:pL->Option pF)(base:pP):Prop where
 kin:K.In base
 glob:base.Ns pA mg
 blt:∃mb,base.Ns builtinsNs mb/\∀x:pL,x≠"__name__"->mb x=rf x
 nolimit:base.NoLimit
structure Cx where
 prog:pK
 w:pM
 K:pD
 mg:pL->Option pF
 base:pP
 A:pN
 N:List pL
 s₀:pG
 H₀:Hp
 env:sy
 outer:List sy
 stack:List sy
 ex:List pE
 fn:pL->Bool
 calm:Bool
 pn:List (pE × rb)
 xe:pF->pG->Prop
noncomputable def frs(l:List sy):List pE:=l.filterMap (·.frame)
noncomputable abbrev Cx.fs(X:Cx):List pE:=frs X.outer
def Vis(sc:rm)(x:pL):Prop:=sc.names.lookup x=tI .local\/sc.names.lookup x=tI .cell\/sc.names.lookup x=tI .free
def Loc(sc:rm)(x:pL):Prop:=sc.names.lookup x=tI .local\/sc.names.lookup x=tI .cell
def zeU(env:sy)(h:pP)(m:pL->Option pF)(x:pL)(u:pF):Prop :=
 (env.kindOf x=tI .local/\m x=tI u)\/((env.kindOf x=tI .cell\/env.kindOf x=tI .free)/\∃c,env.cells.lookup x=tI c/\h.IsCell c (tI u))
structure Cx.Ok(X:Cx):Prop where
 mod:Mod X.K X.mg X.base
 kind:X.env.scope.kind=.function
 glob:X.env.globals=pA
 blt:X.env.builtins=builtinsNs
 above:X.s₀.heap.objs.size<=X.env.locals
 inj:∀x y c,X.env.cells.lookup x=tI c->X.env.cells.lookup y=tI c->x=y
 has:∀x,(X.env.kindOf x=tI .cell\/X.env.kindOf x=tI .free)->∃c,X.env.cells.lookup x=tI c
 cab:∀x c,X.fn x=tK->X.env.cells.lookup x=tI c->X.s₀.heap.objs.size<=c
 hd:X.calm=tK->X.A.handled=tJ
 frames:X.A.frames=tI X.stack
 stk:X.stack=X.outer\/(X.stack=X.env::X.outer/\X.env.frame=tI X.env.locals)
 exf:∀b ∈ X.ex,b≠X.env.locals/\∀x c,X.env.cells.lookup x=tI c->c≠b
 bs:∀b o,X.base.get? b=tI o->X.s₀.heap.get? b=tI o/\X.H₀ b=tJ
 bsz:X.base.objs.size<=X.s₀.heap.objs.size
 noex:∀b o,X.base.get? b=tI o->b ∉ X.ex
 exfs:∀b ∈ X.ex,b ∉ X.fs
 funs:X.s₀.heap.FunFrames X.base X.outer
 frf:∀b ∈ X.fs,X.H₀ b=tJ
structure Inv(X:Cx)(tM:List (pE × rb))(σ:List (Option V))(H:Hp)(s:pG):Prop where
 ok:X.Ok
 os:s.os=X.s₀.os
 bare:rY s.gens
 base:Un X.fs X.ex X.H₀ H X.s₀.heap s.heap
 loc:∃m,s.heap.Ns X.env.locals m/\∀(i:Nat) (x:pL) (v:V),X.N[i]? = tI x->σ[i]? = tI (tI v)->Vis X.env.scope x->∃u,RelV v u/\zeU X.env s.heap m x u
 cell:∀x c,X.env.cells.lookup x=tI c->∃v,s.heap.IsCell c v
 free:H X.env.locals=tJ
 freeC:∀x c,X.env.cells.lookup x=tI c->H c=tJ
 pin:∀p ∈ X.pn ++ tM,s.heap.get? p.1=tI p.2/\H p.1=tJ/\p.1≠X.env.locals/\p.1 ∉ X.fs/\∀v,p.2.data≠.cell v
 hok:HOk X.prog X.w H s.heap
 len:σ.length=X.N.length
section
variable{X:Cx}{tM:List (pE × rb)}{σ:List (Option V)}{H H':Hp}{s:pG}{h':pP}
theorem Cx.Ok.nofr(ok:X.Ok){b:pE}{o:rb}(e:X.base.get? b=tI o):b ∉ X.fs:=λhb=>by
 have:=(ok.funs.mem hb).1;rw[e]at this;cases this
theorem Inv.bs(I:Inv X tM σ H s):∀b o,X.base.get? b=tI o->s.heap.get? b=tI o/\H b=tJ:=λb o e =>
 #[I.base.keep b o (I.ok.bs b o e).1 (I.ok.bs b o e).2 (I.ok.nofr e) (I.ok.noex b o e),I.base.free b o (I.ok.bs b o e).1 (I.ok.bs b o e).2 (I.ok.noex b o e)]
theorem Inv.bk(I:Inv X tM σ H s):∀b o,X.base.get? b=tI o->s.heap.get? b=tI o:=λb o e=>(I.bs b o e).1
theorem Inv.mod(I:Inv X tM σ H s):Mod X.K X.mg X.base:=I.ok.mod
theorem Inv.kIn(I:Inv X tM σ H s):X.K.In s.heap:=I.ok.mod.kin.keeps I.bk
theorem Inv.nolimit(I:Inv X tM σ H s):s.heap.NoLimit:=I.ok.mod.nolimit.keeps I.bk
theorem Inv.fr(I:Inv X tM σ H s):∃m,Fr X.base X.env.locals s.heap m :=
 let #[m,hn,_]:=I.loc
 #[m,hn,I.bk,aN I.ok.bsz I.ok.above]
theorem Inv.lt(I:Inv X tM σ H s):X.env.locals<s⁻¹:=let #[_,hn,_]:=I.loc;hn.lt
theorem Inv.sz(I:Inv X tM σ H s):X.s₀.heap.objs.size<=s⁻¹:=aN I.ok.above (dj I.lt)
theorem Inv.nofs(I:Inv X tM σ H s){a:pE}(h:s⁻¹<=a):a ∉ X.fs:=λhb=>by
 obtain⟨_,o,ho,_⟩:=I.ok.funs.mem hb;exact absurd (aw (aq ho) (aN I.sz h)) (cM _)
theorem Inv.cne(I:Inv X tM σ H s):∀x c,X.env.cells.lookup x=tI c->c≠X.env.locals:=λx c e z=>by
 obtain⟨v,o,ho,hd⟩:=I.cell x c e;obtain⟨m,⟨o',es,ep,ho',hd',_⟩,_⟩:=I.loc;rw[z,ho']at ho;cases ho;rw[hd']at hd;cases hd
theorem Inv.funs(I:Inv X tM σ H s):s.heap.FunFrames X.base X.outer:=by
 have all:∀(l:List sy),(∀b ∈ frs l,b ∈ X.fs)->X.s₀.heap.FunFrames X.base l->s.heap.FunFrames X.base l:=by
  intro l
  induction l with
  | nil=>intro _ _;trivial
  | cons env r ih =>
   intro hs hl;obtain⟨hk,⟨L,o,hf,hn,ho,hd⟩,hr⟩:=hl;have hL:L ∈ X.fs:=hs L (by unfold frs;rw[dP,hf];exact az);obtain⟨sl,e⟩:=I.base.slot L o ho (I.ok.frf L hL) hL λz=>I.ok.exfs L z hL;exact#[hk,#[L,_,hf,hn,e,hd],ih (λb hb=>hs b (by unfold frs;rw[dP,hf];exact ao _ hb)) hr]
 exact all X.outer (λ_ hb=>hb) I.ok.funs
theorem Inv.stack(I:Inv X tM σ H s):s.heap.FunFrames X.base X.stack:=by
 rcases I.ok.stk with e | ⟨e,hf⟩
 ·rw[e];exact I.funs
 ·rw[e];obtain⟨m,hn,_⟩:=I.loc;refine .cons (by rw[I.ok.kind];decide) hf hn ?_ I.funs;exact Heap.get?_none_of_le (aN I.ok.bsz I.ok.above)
theorem Inv.stkSub(I:Inv X tM σ H s):∀b ∈ frs X.stack,b ∈ X.env.locals::X.fs:=λb hb=>by
 rcases I.ok.stk with e | ⟨e,hf⟩
 ·rw[e]at hb;exact ao _ hb
 ·rw[e]at hb;unfold frs at hb;rw[dP,hf]at hb;exact hb
theorem Inv.stkFree(I:Inv X tM σ H s):∀b ∈ frs X.stack,H b=tJ:=λb hb=>by
 rcases tR.mp (I.stkSub b hb)with e | hb
 ·rw[e];exact I.free
 ·obtain⟨_,o,ho,_⟩:=I.ok.funs.mem hb;exact I.base.free b o ho (I.ok.frf b hb) λz=>I.ok.exfs b z hb
theorem Inv.step{g':Array sY}{t':Nat}{d':Drawn}{ch:List pE}(I:Inv X tM σ H s)
  (hch:∀b ∈ ch,(b ∈ X.ex\/X.s₀.heap.objs.size<=b)/\b≠X.env.locals/\(∀x c,X.env.cells.lookup x=tI c->c≠b)/\∀p ∈ X.pn ++ tM,p.1≠b)
  (keep:∀b o,b≠X.env.locals->b ∉ X.fs->b ∉ ch->s.heap.get? b=tI o->H b=tJ->h'.get? b=tI o)
  (slot:∀b o,b≠X.env.locals->b ∈ X.fs->b ∉ ch->s.heap.get? b=tI o->H b=tJ->∃sl,h'.get? b=tI { o with slots:=sl }) (free:∀b o,b ∉ ch->s.heap.get? b=tI o->H b=tJ->H' b=tJ)
  (there:∀b o,b ∉ ch->s.heap.get? b=tI o->∃o',h'.get? b=tI o')
  (tups:∀b xs,H b=tI (.tup xs)->H' b=tI (.tup xs)) (frzs:∀b o u,H b=tI (.frz o u)->H' b=tI (.frz o u)) (tbls:∀b ps,H b=tI (.tbl ps)->∃more,H' b=tI (.tbl (ps ++ more)))
  (ns:∀m,s.heap.Ns X.env.locals m->h'.Ns X.env.locals m) (hok:HOk X.prog X.w H' h') (hg:rY g') :
  Inv X tM σ H' { s with heap:=h',gens:=g',drawn:=d',toks:=t' }:=by
 have neL:∀b o,X.s₀.heap.get? b=tI o->b≠X.env.locals:=λb o e=>aB (aw (aq e) I.ok.above)
 have neC:∀b o,X.s₀.heap.get? b=tI o->b ∉ X.ex->b ∉ ch:=λb o e hx hb=>by
  rcases (hch b hb).1 with z | z
  ·exact hx z
  ·exact absurd (aw (aq e) z) (cM _)
 have cellK:∀x c,X.env.cells.lookup x=tI c->∀v,s.heap.IsCell c v->h'.IsCell c v:=λx c e v ⟨o,ho,hd⟩=>by
  have nch:c ∉ ch:=λz=>(hch c z).2.2.1 x c e rfl;by_cases hc:c ∈ X.fs
  ·obtain⟨sl,q⟩:=slot c o (I.cne x c e) hc nch ho (I.freeC x c e);exact#[_,q,hd]
  ·exact#[o,keep c o (I.cne x c e) hc nch ho (I.freeC x c e),hd]
 refine#[I.ok,I.os,hg,#[λb o e n hb hx=>?_,λb o e n hb hx=>?_,λb o e n hx=>?_,λb o e hx=>?_,λb xs e=>tups b xs (I.base.tups b xs e),λb o xs e=>frzs b o xs (I.base.frzs b o xs e),λb ps e=>?_],?_,λx c e=>?_,?_,λx c e=>?_,λp hp=>?_,hok,I.len]
 ·exact keep b o (neL b o e) hb (neC b o e hx) (I.base.keep b o e n hb hx) (I.base.free b o e n hx)
 ·obtain⟨sl,e1⟩:=I.base.slot b o e n hb hx;obtain⟨sl',e2⟩:=slot b _ (neL b o e) hb (neC b o e hx) e1 (I.base.free b o e n hx);exact#[sl',e2]
 ·obtain⟨o',e1⟩:=I.base.there b o e hx;exact free b o' (neC b o e hx) e1 (I.base.free b o e n hx)
 ·obtain⟨o',e1⟩:=I.base.there b o e hx;exact there b o' (neC b o e hx) e1
 ·obtain⟨m1,e1⟩:=I.base.tbls b ps e;obtain⟨m2,e2⟩:=tbls b _ e1;exact#[m1 ++ m2,by rw[e2,Array.append_assoc]]
 ·obtain⟨m,hn,hl⟩:=I.loc;refine#[m,ns m hn,λi x v e1 e2 e3=>?_];obtain⟨u,r,l⟩:=hl i x v e1 e2 e3;refine#[u,r,?_];rcases l with l | ⟨k,c,e,z⟩
  ·exact .inl l
  ·exact .inr #[k,c,e,cellK x c e _ z]
 ·obtain⟨v,z⟩:=I.cell x c e;exact#[v,cellK x c e v z]
 ·obtain⟨m,⟨o,_,_,ho,_⟩,_⟩:=I.loc;exact free _ o (λz=>(hch _ z).2.1 rfl) ho I.free
 ·obtain⟨v,o,ho,hd⟩:=I.cell x c e;exact free c o (λz=>(hch c z).2.2.1 x c e rfl) ho (I.freeC x c e)
 ·obtain⟨e,n,ne,nf,d⟩:=I.pin p hp;have nch:p.1 ∉ ch:=λz=>(hch p.1 z).2.2.2 p hp rfl;exact#[keep p.1 p.2 ne nf nch e n,free p.1 p.2 nch e n,ne,nf,d]
theorem Inv.un{t':Nat}(I:Inv X tM σ H s)(u:Un X.fs [] H H' s.heap h')(hok:HOk X.prog X.w H' h'):Inv X tM σ H' { s with heap:=h',toks:=t' }:=by
 obtain⟨m,⟨o,es,ep,ho,r⟩,_⟩:=id I.loc;obtain⟨sl,hL⟩:=u.any ho I.free (by simp)
 exact I.step (g':=s.gens) (d':=s.drawn) (ch:=[]) (λ_ z=>nomatch z) (λb o _ hb _ e n=>u.keep b o e n hb (by simp)) (λb o _ hb _ e n=>u.slot b o e n hb (by simp)) (λb o _ e n=>u.free b o e n (by simp)) (λb o _ e=>u.there b o e (by simp)) u.tups u.frzs u.tbls (λm' hm=>by
  obtain⟨o',es',ep',ho',r'⟩:=hm;rw[ho]at ho';cases ho'
  exact#[_,es',ep',hL,r']) hok I.bare
theorem Inv.call{g':Array sY}{t':Nat}{d':Drawn}{ch:List pE}(I:Inv X tM σ H s)(u:Un (frs X.stack) ch H H' s.heap h')(hok:HOk X.prog X.w H' h')(hg:rY g')
  (hch:∀b ∈ ch,(b ∈ X.ex\/X.s₀.heap.objs.size<=b)/\b≠X.env.locals/\(∀x c,X.env.cells.lookup x=tI c->c≠b)/\∀p ∈ X.pn ++ tM,p.1≠b) :
  Inv X tM σ H' { s with heap:=h',gens:=g',drawn:=d',toks:=t' }:=by
 obtain⟨m,⟨o,es,ep,ho,r⟩,_⟩:=id I.loc;obtain⟨sl,hL⟩:=u.any ho I.free λz=>(hch _ z).2.1 rfl
 exact I.step (ch:=ch) hch (λb o hL hb hc e n=>u.keep b o e n (λz=>(tR.mp (I.stkSub b z)).elim hL hb) hc) (λb o _ _ hc e n=>u.any e n hc) (λb o hc e n=>u.free b o e n hc) (λb o hc e=>u.there b o e hc) u.tups u.frzs u.tbls (λm' hm=>by
  obtain⟨o',es',ep',ho',r'⟩:=hm;rw[ho]at ho';cases ho'
  exact#[_,es',ep',hL,r']) hok hg
theorem Inv.turned{t':Nat}{it:pE}(I:Inv X tM σ H s)(k:∀b o,b≠it->s.heap.get? b=tI o->h'.get? b=tI o)(hn:H it=tJ)(hL:it≠X.env.locals)
  (h1:it ∈ X.ex\/X.s₀.heap.objs.size<=it) (h2:∀x c,X.env.cells.lookup x=tI c->c≠it) (h3:∀p ∈ X.pn ++ tM,p.1≠it):Inv X tM σ H { s with heap:=h',toks:=t' }:=by
 have nit:∀b u,H b=tI u->b≠it:=λb u e z=>by rw[z,hn]at e;cases e
 refine I.step (g':=s.gens) (d':=s.drawn) (ch:=[it]) (λb hb=>?_) (λb o _ _ hc e _=>k b o (λz=>hc (by simp [z])) e) (λb o _ _ hc e _=>#[o.slots,k b o (λz=>hc (by simp [z])) e]) (λ_ _ _ _ n=>n)
  (λb o hc e=>#[o,k b o (λz=>hc (by simp [z])) e]) (λ_ _ e=>e) (λ_ _ _ e=>e) (λb ps e=>#[#[],by rw[e];simp]) (λm hm=>?_) (λb u e=>?_) I.bare
 ·have e:b=it:=by simpa using hb
  subst e;exact#[h1,hL,h2,h3]
 ·obtain⟨o,es,ep,ho,r⟩:=hm;exact#[o,es,ep,k _ o (Ne.symm hL) ho,r]
 ·refine (I.hok b u e).stay (λc v hc q=>k c v ?_ q) (λ_ q=>q) λ_ _ q=>q;rcases hc with z | z
  ·rw[z];exact nit b u e
  ·exact nit c _ z
theorem Inv.tok(I:Inv X tM σ H s)(t:Nat):Inv X tM σ H { s with toks:=t }:=I.un (h':=s.heap) (t':=t) Un.refl I.hok
theorem Inv.kept{t':Nat}(I:Inv X tM σ H s)(k:∀b u,s.heap.get? b=tI u->h'.get? b=tI u):Inv X tM σ H { s with heap:=h',toks:=t' }:=I.un (Un.kept k) (I.hok.kept k)
theorem Inv.laid{a:pE}{o:HO}{t':Nat}(I:Inv X tM σ H s)(k:∀b u,s.heap.get? b=tI u->h'.get? b=tI u)(hp:s⁻¹<=a)(new:ObjOk X.prog X.w (upd H a o) h' a o) :
  Inv X tM σ (upd H a o) { s with heap:=h',toks:=t' }:=I.un (Un.laid k hp (I.hok.fresh hp)) (I.hok.laid k hp new)
theorem Inv.write{x e:pE}{o:HO}{t':Nat}(I:Inv X tM σ H s)(mu:Mut (H x))(he:e=x\/H e=tI (.own x))(k:∀b u,b≠e->s.heap.get? b=tI u->h'.get? b=tI u)(heo:∃u,h'.get? e=tI u)
  (new:ObjOk X.prog X.w (upd H x o) h' x o):Inv X tM σ (upd H x o) { s with heap:=h',toks:=t' }:=I.un (Un.write mu he k heo) (I.hok.write mu he k heo new)
theorem Inv.weak{σ':List (Option V)}(I:Inv X tM σ H s)(hl:σ'.length=σ.length)(w:∀(i:Nat) v,σ'[i]? = tI (tI v)->σ[i]? = tI (tI v)):Inv X tM σ' H s :=
 #[I.ok,I.os,I.bare,I.base,let #[m,hn,hl']:=I.loc; #[m,hn,λi x v e1 e2 e3=>hl' i x v e1 (w i v e2) e3],I.cell,I.free,I.freeC,I.pin,I.hok,hl.trans I.len]
theorem Inv.pins_of{pins':List (pE × rb)}(I:Inv X tM σ H s)(h:∀p ∈ pins',s.heap.get? p.1=tI p.2/\H p.1=tJ/\p.1≠X.env.locals/\p.1 ∉ X.fs/\∀v,p.2.data≠.cell v):Inv X pins' σ H s :=
 #[I.ok,I.os,I.bare,I.base,I.loc,I.cell,I.free,I.freeC,λp hp=>(tS.mp hp).elim (λz=>I.pin p (aM _ z)) (h p),I.hok,I.len]
theorem XX{N:List pL}(hN:N.Nodup){i j:Nat}{x:pL}(a:N[i]? = tI x)(b:N[j]? = tI x):i=j:=by
 obtain⟨h1,e1⟩:=tP.mp a;obtain⟨h2,e2⟩:=tP.mp b;exact (List.getElem_inj hN).mp (e1.trans e2.symm)
theorem Z5{M:sV}{A:pN}{E:pF->pG->Prop}{i:Nat}{x:pL}{v:V}{u:pF}{Q:Unit->pG->Prop}(I:Inv X tM σ H s)(hN:X.N.Nodup)(hi:X.N[i]? = tI x)(hx:Loc X.env.scope x)(r:RelV v u)
  (h:∀s',Inv X tM (σ.set i (tI v)) H s'->(∃a,Heap.SameBut a s.heap s'.heap/\(a=X.env.locals\/X.env.cells.lookup x=tI a))->Q Unit.unit s') (hf:X.fn x=tK\/X.env.scope.names.lookup x=tI .local:=by first | exact .inl rfl | exact .inr rfl | assumption):pJ M A (storeName X.env x u) Q E s:=by
 obtain⟨m,hn,hl⟩:=id I.loc;have hcls:(X.env.scope.kind == .class || (X.env.scope.kind == .module && X.env.locals != X.env.globals))=tL:=by rw[I.ok.kind];rfl
 have hiσ:i<σ.length:=by rw[I.len];exact (tP.mp hi).1
 have cne:=I.cne
 have tracked:∀{a:pE} {h':pP},(∃o,s.heap.get? a=tI o/\H a=tJ)->Heap.SameBut a s.heap h'->HOk X.prog X.w H h':=λ{a h'} ha hs b ob e=>by
  obtain⟨_,_,hfree⟩:=ha;refine (I.hok b ob e).stay (λc w' hc q=>(hs.2 c ?_).trans q) (λ_ q=>q) λ_ _ q=>q;rintro rfl;rcases hc with rfl | hc
  ·rw[hfree]at e;cases e
  ·rw[hfree]at hc;cases hc
 rcases hx with hk | hk
 ·refine wpAny_storeName_local hk hn (λh' hn' hs=>?_) hcls;obtain⟨oL,_,_,hoL,_⟩:=id hn;refine h _ #[I.ok,I.os,I.bare,#[λb o e n hb hx=>?_,λb o e n hb hx=>?_,I.base.free,λb o e hx=>?_,I.base.tups,I.base.frzs,I.base.tbls],#[_,hn',λj y v' e1 e2 e3=>?_],λy c e=>?_,I.free,I.freeC,λp hp=>?_,tracked #[oL,hoL,I.free] hs,by simpa using I.len] #[_,hs,.inl rfl]
  ·exact (hs.2 b (aB (aw (aq e) I.ok.above))).trans (I.base.keep b o e n hb hx)
  ·obtain⟨sl,e1⟩:=I.base.slot b o e n hb hx;exact#[sl,(hs.2 b (aB (aw (aq e) I.ok.above))).trans e1]
  ·obtain⟨o',e1⟩:=I.base.there b o e hx;exact#[o',(hs.2 b (aB (aw (aq e) I.ok.above))).trans e1]
  ·by_cases hj:j=i
   ·subst hj;rw[hi]at e1;cases e1;rw[eY hiσ]at e2;cases e2;exact#[u,r,.inl #[hk,by simp]]
   ·rw[fw (Ne.symm hj)]at e2;obtain⟨u',r',q⟩:=hl j y v' e1 e2 e3;refine#[u',r',?_];rcases q with ⟨k,e⟩ | ⟨k,c,e,z⟩
    ·refine .inl #[k,?_];have:y≠x:=λe=>hj (XX hN e1 (e ▸ hi));simp [this,e]
    ·exact .inr #[k,c,e,z.sameBut hs (cne y c e)]
  ·obtain⟨w',z⟩:=I.cell y c e;exact#[w',z.sameBut hs (cne y c e)]
  ·obtain⟨e,n,ne,nf,d⟩:=I.pin p hp;exact#[(hs.2 p.1 ne).trans e,n,ne,nf,d]
 ·have hfn:X.fn x=tK:=by
   rcases hf with z | z
   ·exact z
   ·rw[z]at hk;cases hk
  obtain⟨c,hc⟩:=I.ok.has x (.inl hk);obtain⟨w',z⟩:=I.cell x c hc;refine wpAny_storeName_cell I.ok.kind hk hc z (λh' hc' hs=>?_);obtain⟨oc,hoc,hocd⟩:=id z;refine h { s with heap:=h' } #[I.ok,I.os,I.bare,#[λb o e n hb hx=>?_,λb o e n hb hx=>?_,I.base.free,λb o e hx=>?_,I.base.tups,I.base.frzs,I.base.tbls],#[m,hn.sameBut hs (Ne.symm (cne x c hc)),λj y v' e1 e2 e3=>?_],λy c' e=>?_,I.free,I.freeC,λp hp=>?_,tracked #[oc,hoc,I.freeC x c hc] hs,by simpa using I.len] #[c,hs,.inr hc]
  ·exact (hs.2 b (aB (aw (aq e) (I.ok.cab x c hfn hc)))).trans (I.base.keep b o e n hb hx)
  ·obtain⟨sl,e1⟩:=I.base.slot b o e n hb hx;exact#[sl,(hs.2 b (aB (aw (aq e) (I.ok.cab x c hfn hc)))).trans e1]
  ·obtain⟨o',e1⟩:=I.base.there b o e hx;exact#[o',(hs.2 b (aB (aw (aq e) (I.ok.cab x c hfn hc)))).trans e1]
  ·by_cases hj:j=i
   ·subst hj;rw[hi]at e1;cases e1;rw[eY hiσ]at e2;cases e2;exact#[u,r,.inr #[.inl hk,c,hc,hc']]
   ·rw[fw (Ne.symm hj)]at e2;obtain⟨u',r',q⟩:=hl j y v' e1 e2 e3;refine#[u',r',?_];rcases q with q | ⟨k,c',e,z'⟩
    ·exact .inl q
    ·refine .inr #[k,c',e,z'.sameBut hs ?_];rintro rfl;exact hj (XX hN e1 (I.ok.inj _ _ _ e hc ▸ hi))
  ·by_cases hcc:c'=c
   ·subst hcc;exact#[_,hc']
   ·obtain⟨w2,z2⟩:=I.cell y c' e;exact#[w2,z2.sameBut hs hcc]
  ·obtain⟨e,n,ne,nf,d⟩:=I.pin p hp;refine#[(hs.2 p.1 ?_).trans e,n,ne,nf,d];intro q;rw[q,hoc]at e;have q':oc=p.2:=Option.some.inj e;exact d w' (by rw[<- q'];exact hocd)
theorem j8{M:sV}{A:pN}{E:pF->pG->Prop}{i:Nat}{x:pL}{v:V}{u:pF}{Q:Unit->pG->Prop}(I:Inv X tM σ H s)(hN:X.N.Nodup)(hi:X.N[i]? = tI x)(hx:Loc X.env.scope x)(r:RelV v u)
  (h:∀s',Inv X tM (σ.set i (tI v)) H s'->Q Unit.unit s') (hf:X.fn x=tK\/X.env.scope.names.lookup x=tI .local:=by first | exact .inl rfl | exact .inr rfl | assumption):pJ M A (storeName X.env x u) Q E s :=
 Z5 I hN hi hx r (λs' I' _=>h s' I') hf
theorem Inv.call'{s':pG}{ch:List pE}(I:Inv X tM σ H s)(ho:s'.os=s.os)(u:Un (frs X.stack) ch H H' s.heap s'.heap)(hok:HOk X.prog X.w H' s'.heap)(hg:rY s'.gens)
  (hch:∀b ∈ ch,(b ∈ X.ex\/X.s₀.heap.objs.size<=b)/\b≠X.env.locals/\(∀x c,X.env.cells.lookup x=tI c->c≠b)/\∀p ∈ X.pn ++ tM,p.1≠b):Inv X tM σ H' s':=by
 obtain⟨h',g',d',t',o'⟩:=s';have e:o'=s.os:=ho;subst e;exact I.call (g':=g') (t':=t') (d':=d') u hok hg hch
end
noncomputable abbrev XK:=pF->Option pE->Hp->Prop
noncomputable abbrev St:=List (Option V)
noncomputable abbrev VK:=V->Hp->Prop
noncomputable abbrev TE:=St->Hp->VK->Prop
noncomputable abbrev TT:=St->Hp->(Bool->Hp->Prop)->Prop
noncomputable abbrev TA:=St->Hp->(List V->Hp->Prop)->Prop
structure vd where
 nx:St->Hp->Prop
 rt:VK
 bk:St->Hp->Prop:=λ_ _=>False
 ct:St->Hp->Prop:=λ_ _=>False
noncomputable abbrev TS:=vd->St->Hp->Prop
def EP(X:Cx)(tM:List (pE × rb))(σ:St)(Q:VK)(u:pF)(s':pG):Prop:=∃v H',Inv X tM σ H' s'/\RelV v u/\Q v H'
def TP(X:Cx)(tM:List (pE × rb))(σ:St)(Q:Bool->Hp->Prop)(b:Bool)(s':pG):Prop:=∃H',Inv X tM σ H' s'/\Q b H'
def AP(X:Cx)(tM:List (pE × rb))(σ:St)(Q:List V->Hp->Prop)(us:List pF)(s':pG):Prop:=∃vs H',Inv X tM σ H' s'/\Vals vs us/\Q vs H'
def SP(X:Cx)(tM:List (pE × rb))(D:vd)(f:Flow)(s':pG):Prop :=
 match f with
 | .next=>∃σ' H',Inv X tM σ' H' s'/\D.nx σ' H'
 | .brk=>∃σ' H',Inv X tM σ' H' s'/\D.bk σ' H'
 | .cont=>∃σ' H',Inv X tM σ' H' s'/\D.ct σ' H'
 | .ret u=>∃v σ' H',Inv X tM σ' H' s'/\RelV v u/\D.rt v H'
def PE(X:Cx)(e:pO)(t:TE):Prop :=
 ∀(tM:List (pE × rb)) (s:pG) (σ:St) (H:Hp) (Q:VK),Inv X tM σ H s->t σ H Q->pJ (model X.prog X.w) X.A (eval e X.env) (EP X tM σ Q) X.xe s
def PT(X:Cx)(e:pO)(t:TT):Prop :=
 ∀(tM:List (pE × rb)) (s:pG) (σ:St) (H:Hp) (Q:Bool->Hp->Prop),Inv X tM σ H s->t σ H Q->pJ (model X.prog X.w) X.A (isTrue e X.env (eval e X.env)) (TP X tM σ Q) X.xe s
def PW(X:Cx)(e:pO)(t:TT):Prop :=
 ∀(whole:tw pF) (tM:List (pE × rb)) (s:pG) (σ:St) (H:Hp) (Q:Bool->Hp->Prop),Inv X tM σ H s->t σ H Q->pJ (model X.prog X.w) X.A (isTrue e X.env whole) (TP X tM σ Q) X.xe s
theorem PW.pt{X:Cx}{e:pO}{t:TT}(h:PW X e t):PT X e t:=h _
def PA(X:Cx)(es:List pO)(t:TA):Prop :=
 ∀(pos:rB) (tM:List (pE × rb)) (s:pG) (σ:St) (H:Hp) (Q:List V->Hp->Prop),Inv X tM σ H s->t σ H Q->pJ (model X.prog X.w) X.A (spliced (pV pos (pB es X.env))) (AP X tM σ Q) X.xe s
def PS(X:Cx)(st:pQ)(t:TS):Prop :=
 ∀(tM:List (pE × rb)) (s:pG) (σ:St) (H:Hp) (D:vd),Inv X tM σ H s->t D σ H->pJ (model X.prog X.w) X.A (exec st X.env) (SP X tM D) X.xe s
def PSs(X:Cx)(st:List pQ)(t:TS):Prop :=
 ∀(tM:List (pE × rb)) (s:pG) (σ:St) (H:Hp) (D:vd),Inv X tM σ H s->t D σ H->pJ (model X.prog X.w) X.A (execs st X.env) (SP X tM D) X.xe s
theorem thn{α:Type}{t:tw α}{Q Q':α->pG->Prop}{M:sV}{A:pN}{E:pF->pG->Prop}{s:pG}(h:pJ M A t Q E s)(hQ:∀a s,Q a s->Q' a s):pJ M A t Q' E s:=rF h hQ λ_ _ x=>x
section
variable{X:Cx}
theorem bin{a b:pO}{ta tb:TE}(ha:PE X a ta)(hb:PE X b tb){tM:List (pE × rb)}{s:pG}{σ:St}{H:Hp}{R:V->V->Hp->Prop}(I:Inv X tM σ H s)(h:ta σ H λx H1=>tb σ H1 λy H2=>R x y H2)
  {α:Type} {Q:α->pG->Prop} {f:pF->pF->tw α}
  (hf:∀v u s2 x y H2,Inv X tM σ H2 s2->RelV x v->RelV y u->R x y H2->pJ (model X.prog X.w) X.A (f v u) Q X.xe s2) :
  pJ (model X.prog X.w) X.A (eval a X.env) (λv s₁=>pJ (model X.prog X.w) X.A (eval b X.env) (λu s₂=>pJ (model X.prog X.w) X.A (f v u) Q X.xe s₂) X.xe s₁) X.xe s:=by
 refine thn (ha tM s σ H _ I h) λv s1 ⟨x,H1,I1,r1,q1⟩=>?_;refine thn (hb tM s1 σ H1 _ I1 q1) λu s2 ⟨y,H2,I2,r2,q2⟩=>?_;exact hf v u s2 x y H2 I2 r1 r2 q2
def onSl(σ:St)(i:Nat)(p:V->Prop):Prop:=match σ[i]? with | some (tI v)=>p v | _=>False
theorem onSl.of{σ:St}{i:Nat}{p:V->Prop}(h:onSl σ i p):∃v,σ[i]? = tI (tI v)/\p v:=by
 unfold onSl at h;split at h
 ·exact#[_,by assumption,h]
 ·exact h.elim
def onInt(x:V)(p:Int->Prop):Prop:=match x with | .int k=>p k | _=>False
theorem onInt.of{x:V}{p:Int->Prop}(h:onInt x p):∃k,x=.int k/\p k:=by
 cases x <;> first | exact#[_,rfl,h] | exact h.elim
theorem onInt.to{x:V}{p:Int->Prop}(h:∃k,x=.int k/\p k):onInt x p:=by
 obtain⟨k,rfl,h⟩:=h;exact h
def onStr(x:V)(p:pL->Prop):Prop:=match x with | .str k=>p k | _=>False
theorem onStr.of{x:V}{p:pL->Prop}(h:onStr x p):∃k,x=.str k/\p k:=by
 cases x <;> first | exact#[_,rfl,h] | exact h.elim
theorem onStr.to{x:V}{p:pL->Prop}(h:∃k,x=.str k/\p k):onStr x p:=by
 obtain⟨k,rfl,h⟩:=h;exact h
def onBl(x:V)(p:Bool->Prop):Prop:=match x with | .bl k=>p k | _=>False
theorem onBl.of{x:V}{p:Bool->Prop}(h:onBl x p):∃k,x=.bl k/\p k:=by
 cases x <;> first | exact#[_,rfl,h] | exact h.elim
theorem onBl.to{x:V}{p:Bool->Prop}(h:∃k,x=.bl k/\p k):onBl x p:=by
 obtain⟨k,rfl,h⟩:=h;exact h
def onRef(x:V)(p:pE->Prop):Prop:=match x with | .ref k=>p k | _=>False
theorem onRef.of{x:V}{p:pE->Prop}(h:onRef x p):∃k,x=.ref k/\p k:=by
 cases x <;> first | exact#[_,rfl,h] | exact h.elim
theorem onRef.to{x:V}{p:pE->Prop}(h:∃k,x=.ref k/\p k):onRef x p:=by
 obtain⟨k,rfl,h⟩:=h;exact h
def yf(i:Nat):TE:=λσ H Q=>onSl σ i λv=>Q v H
def tC(v:V):TE:=λ_ H Q=>Q v H
theorem zcj{i:Nat}{x:pL}{pos:rB}(hN:X.N[i]? = tI x)(hv:Vis X.env.scope x)(hd:(x ==("__debug__" : pL))=tL:=by decide)(hcd:(x ==("__classdict__" : pL))=tL:=by decide):PE X (.Name x pos) (yf i):=by
 intro tM s σ H Q I h;obtain⟨v,e,h⟩:=onSl.of h;obtain⟨m,hn,hl⟩:=I.loc;obtain⟨u,r,l⟩:=hl i x v hN e hv;have fin:EP X tM σ Q u s:=#[v,H,I,r,h];rcases l with ⟨hk,hm⟩ | ⟨hk,c,hc,hcell⟩
 ·exact tB (wpAny_loadName_local I.ok.kind hk hn hm fin) hd
 ·rcases hk with hk | hk
  ·exact tB (wpAny_loadName_cell I.ok.kind hk hc hcell fin) hd
  ·exact tB (wpAny_loadName_free I.ok.kind hk hc hcell fin hcd) hd
theorem ze{i j pos}:PE X (.Constant (.int i) j pos) (tC (.int i)):=λ_ _ _ H _ I h=>wpAny_Constant_int #[.int i,H,I.tok _,#[_,rfl],h]
theorem xO{b j pos}:PE X (.Constant (.bool b) j pos) (tC (.bl b)):=λ_ _ _ H _ I h=>Constant_bool #[.bl b,H,I,rfl,h]
theorem yy{j pos}:PE X (.Constant .none j pos) (tC .non):=λ_ _ _ H _ I h=>Constant_none #[.non,H,I,rfl,h]
theorem zX{x j pos}:PE X (.Constant (.str x) j pos) (tC (.str x)):=λ_ _ _ H _ I h=>Calls.Constant_str #[.str x,H,I.tok _,#[_,rfl],h]
def Gl(X:Cx)(x:pL):Prop:=X.env.kindOf x=tI .globalImplicit
theorem vk{E:pF->pG->Prop}{tM:List (pE × rb)}{s:pG}{σ:St}{H:Hp}{x:pL}{u:pF}{pos:rB}{Q:pF->pG->Prop}(I:Inv X tM σ H s)(hg:Gl X x)(hm:X.mg x=tI u)(h:Q u s)
  (hd:(x ==("__debug__" : pL))=tL:=by decide):pJ (model X.prog X.w) X.A (eval (.Name x pos) X.env) Q E s :=
 Calls.Name_function_global I.ok.kind hg (Calls.loadGlobal_global (by rw[I.ok.glob];exact I.mod.glob.keeps I.bk) hm h) hd
theorem wB{E:pF->pG->Prop}{tM:List (pE × rb)}{s:pG}{σ:St}{H:Hp}{x:pL}{u:pF}{pos:rB}{Q:pF->pG->Prop}(I:Inv X tM σ H s)(hg:Gl X x)(hm:X.mg x=tJ)(hv:rf x=tI u)(h:Q u s)
  (hn:x≠"__name__":=by decide) (hd:(x ==("__debug__" : pL))=tL:=by decide):pJ (model X.prog X.w) X.A (eval (.Name x pos) X.env) Q E s:=by
 obtain⟨mb,h1,h2⟩:=I.mod.blt;exact Calls.Name_function_global I.ok.kind hg (Calls.loadGlobal_builtin (by rw[I.ok.glob];exact I.mod.glob.keeps I.bk) hm (by rw[I.ok.blt];exact h1.keeps I.bk) ((h2 x hn).trans hv) h) hd
theorem yl{x:pL}{v:V}{u:pF}{pos:rB}(hg:Gl X x)(hm:X.mg x=tI u)(r:RelV v u)(hd:(x ==("__debug__" : pL))=tL:=by decide):PE X (.Name x pos) (tC v) :=
 λ_ _ _ H _ I h=>vk I hg hm #[v,H,I,r,h] hd
theorem za1{x:pL}{v:V}{u:pF}{pos:rB}(hg:Gl X x)(hm:X.mg x=tJ)(hv:rf x=tI u)(r:RelV v u)(hn:x≠"__name__":=by decide)(hd:(x ==("__debug__" : pL))=tL:=by decide):PE X (.Name x pos) (tC v) :=
 λ_ _ _ H _ I h=>wB I hg hm hv #[v,H,I,r,h] hn hd
variable{a b:pO}{ta tb:TE}{pos:rB}
def PC(X:Cx)(op:rS)(a b:pO)(t:TE):Prop :=
 ∀(tM:List (pE × rb)) (s:pG) (σ:St) (H:Hp) (Q:VK),Inv X tM σ H s->t σ H Q ->
  pJ (model X.prog X.w) X.A (eval a X.env) (λv s₁=>pJ (model X.prog X.w) X.A (eval b X.env) (λu s₂=>pJ (model X.prog X.w) X.A (pR op v u) (EP X tM σ Q) X.xe s₂) X.xe s₁) X.xe s
theorem JO(b:pO){op:rS}(h:op≠.In)(h2:op≠.NotIn):behindInMarks op b=tL:=by
 have e1:(op == CmpOp.In)=tL:=by cases op <;> first | rfl | exact absurd rfl h
 have e2:(op == CmpOp.NotIn)=tL:=by cases op <;> first | rfl | exact absurd rfl h2
 cases b <;> simp [behindInMarks,e1,e2]
theorem xA{op:rS}{t:TE}(h:PC X op a b t)(h1:behindInMarks op b=tL:=by first | exact JO _ ∅ ∅ | rfl):PE X (.Compare a [op] [b] pos) t:=λtM s σ H Q I hw=>wpAny_Compare1 (h tM s σ H Q I hw) h1
variable{tA tB':TT}{rest:List pO}
def tOr(t u:TT):TT:=λσ H Q=>t σ H λc H1=>if c=tK then Q tK H1 else u σ H1 Q
def zbn(t:TT):TT:=λσ H Q=>t σ H λc H1=>Q (!c) H1
theorem vS(ha:PT X a tA):PW X (.BoolOp .Or [a] pos) tA:=by
 intro wh tM s σ H Q I h;refine isTrue_or (thn (ha tM s σ H Q I h) λc s1 e=>?_)
 cases c with
 | false=>exact isTrue_or_nil e
 | true=>exact e
theorem uh(ha:PT X a tA)(hb:PW X (.BoolOp .Or (b::rest) pos) tB'):PW X (.BoolOp .Or (a::b::rest) pos) (tOr tA tB'):=by
 intro wh tM s σ H Q I h;refine isTrue_or (thn (ha tM s σ H _ I h) λc s1 ⟨H1,I1,q1⟩=>?_)
 cases c with
 | true=>exact#[H1,I1,q1]
 | false=>exact hb wh tM s1 σ H1 Q I1 q1
theorem ye(ha:PT X a tA):PT X (.UnaryOp .Not a pos) (zbn tA):=by
 intro tM s σ H Q I h;exact isTrue_not (ha tM s σ H (λc H1=>Q (!c) H1) I h)
def QQ(ta tb:TE):TE:=λσ H Q=>ta σ H λx H1=>onBl x λc=>if c=tK then tb σ H1 Q else Q (.bl tL) H1
def U7(ta:TE):TE:=λσ H Q=>ta σ H λx H1=>onBl x λc=>Q (.bl (!c)) H1
theorem jT{op}{t:TE}(h:PE X a t):PE X (.BoolOp op [a] pos) t:=λtM s σ H Q I hw=>BoolOp_one (h tM s σ H Q I hw)
theorem jS(ha:PE X a ta)(hb:PE X (.BoolOp .And (b::rest) pos) tb):PE X (.BoolOp .And (a::b::rest) pos) (QQ ta tb):=by
 intro tM s σ H Q I h;refine BoolOp_and (thn (ha tM s σ H _ I h) λv s1 ⟨x,H1,I1,r1,q1⟩=>?_);obtain⟨c,rfl,q1⟩:=onBl.of q1;cases r1;refine ra ?_
 cases c with
 | true=>exact hb tM s1 σ H1 Q I1 q1
 | false=>exact#[.bl tL,H1,I1,rfl,q1]
theorem Kj(ha:PE X a ta):PE X (.UnaryOp .Not a pos) (U7 ta):=by
 intro tM s σ H Q I h;refine UnaryOp_ (thn (ha tM s σ H _ I h) λv s1 ⟨x,H1,I1,r1,q1⟩=>?_);obtain⟨c,rfl,q1⟩:=onBl.of q1;cases r1;exact not_of (ra #[.bl (!c),H1,I1,rfl,q1])
def tIf(t:TT)(ta tb:TE):TE:=λσ H Q=>t σ H λc H1=>if c=tK then ta σ H1 Q else tb σ H1 Q
theorem vD{c:pO}(hc:PT X c tA)(ha:PE X a ta)(hb:PE X b tb):PE X (.IfExp c a b pos) (tIf tA ta tb):=by
 intro tM s σ H Q I h;refine wpAny_IfExp (thn (hc tM s σ H _ I h) λd s1 ⟨H1,I1,q1⟩=>?_)
 cases d with
 | true=>exact ha tM s1 σ H1 Q I1 q1
 | false=>exact hb tM s1 σ H1 Q I1 q1
end
def SqL(K:pD)(H:Hp)(a:pE)(xs:List V):Prop :=
 Rd H a (.lst xs) \/
  ∃(o:rb) (its:Array pF) (n:Nat),K.lookup a=tI o/\o.cls=.type "list"/\o.dict=tJ/\o.data=.seq its n/\its.size<=pC/\Vals xs its.toList
def SqT(K:pD)(H:Hp)(a:pE)(xs:List V):Prop :=
 Rd H a (.tup xs) \/
  ∃(o:rb) (its:Array pF) (n:Nat),K.lookup a=tI o/\o.cls=.type "tuple"/\o.data=.seq its n/\its.size<=pC/\Vals xs its.toList
noncomputable def ze1:pF->Option V
 | .none=>tI .non
 | .bool b=>tI (.bl b)
 | .int i _=>tI (.int i)
 | .str x _=>tI (.str x)
 | .bytes b _=>tI (.byt b)
 | .float b _=>tI (.flt b)
 | .ref a=>tI (.ref a)
 | .type n=>tI (.ty n)
 | _=>tJ
theorem RelV.abs{x:V}{u:pF}(r:RelV x u):ze1 u=tI x:=by
 cases x with
 | non=>cases r;rfl
 | bl _=>cases r;rfl
 | int _=>obtain⟨t,rfl⟩:=r;rfl
 | str _=>obtain⟨t,rfl⟩:=r;rfl
 | byt _=>obtain⟨t,rfl⟩:=r;rfl
 | flt _=>obtain⟨t,rfl⟩:=r;rfl
 | ref _=>cases r;rfl
 | ty _=>cases r;rfl
theorem RelV.inj{x y:V}{u:pF}(r:RelV x u)(q:RelV y u):x=y:=Option.some.inj (r.abs.symm.trans q.abs)
theorem Vals.inj:∀{xs ys:List V} {us:List pF},Vals xs us->Vals ys us->xs=ys
 | _,_,_,.nil,.nil=>rfl
 | _,_,_,.cons r t,.cons r' t'=>by rw[r.inj r',Vals.inj t t']
section
variable{X:Cx}{tM:List (pE × rb)}{σ:St}{H:Hp}{s:pG}{a:pE}{xs ys:List V}
theorem SqL.of{K:pD}(h:H a=tI (.lst xs)):SqL K H a xs:=.inl (.inl h)
theorem SqT.of{K:pD}(h:H a=tI (.tup xs)):SqT K H a xs:=.inl (.inl h)
theorem Inv.list(I:Inv X tM σ H s)(h:SqL X.K H a xs):∃its:List pF,Vals xs its/\PlainL s.heap a its.toArray/\xs.length<=pC:=by
 rcases h with h | ⟨o,its,n,hk,hc,hd,hs,hz,r⟩
 ·obtain⟨z,its,n,r,e⟩:=h.ok I.hok;exact#[its,r,#[_,n,e,rfl,rfl,rfl],z]
 ·refine#[its.toList,r,#[o,n,I.kIn a o hk,hc,hd,by simpa using hs],?_];have e:=r.length
  erw[dQ]at e
  lia
theorem Inv.tuple(I:Inv X tM σ H s)(h:SqT X.K H a xs):∃its:List pF,Vals xs its/\IsTup s.heap a its.toArray/\xs.length<=pC:=by
 rcases h with h | ⟨o,its,n,hk,hc,hs,hz,r⟩
 ·obtain⟨z,its,r,p⟩:=h.ok I.hok;exact#[its,r,p,z]
 ·refine#[its.toList,r,#[o,I.kIn a o hk,hc,n,by simpa using hs],?_];have e:=r.length
  erw[dQ]at e
  lia
theorem Inv.list_inj(I:Inv X tM σ H s)(h:SqL X.K H a xs)(h':SqL X.K H a ys):xs=ys:=by
 obtain⟨its,r,⟨o,n,e,_,_,d⟩,_⟩:=I.list h;obtain⟨its',r',⟨o',n',e',_,_,d'⟩,_⟩:=I.list h';rw[e]at e';cases e';rw[d]at d';injection d' with d1 _;have:its=its':=by simpa using congrArg Array.toList d1
 subst this;exact r.inj r'
theorem Inv.tuple_inj(I:Inv X tM σ H s)(h:SqT X.K H a xs)(h':SqT X.K H a ys):xs=ys:=by
 obtain⟨its,r,⟨o,e,_,n,d⟩,_⟩:=I.tuple h;obtain⟨its',r',⟨o',e',_,n',d'⟩,_⟩:=I.tuple h';rw[e]at e';cases e';rw[d]at d';injection d' with d1 _;have:its=its':=by simpa using congrArg Array.toList d1
 subst this;exact r.inj r'
end
noncomputable abbrev Cx.wish(X:Cx)(E:pF->pG->Prop):Cx:={ X with xe:=E }
noncomputable abbrev Cx.nox(X:Cx):Cx:=X.wish λ_ _=>False
theorem Cx.Ok.wish{X:Cx}(ok:X.Ok)(E:pF->pG->Prop):(X.wish E).Ok :=
 #[ok.mod,ok.kind,ok.glob,ok.blt,ok.above,ok.inj,ok.has,ok.cab,ok.hd,ok.frames,ok.stk,ok.exf,ok.bs,ok.bsz,ok.noex,ok.exfs,ok.funs,ok.frf]
theorem Cx.Ok.unwish{X:Cx}{E:pF->pG->Prop}(ok:(X.wish E).Ok):X.Ok :=
 #[ok.mod,ok.kind,ok.glob,ok.blt,ok.above,ok.inj,ok.has,ok.cab,ok.hd,ok.frames,ok.stk,ok.exf,ok.bs,ok.bsz,ok.noex,ok.exfs,ok.funs,ok.frf]
section
variable{X:Cx}{tM:List (pE × rb)}{σ:St}{H:Hp}{s:pG}{E:pF->pG->Prop}
theorem Inv.wish(I:Inv X tM σ H s)(E:pF->pG->Prop):Inv (X.wish E) tM σ H s:=#[I.ok.wish E,I.os,I.bare,I.base,I.loc,I.cell,I.free,I.freeC,I.pin,I.hok,I.len]
theorem Inv.unwish(I:Inv (X.wish E) tM σ H s):Inv X tM σ H s:=#[I.ok.unwish,I.os,I.bare,I.base,I.loc,I.cell,I.free,I.freeC,I.pin,I.hok,I.len]
theorem SP.unwish{D:vd}{f:Flow}{s':pG}(h:SP (X.wish E) tM D f s'):SP X tM D f s':=by
 cases f with
 | next=>obtain⟨σ',H',I,q⟩:=h;exact#[σ',H',I.unwish,q]
 | brk=>obtain⟨σ',H',I,q⟩:=h;exact#[σ',H',I.unwish,q]
 | cont=>obtain⟨σ',H',I,q⟩:=h;exact#[σ',H',I.unwish,q]
 | ret u=>obtain⟨v,σ',H',I,r,q⟩:=h;exact#[v,σ',H',I.unwish,r,q]
theorem PSs.nox{st:List pQ}{t:TS}(h:PSs X.nox st t):PSs X st t:=λtM s σ H D I hw =>
 rF (h tM s σ H D (I.wish _) hw) (λ_ _ q=>q.unwish) λ_ _ z=>False.elim z
end
section
variable{X:Cx}{st:pQ}{rest:List pQ}{t u:TS}{e:pO}{te:TE}{pos:rB}
def QK:TS:=λD σ H=>D.nx σ H
def zdg(t u:TS):TS:=λD σ H=>t { D with nx:=u D } σ H
theorem zw:PSs X [] QK:=λ_ _ σ H _ I h=>rE #[σ,H,I,h]
theorem zJ(h1:PS X st t)(h2:PSs X rest u):PSs X (st::rest) (zdg t u):=by
 intro tM s σ H D I h;refine rH (thn (h1 tM s σ H { D with nx:=u D } I h) λf s1 q=>?_)
 cases f with
 | next =>
  obtain⟨σ',H',I',q⟩:=q;exact h2 tM s1 σ' H' D I' q
 | ret v=>exact q
 | brk=>exact q
 | cont=>exact q
theorem zg(h1:PS X st t):PSs X [st] t:=by
 intro tM s σ H D I h;refine rH (thn (h1 tM s σ H D I h) λf s1 q=>?_)
 cases f with
 | next=>exact rE q
 | ret v=>exact q
 | brk=>exact q
 | cont=>exact q
theorem Inv.quiet{tM:List (pE × rb)}{σ:St}{H:Hp}{s:pG}(I:Inv X tM σ H s):interactive X.env=tL:=by simp [interactive,I.ok.kind]
def JN(te:TE):TS:=λD σ H=>te σ H λ_ H1=>D.nx σ H1
theorem xJ(he:PE X e te)(hs:swapsWith e tJ pos.line X.env=pure tL:=by rfl):PS X (.Expr e pos) (JN te):=by
 intro tM s σ H D I h;exact wpAny_Expr_any (thn (he tM s σ H _ I h) λv s1 ⟨x,H1,I1,r1,q1⟩=>#[σ,H1,I1,q1]) I.quiet hs
def za4(te:TE):TS:=λD σ H=>te σ H D.rt
theorem zm(he:PE X e te):PS X (.Return (tI e) pos) (za4 te):=by
 intro tM s σ H D I h;exact sS (thn (he tM s σ H _ I h) λv s1 ⟨x,H1,I1,r1,q1⟩=>#[x,σ,H1,I1,r1,q1])
def zde(c:TT)(t u:TS):TS:=λD σ H=>c σ H λb H1=>if b=tK then t D σ H1 else u D σ H1
theorem zM{c:pO}{a b:List pQ}{tc:TT}(hc:PT X c tc)(ha:PSs X a t)(hb:PSs X b u):PS X (.If c a b pos) (zde tc t u):=by
 intro tM s σ H D I h;refine wpAny_If (thn (hc tM s σ H _ I h) λd s1 ⟨H1,I1,q1⟩=>?_)
 cases d with
 | true=>exact ha tM s1 σ H1 D I1 q1
 | false=>exact hb tM s1 σ H1 D I1 q1
end
noncomputable abbrev TG:=V->St->Hp->(St->Hp->Prop)->Prop
noncomputable abbrev TGs:=List V->St->Hp->(St->Hp->Prop)->Prop
def PG(X:Cx)(target:pO)(t:TG):Prop :=
 ∀(tM:List (pE × rb)) (s:pG) (σ:St) (H:Hp) (v:V) (u:pF) (Q:St->Hp->Prop),Inv X tM σ H s->RelV v u->t v σ H Q ->
  pJ (model X.prog X.w) X.A (assign target X.env u) (λ_ s'=>∃σ' H',Inv X tM σ' H' s'/\Q σ' H') X.xe s
def PGs(X:Cx)(ts:List pO)(t:TGs):Prop :=
 ∀(tM:List (pE × rb)) (s:pG) (σ:St) (H:Hp) (vs:List V) (us:List pF) (Q:St->Hp->Prop),Inv X tM σ H s->Vals vs us->t vs σ H Q ->
  pJ (model X.prog X.w) X.A (assignInOrder ((assignEach ts X.env).map (·.2)) us) (λ_ s'=>∃σ' H',Inv X tM σ' H' s'/\Q σ' H') X.xe s
noncomputable abbrev zdN:=V->V->V->Hp->(Hp->Prop)->Prop
def zeB(X:Cx)(t:zdN):Prop :=
 ∀(tM:List (pE × rb)) (s:pG) (σ:St) (H:Hp) (o i v:V) (ov iv u:pF) (Q:Hp->Prop),Inv X tM σ H s->RelV o ov->RelV i iv->RelV v u->t o i v H Q ->
  pJ (model X.prog X.w) X.A (setItem ov iv u) (λ_ s'=>∃H',Inv X tM σ H' s'/\Q H') X.xe s
section
variable{X:Cx}{pos:rB}
def yS(i:Nat):TG:=λv σ H Q=>Q (σ.set i (tI v)) H
theorem zy{i:Nat}{x:pL}(hN:X.N.Nodup)(hi:X.N[i]? = tI x)(hx:Loc X.env.scope x)(hf:X.fn x=tK\/X.env.scope.names.lookup x=tI .local:=by first | exact .inl rfl | exact .inr rfl | assumption):PG X (.Name x pos) (yS i):=by
 intro tM s σ H v u Q I r h;exact sQ (j8 I hN hi hx r (λs' I'=>#[_,H,I',h]) hf)
def zaF:TGs:=λvs σ H Q=>vs=[]/\Q σ H
def jz(t:TG)(u:TGs):TGs:=λvs σ H Q=>∃v r,vs=v::r/\t v σ H λσ' H'=>u r σ' H' Q
theorem wy:PGs X [] zaF:=by
 intro tM s σ H vs us Q I r h;obtain⟨e,h⟩:=h;subst e;cases r;exact assignInOrder_nil #[σ,H,I,h]
theorem zZ{e:pO}{es:List pO}{t:TG}{u:TGs}(h1:PG X e t)(h2:PGs X es u)
  (hs:(assignEach (e::es) X.env).map (·.2)=assign e X.env::(assignEach es X.env).map (·.2):=by rfl):PGs X (e::es) (jz t u):=by
 intro tM s σ H vs us Q I r h;obtain⟨v,vr,e1,h⟩:=h;subst e1
 cases r with
 | cons r rr =>
  rw[hs];refine assignInOrder_cons (thn (h1 tM s σ H _ _ _ I r h) λ_ s1 ⟨σ1,H1,I1,q1⟩=>?_);exact h2 tM s1 σ1 H1 _ _ Q I1 rr q1
def zaH(K:pD)(n:Nat)(t:TGs):TG:=λv σ H Q=>∃a xs,v=.ref a/\SqT K H a xs/\xs.length=n/\t xs σ H Q
theorem uJ{es:List pO}{k:Nat}{t:TGs}{n:Nat}(hc:X.calm=tK)(h:PGs X es t)
  (hn:(assignEach es X.env).length=n:=by rfl) (hst:(assignEach es X.env).findIdx? (·.1)=tJ:=by rfl):PG X (.Tuple es k pos) (zaH X.K n t):=by
 intro tM s σ H v u Q I r hw;obtain⟨a,xs,e1,hq,hl,hw⟩:=hw;subst e1;cases r;obtain⟨its,rv,ht,hz⟩:=I.tuple hq;refine assign_Tuple_tuple (I.ok.hd hc) ht (by simp [hn,<- hl,rv.length]) hst λh' hx=>?_;have I1:Inv X tM σ H { s with heap:=h' }:=I.kept (t':=s.toks) λb o e=>hx b o (aB (aq e)) e;exact h tM _ σ H xs _ Q I1 (by simpa using rv) hw
def zeI(to ti:TE)(t:zdN):TG:=λv σ H Q=>to σ H λo H1=>ti σ H1 λi H2=>t o i v H2 λH3=>Q σ H3
theorem zcw{o i:pO}{to ti:TE}{t:zdN}(ho:PE X o to)(hi:PE X i ti)(hs:zeB X t)
  (ha:∀v,assign (.Subscript o i pos) X.env v=(do
   let ov <- holding [v] (eval o X.env)
   let iv <- holding [v,ov] (eval i X.env)
   standAt pos
   holding [v,ov,iv] (setItem ov iv v)
   release [v,ov,iv] []):=by intro _;rfl):PG X (.Subscript o i pos) (zeI to ti t):=by
 intro tM s σ H v u Q I r h;rw[ha];refine pq (re (thn (ho tM s σ H _ I h) λov s1 ⟨x,H1,I1,r1,q1⟩=>?_));refine pq (re (thn (hi tM s1 σ H1 _ I1 q1) λiv s2 ⟨y,H2,I2,r2,q2⟩=>?_));refine pq (rq (pq (re (thn (hs tM s2 σ H2 x y v ov iv u _ I2 r1 r2 r q2) λ_ s3 ⟨H3,I3,q3⟩=>?_))));exact wpAny_release #[σ,H3,I3,q3]
def zbq(te:TE)(g:TG):TS:=λD σ H=>te σ H λx H1=>g x σ H1 D.nx
theorem zbP{tg e:pO}{te:TE}{g:TG}(he:PE X e te)(hg:PG X tg g)(hs:swapsWithSole [tg] e pos.line X.env=pure tL:=by rfl)(hw:swappedStores [tg] e X.env=pure tJ:=by rfl)
  (h1:(assignEach [tg] X.env).map (·.2)=[assign tg X.env]:=by rfl):PS X (.Assign [tg] e pos) (zbq te g):=by
 intro tM s σ H D I h;refine wpAny_Assign_stores (thn (he tM s σ H _ I h) λv s1 ⟨x,H1,I1,r1,q1⟩=>?_) hs hw;rw[h1];exact thn (hg tM s1 σ H1 x v _ I1 r1 q1) λ_ s2 q=>q
theorem uE{i:Nat}{x:pL}{e:pO}{te:TE}{pos':rB}(hN:X.N.Nodup)(hi:X.N[i]? = tI x)(hx:Loc X.env.scope x)(he:PE X e te)(hs:swapsWith e (tI (.Name x pos')) pos.line X.env=pure tL:=by rfl)(hf:X.fn x=tK\/X.env.scope.names.lookup x=tI .local:=by first | exact .inl rfl | exact .inr rfl | assumption) :
  PS X (.Assign [.Name x pos'] e pos) (zbq te (yS i)):=by
 intro tM s σ H D I h;refine sU (thn (he tM s σ H _ I h) λv s1 ⟨y,H1,I1,r1,q1⟩=>?_) hs;exact j8 I1 hN hi hx r1 (λs2 I2=>#[_,H1,I2,q1]) hf
def Wh(c:TT)(tb:TS):TS:=λD σ H=>∃W:Nat->St->Hp->Prop,(∃m,W m σ H)/\∀m σ H,W m σ H ->
 c σ H λb H1=>if b=tK then ∃N:St->Hp->Prop,(∀σ' H',N σ' H'->∃m',m'<m/\W m' σ' H')/\tb { D with nx:=N,ct:=N,bk:=D.nx } σ H1 else D.nx σ H1
theorem jX{c:pO}{body:List pQ}{tc:TT}{tb:TS}(hp:PassesOwn (model X.prog X.w) X.A X.env X.xe)(hc:PT X c tc)(hb:PSs X body tb):PS X (.While c body [] pos) (Wh tc tb):=by
 intro tM s σ H D I h;obtain⟨W,⟨m0,w0⟩,turn⟩:=h;refine wpAny_While (codeAny_whileLoop (λn s'=>∃σ' H',Inv X tM σ' H' s'/\W n σ' H') ?_ m0 #[σ,H,I,w0]);rintro n s1 ⟨σ1,H1,I1,w1⟩;refine rp hp (thn (hc tM s1 σ1 H1 _ I1 (turn n σ1 H1 w1)) λb s2 ⟨H2,I2,q2⟩=>?_)
 cases b with
 | true =>
  obtain⟨N,hN,q2⟩:=q2;rw[if_pos rfl];refine rp hp (thn (hb tM s2 σ1 H2 _ I2 q2) λf s3 q3=>?_)
  cases f with
  | next =>
   obtain⟨σ3,H3,I3,n3⟩:=q3;obtain⟨m',hm,w3⟩:=hN σ3 H3 n3;exact#[m',hm,σ3,H3,I3,w3]
  | cont =>
   obtain⟨σ3,H3,I3,n3⟩:=q3;obtain⟨m',hm,w3⟩:=hN σ3 H3 n3;exact#[m',hm,σ3,H3,I3,w3]
  | brk=>exact q3
  | ret v=>exact q3
 | false =>
  rw[if_neg aC];exact rE #[σ1,H2,I2,q2]
end
structure It where
 go:Nat->Hp->Prop
 yld:Nat->Hp->V->Hp->Prop
 stop:Nat->Hp->Prop
def wa(X:Cx)(tM:List (pE × rb))(H:Hp)(b:pE):Prop :=
 H b=tJ/\b≠X.env.locals/\b ∉ X.fs/\(b ∈ X.ex\/X.s₀.heap.objs.size<=b)/\(∀x c,X.env.cells.lookup x=tI c->c≠b)/\∀p ∈ X.pn ++ tM,p.1≠b
theorem Inv.fpOk{X:Cx}{tM:List (pE × rb)}{σ:St}{H H':Hp}{s:pG}{b:pE}(I:Inv X tM σ H s)(hb:s⁻¹<=b)(hn:H' b=tJ):wa X tM H' b:=by
 refine#[hn,bW (aw I.lt hb),I.nofs hb,.inr (aN I.sz hb),λx c e z=>?_,λp hp z=>?_]
 ·obtain⟨v,q⟩:=I.cell x c e;exact absurd (aw q.lt (by rw[z];exact hb)) (cM _)
 ·exact absurd (aw (aq (I.pin p hp).1) (by rw[z];exact hb)) (cM _)
structure Qu(P:pK)(w:pM)(K:pD)(tg:pO)(J:It)(fp:List pE)(it:pE)(tn:Nat->pP->Prop):Prop where
 mem:it ∈ fp
 obj:∀i h,tn i h->∀b ∈ fp,∃o,h.get? b=tI o/\∀v,o.data≠.cell v
 keep:∀i h h',tn i h->(∀b ∈ fp,∀o,h.get? b=tI o->h'.get? b=tI o)->tn i h'
 item:∀(X:Cx),X.prog=P->X.w=w->X.K=K->X.calm=tK->∀(i:Nat) (tM:List (pE × rb)) (s:pG) (σ:St) (H:Hp) (E:pF->pG->Prop),Inv X tM σ H s->(∀b ∈ fp,wa X tM H b)->tn i s.heap->J.go i H ->
  pJ (model P w) X.A (pyNext (.ref it)) (λr s1=>∃u,r=tI u /\
   pJ (model P w) X.A (letOwnedTupleGo tg (.ref it) u) (λ_ s2=>∃x H',Inv X tM σ H' s2/\RelV x u/\J.yld i H x H'/\tn (i+1) s2.heap/\∀b ∈ fp,H' b=tJ) E s1) E s
 done:∀(X:Cx),X.prog=P->X.w=w->X.K=K->X.calm=tK->∀(i:Nat) (tM:List (pE × rb)) (s:pG) (σ:St) (H:Hp) (E:pF->pG->Prop),Inv X tM σ H s->(∀b ∈ fp,wa X tM H b)->tn i s.heap->J.stop i H ->
  pJ (model P w) X.A (pyNext (.ref it)) (λr s1=>r=tJ/\Inv X tM σ H s1) E s
 self:∀(A:pN) (i:Nat) (s:pG) (Q:pF->pG->Prop) (E:pF->pG->Prop),tn i s.heap->Q (.ref it) s->pJ (model P w) A (pyIter (.ref it)) Q E s
noncomputable abbrev TI:=St->Hp->(It->Hp->Prop)->Prop
def PIE(X:Cx)(tM:List (pE × rb))(σ:St)(tg:pO)(R:It->Hp->Prop)(itv:pF)(s2:pG):Prop :=
 ∃(it:pE) (fp:List pE) (tn:Nat->pP->Prop) (J:It) (H':Hp),itv=.ref it/\Inv X tM σ H' s2/\Qu X.prog X.w X.K tg J fp it tn/\tn 0 s2.heap/\(∀b ∈ fp,wa X tM H' b)/\R J H'
def PI(X:Cx)(tg iter:pO)(wi:TI):Prop :=
 ∀(tM:List (pE × rb)) (s:pG) (σ:St) (H:Hp) (R:It->Hp->Prop),Inv X tM σ H s->wi σ H R ->
  pJ (model X.prog X.w) X.A (eval iter X.env) (λv s1=>pJ (model X.prog X.w) X.A (pyIter v) (PIE X tM σ tg R) X.xe s1) X.xe s
theorem Qe{M:sV}{A:pN}{E:pF->pG->Prop}{s:pG}{tg:pO}{it:pE}{u:pF}{o:rb}{n:String}{vs:Array pF}{Q:Unit->pG->Prop}(ho:s.heap.get? it=tI o)(hc:o.cls=.type n)(hd:o.data=.fields vs)
    (hn:["enumerate","zip","dict_itemiterator","dict_reverseitemiterator","odict_iterator","itertools.zip_longest","itertools.pairwise"].contains n=tL) (hQ:Q Unit.unit s):pJ M A (letOwnedTupleGo tg (.ref it) u) Q E s:=by
  unfold letOwnedTupleGo
  cases tg <;> first
    | exact pz hQ
    | (cases u <;> first
        | exact pz hQ
        | (refine pq (wpAny_load ho ?_)
           rw[hc,hd];show pJ M A (if (["enumerate","zip","dict_itemiterator","dict_reverseitemiterator","odict_iterator","itertools.zip_longest","itertools.pairwise"].contains n && vs[0]? == tI (rawInt _))=tK then _ else _) Q E s;rw[if_neg (by intro h;rw[hn,Bool.false_and]at h;cases h)]
           exact pz hQ))
noncomputable def Itl(K:pD)(a:pE):It :=
 #[λi H=>∃xs x,SqL K H a xs/\xs[i]? = tI x,λi H x H'=>H'=H/\∀xs,SqL K H a xs->xs[i]? = tI x,λi H=>∃xs,SqL K H a xs/\xs.length<=i]
noncomputable def Itt(K:pD)(a:pE):It :=
 #[λi H=>∃xs x,SqT K H a xs/\xs[i]? = tI x,λi H x H'=>H'=H/\∀xs,SqT K H a xs->xs[i]? = tI x,λi H=>∃xs,SqT K H a xs/\xs.length<=i]
noncomputable def Itr(lo:Int)(n:Nat):It:=#[λi _=>i<n,λi H x H'=>H'=H/\x=.int (lo+i),λi _=>n<=i]
theorem V9{P:pK}{w:pM}{K:pD}{tg:pO}(a it:pE):Qu P w K tg (Itl K a) [it] it (λi h=>h.IsListIter it a i) where
 mem:=by simp
 obj:=λi h st b hb=>by
  have e:b=it:=by simpa using hb
  subst e;obtain⟨o,e,c,d⟩:=st;exact#[o,e,λv z=>by rw[d]at z;cases z]
 keep:=λi h h' st k=>st.at λo e=>k it (by simp) o e
 item:=by
  intro X hP hw hK hc i tM s σ H E I hf st hg;subst hP hw hK;obtain⟨xs,x,hq,hx⟩:=hg;obtain⟨its,rv,p,hz⟩:=I.list hq;obtain⟨u,hu,ru⟩:=rv.get hx;obtain⟨f0,f1,f2,f3,f4,f5⟩:=hf it (by simp);refine wpAny_pyNext_list_item st p.isList (x:=u) (by simpa using hu) λh' st' sb=>?_;have I1:Inv X tM σ H { s with heap:=h' }:=I.turned (t':=s.toks) (λb o hb e=>(sb.2 b hb).trans e) f0 f1 f3 f4 f5;obtain⟨o,e,c,d⟩:=id st';exact#[u,rfl,Qe (s:={ s with heap:=h' }) e c d ∅ #[x,H,I1,ru,#[rfl,λys hy=>by rw[I.list_inj hy hq];exact hx],st',λb hb=>(hf b hb).1]]
 done:=by
  intro X hP hw hK hc i tM s σ H E I hf st hg;subst hP hw hK;obtain⟨xs,hq,hx⟩:=hg;obtain⟨its,rv,p,hz⟩:=I.list hq;obtain⟨f0,f1,f2,f3,f4,f5⟩:=hf it (by simp);have hl:=rv.length;exact wpAny_pyNext_list_end (I.ok.hd hc) st p.isList (by simp;lia) λh' eb=>#[rfl,I.turned (t':=s.toks) (λb o hb e=>eb b o hb e) f0 f1 f3 f4 f5]
 self:=λ_ _ _ _ _ st h=>wpAny_pyIter_listiter st h
theorem WB{P:pK}{w:pM}{K:pD}{tg:pO}(a it:pE):Qu P w K tg (Itt K a) [it] it (λi h=>h.IsTupleIter it a i) where
 mem:=by simp
 obj:=λi h st b hb=>by
  have e:b=it:=by simpa using hb
  subst e;obtain⟨o,e,c,d⟩:=st;exact#[o,e,λv z=>by rw[d]at z;cases z]
 keep:=λi h h' st k=>st.at λo e=>k it (by simp) o e
 item:=by
  intro X hP hw hK hc i tM s σ H E I hf st hg;subst hP hw hK;obtain⟨xs,x,hq,hx⟩:=hg;obtain⟨its,rv,p,hz⟩:=I.tuple hq;obtain⟨u,hu,ru⟩:=rv.get hx;obtain⟨f0,f1,f2,f3,f4,f5⟩:=hf it (by simp);refine wpAny_pyNext_tuple_item st (show s.heap.IsTuple a its.toArray from p) (x:=u) (by simpa using hu) λh' st' sb=>?_;have I1:Inv X tM σ H { s with heap:=h' }:=I.turned (t':=s.toks) (λb o hb e=>(sb.2 b hb).trans e) f0 f1 f3 f4 f5;obtain⟨o,e,c,d⟩:=id st';exact#[u,rfl,Qe (s:={ s with heap:=h' }) e c d ∅ #[x,H,I1,ru,#[rfl,λys hy=>by rw[I.tuple_inj hy hq];exact hx],st',λb hb=>(hf b hb).1]]
 done:=by
  intro X hP hw hK hc i tM s σ H E I hf st hg;subst hP hw hK;obtain⟨xs,hq,hx⟩:=hg;obtain⟨its,rv,p,hz⟩:=I.tuple hq;obtain⟨f0,f1,f2,f3,f4,f5⟩:=hf it (by simp);have hl:=rv.length;exact wpAny_pyNext_tuple_end (I.ok.hd hc) st (show s.heap.IsTuple a its.toArray from p) (by simp;lia) λh' eb=>#[rfl,I.turned (t':=s.toks) (λb o hb e=>eb b o hb e) f0 f1 f3 f4 f5]
 self:=λ_ _ _ _ _ st h=>wpAny_pyIter_tupleiter st h
theorem WC{P:pK}{w:pM}{K:pD}{tg:pO}(it:pE)(lo:Int)(n:Nat):Qu P w K tg (Itr lo n) [it] it (λi h=>IsRangeIter h it (lo+(i:Nat) * 1) ((n:Int) - (i:Nat)) 1) where
 mem:=by simp
 obj:=λi h st b hb=>by
  have e:b=it:=by simpa using hb
  subst e
  exact#[_,st,λv z=>by
   have z':Data.fields _=Data.cell v:=z
   cases z']
 keep:=λi h h' st k=>k it (by simp) _ st
 item:=by
  intro X hP hw hK hc i tM s σ H E I hf st hg;subst hP hw hK;obtain⟨f0,f1,f2,f3,f4,f5⟩:=hf it (by simp);have W:=Walks.range (prog:=X.prog) (w:=X.w) (I.ok.hd hc) it lo 1 n;refine W.item i s _ _ hg st λv h' tk hv st' kk=>?_;obtain⟨t,rfl⟩:=hv;have I1:Inv X tM σ H { s with heap:=h',toks:=tk }:=I.turned (λb o hb e=>kk b o (by simpa using hb) e) f0 f1 f3 f4 f5;refine#[_,rfl,Qe (s:={ s with heap:=h',toks:=tk }) (n:="range_iterator") st' rfl rfl ∅ #[.int (lo+i),H,I1,#[t,?_],#[rfl,rfl],st',λb hb=>(hf b hb).1]];rw[Int.mul_one]
 done:=by
  intro X hP hw hK hc i tM s σ H E I hf st hg;subst hP hw hK;obtain⟨f0,f1,f2,f3,f4,f5⟩:=hf it (by simp);exact wpAny_pyNext_range_end (I.ok.hd hc) st (by have:n<=i:=hg;lia) λh' eb=>#[rfl,I.turned (t':=s.toks) (λb o hb e=>eb b o hb e) f0 f1 f3 f4 f5]
 self:=λ_ _ _ _ _ st h=>wpAny_pyIter_rangeiter st h
section
variable{X:Cx}{tg:pO}
def zah(K:pD)(tl:TE):TI:=λσ H R=>tl σ H λx H1=>∃a,x=.ref a/\(∃xs,SqL K H1 a xs)/\R (Itl K a) H1
def zdj(K:pD)(tl:TE):TI:=λσ H R=>tl σ H λx H1=>∃a,x=.ref a/\(∃xs,SqT K H1 a xs)/\R (Itt K a) H1
theorem yJ{l:pO}{tl:TE}(hl:PE X l tl):PI X tg l (zah X.K tl):=by
 intro tM s σ H R I h;refine thn (hl tM s σ H _ I h) λv s1 ⟨x,H1,I1,r1,q1⟩=>?_;obtain⟨a,e,⟨xs,hq⟩,q⟩:=q1;subst e;cases r1;obtain⟨its,rv,p,hz⟩:=I1.list hq;refine sj p.isList ?_;refine#[s1⁻¹,[s1⁻¹],_,_,H1,rfl,I1.kept (t':=s1.toks) λb o e=>aa _ e,V9 a _,#[_,aD _ rfl,rfl,rfl],λb hb=>?_,q];have e:b=s1⁻¹:=by simpa using hb
 subst e;exact I1.fpOk (ak _) (I1.hok.fresh (ak _))
theorem zbR{l:pO}{tl:TE}(hl:PE X l tl):PI X tg l (zdj X.K tl):=by
 intro tM s σ H R I h;refine thn (hl tM s σ H _ I h) λv s1 ⟨x,H1,I1,r1,q1⟩=>?_;obtain⟨a,e,⟨xs,hq⟩,q⟩:=q1;subst e;cases r1;obtain⟨its,rv,p,hz⟩:=I1.tuple hq;refine sN (show s1.heap.IsTuple a its.toArray from p) ?_;refine#[s1⁻¹,[s1⁻¹],_,_,H1,rfl,I1.kept (t':=s1.toks) λb o e=>aa _ e,WB a _,#[_,aD _ rfl,rfl,rfl],λb hb=>?_,q];have e:b=s1⁻¹:=by simpa using hb
 subst e;exact I1.fpOk (ak _) (I1.hok.fresh (ak _))
theorem X9{tM:List (pE × rb)}{σ:St}{H:Hp}{s:pG}{R:It->Hp->Prop}{E:pF->pG->Prop}{lo hi:Int}{t u v:rZ}{tk:Nat}(I:Inv X tM σ H s)(h1:-(2 ^ 62)<=lo)(h2:lo<2 ^ 62)(h3:-(2 ^ 62)<=hi)(h4:hi<2 ^ 62)
  (q:R (Itr lo (hi - lo).toNat) H):pJ (model X.prog X.w) X.A (pyIter (.ref s⁻¹)) (PIE X tM σ tg R) E { s with heap:=s.heap.push { cls:=.type "range",data:=.fields (List.toArray [.int lo t,.int hi u,.int 1 v]) },toks:=tk }:=by
 refine wpAny_pyIter_range (IsRange.new ..) (small_one h1 h2 h3 h4) ?_;have I1:Inv X tM σ H { s with heap:=s.heap.push { cls:=.type "range",data:=.fields (List.toArray [.int lo t,.int hi u,.int 1 v]) },toks:=tk }:=I.kept λb o e=>aa _ e
 refine#[(s.heap.push { cls:=.type "range",data:=.fields (List.toArray [.int lo t,.int hi u,.int 1 v]) }).objs.size,[(s.heap.push { cls:=.type "range",data:=.fields (List.toArray [.int lo t,.int hi u,.int 1 v]) }).objs.size],_,_,H,rfl,
  I1.kept (t':=tk) λb o e=>aa _ e,WC _ lo (hi - lo).toNat,?_,λb hb=>?_,q]
 ·have e1:lo+((0:Nat):Int) * 1=lo:=by simp
  have e2:(((hi - lo).toNat:Nat):Int) - ((0:Nat):Int)=Builtin.Range.rangeSize lo hi 1:=by rw[rangeSize_one];split <;> lia
  show IsRangeIter _ _ (lo+((0:Nat):Int) * 1) ((((hi - lo).toNat:Nat):Int) - ((0:Nat):Int)) 1;rw[e1,e2];exact aD _ rfl
 ·have e:b=(s.heap.push { cls:=.type "range",data:=.fields (List.toArray [.int lo t,.int hi u,.int 1 v]) }).objs.size:=by simpa using hb
  subst e;exact I1.fpOk (ak _) (I1.hok.fresh (ak _))
def K7(ta:TA):TI:=λσ H R=>ta σ H λvs H1=>∃j:Int,vs=[.int j]/\-(2 ^ 62)<=j/\j<2 ^ 62/\R (Itr 0 j.toNat) H1
def zcB(ta:TA):TI:=λσ H R=>ta σ H λvs H1=>∃i j:Int,vs=[.int i,.int j]/\(-(2 ^ 62)<=i/\i<2 ^ 62/\-(2 ^ 62)<=j/\j<2 ^ 62)/\R (Itr i (j - i).toNat) H1
theorem yt{a:pO}{ta:TA}{p pos:rB}(hg:Gl X "range")(hm:X.mg "range" = tJ)(ha:PA X [a] ta)(hs:pB [a] X.env=[(tL,eval a X.env)]:=by rfl):PI X tg (.Call (.Name "range" p) [a] [] pos) (K7 ta):=by
 intro tM s σ H R I h;refine tH (wB I hg hm boot_range (bA (thn (ha pos tM s σ H _ I h) λus s1 ⟨vs,H1,I1,r1,q1⟩=>?_) hs rfl));obtain⟨j,e,q1,q2,q⟩:=q1;subst e
 cases r1 with
 | cons r rr =>
  cases rr;obtain⟨t,rfl⟩:=r;exact call_range_1 (X9 I1 ⋯ ⋯ q1 q2 (by simpa using q))
theorem Uo{a b:pO}{ta:TA}{p pos:rB}(hg:Gl X "range")(hm:X.mg "range" = tJ)(ha:PA X [a,b] ta)(hs:pB [a,b] X.env=[(tL,eval a X.env),(tL,eval b X.env)]:=by rfl)(hs2:pB [b] X.env=[(tL,eval b X.env)]:=by rfl) :
  PI X tg (.Call (.Name "range" p) [a,b] [] pos) (zcB ta):=by
 intro tM s σ H R I h;refine tH (wB I hg hm boot_range (bA (thn (ha pos tM s σ H _ I h) λus s1 ⟨vs,H1,I1,r1,q1⟩=>?_) (by rw[hs,hs2]) (by rw[hs2];rfl)));obtain⟨i,j,e,⟨q1,q2,q3,q4⟩,q⟩:=q1;subst e
 cases r1 with
 | cons r rr =>
  cases rr with
  | cons r' rr =>
   cases rr;obtain⟨t,rfl⟩:=r;obtain⟨t',rfl⟩:=r';exact call_range_2 (X9 I1 q1 q2 q3 q4 q)
def Jn(wi:TI)(g:TG)(tb:TS):TS:=λD σ H=>wi σ H λJ H1=>∃W:Nat->Nat->St->Hp->Prop,(∃m,W 0 m σ H1)/\∀i m σ H,W i m σ H ->
 (J.stop i H/\D.nx σ H)\/(J.go i H/\∃N:St->Hp->Prop,(∀σ' H',N σ' H'->∃m',m'<m/\W (i+1) m' σ' H')/\∀x H',J.yld i H x H'->g x σ H' λσ2 H2=>tb { D with nx:=N,ct:=N,bk:=D.nx } σ2 H2)
noncomputable def ZQ(fp:List pE)(h:pP):List (pE × rb):=fp.filterMap λb=>(h.get? b).map λo=>(b,o)
theorem wY{fp:List pE}{h:pP}{b:pE}{o:rb}(hb:b ∈ fp)(e:h.get? b=tI o):(b,o) ∈ ZQ fp h:=Ak.mpr #[b,hb,by rw[e];rfl]
theorem U1{fp:List pE}{h:pP}{p:pE × rb}(hp:p ∈ ZQ fp h):p.1 ∈ fp/\h.get? p.1=tI p.2:=by
 obtain⟨b,hb,e⟩:=Ak.mp hp
 cases q:h.get? b with
 | none=>rw[q]at e;cases e
 | some o =>
  rw[q]at e;have e':(b,o)=p:=Option.some.inj e;subst e';exact#[hb,q]
theorem Inv.pinned{tM:List (pE × rb)}{σ:St}{H:Hp}{s:pG}{fp:List pE}(I:Inv X tM σ H s)(hf:∀b ∈ fp,wa X tM H b)(ho:∀b ∈ fp,∃o,s.heap.get? b=tI o/\∀v,o.data≠.cell v):Inv X (tM ++ ZQ fp s.heap) σ H s :=
 I.pins_of λp hp=>(tS.mp hp).elim (λz=>I.pin p (av _ z)) λz=>by
  obtain⟨hb,e⟩:=U1 z;obtain⟨f0,f1,f2,_⟩:=hf p.1 hb;obtain⟨o,e',d⟩:=ho p.1 hb;rw[e]at e';cases e';exact#[e,f0,f1,f2,d]
theorem Inv.unpinned{tM pl:List (pE × rb)}{σ:St}{H:Hp}{s:pG}(I:Inv X (tM ++ pl) σ H s):Inv X tM σ H s:=I.pins_of λp hp=>I.pin p (av _ (aM _ hp))
theorem yh{iter:pO}{body:List pQ}{wi:TI}{g:TG}{tb:TS}{pos:rB}(hp:PassesOwn (model X.prog X.w) X.A X.env X.xe)(hc:X.calm=tK)(hi:PI X tg iter wi)(hg:PG X tg g)(hb:PSs X body tb)
  (hs:∀x,foldedSetIterable iter X.env x=pure x:=by intro _;rfl):PS X (.For tg iter body [] pos) (Jn wi g tb):=by
 intro tM s σ H D I h;refine wpAny_For (thn (hi tM s σ H _ I h) λv s1 h1=>thn h1 λitv s2 h2=>?_) hs;obtain⟨it,fp,tn,J,H2,e,I2,T,st2,f2,W,⟨m0,w0⟩,turn⟩:=h2;subst e;have stat:∀{H':Hp},(∀b ∈ fp,H' b=tJ)->∀b ∈ fp,wa X tM H' b:=λhn b hb=>#[hn b hb,(f2 b hb).2];refine codeAny_forLoop_any (λn s'=>∃i σ' H',Inv X tM σ' H' s'/\tn i s'.heap/\(∀b ∈ fp,H' b=tJ)/\W i n σ' H') ?_ m0 #[0,σ,H2,I2,st2,λb hb=>(f2 b hb).1,w0];rintro n s3 ⟨i,σ3,H3,I3,st3,fr3,w3⟩;rcases turn i n σ3 H3 w3 with ⟨stop,qn⟩ | ⟨go,N,hN,step⟩
 ·refine rp hp (thn (T.done X rfl rfl rfl hc i tM s3 σ3 H3 X.xe I3 (stat fr3) st3 stop) λr s4 ⟨hr,I4⟩=>?_);subst hr;exact rE #[σ3,H3,I4,qn]
 ·refine rp hp (thn (T.item X rfl rfl rfl hc i tM s3 σ3 H3 X.xe I3 (stat fr3) st3 go) λr s4 ⟨u,hr,h4⟩=>?_);subst hr;refine rp hp (thn h4 λ_ s5 ⟨x,H5,I5,r5,y5,st5,fr5⟩=>?_);have I5':=I5.pinned (stat fr5) (T.obj _ _ st5);refine rp hp (thn (hg _ s5 σ3 H5 x u _ I5' r5 (step x H5 y5)) λ_ s6 ⟨σ6,H6,I6,q6⟩=>?_);refine rp hp (thn (hb _ s6 σ6 H6 _ I6 q6) λf s7 q7=>?_)
  have again:∀{σ7:St} {H7:Hp},Inv X (tM ++ ZQ fp s5.heap) σ7 H7 s7->N σ7 H7->∃m,m<n/\∃i σ' H',Inv X tM σ' H' s7/\tn i s7.heap/\(∀b ∈ fp,H' b=tJ)/\W i m σ' H':=λ{σ7 H7} I7 n7=>by
   obtain⟨m',hm,w7⟩:=hN σ7 H7 n7;refine#[m',hm,i+1,σ7,H7,I7.unpinned,T.keep _ _ _ st5 λb hb o e=>(I7.pin (b,o) (av _ (av _ (wY hb e)))).1,λb hb=>?_,w7];obtain⟨o,e,d⟩:=T.obj _ _ st5 b hb;exact (I7.pin (b,o) (av _ (av _ (wY hb e)))).2.1
  cases f with
  | next=>obtain⟨σ7,H7,I7,n7⟩:=q7;exact again I7 n7
  | cont=>obtain⟨σ7,H7,I7,n7⟩:=q7;exact again I7 n7
  | brk=>obtain⟨σ7,H7,I7,q7⟩:=q7;exact#[σ7,H7,I7.unpinned,q7]
  | ret v=>obtain⟨x7,σ7,H7,I7,r7,q7⟩:=q7;exact#[x7,σ7,H7,I7.unpinned,r7,q7]
end
theorem Jf{K:pD}{a:pE}{xs:List V}{g:TG}{tb:TS}{D:vd}{σ:St}{H:Hp}(Pv:Nat->St->Hp->Prop)(h0:Pv 0 σ H)(hl:∀i σ H,i<=xs.length->Pv i σ H->SqL K H a xs)
  (hs:∀i x σ H,xs[i]? = tI x->Pv i σ H->g x σ H λσ2 H2=>tb { D with nx:=Pv (i+1),ct:=Pv (i+1),bk:=D.nx } σ2 H2) (hd:∀σ H,Pv xs.length σ H->D.nx σ H) :
  ∃W:Nat->Nat->St->Hp->Prop,(∃m,W 0 m σ H)/\∀i m σ H,W i m σ H ->
   ((Itl K a).stop i H/\D.nx σ H)\/((Itl K a).go i H/\∃N:St->Hp->Prop,(∀σ' H',N σ' H'->∃m',m'<m/\W (i+1) m' σ' H')/\∀x H',(Itl K a).yld i H x H'->g x σ H' λσ2 H2=>tb { D with nx:=N,ct:=N,bk:=D.nx } σ2 H2):=by
 refine#[λi m σ H=>m=xs.length - i/\i<=xs.length/\Pv i σ H,#[xs.length,by simp,aE _,h0],?_];rintro i m σ H ⟨rfl,hi,p⟩;have q:=hl i σ H hi p;by_cases hlt:i<xs.length
 ·refine .inr #[#[xs,xs[i],q,by simp [hlt]],Pv (i+1),λσ' H' p'=>#[xs.length - (i+1),⋯,rfl,hlt,p'],λx H' y=>?_];obtain⟨e,y⟩:=y;subst e;exact hs i x σ _ (y xs q) p
 ·have e:i=xs.length:=⋯;subst e;exact .inl #[#[xs,q,ak _],hd σ H p]
theorem VT{lo:Int}{n:Nat}{g:TG}{tb:TS}{D:vd}{σ:St}{H:Hp}(Pv:Nat->St->Hp->Prop)(h0:Pv 0 σ H)
  (hs:∀i σ H,i<n->Pv i σ H->g (.int (lo+i)) σ H λσ2 H2=>tb { D with nx:=Pv (i+1),ct:=Pv (i+1),bk:=D.nx } σ2 H2) (hd:∀σ H,Pv n σ H->D.nx σ H) :
  ∃W:Nat->Nat->St->Hp->Prop,(∃m,W 0 m σ H)/\∀i m σ H,W i m σ H ->
   ((Itr lo n).stop i H/\D.nx σ H)\/((Itr lo n).go i H/\∃N:St->Hp->Prop,(∀σ' H',N σ' H'->∃m',m'<m/\W (i+1) m' σ' H')/\∀x H',(Itr lo n).yld i H x H'->g x σ H' λσ2 H2=>tb { D with nx:=N,ct:=N,bk:=D.nx } σ2 H2):=by
 refine#[λi m σ H=>m=n - i/\i<=n/\Pv i σ H,#[n,by simp,aE _,h0],?_];rintro i m σ H ⟨rfl,hi,p⟩;by_cases hlt:i<n
 ·refine .inr #[hlt,Pv (i+1),λσ' H' p'=>#[n - (i+1),⋯,rfl,hlt,p'],λx H' y=>?_];obtain⟨e,y⟩:=y;subst e y;exact hs i σ _ hlt p
 ·have e:i=n:=⋯;subst e;exact .inl #[ak _,hd σ H p]
noncomputable abbrev R2:=V->V->Hp->VK->Prop
def OpR(X:Cx)(f:pF->pF->tw pF)(r:R2):Prop :=
 ∀(tM:List (pE × rb)) (s:pG) (σ:St) (H:Hp) (x y:V) (v u:pF) (Q:VK),Inv X tM σ H s->RelV x v->RelV y u->r x y H Q ->
  pJ (model X.prog X.w) X.A (f v u) (EP X tM σ Q) X.xe s
def UnR(X:Cx)(f:pF->tw pF)(r:V->Hp->VK->Prop):Prop :=
 ∀(tM:List (pE × rb)) (s:pG) (σ:St) (H:Hp) (x:V) (v:pF) (Q:VK),Inv X tM σ H s->RelV x v->r x H Q ->
  pJ (model X.prog X.w) X.A (f v) (EP X tM σ Q) X.xe s
def vL(X:Cx)(f:pF)(r:List V->Hp->VK->Prop):Prop :=
 ∀(tM:List (pE × rb)) (s:pG) (σ:St) (H:Hp) (xs:List V) (us:List pF) (Q:VK),Inv X tM σ H s->Vals xs us->r xs H Q ->
  pJ (model X.prog X.w) X.A (call f us) (EP X tM σ Q) X.xe s
def zeV(X:Cx)(r:V->Hp->(Bool->Hp->Prop)->Prop):Prop :=
 ∀(tM:List (pE × rb)) (s:pG) (σ:St) (H:Hp) (x:V) (v:pF) (Q:Bool->Hp->Prop),Inv X tM σ H s->RelV x v->r x H Q ->
  pJ (model X.prog X.w) X.A (truthy v) (TP X tM σ Q) X.xe s
def tOp(r:R2)(ta tb:TE):TE:=λσ H Q=>ta σ H λx H1=>tb σ H1 λy H2=>r x y H2 Q
def tUn(r:V->Hp->VK->Prop)(ta:TE):TE:=λσ H Q=>ta σ H λx H1=>r x H1 Q
def rI(C:Int->Int->Prop)(g:Int->Int->V):R2:=λx y H Q=>onInt x λi=>onInt y λj=>C i j/\Q (g i j) H
def rI0(g:Int->Int->V):R2:=λx y H Q=>onInt x λi=>onInt y λj=>Q (g i j) H
def rU(g:Int->V):V->Hp->VK->Prop:=λx H Q=>onInt x λi=>Q (g i) H
section
variable{X:Cx}{a b c:pO}{ta tb tc:TE}{pos:rB}
theorem zdq(ha:PE X a ta)(hb:PE X b tb){tM:List (pE × rb)}{s:pG}{σ:St}{H:Hp}{R:V->V->Hp->Prop}(I:Inv X tM σ H s)
  (h:ta σ H λx H1=>tb σ H1 λy H2=>R x y H2) {Q:pF->pG->Prop} {f:pF->pF->tw pF}
  (hf:∀v u s2 x y H2,Inv X tM σ H2 s2->RelV x v->RelV y u->R x y H2->pJ (model X.prog X.w) X.A (f v u) Q X.xe s2) :
  pJ (model X.prog X.w) X.A (eval a X.env) (λv s₁=>pJ (model X.prog X.w) X.A (eval b X.env) (λu s₂=>pJ (model X.prog X.w) X.A (f v u) Q X.xe s₂) X.xe s₁) X.xe s:=by
 refine thn (ha tM s σ H _ I h) λv s1 ⟨x,H1,I1,r1,q1⟩=>?_;refine thn (hb tM s1 σ H1 _ I1 q1) λu s2 ⟨y,H2,I2,r2,q2⟩=>?_;exact hf v u s2 x y H2 I2 r1 r2 q2
theorem zx{op:Operator}{r:R2}(ho:OpR X (binaryOp op) r)(ha:PE X a ta)(hb:PE X b tb):PE X (.BinOp a op b pos) (tOp r ta tb):=by
 intro tM s σ H Q I h;exact wpAny_BinOp (zdq ha hb I h λv u s2 x y H2 I2 rx ry q=>ho tM s2 σ H2 x y v u Q I2 rx ry q)
theorem zen{op:UnaryOp}{r:V->Hp->VK->Prop}(ho:UnR X (unaryOp op) r)(ha:PE X a ta):PE X (.UnaryOp op a pos) (tUn r ta):=by
 intro tM s σ H Q I h;exact UnaryOp_ (thn (ha tM s σ H _ I h) λv s1 ⟨x,H1,I1,r1,q1⟩=>ho tM s1 σ H1 x v Q I1 r1 q1)
theorem opI{f:pF->pF->tw pF}{C:Int->Int->Prop}{g:Int->Int->Int}
  (rule:∀(i j:Int) (t u:rZ) (s:pG) (Q:pF->pG->Prop) (E:pF->pG->Prop),C i j->Q (.int (g i j) s.toks) { s with toks:=s.toks+1 }->pJ (model X.prog X.w) X.A (f (.int i t) (.int j u)) Q E s) :
  OpR X f (rI C λi j=>.int (g i j)):=by
 intro tM s σ H x y v u Q I rx ry h;obtain⟨i,rfl,h2⟩:=onInt.of h;obtain⟨j,rfl,hc,q⟩:=onInt.of h2;obtain⟨t,rfl⟩:=rx;obtain⟨t',rfl⟩:=ry;exact rule i j t t' s _ _ hc #[.int (g i j),H,I.tok _,#[_,rfl],q]
theorem zeL{f:pF->pF->tw pF}{g:Int->Int->Int}
  (rule:∀(i j:Int) (t u:rZ) (s:pG) (Q:pF->pG->Prop) (E:pF->pG->Prop),Q (.int (g i j) s.toks) { s with toks:=s.toks+1 }->pJ (model X.prog X.w) X.A (f (.int i t) (.int j u)) Q E s) :
  OpR X f (rI0 λi j=>.int (g i j)):=by
 intro tM s σ H x y v u Q I rx ry h;obtain⟨i,rfl,h2⟩:=onInt.of h;obtain⟨j,rfl,q⟩:=onInt.of h2;obtain⟨t,rfl⟩:=rx;obtain⟨t',rfl⟩:=ry;exact rule i j t t' s _ _ #[.int (g i j),H,I.tok _,#[_,rfl],q]
theorem zc8{f:pF->pF->tw pF}{g:Int->Int->Bool}
  (rule:∀(i j:Int) (t u:rZ) (s:pG) (Q:pF->pG->Prop) (E:pF->pG->Prop),Q (.bool (g i j)) s->pJ (model X.prog X.w) X.A (f (.int i t) (.int j u)) Q E s) :
  OpR X f (rI0 λi j=>.bl (g i j)):=by
 intro tM s σ H x y v u Q I rx ry h;obtain⟨i,rfl,h2⟩:=onInt.of h;obtain⟨j,rfl,q⟩:=onInt.of h2;obtain⟨t,rfl⟩:=rx;obtain⟨t',rfl⟩:=ry;exact rule i j t t' s _ _ #[.bl (g i j),H,I,rfl,q]
def zeS(i j:Int):Prop:=0<j/\j<1073741824
def zeg(i j:Int):Prop:=0<=j/\j<=1000000/\i.natAbs<2 ^ 64
def CMul(i j:Int):Prop:=(-(2 ^ 64)<i/\i<2 ^ 64)\/(-(2 ^ 64)<j/\j<2 ^ 64)
theorem CMul.ok{i j:Int}(h:CMul i j):IntMulOk i j:=by
 rcases h with ⟨h1,h2⟩ | ⟨h1,h2⟩
 ·exact .of_left (intBits_le_64 h1 h2)
 ·exact .of_right (intBits_le_64 h1 h2)
theorem yB:OpR X (binaryOp .Add) (rI0 λi j=>.int (i+j)):=zeL λ_ _ _ _ _ _ _ q=>add_int q
theorem jI:OpR X (binaryOp .Sub) (rI0 λi j=>.int (i - j)):=zeL λ_ _ _ _ _ _ _ q=>sub_int q
theorem jd:OpR X (binaryOp .Mult) (rI CMul λi j=>.int (i * j)):=opI λ_ _ _ _ _ _ _ hc q=>mul_int q hc.ok
theorem xp:OpR X (binaryOp .FloorDiv) (rI zeS λi j=>.int (i / j)):=opI λi j _ _ _ _ _ hc q=>by
 have h1:(0:Int)<j:=hc.1;have h2:j<1073741824:=hc.2;exact floordiv_int ⋯ (by rw[Int.fdiv_eq_ediv_of_nonneg i ⋯];exact q) (.inl (PyProof.noPylong_small ⋯))
theorem yL:OpR X (binaryOp .Mod) (rI (λ_ j=>0<j) λi j=>.int (i % j)):=opI λi j _ _ _ _ _ hc q=>by
 have h1:(0:Int)<j:=hc;exact mod_int' ⋯ (by rw[Int.fmod_eq_emod_of_nonneg i ⋯];exact q)
theorem Vw:OpR X (binaryOp .Pow) (rI zeg λi j=>.int (i ^ j.toNat)):=opI λ_ _ _ _ _ _ _ hc q=>pow_int_small hc.1 hc.2.1 hc.2.2 q
theorem unI{f:pF->tw pF}{g:Int->Int}
  (rule:∀(i:Int) (t:rZ) (s:pG) (Q:pF->pG->Prop) (E:pF->pG->Prop),Q (.int (g i) s.toks) { s with toks:=s.toks+1 }->pJ (model X.prog X.w) X.A (f (.int i t)) Q E s) :
  UnR X f (rU λi=>.int (g i)):=by
 intro tM s σ H x v Q I rx h;obtain⟨i,rfl,q⟩:=onInt.of h;obtain⟨t,rfl⟩:=rx;exact rule i t s _ _ #[.int (g i),H,I.tok _,#[_,rfl],q]
theorem zbX:UnR X (unaryOp .USub) (rU λi=>.int (-i)):=unI λ_ _ _ _ _ q=>neg_int q
end
noncomputable def W4:V->V->Bool
 | .non,.non=>tK | .non,.int _=>tK | .int _,.non=>tK | .non,.bl _=>tK | .bl _,.non=>tK | .non,.str _=>tK | .str _,.non=>tK
 | .int _,.int _=>tK | .bl _,.bl _=>tK | .str _,.str _=>tK | .byt _,.byt _=>tK
 | .int _,.str _=>tK | .str _,.int _=>tK | .bl _,.str _=>tK | .str _,.bl _=>tK
 | _,_=>tL
def rEq:R2:=λx y H Q=>match x,y with | .int a,.int b=>Q (.bl (decide (a=b))) H | .str a,.str b=>Q (.bl (decide (a=b))) H | x,y=>W4 x y=tK/\Q (.bl (decide (x=y))) H
theorem rEq_is{x y:V}{H:Hp}{Q:VK}:rEq x y H Q=(W4 x y=tK/\Q (.bl (decide (x=y))) H):=by
 unfold rEq;split <;> simp [W4]
def rNe:R2:=λx y H Q=>match x,y with | .int a,.int b=>Q (.bl (!decide (a=b))) H | .str a,.str b=>Q (.bl (!decide (a=b))) H | x,y=>W4 x y=tK/\Q (.bl (!decide (x=y))) H
theorem rNe_is{x y:V}{H:Hp}{Q:VK}:rNe x y H Q=(W4 x y=tK/\Q (.bl (!decide (x=y))) H):=by
 unfold rNe;split <;> simp [W4]
theorem UE{i j:Int}:decide (V.int i=V.int j)=(i == j):=by
 rw[dc];simp
theorem Ki{i j:Bool}:decide (V.bl i=V.bl j)=(i == j):=by
 rw[dc];simp
theorem VZ{i j:pL}:decide (V.str i=V.str j)=(i == j):=by
 rw[dc];simp
theorem VH{i j:Array UInt8}:decide (V.byt i=V.byt j)=(i.toList == j.toList):=by
 rw[dc];cases i;cases j;simp
section
variable{X:Cx}{a b c:pO}{ta tb tc:TE}{pos:rB}
theorem zN{tM:List (pE × rb)}{σ:St}{H:Hp}{s:pG}{Q:VK}{k k':Bool}(I:Inv X tM σ H s)(q:Q (.bl k) H)(e:k=k'):EP X tM σ Q (.bool k') s:=by
 subst e;exact#[.bl k,H,I,rfl,q]
theorem wf:OpR X (pR .Eq) rEq:=by
 intro tM s σ H x y v u Q I rx ry h;obtain⟨hs,q⟩:=rEq_is.mp h
 cases x with
 | non =>
  cases rx
  cases y with
  | non=>cases ry;exact PySem.EqNone.eq_none_none (zN I q (by simp))
  | bl j=>cases ry;exact PySem.EqNone.eq_none_bool (zN I q (by simp))
  | int j=>obtain⟨t',rfl⟩:=ry;exact PySem.EqNone.eq_none_int (zN I q (by simp))
  | str j=>obtain⟨t',rfl⟩:=ry;exact PySem.EqNone.eq_none_str (zN I q (by simp))
  | _=>exact absurd (show tL=tK from hs) aC
 | bl i =>
  cases rx
  cases y with
  | non=>cases ry;exact PySem.EqNone.eq_bool_none (zN I q (by simp))
  | bl j=>cases ry;exact eq_bool (zN I q Ki)
  | str j=>obtain⟨t',rfl⟩:=ry;exact PySem.EqMixed.eq_bool_str (zN I q (by simp))
  | _=>exact absurd (show tL=tK from hs) aC
 | int i =>
  obtain⟨t,rfl⟩:=rx
  cases y with
  | non=>cases ry;exact PySem.EqNone.eq_int_none (zN I q (by simp))
  | int j=>obtain⟨t',rfl⟩:=ry;exact eq_int (zN I q UE)
  | str j=>obtain⟨t',rfl⟩:=ry;exact PySem.EqMixed.eq_int_str (zN I q (by simp))
  | _=>exact absurd (show tL=tK from hs) aC
 | str i =>
  obtain⟨t,rfl⟩:=rx
  cases y with
  | non=>cases ry;exact PySem.EqNone.eq_str_none (zN I q (by simp))
  | bl j=>cases ry;exact PySem.EqMixed.eq_str_bool (zN I q (by simp))
  | int j=>obtain⟨t',rfl⟩:=ry;exact PySem.EqMixed.eq_str_int (zN I q (by simp))
  | str j=>obtain⟨t',rfl⟩:=ry;exact eq_str (zN I q VZ)
  | _=>exact absurd (show tL=tK from hs) aC
 | byt i =>
  obtain⟨t,rfl⟩:=rx
  cases y with
  | byt j=>obtain⟨t',rfl⟩:=ry;exact PySem.W.eq_bytes (zN I q VH)
  | _=>exact absurd (show tL=tK from hs) aC
 | _=>cases y <;> exact absurd (show tL=tK from hs) aC
theorem Yr:OpR X (pR .NotEq) rNe:=by
 intro tM s σ H x y v u Q I rx ry h;obtain⟨hs,q⟩:=rNe_is.mp h
 cases x with
 | non =>
  cases rx
  cases y with
  | non=>cases ry;exact PySem.EqNone.ne_none_none (zN I q (by simp))
  | bl j=>cases ry;exact PySem.EqNone.ne_none_bool (zN I q (by simp))
  | int j=>obtain⟨t',rfl⟩:=ry;exact PySem.EqNone.ne_none_int (zN I q (by simp))
  | str j=>obtain⟨t',rfl⟩:=ry;exact PySem.EqNone.ne_none_str (zN I q (by simp))
  | _=>exact absurd (show tL=tK from hs) aC
 | bl i =>
  cases rx
  cases y with
  | non=>cases ry;exact PySem.EqNone.ne_bool_none (zN I q (by simp))
  | bl j=>cases ry;exact ne_bool (zN I q (congrArg not Ki))
  | str j=>obtain⟨t',rfl⟩:=ry;exact PySem.EqMixed.ne_bool_str (zN I q (by simp))
  | _=>exact absurd (show tL=tK from hs) aC
 | int i =>
  obtain⟨t,rfl⟩:=rx
  cases y with
  | non=>cases ry;exact PySem.EqNone.ne_int_none (zN I q (by simp))
  | int j=>obtain⟨t',rfl⟩:=ry;exact ne_int (zN I q (congrArg not UE))
  | str j=>obtain⟨t',rfl⟩:=ry;exact PySem.EqMixed.ne_int_str (zN I q (by simp))
  | _=>exact absurd (show tL=tK from hs) aC
 | str i =>
  obtain⟨t,rfl⟩:=rx
  cases y with
  | non=>cases ry;exact PySem.EqNone.ne_str_none (zN I q (by simp))
  | bl j=>cases ry;exact PySem.EqMixed.ne_str_bool (zN I q (by simp))
  | int j=>obtain⟨t',rfl⟩:=ry;exact PySem.EqMixed.ne_str_int (zN I q (by simp))
  | str j=>obtain⟨t',rfl⟩:=ry;exact ne_str (zN I q (congrArg not VZ))
  | _=>exact absurd (show tL=tK from hs) aC
 | byt i =>
  obtain⟨t,rfl⟩:=rx
  cases y with
  | byt j=>obtain⟨t',rfl⟩:=ry;exact PySem.W.ne_bytes (zN I q (congrArg not VH))
  | _=>exact absurd (show tL=tK from hs) aC
 | _=>cases y <;> exact absurd (show tL=tK from hs) aC
theorem Uh:OpR X (pR .Lt) (rI0 λi j=>.bl (decide (i<j))):=zc8 λ_ _ _ _ _ _ _ q=>lt_int q
theorem zdW:OpR X (pR .LtE) (rI0 λi j=>.bl (decide (i<=j))):=zc8 λ_ _ _ _ _ _ _ q=>le_int q
theorem Xc:OpR X (pR .Gt) (rI0 λi j=>.bl (decide (j<i))):=zc8 λ_ _ _ _ _ _ _ q=>gt_int q
theorem zdM:OpR X (pR .GtE) (rI0 λi j=>.bl (decide (j<=i))):=zc8 λ_ _ _ _ _ _ _ q=>ge_int q
theorem Uz:OpR X (pR .Lt) (λx y H Q=>∃i j,x=.str i/\y=.str j/\Q (.bl (decide (i.cps.toList<j.cps.toList))) H):=by
 intro tM s σ H x y v u Q I rx ry h;obtain⟨i,j,rfl,rfl,q⟩:=h;obtain⟨t,rfl⟩:=rx;obtain⟨t',rfl⟩:=ry;exact lt_str (zN I q rfl)
theorem zbO:OpR X (pR .Is) (λx y H Q=>y=.non/\Q (.bl (decide (x=.non))) H):=by
 intro tM s σ H x y v u Q I rx ry h;obtain⟨rfl,q⟩:=h;cases ry;refine is_none_gen (zN I q ?_)
 cases x <;> first
  | (cases rx;rfl)
  | (obtain⟨t,rfl⟩:=rx;rfl)
theorem zam:OpR X (pR .IsNot) (λx y H Q=>y=.non/\Q (.bl (!decide (x=.non))) H):=by
 intro tM s σ H x y v u Q I rx ry h;obtain⟨rfl,q⟩:=h;cases ry;refine isnot_none_gen (zN I q ?_)
 cases x <;> first
  | (cases rx;rfl)
  | (obtain⟨t,rfl⟩:=rx;rfl)
theorem zC(b:pO){op:rS}(h:op≠.In:=by decide)(h2:op≠.NotIn:=by decide):behindInMarks op b=tL:=by
 have e1:(op == CmpOp.In)=tL:=by cases op <;> first | rfl | exact absurd rfl h
 have e2:(op == CmpOp.NotIn)=tL:=by cases op <;> first | rfl | exact absurd rfl h2
 cases b <;> simp [behindInMarks,e1,e2]
theorem yK{op:rS}{r:R2}(ho:OpR X (pR op) r)(ha:PE X a ta)(hb:PE X b tb)(hm:behindInMarks op b=tL):PE X (.Compare a [op] [b] pos) (tOp r ta tb):=by
 intro tM s σ H Q I h;exact wpAny_Compare1 (zdq ha hb I h λv u s2 x y H2 I2 rx ry q=>ho tM s2 σ H2 x y v u Q I2 rx ry q) hm
def Um(t:TE):TT:=λσ H Q=>t σ H λx H'=>onBl x λk=>Q k H'
theorem zA{op:rS}{r:R2}(ho:OpR X (pR op) r)(ha:PE X a ta)(hb:PE X b tb)(hm:behindInMarks op b=tL):PT X (.Compare a [op] [b] pos) (Um (tOp r ta tb)):=by
 intro tM s σ H Q I h
 refine wpAny_isTrue_Compare1 (thn (ha tM s σ H _ I h) λv s1 ⟨x,H1,I1,r1,q1⟩=>thn (hb tM s1 σ H1 _ I1 q1) λu s2 ⟨y,H2,I2,r2,q2⟩ =>
  thn (ho tM s2 σ H2 x y v u _ I2 r1 r2 q2) λc s3 ⟨z,H3,I3,r3,q3⟩=>?_) hm
 obtain⟨k,rfl,q3⟩:=onBl.of q3;cases r3;exact ra #[H3,I3,q3]
def ZR(r r':R2)(ta tb tc:TE):TE:=λσ H Q=>ta σ H λx H1=>tb σ H1 λy H2=>r x y H2 λz H3=>onBl z λk =>
 (if k=tK then tc σ H3 λw' H4=>r' y w' H4 Q else Q (.bl tL) H3)
theorem Qz{op op':rS}{r r':R2}(ho:OpR X (pR op) r)(ho':OpR X (pR op') r')(ha:PE X a ta)(hb:PE X b tb)(hc:PE X c tc)
  (hm:lastMarks [op,op'] [b,c]=tL:=by with_unfolding_all rfl):PE X (.Compare a [op,op'] [b,c] pos) (ZR r r' ta tb tc):=by
 intro tM s σ H Q I h
 refine Compare_chain (thn (ha tM s σ H _ I h) λv s1 ⟨x,H1,I1,r1,q1⟩=>chain_link (thn (hb tM s1 σ H1 _ I1 q1) λu s2 ⟨y,H2,I2,r2,q2⟩ =>
  thn (ho tM s2 σ H2 x y v u _ I2 r1 r2 q2) λd s3 ⟨z,H3,I3,r3,q3⟩=>?_)) hm
 obtain⟨k,rfl,q3⟩:=onBl.of q3;cases r3;refine ra ?_
 cases k with
 | false=>exact ite_ff #[.bl tL,H3,I3,rfl,q3]
 | true=>exact ite_tt (chain_last (thn (hc tM s3 σ H3 _ I3 q3) λw' s4 ⟨z',H4,I4,r4,q4⟩=>ho' tM s4 σ H4 y z' u w' Q I4 r2 r4 q4))
theorem kJ{op op':rS}{r r':R2}(ho:OpR X (pR op) r)(ho':OpR X (pR op') r')(ha:PE X a ta)(hb:PE X b tb)(hc:PE X c tc)
  (hm:lastMarks [op,op'] [b,c]=tL:=by with_unfolding_all rfl):PT X (.Compare a [op,op'] [b,c] pos) (Um (ZR r r' ta tb tc)):=by
 intro tM s σ H Q I h
 refine isTrue_chain (thn (ha tM s σ H _ I h) λv s1 ⟨x,H1,I1,r1,q1⟩=>test_link (thn (hb tM s1 σ H1 _ I1 q1) λu s2 ⟨y,H2,I2,r2,q2⟩ =>
  thn (ho tM s2 σ H2 x y v u _ I2 r1 r2 q2) λd s3 ⟨z,H3,I3,r3,q3⟩=>?_)) hm
 obtain⟨k,rfl,q3⟩:=onBl.of q3;cases r3;refine ra ?_
 cases k with
 | false =>
  exact ite_ff #[H3,I3,q3]
 | true =>
  refine ite_tt (test_last (thn (hc tM s3 σ H3 _ I3 q3) λw' s4 ⟨z',H4,I4,r4,q4⟩=>thn (ho' tM s4 σ H4 y z' u w' _ I4 r2 r4 q4) λd' s5 ⟨z2,H5,I5,r5,q5⟩=>?_));obtain⟨k2,rfl,q5⟩:=onBl.of q5;cases r5;exact ra #[H5,I5,q5]
def zcI(K:pD)(x:V)(H:Hp)(k:Bool):Prop :=
 match x with
 | .non=>k=tL
 | .bl b=>k=b
 | .int i=>k=(i != 0)
 | .str y=>y.length<=pC/\k=((y.length:Int) != 0)
 | .byt y=>y.size<=pC/\k=((y.size:Int) != 0)
 | .ref p=>(∃xs,SqL K H p xs/\k=!xs.isEmpty)\/(∃xs,SqT K H p xs/\k=!xs.isEmpty)\/∃kvs,H p=tI (.dK kvs)/\k=!kvs.isEmpty
 | _=>False
theorem WZ{κ:Type}{kvs:List (κ × V)}{vs:List (κ × pF)}(r:KV kvs vs):(!vs.isEmpty)=!kvs.isEmpty:=by
 cases r <;> rfl
theorem jJ{xs:List V}{its:List pF}(r:Vals xs its):(!its.toArray.isEmpty)=!xs.isEmpty:=by
 cases r <;> simp
theorem Yc:(pC:Nat)<2 ^ 63:=by rw[pZ];decide
theorem KB:zeV X (λx H Q=>∃k,zcI X.K x H k/\Q k H):=by
 intro tM s σ H x v Q I rx h;obtain⟨k,e,q⟩:=h;have hl:=Yc;have hs:pC=16777216:=pZ
 cases x with
 | non =>
  cases rx;have e':k=tL:=e;subst e';exact truthy_none #[H,I,q]
 | bl b =>
  cases rx;have e':k=b:=e;subst e';exact ra #[H,I,q]
 | int i =>
  obtain⟨t,rfl⟩:=rx;have e':k=(i != 0):=e;subst e';exact PySem.P.truthy_int #[H,I,q]
 | str y =>
  obtain⟨t,rfl⟩:=rx;obtain⟨hy,e'⟩:y.length<=pC/\k=((y.length:Int) != 0):=e;subst e';exact PySem.P.truthy_str ⋯ #[H,I.tok _,q]
 | byt y =>
  obtain⟨t,rfl⟩:=rx;obtain⟨hy,e'⟩:y.size<=pC/\k=((y.size:Int) != 0):=e;subst e';exact PySem.W.truthy_bytes ⋯ #[H,I.tok _,q]
 | ref p =>
  cases rx;have e':(∃xs,SqL X.K H p xs/\k=!xs.isEmpty)\/(∃xs,SqT X.K H p xs/\k=!xs.isEmpty)\/∃kvs,H p=tI (.dK kvs)/\k=!kvs.isEmpty:=e;rcases e' with ⟨xs,hx,e'⟩ | ⟨xs,hx,e'⟩ | ⟨kvs,hx,e'⟩
  ·subst e';obtain⟨its,r,pl,hz⟩:=I.list hx;have hlen:=r.length;exact wpAny_truthy_list pl.isList (by erw[am];lia) #[H,I.tok _,by rw[jJ r];exact q]
  ·subst e';obtain⟨its,r,pl,hz⟩:=I.tuple hx;have hlen:=r.length;exact truthy_tuple pl (by erw[am];lia) #[H,I.tok _,by rw[jJ r];exact q]
  ·subst e';obtain⟨hz,hS,vs,r,m⟩:kvs.length<=pC/\(p == sysModules)=tL/\∃vs,KV kvs vs/\s.heap.DictOf (YV X.prog X.w) p vs:=I.hok p _ hx;have hlen:kvs.length=vs.length:=Paired.length r;exact wpAny_truthy_dict hS m ⋯ #[H,I.tok _,by rw[WZ r];exact q]
 | _=>exact (show False from e).elim
theorem X5(ha:PE X a ta)(he:∀whole,isTrue a X.env whole=(do let v <- whole;standAt a.pos;holding [v] (truthy v))) :
  PT X a (λσ H Q=>ta σ H λx H'=>∃k,zcI X.K x H' k/\Q k H'):=by
 intro tM s σ H Q I h;exact isTrue_plain (thn (ha tM s σ H _ I h) λv s1 ⟨x,H1,I1,r1,q1⟩=>KB tM s1 σ H1 x v Q I1 r1 q1) (he _)
theorem zQ:OpR X (binaryOp .Add) (λx y H Q=>∃i j,x=.str i/\y=.str j/\i.length+j.length<=pC/\Q (.str (i ++ j)) H):=by
 intro tM s σ H x y v u Q I rx ry h;obtain⟨i,j,rfl,rfl,hz,q⟩:=h;obtain⟨t,rfl⟩:=rx;obtain⟨t',rfl⟩:=ry;exact add_str (λt' tk=>#[.str (i ++ j),H,I.tok _,#[_,rfl],q]) hz
theorem wm{x:V}{us:List pF}(r:Vals [x] us):∃u,us=[u]/\RelV x u:=by
 cases r with
 | cons r1 r2=>cases r2;exact#[_,rfl,r1]
theorem Qj{x y:V}{us:List pF}(r:Vals [x,y] us):∃u w',us=[u,w']/\RelV x u/\RelV y w':=by
 cases r with
 | cons r1 r2 =>
  cases r2 with
  | cons r3 r4=>cases r4;exact#[_,_,rfl,r1,r3]
theorem Qi(hc:X.calm=tK):vL X (.builtin "max") (λxs H Q=>∃i j,xs=[.int i,.int j]/\Q (.int (if j > i then j else i)) H):=by
 intro tM s σ H xs us Q I r h;obtain⟨i,j,rfl,q⟩:=h;obtain⟨u,w',rfl,⟨t,rfl⟩,⟨t',rfl⟩⟩:=Qj r;refine max_two_ints (I.ok.hd hc) λh' tk k=>#[_,H,I.kept k,?_,q];by_cases hj:j > i
 ·rw[if_pos hj,if_pos hj];exact#[_,rfl]
 ·rw[if_neg hj,if_neg hj];exact#[_,rfl]
theorem VX:vL X (.type "int") (λxs H Q=>(∃i,xs=[.int i]/\Q (.int i) H)\/∃k,xs=[.bl k]/\Q (.int (if k then 1 else 0)) H):=by
 intro tM s σ H xs us Q I r h;rcases h with ⟨i,rfl,q⟩ | ⟨k,rfl,q⟩
 ·obtain⟨u,rfl,t,rfl⟩:=wm r;exact call_int_int #[.int i,H,I,#[_,rfl],q]
 ·obtain⟨u,rfl,r1⟩:=wm r;cases r1;exact call_int_bool #[.int (if k then 1 else 0),H,I.tok _,#[_,rfl],q]
def zb6(K:pD)(x:V)(H:Hp)(n:Nat):Prop :=
 match x with
 | .str y=>y.length<=pC/\n=y.length
 | .byt y=>y.size<=pC/\n=y.size
 | .ref p=>(∃xs,SqL K H p xs/\n=xs.length)\/∃xs,SqT K H p xs/\n=xs.length
 | _=>False
theorem Qx:vL X (.builtin "len") (λxs H Q=>∃x n,xs=[x]/\zb6 X.K x H n/\Q (.int n) H):=by
 intro tM s σ H xs us Q I r h;obtain⟨x,n,rfl,e,q⟩:=h;obtain⟨u,rfl,rx⟩:=wm r;have hl:=Yc;have hs:pC=16777216:=pZ
 cases x with
 | str y =>
  obtain⟨t,rfl⟩:=rx;obtain⟨hy,e'⟩:y.length<=pC/\n=y.length:=e;subst e';exact len_str ⋯ #[.int _,H,I.tok _,#[_,rfl],q]
 | byt y =>
  obtain⟨t,rfl⟩:=rx;obtain⟨hy,e'⟩:y.size<=pC/\n=y.size:=e;subst e';exact PySem.W.len_bytes ⋯ #[.int _,H,I.tok _,#[_,rfl],q]
 | ref p =>
  cases rx;have e':(∃xs,SqL X.K H p xs/\n=xs.length)\/∃xs,SqT X.K H p xs/\n=xs.length:=e;rcases e' with ⟨xs,hx,e'⟩ | ⟨xs,hx,e'⟩
  ·subst e';obtain⟨its,r',pl,hz⟩:=I.list hx;have hlen:=r'.length;exact Calls.call_len_list pl.isList (by erw[am];lia) #[.int xs.length,H,I.tok _,#[_,by erw[am];rw[hlen]],q]
  ·subst e';obtain⟨its,r',pl,hz⟩:=I.tuple hx;have hlen:=r'.length;exact len_tuple pl (by erw[am];lia) #[.int xs.length,H,I.tok _,#[_,by erw[am];rw[hlen]],q]
 | _=>exact (show False from e).elim
end
structure ObjM(h:pP)(x dx C:pE)(mA:pL->Option pF):Prop where
 obj:h.get? x=tI (cf C dx)
 ns:h.Ns1 dx mA
 ne:dx≠x
theorem UP{h:pP}{dx:pE}{mA:pL->Option pF}(n:h.Ns1 dx mA):∃od,h.get? dx=tI od/\∀name,dY name od=tI (mA name):=by
 obtain⟨o,es,ep,ho,hd,hk,_,hm⟩:=n;refine#[o,ho,λname=>?_];have e:=hm name;unfold nsFind findBy at e;rw[<- Array.find?_toList]at e;unfold dY;rw[hd];dsimp only;split
 ·rename_i y q;rw[q]at e;exact congrArg tI e
 ·rename_i q;rw[q]at e
  have a:es.toList.any (·.refKey)=tL:=by
   rw[List.any_eq_false];intro y hy;obtain⟨z,t,hkey⟩:=hk y (Array.mem_toList_iff.mp hy);simp [DictEntry.refKey,hkey]
  have a':¬ es.toList.any (·.refKey)=tK:=by rw[a];exact aC
  rw[if_neg a'];exact congrArg tI e
theorem ObjM.look{h:pP}{x dx C:pE}{mA:pL->Option pF}(I:ObjM h x dx C mA):∃od,PySem.W.InstAt h x (cf C dx) C (tI od)/\∀name,dY name od=tI (mA name) :=
 let #[od,ho,hl]:=UP I.ns
 #[od,#[I.obj,rfl,rfl,ho],hl]
section
variable{prog:pK}{w:pM}{A:pN}{E:pF->pG->Prop}{s:pG}{K:pD}{x dx C f:pE}{mA:pL->Option pF}{name:pL}{v:pF}
theorem zau{expr:Bool}{Q:pF->pG->Prop}(X:K.In s.heap)(I:ObjM s.heap x dx C mA)(hg:bX K C name=tK)(hh:cj K C=tK)
  (ha:ag K (.ref C) name=tI tJ) (hv:mA name=tI v) (hv':fS v=tK) (h:Q v { s with toks:=s.toks+1 }) :
  pJ (model prog w) A (getAttr (.ref x) name expr) Q E s:=by
 obtain⟨od,J,hl⟩:=I.look;exact PySem.W.get_value X J (dU hg).1 (PySem.W.findObj_own hh ha rfl (by rw[hl,hv])) hv' h
theorem JB{pl:tw Bool}{Q:pF × List pF->pG->Prop}(X:K.In s.heap)(I:ObjM s.heap x dx C mA)(hg:bX K C name=tK)
  (hf:ag K (.ref C) name=tI (tI (.ref f))) (ht:bj K (.ref f)=tK) (hv:mA name=tJ) (h:Q (.ref f,[.ref x]) s) :
  pJ (model prog w) A (getMethod (.ref x) name pl) Q E s:=by
 obtain⟨od,J,hl⟩:=I.look;exact PySem.W.method_fn X J (dU hg).1 (dU hg).2 hf (beq_iff_eq.mp ht) (by show (dY name od).map (·.isSome)=tI tL;rw[hl,hv];rfl) h
theorem zaK{ns:List pL}{Q:Unit->pG->Prop}(X:K.In s.heap)(I:ObjM s.heap x dx C mA)
  (hs:ag K (.ref C) "__setattr__" = tI (tI (.builtin "object.__setattr__"))) (hp:cA K C=tK) (ht:eW K C name=tI tJ) (hh:cj K C=tK)
  (hw:PySem.Within mA ns) (hsz:ns.length<=pC)
  (h:∀h',ObjM h' x dx C (λy=>if y=name then tI v else mA y)->Heap.SameBut dx s.heap h'->Q Unit.unit { s with heap:=h',toks:=s.toks+2 }) :
  pJ (model prog w) A (setAttr (.ref x) name v) Q E s:=by
 obtain⟨od,J,hl⟩:=I.look;refine fQ X J hs (PySem.W.osa_open (s:={ s with toks:=s.toks+1 }) (r:=tJ) X J hp ht λb=>?_);obtain⟨cd,hc,hd'⟩:=PySem.W.any_some hh;have hx:s.heap.get? x=tI #[.ref C,tI dx,.plain,#[]]:=I.obj;refine pq (pz (pq (pq (sE hx (pq (PySem.W.Looks.here (s:={ s with toks:=s.toks+1 }) (PySem.W.looks_clsIn X hc) ?_))))));rw[hd'];refine pz (a:=tI dx) (pq (pz (pq ?_)));refine wpAny_nsSet1 (s:={ s with toks:=s.toks+1 }) I.ns λh' hn2 hs2=>?_;obtain⟨oD,esD,epD,hoD,hdD,hcD⟩:=hn2.count (PySem.Within.cons name v hw);refine pq (tj hoD (by rw[hdD];exact pastItsLine_dict (aN hcD (by rw[ay];lia))) ?_);exact pz (h _ #[(hs2.2 _ (Ne.symm I.ne)).trans I.obj,hn2,I.ne] hs2)
theorem Q5{R:sH->pG->Prop}{vs:List pF}{kw:List (pL × pF)}(X:K.In s.heap)(hm:cN K C=tK)
  (hi:ag K (.ref C) "__init__" = tI (tI (.ref f))) (hf:PySem.W.typeIn K (.ref f)=tI (.type "function"))
  (h:rK (model prog w) (A.under (.builtin "type.__call__" #[.ref C::vs,kw])) (.call (.ref f) #[.ref (s⁻¹+1)::vs,kw]) (PySem.W.InitBack (s⁻¹+1) R)
   { s with heap:=(s.heap.push bK).push (cf C s⁻¹) }) :
  rK (model prog w) A (.call (.ref C) #[vs,kw]) R s:=by
 obtain⟨hh,g,d,t,os⟩:=s;exact PySem.W.make_core (PySem.W.makes_of X hm) (cD X hi) (λself=>fW X self hf) (.inl rfl) h
end
noncomputable def Zm(f:pL)(v:V):List (pL × V)->List (pL × V)
  | []=>[(f,v)]
  | (g,x)::r=>if g=f then (g,v)::r else (g,x)::Zm f v r
theorem qP(f g:pL)(v:V):∀fs:List (pL × V),(Zm f v fs).lookup g=if g=f then tI v else fs.lookup g
  | []=>by
    show bt g [(f,v)]=_;by_cases h:g=f
    . have hb:(g == f)=tK:=beq_iff_eq.mpr h
      erw[bt,hb,if_pos h]
    . have hb:(g == f)=tL:=beq_eq_false_iff_ne.mpr h
      erw[bt,hb,if_neg h]
  | (k,x)::r=>by
    have ih:=qP f g v r;rw[show Zm f v ((k,x)::r)=(if k=f then (k,v)::r else (k,x)::Zm f v r)from rfl];by_cases hk:k=f
    . rw[if_pos hk]
      by_cases h:g=k
      . have hb:(g == k)=tK:=beq_iff_eq.mpr h
        erw[bt,hb,if_pos (h.trans hk)]
      . have hb:(g == k)=tL:=beq_eq_false_iff_ne.mpr h
        erw[bt,hb,if_neg (λe:g=f=>h (e.trans hk.symm))]
    . rw[if_neg hk]
      by_cases h:g=k
      . have hb:(g == k)=tK:=beq_iff_eq.mpr h
        erw[bt,hb,if_neg (λe:g=f=>hk (h.symm.trans e))]
      . have hb:(g == k)=tL:=beq_eq_false_iff_ne.mpr h
        erw[bt,hb]
        exact ih
theorem qK(f:pL)(v:V):∀fs:List (pL × V),f ∈ (Zm f v fs).map (·.1)/\∀g,g ∈ fs.map (·.1)->g ∈ (Zm f v fs).map (·.1)
  | []=>#[by simp [Zm],λg h=>by simp at h]
  | (k,x)::r=>by
    obtain⟨i1,i2⟩:=qK f v r;rw[show Zm f v ((k,x)::r)=(if k=f then (k,v)::r else (k,x)::Zm f v r)from rfl];by_cases hk:k=f
    . rw[if_pos hk]
      subst hk;exact#[by simp,λg h=>by simpa using h]
    . rw[if_neg hk]
      refine#[?_,λg h=>?_]
      . rw[ar]
        exact ao _ i1
      . rw[ar]at h ⊢
        rcases tR.mp h with e | e
        . exact tR.mpr (.inl e)
        . exact ao _ (i2 g e)
theorem ql(f:pL)(v:V):∀fs:List (pL × V),(Zm f v fs).length<=fs.length+1
  | []=>by simp [Zm]
  | (k,x)::r=>by
    have ih:=ql f v r;rw[show Zm f v ((k,x)::r)=(if k=f then (k,v)::r else (k,x)::Zm f v r)from rfl];by_cases hk:k=f
    . rw[if_pos hk,ay,ay];lia
    . rw[if_neg hk,ay,ay];lia
theorem RelO.some_of{v:V}{o:Option pF}(r:RelO (tI v) o):∃u,o=tI u/\RelV v u:=by
 cases o with
 | none=>exact (show False from r).elim
 | some u=>exact#[u,rfl,r]
theorem RelO.none_of{o:Option pF}(r:RelO tJ o):o=tJ:=by
 cases o with
 | none=>rfl
 | some u=>exact (show False from r).elim
theorem UV{v:V}{u:pF}(r:RelV v u):fS u=tK:=by
 cases v with
 | non=>cases (show u=Value.none from r);rfl
 | bl b=>cases (show u=Value.bool b from r);rfl
 | int i=>obtain⟨t,e⟩:=(show ∃t,u=Value.int i t from r);cases e;rfl
 | str x=>obtain⟨t,e⟩:=(show ∃t,u=Value.str x t from r);cases e;rfl
 | byt b=>obtain⟨t,e⟩:=(show ∃t,u=Value.bytes b t from r);cases e;rfl
 | flt b=>obtain⟨t,e⟩:=(show ∃t,u=Value.float b t from r);cases e;rfl
 | ref a=>cases (show u=Value.ref a from r);rfl
 | ty n=>cases (show u=Value.type n from r);rfl
section
variable{P:pK}{w:pM}{H H':Hp}{h h':pP}{a C dx:pE}{fs fs':List (pL × V)}
theorem kE(hok:HOk P w H h)(e:H a=tI (.ins C dx fs)):∃mA,ObjM h a dx C mA/\(∀f,RelO (fs.lookup f) (mA f))/\PySem.Within mA (fs.map (·.1))/\fs.length<=1000/\H dx=tI (.own a):=by
 obtain⟨d,z,ne,ob,mA,n,r,q⟩:=(show ObjOk P w H h a (.ins C dx fs)from hok a _ e);exact#[mA,#[ob,n,ne],r,q,z,d]
end
structure Cls(K:pD)(C:pE):Prop where
 pg:bX K C eX=tK
 hd:cj K C=tK
 po:cA K C=tK
 sa:ag K (.ref C) "__setattr__" = tI (tI (.builtin "object.__setattr__"))
theorem Cls.get{K:pD}{C:pE}(c:Cls K C)(f:pL):bX K C f=tK:=c.pg
def NoAttr(K:pD)(C:pE)(f:pL):Prop:=ag K (.ref C) f=tI tJ
theorem NoAttr.taker{K:pD}{C:pE}{f:pL}(n:NoAttr K C f):eW K C f=tI tJ:=by
 unfold eW;rw[show ag K (.ref C) f=tI tJ from n];rfl
structure zcr(K:pD)(C:pE)(m:pL)(f:pE):Prop where
 at_:ag K (.ref C) m=tI (tI (.ref f))
 fn:bj K (.ref f)=tK
 kp:aJ K (.ref f)=tK
section
variable{X:Cx}{tM:List (pE × rb)}{σ:St}{H:Hp}{s:pG}{a C dx:pE}{fs:List (pL × V)}{f:pL}{v:V}{A:pN}{E:pF->pG->Prop}
theorem WJ{b:Bool}{Q:pF->pG->Prop}(I:Inv X tM σ H s)(e:H a=tI (.ins C dx fs))(c:Cls X.K C)(n:NoAttr X.K C f)(l:fs.lookup f=tI v)
  (h:∀u s',Inv X tM σ H s'->RelV v u->Q u s'):pJ (model X.prog X.w) A (getAttr (.ref a) f b) Q E s:=by
 obtain⟨mA,O,r,_,_,_⟩:=kE I.hok e;obtain⟨u,hu,ru⟩:=RelO.some_of (v:=v) (o:=mA f) (by rw[<- l];exact r f);exact zau I.kIn O (c.get f) c.hd n hu (UV ru) (h u _ (I.tok _) ru)
theorem xU{m:pL}{g:pE}{pl:tw Bool}{Q:pF × List pF->pG->Prop}(I:Inv X tM σ H s)(e:H a=tI (.ins C dx fs))(c:Cls X.K C)(k:zcr X.K C m g)(l:fs.lookup m=tJ)
  (h:Q (.ref g,[.ref a]) s):pJ (model X.prog X.w) A (getMethod (.ref a) m pl) Q E s:=by
 obtain⟨mA,O,r,_,_,_⟩:=kE I.hok e;have hn:mA m=tJ:=RelO.none_of (by rw[<- l];exact r m);exact JB I.kIn O (c.get m) k.at_ k.fn hn h
theorem WT{y:V}{u:pF}{Q:Unit->pG->Prop}(I:Inv X tM σ H s)(e:H a=tI (.ins C dx fs))(c:Cls X.K C)(n:NoAttr X.K C f)(hl:fs.length<1000)(ry:RelV y u)
  (h:∀s',Inv X tM σ (upd H a (.ins C dx (Zm f y fs))) s'->Q Unit.unit s'):pJ (model X.prog X.w) A (setAttr (.ref a) f u) Q E s:=by
 obtain⟨mA,O,r,wi,_,ho⟩:=kE I.hok e;have hz:(fs.map (·.1)).length<=pC:=by rw[af,pZ];lia
 refine zaK I.kIn O c.sa c.po n.taker c.hd wi hz λh' O' sb=>h _ ?_;have hd:∃o,h'.get? dx=tI o:=let #[o,_,_,e',_]:=O'.ns; #[o,e'];refine I.write (x:=a) (e:=dx) (by rw[e];exact True.intro) (.inr ho) (λb q hb z=>(sb.2 b hb).trans z) hd ?_;refine#[by rw[zo O.ne];exact ho,?_,O.ne,O'.obj,_,O'.ns,λg=>?_,λg hg=>?_]
 ·have:=ql f y fs;lia
 ·show RelO ((Zm f y fs).lookup g) (if g=f then tI u else mA g);rw[qP];by_cases q:g=f
  ·rw[if_pos q,if_pos q];exact ry
  ·rw[if_neg q,if_neg q];exact r g
 ·by_cases q:g=f
  ·rw[q];exact (qK f y fs).1
  ·refine (qK f y fs).2 g (wi g λz=>hg ?_);show (if g=f then tI u else mA g)=tJ;rw[if_neg q];exact z
theorem Inv.made(I:Inv X tM σ H s):Inv X tM σ (upd (upd H s⁻¹ (.own (s⁻¹+1))) (s⁻¹+1) (.ins C s⁻¹ []))
  { s with heap:=(s.heap.push bK).push (cf C s⁻¹) }:=by
 have e1:(s.heap.push bK).get? s⁻¹=tI bK:=aD s.heap rfl
 have e2:((s.heap.push bK).push (cf C s⁻¹)).get? (s⁻¹+1)=tI (cf C s⁻¹):=by
  have:=aD (s.heap.push bK) (o:=cf C s⁻¹) rfl
  rwa [bT]at this
 have e3:(s.heap.push bK).Ns s⁻¹ (λ_=>tJ):=#[bK,#[],_,e1,rfl,(λe he=>absurd he (by simp)),λ_=>rfl];have I1:=I.laid (a:=s⁻¹) (o:=.own (s⁻¹+1)) (h':=s.heap.push bK) (t':=s.toks) (λb u q=>aa _ q) (ak _) #[_,e1];refine I1.laid (a:=s⁻¹+1) (o:=.ins C s⁻¹ []) (t':=s.toks) (λb u q=>aa _ q) (Nat.le_of_eq (bT _ _)) ?_;have ne:s⁻¹≠s⁻¹+1:=aB (Nat.lt_succ_self _);refine#[by rw[zo ne,zc],aE _,ne,e2,λ_=>tJ,(Heap.Ns1.of_empty e3).at λo q=>aa _ q,λ_=>True.intro,λy hy=>absurd rfl hy]
theorem K2{prog:pK}{w:pM}{env:sy}{e:pO}{f:pL}{pos:rB}{s:pG}{Q:pF->pG->Prop}(hb:attributeBase e f env (eval e env)=eval e env)
  (h:pJ (model prog w) A (eval e env) (λo s₁=>pJ (model prog w) A (getAttr o f tK) Q E s₁) E s):pJ (model prog w) A (eval (.Attribute e f pos) env) Q E s :=
 Attribute_any_ h (by rw[arm_eval_Attribute,hb])
end
def zbp(K:pD)(ta:TE)(f:pL):TE:=λσ H Q=>ta σ H λx H1=>∃a C dx fs v,x=.ref a/\H1 a=tI (.ins C dx fs)/\Cls K C/\NoAttr K C f/\fs.lookup f=tI v/\Q v H1
def zdT(K:pD)(ta tv:TE)(f:pL):TS:=λD σ H=>tv σ H λy H1=>ta σ H1 λx H2=>∃a C dx fs,x=.ref a/\H2 a=tI (.ins C dx fs)/\Cls K C/\NoAttr K C f/\fs.length<1000 /\
 D.nx σ (upd H2 a (.ins C dx (Zm f y fs)))
section
variable{X:Cx}{o e value:pO}{f:pL}{pos pos' tpos:rB}{ta tv:TE}
theorem jC(he:PE X e ta)(hb:attributeBase e f X.env (eval e X.env)=eval e X.env):PE X (.Attribute e f pos) (zbp X.K ta f):=by
 intro tM s σ H Q I h;refine K2 hb (thn (he tM s σ H _ I h) λu s1 ⟨x,H1,I1,rx,a,C,dx,fs,v,ex,ea,c,n,l,q⟩=>?_);subst ex;obtain rfl:u=Value.ref a:=rx;exact WJ I1 ea c n l λu' s2 I2 ru=>#[v,H1,I2,ru,q]
theorem XO(ha:PE X o ta)(hv:PE X value tv)(hs:swapsWith value (tI (.Attribute o f pos')) pos.line X.env=pure tL):PS X (.Assign [.Attribute o f pos'] value pos) (zdT X.K ta tv f):=by
 intro tM s σ H D I h;refine rR (thn (hv tM s σ H _ I h) λu s1 ⟨y,H1,I1,ry,q⟩=>thn (ha tM s1 σ H1 _ I1 q) λov s2 ⟨x,H2,I2,rx,a,C,dx,fs,ex,ea,c,n,l,q2⟩=>?_) hs;subst ex;obtain rfl:ov=Value.ref a:=rx;exact WT I2 ea c n l ry λs3 I3=>#[σ,_,I3,q2]
theorem zaD{pl:tw Bool}{m:pL}{apos:rB}{args:List pO}{tM:List (pE × rb)}{s:pG}{σ:St}{H:Hp}{Q:pF->pG->Prop}{te:TE}(he:PE X e te)(I:Inv X tM σ H s)
    (h:te σ H λx H1=>∃a C dx fs g,x=.ref a/\H1 a=tI (.ins C dx fs)/\Cls X.K C/\zcr X.K C m g/\fs.lookup m=tJ /\
      ∀s1,Inv X tM σ H1 s1->pJ (model X.prog X.w) X.A (callWith pos (.ref g) [.ref a] (pV pos (pB args X.env)) (rg pos (pT [] X.env))) Q X.xe s1)
    (ht:eval (.Call (.Attribute e m apos) args [] pos) X.env=(do
      let ov <- eval e X.env
      standAt apos.atName
      let (f,first) <- holding [ov] (getMethod ov m pl)
      callWith pos f first (pV pos (pB args X.env)) (rg pos (pT [] X.env)))) :
    pJ (model X.prog X.w) X.A (eval (.Call (.Attribute e m apos) args [] pos) X.env) Q X.xe s:=by
  refine bZ (pl:=pl) (thn (he tM s σ H _ I h) λu s1 ⟨x,H1,I1,rx,a,C,dx,fs,g,ex,ea,c,k,l,q⟩=>?_) ht;subst ex;obtain rfl:u=Value.ref a:=rx;exact xU I1 ea c k l (q s1 I1)
end
section
variable{X:Cx}{tM:List (pE × rb)}{σ:St}{H:Hp}{s:pG}{A:pN}{E:pF->pG->Prop}{Q:pF->pG->Prop}{c:pF}{b:Bool}
inductive Wo(K:pD)(H:Hp):V->pF->Prop where
 | non:Wo K H .non (.type "NoneType")
 | bl (x:Bool):Wo K H (.bl x) (.type "bool")
 | int (i:Int):Wo K H (.int i) (.type "int")
 | str (x:pL):Wo K H (.str x) (.type "str")
 | flt (x:UInt64):Wo K H (.flt x) (.type "float")
 | lst {a:pE} {xs:List V} (e:H a=tI (.lst xs)):Wo K H (.ref a) (.type "list")
 | frz {a:pE} {o:rb} {xs:List V} (e:H a=tI (.frz o (.lst xs))):Wo K H (.ref a) (.type "list")
 | tup {a:pE} {xs:List V} (e:H a=tI (.tup xs)):Wo K H (.ref a) (.type "tuple")
 | dK {a:pE} {kvs:List (Key × V)} (e:H a=tI (.dK kvs)):Wo K H (.ref a) (.type "dict")
 | dT {a:pE} {kvs:List (List Key × V)} (e:H a=tI (.dT kvs)):Wo K H (.ref a) (.type "dict")
 | ins {a C dx:pE} {fs:List (pL × V)} (e:H a=tI (.ins C dx fs)) (cl:Cls K C) (ha:ag K (.ref C) "__class__" = tI (tI (.builtin "object.__class__")))
   (hn:cB K (.builtin "object.__class__") "__get__" = tI (tI (.builtin "getset_descriptor.__get__"))) (htk:dJ K (.builtin "object.__class__")=tI tK)
   (hm:bG K C (.type "object")=tI tK):Wo K H (.ref a) (.ref C)
theorem UW{x:V}{u t:pF}(I:Inv X tM σ H s)(rx:RelV x u)(ty:Wo X.K H x t)(e:aR X.K t c=tI b)(h:∀tk,Q (.bool b) { s with toks:=tk }) :
  pJ (model X.prog X.w) A (call (.builtin "isinstance") [u,c]) Q E s:=by
 cases ty with
 | non=>cases (show u=Value.none from rx);exact bq PySem.W.kitx_none I.kIn True.intro e (λz=>nomatch z) h
 | bl y=>cases (show u=Value.bool y from rx);exact bq PySem.W.kitx_bool I.kIn True.intro e (λz=>nomatch z) h
 | int i=>obtain⟨t,q⟩:=(show ∃t,u=Value.int i t from rx);cases q;exact bq PySem.W.kitx_int I.kIn True.intro e (λz=>nomatch z) h
 | str y=>obtain⟨t,q⟩:=(show ∃t,u=Value.str y t from rx);cases q;exact bq PySem.W.kitx_str I.kIn True.intro e (λz=>nomatch z) h
 | flt y=>obtain⟨t,q⟩:=(show ∃t,u=Value.float y t from rx);cases q;exact bq PySem.W.kitx_float I.kIn True.intro e (λz=>nomatch z) h
 | @lst a xs ea =>
  cases (show u=Value.ref a from rx);obtain⟨_,_,n,_,h1⟩:=(show ObjOk X.prog X.w H s.heap a (.lst xs)from I.hok a _ ea);exact bq ee I.kIn #[_,h1,rfl] e (λz=>nomatch z) h
 | @frz a ob xs ea =>
  cases (show u=Value.ref a from rx);obtain⟨_,_,_,n,_,h1⟩:=(show ObjOk X.prog X.w H s.heap a (.frz ob (.lst xs))from I.hok a _ ea);exact bq ee I.kIn #[_,h1,rfl] e (λz=>nomatch z) h
 | @tup a xs ea =>
  cases (show u=Value.ref a from rx);obtain⟨_,_,_,p⟩:=(show ObjOk X.prog X.w H s.heap a (.tup xs)from I.hok a _ ea);obtain⟨o,h1,h2,_⟩:=p;exact bq fL I.kIn #[o,h1,h2] e (λz=>nomatch z) h
 | @dK a kvs ea =>
  cases (show u=Value.ref a from rx);obtain⟨_,_,vs,_,p⟩:=(show ObjOk X.prog X.w H s.heap a (.dK kvs)from I.hok a _ ea);obtain⟨o,es,ep,h1,h2,_⟩:=p;exact bq fR I.kIn #[o,h1,h2.1] e (λz=>nomatch z) h
 | @dT a kvs ea =>
  cases (show u=Value.ref a from rx);obtain⟨_,_,xs,_,o,es,ep,h1,h2,_⟩:=(show ObjOk X.prog X.w H s.heap a (.dT kvs)from I.hok a _ ea);exact bq fR I.kIn #[o,h1,h2.1] e (λz=>nomatch z) h
 | @ins a C dx fs ea cl ha hn htk hm =>
  cases (show u=Value.ref a from rx);obtain⟨mA,O,_⟩:=kE I.hok ea;obtain⟨od,J,_⟩:=O.look;exact bq (PySem.W.kitx_own (cl.get _) cl.hd ha hn htk hm) I.kIn J e (λz=>nomatch z) h
end
structure Room(k:Nat)(A:pN):Prop where
 hd:A.handled=tJ
 dp:A.depth+3 * k+5<sF
 un:A.units+16 * k+200<cLine
theorem Room.mono{j k:Nat}{A:pN}(r:Room k A)(h:j<=k):Room j A:=#[r.hd,by have:=r.dp;lia,by have:=r.un;lia]
theorem Room.deeper{k:Nat}{A:pN}(r:Room (k+1) A)(env:sy):Room k (A.deeper env) :=
 #[r.hd,by have:=r.dp;show A.depth+1+3 * k+5<_;lia,by have:=r.un;show A.units+3+16 * k+200<_;lia]
theorem Room.in1{k:Nat}{A:pN}(r:Room (k+1) A):Room k A.in1 :=
 #[r.hd,by have:=r.dp;show A.depth+3 * k+5<_;lia,by have:=r.un;show A.units+1+16 * k+200<_;lia]
theorem WG{A:pN}{C:pE}{us:List pF}{kw:List (pL × pF)}:(A.under (.builtin "type.__call__" #[.ref C::us,kw])).depth=A.depth+1:=by
 first | rfl | simp [Around.under,Code.weight,Code.isCreation,Code.isGuard,Code.isCaller,Code.frames,Code.isFrame,guardIds]
theorem WK{A:pN}{C:pE}{us:List pF}{kw:List (pL × pF)}:(A.under (.builtin "type.__call__" #[.ref C::us,kw])).units=A.units+1:=by
 first | rfl | simp [Around.under,Code.cUnits,Code.frames,Code.isFrame]
theorem Room.make{k:Nat}{A:pN}(r:Room (k+1) A)(C:pE)(us:List pF)(kw:List (pL × pF)):Room k (A.under (.builtin "type.__call__" #[.ref C::us,kw])) :=
 #[r.hd,by have:=r.dp;rw[WG];lia,by have:=r.un;rw[WK];lia]
theorem Room.depth{k:Nat}{A:pN}(r:Room k A):A.depth<sF:=by have:=r.dp;lia
theorem Room.units{k:Nat}{A:pN}(r:Room k A):A.units+64<cLine:=by have:=r.un;lia
def wn:TA:=λ_ H Q=>Q [] H
def zK(ta:TE)(tr:TA):TA:=λσ H Q=>ta σ H λx H1=>tr σ H1 λxs H2=>Q (x::xs) H2
section
variable{X:Cx}{e:pO}{es:List pO}{te:TE}{t:TA}{pos:rB}
theorem zf:PA X [] wn:=λ_ _ _ _ H Q I h=>Calls.spliced_nil #[[],H,I,.nil,h]
theorem za(ha:PE X e te)(hr:PA X es t)(hs:pB (e::es) X.env=(tL,eval e X.env)::pB es X.env:=by rfl):PA X (e::es) (zK te t):=by
 intro pos tM s σ H Q I h;rw[hs];show pJ _ _ (spliced ((tL,eval e X.env)::pV pos (pB es X.env))) _ _ s;refine Calls.spliced_cons (thn (ha tM s σ H _ I h) λu s1 ⟨x,H1,I1,r1,q1⟩=>?_);exact thn (hr pos tM s1 σ H1 _ I1 q1) λus s2 ⟨xs,H2,I2,r2,q2⟩=>#[x::xs,H2,I2,.cons r1 r2,q2]
def Uj(t:TA):TE:=λσ H Q=>t σ H λxs H1=>xs.length<=pC/\∀p,H1 p=tJ->Q (.ref p) (upd H1 p (.tup xs))
def zbN(t:TA):TE:=λσ H Q=>t σ H λxs H1=>xs.length<=pC/\∀p,H1 p=tJ->Q (.ref p) (upd H1 p (.lst xs))
theorem zY{x1}(h:PA X es t):PE X (.Tuple es x1 pos) (Uj t):=by
 intro tM s σ H Q I hq;refine wpAny_Tuple_spliced (thn (h pos tM s σ H _ I hq) λus s1 ⟨xs,H1,I1,r,z,q⟩=>#[by rw[<- r.length];exact z,?_]);have hf:H1 s1⁻¹=tJ:=I1.hok.fresh (ak _);refine#[.ref s1⁻¹,upd H1 s1⁻¹ (.tup xs),I1.laid (t':=s1.toks) (λb u e=>aa _ e) (ak _) ?_,rfl,q _ hf];exact#[z,us,r,#[_,aD _ rfl,rfl,_,rfl]]
theorem wl(h:PA X es t):PE X (.List es pos) (zbN t):=by
 intro tM s σ H Q I hq;refine wpAny_List_spliced (thn (h pos tM s σ H _ I hq) λus s1 ⟨xs,H1,I1,r,z,q⟩=>#[by rw[<- r.length];exact z,?_]);have hf:H1 s1⁻¹=tJ:=I1.hok.fresh (ak _);refine#[.ref s1⁻¹,upd H1 s1⁻¹ (.lst xs),I1.laid (t':=s1.toks) (λb u e=>aa _ e) (ak _) ?_,rfl,q _ hf];exact#[z,us,0,r,aD _ rfl]
end
noncomputable abbrev Sp:=List V->Hp->VK->XK->Prop
noncomputable abbrev CXT:=List sy->Hp->pG->XK->pF->pG->Prop
structure Env0(P:pK)(w:pM)(K:pD)(mg:pL->Option pF)(base:pP)(A:pN)(outer:List sy)(s:pG)(H:Hp):Prop where
 frames:A.frames=tI outer
 mod:Mod K mg base
 bs:∀b o,base.get? b=tI o->s.heap.get? b=tI o/\H b=tJ
 bsz:base.objs.size<=s⁻¹
 funs:s.heap.FunFrames base outer
 frf:∀b ∈ frs outer,H b=tJ
 hok:HOk P w H s.heap
 bare:rY s.gens
def CE(outer:List sy)(P:pK)(w:pM)(H:Hp)(s:pG)(Q:VK)(u:pF)(s':pG):Prop :=
 ∃v H',s'.os=s.os/\rY s'.gens/\Un (frs outer) [] H H' s.heap s'.heap/\HOk P w H' s'.heap/\RelV v u/\Q v H'
def CR(CX:CXT)(outer:List sy)(P:pK)(w:pM)(H:Hp)(s:pG)(Q:VK)(E:XK)(r:sH)(s':pG):Prop :=
 match r with
 | .ok (.ret u)=>CE outer P w H s Q u s'
 | .ok _=>False
 | .error e=>CX outer H s E e s'
structure FnOk(P:pK)(w:pM)(K:pD)(mg:pL->Option pF)(base:pP)(CX:CXT)(k:Nat)(f:pE)(fd:pH)(ps:List pL)(sp:Sp):Prop where
 len:∀vs H Q E,sp vs H Q E->vs.length=ps.length
 run:∀(A:pN) (outer:List sy) (s:pG) (H:Hp) (args:Args) (us:List pF) (vs:List V) (Q:VK) (E:XK),Room k A->Env0 P w K mg base A outer s H->sI s fd args (ps.zip us)->Vals vs us->sp vs H Q E ->
  rK (model P w) A (.call (.ref f) args) (CR CX outer P w H s Q E) s
theorem FnOk.imp{P:pK}{w:pM}{K:pD}{mg:pL->Option pF}{base:pP}{CX:CXT}{k:Nat}{f:pE}{fd:pH}{ps:List pL}{sp sp':Sp}(F:FnOk P w K mg base CX k f fd ps sp)
  (h:∀vs H Q E,sp' vs H Q E->sp vs H Q E):FnOk P w K mg base CX k f fd ps sp' :=
 #[λvs H Q E q=>F.len vs H Q E (h _ _ _ _ q),λA outer s H args us vs Q E hr he hb hv hs=>F.run A outer s H args us vs Q E hr he hb hv (h _ _ _ _ hs)]
theorem Env0.make{P:pK}{w:pM}{K:pD}{mg:pL->Option pF}{base:pP}{A:pN}{outer:List sy}{s:pG}{H:Hp}(e:Env0 P w K mg base A outer s H)(C:pE)(us:List pF)(kw:List (pL × pF)) :
  Env0 P w K mg base (A.under (.builtin "type.__call__" #[.ref C::us,kw])) outer s H:=#[by first | exact e.frames | (simpa [Around.under,Code.envs,Code.isFrame,pushEnvs] using e.frames),e.mod,e.bs,e.bsz,e.funs,e.frf,e.hok,e.bare]
section
variable{X:Cx}{tM:List (pE × rb)}{σ:St}{H:Hp}{s s':pG}
theorem Inv.env0(I:Inv X tM σ H s):Env0 X.prog X.w X.K X.mg X.base X.A X.stack s H :=
 #[I.ok.frames,I.ok.mod,I.bs,aN I.ok.bsz I.sz,I.stack,I.stkFree,I.hok,I.bare]
theorem Inv.after{Q:VK}{u:pF}(I:Inv X tM σ H s)(h:CE X.stack X.prog X.w H s Q u s'):EP X tM σ Q u s':=by
 obtain⟨v,H',os,bare,un,hok,r,q⟩:=h;obtain⟨hh,g,d,t,os'⟩:=s';obtain rfl:os'=s.os:=os;exact#[v,H',I.call (h':=hh) (g':=g) (d':=d) (t':=t) (ch:=[]) un hok bare (λb z=>absurd z (by simp)),r,q]
end
def uu(sp:Sp)(dvs:List V)(E:XK)(t:TA):TE:=λσ H Q=>t σ H λvs H1=>sp (vs ++ dvs) H1 Q E
def kX(C:pE)(m:pL)(sp:Sp)(dvs:List V)(E:XK)(ta:TE)(t:TA):TE:=λσ H Q=>ta σ H λx H1=>∃a dx fs,x=.ref a/\H1 a=tI (.ins C dx fs)/\fs.lookup m=tJ /\
 t σ H1 λvs H2=>sp (x::(vs ++ dvs)) H2 Q E
def UN(C:pE)(sp:Sp)(dvs:List V)(E:XK)(t:TA):TE:=λσ H Q=>t σ H λvs H1=>∀x dx,H1 x=tJ->H1 dx=tJ->dx≠x ->
 sp (.ref x::(vs ++ dvs)) (upd (upd H1 dx (.own x)) x (.ins C dx [])) (λv H2=>v=.non/\Q (.ref x) H2) E
def Binds(K:pD)(fd:pH)(ps:List pL)(ds:List pF):Prop :=
 ∀(s:pG) (us:List pF),K.In s.heap->(us ++ ds).length=ps.length->sI s fd #[us,[]] (ps.zip (us ++ ds))
theorem Binds.all{K:pD}{fd:pH}{ps:List pL}(h:∀us:List pF,us.length=ps.length->bindArgs fd #[us,[]]=pure (ps.zip us)):Binds K fd ps []:=λs us _ hl=>by
 rw[aG]at hl ⊢;exact .of_eq (h us hl)
def uG(CX:CXT)(X:Cx)(E:XK):Prop:=∀(tM:List (pE × rb)) (σ:St) (H:Hp) (s:pG) (e:pF) (s':pG),Inv X tM σ H s->CX X.stack H s E e s'->X.xe e s'
section
variable{X:Cx}{CX:CXT}{k:Nat}{f C:pE}{fd:pH}{ps:List pL}{sp:Sp}{dvs:List V}{ds:List pF}{E:XK}{x m:pL}{p pos apos:rB}{e o:pO}{es:List pO}{ta:TE}{t:TA}
theorem jK{tM:List (pE × rb)}{σ:St}{H:Hp}{s:pG}{Q:VK}{us:List pF}{vs:List V}(F:FnOk X.prog X.w X.K X.mg X.base CX k f fd ps sp)(hr:Room k X.A)(hb:Binds X.K fd ps ds)(hd:Vals dvs ds)(hx:uG CX X E)
  (I:Inv X tM σ H s) (r:Vals vs us) (h:sp (vs ++ dvs) H Q E):pJ (model X.prog X.w) X.A (call (.ref f) us) (EP X tM σ Q) X.xe s:=by
 have r2:Vals (vs ++ dvs) (us ++ ds):=r.append hd;have hl:(us ++ ds).length=ps.length:=by rw[<- r2.length];exact F.len _ _ _ _ h
 refine rG (rJ (F.run X.A X.stack s H #[us,[]] (us ++ ds) (vs ++ dvs) Q E hr I.env0 (hb s us I.kIn hl) r2 h) λr s' hq=>?_)
 cases r with
 | error e=>exact hx tM σ H s e s' I hq
 | ok fl =>
  cases fl with
  | ret u=>exact I.after hq
  | next=>exact False.elim hq
  | brk=>exact False.elim hq
  | cont=>exact False.elim hq
theorem UF(F:FnOk X.prog X.w X.K X.mg X.base CX k f fd ps sp)(hr:Room k X.A)(hg:Gl X x)(hm:X.mg x=tI (.ref f))(hk:aJ X.K (.ref f)=tK)(hb:Binds X.K fd ps ds)(hd:Vals dvs ds)(hx:uG CX X E)
  (ha:PA X (e::es) t) (hdb:(x ==("__debug__" : pL))=tL:=by decide) (he:pB (e::es) X.env=(tL,eval e X.env)::pB es X.env:=by rfl) (hpl:(pV pos (pB es X.env)).any (·.1)=tL:=by rfl) :
  PE X (.Call (.Name x p) (e::es) [] pos) (uu sp dvs E t):=by
 intro tM s σ H Q I h;refine pY (vk I hg hm ?_ hdb);refine bO (h₀:=X.base) I.ok.mod.kin hk (thn (ha pos tM s σ H _ I h) λus s1 ⟨vs,H1,I1,r,q⟩=>#[I1.kIn,?_]) he hpl;exact jK F hr hb hd hx I1 r q
theorem KH{pl:tw Bool}(he:PE X o ta)(c:Cls X.K C)(hm:zcr X.K C m f)(F:FnOk X.prog X.w X.K X.mg X.base CX k f fd ps sp)(hr:Room k X.A)(hb:Binds X.K fd ps ds)(hd:Vals dvs ds)(hx:uG CX X E)(ha:PA X (e::es) t)
    (hst:pB (e::es) X.env=(tL,eval e X.env)::pB es X.env:=by rfl) (hpl:(pV pos (pB es X.env)).any (·.1)=tL:=by rfl)
    (ht:eval (.Call (.Attribute o m apos) (e::es) [] pos) X.env=(do
      let ov <- eval o X.env
      standAt apos.atName
      let (f,first) <- holding [ov] (getMethod ov m pl)
      callWith pos f first (pV pos (pB (e::es) X.env)) (rg pos (pT [] X.env))):=by rfl) :
    PE X (.Call (.Attribute o m apos) (e::es) [] pos) (kX C m sp dvs E ta t):=by
  intro tM s σ H Q I h;refine bZ (pl:=pl) (thn (he tM s σ H _ I h) λu s1 ⟨x,H1,I1,rx,a,dx,fs,ex,ea,l,q⟩=>?_) ht;subst ex;obtain rfl:u=Value.ref a:=rx;refine xU I1 ea c hm l ?_;refine bO (first:=[.ref a]) (h₀:=X.base) I.ok.mod.kin hm.kp (thn (ha pos tM s1 σ H1 _ I1 q) λus s2 ⟨vs,H2,I2,r,q2⟩=>#[I2.kIn,?_]) hst hpl;exact jK (us:=.ref a::us) (vs:=.ref a::vs) F hr hb hd hx I2 (.cons rfl r) q2
theorem JI{pl:tw Bool}(he:PE X o ta)(c:Cls X.K C)(hm:zcr X.K C m f)(F:FnOk X.prog X.w X.K X.mg X.base CX k f fd ps sp)(hr:Room k X.A)(hb:Binds X.K fd ps ds)(hd:Vals dvs ds)(hx:uG CX X E)
    (ht:eval (.Call (.Attribute o m apos) [] [] pos) X.env=(do
      let ov <- eval o X.env
      standAt apos.atName
      let (f,first) <- holding [ov] (getMethod ov m pl)
      callWith pos f first (pV pos (pB [] X.env)) (rg pos (pT [] X.env))):=by rfl) :
    PE X (.Call (.Attribute o m apos) [] [] pos) (kX C m sp dvs E ta wn):=by
  intro tM s σ H Q I h;refine bZ (pl:=pl) (thn (he tM s σ H _ I h) λu s1 ⟨x,H1,I1,rx,a,dx,fs,ex,ea,l,q⟩=>?_) ht;subst ex;obtain rfl:u=Value.ref a:=rx;refine xU I1 ea c hm l ?_;exact fG (first:=[.ref a]) I1.kIn hm.kp (jK (us:=[.ref a]) (vs:=[.ref a]) F hr hb hd hx I1 (.cons rfl .nil) q)
structure Mk(K:pD)(C f:pE):Prop where
 makes:cN K C=tK
 init:ag K (.ref C) "__init__" = tI (tI (.ref f))
 fn:bj K (.ref f)=tK
 kp:aJ K (.ref C)=tK
theorem QG{tM:List (pE × rb)}{σ:St}{H:Hp}{s:pG}{Q:VK}{us:List pF}{vs:List V}(M:Mk X.K C f)(F:FnOk X.prog X.w X.K X.mg X.base CX k f fd ps sp)(hr:Room (k+1) X.A)(hb:Binds X.K fd ps ds)(hd:Vals dvs ds)
  (hx:uG CX X E) (I:Inv X tM σ H s) (r:Vals vs us)
  (h:∀x dx,H x=tJ->H dx=tJ->dx≠x->sp (.ref x::(vs ++ dvs)) (upd (upd H dx (.own x)) x (.ins C dx [])) (λv H2=>v=.non/\Q (.ref x) H2) E) :
  pJ (model X.prog X.w) X.A (call (.ref C) us) (EP X tM σ Q) X.xe s:=by
 have hq:=h (s⁻¹+1) s⁻¹ (I.hok.fresh (cw _)) (I.hok.fresh (ak _)) (aB (Nat.lt_succ_self _));have I2:=Inv.made (C:=C) I;have r2:Vals (V.ref (s⁻¹+1)::(vs ++ dvs)) (Value.ref (s⁻¹+1)::(us ++ ds)):=.cons rfl (r.append hd)
 have hl:(Value.ref (s⁻¹+1)::us ++ ds).length=ps.length:=by
  have e:=r2.length;rw[F.len _ _ _ _ hq]at e;exact e.symm
 refine rG (Q5 (f:=f) I.kIn M.makes M.init (beq_iff_eq.mp M.fn) (rJ (F.run _ X.stack _ _ #[Value.ref (s⁻¹+1)::us,[]] (Value.ref (s⁻¹+1)::(us ++ ds)) _ _ E (hr.make C us [])
  (I2.env0.make C us []) (hb _ (Value.ref (s⁻¹+1)::us) I2.kIn hl) r2 hq) λr s' hq'=>?_))
 cases r with
 | error e=>exact hx tM σ _ _ e s' I2 hq'
 | ok fl =>
  cases fl with
  | ret u =>
   obtain⟨v,H',I3,rv,ev,q3⟩:=I2.after hq';subst ev;exact#[rv,#[V.ref (s⁻¹+1),H',I3,rfl,q3]]
  | next=>exact False.elim hq'
  | brk=>exact False.elim hq'
  | cont=>exact False.elim hq'
theorem V3(M:Mk X.K C f)(F:FnOk X.prog X.w X.K X.mg X.base CX k f fd ps sp)(hr:Room (k+1) X.A)(hg:Gl X x)(hm:X.mg x=tI (.ref C))(hb:Binds X.K fd ps ds)(hd:Vals dvs ds)(hx:uG CX X E)
  (ha:PA X (e::es) t) (hdb:(x ==("__debug__" : pL))=tL:=by decide) (he:pB (e::es) X.env=(tL,eval e X.env)::pB es X.env:=by rfl) (hpl:(pV pos (pB es X.env)).any (·.1)=tL:=by rfl) :
  PE X (.Call (.Name x p) (e::es) [] pos) (UN C sp dvs E t):=by
 intro tM s σ H Q I h;refine pY (vk I hg hm ?_ hdb);refine bO (h₀:=X.base) I.ok.mod.kin M.kp (thn (ha pos tM s σ H _ I h) λus s1 ⟨vs,H1,I1,r,q⟩=>#[I1.kIn,?_]) he hpl;exact QG M F hr hb hd hx I1 r q
end
def PK(X:Cx)(kws:List tz)(t:TA):Prop :=
 ∀(pos:rB) (tM:List (pE × rb)) (s:pG) (σ:St) (H:Hp) (Q:List V->Hp->Prop),Inv X tM σ H s->t σ H Q->pJ (model X.prog X.w) X.A (evalAll ((rg pos (pT kws X.env)).map (·.2))) (AP X tM σ Q) X.xe s
section
variable{X:Cx}{CX:CXT}{k:Nat}{f C:pE}{fd:pH}{ps ks:List pL}{sp:Sp}{E:XK}{x m:pL}{p pos apos kpos:rB}{e o:pO}{es:List pO}{kws:List tz}{te ta:TE}{t tk:TA}{nm:Option pL}
theorem Kw:PK X [] wn:=λ_ _ _ _ H Q I h=>wpAny_evalAll_nil #[[],H,I,.nil,h]
theorem VV(ha:PE X e te)(hr:PK X kws t):PK X (#[nm,e,kpos]::kws) (zK te t):=by
 intro pos tM s σ H Q I h;show pJ _ _ (evalAll ((do let v <- eval e X.env;standAt pos;pure v)::(rg pos (pT kws X.env)).map (·.2))) _ _ s;refine wpAny_evalAll_cons (pq (thn (ha tM s σ H _ I h) λu s1 ⟨x,H1,I1,r1,q1⟩=>pq (rq (pz ?_))));exact thn (hr pos tM s1 σ H1 _ I1 q1) λus s2 ⟨xs,H2,I2,r2,q2⟩=>#[x::xs,H2,I2,.cons r1 r2,q2]
variable{g:List pF->List pF->List pF}{gV:List V->List V->List V}
end
structure zk(N P:List pL)(sc:rm):Prop where
 kind:sc.kind=.function
 co:sc.isCoroutine=tL
 gen:sc.isGenerator=tL
 nd:N.Nodup
 pre:N.take P.length=P
 par:∀x ∈ P,sc.names.lookup x=tI .local\/sc.names.lookup x=tI .cell
 nofree:∀y ∈ sc.names,y.2≠.free
theorem Zw{kindOf:pL->Option rW}{x:pL}:∀{binds:List (pL × pF)} {m:pL->Option pF},(∀v,(x,v) ∉ binds)->bindL kindOf binds m x=m x
  | [],_,_=>rfl
  | (n,v)::r,m,h=>by
    unfold bindL;rw[Zw λw hw=>h w (ao _ hw)];split
    . have:x≠n:=by rintro rfl;exact h v az
      simp [this]
    . rfl
theorem Z1{kindOf:pL->Option rW}{x:pL}:∀{binds:List (pL × pF)} {m:pL->Option pF},(∀v,(x,v) ∉ binds)->bindC kindOf binds m x=m x
  | [],_,_=>rfl
  | (n,v)::r,m,h=>by
    unfold bindC;rw[Z1 λw hw=>h w (ao _ hw)];split
    . rfl
    . have:x≠n:=by rintro rfl;exact h v az
      simp [this]
theorem ZY{kindOf:pL->Option rW}{x:pL}{v:pF}:∀{P:List pL} {vs:List pF} {i:Nat} {m:pL->Option pF},P.Nodup->P[i]? = tI x->vs[i]? = tI v->kindOf x=tI .local ->
  bindL kindOf (P.zip vs) m x=tI v
 | [],_,_,_,_,h,_,_=>by simp at h
 | _::_,[],_,_,_,_,h,_=>by simp at h
 | p::P,w::vs,0,m,nd,h1,h2,hk=>by
  simp at h1 h2;subst h1;subst h2;show bindL kindOf ((p,w)::P.zip vs) m p=_;unfold bindL;rw[Zw λv hv=>(tX.mp nd).1 (de hv).1,if_pos hk];simp
 | p::P,w::vs,i+1,m,nd,h1,h2,hk=>by
  show bindL kindOf ((p,w)::P.zip vs) m x=_;unfold bindL;exact ZY (i:=i) (tX.mp nd).2 (by simpa using h1) (by simpa using h2) hk
theorem ZA{kindOf:pL->Option rW}{x:pL}{v:pF}:∀{P:List pL} {vs:List pF} {i:Nat} {m:pL->Option pF},P.Nodup->P[i]? = tI x->vs[i]? = tI v->kindOf x≠tI .local ->
  bindC kindOf (P.zip vs) m x=tI v
 | [],_,_,_,_,h,_,_=>by simp at h
 | _::_,[],_,_,_,_,h,_=>by simp at h
 | p::P,w::vs,0,m,nd,h1,h2,hk=>by
  simp at h1 h2;subst h1;subst h2;show bindC kindOf ((p,w)::P.zip vs) m p=_;unfold bindC;rw[Z1 λv hv=>(tX.mp nd).1 (de hv).1,if_neg hk];simp
 | p::P,w::vs,i+1,m,nd,h1,h2,hk=>by
  show bindC kindOf ((p,w)::P.zip vs) m x=_;unfold bindC;exact ZA (i:=i) (tX.mp nd).2 (by simpa using h1) (by simpa using h2) hk
noncomputable def start(N:List pL)(vs:List V):St:=vs.map tI ++ al (N.length - vs.length) tJ
noncomputable def u8(CX:CXT)(P:pK)(w:pM)(K:pD)(mg:pL->Option pF)(base:pP)(N:List pL)(qual:pL)(scope:rm)(f:pE)(cd:pF)(A:pN)(outer:List sy)(s:pG)(H:Hp)(E:XK):Cx where
 prog:=P
 w:=w
 K:=K
 mg:=mg
 base:=base
 A:=A.deeper (rX qual scope s⁻¹ f cd)
 N:=N
 s₀:=s
 H₀:=H
 env:=rX qual scope s⁻¹ f cd
 outer:=outer
 stack:=rX qual scope s⁻¹ f cd::outer
 ex:=[]
 calm:=tK
 fn:=λ_=>tK
 pn:=[]
 xe:=λe s'=>pJ (model P w) (A.deeper (rX qual scope s⁻¹ f cd)) (leaving (rX qual scope s⁻¹ f cd) e) (λ_ s''=>CX outer H s E e s'') (λe' s''=>CX outer H s E e' s'') s'
theorem X4{sc:rm}{n:Nat}{x:pL}(h:sc.names.lookup x=tI .cell):∃c,(cellsFrom n sc.names []).lookup x=tI c:=by
 have q:=eZ sc.names n [] (.inl h);exact Ad.mp q
theorem UG{CX:CXT}{P:pK}{w:pM}{K:pD}{mg:pL->Option pF}{base:pP}{N ps:List pL}{qual:pL}{scope:rm}{f:pE}{cd:pF}{A:pN}{outer:List sy}{s s1:pG}{H:Hp}{E:XK}{us:List pF}{vs:List V}
  (S:zk N ps scope) (hd:A.handled=tJ) (e0:Env0 P w K mg base A outer s H) (hl:vs.length=ps.length) (r:Vals vs us)
  (x:InCallC s s⁻¹ (bindL (rX qual scope s⁻¹ f cd).kindOf (ps.zip us) λ_=>tJ) (cellsFrom (s⁻¹+1) scope.names []) (bindC (rX qual scope s⁻¹ f cd).kindOf (ps.zip us) λ_=>tJ) s1) :
  Inv (u8 CX P w K mg base N qual scope f cd A outer s H E) [] (start N vs) H s1:=by
 have hpl:ps.length<=N.length:=by have:=congrArg cF S.pre;rw[aF]at this;lia
 obtain⟨h1,tk,rfl,hk⟩:=x.done;have noA:∀b:pE,b ∉ (u8 CX P w K mg base N qual scope f cd A outer s H E).ex:=λb z=>absurd (show b ∈ ([]:List pE)from z) (by simp)
 refine#[#[e0.mod,S.kind,rfl,rfl,ak _,λy z c h1 h2=>?_,λy hy=>?_,λy c _ h=>?_,λ_=>hd,Around.frames_deeper e0.frames,.inr #[rfl,rfl],λb z=>absurd z (noA b),e0.bs,e0.bsz,λb _ _=>noA b,λb z=>absurd z (noA b),e0.funs,e0.frf],
  rfl,e0.bare,Un.kept hk,#[_,x.toInCall.ns,λi y v h1 h2 h3=>?_],λy c h=>#[_,x.cell y c h],e0.hok.fresh (ak _),λy c h=>?_,λp hp=>absurd (show p ∈ ([]:List (pE × rb))from hp) (by simp),e0.hok.kept hk,?_]
 ·exact name_of_addr x.apart (bV h1) (bV h2)
 ·have hy:scope.names.lookup y=tI .cell\/scope.names.lookup y=tI .free:=hy;rcases hy with hy | hy
  ·exact X4 hy
  ·exact absurd rfl (S.nofree _ (bV hy))
 ·exact dj (x.above y c (bV h))
 ·have hi:i<vs.length:=by
   unfold start at h2;by_cases hi:i<vs.length
   ·exact hi
   ·rw[cz (by simpa using hi)]at h2;rw[eS]at h2;split at h2 <;> cases h2
  have ha:vs[i]? = tI v:=by
   unfold start at h2;rw[df (by simpa using hi),aA]at h2
   cases e:vs[i]? with
   | none=>rw[e]at h2;cases h2
   | some a=>rw[e]at h2;cases h2;rfl
  obtain⟨u,hu,rv⟩:=r.get ha
  have hp:ps[i]? = tI y:=by
   rw[<- S.pre,dk ⋯];exact h1
  have ndP:ps.Nodup:=by rw[<- S.pre];exact S.nd.sublist (List.take_sublist _ _)
  refine#[u,rv,?_];rcases S.par y (ae hp)with k | k
  ·exact .inl #[k,ZY ndP hp hu k]
  ·obtain⟨c,e⟩:=X4 (n:=s⁻¹+1) k;refine .inr #[.inl k,c,e,?_];have q:=x.cell y c e;rw[ZA ndP hp hu (by show scope.names.lookup y≠_;rw[k];decide)]at q;exact q
 ·exact e0.hok.fresh (dj (x.above y c (bV h)))
 ·unfold start;show _=N.length;rw[ah,af,aO];lia
theorem Jc{CX:CXT}{P:pK}{w:pM}{K:pD}{mg:pL->Option pF}{base:pP}{k:Nat}{f:pE}{name qual:pL}{params:rO}{body:List pQ}{scope:rm}{dV kV doc pm cdv ct oc:pF}{an od:Option pE}
  {osl:Array (Option pF)} {N ps:List pL} {sp:Sp} (lk:K.lookup f=tI #[oc,od,.func (bz name qual params body scope dV kV doc pm an cdv ct),osl]) (hcd:bU K cdv qual=tK) (S:zk N ps scope)
  (len:∀vs H Q E,sp vs H Q E->vs.length=ps.length)
  (hbody:∀(A:pN) (outer:List sy) (s:pG) (H:Hp) (vs:List V) (Q:VK) (E:XK),Room k (A.deeper (rX qual scope s⁻¹ f cdv))->sp vs H Q E ->
   ∃t,PSs (u8 CX P w K mg base N qual scope f cdv A outer s H E) body t/\t { nx:=λ_ H'=>Q .non H',rt:=Q } (start N vs) H) :
  FnOk P w K mg base CX (k+1) f (bz name qual params body scope dV kV doc pm an cdv ct) ps sp:=by
 refine#[len,λA outer s H args us vs Q E hr e0 hb r hsp=>?_];have hl:=len _ _ _ _ hsp;have KX:K.In s.heap:=e0.mod.kin.keeps λb o e=>(e0.bs b o e).1;have lim:s.heap.NoLimit:=e0.mod.nolimit.keeps λb o e=>(e0.bs b o e).1
 have hkind:∀y ∈ ps.zip us,scope.names.lookup y.1=tI .local\/(scope.names.lookup y.1=tI .cell/\((cellsFrom (s⁻¹+1) scope.names []).lookup y.1).isSome=tK):=λ⟨n,v⟩ hy=>by
  rcases S.par n (de hy).1 with q | q
  ·exact .inl q
  ·exact .inr #[q,eZ _ _ _ (.inl q)]
 refine codeAny_call_function hr.depth (KX _ _ lk) rfl S.co S.gen rfl (PySem.W.codeRec_of KX hcd) (hb _ _ _ _ ?_);refine wpAny_newFunctionEnv_cells S.kind hkind λenv he s1 x=>?_;subst he;refine#[lim.keeps x.toInCall.keep,codeAny_func ?_];obtain⟨t,ht,hq⟩:=hbody A outer s H vs Q E (hr.deeper _) hsp;have I:Inv (u8 CX P w K mg base N qual scope f cdv A outer s H E) [] (start N vs) H s1:=UG S hr.hd e0 hl r x;refine rF (ht [] s1 (start N vs) H _ I hq) (λfl s' hs=>?_) λe s' hs=>hs
 have fin:∀{σ':St} {H':Hp} {v:V} {u:pF},Inv (u8 CX P w K mg base N qual scope f cdv A outer s H E) [] σ' H' s'->RelV v u->Q v H'->CE outer P w H s Q u s' :=
  λ{σ' H' v u} J rv q=>#[v,H',J.os,J.bare,J.base,J.hok,rv,q]
 cases fl with
 | ret u =>
  obtain⟨v,σ',H',J,rv,q⟩:=hs;exact fin J rv q
 | next =>
  obtain⟨σ',H',J,q⟩:=hs;exact fin (v:=V.non) (u:=Value.none) J rfl q
 | brk =>
  obtain⟨_,_,_,q⟩:=hs;exact False.elim q
 | cont =>
  obtain⟨_,_,_,q⟩:=hs;exact False.elim q
section
variable{X:Cx}{x:pL}{p pos:rB}{e:pO}{es:List pO}{t:TA}{id T:String}{r:List V->Hp->VK->Prop}
def tCB(r:List V->Hp->VK->Prop)(t:TA):TE:=λσ H Q=>t σ H λvs H1=>r vs H1 Q
theorem wg(hc:vL X (.builtin id) r)(hg:Gl X x)(hm:X.mg x=tJ)(hv:rf x=tI (.builtin id))(ha:PA X (e::es) t)(hn:x≠"__name__":=by decide)(hdb:(x ==("__debug__" : pL))=tL:=by decide)
  (he:pB (e::es) X.env=(tL,eval e X.env)::pB es X.env:=by rfl) (hpl:(pV pos (pB es X.env)).any (·.1)=tL:=by rfl):PE X (.Call (.Name x p) (e::es) [] pos) (tCB r t):=by
 intro tM s σ H Q I h;refine pY (wB I hg hm hv ?_ hn hdb);exact PyProof.Rows.callWith_builtin1 (thn (ha pos tM s σ H _ I h) λus s1 ⟨vs,H1,I1,r1,q1⟩=>hc tM s1 σ H1 vs us Q I1 r1 q1) he hpl
theorem xV(hc:vL X (.type T) r)(hg:Gl X x)(hm:X.mg x=tJ)(hv:rf x=tI (.type T))(ha:PA X (e::es) t)(hn:x≠"__name__":=by decide)(hdb:(x ==("__debug__" : pL))=tL:=by decide)
  (he:pB (e::es) X.env=(tL,eval e X.env)::pB es X.env:=by rfl) (hpl:(pV pos (pB es X.env)).any (·.1)=tL:=by rfl):PE X (.Call (.Name x p) (e::es) [] pos) (tCB r t):=by
 intro tM s σ H Q I h;refine pY (wB I hg hm hv ?_ hn hdb);exact bA (thn (ha pos tM s σ H _ I h) λus s1 ⟨vs,H1,I1,r1,q1⟩=>hc tM s1 σ H1 vs us Q I1 r1 q1) he hpl
end
end L2
namespace HT
open PySem PyProof.Rows
section
open PySem.SeqAt
open PySem.AutoSeq1 (wpAny_loadPart')
open PySem.MeetsSeq PySem.MeetsSeq2 PySem.MeetsSeq3
end
section
variable{prog:pK}{w:pM}{A:pN}{E:pF->pG->Prop}{s:pG}
noncomputable def sIx(n d:Nat):Option Int->Nat
 | none=>d
 | some v=>if v<0 then (v+(n:Int)).toNat else min v.toNat n
theorem sIx_none(n d:Nat):sIx n d tJ=d:=rfl
theorem sIx_nat(n d k:Nat):sIx n d (tI (k:Int))=min k n:=by
 show (if (k:Int)<0 then ((k:Int)+(n:Int)).toNat else min (k:Int).toNat n)=min k n;rw[if_neg ⋯,aZ]
theorem sIx_le(n d:Nat)(hd:d<=n)(o:Option Int):sIx n d o<=n:=by
 cases o with
 | none=>exact hd
 | some v =>
  show (if v<0 then (v+(n:Int)).toNat else min v.toNat n)<=n;by_cases hv:v<0
  ·rw[if_pos hv];lia
  ·rw[if_neg hv];exact Nat.min_le_right _ _
end
end HT
namespace L2
noncomputable abbrev TO:=St->Hp->(Option Int->Hp->Prop)->Prop
def PO(X:Cx)(e:Option pO)(t:TO):Prop :=
 ∀(tM:List (pE × rb)) (s:pG) (σ:St) (H:Hp) (Q:Option Int->Hp->Prop),Inv X tM σ H s->t σ H Q ->
  pJ (model X.prog X.w) X.A (evalPart e X.env) (λu s'=>∃o H',Inv X tM σ H' s'/\IsPart u o/\Q o H') X.xe s
def Zj:TO:=λ_ H Q=>Q tJ H
def Jt(t:TE):TO:=λσ H Q=>t σ H λx H1=>onInt x λi=>Q (tI i) H1
section
variable{X:Cx}{e:pO}{te:TE}{lo hi:Option pO}{tl th:TO}{pos p2:rB}
theorem yT:PO X tJ Zj:=by
 intro tM s σ H Q I h;rw[evalPart_none];exact pz #[tJ,H,I,.none,h]
theorem yb(h:PE X e te):PO X (tI e) (Jt te):=by
 intro tM s σ H Q I hw;rw[evalPart_some];refine thn (h tM s σ H _ I hw) λu s1 ⟨x,H1,I1,r1,q1⟩=>?_;obtain⟨i,rfl,q⟩:=onInt.of q1;obtain⟨t,rfl⟩:=r1;exact#[tI i,H1,I1,.int i t,q]
def SlR(X:Cx)(r:V->Option Int->Option Int->Hp->VK->Prop):Prop :=
 ∀(tM:List (pE × rb)) (s:pG) (σ:St) (H:Hp) (x:V) (v vl vu:pF) (lo hi:Option Int) (sl:pE) (Q:VK),Inv X tM σ H s->RelV x v->s.heap.IsSliceOf sl vl vu .none->IsPart vl lo->IsPart vu hi->r x lo hi H Q ->
  ∃T id,typeLookup (.type T) "__getitem__" = pure (tI (.builtin id))/\s.TypeIs v T/\pJ (model X.prog X.w) X.A (getItem v (.ref sl)) (EP X tM σ Q) X.xe s
def tSl(r:V->Option Int->Option Int->Hp->VK->Prop)(te:TE)(tl th:TO):TE:=λσ H Q=>te σ H λx H1=>tl σ H1 λl H2=>th σ H2 λu H3=>r x l u H3 Q
theorem z7{r:V->Option Int->Option Int->Hp->VK->Prop}(hr:SlR X r)(he:PE X e te)(hl:PO X lo tl)(hu:PO X hi th):PE X (.Subscript e (.Slice lo hi tJ p2) pos) (tSl r te tl th):=by
 intro tM s σ H Q I h;refine tD (thn (he tM s σ H _ I h) λv s1 ⟨x,H1,I1,r1,q1⟩=>?_);refine wpAny_Slice (thn (hl tM s1 σ H1 _ I1 q1) λvl s2 ⟨l,H2,I2,pl,q2⟩=>thn (hu tM s2 σ H2 _ I2 q2) λvu s3 ⟨u,H3,I3,pu,q3⟩=>?_);rw[evalPart_none];refine pz ?_;have I4:Inv X tM σ H3 { s3 with heap:=s3.heap.push { cls:=.type "slice",data:=.fields (List.toArray [vl,vu,.none]) } }:=I3.kept (t':=s3.toks) λb ob q=>aa _ q;obtain⟨T,id,hT,ht,hg⟩:=hr tM { s3 with heap:=s3.heap.push { cls:=.type "slice",data:=.fields (List.toArray [vl,vu,.none]) } } σ H3 x v vl vu l u s3⁻¹ Q I4 r1 (Heap.IsSliceOf.new ..) pl pu q3;show pJ (model X.prog X.w) X.A (sL e (.Slice lo hi tJ p2) v (.ref s3⁻¹)) (EP X tM σ Q) X.xe { s3 with heap:=s3.heap.push { cls:=.type "slice",data:=.fields (List.toArray [vl,vu,.none]) } };exact tail_any (ops:=[.ref s3⁻¹,v]) ht hT hg (by with_unfolding_all rfl)
noncomputable def zbk(xs:List V)(lo hi:Option Int):List V:=(xs.drop (HT.sIx xs.length 0 lo)).take (HT.sIx xs.length xs.length hi - HT.sIx xs.length 0 lo)
theorem Y4(xs:List V)(lo hi:Option Int):(zbk xs lo hi).length<=xs.length:=by
 unfold zbk;rw[aF,aW];lia
end
noncomputable def ixN(n:Nat)(i:Int):Option Nat:=if 0<=i then (if i<n then tI i.toNat else tJ)else if -(n:Int)<=i then tI (i+n).toNat else tJ
noncomputable def atI{α:Type}(xs:List α)(i:Int):Option α:=(ixN xs.length i).bind λj=>xs[j]?
theorem KO{n:Nat}{i:Int}{j:Nat}(h:ixN n i=tI j):seqIndex? i n=tI j/\j<n/\-(n:Int)<=i/\i<n:=by
 unfold ixN at h;by_cases h0:0<=i
 ·rw[if_pos h0]at h;by_cases h1:i<n
  ·rw[if_pos h1]at h;have e:i.toNat=j:=Option.some.inj h;exact#[by rw[seqIndex_of h0 h1,e],⋯,⋯,h1]
  ·rw[if_neg h1]at h;cases h
 ·rw[if_neg h0]at h;by_cases h1:-(n:Int)<=i
  ·rw[if_pos h1]at h;have e:(i+n).toNat=j:=Option.some.inj h;exact#[by rw[seqIndex_neg ⋯ h1,e],⋯,h1,⋯]
  ·rw[if_neg h1]at h;cases h
theorem Za{α:Type}{xs:List α}{i:Int}{v:α}(h:atI xs i=tI v):∃j,seqIndex? i xs.length=tI j/\xs[j]? = tI v/\j<xs.length/\-(xs.length:Int)<=i/\i<xs.length:=by
 unfold atI at h
 cases e:ixN xs.length i with
 | none=>rw[e]at h;cases h
 | some j =>
  rw[e]at h;obtain⟨h1,h2,h3,h4⟩:=KO e;exact#[j,h1,h,h2,h3,h4]
theorem jf{α:Type}{xs:List α}{j:Nat}{v:α}(h:xs[j]? = tI v):atI xs (j:Int)=tI v:=by
 have hj:j<xs.length:=(tP.mp h).1
 have e:ixN xs.length (j:Int)=tI j:=by
  unfold ixN;rw[if_pos ⋯,if_pos ⋯];simp
 unfold atI;rw[e];exact h
def U9(b:pO):Prop:=∀o i,subscripted b tL o i=operate [o,i] (getItem o i)
def IxR(X:Cx)(r:R2):Prop :=
 ∀(value slice:pO) (tM:List (pE × rb)) (s:pG) (σ:St) (H:Hp) (x y:V) (v u:pF) (Q:VK),Inv X tM σ H s->RelV x v->RelV y u->r x y H Q ->
  subscripted slice tL v u=operate [v,u] (getItem v u)->pJ (model X.prog X.w) X.A (sL value slice v u) (EP X tM σ Q) X.xe s
def MtR(X:Cx)(id:String)(r:V->List V->Hp->VK->Prop):Prop :=
 ∀(tM:List (pE × rb)) (s:pG) (σ:St) (H:Hp) (x:V) (xs:List V) (v:pF) (us:List pF) (Q:VK),Inv X tM σ H s->RelV x v->Vals xs us->r x xs H Q ->
  pJ (model X.prog X.w) X.A (call (.builtin id) (v::us)) (EP X tM σ Q) X.xe s
section
variable{X:Cx}{a b:pO}{ta tb:TE}{pos:rB}
theorem IxR.or{r r':R2}(h:IxR X r)(h':IxR X r'):IxR X (λx y H Q=>r x y H Q\/r' x y H Q):=by
 intro value slice tM s σ H x y v u Q I rx ry q hs;rcases q with q | q
 ·exact h value slice tM s σ H x y v u Q I rx ry q hs
 ·exact h' value slice tM s σ H x y v u Q I rx ry q hs
theorem zdO{r:R2}(hr:IxR X r)(ha:PE X a ta)(hb:PE X b tb)(hs:U9 b):PE X (.Subscript a b pos) (tOp r ta tb):=by
 intro tM s σ H Q I h;exact tD (zdq ha hb I h λv u s2 x y H2 I2 rx ry q=>hr a b tM s2 σ H2 x y v u Q I2 rx ry q (hs _ _))
def zcv(K:pD):R2:=λx y H Q=>onRef x λp=>onInt y λi=>∃xs,SqL K H p xs/\∃v,atI xs i=tI v/\Q v H
def qO(K:pD):R2:=λx y H Q=>onRef x λp=>onInt y λi=>∃xs,SqT K H p xs/\∃v,atI xs i=tI v/\Q v H
def za6:R2:=λx y H Q=>onStr x λz=>onInt y λi=>z.length<=pC/\∃c,atI z.cps.toList i=tI c/\Q (.str ⟨#[c]⟩) H
theorem ix_list:IxR X (zcv X.K):=by
 intro value slice tM s σ H x y v u Q I rx ry h hs;obtain⟨p,rfl,h2⟩:=onRef.of h;obtain⟨i,rfl,xs,hq,z,he,q⟩:=onInt.of h2;cases rx;obtain⟨t,rfl⟩:=ry;obtain⟨its,r,pl,hz⟩:=I.list hq;obtain⟨j,h1,h2,h3,h4,h5⟩:=Za he;obtain⟨w,ew,rw'⟩:=r.get h2;have hl:=r.length;have hn:=Yc;have fin:EP X tM σ Q w s:=#[z,H,I,rw',q];by_cases h0:0<=i
 ·have hj:i.toNat=j:=by
   rw[seqIndex_of h0 h5]at h1;exact Option.some.inj h1
  exact item_listR pl.isList h0 ⋯ (by rw[hj];simpa using ew) fin hs
 ·have hj:(i+(its.toArray.size:Int)).toNat=j:=by
   rw[seqIndex_neg ⋯ h4]at h1;rw[am,<- hl];exact Option.some.inj h1
  exact sw (x:=w) pl.isList.typeIs slot_list_getitem.lookup
   (wpAny_getItem_list_neg (Q:=λr s'=>r=w/\EP X tM σ Q r s') pl.isList ⋯ (by rw[am] <;> lia) ⋯ (by rw[hj];simpa using ew) #[rfl,fin]) hs
theorem ix_tup:IxR X (qO X.K):=by
 intro value slice tM s σ H x y v u Q I rx ry h hs;obtain⟨p,rfl,h2⟩:=onRef.of h;obtain⟨i,rfl,xs,hq,z,he,q⟩:=onInt.of h2;cases rx;obtain⟨t,rfl⟩:=ry;obtain⟨its,r,pl,hz⟩:=I.tuple hq;obtain⟨j,h1,h2,h3,h4,h5⟩:=Za he;obtain⟨w,ew,rw'⟩:=r.get h2;have hl:=r.length;have hn:=Yc;have fin:EP X tM σ Q w s:=#[z,H,I,rw',q]
 exact sw (x:=w) pl.typeIs slot_tuple_getitem.lookup
  (getItem_tuple (j:=j) (Q:=λr s'=>r=w/\EP X tM σ Q r s') pl ⋯ ⋯ (by rw[am,<- hl];exact h1) (by simpa using ew) #[rfl,fin]) hs
theorem Ve:IxR X za6:=by
 intro value slice tM s σ H x y v u Q I rx ry h hs;obtain⟨z,rfl,h2⟩:=onStr.of h;obtain⟨i,rfl,hz,c,he,q⟩:=onInt.of h2;obtain⟨t,rfl⟩:=rx;obtain⟨t',rfl⟩:=ry;obtain⟨j,h1,h2,h3,h4,h5⟩:=Za he;have hl:z.cps.toList.length=z.length:=by simp [Str.length]
 rw[hl]at h1 h4 h5;have hn:=Yc
 exact tail_any (typeIs_str s z t) slot_str_getitem.lookup (getItem_str (c:=c) (by
  have e1:decide (i < -(2 ^ 63:Int))=tL:=decide_eq_false ⋯;have e2:decide (i ≥ 2 ^ 63)=tL:=decide_eq_false ⋯
  rw[e1,e2,Bool.or_false]) (by rw[h1];simpa using h2) #[.str ⟨#[c]⟩,H,I.tok _,#[_,rfl],q]) hs
def rIx(K:pD):R2:=λx y H Q=>match x with | .ref p=>onInt y λi=>(∃xs,SqL K H p xs/\∃v,atI xs i=tI v/\Q v H)\/∃xs,SqT K H p xs/\∃v,atI xs i=tI v/\Q v H | .str z=>za6 (.str z) y H Q | _=>False
theorem rIx.of{K:pD}{x y:V}{H:Hp}{Q:VK}(h:rIx K x y H Q):zcv K x y H Q\/qO K x y H Q\/za6 x y H Q:=by
 unfold rIx at h;cases x <;> first | exact .inr (.inr h) | (obtain⟨i,rfl,h⟩:=onInt.of h;exact h.elim .inl λh=>.inr (.inl h)) | exact h.elim
theorem zc5:IxR X (rIx X.K):=λa b tM s σ H x y v u Q I rx ry h hs=>(ix_list.or (ix_tup.or Ve)) a b tM s σ H x y v u Q I rx ry h.of hs
theorem Inv.lst{tM:List (pE × rb)}{σ:St}{H:Hp}{s:pG}{p:pE}{xs:List V}(I:Inv X tM σ H s)(h:H p=tI (.lst xs)) :
  ∃(its:List pF) (n:Nat),Vals xs its/\s.heap.get? p=tI { cls:=.type "list",data:=.seq its.toArray n }/\xs.length<=pC:=by
 obtain⟨z,its,n,r,e⟩:=I.hok p _ h;exact#[its,n,r,e,z]
theorem Z9(lo hi:Option Int)(n:Nat):(sliceBounds lo hi tJ n).1=((HT.sIx n 0 lo:Nat):Int)/\(sliceBounds lo hi tJ n).2.1=((HT.sIx n n hi:Nat):Int)/\(sliceBounds lo hi tJ n).2.2=1:=by
 refine#[?_,?_,rfl]
 ·cases lo with
  | none=>simp [sliceBounds,HT.sIx]
  | some i =>
   erw[sliceBounds,HT.sIx,fV,show (1:Int) > 0 by decide,if_true]
   by_cases h:i<0
   ·erw[h,if_true] <;> lia
   ·erw[h,if_false] <;> lia
 ·cases hi with
  | none=>simp [sliceBounds,HT.sIx]
  | some i =>
   erw[sliceBounds,HT.sIx,fV,show (1:Int) > 0 by decide,if_true]
   by_cases h:i<0
   ·erw[h,if_true] <;> lia
   ·erw[h,if_false] <;> lia
theorem kN(its:List pF)(lo hi:Option Int):slicePick its.toArray lo hi tJ=((its.drop (HT.sIx its.length 0 lo)).take (HT.sIx its.length its.length hi - HT.sIx its.length 0 lo)).toArray:=by
 obtain⟨h1,h2,h3⟩:=Z9 lo hi its.toArray.size;unfold slicePick;rw[h1,h2,h3]
 erw[sliceRange_one,pick_run,am] <;> rfl
def zcC(K:pD):V->Option Int->Option Int->Hp->VK->Prop:=λx lo hi H Q=>onRef x λa=>∃xs,SqL K H a xs/\∀p,H p=tJ->Q (.ref p) (upd H p (.lst (zbk xs lo hi)))
theorem U5:SlR X (zcC X.K):=by
 intro tM s σ H x v vl vu lo hi sl Q I rx hs pl pu h;obtain⟨a,rfl,xs,hx,q⟩:=onRef.of h;cases rx;obtain⟨its,r,ht,hz⟩:=I.list hx;have hlen:=r.length;refine#["list",_,slot_list_getitem.lookup,ht.isList.typeIs,?_];refine wpAny_getItem_list_slice ht.isList hs pl pu .none (by simp) ?_ (by rw[am] <;> lia);rw[kN,<- hlen];refine#[.ref s⁻¹,_,I.laid (t':=s.toks) (o:=.lst (zbk xs lo hi)) (λb ob q=>aa _ q) (ak _) ?_,rfl,q _ (I.hok.fresh (ak _))];exact#[aN (Y4 xs lo hi) hz,_,0,(r.drop (HT.sIx xs.length 0 lo)).take (HT.sIx xs.length xs.length hi - HT.sIx xs.length 0 lo),aD _ rfl]
noncomputable def zcF:V->Bool
 | .non=>tK
 | .bl _=>tK
 | .int _=>tK
 | .str _=>tK
 | _=>tL
noncomputable def eqV:V->V->Bool
 | .non,.non=>tK
 | .bl a,.bl b=>a == b
 | .bl a,.int b=>(if a then 1 else 0) == b
 | .int a,.bl b=>a ==(if b then 1 else 0)
 | .int a,.int b=>a == b
 | .str a,.str b=>a == b
 | _,_=>tL
theorem Xq{A:pN}{s:pG}{y x:V}{u v:pF}(ry:RelV y u)(rx:RelV x v)(fy:zcF y=tK)(fx:zcF x=tK):SeqAt.EqAt A s u v (eqV y x):=by
 cases y with
 | non =>
  cases ry
  cases x with
  | non=>cases rx;exact SeqAt.EqAt.same _
  | bl b=>cases rx;exact SeqAt.EqAt.none_bool b
  | int b=>obtain⟨t,rfl⟩:=rx;exact SeqAt.EqAt.none_int b t
  | str b=>obtain⟨t,rfl⟩:=rx;exact SeqAt.EqAt.none_str b t
  | _=>exact absurd (show tL=tK from fx) aC
 | bl a =>
  cases ry
  cases x with
  | non=>cases rx;exact SeqAt.EqAt.bool_none a
  | bl b=>cases rx;exact SeqAt.EqAt.bool_bool a b
  | int b=>obtain⟨t,rfl⟩:=rx;exact SeqAt.EqAt.bool_int a b t
  | str b=>obtain⟨t,rfl⟩:=rx;exact SeqAt.EqAt.bool_str a b t
  | _=>exact absurd (show tL=tK from fx) aC
 | int a =>
  obtain⟨t',rfl⟩:=ry
  cases x with
  | non=>cases rx;exact SeqAt.EqAt.int_none a t'
  | bl b=>cases rx;exact SeqAt.EqAt.int_bool a t' b
  | int b=>obtain⟨t,rfl⟩:=rx;exact SeqAt.EqAt.int_int a t' b t
  | str b=>obtain⟨t,rfl⟩:=rx;exact SeqAt.EqAt.int_str a t' b t
  | _=>exact absurd (show tL=tK from fx) aC
 | str a =>
  obtain⟨t',rfl⟩:=ry
  cases x with
  | non=>cases rx;exact SeqAt.EqAt.str_none a t'
  | bl b=>cases rx;exact SeqAt.EqAt.str_bool a t' b
  | int b=>obtain⟨t,rfl⟩:=rx;exact SeqAt.EqAt.str_int a t' b t
  | str b=>obtain⟨t,rfl⟩:=rx;exact SeqAt.EqAt.str_str a t' b t
  | _=>exact absurd (show tL=tK from fx) aC
 | _=>exact absurd (show tL=tK from fy) aC
theorem xC:vL X (.type "list") (λxs H Q=>∃p ys,xs=[.ref p]/\(SqL X.K H p ys\/SqT X.K H p ys)/\∀l,H l=tJ->Q (.ref l) (upd H l (.lst ys))):=by
 intro tM s σ H xs us Q I r h;obtain⟨p,ys,rfl,hq,q⟩:=h;obtain⟨u,rfl,rx⟩:=wm r;cases rx
 have fin:∀(its:List pF),Vals ys its->ys.length<=pC->∀(h':pP) (c':Nat),(∀b o',s.heap.get? b=tI o'->h'.get? b=tI o') ->
   h'.get? s⁻¹=tI { cls:=.type "list",dict:=tJ,data:=.seq its.toArray c',slots:=#[] }->EP X tM σ Q (.ref s⁻¹) { s with heap:=h' }:=λits r' hz h' c' kp e =>
  #[.ref s⁻¹,_,I.laid (t':=s.toks) kp (ak _) (show ObjOk X.prog X.w _ h' _ (.lst ys)from #[hz,its,c',r',e]),rfl,q _ (I.hok.fresh (ak _))]
 rcases hq with hq | hq
 ·obtain⟨its,r',pl,hz⟩:=I.list hq;have hlen:=r'.length;obtain⟨o,ho,hc,n,hd⟩:=pl.isList;exact call_list_seq p (.inl rfl) ho hc hd (λh' c' kp e=>fin its r' hz h' c' kp e) (by erw[am] <;> lia)
 ·obtain⟨its,r',pl,hz⟩:=I.tuple hq;have hlen:=r'.length;obtain⟨o,ho,hc,n,hd⟩:=pl;exact call_list_seq p (.inr rfl) ho hc hd (λh' c' kp e=>fin its r' hz h' c' kp e) (by erw[am] <;> lia)
theorem Zf:vL X (.type "tuple") (λxs H Q=>∃p ys,xs=[.ref p]/\((SqL X.K H p ys/\∀l,H l=tJ->Q (.ref l) (upd H l (.tup ys)))\/(SqT X.K H p ys/\Q (.ref p) H))):=by
 intro tM s σ H xs us Q I r h;obtain⟨p,ys,rfl,h⟩:=h;obtain⟨u,rfl,rx⟩:=wm r;cases rx;rcases h with ⟨hq,q⟩ | ⟨hq,q⟩
 ·obtain⟨its,r',pl,hz⟩:=I.list hq;have hlen:=r'.length;refine call_tuple_list pl.isList (λh' kp=>?_) (by erw[am] <;> lia);have I1:Inv X tM σ H { s with heap:=h' }:=I.kept (t':=s.toks) kp
  have I2:Inv X tM σ (upd H h'.objs.size (.tup ys)) { s with heap:=h'.push { cls:=.type "tuple",data:=.seq its.toArray } } :=
   I1.laid (t':=s.toks) (λb o e=>aa _ e) (ak _) (show ObjOk X.prog X.w _ _ _ (.tup ys)from #[hz,its,r',IsTup.new _ _])
  exact#[.ref h'.objs.size,_,I2,rfl,q _ (I1.hok.fresh (ak _))]
 ·obtain⟨its,r',pl,hz⟩:=I.tuple hq;exact call_tuple_same pl #[.ref p,H,I,rfl,q]
def tyV(K:pD)(T:String)(x:V)(H:Hp):Prop:=match x with
 | .str _=>T="str"
 | .int _=>T="int"
 | .ref p=>(T="list"/\∃xs,SqL K H p xs)\/(T="tuple"/\∃o,K.lookup p=tI o/\o.cls=.type "tuple"/\o.dict=tJ) \/
   (T="dict"/\((∃kvs,H p=tI (.dK kvs))\/∃kvs,H p=tI (.dT kvs)))\/(T="set"/\∃S n,H p=tI (.set S n))
 | _=>False
theorem zbB{tM:List (pE × rb)}{σ:St}{H:Hp}{s:pG}{T:String}{x:V}{v:pF}(I:Inv X tM σ H s)(r:RelV x v)(ty:tyV X.K T x H) :
  s.TypeIs v T/\∀a,v=.ref a->∃ob,s.heap.get? a=tI ob/\ob.dict=tJ:=by
 cases x with
 | str z =>
  obtain⟨t,rfl⟩:=r;cases (show T="str" from ty);exact#[typeIs_str s z t,λ_ e=>nomatch e]
 | int i =>
  obtain⟨t,rfl⟩:=r;cases (show T="int" from ty);exact#[typeIs_int s i t,λ_ e=>nomatch e]
 | ref p =>
  cases r;rcases ty with ⟨rfl,xs,hq⟩ | ⟨rfl,o,hk,hc,hd⟩ | ⟨rfl,hk⟩ | ⟨rfl,S,n,hk⟩
  ·obtain⟨its,_,pl,_⟩:=I.list hq;refine#[pl.isList.typeIs,λa e=>?_];cases e;obtain⟨o,n,e,c,hd,_⟩:=pl;exact#[o,e,hd]
  ·refine#[#[o,I.kIn p o hk,hc],λa e=>?_];cases e;exact#[o,I.kIn _ o hk,hd]
  ·have z:∃o,s.heap.get? p=tI o/\o.ExactDict:=by
    rcases hk with ⟨kvs,hk⟩ | ⟨kvs,hk⟩
    ·obtain⟨_,_,_,_,o,_,_,e,ex,_⟩:=I.hok p _ hk;exact#[o,e,ex]
    ·obtain⟨_,_,_,_,o,_,_,e,ex,_⟩:=I.hok p _ hk;exact#[o,e,ex]
   obtain⟨o,e,ex⟩:=z;refine#[#[o,e,ex.1],λa e2=>?_];cases e2;exact#[o,e,ex.2.1]
  ·obtain⟨o,_,_,_,e,ex,_⟩:=I.hok p _ hk;refine#[#[o,e,ex.1],λa e2=>?_];cases e2;exact#[o,e,ex.2.1]
 | _=>exact False.elim ty
def tBM(K:pD)(T:String)(r:V->List V->Hp->VK->Prop)(to:TE)(t:TA):TE:=λσ H Q=>to σ H λx H1=>tyV K T x H1/\t σ H1 λxs H2=>r x xs H2 Q
variable{o e:pO}{es:List pO}{to:TE}{t:TA}{name:pL}{apos cpos:rB}{T id:String}{r:V->List V->Hp->VK->Prop}
theorem va(pa:PlainAttrs T)(slot:Slot T name id)(hty:typeOf (.builtin id)=pure (.type "method_descriptor"))(hm:MtR X id r)(ho:PE X o to)(ha:PA X (e::es) t)
  (hbase:attributeBase o name X.env (eval o X.env)=eval o X.env:=by rfl)
  (hfew:((pV cpos (pB (e::es) X.env)).all (λx=>!x.1) && (rg cpos (pT [] X.env)).all (λx=>x.1.isSome)
   && decide ((e::es).length+([]:List tz).length+(if ([]:List tz).isEmpty then 0 else 1)<30))=tK:=by rfl)
  (hline:(apos.endLine == cpos.line)=tK:=by rfl) (hs:pB (e::es) X.env=(tL,eval e X.env)::pB es X.env:=by rfl) (hplain:(pV cpos (pB es X.env)).any (·.1)=tL:=by rfl) :
  PE X (.Call (.Attribute o name apos) (e::es) [] cpos) (tBM X.K T r to t):=by
 intro tM s σ H Q I h;refine wpAny_Call_method_late hbase hfew hline rfl (thn (ho tM s σ H _ I h) λv s1 ⟨x,H1,I1,r1,ty,q1⟩=>?_);obtain⟨h1,h2⟩:=zbB I1 r1 ty;refine#[T,id,pa,slot,hty,h1,h2,?_];have hA:=ha cpos tM s1 σ H1 _ I1 q1;rw[hs]at hA ⊢;refine Calls.callWith_builtin (by show (tL || (pV cpos (pB es X.env)).any (·.1))=tL;rw[hplain] <;> rfl) (Calls.evalArgs_plain ?_);exact thn hA λus s2 ⟨vs,H2,I2,r2,q2⟩=>hm tM s2 σ H2 x vs v us Q I2 r1 r2 q2
/- xs.append(e),list.index on a module's tuple .. are MtR facts of 06m -/
end
def MtM(X:Cx)(id:String)(r:V->List V->Hp->VK->Prop):Prop :=
 ∀(tM:List (pE × rb)) (s:pG) (σ:St) (H:Hp) (x:V) (xs:List V) (v:pF) (us:List pF) (Q:VK),Inv X tM σ H s->RelV x v->Vals xs us->r x xs H Q ->
  pJ (model X.prog X.w) X.A (call (.builtin id) (v::us)) (EP X tM σ Q) X.xe s
theorem Vals.one:∀{x:V} {us:List pF},Vals [x] us->∃u,us=[u]/\RelV x u
 | _,_,.cons r .nil=>#[_,rfl,r]
theorem Vals.two:∀{x y:V} {us:List pF},Vals [x,y] us->∃u v,us=[u,v]/\RelV x u/\RelV y v
 | _,_,_,.cons r (.cons q .nil)=>#[_,_,rfl,r,q]
theorem Vals.zero:∀{us:List pF},Vals [] us->us=[]
 | _,.nil=>rfl
theorem Vals.eraseIdx:∀{xs:List V} {us:List pF} (i:Nat),Vals xs us->Vals (xs.eraseIdx i) (us.eraseIdx i)
 | _,_,_,.nil=>.nil
 | _,_,0,.cons _ t=>t
 | _,_,i+1,.cons r t=>.cons r (Vals.eraseIdx i t)
theorem Vals.reverse{xs:List V}{us:List pF}(h:Vals xs us):Vals xs.reverse us.reverse:=by
 induction h with
 | nil=>exact .nil
 | cons r t ih=>rw[List.reverse_cons,List.reverse_cons];exact Vals.append ih (.cons r .nil)
theorem Yb{α:Type}:∀(l:List α) (i:Nat),(l.eraseIdx i).length<=l.length
 | [],_=>ak _
 | _::_,0=>cw _
 | _::r,i+1=>Nat.succ_le_succ (Yb r i)
section
variable{X:Cx}{tM:List (pE × rb)}{σ:St}{H:Hp}{s:pG}{l b:pE}{xs ys zs:List V}
theorem Inv.lset{its its':List pF}{n:Nat}{f:Array pF->Array pF}{t':Nat}(I:Inv X tM σ H s)(hH:H l=tI (.lst xs))
  (e:s.heap.get? l=tI { cls:=.type "list",data:=.seq its.toArray n }) (hf:f its.toArray=its'.toArray) (hv:Vals ys its') (hz:ys.length<=pC) :
  Inv X tM σ (upd H l (.lst ys)) { s with heap:=s.heap.update l (Obj.mapSeq f),toks:=t' }:=by
 have q:=PySem.IsL.update e f;rw[hf]at q;refine I.write (x:=l) (e:=l) (by rw[hH];exact trivial) (.inl rfl) (λb' u hb hu=>(aH s.heap (Obj.mapSeq f) (Ne.symm hb)).trans hu) #[_,q] ?_;exact#[hz,its',_,hv,q]
theorem Inv.lnew{its:List pF}{t':Nat}(I:Inv X tM σ H s)(hv:Vals ys its)(hz:ys.length<=pC) :
  Inv X tM σ (upd H s⁻¹ (.lst ys)) { s with heap:=s.heap.push { cls:=.type "list",data:=.seq its.toArray },toks:=t' } :=
 I.laid (λ_ _ q=>aa _ q) (ak _) #[hz,its,0,hv,aD _ rfl]
theorem Inv.fresh(I:Inv X tM σ H s):H s⁻¹=tJ:=I.hok.fresh (ak _)
theorem Inv.lstM(I:Inv X tM σ H s)(hH:H l=tI (.lst xs)):xs.length<=pC/\∃(its:List pF) (n:Nat),Vals xs its/\xs.length=its.length/\s.heap.get? l=tI { cls:=.type "list",data:=.seq its.toArray n }:=by
 obtain⟨z,its,n,r,e⟩:=I.hok l _ hH;exact#[z,its,n,r,r.length,e]
theorem JH{n:Nat}(h:n<=pC):Builtin.List.listTooLong n=tL:=by
 unfold Builtin.List.listTooLong;exact decide_eq_false ⋯
end
section
variable{X:Cx}
def UC:V->List V->Hp->VK->Prop:=λx vs H Q=>onRef x λl=>match vs with | [y]=>∃xs,H l=tI (.lst xs)/\xs.length<pC/\Q .non (upd H l (.lst (xs ++ [y]))) | _=>False
theorem xq:MtM X "list.append" UC:=by
 intro tM s σ H x vs v us Q I rx rv h;obtain⟨l,rfl,h2⟩:=onRef.of h
 obtain⟨y,rfl,xs,hH,hz,q⟩:∃y,vs=[y]/\∃xs,H l=tI (.lst xs)/\xs.length<pC/\Q .non (upd H l (.lst (xs ++ [y]))):=by
  split at h2
  ·exact#[_,rfl,h2]
  ·exact h2.elim
 cases rx;obtain⟨u,rfl,ru⟩:=rv.one;obtain⟨z,its,n,r,hl,e⟩:=I.lstM hH;refine call_meets F.slot_list_append #[_,e,rfl] F.entry_list_append (F.args_list_append_2 _ _) (PySem.list_append l its.toArray n u (by rw[am];lia)) #[e,?_];refine#[.non,_,I.lset (its':=its ++ [u]) hH e (by simp) (r.append (.cons ru .nil)) ?_,rfl,q];rw[ah,e9];lia
def Ux:V->List V->Hp->VK->Prop:=λx vs H Q=>∃l b xs zs,x=.ref l/\vs=[.ref b]/\H l=tI (.lst xs)/\H b=tI (.lst zs)/\xs.length+zs.length<=pC/\Q .non (upd H l (.lst (xs ++ zs)))
theorem Zy:MtM X "list.extend" Ux:=by
 intro tM s σ H x vs v us Q I rx rv h;obtain⟨l,b,xs,zs,rfl,rfl,hH,hB,hz,q⟩:=h;cases rx;obtain⟨u,rfl,ru⟩:=rv.one;cases ru;obtain⟨z,its,n,r,hl,e⟩:=I.lstM hH;obtain⟨z2,its2,n2,r2,hl2,e2⟩:=I.lstM hB;have hsz:its.toArray.size+its2.toArray.size<=pC:=by rw[am,am];lia
 have hlong:¬ (!its.toArray.isEmpty && Builtin.List.listTooLong (its.toArray.size+its2.toArray.size))=tK:=by
  rw[JH hsz,fg];exact aC
 refine call_meets F.slot_list_extend #[_,e,rfl] F.entry_list_extend (F.args_list_extend_2 _ _)
  (AutoSeq1.list_extend_list_list_0 l its.toArray n b its2.toArray n2 hlong (by rw[am];lia) ⋯) #[e,e2,?_]
 refine#[.non,_,I.lset (its':=its ++ its2) hH e (by simp) (r.append r2) ?_,rfl,q];rw[ah];lia
def zc4:V->List V->Hp->VK->Prop:=λx vs H Q=>∃l xs i k y,x=.ref l/\vs=[.int i]/\H l=tI (.lst xs)/\-(2 ^ 63)<=i/\i<2 ^ 63/\seqIndex? i xs.length=tI k/\xs[k]? = tI y/\Q y (upd H l (.lst (xs.eraseIdx k)))
theorem JL:MtM X "list.pop" zc4:=by
 intro tM s σ H x vs v us Q I rx rv h;obtain⟨l,xs,i,k,y,rfl,rfl,hH,h1,h2,hk,hy,q⟩:=h;cases rx;obtain⟨u,rfl,ru⟩:=rv.one;obtain⟨t,rfl⟩:=ru;obtain⟨z,its,n,r,hl,e⟩:=I.lstM hH;obtain⟨w,hw,rw'⟩:=r.get hy
 refine call_meets F.slot_list_pop #[_,e,rfl] F.entry_list_pop (F.args_list_pop_2 _ _)
  (MeetsSeq.list_pop_at l its.toArray n i t k w (fitsIndex_both h1 h2) (by rw[am,<- hl];exact hk) (by rw[<- Array.getElem?_toList];exact hw) (by rw[am];lia)) #[e,?_]
 refine#[y,_,I.lset (its':=its.eraseIdx k) hH e ?_ (r.eraseIdx k) ?_,rw',q]
 ·show its.toArray.eraseIdxIfInBounds k=(its.eraseIdx k).toArray;rw[List.eraseIdxIfInBounds_toArray]
 ·have:=Yb xs k;lia
def zbj:R2:=λx y H Q=>onRef x λl=>onRef y λb=>∃xs,H l=tI (.lst xs)/\∃zs,H b=tI (.lst zs)/\xs.length+zs.length<=pC/\∀p,H p=tJ->Q (.ref p) (upd H p (.lst (xs ++ zs)))
theorem Wc:OpR X (binaryOp .Add) zbj:=by
 intro tM s σ H x y v u Q I rx ry h;obtain⟨l,rfl,h2⟩:=onRef.of h;obtain⟨b,rfl,xs,hH,zs,hB,hz,q⟩:=onRef.of h2;cases rx;cases ry;obtain⟨z,its,n,r,hl,e⟩:=I.lstM hH;obtain⟨z2,its2,n2,r2,hl2,e2⟩:=I.lstM hB;refine PySem.P.add_list e e2 ?_ (by rw[am,am];lia);have ea:its.toArray ++ its2.toArray=(its ++ its2).toArray:=by simp
 rw[ea];exact#[.ref _,_,I.lnew (t':=s.toks) (r.append r2) (by rw[ah];lia),rfl,q _ I.fresh]
theorem len_rep{α:Type}(xs:List α)(k:Nat):(al k xs).flatten.length=k * xs.length:=by
 induction k with
 | zero=>simp
 | succ k ih=>rw[bL,dw,ah,ih,eF,Nat.add_comm]
end
section
variable{prog:pK}{w:pM}{A:pN}{E:pF->pG->Prop}{s:pG}
end
section
variable{X:Cx}
end
end L2
namespace Att
open PySem PySem.W PySem.Calls PyProof.Rows
theorem qZ{P:Params}{h:pP}:∀(ns:List Int) (vs:List pF),WellAll P h vs (ns.map WData.int)->sX vs ns:=by
 intro ns
 induction ns with
 | nil =>
  intro vs w;rw[aL]at w;cases w;exact .nil
 | cons n ns ih =>
  intro vs w;rw[ar]at w
  cases w with
  | cons a b =>
   cases a;exact .cons _ _ (ih _ b)
theorem script_of{l:OpenLaw}{n:Nat}(hn:l.most=tI n){P:Params}{h:pP}{args:List WData}{vals:List pF}
  (hpre:l.row.toRowW.claim.pre args=tK) (hwl:WellAll P h vals args) :
  ∃a vs ns,vals=[Value.ref a]/\args=[WData.list (ns.map WData.int)]/\h.get? a=tI { cls:=.type "list",data:=.seq vs.toArray }/\sX vs ns/\ns.length<=n:=by
 have hsh:WShape.hasAll [] args [.list .int]=tK:=(pre_splitW hpre).1;have hc:l.pre.holds [] { args:=args }=tK:=(pre_splitW hpre).2;obtain⟨d,r,rfl,h1,h2⟩:=hasAllW_cons hsh;obtain rfl:=hasAllW_nil h2;obtain⟨xs,rfl,h3⟩:=hasW_list h1;obtain⟨ns,rfl⟩:=items_int h3
 have hlen:ns.length<=n:=by
  unfold OpenLaw.pre at hc
  have h4:(WTm.not (.lt (.lit (.int (n:Int))) (.len (.arg 0)))).holds [] { args:=[.list (ns.map .int)] }=tK:=by
   have h4:=(holds_andW hc).1;rw[hn]at h4;exact h4
  have h5:=condW_of h4 (w_not (w_lt w_lit (w_len_list (w_arg rfl))));rw[af]at h5;refine cY λq=>?_;have q':(n:Int)<((ns.length:Nat):Int):=⋯
  first
   | (rw[decide_eq_true q']at h5;exact absurd h5 ∅)
   | (simp at h5;lia)
 cases hwl with
 | cons w1 w2 =>
  cases w2
  cases w1 with
  | list ho hall=>exact#[_,_,ns,rfl,rfl,ho,qZ ns _ hall,hlen]
theorem post_true(l:OpenLaw)(args:List WData):l.row.toRowW.claim.post args (.bool tK) args=tK :=
 postW_of (r:=l.row.toRowW) (X:=(tK == tK))
  (show WShape.has [] (.bool tK) .bool=tK by first | rfl | decide | simp [WShape.has,WShape.arms,WShape.armsAll])
  (show (WTm.eq .res (.lit (.bool tK))).value [] { args:=args,res:=tI (.bool tK),after:=args }=tI (.bool (tK == tK))from w_eq_bool (w_res rfl) w_lit) rfl
section
variable{prog:pK}{w:pM}{A:pN}{E:pF->pG->Prop}{s:pG}{K:Frag}
noncomputable def zey(h:pP)(L d:pE):List (pE × rb):=(aV h.objs.size).filterMap λa=>if a=L\/a=d then tJ else (h.get? a).map λo=>(a,o)
end
end Att
namespace L2
theorem ZO:∀{vs:List pF} {ns:List Int},sX vs ns->Vals (ns.map V.int) vs
 | _,_,.nil=>.nil
 | _,_,.cons n t h=>.cons #[t,rfl] (ZO h)
noncomputable def yZ(s:pQ)(j:Nat):pQ:=match s with
 | .ClassDef _ _ _ body _ _ _ _ _ _ _=>body.getD j (.Pass #[0,0,0,0])
 | _=>.Pass #[0,0,0,0]
noncomputable def yD(s:pQ):rO:=match s with
 | .FunctionDef _ a _ _ _ _ _ _ _ _=>a
 | _=>{ posonlyargs:=[],args:=[],vararg:=tJ,kwonlyargs:=[],kw_defaults:=[],kwarg:=tJ,defaults:=[] }
noncomputable def z9(s:pQ):List pQ:=match s with
 | .FunctionDef _ _ b _ _ _ _ _ _ _=>b
 | _=>[]
noncomputable def zh(s:pQ):rm:=match s with
 | .FunctionDef _ _ _ _ _ _ sc _ _ _=>sc
 | _=>{ kind:=.function,names:=[],isGenerator:=tL,isCoroutine:=tL }
abbrev CX0:CXT:=λ_ _ _ _ _ _=>False
noncomputable abbrev E0:XK:=λ_ _ _=>False
theorem YU{X:Cx}:uG CX0 X E0:=λ_ _ _ _ _ _ _ h=>h.elim
structure Fun(K:pD)(x qual:pL)(st:pQ)(f:pE)(fd:pH):Prop where
 ex:∃(oc:pF) (od:Option pE) (kV doc pm:pF) (an:Option pE) (cdv ct:pF) (osl:Array (Option pF)),
  fd=bz x qual (yD st) (z9 st) (zh st) .none kV doc pm an cdv ct/\K.lookup f=tI #[oc,od,.func fd,osl]/\bU K cdv qual=tK
 kp:aJ K (.ref f)=tK
section
variable{P:pK}{w:pM}{K:pD}{mg:pL->Option pF}{base:pP}
theorem Fun.ok{x qual:pL}{st:pQ}{f:pE}{fd:pH}{N ps:List pL}{k:Nat}{sp:Sp}(F:Fun K x qual st f fd)(S:zk N ps (zh st))(len:∀vs H Q E,sp vs H Q E->vs.length=ps.length)
  (hbody:∀(cdv:pF) (A:pN) (outer:List sy) (s:pG) (H:Hp) (vs:List V) (Q:VK) (E:XK),Room k (A.deeper (rX qual (zh st) s⁻¹ f cdv))->sp vs H Q E ->
   ∃t,PSs (u8 CX0 P w K mg base N qual (zh st) f cdv A outer s H E).nox (z9 st) t/\t { nx:=λ_ H'=>Q .non H',rt:=Q } (start N vs) H):FnOk P w K mg base CX0 (k+1) f fd ps sp:=by
 obtain⟨oc,od,kV,doc,pm,an,cdv,ct,osl,rfl,lk,hcd⟩:=F.ex;refine Jc lk hcd S len λA outer s H vs Q E hr hsp=>?_;obtain⟨t,h,q⟩:=hbody cdv A outer s H vs Q E hr hsp;exact#[t,h.nox,q]
theorem Fun.binds{x qual:pL}{st:pQ}{f:pE}{fd:pH}{ps:List pL}(F:Fun K x qual st f fd)
  (h:∀(kV doc pm:pF) (an:Option pE) (cdv ct:pF) (us:List pF),us.length=ps.length->bindArgs (bz x qual (yD st) (z9 st) (zh st) .none kV doc pm an cdv ct) #[us,[]]=pure (ps.zip us)):Binds K fd ps []:=by
 obtain⟨oc,od,kV,doc,pm,an,cdv,ct,osl,rfl,lk,hcd⟩:=F.ex;exact .all (h kV doc pm an cdv ct)
theorem fun_mk{x qual:pL}{st:pQ}{f:pE}{oc:pF}{od an:Option pE}{osl:Array (Option pF)}{kV doc pm cdv ct:pF}(l:K.lookup f=tI #[oc,od,.func (bz x qual (yD st) (z9 st) (zh st) .none kV doc pm an cdv ct),osl])
  (c:bU K cdv qual=tK) (k:aJ K (.ref f)=tK):Fun K x qual st f (bz x qual (yD st) (z9 st) (zh st) .none kV doc pm an cdv ct):=#[#[oc,od,kV,doc,pm,an,cdv,ct,osl,rfl,l,c],k]
end
section
variable{X:Cx}
theorem pv(i:Nat){x:pL}{pos:rB}(hN:X.N[i]? = tI x:=by rfl)(hv:Vis X.env.scope x:=by first | exact Or.inl rfl | exact Or.inr (.inl rfl) | exact Or.inr (Or.inr rfl))(hd:(x ==("__debug__" : pL))=tL:=by decide)
  (hcd:(x ==("__classdict__" : pL))=tL:=by decide):PE X (.Name x pos) (yf i):=zcj hN hv hd hcd
end
theorem zeE{A B:Prop}(h:A):if tK=tK then A else B:=by
 rw[if_pos rfl];exact h
theorem yM{c A B:Prop}[Decidable c](h1:c->A)(h2:¬ c->B):if c then A else B:=by
 by_cases h:c
 ·rw[if_pos h];exact h1 h
 ·rw[if_neg h];exact h2 h
def Same(H H':Hp):Prop:=∀b o,H b=tI o->H' b=tI o
theorem Same.refl(H:Hp):Same H H:=λ_ _ h=>h
theorem Same.trans{H H1 H2:Hp}(a:Same H H1)(b:Same H1 H2):Same H H2:=λc o h=>b c o (a c o h)
theorem Same.free{H H':Hp}(e:Same H H'){l:pE}(h:H' l=Option.none):H l=Option.none:=by
 cases q:H l with
 | none=>rfl
 | some o =>
  rw[e l o q]at h;cases h
theorem Same.seq{K:pD}{H H':Hp}{a:pE}{xs:List V}(e:Same H H')(h:SqL K H a xs):SqL K H' a xs:=by
 rcases h with (h | ⟨o,h⟩) | h
 ·exact .inl (.inl (e _ _ h))
 ·exact .inl (.inr #[o,e _ _ h])
 ·exact .inr h
end L2
open L2
namespace L3
noncomputable abbrev St:=L2.St
noncomputable abbrev cs(x:pL):():=x.cps.toList
noncomputable abbrev tx(l:()):pL:=⟨l.toArray⟩
theorem zcq(x:pL):tx (cs x)=x:=by cases x;rfl
theorem YH(l:()):cs (tx l)=l:=rfl
theorem Wg(x:pL):x.length=(cs x).length:=by simp [Str.length,cs]
theorem zS(l:()):(tx l).length=l.length:=by simp [Str.length,tx]
theorem Zs{x y:pL}(h:cs x=cs y):x=y:=by rw[<- zcq x,<- zcq y,h]
theorem uL{l m:()}(h:tx l=tx m):l=m:=by rw[<- YH l,<- YH m,h]
theorem zcK{l m:()}:tx l=tx m ↔ l=m:=#[uL,λh=>by rw[h]]
theorem wQ(l m:()):tx l ++ tx m=tx (l ++ m):=by
 apply Zs;show (tx l ++ tx m).cps.toList=l ++ m;rw[Str.cps_append];simp
noncomputable def cut{α:Type}(l:List α)(lo hi:Option Int):List α:=(l.drop (HT.sIx l.length 0 lo)).take (HT.sIx l.length l.length hi - HT.sIx l.length 0 lo)
theorem wG{α:Type}(l:List α)(lo hi:Option Int):(cut l lo hi).length<=l.length:=by
 unfold cut;rw[aF,aW];lia
theorem VB(a b:Nat):sliceRange (a:Int) (b:Int) 1=(aV (b - a)).map (λk=>a+k):=by
 unfold sliceRange
 have e:(if (1:Int) > 0 then (if (a:Int)<b then ((b:Int) - a+1 - 1) / 1 else 0)else (if (a:Int) > b then ((a:Int) - b - 1 - 1) / (-1)else 0)).toNat=b - a:=by
  rw[if_pos ∅];by_cases h:(a:Int)<b
  ·rw[if_pos h,Int.ediv_one];lia
  ·rw[if_neg h];lia
 show (aV ((if (1:Int) > 0 then (if (a:Int)<b then ((b:Int) - a+1 - 1) / 1 else 0)else (if (a:Int) > b then ((a:Int) - b - 1 - 1) / (-1)else 0)).toNat)).map _=_;rw[e];refine bu λk _=>?_;lia
theorem zbc(lo hi:Option Int)(n:Nat):Builtin.Str.strSliceIndices lo hi 1 n=(aV (HT.sIx n n hi - HT.sIx n 0 lo)).map (λk=>HT.sIx n 0 lo+k):=by
 rw[<- VB]
 have clip:∀(v:Int) (d:Nat),max 0 (min (if v<0 then v+(n:Int)else v) (n:Int))=((HT.sIx n d (tI v):Nat):Int):=λv d=>by
  show _=(((if v<0 then (v+(n:Int)).toNat else min v.toNat n):Nat):Int);by_cases hv:v<0
  ·erw[if_pos hv];lia
  ·erw[if_neg hv];lia
 have h1:((1:Int) > 0)=True:=by simp
 unfold Builtin.Str.strSliceIndices
 cases lo with
 | none =>
  cases hi with
  | none=>erw[h1,if_true];rfl
  | some j=>erw[h1,if_true,clip j n];rfl
 | some i =>
  cases hi with
  | none=>erw[h1,if_true,clip i 0];rfl
  | some j=>erw[h1,if_true,clip i 0,clip j n]
theorem V0(x:pL)(lo hi:Option Int):Txt.slice x lo hi=tx (cut (cs x) lo hi):=by
 have hn:x.length=x.cps.toList.length:=Wg x;have hj:HT.sIx x.length x.length hi<=x.length:=HT.sIx_le _ _ (ak _) hi;have hi0:HT.sIx x.length 0 lo<=x.length:=HT.sIx_le _ _ (aE _) lo;unfold Txt.slice;rw[zbc];split
 ·rename_i h;have h':HT.sIx x.length x.length hi - HT.sIx x.length 0 lo=x.length:=by simpa using h
  apply Zs;show x.cps.toList=cut x.cps.toList lo hi;unfold cut;rw[<- hn];by_cases z:x.length=0
  ·have:x.cps.toList=[]:=dO ⋯;rw[this];simp
  ·have e0:HT.sIx x.length 0 lo=0:=⋯;rw[e0]at h' ⊢;rw[h',dZ,hn,aP]
 ·apply Zs;have h:=StrLaws.picks x.cps.toList (HT.sIx x.length x.length hi - HT.sIx x.length 0 lo) (HT.sIx x.length 0 lo) ⋯;show (List.filterMap (λk=>x.cps[k]?) _).toArray.toList=cut x.cps.toList lo hi;unfold cut;rw[<- hn];simpa using h
section
variable{X:Cx}
theorem Ql{v:pF}{o:Option Int}(p:IsPart v o):∃l:Option (Int × rZ),v=partValue l/\l.map (·.1)=o:=by
 cases p with
 | none=>exact#[tJ,rfl,rfl]
 | int i t=>exact#[tI (i,t),rfl,rfl]
def zbL:V->Option Int->Option Int->Hp->VK->Prop:=λx lo hi H Q=>onStr x λz=>z.length<=pC/\Q (.str (tx (cut (cs z) lo hi))) H
theorem xB:SlR X zbL:=by
 intro tM s σ H x v vl vu lo hi sl Q I rx hs pl pu h;obtain⟨z,rfl,hz,q⟩:=onStr.of h;obtain⟨t,rfl⟩:=rx;obtain⟨l,rfl,el⟩:=Ql pl;obtain⟨u,rfl,eu⟩:=Ql pu;refine#["str",_,slot_str_getitem.lookup,typeIs_str s z t,?_];refine sq (l:=l) (u:=u) (st:=tJ) hs rfl ?_;have e:Txt.slice z lo hi=tx (cut (cs z) lo hi):=V0 z lo hi;have hl:(tx (cut (cs z) lo hi)).length<=pC:=by rw[zS];have:=wG (cs z) lo hi;rw[<- Wg]at this;lia
 unfold sliceMade slicePicked;rw[el,eu];unfold Txt.slice at e;by_cases hc:((1:Int) == 1 && (Builtin.Str.strSliceIndices lo hi 1 z.length).length == z.length)=tK
 ·rw[if_pos hc]at e;have hc':(((tJ:Option (Int × rZ)).map (·.1)).getD 1 == 1 && (Builtin.Str.strSliceIndices lo hi (((tJ:Option (Int × rZ)).map (·.1)).getD 1) z.length).length == z.length)=tK:=hc;rw[if_pos hc'];exact#[.str (tx (cut (cs z) lo hi)),H,I,#[t,by rw[<- e]],q]
 ·rw[if_neg hc]at e;have hc':¬ (((tJ:Option (Int × rZ)).map (·.1)).getD 1 == 1 && (Builtin.Str.strSliceIndices lo hi (((tJ:Option (Int × rZ)).map (·.1)).getD 1) z.length).length == z.length)=tK:=hc;rw[if_neg hc'];show (Str.mk ((Builtin.Str.strSliceIndices lo hi 1 z.length).filterMap (z.cps[·]?)).toArray).length<=pC/\_;rw[e];refine#[hl,?_]
  exact#[.str (tx (cut (cs z) lo hi)),H,I.tok _,#[_,by
   show Value.str (Str.mk ((Builtin.Str.strSliceIndices lo hi 1 z.length).filterMap (z.cps[·]?)).toArray) _=_
   rw[e]],q]
theorem Xm(l:()):∀(k:Nat) (tO:Array Nat),((al k l.toArray).foldl (· ++ ·) tO).toList=tO.toList ++ (al k l).flatten
 | 0,tO=>by simp
 | k+1,tO=>by
  rw[bL,List.foldl_cons,Xm l k,bL,dw];simp
theorem WA:OpR X (binaryOp .Mult) (λx y H Q=>∃z n,x=.str z/\y=.int n/\0<=n/\n<=1000/\z.length<=1000/\Q (.str (tx (al n.toNat (cs z)).flatten)) H):=by
 intro tM s σ H x y v u Q I rx ry h;obtain⟨z,n,rfl,rfl,h0,h1,hz,q⟩:=h;obtain⟨t,rfl⟩:=rx;obtain⟨t',rfl⟩:=ry;have hs:pC=16777216:=pZ;have hmul:z.length * n.toNat<=1000 * 1000:=fh hz ⋯;have fl:((al n.toNat (cs z)).flatten).length=n.toNat * z.length:=by rw[L2.len_rep,<- Wg]
 refine PySem.P.mul_str ?_ (λ_ _=>?_) (λ_ _=>?_) ?_
 ·rw[decide_eq_false ⋯,decide_eq_false ⋯];rfl
 ·have:(1000:Int)<=(2 ^ 63 - 1) / n:=by
   apply Int.le_ediv_of_mul_le ⋯;lia
  lia
 ·unfold Builtin.Str.tooLong;exact decide_eq_false ⋯
 ·by_cases c1:n<1
  ·rw[if_pos c1];have e:n.toNat=0:=⋯;rw[e]at q;exact#[∅,.str (tx []),H,I.tok _,#[_,rfl],q]
  ·rw[if_neg c1];by_cases c2:(n == 1 || z.length == 0)=tK
   ·rw[if_pos c2]
    have e:tx (al n.toNat (cs z)).flatten=z:=by
     rw[Bool.or_eq_true]at c2;rcases c2 with c | c
     ·have:n.toNat=1:=by have:=eq_of_beq c;lia
      rw[this]
      erw[List.replicate_one,List.flatten_singleton]
     ·have c0:z.length=0:=eq_of_beq c;have:cs z=[]:=dO (by rw[<- Wg];exact c0);apply Zs;rw[this];show (al n.toNat ([]:())).flatten=[]
      erw[List.flatten_replicate_nil]
    rw[e]at q;exact#[.str z,H,I,#[_,rfl],q]
   ·rw[if_neg c2]
    have e:(⟨(al n.toNat z.cps).foldl (· ++ ·) #[]⟩:pL)=tx (al n.toNat (cs z)).flatten:=by
     apply Zs;have:=Xm (cs z) n.toNat #[];have e2:(cs z).toArray=z.cps:=by cases z;rfl
     rw[e2]at this;show (List.foldl (· ++ ·) #[] (al n.toNat z.cps)).toList=(al n.toNat (cs z)).flatten;rw[this];rfl
    rw[e];refine#[by rw[zS,fl,Nat.mul_comm];lia,.str _,H,I.tok _,#[_,rfl],q]
theorem US:OpR X (pR .LtE) (λx y H Q=>∃i j,x=.str i/\y=.str j/\Q (.bl (!(decide (cs j<cs i)))) H):=by
 intro tM s σ H x y v u Q I rx ry h;obtain⟨i,j,rfl,rfl,q⟩:=h;obtain⟨t,rfl⟩:=rx;obtain⟨t',rfl⟩:=ry;exact PySem.P.le_str #[.bl _,H,I,rfl,q]
theorem op_lt_str':OpR X (pR .Lt) (λx y H Q=>∃i j,x=.str i/\y=.str j/\Q (.bl (decide (cs i<cs j))) H):=Uz
theorem Jj:MtR X "str.count" (λx xs H Q=>∃z y,x=.str z/\xs=[.str y]/\Q (.int (Txt.count z y)) H):=by
 intro tM s σ H x xs v us Q I rx rv h;obtain⟨z,y,rfl,rfl,q⟩:=h;obtain⟨t,rfl⟩:=rx;obtain⟨u,rfl,t',rfl⟩:=wm rv;exact PySem.SC.count #[.int _,H,I.tok _,#[_,rfl],q]
end
section
variable{X:Cx}{tM:List (pE × rb)}{σ:St}{H:Hp}{s:pG}{fp:List pE}{h':pP}{t':Nat}
theorem Inv.turns(I:Inv X tM σ H s)(k:∀b o,b ∉ fp->s.heap.get? b=tI o->h'.get? b=tI o)(hf:∀b ∈ fp,wa X tM H b):Inv X tM σ H { s with heap:=h',toks:=t' }:=by
 have nit:∀b u,H b=tI u->b ∉ fp:=λb u e z=>by rw[(hf b z).1]at e;cases e
 refine I.step (g':=s.gens) (d':=s.drawn) (ch:=fp) (λb hb=>?_) (λb o _ _ hc e _=>k b o hc e) (λb o _ _ hc e _=>#[o.slots,k b o hc e]) (λ_ _ _ _ n=>n)
  (λb o hc e=>#[o,k b o hc e]) (λ_ _ e=>e) (λ_ _ _ e=>e) (λb ps e=>#[#[],by rw[e];simp]) (λm hm=>?_) (λb u e=>?_) I.bare
 ·obtain⟨_,a1,_,a3,a4,a5⟩:=hf b hb;exact#[a3,a1,a4,a5]
 ·obtain⟨o,es,ep,ho,r⟩:=hm;exact#[o,es,ep,k _ o (λz=>(hf _ z).2.1 rfl) ho,r]
 ·refine (I.hok b u e).stay (λc v hc q=>k c v ?_ q) (λ_ q=>q) λ_ _ q=>q;rcases hc with z | z
  ·rw[z];exact nit b u e
  ·exact nit c _ z
theorem Inv.track{a:pE}{o:HO}(I:Inv X tM σ H s)(fa:wa X tM H a)(new:ObjOk X.prog X.w (upd H a o) s.heap a o):Inv X tM σ (upd H a o) s:=by
 obtain⟨a0,a1,a2,a3,a4,a5⟩:=fa;have e:s={ s with heap:=s.heap,gens:=s.gens,drawn:=s.drawn,toks:=s.toks }:=rfl;rw[e]
 refine I.step (g':=s.gens) (d':=s.drawn) (ch:=[a]) (λb hb=>?_) (λb o _ _ _ e _=>e) (λb o _ _ _ e _=>#[o.slots,e]) (λb o hc _ n=>?_)
  (λb o _ e=>#[o,e]) (λb xs e=>?_) (λb u xs e=>?_) (λb ps e=>?_) (λm hm=>hm) (λb u e=>?_) I.bare
 ·have eb:b=a:=by simpa using hb
  subst eb;exact#[a3,a1,a4,a5]
 ·rw[zo (by simpa using hc)];exact n
 ·rw[zo (zF e a0)];exact e
 ·rw[zo (zF e a0)];exact e
 ·exact#[#[],by rw[zo (zF e a0),e];simp]
 ·by_cases hb:b=a
  ·subst hb;rw[zc]at e;cases e;exact new
  ·rw[zo hb]at e;exact (I.hok b u e).stay (λc v _ q=>q) (λc q=>by rw[zo (zF q a0)];exact q) λc xs q=>by rw[zo (zF q a0)];exact q
end
noncomputable def Its(x:pL):It:=#[λi _=>i<(cs x).length,λi H v H'=>H'=H/\∃c,(cs x)[i]? = tI c/\v=.str (tx [c]),λi _=>i=(cs x).length]
theorem Jv{P:pK}{w:pM}{K:pD}{tg:pO}{ty:String}(hty:["enumerate","zip","dict_itemiterator","dict_reverseitemiterator","odict_iterator","itertools.zip_longest","itertools.pairwise"].contains ty=tL)(it:pE)(x:pL)(t:rZ)
  (W:∀A:pN,A.handled=tJ->Walks P w A it [it] [it] x.cps.size (SignAt x) λi h=>h.IsStrIter it ty x t i)
  (S:∀(A:pN) (i:Nat) (s:pG) (Q:pF->pG->Prop) (E:pF->pG->Prop),s.heap.IsStrIter it ty x t i->Q (.ref it) s->pJ (model P w) A (pyIter (.ref it)) Q E s) :
  Qu P w K tg (Its x) [it] it (λi h=>h.IsStrIter it ty x t i) where
 mem:=by simp
 obj:=λi h st b hb=>by
  have e:b=it:=by simpa using hb
  subst e;obtain⟨o,e,c,d⟩:=st;exact#[o,e,λv z=>by rw[d]at z;cases z]
 keep:=λi h h' st k=>let #[o,e,r]:=st; #[o,k it (by simp) o e,r]
 item:=by
  intro X hP hw hK hc i tM s σ H E I hf st hg;subst hP hw hK;obtain⟨f0,f1,f2,f3,f4,f5⟩:=hf it (by simp);have hg':i<x.cps.size:=by have:i<x.cps.toList.length:=hg;simpa using this
  refine (W X.A (I.ok.hd hc)).item i s _ _ hg' st λv h' tk hv st' kk=>?_;obtain⟨c,u,hcc,rfl⟩:=hv;have I1:Inv X tM σ H { s with heap:=h',toks:=tk }:=I.turned (λb o hb e=>kk b o (by simpa using hb) e) f0 f1 f3 f4 f5;obtain⟨o,e,cl,d⟩:=id st';refine#[_,rfl,Qe (s:={ s with heap:=h',toks:=tk }) e cl d hty #[.str (tx [c]),H,I1,#[u,rfl],#[rfl,c,?_,rfl],st',λb hb=>(hf b hb).1]];show x.cps.toList[i]? = tI c;simpa using hcc
 done:=by
  intro X hP hw hK hc i tM s σ H E I hf st hg;subst hP hw hK;obtain⟨f0,f1,f2,f3,f4,f5⟩:=hf it (by simp);have hi:i=x.cps.size:=by have:i=x.cps.toList.length:=hg;simpa using this
  rw[hi]at st;exact (W X.A (I.ok.hd hc)).done s _ _ st λh' tk kk=>#[rfl,I.turned (λb o hb e=>kk b o (by simpa using hb) e) f0 f1 f3 f4 f5]
 self:=λA i s Q E st h=>S A i s Q E st h
section
variable{X:Cx}{tg:pO}
def zdA(tl:TE):TI:=λσ H R=>tl σ H λv H1=>∃x,v=.str x/\R (Its x) H1
theorem Wq{l:pO}{tl:TE}(hl:PE X l tl):PI X tg l (zdA tl):=by
 intro tM s σ H R I h;refine thn (hl tM s σ H _ I h) λv s1 ⟨y,H1,I1,r1,q1⟩=>?_;obtain⟨x,e,q⟩:=q1;subst e;obtain⟨t,rfl⟩:=r1
 have fin:∀(ty:String) (hty:["enumerate","zip","dict_itemiterator","dict_reverseitemiterator","odict_iterator","itertools.zip_longest","itertools.pairwise"].contains ty=tL)
   (W:∀A:pN,A.handled=tJ->Walks X.prog X.w A s1⁻¹ [s1⁻¹] [s1⁻¹] x.cps.size (SignAt x) λi h=>h.IsStrIter s1⁻¹ ty x t i)
   (S:∀(A:pN) (i:Nat) (s:pG) (Q:pF->pG->Prop) (E:pF->pG->Prop),s.heap.IsStrIter s1⁻¹ ty x t i->Q (.ref s1⁻¹) s->pJ (model X.prog X.w) A (pyIter (.ref s1⁻¹)) Q E s),
   PIE X tM σ tg R (.ref s1⁻¹) { s1 with heap:=s1.heap.push { cls:=.type ty,data:=.fields (List.toArray [.str x t,.int 0 0]) } }:=λty hty W S=>by
  refine#[s1⁻¹,[s1⁻¹],_,_,H1,rfl,I1.kept (t':=s1.toks) λb o e=>aa _ e,Jv hty _ x t W S,#[_,aD _ rfl,rfl,rfl],λb hb=>?_,q];have e:b=s1⁻¹:=by simpa using hb
  subst e;exact I1.fpOk (ak _) (I1.hok.fresh (ak _))
 cases ha:x.cps.all (· < 128)
 ·exact wpAny_pyIter_wide ha (fin "str_iterator" ∅ (λA hA=>Walks.strWide hA _ x t) λA i s Q E st h=>wpAny_pyIter_striter_wide st h)
 ·exact wpAny_pyIter_ascii ha (fin "str_ascii_iterator" ∅ (λA hA=>Walks.strAscii hA _ x t) λA i s Q E st h=>wpAny_pyIter_striter_ascii st h)
end
theorem za2{x:pL}{g:TG}{tb:TS}{D:vd}{σ:St}{H:Hp}(Pv:Nat->St->Hp->Prop)(h0:Pv 0 σ H)
  (hs:∀i c σ H,(cs x)[i]? = tI c->Pv i σ H->g (.str (tx [c])) σ H λσ2 H2=>tb { D with nx:=Pv (i+1),ct:=Pv (i+1),bk:=D.nx } σ2 H2) (hd:∀σ H,Pv (cs x).length σ H->D.nx σ H) :
  ∃W:Nat->Nat->St->Hp->Prop,(∃m,W 0 m σ H)/\∀i m σ H,W i m σ H ->
   ((Its x).stop i H/\D.nx σ H)\/((Its x).go i H/\∃N:St->Hp->Prop,(∀σ' H',N σ' H'->∃m',m'<m/\W (i+1) m' σ' H')/\∀v H',(Its x).yld i H v H'->g v σ H' λσ2 H2=>tb { D with nx:=N,ct:=N,bk:=D.nx } σ2 H2):=by
 refine#[λi m σ H=>m=(cs x).length - i/\i<=(cs x).length/\Pv i σ H,#[(cs x).length,by simp,aE _,h0],?_];rintro i m σ H ⟨rfl,hi,p⟩;by_cases hlt:i<(cs x).length
 ·refine .inr #[hlt,Pv (i+1),λσ' H' p'=>#[(cs x).length - (i+1),⋯,rfl,hlt,p'],λv H' y=>?_];obtain⟨e,c,hc,ev⟩:=y;subst e ev;exact hs i c σ _ hc p
 ·have e:i=(cs x).length:=⋯;subst e;exact .inl #[rfl,hd σ H p]
noncomputable def Ite(x:pL):It:=#[λi _=>i<(cs x).length,λi H v H'=>∃p c,H p=tJ/\(cs x)[i]? = tI c/\v=.ref p/\H'=upd H p (.tup [.int (i:Nat),.str (tx [c])]),λi _=>i=(cs x).length]
theorem U6{P:pK}{w:pM}{K:pD}{elts:List pO}{x1:Nat}{tpos:rB}{ty:String}(e it:pE)(hei:e≠it)(x:pL)(t:rZ)
  (D:∀A:pN,A.handled=tJ->Draws P w A it [it] x.cps.size (λi v=>∃c u,x.cps[i]? = tI c/\v=.str ⟨#[c]⟩ u) λi h=>h.IsStrIter it ty x t i) :
  Qu P w K (.Tuple elts x1 tpos) (Ite x) [e,it] e (λi h=>(∃old,IsEnum h e it i old)/\h.IsStrIter it ty x t i) where
 mem:=by simp
 obj:=λi h st b hb=>by
  obtain⟨⟨old,he⟩,o,e2,c,d⟩:=st;rcases tR.mp hb with q | q
  ·subst q;exact#[_,he,λv z=>by have z':Data.fields _=Data.cell v:=z;cases z']
  ·have q':b=it:=by simpa using q
   subst q';exact#[o,e2,λv z=>by rw[d]at z;cases z]
 keep:=λi h h' st k=>by
  obtain⟨⟨old,he⟩,o,e2,r⟩:=st;exact#[#[old,k e (by simp) _ he],o,k it (by simp) o e2,r]
 item:=by
  intro X hP hw hK hc i tM s σ H E I hf st hg;subst hP hw hK;obtain⟨⟨old,he⟩,st⟩:=st;have hg':i<x.cps.size:=by have:i<x.cps.toList.length:=hg;simpa using this
  have hA:X.A.in1.handled=tJ:=I.ok.hd hc;refine so (D X.A.in1 hA) he st hg' hei (by simpa using hei) λv h' tk hv ho st' hT hsz kk=>?_;obtain⟨c,u,hcc,rfl⟩:=hv;refine#[_,rfl,sf ho λh2 he2 sb=>?_];have elt:e<s⁻¹:=aq he;have ilt:it<s⁻¹:=by obtain⟨o,q,_⟩:=st;exact aq q
  have I1:Inv X tM σ H { s with heap:=h2,toks:=tk+1 }:=Inv.turns (fp:=[e,it]) I (λb o hb q=>by
   have hb':b≠e/\b≠it:=by simpa using hb
   exact (sb.2 b hb'.1).trans (kk b o hb'.1 hb'.2 q)) hf
  have hp:H s⁻¹=tJ:=I.hok.fresh (ak _);have hT2:h2.get? s⁻¹=tI { cls:=.type "tuple",data:=.seq (List.toArray [.int (i:Nat) tk,.str ⟨#[c]⟩ u]) }:=(sb.2 _ (bW elt)).trans hT
  have I2:Inv X tM σ (upd H s⁻¹ (.tup [.int (i:Nat),.str (tx [c])])) { s with heap:=h2,toks:=tk+1 } :=
   Inv.track I1 (I.fpOk (ak _) hp) #[by show 2<=pC;decide,[.int (i:Nat) tk,.str ⟨#[c]⟩ u],.cons #[_,rfl] (.cons #[_,rfl] .nil),#[_,hT2,rfl,_,rfl]]
  refine#[.ref s⁻¹,_,I2,rfl,#[s⁻¹,c,hp,?_,rfl,rfl],#[#[_,by simpa using he2],?_],λb hb=>?_]
  ·show x.cps.toList[i]? = tI c;simpa using hcc
  ·obtain⟨o,q,r⟩:=st';exact#[o,(sb.2 it (Ne.symm hei)).trans q,r]
  ·rw[zo]
   ·exact (hf b hb).1
   ·rcases tR.mp hb with q | q
    ·rw[q];exact aB elt
    ·have q':b=it:=by simpa using q
     rw[q'];exact aB ilt
 done:=by
  intro X hP hw hK hc i tM s σ H E I hf st hg;subst hP hw hK;obtain⟨⟨old,he⟩,st⟩:=st;have hi:i=x.cps.size:=by have:i=x.cps.toList.length:=hg;simpa using this
  have hA:X.A.in1.handled=tJ:=I.ok.hd hc;rw[hi]at st;refine sv (D X.A.in1 hA) he st λh' hx=>#[rfl,?_];exact Inv.turns (fp:=[e,it]) (t':=s.toks) I (λb o hb q=>hx b o (λz=>hb (by simp [z])) q) hf
 self:=λA i s Q E st h=>by
  obtain⟨⟨old,he⟩,_⟩:=st;exact rQ he h
section
variable{X:Cx}
def zcX(ta:TA):TI:=λσ H R=>ta σ H λvs H1=>∃x,vs=[.str x]/\R (Ite x) H1
theorem Ul{a:pO}{ta:TA}{p pos tpos:rB}{elts:List pO}{x1:Nat}(hg:Gl X "enumerate")(hm:X.mg "enumerate" = tJ)(ha:PA X [a] ta)(hs:pB [a] X.env=[(tL,eval a X.env)]:=by rfl) :
  PI X (.Tuple elts x1 tpos) (.Call (.Name "enumerate" p) [a] [] pos) (zcX ta):=by
 intro tM s σ H R I h;refine tH (wB I hg hm boot_enumerate (bA (thn (ha pos tM s σ H _ I h) λus s1 ⟨vs,H1,I1,r1,q1⟩=>?_) hs rfl));obtain⟨x,e,q⟩:=q1;subst e;obtain⟨u,rfl,t,rfl⟩:=wm r1;refine call_enumerate_str λh' he hit hsz kk=>?_;have I2:Inv X tM σ H1 { s1 with heap:=h' }:=I1.kept (t':=s1.toks) kk;refine rQ (s:={ s1 with heap:=h' }) (i:=0) he ?_
 have fin:∀(ty:String) (hi:h'.IsStrIter s1⁻¹ ty x t 0) (D:∀A:pN,A.handled=tJ->Draws X.prog X.w A s1⁻¹ [s1⁻¹] x.cps.size (λi v=>∃c u,x.cps[i]? = tI c/\v=.str ⟨#[c]⟩ u) λi h=>h.IsStrIter s1⁻¹ ty x t i),
   PIE X tM σ (.Tuple elts x1 tpos) R (.ref (s1⁻¹+1)) { s1 with heap:=h' }:=λty hi D=>by
  refine#[s1⁻¹+1,[s1⁻¹+1,s1⁻¹],_,_,H1,rfl,I2,U6 _ _ (eG _) x t D,#[#[_,he],hi],λb hb=>?_,q]
  have hb':s1⁻¹<=b:=by
   rcases tR.mp hb with e | e
   ·rw[e];exact cw _
   ·have:b=s1⁻¹:=by simpa using e
    rw[this];exact ak _
  exact I1.fpOk hb' (I1.hok.fresh hb')
 cases ha:x.cps.all (· < 128)
 ·have e:pS x="str_iterator":=by simp [pS,ha]
  rw[e]at hit;exact fin _ hit λA hA=>Draws.strWide hA _ x t
 ·have e:pS x="str_ascii_iterator":=by simp [pS,ha]
  rw[e]at hit;exact fin _ hit λA hA=>Draws.strAscii hA _ x t
end
theorem Ju{x:pL}{g:TG}{tb:TS}{D:vd}{σ:St}{H:Hp}(Pv:Nat->St->Hp->Prop)(h0:Pv 0 σ H)
  (hs:∀i c σ H p,(cs x)[i]? = tI c->Pv i σ H->H p=tJ->g (.ref p) σ (upd H p (.tup [.int (i:Nat),.str (tx [c])])) λσ2 H2=>tb { D with nx:=Pv (i+1),ct:=Pv (i+1),bk:=D.nx } σ2 H2) (hd:∀σ H,Pv (cs x).length σ H->D.nx σ H) :
  ∃W:Nat->Nat->St->Hp->Prop,(∃m,W 0 m σ H)/\∀i m σ H,W i m σ H ->
   ((Ite x).stop i H/\D.nx σ H)\/((Ite x).go i H/\∃N:St->Hp->Prop,(∀σ' H',N σ' H'->∃m',m'<m/\W (i+1) m' σ' H')/\∀v H',(Ite x).yld i H v H'->g v σ H' λσ2 H2=>tb { D with nx:=N,ct:=N,bk:=D.nx } σ2 H2):=by
 refine#[λi m σ H=>m=(cs x).length - i/\i<=(cs x).length/\Pv i σ H,#[(cs x).length,by simp,aE _,h0],?_];rintro i m σ H ⟨rfl,hi,p⟩;by_cases hlt:i<(cs x).length
 ·refine .inr #[hlt,Pv (i+1),λσ' H' p'=>#[(cs x).length - (i+1),⋯,rfl,hlt,p'],λv H' y=>?_];obtain⟨p',c,hp,hc,ev,eH⟩:=y;subst ev eH;exact hs i c σ H p' hc p hp
 ·have e:i=(cs x).length:=⋯;subst e;exact .inl #[rfl,hd σ H p]
theorem ur{env:sy}:∀(names:List (pL × rW)) (tO:List (pL × pE)),
    (∀y,(y,NameKind.free) ∈ names->∃c,env.cells.lookup y=tI c)->(∀y c,tO.lookup y=tI c->env.cells.lookup y=tI c) ->
    ∃cl,(forIn names tO λ(x:pL × rW) (cs:List (pL × pE))=>if (x.2 == NameKind.free)=tK then (do let a <- cellOf env x.1;pure (ForInStep.yield ((x.1,a)::cs)))else pure (ForInStep.yield cs):tw (List (pL × pE)))=pure cl /\
      (∀y c,cl.lookup y=tI c->env.cells.lookup y=tI c)/\(∀y,(y,NameKind.free) ∈ names\/(tO.lookup y).isSome=tK->∃c,cl.lookup y=tI c)
  | [],tO,_,ha=>#[tO,rfl,ha,λy h=>by
      rcases h with h | h
      . cases h
      . exact Ad.mp h]
  | (n,k)::r,tO,hn,ha=>by
    by_cases hk:k=NameKind.free
    . subst hk
      obtain⟨c,hc⟩:=hn n (by simp)
      have ha':∀y d,((n,c)::tO).lookup y=tI d->env.cells.lookup y=tI d:=λy d e=>by
        rw[aX]at e;by_cases hy:(y == n)=tK
        . rw[hy]at e
          have:y=n:=eq_of_beq hy;subst this;cases e;exact hc
        . have hy':(y == n)=tL:=by simpa using hy
          rw[hy']at e;exact ha y d e
      obtain⟨cl,e,h1,h2⟩:=ur r ((n,c)::tO) (λy hy=>hn y (ao _ hy)) ha';refine#[cl,?_,h1,λy hy=>h2 y ?_]
      . rw[dg]
        have ec:cellOf env n=pure c:=by unfold cellOf;rw[hc]
        erw[beq_self_eq_true,if_true,ec,pure_bind]
        exact e
      . rcases hy with hy | hy
        . rcases tR.mp hy with q | q
          . cases q
            exact .inr (by simp)
          . exact .inl q
        . refine .inr ?_
          rw[aX];by_cases hyn:(y == n)=tK
          . rw[hyn];rfl
          . have hy':(y == n)=tL:=by simpa using hyn
            rw[hy'];exact hy
    . obtain⟨cl,e,h1,h2⟩:=ur r tO (λy hy=>hn y (ao _ hy)) ha
      refine#[cl,?_,h1,λy hy=>h2 y ?_]
      . rw[dg]
        have ek:(k == NameKind.free)=tL:=by simpa using hk
        erw[ek,bB,if_false,pure_bind]
        exact e
      . rcases hy with hy | hy
        . rcases tR.mp hy with q | q
          . cases q;exact absurd rfl hk
          . exact .inl q
        . exact .inr hy
theorem vJ{scope:rm}{env:sy}(hn:∀y,(y,NameKind.free) ∈ scope.names->∃c,env.cells.lookup y=tI c) :
  ∃cl,closureFor scope env=pure cl/\(∀y c,cl.lookup y=tI c->env.cells.lookup y=tI c)/\(∀y,(y,NameKind.free) ∈ scope.names->∃c,cl.lookup y=tI c):=by
 obtain⟨cl,e,h1,h2⟩:=ur scope.names [] hn (λy c h=>by cases h);refine#[cl,?_,h1,λy hy=>h2 y (.inl hy)];unfold closureFor
 erw[bind_pure]
 exact e
noncomputable abbrev UX(ifs:List pO)(env:sy):tw Bool :=
 forIn ifs tK λc r=>if r=tK then (do let ok <- isTrue c env (eval c env);pure (ForInStep.yield ok))else pure (ForInStep.yield r)
theorem UK{prog:pK}{w:pM}{A:pN}{R:sH->pG->Prop}{s:pG}{elt tg iter:pO}{ifs:List pO}{scope:rm}{pos:rB}{it tO:pF}{env:sy}
  (I:Nat->pG->Prop) {EE:pF->pG->Prop} (hEE:EE=notedBy (model prog w) A env λe s'=>R (.error e) s')
  (turn:∀n s,I n s->pJ (model prog w) A (pyNext it) (λr s1=>match r with
   | none=>R (.ok .next) s1
   | some v=>pJ (model prog w) A (letOwnedTupleGo tg it v) (λ_ s2=>pJ (model prog w) A (assign tg env v) (λ_ s3 =>
     pJ (model prog w) A (UX ifs env) (λok s4=>if ok=tK then
      pJ (model prog w) A (eval elt env) (λx s5=>pJ (model prog w) A (call (.builtin "list.append") [tO,x]) (λ_ s6=>∃m,m<n/\I m s6) EE s5) EE s4
      else ∃m,m<n/\I m s4) EE s3) EE s2) EE s1) EE s) (n:Nat) (h:I n s) :
  rK (model prog w) A (.compLoop (.ListComp elt [#[tg,iter,ifs,0]] scope pos) 0 it tO env) R s:=by
 subst hEE;refine codeAny_loop rfl I (λn s hI=>?_) n h;show pJ _ A ((compTurn (.ListComp elt [#[tg,iter,ifs,0]] scope pos) 0 it tO env).onRaise (λx=>do noteFrame x env;theTreesLotGoes x)) _ _ s;refine wpAny_noted ?_;rw[compTurn_list];refine pq (rq (pq (thn (turn n s hI) λr s1 h1=>?_)))
 cases r with
 | none=>exact pz h1
 | some v =>
  refine pq (thn h1 λ_ s2 h2=>pq (thn h2 λ_ s3 h3=>pq (thn h3 λok s4 h4=>?_)))
  cases ok with
  | false=>exact pz #[rfl,h4]
  | true=>exact pq (pq (thn h4 λx s5 h5=>pq (thn h5 λ_ s6 h6=>pz (pz #[rfl,h6]))))
noncomputable def yj(X:Cx)(scope:rm)(cl:List (pL × pE))(C:pE)(N:List pL)(tM:List (pE × rb))(s3:pG)(H3:Hp)(fp:List pE)(E:pF->pG->Prop):Cx :=
 { X with N:=N,s₀:=s3,H₀:=H3,env:=compEnvC scope cl C X.env,outer:=X.stack,ex:=fp,fn:=λ_=>tL,pn:=X.pn ++ tM,xe:=E }
noncomputable def vn(σ:St)(own:Nat)(ix:()):St:=al own tJ ++ ix.map λi=>(σ[i]?).join
structure jP(X:Cx)(scope:rm)(own caps:List pL)(ix:()):Prop where
 kind:scope.kind=.function
 nocell:∀y ∈ scope.names,y.2≠.cell
 names:∀y ∈ scope.names,y.2=.local->scope.names.lookup y.1=tI .local
 free:∀y,(y,NameKind.free) ∈ scope.names->X.env.kindOf y=tI .cell\/X.env.kindOf y=tI .free
 hown:∀y ∈ own,scope.names.lookup y=tI .local
 hcaps:∀y ∈ caps,scope.names.lookup y=tI .free
 hix:ix.map (λi=>X.N[i]?)=caps.map tI
theorem xX{α β:Type}[BEq α][LawfulBEq α]{l:List (α × β)}{a:α}{b:β}(h:l.lookup a=tI b):(a,b) ∈ l:=by
 induction l with
 | nil=>cases h
 | cons p r ih =>
  obtain⟨c,d⟩:=p;rw[aX]at h;by_cases e:(a == c)=tK
  ·rw[e]at h;cases h;rw[eq_of_beq e];exact az
  ·have e':(a == c)=tL:=by simpa using e
   rw[e']at h;exact ao _ (ih h)
theorem vh{scope:rm}{env:sy}(hf:env.scope.kind=.function):∀{names:List (pL × rW)} {x:pL} {k:rW},names.lookup x=tI k ->
    (names.map λ(n,k)=>if (k == NameKind.free && env.scope.kind == .function && env.kindOf n == tI .cell)then (n,NameKind.cell)else (n,k)).lookup x=tI (if (k == NameKind.free && env.scope.kind == .function && env.kindOf x == tI .cell)=tK then .cell else k)
  | [],_,_,h=>by simp at h
  | (n,k')::r,x,k,h=>by
    have ih:=@vh scope env hf r x k;show bt x ((if (k' == NameKind.free && env.scope.kind == .function && env.kindOf n == tI .cell)=tK then (n,NameKind.cell)else (n,k'))::_)=_;by_cases hx:(x == n)=tK
    . have hxn:x=n:=eq_of_beq hx
      subst hxn;rw[aX,hx]at h;cases h;by_cases c:(k' == NameKind.free && env.scope.kind == .function && env.kindOf x == tI .cell)=tK
      . rw[if_pos c,if_pos c,aX,hx]
      . rw[if_neg c,if_neg c,aX,hx]
    . have hx':(x == n)=tL:=by simpa using hx
      rw[aX,hx']at h;by_cases c:(k' == NameKind.free && env.scope.kind == .function && env.kindOf n == tI .cell)=tK
      . rw[if_pos c,aX,hx'];exact ih h
      . rw[if_neg c,aX,hx'];exact ih h
theorem uF{scope:rm}{env:sy}:∀{names:List (pL × rW)} {x:pL},names.lookup x=tJ ->
    (names.map λ(n,k)=>if (k == NameKind.free && env.scope.kind == .function && env.kindOf n == tI .cell)then (n,NameKind.cell)else (n,k)).lookup x=tJ
  | [],_,_=>rfl
  | (n,k')::r,x,h=>by
    have ih:=@uF scope env r x;show bt x ((if (k' == NameKind.free && env.scope.kind == .function && env.kindOf n == tI .cell)=tK then (n,NameKind.cell)else (n,k'))::_)=_;by_cases hx:(x == n)=tK
    . rw[aX,hx]at h;cases h
    . have hx':(x == n)=tL:=by simpa using hx
      rw[aX,hx']at h;by_cases c:(k' == NameKind.free && env.scope.kind == .function && env.kindOf n == tI .cell)=tK
      . rw[if_pos c,aX,hx'];exact ih h
      . rw[if_neg c,aX,hx'];exact ih h
section
variable{X:Cx}{scope:rm}{own caps:List pL}{ix:()}{cl:List (pL × pE)}{tM:List (pE × rb)}{σ:St}{H:Hp}{s:pG}{fp:List pE}{E:pF->pG->Prop}
theorem Wx(S:jP X scope own caps ix)(hcl1:∀y c,cl.lookup y=tI c->X.env.cells.lookup y=tI c)(hcl2:∀y,(y,NameKind.free) ∈ scope.names->∃c,cl.lookup y=tI c)
  (I:Inv X tM σ H s) (hfp:∀b ∈ fp,wa X tM H b) (hlt:∀b ∈ fp,b<s⁻¹) {h4:pP} {t4:Nat} (hn:h4.Ns s⁻¹ λ_=>tJ) (hk:∀b o,s.heap.get? b=tI o->h4.get? b=tI o) :
  Inv (yj X scope cl s⁻¹ (own ++ caps) tM s H fp E) [] (vn σ own.length ix) H { s with heap:=h4,toks:=t4 }:=by
 have kf:X.env.scope.kind=.function:=I.ok.kind;have nofp:∀b ∈ fp,b≠s⁻¹:=λb hb=>aB (hlt b hb)
 have cellLt:∀x c,X.env.cells.lookup x=tI c->c<s⁻¹:=λx c e=>by
  obtain⟨v,o,ho,_⟩:=I.cell x c e;exact aq ho
 have kinds:∀y k,scope.names.lookup y=tI k->(relabel scope X.env).names.lookup y=tI (if (k == NameKind.free && X.env.scope.kind == .function && X.env.kindOf y == tI .cell)=tK then .cell else k):=λy k e=>vh (scope:=scope) kf e
 have back:∀y k,(relabel scope X.env).names.lookup y=tI k->∃k',scope.names.lookup y=tI k'/\k=(if (k' == NameKind.free && X.env.scope.kind == .function && X.env.kindOf y == tI .cell)=tK then .cell else k'):=λy k e=>by
  cases q:scope.names.lookup y with
  | none =>
   have:=uF (scope:=scope) (env:=X.env) q;have e':(scope.names.map λ(n,k)=>if (k == NameKind.free && X.env.scope.kind == .function && X.env.kindOf n == tI .cell)then (n,NameKind.cell)else (n,k)).lookup y=tI k:=e;rw[this]at e';cases e'
  | some k' =>
   refine#[k',rfl,?_];have:=kinds y k' q;rw[e]at this;exact Option.some.inj this
 have isCell:∀y,scope.names.lookup y=tI .free->(relabel scope X.env).names.lookup y=tI .cell\/(relabel scope X.env).names.lookup y=tI .free:=λy e=>by
  have:=kinds y _ e;rcases S.free y (xX e)with q | q
  ·refine .inl ?_;rw[this,if_pos];rw[q,kf];rfl
  ·refine .inr ?_;rw[this,if_neg];rw[q];simp
 refine#[#[I.ok.mod,?_,I.ok.glob,I.ok.blt,ak _,?_,?_,?_,I.ok.hd,I.ok.frames,.inl rfl,?_,I.bs,aN I.ok.bsz I.sz,?_,?_,I.stack,I.stkFree],rfl,I.bare,Un.kept hk,#[_,hn,?_],?_,?_,?_,?_,I.hok.kept hk,?_]
 ·show (relabel scope X.env).kind=.function;exact S.kind
 ·intro x y c h1 h2;exact I.ok.inj x y c (hcl1 x c h1) (hcl1 y c h2)
 ·intro y hy;have hy':(relabel scope X.env).names.lookup y=tI .cell\/(relabel scope X.env).names.lookup y=tI .free:=hy
  have:scope.names.lookup y=tI .free:=by
   rcases hy' with q | q
   ·obtain⟨k',e,ek⟩:=back y _ q;by_cases c:(k' == NameKind.free && X.env.scope.kind == .function && X.env.kindOf y == tI .cell)=tK
    ·rw[cG,cG]at c;rw[e,eq_of_beq c.1.1]
    ·rw[if_neg c]at ek;exact absurd ek.symm (S.nocell _ (xX e))
   ·obtain⟨k',e,ek⟩:=back y _ q;by_cases c:(k' == NameKind.free && X.env.scope.kind == .function && X.env.kindOf y == tI .cell)=tK
    ·rw[if_pos c]at ek;cases ek
    ·rw[if_neg c]at ek;rw[e,<- ek]
  exact hcl2 y (xX this)
 ·intro x c h _;exact absurd h (by simp [yj])
 ·intro b hb;refine#[nofp b hb,λx c e=>?_];exact (hfp b hb).2.2.2.2.1 x c (hcl1 x c e)
 ·intro b o e hb;obtain⟨_,_,_,q,_⟩:=hfp b hb;rcases q with q | q
  ·exact I.ok.noex b o e q
  ·exact absurd (aw (aq e) (aN I.ok.bsz q)) (cM _)
 ·intro b hb z;rcases tR.mp (I.stkSub b z)with e | e
  ·exact (hfp b hb).2.1 e
  ·exact (hfp b hb).2.2.1 e
 ·intro i y v h1 h2 h3
  have hi:own.length<=i:=by
   refine cY λhlt'=>?_;unfold vn at h2;rw[df (by rw[aO];exact hlt'),eS,if_pos hlt']at h2;cases h2
  have h1':caps[i - own.length]? = tI y:=by
   have:(own ++ caps)[i]? = tI y:=h1;rw[cz hi]at this;exact this
  have h2':(ix.map λi=>(σ[i]?).join)[i - own.length]? = tI (tI v):=by
   unfold vn at h2;rw[cz (by rw[aO];exact hi),aO]at h2;exact h2
  rw[aA]at h2';have hx:=congrArg (λl=>l[i - own.length]?) S.hix
  erw[aA,h1',Option.map_some]at hx
  cases q:ix[i - own.length]? with
  | none=>rw[q]at h2';cases h2'
  | some j =>
   rw[q]at h2' hx;have hj:X.N[j]? = tI y:=Option.some.inj hx;have hv:(σ[j]?).join=tI v:=Option.some.inj h2'
   have hσ:σ[j]? = tI (tI v):=by
    cases r:σ[j]? with
    | none=>rw[r]at hv;cases hv
    | some z=>rw[r]at hv;cases z with
     | none=>cases hv
     | some z=>cases hv;rfl
   have hfree:scope.names.lookup y=tI .free:=S.hcaps y (ae h1');have hkc:=S.free y (xX hfree);obtain⟨m,hm,hl⟩:=I.loc;obtain⟨u,ru,l⟩:=hl j y v hj hσ (.inr hkc);refine#[u,ru,.inr #[isCell y hfree,?_]];rcases l with ⟨k,_⟩ | ⟨_,c,e,z⟩
   ·have:X.env.kindOf y=tI .local:=k;rcases hkc with q' | q' <;> (rw[q']at this;cases this)
   ·obtain⟨c',e'⟩:=hcl2 y (xX hfree);have:=hcl1 y c' e';rw[e]at this;cases this;obtain⟨o,ho,hd⟩:=z;exact#[c,e',o,hk c o ho,hd]
 ·intro x c e;obtain⟨v,o,ho,hd⟩:=I.cell x c (hcl1 x c e);exact#[v,o,hk c o ho,hd]
 ·exact I.hok.fresh (ak _)
 ·intro x c e;exact I.freeC x c (hcl1 x c e)
 ·intro p hp
  have hp':p ∈ X.pn ++ tM:=by
   have:p ∈ (X.pn ++ tM) ++ []:=hp
   rwa [aG]at this
  obtain⟨e,n,ne,nf,d⟩:=I.pin p hp';refine#[hk _ _ e,n,?_,λz=>?_,d]
  ·exact aB (aq e)
  ·rcases tR.mp (I.stkSub p.1 z)with q | q
   ·exact ne q
   ·exact nf q
 ·show (vn σ own.length ix).length=(own ++ caps).length;have:=congrArg cF S.hix;rw[af,af]at this;unfold vn;rw[ah,aO,af,ah,this]
end
def yU(σ σ':St):Prop:=σ.length=σ'.length/\∀(i:Nat) v,σ[i]? = tI (tI v)->σ'[i]? = tI (tI v)
def PTs(X:Cx)(ifs:List pO)(t:TT):Prop :=
 ∀(tM:List (pE × rb)) (s:pG) (σ:St) (H:Hp) (Q:Bool->Hp->Prop),Inv X tM σ H s->t σ H Q->pJ (model X.prog X.w) X.A (UX ifs X.env) (TP X tM σ Q) X.xe s
def wU:TT:=λ_ H Q=>Q tK H
theorem yv{X:Cx}:PTs X [] wU:=λ_ _ _ H _ I h=>pz #[H,I,h]
theorem Qp{X:Cx}{c:pO}{t:TT}(h:PT X c t):PTs X [c] t:=λtM s σ H Q I hq=>by
 show pJ _ _ (forIn [c] tK _) _ _ s
 erw[dg,fj,if_true]
 exact pq (pq (thn (h tM s σ H Q I hq) λb s' hb=>pz (pz hb)))
def jw(wi:TI)(g:TG)(tt:TT)(te:TE)(own:Nat)(ix:()):TE:=λσ H Q=>wi σ H λJ H1=>∀D,H1 D=tJ->∃W:Nat->Nat->List V->Hp->Prop,(∃m,W 0 m [] (upd H1 D (.lst []))) /\
 ∀i m tO H',W i m tO H'->(J.stop i H'/\Q (.ref D) H')\/(J.go i H'/\∀x H2,J.yld i H' x H2->g x (vn σ own ix) H2 λσ3 H3=>yU (vn σ own ix) σ3/\tt σ3 H3 λb H4=>if b=tK then
  te σ3 H4 λv H5=>H5 D=tI (.lst tO)/\tO.length<pC/\∃m',m'<m/\W (i+1) m' (tO ++ [v]) (upd H5 D (.lst (tO ++ [v])))
  else ∃m',m'<m/\W (i+1) m' tO H4)
theorem Un.but{fs ex:List pE}{H H':Hp}{h h1 h2:pP}{a:pE}(u:Un fs ex H H' h h1)(sb:Heap.SameBut a h1 h2)(ha:h.get? a=tJ):Un fs ex H H' h h2:=by
 have ne:∀b o,h.get? b=tI o->b≠a:=λb o e z=>by subst z;rw[ha]at e;cases e
 refine#[λb o e n hb hx=>(sb.2 b (ne b o e)).trans (u.keep b o e n hb hx),λb o e n hb hx=>?_,u.free,λb o e hx=>?_,u.tups,u.frzs,u.tbls]
 ·obtain⟨sl,q⟩:=u.slot b o e n hb hx;exact#[sl,(sb.2 b (ne b o e)).trans q]
 ·obtain⟨o',q⟩:=u.there b o e hx;exact#[o',(sb.2 b (ne b o e)).trans q]
theorem HOk.but{P:pK}{w:pM}{H:Hp}{h1 h2:pP}{a:pE}(ok:HOk P w H h1)(sb:Heap.SameBut a h1 h2)(ha:H a=tJ):HOk P w H h2:=λb ob e=>by
 refine (ok b ob e).stay (λc u hc q=>(sb.2 c ?_).trans q) (λ_ q=>q) λ_ _ q=>q;rintro rfl;rcases hc with rfl | hc
 ·rw[ha]at e;cases e
 ·rw[ha]at hc;cases hc
section
variable{X:Cx}{scope:rm}{own caps:List pL}{ix:()}{elt tg iter:pO}{ifs:List pO}{pos:rB}{wi:TI}{g:TG}{tt:TT}{te:TE}
def qh(i:Nat)(t:TE):TS:=λD σ H=>t σ H λx H1=>D.nx (σ.set i (tI x)) H1
end
section
variable{X:Cx}{a b:pO}{ta tb:TE}{pos:rB}
def jt:R2:=λx y H Q=>match x with | .int i=>onInt y λj=>Q (.int (i+j)) H | .str i=>onStr y λj=>i.length+j.length<=pC/\Q (.str (i ++ j)) H | .ref l=>zbj (.ref l) y H Q | _=>False
theorem yX:OpR X (binaryOp .Add) jt:=by
 intro tM s σ H x y v u Q I rx ry h
 cases x with
 | int i=>exact yB tM s σ H (.int i) y v u Q I rx ry h
 | str i=>exact zQ tM s σ H (.str i) y v u Q I rx ry (by obtain⟨j,rfl,q⟩:=onStr.of h;exact#[i,j,rfl,rfl,q])
 | ref l=>exact Wc tM s σ H (.ref l) y v u Q I rx ry h
 | _=>exact h.elim
def QV:R2:=λx y H Q=>match x with | .int i=>onInt y λj=>CMul i j/\Q (.int (i * j)) H | .str z=>onInt y λn=>0<=n/\n<=1000/\z.length<=1000/\Q (.str (tx (al n.toNat (cs z)).flatten)) H | _=>False
theorem Xd:OpR X (binaryOp .Mult) QV:=by
 intro tM s σ H x y v u Q I rx ry h
 cases x with
 | int i=>exact jd tM s σ H (.int i) y v u Q I rx ry h
 | str z=>exact WA tM s σ H (.str z) y v u Q I rx ry (by obtain⟨n,rfl,q⟩:=onInt.of h;exact#[z,n,rfl,rfl,q])
 | _=>exact h.elim
def zd1:R2:=λx y H Q=>match x with | .int i=>onInt y λj=>Q (.bl (decide (i<j))) H | .str i=>onStr y λj=>Q (.bl (decide (cs i<cs j))) H | _=>False
theorem zcO:OpR X (pR .Lt) zd1:=by
 intro tM s σ H x y v u Q I rx ry h
 cases x with
 | int i=>exact Uh tM s σ H (.int i) y v u Q I rx ry h
 | str i=>exact op_lt_str' tM s σ H (.str i) y v u Q I rx ry (by obtain⟨j,rfl,q⟩:=onStr.of h;exact#[i,j,rfl,rfl,q])
 | _=>exact h.elim
def zek:R2:=λx y H Q=>match x with | .int i=>onInt y λj=>Q (.bl (decide (i<=j))) H | .str i=>onStr y λj=>Q (.bl (!(decide (cs j<cs i)))) H | _=>False
theorem ve:OpR X (pR .LtE) zek:=by
 intro tM s σ H x y v u Q I rx ry h
 cases x with
 | int i=>exact zdW tM s σ H (.int i) y v u Q I rx ry h
 | str i=>exact US tM s σ H (.str i) y v u Q I rx ry (by obtain⟨j,rfl,q⟩:=onStr.of h;exact#[i,j,rfl,rfl,q])
 | _=>exact h.elim
theorem Qg:OpR X (pR .Gt) (λx y H Q=>∃i j,x=.str i/\y=.str j/\Q (.bl (decide (cs j<cs i))) H):=by
 intro tM s σ H x y v u Q I rx ry h;obtain⟨i,j,rfl,rfl,q⟩:=h;obtain⟨t,rfl⟩:=rx;obtain⟨t',rfl⟩:=ry;exact PySem.P.gt_str #[.bl _,H,I,rfl,q]
def zdh:R2:=λx y H Q=>match x with | .int i=>onInt y λj=>Q (.bl (decide (j<i))) H | .str i=>onStr y λj=>Q (.bl (decide (cs j<cs i))) H | _=>False
theorem Qh:OpR X (pR .Gt) zdh:=by
 intro tM s σ H x y v u Q I rx ry h
 cases x with
 | int i=>exact Xc tM s σ H (.int i) y v u Q I rx ry h
 | str i=>exact Qg tM s σ H (.str i) y v u Q I rx ry (by obtain⟨j,rfl,q⟩:=onStr.of h;exact#[i,j,rfl,rfl,q])
 | _=>exact h.elim
def zdU(K:pD):V->Option Int->Option Int->Hp->VK->Prop:=λx lo hi H Q=>match x with | .ref a=>zcC K (.ref a) lo hi H Q | .str z=>zbL (.str z) lo hi H Q | _=>False
theorem zcG:SlR X (zdU X.K):=by
 intro tM s σ H x v vl vu lo hi sl Q I rx hs pl pu h
 cases x with
 | ref a=>exact U5 tM s σ H (.ref a) v vl vu lo hi sl Q I rx hs pl pu h
 | str z=>exact xB tM s σ H (.str z) v vl vu lo hi sl Q I rx hs pl pu h
 | _=>exact h.elim
noncomputable def cV:V->Option pF
 | .ty n=>tI (.type n)
 | .ref a=>tI (.ref a)
 | _=>tJ
theorem QR:vL X (.builtin "isinstance") (λxs H Q=>∃x c u t b,xs=[x,c]/\cV c=tI u/\Wo X.K H x t/\aR X.K t u=tI b/\Q (.bl b) H):=by
 intro tM s σ H xs us Q I r h;obtain⟨x,c,u,t,b,rfl,hc,ty,e,q⟩:=h;obtain⟨v,w',rfl,rx,rc⟩:=Qj r
 have:w'=u:=by
  cases c with
  | ty n=>cases hc;exact rc
  | ref a=>cases hc;exact rc
  | _=>cases hc
 subst this;exact UW I rx ty e λtk=>#[.bl b,H,I.tok tk,rfl,q]
end
noncomputable def Iel(K:pD)(a:pE):It:=#[λi H=>∃xs x,SqL K H a xs/\xs[i]? = tI x,λi H v H'=>∃p x,H p=tJ/\(∀xs,SqL K H a xs->xs[i]? = tI x)/\v=.ref p/\H'=upd H p (.tup [.int (i:Nat),x]),λi H=>∃xs,SqL K H a xs/\i=xs.length]
theorem WY{P:pK}{w:pM}{K:pD}{elts:List pO}{x1:Nat}{tpos:rB}(e it a:pE)(hei:e≠it) :
  Qu P w K (.Tuple elts x1 tpos) (Iel K a) [e,it] e (λi h=>(∃old,IsEnum h e it i old)/\h.IsListIter it a i) where
 mem:=by simp
 obj:=λi h st b hb=>by
  obtain⟨⟨old,he⟩,o,e2,c,d⟩:=st;rcases tR.mp hb with q | q
  ·subst q;exact#[_,he,λv z=>by have z':Data.fields _=Data.cell v:=z;cases z']
  ·have q':b=it:=by simpa using q
   subst q';exact#[o,e2,λv z=>by rw[d]at z;cases z]
 keep:=λi h h' st k=>by
  obtain⟨⟨old,he⟩,st⟩:=st;exact#[#[old,k e (by simp) _ he],st.at λo q=>k it (by simp) o q]
 item:=by
  intro X hP hw hK hc i tM s σ H E I hf st hg;subst hP hw hK;obtain⟨⟨old,he⟩,st⟩:=st;obtain⟨xs,x,hq,hx⟩:=hg;obtain⟨its,rv,p,hz⟩:=I.list hq;obtain⟨u,hu,ru⟩:=rv.get hx;have hA:X.A.in1.handled=tJ:=I.ok.hd hc;have pl:=p.isList
  have hai:a≠it:=λz=>by
   subst z;obtain⟨o1,q1,c1,_⟩:=st;obtain⟨o2,q2,c2,_⟩:=pl;rw[q1]at q2;cases q2;rw[c1]at c2;exact absurd (Value.type.inj c2) ∅
  have hea:e≠a:=λz=>by
   subst z;obtain⟨o2,q2,c2,_⟩:=pl;rw[he]at q2;cases q2;exact absurd (Value.type.inj c2) ∅
  refine so (Draws.list (A:=X.A.in1) hA it a hai its.toArray) he #[st,pl] (by rw[am];exact (tP.mp hu).1) hei (by simp [hei,hea]) λv h' tk hv ho st' hT hsz kk=>?_
  have ev:v=u:=by
   have hv':its.toArray[i]? = tI v:=hv;rw[List.getElem?_toArray,hu]at hv';exact (Option.some.inj hv').symm
  subst ev;refine#[_,rfl,sf ho λh2 he2 sb=>?_];have elt:e<s⁻¹:=aq he;have ilt:it<s⁻¹:=by obtain⟨o,q,_⟩:=st;exact aq q
  have I1:Inv X tM σ H { s with heap:=h2,toks:=tk+1 }:=Inv.turns (fp:=[e,it]) I (λb o hb q=>by
   have hb':b≠e/\b≠it:=by simpa using hb
   exact (sb.2 b hb'.1).trans (kk b o hb'.1 hb'.2 q)) hf
  have hp:H s⁻¹=tJ:=I.hok.fresh (ak _);have hT2:h2.get? s⁻¹=tI { cls:=.type "tuple",data:=.seq (List.toArray [.int (i:Nat) tk,v]) }:=(sb.2 _ (bW elt)).trans hT
  have I2:Inv X tM σ (upd H s⁻¹ (.tup [.int (i:Nat),x])) { s with heap:=h2,toks:=tk+1 } :=
   Inv.track I1 (I.fpOk (ak _) hp) #[by show 2<=pC;decide,[.int (i:Nat) tk,v],.cons #[_,rfl] (.cons ru .nil),#[_,hT2,rfl,_,rfl]]
  refine#[.ref s⁻¹,_,I2,rfl,#[s⁻¹,x,hp,λys hy=>by rw[I.list_inj hy hq];exact hx,rfl,rfl],#[#[_,by simpa using he2],?_],λb hb=>?_]
  ·exact st'.1.at λo q=>(sb.2 it (Ne.symm hei)).trans q
  ·rw[zo]
   ·exact (hf b hb).1
   ·rcases tR.mp hb with q | q
    ·rw[q];exact aB elt
    ·have q':b=it:=by simpa using q
     rw[q'];exact aB ilt
 done:=by
  intro X hP hw hK hc i tM s σ H E I hf st hg;subst hP hw hK;obtain⟨⟨old,he⟩,st⟩:=st;obtain⟨xs,hq,hi⟩:=hg;obtain⟨its,rv,p,hz⟩:=I.list hq;have pl:=p.isList
  have hai:a≠it:=λz=>by
   subst z;obtain⟨o1,q1,c1,_⟩:=st;obtain⟨o2,q2,c2,_⟩:=pl;rw[q1]at q2;cases q2;rw[c1]at c2;exact absurd (Value.type.inj c2) ∅
  have hA:X.A.in1.handled=tJ:=I.ok.hd hc;have hi':i=its.toArray.size:=by rw[am,<- rv.length];exact hi
  subst hi';refine sv (Draws.list (A:=X.A.in1) hA it a hai its.toArray) he #[st,pl] λh' hx=>#[rfl,?_];exact Inv.turns (fp:=[e,it]) (t':=s.toks) I (λb o hb q=>hx b o (λz=>hb (by simp [z])) q) hf
 self:=λA i s Q E st h=>by
  obtain⟨⟨old,he⟩,_⟩:=st;exact rQ he h
section
variable{X:Cx}
def U3(K:pD)(ta:TA):TI:=λσ H R=>ta σ H λvs H1=>∃a,vs=[.ref a]/\(∃xs,SqL K H1 a xs)/\R (Iel K a) H1
theorem vR{a:pO}{ta:TA}{p pos tpos:rB}{elts:List pO}{x1:Nat}(hg:Gl X "enumerate")(hm:X.mg "enumerate" = tJ)(ha:PA X [a] ta)(hs:pB [a] X.env=[(tL,eval a X.env)]:=by rfl) :
  PI X (.Tuple elts x1 tpos) (.Call (.Name "enumerate" p) [a] [] pos) (U3 X.K ta):=by
 intro tM s σ H R I h;refine tH (wB I hg hm PyProof.Rows.boot_enumerate (bA (thn (ha pos tM s σ H _ I h) λus s1 ⟨vs,H1,I1,r1,q1⟩=>?_) hs rfl));obtain⟨l,e,⟨xs,hq⟩,q⟩:=q1;subst e;obtain⟨u,rfl,ru⟩:=wm r1;cases ru;obtain⟨its,rv,pl,hz⟩:=I1.list hq;refine call_enumerate_list pl.isList λh' he hit hsz kk=>?_;have I2:Inv X tM σ H1 { s1 with heap:=h' }:=I1.kept (t':=s1.toks) kk;refine rQ (s:={ s1 with heap:=h' }) (i:=0) he ?_;refine#[s1⁻¹+1,[s1⁻¹+1,s1⁻¹],_,_,H1,rfl,I2,WY _ _ l (eG _),#[#[_,he],hit],λb hb=>?_,q]
 have hb':s1⁻¹<=b:=by
  rcases tR.mp hb with e | e
  ·rw[e];exact cw _
  ·have:b=s1⁻¹:=by simpa using e
   rw[this];exact ak _
 exact I1.fpOk hb' (I1.hok.fresh hb')
end
def ForEL(K:pD)(a:pE)(g:TG)(tb:TS)(D:vd)(σ:St)(H:Hp):Prop:=∃W:Nat->Nat->St->Hp->Prop,(∃m,W 0 m σ H)/\∀i m σ H,W i m σ H ->
 ((Iel K a).stop i H/\D.nx σ H)\/((Iel K a).go i H/\∃N:St->Hp->Prop,(∀σ' H',N σ' H'->∃m',m'<m/\W (i+1) m' σ' H')/\∀x H',(Iel K a).yld i H x H'->g x σ H' λσ2 H2=>tb { D with nx:=N,ct:=N,bk:=D.nx } σ2 H2)
theorem zbW{K:pD}{ta:TA}{g:TG}{tb:TS}{D:vd}{σ:St}{H:Hp}:Jn (U3 K ta) g tb D σ H=ta σ H λvs H1=>∃a,vs=[.ref a]/\(∃xs,SqL K H1 a xs)/\ForEL K a g tb D σ H1:=rfl
theorem ForEL.by{K:pD}{a:pE}{xs:List V}{g:TG}{tb:TS}{D:vd}{σ:St}{H:Hp}(Pv:Nat->St->Hp->Prop)(h0:Pv 0 σ H)(hl:∀i σ H,i<=xs.length->Pv i σ H->SqL K H a xs)
  (hs:∀i x σ H p,xs[i]? = tI x->Pv i σ H->H p=tJ->g (.ref p) σ (upd H p (.tup [.int (i:Nat),x])) λσ2 H2=>tb { D with nx:=Pv (i+1),ct:=Pv (i+1),bk:=D.nx } σ2 H2) (hd:∀σ H,Pv xs.length σ H->D.nx σ H):ForEL K a g tb D σ H:=by
 refine#[λi m σ H=>m=xs.length - i/\i<=xs.length/\Pv i σ H,#[xs.length,by simp,aE _,h0],?_];rintro i m σ H ⟨rfl,hi,p⟩;have q:=hl i σ H hi p;by_cases hlt:i<xs.length
 ·refine .inr #[#[xs,xs[i],q,by simp [hlt]],Pv (i+1),λσ' H' p'=>#[xs.length - (i+1),⋯,rfl,hlt,p'],λv H' y=>?_];obtain⟨p',x,hp,hx,ev,eH⟩:=y;subst ev eH;exact hs i x σ H p' (hx xs q) p hp
 ·have e:i=xs.length:=⋯;subst e;exact .inl #[#[xs,q,rfl],hd σ H p]
def ze4(K:pD)(a:pE)(g:TG)(tb:TS)(D:vd)(σ:St)(H:Hp):Prop:=∃W:Nat->Nat->St->Hp->Prop,(∃m,W 0 m σ H)/\∀i m σ H,W i m σ H ->
 ((Itt K a).stop i H/\D.nx σ H)\/((Itt K a).go i H/\∃N:St->Hp->Prop,(∀σ' H',N σ' H'->∃m',m'<m/\W (i+1) m' σ' H')/\∀x H',(Itt K a).yld i H x H'->g x σ H' λσ2 H2=>tb { D with nx:=N,ct:=N,bk:=D.nx } σ2 H2)
theorem zex{K:pD}{tl:TE}{g:TG}{tb:TS}{D:vd}{σ:St}{H:Hp}:Jn (zdj K tl) g tb D σ H=tl σ H λx H1=>∃a,x=.ref a/\(∃xs,SqT K H1 a xs)/\ze4 K a g tb D σ H1:=rfl
def zem(K:pD)(x:V)(H:Hp)(p:Bool->Prop):Prop:=match x with | .bl b=>p b | x=>∃k,zcI K x H k/\p k
def tTr(K:pD)(ta:TE):TT:=λσ H Q=>ta σ H λx H'=>zem K x H' λk=>Q k H'
theorem zbf{K:pD}{ta:TE}{σ:L2.St}{H:Hp}{Q:Bool->Hp->Prop}:tTr K ta σ H Q=ta σ H λx H'=>zem K x H' λk=>Q k H':=rfl
def tBl(ta:TE):TT:=λσ H Q=>ta σ H λx H'=>onBl x λk=>Q k H'
theorem KN{ta:TE}{σ:L2.St}{H:Hp}{Q:Bool->Hp->Prop}:tBl ta σ H Q=ta σ H λx H'=>onBl x λk=>Q k H':=rfl
section
variable{X:Cx}{a:pO}{ta:TE}
theorem xg(ha:PE X a ta)(he:∀whole,isTrue a X.env whole=(do let v <- whole;standAt a.pos;holding [v] (truthy v))):PT X a (tBl ta):=by
 intro tM s σ H Q I h;refine isTrue_plain (thn (ha tM s σ H _ I h) λv s1 ⟨x,H1,I1,r1,q1⟩=>?_) (he _);obtain⟨k,rfl,q1⟩:=onBl.of q1;exact KB tM s1 σ H1 (.bl k) v Q I1 r1 #[k,rfl,q1]
end
noncomputable def Irv(K:pD)(a:pE)(n:Nat):It:=#[λi H=>∃xs,SqL K H a xs/\xs.length=n/\i<n,λi H v H'=>H'=H/\∀xs,SqL K H a xs->xs.length=n->xs[n - 1 - i]? = tI v,λi H=>i=n]
theorem JG{P:pK}{w:pM}{K:pD}{tg:pO}(a it:pE)(n:Nat):Qu P w K tg (Irv K a n) [it] it (λi h=>i<=n/\h.IsRevIter it a ((n:Int) - 1 - (i:Int))) where
 mem:=by simp
 obj:=λi h st b hb=>by
  have e:b=it:=by simpa using hb
  subst e;obtain⟨_,o,e,c,d⟩:=st;exact#[o,e,λv z=>by rw[d]at z;cases z]
 keep:=λi h h' st k=>#[st.1,st.2.at λo e=>k it (by simp) o e]
 item:=by
  intro X hP hw hK hc i tM s σ H E I hf st hg;subst hP hw hK;obtain⟨xs,hq,hn,hi⟩:=hg;obtain⟨its,rv,p,hz⟩:=I.list hq;obtain⟨f0,f1,f2,f3,f4,f5⟩:=hf it (by simp);have hx:xs[n - 1 - i]? = tI (xs[n - 1 - i]'⋯):=aj ⋯;generalize xs[n - 1 - i]'⋯=x at hx;obtain⟨u,hu,ru⟩:=rv.get hx;have st2:=st.2;have e:(n:Int) - 1 - (i:Int)=((n - 1 - i:Nat):Int):=⋯;rw[e]at st2;refine wpAny_pyNext_rev_item st2 p.isList (x:=u) (by simpa using hu) λh' st' sb=>?_;have I1:Inv X tM σ H { s with heap:=h' }:=I.turned (t':=s.toks) (λb o hb e=>(sb.2 b hb).trans e) f0 f1 f3 f4 f5;have e2:((n - 1 - i:Nat):Int) - 1=(n:Int) - 1 - ((i+1:Nat):Int):=⋯;rw[e2]at st';obtain⟨o,e,c,d⟩:=id st';exact#[u,rfl,Qe (s:={ s with heap:=h' }) e c d ∅ #[x,H,I1,ru,#[rfl,λys hy _=>by rw[I.list_inj hy hq];exact hx],#[hi,st'],λb hb=>(hf b hb).1]]
 done:=by
  intro X hP hw hK hc i tM s σ H E I hf st hg;subst hP hw hK;obtain⟨f0,f1,f2,f3,f4,f5⟩:=hf it (by simp);have hi:i=n:=hg;have st2:=st.2;rw[hi,show (n:Int) - 1 - (n:Int)=-1 by lia]at st2;exact wpAny_pyNext_rev_end (I.ok.hd hc) st2 λh' eb=>#[rfl,I.turned (t':=s.toks) (λb o hb e=>eb b o hb e) f0 f1 f3 f4 f5]
 self:=λ_ _ _ _ _ st h=>sB st.2 h
theorem QZ:rf "reversed" = tI (.type "reversed"):=PyProof.Rows.boot_reversed
section
variable{X:Cx}{tg:pO}
def zet(K:pD)(ta:TA):TI:=λσ H R=>ta σ H λvs H1=>∃a xs,vs=[.ref a]/\SqL K H1 a xs/\R (Irv K a xs.length) H1
theorem zb7{a:pO}{ta:TA}{p pos:rB}(hg:Gl X "reversed")(hm:X.mg "reversed" = tJ)(ha:PA X [a] ta)(hs:pB [a] X.env=[(tL,eval a X.env)]:=by rfl) :
  PI X tg (.Call (.Name "reversed" p) [a] [] pos) (zet X.K ta):=by
 intro tM s σ H R I h;refine tH (wB I hg hm QZ (bA (thn (ha pos tM s σ H _ I h) λus s1 ⟨vs,H1,I1,r1,q1⟩=>?_) hs rfl));obtain⟨l,xs,e,hq,q⟩:=q1;subst e;obtain⟨u,rfl,ru⟩:=wm r1;cases ru;obtain⟨its,rv,pl,hz⟩:=I1.list hq;have hn:its.toArray.size=xs.length:=by rw[am,<- rv.length]
 refine call_reversed_list pl.isList ?_
 have hit:(s1.heap.push (revObj l ((its.toArray.size:Int) - 1))).IsRevIter s1⁻¹ l ((xs.length:Int) - 1 - ((0:Nat):Int)):=by
  refine#[_,aD _ rfl,rfl,?_];rw[hn,show (xs.length:Int) - 1 - ((0:Nat):Int)=(xs.length:Int) - 1 by lia];rfl
 refine sB (s:={ s1 with heap:=s1.heap.push (revObj l ((its.toArray.size:Int) - 1)) }) hit ?_;refine#[s1⁻¹,[s1⁻¹],_,_,H1,rfl,I1.kept (t':=s1.toks) λb o e=>aa _ e,JG l _ xs.length,#[aE _,hit],λb hb=>?_,q];have e:b=s1⁻¹:=by simpa using hb
 subst e;exact I1.fpOk (ak _) (I1.hok.fresh (ak _))
end
section
variable{prog:pK}{w:pM}{A:pN}{E:pF->pG->Prop}{s:pG}
end
section
variable{X:Cx}
def zea(K:pD)(ta:TA):TE:=λσ H Q=>ta σ H λvs H1=>∃a xs,vs=[.ref a]/\SqL K H1 a xs/\∀l,H1 l=tJ->Q (.ref l) (upd H1 l (.lst xs.reverse))
theorem W6{K:pD}{ta:TA}{σ:L2.St}{H:Hp}{Q:VK}:zea K ta σ H Q=ta σ H λvs H1=>∃a xs,vs=[.ref a]/\SqL K H1 a xs/\∀l,H1 l=tJ->Q (.ref l) (upd H1 l (.lst xs.reverse)):=rfl
end
noncomputable def Izp(K:pD)(a b:pE):It:=#[λi H=>∃xs ys x y,SqL K H a xs/\SqL K H b ys/\xs[i]? = tI x/\ys[i]? = tI y,λi H v H'=>∃p x y,H p=tJ/\(∀xs,SqL K H a xs->xs[i]? = tI x)/\(∀ys,SqL K H b ys->ys[i]? = tI y)/\v=.ref p/\H'=upd H p (.tup [x,y]),λi H=>∃xs ys,SqL K H a xs/\SqL K H b ys/\(xs.length=i\/ys.length=i)/\i<=xs.length/\i<=ys.length]
theorem wK{h:pP}{a b:pE}{o1 o2:rb}{t u:String}(h1:h.get? a=tI o1)(c1:o1.cls=.type t)(h2:h.get? b=tI o2)(c2:o2.cls=.type u)(hne:t≠u):a≠b:=λz=>by
 rw[z,h2]at h1;cases h1;rw[c2]at c1;exact hne (Value.type.inj c1).symm
structure Km(z TI TO i1 i2:pE):Prop where
 TIz:TI≠z
 TOz:TO≠z
 i1z:i1≠z
 i2z:i2≠z
 TITO:TI≠TO
 TIi1:TI≠i1
 TIi2:TI≠i2
 TOi1:TO≠i1
 TOi2:TO≠i2
 i12:i1≠i2
def ZipAt(z TI TO i1 i2 l1 l2:pE)(i:Nat)(h:pP):Prop:=si h z TI TO .none/\rn h TI (.ref i1) (.ref i2)/\(∃a b,rn h TO a b)/\h.IsListIter i1 l1 i/\h.IsListIter i2 l2 i
theorem ZipAt.apart{z TI TO i1 i2 l1 l2:pE}{i:Nat}{h:pP}{xs ys:Array pF}(D:Km z TI TO i1 i2)(st:ZipAt z TI TO i1 i2 l1 l2 i h)(h1:h.IsList l1 xs)(h2:h.IsList l2 ys):ZipApart z TI TO i1 i2 l1 l2:=by
 obtain⟨hz,hTI,⟨a,b,hTO⟩,⟨o1,e1,c1,_⟩,⟨o2,e2,c2,_⟩⟩:=st;obtain⟨p1,q1,k1,_⟩:=h1;obtain⟨p2,q2,k2,_⟩:=h2;exact#[D.TIz,D.TOz,D.i1z,D.i2z,D.TITO,D.TIi1,D.TIi2,D.TOi1,D.TOi2,D.i12,wK q1 k1 hz rfl ∅,wK q1 k1 hTO rfl ∅,wK q1 k1 e1 c1 ∅,wK q1 k1 e2 c2 ∅,wK q2 k2 hz rfl ∅,wK q2 k2 hTO rfl ∅,wK q2 k2 e1 c1 ∅,wK q2 k2 e2 c2 ∅]
section
variable{X:Cx}
def zeY(K:pD)(ta:TA):TI:=λσ H R=>ta σ H λvs H1=>∃a b,vs=[.ref a,.ref b]/\(∃xs,SqL K H1 a xs)/\(∃ys,SqL K H1 b ys)/\R (Izp K a b) H1
end
def zeX(K:pD)(a b:pE)(g:TG)(tb:TS)(D:vd)(σ:L2.St)(H:Hp):Prop:=∃W:Nat->Nat->L2.St->Hp->Prop,(∃m,W 0 m σ H)/\∀i m σ H,W i m σ H ->
 ((Izp K a b).stop i H/\D.nx σ H)\/((Izp K a b).go i H/\∃N:L2.St->Hp->Prop,(∀σ' H',N σ' H'->∃m',m'<m/\W (i+1) m' σ' H')/\∀x H',(Izp K a b).yld i H x H'->g x σ H' λσ2 H2=>tb { D with nx:=N,ct:=N,bk:=D.nx } σ2 H2)
theorem zeD{K:pD}{ta:TA}{g:TG}{tb:TS}{D:vd}{σ:L2.St}{H:Hp}:Jn (zeY K ta) g tb D σ H=ta σ H λvs H1=>∃a b,vs=[.ref a,.ref b]/\(∃xs,SqL K H1 a xs)/\(∃ys,SqL K H1 b ys)/\zeX K a b g tb D σ H1:=rfl
noncomputable abbrev xob(C:pE)(dx:Option pE)(t:pE)(tb:pF):rb:={ cls:=.ref C,dict:=dx,data:=.fields (List.toArray [.ref t,tb,.none,.none,.bool tL,.none]) }
noncomputable abbrev xog(C:pE)(dx:Option pE)(t:pE)(tb c:pF)(k:Bool):rb:={ cls:=.ref C,dict:=dx,data:=.fields (List.toArray [.ref t,tb,c,.none,.bool k,.none]) }
def KY(h:pP)(x:pE)(tb:pF):Prop:=tb=.none\/∃T oT ts,tb=.ref T/\T≠x/\h.get? T=tI oT/\oT.data=.fields ts/\3<ts.size
section
variable{M:sV}{A:pN}{E:pF->pG->Prop}{s:pG}{base:pP}{env env0:sy}{outer:List sy}{L x t C:pE}{dx:Option pE}{cx:pF}{kx:Bool}
theorem ZK(h:env.frame=env0.frame):d6 env=d6 env0:=by unfold d6;rw[h]
theorem kK{tb head:pF}{hadNext:Bool}{Q:Unit->pG->Prop}(hfr:A.frames=tI (env0::outer))(hl:s.heap.FunFrames base (env0::outer))(hf:env0.frame=tI L)(he:env.frame=tI L)
  (hx:s.heap.get? x=tI (xog C dx t tb cx kx))
  (h:∀h' oT ts,h'.get? x=tI (xog C dx t (.ref s⁻¹) cx kx)->s⁻¹≠x->h'.get? s⁻¹=tI oT->oT.data=.fields ts->3<ts.size ->
   (∀b o,b≠x->b ∉ frs (env0::outer)->s.heap.get? b=tI o->h'.get? b=tI o)->(∀b o,b≠x->s.heap.get? b=tI o->∃sl,h'.get? b=tI { o with slots:=sl })->Q Unit.unit { s with heap:=h' }) :
  pJ M A (do let a <- d6 env;let pl <- entryPlaceOf L hadNext;let b <- EntryCells.newEntry head a .none (rawInt L) .none pl;setField (.ref x) 1 b) Q E s:=by
 have hxf:x ∉ frs (env0::outer):=λhm=>by
  obtain⟨_,o,ho,hnf⟩:=hl.mem hm;rw[hx]at ho;cases ho;exact hnf _ rfl
 rw[ZK (he.trans hf.symm)];refine pq (wpAny_frameOf_fun hfr hl hf λh1 hs1=>pq (wpAny_entryPlaceOf λpl hpl=>?_));unfold EntryCells.newEntry newFields;refine pq (sP ?_ (hpl.sizeOk5 _ _ _ _ _));have hz:h1.objs.size=s⁻¹:=hs1.1;have hx1:h1.get? x=tI (xog C dx t tb cx kx):=(hs1.2.1 x hxf).trans hx;generalize ho:({ cls:=.type "traceback",dict:=tJ,data:=.fields ([head,.ref L,.none,rawInt L,.none] ++ (if pl.isEmpty then al 6 Value.none else pl)).toArray }:rb)=ob;have hx2:(h1.push ob).get? x=tI (xog C dx t tb cx kx):=aa _ hx1;refine rA hx2 rfl (by show 1<6;decide) ?_;have hne:h1.objs.size≠x:=bW (aq hx1)
 have hx3:((h1.push ob).update x (Obj.mapFields (·.setIfInBounds 1 (Value.ref h1.objs.size)))).get? x=tI (xog C dx t (.ref h1.objs.size) cx kx) :=
  cb (Obj.mapFields (·.setIfInBounds 1 (Value.ref h1.objs.size))) hx2 rfl
 have hT:((h1.push ob).update x (Obj.mapFields (·.setIfInBounds 1 (Value.ref h1.objs.size)))).get? h1.objs.size=tI ob :=
  (aH _ _ (Ne.symm hne)).trans (aD h1 (by rw[<- ho];rfl))
 rw[hz]at hx3 hT hne
 have kp:∀b o,b≠x->h1.get? b=tI o->((h1.push ob).update x (Obj.mapFields (·.setIfInBounds 1 (Value.ref h1.objs.size)))).get? b=tI o:=λb o hb e =>
  (aH _ _ (Ne.symm hb)).trans (aa _ e)
 rw[hz]at kp ⊢;refine h _ ob _ hx3 hne hT (by rw[<- ho]) (by erw[am,ah,ay,aT] <;> lia) (λb o hb hbf e=>kp b o hb ((hs1.2.1 b hbf).trans e)) λb o hb e=>?_;obtain⟨sl,q⟩:=hs1.2.2 b o e;exact#[sl,kp b _ hb q]
theorem Zc{tb:pF}{Q:Unit->pG->Prop}(hfr:A.frames=tI (env0::outer))(hl:s.heap.FunFrames base (env0::outer))(hf:env0.frame=tI L)(he:env.frame=tI L)
  (hx:s.heap.get? x=tI (xog C dx t tb cx kx)) (htb:KY s.heap x tb)
  (h:∀h' T oT ts,h'.get? x=tI (xog C dx t (.ref T) cx kx)->T≠x->(tb=.ref T\/s⁻¹<=T)->h'.get? T=tI oT->oT.data=.fields ts->3<ts.size ->
   (∀b o,b≠x->tb≠.ref b->b ∉ frs (env0::outer)->s.heap.get? b=tI o->h'.get? b=tI o)->(∀b o,b≠x->tb≠.ref b->s.heap.get? b=tI o->∃sl,h'.get? b=tI { o with slots:=sl })->Q Unit.unit { s with heap:=h' }) :
  pJ M A (noteFrame (.ref x) env) (λ_ s1=>pJ M A (setFlight (.ref x) tJ) Q E s1) E s:=by
 have land:∀(h1:pP) (T:pE) (oT:rb) (ts:Array pF),h1.get? x=tI (xog C dx t (.ref T) cx kx)->T≠x->(tb=.ref T\/s⁻¹<=T)->h1.get? T=tI oT->oT.data=.fields ts->3<ts.size ->
   (∀b o,b≠x->tb≠.ref b->b ∉ frs (env0::outer)->s.heap.get? b=tI o->h1.get? b=tI o)->(∀b o,b≠x->tb≠.ref b->s.heap.get? b=tI o->∃sl,h1.get? b=tI { o with slots:=sl }) ->
   pJ M A (setFlight (.ref x) tJ) Q E { s with heap:=h1 }:=λh1 T oT ts e1 nT oldT e2 d2 z2 k1 k2=>by
  unfold setFlight;refine pq (pW (s:={ s with heap:=h1 }) e1 rfl (x:=.ref T) rfl ?_);rw[if_pos (show (Value.ref T != Value.none)=tK from by simp)];refine rA (s:={ s with heap:=h1 }) e2 d2 z2 ?_;have d3:=Obj.data_mapFields d2 (·.setIfInBounds 3 ((tJ:Option pE).elim Value.none λf=>rawInt f))
  have nb:∀b,b≠x->tb≠.ref b->(∃o,s.heap.get? b=tI o)->b≠T:=λb hb hbt ⟨o,eo⟩ z=>by
   subst z;rcases oldT with q | q
   ·exact hbt q
   ·exact absurd (aq eo) (Nat.not_lt.mpr q)
  refine h _ T _ _ ((aH _ _ nT).trans e1) nT oldT (cb _ e2 (Obj.isFreed_of_fields d3)) d3 (by simpa using z2) (λb o hb hbt hbf e=>?_) λb o hb hbt e=>?_
  ·exact (aH _ _ (Ne.symm (nb b hb hbt #[o,e]))).trans (k1 b o hb hbt hbf e)
  ·obtain⟨sl,q⟩:=k2 b o hb hbt e;exact#[sl,(aH _ _ (Ne.symm (nb b hb hbt #[o,e]))).trans q]
 unfold noteFrame
 erw[he]
 refine pq (pW hx rfl (x:=tb) rfl ?_);rcases htb with rfl | ⟨T,oT,ts,rfl,nT,e2,d2,z2⟩
 ·rw[if_neg ∅];refine kK hfr hl hf he hx λh' oT ts e1 ne e2 d2 z2 k1 k2=>land h' _ oT ts e1 ne (.inr (ak _)) e2 d2 z2 (λb o hb _ hbf e=>k1 b o hb hbf e) λb o hb _ e=>k2 b o hb e
 ·rw[if_pos (show (Value.ref T != Value.none)=tK from by simp)];obtain⟨y,hy⟩:∃y,ts[3]? = tI y:=#[ts[3],by simp [z2]];refine pq (pW e2 d2 (x:=y) hy ?_);by_cases c:(y == rawInt L)=tK
  ·rw[if_pos c];exact pz (land s.heap T oT ts hx nT (.inl rfl) e2 d2 z2 (λb o _ _ _ e=>e) λb o _ _ e=>#[o.slots,e])
  ·rw[if_neg c];refine pq (rA e2 d2 z2 ?_);have oth:∀b,b≠T->(s.heap.update T (Obj.mapFields (·.setIfInBounds 3 Value.none))).get? b=s.heap.get? b:=λb hb=>aH _ _ (Ne.symm hb);have hl1:(s.heap.update T (Obj.mapFields (·.setIfInBounds 3 Value.none))).FunFrames base (env0::outer):=hl.of_keeps λb o hb hnf=>#[o,(oth b λq=>by rw[q,e2]at hb;cases hb;exact hnf ts d2).trans hb,rfl];have hsz:(s.heap.update T (Obj.mapFields (·.setIfInBounds 3 Value.none))).objs.size=s⁻¹:=dF ..;refine kK (s:={ s with heap:=s.heap.update T (Obj.mapFields (·.setIfInBounds 3 Value.none)) }) hfr hl1 hf he ((oth x (Ne.symm nT)).trans hx) λh' oT' ts' e1 ne e2' d2' z2' k1 k2=>?_;refine land h' _ oT' ts' e1 ne (.inr (by rw[hsz];exact ak _)) e2' d2' z2' (λb o hb hbt hbf e=>k1 b o hb hbf ((oth b λq=>hbt (by rw[q])).trans e)) λb o hb hbt e=>k2 b o hb ((oth b λq=>hbt (by rw[q])).trans e)
theorem zaY{tb:pF}{Q:Unit->pG->Prop}(hfr:A.frames=tI (env0::outer))(hl:s.heap.FunFrames base (env0::outer))(hf:env0.frame=tI L)(he:env.frame=tI L)
  (hx:s.heap.get? x=tI (xog C dx t tb cx kx)) (htb:KY s.heap x tb)
  (h:∀h' T oT ts,h'.get? x=tI (xog C dx t (.ref T) cx kx)->T≠x->(tb=.ref T\/s⁻¹<=T)->h'.get? T=tI oT->oT.data=.fields ts->3<ts.size ->
   (∀b o,b≠x->tb≠.ref b->b ∉ frs (env0::outer)->s.heap.get? b=tI o->h'.get? b=tI o)->(∀b o,b≠x->tb≠.ref b->s.heap.get? b=tI o->∃sl,h'.get? b=tI { o with slots:=sl })->Q Unit.unit { s with heap:=h' }) :
  pJ M A (leaving env (.ref x)) Q E s:=pq (Zc hfr hl hf he hx htb h)
end
def CXx(P:pK)(w:pM):CXT:=λouter H s E e s'=>∃(x C t:pE) (dx:Option pE) (tb:pF) (H':Hp),e=.ref x/\s'.os=s.os/\rY s'.gens/\Un (frs outer) [] H H' s.heap s'.heap/\HOk P w H' s'.heap /\
 s'.heap.get? x=tI (xob C dx t tb)/\KY s'.heap x tb/\H' x=tJ/\s⁻¹<=x/\(∀T,tb=.ref T->H' T=tJ/\s⁻¹<=T)/\E (.ref C) dx H'
def zb1(X:Cx)(E:XK)(e:pF)(s:pG):Prop:=∃(tM:List (pE × rb)) (σ:St) (H:Hp) (x C t:pE) (dx:Option pE) (tb:pF),e=.ref x/\Inv X tM σ H s /\
 s.heap.get? x=tI (xob C dx t tb)/\KY s.heap x tb/\wa X tM H x/\(∀T,tb=.ref T->wa X tM H T)/\E (.ref C) dx H
def XE(X:Cx)(E:XK):Prop:=∀e s,zb1 X E e s->X.xe e s
theorem X8{X:Cx}{E:XK}(hx:XE X E):uG (CXx X.prog X.w) X E:=by
 intro tM σ H s e s' I h;obtain⟨x,C,t,dx,tb,H',rfl,os,bare,un,hok,ob,tr,hn,hsz,hT,q⟩:=h;have I':Inv X tM σ H' s':=I.call' os un hok bare λb z=>absurd z (by simp);exact hx _ _ #[tM,σ,H',x,C,t,dx,tb,rfl,I',ob,tr,I.fpOk hsz hn,λT e=>I.fpOk (hT T e).2 (hT T e).1,q]
theorem zb8{P:pK}{w:pM}{K:pD}{mg:pL->Option pF}{base:pP}{N:List pL}{qual:pL}{scope:rm}{f:pE}{cd:pF}{A:pN}{outer:List sy}{s:pG}{H:Hp}{E:XK} :
  XE (u8 (CXx P w) P w K mg base N qual scope f cd A outer s H E) E:=by
 intro e s1 h;obtain⟨tM,σ,H1,x,C,t,dx,tb,rfl,I,ob,tr,fx,fT,q⟩:=h;show pJ _ _ (leaving _ (.ref x)) _ _ s1;have ff:=I.stack;refine zaY (A:=(u8 (CXx P w) P w K mg base N qual scope f cd A outer s H E).A) (env0:=rX qual scope s⁻¹ f cd) (outer:=outer) I.ok.frames ff rfl rfl ob tr λh' T oT ts e1 nT oldT e2 d2 z2 k1 k2=>?_;have szs:s⁻¹<=s1⁻¹:=I.sz
 have hxs:s⁻¹<=x:=by
  rcases fx.2.2.2.1 with z | z
  ·exact absurd z (by simp [u8])
  ·exact z
 have hTs:s⁻¹<=T/\H1 T=tJ:=by
  rcases oldT with z | z
  ·obtain⟨a0,_,_,a3,_⟩:=fT T z;rcases a3 with y | y
   ·exact absurd y (by simp [u8])
   ·exact#[y,a0]
  ·exact#[aN szs z,I.hok.fresh z]
 have tbs:∀b,tb=.ref b->s⁻¹<=b/\H1 b=tJ:=λb hb=>by
  obtain⟨a0,_,_,a3,_⟩:=fT b hb;rcases a3 with y | y
  ·exact absurd y (by simp [u8])
  ·exact#[y,a0]
 have old:∀b o,s.heap.get? b=tI o->b≠x/\tb≠.ref b:=λb o e=>by
  have hb:=aq e;refine#[aB (aw hb hxs),λz=>?_];exact absurd (aw hb (tbs b z).1) (cM _)
 have un:Un (frs outer) [] H H1 s.heap h':=by
  have B:=I.base;refine#[λb o e n hb _=>?_,λb o e n hb _=>?_,λb o e n _=>B.free b o e n (by simp [u8]),λb o e _=>?_,B.tups,B.frzs,B.tbls]
  ·have e1:=B.keep b o e n hb (by simp [u8]);refine k1 b o (old b o e).1 (old b o e).2 (λz=>?_) e1;have z':=I.stkSub b z;rcases tR.mp z' with q | q
   ·exact absurd q (aB (aw (aq e) I.ok.above))
   ·exact hb q
  ·obtain⟨sl,e1⟩:=B.slot b o e n hb (by simp [u8]);obtain⟨sl',e2⟩:=k2 b _ (old b o e).1 (old b o e).2 e1;exact#[sl',e2]
  ·obtain⟨o',e1⟩:=B.there b o e (by simp [u8]);obtain⟨sl',e2⟩:=k2 b _ (old b o e).1 (old b o e).2 e1;exact#[_,e2]
 have hok:HOk P w H1 h':=λb u e=>by
  refine (I.hok b u e).stay (λc v hc q=>k1 c v ?_ ?_ ?_ q) (λ_ q=>q) λ_ _ q=>q
  ·rintro rfl;rcases hc with rfl | hc
   ·rw[fx.1]at e;cases e
   ·rw[fx.1]at hc;cases hc
  ·intro z;have:=(tbs c z).2;rcases hc with rfl | hc
   ·rw[this]at e;cases e
   ·rw[this]at hc;cases hc
  ·intro z;have:=I.stkFree c z;rcases hc with rfl | hc
   ·rw[this]at e;cases e
   ·rw[this]at hc;cases hc
 exact#[x,C,t,dx,.ref T,H1,rfl,I.os,I.bare,un,hok,e1,.inr #[T,oT,ts,rfl,nT,e2,d2,z2],fx.1,hxs,λT' z=>by cases z;exact#[hTs.2,hTs.1],q]
theorem Fun.okX{P:pK}{w:pM}{K:pD}{mg:pL->Option pF}{base:pP}{x qual:pL}{st:pQ}{f:pE}{fd:pH}{N ps:List pL}{k:Nat}{sp:Sp}(F:Fun K x qual st f fd)(S:zk N ps (zh st))(len:∀vs H Q E,sp vs H Q E->vs.length=ps.length)
  (hbody:∀(cdv:pF) (A:pN) (outer:List sy) (s:pG) (H:Hp) (vs:List V) (Q:VK) (E:XK),Room k (A.deeper (rX qual (zh st) s⁻¹ f cdv))->XE (u8 (CXx P w) P w K mg base N qual (zh st) f cdv A outer s H E) E->sp vs H Q E ->
   ∃t,PSs (u8 (CXx P w) P w K mg base N qual (zh st) f cdv A outer s H E) (z9 st) t/\t { nx:=λ_ H'=>Q .non H',rt:=Q } (start N vs) H):FnOk P w K mg base (CXx P w) (k+1) f fd ps sp:=by
 obtain⟨oc,od,kV,doc,pm,an,cdv,ct,osl,rfl,lk,hcd⟩:=F.ex;exact Jc lk hcd S len λA outer s H vs Q E hr hsp=>hbody cdv A outer s H vs Q E hr zb8 hsp
def zci(X:Cx)(E:XK)(e:pF)(s:pG):Prop:=∃(cx:pF) (kx:Bool) (tM:List (pE × rb)) (σ:St) (H:Hp) (x C t:pE) (dx:Option pE) (tb:pF),e=.ref x/\Inv X tM σ H s /\
 s.heap.get? x=tI (xog C dx t tb cx kx)/\KY s.heap x tb/\wa X tM H x/\(∀T,tb=.ref T->wa X tM H T)/\E (.ref C) dx H
def XEg(X:Cx)(E:XK):Prop:=∀e s,zci X E e s->X.xe e s
structure RoomH(k:Nat)(A:pN):Prop where
 dp:A.depth+3 * k+5<sF
 un:A.units+16 * k+200<cLine
theorem RoomH.mark{k:Nat}{A:pN}(r:RoomH k A)(e:Option pF):RoomH k (A.mark e):=#[r.dp,r.un]
noncomputable def cxH(P:pK)(w:pM)(K:pD)(mg:pL->Option pF)(base:pP)(N:List pL)(qual:pL)(scope:rm)(f:pE)(cd:pF)(A:pN)(outer:List sy)(s:pG)(H:Hp):Cx :=
 { u8 CX0 P w K mg base N qual scope f cd A outer s H E0 with calm:=tL,xe:=λ_ _=>False }
section
variable{X:Cx}{k:Nat}{f:pE}{fd:pH}{ps:List pL}{sp:Sp}{x:pL}{p pos:rB}{e:pO}{es:List pO}{t:TA}
end
noncomputable abbrev bmV:List pF:=[.type "ValueError",.type "Exception",.type "BaseException",.type "object"]
noncomputable def Zx(K:pD)(C:pE):Bool:=match K.lookup C with
 | some ⟨.type "type",_,.cls cd,sl⟩=>(match cd.mro,sl.toList with
  | .ref C'::bm,[_,_,_,_,tI (.builtin n),_]=>C' == C && (n == "ValueError.__new__" && (!cd.hasDel && (cd.hasDict && PySem.W.tailIn K bmV bm)))
  | _,_=>tL)
 | _=>tL
theorem vG{K:pD}{C:pE}(q:Zx K C=tK):∃bm N nm qn bs sn sub ab col dd k0 k1 k2 k3 k5,K.lookup C=tI (sG nm qn C N bs bm tK sn sub ab col dd k0 k1 k2 k3 k5 "ValueError.__new__")/\∀h:pP,K.In h->OwnTail h bmV bm:=by
 unfold Zx at q;split at q
 ·rename_i dd cd sl ho;split at q
  ·rename_i C' bm k0 k1 k2 k3 n k5 hm hs
   erw[cG,beq_iff_eq,dz]at q
   obtain⟨rfl,rfl,hdel,hdct,ht⟩:=q;obtain⟨nm,bs,mro,ns,qn,hd,sn,sub,ab,col,del⟩:=cd;dsimp only at hm hdel hdct;subst hm hdel hdct
   have hsl:sl=(List.toArray [k0,k1,k2,k3,tI (.builtin "ValueError.__new__"),k5]):=by
    obtain⟨l⟩:=sl;simp only at hs;rw[hs]
   subst hsl;exact#[bm,ns,nm,qn,bs,sn,sub,ab,col,dd,k0,k1,k2,k3,k5,ho,λh X=>PySem.W.tail_of_in X ht]
  ·cases q
 ·cases q
structure XC(K:pD)(C:pE):Prop where
 ok:Zx K C=tK
 sa:ag K (.ref C) "__setattr__" = tI (tI (.builtin "object.__setattr__"))
 ga:ag K (.ref C) "__getattribute__" = tI (tI (.builtin "BaseException.__getattribute__"))
 gt:ag K (.ref C) "__getattr__" = tI tJ
 kp:aJ K (.ref C)=tK
section
variable{prog:pK}{w:pM}{A:pN}{R:sH->pG->Prop}{h:pP}{g:Array sY}{d:Drawn}{t:Nat}{os:OsState}{K:pD}{C:pE}
theorem XY{init:pF}{rest:List pF}(X:K.In h)(q:Zx K C=tK)(hi:ag K (.ref C) "__init__" = tI (tI init))
  (hb:∀self,PySem.W.Looks (model prog w) h (bindSpecial init self) (init,[self])) (hrest:rest.length<=pC)
  (hq:rK (model prog w) (A.under (.builtin "type.__call__" #[.ref C::rest,[]])) (.call init #[.ref (h.objs.size+1)::rest,[]]) (PySem.W.InitBack (h.objs.size+1) R) #[(h.push { cls:=.type "tuple",data:=.seq rest.toArray }).push (xob C tJ h.objs.size .none),g,d,t,os]) :
  rK (model prog w) A (.call (.ref C) #[rest,[]]) R #[h,g,d,t,os]:=by
 obtain⟨bm,N,nm,qn,bs,sn,sub,ab,col,dd,k0,k1,k2,k3,k5,lk,tl⟩:=vG q;have hC:=X _ _ lk;have T:=tl h X;have F:=d7;have f1:=tc_lookup;have f2:=tc_bind (.ref C);have hT:(#[h,g,d,t,os]:pG).TypeIs (.ref C) "type":=#[_,hC,rfl];refine codeAny_of_tree ?_;show pJ _ _ (callAny (.ref C) _) _ _ _
 repeat (any_goals (first | assumption | with_reducible refine rj hC ?_ | wp_step))
 refine#[rfl,?_];refine codeAny_call_builtin_at (Code.quiet_builtin _ (by symm)) entry_typeCall (wpAny_check_type_call_sub hC ?_)
 repeat (first | with_reducible refine rj hC ?_ | with_reducible refine wpAny_madeBy_exc hC ?_ | wp_step)
 refine codeAny_call_builtin_code (Code.quiet_builtin _ F.quiet) (wpAny_check_new_subT F T hC ?_);refine codeAny_exc_new_subT F T hC ?_ hrest;show pJ _ _ _ _ _ _;have k:∀b o,h.get? b=tI o->((h.push { cls:=.type "tuple",data:=.seq rest.toArray }).push (xob C tJ h.objs.size .none)).get? b=tI o:=λb o e=>aa _ (aa _ e);have hC1:=k _ _ hC;have hget:((h.push { cls:=.type "tuple",data:=.seq rest.toArray }).push (xob C tJ h.objs.size .none)).get? (h.objs.size+1)=tI (xob C tJ h.objs.size .none):=by heap_get
 have hcC:(Value.ref C::bm).contains (.ref C)=tK:=by simp
 unfold isInstance
 repeat (first | with_reducible refine rj hget ?_ | wp_step)
 refine rL (C:=C) hC1 ?_;rw[hcC]
 repeat wp_step
 show pJ _ _ (typeLookup (.ref C) _) _ _ _;refine ((cD X hi).keeps k).at ?_;refine re (pq (((hb _).keeps k).at ?_));refine pq (rG (rJ hq λr s' z=>?_));rcases r with e | (v | _ | _ | _) <;> first | exact z | exact z.elim | skip;obtain⟨rfl,z⟩:=z;exact pz (pz z)
end
noncomputable def XN(x C:pE)(dx:Option pE):HO:=.ext λh=>∃t,h.get? x=tI (xob C dx t .none)
noncomputable def XT(x C:pE)(dx:Option pE):HO:=.ext λh=>∃t tb c k,h.get? x=tI (xog C dx t tb c k)
noncomputable def XP(x C:pE)(dx:Option pE):HO:=.ext λh=>∃t tb,h.get? x=tI (xob C dx t tb)
theorem zcU{P:pK}{w:pM}{H:Hp}{h:pP}{x C t:pE}{dx:Option pE}(e:h.get? x=tI (xob C dx t .none)):ObjOk P w H h x (XN x C dx) :=
 #[#[t,e],#[_,e],λh1 h2 ⟨t,q⟩ k=>#[t,k _ q]]
theorem zbD{P:pK}{w:pM}{H:Hp}{h:pP}{x C t:pE}{dx:Option pE}{tb c:pF}{k:Bool}(e:h.get? x=tI (xog C dx t tb c k)):ObjOk P w H h x (XT x C dx) :=
 #[#[t,tb,c,k,e],#[_,e],λh1 h2 ⟨t,tb,c,k',q⟩ k=>#[t,tb,c,k',k _ q]]
theorem zbI{P:pK}{w:pM}{H:Hp}{h:pP}{x C:pE}{dx:Option pE}(o:ObjOk P w H h x (XN x C dx)):∃t,h.get? x=tI (xob C dx t .none):=o.1
theorem zec{P:pK}{w:pM}{H:Hp}{h:pP}{x C:pE}{dx:Option pE}(o:ObjOk P w H h x (XT x C dx)):∃t tb c k,h.get? x=tI (xog C dx t tb c k):=o.1
section
variable{nm q:pL}{C N:pE}{bs bm:List pF}{hdct:Bool}{sn:List pL}{sub:List pF}{ab:Bool}{col:Option Bool}{dd:Option pE}{k0 k1 k2 k3 k5:Option pF}{newId:String}{h:pP}{M:sV}
theorem Zp(hC:h.get? C=tI (sG nm q C N bs bm hdct sn sub ab col dd k0 k1 k2 k3 k5 newId))(base:pF):PySem.W.Looks M h (isSubtype (.ref C) base) ((Value.ref C::bm).contains base):=λA Q E s k z=>by
 obtain⟨hp,g,d,t,os⟩:=s;exact rL (k _ _ hC) z
theorem VS(hC:h.get? C=tI (sG nm q C N bs bm hdct sn sub ab col dd k0 k1 k2 k3 k5 newId)):PySem.W.Looks M h (mroOf (.ref C)) (.ref C::bm):=λA Q E s k z=>by
 obtain⟨hp,g,d,t,os⟩:=s;exact wpAny_mroOf_exc (k _ _ hC) z
theorem VP(hC:h.get? C=tI (sG nm q C N bs bm hdct sn sub ab col dd k0 k1 k2 k3 k5 newId)):PySem.W.Looks M h (classData C) { name:=nm,bases:=bs,mro:=.ref C::bm,ns:=N,qualname:=q,hasDict:=hdct,slotNames:=sn,subclasses:=sub,abstract:=ab,collection:=col,hasDel:=tL }:=λA Q E s k z=>by
 unfold classData;exact pq (wpAny_load (k _ _ hC) (pz z))
theorem YM{bmB bm:List pF}(T:OwnTail h bmB bm)(self:pF)(hp:refuseLoop self "__setattr__" bmB=pure Unit.unit):refuseLoop self "__setattr__" bm=pure Unit.unit:=by
 induction T with
 | base=>exact hp
 | own _ _ _ _ ih=>rw[refuseLoop_ref];exact ih
end
section
variable{X:Cx}{tM:List (pE × rb)}{σ:St}{H:Hp}{s:pG}{A:pN}{E:pF->pG->Prop}{x C:pE}{f:pL}{y:V}{u:pF}
theorem KZ{Q:Unit->pG->Prop}(I:Inv X tM σ H s)(e:H x=tI (XN x C tJ))(xc:XC X.K C)(n:NoAttr X.K C f)(ry:RelV y u)
  (h:∀s' dx,H dx=tJ->Inv X tM σ (upd (upd H dx (.xd [(f,y)])) x (XN x C (tI dx))) s'->Q Unit.unit s'):pJ (model X.prog X.w) A (setAttr (.ref x) f u) Q E s:=by
 obtain⟨t,ob⟩:=zbI (I.hok x _ e);obtain⟨bm,N,nm,qn,bs,sn,sub,ab,col,dd,k0,k1,k2,k3,k5,lk,tl⟩:=vG xc.ok;have hC:=I.kIn _ _ lk;have T:=tl _ I.kIn;have SF:=PySem.F.store_ValueError;have J:PySem.W.InstAt s.heap x (xob C tJ t .none) C tJ:=#[ob,rfl,rfl,trivial];have hob:(Value.ref C::bm).contains (.type "object")=tK:=by rw[dm,T.hasType (show bmV.contains (.type "object")=tK by symm),dL]
 have isO:PySem.W.Looks (model X.prog X.w) s.heap (isInstance (.ref x) (.type "object")) tK:=J.type.andThen (by have:=Zp (M:=model X.prog X.w) hC (.type "object");rw[hob]at this;exact this);refine fQ I.kIn J xc.sa ?_;refine rV SF.slot.plain SF.entry (@PySem.W.check_slot (model X.prog X.w) _ _ { s with toks:=s.toks+1 } "object.__setattr__" "object" "__setattr__" (.ref x) [.str f s.toks,u] [] _ SF.kind SF.split isO (SF.args _ _ _) ?_);rw[PySem.W.osa_eq,refuse_eq];refine pq (pq (J.type.here (s:={ s with toks:=s.toks+1 }) (pq ((VS hC).here (s:={ s with toks:=s.toks+1 }) ?_))));rw[refuseLoop_ref,YM T _ (SF.passes _)];refine pz (pq (J.type.here (s:={ s with toks:=s.toks+1 }) (pq ((cD I.kIn n).here (s:={ s with toks:=s.toks+1 }) (pq (pz ?_))))));show pJ _ _ (Builtin.ObjectAttr.storeInOwnDict (.ref x) (.ref C) (.str f s.toks) f u tL) _ _ _;have hx1:(s.heap.push { cls:=.type "dict",data:=.dict #[] }).get? x=tI (xob C tJ t .none):=aa _ ob;have hxs:x≠s⁻¹:=aB (aq ob);refine pq (pz (pq (pq (sE ob (pq ((VP hC).here (s:={ s with toks:=s.toks+1 }) ?_))))));rw[if_neg (by simp)];show pJ _ _ (if (!tK || !typeHasDict (.ref C))=tK then _ else _) _ _ _;rw[if_neg (by simp [typeHasDict])]
 have hgd:((s.heap.push { cls:=.type "dict",data:=.dict #[] }).update x λo=>{ cls:=o.cls,dict:=tI s⁻¹,data:=o.data,slots:=o.slots }).get? s⁻¹=tI { cls:=.type "dict",data:=.dict #[] } :=
  (aH _ _ hxs).trans (Heap.get?_push_at rfl rfl)
 have hgx:((s.heap.push { cls:=.type "dict",data:=.dict #[] }).update x λo=>{ cls:=o.cls,dict:=tI s⁻¹,data:=o.data,slots:=o.slots }).get? x=tI (xob C (tI s⁻¹) t .none) :=
  cb _ hx1 rfl
 have hnd:((s.heap.push { cls:=.type "dict",data:=.dict #[] }).update x λo=>{ cls:=o.cls,dict:=tI s⁻¹,data:=o.data,slots:=o.slots }).Ns s⁻¹ (λ_=>tJ) :=
  #[_,#[],_,hgd,rfl,λe he=>absurd he (by simp),λ_=>rfl]
 refine pq (wpAny_alloc' (pq (wpAny_update' hx1 (pz ?_))));show pJ _ _ (Builtin.ObjectAttr.storeInDict s⁻¹ (.str f s.toks) f u) _ _ _;unfold Builtin.ObjectAttr.storeInDict Builtin.ObjectAttr.newKeyGuard;refine pq (pz (pq (wpAny_nsSet1 (Heap.Ns1.of_empty hnd) λh' hn' hs=>?_)));obtain⟨oD,esD,epD,hoD,hdD,hcD⟩:=hn'.count (Within.cons f u Within.nil);refine pq (tj hoD (by rw[hdD];exact pastItsLine_dict (aN hcD (by rw[ay,aT,pZ];lia))) ?_);refine pz ?_;have hx2:h'.get? x=tI (xob C (tI s⁻¹) t .none):=(hs.2 x hxs).trans hgx;have hfr:H s⁻¹=tJ:=I.hok.fresh (ak _);have hxe:x≠s⁻¹:=hxs;refine h _ s⁻¹ hfr ?_
 have k0:∀b o,b≠x->s.heap.get? b=tI o->h'.get? b=tI o:=λb o hb q =>
  (hs.2 b (aB (aq q))).trans ((aH _ _ (Ne.symm hb)).trans (aa _ q))
 have I1:Inv X tM σ (upd H x (XN x C (tI s⁻¹))) { s with heap:=h',toks:=s.toks+1+1 } :=
  I.write (x:=x) (e:=x) (by rw[e];exact True.intro) (.inl rfl) k0 ⟨_,hx2⟩ (zcU hx2)
 have hd2:ObjOk X.prog X.w (upd (upd H x (XN x C (tI s⁻¹))) s⁻¹ (.xd [(f,y)])) h' s⁻¹ (.xd [(f,y)]):=by
  refine#[_,hn',λg=>?_];show RelO (bt g [(f,y)]) (if g=f then tI u else tJ);by_cases q:g=f
  ·subst q;rw[if_pos rfl];simp [bt,RelO,ry]
  ·rw[if_neg q];have q':(g == f)=tL:=by simpa using q
   simp [bt,q',RelO]
 have fd:wa X tM (upd H x (XN x C (tI s⁻¹))) s⁻¹:=I.fpOk (ak _) (by rw[zo (Ne.symm hxe)];exact hfr);have I2:=Inv.track I1 fd hd2
 have eH:upd (upd H x (XN x C (tI s⁻¹))) s⁻¹ (.xd [(f,y)])=upd (upd H s⁻¹ (.xd [(f,y)])) x (XN x C (tI s⁻¹)):=by
  funext b;unfold upd;by_cases b1:b=s⁻¹
  ·subst b1;rw[if_pos rfl,if_neg (Ne.symm hxe),if_pos rfl]
  ·by_cases b2:b=x
   ·subst b2;rw[if_neg b1,if_pos rfl,if_pos rfl]
   ·rw[if_neg b1,if_neg b2,if_neg b2,if_neg b1]
 rw[eH]at I2;exact I2
end
def zan(K:pD)(ta tv:TE)(f:pL):TS:=λD σ H=>tv σ H λy H1=>ta σ H1 λo H2=>∃x C,o=.ref x/\H2 x=tI (XN x C tJ)/\XC K C/\NoAttr K C f/\∀dx,H2 dx=tJ->D.nx σ (upd (upd H2 dx (.xd [(f,y)])) x (XN x C (tI dx)))
section
variable{X:Cx}{o value:pO}{f:pL}{pos pos':rB}{ta tv:TE}
theorem Vv(ha:PE X o ta)(hv:PE X value tv)(hs:swapsWith value (tI (.Attribute o f pos')) pos.line X.env=pure tL):PS X (.Assign [.Attribute o f pos'] value pos) (zan X.K ta tv f):=by
 intro tM s σ H D I h;refine rR (thn (hv tM s σ H _ I h) λu s1 ⟨y,H1,I1,ry,q⟩=>thn (ha tM s1 σ H1 _ I1 q) λov s2 ⟨x',H2,I2,rx,x,C,ex,e,xc,n,q2⟩=>?_) hs;subst ex;obtain rfl:ov=Value.ref x:=rx;exact KZ I2 e xc n ry λs3 dx hdx I3=>#[σ,_,I3,q2 dx hdx]
end
section
variable{M:sV}{A:pN}{E:pF->pG->Prop}{s:pG}{env:sy}
theorem Ut{K:pD}{x:tw pF}{Q:Flow->pG->Prop}(hh:A.handled=tJ)
  (h:pJ M A x (λv s1=>∃e C t dx,v=.ref e/\K.In s1.heap/\Zx K C=tK/\s1.heap.get? e=tI (xob C dx t .none)/\E (.ref e) s1) E s):pJ M A (raiseStmt env (tI x) tJ) Q E s:=by
 unfold raiseStmt;refine pq (thn h λv s1 h1=>?_);obtain⟨e,C,t,dx,rfl,X,hC,he,hE⟩:=h1;obtain⟨bm,N,nm,qn,bs,sn,sub,ab,col,dd,k0,k1,k2,k3,k5,lk,tl⟩:=vG hC;have hCo:=X _ _ lk;have T:=tl _ X;have hcB:(Value.ref C::bm).contains (.type "BaseException")=tK:=by rw[dm,T.hasType (show bmV.contains (.type "BaseException")=tK by symm),dL]
 obtain⟨hp,g,d,tk,os⟩:=s1
 repeat (first | with_reducible refine rj he ?_ | with_reducible refine rj hCo ?_ | (with_reducible refine rL hCo ?_;rw[hcB]) | wp_step)
 exact wpAny_raiseNew_none hh hE
theorem Uf{K:pD}{e:pO}{pos:rB}{Q:Flow->pG->Prop}(hh:A.handled=tJ)
  (h:pJ M A (eval e env) (λv s1=>∃a C t dx,v=.ref a/\K.In s1.heap/\Zx K C=tK/\s1.heap.get? a=tI (xob C dx t .none)/\E (.ref a) s1) E s):pJ M A (exec (.Raise (tI e) tJ pos) env) Q E s:=by
 rw[arm_exec_Raise]
 first
  | exact pq (rq (Ut hh (pq (thn h λv s1 h1=>pq (rq (pz h1))))))
  | (erw[evalOpt,Option.map];exact pq (rq (Ut hh (pq (thn h λv s1 h1=>pq (rq (pz h1)))))))
end
noncomputable def del(H:Hp)(x:pE):Hp:=λb=>if b=x then tJ else H b
theorem Vf{H:Hp}{x b:pE}(h:b≠x):del H x b=H b:=if_neg h
theorem We{H:Hp}{x:pE}:del H x x=tJ:=if_pos rfl
section
variable{X:Cx}{tM:List (pE × rb)}{σ:St}{H:Hp}{s:pG}
theorem Inv.untrack{x:pE}{φ:pP->Prop}(I:Inv X tM σ H s)(e:H x=tI (.ext φ))(hs:X.s₀.heap.objs.size<=x):Inv X tM σ (del H x) s:=by
 have nx:∀b u,H b=tI u->(∀ψ,u≠.ext ψ)->b≠x:=λb u q nu z=>by subst z;rw[e]at q;cases q;exact nu _ rfl
 have hn:∀b,b≠x->del H x b=H b:=λb hb=>Vf hb;have es:s={ s with heap:=s.heap,gens:=s.gens,drawn:=s.drawn,toks:=s.toks }:=rfl;rw[es]
 refine I.step (g':=s.gens) (d':=s.drawn) (ch:=[x]) (λb hb=>?_) (λb o _ _ _ q _=>q) (λb o _ _ _ q _=>#[o.slots,q]) (λb o hc _ n=>?_)
  (λb o _ q=>#[o,q]) (λb xs q=>?_) (λb u xs q=>?_) (λb ps q=>?_) (λm hm=>hm) (λb u q=>?_) I.bare
 ·have eb:b=x:=by simpa using hb
  subst eb;refine#[.inr hs,λz=>?_,λy c q z=>?_,λp hp z=>?_]
  ·rw[z,I.free]at e;cases e
  ·have:=I.freeC y c q;rw[z,e]at this;cases this
  ·have:=(I.pin p hp).2.1;rw[z,e]at this;cases this
 ·rw[hn b (by simpa using hc)];exact n
 ·rw[hn b (nx b _ q λ_ z=>by cases z)];exact q
 ·rw[hn b (nx b _ q λ_ z=>by cases z)];exact q
 ·exact#[#[],by rw[hn b (nx b _ q λ_ z=>by cases z),q];simp]
 ·by_cases hb:b=x
  ·subst hb;rw[We]at q;cases q
  ·rw[hn b hb]at q;exact (I.hok b u q).stay (λc v _ z=>z) (λc z=>by rw[hn c (nx c _ z λ_ y=>by cases y)];exact z) λc xs z=>by rw[hn c (nx c _ z λ_ y=>by cases y)];exact z
theorem WO{C:pE}{us:List pF}{E:pF->pG->Prop}{Q:pF->pG->Prop}(I:Inv X tM σ H s)(xc:Zx X.K C=tK)(hi:ag X.K (.ref C) "__init__" = tI (tI (.builtin "ValueError.__init__")))(hl:us.length<=pC)
  (h:∀s' x t,s⁻¹<=x->Inv X tM σ H s'->s'.heap.get? x=tI (xob C tJ t .none)->Q (.ref x) s'):pJ (model X.prog X.w) X.A (call (.ref C) us) Q E s:=by
 have F:=d7;obtain⟨bm,N,nm,qn,bs,sn,sub,ab,col,dd,k0,k1,k2,k3,k5,lk,tl⟩:=vG xc;have hC:=I.kIn _ _ lk;have T:=tl _ I.kIn;obtain⟨hp,g,d,t,os⟩:=s;have k:∀b o,hp.get? b=tI o->((hp.push { cls:=.type "tuple",data:=.seq us.toArray }).push (xob C tJ hp.objs.size .none)).get? b=tI o:=λb o e=>aa _ (aa _ e);refine rG (XY I.kIn xc hi (λself=>PySem.W.Looks.of_pure (F.init.bind self)) hl ?_);have hget:((hp.push { cls:=.type "tuple",data:=.seq us.toArray }).push (xob C tJ hp.objs.size .none)).get? (hp.objs.size+1)=tI (xob C tJ hp.objs.size .none):=by heap_get
 refine rV F.init.plain F.initEntry (wpAny_check_init_subT F (T.keeps k) (k _ _ hC) hget rfl ?_)
 wp_walk
 refine#[rfl,h _ (hp.objs.size+1) ((hp.push { cls:=.type "tuple",data:=.seq us.toArray }).push (xob C tJ hp.objs.size .none)).objs.size (cw _) (I.kept (t':=t) λb o e=>?_) ?_]
 ·exact (aH _ _ (bW (cT (aq e)))).trans (aa _ (k b o e))
 ·exact cb (Obj.mapFields λx=>x.setIfInBounds 0 (Value.ref ((hp.push { cls:=.type "tuple",data:=.seq us.toArray }).push (xob C tJ hp.objs.size .none)).objs.size)) (aa _ hget) rfl
def YQ(E:XK)(C:pE)(t:TA):TS:=λ_ σ H=>t σ H λvs H1=>vs.length<=pC/\E (.ref C) tJ H1
theorem yu{E:XK}{C:pE}{cn:pL}{np cpos pos:rB}{e:pO}{es:List pO}{t:TA}(hx:XE X E)(hc:X.calm=tK)(xc:XC X.K C)(hi:ag X.K (.ref C) "__init__" = tI (tI (.builtin "ValueError.__init__")))(hg:Gl X cn)(hm:X.mg cn=tI (.ref C))(ha:PA X (e::es) t)
  (hdb:(cn ==("__debug__" : pL))=tL:=by decide) (he:pB (e::es) X.env=(tL,eval e X.env)::pB es X.env:=by rfl) (hpl:(pV cpos (pB es X.env)).any (·.1)=tL:=by rfl) :
  PS X (.Raise (tI (.Call (.Name cn np) (e::es) [] cpos)) tJ pos) (YQ E C t):=by
 intro tM s σ H D I h;refine Uf (K:=X.K) (I.ok.hd hc) (pY (vk I hg hm ?_ hdb));refine bO (h₀:=X.base) I.ok.mod.kin xc.kp (thn (ha cpos tM s σ H _ I h) λus s1 ⟨vs,H1,I1,r,z,q⟩=>#[I1.kIn,?_]) he hpl;refine WO (us:=[] ++ us) I1 xc.ok hi (by show us.length<=pC;rw[<- r.length];exact z) λs2 x t hz I2 ob=>#[x,C,t,tJ,rfl,I2.kIn,xc.ok,ob,?_];exact hx _ _ #[tM,σ,H1,x,C,t,tJ,.none,rfl,I2,ob,.inl rfl,I1.fpOk hz (I1.hok.fresh hz),λT z=>(by cases z),q]
theorem Vz{A:pN}{C:pE}{us:List pF}{k:Nat}(r:Room (k+1) A):Room k (A.under (.builtin "type.__call__" #[.ref C::us,[]])):=r.make C us []
def Yn(E:XK)(C:pE)(sp:Sp)(t:TA):TS:=λ_ σ H=>t σ H λvs H1=>vs.length<=pC/\∀x,H1 x=tJ->sp (.ref x::vs) (upd H1 x (XN x C tJ)) (λv H2=>v=.non/\∃dx,H2 x=tI (XN x C dx)/\E (.ref C) dx (del H2 x)) E0
theorem Yg{E:XK}{C f:pE}{fd:pH}{k:Nat}{ps:List pL}{sp:Sp}{cn:pL}{np cpos pos:rB}{e:pO}{es:List pO}{t:TA}(hx:XE X E)(hc:X.calm=tK)(xc:XC X.K C)(hi:ag X.K (.ref C) "__init__" = tI (tI (.ref f)))(hfn:bj X.K (.ref f)=tK)
  (F:FnOk X.prog X.w X.K X.mg X.base CX0 k f fd ps sp) (hr:Room (k+1) X.A) (hb:Binds X.K fd ps []) (hg:Gl X cn) (hm:X.mg cn=tI (.ref C)) (ha:PA X (e::es) t)
  (hdb:(cn ==("__debug__" : pL))=tL:=by decide) (he:pB (e::es) X.env=(tL,eval e X.env)::pB es X.env:=by rfl) (hpl:(pV cpos (pB es X.env)).any (·.1)=tL:=by rfl) :
  PS X (.Raise (tI (.Call (.Name cn np) (e::es) [] cpos)) tJ pos) (Yn E C sp t):=by
 intro tM s σ H D I h;refine Uf (K:=X.K) (I.ok.hd hc) (pY (vk I hg hm ?_ hdb));refine bO (h₀:=X.base) I.ok.mod.kin xc.kp (thn (ha cpos tM s σ H _ I h) λus s1 ⟨vs,H1,I1,r,z,q⟩=>#[I1.kIn,?_]) he hpl;have hl:us.length<=pC:=by rw[<- r.length];exact z
 have ob:((s1.heap.push { cls:=.type "tuple",data:=.seq us.toArray }).push (xob C tJ s1⁻¹ .none)).get? (s1⁻¹+1)=tI (xob C tJ s1⁻¹ .none):=by heap_get
 have hfr:H1 (s1⁻¹+1)=tJ:=I1.hok.fresh (cw _)
 have I2:Inv X tM σ (upd H1 (s1⁻¹+1) (XN (s1⁻¹+1) C tJ)) { s1 with heap:=(s1.heap.push { cls:=.type "tuple",data:=.seq us.toArray }).push (xob C tJ s1⁻¹ .none) } :=
  I1.laid (t':=s1.toks) (λb o e=>aa _ (aa _ e)) (cw _) (zcU ob)
 have q1:=q _ hfr;have r2:Vals (V.ref (s1⁻¹+1)::vs) (Value.ref (s1⁻¹+1)::us):=.cons rfl r
 have hlen:(Value.ref (s1⁻¹+1)::us ++ ([]:List pF)).length=ps.length:=by
  rw[aG,<- r2.length];exact F.len _ _ _ _ q1
 have hb2:=hb { s1 with heap:=(s1.heap.push { cls:=.type "tuple",data:=.seq us.toArray }).push (xob C tJ s1⁻¹ .none) } (Value.ref (s1⁻¹+1)::us) I2.kIn hlen;rw[aG]at hb2;have run:=F.run _ X.stack _ _ #[Value.ref (s1⁻¹+1)::us,[]] (Value.ref (s1⁻¹+1)::us) _ _ E0 (Vz (C:=C) (us:=us) hr) (I2.env0.make C us []) hb2 r2 q1;have sz0:X.s₀.heap.objs.size<=s1⁻¹+1:=aN I1.sz (cw _);show pJ (model X.prog X.w) X.A (call (.ref C) us) _ X.xe s1;refine rG ?_;refine XY (h:=s1.heap) (g:=s1.gens) (d:=s1.drawn) (t:=s1.toks) (os:=s1.os) (rest:=us) I1.kIn xc.ok hi (λself=>fW I1.kIn self (beq_iff_eq.mp hfn)) hl (rJ run λr s' hq=>?_)
 cases r with
 | error e=>exact False.elim hq
 | ok fl =>
  cases fl with
  | ret u =>
   obtain⟨v,H',I3,rv,ev,dx,hx3,q3⟩:=I2.after hq;subst ev;refine#[rv,?_];obtain⟨t,ob3⟩:=zbI (I3.hok _ _ hx3);have I4:=Inv.untrack I3 hx3 sz0;refine#[_,C,t,dx,rfl,I3.kIn,xc.ok,ob3,hx _ _ #[tM,σ,_,_,C,t,dx,.none,rfl,I4,ob3,.inl rfl,?_,λT z=>(by cases z),q3]];exact I1.fpOk (cw _) We
  | next=>exact False.elim hq
  | brk=>exact False.elim hq
  | cont=>exact False.elim hq
end
def KS(X:Cx)(tM:List (pE × rb))(σ:St)(E:XK)(e:pF)(s:pG):Prop:=∃(cx:pF) (kx:Bool) (H:Hp) (x C t:pE) (dx:Option pE) (tb:pF),e=.ref x/\Inv X tM σ H s /\
 s.heap.get? x=tI (xog C dx t tb cx kx)/\KY s.heap x tb/\wa X tM H x/\(∀T,tb=.ref T->wa X tM H T)/\E (.ref C) dx H
noncomputable abbrev TX:=St->Hp->VK->XK->Prop
def PEX(X:Cx)(e:pO)(t:TX):Prop :=
 ∀(tM:List (pE × rb)) (s:pG) (σ:St) (H:Hp) (Q:VK) (E:XK),Inv X tM σ H s->t σ H Q E->pJ (model X.prog X.w) X.A (eval e X.env) (EP X tM σ Q) (KS X tM σ E) s
section
variable{X:Cx}
variable{k:Nat}{f:pE}{fd:pH}{ps:List pL}{sp:Sp}{dvs:List V}{ds:List pF}{x:pL}{p pos:rB}{e:pO}{es:List pO}{t:TA}
theorem JJ(F:FnOk X.prog X.w X.K X.mg X.base (CXx X.prog X.w) k f fd ps sp)(hr:Room k X.A)(hg:Gl X x)(hm:X.mg x=tI (.ref f))(hk:aJ X.K (.ref f)=tK)(hb:Binds X.K fd ps ds)(hd:Vals dvs ds)
  (ha:PA X.nox (e::es) t) (hdb:(x ==("__debug__" : pL))=tL:=by decide) (he:pB (e::es) X.env=(tL,eval e X.env)::pB es X.env:=by rfl) (hpl:(pV pos (pB es X.env)).any (·.1)=tL:=by rfl) :
  PEX X (.Call (.Name x p) (e::es) [] pos) (λσ H Q E=>t σ H λvs H1=>sp (vs ++ dvs) H1 Q E):=by
 intro tM s σ H Q E I h;refine pY (vk I hg hm ?_ hdb);refine bO (h₀:=X.base) I.ok.mod.kin hk (rz (thn (ha pos tM s σ H _ (I.wish _) h) λus s1 ⟨vs,H1,I1,r,q⟩=>#[I1.kIn,?_])) he hpl;have I1':Inv X tM σ H1 s1:=I1.unwish;have r2:Vals (vs ++ dvs) (us ++ ds):=r.append hd;have hl:(us ++ ds).length=ps.length:=by rw[<- r2.length];exact F.len _ _ _ _ q
 refine rG (rJ (F.run X.A X.stack s1 H1 #[us,[]] (us ++ ds) (vs ++ dvs) Q E hr I1'.env0 (hb s1 us I1'.kIn hl) r2 q) λr s' hq=>?_)
 cases r with
 | error e =>
  obtain⟨x,C,t,dx,tb,H',rfl,os,bare,un,hok,ob,tr,hn,hsz,hT,q⟩:=hq;exact#[.none,tL,H',x,C,t,dx,tb,rfl,I1'.call' os un hok bare (λb z=>absurd z (by simp)),ob,tr,I1'.fpOk hsz hn,λT e=>I1'.fpOk (hT T e).2 (hT T e).1,q]
 | ok fl =>
  cases fl with
  | ret u=>exact I1'.after hq
  | next=>exact False.elim hq
  | brk=>exact False.elim hq
  | cont=>exact False.elim hq
end
noncomputable abbrev Cx.suite(X:Cx)(e:pF):Cx:={ X with A:=X.A.mark (tI e),calm:=tL,xe:=λ_ _=>False }
theorem Inv.suite{X:Cx}{tM:List (pE × rb)}{σ:St}{H:Hp}{s:pG}(I:Inv X tM σ H s)(e:pF):Inv (Cx.suite X e) tM σ H s :=
 #[#[I.ok.mod,I.ok.kind,I.ok.glob,I.ok.blt,I.ok.above,I.ok.inj,I.ok.has,I.ok.cab,λz=>absurd z (by simp [Cx.suite]),I.ok.frames,I.ok.stk,I.ok.exf,I.ok.bs,I.ok.bsz,I.ok.noex,I.ok.exfs,I.ok.funs,I.ok.frf],
  I.os,I.bare,I.base,I.loc,I.cell,I.free,I.freeC,I.pin,I.hok,I.len]
theorem Inv.unsuite{X:Cx}{tM:List (pE × rb)}{σ σ':St}{H H':Hp}{s s':pG}{e:pF}(J:Inv X tM σ' H' s')(I:Inv (Cx.suite X e) tM σ H s):Inv X tM σ H s :=
 #[J.ok,I.os,I.bare,I.base,I.loc,I.cell,I.free,I.freeC,I.pin,I.hok,I.len]
section
variable{X:Cx}{tM:List (pE × rb)}{σ:St}{H:Hp}{s:pG}
end
theorem zcn{M:sV}{A:pN}{E:pF->pG->Prop}{K:pD}{s:pG}{x C D t:pE}{dx:Option pE}{tb cx:pF}{kx:Bool}{b:Bool}{Q:Bool->pG->Prop}(X:K.In s.heap)(hD:Zx K D=tK)(he:s.heap.get? x=tI (xog C dx t tb cx kx))
  (hs:cZ K (.ref C) (.ref D)=tI b) (h:Q b s):pJ M A (excMatches (.ref x) (.ref D)) Q E s:=by
 obtain⟨bm,N,nm,qn,bs,sn,sub,ab,col,dd,k0,k1,k2,k3,k5,lk,tl⟩:=vG hD;have hDo:=X _ _ lk;have T:=tl _ X;have hcB:(Value.ref D::bm).contains (.type "BaseException")=tK:=by rw[dm,T.hasType (show bmV.contains (.type "BaseException")=tK by symm),dL]
 have L:=PySem.W.looks_subIn (M:=M) X hs;have f:=tc_notTuple;obtain⟨hp,g,d,tk,os⟩:=s;unfold excMatches
 repeat (first | with_reducible refine rj he ?_ | with_reducible refine rj hDo ?_ | (with_reducible refine rL hDo ?_;rw[hcB]) | (with_reducible refine PySem.W.Looks.at L ?_) | wp_step)
 cases b with
 | false=>exact pz (pz (pz h))
 | true=>exact pz (pz (pz h))
section
variable{X:Cx}
noncomputable def tbL:pF->List pE
 | .ref b=>[b]
 | _=>[]
end
section
variable{prog:pK}{w:pM}{A:pN}{E:pF->pG->Prop}{s:pG}{K:pD}{x C:pE}{ox:rb}{od:Option rb}{name:pL}{tk:rZ}
theorem zcd{fill expr:Bool}{Q:pF->pG->Prop}(X:K.In s.heap)(xc:XC K C)(J:PySem.W.InstAt s.heap x ox C od)
  (h:pJ (model prog w) A.in1 (Builtin.«object.__getattribute__» #[[.ref x,.str name tk],[]]) (λfin s'=>match fin with | .done (.ret v)=>pJ (model prog w) A (handedOut v) Q E s' | _=>False) (λ_ _=>False) s) :
  pJ (model prog w) A (getAttrBy (.ref x) (.str name tk) fill expr) Q E s:=by
 obtain⟨bm,N,nm,qn,bs,sn,sub,ab,col,dd,k0,k1,k2,k3,k5,lk,tl⟩:=vG xc.ok;have hC:=X _ _ lk;have T:=tl _ X;have FB:=PySem.F.attrBase_ValueError;have L0:=J.type (M:=model prog w);have L1:=cD (M:=model prog w) X xc.ga;have L2:=cD (M:=model prog w) X xc.gt;have hcB:(Value.ref C::bm).contains (.type "BaseException")=tK:=by rw[dm,T.hasType (show bmV.contains (.type "BaseException")=tK by symm),dL]
 have isB:PySem.W.Looks (model prog w) s.heap (isInstance (.ref x) (.type "BaseException")) tK:=L0.andThen (by have:=Zp (M:=model prog w) hC (.type "BaseException");rw[hcB]at this;exact this);have f3:=FB.ga.bind (.ref x);have hx0:(expr && onTheHeap (Value.builtin "BaseException.__getattribute__"))=tL:=by cases expr <;> rfl
 have hx2:(Value.builtin "BaseException.__getattribute__" == Value.builtin "object.__getattribute__")=tL:=by symm
 have hx1:(onTheHeap (Value.ref C) && Value.builtin "BaseException.__getattribute__" == Value.builtin "object.__getattribute__")=tL:=by rw[hx2];rfl
 unfold getAttrBy;refine re (pq (L0.here (pq (L1.here ?_))));show pJ _ _ (if (onTheHeap (Value.ref C) && Value.builtin "BaseException.__getattribute__" == Value.builtin "object.__getattribute__")=tK then _ else _) _ _ _;rw[hx1,if_neg aC];unfold getAttrByItsOwn hookBefore;rw[if_pos (by rfl)];refine pq (L2.here (pq (rT (re ?_))));unfold callGetattribute;rw[hx0,if_neg aC];unfold boundAndCalled;rw[f3];refine pq (pz ?_);show pJ (model prog w) A (call (.builtin "BaseException.__getattribute__") [.ref x,.str name tk]) _ _ s;refine rG (rV FB.ga.plain PySem.F.entry_bexc_ga (@PySem.W.check_slot (model prog w) _ _ s "BaseException.__getattribute__" "BaseException" "__getattribute__" (.ref x) [.str name tk] [] _ (by symm) (by symm) isB (PySem.F.args_bexc_ga _ _) ?_));refine rF h (λfin s' z=>?_) λ_ _ z=>z.elim;rcases fin with (_ | _ | _ | v) | _ <;> first | exact z | exact z.elim
theorem Kb{Q:Option pF->pG->Prop}(X:K.In s.heap)(xc:XC K C)(J:PySem.W.InstAt s.heap x ox C od)(ha:ag K (.ref C) "__class__" = tI (tI (.builtin "object.__class__")))
  (hn:cB K (.builtin "object.__class__") "__get__" = tI (tI (.builtin "getset_descriptor.__get__"))) (htk:dJ K (.builtin "object.__class__")=tI tK) (hm:bG K C (.type "object")=tI tK)
  (h:Q (tI (.ref C)) { s with toks:=s.toks+1 }):pJ (model prog w) A (getAttr? (.ref x) "__class__") Q E s:=by
 have hf:fX K C od "__class__" = tI (.bind (.builtin "getset_descriptor.__get__") (.builtin "object.__class__")):=by
  obtain⟨bm,N,nm,qn,bs,sn,sub,ab,col,dd,k0,k1,k2,k3,k5,lk,tl⟩:=vG xc.ok;have hcl:(PySem.W.clsIn K C).isSome=tK:=by unfold PySem.W.clsIn;rw[lk];rfl
  obtain⟨cd,hc⟩:=Ad.mp hcl;unfold fX;rw[hc,bY,ha,bY];simp [hn,htk]
 unfold getAttr? getAttrBy?;refine pq (wpAny_mkText (pq (rT (zcd (s:={ s with toks:=s.toks+1 }) X xc J ?_))));have L0:=J.type (M:=model prog w);have L1:=PySem.W.looks_find (M:=model prog w) X J hf;unfold Builtin.«object.__getattribute__»;refine pq (pz (pq (pz (pq (L0.here (s:={ s with toks:=s.toks+1 }) (pq (L1.here (s:={ s with toks:=s.toks+1 }) ?_)))))));show pJ _ _ (holding [.builtin "object.__class__"] (call (.builtin "getset_descriptor.__get__") [.builtin "object.__class__",.ref x,.ref C]) >>= ret) _ _ _;refine pq (re (rG (PySem.W.class_get (s:={ s with toks:=s.toks+1 }) X J hm ?_)));refine pz ?_;show pJ _ _ (handedOut (.ref C)) _ _ _;rw[PySem.W.handedOut_of rfl];exact pz (pz h)
end
structure XI(K:pD)(C:pE):Prop extends XC K C where
 ca:ag K (.ref C) "__class__" = tI (tI (.builtin "object.__class__"))
 cg:cB K (.builtin "object.__class__") "__get__" = tI (tI (.builtin "getset_descriptor.__get__"))
 ct:dJ K (.builtin "object.__class__")=tI tK
 mo:bG K C (.type "object")=tI tK
theorem zbK{h:pP}{x C t:pE}{tb c:pF}{k:Bool}(ob:h.get? x=tI (xog C tJ t tb c k)):PySem.W.InstAt h x (xog C tJ t tb c k) C tJ:=#[ob,rfl,rfl,trivial]
theorem zdp{K:pD}{x C:pE}{dx:Option pE}(xi:XI K C):PySem.W.KitX K (.ref x) (.ref C) (λh=>(∃t tb c k,h.get? x=tI (xog C dx t tb c k))/\∀d,dx=tI d->∃o,h.get? d=tI o) where
 ty:=λM h X ⟨⟨t,tb,c,k',ob⟩,_⟩=>(PySem.W.Looks.ld ob).andThen .now
 it:=λM h X _=>by
  obtain⟨bm,N,nm,qn,bs,sn,sub,ab,col,dd,k0,k1,k2,k3,k5,lk,tl⟩:=vG xi.ok;intro A' Q' E' s' k q;unfold isType loadHead;exact pq (sE (k _ _ (X _ _ lk)) (pz q))
 ne:=λh tp dd its n sl X htp=>by
  obtain⟨bm,N,nm,qn,bs,sn,sub,ab,col,dd,k0,k1,k2,k3,k5,lk,tl⟩:=vG xi.ok;refine Al.mpr λq=>?_;have e:C=tp:=Value.ref.inj (beq_iff_eq.mp q);subst e;have z:=congrArg (λo:Option rb=>o.map λo=>match o.data with | .cls _=>tK | _=>tL) ((X _ _ lk).symm.trans htp);exact absurd (show tK=tL from Option.some.inj z) ∅
 ca:=λ{prog w A E Q s} X ⟨⟨t,tb,c,k',ob⟩,hd⟩ k=>by
  cases dx with
  | none=>exact Kb X xi.toXC (zbK ob) xi.ca xi.cg xi.ct xi.mo k
  | some d =>
   obtain⟨o,e⟩:=hd d rfl;exact Kb (od:=tI o) X xi.toXC #[ob,rfl,rfl,e] xi.ca xi.cg xi.ct xi.mo k
section
variable{X:Cx}
def XAt(H:Hp)(x C:pE)(dx:Option pE)(fs:List (pL × V)):Prop:=H x=tI (XT x C dx)/\((dx=tJ/\fs=[])\/∃d,dx=tI d/\H d=tI (.xd fs))
theorem UU:vL X (.builtin "isinstance") (λxs H Q=>∃x C dx fs c u b,xs=[.ref x,c]/\cV c=tI u/\XAt H x C dx fs/\XI X.K C/\aR X.K (.ref C) u=tI b/\Q (.bl b) H):=by
 intro tM s σ H xs us Q I r h;obtain⟨x,C,dx,fs,c,u,b,rfl,hc,⟨hx,hd⟩,xi,e,q⟩:=h;obtain⟨v,w',rfl,rx,rc⟩:=Qj r;cases rx
 have:w'=u:=by
  cases c with
  | ty n=>cases hc;exact rc
  | ref a=>cases hc;exact rc
  | _=>cases hc
 subst this;refine bq (zdp (dx:=dx) xi) I.kIn #[zec (I.hok _ _ hx),λd z=>?_] e (λz=>nomatch z) λtk=>#[.bl b,H,I.tok tk,rfl,q];rcases hd with ⟨z',_⟩ | ⟨d',z',hd'⟩
 ·rw[z']at z;cases z
 ·rw[z']at z;cases z;obtain⟨mA,⟨o,es,ep,ho,_⟩,_⟩:=I.hok _ _ hd';exact#[o,ho]
end
structure Df(P:pK)(w:pM)(K:pD)(mg:pL->Option pF)(base:pP)(CX:CXT)(k:Nat)(nm:pL)(ps:List pL)(ds:List pF)(sp:Sp):Prop where
 ex:∃f fd,FnOk P w K mg base CX k f fd ps sp/\mg nm=tI (.ref f)/\aJ K (.ref f)=tK/\Binds K fd ps ds
structure Bt(mg:pL->Option pF):Prop where
 len:mg "len" = tJ
 range:mg "range" = tJ
 isi:mg "isinstance" = tJ
 str:mg "str" = tJ
 int:mg "int" = tJ
 tuple:mg "tuple" = tJ
 list:mg "list" = tJ
 bool:mg "bool" = tJ
 enum:mg "enumerate" = tJ
 all:mg "all" = tJ
 verr:mg "ValueError" = tJ
 max:mg "max" = tJ
 rev:mg "reversed" = tJ
 zip:mg "zip" = tJ
 sum:mg "sum" = tJ
 sorted:mg "sorted" = tJ
section
variable{X:Cx}{CX:CXT}{k:Nat}{ps:List pL}{sp:Sp}{ds:List pF}{dvs:List V}{E:XK}{x:pL}{p pos:rB}{e:pO}{es:List pO}{t:TA}
theorem cl0{j:Nat}(D:Df X.prog X.w X.K X.mg X.base CX0 k x ps ds sp)(hr:Room j X.A)(hd:Vals dvs ds)(hg:Gl X x)(ha:PA X (e::es) t)(hdb:(x ==("__debug__" : pL))=tL:=by decide)(he:pB (e::es) X.env=(tL,eval e X.env)::pB es X.env:=by rfl)
  (hpl:(pV pos (pB es X.env)).any (·.1)=tL:=by rfl) (hj:k<=j:=by decide):PE X (.Call (.Name x p) (e::es) [] pos) (uu sp dvs E0 t):=by
 obtain⟨f,fd,F,hm,hk,hb⟩:=D.ex;exact UF F (hr.mono hj) hg hm hk hb hd YU ha hdb he hpl
theorem clX{j:Nat}(D:Df X.prog X.w X.K X.mg X.base (CXx X.prog X.w) k x ps ds sp)(hr:Room j X.A)(hd:Vals dvs ds)(hg:Gl X x)(ha:PA X.nox (e::es) t)(hdb:(x ==("__debug__" : pL))=tL:=by decide)(he:pB (e::es) X.env=(tL,eval e X.env)::pB es X.env:=by rfl)
  (hpl:(pV pos (pB es X.env)).any (·.1)=tL:=by rfl) (hj:k<=j:=by decide):PEX X (.Call (.Name x p) (e::es) [] pos) (λσ H Q E=>t σ H λvs H1=>sp (vs ++ dvs) H1 Q E):=by
 obtain⟨f,fd,F,hm,hk,hb⟩:=D.ex;exact JJ F (hr.mono hj) hg hm hk hb hd ha hdb he hpl
theorem clP{j:Nat}(hx:XE X E)(D:Df X.prog X.w X.K X.mg X.base (CXx X.prog X.w) k x ps ds sp)(hr:Room j X.A)(hd:Vals dvs ds)(hg:Gl X x)(ha:PA X (e::es) t)(hdb:(x ==("__debug__" : pL))=tL:=by decide)(he:pB (e::es) X.env=(tL,eval e X.env)::pB es X.env:=by rfl)
  (hpl:(pV pos (pB es X.env)).any (·.1)=tL:=by rfl) (hj:k<=j:=by decide):PE X (.Call (.Name x p) (e::es) [] pos) (uu sp dvs E t):=by
 obtain⟨f,fd,F,hm,hk,hb⟩:=D.ex;exact UF F (hr.mono hj) hg hm hk hb hd (X8 hx) ha hdb he hpl
end
def TyX(K:pD)(H:Hp)(x:V)(t:pF):Prop:=Wo K H x t\/(∃a C dx fs,x=.ref a/\t=.ref C/\XAt H a C dx fs/\XI K C)\/(∃a xs,x=.ref a/\t=.type "list"/\SqL K H a xs)\/∃a xs,x=.ref a/\t=.type "tuple"/\SqT K H a xs
def zdb(K:pD):List V->Hp->VK->Prop:=λxs H Q=>∃x c u t b,xs=[x,c]/\cV c=tI u/\TyX K H x t/\aR K t u=tI b/\Q (.bl b) H
theorem zd6{X:Cx}:vL X (.builtin "isinstance") (zdb X.K):=by
 intro tM s σ H xs us Q I r h;obtain⟨x,c,u,t,b,rfl,hc,ty,e,q⟩:=h;rcases ty with ty | ⟨a,C,dx,fs,rfl,rfl,ha,xi⟩ | ⟨a,ys,rfl,rfl,hq⟩ | ⟨a,ys,rfl,rfl,hq⟩
 ·exact QR tM s σ H _ us Q I r #[x,c,u,t,b,rfl,hc,ty,e,q]
 ·exact UU tM s σ H _ us Q I r #[a,C,dx,fs,c,u,b,rfl,hc,ha,xi,e,q]
 all_goals
  obtain⟨v,w',rfl,rx,rc⟩:=Qj r
  have:w'=u:=by
   cases c with
   | ty n=>cases hc;exact rc
   | ref a=>cases hc;exact rc
   | _=>cases hc
  subst this;cases rx
 ·obtain⟨its,_,p,_⟩:=I.list hq;obtain⟨o,h1,h2,_⟩:=p.isList;exact bq ee I.kIn #[o,h1,h2] e (λz=>nomatch z) λtk=>#[.bl b,H,I.tok tk,rfl,q]
 ·obtain⟨its,_,p,_⟩:=I.tuple hq;obtain⟨o,h1,h2,_⟩:=p;exact bq fL I.kIn #[o,h1,h2] e (λz=>nomatch z) λtk=>#[.bl b,H,I.tok tk,rfl,q]
theorem yO{X:Cx}{e:pO}{te:TE}{c:pL}{n:String}{p q pos:rB}(h1:Gl X "isinstance")(h2:X.mg "isinstance" = tJ)(he:PE X e te)(hg:Gl X c)(hm:X.mg c=tJ)(hv:rf c=tI (.type n))(hn:c≠"__name__":=by decide)(hd:(c ==("__debug__" : pL))=tL:=by decide)
  (hs1:pB [e,.Name c q] X.env=(tL,eval e X.env)::pB [.Name c q] X.env:=by rfl) (hs3:pB [.Name c q] X.env=(tL,eval (.Name c q) X.env)::pB [] X.env:=by rfl) (hs2:(pV pos (pB [.Name c q] X.env)).any (·.1)=tL:=by rfl):PE X (.Call (.Name "isinstance" p) [e,.Name c q] [] pos) (tCB (zdb X.K) (zK te (zK (tC (.ty n)) wn))) :=
 wg zd6 h1 h2 boot_isinstance (za he (za (za1 hg hm hv rfl hn hd) zf hs3) hs1) (he:=hs1) (hpl:=hs2)
theorem JV{a:pE}:cV (.ref a)=tI (.ref a):=rfl
theorem zbF{n:String}:cV (.ty n)=tI (.type n):=rfl
theorem zd9{P w K mg base N q sc f cd A o s H}:(cxH P w K mg base N q sc f cd A o s H).K=K:=rfl
def XJ:V->List V->Hp->VK->Prop:=λx xs H Q=>∃z y,x=.str z/\xs=[.str y]/\Q (.int (Txt.count z y)) H
theorem Y9{X:Cx}:MtR X "str.count" XJ:=Jj
theorem YR(l:())(c:Nat):Txt.count (tx l) (tx [c])=(l.count c:Int):=by
 have h:∀l:(),cnt c l=(l.count c:Int):=λl=>by
  induction l with
  | nil=>rfl
  | cons n r ih =>
   rw[cnt_cons,ih,List.count_cons];by_cases e:n=c
   ·subst e;simp;lia
   ·have:(n == c)=tL:=by simpa using e
    simp [e,this]
 exact (PyProof.Rows.count_is (tx l) c).trans (h l)
theorem lt1{a b:Nat}:([a]:()) < [b] ↔ a<b:=by rw[List.cons_lt_cons_iff];exact#[λh=>h.elim id λ⟨_,q⟩=>absurd q (List.not_lt_nil _),.inl]
theorem Uc{l:()}{k v:Nat}(h:l[k]? = tI v):(v::(l.take k ++ l.drop (k+1))).Perm l:=by
 obtain⟨hk,e⟩:=tP.mp h
 have e2:l.take k ++ (v::l.drop (k+1))=l:=by
  rw[<- e,<- aS hk,cy]
 exact (List.perm_middle.symm.trans (by rw[e2]))
def Qt(K:pD):List V->Hp->VK->Prop:=λxs H Q=>match xs with
 | [.str z]=>z.length<=pC/\Q (.int z.length) H
 | [.ref a]=>∃n:Nat,((∃xs,SqL K H a xs/\n=xs.length)\/∃xs,SqT K H a xs/\n=xs.length)/\Q (.int n) H
 | xs=>∃x n,xs=[x]/\zb6 K x H n/\Q (.int n) H
theorem rLen_is{K:pD}{xs:List V}{H:Hp}{Q:VK}:Qt K xs H Q=∃x n,xs=[x]/\zb6 K x H n/\Q (.int n) H:=by
 unfold Qt;split
 ·exact propext #[λh=>#[_,_,rfl,#[h.1,rfl],h.2],λ⟨_,_,e,h,q⟩=>by cases e;obtain⟨h,rfl⟩:=h;exact#[h,q]]
 ·exact propext #[λ⟨n,h,q⟩=>#[_,n,rfl,h,q],λ⟨_,n,e,h,q⟩=>by cases e;exact#[n,h,q]]
 ·rfl
theorem zdK{X:Cx}:vL X (.builtin "len") (Qt X.K):=λtM s σ H xs us Q I r h=>Qx tM s σ H xs us Q I r (rLen_is.mp h)
def ForR(lo:Int)(n:Nat)(g:TG)(tb:TS)(D:vd)(σ:St)(H:Hp):Prop:=∃W:Nat->Nat->St->Hp->Prop,(∃m,W 0 m σ H)/\∀i m σ H,W i m σ H ->
 ((Itr lo n).stop i H/\D.nx σ H)\/((Itr lo n).go i H/\∃N:St->Hp->Prop,(∀σ' H',N σ' H'->∃m',m'<m/\W (i+1) m' σ' H')/\∀x H',(Itr lo n).yld i H x H'->g x σ H' λσ2 H2=>tb { D with nx:=N,ct:=N,bk:=D.nx } σ2 H2)
theorem zcL{ta:TA}{g:TG}{tb:TS}{D:vd}{σ:St}{H:Hp}:Jn (K7 ta) g tb D σ H=ta σ H λvs H1=>∃j:Int,vs=[.int j]/\-(2 ^ 62)<=j/\j<2 ^ 62/\ForR 0 j.toNat g tb D σ H1:=rfl
theorem zck{ta:TA}{g:TG}{tb:TS}{D:vd}{σ:St}{H:Hp}:Jn (zcB ta) g tb D σ H=ta σ H λvs H1=>∃i j:Int,vs=[.int i,.int j]/\(-(2 ^ 62)<=i/\i<2 ^ 62/\-(2 ^ 62)<=j/\j<2 ^ 62)/\ForR i (j - i).toNat g tb D σ H1:=rfl
theorem ForR.by{lo:Int}{n:Nat}{g:TG}{tb:TS}{D:vd}{σ:St}{H:Hp}(Pv:Nat->St->Hp->Prop)(h0:Pv 0 σ H)
  (hs:∀i σ H,i<n->Pv i σ H->g (.int (lo+i)) σ H λσ2 H2=>tb { D with nx:=Pv (i+1),ct:=Pv (i+1),bk:=D.nx } σ2 H2) (hd:∀σ H,Pv n σ H->D.nx σ H):ForR lo n g tb D σ H:=VT Pv h0 hs hd
def ForL(K:pD)(a:pE)(g:TG)(tb:TS)(D:vd)(σ:St)(H:Hp):Prop:=∃W:Nat->Nat->St->Hp->Prop,(∃m,W 0 m σ H)/\∀i m σ H,W i m σ H ->
 ((Itl K a).stop i H/\D.nx σ H)\/((Itl K a).go i H/\∃N:St->Hp->Prop,(∀σ' H',N σ' H'->∃m',m'<m/\W (i+1) m' σ' H')/\∀x H',(Itl K a).yld i H x H'->g x σ H' λσ2 H2=>tb { D with nx:=N,ct:=N,bk:=D.nx } σ2 H2)
theorem zeM{K:pD}{tl:TE}{g:TG}{tb:TS}{D:vd}{σ:St}{H:Hp}:Jn (zah K tl) g tb D σ H=tl σ H λx H1=>∃a,x=.ref a/\(∃xs,SqL K H1 a xs)/\ForL K a g tb D σ H1:=rfl
def ForS(x:pL)(g:TG)(tb:TS)(D:vd)(σ:St)(H:Hp):Prop:=∃W:Nat->Nat->St->Hp->Prop,(∃m,W 0 m σ H)/\∀i m σ H,W i m σ H ->
 ((Its x).stop i H/\D.nx σ H)\/((Its x).go i H/\∃N:St->Hp->Prop,(∀σ' H',N σ' H'->∃m',m'<m/\W (i+1) m' σ' H')/\∀v H',(Its x).yld i H v H'->g v σ H' λσ2 H2=>tb { D with nx:=N,ct:=N,bk:=D.nx } σ2 H2)
theorem zeG{tl:TE}{g:TG}{tb:TS}{D:vd}{σ:St}{H:Hp}:Jn (zdA tl) g tb D σ H=tl σ H λv H1=>∃x,v=.str x/\ForS x g tb D σ H1:=rfl
theorem ForS.by{l:()}{g:TG}{tb:TS}{D:vd}{σ:St}{H:Hp}(Pv:Nat->St->Hp->Prop)(h0:Pv 0 σ H)
  (hs:∀i c σ H,l[i]? = tI c->Pv i σ H->g (.str (tx [c])) σ H λσ2 H2=>tb { D with nx:=Pv (i+1),ct:=Pv (i+1),bk:=D.nx } σ2 H2) (hd:∀σ H,Pv l.length σ H->D.nx σ H):ForS (tx l) g tb D σ H:=za2 Pv h0 hs hd
def ForE(x:pL)(g:TG)(tb:TS)(D:vd)(σ:St)(H:Hp):Prop:=∃W:Nat->Nat->St->Hp->Prop,(∃m,W 0 m σ H)/\∀i m σ H,W i m σ H ->
 ((Ite x).stop i H/\D.nx σ H)\/((Ite x).go i H/\∃N:St->Hp->Prop,(∀σ' H',N σ' H'->∃m',m'<m/\W (i+1) m' σ' H')/\∀v H',(Ite x).yld i H v H'->g v σ H' λσ2 H2=>tb { D with nx:=N,ct:=N,bk:=D.nx } σ2 H2)
theorem zep{ta:TA}{g:TG}{tb:TS}{D:vd}{σ:St}{H:Hp}:Jn (zcX ta) g tb D σ H=ta σ H λvs H1=>∃x,vs=[.str x]/\ForE x g tb D σ H1:=rfl
theorem ForE.by{l:()}{g:TG}{tb:TS}{D:vd}{σ:St}{H:Hp}(Pv:Nat->St->Hp->Prop)(h0:Pv 0 σ H)
  (hs:∀i c σ H p,l[i]? = tI c->Pv i σ H->H p=tJ->g (.ref p) σ (upd H p (.tup [.int (i:Nat),.str (tx [c])])) λσ2 H2=>tb { D with nx:=Pv (i+1),ct:=Pv (i+1),bk:=D.nx } σ2 H2) (hd:∀σ H,Pv l.length σ H->D.nx σ H):ForE (tx l) g tb D σ H:=Ju Pv h0 hs hd
theorem jG{α:Type}(l:List α){k:Int}(h:0<=k):cut l tJ (tI k)=l.take k.toNat:=by
 obtain⟨n,rfl⟩:=bE h;unfold cut;rw[HT.sIx_none,HT.sIx_nat,dZ,Nat.sub_zero];by_cases q:n<=l.length
 ·rw[dh q];rfl
 ·rw[dH ⋯,aP,bh (by simp;lia)]
theorem wS{α:Type}(l:List α){k:Int}(h:0<=k):cut l (tI k) tJ=l.drop k.toNat:=by
 obtain⟨n,rfl⟩:=bE h;unfold cut;rw[HT.sIx_none,HT.sIx_nat];by_cases q:n<=l.length
 ·rw[dh q];rw[bh (by rw[aW] <;> lia)];rfl
 ·rw[dH ⋯,dI,bi (by simp;lia)];simp
theorem qD{α:Type}{xs:List α}{i:Int}(h0:0<=i)(h1:i<xs.length):∃v,atI xs i=tI v/\xs[i.toNat]? = tI v:=by
 obtain⟨n,rfl⟩:=bE h0;have hn:n<xs.length:=⋯;exact#[xs[n],jf (aj hn),aj hn]
noncomputable def alpha:():=[97,98,99,100,101,102,103,104,105,106,107,108,109,110,111,112,113,114,115,116,117,118,119,120,121,122]
theorem UM:(("abcdefghijklmnopqrstuvwxyz" : pL))=tx alpha:=by symm
theorem z6:(pC:Nat)=16777216:=pZ
theorem cxK{CX P w K mg base N q sc f cd A o s H E}:(u8 CX P w K mg base N q sc f cd A o s H E).K=K:=rfl
theorem cxP{CX P w K mg base N q sc f cd A o s H E}:(u8 CX P w K mg base N q sc f cd A o s H E).prog=P:=rfl
theorem cxW{CX P w K mg base N q sc f cd A o s H E}:(u8 CX P w K mg base N q sc f cd A o s H E).w=w:=rfl
theorem zbC{a b:Int}:W4 (.int a) (.int b)=tK:=rfl
theorem zbS{a b:pL}:W4 (.str a) (.str b)=tK:=rfl
theorem zcs{a b:Bool}:W4 (.bl a) (.bl b)=tK:=rfl
theorem zce{b:pL}:W4 .non (.str b)=tK:=rfl
theorem zcz{b:pL}:W4 (.str b) .non=tK:=rfl
theorem zd{H:Hp}{p:pE}{o:HO}(h:H p=tJ):Same H (upd H p o):=λb u e=>by
 rw[zo (zF e h)];exact e
theorem zO{α:Type}{l:List α}{i:Nat}{c:α}(h:l[i]? = tI c):l.take (i+1)=l.take i ++ [c]:=by
 rw[List.take_add_one,h];rfl
theorem ky{α:Type}{l:List α}{i j:Nat}{c:α}(nd:l.Nodup)(hi:l[i]? = tI c)(hj:l[j]? = tI c):i=j :=
 (List.getElem?_inj (tP.mp hi).1 nd).mp (hi.trans hj.symm)
structure FunD(K:pD)(x qual:pL)(st:pQ)(dV:pF)(f:pE)(fd:pH):Prop where
 ex:∃(oc:pF) (od:Option pE) (kV doc pm:pF) (an:Option pE) (cdv ct:pF) (osl:Array (Option pF)),
  fd=bz x qual (yD st) (z9 st) (zh st) dV kV doc pm an cdv ct/\K.lookup f=tI #[oc,od,.func fd,osl]/\bU K cdv qual=tK
theorem FunD.okX{P:pK}{w:pM}{K:pD}{mg:pL->Option pF}{base:pP}{x qual:pL}{st:pQ}{dV:pF}{f:pE}{fd:pH}{N ps:List pL}{k:Nat}{sp:Sp}(F:FunD K x qual st dV f fd)(S:zk N ps (zh st))(len:∀vs H Q E,sp vs H Q E->vs.length=ps.length)
  (hbody:∀(cdv:pF) (A:pN) (outer:List sy) (s:pG) (H:Hp) (vs:List V) (Q:VK) (E:XK),Room k (A.deeper (rX qual (zh st) s⁻¹ f cdv))->XE (u8 (CXx P w) P w K mg base N qual (zh st) f cdv A outer s H E) E->sp vs H Q E ->
   ∃t,PSs (u8 (CXx P w) P w K mg base N qual (zh st) f cdv A outer s H E) (z9 st) t/\t { nx:=λ_ H'=>Q .non H',rt:=Q } (start N vs) H):FnOk P w K mg base (CXx P w) (k+1) f fd ps sp:=by
 obtain⟨oc,od,kV,doc,pm,an,cdv,ct,osl,rfl,lk,hcd⟩:=F.ex;exact Jc lk hcd S len λA outer s H vs Q E hr hsp=>hbody cdv A outer s H vs Q E hr zb8 hsp
def vV(C:pE)(f:pL):Sp:=λvs H Q _=>∃x v,vs=[.ref x,v]/\H x=tI (XN x C tJ)/\∀dx,H dx=tJ->Q .non (upd (upd H dx (.xd [(f,v)])) x (XN x C (tI dx)))
def zdV(H:Hp)(d:pE)(f:pL)(v:V)(H':Hp):Prop:=H d=tJ/\Same H H'/\H' d=tI (.xd [(f,v)])
theorem UD{E:XK}{C:pE}{f:pL}{v:V}{H:Hp}(h:∀d H',zdV H d f v H'->E (.ref C) (tI d) H'):∀x,H x=tJ->vV C f [.ref x,v] (upd H x (XN x C tJ)) (λu H2=>u=.non/\∃dx,H2 x=tI (XN x C dx)/\E (.ref C) dx (del H2 x)) E0:=by
 intro x hx;refine#[x,v,rfl,zc,λdx hd=>#[rfl,tI dx,zc,h dx _ #[?_,?_,?_]]]
 ·by_cases e:dx=x
  ·rw[e];exact hx
  ·rw[zo e]at hd;exact hd
 ·have hne:dx≠x:=λe=>by rw[e,zc]at hd;cases hd
  rw[zo hne]at hd;intro b o q;have b1:b≠x:=zF q hx;have b2:b≠dx:=zF q hd;rw[Vf b1,zo b1,zo b2,zo b1];exact q
 ·have hne:dx≠x:=λe=>by rw[e,zc]at hd;cases hd
  rw[Vf hne,zo hne,zc]
section
variable{X:Cx}
def zeN:R2:=λx y H Q=>match y with | .non=>Q (.bl (decide (x=.non))) H | _=>False
theorem op_isN':OpR X (pR .Is) zeN:=λtM s σ H x y v u Q I rx ry h=>by
 cases y with
 | non=>exact zbO tM s σ H x .non v u Q I rx ry #[rfl,h]
 | _=>exact h.elim
def zct:R2:=λx y H Q=>match y with | .non=>Q (.bl (!decide (x=.non))) H | _=>False
theorem op_notN':OpR X (pR .IsNot) zct:=λtM s σ H x y v u Q I rx ry h=>by
 cases y with
 | non=>exact zam tM s σ H x .non v u Q I rx ry #[rfl,h]
 | _=>exact h.elim
def JD:List V->Hp->VK->Prop:=λxs H Q=>match xs with | [.int i,.int j]=>Q (.int (if j > i then j else i)) H | _=>False
theorem UB(hc:X.calm=tK):vL X (.builtin "max") JD:=λtM s σ H xs us Q I r h=>by
 unfold JD at h;split at h
 ·exact Qi hc tM s σ H _ us Q I r #[_,_,rfl,h]
 ·exact h.elim
def rGe:R2:=λx y H Q=>onInt x λi=>onInt y λj=>Q (.bl (decide (j<=i))) H
theorem op_ge':OpR X (pR .GtE) rGe:=zdM
end
theorem uZ:rf "max" = tI (.builtin "max"):=by symm
def zbh(ls l:())(m:Int)(k:Nat):Prop:=∃c,l[k]? = tI c/\(m<=k\/c ∉ ls)
def FB(ls l:())(m:Int)(k:Nat):Prop:=zbh ls l m k/\∀j<k,¬ zbh ls l m j
def NB(ls l:())(m:Int):Prop:=∀j,¬ zbh ls l m j
theorem FB.nb{ls l:()}{m:Int}{k:Nat}(h:FB ls l m k)(n:NB ls l m):False:=n k h.1
inductive D where
 | non | bl (b:Bool) | int (i:Int) | str (x:pL) | lst (l:List D) | tup (l:List D)
mutual
def Is(K:pD)(H:Hp):D->V->Prop
 | .non,v=>v=.non
 | .bl b,v=>v=.bl b
 | .int i,v=>v=.int i
 | .str x,v=>v=.str x
 | .lst l,v=>∃a xs,v=.ref a/\SqL K H a xs/\Iss K H l xs
 | .tup l,v=>∃a xs,v=.ref a/\SqT K H a xs/\Iss K H l xs
def Iss(K:pD)(H:Hp):List D->List V->Prop
 | [],vs=>vs=[]
 | d::l,vs=>∃v r,vs=v::r/\Is K H d v/\Iss K H l r
end
mutual
noncomputable def eqD:D->D->Bool
 | .non,.non=>tK
 | .bl a,.bl b=>a == b
 | .bl a,.int b=>(if a then 1 else 0) == b
 | .int a,.bl b=>a ==(if b then 1 else 0)
 | .int a,.int b=>a == b
 | .str a,.str b=>a == b
 | .lst l,.lst m=>vZ l m
 | .tup l,.tup m=>vZ l m
 | _,_=>tL
noncomputable def vZ:List D->List D->Bool
 | [],[]=>tK
 | d::l,e::m=>eqD d e && vZ l m
 | _,_=>tL
end
mutual
noncomputable def dpD:D->Nat
 | .lst l=>uQ l+1
 | .tup l=>uQ l+1
 | _=>0
noncomputable def uQ:List D->Nat
 | []=>0
 | d::l=>max (dpD d) (uQ l)
end
theorem zaM:∀{l:List D} {j:Nat} {d:D},l[j]? = tI d->dpD d<=uQ l
 | d::l,0,_,h=>by
  cases h
  erw[uQ]
  lia
 | d::l,j+1,e,h=>by
  have:=zaM (l:=l) (j:=j) (d:=e) h
  erw[uQ]
  lia
mutual
theorem kF:∀d:D,eqD d d=tK
 | .non=>rfl
 | .bl b=>by simp [eqD]
 | .int i=>by simp [eqD]
 | .str x=>by simp [eqD]
 | .lst l=>by erw[eqD];exact vN l
 | .tup l=>by erw[eqD];exact vN l
theorem vN:∀l:List D,vZ l l=tK
 | []=>rfl
 | d::l=>by erw[vZ,kF d,vN l,Bool.and_self]
end
theorem Iss.len{K:pD}{H:Hp}:∀{l:List D} {vs:List V},Iss K H l vs->vs.length=l.length
 | [],vs,h=>by erw[Iss]at h;rw[h];rfl
 | d::l,vs,h=>by
  erw[Iss]at h
  obtain⟨v,r,rfl,_,h2⟩:=h
  erw[ay,Iss.len h2]
theorem Iss.at{K:pD}{H:Hp}:∀{l:List D} {vs:List V} {j:Nat} {d:D},Iss K H l vs->l[j]? = tI d->∃v,vs[j]? = tI v/\Is K H d v
 | d::l,vs,0,_,h,q=>by
  cases q
  erw[Iss]at h
  obtain⟨v,r,rfl,h1,_⟩:=h;exact#[v,rfl,h1]
 | d::l,vs,j+1,e,h,q=>by
  erw[Iss]at h
  obtain⟨v,r,rfl,_,h2⟩:=h;exact Iss.at (j:=j) h2 q
theorem Iss.append{K:pD}{H:Hp}:∀{l m:List D} {vs us:List V},Iss K H l vs->Iss K H m us->Iss K H (l ++ m) (vs ++ us)
 | [],m,vs,us,h,g=>by erw[Iss]at h;rw[h];exact g
 | d::l,m,vs,us,h,g=>by
  erw[Iss]at h
  obtain⟨v,r,rfl,h1,h2⟩:=h
  erw[aY,Iss]
  exact#[v,r ++ us,rfl,h1,Iss.append h2 g]
theorem Iss.ints{K:pD}{H:Hp}:∀(l:List Int),Iss K H (l.map D.int) (l.map V.int)
 | []=>by erw[aL,Iss]
 | i::l=>by
  erw[ar,Iss,Is]
  exact#[_,_,rfl,rfl,Iss.ints l]
theorem zq{K:pD}{H H':Hp}{a:pE}{xs:List V}(e:Same H H')(h:SqT K H a xs):SqT K H' a xs:=by
 rcases h with (h | ⟨o,h⟩) | h
 ·exact .inl (.inl (e _ _ h))
 ·exact .inl (.inr #[o,e _ _ h])
 ·exact .inr h
mutual
theorem Is.same{K:pD}{H H':Hp}(e:Same H H'):∀(d:D) (v:V),Is K H d v->Is K H' d v
 | .non,v,h=>by erw[Is]at h ⊢;exact h
 | .bl b,v,h=>by erw[Is]at h ⊢;exact h
 | .int b,v,h=>by erw[Is]at h ⊢;exact h
 | .str b,v,h=>by erw[Is]at h ⊢;exact h
 | .lst l,v,h=>by
  erw[Is]at h ⊢
  obtain⟨a,xs,e1,e2,e3⟩:=h;exact#[a,xs,e1,e.seq e2,Iss.same e l xs e3]
 | .tup l,v,h=>by
  erw[Is]at h ⊢
  obtain⟨a,xs,e1,e2,e3⟩:=h;exact#[a,xs,e1,zq e e2,Iss.same e l xs e3]
theorem Iss.same{K:pD}{H H':Hp}(e:Same H H'):∀(l:List D) (vs:List V),Iss K H l vs->Iss K H' l vs
 | [],vs,h=>by erw[Iss]at h ⊢;exact h
 | d::l,vs,h=>by
  erw[Iss]at h ⊢
  obtain⟨v,r,e1,e2,e3⟩:=h;exact#[v,r,e1,Is.same e d v e2,Iss.same e l r e3]
end
theorem vw:∀(l m:List D),vZ l m=((aV (min l.length m.length)).all (λj=>eqD (l.getD j .non) (m.getD j .non)) && l.length == m.length)
 | [],[]=>rfl
 | [],e::m=>by simp [vZ]
 | d::l,[]=>by simp [vZ]
 | d::l,e::m=>by
  erw[vZ,vw l m,ay]
  have h1:min (l.length+1) (m.length+1)=min l.length m.length+1:=⋯;rw[h1,e7,List.all_cons,List.all_map]
  have h2:(l.length+1 == m.length+1)=(l.length == m.length):=by
   rw[dc,beq_iff_eq,beq_iff_eq];lia
  rw[h2]
  erw[List.getD_cons_zero,Bool.and_assoc]
  rfl
section
variable{X:Cx}{tM:List (pE × rb)}{σ:St}{H:Hp}{s:pG}
theorem ZD{a:pE}{xs ys:List V}(I:Inv X tM σ H s)(h:SqL X.K H a xs)(g:SqT X.K H a ys):False:=by
 obtain⟨its,r,⟨o,n,e,c,_,d⟩,_⟩:=I.list h;obtain⟨its',r',⟨o',e',c',n',d'⟩,_⟩:=I.tuple g;rw[e]at e';cases e';rw[c]at c';exact absurd (Value.type.inj c') ∅
mutual
theorem Vj(I:Inv X tM σ H s):∀(d e:D) (v:V),Is X.K H d v->Is X.K H e v->d=e
 | .lst l,.lst m,v,h,g=>by
  erw[Is]at h g
  obtain⟨a,xs,rfl,h1,h2⟩:=h;obtain⟨b,ys,e,g1,g2⟩:=g;cases e;have:=I.list_inj h1 g1;subst this;rw[YE I l m xs h2 g2]
 | .tup l,.tup m,v,h,g=>by
  erw[Is]at h g
  obtain⟨a,xs,rfl,h1,h2⟩:=h;obtain⟨b,ys,e,g1,g2⟩:=g;cases e;have:=I.tuple_inj h1 g1;subst this;rw[YE I l m xs h2 g2]
 | .lst l,.tup m,v,h,g=>by
  erw[Is]at h g
  obtain⟨a,xs,rfl,h1,h2⟩:=h;obtain⟨b,ys,e,g1,g2⟩:=g;cases e;exact (ZD I h1 g1).elim
 | .tup l,.lst m,v,h,g=>by
  erw[Is]at h g
  obtain⟨a,xs,rfl,h1,h2⟩:=h;obtain⟨b,ys,e,g1,g2⟩:=g;cases e;exact (ZD I g1 h1).elim
 | .lst l,.non,v,h,g=>by erw[Is]at h g;obtain⟨a,xs,rfl,_⟩:=h;cases g
 | .lst l,.bl _,v,h,g=>by erw[Is]at h g;obtain⟨a,xs,rfl,_⟩:=h;cases g
 | .lst l,.int _,v,h,g=>by erw[Is]at h g;obtain⟨a,xs,rfl,_⟩:=h;cases g
 | .lst l,.str _,v,h,g=>by erw[Is]at h g;obtain⟨a,xs,rfl,_⟩:=h;cases g
 | .tup l,.non,v,h,g=>by erw[Is]at h g;obtain⟨a,xs,rfl,_⟩:=h;cases g
 | .tup l,.bl _,v,h,g=>by erw[Is]at h g;obtain⟨a,xs,rfl,_⟩:=h;cases g
 | .tup l,.int _,v,h,g=>by erw[Is]at h g;obtain⟨a,xs,rfl,_⟩:=h;cases g
 | .tup l,.str _,v,h,g=>by erw[Is]at h g;obtain⟨a,xs,rfl,_⟩:=h;cases g
 | .non,e,v,h,g=>by
  erw[Is]at h
  subst h;cases e <;> erw[Is]at g
  all_goals first | rfl | (obtain⟨a,xs,q,_⟩:=g;cases q) | cases g
 | .bl _,e,v,h,g=>by
  erw[Is]at h
  subst h;cases e <;> erw[Is]at g
  all_goals first | (cases g;rfl) | (obtain⟨a,xs,q,_⟩:=g;cases q) | cases g
 | .int _,e,v,h,g=>by
  erw[Is]at h
  subst h;cases e <;> erw[Is]at g
  all_goals first | (cases g;rfl) | (obtain⟨a,xs,q,_⟩:=g;cases q) | cases g
 | .str _,e,v,h,g=>by
  erw[Is]at h
  subst h;cases e <;> erw[Is]at g
  all_goals first | (cases g;rfl) | (obtain⟨a,xs,q,_⟩:=g;cases q) | cases g
theorem YE(I:Inv X tM σ H s):∀(l m:List D) (vs:List V),Iss X.K H l vs->Iss X.K H m vs->l=m
 | [],[],_,_,_=>rfl
 | [],e::m,vs,h,g=>by
  erw[Iss]at h g
  subst h;obtain⟨_,_,q,_⟩:=g;cases q
 | d::l,[],vs,h,g=>by
  erw[Iss]at h g
  subst g;obtain⟨_,_,q,_⟩:=h;cases q
 | d::l,e::m,vs,h,g=>by
  erw[Iss]at h g
  obtain⟨v,r,rfl,h1,h2⟩:=h;obtain⟨v',r',q,g1,g2⟩:=g;cases q;rw[Vj I d e v h1 g1,YE I l m r h2 g2]
end
theorem xH:∀{xs:List V} {us:List pF} {j:Nat} {x:V},Vals xs us->xs[j]? = tI x->∃u,us[j]? = tI u/\RelV x u
 | _,_,0,_,.cons r t,h=>by cases h;exact#[_,rfl,r]
 | _,_,j+1,_,.cons r t,h=>xH (j:=j) t h
theorem wT{l m:List D}{xs ys:List V}{its its':List pF}{A:pN}{n:Nat}(hl:Iss X.K H l xs)(hm:Iss X.K H m ys)(r:Vals xs its)(r':Vals ys its')(hn:uQ l<n)
  (ih:∀(d e:D) (x y:V) (u v:pF),dpD d<n->Is X.K H d x->Is X.K H e y->RelV x u->RelV y v->SeqAt.EqAt A s u v (eqD d e)) :
  ∀j (h1:j<its.toArray.size) (h2:j<its'.toArray.size),SeqAt.EqAt A s its.toArray[j] its'.toArray[j] (eqD (l.getD j .non) (m.getD j .non)):=by
 intro j h1 h2;rw[am]at h1 h2;have e1:=hl.len;have e2:=hm.len;have e3:=r.length;have e4:=r'.length;have g1:l[j]? = tI l[j]:=aj ⋯;have g2:m[j]? = tI m[j]:=aj ⋯;generalize l[j]=d at g1;generalize m[j]=e at g2;obtain⟨x,hx,ix⟩:=hl.at g1;obtain⟨y,hy,iy⟩:=hm.at g2;obtain⟨u,hu,ru⟩:=xH r hx;obtain⟨v,hv,rv⟩:=xH r' hy
 have q1:its.toArray[j]=u:=by
  have:=(tP.mp hu).2;simpa using this
 have q2:its'.toArray[j]=v:=by
  have:=(tP.mp hv).2;simpa using this
 rw[q1,q2,ac,ac,g1,g2];exact ih d e x y u v (cP (zaM g1) hn) ix iy ru rv
theorem Z2(I:Inv X tM σ H s):∀(n:Nat) (A:pN) (d e:D) (x y:V) (u v:pF),A.units+n<cLine->dpD d<n->Is X.K H d x->Is X.K H e y->RelV x u->RelV y v->SeqAt.EqAt A s u v (eqD d e):=by
 intro n
 induction n with
 | zero=>intro A d e x y u v _ h;exact absurd h (cQ _)
 | succ n ih =>
  intro A d e x y u v hu hd hx hy rx ry;have hu1:A.units<cLine:=⋯;have huA:A.in1.units+n<cLine:=by show A.units+1+n<cLine;lia
  cases d with
  | lst l =>
   erw[Is]at hx
   obtain⟨a,xs,rfl,h1,h2⟩:=hx;cases rx;obtain⟨its,r,p,_⟩:=I.list h1
   cases e with
   | non=>erw[Is]at hy;subst hy;cases ry;exact SeqAt.EqAt.list_none p.isList hu1
   | bl b=>erw[Is]at hy;subst hy;cases ry;exact SeqAt.EqAt.list_bool b p.isList hu1
   | int b=>erw[Is]at hy;subst hy;obtain⟨t,rfl⟩:=ry;exact SeqAt.EqAt.list_int b t p.isList hu1
   | str b=>erw[Is]at hy;subst hy;obtain⟨t,rfl⟩:=ry;exact SeqAt.EqAt.list_str b t p.isList hu1
   | tup m =>
    erw[Is]at hy
    obtain⟨b,ys,rfl,g1,g2⟩:=hy;cases ry;obtain⟨its',r',p',_⟩:=I.tuple g1;exact SeqAt.EqAt.list_tuple p.isList p' hu1
   | lst m =>
    have hy':=hy
    erw[Is]at hy
    obtain⟨b,ys,rfl,g1,g2⟩:=hy;cases ry;obtain⟨its',r',p',_⟩:=I.list g1
    erw[dpD]at hd
    by_cases hab:a=b
    ·subst hab;have:=Vj I (.lst l) (.lst m) (.ref a) (by erw[Is];exact#[a,xs,rfl,h1,h2]) hy';rw[this,kF];exact SeqAt.EqAt.same _
    ·refine .of_refs hab ?_
     erw[eqD]
     have L1:=h2.len;have L2:=g2.len;have L3:=r.length;have L4:=r'.length;by_cases hl:l.length=m.length
     ·have:=SeqAt.RcAt.lists (A:=A) p.isList p'.isList (by erw[am];lia) hu1 (wT h2 g2 r r' (n:=n) ⋯ λd e x y u v q1 q2 q3 q4 q5=>ih A.in1 d e x y u v huA q1 q2 q3 q4 q5);rw[vw,hl,fM,beq_self_eq_true,Bool.and_true];have e1:its.toArray.size=m.length:=by erw[am];lia
      rw[e1]at this;exact this
     ·rw[vw,beq_eq_false_iff_ne.mpr hl,fg];exact SeqAt.RcAt.lists_lengths p.isList p'.isList (by rw[bne_iff_ne];erw[am];lia) hu1
  | tup l =>
   erw[Is]at hx
   obtain⟨a,xs,rfl,h1,h2⟩:=hx;cases rx;obtain⟨its,r,p,_⟩:=I.tuple h1
   cases e with
   | non=>erw[Is]at hy;subst hy;cases ry;exact SeqAt.EqAt.tuple_none p hu1
   | bl b=>erw[Is]at hy;subst hy;cases ry;exact SeqAt.EqAt.tuple_bool b p hu1
   | int b=>erw[Is]at hy;subst hy;obtain⟨t,rfl⟩:=ry;exact SeqAt.EqAt.tuple_int b t p hu1
   | str b=>erw[Is]at hy;subst hy;obtain⟨t,rfl⟩:=ry;exact SeqAt.EqAt.tuple_str b t p hu1
   | lst m =>
    erw[Is]at hy
    obtain⟨b,ys,rfl,g1,g2⟩:=hy;cases ry;obtain⟨its',r',p',_⟩:=I.list g1;exact SeqAt.EqAt.tuple_list p p'.isList hu1
   | tup m =>
    have hy':=hy
    erw[Is]at hy
    obtain⟨b,ys,rfl,g1,g2⟩:=hy;cases ry;obtain⟨its',r',p',_⟩:=I.tuple g1
    erw[dpD]at hd
    by_cases hab:a=b
    ·subst hab;have:=Vj I (.tup l) (.tup m) (.ref a) (by erw[Is];exact#[a,xs,rfl,h1,h2]) hy';rw[this,kF];exact SeqAt.EqAt.same _
    ·refine .of_refs hab ?_
     erw[eqD]
     have L1:=h2.len;have L2:=g2.len;have L3:=r.length;have L4:=r'.length;have:=SeqAt.RcAt.tuples (A:=A) p p' hu1 (wT h2 g2 r r' (n:=n) ⋯ λd e x y u v q1 q2 q3 q4 q5=>ih A.in1 d e x y u v huA q1 q2 q3 q4 q5);rw[vw]
     erw[am]at this
     rw[<- L1,<- L2,L3,L4];exact this
  | non =>
   erw[Is]at hx
   subst hx
   cases e with
   | lst m =>
    erw[Is]at hy
    obtain⟨b,ys,rfl,g1,g2⟩:=hy;cases rx;cases ry;obtain⟨its',r',p',_⟩:=I.list g1;exact SeqAt.EqAt.none_list p'.isList hu1
   | tup m =>
    erw[Is]at hy
    obtain⟨b,ys,rfl,g1,g2⟩:=hy;cases rx;cases ry;obtain⟨its',r',p',_⟩:=I.tuple g1;exact SeqAt.EqAt.none_tuple p' hu1
   | _=>erw[Is]at hy;subst hy;exact Xq rx ry rfl rfl
  | bl c =>
   erw[Is]at hx
   subst hx
   cases e with
   | lst m =>
    erw[Is]at hy
    obtain⟨b,ys,rfl,g1,g2⟩:=hy;cases rx;cases ry;obtain⟨its',r',p',_⟩:=I.list g1;exact SeqAt.EqAt.bool_list _ p'.isList hu1
   | tup m =>
    erw[Is]at hy
    obtain⟨b,ys,rfl,g1,g2⟩:=hy;cases rx;cases ry;obtain⟨its',r',p',_⟩:=I.tuple g1;exact SeqAt.EqAt.bool_tuple _ p' hu1
   | _=>erw[Is]at hy;subst hy;exact Xq rx ry rfl rfl
  | int c =>
   erw[Is]at hx
   subst hx
   cases e with
   | lst m =>
    erw[Is]at hy
    obtain⟨b,ys,rfl,g1,g2⟩:=hy;obtain⟨t,rfl⟩:=rx;cases ry;obtain⟨its',r',p',_⟩:=I.list g1;exact SeqAt.EqAt.int_list _ _ p'.isList hu1
   | tup m =>
    erw[Is]at hy
    obtain⟨b,ys,rfl,g1,g2⟩:=hy;obtain⟨t,rfl⟩:=rx;cases ry;obtain⟨its',r',p',_⟩:=I.tuple g1;exact SeqAt.EqAt.int_tuple _ _ p' hu1
   | _=>erw[Is]at hy;subst hy;exact Xq rx ry rfl rfl
  | str c =>
   erw[Is]at hx
   subst hx
   cases e with
   | lst m =>
    erw[Is]at hy
    obtain⟨b,ys,rfl,g1,g2⟩:=hy;obtain⟨t,rfl⟩:=rx;cases ry;obtain⟨its',r',p',_⟩:=I.list g1;exact SeqAt.EqAt.str_list _ _ p'.isList hu1
   | tup m =>
    erw[Is]at hy
    obtain⟨b,ys,rfl,g1,g2⟩:=hy;obtain⟨t,rfl⟩:=rx;cases ry;obtain⟨its',r',p',_⟩:=I.tuple g1;exact SeqAt.EqAt.str_tuple _ _ p' hu1
   | _=>erw[Is]at hy;subst hy;exact Xq rx ry rfl rfl
def zez(K:pD):R2:=λx y H Q=>∃l m,((Is K H (.lst l) x/\Is K H (.lst m) y)\/(Is K H (.tup l) x/\Is K H (.tup m) y))/\uQ l<50/\Q (.bl (vZ l m)) H
theorem UA(hu:X.A.units+100<cLine):OpR X (pR .Eq) (zez X.K):=by
 intro tM s σ H x y v u Q I rx ry h;obtain⟨l,m,hh,hd,q⟩:=h;have hu1:X.A.units<cLine:=⋯;have huA:X.A.in1.units+50<cLine:=by show X.A.units+1+50<cLine;lia
 rcases hh with ⟨hx,hy⟩ | ⟨hx,hy⟩
 ·erw[Is]at hx hy
  obtain⟨a,xs,rfl,h1,h2⟩:=hx;obtain⟨b,ys,rfl,g1,g2⟩:=hy;cases rx;cases ry;obtain⟨its,r,p,_⟩:=I.list h1;obtain⟨its',r',p',_⟩:=I.list g1;have L1:=h2.len;have L2:=g2.len;have L3:=r.length;have L4:=r'.length;by_cases hl:l.length=m.length
  ·have:=SeqAt.RcAt.lists (A:=X.A) p.isList p'.isList (by erw[am];lia) hu1 (wT h2 g2 r r' (n:=50) hd λd e x y u v q1 q2 q3 q4 q5=>Z2 I 50 X.A.in1 d e x y u v huA q1 q2 q3 q4 q5);have e1:its.toArray.size=m.length:=by erw[am];lia
   rw[e1]at this;rw[vw,hl,fM,beq_self_eq_true,Bool.and_true]at q;exact this X.prog X.w X.xe _ #[.bl _,H,I,rfl,q]
  ·rw[vw,beq_eq_false_iff_ne.mpr hl,fg]at q;exact SeqAt.RcAt.lists_lengths p.isList p'.isList (by rw[bne_iff_ne];erw[am];lia) hu1 X.prog X.w X.xe _ #[.bl _,H,I,rfl,q]
 ·erw[Is]at hx hy
  obtain⟨a,xs,rfl,h1,h2⟩:=hx;obtain⟨b,ys,rfl,g1,g2⟩:=hy;cases rx;cases ry;obtain⟨its,r,p,_⟩:=I.tuple h1;obtain⟨its',r',p',_⟩:=I.tuple g1;have L1:=h2.len;have L2:=g2.len;have L3:=r.length;have L4:=r'.length;have:=SeqAt.RcAt.tuples (A:=X.A) p p' hu1 (wT h2 g2 r r' (n:=50) hd λd e x y u v q1 q2 q3 q4 q5=>Z2 I 50 X.A.in1 d e x y u v huA q1 q2 q3 q4 q5)
  erw[am]at this
  rw[vw,<- L1,<- L2,L3,L4]at q;exact this X.prog X.w X.xe _ #[.bl _,H,I,rfl,q]
end
theorem Zu(l m:List Int):vZ (l.map D.int) (m.map D.int)=decide (l=m):=by
 induction l generalizing m with
 | nil=>cases m <;> simp [vZ]
 | cons a l ih =>
  cases m with
  | nil=>simp [vZ]
  | cons b m =>
   erw[ar,vZ,eqD,ih m]
   by_cases h1:a=b
   ·subst h1;by_cases h2:l=m
    ·simp [h2]
    ·simp [h2]
   ·simp [h1]
theorem Yj(l:List Int):uQ (l.map D.int)=0:=by
 induction l with
 | nil=>rfl
 | cons a l ih=>erw[ar,uQ,dpD,ih];rfl
abbrev CNx(n i:Nat)(Pv:Nat->List V->Hp->Prop)(tO:List V)(H:Hp):Prop:=∃m',m'<n - i/\(m'=n - (i+1)/\i+1<=n/\Pv (i+1) tO H)
theorem CNx.mk{n i:Nat}{Pv:Nat->List V->Hp->Prop}{tO:List V}{H:Hp}(hi:i<n)(h:Pv (i+1) tO H):CNx n i Pv tO H:=#[n - (i+1),⋯,rfl,hi,h]
def Ys(J:It)(g:TG)(tt:TT)(te:TE)(own:Nat)(ix:())(σ:St)(H1:Hp)(Q:VK)(D:pE):Prop:=∃W:Nat->Nat->List V->Hp->Prop,(∃m,W 0 m [] (upd H1 D (.lst []))) /\
 ∀i m tO H',W i m tO H'->(J.stop i H'/\Q (.ref D) H')\/(J.go i H'/\∀x H2,J.yld i H' x H2->g x (vn σ own ix) H2 λσ3 H3=>yU (vn σ own ix) σ3/\tt σ3 H3 λb H4=>if b=tK then
  te σ3 H4 λv H5=>H5 D=tI (.lst tO)/\tO.length<pC/\∃m',m'<m/\W (i+1) m' (tO ++ [v]) (upd H5 D (.lst (tO ++ [v])))
  else ∃m',m'<m/\W (i+1) m' tO H4)
def CompR(lo:Int)(n:Nat)(g:TG)(tt:TT)(te:TE)(own:Nat)(ix:())(σ:St)(H1:Hp)(Q:VK)(D:pE):Prop:=Ys (Itr lo n) g tt te own ix σ H1 Q D
def CompL(K:pD)(a:pE)(g:TG)(tt:TT)(te:TE)(own:Nat)(ix:())(σ:St)(H1:Hp)(Q:VK)(D:pE):Prop:=Ys (Itl K a) g tt te own ix σ H1 Q D
def CompS(x:pL)(g:TG)(tt:TT)(te:TE)(own:Nat)(ix:())(σ:St)(H1:Hp)(Q:VK)(D:pE):Prop:=Ys (Its x) g tt te own ix σ H1 Q D
theorem J6{ta:TA}{g:TG}{tt:TT}{te:TE}{own:Nat}{ix:()}{σ:St}{H:Hp}{Q:VK}:jw (K7 ta) g tt te own ix σ H Q=ta σ H λvs H1=>∃j:Int,vs=[.int j]/\-(2 ^ 62)<=j/\j<2 ^ 62/\∀D,H1 D=tJ->CompR 0 j.toNat g tt te own ix σ H1 Q D:=rfl
theorem zco{K:pD}{tl:TE}{g:TG}{tt:TT}{te:TE}{own:Nat}{ix:()}{σ:St}{H:Hp}{Q:VK}:jw (zah K tl) g tt te own ix σ H Q=tl σ H λx H1=>∃a,x=.ref a/\(∃xs,SqL K H1 a xs)/\∀D,H1 D=tJ->CompL K a g tt te own ix σ H1 Q D:=rfl
theorem zcH{tl:TE}{g:TG}{tt:TT}{te:TE}{own:Nat}{ix:()}{σ:St}{H:Hp}{Q:VK}:jw (zdA tl) g tt te own ix σ H Q=tl σ H λv H1=>∃x,v=.str x/\∀D,H1 D=tJ->CompS x g tt te own ix σ H1 Q D:=rfl
section
variable{g:TG}{tt:TT}{te:TE}{own:Nat}{ix:()}{σ:St}{H1:Hp}{Q:VK}{D:pE}
theorem CompR.by{lo:Int}{n:Nat}(Pv:Nat->List V->Hp->Prop)(h0:Pv 0 [] (upd H1 D (.lst [])))
  (hs:∀i tO H',i<n->Pv i tO H'->g (.int (lo+i)) (vn σ own ix) H' λσ3 H3=>yU (vn σ own ix) σ3/\tt σ3 H3 λb H4=>if b=tK then
   te σ3 H4 λv H5=>H5 D=tI (.lst tO)/\tO.length<pC/\CNx n i Pv (tO ++ [v]) (upd H5 D (.lst (tO ++ [v])))else CNx n i Pv tO H4)
  (hd:∀tO H',Pv n tO H'->Q (.ref D) H'):CompR lo n g tt te own ix σ H1 Q D:=by
 refine#[λi m tO H=>m=n - i/\i<=n/\Pv i tO H,#[n,by simp,aE _,h0],?_];rintro i m tO H' ⟨rfl,hi,p⟩;by_cases hlt:i<n
 ·refine .inr #[hlt,λx H2 y=>?_];obtain⟨e,y⟩:=y;subst e y;exact hs i tO _ hlt p
 ·have e:i=n:=⋯;subst e;exact .inl #[ak _,hd tO H' p]
theorem CompL.by{K:pD}{a:pE}{xs:List V}(Pv:Nat->List V->Hp->Prop)(h0:Pv 0 [] (upd H1 D (.lst [])))(hl:∀i tO H',i<=xs.length->Pv i tO H'->SqL K H' a xs)
  (hs:∀i x tO H',xs[i]? = tI x->Pv i tO H'->g x (vn σ own ix) H' λσ3 H3=>yU (vn σ own ix) σ3/\tt σ3 H3 λb H4=>if b=tK then
   te σ3 H4 λv H5=>H5 D=tI (.lst tO)/\tO.length<pC/\CNx xs.length i Pv (tO ++ [v]) (upd H5 D (.lst (tO ++ [v])))else CNx xs.length i Pv tO H4)
  (hd:∀tO H',Pv xs.length tO H'->Q (.ref D) H'):CompL K a g tt te own ix σ H1 Q D:=by
 refine#[λi m tO H=>m=xs.length - i/\i<=xs.length/\Pv i tO H,#[xs.length,by simp,aE _,h0],?_];rintro i m tO H' ⟨rfl,hi,p⟩;have q:=hl i tO H' hi p;by_cases hlt:i<xs.length
 ·refine .inr #[#[xs,xs[i],q,by simp [hlt]],λx H2 y=>?_];obtain⟨e,y⟩:=y;subst e;exact hs i x tO _ (y xs q) p
 ·have e:i=xs.length:=⋯;subst e;exact .inl #[#[xs,q,ak _],hd tO H' p]
theorem CompS.by{l:()}(Pv:Nat->List V->Hp->Prop)(h0:Pv 0 [] (upd H1 D (.lst [])))
  (hs:∀i c tO H',l[i]? = tI c->Pv i tO H'->g (.str (tx [c])) (vn σ own ix) H' λσ3 H3=>yU (vn σ own ix) σ3/\tt σ3 H3 λb H4=>if b=tK then
   te σ3 H4 λv H5=>H5 D=tI (.lst tO)/\tO.length<pC/\CNx l.length i Pv (tO ++ [v]) (upd H5 D (.lst (tO ++ [v])))else CNx l.length i Pv tO H4)
  (hd:∀tO H',Pv l.length tO H'->Q (.ref D) H'):CompS (tx l) g tt te own ix σ H1 Q D:=by
 refine#[λi m tO H=>m=l.length - i/\i<=l.length/\Pv i tO H,#[l.length,by simp,aE _,h0],?_];rintro i m tO H' ⟨rfl,hi,p⟩;by_cases hlt:i<l.length
 ·refine .inr #[hlt,λv H2 y=>?_];obtain⟨e,c,hc,ev⟩:=y;subst e ev;exact hs i c tO _ hc p
 ·have e:i=l.length:=⋯;subst e;exact .inl #[rfl,hd tO H' p]
end
theorem xv{x:V}{r:St}:yU (tJ::r) (tI x::r):=#[rfl,λi v h=>by
 cases i with
 | zero=>cases h
 | succ i=>exact h]
theorem zL{X:Cx}{scope sc:rm}{own caps:List pL}{ix:()}(h1:scope.kind=.function)(h2:scope.names.all (λy=>y.2 != .cell)=tK)(h3:scope.names.all (λy=>y.2 != .local || scope.names.lookup y.1 == tI .local)=tK)
  (h4:scope.names.all (λy=>y.2 != .free || sc.names.lookup y.1 == tI .cell)=tK) (hsc:X.env.scope=sc) (h5:own.all (λy=>scope.names.lookup y == tI .local)=tK) (h6:caps.all (λy=>scope.names.lookup y == tI .free)=tK) (h7:ix.map (λi=>X.N[i]?)=caps.map tI):jP X scope own caps ix:=by
 refine#[h1,λy hy=>?_,λy hy e=>?_,λy hy=>?_,λy hy=>?_,λy hy=>?_,h7]
 ·have:=tZ.mp h2 y hy;simpa using this
 ·have:=tZ.mp h3 y hy;rw[e]at this;simpa using this
 ·have:=tZ.mp h4 _ hy;have:=by simpa using this
  refine .inl ?_;show X.env.scope.names.lookup y=tI .cell;rw[hsc];exact this
 ·have:=tZ.mp h5 y hy;simpa using this
 ·have:=tZ.mp h6 y hy;simpa using this
theorem Y3{α:Type}(l:List α){a b:Int}(h0:0<=a)(h1:a<=b)(h2:b<=l.length):cut l (tI a) (tI b)=(l.drop a.toNat).take (b - a).toNat:=by
 obtain⟨m,rfl⟩:=bE h0;obtain⟨n,rfl⟩:=bE (by lia:0<=b);unfold cut;rw[HT.sIx_nat,HT.sIx_nat,dh ⋯,dh ⋯];have:((n:Int) - (m:Int)).toNat=n - m:=⋯;rw[this];rfl
theorem kP{k:Nat}{A:pN}(r:Room k A):A.units+100<cLine:=by have:=r.un;lia
theorem Vb{K:pD}{x y:V}{H:Hp}{Q:VK}{l m:List D}(h:(Is K H (.lst l) x/\Is K H (.lst m) y)\/(Is K H (.tup l) x/\Is K H (.tup m) y))(hd:uQ l<50)(q:Q (.bl (vZ l m)) H):zez K x y H Q:=#[l,m,h,hd,q]
def zdC(t u:TS):TS:=λD σ H=>∃R:St->Hp->Prop,t { D with nx:=R } σ H/\∀σ' H',R σ' H'->u D σ' H'
theorem zi{X:Cx}{st:pQ}{rest:List pQ}{t u:TS}(h1:PS X st t)(h2:PSs X rest u):PSs X (st::rest) (zdC t u):=by
 intro tM s σ H D I h;obtain⟨R,h,hr⟩:=h;refine rH (thn (h1 tM s σ H { D with nx:=R } I h) λf s1 q=>?_)
 cases f with
 | next =>
  obtain⟨σ',H',I',q⟩:=q;exact h2 tM s1 σ' H' D I' (hr _ _ q)
 | ret v=>exact q
 | brk=>exact q
 | cont=>exact q
theorem W9{t u:TS}{D:vd}{σ:St}{H:Hp}(R:St->Hp->Prop)(h:t { D with nx:=R } σ H)(hr:∀σ' H',R σ' H'->u D σ' H'):zdC t u D σ H:=#[R,h,hr]
theorem zj{t u:TS}{D:vd}{σ:St}{H:Hp}(R:St->Hp->Prop)(h:t { D with nx:=R } σ H)(hr:∀G:St->Hp->Prop,G=u D->∀σ' H',R σ' H'->G σ' H'):zdC t u D σ H:=#[R,h,hr _ rfl]
theorem nm4{α β γ δ:Type}{P R:α->β->γ->δ->Prop}{B:α->β->γ->δ->Prop}(h:∀G:α->β->γ->δ->Prop,G=B->∀a b c d,P a b c d->R a b c d->G a b c d):∀a b c d,P a b c d->R a b c d->B a b c d:=h _ rfl
theorem nm3{α β γ:Type}{P R:α->β->γ->Prop}{B:α->β->γ->Prop}(h:∀G:α->β->γ->Prop,G=B->∀a b c,P a b c->R a b c->G a b c):∀a b c,P a b c->R a b c->B a b c:=h _ rfl
theorem zD{H H':Hp}{a:pE}{o:HO}(h:Same H H')(e:H a=tJ):Same H (upd H' a o):=λb u q=>by
 rw[zo (zF q e)];exact h b u q
theorem ForL.by{K:pD}{a:pE}{xs:List V}{g:TG}{tb:TS}{D:vd}{σ:St}{H:Hp}(Pv:Nat->St->Hp->Prop)(h0:Pv 0 σ H)(hl:∀i σ H,i<=xs.length->Pv i σ H->SqL K H a xs)
  (hs:∀i x σ H,xs[i]? = tI x->Pv i σ H->g x σ H λσ2 H2=>tb { D with nx:=Pv (i+1),ct:=Pv (i+1),bk:=D.nx } σ2 H2) (hd:∀σ H,Pv xs.length σ H->D.nx σ H):ForL K a g tb D σ H:=Jf Pv h0 hl hs hd
theorem YG{A B:Prop}(h:B):if tK=tL then A else B:=by rw[if_neg ∅];exact h
def CompV(K:pD)(a:pE)(n:Nat)(g:TG)(tt:TT)(te:TE)(own:Nat)(ix:())(σ:L2.St)(H1:Hp)(Q:VK)(D:pE):Prop:=Ys (Irv K a n) g tt te own ix σ H1 Q D
theorem zcJ{K:pD}{ta:TA}{g:TG}{tt:TT}{te:TE}{own:Nat}{ix:()}{σ:L2.St}{H:Hp}{Q:VK}:jw (zet K ta) g tt te own ix σ H Q=ta σ H λvs H1=>∃a xs,vs=[.ref a]/\SqL K H1 a xs/\∀D,H1 D=tJ->CompV K a xs.length g tt te own ix σ H1 Q D:=rfl
theorem CompV.by{K:pD}{a:pE}{xs:List V}{g:TG}{tt:TT}{te:TE}{own:Nat}{ix:()}{σ:L2.St}{H1:Hp}{Q:VK}{D:pE}(Pv:Nat->List V->Hp->Prop)(h0:Pv 0 [] (upd H1 D (.lst [])))(hl:∀i tO H',i<=xs.length->Pv i tO H'->SqL K H' a xs)
  (hs:∀i x tO H',xs.reverse[i]? = tI x->Pv i tO H'->g x (vn σ own ix) H' λσ3 H3=>yU (vn σ own ix) σ3/\tt σ3 H3 λb H4=>if b=tK then
   te σ3 H4 λv H5=>H5 D=tI (.lst tO)/\tO.length<pC/\CNx xs.length i Pv (tO ++ [v]) (upd H5 D (.lst (tO ++ [v])))else CNx xs.length i Pv tO H4)
  (hd:∀tO H',Pv xs.length tO H'->Q (.ref D) H'):CompV K a xs.length g tt te own ix σ H1 Q D:=by
 refine#[λi m tO H=>m=xs.length - i/\i<=xs.length/\Pv i tO H,#[xs.length,by simp,aE _,h0],?_];rintro i m tO H' ⟨rfl,hi,p⟩;have q:=hl i tO H' hi p;by_cases hlt:i<xs.length
 ·refine .inr #[#[xs,q,rfl,hlt],λx H2 y=>?_];obtain⟨e,y⟩:=y;subst e;refine hs i x tO _ ?_ p;rw[bN hlt];exact y xs q rfl
 ·have e:i=xs.length:=⋯;subst e;exact .inl #[rfl,hd tO H' p]
theorem zdR{v:V}{σ:L2.St}{H:Hp}{Q:VK}:yf 0 (tI v::σ) H Q=Q v H:=rfl
theorem zee{a0:Option V}{v:V}{σ:L2.St}{H:Hp}{Q:VK}:yf 1 (a0::tI v::σ) H Q=Q v H:=rfl
theorem zdv{a0 a1:Option V}{v:V}{σ:L2.St}{H:Hp}{Q:VK}:yf 2 (a0::a1::tI v::σ) H Q=Q v H:=rfl
theorem zd4{a0 a1 a2:Option V}{v:V}{σ:L2.St}{H:Hp}{Q:VK}:yf 3 (a0::a1::a2::tI v::σ) H Q=Q v H:=rfl
theorem zdl{a0 a1 a2 a3:Option V}{v:V}{σ:L2.St}{H:Hp}{Q:VK}:yf 4 (a0::a1::a2::a3::tI v::σ) H Q=Q v H:=rfl
theorem zdZ{a0 a1 a2 a3 a4:Option V}{v:V}{σ:L2.St}{H:Hp}{Q:VK}:yf 5 (a0::a1::a2::a3::a4::tI v::σ) H Q=Q v H:=rfl
theorem zdr{a0 a1 a2 a3 a4 a5:Option V}{v:V}{σ:L2.St}{H:Hp}{Q:VK}:yf 6 (a0::a1::a2::a3::a4::a5::tI v::σ) H Q=Q v H:=rfl
theorem zeb{a0 a1 a2 a3 a4 a5 a6:Option V}{v:V}{σ:L2.St}{H:Hp}{Q:VK}:yf 7 (a0::a1::a2::a3::a4::a5::a6::tI v::σ) H Q=Q v H:=rfl
theorem zd5{a0 a1 a2 a3 a4 a5 a6 a7:Option V}{v:V}{σ:L2.St}{H:Hp}{Q:VK}:yf 8 (a0::a1::a2::a3::a4::a5::a6::a7::tI v::σ) H Q=Q v H:=rfl
theorem zd0{a0 a1 a2 a3 a4 a5 a6 a7 a8:Option V}{v:V}{σ:L2.St}{H:Hp}{Q:VK}:yf 9 (a0::a1::a2::a3::a4::a5::a6::a7::a8::tI v::σ) H Q=Q v H:=rfl
theorem KT{a0 a1 a2 a3 a4 a5 a6 a7 a8 a9:Option V}{v:V}{σ:L2.St}{H:Hp}{Q:VK}:yf 10 (a0::a1::a2::a3::a4::a5::a6::a7::a8::a9::tI v::σ) H Q=Q v H:=rfl
theorem zao{a0 a1 a2 a3 a4 a5 a6 a7 a8 a9 a10:Option V}{v:V}{σ:L2.St}{H:Hp}{Q:VK}:yf 11 (a0::a1::a2::a3::a4::a5::a6::a7::a8::a9::a10::tI v::σ) H Q=Q v H:=rfl
theorem zcl{b:Bool}{p:Bool->Prop}:(∃k,V.bl b=V.bl k/\p k)=p b:=propext #[λ⟨_,h,q⟩=>by cases h;exact q,λq=>#[_,rfl,q]]
theorem J7{b:Int}{p:Int->Prop}:(∃k,V.int b=V.int k/\p k)=p b:=propext #[λ⟨_,h,q⟩=>by cases h;exact q,λq=>#[_,rfl,q]]
theorem J4{b:pL}{p:pL->Prop}:(∃k,V.str b=V.str k/\p k)=p b:=propext #[λ⟨_,h,q⟩=>by cases h;exact q,λq=>#[_,rfl,q]]
theorem J0{b:pE}{p:pE->Prop}:(∃k,V.ref b=V.ref k/\p k)=p b:=propext #[λ⟨_,h,q⟩=>by cases h;exact q,λq=>#[_,rfl,q]]
theorem zdi{i:Int}{p:Int->Prop}:onInt (.int i) p=p i:=rfl
theorem zdE{i:pL}{p:pL->Prop}:onStr (.str i) p=p i:=rfl
theorem zd2{i:Bool}{p:Bool->Prop}:onBl (.bl i) p=p i:=rfl
theorem zdH{i:pE}{p:pE->Prop}:onRef (.ref i) p=p i:=rfl
theorem zeh{K:pD}{b:Bool}{H:Hp}{p:Bool->Prop}:zem K (.bl b) H p=p b:=rfl
theorem JU{x:V}{p:Int->Prop}:onInt x p=∃k,x=.int k/\p k:=propext #[onInt.of,onInt.to]
theorem Ko{x:V}{p:pL->Prop}:onStr x p=∃k,x=.str k/\p k:=propext #[onStr.of,onStr.to]
theorem JX{x:V}{p:Bool->Prop}:onBl x p=∃k,x=.bl k/\p k:=propext #[onBl.of,onBl.to]
theorem Kk{x:V}{p:pE->Prop}:onRef x p=∃k,x=.ref k/\p k:=propext #[onRef.of,onRef.to]
theorem Ur{i:Nat}{σ:L2.St}{H:Hp}{Q:VK}:yf i σ H Q=∃v,σ[i]? = tI (tI v)/\Q v H:=propext #[onSl.of,λ⟨v,h,q⟩=>by erw[yf,onSl,h];exact q]
theorem K1{a b:Int}{H:Hp}{Q:VK}:rEq (.int a) (.int b) H Q=Q (.bl (decide (a=b))) H:=rfl
theorem KM{a b:pL}{H:Hp}{Q:VK}:rEq (.str a) (.str b) H Q=Q (.bl (decide (a=b))) H:=rfl
theorem zaL{a b:Int}{H:Hp}{Q:VK}:rNe (.int a) (.int b) H Q=Q (.bl (!decide (a=b))) H:=rfl
theorem zax{a b:pL}{H:Hp}{Q:VK}:rNe (.str a) (.str b) H Q=Q (.bl (!decide (a=b))) H:=rfl
theorem zaV{a:Int}{y:V}{H:Hp}{Q:VK}:jt (.int a) y H Q=onInt y λj=>Q (.int (a+j)) H:=rfl
theorem za7{a:pL}{y:V}{H:Hp}{Q:VK}:jt (.str a) y H Q=onStr y λj=>a.length+j.length<=pC/\Q (.str (a ++ j)) H:=rfl
theorem zaq{a:pE}{y:V}{H:Hp}{Q:VK}:jt (.ref a) y H Q=zbj (.ref a) y H Q:=rfl
theorem zas{a:Int}{y:V}{H:Hp}{Q:VK}:QV (.int a) y H Q=onInt y λj=>CMul a j/\Q (.int (a * j)) H:=rfl
theorem zaO{z:pL}{y:V}{H:Hp}{Q:VK}:QV (.str z) y H Q=onInt y λn=>0<=n/\n<=1000/\z.length<=1000/\Q (.str (tx (al n.toNat (cs z)).flatten)) H:=rfl
theorem zdI{a:Int}{y:V}{H:Hp}{Q:VK}:zd1 (.int a) y H Q=onInt y λj=>Q (.bl (decide (a<j))) H:=rfl
theorem zed{a:pL}{y:V}{H:Hp}{Q:VK}:zd1 (.str a) y H Q=onStr y λj=>Q (.bl (decide (cs a<cs j))) H:=rfl
theorem zdS{a:Int}{y:V}{H:Hp}{Q:VK}:zek (.int a) y H Q=onInt y λj=>Q (.bl (decide (a<=j))) H:=rfl
theorem zd3{a:pL}{y:V}{H:Hp}{Q:VK}:zek (.str a) y H Q=onStr y λj=>Q (.bl (!(decide (cs j<cs a)))) H:=rfl
theorem zds{a:Int}{y:V}{H:Hp}{Q:VK}:zdh (.int a) y H Q=onInt y λj=>Q (.bl (decide (j<a))) H:=rfl
theorem zdD{a:pL}{y:V}{H:Hp}{Q:VK}:zdh (.str a) y H Q=onStr y λj=>Q (.bl (decide (cs j<cs a))) H:=rfl
theorem zef{K:pD}{a:pE}{y:V}{H:Hp}{Q:VK}:rIx K (.ref a) y H Q=onInt y λi=>(∃xs,SqL K H a xs/\∃v,atI xs i=tI v/\Q v H)\/∃xs,SqT K H a xs/\∃v,atI xs i=tI v/\Q v H:=rfl
theorem zdy{K:pD}{z:pL}{y:V}{H:Hp}{Q:VK}:rIx K (.str z) y H Q=za6 (.str z) y H Q:=rfl
theorem za3{K:pD}{z:pL}{lo hi:Option Int}{H:Hp}{Q:VK}:zdU K (.str z) lo hi H Q=(z.length<=pC/\Q (.str (tx (cut (cs z) lo hi))) H):=rfl
theorem za5{K:pD}{a:pE}{lo hi:Option Int}{H:Hp}{Q:VK}:zdU K (.ref a) lo hi H Q=(∃xs,SqL K H a xs/\∀p,H p=tJ->Q (.ref p) (upd H p (.lst (zbk xs lo hi)))):=rfl
theorem zaa{K:pD}{z:pL}{H:Hp}{Q:VK}:Qt K [.str z] H Q=(z.length<=pC/\Q (.int z.length) H):=rfl
theorem zaX{K:pD}{a:pE}{H:Hp}{Q:VK}:Qt K [.ref a] H Q=(∃n:Nat,((∃xs,SqL K H a xs/\n=xs.length)\/∃xs,SqT K H a xs/\n=xs.length)/\Q (.int n) H):=rfl
theorem KQ{x:V}{H:Hp}{Q:VK}:zeN x .non H Q=Q (.bl (decide (x=.non))) H:=rfl
theorem zaR{x:V}{H:Hp}{Q:VK}:zct x .non H Q=Q (.bl (!decide (x=.non))) H:=rfl
theorem zba{i j:Int}{H:Hp}{Q:VK}:JD [.int i,.int j] H Q=Q (.int (if j > i then j else i)) H:=rfl
theorem za0{a:pE}{y:V}{H:Hp}{Q:VK}:UC (.ref a) [y] H Q=(∃xs,H a=tI (.lst xs)/\xs.length<pC/\Q .non (upd H a (.lst (xs ++ [y])))):=rfl
theorem zeq{K:pD}{z:pL}{H:Hp}{p:Prop}:(tyV K "str" (.str z) H/\p)=p:=propext #[λh=>h.2,λh=>#[rfl,h]]
section
variable{X:Cx}{a b e:pO}{ta tb te:TE}{pos p:rB}
theorem zB(i:Nat){x:pL}{pos':rB}(hN:X.N.Nodup)(he:PE X e te)(hi:X.N[i]? = tI x:=by rfl)(hx:Loc X.env.scope x:=by exact .inl rfl)(hs:swapsWith e (tI (.Name x pos')) pos.line X.env=pure tL:=by rfl)(hf:X.fn x=tK\/X.env.scope.names.lookup x=tI .local:=by first | exact .inl rfl | exact .inr rfl | assumption) :
  PS X (.Assign [.Name x pos'] e pos) (zbq te (yS i)):=uE hN hi hx he hs hf
theorem zl{r:R2}(hr:IxR X r)(ha:PE X a ta)(hb:PE X b tb)(hs:U9 b:=by exact λ_ _=>rfl):PE X (.Subscript a b pos) (tOp r ta tb):=zdO hr ha hb hs
theorem zG(hm:X.mg "len" = tJ)(he:PE X e te)(hg:Gl X "len":=by rfl)(h1:pB [e] X.env=(tL,eval e X.env)::pB [] X.env:=by rfl)(h2:(pV pos (pB [] X.env)).any (·.1)=tL:=by rfl):PE X (.Call (.Name "len" p) [e] [] pos) (tCB (Qt X.K) (zK te wn)) :=
 wg zdK hg hm PySem.boot_len (za he zf h1) (he:=h1) (hpl:=h2)
end
section
variable{X:Cx}
theorem Qa:∀{ys:List pL} {its:List pF},Vals (ys.map V.str) its->∃l:List (pL × rZ),its=strValues l/\l.map (·.1)=ys
 | [],_,.nil=>#[[],rfl,rfl]
 | y::ys,_,.cons r t=>by
  obtain⟨tk,rfl⟩:=r;obtain⟨l,e1,e2⟩:=Qa t;exact#[(y,tk)::l,by rw[e1];rfl,by rw[ar,e2]]
def zcS(K:pD):V->List V->Hp->VK->Prop:=λx xs H Q=>∃z p ys,x=.str z/\xs=[.ref p]/\SqL K H p (ys.map V.str)/\JoinOk z ys=tK/\Q (.str (Txt.join z ys)) H
theorem Kr:MtR X "str.join" (zcS X.K):=by
 intro tM s σ H x xs v us Q I rx rv h;obtain⟨z,p,ys,rfl,rfl,hS,hok,q⟩:=h;obtain⟨t,rfl⟩:=rx;obtain⟨u,rfl,ru⟩:=wm rv;cases ru;obtain⟨its,r,pl,_⟩:=I.list hS;obtain⟨l,rfl,e⟩:=Qa r;exact PySem.SC.join pl.isList e hok λt' k=>#[.str _,H,I.tok _,#[_,rfl],q]
theorem Xu:∀{bs:List Bool} {its:List pF} {i:Nat} {v:pF},Vals (bs.map V.bl) its->its[i]? = tI v->v=.bool (bs.getD i tL)
 | [],_,_,_,.nil,h=>by cases h
 | b::bs,_,0,v,.cons r t,h=>by
  cases r;cases h;rfl
 | b::bs,_,i+1,v,.cons r t,h=>Xu (bs:=bs) (i:=i) t h
end
section
variable{M:sV}{A:pN}{E:pF->pG->Prop}{s:pG}{base:pP}{env env0:sy}{outer:List sy}{L x t C:pE}{dx:Option pE}
theorem zbH{tb:pF}{Q:Unit->pG->Prop}(hfr:A.frames=tI (env0::outer))(hl:s.heap.FunFrames base (env0::outer))(hf:env0.frame=tI L)(he:env.frame=tI L)
  (hx:s.heap.get? x=tI (xob C dx t tb)) (htb:KY s.heap x tb)
  (h:∀h' T oT ts,h'.get? x=tI (xob C dx t (.ref T))->T≠x->(tb=.ref T\/s⁻¹<=T)->h'.get? T=tI oT->oT.data=.fields ts->3<ts.size ->
   (∀b o,b≠x->tb≠.ref b->b ∉ frs (env0::outer)->s.heap.get? b=tI o->h'.get? b=tI o)->(∀b o,b≠x->tb≠.ref b->s.heap.get? b=tI o->∃sl,h'.get? b=tI { o with slots:=sl })->Q Unit.unit { s with heap:=h' }) :
  pJ M A (noteFrame (.ref x) env) Q E s:=by
 have land:∀(h1:pP) (T:pE) (oT:rb) (ts:Array pF),h1.get? x=tI (xob C dx t (.ref T))->T≠x->(tb=.ref T\/s⁻¹<=T)->h1.get? T=tI oT->oT.data=.fields ts->3<ts.size ->
   (∀b o,b≠x->tb≠.ref b->b ∉ frs (env0::outer)->s.heap.get? b=tI o->h1.get? b=tI o)->(∀b o,b≠x->tb≠.ref b->s.heap.get? b=tI o->∃sl,h1.get? b=tI { o with slots:=sl }) ->
   Q Unit.unit { s with heap:=h1 }:=λh1 T oT ts e1 nT oldT e2 d2 z2 k1 k2=>h h1 T oT ts e1 nT oldT e2 d2 z2 k1 k2
 unfold noteFrame
 erw[he]
 refine pq (pW hx rfl (x:=tb) rfl ?_);rcases htb with rfl | ⟨T,oT,ts,rfl,nT,e2,d2,z2⟩
 ·rw[if_neg ∅];refine kK hfr hl hf he hx λh' oT ts e1 ne e2 d2 z2 k1 k2=>land h' _ oT ts e1 ne (.inr (ak _)) e2 d2 z2 (λb o hb _ hbf e=>k1 b o hb hbf e) λb o hb _ e=>k2 b o hb e
 ·rw[if_pos (show (Value.ref T != Value.none)=tK from by simp)];obtain⟨y,hy⟩:∃y,ts[3]? = tI y:=#[ts[3],by simp [z2]];refine pq (pW e2 d2 (x:=y) hy ?_);by_cases c:(y == rawInt L)=tK
  ·rw[if_pos c];exact pz (land s.heap T oT ts hx nT (.inl rfl) e2 d2 z2 (λb o _ _ _ e=>e) λb o _ _ e=>#[o.slots,e])
  ·rw[if_neg c];refine pq (rA e2 d2 z2 ?_);have oth:∀b,b≠T->(s.heap.update T (Obj.mapFields (·.setIfInBounds 3 Value.none))).get? b=s.heap.get? b:=λb hb=>aH _ _ (Ne.symm hb);have hl1:(s.heap.update T (Obj.mapFields (·.setIfInBounds 3 Value.none))).FunFrames base (env0::outer):=hl.of_keeps λb o hb hnf=>#[o,(oth b λq=>by rw[q,e2]at hb;cases hb;exact hnf ts d2).trans hb,rfl];have hsz:(s.heap.update T (Obj.mapFields (·.setIfInBounds 3 Value.none))).objs.size=s⁻¹:=dF ..;refine kK (s:={ s with heap:=s.heap.update T (Obj.mapFields (·.setIfInBounds 3 Value.none)) }) hfr hl1 hf he ((oth x (Ne.symm nT)).trans hx) λh' oT' ts' e1 ne e2' d2' z2' k1 k2=>?_;refine land h' _ oT' ts' e1 ne (.inr (by rw[hsz];exact ak _)) e2' d2' z2' (λb o hb hbt hbf e=>k1 b o hb hbf ((oth b λq=>hbt (by rw[q])).trans e)) λb o hb hbt e=>k2 b o hb ((oth b λq=>hbt (by rw[q])).trans e)
end
section
variable{X:Cx}{tM:List (pE × rb)}{σ:St}{H1:Hp}{s1:pG}
theorem Inv.noted{h':pP}{x T:pE}{tb:pF}(I1:Inv X tM σ H1 s1)(hst:X.stack=X.env::X.outer)(fx:wa X tM H1 x)(fT:∀T,tb=.ref T->wa X tM H1 T)(fT':wa X tM H1 T)
  (k1:∀b o,b≠x->tb≠.ref b->b ∉ frs (X.env::X.outer)->s1.heap.get? b=tI o->h'.get? b=tI o) (k2:∀b o,b≠x->tb≠.ref b->s1.heap.get? b=tI o->∃sl,h'.get? b=tI { o with slots:=sl }):Inv X tM σ H1 { s1 with heap:=h' }:=by
 have tbs:∀b,tb=.ref b->H1 b=tJ:=λb hb=>(fT b hb).1
 have nch:∀b o,s1.heap.get? b=tI o->b ∉ (x::T::tbL tb)->b≠x/\tb≠.ref b:=λb o _ hb=>by
  refine#[λz=>hb (by simp [z]),λz=>hb ?_];rw[z];simp [tbL]
 have un:Un (frs X.stack) (x::T::tbL tb) H1 H1 s1.heap h':=by
  rw[hst];refine#[λb o e n hb hc=>?_,λb o e n hb hc=>?_,λb o e n _=>n,λb o e hc=>?_,λb xs e=>e,λb o u e=>e,λb ps e=>#[#[],by rw[e];simp]]
  ·obtain⟨a1,a2⟩:=nch b o e hc;exact k1 b o a1 a2 hb e
  ·obtain⟨a1,a2⟩:=nch b o e hc;exact k2 b o a1 a2 e
  ·obtain⟨a1,a2⟩:=nch b o e hc;obtain⟨sl,q⟩:=k2 b o a1 a2 e;exact#[_,q]
 have hok:HOk X.prog X.w H1 h':=λb u e=>by
  refine (I1.hok b u e).stay (λc v hc q=>k1 c v ?_ ?_ ?_ q) (λ_ q=>q) λ_ _ q=>q
  ·rintro rfl;rcases hc with rfl | hc
   ·rw[fx.1]at e;cases e
   ·rw[fx.1]at hc;cases hc
  ·intro z;have:=tbs c z;rcases hc with rfl | hc
   ·rw[this]at e;cases e
   ·rw[this]at hc;cases hc
  ·intro z;rw[<- hst]at z;have:=I1.stkFree c z;rcases hc with rfl | hc
   ·rw[this]at e;cases e
   ·rw[this]at hc;cases hc
 exact I1.call' (s':={ s1 with heap:=h' }) rfl un hok I1.bare λb hb=>by
  have fb:wa X tM H1 b:=by
   rcases tR.mp hb with z | z
   ·rw[z];exact fx
   ·rcases tR.mp z with z | z
    ·rw[z];exact fT'
    ·cases tb with
     | ref b' =>
      have:b=b':=by simpa [tbL] using z
      rw[this];exact fT b' rfl
     | _=>simp [tbL]at z
  obtain⟨_,a1,_,a3,a4,a5⟩:=fb;exact#[a3,a1,a4,a5]
end
section
variable{X:Cx}{scope:rm}{own caps:List pL}{ix:()}{cl:List (pL × pE)}
theorem VU{N:List pL}{EX:XK}{tM:List (pE × rb)}{σ:St}{H3:Hp}{s3:pG}{fp:List pE}{xe:pF->pG->Prop}{e:pF}{s1:pG}{RE:pF->pG->Prop}(hst:X.stack=X.env::X.outer/\X.env.frame=tI X.env.locals)(hxe:XE X EX)
  (hc1:∀y c,cl.lookup y=tI c->X.env.cells.lookup y=tI c) (I3:Inv X tM σ H3 s3) (f3:∀b ∈ fp,wa X tM H3 b) (fl:zb1 (yj X scope cl s3⁻¹ N tM s3 H3 fp xe) EX e s1)
  (hRE:∀m s' x,s'.heap.Ns s3⁻¹ m->(∀h',Heap.SameBut s3⁻¹ s'.heap h'->∀cenv:sy,cenv.locals=s3⁻¹->pJ (model X.prog X.w) X.A (fN "comprehension.variables-let-go" x cenv:tw pF) (λ_ _=>False) X.xe { s' with heap:=h' })->RE x s') :
  notedBy (model X.prog X.w) X.A (compEnvC scope cl s3⁻¹ X.env) RE e s1:=by
 obtain⟨pins',σ',H1,x,C,t,dx,tb,rfl,I1,ob,tr,fx,fT,q⟩:=fl
 have IX:Inv X tM σ H1 s1:=I3.call' (s':=s1) I1.os I1.base I1.hok I1.bare λb hb=>by
  obtain⟨_,a1,a2,a3,a4,a5⟩:=f3 b hb;exact#[a3,a1,a4,a5]
 have up:∀b,wa (yj X scope cl s3⁻¹ N tM s3 H3 fp xe) pins' H1 b->wa X tM H1 b:=λb hb=>by
  obtain⟨a0,a1,a2,a3,a4,a5⟩:=hb;rcases a3 with a3 | a3
  ·exact#[a0,(f3 b a3).2]
  ·exact I3.fpOk a3 a0
 have fx':=up x fx;have fT':∀T,tb=.ref T->wa X tM H1 T:=λT h=>up T (fT T h);have fr:X.A.frames=tI (X.env::X.outer):=by rw[<- hst.1];exact IX.ok.frames
 have ff:s1.heap.FunFrames X.base (X.env::X.outer):=by rw[<- hst.1];exact IX.stack
 obtain⟨m,hm,_⟩:=I1.loc;have fC:wa X tM H1 s3⁻¹:=I3.fpOk (ak _) I1.free;refine zbH fr ff hst.2 hst.2 ob tr λh' T oT ts e1 nT oldT e2 d2 z2 k1 k2=>?_
 have fT2:wa X tM H1 T:=by
  rcases oldT with z | z
  ·exact fT' T z
  ·exact IX.fpOk z (IX.hok.fresh z)
 have I2:Inv X tM σ H1 { s1 with heap:=h' }:=Inv.noted IX hst.1 fx' fT' fT2 k1 k2;have hCx:s3⁻¹≠x:=λz=>fx.2.1 z.symm;have hCtb:tb≠.ref s3⁻¹:=λz=>(fT _ z).2.1 rfl;obtain⟨oC,es,ep,hoC,rC⟩:=hm
 have hCT:T≠s3⁻¹:=by
  rcases oldT with z | z
  ·exact (fT T z).2.1
  ·exact bW (aw (aq hoC) z)
 have hCf:s3⁻¹ ∉ frs (X.env::X.outer):=λz=>by
  rw[<- hst.1]at z;rcases tR.mp (IX.stkSub _ z)with y | y
  ·exact fC.2.1 y
  ·exact fC.2.2.1 y
 refine hRE m _ _ #[oC,es,ep,k1 _ _ hCx hCtb hCf hoC,rC] λh2 sb cenv hcenv=>?_;have I3':Inv X tM σ H1 { s1 with heap:=h2 }:=I2.turned (t':=s1.toks) (λb o hb e=>(sb.2 b hb).trans e) fC.1 fC.2.1 fC.2.2.2.1 fC.2.2.2.2.1 fC.2.2.2.2.2;have ob2:h2.get? x=tI (xob C dx t (.ref T)):=(sb.2 x (Ne.symm hCx)).trans e1;have oT2:h2.get? T=tI oT:=(sb.2 T hCT).trans e2;unfold fN;refine pq (pW (s:={ s1 with heap:=h2 }) ob2 rfl (x:=.ref T) rfl ?_);rw[if_neg (show ¬ (Value.ref T == Value.none)=tK from by simp)];unfold setFlight;refine pq (pq (pW (s:={ s1 with heap:=h2 }) ob2 rfl (x:=.ref T) rfl ?_));rw[if_pos (show (Value.ref T != Value.none)=tK from by simp)];refine rA (s:={ s1 with heap:=h2 }) oT2 d2 z2 (wpAny_throw (hxe _ _ ?_));have d3:=Obj.data_mapFields d2 (·.setIfInBounds 3 (cenv.frame.elim Value.none λf=>rawInt f))
 have I4:Inv X tM σ H1 { s1 with heap:=h2.update T (Obj.mapFields (·.setIfInBounds 3 (cenv.frame.elim Value.none λf=>rawInt f))) } :=
  I3'.turned (t':=s1.toks) (λb o hb e=>(aH _ _ (Ne.symm hb)).trans e) fT2.1 fT2.2.1 fT2.2.2.2.1 fT2.2.2.2.2.1 fT2.2.2.2.2.2
 exact#[tM,σ,H1,x,C,t,dx,.ref T,rfl,I4,(aH _ _ nT).trans ob2,.inr #[T,_,_,rfl,nT,cb _ oT2 (Obj.isFreed_of_fields d3),d3,by simpa using z2],fx',λT' z=>by cases z;exact fT2,q]
end
section
variable{X:Cx}{scope:rm}{own caps:List pL}{ix:()}{elt tg iter:pO}{ifs:List pO}{pos:rB}{wi:TI}{g:TG}{tt:TT}{te:TE}
end
open PySem.AutoSeq1 (wpAny_loadPart')
open MeetsSeq MeetsSeq2 MeetsSeq3 SeqRoads2 SeqAt
def qQ(op:rS)(A:pN)(s:pG)(y x:pF)(b:Bool):Prop :=
 ∀(prog:pK) (w:pM) (E:pF->pG->Prop) (Q:pF->pG->Prop),Q (.bool b) s->pJ (model prog w) A (richCompare op y x) Q E s
noncomputable abbrev LtAt:=qQ .Lt
noncomputable def zcV:rS->Nat->Nat->Bool
 | .Gt,m,n=>decide (n<m)
 | _,m,n=>decide (m<n)
noncomputable def zeP:rS->Int
 | .Gt=>4
 | _=>0
def LG(op:rS):Prop:=op=.Lt\/op=.Gt
def vO(op:rS)(e t r:Nat->Bool)(m n:Nat):Prop:=∀i,i<=m->i<=n->r i=if i<m/\i<n then (if e i=tK then r (i+1)else t i)else zcV op m n
noncomputable abbrev zdF:=vO .Lt
variable{op:rS}
theorem Qb(ho:LG op)(l b:pE)(items tN:Array pF)(n n2:Nat)(dd dd2:Option pE)(sl sl2:Array (Option pF))(e t r:Nat->Bool)(hr:vO op e t r items.size tN.size)(k:Nat) :
  ∀i:Nat,i<=items.size->i<=tN.size->items.size - i=k->Meets (Builtin.«list.__eq__.loop» #[[.ref l,.ref b,rawInt i,rawInt (zeP op)],[]])
   (λA R s=>s.heap.get? l=tI { cls:=.type "list",dict:=dd,data:=.seq items n,slots:=sl }/\s.heap.get? b=tI { cls:=.type "list",dict:=dd2,data:=.seq tN n2,slots:=sl2 } /\
    (∀j (h1:j<items.size) (h2:j<tN.size),EqAt A.in1 s items[j] tN[j] (e j))/\(∀j (h1:j<items.size) (h2:j<tN.size),e j=tL->qQ op A.in1 s items[j] tN[j] (t j)) /\
    R (.ok (.ret (.bool (r i)))) s):=by
 rcases ho with rfl | rfl <;> erw[zeP] <;> erw[vO,zcV]at hr
 all_goals
  induction k with
  | zero =>
   intro i b1 b2 hk prog w A R s h;obtain⟨hp,g,d,tk,os⟩:=s;obtain⟨hl,hb,he,ht,h⟩:=h;have hri:=hr i b1 b2;rw[if_neg ⋯]at hri;rw[hri]at h
   wp_walk using wpAny_loadPart' hl,wpAny_loadPart' hb
   have hi1:items[((i:Nat):Int).toNat]? = tJ:=by simp;lia
   rw[hi1]
   wp_walk using wpAny_loadPart' hl,wpAny_loadPart' hb
   exact h
  | succ k ih =>
   intro i b1 b2 hk prog w A R s h;obtain⟨hp,g,d,tk,os⟩:=s;obtain⟨hl,hb,he,ht,h⟩:=h;have hlt:i<items.size:=⋯;have hi1:items[((i:Nat):Int).toNat]? = tI items[i]:=by simp [hlt]
   have hc:((i:Int)+1)=((i+1:Nat):Int):=by push_cast;rfl
   have hri:=hr i b1 b2;by_cases hlt2:i<tN.size
   ·rw[if_pos #[hlt,hlt2]]at hri;rw[hri]at h;have hi2:tN[((i:Nat):Int).toNat]? = tI tN[i]:=by simp [hlt2]
    wp_walk using wpAny_loadPart' hl,wpAny_loadPart' hb
    rw[hi1,hi2];refine pq (he i hlt hlt2 prog w _ _ ?_)
    cases hb':e i with
    | true =>
     rw[hb',if_pos rfl]at h
     wp_walk
     rw[hc]
     exact#[plainId_quiet plain_eq_loop _,rM entry_eq_loop (by
      rw[Around.under_plainId plain_eq_loop _]
      exact ih (i+1) ⋯ ⋯ ⋯ prog w A R _ #[hl,hb,he,ht,h])]
    | false =>
     rw[hb',if_neg aC]at h
     wp_walk using wpAny_loadPart' hl,wpAny_loadPart' hb
     rw[hi1,hi2];refine pq (ht i hlt hlt2 hb' prog w _ _ ?_)
     wp_walk
     exact h
   ·rw[if_neg ⋯]at hri;rw[hri]at h;have hi2:tN[((i:Nat):Int).toNat]? = tJ:=by simp;lia
    wp_walk using wpAny_loadPart' hl,wpAny_loadPart' hb
    rw[hi1,hi2]
    wp_walk using wpAny_loadPart' hl,wpAny_loadPart' hb
    exact h
theorem ZN(ho:LG op)(l b:pE)(items tN:Array pF)(n n2:Nat)(dd dd2:Option pE)(sl sl2:Array (Option pF))(e t r:Nat->Bool)(hr:vO op e t r items.size tN.size) :
  Meets ((match op with | .Gt=>Builtin.«list.__gt__» | _=>Builtin.«list.__lt__») ⟨[.ref l,.ref b],[]⟩)
   (λA R s=>s.heap.get? l=tI { cls:=.type "list",dict:=dd,data:=.seq items n,slots:=sl }/\s.heap.get? b=tI { cls:=.type "list",dict:=dd2,data:=.seq tN n2,slots:=sl2 } /\
    (∀j (h1:j<items.size) (h2:j<tN.size),EqAt A.in1 s items[j] tN[j] (e j))/\(∀j (h1:j<items.size) (h2:j<tN.size),e j=tL->qQ op A.in1 s items[j] tN[j] (t j)) /\
    R (.ok (.ret (.bool (r 0)))) s):=by
 rcases id ho with rfl | rfl
 all_goals
  intro prog w A R s h;obtain⟨hp,g,d,tk,os⟩:=s;obtain⟨hl,hb,he,ht,h⟩:=h;have f3:=AutoSeq1.sub_list_list
  wp_walk using wpAny_loadPart' hl,wpAny_loadPart' hb
  exact#[plainId_quiet plain_eq_loop _,rM entry_eq_loop (by
   rw[Around.under_plainId plain_eq_loop _]
   exact Qb ho l b items tN n n2 dd dd2 sl sl2 e t r hr _ 0 (aE _) (aE _) rfl prog w A R _ #[hl,hb,he,ht,h])]
theorem jH(ho:LG op)(l b:pE)(items tN:Array pF)(n n2:Nat)(dd dd2:Option pE)(sl sl2:Array (Option pF))(e t r:Nat->Bool)(hr:vO op e t r items.size tN.size) :
  Meets ((match op with | .Gt=>Builtin.«tuple.__gt__» | _=>Builtin.«tuple.__lt__») ⟨[.ref l,.ref b],[]⟩)
   (λA R s=>s.heap.get? l=tI { cls:=.type "tuple",dict:=dd,data:=.seq items n,slots:=sl }/\s.heap.get? b=tI { cls:=.type "tuple",dict:=dd2,data:=.seq tN n2,slots:=sl2 } /\
    (∀j (h1:j<items.size) (h2:j<tN.size),EqAt A.in1 s items[j] tN[j] (e j))/\(∀j (h1:j<items.size) (h2:j<tN.size),e j=tL->qQ op A.in1 s items[j] tN[j] (t j)) /\
    R (.ok (.ret (.bool (r 0)))) s):=by
 rcases ho with rfl | rfl <;> erw[vO,zcV]at hr
 all_goals
  refine .of_wp λprog w A R s h=>?_;obtain⟨hp,g,d,tk,os⟩:=s;obtain⟨hl,hb,he,ht,h⟩:=h;have f2:=AutoSeq1.sub_tuple_tuple;have hZ:(items.toList.zip tN.toList).length=min items.size tN.size:=by simp
  wp_walk using wpAny_loadPart' hl,wpAny_loadPart' hb,wpAny_forIn_list _ (λrest b s'=>b.1=tJ/\s'=#[hp,g,d,tk,os]/\∃i,i<=min items.size tN.size/\rest=(items.toList.zip tN.toList).drop i /\
   R (.ok (.ret (.bool (r i)))) #[hp,g,d,tk,os]) _
  case turn =>
   rintro⟨y,x⟩ rest b s' ⟨hb',rfl,i,hi,hz,hR⟩
   have hlt:i<(items.toList.zip tN.toList).length:=by
    rcases eI i (items.toList.zip tN.toList).length with h' | h'
    ·exact h'
    ·rw[bi h']at hz;cases hz
   have hm:i<min items.size tN.size:=hZ ▸ hlt;have h1:i<items.size:=aw hm (Nat.min_le_left _ _);have h2:i<tN.size:=aw hm (Nat.min_le_right _ _);rw[aS hlt]at hz;injection hz with hyx hrest;have hy:y=items[i]:=by have:=congrArg Prod.fst hyx;simpa using this
   have hx:x=tN[i]:=by have:=congrArg Prod.snd hyx;simpa using this
   subst hy hx;have hri:=hr i ⋯ ⋯;rw[if_pos #[h1,h2]]at hri;rw[hri]at hR;refine pq (he i h1 h2 prog w _ _ ?_)
   cases hy:e i with
   | true =>
    rw[hy,if_pos rfl]at hR
    wp_walk
    exact#[rfl,rfl,i+1,⋯,hrest,hR]
   | false =>
    rw[hy,if_neg aC]at hR
    erw[fk,if_true]
    refine pq (su ?_);refine pq (ht i h1 h2 hy prog w _ _ ?_)
    wp_walk
    exact#[_,rfl,hR]
  case fin =>
   rintro⟨b1,b2⟩ s' ⟨hb',rfl,i,hi,hz,hR⟩;simp only at hb';subst hb'
   have hge:min items.size tN.size<=i:=by
    rcases eI i (items.toList.zip tN.toList).length with h' | h'
    ·rw[aS h']at hz;cases hz
    ·exact hZ ▸ h'
   have hri:=hr i ⋯ ⋯;rw[if_neg ⋯]at hri;rw[hri]at hR
   wp_walk
   exact#[_,rfl,hR]
  case h =>
   exact#[rfl,rfl,0,aE _,rfl,h]
theorem LtAt.lists(ho:LG op){A:pN}{s:pG}{l b:pE}{items tN:Array pF}{e t r:Nat->Bool}(hl:s.heap.IsList l items)(hb:s.heap.IsList b tN)(hr:vO op e t r items.size tN.size)(hu:A.units<cLine)
  (he:∀j (h1:j<items.size) (h2:j<tN.size),EqAt A.in1 s items[j] tN[j] (e j)) (ht:∀j (h1:j<items.size) (h2:j<tN.size),e j=tL->qQ op A.in1 s items[j] tN[j] (t j)):qQ op A s (.ref l) (.ref b) (r 0):=λprog w E Q h=>by
 obtain⟨⟨cls,dd,data,sl⟩,h1,hc,n,hd⟩:=id hl;obtain⟨⟨cls2,dd2,data2,sl2⟩,h2,hc2,n2,hd2⟩:=id hb;simp only at hc hd hc2 hd2;subst hc hd hc2 hd2;have z:Value.bool (r 0)≠Value.notImplemented/\Q (.bool (r 0)) s:=#[(λx=>nomatch x),h];rcases id ho with rfl | rfl
 ·exact richCompare_meets_room #[_,h1,rfl] #[_,h2,rfl] F.slot_list_lt F.entry_list_lt (F.args_list_lt_2 _ _) (ZN ho l b items tN n n2 dd dd2 sl sl2 e t r hr) #[h1,h2,he,ht,z] hu
 ·exact richCompare_meets_room #[_,h1,rfl] #[_,h2,rfl] F.slot_list_gt F.entry_list_gt (F.args_list_gt_2 _ _) (ZN ho l b items tN n n2 dd dd2 sl sl2 e t r hr) #[h1,h2,he,ht,z] hu
theorem LtAt.tuples(ho:LG op){A:pN}{s:pG}{l b:pE}{items tN:Array pF}{e t r:Nat->Bool}(hl:s.heap.IsTuple l items)(hb:s.heap.IsTuple b tN)(hr:vO op e t r items.size tN.size)(hu:A.units<cLine)
  (he:∀j (h1:j<items.size) (h2:j<tN.size),EqAt A.in1 s items[j] tN[j] (e j)) (ht:∀j (h1:j<items.size) (h2:j<tN.size),e j=tL->qQ op A.in1 s items[j] tN[j] (t j)):qQ op A s (.ref l) (.ref b) (r 0):=λprog w E Q h=>by
 obtain⟨⟨cls,dd,data,sl⟩,h1,hc,n,hd⟩:=id hl;obtain⟨⟨cls2,dd2,data2,sl2⟩,h2,hc2,n2,hd2⟩:=id hb;simp only at hc hd hc2 hd2;subst hc hd hc2 hd2;have z:Value.bool (r 0)≠Value.notImplemented/\Q (.bool (r 0)) s:=#[(λx=>nomatch x),h];rcases id ho with rfl | rfl
 ·exact richCompare_meets_room #[_,h1,rfl] #[_,h2,rfl] F.slot_tuple_lt F.entry_tuple_lt (F.args_tuple_lt_2 _ _) (jH ho l b items tN n n2 dd dd2 sl sl2 e t r hr) #[h1,h2,he,ht,z] hu
 ·exact richCompare_meets_room #[_,h1,rfl] #[_,h2,rfl] F.slot_tuple_gt F.entry_tuple_gt (F.args_tuple_gt_2 _ _) (jH ho l b items tN n n2 dd dd2 sl sl2 e t r hr) #[h1,h2,he,ht,z] hu
mutual
def okD:D->D->Prop
 | .int _,.int _=>True
 | .lst l,.lst m=>kY l m
 | .tup l,.tup m=>kY l m
 | _,_=>False
def kY:List D->List D->Prop
 | d::l,e::m=>okD d e/\kY l m
 | _,_=>True
end
mutual
noncomputable def ltD:D->D->Bool
 | .int a,.int b=>decide (a<b)
 | .lst l,.lst m=>vF l m
 | .tup l,.tup m=>vF l m
 | _,_=>tL
noncomputable def vF:List D->List D->Bool
 | d::l,e::m=>if eqD d e=tK then vF l m else ltD d e
 | [],_::_=>tK
 | _,[]=>tL
end
theorem Vr(l m:List D):zdF (λj=>eqD (l.getD j .non) (m.getD j .non)) (λj=>ltD (l.getD j .non) (m.getD j .non)) (λi=>vF (l.drop i) (m.drop i)) l.length m.length:=by
 intro i b1 b2
 erw[zcV]
 by_cases h:i<l.length/\i<m.length
 ·rw[if_pos h,aS h.1,aS h.2,vF];rw[ac,ac,aj h.1,aj h.2];rfl
 ·rw[if_neg h];by_cases h1:i<l.length
  ·have h2:¬ i<m.length:=λz=>h #[h1,z];rw[aS h1,bi (cY h2),vF]
   ·simp;lia
   all_goals simp
  ·rw[bi (cY h1)];by_cases h2:i<m.length
   ·rw[aS h2,vF];simp;lia
   ·rw[bi (cY h2),vF]
    ·simp;lia
    all_goals simp
mutual
theorem Wb:∀d e:D,eqD d e=eqD e d
 | .lst l,e=>by cases e <;> erw[eqD];exact qS l _
 | .tup l,e=>by cases e <;> erw[eqD];exact qS l _
 | .int _,e=>by cases e <;> erw[eqD] <;> exact fF
 | .str _,e=>by cases e <;> erw[eqD] <;> exact fF
 | .bl _,e=>by cases e <;> erw[eqD] <;> exact fF
 | .non,e=>by cases e <;> erw[eqD]
theorem qS:∀l m:List D,vZ l m=vZ m l
 | [],[]=>rfl
 | [],_::_=>by erw[vZ]
 | _::_,[]=>by erw[vZ]
 | d::l,e::m=>by erw[vZ,Wb d e,qS l m]
end
noncomputable def cm:rS->D->D->Bool
 | .Gt,d,e=>ltD e d
 | _,d,e=>ltD d e
noncomputable def cms:rS->List D->List D->Bool
 | .Gt,d,e=>vF e d
 | _,d,e=>vF d e
theorem UL{op:rS}(ho:LG op)(l m:List D):vO op (λj=>eqD (l.getD j .non) (m.getD j .non)) (λj=>cm op (l.getD j .non) (m.getD j .non)) (λi=>cms op (l.drop i) (m.drop i)) l.length m.length:=by
 rcases ho with rfl | rfl
 ·exact Vr l m
 ·intro i b1 b2;have h:=Vr m l i b2 b1
  erw[zcV,cm,cms]at h ⊢
  rw[h,Wb (m.getD i .non)];by_cases q:i<l.length/\i<m.length
  ·rw[if_pos q,if_pos q.symm]
  ·rw[if_neg q,if_neg λz=>q z.symm]
theorem zcW:∀{l m:List D} {j:Nat} {d e:D},kY l m->l[j]? = tI d->m[j]? = tI e->okD d e
 | d::l,e::m,0,_,_,h,q1,q2=>by
  cases q1;cases q2
  erw[kY]at h
  exact h.1
 | d::l,e::m,j+1,_,_,h,q1,q2=>by
  erw[kY]at h
  exact zcW (j:=j) h.2 q1 q2
section
variable{X:Cx}{tM:List (pE × rb)}{σ:St}{H:Hp}{s:pG}
theorem X2{op:rS}{l m:List D}{xs ys:List V}{its its':List pF}{A:pN}{n:Nat}(hl:Iss X.K H l xs)(hm:Iss X.K H m ys)(r:Vals xs its)(r':Vals ys its')(hn:uQ l<n)(ok:kY l m)
  (ih:∀(d e:D) (x y:V) (u v:pF),dpD d<n->okD d e->Is X.K H d x->Is X.K H e y->RelV x u->RelV y v->qQ op A s u v (cm op d e)) :
  ∀j (h1:j<its.toArray.size) (h2:j<its'.toArray.size),qQ op A s its.toArray[j] its'.toArray[j] (cm op (l.getD j .non) (m.getD j .non)):=by
 intro j h1 h2;rw[am]at h1 h2;have e1:=hl.len;have e2:=hm.len;have e3:=r.length;have e4:=r'.length;have g1:l[j]? = tI l[j]:=aj ⋯;have g2:m[j]? = tI m[j]:=aj ⋯;generalize l[j]=d at g1;generalize m[j]=e at g2;obtain⟨x,hx,ix⟩:=hl.at g1;obtain⟨y,hy,iy⟩:=hm.at g2;obtain⟨u,hu,ru⟩:=xH r hx;obtain⟨v,hv,rv⟩:=xH r' hy
 have q1:its.toArray[j]=u:=by
  have:=(tP.mp hu).2;simpa using this
 have q2:its'.toArray[j]=v:=by
  have:=(tP.mp hv).2;simpa using this
 rw[q1,q2,ac,ac,g1,g2];exact ih d e x y u v (cP (zaM g1) hn) (zcW ok g1 g2) ix iy ru rv
theorem zaI{op:rS}(ho:LG op)(I:Inv X tM σ H s):∀(n:Nat) (A:pN) (d e:D) (x y:V) (u v:pF),A.units+n<cLine->dpD d<n->okD d e->Is X.K H d x->Is X.K H e y->RelV x u->RelV y v->qQ op A s u v (cm op d e):=by
 intro n
 induction n with
 | zero=>intro A d e x y u v _ h;exact absurd h (cQ _)
 | succ n ih =>
  intro A d e x y u v hu hd ok hx hy rx ry;have hu1:A.units<cLine:=⋯;have huA:A.in1.units+n<cLine:=by show A.units+1+n<cLine;lia
  cases d with
  | int a =>
   cases e with
   | int b =>
    erw[Is]at hx hy
    subst hx hy;obtain⟨t,rfl⟩:=rx;obtain⟨t',rfl⟩:=ry;rcases ho with rfl | rfl
    ·exact λprog w E Q h=>lt_int h
    ·exact λprog w E Q h=>gt_int h
   | _=>erw[okD]at ok
  | lst l =>
   cases e with
   | lst m =>
    erw[Is]at hx hy
    obtain⟨a,xs,rfl,h1,h2⟩:=hx;obtain⟨b,ys,rfl,g1,g2⟩:=hy;cases rx;cases ry;obtain⟨its,r,p,_⟩:=I.list h1;obtain⟨its',r',p',_⟩:=I.list g1
    erw[dpD]at hd
    erw[okD]at ok
    have L1:=h2.len;have L2:=g2.len;have L3:=r.length;have L4:=r'.length;have st:=UL ho l m;rw[show l.length=its.toArray.size by erw[am];lia,show m.length=its'.toArray.size by erw[am];lia]at st
    have r0:=LtAt.lists ho (A:=A) p.isList p'.isList st hu1 (wT h2 g2 r r' (n:=n) ⋯ λd e x y u v q1 q2 q3 q4 q5=>Z2 I n A.in1 d e x y u v huA q1 q2 q3 q4 q5)
     (λj h1 h2 _=>X2 (n:=n) (A:=A.in1) ‹_› g2 r r' ⋯ ok (λd e x y u v q1 q2 q3 q4 q5 q6=>ih A.in1 d e x y u v huA q1 q2 q3 q4 q5 q6) j h1 h2)
    rcases id ho with rfl | rfl <;> exact r0
   | _=>erw[okD]at ok
  | tup l =>
   cases e with
   | tup m =>
    erw[Is]at hx hy
    obtain⟨a,xs,rfl,h1,h2⟩:=hx;obtain⟨b,ys,rfl,g1,g2⟩:=hy;cases rx;cases ry;obtain⟨its,r,p,_⟩:=I.tuple h1;obtain⟨its',r',p',_⟩:=I.tuple g1
    erw[dpD]at hd
    erw[okD]at ok
    have L1:=h2.len;have L2:=g2.len;have L3:=r.length;have L4:=r'.length;have st:=UL ho l m;rw[show l.length=its.toArray.size by erw[am];lia,show m.length=its'.toArray.size by erw[am];lia]at st
    have r0:=LtAt.tuples ho (A:=A) p p' st hu1 (wT h2 g2 r r' (n:=n) ⋯ λd e x y u v q1 q2 q3 q4 q5=>Z2 I n A.in1 d e x y u v huA q1 q2 q3 q4 q5)
     (λj h1 h2 _=>X2 (n:=n) (A:=A.in1) ‹_› g2 r r' ⋯ ok (λd e x y u v q1 q2 q3 q4 q5 q6=>ih A.in1 d e x y u v huA q1 q2 q3 q4 q5 q6) j h1 h2)
    rcases id ho with rfl | rfl <;> exact r0
   | _=>erw[okD]at ok
  | non=>cases e <;> erw[okD]at ok
  | bl _=>cases e <;> erw[okD]at ok
  | str _=>cases e <;> erw[okD]at ok
theorem JS(I:Inv X tM σ H s):∀(n:Nat) (A:pN) (d e:D) (x y:V) (u v:pF),A.units+n<cLine->dpD d<n->okD d e->Is X.K H d x->Is X.K H e y->RelV x u->RelV y v->LtAt A s u v (ltD d e):=zaI (.inl rfl) I
def zeF(K:pD):R2:=λx y H Q=>∃d e,Is K H d x/\Is K H e y/\dpD d<50/\okD d e/\Q (.bl (ltD d e)) H
theorem zbt(hu:X.A.units+100<cLine):OpR X (pR .Lt) (zeF X.K):=by
 intro tM s σ H x y v u Q I rx ry h;obtain⟨d,e,hx,hy,hd,ok,q⟩:=h;exact JS I 50 X.A d e x y v u ⋯ hd ok hx hy rx ry X.prog X.w X.xe _ #[.bl _,H,I,rfl,q]
end
theorem zaU{K:pD}{x y:V}{H:Hp}{Q:VK}{d e:D}(h1:Is K H d x)(h2:Is K H e y)(h3:dpD d<50)(h4:okD d e)(q:Q (.bl (ltD d e)) H):zeF K x y H Q:=#[d,e,h1,h2,h3,h4,q]
noncomputable def ltI:List Int->List Int->Bool
 | a::l,b::m=>if a=b then ltI l m else decide (a<b)
 | [],_::_=>tK
 | _,[]=>tL
theorem qA:∀(l m:List Int),kY (l.map D.int) (m.map D.int)
 | [],_=>by erw[aL,kY]
 | _::_,[]=>by erw[aL,ar,kY]
 | a::l,b::m=>by erw[ar,kY,okD,true_and];exact qA l m
theorem Ye:∀(l m:List Int),vF (l.map D.int) (m.map D.int)=ltI l m
 | [],[]=>by erw[aL,vF,ltI]
 | [],_::_=>by erw[aL,ar,vF,ltI]
 | _::_,[]=>by erw[aL,ar,vF,ltI]
 | a::l,b::m=>by
  erw[ar,vF,ltI,eqD,ltD,Ye l m,beq_iff_eq]
mutual
def xw:D->Prop
 | .lst _=>False
 | .tup l=>zV l
 | _=>True
def zV:List D->Prop
 | []=>True
 | d::l=>xw d/\zV l
end
theorem ku{K:pD}{H:Hp}{a p:pE}{xs ys zs:List V}(hp:H p=tI (.lst ys))(h:SqT K H a xs):SqT K (upd H p (.lst zs)) a xs:=by
 rcases h with (h | ⟨o,h⟩) | h
 ·refine .inl (.inl ?_);rw[zo (λe=>by rw[e,hp]at h;cases h)];exact h
 ·refine .inl (.inr #[o,?_]);rw[zo (λe=>by rw[e,hp]at h;cases h)];exact h
 ·exact .inr h
mutual
theorem Is.updL{K:pD}{H:Hp}{p:pE}{ys zs:List V}(hp:H p=tI (.lst ys)):∀(d:D) (v:V),xw d->Is K H d v->Is K (upd H p (.lst zs)) d v
 | .non,v,_,h=>by erw[Is]at h ⊢;exact h
 | .bl b,v,_,h=>by erw[Is]at h ⊢;exact h
 | .int b,v,_,h=>by erw[Is]at h ⊢;exact h
 | .str b,v,_,h=>by erw[Is]at h ⊢;exact h
 | .lst l,v,f,h=>by erw[xw]at f
 | .tup l,v,f,h=>by
  erw[Is]at h ⊢
  erw[xw]at f
  obtain⟨a,xs,e1,e2,e3⟩:=h;exact#[a,xs,e1,ku hp e2,Iss.updL hp l xs f e3]
theorem Iss.updL{K:pD}{H:Hp}{p:pE}{ys zs:List V}(hp:H p=tI (.lst ys)):∀(l:List D) (vs:List V),zV l->Iss K H l vs->Iss K (upd H p (.lst zs)) l vs
 | [],vs,_,h=>by erw[Iss]at h ⊢;exact h
 | d::l,vs,f,h=>by
  erw[Iss]at h ⊢
  erw[zV]at f
  obtain⟨v,r,e1,e2,e3⟩:=h;exact#[v,r,e1,Is.updL hp d v f.1 e2,Iss.updL hp l r f.2 e3]
end
theorem wE:∀{l:List D},(∀d ∈ l,xw d)->zV l
 | [],_=>by erw[zV]
 | d::l,h=>by erw[zV];exact#[h d (by simp),wE λe he=>h e (by simp [he])]
theorem UQ{n:Nat}:∀{l:List D},(∀d ∈ l,dpD d<=n)->uQ l<=n
 | [],_=>by erw[uQ];lia
 | d::l,h=>by
  have h1:=h d (by simp);have h2:=UQ (n:=n) (l:=l) λe he=>h e (by simp [he])
  erw[uQ]
  lia
def LsA(K:pD)(H:Hp)(a:pE)(ds:List D):Prop:=∃xs,H a=tI (.lst xs)/\Iss K H ds xs
theorem LsA.same{K:pD}{H H':Hp}{a:pE}{ds:List D}(h:LsA K H a ds)(e:Same H H'):LsA K H' a ds:=let #[xs,h1,h2]:=h; #[xs,e _ _ h1,Iss.same e _ _ h2]
theorem LsA.is{K:pD}{H:Hp}{a:pE}{ds:List D}(h:LsA K H a ds):Is K H (.lst ds) (.ref a):=by
 obtain⟨xs,h1,h2⟩:=h
 erw[Is]
 exact#[a,xs,rfl,SqL.of h1,h2]
theorem LsA.nil{K:pD}{H:Hp}{a:pE}:LsA K (upd H a (.lst [])) a []:=#[[],zc,by erw[Iss]]
theorem LsA.snoc{K:pD}{H:Hp}{a:pE}{ds:List D}{d:D}{xs:List V}{v:V}(h1:H a=tI (.lst xs))(h2:Iss K H ds xs)(f:zV ds)(fd:xw d)(hv:Is K H d v):LsA K (upd H a (.lst (xs ++ [v]))) a (ds ++ [d]) :=
 #[_,zc,Iss.append (Iss.updL h1 _ _ f h2) (by erw[Iss];exact#[v,[],rfl,Is.updL h1 _ _ fd hv,rfl])]
theorem Is.tup{K:pD}{H:Hp}{p:pE}{vs:List V}{ds:List D}(hp:H p=tJ)(h:Iss K H ds vs):Is K (upd H p (.tup vs)) (.tup ds) (.ref p):=by
 erw[Is]
 exact#[p,vs,rfl,SqT.of zc,Iss.same (zd hp) _ _ h]
noncomputable abbrev dS(l:()):D:=.str (tx l)
noncomputable abbrev zp:=() × ()
noncomputable def dR(r:zp):D:=.tup [dS r.1,dS r.2]
theorem zbx{K:pD}{H:Hp}{r:zp}{v:V}(h:Is K H (dR r) v):∃p,v=.ref p/\SqT K H p [.str (tx r.1),.str (tx r.2)]:=by
 erw[dR,Is,Iss]at h
 obtain⟨a,xs,e,hs,v1,r1,rfl,rfl,v2,r2,rfl,rfl,rfl⟩:=h;exact#[a,e,hs]
theorem Us{K:pD}{H:Hp}{p:pE}{l m:()}(h:SqT K H p [.str (tx l),.str (tx m)]):Is K H (dR (l,m)) (.ref p):=by
 erw[dR,Is,Iss]
 exact#[p,_,rfl,h,_,_,rfl,rfl,_,_,rfl,rfl,rfl]
theorem qY(r:zp):xw (dR r):=by erw[dR,xw,zV,and_self]
theorem zdX(r:zp):dpD (dR r)<=1:=by erw[dR,dpD,uQ];lia
theorem yF(rs:List zp):zV (rs.map dR):=wE λd h=>by obtain⟨r,_,rfl⟩:=tQ.mp h;exact qY r
theorem zcx(rs:List zp):uQ (rs.map dR)<=1:=UQ λd h=>by obtain⟨r,_,rfl⟩:=tQ.mp h;exact zdX r
noncomputable abbrev N3:=Nat × Nat × Nat
noncomputable def d3(t:N3):D:=.tup [.int (t.1:Nat),.int (t.2.1:Nat),.int (t.2.2:Nat)]
theorem zdn{K:pD}{H:Hp}{t:N3}{v:V}(h:Is K H (d3 t) v):∃p,v=.ref p/\SqT K H p [.int (t.1:Nat),.int (t.2.1:Nat),.int (t.2.2:Nat)]:=by
 erw[d3,Is,Iss]at h
 obtain⟨a,xs,e,hs,v1,r1,rfl,rfl,v2,r2,rfl,rfl,v3,r3,rfl,rfl,rfl⟩:=h;exact#[a,e,hs]
theorem zcP{K:pD}{H:Hp}{i j k:Nat}:Iss K H [.int (i:Nat),.int (j:Nat),.int (k:Nat)] [.int (i:Nat),.int (j:Nat),.int (k:Nat)]:=by
 erw[Iss,Is]
 exact#[_,_,rfl,rfl,_,_,rfl,rfl,_,_,rfl,rfl,rfl]
theorem zaB(t:N3):xw (d3 t):=by erw[d3,xw,zV,and_self]
theorem Xl(rs:List N3):zV (rs.map d3):=wE λd h=>by obtain⟨r,_,rfl⟩:=tQ.mp h;exact zaB r
theorem Iss.get{K:pD}{H:Hp}{l:List D}{vs:List V}{j:Nat}{v:V}(h:Iss K H l vs)(q:vs[j]? = tI v):∃d,l[j]? = tI d/\Is K H d v:=by
 have hj:=(tP.mp q).1;have hl:=h.len;have g1:l[j]? = tI l[j]:=aj ⋯;obtain⟨x,hx,ix⟩:=h.at g1;rw[q]at hx;cases hx;exact#[_,g1,ix]
theorem Iss.getR{K:pD}{H:Hp}{rs:List zp}{vs:List V}{j:Nat}{v:V}(h:Iss K H (rs.map dR) vs)(q:vs[j]? = tI v):∃r p,rs[j]? = tI r/\v=.ref p/\SqT K H p [.str (tx r.1),.str (tx r.2)]:=by
 obtain⟨d,e,i⟩:=h.get q;rw[aA]at e;obtain⟨r,hr,rfl⟩:=tW.mp e;obtain⟨p,e1,e2⟩:=zbx i;exact#[r,p,hr,e1,e2]
theorem Iss.get3{K:pD}{H:Hp}{rs:List N3}{vs:List V}{j:Nat}{v:V}(h:Iss K H (rs.map d3) vs)(q:vs[j]? = tI v):∃r p,rs[j]? = tI r/\v=.ref p/\SqT K H p [.int (r.1:Nat),.int (r.2.1:Nat),.int (r.2.2:Nat)]:=by
 obtain⟨d,e,i⟩:=h.get q;rw[aA]at e;obtain⟨r,hr,rfl⟩:=tW.mp e;obtain⟨p,e1,e2⟩:=zdn i;exact#[r,p,hr,e1,e2]
theorem zbG{α:Type}(l:List α){a b:Int}(h0:0<=a)(h1:a<=b):cut l (tI a) (tI b)=(l.drop a.toNat).take (b - a).toNat:=by
 by_cases h2:b<=l.length
 ·exact Y3 l h0 h1 h2
 ·obtain⟨m,rfl⟩:=bE h0;obtain⟨n,rfl⟩:=bE (by lia:0<=b);unfold cut;rw[HT.sIx_nat,HT.sIx_nat,dH (by lia:l.length<=n)];have e:(((n:Nat):Int) - ((m:Nat):Int)).toNat=n - m:=⋯;have e2:((m:Nat):Int).toNat=m:=rfl;rw[e,e2,bh (l:=l.drop m) (by rw[aW];lia)];by_cases hm:m<=l.length
  ·rw[dh hm,bh (by rw[aW];lia)]
  ·rw[dH ⋯,bi (ak _),bi ⋯,List.take_nil]
open Classical in
section
variable{X:Cx}{tM:List (pE × rb)}{σ:L2.St}{H:Hp}{s:pG}
open Classical in
end
structure DM(P:pK)(w:pM)(K:pD)(mg:pL->Option pF)(base:pP)(CX:CXT)(k:Nat)(C:pE)(m:pL)(ps:List pL)(sp:Sp):Prop where
 ex:∃f fd,zcr K C m f/\FnOk P w K mg base CX k f fd ps sp/\Binds K fd ps []
structure DMk(P:pK)(w:pM)(K:pD)(mg:pL->Option pF)(base:pP)(CX:CXT)(k:Nat)(C:pE)(ps:List pL)(sp:Sp):Prop where
 ex:∃f fd,Mk K C f/\FnOk P w K mg base CX k f fd ps sp/\Binds K fd ps []
section
variable{X:Cx}{k j:Nat}{C:pE}{m:pL}{ps:List pL}{sp:Sp}{o e:pO}{es:List pO}{ta:TE}{t:TA}{apos pos p:rB}{x:pL}{E:XK}
theorem me0(D:DM X.prog X.w X.K X.mg X.base CX0 k C m ps sp)(c:Cls X.K C)(hr:Room j X.A)(he:PE X o ta){pl:tw Bool}(ht:eval (.Call (.Attribute o m apos) [] [] pos) X.env=(do
      let ov <- eval o X.env
      standAt apos.atName
      let (f,first) <- holding [ov] (getMethod ov m pl)
      callWith pos f first (pV pos (pB [] X.env)) (rg pos (pT [] X.env))):=by rfl) (hj:k<=j:=by decide):PE X (.Call (.Attribute o m apos) [] [] pos) (kX C m sp [] E0 ta wn):=by
  obtain⟨f,fd,hm,F,hb⟩:=D.ex;exact JI he c hm F (hr.mono hj) hb .nil YU ht
theorem me1(D:DM X.prog X.w X.K X.mg X.base CX0 k C m ps sp)(c:Cls X.K C)(hr:Room j X.A)(he:PE X o ta)(ha:PA X (e::es) t){pl:tw Bool}
    (hst:pB (e::es) X.env=(tL,eval e X.env)::pB es X.env:=by rfl) (hpl:(pV pos (pB es X.env)).any (·.1)=tL:=by rfl)
    (ht:eval (.Call (.Attribute o m apos) (e::es) [] pos) X.env=(do
      let ov <- eval o X.env
      standAt apos.atName
      let (f,first) <- holding [ov] (getMethod ov m pl)
      callWith pos f first (pV pos (pB (e::es) X.env)) (rg pos (pT [] X.env))):=by rfl) (hj:k<=j:=by decide):PE X (.Call (.Attribute o m apos) (e::es) [] pos) (kX C m sp [] E0 ta t):=by
  obtain⟨f,fd,hm,F,hb⟩:=D.ex;exact KH he c hm F (hr.mono hj) hb .nil YU ha hst hpl ht
theorem mkC(D:DMk X.prog X.w X.K X.mg X.base CX0 k C ps sp)(hr:Room j X.A)(hg:Gl X x)(hm:X.mg x=tI (.ref C))(ha:PA X (e::es) t)(hdb:(x ==("__debug__" : pL))=tL:=by decide)(he:pB (e::es) X.env=(tL,eval e X.env)::pB es X.env:=by rfl)
  (hpl:(pV pos (pB es X.env)).any (·.1)=tL:=by rfl) (hj:k+1<=j:=by decide):PE X (.Call (.Name x p) (e::es) [] pos) (UN C sp [] E0 t):=by
 obtain⟨f,fd,M,F,hb⟩:=D.ex;exact V3 M F (hr.mono hj) hg hm hb .nil YU ha hdb he hpl
end
section
variable{X:Cx}
end
section
variable{X:Cx}{k j:Nat}{C:pE}{m:pL}{ps:List pL}{sp:Sp}{o e:pO}{es:List pO}{ta:TE}{t:TA}{apos pos p:rB}
end
def zv(Fam:pE->Prop)(m:pL)(sp:pE->Sp)(dvs:List V)(E:XK)(ta:TE)(t:TA):TE:=λσ H Q=>ta σ H λx H1=>∃C a dx fs,Fam C/\x=.ref a/\H1 a=tI (.ins C dx fs)/\fs.lookup m=tJ /\
 t σ H1 λvs H2=>sp C (x::(vs ++ dvs)) H2 Q E
structure DMF(P:pK)(w:pM)(K:pD)(mg:pL->Option pF)(base:pP)(CX:CXT)(k:Nat)(Fam:pE->Prop)(m:pL)(ps:List pL)(sp:pE->Sp):Prop where
 ex:∀C,Fam C->Cls K C/\DM P w K mg base CX k C m ps (sp C)
section
variable{X:Cx}{k j:Nat}{Fam:pE->Prop}{m:pL}{ps:List pL}{sp:pE->Sp}{o e:pO}{es:List pO}{ta:TE}{t:TA}{apos pos p:rB}{x:pL}{E:XK}
theorem ze7(D:DMF X.prog X.w X.K X.mg X.base CX0 k Fam m ps sp)(hr:Room j X.A)(he:PE X o ta){pl:tw Bool}(ht:eval (.Call (.Attribute o m apos) [] [] pos) X.env=(do
      let ov <- eval o X.env
      standAt apos.atName
      let (f,first) <- holding [ov] (getMethod ov m pl)
      callWith pos f first (pV pos (pB [] X.env)) (rg pos (pT [] X.env))):=by rfl) (hj:k<=j:=by decide):PE X (.Call (.Attribute o m apos) [] [] pos) (zv Fam m sp [] E0 ta wn):=by
  intro tM s σ H Q I h;refine bZ (pl:=pl) (thn (he tM s σ H _ I h) λu s1 ⟨x,H1,I1,rx,C,a,dx,fs,fam,ex,ea,l,q⟩=>?_) ht;subst ex;obtain rfl:u=Value.ref a:=rx;obtain⟨c,⟨f,fd,hm,F,hb⟩⟩:=D.ex C fam;refine xU I1 ea c hm l ?_;exact fG (first:=[.ref a]) I1.kIn hm.kp (jK (us:=[.ref a]) (vs:=[.ref a]) F (hr.mono hj) hb .nil YU I1 (.cons rfl .nil) q)
theorem zbl(D:DMF X.prog X.w X.K X.mg X.base CX0 k Fam m ps sp)(hr:Room j X.A)(he:PE X o ta)(ha:PA X (e::es) t){pl:tw Bool}
    (hst:pB (e::es) X.env=(tL,eval e X.env)::pB es X.env:=by rfl) (hpl:(pV pos (pB es X.env)).any (·.1)=tL:=by rfl)
    (ht:eval (.Call (.Attribute o m apos) (e::es) [] pos) X.env=(do
      let ov <- eval o X.env
      standAt apos.atName
      let (f,first) <- holding [ov] (getMethod ov m pl)
      callWith pos f first (pV pos (pB (e::es) X.env)) (rg pos (pT [] X.env))):=by rfl) (hj:k<=j:=by decide):PE X (.Call (.Attribute o m apos) (e::es) [] pos) (zv Fam m sp [] E0 ta t):=by
  intro tM s σ H Q I h;refine bZ (pl:=pl) (thn (he tM s σ H _ I h) λu s1 ⟨x,H1,I1,rx,C,a,dx,fs,fam,ex,ea,l,q⟩=>?_) ht;subst ex;obtain rfl:u=Value.ref a:=rx;obtain⟨c,⟨f,fd,hm,F,hb⟩⟩:=D.ex C fam;refine xU I1 ea c hm l ?_;refine bO (first:=[.ref a]) (h₀:=X.base) I.ok.mod.kin hm.kp (thn (ha pos tM s1 σ H1 _ I1 q) λus s2 ⟨vs,H2,I2,r,q2⟩=>#[I2.kIn,?_]) hst hpl;exact jK (us:=.ref a::us) (vs:=.ref a::vs) F (hr.mono hj) hb .nil YU I2 (.cons rfl r) q2
end
section
variable{X:Cx}
theorem X6:∀{ns:List Int} {its:List pF},Vals (ns.map V.int) its->sX its ns
 | [],_,.nil=>.nil
 | n::ns,_,.cons r t=>by
  obtain⟨tk,rfl⟩:=r;exact .cons n tk (X6 t)
def ym(K:pD):List V->Hp->VK->Prop:=λxs H Q=>∃(p:pE) (ns:List Int),xs=[.ref p]/\SqL K H p (ns.map V.int)/\Q (.int ns.sum) H
theorem zdu(hc:X.calm=tK):vL X (.builtin "sum") (ym X.K):=by
 intro tM s σ H xs us Q I r h;obtain⟨p,ns,rfl,hS,q⟩:=h;obtain⟨u,rfl,ru⟩:=wm r;cases ru;obtain⟨its,rv,pl,hz⟩:=I.list hS;have hh:X.A.handled=tJ:=I.ok.hd hc;have ia:=X6 rv;obtain⟨ps,e⟩:=ia.allInts.items
 have en:ps.toList.map (·.1)=ns:=by
  rw[<- nums_intItems,<- e];exact ia.numsOf
 refine sum_intListG hh (by rw[<- e];exact pl.isList) λh' tk t' hk=>?_;rw[preSum_eq,bh (by simp),en];exact#[.int ns.sum,H,I.kept hk,#[_,rfl],q]
end
theorem WL(l:()):((Builtin.Str.strSliceIndices tJ tJ (-1) (tx l).length).filterMap ((tx l).cps[·]?))=l.reverse:=by
 rw[zS,picked_rev];have e:(tx l).cps=l.toArray:=rfl;rw[e];apply List.ext_getElem?;intro i
 have h:((aV l.length).map λk=>l.length - 1 - k).filterMap (l.toArray[·]?)=(aV l.length).map λk=>l.getD (l.length - 1 - k) 0:=by
  rw[filterMap_get,cH]
  ·refine bu λk _=>?_;show l.toArray.getD (l.length - 1 - k) 0=_;simp [fz,List.getD];split <;> simp_all
  ·intro i hi;obtain⟨k,hk,rfl⟩:=tQ.mp hi;have:=tV.mp hk;show _<l.toArray.size;rw[am];lia
 rw[h];by_cases hi:i<l.length
 ·rw[bN hi,aA,List.getElem?_range hi];show tI (l.getD (l.length - 1 - i) 0)=_;rw[ac,aj ⋯];rfl
 ·rw[cU (by simp;lia),cU (by simp;lia)]
def yq(te ts:TE):TE:=λσ H Q=>te σ H λx H1=>ts σ H1 λy H2=>y=.int (-1)/\∃l:(),x=.str (tx l)/\l.length<=pC/\Q (.str (tx l.reverse)) H2
section
variable{X:Cx}{e st:pO}{te ts:TE}{pos p2:rB}
theorem zaW(he:PE X e te)(hs:PE X st ts):PE X (.Subscript e (.Slice tJ tJ (tI st) p2) pos) (yq te ts):=by
 intro tM s σ H Q I h;refine tD (thn (he tM s σ H _ I h) λv s1 ⟨x,H1,I1,r1,q1⟩=>?_);refine wpAny_Slice ?_;rw[evalPart_none];refine pz (pz ?_);rw[evalPart_some];refine thn (hs tM s1 σ H1 _ I1 q1) λu s2 ⟨y,H2,I2,r2,ey,l,ex,hl,q2⟩=>?_;subst ey ex;obtain⟨t,rfl⟩:=r1;obtain⟨tk,rfl⟩:=r2;have I4:Inv X tM σ H2 { s2 with heap:=s2.heap.push { cls:=.type "slice",data:=.fields (List.toArray [.none,.none,.int (-1) tk]) } }:=I2.kept (t':=s2.toks) λb ob q=>aa _ q;show pJ (model X.prog X.w) X.A (sL e (.Slice tJ tJ (tI st) p2) (.str (tx l) t) (.ref s2⁻¹)) (EP X tM σ Q) X.xe { s2 with heap:=s2.heap.push { cls:=.type "slice",data:=.fields (List.toArray [.none,.none,.int (-1) tk]) } };refine tail_any (ops:=[.ref s2⁻¹,.str (tx l) t]) (typeIs_str _ (tx l) t) slot_str_getitem.lookup ?_ (by with_unfolding_all rfl);refine sq (l:=tJ) (u:=tJ) (st:=tI (-1,tk)) (Heap.IsSliceOf.new ..) rfl ?_;unfold sliceMade slicePicked
 have hc':¬ (((tI ((-1:Int),tk)).map (·.1)).getD 1 == 1 && (Builtin.Str.strSliceIndices ((tJ:Option (Int × rZ)).map (·.1)) ((tJ:Option (Int × rZ)).map (·.1)) (((tI ((-1:Int),tk)).map (·.1)).getD 1) (tx l).length).length ==(tx l).length)=tK:=by
  have:(((tI ((-1:Int),tk)).map (·.1)).getD 1 == 1)=tL:=rfl;rw[this];simp
 rw[if_neg hc']
 have e:Str.mk ((Builtin.Str.strSliceIndices tJ tJ (-1) (tx l).length).filterMap ((tx l).cps[·]?)).toArray=tx l.reverse:=by
  rw[WL]
 show (Str.mk ((Builtin.Str.strSliceIndices tJ tJ (-1) (tx l).length).filterMap ((tx l).cps[·]?)).toArray).length<=pC/\_;rw[e];refine#[by rw[zS,dW];exact hl,?_]
 exact#[.str (tx l.reverse),H2,I4.tok _,#[_,by
  show Value.str (Str.mk ((Builtin.Str.strSliceIndices tJ tJ (-1) (tx l).length).filterMap ((tx l).cps[·]?)).toArray) _=_
  rw[e]],q2]
end
structure zeR(K:pD)(C:pE)(m:pL)(f:pE):Prop where
 sg:cB K (.ref C) "__getattribute__" = tI (tI (.builtin "type.__getattribute__"))
 rd:fY K C (.type "type")=tK
 fc:fZ K (.ref C) (.type "type") m=tI (.val (.ref f))
 kp:aJ K (.ref f)=tK
structure DC(P:pK)(w:pM)(K:pD)(mg:pL->Option pF)(base:pP)(CX:CXT)(k:Nat)(C:pE)(m:pL)(ps:List pL)(sp:Sp):Prop where
 ex:∃f fd,zeR K C m f/\FnOk P w K mg base CX k f fd ps sp/\Binds K fd ps []
section
variable{X:Cx}{k j:Nat}{C:pE}{m x:pL}{ps:List pL}{sp:Sp}{e:pO}{es:List pO}{t:TA}{apos pos p:rB}
theorem KW(D:DC X.prog X.w X.K X.mg X.base CX0 k C m ps sp)(hr:Room j X.A)(hg:Gl X x)(hm:X.mg x=tI (.ref C))(ha:PA X (e::es) t){pl:tw Bool}(hdb:(x ==("__debug__" : pL))=tL:=by decide)
    (hst:pB (e::es) X.env=(tL,eval e X.env)::pB es X.env:=by rfl) (hpl:(pV pos (pB es X.env)).any (·.1)=tL:=by rfl)
    (ht:eval (.Call (.Attribute (.Name x p) m apos) (e::es) [] pos) X.env=(do
      let ov <- eval (.Name x p) X.env
      standAt apos.atName
      let (f,first) <- holding [ov] (getMethod ov m pl)
      callWith pos f first (pV pos (pB (e::es) X.env)) (rg pos (pT [] X.env))):=by rfl) (hj:k<=j:=by decide):PE X (.Call (.Attribute (.Name x p) m apos) (e::es) [] pos) (uu sp [] E0 t):=by
  obtain⟨f,fd,cm,F,hb⟩:=D.ex;have hn:PE X (.Name x p) (tC (.ref C)):=yl hg hm rfl hdb;intro tM s σ H Q I h;refine bZ (pl:=pl) (thn (hn tM s σ H (λy H1=>y=.ref C/\H1=H) I #[rfl,rfl]) λu s1 ⟨y,H1,I1,ry,ey,eH⟩=>?_) ht;subst ey eH;obtain rfl:u=Value.ref C:=ry;refine PySem.W.method_cls I1.kIn cm.sg (PySem.W.cls_value I1.kIn cm.rd cm.fc rfl ?_);refine bO (first:=[]) (h₀:=X.base) I.ok.mod.kin cm.kp (thn (ha pos tM _ σ H1 _ (I1.tok _) h) λus s2 ⟨vs,H2,I2,r,q2⟩=>#[I2.kIn,?_]) hst hpl;exact jK (us:=us) (vs:=vs) F (hr.mono hj) hb .nil YU I2 r q2
def zu:V->List V->Hp->VK->Prop:=λx xs H Q=>∃(z y:pL) (i:Nat),x=.str z/\xs=[.str y]/\PySem.Txt.find z y=(i:Int)/\Q (.int (i:Nat)) H
theorem KU:MtR X "str.index" zu:=by
 intro tM s σ H x xs v us Q I rx rv h;obtain⟨z,y,i,rfl,rfl,hf,q⟩:=h;obtain⟨t,rfl⟩:=rx;obtain⟨u,rfl,t',rfl⟩:=wm rv;unfold PySem.Txt.find at hf
 cases ho:Builtin.Str.occurrences z y 0 z.length 1 with
 | nil=>rw[ho]at hf;dsimp only at hf;lia
 | cons a r =>
  rw[ho]at hf;have:a=i:=by dsimp only at hf;lia
  subst this;exact PySem.SC.index ho #[.int _,H,I.tok _,#[_,rfl],q]
end
section
variable{prog:pK}{w:pM}{A:pN}{E:pF->pG->Prop}{s:pG}
theorem wZ{h h':pP}{a:pE}{ty:String}{x:pL}{t:rZ}{i:Nat}(y:h.IsStrIter a ty x t i)(e:∀o,h.get? a=tI o->h'.get? a=tI o):h'.IsStrIter a ty x t i:=let #[o,ho,r]:=y; #[o,e o ho,r]
theorem vU{h h':pP}{a t:pE}{i:Nat}(y:h.IsTupleIter a t i)(e:∀o,h.get? a=tI o->h'.get? a=tI o):h'.IsTupleIter a t i:=let #[o,ho,r]:=y; #[o,e o ho,r]
theorem Ky{h h':pP}{a:pE}{xs:Array pF}(y:h.IsTuple a xs)(e:∀o,h.get? a=tI o->h'.get? a=tI o):h'.IsTuple a xs:=let #[o,ho,r]:=y; #[o,e o ho,r]
theorem sit(x:pL):pS x="str_ascii_iterator"\/pS x="str_iterator":=by
 unfold pS;split
 ·exact .inl rfl
 ·exact .inr rfl
theorem jg{it:pE}{x:pL}{t:rZ}{i c:Nat}{Q:pF->pG->Prop}(hit:s.heap.IsStrIter it (pS x) x t i)(hx:x.cps[i]? = tI c)
  (hQ:∀h',h'.IsStrIter it (pS x) x t (i+1)->Heap.SameBut it s.heap h'->Q (.str ⟨#[c]⟩ s.toks) { s with heap:=h',toks:=s.toks+1 }) :
  pJ (model prog w) A (Builtin.SmallTypes.nextOf (.ref it)) Q E s:=by
 rcases sit x with e | e
 ·rw[e]at hit hQ;exact wpAny_nextOf_ascii_item hit hx hQ
 ·rw[e]at hit hQ;exact wpAny_nextOf_wide_item hit hx hQ
theorem jp{it:pE}{x:pL}{t:rZ}{i:Nat}{Q:pF->pG->Prop}(hh:A.handled=tJ)(hit:s.heap.IsStrIter it (pS x) x t i)(hx:x.cps[i]? = tJ)
  (hE:∀h' e,Heap.ExtBut it s.heap h'->(∃o,h'.get? e=tI o/\o.cls=.type "StopIteration")->E (.ref e) { s with heap:=h' }) :
  pJ (model prog w) A (Builtin.SmallTypes.nextOf (.ref it)) Q E s:=by
 rcases sit x with e | e
 ·rw[e]at hit;exact wpAny_nextOf_ascii_end hh hit hx hE
 ·rw[e]at hit;exact wpAny_nextOf_wide_end hh hit hx hE
theorem qT{it t:pE}{i:Nat}{items:Array pF}{x:pF}{Q:pF->pG->Prop}(hit:s.heap.IsTupleIter it t i)(ht:s.heap.IsTuple t items)(hx:items[i]? = tI x)
  (hQ:∀h',h'.IsTupleIter it t (i+1)->Heap.SameBut it s.heap h'->Q x { s with heap:=h' }) :
  pJ (model prog w) A (Builtin.SmallTypes.nextOf (.ref it)) Q E s:=by
 obtain⟨o,ho,hc,hd⟩:=id hit;obtain⟨ol,hol,_,nl,hdl⟩:=ht;unfold Builtin.SmallTypes.nextOf
 refine pq (wpAny_callSpecial?_slot (name:=bH "__next__") hit.typeIs F.slot_tuple_iterator_next
  (sr F.slot_tuple_iterator_next hit.typeIs F.entry_tuple_iterator_next ?_ (F.args_tuple_iterator_next_1 _)))
 show pJ _ _ (field (.ref it) 0 >>= _) _ _ s;refine pq (pW ho hd (x:=.ref t) rfl ?_);show pJ _ _ (if (Value.ref t == Value.none)=tK then _ else _) _ _ s;rw[if_neg (show ¬ ((Value.ref t == Value.none)=tK)from aC)];show pJ _ _ (field (.ref it) 1 >>= _) _ _ s;refine pq (pW ho hd (x:=.int i 0) rfl ?_);show pJ _ _ (seqItems? (.ref t) >>= _) _ _ s;refine pq (rh hol hdl ?_)
 erw[aZ,hx]
 refine pq (rA ho hd (by simp) (pz #[x,rfl,pz (hQ _ ?_ (Heap.SameBut.update ..))]))
 exact#[_,cb _ ho (Obj.isFreed_of_fields (Obj.data_mapFields hd _)),(Obj.cls_mapFields ..).trans hc,by
  rw[Obj.data_mapFields hd];simp [rawInt]]
structure zb5(z TI TO i1 i2 l2:pE):Prop extends Km z TI TO i1 i2 where
 l2z:l2≠z
 l2TO:l2≠TO
 l2i1:l2≠i1
 l2i2:l2≠i2
theorem JP{z TI TO i1 i2 l2:pE}{k c:Nat}{X:pL}{tx:rZ}{ys:Array pF}{y a b:pF}{Q:pF->pG->Prop}(D:zb5 z TI TO i1 i2 l2)
  (hz:si s.heap z TI TO .none) (hTI:rn s.heap TI (.ref i1) (.ref i2)) (hTO:rn s.heap TO a b)
  (h1:s.heap.IsStrIter i1 (pS X) X tx k) (h2:s.heap.IsTupleIter i2 l2 k) (hl2:s.heap.IsTuple l2 ys) (hx:X.cps[k]? = tI c) (hy:ys[k]? = tI y)
  (hQ:∀h' t',si h' z TI TO (rawInt s⁻¹)->rn h' TO (.str ⟨#[c]⟩ t') y->h'.IsStrIter i1 (pS X) X tx (k+1)->h'.IsTupleIter i2 l2 (k+1)->rn h' s⁻¹ (.str ⟨#[c]⟩ t') y->h'.objs.size=s⁻¹+1 ->
   (∀c o,c≠z->c≠TO->c≠i1->c≠i2->s.heap.get? c=tI o->h'.get? c=tI o)->Q (.ref s⁻¹) { s with heap:=h',toks:=s.toks+1 }) :
  pJ (model prog w) A (Builtin.«zip.__next__» #[[.ref z],[]]) (λfin s'=>∃v,fin=.done (.ret v)/\Q v s') E s:=by
 show pJ _ _ (field (.ref z) 2 >>= _) _ _ _;refine pq (pW hz rfl (x:=.bool tL) rfl ?_);show pJ _ _ (field (.ref z) 3 >>= _) _ _ _;refine pq (pW hz rfl (x:=.ref TI) rfl ?_);refine pq (rh hTI rfl ?_);show pJ _ _ (Builtin.SmallTypes.ownedTupleIsFree (.ref z) >>= _) _ _ _;refine pq ?_;unfold Builtin.SmallTypes.ownedTupleIsFree;refine pq (pW hz rfl (x:=.none) rfl (pz ?_))
 erw[if_true]
 refine pq (su ?_);refine pq (pW hz rfl (x:=.ref TO) rfl ?_);refine pq (rD hz (by simp) λh₁ hz₁ hs₁=>?_)
 replace hz₁:si h₁ z TI TO .ellipsis:=hz₁
 refine pq ?_
 erw[List.zipIdx_cons,List.zipIdx_nil,dg,fj]
 refine pq (pq (sJ ?_));show pJ _ _ (Builtin.SmallTypes.nextOf (.ref i1) >>= _) _ _ _;refine pq (jg (s:={ s with heap:=h₁ }) (wZ h1 λo e=>hs₁.extBut _ _ D.i1z e) hx λh₂ h1₂ hs₂=>pz ?_);have hTO₂:rn h₂ TO a b:=hs₂.extBut _ _ D.TOi1 (hs₁.extBut _ _ D.TOz hTO);refine pq (rh hTO₂ rfl ?_);refine pq (sA hTO₂ λh₃ hTO₃ hs₃=>?_)
 replace hTO₃:rn h₃ TO (.str ⟨#[c]⟩ s.toks) b:=hTO₃
 refine pq (rN (pz ?_));refine pq (pq (sJ ?_));show pJ _ _ (Builtin.SmallTypes.nextOf (.ref i2) >>= _) _ _ _;have up3:∀d o,d≠z->d≠i1->d≠TO->s.heap.get? d=tI o->h₃.get? d=tI o:=λd o d1 d2 d3 e=>hs₃.extBut _ _ d3 (hs₂.extBut _ _ d2 (hs₁.extBut _ _ d1 e));refine pq (qT (vU h2 λo e=>up3 _ o D.i2z D.i12.symm D.TOi2.symm e) (Ky hl2 λo e=>up3 _ o D.l2z D.l2i1 D.l2TO e) hy λh₄ h2₄ hs₄=>pz ?_);have hTO₄:rn h₄ TO (.str ⟨#[c]⟩ s.toks) b:=hs₄.extBut _ _ D.TOi2 hTO₃;refine pq (rh hTO₄ rfl ?_);refine pq (sA hTO₄ λh₅ hTO₅ hs₅=>?_)
 replace hTO₅:rn h₅ TO (.str ⟨#[c]⟩ s.toks) y:=hTO₅
 refine pq (rN (pz (pz ?_)));refine pq (rh hTO₅ rfl ?_);refine pq (wpAny_newTuple ?_);have hsz:h₅.objs.size=s⁻¹:=by rw[hs₅.1,hs₄.1,hs₃.1,hs₂.1,hs₁.1]
 have hz₅:si h₅ z TI TO .ellipsis:=hs₅.extBut _ _ D.TOz.symm (hs₄.extBut _ _ D.i2z.symm (hs₃.extBut _ _ D.TOz.symm (hs₂.extBut _ _ D.i1z.symm hz₁)))
 have hk₅:∀c o,c≠z->c≠TO->c≠i1->c≠i2->s.heap.get? c=tI o->h₅.get? c=tI o:=λc o c1 c2 c3 c4 e =>
  hs₅.extBut _ _ c2 (hs₄.extBut _ _ c4 (up3 _ _ c1 c3 c2 e))
 have h1₅:h₅.IsStrIter i1 (pS X) X tx (k+1):=wZ h1₂ λo e=>hs₅.extBut _ _ D.TOi1.symm (hs₄.extBut _ _ D.i12 (hs₃.extBut _ _ D.TOi1.symm e));have h2₅:h₅.IsTupleIter i2 l2 (k+1):=vU h2₄ λo e=>hs₅.extBut _ _ D.TOi2.symm e;have hzlt:z<h₅.objs.size:=aq hz₅;show pJ _ _ (Builtin.SmallTypes.ownedTupleHandOut (.ref z) (.ref h₅.objs.size) >>= _) _ _ _;refine pq ?_;unfold Builtin.SmallTypes.ownedTupleHandOut;have hz₆:si (h₅.push { cls:=.type "tuple",data:=.seq (List.toArray [.str ⟨#[c]⟩ s.toks,y]) }) z TI TO .ellipsis:=aa _ hz₅;refine pq (rD hz₆ (by simp) λh₇ hz₇ hs₇=>?_)
 replace hz₇:si h₇ z TI TO (rawInt h₅.objs.size):=hz₇
 refine rD hz₇ (by simp) λh₈ hz₈ hs₈=>?_
 replace hz₈:si h₈ z TI TO (rawInt h₅.objs.size):=hz₈
 have up:∀c o,c≠z->h₅.get? c=tI o->h₈.get? c=tI o:=λc o c1 e=>hs₈.extBut _ _ c1 (hs₇.extBut _ _ c1 (aa _ e));have hT₈:rn h₈ h₅.objs.size (.str ⟨#[c]⟩ s.toks) y:=hs₈.extBut _ _ (bW hzlt) (hs₇.extBut _ _ (bW hzlt) (aD _ rfl));have hz8:h₈.objs.size=h₅.objs.size+1:=by rw[hs₈.1,hs₇.1,bT]
 rw[hsz]at hz₈ hT₈ hz8;refine pz #[_,rfl,?_];show Q (.ref h₅.objs.size) _;rw[hsz];exact hQ h₈ s.toks hz₈ (up _ _ D.TOz hTO₅) (wZ h1₅ λo e=>up _ o D.i1z e) (vU h2₅ λo e=>up _ o D.i2z e) hT₈ hz8 λc o c1 c2 c3 c4 e=>up c o c1 (hk₅ c o c1 c2 c3 c4 e)
theorem KL{z TI TO i1 i2 l2:pE}{k:Nat}{X:pL}{tx:rZ}{a b:pF}{Q:Fin->pG->Prop}(hh:A.handled=tJ)(D:zb5 z TI TO i1 i2 l2)
  (hz:si s.heap z TI TO .none) (hTI:rn s.heap TI (.ref i1) (.ref i2)) (hTO:rn s.heap TO a b)
  (h1:s.heap.IsStrIter i1 (pS X) X tx k) (hx:X.cps[k]? = tJ)
  (hE:∀h' e,(∀c o,c≠z->c≠TO->c≠i1->c≠i2->s.heap.get? c=tI o->h'.get? c=tI o)->(∃o,h'.get? e=tI o/\o.cls=.type "StopIteration")->E (.ref e) { s with heap:=h' }) :
  pJ (model prog w) A (Builtin.«zip.__next__» #[[.ref z],[]]) Q E s:=by
 show pJ _ _ (field (.ref z) 2 >>= _) _ _ _;refine pq (pW hz rfl (x:=.bool tL) rfl ?_);show pJ _ _ (field (.ref z) 3 >>= _) _ _ _;refine pq (pW hz rfl (x:=.ref TI) rfl ?_);refine pq (rh hTI rfl ?_);show pJ _ _ (Builtin.SmallTypes.ownedTupleIsFree (.ref z) >>= _) _ _ _;refine pq ?_;unfold Builtin.SmallTypes.ownedTupleIsFree;refine pq (pW hz rfl (x:=.none) rfl (pz ?_))
 erw[if_true]
 refine pq (su ?_);refine pq (pW hz rfl (x:=.ref TO) rfl ?_);refine pq (rD hz (by simp) λh₁ hz₁ hs₁=>?_)
 replace hz₁:si h₁ z TI TO .ellipsis:=hz₁
 refine pq ?_
 erw[List.zipIdx_cons,List.zipIdx_nil,dg,fj]
 refine pq (pq (sJ ?_));show pJ _ _ (Builtin.SmallTypes.nextOf (.ref i1) >>= _) _ _ _;refine pq (jp (s:={ s with heap:=h₁ }) hh (wZ h1 λo e=>hs₁.extBut _ _ D.i1z e) hx λh₂ e hs₂ he=>?_);obtain⟨oe,hoe,hce⟩:=he;have hz₂:si h₂ z TI TO .ellipsis:=hs₂ _ _ D.i1z.symm hz₁;have hez:e≠z:=λx=>by subst x;rw[hz₂]at hoe;cases hoe;simp at hce
 refine rD hz₂ (by simp) λh₃ _ hs₃=>hE h₃ e (λc o c1 _ c3 _ x=>hs₃.extBut _ _ c1 (hs₂ _ _ c3 (hs₁.extBut _ _ c1 x))) #[oe,hs₃.extBut _ _ hez hoe,hce]
theorem qo{z TI TO i1 i2 l2:pE}{k c:Nat}{X:pL}{tx:rZ}{ys:Array pF}{y a b:pF}{Q:Option pF->pG->Prop}(D:zb5 z TI TO i1 i2 l2)
  (hz:si s.heap z TI TO .none) (hTI:rn s.heap TI (.ref i1) (.ref i2)) (hTO:rn s.heap TO a b)
  (h1:s.heap.IsStrIter i1 (pS X) X tx k) (h2:s.heap.IsTupleIter i2 l2 k) (hl2:s.heap.IsTuple l2 ys) (hx:X.cps[k]? = tI c) (hy:ys[k]? = tI y)
  (hQ:∀h' t',si h' z TI TO (rawInt s⁻¹)->rn h' TO (.str ⟨#[c]⟩ t') y->h'.IsStrIter i1 (pS X) X tx (k+1)->h'.IsTupleIter i2 l2 (k+1)->rn h' s⁻¹ (.str ⟨#[c]⟩ t') y->h'.objs.size=s⁻¹+1 ->
   (∀c o,c≠z->c≠TO->c≠i1->c≠i2->s.heap.get? c=tI o->h'.get? c=tI o)->Q (tI (.ref s⁻¹)) { s with heap:=h',toks:=s.toks+1 }) :
  pJ (model prog w) A (pyNext (.ref z)) Q E s:=by
 have hT:s.TypeIs (.ref z) "zip":=#[_,hz,rfl];unfold pyNext
 exact pq (rT (wpAny_callSpecial?_slot (name:=bH "__next__") hT F.slot_zip_next
  (sr F.slot_zip_next hT F.entry_zip_next
   (JP D hz hTI hTO h1 h2 hl2 hx hy λh' t' a1 a2 a3 a4 a5 a6 a7=>pz (hQ h' t' a1 a2 a3 a4 a5 a6 a7)) (F.args_zip_next_1 _))))
theorem jy{z TI TO i1 i2 l2:pE}{k:Nat}{X:pL}{tx:rZ}{a b:pF}{Q:Option pF->pG->Prop}(hh:A.handled=tJ)(D:zb5 z TI TO i1 i2 l2)
  (hz:si s.heap z TI TO .none) (hTI:rn s.heap TI (.ref i1) (.ref i2)) (hTO:rn s.heap TO a b)
  (h1:s.heap.IsStrIter i1 (pS X) X tx k) (hx:X.cps[k]? = tJ)
  (hQ:∀h',(∀c o,c≠z->c≠TO->c≠i1->c≠i2->s.heap.get? c=tI o->h'.get? c=tI o)->Q tJ { s with heap:=h' }):pJ (model prog w) A (pyNext (.ref z)) Q E s:=by
 have hT:s.TypeIs (.ref z) "zip":=#[_,hz,rfl];unfold pyNext
 refine pq (rT (wpAny_callSpecial?_slot (name:=bH "__next__") hT F.slot_zip_next
  (sr F.slot_zip_next hT F.entry_zip_next (KL hh D hz hTI hTO h1 hx λh' e hk he=>?_) (F.args_zip_next_1 _))))
 obtain⟨o,ho,hc⟩:=he;refine pq (wpAny_isInstance (T:="StopIteration") (b:=tK) #[o,ho,hc] isSubtype_stop ?_);exact pz (hQ _ hk)
end
noncomputable abbrev zc9(h:pP)(x:pL)(t:rZ):pP:=h.push { cls:=.type (pS x),data:=.fields (List.toArray [.str x t,.int 0 0]) }
noncomputable abbrev zdd(h:pP)(x:pL)(t:rZ)(l2:pE):pP:=(zc9 h x t).push { cls:=.type "tuple_iterator",data:=.fields (List.toArray [.ref l2,.int 0 0]) }
noncomputable abbrev zda(h:pP)(x:pL)(t:rZ)(l2:pE):pP:=(zdd h x t l2).push { cls:=.type "tuple",data:=.seq (List.toArray [.ref h.objs.size,.ref (zc9 h x t).objs.size]) }
noncomputable abbrev zdc(h:pP)(x:pL)(t:rZ)(l2:pE):pP:=(zda h x t l2).push { cls:=.type "tuple",data:=.seq (List.toArray [.none,.none]) }
noncomputable abbrev zaT(h:pP)(x:pL)(t:rZ)(l2:pE):pP:=(zdc h x t l2).push { cls:=.type "zip",data:=.fields (List.toArray [.none,.bool tL,.bool tL,.ref (zdd h x t l2).objs.size,.ref (zda h x t l2).objs.size]) }
theorem kT(x:pL)(t:rZ)(l2:pE)(ys:Array pF) :
  Meets (Builtin.«zip.__new__» #[[.type "zip",.str x t,.ref l2],[]]) (λ_ R s=>s.heap.IsTuple l2 ys /\
   R (.ok (.ret (.ref (zdc s.heap x t l2).objs.size))) { s with heap:=zaT s.heap x t l2 }) :=
 .of_wp λprog w A R s h=>by
  obtain⟨hp,g,d,tk,os⟩:=s;obtain⟨hl2,h⟩:=h;have hsub:=sub_zip;have hL2:Heap.IsTuple (Shared.heap #[hp.push { cls:=.type (pS x),data:=.fields (List.toArray [.str x t,.int 0 0]) },g,d,tk,os]) l2 ys:=Ky hl2 λo e=>aa _ e
  wp_walk using wpAny_pyIter_strU (s:=#[hp,g,d,tk,os]) (x:=x) (t:=t),sN hL2
  exact#[_,rfl,h]
section
variable{prog:pK}{w:pM}{A:pN}{E:pF->pG->Prop}{s:pG}
theorem QC{x:pL}{t:rZ}{l2:pE}{ys:Array pF}{Q:pF->pG->Prop}(hl2:s.heap.IsTuple l2 ys)
  (h:∀h',si h' (s⁻¹+4) (s⁻¹+2) (s⁻¹+3) .none->rn h' (s⁻¹+2) (.ref s⁻¹) (.ref (s⁻¹+1)) ->
   rn h' (s⁻¹+3) .none .none->h'.IsStrIter s⁻¹ (pS x) x t 0->h'.IsTupleIter (s⁻¹+1) l2 0->h'.objs.size=s⁻¹+5 ->
   (∀c o,s.heap.get? c=tI o->h'.get? c=tI o)->Q (.ref (s⁻¹+4)) { s with heap:=h' }) :
  pJ (model prog w) A (call (.type "zip") [.str x t,.ref l2]) Q E s:=by
 refine callType_new F.called_zip ∅ (F.typeCall_zip_2 _ _) (F.newCall_zip_2 _ _) (λobj=>F.args_object_init_3 obj _ _) F.entry_zip_new
  (kT x t l2 ys) #[hl2,?_]
 have z1:(zc9 s.heap x t).objs.size=s⁻¹+1:=bT ..;have z2:(zdd s.heap x t l2).objs.size=s⁻¹+2:=by rw[bT,z1]
 have z3:(zda s.heap x t l2).objs.size=s⁻¹+3:=by rw[bT,z2]
 have z4:(zdc s.heap x t l2).objs.size=s⁻¹+4:=by rw[bT,z3]
 have z5:(zaT s.heap x t l2).objs.size=s⁻¹+5:=by rw[bT,z4]
 have g5:(zaT s.heap x t l2).get? (zdc s.heap x t l2).objs.size=tI _:=aD _ rfl;have g4:(zaT s.heap x t l2).get? (zda s.heap x t l2).objs.size=tI _:=aa _ (aD _ rfl);have g3:(zaT s.heap x t l2).get? (zdd s.heap x t l2).objs.size=tI _:=aa _ (aa _ (aD _ rfl));have g2:(zaT s.heap x t l2).get? (zc9 s.heap x t).objs.size=tI _:=aa _ (aa _ (aa _ (aD _ rfl)));have g1:(zaT s.heap x t l2).get? s⁻¹=tI _:=aa _ (aa _ (aa _ (aa _ (aD _ rfl))));show _/\_;rw[z2,z3,z4]at g5;rw[z1,z2]at g3;rw[z3]at g4;rw[z1]at g2;rw[z4]
 exact#[#[_,g5,rfl],h _ g5 g3 g4 #[_,g1,rfl,rfl] #[_,g2,rfl,rfl] z5 λc o x =>
  aa _ (aa _ (aa _ (aa _ (aa _ x))))]
end
noncomputable def Izs(K:pD)(l:())(b:pE):It:=#[λi H=>∃ys y,SqT K H b ys/\i<l.length/\ys[i]? = tI y,λi H v H'=>∃p c y,H p=tJ/\l[i]? = tI c/\(∀ys,SqT K H b ys->ys[i]? = tI y)/\v=.ref p/\H'=upd H p (.tup [.str (tx [c]),y]),λi H=>i=l.length]
def ZSt(z TI TO i1 i2:pE)(X:pL)(t:rZ)(l2:pE)(i:Nat)(h:pP):Prop:=si h z TI TO .none/\rn h TI (.ref i1) (.ref i2)/\(∃a b,rn h TO a b)/\h.IsStrIter i1 (pS X) X t i/\h.IsTupleIter i2 l2 i
theorem Q9{P:pK}{w:pM}{K:pD}{elts:List pO}{x1:Nat}{tpos:rB}(z TI TO i1 i2 l2:pE)(l:())(t:rZ)(D:zb5 z TI TO i1 i2 l2) :
  Qu P w K (.Tuple elts x1 tpos) (Izs K l l2) [z,TI,TO,i1,i2] z (λi h=>ZSt z TI TO i1 i2 (tx l) t l2 i h) where
 mem:=by simp
 obj:=λi h st b hb=>by
  obtain⟨hz,hTI,⟨a,c,hTO⟩,⟨o1,e1,c1,d1⟩,⟨o2,e2,c2,d2⟩⟩:=st
  erw[bC,eJ,or_false]at hb
  rcases hb with rfl | rfl | rfl | rfl | rfl
  ·exact#[_,hz,λv q=>by have q':Data.fields _=Data.cell v:=q;cases q']
  ·exact#[_,hTI,λv q=>by have q':Data.seq _ _=Data.cell v:=q;cases q']
  ·exact#[_,hTO,λv q=>by have q':Data.seq _ _=Data.cell v:=q;cases q']
  ·exact#[o1,e1,λv q=>by rw[d1]at q;cases q]
  ·exact#[o2,e2,λv q=>by rw[d2]at q;cases q]
 keep:=λi h h' st k=>by
  obtain⟨hz,hTI,⟨a,c,hTO⟩,h1,h2⟩:=st;exact#[k z (by simp) _ hz,k TI (by simp) _ hTI,#[a,c,k TO (by simp) _ hTO],wZ h1 λo e=>k i1 (by simp) o e,vU h2 λo e=>k i2 (by simp) o e]
 item:=by
  intro X hP hw hK hc i tM s σ H E I hf st hg;subst hP hw hK;obtain⟨ys,y,hqy,hi,hy⟩:=hg;obtain⟨its2,rv2,p2,_⟩:=I.tuple hqy;obtain⟨u2,hu2,ru2⟩:=rv2.get hy;obtain⟨hz,hTI,⟨a,b,hTO⟩,h1,h2⟩:=st;have hl2:s.heap.IsTuple l2 its2.toArray:=p2
  have hx:(tx l).cps[i]? = tI l[i]:=by
   show l.toArray[i]? = _;simp [hi]
  refine qo D hz hTI hTO h1 h2 hl2 hx (y:=u2) (by simpa using hu2) λh' t' a1 a2 a3 a4 a5 a6 hk=>?_;refine#[_,rfl,wpAny_letOwnedTupleGo_zip (s:={ s with heap:=h',toks:=s.toks+1 }) a1 λh2' hz2 sb=>?_];have zlt:z<s⁻¹:=aq hz;have TIlt:TI<s⁻¹:=aq hTI;have TOlt:TO<s⁻¹:=aq hTO;have i1lt:i1<s⁻¹:=by obtain⟨o,e,_⟩:=h1;exact aq e
  have i2lt:i2<s⁻¹:=by obtain⟨o,e,_⟩:=h2;exact aq e
  have I1:Inv X tM σ H { s with heap:=h2',toks:=s.toks+1 }:=Inv.turns (fp:=[z,TI,TO,i1,i2]) I (λb o hb q=>by
   have hb':b≠z/\b≠TI/\b≠TO/\b≠i1/\b≠i2:=by simpa using hb
   exact (sb.2 b hb'.1).trans (hk b o hb'.1 hb'.2.2.1 hb'.2.2.2.1 hb'.2.2.2.2 q)) hf
  have hp:H s⁻¹=tJ:=I.hok.fresh (ak _);have hT2:h2'.get? s⁻¹=tI { cls:=.type "tuple",data:=.seq (List.toArray [.str ⟨#[l[i]]⟩ t',u2]) }:=(sb.2 _ (bW zlt)).trans a5;have ru1:RelV (.str (tx [l[i]])) (.str ⟨#[l[i]]⟩ t'):=#[t',rfl]
  have I2:Inv X tM σ (upd H s⁻¹ (.tup [.str (tx [l[i]]),y])) { s with heap:=h2',toks:=s.toks+1 } :=
   Inv.track I1 (I.fpOk (ak _) hp) #[by show 2<=pC;decide,[.str ⟨#[l[i]]⟩ t',u2],.cons ru1 (.cons ru2 .nil),#[_,hT2,rfl,_,rfl]]
  refine#[.ref s⁻¹,_,I2,rfl,#[s⁻¹,l[i],y,hp,by simp [hi],λzs hz'=>by rw[I.tuple_inj hz' hqy];exact hy,rfl,rfl],#[hz2,(sb.2 _ D.TIz).trans (hk _ _ D.TIz D.TITO D.TIi1 D.TIi2 hTI),#[_,_,(sb.2 _ D.TOz).trans a2],wZ a3 λo e=>(sb.2 _ D.i1z).trans e,vU a4 λo e=>(sb.2 _ D.i2z).trans e],λb hb=>?_];rw[zo]
  ·exact (hf b hb).1
  ·erw[bC,eJ,or_false]at hb
   rcases hb with rfl | rfl | rfl | rfl | rfl <;> exact aB (by assumption)
 done:=by
  intro X hP hw hK hc i tM s σ H E I hf st hg;subst hP hw hK;have hi:i=l.length:=hg;obtain⟨hz,hTI,⟨a,b,hTO⟩,h1,h2⟩:=st;refine jy (I.ok.hd hc) D hz hTI hTO h1 ?_ λh' hk=>#[rfl,?_]
  ·show l.toArray[i]? = tJ;simp [hi]
  ·exact Inv.turns (fp:=[z,TI,TO,i1,i2]) (t':=s.toks) I (λb o hb q=>by
    have hb':b≠z/\b≠TI/\b≠TO/\b≠i1/\b≠i2:=by simpa using hb
    exact hk b o hb'.1 hb'.2.2.1 hb'.2.2.2.1 hb'.2.2.2.2 q) hf
 self:=λA i s Q E st h=>sZ st.1 h
section
variable{X:Cx}
def iZs(K:pD)(ta:TA):TI:=λσ H R=>ta σ H λvs H1=>∃l b,vs=[.str (tx l),.ref b]/\(∃ys,SqT K H1 b ys)/\R (Izs K l b) H1
theorem zbs{a b:pO}{ta:TA}{p pos tpos:rB}{elts:List pO}{x1:Nat}(hg:Gl X "zip")(hm:X.mg "zip" = tJ)(ha:PA X [a,b] ta)(hs:pB [a,b] X.env=(tL,eval a X.env)::pB [b] X.env:=by rfl)
  (hpl:(pV pos (pB [b] X.env)).any (·.1)=tL:=by rfl):PI X (.Tuple elts x1 tpos) (.Call (.Name "zip" p) [a,b] [] pos) (iZs X.K ta):=by
 intro tM s σ H R I h;refine tH (wB I hg hm PyProof.Rows.boot_zip (bA (thn (ha pos tM s σ H _ I h) λus s1 ⟨vs,H1,I1,r1,q1⟩=>?_) hs hpl));obtain⟨l,l2,e,⟨ys,hqy⟩,q⟩:=q1;subst e;obtain⟨u1,u2,rfl,ru1,ru2⟩:=Qj r1;obtain⟨t,rfl⟩:=ru1;cases ru2;obtain⟨its2,rv2,p2,_⟩:=I1.tuple hqy;have hl2:s1.heap.IsTuple l2 its2.toArray:=p2;have l2lt:l2<s1⁻¹:=by obtain⟨o,e,_⟩:=hl2;exact aq e
 have ne:∀a b:Nat,a≠b->s1⁻¹+a≠s1⁻¹+b:=λa b h e=>h (Nat.add_left_cancel e);have nl:∀a:Nat,l2≠s1⁻¹+a:=λa=>aB (aw l2lt (cu _ _));refine QC hl2 λh' hz hTI hTO h1 h2 hsz kk=>?_;have I2:Inv X tM σ H1 { s1 with heap:=h' }:=I1.kept (t':=s1.toks) kk;refine sZ (s:={ s1 with heap:=h' }) hz ?_;refine#[s1⁻¹+4,[s1⁻¹+4,s1⁻¹+2,s1⁻¹+3,s1⁻¹,s1⁻¹+1],_,_,H1,rfl,I2,Q9 (s1⁻¹+4) (s1⁻¹+2) (s1⁻¹+3) s1⁻¹ (s1⁻¹+1) l2 l t #[#[ne 2 4 ∅,ne 3 4 ∅,ne 0 4 ∅,ne 1 4 ∅,ne 2 3 ∅,ne 2 0 ∅,ne 2 1 ∅,ne 3 0 ∅,ne 3 1 ∅,ne 0 1 ∅],nl 4,nl 3,nl 0,nl 1],#[hz,hTI,#[_,_,hTO],h1,h2],λb hb=>?_,q]
 have hb':s1⁻¹<=b:=by
  erw[bC,eJ,or_false]at hb
  rcases hb with e | e | e | e | e
  ·rw[e];exact cu _ _
  ·rw[e];exact cu _ _
  ·rw[e];exact cu _ _
  ·rw[e];exact ak _
  ·rw[e];exact cu _ _
 exact I1.fpOk hb' (I1.hok.fresh hb')
end
def CompZ(K:pD)(l:())(b:pE)(g:TG)(tt:TT)(te:TE)(own:Nat)(ix:())(σ:L2.St)(H1:Hp)(Q:VK)(D:pE):Prop:=Ys (Izs K l b) g tt te own ix σ H1 Q D
theorem zH{K:pD}{ta:TA}{g:TG}{tt:TT}{te:TE}{own:Nat}{ix:()}{σ:L2.St}{H:Hp}{Q:VK}:jw (iZs K ta) g tt te own ix σ H Q=ta σ H λvs H1=>∃l b,vs=[.str (tx l),.ref b]/\(∃ys,SqT K H1 b ys)/\∀D,H1 D=tJ->CompZ K l b g tt te own ix σ H1 Q D:=rfl
section
variable{g:TG}{tt:TT}{te:TE}{own:Nat}{ix:()}{σ:L2.St}{H1:Hp}{Q:VK}{D:pE}
theorem CompZ.by{K:pD}{l:()}{b:pE}{ys:List V}(Pv:Nat->List V->Hp->Prop)(hlen:l.length=ys.length)(h0:Pv 0 [] (upd H1 D (.lst [])))(hl:∀i tO H',i<=l.length->Pv i tO H'->SqT K H' b ys)
  (hs:∀i c y tO H' p,l[i]? = tI c->ys[i]? = tI y->Pv i tO H'->H' p=tJ->g (.ref p) (vn σ own ix) (upd H' p (.tup [.str (tx [c]),y])) λσ3 H3=>yU (vn σ own ix) σ3/\tt σ3 H3 λb H4=>if b=tK then
   te σ3 H4 λv H5=>H5 D=tI (.lst tO)/\tO.length<pC/\CNx l.length i Pv (tO ++ [v]) (upd H5 D (.lst (tO ++ [v])))else CNx l.length i Pv tO H4)
  (hd:∀tO H',Pv l.length tO H'->Q (.ref D) H'):CompZ K l b g tt te own ix σ H1 Q D:=by
 refine#[λi m tO H=>m=l.length - i/\i<=l.length/\Pv i tO H,#[l.length,by simp,aE _,h0],?_];rintro i m tO H' ⟨rfl,hi,p⟩;have q:=hl i tO H' hi p;by_cases hlt:i<l.length
 ·refine .inr #[#[ys,ys[i],q,hlt,by simp [<- hlen,hlt]],λx H2 y=>?_];obtain⟨p',c,y,hp,hc,hy,ev,eH⟩:=y;subst ev eH;exact hs i c y tO H' p' hc (hy ys q) p hp
 ·have e:i=l.length:=⋯;subst e;exact .inl #[rfl,hd tO H' p]
end
section
variable{X:Cx}{k1 k2 k3 j:Nat}{C1 C2 C3:pE}{m:pL}{ps:List pL}{s1 s2 s3:Sp}{o e:pO}{es:List pO}{ta:TE}{t:TA}{apos pos p:rB}{E:XK}
def yk(t1 t2:TE):TE:=λσ H Q=>t1 σ H Q\/t2 σ H Q
theorem Kf{t1 t2:TE}(h1:PE X e t1)(h2:PE X e t2):PE X e (yk t1 t2):=by
 intro tM s σ H Q I h;rcases h with h | h
 ·exact h1 tM s σ H Q I h
 ·exact h2 tM s σ H Q I h
theorem zbE(D1:DM X.prog X.w X.K X.mg X.base CX0 k1 C1 m ps s1)(D2:DM X.prog X.w X.K X.mg X.base CX0 k2 C2 m ps s2)(D3:DM X.prog X.w X.K X.mg X.base CX0 k3 C3 m ps s3)(c1:Cls X.K C1)(c2:Cls X.K C2)(c3:Cls X.K C3)(hr:Room j X.A)(he:PE X o ta)(ha:PA X (e::es) t){pl:tw Bool}
    (hst:pB (e::es) X.env=(tL,eval e X.env)::pB es X.env:=by rfl) (hpl:(pV pos (pB es X.env)).any (·.1)=tL:=by rfl)
    (ht:eval (.Call (.Attribute o m apos) (e::es) [] pos) X.env=(do
      let ov <- eval o X.env
      standAt apos.atName
      let (f,first) <- holding [ov] (getMethod ov m pl)
      callWith pos f first (pV pos (pB (e::es) X.env)) (rg pos (pT [] X.env))):=by rfl) (h1:k1<=j:=by decide) (h2:k2<=j:=by decide) (h3:k3<=j:=by decide) :
    PE X (.Call (.Attribute o m apos) (e::es) [] pos) (yk (kX C1 m s1 [] E0 ta t) (yk (kX C2 m s2 [] E0 ta t) (kX C3 m s3 [] E0 ta t))) :=
  Kf (me1 (pl:=pl) D1 c1 hr he ha hst hpl ht h1) (Kf (me1 (pl:=pl) D2 c2 hr he ha hst hpl ht h2) (me1 (pl:=pl) D3 c3 hr he ha hst hpl ht h3))
end
section
variable{X:Cx}
end
open PySem PySem.Spec PyProof.Rows L2 PySem.W PySem.Calls
def jm(n:Int):Prop:=Builtin.Int.intBits n<=1048576
theorem JT:∀(ns:List Int),WData.weightAll (ns.map WData.int)<=1048576->∀n ∈ ns,jm n
 | [],_,n,h=>nomatch h
 | m::ns,hw,n,h=>by
  rw[ar,WData.weightAll]at hw;rcases tR.mp h with rfl | h
  ·have e:WData.weight (.int n)=Builtin.Int.intBits n:=by
    rw[WData.weight];rfl
   unfold jm;lia
  ·exact JT ns ⋯ n h
section
variable{X:Cx}
theorem QD{i j:Int}(hi:jm i)(hj:jm j):IntMulOk i j:=by
 unfold IntMulOk Builtin.Int.intTooBig;unfold jm at hi hj;have:(bitsLine:Nat)=134217728:=rfl;simp;intro _ _;lia
theorem Jl:OpR X (binaryOp .Mult) (rI (λi j=>jm i/\jm j) λi j=>.int (i * j)):=opI λ_ _ _ _ _ _ _ hc q=>mul_int q (QD hc.1 hc.2)
end
theorem Ya{l:OpenLaw}{n:Nat}{q:pK}{loose:List pL}{XP:(pL->Option pF)->pP->Prop}{YP:pM->pP->Prop}{d:DefRec}
  (hn:l.most=tI n) (hdf:d.params.defaults=[])
  (call:∀(w:pM) (s₀ s₁:pG) (mg mb:pL->Option pF) (fa:pE) (o:rb) (pm cd doc:pF) (a:pE) (vs:List pF) (ns:List Int),
   Ground q loose [] XP w s₀ mg mb s₁.heap->YP w s₁.heap ->
   s₁.heap.get? fa=tI o->o.data=.func (docDef d.name d.params d.body d.scope pm cd doc)->s₁.heap.CodeRec cd d.name->mg d.name=tI (.ref fa) ->
   s₁.heap.get? a=tI { cls:=.type "list",data:=.seq vs.toArray }->sX vs ns->ns.length<=n->(∀z ∈ ns,jm z)->s₁.gens=#[] ->
   rK (model l.prog w) callerA (.call (.ref fa) #[[.ref a],[]]) (λr s'=>r=.ok (.ret (.bool tK))/\OldK s₁.heap s'.heap/\s'.os=s₁.os/\rY s'.gens) s₁) :
  WalkO q loose XP YP l.row.toRowW d [] (λf vs=>gc f vs):=by
 intro w s₀ s₁ mg mb G Y fa o pm cd doc dV kV ho hd hcd hD hmg hg args vals as hpre hlay hrd hwl hlo;obtain rfl:dV=.none:=Dflts.none hD hdf;obtain rfl:kV=.none:=Dflts.noKw hD;obtain⟨a,vs,ns,rfl,rfl,hobj,hints,hlen⟩:=Att.script_of hn hpre hwl
 have hb:∀z ∈ ns,jm z:=by
  refine JT ns ?_
  have h1:WData.layable (WData.list (ns.map WData.int))=tK:=by
   have:=hlay;unfold WData.layableAll at this;simpa using this
  unfold WData.layable at h1
  erw[cG,decide_eq_true_eq]at h1
  have h2:=h1.2;rw[WData.weight]at h2;exact h2
 refine enter_call (rJ (call w s₀ s₁ mg mb fa o pm cd doc a vs ns G Y ho (fd_plain hd) hcd hmg hobj hints hlen hb hg) λr s' hq=>?_);obtain⟨rfl,h2,h3,h4⟩:=hq;exact#[.inl #[.bool tK,.bool tK,[],rfl,λ_=>rfl,.bool tK,Att.post_true l _,λ_=>#[List.Pairwise.nil,λ_ hm=>(nomatch hm)]],h2,h3,h4]
section
variable{X:Cx}{k j:Nat}{C:pE}{x f':pL}{ps:List pL}{sp:Sp}{e:pO}{es:List pO}{t:TA}{te:TX}{pos p:rB}
end
section
variable{X:Cx}{k j:Nat}{C:pE}{m x:pL}{ps:List pL}{sp:Sp}{e:pO}{es:List pO}{t:TA}{apos pos p:rB}{E:XK}
end
section
variable{prog:pK}{w:pM}{A:pN}{E:pF->pG->Prop}{s:pG}{env:sy}
end
theorem XEg.xe{X:Cx}{E:XK}(h:XEg X E):XE X E:=λe s ⟨tM,σ,H,x,C,t,dx,tb,q⟩=>h e s #[.none,tL,tM,σ,H,x,C,t,dx,tb,q]
section
variable{X:Cx}{k:Nat}{ps:List pL}{sp:Sp}{ds:List pF}{dvs:List V}{E:XK}{x:pL}{p pos:rB}{e:pO}{es:List pO}{t:TA}
end
section
variable{X:Cx}{o e:pO}{to:TE}{te:TX}{name:pL}{apos cpos:rB}{T id:String}{r:V->List V->Hp->VK->Prop}
end
section
variable{X:Cx}
end
section
variable{X:Cx}{k j:Nat}{C:pE}{ps:List pL}{sp:Sp}{e:pO}{es:List pO}{t:TA}{pos p:rB}{x:pL}
end
theorem YO(x y:pL)(i j:Int)(t u v v':rZ):Gives (Builtin.«str.find» #[[.str x t,.str y u,.int i v,.int j v'],[]]) (.int (match Builtin.Str.occurrences x y (fromIndex x.length i) (min (fromIndex x.length j) x.length) 1 with | k::_=>(k:Int) | []=>-1)):=by
 show Gives (match Builtin.Str.occurrences x y (fromIndex x.length i) (min (fromIndex x.length j) x.length) 1 with | k::_=>retInt k | []=>(do rule "str.find.not-found";retInt (-1))) _
 cases Builtin.Str.occurrences x y (fromIndex x.length i) (min (fromIndex x.length j) x.length) 1 with
 | nil=>exact .rule (.of_eq rfl)
 | cons k _=>exact .of_eq rfl
theorem Y0(x y:pL)(lo hi:Nat) :
  (Builtin.Str.occurrences x y lo hi 1=[]/\∀i,lo<=i->¬ StrLaws.At x y hi i) \/
  ∃i r,Builtin.Str.occurrences x y lo hi 1=i::r/\lo<=i/\StrLaws.At x y hi i/\∀k,lo<=k->k<i->¬ StrLaws.At x y hi k:=by
 rw[StrLaws.occ_eq];rcases StrLaws.occ_first x y hi 1 (ak 1) (List.range' lo (hi+1 - lo)) lo (λi hm=>(List.mem_range'_1.mp hm).1)with ⟨e,no⟩ | ⟨pre,a,post,e,e0,at_a,no⟩
 ·exact .inl #[by rw[e],λi h1 h2=>no i (by have:=h2.1;rw[List.mem_range'_1];lia) h2]
 ·have sp:=StrLaws.range'_split_from e;generalize (forIn (List.range' lo (hi+1 - lo)) ((#[]:Array Nat),lo) (StrLaws.occBody x y hi 1)).run.fst=z at e0 ⊢;obtain⟨zs⟩:=z
  cases zs with
  | nil=>simp at e0
  | cons b r =>
   have:b=a:=by simpa using e0
   subst this;exact .inr #[b,r,rfl,sp.1,at_a,λk h1 h2=>no k (sp.2 k h1 h2)]
theorem zdw(l p:())(hi i:Nat):StrLaws.At (tx l) (tx p) hi i ↔ i+p.length<=hi/\(l.drop i).take p.length=p:=by
 unfold StrLaws.At Builtin.Str.subAt;rw[zS,beq_iff_eq]
 have e1:((tx l).cps.extract i (i+p.length)).toList=(l.drop i).take p.length:=by
  show (l.toArray.extract i (i+p.length)).toList=_;simp [eC]
 have e2:((tx l).cps.extract i (i+p.length)=(tx p).cps) ↔ (l.drop i).take p.length=p:=by
  constructor
  ·intro h;rw[<- e1,h]
  ·intro h;apply Array.toList_inj.mp;rw[e1,h]
 rw[e2]
def Ks:V->List V->Hp->VK->Prop:=λx xs H Q=>∃(l p:()) (lo hi:Int),x=.str (tx l)/\xs=[.str (tx p),.int lo,.int hi]/\0<=lo/\0<=hi/\∀r:Int,((r=-1/\∀q:Nat,lo<=q->(q:Int)+p.length<=hi->q+p.length<=l.length->(l.drop q).take p.length≠p)\/∃k:Nat,r=k/\lo<=k/\(k:Int)+p.length<=hi/\k+p.length<=l.length/\(l.drop k).take p.length=p/\∀q:Nat,lo<=q->q<k->(l.drop q).take p.length≠p)->Q (.int r) H
theorem zbi{X:Cx}:MtR X "str.find" Ks:=by
 intro tM s σ H x xs v us Q I rx rv h;obtain⟨l,p,lo,hi,rfl,rfl,h0,h1,q⟩:=h;obtain⟨t,rfl⟩:=rx
 cases rv with
 | cons r1 r2 =>
  cases r2 with
  | cons r2 r3 =>
   obtain⟨w3,rfl,t3,rfl⟩:=wm r3;obtain⟨t1,rfl⟩:=r1;obtain⟨t2,rfl⟩:=r2;have f0:fromIndex (tx l).length lo=lo.toNat:=by unfold fromIndex;rw[if_neg ⋯];lia
   have f1:fromIndex (tx l).length hi=hi.toNat:=by unfold fromIndex;rw[if_neg ⋯];lia
   refine call_gives F.slot_str_find (typeIs_str _ _ _) F.entry_str_find (F.args_str_find_4 _ _ _ _) (YO _ _ lo hi t t1 t2 t3) ?_;refine#[.int _,H,I.tok _,#[_,rfl],q _ ?_];rw[f0,f1];have hm:∀k:Nat,k+p.length<=min hi.toNat (tx l).length ↔ (k:Int)+p.length<=hi/\k+p.length<=l.length:=λk=>by rw[zS];lia
   rcases Y0 (tx l) (tx p) lo.toNat (min hi.toNat (tx l).length)with ⟨e,no⟩ | ⟨i,r,e,hl,ha,no⟩
   ·rw[e];exact .inl #[rfl,λk k1 k2 k3 k4=>no k ⋯ ((zdw l p _ k).mpr #[(hm k).mpr #[k2,k3],k4])]
   ·rw[e];obtain⟨a1,a2⟩:=(zdw l p _ i).mp ha;obtain⟨b1,b2⟩:=(hm i).mp a1;exact .inr #[i,rfl,⋯,b1,b2,a2,λk k1 k2 k4=>no k ⋯ k2 ((zdw l p _ k).mpr #[(hm k).mpr #[⋯,⋯],k4])]
end L3
set_option linter.unusedVariables false
namespace L3
section
variable{X:Cx}
end
section
variable{prog:pK}{w:pM}{A:pN}{R:sH->pG->Prop}{I l S:pE}
theorem VA(hh:A.handled=tJ)(hlI:l≠I)(hSI:S≠I)(hSl:S≠l)(xs:Array pF)(val:Nat->Int)(hv:∀i v,xs[i]? = tI v->∃t,v=Value.int (val i) t)(d:pF) :
  ∀(k j:Nat) (z:Int) (t:rZ) (s:pG) (c:Nat),xs.size - j=k->j<=xs.size->(∀i,i<j->val i<=z)->s.heap.IsListIter I l j->s.heap.IsList l xs->s.heap.get? S=tI (pX "list" (List.toArray [.int z t,.int z t]) c) ->
   (∀z' t' h' tk,(∀i,i<xs.size->val i<=z')->(∀b o,b≠I->b≠S->s.heap.get? b=tI o->h'.get? b=tI o)->R (.ok (.ret (.int z' t'))) { s with heap:=h',toks:=tk }) ->
   rK (model prog w) A (.builtin "max.loop" #[[.ref I,.none,.ref S],[(bH "default",d)]]) R s:=by
 have nm:(toString "max" ++ toString ".loop" : String)="max.loop":=∅;have W:=Walks.list (prog:=prog) (w:=w) (A:=A.in1) hh I l hlI xs;intro k
 induction k with
 | zero =>
  intro j z t s c hk hj hz hit hl hS hR;have e:j=xs.size:=⋯;refine rM (b:=Builtin.«max.loop») dB ?_;rw[Around.under_plainId (id:="max.loop") bI _];show pJ _ A.in1 (seqItems? (Value.ref S) >>= _) _ _ s;refine pq (rh (items:=(List.toArray [.int z t,.int z t])) hS rfl ?_);show pJ _ A.in1 (tryCatch (pyNext (Value.ref I)) _ >>= _) _ _ s;refine pq (rP (W.done s _ _ #[e ▸ hit,hl] λh' tk kp=>?_));have hS':=kp S _ (by simpa using hSI) hS;show pJ _ A.in1 (updateSeq S (λ_=>(#[]:Array pF)) >>= _) _ _ _;refine pq (sx hS' rfl (pq (rN (pz ?_))));exact hR z t _ tk (λi hi=>hz i ⋯) λb o hb hb' q=>(aH _ _ (Ne.symm hb')).trans (kp b o (by simpa using hb) q)
 | succ k ih =>
  intro j z t s c hk hj hz hit hl hS hR;refine rM (b:=Builtin.«max.loop») dB ?_;rw[Around.under_plainId (id:="max.loop") bI _];show pJ _ A.in1 (seqItems? (Value.ref S) >>= _) _ _ s;refine pq (rh (items:=(List.toArray [.int z t,.int z t])) hS rfl ?_);show pJ _ A.in1 (tryCatch (pyNext (Value.ref I)) _ >>= _) _ _ s;refine pq (rP (W.item j s _ _ ⋯ #[hit,hl] λv h' tk hP st kp=>?_));obtain⟨t2,rfl⟩:=hv j v hP;have hS':=kp S _ (by simpa using hSI) hS;show pJ _ A.in1 (tryCatch (holding [Value.int (val j) t2,Value.int (val j) t2] (richCompare .Gt (.int (val j) t2) (.int z t) >>= _)) _ >>= _) _ _ _;refine pq (rP (re (pq (CmpOf.ints_gt (prog:=prog) (w:=w) (A:=A.in1) (P:=λi v=>∃t,v=Value.int (if i=0 then val j else z) t) (λi=>if i=0 then val j else z) (λi v h=>h) 0 1 _ _ _ _ _ #[t2,rfl] #[t,rfl] ?_))));refine pq (re (ra (pq (rN (pz ?_)))));by_cases g:val j > z
  ·erw[if_true,Nat.one_ne_zero,if_false,g,decide_true]
   refine pq (sx hS' rfl (pq (rN ?_)));rw[nm];refine pz #[plainId_quiet bI _,ih (j+1) (val j) t2 _ _ ⋯ ⋯ (λi hi=>?_) (W.frame _ _ _ st λb hb o q=>?_).1 (W.frame _ _ _ st λb hb o q=>?_).2 (get?_update_seq hS' _) λz' t' h'' tk'' a1 a2=>hR z' t' h'' tk'' a1 λb o hb hb' q=>a2 b o hb hb' ((aH _ _ (Ne.symm hb')).trans (kp b o (by simpa using hb) q))]
   ·by_cases e:i=j
    ·rw[e];exact Int.le_refl _
    ·have:=hz i ⋯;lia
   all_goals
    refine (aH _ _ (λe:S=b=>?_)).trans q;subst e;rcases tR.mp hb with e | e
    ·exact hSI e
    ·exact hSl (tT.mp e)
  ·erw[if_true,Nat.one_ne_zero,if_false,g,decide_false,bB]
   refine pq (rN ?_);rw[nm];refine pz #[plainId_quiet bI _,ih (j+1) z t _ _ ⋯ ⋯ (λi hi=>?_) st.1 st.2 hS' λz' t' h'' tk'' a1 a2=>hR z' t' h'' tk'' a1 λb o hb hb' q=>a2 b o hb hb' (kp b o (by simpa using hb) q)];by_cases e:i=j
   ·rw[e];lia
   ·exact hz i ⋯
theorem W8(a v:pF):argsOk "max" #[[a],[(bH "default",v)]]:=by unfold argsOk;kernel_rfl
theorem Vg{E:pF->pG->Prop}{s:pG}{Q:pF->pG->Prop}(hh:A.handled=tJ)(xs:Array pF)(val:Nat->Int)(hv:∀i v,xs[i]? = tI v->∃t,v=Value.int (val i) t)(hl:s.heap.IsList l xs)(d:pF)
  (h:∀v h' tk,(xs.size=0->v=d)->(0<xs.size->∃z t,v=Value.int z t/\∀i,i<xs.size->val i<=z)->(∀b o,s.heap.get? b=tI o->h'.get? b=tI o)->Q v { s with heap:=h',toks:=tk }) :
  pJ (model prog w) A (call (.builtin "max") [.ref l] [(bH "default",d)]) Q E s:=by
 have nm:(toString "max" ++ toString ".loop" : String)="max.loop":=∅;have hlt:l<s⁻¹:=by obtain⟨_,e,_⟩:=hl;exact aq e
 refine kmb_tree PySem.F.kind_max PySem.F.plain_max PySem.F.entry_max (W8 _ _) ?_;show pJ _ A.in1 (Builtin.Builtins.bindParams "max" ["key","default"] 0 #[[],[(bH "default",d)]] >>= _) _ _ s;refine pq (wpAny_of_eq (show Builtin.Builtins.bindParams "max" ["key","default"] 0 #[[],[(bH "default",d)]]=pure [tJ,tI d]from rfl) (pq (pz ?_)));refine pq (sj hl (pq (sK ?_ (aE _))));rw[nm];refine pz #[plainId_quiet bI _,?_];have gI:(s.heap.push { cls:=.type "list_iterator",data:=.fields (List.toArray [.ref l,.int 0 0]) }).IsListIter s⁻¹ l 0:=#[_,aD _ rfl,rfl,rfl];have gl:=hl.push { cls:=.type "list_iterator",data:=.fields (List.toArray [.ref l,.int 0 0]) };have kp0:∀b o,s.heap.get? b=tI o->(s.heap.push { cls:=.type "list_iterator",data:=.fields (List.toArray [.ref l,.int 0 0]) }).get? b=tI o:=λb o q=>aa _ q;have hsz:(s.heap.push { cls:=.type "list_iterator",data:=.fields (List.toArray [.ref l,.int 0 0]) }).objs.size=s⁻¹+1:=bT _ _;have hold:∀b o,s.heap.get? b=tI o->b<s⁻¹:=λb o q=>aq q;have hlI:l≠s⁻¹:=aB hlt;generalize s.heap.push { cls:=.type "list_iterator",data:=.fields (List.toArray [.ref l,.int 0 0]) }=h1 at *;generalize hIe:s⁻¹=I at *;have W:=Walks.list (prog:=prog) (w:=w) (A:=A.in1) hh I l hlI xs;have gS:(h1.push { cls:=.type "list",data:=.seq ([]:List pF).toArray }).get? h1.objs.size=tI (pX "list" #[] 0):=aD _ rfl;have st0:=W.frame 0 _ (h1.push { cls:=.type "list",data:=.seq ([]:List pF).toArray }) #[gI,gl] λb _ o q=>aa _ q;have kp1:∀b o,s.heap.get? b=tI o->(h1.push { cls:=.type "list",data:=.seq ([]:List pF).toArray }).get? b=tI o:=λb o q=>aa _ (kp0 b o q);have hSI:h1.objs.size≠I:=by rw[hsz];exact eG I
 have hSl:h1.objs.size≠l:=by rw[hsz];exact bW (cT hlt)
 have hSb:∀b o,s.heap.get? b=tI o->b≠I/\b≠h1.objs.size:=λb o q=>#[aB (hold b o q),by rw[hsz];exact aB (cT (hold b o q))];generalize h1.push { cls:=.type "list",data:=.seq ([]:List pF).toArray }=h2 at *;generalize h1.objs.size=S at *;refine rM (b:=Builtin.«max.loop») dB ?_;rw[Around.under_plainId (id:="max.loop") bI _];show pJ _ A.in1 (seqItems? (Value.ref S) >>= _) _ _ _;refine pq (rh (items:=#[]) gS rfl ?_);show pJ _ A.in1 (tryCatch (pyNext (Value.ref I)) _ >>= _) _ _ _;by_cases hz:xs.size=0
 ·refine pq (rP (W.done _ _ _ (by rw[hz];exact st0) λh' tk kp=>?_));show pJ _ A.in1 (rule _ >>= λ_=>_) _ _ _;refine pq (su (pz ?_));exact h d h' tk (λ_=>rfl) (λq=>absurd q ⋯) λb o q=>kp b o (by simpa using (hSb b o q).1) (kp1 b o q)
 ·refine pq (rP (W.item 0 _ _ _ ⋯ st0 λv h' tk hP st kp=>?_));obtain⟨t,rfl⟩:=hv 0 v hP;have hS':=kp S _ (by simpa using hSI) gS;show pJ _ A.in1 (updateSeq S (λ_=>(List.toArray [Value.int (val 0) t,Value.int (val 0) t])) >>= _) _ _ _;refine pq (sx hS' rfl ?_);rw[nm]
  have st':=W.frame _ _ (h'.update S (Obj.mapSeq λ_=>(List.toArray [Value.int (val 0) t,Value.int (val 0) t]))) st λb hb o q=>by
   refine (aH _ _ (λe:S=b=>?_)).trans q;subst e;rcases tR.mp hb with e | e
   ·exact hSI e
   ·exact hSl (tT.mp e)
  refine pz #[plainId_quiet bI _,VA hh hlI hSI hSl xs val hv d _ 1 (val 0) t _ _ rfl ⋯ (λi hi=>?_) st'.1 st'.2 (get?_update_seq hS' _) λz' t' h'' tk'' a1 a2=>?_]
  ·have:i=0:=⋯;rw[this];exact Int.le_refl _
  ·exact h _ h'' tk'' (λq=>absurd q hz) (λ_=>#[z',t',rfl,a1]) λb o q=>a2 b o (hSb b o q).1 (hSb b o q).2 ((aH _ _ (Ne.symm (hSb b o q).2)).trans (kp b o (by simpa using (hSb b o q).1) (kp1 b o q)))
end
section
variable{X:Cx}{id:String}{x:pL}{e:pO}{es:List pO}{kws:List tz}{ks:List pL}{p pos:rB}{t tk:TA}
def Ku(X:Cx)(id:String)(ks:List pL)(r:List V->List V->Hp->VK->Prop):Prop :=
 ∀(tM:List (pE × rb)) (s:pG) (σ:L2.St) (H:Hp) (vs zs:List V) (us ws:List pF) (Q:VK),Inv X tM σ H s->Vals vs us->Vals zs ws->r vs zs H Q->pJ (model X.prog X.w) X.A (call (.builtin id) us (ks.zip ws)) (EP X tM σ Q) X.xe s
def zes(r:List V->List V->Hp->VK->Prop)(t tk:TA):TE:=λσ H Q=>t σ H λvs H1=>tk σ H1 λzs H2=>r vs zs H2 Q
theorem VO{r:List V->List V->Hp->VK->Prop}(hc:Ku X id ks r)(hg:Gl X x)(hm:X.mg x=tJ)(hv:rf x=tI (.builtin id))(ha:PA X (e::es) t)(hk:PK X kws tk)(hks:(rg pos (pT kws X.env)).filterMap (·.1)=ks:=by rfl)(hn:x≠"__name__":=by decide)(hdb:(x ==("__debug__" : pL))=tL:=by decide)
  (he:pV pos (pB (e::es) X.env)=(tL,eval e X.env)::pV pos (pB es X.env):=by rfl) (hpl:(pV pos (pB (e::es) X.env)).any (·.1)=tL:=by rfl)
  (hall:(rg pos (pT kws X.env)).all (·.1.isSome)=tK:=by rfl) (hkw:(rg pos (pT kws X.env)).any (·.1.isNone)=tL:=by rfl):PE X (.Call (.Name x p) (e::es) kws pos) (zes r t tk):=by
 intro tM s σ H Q I h;refine pY (wB I hg hm hv ?_ hn hdb);refine callWith_kw (thn (ha pos tM s σ H _ I h) λus s1 ⟨vs,H1,I1,r1,q1⟩=>thn (hk pos tM s1 σ H1 _ I1 q1) λws s2 ⟨zs,H2,I2,r2,q2⟩=>?_) he hpl hall hkw;rw[hks];exact hc tM s2 σ H2 vs zs us ws Q I2 r1 r2 q2
def zdx(K:pD):List V->List V->Hp->VK->Prop:=λvs zs H Q=>∃(a:pE) (ns:List Int) (d:Int),vs=[.ref a]/\zs=[.int d]/\SqL K H a (ns.map V.int)/\∀z:Int,(ns=[]->z=d)->(∀n ∈ ns,n<=z)->Q (.int z) H
theorem zcf(hc:X.calm=tK):Ku X "max" [bH "default"] (zdx X.K):=by
 intro tM s σ H vs zs us ws Q I r1 r2 h;obtain⟨a,ns,d,rfl,rfl,hS,q⟩:=h;obtain⟨u,rfl,ru⟩:=wm r1;cases ru;obtain⟨w',rfl,td,rfl⟩:=wm r2;obtain⟨its,rv,pl,hz⟩:=I.list hS;have hlen:=rv.length;rw[af]at hlen
 have hat:∀(i:Nat) (v:pF),its.toArray[i]? = tI v->∃t,v=Value.int (ns.getD i 0) t:=λi v hi=>by
  have hi':its[i]? = tI v:=by simpa using hi
  have hil:=(tP.mp hi').1;obtain⟨u,hu,t,rfl⟩:=xH rv (j:=i) (x:=.int (ns.getD i 0)) (by rw[aA,ac,aj ⋯];rfl);rw[hi']at hu;cases hu;exact#[t,rfl]
 refine Vg (I.ok.hd hc) its.toArray (λi=>ns.getD i 0) hat pl.isList (.int d td) λv h' tk h0 h1 kp=>?_;by_cases hn:ns=[]
 ·have:=h0 (by rw[am,<- hlen,hn];rfl);subst this;exact#[.int d,H,I.kept kp,#[_,rfl],q d (λ_=>rfl) (λn hm=>by rw[hn]at hm;cases hm)]
 ·obtain⟨z,t,rfl,hzz⟩:=h1 (by rw[am,<- hlen];exact Ae.mpr hn);refine#[.int z,H,I.kept kp,#[_,rfl],q z (λe=>absurd e hn) λn hm=>?_];obtain⟨i,hi,rfl⟩:=List.getElem_of_mem hm;have:=hzz i (by rw[am,<- hlen];exact hi);rw[ac,aj hi]at this;exact this
end
section
variable{prog:pK}{w:pM}{A:pN}{R:sH->pG->Prop}{I l S:pE}
end
section
variable{X:Cx}
end
section
variable{prog:pK}{w:pM}{A:pN}{R:sH->pG->Prop}{I S:pE}{fp wr:List pE}{P:Nat->pF->Prop}{St:Nat->pP->Prop}
end
section
variable{X:Cx}
end
section
variable{X:Cx}{k j:Nat}{C:pE}{m:pL}{ps:List pL}{sp:Sp}{o e:pO}{es:List pO}{ta:TE}{t:TA}{apos pos p:rB}{x:pL}{E:XK}
end
def zdB(y l:())(e:Nat):Prop:=e+y.length<=l.length/\(l.drop e).take y.length=y
noncomputable instance (y l:()) (e:Nat):Decidable (zdB y l e):=by unfold zdB;infer_instance
noncomputable def zeQ(y l:()):Option (() × ()):=((aV (l.length+1)).find? λe=>decide (zdB y l e)).map λe=>(l.take e,l.drop (e+y.length))
section
variable{X:Cx}
theorem jD{cn:pL}{np hpos:rB}{b0:pQ}{suite:List pQ}{hs:List sM}{D:pE}{th:TS}(hg:Gl X cn)(hm:X.mg cn=tI (.ref D))(hdb:(cn ==("__debug__" : pL))=tL)(xc:Zx X.K D=tK)(hsu:∀e,PSs (Cx.suite X e) (b0::suite) th)
  {tM:List (pE × rb)} {s:pG} {σ:St} {H:Hp} {Dd:vd} {x C T:pE} {dx:Option pE} (I:Inv X tM σ H s) (hob:∃t cx kx,s.heap.get? x=tI (xog C dx t (.ref T) cx kx)) (hoT:∃oT ts,s.heap.get? T=tI oT/\oT.data=.fields ts/\3<ts.size) (fT:wa X tM H T)
  (hb:cZ X.K (.ref C) (.ref D)=tI tK) (q:th Dd σ H):pJ (model X.prog X.w) X.A (handleBy (.ref x) X.env (.ExceptHandler (tI (.Name cn np)) tJ (b0::suite) hpos::hs)) (SP X tM Dd) X.xe s:=by
 obtain⟨t,cx,kx,ob⟩:=hob;obtain⟨oT,ts,eT,dT,zT⟩:=hoT;have I':=Inv.suite I (.ref x);refine wpAny_handleBy_cons (codeAny_handlers_test (vk (X:=Cx.suite X (.ref x)) I' hg hm (zcn I.kIn xc ob hb ?_) hdb)) (by intro q;cases q);refine codeAny_handlers_suite ?_;unfold setFlight;refine pq (pW ob rfl (x:=.ref T) rfl ?_);rw[if_pos (show (Value.ref T != Value.none)=tK from by simp)];refine rA eT dT zT ?_;obtain⟨f0,f1,f2,f3,f4,f5⟩:=fT
 have I2:Inv X tM σ H { s with heap:=s.heap.update T (Obj.mapFields (·.setIfInBounds 3 ((tJ:Option pE).elim Value.none λf=>rawInt f))) } :=
  I.turned (t':=s.toks) (λb o hb e=>(aH _ _ (Ne.symm hb)).trans e) f0 f1 f3 f4 f5
 refine rz (thn (hsu _ tM _ σ H _ (Inv.suite I2 (.ref x)) q) λfl s4 q4=>?_)
 cases fl with
 | next =>
  obtain⟨σ4,H4,I4,n4⟩:=q4;exact#[_,_,Inv.unsuite I I4,n4]
 | brk =>
  obtain⟨σ4,H4,I4,n4⟩:=q4;exact#[_,_,Inv.unsuite I I4,n4]
 | cont =>
  obtain⟨σ4,H4,I4,n4⟩:=q4;exact#[_,_,Inv.unsuite I I4,n4]
 | ret v =>
  obtain⟨y,σ4,H4,I4,r4,n4⟩:=q4;exact#[y,_,_,Inv.unsuite I I4,r4,n4]
def Ka(K:pD)(i:Nat)(D:pE)(te:TX)(th:TS):TS:=λDd σ H=>te σ H (λv H1=>Dd.nx (σ.set i (tI v)) H1) λcls dx H1=>∃C,cls=.ref C/\cZ K (.ref C) (.ref D)=tI tK/\∀x,H1 x=tJ->th Dd σ (upd H1 x (XT x C dx))
theorem QP{i:Nat}{y:pL}{yp apos pos np hpos:rB}{e:pO}{te:TX}{cn:pL}{b0:pQ}{suite:List pQ}{hs:List sM}{D:pE}{th:TS}
  (hN:X.N.Nodup) (hy:X.N[i]? = tI y) (hly:Loc X.env.scope y) (hf:X.fn y=tK\/X.env.scope.names.lookup y=tI .local) (hst:X.stack=X.env::X.outer/\X.env.frame=tI X.env.locals) (he:PEX X e te) (hg:Gl X cn) (hm:X.mg cn=tI (.ref D)) (xc:Zx X.K D=tK) (hsu:∀e,PSs (Cx.suite X e) (b0::suite) th) (hdb:(cn ==("__debug__" : pL))=tL:=by decide) (hsw:swapsWith e (tI (.Name y yp)) apos.line X.env=pure tL:=by rfl) :
  PS X (.Try [.Assign [.Name y yp] e apos] (.ExceptHandler (tI (.Name cn np)) tJ (b0::suite) hpos::hs) [] [] pos) (Ka X.K i D te th):=by
 intro tM s σ H D I hq;refine tm (rH (sU (rF (he tM s σ H _ _ I hq) (λv s1 ⟨z,H1,I1,r1,q1⟩=>?_) λe s1 fl=>?_) hsw))
 ·exact j8 I1 hN hy hly r1 (λs2 I2=>rE (rE #[_,H1,I2,q1])) hf
 ·obtain⟨cx,kx,H1,x,C,t,dx,tb,rfl,I1,ob,tr,fx,fT,C',ec,hsb,q1⟩:=fl;cases ec;have fr:X.A.frames=tI (X.env::X.outer):=by rw[<- hst.1];exact I1.ok.frames
  have ff:s1.heap.FunFrames X.base (X.env::X.outer):=by rw[<- hst.1];exact I1.stack
  refine Zc fr ff hst.2 hst.2 ob tr λh' T oT ts e1 nT oldT e2 d2 z2 k1 k2=>?_
  have fT':wa X tM H1 T:=by
   rcases oldT with z | z
   ·exact fT T z
   ·exact I1.fpOk z (I1.hok.fresh z)
  have tbs:∀b,tb=.ref b->H1 b=tJ:=λb hb=>(fT b hb).1
  have nch:∀b o,s1.heap.get? b=tI o->b ∉ (x::T::tbL tb)->b≠x/\tb≠.ref b:=λb o _ hb=>by
   refine#[λz=>hb (by simp [z]),λz=>hb ?_];rw[z];simp [tbL]
  have un:Un (frs X.stack) (x::T::tbL tb) H1 H1 s1.heap h':=by
   rw[hst.1];refine#[λb o e n hb hc=>?_,λb o e n hb hc=>?_,λb o e n _=>n,λb o e hc=>?_,λb xs e=>e,λb o u e=>e,λb ps e=>#[#[],by rw[e];simp]]
   ·obtain⟨a1,a2⟩:=nch b o e hc;exact k1 b o a1 a2 hb e
   ·obtain⟨a1,a2⟩:=nch b o e hc;exact k2 b o a1 a2 e
   ·obtain⟨a1,a2⟩:=nch b o e hc;obtain⟨sl,q⟩:=k2 b o a1 a2 e;exact#[_,q]
  have hok:HOk X.prog X.w H1 h':=λb u e=>by
   refine (I1.hok b u e).stay (λc v hc q=>k1 c v ?_ ?_ ?_ q) (λ_ q=>q) λ_ _ q=>q
   ·rintro rfl;rcases hc with rfl | hc
    ·rw[fx.1]at e;cases e
    ·rw[fx.1]at hc;cases hc
   ·intro z;have:=tbs c z;rcases hc with rfl | hc
    ·rw[this]at e;cases e
    ·rw[this]at hc;cases hc
   ·intro z;rw[<- hst.1]at z;have:=I1.stkFree c z;rcases hc with rfl | hc
    ·rw[this]at e;cases e
    ·rw[this]at hc;cases hc
  have I2:Inv X tM σ H1 { s1 with heap:=h' }:=I1.call' (s':={ s1 with heap:=h' }) rfl un hok I1.bare λb hb=>by
   have fb:wa X tM H1 b:=by
    rcases tR.mp hb with z | z
    ·rw[z];exact fx
    ·rcases tR.mp z with z | z
     ·rw[z];exact fT'
     ·cases tb with
      | ref b' =>
       have:b=b':=by simpa [tbL] using z
       rw[this];exact fT b' rfl
      | _=>simp [tbL]at z
   obtain⟨_,a1,_,a3,a4,a5⟩:=fb;exact#[a3,a1,a4,a5]
  have I3:Inv X tM σ (upd H1 x (XT x C dx)) { s1 with heap:=h' }:=Inv.track I2 fx (zbD e1);exact jD hg hm hdb xc hsu I3 #[t,_,_,e1] #[oT,ts,e2,d2,z2] #[by rw[zo nT];exact fT'.1,fT'.2] hsb (q1 x fx.1)
def Vu(K:pD)(D:pE)(te:TX)(th:TS):TS:=λDd σ H=>te σ H (λz H1=>Dd.rt z H1) λcls dx H1=>∃C,cls=.ref C/\cZ K (.ref C) (.ref D)=tI tK/\∀x,H1 x=tJ->th Dd σ (upd H1 x (XT x C dx))
theorem Wp{apos pos np hpos:rB}{e:pO}{te:TX}{cn:pL}{b0:pQ}{suite:List pQ}{hs:List sM}{D:pE}{th:TS}
  (hst:X.stack=X.env::X.outer/\X.env.frame=tI X.env.locals) (he:PEX X e te) (hg:Gl X cn) (hm:X.mg cn=tI (.ref D)) (xc:Zx X.K D=tK) (hsu:∀e,PSs (Cx.suite X e) (b0::suite) th) (hdb:(cn ==("__debug__" : pL))=tL:=by decide) :
  PS X (.Try [.Return (tI e) apos] (.ExceptHandler (tI (.Name cn np)) tJ (b0::suite) hpos::hs) [] [] pos) (Vu X.K D te th):=by
 intro tM s σ H D I hq;refine tm (rH (sS (rF (he tM s σ H _ _ I hq) (λv s1 ⟨z,H1,I1,r1,q1⟩=>?_) λe s1 fl=>?_)))
 ·exact#[z,σ,H1,I1,r1,q1]
 ·obtain⟨cx,kx,H1,x,C,t,dx,tb,rfl,I1,ob,tr,fx,fT,C',ec,hsb,q1⟩:=fl;cases ec;have fr:X.A.frames=tI (X.env::X.outer):=by rw[<- hst.1];exact I1.ok.frames
  have ff:s1.heap.FunFrames X.base (X.env::X.outer):=by rw[<- hst.1];exact I1.stack
  refine Zc fr ff hst.2 hst.2 ob tr λh' T oT ts e1 nT oldT e2 d2 z2 k1 k2=>?_
  have fT':wa X tM H1 T:=by
   rcases oldT with z | z
   ·exact fT T z
   ·exact I1.fpOk z (I1.hok.fresh z)
  have tbs:∀b,tb=.ref b->H1 b=tJ:=λb hb=>(fT b hb).1
  have nch:∀b o,s1.heap.get? b=tI o->b ∉ (x::T::tbL tb)->b≠x/\tb≠.ref b:=λb o _ hb=>by
   refine#[λz=>hb (by simp [z]),λz=>hb ?_];rw[z];simp [tbL]
  have un:Un (frs X.stack) (x::T::tbL tb) H1 H1 s1.heap h':=by
   rw[hst.1];refine#[λb o e n hb hc=>?_,λb o e n hb hc=>?_,λb o e n _=>n,λb o e hc=>?_,λb xs e=>e,λb o u e=>e,λb ps e=>#[#[],by rw[e];simp]]
   ·obtain⟨a1,a2⟩:=nch b o e hc;exact k1 b o a1 a2 hb e
   ·obtain⟨a1,a2⟩:=nch b o e hc;exact k2 b o a1 a2 e
   ·obtain⟨a1,a2⟩:=nch b o e hc;obtain⟨sl,q⟩:=k2 b o a1 a2 e;exact#[_,q]
  have hok:HOk X.prog X.w H1 h':=λb u e=>by
   refine (I1.hok b u e).stay (λc v hc q=>k1 c v ?_ ?_ ?_ q) (λ_ q=>q) λ_ _ q=>q
   ·rintro rfl;rcases hc with rfl | hc
    ·rw[fx.1]at e;cases e
    ·rw[fx.1]at hc;cases hc
   ·intro z;have:=tbs c z;rcases hc with rfl | hc
    ·rw[this]at e;cases e
    ·rw[this]at hc;cases hc
   ·intro z;rw[<- hst.1]at z;have:=I1.stkFree c z;rcases hc with rfl | hc
    ·rw[this]at e;cases e
    ·rw[this]at hc;cases hc
  have I2:Inv X tM σ H1 { s1 with heap:=h' }:=I1.call' (s':={ s1 with heap:=h' }) rfl un hok I1.bare λb hb=>by
   have fb:wa X tM H1 b:=by
    rcases tR.mp hb with z | z
    ·rw[z];exact fx
    ·rcases tR.mp z with z | z
     ·rw[z];exact fT'
     ·cases tb with
      | ref b' =>
       have:b=b':=by simpa [tbL] using z
       rw[this];exact fT b' rfl
      | _=>simp [tbL]at z
   obtain⟨_,a1,_,a3,a4,a5⟩:=fb;exact#[a3,a1,a4,a5]
  have I3:Inv X tM σ (upd H1 x (XT x C dx)) { s1 with heap:=h' }:=Inv.track I2 fx (zbD e1);exact jD hg hm hdb xc hsu I3 #[t,_,_,e1] #[oT,ts,e2,d2,z2] #[by rw[zo nT];exact fT'.1,fT'.2] hsb (q1 x fx.1)
theorem Vh(bs:List Bool):(aV bs.length).any (λi=>bs.getD i tL)=bs.any id:=by
 induction bs with
 | nil=>rfl
 | cons b bs ih =>
  rw[ay,e7,List.any_cons,List.any_map,List.any_cons,<- ih];rfl
def zeW(K:pD):List V->Hp->VK->Prop:=λxs H Q=>∃(p:pE) (bs:List Bool),xs=[.ref p]/\SqL K H p (bs.map V.bl)/\Q (.bl (bs.any id)) H
theorem zd8(hc:X.calm=tK):vL X (.builtin "any") (zeW X.K):=by
 intro tM s σ H xs us Q I r h;obtain⟨p,bs,rfl,hS,q⟩:=h;obtain⟨u,rfl,ru⟩:=wm r;cases ru;obtain⟨its,rv,pl,hz⟩:=I.list hS
 have hlen:its.length=bs.length:=by
  have:=rv.length;rw[af]at this;exact this.symm
 have hh:X.A.in1.handled=tJ:=I.ok.hd hc
 have hne:p≠s⁻¹:=by
  obtain⟨o,n,e,_⟩:=pl;exact aB (aq e)
 obtain⟨f0,f1,f2,f3,f4,f5⟩:=I.fpOk (H':=H) (ak _) (I.hok.fresh (ak _));have I1:=I.kept (t':=s.toks) (h':=s.heap.push { cls:=.type "list_iterator",data:=.fields (List.toArray [.ref p,.int 0 0]) }) λb o e=>aa _ e;refine call_any_walk (sj pl.isList ?_);refine#[s⁻¹,_,_,_,_,_,λi=>bs.getD i tL,rfl,Walks.list hh s⁻¹ p hne its.toArray,#[#[_,aD _ rfl,rfl,rfl],?_],?_,?_]
 ·obtain⟨o,n,e,c,d,dt⟩:=pl;exact#[o,aa _ e,c,n,dt]
 ·intro i v s' Q' E' hv hq;have:=Xu rv (i:=i) (v:=v) (by simpa using hv);rw[this];exact ra hq
 ·intro h' tk hk
  have e:(aV its.toArray.size).any (λi=>bs.getD i tL)=bs.any id:=by
   rw[am,hlen,Vh]
  rw[e];refine#[.bl _,H,?_,rfl,q];exact I1.turned (t':=tk) (it:=s⁻¹) (λb o hb q=>hk b o (by simpa using hb) q) f0 f1 f3 f4 f5
end
def CompEL(K:pD)(a:pE)(g:TG)(tt:TT)(te:TE)(own:Nat)(ix:())(σ:L2.St)(H1:Hp)(Q:VK)(D:pE):Prop:=Ys (Iel K a) g tt te own ix σ H1 Q D
theorem zbV{K:pD}{ta:TA}{g:TG}{tt:TT}{te:TE}{own:Nat}{ix:()}{σ:L2.St}{H:Hp}{Q:VK}:jw (U3 K ta) g tt te own ix σ H Q=ta σ H λvs H1=>∃a,vs=[.ref a]/\(∃xs,SqL K H1 a xs)/\∀D,H1 D=tJ->CompEL K a g tt te own ix σ H1 Q D:=rfl
section
variable{g:TG}{tt:TT}{te:TE}{own:Nat}{ix:()}{σ:L2.St}{H1:Hp}{Q:VK}{D:pE}
theorem CompEL.by{K:pD}{a:pE}{xs:List V}(Pv:Nat->List V->Hp->Prop)(h0:Pv 0 [] (upd H1 D (.lst [])))(hl:∀i tO H',i<=xs.length->Pv i tO H'->SqL K H' a xs)
  (hs:∀i x tO H' p,xs[i]? = tI x->Pv i tO H'->H' p=tJ->g (.ref p) (vn σ own ix) (upd H' p (.tup [.int (i:Nat),x])) λσ3 H3=>yU (vn σ own ix) σ3/\tt σ3 H3 λb H4=>if b=tK then
   te σ3 H4 λv H5=>H5 D=tI (.lst tO)/\tO.length<pC/\CNx xs.length i Pv (tO ++ [v]) (upd H5 D (.lst (tO ++ [v])))else CNx xs.length i Pv tO H4)
  (hd:∀tO H',Pv xs.length tO H'->Q (.ref D) H'):CompEL K a g tt te own ix σ H1 Q D:=by
 refine#[λi m tO H=>m=xs.length - i/\i<=xs.length/\Pv i tO H,#[xs.length,by simp,aE _,h0],?_];rintro i m tO H' ⟨rfl,hi,p⟩;have q:=hl i tO H' hi p;by_cases hlt:i<xs.length
 ·refine .inr #[#[xs,xs[i],q,by simp [hlt]],λv H2 y=>?_];obtain⟨p',x,hp,hx,ev,eH⟩:=y;subst ev eH;exact hs i x tO H' p' (hx xs q) p hp
 ·have e:i=xs.length:=⋯;subst e;exact .inl #[#[xs,q,rfl],hd tO H' p]
end
section
variable{X:Cx}
end
open PySem PySem.W PyProof.Rows
noncomputable def Qs(lt:Nat->Nat->Bool){α:Type}:tG α->α
 | .ret a=>a
 | .ask i j k=>Qs lt (k (lt i j))
def Kok(lt:Nat->Nat->Bool)(n:Nat){α:Type}:tG α->(α->Prop)->Prop
 | .ret a,Q=>Q a
 | .ask i j k,Q=>i<n/\j<n/\Kok lt n (k (lt i j)) Q
section
variable{lt:Nat->Nat->Bool}{n:Nat}{α β:Type}
theorem Kok.mono{Q Q':α->Prop}(hq:∀a,Q a->Q' a):∀(t:tG α),Kok lt n t Q->Kok lt n t Q'
 | .ret a,h=>hq a h
 | .ask _ _ k,h=>#[h.1,h.2.1,Kok.mono hq (k _) h.2.2]
theorem Kok.bind{f:α->tG β}{Q:β->Prop}:∀(t:tG α),Kok lt n t (λa=>Kok lt n (f a) Q)->Kok lt n (t.bind f) Q
 | .ret _,h=>h
 | .ask _ _ k,h=>#[h.1,h.2.1,Kok.bind (k _) h.2.2]
theorem Kok.run{Q:α->Prop}:∀(t:tG α),Kok lt n t Q->Q (Qs lt t)
 | .ret _,h=>h
 | .ask _ _ k,h=>Kok.run (k _) h.2.2
theorem Kok.same{Q:α->Prop}:∀(t:tG α),Kok lt n t Q->Kok lt n t (λa=>a=Qs lt t)
 | .ret _,h=>rfl
 | .ask _ _ k,h=>#[h.1,h.2.1,Kok.same (k _) h.2.2]
theorem Kok.wp{cmp:Nat->Nat->(Bool->pG->Prop)->pG->Prop}{I:pG->Prop}(hc:∀i j C s,i<n->j<n->I s->(∀s',I s'->C (lt i j) s')->cmp i j C s){Q:α->Prop}{R:α->pG->Prop}
  (hR:∀a s,Q a->I s->R a s):∀(t:tG α) (s:pG),I s->Kok lt n t Q->t.kasWp cmp R s
 | .ret a,s,hI,h=>hR a s h hI
 | .ask i j k,s,hI,h=>hc i j _ s h.1 h.2.1 hI λs' hI'=>Kok.wp hc hR (k _) s' hI' h.2.2
end
structure Wk(lt:Nat->Nat->Bool):Prop where
 asym:∀a b,lt a b=tK->lt b a=tL
 ntr:∀a b c,lt b a=tL->lt c b=tL->lt c a=tL
section
variable{lt:Nat->Nat->Bool}{n:Nat}
abbrev Lq(lt:Nat->Nat->Bool)(a b:Nat):Prop:=lt b a=tL
theorem Wk.refl(W:Wk lt)(a:Nat):Lq lt a a:=by
 cases h:lt a a with
 | false=>exact h
 | true=>exact absurd h (by rw[W.asym a a h];decide)
noncomputable abbrev pg(p:Array Nat)(i:Nat):Nat:=p.getD i 0
theorem Wu(p:Array Nat)(i:Nat):pg p i=(p[i]?).getD 0:=by simp [pg,Array.getD_eq_getD_getElem?]
def Up(lt:Nat->Nat->Bool)(p:Array Nat)(m:Nat):Prop:=∀i j,i<j->j<m->Lq lt (pg p i) (pg p j)
def Dn(lt:Nat->Nat->Bool)(p:Array Nat)(m:Nat):Prop:=∀i j,i<j->j<m->Lq lt (pg p j) (pg p i)
def Rg(n:Nat)(p:Array Nat):Prop:=p.toList.Perm (aV n)
theorem Rg.size{p:Array Nat}(h:Rg n p):p.size=n:=by have:=h.length_eq;simpa using this
theorem Rg.bd{p:Array Nat}(h:Rg n p){i:Nat}(hi:i<n):pg p i<n:=by
 have hs:=h.size;have hi':i<p.size:=⋯;have e:pg p i=p[i]:=by simp [pg,fz,hi']
 rw[e];have hm:p[i] ∈ p.toList:=Array.mem_toList_iff.mpr (Array.getElem_mem hi');exact tV.mp (h.mem_iff.mp hm)
theorem vf{p:Array Nat}{i j:Nat}(hj:j<=p.size)(k:Nat):pg (kas_rev p i j) k=if i<=k/\k<j then pg p (i+j - 1 - k)else pg p k:=by
 rw[Wu,kas_rev,getElem?_mirror_all hj];split <;> rw[Wu]
theorem Rg.rev{p:Array Nat}(h:Rg n p)(i j:Nat):Rg n (kas_rev p i j):=(Array.perm_iff_toList_perm.mp (mirror_perm p i j _)).trans h
theorem Rg.bub{p:Array Nat}(h:Rg n p)(i j:Nat):Rg n (bubble p i j):=(Array.perm_iff_toList_perm.mp (bubble_perm p i j)).trans h
theorem Vt(W:Wk lt){p:Array Nat}(hp:Rg n p):∀(f k:Nat),1<=k->k+f<=n->Up lt p k->Kok lt n (kas_asc p f k) (λm=>k<=m/\m<=k+f/\Up lt p m/\(m=k+f\/lt (pg p m) (pg p (m - 1))=tK))
 | 0,k,h1,h2,hu=>#[⋯,⋯,hu,Or.inl ⋯]
 | f+1,k,h1,h2,hu=>by
  refine#[hp.bd ⋯,hp.bd ⋯,?_];rcases ci (lt (pg p k) (pg p (k - 1)))with hc | hc
  ·show Kok lt n (if lt (pg p k) (pg p (k - 1))=tK then .ret k else _) _;rw[if_pos hc];exact#[⋯,⋯,hu,Or.inr hc]
  ·show Kok lt n (if lt (pg p k) (pg p (k - 1))=tK then .ret k else _) _;rw[if_neg (by rw[hc];decide)];refine (Vt W hp f (k+1) ⋯ ⋯ λi j hij hj=>?_).mono (λm hm=>#[⋯,⋯,hm.2.2.1,?_]) _
   ·by_cases e:j=k
    ·subst e;by_cases e2:i=j - 1
     ·subst e2;exact hc
     ·exact W.ntr _ _ _ (hu i (j - 1) ⋯ ⋯) hc
    ·exact hu i j hij ⋯
   ·rcases hm.2.2.2 with h | h
    ·exact Or.inl ⋯
    ·exact Or.inr h
def Ev(lt:Nat->Nat->Bool)(p:Array Nat)(a b:Nat):Prop:=∀i j,a<=i->i<b->a<=j->j<b->Lq lt (pg p i) (pg p j)
theorem KF{p:Array Nat}{m q:Nat}(hm:m<=p.size)(hq:q+1<=m)(hd:Dn lt p m)(he:Ev lt p (m - (q+1)) m):Dn lt (kas_rev p (m - (q+1)) m) m:=by
 intro i j hij hj;rw[vf hm,vf hm];by_cases h1:m - (q+1)<=i
 ·rw[if_pos (show m - (q+1)<=i/\i<m by lia),if_pos (show m - (q+1)<=j/\j<m by lia)];exact he _ _ ⋯ ⋯ ⋯ ⋯
 ·rw[if_neg (show ¬ (m - (q+1)<=i/\i<m) by lia)];split
  ·exact hd _ _ ⋯ ⋯
  ·exact hd _ _ ⋯ ⋯
theorem Zh(W:Wk lt):∀(f:Nat) (p:Array Nat) (k q:Nat),Rg n p->1<=k->k+f<=n->q+1<=k->Dn lt p k->Ev lt p (k - (q+1)) k ->
  Kok lt n (kas_desc f p k q) (λr=>Rg n r.1/\k<=r.2.1/\r.2.1<=k+f/\r.2.2+1<=r.2.1/\Dn lt r.1 r.2.1/\Ev lt r.1 (r.2.1 - (r.2.2+1)) r.2.1)
 | 0,p,k,q,hp,h1,h2,hq,hd,he=>#[hp,ak _,cu _ _,hq,hd,he]
 | f+1,p,k,q,hp,h1,h2,hq,hd,he=>by
  have hps:=hp.size;refine#[hp.bd ⋯,hp.bd ⋯,?_]
  have one:∀(p:Array Nat),Ev lt p (k+1 - (0+1)) (k+1):=λp i j a b c d=>by
   have:i=j:=⋯;subst this;exact W.refl _
  rcases ci (lt (pg p k) (pg p (k - 1)))with hc | hc
  ·show Kok lt n (if lt (pg p k) (pg p (k - 1))=tK then _ else _) _;rw[if_pos hc];have hle:Lq lt (pg p k) (pg p (k - 1)):=W.asym _ _ hc;split
   ·rename_i hq0;refine (Zh W f _ (k+1) 0 (hp.rev _ _) ⋯ ⋯ ⋯ (λi j hij hj=>?_) (one _)).mono (λr hr=>#[hr.1,⋯,⋯,hr.2.2.2]) _;by_cases e:j=k
    ·subst e;rw[vf ⋯,vf ⋯,if_neg ⋯];split
     ·exact W.ntr _ _ _ hle (he _ _ ⋯ ⋯ ⋯ ⋯)
     ·exact W.ntr _ _ _ hle (hd _ _ ⋯ ⋯)
    ·exact KF ⋯ hq hd he i j hij ⋯
   ·refine (Zh W f _ (k+1) 0 hp ⋯ ⋯ ⋯ (λi j hij hj=>?_) (one _)).mono (λr hr=>#[hr.1,⋯,⋯,hr.2.2.2]) _;by_cases e:j=k
    ·subst e;by_cases e2:i=j - 1
     ·subst e2;exact hle
     ·exact W.ntr _ _ _ hle (hd i (j - 1) ⋯ ⋯)
    ·exact hd i j hij ⋯
  ·show Kok lt n (if lt (pg p k) (pg p (k - 1))=tK then _ else _) _;rw[if_neg (by rw[hc];decide)];refine#[hp.bd ⋯,hp.bd ⋯,?_];rcases ci (lt (pg p (k - 1)) (pg p k))with hd2 | hd2
   ·show Kok lt n (if lt (pg p (k - 1)) (pg p k)=tK then _ else _) _;rw[if_pos hd2];exact#[hp,ak _,cu _ _,hq,hd,he]
   ·show Kok lt n (if lt (pg p (k - 1)) (pg p k)=tK then _ else _) _;rw[if_neg (by rw[hd2];decide)];refine (Zh W f _ (k+1) (q+1) hp ⋯ ⋯ ⋯ (λi j hij hj=>?_) (λi j a b c d=>?_)).mono (λr hr=>#[hr.1,⋯,⋯,hr.2.2.2]) _
    ·by_cases e:j=k
     ·subst e;by_cases e2:i=j - 1
      ·subst e2;exact hd2
      ·exact W.ntr _ _ _ hd2 (hd i (j - 1) ⋯ ⋯)
     ·exact hd i j hij ⋯
    ·have b1:∀i,k+1 - (q+1+1)<=i->i<k->Lq lt (pg p i) (pg p (k - 1))/\Lq lt (pg p (k - 1)) (pg p i):=λi a b=>#[he _ _ ⋯ ⋯ ⋯ ⋯,he _ _ ⋯ ⋯ ⋯ ⋯];by_cases e:j=k
     ·subst e;by_cases e3:i=j
      ·subst e3;exact W.refl _
      ·exact W.ntr _ _ _ (b1 i ⋯ ⋯).1 hc
     ·by_cases e3:i=k
      ·subst e3;exact W.ntr _ _ _ hd2 (b1 j ⋯ ⋯).2
      ·exact he _ _ ⋯ ⋯ ⋯ ⋯
theorem Wl(W:Wk lt){p:Array Nat}{m:Nat}(hp:Rg n p)(h1:1<=m)(hm:m<=n)(hd:Dn lt p m):Kok lt n (kas_tail3 m n p) (λr=>Rg n r.2/\1<=r.1/\r.1<=n/\Up lt r.2 r.1):=by
 have hps:=hp.size;unfold kas_tail3;refine Kok.bind _ ((Vt W (hp.rev 0 m) (n - m) m h1 ⋯ λi j hij hj=>?_).mono (λk hk=>#[hp.rev 0 m,by show 1<=k;lia,by show k<=n;lia,hk.2.2.1]) _);rw[vf ⋯,vf ⋯,if_pos ⋯,if_pos ⋯];exact hd _ _ ⋯ ⋯
theorem qz(W:Wk lt){p:Array Nat}{m:Nat}(hp:Rg n p)(h1:1<=m)(hm:m+1<=n)(hd:Dn lt p (m+1)):Kok lt n (kas_descPart m n p) (λr=>Rg n r.2/\1<=r.1/\r.1<=n/\Up lt r.2 r.1):=by
 unfold kas_descPart;refine Kok.bind _ ((Zh W (n - (m+1)) p (m+1) 0 hp ⋯ ⋯ ⋯ hd λi j a b c d=>?_).mono (λr hr=>?_) _)
 ·have:i=j:=⋯;subst this;exact W.refl _
 ·obtain⟨r1,r2,r3,r4,r5,r6⟩:=hr;have hs:=r1.size
  (try dsimp only)
  split
  ·exact Wl W (r1.rev _ _) ⋯ ⋯ (KF ⋯ r4 r5 r6)
  ·exact Wl W r1 ⋯ ⋯ r5
theorem Jr(W:Wk lt){p:Array Nat}(hp:Rg n p)(hn:1<=n):Kok lt n (kas_count n p) (λr=>Rg n r.2/\1<=r.1/\r.1<=n/\Up lt r.2 r.1):=by
 have hps:=hp.size;unfold kas_count;refine Kok.bind _ ((Vt W hp (n - 1) 1 (ak _) ⋯ λi j hij hj=>by lia).mono (λm hm=>?_) _);obtain⟨m1,m2,mu,ms⟩:=hm;by_cases e:(m == n)=tK
 ·rw[if_pos e];exact#[hp,by show 1<=m;lia,by show m<=n;lia,mu]
 ·rw[if_neg e];have hne:m≠n:=λh=>e (by rw[h];exact beq_self_eq_true _)
  have hlt:lt (pg p m) (pg p (m - 1))=tK:=by
   rcases ms with h | h
   ·lia
   ·exact h
  have hle:Lq lt (pg p m) (pg p (m - 1)):=W.asym _ _ hlt;by_cases h1:m > 1
  ·rw[if_pos h1];refine#[hp.bd ⋯,hp.bd ⋯,?_];rcases ci (lt (pg p 0) (pg p (m - 1)))with hc | hc
   ·show Kok lt n (if lt (pg p 0) (pg p (m - 1))=tK then _ else _) _;rw[if_pos hc];exact#[hp,by show 1<=m;lia,by show m<=n;lia,mu]
   ·show Kok lt n (if lt (pg p 0) (pg p (m - 1))=tK then _ else _) _;rw[if_neg (by rw[hc];decide)]
    have u0:∀i,i<m->Lq lt (pg p 0) (pg p i):=λi hi=>by
     by_cases h:i=0
     ·subst h;exact W.refl _
     ·exact mu 0 i ⋯ hi
    have ul:∀i,i<m->Lq lt (pg p i) (pg p (m - 1)):=λi hi=>by
     by_cases h:i=m - 1
     ·subst h;exact W.refl _
     ·exact mu i (m - 1) ⋯ ⋯
    have ev:∀i j,i<m->j<m->Lq lt (pg p i) (pg p j):=λi j hi hj=>W.ntr _ _ _ (ul i hi) (W.ntr _ _ _ hc (u0 j hj));refine qz W (hp.rev 0 m) ⋯ ⋯ λi j hij hj=>?_;by_cases h:j=m
    ·subst h;rw[vf ⋯,vf ⋯,if_neg ⋯,if_pos ⋯];exact W.ntr _ _ _ hle (ev _ _ ⋯ ⋯)
    ·rw[vf ⋯,vf ⋯,if_pos ⋯,if_pos ⋯];exact ev _ _ ⋯ ⋯
  ·rw[if_neg h1];refine qz W hp ⋯ ⋯ λi j hij hj=>?_;have h0:i=m - 1:=⋯;have h1:j=m:=⋯;subst h0 h1;exact hle
theorem kg(W:Wk lt){p:Array Nat}(hp:Rg n p){k:Nat}(hk:k<n)(hu:Up lt p k):∀(f l r:Nat),l<=r->r<=k->r - l<=f->(∀i,i<l->Lq lt (pg p i) (pg p k))->(∀i,r<=i->i<k->Lq lt (pg p k) (pg p i)) ->
  Kok lt n (kas_place p k f l r) (λm=>m<=k/\(∀i,i<m->Lq lt (pg p i) (pg p k))/\(∀i,m<=i->i<k->Lq lt (pg p k) (pg p i)))
 | 0,l,r,hl,hr,hf,h1,h2=>by
  have:l=r:=⋯;subst this;exact#[hr,h1,h2]
 | f+1,l,r,hl,hr,hf,h1,h2=>by
  unfold kas_place;by_cases e:l ≥ r
  ·rw[if_pos e];have:l=r:=⋯;subst this;exact#[hr,h1,h2]
  ·rw[if_neg e];refine#[hp.bd hk,hp.bd ⋯,?_];rcases ci (lt (pg p k) (pg p ((l+r) / 2)))with hc | hc
   ·show Kok lt n (if lt (pg p k) (pg p ((l+r) / 2))=tK then _ else _) _;rw[if_pos hc];refine kg W hp hk hu f l ((l+r) / 2) ⋯ ⋯ ⋯ h1 λi hi hik=>?_;by_cases e2:i=(l+r) / 2
    ·subst e2;exact W.asym _ _ hc
    ·exact W.ntr _ _ _ (W.asym _ _ hc) (hu _ _ ⋯ hik)
   ·show Kok lt n (if lt (pg p k) (pg p ((l+r) / 2))=tK then _ else _) _;rw[if_neg (by rw[hc];decide)];refine kg W hp hk hu f ((l+r) / 2+1) r ⋯ hr ⋯ (λi hi=>?_) h2;by_cases e2:i=(l+r) / 2
    ·subst e2;exact hc
    ·exact W.ntr _ _ _ (hu i ((l+r) / 2) ⋯ ⋯) hc
theorem J9{p:Array Nat}{k l:Nat}(hk:k<p.size)(hl:l<=k)(i:Nat):pg (bubble p k (k - l)) i=if i=l then pg p k else if l<i/\i<=k then pg p (i - 1)else pg p i:=by
 have e:k - (k - l)=l:=⋯;rw[Wu,getElem?_bubble hk (k - l) ⋯,e];by_cases h:i=l
 ·rw[if_pos h,if_pos h];exact (Wu p k).symm
 ·rw[if_neg h,if_neg h];by_cases h':l<i/\i<=k
  ·rw[if_pos h',if_pos h'];exact (Wu p (i - 1)).symm
  ·rw[if_neg h',if_neg h'];exact (Wu p i).symm
theorem J3(W:Wk lt):∀(f:Nat) (p:Array Nat) (k:Nat),Rg n p->k+f=n->Up lt p k->Kok lt n (kas_bin f p k) (λp'=>Rg n p'/\Up lt p' n)
 | 0,p,k,hp,hk,hu=>by
  have:k=n:=⋯;subst this;exact#[hp,hu]
 | f+1,p,k,hp,hk,hu=>by
  have hps:=hp.size;refine Kok.bind _ ((kg W hp ⋯ hu k 0 k ⋯ ⋯ ⋯ (λi hi=>by lia) (λi h1 h2=>by lia)).mono (λl hl=>?_) _);obtain⟨l1,l2,l3⟩:=hl;refine J3 W f _ (k+1) (hp.bub _ _) ⋯ λi j hij hj=>?_;rw[J9 ⋯ l1,J9 ⋯ l1];by_cases h1:i=l
  ·rw[if_pos h1,if_neg ⋯,if_pos ⋯];exact l3 _ ⋯ ⋯
  ·rw[if_neg h1];by_cases h2:j=l
   ·rw[if_pos h2,if_neg ⋯];exact l2 _ ⋯
   ·rw[if_neg h2];by_cases h3:l<i/\i<=k
    ·rw[if_pos h3,if_pos ⋯];exact hu _ _ ⋯ ⋯
    ·rw[if_neg h3];by_cases h4:l<j/\j<=k
     ·rw[if_pos h4];by_cases h5:i=j - 1
      ·lia
      ·exact hu _ _ ⋯ ⋯
     ·rw[if_neg h4];exact hu _ _ ⋯ ⋯
theorem YF(W:Wk lt)(hn:1<=n):Kok lt n (kas_sort n) (λp=>Rg n p/\Up lt p n):=by
 unfold kas_sort;refine Kok.bind _ ((Jr W (p:=bn (aV n)) (by unfold Rg;exact List.Perm.refl _) hn).mono (λr hr=>?_) _);obtain⟨r1,r2,r3,r4⟩:=hr
 (try dsimp only)
 split
 ·have:max r.1 1=r.1:=⋯;rw[this];exact J3 W _ _ _ r1 ⋯ r4
 ·have:r.1=n:=⋯;rw[this]at r4;exact#[r1,r4]
end
noncomputable def srt{α:Type}(lt:α->α->Bool)(d:α)(xs:List α):List α :=
 if xs.length<2 then xs else (Qs (λi j=>lt (xs.getD i d) (xs.getD j d)) (kas_sort xs.length)).toList.map λi=>xs.getD i d
structure WkO{α:Type}(lt:α->α->Bool):Prop where
 asym:∀a b,lt a b=tK->lt b a=tL
 ntr:∀a b c,lt b a=tL->lt c b=tL->lt c a=tL
theorem JQ{α:Type}{lt:α->α->Bool}(W:WkO lt)(d:α)(xs:List α):(srt lt d xs).Perm xs/\(srt lt d xs).Pairwise λa b=>lt b a=tL:=by
 unfold srt;split
 ·rename_i h;refine#[List.Perm.refl _,?_]
  match xs,h with
  | [],_=>exact List.Pairwise.nil
  | [a],_=>exact du _ _
  | _::_::_,h=>exact absurd h (by simp)
 ·rename_i h;have W':Wk (λi j=>lt (xs.getD i d) (xs.getD j d)):=#[λa b=>W.asym _ _,λa b c=>W.ntr _ _ _];obtain⟨h1,h2⟩:=Kok.run _ (YF (n:=xs.length) W' ⋯);generalize Qs (λi j=>lt (xs.getD i d) (xs.getD j d)) (kas_sort xs.length)=p at h1 h2
  have e:(aV xs.length).map (λi=>xs.getD i d)=xs:=by
   refine List.ext_getElem (by simp) λi a b=>?_;have hb:i<xs.length:=by simpa using b
   simp [hb]
  refine#[(h1.map (λi=>xs.getD i d)).trans (by rw[e]),?_];rw[List.pairwise_map,eD];intro i j hi hj hij;have hs:=h1.size;have hi':i<p.size:=by simpa using hi
  have hj':j<p.size:=by simpa using hj
  have q:=h2 i j hij ⋯;have ei:pg p i=p.toList[i]:=by simp [pg,fz,hi']
  have ej:pg p j=p.toList[j]:=by simp [pg,fz,hj']
  rw[ei,ej]at q;exact q
theorem VM{lt lt':Nat->Nat->Bool}{n:Nat}{α:Type}{Q:α->Prop}(h:∀i j,i<n->j<n->lt i j=lt' i j):∀t:tG α,Kok lt n t Q->Qs lt t=Qs lt' t
 | .ret _,_=>rfl
 | .ask i j k,q=>by
  show Qs lt (k (lt i j))=Qs lt' (k (lt' i j));rw[<- h i j q.1 q.2.1];exact VM h _ q.2.2
theorem Kv{α:Type}{lt lt':α->α->Bool}(W:WkO lt){d d':α}{xs:List α}(h:∀a ∈ xs,∀b ∈ xs,lt a b=lt' a b):srt lt d xs=srt lt' d' xs:=by
 have g:∀i,i<xs.length->∃a ∈ xs,xs.getD i d=a/\xs.getD i d'=a:=λi hi=>#[xs[i],cI hi,by rw[ac,aj hi];rfl,by rw[ac,aj hi];rfl];unfold srt;split
 ·rfl
 ·rename_i hl;have W':Wk (λi j=>lt (xs.getD i d) (xs.getD j d)):=#[λa b=>W.asym _ _,λa b c=>W.ntr _ _ _];have ok:=YF (n:=xs.length) W' ⋯
  have e:=VM (lt':=λi j=>lt' (xs.getD i d') (xs.getD j d')) (λi j hi hj=>by
   obtain⟨a,ha,a1,a2⟩:=g i hi;obtain⟨b,hb,b1,b2⟩:=g j hj;show lt (xs.getD i d) (xs.getD j d)=lt' (xs.getD i d') (xs.getD j d');rw[a1,a2,b1,b2]
   exact h a ha b hb) _ ok
  rw[<- e];obtain⟨h1,_⟩:=Kok.run _ ok;refine bu λi hi=>?_;obtain⟨a,_,a1,a2⟩:=g i (tV.mp (h1.mem_iff.mp hi));rw[a1,a2]
theorem Ug{α β:Type}{lt:β->β->Bool}(f:α->β)(d:α)(xs:List α):srt lt (f d) (xs.map f)=(srt (λa b=>lt (f a) (f b)) d xs).map f:=by
 have e:∀i,(xs.map f).getD i (f d)=f (xs.getD i d):=λi=>by
  rw[ac,ac,aA];cases xs[i]? <;> rfl
 unfold srt;rw[af];split
 ·rfl
 ·erw[e,cH]
  rfl
end L3
namespace L3
structure KeyFam(α:Type) where
 dec:α->List D
 lt:α->α->Bool
 fst:Bool
 d0:α
structure KeyFam.Ok{α:Type}(F:KeyFam α):Prop where
 w:WkO F.lt
 eq:∀a b,vF (F.dec a) (F.dec b)=F.lt a b
 ok:∀a b,kY (F.dec a) (F.dec b)
 dp:∀a,uQ (F.dec a)<40
 sh:∀a,∃d r,F.dec a=d::r/\((F.fst=tK/\∃n,d=.int n)\/(F.fst=tL/\∃l,d=.tup l))
section
variable{X:Cx}{tM:List (pE × rb)}{σ:L2.St}{H:Hp}{s:pG}
theorem Inv.repin{b:pE}{o o':rb}{h':pP}(I:Inv X (tM ++ [(b,o)]) σ H s)(hs:X.s₀.heap.objs.size<=b)(hn:∀p ∈ X.pn ++ tM,p.1≠b)(sb:Heap.SameBut b s.heap h')(ho:h'.get? b=tI o')(hd:∀v,o'.data≠.cell v) :
  Inv X (tM ++ [(b,o')]) σ H { s with heap:=h' }:=by
 have I1:Inv X tM σ H s:=I.unpinned;obtain⟨p1,p2,p3,p4,p5⟩:=I.pin (b,o) (av _ (av _ (tT.mpr rfl)))
 have I2:Inv X tM σ H { s with heap:=h' }:=Inv.turns I1 (fp:=[b]) (t':=s.toks) (λb' u hb e=>(sb.2 b' (by simpa using hb)).trans e) λb' hb=>by
  have e:b'=b:=by simpa using hb
  subst e;refine#[p2,p3,p4,.inr hs,λx c e z=>?_,hn];obtain⟨v,o1,ho1,hd1⟩:=I.cell x c e;subst z;rw[p1]at ho1;cases ho1;exact p5 v hd1
 exact I2.pins_of λp hp=>by
  rcases tS.mp hp with z | z
  ·exact I2.pin p (av _ z)
  ·have e:p=(b,o'):=by simpa using z
   subst e;exact#[ho,p2,p3,p4,hd]
theorem Inv.newpin{b:pE}{o:rb}(I:Inv X tM σ H s)(hf:wa X tM H b)(ho:s.heap.get? b=tI o)(hd:∀v,o.data≠.cell v):Inv X (tM ++ [(b,o)]) σ H s :=
 I.pins_of λp hp=>by
  rcases tS.mp hp with z | z
  ·exact I.pin p (av _ z)
  ·have e:p=(b,o):=by simpa using z
   subst e;exact#[ho,hf.1,hf.2.1,hf.2.2.1,hd]
theorem zbA(I:Inv X tM σ H s){A:pN}{b:Bool}{Q:Bool->pG->Prop}(hu:A.units+50<cLine):∀(l m:List D) (xs ys:List V) (its its':List pF) (i:Nat),Iss X.K H l xs->Iss X.K H m ys->Vals xs its->Vals ys its'->kY l m->uQ l<40 ->
  (b=tK->i=0->(∃n r,l=.int n::r)/\∃n r,m=.int n::r)->Q (vF l m) s->PySem.W.KatLex X.prog X.w A b (decide (its.length<its'.length)) Q (its.zip its') i s
 | [],m,xs,ys,its,its',i,h1,h2,r1,r2,ok,hd,hb,q=>by
  erw[Iss]at h1
  subst h1;cases r1
  have e:vF [] m=decide (([]:List pF).length<its'.length):=by
   have e1:=h2.len;have e2:=r2.length;have e3:m.length=its'.length:=⋯;rw[<- e3]
   cases m with
   | nil=>simp [vF]
   | cons _ _=>simp [vF]
  rw[e]at q;rw[List.zip_nil_left];exact gd q
 | d::l,[],xs,ys,its,its',i,h1,h2,r1,r2,ok,hd,hb,q=>by
  erw[Iss]at h2
  subst h2;cases r2
  erw[vF]at q
  rw[List.zip_nil_right];exact gd (by simpa using q)
 | d::l,e::m,xs,ys,its,its',i,h1,h2,r1,r2,ok,hd,hb,q=>by
  erw[Iss]at h1 h2
  obtain⟨x,xr,rfl,hx,hxr⟩:=h1;obtain⟨y,yr,rfl,hy,hyr⟩:=h2
  cases r1 with | cons rx rxr =>
  cases r2 with | cons ry ryr =>
  erw[kY]at ok
  erw[uQ]at hd
  rename_i u us v vs;rw[dn];refine PySem.W.kat_cons (Z2 I 45 A d e x y u v ⋯ ⋯ hx hy rx ry X.prog X.w _ _ ?_)
  cases he:eqD d e with
  | true =>
   refine PySem.W.kat_yes ?_;have:=zbA I (b:=b) hu l m xr yr us vs (i+1) hxr hyr rxr ryr ok.2 ⋯ (λ_ z=>absurd z ⋯) (by simpa only[vF,he,if_true] using q);simpa using this
  | false =>
   refine PySem.W.kat_no ?_;have q':Q (ltD d e) s:=by simpa only[vF,he,bB,if_false] using q
   by_cases hbi:(b && i == 0)=tK
   ·rw[hbi]
    erw[cG,beq_iff_eq]at hbi
    obtain⟨⟨n,r,e1⟩,n',r',e2⟩:=hb hbi.1 hbi.2;cases e1;cases e2
    erw[Is]at hx hy
    subst hx hy;obtain⟨t,rfl⟩:=rx;obtain⟨t',rfl⟩:=ry
    erw[ltD]at q'
    exact oneLt_int q'
   ·rw[show (b && i == 0)=tL by simpa using hbi];exact PySem.W.kat_one _ _ (JS I 45 A d e x y u v ⋯ ⋯ ok.1 hx hy rx ry X.prog X.w _ _ q')
theorem KP(I:Inv X tM σ H s){A:pN}{b:Bool}{Q:Bool->pG->Prop}{E:pF->pG->Prop}(hu:A.units+50<cLine){l m:List D}{x y:V}{u v:pF}(hx:Is X.K H (.tup l) x)(hy:Is X.K H (.tup m) y)(rx:RelV x u)(ry:RelV y v)
  (ok:kY l m) (hd:uQ l<40) (hb:b=tK->(∃n r,l=.int n::r)/\∃n r,m=.int n::r) (q:Q (vF l m) s):pJ (model X.prog X.w) A (keyLt' (tuples' b) u v) Q E s:=by
 erw[Is]at hx hy
 obtain⟨a,xs,rfl,h1,h2⟩:=hx;obtain⟨c,ys,rfl,g1,g2⟩:=hy;cases rx;cases ry;obtain⟨its,r,⟨o,ho,hoc,n,hod⟩,_⟩:=I.tuple h1;obtain⟨its',r',⟨o',ho',hoc',n',hod'⟩,_⟩:=I.tuple g1;refine PySem.W.kat_lt ho hod ho' hod' ?_;have:=zbA I (A:=A) (b:=b) (Q:=Q) hu l m xs ys its its' 0 h2 g2 r r' ok hd (λz _=>hb z) q;simpa using this
theorem Ke{α:Type}{F:KeyFam α}(FO:F.Ok)(I:Inv X tM σ H s){M:sV}:∀(rs:List α) (tO:List V) (ks:List pF),Iss X.K H (rs.map λa=>.tup (F.dec a)) tO->Vals tO ks ->
  ∃fs,PySem.W.KatTups s.heap ks fs/\fs.length=rs.length/\∀v ∈ fs,PySem.W.Looks M s.heap (typeOf v) (.type (if F.fst=tK then "int" else "tuple"))
 | [],tO,ks,h,r=>by
  erw[aL,Iss]at h
  subst h;cases r;exact#[[],PySem.W.KatTups.nil,rfl,λv hv=>by cases hv]
 | a::rs,tO,ks,h,r=>by
  erw[ar,Iss]at h
  obtain⟨x,xr,rfl,hx,hxr⟩:=h
  cases r with | cons rx rxr =>
  rename_i u us;obtain⟨fs,t1,t2,t3⟩:=Ke FO I (M:=M) rs xr us hxr rxr
  erw[Is]at hx
  obtain⟨c,xs,rfl,h1,h2⟩:=hx;cases rx;obtain⟨its,ri,⟨o,ho,hoc,n,hod⟩,_⟩:=I.tuple h1;obtain⟨d,dr,ed,hsh⟩:=FO.sh a;rw[ed]at h2
  erw[Iss]at h2
  obtain⟨y,yr,rfl,hy,_⟩:=h2
  cases ri with | cons ry rir =>
  rename_i v vs;refine#[v::fs,PySem.W.KatTups.cons ho hoc hod (by simp) t1,by simp [t2],λz hz=>?_];rcases tR.mp hz with e | hz
  ·subst e;rcases hsh with ⟨hf,n',rfl⟩ | ⟨hf,l,rfl⟩
   ·rw[if_pos hf]
    erw[Is]at hy
    subst hy;obtain⟨t,rfl⟩:=ry;exact PySem.W.Looks.of_pure rfl
   ·rw[if_neg (by rw[hf];decide)]
    erw[Is]at hy
    obtain⟨c',xs',rfl,g1,_⟩:=hy;cases ry;obtain⟨its',ri',⟨o',ho',hoc',n',hod'⟩,_⟩:=I.tuple g1;rw[<- hoc'];exact (PySem.W.Looks.ld ho').andThen .now
  ·exact t3 z hz
end
def WU{α:Type}(K:pD)(F:KeyFam α)(xs:List V)(Q:VK):List V->Hp->Prop:=λtO H'=>∃rs:List α,Iss K H' (rs.map λa=>.tup (F.dec a)) tO /\
 ∀ys:List (α × V),ys=srt (λp q=>F.lt p.1 q.1) (F.d0,.non) (rs.zip xs)->∀D,H' D=tJ->Q (.ref D) (upd H' D (.lst (ys.map (·.2))))
section
variable{X:Cx}{tM:List (pE × rb)}{σ:L2.St}{H:Hp}{s:pG}
theorem Inv.fp_of_pin{b:pE}{o:rb}(I:Inv X (tM ++ [(b,o)]) σ H s)(hs:X.s₀.heap.objs.size<=b)(hn:∀p ∈ X.pn ++ tM,p.1≠b):wa X tM H b:=by
 obtain⟨p1,p2,p3,p4,p5⟩:=I.pin (b,o) (av _ (av _ (tT.mpr rfl)));refine#[p2,p3,p4,.inr hs,λx c e z=>?_,hn];obtain⟨v,o1,ho1,hd1⟩:=I.cell x c e;subst z;rw[p1]at ho1;cases ho1;exact p5 v hd1
theorem Inv.at_pin{b:pE}{o:rb}(I:Inv X (tM ++ [(b,o)]) σ H s):s.heap.get? b=tI o:=(I.pin (b,o) (av _ (av _ (tT.mpr rfl)))).1
theorem xS{c:String}{xs:Array pF}{n:Nat}:∀v,(pX c xs n).data≠.cell v:=λv z=>by cases z
theorem JW{D kS:pE}{e e1:Nat}{st:SortSt}{ks out:List pF}{A:pN}{E:pF->pG->Prop}{P:PySem.Fin->pG->Prop}(I:Inv X ((tM ++ [(D,pX "list" #[] e1)]) ++ [(kS,pX "list" (bn ks) e)]) σ H s)
  (hD:X.s₀.heap.objs.size<=D) (hK:X.s₀.heap.objs.size<=kS) (nD:∀p ∈ X.pn ++ tM,p.1≠D) (nK:∀p ∈ X.pn ++ (tM ++ [(D,pX "list" #[] e1)]),p.1≠kS) (hkz:ks.length<64)
  (hout:(arrOf st).map (·.2)=bn out) (hoz:out.length<64) (hf:failedOf st=tJ) (h:∀s' c,Inv X (tM ++ [(D,pX "list" (bn out) c)]) σ H s'->P (.done (.ret .none)) s') :
  pJ (model X.prog X.w) A (ksk_tail D tL e1 (.ref kS) st) P E s:=by
 have pk:=Inv.at_pin I;have s1:=Heap.SameBut.update s.heap kS (Obj.mapSeq λ_=>(#[]:Array pF));obtain⟨ck,hck⟩:∃ck,(s.heap.update kS (Obj.mapSeq λ_=>(#[]:Array pF))).get? kS=tI (pX "list" #[] ck):=#[_,get?_update_seq pk λ_=>#[]];have I2:=(Inv.repin I hK nK s1 hck xS).unpinned;have pd:=Inv.at_pin I2;have s2:=Heap.SameBut.update (s.heap.update kS (Obj.mapSeq λ_=>(#[]:Array pF))) D (Obj.mapSeq λ_=>bn out);obtain⟨c2,hc2⟩:∃c2,((s.heap.update kS (Obj.mapSeq λ_=>(#[]:Array pF))).update D (Obj.mapSeq λ_=>bn out)).get? D=tI (pX "list" (bn out) c2):=#[_,get?_update_seq pd λ_=>bn out];have I3:=Inv.repin I2 hD nD s2 hc2 xS;unfold ksk_tail
 (try dsimp only)
 rw[hout];refine pq (listUpdate_at pk rfl ?_ (by rw[am,pZ];lia) (aE _));refine pq (rN ?_);refine pq (seqEpoch_at pd rfl ?_);refine pq (listUpdate_at pd rfl ?_ (aE _) (by erw[bB,if_false];rw[am,pZ];lia));rw[hf]
 erw[bne_self_eq_false,bB,if_false]
 exact pz (h _ c2 I3)
theorem zdL{α:Type}{F:KeyFam α}(FO:F.Ok){D kS:pE}{e e1:Nat}{ks its:List pF}{tO xs:List V}{rs:List α}{A:pN}{E:pF->pG->Prop}{P:PySem.Fin->pG->Prop}(hu:A.units+50<cLine)
  (I:Inv X ((tM ++ [(D,pX "list" #[] e1)]) ++ [(kS,pX "list" (bn ks) e)]) σ H s)
  (hD:X.s₀.heap.objs.size<=D) (hK:X.s₀.heap.objs.size<=kS) (nD:∀p ∈ X.pn ++ tM,p.1≠D) (nK:∀p ∈ X.pn ++ (tM ++ [(D,pX "list" #[] e1)]),p.1≠kS)
  (rk:Vals tO ks) (rv:Vals xs its) (hl:ks.length=its.length) (hz:its.length<64) (hR:Iss X.K H (rs.map λa=>.tup (F.dec a)) tO)
  (h:∀s' (ys:List (α × V)) (out:List pF) c,ys=srt (λp q=>F.lt p.1 q.1) (F.d0,.non) (rs.zip xs)->Vals (ys.map (·.2)) out->out.length<64->Inv X (tM ++ [(D,pX "list" (bn out) c)]) σ H s'->P (.done (.ret .none)) s') :
  pJ (model X.prog X.w) A (ksk_end D tL its.toArray e1 (.ref kS) (bn ks)) P E s:=by
 have L1:=hR.len;have L2:=rk.length;have L3:=rv.length;rw[af]at L1;have lz:(rs.zip xs).length=its.length:=by rw[List.length_zip];lia
 unfold ksk_end
 erw[bB,if_false]
 by_cases h2:its.toArray.size<2
 ·rw[if_pos h2,if_pos h2];refine pq (pz ?_);rw[StateT.run_pure];refine pq (pz ?_)
  (try dsimp only)
  refine JW (out:=its) I hD hK nD nK ⋯ ?_ hz rfl λs' c I'=>h s' (rs.zip xs) its c ?_ ?_ hz I'
  ·show ((bn ks).zip its.toArray).map (·.2)=_;apply Array.toList_inj.mp;rw[Array.toList_map,ksk_zip];exact List.map_snd_zip (by simp;lia)
  ·rw[am]at h2;unfold srt;rw[if_pos ⋯]
  ·rw[List.map_snd_zip ⋯];exact rv
 ·rw[if_neg h2,if_neg h2];rw[am]at h2;obtain⟨fs,t1,t2,t3⟩:=Ke FO I (M:=model X.prog X.w) rs tO ks hR rk;refine pq (PySem.W.kat_kind t1 ⋯ t3 (by simp) ?_)
  have hfst:((Value.type (if F.fst=tK then "int" else "tuple"):pF) != Value.type "tuple")=F.fst:=by
   cases hF:F.fst with
   | true=>rfl
   | false=>rfl
  rw[hfst];have W:Wk (λi j=>F.lt (rs.getD i F.d0) (rs.getD j F.d0)):=#[λa b=>FO.w.asym _ _,λa b c=>FO.w.ntr _ _ _];have ok:=YF (n:=its.length) W ⋯
  have lt_eq:(λi j=>F.lt (rs.getD i F.d0) (rs.getD j F.d0))=(λi j=>(λ(p q:α × V)=>F.lt p.1 q.1) ((rs.zip xs).getD i (F.d0,.non)) ((rs.zip xs).getD j (F.d0,.non))):=by
   have one:∀i,((rs.zip xs).getD i (F.d0,V.non)).1=rs.getD i F.d0:=λi=>by
    by_cases hi:i<its.length
    ·have a1:i<rs.length:=⋯;have a2:i<xs.length:=⋯;rw[ac,ac,aj ⋯,aj a1];simp
    ·rw[ac,ac,cU ⋯,cU ⋯];rfl
   funext i j
   erw[one]
  have wp:=Kok.wp (n:=its.length) (cmp:=ge X.prog X.w A (tuples' F.fst) ks) (I:=λs'=>Inv X ((tM ++ [(D,pX "list" #[] e1)]) ++ [(kS,pX "list" (bn ks) e)]) σ H s')
   (R:=λp s'=>p=Qs (λi j=>F.lt (rs.getD i F.d0) (rs.getD j F.d0)) (PySem.W.kas_sort its.length)/\Inv X ((tM ++ [(D,pX "list" #[] e1)]) ++ [(kS,pX "list" (bn ks) e)]) σ H s')
   (λi j C s' hi hj I' hC=>?_) (λp s' hp I'=>#[hp,I']) _ s I (Kok.same _ ok)
  ·have run:=PySem.W.kat_run (E:=E) (vs:=its) (ks:=ks) (Q:=λst' s'=>∃p:Array Nat,p.size=its.length/\arrOf st'=p.map (PySem.W.kas_item (ks.toArray.zip its.toArray))/\failedOf st'=tJ/\_) hl ⋯ hz (λp' st' s' a1 a2 a3 a4=>#[p',a1,a2,a3,a4]) wp;refine pq (rF run ?_ λ_ _ e=>e);rintro⟨⟨⟩,st'⟩ s' ⟨p,hp,har,hf,hpk,I'⟩
   (try dsimp only)
   have hout:=PySem.W.kat_snds (ks:=ks) (vs:=its) hl har;have hR1:Rg its.length p:=by rw[hpk];exact (Kok.run _ ok).1
   have g1:(p.toList.map λi=>(rs.zip xs).getD i (F.d0,.non))=srt (λp q=>F.lt p.1 q.1) (F.d0,.non) (rs.zip xs):=by
    unfold srt;rw[if_neg ⋯,lz,<- lt_eq,<- hpk]
   have olen:(p.toList.map λi=>its.getD i Value.none).length=its.length:=by rw[af,dQ,hp]
   refine JW (out:=p.toList.map λi=>its.getD i Value.none) I' hD hK nD nK ⋯ hout ⋯ hf λs2 c I2=>h s2 _ _ c g1 ?_ ⋯ I2;rw[cH]
   have all:∀(js:()),(∀j ∈ js,j<its.length)->Vals (js.map ((λx:α × V=>x.2) ∘ λi=>(rs.zip xs).getD i (F.d0,.non))) (js.map λi=>its.getD i Value.none):=by
    intro js
    induction js with
    | nil=>intro _;exact .nil
    | cons j js ih =>
     intro hj;refine .cons ?_ (ih λi hi=>hj i (ao _ hi));have hjl:=hj j az;have a1:j<xs.length:=⋯;obtain⟨u,hu1,ru⟩:=xH rv (j:=j) (x:=xs[j]) (aj a1)
     have e1:((rs.zip xs).getD j (F.d0,V.non)).2=xs[j]:=by
      rw[ac,aj ⋯];simp
     have e2:its.getD j Value.none=u:=by rw[ac,hu1];rfl
     show RelV ((rs.zip xs).getD j (F.d0,V.non)).2 (its.getD j Value.none);rw[e1,e2];exact ru
   exact all p.toList λj hj=>tV.mp (hR1.mem_iff.mp hj)
  ·have a1:i<rs.length:=⋯;have a2:j<rs.length:=⋯;have gi:(rs.map λa=>_root_.L3.D.tup (F.dec a))[i]? = tI (.tup (F.dec rs[i])):=by rw[aA,aj a1];rfl
   have gj:(rs.map λa=>_root_.L3.D.tup (F.dec a))[j]? = tI (.tup (F.dec rs[j])):=by rw[aA,aj a2];rfl
   obtain⟨x,hx,ix⟩:=hR.at gi;obtain⟨y,hy,iy⟩:=hR.at gj;obtain⟨u,hu1,ru⟩:=xH rk hx;obtain⟨v,hv1,rv1⟩:=xH rk hy;have e1:ks.getD i Value.none=u:=by rw[ac,hu1];rfl
   have e2:ks.getD j Value.none=v:=by rw[ac,hv1];rfl
   have e3:rs.getD i F.d0=rs[i]:=by rw[ac,aj a1];rfl
   have e4:rs.getD j F.d0=rs[j]:=by rw[ac,aj a2];rfl
   unfold ge;rw[e1,e2];refine KP I' hu ix iy ru rv1 (FO.ok _ _) (FO.dp _) (λhb=>?_) ?_
   ·obtain⟨d,r,ed,hd⟩:=FO.sh rs[i];obtain⟨d',r',ed',hd'⟩:=FO.sh rs[j];rcases hd with ⟨_,n,rfl⟩ | ⟨z,_⟩
    ·rcases hd' with ⟨_,n',rfl⟩ | ⟨z,_⟩
     ·exact#[#[n,r,ed],n',r',ed']
     ·rw[hb]at z;cases z
    ·rw[hb]at z;cases z
   ·rw[FO.eq,<- e3,<- e4];exact hC s' I'
end
def uO(kc:V->Hp->VK->Prop):List V->List V->Hp->(List V->Hp->Prop)->Prop
 | [],tO,H,Q=>Q tO H
 | x::xs,tO,H,Q=>kc x H (λk H'=>uO kc xs (tO ++ [k]) H' Q)
section
variable{X:Cx}{tM:List (pE × rb)}{σ:L2.St}{H:Hp}{s:pG}
theorem KI{α:Type}{F:KeyFam α}(FO:F.Ok){k:Nat}{q:pE}{kc:V->Hp->VK->Prop}(hr:Room (k+2) X.A)
  (hkc:∀(pins':List (pE × rb)) (s:pG) (H:Hp) (x:V) (u:pF) (Q:VK),Inv X pins' σ H s->RelV x u->kc x H Q->pJ (model X.prog X.w) X.A.in1.in1 (call (.ref q) [u]) (EP X pins' σ Q) (λ_ _=>False) s)
  {D kS:pE} {e1:Nat} {its:List pF} {xs:List V} {E:pF->pG->Prop} {P:PySem.Fin->pG->Prop} {Q:VK}
  (I:Inv X ((tM ++ [(D,pX "list" #[] e1)]) ++ [(kS,pX "list" #[] 0)]) σ H s)
  (hD:X.s₀.heap.objs.size<=D) (hK:X.s₀.heap.objs.size<=kS) (nD:∀p ∈ X.pn ++ tM,p.1≠D) (nK:∀p ∈ X.pn ++ (tM ++ [(D,pX "list" #[] e1)]),p.1≠kS)
  (rv:Vals xs its) (hz:its.length<64)
  (ht:uO kc xs [] H (WU X.K F xs Q))
  (hP:∀s',EP X tM σ Q (.ref D) s'->P (.done (.ret .none)) s') :
  pJ (model X.prog X.w) X.A.in1.in1 (ksk_rest D (.ref q) tL its.toArray e1 (.ref kS)) P E s:=by
 unfold ksk_rest;refine pq (su ?_);rw[List.forIn_toArray]
 refine pq (ksk_fold (λj s'=>∃tO ks e H',Inv X ((tM ++ [(D,pX "list" #[] e1)]) ++ [(kS,pX "list" (bn ks) e)]) σ H' s'/\Vals tO ks/\ks.length=j/\uO kc (xs.drop j) tO H' (WU X.K F xs Q))
  its 0 s #[[],[],0,H,I,.nil,rfl,ht] (λj x s1 hx hJ=>?_) λs1 hJ=>?_)
 ·obtain⟨tO,ks,e,H1,I1,rk,hkl,tk⟩:=hJ;rw[eK]at hkl tk;have hjl:j<its.length:=(tP.mp hx).1;have L3:=rv.length;obtain⟨u,hu,ru⟩:=xH rv (j:=j) (x:=xs[j]) (aj ⋯);rw[hx]at hu;cases hu;rw[aS ⋯]at tk;refine pq (rT (rF (hkc _ _ _ _ _ _ I1 ru tk) (λkv s2 hk=>?_) λ_ _ z=>z.elim));obtain⟨v,H2,I2,rv2,tk2⟩:=hk;have pk:=Inv.at_pin I2;have sb:=Heap.SameBut.update s2.heap kS (Obj.mapSeq (·.push kv));have ea:(bn ks).push kv=bn (ks ++ [kv]):=by simp
  obtain⟨c2,hc2⟩:∃c2,(s2.heap.update kS (Obj.mapSeq (·.push kv))).get? kS=tI (pX "list" (bn (ks ++ [kv])) c2):=#[_,by rw[<- ea];exact get?_update_seq pk (·.push kv)];have I3:=Inv.repin I2 hK nK sb hc2 xS
  (try dsimp only)
  refine pq (listUpdate_at pk rfl ?_ (by rw[am,pZ];lia) (by rw[Array.size_push,am,pZ];lia));refine pz #[rfl,tO ++ [v],ks ++ [kv],c2,H2,I3,rk.append (.cons rv2 .nil),by rw[ah,e9,hkl];lia,?_];rw[eK];exact tk2
 ·obtain⟨tO,ks,e,H1,I1,rk,hkl,tk⟩:=hJ;rw[eK]at hkl tk;have L3:=rv.length;rw[<- L3,dI]at tk;obtain⟨rs,hR,hq⟩:=tk
  (try dsimp only)
  refine pq (listItems_at (Inv.at_pin I1) rfl ?_);refine zdL FO (by have:=hr.in1.in1.un;lia) I1 hD hK nD nK rk rv hkl hz hR λs' ys out c p1 p3 p4 I'=>hP s' ?_;have fp:=Inv.fp_of_pin I' hD nD;refine#[.ref D,_,Inv.track I'.unpinned (a:=D) (o:=.lst (ys.map (·.2))) fp #[?_,out,c,p3,Inv.at_pin I'],rfl,hq ys p1 D fp.1];rw[p3.length,pZ];lia
theorem VG{α:Type}{F:KeyFam α}(FO:F.Ok){k:Nat}{q l:pE}{xs:List V}{kc:V->Hp->VK->Prop}{Q:VK}(hr:Room (k+2) X.A)
  (hkc:∀(pins':List (pE × rb)) (s:pG) (H:Hp) (x:V) (u:pF) (Q:VK),Inv X pins' σ H s->RelV x u->kc x H Q->pJ (model X.prog X.w) X.A.in1.in1 (call (.ref q) [u]) (EP X pins' σ Q) (λ_ _=>False) s)
  (I:Inv X tM σ H s) (hS:SqL X.K H l xs) (hz:xs.length<64) (ht:uO kc xs [] H (WU X.K F xs Q)) :
  pJ (model X.prog X.w) X.A (call (.builtin "sorted") [.ref l] [(bH "key",.ref q)]) (EP X tM σ Q) X.xe s:=by
 obtain⟨its,rv,pl,_⟩:=I.list hS;have hlen:=rv.length;refine call_function_entry_kw kind_sorted plain_sorted entry_sorted (ksk_s1 _ _) ?_;unfold Builtin.«sorted»;refine pq (m:=checkCount "sorted" 1 1 _) (pz ?_);refine pq (collect_list pl.isList ?_ (by rw[pZ];lia));refine pq (sK ?_ (by rw[pZ];lia));generalize hh1:((s.heap.push (pX "list" #[] 0)).update s⁻¹ (Obj.mapSeq (· ++ its.toArray)))=h1;have sz1:h1.objs.size=s⁻¹+1:=by rw[<- hh1,dF,size_push']
 have kp1:∀b o,s.heap.get? b=tI o->h1.get? b=tI o:=λb o e=>by
  have hlt:b<s⁻¹:=aq e;rw[<- hh1,Heap.get?_update_ne _ _ _ _ (aB hlt),Heap.get?_push_ne _ _ _ (aB hlt)];exact e
 have hoL:(h1.push (pX "list" its.toArray 0)).get? h1.objs.size=tI (pX "list" its.toArray 0):=aD _ rfl;show pJ _ _ _ _ _ { s with heap:=h1.push (pX "list" its.toArray 0) };refine pq (re (wpAny_call_entry_kw slot_list_sort #[_,hoL,rfl] entry_list_sort ?body (ksk_l1 _ _)));show pJ _ _ (Builtin.«list.sort» #[[.ref h1.objs.size],[(bH "key",.ref q)]]) _ _ _;rw[ksk_t1];generalize hh2:h1.push (pX "list" its.toArray 0)=h2 at hoL;have sz2:h2.objs.size=h1.objs.size+1:=by rw[<- hh2,size_push']
 have kp2:∀b o,s.heap.get? b=tI o->h2.get? b=tI o:=λb o e=>by rw[<- hh2];exact aa _ (kp1 b o e)
 generalize hDD:h1.objs.size=D at hoL;obtain⟨e1,ho1⟩:∃e1,(h2.update D (Obj.mapSeq λ_=>(#[]:Array pF))).get? D=tI (pX "list" #[] e1):=#[_,get?_update_seq hoL λ_=>#[]];have hDs:s⁻¹<=D:=by rw[<- hDD,sz1];exact cw _
 have sb:=Heap.SameBut.update h2 D (Obj.mapSeq λ_=>(#[]:Array pF));unfold ksk_tree;refine pq (listItems_at hoL rfl ?_);refine pq (listUpdate_at hoL rfl ?_ (by rw[am,pZ];lia) (aE _));refine pq (seqEpoch_at ho1 rfl ?_);refine pq (wpAny_newTuple ?_ (by show its.length<=_;rw[pZ];lia));refine pq (sK ?_ (aE _));refine re ?_;generalize hh3:(h2.update D (Obj.mapSeq λ_=>(#[]:Array pF))).push (pX "tuple" its.toArray 0)=h3;have sz3:h3.objs.size=s⁻¹+3:=by rw[<- hh3,size_push',dF,sz2,sz1]
 have hoK:(h3.push (pX "list" #[] 0)).get? h3.objs.size=tI (pX "list" #[] 0):=aD _ rfl;have hoD:(h3.push (pX "list" #[] 0)).get? D=tI (pX "list" #[] e1):=aa _ (by rw[<- hh3];exact aa _ ho1)
 have kp3:∀b o,s.heap.get? b=tI o->(h3.push (pX "list" #[] 0)).get? b=tI o:=λb o e=>by
  have hlt:b<s⁻¹:=aq e;refine aa _ ?_;rw[<- hh3];exact aa _ ((sb.2 b (aB (aw hlt hDs))).trans (kp2 b o e))
 have I1:Inv X tM σ H { s with heap:=h3.push (pX "list" #[] 0) }:=I.kept (t':=s.toks) kp3;have fD:wa X tM H D:=I.fpOk ⋯ (I.hok.fresh ⋯);have fK:wa X tM H h3.objs.size:=I.fpOk ⋯ (I.hok.fresh ⋯);have I2:=Inv.newpin I1 fD hoD xS
 have nK:∀p ∈ X.pn ++ (tM ++ [(D,pX "list" #[] e1)]),p.1≠h3.objs.size:=λp hp=>by
  rcases tS.mp hp with z | z
  ·exact fK.2.2.2.2.2 p (aM _ z)
  ·rcases tS.mp z with z | z
   ·exact fK.2.2.2.2.2 p (av _ z)
   ·have e:p=(D,pX "list" #[] e1):=by simpa using z
    subst e;show D≠_;lia
 have I3:=Inv.newpin I2 (b:=h3.objs.size) #[fK.1,fK.2.1,fK.2.2.1,fK.2.2.2.1,fK.2.2.2.2.1,nK] hoK xS;have hsz:=I.sz;have hK0:X.s₀.heap.objs.size<=h3.objs.size:=⋯;exact KI FO hr hkc I3 ⋯ hK0 fD.2.2.2.2.2 nK rv ⋯ ht λs' hE=>#[_,rfl,pz #[_,rfl,hE]]
end
noncomputable def U8(X:Cx)(N:List pL)(s:pG)(H:Hp)(qual:pL)(scope:rm)(f:pE)(cd:pF)(cl:List (pL × pE)):Cx where
 prog:=X.prog
 w:=X.w
 K:=X.K
 mg:=X.mg
 base:=X.base
 A:=X.A.in1.in1.deeper (eL qual scope s⁻¹ f cd cl)
 N:=N
 s₀:=s
 H₀:=H
 env:=eL qual scope s⁻¹ f cd cl
 outer:=X.stack
 stack:=eL qual scope s⁻¹ f cd cl::X.stack
 ex:=[]
 calm:=tK
 fn:=λ_=>tL
 pn:=[]
 xe:=λ_ _=>False
structure zak(p y:pL)(scope:rm):Prop where
 kind:scope.kind=.function
 co:scope.isCoroutine=tL
 gen:scope.isGenerator=tL
 nocell:∀z ∈ scope.names,z.2≠.cell
 par:scope.names.lookup p=tI .local
 fre:scope.names.lookup y=tI .free
 one:∀q ∈ scope.names,q.2=.free->q.1=y
 ne:p≠y
section
variable{X:Cx}{tM:List (pE × rb)}{σ:L2.St}{H:Hp}{s:pG}{p y name qual:pL}{scope:rm}{params:rO}{body:pO}{f c' c:pE}{pm ctv cv:pF}{k iy:Nat}{vy x:V}{u:pF}{Q:VK}{t:TE}
theorem K3(S:zak p y scope)(hd:X.A.in1.in1.handled=tJ)(I:Inv X tM σ H s)(hy:X.N[iy]? = tI y)(hσ:σ[iy]? = tI (tI vy))(hvis:X.env.scope.names.lookup y=tI .cell)(hc:X.env.cells.lookup y=tI c)(rx:RelV x u){h₁:pP}{tk:Nat}
  (hns:h₁.Ns s⁻¹ (λz=>[(p,u)].reverse.lookup z)) (hk₁:∀b o,s.heap.get? b=tI o->h₁.get? b=tI o) :
  Inv (U8 X [p,y] s H qual scope f cv [(y,c)]) [] [tI x,tI vy] H { s with heap:=h₁,toks:=tk }:=by
 obtain⟨m,hn,hl⟩:=I.loc;obtain⟨uy,ry,lk⟩:=hl iy y vy hy hσ (.inr (.inl hvis))
 have hcell:s.heap.IsCell c (tI uy):=by
  rcases lk with ⟨z,_⟩ | ⟨_,c2,e2,z⟩
  ·have z':X.env.scope.names.lookup y=tI .local:=z;rw[hvis]at z';cases z'
  ·rw[hc]at e2;cases e2;exact z
 have hcell':h₁.IsCell c (tI uy):=by
  obtain⟨o,e,d⟩:=hcell;exact#[o,hk₁ _ _ e,d]
 have e0:=I.env0;have noA:∀b:pE,b ∉ (U8 X [p,y] s H qual scope f cv [(y,c)]).ex:=λb z=>absurd (show b ∈ ([]:List pE)from z) (by simp)
 have lkc:∀z d,bt z [(y,c)]=tI d->z=y/\d=c:=λz d h=>by
  rw[aX]at h;by_cases hz:(z == y)=tK
  ·rw[hz]at h;cases h;exact#[by simpa using hz,rfl]
  ·rw[show (z == y)=tL by simpa using hz]at h;cases h
 have lky:bt y [(y,c)]=tI c:=by rw[aX];simp
 refine#[#[e0.mod,S.kind,rfl,rfl,ak _,λz z' d h1 h2=>?_,λz hz=>?_,λz d h _=>?_,λ_=>hd,Around.frames_deeper e0.frames,.inr #[rfl,rfl],λb z=>absurd z (noA b),e0.bs,e0.bsz,λb _ _=>noA b,λb z=>absurd z (noA b),e0.funs,e0.frf],
  rfl,e0.bare,Un.kept hk₁,#[_,hns,λi z v h1 h2 h3=>?_],λz d h=>?_,e0.hok.fresh (ak _),λz d h=>?_,λq hq=>absurd (show q ∈ ([]:List (pE × rb))from hq) (by simp),e0.hok.kept hk₁,rfl]
 ·rw[(lkc _ _ h1).1,(lkc _ _ h2).1]
 ·have hz':scope.names.lookup z=tI .cell\/scope.names.lookup z=tI .free:=hz;rcases hz' with hz' | hz'
  ·exact absurd rfl (S.nocell _ (bV hz'))
  ·rw[show z=y from S.one _ (bV hz') rfl];exact#[c,lky]
 ·exact absurd (show (tL:Bool)=tK from h) ∅
 ·match i,h1,h2 with
  | 0,h1,h2 =>
   cases h1;cases h2;refine#[u,rx,.inl #[S.par,?_]];show bt p [(p,u)].reverse=tI u;simp [bt]
  | 1,h1,h2 =>
   cases h1;cases h2;exact#[uy,ry,.inr #[.inr S.fre,c,lky,hcell']]
  | i+2,h1,h2=>simp at h2
 ·obtain⟨_,rfl⟩:=lkc z d h;exact#[_,hcell']
 ·obtain⟨_,rfl⟩:=lkc z d h;exact I.freeC y _ hc
theorem JE(S:zak p y scope)(hr:Room (k+3) X.A)(hbind:bindArgs (ce name qual params body scope [(y,c)] pm cv ctv) #[[u],[]]=pure [(p,u)])(I:Inv X tM σ H s)
  (ho:s.heap.get? f=tI { cls:=.type "function",data:=.func (ce name qual params body scope [(y,c)] pm cv ctv) }) (hcd:s.heap.CodeRec cv qual) (hy:X.N[iy]? = tI y) (hσ:σ[iy]? = tI (tI vy)) (hvis:X.env.scope.names.lookup y=tI .cell) (hc:X.env.cells.lookup y=tI c)
  (rx:RelV x u) (hb:PE (U8 X [p,y] s H qual scope f cv [(y,c)]) body t) (h:t [tI x,tI vy] H Q) :
  pJ (model X.prog X.w) X.A.in1.in1 (call (.ref f) [u]) (EP X tM σ Q) (λ_ _=>False) s:=by
 have hr2:Room (k+1) X.A.in1.in1:=hr.in1.in1;refine rG (PySem.W.kla_callFunE hr2.depth ho rfl S.co S.gen rfl hcd ?_);rw[hbind];refine pz (sC S.nocell (λz hz=>?_) (λh₁ hns hsb=>?_) S.kind)
 ·have e:z=(p,u):=by simpa using hz
  subst e;exact S.par
 have hk₁:∀b o,s.heap.get? b=tI o->h₁.get? b=tI o:=λb o e=>hsb.extBut b o (aB (aq e)) (aa _ e);refine#[I.nolimit.keeps hk₁,?_];have I1:=K3 (qual:=qual) (f:=f) (cv:=cv) (tk:=s.toks+1) S hr2.hd I hy hσ hvis hc rx hns hk₁;show rK _ _ (.expr body (eL qual scope s⁻¹ f cv [(y,c)])) _ _;refine PySem.W.kla_codeExpr (rF (hb [] _ _ H Q I1 h) (λv s' hv=>?_) λ_ _ z=>False.elim z);obtain⟨w',H',J,rw',q⟩:=hv;exact I.after #[w',H',J.os,J.bare,J.base,J.hok,rw',q]
end
noncomputable def cdE(c':pE)(q:pL):HO:=.ext λh=>h.CodeRec (.ref c') q
noncomputable def fnE(f:pE)(o:rb):HO:=.ext λh=>h.get? f=tI o
def TabOk(H:Hp)(P:pE)(pos:rB)(q:pL):Prop :=
 ∃ps:Array pF,H P=tI (.tbl ps)/\tE ps.toList/\(codeAmong pos ps.toList=tJ\/∃c',codeAmong pos ps.toList=tI (.ref c')/\H c'=tI (cdE c' q))
def SamT(P:pE)(H H':Hp):Prop:=∀b o,b≠P->H b=tI o->H' b=tI o
def LamAt(H:Hp)(f:pE)(name qual:pL)(params:rO)(body:pO)(scope:rm)(cl:List (pL × pE)):Prop :=
 ∃(c':pE) (pm ctv:pF),H c'=tI (cdE c' qual)/\H f=tI (fnE f { cls:=.type "function",data:=.func (ce name qual params body scope cl pm (.ref c') ctv) })
theorem zc2{P:pK}{w:pM}{H:Hp}{h:pP}{c':pE}{q:pL}(x:h.CodeRec (.ref c') q):ObjOk P w H h c' (cdE c' q):=by
 refine#[x,?_,λh1 h2 a k=>?_]
 ·obtain⟨c,o,vs,t,e,g,_⟩:=x;cases e;exact#[o,g]
 ·obtain⟨c,o,vs,t,e,g,r⟩:=a;cases e;exact#[_,o,vs,t,rfl,k o g,r]
theorem Kt{P:pK}{w:pM}{H:Hp}{h:pP}{f:pE}{o:rb}(x:h.get? f=tI o):ObjOk P w H h f (fnE f o) :=
 #[x,#[o,x],λh1 h2 a k=>k o a]
section
variable{X:Cx}{tM:List (pE × rb)}{σ:L2.St}{H:Hp}{s:pG}
theorem Inv.grow{P c' f:pE}{ps more:Array pF}{o:rb}{q:pL}{h':pP}{tk:Nat}(I:Inv X tM σ H s)(hP:H P=tI (.tbl ps))(hk:∀b u,b≠P->s.heap.get? b=tI u->h'.get? b=tI u)(hP':h'.get? P=tI { cls:=.none,data:=.fields (ps ++ more) })
  (hc:s⁻¹<=c') (hf:s⁻¹<=f) (hcf:c'≠f) (hcr:h'.CodeRec (.ref c') q) (hfo:h'.get? f=tI o) :
  Inv X tM σ (upd (upd (upd H P (.tbl (ps ++ more))) c' (cdE c' q)) f (fnE f o)) { s with heap:=h',toks:=tk }:=by
 have Pl:P<s⁻¹:=I.hok.lt hP;have hPc:P≠c':=aB (aw Pl hc);have hPf:P≠f:=aB (aw Pl hf)
 have old:∀b,b<s⁻¹->b≠P->(upd (upd (upd H P (.tbl (ps ++ more))) c' (cdE c' q)) f (fnE f o)) b=H b:=λb hb hbP=>by
  rw[zo (aB (aw hb hf)),zo (aB (aw hb hc)),zo hbP]
 have atP:(upd (upd (upd H P (.tbl (ps ++ more))) c' (cdE c' q)) f (fnE f o)) P=tI (.tbl (ps ++ more)):=by
  rw[zo hPf,zo hPc,zc]
 have neP:∀b,H b=tJ->b≠P:=λb e z=>by rw[z,hP]at e;cases e
 refine I.un #[λb u e n _ _=>hk b u (neP b n) e,λb u e n _ _=>#[u.slots,hk b u (neP b n) e],λb u e n _=>?_,λb u e _=>?_,λb xs e=>?_,λb ob u e=>?_,λb qs e=>?_] λb u e=>?_
 ·rw[old b (aq e) (neP b n)];exact n
 ·by_cases hb:b=P
  ·subst hb;exact#[_,hP']
  ·exact#[u,hk b u hb e]
 ·rw[old b (I.hok.lt e) (λz=>by rw[z,hP]at e;cases e)];exact e
 ·rw[old b (I.hok.lt e) (λz=>by rw[z,hP]at e;cases e)];exact e
 ·by_cases hb:b=P
  ·subst hb;rw[hP]at e;cases e;exact#[more,atP]
  ·rw[old b (I.hok.lt e) hb];exact#[#[],by rw[e];simp]
 ·by_cases hbf:b=f
  ·subst hbf;rw[zc]at e;cases e;exact Kt hfo
  ·rw[zo hbf]at e;by_cases hbc:b=c'
   ·subst hbc;rw[zc]at e;cases e;exact zc2 hcr
   ·rw[zo hbc]at e;by_cases hbP:b=P
    ·subst hbP;rw[zc]at e;cases e;exact hP'
    ·rw[zo hbP]at e;refine (I.hok b u e).stay (λd v hd g=>hk d v ?_ g) (λd g=>?_) λd xs g=>?_
     ·rcases hd with z | z
      ·rw[z];exact hbP
      ·intro z';rw[z',hP]at z;cases z
     ·rw[old d (I.hok.lt g) (λz=>by rw[z,hP]at g;cases g)];exact g
     ·rw[old d (I.hok.lt g) (λz=>by rw[z,hP]at g;cases g)];exact g
end
theorem uM{a b:Int}{v:pF}:∀(l:List pF),tE l->tE (l ++ [rawInt a,rawInt b,v])
 | [],_=>trivial
 | .int _ _::.int _ _::_::rest,h=>uM rest h
theorem Zt{h h':pP}{mg:pL->Option pF}{T:pE}(x:h.BuiltinsAt mg T)(k:∀b o,h.get? b=tI o->h'.get? b=tI o):h'.BuiltinsAt mg T:=by
 obtain⟨bm,o,b1,b2,b3,b4,b5,b6⟩:=x;exact#[bm,o,b1,b2,b3,b4,k _ _ b5,b6]
section
variable{X:Cx}{tM:List (pE × rb)}{σ:L2.St}{H:Hp}{s:pG}{cc P c:pE}{y:pL}{params:rO}{body:pO}{scope:rm}{pos:rB}{Q:VK}
theorem QN(hcode:X.env.code=.ref cc)(hC:PySem.W.CodeHd X.base cc P)(hB:X.base.BuiltinsAt X.mg P)(hgP:pA≠P)(hcl:closureFor scope X.env=pure [(y,c)])(hdef:defaultsOf params X.env=([],[]))(I:Inv X tM σ H s)
  (hT:TabOk H P pos (X.env.qual ++ "<lambda>"))
  (h:∀f H',H f=tJ->LamAt H' f "<lambda>" (X.env.qual ++ "<lambda>") params body scope [(y,c)]->TabOk H' P pos (X.env.qual ++ "<lambda>")->SamT P H H'->Q (.ref f) H') :
  pJ (model X.prog X.w) X.A (eval (.Lambda params body scope pos) X.env) (EP X tM σ Q) X.xe s:=by
 refine PySem.W.kla_eval hdef ?_;obtain⟨ps,hP,ht,hh⟩:=hT;have hPo:s.heap.get? P=tI (PySem.W.tabObj ps):=I.hok _ _ hP;have hg:=I.mod.glob.keeps I.bk;have Pl:P<s⁻¹:=I.hok.lt hP;rcases hh with hn | ⟨c',hit,hc'⟩
 ·refine PySem.W.kla_makeFunction (mg:=X.mg) hcl I.ok.glob hg hcode (hC.keeps I.bk) hPo ht hn hgP (Zt hB I.bk) λc' ctv h' tk hx hge hlt hrec htb=>?_;have hsz:s⁻¹<=h'.objs.size:=dj (cP hge hlt)
  have I1:=Inv.grow (P:=P) (c':=c') (f:=h'.objs.size) (more:=(List.toArray [rawInt pos.line,rawInt pos.col,.ref c'])) (tk:=tk) (o:={ cls:=.type "function",data:=.func (ce "<lambda>" (X.env.qual ++ "<lambda>") params body scope [(y,c)] ((X.mg "__name__").getD .none) (.ref c') ctv) }) I hP
   (λb u hb e=>aa _ (hx b u hb e)) (aa _ htb) hge hsz (aB hlt) (hrec.push _) (aD _ rfl)
  have hPc:P≠c':=aB (aw Pl hge);have hPf:P≠h'.objs.size:=aB (aw Pl hsz)
  have atc:(upd (upd (upd H P (.tbl (ps ++ (List.toArray [rawInt pos.line,rawInt pos.col,.ref c'])))) c' (cdE c' (X.env.qual ++ "<lambda>"))) h'.objs.size (fnE h'.objs.size { cls:=.type "function",data:=.func (ce "<lambda>" (X.env.qual ++ "<lambda>") params body scope [(y,c)] ((X.mg "__name__").getD .none) (.ref c') ctv) })) c'=tI (cdE c' (X.env.qual ++ "<lambda>")):=by
   rw[zo (aB hlt),zc]
  refine#[.ref h'.objs.size,_,I1,rfl,h _ _ (I.hok.fresh hsz) #[c',_,ctv,atc,zc] #[ps ++ (List.toArray [rawInt pos.line,rawInt pos.col,.ref c']),?_,?_,.inr #[c',?_,atc]] λb o hb e=>?_]
  ·rw[zo hPf,zo hPc,zc]
  ·rw[fH];exact uM _ ht
  ·rw[fH];exact codeAmong_snoc _ ht hn
  ·have hl:=I.hok.lt e;rw[zo (aB (aw hl hsz)),zo (aB (aw hl hge)),zo hb];exact e
 ·refine PySem.W.kla_makeFunctionHit (mg:=X.mg) hcl I.ok.glob hg hcode (hC.keeps I.bk) hPo ht hit (Zt hB I.bk) λctv h' tk hk hsz=>?_;have hfr:H h'.objs.size=tJ:=I.hok.fresh hsz
  have I1:=I.laid (a:=h'.objs.size) (t':=tk) (h':=h'.push { cls:=.type "function",data:=.func (ce "<lambda>" (X.env.qual ++ "<lambda>") params body scope [(y,c)] ((X.mg "__name__").getD .none) (.ref c') ctv) })
   (o:=fnE h'.objs.size { cls:=.type "function",data:=.func (ce "<lambda>" (X.env.qual ++ "<lambda>") params body scope [(y,c)] ((X.mg "__name__").getD .none) (.ref c') ctv) })
   (λb u e=>aa _ (hk b u e)) hsz (Kt (aD _ rfl))
  have sm:=zd (o:=fnE h'.objs.size { cls:=.type "function",data:=.func (ce "<lambda>" (X.env.qual ++ "<lambda>") params body scope [(y,c)] ((X.mg "__name__").getD .none) (.ref c') ctv) }) hfr;exact#[.ref h'.objs.size,_,I1,rfl,h _ _ hfr #[c',_,ctv,sm _ _ hc',zc] #[ps,sm _ _ hP,ht,.inr #[c',hit,sm _ _ hc']] λb o _ e=>sm _ _ e]
end
def zdG(R:V->Hp->Prop):List V->Hp->Prop
 | [v],H=>R v H
 | _,_=>False
theorem Ue{R:V->Hp->Prop}:∀{vs:List V} {H:Hp},zdG R vs H->∃v,vs=[v]/\R v H
 | [v],_,h=>#[v,rfl,h]
def zev(P:pE)(pos:rB)(q:pL)(LA:Hp->pE->Prop):TE:=λσ H Q=>TabOk H P pos q/\∀f H',H f=tJ->LA H' f->TabOk H' P pos q->SamT P H H'->Q (.ref f) H'
def JZ{α:Type}(K:pD)(F:KeyFam α)(P:pE)(pos:rB)(q:pL)(LA:Hp->pE->Prop)(iy:Nat)(te tb:TE):TE:=λσ H Q=>te σ H λv H1=>TabOk H1 P pos q /\
 ∀f H2,H1 f=tJ->LA H2 f->TabOk H2 P pos q->SamT P H1 H2->∃l xs vy,v=.ref l/\SqL K H2 l xs/\xs.length<64/\σ[iy]? = tI (tI vy)/\uO (λx H Q=>LA H f/\tb [tI x,tI vy] H Q) xs [] H2 (WU K F xs Q)
section
variable{X:Cx}{cc P c:pE}{x p y:pL}{params:rO}{body e:pO}{scope:rm}{lpos kpos pos pp:rB}{k iy:Nat}{te tb:TE}
theorem zbT(hcode:X.env.code=.ref cc)(hC:PySem.W.CodeHd X.base cc P)(hB:X.base.BuiltinsAt X.mg P)(hgP:pA≠P)(hcl:closureFor scope X.env=pure [(y,c)])(hdef:defaultsOf params X.env=([],[])) :
  PE X (.Lambda params body scope lpos) (zev P lpos (X.env.qual ++ "<lambda>") λH f=>LamAt H f "<lambda>" (X.env.qual ++ "<lambda>") params body scope [(y,c)]):=by
 intro tM s σ H Q I h;exact QN hcode hC hB hgP hcl hdef I h.1 h.2
theorem QH{α:Type}{F:KeyFam α}(FO:F.Ok)(S:zak p y scope)(hr:Room (k+3) X.A)(hg:Gl X x)(hm:X.mg x=tJ)(hv:rf x=tI (.builtin "sorted"))(ha:PA X [e] (zK te wn))
  (hcode:X.env.code=.ref cc) (hC:PySem.W.CodeHd X.base cc P) (hB:X.base.BuiltinsAt X.mg P) (hgP:pA≠P) (hcl:closureFor scope X.env=pure [(y,c)]) (hdef:defaultsOf params X.env=([],[]))
  (hbind:∀(cv pm ctv u:pF),bindArgs (ce "<lambda>" (X.env.qual ++ "<lambda>") params body scope [(y,c)] pm cv ctv) #[[u],[]]=pure [(p,u)]) (hy:X.N[iy]? = tI y) (hvis:X.env.scope.names.lookup y=tI .cell) (hc:X.env.cells.lookup y=tI c)
  (hb:∀(s:pG) (H:Hp) (f:pE) (cv:pF),Room k (U8 X [p,y] s H (X.env.qual ++ "<lambda>") scope f cv [(y,c)]).A->PE (U8 X [p,y] s H (X.env.qual ++ "<lambda>") scope f cv [(y,c)]) body tb)
  (hn:x≠"__name__":=by decide) (hdb:(x ==("__debug__" : pL))=tL:=by decide)
  (hks:(rg pos (pT [#[tI "key",.Lambda params body scope lpos,kpos]] X.env)).filterMap (·.1)=[bH "key"]:=by rfl)
  (hst:pV pos (pB [e] X.env)=(tL,eval e X.env)::pV pos (pB [] X.env):=by rfl) (hpl:(pV pos (pB [e] X.env)).any (·.1)=tL:=by rfl)
  (hall:(rg pos (pT [#[tI "key",.Lambda params body scope lpos,kpos]] X.env)).all (·.1.isSome)=tK:=by rfl) (hkw:(rg pos (pT [#[tI "key",.Lambda params body scope lpos,kpos]] X.env)).any (·.1.isNone)=tL:=by rfl) :
  PE X (.Call (.Name x pp) [e] [#[tI "key",.Lambda params body scope lpos,kpos]] pos) (JZ X.K F P lpos (X.env.qual ++ "<lambda>") (λH f=>LamAt H f "<lambda>" (X.env.qual ++ "<lambda>") params body scope [(y,c)]) iy te tb):=by
 intro tM s σ H Q I h;have hlam:PE X (.Lambda params body scope lpos) (zev P lpos (X.env.qual ++ "<lambda>") λH f=>LamAt H f "<lambda>" (X.env.qual ++ "<lambda>") params body scope [(y,c)]):=zbT hcode hC hB hgP hcl hdef;refine pY (wB I hg hm hv ?_ hn hdb)
 have h':(zK te wn) σ H (zdG λv H1=>TabOk H1 P lpos (X.env.qual ++ "<lambda>")/\∀f H2,H1 f=tJ->LamAt H2 f "<lambda>" (X.env.qual ++ "<lambda>") params body scope [(y,c)]->TabOk H2 P lpos (X.env.qual ++ "<lambda>")->SamT P H1 H2 ->
   ∃l xs vy,v=.ref l/\SqL X.K H2 l xs/\xs.length<64/\σ[iy]? = tI (tI vy)/\uO (λx H Q=>LamAt H f "<lambda>" (X.env.qual ++ "<lambda>") params body scope [(y,c)]/\tb [tI x,tI vy] H Q) xs [] H2 (WU X.K F xs Q)):=h
 refine callWith_kw (thn (ha pos tM s σ H _ I h') λus s1 ⟨vs,H1,I1,r1,q1⟩=>?_) hst hpl hall hkw;obtain⟨v,rfl,hT,q1⟩:=Ue q1;obtain⟨u,rfl,ru⟩:=wm r1
 refine thn ((VV hlam Kw:PK X [#[tI "key",.Lambda params body scope lpos,kpos]] _) pos tM s1 σ H1 (zdG λkv H2=>∃f,kv=.ref f/\LamAt H2 f "<lambda>" (X.env.qual ++ "<lambda>") params body scope [(y,c)] /\
   ∃l xs vy,v=.ref l/\SqL X.K H2 l xs/\xs.length<64/\σ[iy]? = tI (tI vy)/\uO (λx H Q=>LamAt H f "<lambda>" (X.env.qual ++ "<lambda>") params body scope [(y,c)]/\tb [tI x,tI vy] H Q) xs [] H2 (WU X.K F xs Q)) I1 #[hT,λf H2 a1 a2 a3 a4=>#[f,rfl,a2,q1 f H2 a1 a2 a3 a4]]) λws s2 ⟨zs,H2,I2,r2,q2⟩=>?_
 obtain⟨kv,rfl,f,rfl,hLA,l,xs,vy,rfl,hS,hz,hσ,hk⟩:=Ue q2;obtain⟨w',rfl,rw'⟩:=wm r2;cases rw';cases ru;rw[hks];show pJ _ _ (call (.builtin "sorted") [.ref l] [(bH "key",.ref f)]) _ _ _;refine VG FO (k:=k+1) hr (λpins' s3 H3 x3 u3 Q3 I3 r3 h3=>?_) I2 hS hz hk;obtain⟨⟨c',pm,ctv,e1,e2⟩,h4⟩:=h3;have hcd:s3.heap.CodeRec (.ref c') (X.env.qual ++ "<lambda>"):=(I3.hok _ _ e1).1;have ho:=(I3.hok _ _ e2).1;exact JE (k:=k) S hr (hbind _ _ _ _) I3 ho hcd hy hσ hvis hc r3 (hb s3 H3 f (.ref c') (hr.in1.in1.deeper _)) h4
end
section
variable{K:pD}
theorem SamT.of{T:pE}{H H':Hp}(s:Same H H'):SamT T H H':=λb o _ e=>s b o e
theorem SamT.trans{T:pE}{H H' H'':Hp}(s:SamT T H H')(s':SamT T H' H''):SamT T H H'':=λb o n e=>s' b o n (s b o n e)
theorem SamT.at{T b:pE}{H H':Hp}{ps:Array pF}{o:HO}(s:SamT T H H')(hT:H T=tI (.tbl ps))(e:H b=tI o)(ho:∀qs,o≠.tbl qs):H' b=tI o:=s b o (λz=>by rw[z,hT]at e;cases e;exact ho _ rfl) e
theorem SamT.free{T b:pE}{H H':Hp}{o:HO}(s:SamT T H H')(hT:H' T=tI o)(h:H' b=tJ):H b=tJ:=by
 cases e:H b with
 | none=>rfl
 | some u =>
  by_cases hb:b=T
  ·rw[hb,hT]at h;cases h
  ·rw[s b u hb e]at h;cases h
theorem SamT.seqL{T a:pE}{H H':Hp}{ps:Array pF}{xs:List V}(s:SamT T H H')(hT:H T=tI (.tbl ps))(h:SqL K H a xs):SqL K H' a xs:=by
 rcases h with (h | ⟨o,h⟩) | h
 ·exact .inl (.inl (s.at hT h λ_ z=>by cases z))
 ·exact .inl (.inr #[o,s.at hT h λ_ z=>by cases z])
 ·exact .inr h
theorem SamT.seqT{T a:pE}{H H':Hp}{ps:Array pF}{xs:List V}(s:SamT T H H')(hT:H T=tI (.tbl ps))(h:SqT K H a xs):SqT K H' a xs:=by
 rcases h with (h | ⟨o,h⟩) | h
 ·exact .inl (.inl (s.at hT h λ_ z=>by cases z))
 ·exact .inl (.inr #[o,s.at hT h λ_ z=>by cases z])
 ·exact .inr h
mutual
theorem Is.samT{T:pE}{H H':Hp}{ps:Array pF}(s:SamT T H H')(hT:H T=tI (.tbl ps)):∀(d:D) (v:V),Is K H d v->Is K H' d v
 | .non,v,h=>by erw[Is]at h ⊢;exact h
 | .bl b,v,h=>by erw[Is]at h ⊢;exact h
 | .int b,v,h=>by erw[Is]at h ⊢;exact h
 | .str b,v,h=>by erw[Is]at h ⊢;exact h
 | .lst l,v,h=>by
  erw[Is]at h ⊢
  obtain⟨a,xs,e1,e2,e3⟩:=h;exact#[a,xs,e1,s.seqL hT e2,Iss.samT s hT l xs e3]
 | .tup l,v,h=>by
  erw[Is]at h ⊢
  obtain⟨a,xs,e1,e2,e3⟩:=h;exact#[a,xs,e1,s.seqT hT e2,Iss.samT s hT l xs e3]
theorem Iss.samT{T:pE}{H H':Hp}{ps:Array pF}(s:SamT T H H')(hT:H T=tI (.tbl ps)):∀(l:List D) (vs:List V),Iss K H l vs->Iss K H' l vs
 | [],vs,h=>by erw[Iss]at h ⊢;exact h
 | d::l,vs,h=>by
  erw[Iss]at h ⊢
  obtain⟨v,r,e1,e2,e3⟩:=h;exact#[v,r,e1,Is.samT s hT d v e2,Iss.samT s hT l r e3]
end
theorem LsA.samT{T a:pE}{H H':Hp}{ps:Array pF}{ds:List D}(h:LsA K H a ds)(s:SamT T H H')(hT:H T=tI (.tbl ps)):LsA K H' a ds:=by
 obtain⟨xs,h1,h2⟩:=h;exact#[xs,s.at hT h1 (λ_ z=>by cases z),Iss.samT s hT _ _ h2]
theorem TabOk.same{H H':Hp}{T:pE}{pos:rB}{q:pL}(h:TabOk H T pos q)(s:Same H H'):TabOk H' T pos q:=by
 obtain⟨ps,h1,h2,h3⟩:=h;refine#[ps,s _ _ h1,h2,?_];rcases h3 with h3 | ⟨c',h4,h5⟩
 ·exact .inl h3
 ·exact .inr #[c',h4,s _ _ h5]
theorem LamAt.same{H H':Hp}{f:pE}{name qual:pL}{params:rO}{body:pO}{scope:rm}{cl:List (pL × pE)}(h:LamAt H f name qual params body scope cl)(s:Same H H'):LamAt H' f name qual params body scope cl:=by
 obtain⟨c',pm,ctv,h1,h2⟩:=h;exact#[c',pm,ctv,s _ _ h1,s _ _ h2]
end
section
variable{P:pK}{w:pM}{K:pD}{mg mb:pL->Option pF}{CX:CXT}{k:Nat}{fa a T cc:pE}{fd:pH}{x:pL}{sp:Sp}{s₁:pG}{vs:List pF}{ns:List Int}{ps:Array pF}
theorem Z8(KX:K.In s₁.heap)(hKT:K.lookup T=tJ)(hT:s₁.heap.get? T=tI { cls:=.none,data:=.fields ps })(hTc:tu s₁.heap T)(hns:s₁.heap.Ns pA mg)(hb:s₁.heap.Ns builtinsNs mb)(hbb:∀x:pL,x≠"__name__"->mb x=rf x)(hlim:s₁.heap.NoLimit)(hg:s₁.gens=#[])
  (ha:s₁.heap.get? a=tI { cls:=.type "list",data:=.seq vs.toArray }) (hr:Room k callerA)
  (hbm:s₁.heap.BuiltinsAt mg T) (hcd:PySem.W.CodeHd s₁.heap cc T) (F:∀base:pP,K.In base->base.Ns pA mg->base.BuiltinsAt mg T->PySem.W.CodeHd base cc T->FnOk P w K mg base CX k fa fd [x] sp) (hbind:∀(s:pG) (u:pF),sI s fd #[[u],[]] [(x,u)])
  (hCX:∀H e s',CX [] H s₁ (λ_ _ _=>False) e s'->False) (H:Hp) (h1:H T=tI (.tbl ps)) (h2:∀b u,H b=tI u->b=T\/(b=a/\K.lookup a=tJ/\u=.frz { cls:=.type "list",data:=.seq vs.toArray } (.lst (ns.map V.int))))
  (hok:HOk P w H s₁.heap) (hsp:sp [.ref a] H (λv _=>v=.bl tK) λ_ _ _=>False) :
  rK (model P w) callerA (.call (.ref fa) #[[.ref a],[]]) (λr s'=>r=.ok (.ret (.bool tK))/\OldK s₁.heap s'.heap/\s'.os=s₁.os/\rY s'.gens) s₁:=by
 have stay:∀b o,s₁.heap.get? b=tI o->(b≠T)->(b≠a)->(UY s₁.heap H).get? b=tI o:=λb o e n1 n2=>XH e (by
  cases q:H b with
  | none=>rfl
  | some u =>
   rcases h2 b u q with z | z
   ·exact absurd z n1
   ·exact absurd z.1 n2)
 have nsStay:∀(b:pE) (m:pL->Option pF),s₁.heap.Ns b m->(UY s₁.heap H).Ns b m:=λb m hN=>by
  obtain⟨o,es,ep,e,d,rest⟩:=hN;refine#[o,es,ep,stay b o e (λz=>?_) (λz=>?_),d,rest]
  ·rw[z,hT]at e;cases e;cases d
  ·rw[z,ha]at e;cases e;cases d
 have kStay:K.In (UY s₁.heap H):=λb o e=>by
  have g:=KX b o e;refine XH g ?_
  cases q:H b with
  | none=>rfl
  | some u =>
   rcases h2 b u q with z | z
   ·rw[z,hKT]at e;cases e
   ·rw[z.1,z.2.1]at e;cases e
 have bStay:(UY s₁.heap H).BuiltinsAt mg T:=by
  obtain⟨bm,o,b1,b2,b3,b4,b5,b6,b7,b8⟩:=hbm;refine#[bm,o,b1,b2,b3,b4,stay bm o b5 b4 (λz=>?_),b6,b7,b8];rw[z,ha]at b5;cases b5;simp at b6
 have cStay:PySem.W.CodeHd (UY s₁.heap H) cc T:=by
  obtain⟨o,vs',file,tf,flags,tg,inF,text,tt,c1,c2,c3,c4,c5,c6,c7,c8,c9,c10⟩:=hcd;refine#[o,vs',file,tf,flags,tg,inF,text,tt,stay cc o c1 c10 (λz=>?_),c2,c3,c4,c5,c6,c7,c8,c9,c10];rw[z,ha]at c1;cases c1;simp at c2
 obtain⟨mc,l1,l2⟩:=hlim;have M0:Mod K mg (UY s₁.heap H):={ kin:=kStay,glob:=nsStay _ _ hns,blt:=#[mb,nsStay _ _ hb,hbb],nolimit:=#[mc,nsStay _ _ l1,l2] };have E0:Env0 P w K mg (UY s₁.heap H) callerA [] s₁ H:={ frames:=rfl,mod:=M0,bs:=λb o e=>K5 e,bsz:=Nat.le_of_eq (U2 _ _),funs:=trivial,frf:=λb z=>(nomatch (show b ∈ ([]:List pE)from z)),hok:=hok,bare:=.of_eq hg };refine rJ ((F _ kStay (nsStay _ _ hns) bStay cStay).run callerA [] s₁ H #[[.ref a],[]] [.ref a] [.ref a] (λv _=>v=.bl tK) (λ_ _ _=>False) hr E0 (hbind s₁ (.ref a)) (.cons rfl .nil) hsp) λr s' hq=>?_;rcases r with e | fl
 ·exact (hCX H e s' hq).elim
 rcases fl with _ | _ | _ | u
 all_goals first | exact False.elim hq | skip
 obtain⟨v,H',e1,e2,un,hok',rv,ev⟩:=hq;have ev':v=V.bl tK:=ev;subst ev';have eu:u=Value.bool tK:=rv;subst eu;obtain⟨more,hT2⟩:=un.tbls T ps h1;have hT3:s'.heap.get? T=tI { cls:=.none,data:=.fields (ps ++ more) }:=hok' T _ hT2
 have each:∀b o,s₁.heap.get? b=tI o->b≠T->s'.heap.get? b=tI o:=λb o e n=>by
  cases q:H b with
  | none=>exact un.keep b o e q (λz=>(nomatch (show b ∈ ([]:List pE)from z))) (λz=>(nomatch z))
  | some ob =>
   rcases h2 b ob q with z | ⟨z,_,zz⟩
   ·exact absurd z n
   ·subst zz;have g:=(hok' b _ (un.frzs b _ _ q)).1;rw[z,ha]at e;cases e;exact g
 refine#[rfl,#[λb o e=>?_,λb o e=>?_],e1,e2]
 ·by_cases hbT:b=T
  ·subst hbT;rw[hT]at e;cases e;exact .inr (.inl #[hTc,rfl,ps,more,rfl,hT3])
  ·exact .inl (each b o e hbT)
 ·by_cases hbT:b=T
  ·subst hbT;exact#[_,hT3]
  ·exact#[o,each b o e hbT]
theorem UO(KX:K.In s₁.heap)(hKT:K.lookup T=tJ)(hT:s₁.heap.get? T=tI { cls:=.none,data:=.fields ps })(hTc:tu s₁.heap T)(hns:s₁.heap.Ns pA mg)(hb:s₁.heap.Ns builtinsNs mb)(hbb:∀x:pL,x≠"__name__"->mb x=rf x)(hlim:s₁.heap.NoLimit)(hg:s₁.gens=#[])
  (ha:s₁.heap.get? a=tI { cls:=.type "list",data:=.seq vs.toArray }) (hi:sX vs ns) (hl:ns.length<=pC) (hr:Room k callerA)
  (hbm:s₁.heap.BuiltinsAt mg T) (hcd:PySem.W.CodeHd s₁.heap cc T) (F:∀base:pP,K.In base->base.Ns pA mg->base.BuiltinsAt mg T->PySem.W.CodeHd base cc T->FnOk P w K mg base CX k fa fd [x] sp) (hbind:∀(s:pG) (u:pF),sI s fd #[[u],[]] [(x,u)])
  (hCX:∀H e s',CX [] H s₁ (λ_ _ _=>False) e s'->False) (hsp:∀H:Hp,H T=tI (.tbl ps)->SqL K H a (ns.map V.int)->sp [.ref a] H (λv _=>v=.bl tK) λ_ _ _=>False) :
  rK (model P w) callerA (.call (.ref fa) #[[.ref a],[]]) (λr s'=>r=.ok (.ret (.bool tK))/\OldK s₁.heap s'.heap/\s'.os=s₁.os/\rY s'.gens) s₁:=by
 have rv:=ZO hi;have hlv:=hi.length
 have hTa:a≠T:=λz=>by
  rw[z,hT]at ha;cases ha
 rcases hk:K.lookup a with _ | o
 ·refine Z8 (ns:=ns) KX hKT hT hTc hns hb hbb hlim hg ha hr hbm hcd F hbind hCX (upd (upd (λ_=>tJ) T (.tbl ps)) a (.frz { cls:=.type "list",data:=.seq vs.toArray } (.lst (ns.map V.int)))) ?_ (λb u e=>?_) (λb u e=>?_) ?_
  ·rw[zo (Ne.symm hTa),zc]
  ·by_cases hba:b=a
   ·subst hba;rw[zc]at e;cases e;exact .inr #[rfl,hk,rfl]
   ·rw[zo hba]at e;by_cases hbT:b=T
    ·exact .inl hbT
    ·rw[zo hbT]at e;cases e
  ·by_cases hba:b=a
   ·subst hba;rw[zc]at e;cases e;exact#[ha,by rw[af];exact hl,vs,_,rv,ha]
   ·rw[zo hba]at e;by_cases hbT:b=T
    ·subst hbT;rw[zc]at e;cases e;exact hT
    ·rw[zo hbT]at e;cases e
  ·exact hsp _ (by rw[zo (Ne.symm hTa),zc]) (.inl (.inr #[_,zc]))
 ·have e:=KX a o hk;rw[ha]at e;cases e;refine Z8 (ns:=ns) KX hKT hT hTc hns hb hbb hlim hg ha hr hbm hcd F hbind hCX (upd (λ_=>tJ) T (.tbl ps)) zc (λb u e=>?_) (λb u e=>?_) (hsp _ zc (.inr #[_,vs.toArray,_,hk,rfl,rfl,rfl,by rw[am,hlv];exact hl,by simpa using rv]))
  ·by_cases hbT:b=T
   ·exact .inl hbT
   ·rw[zo hbT]at e;cases e
  ·by_cases hbT:b=T
   ·subst hbT;rw[zc]at e;cases e;exact hT
   ·rw[zo hbT]at e;cases e
end
noncomputable def zai(K:pD):Bool:=K.all λp=>match p.2 with
 | ⟨.none,_,.fields _,_⟩=>tL
 | _=>tK
theorem XQ{T:pE}{o:rb}:∀{K:pD},K.lookup T=tI o->(T,o) ∈ K
 | [],h=>by cases h
 | p::K,h=>by
  rw[aX]at h;by_cases hp:T=p.1
  ·rw[show (T == p.1)=tK by simpa using hp]at h;cases h;rw[hp];exact az
  ·rw[show (T == p.1)=tL by simpa using hp]at h;exact ao _ (XQ h)
theorem Q0{K:pD}{T:pE}{ps:Array pF}{h:pP}(e:zai K=tK)(X:K.In h)(hT:h.get? T=tI { cls:=.none,data:=.fields ps }):K.lookup T=tJ:=by
 cases q:K.lookup T with
 | none=>rfl
 | some o =>
  have g:=X _ _ q;rw[hT]at g;cases g;have:=tZ.mp e _ (XQ q);simp at this
theorem walk_ofT{l:PySem.W.OpenLaw}{n k:Nat}{q:pK}{loose:List pL}{XP:(pL->Option pF)->pP->Prop}{YP:pM->pP->Prop}{d din:DefRec}{K:Params->pD}{CX:pM->CXT}{sp:pM->pE->Sp}{x:pL}
  (hn:l.most=tI n) (hn2:n<=pC) (hdf:d.params.defaults=[]) (hr:Room k callerA) (hdin:din ∈ recsOf q)
  (hY:∀(w:pM) (h:pP),YP w h->(K w.params).In h) (hno:∀w:pM,zai (K w.params)=tK)
  (F:∀(w:pM) (mg:pL->Option pF) (fa:pE) (h:pP) (cc T:pE),(K w.params).In h->h.Ns pA mg->mg d.name=tI (.ref fa)->(∃a o fd,mg din.name=tI (.ref a)/\h.get? a=tI o/\o.data=.func fd/\fd.code=.ref cc)->pA≠T ->
   ∃fd:pH,(∀(s:pG) (u:pF),sI s fd #[[u],[]] [(x,u)]) /\
    ∀base:pP,(K w.params).In base->base.Ns pA mg->base.BuiltinsAt mg T->PySem.W.CodeHd base cc T->FnOk l.prog w (K w.params) mg base (CX w) k fa fd [x] (sp w T))
  (hsp:∀(w:pM) (H:Hp) (a:pE) (ns:List Int) (T:pE),ns.length<=n->(∀z ∈ ns,jm z)->H T=tI (.tbl #[])->SqL (K w.params) H a (ns.map V.int)->sp w T [.ref a] H (λv _=>v=.bl tK) λ_ _ _=>False)
  (hCX:∀(w:pM) (H:Hp) (s:pG) (e:pF) (s':pG),CX w [] H s (λ_ _ _=>False) e s'->False) :
  PySem.W.WalkO q loose XP YP l.row.toRowW d [] (λf vs=>gc f vs):=by
 refine Ya hn hdf λw s₀ s₁ mg mb fa o pm cd doc a vs ns G Y ho hd hcd hmg hobj hints hlen hb' hg=>?_;have X0:=hY w _ Y;obtain⟨ai,oi,fdi,cc,T,m1,m2,m3,m4,m5,m6⟩:=G.T.tab din hdin;have hcd':PySem.W.CodeHd s₁.heap cc T:=PySem.W.CodeHd.of m5 m6;have hTo:s₁.heap.get? T=tI { cls:=.none,data:=.fields #[] }:=m6.2;have hTc:tu s₁.heap T:=m6.isCodeTable
 have hgT:pA≠T:=λz=>by
  obtain⟨o,es,ep,e,hd',_⟩:=G.T.g;rw[z,hTo]at e;cases e;cases hd'
 have hbm:s₁.heap.BuiltinsAt mg T:=by
  obtain⟨bm,ob,b1,b2,b3,b4,b5,b6⟩:=G.T.bmain;refine#[bm,ob,b1,b2,λz=>?_,λz=>?_,b3,b4,b5,b6]
  ·obtain⟨o,es,ep,e,hd',_⟩:=G.T.g;rw[z,e]at b3;cases b3;rw[hd']at b6;cases b6
  ·rw[z,hTo]at b3;cases b3;cases b4
 obtain⟨fd,hbd,hF⟩:=F w mg fa _ cc T X0 G.T.g hmg #[ai,oi,fdi,m1,m2,m3,m4] hgT;exact UO (T:=T) (ps:=#[]) X0 (Q0 (hno w) X0 hTo) hTo hTc G.T.g G.T.b G.T.builtins G.T.nolimit hg hobj hints (aN hlen hn2) hr hbm hcd' hF hbd (λH e s'=>hCX w H s₁ e s') λH h1 h2=>hsp w H a ns T hlen hb' h1 h2
theorem za9{P:pK}{w:pM}{K:pD}{mg:pL->Option pF}{base:pP}{x qual:pL}{st:pQ}{f cc:pE}{fd:pH}{N ps:List pL}{k:Nat}{sp:Sp}(F:Fun K x qual st f fd)(hcc:fd.code=.ref cc)(S:zk N ps (zh st))(len:∀vs H Q E,sp vs H Q E->vs.length=ps.length)
  (hbody:∀(A:pN) (outer:List sy) (s:pG) (H:Hp) (vs:List V) (Q:VK) (E:XK),Room k (A.deeper (rX qual (zh st) s⁻¹ f (.ref cc)))->sp vs H Q E ->
   ∃t,PSs (u8 CX0 P w K mg base N qual (zh st) f (.ref cc) A outer s H E).nox (z9 st) t/\t { nx:=λ_ H'=>Q .non H',rt:=Q } (start N vs) H):FnOk P w K mg base CX0 (k+1) f fd ps sp:=by
 obtain⟨oc,od,kV,doc,pm,an,cdv,ct,osl,rfl,lk,hcd⟩:=F.ex;have e:cdv=.ref cc:=hcc;subst e;refine Jc lk hcd S len λA outer s H vs Q E hr hsp=>?_;obtain⟨t,h,q⟩:=hbody A outer s H vs Q E hr hsp;exact#[t,h.nox,q]
end L3
namespace L3
section
variable{X:Cx}{tM:List (pE × rb)}{σ:L2.St}{H:Hp}{s:pG}{cc P c:pE}{y:pL}{params:rO}{body:pO}{scope:rm}{pos:rB}{Q:VK}
end
section
variable{X:Cx}{cc P c:pE}{x p y:pL}{params:rO}{body e:pO}{scope:rm}{lpos kpos pos pp:rB}{k iy:Nat}{te tb:TE}
end
section
variable{P:pK}{w:pM}{K:pD}{mg mb:pL->Option pF}{CX:CXT}{k:Nat}{fa a T cc T' cc':pE}{fd:pH}{x:pL}{sp:Sp}{s₁:pG}{vs:List pF}{ns:List Int}
end
end L3
namespace PySem
namespace F
end F
section
variable{prog:pK}{w:pM}{A:pN}{E:pF->pG->Prop}{s:pG}
def Heap.IsRevS(h:pP)(a:pE)(x:pL)(t:rZ)(i:Int):Prop:=∃o,h.get? a=tI o/\o.cls=.type "reversed"/\o.data=.fields (List.toArray [.str x t,rawInt i])
theorem Heap.IsRevS.typeIs{a:pE}{x:pL}{t:rZ}{i:Int}(z:s.heap.IsRevS a x t i):s.TypeIs (.ref a) "reversed":=let #[o,ho,hc,_]:=z; #[o,ho,hc]
theorem Heap.IsRevS.at{h h':pP}{a:pE}{x:pL}{t:rZ}{i:Int}(z:h.IsRevS a x t i)(e:∀o,h.get? a=tI o->h'.get? a=tI o):h'.IsRevS a x t i:=let #[o,ho,r]:=z; #[o,e _ ho,r]
end
end PySem
namespace L3
section
variable{X:Cx}{o a:pO}{to:TE}{ta:TA}{apos cpos p pos2:rB}
end
end L3
namespace L2
section
variable{X:Cx}{tg:pO}
end
end L2
namespace L3
open PySem L2
section
variable{g:TG}{tt:TT}{te:TE}{own:Nat}{ix:()}{σ:L2.St}{H1:Hp}{Q:VK}{D:pE}
end
end L3
namespace L3
open PySem.AutoSeq1 (wpAny_loadPart')
open MeetsSeq MeetsSeq2 MeetsSeq3 SeqRoads2 SeqAt
section
variable{X:Cx}{tM:List (pE × rb)}{σ:St}{H:Hp}{s:pG}
end
end L3
namespace L3
section
variable{prog:pK}{w:pM}{A:pN}{R:sH->pG->Prop}{I:pE}{fp wr:List pE}{G:Array sY->Array sY->Prop}{n:Nat}{P:Nat->pF->Prop}{St:Nat->pG->Prop}
end
section
variable{prog:pK}{w:pM}{A:pN}{E:pF->pG->Prop}{s:pG}
end
section
variable{X:Cx}
end
section
variable{g:TG}{tt:TT}{te:TE}{own:Nat}{ix:()}{σ:L2.St}{H1:Hp}{Q:VK}{D:pE}
end
theorem Xt{α:Type}[DecidableEq α](k:α)(v:pF)(x:α):∀kvs:List (α × pF),(kvs.map λkv=>if kv.1=k then (kv.1,v)else kv).find? (λkv=>kv.1=x)=(kvs.find? λkv=>kv.1=x).map λkv=>if kv.1=k then (kv.1,v)else kv
 | []=>rfl
 | p::kvs=>by
  have e:(if p.1=k then (p.1,v)else p).1=p.1:=by split <;> rfl
  rw[ar,List.find?_cons,List.find?_cons,Xt k v x kvs]
  erw[e]
  by_cases h:p.1=x
  ·simp [h]
  ·simp [h]
theorem WH{α:Type}[DecidableEq α](kvs:List (α × pF))(k:α)(v:pF)(x:α):valueAt (stored kvs k v) x=if x=k then tI v else valueAt kvs x:=by
 unfold stored valueAt;split
 ·rename_i h;rw[Xt];by_cases e:x=k
  ·subst e;rw[if_pos rfl];obtain⟨p,hp,hk⟩:=Am.mp h
   cases hf:kvs.find? λkv=>kv.1=x with
   | none =>
    have:=An.mp hf p hp;exact absurd hk this
   | some q =>
    have hq:=dM hf;have hq':q.1=x:=by simpa using hq
    simp [hq']
  ·rw[if_neg e]
   cases hf:kvs.find? λkv=>kv.1=x with
   | none=>rfl
   | some q =>
    have hq:=dM hf;have hq':q.1=x:=by simpa using hq
    have:¬ q.1=k:=λz=>e (hq'.symm.trans z);simp [this]
 ·rename_i h;rw[List.find?_append];by_cases e:x=k
  ·subst e;rw[if_pos rfl]
   have:kvs.find? (λkv=>kv.1=x)=tJ:=by
    rw[List.find?_eq_none];intro p hp hk;exact h (Am.mpr #[p,hp,hk])
   rw[this];simp
  ·have e':¬ k=x:=λz=>e z.symm;rw[if_neg e];simp [e']
section
variable{X:Cx}{pos:rB}
end
noncomputable def jo(P:pK)(w:pM)(a:pE)(m:pL->Option V)(n:Nat):HO:=.ext λh=>(a == sysModules)=tL/\∃kvs:List (pL × pF),h.DictOf (da P w) a kvs/\kvs.length<=n/\∀k,RelO (m k) (valueAt kvs k)
theorem Va{P:pK}{w:pM}{H:Hp}{h:pP}{a:pE}{m:pL->Option V}{n:Nat}{kvs:List (pL × pF)}(hs:(a == sysModules)=tL)(d:h.DictOf (da P w) a kvs)(hl:kvs.length<=n)(r:∀k,RelO (m k) (valueAt kvs k)):ObjOk P w H h a (jo P w a m n) :=
 #[#[hs,kvs,d,hl,r],(let #[o,es,ep,ho,_]:=d; #[o,ho]),λh1 h2 ⟨hs,kvs,⟨o,es,ep,ho,rest⟩,z⟩ k=>#[hs,kvs,#[o,es,ep,k _ ho,rest],z]]
section
variable{X:Cx}{pos:rB}
theorem Inv.beyond{tM:List (pE × rb)}{σ:L2.St}{H:Hp}{s:pG}(I:Inv X tM σ H s):(s⁻¹ == sysModules)=tL:=by
 obtain⟨o,es,ep,e,_⟩:=I.ok.mod.glob;have h1:=aq e;have h2:=I.ok.bsz;have h3:=I.sz;have h4:1<=pA:=∅;have h5:1<s⁻¹:=aw (cP h4 h1) (aN h2 h3);rw[beq_eq_false_iff_ne];intro z;exact bW h5 z
def zbw(P:pK)(w:pM):TE:=λ_ H Q=>∀p,H p=tJ->Q (.ref p) (upd H p (jo P w p (λ_=>tJ) 0))
theorem zaC:PE X (.Dict [] [] pos) (zbw X.prog X.w):=λtM s σ H Q I h =>
 wpAny_Dict_empty #[.ref s⁻¹,_,I.laid (a:=s⁻¹) (t':=s.toks) (λ_ _ q=>aa _ q) (ak _) (Va (m:=λ_=>tJ) (Inv.beyond I) (Heap.DictOf.new s.heap) (ak _) λ_=>trivial),rfl,h _ (I.hok.fresh (ak _))]
theorem Inv.tdic{tM:List (pE × rb)}{σ:L2.St}{H:Hp}{s:pG}{a:pE}{m:pL->Option V}{n:Nat}(I:Inv X tM σ H s)(h:H a=tI (jo X.prog X.w a m n)):(a == sysModules)=tL/\∃kvs:List (pL × pF),s.heap.DictOf (da X.prog X.w) a kvs/\kvs.length<=n/\∀k,RelO (m k) (valueAt kvs k):=(I.hok _ _ h).1
def zei(P:pK)(w:pM):R2:=λx y H Q=>∃a m n k v,x=.ref a/\y=.str k/\H a=tI (jo P w a m n)/\m k=tI v/\Q v H
theorem zaA:IxR X (zei X.prog X.w):=by
 intro value slice tM s σ H x y v u Q I rx ry h hs;obtain⟨a,m,n,k,z,rfl,rfl,ha,hk,q⟩:=h;cases rx;obtain⟨t,rfl⟩:=ry;obtain⟨_,kvs,dd,hl,r⟩:=Inv.tdic I ha;obtain⟨w',hw,rw'⟩:=RelO.some_of (v:=z) (o:=valueAt kvs k) (by rw[<- hk];exact r k);exact tail_any dd.typeIs slot_dict_getitem.lookup (wpAny_getItem_of (knd:=da X.prog X.w) (strKind_is _ _ _ _) dd.mapOf hw #[z,H,I.tok _,rw',q]) hs
def zbJ(P:pK)(w:pM):V->V->V->Hp->(Hp->Prop)->Prop:=λo i v H Q=>∃a m n k,o=.ref a/\i=.str k/\H a=tI (jo P w a m n)/\n<=100000/\Q (upd H a (jo P w a (λx=>if x=k then tI v else m x) (n+1)))
theorem Q7:zeB X (zbJ X.prog X.w):=by
 intro tM s σ H o i v ov iv u Q I ro ri rv h;obtain⟨a,m,n,k,rfl,rfl,ha,hn,q⟩:=h;cases ro;obtain⟨t,rfl⟩:=ri;obtain⟨hsm,kvs,dd,hl,r⟩:=Inv.tdic I ha;have s16:=z6;refine wpAny_setItem_pairs (knd:=da X.prog X.w) (hsz:=by lia) (strKind_is _ _ _ _) dd λh' dd' hs=>#[_,?_,q];have he:∃q,h'.get? a=tI q:=let #[q,_,_,hq,_]:=dd'; #[q,hq];refine I.write (x:=a) (e:=a) (by rw[ha];exact True.intro) (.inl rfl) (λb q hb z=>(hs.2 b hb).trans z) he (Va hsm dd' (aN (stored_length_le _ _ _) ⋯) λx=>?_);rw[WH];by_cases e:x=k
 ·rw[if_pos e,if_pos e];exact rv
 ·rw[if_neg e,if_neg e];exact r x
def zcY(P:pK)(w:pM):R2:=λx y H Q=>∃a m n k,x=.str k/\y=.ref a/\H a=tI (jo P w a m n)/\Q (.bl (m k).isNone) H
theorem Q8:OpR X (pR .NotIn) (zcY X.prog X.w):=by
 intro tM s σ H x y v u Q I rx ry h;obtain⟨a,m,n,k,rfl,rfl,ha,q⟩:=h;obtain⟨t,rfl⟩:=rx;cases ry;obtain⟨hsm,kvs,dd,hl,r⟩:=Inv.tdic I ha;refine wpAny_notIn_of (knd:=da X.prog X.w) (strKind_is _ _ _ _) hsm dd.mapOf ?_
 have e:(!(valueAt kvs k).isSome)=(m k).isNone:=by
  have:=r k
  cases hm:m k with
  | none =>
   cases hv:valueAt kvs k with
   | none=>rfl
   | some z=>rw[hm,hv]at this;exact this.elim
  | some z0 =>
   cases hv:valueAt kvs k with
   | none=>rw[hm,hv]at this;exact this.elim
   | some z=>rfl
 rw[e];exact#[.bl _,H,I.tok _,rfl,q]
end
section
variable{X:Cx}{scope:rm}{own caps:List pL}{ix:()}{elt tg iter:pO}{ifs:List pO}{pos:rB}{wi:TI}{g:TG}{tt:TT}{te:TE}
theorem uI{EX:XK}(hc:X.calm=tK)(S:jP X scope own caps ix)
  (hg:∀cl C tM s3 H3 fp,PG (yj X scope cl C (own ++ caps) tM s3 H3 fp λ_ _=>False) tg g)
  (ht:∀cl C tM s3 H3 fp xe,XE (yj X scope cl C (own ++ caps) tM s3 H3 fp xe) EX->PTs (yj X scope cl C (own ++ caps) tM s3 H3 fp xe) ifs tt)
  (hst:X.stack=X.env::X.outer/\X.env.frame=tI X.env.locals) (hxe:XE X EX) (he:∀cl C tM s3 H3 fp xe,XE (yj X scope cl C (own ++ caps) tM s3 H3 fp xe) EX->PE (yj X scope cl C (own ++ caps) tM s3 H3 fp xe) elt te)
  {cl:List (pL × pE)} (hc1:∀y c,cl.lookup y=tI c->X.env.cells.lookup y=tI c) (hc2:∀y,(y,NameKind.free) ∈ scope.names->∃c,cl.lookup y=tI c)
  {tM:List (pE × rb)} {σ:St} {H2:Hp} {s2:pG} {Q:VK} {it:pE} {fp:List pE} {tn:Nat->pP->Prop} {J:It} (I2:Inv X tM σ H2 s2) (T:Qu X.prog X.w X.K tg J fp it tn) (st2:tn 0 s2.heap) (f2:∀b ∈ fp,wa X tM H2 b)
  (q:∀D,H2 D=tJ->∃W:Nat->Nat->List V->Hp->Prop,(∃m,W 0 m [] (upd H2 D (.lst []))) /\
   ∀i m tO H',W i m tO H'->(J.stop i H'/\Q (.ref D) H')\/(J.go i H'/\∀x H2,J.yld i H' x H2->g x (vn σ own.length ix) H2 λσ3 H3=>yU (vn σ own.length ix) σ3/\tt σ3 H3 λb H4=>if b=tK then
    te σ3 H4 λv H5=>H5 D=tI (.lst tO)/\tO.length<pC/\∃m',m'<m/\W (i+1) m' (tO ++ [v]) (upd H5 D (.lst (tO ++ [v])))
    else ∃m',m'<m/\W (i+1) m' tO H4))
  {RR:pF->pE->sH->pG->Prop} {E:pF->pG->Prop}
  (hRR:∀D C m s' H',H2 D=tJ->s'.heap.Ns C m->wa X tM H' C->Inv X tM σ H' s'->Q (.ref D) H'->RR (.ref D) C (.ok .next) s')
  (hRE:∀D C m s' x,s'.heap.Ns C m->(∀h',Heap.SameBut C s'.heap h'->∀cenv:sy,cenv.locals=C->pJ (model X.prog X.w) X.A (fN "comprehension.variables-let-go" x cenv:tw pF) (λ_ _=>False) X.xe { s' with heap:=h' })->RR (.ref D) C (.error x) s') :
  pJ (model X.prog X.w) X.A (newList []) (λtO s3=>pJ (model X.prog X.w) X.A (newFunctionEnv scope X.env.globals cl [] X.env.qual tJ .none (tI X.env)) (λcenv s4 =>
   rK (model X.prog X.w) X.A (.compStart (.ListComp elt [#[tg,iter,ifs,0]] scope pos) 0 (.ref it) tO { cenv with scope:=relabel scope X.env }) (RR tO cenv.locals) s4) E s3) E s2:=by
 have hD:H2 s2⁻¹=tJ:=I2.hok.fresh (ak _);obtain⟨W,⟨m0,w0⟩,turn⟩:=q _ hD;refine sP (sC S.nocell (by intro y hy;simp at hy) (λh1 hns1 hsb1=>?_) S.kind);dsimp only at hns1 hsb1 ⊢
 have I3:Inv X tM σ (upd H2 s2⁻¹ (.lst [])) { s2 with heap:=s2.heap.push { cls:=.type "list",dict:=tJ,data:=.seq ([]:List pF).toArray } } :=
  I2.lnew (its:=[]) (t':=s2.toks) .nil (aE _)
 generalize hs3:({ s2 with heap:=s2.heap.push { cls:=.type "list",dict:=tJ,data:=.seq ([]:List pF).toArray } }:pG)=s3 at I3;have e3:s2.heap.push { cls:=.type "list",dict:=tJ,data:=.seq ([]:List pF).toArray }=s3.heap:=by rw[<- hs3]
 rw[e3]at hns1 hsb1 ⊢;have k1:∀b o,s3.heap.get? b=tI o->h1.get? b=tI o:=λb o e=>(hsb1.2 b (aB (aq e))).trans (aa _ e);have k23:∀b o,s2.heap.get? b=tI o->s3.heap.get? b=tI o:=λb o e=>by rw[<- e3];exact aa _ e
 have hz:s3⁻¹=s2⁻¹+1:=by rw[<- e3,bT]
 have fpObj:∀b ∈ fp,∃o,s2.heap.get? b=tI o:=λb hb=>let #[o,e,_]:=T.obj 0 _ st2 b hb; #[o,e];have fplt:∀b ∈ fp,b<s2⁻¹:=λb hb=>let #[o,e]:=fpObj b hb;aq e;have f3:∀b ∈ fp,wa X tM (upd H2 s2⁻¹ (.lst [])) b:=λb hb=>#[by rw[zo (aB (fplt b hb))];exact (f2 b hb).1,(f2 b hb).2]
 have I4:Inv (yj X scope cl s3⁻¹ (own ++ caps) tM s3 (upd H2 s2⁻¹ (.lst [])) fp λ_ _=>False) [] (vn σ own.length ix) (upd H2 s2⁻¹ (.lst [])) { s3 with heap:=h1,toks:=s3.toks+([]:List (pL × pF)).length } :=
  Wx S hc1 hc2 I3 f3 (λb hb=>by rw[hz];exact cT (fplt b hb)) hns1 k1
 have st4:tn 0 h1:=T.keep 0 _ _ st2 λb hb o e=>k1 b o (k23 b o e);generalize hs4:({ s3 with heap:=h1,toks:=s3.toks+([]:List (pL × pF)).length }:pG)=s4 at I4;have es4:({ s2 with heap:=h1,toks:=s2.toks+([]:List (pL × pF)).length }:pG)=s4:=by rw[<- hs4,<- hs3]
 have e4:h1=s4.heap:=by rw[<- hs4]
 have loop:rK (model X.prog X.w) X.A (.compLoop (.ListComp elt [#[tg,iter,ifs,0]] scope pos) 0 (.ref it) (.ref s2⁻¹) (compEnvC scope cl s3⁻¹ X.env)) (RR (.ref s2⁻¹) s3⁻¹) s4:=by
  let X':=yj X scope cl s3⁻¹ (own ++ caps) tM s3 (upd H2 s2⁻¹ (.lst [])) fp λ_ _=>False
  have fp':∀{H':Hp},(∀b ∈ fp,H' b=tJ)->∀b ∈ fp,wa X' [] H' b:=λ{H'} hn b hb=>by
   obtain⟨_,a1,a2,a3,a4,a5⟩:=f3 b hb;refine#[hn b hb,aB (show b<s3⁻¹ from by rw[hz];exact cT (fplt b hb)),λz=>?_,.inl hb,λx c e=>a4 x c (hc1 x c e),λp hp=>?_]
   ·rcases tR.mp (I3.stkSub b z)with e | e
    ·exact a1 e
    ·exact a2 e
   ·have:p ∈ (X.pn ++ tM) ++ []:=hp;rw[aG]at this;exact a5 p this
  refine UK (λn s'=>∃i tO H',Inv X' [] (vn σ own.length ix) H' s'/\tn i s'.heap/\(∀b ∈ fp,H' b=tJ)/\W i n tO H') rfl ?_ m0 #[0,[],_,I4,by rw[<- e4];exact st4,λb hb=>(f3 b hb).1,w0];rintro n s5 ⟨i,tO,H5,I5,st5,fr5,w5⟩;refine rz ?_;rcases turn i n tO H5 w5 with ⟨stop,qn⟩ | ⟨go,step⟩
  ·refine thn (T.done X' rfl rfl rfl hc i [] s5 _ H5 _ I5 (fp' fr5) st5 stop) λr s6 ⟨hr,I6⟩=>?_;subst hr;obtain⟨m,hm,_⟩:=I6.loc;refine hRR _ _ m s6 H5 hD hm (I3.fpOk (ak _) I6.free) (I3.call' (s':=s6) I6.os I6.base I6.hok I6.bare λb hb=>?_) qn;obtain⟨_,a1,a2,a3,a4,a5⟩:=f3 b hb;exact#[a3,a1,a4,a5]
  ·refine thn (T.item X' rfl rfl rfl hc i [] s5 _ H5 (λ_ _=>False) I5 (fp' fr5) st5 go) λr s6 ⟨u,hr,h6⟩=>?_;subst hr;refine rz (thn h6 λ_ s7 ⟨x,H7,I7,r7,y7,st7,fr7⟩=>?_);have I7':=I7.pinned (fp' fr7) (T.obj _ _ st7);refine rz (thn (hg _ _ _ _ _ _ _ s7 _ H7 x u _ I7' r7 (step x H7 y7)) λ_ s8 ⟨σ8,H8,I8,ks,q8⟩=>?_);refine thn (ht cl _ tM s3 (upd H2 s2⁻¹ (.lst [])) fp _ (λe s hfl=>VU (RE:=λe s'=>RR (.ref s2⁻¹) s3⁻¹ (.error e) s') hst hxe hc1 I3 f3 hfl λm s' x a b=>hRE _ _ m s' x a b) _ s8 σ8 H8 _ (I8.wish _) q8) λb s9 ⟨H9,I9',q9⟩=>?_;have I9:=Inv.unwish (X:=X') I9'
   have back:∀{s':pG} {H':Hp} {acc':List V} {m':Nat},Inv X' ([] ++ ZQ fp s7.heap) σ8 H' s'->m'<n->W (i+1) m' acc' H'->∃m,m<n/\∃i tO H',Inv X' [] (vn σ own.length ix) H' s'/\tn i s'.heap/\(∀b ∈ fp,H' b=tJ)/\W i m tO H':=λ{s' H' acc' m'} J' hm w'=>by
    refine#[m',hm,i+1,acc',H',(J'.unpinned).weak ks.1 ks.2,T.keep _ _ _ st7 λb hb o e=>(J'.pin (b,o) (av _ (av _ (wY hb e)))).1,λb hb=>?_,w'];obtain⟨o,e,d⟩:=T.obj _ _ st7 b hb;exact (J'.pin (b,o) (av _ (av _ (wY hb e)))).2.1
   cases b with
   | false =>
    rw[if_neg aC]at q9 ⊢;obtain⟨m',hm,w'⟩:=q9;exact back I9 hm w'
   | true =>
    rw[if_pos rfl]at q9 ⊢;refine thn (he cl _ tM s3 (upd H2 s2⁻¹ (.lst [])) fp _ (λe s hfl=>VU (RE:=λe s'=>RR (.ref s2⁻¹) s3⁻¹ (.error e) s') hst hxe hc1 I3 f3 hfl λm s' x a b=>hRE _ _ m s' x a b) _ s9 σ8 H9 _ (I9.wish _) q9) λv s10 ⟨y,H10,I10',r10,hD10,hsz,m',hm,w'⟩=>?_;have I10:=Inv.unwish (X:=X') I10';refine rz ?_;have:=xq (X:=X') _ s10 σ8 H10 (.ref s2⁻¹) [y] (.ref s2⁻¹) [v] (λ_ H'=>H'=upd H10 s2⁻¹ (.lst (tO ++ [y]))) I10 rfl (.cons r10 .nil) #[tO,hD10,hsz,rfl];refine thn this λ_ s11 ⟨_,H11,I11,_,eH⟩=>?_;subst eH;exact back I11 hm w'
 have goal:rK (model X.prog X.w) X.A (.compStart (.ListComp elt [#[tg,iter,ifs,0]] scope pos) 0 (.ref it) (.ref s2⁻¹) (compEnvC scope cl s3⁻¹ X.env)) (RR (.ref s2⁻¹) s3⁻¹) s4 :=
  codeAny_compStart_list loop (T.self _ 0 s4 _ _ (by rw[<- e4];exact st4) loop)
 rw[<- es4]at goal;exact goal
theorem ZU{EX:XK}(hc:X.calm=tK)(S:jP X scope own caps ix)(hst:X.stack=X.env::X.outer/\X.env.frame=tI X.env.locals)(hxe:XE X EX)(hi:PI X tg iter wi)
  (hg:∀cl C tM s3 H3 fp,PG (yj X scope cl C (own ++ caps) tM s3 H3 fp λ_ _=>False) tg g)
  (ht:∀cl C tM s3 H3 fp xe,XE (yj X scope cl C (own ++ caps) tM s3 H3 fp xe) EX->PTs (yj X scope cl C (own ++ caps) tM s3 H3 fp xe) ifs tt)
  (he:∀cl C tM s3 H3 fp xe,XE (yj X scope cl C (own ++ caps) tM s3 H3 fp xe) EX->PE (yj X scope cl C (own ++ caps) tM s3 H3 fp xe) elt te)
  (hs:∀x,foldedSetIterable iter X.env x=pure x:=by intro _;rfl) :
  PE X (.ListComp elt [#[tg,iter,ifs,0]] scope pos) (jw wi g tt te own.length ix):=by
 intro tM s σ H Q I h;obtain⟨cl,hclos,hc1,hc2⟩:=vJ (scope:=scope) (env:=X.env) λy hy=>I.ok.has y (S.free y hy);rw[eval_ListComp];refine sk (use:=tJ) rfl hs hclos S.kind S.names (thn (hi tM s σ H _ I h) λv s1 h1=>thn h1 λitv s2 h2=>?_);obtain⟨it,fp,tn,J,H2,e,I2,T,st2,f2,q⟩:=h2;subst e;refine uI (RR:=λtO C=>compPost (model X.prog X.w) X.A X.xe tJ (EP X tM σ Q) tO C) hc S hg ht hst hxe he hc1 hc2 I2 T st2 f2 q ?_ ?_
 ·intro D C m s' H' _ hn fc I' qn;obtain⟨a0,a1,a2,a3,a4,a5⟩:=fc;exact#[m,hn,λh' sb=>#[.ref D,H',I'.turned (t':=s'.toks) (λb o hb e=>(sb.2 b hb).trans e) a0 a1 a3 a4 a5,rfl,qn]]
 ·intro D C m s' x hn hp;exact#[m,hn,hp]
theorem xeN:XE X E0:=λe s h=>by
 obtain⟨_,_,_,_,_,_,_,_,_,_,_,_,_,_,h⟩:=h;exact h.elim
theorem zcN{e:pO}{t:TE}(h:PE (X.wish λ_ _=>False) e t):PE X e t:=λtM s σ H Q I hq=>rz (thn (h tM s σ H Q (I.wish _) hq) λv s' ⟨x,H',I',r,q⟩=>#[x,H',I'.unwish,r,q])
theorem KC{t:TT}(h:PTs (X.wish λ_ _=>False) ifs t):PTs X ifs t:=λtM s σ H Q I hq=>rz (thn (h tM s σ H Q (I.wish _) hq) λv s' ⟨H',I',q⟩=>#[H',I'.unwish,q])
theorem xA(hc:X.calm=tK)(S:jP X scope own caps ix)(hi:PI X tg iter wi)
  (hg:∀cl C tM s3 H3 fp,PG (yj X scope cl C (own ++ caps) tM s3 H3 fp λ_ _=>False) tg g)
  (ht:∀cl C tM s3 H3 fp,PTs (yj X scope cl C (own ++ caps) tM s3 H3 fp λ_ _=>False) ifs tt)
  (he:∀cl C tM s3 H3 fp,PE (yj X scope cl C (own ++ caps) tM s3 H3 fp λ_ _=>False) elt te)
  (hst:X.stack=X.env::X.outer/\X.env.frame=tI X.env.locals:=by exact#[rfl,rfl]) (hs:∀x,foldedSetIterable iter X.env x=pure x:=by intro _;rfl) :
  PE X (.ListComp elt [#[tg,iter,ifs,0]] scope pos) (jw wi g tt te own.length ix) :=
 ZU hc S hst xeN hi hg (λa b c d e f _ _=>KC (ht a b c d e f)) (λa b c d e f _ _=>zcN (he a b c d e f)) hs
theorem Yz{i:Nat}{y:pL}{py spos:rB}(hN:X.N.Nodup)(hy:X.N[i]? = tI y)(hly:Loc X.env.scope y)(hf:X.fn y=tK\/X.env.scope.names.lookup y=tI .local)(hc:X.calm=tK)(S:jP X scope own caps ix)(hi:PI X tg iter wi)
  (hg:∀cl C tM s3 H3 fp,PG (yj X scope cl C (own ++ caps) tM s3 H3 fp λ_ _=>False) tg g)
  (ht:∀cl C tM s3 H3 fp,PTs (yj X scope cl C (own ++ caps) tM s3 H3 fp λ_ _=>False) ifs tt)
  (he:∀cl C tM s3 H3 fp,PE (yj X scope cl C (own ++ caps) tM s3 H3 fp λ_ _=>False) elt te)
  (hst:X.stack=X.env::X.outer/\X.env.frame=tI X.env.locals:=by exact#[rfl,rfl])
  (hsw:swapsWith (.ListComp elt [#[tg,iter,ifs,0]] scope pos) (tI (.Name y py)) spos.line X.env=pure tK:=by rfl)
  (hs:∀x,foldedSetIterable iter X.env x=pure x:=by intro _;rfl) :
  PS X (.Assign [.Name y py] (.ListComp elt [#[tg,iter,ifs,0]] scope pos) spos) (qh i (jw wi g tt te own.length ix)):=by
 intro tM s σ H D I h;obtain⟨cl,hclos,hc1,hc2⟩:=vJ (scope:=scope) (env:=X.env) λy hy=>I.ok.has y (S.free y hy);rw[exec_Assign_Name_used _ _ _ _ hsw];refine pq (rq (pq ?_));show pJ _ X.A (do let _ <- comprehension (.ListComp elt [#[tg,iter,ifs,0]] scope pos) scope X.env _ (newList []) tL (eval iter X.env) (tI (assign (.Name y py) X.env))) _ _ s;refine pq (thn (sk (use:=tI (assign (.Name y py) X.env)) (Q:=λ_ s'=>SP X tM D .next s') rfl hs hclos S.kind S.names (thn (hi tM s σ H _ I h) λv s1 h1=>thn h1 λitv s2 h2=>?_)) λ_ s' hq=>pz (pz hq));obtain⟨it,fp,tn,J,H2,e,I2,T,st2,f2,q⟩:=h2;subst e;refine uI (Q:=λx H1=>D.nx (σ.set i (tI x)) H1) (RR:=λtO C=>compPost (model X.prog X.w) X.A X.xe (tI (assign (.Name y py) X.env)) (λ_ s'=>SP X tM D .next s') tO C) hc S hg (λa b c d e f _ _=>KC (ht a b c d e f)) hst xeN (λa b c d e f _ _=>zcN (he a b c d e f)) hc1 hc2 I2 T st2 f2 q ?_ λD C m s' x hn hp=>#[m,hn,hp];intro D' C m s' H1 hD' hn fc I1 nx;obtain⟨a0,a1,a2,a3,a4,a5⟩:=fc;show pJ _ X.A (assign (.Name y py) X.env (.ref D')) _ _ s';refine sQ (Z5 I1 hN hy hly (v:=.ref D') rfl (λs'' I2' ⟨a,sb,ha⟩=>?_) hf)
 have hCa:C≠a:=by
  rcases ha with e | e
  ·rw[e];exact a1
  ·exact λz=>a4 _ _ e z.symm
 refine#[m,hn.sameBut sb hCa,λh' sb'=>#[_,H1,I2'.turned (t':=s''.toks) (λb o hb e=>(sb'.2 b hb).trans e) a0 a1 a3 a4 a5,nx]]
end
section
variable{X:Cx}{scope:rm}{own caps:List pL}{ix:()}{cl:List (pL × pE)}{tM:List (pE × rb)}{σ:St}{H:Hp}{s:pG}{fp:List pE}{E:pF->pG->Prop}
end
section
variable{X:Cx}{scope:rm}{own caps:List pL}{ix:()}{elt tg iter:pO}{ifs:List pO}{pos:rB}{wi:TI}{g:TG}{tt:TT}{te:TE}
end
section
variable{X:Cx}
end
section
variable{X:Cx}{tM:List (pE × rb)}{σ:L2.St}{H:Hp}{s:pG}
end
end L3
namespace LL
open PySem L2 L3
noncomputable def top(i:Nat):pQ:=PySem.Challenge.pw_letterlaw_k86_whole_commuting_judged.main.body.getD i (.Pass #[0,0,0,0])
noncomputable abbrev yx:pQ:=yZ (top 5) 0
noncomputable abbrev zR:pQ:=yZ (top 6) 0
noncomputable abbrev yN:pQ:=top 12
noncomputable abbrev wI:pQ:=top 13
noncomputable abbrev vp:pQ:=top 14
noncomputable abbrev KJ:pQ:=top 15
noncomputable abbrev XV:pQ:=top 17
noncomputable abbrev Zk:pQ:=top 18
noncomputable abbrev xK:pQ:=top 21
noncomputable abbrev ww:pQ:=top 22
noncomputable abbrev vg:pQ:=top 23
noncomputable abbrev xZ:pQ:=yZ (top 24) 0
noncomputable abbrev yw:pQ:=yZ (top 24) 1
noncomputable abbrev YB:pQ:=top 26
noncomputable abbrev uj:pQ:=top 27
noncomputable abbrev VI:pQ:=top 28
noncomputable abbrev jj:pQ:=top 29
noncomputable abbrev kq:pQ:=top 30
noncomputable abbrev xG:pQ:=top 31
noncomputable abbrev uq:pQ:=top 37
noncomputable abbrev wV:pQ:=top 38
noncomputable abbrev vv:pQ:=top 39
noncomputable abbrev qr:pQ:=top 40
noncomputable abbrev yC:pQ:=top 41
noncomputable abbrev xP:pQ:=top 42
noncomputable abbrev xu:pQ:=top 43
noncomputable abbrev wJ:pQ:=top 44
noncomputable abbrev qm:pQ:=top 45
noncomputable abbrev yE:pQ:=top 51
noncomputable abbrev we:pQ:=top 52
noncomputable abbrev yY:pQ:=top 53
noncomputable abbrev xN:pQ:=top 54
noncomputable abbrev uw:pQ:=top 55
noncomputable abbrev wb:pQ:=top 56
noncomputable abbrev wd:pQ:=top 63
noncomputable abbrev xo:pQ:=top 64
noncomputable abbrev wc:pQ:=top 71
noncomputable abbrev yP:pQ:=top 72
noncomputable abbrev xx:pQ:=top 73
noncomputable abbrev k8:pQ:=top 74
noncomputable abbrev wP:pQ:=yZ (top 77) 0
noncomputable abbrev xF:pQ:=yZ (top 77) 1
noncomputable abbrev wC:pQ:=yZ (top 77) 2
noncomputable abbrev xE:pQ:=yZ (top 77) 3
noncomputable abbrev xM:pQ:=yZ (top 77) 4
noncomputable abbrev yW:pQ:=yZ (top 78) 0
noncomputable abbrev yV:pQ:=yZ (top 79) 0
noncomputable abbrev yc:pQ:=yZ (top 79) 1
noncomputable abbrev Uq:pQ:=top 81
noncomputable abbrev Yq:pQ:=top 82
noncomputable abbrev qJ:pQ:=top 83
noncomputable abbrev VE:pQ:=top 84
noncomputable abbrev YX:pQ:=top 85
noncomputable abbrev YW:pQ:=top 86
noncomputable abbrev UH:pQ:=top 87
noncomputable abbrev zaN:pQ:=top 88
noncomputable abbrev Yt:pQ:=top 89
noncomputable abbrev jl:pQ:=top 90
noncomputable abbrev jO:pQ:=top 91
noncomputable abbrev kH:pQ:=top 92
noncomputable abbrev j0:pQ:=top 93
noncomputable abbrev xn:pQ:=top 94
noncomputable abbrev Jw:pQ:=top 95
noncomputable abbrev qk:pQ:=top 96
noncomputable abbrev uR:pQ:=top 97
section
variable{P:pK}{w:pM}{K:pD}{mg:pL->Option pF}{base:pP}
seal L2.PE L2.PS L2.PA L2.PT L2.PSs L2.PI L2.PG L2.PW L2.PGs
local macro_rules | `($a<<<$b)=>`(Df $(Lean.mkIdent `P) $(Lean.mkIdent `w) $(Lean.mkIdent `K) $(Lean.mkIdent `mg) $(Lean.mkIdent `base) CX0 $a $b)
local macro_rules | `($a>>>$b)=>`(Df $(Lean.mkIdent `P) $(Lean.mkIdent `w) $(Lean.mkIdent `K) $(Lean.mkIdent `mg) $(Lean.mkIdent `base) (CXx $(Lean.mkIdent `P) $(Lean.mkIdent `w)) $a $b)
local macro_rules | `($a&&&$b)=>`(FnOk $(Lean.mkIdent `P) $(Lean.mkIdent `w) $(Lean.mkIdent `K) $(Lean.mkIdent `mg) $(Lean.mkIdent `base) CX0 $a $(Lean.mkIdent `f) $(Lean.mkIdent `fd) $b)
local macro_rules | `($a|||$b)=>`(FnOk $(Lean.mkIdent `P) $(Lean.mkIdent `w) $(Lean.mkIdent `K) $(Lean.mkIdent `mg) $(Lean.mkIdent `base) (CXx $(Lean.mkIdent `P) $(Lean.mkIdent `w)) $a $(Lean.mkIdent `f) $(Lean.mkIdent `fd) $b)
local macro_rules | `(!!$a)=>`(tI (.ref $a))
local macro_rules | `(~~~$a)=>`(tI (.str (tx $a)))
local macro_rules | `(-~~~$a)=>`(tI (.int (($a):Nat)))
local macro_rules | `(~~~!$a)=>`(tI (.int $a))
local macro_rules | `($a^^^$b)=>`(Fun $(Lean.mkIdent `K) $a $a $b $(Lean.mkIdent `f) $(Lean.mkIdent `fd))
noncomputable abbrev sQz(n:Nat)(a:List PySem.Str)(s:PySem.Stmt):=zk a (a.take n) (zh s)
local macro_rules | `(tactic| rfl')=>do
 let A0←("zdR zee zdv zd4 zdl zdZ zdr zeb zd5 zd0 KT zao zdi zdE zd2 zdH zeh K1 KM zaL zax zaV za7 zaq zas zaO zdI zed zdS zd3 zds zdD zef zdy za3 za5 zaa zaX KQ zaR zba za0".splitOn " ").toArray.mapM fun s=>`(Lean.Parser.Tactic.simpLemma| ↓$(Lean.mkIdent s.toName):ident)
 let A1←("zdg QK za4 zde Um tOp tUn tC uu zK wn tCB zbq yS JN zbn tOr QQ U7 ZR tIf rI rI0 rU rGe zcv qO za6 zbj zcC zbL tSl Zj Jt Uj zbN tBM zbf KN L2.start zd9 cxK cxP cxW ar aL ay aT bL dX Nat.reduceAdd Nat.reduceSub cK dv bc be aU aY vn eM eN".splitOn " ").toArray.mapM fun s=>`(Lean.Parser.Tactic.simpLemma| $(Lean.mkIdent s.toName):ident)
 let A2←("zcl J7 J4 J0 zeq zdR zee zdv zd4 zdl zdZ zdr zeb zd5 zd0 KT zao zdi zdE zd2 zdH zeh K1 KM zaL zax zaV za7 zaq zas zaO zdI zed zdS zd3 zds zdD zef zdy za3 za5 zaa zaX KQ zaR zba za0".splitOn " ").toArray.mapM fun s=>`(Lean.Parser.Tactic.simpLemma| ↓$(Lean.mkIdent s.toName):ident)
 let A3←("zdg vn eM eN rU qh J6 zco zcH QK za4 zde Um tOp tUn Ur tC uu zK wn tCB zbq yS JN zbn tOr QQ U7 ZR tIf rI rI0 rEq_is rNe_is zcv qO za6 zcC zbL zbj tSl Zj Jt rGe decide_false decide_true Prod.mk.injEq rLen_is zb6 zdb XJ YR tyV tBM if_true if_false bB decide_eq_true_eq decide_eq_false_iff_not dz d8 fk lt1 Uj zbN zaH jz zaF YQ Yn zcI zbC zbS zcs zce zcz Value.ref.injEq L2.start zcL zck zeM zeG zep zbW zex zbf KN zeD W6 zcJ zbp zdT kX UN Zm wQ YH zS zd9 JV zbF cxK cxP cxW ar aL ay aT bL dX Nat.reduceAdd Nat.reduceSub and_assoc zcK exists_eq exists_eq' exists_eq_left' exists_eq_left exists_eq_right exists_eq_right' exists_and_left exists_and_right V.int.injEq V.ref.injEq V.str.injEq V.bl.injEq V.ty.injEq reduceCtorEq false_and and_false true_and and_true or_false false_or exists_false exists_const cK dv Option.some.injEq bc be List.cons.injEq aG aU aY JU Ko JX Kk".splitOn " ").toArray.mapM fun s=>`(Lean.Parser.Tactic.simpLemma| $(Lean.mkIdent s.toName):ident)
 `(tactic| first | (dsimp only[$A0,*,$A1,*];try simp only[$A2,*,$A3,*]) | simp only[$A2,*,$A3,*])
local macro_rules | `(tactic| ac_rfl)=>do
 let A0←("yk zv zH yq ym zu".splitOn " ").toArray.mapM fun s=>`(Lean.Parser.Tactic.simpLemma| $(Lean.mkIdent s.toName):ident)
 `(tactic| repeat (first | rfl' | simp only[$A0,*]))
theorem xe0{X:Cx}:XE X E0:=λe s h=>by
 obtain⟨_,_,_,_,_,_,_,_,_,_,_,_,_,_,h⟩:=h;exact h.elim
def jq(l:()):Prop:=∀c ∈ l,97<=c/\c<=122
noncomputable instance (l:()):Decidable (jq l):=by unfold jq;infer_instance
noncomputable def YJ(l:()):Bool:=decide (1<=l.length/\l.length<=6/\jq l/\l.Nodup)
def k9:Sp:=λvs H Q _=>∃c:Nat,vs=[.str (tx [c])]/\Q (.bl (decide (97<=c/\c<=122))) H
theorem Qv:sQz 1 ["sign"] yN:=by nofun
theorem Q1{f:pE}{fd:pH}(F:("is_small_letter"^^^yN)):(1&&&["sign"]) k9:=by
 exists F.ok Qv
 ·obtain⟨c,rfl,q⟩:=h;refine#[_,(zg (zm (Qz ve ve zX (pv 0) zX))),?_];have ea:cs (("a" : pL))=[97]:=rfl;have ez:cs (("z" : pL))=[122]:=rfl
  rfl'
  erw[ea,ez,YH,lt1]
  refine yM (λh=>?_) λh=>?_
  ·have e:decide (97<=c/\c<=122)=!decide (122<c):=by
    by_cases h2:122<c
    ·rw[decide_eq_true h2,decide_eq_false ⋯];rfl
    ·rw[decide_eq_false h2,decide_eq_true ⋯];rfl
   rw[e]at q;exact q
  ·rw[decide_eq_false ⋯]at q;exact q
structure zeH(K:pD)(mg:pL->Option pF)(C:pE):Prop where
 xi:XI K C
 ini:ag K (.ref C) "__init__" = tI (tI (.builtin "ValueError.__init__"))
 g:mg "NoLetters" = tI (.ref C)
 most:∃t,mg "MOST_LETTERS" = tI (.int 6 t)
def vI(C:pE):Sp:=λvs H Q E=>∃l:(),vs=[.str (tx l)]/\l.length<=1000/\(YJ l=tK->Q (.str (tx l)) H)/\(YJ l=tL->E (.ref C) tJ H)
theorem mx:sQz 1 ["text","sign"] wI:=by nofun
theorem j4{f C:pE}{fd:pH}(B:Bt mg)(T:zeH K mg C)(F:("letters_of"^^^wI))(Ds:(1<<<"is_small_letter") ["sign"] [] k9):(2|||["text"]) (vI C):=by
 exists Fun.okX F mx,0
 ·obtain⟨l,rfl,hl,q1,q2⟩:=h;obtain⟨t6,g6⟩:=T.most
  refine#[_,(zJ (zM (ye (kJ ve ve ze (zG B.len (pv 0)) (yl (v:=.int 6) rfl g6 #[t6,rfl])))
    (zg (yu hx rfl T.xi.toXC T.ini rfl T.g (za zX zf)))
    zw)
   (zJ (yh PassesOwn.leaving rfl (Wq (pv 0)) (zy (i:=1) mx.nd rfl (.inl rfl))
    (zJ (zM (ye (X5 (cl0 Ds hr .nil rfl (za (pv 1) zf)) (λ_=>rfl)))
     (zg (yu hx rfl T.xi.toXC T.ini rfl T.g (za zX zf)))
     zw)
    (zg (zM (zA Qh (va bJ dC dD Y9 (pv 0) (za (pv 1) zf)) ze (zC _))
     (zg (yu hx rfl T.xi.toXC T.ini rfl T.g (za zX zf)))
     zw))))
   (zg (zm (pv 0))))),?_]
  have s16:=z6
  rfl'
  have bad:(¬ (1<=l.length/\l.length<=6/\jq l/\l.Nodup))->∀H':Hp,H'=H->E (.ref C) tJ H':=λh H' e=>by
   rw[e];exact q2 (decide_eq_false h)
  refine#[⋯,yM (λc=>yM (λc2=>#[⋯,bad (λh=>by have:=h.2.1;lia) H rfl]) (λc2=>?_)) (λc=>#[⋯,bad (λh=>by have:=h.1;lia) H rfl])];refine ForS.by (λi σ H'=>H'=H/\∃v,σ=[~~~l,v]/\jq (l.take i)/\∀c ∈ l.take i,l.count c<=1) #[rfl,tJ,rfl,λc h=>absurd h (by simp),λc h=>absurd h (by simp)] ?_ ?_
  ·refine nm4 ?_;rintro i c σ H' hg ⟨eH,v,rfl,hs,hn⟩:_;have hc:=ae hg;right
   rfl'
   erw[k9]
   rfl'
   refine yM (λh=>#[⋯,bad (λz=>by have:=z.2.2.1 c hc;lia) _ eH]) (λh=>yM (λh2=>#[⋯,bad (λz=>?_) _ eH]) (λh2=>#[eH,?_,?_]))
   ·have:=Ao.mp z.2.2.2 c;lia
   ·rw[zO hg];intro x hx;rcases tS.mp hx with q | q
    ·exact hs x q
    ·have:x=c:=by simpa using q
     subst this;lia
   ·rw[zO hg];intro x hx;rcases tS.mp hx with q | q
    ·exact hn x q
    ·have:x=c:=by simpa using q
     subst this;lia
  ·rintro σ H' ⟨eH,v,rfl,hs,hn⟩;rw[aP]at hs hn
   rfl'
   rw[eH];refine q1 (decide_eq_true #[⋯,⋯,hs,Ao.mpr λc=>?_]);by_cases hc:c ∈ l
   ·exact hn c hc
   ·rw[Ap.mpr hc];lia
noncomputable def zt(l:())(k:Int)(p:()):Bool:=decide (0<=k/\k+p.length<=l.length/\(l.drop k.toNat).take p.length=p)
def wA:Sp:=λvs H Q _=>∃(l p:()) (k:Int),vs=[.str (tx l),.int k,.str (tx p)]/\l.length<=10000/\p.length<=10000/\Q (.bl (zt l k p)) H
theorem kB{l p:()}{k:Int}{H:Hp}{Q:VK}{E:XK}(h1:l.length<=10000)(h2:p.length<=10000)(h:Q (.bl (zt l k p)) H):wA [.str (tx l),.int k,.str (tx p)] H Q E:=#[l,p,k,rfl,h1,h2,h]
theorem Zn:sQz 3 ["word","place","part"] vp:=by nofun
theorem ZH{f:pE}{fd:pH}(B:Bt mg)(F:("stands_at"^^^vp)):(1&&&["word","place","part"]) wA:=by
 exists F.ok Zn
 ·obtain⟨l,p,k,rfl,hl,hp,q⟩:=h
  refine#[_,(zJ (zM (ye (kJ ve ve ze (pv 1) (zx jI (zG B.len (pv 0)) (zG B.len (pv 2)))))
    (zg (zm xO))
    zw)
   (zg (zm (yK wf (z7 xB (pv 0) (yb (pv 1)) (yb (zx yB (pv 1) (zG B.len (pv 2))))) (pv 2) (zC _))))),?_]
  have s16:=z6
  rfl'
  have no:¬ (0<=k/\k+p.length<=l.length/\(l.drop k.toNat).take p.length=p)->Q (.bl tL) H:=λh=>by
   have e:zt l k p=tL:=decide_eq_false h;rw[e]at q;exact q
  refine yM (λh0=>#[⋯,⋯,yM (λh1=>no λh=>absurd h.2.1 ⋯) λh1=>#[⋯,⋯,?_]]) λh0=>no λh=>h0 h.1;rw[Y3 _ h0 ⋯ ⋯];have e:(k+(p.length:Int) - k).toNat=p.length:=⋯;rw[e]
  have e2:zt l k p=decide ((l.drop k.toNat).take p.length=p):=by
   unfold zt;exact decide_eq_decide.mpr #[λh=>h.2.2,λh=>#[h0,⋯,h]]
  rw[<- e2];exact q
noncomputable def yH(l:())(k:Int)(o n:()):():=l.take k.toNat ++ n ++ l.drop (k.toNat+o.length)
theorem zW{l o:()}{k:Int}(h:zt l k o=tK):l.take k.toNat ++ o ++ l.drop (k.toNat+o.length)=l/\(l.take k.toNat).length=k.toNat/\0<=k/\k+o.length<=l.length:=by
 unfold zt at h;rw[decide_eq_true_eq]at h;obtain⟨h0,h1,h2⟩:=h;refine#[?_,by rw[aF];lia,h0,h1]
 have e:l.drop k.toNat=o ++ l.drop (k.toNat+o.length):=by
  have:=cy o.length (l.drop k.toNat);rw[h2,fm]at this;exact this.symm
 rw[aK,<- e,cy]
theorem Xj{l o:()}{k:Int}(n:())(h:zt l k o=tK):zt (yH l k o n) k n=tK/\yH (yH l k o n) k n o=l:=by
 obtain⟨e,hl,h0,h1⟩:=zW h
 have e1:(yH l k o n).take k.toNat=l.take k.toNat:=by
  unfold yH;rw[aK,bw ⋯,bh ⋯]
 have e2:(yH l k o n).drop k.toNat=n ++ l.drop (k.toNat+o.length):=by
  unfold yH;rw[aK,cq ⋯,bi ⋯,aU]
 have e3:(yH l k o n).length=l.length - o.length+n.length:=by
  unfold yH
  erw[ah,aW,hl]
  lia
 refine#[?_,?_]
 ·unfold zt;refine decide_eq_true #[h0,⋯,?_];rw[e2,bw ⋯,bh ⋯]
 ·show (yH l k o n).take k.toNat ++ o ++ (yH l k o n).drop (k.toNat+n.length)=l;rw[e1,<- fm,e2,cq ⋯,bi ⋯,aU];exact e
theorem zbg{l o n:()}{k:Int}(h0:0<=k):cut l tJ (tI k) ++ n ++ cut l (tI (k + ↑o.length)) tJ=yH l k o n:=by
 rw[jG _ h0,wS _ ⋯];have:(k+(o.length:Int)).toNat=k.toNat+o.length:=⋯;rw[this];rfl
structure TNU(K:pD)(mg:pL->Option pF)(C:pE):Prop where
 xi:XI K C
 g:mg "NoUse" = tI (.ref C)
 na:NoAttr K C "at"
theorem kz:sQz 2 ["self","at"] yx:=by nofun
theorem kC{f C:pE}{fd:pH}(T:TNU K mg C)(F:Fun K "__init__" "NoUse.__init__" yx f fd):(1&&&["self","at"]) (vV C "at"):=by
 exists F.ok kz
 ·obtain⟨x,v,rfl,hx,q⟩:=h;refine#[_,(zg (Vv (pv 0) (pv 1) rfl)),?_]
  erw[zan]
  rfl'
  exact#[C,hx,T.xi.toXC,T.na,q]
structure DNU(P:pK)(w:pM)(K:pD)(mg:pL->Option pF)(base:pP)(C:pE):Prop extends TNU K mg C where
 ini:∃f fd,ag K (.ref C) "__init__" = tI (tI (.ref f))/\bj K (.ref f)=tK/\(1&&&["self","at"]) (vV C "at")/\Binds K fd ["self","at"] []
def Wt(C:pE):Sp:=λvs H Q E=>∃(l o n:()) (k:Int),vs=[.str (tx l),.int k,.str (tx o),.str (tx n)]/\l.length<=10000/\o.length<=10000/\n.length<=10000/\(zt l k o=tK->Q (.str (tx (yH l k o n))) H)/\(zt l k o=tL->∀d H',zdV H d "at" (.int 0) H'->E (.ref C) (tI d) H')
theorem zcZ:sQz 4 ["word","place","old","new"] KJ:=by nofun
theorem zc7{f C:pE}{fd:pH}(B:Bt mg)(T:DNU P w K mg base C)(F:("put"^^^KJ))(oy:(1<<<"stands_at") ["word","place","part"] [] wA):(3|||["word","place","old","new"]) (Wt C):=by
 obtain⟨fi,fdi,hi,hfn,Fi,Bi⟩:=T.ini
 exists Fun.okX F zcZ,0
 ·obtain⟨l,o,n,k,rfl,hl,ho,hn,q1,q2⟩:=h
  refine#[_,(zJ (zM (ye (X5 (cl0 oy hr .nil rfl (za (pv 0) (za (pv 1) (za (pv 2) zf)))) (λ_=>rfl)))
    (zg (Yg hx rfl T.xi.toXC hi hfn Fi hr Bi rfl T.g (za ze zf)))
    zw)
   (zg (zm (zx zQ (zx zQ (z7 xB (pv 0) yT (yb (pv 1))) (pv 3)) (z7 xB (pv 0) (yb (zx yB (pv 1) (zG B.len (pv 2)))) yT))))),?_]
  have s16:=z6
  rfl'
  refine kB hl ho ?_
  rfl'
  refine yM (λhb=>#[⋯,UD (q2 hb)]) λhb=>?_;have hb':zt l k o=tK:=by simpa using hb
  obtain⟨_,_,h0,h1⟩:=zW hb';have c1:=wG l tJ (tI k);have c2:=wG l (tI (k + ↑o.length)) tJ;refine#[⋯,⋯,⋯,⋯,?_,?_]
  ·erw[ah]
   lia
  ·have e:cut l tJ (tI k) ++ n ++ cut l (tI (k + ↑o.length)) tJ=yH l k o n:=by
    rw[jG _ h0,wS _ ⋯];have:(k+(o.length:Int)).toNat=k.toNat+o.length:=⋯;rw[this];rfl
   rw[e];exact q1 hb'
structure TOrd(K:pD)(mg:pL->Option pF)(CO CR CW:pE):Prop where
 cO:Cls K CO
 cR:Cls K CR
 cW:Cls K CW
 gO:mg "Order" = tI (.ref CO)
 gR:mg "FromRight" = tI (.ref CR)
 gW:mg "ByWeights" = tI (.ref CW)
 lO:NoAttr K CO "letters"
 lR:NoAttr K CR "letters"
 lW:NoAttr K CW "letters"
 wW:NoAttr K CW "weights"
def OrdAt(CO CR CW:pE)(H:Hp)(o:pE)(k:Nat)(l:())(ns:List Int):Prop:=∃dx,(k=0/\H o=tI (.ins CO dx [("letters",.str (tx l))]))\/(k=1/\H o=tI (.ins CR dx [("letters",.str (tx l))])) \/
 (k=2/\ns.length=l.length/\∃w,H o=tI (.ins CW dx [("letters",.str (tx l)),("weights",.ref w)])/\H w=tI (.tup (ns.map V.int)))
theorem OrdAt.same{CO CR CW:pE}{H H':Hp}{o:pE}{k:Nat}{l:()}{ns:List Int}(h:OrdAt CO CR CW H o k l ns)(e:Same H H'):OrdAt CO CR CW H' o k l ns:=by
 obtain⟨dx,⟨h1,h2⟩ | ⟨h1,h2⟩ | ⟨h1,h2,w,h3,h4⟩⟩:=h
 ·exact#[dx,.inl #[h1,e _ _ h2]]
 ·exact#[dx,.inr (.inl #[h1,e _ _ h2])]
 ·exact#[dx,.inr (.inr #[h1,h2,w,e _ _ h3,e _ _ h4])]
noncomputable def W5(l:())(ns:List Int)(w:()):Int:=((l.zip ns).map λp=>(w.count p.1:Int) * p.2).sum
noncomputable def zr(k:Nat)(l:())(ns:List Int)(w:()):Int:=if k=2 then W5 l ns w else (w.length:Int)
noncomputable def y0(k:Nat)(w:()):():=if k=1 then w.reverse else w
def qb(K:pD):Sp:=λvs H Q _=>∃(x C dx:pE) (l:()),vs=[.ref x,.str (tx l)]/\YJ l=tK/\Cls K C/\NoAttr K C "letters"/\H x=tI (.ins C dx [])/\Q .non (upd H x (.ins C dx [("letters",.str (tx l))]))
theorem kG:sQz 2 ["self","letters"] wP:=by nofun
theorem wk{f:pE}{fd:pH}(B:Bt mg)(F:Fun K "__init__" "Order.__init__" wP f fd)(oj:(2>>>"letters_of") ["text"] [] (vI C)):(3&&&["self","letters"]) (qb K):=by
 exists F.ok kG
 ·obtain⟨x,C,dx,l,rfl,hg,hC,hN,hx,q⟩:=h;refine#[_,(zg (XO (pv 0) (clP xe0 oj hr .nil rfl (za (pv 1) zf)) rfl)),?_];have s16:=z6
  rfl'
  exact#[l,rfl,by have:=of_decide_eq_true hg;lia,λ_=>#[_,_,_,hx,hC,hN,∅,q],λe=>by rw[hg]at e;cases e]
def kR:Sp:=λvs H Q _=>∃(o:pE) (w:()),vs=[.ref o,.str (tx w)]/\w.length<=1000/\Q (.int (w.length:Nat)) H
theorem qv:sQz 2 ["self","word"] xF:=by nofun
theorem wz{f:pE}{fd:pH}(B:Bt mg)(F:Fun K "weight" "Order.weight" xF f fd) :(1&&&["self","word"]) kR:=by
 exists F.ok qv
 ·obtain⟨o,w,rfl,hw,q⟩:=h;refine#[_,(zg (zm (zG B.len (pv 1)))),?_];have s16:=z6
  rfl'
  exact#[⋯,q]
def Xh:Sp:=λvs H Q _=>∃(o:pE) (w:()),vs=[.ref o,.str (tx w)]/\Q (.str (tx w)) H
theorem ko:sQz 2 ["self","word"] wC:=by nofun
theorem vQ{f:pE}{fd:pH}(B:Bt mg)(F:Fun K "seen" "Order.seen" wC f fd) :(1&&&["self","word"]) Xh:=by
 exists F.ok ko
 ·obtain⟨o,w,rfl,q⟩:=h;refine#[_,(zg (zm (pv 1))),?_];have s16:=z6
  rfl'
  exact q
def YK:Sp:=λvs H Q _=>∃(o:pE) (w:()),vs=[.ref o,.str (tx w)]/\w.length<=1000/\Q (.str (tx w.reverse)) H
theorem ug:sQz 2 ["self","word"] yW:=by nofun
theorem uo{f:pE}{fd:pH}(B:Bt mg)(F:Fun K "seen" "FromRight.seen" yW f fd) :(1&&&["self","word"]) YK:=by
 exists F.ok ug
 ·obtain⟨o,w,rfl,hw,q⟩:=h;refine#[_,(zg (zm (zaW (pv 1) (zen zbX ze)))),?_];have s16:=z6;ac_rfl;exact#[⋯,q]
structure zeK(K:pD)(mg:pL->Option pF)(C:pE):Prop where
 xi:XI K C
 ini:ag K (.ref C) "__init__" = tI (tI (.builtin "ValueError.__init__"))
 g:mg "NoOrder" = tI (.ref C)
 most:∃t,mg "MOST_WEIGHT" = tI (.int 1000000 t)
abbrev DOI(P:pK)(w:pM)(K:pD)(mg:pL->Option pF)(base:pP)(CO:pE):Prop:=DC P w K mg base CX0 3 CO "__init__" ["self","letters"] (qb K)
def jZ(K:pD)(CW:pE):Sp:=λvs H Q _=>∃(x dx a:pE) (l:()) (ns:List Int),vs=[.ref x,.str (tx l),.ref a]/\YJ l=tK/\SqL K H a (ns.map V.int)/\ns.length=l.length/\(∀n ∈ ns,1<=n/\n<=1000000)/\H x=tI (.ins CW dx []) /\
 ∀w H',H w=tJ->w≠x->(∀b o,b≠x->H b=tI o->H' b=tI o)->H' w=tI (.tup (ns.map V.int))->H' x=tI (.ins CW dx [("letters",.str (tx l)),("weights",.ref w)])->Q .non H'
theorem lA:sQz 3 ["self","letters","weights","weight"] yV:=by nofun
theorem ux{f CO CR CW CN:pE}{fd:pH}(B:Bt mg)(T:TOrd K mg CO CR CW)(TN:zeK K mg CN)(DI:DOI P w K mg base CO)(F:Fun K "__init__" "ByWeights.__init__" yV f fd) :(4|||["self","letters","weights"]) (jZ K CW):=by
 obtain⟨t6,g6⟩:=TN.most
 exists Fun.okX F lA,0
 ·obtain⟨x,dx,a,l,ns,rfl,hg,hS,hl,hb,hX,q⟩:=h
  refine#[_,(zi (xJ (KW DI hr rfl T.gO (za (pv 0) (za (pv 1) zf))))
   (zi (zM (zA Yr (zG B.len (pv 2)) (zG B.len (pv 1)) (zC _))
    (zg (yu hx rfl TN.xi.toXC TN.ini rfl TN.g (za zX zf)))
    zw)
   (zi (yh PassesOwn.leaving rfl (yJ (pv 2)) (zy (i:=3) lA.nd rfl (.inl rfl))
    (zg (zM (ye (kJ ve ve ze (pv 3) (yl (v:=.int 1000000) rfl g6 #[t6,rfl])))
     (zg (yu hx rfl TN.xi.toXC TN.ini rfl TN.g (za zX zf)))
     zw)))
   (zg (XO (pv 0) (xV Zf rfl B.tuple PySem.Pv.boot_tuple (za (pv 2) zf)) rfl))))),?_]
  have s16:=z6;have hbx:∀b o,b≠x->H b=tI o->upd H x (.ins CW dx [("letters",.str (tx l))]) b=tI o:=λb o hb e=>by rw[zo hb];exact e
  have hS1:SqL K (upd H x (.ins CW dx [("letters",.str (tx l))])) a (ns.map V.int):=by
   rcases hS with (h | ⟨o,h⟩) | h
   ·exact .inl (.inl (hbx _ _ (λe=>by rw[e,hX]at h;cases h) h))
   ·exact .inl (.inr #[o,hbx _ _ (λe=>by rw[e,hX]at h;cases h) h])
   ·exact .inr h
  refine zj (λσ H'=>H'=upd H x (.ins CW dx [("letters",.str (tx l))])/\σ=[!!x,~~~l,!!a,tJ]) ?_ ?_
  ·ac_rfl;exact#[x,CW,dx,l,rfl,hg,T.cW,T.lW,hX,rfl]
  rintro σ H1 ⟨rfl,rfl⟩:_;right;refine zj (λσ H'=>H'=upd H x (.ins CW dx [("letters",.str (tx l))])/\σ=[!!x,~~~l,!!a,tJ]) ?_ ?_
  ·have hl6:l.length<=6:=by have:=of_decide_eq_true hg;lia
   ac_rfl;refine#[ns.length,.inl #[_,hS1,by rw[af]],⋯,yM (λh=>absurd ⋯ h) λ_=>trivial]
  rintro σ H1 ⟨rfl,rfl⟩:_;right;refine zj (λσ H'=>H'=upd H x (.ins CW dx [("letters",.str (tx l))])/\∃v3,σ=[!!x,~~~l,!!a,v3]) ?_ ?_
  ·ac_rfl;refine#[#[_,hS1],ForL.by (xs:=ns.map V.int) (λi σ H'=>H'=upd H x (.ins CW dx [("letters",.str (tx l))])/\∃v3,σ=[!!x,~~~l,!!a,v3]) #[rfl,tJ,rfl] (λi σ H' _ h=>by rw[h.1];exact hS1) ?_ λσ H' h=>h];refine nm4 ?_;rintro i y σ H' hy ⟨rfl,v3,rfl⟩:_;rw[aA]at hy;obtain⟨n,hn,rfl⟩:=tW.mp hy;obtain⟨n1,n2⟩:=hb n (ae hn);right;ac_rfl;exact yM (λ_=>yM (λh=>absurd n2 h) λ_=>trivial) λh=>absurd n1 h
  rintro σ H1 ⟨rfl,v3,rfl⟩:_;right;ac_rfl;refine#[_,.inl #[hS1,λw hw=>?_]];have hwx:w≠x:=λe=>by rw[e,zc]at hw;cases hw
  have hwH:H w=tJ:=by rw[zo hwx]at hw;exact hw
  have hX2:=zd (o:=.tup (ns.map V.int)) hw _ _ (zc (H:=H) (a:=x) (o:=.ins CW dx [("letters",.str (tx l))]));refine#[_,_,_,hX2,T.cW,T.wW,by show 1<1000;decide,q w _ hwH hwx (λb o hb' e=>?_) ?_ zc]
  ·rw[zo hb'];exact zd hw _ _ (hbx b o hb' e)
  ·rw[zo hwx];exact zc
theorem Kx{x y:V}{r:L2.St}:yU (tJ::tJ::r) (tI x::tI y::r):=#[rfl,λi v h=>by
 cases i with
 | zero=>cases h
 | succ i =>
  cases i with
  | zero=>cases h
  | succ i=>exact h]
def Y1(CW:pE):Sp:=λvs H Q _=>∃(o dx t:pE) (w l:()) (ns:List Int),vs=[.ref o,.str (tx w)]/\w.length<=1000/\l.length<=6/\ns.length=l.length/\(∀n ∈ ns,1<=n/\n<=1000000)/\H o=tI (.ins CW dx [("letters",.str (tx l)),("weights",.ref t)])/\H t=tI (.tup (ns.map V.int))/\∀H',Same H H'->Q (.int (W5 l ns w)) H'
theorem vx:sQz 2 ["self","word"] yc:=by nofun
theorem vm{f CO CR CW:pE}{fd:pH}(B:Bt mg)(T:TOrd K mg CO CR CW)(F:Fun K "weight" "ByWeights.weight" yc f fd) :(1&&&["self","word"]) (Y1 CW):=by
 exists F.ok vx
 ·obtain⟨o,dx,t,w,l,ns,rfl,hw,hl,hn,hb,ho,ht,q⟩:=h;refine#[_,(zg (zm (wg (zdu rfl) rfl B.sum PyProof.Rows.boot_sum (za (xA (g:=zaH K 2 (jz (yS 0) (jz (yS 1) zaF))) (own:=["letter","weight"]) (caps:=["word"]) (ix:=[1]) (tt:=wU) (te:=(tOp QV (tBM K "str" XJ (yf 2) (zK (yf 0) wn)) (yf 1))) rfl (zL (sc:=zh yc) rfl (by symm) (by symm) (by symm) rfl (by symm) (by symm) rfl) (zbs rfl B.zip (za (jC (pv 0) rfl) (za (jC (pv 0) rfl) zf))) (λ_ _ _ _ _ _=>uJ (n:=2) rfl (zZ (zy (i:=0) (show List.Nodup [_,_,_] by decide) rfl (.inl rfl)) (zZ (zy (i:=1) (show List.Nodup [_,_,_] by decide) rfl (.inl rfl)) wy))) (λ_ _ _ _ _ _=>yv) (λ_ _ _ _ _ _=>(zx Xd (va bJ dC dD Y9 (pv 2) (za (pv 0) zf)) (pv 1)))) zf)))),?_];have s16:=z6;ac_rfl;refine#[_,_,_,ho,T.cW,T.lW,_,rfl,_,_,_,ho,T.cW,T.wW,_,rfl,l,rfl,t,rfl,#[_,SqT.of ht],λD hD=>CompZ.by (ys:=ns.map V.int) (λi tO H'=>Same H H'/\H' D=tI (.lst tO)/\tO=((((l.zip ns).map λp=>(w.count p.1:Int) * p.2).take i).map V.int)) (by rw[af];lia) #[zd hD,zc,rfl] (λi tO H' _ h=>SqT.of (h.1 _ _ ht)) ?_ ?_]
  ·rintro i c y tO H' p hc hy ⟨hs,hH,rfl⟩ hp;have hi:=(tP.mp hc).1;rw[aA]at hy;obtain⟨n,hn',rfl⟩:=tW.mp hy
   have hz:((l.zip ns).map λp=>(w.count p.1:Int) * p.2)[i]? = tI ((w.count c:Int) * n):=by
    rw[aA,(List.getElem?_zip_eq_some (z:=(c,n))).mpr #[hc,hn']];rfl
   obtain⟨n1,n2⟩:=hb n (ae hn');have hcl:w.count c<=w.length:=dN;have hcn:(w.count c:Int) * n=(w.count c:Int) * n:=rfl
   erw[wU]
   ac_rfl;refine#[_,SqT.of zc,rfl,_,_,rfl,_,_,rfl,rfl,Kx,_,rfl,_,rfl,?_,zd hp _ _ hH,by rw[af,aF];lia,?_]
   ·exact .inr #[⋯,⋯]
   ·rw[YR];refine CNx.mk hi #[zD (hs.trans (zd hp)) hD,zc,?_];rw[zO hz,au];rfl
  ·rintro tO H' ⟨hs,hH,rfl⟩;have e:l.length=((l.zip ns).map λp=>(w.count p.1:Int) * p.2).length:=by rw[af,List.length_zip];lia
   refine#[D,rfl,_,SqL.of hH,?_];rw[e,aP];exact q _ hs
theorem zdz(l:())(c e:Nat):StrLaws.At (tx l) (tx [c]) (tx l).length e ↔ l[e]? = tI c:=by
 unfold StrLaws.At Builtin.Str.subAt;rw[zS,zS];have h1:[c].length=1:=rfl;rw[h1,beq_iff_eq]
 have e1:((tx l).cps.extract e (e+1)).toList=(l.drop e).take 1:=by
  show (l.toArray.extract e (e+1)).toList=_;simp [eC]
 have e2:((tx l).cps.extract e (e+1)=(tx [c]).cps) ↔ (l.drop e).take 1=[c]:=by
  constructor
  ·intro h;rw[<- e1,h]
  ·intro h;apply Array.toList_inj.mp;rw[e1,h]
 constructor
 ·rintro⟨h2,h3⟩;have:=e2.mp h3;rw[aS ⋯,db,bD]at this;rw[aj ⋯];injection this with h _;rw[h]
 ·intro h;obtain⟨he,hx⟩:=tP.mp h;refine#[⋯,e2.mpr ?_];rw[aS he,db,bD,hx]
theorem zca{l:()}{c:Nat}(h:c ∈ l):Txt.find (tx l) (tx [c])=((l.idxOf c:Nat):Int):=by
 have hlt:=ba h;have hg:l[l.idxOf c]? = tI c:=by rw[aj hlt,bP]
 rcases PyProof.Rows.find_whole (tx l) (tx [c])with ⟨h1,h2⟩ | ⟨e,h1,h2,h3⟩
 ·exact absurd ((zdz l c _).mpr hg) (h2 _)
 ·have he:=(zdz l c e).mp h2
  have:e=l.idxOf c:=by
   rcases eg e (l.idxOf c)with q | q | q
   ·have:=List.not_of_lt_findIdx (p:=(· == c)) q;obtain⟨h4,h5⟩:=tP.mp he;simp [h5]at this
   ·exact q
   ·exact absurd ((zdz l c _).mpr hg) (h3 _ q)
  rw[h1,this]
abbrev MkO(P:pK)(w:pM)(K:pD)(mg:pL->Option pF)(base:pP)(C:pE):Prop:=DMk P w K mg base CX0 3 C ["self","letters"] (qb K)
abbrev MkW(P:pK)(w:pM)(K:pD)(mg:pL->Option pF)(base:pP)(C:pE):Prop:=DMk P w K mg base (CXx P w) 4 C ["self","letters","weights"] (jZ K C)
abbrev MW(P:pK)(w:pM)(K:pD)(mg:pL->Option pF)(base:pP)(C:pE)(m:pL)(sp:Sp):Prop:=DM P w K mg base CX0 1 C m ["self","word"] sp
structure TWS(P:pK)(w:pM)(K:pD)(mg:pL->Option pF)(base:pP)(CO CR CW:pE):Prop extends TOrd K mg CO CR CW where
 mO:MkO P w K mg base CO
 mR:MkO P w K mg base CR
 mW:MkW P w K mg base CW
 wO:MW P w K mg base CO "weight" kR
 wR:MW P w K mg base CR "weight" kR
 wW':MW P w K mg base CW "weight" (Y1 CW)
 sO:MW P w K mg base CO "seen" Xh
 sR:MW P w K mg base CR "seen" YK
 sW:MW P w K mg base CW "seen" Xh
structure OG(l:())(ns:List Int)(k:Nat):Prop where
 g:YJ l=tK
 k3:k<3
 nl:ns.length=l.length
 nb:∀n ∈ ns,1<=n/\n<=1000000
noncomputable def jn(l:())(w:()):List Int:=w.map λc=>((l.idxOf c:Nat):Int)
noncomputable def uW(k:Nat)(l:())(w:()):List Int:=jn l (y0 k w)
def zb3(CO CR CW:pE):pE->Prop:=λC=>C=CO\/C=CR\/C=CW
theorem OrdAt.fam{CO CR CW:pE}{H:Hp}{o:pE}{k:Nat}{l:()}{ns:List Int}(h:OrdAt CO CR CW H o k l ns):∃C dx fs,zb3 CO CR CW C/\H o=tI (.ins C dx fs)/\(∀m:pL,m≠"letters"->m≠"weights"->fs.lookup m=tJ)/\fs.lookup ("letters" : pL)=tI (V.str (tx l)):=by
 have e1:∀m:pL,m≠"letters"->(m ==("letters" : pL))=tL:=λm hm=>by simpa using hm
 have e2:∀m:pL,m≠"weights"->(m ==("weights" : pL))=tL:=λm hm=>by simpa using hm
 obtain⟨dx,⟨h1,h2⟩ | ⟨h1,h2⟩ | ⟨h1,h2,w,h3,h4⟩⟩:=h
 ·exact#[_,_,_,.inl rfl,h2,λm hm _=>by simp [bt,e1 m hm],rfl]
 ·exact#[_,_,_,.inr (.inl rfl),h2,λm hm _=>by simp [bt,e1 m hm],rfl]
 ·exact#[_,_,_,.inr (.inr rfl),h3,λm hm hm2=>by simp [bt,e1 m hm,e2 m hm2],rfl]
def qN(CO CR CW:pE):Sp:=λvs H Q _=>∃(o:pE) (k:Nat) (l:()) (ns:List Int) (w:()),vs=[.ref o,.str (tx w)]/\OrdAt CO CR CW H o k l ns/\OG l ns k/\w.length<=1000/\(∀c ∈ w,c ∈ l)/\∀(p q:pE) (H':Hp),Same H H'->H' p=tI (.tup [.int (zr k l ns w),.ref q])->H' q=tI (.lst ((uW k l w).map V.int))->Q (.ref p) H'
theorem JK{H:Hp}{CO CR CW o D:pE}{k:Nat}{l:()}{ns:List Int}{v:()}{a1:Option V}{Q:VK}(T:TOrd K mg CO CR CW)(ho:OrdAt CO CR CW H o k l ns)(hl:v.length<=1000)(hm:∀c ∈ v,c ∈ l)(hD:H D=tJ)(q:∀H',Same H H'->H' D=tI (.lst ((jn l v).map V.int))->Q (.ref D) H') :
  CompS (tx v) (yS 0) wU (tBM K "str" zu (zbp K (yf 1) "letters") (zK (yf 0) wn)) 1 [0] [!!o,a1] H Q D:=by
 have s16:=z6;refine CompS.by (λi tO H'=>Same H H'/\H' D=tI (.lst tO)/\tO=(jn l (v.take i)).map V.int) #[zd hD,zc,rfl] ?_ ?_
 ·refine nm4 ?_;rintro i c tO H' hc ⟨hs,hH,rfl⟩:_;have hci:=(tP.mp hc).1;have hcl:=hm c (ae hc);obtain⟨C,dx,fs,hf,ho',_,hlk⟩:=(ho.same hs).fam
  have hC:Cls K C/\NoAttr K C "letters":=by
   rcases hf with rfl | rfl | rfl
   ·exact#[T.cO,T.lO]
   ·exact#[T.cR,T.lR]
   ·exact#[T.cW,T.lW]
  right
  erw[wU]
  ac_rfl;refine#[xv,_,_,_,ho',hC.1,hC.2,_,hlk,trivial,_,rfl,_,zca hcl,hH,by rw[af];unfold jn;rw[af,aF];lia,CNx.mk hci #[zD hs hD,zc,?_]];unfold jn;rw[zO hc,au,au];rfl
 ·rintro tO H' ⟨hs,hH,rfl⟩;rw[aP]at hH;exact q H' hs hH
theorem kM:sQz 2 ["self","word"] xE:=by nofun
theorem wj{f CO CR CW:pE}{fd:pH}(B:Bt mg)(T:TWS P w K mg base CO CR CW)(F:Fun K "rank" "Order.rank" xE f fd) :(2&&&["self","word"]) (qN CO CR CW):=by
 exists F.ok kM
 ·obtain⟨o,k,l,ns,w,rfl,ho,hG,hw,hm,q⟩:=h;refine#[_,(zg (zm (zY (za (zbE T.wO T.wR T.wW' T.cO T.cR T.cW hr (pv 0) (za (pv 1) zf)) (za (xA (own:=["letter"]) (caps:=["self"]) (ix:=[0]) (tt:=wU) (te:=(tBM K "str" zu (zbp K (yf 1) "letters") (zK (yf 0) wn))) rfl (zL (sc:=zh xE) rfl (by symm) (by symm) (by symm) rfl (by symm) (by symm) rfl) (Wq (zbE T.sO T.sR T.sW T.cO T.cR T.cW hr (pv 0) (za (pv 1) zf))) (λ_ _ _ _ _ _=>zy (i:=0) (show List.Nodup [_,_] by decide) rfl (.inl rfl)) (λ_ _ _ _ _ _=>yv) (λ_ _ _ _ _ _=>(va bJ PySem.F.slot_str_index PySem.F.type_str_index KU (jC (pv 1) rfl) (za (pv 0) zf)))) zf))))),?_];have s16:=z6
  have hsl:(y0 k w).length<=1000:=by
   unfold y0;split
   ·rw[dW];exact hw
   ·exact hw
  have hsm:∀c ∈ y0 k w,c ∈ l:=λc hc=>by
   unfold y0 at hc;split at hc
   ·exact hm c (tY.mp hc)
   ·exact hm c hc
  have l6:l.length<=6:=(of_decide_eq_true hG.g).2.1;have fin:∀H1,Same H H1->∀D,H1 D=tJ->CompS (tx (y0 k w)) (yS 0) wU (tBM K "str" zu (zbp K (yf 1) "letters") (zK (yf 0) wn)) 1 [0] [!!o,~~~w] H1 (λx5 H1=>2<=pC/\∀p,H1 p=tJ->Q (.ref p) (upd H1 p (.tup [.int (zr k l ns w),x5]))) D:=λH1 s1 D hD=>JK T.toTOrd (ho.same s1) hsl hsm hD λH' s' hH=>#[⋯,λp hp=>q p D _ (s1.trans (s'.trans (zd hp))) zc (zd hp _ _ hH)];ac_rfl;obtain⟨dx',⟨h1,h2⟩ | ⟨h1,h2⟩ | ⟨h1,h2,t',h3,h4⟩⟩:=id ho
  ·have e1:zr k l ns w=(w.length:Int):=by unfold zr;rw[if_neg ⋯]
   have e2:y0 k w=w:=by unfold y0;rw[if_neg ⋯]
   rw[e1,e2]at fin;exact .inl #[_,_,h2,rfl,o,w,rfl,hw,.inl #[_,_,h2,rfl,o,w,rfl,_,rfl,fin H (Same.refl _)]]
  ·have e1:zr k l ns w=(w.length:Int):=by unfold zr;rw[if_neg ⋯]
   have e2:y0 k w=w.reverse:=by unfold y0;rw[if_pos h1]
   rw[e1,e2]at fin;exact .inr (.inl #[_,_,h2,rfl,o,w,rfl,hw,.inr (.inl #[_,_,h2,rfl,o,w,rfl,hw,_,rfl,fin H (Same.refl _)])])
  ·have e1:zr k l ns w=W5 l ns w:=by unfold zr;rw[if_pos h1]
   have e2:y0 k w=w:=by unfold y0;rw[if_neg ⋯]
   rw[e1,e2]at fin;exact .inr (.inr #[_,_,h3,rfl,o,dx',t',w,l,ns,rfl,hw,l6,hG.nl,hG.nb,h3,h4,λH' s'=>.inr (.inr #[_,_,s' _ _ h3,rfl,o,w,rfl,_,rfl,fin H' s'])])
noncomputable def zI(k:Nat)(l:())(ns:List Int)(u v:()):Bool:=if zr k l ns u=zr k l ns v then ltI (uW k l u) (uW k l v)else decide (zr k l ns u<zr k l ns v)
abbrev DR(P:pK)(w:pM)(K:pD)(mg:pL->Option pF)(base:pP)(CO CR CW:pE):Prop:=DMF P w K mg base CX0 2 (zb3 CO CR CW) "rank" ["self","word"] (λ_=>qN CO CR CW)
theorem kQ{H:Hp}{p q:pE}{z:Int}{ns:List Int}(hp:H p=tI (.tup [.int z,.ref q]))(hq:H q=tI (.lst (ns.map V.int))):Is K H (.tup [.int z,.lst (ns.map L3.D.int)]) (.ref p):=by
 erw[Is,Iss]
 exact#[p,_,rfl,SqT.of hp,_,_,rfl,rfl,_,_,rfl,#[q,_,rfl,SqL.of hq,Iss.ints ns],rfl]
theorem xl:∀x:List Int,ltI x x=tL
 | []=>rfl
 | a::x=>by
  rw[ltI,if_pos rfl];exact xl x
theorem VY(a b:Int)(x y:List Int):ltD (.tup [.int a,.lst (x.map L3.D.int)]) (.tup [.int b,.lst (y.map L3.D.int)])=if a=b then ltI x y else decide (a<b):=by
 erw[ltD,vF,eqD,Zu,Ye]
 by_cases h:a=b
 ·subst h;by_cases h2:x=y
  ·subst h2;simp [xl]
  ·simp [h2]
 ·simp [h]
def Ud(CO CR CW:pE):Sp:=λvs H Q _=>∃(o:pE) (k:Nat) (l:()) (ns:List Int) (u v:()),vs=[.ref o,.str (tx u),.str (tx v)]/\OrdAt CO CR CW H o k l ns/\OG l ns k/\u.length<=1000/\v.length<=1000/\(∀c ∈ u,c ∈ l)/\(∀c ∈ v,c ∈ l)/\∀H':Hp,Same H H'->Q (.bl (zI k l ns u v)) H'
theorem qU:sQz 3 ["self","one","other"] xM:=by nofun
theorem xt{f CO CR CW:pE}{fd:pH}(B:Bt mg)(DRk:DR P w K mg base CO CR CW)(F:Fun K "before" "Order.before" xM f fd) :(3&&&["self","one","other"]) (Ud CO CR CW):=by
 exists F.ok qU
 ·obtain⟨o,k,l,ns,u,v,rfl,ho,hG,hu,hv,hmu,hmv,q⟩:=h;refine#[_,(zg (zm (yK (zbt (kP hr)) (zbl DRk hr (pv 0) (za (pv 1) zf)) (zbl DRk hr (pv 0) (za (pv 2) zf)) (zC _)))),?_];have s16:=z6;ac_rfl;obtain⟨C,dx,fs,hf,ho1,hn,_⟩:=ho.fam;have h1:fs.lookup ("rank" : pL)=tJ:=hn _ ∅ ∅;refine#[C,hf,dx,fs,ho1,h1,o,k,l,ns,u,rfl,ho,hG,hu,hmu,λp x H1 s1 hp hx=>#[C,hf,dx,fs,s1 _ _ ho1,h1,o,k,l,ns,v,rfl,ho.same s1,hG,hv,hmv,λp' x' H2 s2 hp' hx'=>?_]];refine zaU (kQ (s2 _ _ hp) (s2 _ _ hx)) (kQ hp' hx') (by erw[dpD,uQ,Yj];decide) (by erw[okD,kY];exact#[trivial,qA _ _,trivial]) ?_;rw[VY];exact q H2 (s1.trans s2)
abbrev DB(P:pK)(w:pM)(K:pD)(mg:pL->Option pF)(base:pP)(CO CR CW:pE):Prop:=DMF P w K mg base CX0 3 (zb3 CO CR CW) "before" ["self","one","other"] (λ_=>Ud CO CR CW)
noncomputable def J8(k:Int)(ls:())(ns:List Int)(w:()):Int:=(w.map λc=>if k=2 then ns.getD (ls.idxOf c) 0 else 1).sum
theorem JA{k:Int}{ls:()}{ns:List Int}{w:()}(h:k≠2):J8 k ls ns w=(w.length:Int):=by
 unfold J8
 induction w with
 | nil=>rfl
 | cons c w ih =>
  rw[ar,bg,ih,if_neg h,ay];lia
theorem ja{ls:()}{ns:List Int}(f g:Nat->Int):((ls.zip ns).map λp=>(f p.1+g p.1) * p.2).sum=((ls.zip ns).map λp=>f p.1 * p.2).sum+((ls.zip ns).map λp=>g p.1 * p.2).sum:=by
 induction ls.zip ns with
 | nil=>rfl
 | cons p r ih =>
  rw[ar,ar,ar,bg,bg,bg,ih,Int.add_mul];lia
theorem Vk:∀{ls:()} {ns:List Int} {c:Nat},ls.Nodup->ns.length=ls.length->c ∈ ls->((ls.zip ns).map λp=>(if p.1=c then (1:Int)else 0) * p.2).sum=ns.getD (ls.idxOf c) 0
 | [],ns,c,_,_,hc=>(nomatch hc)
 | d::ls,[],c,_,hl,_=>by cases hl
 | d::ls,n::ns,c,hn,hl,hc=>by
  rw[dn,ar,bg];have hnd:=tX.mp hn;by_cases h:d=c
  ·subst h
   have h0:∀(l:()) (m:List Int),d ∉ l->((l.zip m).map λp=>(if p.1=d then (1:Int)else 0) * p.2).sum=0:=by
    intro l
    induction l with
    | nil=>intro m _;rfl
    | cons x l ih =>
     intro m hx
     cases m with
     | nil=>rfl
     | cons y m =>
      rw[dn,ar,bg,ih m (λq=>hx (ao _ q)),if_neg (show ¬ x=d from λe=>hx (by rw[e];exact az))];lia
   rw[h0 ls ns hnd.1,if_pos rfl,List.idxOf_cons_self];simp
  ·have hc':c ∈ ls:=by
    rcases tR.mp hc with e | e
    ·exact absurd e.symm h
    ·exact e
   rw[Vk hnd.2 (by simpa using hl) hc',if_neg h,List.idxOf_cons,show (d == c)=tL by simpa using h];simp
theorem XZ{ls:()}{ns:List Int}(hn:ls.Nodup)(hl:ns.length=ls.length):∀{w:()},(∀x ∈ w,x ∈ ls)->J8 2 ls ns w=W5 ls ns w
 | [],_=>by
  have h0:∀r:List (Nat × Int),(r.map λp=>((([]:()).count p.1:Nat):Int) * p.2).sum=0:=by
   intro r
   induction r with
   | nil=>rfl
   | cons p r ih=>rw[ar,bg,ih];simp
  exact (h0 _).symm
 | c::w,h=>by
  have ih:=XZ hn hl (w:=w) λx hx=>h x (ao _ hx)
  have e1:J8 2 ls ns (c::w)=ns.getD (ls.idxOf c) 0+J8 2 ls ns w:=by
   unfold J8;rw[ar,bg,if_pos rfl]
  rw[e1,ih,<- Vk hn hl (h c az)];unfold W5;rw[<- ja (λx=>if x=c then 1 else 0) (λx=>(w.count x:Int))];refine congrArg List.sum (bu λp _=>?_);rw[List.count_cons];by_cases e:c=p.1
  ·rw[if_pos e.symm,if_pos (by simpa using e)];simp [Int.add_comm]
  ·rw[if_neg (λz=>e z.symm),if_neg (by simpa using e)];simp
noncomputable def wt(k:Nat)(ns:List Int)(i:Int):Int:=if k=2 then ns.getD i.toNat 0 else 1
theorem xY{g:Int->Int}:∀{x:List Int},(∀i ∈ x,0<g i)->0<=(x.map g).sum
 | [],_=>by simp
 | a::x,h=>by
  have h1:=h a az;have h2:=xY (x:=x) λi hi=>h i (ao _ hi);rw[ar,bg];lia
theorem wx:∀{x y:List Int},x≠y->ltI x y=!ltI y x
 | [],[],h=>absurd rfl h
 | [],_::_,_=>rfl
 | _::_,[],_=>rfl
 | a::x,b::y,h=>by
  rw[ltI,ltI];by_cases e:a=b
  ·rw[if_pos e,if_pos e.symm];exact wx λq=>h (by rw[e,q])
  ·rw[if_neg e,if_neg λq=>e q.symm];by_cases c:a<b
   ·rw[decide_eq_true c,decide_eq_false ⋯];rfl
   ·rw[decide_eq_false c,decide_eq_true ⋯];rfl
theorem jh:∀{x y z:List Int},ltI x y=tK->ltI y z=tK->ltI x z=tK
 | [],[],_,h,_=>by cases h
 | [],_::_,[],_,h=>by cases h
 | [],_::_,_::_,_,_=>rfl
 | _::_,[],_,h,_=>by cases h
 | _::_,_::_,[],_,h=>by cases h
 | a::x,b::y,c::z,h1,h2=>by
  rw[ltI]at h1 h2 ⊢;by_cases e:a=b
  ·subst e;rw[if_pos rfl]at h1;by_cases f:a=c
   ·rw[if_pos f]at h2 ⊢;exact jh h1 h2
   ·rw[if_neg f]at h2 ⊢;exact h2
  ·rw[if_neg e]at h1;have h1':=of_decide_eq_true h1;by_cases f:b=c
   ·subst f;rw[if_neg e];exact h1
   ·rw[if_neg f]at h2;have h2':=of_decide_eq_true h2;rw[if_neg ⋯];exact decide_eq_true ⋯
theorem Ym:∀(c x y:List Int),ltI (c ++ x) (c ++ y)=ltI x y
 | [],_,_=>rfl
 | a::c,x,y=>by
  rw[aY,aY,ltI,if_pos rfl];exact Ym c x y
theorem Wn{g:Int->Int}{c:List Int}:∀{x y:List Int},(∀i ∈ x,0<g i)->(∀i ∈ y,0<g i)->(x.map g).sum=(y.map g).sum->ltI (x ++ c) (y ++ c)=ltI x y
 | [],[],_,_,_=>xl c
 | [],b::y,_,hy,h=>by
  have h1:=hy b az;have h2:=xY (x:=y) λi hi=>hy i (ao _ hi);rw[ar,bg,aL,List.sum_nil]at h;lia
 | a::x,[],hx,_,h=>by
  have h1:=hx a az;have h2:=xY (x:=x) λi hi=>hx i (ao _ hi);rw[ar,bg,aL,List.sum_nil]at h;lia
 | a::x,b::y,hx,hy,h=>by
  rw[aY,aY,ltI,ltI];by_cases e:a=b
  ·rw[if_pos e,if_pos e];rw[ar,bg,ar,bg,e]at h;exact Wn (λi hi=>hx i (ao _ hi)) (λi hi=>hy i (ao _ hi)) ⋯
  ·rw[if_neg e,if_neg e]
section
variable{k:Nat}{l:()}{ns:List Int}{t u v:()}
theorem Q2(a b:()):W5 l ns (a ++ b)=W5 l ns a+W5 l ns b:=by
 unfold W5;rw[<- ja (λx=>(a.count x:Int)) (λx=>(b.count x:Int))];refine congrArg List.sum (bu λp _=>?_);rw[cC];simp
theorem yz(a b:()):zr k l ns (a ++ b)=zr k l ns a+zr k l ns b:=by
 unfold zr;by_cases h:k=2
 ·rw[if_pos h,if_pos h,if_pos h,Q2]
 ·rw[if_neg h,if_neg h,if_neg h,ah];lia
theorem xm(G:OG l ns k):∀{w:()},(∀c ∈ w,c ∈ l)->zr k l ns w=((jn l w).map (wt k ns)).sum:=by
 intro w hm;have hn:l.Nodup:=(of_decide_eq_true G.g).2.2.2
 have e:((jn l w).map (wt k ns)).sum=J8 (k:Int) l ns w:=by
  unfold jn J8;rw[cH];refine congrArg List.sum (bu λc _=>?_);show wt k ns _=_;unfold wt;by_cases h:k=2
  ·rw[if_pos h,if_pos ⋯,aZ]
  ·rw[if_neg h,if_neg ⋯]
 rw[e];unfold zr;by_cases h:k=2
 ·rw[if_pos h,h];exact (XZ hn G.nl hm).symm
 ·rw[if_neg h,JA ⋯]
theorem ZX(G:OG l ns k)(hm:∀c ∈ u,c ∈ l):∀i ∈ jn l u,0<wt k ns i:=by
 intro i hi;obtain⟨c,hc,rfl⟩:=tQ.mp hi;have hlt:=ba (hm c hc);have hl:=G.nl;unfold wt;split
 ·rw[aZ,ac,aj ⋯];have:=(G.nb _ (cI (l:=ns) (n:=l.idxOf c) ⋯)).1;show 0<ns[l.idxOf c];lia
 ·decide
theorem vT(G:OG l ns k)(hm:∀c ∈ u,c ∈ l):0<=zr k l ns u:=by
 rw[xm G hm];exact xY (ZX G hm)
theorem jV(G:OG l ns k)(hm:∀c ∈ u,c ∈ l)(h:u≠[]):0<zr k l ns u:=by
 cases u with
 | nil=>exact absurd rfl h
 | cons a u =>
  have h1:=ZX G hm (l.idxOf a:Nat) (tQ.mpr #[a,az,rfl]);have h2:0<=((jn l u).map (wt k ns)).sum:=xY (ZX (u:=u) G λc hc=>hm c (ao _ hc));rw[xm G hm];show 0<((((l.idxOf a:Nat):Int)::jn l u).map (wt k ns)).sum;rw[ar,bg];lia
theorem j9:∀{u v:()},(∀c ∈ u,c ∈ l)->(∀c ∈ v,c ∈ l)->jn l u=jn l v->u=v
 | [],[],_,_,_=>rfl
 | [],_::_,_,_,h=>by cases h
 | _::_,[],_,_,h=>by cases h
 | a::u,b::v,hu,hv,h=>by
  unfold jn at h;rw[ar,ar]at h;injection h with h1 h2;have h3:l.idxOf a=l.idxOf b:=⋯;have ha:=bP (ba (hu a az));have hb:=bP (ba (hv b az))
  have:a=b:=by
   rw[<- ha,<- hb]
   erw[h3]
  rw[this,j9 (λc hc=>hu c (ao _ hc)) (λc hc=>hv c (ao _ hc)) h2]
theorem yA:zI k l ns u u=tL:=by
 unfold zI;rw[if_pos rfl,xl]
theorem XB(hu:∀c ∈ u,c ∈ l)(hv:∀c ∈ v,c ∈ l)(h:uW k l u=uW k l v):u=v:=by
 unfold uW y0 at h;by_cases e:k=1
 ·rw[if_pos e,if_pos e]at h;exact List.reverse_inj.mp (j9 (λc hc=>hu c (tY.mp hc)) (λc hc=>hv c (tY.mp hc)) h)
 ·rw[if_neg e,if_neg e]at h;exact j9 hu hv h
theorem vB(hu:∀c ∈ u,c ∈ l)(hv:∀c ∈ v,c ∈ l)(h:u≠v):zI k l ns u v=!zI k l ns v u:=by
 unfold zI;by_cases e:zr k l ns u=zr k l ns v
 ·rw[if_pos e,if_pos e.symm];exact wx λq=>h (XB hu hv q)
 ·rw[if_neg e,if_neg λq=>e q.symm];by_cases c:zr k l ns u<zr k l ns v
  ·rw[decide_eq_true c,decide_eq_false ⋯];rfl
  ·rw[decide_eq_false c,decide_eq_true ⋯];rfl
theorem qI(h1:zI k l ns t u=tK)(h2:zI k l ns u v=tK):zI k l ns t v=tK:=by
 unfold zI at h1 h2 ⊢;generalize zr k l ns t=a at *;generalize zr k l ns u=b at *;generalize zr k l ns v=c at *;by_cases e:a=b
 ·subst e;rw[if_pos rfl]at h1;by_cases f:a=c
  ·rw[if_pos f]at h2 ⊢;exact jh h1 h2
  ·rw[if_neg f]at h2 ⊢;exact h2
 ·rw[if_neg e]at h1;have h1':=of_decide_eq_true h1;by_cases f:b=c
  ·subst f;rw[if_neg e];exact h1
  ·rw[if_neg f]at h2;have h2':=of_decide_eq_true h2;rw[if_neg ⋯];exact decide_eq_true ⋯
theorem Xo(a b:()):jn l (a ++ b)=jn l a ++ jn l b:=au
theorem ZP(G:OG l ns k)(hu:∀c ∈ u,c ∈ l)(hv:∀c ∈ v,c ∈ l)(e:zr k l ns u=zr k l ns v)(c:List Int):ltI (jn l u ++ c) (jn l v ++ c)=ltI (jn l u) (jn l v):=by
 rw[xm G hu,xm G hv]at e;exact Wn (ZX G hu) (ZX G hv) e
theorem jU(G:OG l ns k)(hu:∀c ∈ u,c ∈ l):zr k l ns u.reverse=zr k l ns u:=by
 rw[xm G hu,xm G λc hc=>hu c (tY.mp hc)];unfold jn;rw[List.map_reverse,List.map_reverse,List.sum_reverse]
theorem Zr(G:OG l ns k)(ht:∀c ∈ t,c ∈ l)(hu:∀c ∈ u,c ∈ l)(hv:∀c ∈ v,c ∈ l):zI k l ns (t ++ u) (t ++ v)=zI k l ns u v/\zI k l ns (u ++ t) (v ++ t)=zI k l ns u v:=by
 have hur:∀c ∈ u.reverse,c ∈ l:=λc hc=>hu c (tY.mp hc);have hvr:∀c ∈ v.reverse,c ∈ l:=λc hc=>hv c (tY.mp hc);unfold zI;rw[yz,yz,yz,yz];by_cases e:zr k l ns u=zr k l ns v
 ·rw[if_pos ⋯,if_pos e,if_pos ⋯];unfold uW y0;by_cases f:k=1
  ·erw[if_pos f,fJ,Xo]
   exact#[ZP G hur hvr (by rw[jU G hu,jU G hv,e]) _,Ym _ _ _]
  ·erw[if_neg f,Xo]
   exact#[Ym _ _ _,ZP G hu hv e _]
 ·rw[if_neg ⋯,if_neg e,if_neg ⋯];exact#[by congr 1;exact propext ⋯,by congr 1;exact propext ⋯]
theorem Xy(G:OG l ns k)(ht:∀c ∈ t,c ∈ l)(hu:∀c ∈ u,c ∈ l)(hv:∀c ∈ v,c ∈ l)(h:t ++ u ++ v≠u):zI k l ns u (t ++ u ++ v)=tK/\zI k l ns (t ++ u ++ v) u=tL:=by
 have h0:0<zr k l ns t+zr k l ns v:=by
  have h1:=vT G ht;have h2:=vT G hv;by_cases e:t=[]
  ·by_cases f:v=[]
   ·subst e f;simp at h
   ·have:=jV G hv f;lia
  ·have:=jV G ht e;lia
 unfold zI;rw[yz,yz,if_neg ⋯,if_neg ⋯];exact#[decide_eq_true ⋯,decide_eq_false ⋯]
end
theorem ZZ:∀x y:List Int,ltI x y=tK->ltI y x=tL
 | [],[],h=>by cases h
 | [],_::_,_=>rfl
 | _::_,[],h=>by cases h
 | a::x,b::y,h=>by
  rw[ltI]at h ⊢;by_cases e:a=b
  ·rw[if_pos e]at h;rw[if_pos e.symm];exact ZZ x y h
  ·rw[if_neg e]at h;rw[if_neg (λq=>e q.symm)];have:=of_decide_eq_true h;exact decide_eq_false ⋯
theorem vt{k:Nat}{l:()}{ns:List Int}{u v:()}(h:zI k l ns u v=tK):zI k l ns v u=tL:=by
 unfold zI at h ⊢;by_cases e:zr k l ns u=zr k l ns v
 ·rw[if_pos e]at h;rw[if_pos e.symm];exact ZZ _ _ h
 ·rw[if_neg e]at h;rw[if_neg (λq=>e q.symm)];have:=of_decide_eq_true h;exact decide_eq_false ⋯
noncomputable def stJ(l:())(ps:List zp)(q j:Nat):Bool:=((ps[j]?).map λp=>zt l (q:Int) p.1).getD tL
theorem jW{l:()}{ps:List zp}{q j:Nat}{p:zp}(h:ps[j]? = tI p):stJ l ps q j=zt l (q:Int) p.1:=by
 unfold stJ;rw[h];rfl
theorem vj{l:()}{ps:List zp}{q j:Nat}(h:stJ l ps q j=tK):j<ps.length/\∃p,ps[j]? = tI p/\zt l (q:Int) p.1=tK:=by
 unfold stJ at h
 cases e:ps[j]? with
 | none=>rw[e]at h;cases h
 | some p =>
  rw[e]at h;exact#[(tP.mp e).1,p,rfl,h]
noncomputable def qF(l:())(ps:List zp)(q i:Nat):List (Nat × Nat):=((aV i).filter (stJ l ps q)).map λj=>(j,q)
noncomputable def xI(l:())(ps:List zp)(k:Nat):List (Nat × Nat):=(aV k).flatMap λq=>qF l ps q ps.length
theorem W3(l:())(ps:List zp)(q i:Nat):qF l ps q (i+1)=qF l ps q i ++ (if stJ l ps q i=tK then [(i,q)]else []):=by
 unfold qF;rw[cS,bx,au];congr 1;by_cases h:stJ l ps q i=tK
 ·rw[if_pos h,eU h];rfl
 ·rw[if_neg h,eV h];rfl
theorem jL(l:())(ps:List zp)(k:Nat):xI l ps (k+1)=xI l ps k ++ qF l ps k ps.length:=by
 unfold xI;rw[cS,cr];simp
theorem V8(l:())(ps:List zp)(q i:Nat):(qF l ps q i).length<=i:=by
 unfold qF;rw[af];have:=cX (stJ l ps q) (aV i);rw[dA]at this;exact this
theorem UI(l:())(ps:List zp):∀k,(xI l ps k).length<=k * ps.length
 | 0=>by simp [xI]
 | k+1=>by
  rw[jL,ah,eF];have:=UI l ps k;have:=V8 l ps k ps.length;lia
theorem usesN_mem{l:()}{ps:List zp}{q i:Nat}{u:Nat × Nat}:u ∈ qF l ps q i ↔ u.2=q/\u.1<i/\stJ l ps q u.1=tK:=by
 unfold qF;rw[List.mem_map];constructor
 ·rintro⟨j,hj,rfl⟩;rw[List.mem_filter,fo]at hj;exact#[rfl,hj.1,hj.2]
 ·rintro⟨h1,h2,h3⟩;exact#[u.1,tU.mpr #[tV.mpr h2,h3],by rw[<- h1]]
theorem usesK_mem{l:()}{ps:List zp}{k:Nat}{u:Nat × Nat}:u ∈ xI l ps k ↔ u.2<k/\stJ l ps u.2 u.1=tK:=by
 unfold xI;rw[List.mem_flatMap];constructor
 ·rintro⟨q,hq,hu⟩;obtain⟨h1,h2,h3⟩:=usesN_mem.mp hu;rw[fo]at hq;rw[h1];exact#[hq,h3]
 ·rintro⟨h1,h2⟩;exact#[u.2,tV.mpr h1,usesN_mem.mpr #[rfl,(vj h2).1,h2]]
def uLt(a b:Nat × Nat):Prop:=a.2<b.2\/(a.2=b.2/\a.1<b.1)
theorem uP(l:())(ps:List zp)(q:Nat):∀i,(qF l ps q i).Pairwise uLt
 | 0=>by simp [qF]
 | i+1=>by
  rw[W3];refine Ab.mpr #[uP l ps q i,?_,λa ha b hb=>?_]
  ·split
   ·exact du _ _
   ·exact List.Pairwise.nil
  ·obtain⟨h1,h2,_⟩:=usesN_mem.mp ha;split at hb
   ·rw[tT.mp hb];exact .inr #[h1,h2]
   ·cases hb
theorem wF(l:())(ps:List zp):∀k,(xI l ps k).Pairwise uLt
 | 0=>by simp [xI]
 | k+1=>by
  rw[jL];refine Ab.mpr #[wF l ps k,uP l ps k _,λa ha b hb=>?_];have h1:=(usesK_mem.mp ha).1;have h2:=(usesN_mem.mp hb).1;exact .inl ⋯
def FirstN(l:())(ps:List zp)(lo hi n:Nat)(r:Option (Nat × Nat)):Prop :=
 (r=tJ/\∀j q,j<n->lo<=q->q<hi->stJ l ps q j=tL) \/
 ∃n0 q0,r=tI (n0,q0)/\n0<n/\lo<=q0/\q0<hi/\stJ l ps q0 n0=tK/\∀j q,j<n->lo<=q->stJ l ps q j=tK->q0<q\/(q0=q/\n0<=j)
theorem FirstN.uniq{l:()}{ps:List zp}{lo hi n:Nat}{r r':Option (Nat × Nat)}(h:FirstN l ps lo hi n r)(h':FirstN l ps lo hi n r'):r=r':=by
 rcases h with ⟨rfl,h⟩ | ⟨n0,q0,rfl,a1,a2,a3,a4,a5⟩
 ·rcases h' with ⟨rfl,_⟩ | ⟨n0,q0,rfl,a1,a2,a3,a4,a5⟩
  ·rfl
  ·rw[h n0 q0 a1 a2 a3]at a4;cases a4
 ·rcases h' with ⟨rfl,h⟩ | ⟨n1,q1,rfl,b1,b2,b3,b4,b5⟩
  ·rw[h n0 q0 a1 a2 a3]at a4;cases a4
  ·have x1:=a5 n1 q1 b1 b2 b4;have x2:=b5 n0 q0 a1 a2 a4;have e1:q0=q1:=⋯;have e2:n0=n1:=⋯;rw[e1,e2]
theorem WV{l:()}{ps:List zp}{r:Option (Nat × Nat)}(h:FirstN l ps 0 l.length ps.length r):r=(xI l ps l.length).head?:=by
 have hs:=wF l ps l.length;refine h.uniq ?_
 cases e:xI l ps l.length with
 | nil =>
  refine .inl #[rfl,λj q _ _ hq=>?_]
  cases hb:stJ l ps q j with
  | false=>rfl
  | true =>
   have:(j,q) ∈ xI l ps l.length:=usesK_mem.mpr #[hq,hb];rw[e]at this;cases this
 | cons u us =>
  rw[e]at hs;have hu:u ∈ xI l ps l.length:=by rw[e];exact az
  obtain⟨h1,h2⟩:=usesK_mem.mp hu;refine .inr #[u.1,u.2,rfl,(vj h2).1,aE _,h1,h2,λj q hj _ hb=>?_];by_cases hq:q<l.length
  ·have:(j,q) ∈ xI l ps l.length:=usesK_mem.mpr #[hq,hb];rw[e]at this;rcases tR.mp this with e2 | e2
   ·rw[<- e2];exact .inr #[rfl,ak _]
   ·rcases (Ac.mp hs).1 _ e2 with h | ⟨h,h'⟩
    ·exact .inl h
    ·exact .inr #[h,dj h']
  ·exact .inl ⋯
theorem qy{l p:()}{q:Nat}(hp:p≠[])(h:zt l (q:Int) p=tK):q<l.length:=by
 obtain⟨h0,h1,_⟩:=of_decide_eq_true h;have:0<p.length:=Ae.mpr hp;lia
theorem FirstN.keep{l:()}{ps:List zp}{lo hi n:Nat}{r:Option (Nat × Nat)}{p:zp}(h:FirstN l ps lo hi n r)(hp:ps[n]? = tI p)(hn:∀q:Nat,lo<=q->q<(r.map Prod.snd).getD hi->zt l (q:Int) p.1=tL):FirstN l ps lo hi (n+1) r:=by
 rcases h with ⟨rfl,h⟩ | ⟨n0,q0,rfl,a1,a2,a3,a4,a5⟩
 ·refine .inl #[rfl,λj q hj h1 h2=>?_];by_cases e:j<n
  ·exact h j q e h1 h2
  ·have:j=n:=⋯;subst this;rw[jW hp];exact hn q h1 h2
 ·refine .inr #[n0,q0,rfl,⋯,a2,a3,a4,λj q hj h1 h2=>?_];by_cases e:j<n
  ·exact a5 j q e h1 h2
  ·have:j=n:=⋯;subst this;rw[jW hp]at h2;by_cases hq:q<q0
   ·rw[hn q h1 hq]at h2;cases h2
   ·lia
theorem FirstN.take{l:()}{ps:List zp}{lo hi n k:Nat}{r:Option (Nat × Nat)}{p:zp}(h:FirstN l ps lo hi n r)(hp:ps[n]? = tI p)(h1:lo<=k)(h2:k<(r.map Prod.snd).getD hi)(h3:zt l (k:Int) p.1=tK)(hn:∀q:Nat,lo<=q->q<k->zt l (q:Int) p.1=tL):FirstN l ps lo hi (n+1) (tI (n,k)):=by
 have hk:k<hi/\∀j q,j<n->lo<=q->stJ l ps q j=tK->k<q:=by
  rcases h with ⟨rfl,h⟩ | ⟨n0,q0,rfl,a1,a2,a3,a4,a5⟩
  ·refine#[h2,λj q hj hl hb=>?_];by_cases hq:q<hi
   ·rw[h j q hj hl hq]at hb;cases hb
   ·have h2':k<hi:=h2;lia
  ·have h2':k<q0:=h2;refine#[⋯,λj q hj hl hb=>?_];have:=a5 j q hj hl hb;lia
 refine .inr #[n,k,rfl,⋯,h1,hk.1,by rw[jW hp];exact h3,λj q hj hl hb=>?_];by_cases e:j<n
 ·exact .inl (hk.2 j q e hl hb)
 ·have:j=n:=⋯;subst this;rw[jW hp]at hb;by_cases hq:q<k
  ·rw[hn q hl hq]at hb;cases hb
  ·lia
theorem FirstN.window{l:()}{ps:List zp}{lo mid hi n:Nat}{r:Option (Nat × Nat)}(h0:FirstN l ps lo mid n tJ)(hm:lo<=mid)(h:FirstN l ps mid hi n r):FirstN l ps lo hi n r:=by
 have h0':∀j q,j<n->lo<=q->q<mid->stJ l ps q j=tL:=by
  rcases h0 with ⟨_,h⟩ | ⟨_,_,h,_⟩
  ·exact h
  ·cases h
 rcases h with ⟨rfl,h⟩ | ⟨n0,q0,rfl,a1,a2,a3,a4,a5⟩
 ·refine .inl #[rfl,λj q hj h1 h2=>?_];by_cases e:q<mid
  ·exact h0' j q hj h1 e
  ·exact h j q hj ⋯ h2
 ·refine .inr #[n0,q0,rfl,a1,⋯,a3,a4,λj q hj h1 h2=>?_];by_cases e:q<mid
  ·rw[h0' j q hj h1 e]at h2;cases h2
  ·exact a5 j q hj ⋯ h2
def NeL(ps:List zp):Prop:=∀p ∈ ps,p.1≠[]
theorem FirstN.toEnd{l:()}{ps:List zp}{lo hi n:Nat}{r:Option (Nat × Nat)}(hN:NeL ps)(h:FirstN l ps lo hi n r)(hl:r=tJ->l.length<=hi):FirstN l ps lo l.length n r:=by
 have hlt:∀j q,stJ l ps q j=tK->q<l.length:=λj q hb=>by
  obtain⟨_,p,hp,hs⟩:=vj hb;exact qy (hN p (ae hp)) hs
 rcases h with ⟨rfl,h⟩ | ⟨n0,q0,rfl,a1,a2,a3,a4,a5⟩
 ·exact .inl #[rfl,λj q hj h1 h2=>h j q hj h1 (by have:=hl rfl;lia)]
 ·exact .inr #[n0,q0,rfl,a1,a2,hlt _ _ a4,a4,a5]
noncomputable def zE(l:())(ps:List zp):Option (Nat × Nat):=(xI l ps l.length).head?
theorem XG{l:()}{ps:List zp}{r:Option (Nat × Nat)}(h:FirstN l ps 0 l.length ps.length r):r=zE l ps:=WV h
theorem Xf(l:())(ps:List zp)(hN:NeL ps):FirstN l ps 0 l.length ps.length (zE l ps):=by
 have hs:=wF l ps l.length;unfold zE
 cases e:xI l ps l.length with
 | nil =>
  refine .inl #[rfl,λj q _ _ hq=>?_]
  cases hb:stJ l ps q j with
  | false=>rfl
  | true =>
   have:(j,q) ∈ xI l ps l.length:=usesK_mem.mpr #[hq,hb];rw[e]at this;cases this
 | cons u us =>
  rw[e]at hs;have hu:u ∈ xI l ps l.length:=by rw[e];exact az
  obtain⟨h1,h2⟩:=usesK_mem.mp hu;refine .inr #[u.1,u.2,rfl,(vj h2).1,aE _,h1,h2,λj q hj _ hb=>?_]
  have hq:q<l.length:=by
   obtain⟨_,p,hp,hs⟩:=vj hb;exact qy (hN p (ae hp)) hs
  have:(j,q) ∈ xI l ps l.length:=usesK_mem.mpr #[hq,hb];rw[e]at this;rcases tR.mp this with e2 | e2
  ·rw[<- e2];exact .inr #[rfl,ak _]
  ·rcases (Ac.mp hs).1 _ e2 with h | ⟨h,h'⟩
   ·exact .inl h
   ·exact .inr #[h,dj h']
noncomputable def Xx(ps:List zp)(n:Nat):zp:=ps.getD n ([],[])
theorem yo{ps:List zp}{n:Nat}{p:zp}(h:ps[n]? = tI p):Xx ps n=p:=by
 unfold Xx;rw[ac,h];rfl
noncomputable def Zl(l:())(ps:List zp)(u:Nat × Nat):():=yH l (u.2:Int) (Xx ps u.1).1 (Xx ps u.1).2
noncomputable def Xr(ps:List zp)(l:()):():=((zE l ps).map (Zl l ps)).getD l
noncomputable def wAt(ps:List zp)(l:()):Nat->()
 | 0=>l
 | j+1=>Xr ps (wAt ps l j)
noncomputable def sAt(ps:List zp)(l:())(j:Nat):List (Nat × Nat):=(aV j).map λi=>(zE (wAt ps l i) ps).getD (0,0)
theorem Wi(ps:List zp)(l:())(j:Nat):sAt ps l (j+1)=sAt ps l j ++ [(zE (wAt ps l j) ps).getD (0,0)]:=by
 unfold sAt;rw[cS,au];rfl
theorem vq(ps:List zp)(l:())(j:Nat):(sAt ps l j).length=j:=by
 unfold sAt;rw[af,dA]
theorem yR{ps:List zp}{l:()}{j:Nat}{u:Nat × Nat}(h:zE (wAt ps l j) ps=tI u):wAt ps l (j+1)=Zl (wAt ps l j) ps u:=by
 show Xr ps (wAt ps l j)=_;unfold Xr;rw[h];rfl
def Y7(ps:List zp)(l:())(j:Nat):Prop:=∀i,i<j->zE (wAt ps l i) ps≠tJ
theorem j6{ps:List zp}{l:()}{i j:Nat}(h1:Y7 ps l i)(h2:zE (wAt ps l i) ps=tJ)(h3:Y7 ps l j)(h4:zE (wAt ps l j) ps=tJ):i=j:=by
 rcases eg i j with h | h | h
 ·exact absurd h2 (h3 i h)
 ·exact h
 ·exact absurd h4 (h1 j h)
theorem WD{l:()}{ps:List zp}{n q M lo:Nat}(h:FirstN l ps 0 l.length ps.length (tI (n,q)))(hN:NeL ps)(hM:∀p ∈ ps,p.1.length<=M)(hlo:lo=0\/lo+M<=q+1):FirstN (Zl l ps (n,q)) ps 0 lo ps.length tJ:=by
 refine .inl #[rfl,λj x hj _ hx=>?_];rcases h with ⟨h,_⟩ | ⟨n0,q0,e,a1,a2,a3,a4,a5⟩
 ·cases h
 ·injection e with e;injection e with e1 e2;subst e1 e2
  cases hb:stJ (Zl l ps (n,q)) ps x j with
  | false=>rfl
  | true =>
   obtain⟨_,p,hp,hs⟩:=vj hb;have hpm:=hM p (ae hp);have hpn:=Ae.mpr (hN p (ae hp));have hxq:x+p.1.length<=q:=⋯;obtain⟨s0,s1,s2⟩:=of_decide_eq_true hs;rw[aZ]at s2;obtain⟨_,p2,hp2,hs2⟩:=vj a4;obtain⟨t0,t1,t2⟩:=of_decide_eq_true hs2
   have e4:(Zl l ps (n,q)).take q=l.take q:=by
    unfold Zl yH;rw[aZ,aK,bw (by rw[aF];lia),fq,fM]
   have e5:∀z:(),((z.take q).drop x).take p.1.length=(z.drop x).take p.1.length:=λz=>by
    rw[List.drop_take,fq];congr 1;lia
   have s3:(l.drop x).take p.1.length=p.1:=by rw[<- e5,<- e4,e5,s2]
   have:stJ l ps x j=tK:=by
    rw[jW hp];exact decide_eq_true #[⋯,⋯,by rw[aZ];exact s3]
   have:=a5 j x hj (aE _) this;lia
theorem FirstN.lower{l:()}{ps:List zp}{lo hi n:Nat}(h:FirstN l ps 0 hi n tJ)(hl:lo<=hi):FirstN l ps 0 lo n tJ:=by
 rcases h with ⟨_,h⟩ | ⟨_,_,h,_⟩
 ·exact .inl #[rfl,λj q hj h1 h2=>h j q hj h1 ⋯]
 ·cases h
theorem Qw{l:()}{ps:List zp}{n q m:Nat}(h:FirstN l ps 0 l.length ps.length (tI (n,q)))(hm:∀p ∈ ps,p.2.length<=m):(Zl l ps (n,q)).length<=l.length+m:=by
 rcases h with ⟨h,_⟩ | ⟨n0,q0,e,a1,a2,a3,a4,a5⟩
 ·cases h
 ·injection e with e;injection e with e1 e2;subst e1 e2;obtain⟨_,p,hp,hs⟩:=vj a4;have:=hm p (ae hp);have er:=yo hp;unfold Zl yH
  erw[ah,aF,aW,er]
  lia
theorem qC{ps:List zp}{l:()}{m:Nat}(hN:NeL ps)(hm:∀p ∈ ps,p.2.length<=m):∀j,(wAt ps l j).length<=l.length+j * m
 | 0=>by simp [wAt]
 | j+1=>by
  have ih:=qC (l:=l) hN hm j;have hf:=Xf (wAt ps l j) ps hN;rw[eF]
  cases e:zE (wAt ps l j) ps with
  | none =>
   show (Xr ps (wAt ps l j)).length<=_;unfold Xr;rw[e];show (wAt ps l j).length<=_;lia
  | some u =>
   rw[yR e];rw[e]at hf;obtain⟨a,b⟩:=u;have:=Qw hf hm;lia
def UseAt(H:Hp)(r:Option (Nat × Nat))(v:V):Prop:=(r=tJ/\v=.non)\/∃(n q:Nat) (p:pE),r=tI (n,q)/\v=.ref p/\H p=tI (.tup [.int (n:Nat),.int (q:Nat)])
theorem UseAt.same{H H':Hp}{r:Option (Nat × Nat)}{v:V}(h:UseAt H r v)(s:Same H H'):UseAt H' r v:=by
 rcases h with h | ⟨n,q,p,h1,h2,h3⟩
 ·exact .inl h
 ·exact .inr #[n,q,p,h1,h2,s _ _ h3]
theorem Qm{l p:()}{lo hi:Int}{H:Hp}{Q:VK}(h0:0<=lo)(h1:0<=hi)(h:∀r:Int,((r=-1/\∀q:Nat,lo<=q->(q:Int)+p.length<=hi->zt l q p=tL)\/∃k:Nat,r=k/\lo<=k/\(k:Int)+p.length<=hi/\zt l k p=tK/\∀q:Nat,lo<=q->q<k->zt l q p=tL)->Q (.int r) H):Ks (.str (tx l)) [.str (tx p),.int lo,.int hi] H Q:=by
 refine#[l,p,lo,hi,rfl,rfl,h0,h1,λr hr=>h r ?_]
 have no:∀q:Nat,((l.drop q).take p.length≠p\/¬ q+p.length<=l.length)->zt l q p=tL:=λq hq=>decide_eq_false λ⟨_,b,c⟩=>by
  rcases hq with hq | hq
  ·exact hq c
  ·lia
 rcases hr with ⟨rfl,hn⟩ | ⟨k,rfl,k1,k2,k3,k4,hn⟩
 ·refine .inl #[rfl,λq q1 q2=>no q ?_];by_cases e:q+p.length<=l.length
  ·exact .inl (hn q q1 q2 e)
  ·exact .inr e
 ·exact .inr #[k,rfl,k1,k2,decide_eq_true #[⋯,⋯,k4],λq q1 q2=>no q (.inl (hn q q1 q2))]
def uD(K:pD):Sp:=λvs H Q _=>∃(a:pE) (l:()) (ps:List zp) (st en:Nat),vs=[.ref a,.str (tx l),.int (st:Nat),.int (en:Nat)]/\LsA K H a (ps.map dR)/\NeL ps/\(∀p ∈ ps,p.1.length<=1000)/\∀(r:Option (Nat × Nat)) (v:V) (H':Hp),Same H H'->UseAt H' r v->FirstN l ps st en ps.length r->Q v H'
theorem YI{a:pE}{l:()}{ps:List zp}{st en:Nat}{s e:Int}{H:Hp}{Q:VK}{E:XK}(hs:s=(st:Nat))(he:e=(en:Nat))(hA:LsA K H a (ps.map dR))(hN:NeL ps)(hP:∀p ∈ ps,p.1.length<=1000)(q:∀(r:Option (Nat × Nat)) (v:V) (H':Hp),Same H H'->UseAt H' r v->FirstN l ps st en ps.length r->Q v H'):uD K [.ref a,.str (tx l),.int s,.int e] H Q E:=by
 subst hs he;exact#[a,l,ps,st,en,rfl,hA,hN,hP,q]
theorem gq:sQz 4 ["rules","word","start","end","found","number","rule","place"] xK:=by nofun
theorem qt{f:pE}{fd:pH}(B:Bt mg)(F:("first_within"^^^xK)) :(1&&&["rules","word","start","end"]) (uD K):=by
 exists F.ok gq
 ·obtain⟨a,l,ps,st,en,rfl,hA,hN,hP,q⟩:=h
  refine#[_,(zi (zB 4 gq.nd yy)
   (zi (yh PassesOwn.never rfl (vR rfl B.enum (za (pv 0) zf)) (uJ (n:=2) rfl (zZ (zy (i:=5) gq.nd rfl (.inl rfl)) (zZ (zy (i:=6) gq.nd rfl (.inl rfl)) wy)))
    (zJ (zB 7 gq.nd (va bJ PySem.F.slot_str_find PySem.F.type_str_find zbi (pv 1) (za (zl ix_tup (pv 6) ze) (za (pv 2) (za (zx yB (zx jI (pv 3) ze) (zG B.len (zl ix_tup (pv 6) ze))) zf)))))
    (zg (zM (zA op_ge' (pv 7) ze (zC _))
     (zJ (zB 4 gq.nd (zY (za (pv 5) (za (pv 7) zf))))
     (zg (zB 3 gq.nd (pv 7))))
     zw))))
   (zg (zm (pv 4))))),?_]
  have s16:=z6;obtain⟨xs,hX,hI⟩:=id hA;have hxl:=hI.len;rw[af]at hxl;have s16:=z6;refine zj (λσ H'=>H'=H/\σ=[!!a,~~~l,-~~~st,-~~~en,tI (.non),tJ,tJ,tJ]) ?_ ?_
  ·rfl'
  rintro σ H1 ⟨rfl,rfl⟩:_;right;refine zj (λσ H'=>Same H1 H'/\∃(r:Option (Nat × Nat)) (v:V) (v3 v5 v6 v7:Option V),UseAt H' r v/\FirstN l ps st en ps.length r/\σ=[!!a,~~~l,-~~~st,v3,tI (v),v5,v6,v7]) ?_ ?_
  ·rfl'
   refine#[#[_,SqL.of hX],ForEL.by (xs:=xs) (λi σ H'=>Same H1 H'/\∃(r:Option (Nat × Nat)) (v:V) (v5 v6 v7:Option V),UseAt H' r v/\FirstN l ps st en i r/\σ=[!!a,~~~l,-~~~st,tI (.int (((r.map Prod.snd).getD en:Nat):Int)),tI (v),v5,v6,v7]) #[Same.refl _,tJ,.non,tJ,tJ,tJ,.inl #[rfl,rfl],.inl #[rfl,λj q h=>absurd h (cQ j)],rfl] (λi σ H' _ h=>SqL.of (h.1 _ _ hX)) ?_ ?_]
   ·rintro i y σ H' p hy ⟨hs,r,v,v5,v6,v7,hu,hF,rfl⟩ hpn;obtain⟨rl,pr,hri,rfl,hqr⟩:=hI.getR hy;have hm:=ae hri;have hne:=Ae.mpr (hN rl hm);have hrl:=hP rl hm;have s2:=hs.trans (zd (o:=.tup [.int (i:Nat),.ref pr]) hpn);have hq2:=zq s2 hqr;have hu2:=hu.same (zd (o:=.tup [.int (i:Nat),.ref pr]) hpn)
    rfl'
    refine#[_,SqT.of zc,rfl,_,_,rfl,_,_,rfl,rfl,_,rfl,_,hq2,_,rfl,_,rfl,_,hq2,_,rfl,_,#[by rw[zS];lia,rfl],Qm ⋯ (by rw[zS];lia) λz hz=>#[z,rfl,?_]];rw[zS]at hz;rcases hz with ⟨rfl,hn⟩ | ⟨k,rfl,k1,k2,k3,hn⟩
    ·rw[if_neg ∅];exact#[s2,r,v,hu2,hF.keep hri λq q1 q2=>hn q ⋯ ⋯,rfl,rfl]
    ·rw[if_pos ⋯];refine#[⋯,λp2 hp2=>#[s2.trans (zd hp2),tI (i,k),.ref p2,.inr #[i,k,p2,rfl,rfl,zc],hF.take hri ⋯ ⋯ k3 λq q1 q2=>hn q ⋯ q2,rfl,rfl]]
   ·rintro σ H' ⟨hs,r,v,v5,v6,v7,hu,hF,rfl⟩;rw[hxl]at hF;exact#[hs,r,v,hu,hF,_,_,_,_,rfl]
  rintro σ H2 ⟨s2,r,v,v3,v5,v6,v7,hu,hF,rfl⟩:_;right
  rfl'
  exact q r v H2 s2 hu hF
structure zeA(mg:pL->Option pF):Prop where
 g:∃t,mg "WINDOW" = tI (.int 128 t)
def Zb(K:pD):Sp:=λvs H Q _=>∃(a:pE) (l:()) (ps:List zp) (st:Nat),vs=[.ref a,.str (tx l),.int (st:Nat)]/\LsA K H a (ps.map dR)/\NeL ps/\(∀p ∈ ps,p.1.length<=1000)/\l.length<=100000/\∀(r:Option (Nat × Nat)) (v:V) (H':Hp),Same H H'->UseAt H' r v->FirstN l ps st l.length ps.length r->Q v H'
theorem ZB{a:pE}{l:()}{ps:List zp}{st:Nat}{s:Int}{H:Hp}{Q:VK}{E:XK}(hs:s=(st:Nat))(hA:LsA K H a (ps.map dR))(hN:NeL ps)(hP:∀p ∈ ps,p.1.length<=1000)(hl:l.length<=100000)(q:∀(r:Option (Nat × Nat)) (v:V) (H':Hp),Same H H'->UseAt H' r v->FirstN l ps st l.length ps.length r->Q v H'):Zb K [.ref a,.str (tx l),.int s] H Q E:=by
 subst hs;exact#[a,l,ps,st,rfl,hA,hN,hP,hl,q]
theorem gN:sQz 3 ["rules","word","start","size","found"] ww:=by nofun
theorem kZ{f:pE}{fd:pH}(B:Bt mg)(T:zeA mg)(F:("first_from"^^^ww))(nO:(1<<<"first_within") ["rules","word","start","end"] [] (uD K)):(2&&&["rules","word","start"]) (Zb K):=by
 obtain⟨t8,g8⟩:=T.g
 exists F.ok gN
 ·obtain⟨a,l,ps,st,rfl,hA,hN,hP,hl,q⟩:=h
  refine#[_,(zi (zB 3 gN.nd (yl (v:=.int 128) rfl g8 #[t8,rfl]))
   (zi (jX PassesOwn.never (zA Uh (pv 2) (zG B.len (pv 1)) (zC _))
    (zJ (zB 4 gN.nd (cl0 nO hr .nil rfl (za (pv 0) (za (pv 1) (za (pv 2) (za (zx yB (pv 2) (pv 3)) zf))))))
    (zJ (zM (zA op_notN' (pv 4) yy (zC _))
     (zg (zm (pv 4)))
     zw)
    (zJ (zB 2 gN.nd (zx yB (pv 2) (pv 3)))
    (zg (zB 3 gN.nd (zx jd (pv 3) ze)))))))
   (zg (zm yy)))),?_]
  have s16:=z6;have s16:=z6;refine zj (λσ H'=>H'=H/\σ=[!!a,~~~l,-~~~st,~~~!128,tJ]) ?_ ?_
  ·rfl'
  rintro σ H1 ⟨rfl,rfl⟩:_;right;refine zj (λσ H'=>Same H1 H'/\FirstN l ps st l.length ps.length tJ) ?_ ?_
  ·unfold Wh;refine#[λm σ H'=>∃(s z:Nat) (v4:Option V),m=l.length - s/\st<=s/\1<=z/\Same H1 H'/\FirstN l ps st s ps.length tJ/\σ=[!!a,~~~l,-~~~s,-~~~z,v4],#[_,st,128,tJ,rfl,ak _,∅,Same.refl _,.inl #[rfl,λj q _ h1 h2=>by lia],rfl],?_];rintro m σ H' ⟨s,z,v4,rfl,hs,hz,sm,hF,rfl⟩
   rfl'
   refine#[⋯,yM (λhlt=>?_) λhge=>#[sm,hF.toEnd hN λ_=>by lia]];refine#[λσ' H''=>∃v4:Option V,Same H1 H''/\FirstN l ps st (s+z) ps.length tJ/\σ'=[!!a,~~~l,tI (.int ((s+z:Nat):Int)),tI (.int ((z * 2:Nat):Int)),v4],λσ' H'' ⟨v4,a1,a2,a3⟩=>#[l.length - (s+z),⋯,s+z,rfl,⋯,z * 2,⋯,a1,a2,v4,a3],?_];refine YI (en:=s+z) rfl ⋯ (hA.same sm) hN hP λr v H2 s2 hu hF2=>?_;rcases hu with ⟨rfl,rfl⟩ | ⟨n,qq,p,rfl,rfl,hp⟩
   ·rw[if_neg (λh=>h rfl)];exact#[.inr #[∅,∅],tI .non,sm.trans s2,hF.window hs hF2,by push_cast;rfl]
   ·rw[if_pos (by intro h;cases h)];exact q _ _ H2 (sm.trans s2) (.inr #[n,qq,p,rfl,rfl,hp]) ((hF.window hs hF2).toEnd hN (λe=>by cases e))
  rintro σ H2 ⟨s2,hF⟩:_;right
  rfl'
  exact q tJ .non H2 s2 (.inl #[rfl,rfl]) hF
theorem LsA.pushT{H:Hp}{D p:pE}{ds es:List L3.D}{xs vs:List V}(h1:H D=tI (.lst xs))(h2:Iss K H ds xs)(hp:H p=tJ)(hv:Iss K H es vs)(f:zV ds)(fe:zV es):LsA K (upd (upd H p (.tup vs)) D (.lst (xs ++ [.ref p]))) D (ds ++ [.tup es]):=by
 have e:(upd H p (.tup vs)) D=tI (.lst xs):=zd hp _ _ h1;exact LsA.snoc e (Iss.same (zd hp) _ _ h2) f (by erw[xw];exact fe) (Is.tup hp hv)
structure zbe(K:pD)(mg:pL->Option pF)(C:pE):Prop where
 xi:XI K C
 ini:ag K (.ref C) "__init__" = tI (tI (.builtin "ValueError.__init__"))
 g:mg "TooFar" = tI (.ref C)
noncomputable def dG(u:Nat × Nat):L3.D:=.tup [.int (u.1:Nat),.int (u.2:Nat),.bl tK]
theorem zad(u:Nat × Nat):xw (dG u):=by erw[dG,xw,zV,and_self]
theorem QB(us:List (Nat × Nat)):zV (us.map dG):=wE λd h=>by obtain⟨r,_,rfl⟩:=tQ.mp h;exact zad r
theorem zdo{H:Hp}{n q:Nat}:Iss K H [.int (n:Nat),.int (q:Nat),.bl tK] [.int (n:Nat),.int (q:Nat),.bl tK]:=by
 erw[Iss,Is]
 exact#[_,_,rfl,rfl,_,_,rfl,rfl,_,_,rfl,rfl,rfl]
structure Rd(ps:List zp)(l:())(J:Nat):Prop where
 live:Y7 ps l J
 len:∀j,j<=J->(wAt ps l j).length<=10000
 most:J<=10000
def xL(K:pD)(CF:pE):Sp:=λvs H Q E=>∃(a:pE) (l:()) (ps:List zp) (m:Int) (J:Nat),vs=[.ref a,.str (tx l),.int m]/\LsA K H a (ps.map dR)/\NeL ps/\ps.length<=100/\(∀p ∈ ps,p.1.length<=1000/\p.2.length<=1000)/\Rd ps l J /\
 ((zE (wAt ps l J) ps=tJ/\(J:Int)<=m/\∀(p S:pE) (H':Hp),Same H H'->H' p=tI (.tup [.ref S,.str (tx (wAt ps l J))])->LsA K H' S ((sAt ps l J).map dG)->H S=tJ->Q (.ref p) H') \/
  (zE (wAt ps l J) ps≠tJ/\(J:Int)=m/\∀H',Same H H'->E (.ref CF) tJ H'))
theorem Qr{a:pE}{ps:List zp}{σ:L2.St}{H:Hp}{Q:VK}{D:pE}(hA:LsA K H a (ps.map dR))(hP:∀p ∈ ps,p.1.length<=1000)(hpl:ps.length<=100)(hD:H D=tJ)(q:∀H',Same H H'->H' D=tI (.lst ((ps.map λp=>(p.1.length:Int)).map V.int))->Q (.ref D) H') :
  CompL K a (yS 0) wU (tCB (Qt K) (zK (tOp (qO K) (yf 0) (tC (.int 0))) wn)) 1 [] σ H Q D:=by
 have s16:=z6;obtain⟨xs,hX,hI⟩:=hA;have hxl:=hI.len;rw[af]at hxl;refine CompL.by (xs:=xs) (λi tO H'=>Same H H'/\H' D=tI (.lst tO)/\tO=((ps.take i).map λp=>(p.1.length:Int)).map V.int) #[zd hD,zc,rfl] (λi tO H' _ h=>SqL.of (h.1 _ _ hX)) ?_ ?_
 ·refine nm4 ?_;rintro i x tO H' hx ⟨hs,hH,rfl⟩:_;have hil:=(tP.mp hx).1;obtain⟨r,pr,hri,rfl,hqr⟩:=hI.getR hx;have hm:=hP r (ae hri);right
  erw[wU]
  rfl'
  refine#[xv,_,zq hs hqr,_,rfl,_,#[by rw[zS];lia,rfl],hH,by rw[af,af,aF];lia,CNx.mk hil #[zD hs hD,zc,?_]];rw[zO hri,au,au,zS];rfl
 ·rintro tO H' ⟨hs,hH,rfl⟩;rw[hxl,aP]at hH;exact q H' hs hH
theorem zdt{H:Hp}{rs:List zp}{xs:List V}{i:Nat}{r:zp}(hI:Iss K H (rs.map dR) xs)(hi:rs[i]? = tI r):∃p,atI xs (i:Int)=tI (.ref p)/\SqT K H p [.str (tx r.1),.str (tx r.2)]:=by
 have hl:=hI.len;rw[af]at hl;have hil:=(tP.mp hi).1;obtain⟨v,a1,b1⟩:=qD (xs:=xs) (i:=(i:Int)) ⋯ ⋯;obtain⟨r',p,h1,rfl,h3⟩:=hI.getR (j:=i) b1;rw[hi]at h1;cases h1;exact#[p,a1,h3]
theorem iK:sQz 3 ["rules","word","most","longest","steps","use","number","place"] vg:=by nofun
theorem zaf{f CU CF:pE}{fd:pH}{dV:pF}(B:Bt mg)(T:zbe K mg CF)(TU:DNU P w K mg base CU)(F:FunD K "gone" "gone" vg dV f fd)(mG:(2<<<"first_from") ["rules","word","start"] [] (Zb K))(oh:(3>>>"put") ["word","place","old","new"] [] (Wt CU)):(4|||["rules","word","most"]) (xL K CF):=by
 exists FunD.okX F iK,0
 ·obtain⟨a,l,ps,m,J,rfl,hA,hN,hpl,hP,hR,hq⟩:=h
  refine#[_,(zi (zB 3 iK.nd (VO (zcf rfl) rfl B.max uZ (za (xA (own:=["rule"]) (caps:=[]) (ix:=[]) (tt:=wU) (te:=(tCB (Qt K) (zK (tOp (qO K) (yf 0) (tC (.int 0))) wn))) rfl (zL (sc:=zh vg) rfl (by symm) (by symm) (by symm) rfl (by symm) (by symm) rfl) (yJ (pv 0)) (λ_ _ _ _ _ _=>zy (i:=0) (show List.Nodup [_] by decide) rfl (.inl rfl)) (λ_ _ _ _ _ _=>yv) (λ_ _ _ _ _ _=>(zG B.len (zl ix_tup (pv 0) ze)))) zf) (VV ze Kw)))
   (zi (zB 4 iK.nd (wl zf))
   (zi (zB 5 iK.nd (cl0 mG hr .nil rfl (za (pv 0) (za (pv 1) (za ze zf)))))
   (zi (jX PassesOwn.leaving (zA op_notN' (pv 5) yy (zC _))
    (zi (zM (zA op_ge' (zG B.len (pv 4)) (pv 2) (zC _))
     (zg (yu hx rfl T.xi.toXC T.ini rfl T.g (za zX zf)))
     zw)
    (zi (zB 6 iK.nd (zl ix_tup (pv 5) ze))
    (zi (zB 7 iK.nd (zl ix_tup (pv 5) ze))
    (zi (zB 1 iK.nd (clP hx oh hr .nil rfl (za (pv 1) (za (pv 7) (za (zl ix_tup (zl ix_list (pv 0) (pv 6)) ze) (za (zl ix_tup (zl ix_list (pv 0) (pv 6)) ze) zf))))))
    (zi (xJ (va bv bQ bR xq (pv 4) (za (zY (za (pv 6) (za (pv 7) (za xO zf)))) zf)))
    (zg (zB 5 iK.nd (cl0 mG hr .nil rfl (za (pv 0) (za (pv 1) (za (wg (UB rfl) rfl B.max uZ (za ze (za (zx yB (zx jI (pv 7) (pv 3)) ze) zf))) zf))))))))))))
   (zg (zm (zY (za (pv 4) (za (pv 1) zf))))))))),?_]
  have s16:=z6;have s16:=z6;refine zj (λσ H'=>Same H H'/\∃M:Int,(∀p ∈ ps,(p.1.length:Int)<=M)/\σ=[!!a,~~~l,~~~!m,~~~!M,tJ,tJ,tJ,tJ]) ?_ ?_
  ·rfl'
   erw[zes]
   rfl'
   obtain⟨xs,hX,hI⟩:=id hA;exact#[#[_,SqL.of hX],λD hD=>Qr hA (λp hp=>(hP p hp).1) hpl hD λH' s' hH=>#[D,_,0,rfl,rfl,SqL.of hH,λz _ hz=>#[s',z,λp hp=>hz _ (tQ.mpr #[p,hp,rfl]),rfl]]]
  rintro σ H1 ⟨s1,M,hM,rfl⟩:_;right;refine zj (λσ H'=>Same H H'/\∃S:pE,H S=tJ/\H' S=tI (.lst [])/\σ=[!!a,~~~l,~~~!m,~~~!M,!!S,tJ,tJ,tJ]) ?_ ?_
  ·rfl'
   exact#[⋯,λp hp=>#[s1.trans (zd hp),p,s1.free hp,zc,rfl]]
  rintro σ H2 ⟨s2,S,hSn,hS,rfl⟩:_;right;refine zj (λσ H'=>Same H H'/\H' S=tI (.lst [])/\∃uv:V,UseAt H' (zE l ps) uv/\σ=[!!a,~~~l,~~~!m,~~~!M,!!S,tI (uv),tJ,tJ]) ?_ ?_
  ·rfl'
   exact ZB (st:=0) rfl (hA.same s2) hN (λp hp=>(hP p hp).1) (by have:=hR.len 0 (aE _);exact aN this ∅) λr v H' s' hu hF=>#[s2.trans s',s' _ _ hS,(by rw[XG hF]at hu;exact hu)]
  rintro σ H3 ⟨s3,hS3,uv,hu,rfl⟩:_;right;refine zj (λσ H'=>Same H H'/\zE (wAt ps l J) ps=tJ/\LsA K H' S ((sAt ps l J).map dG)/\∃v5 v6 v7,σ=[!!a,tI (.str (tx (wAt ps l J))),~~~!m,~~~!M,!!S,v5,v6,v7]) ?_ ?_
  ·unfold Wh;refine#[λk σ H'=>∃(j:Nat) (uv:V) (v6 v7:Option V),k=J - j/\j<=J/\Same H H'/\LsA K H' S ((sAt ps l j).map dG)/\UseAt H' (zE (wAt ps l j) ps) uv/\σ=[!!a,tI (.str (tx (wAt ps l j))),~~~!m,~~~!M,!!S,tI (uv),v6,v7],#[_,0,uv,tJ,tJ,rfl,aE _,s3,#[[],hS3,by erw[sAt,List.range_zero,aL,Iss]],hu,rfl],?_];rintro k σ H' ⟨j,uv,v6,v7,rfl,hj,hs,hL,hu,rfl⟩;have hlj:=hR.len j hj;have hRm:=hR.most;obtain⟨xs,hX,hI⟩:=id hA
   rfl'
   refine yM (λhne=>?_) λhne=>?_
   ·rcases hu with ⟨_,h⟩ | ⟨n,q0,p,hf,rfl,hp⟩
    ·exact absurd h hne
    have hF:=Xf (wAt ps l j) ps hN;rw[hf]at hF
    have hjJ:j<J\/(j=J/\(J:Int)=m/\∀H',Same H H'->E (.ref CF) tJ H'):=by
     by_cases e:j=J
     ·subst e;rcases hq with ⟨h,_⟩ | ⟨_,h1,h2⟩
      ·rw[hf]at h;cases h
      ·exact .inr #[rfl,h1,h2]
     ·exact .inl ⋯
    have hJm:(J:Int)<=m:=by
     rcases hq with ⟨_,h,_⟩ | ⟨_,h,_⟩ <;> lia
    obtain⟨rl,hrl,hst⟩:∃rl,ps[n]? = tI rl/\zt (wAt ps l j) (q0:Int) rl.1=tK:=by
     rcases hF with ⟨h,_⟩ | ⟨n0,q1,e,_,_,_,a4,_⟩
     ·cases h
     ·cases e;exact (vj a4).2
    have hlp:=hP rl (ae hrl);have hw:=yR hf;obtain⟨pr,hai,hqr⟩:=zdt hI hrl;refine#[λσ' H''=>∃(uv:V) (v6 v7:Option V),j<J/\Same H H''/\LsA K H'' S ((sAt ps l (j+1)).map dG)/\UseAt H'' (zE (wAt ps l (j+1)) ps) uv/\σ'=[!!a,tI (.str (tx (wAt ps l (j+1)))),~~~!m,~~~!M,!!S,tI (uv),v6,v7],λσ' H'' ⟨uv,v6,v7,a0,a1,a2,a3,a4⟩=>#[J - (j+1),⋯,j+1,rfl,⋯,a1,a2,uv,a3,v6,v7,a4],?_];obtain⟨ys,hY,hJ2⟩:=id hL;have hyl:=hJ2.len;rw[af,vq]at hyl;refine zj (λσ' H''=>H''=H'/\j<J/\σ'=[!!a,tI (.str (tx (wAt ps l j))),~~~!m,~~~!M,!!S,!!p,v6,v7]) ?_ ?_
    ·rfl'
     refine#[_,.inl #[_,SqL.of hY,rfl],yM (λhge=>?_) λhge=>?_]
     ·rcases hjJ with h | ⟨_,_,h⟩
      ·lia
      ·exact#[⋯,h _ hs]
     ·rcases hjJ with h | ⟨e,h,_⟩
      ·exact h
      ·lia
    rintro σ' G1 ⟨rfl,hlt,rfl⟩:_;right;refine zj (λσ' H''=>H''=G1/\σ'=[!!a,tI (.str (tx (wAt ps l j))),~~~!m,~~~!M,!!S,!!p,-~~~n,v7]) ?_ ?_
    ·rfl'
     exact#[_,SqT.of hp,rfl]
    rintro σ' G2 ⟨rfl,rfl⟩:_;right;refine zj (λσ' H''=>H''=G2/\σ'=[!!a,tI (.str (tx (wAt ps l j))),~~~!m,~~~!M,!!S,!!p,-~~~n,-~~~q0]) ?_ ?_
    ·rfl'
     exact#[_,SqT.of hp,rfl]
    rintro σ' G3 ⟨rfl,rfl⟩:_;right;refine zj (λσ' H''=>H''=G3/\σ'=[!!a,tI (.str (tx (wAt ps l (j+1)))),~~~!m,~~~!M,!!S,!!p,-~~~n,-~~~q0]) ?_ ?_
    ·rfl'
     have hq2:=zq hs hqr;exact#[_,SqL.of (hs _ _ hX),_,hai,_,rfl,_,hq2,_,rfl,_,SqL.of (hs _ _ hX),_,hai,_,rfl,_,hq2,_,rfl,wAt ps l j,rl.1,rl.2,(q0:Nat),rfl,hlj,by have:=hlp.1;lia,by have:=hlp.2;lia,λ_=>#[rfl,by rw[hw];unfold Zl;rw[yo hrl]],λh=>by rw[hst]at h;cases h]
    rintro σ' G4 ⟨rfl,rfl⟩:_;right;refine zj (λσ' H''=>Same H H''/\LsA K H'' S ((sAt ps l (j+1)).map dG)/\σ'=[!!a,tI (.str (tx (wAt ps l (j+1)))),~~~!m,~~~!M,!!S,!!p,-~~~n,-~~~q0]) ?_ ?_
    ·rfl'
     refine#[.inl #[_,SqL.of hY],⋯,λt ht=>#[_,zd ht _ _ hY,⋯,zD (hs.trans (zd ht)) hSn,?_]];rw[Wi,hf,au];exact LsA.pushT hY hJ2 ht zdo (QB _) (by erw[zV,xw,and_self])
    rintro σ' G5 ⟨s5,hL5,rfl⟩:_;have hl1:=hR.len (j+1) hlt;have hM0:=hM rl (ae hrl);right
    rfl'
    refine ZB (st:=(if (q0:Int) - M+1 > 0 then (q0:Int) - M+1 else 0).toNat) (by split <;> lia) (hA.same s5) hN (λp hp=>(hP p hp).1) (aN hl1 ∅) λr v H' s' hu hF2=>#[hlt,s5.trans s',hL5.same s',?_];have hb:=WD (M:=M.toNat) (lo:=(if (q0:Int) - M+1 > 0 then (q0:Int) - M+1 else 0).toNat) hF hN (λp hp=>by have:=hM p hp;lia) (by split <;> lia);rw[<- hw]at hb;rw[XG (hb.window (aE _) hF2)]at hu;exact hu
   ·have hv:uv=.non:=Decidable.not_not.mp hne
    have hf:zE (wAt ps l j) ps=tJ:=by
     rcases hu with ⟨h,_⟩ | ⟨_,_,_,_,h,_⟩
     ·exact h
     ·rw[hv]at h;cases h
    have e:j=J:=by
     rcases eI j J with h | h
     ·exact absurd hf (hR.live j h)
     ·lia
    subst e;exact#[hs,hf,hL,rfl]
  rintro σ H4 ⟨s4,hF,hL,v5,v6,v7,rfl⟩:_;right
  rfl'
  rcases hq with ⟨_,_,hq⟩ | ⟨h,_⟩
  ·exact#[⋯,λp hp=>hq p S _ (s4.trans (zd hp)) zc (hL.same (zd hp)) hSn]
  ·exact absurd hF h
noncomputable abbrev Stp:=Int × Int × Bool
noncomputable def dSt(t:Stp):D:=.tup [.int t.1,.int t.2.1,.bl t.2.2]
noncomputable def sdl(r:zp)(f:Bool):zp:=if f=tK then r else (r.2,r.1)
noncomputable def yn(ps:List zp)(w:())(t:Stp):Option (()) :=
 if 0<=t.1/\t.1<ps.length then (if zt w t.2.1 (sdl (ps.getD t.1.toNat ([],[])) t.2.2).1=tK then tI (yH w t.2.1 (sdl (ps.getD t.1.toNat ([],[])) t.2.2).1 (sdl (ps.getD t.1.toNat ([],[])) t.2.2).2)else tJ)else tJ
theorem Jy{H:Hp}{D p:pE}{ds es:List L3.D}{xs vs:List V}(h1:H D=tI (.lst xs))(h2:Iss K H ds xs)(hp:H p=tJ)(hv:Iss K H es vs)(f:zV ds)(fe:zV es):LsA K (upd (upd H p (.tup vs)) D (.lst (xs ++ [.ref p]))) D (ds ++ [.tup es]):=by
 have e:(upd H p (.tup vs)) D=tI (.lst xs):=zd hp _ _ h1;exact LsA.snoc e (Iss.same (zd hp) _ _ h2) f (by erw[xw];exact fe) (Is.tup hp hv)
theorem zcD{H:Hp}{l m:()}:Iss K H [dS l,dS m] [.str (tx l),.str (tx m)]:=by
 erw[Iss,Is]
 exact#[_,_,rfl,rfl,_,_,rfl,rfl,rfl]
def jY(rs:List zp):Prop:=rs.length<=30/\∀r ∈ rs,r.1.length<=100/\r.2.length<=100
theorem J5{H:Hp}{t:Stp}{v:V}(h:Is K H (dSt t) v):∃p,v=.ref p/\SqT K H p [.int t.1,.int t.2.1,.bl t.2.2]:=by
 erw[dSt,Is,Iss]at h
 obtain⟨a,xs,e,hs,v1,r1,rfl,rfl,v2,r2,rfl,rfl,v3,r3,rfl,rfl,rfl⟩:=h;exact#[a,e,hs]
theorem XR{H:Hp}{p:pE}{t:Stp}(h:SqT K H p [.int t.1,.int t.2.1,.bl t.2.2]):Is K H (dSt t) (.ref p):=by
 erw[dSt,Is,Iss]
 exact#[p,_,rfl,h,_,_,rfl,rfl,_,_,rfl,rfl,_,_,rfl,rfl,rfl]
theorem Kl{H:Hp}{i j:Int}{b:Bool}:Iss K H [.int i,.int j,.bl b] [.int i,.int j,.bl b]:=by
 erw[Iss,Is]
 exact#[_,_,rfl,rfl,_,_,rfl,rfl,_,_,rfl,rfl,rfl]
theorem vP(rs:List Stp):zV (rs.map dSt):=wE λd h=>by obtain⟨r,_,rfl⟩:=tQ.mp h;erw[dSt,xw,zV,and_self]
theorem vE{H:Hp}{rs:List Stp}{vs:List V}{j:Nat}{v:V}(h:Iss K H (rs.map dSt) vs)(q:vs[j]? = tI v):∃r p,rs[j]? = tI r/\v=.ref p/\SqT K H p [.int r.1,.int r.2.1,.bl r.2.2]:=by
 obtain⟨d,e,i⟩:=h.get q;rw[aA]at e;obtain⟨r,hr,rfl⟩:=tW.mp e;obtain⟨p,e1,e2⟩:=J5 i;exact#[r,p,hr,e1,e2]
theorem zcE{H:Hp}{rs:List zp}{xs:List V}{i:Int}(hI:Iss K H (rs.map dR) xs)(h0:0<=i)(hi:i<rs.length):∃p,atI xs i=tI (.ref p)/\rs[i.toNat]? = tI (rs.getD i.toNat ([],[]))/\SqT K H p [.str (tx (rs.getD i.toNat ([],[])).1),.str (tx (rs.getD i.toNat ([],[])).2)]:=by
 have hl:=hI.len;rw[af]at hl;obtain⟨v,a1,b1⟩:=qD (xs:=xs) (i:=i) h0 ⋯;obtain⟨r,p,h1,rfl,h3⟩:=hI.getR b1;have e:rs.getD i.toNat ([],[])=r:=by rw[ac,h1];rfl
 rw[e];exact#[p,a1,h1,h3]
theorem Yv{rs:List zp}(h:jY rs)(i:Nat):(rs.getD i ([],[])).1.length<=100/\(rs.getD i ([],[])).2.length<=100:=by
 rw[ac]
 cases e:rs[i]? with
 | none=>exact#[aE _,aE _]
 | some r=>exact h.2 r (ae e)
theorem xj{ps:List zp}{w:()}{t:Stp}(h:¬ (0<=t.1/\t.1<ps.length)):yn ps w t=tJ:=if_neg h
theorem yQ{ps:List zp}{w:()}{t:Stp}(h:0<=t.1/\t.1<ps.length):yn ps w t=if zt w t.2.1 (sdl (ps.getD t.1.toNat ([],[])) t.2.2).1=tK then tI (yH w t.2.1 (sdl (ps.getD t.1.toNat ([],[])) t.2.2).1 (sdl (ps.getD t.1.toNat ([],[])) t.2.2).2)else tJ:=if_pos h
def Ch(rs:List zp)(ws:List (()))(ss:List Stp):Prop:=ws.length=ss.length+1/\∀i s,ss[i]? = tI s->∃w w',ws[i]? = tI w/\ws[i+1]? = tI w'/\yn rs w s=tI w'
noncomputable def bk(s:Stp):Stp:=(s.1,s.2.1,!s.2.2)
noncomputable def yI(ss:List Stp):List Stp:=ss.reverse.map bk
noncomputable def mvL(ss:List Stp)(z:Int):List Stp:=ss.map λs=>(s.1,s.2.1+z,s.2.2)
theorem zat(r:zp)(f:Bool):sdl r (!f)=((sdl r f).2,(sdl r f).1):=by cases f <;> rfl
theorem jF{rs:List zp}{w w':()}{s:Stp}(h:yn rs w s=tI w'):yn rs w' (bk s)=tI w:=by
 by_cases hb:0<=s.1/\s.1<rs.length
 ·rw[yQ hb]at h;have hb':0<=(bk s).1/\(bk s).1<rs.length:=hb;rw[yQ hb']
  erw[bk,zat]
  generalize sdl (rs.getD s.1.toNat ([],[])) s.2.2=r at *;by_cases hs:zt w s.2.1 r.1=tK
  ·rw[if_pos hs]at h;cases h;obtain⟨e1,e2⟩:=Xj r.2 hs;rw[if_pos e1,e2]
  ·rw[if_neg hs]at h;cases h
 ·rw[xj hb]at h;cases h
theorem Ch.back{rs:List zp}{ws:List (())}{ss:List Stp}(h:Ch rs ws ss):Ch rs ws.reverse (yI ss):=by
 obtain⟨hl,hs⟩:=h;refine#[by simp [yI,hl],λi s hi=>?_];have hil:i<ss.length:=by have:=(tP.mp hi).1;simpa [yI] using this
 unfold yI at hi;rw[aA,bN hil]at hi;obtain⟨s0,h0,rfl⟩:=tW.mp hi;obtain⟨w,w',e1,e2,e3⟩:=hs _ _ h0;refine#[w',w,?_,?_,jF e3]
 ·rw[bN ⋯,<- e2];congr 1;lia
 ·rw[bN ⋯,<- e1];congr 1;lia
theorem Wa{a w b:()}{k:Nat}(h:k<=w.length):(a ++ w ++ b).drop (a.length+k)=w.drop k ++ b:=by
 rw[aK,<- fm,List.drop_left,cq h]
theorem kj{a w b o:()}{k:Int}(h:zt w k o=tK):zt (a ++ w ++ b) (k+(a.length:Int)) o=tK:=by
 obtain⟨_,_,h0,h1⟩:=zW h;unfold zt at h ⊢;rw[decide_eq_true_eq]at h ⊢;obtain⟨_,_,h2⟩:=h;refine#[⋯,by erw[ah];lia,?_];rw[show (k+(a.length:Int)).toNat=a.length+k.toNat by lia,Wa ⋯,bw (by rw[aW];lia),h2]
theorem WF{a w b o n:()}{k:Int}(h:zt w k o=tK):yH (a ++ w ++ b) (k+(a.length:Int)) o n=a ++ yH w k o n ++ b:=by
 obtain⟨_,_,h0,h1⟩:=zW h;unfold yH;rw[show (k+(a.length:Int)).toNat=a.length+k.toNat by lia]
 have e1:(a ++ w ++ b).take (a.length+k.toNat)=a ++ w.take k.toNat:=by
  rw[aK,List.take_length_add_append,bw ⋯]
 have e2:(a ++ w ++ b).drop (a.length+k.toNat+o.length)=w.drop (k.toNat+o.length) ++ b:=by
  rw[Nat.add_assoc];exact Wa ⋯
 rw[e1,e2];simp [aK]
theorem uH{rs:List zp}{w w':()}{s:Stp}(a b:())(h:yn rs w s=tI w'):yn rs (a ++ w ++ b) (s.1,s.2.1+(a.length:Int),s.2.2)=tI (a ++ w' ++ b):=by
 by_cases hb:0<=s.1/\s.1<rs.length
 ·rw[yQ hb]at h;rw[yQ (by exact hb)];simp only;generalize sdl (rs.getD s.1.toNat ([],[])) s.2.2=r at *;by_cases hs:zt w s.2.1 r.1=tK
  ·rw[if_pos hs]at h;cases h;rw[if_pos (kj hs),WF hs]
  ·rw[if_neg hs]at h;cases h
 ·rw[xj hb]at h;cases h
theorem Ch.within{rs:List zp}{ws:List (())}{ss:List Stp}(a b:())(h:Ch rs ws ss):Ch rs (ws.map λw=>a ++ w ++ b) (mvL ss (a.length:Int)):=by
 obtain⟨hl,hs⟩:=h;refine#[by simp [mvL,hl],λi s hi=>?_];unfold mvL at hi;rw[aA]at hi;obtain⟨s0,h0,rfl⟩:=tW.mp hi;obtain⟨w,w',e1,e2,e3⟩:=hs _ _ h0;exact#[a ++ w ++ b,a ++ w' ++ b,by rw[aA,e1];rfl,by rw[aA,e2];rfl,uH a b e3]
theorem JR{w o n:()}{k:Int}(h:zt w k o=tK):(yH w k o n).length+o.length=w.length+n.length:=by
 obtain⟨e,hl,h0,h1⟩:=zW h;unfold yH
 erw[ah,aW,hl]
 lia
theorem qd{H:Hp}{D p:pE}{ds es:List L3.D}{xs vs:List V}(h1:H D=tI (.lst xs))(h2:Iss K H ds xs)(hp:H p=tJ)(hv:Iss K H es vs)(f:zV ds)(fe:zV es):Iss K (upd (upd H p (.tup vs)) D (.lst (xs ++ [.ref p]))) (ds ++ [.tup es]) (xs ++ [.ref p]):=by
 obtain⟨ys,hy1,hy2⟩:=Jy h1 h2 hp hv f fe;rw[zc]at hy1;cases hy1;exact hy2
def uC(K:pD):Sp:=λvs H Q _=>∃(t:pE) (ss:List Stp),vs=[.ref t]/\Is K H (.lst (ss.map dSt)) (.ref t)/\ss.length<=1000/\∀(D:pE) (H':Hp),H D=tJ->Same H H'->LsA K H' D ((yI ss).map dSt)->Q (.ref D) H'
theorem qg{t:pE}{ss:List Stp}{H:Hp}{Q:VK}{E:XK}(h1:Is K H (.lst (ss.map dSt)) (.ref t))(h2:ss.length<=1000)(h:∀(D:pE) (H':Hp),H D=tJ->Same H H'->LsA K H' D ((yI ss).map dSt)->Q (.ref D) H'):uC K [.ref t] H Q E:=#[t,ss,rfl,h1,h2,h]
theorem zav{ss:List Stp}{i:Nat}{s:Stp}(h:ss.reverse[i]? = tI s):(yI ss).take (i+1)=(yI ss).take i ++ [bk s]:=zO (by unfold yI;rw[aA,h];rfl)
theorem zac:sQz 1 ["steps"] XV:=by nofun
theorem zab{f:pE}{fd:pH}(B:Bt mg)(F:("back"^^^XV)) :(1&&&["steps"]) (uC K):=by
 exists F.ok zac
 ·obtain⟨t,ss,rfl,hT,hsl,q⟩:=h;refine#[_,(zg (zm (xA (own:=["step"]) (caps:=[]) (ix:=[]) (tt:=wU) (te:=(Uj (zK (tOp (qO K) (yf 0) (tC (.int 0))) (zK (tOp (qO K) (yf 0) (tC (.int 1))) (zK (U7 (tOp (qO K) (yf 0) (tC (.int 2)))) wn))))) rfl (zL (sc:=zh XV) rfl (by symm) (by symm) (by symm) rfl (by symm) (by symm) rfl) (zb7 rfl B.rev (za (pv 0) zf)) (λ_ _ _ _ _ _=>zy (i:=0) (show List.Nodup [_] by decide) rfl (.inl rfl)) (λ_ _ _ _ _ _=>yv) (λ_ _ _ _ _ _=>(zY (za (zl ix_tup (pv 0) ze) (za (zl ix_tup (pv 0) ze) (za (Kj (zl ix_tup (pv 0) ze)) zf)))))))),?_];have s16:=z6
  rfl'
  erw[Is]at hT
  obtain⟨_,ts,e,hTs,hJ⟩:=hT;cases e;have htl:=hJ.len;rw[af]at htl;have hbl:(yI ss).length=ss.length:=by simp [yI]
  refine#[ts,hTs,λD hD=>CompV.by (xs:=ts) (λi tO H'=>Same H H'/\H' D=tI (.lst tO)/\Iss K H' (((yI ss).take i).map dSt) tO) #[zd hD,zc,by erw[bD,aL,Iss]] (λi tO H' _ h=>h.1.seq hTs) ?_ ?_]
  ·refine nm4 ?_;rintro i x tO H' hx ⟨hs,hH,hA⟩:_;have hi:i<ts.length:=by have:=(tP.mp hx).1;simpa using this
   rw[bN hi]at hx;obtain⟨s,ps,hsi,rfl,hqs⟩:=vE hJ hx;have hsr:ss.reverse[i]? = tI s:=by rw[bN ⋯,<- hsi,htl]
   have hal:=hA.len;rw[af,aF]at hal;right
   erw[wU]
   rfl'
   refine#[xv,_,zq hs hqs,_,rfl,_,zq hs hqs,_,rfl,_,zq hs hqs,_,rfl,_,rfl,⋯,λp hp=>#[zd hp _ _ hH,⋯,CNx.mk hi #[zD (hs.trans (zd hp)) hD,zc,?_]]];rw[zav hsr,au];exact qd hH hA hp Kl (vP _) (by erw[zV,xw,and_self])
  ·rintro tO H' ⟨hs,hH,hA⟩;rw[htl,<- hbl,aP]at hA;exact q D H' hD hs #[tO,hH,hA]
def kW(K:pD):Sp:=λvs H Q _=>∃(t:pE) (ss:List Stp) (z:Int),vs=[.ref t,.int z]/\Is K H (.lst (ss.map dSt)) (.ref t)/\ss.length<=1000/\∀(D:pE) (H':Hp),H D=tJ->Same H H'->LsA K H' D ((mvL ss z).map dSt)->Q (.ref D) H'
theorem Z4{t:pE}{ss:List Stp}{z:Int}{H:Hp}{Q:VK}{E:XK}(h1:Is K H (.lst (ss.map dSt)) (.ref t))(h2:ss.length<=1000)(h:∀(D:pE) (H':Hp),H D=tJ->Same H H'->LsA K H' D ((mvL ss z).map dSt)->Q (.ref D) H'):kW K [.ref t,.int z] H Q E:=#[t,ss,z,rfl,h1,h2,h]
theorem Q4:sQz 2 ["steps","size"] Zk:=by nofun
theorem Jz{f:pE}{fd:pH}(B:Bt mg)(F:("moved"^^^Zk)) :(1&&&["steps","size"]) (kW K):=by
 exists F.ok Q4
 ·obtain⟨t,ss,z,rfl,hT,hsl,q⟩:=h;refine#[_,(zg (zm (xA (own:=["step"]) (caps:=["size"]) (ix:=[1]) (tt:=wU) (te:=(Uj (zK (tOp (qO K) (yf 0) (tC (.int 0))) (zK (tOp jt (tOp (qO K) (yf 0) (tC (.int 1))) (yf 1)) (zK (tOp (qO K) (yf 0) (tC (.int 2))) wn))))) rfl (zL (sc:=zh Zk) rfl (by symm) (by symm) (by symm) rfl (by symm) (by symm) rfl) (yJ (pv 0)) (λ_ _ _ _ _ _=>zy (i:=0) (show List.Nodup [_,_] by decide) rfl (.inl rfl)) (λ_ _ _ _ _ _=>yv) (λ_ _ _ _ _ _=>(zY (za (zl ix_tup (pv 0) ze) (za (zx yX (zl ix_tup (pv 0) ze) (pv 1)) (za (zl ix_tup (pv 0) ze) zf)))))))),?_];have s16:=z6
  rfl'
  erw[Is]at hT
  obtain⟨_,ts,e,hTs,hJ⟩:=hT;cases e;have htl:=hJ.len;rw[af]at htl;have hbl:(mvL ss z).length=ss.length:=by simp [mvL]
  refine#[#[ts,hTs],λD hD=>CompL.by (xs:=ts) (λi tO H'=>Same H H'/\H' D=tI (.lst tO)/\Iss K H' (((mvL ss z).take i).map dSt) tO) #[zd hD,zc,by erw[bD,aL,Iss]] (λi tO H' _ h=>h.1.seq hTs) ?_ ?_]
  ·refine nm4 ?_;rintro i x tO H' hx ⟨hs,hH,hA⟩:_;have hi:=(tP.mp hx).1;obtain⟨s,ps,hsi,rfl,hqs⟩:=vE hJ hx;have hm:(mvL ss z)[i]? = tI (s.1,s.2.1+z,s.2.2):=by unfold mvL;rw[aA,hsi];rfl
   have hal:=hA.len;rw[af,aF]at hal;right
   erw[wU]
   rfl'
   refine#[xv,_,zq hs hqs,_,rfl,_,zq hs hqs,_,rfl,_,zq hs hqs,_,rfl,⋯,λp hp=>#[zd hp _ _ hH,⋯,CNx.mk hi #[zD (hs.trans (zd hp)) hD,zc,?_]]];rw[zO hm,au];exact qd hH hA hp Kl (vP _) (by erw[zV,xw,and_self])
  ·rintro tO H' ⟨hs,hH,hA⟩;rw[htl,<- hbl,aP]at hA;exact q D H' hD hs #[tO,hH,hA]
noncomputable abbrev Ent:=() × () × List Stp
variable{E:XK}{H:Hp}{Q:VK}{bs:List Ent}{e:Ent}{es:List Ent}{f:pE}{fd:pH}{k:Nat}{ns:List Int}{p:zp}{ps:List zp}{rs:List zp}{ss:List Stp}
noncomputable def dE(e:Ent):L3.D:=.tup [dS e.1,dS e.2.1,.lst (e.2.2.map dSt)]
noncomputable def Xg(es:List Ent)(u:Stp):List Stp:=mvL (if u.2.2=tK then (es.getD u.1.toNat ([],[],[])).2.2 else yI (es.getD u.1.toNat ([],[],[])).2.2) u.2.1
noncomputable def byL(es:List Ent)(us:List Stp):List Stp:=us.flatMap (Xg es)
theorem zcQ{v:V}(h:Is K H (dE e) v):∃p s,v=.ref p/\SqT K H p [.str (tx e.1),.str (tx e.2.1),.ref s]/\Is K H (.lst (e.2.2.map dSt)) (.ref s):=by
 erw[dE,Is,Iss]at h
 obtain⟨a,xs,e0,hs,v1,r1,rfl,rfl,v2,r2,rfl,rfl,v3,r3,rfl,⟨s,zs,rfl,h1,h2⟩,rfl⟩:=h;refine#[a,s,e0,hs,?_]
 erw[Is]
 exact#[s,zs,rfl,h1,h2]
theorem ze3{xs:List V}{i:Int}(hI:Iss K H (es.map dE) xs)(h0:0<=i)(hi:i<es.length):∃p s,atI xs i=tI (.ref p)/\es[i.toNat]? = tI (es.getD i.toNat ([],[],[]))/\SqT K H p [.str (tx (es.getD i.toNat ([],[],[])).1),.str (tx (es.getD i.toNat ([],[],[])).2.1),.ref s]/\Is K H (.lst ((es.getD i.toNat ([],[],[])).2.2.map dSt)) (.ref s):=by
 have hl:=hI.len;rw[af]at hl;obtain⟨v,a1,b1⟩:=qD (xs:=xs) (i:=i) h0 ⋯;obtain⟨d,e,ix⟩:=hI.get b1;rw[aA]at e;obtain⟨r,hr,rfl⟩:=tW.mp e;have e:es.getD i.toNat ([],[],[])=r:=by rw[ac,hr];rfl
 rw[e];obtain⟨p,s,rfl,h2,h3⟩:=zcQ ix;exact#[p,s,a1,hr,h2,h3]
theorem ZE(ss:List Stp)(z:Int):(mvL ss z).length=ss.length:=by simp [mvL]
theorem yg(ss:List Stp):(yI ss).length=ss.length:=by simp [yI]
def Uw(K:pD):Sp:=λvs H Q _=>∃(a t:pE) (es:List Ent) (us:List Stp),vs=[.ref a,.ref t]/\Is K H (.lst (es.map dE)) (.ref a)/\Is K H (.lst (us.map dSt)) (.ref t)/\us.length<=100/\(∀e ∈ es,e.2.2.length<=600)/\(∀u ∈ us,0<=u.1/\u.1<es.length)/\∀(D:pE) (H':Hp),H D=tJ->Same H H'->LsA K H' D ((byL es us).map dSt)->Q (.ref D) H'
theorem li:sQz 2 ["entries","steps","chain","step","own"] uq:=by nofun
theorem YA(B:Bt mg)(F:("by_pacts"^^^uq))(oY:(1<<<"moved") ["steps","size"] [] (kW K))(lD:(1<<<"back") ["steps"] [] (uC K)):(2&&&["entries","steps"]) (Uw K):=by
 exists F.ok li
 ·obtain⟨a,t,es,us,rfl,hE,hU,hul,hel,hub,q⟩:=h
  refine#[_,(zi (zB 2 li.nd (wl zf))
   (zi (yh PassesOwn.never rfl (yJ (pv 1)) (zy (i:=3) li.nd rfl (.inl rfl))
    (zi (zB 4 li.nd (zl ix_tup (zl ix_list (pv 0) (zl ix_tup (pv 3) ze)) ze))
    (zg (xJ (va bv eO eP Zy (pv 2) (za (cl0 oY hr .nil rfl (za (vD (xg (zl ix_tup (pv 3) ze) (λ_=>rfl)) (pv 4) (cl0 lD hr .nil rfl (za (pv 4) zf))) (za (zl ix_tup (pv 3) ze) zf))) zf))))))
   (zg (zm (pv 2))))),?_]
  have s16:=z6;have hE':=hE;have hU':=hU
  erw[Is]at hE' hU'
  obtain⟨_,xs,e,hX,hI⟩:=hE';cases e;obtain⟨_,ts,e,hTs,hJ⟩:=hU';cases e;have htl:=hJ.len;rw[af]at htl;refine zj (λσ H'=>∃D,H D=tJ/\Same H H'/\H' D=tI (.lst [])/\σ=[!!a,!!t,!!D,tJ,tJ]) ?_ ?_
  ·rfl'
   exact#[⋯,λp hp=>#[p,hp,zd hp,zc,rfl]]
  rintro σ H1 ⟨D,hD,s1,hD1,rfl⟩:_;right;refine zj (λσ H'=>Same H H'/\LsA K H' D ((byL es us).map dSt)/\∃v3 v4,σ=[!!a,!!t,!!D,v3,v4]) ?_ ?_
  ·rfl'
   refine#[#[_,s1.seq hTs],ForL.by (xs:=ts) (λi σ H'=>Same H H'/\LsA K H' D ((byL es (us.take i)).map dSt)/\(byL es (us.take i)).length<=i * 600/\∃v3 v4,σ=[!!a,!!t,!!D,v3,v4]) #[s1,#[[],hD1,by erw[bD,byL,eQ,aL,Iss]],by simp [byL],_,_,rfl] (λi σ H' _ h=>h.1.seq hTs) ?_ ?_]
   ·refine nm4 ?_;rintro i x σ H' hx ⟨hs,hL,hl,v3,v4,rfl⟩:_;obtain⟨u,pu,hui,rfl,hqu⟩:=vE hJ hx;have hil:=(tP.mp hui).1;obtain⟨u0,u1⟩:=hub u (ae hui);obtain⟨pe,se,g1,g2,g3,g4⟩:=ze3 hI u0 u1;have hle:=hel _ (ae g2)
    have hby:byL es (us.take (i+1))=byL es (us.take i) ++ Xg es u:=by
     unfold byL;rw[zO hui,cr];simp
    right
    erw[yS,be,bc]
    refine zj (λσ H''=>H''=H'/\σ=[!!a,!!t,!!D,!!pu,!!se]) ?_ ?_
    ·rfl'
     exact#[_,zq hs hqu,_,rfl,_,rfl,_,hs.seq hX,_,g1,_,rfl,_,zq hs g3,rfl]
    rintro σ G ⟨rfl,rfl⟩:_;obtain⟨zs,hZ,hZI⟩:=id hL;have hzl:=hZI.len;rw[af]at hzl;have hse:=Is.same hs _ _ g4
    have fin:∀(ws:List Stp) (M:pE) (G2:Hp),Xg es u=ws->ws.length<=600->Same G G2->LsA K G2 M (ws.map dSt)->Ux (V.ref D) [V.ref M] G2 λx H1=>Same H H1/\LsA K H1 D ((byL es (us.take (i+1))).map dSt)/\(byL es (us.take (i+1))).length<=(i+1) * 600:=λws M G2 ew hwl sg hM=>by
     obtain⟨ys,hY,hYI⟩:=hM;have hyl:=hYI.len;rw[af]at hyl;have hZ2:=sg _ _ hZ;refine#[D,M,zs,ys,rfl,rfl,hZ2,hY,⋯,zD (hs.trans sg) hD,#[_,zc,?_],?_]
     ·rw[hby,ew,au];exact Iss.append (Iss.updL hZ2 _ _ (vP _) (Iss.same sg _ _ hZI)) (Iss.updL hZ2 _ _ (vP _) hYI)
     ·rw[hby,ew,ah];lia
    right
    rfl'
    refine#[.inl #[_,SqL.of hZ],_,zq hs hqu,_,rfl,_,rfl,yM (λhf=>#[_,zq hs hqu,_,rfl,Z4 hse ⋯ λM G2 _ sg hM=>fin _ M G2 (by unfold Xg;rw[if_pos hf]) (by rw[ZE];lia) sg hM]) λhf=>qg hse ⋯ λM0 G1 _ sg0 hM0=>#[_,zq (hs.trans sg0) hqu,_,rfl,Z4 hM0.is (by rw[yg];lia) λM G2 _ sg hM=>fin _ M G2 (by unfold Xg;rw[if_neg hf]) (by rw[ZE,yg];lia) (sg0.trans sg) hM]]
   ·rintro σ H' ⟨hs,hL,hl,v3,v4,rfl⟩;rw[htl,aP]at hL;exact#[hs,hL,_,_,rfl]
  rintro σ H2 ⟨s2,hL2,v3,v4,rfl⟩:_;right
  rfl'
  exact q D H2 hD s2 hL2
noncomputable def ya(rs:List zp):()->List Stp->Option (())
 | w,[]=>tI w
 | w,s::ss=>(yn rs w s).bind λw'=>ya rs w' ss
theorem xz(rs:List zp):∀(ss ts:List Stp) (w:()),ya rs w (ss ++ ts)=(ya rs w ss).bind λw'=>ya rs w' ts
 | [],ts,w=>rfl
 | s::ss,ts,w=>by
  erw[aY,ya]
  cases yn rs w s with
  | none=>rfl
  | some w1=>exact xz rs ss ts w1
theorem qu{s:Stp}{w w':()}(h:ya rs w (s::ss)=tI w'):∃w1,yn rs w s=tI w1/\ya rs w1 ss=tI w':=by
 erw[ya]at h
 obtain⟨w1,h1,h2⟩:=Ag.mp h;exact#[w1,h1,h2]
theorem ZM{s:Stp}{w w1 w2:()}(h:ya rs w ss=tI w1)(h2:yn rs w1 s=tI w2):ya rs w (ss ++ [s])=tI w2:=by
 rw[xz,h]
 erw[ya,bY]
 rw[h2];rfl
theorem VL(s:Stp)(ss:List Stp):yI (s::ss)=yI ss ++ [bk s]:=by simp [yI]
theorem wu:∀{ss:List Stp} {w w':()},ya rs w ss=tI w'->ya rs w' (yI ss)=tI w
 | [],w,w',h=>by cases h;rfl
 | s::ss,w,w',h=>by
  obtain⟨w1,h1,h2⟩:=qu h;rw[VL];exact ZM (wu h2) (jF h1)
theorem qW(a b:()):∀{ss:List Stp} {w w':()},ya rs w ss=tI w'->ya rs (a ++ w ++ b) (mvL ss (a.length:Int))=tI (a ++ w' ++ b)
 | [],w,w',h=>by cases h;rfl
 | s::ss,w,w',h=>by
  obtain⟨w1,h1,h2⟩:=qu h;have e:mvL (s::ss) (a.length:Int)=(s.1,s.2.1+(a.length:Int),s.2.2)::mvL ss (a.length:Int):=rfl;rw[e]
  erw[ya]
  rw[uH a b h1];exact qW a b h2
def EOk(rs:List zp)(e:Ent):Prop:=ya rs e.1 e.2.2=tI e.2.1
noncomputable def zb(es:List Ent):List zp:=es.map λe=>(e.1,e.2.1)
theorem JC(hE:∀e ∈ es,EOk rs e){u:Stp}{w w':()}(h:yn (zb es) w u=tI w'):ya rs w (Xg es u)=tI w':=by
 have hb:0<=u.1/\u.1<(zb es).length:=bM λhb=>by rw[xj hb]at h;cases h
 rw[yQ hb]at h;have hl:(zb es).length=es.length:=by unfold zb;rw[af]
 rw[hl]at hb
 have hg:es[u.1.toNat]? = tI (es.getD u.1.toNat ([],[],[])):=by
  rw[ac,aj ⋯];rfl
 have hp:(zb es).getD u.1.toNat ([],[])=((es.getD u.1.toNat ([],[],[])).1,(es.getD u.1.toNat ([],[],[])).2.1):=by
  unfold zb;rw[ac,aA,hg];rfl
 rw[hp]at h;have he:=hE _ (ae hg);unfold Xg;generalize es.getD u.1.toNat ([],[],[])=e at *
 have key:∀(o n:()) (ss:List Stp),sdl (e.1,e.2.1) u.2.2=(o,n)->ya rs o ss=tI n->ya rs w (mvL ss u.2.1)=tI w':=λo n ss hs hw=>by
  rw[hs]at h;by_cases hst:zt w u.2.1 o=tK
  ·rw[if_pos hst]at h;cases h;obtain⟨e1,e2,h0,h1⟩:=zW hst;have:=qW (w.take u.2.1.toNat) (w.drop (u.2.1.toNat+o.length)) hw;rw[e1,e2,show ((u.2.1.toNat:Nat):Int)=u.2.1 by lia]at this;exact this
  ·rw[if_neg hst]at h;cases h
 cases hf:u.2.2 with
 | true =>
  rw[if_pos rfl];exact key e.1 e.2.1 e.2.2 (by rw[hf];rfl) he
 | false =>
  rw[if_neg ∅];exact key e.2.1 e.1 (yI e.2.2) (by rw[hf];rfl) (wu he)
theorem qM(hE:∀e ∈ es,EOk rs e):∀{us:List Stp} {w w':()},ya (zb es) w us=tI w'->ya rs w (byL es us)=tI w'
 | [],w,w',h=>by cases h;rfl
 | u::us,w,w',h=>by
  obtain⟨w1,h1,h2⟩:=qu h;have e:byL es (u::us)=Xg es u ++ byL es us:=by simp [byL]
  rw[e,xz,JC hE h1];exact qM hE h2
theorem UZ(ok:jY rs){w w':()}{s:Stp}(h:yn rs w s=tI w'):w'.length<=w.length+100:=by
 have hb:0<=s.1/\s.1<rs.length:=bM λhb=>by rw[xj hb]at h;cases h
 rw[yQ hb]at h;have g:=Yv ok s.1.toNat;generalize rs.getD s.1.toNat ([],[])=r at *;by_cases hs:zt w s.2.1 (sdl r s.2.2).1=tK
 ·rw[if_pos hs]at h;cases h;have:=JR (n:=(sdl r s.2.2).2) hs
  have h2:(sdl r s.2.2).2.length<=100:=by
   cases s.2.2
   ·exact g.1
   ·exact g.2
  lia
 ·rw[if_neg hs]at h;cases h
noncomputable def jB(D:pE)(H:Hp):Hp:=λb=>if b=D then tJ else H b
theorem wM{D b:pE}(h:b≠D):jB D H b=H b:=by unfold jB;rw[if_neg h]
theorem qw{D:pE}:jB D H D=tJ:=by unfold jB;rw[if_pos rfl]
theorem wq{D:pE}:Same (jB D H) H:=λb o e=>by
 by_cases hb:b=D
 ·rw[hb,qw]at e;cases e
 ·rw[wM hb]at e;exact e
theorem Vd{D:pE}{H H':Hp}(hD:H D=tJ)(s:Same H H'):Same H (jB D H'):=λb o e=>by
 have hb:b≠D:=λz=>by rw[z,hD]at e;cases e
 rw[wM hb];exact s _ _ e
theorem wL{D:pE}{H H':Hp}(s:Same H H'):Same (jB D H) (jB D H'):=λb o e=>by
 by_cases hb:b=D
 ·rw[hb,qw]at e;cases e
 ·rw[wM hb]at e ⊢;exact s _ _ e
theorem xD{D:pE}{o:HO}:Same (jB D H) (jB D (upd H D o)):=λb o' e=>by
 by_cases hb:b=D
 ·rw[hb,qw]at e;cases e
 ·rw[wM hb]at e ⊢;rw[zo hb];exact e
theorem Vi{D a:pE}{xs ys:List V}(hD:H D=tI (.lst ys))(h:SqT K H a xs):SqT K (jB D H) a xs:=by
 rcases h with (h | ⟨o,h⟩) | h
 ·exact .inl (.inl (by rw[wM (λe=>by rw[e,hD]at h;cases h)];exact h))
 ·exact .inl (.inr #[o,by rw[wM (λe=>by rw[e,hD]at h;cases h)];exact h])
 ·exact .inr h
theorem Xp{D:pE}{ys:List V}(hD:H D=tI (.lst ys)):∀(ss:List Stp) (vs:List V),Iss K H (ss.map dSt) vs->Iss K (jB D H) (ss.map dSt) vs
 | [],vs,h=>by erw[aL,Iss]at h ⊢;exact h
 | s::ss,vs,h=>by
  erw[ar,Iss]at h ⊢
  obtain⟨v,r,rfl,h1,h2⟩:=h;obtain⟨p,rfl,h3⟩:=J5 h1;exact#[_,r,rfl,XR (Vi hD h3),Xp hD ss r h2]
theorem zdm{p s:pE}(h1:SqT K H p [.str (tx e.1),.str (tx e.2.1),.ref s])(h2:Is K H (.lst (e.2.2.map dSt)) (.ref s)):Is K H (dE e) (.ref p):=by
 erw[dE,Is,Iss]
 erw[Is]at h2
 exact#[p,_,rfl,h1,_,_,rfl,rfl,_,_,rfl,rfl,_,_,rfl,h2,rfl]
theorem Wm{vs:List V}{j:Nat}{v:V}(h:Iss K H (es.map dE) vs)(q:vs[j]? = tI v):∃e p s,es[j]? = tI e/\v=.ref p/\SqT K H p [.str (tx e.1),.str (tx e.2.1),.ref s]/\Is K H (.lst (e.2.2.map dSt)) (.ref s):=by
 obtain⟨d,e,i⟩:=h.get q;rw[aA]at e;obtain⟨r,hr,rfl⟩:=tW.mp e;obtain⟨p,s,e1,e2,e3⟩:=zcQ i;exact#[r,p,s,hr,e1,e2,e3]
theorem zaw{d:L3.D}{v:V}(h:Is K H d v):Iss K H [d] [v]:=by
 erw[Iss]
 exact#[v,[],rfl,h,rfl]
def EnA(K:pD)(H:Hp)(e:Ent)(v:V):Prop:=∃p s,v=.ref p/\SqT K H p [.str (tx e.1),.str (tx e.2.1),.ref s]/\LsA K H s (e.2.2.map dSt)
def EnsA(K:pD)(H:Hp):List Ent->List V->Prop
 | [],vs=>vs=[]
 | e::es,vs=>∃v r,vs=v::r/\EnA K H e v/\EnsA K H es r
def EnsL(K:pD)(H:Hp)(a:pE)(es:List Ent):Prop:=∃xs,SqL K H a xs/\EnsA K H es xs
def EnsM(K:pD)(H:Hp)(a:pE)(es:List Ent):Prop:=∃xs,H a=tI (.lst xs)/\EnsA K H es xs
theorem EnA.is{v:V}(h:EnA K H e v):Is K H (dE e) v:=by
 obtain⟨p,s,rfl,h1,h2⟩:=h;exact zdm h1 h2.is
theorem EnA.same{H H':Hp}{v:V}(h:EnA K H e v)(q:Same H H'):EnA K H' e v:=by
 obtain⟨p,s,e0,h1,h2⟩:=h;exact#[p,s,e0,zq q h1,h2.same q]
theorem EnsA.iss:∀{es:List Ent} {vs:List V},EnsA K H es vs->Iss K H (es.map dE) vs
 | [],vs,h=>by erw[EnsA]at h;erw[aL,Iss];exact h
 | e::es,vs,h=>by
  erw[EnsA]at h
  obtain⟨v,r,rfl,h1,h2⟩:=h
  erw[ar,Iss]
  exact#[v,r,rfl,h1.is,h2.iss]
theorem EnsA.len{vs:List V}(h:EnsA K H es vs):vs.length=es.length:=by
 have:=h.iss.len;rw[af]at this;exact this
theorem EnsA.same{H H':Hp}(q:Same H H'):∀{es:List Ent} {vs:List V},EnsA K H es vs->EnsA K H' es vs
 | [],vs,h=>by erw[EnsA]at h ⊢;exact h
 | e::es,vs,h=>by
  erw[EnsA]at h ⊢
  obtain⟨v,r,e0,h1,h2⟩:=h;exact#[v,r,e0,h1.same q,h2.same q]
theorem EnsA.snoc{v:V}(hv:EnA K H e v):∀{es:List Ent} {vs:List V},EnsA K H es vs->EnsA K H (es ++ [e]) (vs ++ [v])
 | [],vs,h=>by
  erw[EnsA]at h
  subst h
  erw[aU,EnsA]
  exact#[v,[],rfl,hv,rfl]
 | e'::es,vs,h=>by
  erw[EnsA]at h
  obtain⟨x,r,rfl,hx,hr⟩:=h
  erw[aY,EnsA]
  exact#[x,r ++ [v],rfl,hx,hr.snoc hv]
theorem EnsA.get:∀{es:List Ent} {vs:List V} {j:Nat} {v:V},EnsA K H es vs->vs[j]? = tI v->∃e p s,es[j]? = tI e/\v=.ref p/\SqT K H p [.str (tx e.1),.str (tx e.2.1),.ref s]/\LsA K H s (e.2.2.map dSt)
 | [],vs,j,v,h,q=>by
  erw[EnsA]at h
  subst h;simp at q
 | e::es,vs,0,v,h,q=>by
  erw[EnsA]at h
  obtain⟨x,r,rfl,⟨p,s,rfl,h1,h2⟩,_⟩:=h;cases q;exact#[e,p,s,rfl,rfl,h1,h2]
 | e::es,vs,j+1,v,h,q=>by
  erw[EnsA]at h
  obtain⟨x,r,rfl,_,hr⟩:=h;exact hr.get (j:=j) (by simpa using q)
theorem EnsL.is{a:pE}(h:EnsL K H a es):Is K H (.lst (es.map dE)) (.ref a):=by
 obtain⟨xs,h1,h2⟩:=h
 erw[Is]
 exact#[a,xs,rfl,h1,h2.iss]
theorem EnsL.same{H H':Hp}{a:pE}(h:EnsL K H a es)(q:Same H H'):EnsL K H' a es:=by
 obtain⟨xs,h1,h2⟩:=h;exact#[xs,q.seq h1,h2.same q]
theorem EnsM.l{a:pE}(h:EnsM K H a es):EnsL K H a es:=by
 obtain⟨xs,h1,h2⟩:=h;exact#[xs,SqL.of h1,h2]
theorem EnsM.same{H H':Hp}{a:pE}(h:EnsM K H a es)(q:Same H H'):EnsM K H' a es:=by
 obtain⟨xs,h1,h2⟩:=h;exact#[xs,q _ _ h1,h2.same q]
theorem EnA.new{D p s:pE}{ys:List V}(hD:H D=tI (.lst ys))(hp:H p=tI (.tup [.str (tx e.1),.str (tx e.2.1),.ref s]))(hs:LsA K H s (e.2.2.map dSt))(hsD:s≠D):EnA K (jB D H) e (.ref p):=by
 obtain⟨zs,hz,hi⟩:=hs;have hpD:p≠D:=λz=>by rw[z,hD]at hp;cases hp
 exact#[p,s,rfl,SqT.of (by rw[wM hpD];exact hp),zs,by rw[wM hsD];exact hz,Xp hD _ _ hi]
theorem xQ(es:List Ent):(zb es).length=es.length:=by unfold zb;rw[af]
def x0(K:pD):Sp:=λvs H Q _=>∃(a:pE) (es:List Ent),vs=[.ref a]/\Is K H (.lst (es.map dE)) (.ref a)/\es.length<=1000/\∀(D:pE) (H':Hp),H D=tJ->Same H H'->LsA K H' D ((zb es).map dR)->Q (.ref D) H'
theorem xT{a:pE}(h1:Is K H (.lst (es.map dE)) (.ref a))(h2:es.length<=1000)(h:∀(D:pE) (H':Hp),H D=tJ->Same H H'->LsA K H' D ((zb es).map dR)->Q (.ref D) H'):x0 K [.ref a] H Q E:=#[a,es,rfl,h1,h2,h]
theorem Y5:sQz 1 ["entries"] wV:=by nofun
theorem Xe(B:Bt mg)(F:("pairs_of"^^^wV)) :(1&&&["entries"]) (x0 K):=by
 exists F.ok Y5
 ·obtain⟨a,es,rfl,hA,hl,q⟩:=h;refine#[_,(zg (zm (xA (own:=["entry"]) (caps:=[]) (ix:=[]) (tt:=wU) (te:=(Uj (zK (tOp (qO K) (yf 0) (tC (.int 0))) (zK (tOp (qO K) (yf 0) (tC (.int 1))) wn)))) rfl (zL (sc:=zh wV) rfl (by symm) (by symm) (by symm) rfl (by symm) (by symm) rfl) (yJ (pv 0)) (λ_ _ _ _ _ _=>zy (i:=0) (show List.Nodup [_] by decide) rfl (.inl rfl)) (λ_ _ _ _ _ _=>yv) (λ_ _ _ _ _ _=>(zY (za (zl ix_tup (pv 0) ze) (za (zl ix_tup (pv 0) ze) zf))))))),?_];have s16:=z6
  rfl'
  erw[Is]at hA
  obtain⟨_,xs,e,hX,hI⟩:=hA;cases e;have hxl:=hI.len;rw[af]at hxl;have hpl:=xQ es;refine#[#[xs,hX],λD hD=>CompL.by (xs:=xs) (λi tO H'=>Same H H'/\H' D=tI (.lst tO)/\Iss K H' (((zb es).take i).map dR) tO) #[zd hD,zc,by erw[bD,aL,Iss]] (λi tO H' _ h=>h.1.seq hX) ?_ ?_]
  ·refine nm4 ?_;rintro i x tO H' hx ⟨hs,hH,hA⟩:_;have hi:=(tP.mp hx).1;obtain⟨e,pe,se,hei,rfl,hqe,_⟩:=Wm hI hx;have hm:(zb es)[i]? = tI (e.1,e.2.1):=by unfold zb;rw[aA,hei];rfl
   have hal:=hA.len;rw[af,aF]at hal;right
   erw[wU]
   rfl'
   refine#[xv,_,zq hs hqe,_,rfl,_,zq hs hqe,_,rfl,⋯,λp hp=>#[zd hp _ _ hH,⋯,CNx.mk hi #[zD (hs.trans (zd hp)) hD,zc,?_]]];rw[zO hm,au];exact qd hH hA hp zcD (yF _) (by erw[zV,xw,and_self])
  ·rintro tO H' ⟨hs,hH,hA⟩;rw[hxl,<- hpl,aP]at hA;exact q D H' hD hs #[tO,hH,hA]
noncomputable def zU(k:Nat)(l:())(ns:List Int)(e:Ent):Ent:=if zI k l ns e.2.1 e.1=tK then e else (e.2.1,e.1,yI e.2.2)
structure EB(l:())(e:Ent):Prop where
 a:e.1.length<=60
 b:e.2.1.length<=60
 s:e.2.2.length<=600
 ma:∀c ∈ e.1,c ∈ l
 mb:∀c ∈ e.2.1,c ∈ l
theorem EB.rule{l:()}(h:EB l e):EB l (zU k l ns e):=by
 unfold zU;split
 ·exact h
 ·exact#[h.b,h.a,by rw[yg];exact h.s,h.mb,h.ma]
def wo(K:pD)(CO CR CW:pE):Sp:=λvs H Q _=>∃(o p s:pE) (k:Nat) (l:()) (ns:List Int) (e:Ent),vs=[.ref o,.ref p]/\OrdAt CO CR CW H o k l ns/\OG l ns k/\SqT K H p [.str (tx e.1),.str (tx e.2.1),.ref s]/\Is K H (.lst (e.2.2.map dSt)) (.ref s)/\EB l e /\
 (zU k l ns e=e->∀H',Same H H'->Q (.ref p) H') /\
 (∀(p' s':pE) (H':Hp),Same H H'->H s'=tJ->H' p'=tI (.tup [.str (tx (zU k l ns e).1),.str (tx (zU k l ns e).2.1),.ref s'])->LsA K H' s' ((zU k l ns e).2.2.map dSt)->Q (.ref p') H')
theorem jQ{CO CR CW o p s:pE}{l:()}(h1:OrdAt CO CR CW H o k l ns)(h2:OG l ns k)(h3:SqT K H p [.str (tx e.1),.str (tx e.2.1),.ref s])(h4:Is K H (.lst (e.2.2.map dSt)) (.ref s))(h5:EB l e)
  (h6:zU k l ns e=e->∀H',Same H H'->Q (.ref p) H') (h7:∀(p' s':pE) (H':Hp),Same H H'->H s'=tJ->H' p'=tI (.tup [.str (tx (zU k l ns e).1),.str (tx (zU k l ns e).2.1),.ref s'])->LsA K H' s' ((zU k l ns e).2.2.map dSt)->Q (.ref p') H'):wo K CO CR CW [.ref o,.ref p] H Q E :=
 #[o,p,s,k,l,ns,e,rfl,h1,h2,h3,h4,h5,h6,h7]
theorem Wv:sQz 2 ["order","entry"] qr:=by nofun
theorem WI{f CO CR CW:pE}(B:Bt mg)(DBk:DB P w K mg base CO CR CW)(F:("as_rule"^^^qr))(lD:(1<<<"back") ["steps"] [] (uC K)):(4&&&["order","entry"]) (wo K CO CR CW):=by
 exists F.ok Wv
 ·obtain⟨o,p,s,k,l,ns,e,rfl,ho,hG,hp,hs,hE,q1,q2⟩:=h
  refine#[_,(zJ (zM (xg (zbl DBk hr (pv 0) (za (zl ix_tup (pv 1) ze) (za (zl ix_tup (pv 1) ze) zf))) (λ_=>rfl))
    (zg (zm (pv 1)))
    zw)
   (zg (zm (zY (za (zl ix_tup (pv 1) ze) (za (zl ix_tup (pv 1) ze) (za (cl0 lD hr .nil rfl (za (zl ix_tup (pv 1) ze) zf)) zf))))))),?_]
  have s16:=z6;ac_rfl;obtain⟨C,dx,fs,hf,ho1,hn,_⟩:=ho.fam;have h1:fs.lookup ("before" : pL)=tJ:=hn _ ∅ ∅;refine#[C,hf,dx,fs,ho1,h1,_,hp,_,rfl,_,hp,_,rfl,o,k,l,ns,e.2.1,e.1,rfl,ho,hG,by have:=hE.b;lia,by have:=hE.a;lia,hE.mb,hE.ma,λH1 s1=>#[_,rfl,yM (λh=>?_) λh=>?_]]
  ·exact q1 (by unfold zU;rw[if_pos h]) H1 s1
  ·have er:zU k l ns e=(e.2.1,e.1,yI e.2.2):=by unfold zU;rw[if_neg h]
   rw[er]at q2;have hp1:=zq s1 hp;refine#[_,hp1,_,rfl,_,hp1,_,rfl,_,hp1,_,rfl,qg (Is.same s1 _ _ hs) (by have:=hE.s;lia) λD H2 hD s2 hL=>#[⋯,λt ht=>?_]];exact q2 t D _ (s1.trans (s2.trans (zd ht))) (s1.free hD) zc (hL.same (zd ht))
theorem YD{l:()}{w:()}(hb:∀n ∈ ns,1<=n/\n<=1000000):0<=W5 l ns w:=by
 unfold W5
 have key:∀xs:List Int,(∀x ∈ xs,0<=x)->0<=xs.sum:=by
  intro xs
  induction xs with
  | nil=>intro _;simp
  | cons x xs ih =>
   intro h;rw[bg];have h1:=h x az;have h2:=ih λy hy=>h y (ao _ hy);lia
 refine key _ λx hx=>?_;obtain⟨p,hp,rfl⟩:=tQ.mp hx;have h1:=(hb p.2 (de (show (p.1,p.2) ∈ l.zip ns from hp)).2).1;exact Int.mul_nonneg ⋯ ⋯
theorem Qk{l:()}{u v:()}(hb:∀n ∈ ns,1<=n/\n<=1000000)(h:zI k l ns u v=tK):v≠[]:=by
 intro e;subst e
 have h0:zr k l ns []=0:=by
  unfold zr;split
  ·unfold W5
   have z:∀xs:List (Nat × Int),(xs.map λp=>(([]:()).count p.1:Int) * p.2).sum=0:=by
    intro xs
    induction xs with
    | nil=>rfl
    | cons x xs ih=>rw[ar,bg,ih];simp
   exact z _
  ·rfl
 have h1:0<=zr k l ns u:=by
  unfold zr;split
  ·exact YD hb
  ·lia
 have h2:uW k l []=[]:=by
  unfold uW y0;split <;> rfl
 unfold zI at h;rw[h0,h2]at h;split at h
 ·cases hr:uW k l u with
  | nil=>rw[hr]at h;cases h
  | cons a r=>rw[hr]at h;cases h
 ·have:=of_decide_eq_true h;lia
theorem qG{k:Nat}{l:()}{ns:List Int}(hE:EB l e)(hne:e.1≠e.2.1):zI k l ns (zU k l ns e).2.1 (zU k l ns e).1=tK:=by
 unfold zU;by_cases h:zI k l ns e.2.1 e.1=tK
 ·rw[if_pos h];exact h
 ·rw[if_neg h];have:=vB (k:=k) (ns:=ns) hE.ma hE.mb hne;show zI k l ns e.1 e.2.1=tK;rw[this];simpa using h
noncomputable def uN(k:Nat)(l:())(ns:List Int)(es:List Ent):List Ent:=(es.filter λe=>!decide (e.1=e.2.1)).map (zU k l ns)
theorem K9(k:Nat)(l:())(ns:List Int)(es fs:List Ent):uN k l ns (es ++ fs)=uN k l ns es ++ uN k l ns fs:=by
 unfold uN;rw[bx,au]
theorem YS(k:Nat)(l:())(ns:List Int)(es:List Ent):(uN k l ns es).length<=es.length:=by
 unfold uN;rw[af];exact cX _ _
noncomputable def jb(k:Nat)(l:())(ns:List Int)(a b:Ent):Bool:=if a.1=b.1 then zI k l ns a.2.1 b.2.1 else zI k l ns a.1 b.1
structure Lined(k:Nat)(l:())(ns:List Int)(es zs:List Ent):Prop where
 perm:zs.Perm (uN k l ns es)
 srt:zs.Pairwise λa b=>jb k l ns b a=tL
 is:zs=L3.srt (jb k l ns) ([],[],[]) (uN k l ns es)
structure EndsAt(ps:List zp)(w:())(i:Nat):Prop where
 live:Y7 ps w i
 end_:zE (wAt ps w i) ps=tJ
 most:i<=40
theorem Qo(ps:List zp)(w:()):(∃i,EndsAt ps w i)\/(Y7 ps w 40/\zE (wAt ps w 40) ps≠tJ):=by
 have key:∀n,n<=41->(∃i,EndsAt ps w i)\/Y7 ps w n:=by
  intro n
  induction n with
  | zero=>intro _;exact .inr λi h=>absurd h (cQ i)
  | succ n ih =>
   intro hn;rcases ih ⋯ with h | h
   ·exact .inl h
   ·cases e:zE (wAt ps w n) ps with
    | none=>exact .inl #[n,h,e,⋯]
    | some u =>
     refine .inr λi hi=>?_;by_cases hin:i=n
     ·rw[hin,e];intro z;cases z
     ·exact h i ⋯
 rcases key 41 (ak _)with h | h
 ·exact .inl h
 ·exact .inr #[λi hi=>h i ⋯,h 40 ∅]
theorem EndsAt.uniq{w:()}{i j:Nat}(h1:EndsAt ps w i)(h2:EndsAt ps w j):i=j:=j6 h1.live h1.end_ h2.live h2.end_
noncomputable def stS(us:List (Nat × Nat)):List Stp:=us.map λu=>((u.1:Int),(u.2:Int),tK)
noncomputable def yG(bs:List Ent)(e:Ent)(i j:Nat):Ent:=(wAt (zb bs) e.1 i,wAt (zb bs) e.2.1 j,byL bs (yI (stS (sAt (zb bs) e.1 i))) ++ e.2.2 ++ byL bs (stS (sAt (zb bs) e.2.1 j)))
def ut(e:Ent):Prop:=240<e.2.2.length\/60<e.1.length\/60<e.2.1.length
inductive y8(k:Nat)(l:())(ns:List Int):List Ent->List Ent->Option (List Ent)->Prop where
 | nil (bs:List Ent):y8 k l ns bs [] (tI bs)
 | same {bs es:List Ent} {e:Ent} {i j:Nat} {r:Option (List Ent)} (h1:EndsAt (zb bs) e.1 i) (h2:EndsAt (zb bs) e.2.1 j) (h3:wAt (zb bs) e.1 i=wAt (zb bs) e.2.1 j) (h4:y8 k l ns bs es r):y8 k l ns bs (e::es) r
 | new {bs es:List Ent} {e:Ent} {i j:Nat} {r:Option (List Ent)} (h1:EndsAt (zb bs) e.1 i) (h2:EndsAt (zb bs) e.2.1 j) (h3:wAt (zb bs) e.1 i≠wAt (zb bs) e.2.1 j) (h4:¬ ut (yG bs e i j)) (h5:y8 k l ns (bs ++ [zU k l ns (yG bs e i j)]) es r):y8 k l ns bs (e::es) r
 | far {bs es:List Ent} {e:Ent} {i j:Nat} (h1:EndsAt (zb bs) e.1 i) (h2:EndsAt (zb bs) e.2.1 j) (h3:wAt (zb bs) e.1 i≠wAt (zb bs) e.2.1 j) (h4:ut (yG bs e i j)):y8 k l ns bs (e::es) tJ
 | stuck {bs es:List Ent} {e:Ent} (h:(∀i,¬ EndsAt (zb bs) e.1 i)\/(∀j,¬ EndsAt (zb bs) e.2.1 j)):y8 k l ns bs (e::es) tJ
inductive vY(k:Nat)(l:())(ns:List Int):Nat->List Ent->Option (List Ent)->Prop where
 | out (es:List Ent):vY k l ns 0 es tJ
 | bad {n:Nat} {es zs:List Ent} (h1:Lined k l ns es zs) (h2:y8 k l ns [] zs tJ):vY k l ns (n+1) es tJ
 | done {n:Nat} {es zs bs:List Ent} (h1:Lined k l ns es zs) (h2:y8 k l ns [] zs (tI bs)) (h3:zb bs=zb zs):vY k l ns (n+1) es (tI bs)
 | more {n:Nat} {es zs bs:List Ent} {r:Option (List Ent)} (h1:Lined k l ns es zs) (h2:y8 k l ns [] zs (tI bs)) (h3:zb bs≠zb zs) (h4:vY k l ns n bs r):vY k l ns (n+1) es r
theorem zP{w:()}{u:Nat × Nat}(h:zE w ps=tI u):∃p,ps[u.1]? = tI p/\zt w (u.2:Int) p.1=tK:=by
 have hm:u ∈ xI w ps w.length:=List.mem_of_mem_head? (by unfold zE at h;rw[h];rfl);exact (vj (usesK_mem.mp hm).2).2
theorem vo{l w:()}(hw:∀c ∈ w,c ∈ l)(hp:∀p ∈ ps,∀c ∈ p.2,c ∈ l):∀j,∀c ∈ wAt ps w j,c ∈ l
 | 0=>hw
 | j+1=>by
  have ih:=vo hw hp j
  cases e:zE (wAt ps w j) ps with
  | none =>
   show ∀c ∈ Xr ps (wAt ps w j),c ∈ l;unfold Xr;rw[e];exact ih
  | some u =>
   obtain⟨p,h1,h2⟩:=zP e;rw[yR e];unfold Zl yH;rw[yo h1];intro c hc;rcases tS.mp hc with hc | hc
   ·rcases tS.mp hc with hc | hc
    ·exact ih c (bF hc)
    ·exact hp p (ae h1) c hc
   ·exact ih c (cE hc)
structure zbo(R:()->()->Prop):Prop where
 refl:∀u,R u u
 symm:∀{u v},R u v->R v u
 trans:∀{u v w},R u v->R v w->R u w
 ctx:∀{u v} (a b:()),R u v->R (a ++ u ++ b) (a ++ v ++ b)
def WP(R:()->()->Prop)(es:List Ent):Prop:=∀e ∈ es,R e.1 e.2.1
theorem Jk{R:()->()->Prop}(hR:zbo R)(hk:∀p ∈ ps,R p.1 p.2)(w:()):∀j,R w (wAt ps w j)
 | 0=>hR.refl w
 | j+1=>by
  have ih:=Jk hR hk w j
  cases e:zE (wAt ps w j) ps with
  | none =>
   show R w (Xr ps (wAt ps w j));unfold Xr;rw[e];exact ih
  | some u =>
   obtain⟨p,h1,h2⟩:=zP e;rw[yR e];refine hR.trans ih ?_;obtain⟨e1,_⟩:=zW h2;unfold Zl yH;rw[yo h1];have:=hR.ctx ((wAt ps w j).take ((u.2:Int)).toNat) ((wAt ps w j).drop (((u.2:Int)).toNat+p.1.length)) (hk p (ae h1));rw[e1]at this;exact this
theorem qp{R:()->()->Prop}(h:WP R bs):∀p ∈ zb bs,R p.1 p.2:=λp hp=>by
 unfold zb at hp;obtain⟨e,he,rfl⟩:=tQ.mp hp;exact h e he
theorem jN{R:()->()->Prop}(hR:zbo R){l:()}:R (zU k l ns e).1 (zU k l ns e).2.1 ↔ R e.1 e.2.1:=by
 unfold zU;split
 ·exact Iff.rfl
 ·exact#[hR.symm,hR.symm]
theorem Qn{R:()->()->Prop}(hR:zbo R){i j:Nat}(h:WP R bs):R (wAt (zb bs) e.1 i) (wAt (zb bs) e.2.1 j) ↔ R e.1 e.2.1:=by
 have h1:=Jk hR (qp h) e.1 i;have h2:=Jk hR (qp h) e.2.1 j;exact#[λx=>hR.trans h1 (hR.trans x (hR.symm h2)),λx=>hR.trans (hR.symm h1) (hR.trans x h2)]
theorem zdP{R:()->()->Prop}(hR:zbo R){l:()}{bs es:List Ent}{r:Option (List Ent)}(h:y8 k l ns bs es r):∀fs,r=tI fs->(WP R fs ↔ WP R bs/\WP R es):=by
 induction h with
 | nil bs =>
  intro fs e;cases e;exact#[λh=>#[h,λe he=>(nomatch he)],λh=>h.1]
 | @same bs es e i j r h1 h2 h3 h4 ih =>
  intro fs er;rw[ih fs er];refine#[λ⟨a,b⟩=>#[a,λx hx=>?_],λ⟨a,b⟩=>#[a,λx hx=>b x (ao _ hx)]];rcases tR.mp hx with rfl | hx
  ·refine (Qn hR a (i:=i) (j:=j)).mp ?_;rw[h3];exact hR.refl _
  ·exact b x hx
 | @new bs es e i j r h1 h2 h3 h4 h5 ih =>
  intro fs er;rw[ih fs er];constructor
  ·rintro⟨a,b⟩;have a':WP R bs:=λx hx=>a x (aM _ hx);refine#[a',λx hx=>?_];rcases tR.mp hx with rfl | hx
   ·have:=a _ (av bs (tT.mpr rfl));exact (Qn hR a' (i:=i) (j:=j)).mp ((jN hR).mp this)
   ·exact b x hx
  ·rintro⟨a,b⟩;refine#[λx hx=>?_,λx hx=>b x (ao _ hx)];rcases tS.mp hx with hx | hx
   ·exact a x hx
   ·rw[tT.mp hx];exact (jN hR).mpr ((Qn hR a (i:=i) (j:=j)).mpr (b e az))
 | far=>intro fs e;cases e
 | stuck=>intro fs e;cases e
def Within(p w:()):Prop:=∃a b:(),w=a ++ p ++ b
theorem ZJ{w p:()}{q:Nat}(h:zt w (q:Int) p=tK):Within p w:=by
 obtain⟨e,_⟩:=zW h;exact#[_,_,e.symm]
theorem Vm{w p:()}(h:Within p w):∃q:Nat,zt w (q:Int) p=tK:=by
 obtain⟨a,b,rfl⟩:=h;refine#[a.length,?_];unfold zt;refine decide_eq_true #[⋯,by erw[ah];lia,?_];rw[aZ,aK,List.drop_left,List.take_left]
theorem ji{w:()}(hN:NeL ps)(h:zE w ps=tJ):∀p ∈ ps,¬ Within p.1 w:=λp hp hw=>by
 obtain⟨q,hq⟩:=Vm hw;obtain⟨j,hj⟩:=Ah.mp hp;have hlt:=qy (hN p hp) hq;have hs:stJ w ps q j=tK:=by rw[jW hj];exact hq
 have:(j,q) ∈ xI w ps w.length:=usesK_mem.mpr #[hlt,hs];unfold zE at h;rw[List.head?_eq_none_iff]at h;rw[h]at this;cases this
structure RL(k:Nat)(l:())(ns:List Int)(bs:List Ent):Prop where
 e:∀e ∈ bs,EB l e
 lt:∀e ∈ bs,zI k l ns e.2.1 e.1=tK
theorem Jb{l:()}{w:()}{u:Nat × Nat}(G:OG l ns k)(hp:∀p ∈ ps,zI k l ns p.2 p.1=tK/\(∀c ∈ p.1,c ∈ l)/\∀c ∈ p.2,c ∈ l)(hw:∀c ∈ w,c ∈ l)(h:zE w ps=tI u):zI k l ns (Zl w ps u) w=tK:=by
 obtain⟨p,h1,h2⟩:=zP h;obtain⟨e1,_⟩:=zW h2;obtain⟨p1,p2,p3⟩:=hp p (ae h1);unfold Zl yH;rw[yo h1];have ha:∀c ∈ w.take ((u.2:Int)).toNat,c ∈ l:=λc hc=>hw c (bF hc);have hb:∀c ∈ w.drop (((u.2:Int)).toNat+p.1.length),c ∈ l:=λc hc=>hw c (cE hc);generalize w.take ((u.2:Int)).toNat=a at *;generalize w.drop (((u.2:Int)).toNat+p.1.length)=b at *;rw[<- e1];have ap:∀x:(),(∀c ∈ x,c ∈ l)->∀c ∈ a ++ x,c ∈ l:=λx hx c hc=>(tS.mp hc).elim (ha c) (hx c);rw[(Zr G hb (ap p.2 p3) (ap p.1 p2)).2,(Zr G ha p3 p2).1];exact p1
theorem Kq{l:()}{w:()}(G:OG l ns k)(hp:∀p ∈ ps,zI k l ns p.2 p.1=tK/\(∀c ∈ p.1,c ∈ l)/\∀c ∈ p.2,c ∈ l)(hw:∀c ∈ w,c ∈ l):∀j,wAt ps w j=w\/zI k l ns (wAt ps w j) w=tK
 | 0=>.inl rfl
 | j+1=>by
  have ih:=Kq G hp hw j;have hm:=vo hw (λp hp'=>(hp p hp').2.2) j
  cases e:zE (wAt ps w j) ps with
  | none =>
   show Xr ps (wAt ps w j)=w\/zI k l ns (Xr ps (wAt ps w j)) w=tK;unfold Xr;rw[e];exact ih
  | some u =>
   rw[yR e];have h:=Jb G hp hm e;rcases ih with h' | h'
   ·rw[h']at h ⊢;exact .inr h
   ·exact .inr (qI h h')
theorem RL.pairs{l:()}(h:RL k l ns bs):∀p ∈ zb bs,zI k l ns p.2 p.1=tK/\(∀c ∈ p.1,c ∈ l)/\∀c ∈ p.2,c ∈ l:=λp hp=>by
 unfold zb at hp;obtain⟨e,he,rfl⟩:=tQ.mp hp;exact#[h.lt e he,(h.e e he).ma,(h.e e he).mb]
theorem RL.ne{l:()}(h:RL k l ns bs)(G:OG l ns k):NeL (zb bs):=λp hp=>Qk G.nb (h.pairs p hp).1
theorem RL.snoc{l:()}{d:Ent}(h:RL k l ns bs)(hd:EB l d)(hne:d.1≠d.2.1):RL k l ns (bs ++ [zU k l ns d]):=by
 refine#[λe he=>?_,λe he=>?_]
 ·rcases tS.mp he with he | he
  ·exact h.e e he
  ·rw[tT.mp he];exact hd.rule
 ·rcases tS.mp he with he | he
  ·exact h.lt e he
  ·rw[tT.mp he];exact qG hd hne
theorem zaG{l:()}{i j:Nat}(hB:RL k l ns bs)(hE:EB l e)(hF:¬ ut (yG bs e i j)):EB l (yG bs e i j):=by
 unfold ut at hF;exact#[⋯,⋯,⋯,vo hE.ma (λp hp=>(hB.pairs p hp).2.2) i,vo hE.mb (λp hp=>(hB.pairs p hp).2.2) j]
theorem WN{l:()}{i j:Nat}(G:OG l ns k)(hB:RL k l ns bs)(hE:EB l e)(hlt:zI k l ns e.2.1 e.1=tK)(h1:EndsAt (zb bs) e.1 i)(h2:EndsAt (zb bs) e.2.1 j)
  (hp1:(zU k l ns (yG bs e i j)).1=e.1) (hp2:(zU k l ns (yG bs e i j)).2.1=e.2.1):zE e.1 (zb bs)=tJ/\zE e.2.1 (zb bs)=tJ:=by
 unfold zU at hp1 hp2;by_cases h:zI k l ns (yG bs e i j).2.1 (yG bs e i j).1=tK
 ·rw[if_pos h]at hp1 hp2;have a1:wAt (zb bs) e.1 i=e.1:=hp1;have a2:wAt (zb bs) e.2.1 j=e.2.1:=hp2;have b1:=h1.end_;have b2:=h2.end_;rw[a1]at b1;rw[a2]at b2;exact#[b1,b2]
 ·rw[if_neg h]at hp1 hp2;have a1:wAt (zb bs) e.2.1 j=e.1:=hp1;rcases Kq G hB.pairs hE.mb j with h' | h'
  ·rw[a1]at h';rw[h',yA]at hlt;cases hlt
  ·rw[a1]at h';rw[vt h']at hlt;cases hlt
theorem jE{l:()}(G:OG l ns k){bs es:List Ent}{r:Option (List Ent)}(h:y8 k l ns bs es r):∀fs,r=tI fs->RL k l ns bs->RL k l ns es->∃gs,fs=bs ++ gs/\gs.length<=es.length/\RL k l ns fs /\
  (zb gs=zb es->∀i e,es[i]? = tI e->zE e.1 (zb (bs ++ gs.take i))=tJ/\zE e.2.1 (zb (bs ++ gs.take i))=tJ):=by
 induction h with
 | nil bs =>
  intro fs er hb he;cases er;exact#[[],by simp,ak _,hb,λ_ i e h=>by simp at h]
 | @same bs es e i j r h1 h2 h3 h4 ih =>
  intro fs er hb he;obtain⟨gs,g1,g2,g3,g4⟩:=ih fs er hb #[λx hx=>he.e x (ao _ hx),λx hx=>he.lt x (ao _ hx)];refine#[gs,g1,by rw[ay];lia,g3,λhp=>?_];have:=congrArg cF hp;unfold zb at this;rw[af,af,ay]at this;lia
 | @new bs es e i j r h1 h2 h3 h4 h5 ih =>
  intro fs er hb he;have hEe:=he.e e az;have hd:=zaG hb hEe h4;obtain⟨gs,g1,g2,g3,g4⟩:=ih fs er (hb.snoc hd h3) #[λx hx=>he.e x (ao _ hx),λx hx=>he.lt x (ao _ hx)];refine#[zU k l ns (yG bs e i j)::gs,by rw[g1,aK];rfl,by rw[ay,ay];lia,g3,λhp n x hx=>?_];unfold zb at hp;rw[ar,ar]at hp;injection hp with hp1 hp2;have hp1a:=(Prod.ext_iff.mp hp1).1;have hp1b:=(Prod.ext_iff.mp hp1).2
  cases n with
  | zero =>
   have e0:e=x:=by simpa using hx
   subst e0;rw[bD,aG];exact WN G hb hEe (he.lt _ az) h1 h2 hp1a hp1b
  | succ n =>
   have:=g4 hp2 n x (by simpa using hx);rw[aK]at this;rw[db];exact this
 | far=>intro fs e;cases e
 | stuck=>intro fs e;cases e
theorem wH{l:()}(G:OG l ns k){p w:()}(hw:∀c ∈ w,c ∈ l)(h:Within p w):p=w\/zI k l ns p w=tK:=by
 obtain⟨a,b,rfl⟩:=h;by_cases e:a ++ p ++ b=p
 ·exact .inl e.symm
 ·refine .inr (Xy G (λc hc=>hw c ?_) (λc hc=>hw c ?_) (λc hc=>hw c ?_) e).1
  ·exact aM _ (aM _ hc)
  ·exact aM _ (av _ hc)
  ·exact av _ hc
structure ThinL(k:Nat)(l:())(ns:List Int)(zs:List Ent):Prop where
 rl:RL k l ns zs
 up:∀(i j:Nat) (a b:Ent),zs[i]? = tI a->zs[j]? = tI b->i<j->zI k l ns a.1 b.1=tK
 no1:∀(i j:Nat) (a b:Ent),zs[i]? = tI a->zs[j]? = tI b->i≠j->¬ Within b.1 a.1
 no2:∀(i j:Nat) (a b:Ent),zs[i]? = tI a->zs[j]? = tI b->¬ Within b.1 a.2.1
theorem KR{k:Nat}{l:()}{ns:List Int}(G:OG l ns k){zs bs:List Ent}(hz:RL k l ns zs)(hs:zs.Pairwise λa b=>jb k l ns b a=tL)(h:y8 k l ns [] zs (tI bs))(hp:zb bs=zb zs):ThinL k l ns zs:=by
 obtain⟨gs,g1,g2,g3,g4⟩:=jE G h bs rfl #[λe he=>(nomatch he),λe he=>(nomatch he)] hz;rw[aU]at g1;subst g1;have irr:=g4 hp
 erw[aU]at irr
 have early:∀(i j:Nat) (a b:Ent),zs[i]? = tI a->zs[j]? = tI b->j<i->¬ Within b.1 a.1/\¬ Within b.1 a.2.1:=λi j a b ha hb hj=>by
  have hm:(b.1,b.2.1) ∈ zb (bs.take i):=by
   have e1:zb (bs.take i)=(zb zs).take i:=by
    rw[<- hp];unfold zb;rw[List.map_take]
   rw[e1];refine Ah.mpr #[j,?_];rw[dk hj];unfold zb;rw[aA,hb];rfl
  have hN:NeL (zb (bs.take i)):=λp hp'=>by
   refine (g3.ne G) p ?_;unfold zb at hp' ⊢;obtain⟨x,hx,rfl⟩:=tQ.mp hp';exact tQ.mpr #[x,bF hx,rfl]
  obtain⟨f1,f2⟩:=irr i a ha;exact#[ji hN f1 _ hm,ji hN f2 _ hm]
 have later:∀(i j:Nat) (a b:Ent),zs[i]? = tI a->zs[j]? = tI b->i<j->zI k l ns b.1 a.1=tL:=λi j a b ha hb hij=>by
  have hi:=(tP.mp ha);have hj:=(tP.mp hb);have:=List.pairwise_iff_getElem.mp hs i j hi.1 hj.1 hij;rw[hi.2,hj.2]at this;unfold jb at this;by_cases e:b.1=a.1
  ·rw[e,yA]
  ·rw[if_neg e]at this;exact this
 have memz:∀{i:Nat} {a:Ent},zs[i]? = tI a->EB l a/\zI k l ns a.2.1 a.1=tK:=λ{i a} ha=>#[hz.e _ (ae ha),hz.lt _ (ae ha)]
 have up:∀(i j:Nat) (a b:Ent),zs[i]? = tI a->zs[j]? = tI b->i<j->zI k l ns a.1 b.1=tK:=λi j a b ha hb hij=>by
  have hne:a.1≠b.1:=λe=>(early j i b a hb ha hij).1 #[[],[],by rw[e];simp];have t:=vB (k:=k) (ns:=ns) (memz ha).1.ma (memz hb).1.ma hne;rw[later i j a b ha hb hij]at t;simpa using t
 refine#[hz,up,λi j a b ha hb hij=>?_,λi j a b ha hb hw=>?_]
 ·rcases Nat.lt_or_gt_of_ne hij with h1 | h1
  ·intro hw;rcases wH G (memz ha).1.ma hw with e | e
   ·have:=up i j a b ha hb h1;rw[e,yA]at this;cases this
   ·rw[later i j a b ha hb h1]at e;cases e
  ·exact (early i j a b ha hb h1).1
 ·have hle:zI k l ns b.1 a.1=tK:=by
   rcases wH G (memz ha).1.mb hw with e | e
   ·rw[e];exact (memz ha).2
   ·exact qI e (memz ha).2
  rcases eg i j with h1 | h1 | h1
  ·rw[later i j a b ha hb h1]at hle;cases hle
  ·subst h1;rw[ha]at hb;cases hb;rw[yA]at hle;cases hle
  ·exact (early i j a b ha hb h1).2 hw
theorem vK{w:()}:∀{i:Nat},Y7 ps w i->ya ps w (stS (sAt ps w i))=tI (wAt ps w i)
 | 0,_=>rfl
 | i+1,h=>by
  have ih:=vK (i:=i) λj hj=>h j ⋯;have hne:=h i ⋯
  cases e:zE (wAt ps w i) ps with
  | none=>exact absurd e hne
  | some u =>
   rw[Wi,yR e,e];unfold stS at ih ⊢;rw[au];refine ZM ih ?_;obtain⟨p,h1,h2⟩:=zP e;have hl:=(tP.mp h1).1;show yn ps (wAt ps w i) ((u.1:Int),(u.2:Int),tK)=_;rw[yQ (by show (0:Int)<=(u.1:Int)/\(u.1:Int)<ps.length;lia)];have e2:ps.getD ((u.1:Int)).toNat ([],[])=p:=by rw[aZ,ac,h1];rfl
   show (if zt (wAt ps w i) (u.2:Int) (sdl (ps.getD ((u.1:Int)).toNat ([],[])) tK).1=tK then _ else tJ)=_;rw[e2,if_pos (show zt (wAt ps w i) (u.2:Int) (sdl p tK).1=tK from h2)];unfold Zl;rw[yo h1];rfl
theorem V7{l:()}(h:EOk rs e):EOk rs (zU k l ns e):=by
 unfold zU;split
 ·exact h
 ·exact wu h
theorem KG{i j:Nat}(hb:∀e ∈ bs,EOk rs e)(he:EOk rs e)(h1:EndsAt (zb bs) e.1 i)(h2:EndsAt (zb bs) e.2.1 j):EOk rs (yG bs e i j):=by
 have w1:=qM hb (wu (vK h1.live));have w2:=qM hb (vK h2.live);have he':ya rs e.1 e.2.2=tI e.2.1:=he;show ya rs (wAt (zb bs) e.1 i) (byL bs (yI (stS (sAt (zb bs) e.1 i))) ++ e.2.2 ++ byL bs (stS (sAt (zb bs) e.2.1 j)))=tI (wAt (zb bs) e.2.1 j);rw[xz,xz,w1,bY,he',bY];exact w2
theorem Xk{l:()}{bs es:List Ent}{r:Option (List Ent)}(h:y8 k l ns bs es r):∀fs,r=tI fs->(∀e ∈ bs,EOk rs e)->(∀e ∈ es,EOk rs e)->∀e ∈ fs,EOk rs e:=by
 induction h with
 | nil bs=>intro fs er hb _;cases er;exact hb
 | @same bs es e i j r h1 h2 h3 h4 ih=>intro fs er hb he;exact ih fs er hb λx hx=>he x (ao _ hx)
 | @new bs es e i j r h1 h2 h3 h4 h5 ih =>
  intro fs er hb he;refine ih fs er (λx hx=>?_) λx hx=>he x (ao _ hx);rcases tS.mp hx with hx | hx
  ·exact hb x hx
  ·rw[tT.mp hx];exact V7 (KG hb (he e az) h1 h2)
 | far=>intro fs e;cases e
 | stuck=>intro fs e;cases e
theorem XF{l:()}{es zs:List Ent}(h:Lined k l ns es zs)(he:∀e ∈ es,EOk rs e):∀e ∈ zs,EOk rs e:=λe hz=>by
 have hm:=h.perm.mem_iff.mp hz;unfold uN at hm;obtain⟨y,hy,rfl⟩:=tQ.mp hm;exact V7 (he y (tU.mp hy).1)
theorem XM{l:()}{es zs:List Ent}(h:Lined k l ns es zs)(he:∀e ∈ es,EB l e):RL k l ns zs:=by
 have key:∀e ∈ zs,∃y,EB l y/\y.1≠y.2.1/\e=zU k l ns y:=λe hz=>by
  have hm:=h.perm.mem_iff.mp hz;unfold uN at hm;obtain⟨y,hy,rfl⟩:=tQ.mp hm;obtain⟨h1,h2⟩:=tU.mp hy;exact#[y,he y h1,by simpa using h2,rfl]
 refine#[λe hz=>?_,λe hz=>?_]
 ·obtain⟨y,h1,_,rfl⟩:=key e hz;exact h1.rule
 ·obtain⟨y,h1,h2,rfl⟩:=key e hz;exact qG h1 h2
theorem JM{l:()}(G:OG l ns k){zs bs:List Ent}(hz:RL k l ns zs)(h:y8 k l ns [] zs (tI bs)):RL k l ns bs:=by
 obtain⟨gs,g1,g2,g3,g4⟩:=jE G h bs rfl #[λe he=>(nomatch he),λe he=>(nomatch he)] hz;exact g3
theorem Xs{k n:Nat}{l:()}(G:OG l ns k){r:Option (List Ent)}(h:vY k l ns n es r):∀fs,r=tI fs->(∀e ∈ es,EB l e)->(∀e ∈ es,EOk rs e)->(∀e ∈ fs,EOk rs e)/\∃zs,ThinL k l ns zs/\zb fs=zb zs:=by
 induction h with
 | out=>intro fs e;cases e
 | bad=>intro fs e;cases e
 | @done n es zs bs h1 h2 h3 =>
  intro fs er he ho;cases er;have hz:=XM h1 he;exact#[Xk h2 bs rfl (λe h=>(nomatch h)) (XF h1 ho),zs,KR G hz h1.srt h2 h3,h3]
 | @more n es zs bs r h1 h2 h3 h4 ih =>
  intro fs er he ho;have hz:=XM h1 he;exact ih fs er (JM G hz h2).e (Xk h2 bs rfl (λe h=>(nomatch h)) (XF h1 ho))
noncomputable def rankF:KeyFam (Int × List Int):=#[λr=>[.int r.1,.lst (r.2.map L3.D.int)],λa b=>if a.1=b.1 then ltI a.2 b.2 else decide (a.1<b.1),tK,(0,[])]
theorem QU{x y:List Int}(h:ltI x y=tK):ltI y x=tL:=by
 by_cases e:x=y
 ·subst e;rw[xl]at h;cases h
 ·have:=wx e;rw[h]at this;simpa using this.symm
theorem zal{x y z:List Int}(h1:ltI y x=tL)(h2:ltI z y=tL):ltI z x=tL:=by
 cases h:ltI z x with
 | false=>rfl
 | true =>
  by_cases e:y=x
  ·subst e;rw[h2]at h;cases h
  ·have h3:=wx e;rw[h1]at h3;have h4:ltI x y=tK:=by simpa using h3.symm
   rw[jh h h4]at h2;cases h2
theorem rankF_ok:rankF.Ok where
 w:=#[λa b h=>by
   erw[rankF]at h ⊢
   by_cases e:a.1=b.1
   ·rw[if_pos e]at h;rw[if_pos e.symm];exact QU h
   ·rw[if_neg e]at h;rw[if_neg (λz=>e z.symm)];have:=of_decide_eq_true h;exact decide_eq_false ⋯,
  λa b c h1 h2=>by
   erw[rankF]at h1 h2 ⊢
   by_cases e:b.1=a.1
   ·rw[if_pos e]at h1;rw[e]at h2;by_cases f:c.1=a.1
    ·rw[if_pos f]at h2 ⊢;exact zal h1 h2
    ·rw[if_neg f]at h2 ⊢;exact h2
   ·rw[if_neg e]at h1;have h1':=of_decide_eq_false h1;by_cases f:c.1=b.1
    ·rw[if_neg ⋯];exact decide_eq_false ⋯
    ·rw[if_neg f]at h2;have h2':=of_decide_eq_false h2;rw[if_neg ⋯]
     exact decide_eq_false ⋯]
 eq:=λa b=>by
  have:=VY a.1 b.1 a.2 b.2
  erw[ltD]at this
  exact this
 ok:=λa b=>by erw[rankF,kY,okD];exact#[trivial,qA _ _,trivial]
 dp:=λa=>by erw[rankF,dpD,uQ,Yj];decide
 sh:=λa=>#[_,_,rfl,.inl #[rfl,_,rfl]]
noncomputable def zbm(k:Nat)(l:())(ns:List Int)(w:()):Int × List Int:=(zr k l ns w,uW k l w)
theorem Xz{d:L3.D}{v:V}:∀{ds:List L3.D} {vs:List V},Iss K H ds vs->Is K H d v->Iss K H (ds ++ [d]) (vs ++ [v])
 | [],vs,h,hv=>by
  erw[Iss]at h
  subst h
  erw[aU,Iss]
  exact#[v,[],rfl,hv,rfl]
 | e::ds,vs,h,hv=>by
  erw[Iss]at h
  obtain⟨x,r,rfl,hx,hr⟩:=h
  erw[aY,Iss]
  exact#[x,r ++ [v],rfl,hx,Xz hr hv]
theorem OrdAt.samT{T CO CR CW:pE}{H H':Hp}{ps:Array pF}{o:pE}{l:()}(h:OrdAt CO CR CW H o k l ns)(s:SamT T H H')(hT:H T=tI (.tbl ps)):OrdAt CO CR CW H' o k l ns:=by
 obtain⟨dx,⟨h1,h2⟩ | ⟨h1,h2⟩ | ⟨h1,h2,w,h3,h4⟩⟩:=h
 ·exact#[dx,.inl #[h1,s.at hT h2 λ_ z=>by cases z]]
 ·exact#[dx,.inr (.inl #[h1,s.at hT h2 λ_ z=>by cases z])]
 ·exact#[dx,.inr (.inr #[h1,h2,w,s.at hT h3 (λ_ z=>by cases z),s.at hT h4 λ_ z=>by cases z])]
theorem EnsA.samT{T:pE}{H H':Hp}{ps:Array pF}(s:SamT T H H')(hT:H T=tI (.tbl ps)):∀{es:List Ent} {vs:List V},EnsA K H es vs->EnsA K H' es vs
 | [],vs,h=>by erw[EnsA]at h ⊢;exact h
 | e::es,vs,h=>by
  erw[EnsA]at h ⊢
  obtain⟨v,r,e0,⟨p,s',e1,h1,h2⟩,h3⟩:=h;exact#[v,r,e0,#[p,s',e1,s.seqT hT h1,h2.samT s hT],EnsA.samT s hT h3]
theorem Yx{a b:Int × List Int}(h:a≠b):rankF.lt a b=!rankF.lt b a:=by
 erw[rankF]
 by_cases e:a.1=b.1
 ·rw[if_pos e,if_pos e.symm];exact wx λq=>h (Prod.ext e q)
 ·rw[if_neg e,if_neg λq=>e q.symm];by_cases c:a.1<b.1
  ·rw[decide_eq_true c,decide_eq_false ⋯];rfl
  ·rw[decide_eq_false c,decide_eq_true ⋯];rfl
theorem VJ(a b:Int × List Int):eqD (.tup (rankF.dec a)) (.tup (rankF.dec b))=decide (a=b):=by
 obtain⟨a1,a2⟩:=a;obtain⟨b1,b2⟩:=b
 erw[rankF,eqD,vZ,Zu]
 by_cases h:a1=b1
 ·by_cases h2:a2=b2
  ·simp [h,h2]
  ·simp [h,h2]
 ·simp [h]
theorem X7(a b:Int × List Int):ltD (.tup (rankF.dec a)) (.tup (rankF.dec b))=rankF.lt a b:=by
 erw[ltD]
 exact rankF_ok.eq a b
theorem Yf(a:Int × List Int):rankF.lt a a=tL:=by
 erw[rankF]
 rw[if_pos trivial];exact xl _
noncomputable def pairF:KeyFam ((Int × List Int) × (Int × List Int)):=#[λr=>[.tup (rankF.dec r.1),.tup (rankF.dec r.2)],λa b=>if a.1=b.1 then rankF.lt a.2 b.2 else rankF.lt a.1 b.1,tL,((0,[]),(0,[]))]
theorem qi(a b:(Int × List Int) × (Int × List Int)):pairF.lt a b=if a.1=b.1 then rankF.lt a.2 b.2 else rankF.lt a.1 b.1:=rfl
theorem pairF_ok:pairF.Ok where
 w:=#[λa b h=>by
   rw[qi]at h ⊢;by_cases e:a.1=b.1
   ·rw[if_pos e]at h;rw[if_pos e.symm];exact rankF_ok.w.asym _ _ h
   ·rw[if_neg e]at h;rw[if_neg λq=>e q.symm];exact rankF_ok.w.asym _ _ h,
  λa b c h1 h2=>by
   rw[qi]at h1 h2 ⊢;by_cases e:b.1=a.1
   ·rw[if_pos e]at h1;rw[e]at h2;by_cases f:c.1=a.1
    ·rw[if_pos f]at h2 ⊢;exact rankF_ok.w.ntr _ _ _ h1 h2
    ·rw[if_neg f]at h2 ⊢;exact h2
   ·rw[if_neg e]at h1;by_cases g:c.1=b.1
    ·rw[g,if_neg e];exact h1
    ·rw[if_neg g]at h2;by_cases f:c.1=a.1
     ·rw[f]at h2;have:=Yx (a:=b.1) (b:=a.1) e;rw[h1,h2]at this;cases this
     ·rw[if_neg f]
      exact rankF_ok.w.ntr _ _ _ h1 h2]
 eq:=λa b=>by
  show vF [.tup (rankF.dec a.1),.tup (rankF.dec a.2)] [.tup (rankF.dec b.1),.tup (rankF.dec b.2)]=_;rw[qi,vF,VJ,vF,VJ,X7,X7,vF];by_cases e:a.1=b.1
  ·rw[if_pos (decide_eq_true e),if_pos e];by_cases f:a.2=b.2
   ·rw[if_pos (decide_eq_true f),f,Yf]
   ·rw[if_neg (by simpa using f)]
  ·rw[if_neg (by simpa using e),if_neg e]
 ok:=λa b=>by
  show kY [.tup (rankF.dec a.1),.tup (rankF.dec a.2)] [.tup (rankF.dec b.1),.tup (rankF.dec b.2)]
  erw[kY,okD]
  exact#[rankF_ok.ok _ _,rankF_ok.ok _ _,trivial]
 dp:=λa=>by erw[pairF,rankF,dpD,uQ,Yj];decide
 sh:=λa=>#[_,_,rfl,.inr #[rfl,_,rfl]]
noncomputable def rkE(k:Nat)(l:())(ns:List Int)(e:Ent):(Int × List Int) × (Int × List Int):=(zbm k l ns e.1,zbm k l ns e.2.1)
theorem zbY{l:()}{u v:()}(hu:∀c ∈ u,c ∈ l)(hv:∀c ∈ v,c ∈ l):zbm k l ns u=zbm k l ns v ↔ u=v :=
 #[λh=>XB hu hv (Prod.ext_iff.mp h).2,λh=>by rw[h]]
theorem VF{l:()}{a b:Ent}(ha:EB l a)(hb:EB l b):pairF.lt (rkE k l ns a) (rkE k l ns b)=jb k l ns a b:=by
 rw[qi];unfold jb;have h:(rkE k l ns a).1=(rkE k l ns b).1 ↔ a.1=b.1:=zbY ha.ma hb.ma;by_cases e:a.1=b.1
 ·rw[if_pos (h.mpr e),if_pos e];rfl
 ·rw[if_neg λq=>e (h.mp q),if_neg e];rfl
theorem V4:∀{es:List Ent} {vs:List V},EnsA K H es vs->∀t ∈ es.zip vs,EnA K H t.1 t.2
 | [],_,_,t,ht=>by simp at ht
 | e::es,vs,h,t,ht=>by
  erw[EnsA]at h
  obtain⟨v,r,rfl,h1,h2⟩:=h;rw[dn]at ht;rcases tR.mp ht with rfl | ht
  ·exact h1
  ·exact V4 h2 t ht
theorem Kc:∀{ts:List (Ent × V)},(∀t ∈ ts,EnA K H t.1 t.2)->EnsA K H (ts.map (·.1)) (ts.map (·.2))
 | [],_=>by erw[aL,EnsA]
 | t::ts,h=>by
  erw[ar,EnsA]
  exact#[_,_,rfl,h t az,Kc λu hu=>h u (ao _ hu)]
theorem YL{l:()}{vs:List V}{ys:List (((Int × List Int) × (Int × List Int)) × V)}{d:((Int × List Int) × (Int × List Int)) × V}(hI:EnsA K H es vs)(hE:∀e ∈ es,EB l e)(h1:ys=srt (λp q=>pairF.lt p.1 q.1) d ((es.map (rkE k l ns)).zip vs)) :
  ∃zs:List Ent,zs.Perm es/\zs.Pairwise (λa b=>jb k l ns b a=tL)/\zs=srt (jb k l ns) ([],[],[]) es/\EnsA K H zs (ys.map (·.2)):=by
 have hl:=hI.len
 have e0:(es.map (rkE k l ns)).zip vs=(es.zip vs).map λt=>(rkE k l ns t.1,t.2):=by
  rw[List.zip_map_left];rfl
 have W0:WkO λ(p q:((Int × List Int) × (Int × List Int)) × V)=>pairF.lt p.1 q.1:=#[λa b=>pairF_ok.w.asym _ _,λa b c=>pairF_ok.w.ntr _ _ _];have W1:WkO λ(p q:Ent × V)=>pairF.lt (rkE k l ns p.1) (rkE k l ns q.1):=#[λa b=>pairF_ok.w.asym _ _,λa b c=>pairF_ok.w.ntr _ _ _];have W2:WkO λ(p q:Ent)=>pairF.lt (rkE k l ns p) (rkE k l ns q):=#[λa b=>pairF_ok.w.asym _ _,λa b c=>pairF_ok.w.ntr _ _ _];rw[e0,Kv W0 (d':=(λt:Ent × V=>(rkE k l ns t.1,t.2)) (([],[],[]),.non)) (λ_ _ _ _=>rfl)]at h1
 replace h1:=h1.trans (Ug (lt:=λ(p q:((Int × List Int) × (Int × List Int)) × V)=>pairF.lt p.1 q.1) (λt:Ent × V=>(rkE k l ns t.1,t.2)) (([],[],[]),.non) (es.zip vs))
 obtain⟨p,h2⟩:=JQ W1 (([],[],[]),.non) (es.zip vs)
 have e2:(srt (λ(p q:Ent × V)=>pairF.lt (rkE k l ns p.1) (rkE k l ns q.1)) (([],[],[]),.non) (es.zip vs)).map (·.1)=srt (jb k l ns) ([],[],[]) es:=by
  rw[<- Kv W2 (d:=([],[],[])) λa ha b hb=>VF (hE a ha) (hE b hb)];have:=Ug (lt:=λ(p q:Ent)=>pairF.lt (rkE k l ns p) (rkE k l ns q)) (λt:Ent × V=>t.1) (([],[],[]),.non) (es.zip vs);rw[List.map_fst_zip ⋯]at this;exact this.symm
 generalize srt (λ(p q:Ent × V)=>pairF.lt (rkE k l ns p.1) (rkE k l ns q.1)) (([],[],[]),.non) (es.zip vs)=ts at h1 h2 p e2;have hm:∀t ∈ ts,t.1 ∈ es:=λt ht=>(de (show (t.1,t.2) ∈ es.zip vs from p.mem_iff.mp ht)).1;refine#[ts.map (·.1),?_,?_,e2,?_]
 ·have:=p.map (·.1);rw[List.map_fst_zip ⋯]at this;exact this
 ·rw[List.pairwise_map];refine h2.imp_of_mem λ{a b} ha hb h=>?_;rw[<- VF (hE _ (hm _ hb)) (hE _ (hm _ ha))];exact h
 ·rw[h1,cH];exact Kc λt ht=>V4 hI t (p.mem_iff.mp ht)
def tbE(K:pD)(CO CR CW:pE):TE:=Uj (zK (zv (zb3 CO CR CW) "rank" (λ_=>qN CO CR CW) [] E0 (yf 1) (zK (tOp (qO K) (yf 0) (tC (.int 0))) wn)) (zK (zv (zb3 CO CR CW) "rank" (λ_=>qN CO CR CW) [] E0 (yf 1) (zK (tOp (qO K) (yf 0) (tC (.int 1))) wn)) wn))
theorem zbu{CO CR CW o p s:pE}{l:()}(hG:OG l ns k)(ho:OrdAt CO CR CW H o k l ns)(hE:EB l e)(hp:SqT K H p [.str (tx e.1),.str (tx e.2.1),.ref s])(q:∀(t:pE) (H':Hp),Same H H'->Is K H' (.tup (pairF.dec (rkE k l ns e))) (.ref t)->Q (.ref t) H'):tbE K CO CR CW [!!p,!!o] H Q:=by
 have s16:=z6;obtain⟨C,dx,fs,hf,ho1,hn,_⟩:=ho.fam;have h1:fs.lookup ("rank" : pL)=tJ:=hn _ ∅ ∅;unfold tbE;ac_rfl;refine#[C,hf,dx,fs,ho1,h1,_,hp,_,rfl,o,k,l,ns,e.1,rfl,ho,hG,by have:=hE.a;lia,hE.ma,λp1 q1 H1 s1 hp1 hq1=>#[C,hf,dx,fs,s1 _ _ ho1,h1,_,zq s1 hp,_,rfl,o,k,l,ns,e.2.1,rfl,ho.same s1,hG,by have:=hE.b;lia,hE.mb,λp2 q2 H2 s2 hp2 hq2=>#[⋯,λt ht=>?_]]];refine q t _ (s1.trans (s2.trans (zd (o:=.tup [.ref p1,.ref p2]) ht))) ?_;show Is K _ (.tup [.tup (rankF.dec (zbm k l ns e.1)),.tup (rankF.dec (zbm k l ns e.2.1))]) (.ref t);refine Is.tup ht ?_
 erw[Iss]
 exact#[_,_,rfl,kQ (s2 _ _ hp1) (s2 _ _ hq1),_,_,rfl,kQ hp2 hq2,rfl]
theorem Kg{CO CR CW o:pE}{l:()}{LA:Hp->Prop}{Qf:List V->Hp->Prop}(hG:OG l ns k)(hLA:∀H H',LA H->Same H H'->LA H'):∀(es:List Ent) (vs tO:List V) (rs:List ((Int × List Int) × (Int × List Int))) (H:Hp),LA H->OrdAt CO CR CW H o k l ns->(∀e ∈ es,EB l e)->EnsA K H es vs ->
  Iss K H (rs.map λa=>.tup (pairF.dec a)) tO->(∀acc' H',Same H H'->Iss K H' ((rs ++ es.map (rkE k l ns)).map λa=>.tup (pairF.dec a)) acc'->Qf acc' H')->uO (λx H Q=>LA H/\tbE K CO CR CW [tI x,!!o] H Q) vs tO H Qf
 | [],vs,tO,rs,H,hL,ho,hw,hV,hI,h=>by
  erw[EnsA]at hV
  subst hV;exact h tO H (Same.refl _) (by simpa using hI)
 | e::es,vs,tO,rs,H,hL,ho,hw,hV,hI,h=>by
  have s16:=z6
  erw[EnsA]at hV
  obtain⟨v,r,rfl,⟨p,s,rfl,hp,_⟩,hV⟩:=hV;refine#[hL,zbu hG ho (hw e az) hp λt H' s3 hIs=>?_];refine Kg hG hLA es r (tO ++ [.ref t]) (rs ++ [rkE k l ns e]) _ (hLA _ _ hL s3) (ho.same s3) (λx hx=>hw x (ao _ hx)) (hV.same s3) ?_ λacc' H' s' hI'=>h acc' H' (s3.trans s') (by simpa using hI');rw[au];exact Xz (Iss.same s3 _ _ hI) hIs
noncomputable def zcb:pO->rB
 | .Lambda _ _ _ p=>p
 | _=>default
noncomputable def zeT:List pQ->rB
 | _::.Return (tI (.Call _ _ (k::_) _)) _::_=>zcb k.value
 | _=>default
noncomputable def lp:rB:=zeT (z9 yC)
noncomputable def lq:pL:="in_order.<locals>.<lambda>"
def ke(K:pD)(CO CR CW T:pE):Sp:=λvs H Q _=>∃(o a:pE) (k:Nat) (l:()) (ns:List Int) (es:List Ent),vs=[.ref o,.ref a]/\OrdAt CO CR CW H o k l ns/\OG l ns k/\EnsL K H a es/\es.length<64/\(∀e ∈ es,EB l e)/\TabOk H T lp lq /\
 ∀(D:pE) (zs:List Ent) (H':Hp),SamT T H H'->TabOk H' T lp lq->H D=tJ->Lined k l ns es zs->EnsM K H' D zs->Q (.ref D) H'
theorem Vx{CO CR CW T o a:pE}{l:()}(h1:OrdAt CO CR CW H o k l ns)(h2:OG l ns k)(h3:EnsL K H a es)(h4:es.length<64)(h5:∀e ∈ es,EB l e)(h6:TabOk H T lp lq)
  (h:∀(D:pE) (zs:List Ent) (H':Hp),SamT T H H'->TabOk H' T lp lq->H D=tJ->Lined k l ns es zs->EnsM K H' D zs->Q (.ref D) H'):ke K CO CR CW T [.ref o,.ref a] H Q E:=#[o,a,k,l,ns,es,rfl,h1,h2,h3,h4,h5,h6,h]
abbrev zay(mg:pL->Option pF):Prop:=mg "sorted" = tJ
theorem nt:sQz 2 ["order","entries","unlike"] yC:=by nofun
theorem Yo{f CO CR CW CC TB:pE}(B:Bt mg)(DRk:DR P w K mg base CO CR CW)(hsorted:zay mg)(hCd:PySem.W.CodeHd base CC TB)(hBt:base.BuiltinsAt mg TB)(hgT:pA≠TB)(F:("in_order"^^^yC))(HC:fd.code=.ref CC)(mH:(4<<<"as_rule") ["order","entry"] [] (wo K CO CR CW)):(6&&&["order","entries"]) (ke K CO CR CW TB):=by
 refine za9 F HC nt (λvs H Q E h=>?_) (λA outer s H vs Q E hr h=>?_)
 ·obtain⟨o,a,k,l,ns,es,rfl,_⟩:=h;rfl
 ·obtain⟨o,a,k,l,ns,es,rfl,ho,hG,hA,hz,hE,hTab,q⟩:=h
  refine#[_,(zi (Yz (i:=2) nt.nd rfl (.inl rfl) (.inl rfl) (own:=["entry"]) (caps:=["order"]) (ix:=[0]) (tt:=(tBl (tOp rNe (tOp (qO K) (yf 0) (tC (.int 0))) (tOp (qO K) (yf 0) (tC (.int 1)))))) (te:=(uu (wo K CO CR CW) [] E0 (zK (yf 1) (zK (yf 0) wn)))) rfl (zL (sc:=zh yC) rfl (by symm) (by symm) (by symm) rfl (by symm) (by symm) rfl) (yJ (pv 1)) (λ_ _ _ _ _ _=>zy (i:=0) (show List.Nodup [_,_] by decide) rfl (.inl rfl)) (λ_ _ _ _ _ _=>(Qp (zA Yr (zl ix_tup (pv 0) ze) (zl ix_tup (pv 0) ze) (zC _)))) (λ_ _ _ _ _ _=>(cl0 mH hr .nil rfl (za (pv 1) (za (pv 0) zf)))))
   (zg (zm (QH (k:=2) (p:="entry") (y:="order") (iy:=0) (c:=s⁻¹+1) (tb:=tbE K CO CR CW) pairF_ok #[rfl,rfl,rfl,∅,rfl,rfl,∅,∅] (hr.mono ∅) rfl hsorted PyProof.Rows.boot_sorted (za (pv 2) zf) rfl hCd hBt hgT rfl rfl (by intro _ _ _ _;exact rfl) rfl rfl rfl (λs H f cv hr'=>zY (za (zbl DRk hr' (pv 1) (za (zl ix_tup (pv 0) ze) zf)) (za (zbl DRk hr' (pv 1) (za (zl ix_tup (pv 0) ze) zf)) zf))))))),?_]
  have s16:=z6;obtain⟨xs,hX,hI⟩:=id hA;have hxl:=hI.len
  have hEr:∀e ∈ uN k l ns es,EB l e:=λe he=>by
   unfold uN at he;obtain⟨y,hy,rfl⟩:=tQ.mp he;exact (hE y (tU.mp hy).1).rule
  have hrl:=YS k l ns es;refine zj (λσ H'=>Same H H'/\∃(D0:pE) (tO:List V),H D0=tJ/\H' D0=tI (.lst tO)/\EnsA K (jB D0 H') (uN k l ns es) tO/\σ=[!!o,!!a,!!D0]) ?_ ?_
  ·ac_rfl;refine#[#[xs,hX],λD hD=>CompL.by (xs:=xs) (λi tO H'=>Same H H'/\H' D=tI (.lst tO)/\EnsA K (jB D H') (uN k l ns (es.take i)) tO) #[zd hD,zc,by erw[bD,uN,di,aL,EnsA]] (λi tO H' _ h=>h.1.seq hX) ?_ ?_]
   ·refine nm4 ?_;rintro i x tO H' hx ⟨hs,hH,hA⟩:_;have hi:=(tP.mp hx).1;obtain⟨e,pe,se,hei,rfl,hqe,hse⟩:=hI.get hx;have hEe:=hE e (ae hei);have hal:=hA.len;have hal2:=YS k l ns (es.take i);rw[aF]at hal2;have hq1:=zq hs hqe
    have hraw:uN k l ns (es.take (i+1))=uN k l ns (es.take i) ++ if e.1=e.2.1 then []else [zU k l ns e]:=by
     rw[zO hei,K9];congr 1;unfold uN;by_cases hne:e.1=e.2.1
     ·rw[if_pos hne,eV (by simp [hne])];rfl
     ·rw[if_neg hne,eU (by simp [hne])];rfl
    right;ac_rfl;refine#[xv,_,hq1,_,rfl,_,hq1,_,rfl,rfl,yM (λhne=>?_) λheq=>?_]
    ·have hne':¬ e.1=e.2.1:=λz=>hne (by rw[z]);rw[if_neg hne']at hraw
     have fin:∀(v:V) (H2:Hp),Same H' H2->EnA K (jB D H2) (zU k l ns e) v->H2 D=tI (.lst tO)/\tO.length<pC/\CNx xs.length i (λi tO H'=>Same H H'/\H' D=tI (.lst tO)/\EnsA K (jB D H') (uN k l ns (es.take i)) tO) (tO ++ [v]) (upd H2 D (.lst (tO ++ [v]))):=λv H2 s2 hv=>by
      refine#[s2 _ _ hH,⋯,CNx.mk hi #[zD (hs.trans s2) hD,zc,?_]];rw[hraw];exact (hA.same ((wL s2).trans xD)).snoc (hv.same xD)
     refine jQ (ho.same hs) hG hq1 (hse.same hs).is hEe (λer H2 s2=>fin _ _ s2 ?_) λp' s' H2 s2 hsn hp' hL=>fin _ _ s2 ?_
     ·rw[er];exact EnA.same #[pe,se,rfl,hqe,hse] (Vd hD (hs.trans s2))
     ·exact EnA.new (s2 _ _ hH) hp' hL (λz=>by rw[z,hH]at hsn;cases hsn)
    ·have heq':e.1=e.2.1:=by
      have:=Classical.not_not.mp heq;injection this with this;exact uL this
     rw[if_pos heq',aG]at hraw;exact CNx.mk hi #[hs,hH,by rw[hraw];exact hA]
   ·rintro tO H' ⟨hs,hH,hA⟩;rw[hxl,aP]at hA;exact#[hs,D,hD,tO,hH,hA,rfl]
  rintro σ H1 ⟨s1,D0,tO,hD0,hH1,hI1,rfl⟩:_;have hal:=hI1.len;have hT1:=hTab.same s1;obtain⟨ps1,hps1,_⟩:=id hT1;right;ac_rfl;unfold JZ;refine#[hT1,λf H2 hf hLA hT2 sT=>?_];obtain⟨ps2,hps2,_⟩:=id hT2;have hI2:=EnsA.samT sT hps1 (hI1.same wq);refine#[D0,tO,.ref o,rfl,SqL.of (sT.at hps1 hH1 λ_ z=>by cases z),⋯,rfl,?_];refine Kg hG (λA A' h1 h2=>LamAt.same h1 h2) (uN k l ns es) tO [] [] H2 hLA ((ho.same s1).samT sT hps1) hEr hI2 (by erw[aL,Iss]) λacc' H3 s3 hI3=>#[(uN k l ns es).map (rkE k l ns),by simpa using hI3,λys p1 D hD=>?_];obtain⟨zs,z1,z2,z4,z3⟩:=YL (hI2.same s3) hEr p1;have sD:=zd (o:=.lst (ys.map (·.2))) hD;refine q D zs _ ((SamT.of s1).trans (sT.trans (SamT.of (s3.trans sD)))) (hT2.same (s3.trans sD)) ?_ #[z1,z2,z4] #[_,zc,z3.same sD];exact ((SamT.of s1).trans (sT.trans (SamT.of s3))).free (s3 _ _ hps2) hD
structure TMo(mg:pL->Option pF):Prop where
 u:∃t,mg "MOST_USES_thinning" = tI (.int 40 t)
 s:∃t,mg "MOST_STEPS_thinning" = tI (.int 240 t)
 d:∃t,mg "MOST_SIDE_thinning" = tI (.int 60 t)
 p:∃t,mg "MOST_PASSES" = tI (.int 20 t)
structure BG(k:Nat)(l:())(ns:List Int)(bs:List Ent):Prop where
 n:bs.length<64
 e:∀e ∈ bs,EB l e
 lt:∀e ∈ bs,zI k l ns e.2.1 e.1=tK
theorem BG.ne{l:()}(h:BG k l ns bs)(G:OG l ns k):NeL (zb bs):=λp hp=>by
 unfold zb at hp;obtain⟨e,he,rfl⟩:=tQ.mp hp;exact Qk G.nb (h.lt e he)
theorem BG.le{l:()}(h:BG k l ns bs):∀p ∈ zb bs,p.1.length<=60/\p.2.length<=60:=λp hp=>by
 unfold zb at hp;obtain⟨e,he,rfl⟩:=tQ.mp hp;exact#[(h.e e he).a,(h.e e he).b]
theorem BG.mem{l:()}(h:BG k l ns bs):∀p ∈ zb bs,∀c ∈ p.2,c ∈ l:=λp hp=>by
 unfold zb at hp;obtain⟨e,he,rfl⟩:=tQ.mp hp;exact (h.e e he).mb
theorem uA{CF a:pE}{w:()}(hA:LsA K H a (ps.map dR))(hN:NeL ps)(hpl:ps.length<=100)(hP:∀p ∈ ps,p.1.length<=60/\p.2.length<=60)(hw:w.length<=60)
  (h1:∀(i:Nat) (p S:pE) (H':Hp),EndsAt ps w i->Same H H'->H' p=tI (.tup [.ref S,.str (tx (wAt ps w i))])->LsA K H' S ((sAt ps w i).map dG)->H S=tJ->Q (.ref p) H') (h2:(∀i,¬ EndsAt ps w i)->∀H',Same H H'->E (.ref CF) tJ H'):xL K CF [.ref a,.str (tx w),.int 40] H Q E:=by
 have hP':∀p ∈ ps,p.1.length<=1000/\p.2.length<=1000:=λp hp=>by
  have:=hP p hp;lia
 have len:∀j,j<=40->(wAt ps w j).length<=10000:=λj hj=>by
  have:=qC (l:=w) (m:=60) hN (λp hp=>(hP p hp).2) j;lia
 rcases Qo ps w with ⟨i,hi⟩ | ⟨hL,hf⟩
 ·have hm:=hi.most;exact#[a,w,ps,40,i,rfl,hA,hN,hpl,hP',#[hi.live,λj hj=>len j ⋯,⋯],.inl #[hi.end_,⋯,λp S H' s' hp hL hS=>h1 i p S H' hi s' hp hL hS]]
 ·refine#[a,w,ps,40,40,rfl,hA,hN,hpl,hP',#[hL,λj hj=>len j hj,∅],.inr #[hf,rfl,h2 λi hi=>?_]];have hm:=hi.most;by_cases e:i=40
  ·subst e;exact hf hi.end_
  ·exact hL i ⋯ hi.end_
theorem V6(us:List (Nat × Nat)):us.map dG=(stS us).map dSt:=by
 unfold stS;rw[cH];rfl
theorem um(us:List (Nat × Nat)):(stS us).length=us.length:=by unfold stS;rw[af]
theorem zbU{w:()}{i:Nat}(h:Y7 ps w i):∀u ∈ sAt ps w i,u.1<ps.length:=λu hu=>by
 unfold sAt at hu;obtain⟨j,hj,rfl⟩:=tQ.mp hu
 cases e:zE (wAt ps w j) ps with
 | none=>exact absurd e (h j (tV.mp hj))
 | some v =>
  obtain⟨p,h1,_⟩:=zP e;exact (tP.mp h1).1
theorem jM{w:()}{i:Nat}(h:Y7 ps w i):∀u ∈ stS (sAt ps w i),0<=u.1/\u.1<ps.length:=λu hu=>by
 unfold stS at hu;obtain⟨v,hv,rfl⟩:=tQ.mp hu;have:=zbU h v hv;show 0<=(v.1:Int)/\(v.1:Int)<ps.length;lia
theorem Yw{n:Int}(h:∀u ∈ ss,0<=u.1/\u.1<n):∀u ∈ yI ss,0<=u.1/\u.1<n:=λu hu=>by
 unfold yI at hu;obtain⟨v,hv,rfl⟩:=tQ.mp hu;exact h v (tY.mp hv)
theorem zb2(h:∀e ∈ es,e.2.2.length<=600)(u:Stp):(Xg es u).length<=600:=by
 have hg:(es.getD u.1.toNat ([],[],[])).2.2.length<=600:=by
  rw[ac]
  cases e:es[u.1.toNat]? with
  | none=>exact aE _
  | some r=>exact h r (ae e)
 unfold Xg;rw[ZE];split
 ·exact hg
 ·rw[yg];exact hg
theorem zag(h:∀e ∈ es,e.2.2.length<=600):∀us:List Stp,(byL es us).length<=us.length * 600
 | []=>by simp [byL]
 | u::us=>by
  have e:byL es (u::us)=Xg es u ++ byL es us:=by simp [byL]
  have h1:=zb2 h u;have h2:=zag h us;rw[e,ah,ay,eF];lia
def Xa(K:pD)(CF:pE):Sp:=λvs H Q E=>∃(a p s:pE) (k:Nat) (l:()) (ns:List Int) (bs:List Ent) (e:Ent),vs=[.ref a,.ref p]/\OG l ns k/\Is K H (.lst (bs.map dE)) (.ref a)/\BG k l ns bs/\SqT K H p [.str (tx e.1),.str (tx e.2.1),.ref s]/\LsA K H s (e.2.2.map dSt)/\EB l e /\
 (∀i j H',EndsAt (zb bs) e.1 i->EndsAt (zb bs) e.2.1 j->wAt (zb bs) e.1 i=wAt (zb bs) e.2.1 j->Same H H'->Q .non H') /\
 (∀i j p' s' H',EndsAt (zb bs) e.1 i->EndsAt (zb bs) e.2.1 j->wAt (zb bs) e.1 i≠wAt (zb bs) e.2.1 j->Same H H'->H s'=tJ->H' p'=tI (.tup [.str (tx (yG bs e i j).1),.str (tx (yG bs e i j).2.1),.ref s'])->LsA K H' s' ((yG bs e i j).2.2.map dSt)->Q (.ref p') H') /\
 ((∀i,¬ EndsAt (zb bs) e.1 i)\/(∀j,¬ EndsAt (zb bs) e.2.1 j)->∀H',Same H H'->E (.ref CF) tJ H')
theorem Wf{a t:pE}{us:List Stp}(h1:Is K H (.lst (es.map dE)) (.ref a))(h2:Is K H (.lst (us.map dSt)) (.ref t))(h3:us.length<=100)(h4:∀e ∈ es,e.2.2.length<=600)(h5:∀u ∈ us,0<=u.1/\u.1<es.length)(h:∀(D:pE) (H':Hp),H D=tJ->Same H H'->LsA K H' D ((byL es us).map dSt)->Q (.ref D) H'):Uw K [.ref a,.ref t] H Q E:=#[a,t,es,us,rfl,h1,h2,h3,h4,h5,h]
theorem gz:sQz 2 ["entries","entry","rules","one","other","steps"] xP:=by nofun
theorem qB{f CF:pE}{iL:rZ}(B:Bt mg)(TM:TMo mg)(F:("brought_down"^^^xP))(gr:(1<<<"pairs_of") ["entries"] [] (x0 K))(me:(4>>>"gone") ["rules","word","most"] [] (xL K CF))(DD_gone:(4>>>"gone") ["rules","word","most"] [.int 4000 iL] (xL K CF))(im:(2<<<"by_pacts") ["entries","steps"] [] (Uw K))(lD:(1<<<"back") ["steps"] [] (uC K)):(5|||["entries","entry"]) (Xa K CF):=by
 obtain⟨t9,g9⟩:=TM.u
 exists Fun.okX F gz,0
 ·obtain⟨a,p,s,k,l,ns,bs,e,rfl,hG,hA,hB,hp,hs,hE,q1,q2,q3⟩:=h
  refine#[_,(zi (zB 2 gz.nd (cl0 gr hr .nil rfl (za (pv 0) zf)))
   (zi (zB 3 gz.nd (clP hx me hr .nil rfl (za (pv 2) (za (zl ix_tup (pv 1) ze) (za (yl (v:=.int 40) rfl g9 #[t9,rfl]) zf)))))
   (zi (zB 4 gz.nd (clP hx me hr .nil rfl (za (pv 2) (za (zl ix_tup (pv 1) ze) (za (yl (v:=.int 40) rfl g9 #[t9,rfl]) zf)))))
   (zi (zM (zA wf (zl ix_tup (pv 3) ze) (zl ix_tup (pv 4) ze) (zC _))
    (zg (zm yy))
    zw)
   (zi (zB 5 gz.nd (zx Wc (zx Wc (cl0 im hr .nil rfl (za (pv 0) (za (cl0 lD hr .nil rfl (za (zl ix_tup (pv 3) ze) zf)) zf))) (zl ix_tup (pv 1) ze)) (cl0 im hr .nil rfl (za (pv 0) (za (zl ix_tup (pv 4) ze) zf)))))
   (zg (zm (zY (za (zl ix_tup (pv 3) ze) (za (zl ix_tup (pv 4) ze) (za (pv 5) zf))))))))))),?_]
  have s16:=z6;have hbl:=hB.n;have hN:=hB.ne hG;have hpl:=xQ bs;have hst:∀e ∈ bs,e.2.2.length<=600:=λe he=>(hB.e e he).s;have hst3:∀e ∈ bs,e.2.2.length<=600:=λe he=>by have:=hst e he;lia
  refine zj (λσ H'=>Same H H'/\∃R:pE,LsA K H' R ((zb bs).map dR)/\σ=[!!a,!!p,!!R,tJ,tJ,tJ]) ?_ ?_
  ·ac_rfl;exact xT hA ⋯ λD H' _ s' hL=>#[s',D,hL,rfl]
  rintro σ H1 ⟨s1,R,hR,rfl⟩:_;right;refine zj (λσ H'=>Same H1 H'/\∃(i:Nat),EndsAt (zb bs) e.1 i/\∃p1:pE,(∃S1:pE,H' p1=tI (.tup [.ref S1,.str (tx (wAt (zb bs) e.1 i))])/\LsA K H' S1 ((sAt (zb bs) e.1 i).map dG))/\σ=[!!a,!!p,!!R,!!p1,tJ,tJ]) ?_ ?_
  ·ac_rfl;refine#[_,zq s1 hp,_,rfl,uA hR hN ⋯ hB.le hE.a (λi p1 S1 H' hi s' hp1 hL _=>#[s',i,hi,p1,#[S1,hp1,hL],rfl]) λhno H' s'=>q3 (.inl hno) H' (s1.trans s')]
  rintro σ H2 ⟨s2,i,hi,p1,⟨S1,hp1,hS1⟩,rfl⟩:_;have s12:=s1.trans s2;right;refine zj (λσ H'=>Same H2 H'/\∃(j:Nat),EndsAt (zb bs) e.2.1 j/\∃p2:pE,(∃S2:pE,H' p2=tI (.tup [.ref S2,.str (tx (wAt (zb bs) e.2.1 j))])/\LsA K H' S2 ((sAt (zb bs) e.2.1 j).map dG))/\σ=[!!a,!!p,!!R,!!p1,!!p2,tJ]) ?_ ?_
  ·ac_rfl;refine#[_,zq s12 hp,_,rfl,uA (hR.same s2) hN ⋯ hB.le hE.b (λj p2 S2 H' hj s' hp2 hL _=>#[s',j,hj,p2,#[S2,hp2,hL],rfl]) λhno H' s'=>q3 (.inr hno) H' (s12.trans s')]
  rintro σ H3 ⟨s3,j,hj,p2,⟨S2,hp2,hS2⟩,rfl⟩:_;have s13:=s12.trans s3;have hp1':=s3 _ _ hp1;have hS1':=hS1.same s3;right;refine zj (λσ H'=>H'=H3/\wAt (zb bs) e.1 i≠wAt (zb bs) e.2.1 j/\σ=[!!a,!!p,!!R,!!p1,!!p2,tJ]) ?_ ?_
  ·ac_rfl;refine#[_,SqT.of hp1',_,rfl,_,SqT.of hp2,_,rfl,rfl,yM (λh=>?_) λh=>?_]
   ·exact q1 i j H3 hi hj (uL (by injection h)) s13
   ·exact λz=>h (by rw[z])
  rintro σ H4 ⟨rfl,hne,rfl⟩:_;have him:=hi.most;have hjm:=hj.most;have hl1:(stS (sAt (zb bs) e.1 i)).length=i:=by rw[um,vq]
  have hl2:(stS (sAt (zb bs) e.2.1 j)).length=j:=by rw[um,vq]
  rw[V6]at hS1' hS2;have hA4:=Is.same s13 _ _ hA;have hb1:=zag hst (yI (stS (sAt (zb bs) e.1 i)));have hb2:=zag hst (stS (sAt (zb bs) e.2.1 j));rw[yg,hl1]at hb1;rw[hl2]at hb2;have hes:=hE.s;right;refine zj (λσ H'=>Same H4 H'/\∃S:pE,H4 S=tJ/\LsA K H' S ((yG bs e i j).2.2.map dSt)/\σ=[!!a,!!p,!!R,!!p1,!!p2,!!S]) ?_ ?_
  ·ac_rfl;refine#[_,SqT.of hp1',_,rfl,qg hS1'.is ⋯ λB1 G1 _ t1 hB1=>Wf (Is.same t1 _ _ hA4) hB1.is (by rw[yg];lia) hst3 (by rw[<- hpl];exact Yw (jM hi.live)) λC1 G2 hC1n t2 hC1=>?_];have t12:=t1.trans t2;obtain⟨c1,hc1,ic1⟩:=id hC1;obtain⟨es0,hs0,is0⟩:=hs.same (s13.trans t12);have lc1:=ic1.len;have ls0:=is0.len;rw[af]at lc1 ls0;refine#[_,zq (s13.trans t12) hp,_,rfl,C1,rfl,s,rfl,c1,hc1,es0,hs0,⋯,λM hM=>?_];have t3:=zd (o:=.lst (c1 ++ es0)) hM;have t13:=t12.trans t3;refine#[_,SqT.of (t13 _ _ hp2),_,rfl,Wf (Is.same t13 _ _ hA4) (hS2.same t13).is ⋯ hst3 (by rw[<- hpl];exact jM hj.live) λC2 G3 hC2n t4 hC2=>?_];obtain⟨c2,hc2,ic2⟩:=id hC2;have lc2:=ic2.len;rw[af]at lc2;refine#[C2,rfl,c1 ++ es0,t4 _ _ zc,c2,hc2,by rw[ah];lia,λS hS=>?_];have t5:=zd (o:=.lst (c1 ++ es0 ++ c2)) hS;refine#[t13.trans (t4.trans t5),S,(t13.trans t4).free hS,#[_,zc,?_],rfl];show Iss K _ ((byL bs (yI (stS (sAt (zb bs) e.1 i))) ++ e.2.2 ++ byL bs (stS (sAt (zb bs) e.2.1 j))).map dSt) _;rw[au,au];exact Iss.append (Iss.append (Iss.same (t3.trans (t4.trans t5)) _ _ ic1) (Iss.same (t3.trans (t4.trans t5)) _ _ is0)) (Iss.same t5 _ _ ic2)
  rintro σ H5 ⟨s5,S,hSn,hS,rfl⟩:_;right;ac_rfl;refine#[_,SqT.of (s5 _ _ hp1'),_,rfl,_,SqT.of (s5 _ _ hp2),_,rfl,⋯,λt ht=>?_];have st:=zd (o:=.tup [.str (tx (wAt (zb bs) e.1 i)),.str (tx (wAt (zb bs) e.2.1 j)),.ref S]) ht;exact q2 i j t S _ hi hj hne (s13.trans (s5.trans st)) (s13.free hSn) zc (hS.same st)
def qL(K:pD)(CF:pE):Sp:=λvs H Q E=>∃(p s:pE) (e:Ent),vs=[.ref p]/\SqT K H p [.str (tx e.1),.str (tx e.2.1),.ref s]/\Is K H (.lst (e.2.2.map dSt)) (.ref s)/\e.1.length<=10000/\e.2.1.length<=10000/\(¬ ut e->Q .non H)/\(ut e->E (.ref CF) tJ H)
theorem Wy{CF p s:pE}(h1:SqT K H p [.str (tx e.1),.str (tx e.2.1),.ref s])(h2:Is K H (.lst (e.2.2.map dSt)) (.ref s))(h3:e.1.length<=10000)(h4:e.2.1.length<=10000)(h5:¬ ut e->Q .non H)(h6:ut e->E (.ref CF) tJ H):qL K CF [.ref p] H Q E:=#[p,s,e,rfl,h1,h2,h3,h4,h5,h6]
theorem uX:sQz 1 ["entry"] xu:=by nofun
theorem uY{f CF:pE}(B:Bt mg)(T:zbe K mg CF)(TM:TMo mg)(F:("refuse_beyond"^^^xu)) :(1|||["entry"]) (qL K CF):=by
 obtain⟨⟨t9,g9⟩,⟨t8,g8⟩⟩:=And.intro TM.s TM.d
 exists Fun.okX F uX,0
 ·obtain⟨p,s,e,rfl,hp,hs,ha,hb,q1,q2⟩:=h
  refine#[_,(zi (zM (zA Xc (zG B.len (zl ix_tup (pv 0) ze)) (yl (v:=.int 240) rfl g9 #[t9,rfl]) (zC _))
    (zg (yu hx rfl T.xi.toXC T.ini rfl T.g (za zX zf)))
    zw)
   (zg (zM (zA Xc (wg (UB rfl) rfl B.max uZ (za (zG B.len (zl ix_tup (pv 0) ze)) (za (zG B.len (zl ix_tup (pv 0) ze)) zf))) (yl (v:=.int 60) rfl g8 #[t8,rfl]) (zC _))
    (zg (yu hx rfl T.xi.toXC T.ini rfl T.g (za zX zf)))
    zw))),?_]
  have s16:=z6
  erw[Is]at hs
  obtain⟨_,zs,e0,hZ,hI⟩:=hs;cases e0;have hzl:=hI.len;rw[af]at hzl;refine zj (λσ H'=>H'=H/\e.2.2.length<=240/\σ=[!!p]) ?_ ?_
  ·ac_rfl;refine#[_,hp,_,rfl,_,.inl #[_,hZ,rfl],yM (λh=>#[⋯,q2 (.inl ⋯)]) λh=>by lia]
  rintro σ H1 ⟨rfl,h1,rfl⟩:_;right;ac_rfl;refine#[_,hp,_,rfl,_,#[by rw[zS];lia,rfl],_,hp,_,rfl,_,#[by rw[zS];lia,rfl],?_];rw[zS,zS];refine yM (λh=>#[⋯,q2 ?_]) λh=>q1 ?_
  ·unfold ut;split at h <;> lia
  ·unfold ut;split at h <;> lia
theorem Jo{l:()}{i j:Nat}(hB:BG k l ns bs)(hE:EB l e)(hF:¬ ut (yG bs e i j)):EB l (yG bs e i j):=by
 unfold ut at hF;exact#[⋯,⋯,⋯,vo hE.ma hB.mem i,vo hE.mb hB.mem j]
theorem BG.snoc{l:()}{d:Ent}(h:BG k l ns bs)(hn:bs.length+1<64)(hd:EB l d)(hne:d.1≠d.2.1):BG k l ns (bs ++ [zU k l ns d]):=by
 refine#[by rw[ah];exact hn,λe he=>?_,λe he=>?_]
 ·rcases tS.mp he with he | he
  ·exact h.e e he
  ·rw[tT.mp he];exact hd.rule
 ·rcases tS.mp he with he | he
  ·exact h.lt e he
  ·rw[tT.mp he];exact qG hd hne
theorem Jp{CF a p s:pE}{l:()}(h1:OG l ns k)(h2:Is K H (.lst (bs.map dE)) (.ref a))(h3:BG k l ns bs)(h4:SqT K H p [.str (tx e.1),.str (tx e.2.1),.ref s])(h5:LsA K H s (e.2.2.map dSt))(h6:EB l e)
  (q1:∀i j H',EndsAt (zb bs) e.1 i->EndsAt (zb bs) e.2.1 j->wAt (zb bs) e.1 i=wAt (zb bs) e.2.1 j->Same H H'->Q .non H')
  (q2:∀i j p' s' H',EndsAt (zb bs) e.1 i->EndsAt (zb bs) e.2.1 j->wAt (zb bs) e.1 i≠wAt (zb bs) e.2.1 j->Same H H'->H s'=tJ->H' p'=tI (.tup [.str (tx (yG bs e i j).1),.str (tx (yG bs e i j).2.1),.ref s'])->LsA K H' s' ((yG bs e i j).2.2.map dSt)->Q (.ref p') H')
  (q3:(∀i,¬ EndsAt (zb bs) e.1 i)\/(∀j,¬ EndsAt (zb bs) e.2.1 j)->∀H',Same H H'->E (.ref CF) tJ H'):Xa K CF [.ref a,.ref p] H Q E:=#[a,p,s,k,l,ns,bs,e,rfl,h1,h2,h3,h4,h5,h6,q1,q2,q3]
theorem Je{l:()}{i j:Nat}(hB:BG k l ns bs)(hG:OG l ns k)(hE:EB l e)(hi:i<=40)(hj:j<=40):(yG bs e i j).1.length<=10000/\(yG bs e i j).2.1.length<=10000:=by
 have h1:=qC (l:=e.1) (m:=60) (hB.ne hG) (λp hp=>(hB.le p hp).2) i;have h2:=qC (l:=e.2.1) (m:=60) (hB.ne hG) (λp hp=>(hB.le p hp).2) j;have h3:=hE.a;have h4:=hE.b;show (wAt (zb bs) e.1 i).length<=10000/\(wAt (zb bs) e.2.1 j).length<=10000;lia
def kD(K:pD)(CO CR CW CF:pE):Sp:=λvs H Q E=>∃(o a:pE) (k:Nat) (l:()) (ns:List Int) (zs:List Ent),vs=[.ref o,.ref a]/\OrdAt CO CR CW H o k l ns/\OG l ns k/\EnsL K H a zs/\zs.length<64/\(∀e ∈ zs,EB l e) /\
 (∀(bs:List Ent) (D:pE) (H':Hp),y8 k l ns [] zs (tI bs)->BG k l ns bs->Same H H'->H D=tJ->EnsM K H' D bs->Q (.ref D) H')/\(y8 k l ns [] zs tJ->∀H',Same H H'->E (.ref CF) tJ H')
theorem Uv{CO CR CW CF o a:pE}{l:()}{zs:List Ent}(h1:OrdAt CO CR CW H o k l ns)(h2:OG l ns k)(h3:EnsL K H a zs)(h4:zs.length<64)(h5:∀e ∈ zs,EB l e)
  (q1:∀(bs:List Ent) (D:pE) (H':Hp),y8 k l ns [] zs (tI bs)->BG k l ns bs->Same H H'->H D=tJ->EnsM K H' D bs->Q (.ref D) H') (q2:y8 k l ns [] zs tJ->∀H',Same H H'->E (.ref CF) tJ H'):kD K CO CR CW CF [.ref o,.ref a] H Q E:=#[o,a,k,l,ns,zs,rfl,h1,h2,h3,h4,h5,q1,q2]
def zel(K:pD)(H1 H':Hp)(bs:List Ent)(e:Ent)(v:V):Prop:=∃i j,EndsAt (zb bs) e.1 i/\EndsAt (zb bs) e.2.1 j/\((wAt (zb bs) e.1 i=wAt (zb bs) e.2.1 j/\v=.non) \/
 (wAt (zb bs) e.1 i≠wAt (zb bs) e.2.1 j/\∃p s:pE,v=.ref p/\H1 s=tJ/\H' p=tI (.tup [.str (tx (yG bs e i j).1),.str (tx (yG bs e i j).2.1),.ref s])/\LsA K H' s ((yG bs e i j).2.2.map dSt)))
def zdY(K:pD)(H:Hp)(D:pE)(k:Nat)(l:())(ns:List Int)(zs:List Ent)(i:Nat)(H':Hp):Prop:=∃(bs:List Ent) (tO:List V),Same H H'/\H' D=tI (.lst tO)/\EnsA K (jB D H') bs tO/\BG k l ns bs/\bs.length<=i/\∀r,y8 k l ns bs (zs.drop i) r->y8 k l ns [] zs r
theorem iF:sQz 2 ["order","entries","built","entry","lower"] wJ:=by nofun
theorem Ze{f CO CR CW CF:pE}(B:Bt mg)(F:("built_anew"^^^wJ))(nP:(5>>>"brought_down") ["entries","entry"] [] (Xa K CF))(nG:(1>>>"refuse_beyond") ["entry"] [] (qL K CF))(mH:(4<<<"as_rule") ["order","entry"] [] (wo K CO CR CW)):(6|||["order","entries"]) (kD K CO CR CW CF):=by
 exists Fun.okX F iF,0
 ·obtain⟨o,a,k,l,ns,zs,rfl,ho,hG,hA,hz,hE,q1,q2⟩:=h
  refine#[_,(zi (zB 2 iF.nd (wl zf))
   (zi (yh PassesOwn.leaving rfl (yJ (pv 1)) (zy (i:=3) iF.nd rfl (.inl rfl))
    (zi (zB 4 iF.nd (clP hx nP hr .nil rfl (za (pv 2) (za (pv 3) zf))))
    (zg (zM (zA op_notN' (pv 4) yy (zC _))
     (zi (xJ (clP hx nG hr .nil rfl (za (pv 4) zf)))
     (zg (xJ (va bv bQ bR xq (pv 2) (za (cl0 mH hr .nil rfl (za (pv 0) (za (pv 4) zf))) zf)))))
     zw))))
   (zg (zm (pv 2))))),?_]
  have s16:=z6;obtain⟨xs,hX,hI⟩:=id hA;have hxl:=hI.len;refine zj (λσ H'=>Same H H'/\∃D:pE,H D=tJ/\H' D=tI (.lst [])/\σ=[!!o,!!a,!!D,tJ,tJ]) ?_ ?_
  ·ac_rfl;exact#[⋯,λp hp=>#[zd hp,p,hp,zc,rfl]]
  rintro σ H0 ⟨s0,D,hD,hD0,rfl⟩:_;right;refine zj (λσ H'=>zdY K H D k l ns zs zs.length H'/\∃(v3 v4:Option V),σ=[!!o,!!a,!!D,v3,v4]) ?_ ?_
  ·ac_rfl;refine#[#[_,s0.seq hX],ForL.by (xs:=xs) (λi σ H'=>zdY K H D k l ns zs i H'/\∃(v3 v4:Option V),σ=[!!o,!!a,!!D,v3,v4]) #[#[[],[],s0,hD0,by erw[EnsA],#[∅,λe he=>(nomatch he),λe he=>(nomatch he)],ak _,λr h=>h],tJ,tJ,rfl] (λi σ H' _ ⟨⟨_,_,h,_⟩,_⟩=>h.seq hX) ?_ ?_]
   ·refine nm4 ?_;rintro i x σ H1 hx ⟨⟨bs,tO,s1,hH1,hI1,hB,hbi,hr⟩,v3,v4,rfl⟩:_;have hix:=(tP.mp hx).1;obtain⟨e,pe,se,hei,rfl,hqe,hse⟩:=hI.get hx;have hEe:=hE e (ae hei)
    have hdrop:zs.drop i=e::zs.drop (i+1):=by
     obtain⟨h1,h2⟩:=tP.mp hei;rw[aS h1,h2]
    rw[hdrop]at hr;have hal:=hI1.len;have hbn:=hB.n
    have hIs:Is K H1 (.lst (bs.map dE)) (.ref D):=by
     erw[Is]
     exact#[D,tO,rfl,SqL.of hH1,(hI1.same wq).iss]
    right
    erw[yS,be,bc]
    refine zj (λσ H'=>Same H1 H'/\∃v:V,zel K H1 H' bs e v/\σ=[!!o,!!a,!!D,!!pe,tI (v)]) ?_ ?_
    ·ac_rfl;exact Jp hG hIs hB (zq s1 hqe) (hse.same s1) hEe (λi' j' H' a1 a2 a3 s'=>#[s',i',j',a1,a2,.inl #[a3,rfl]]) (λi' j' p' s' H' a1 a2 a3 t' a4 a5 a6=>#[t',i',j',a1,a2,.inr #[a3,p',s',rfl,a4,a5,a6]]) λh H' s'=>q2 (hr _ (.stuck h)) H' (s1.trans s')
    rintro σ H2 ⟨s2,v,⟨i',j',hi',hj',hc⟩,rfl⟩:_;right;rcases hc with ⟨hw,rfl⟩ | ⟨hw,p',s',rfl,hsn,hp',hL'⟩
    ·ac_rfl;exact#[bs,tO,s1.trans s2,s2 _ _ hH1,hI1.same (wL s2),hB,⋯,λr h=>hr r (.same hi' hj' hw h)]
    ·ac_rfl
     try rw[if_pos not_false]
     have hdl:=Je hB hG hEe hi'.most hj'.most;refine zj (λσ H'=>H'=H2/\¬ ut (yG bs e i' j')/\σ=[!!o,!!a,!!D,!!pe,!!p']) ?_ ?_
     ·ac_rfl;exact Wy (SqT.of hp') hL'.is hdl.1 hdl.2 (λh=>#[rfl,h]) λh=>q2 (hr _ (.far hi' hj' hw h)) H2 (s1.trans s2)
     rintro σ H3 ⟨rfl,hF,rfl⟩:_;have hEd:=Jo hB hEe hF;have hH3:=s2 _ _ hH1
     have fin:∀(v:V) (H4:Hp),Same H3 H4->EnA K (jB D H4) (zU k l ns (yG bs e i' j')) v->zdY K H D k l ns zs (i+1) (upd H4 D (.lst (tO ++ [v]))):=λv H4 s4 hv=>by
      refine#[bs ++ [zU k l ns (yG bs e i' j')],tO ++ [v],zD (s1.trans (s2.trans s4)) hD,zc,?_,hB.snoc ⋯ hEd hw,by rw[ah];show bs.length+1<=i+1;lia,λr h=>hr r (.new hi' hj' hw hF h)];exact (hI1.same ((wL (s2.trans s4)).trans xD)).snoc (hv.same xD)
     right;ac_rfl;refine#[.inl #[_,SqL.of hH3],jQ (ho.same (s1.trans s2)) hG (SqT.of hp') hL'.is hEd (λer H4 s4=>#[tO,s4 _ _ hH3,⋯,fin _ _ s4 ?_]) λp2 t2 H4 s4 htn hp2 hL2=>#[tO,s4 _ _ hH3,⋯,fin _ _ s4 ?_]]
     ·rw[er];exact EnA.new (s4 _ _ hH3) (s4 _ _ hp') (hL'.same s4) (λz=>by rw[z,hH1]at hsn;cases hsn)
     ·exact EnA.new (s4 _ _ hH3) hp2 hL2 (λz=>by rw[z,hH3]at htn;cases htn)
   ·rintro σ H' ⟨h,v3,v4,rfl⟩;rw[hxl]at h;exact#[h,_,_,rfl]
  rintro σ H2 ⟨⟨bs,tO,s2,hH2,hI2,hB,hbi,hr⟩,v3,v4,rfl⟩:_;rw[dI]at hr;right;ac_rfl;exact q1 bs D H2 (hr _ (.nil bs)) hB s2 hD #[tO,hH2,hI2.same wq]
theorem QE(rs ss:List zp):vZ (rs.map dR) (ss.map dR)=decide (rs=ss):=by
 induction rs generalizing ss with
 | nil=>cases ss with
  | nil=>simp [vZ]
  | cons s ss=>simp [vZ]
 | cons r rs ih=>cases ss with
  | nil=>simp [vZ]
  | cons s ss =>
   rw[ar,ar,vZ,ih]
   have h:eqD (dR r) (dR s)=decide (r=s):=by
    obtain⟨a,b⟩:=r;obtain⟨c,d⟩:=s
    have e1:∀x y:(),eqD (dS x) (dS y)=decide (x=y):=λx y=>by
     have:eqD (dS x) (dS y)=decide (tx x=tx y):=by erw[dS,eqD];rfl
     rw[this];exact decide_eq_decide.mpr #[uL,λh=>by rw[h]]
    erw[dR,eqD,vZ,e1]
    by_cases h1:a=c <;> by_cases h2:b=d <;> simp [h1,h2]
   rw[h];by_cases h1:r=s <;> by_cases h2:rs=ss <;> simp [h1,h2]
theorem Lined.eb{l:()}{es zs:List Ent}(h:Lined k l ns es zs)(hE:∀e ∈ es,EB l e):∀e ∈ zs,EB l e:=λe he=>by
 have hm:=h.perm.mem_iff.mp he;unfold uN at hm;obtain⟨y,hy,rfl⟩:=tQ.mp hm;exact (hE y (tU.mp hy).1).rule
theorem Lined.len{l:()}{es zs:List Ent}(h:Lined k l ns es zs):zs.length<=es.length:=by
 rw[h.perm.length_eq];exact YS k l ns es
def VN(K:pD)(CO CR CW T CF:pE):Sp:=λvs H Q E=>∃(o a:pE) (k:Nat) (l:()) (ns:List Int) (es:List Ent),vs=[.ref o,.ref a]/\OrdAt CO CR CW H o k l ns/\OG l ns k/\EnsL K H a es/\es.length<64/\(∀e ∈ es,EB l e)/\TabOk H T lp lq /\
 (∀(bs:List Ent) (D:pE) (H':Hp),vY k l ns 20 es (tI bs)->BG k l ns bs->SamT T H H'->TabOk H' T lp lq->EnsM K H' D bs->Q (.ref D) H')/\(vY k l ns 20 es tJ->∀H',SamT T H H'->TabOk H' T lp lq->E (.ref CF) tJ H')
def zeo(K:pD)(T:pE)(H:Hp)(k:Nat)(l:())(ns:List Int)(es:List Ent)(n:Nat)(H':Hp)(b:pE):Prop:=∃fs:List Ent,SamT T H H'/\TabOk H' T lp lq/\(∀r,vY k l ns n fs r->vY k l ns 20 es r)/\EnsL K H' b fs/\fs.length<64/\∀e ∈ fs,EB l e
theorem lC:sQz 2 ["order","entries","turn","lined_up"] qm:=by nofun
theorem WS{f CO CR CW TB CF:pE}(B:Bt mg)(T:zbe K mg CF)(TM:TMo mg)(F:("thinned"^^^qm))(oH:(6<<<"in_order") ["order","entries"] [] (ke K CO CR CW TB))(om:(6>>>"built_anew") ["order","entries"] [] (kD K CO CR CW CF))(gr:(1<<<"pairs_of") ["entries"] [] (x0 K)):(7|||["order","entries"]) (VN K CO CR CW TB CF):=by
 obtain⟨t9,g9⟩:=TM.p
 exists Fun.okX F lC,0
 ·obtain⟨o,a,k,l,ns,es,rfl,ho,hG,hA,hz,hE,hTab,q1,q2⟩:=h
  refine#[_,(zi (yh PassesOwn.leaving rfl (yt rfl B.range (za (yl (v:=.int 20) rfl g9 #[t9,rfl]) zf)) (zy (i:=2) lC.nd rfl (.inl rfl))
    (zi (zB 3 lC.nd (cl0 oH hr .nil rfl (za (pv 0) (za (pv 1) zf))))
    (zi (zB 1 lC.nd (clP hx om hr .nil rfl (za (pv 0) (za (pv 3) zf))))
    (zg (zM (zA (UA (kP hr)) (cl0 gr hr .nil rfl (za (pv 1) zf)) (cl0 gr hr .nil rfl (za (pv 3) zf)) (zC _))
     (zg (zm (pv 1)))
     zw)))))
   (zg (yu hx rfl T.xi.toXC T.ini rfl T.g (za zX zf)))),?_]
  have s16:=z6;obtain⟨ps0,hps0,_⟩:=id hTab;refine zj (λσ H'=>∃b:pE,zeo K TB H k l ns es 0 H' b) ?_ ?_
  ·ac_rfl;refine#[⋯,⋯,ForR.by (λi σ H'=>∃(b:pE) (v2 v3:Option V),zeo K TB H k l ns es (20 - i) H' b/\σ=[!!o,!!b,v2,v3]) #[a,tJ,tJ,#[es,SamT.of (Same.refl _),hTab,λr h=>h,hA,hz,hE],rfl] ?_ ?_]
   ·refine nm3 ?_;rintro i σ H1 hi ⟨b,v2,v3,⟨fs,s1,hT1,hr,hF,hfl,hFE⟩,rfl⟩:_;have ho1:=ho.samT s1 hps0;have hi20:i<20:=hi;obtain⟨n,hn⟩:∃n,20 - i=n+1:=#[20 - i - 1,⋯];rw[hn]at hr;right
    erw[yS,be,bc]
    refine zj (λσ H'=>SamT TB H1 H'/\TabOk H' TB lp lq/\∃(z:pE),(∃zs:List Ent,Lined k l ns fs zs/\EnsM K H' z zs)/\∃v2,σ=[!!o,!!b,v2,!!z]) ?_ ?_
    ·ac_rfl;exact Vx ho1 hG hF hfl hFE hT1 λD zs H' s' hT' _ hLn hM=>#[s',hT',D,#[zs,hLn,hM],rfl]
    rintro σ H2 ⟨s2,hT2,z,⟨zs,hLn,hZ⟩,v2,rfl⟩:_;have s12:=s1.trans s2;have ho2:=ho.samT s12 hps0;have hzE:=hLn.eb hFE;have hzl:=hLn.len;right;refine zj (λσ H'=>Same H2 H'/\∃(c:pE),(∃bs:List Ent,y8 k l ns [] zs (tI bs)/\BG k l ns bs/\EnsM K H' c bs)/\σ=[!!o,!!c,v2,!!z]) ?_ ?_
    ·ac_rfl;exact Uv ho2 hG hZ.l ⋯ hzE (λbs D H' hb hB s' _ hM=>#[s',D,#[bs,hb,hB,hM],rfl]) λhb H' s'=>q2 (hr _ (.bad hLn hb)) H' (s12.trans (SamT.of s')) (hT2.same s')
    rintro σ H3 ⟨s3,c,⟨bs,hb,hB,hM⟩,rfl⟩:_;have hbn:=hB.n;right;ac_rfl;refine xT hM.l.is ⋯ λP1 H4 _ s4 hP1=>xT ((hZ.same s3).same s4).l.is ⋯ λP2 H5 _ s5 hP2=>Vb (.inl #[(hP1.same s5).is,hP2.is]) (cP (zcx _) ∅) ?_;rw[QE];have s45:=s4.trans s5;have s15:=s12.trans (SamT.of (s3.trans s45));have hT5:=hT2.same (s3.trans s45);refine#[_,rfl,yM (λh=>?_) λh=>?_]
    ·exact q1 bs c H5 (hr _ (.done hLn hb (of_decide_eq_true h))) hB s15 hT5 (hM.same s45)
    ·have e:20 - (i+1)=n:=⋯;rw[e];exact#[bs,s15,hT5,λr h'=>hr r (.more hLn hb (λz=>h (decide_eq_true z)) h'),(hM.same s45).l,hbn,hB.e]
   ·rintro σ H' ⟨b,v2,v3,h,rfl⟩;exact#[b,h]
  rintro σ H2 ⟨b,fs,s2,hT2,hr,_⟩:_;right;ac_rfl;exact#[⋯,q2 (hr _ (.out fs)) H2 s2 hT2]
def qx(K:pD):Sp:=λvs H Q _=>∃(a:pE) (ns:List Int) (k:Int),vs=[.ref a,.int k]/\SqL K H a (ns.map V.int)/\(∀z ∈ ns,jm z)/\0<=k/\∀c:Int,jm c->Q (.int c) H
theorem xf{a:pE}{k:Int}(hS:SqL K H a (ns.map V.int))(hB:∀z ∈ ns,jm z)(hk:0<=k)(h:∀c:Int,jm c->Q (.int c) H):qx K [.ref a,.int k] H Q E:=#[a,ns,k,rfl,hS,hB,hk,h]
theorem zaP:sQz 2 ["_law_script","_law_k"] Uq:=by nofun
theorem zaz(B:Bt mg)(F:("_law_cell"^^^Uq)) :(1&&&["_law_script","_law_k"]) (qx K):=by
 exists F.ok zaP
 ·obtain⟨a,ns,k,rfl,hS,hB,hk,q⟩:=h
  refine#[_,(zJ (zM (zA Uh (pv 1) (zG B.len (pv 0)) (zC _))
    (zg (zm (zl zc5 (pv 0) (pv 1))))
    zw)
   (zg (zm ze))),?_]
  have s16:=z6
  rfl'
  refine#[_,.inl #[_,hS,rfl],yM (λc=>?_) (λc=>q 0 (by unfold jm;decide))];obtain⟨v,h1,h2⟩:=qD hk c;rw[aA]at h2;obtain⟨z,hz,rfl⟩:=tW.mp h2;exact .inl #[_,hS,_,h1,q z (hB z (ae hz))]
def vM:Sp:=λvs H Q _=>∃(c t:Int),vs=[.int c,.int t]/\jm c/\0<=t/\t<=100/\∀z:Int,0<=z->Q (.int z) H
theorem xW{c t:Int}(hc:jm c)(h0:0<=t)(h1:t<=100)(q:∀z:Int,0<=z->Q (.int z) H):vM [.int c,.int t] H Q E:=#[c,t,rfl,hc,h0,h1,q]
theorem ml:sQz 2 ["_law_cell_here","_law_turn","_law_step","_law_number"] Yq:=by nofun
theorem Js(B:Bt mg)(F:("_law_mixed"^^^Yq)) :(1&&&["_law_cell_here","_law_turn"]) vM:=by
 exists F.ok ml
 ·obtain⟨c,t,rfl,hc,h0,h1,q⟩:=h
  refine#[_,(zi (zM (zA op_ge' (pv 0) (zx Vw ze ze) (zC _))
    (zi (yh PassesOwn.never rfl (yt rfl B.range (za (zx yB ze (zx yL (pv 1) ze)) zf)) (zy (i:=2) ml.nd rfl (.inl rfl))
     (zg (zB 0 ml.nd (zx xp (pv 0) (zx Vw ze ze)))))
    (zg (zm (zx yL (pv 0) (zx Vw ze ze)))))
    zw)
   (zi (zB 3 ml.nd (zx yB (zx jd (zx Jl (pv 0) (pv 0)) ze) (zx jd (zx jd (pv 0) ze) (zx yB (pv 1) ze))))
   (zg (zm (zx xp (zx yL (zx jd (zx yL (zx yB (pv 3) (zx jd (pv 1) ze)) ze) ze) ze) ze))))),?_]
  have s16:=z6;have c6:zeg 10 6:=#[∅,∅,∅];have c12:zeg 10 12:=#[∅,∅,∅];have p6:(0:Int)<10 ^ Int.toNat 6/\(10:Int) ^ Int.toNat 6<1073741824:=∅;refine zj (λσ H'=>H'=H/\σ=[~~~!c,~~~!t,tJ,tJ]) ?_ ?_
  ·rfl'
   refine#[c12,yM (λ_=>?_) (λ_=>trivial)];refine zj (λσ H'=>H'=H/\∃(z:Int) (v:Option V),σ=[~~~!z,~~~!t,v,tJ]) ?_ ?_
   ·rfl'
    have e1:=br t (b:=9) ∅;have e2:=bo t (b:=9) ∅;refine#[∅,⋯,⋯,ForR.by (λi σ H'=>H'=H/\∃(z:Int) (v:Option V),σ=[~~~!z,~~~!t,v,tJ]) #[rfl,_,_,rfl] ?_ λσ H' h=>h];refine nm3 ?_;rintro i σ H' hi ⟨rfl,z,v,rfl⟩:_;right
    rfl'
    exact#[c6,p6.1,p6.2]
   rintro σ H1 ⟨rfl,z,v,rfl⟩:_;right
   rfl'
   exact#[c6,p6.1,q _ (br _ (by have:=p6.1;lia))]
  rintro σ H1 ⟨rfl,rfl⟩:_;right;refine zj (λσ H'=>H'=H1/\∃z:Int,σ=[~~~!c,~~~!t,tJ,~~~!z]) ?_ ?_
  ·rfl'
   exact#[hc,hc,.inr #[∅,∅],.inr #[∅,∅],.inr #[⋯,⋯]]
  rintro σ H2 ⟨rfl,z,rfl⟩:_;right
  rfl'
  exact#[.inr #[∅,∅],∅,.inr #[∅,∅],∅,#[∅,∅],q _ (Int.ediv_nonneg (br _ ∅) ∅)]
def ue:Sp:=λvs H Q _=>∃c m:Int,vs=[.int c,.int m]/\jm c/\0<=m/\m<=26/\∀l:(),(l.length:Int)=m->l.Nodup->jq l->Q (.str (tx l)) H
theorem YN{c m:Int}(h:jm c)(h0:0<=m)(h1:m<=26)(q:∀l:(),(l.length:Int)=m->l.Nodup->jq l->Q (.str (tx l)) H):ue [.int c,.int m] H Q E:=#[c,m,rfl,h,h0,h1,q]
def zeu(c m:Int)(i:Nat)(σ:L2.St):Prop:=∃(left found:()) (number:Int) (v5 v6:Option V),found.length=i/\(found ++ left).Perm alpha/\σ=[~~~!c,~~~!m,~~~left,~~~!number,~~~found,v5,v6]
theorem gx:sQz 2 ["_law_cell_here","_law_many","_law_left","_law_number","_law_letters_here","_law_k","_law_at"] qJ:=by nofun
theorem WW(B:Bt mg)(F:("_law_letters"^^^qJ))(iM:(1<<<"_law_mixed") ["_law_cell_here","_law_turn"] [] vM):(2&&&["_law_cell_here","_law_many"]) ue:=by
 exists F.ok gx
 ·obtain⟨c,m,rfl,hc,h0,h1,q⟩:=h
  refine#[_,(zi (zB 2 gx.nd zX)
   (zi (zB 3 gx.nd (cl0 iM hr .nil rfl (za (pv 0) (za ze zf))))
   (zi (zB 4 gx.nd zX)
   (zi (yh PassesOwn.never rfl (yt rfl B.range (za (pv 1) zf)) (zy (i:=5) gx.nd rfl (.inl rfl))
    (zi (zB 6 gx.nd (zx yL (pv 3) (zG B.len (pv 2))))
    (zi (zB 3 gx.nd (zx xp (pv 3) (zG B.len (pv 2))))
    (zi (zB 4 gx.nd (zx zQ (pv 4) (zl Ve (pv 2) (pv 6))))
    (zg (zB 2 gx.nd (zx zQ (z7 xB (pv 2) yT (yb (pv 6))) (z7 xB (pv 2) (yb (zx yB (pv 6) ze)) yT))))))))
   (zg (zm (pv 4))))))),?_]
  have s16:=z6;have ha:alpha.length=26:=rfl;refine zj (λσ H'=>H'=H/\σ=[~~~!c,~~~!m,~~~alpha,tJ,tJ,tJ,tJ]) ?_ ?_
  ·rfl'
   exact UM
  rintro σ H1 ⟨rfl,rfl⟩:_;right;refine zj (λσ H'=>H'=H1/\∃z:Int,σ=[~~~!c,~~~!m,~~~alpha,~~~!z,tJ,tJ,tJ]) ?_ ?_
  ·rfl'
   exact xW hc ∅ ∅ λz _=>#[rfl,z,rfl]
  rintro σ H2 ⟨rfl,z,rfl⟩:_;right;refine zj (λσ H'=>H'=H2/\σ=[~~~!c,~~~!m,~~~alpha,~~~!z,tI (.str (tx [])),tJ,tJ]) ?_ ?_
  ·rfl'
   rfl
  rintro σ H3 ⟨rfl,rfl⟩:_;right;refine zj (λσ H'=>H'=H3/\zeu c m m.toNat σ) ?_ ?_
  ·rfl'
   refine#[⋯,⋯,ForR.by (λi σ H'=>H'=H3/\zeu c m i σ) #[rfl,alpha,[],z,tJ,tJ,rfl,.refl _,rfl] ?_ λσ H' h=>h];refine nm3 ?_;rintro i σ H' hi ⟨rfl,left,found,number,v5,v6,hf,hp,rfl⟩:_;have hpl:=hp.length_eq;rw[ah]at hpl;have hl:left.length+i=26:=⋯;have hm0:=br number (b:=(left.length:Int)) ⋯;have hm1:=bo number (b:=(left.length:Int)) ⋯;right;generalize hz:number % (left.length:Int)=at_ at hm0 hm1;obtain⟨v,e1,e2⟩:=qD hm0 hm1
   erw[yS,be,bc]
   refine zj (λσ H''=>H''=H'/\∃v5,σ=[~~~!c,~~~!m,~~~left,~~~!number,~~~found,v5,~~~!at_]) ?_ ?_
   ·rfl'
    exact#[⋯,⋯,hz]
   rintro σ G1 ⟨rfl,v5',rfl⟩:_;right;refine zj (λσ H''=>H''=G1/\∃n v5,σ=[~~~!c,~~~!m,~~~left,~~~!n,~~~found,v5,~~~!at_]) ?_ ?_
   ·rfl'
    exact#[⋯,#[⋯,⋯]]
   rintro σ G2 ⟨rfl,n,v5',rfl⟩:_;right;refine zj (λσ H''=>H''=G2/\∃v5,σ=[~~~!c,~~~!m,~~~left,~~~!n,tI (.str (tx (found ++ [v]))),v5,~~~!at_]) ?_ ?_
   ·rfl'
    exact#[⋯,v,e1,⋯,rfl]
   rintro σ G3 ⟨rfl,v5',rfl⟩:_;have hc1:=wG left tJ (tI at_);have hc2:=wG left (tI (at_+1)) tJ;right
   rfl'
   refine#[⋯,⋯,⋯,_,_,_,_,_,by rw[ah,hf];rfl,?_,rfl];rw[jG _ hm0,wS _ ⋯,aK];have e3:(at_+1).toNat=at_.toNat+1:=⋯;rw[e3];exact ((Uc e2).append_left found).trans hp
  rintro σ H4 ⟨rfl,left,found,number,v5,v6,hf,hp,rfl⟩:_;right
  rfl'
  have hnd:(found ++ left).Nodup:=hp.nodup_iff.mpr ∅;refine q found ⋯ (List.nodup_append.mp hnd).1 λc hc=>?_;have h:c ∈ alpha:=hp.mem_iff.mp (aM _ hc);exact (by decide:∀c ∈ alpha,97<=c/\c<=122) c h
def Y6:Sp:=λvs H Q _=>∃(ls:()) (c m:Int),vs=[.int c,.str (tx ls),.int m]/\0<=c/\1<=ls.length/\ls.length<=26/\0<=m/\m<=100/\∀l:(),(l.length:Int)<=m->(∀x ∈ l,x ∈ ls)->Q (.str (tx l)) H
theorem X3{ls:()}{c m:Int}(h0:0<=c)(h1:1<=ls.length)(h2:ls.length<=26)(h3:0<=m)(h4:m<=100)(h:∀l:(),(l.length:Int)<=m->(∀x ∈ l,x ∈ ls)->Q (.str (tx l)) H):Y6 [.int c,.str (tx ls),.int m] H Q E :=
 #[ls,c,m,rfl,h0,h1,h2,h3,h4,h]
theorem iW:sQz 3 ["_law_number","_law_letters_here","_law_most","_law_size","_law_word_here","_law_k"] VE:=by nofun
theorem zbb(B:Bt mg)(F:("_law_word"^^^VE)) :(1&&&["_law_number","_law_letters_here","_law_most"]) Y6:=by
 exists F.ok iW
 ·obtain⟨ls,c,m,rfl,h0,h1,h2,h3,h4,q⟩:=h
  refine#[_,(zJ (zB 3 iW.nd (zx yL (pv 0) (zx yB (pv 2) ze)))
   (zJ (zB 0 iW.nd (zx xp (pv 0) (zx yB (pv 2) ze)))
   (zJ (zB 4 iW.nd zX)
   (zJ (yh PassesOwn.never rfl (yt rfl B.range (za (pv 3) zf)) (zy (i:=5) iW.nd rfl (.inl rfl))
    (zJ (zB 4 iW.nd (zx zQ (pv 4) (zl Ve (pv 1) (zx yL (pv 0) (zG B.len (pv 1))))))
    (zg (zB 0 iW.nd (zx xp (pv 0) (zG B.len (pv 1)))))))
   (zg (zm (pv 4))))))),?_]
  have s16:=z6
  rfl'
  have m0:=br c (b:=m+1) ⋯;have m1:=bo c (b:=m+1) ⋯
  refine#[⋯,#[⋯,⋯],⋯,⋯,ForR.by (λi σ H'=>H'=H/\∃(found:()) (number:Int) (v5:Option V),σ=[~~~!number,~~~ls,~~~!m,tI (.int (c % (m+1))),~~~found,v5]/\found.length=i/\∀x ∈ found,x ∈ ls)
   #[rfl,[],_,tJ,rfl,rfl,λx h=>(nomatch h)] ?_ ?_]
  ·rintro i σ H' hi ⟨rfl,found,number,v5,rfl,hf,hm⟩
   rfl'
   have hm0:=br number (b:=(ls.length:Int)) ⋯;have hm1:=bo number (b:=(ls.length:Int)) ⋯;obtain⟨v,e1,e2⟩:=qD hm0 hm1
   repeat (refine And.intro (by first | lia | decide | exact#[⋯,⋯] | assumption) ?_)
   refine#[v,e1,?_]
   repeat (refine And.intro (by first | lia | decide | exact#[⋯,⋯] | assumption) ?_)
   refine#[by rw[ah,hf];rfl,λx hx=>?_];rcases tS.mp hx with h | h
   ·exact hm x h
   ·rw[tT.mp h];exact ae e2
  ·rintro σ H' ⟨rfl,found,number,v5,rfl,hf,hm⟩
   rfl'
   exact q found ⋯ hm
structure ze2(K:pD):Prop where
 ii:aR K (.type "int") (.type "int")=tI tK
 ib:aR K (.type "int") (.type "bool")=tI tL
def kO:Sp:=λvs H Q _=>∃i:Int,vs=[.int i]/\Q (.bl tK) H
theorem ZW{i:Int}(h:Q (.bl tK) H):kO [.int i] H Q E:=#[i,rfl,h]
theorem Jd:sQz 1 ["_law_found"] YX:=by nofun
theorem QF(B:Bt mg)(T:ze2 K)(F:("_law_whole"^^^YX)):(1&&&["_law_found"]) kO:=by
 exists F.ok Jd
 ·obtain⟨i,rfl,q⟩:=h;refine#[_,(zg (zm (jS (yO rfl B.isi (pv 0) rfl B.int PySem.Pv.boot_int) (jT (Kj (yO rfl B.isi (pv 0) rfl B.bool PySem.Pv.boot_bool)))))),?_]
  rfl'
  exact#[_,.inl (.int _),tK,T.ii,zeE #[_,.inl (.int _),tL,T.ib,q]]
structure TLs(K:pD):Prop where
 ll:aR K (.type "list") (.type "list")=tI tK
 tt:aR K (.type "tuple") (.type "tuple")=tI tK
 bb:aR K (.type "bool") (.type "bool")=tI tK
def Zi(K:pD):Sp:=λvs H Q _=>∃(t:pE) (ss:List Stp),vs=[.ref t]/\Is K H (.lst (ss.map dSt)) (.ref t)/\Q (.bl tK) H
theorem oo:sQz 1 ["_law_found","_law_step"] YW:=by nofun
theorem Ja(B:Bt mg)(T:TLs K)(F:("_law_steps"^^^YW))(oG:(1<<<"_law_whole") ["_law_found"] [] kO):(2&&&["_law_found"]) (Zi K):=by
 exists F.ok oo
 ·obtain⟨t,ss,rfl,hT,q⟩:=h
  refine#[_,(zi (zM (ye (xg (yO rfl B.isi (pv 0) rfl B.list PySem.Pv.boot_list) (λ_=>rfl)))
    (zg (zm xO))
    zw)
   (zi (yh PassesOwn.never rfl (yJ (pv 0)) (zy (i:=1) oo.nd rfl (.inl rfl))
    (zi (zM (PW.pt (uh (ye (xg (yO rfl B.isi (pv 1) rfl B.tuple PySem.Pv.boot_tuple) (λ_=>rfl))) (uh (zA Yr (zG B.len (pv 1)) ze (zC _)) (vS (ye (xg (yO rfl B.isi (zl ix_tup (pv 1) ze) rfl B.bool PySem.Pv.boot_bool) (λ_=>rfl)))))))
     (zg (zm xO))
     zw)
    (zg (zM (PW.pt (uh (ye (xg (cl0 oG hr .nil rfl (za (zl ix_tup (pv 1) ze) zf)) (λ_=>rfl))) (vS (ye (xg (cl0 oG hr .nil rfl (za (zl ix_tup (pv 1) ze) zf)) (λ_=>rfl))))))
     (zg (zm xO))
     zw))))
   (zg (zm xO)))),?_]
  have s16:=z6
  erw[Is]at hT
  obtain⟨_,ts,e,hTs,hJ⟩:=hT;cases e;refine zj (λσ H'=>H'=H/\σ=[!!t,tJ]) ?_ ?_
  ·rfl'
   exact#[_,.inr (.inr (.inl #[_,_,rfl,rfl,hTs])),tK,T.ll,YG trivial]
  rintro σ H1 ⟨rfl,rfl⟩:_;right;refine zj (λσ H'=>H'=H1/\∃v1,σ=[!!t,v1]) ?_ ?_
  ·rfl'
   refine#[#[_,hTs],ForL.by (xs:=ts) (λi σ H'=>H'=H1/\∃v1,σ=[!!t,v1]) #[rfl,_,rfl] (λi σ H' _ h=>by rw[h.1];exact hTs) ?_ λσ H' h=>h];refine nm4 ?_;rintro i x σ H' hx ⟨rfl,v1,rfl⟩:_;obtain⟨u,pu,hui,rfl,hqu⟩:=vE hJ hx;right
   erw[yS,be,bc]
   refine zj (λσ H''=>H''=H'/\σ=[!!t,!!pu]) ?_ ?_
   ·rfl'
    exact#[_,.inr (.inr (.inr #[_,_,rfl,rfl,hqu])),tK,T.tt,YG #[_,.inr #[_,hqu,rfl],yM (λh=>absurd rfl h) λ_=>#[_,hqu,_,rfl,_,.inl (.bl _),tK,T.bb,YG trivial]]]
   rintro σ G ⟨rfl,rfl⟩:_;right
   rfl'
   exact#[_,hqu,_,rfl,ZW #[tK,rfl,YG #[_,hqu,_,rfl,ZW #[tK,rfl,YG rfl]]]]
  rintro σ H2 ⟨rfl,v1,rfl⟩:_;right
  rfl'
  exact q
def j7(K:pD):Sp:=λvs H Q _=>∃(a t:pE) (rs:List zp) (w w':()) (s:Stp),vs=[.ref a,.str (tx w),.ref t]/\Is K H (.lst (rs.map dR)) (.ref a)/\jY rs/\w.length<=300000/\SqT K H t [.int s.1,.int s.2.1,.bl s.2.2]/\yn rs w s=tI w'/\Q (.str (tx w')) H
theorem VW{a t:pE}{w w':()}{s:Stp}(h1:Is K H (.lst (rs.map dR)) (.ref a))(h2:jY rs)(h3:w.length<=300000)(h4:SqT K H t [.int s.1,.int s.2.1,.bl s.2.2])(h5:yn rs w s=tI w')(q:Q (.str (tx w')) H):j7 K [.ref a,.str (tx w),.ref t] H Q E:=#[a,t,rs,w,w',s,rfl,h1,h2,h3,h4,h5,q]
theorem mf:sQz 3 ["_law_pacts","_law_word_here","_law_step","_law_old","_law_new"] UH:=by nofun
theorem zaQ(B:Bt mg)(F:("_law_used"^^^UH)) :(1&&&["_law_pacts","_law_word_here","_law_step"]) (j7 K):=by
 refine F.ok mf (λvs H Q E h=>?_) (λcdv A outer s H vs Q E hr h=>?_)
 ·obtain⟨a,t,rs,w,w',s,rfl,_⟩:=h;rfl
 ·obtain⟨a,t,rs,w,w',s,rfl,hR,ok,hw,ht,ha,q⟩:=h
  refine#[_,(zi (zB 3 mf.nd (zl ix_tup (zl ix_list (pv 0) (zl ix_tup (pv 2) ze)) ze))
   (zi (zB 4 mf.nd (zl ix_tup (zl ix_list (pv 0) (zl ix_tup (pv 2) ze)) ze))
   (zi (zM (ye (xg (zl ix_tup (pv 2) ze) (λ_=>rfl)))
    (zJ (zB 3 mf.nd (zl ix_tup (zl ix_list (pv 0) (zl ix_tup (pv 2) ze)) ze))
    (zg (zB 4 mf.nd (zl ix_tup (zl ix_list (pv 0) (zl ix_tup (pv 2) ze)) ze))))
    zw)
   (zg (zm (zx zQ (zx zQ (z7 xB (pv 1) yT (yb (zl ix_tup (pv 2) ze))) (pv 4)) (z7 xB (pv 1) (yb (zx yB (zl ix_tup (pv 2) ze) (zG B.len (pv 3)))) yT))))))),?_]
  have s16:=z6
  erw[Is]at hR
  obtain⟨_,xs,e,hX,hI⟩:=hR;cases e;have hb:0<=s.1/\s.1<rs.length:=bM λhb=>by rw[xj hb]at ha;cases ha
  obtain⟨p,a1,_,hp⟩:=zcE hI hb.1 hb.2;have gl:=Yv ok s.1.toNat;rw[yQ hb]at ha;generalize rs.getD s.1.toNat ([],[])=r at *;refine zj (λσ H'=>H'=H/\σ=[!!a,~~~w,!!t,tI (.str (tx r.1)),tJ]) ?_ ?_
  ·rfl'
   exact#[_,ht,_,rfl,_,rfl,_,hX,_,a1,_,rfl,_,hp,rfl]
  rintro σ H1 ⟨rfl,rfl⟩:_;right;refine zj (λσ H'=>H'=H1/\σ=[!!a,~~~w,!!t,tI (.str (tx r.1)),tI (.str (tx r.2))]) ?_ ?_
  ·rfl'
   exact#[_,ht,_,rfl,_,rfl,_,hX,_,a1,_,rfl,_,hp,rfl]
  rintro σ H2 ⟨rfl,rfl⟩:_;right;refine zj (λσ H'=>H'=H2/\σ=[!!a,~~~w,!!t,tI (.str (tx (sdl r s.2.2).1)),tI (.str (tx (sdl r s.2.2).2))]) ?_ ?_
  ·rfl'
   refine#[_,ht,_,rfl,_,rfl,yM (λh=>#[_,ht,_,rfl,_,rfl,_,hX,_,a1,_,rfl,_,hp,_,rfl,_,ht,_,rfl,_,rfl,_,hX,_,a1,_,rfl,_,hp,_,rfl,?_]) λh=>?_]
   ·rw[h];exact#[rfl,rfl]
   ·rw[Bool.not_eq_false]at h;rw[h];exact#[rfl,rfl]
  rintro σ H3 ⟨rfl,rfl⟩:_
  have hol:(sdl r s.2.2).1.length<=100:=by
   cases s.2.2
   ·exact gl.2
   ·exact gl.1
  have hnl:(sdl r s.2.2).2.length<=100:=by
   cases s.2.2
   ·exact gl.1
   ·exact gl.2
  right;generalize sdl r s.2.2=on at *;have hst:zt w s.2.1 on.1=tK:=bM λhst=>by rw[if_neg hst]at ha;cases ha
  rw[if_pos hst]at ha;obtain⟨_,_,h0,h1⟩:=zW hst;have c1:=wG w tJ (tI s.2.1);have c2:=wG w (tI (s.2.1 + ↑on.1.length)) tJ
  rfl'
  refine#[_,ht,_,rfl,_,rfl,⋯,⋯,_,ht,_,rfl,⋯,_,rfl,⋯,?_,?_]
  ·rw[ah];lia
  ·rw[zbg h0];cases ha;exact q
theorem ku{a p:pE}{xs:List V}{ys zs:List V}(hp:H p=tI (.lst ys))(h:SqT K H a xs):SqT K (upd H p (.lst zs)) a xs:=by
 rcases h with (h | ⟨o,h⟩) | h
 ·exact .inl (.inl (by rw[zo (λe=>by rw[e,hp]at h;cases h)];exact h))
 ·exact .inl (.inr #[o,by rw[zo (λe=>by rw[e,hp]at h;cases h)];exact h])
 ·exact .inr h
theorem Vp{w w':()}{s:Stp}(h:yn rs w s=tI w'):0<=s.1/\s.1<rs.length:=bM λhb=>by rw[xj hb]at h;cases h
def Vs(K:pD):Sp:=λvs H Q _=>∃(a t:pE) (rs:List zp) (w w':()) (ss:List Stp),vs=[.ref a,.str (tx w),.ref t]/\Is K H (.lst (rs.map dR)) (.ref a)/\jY rs/\w.length<=60/\Is K H (.lst (ss.map dSt)) (.ref t)/\ss.length<=2000/\ya rs w ss=tI w'/\Q (.str (tx w')) H
theorem za8{a t:pE}{w w':()}(h1:Is K H (.lst (rs.map dR)) (.ref a))(h2:jY rs)(h3:w.length<=60)(h4:Is K H (.lst (ss.map dSt)) (.ref t))(h5:ss.length<=2000)(h6:ya rs w ss=tI w')(q:Q (.str (tx w')) H):Vs K [.ref a,.str (tx w),.ref t] H Q E:=#[a,t,rs,w,w',ss,rfl,h1,h2,h3,h4,h5,h6,q]
theorem VC{w w':()}(h:ya rs w ss=tI w'){i:Nat}{s:Stp}(hs:ss[i]? = tI s){w1:()}(h1:ya rs w (ss.take i)=tI w1):∃w2,yn rs w1 s=tI w2/\ya rs w (ss.take (i+1))=tI w2:=by
 have e:ss=ss.take (i+1) ++ ss.drop (i+1):=(cy _ _).symm;rw[e,xz]at h;obtain⟨w2,h2,_⟩:=Ag.mp h;refine#[w2,?_,h2];rw[zO hs,xz,h1]at h2
 erw[ya,bY]at h2
 obtain⟨w3,h3,h4⟩:=Ag.mp h2;cases h4;exact h3
theorem nH:sQz 3 ["_law_pacts","_law_word_here","_law_steps_here","_law_step","_law_old"] zaN:=by nofun
theorem zcp(B:Bt mg)(F:("_law_end"^^^zaN))(ph:(1<<<"_law_used") ["_law_pacts","_law_word_here","_law_step"] [] (j7 K)):(2&&&["_law_pacts","_law_word_here","_law_steps_here"]) (Vs K):=by
 refine F.ok nH (λvs H Q E h=>?_) (λcdv A outer s H vs Q E hr h=>?_)
 ·obtain⟨a,t,rs,w,w',ss,rfl,_⟩:=h;rfl
 ·obtain⟨a,t,rs,w,w',ss,rfl,hR,ok,hw,hT,hsl,hwk,q⟩:=h
  refine#[_,(zi (yh PassesOwn.never rfl (yJ (pv 2)) (zy (i:=3) nH.nd rfl (.inl rfl))
    (zi (zM (PW.pt (uh (zA Uh (zl ix_tup (pv 3) ze) ze (zC _)) (uh (zA op_ge' (zl ix_tup (pv 3) ze) (zG B.len (pv 0)) (zC _)) (vS (zA Uh (zl ix_tup (pv 3) ze) ze (zC _))))))
     (zg (zm yy))
     zw)
    (zi (zB 4 nH.nd (zl ix_tup (zl ix_list (pv 0) (zl ix_tup (pv 3) ze)) (zx jI ze (xV VX rfl B.int PySem.Pv.boot_int (za (zl ix_tup (pv 3) ze) zf)))))
    (zi (zM (PW.pt (uh (zA Xc (zx yB (zl ix_tup (pv 3) ze) (zG B.len (pv 4))) (zG B.len (pv 1)) (zC _)) (vS (zA Yr (z7 xB (pv 1) (yb (zl ix_tup (pv 3) ze)) (yb (zx yB (zl ix_tup (pv 3) ze) (zG B.len (pv 4))))) (pv 4) (zC _)))))
     (zg (zm yy))
     zw)
    (zg (zB 1 nH.nd (cl0 ph hr .nil rfl (za (pv 0) (za (pv 1) (za (pv 3) zf))))))))))
   (zg (zm (pv 1)))),?_]
  have s16:=z6;have hR':=hR;have hT':=hT
  erw[Is]at hR' hT'
  obtain⟨_,xs,e,hX,hI⟩:=hR';cases e;obtain⟨_,ts,e,hTs,hJ⟩:=hT';cases e;have htl:=hJ.len;rw[af]at htl;refine zj (λσ H'=>H'=H/\∃v3 v4,σ=[!!a,~~~w',!!t,v3,v4]) ?_ ?_
  ·rfl'
   refine#[#[_,hTs],ForL.by (xs:=ts) (λi σ H'=>H'=H/\∃w1 v3 v4,ya rs w (ss.take i)=tI w1/\w1.length<=60+i * 100/\σ=[!!a,~~~w1,!!t,v3,v4]) #[rfl,w,_,_,rfl,⋯,rfl] (λi σ H' _ h=>by rw[h.1];exact hTs) ?_ ?_]
   ·refine nm4 ?_;rintro i x σ H' hx ⟨rfl,w1,v3,v4,hw1,hl1,rfl⟩:_;obtain⟨s,ps,hsi,rfl,hqs⟩:=vE hJ hx;have hil:=(tP.mp hsi).1;obtain⟨w2,haf,hw2⟩:=VC hwk hsi hw1;have hl2:=UZ ok haf;have hb:=Vp haf;obtain⟨p,a1,_,hp⟩:=zcE hI hb.1 hb.2;have gl:=Yv ok s.1.toNat;have ha:=haf;rw[yQ hb]at ha;right;generalize rs.getD s.1.toNat ([],[])=r at *;have hst:zt w1 s.2.1 (sdl r s.2.2).1=tK:=bM λhst=>by rw[if_neg hst]at ha;cases ha
    obtain⟨_,_,h0,h1⟩:=zW hst
    erw[yS,be,bc]
    refine zj (λσ H''=>H''=H'/\σ=[!!a,~~~w1,!!t,!!ps,v4]) ?_ ?_
    ·rfl'
     exact#[_,hqs,_,rfl,_,rfl,yM (λh=>absurd hb.1 ⋯) λ_=>#[_,hqs,_,rfl,_,.inl #[_,hX,rfl],_,rfl,yM (λh=>absurd hb.2 (by have:=hI.len;rw[af]at this;lia)) λ_=>#[_,hqs,_,rfl,_,rfl,yM (λh=>absurd h0 ⋯) λ_=>trivial]]]
    rintro σ G ⟨rfl,rfl⟩:_;right;refine zj (λσ H''=>H''=G/\σ=[!!a,~~~w1,!!t,!!ps,tI (.str (tx (sdl r s.2.2).1))]) ?_ ?_
    ·rfl'
     refine#[_,hqs,_,rfl,_,rfl,_,hX,_,a1,_,hqs,_,rfl,.inr #[_,rfl,_,rfl,_,hp,?_]];cases s.2.2 <;> rfl
    rintro σ G1 ⟨rfl,rfl⟩:_;right;refine zj (λσ H''=>H''=G1/\σ=[!!a,~~~w1,!!t,!!ps,tI (.str (tx (sdl r s.2.2).1))]) ?_ ?_
    ·rfl'
     have hol:(sdl r s.2.2).1.length<=100:=by
      cases s.2.2
      ·exact gl.2
      ·exact gl.1
     refine#[_,hqs,_,rfl,⋯,_,rfl,⋯,yM (λh=>absurd h1 ⋯) λ_=>#[_,hqs,_,rfl,_,rfl,_,hqs,_,rfl,⋯,_,rfl,⋯,yM (λh=>absurd ?_ h) λ_=>trivial]];have hst':=hst;unfold zt at hst';rw[decide_eq_true_eq]at hst';rw[Y3 _ h0 ⋯ ⋯];have e:(s.2.1+((sdl r s.2.2).1.length:Int) - s.2.1).toNat=(sdl r s.2.2).1.length:=⋯;rw[e];exact hst'.2.2
    rintro σ G2 ⟨rfl,rfl⟩:_;right
    rfl'
    refine VW hR ok ⋯ hqs haf #[rfl,w2,hw2,⋯,rfl]
   ·rintro σ H' ⟨rfl,w1,v3,v4,hw1,hl1,rfl⟩;rw[htl,aP,hwk]at hw1;cases hw1;exact#[rfl,_,_,rfl]
  rintro σ H2 ⟨rfl,v3,v4,rfl⟩:_;right
  rfl'
  exact q
theorem zew{X:Cx}{k j:Nat}{C:pE}{ps:List pL}{sp:Sp}{e:pO}{es:List pO}{t:TA}{pos p:rB}{x:pL}(hx:XE X E)(D:DMk X.prog X.w X.K X.mg X.base (CXx X.prog X.w) k C ps sp)(hr:Room j X.A)(hg:Gl X x)(hm:X.mg x=tI (.ref C))(ha:PA X (e::es) t)(hdb:(x ==("__debug__" : pL))=tL:=by decide)(he:pB (e::es) X.env=(tL,eval e X.env)::pB es X.env:=by rfl)
  (hpl:(pV pos (pB es X.env)).any (·.1)=tL:=by rfl) (hj:k+1<=j:=by decide):PE X (.Call (.Name x p) (e::es) [] pos) (UN C sp [] E t):=by
 obtain⟨f,fd,M,F,hb⟩:=D.ex;exact V3 M F (hr.mono hj) hg hm hb .nil (X8 hx) ha hdb he hpl
def Xn(K:pD)(CO CR CW:pE):Sp:=λvs H Q _=>∃(z:Int) (l:()) (D:pE) (ws:List Int),vs=[.int z,.str (tx l),.ref D]/\0<=z/\z<3/\YJ l=tK/\H D=tI (.lst (ws.map V.int))/\ws.length=l.length/\(∀n ∈ ws,1<=n/\n<=1000000)/\∀(o:pE) (H':Hp),Same H H'->OrdAt CO CR CW H' o z.toNat l ws->Q (.ref o) H'
theorem Jm:sQz 3 ["_law_kind","_law_letters_here","_law_weights"] Yt:=by nofun
theorem QL{f CO CR CW:pE}(B:Bt mg)(T:TWS P w K mg base CO CR CW)(F:("_law_order"^^^Yt)) :(6&&&["_law_kind","_law_letters_here","_law_weights"]) (Xn K CO CR CW):=by
 exists F.ok Jm
 ·obtain⟨z,l,D,ws,rfl,z0,z3,hg,hD,hwl,hwb,q⟩:=h
  refine#[_,(zJ (zM (zA wf (pv 0) ze (zC _))
    (zg (zm (mkC T.mR hr rfl T.gR (za (pv 1) zf))))
    zw)
   (zJ (zM (zA wf (pv 0) ze (zC _))
    (zg (zm (zew xe0 T.mW hr rfl T.gW (za (pv 1) (za (xV xC rfl B.list PySem.Pv.boot_list (za (pv 2) zf)) zf)))))
    zw)
   (zg (zm (mkC T.mO hr rfl T.gO (za (pv 1) zf)))))),?_]
  have s16:=z6;ac_rfl;refine yM (λh1=>?_) λh1=>yM (λh2=>?_) λh2=>?_
  ·intro x dx hx hdx hne;have sd:=zd (o:=.own x) hdx;refine#[x,CR,dx,l,rfl,hg,T.cR,T.lR,zc,rfl,q x _ (λb o' e=>?_) #[dx,.inr (.inl #[by rw[h1];rfl,zc])]];rw[zo (zF e hx),zo (zF e hx)];exact sd _ _ e
  ·refine#[_,.inl (SqL.of hD),λE1 hE=>?_];have se:=zd (o:=.lst (ws.map V.int)) hE;intro x dx hx hdx hne;have sd:=zd (o:=.own x) hdx
   have k1:∀b o',(upd H E1 (.lst (ws.map V.int))) b=tI o'->(upd (upd (upd H E1 (.lst (ws.map V.int))) dx (.own x)) x (.ins CW dx [])) b=tI o':=λb o' e=>by
    rw[zo (zF e hx)];exact sd _ _ e
   exact#[x,dx,E1,l,ws,rfl,hg,SqL.of (k1 _ _ zc),hwl,hwb,zc,λw H' hw hwx kp ht hx'=>#[rfl,q x _ (λb o' e=>kp b o' (zF (se _ _ e) hx) (k1 b o' (se _ _ e))) #[dx,.inr (.inr #[⋯,hwl,w,hx',ht])]]]
  ·intro x dx hx hdx hne;have sd:=zd (o:=.own x) hdx;refine#[x,CO,dx,l,rfl,hg,T.cO,T.lO,zc,rfl,q x _ (λb o' e=>?_) #[dx,.inl #[⋯,zc]]];rw[zo (zF e hx),zo (zF e hx)];exact sd _ _ e
theorem VR:∀ws:List (()),Str.join (tx []) (ws.map tx)=tx ws.flatten
 | []=>rfl
 | [w]=>by
  show tx w=_;simp
 | w::v::r=>by
  have ih:=VR (v::r);show tx w ++ tx [] ++ Str.join (tx []) ((v::r).map tx)=_;rw[ih,wQ,wQ];simp
theorem Jg{ws:List (())}(h:ws.flatten.length<=100000):JoinOk (tx []) (ws.map tx)=tK:=by
 have s16:=z6
 have hf:∀(l:List (())) (n:Nat),(l.map tx).foldl (λa y=>a+y.length+0) n=n+l.flatten.length:=λl=>by
  induction l with
  | nil=>intro n;rfl
  | cons c r ih =>
   intro n;rw[ar,List.foldl_cons,ih,zS,dw,ah];lia
 have e:JoinOk (tx []) (ws.map tx)=!PySem.Builtin.Str.tooLong ((ws.map tx).foldl (λa y=>a+y.length+0) 0):=by
  unfold JoinOk;rw[List.foldl_toArray];rfl
 rw[e,hf];unfold PySem.Builtin.Str.tooLong;rw[dz,decide_eq_false_iff_not];lia
abbrev ze5(mg:pL->Option pF):Prop:=mg "any" = tJ
structure TNT(K:pD)(mg:pL->Option pF)(C:pE):Prop where
 xi:XI K C
 g:mg "NotTurned" = tI (.ref C)
 na:NoAttr K C "number"
theorem uB:sQz 2 ["self","number"] zR:=by nofun
theorem uc{f C:pE}(T:TNT K mg C)(F:Fun K "__init__" "NotTurned.__init__" zR f fd):(1&&&["self","number"]) (vV C "number"):=by
 exists F.ok uB
 ·obtain⟨x,v,rfl,hx,q⟩:=h;refine#[_,(zg (Vv (pv 0) (pv 1) rfl)),?_]
  erw[zan]
  rfl'
  exact#[C,hx,T.xi.toXC,T.na,q]
structure DNT(P:pK)(w:pM)(K:pD)(mg:pL->Option pF)(base:pP)(C:pE):Prop extends TNT K mg C where
 ini:∃f fd,ag K (.ref C) "__init__" = tI (tI (.ref f))/\bj K (.ref f)=tK/\(1&&&["self","number"]) (vV C "number")/\Binds K fd ["self","number"] []
structure zbz(K:pD)(mg:pL->Option pF)(CH:pE):Prop where
 cl:Cls K CH
 g:mg "System" = tI (.ref CH)
 no:NoAttr K CH "order"
 nr:NoAttr K CH "rules"
noncomputable def wN(k:Nat)(l:())(ns:List Int):List zp->Nat->Option Nat
 | [],_=>tJ
 | r::rs,i=>if zI k l ns r.2 r.1=tK then wN k l ns rs (i+1)else tI i
theorem XS{l:()}:∀{ps:List zp} {j i:Nat} {r:zp},(∀(m:Nat) (p:zp),m<i->ps[m]? = tI p->zI k l ns p.2 p.1=tK)->ps[i]? = tI r->zI k l ns r.2 r.1=tL->wN k l ns ps j=tI (j+i)
 | [],_,_,_,_,h,_=>by simp at h
 | p::ps,j,0,r,_,h,hl=>by
  cases h;rw[wN,hl,if_neg aC];rfl
 | p::ps,j,i+1,r,hb,h,hl=>by
  rw[wN,if_pos (hb 0 p (Nat.succ_pos _) rfl),XS (i:=i) (λm q hm e=>hb (m+1) q ⋯ e) h hl];congr 1;lia
theorem ud{l:()}:∀{ps:List zp} {j:Nat},(∀(m:Nat) (p:zp),ps[m]? = tI p->zI k l ns p.2 p.1=tK)->wN k l ns ps j=tJ
 | [],_,_=>rfl
 | p::ps,j,hb=>by
  rw[wN,if_pos (hb 0 p rfl)];exact ud λm q e=>hb (m+1) q e
def InL(l:())(ps:List zp):Prop:=∀p ∈ ps,p.1.length<=1000/\p.2.length<=1000/\(∀c ∈ p.1,c ∈ l)/\∀c ∈ p.2,c ∈ l
def qj(K:pD)(CO CR CW CT CH:pE):Sp:=λvs H Q E=>∃(x dx o a:pE) (k:Nat) (l:()) (ns:List Int) (ps:List zp) (xs:List V),vs=[.ref x,.ref o,.ref a]/\H x=tI (.ins CH dx [])/\OrdAt CO CR CW H o k l ns/\OG l ns k/\H a=tI (.lst xs)/\Iss K H (ps.map dR) xs/\InL l ps /\
 (∀i,wN k l ns ps 0=tI i->∀H1,Same H H1->∀d H',zdV H1 d "number" (.int (i:Nat)) H'->E (.ref CT) (tI d) H') /\
 (wN k l ns ps 0=tJ->∀(q:pE) (H':Hp),(∀b o',b≠x->H b=tI o'->H' b=tI o')->H' x=tI (.ins CH dx [("order",.ref o),("rules",.ref q)])->H' q=tI (.lst xs)->H q=tJ->Q .non H')
theorem iX:sQz 3 ["self","order","rules","number","rule"] xZ:=by nofun
theorem jA{f CO CR CW CT CH:pE}(B:Bt mg)(T:DNT P w K mg base CT)(TS:zbz K mg CH)(DBk:DB P w K mg base CO CR CW)(F:Fun K "__init__" "System.__init__" xZ f fd) :(5|||["self","order","rules"]) (qj K CO CR CW CT CH):=by
 obtain⟨fi,fdi,hi,hfn,Fi,Bi⟩:=T.ini
 exists Fun.okX F iX,0
 ·obtain⟨x,dx,o,a,k,l,ns,ps,xs,rfl,hx0,ho,hG,hA,hI,hP,q1,q2⟩:=h
  refine#[_,(zi (yh PassesOwn.leaving rfl (vR rfl B.enum (za (pv 2) zf)) (uJ (n:=2) rfl (zZ (zy (i:=3) iX.nd rfl (.inl rfl)) (zZ (zy (i:=4) iX.nd rfl (.inl rfl)) wy)))
    (zg (zM (ye (xg (zbl DBk hr (pv 1) (za (zl ix_tup (pv 4) ze) (za (zl ix_tup (pv 4) ze) zf))) (λ_=>rfl)))
     (zg (Yg hx rfl T.xi.toXC hi hfn Fi (hr.mono ∅) Bi rfl T.g (za (pv 3) zf)))
     zw)))
   (zi (XO (pv 0) (pv 1) rfl)
   (zg (XO (pv 0) (xV xC rfl B.list PySem.Pv.boot_list (za (pv 2) zf)) rfl)))),?_]
  have s16:=z6;refine zj (λσ H'=>Same H H'/\wN k l ns ps 0=tJ/\∃v3 v4,σ=[!!x,!!o,!!a,v3,v4]) ?_ ?_
  ·ac_rfl;refine#[#[_,SqL.of hA],ForEL.by (xs:=xs) (λi σ H'=>Same H H'/\(∀(j:Nat) (p:zp),j<i->ps[j]? = tI p->zI k l ns p.2 p.1=tK)/\∃v3 v4,σ=[!!x,!!o,!!a,v3,v4]) #[Same.refl _,λj p h=>absurd h (cQ j),_,_,rfl] ?_ ?_ ?_]
   ·rintro i σ H' _ ⟨hs,_⟩;exact SqL.of (hs _ _ hA)
   ·rintro i y σ H' p hy ⟨hs,hb,v3,v4,rfl⟩ hpn;obtain⟨r,pr,hri,rfl,hqr⟩:=hI.getR hy;have hm:=hP r (ae hri);have s2:=hs.trans (zd (o:=.tup [.int (i:Nat),.ref pr]) hpn);have ho2:=ho.same s2;have hq2:=zq s2 hqr;obtain⟨C,dy,fs,hf,hoC,hn,_⟩:=ho2.fam;have hn1:fs.lookup ("before" : pL)=tJ:=hn _ ∅ ∅;ac_rfl;refine#[_,SqT.of zc,rfl,_,_,rfl,_,_,rfl,rfl,C,hf,dy,fs,hoC,hn1,_,rfl,_,hq2,_,rfl,_,rfl,_,hq2,_,rfl,o,k,l,ns,r.2,r.1,rfl,ho2,hG,hm.2.1,hm.1,hm.2.2.2,hm.2.2.1,λH3 s3=>?_];have s16:=z6;refine#[_,rfl,yM (λe=>#[⋯,UD (q1 i (by have:=XS (j:=0) hb hri e;simpa using this) H3 (s2.trans s3))]) λe=>#[s2.trans s3,λj p' hj hp'=>?_]];by_cases hj':j<i
    ·exact hb j p' hj' hp'
    ·have:j=i:=⋯;rw[this,hri]at hp';cases hp';simpa using e
   ·rintro σ H' ⟨hs,hb,v3,v4,rfl⟩;have hxl:=hI.len;rw[af]at hxl;exact#[hs,ud λm p e=>hb m p (by have:=(tP.mp e).1;lia) e,v3,v4,rfl]
  rintro σ H1 ⟨s1,hf,v3,v4,rfl⟩:_;right;refine zj (λσ H'=>H'=upd H1 x (.ins CH dx [("order",.ref o)])/\σ=[!!x,!!o,!!a,v3,v4]) ?_ ?_
  ·ac_rfl;exact#[_,_,_,s1 _ _ hx0,TS.cl,TS.no,∅,rfl]
  rintro σ H2 ⟨rfl,rfl⟩:_;right;ac_rfl;have hax:a≠x:=λe=>by rw[e,hx0]at hA;cases hA
  refine#[xs,.inl (SqL.of (by rw[zo hax];exact s1 _ _ hA)),λq hq=>?_];have hqx:q≠x:=λe=>by rw[e,zc]at hq;cases hq
  rw[zo hqx]at hq
  have hqH:H q=tJ:=by
   cases e:H q with
   | none=>rfl
   | some o'=>rw[s1 _ _ e]at hq;cases hq
  refine#[CH,dx,_,by rw[zo hqx.symm,zc],TS.cl,TS.nr,by show 1<1000;decide,q2 hf q _ (λb o' hb e=>?_) zc (by rw[zo hqx,zc]) hqH];rw[zo hb,zo (λz=>by rw[z,hqH]at e;cases e),zo hb];exact s1 _ _ e
def QW(K:pD)(CH:pE)(H:Hp)(y o q:pE)(ps:List zp):Prop:=∃dx xs,H y=tI (.ins CH dx [("order",.ref o),("rules",.ref q)])/\H q=tI (.lst xs)/\Iss K H (ps.map dR) xs
noncomputable def xy(l m:())(k:Nat):Bool:=decide ((l.drop k).take m.length=m.take (l.length - k))
noncomputable def lf(rs:List zp)(i:Nat):():=(rs.getD i ([],[])).1
theorem w8{i:Nat}{r:zp}(h:rs[i]? = tI r):lf rs i=r.1:=by unfold lf;rw[ac,h];rfl
noncomputable def Yh(rs:List zp)(i j n:Nat):List N3:=((aV n).filter λk=>(decide (i≠j) || decide (k≠0)) && xy (lf rs i) (lf rs j) k).map λk=>(i,j,k)
noncomputable def ovI(rs:List zp)(i m:Nat):List N3:=(aV m).flatMap λj=>Yh rs i j (lf rs i).length
noncomputable def ovA(rs:List zp)(m:Nat):List N3:=(aV m).flatMap λi=>ovI rs i rs.length
theorem qV(rs:List zp)(i j n:Nat):Yh rs i j (n+1)=Yh rs i j n ++ (if ((decide (i≠j) || decide (n≠0)) && xy (lf rs i) (lf rs j) n)=tK then [(i,j,n)]else []):=by
 unfold Yh;rw[cS,bx,au];congr 1
 erw[eR,di]
 split <;> rfl
theorem qf(rs:List zp)(i m:Nat):ovI rs i (m+1)=ovI rs i m ++ Yh rs i m (lf rs i).length:=by
 unfold ovI;rw[cS,cr];simp
theorem km(rs:List zp)(m:Nat):ovA rs (m+1)=ovA rs m ++ ovI rs m rs.length:=by
 unfold ovA;rw[cS,cr];simp
theorem qc(rs:List zp)(i j n:Nat):(Yh rs i j n).length<=n:=by
 unfold Yh;rw[af];have:=cX (λk=>(decide (i≠j) || decide (k≠0)) && xy (lf rs i) (lf rs j) k) (aV n);rw[dA]at this;exact this
theorem zcy(h:jY rs)(i:Nat):(lf rs i).length<=100:=by
 cases e:rs[i]? with
 | none=>unfold lf;rw[ac,e];exact aE _
 | some r=>rw[w8 e];exact (h.2 r (ae e)).1
theorem Yu(h:jY rs)(i m:Nat):(ovI rs i m).length<=m * 100:=by
 induction m with
 | zero=>exact aE _
 | succ m ih =>
  rw[qf,ah];have h1:=qc rs i m (lf rs i).length;have h2:=zcy h i;lia
theorem Qq(h:jY rs)(m:Nat):(ovA rs m).length<=m * 3000:=by
 induction m with
 | zero=>exact aE _
 | succ m ih =>
  rw[km,ah];have h1:=Yu h m rs.length;have h2:=h.1;lia
def kh:Sp:=λvs H Q _=>∃(l m:()) (k:Nat),vs=[.str (tx l),.str (tx m),.int (k:Nat)]/\l.length<=1000/\m.length<=1000/\k<=l.length/\Q (.bl (xy l m k)) H
theorem ZT{l m:()}(h1:l.length<=1000)(h2:m.length<=1000)(h3:k<=l.length)(h:Q (.bl (xy l m k)) H):kh [.str (tx l),.str (tx m),.int (k:Nat)] H Q E:=#[l,m,k,rfl,h1,h2,h3,h]
theorem QI:sQz 3 ["one","other","place"] YB:=by nofun
theorem QA(B:Bt mg)(F:("agree"^^^YB)) :(1&&&["one","other","place"]) kh:=by
 exists F.ok QI
 ·obtain⟨l,m,k,rfl,hl,hm,hk,q⟩:=h;refine#[_,(zg (zm (yK wf (z7 xB (pv 0) (yb (pv 2)) (yb (zx yB (pv 2) (zG B.len (pv 1))))) (z7 xB (pv 1) yT (yb (zx jI (zG B.len (pv 0)) (pv 2)))) (zC _)))),?_];have s16:=z6
  rfl'
  refine#[⋯,⋯,⋯,⋯,?_];rw[zbG _ ⋯ ⋯,jG _ ⋯];have e1:((k:Int)+(m.length:Int) - (k:Int)).toNat=m.length:=⋯;have e2:((l.length:Int) - (k:Int)).toNat=l.length - k:=⋯;rw[e1,e2];exact q
def vz(K:pD):Sp:=λvs H Q _=>∃(a:pE) (rs:List zp),vs=[.ref a]/\Is K H (.lst (rs.map dR)) (.ref a)/\jY rs/\∀D H',H D=tJ->Same H H'->LsA K H' D ((ovA rs rs.length).map d3)->Q (.ref D) H'
theorem Z3{a:pE}(h1:Is K H (.lst (rs.map dR)) (.ref a))(h2:jY rs)(h:∀D H',H D=tJ->Same H H'->LsA K H' D ((ovA rs rs.length).map d3)->Q (.ref D) H'):vz K [.ref a] H Q E:=#[a,rs,rfl,h1,h2,h]
theorem gE:sQz 1 ["rules","found","i","one","j","other","place"] uj:=by nofun
theorem Xb(B:Bt mg)(F:("overlaps"^^^uj))(oZ:(1<<<"agree") ["one","other","place"] [] kh):(2&&&["rules"]) (vz K):=by
 exists F.ok gE
 ·obtain⟨a,rs,rfl,hR,ok,q⟩:=h
  refine#[_,(zJ (zB 1 gE.nd (wl zf))
   (zJ (yh PassesOwn.never rfl (vR rfl B.enum (za (pv 0) zf)) (uJ (n:=2) rfl (zZ (zy (i:=2) gE.nd rfl (.inl rfl)) (zZ (zy (i:=3) gE.nd rfl (.inl rfl)) wy)))
    (zg (yh PassesOwn.never rfl (vR rfl B.enum (za (pv 0) zf)) (uJ (n:=2) rfl (zZ (zy (i:=4) gE.nd rfl (.inl rfl)) (zZ (zy (i:=5) gE.nd rfl (.inl rfl)) wy)))
     (zg (yh PassesOwn.never rfl (Uo rfl B.range (za (vD (zA wf (pv 2) (pv 4) (zC _)) ze ze) (za (zG B.len (zl ix_tup (pv 3) ze)) zf))) (zy (i:=6) gE.nd rfl (.inl rfl))
      (zg (zM (xg (cl0 oZ hr .nil rfl (za (zl ix_tup (pv 3) ze) (za (zl ix_tup (pv 5) ze) (za (pv 6) zf)))) (λ_=>rfl))
       (zg (xJ (va bv bQ bR xq (pv 1) (za (zY (za (pv 2) (za (pv 4) (za (pv 6) zf)))) zf))))
       zw)))))))
   (zg (zm (pv 1))))),?_]
  have s16:=z6
  rfl'
  erw[Is]at hR
  obtain⟨_,xs,e,hX,hI⟩:=hR;cases e;refine#[⋯,λD hD=>#[#[_,(zd hD).seq hX],ForEL.by (xs:=xs) (λi σ H'=>∃v2 v3 v4 v5 v6,σ=[!!a,!!D,v2,v3,v4,v5,v6]/\Same H H'/\LsA K H' D ((ovA rs i).map d3)) #[tJ,tJ,tJ,tJ,tJ,rfl,zd hD,LsA.nil] ?_ ?_ ?_]]
  ·rintro i σ H' hi ⟨v2,v3,v4,v5,v6,rfl,hs,_⟩;exact hs.seq hX
  ·rintro i x σ H' p hx ⟨v2,v3,v4,v5,v6,rfl,hs,hL⟩ hp;obtain⟨r,pr,hri,rfl,hqr⟩:=hI.getR hx;have er:=w8 hri;have hr1:=(ok.2 r (ae hri)).1
   rfl'
   refine#[_,SqT.of zc,rfl,_,_,rfl,_,_,rfl,rfl,#[_,((hs.trans (zd hp)).seq hX)],ForEL.by (xs:=xs) (λj σ H''=>∃v4 v5 v6,σ=[!!a,!!D,-~~~i,!!pr,v4,v5,v6]/\Same H H''/\LsA K H'' D ((ovA rs i ++ ovI rs i j).map d3)) #[v4,v5,v6,rfl,hs.trans (zd hp),by rw[show ovI rs i 0=[]from rfl,aG];exact hL.same (zd hp)] ?_ ?_ ?_]
   ·rintro j σ H2 hj ⟨v4,v5,v6,rfl,hs2,_⟩;exact hs2.seq hX
   ·rintro j y σ H2 p2 hy ⟨v4,v5,v6,rfl,hs2,hL2⟩ hp2;obtain⟨r2,pr2,hri2,rfl,hqr2⟩:=hI.getR hy;have er2:=w8 hri2;have hr2:=(ok.2 r2 (ae hri2)).1;have hs3:=hs2.trans (zd (o:=.tup [.int (j:Nat),.ref pr2]) hp2);have hq1:=zq hs3 hqr;have el:(tx r.1).length=r.1.length:=zS _
    rfl'
    refine#[_,SqT.of zc,rfl,_,_,rfl,_,_,rfl,rfl,rfl,yM (λh=>?_) λh=>?_]
    ·have hij:i=j:=by injection h with h;lia
     have z0:Yh rs i j (1+0)=[]:=by
      subst hij;rw[show 1+0=0+1 from rfl,qV];simp [Yh]
     have zn:Yh rs i j (1+((r.1.length:Int) - 1).toNat)=Yh rs i j r.1.length:=by
      by_cases h0:r.1.length=0
      ·rw[h0];exact z0
      ·rw[show 1+((r.1.length:Int) - 1).toNat=r.1.length by lia]
     refine#[_,hq1,_,rfl,_,#[⋯,rfl],∅,∅,⋯,⋯,ForR.by (λt σ H3=>∃v6,σ=[!!a,!!D,-~~~i,!!pr,-~~~j,!!pr2,v6]/\Same H H3/\LsA K H3 D ((ovA rs i ++ ovI rs i j ++ Yh rs i j (1+t)).map d3)) #[v6,rfl,hs3,(by rw[z0,aG];exact hL2.same (zd hp2))] ?_ ?_]
     ·refine nm3 ?_;rintro n σ H3 hn ⟨v6,rfl,hs4,hL4⟩:_;have hn':1+n<r.1.length:=⋯;have en:((1:Int)+(n:Int))=((1+n:Nat):Int):=⋯;right;dsimp only;rw[en];obtain⟨ys,hY,hJ⟩:=hL4;have hlen:=hJ.len;have l1:=Qq ok i;have l2:=Yu ok i j;have l3:=qc rs i j (1+n);have i1:=(tP.mp hri).1;have i2:=(tP.mp hri2).1;have i3:=ok.1
      erw[af,ah]at hlen
      have es:=qV rs i j (1+n);have etest:(decide (i≠j) || decide (1+n≠0))=tK:=by rw[show decide (1+n≠0)=tK from decide_eq_true ⋯,dL]
      rw[etest,Bool.true_and,er,er2]at es
      rfl'
      refine#[_,zq hs4 hqr,_,rfl,_,zq hs4 hqr2,_,rfl,ZT ⋯ ⋯ ⋯ #[_,rfl,yM (λhb=>#[.inl #[_,SqL.of hY],⋯,λt ht=>#[_,zd ht _ _ hY,⋯,zD (hs4.trans (zd ht)) hD,?_]]) λhb=>#[hs4,ys,hY,?_]]]
      ·rw[hb,if_pos rfl]at es;rw[show 1+(n+1)=1+n+1 by lia,es,<- aK,au];exact LsA.pushT hY hJ ht zcP (Xl _) (by erw[zV,xw,and_self])
      ·have hb':xy r.1 r2.1 (1+n)=tL:=by simpa using hb
       rw[hb',if_neg aC,aG]at es;rw[show 1+(n+1)=1+n+1 by lia,es];exact hJ
     ·rintro σ H3 ⟨v6,rfl,hs4,hL4⟩;refine#[#[_,_,_,rfl],hs4,?_];rw[qf,er,<- aK];rw[el,zn]at hL4;exact hL4
    ·have hij:i≠j:=λz=>h (by rw[z]);refine#[_,hq1,_,rfl,_,#[⋯,rfl],∅,∅,⋯,⋯,ForR.by (λt σ H3=>∃v6,σ=[!!a,!!D,-~~~i,!!pr,-~~~j,!!pr2,v6]/\Same H H3/\LsA K H3 D ((ovA rs i ++ ovI rs i j ++ Yh rs i j (0+t)).map d3)) #[v6,rfl,hs3,(by rw[show Yh rs i j (0+0)=[]from rfl,aG];exact hL2.same (zd hp2))] ?_ ?_]
     ·refine nm3 ?_;rintro n σ H3 hn ⟨v6,rfl,hs4,hL4⟩:_;have hn':0+n<r.1.length:=⋯;have en:((0:Int)+(n:Int))=((0+n:Nat):Int):=⋯;right;dsimp only;rw[en];obtain⟨ys,hY,hJ⟩:=hL4;have hlen:=hJ.len;have l1:=Qq ok i;have l2:=Yu ok i j;have l3:=qc rs i j (0+n);have i1:=(tP.mp hri).1;have i2:=(tP.mp hri2).1;have i3:=ok.1
      erw[af,ah]at hlen
      have es:=qV rs i j (0+n);have etest:(decide (i≠j) || decide (0+n≠0))=tK:=by rw[show decide (i≠j)=tK from decide_eq_true hij,Bool.true_or]
      rw[etest,Bool.true_and,er,er2]at es
      rfl'
      refine#[_,zq hs4 hqr,_,rfl,_,zq hs4 hqr2,_,rfl,ZT ⋯ ⋯ ⋯ #[_,rfl,yM (λhb=>#[.inl #[_,SqL.of hY],⋯,λt ht=>#[_,zd ht _ _ hY,⋯,zD (hs4.trans (zd ht)) hD,?_]]) λhb=>#[hs4,ys,hY,?_]]]
      ·rw[hb,if_pos rfl]at es;rw[show 0+(n+1)=0+n+1 by lia,es,<- aK,au];exact LsA.pushT hY hJ ht zcP (Xl _) (by erw[zV,xw,and_self])
      ·have hb':xy r.1 r2.1 (0+n)=tL:=by simpa using hb
       rw[hb',if_neg aC,aG]at es;rw[show 0+(n+1)=0+n+1 by lia,es];exact hJ
     ·rintro σ H3 ⟨v6,rfl,hs4,hL4⟩;refine#[#[_,_,_,rfl],hs4,?_];rw[qf,er,<- aK];rw[el,show 0+((r.1.length:Int) - 0).toNat=r.1.length by lia]at hL4;exact hL4
   ·rintro σ H2 ⟨v4,v5,v6,rfl,hs2,hL2⟩;have e:=hI.len;rw[af]at e;rw[e,<- km]at hL2;exact#[#[_,_,_,_,_,rfl],hs2,hL2]
  ·rintro σ H' ⟨v2,v3,v4,v5,v6,rfl,hs,hL⟩;have e:=hI.len;rw[af]at e;rw[e]at hL
   rfl'
   exact q D H' hD hs hL
noncomputable def yd(l m:())(k:Nat):():=l ++ m.drop (l.length - k)
theorem wD(l m:())(k:Nat)(hk:k<=l.length):(yd l m k).length=max l.length (k+m.length):=by
 unfold yd;rw[ah,aW];lia
theorem uk(l m:())(k:Nat):zt (yd l m k) 0 l=tK:=by
  unfold zt yd;refine decide_eq_true #[∅,by rw[ah];lia,?_];rw[show (0:Int).toNat=0 from rfl,dZ,bw (ak _),aP]
theorem vC{l m:()}(hk:k<=l.length)(h:xy l m k=tK):zt (yd l m k) (k:Nat) m=tK:=by
 unfold xy at h;rw[decide_eq_true_eq]at h;have hl:=wD l m k hk;unfold zt;refine decide_eq_true #[⋯,⋯,?_];rw[show ((k:Nat):Int).toNat=k from rfl];unfold yd;rw[cq hk];by_cases hm:m.length<=l.length - k
 ·rw[bw (by rw[aW];lia),h,bh hm]
 ·rw[bh (by rw[aW];lia)]at h;rw[h,cy,aP]
theorem QY{i j n:Nat}{t:N3}(h:t ∈ Yh rs i j n):t.1=i/\t.2.1=j/\t.2.2<n/\xy (lf rs i) (lf rs j) t.2.2=tK:=by
 unfold Yh at h;obtain⟨k,hk,rfl⟩:=tQ.mp h;rw[List.mem_filter,fo,cG]at hk;exact#[rfl,rfl,hk.1,hk.2.2]
theorem uf{t:N3}(h:t ∈ ovA rs rs.length):t.1<rs.length/\t.2.1<rs.length/\t.2.2<(lf rs t.1).length/\xy (lf rs t.1) (lf rs t.2.1) t.2.2=tK:=by
 unfold ovA ovI at h;obtain⟨i,hi,h⟩:=Ai.mp h;obtain⟨j,hj,h⟩:=Ai.mp h;obtain⟨e1,e2,e3,e4⟩:=QY h;rw[e1,e2];exact#[tV.mp hi,tV.mp hj,e3,e4]
def j5(K:pD):Sp:=λvs H Q _=>∃(a t:pE) (rs:List zp) (i j k:Nat) (r r2:zp),vs=[.ref a,.ref t]/\Is K H (.lst (rs.map dR)) (.ref a)/\SqT K H t [.int (i:Nat),.int (j:Nat),.int (k:Nat)]/\jY rs/\rs[i]? = tI r/\rs[j]? = tI r2/\k<=r.1.length/\xy r.1 r2.1 k=tK /\
 ∀p H',H p=tJ->Same H H'->H' p=tI (.tup [.str (tx (yd r.1 r2.1 k)),.str (tx (yH (yd r.1 r2.1 k) 0 r.1 r.2)),.str (tx (yH (yd r.1 r2.1 k) (k:Nat) r2.1 r2.2))])->Q (.ref p) H'
theorem Xi{a t:pE}{i j k:Nat}{r r2:zp}(h1:Is K H (.lst (rs.map dR)) (.ref a))(h2:SqT K H t [.int (i:Nat),.int (j:Nat),.int (k:Nat)])(h3:jY rs)(h4:rs[i]? = tI r)(h5:rs[j]? = tI r2)(h6:k<=r.1.length)(h7:xy r.1 r2.1 k=tK)
 (h:∀p H',H p=tJ->Same H H'->H' p=tI (.tup [.str (tx (yd r.1 r2.1 k)),.str (tx (yH (yd r.1 r2.1 k) 0 r.1 r.2)),.str (tx (yH (yd r.1 r2.1 k) (k:Nat) r2.1 r2.2))])->Q (.ref p) H'):j5 K [.ref a,.ref t] H Q E:=#[a,t,rs,i,j,k,r,r2,rfl,h1,h2,h3,h4,h5,h6,h7,h]
theorem UR{CU:pE}{l o n:()}{k:Int}(h1:l.length<=10000)(h2:o.length<=10000)(h3:n.length<=10000)(hs:zt l k o=tK)(q:Q (.str (tx (yH l k o n))) H):Wt CU [.str (tx l),.int k,.str (tx o),.str (tx n)] H Q E:=#[l,o,n,k,rfl,h1,h2,h3,λ_=>q,λh=>by rw[hs]at h;cases h]
theorem mh:sQz 2 ["rules","overlap","one","other","place","word"] VI:=by nofun
theorem K4{f CU:pE}(B:Bt mg)(F:("peak"^^^VI))(oh:(3>>>"put") ["word","place","old","new"] [] (Wt CU)):(4&&&["rules","overlap"]) (j5 K):=by
 exists F.ok mh
 ·obtain⟨a,t,rs,i,j,k,r,r2,rfl,hR,ht,ok,hr1,hr2,hk,hag,q⟩:=h
  refine#[_,(zi (zB 2 mh.nd (zl ix_list (pv 0) (zl ix_tup (pv 1) ze)))
   (zi (zB 3 mh.nd (zl ix_list (pv 0) (zl ix_tup (pv 1) ze)))
   (zi (zB 4 mh.nd (zl ix_tup (pv 1) ze))
   (zi (zB 5 mh.nd (zx zQ (zl ix_tup (pv 2) ze) (z7 zcG (zl ix_tup (pv 3) ze) (yb (zx jI (zG B.len (zl ix_tup (pv 2) ze)) (pv 4))) yT)))
   (zg (zm (zY (za (pv 5) (za (clP xe0 oh hr .nil rfl (za (pv 5) (za ze (za (zl ix_tup (pv 2) ze) (za (zl ix_tup (pv 2) ze) zf))))) (za (clP xe0 oh hr .nil rfl (za (pv 5) (za (pv 4) (za (zl ix_tup (pv 3) ze) (za (zl ix_tup (pv 3) ze) zf))))) zf)))))))))),?_]
  have s16:=z6
  erw[Is]at hR
  obtain⟨_,xs,e,hX,hI⟩:=hR;cases e;obtain⟨p1,a1,q1⟩:=zdt hI hr1;obtain⟨p2,a2,q2⟩:=zdt hI hr2;have b1:=ok.2 r (ae hr1);have b2:=ok.2 r2 (ae hr2);refine zj (λσ H'=>H'=H/\σ=[!!a,!!t,!!p1,tJ,tJ,tJ]) ?_ ?_
  ·rfl'
   exact#[_,ht,_,rfl,_,rfl,_,hX,a1]
  rintro σ H1 ⟨rfl,rfl⟩:_;right;refine zj (λσ H'=>H'=H1/\σ=[!!a,!!t,!!p1,!!p2,tJ,tJ]) ?_ ?_
  ·rfl'
   exact#[_,ht,_,rfl,_,rfl,_,hX,a2]
  rintro σ H2 ⟨rfl,rfl⟩:_;right;refine zj (λσ H'=>H'=H2/\σ=[!!a,!!t,!!p1,!!p2,-~~~k,tJ]) ?_ ?_
  ·rfl'
   exact#[_,ht,rfl]
  rintro σ H3 ⟨rfl,rfl⟩:_;right;refine zj (λσ H'=>H'=H3/\σ=[!!a,!!t,!!p1,!!p2,-~~~k,tI (.str (tx (yd r.1 r2.1 k)))]) ?_ ?_
  ·rfl'
   refine#[_,q1,_,rfl,_,q2,_,rfl,_,q1,_,rfl,_,#[by rw[zS];lia,rfl],#[by rw[zS];lia,_,rfl,_,rfl,?_,rfl,?_]]
   ·erw[zS,YH]
    have:=wG r2.1 (tI ((r.1.length:Int) - (k:Int))) tJ;lia
   ·rw[zS,YH,wQ,wS _ ⋯,show ((r.1.length:Int) - (k:Int)).toNat=r.1.length - k by lia];rfl
  rintro σ H4 ⟨rfl,rfl⟩:_;have hw:=wD r.1 r2.1 k hk;right
  rfl'
  exact#[_,q1,_,rfl,_,q1,_,rfl,UR ⋯ ⋯ ⋯ (uk _ _ _) #[_,q2,_,rfl,_,q2,_,rfl,UR ⋯ ⋯ ⋯ (vC hk hag) #[⋯,λp hp=>q p _ hp (zd hp) zc]]]
def FmOk(ps:List zp)(most:Int)(m:pL->Option V):Prop:=∀k v,m k=tI v->∃(w:()) (J:Nat),k=tx w/\v=.str (tx (wAt ps w J))/\Y7 ps w J/\zE (wAt ps w J) ps=tJ/\(J:Int)<=most
theorem FmOk.get{most:Int}{m:pL->Option V}(h:FmOk ps most m){w:()}{v:V}(e:m (tx w)=tI v){J:Nat}(hl:Y7 ps w J)(hf:zE (wAt ps w J) ps=tJ):v=.str (tx (wAt ps w J)):=by
 obtain⟨w',J',e1,e2,e3,e4,_⟩:=h _ _ e;have e5:=uL e1;subst e5;rw[e2,j6 e3 e4 hl hf]
theorem FmOk.put{most:Int}{m:pL->Option V}(h:FmOk ps most m){w:()}{J:Nat}(hl:Y7 ps w J)(hf:zE (wAt ps w J) ps=tJ)(hJ:(J:Int)<=most):FmOk ps most (λx=>if x=tx w then tI (.str (tx (wAt ps w J)))else m x):=λk v e=>by
 by_cases hk:k=tx w
 ·erw[hk,if_true]at e
  cases e;exact#[w,J,hk,rfl,hl,hf,hJ]
 ·erw[hk,if_false]at e
  exact h k v e
def Y8(P:pK)(w:pM)(K:pD)(CF:pE):Sp:=λvs H Q E=>∃(a F:pE) (l:()) (ps:List zp) (m:Int) (J n:Nat) (mp:pL->Option V),vs=[.ref a,.str (tx l),.int m,.ref F]/\LsA K H a (ps.map dR)/\NeL ps/\ps.length<=100/\(∀p ∈ ps,p.1.length<=1000/\p.2.length<=1000)/\Rd ps l J/\H F=tI (jo P w F mp n)/\FmOk ps m mp/\n<=10000 /\
 ((zE (wAt ps l J) ps=tJ/\(J:Int)<=m/\∀(mp':pL->Option V) (n':Nat) (H':Hp),SamT F H H'->H' F=tI (jo P w F mp' n')->FmOk ps m mp'->n'<=n+1->Q (.str (tx (wAt ps l J))) H') \/
  (zE (wAt ps l J) ps≠tJ/\(J:Int)=m/\∀H',Same H H'->E (.ref CF) tJ H'))
theorem WQ:sQz 4 ["rules","word","most","forms"] jj:=by nofun
theorem WM{f CF:pE}{iL:rZ}(B:Bt mg)(F:("form_of"^^^jj))(me:(4>>>"gone") ["rules","word","most"] [] (xL K CF))(DD_gone:(4>>>"gone") ["rules","word","most"] [.int 4000 iL] (xL K CF)):(5|||["rules","word","most","forms"]) (Y8 P w K CF):=by
 exists Fun.okX F WQ,0
 ·obtain⟨a,F0,l,ps,m,J,n,mp,rfl,hA,hN,hpl,hP,hR,hF,hM,hn,hq⟩:=h
  refine#[_,(zi (zM (zA Q8 (pv 1) (pv 3) (by with_unfolding_all rfl))
    (zg (zbP (zl ix_tup (clP hx me hr .nil rfl (za (pv 0) (za (pv 1) (za (pv 2) zf)))) ze) (zcw (pv 3) (pv 1) Q7 (by intro _;rfl))))
    zw)
   (zg (zm (zl zaA (pv 3) (pv 1))))),?_]
  have s16:=z6;have s16:=z6;refine zj (λσ H'=>SamT F0 H H'/\zE (wAt ps l J) ps=tJ/\(J:Int)<=m/\(∃(mp':pL->Option V) (n':Nat),H' F0=tI (jo P w F0 mp' n')/\FmOk ps m mp'/\n'<=n+1/\mp' (tx l)=tI (.str (tx (wAt ps l J))))/\σ=[!!a,~~~l,~~~!m,!!F0]) ?_ ?_
  ·rfl'
   refine#[F0,mp,n,tx l,rfl,rfl,hF,_,rfl,yM (λhnone=>#[a,l,ps,m,J,rfl,hA,hN,hpl,hP,hR,?_]) λhsome=>?_]
   ·rcases hq with ⟨hf,hJ,_⟩ | h
    ·refine .inl #[hf,hJ,λp S H' s' hp _ _=>#[p,rfl,_,SqT.of hp,_,rfl,?_]]
     erw[zeI]
     rfl'
     exact#[F0,mp,n,tx l,rfl,rfl,s' _ _ hF,⋯,λb o hb e=>by rw[zo hb];exact s' _ _ e,hf,hJ,_,_,zc,hM.put hR.live hf hJ,ak _,if_pos rfl]
    ·exact .inr h
   ·cases hv:mp (tx l)with
    | none=>rw[hv]at hsome;exact absurd rfl hsome
    | some v =>
     obtain⟨w',J',e1,e2,e3,e4,e5⟩:=hM _ _ hv;have e6:=uL e1;subst e6;rcases hq with ⟨hf,hJ,_⟩ | ⟨hf,hJ,_⟩
     ·exact#[λb o _ e=>e,hf,hJ,mp,n,hF,hM,⋯,by rw[hM.get hv hR.live hf]at hv;exact hv]
     ·exfalso;rcases eI J' J with h | h
      ·exact hR.live J' h e4
      ·have:J'=J:=⋯;subst this;exact hf e4
  rintro σ H1 ⟨s1,hf,hJ,⟨mp',n',h1,h2,h3,h4⟩,rfl⟩:_;right
  rfl'
  refine#[F0,mp',n',tx l,_,rfl,rfl,h1,h4,?_];rcases hq with ⟨_,_,q⟩ | ⟨h,_⟩
  ·exact q mp' n' H1 s1 h1 h2 h3
  ·exact absurd hf h
noncomputable def pkA(ps:List zp)(t:N3):():=yH (yd (lf ps t.1) (lf ps t.2.1) t.2.2) 0 (lf ps t.1) (ps.getD t.1 ([],[])).2
noncomputable def pkB(ps:List zp)(t:N3):():=yH (yd (lf ps t.1) (lf ps t.2.1) t.2.2) (t.2.2:Nat) (lf ps t.2.1) (ps.getD t.2.1 ([],[])).2
inductive zbr(ps:List zp)(m:Int)(l:()):Option Nat->Prop where
 | yes {J:Nat} (h:Rd ps l J) (h1:zE (wAt ps l J) ps=tJ) (h2:(J:Int)<=m):zbr ps m l (tI J)
 | no {J:Nat} (h:Rd ps l J) (h1:zE (wAt ps l J) ps≠tJ) (h2:(J:Int)=m):zbr ps m l tJ
def j1(P:pK)(w:pM)(K:pD)(CF:pE):Sp:=λvs H Q E=>∃(a t F:pE) (ps:List zp) (tr:N3) (m:Int) (n:Nat) (mp:pL->Option V) (g1 g2:Option Nat),vs=[.ref a,.ref t,.int m,.ref F]/\LsA K H a (ps.map dR)/\NeL ps/\jY ps/\SqT K H t [.int (tr.1:Nat),.int (tr.2.1:Nat),.int (tr.2.2:Nat)]/\tr ∈ ovA ps ps.length/\H F=tI (jo P w F mp n)/\FmOk ps m mp/\n<=9000/\zbr ps m (pkA ps tr) g1/\zbr ps m (pkB ps tr) g2 /\
 (∀(J1 J2:Nat) (mp':pL->Option V) (n':Nat) (H':Hp),g1=tI J1->g2=tI J2->SamT F H H'->H' F=tI (jo P w F mp' n')->FmOk ps m mp'->n'<=n+2->Q (.bl (decide (wAt ps (pkA ps tr) J1=wAt ps (pkB ps tr) J2))) H') /\
 ((g1=tJ\/g2=tJ)->∀H',SamT F H H'->E (.ref CF) tJ H')
theorem XD{P:pK}{w:pM}{CF a F:pE}{l:()}{m:Int}{n:Nat}{mp:pL->Option V}{g:Option Nat}(hA:LsA K H a (ps.map dR))(hN:NeL ps)(hok:jY ps)(hF:H F=tI (jo P w F mp n))(hM:FmOk ps m mp)(hn:n<=10000)(hg:zbr ps m l g)
  (h1:∀(J:Nat) (mp':pL->Option V) (n':Nat) (H':Hp),g=tI J->SamT F H H'->H' F=tI (jo P w F mp' n')->FmOk ps m mp'->n'<=n+1->Q (.str (tx (wAt ps l J))) H') (h2:g=tJ->∀H',Same H H'->E (.ref CF) tJ H'):Y8 P w K CF [.ref a,.str (tx l),.int m,.ref F] H Q E:=by
 have hP:∀p ∈ ps,p.1.length<=1000/\p.2.length<=1000:=λp hp=>by have:=hok.2 p hp;lia
 have hl:ps.length<=100:=by have:=hok.1;lia
 cases hg with
 | yes h e1 e2=>exact#[a,F,l,ps,m,_,n,mp,rfl,hA,hN,hl,hP,h,hF,hM,hn,.inl #[e1,e2,λmp' n' H' a1 a2 a3 a4=>h1 _ mp' n' H' rfl a1 a2 a3 a4]]
 | no h e1 e2=>exact#[a,F,l,ps,m,_,n,mp,rfl,hA,hN,hl,hP,h,hF,hM,hn,.inr #[e1,e2,h2 rfl]]
theorem je{F t:pE}{H H':Hp}{P:pK}{w:pM}{mp:pL->Option V}{n:Nat}{xs:List V}(s:SamT F H H')(hF:H F=tI (jo P w F mp n))(h:SqT K H t xs):SqT K H' t xs:=by
 rcases h with (h | ⟨o,h⟩) | h
 ·exact .inl (.inl (s _ _ (λz=>by rw[z,hF]at h;cases h) h))
 ·exact .inl (.inr #[o,s _ _ (λz=>by rw[z,hF]at h;cases h) h])
 ·exact .inr h
theorem Xv{F a:pE}{H H':Hp}{P:pK}{w:pM}{mp:pL->Option V}{n:Nat}(s:SamT F H H')(hF:H F=tI (jo P w F mp n))(h:LsA K H a (ps.map dR)):LsA K H' a (ps.map dR):=by
 obtain⟨xs,h1,h2⟩:=h;refine#[xs,s _ _ (λz=>by rw[z,hF]at h1;cases h1) h1,?_]
 have key:∀(qs:List zp) (vs:List V),Iss K H (qs.map dR) vs->Iss K H' (qs.map dR) vs:=by
  intro qs
  induction qs with
  | nil=>intro vs h;erw[aL,Iss]at h ⊢;exact h
  | cons q qs ih =>
   intro vs h
   erw[ar,Iss]at h ⊢
   obtain⟨v,r,e,h3,h4⟩:=h;obtain⟨p,rfl,h5⟩:=zbx h3;exact#[_,r,e,Us (je s hF h5),ih r h4]
 exact key ps xs h2
theorem lX:sQz 4 ["rules","overlap","most","forms","sides","one","other"] kq:=by nofun
theorem UT{f CF:pE}(B:Bt mg)(F:("is_met"^^^kq))(oq:(4<<<"peak") ["rules","overlap"] [] (j5 K))(nV:(5>>>"form_of") ["rules","word","most","forms"] [] (Y8 P w K CF)):(6|||["rules","overlap","most","forms"]) (j1 P w K CF):=by
 exists Fun.okX F lX,0
 ·obtain⟨a,t,F0,ps,tr,m,n,mp,g1,g2,rfl,hA,hN,hok,ht,htr,hF,hM,hn,hg1,hg2,q1,q2⟩:=h
  refine#[_,(zi (zB 4 lX.nd (cl0 oq hr .nil rfl (za (pv 0) (za (pv 1) zf))))
   (zi (zB 5 lX.nd (clP hx nV hr .nil rfl (za (pv 0) (za (zl ix_tup (pv 4) ze) (za (pv 2) (za (pv 3) zf))))))
   (zi (zB 6 lX.nd (clP hx nV hr .nil rfl (za (pv 0) (za (zl ix_tup (pv 4) ze) (za (pv 2) (za (pv 3) zf))))))
   (zg (zm (yK wf (pv 5) (pv 6) (zC _))))))),?_]
  have s16:=z6;have s16:=z6;obtain⟨i1,i2,i3,i4⟩:=uf htr;obtain⟨r,hr⟩:∃r,ps[tr.1]? = tI r:=#[_,aj i1];obtain⟨r2,hr2⟩:∃r,ps[tr.2.1]? = tI r:=#[_,aj i2];have l1:=w8 hr;have l2:=w8 hr2;have d1:ps.getD tr.1 ([],[])=r:=by rw[ac,hr];rfl
  have d2:ps.getD tr.2.1 ([],[])=r2:=by rw[ac,hr2];rfl
  have eA:pkA ps tr=yH (yd r.1 r2.1 tr.2.2) 0 r.1 r.2:=by unfold pkA;rw[l1,l2,d1]
  have eB:pkB ps tr=yH (yd r.1 r2.1 tr.2.2) (tr.2.2:Nat) r2.1 r2.2:=by unfold pkB;rw[l1,l2,d2]
  rw[l1]at i3;rw[l1,l2]at i4;refine zj (λσ H'=>Same H H'/\∃p:pE,(∃x,H' p=tI (.tup [x,.str (tx (pkA ps tr)),.str (tx (pkB ps tr))]))/\σ=[!!a,!!t,~~~!m,!!F0,!!p,tJ,tJ]) ?_ ?_
  ·rfl'
   exact Xi hA.is ht hok hr hr2 ⋯ i4 λp H' _ s' hp=>#[s',p,#[_,by rw[eA,eB];exact hp],rfl]
  rintro σ H1 ⟨s1,p,⟨x,hp⟩,rfl⟩:_;have hF1:=s1 _ _ hF;right;refine zj (λσ H'=>SamT F0 H1 H'/\∃(J1:Nat),g1=tI J1/\(∃mp' n',H' F0=tI (jo P w F0 mp' n')/\FmOk ps m mp'/\n'<=n+1)/\σ=[!!a,!!t,~~~!m,!!F0,!!p,tI (.str (tx (wAt ps (pkA ps tr) J1))),tJ]) ?_ ?_
  ·rfl'
   refine#[_,SqT.of hp,_,rfl,XD (hA.same s1) hN hok hF1 hM ⋯ hg1 (λJ mp' n' H' e a1 a2 a3 a4=>?_) λe H' s'=>q2 (.inl e) H' (SamT.of (s1.trans s'))];exact#[a1,J,e,#[mp',n',a2,a3,a4],rfl]
  rintro σ H2 ⟨s2,J1,e1,⟨mp1,n1,hF2,hM2,hn2⟩,rfl⟩:_;have s12:SamT F0 H H2:=(SamT.of s1).trans s2;have hpF:p≠F0:=λz=>by rw[z,hF1]at hp;cases hp
  right;refine zj (λσ H'=>SamT F0 H2 H'/\∃(J2:Nat),g2=tI J2/\(∃mp' n',H' F0=tI (jo P w F0 mp' n')/\FmOk ps m mp'/\n'<=n+2)/\σ=[!!a,!!t,~~~!m,!!F0,!!p,tI (.str (tx (wAt ps (pkA ps tr) J1))),tI (.str (tx (wAt ps (pkB ps tr) J2)))]) ?_ ?_
  ·rfl'
   exact#[_,SqT.of (s2 _ _ hpF hp),_,rfl,XD (Xv s2 hF1 (hA.same s1)) hN hok hF2 hM2 ⋯ hg2 (λJ mp' n' H' e a1 a2 a3 a4=>#[a1,J,e,#[mp',n',a2,a3,⋯],rfl]) λe H' s'=>q2 (.inr e) H' (s12.trans (SamT.of s'))]
  rintro σ H3 ⟨s3,J2,e2,⟨mp2,n2,hF3,hM3,hn3⟩,rfl⟩:_;right
  rfl'
  exact q1 J1 J2 mp2 n2 H3 e1 e2 (s12.trans s3) hF3 hM3 hn3
def j3(K:pD)(CH:pE):Sp:=λvs H Q _=>∃(y o q:pE) (ps:List zp),vs=[.ref y]/\QW K CH H y o q ps/\∀(r:pE) (H':Hp),Same H H'->LsA K H' r (ps.map dR)->H r=tJ->Q (.ref r) H'
theorem vc:sQz 1 ["self"] yw:=by nofun
theorem vb{f CH:pE}(B:Bt mg)(TS:zbz K mg CH)(F:Fun K "rules_told" "System.rules_told" yw f fd) :(1&&&["self"]) (j3 K CH):=by
 exists F.ok vc
 ·obtain⟨y,o,q,ps,rfl,hy,k⟩:=h;refine#[_,(zg (zm (xV xC rfl B.list PySem.Pv.boot_list (za (jC (pv 0) rfl) zf)))),?_];have s16:=z6
  rfl'
  obtain⟨dx,xs,h1,h2,h3⟩:=hy;exact#[_,_,_,h1,TS.cl,TS.nr,_,rfl,_,rfl,_,.inl (SqL.of h2),λr hr'=>k r _ (zd hr') #[xs,zc,Iss.same (zd hr') _ _ h3] hr']
noncomputable def goJ(ps:List zp)(m:Nat)(v:()):Option Nat:=(aV (m+1)).find? λj=>(zE (wAt ps v j) ps).isNone
theorem Wr{m:Nat}{v:()}{i:Nat}(e:goJ ps m v=tI i):i<=m/\Y7 ps v i/\zE (wAt ps v i) ps=tJ:=by
 unfold goJ at e;have h1:=dM e;have h2:zE (wAt ps v i) ps=tJ:=Option.isNone_iff_eq_none.mp h1;have hm:=tV.mp (eE e);refine#[⋯,λn hn hno=>?_,h2];obtain⟨_,as,bs,e2,h3⟩:=List.find?_eq_some_iff_append.mp e
 have hlen:as.length=i:=by
  have:=congrArg (λl=>l[as.length]?) e2
  erw[cz (ak _),Nat.sub_self,cK]at this
  obtain⟨h7,h8⟩:=tP.mp this;rw[fO]at h8;exact h8
 have h9:(aV (m+1))[n]? = as[n]?:=by rw[e2,df ⋯]
 have h10:n<(aV (m+1)).length:=by rw[dA];lia
 rw[aj h10,fO]at h9;have:=h3 n (ae h9.symm);rw[hno]at this;cases this
theorem XU{m:Nat}{v:()}(e:goJ ps m v=tJ):∀j,j<=m->zE (wAt ps v j) ps≠tJ:=λj hj hno=>by
 unfold goJ at e;have:=An.mp e j (tV.mpr ⋯);rw[hno]at this;exact this rfl
theorem UJ{m:Nat}{v:()}(hl:∀j,j<=m->(wAt ps v j).length<=10000)(hm:m<=10000):zbr ps (m:Int) v (goJ ps m v):=by
 cases e:goJ ps m v with
 | some i =>
  obtain⟨h1,h2,h3⟩:=Wr e;exact .yes #[h2,λj hj=>hl j ⋯,⋯] h3 ⋯
 | none =>
  have h:=XU e;exact .no (J:=m) #[λi hi=>h i ⋯,λj hj=>hl j hj,hm] (h m (ak _)) rfl
noncomputable def zdf(ps:List zp)(m:Nat)(v:()):():=wAt ps v ((goJ ps m v).getD 0)
noncomputable def QO(ps:List zp)(m:Nat)(t:N3):Bool:=decide (zdf ps m (pkA ps t)=zdf ps m (pkB ps t))
def OkG(ps:List zp)(m:Nat)(t:N3):Prop:=(goJ ps m (pkA ps t)).isSome=tK/\(goJ ps m (pkB ps t)).isSome=tK
def zeC(ps:List zp)(m:Nat):Prop:=m<=10000/\∀t ∈ ovA ps ps.length,(∀j,j<=m->(wAt ps (pkA ps t) j).length<=10000)/\∀j,j<=m->(wAt ps (pkB ps t) j).length<=10000
theorem zaE{t:N3}{m J1 J2:Nat}(e1:goJ ps m (pkA ps t)=tI J1)(e2:goJ ps m (pkB ps t)=tI J2):decide (wAt ps (pkA ps t) J1=wAt ps (pkB ps t) J2)=QO ps m t:=by
 unfold QO zdf;rw[e1,e2];rfl
theorem zcR{m:Nat}{t:N3}(h:goJ ps m (pkA ps t)=tJ\/goJ ps m (pkB ps t)=tJ):¬ OkG ps m t:=λho=>by
 obtain⟨h1,h2⟩:=ho;rcases h with h | h
 ·rw[h]at h1;cases h1
 ·rw[h]at h2;cases h2
theorem FmOk.nil{m:Int}:FmOk ps m λ_=>tJ:=λk v e=>by cases e
theorem ZG{F:pE}{H H':Hp}{P:pK}{w:pM}{mp:pL->Option V}{n:Nat}(s:SamT F H H')(hF:H F=tI (jo P w F mp n)):∀{ts:List N3} {vs:List V},Iss K H (ts.map d3) vs->Iss K H' (ts.map d3) vs
 | [],vs,h=>by erw[aL,Iss]at h ⊢;exact h
 | t::ts,vs,h=>by
  erw[ar,Iss]at h ⊢
  obtain⟨v,r,e,h3,h4⟩:=h;refine#[v,r,e,?_,ZG s hF h4]
  erw[d3,Is]at h3 ⊢
  obtain⟨a,xs,e1,e2,e3⟩:=h3;refine#[a,xs,e1,je s hF e2,?_]
  erw[Iss,Is]at e3 ⊢
  exact e3
noncomputable def unG(ps:List zp)(m:Nat):List N3:=(ovA ps ps.length).filter λt=>!QO ps m t
def vW(K:pD)(CH CF:pE):Sp:=λvs H Q E=>∃(y o q:pE) (ps:List zp) (m:Nat),vs=[.ref y,.int (m:Nat)]/\QW K CH H y o q ps/\NeL ps/\jY ps/\(ovA ps ps.length).length<=4000/\zeC ps m /\
 ((∀t ∈ ovA ps ps.length,OkG ps m t)->∀D H',Same H H'->H D=tJ->LsA K H' D ((unG ps m).map d3)->Q (.ref D) H')/\(∀t ∈ ovA ps ps.length,¬ OkG ps m t->∀H',Same H H'->E (.ref CF) tJ H')
theorem nv:sQz 2 ["system","most","rules","forms"] xG:=by nofun
theorem Jx{f CF CH:pE}{dV:pF}(B:Bt mg)(TS:zbz K mg CH)(F:FunD K "unmet" "unmet" xG dV f fd)(oJ:(2<<<"overlaps") ["rules"] [] (vz K))(oU:(6>>>"is_met") ["rules","overlap","most","forms"] [] (j1 P w K CF))(M_system_rules_told:DM P w K mg base CX0 1 CH "rules_told" ["self"] (j3 K CH)):(7|||["system","most"]) (vW K CH CF):=by
 exists FunD.okX F nv,0
 ·obtain⟨y,o,q,ps,m,rfl,hy,hN,hok,hlen,hE,k1,k2⟩:=h
  refine#[_,(zi (uE (i:=2) nv.nd rfl (Or.inr rfl) (me0 M_system_rules_told TS.cl hr (pv 0)))
   (zi (uE (i:=3) nv.nd rfl (Or.inr rfl) zaC)
   (zg (zm (ZU (EX:=E) (own:=["overlap"]) (caps:=["rules","most","forms"]) (ix:=[2,1,3]) (tt:=(zbn (tBl (uu (j1 P w K CF) [] E (zK (yf 1) (zK (yf 0) (zK (yf 2) (zK (yf 3) wn)))))))) (te:=(yf 0)) rfl (zL (sc:=zh xG) rfl (by symm) (by symm) (by symm) rfl (by symm) (by symm) rfl) #[rfl,rfl] hx (yJ (cl0 oJ hr .nil rfl (za (pv 2) zf))) (λ_ _ _ _ _ _=>zy (i:=0) (show List.Nodup [_,_,_,_] by decide) rfl (.inl rfl)) (λ_ _ _ _ _ _ _ hx'=>(Qp (ye (xg (clP hx' oU hr .nil rfl (za (pv 1) (za (pv 0) (za (pv 2) (za (pv 3) zf))))) (λ_=>rfl))))) (λ_ _ _ _ _ _ _ _=>(pv 0))))))),?_]
  have s16:=z6;have s16:=z6;obtain⟨dx,xs0,h1,h2,h3⟩:=id hy;refine zj (λσ H'=>Same H H'/\∃r:pE,LsA K H' r (ps.map dR)/\σ=[!!y,-~~~m,!!r,tJ]) ?_ ?_
  ·rfl'
   exact#[_,_,h1,rfl,y,o,q,ps,rfl,hy,λr H1 s1 hA hr'=>#[s1,r,hA,rfl]]
  rintro σ H1 ⟨s1,r,hA,rfl⟩:_;right;refine zj (λσ H'=>Same H H'/\LsA K H' r (ps.map dR)/\∃F:pE,H F=tJ/\H' F=tI (jo P w F (λ_=>tJ) 0)/\σ=[!!y,-~~~m,!!r,!!F]) ?_ ?_
  ·rfl'
   erw[zbw]
   intro F hF;have s2:=zd (o:=jo P w F (λ_=>tJ) 0) hF
   rfl'
   exact#[s1.trans s2,hA.same s2,F,s1.free hF,zc,rfl]
  rintro σ H2 ⟨s2,hA2,F,hF0,hF,rfl⟩:_;right
  rfl'
  refine Z3 hA2.is hok λO H3 hO s3 hL=>#[O,rfl,?_,λD hD=>?_]
  ·obtain⟨xs,hX,_⟩:=hL;exact#[_,SqL.of hX]
  obtain⟨xs,hX,hI⟩:=hL;have hxl:=hI.len;rw[af]at hxl;have hF3:=s3 _ _ hF;have s03:=s2.trans s3;have hDF:D≠F:=λz=>by rw[z,hF3]at hD;cases hD
  have hOF:O≠F:=λz=>by rw[z,hF3]at hX;cases hX
  have back:∀{G:Hp},SamT F H3 G->Same H G:=λ{G} sT b o' e=>sT b o' (λz=>by rw[z,hF0]at e;cases e) (s03 b o' e);refine CompL.by (xs:=xs) (λi tO H'=>SamT F H3 H'/\H' D=tI (.lst tO)/\(∃(mp:pL->Option V) (n:Nat),H' F=tI (jo P w F mp n)/\FmOk ps (m:Nat) mp/\n<=2 * i)/\Iss K H3 ((((ovA ps ps.length).take i).filter λt=>!QO ps m t).map d3) tO/\∀t ∈ (ovA ps ps.length).take i,OkG ps m t) #[SamT.of (zd hD),zc,#[_,0,by rw[zo (λz=>hDF z.symm)];exact hF3,FmOk.nil,⋯],by erw[bD,di,aL,Iss],λt ht=>by simp at ht] (λi tO H' _ h=>SqL.of (h.1 _ _ hOF hX)) ?_ ?_
  ·refine nm4 ?_;rintro i x tO H' hx ⟨sT,hH,⟨mp,n,hFm,hM,hn⟩,hI',hle⟩:_;have hil:=(tP.mp hx).1;obtain⟨t,p,ht,rfl,hp⟩:=hI.get3 hx;have htm:=ae ht;have hE':=hE.2 t htm
   have hal:tO.length<=i:=by
    have:=hI'.len;rw[af]at this;have h5:=cX (λt=>!QO ps m t) ((ovA ps ps.length).take i);rw[aF]at h5;lia
   right
   erw[zbn,tBl]
   rfl'
   refine#[xv,r,p,F,ps,t,(m:Nat),n,mp,_,_,rfl,Xv sT hF3 (hA2.same s3),hN,hok,je sT hF3 hp,htm,hFm,hM,⋯,UJ hE'.1 hE.1,UJ hE'.2 hE.1,λJ1 J2 mp' n' H5 e1 e2 s5 hF5 hM5 hn5=>?_,λh H5 s5=>k2 t htm (zcR h) H5 (back (sT.trans s5))]
   have hle':∀t' ∈ (ovA ps ps.length).take (i+1),OkG ps m t':=λt' ht'=>by
    rw[zO ht]at ht';rcases tS.mp ht' with h | h
    ·exact hle t' h
    ·rw[tT.mp h];exact#[by rw[e1];rfl,by rw[e2];rfl]
   rw[zaE e1 e2]
   have hcase:∀b,QO ps m t=b->(!b)=tK->Iss K H3 ((((ovA ps ps.length).take (i+1)).filter λt=>!QO ps m t).map d3) (tO ++ [.ref p]):=λb hb hb'=>by
    rw[zO ht,bx,au];refine Iss.append hI' ?_;rw[eR,hb,if_pos hb']
    erw[di,ar,aL,Iss]
    refine#[_,[],rfl,?_,rfl]
    erw[d3,Is,Iss]
    exact#[p,_,rfl,hp,_,_,rfl,rfl,_,_,rfl,rfl,_,_,rfl,rfl,rfl]
   refine#[_,rfl,?_]
   cases hb:QO ps m t with
   | false =>
    rw[if_pos rfl];refine#[s5 _ _ hDF hH,⋯,CNx.mk hil #[λb o' hbF e=>?_,zc,#[mp',n',by rw[zo (λz=>hDF z.symm)];exact hF5,hM5,⋯],hcase _ hb rfl,hle']];rw[zo (λz=>by rw[z,hD]at e;cases e)];exact s5 b o' hbF (sT b o' hbF e)
   | true =>
    rw[if_neg ∅];refine CNx.mk hil #[sT.trans s5,s5 _ _ hDF hH,#[mp',n',hF5,hM5,⋯],?_,hle'];rw[zO ht,bx,eR,hb]
    erw[d8,bB,if_false,di,aG]
    exact hI'
  ·rintro tO H' ⟨sT,hH,_,hI',hle⟩;rw[hxl,aP]at hI' hle;exact k1 hle D H' (back sT) (s03.free hD) #[tO,hH,ZG sT hF3 hI']
theorem zbd{p:pE}{a b:V}{i j:Nat}{σ:L2.St}{R:L2.St->Hp->Prop}(h:SqT K H p [a,b])(k:R ((σ.set i (tI a)).set j (tI b)) H):zaH K 2 (jz (yS i) (jz (yS j) zaF)) (.ref p) σ H R:=by
 erw[zaH,jz,yS,zaF]
 first
 | exact⟨_,_,rfl,h,rfl,_,_,rfl,_,_,rfl,rfl,k⟩
 | exact⟨_,_,rfl,.inr h,rfl,_,_,rfl,_,_,rfl,rfl,k⟩
theorem EnsA.app{fs:List Ent}{us:List V}(hf:EnsA K H fs us):∀{es:List Ent} {vs:List V},EnsA K H es vs->EnsA K H (es ++ fs) (vs ++ us)
 | [],vs,h=>by
  erw[EnsA]at h
  subst h;exact hf
 | e::es,vs,h=>by
  erw[EnsA]at h
  obtain⟨x,r,rfl,hx,hr⟩:=h
  erw[aY,EnsA]
  exact#[x,r ++ us,rfl,hx,hf.app hr]
abbrev MkS(P:pK)(w:pM)(K:pD)(mg:pL->Option pF)(base:pP)(CO CR CW CT CH:pE):Prop:=DMk P w K mg base (CXx P w) 5 CH ["self","order","rules"] (qj K CO CR CW CT CH)
theorem zaS{Q:pE->Hp->Prop}{CO CR CW CT CH o a:pE}{l:()}(ho:OrdAt CO CR CW H o k l ns)(hG:OG l ns k)(hA:LsA K H a (ps.map dR))(hin:InL l ps)(hf:wN k l ns ps 0=tJ)(q:∀(y qa:pE) (H':Hp),Same H H'->QW K CH H' y o qa ps->Q y H'):∀x dx,H x=tJ->H dx=tJ->dx≠x->qj K CO CR CW CT CH [.ref x,.ref o,.ref a] (upd (upd H dx (.own x)) x (.ins CH dx [])) (λv H'=>v=.non/\Q x H') E0:=by
 intro x dx hx hdx hne;obtain⟨xs,hX,hI⟩:=hA;have sd:=zd (o:=.own x) hdx
 have k1:Same H (upd (upd H dx (.own x)) x (.ins CH dx [])):=λb' o' e=>by
  rw[zo (zF e hx)];exact sd _ _ e
 refine#[x,dx,o,a,k,l,ns,ps,xs,rfl,zc,ho.same k1,hG,k1 _ _ hX,Iss.same k1 _ _ hI,hin,(λi e=>by rw[hf]at e;cases e),λ_ q1 H'' kp hx' hq' hqn=>#[rfl,?_]];have k3:Same H H'':=λb' o' e=>kp b' o' (λz=>by rw[z,hx]at e;cases e) (k1 _ _ e);exact q x q1 H'' k3 #[dx,xs,hx',hq',Iss.same k3 _ _ hI]
theorem BG.inL{l:()}(h:BG k l ns bs):InL l (zb bs):=λp hp=>by
 obtain⟨e,he,rfl⟩:=tQ.mp hp;have b:=h.e e he;exact#[aN b.a ∅,aN b.b ∅,b.ma,b.mb]
theorem BG.fault{l:()}(h:BG k l ns bs):wN k l ns (zb bs) 0=tJ:=ud λm p e=>by
 obtain⟨e',he,rfl⟩:=tQ.mp (ae e);exact h.lt e' he
def Wj(K:pD)(CO CR CW CH:pE):Sp:=λvs H Q _=>∃(o a:pE) (k:Nat) (l:()) (ns:List Int) (bs:List Ent),vs=[.ref o,.ref a]/\OrdAt CO CR CW H o k l ns/\OG l ns k/\EnsL K H a bs/\BG k l ns bs/\∀(y qa:pE) (H':Hp),Same H H'->QW K CH H' y o qa (zb bs)->Q (.ref y) H'
theorem Zo:sQz 2 ["order","entries"] vv:=by nofun
theorem ZI{f CO CR CW CT CH:pE}(B:Bt mg)(TS:zbz K mg CH)(MS:MkS P w K mg base CO CR CW CT CH)(F:("system_by"^^^vv))(gr:(1<<<"pairs_of") ["entries"] [] (x0 K)):(7&&&["order","entries"]) (Wj K CO CR CW CH):=by
 exists F.ok Zo
 ·obtain⟨o,a,k,l,ns,bs,rfl,ho,hG,hA,hB,q⟩:=h;refine#[_,(zg (zm (zew xe0 MS hr rfl TS.g (za (pv 0) (za (cl0 gr hr .nil rfl (za (pv 1) zf)) zf))))),?_];have s16:=z6;ac_rfl;refine xT hA.is (by have:=hB.n;lia) λD H' _ s' hL=>?_;exact zaS (ho.same s') hG hL hB.inL hB.fault λy qa H'' s'' hy=>q y qa H'' (s'.trans s'') hy
noncomputable def fE(i:Nat)(p:zp):Ent:=(p.1,p.2,[((i:Int),(0:Int),tK)])
noncomputable def fEs(rs:List zp):Nat->List Ent
 | 0=>[]
 | n+1=>fEs rs n ++ ((rs[n]?).map (fE n)).toList
theorem Jh{n:Nat}(h:rs[n]? = tI p):fEs rs (n+1)=fEs rs n ++ [fE n p]:=by
 show fEs rs n ++ ((rs[n]?).map (fE n)).toList=_;rw[h];rfl
theorem Vc(rs:List zp):∀n,(fEs rs n).length<=n
 | 0=>ak _
 | n+1=>by
  have:=Vc rs n;show (fEs rs n ++ ((rs[n]?).map (fE n)).toList).length<=_;rw[ah]
  cases rs[n]? with
  | none=>simp;lia
  | some p=>simp;lia
theorem qX:∀{n:Nat} {e:Ent},e ∈ fEs rs n->∃i p,i<n/\rs[i]? = tI p/\e=fE i p
 | 0,e,h=>(nomatch h)
 | n+1,e,h=>by
  have h':e ∈ fEs rs n ++ ((rs[n]?).map (fE n)).toList:=h;rcases tS.mp h' with h | h
  ·obtain⟨i,p,hi,hp,he⟩:=qX h;exact#[i,p,⋯,hp,he]
  ·cases hn:rs[n]? with
   | none=>rw[hn]at h;simp at h
   | some p =>
    rw[hn]at h;exact#[n,p,⋯,hn,by simpa using h]
def XW(K:pD):Sp:=λvs H Q _=>∃(a:pE) (rs:List zp),vs=[.ref a]/\LsA K H a (rs.map dR)/\rs.length<=20/\∀(D:pE) (H':Hp),Same H H'->H D=tJ->EnsM K H' D (fEs rs rs.length)->Q (.ref D) H'
theorem uV:sQz 1 ["pacts"] yE:=by nofun
theorem uS(B:Bt mg)(F:("first_entries"^^^yE)) :(1&&&["pacts"]) (XW K):=by
 exists F.ok uV
 ·obtain⟨a,rs,rfl,hA,hrl,q⟩:=h;refine#[_,(zg (zm (xA (g:=zaH K 2 (jz (yS 0) (jz (yS 1) zaF))) (own:=["number","pact"]) (caps:=[]) (ix:=[]) (tt:=wU) (te:=(Uj (zK (tOp (qO K) (yf 1) (tC (.int 0))) (zK (tOp (qO K) (yf 1) (tC (.int 1))) (zK (zbN (zK (Uj (zK (yf 0) (zK (tC (.int 0)) (zK (tC (.bl tK)) wn)))) wn)) wn))))) rfl (zL (sc:=zh yE) rfl (by symm) (by symm) (by symm) rfl (by symm) (by symm) rfl) (vR rfl B.enum (za (pv 0) zf)) (λ_ _ _ _ _ _=>uJ (n:=2) rfl (zZ (zy (i:=0) (show List.Nodup [_,_] by decide) rfl (.inl rfl)) (zZ (zy (i:=1) (show List.Nodup [_,_] by decide) rfl (.inl rfl)) wy))) (λ_ _ _ _ _ _=>yv) (λ_ _ _ _ _ _=>(zY (za (zl ix_tup (pv 1) ze) (za (zl ix_tup (pv 1) ze) (za (wl (za (zY (za (pv 0) (za ze (za xO zf)))) zf)) zf)))))))),?_];have s16:=z6;have s16:=z6;obtain⟨xs,hX,hI⟩:=id hA;have hxl:=hI.len;rw[af]at hxl;ac_rfl;rw[zbV];ac_rfl;refine#[#[_,SqL.of hX],λD hD=>CompEL.by (xs:=xs) (λi tO H'=>Same H H'/\H' D=tI (.lst tO)/\tO.length<=i/\EnsA K (jB D H') (fEs rs i) tO) #[zd hD,zc,ak _,rfl] (λi tO H' _ h=>SqL.of (h.1 _ _ hX)) ?_ ?_]
  ·rintro i x tO H' p hx ⟨hs,hH,hal,hEn⟩ hp;have hil:=(tP.mp hx).1;obtain⟨r,pr,hri,rfl,hqr⟩:=hI.getR hx;have u1:=zd (o:=HO.tup [.int (i:Nat),.ref pr]) hp;have hq:=zq (hs.trans u1) hqr;refine zbd (SqT.of zc) ?_
   erw[wU]
   rfl'
   refine#[Kx,_,hq,_,rfl,_,hq,_,rfl,⋯,λp1 hp1=>#[⋯,λp2 hp2=>#[⋯,λp3 hp3=>?_]]];have u2:=zd (o:=HO.tup [.int (i:Nat),.int 0,.bl tK]) hp1;have u3:=zd (o:=HO.lst [.ref p1]) hp2;have u4:=zd (o:=HO.tup [.str (tx r.1),.str (tx r.2),.ref p2]) hp3;have u:=u1.trans (u2.trans (u3.trans u4));have hD4:=u _ _ hH;have hp2D:p2≠D:=λz=>by rw[z,u2 _ _ (u1 _ _ hH)]at hp2;cases hp2
   refine#[hD4,⋯,CNx.mk hil #[zD (hs.trans u) hD,zc,by rw[ah];erw[ay,aT];lia,?_]];rw[Jh hri];refine (hEn.same ((wL u).trans xD)).snoc (EnA.same ?_ xD);refine EnA.new (e:=fE i r) hD4 zc #[_,u4 _ _ zc,?_] hp2D;show Iss K _ [dSt ((i:Int),(0:Int),tK)] _;exact zaw (XR (SqT.of (u4 _ _ (u3 _ _ zc))))
  ·rintro tO H' ⟨hs,hH,hal,hEn⟩;rw[hxl]at hEn;exact q D H' hs hD #[tO,hH,hEn.same wq]
noncomputable def qR(es:List Ent):Bool:=decide (12<es.length) || es.any λe=>decide (10<max e.1.length e.2.1.length)
structure TMc(mg:pL->Option pF):Prop where
 u:∃t,mg "MOST_USES_completing" = tI (.int 40 t)
 e:∃t,mg "MOST_ENTRIES" = tI (.int 12 t)
 d:∃t,mg "MOST_SIDE_completing" = tI (.int 10 t)
 p:∃t,mg "MOST_PEAKS" = tI (.int 8 t)
def ZL(K:pD):Sp:=λvs H Q _=>∃(a:pE) (es:List Ent),vs=[.ref a]/\EnsL K H a es/\es.length<64/\(∀e ∈ es,e.1.length<=10000/\e.2.1.length<=10000)/\∀H',Same H H'->Q (.bl (qR es)) H'
theorem Zv:sQz 1 ["entries"] we:=by nofun
theorem Z7(B:Bt mg)(hany:ze5 mg)(TM:TMc mg)(F:("is_beyond"^^^we)) :(1&&&["entries"]) (ZL K):=by
 obtain⟨⟨t9,g9⟩,⟨t8,g8⟩⟩:=And.intro TM.e TM.d
 exists F.ok Zv
 ·obtain⟨a,es,rfl,hA,hl,hE,q⟩:=h
  refine#[_,(zi (zM (zA Qh (zG B.len (pv 0)) (yl (v:=.int 12) rfl g9 #[t9,rfl]) (zC _))
    (zg (zm xO))
    zw)
   (zg (zm (wg (zd8 rfl) rfl hany PyProof.Rows.boot_any (za (xA (own:=["entry"]) (caps:=[]) (ix:=[]) (tt:=wU) (te:=(tOp zdh (tCB JD (zK (tCB (Qt K) (zK (tOp (qO K) (yf 0) (tC (.int 0))) wn)) (zK (tCB (Qt K) (zK (tOp (qO K) (yf 0) (tC (.int 1))) wn)) wn))) (tC (.int 10)))) rfl (zL (sc:=zh we) rfl (by symm) (by symm) (by symm) rfl (by symm) (by symm) rfl) (yJ (pv 0)) (λ_ _ _ _ _ _=>zy (i:=0) (show List.Nodup [_] by decide) rfl (.inl rfl)) (λ_ _ _ _ _ _=>yv) (λ_ _ _ _ _ _=>(yK Qh (wg (UB rfl) rfl B.max uZ (za (zG B.len (zl ix_tup (pv 0) ze)) (za (zG B.len (zl ix_tup (pv 0) ze)) zf))) (yl (v:=.int 10) rfl g8 #[t8,rfl]) (zC _)))) zf))))),?_]
  have s16:=z6;have s16:=z6;obtain⟨xs,hX,hEn⟩:=id hA;have hxl:=hEn.len;refine zj (λσ H'=>H'=H/\¬ 12<es.length/\σ=[!!a]) ?_ ?_
  ·ac_rfl;refine#[_,.inl #[_,hX,rfl],yM (λh=>?_) λh=>by lia]
   have e:qR es=tK:=by
    unfold qR;rw[decide_eq_true ⋯,Bool.true_or]
   rw[<- e];exact q H (Same.refl _)
  rintro σ H1 ⟨rfl,h12,rfl⟩:_;right;ac_rfl;refine#[#[_,hX],λD hD=>CompL.by (xs:=xs) (λi tO H'=>Same H1 H'/\H' D=tI (.lst tO)/\tO=((es.take i).map λe=>decide (10<max e.1.length e.2.1.length)).map V.bl) #[zd hD,zc,rfl] (λi tO H' _ h=>h.1.seq hX) ?_ ?_]
  ·refine nm4 ?_;rintro i x tO H' hx ⟨hs,hH,rfl⟩:_;have hil:=(tP.mp hx).1;obtain⟨e,p,s,he,rfl,hp,_⟩:=hEn.get hx;have hq:=zq hs hp;have hb:=hE e (ae he);right
   erw[wU]
   rfl'
   refine#[xv,_,hq,_,rfl,_,#[by rw[zS];lia,rfl],_,hq,_,rfl,_,#[by rw[zS];lia,rfl],hH,by rw[af,af,aF];lia,CNx.mk hil #[zD hs hD,zc,?_]];rw[zO he,au,au,zS,zS];congr 1;show [V.bl _]=[V.bl _];congr 2;refine decide_eq_decide.mpr ?_;split <;> lia
  ·rintro tO H' ⟨hs,hH,rfl⟩;rw[hxl,aP]at hH;refine#[D,_,rfl,SqL.of hH,?_]
   have e:(es.map λe=>decide (10<max e.1.length e.2.1.length)).any id=qR es:=by
    unfold qR;rw[decide_eq_false h12,Bool.false_or,List.any_map];rfl
   rw[e];exact q H' hs
theorem Yp(h:qR es=tL):es.length<=12/\∀e ∈ es,e.1.length<=10/\e.2.1.length<=10:=by
 unfold qR at h;rw[Bool.or_eq_false_iff]at h;refine#[by have:=of_decide_eq_false h.1;lia,λe he=>?_];have:=List.any_eq_false.mp h.2 e he;have h2:¬ 10<max e.1.length e.2.1.length:=λz=>this (decide_eq_true z);lia
def Kh(K:pD)(CO CR CW T:pE):Sp:=λvs H Q _=>∃(o a:pE) (k:Nat) (l:()) (ns:List Int) (es:List Ent),vs=[.ref o,.ref a]/\OrdAt CO CR CW H o k l ns/\OG l ns k/\EnsL K H a es/\es.length<64/\(∀e ∈ es,EB l e)/\TabOk H T lp lq /\
 (∀(bs:List Ent) (D:pE) (H':Hp),vY k l ns 20 es (tI bs)->BG k l ns bs->qR bs=tL->SamT T H H'->TabOk H' T lp lq->EnsM K H' D bs->Q (.ref D) H')/\((vY k l ns 20 es tJ\/∃bs,vY k l ns 20 es (tI bs)/\qR bs=tK)->∀H',SamT T H H'->TabOk H' T lp lq->Q .non H')
structure zd7(K:pD)(CF:pE):Prop where
 s:cZ K (.ref CF) (.ref CF)=tI tK
theorem lB:sQz 2 ["order","entries","slim"] yY:=by nofun
theorem uz{f CO CR CW TB CF:pE}(B:Bt mg)(TFx:zbe K mg CF)(TSb:zd7 K CF)(F:("thinned_within"^^^yY))(oN:(7>>>"thinned") ["order","entries"] [] (VN K CO CR CW TB CF))(oz:(1<<<"is_beyond") ["entries"] [] (ZL K)):(8&&&["order","entries"]) (Kh K CO CR CW TB):=by
 exists F.ok lB
 ·obtain⟨o,a,k,l,ns,es,rfl,ho,hG,hA,hz,hE,hTab,q1,q2⟩:=h
  refine#[_,(zi (QP (i:=2) (th:=(za4 (tC .non))) lB.nd rfl (.inl rfl) (.inl rfl) #[rfl,rfl] (clX oN hr .nil rfl (za (pv 0) (za (pv 1) zf))) rfl TFx.g TFx.xi.ok (λe=>(zg (zm yy))))
   (zg (zm (vD (xg (cl0 oz hr .nil rfl (za (pv 2) zf)) (λ_=>rfl)) yy (pv 2))))),?_]
  have s16:=z6;have s16:=z6;refine zj (λσ H'=>SamT TB H H'/\TabOk H' TB lp lq/\∃(bs:List Ent) (D:pE),vY k l ns 20 es (tI bs)/\BG k l ns bs/\EnsM K H' D bs/\σ=[!!o,!!a,!!D]) ?_ ?_
  ·erw[Ka]
   ac_rfl;exact#[o,a,k,l,ns,es,rfl,ho,hG,hA,hz,hE,hTab,λbs D H' h1 h2 h3 h4 h5=>#[h3,h4,bs,h1,h2,D,h5,rfl],λh H' h3 h4=>#[CF,rfl,TSb.s,λx hx=>q2 (.inl h) _ (h3.trans (SamT.of (zd hx))) (h4.same (zd hx))]]
  rintro σ H1 ⟨s1,hT1,bs,D,hTh,hB,hM,rfl⟩:_;right;ac_rfl;exact#[D,bs,rfl,hM.l,hB.n,λe he=>#[aN (hB.e e he).a ∅,aN (hB.e e he).b ∅],λH' s'=>#[_,rfl,yM (λh=>q2 (.inr #[bs,hTh,h]) H' (s1.trans (SamT.of s')) (hT1.same s')) λh=>q1 bs D H' hTh hB (by simpa using h) (s1.trans (SamT.of s')) (hT1.same s') (hM.same s')]]
theorem qe(w:())(k:Int)(o n:()):(yH w k o n).length<=w.length+n.length:=by
 unfold yH;rw[ah,ah,aF,aW];lia
theorem BG.ok{l:()}(h:BG k l ns bs)(hl:bs.length<=30):jY (zb bs):=by
 refine#[by unfold zb;rw[af];exact hl,λr hr=>?_];obtain⟨e,he,rfl⟩:=tQ.mp hr;exact#[aN (h.e e he).a ∅,aN (h.e e he).b ∅]
theorem zb9(hok:∀r ∈ ps,r.1.length<=60/\r.2.length<=60){t:N3}(ht:t ∈ ovA ps ps.length):(pkA ps t).length<=180/\(pkB ps t).length<=180:=by
 obtain⟨i1,i2,i3,i4⟩:=uf ht;obtain⟨r,hr⟩:∃r,ps[t.1]? = tI r:=#[_,aj i1];obtain⟨r2,hr2⟩:∃r,ps[t.2.1]? = tI r:=#[_,aj i2];have l1:=w8 hr;have l2:=w8 hr2;have d1:ps.getD t.1 ([],[])=r:=by rw[ac,hr];rfl
 have d2:ps.getD t.2.1 ([],[])=r2:=by rw[ac,hr2];rfl
 rw[l1]at i3;have b1:=hok r (ae hr);have b2:=hok r2 (ae hr2);have hp:=wD r.1 r2.1 t.2.2 ⋯;have p1:=qe (yd r.1 r2.1 t.2.2) 0 r.1 r.2;have p2:=qe (yd r.1 r2.1 t.2.2) (t.2.2:Nat) r2.1 r2.2;unfold pkA pkB;rw[l1,l2,d1,d2];lia
theorem zcT(hN:NeL ps)(hok:∀r ∈ ps,r.1.length<=60/\r.2.length<=60):zeC ps 40:=by
 refine#[∅,λt ht=>?_];obtain⟨h1,h2⟩:=zb9 hok ht
 have key:∀(v:()),v.length<=180->∀j,j<=40->(wAt ps v j).length<=10000:=λv hv j hj=>by
  have:=qC (l:=v) hN (λp hp=>(hok p hp).2) j;have h3:j * 60<=40 * 60:=fh hj (ak _);lia
 exact#[key _ h1,key _ h2]
def Kp(K:pD)(CO CR CW:pE):Sp:=λvs H Q _=>∃(o a:pE) (k:Nat) (l:()) (ns:List Int) (bs:List Ent),vs=[.ref o,.ref a]/\OrdAt CO CR CW H o k l ns/\OG l ns k/\EnsL K H a bs/\BG k l ns bs/\bs.length<=30/\(ovA (zb bs) (zb bs).length).length<=4000 /\
 ((∀t ∈ ovA (zb bs) (zb bs).length,OkG (zb bs) 40 t)->∀D H',Same H H'->LsA K H' D ((unG (zb bs) 40).map d3)->Q (.ref D) H')/\(∀t ∈ ovA (zb bs) (zb bs).length,¬ OkG (zb bs) 40 t->∀H',Same H H'->Q .non H')
theorem qH:sQz 2 ["order","entries"] xN:=by nofun
theorem qE{f CO CR CW CF CH:pE}{mm:rZ}(B:Bt mg)(TFx:zbe K mg CF)(TSb:zd7 K CF)(TM:TMc mg)(F:("unmet_within"^^^xN))(pb:(7>>>"unmet") ["system","most"] [] (vW K CH CF))(DD_unmet:(7>>>"unmet") ["system","most"] [.int 4000 mm] (vW K CH CF))(oB:(7<<<"system_by") ["order","entries"] [] (Wj K CO CR CW CH)):(9&&&["order","entries"]) (Kp K CO CR CW):=by
 obtain⟨t9,g9⟩:=TM.u
 exists F.ok qH
 ·obtain⟨o,a,k,l,ns,bs,rfl,ho,hG,hA,hB,hbl,hol,q1,q2⟩:=h;refine#[_,(zg (Wp (th:=(za4 (tC .non))) #[rfl,rfl] (clX pb hr .nil rfl (za (cl0 oB hr .nil rfl (za (pv 0) (za (pv 1) zf))) (za (yl (v:=.int 40) rfl g9 #[t9,rfl]) zf))) rfl TFx.g TFx.xi.ok (λe=>(zg (zm yy))))),?_];have s16:=z6;have s16:=z6
  erw[Vu]
  ac_rfl
  have hsd:∀r ∈ zb bs,r.1.length<=60/\r.2.length<=60:=λr hr=>by
   obtain⟨e,he,rfl⟩:=tQ.mp hr;exact#[(hB.e e he).a,(hB.e e he).b]
  exact#[o,a,k,l,ns,bs,rfl,ho,hG,hA,hB,λy qa H' s' hy=>#[y,o,qa,zb bs,40,rfl,hy,hB.ne hG,hB.ok hbl,hol,zcT (hB.ne hG) hsd,λh D H'' s'' _ hL=>q1 h D H'' (s'.trans s'') hL,λt ht h H'' s''=>#[CF,rfl,TSb.s,λx hx=>q2 t ht h _ (s'.trans (s''.trans (zd hx)))]]]
noncomputable def jv(es:List Ent)(t:N3):Ent:=(pkA (zb es) t,pkB (zb es) t,byL es [((t.1:Int),(0:Int),tL),((t.2.1:Int),(t.2.2:Int),tK)])
def kn(K:pD):Sp:=λvs H Q _=>∃(a t:pE) (es:List Ent) (tr:N3),vs=[.ref a,.ref t]/\EnsL K H a es/\SqT K H t [.int (tr.1:Nat),.int (tr.2.1:Nat),.int (tr.2.2:Nat)]/\tr ∈ ovA (zb es) (zb es).length/\jY (zb es)/\(∀e ∈ es,e.2.2.length<=600)/\∀(p s:pE) (H':Hp),Same H H'->H' p=tI (.tup [.str (tx (jv es tr).1),.str (tx (jv es tr).2.1),.ref s])->LsA K H' s ((jv es tr).2.2.map dSt)->H s=tJ->Q (.ref p) H'
theorem md:sQz 2 ["entries","overlap","sides","steps"] uw:=by nofun
theorem Yi(B:Bt mg)(F:("entry_of"^^^uw))(oq:(4<<<"peak") ["rules","overlap"] [] (j5 K))(im:(2<<<"by_pacts") ["entries","steps"] [] (Uw K))(gr:(1<<<"pairs_of") ["entries"] [] (x0 K)):(5&&&["entries","overlap"]) (kn K):=by
 exists F.ok md
 ·obtain⟨a,t,es,tr,rfl,hA,ht,htr,hok,hst,q⟩:=h
  refine#[_,(zi (zB 2 md.nd (cl0 oq hr .nil rfl (za (cl0 gr hr .nil rfl (za (pv 0) zf)) (za (pv 1) zf))))
   (zi (zB 3 md.nd (cl0 im hr .nil rfl (za (pv 0) (za (wl (za (zY (za (zl ix_tup (pv 1) ze) (za ze (za xO zf)))) (za (zY (za (zl ix_tup (pv 1) ze) (za (zl ix_tup (pv 1) ze) (za xO zf)))) zf))) zf))))
   (zg (zm (zY (za (zl ix_tup (pv 2) ze) (za (zl ix_tup (pv 2) ze) (za (pv 3) zf)))))))),?_]
  have s16:=z6;have s16:=z6;have hlp:(zb es).length=es.length:=by unfold zb;rw[af]
  obtain⟨i1,i2,i3,i4⟩:=uf htr;obtain⟨r,hr1⟩:∃r,(zb es)[tr.1]? = tI r:=#[_,aj i1];obtain⟨r2,hr2⟩:∃r,(zb es)[tr.2.1]? = tI r:=#[_,aj i2];have l1:=w8 hr1;have l2:=w8 hr2;have d1:(zb es).getD tr.1 ([],[])=r:=by rw[ac,hr1];rfl
  have d2:(zb es).getD tr.2.1 ([],[])=r2:=by rw[ac,hr2];rfl
  have eA:pkA (zb es) tr=yH (yd r.1 r2.1 tr.2.2) 0 r.1 r.2:=by unfold pkA;rw[l1,l2,d1]
  have eB:pkB (zb es) tr=yH (yd r.1 r2.1 tr.2.2) (tr.2.2:Nat) r2.1 r2.2:=by unfold pkB;rw[l1,l2,d2]
  rw[l1]at i3;rw[l1,l2]at i4;refine zj (λσ H'=>Same H H'/\∃p:pE,(∃x,H' p=tI (.tup [x,.str (tx (pkA (zb es) tr)),.str (tx (pkB (zb es) tr))]))/\σ=[!!a,!!t,!!p,tJ]) ?_ ?_
  ·rfl'
   refine xT hA.is (by have:=hok.1;lia) λD H1 _ s1 hL=>?_;exact Xi hL.is (zq s1 ht) hok hr1 hr2 ⋯ i4 λp H' _ s' hp=>#[s1.trans s',p,#[_,by rw[eA,eB];exact hp],rfl]
  rintro σ H1 ⟨s1,p,⟨x,hp⟩,rfl⟩:_;right;refine zj (λσ H'=>Same H1 H'/\∃S:pE,H S=tJ/\LsA K H' S ((jv es tr).2.2.map dSt)/\σ=[!!a,!!t,!!p,!!S]) ?_ ?_
  ·have ht1:=zq s1 ht
   rfl'
   refine#[_,ht1,_,rfl,⋯,λp1 hp1=>?_];have u1:=zd (o:=HO.tup [.int (tr.1:Nat),.int 0,.bl tL]) hp1;refine#[_,zq u1 ht1,_,rfl,_,zq u1 ht1,_,rfl,⋯,λp2 hp2=>#[⋯,λp3 hp3=>?_]];have u2:=zd (o:=HO.tup [.int (tr.2.1:Nat),.int (tr.2.2:Nat),.bl tK]) hp2;have u3:=zd (o:=HO.lst [.ref p1,.ref p2]) hp3;have u:=u1.trans (u2.trans u3);refine Wf (us:=[((tr.1:Int),(0:Int),tL),((tr.2.1:Int),(tr.2.2:Int),tK)]) (hA.same (s1.trans u)).is (LsA.is #[_,zc,?_]) (by simp) hst (λv hv=>?_) λD H' hDn s' hL=>#[u.trans s',D,(s1.trans u).free hDn,hL,rfl]
   ·erw[ar,aL,Iss]
    exact#[_,_,rfl,XR (SqT.of (u3 _ _ (u2 _ _ zc))),_,_,rfl,XR (SqT.of (u3 _ _ zc)),rfl]
   ·erw[bC,bS,or_false]at hv
    rcases hv with rfl | rfl
    ·exact#[by simp,by show (tr.1:Int)<_;lia]
    ·exact#[by simp,by show (tr.2.1:Int)<_;lia]
  rintro σ H2 ⟨s2,S,hSn,hS,rfl⟩:_;right
  rfl'
  exact#[_,SqT.of (s2 _ _ hp),_,rfl,_,SqT.of (s2 _ _ hp),_,rfl,⋯,λp' hp'=>q p' S _ (s1.trans (s2.trans (zd hp'))) zc (hS.same (zd hp')) hSn]
theorem QX{l:()}(h:¬ ut e):¬ ut (zU k l ns e):=by
 unfold zU;split
 ·exact h
 ·unfold ut at h ⊢;rw[yg];show ¬ (240<e.2.2.length\/60<e.2.1.length\/60<e.1.length);lia
theorem Wz{l:()}{bs es:List Ent}{r:Option (List Ent)}(h:y8 k l ns bs es r):(∀e ∈ bs,¬ ut e)->∀fs,r=tI fs->∀e ∈ fs,¬ ut e:=by
 induction h with
 | nil bs=>exact λh fs e=>by cases e;exact h
 | same _ _ _ _ ih=>exact ih
 | new _ _ _ h4 _ ih =>
  intro h;refine ih λe he=>?_;rcases tS.mp he with he | he
  ·exact h e he
  ·rw[tT.mp he];exact QX h4
 | far _ _ _ _=>exact λ_ fs e=>by cases e
 | stuck _=>exact λ_ fs e=>by cases e
theorem jc{k n:Nat}{l:()}{r:Option (List Ent)}(h:vY k l ns n es r):∀fs,r=tI fs->∀e ∈ fs,¬ ut e:=by
 induction h with
 | out es=>exact λfs e=>by cases e
 | bad _ _=>exact λfs e=>by cases e
 | done _ h2 _=>exact λfs e=>by cases e;exact Wz h2 (λe he=>(nomatch he)) _ rfl
 | more _ _ _ _ ih=>exact ih
theorem W7{M:Nat}(h:∀e ∈ es,e.2.2.length<=M)(u:Stp):(Xg es u).length<=M:=by
 have hg:(es.getD u.1.toNat ([],[],[])).2.2.length<=M:=by
  rw[ac]
  cases e:es[u.1.toNat]? with
  | none=>exact aE _
  | some x=>exact h x (ae e)
 unfold Xg;rw[ZE];split
 ·exact hg
 ·rw[yg];exact hg
inductive Cpl(k:Nat)(l:())(ns:List Int):Nat->List Ent->List Ent->Bool->List Ent->Prop where
 | out (kept fresh:List Ent):Cpl k l ns 0 kept fresh tL kept
 | slim {n:Nat} {kept fresh:List Ent} (h:vY k l ns 20 fresh tJ\/∃bs,vY k l ns 20 fresh (tI bs)/\qR bs=tK):Cpl k l ns (n+1) kept fresh tL kept
 | far {n:Nat} {kept fresh bs:List Ent} {t:N3} (h:vY k l ns 20 fresh (tI bs)) (hb:qR bs=tL) (ht:t ∈ ovA (zb bs) (zb bs).length) (ho:¬ OkG (zb bs) 40 t):Cpl k l ns (n+1) kept fresh tL bs
 | whole {n:Nat} {kept fresh bs:List Ent} (h:vY k l ns 20 fresh (tI bs)) (hb:qR bs=tL) (ho:∀t ∈ ovA (zb bs) (zb bs).length,OkG (zb bs) 40 t) (hu:unG (zb bs) 40=[]):Cpl k l ns (n+1) kept fresh tK bs
 | more {n:Nat} {kept fresh bs es:List Ent} {w:Bool} (h:vY k l ns 20 fresh (tI bs)) (hb:qR bs=tL) (ho:∀t ∈ ovA (zb bs) (zb bs).length,OkG (zb bs) 40 t) (hu:unG (zb bs) 40≠[]) (r:Cpl k l ns n bs (bs ++ ((unG (zb bs) 40).take 8).map (jv bs)) w es):Cpl k l ns (n+1) kept fresh w es
theorem zcM(hl:ps.length<=12)(h:∀r ∈ ps,r.1.length<=10):(ovA ps ps.length).length<=4000:=by
 have lfl:∀i,(lf ps i).length<=10:=λi=>by
  cases e:ps[i]? with
  | none=>unfold lf;rw[ac,e];exact aE _
  | some r=>rw[w8 e];exact h r (ae e)
 have oI:∀i m,(ovI ps i m).length<=m * 10:=λi m=>by
  induction m with
  | zero=>exact aE _
  | succ m ih =>
   rw[qf,ah];have h1:=qc ps i m (lf ps i).length;have h2:=lfl i;lia
 have oA:∀m,(ovA ps m).length<=m * 120:=λm=>by
  induction m with
  | zero=>exact aE _
  | succ m ih =>
   rw[km,ah];have h1:=oI m ps.length;lia
 have:=oA ps.length;lia
theorem zc1{l:()}(hin:∀r ∈ ps,(∀c ∈ r.1,c ∈ l)/\∀c ∈ r.2,c ∈ l)(h10:∀r ∈ ps,r.1.length<=10/\r.2.length<=10){t:N3}(ht:t ∈ ovA ps ps.length):((pkA ps t).length<=40/\∀c ∈ pkA ps t,c ∈ l)/\(pkB ps t).length<=40/\∀c ∈ pkB ps t,c ∈ l:=by
 obtain⟨i1,i2,i3,i4⟩:=uf ht;obtain⟨r,hr⟩:∃r,ps[t.1]? = tI r:=#[_,aj i1];obtain⟨r2,hr2⟩:∃r,ps[t.2.1]? = tI r:=#[_,aj i2];have l1:=w8 hr;have l2:=w8 hr2;have d1:ps.getD t.1 ([],[])=r:=by rw[ac,hr];rfl
 have d2:ps.getD t.2.1 ([],[])=r2:=by rw[ac,hr2];rfl
 rw[l1]at i3;have b1:=h10 r (ae hr);have b2:=h10 r2 (ae hr2);have n1:=hin r (ae hr);have n2:=hin r2 (ae hr2);have hp:=wD r.1 r2.1 t.2.2 ⋯;have p1:=qe (yd r.1 r2.1 t.2.2) 0 r.1 r.2;have p2:=qe (yd r.1 r2.1 t.2.2) (t.2.2:Nat) r2.1 r2.2
 have hw:∀c ∈ yd r.1 r2.1 t.2.2,c ∈ l:=λc hc=>by
  unfold yd at hc;rcases tS.mp hc with h | h
  ·exact n1.1 c h
  ·exact n2.1 c (cE h)
 have put:∀(k:Int) (o n:()),(∀c ∈ n,c ∈ l)->∀c ∈ yH (yd r.1 r2.1 t.2.2) k o n,c ∈ l:=λk o n hn c hc=>by
  unfold yH at hc;rcases tS.mp hc with hc | hc
  ·rcases tS.mp hc with hc | hc
   ·exact hw c (bF hc)
   ·exact hn c hc
  ·exact hw c (cE hc)
 unfold pkA pkB;rw[l1,l2,d1,d2];exact#[#[⋯,put _ _ _ n1.2],⋯,put _ _ _ n2.2]
theorem V5{l:()}(hB:BG k l ns bs)(hb:qR bs=tL)(hs:∀e ∈ bs,e.2.2.length<=240){t:N3}(ht:t ∈ ovA (zb bs) (zb bs).length):EB l (jv bs t):=by
 obtain⟨b1,b2⟩:=Yp hb
 obtain⟨h1,h2⟩:=zc1 (l:=l) (ps:=zb bs) (λr hr=>by
  obtain⟨e,he,rfl⟩:=tQ.mp hr
  exact#[(hB.e e he).ma,(hB.e e he).mb]) (λr hr=>by
  obtain⟨e,he,rfl⟩:=tQ.mp hr
  exact b2 e he) ht
 refine#[aN h1.1 ∅,aN h2.1 ∅,?_,h1.2,h2.2];show (byL bs [((t.1:Int),(0:Int),tL),((t.2.1:Int),(t.2.2:Int),tK)]).length<=600;unfold byL;rw[cp,cp,eQ,aG,ah];have o1:=W7 hs ((t.1:Int),(0:Int),tL);have o2:=W7 hs ((t.2.1:Int),(t.2.2:Int),tK);lia
theorem EnsM.samT{T:pE}{H H':Hp}{ps:Array pF}{a:pE}(h:EnsM K H a es)(s:SamT T H H')(hT:H T=tI (.tbl ps)):EnsM K H' a es:=by
 obtain⟨xs,h1,h2⟩:=h;exact#[xs,s.at hT h1 (λ_ z=>by cases z),EnsA.samT s hT h2]
def zdQ(K:pD)(T:pE)(H:Hp)(k:Nat)(l:())(ns:List Int)(rs:List zp)(m n:Nat)(H':Hp)(Dk Df:pE):Prop:=∃kept fresh:List Ent,SamT T H H'/\TabOk H' T lp lq/\EnsM K H' Dk kept/\EnsL K H' Df fresh/\fresh.length<64/\(∀e ∈ fresh,EB l e)/\BG k l ns kept/\∀w es,Cpl k l ns n kept fresh w es->Cpl k l ns m [] (fEs rs rs.length) w es
def Kz(K:pD)(CO CR CW T:pE):Sp:=λvs H Q _=>∃(o a:pE) (k:Nat) (l:()) (ns:List Int) (rs:List zp) (m:Nat),vs=[.ref o,.ref a,.int (m:Nat)]/\OrdAt CO CR CW H o k l ns/\OG l ns k/\LsA K H a (rs.map dR)/\rs.length<=20/\InL l rs/\(∀r ∈ rs,r.1.length<=60/\r.2.length<=60)/\m<=1000/\TabOk H T lp lq/\∀(w:Bool) (es:List Ent) (p D:pE) (H':Hp),Cpl k l ns (m+1) [] (fEs rs rs.length) w es->BG k l ns es->SamT T H H'->TabOk H' T lp lq->H' p=tI (.tup [.bl w,.ref D])->EnsM K H' D es->Q (.ref p) H'
theorem gu:sQz 3 ["order","pacts","rounds","kept","fresh","turn","slim","lacking"] wb:=by nofun
theorem Z0{f CO CR CW TB:pE}(B:Bt mg)(TM:TMc mg)(F:("completed"^^^wb))(nI:(1<<<"first_entries") ["pacts"] [] (XW K))(nw:(8<<<"thinned_within") ["order","entries"] [] (Kh K CO CR CW TB))(nQ:(9<<<"unmet_within") ["order","entries"] [] (Kp K CO CR CW))(oK:(5<<<"entry_of") ["entries","overlap"] [] (kn K)):(10&&&["order","pacts","rounds"]) (Kz K CO CR CW TB):=by
 obtain⟨t9,g9⟩:=TM.p
 exists F.ok gu
 ·obtain⟨o,a,k,l,ns,rs,m,rfl,ho,hG,hA,hrl,hin,h60,hm,hTab,q⟩:=h
  refine#[_,(zi (uE (i:=3) gu.nd rfl (Or.inr rfl) (wl zf))
   (zi (zB 4 gu.nd (cl0 nI hr .nil rfl (za (pv 1) zf)))
   (zi (yh PassesOwn.never rfl (yt rfl B.range (za (zx yB (pv 2) ze) zf)) (zy (i:=5) gu.nd rfl (.inl rfl))
    (zi (zB 6 gu.nd (cl0 nw hr .nil rfl (za (pv 0) (za (pv 4) zf))))
    (zi (zM (zA op_isN' (pv 6) yy (zC _))
     (zg (zm (zY (za xO (za (pv 3) zf)))))
     zw)
    (zi (uE (i:=3) gu.nd rfl (Or.inr rfl) (pv 6))
    (zi (zB 7 gu.nd (cl0 nQ hr .nil rfl (za (pv 0) (za (pv 3) zf))))
    (zi (zM (zA op_isN' (pv 7) yy (zC _))
     (zg (zm (zY (za xO (za (pv 3) zf)))))
     zw)
    (zi (zM (zA wf (zG B.len (pv 7)) ze (zC _))
     (zg (zm (zY (za xO (za (pv 3) zf)))))
     zw)
    (zg (zB 4 gu.nd (zx yX (pv 3) (xA (own:=["overlap"]) (caps:=["kept"]) (ix:=[3]) (tt:=wU) (te:=(uu (kn K) [] E0 (zK (yf 1) (zK (yf 0) wn)))) rfl (zL (sc:=zh wb) rfl (by symm) (by symm) (by symm) rfl (by symm) (by symm) rfl) (yJ (z7 U5 (pv 7) yT (yb (yl (v:=.int 8) rfl g9 #[t9,rfl])))) (λ_ _ _ _ _ _=>zy (i:=0) (show List.Nodup [_,_] by decide) rfl (.inl rfl)) (λ_ _ _ _ _ _=>yv) (λ_ _ _ _ _ _=>(cl0 oK hr .nil rfl (za (pv 1) (za (pv 0) zf)))))))))))))))
   (zg (zm (zY (za xO (za (pv 3) zf)))))))),?_]
  have s16:=z6;have s16:=z6;have hTt:=hTab;obtain⟨tp,htp,_⟩:=hTt;refine zj (λσ H'=>Same H H'/\∃Dk:pE,H' Dk=tI (.lst [])/\σ=[!!o,!!a,-~~~m,!!Dk,tJ,tJ,tJ,tJ]) ?_ ?_
  ·ac_rfl;exact#[⋯,λp hp=>#[zd hp,zc]]
  rintro σ H1 ⟨s1,Dk0,hDk0,rfl⟩:_
  have hE0:∀e ∈ fEs rs rs.length,EB l e:=λe he=>by
   obtain⟨i,p,hi,hp,rfl⟩:=qX he;have h1:=h60 p (ae hp);have h2:=hin p (ae hp);exact#[h1.1,h1.2,by show ([((i:Int),(0:Int),tK)]:List Stp).length<=600;simp,h2.2.2.1,h2.2.2.2]
  right;refine zj (λσ H'=>∃Df:pE,zdQ K TB H k l ns rs (m+1) (m+1) H' Dk0 Df/\σ=[!!o,!!a,-~~~m,!!Dk0,!!Df,tJ,tJ,tJ]) ?_ ?_
  ·ac_rfl;exact#[a,rs,rfl,hA.same s1,hrl,λDf H' s' _ hM=>#[Df,#[[],fEs rs rs.length,SamT.of (s1.trans s'),hTab.same (s1.trans s'),#[[],s' _ _ hDk0,rfl],hM.l,by have:=Vc rs rs.length;lia,hE0,#[by simp,λe he=>(nomatch he),λe he=>(nomatch he)],λw es h=>h],rfl]]
  rintro σ H2 ⟨Df0,hC0,rfl⟩:_;right;refine zj (λσ H'=>∃(Dk Df:pE) (v5 v6 v7:Option V),zdQ K TB H k l ns rs (m+1) 0 H' Dk Df/\σ=[!!o,!!a,-~~~m,!!Dk,!!Df,v5,v6,v7]) ?_ ?_
  ·ac_rfl;refine#[⋯,⋯,ForR.by (λi σ H'=>∃(Dk Df:pE) (v5 v6 v7:Option V),zdQ K TB H k l ns rs (m+1) (m+1 - i) H' Dk Df/\σ=[!!o,!!a,-~~~m,!!Dk,!!Df,v5,v6,v7]) #[Dk0,Df0,tJ,tJ,tJ,hC0,rfl] ?_ ?_]
   ·refine nm3 ?_;rintro i σ H' hi ⟨Dk,Df,v5,v6,v7,⟨kept,fresh,sT,hT,hK,hF,hfl,hfE,hB,hcp⟩,rfl⟩:_;have hi':i<m+1:=⋯;have en:m+1 - i=(m+1 - (i+1))+1:=⋯;rw[en]at hcp;have hTt:=hT;obtain⟨tq,htq,_⟩:=hTt;have ho':=ho.samT sT htp;right
    erw[yS,be,bc]
    refine zj (λσ' G=>SamT TB H' G/\TabOk G TB lp lq/\(((vY k l ns 20 fresh tJ\/∃bs,vY k l ns 20 fresh (tI bs)/\qR bs=tK)/\σ'=[!!o,!!a,-~~~m,!!Dk,!!Df,tI (.int (0+(i:Int))),tI (.non),v7])\/∃(bs:List Ent) (D:pE),vY k l ns 20 fresh (tI bs)/\BG k l ns bs/\qR bs=tL/\EnsM K G D bs/\σ'=[!!o,!!a,-~~~m,!!Dk,!!Df,tI (.int (0+(i:Int))),!!D,v7])) ?_ ?_
    ·ac_rfl;exact#[o,Df,k,l,ns,fresh,rfl,ho',hG,hF,hfl,hfE,hT,λbs D G h1 h2 h3 h4 h5 h6=>#[h4,h5,.inr #[bs,h1,h2,h3,D,h6,rfl]],λh G h4 h5=>#[h4,h5,.inl #[h,rfl]]]
    rintro σ' G1 ⟨g1,hT1,hcase⟩:_;have hK1:=hK.samT g1 htq;right;refine zj (λσ' G=>Same G1 G/\∃(bs:List Ent) (D:pE),vY k l ns 20 fresh (tI bs)/\BG k l ns bs/\qR bs=tL/\EnsM K G D bs/\σ'=[!!o,!!a,-~~~m,!!Dk,!!Df,tI (.int (0+(i:Int))),!!D,v7]) ?_ ?_
    ·rcases hcase with ⟨hno,rfl⟩ | ⟨bs,D,h1,h2,h3,h4,rfl⟩
     ·ac_rfl;exact#[⋯,λp hp=>q tL kept p Dk _ (hcp _ _ (.slim hno)) hB (sT.trans (g1.trans (SamT.of (zd hp)))) (hT1.same (zd hp)) zc (hK1.same (zd hp))]
     ·ac_rfl;exact#[Same.refl _,bs,h1,h2,h3,h4]
    rintro σ' G2 ⟨s2,bs,D,hTh,hBb,hbey,hD,rfl⟩:_;right;refine zj (λσ' G=>G=G2/\σ'=[!!o,!!a,-~~~m,!!D,!!Df,tI (.int (0+(i:Int))),!!D,v7]) ?_ ?_
    ·ac_rfl
    rintro σ' G3 ⟨rfl,rfl⟩:_;have sT3:SamT TB H G3:=sT.trans (g1.trans (SamT.of s2));have hT3:=hT1.same s2;have ho3:=ho.samT sT3 htp;obtain⟨b12,b10⟩:=Yp hbey;have hpl:(zb bs).length=bs.length:=by unfold zb;rw[af]
    have hol:=zcM (ps:=zb bs) ⋯ λr hr=>by
     obtain⟨e,he,rfl⟩:=tQ.mp hr;exact (b10 e he).1
    have hnear:∀e ∈ bs,e.2.2.length<=240:=λe he=>by
     have:=jc hTh bs rfl e he;unfold ut at this;lia
    right;refine zj (λσ' G=>Same G3 G/\(((∃t ∈ ovA (zb bs) (zb bs).length,¬ OkG (zb bs) 40 t)/\σ'=[!!o,!!a,-~~~m,!!D,!!Df,tI (.int (0+(i:Int))),!!D,tI (.non)])\/∃L:pE,(∀t ∈ ovA (zb bs) (zb bs).length,OkG (zb bs) 40 t)/\LsA K G L ((unG (zb bs) 40).map d3)/\σ'=[!!o,!!a,-~~~m,!!D,!!Df,tI (.int (0+(i:Int))),!!D,!!L])) ?_ ?_
    ·ac_rfl;exact#[o,D,k,l,ns,bs,rfl,ho3,hG,hD.l,hBb,⋯,hol,λh L G s' hL=>#[s',.inr #[h,L,hL,rfl]],λt ht h G s'=>#[s',.inl #[#[t,ht,h],rfl]]]
    rintro σ' G4 ⟨s4,hcase⟩:_;right;refine zj (λσ' G=>Same G3 G/\∃L:pE,(∀t ∈ ovA (zb bs) (zb bs).length,OkG (zb bs) 40 t)/\LsA K G L ((unG (zb bs) 40).map d3)/\σ'=[!!o,!!a,-~~~m,!!D,!!Df,tI (.int (0+(i:Int))),!!D,!!L]) ?_ ?_
    ·rcases hcase with ⟨⟨t,ht,hno⟩,rfl⟩ | ⟨L,h1,h2,rfl⟩
     ·ac_rfl;exact#[⋯,λp hp=>q tL bs p D _ (hcp _ _ (.far hTh hbey ht hno)) hBb (sT3.trans (SamT.of (s4.trans (zd hp)))) (hT3.same (s4.trans (zd hp))) zc (hD.same (s4.trans (zd hp)))]
     ·ac_rfl;exact#[s4,h1,h2]
    rintro σ' G5 ⟨s5,L,hok,hL,rfl⟩:_;right;refine zj (λσ' G=>G=G5/\unG (zb bs) 40≠[]/\σ'=[!!o,!!a,-~~~m,!!D,!!Df,tI (.int (0+(i:Int))),!!D,!!L]) ?_ ?_
    ·ac_rfl;obtain⟨xs,hX,hI⟩:=id hL;have hxl:=hI.len;rw[af]at hxl;refine#[_,.inl #[_,SqL.of hX,rfl],yM (λh=>#[⋯,λp hp=>q tK bs p D _ (hcp _ _ (.whole hTh hbey hok (Aa.mp ⋯))) hBb (sT3.trans (SamT.of (s5.trans (zd hp)))) (hT3.same (s5.trans (zd hp))) zc (hD.same (s5.trans (zd hp)))]) λh z=>h ?_];rw[z]at hxl;show ((xs.length:Nat):Int)=0;rw[hxl];rfl
    rintro σ' G6 ⟨rfl,hne,rfl⟩:_;right;ac_rfl;obtain⟨xs,hX,hI⟩:=id hL;have hxl:=hI.len;rw[af]at hxl;have hct:zbk xs tJ (tI 8)=xs.take 8:=jG xs (k:=8) ∅;refine#[_,SqL.of hX,λp hp=>?_];rw[hct];have u1:=zd (o:=HO.lst (xs.take 8)) hp;have hS7:(upd G6 p (.lst (xs.take 8))) p=tI (.lst (xs.take 8)):=zc;have hX7:=Iss.same u1 _ _ hI;have hD7:=hD.same (s5.trans u1);refine#[#[_,SqL.of hS7],λE1 hE1=>?_];generalize upd G6 p (.lst (xs.take 8))=G7 at *;refine CompL.by (xs:=xs.take 8) (λj tO H'=>Same G7 H'/\H' E1=tI (.lst tO)/\tO.length<=j/\EnsA K (jB E1 H') (((unG (zb bs) 40).take j).map (jv bs)) tO) #[zd hE1,zc,ak _,rfl] (λj tO H' _ h=>SqL.of (h.1 _ _ hS7)) ?_ ?_
    ·refine nm4 ?_;rintro j x tO H' hx ⟨hs,hH,hal,hEn⟩:_;have hjl:=(tP.mp hx).1;have hj8:j<8:=by rw[aF]at hjl;lia
     rw[dk hj8]at hx;obtain⟨t,pt,ht,rfl,hpt⟩:=hX7.get3 hx;have htm:=(tU.mp (ae ht)).1;right
     erw[wU]
     rfl'
     refine#[xv,D,pt,bs,t,rfl,(hD7.same hs).l,zq hs hpt,htm,hBb.ok ⋯,λe he=>(hBb.e e he).s,λp' s' H5 h1 h2 h3 h4=>?_];have hH5:=h1 _ _ hH;have hsE:s'≠E1:=λz=>by rw[z,hH]at h4;cases h4
     refine#[hH5,⋯,CNx.mk hjl #[zD (hs.trans h1) hE1,zc,by rw[ah];erw[ay,aT];lia,?_]];rw[zO ht,au];exact (hEn.same ((wL h1).trans xD)).snoc ((EnA.new (e:=jv bs t) hH5 h2 h3 hsE).same xD)
    ·rintro tO H' ⟨hs,hH,hal,hEn⟩
     have hEn':EnsA K H' (((unG (zb bs) 40).take 8).map (jv bs)) tO:=by
      have h1:=hEn.same wq;rw[aF,hxl]at h1
      have e:(unG (zb bs) 40).take (min 8 (unG (zb bs) 40).length)=(unG (zb bs) 40).take 8:=by
       rw[<- fq,aP]
      rw[e]at h1;exact h1
     have hal8:tO.length<=8:=by rw[aF]at hal;lia
     obtain⟨xk,hxk,hek⟩:=hD7.same hs;have hkl:=hek.len;refine#[E1,rfl,xk,hxk,tO,hH,⋯,λp2 hp2=>#[D,p2,#[bs,_,sT3.trans (SamT.of (s5.trans (u1.trans (hs.trans (zd hp2))))),hT3.same (s5.trans (u1.trans (hs.trans (zd hp2)))),#[xk,zd hp2 _ _ hxk,hek.same (zd hp2)],#[xk ++ tO,SqL.of zc,(hEn'.same (zd hp2)).app (hek.same (zd hp2))],?_,λe he=>?_,hBb,λw es h=>hcp w es (.more hTh hbey hok hne h)],rfl,rfl]]
     ·rw[ah,af,aF];lia
     ·rcases tS.mp he with he | he
      ·exact hBb.e e he
      ·obtain⟨t,ht,rfl⟩:=tQ.mp he;exact V5 hBb hbey hnear (tU.mp (bF ht)).1
   ·rintro σ H' ⟨Dk,Df,v5,v6,v7,hC,rfl⟩;rw[show ((m:Int)+1).toNat=m+1 by lia,Nat.sub_self]at hC;exact#[Dk,Df,hC,_,_,_,rfl]
  rintro σ H3 ⟨Dk,Df,v5,v6,v7,⟨kept,fresh,sT,hT,hK,hF,hfl,hfE,hB,hcp⟩,rfl⟩:_;right;ac_rfl;exact#[⋯,λp hp=>q tL kept p Dk _ (hcp _ _ (.out kept fresh)) hB (sT.trans (SamT.of (zd hp))) (hT.same (zd hp)) zc (hK.same (zd hp))]
theorem ThinL.pairs{l:()}{zs bs:List Ent}(h:ThinL k l ns zs)(hp:zb bs=zb zs)(hE:∀e ∈ bs,EB l e):ThinL k l ns bs:=by
 have key:∀(i:Nat) (a:Ent),bs[i]? = tI a->∃z,zs[i]? = tI z/\z.1=a.1/\z.2.1=a.2.1:=λi a ha=>by
  have h1:(zb bs)[i]? = tI (a.1,a.2.1):=by unfold zb;rw[aA,ha];rfl
  rw[hp]at h1;unfold zb at h1;rw[aA]at h1;obtain⟨z,hz,e⟩:=tW.mp h1;exact#[z,hz,(Prod.ext_iff.mp e).1,(Prod.ext_iff.mp e).2]
 refine#[#[hE,λe he=>?_],λi j a b ha hb hij=>?_,λi j a b ha hb hij=>?_,λi j a b ha hb=>?_]
 ·obtain⟨i,hi⟩:=Ah.mp he;obtain⟨z,hz,e1,e2⟩:=key i e hi;rw[<- e1,<- e2];exact h.rl.lt z (ae hz)
 all_goals
  obtain⟨x,hx,e1,e2⟩:=key i a ha;obtain⟨y,hy,f1,f2⟩:=key j b hb;rw[<- f1]
 ·rw[<- e1];exact h.up i j x y hx hy hij
 ·rw[<- e1];exact h.no1 i j x y hx hy hij
 ·rw[<- e2];exact h.no2 i j x y hx hy
theorem kr{w:()}{i:Nat}{q:Int}{f:Bool}{r:zp}(hr:ps[i]? = tI r)(h:zt w q (sdl r f).1=tK):yn ps w ((i:Int),q,f)=tI (yH w q (sdl r f).1 (sdl r f).2):=by
 have hi:=(tP.mp hr).1
 have e:ps.getD ((i:Int),q,f).1.toNat ([],[])=r:=by
  show ps.getD ((i:Int)).toNat ([],[])=r;rw[aZ,ac,hr];rfl
 rw[yQ (show 0<=((i:Int),q,f).1/\((i:Int),q,f).1<ps.length by constructor <;> simp <;> lia),e,if_pos h]
theorem QM{n:Nat}(h:e ∈ fEs rs n):EOk rs e:=by
 obtain⟨i,p,hi,hp,rfl⟩:=qX h;show ya rs p.1 [((i:Int),(0:Int),tK)]=tI p.2
 have hs:zt p.1 0 (sdl p tK).1=tK:=by
  show zt p.1 0 p.1=tK;refine decide_eq_true #[⋯,⋯,?_];show (p.1.drop 0).take p.1.length=p.1;rw[dZ,aP]
 erw[ya,kr hp hs,bY]
 show tI (yH p.1 0 p.1 p.2)=tI p.2;congr 1;unfold yH;show p.1.take 0 ++ p.2 ++ p.1.drop (0+p.1.length)=p.2;rw[bD,aU,bi ⋯,aG]
theorem K6(hb:∀e ∈ bs,EOk rs e){t:N3}(ht:t ∈ ovA (zb bs) (zb bs).length):EOk rs (jv bs t):=by
 obtain⟨i1,i2,i3,i4⟩:=uf ht;obtain⟨r,hr⟩:∃r,(zb bs)[t.1]? = tI r:=#[_,aj i1];obtain⟨r2,hr2⟩:∃r,(zb bs)[t.2.1]? = tI r:=#[_,aj i2];have l1:=w8 hr;have l2:=w8 hr2;have d1:(zb bs).getD t.1 ([],[])=r:=by rw[ac,hr];rfl
 have d2:(zb bs).getD t.2.1 ([],[])=r2:=by rw[ac,hr2];rfl
 rw[l1]at i3;rw[l1,l2]at i4;have eA:pkA (zb bs) t=yH (yd r.1 r2.1 t.2.2) 0 r.1 r.2:=by unfold pkA;rw[l1,l2,d1]
 have eB:pkB (zb bs) t=yH (yd r.1 r2.1 t.2.2) (t.2.2:Nat) r2.1 r2.2:=by unfold pkB;rw[l1,l2,d2]
 refine qM hb ?_;show ya (zb bs) (pkA (zb bs) t) [((t.1:Int),(0:Int),tL),((t.2.1:Int),(t.2.2:Int),tK)]=tI (pkB (zb bs) t);obtain⟨b1,b2⟩:=Xj r.2 (uk r.1 r2.1 t.2.2);rw[eA,eB];have h1:=kr (f:=tL) (q:=0) hr (w:=yH (yd r.1 r2.1 t.2.2) 0 r.1 r.2) b1;have h2:=kr (f:=tK) (q:=(t.2.2:Int)) hr2 (w:=yd r.1 r2.1 t.2.2) (vC ⋯ i4)
 have h1':yn (zb bs) (yH (yd r.1 r2.1 t.2.2) 0 r.1 r.2) ((t.1:Int),(0:Int),tL)=tI (yd r.1 r2.1 t.2.2):=by
  rw[h1];congr 1
 have h2':yn (zb bs) (yd r.1 r2.1 t.2.2) ((t.2.1:Int),(t.2.2:Int),tK)=tI (yH (yd r.1 r2.1 t.2.2) (t.2.2:Nat) r2.1 r2.2):=h2
 erw[ya,h1',h2',bY]
theorem Qd{l:()}{es bs zs:List Ent}(h:vY k l ns 20 es (tI bs))(hb:qR bs=tL)(hz:ThinL k l ns zs)(hp:zb bs=zb zs):BG k l ns bs:=by
 obtain⟨b1,_⟩:=Yp hb
 have key:∀e ∈ bs,∃z ∈ zs,z.1=e.1/\z.2.1=e.2.1:=λe he=>by
  have:(e.1,e.2.1) ∈ zb zs:=by rw[<- hp];exact tQ.mpr #[e,he,rfl]
  obtain⟨z,hz,e2⟩:=tQ.mp this;injection e2 with h1 h2;exact#[z,hz,h1,h2]
 refine#[⋯,λe he=>?_,λe he=>?_]
 ·obtain⟨z,hzm,h1,h2⟩:=key e he;have hE:=hz.rl.e z hzm;have hn:=jc h bs rfl e he;unfold ut at hn;exact#[⋯,⋯,⋯,by rw[<- h1];exact hE.ma,by rw[<- h2];exact hE.mb]
 ·obtain⟨z,hzm,h1,h2⟩:=key e he;rw[<- h1,<- h2];exact hz.rl.lt z hzm
def Gd(rs:List zp)(k:Nat)(l:())(ns:List Int)(es:List Ent):Prop:=(∀e ∈ es,EOk rs e)/\(es=[]\/(ThinL k l ns es/\qR es=tL/\BG k l ns es))
theorem YZ{rs:List zp}{l:()}(G:OG l ns k){es bs:List Ent}(h:vY k l ns 20 es (tI bs))(hb:qR bs=tL)(he:∀e ∈ es,EB l e)(ho:∀e ∈ es,EOk rs e):Gd rs k l ns bs:=by
 obtain⟨h1,zs,hz,hp⟩:=Xs (rs:=rs) G h bs rfl he ho;have hB:=Qd h hb hz hp;exact#[h1,.inr #[hz.pairs hp hB.e,hb,hB]]
theorem zb4{rs:List zp}{k n:Nat}{l:()}(G:OG l ns k){kept fresh es:List Ent}{w:Bool}(h:Cpl k l ns n kept fresh w es):(∀e ∈ fresh,EB l e)->(∀e ∈ fresh,EOk rs e)->Gd rs k l ns kept->Gd rs k l ns es:=by
 induction h with
 | out kept fresh=>exact λ_ _ h=>h
 | slim _=>exact λ_ _ h=>h
 | far h hb _ _=>exact λhe ho _=>YZ G h hb he ho
 | whole h hb _ _=>exact λhe ho _=>YZ G h hb he ho
 | @more n kept fresh bs es w h hb ho' hu r ih =>
  intro he ho _;have hg:=YZ (rs:=rs) G h hb he ho
  have hB:BG k l ns bs:=by
   obtain⟨h1,zs,hz,hp⟩:=Xs (rs:=rs) G h bs rfl he ho;exact Qd h hb hz hp
  have hnear:∀e ∈ bs,e.2.2.length<=240:=λe hm=>by
   have:=jc h bs rfl e hm;unfold ut at this;lia
  refine ih (λe hm=>?_) (λe hm=>?_) hg
  ·rcases tS.mp hm with hm | hm
   ·exact hB.e e hm
   ·obtain⟨t,ht,rfl⟩:=tQ.mp hm;exact V5 hB hb hnear (tU.mp (bF ht)).1
  ·rcases tS.mp hm with hm | hm
   ·exact hg.1 e hm
   ·obtain⟨t,ht,rfl⟩:=tQ.mp hm;exact K6 hg.1 (tU.mp (bF ht)).1
theorem Ji{t:N3}(ht:t ∈ ovA ps ps.length):∃r r2,ps[t.1]? = tI r/\ps[t.2.1]? = tI r2/\t.2.2<r.1.length/\xy r.1 r2.1 t.2.2=tK/\pkA ps t=yH (yd r.1 r2.1 t.2.2) 0 r.1 r.2/\pkB ps t=yH (yd r.1 r2.1 t.2.2) (t.2.2:Nat) r2.1 r2.2:=by
 obtain⟨i1,i2,i3,i4⟩:=uf ht;obtain⟨r,hr⟩:∃r,ps[t.1]? = tI r:=#[_,aj i1];obtain⟨r2,hr2⟩:∃r,ps[t.2.1]? = tI r:=#[_,aj i2];have l1:=w8 hr;have l2:=w8 hr2;have d1:ps.getD t.1 ([],[])=r:=by rw[ac,hr];rfl
 have d2:ps.getD t.2.1 ([],[])=r2:=by rw[ac,hr2];rfl
 rw[l1]at i3;rw[l1,l2]at i4;exact#[r,r2,hr,hr2,i3,i4,by unfold pkA;rw[l1,l2,d1],by unfold pkB;rw[l1,l2,d2]]
def Rw(ps:List zp)(u v:()):Prop:=∃p,p ∈ ps/\∃a b,u=a ++ p.1 ++ b/\v=a ++ p.2 ++ b
inductive Rws(ps:List zp):()->()->Prop where
 | nil {u:()}:Rws ps u u
 | cons {u v w:()} (h:Rw ps u v) (h2:Rws ps v w):Rws ps u w
theorem Rw.ctx{u v:()}(h:Rw ps u v)(c d:()):Rw ps (c ++ u ++ d) (c ++ v ++ d):=by
 obtain⟨p,hp,a,b,rfl,rfl⟩:=h;exact#[p,hp,c ++ a,b ++ d,by erw[aK],by erw[aK]]
theorem Rws.ctx{u v:()}(h:Rws ps u v)(c d:()):Rws ps (c ++ u ++ d) (c ++ v ++ d):=by
 induction h with
 | nil=>exact .nil
 | cons s _ ih=>exact .cons (s.ctx c d) ih
section
variable{k:Nat}{l:()}{ws:List Int}{ps:List zp}
noncomputable def mu(k:Nat)(l:())(ws:List Int)(Ws:List (()))(v:()):Nat:=Ws.countP λy=>zI k l ws y v
end
section
variable{k:Nat}{l:()}{ws:List Int}{es fs:List Ent}
end
structure zae(K:pD)(mg:pL->Option pF)(CM:pE):Prop where
 xi:XI K CM
 ini:ag K (.ref CM) "__init__" = tI (tI (.builtin "ValueError.__init__"))
 g:mg "TooMany" = tI (.ref CM)
 most:∃t,mg "MOST_TABLES" = tI (.int 1000 t)
theorem zeZ{n k:Nat}(h1:n<=8)(h2:k<=6):n * k<=48:=fh h1 h2
def Zg:Sp:=λvs H Q _=>∃(l:()) (n:Nat),vs=[.str (tx l),.int (n:Nat)]/\l.length<=6/\n<=8/\Q (.int ((n ^ (n * l.length):Nat):Int)) H
theorem VQ{l:()}{n:Nat}(h1:l.length<=6)(h2:n<=8)(q:Q (.int ((n ^ (n * l.length):Nat):Int)) H):Zg [.str (tx l),.int (n:Nat)] H Q E:=#[l,n,rfl,h1,h2,q]
theorem QS(n i:Nat):((n ^ i:Nat):Int) * (n:Int)=((n ^ (i+1):Nat):Int):=by rw[Nat.pow_succ,Int.natCast_mul]
theorem io:sQz 2 ["letters","rooms","count","cell"] wd:=by nofun
theorem jr(B:Bt mg)(F:("table_count"^^^wd)) :(1&&&["letters","rooms"]) Zg:=by
 exists F.ok io
 ·obtain⟨l,n,rfl,h1,h2,q⟩:=h
  refine#[_,(zJ (zB 2 io.nd ze)
   (zJ (yh PassesOwn.never rfl (yt rfl B.range (za (zx Xd (pv 1) (zG B.len (pv 0))) zf)) (zy (i:=3) io.nd rfl (.inl rfl))
    (zg (zB 2 io.nd (zx Xd (pv 2) (pv 1)))))
   (zg (zm (pv 2))))),?_]
  have s16:=z6
  rfl'
  have hm:=zeZ h2 h1;have em:((n:Int) * (l.length:Int))=((n * l.length:Nat):Int):=by rw[Int.natCast_mul]
  refine#[⋯,.inl #[⋯,⋯],?_];rw[em];refine#[⋯,⋯,ForR.by (λi σ H'=>H'=H/\∃v3,σ=[~~~l,-~~~n,tI (.int ((n ^ i:Nat):Int)),v3]) #[rfl,_,rfl] ?_ ?_]
  ·refine nm3 ?_;rintro i σ H' hi ⟨rfl,v3,rfl⟩:_;right
   rfl'
   exact#[.inr #[⋯,⋯],QS n i]
  ·rintro σ H' ⟨rfl,v3,rfl⟩
   rfl'
   rw[aZ];exact q
def jk:Sp:=λvs H Q _=>∃(l:()) (n:Nat),vs=[.str (tx l),.int (n:Nat)]/\l.length<=6/\n<=8/\Q (.bl (decide (n ^ (n * l.length)<=1000))) H
theorem Ww{l:()}{n:Nat}(h1:l.length<=6)(h2:n<=8)(q:Q (.bl (decide (n ^ (n * l.length)<=1000))) H):jk [.str (tx l),.int (n:Nat)] H Q E:=#[l,n,rfl,h1,h2,q]
theorem QT(a:Nat):decide ((a:Int)<=1000)=decide (a<=1000):=by
 by_cases h:a<=1000
 ·rw[decide_eq_true h,decide_eq_true ⋯]
 ·rw[decide_eq_false h,decide_eq_false ⋯]
theorem uT:sQz 2 ["letters","rooms"] xo:=by nofun
theorem uU{f CM:pE}(B:Bt mg)(TM:zae K mg CM)(F:("tables_within"^^^xo))(nW:(1<<<"table_count") ["letters","rooms"] [] Zg):(2&&&["letters","rooms"]) jk:=by
 obtain⟨t9,g9⟩:=TM.most
 exists F.ok uT
 ·obtain⟨l,n,rfl,h1,h2,q⟩:=h;refine#[_,(zg (zm (yK ve (cl0 nW hr .nil rfl (za (pv 0) (za (pv 1) zf))) (yl (v:=.int 1000) rfl g9 #[t9,rfl]) (zC _)))),?_];have s16:=z6
  rfl'
  refine VQ h1 h2 ?_
  rfl'
  rw[QT];exact q
structure TMj(mg:pL->Option pF):Prop where
 u:∃t,mg "MOST_USES_judging" = tI (.int 40 t)
 s:∃t,mg "MOST_STEPS_judging" = tI (.int 2000 t)
def zc6(K:pD):Sp:=λvs H Q _=>∃(a:pE) (k:Nat) (l:()) (ns:List Int) (bs:List Ent) (w:()),vs=[.ref a,.str (tx w)]/\OG l ns k/\EnsL K H a bs/\BG k l ns bs/\w.length<=60 /\
 (∀(i:Nat) (p S:pE) (H':Hp),EndsAt (zb bs) w i->Same H H'->H' p=tI (.tup [.ref S,.str (tx (wAt (zb bs) w i))])->LsA K H' S ((stS (sAt (zb bs) w i)).map dSt)->Q (.ref p) H')/\((∀i,¬ EndsAt (zb bs) w i)->∀H',Same H H'->Q .non H')
theorem jx:sQz 2 ["entries","word"] wc:=by nofun
theorem ju{f CF:pE}{iL:rZ}(B:Bt mg)(TFx:zbe K mg CF)(TSb:zd7 K CF)(TM:TMj mg)(F:("gone_within"^^^wc))(me:(4>>>"gone") ["rules","word","most"] [] (xL K CF))(DD_gone:(4>>>"gone") ["rules","word","most"] [.int 4000 iL] (xL K CF))(gr:(1<<<"pairs_of") ["entries"] [] (x0 K)):(5&&&["entries","word"]) (zc6 K):=by
 obtain⟨t9,g9⟩:=TM.u
 exists F.ok jx
 ·obtain⟨a,k,l,ns,bs,w,rfl,hG,hA,hB,hw,q1,q2⟩:=h;refine#[_,(zg (Wp (th:=(za4 (tC .non))) #[rfl,rfl] (clX me hr .nil rfl (za (cl0 gr hr .nil rfl (za (pv 0) zf)) (za (pv 1) (za (yl (v:=.int 40) rfl g9 #[t9,rfl]) zf)))) rfl TFx.g TFx.xi.ok (λe=>(zg (zm yy))))),?_];have s16:=z6;have s16:=z6;have hpl:=xQ bs;have hbl:=hB.n
  erw[Vu]
  ac_rfl;exact xT hA.is ⋯ λD H1 _ s1 hL=>uA hL (hB.ne hG) ⋯ hB.le hw (λi p S H' hi s' hp hS _=>q1 i p S H' hi (s1.trans s') hp (by rw[V6]at hS;exact hS)) λhno H' s'=>#[CF,rfl,TSb.s,λx hx=>q2 hno _ ((s1.trans s').trans (zd hx))]
def GwV(K:pD)(ps:List zp)(w:())(H:Hp)(v:V):Prop:=(v=.non/\∀i,¬ EndsAt ps w i)\/∃(i:Nat) (p S:pE),v=.ref p/\EndsAt ps w i/\H p=tI (.tup [.ref S,.str (tx (wAt ps w i))])/\LsA K H S ((stS (sAt ps w i)).map dSt)
theorem GwV.same{w:()}{H H':Hp}{v:V}(h:GwV K ps w H v)(s:Same H H'):GwV K ps w H' v:=by
 rcases h with h | ⟨i,p,S,h1,h2,h3,h4⟩
 ·exact .inl h
 ·exact .inr #[i,p,S,h1,h2,s _ _ h3,h4.same s]
noncomputable abbrev Zd(bs:List Ent)(u v:())(i j:Nat):List Stp:=byL bs (stS (sAt (zb bs) u i) ++ yI (stS (sAt (zb bs) v j)))
def NoR(bs:List Ent)(b:Bool)(u v:()):Prop:=(∀i,¬ EndsAt (zb bs) u i)\/(∀j,¬ EndsAt (zb bs) v j)\/∃i j,EndsAt (zb bs) u i/\EndsAt (zb bs) v j/\((wAt (zb bs) u i≠wAt (zb bs) v j/\b=tL)\/(wAt (zb bs) u i=wAt (zb bs) v j/\2000<(Zd bs u v i j).length))
def KA(K:pD):Sp:=λvs H Q _=>∃(a:pE) (k:Nat) (l:()) (ns:List Int) (bs:List Ent) (b:Bool) (u v:()),vs=[.bl b,.ref a,.str (tx u),.str (tx v)]/\OG l ns k/\EnsL K H a bs/\BG k l ns bs/\u.length<=60/\v.length<=60/\(NoR bs b u v->∀H',Same H H'->Q .non H') /\
 (∀(i j:Nat) (p:pE) (H':Hp),b=tK->EndsAt (zb bs) u i->EndsAt (zb bs) v j->wAt (zb bs) u i≠wAt (zb bs) v j->Same H H'->H' p=tI (.tup [.str "forms",.ref a,.str (tx (wAt (zb bs) u i)),.str (tx (wAt (zb bs) v j))])->Q (.ref p) H') /\
 ∀(i j:Nat) (p S:pE) (H':Hp),EndsAt (zb bs) u i->EndsAt (zb bs) v j->wAt (zb bs) u i=wAt (zb bs) v j->Same H H'->H' p=tI (.tup [.str "alike",.ref S])->LsA K H' S ((Zd bs u v i j).map dSt)->(Zd bs u v i j).length<=2000->Q (.ref p) H'
theorem gA:sQz 4 ["whole","kept","one","other","ahead","behind","steps"] yP:=by nofun
theorem vX(B:Bt mg)(TM:TMj mg)(F:("judged_by_roads"^^^yP))(mz:(5<<<"gone_within") ["entries","word"] [] (zc6 K))(im:(2<<<"by_pacts") ["entries","steps"] [] (Uw K))(lD:(1<<<"back") ["steps"] [] (uC K)):(6&&&["whole","kept","one","other"]) (KA K):=by
 obtain⟨t9,g9⟩:=TM.s
 exists F.ok gA
 ·obtain⟨a,k,l,ns,bs,b,u,v,rfl,hG,hA,hB,hu,hv,q1,q3,q2⟩:=h
  refine#[_,(zi (zB 4 gA.nd (cl0 mz hr .nil rfl (za (pv 1) (za (pv 2) zf))))
   (zi (zB 5 gA.nd (cl0 mz hr .nil rfl (za (pv 1) (za (pv 3) zf))))
   (zi (zM (PW.pt (uh (zA op_isN' (pv 4) yy (zC _)) (vS (zA op_isN' (pv 5) yy (zC _)))))
    (zg (zm yy))
    zw)
   (zi (zM (zA Yr (zl ix_tup (pv 4) ze) (zl ix_tup (pv 5) ze) (zC _))
    (zg (zm (vD (xg (pv 0) (λ_=>rfl)) (zY (za zX (za (pv 1) (za (zl ix_tup (pv 4) ze) (za (zl ix_tup (pv 5) ze) zf))))) yy)))
    zw)
   (zi (zB 6 gA.nd (cl0 im hr .nil rfl (za (pv 1) (za (zx Wc (zl ix_tup (pv 4) ze) (cl0 lD hr .nil rfl (za (zl ix_tup (pv 5) ze) zf))) zf))))
   (zg (zm (vD (zA ve (zG B.len (pv 6)) (yl (v:=.int 2000) rfl g9 #[t9,rfl]) (zC _)) (zY (za zX (za (pv 6) zf))) yy)))))))),?_]
  have s16:=z6;have s16:=z6;have hbl:=hB.n;have hpl:=xQ bs;have hst:∀e ∈ bs,e.2.2.length<=600:=λe he=>(hB.e e he).s;refine zj (λσ H'=>Same H H'/\∃v4,GwV K (zb bs) u H' v4/\σ=[tI (.bl b),!!a,~~~u,~~~v,tI (v4),tJ,tJ]) ?_ ?_
  ·rfl'
   exact#[a,k,l,ns,bs,u,rfl,hG,hA,hB,hu,λi p S H' h1 s' h2 h3=>#[s',.inr #[i,p,S,rfl,h1,h2,h3]],λhno H' s'=>#[s',.inl #[rfl,hno]]]
  rintro σ H1 ⟨s1,v4,hv4,rfl⟩:_;right;refine zj (λσ H'=>Same H1 H'/\∃v5,GwV K (zb bs) v H' v5/\σ=[tI (.bl b),!!a,~~~u,~~~v,tI (v4),tI (v5),tJ]) ?_ ?_
  ·rfl'
   exact#[a,k,l,ns,bs,v,rfl,hG,hA.same s1,hB,hv,λi p S H' h1 s' h2 h3=>#[s',.inr #[i,p,S,rfl,h1,h2,h3]],λhno H' s'=>#[s',.inl #[rfl,hno]]]
  rintro σ H2 ⟨s2,v5,hv5,rfl⟩:_;have s12:=s1.trans s2;have hv4':=hv4.same s2;right;refine zj (λσ H'=>H'=H2/\v4≠.non/\v5≠.non/\σ=[tI (.bl b),!!a,~~~u,~~~v,tI (v4),tI (v5),tJ]) ?_ ?_
  ·rfl'
   refine yM (λh=>?_) λh=>yM (λh'=>?_) λh'=>#[h,h']
   ·rcases hv4' with ⟨_,hno⟩ | ⟨i,p,S,e,_⟩
    ·exact q1 (.inl hno) _ s12
    ·rw[e]at h;cases h
   ·rcases hv5 with ⟨_,hno⟩ | ⟨i,p,S,e,_⟩
    ·exact q1 (.inr (.inl hno)) _ s12
    ·rw[e]at h';cases h'
  rintro σ H3 ⟨rfl,n4,n5,rfl⟩:_;obtain⟨i,p1,S1,rfl,hi,hp1,hS1⟩:=hv4'.resolve_left λz=>n4 z.1;obtain⟨j,p2,S2,rfl,hj,hp2,hS2⟩:=hv5.resolve_left λz=>n5 z.1;right;refine zj (λσ H'=>H'=H3/\wAt (zb bs) u i=wAt (zb bs) v j/\σ=[tI (.bl b),!!a,~~~u,~~~v,!!p1,!!p2,tJ]) ?_ ?_
  ·rfl'
   refine#[_,SqT.of hp1,_,rfl,_,SqT.of hp2,_,rfl,rfl,yM (λh=>yM (λhb'=>#[_,SqT.of hp1,_,rfl,_,SqT.of hp2,_,rfl,⋯,λp hp=>q3 i j p _ hb' hi hj (λz=>h (by rw[z])) (s12.trans (zd hp)) zc]) λhb'=>q1 (.inr (.inr #[i,j,hi,hj,.inl #[λz=>h (by rw[z]),by simpa using hb']])) _ s12) λh=>?_];have:=Classical.not_not.mp h;injection this with this;exact uL this
  rintro σ H4 ⟨rfl,he,rfl⟩:_;have him:=hi.most;have hjm:=hj.most;have hl1:(stS (sAt (zb bs) u i)).length=i:=by rw[um,vq]
  have hl2:(stS (sAt (zb bs) v j)).length=j:=by rw[um,vq]
  right;refine zj (λσ H'=>Same H4 H'/\∃S:pE,LsA K H' S ((Zd bs u v i j).map dSt)/\σ=[tI (.bl b),!!a,~~~u,~~~v,!!p1,!!p2,!!S]) ?_ ?_
  ·rfl'
   refine#[_,SqT.of hp1,_,rfl,_,SqT.of hp2,_,rfl,qg hS2.is ⋯ λB1 G1 _ t1 hB1=>?_];obtain⟨c1,hc1,ic1⟩:=hS1.same t1;obtain⟨c2,hc2,ic2⟩:=id hB1;have n1:=ic1.len;have n2:=ic2.len;rw[af]at n1 n2;rw[yg]at n2;refine#[S1,rfl,B1,rfl,c1,hc1,c2,hc2,⋯,λp hp=>?_];have sp:=zd (o:=.lst (c1 ++ c2)) hp;refine Wf (Is.same (s12.trans (t1.trans sp)) _ _ hA.is) (LsA.is #[_,zc,by rw[au];exact Iss.append (Iss.same sp _ _ ic1) (Iss.same sp _ _ ic2)]) (by rw[ah,yg];lia) hst (λx hx=>?_) λD H' _ s' hL=>#[t1.trans (sp.trans s'),D,hL,rfl];rw[<- hpl];rcases tS.mp hx with h | h
   ·exact jM hi.live x h
   ·exact Yw (jM hj.live) x h
  rintro σ H5 ⟨s5,S,hS,rfl⟩:_;obtain⟨xs,hX,hI⟩:=id hS;have hxl:=hI.len;rw[af]at hxl;right
  rfl'
  exact#[_,.inl #[_,SqL.of hX,rfl],yM (λhn=>#[⋯,λp hp=>q2 i j p S _ hi hj he ((s12.trans s5).trans (zd hp)) zc (hS.same (zd hp)) ⋯]) λhn=>q1 (.inr (.inr #[i,j,hi,hj,.inr #[he,⋯]])) _ (s12.trans s5)]
theorem Vl(hE:∀e ∈ bs,EOk rs e){u v:()}{i j:Nat}(hi:EndsAt (zb bs) u i)(hj:EndsAt (zb bs) v j)(he:wAt (zb bs) u i=wAt (zb bs) v j):ya rs u (Zd bs u v i j)=tI v:=by
 refine qM hE ?_;rw[xz,vK hi.live,he];exact wu (vK hj.live)
theorem zby{l:()}(h:∀p ∈ rs,p.1.length<=60/\p.2.length<=60/\(∀c ∈ p.1,c ∈ l)/\∀c ∈ p.2,c ∈ l):∀e ∈ fEs rs rs.length,EB l e:=λe he=>by
 obtain⟨i,p,hi,hp,rfl⟩:=qX he;obtain⟨g1,g2,g3,g4⟩:=h p (ae hp);exact#[g1,g2,by show ([((i:Int),(0:Int),tK)]:List Stp).length<=600;simp,g3,g4]
def k7:Sp:=λ_ _ _ _=>False
inductive JOut(K:pD)(H:Hp)(k:Nat)(l:())(ns:List Int)(rs:List zp)(u v:())(r:Nat)(p:pE):Prop where
 | alike (w:Bool) (es:List Ent) (i j:Nat) (S:pE) (hc:Cpl k l ns (r+1) [] (fEs rs rs.length) w es) (hb:BG k l ns es) (hi:EndsAt (zb es) u i) (hj:EndsAt (zb es) v j) (he:wAt (zb es) u i=wAt (zb es) v j) (hl:(Zd es u v i j).length<=2000) (hp:H p=tI (.tup [.str "alike",.ref S])) (hS:LsA K H S ((Zd es u v i j).map dSt))
 | forms (es:List Ent) (i j:Nat) (D:pE) (hc:Cpl k l ns (r+1) [] (fEs rs rs.length) tK es) (hb:BG k l ns es) (hi:EndsAt (zb es) u i) (hj:EndsAt (zb es) v j) (hn:wAt (zb es) u i≠wAt (zb es) v j) (hp:H p=tI (.tup [.str "forms",.ref D,.str (tx (wAt (zb es) u i)),.str (tx (wAt (zb es) v j))])) (hD:EnsM K H D es)
def zcc(K:pD)(CO CR CW TB:pE):Sp:=λvs H Q _=>∃(o a:pE) (k:Nat) (l:()) (ns:List Int) (rs:List zp) (u v:()) (r m:Nat),vs=[.ref o,.ref a,.str (tx u),.str (tx v),.int (r:Nat),.int (m:Nat)]/\OrdAt CO CR CW H o k l ns/\OG l ns k/\LsA K H a (rs.map dR)/\rs.length<=20/\(∀p ∈ rs,p.1.length<=60/\p.2.length<=60/\(∀c ∈ p.1,c ∈ l)/\∀c ∈ p.2,c ∈ l)/\u.length<=60/\v.length<=60/\(∀c ∈ u,c ∈ l)/\(∀c ∈ v,c ∈ l)/\r<=1000/\m<=8/\m ^ (m * l.length)<=1000/\TabOk H TB lp lq/\(∀w es,Cpl k l ns (r+1) [] (fEs rs rs.length) w es->BG k l ns es->¬ NoR es w u v) /\
 ∀(p:pE) (H':Hp),SamT TB H H'->TabOk H' TB lp lq->JOut K H' k l ns rs u v r p->Q (.ref p) H'
def JrV(K:pD)(H:Hp)(es:List Ent)(w:Bool)(u v:())(D:pE)(x:V):Prop:=(x=.non/\NoR es w u v)\/∃p:pE,x=.ref p/\((∃i j,w=tK/\EndsAt (zb es) u i/\EndsAt (zb es) v j/\wAt (zb es) u i≠wAt (zb es) v j/\H p=tI (.tup [.str "forms",.ref D,.str (tx (wAt (zb es) u i)),.str (tx (wAt (zb es) v j))]))\/∃i j S,EndsAt (zb es) u i/\EndsAt (zb es) v j/\wAt (zb es) u i=wAt (zb es) v j/\(Zd es u v i j).length<=2000/\H p=tI (.tup [.str "alike",.ref S])/\LsA K H S ((Zd es u v i j).map dSt))
theorem vA(B:Bt mg)(F:("judged_by_worlds"^^^xx)):(1&&&["letters","pacts","one","other","most"]) k7:=#[λ_ _ _ _ h=>h.elim,λ_ _ _ _ _ _ _ _ _ _ _ _ _ h=>h.elim]
theorem mI:sQz 6 ["order","pacts","one","other","rounds","most","outcome","answer"] k8:=by nofun
theorem Uy{f CO CR CW TB CM:pE}(B:Bt mg)(TO:TOrd K mg CO CR CW)(TM:zae K mg CM)(F:("judged"^^^k8))(oE:(10<<<"completed") ["order","pacts","rounds"] [] (Kz K CO CR CW TB))(ng:(6<<<"judged_by_roads") ["whole","kept","one","other"] [] (KA K))(nJ:(2<<<"tables_within") ["letters","rooms"] [] jk)(mJ:(1<<<"judged_by_worlds") ["letters","pacts","one","other","most"] [] k7):(11|||["order","pacts","one","other","rounds","most"]) (zcc K CO CR CW TB):=by
 exists Fun.okX F mI,0
 ·obtain⟨o,a,k,l,ns,rs,u,v,r,m,rfl,ho,hG,hA,hrl,hrs,hul,hvl,hu,hv,hr',hm8,hm,hTab,hTl,q⟩:=h
  refine#[_,(zi (zM (ye (xg (cl0 nJ hr .nil rfl (za (jC (pv 0) rfl) (za (pv 5) zf))) (λ_=>rfl)))
    (zg (yu hx rfl TM.xi.toXC TM.ini rfl TM.g (za zX zf)))
    zw)
   (zi (zB 6 mI.nd (cl0 oE hr .nil rfl (za (pv 0) (za (pv 1) (za (pv 4) zf)))))
   (zi (zB 7 mI.nd (cl0 ng hr .nil rfl (za (zl ix_tup (pv 6) ze) (za (zl ix_tup (pv 6) ze) (za (pv 2) (za (pv 3) zf))))))
   (zi (zM (zA op_isN' (pv 7) yy (zC _))
    (zg (zm (cl0 mJ hr .nil rfl (za (jC (pv 0) rfl) (za (pv 1) (za (pv 2) (za (pv 3) (za (pv 5) zf))))))))
    zw)
   (zg (zm (pv 7))))))),?_]
  have s16:=z6;have s16:=z6;obtain⟨l1,l6,lsm,lnd⟩:=of_decide_eq_true hG.g;obtain⟨C,dy,fs,hf,ho1,_,hlk⟩:=ho.fam
  have hC:Cls K C/\NoAttr K C "letters":=by
   rcases hf with rfl | rfl | rfl
   ·exact#[TO.cO,TO.lO]
   ·exact#[TO.cR,TO.lR]
   ·exact#[TO.cW,TO.lW]
  refine zj (λσ H'=>H'=H/\σ=[!!o,!!a,~~~u,~~~v,-~~~r,-~~~m,tJ,tJ]) ?_ ?_
  ·rfl'
   refine#[_,_,_,ho1,hC.1,hC.2,_,hlk,Ww l6 hm8 ?_];rw[decide_eq_true hm];exact#[tK,rfl,YG rfl]
  rintro σ H1 ⟨rfl,rfl⟩:_;right;refine zj (λσ H'=>SamT TB H1 H'/\TabOk H' TB lp lq/\∃(w:Bool) (es:List Ent) (p D:pE),Cpl k l ns (r+1) [] (fEs rs rs.length) w es/\BG k l ns es/\H' p=tI (.tup [.bl w,.ref D])/\EnsM K H' D es/\σ=[!!o,!!a,~~~u,~~~v,-~~~r,-~~~m,!!p,tJ]) ?_ ?_
  ·rfl'
   exact#[o,a,k,l,ns,rs,r,rfl,ho,hG,hA,hrl,λp hp=>#[by have:=hrs p hp;lia,by have:=hrs p hp;lia,(hrs p hp).2.2],λp hp=>#[(hrs p hp).1,(hrs p hp).2.1],hr',hTab,λw es p D H' h1 h2 h3 h3' h4 h5=>#[h3,h3',w,es,h1,h2,p,D,h4,h5,rfl]]
  rintro σ H2 ⟨s2,hT2,w,es,p,D,hCp,hB,hp,hD,rfl⟩:_;obtain⟨tbl,htb,_⟩:=id hTab;right;refine zj (λσ H'=>Same H2 H'/\∃v7,JrV K H' es w u v D v7/\σ=[!!o,!!a,~~~u,~~~v,-~~~r,-~~~m,!!p,tI (v7)]) ?_ ?_
  ·rfl'
   exact#[_,SqT.of hp,_,rfl,_,SqT.of hp,_,rfl,D,k,l,ns,es,w,u,v,rfl,hG,hD.l,hB,hul,hvl,λhno H' s'=>#[s',.inl #[rfl,hno]],λi j p H' hw hi hj hn s' h1=>#[s',.inr #[p,rfl,.inl #[i,j,hw,hi,hj,hn,h1]]],λi j p S H' hi hj hij s' h1 h2 h3=>#[s',.inr #[p,rfl,.inr #[i,j,S,hi,hj,hij,h3,h1,h2]]]]
  rintro σ H3 ⟨s3,v7,hv7,rfl⟩:_;have sT:=s2.trans (SamT.of s3);have hT3:=hT2.same s3;have hA3:=hA.samT sT htb;right;rcases hv7 with ⟨rfl,hno⟩ | ⟨p',rfl,hv7⟩
  ·exact (hTl w es hCp hB hno).elim
  ·refine zj (λσ H'=>H'=H3/\σ=[!!o,!!a,~~~u,~~~v,-~~~r,-~~~m,!!p,!!p']) ?_ ?_
   ·rfl'
   rintro σ H4 ⟨rfl,rfl⟩:_;right
   rfl'
   refine q p' _ sT hT3 ?_;rcases hv7 with ⟨i,j,rfl,hi,hj,hn,h1⟩ | ⟨i,j,S,hi,hj,he,hl,h1,h2⟩
   ·exact .forms es i j D hCp hB hi hj hn h1 (hD.same s3)
   ·exact .alike w es i j S hCp hB hi hj he hl h1 h2
structure KXs(K:pD):Prop where
 ss:aR K (.type "str") (.type "str")=tI tK
def Vn(K:pD):Sp:=λvs H Q _=>∃(a:pE) (es:List Ent),vs=[.ref a]/\Is K H (.lst (es.map dE)) (.ref a)/\Q (.bl tK) H
theorem nL:sQz 1 ["_law_found","_law_entry"] jl:=by nofun
theorem WR(B:Bt mg)(T:TLs K)(TX:KXs K)(F:("_law_entries"^^^jl))(nR:(2<<<"_law_steps") ["_law_found"] [] (Zi K)):(3&&&["_law_found"]) (Vn K):=by
 exists F.ok nL
 ·obtain⟨a,es,rfl,hA,q⟩:=h
  refine#[_,(zi (zM (ye (xg (yO rfl B.isi (pv 0) rfl B.list PySem.Pv.boot_list) (λ_=>rfl)))
    (zg (zm xO))
    zw)
   (zi (yh PassesOwn.never rfl (yJ (pv 0)) (zy (i:=1) nL.nd rfl (.inl rfl))
    (zi (zM (PW.pt (uh (ye (xg (yO rfl B.isi (pv 1) rfl B.tuple PySem.Pv.boot_tuple) (λ_=>rfl))) (uh (zA Yr (zG B.len (pv 1)) ze (zC _)) (vS (ye (xg (cl0 nR hr .nil rfl (za (zl ix_tup (pv 1) ze) zf)) (λ_=>rfl)))))))
     (zg (zm xO))
     zw)
    (zg (zM (PW.pt (uh (ye (xg (yO rfl B.isi (zl ix_tup (pv 1) ze) rfl B.str PySem.Pv.boot_str) (λ_=>rfl))) (vS (ye (xg (yO rfl B.isi (zl ix_tup (pv 1) ze) rfl B.str PySem.Pv.boot_str) (λ_=>rfl))))))
     (zg (zm xO))
     zw))))
   (zg (zm xO)))),?_]
  have s16:=z6
  erw[Is]at hA
  obtain⟨_,xs,e,hX,hI⟩:=hA;cases e;refine zj (λσ H'=>H'=H/\σ=[!!a,tJ]) ?_ ?_
  ·rfl'
   exact#[_,.inr (.inr (.inl #[_,_,rfl,rfl,hX])),tK,T.ll,YG trivial]
  rintro σ H1 ⟨rfl,rfl⟩:_;right;refine zj (λσ H'=>H'=H1/\∃v1,σ=[!!a,v1]) ?_ ?_
  ·rfl'
   refine#[#[_,hX],ForL.by (xs:=xs) (λi σ H'=>H'=H1/\∃v1,σ=[!!a,v1]) #[rfl,_,rfl] (λi σ H' _ h=>by rw[h.1];exact hX) ?_ λσ H' h=>h];refine nm4 ?_;rintro i x σ H' hx ⟨rfl,v1,rfl⟩:_;obtain⟨e,pe,se,hei,rfl,hqe,hse⟩:=Wm hI hx;right
   erw[yS,be,bc]
   refine zj (λσ H''=>H''=H'/\σ=[!!a,!!pe]) ?_ ?_
   ·rfl'
    exact#[_,.inr (.inr (.inr #[_,_,rfl,rfl,hqe])),tK,T.tt,YG #[_,.inr #[_,hqe,rfl],yM (λh=>absurd rfl h) λ_=>#[_,hqe,_,rfl,se,e.2.2,rfl,hse,tK,rfl,YG rfl]]]
   rintro σ G ⟨rfl,rfl⟩:_;right
   rfl'
   exact#[_,hqe,_,rfl,_,.inl (.str _),tK,TX.ss,YG #[_,hqe,_,rfl,_,.inl (.str _),tK,TX.ss,YG trivial]]
  rintro σ H2 ⟨rfl,v1,rfl⟩:_;right
  rfl'
  exact q
structure TAn(K:pD):Prop where
 tt:aR K (.type "tuple") (.type "tuple")=tI tK
 ss:aR K (.type "str") (.type "str")=tI tK
inductive zeJ(K:pD)(H:Hp)(p:pE):Prop where
 | alike (S:pE) (ss:List Stp) (h:H p=tI (.tup [.str "alike",.ref S])) (hS:LsA K H S (ss.map dSt))
 | forms (D:pE) (es:List Ent) (f g:()) (h:H p=tI (.tup [.str "forms",.ref D,.str (tx f),.str (tx g)])) (hD:EnsM K H D es)
def Uk(K:pD):Sp:=λvs H Q _=>∃(p:pE) (n:Int),vs=[.ref p,.int n]/\zeJ K H p/\∀H',Same H H'->Q (.bl tK) H'
theorem YT(B:Bt mg)(F:("_law_table_ok"^^^jO)):(1&&&["_law_table","_law_many"]) k7:=#[λ_ _ _ _ h=>h.elim,λ_ _ _ _ _ _ _ _ _ _ _ _ _ h=>h.elim]
theorem U0:sQz 2 ["_law_found","_law_many"] kH:=by nofun
theorem V2(B:Bt mg)(T:TAn K)(F:("_law_answer"^^^kH))(nR:(2<<<"_law_steps") ["_law_found"] [] (Zi K))(oM:(1<<<"_law_table_ok") ["_law_table","_law_many"] [] k7)(oO:(3<<<"_law_entries") ["_law_found"] [] (Vn K)):(4&&&["_law_found","_law_many"]) (Uk K):=by
 exists F.ok U0
 ·obtain⟨p,n,rfl,hA,q⟩:=h
  refine#[_,(zi (zM (PW.pt (uh (ye (xg (yO rfl B.isi (pv 0) rfl B.tuple PySem.Pv.boot_tuple) (λ_=>rfl))) (uh (zA zcO (zG B.len (pv 0)) ze (zC _)) (vS (ye (xg (yO rfl B.isi (zl ix_tup (pv 0) ze) rfl B.str PySem.Pv.boot_str) (λ_=>rfl)))))))
    (zg (zm xO))
    zw)
   (zi (zM (zA wf (zl ix_tup (pv 0) ze) zX (zC _))
    (zg (zm (jS (yK wf (zG B.len (pv 0)) ze (zC _)) (jT (cl0 nR hr .nil rfl (za (zl ix_tup (pv 0) ze) zf))))))
    zw)
   (zi (zM (zA wf (zl ix_tup (pv 0) ze) zX (zC _))
    (zi (zM (PW.pt (uh (zA Yr (zG B.len (pv 0)) ze (zC _)) (vS (ye (xg (cl0 oO hr .nil rfl (za (zl ix_tup (pv 0) ze) zf)) (λ_=>rfl))))))
     (zg (zm xO))
     zw)
    (zg (zm (jS (yO rfl B.isi (zl ix_tup (pv 0) ze) rfl B.str PySem.Pv.boot_str) (jT (yO rfl B.isi (zl ix_tup (pv 0) ze) rfl B.str PySem.Pv.boot_str))))))
    zw)
   (zi (zM (zA wf (zl ix_tup (pv 0) ze) zX (zC _))
    (zg (zm (jS (yK wf (zG B.len (pv 0)) ze (zC _)) (jT (cl0 oM hr .nil rfl (za (zl ix_tup (pv 0) ze) (za (pv 1) zf)))))))
    zw)
   (zg (zm (yK (UA (kP hr)) (pv 0) (zY (za zX zf)) (zC _)))))))),?_]
  have s16:=z6;have s16:=z6;refine zj (λσ H'=>H'=H/\σ=[!!p,~~~!n]) ?_ ?_
  ·rfl'
   have key:∀(a:pL) (xs:List V),H p=tI (.tup (.str a::xs))->∃x,TyX K H (.ref p) x/\∃x_1,aR K x (.type "tuple")=tI x_1/\if x_1=tL then Q (.bl tL) H else ∃x,((∃xs,SqL K H p xs/\x=xs.length)\/∃xs,SqT K H p xs/\x=xs.length)/\if (x:Int)<1 then Q (.bl tL) H else ∃xs,SqT K H p xs/\∃v,atI xs 0=tI v/\∃x,TyX K H v x/\∃x_2,aR K x (.type "str")=tI x_2/\if x_2=tL then Q (.bl tL) H else True:=λa xs h =>
    #[_,.inr (.inr (.inr #[_,_,rfl,rfl,SqT.of h])),tK,T.tt,YG #[_,.inr #[_,SqT.of h,rfl],yM (λz=>by rw[ay]at z;lia) λ_=>#[_,SqT.of h,.str a,jf (j:=0) rfl,_,.inl (.str _),tK,T.ss,YG trivial]]]
   cases hA with
   | alike S ss h hS=>exact key _ _ h
   | forms D es f g h hD=>exact key _ _ h
  rintro σ H1 ⟨rfl,rfl⟩:_;have skip:∀{a b:pL} {xs:List V} {A:Prop} {B:Prop},H1 p=tI (.tup (.str a::xs))->a≠b->B->∃xs,SqT K H1 p xs/\∃v,atI xs 0=tI v/\W4 v (.str b)=tK/\if v=.str b then A else B:=λ{a b xs A B} h hne hB=>#[_,SqT.of h,.str a,jf (j:=0) rfl,rfl,yM (λz=>absurd (V.str.inj z) hne) λ_=>hB];right
  cases hA with
  | alike S ss h hS =>
   refine W9 (λ_ _=>False) ?_ λ_ _ h=>h.elim
   rfl'
   exact#[_,SqT.of h,_,rfl,rfl,yM (λ_=>#[_,.inr #[_,SqT.of h,rfl],yM (λ_=>#[_,SqT.of h,_,rfl,S,ss,rfl,hS.is,q _ (Same.refl _)]) λz=>absurd rfl z]) λz=>absurd rfl z]
  | forms D es f g h hD =>
   refine zj (λσ H'=>H'=H1/\σ=[!!p,~~~!n]) ?_ ?_
   ·rfl'
    exact skip h ∅ trivial
   rintro σ H2 ⟨rfl,rfl⟩:_;right;refine W9 (λ_ _=>False) ?_ λ_ _ h=>h.elim
   rfl'
   refine#[_,SqT.of h,_,rfl,rfl,yM (λ_=>?_) λz=>absurd rfl z];refine zj (λσ H'=>H'=H2/\σ=[!!p,~~~!n]) ?_ ?_
   ·rfl'
    exact#[_,.inr #[_,SqT.of h,rfl],yM (λz=>absurd rfl z) λ_=>#[_,SqT.of h,_,rfl,D,es,rfl,hD.l.is,tK,rfl,YG rfl]]
   rintro σ H3 ⟨rfl,rfl⟩:_;right
   rfl'
   exact#[_,SqT.of h,_,rfl,_,.inl (.str _),tK,T.ss,zeE #[_,SqT.of h,_,rfl,_,.inl (.str _),tK,T.ss,q _ (Same.refl _)]]
theorem none_of{w:()}(h:∀p ∈ ps,¬ Within p.1 w):zE w ps=tJ:=by
 cases e:zE w ps with
 | none=>rfl
 | some u =>
  obtain⟨p,h1,h2⟩:=zP e;exact absurd (ZJ h2) (h p (ae h1))
theorem Zz{w:()}(h:zE w ps=tJ):EndsAt ps w 0:=#[λi hi=>absurd hi (cQ i),h,aE _]
theorem ZS(bs:List Ent)(e:Ent):yG bs e 0 0=e:=by
 show (e.1,e.2.1,[] ++ e.2.2 ++ [])=e;rw[aU,aG]
theorem xh{p w:()}(h:Within p w):p.length<=w.length/\(p.length=w.length->p=w):=by
 obtain⟨a,b,rfl⟩:=h
 erw[ah]
 refine#[⋯,λe=>?_];have ha:a=[]:=Aa.mp ⋯;have hb:b=[]:=Aa.mp ⋯;rw[ha,hb,aU,aG]
theorem Zq(rs:List zp):∀n,n<=rs.length->zb (fEs rs n)=rs.take n
 | 0,_=>by simp [fEs,zb]
 | n+1,h=>by
  have ih:=Zq rs n ⋯;have e:rs[n]? = tI (rs[n]'⋯):=aj ⋯;rw[zO e,<- ih]
  erw[fEs,zb,au]
  congr 1;rw[e];rfl
theorem Jq(hs:∀p ∈ ps,p.2.length<p.1.length){w:()}:∀{i:Nat},Y7 ps w i->(wAt ps w i).length+i<=w.length
 | 0,_=>ak _
 | i+1,h=>by
  have ih:=Jq hs (i:=i) λj hj=>h j ⋯
  cases e:zE (wAt ps w i) ps with
  | none=>exact absurd e (h i ⋯)
  | some u =>
   obtain⟨p,h1,h2⟩:=zP e;obtain⟨e1,_⟩:=zW h2;rw[yR e];unfold Zl yH;rw[yo h1];have e2:=congrArg cF e1;have:=hs p (ae h1)
   erw[ah]at e2 ⊢
   lia
theorem u7{w:()}{i:Nat}(h:EndsAt ps w i):goJ ps 40 w=tI i:=by
 cases e:goJ ps 40 w with
 | none=>exact absurd h.end_ (XU e i h.most)
 | some j =>
  obtain⟨_,h2,h3⟩:=Wr e;rw[j6 h2 h3 h.live h.end_]
theorem zap(h:∀t ∈ ovA ps ps.length,∃i j,EndsAt ps (pkA ps t) i/\EndsAt ps (pkB ps t) j/\wAt ps (pkA ps t) i=wAt ps (pkB ps t) j):(∀t ∈ ovA ps ps.length,OkG ps 40 t)/\unG ps 40=[]:=by
 refine#[λt ht=>?_,?_]
 ·obtain⟨i,j,h1,h2,_⟩:=h t ht;exact#[by rw[u7 h1];rfl,by rw[u7 h2];rfl]
 ·unfold unG;refine List.filter_eq_nil_iff.mpr λt ht=>?_;obtain⟨i,j,h1,h2,h3⟩:=h t ht;unfold QO zdf;rw[u7 h1,u7 h2]
  erw[Option.getD_some,h3,decide_true,d8,bB,not_false_eq_true]
theorem Ub(h:∀e ∈ es,e.2.2.length=1):∀{us:List Stp},(∀u ∈ us,u.1.toNat<es.length)->(byL es us).length=us.length
 | [],_=>rfl
 | u::us,hu=>by
  have ih:=Ub h (us:=us) λx hx=>hu x (ao _ hx);unfold byL at ih ⊢;have h0:=hu u az
  have h1:(es.getD u.1.toNat ([],[],[])).2.2.length=1:=by
   rw[ac,aj h0];exact h _ (cI h0)
  rw[cp,ah,ih,ay];unfold Xg;rw[ZE];split
  ·lia
  ·rw[yg];lia
theorem Yy{μ:()->Nat}(hs:∀p ∈ ps,∀a b:(),μ (a ++ p.2 ++ b)<μ (a ++ p.1 ++ b)){w:()}:∀{i:Nat},Y7 ps w i->μ (wAt ps w i)+i<=μ w
 | 0,_=>ak _
 | i+1,h=>by
  have ih:=Yy hs (i:=i) λj hj=>h j ⋯
  cases e:zE (wAt ps w i) ps with
  | none=>exact absurd e (h i ⋯)
  | some u =>
   obtain⟨p,h1,h2⟩:=zP e;obtain⟨e1,_⟩:=zW h2;rw[yR e];unfold Zl yH;rw[yo h1];have:=hs p (ae h1) ((wAt ps w i).take ((u.2:Int)).toNat) ((wAt ps w i).drop (((u.2:Int)).toNat+p.1.length));rw[e1]at this;lia
theorem vH{μ:()->Nat}(hs:∀p ∈ ps,∀a b:(),μ (a ++ p.2 ++ b)<μ (a ++ p.1 ++ b)){w:()}(hw:μ w<=40):∃i,EndsAt ps w i/\i<=μ w:=by
 rcases Qo ps w with ⟨i,h⟩ | ⟨h1,h2⟩
 ·have:=Yy hs h.live;exact#[i,h,⋯]
 ·have:=Yy hs (w:=w) (i:=41) λi hi=>by
   by_cases e:i=40
   ·rw[e];exact h2
   ·exact h1 i ⋯
  lia
noncomputable def inv(bf:Nat->Nat->Bool):()->Nat
 | []=>0
 | x::w=>w.countP (bf · x)+inv bf w
theorem X1{bf:Nat->Nat->Bool}{a b:Nat}(h1:bf b a=tK)(h2:bf a b=tL)(v:()):∀u:(),inv bf (u ++ [a,b] ++ v)=inv bf (u ++ [b,a] ++ v)+1
 | []=>by
  erw[aU,aY,inv,List.countP_cons,h1,h2]
  simp;lia
 | x::u=>by
  have ih:=X1 h1 h2 v u
  erw[aY,inv,fP,List.countP_cons,List.countP_nil]at ih ⊢
  lia
theorem V1{bf:Nat->Nat->Bool}(p v:()):∀u:(),inv bf (u ++ v)<=inv bf (u ++ p ++ v)
 | []=>by
  rw[aU,aU]
  induction p with
  | nil=>exact ak _
  | cons x p ih =>
   erw[aY,inv]
   lia
 | x::u=>by
  have ih:=V1 (bf:=bf) p v u
  erw[aY,inv,fP]at ih ⊢
  lia
noncomputable def K0:Nat->Nat
 | 0=>0
 | n+1=>K0 n+n
theorem VD{bf:Nat->Nat->Bool}:∀w:(),inv bf w<=K0 w.length
 | []=>ak _
 | x::w=>by
  have ih:=VD (bf:=bf) w;have:=List.countP_le_length (p:=(bf · x)) (l:=w)
  erw[inv,ay,K0]
  lia
theorem Y2{bf:Nat->Nat->Bool}{w:()}(h:w.length<=7):inv bf w+w.length<=28:=by
 have h1:=VD (bf:=bf) w;have h2:∀n,n<=7->K0 n+n<=28:=∅;have:=h2 w.length h;lia
noncomputable def bfB(k:Nat)(l:())(ns:List Int)(a b:Nat):Bool:=zI k l ns [a,b] [b,a]
theorem YY{k:Nat}{l:()}{ns:List Int}{a b:Nat}(ha:a ∈ l)(hb:b ∈ l):bfB k l ns a b=if k=1 then decide (l.idxOf b<l.idxOf a)else decide (l.idxOf a<l.idxOf b):=by
 have hw:zr k l ns [a,b]=zr k l ns [b,a]:=by
  have e1:=yz (k:=k) (l:=l) (ns:=ns) [a] [b];have e2:=yz (k:=k) (l:=l) (ns:=ns) [b] [a]
  erw[ft]at e1 e2
  lia
 have key:∀i j:Nat,ltI [(i:Int),(j:Int)] [(j:Int),(i:Int)]=decide (i<j):=λi j=>by
  erw[ltI]
  by_cases e:(i:Int)=j
  ·have e':i=j:=⋯;subst e';simp
  ·rw[if_neg e];congr 1;exact propext ⋯
 unfold bfB zI;rw[if_pos hw];unfold uW y0;by_cases hk:k=1
 ·rw[if_pos hk,if_pos hk,if_pos hk];exact key _ _
 ·rw[if_neg hk,if_neg hk,if_neg hk];exact key _ _
noncomputable def lsO(k:Nat)(l:()):():=if k=1 then l.reverse else l
theorem lsO_mem{l:()}{x:Nat}:x ∈ lsO k l ↔ x ∈ l:=by
 unfold lsO;split
 ·exact List.mem_reverse
 ·exact Iff.rfl
theorem Uu{l:()}(h:l.Nodup):(lsO k l).Nodup:=by
 unfold lsO;split
 ·exact (List.reverse_perm l).nodup_iff.mpr h
 ·exact h
theorem zcA{l:()}(h:l.Nodup):(lsO k l).Pairwise λa b=>bfB k l ns b a=tL:=by
 have up:l.Pairwise λa b=>(a ∈ l/\b ∈ l)/\l.idxOf a<l.idxOf b:=by
  rw[eD];intro i j hi hj hij;have e:∀{n:Nat} (hn:n<l.length),l.idxOf l[n]=n:=λ{n} hn=>ky h (tP.mpr #[ba (cI hn),bP _]) (aj hn);rw[e hi,e hj];exact#[#[cI hi,cI hj],hij]
 unfold lsO;by_cases hk:k=1
 ·rw[if_pos hk,List.pairwise_reverse];refine up.imp λ{a b} hab=>?_;rw[YY hab.1.1 hab.1.2,if_pos hk];exact decide_eq_false ⋯
 ·rw[if_neg hk];refine up.imp λ{a b} hab=>?_;rw[YY hab.1.2 hab.1.1,if_neg hk];exact decide_eq_false ⋯
theorem Kd{l:()}{a b:Nat}(ha:a ∈ l)(hb:b ∈ l)(h1:bfB k l ns a b=tL)(h2:bfB k l ns b a=tL):a=b:=by
 rw[YY ha hb]at h1;rw[YY hb ha]at h2
 have e:l.idxOf a=l.idxOf b:=by
  by_cases hk:k=1
  ·rw[if_pos hk,decide_eq_false_iff_not]at h1 h2;lia
  ·rw[if_neg hk,decide_eq_false_iff_not]at h1 h2;lia
 have ga:=bP (ba ha);have gb:=bP (ba hb);rw[<- ga,<- gb]
 erw[e]
theorem zdJ{l:()}{a b c:Nat}(ha:a ∈ l)(hb:b ∈ l)(hc:c ∈ l)(h1:bfB k l ns b a=tL)(h2:bfB k l ns c b=tL):bfB k l ns c a=tL:=by
 rw[YY hb ha]at h1;rw[YY hc hb]at h2;rw[YY hc ha];by_cases hk:k=1
 ·rw[if_pos hk,decide_eq_false_iff_not]at h1 h2 ⊢;lia
 ·rw[if_neg hk,decide_eq_false_iff_not]at h1 h2 ⊢;lia
theorem kd{l:()}{a b:Nat}(h:bfB k l ns a b=tK):bfB k l ns b a=tL:=vt h
def CmR(k:Nat)(l:())(ns:List Int)(pw:Nat->Nat)(p:zp):Prop:=(∃x ∈ l,0<pw x/\p=(al (pw x) x,[]))\/∃a b,(a ∈ l/\b ∈ l)/\bfB k l ns b a=tK/\p=([a,b],[b,a])
def CmD(k:Nat)(l:())(ns:List Int)(pw:Nat->Nat)(p:zp):Prop:=(∃x ∈ l,0<pw x/\p=(al (pw x) x,[]))\/∃a b,(a ∈ l/\b ∈ l)/\(pw a≠1/\pw b≠1)/\bfB k l ns b a=tK/\p=([a,b],[b,a])
theorem CmD.r{l:()}{pw:Nat->Nat}(h:CmD k l ns pw p):CmR k l ns pw p:=by
 rcases h with h | ⟨a,b,h1,_,h2,h3⟩
 ·exact .inl h
 ·exact .inr #[a,b,h1,h2,h3]
theorem CmR.facts{l:()}{pw:Nat->Nat}(hp4:∀x,pw x<=4)(h:CmR k l ns pw p):(1<=p.1.length/\p.1.length<=4/\p.2.length<=2/\p.2.length<=p.1.length)/\(∀c ∈ p.1,c ∈ l)/\(∀c ∈ p.2,c ∈ l)/\p.1≠p.2:=by
 rcases h with ⟨x,hx,h0,rfl⟩ | ⟨a,b,⟨ha,hb⟩,hab,rfl⟩
 ·have:=hp4 x;refine#[by erw[aO,aT];lia,λc hc=>by rw[bp hc];exact hx,λc hc=>(nomatch hc),λe=>?_];have:=congrArg cF e
  erw[aO,aT]at this
  lia
 ·refine#[by erw[ay,aT];lia,λc hc=>?_,λc hc=>?_,λe=>?_]
  ·erw[bC,bS,or_false]at hc
   rcases hc with rfl | rfl
   ·exact ha
   ·exact hb
  ·erw[bC,bS,or_false]at hc
   rcases hc with rfl | rfl
   ·exact hb
   ·exact ha
  ·have e':([a,b]:())=[b,a]:=e;injection e' with e1 _;subst e1;rw[kd hab]at hab;cases hab
noncomputable def muC(k:Nat)(l:())(ns:List Int)(w:()):Nat:=inv (bfB k l ns) w+w.length
theorem CmR.mu{l:()}{pw:Nat->Nat}(h:CmR k l ns pw p)(a b:()):muC k l ns (a ++ p.2 ++ b)<muC k l ns (a ++ p.1 ++ b):=by
 unfold muC;rcases h with ⟨x,hx,h0,rfl⟩ | ⟨c,d,_,hcd,rfl⟩
 ·have:=V1 (bf:=bfB k l ns) (al (pw x) x) b a
  erw[aG,ah,aO]
  lia
 ·have:=X1 hcd (kd hcd) b a
  erw[ah,ay,aT]
  lia
def zej(pw:Nat->Nat)(u v:()):Prop:=∀x,u.count x % pw x=v.count x % pw x
theorem wv(pw:Nat->Nat):zbo (zej pw):=#[λ_ _=>rfl,λh x=>(h x).symm,λh g x=>(h x).trans (g x),λ{u v} a b h x=>by
 rw[cC,cC,cC,cC,e8,e8 (a.count x),h x,<- e8 (a.count x),<- e8]]
theorem CmR.sam{l:()}{pw:Nat->Nat}(h:CmR k l ns pw p):zej pw p.1 p.2:=by
 rcases h with ⟨x,hx,h0,rfl⟩ | ⟨a,b,_,_,rfl⟩
 ·intro y;show (al (pw x) x).count y % pw y=([]:()).count y % pw y;rw[fA,List.count_nil];by_cases e:x=y
  ·subst e;simp
  ·rw[if_neg (by simpa using e)]
 ·intro y;show ([a,b]:()).count y % pw y=([b,a]:()).count y % pw y;rw[(List.Perm.swap b a []).count_eq]
noncomputable def ka(k:Nat)(l:())(pw:Nat->Nat)(w:()):():=(lsO k l).flatMap λx=>al (w.count x % pw x) x
theorem uK{f:Nat->Nat}{x:Nat}:∀{L:()},L.Nodup->(L.flatMap λy=>al (f y) y).count x=if x ∈ L then f x else 0
 | [],_=>rfl
 | y::L,h=>by
  obtain⟨h1,h2⟩:=tX.mp h;rw[cp,cC,uK h2,fA];by_cases e:y=x
  ·subst e;rw[if_neg h1];simp
  ·rw[if_neg (by simpa using e)]
   have:(x ∈ y::L) ↔ x ∈ L:=by
    rw[bC];exact#[λh=>h.resolve_left λz=>e z.symm,.inr]
   erw[this,eK]
theorem zbM{l:()}{ns:List Int}{pw:Nat->Nat}(hl:l.Nodup)(hall:∀p,CmD k l ns pw p->p ∈ ps){e:()}(he:∀c ∈ e,c ∈ l)(hno:∀p ∈ ps,¬ Within p.1 e):e=ka k l pw e:=by
 have kill:∀c ∈ e,pw c≠1:=λc hc h1=>by
  obtain⟨a,b,rfl⟩:=d4 hc;refine hno _ (hall (al (pw c) c,[]) (.inl #[c,he c (by simp),⋯,rfl])) #[a,b,?_];rw[h1];simp
 have srt:∀(u e':()),e=u ++ e'->e'.Pairwise λa b=>bfB k l ns b a=tL:=λu e'=>by
  induction e' generalizing u with
  | nil=>exact λ_=>.nil
  | cons a e' ih =>
   intro hu;have h1:=ih (u ++ [a]) (by rw[hu];simp);refine Ac.mpr #[λy hy=>?_,h1]
   cases e' with
   | nil=>cases hy
   | cons b r =>
    have ma:a ∈ e:=by rw[hu];simp
    have mb:b ∈ e:=by rw[hu];simp
    have hab:bfB k l ns b a=tL:=by
     cases hb:bfB k l ns b a with
     | false=>rfl
     | true=>exact absurd #[u,r,by rw[hu];simp] (hno _ (hall ([a,b],[b,a]) (.inr #[a,b,#[he a ma,he b mb],#[kill a ma,kill b mb],hb,rfl])))
    rcases tR.mp hy with rfl | hy'
    ·exact hab
    ·have my:y ∈ e:=by rw[hu];simp [hy']
     exact zdJ (he a ma) (he b mb) (he y my) hab ((Ac.mp h1).1 y hy')
 have h0:e=(lsO k l).flatMap λx=>al (e.count x) x:=by
  refine List.Perm.eq_of_pairwise (le:=λa b=>bfB k l ns b a=tL) (λa b ha hb h1 h2=>?_) (srt [] e rfl) ?_ ?_
  ·obtain⟨y,hy,hb⟩:=Ai.mp hb;rw[bp hb]at h1 h2 ⊢;exact Kd (he a ha) (lsO_mem.mp hy) h2 h1
  ·rw[List.pairwise_flatMap];refine#[λa _=>List.pairwise_replicate.mpr (.inr yA),(zcA (ns:=ns) hl).imp λ{a b} h x hx y hy=>?_];rw[bp hx,bp hy];exact h
  ·rw[List.perm_iff_count];intro x;rw[uK (Uu hl)];split
   ·rfl
   ·rename_i h;exact Ap.mpr λhx=>h (lsO_mem.mpr (he x hx))
 have few:∀x ∈ lsO k l,e.count x % pw x=e.count x:=λx hx=>by
  by_cases hp:pw x=0
  ·rw[hp,Nat.mod_zero]
  ·refine Nat.mod_eq_of_lt (Nat.lt_of_not_le λhle=>?_);refine hno _ (hall (al (pw x) x,[]) (.inl #[x,lsO_mem.mp hx,⋯,rfl])) ?_;obtain⟨L1,L2,hL⟩:=d4 hx;have e2:al (e.count x) x=al (pw x) x ++ al (e.count x - pw x) x:=by rw[List.replicate_append_replicate];congr 1;lia
   generalize hf:(λy=>al (e.count y) y)=f at h0;have hfx:f x=al (pw x) x ++ al (e.count x - pw x) x:=by rw[<- e2,<- hf]
   generalize e.count x - pw x=d at hfx;rw[hL,cr,cp,hfx]at h0;exact#[L1.flatMap f,al d x ++ L2.flatMap f,h0.trans (by erw[aK])]
 conv=>lhs;rw[h0]
 unfold ka;rw[cJ,cJ];congr 1;exact bu λx hx=>by rw[few x hx]
theorem Vo{l:()}{pw:Nat->Nat}(hl:l.Nodup)(hp4:∀x,pw x<=4)(hps:∀p ∈ ps,CmD k l ns pw p)(hall:∀p,CmD k l ns pw p->p ∈ ps){w:()}(hw:∀c ∈ w,c ∈ l){i:Nat}(h:EndsAt ps w i):wAt ps w i=ka k l pw w:=by
 have hR:=Jk (wv pw) (λp h=>(hps p h).r.sam) w i;have hin:=vo hw (λp h=>((hps p h).r.facts hp4).2.2.1) i;have hno:=ji (λp h e=>by have:=((hps p h).r.facts hp4).1.1;rw[e]at this;simp at this) h.end_;rw[zbM hl hall hin hno];unfold ka;rw[cJ,cJ];congr 1;exact bu λx _=>by rw[hR x]
inductive Flt(k:Nat)(l:())(ns:List Int):List Ent->List Ent->List Ent->Prop where
 | nil (bs:List Ent):Flt k l ns bs [] bs
 | keep {bs es out:List Ent} {e:Ent} (h1:EndsAt (zb bs) e.1 0) (h2:EndsAt (zb bs) e.2.1 0) (h3:e.1≠e.2.1) (h4:zI k l ns e.2.1 e.1=tK) (h5:¬ ut e) (h:Flt k l ns (bs ++ [e]) es out):Flt k l ns bs (e::es) out
 | drop {bs es out:List Ent} {e:Ent} {i j:Nat} (h1:EndsAt (zb bs) e.1 i) (h2:EndsAt (zb bs) e.2.1 j) (h3:wAt (zb bs) e.1 i=wAt (zb bs) e.2.1 j) (h:Flt k l ns bs es out):Flt k l ns bs (e::es) out
theorem Flt.built{l:()}{bs es out:List Ent}(h:Flt k l ns bs es out):∀{r},y8 k l ns bs es r->r=tI out:=by
 induction h with
 | nil bs =>
  intro r hb;cases hb;rfl
 | keep h1 h2 h3 h4 h5 _ ih =>
  intro r hb
  cases hb with
  | same g1 g2 g3 _ =>
   rw[g1.uniq h1,g2.uniq h2]at g3;exact absurd g3 h3
  | new g1 g2 _ _ g5 =>
   rw[g1.uniq h1,g2.uniq h2,ZS]at g5;unfold zU at g5;rw[if_pos h4]at g5;exact ih g5
  | far g1 g2 _ g4 =>
   rw[g1.uniq h1,g2.uniq h2,ZS]at g4;exact absurd g4 h5
  | stuck g=>exact g.elim (λg=>absurd h1 (g _)) λg=>absurd h2 (g _)
 | drop h1 h2 h3 _ ih =>
  intro r hb
  cases hb with
  | same _ _ _ g4=>exact ih g4
  | new g1 g2 g3 _ _=>exact absurd (by rw[g1.uniq h1,g2.uniq h2];exact h3) g3
  | far g1 g2 g3 _=>exact absurd (by rw[g1.uniq h1,g2.uniq h2];exact h3) g3
  | stuck g=>exact g.elim (λg=>absurd h1 (g _)) λg=>absurd h2 (g _)
theorem xR{p w:()}(h:Within p w):∀c ∈ p,c ∈ w:=λc hc=>by
 obtain⟨a,b,rfl⟩:=h;exact aM _ (av _ hc)
section
variable{k:Nat}{l:()}{ns:List Int}{pw:Nat->Nat}
theorem JF{a b:Nat}(h:bfB k l ns b a=tK):a≠b:=λe=>by
 subst e;unfold bfB at h;rw[yA]at h;cases h
theorem CmD.alone{p q:zp}(hp:CmD k l ns pw p)(hq:CmD k l ns pw q):(Within q.1 p.1->q=p)/\¬ Within q.1 p.2:=by
 have two:∀{y a b:Nat},a≠b->pw a≠1->pw b≠1->0<pw y->¬ Within (al (pw y) y) [a,b]:=λ{y a b} hab ha hb h0 hw=>by
  have hl:=xh hw;rw[aO]at hl;have hy:y ∈ [a,b]:=xR hw y (Aj.mpr #[⋯,rfl])
  erw[bC,bS,or_false]at hy
  have h1:pw y≠1:=by rcases hy with rfl | rfl <;> assumption
  have h2:pw y=2:=by have:=hl.1;erw[ay,aT]at this;lia
  have e:=hl.2 (by rw[h2];rfl);rw[h2]at e;have e':[y,y]=[a,b]:=e;injection e' with e1 e2;injection e2 with e2 _;exact hab (e1.symm.trans e2)
 rcases hp with ⟨x,hx,h0,rfl⟩ | ⟨a,b,⟨ha,hb⟩,⟨na,nb⟩,hab,rfl⟩
 ·rcases hq with ⟨y,hy,h0',rfl⟩ | ⟨c,d,_,_,hcd,rfl⟩
  ·refine#[λhw=>?_,λhw=>?_]
   ·have:y=x:=bp (xR hw y (Aj.mpr #[⋯,rfl]));rw[this]
   ·have:=(xh hw).1
    erw[aO,aT]at this
    lia
  ·refine#[λhw=>?_,λhw=>?_]
   ·have h1:=bp (xR hw c az);have h2:=bp (xR hw d (by simp));exact absurd (h1.trans h2.symm) (JF hcd)
   ·have:=(xh hw).1;simp at this
 ·rcases hq with ⟨y,hy,h0',rfl⟩ | ⟨c,d,_,_,hcd,rfl⟩
  ·exact#[λhw=>absurd hw (two (JF hab) na nb h0'),λhw=>two (Ne.symm (JF hab)) nb na h0' hw]
  ·refine#[λhw=>?_,λhw=>?_]
   ·have e:[c,d]=[a,b]:=(xh hw).2 rfl;injection e with e1 e2;injection e2 with e2 _;rw[e1,e2]
   ·have e:[c,d]=[b,a]:=(xh hw).2 rfl;injection e with e1 e2;injection e2 with e2 _;rw[e1,e2,kd hab]at hcd;cases hcd
theorem ub(hp:CmD k l ns pw p)(hps:∀q ∈ ps,CmD k l ns pw q):(p ∉ ps->EndsAt ps p.1 0)/\EndsAt ps p.2 0 :=
 #[λhn=>Zz (none_of λq hq hw=>hn (by rw[<- (hp.alone (hps q hq)).1 hw];exact hq)),Zz (none_of λq hq=>(hp.alone (hps q hq)).2)]
theorem zaj(hp4:∀x,pw x<=4)(hp:CmD k l ns pw p)(hps:∀q ∈ ps,CmD k l ns pw q)(hm:p ∈ ps):EndsAt ps p.1 1/\wAt ps p.1 1=p.2:=by
 cases e:zE (wAt ps p.1 0) ps with
 | none=>exact absurd #[[],[],by show p.1=_;simp] (ji (λq hq h0=>by have:=((hps q hq).r.facts hp4).1.1;rw[h0]at this;simp at this) e p hm)
 | some u =>
  obtain⟨q,h1,h2⟩:=zP e;have hq:=(hp.alone (hps q (ae h1))).1 (ZJ h2);subst hq;obtain⟨e1,_⟩:=zW h2
  have e2:wAt ps q.1 1=q.2:=by
   rw[yR e];unfold Zl yH;rw[yo h1];have hl:=congrArg cF e1
   erw[ah]at hl
   change _=q.1.length at hl
   have a1:(wAt ps q.1 0).take ((u.2:Int)).toNat=[]:=Aa.mp ⋯;have a2:(wAt ps q.1 0).drop (((u.2:Int)).toNat+q.1.length)=[]:=Aa.mp ⋯;rw[a1,a2,aU,aG]
  refine#[#[λi hi=>?_,?_,∅],e2]
  ·have:i=0:=⋯;rw[this,e];intro z;cases z
  ·rw[e2];exact (ub hp hps).2.end_
theorem ZC(hp4:∀x,pw x<=4)(hps:∀q ∈ ps,CmD k l ns pw q){w:()}(hw:muC k l ns w<=40)(h1:∀c ∈ w,pw c=1->([c],[]) ∈ ps)(h3:∀q ∈ ps,¬ Within q.1 (w.filter λc=>decide (pw c≠1))):∃i,EndsAt ps w i/\wAt ps w i=w.filter λc=>decide (pw c≠1):=by
 have keep:∀j,(∀c ∈ wAt ps w j,c ∈ w)/\(wAt ps w j).filter (λc=>decide (pw c≠1))=w.filter λc=>decide (pw c≠1):=λj=>by
  induction j with
  | zero=>exact#[λc h=>h,rfl]
  | succ j ih =>
   cases e:zE (wAt ps w j) ps with
   | none =>
    have:wAt ps w (j+1)=wAt ps w j:=by show Xr ps (wAt ps w j)=_;unfold Xr;rw[e];rfl
    rw[this];exact ih
   | some u =>
    obtain⟨q,g1,g2⟩:=zP e;have hq:=hps q (ae g1);obtain⟨e1,_⟩:=zW g2
    have one:∃c,pw c=1/\q=([c],[]):=by
     refine Classical.byContradiction λhno=>h3 q (ae g1) ?_
     have live:∀c ∈ q.1,pw c≠1:=λc hc=>by
      rcases hq with ⟨x,_,_,rfl⟩ | ⟨a,b,_,⟨na,nb⟩,_,rfl⟩
      ·rw[bp hc];intro hx;exact hno #[x,hx,by rw[hx];rfl]
      ·erw[bC,bS,or_false]at hc
       rcases hc with rfl | rfl <;> assumption
     rw[<- ih.2,<- e1,bx,bx,show q.1.filter (λc=>decide (pw c≠1))=q.1 from Af.mpr λc hc=>decide_eq_true (live c hc)];exact#[_,_,rfl]
    obtain⟨c,hc1,rfl⟩:=one;rw[yR e];unfold Zl yH;rw[yo g1];generalize (wAt ps w j).take ((u.2:Int)).toNat=a at e1;generalize (wAt ps w j).drop (((u.2:Int)).toNat+([c]:()).length)=b at e1;rw[<- e1]at ih;refine#[λd hd=>ih.1 d ?_,?_]
    ·erw[aG,List.mem_append]at hd
     rcases hd with h | h
     ·exact aM _ (aM _ h)
     ·exact av _ h
    ·rw[<- ih.2,bx,bx,bx,bx];simp [hc1]
 obtain⟨i,hi,_⟩:=vH (λq hq a b=>(hps q hq).r.mu a b) hw;refine#[i,hi,?_];rw[<- (keep i).2];refine (Af.mpr λc hc=>?_).symm;rw[decide_eq_true_eq];intro hk;obtain⟨a,b,hab⟩:=d4 hc;exact ji (λq hq h0=>by have:=((hps q hq).r.facts hp4).1.1;rw[h0]at this;simp at this) hi.end_ _ (h1 c ((keep i).1 c hc) hk) #[a,b,by rw[hab];simp]
structure FamE(k:Nat)(l:())(ns:List Int)(pw:Nat->Nat)(zs:List Ent):Prop where
 r:∀e ∈ zs,CmR k l ns pw (e.1,e.2.1)
 s:∀e ∈ zs,e.2.2.length=1
 kl:∀e ∈ zs,∀x ∈ e.1,pw x=1->∃f ∈ zs,f.1=[x]
 srt:zs.Pairwise λa b=>jb k l ns b a=tL
theorem CmR.lt(G:OG l ns k)(h:CmR k l ns pw p):zI k l ns p.2 p.1=tK:=by
 rcases h with ⟨x,hx,h0,rfl⟩ | ⟨a,b,_,hab,rfl⟩
 ·have hne:al (pw x) x≠[]:=λe=>by
   have:=congrArg cF e
   erw[aO,aT]at this
   lia
  have:=(Xy (k:=k) (l:=l) (ns:=ns) (t:=al (pw x) x) (u:=[]) (v:=[]) G (λc hc=>by rw[bp hc];exact hx) (λc hc=>(nomatch hc)) (λc hc=>(nomatch hc)) (by simpa using hne)).1;simpa using this
 ·exact hab
theorem FamE.near(hp4:∀x,pw x<=4){zs:List Ent}(h:FamE k l ns pw zs)(he:e ∈ zs):¬ ut e:=by
 have h1:=h.s e he;have h2:=((h.r e he).facts hp4).1;unfold ut;simp only at h2;lia
theorem j2(G:OG l ns k)(hp4:∀x,pw x<=4){zs:List Ent}(hz:FamE k l ns pw zs):∀(rest pre bs:List Ent),zs=pre ++ rest->(∀b ∈ bs,b ∈ zs/\CmD k l ns pw (b.1,b.2.1))->(∀e ∈ pre,CmD k l ns pw (e.1,e.2.1)->(e.1,e.2.1) ∈ zb bs)->bs.length<=pre.length->bs.Pairwise (λa b=>a.1≠b.1) ->
  ∃out,Flt k l ns bs rest out/\(∀b ∈ out,b ∈ zs/\CmD k l ns pw (b.1,b.2.1))/\(∀e ∈ zs,CmD k l ns pw (e.1,e.2.1)->(e.1,e.2.1) ∈ zb out)/\out.length<=zs.length/\out.Pairwise λa b=>a.1≠b.1
 | [],pre,bs,e0,i1,i2,i3,i4=>by
  rw[aG]at e0;subst e0;exact#[bs,.nil bs,i1,i2,i3,i4]
 | e::rest,pre,bs,e0,i1,i2,i3,i4=>by
  have hps:∀q ∈ zb bs,CmD k l ns pw q:=λq hq=>by
   obtain⟨b,hb,rfl⟩:=tQ.mp hq;exact (i1 b hb).2
  have he:e ∈ zs:=by rw[e0];simp
  have hE:=hz.r e he;have e0':zs=(pre ++ [e]) ++ rest:=by rw[e0];simp
  have pre':∀{bs':List Ent},(∀q ∈ zb bs,q ∈ zb bs')->(CmD k l ns pw (e.1,e.2.1)->(e.1,e.2.1) ∈ zb bs')->∀f ∈ pre ++ [e],CmD k l ns pw (f.1,f.2.1)->(f.1,f.2.1) ∈ zb bs':=λ{bs'} s1 s2 f hf hc=>by
   rcases tS.mp hf with h | h
   ·exact s1 _ (i2 f h hc)
   ·rw[tT.mp h]at hc ⊢;exact s2 hc
  by_cases hd:CmD k l ns pw (e.1,e.2.1)
  ·by_cases hm:(e.1,e.2.1) ∈ zb bs
   ·obtain⟨out,h1,h2⟩:=j2 G hp4 hz rest (pre ++ [e]) bs e0' i1 (pre' (λ_ h=>h) λ_=>hm) (by rw[ah];lia) i4;obtain⟨g1,g2⟩:=zaj hp4 hd hps hm;exact#[out,.drop g1 (ub hd hps).2 g2 h1,h2]
   ·have mono:∀q ∈ zb bs,q ∈ zb (bs ++ [e]):=λq hq=>by
     unfold zb at hq ⊢;rw[au];exact aM _ hq
    obtain⟨out,h1,h2⟩:=j2 G hp4 hz rest (pre ++ [e]) (bs ++ [e]) e0' (λb hb=>by
     rcases tS.mp hb with h | h
     ·exact i1 b h
     ·rw[tT.mp h]
      exact#[he,hd]) (pre' mono λ_=>by
       unfold zb;rw[au]
       exact av _ az) (by rw[ah,ah];simp;lia) (by
      refine Ab.mpr #[i4,du _ _,λb hb x hx heq=>hm ?_];rw[tT.mp hx]at heq;have:=(hd.alone (i1 b hb).2).1 #[[],[],by rw[aU,aG];exact heq.symm];rw[<- this]
      exact tQ.mpr #[b,hb,rfl])
    exact#[out,.keep ((ub hd hps).1 hm) (ub hd hps).2 (hE.facts hp4).2.2.2 (hE.lt G) (hz.near hp4 he) h1,h2]
  ·obtain⟨out,h1,h2⟩:=j2 G hp4 hz rest (pre ++ [e]) bs e0' i1 (pre' (λ_ h=>h) λh=>absurd h hd) (by rw[ah];lia) i4;rcases hE with h | ⟨a,b,hab,hbf,hp⟩
   ·exact absurd (.inl h) hd
   injection hp with ea eb;have hk:pw a=1\/pw b=1:=Classical.byContradiction λh=>hd (.inr #[a,b,hab,#[λx=>h (.inl x),λx=>h (.inr x)],hbf,by rw[ea,eb]])
   have h1':∀c,c=a\/c=b->pw c=1->([c],[]) ∈ zb bs:=λc hc hc1=>by
    obtain⟨f,hf,ef⟩:=hz.kl e he c (by rw[ea];simpa using hc) hc1
    have hfr:CmD k l ns pw (f.1,f.2.1)/\f.2.1=[]:=by
     rcases hz.r f hf with h | ⟨x,y,_,_,hxy⟩
     ·obtain⟨x,hx,h0,hp⟩:=h;injection hp with p1 p2;exact#[.inl #[x,hx,h0,by rw[p1,p2]],p2]
     ·injection hxy with p1 p2;rw[ef]at p1;cases p1
    have hcl:∀d ∈ e.1,d ∈ l:=λd hd'=>by
     rw[ea]at hd'
     erw[bC,bS,or_false]at hd'
     rcases hd' with rfl | rfl
     ·exact hab.1
     ·exact hab.2
    have hw:Within f.1 e.1:=by
     rw[ef,ea];rcases hc with rfl | rfl
     ·exact#[[],[b],rfl]
     ·exact#[[a],[],rfl]
    have hne:f.1≠e.1:=λh=>by
     rw[ef,ea]at h;cases h
    have hlt:=(wH (k:=k) (ns:=ns) G hcl hw).resolve_left hne;have hsr:=hz.srt;rw[e0]at hf hsr
    have hpre:f ∈ pre:=by
     rcases tS.mp hf with h | h
     ·exact h
     ·rcases tR.mp h with h | h
      ·exact absurd (by rw[h]) hne
      ·have:=(Ac.mp (Ab.mp hsr).2.1).1 f h;unfold jb at this;rw[if_neg hne,hlt]at this;cases this
    have:=i2 f hpre hfr.1;rw[ef,hfr.2]at this;exact this
   have jq:∀w:(),w.length=2->muC k l ns w<=40:=λw hw=>by
    have:=Y2 (bf:=bfB k l ns) (w:=w) ⋯;unfold muC;lia
   have nof:∀w:(),(w.filter λc=>decide (pw c≠1)).length<=1->∀q ∈ zb bs,¬ Within q.1 (w.filter λc=>decide (pw c≠1)):=λw hw q hq hin=>by
    have hl:=(xh hin).1;rcases hps q hq with ⟨x,_,h0,rfl⟩ | ⟨c,d,_,_,_,rfl⟩
    ·rw[aO]at hl;have hx:=(tU.mp (xR hin x (Aj.mpr #[⋯,rfl]))).2;have:=of_decide_eq_true hx;lia
    ·erw[ay,aT]at hl
     lia
   have fl:([a,b].filter λc=>decide (pw c≠1))=[b,a].filter (λc=>decide (pw c≠1))/\([a,b].filter λc=>decide (pw c≠1)).length<=1:=by
    by_cases ha:pw a=1 <;> by_cases hb:pw b=1 <;> simp_all
   obtain⟨i,g1,g2⟩:=ZC hp4 hps (jq [a,b] rfl) (λc hc=>h1' c (by simpa using hc)) (nof _ fl.2);obtain⟨j,g3,g4⟩:=ZC hp4 hps (jq [b,a] rfl) (λc hc=>h1' c (by erw[bC,bS,or_false]at hc;exact hc.symm)) (nof _ (by rw[<- fl.1];exact fl.2));refine#[out,.drop (i:=i) (j:=j) (by rw[ea];exact g1) (by rw[eb];exact g3) (by rw[ea,eb,g2,g4];exact fl.1) h1,h2]
theorem Ua(G:OG l ns k)(hp4:∀x,pw x<=4):∀(es bs:List Ent),(∀e ∈ bs ++ es,CmD k l ns pw (e.1,e.2.1)/\¬ ut e)->(bs ++ es).Pairwise (λa b=>a.1≠b.1)->Flt k l ns bs es (bs ++ es)
 | [],bs,_,_=>by rw[aG];exact .nil bs
 | e::es,bs,h1,h2=>by
  have hps:∀q ∈ zb bs,CmD k l ns pw q:=λq hq=>by
   obtain⟨b,hb,rfl⟩:=tQ.mp hq;exact (h1 b (aM _ hb)).1
  obtain⟨hd,hf⟩:=h1 e (by simp);have ih:=Ua G hp4 es (bs ++ [e]) (by simpa using h1) (by simpa using h2);rw[aK]at ih;refine .keep ((ub hd hps).1 λhm=>?_) (ub hd hps).2 (hd.r.facts hp4).2.2.2 (hd.r.lt G) hf ih;obtain⟨b,hb,e1⟩:=tQ.mp hm;injection e1 with e1 _;exact (Ab.mp h2).2.2 b hb e az e1
structure zar(k:Nat)(l:())(ns:List Int)(pw:Nat->Nat)(n:Nat)(bs:List Ent):Prop where
 d:∀e ∈ bs,CmD k l ns pw (e.1,e.2.1)
 s:∀e ∈ bs,e.2.2.length=1
 all:∀p,CmD k l ns pw p->p ∈ zb bs
 n:bs.length<=n
theorem zaJ(G:OG l ns k)(hp4:∀x,pw x<=4){n m:Nat}{r:Option (List Ent)}(h:vY k l ns (n+2) es r)(hz:∀zs,Lined k l ns es zs->FamE k l ns pw zs/\(∀p,CmD k l ns pw p->p ∈ zb zs)/\zs.length<=m):∃bs,r=tI bs/\zar k l ns pw m bs:=by
 have one:∀{zs},Lined k l ns es zs->∃out,Flt k l ns [] zs out/\zar k l ns pw m out/\(∀b ∈ out,¬ ut b)/\out.Pairwise λa b=>a.1≠b.1:=λ{zs} hl=>by
  obtain⟨hf,ha,hn⟩:=hz zs hl;obtain⟨out,f1,f2,f3,f4,f5⟩:=j2 G hp4 hf zs [] [] rfl (λb hb=>(nomatch hb)) (λb hb=>(nomatch hb)) (ak _) .nil;refine#[out,f1,#[λe he=>(f2 e he).2,λe he=>hf.s e (f2 e he).1,λp hp=>?_,⋯],λb hb=>hf.near hp4 (f2 b hb).1,f5];obtain⟨e,he,rfl⟩:=tQ.mp (ha p hp);exact f3 e he hp
 cases h with
 | bad h1 h2 =>
  obtain⟨out,f,_⟩:=one h1;cases f.built h2
 | done h1 h2 h3 =>
  obtain⟨out,f,hF,_⟩:=one h1;cases f.built h2;exact#[_,rfl,hF]
 | @more _ _ _ out _ h1 h2 h3 h4 =>
  obtain⟨out',f,hF,hnf,hpw⟩:=one h1;cases f.built h2
  have two:∀{zs},Lined k l ns out zs->Flt k l ns [] zs zs/\zar k l ns pw m zs:=λ{zs} hl=>by
   have raw:uN k l ns out=out:=by
    unfold uN
    rw[Af.mpr λe he=>by
     have:=((hF.d e he).r.facts hp4).2.2.2
     simpa using this]
    refine (bu λe he=>?_).trans (List.map_id _);unfold zU;rw[if_pos ((hF.d e he).r.lt G)];rfl
   have hp:=hl.perm;rw[raw]at hp;refine#[?_,λe he=>hF.d e (hp.mem_iff.mp he),λe he=>hF.s e (hp.mem_iff.mp he),λp hp'=>((hp.map λe:Ent=>(e.1,e.2.1)).mem_iff).mpr (hF.all p hp'),by rw[hp.length_eq];exact hF.n];have:=Ua G hp4 (pw:=pw) zs [] (λe he=>#[hF.d e (hp.mem_iff.mp he),hnf e (hp.mem_iff.mp he)]) ((hp.pairwise_iff λh=>Ne.symm h).mpr hpw);exact this
  cases h4 with
  | bad g1 g2=>cases (two g1).1.built g2
  | done g1 g2 g3 =>
   cases (two g1).1.built g2;exact#[_,rfl,(two g1).2]
  | more g1 g2 g3 g4 =>
   cases (two g1).1.built g2;exact absurd rfl g3
end
def Alk(rs rs':List zp):Prop:=rs'.length=rs.length/\∀g:zp->zp,(∀p ∈ rs,g (p.2,p.1)=g p)->(rs'.map g).Perm (rs.map g)
theorem Alk.snoc{rs rs':List zp}{r r':zp}(h:Alk rs rs')(e:r'=r\/r'=(r.2,r.1)):Alk (rs ++ [r]) (rs' ++ [r']):=by
 refine#[by rw[ah,ah,h.1];rfl,λg hg=>?_];rw[au,au]
 have e':g r'=g r:=by
  rcases e with rfl | rfl
  ·rfl
  ·exact hg r (av _ az)
 rw[ar,ar,e'];exact (h.2 g λp hp=>hg p (aM _ hp)).append_right _
theorem Alk.perm{rs rs1 rs2:List zp}(h:Alk rs rs1)(e:rs2.Perm rs1):Alk rs rs2:=#[e.length_eq.trans h.1,λg hg=>(e.map g).trans (h.2 g hg)]
theorem Iss.erase:∀{ds:List L3.D} {vs:List V} {j:Nat},Iss K H ds vs->Iss K H (ds.eraseIdx j) (vs.eraseIdx j)
 | [],vs,j,h=>by
  erw[Iss]at h
  subst h
  erw[eh,Iss]
 | d::ds,vs,j,h=>by
  erw[Iss]at h
  obtain⟨v,r,rfl,h1,h2⟩:=h
  cases j with
  | zero=>exact h2
  | succ j =>
   erw[cL,Iss]
   exact#[v,_,rfl,h1,Iss.erase h2]
theorem jR{α:Type}:∀{xs:List α} {j:Nat} {x:α},xs[j]? = tI x->(x::xs.eraseIdx j).Perm xs
 | [],j,x,h=>by simp at h
 | y::xs,0,x,h=>by simp at h;rw[h];exact .refl _
 | y::xs,j+1,x,h=>by
  rw[cL];exact (List.Perm.swap _ _ _).trans ((jR (by simpa using h)).cons y)
theorem ZF{H H':Hp}{p:pE}(s:Same H H')(h:H' p=tJ):H p=tJ:=by
 cases e:H p with
 | none=>rfl
 | some o =>
  rw[s _ _ e]at h;cases h
theorem Z6{α β:Type}{g:α->β}:∀{xs:List α} {j:Nat},(xs.map g).eraseIdx j=(xs.eraseIdx j).map g
 | [],j=>by rw[aL,eh,eh];rfl
 | x::xs,0=>rfl
 | x::xs,j+1=>by rw[ar,cL,cL,ar,Z6]
def Yd(K:pD):Sp:=λvs H Q _=>∃(a:pE) (c:Int) (rs:List zp),vs=[.ref a,.int c]/\jm c/\LsA K H a (rs.map dR)/\rs.length<=20/\∀(D:pE) (H':Hp) (rs':List zp),H D=tJ->Same H H'->LsA K H' D (rs'.map dR)->Alk rs rs'->Q (.ref D) H'
theorem gG:sQz 2 ["_law_pacts","_law_cell_here","_law_number","_law_left","_law_pact","_law_told"] j0:=by nofun
theorem Vq(B:Bt mg)(F:("_law_turned"^^^j0))(iM:(1<<<"_law_mixed") ["_law_cell_here","_law_turn"] [] vM):(2&&&["_law_pacts","_law_cell_here"]) (Yd K):=by
 exists F.ok gG
 ·obtain⟨a,c,rs,rfl,hc,hA,hrl,q⟩:=h
  refine#[_,(zi (zB 2 gG.nd (cl0 iM hr .nil rfl (za (pv 1) (za ze zf))))
   (zi (zB 3 gG.nd (wl zf))
   (zi (yh PassesOwn.never rfl (yJ (pv 0)) (zy (i:=4) gG.nd rfl (.inl rfl))
    (zi (xJ (va bv bQ bR xq (pv 3) (za (zl ix_list (wl (za (pv 4) (za (zY (za (zl ix_tup (pv 4) ze) (za (zl ix_tup (pv 4) ze) zf))) zf))) (zx yL (pv 2) ze)) zf)))
    (zg (zB 2 gG.nd (zx xp (pv 2) ze)))))
   (zi (zB 2 gG.nd (cl0 iM hr .nil rfl (za (pv 1) (za ze zf))))
   (zi (zB 5 gG.nd (wl zf))
   (zi (jX PassesOwn.never (zA Xc (zG B.len (pv 3)) ze (zC _))
    (zi (xJ (va bv bQ bR xq (pv 5) (za (va bv PySem.F.slot_list_pop PySem.F.type_list_pop JL (pv 3) (za (zx yL (pv 2) (zG B.len (pv 3))) zf)) zf)))
    (zg (zB 2 gG.nd (zx xp (pv 2) (zx yB (zG B.len (pv 3)) ze))))))
   (zg (zm (pv 5))))))))),?_]
  have s16:=z6;have s16:=z6;obtain⟨xs,hX,hI⟩:=id hA;have hxl:=hI.len;rw[af]at hxl;refine zj (λσ H'=>H'=H/\∃z:Int,σ=[!!a,~~~!c,~~~!z,tJ,tJ,tJ]) ?_ ?_
  ·rfl'
   exact xW hc ∅ ∅ λz _=>#[rfl,z,rfl]
  rintro σ H1 ⟨rfl,z,rfl⟩:_;right;refine zj (λσ H'=>∃D:pE,H1 D=tJ/\H'=upd H1 D (.lst [])/\σ=[!!a,~~~!c,~~~!z,!!D,tJ,tJ]) ?_ ?_
  ·rfl'
   exact#[⋯,λp hp=>#[p,hp,rfl,rfl]]
  rintro σ H2 ⟨D,hD,rfl,rfl⟩:_;right;refine zj (λσ H'=>Same H1 H'/\(∃rs1:List zp,LsA K H' D (rs1.map dR)/\Alk rs rs1)/\∃(z:Int) (v:Option V),σ=[!!a,~~~!c,~~~!z,!!D,v,tJ]) ?_ ?_
  ·rfl'
   refine#[#[_,SqL.of (zd hD _ _ hX)],ForL.by (xs:=xs) (λi σ H'=>Same H1 H'/\(∃rs1:List zp,LsA K H' D (rs1.map dR)/\Alk (rs.take i) rs1)/\∃(z:Int) (v:Option V),σ=[!!a,~~~!c,~~~!z,!!D,v,tJ]) #[zd hD,#[[],LsA.nil,rfl,λ_ _=>.refl _],_,_,rfl] (λi σ H' _ h=>SqL.of (h.1 _ _ hX)) ?_ ?_]
   ·refine nm4 ?_;rintro i x σ H3 hx ⟨s3,⟨rs1,hL1,hAk⟩,z,v,rfl⟩:_;have hi:=(tP.mp hx).1;obtain⟨r,p,hr,rfl,hsq⟩:=hI.getR hx;have hsq3:=zq s3 hsq;obtain⟨ys,hY,hJ⟩:=hL1;have hyl:=hJ.len;rw[af,hAk.1,aF]at hyl;have m0:=br z (b:=2) ∅;have m1:=bo z (b:=2) ∅;right
    erw[yS,be,bc]
    refine zj (λσ H'=>Same H1 H'/\(∃rs1:List zp,LsA K H' D (rs1.map dR)/\Alk (rs.take (i+1)) rs1)/\σ=[!!a,~~~!c,~~~!z,!!D,!!p,tJ]) ?_ ?_
    ·rfl'
     have et:rs.take (i+1)=rs.take i ++ [r]:=by
      rw[List.take_add_one,hr];rfl
     rw[et];refine#[.inl #[_,SqL.of hY],_,hsq3,_,rfl,_,hsq3,_,rfl,⋯,λp1 hp1=>#[⋯,λp2 hp2=>#[∅,_,SqL.of zc,?_]]];have s5:=(zd (o:=.tup [.str (tx r.2),.str (tx r.1)]) hp1).trans (zd (o:=.lst [V.ref p,V.ref p1]) hp2);have hr5:SqT K _ p1 [.str (tx r.2),.str (tx r.1)]:=SqT.of (zd (o:=.lst [V.ref p,V.ref p1]) hp2 _ _ zc);rcases (show z % 2=0\/z % 2=1 by lia)with e | e <;> rw[e]
     ·refine#[_,rfl,ys,s5 _ _ hY,⋯,zD (s3.trans s5) hD,rs1 ++ [r],?_,hAk.snoc (.inl rfl)];rw[au];exact LsA.snoc (s5 _ _ hY) (Iss.same s5 _ _ hJ) (yF rs1) (qY r) (Us (zq s5 hsq3))
     ·refine#[_,rfl,ys,s5 _ _ hY,⋯,zD (s3.trans s5) hD,rs1 ++ [(r.2,r.1)],?_,hAk.snoc (.inr rfl)];rw[au];exact LsA.snoc (s5 _ _ hY) (Iss.same s5 _ _ hJ) (yF rs1) (qY (r.2,r.1)) (Us hr5)
    rintro σ H4 ⟨s4,⟨rs4,hL4,hA4⟩,rfl⟩:_;right
    rfl'
    exact#[#[∅,∅],s4,rs4,hL4,hA4]
   ·rintro σ H' ⟨s',⟨rs1,h1,h2⟩,z,v,rfl⟩;rw[bh ⋯]at h2;exact#[s',#[rs1,h1,h2],z,v,rfl]
  rintro σ H3 ⟨s3,⟨rs1,hL1,hAk⟩,z,v,rfl⟩:_;right;refine zj (λσ H'=>H'=H3/\∃(z:Int) (v:Option V),σ=[!!a,~~~!c,~~~!z,!!D,v,tJ]) ?_ ?_
  ·rfl'
   exact xW hc ∅ ∅ λz _=>#[rfl,z,rfl]
  rintro σ H4 ⟨rfl,z,v,rfl⟩:_;right;refine zj (λσ H'=>∃J:pE,H4 J=tJ/\H'=upd H4 J (.lst [])/\∃v:Option V,σ=[!!a,~~~!c,~~~!z,!!D,v,!!J]) ?_ ?_
  ·rfl'
   exact#[⋯,λp hp=>#[p,hp,rfl,rfl]]
  rintro σ H5 ⟨J,hJ,rfl,v,rfl⟩:_
  have hJD:J≠D:=λe=>by
   obtain⟨_,h,_⟩:=hL1;rw[<- e,hJ]at h;cases h
  have hJ1:H1 J=tJ:=ZF s3 hJ;right;refine zj (λσ H'=>Same H1 H'/\∃rs2:List zp,rs2.Perm rs1/\LsA K H' J (rs2.map dR)/\∃(z:Int) (v:Option V),σ=[!!a,~~~!c,~~~!z,!!D,v,!!J]) ?_ ?_
  ·unfold Wh;refine#[λm σ H'=>Same H1 H'/\∃la lb:List zp,la.length=m/\(lb ++ la).Perm rs1/\LsA K H' D (la.map dR)/\LsA K H' J (lb.map dR)/\∃(z:Int) (v:Option V),σ=[!!a,~~~!c,~~~!z,!!D,v,!!J],#[_,s3.trans (zd hJ),rs1,[],rfl,.refl _,hL1.same (zd hJ),LsA.nil,_,_,rfl],?_];rintro m σ H' ⟨s',la,lb,rfl,hpm,hLa,hLb,z,v,rfl⟩;have hpl:=hpm.length_eq;have ha1:=hAk.1;rw[ah]at hpl;obtain⟨xa,hXa,hIa⟩:=id hLa;obtain⟨xb,hXb,hIb⟩:=id hLb;have hal:=hIa.len;have hbl:=hIb.len;rw[af]at hal hbl
   rfl'
   refine#[_,.inl #[_,SqL.of hXa,rfl],yM (λhpos=>?_) λhn=>?_]
   ·refine#[λσ' H''=>Same H1 H''/\∃la' lb':List zp,la'.length+1=la.length/\(lb' ++ la').Perm rs1/\LsA K H'' D (la'.map dR)/\LsA K H'' J (lb'.map dR)/\∃(z:Int) (v:Option V),σ'=[!!a,~~~!c,~~~!z,!!D,v,!!J],?_,?_]
    ·rintro σ' H'' ⟨t1,la',lb',t2,t3,t4,t5,z,v,rfl⟩;exact#[la'.length,⋯,t1,la',rfl,lb',t3,t4,t5,z,v,rfl]
    refine zj (λσ H''=>Same H1 H''/\∃la' lb':List zp,la'.length+1=la.length/\(lb' ++ la').Perm rs1/\LsA K H'' D (la'.map dR)/\LsA K H'' J (lb'.map dR)/\σ=[!!a,~~~!c,~~~!z,!!D,v,!!J]) ?_ ?_
    ·rfl'
     have m0:=br z (b:=(xa.length:Int)) ⋯;have m1:=bo z (b:=(xa.length:Int)) ⋯;obtain⟨y,e1,_⟩:=qD (xs:=xa) m0 m1;obtain⟨j,hj,hy,_⟩:=Za e1;obtain⟨r,pr,hr,rfl,hsq⟩:=hIa.getR hy;have ep:=jR hr;have epl:=ep.length_eq;rw[ay]at epl;refine#[.inl #[_,SqL.of hXb],.inl #[_,SqL.of hXa],_,.inl #[_,SqL.of hXa,rfl],⋯,D,xa,_,j,_,rfl,rfl,hXa,⋯,⋯,hj,hy,?_]
     have hXb8:upd H' D (.lst (xa.eraseIdx j)) J=tI (.lst xb):=by
      rw[zo hJD];exact hXb
     have hIa8:Iss K (upd H' D (.lst (xa.eraseIdx j))) ((la.eraseIdx j).map dR) (xa.eraseIdx j):=by
      have h:=Iss.erase (j:=j) (Iss.updL (zs:=xa.eraseIdx j) hXa _ _ (yF la) hIa);rw[Z6]at h;exact h
     have hIb8:=Iss.updL (zs:=xa.eraseIdx j) hXa _ _ (yF lb) hIb;refine#[xb,hXb8,⋯,zD (zD s' hD) hJ1,la.eraseIdx j,epl,lb ++ [r],?_,#[xa.eraseIdx j,?_,Iss.updL hXb8 _ _ (yF _) hIa8],?_]
     ·rw[aK];exact (ep.append_left lb).trans hpm
     ·rw[zo (Ne.symm hJD)];exact zc
     ·rw[au];exact LsA.snoc hXb8 hIb8 (yF lb) (qY r) (Us (ku hXa hsq))
    rintro σ H7 ⟨t1,la',lb',t2,t3,t4,t5,rfl⟩:_;obtain⟨xc,hXc,hIc⟩:=id t4;have hcl:=hIc.len;rw[af]at hcl;right
    rfl'
    exact#[_,.inl #[_,SqL.of hXc,rfl],#[⋯,⋯],t1,la',t2,lb',t3,t4,t5]
   ·have hla:la=[]:=Aa.mp ⋯;subst hla;rw[aG]at hpm;exact#[s',lb,hpm,xb,hXb,hIb]
  rintro σ H6 ⟨s6,rs2,hp,hL2,z,v,rfl⟩:_;right
  rfl'
  exact q _ _ rs2 hJ1 s6 hL2 (hAk.perm hp)
noncomputable def cmL(pw:Nat->Nat):()->List zp
 | []=>[]
 | x::r=>((r.map λy=>([x,y],[y,x])) ++ if 0<pw x then [(al (pw x) x,[])]else []) ++ cmL pw r
theorem Yk{pw:Nat->Nat}:∀{l:()},l.Nodup->p ∈ cmL pw l->(∃x ∈ l,0<pw x/\p=(al (pw x) x,[]))\/∃x y,(x ∈ l/\y ∈ l)/\x≠y/\p=([x,y],[y,x])
 | [],_,h=>(nomatch h)
 | x::r,hl,h=>by
  obtain⟨h1,h2⟩:=tX.mp hl;rcases tS.mp h with h | h
  ·rcases tS.mp h with h | h
   ·obtain⟨y,hy,rfl⟩:=tQ.mp h;exact .inr #[x,y,#[az,ao _ hy],λe=>h1 (by rw[e];exact hy),rfl]
   ·split at h
    ·rw[tT.mp h];exact .inl #[x,az,by assumption,rfl]
    ·cases h
  ·rcases Yk h2 h with ⟨y,hy,g⟩ | ⟨y,z,⟨hy,hz⟩,g⟩
   ·exact .inl #[y,ao _ hy,g]
   ·exact .inr #[y,z,#[ao _ hy,ao _ hz],g]
theorem mem_cmL{pw:Nat->Nat}:∀{l:()},(∀x ∈ l,0<pw x->(al (pw x) x,[]) ∈ cmL pw l)/\∀x ∈ l,∀y ∈ l,x≠y->([x,y],[y,x]) ∈ cmL pw l\/([y,x],[x,y]) ∈ cmL pw l
 | []=>#[λx h=>(nomatch h),λx h=>(nomatch h)]
 | z::r=>by
  obtain⟨ih1,ih2⟩:=mem_cmL (pw:=pw) (l:=r);have fst:∀y ∈ r,([z,y],[y,z]) ∈ cmL pw (z::r):=λy hy=>aM _ (aM _ (tQ.mpr #[y,hy,rfl]));refine#[λx hx h0=>?_,λx hx y hy hxy=>?_]
  ·rcases tR.mp hx with rfl | hx
   ·exact aM _ (av _ (by rw[if_pos h0];exact az))
   ·exact av _ (ih1 x hx h0)
  ·rcases tR.mp hx with ex | hx'
   ·rcases tR.mp hy with ey | hy'
    ·exact absurd (ex.trans ey.symm) hxy
    ·rw[ex];exact .inl (fst y hy')
   ·rcases tR.mp hy with ey | hy'
    ·rw[ey];exact .inr (fst x hx')
    ·exact (ih2 x hx' y hy' hxy).imp (av _) (av _)
theorem kL{pw:Nat->Nat}:∀{l:()},l.length<=3->(cmL pw l).length<=6:=by
 have key:∀l:(),(cmL pw l).length<=K0 l.length+l.length:=λl=>by
  induction l with
  | nil=>exact ak _
  | cons x r ih =>
   erw[cmL,ah,af,ay,K0]
   have:(if 0<pw x then [(al (pw x) x,([]:()))]else []).length<=1:=by split <;> simp
   lia
 intro l h;have h2:∀n,n<=3->K0 n+n<=6:=∅;have:=key l;have:=h2 _ h;lia
noncomputable def tnR(k:Nat)(l:())(ns:List Int)(p:zp):zp:=if zI k l ns p.2 p.1=tK then p else (p.2,p.1)
theorem QJ{l:()}{zs:List Ent}(hne:∀p ∈ rs,p.1≠p.2)(hz:Lined k l ns (fEs rs rs.length) zs):(zb zs).Perm (rs.map (tnR k l ns))/\∀e ∈ zs,e.2.2.length=1:=by
 have ents:∀e ∈ fEs rs rs.length,e.1≠e.2.1/\e.2.2.length=1:=λe he=>by
  obtain⟨i,p,hi,hp,rfl⟩:=qX he;exact#[hne p (ae hp),rfl]
 have raw:uN k l ns (fEs rs rs.length)=(fEs rs rs.length).map (zU k l ns):=by
  unfold uN;rw[Af.mpr λe he=>by simpa using (ents e he).1]
 have hp:=hz.perm;rw[raw]at hp;refine#[(hp.map λe:Ent=>(e.1,e.2.1)).trans (.of_eq ?_),λe he=>?_]
 ·have e1:((fEs rs rs.length).map (zU k l ns)).map (λe:Ent=>(e.1,e.2.1))=(zb (fEs rs rs.length)).map (tnR k l ns):=by
   unfold zb;rw[cH,cH];refine bu λe _=>?_;show ((zU k l ns e).1,(zU k l ns e).2.1)=tnR k l ns (e.1,e.2.1);unfold zU tnR;by_cases h:zI k l ns e.2.1 e.1=tK
   ·rw[if_pos h,if_pos h]
   ·rw[if_neg h,if_neg h]
  rw[e1,Zq _ _ (ak _),aP]
 ·obtain⟨y,hy,rfl⟩:=tQ.mp (hp.mem_iff.mp he);unfold zU;split
  ·exact (ents y hy).2
  ·rw[yg];exact (ents y hy).2
theorem zc3{R:()->()->Prop}(hR:zbo R){w o n:()}{q:Int}(h:zt w q o=tK)(ho:R o n):R w (yH w q o n):=by
 obtain⟨e,_⟩:=zW h;have:=hR.ctx (w.take q.toNat) (w.drop (q.toNat+o.length)) ho;rw[e]at this;exact this
theorem Qc{w o n:()}{q:Int}(h:zt w q o=tK)(ho:n.length<=o.length):(yH w q o n).length<=w.length:=by
 obtain⟨e,_⟩:=zW h;have:=congrArg cF e;unfold yH
 erw[ah]at this ⊢
 lia
section
variable{k:Nat}{l:()}{ns:List Int}{pw:Nat->Nat}
theorem zcu(G:OG l ns k){q:zp}:q ∈ (cmL pw l).map (tnR k l ns) ↔ CmR k l ns pw q:=by
 have hnd:=(of_decide_eq_true G.g).2.2.2
 have tot:∀{x y:Nat},x ∈ l->y ∈ l->x≠y->bfB k l ns y x=tL->bfB k l ns x y=tK:=λ{x y} hx hy hxy h=>by
  cases e:bfB k l ns x y with
  | true=>rfl
  | false=>exact absurd (Kd hx hy e h) hxy
 constructor
 ·intro h;obtain⟨p,hp,rfl⟩:=tQ.mp h;rcases Yk hnd hp with ⟨x,hx,h0,rfl⟩ | ⟨x,y,⟨hx,hy⟩,hxy,rfl⟩
  ·have hc:CmR k l ns pw (al (pw x) x,[]):=.inl #[x,hx,h0,rfl];unfold tnR;rw[if_pos (hc.lt G)];exact hc
  ·unfold tnR;by_cases h:zI k l ns [y,x] [x,y]=tK
   ·rw[if_pos h];exact .inr #[x,y,#[hx,hy],h,rfl]
   ·rw[if_neg h];exact .inr #[y,x,#[hy,hx],tot hx hy hxy (Al.mpr h),rfl]
 ·intro h;have hlt:=h.lt G;rcases h with ⟨x,hx,h0,rfl⟩ | ⟨a,b,⟨ha,hb⟩,hab,rfl⟩
  ·refine tQ.mpr #[_,mem_cmL.1 x hx h0,?_];unfold tnR;rw[if_pos hlt]
  ·rcases mem_cmL.2 a ha b hb (JF hab)with h | h
   ·refine tQ.mpr #[_,h,?_];unfold tnR;rw[if_pos hlt]
   ·refine tQ.mpr #[_,h,?_];unfold tnR;rw[if_neg (by rw[show zI k l ns [a,b] [b,a]=tL from kd hab];decide)]
theorem KD(G:OG l ns k)(hA:Alk (cmL pw l) rs):(rs.map (tnR k l ns)).Perm ((cmL pw l).map (tnR k l ns)):=by
 have hnd:=(of_decide_eq_true G.g).2.2.2;refine hA.2 _ λp hp=>?_
 have key:∀u v:(),zI k l ns u v=!zI k l ns v u->tnR k l ns (v,u)=tnR k l ns (u,v):=λu v h=>by
  unfold tnR;simp only
  cases e:zI k l ns v u with
  | true =>
   rw[e]at h;rw[h];rfl
  | false =>
   rw[e]at h;rw[h];rfl
 rcases Yk hnd hp with ⟨x,hx,h0,rfl⟩ | ⟨x,y,⟨hx,hy⟩,hxy,rfl⟩
 ·have hc:CmR k l ns pw (al (pw x) x,[]):=.inl #[x,hx,h0,rfl];refine key _ _ ?_;have h1:zI k l ns [] (al (pw x) x)=tK:=hc.lt G;rw[h1,vt h1];rfl
 ·refine key _ _ (vB (λc hc=>?_) (λc hc=>?_) λe=>?_)
  ·erw[bC,bS,or_false]at hc
   rcases hc with rfl | rfl <;> assumption
  ·erw[bC,bS,or_false]at hc
   rcases hc with rfl | rfl <;> assumption
  ·injection e with e1 _;exact hxy e1
theorem XA(G:OG l ns k)(hp4:∀x,pw x<=4)(hA:Alk (cmL pw l) rs):∀p ∈ rs,(p.1≠p.2/\p.1.length<=4/\p.2.length<=4)/\(∀c ∈ p.1,c ∈ l)/\∀c ∈ p.2,c ∈ l:=λp hp=>by
 have h:=(zcu (pw:=pw) G).mp ((KD G hA).mem_iff.mp (tQ.mpr #[p,hp,rfl]));obtain⟨h1,h2,h3,h4⟩:=h.facts hp4;unfold tnR at h1 h2 h3 h4;by_cases g:zI k l ns p.2 p.1=tK
 ·rw[if_pos g]at h1 h2 h3 h4;exact#[#[h4,⋯,⋯],h2,h3]
 ·rw[if_neg g]at h1 h2 h3 h4;exact#[#[λe=>h4 e.symm,by simp only at h1;lia,by simp only at h1;lia],h3,h2]
theorem zb0(G:OG l ns k)(h3:l.length<=3)(hp4:∀x,pw x<=4)(hA:Alk (cmL pw l) rs){r:Nat}{w:Bool}(hC:Cpl k l ns (r+1) [] (fEs rs rs.length) w es):w=tK/\zar k l ns pw 6 es:=by
 have hnd:=(of_decide_eq_true G.g).2.2.2
 have thin:∀{r},vY k l ns 20 (fEs rs rs.length) r->∃bs,r=tI bs/\zar k l ns pw 6 bs:=λ{r} h=>by
  refine zaJ G hp4 (n:=18) h λzs hz=>?_;obtain⟨hp,h1⟩:=QJ (λp hp=>(XA G hp4 hA p hp).1.1) hz;have hp':=hp.trans (KD G hA);have mem:∀{q},q ∈ zb zs ↔ CmR k l ns pw q:=λ{q}=>hp'.mem_iff.trans (zcu G);have hr:∀e ∈ zs,CmR k l ns pw (e.1,e.2.1):=λe he=>mem.mp (tQ.mpr #[e,he,rfl]);refine#[#[hr,h1,λe he x hx h1x=>?_,hz.srt],λp hd=>mem.mpr hd.r,?_]
  ·have hxl:=((hr e he).facts hp4).2.1 x hx;obtain⟨f,hf,e1⟩:=tQ.mp (mem.mpr (.inl #[x,hxl,⋯,rfl]));injection e1 with e1 _;exact#[f,hf,by rw[e1,h1x];rfl]
  ·have:=hp'.length_eq;rw[xQ,af]at this;rw[this];exact kL h3
 have good:∀bs,zar k l ns pw 6 bs->qR bs=tL/\(∀t ∈ ovA (zb bs) (zb bs).length,OkG (zb bs) 40 t)/\unG (zb bs) 40=[]:=λbs hF=>by
  have hps:∀p ∈ zb bs,CmD k l ns pw p:=λp hp=>by
   obtain⟨e,he,rfl⟩:=tQ.mp hp;exact hF.d e he
  have hb:qR bs=tL:=by
   unfold qR;have:=hF.n;rw[decide_eq_false ⋯,Bool.false_or,List.any_eq_false];intro e he;have:=((hF.d e he).r.facts hp4).1;simp only at this;rw[decide_eq_true_eq];lia
  refine#[hb,zap λt ht=>?_];obtain⟨⟨_,a2⟩,_,b2⟩:=zc1 (l:=l) (ps:=zb bs) (λp h=>#[((hps p h).r.facts hp4).2.1,((hps p h).r.facts hp4).2.2.1]) (λp h=>by have:=((hps p h).r.facts hp4).1;lia) ht;obtain⟨q,q2,h1,h2,h3',h4,h5,h6⟩:=Ji ht;have f1:=((hps q (ae h1)).r.facts hp4).1;have f2:=((hps q2 (ae h2)).r.facts hp4).1;have s1:=uk q.1 q2.1 t.2.2;have s2:=vC (l:=q.1) (m:=q2.1) (k:=t.2.2) ⋯ h4;have hl:=wD q.1 q2.1 t.2.2 ⋯
  have l1:(pkA (zb bs) t).length<=7:=by
   rw[h5];have:=Qc (n:=q.2) s1 ⋯;lia
  have l2:(pkB (zb bs) t).length<=7:=by
   rw[h6];have:=Qc (n:=q2.2) s2 ⋯;lia
  have mu:∀{v:()},v.length<=7->muC k l ns v<=40:=λ{v} hv=>by
   have:=Y2 (bf:=bfB k l ns) hv;unfold muC;lia
  obtain⟨i,hi,_⟩:=vH (λp hp a b=>(hps p hp).r.mu a b) (mu l1);obtain⟨j,hj,_⟩:=vH (λp hp a b=>(hps p hp).r.mu a b) (mu l2);refine#[i,j,hi,hj,?_];rw[Vo hnd hp4 hps hF.all a2 hi,Vo hnd hp4 hps hF.all b2 hj]
  have hs:zej pw (pkA (zb bs) t) (pkB (zb bs) t):=by
   rw[h5,h6];exact (wv pw).trans ((wv pw).symm (zc3 (wv pw) s1 (hps q (ae h1)).r.sam)) (zc3 (wv pw) s2 (hps q2 (ae h2)).r.sam)
  unfold ka;rw[cJ,cJ];congr 1;exact bu λx _=>by rw[hs x]
 cases hC with
 | slim h =>
  rcases h with h | ⟨bs,h,hb⟩
  ·obtain⟨zs,e,_⟩:=thin h;cases e
  ·obtain⟨zs,e,hF⟩:=thin h;cases e;rw[(good _ hF).1]at hb;cases hb
 | far h hb ht ho =>
  obtain⟨zs,e,hF⟩:=thin h;cases e;exact absurd ((good _ hF).2.1 _ ht) ho
 | whole h hb ho hu =>
  obtain⟨zs,e,hF⟩:=thin h;cases e;exact#[rfl,hF]
 | more h hb ho hu r =>
  obtain⟨zs,e,hF⟩:=thin h;cases e;exact absurd (good _ hF).2.2 hu
end
section
variable{g:TG}{tt:TT}{te:TE}{own:Nat}{ix:()}{σ:L2.St}{H1:Hp}{Q:VK}{D:pE}
def CompT(K:pD)(a:pE)(g:TG)(tt:TT)(te:TE)(own:Nat)(ix:())(σ:L2.St)(H1:Hp)(Q:VK)(D:pE):Prop:=Ys (Itt K a) g tt te own ix σ H1 Q D
theorem zdk{K:pD}{tl:TE}:jw (zdj K tl) g tt te own ix σ H Q=tl σ H λx H1=>∃a,x=.ref a/\(∃xs,SqT K H1 a xs)/\∀D,H1 D=tJ->CompT K a g tt te own ix σ H1 Q D:=rfl
theorem CompT.by{K:pD}{a:pE}{xs:List V}(Pv:Nat->List V->Hp->Prop)(h0:Pv 0 [] (upd H1 D (.lst [])))(hl:∀i tO H',i<=xs.length->Pv i tO H'->SqT K H' a xs)
  (hs:∀i x tO H',xs[i]? = tI x->Pv i tO H'->g x (vn σ own ix) H' λσ3 H3=>yU (vn σ own ix) σ3/\tt σ3 H3 λb H4=>if b=tK then
   te σ3 H4 λv H5=>H5 D=tI (.lst tO)/\tO.length<pC/\CNx xs.length i Pv (tO ++ [v]) (upd H5 D (.lst (tO ++ [v])))else CNx xs.length i Pv tO H4)
  (hd:∀tO H',Pv xs.length tO H'->Q (.ref D) H'):CompT K a g tt te own ix σ H1 Q D:=by
 refine#[λi m tO H=>m=xs.length - i/\i<=xs.length/\Pv i tO H,#[xs.length,by simp,aE _,h0],?_];rintro i m tO H' ⟨rfl,hi,p⟩;have q:=hl i tO H' hi p;by_cases hlt:i<xs.length
 ·refine .inr #[#[xs,xs[i],q,by simp [hlt]],λx H2 y=>?_];obtain⟨e,y⟩:=y;subst e;exact hs i x tO _ (y xs q) p
 ·have e:i=xs.length:=⋯;subst e;exact .inl #[#[xs,q,ak _],hd tO H' p]
end
noncomputable def pwF(l pws:())(x:Nat):Nat:=pws.getD (l.idxOf x) 0
def Kn(K:pD):Sp:=λvs H Q _=>∃(l pws:()) (P:pE),vs=[.str (tx l),.ref P]/\H P=tI (.lst ((pws.map dq).map V.int))/\pws.length=l.length/\(∀n ∈ pws,n<=4)/\l.Nodup/\l.length<=3/\∀(D:pE) (H':Hp),H D=tJ->Same H H'->LsA K H' D ((cmL (pwF l pws) l).map dR)->Q (.ref D) H'
theorem U4{c n:Nat}:((al n (tx [c]))=(al n [c]).map tx)/\(al n [c]).flatten=al n c:=by
 refine#[by rw[List.map_replicate],?_]
 induction n with
 | zero=>rfl
 | succ n ih=>rw[bL,dw,ih,bL];rfl
theorem Xw{c n:Nat}{D:pE}(hD:H D=tI (.lst ((al n (tx [c])).map V.str)))(hn:n<=1000)(q:Q (.str (tx (al n c))) H):zcS K (.str (tx [])) [.ref D] H Q:=by
 obtain⟨e1,e2⟩:=U4 (c:=c) (n:=n);rw[e1]at hD;refine#[tx [],D,(al n [c]).map tx,rfl,rfl,SqL.of hD,Jg (by rw[e2,aO];lia),?_];have e:Txt.join (tx []) ((al n [c]).map tx)=Str.join (tx []) ((al n [c]).map tx):=StrLaws.glued_eq_join _ _;rw[e,VR,e2];exact q
theorem iN:sQz 2 ["_law_letters_here","_law_powers","_law_pacts","_law_k","_law_letter"] xn:=by nofun
theorem ZV(B:Bt mg)(F:("_law_commuting"^^^xn)) :(1&&&["_law_letters_here","_law_powers"]) (Kn K):=by
 exists F.ok iN
 ·obtain⟨l,pws,P,rfl,hP,hpl,hp4,hnd,l3,q⟩:=h
  refine#[_,(zi (zB 2 iN.nd (wl zf))
   (zi (yh PassesOwn.never rfl (Ul rfl B.enum (za (pv 0) zf)) (uJ (n:=2) rfl (zZ (zy (i:=3) iN.nd rfl (.inl rfl)) (zZ (zy (i:=4) iN.nd rfl (Or.inr rfl)) wy)))
    (zi (xJ (va bv eO eP Zy (pv 2) (za (xA (own:=["_law_other"]) (caps:=["_law_letter"]) (ix:=[4]) (tt:=wU) (te:=(Uj (zK (tOp jt (yf 1) (yf 0)) (zK (tOp jt (yf 0) (yf 1)) wn)))) rfl (zL (sc:=zh xn) rfl (by symm) (by symm) (by symm) rfl (by symm) (by symm) rfl) (Wq (z7 xB (pv 0) (yb (zx yX (pv 3) ze)) yT)) (λ_ _ _ _ _ _=>zy (i:=0) (show List.Nodup [_,_] by decide) rfl (.inl rfl)) (λ_ _ _ _ _ _=>yv) (λ_ _ _ _ _ _=>(zY (za (zx yX (pv 1) (pv 0)) (za (zx yX (pv 0) (pv 1)) zf))))) zf)))
    (zg (zM (zA Xc (zl ix_list (pv 1) (pv 3)) ze (zC _))
     (zg (xJ (va bv bQ bR xq (pv 2) (za (zY (za (va bJ fu fv Kr zX (za (xA (own:=["_law_n"]) (caps:=["_law_letter"]) (ix:=[4]) (tt:=wU) (te:=(yf 1)) rfl (zL (sc:=zh xn) rfl (by symm) (by symm) (by symm) rfl (by symm) (by symm) rfl) (yt rfl B.range (za (zl ix_list (pv 1) (pv 3)) zf)) (λ_ _ _ _ _ _=>zy (i:=0) (show List.Nodup [_,_] by decide) rfl (.inl rfl)) (λ_ _ _ _ _ _=>yv) (λ_ _ _ _ _ _=>(pv 1))) zf)) (za zX zf))) zf))))
     zw))))
   (zg (zm (pv 2))))),?_]
  have s16:=z6;have hcl:=kL (pw:=pwF l pws) l3;refine zj (λσ H'=>∃D:pE,H D=tJ/\H'=upd H D (.lst [])/\σ=[~~~l,!!P,!!D,tJ,tJ]) ?_ ?_
  ·rfl'
   exact#[⋯,λp hp=>#[p,hp,rfl,rfl]]
  rintro σ H2 ⟨D,hD,rfl,rfl⟩:_;right;refine zj (λσ H'=>Same H H'/\LsA K H' D ((cmL (pwF l pws) l).map dR)/\∃v3 v4,σ=[~~~l,!!P,!!D,v3,v4]) ?_ ?_
  ·rfl'
   refine ForE.by (λi σ H'=>Same H H'/\(∃ps:List zp,LsA K H' D (ps.map dR)/\ps ++ cmL (pwF l pws) (l.drop i)=cmL (pwF l pws) l)/\∃v3 v4,σ=[~~~l,!!P,!!D,v3,v4]) #[zd hD,#[[],LsA.nil,rfl],_,_,rfl] ?_ ?_
   ·rintro i x σ H1 p1 hx ⟨s1,⟨ps,hL1,hps⟩,v3,v4,rfl⟩ hp1;have hi:=(tP.mp hx).1;have ex:l.idxOf x=i:=ky hnd (tP.mpr #[ba (ae hx),bP _]) hx
    have hpx:pws[i]? = tI (pwF l pws x):=by
     unfold pwF;rw[ex,ac,aj ⋯];rfl
    have hp5:=hp4 _ (ae hpx)
    have hdr:l.drop i=x::l.drop (i+1):=by
     rw[aS hi,(tP.mp hx).2]
    have hpl6:=congrArg cF hps;rw[ah]at hpl6;rw[hdr]at hps;have s2:=s1.trans (zd (o:=.tup [.int (i:Nat),.str (tx [x])]) hp1);have hL2:=hL1.same (zd (o:=.tup [.int (i:Nat),.str (tx [x])]) hp1);refine zbd (SqT.of zc) ?_;generalize upd H1 p1 (.tup [.int (i:Nat),.str (tx [x])])=H2 at s2 hL2;have hrl:(l.drop (i+1)).length<=3:=by rw[aW];lia
    refine zj (λσ H'=>Same H H'/\LsA K H' D ((ps ++ (l.drop (i+1)).map λy=>([x,y],[y,x])).map dR)/\σ=[~~~l,!!P,!!D,-~~~i,tI (.str (tx [x]))]) ?_ ?_
    ·rfl'
     obtain⟨xs,hX,hI⟩:=id hL2;have hxl:=hI.len;rw[af]at hxl;rw[show (i:Int)+1=((i+1:Nat):Int) by lia,wS l (d5 _),aZ];generalize l.drop (i+1)=r at hrl ⊢;refine#[.inl #[_,SqL.of hX],⋯,λA hA=>CompS.by (λj tO H'=>Same H2 H'/\H' A=tI (.lst tO)/\Iss K H' (((r.take j).map λy=>([x,y],[y,x])).map dR) tO) #[zd hA,zc,by erw[bD,aL,Iss]] ?_ ?_]
     ·refine nm4 ?_;rintro j y tO H' hy ⟨hs,hH,hA'⟩:_;have hj:=(tP.mp hy).1;have hal:=hA'.len;rw[af,af,aF]at hal;right
      erw[wU]
      rfl'
      refine#[xv,⋯,⋯,⋯,λp hp=>#[zd hp _ _ hH,⋯,CNx.mk hj #[zD (hs.trans (zd hp)) hA,zc,?_]]];rw[zO hy,au,au];exact qd hH hA' hp zcD (yF _) (by erw[zV,xw,and_self])
     ·rintro tO H' ⟨hs,hH,hA'⟩;rw[aP]at hA';have hal:=hA'.len;rw[af,af]at hal;refine#[D,A,xs,tO,rfl,rfl,hs _ _ hX,hH,⋯,zD (s2.trans hs) hD,#[_,zc,?_]];rw[au];exact Iss.append (Iss.updL (hs _ _ hX) _ _ (yF _) (Iss.same hs _ _ hI)) (Iss.updL (hs _ _ hX) _ _ (yF _) hA')
    rintro σ H3 ⟨s3,hL3,rfl⟩:_;obtain⟨xs,hX,hI⟩:=id hL3;have hxl:=hI.len;rw[af]at hxl;rw[ah,af]at hxl;right
    rfl'
    have hP3:=s3 _ _ hP;have hat:atI ((pws.map dq).map V.int) ((i:Nat):Int)=tI (.int (pwF l pws x:Nat)):=jf (by rw[aA,aA,hpx];rfl);refine#[_,SqL.of hP3,_,hat,_,rfl,yM (λh0=>#[.inl #[_,SqL.of hX],_,SqL.of hP3,_,hat,_,rfl,⋯,⋯,λA hA=>CompR.by (λj tO H'=>Same H3 H'/\H' A=tI (.lst tO)/\tO=(al j (tx [x])).map V.str) #[zd hA,zc,rfl] ?_ ?_]) λh0=>#[s3,_,hL3,?_]]
    ·refine nm3 ?_;rintro j tO H' hj ⟨hs,hH,rfl⟩:_;right
     erw[wU]
     rfl'
     refine#[xv,hH,by erw[af,aO];lia,CNx.mk hj #[zD hs hA,zc,?_]];rw[fB,au];rfl
    ·rintro tO H' ⟨hs,hH,rfl⟩;rw[aZ]at hH;refine Xw hH ⋯ #[⋯,λp hp=>?_];have sp:=hs.trans (zd (o:=.tup [.str (tx (al (pwF l pws x) x)),.str (tx [])]) hp);refine#[xs,sp _ _ hX,⋯,zD (s3.trans sp) hD,ps ++ ((l.drop (i+1)).map λy=>([x,y],[y,x])) ++ [(al (pwF l pws x) x,[])],?_,?_]
     ·rw[au];exact LsA.snoc (sp _ _ hX) (Iss.same sp _ _ hI) (yF _) (qY (al (pwF l pws x) x,[])) (Us (SqT.of zc))
     ·rw[<- hps]
      erw[cmL,if_pos (show 0<pwF l pws x by lia),aK]
    ·rw[<- hps]
     erw[cmL,if_neg (show ¬ 0<pwF l pws x by lia),aK,aU]
   ·rintro σ H' ⟨s',⟨ps,hL',hps⟩,v3,v4,rfl⟩;rw[dI]at hps;have hps':ps=cmL (pwF l pws) l:=by rw[<- hps];exact (aG ps).symm
    rw[hps']at hL';exact#[s',hL',_,_,rfl]
  rintro σ H3 ⟨s3,hL3,v3,v4,rfl⟩:_;right
  rfl'
  exact q _ _ hD s3 hL3
def kA:Sp:=λvs H Q _=>∃(l pws w:()) (P:pE) (k:Nat),vs=[.str (tx w),.str (tx l),.ref P,.bl (decide (k=1))]/\H P=tI (.lst ((pws.map dq).map V.int))/\pws.length=l.length/\l.Nodup/\l.length<=3/\w.length<=100/\∀H',Same H H'->Q (.str (tx (ka k l (pwF l pws) w))) H'
theorem Qy{l pws w:()}{P:pE}(h1:H P=tI (.lst ((pws.map dq).map V.int)))(h2:pws.length=l.length)(h3:l.Nodup)(h4:l.length<=3)(h5:w.length<=100)(q:∀H',Same H H'->Q (.str (tx (ka k l (pwF l pws) w))) H'):kA [.str (tx w),.str (tx l),.ref P,.bl (decide (k=1))] H Q E:=#[l,pws,w,P,k,rfl,h1,h2,h3,h4,h5,q]
theorem iO:sQz 4 ["_law_word_here","_law_letters_here","_law_powers","_law_right","_law_due_here","_law_k","_law_letter","_law_many","_law_run"] Jw:=by nofun
theorem zbQ(B:Bt mg)(F:("_law_due"^^^Jw)) :(1&&&["_law_word_here","_law_letters_here","_law_powers","_law_right"]) kA:=by
 exists F.ok iO
 ·obtain⟨l,pws,w,P,k,rfl,hP,hpl,hnd,l3,hwl,q⟩:=h
  refine#[_,(zi (zB 4 iO.nd zX)
   (zi (yh PassesOwn.never rfl (Ul rfl B.enum (za (pv 1) zf)) (uJ (n:=2) rfl (zZ (zy (i:=5) iO.nd rfl (.inl rfl)) (zZ (zy (i:=6) iO.nd rfl (Or.inr rfl)) wy)))
    (zi (zB 7 iO.nd (va bJ dC dD Y9 (pv 0) (za (pv 6) zf)))
    (zi (zM (zA Xc (zl ix_list (pv 2) (pv 5)) ze (zC _))
     (zg (zB 7 iO.nd (zx yL (pv 7) (zl ix_list (pv 2) (pv 5)))))
     zw)
    (zi (zB 8 iO.nd (va bJ fu fv Kr zX (za (xA (own:=["_law_n"]) (caps:=["_law_letter"]) (ix:=[6]) (tt:=wU) (te:=(yf 1)) rfl (zL (sc:=zh Jw) rfl (by symm) (by symm) (by symm) rfl (by symm) (by symm) rfl) (yt rfl B.range (za (pv 7) zf)) (λ_ _ _ _ _ _=>zy (i:=0) (show List.Nodup [_,_] by decide) rfl (.inl rfl)) (λ_ _ _ _ _ _=>yv) (λ_ _ _ _ _ _=>(pv 1))) zf)))
    (zg (zM (xg (pv 3) (λ_=>rfl))
     (zg (zB 4 iO.nd (zx zQ (pv 8) (pv 4))))
     (zg (zB 4 iO.nd (zx zQ (pv 4) (pv 8))))))))))
   (zg (zm (pv 4))))),?_]
  have s16:=z6
  have due1:∀{i x:Nat},l[i]? = tI x->(lsO k (l.take (i+1))).flatMap (λx=>al (w.count x % pwF l pws x) x)=if k=1 then al (w.count x % pwF l pws x) x ++ (lsO k (l.take i)).flatMap (λx=>al (w.count x % pwF l pws x) x)else (lsO k (l.take i)).flatMap (λx=>al (w.count x % pwF l pws x) x) ++ al (w.count x % pwF l pws x) x:=λ{i x} hx=>by
   unfold lsO;rw[zO hx];by_cases hk:k=1
   ·erw[if_pos hk,fJ,List.reverse_singleton,ft,cp]
   ·erw[if_neg hk,cr,cp,eQ,aG]
  have dlen:∀i,((lsO k (l.take i)).flatMap λx=>al (w.count x % pwF l pws x) x).length<=300:=λi=>by
   rw[List.length_flatMap]
   have h1:∀L:(),(L.map λa=>(al (w.count a % pwF l pws a) a).length).sum<=L.length * 100:=λL=>by
    induction L with
    | nil=>exact ak _
    | cons a L ih =>
     rw[ar,bg,aO,ay];have h2:=Nat.mod_le (w.count a) (pwF l pws a);have h3:=dN (a:=a) (l:=w);lia
   have h4:=h1 (lsO k (l.take i))
   have h5:(lsO k (l.take i)).length<=3:=by
    unfold lsO;split
    ·rw[dW,aF];lia
    ·rw[aF];lia
   lia
  refine zj (λσ H'=>H'=H/\σ=[~~~w,~~~l,!!P,tI (.bl (decide (k=1))),tI (.str (tx [])),tJ,tJ,tJ,tJ]) ?_ ?_
  ·rfl'
   rfl
  rintro σ H1 ⟨rfl,rfl⟩:_;right;refine zj (λσ H'=>Same H1 H'/\∃v5 v6 v7 v8,σ=[~~~w,~~~l,!!P,tI (.bl (decide (k=1))),tI (.str (tx (ka k l (pwF l pws) w))),v5,v6,v7,v8]) ?_ ?_
  ·rfl'
   refine ForE.by (λi σ H'=>Same H1 H'/\∃v5 v6 v7 v8,σ=[~~~w,~~~l,!!P,tI (.bl (decide (k=1))),tI (.str (tx ((lsO k (l.take i)).flatMap λx=>al (w.count x % pwF l pws x) x))),v5,v6,v7,v8]) #[Same.refl _,tJ,tJ,tJ,tJ,by unfold lsO;split <;> rfl] ?_ ?_
   ·rintro i x σ H2 p2 hx ⟨s2,v5,v6,v7,v8,rfl⟩ hp2;have hi:=(tP.mp hx).1;have ex:l.idxOf x=i:=ky hnd (tP.mpr #[ba (ae hx),bP _]) hx
    have hpx:pws[i]? = tI (pwF l pws x):=by
     unfold pwF;rw[ex,ac,aj ⋯];rfl
    have hcx:=dN (a:=x) (l:=w);have hdl:=dlen i;have hdl':=dlen (i+1);rw[due1 hx]at hdl' ⊢;generalize (lsO k (l.take i)).flatMap (λx=>al (w.count x % pwF l pws x) x)=dd at hdl hdl' ⊢;have s3:=s2.trans (zd (o:=.tup [.int (i:Nat),.str (tx [x])]) hp2);refine zbd (SqT.of zc) ?_;generalize upd H2 p2 (.tup [.int (i:Nat),.str (tx [x])])=H3 at s3;have hP3:=s3 _ _ hP;have hat:atI ((pws.map dq).map V.int) ((i:Nat):Int)=tI (.int (pwF l pws x:Nat)):=jf (by rw[aA,aA,hpx];rfl);refine zj (λσ H'=>H'=H3/\σ=[~~~w,~~~l,!!P,tI (.bl (decide (k=1))),~~~dd,-~~~i,tI (.str (tx [x])),tI (.int (w.count x:Nat)),v8]) ?_ ?_
    ·rfl'
    rintro σ H3 ⟨rfl,rfl⟩:_;right;refine zj (λσ H'=>H'=H3/\σ=[~~~w,~~~l,!!P,tI (.bl (decide (k=1))),~~~dd,-~~~i,tI (.str (tx [x])),tI (.int (w.count x % pwF l pws x:Nat)),v8]) ?_ ?_
    ·rfl'
     refine#[_,SqL.of hP3,_,hat,_,rfl,yM (λh0=>#[_,SqL.of hP3,_,hat,_,rfl,⋯,by rw[Int.natCast_emod]]) λh0=>?_];rw[show pwF l pws x=0 by lia,Nat.mod_zero]
    rintro σ H3 ⟨rfl,rfl⟩:_;have hcm:=Nat.mod_le (w.count x) (pwF l pws x);right;generalize w.count x % pwF l pws x=n at hcm hdl' ⊢;refine zj (λσ H'=>Same H3 H'/\σ=[~~~w,~~~l,!!P,tI (.bl (decide (k=1))),~~~dd,-~~~i,tI (.str (tx [x])),-~~~n,tI (.str (tx (al n x)))]) ?_ ?_
    ·rfl'
     refine#[⋯,⋯,λA hA=>CompR.by (λj tO H'=>Same H3 H'/\H' A=tI (.lst tO)/\tO=(al j (tx [x])).map V.str) #[zd hA,zc,rfl] ?_ ?_]
     ·refine nm3 ?_;rintro j tO H' hj ⟨hs,hH,rfl⟩:_;right
      erw[wU]
      rfl'
      refine#[xv,hH,by erw[af,aO];lia,CNx.mk hj #[zD hs hA,zc,?_]];rw[fB,au];rfl
     ·rintro tO H' ⟨hs,hH,rfl⟩;rw[aZ]at hH;exact Xw hH ⋯ #[hs,rfl]
    rintro σ H4 ⟨s4,rfl⟩:_;have s34:=s3.trans s4;right
    rfl'
    by_cases hk:k=1
    ·erw[hk,decide_true,if_true,ah]at hdl' ⊢
     exact#[⋯,s34,trivial]
    ·erw[hk,decide_false,if_false,ah]at hdl' ⊢
     exact#[⋯,s34,trivial]
   ·rintro σ H' ⟨s',v5,v6,v7,v8,rfl⟩;rw[aP];exact#[s',_,_,_,_,rfl]
  rintro σ H2 ⟨s2,v5,v6,v7,v8,rfl⟩:_;right
  rfl'
  exact q _ s2
def Vy:Sp:=λvs H Q _=>∃(w:()) (n:Int),vs=[.str (tx w),.int n]/\w.length<=100/\∀v:(),v.length=w.length->(∀c ∈ v,c ∈ w)->Q (.str (tx v)) H
theorem ip:sQz 2 ["_law_word_here","_law_number","_law_mingled_here","_law_sign","_law_at"] qk:=by nofun
theorem WX(B:Bt mg)(F:("_law_mingled"^^^qk)) :(1&&&["_law_word_here","_law_number"]) Vy:=by
 exists F.ok ip
 ·obtain⟨w,n,rfl,hwl,q⟩:=h
  refine#[_,(zi (zB 2 ip.nd zX)
   (zi (yh PassesOwn.never rfl (Wq (pv 0)) (zy (i:=3) ip.nd rfl (.inl rfl))
    (zi (zB 4 ip.nd (zx yL (pv 1) (zx yX (zG B.len (pv 2)) ze)))
    (zi (zB 1 ip.nd (zx xp (pv 1) (zx yX (zG B.len (pv 2)) ze)))
    (zg (zB 2 ip.nd (zx zQ (zx zQ (z7 xB (pv 2) yT (yb (pv 4))) (pv 3)) (z7 xB (pv 2) (yb (pv 4)) yT)))))))
   (zg (zm (pv 2))))),?_]
  have s16:=z6;refine zj (λσ H'=>H'=H/\σ=[~~~w,~~~!n,tI (.str (tx [])),tJ,tJ]) ?_ ?_
  ·rfl'
   rfl
  rintro σ H1 ⟨rfl,rfl⟩:_;right;refine zj (λσ H'=>H'=H1/\∃(v:()) (n:Int) (v3 v4:Option V),v.length=w.length/\(∀c ∈ v,c ∈ w)/\σ=[~~~w,~~~!n,~~~v,v3,v4]) ?_ ?_
  ·rfl'
   refine ForS.by (λi σ H'=>H'=H1/\∃(v:()) (n:Int) (v3 v4:Option V),v.length=i/\(∀c ∈ v,c ∈ w)/\σ=[~~~w,~~~!n,~~~v,v3,v4]) #[rfl,[],n,tJ,tJ,rfl,λc h=>(nomatch h),rfl] ?_ ?_
   ·refine nm4 ?_;rintro i x σ H2 hx ⟨rfl,v,n,v3,v4,hv,hm,rfl⟩:_;have hi:=(tP.mp hx).1;have m0:=br n (b:=(v.length:Int)+1) ⋯;have m1:=bo n (b:=(v.length:Int)+1) ⋯;right
    erw[yS,be,bc]
    refine zj (λσ H'=>H'=H2/\∃a:Nat,a<=v.length/\σ=[~~~w,~~~!n,~~~v,tI (.str (tx [x])),-~~~a]) ?_ ?_
    ·rfl'
     exact#[⋯,⋯,(n % ((v.length:Int)+1)).toNat,⋯,⋯]
    rintro σ H2 ⟨rfl,a,ha,rfl⟩:_;right;refine zj (λσ H'=>H'=H2/\∃n:Int,σ=[~~~w,~~~!n,~~~v,tI (.str (tx [x])),-~~~a]) ?_ ?_
    ·rfl'
     exact#[⋯,⋯,⋯]
    rintro σ H2 ⟨rfl,n,rfl⟩:_;right
    rfl'
    rw[jG v (d5 _),wS v (d5 _),aZ];refine#[⋯,by rw[aF];lia,⋯,by erw[ah,aF,aW,ay,aT];lia,_,?_,λc hc=>?_,rfl]
    ·erw[ah,aF,aW,ay,aT]
     lia
    ·erw[List.mem_append,List.mem_singleton]at hc
     rcases hc with (h | rfl) | h
     ·exact hm c (bF h)
     ·exact ae hx
     ·exact hm c (cE h)
   ·rintro σ H' ⟨rfl,v,n,v3,v4,hv,hm,rfl⟩;exact#[rfl,v,hv,hm,n,v3,v4,rfl]
  rintro σ H2 ⟨rfl,v,n,v3,v4,hv,hm,rfl⟩:_;right
  rfl'
  exact q v hv hm
theorem Yl{m n:Nat}(hn:n<=3)(hm:m=1\/m=2):m ^ (m * n)<=1000:=by
 rcases hm with rfl | rfl
 ·rw[Nat.one_pow];decide
 ·exact aN (Nat.pow_le_pow_right ∅ (show 2 * n<=6 by lia)) ∅
def J86(K:pD)(H:Hp)(k:Nat)(l:())(pw:Nat->Nat)(rs:List zp)(u v:())(p:pE):Prop:=(ka k l pw u=ka k l pw v/\∃(S:pE) (ss:List Stp),H p=tI (.tup [.str "alike",.ref S])/\LsA K H S (ss.map dSt)/\ss.length<=2000/\ya rs u ss=tI v)\/(ka k l pw u≠ka k l pw v/\∃(D:pE) (es:List Ent),H p=tI (.tup [.str "forms",.ref D,.str (tx (ka k l pw u)),.str (tx (ka k l pw v))])/\EnsM K H D es)
theorem Ui{l:()}{pw:Nat->Nat}{r:Nat}(hG:OG l ns k)(h3:l.length<=3)(hp4:∀x,pw x<=4)(hA:Alk (cmL pw l) rs){w:Bool}(hc:Cpl k l ns (r+1) [] (fEs rs rs.length) w es):w=tK/\zar k l ns pw 6 es/\∀{x:()} {i:Nat},(∀c ∈ x,c ∈ l)->EndsAt (zb es) x i->wAt (zb es) x i=ka k l pw x:=by
 obtain⟨hw,hF⟩:=zb0 hG h3 hp4 hA hc;refine#[hw,hF,λ{x i} hx hi=>Vo (of_decide_eq_true hG.g).2.2.2 hp4 (λp hp=>?_) hF.all hx hi];obtain⟨e,he,rfl⟩:=tQ.mp hp;exact hF.d e he
theorem Q6{l:()}{pw:Nat->Nat}{r:Nat}(hG:OG l ns k)(h3:l.length<=3)(hp4:∀x,pw x<=4)(hA:Alk (cmL pw l) rs){u v:()}(ul:u.length<=7)(vl:v.length<=7)(w:Bool)(es:List Ent)(hc:Cpl k l ns (r+1) [] (fEs rs rs.length) w es):¬ NoR es w u v:=λhno=>by
 obtain⟨rfl,hF,_⟩:=Ui hG h3 hp4 hA hc
 have mu:∀{x:()},x.length<=7->∃i,EndsAt (zb es) x i:=λ{x} hx=>by
  have hm:=Y2 (bf:=bfB k l ns) hx
  obtain⟨i,hi,_⟩:=vH (ps:=zb es) (μ:=muC k l ns) (w:=x) (λp hp a b=>by
   obtain⟨e,he,rfl⟩:=tQ.mp hp
   exact (hF.d e he).r.mu a b) (by unfold muC;lia)
  exact#[i,hi]
 obtain⟨i,hi⟩:=mu ul;obtain⟨j,hj⟩:=mu vl;rcases hno with h | h | ⟨i',j',hi',hj',h | h⟩
 ·exact h i hi
 ·exact h j hj
 ·cases h.2
 ·obtain⟨_,h⟩:=h;have hpl:=xQ es;have mi:=hi'.most;have mj:=hj'.most;rw[Ub hF.s,ah,yg,um,um,vq,vq]at h
  ·lia
  ·intro x hx;rw[<- hpl];rcases tS.mp hx with h | h
   ·have:=jM hi'.live x h;lia
   ·have:=Yw (jM hj'.live) x h;lia
theorem JOut.j86{l:()}{pw:Nat->Nat}{rs:List zp}{u v:()}{r:Nat}{p:pE}(h:JOut K H k l ns rs u v r p)(hG:OG l ns k)(h3:l.length<=3)(hp4:∀x,pw x<=4)(hrs:∀p ∈ rs,p.1.length<=60/\p.2.length<=60/\(∀c ∈ p.1,c ∈ l)/\∀c ∈ p.2,c ∈ l)(hA:Alk (cmL pw l) rs)(ui:∀c ∈ u,c ∈ l)(vi:∀c ∈ v,c ∈ l):J86 K H k l pw rs u v p:=by
 cases h with
 | alike w es i j S hc hb hi hj he hl hp hS =>
  obtain⟨rfl,hF,hd⟩:=Ui hG h3 hp4 hA hc;have hE:=(zb4 (rs:=rs) hG hc (zby hrs) (λe he=>QM he) #[λe h=>(nomatch h),.inl rfl]).1;exact .inl #[by rw[<- hd ui hi,<- hd vi hj];exact he,S,_,hp,hS,hl,Vl hE hi hj he]
 | forms es i j D hc hb hi hj hn hp hD =>
  obtain⟨_,hF,hd⟩:=Ui hG h3 hp4 hA hc;rw[hd ui hi,hd vi hj]at hn hp;exact .inr #[hn,D,es,hp,hD]
theorem J86.ans{l:()}{pw:Nat->Nat}{u v:()}{p:pE}(h:J86 K H k l pw rs u v p):zeJ K H p:=by
 rcases h with ⟨e,S,ss,h1,h2,h3⟩ | ⟨e,D,es,h1,h2⟩
 ·exact .alike S ss h1 h2
 ·exact .forms D es _ _ h1 h2
theorem J86.same{H H':Hp}{l:()}{pw:Nat->Nat}{u v:()}{p:pE}(h:J86 K H k l pw rs u v p)(s:Same H H'):J86 K H' k l pw rs u v p:=by
 rcases h with ⟨e,S,ss,h1,h2,h3⟩ | ⟨e,D,es,h1,h2⟩
 ·exact .inl #[e,S,ss,s _ _ h1,h2.same s,h3]
 ·exact .inr #[e,D,es,s _ _ h1,h2.same s]
theorem JY{p:pE}{x y:()}(h:H p=tI (.lst [.str (tx x),.str (tx y)])):Is K H (.lst [.str (tx x),.str (tx y)]) (.ref p):=by
 erw[Is,Iss]
 exact#[_,_,rfl,SqL.of h,_,_,rfl,rfl,_,_,rfl,rfl,rfl]
def Wd(K:pD)(T:pE):Sp:=λvs H Q _=>∃(a:pE) (ns:List Int),vs=[.ref a]/\SqL K H a (ns.map V.int)/\(∀z ∈ ns,jm z)/\H T=tI (.tbl #[])/\∀H',Q (.bl tK) H'
theorem gF:sQz 1 ["_law_script","_law_first","_law_letters_here","_law_weights","_law_powers","_law_pacts","_law_one","_law_other","_law_order_here","_law_asked","_law_found","_law_forms"] uR:=by nofun
theorem zbv{f CO CR CW TB:pE}(B:Bt mg)(F:("law"^^^uR))(iP:(1<<<"_law_cell") ["_law_script","_law_k"] [] (qx K))(oP:(2<<<"_law_letters") ["_law_cell_here","_law_many"] [] ue)(oV:(2<<<"_law_turned") ["_law_pacts","_law_cell_here"] [] (Yd K))(oQ:(1<<<"_law_word") ["_law_number","_law_letters_here","_law_most"] [] Y6)(pc:(6<<<"_law_order") ["_law_kind","_law_letters_here","_law_weights"] [] (Xn K CO CR CW))(oW:(11>>>"judged") ["order","pacts","one","other","rounds","most"] [] (zcc K CO CR CW TB))(oF:(1<<<"_law_commuting") ["_law_letters_here","_law_powers"] [] (Kn K))(iM:(1<<<"_law_mixed") ["_law_cell_here","_law_turn"] [] vM)(oR:(1<<<"_law_mingled") ["_law_word_here","_law_number"] [] Vy)(oX:(4<<<"_law_answer") ["_law_found","_law_many"] [] (Uk K))(pi:(1<<<"_law_due") ["_law_word_here","_law_letters_here","_law_powers","_law_right"] [] kA)(pj:(2<<<"_law_end") ["_law_pacts","_law_word_here","_law_steps_here"] [] (Vs K)):(12&&&["_law_script"]) (Wd K TB):=by
 exists F.ok gF
 ·obtain⟨a,ns,rfl,hS,hB,hT,q⟩:=h
  refine#[_,(zi (uE (i:=1) gF.nd rfl (Or.inr rfl) (cl0 iP hr .nil rfl (za (pv 0) (za ze zf))))
   (zi (uE (i:=2) gF.nd rfl (Or.inr rfl) (cl0 oP hr .nil rfl (za (pv 1) (za (zx yX ze (zx yL (zx xp (pv 1) ze) ze)) zf))))
   (zi (Yz (i:=3) gF.nd rfl (.inl rfl) (.inl rfl) (own:=["_law_k"]) (caps:=["_law_script"]) (ix:=[0]) (tt:=wU) (te:=(tOp jt (tC (.int 1)) (tOp (rI (λ_ j=>0<j) λi j=>.int (i % j)) (uu (qx K) [] E0 (zK (yf 1) (zK (tOp jt (tC (.int 1)) (yf 0)) wn))) (tC (.int 1000000))))) rfl (zL (sc:=zh uR) rfl (by symm) (by symm) (by symm) rfl (by symm) (by symm) rfl) (yt rfl B.range (za (zG B.len (pv 2)) zf)) (λ_ _ _ _ _ _=>zy (i:=0) (show List.Nodup [_,_] by decide) rfl (.inl rfl)) (λ_ _ _ _ _ _=>yv) (λ_ _ _ _ _ _=>(zx yX ze (zx yL (cl0 iP hr .nil rfl (za (pv 1) (za (zx yX ze (pv 0)) zf))) ze))))
   (zi (uE (i:=4) gF.nd rfl (Or.inr rfl) (xA (own:=["_law_k"]) (caps:=["_law_script"]) (ix:=[0]) (tt:=wU) (te:=(tOp (rI (λ_ j=>0<j) λi j=>.int (i % j)) (uu (qx K) [] E0 (zK (yf 1) (zK (tOp jt (tC (.int 4)) (yf 0)) wn))) (tC (.int 5)))) rfl (zL (sc:=zh uR) rfl (by symm) (by symm) (by symm) rfl (by symm) (by symm) rfl) (yt rfl B.range (za (zG B.len (pv 2)) zf)) (λ_ _ _ _ _ _=>zy (i:=0) (show List.Nodup [_,_] by decide) rfl (.inl rfl)) (λ_ _ _ _ _ _=>yv) (λ_ _ _ _ _ _=>(zx yL (cl0 iP hr .nil rfl (za (pv 1) (za (zx yX ze (pv 0)) zf))) ze))))
   (zi (zB 5 gF.nd (cl0 oV hr .nil rfl (za (cl0 oF hr .nil rfl (za (pv 2) (za (pv 4) zf))) (za (cl0 iP hr .nil rfl (za (pv 0) (za ze zf))) zf))))
   (zi (zB 6 gF.nd (cl0 oQ hr .nil rfl (za (cl0 iM hr .nil rfl (za (cl0 iP hr .nil rfl (za (pv 0) (za ze zf))) (za ze zf))) (za (pv 2) (za ze zf)))))
   (zi (zB 7 gF.nd (cl0 oQ hr .nil rfl (za (cl0 iM hr .nil rfl (za (cl0 iP hr .nil rfl (za (pv 0) (za ze zf))) (za ze zf))) (za (pv 2) (za ze zf)))))
   (zi (zM (zA wf (zx yL (cl0 iP hr .nil rfl (za (pv 0) (za ze zf))) ze) ze (zC _))
    (zg (zB 7 gF.nd (cl0 oR hr .nil rfl (za (pv 6) (za (cl0 iM hr .nil rfl (za (cl0 iP hr .nil rfl (za (pv 0) (za ze zf))) (za ze zf))) zf)))))
    zw)
   (zi (zB 8 gF.nd (cl0 pc hr .nil rfl (za (zx yL (pv 1) ze) (za (pv 2) (za (pv 3) zf)))))
   (zi (zB 9 gF.nd (cl0 iP hr .nil rfl (za (pv 0) (za ze zf))))
   (zi (zB 10 gF.nd (clP xe0 oW hr .nil rfl (za (pv 8) (za (xV xC rfl B.list PySem.Pv.boot_list (za (pv 5) zf)) (za (pv 6) (za (pv 7) (za (zx yL (zx xp (pv 9) ze) ze) (za (zx yX ze (zx yL (zx xp (pv 9) ze) ze)) zf))))))))
   (zi (zM (ye (xg (cl0 oX hr .nil rfl (za (pv 10) (za (zG B.len (pv 2)) zf))) (λ_=>rfl)))
    (zg (zm xO))
    zw)
   (zi (Yz (i:=11) gF.nd rfl (.inl rfl) (.inl rfl) (own:=["_law_word_here"]) (caps:=["_law_letters_here","_law_powers","_law_first"]) (ix:=[2,4,1]) (tt:=wU) (te:=(uu kA [] E0 (zK (yf 0) (zK (yf 1) (zK (yf 2) (zK (tOp rEq (tOp (rI (λ_ j=>0<j) λi j=>.int (i % j)) (yf 3) (tC (.int 3))) (tC (.int 1))) wn)))))) rfl (zL (sc:=zh uR) rfl (by symm) (by symm) (by symm) rfl (by symm) (by symm) rfl) (zbR (zY (za (pv 6) (za (pv 7) zf)))) (λ_ _ _ _ _ _=>zy (i:=0) (show List.Nodup [_,_,_,_] by decide) rfl (.inl rfl)) (λ_ _ _ _ _ _=>yv) (λ_ _ _ _ _ _=>(cl0 pi hr .nil rfl (za (pv 0) (za (pv 1) (za (pv 2) (za (yK wf (zx yL (pv 3) ze) ze (zC _)) zf)))))))
   (zi (zM (zA wf (zl ix_list (pv 11) ze) (zl ix_list (pv 11) ze) (zC _))
    (zg (zm (jS (yK wf (zl ix_tup (pv 10) ze) zX (zC _)) (jT (yK wf (cl0 pj hr .nil rfl (za (pv 5) (za (pv 6) (za (zl ix_tup (pv 10) ze) zf)))) (pv 7) (zC _))))))
    zw)
   (zg (zm (jS (yK wf (zl ix_tup (pv 10) ze) zX (zC _)) (jT (yK (UA (kP hr)) (wl (za (zl ix_tup (pv 10) ze) (za (zl ix_tup (pv 10) ze) zf))) (pv 11) (zC _)))))))))))))))))))),?_]
  have s16:=z6;have hTab:TabOk H TB lp lq:=#[#[],hT,trivial,.inl rfl];refine zj (λσ H'=>H'=H/\∃n:Int,jm n/\σ=[!!a,~~~!n,tJ,tJ,tJ,tJ,tJ,tJ,tJ,tJ,tJ,tJ]) ?_ ?_
  ·rfl'
   exact xf hS hB ∅ λc hc=>#[rfl,c,hc,rfl]
  rintro σ H0 ⟨rfl,n,hn,rfl⟩:_;right;refine zj (λσ H'=>H'=H0/\∃l:(),YJ l=tK/\l.length<=3/\σ=[!!a,~~~!n,~~~l,tJ,tJ,tJ,tJ,tJ,tJ,tJ,tJ,tJ]) ?_ ?_
  ·rfl'
   have e0:=br (n / 3) (b:=3) ∅;have e1:=bo (n / 3) (b:=3) ∅;exact#[#[∅,∅],∅,YN hn ⋯ ⋯ λl hl hnd hs=>#[rfl,l,decide_eq_true #[⋯,⋯,hs,hnd],⋯,rfl]]
  rintro σ H1 ⟨rfl,l,hg,l3,rfl⟩:_;obtain⟨l1,l6,lsm,lnd⟩:=of_decide_eq_true hg;right;refine zj (λσ H'=>Same H1 H'/\∃(W:pE) (ws:List Int),H' W=tI (.lst (ws.map V.int))/\ws.length=l.length/\(∀n ∈ ws,1<=n/\n<=1000000)/\σ=[!!a,~~~!n,~~~l,!!W,tJ,tJ,tJ,tJ,tJ,tJ,tJ,tJ]) ?_ ?_
  ·rfl'
   refine#[⋯,⋯,⋯,λD hD=>CompR.by (λi tO H'=>Same H1 H'/\H' D=tI (.lst tO)/\∃ws:List Int,tO=ws.map V.int/\ws.length=i/\∀n ∈ ws,1<=n/\n<=1000000) #[zd hD,zc,[],rfl,rfl,λn h=>(nomatch h)] ?_ ?_]
   ·refine nm3 ?_;rintro i tO H' hi ⟨hs,hH,ws,rfl,hwl,hwb⟩:_;right
    erw[wU]
    rfl'
    refine#[xv,xf (hs.seq hS) hB ⋯ λc hc=>#[_,rfl,∅,hH,by rw[af];lia,CNx.mk hi #[zD hs hD,zc,ws ++ [1+c % 1000000],by rw[au];rfl,by rw[ah,hwl];rfl,λz hz=>?_]]];rcases tS.mp hz with h | h
    ·exact hwb z h
    ·rw[tT.mp h];lia
   ·rintro tO H' ⟨hs,hH,ws,rfl,hwl,hwb⟩;exact#[hs,D,ws,hH,⋯,hwb,rfl]
  rintro σ H2 ⟨s2,W,ws,hW,hwl,hwb,rfl⟩:_;have hS2:=s2.seq hS;right;refine zj (λσ H'=>Same H2 H'/\∃(P:pE) (pws:()),H' P=tI (.lst ((pws.map dq).map V.int))/\pws.length=l.length/\(∀n ∈ pws,n<=4)/\σ=[!!a,~~~!n,~~~l,!!W,!!P,tJ,tJ,tJ,tJ,tJ,tJ,tJ]) ?_ ?_
  ·rfl'
   refine#[⋯,⋯,⋯,λD hD=>CompR.by (λi tO H'=>Same H2 H'/\H' D=tI (.lst tO)/\∃ws:(),tO=(ws.map dq).map V.int/\ws.length=i/\∀n ∈ ws,n<=4) #[zd hD,zc,[],rfl,rfl,λn h=>(nomatch h)] ?_ ?_]
   ·refine nm3 ?_;rintro i tO H' hi ⟨hs,hH,ws,rfl,hwl,hwb⟩:_;right
    erw[wU]
    rfl'
    refine#[xv,xf (hs.seq hS2) hB ⋯ λc hc=>#[_,rfl,∅,hH,by rw[af,af];lia,CNx.mk hi #[zD hs hD,zc,ws ++ [(c % 5).toNat],?_,by rw[ah,hwl];rfl,λz hz=>?_]]]
    ·rw[au,au];show _=_ ++ [V.int (((c % 5).toNat:Nat):Int)];rw[Int.toNat_of_nonneg (br c ∅)]
    ·rcases tS.mp hz with h | h
     ·exact hwb z h
     ·rw[tT.mp h];have:=bo c (b:=5) ∅;lia
   ·rintro tO H' ⟨hs,hH,ws,rfl,hwl,hwb⟩;exact#[hs,D,ws,hH,⋯,hwb,rfl]
  rintro σ H3 ⟨s3,P,pws,hP,hpl,hp4,rfl⟩:_;have hS3:=s3.seq hS2
  have hpw4:∀x,pwF l pws x<=4:=λx=>by
   unfold pwF;rw[ac]
   cases e:pws[l.idxOf x]? with
   | none=>exact aE _
   | some y=>exact hp4 y (ae e)
  right;refine zj (λσ H'=>Same H3 H'/\∃pa:pE,(∃rs,LsA K H' pa (rs.map dR)/\Alk (cmL (pwF l pws) l) rs)/\σ=[!!a,~~~!n,~~~l,!!W,!!P,!!pa,tJ,tJ,tJ,tJ,tJ,tJ]) ?_ ?_
  ·rfl'
   refine#[l,pws,P,rfl,hP,hpl,hp4,lnd,l3,λD H4 hD s4 hL4=>xf (s4.seq hS3) hB ∅ λc hc=>#[D,c,_,rfl,hc,hL4,aN (kL l3) ∅,λD' H5 rs' _ s5 hL5 hA=>#[s4.trans s5,D',#[rs',hL5,hA],rfl]]]
  rintro σ H4 ⟨s4,pa,⟨rs,hPa,hA⟩,rfl⟩:_;have hrn:rs.length<=6:=by rw[hA.1];exact kL l3
  have hS4:=s4.seq hS3;right;refine zj (λσ H'=>H'=H4/\∃w:(),w.length<=7/\(∀c ∈ w,c ∈ l)/\σ=[!!a,~~~!n,~~~l,!!W,!!P,!!pa,~~~w,tJ,tJ,tJ,tJ,tJ]) ?_ ?_
  ·rfl'
   exact xf hS4 hB ∅ λc hc=>xW hc ∅ ∅ λz hz=>X3 hz ⋯ ⋯ ∅ ∅ λw hw1 hw2=>#[rfl,w,⋯,hw2,rfl]
  rintro σ H4 ⟨rfl,u,hul,hui,rfl⟩:_;right;refine zj (λσ H'=>H'=H4/\∃w:(),w.length<=7/\(∀c ∈ w,c ∈ l)/\σ=[!!a,~~~!n,~~~l,!!W,!!P,!!pa,~~~u,~~~w,tJ,tJ,tJ,tJ]) ?_ ?_
  ·rfl'
   exact xf hS4 hB ∅ λc hc=>xW hc ∅ ∅ λz hz=>X3 hz ⋯ ⋯ ∅ ∅ λw hw1 hw2=>#[rfl,w,⋯,hw2,rfl]
  rintro σ H4 ⟨rfl,v0,hvl0,hvi0,rfl⟩:_;right;refine zj (λσ H'=>H'=H4/\∃w:(),w.length<=7/\(∀c ∈ w,c ∈ l)/\σ=[!!a,~~~!n,~~~l,!!W,!!P,!!pa,~~~u,~~~w,tJ,tJ,tJ,tJ]) ?_ ?_
  ·rfl'
   refine xf hS4 hB ∅ λc hc=>#[_,rfl,∅,yM (λ_=>?_) λ_=>#[rfl,v0,hvl0,hvi0,rfl]];exact xf hS4 hB ∅ λc hc=>xW hc ∅ ∅ λz hz=>#[u,z,rfl,⋯,λv e hv=>#[rfl,v,⋯,λc hc=>hui c (hv c hc),rfl]]
  rintro σ H4 ⟨rfl,v,hvl,hvi,rfl⟩:_;right;refine zj (λσ H'=>Same H4 H'/\∃(o:pE) (k:Nat),(OrdAt CO CR CW H' o k l ws/\k<3/\(n % 3=1 ↔ k=1))/\σ=[!!a,~~~!n,~~~l,!!W,!!P,!!pa,~~~u,~~~v,!!o,tJ,tJ,tJ]) ?_ ?_
  ·rfl'
   have m0:=br n (b:=3) ∅;have m1:=bo n (b:=3) ∅;exact#[∅,_,l,W,ws,rfl,m0,m1,hg,(s3.trans s4) _ _ hW,hwl,hwb,λo H' s' ho=>#[s',o,_,ho,⋯,⋯,rfl]]
  rintro σ H5 ⟨s5,o,k,⟨ho,k3,hk⟩,rfl⟩:_;have hG:OG l ws k:=#[hg,k3,hwl,hwb];have hsd:=XA hG hpw4 hA;have hok:jY rs:=#[⋯,λr hr=>by have:=hsd r hr;lia];have hb60:∀p ∈ rs,p.1.length<=60/\p.2.length<=60/\(∀c ∈ p.1,c ∈ l)/\∀c ∈ p.2,c ∈ l:=λp hp=>#[by have:=hsd p hp;lia,by have:=hsd p hp;lia,(hsd p hp).2];right;refine zj (λσ H'=>H'=H5/\∃x:Int,σ=[!!a,~~~!n,~~~l,!!W,!!P,!!pa,~~~u,~~~v,!!o,~~~!x,tJ,tJ]) ?_ ?_
  ·rfl'
   exact xf (s5.seq hS4) hB ∅ λc hc=>#[rfl,c,rfl]
  rintro σ H5 ⟨rfl,x,rfl⟩:_;have hPa5:=hPa.same s5;have hP5:=(s4.trans s5) _ _ hP;have hT5:=hTab.same ((s2.trans s3).trans (s4.trans s5));right;refine zj (λσ H'=>(LsA K H' pa (rs.map dR)/\H' P=tI (.lst ((pws.map dq).map V.int)))/\∃fp:pE,J86 K H' k l (pwF l pws) rs u v fp/\σ=[!!a,~~~!n,~~~l,!!W,!!P,!!pa,~~~u,~~~v,!!o,~~~!x,!!fp,tJ]) ?_ ?_
  ·rfl'
   have c0:=br (x / 2) (b:=4) ∅;have c4:=bo (x / 2) (b:=4) ∅;have d0:=br (x / 8) (b:=2) ∅;have d1:=bo (x / 8) (b:=2) ∅;obtain⟨px,hPx,hPi⟩:=id hPa5;refine#[_,.inl (SqL.of hPx),λhd hh=>#[#[∅,∅],∅,#[∅,∅],∅,?_]];have sh:=zd (o:=.lst px) hh;have hT6:=hT5.same sh;obtain⟨tp6,htp6,_⟩:=id hT6;rw[show x / 2 % 4=((x / 2 % 4).toNat:Int) by lia,show 1+x / 8 % 2=((1+x / 8 % 2).toNat:Int) by lia];exact#[o,hd,k,l,_,rs,u,v,_,_,rfl,ho.same sh,hG,#[px,zc,Iss.same sh _ _ hPi],⋯,hb60,⋯,⋯,hui,hvi,⋯,⋯,Yl ⋯ ⋯,hT6,λw es hc _=>Q6 hG l3 hpw4 hA hul hvl w es hc,λp H' sT hTk hJ=>#[(hPa5.same sh).samT sT htp6,sT.at htp6 (sh _ _ hP5) (λ_ z=>by cases z),p,hJ.j86 hG l3 hpw4 hb60 hA hui hvi,rfl]]
  rintro σ H6 ⟨⟨hPa6,hP6⟩,fp,hJ,rfl⟩:_;right;refine zj (λσ H'=>Same H6 H'/\σ=[!!a,~~~!n,~~~l,!!W,!!P,!!pa,~~~u,~~~v,!!o,~~~!x,!!fp,tJ]) ?_ ?_
  ·rfl'
   exact#[⋯,fp,_,rfl,hJ.ans,λH' s'=>#[tK,rfl,YG s']]
  rintro σ H7 ⟨s7,rfl⟩:_;have hJ7:=hJ.same s7;have hPa7:=hPa6.same s7;have hP7:=s7 _ _ hP6;right;refine zj (λσ H'=>Same H7 H'/\∃F:pE,H' F=tI (.lst [.str (tx (ka k l (pwF l pws) u)),.str (tx (ka k l (pwF l pws) v))])/\σ=[!!a,~~~!n,~~~l,!!W,!!P,!!pa,~~~u,~~~v,!!o,~~~!x,!!fp,!!F]) ?_ ?_
  ·erw[qh]
   rw[zdk]
   rfl'
   refine#[⋯,λp hp=>#[#[_,SqT.of zc],λD hD=>?_]];have sp:=zd (o:=.tup [.str (tx u),.str (tx v)]) hp;have hq8:SqT K (upd H7 p (.tup [.str (tx u),.str (tx v)])) p [.str (tx u),.str (tx v)]:=SqT.of zc;generalize upd H7 p (.tup [.str (tx u),.str (tx v)])=H8 at sp hq8 hD;have hP8:=sp _ _ hP7;refine CompT.by (xs:=[.str (tx u),.str (tx v)]) (λi tO H'=>Same H8 H'/\H' D=tI (.lst tO)/\tO=[V.str (tx (ka k l (pwF l pws) u)),V.str (tx (ka k l (pwF l pws) v))].take i) #[zd hD,zc,rfl] (λi tO H' _ h=>zq h.1 hq8) ?_ ?_
   ·refine nm4 ?_;rintro i x tO H' hx ⟨hs,hH,rfl⟩:_;have hi:=(tP.mp hx).1;right;rcases (show i=0\/i=1 by erw[ay,aT]at hi;lia)with rfl | rfl
    all_goals
     cases hx
     erw[wU]
     rfl'
     refine#[xv,∅,?_];rw[show decide (n % 3=1)=decide (k=1)from decide_eq_decide.mpr hk];exact Qy (hs _ _ hP8) hpl lnd l3 ⋯ λH'' s''=>#[s'' _ _ hH,by show _<pC;erw[bD,aT,db,ay];lia,CNx.mk hi #[zD (hs.trans s'') hD,zc,rfl]]
   ·rintro tO H' ⟨hs,hH,rfl⟩;exact#[sp.trans hs,D,hH,rfl]
  rintro σ H8 ⟨s8,F,hF,rfl⟩:_;have hJ8:=hJ7.same s8;have hPa8:=hPa7.same s8;right;rcases hJ8 with ⟨e,S,ss,h1,h2,h3,h4⟩ | ⟨e,D,es,h1,h2⟩
  ·refine W9 (λ_ _=>False) ?_ λ_ _ h=>h.elim
   rfl'
   refine#[_,SqL.of hF,_,rfl,_,SqL.of hF,_,rfl,rfl,yM (λ_=>#[_,SqT.of h1,_,rfl,rfl,?_]) λh=>absurd (by rw[e]) h];rw[if_pos ∅];exact#[_,SqT.of h1,_,rfl,za8 hPa8.is hok ⋯ h2.is h3 h4 #[rfl,by rw[decide_eq_true rfl];exact q _]]
  ·refine zj (λσ H'=>H'=H8/\σ=[!!a,~~~!n,~~~l,!!W,!!P,!!pa,~~~u,~~~v,!!o,~~~!x,!!fp,!!F]) ?_ ?_
   ·rfl'
    exact#[_,SqL.of hF,_,rfl,_,SqL.of hF,_,rfl,rfl,yM (λh=>absurd (uL (V.str.inj h)) e) λ_=>trivial]
   rintro σ H9 ⟨rfl,rfl⟩:_;right
   rfl'
   refine#[_,SqT.of h1,_,rfl,rfl,?_];rw[if_pos ∅];refine#[_,SqT.of h1,_,rfl,_,SqT.of h1,_,rfl,⋯,λF2 hF2=>Vb (.inl #[JY zc,JY (zd hF2 _ _ hF)]) (by erw[uQ,dpD];decide) ?_];rw[vN];exact q _
end
def FnE(K:pD)(x q:pL)(st:pQ)(f:pE):Prop:=∃fd,Fun K x q st f fd
def FnA(K:pD)(x:pL)(st:pQ)(f:pE):Prop:=ax K pA x=tI (tI (.ref f))/\FnE K x x st f
theorem FnA.mk{K:pD}{x:pL}{st:pQ}{h:pP}{mg:pL->Option pF}(q:FnA K x st f)(X:K.In h)(G:h.Ns pA mg):mg x=tI (.ref f)/\aJ K (.ref f)=tK/\FnE K x x st f:=by
 obtain⟨a,fd,F⟩:=q;exact#[aI X G a,F.kp,fd,F]
theorem YC{us:List pF}(h:us.length=1):∃a,us=[a]:=List.length_eq_one_iff.mp h
theorem wX{us:List pF}(h:us.length=2):∃a0 a1,us=[a0,a1]:=by
 cases us with
 | nil=>cases h
 | cons a r =>
  obtain⟨a1,rfl⟩:=YC (Nat.succ.inj h);exact#[a,a1,rfl]
theorem WE{us:List pF}(h:us.length=3):∃a0 a1 a2,us=[a0,a1,a2]:=by
 cases us with
 | nil=>cases h
 | cons a r =>
  obtain⟨a1,a2,rfl⟩:=wX (Nat.succ.inj h);exact#[a,a1,a2,rfl]
theorem zaZ{us:List pF}(h:us.length=4):∃a0 a1 a2 a3,us=[a0,a1,a2,a3]:=by
 cases us with
 | nil=>cases h
 | cons a r =>
  obtain⟨a1,a2,a3,rfl⟩:=WE (Nat.succ.inj h);exact#[a,a1,a2,a3,rfl]
theorem zer{us:List pF}(h:us.length=5):∃a0 a1 a2 a3 a4,us=[a0,a1,a2,a3,a4]:=by
 cases us with
 | nil=>cases h
 | cons a r =>
  obtain⟨a1,a2,a3,a4,rfl⟩:=zaZ (Nat.succ.inj h);exact#[a,a1,a2,a3,a4,rfl]
theorem zeO{us:List pF}(h:us.length=6):∃a0 a1 a2 a3 a4 a5,us=[a0,a1,a2,a3,a4,a5]:=by
 cases us with
 | nil=>cases h
 | cons a r =>
  obtain⟨a1,a2,a3,a4,a5,rfl⟩:=zer (Nat.succ.inj h);exact#[a,a1,a2,a3,a4,a5,rfl]
theorem ze6{us:List pF}(h:us.length=7):∃a0 a1 a2 a3 a4 a5 a6,us=[a0,a1,a2,a3,a4,a5,a6]:=by
 cases us with
 | nil=>cases h
 | cons a r =>
  obtain⟨a1,a2,a3,a4,a5,a6,rfl⟩:=zeO (Nat.succ.inj h);exact#[a,a1,a2,a3,a4,a5,a6,rfl]
theorem dfm(P:pK)(w:pM){K:pD}{mg:pL->Option pF}(base:pP){CX:CXT}{nm:pL}{ps:List pL}{sp:Sp}(h:FnOk P w K mg base CX k f fd ps sp)(m:mg nm=tI (.ref f))(p:aJ K (.ref f)=tK)(b:Binds K fd ps []):Df P w K mg base CX k nm ps [] sp:=#[_,_,h,m,p,b]
local macro_rules | `(tactic| injections)=>`(tactic| (intro _ _ _ _ _ _ us hl;first | (obtain⟨_,e⟩:=YC hl;subst e;rfl) | (obtain⟨_,_,e⟩:=wX hl;subst e;rfl) | (obtain⟨_,_,_,e⟩:=WE hl;subst e;rfl) | (obtain⟨_,_,_,_,e⟩:=zaZ hl;subst e;rfl) | (obtain⟨_,_,_,_,_,e⟩:=zer hl;subst e;rfl) | (obtain⟨_,_,_,_,_,_,e⟩:=zeO hl;subst e;rfl)))
local macro_rules | `(nofun)=>`(by injections)
theorem all_mk{l:PySem.W.OpenLaw}{w:pM}{K:pD}{h:pP}{mg:pL->Option pF}{fa f0 f1 f2 f3 f4 f5 f6 f7 f8 f9 f10 f11 f12 f13 f14 f15 f16 f17 f18 f19 f20 f21 f22 f23 f24 f25 f26 f27 f28 f29 f30 f31 f32 f33 f34 f35 f36 f37 f38 f39 f40 f41 f42 f43 f44 f45 f46 f47 f48 f49 f50 f51 f52 nX gp gv gh gg gf gk gm gy gn gw:pE}{cc TB:pE}(X:K.In h)(G:h.Ns pA mg)(hfa:mg "law" = tI (.ref fa))(hlam:∃a o fd,mg "in_order" = tI (.ref a)/\h.get? a=tI o/\o.data=.func fd/\fd.code=.ref cc)(hgT:pA≠TB)
{od6 an6 od12 an12 od31 an31 od52 an52:Option pE}{sl6 sl12 sl31 sl52:Array (Option pF)}{oc6 kV6 dc6 pm6 cd6 ct6 oc12 kV12 dc12 pm12 cd12 ct12 oc31 kV31 dc31 pm31 cd31 ct31 oc52 kV52 dc52 pm52 cd52 ct52:pF}
  {t6 t7:rZ}
  {fI:pE}
  {odI anI:Option pE}
  {slI:Array (Option pF)}
  {ocI kVI dcI pmI cdI ctI:pF}
  {t8:rZ}
  {fU:pE}
  {odU anU:Option pE}
  {slU:Array (Option pF)}
  {ocU kVU dcU pmU cdU ctU:pF}
  {tmt:rZ}
  {tmu tms tmd tmp:rZ}
  {tcu tce tcd tcp:rZ}
  {tju tjs:rZ}
  {gP:pE}
  {ij:pE}
  {iG:pE}
  {iq:pE}
  {ir:pE}
  {gY:pE}
  {gQ:pE}
  {gB:pE}
  {iY:pE}
  {gH:pE}
  {mZ:pE}
  {iL:rZ}
  {d1_gone:pF}
  {d2_gone:Option pE}
  {d3_gone:Nat}
  {d4_gone:Array (Option pF)}
  {mn:pE}
  {mm:rZ}
  {d1_unmet:pF}
  {d2_unmet:Option pE}
  {d3_unmet:Nat}
  {d4_unmet:Array (Option pF)}
  (a0:FnA K "is_small_letter" yN f0)
  (a1:FnA K "letters_of" wI f1)
  (a2:FnA K "stands_at" vp f2)
  (a3:FnA K "put" KJ f3)
  (a4:FnA K "first_within" xK f4)
  (a5:FnA K "first_from" ww f5)
  (a6:ax K pA "gone" = tI (tI (.ref f6))) (l6:K.lookup f6=tI #[oc6,od6,.func (bz "gone" "gone" (yD vg) (z9 vg) (zh vg) (.ref mZ) kV6 dc6 pm6 an6 cd6 ct6),sl6]) (k6:bU K cd6 "gone" = tK) (p6:aJ K (.ref f6)=tK)
  (a7:FnA K "back" XV f7)
  (a8:FnA K "moved" Zk f8)
  (a9:FnA K "by_pacts" uq f9)
  (a10:FnA K "pairs_of" wV f10)
  (a11:FnA K "as_rule" qr f11)
  (a12:ax K pA "in_order" = tI (tI (.ref f12))) (l12:K.lookup f12=tI #[oc12,od12,.func (bz "in_order" "in_order" (yD yC) (z9 yC) (zh yC) .none kV12 dc12 pm12 an12 cd12 ct12),sl12]) (k12:bU K cd12 "in_order" = tK) (p12:aJ K (.ref f12)=tK)
  (a13:FnA K "brought_down" xP f13)
  (a14:FnA K "refuse_beyond" xu f14)
  (a15:FnA K "built_anew" wJ f15)
  (a16:FnA K "thinned" qm f16)
  (a17:FnA K "_law_cell" Uq f17)
  (a18:FnA K "_law_mixed" Yq f18)
  (a19:FnA K "_law_letters" qJ f19)
  (a20:FnA K "_law_word" VE f20)
  (a21:FnA K "_law_whole" YX f21)
  (a22:FnA K "_law_steps" YW f22)
  (a23:FnA K "_law_used" UH f23)
  (a24:FnA K "_law_end" zaN f24)
  (a25:FnA K "_law_order" Yt f25)
  (a26:FnA K "agree" YB f26)
  (a27:FnA K "overlaps" uj f27)
  (a28:FnA K "peak" VI f28)
  (a29:FnA K "form_of" jj f29)
  (a30:FnA K "is_met" kq f30)
  (a31:ax K pA "unmet" = tI (tI (.ref f31))) (l31:K.lookup f31=tI #[oc31,od31,.func (bz "unmet" "unmet" (yD xG) (z9 xG) (zh xG) (.ref mn) kV31 dc31 pm31 an31 cd31 ct31),sl31]) (k31:bU K cd31 "unmet" = tK) (p31:aJ K (.ref f31)=tK)
  (a32:FnA K "system_by" vv f32)
  (a33:FnA K "first_entries" yE f33)
  (a34:FnA K "is_beyond" we f34)
  (a35:FnA K "thinned_within" yY f35)
  (a36:FnA K "unmet_within" xN f36)
  (a37:FnA K "entry_of" uw f37)
  (a38:FnA K "completed" wb f38)
  (a39:FnA K "table_count" wd f39)
  (a40:FnA K "tables_within" xo f40)
  (a41:FnA K "gone_within" wc f41)
  (a42:FnA K "judged_by_roads" yP f42)
  (a43:FnA K "judged_by_worlds" xx f43)
  (a44:FnA K "judged" k8 f44)
  (a45:FnA K "_law_entries" jl f45)
  (a46:FnA K "_law_table_ok" jO f46)
  (a47:FnA K "_law_answer" kH f47)
  (a48:FnA K "_law_turned" j0 f48)
  (a49:FnA K "_law_commuting" xn f49)
  (a50:FnA K "_law_due" Jw f50)
  (a51:FnA K "_law_mingled" qk f51)
  (a52:ax K pA "law" = tI (tI (.ref f52))) (l52:K.lookup f52=tI #[oc52,od52,.func (bz "law" "law" (yD uR) (z9 uR) (zh uR) .none kV52 dc52 pm52 an52 cd52 ct52),sl52]) (k52:bU K cd52 "law" = tK) (p52:aJ K (.ref f52)=tK)
  (g_LetterError:ax K pA "LetterError" = tI (tI (.ref nX)))
  (g_NoLetters:ax K pA "NoLetters" = tI (tI (.ref gp)))
  (g_NoOrder:ax K pA "NoOrder" = tI (tI (.ref gv)))
  (g_Order:ax K pA "Order" = tI (tI (.ref gh)))
  (g_FromRight:ax K pA "FromRight" = tI (tI (.ref gg)))
  (g_ByWeights:ax K pA "ByWeights" = tI (tI (.ref gf)))
  (g_NotTurned:ax K pA "NotTurned" = tI (tI (.ref gk)))
  (g_System:ax K pA "System" = tI (tI (.ref gm)))
  (g_NoUse:ax K pA "NoUse" = tI (tI (.ref gy)))
  (g_TooFar:ax K pA "TooFar" = tI (tI (.ref gn)))
  (g_TooMany:ax K pA "TooMany" = tI (tI (.ref gw)))
  (kbb:aR K (.type "bool") (.type "bool")=tI tK)
  (kt:aR K (.type "tuple") (.type "tuple")=tI tK)
  (ki:aR K (.type "int") (.type "int")=tI tK)
  (kb:aR K (.type "int") (.type "bool")=tI tL)
  (kl:aR K (.type "list") (.type "list")=tI tK)
  (XIl:XI K gp)
  (xi:ag K (.ref gp) "__init__" = tI (tI (.builtin "ValueError.__init__")))
  (XIo:XI K gv)
  (yi:ag K (.ref gv) "__init__" = tI (tI (.builtin "ValueError.__init__")))
  (most:ax K pA "MOST_LETTERS" = tI (tI (.int 6 t6)))
  (mostw:ax K pA "MOST_WEIGHT" = tI (tI (.int 1000000 t7)))
  (ny:bX K gh eX=tK)
  (nz:cj K gh=tK)
  (nA:cA K gh=tK)
  (nB:ag K (.ref gh) "__setattr__" = tI (tI (.builtin "object.__setattr__")))
  (nC:cN K gh=tK)
  (nE:aJ K (.ref gh)=tK)
  (nF:ag K (.ref gh) "letters" = tI tJ)
  (ot:aR K (.ref gh) (.ref gh)=tI tK)
  (ou:ag K (.ref gh) "__class__" = tI (tI (.builtin "object.__class__")))
  (ow:bG K gh (.type "object")=tI tK)
  (lE:bX K gg eX=tK)
  (lF:cj K gg=tK)
  (lG:cA K gg=tK)
  (lH:ag K (.ref gg) "__setattr__" = tI (tI (.builtin "object.__setattr__")))
  (lJ:cN K gg=tK)
  (lK:aJ K (.ref gg)=tK)
  (lL:ag K (.ref gg) "letters" = tI tJ)
  (mK:aR K (.ref gg) (.ref gh)=tI tK)
  (mL:ag K (.ref gg) "__class__" = tI (tI (.builtin "object.__class__")))
  (mM:bG K gg (.type "object")=tI tK)
  (lM:bX K gf eX=tK)
  (lN:cj K gf=tK)
  (lP:cA K gf=tK)
  (lQ:ag K (.ref gf) "__setattr__" = tI (tI (.builtin "object.__setattr__")))
  (lS:cN K gf=tK)
  (lT:aJ K (.ref gf)=tK)
  (lV:ag K (.ref gf) "letters" = tI tJ)
  (mN:aR K (.ref gf) (.ref gh)=tI tK)
  (mP:ag K (.ref gf) "__class__" = tI (tI (.builtin "object.__class__")))
  (mQ:bG K gf (.type "object")=tI tK)
  (nw_ByWeights:ag K (.ref gf) "weights" = tI tJ)
  (sgO:cB K (.ref gh) "__getattribute__" = tI (tI (.builtin "type.__getattribute__")))
  (rdO:fY K gh (.type "type")=tK)
  (win:ax K pA "WINDOW" = tI (tI (.int 128 t8)))
  (XIt:XI K gk)
  (nn:ag K (.ref gk) "number" = tI tJ)
  (ini:ag K (.ref gk) "__init__" = tI (tI (.ref fI)))
  (lI:K.lookup fI=tI #[ocI,odI,.func (bz "__init__" "NotTurned.__init__" (yD zR) (z9 zR) (zh zR) .none kVI dcI pmI anI cdI ctI),slI])
  (kI:bU K cdI "NotTurned.__init__" = tK)
  (pI:aJ K (.ref fI)=tK)
  (fnI:bj K (.ref fI)=tK)
  (mS:bX K gm eX=tK)
  (mT:cj K gm=tK)
  (mU:cA K gm=tK)
  (mV:ag K (.ref gm) "__setattr__" = tI (tI (.builtin "object.__setattr__")))
  (mX:cN K gm=tK)
  (mY:aJ K (.ref gm)=tK)
  (no_System:ag K (.ref gm) "order" = tI tJ)
  (nr_System:ag K (.ref gm) "rules" = tI tJ)
  (XIu:XI K gy)
  (ua:ag K (.ref gy) "at" = tI tJ)
  (iniU:ag K (.ref gy) "__init__" = tI (tI (.ref fU)))
  (lU:K.lookup fU=tI #[ocU,odU,.func (bz "__init__" "NoUse.__init__" (yD yx) (z9 yx) (zh yx) .none kVU dcU pmU anU cdU ctU),slU])
  (kU:bU K cdU "NoUse.__init__" = tK)
  (pU:aJ K (.ref fU)=tK)
  (fnU:bj K (.ref fU)=tK)
  (XIf:XI K gn)
  (vi:ag K (.ref gn) "__init__" = tI (tI (.builtin "ValueError.__init__")))
  (sFF:cZ K (.ref gn) (.ref gn)=tI tK)
  (XIm:XI K gw)
  (wi:ag K (.ref gw) "__init__" = tI (tI (.builtin "ValueError.__init__")))
  (mostt:ax K pA "MOST_TABLES" = tI (tI (.int 1000 tmt)))
  (ks:aR K (.type "str") (.type "str")=tI tK)
  (nany:ax K pA "any" = tI tJ)
  (nsorted:ax K pA "sorted" = tI tJ)
  (mou:ax K pA "MOST_USES_thinning" = tI (tI (.int 40 tmu)))
  (mos:ax K pA "MOST_STEPS_thinning" = tI (tI (.int 240 tms)))
  (mod_:ax K pA "MOST_SIDE_thinning" = tI (tI (.int 60 tmd)))
  (mop:ax K pA "MOST_PASSES" = tI (tI (.int 20 tmp)))
  (mcu:ax K pA "MOST_USES_completing" = tI (tI (.int 40 tcu)))
  (mce:ax K pA "MOST_ENTRIES" = tI (tI (.int 12 tce)))
  (mcd:ax K pA "MOST_SIDE_completing" = tI (tI (.int 10 tcd)))
  (mcp:ax K pA "MOST_PEAKS" = tI (tI (.int 8 tcp)))
  (mju:ax K pA "MOST_USES_judging" = tI (tI (.int 40 tju)))
  (mjs:ax K pA "MOST_STEPS_judging" = tI (tI (.int 2000 tjs)))
  (lj:ag K (.ref gh) "__init__" = tI (tI (.ref gP)))
  (lm:FnE K "__init__" "Order.__init__" wP gP)
  (iH:bj K (.ref gP)=tK)
  (iQ:ag K (.ref gh) "weight" = tI (tI (.ref ij)))
  (iR:FnE K "weight" "Order.weight" xF ij)
  (ik:bj K (.ref ij)=tK)
  (ln:ag K (.ref gh) "seen" = tI (tI (.ref iG)))
  (lr:FnE K "seen" "Order.seen" wC iG)
  (iI:bj K (.ref iG)=tK)
  (iu:ag K (.ref gg) "seen" = tI (tI (.ref iq)))
  (iw:FnE K "seen" "FromRight.seen" yW iq)
  (iz:bj K (.ref iq)=tK)
  (iA:ag K (.ref gf) "__init__" = tI (tI (.ref ir)))
  (iB:FnE K "__init__" "ByWeights.__init__" yV ir)
  (iC:bj K (.ref ir)=tK)
  (gZ:ag K (.ref gf) "weight" = tI (tI (.ref gY)))
  (ic:FnE K "weight" "ByWeights.weight" yc gY)
  (ie:bj K (.ref gY)=tK)
  (lu:ag K (.ref gh) "rank" = tI (tI (.ref gQ)))
  (lv:FnE K "rank" "Order.rank" xE gQ)
  (gT:bj K (.ref gQ)=tK)
  (iS:ag K (.ref gh) "before" = tI (tI (.ref gB)))
  (iT:FnE K "before" "Order.before" xM gB)
  (gC:bj K (.ref gB)=tK)
  (iZ:ag K (.ref gm) "__init__" = tI (tI (.ref iY)))
  (lc:FnE K "__init__" "System.__init__" xZ iY)
  (lg:bj K (.ref iY)=tK)
  (gJ:ag K (.ref gm) "rules_told" = tI (tI (.ref gH)))
  (gK:FnE K "rules_told" "System.rules_told" yw gH)
  (gL:bj K (.ref gH)=tK)
  (nc:K.lookup mZ=tI #[d1_gone,d2_gone,.seq #[.int 4000 iL] d3_gone,d4_gone])
  (mq:K.lookup mn=tI #[d1_unmet,d2_unmet,.seq #[.int 4000 mm] d3_unmet,d4_unmet])
  (fcO:fZ K (.ref gh) (.type "type") "__init__" = tI (.val (.ref gP)))
  (fiR_init:ag K (.ref gg) "__init__" = tI (tI (.ref gP)))
  (fiR_weight:ag K (.ref gg) "weight" = tI (tI (.ref ij)))
  (fiW_seen:ag K (.ref gf) "seen" = tI (tI (.ref iG)))
  (fiR_rank:ag K (.ref gg) "rank" = tI (tI (.ref gQ)))
  (fiW_rank:ag K (.ref gf) "rank" = tI (tI (.ref gQ)))
  (fiR_before:ag K (.ref gg) "before" = tI (tI (.ref gB)))
  (fiW_before:ag K (.ref gf) "before" = tI (tI (.ref gB)))
  (b0:ax K pA "len" = tI tJ)
  (b1:ax K pA "range" = tI tJ)
  (b2:ax K pA "isinstance" = tI tJ)
  (b3:ax K pA "str" = tI tJ)
  (b4:ax K pA "int" = tI tJ)
  (b5:ax K pA "tuple" = tI tJ)
  (b6:ax K pA "list" = tI tJ)
  (b7:ax K pA "bool" = tI tJ)
  (b8:ax K pA "enumerate" = tI tJ)
  (b9:ax K pA "all" = tI tJ)
  (b10:ax K pA "ValueError" = tI tJ)
  (b11:ax K pA "max" = tI tJ)
  (b12:ax K pA "reversed" = tI tJ)
  (b13:ax K pA "zip" = tI tJ)
  (b14:ax K pA "sum" = tI tJ)
  (b15:ax K pA "sorted" = tI tJ)
  : ∃fd:pH,(∀(s:pG) (v:pF),sI s fd #[[v],[]] [("_law_script",v)])/\∀base:pP,K.In base->base.Ns pA mg->base.BuiltinsAt mg TB->PySem.W.CodeHd base cc TB->FnOk l.prog w K mg base CX0 12 fa fd ["_law_script"] (Wd K TB):=by
 have e:=hfa.symm.trans (aI X G a52);cases e;have B:Bt mg:=#[aQ X G b0,aQ X G b1,aQ X G b2,aQ X G b3,aQ X G b4,aQ X G b5,aQ X G b6,aQ X G b7,aQ X G b8,aQ X G b9,aQ X G b10,aQ X G b11,aQ X G b12,aQ X G b13,aQ X G b14,aQ X G b15];obtain⟨M0,p0,_,F0⟩:=a0.mk X G;obtain⟨M1,p1,_,F1⟩:=a1.mk X G;have B1:=F1.binds (ps:=["text"]) nofun;obtain⟨M2,p2,_,F2⟩:=a2.mk X G;obtain⟨M3,p3,_,F3⟩:=a3.mk X G;obtain⟨M4,p4,_,F4⟩:=a4.mk X G;obtain⟨M5,p5,_,F5⟩:=a5.mk X G;have F6:FunD K "gone" "gone" vg (.ref mZ) f6 (bz "gone" "gone" (yD vg) (z9 vg) (zh vg) (.ref mZ) kV6 dc6 pm6 an6 cd6 ct6):=⟨#[_,_,_,_,_,_,_,_,_,rfl,l6,k6]⟩;have M6:=aI X G a6;obtain⟨M7,p7,_,F7⟩:=a7.mk X G;obtain⟨M8,p8,_,F8⟩:=a8.mk X G;obtain⟨M9,p9,_,F9⟩:=a9.mk X G;obtain⟨M10,p10,_,F10⟩:=a10.mk X G;obtain⟨M11,p11,_,F11⟩:=a11.mk X G;have F12:=fun_mk (st:=yC) l12 k12 p12;have M12:=aI X G a12;obtain⟨M13,p13,_,F13⟩:=a13.mk X G;obtain⟨M14,p14,_,F14⟩:=a14.mk X G;obtain⟨M15,p15,_,F15⟩:=a15.mk X G;obtain⟨M16,p16,_,F16⟩:=a16.mk X G;obtain⟨M17,p17,_,F17⟩:=a17.mk X G;obtain⟨M18,p18,_,F18⟩:=a18.mk X G;obtain⟨M19,p19,_,F19⟩:=a19.mk X G;obtain⟨M20,p20,_,F20⟩:=a20.mk X G;obtain⟨M21,p21,_,F21⟩:=a21.mk X G;obtain⟨M22,p22,_,F22⟩:=a22.mk X G;obtain⟨M23,p23,_,F23⟩:=a23.mk X G;obtain⟨M24,p24,_,F24⟩:=a24.mk X G;obtain⟨M25,p25,_,F25⟩:=a25.mk X G;obtain⟨M26,p26,_,F26⟩:=a26.mk X G;obtain⟨M27,p27,_,F27⟩:=a27.mk X G;obtain⟨M28,p28,_,F28⟩:=a28.mk X G;obtain⟨M29,p29,_,F29⟩:=a29.mk X G;obtain⟨M30,p30,_,F30⟩:=a30.mk X G;have F31:FunD K "unmet" "unmet" xG (.ref mn) f31 (bz "unmet" "unmet" (yD xG) (z9 xG) (zh xG) (.ref mn) kV31 dc31 pm31 an31 cd31 ct31):=⟨#[_,_,_,_,_,_,_,_,_,rfl,l31,k31]⟩;have M31:=aI X G a31;obtain⟨M32,p32,_,F32⟩:=a32.mk X G;obtain⟨M33,p33,_,F33⟩:=a33.mk X G;obtain⟨M34,p34,_,F34⟩:=a34.mk X G;obtain⟨M35,p35,_,F35⟩:=a35.mk X G;obtain⟨M36,p36,_,F36⟩:=a36.mk X G;obtain⟨M37,p37,_,F37⟩:=a37.mk X G;obtain⟨M38,p38,_,F38⟩:=a38.mk X G;obtain⟨M39,p39,_,F39⟩:=a39.mk X G;obtain⟨M40,p40,_,F40⟩:=a40.mk X G;obtain⟨M41,p41,_,F41⟩:=a41.mk X G;obtain⟨M42,p42,_,F42⟩:=a42.mk X G;obtain⟨M43,p43,_,F43⟩:=a43.mk X G;obtain⟨M44,p44,_,F44⟩:=a44.mk X G;obtain⟨M45,p45,_,F45⟩:=a45.mk X G;obtain⟨M46,p46,_,F46⟩:=a46.mk X G;obtain⟨M47,p47,_,F47⟩:=a47.mk X G;obtain⟨M48,p48,_,F48⟩:=a48.mk X G;obtain⟨M49,p49,_,F49⟩:=a49.mk X G;obtain⟨M50,p50,_,F50⟩:=a50.mk X G;obtain⟨M51,p51,_,F51⟩:=a51.mk X G;have F52:=fun_mk (st:=uR) l52 k52 p52;have B52:=F52.binds (ps:=["_law_script"]) nofun;have M52:=aI X G a52
 have HCC:cd12=.ref cc:=by
  obtain⟨ai,oi,fdi,m1,m2,m3,m4⟩:=hlam;have e1:=m1.symm.trans (aI X G a12);cases e1;have e2:=m2.symm.trans (X _ _ l12);cases e2;cases m3;exact m4
 refine#[bz "law" "law" (yD uR) (z9 uR) (zh uR) .none kV52 dc52 pm52 an52 cd52 ct52,λs v=>.of_eq rfl,λbase _ _ HBT HCH=>?_];have TL:zeH K mg gp:=#[XIl,xi,aI X G g_NoLetters,t6,aI X G most];have TN:zeK K mg gv:=#[XIo,yi,aI X G g_NoOrder,t7,aI X G mostw];have TO:TOrd K mg gh gg gf:=#[#[ny,nz,nA,nB],#[lE,lF,lG,lH],#[lM,lN,lP,lQ],aI X G g_Order,aI X G g_FromRight,aI X G g_ByWeights,nF,lL,lV,nw_ByWeights];have TNt:TNT K mg gk:=#[XIt,aI X G g_NotTurned,nn];have FI:=fun_mk (st:=zR) lI kI pI;have BI:=FI.binds (ps:=["self","number"]) nofun;have TD:DNT l.prog w K mg base gk:=#[TNt,_,_,ini,fnI,uc TNt FI,BI];have TS:zbz K mg gm:=#[#[mS,mT,mU,mV],aI X G g_System,no_System,nr_System];have TWi:zeA mg:=#[t8,aI X G win];have TNu:TNU K mg gy:=#[XIu,aI X G g_NoUse,ua];have FU:=fun_mk (st:=yx) lU kU pU;have BU:=FU.binds (ps:=["self","at"]) nofun;have TUd:DNU l.prog w K mg base gy:=#[TNu,_,_,iniU,fnU,kC TNu FU,BU];have TF:zbe K mg gn:=#[XIf,vi,aI X G g_TooFar];have TM:zae K mg gw:=#[XIm,wi,aI X G g_TooMany,tmt,aI X G mostt];have TMk:TMo mg:=#[#[tmu,aI X G mou],#[tms,aI X G mos],#[tmd,aI X G mod_],#[tmp,aI X G mop]];have TMcc:TMc mg:=#[#[tcu,aI X G mcu],#[tce,aI X G mce],#[tcd,aI X G mcd],#[tcp,aI X G mcp]];have TMjj:TMj mg:=#[#[tju,aI X G mju],#[tjs,aI X G mjs]];have D0:=dfm l.prog w base (Q1 F0) M0 p0 (F0.binds nofun);have D1:=dfm l.prog w base (j4 B TL F1 D0) M1 p1 B1;have D2:=dfm l.prog w base (ZH B F2) M2 p2 (F2.binds nofun);have D3:=dfm l.prog w base (zc7 B TUd F3 D2) M3 p3 (F3.binds nofun);obtain⟨_,gU⟩:=lm;have nY:=gU.kp;have lw:=gU.binds (ps:=["self","letters"]) nofun;have nZ:DMk l.prog w K mg base CX0 3 gh ["self","letters"] (qb K):=#[_,_,#[nC,lj,iH,nE],wk B gU D1,lw];have DI:DOI l.prog w K mg base gh:=#[_,_,#[sgO,rdO,fcO,nY],wk B gU D1,lw];obtain⟨_,il⟩:=iR;have lY:=il.kp;have lZ:=il.binds (ps:=["self","word"]) nofun;have nM:DM l.prog w K mg base CX0 1 gh "weight" ["self","word"] kR:=#[_,_,#[iQ,ik,lY],wz B il,lZ];obtain⟨_,iJ⟩:=lr;have mB:=iJ.kp;have mC:=iJ.binds (ps:=["self","word"]) nofun;have oa:DM l.prog w K mg base CX0 1 gh "seen" ["self","word"] Xh:=#[_,_,#[ln,iI,mB],vQ B iJ,mC];obtain⟨_,iD⟩:=iw;have nh:=iD.kp;have ni:=iD.binds (ps:=["self","word"]) nofun;have nj:DM l.prog w K mg base CX0 1 gg "seen" ["self","word"] YK:=#[_,_,#[iu,iz,nh],uo B iD,ni];obtain⟨_,iE⟩:=iB;have oS:=iE.kp;have nk:=iE.binds (ps:=["self","letters","weights"]) nofun;have nq:DMk l.prog w K mg base (CXx l.prog w) 4 gf ["self","letters","weights"] (jZ K gf):=#[_,_,#[lS,iA,iC,lT],ux B TO TN DI iE,nk];obtain⟨_,ig⟩:=ic;have mD:=ig.kp;have mE:=ig.binds (ps:=["self","word"]) nofun;have mF:DM l.prog w K mg base CX0 1 gf "weight" ["self","word"] (Y1 gf):=#[_,_,#[gZ,ie,mD],vm B TO ig,mE];have TT:TWS l.prog w K mg base gh gg gf:=#[TO,nZ,#[_,_,#[lJ,fiR_init,iH,lK],wk B gU D1,lw],nq,nM,#[_,_,#[fiR_weight,ik,lY],wz B il,lZ],mF,oa,nj,#[_,_,#[fiW_seen,iI,mB],vQ B iJ,mC]];obtain⟨_,gX⟩:=lv;have lx:=gX.kp;have ly:=gX.binds (ps:=["self","word"]) nofun;have og:DM l.prog w K mg base CX0 2 gh "rank" ["self","word"] (qN gh gg gf):=#[_,_,#[lu,gT,lx],wj B TT gX,ly];have DRk:DR l.prog w K mg base gh gg gf:=⟨λC h=>by rcases h with e | e | e; (rw[e];exact#[TO.cO,og]); (rw[e];exact#[TO.cR,#[_,_,#[fiR_rank,gT,lx],wj B TT gX,ly]]); (rw[e];exact#[TO.cW,#[_,_,#[fiW_rank,gT,lx],wj B TT gX,ly]])⟩;obtain⟨_,gD⟩:=iT;have iU:=gD.kp;have iV:=gD.binds (ps:=["self","one","other"]) nofun;have nN:DM l.prog w K mg base CX0 3 gh "before" ["self","one","other"] (Ud gh gg gf):=#[_,_,#[iS,gC,iU],xt B DRk gD,iV];have DBk:DB l.prog w K mg base gh gg gf:=⟨λC h=>by rcases h with e | e | e; (rw[e];exact#[TO.cO,nN]); (rw[e];exact#[TO.cR,#[_,_,#[fiR_before,gC,iU],xt B DRk gD,iV]]); (rw[e];exact#[TO.cW,#[_,_,#[fiW_before,gC,iU],xt B DRk gD,iV]])⟩;have D4:=dfm l.prog w base (qt B F4) M4 p4 (F4.binds nofun);have D5:=dfm l.prog w base (kZ B TWi F5 D4) M5 p5 (F5.binds nofun);have O6:=zaf (P:=l.prog) (w:=w) (base:=base) B TF TUd F6 D5 D3;have D6:Df l.prog w K mg base (CXx l.prog w) 4 "gone" ["rules","word","most"] [] (xL K gn):=#[_,_,O6,M6,p6,λs us hK hl=>by obtain⟨_,_,_,rfl⟩:=WE (us:=us) (by simpa using hl);exact BindsTo.of_defaults rfl (hK _ _ nc) rfl rfl rfl];have D6d:Df l.prog w K mg base (CXx l.prog w) 4 "gone" ["rules","word","most"] [.int 4000 iL] (xL K gn):=#[_,_,O6,M6,p6,λs us hK hl=>by obtain⟨_,_,rfl⟩:=wX (us:=us) (by simpa using hl);exact BindsTo.of_defaults rfl (hK _ _ nc) rfl rfl rfl];have D7:=dfm l.prog w base (zab B F7) M7 p7 (F7.binds nofun);have D8:=dfm l.prog w base (Jz B F8) M8 p8 (F8.binds nofun);have D9:=dfm l.prog w base (YA B F9 D8 D7) M9 p9 (F9.binds nofun);have D10:=dfm l.prog w base (Xe B F10) M10 p10 (F10.binds nofun);have D11:=dfm l.prog w base (WI B DBk F11 D7) M11 p11 (F11.binds nofun);have D12:=dfm l.prog w base (Yo B DRk (aQ X G nsorted) HCH HBT hgT F12 HCC D11) M12 p12 (F12.binds nofun);have D13:=dfm l.prog w base (qB B TMk F13 D10 D6 D6d D9 D7) M13 p13 (F13.binds nofun);have D14:=dfm l.prog w base (uY B TF TMk F14) M14 p14 (F14.binds nofun);have D15:=dfm l.prog w base (Ze B F15 D13 D14 D11) M15 p15 (F15.binds nofun);have D16:=dfm l.prog w base (WS B TF TMk F16 D12 D15 D10) M16 p16 (F16.binds nofun);have D17:=dfm l.prog w base (zaz B F17) M17 p17 (F17.binds nofun);have D18:=dfm l.prog w base (Js B F18) M18 p18 (F18.binds nofun);have D19:=dfm l.prog w base (WW B F19 D18) M19 p19 (F19.binds nofun);have D20:=dfm l.prog w base (zbb B F20) M20 p20 (F20.binds nofun);have D21:=dfm l.prog w base (QF B #[ki,kb] F21) M21 p21 (F21.binds nofun);have D22:=dfm l.prog w base (Ja B #[kl,kt,kbb] F22 D21) M22 p22 (F22.binds nofun);have D23:=dfm l.prog w base (zaQ B F23) M23 p23 (F23.binds nofun);have D24:=dfm l.prog w base (zcp B F24 D23) M24 p24 (F24.binds nofun);have D25:=dfm l.prog w base (QL B TT F25) M25 p25 (F25.binds nofun);obtain⟨_,lh⟩:=lc;have pf:=lh.kp;have nS:=lh.binds (ps:=["self","order","rules"]) nofun;have nU:DMk l.prog w K mg base (CXx l.prog w) 5 gm ["self","order","rules"] (qj K gh gg gf gk gm):=#[_,_,#[mX,iZ,lg,mY],jA B TD TS DBk lh,nS];have MS:MkS l.prog w K mg base gh gg gf gk gm:=nU;have D26:=dfm l.prog w base (QA B F26) M26 p26 (F26.binds nofun);have D27:=dfm l.prog w base (Xb B F27 D26) M27 p27 (F27.binds nofun);have D28:=dfm l.prog w base (K4 B F28 D3) M28 p28 (F28.binds nofun);have D29:=dfm l.prog w base (WM B F29 D6 D6d) M29 p29 (F29.binds nofun);have D30:=dfm l.prog w base (UT B F30 D28 D29) M30 p30 (F30.binds nofun);obtain⟨_,gM⟩:=gK;have mr:=gM.kp;have mv:=gM.binds (ps:=["self"]) nofun;have mw:DM l.prog w K mg base CX0 1 gm "rules_told" ["self"] (j3 K gm):=#[_,_,#[gJ,gL,mr],vb B TS gM,mv];have O31:=Jx (P:=l.prog) (w:=w) (base:=base) B TS F31 D27 D30 mw;have D31:Df l.prog w K mg base (CXx l.prog w) 7 "unmet" ["system","most"] [] (vW K gm gn):=#[_,_,O31,M31,p31,λs us hK hl=>by obtain⟨_,_,rfl⟩:=wX (us:=us) (by simpa using hl);exact BindsTo.of_defaults rfl (hK _ _ mq) rfl rfl rfl];have D31d:Df l.prog w K mg base (CXx l.prog w) 7 "unmet" ["system","most"] [.int 4000 mm] (vW K gm gn):=#[_,_,O31,M31,p31,λs us hK hl=>by obtain⟨_,rfl⟩:=YC (us:=us) (by simpa using hl);exact BindsTo.of_defaults rfl (hK _ _ mq) rfl rfl rfl];have D32:=dfm l.prog w base (ZI B TS MS F32 D10) M32 p32 (F32.binds nofun);have D33:=dfm l.prog w base (uS B F33) M33 p33 (F33.binds nofun);have D34:=dfm l.prog w base (Z7 B (aQ X G nany) TMcc F34) M34 p34 (F34.binds nofun);have D35:=dfm l.prog w base (uz B TF ⟨sFF⟩ F35 D16 D34) M35 p35 (F35.binds nofun);have D36:=dfm l.prog w base (qE B TF ⟨sFF⟩ TMcc F36 D31 D31d D32) M36 p36 (F36.binds nofun);have D37:=dfm l.prog w base (Yi B F37 D28 D9 D10) M37 p37 (F37.binds nofun);have D38:=dfm l.prog w base (Z0 B TMcc F38 D33 D35 D36 D37) M38 p38 (F38.binds nofun);have D39:=dfm l.prog w base (jr B F39) M39 p39 (F39.binds nofun);have D40:=dfm l.prog w base (uU B TM F40 D39) M40 p40 (F40.binds nofun);have D41:=dfm l.prog w base (ju B TF ⟨sFF⟩ TMjj F41 D6 D6d D10) M41 p41 (F41.binds nofun);have D42:=dfm l.prog w base (vX B TMjj F42 D41 D9 D7) M42 p42 (F42.binds nofun);have D43:=dfm l.prog w base (vA B F43) M43 p43 (F43.binds nofun);have D44:=dfm l.prog w base (Uy B TO TM F44 D38 D42 D40 D43) M44 p44 (F44.binds nofun);have D45:=dfm l.prog w base (WR B #[kl,kt,kbb] ⟨ks⟩ F45 D22) M45 p45 (F45.binds nofun);have D46:=dfm l.prog w base (YT B F46) M46 p46 (F46.binds nofun);have D47:=dfm l.prog w base (V2 B #[kt,ks] F47 D22 D46 D45) M47 p47 (F47.binds nofun);have D48:=dfm l.prog w base (Vq B F48 D18) M48 p48 (F48.binds nofun);have D49:=dfm l.prog w base (ZV B F49) M49 p49 (F49.binds nofun);have D50:=dfm l.prog w base (zbQ B F50) M50 p50 (F50.binds nofun);have D51:=dfm l.prog w base (WX B F51) M51 p51 (F51.binds nofun);exact zbv B F52 D17 D19 D48 D20 D25 D44 D49 D18 D51 D47 D50 D24
theorem walk{l:PySem.W.OpenLaw}{q:pK}{loose:List pL}{XP:(pL->Option pF)->pP->Prop}{YP:pM->pP->Prop}{d:DefRec}{K:Params->pD}(hn:l.most=tI 63)(hdf:d.params.defaults=[])
  (hY:∀(w:pM) (h:pP),YP w h->(K w.params).In h) (hj:((PyProof.Rows.recsOf q).find? λr=>r.name ==("in_order" : pL)).isSome=tK) (hno:∀w:pM,zai (K w.params)=tK)
  (F:∀(w:pM) (mg:pL->Option pF) (fa:pE) (h:pP) (cc T:pE),(K w.params).In h->h.Ns pA mg->mg d.name=tI (.ref fa)->(∃a o fd,mg "in_order" = tI (.ref a)/\h.get? a=tI o/\o.data=.func fd/\fd.code=.ref cc)->pA≠T ->
   ∃fd:pH,(∀(s:pG) (u:pF),sI s fd #[[u],[]] [("_law_script",u)])/\∀base:pP,(K w.params).In base->base.Ns pA mg->base.BuiltinsAt mg T->PySem.W.CodeHd base cc T->FnOk l.prog w (K w.params) mg base CX0 12 fa fd ["_law_script"] (Wd (K w.params) T)) :
  PySem.W.WalkO q loose XP YP l.row.toRowW d [] (λf vs=>gc f vs):=by
 obtain⟨din,hd⟩:=Ad.mp hj;have hnm:din.name="in_order":=by simpa using dM hd
 exact L3.walk_ofT (n:=63) (k:=12) (x:="_law_script") (CX:=λ_=>CX0) (din:=din) (sp:=λw T=>Wd (K w.params) T) hn ∅ hdf #[rfl,∅,∅] (eE hd) hY hno (λw mg fa h cc T a b c e g=>F w mg fa h cc T a b c (by rw[hnm]at e;exact e) g) (λ_ _ a ns T hl hB hT hS=>#[a,ns,rfl,hS,hB,hT,λ_=>rfl]) λ_ _ _ _ _ z=>z
end LL
namespace PySem.W.Fast
def tw4796798642159914514:=Nat
def tw4957566225098291320:=Nat
def tw8475027519502397006:=Nat
def tw3845725814223425564:=Nat
def tw4327493135271155371:=Nat
def tw4088425477107980943:=Nat
def tw13719516042240697144:=Nat
def tw8663470927553118106:=Nat
def tw10902063608183303773:=Nat
def tw7962114439107880663:=Nat
def tw4322681067583600662:=Nat
def tw10296691412098997046:=Nat
def tw6201808810480157966:=Nat
def tw4301577120668507337:=Nat
def tw2201986447416940189:=Nat
def tw11605042347857997348:=Nat
def tw112769912964638970:=Nat
def tw17083924541416039740:=Nat
def tw9995915863715492312:=Nat
def tw5594146402779458210:=Nat
def tw18082612019879782440:=Nat
def tw4491182159828694974:=Nat
def tw18097218304216116757:=Nat
def tw15222289201277618681:=Nat
def tw3548951297392656538:=Nat
def tw2547198686120054955:=Nat
def tw6823757120055809574:=Nat
def tw8175272105580967763:=Nat
def tw16123028755220041979:=Nat
def tw14278302077689290448:=Nat
def tw14178021418160132848:=Nat
def tw13919525628087779785:=Nat
def tw438257140436836914:=Nat
def tw5391333433683422617:=Nat
def tw9912720542880892787:=Nat
def tw1243102067540479100:=Nat
def tw6960229914876479427:=Nat
def tw16296610943329809376:=Nat
def tw18071671777262406703:=Nat
def tw1932451797304900037:=Nat
def tw17041214852931866546:=Nat
def tw4220400581364713392:=Nat
def tw4747387237579812403:=Nat
def tw3250167679041116938:=Nat
def tw8477466262758314657:=Nat
def tw15503832581300374430:=Nat
def tw5753085753996599378:=Nat
def tw3928683489689758834:=Nat
def tw17549591391996370183:=Nat
def tw9245808404142850172:=Nat
def tw1689403342734817726:=Nat
def tw10514168221274218977:=Nat
def tw4236585390022698354:=Nat
def tw5154264355772960518:=Nat
def tw17884558853827655058:=Nat
def tw1820973572485570083:=Nat
def tw16447177871864203953:=Nat
def tw10495995276796115486:=Nat
def tw5718668374419431231:=Nat
def tw10917441116168849051:=Nat
def tw2062328369554698573:=Nat
def tw817962908623062767:=Nat
def tw10999254066029376473:=Nat
def tw870225920015292673:=Nat
def tw14412631492534014077:=Nat
def tw5086577824009425057:=Nat
def tw14519277100046499708:=Nat
def tw6217753163017374354:=Nat
def tw1521487144444818800:=Nat
def tw11766646930047943353:=Nat
def tw16528464879961311666:=Nat
def tw7721798503935111092:=Nat
def tw3646542895498743422:=Nat
def tw8583415949410407252:=Nat
def tw16505026990732300806:=Nat
def tw3913044183284484754:=Nat
def tw11578090193266845187:=Nat
def tw875654453060657946:=Nat
def tw10921108354873349110:=Nat
def tw12318273331974768235:=Nat
def tw3149672884026605256:=Nat
def tw16745265865822888260:=Nat
def tw7513560710778642908:=Nat
def tw5284406819609599511:=Nat
def tw4832904623597308022:=Nat
def tw15606451523099366758:=Nat
def tw4206405311503888430:=Nat
def tw3059567541246784696:=Nat
def tw12323365512868047009:=Nat
def tw12743647261625133911:=Nat
def tw12811310166278461589:=Nat
def tw6043738907373560304:=Nat
def tw14509821410248643392:=Nat
def tw17606878105493090349:=Nat
def tw10693692365178806157:=Nat
def tw2651393260495353877:=Nat
def tw14086167751070855763:=Nat
def tw18047656459370183049:=Nat
def tw4396575895820615815:=Nat
def tw16992100723318878159:=Nat
def tw10681727142993861998:=Nat
def tw17414437822178609992:=Nat
def tw10107307190508595183:=Nat
def tw3066772231129508507:=Nat
def tw1342497045313409807:=Nat
def tw8186048759534760395:=Nat
def tw13318227895204199332:=Nat
def tw273152759445738154:=Nat
def tw16769531250541464669:=Nat
def tw3199396042651751514:=Nat
def tw12216078525164532915:=Nat
def tw12523347415954091627:=Nat
def tw9210415993322482782:=Nat
def tw11191438309953331394:=Nat
def tw6823401545237283959:=Nat
def tw11062538121857204685:=Nat
def tw11310465180357230091:=Nat
def tw11410235846198914306:=Nat
def tw5589637295611658877:=Nat
def tw4193691150699029083:=Nat
def tw355581479606769874:=Nat
def tw15667089497001404668:=Nat
def tw11373848960886185439:=Nat
def tw3187061947591268596:=Nat
def tw6140687089689669859:=Nat
def tw15647105758044849294:=Nat
def tw10876510217237954787:=Nat
def tw11958069774976772838:=Nat
def tw17048917860315196460:=Nat
def tw1569813618177979936:=Nat
def tw15264935079955268181:=Nat
def tw13321236367239936530:=Nat
def tw17865959011990061356:=Nat
def tw2641155086703431564:=Nat
def tw13492293130495539175:=Nat
def tw1591897695590680466:=Nat
def tw16789378804045831130:=Nat
def tw12761835277962932459:=Nat
def tw17034765737886649388:=Nat
def tw11450328710705105677:=Nat
def tw4901875247765959210:=Nat
def tw16379464442661715812:=Nat
def tw15565568678182329507:=Nat
def tw14510112620029171725:=Nat
def tw213473966077815819:=Nat
def tw11426250365410214615:=Nat
def tw1683572232401918290:=Nat
def tw4961560512166569853:=Nat
def tw9557491373999207582:=Nat
def tw17752823628866773005:=Nat
def tw7370749478967292238:=Nat
def tw5975360626520355836:=Nat
def tw13495750209259041060:=Nat
def tw11357685384624750661:=Nat
def tw6660920622960490821:=Nat
def tw10440680834211887216:=Nat
def tw11322048953674257833:=Nat
def tw8601990077409168842:=Nat
def tw1358888787013087476:=Nat
def tw4299189814146063893:=Nat
def tw10463773233465074284:=Nat
def tw7872470785961720424:=Nat
def tw13850263366017857079:=Nat
def tw7644939280529192159:=Nat
def tw9685201401967837627:=Nat
def tw16497894221750648775:=Nat
def tw3533329696364290501:=Nat
def tw2232205851604284959:=Nat
def tw11003192208590882400:=Nat
def tw8883568147404598842:=Nat
def tw15528186688245798118:=Nat
def tw12387519154188019295:=Nat
def tw7475438512601521304:=Nat
def tw7057277303254391619:=Nat
def tw15478838974759899006:=Nat
def tw11772529213387832743:=Nat
def tw5240047626962932061:=Nat
def tw15277199930173021567:=Nat
def tw5321815117216184220:=Nat
def tw11998351480042296446:=Nat
def tw11962580087738124427:=Nat
def tw8003824079791091411:=Nat
def tw1607574278537802163:=Nat
def tw11571107572064295327:=Nat
def tw2074473794562234747:=Nat
def tw10172808641896715367:=Nat
def tw3443893835882614847:=Nat
def tw2904683559572101466:=Nat
def tw10183272198992044030:=Nat
def tw16131437114721865935:=Nat
def tw16196263948523863077:=Nat
def tw5500427219113856086:=Nat
def tw1436863811707029540:=Nat
def tw904017757279556586:=Nat
def tw18071858800845756815:=Nat
def tw11807738209516326370:=Nat
def tw17009334693968200101:=Nat
def tw988728709432870171:=Nat
def tw11431414721489436732:=Nat
def tw7578071727751424882:=Nat
def tw4885347648478553032:=Nat
def tw1918767240768818118:=Nat
def tw6512313972518874706:=Nat
def tw6140272712571967637:=Nat
def tw717903108297938650:=Nat
def tw8369619017138438762:=Nat
def tw10512000162051860218:=Nat
def tw17511253839729922954:=Nat
def tw12353330613900811802:=Nat
def tw16710760679297441754:=Nat
def tw16426403390295678376:=Nat
def tw2370959028912985131:=Nat
def tw1040025137794899886:=Nat
def tw4876111610809583787:=Nat
def tw9743088602244904463:=Nat
def tw8805810175545366311:=Nat
def tw14725332232527198619:=Nat
def tw8171405620712491361:=Nat
def tw13312866633219911097:=Nat
def tw8280143114810481089:=Nat
def tw8099384107388983485:=Nat
def tw10510755618252362699:=Nat
def tw2268262043080347573:=Nat
def tw9167464641849272556:=Nat
def tw947652674657442058:=Nat
def tw7166739665601507044:=Nat
def tw7493076118323950097:=Nat
def tw14398472796793907461:=Nat
def tw14976901632934084327:=Nat
def tw1221677927618022130:=Nat
def tw64855110069461289:=Nat
def tw14578329862719858669:=Nat
def tw11281300239533865916:=Nat
def tw4149935948048899931:=Nat
def tw6062146186422570949:=Nat
def tw10198600552034824700:=Nat
def tw14963352949369632768:=Nat
def tw13564148639076909021:=Nat
def tw12002116627981531042:=Nat
def tw15315755573043821571:=Nat
def tw3559984542529220922:=Nat
def tw11818155859482962861:=Nat
def tw4739592854784012298:=Nat
def tw9851076545711782660:=Nat
def tw14691630752722798408:=Nat
def tw7419764353318459007:=Nat
def tw13837116860477075033:=Nat
def tw1197748754431132016:=Nat
def tw12266366339238915894:=Nat
def tw10016332770561681077:=Nat
def tw822497771813575522:=Nat
def tw4516283306914036565:=Nat
def tw12085894391452587307:=Nat
def tw7920839988178205963:=Nat
end PySem.W.Fast
open PySem PySem.W PyProof.Rows
set_option maxRecDepth 100000 in
set_option maxHeartbeats 0 in
theorem PySem.Challenge.cw_letterlaw_k86_whole_commuting_judged_holds : PySem.Challenge.rw_letterlaw_k86_whole_commuting_judged.Holds := by
 w_on;o_law;k_head; (case hw=>w_witness2)
 k_fill
 refine LL.walk (l:=PySem.Challenge.rw_letterlaw_k86_whole_commuting_judged) rfl rfl (λw h Y=>PySem.W.km_in_of Y) ?hJJ ?hNN ?hFF
 case hJJ=>first | kernel_rfl | rfl | decide +kernel
 case hNN=>intro w;first | kernel_rfl | rfl
 case hFF =>
  intro w mg fa h cc T KX G hmg hlam hgT
  refine' LL.all_mk KX G hmg hlam hgT ?a0 ?a1 ?a2 ?a3 ?a4 ?a5 ?a6 ?l6 ?k6 ?p6 ?a7 ?a8 ?a9 ?a10 ?a11 ?a12 ?l12 ?k12 ?p12 ?a13 ?a14 ?a15 ?a16 ?a17 ?a18 ?a19 ?a20 ?a21 ?a22 ?a23 ?a24 ?a25 ?a26 ?a27 ?a28 ?a29 ?a30 ?a31 ?l31 ?k31 ?p31 ?a32 ?a33 ?a34 ?a35 ?a36 ?a37 ?a38 ?a39 ?a40 ?a41 ?a42 ?a43 ?a44 ?a45 ?a46 ?a47 ?a48 ?a49 ?a50 ?a51 ?a52 ?l52 ?k52 ?p52 ?g_LetterError ?g_NoLetters ?g_NoOrder ?g_Order ?g_FromRight ?g_ByWeights ?g_NotTurned ?g_System ?g_NoUse ?g_TooFar ?g_TooMany ?kbb ?kt ?ki ?kb ?kl ?XIl ?xi ?XIo ?yi ?most ?mostw ?ny ?nz ?nA ?nB ?nC ?nE ?nF ?ot ?ou ?ow ?lE ?lF ?lG ?lH ?lJ ?lK ?lL ?mK ?mL ?mM ?lM ?lN ?lP ?lQ ?lS ?lT ?lV ?mN ?mP ?mQ ?nw_ByWeights ?sgO ?rdO ?win ?XIt ?nn ?ini ?lI ?kI ?pI ?fnI ?mS ?mT ?mU ?mV ?mX ?mY ?no_System ?nr_System ?XIu ?ua ?iniU ?lU ?kU ?pU ?fnU ?XIf ?vi ?sFF ?XIm ?wi ?mostt ?ks ?nany ?nsorted ?mou ?mos ?mod_ ?mop ?mcu ?mce ?mcd ?mcp ?mju ?mjs ?lj ?lm ?iH ?iQ ?iR ?ik ?ln ?lr ?iI ?iu ?iw ?iz ?iA ?iB ?iC ?gZ ?ic ?ie ?lu ?lv ?gT ?iS ?iT ?gC ?iZ ?lc ?lg ?gJ ?gK ?gL ?nc ?mq ?fcO ?fiR_init ?fiR_weight ?fiW_seen ?fiR_rank ?fiW_rank ?fiR_before ?fiW_before ?b0 ?b1 ?b2 ?b3 ?b4 ?b5 ?b6 ?b7 ?b8 ?b9 ?b10 ?b11 ?b12 ?b13 ?b14 ?b15
  (case a0|a1|a2|a3|a4|a5=>exact#[by k_is,_,L2.fun_mk (by k_is) (by k_is) (by k_is)])
  case a6|l6|k6|p6=>k_is
  (case a7|a8|a9|a10|a11=>exact#[by k_is,_,L2.fun_mk (by k_is) (by k_is) (by k_is)])
  case a12|l12|k12|p12=>k_is
  (case a13|a14|a15|a16|a17|a18|a19|a20|a21|a22|a23|a24|a25|a26|a27|a28|a29|a30=>exact#[by k_is,_,L2.fun_mk (by k_is) (by k_is) (by k_is)])
  case a31|l31|k31|p31=>k_is
  (case a32|a33|a34|a35|a36|a37|a38|a39|a40|a41|a42|a43|a44|a45|a46|a47|a48|a49|a50|a51=>exact#[by k_is,_,L2.fun_mk (by k_is) (by k_is) (by k_is)])
  case a52|l52|k52|p52|g_LetterError|g_NoLetters|g_NoOrder|g_Order|g_FromRight|g_ByWeights|g_NotTurned|g_System|g_NoUse|g_TooFar|g_TooMany|xi|yi|most|mostw|nB|nE|nF|ou|ow|lH|lK|lL|mL|mM|lQ|lT|lV|mP|mQ|nw_ByWeights|sgO|win|nn|ini|lI|kI|pI|mV|mY|no_System|nr_System|ua|iniU|lU|kU|pU|vi|sFF|wi|mostt|nany|nsorted|mou|mos|mod_|mop|mcu|mce|mcd|mcp|mju|mjs|lj|iQ|ln|iu|iA|gZ|lu|iS|iZ|gJ=>k_is
  (case XIl|XIo|XIt|XIu|XIf|XIm=>exact#[#[by first | kernel_rfl | rfl | k_is | decide +kernel,by k_is,by k_is,by k_is,by k_is],by k_is,by k_is,by k_is,by k_is])
  case nc|mq|fcO|fiR_init|fiR_weight|fiW_seen|fiR_rank|fiW_rank|fiR_before|fiW_before|b0|b1|b2|b3|b4|b5|b6|b7|b8|b9|b10|b11|b12|b13|b14|b15=>k_is
  (case lm|iR|lr|iw|iB|ic|lv|iT|lc|gK=>exact#[_,L2.fun_mk (by k_is) (by k_is) (by k_is)])
  (case kbb|kt|ki|kb|kl|ot|mK|mN|ks=>first | kernel_rfl | rfl)
  (case ny|nA|nC|lE|lG|lJ|lM|lP|lS|rdO|mS|mU|mX=>first | kernel_rfl | rfl | k_is | decide +kernel)
  (case nz|lF|lN|fnI|mT|fnU|iH|ik|iI|iz|iC|ie|gT|gC|lg|gL=>first | kernel_rfl | rfl | k_is)
#print axioms PySem.Challenge.cw_letterlaw_k86_whole_commuting_judged_holds
