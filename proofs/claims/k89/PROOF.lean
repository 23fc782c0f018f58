import PyProof.Rows.All
import Wide.All
import OpenK.AllK
import Wide.FinOn
import PyProof.EqAt
import PyProof.EqKinds
import PyProof.NeKinds
import PyProof.TupleCall
import KE.KRevIter
import PyProof.ZipIter
import PyProof.Rows.SetFrom
import PyProof.StrWalks
import PyProof.DictStraight
import PyProof.StrLawsFrom
import PyProof.Rows.StrNews2
import KE.KMinBuiltin
import PyProof.Rows.CallKwBuiltin
import PyProof.Rows.SortShell
import KE.KSortTup
import KE.KBoundM
import KE.KLam
import Lean
import PySem.Challenge.RW_letterlaw_k89_whole_tables_judged
set_option compiler.extract_closed false
local macro_rules | `(tactic| exists $t)=>`(tactic| refine $t (λvs H Q E h=>by repeat (first | (obtain⟨e,_⟩:=h;subst e;rfl) | obtain⟨_,h⟩:=h)) (λ$(Lean.mkIdent `cdv) $(Lean.mkIdent `A) $(Lean.mkIdent `outer) $(Lean.mkIdent `s) $(Lean.mkIdent `H) $(Lean.mkIdent `vs) $(Lean.mkIdent `Q) $(Lean.mkIdent `E) $(Lean.mkIdent `hr) $(Lean.mkIdent `h)=>?_))
local macro_rules | `(tactic| exists $t,0)=>`(tactic| refine $t (λvs H Q E h=>by repeat (first | (obtain⟨e,_⟩:=h;subst e;rfl) | obtain⟨_,h⟩:=h)) (λ$(Lean.mkIdent `cdv) $(Lean.mkIdent `A) $(Lean.mkIdent `outer) $(Lean.mkIdent `s) $(Lean.mkIdent `H) $(Lean.mkIdent `vs) $(Lean.mkIdent `Q) $(Lean.mkIdent `E) $(Lean.mkIdent `hr) $(Lean.mkIdent `hx) $(Lean.mkIdent `h)=>?_))
local macro_rules | `(tactic| rintro $p* : _)=>`(tactic| rintro $(Lean.mkIdent `Gz):ident $(Lean.mkIdent `hGz):ident $p*)
local macro_rules | `(tactic| right)=>`(tactic| subst $(Lean.mkIdent `hGz))
local macro_rules | `($s⁻¹)=>`(($s).heap.objs.size)
local macro_rules | `(⋯)=>`(by lia)
local macro_rules | `(∅)=>`(by decide)
local macro_rules | `(tactic| erw [$[$a:term],*] $[$l:location]?)=>`(tactic| simp only [$[$a:term],*] $[$l:location]?)
local macro_rules | `(())=>`(List Nat)
local macro_rules | `(#[$a,*])=>if a.getElems.size>1 then `(⟨$a,*⟩) else Lean.Macro.throwUnsupported
open List renaming getElem?_eq_some_iff→Af,mem_map→Ag,mem_cons→Ah,mem_append→Ai,mem_singleton→Aj,mem_range→Al,mem_filter→Am,mem_reverse→An,all_eq_true→Ao,nodup_cons→Ap,length_pos_iff→Ar,mem_flatMap→As,length_eq_zero_iff→Au,pairwise_append→Av,mem_iff_getElem?→Ax,mem_filterMap→Ay,any_eq_true→Az,find?_eq_none→AA,nodup_iff_count→AB,pairwise_cons→AC
open Option renaming map_eq_some_iff→Ak,isSome_iff_exists→Aq,bind_eq_some_iff→Aw
local macro_rules | `(tactic| symm)=>`(tactic| decide +kernel)
local macro_rules | `(tactic| nofun)=>`(tactic| exact⟨rfl,rfl,rfl,by decide +kernel,rfl,by decide +kernel,by decide +kernel⟩)
open List renaming getD_eq_getElem?_getD→aa,length_map→ac,getElem?_eq_getElem→ae,mem_of_getElem?→af,size_toArray→aj,length_append→ak,mem_cons_of_mem→am,map_cons→ao,getElem?_map→ar,mem_cons_self→aw,map_append→ax,mem_append_right→aA,length_cons→aB,idxOf_lt_length_of_mem→aC,range→aH,length_take→aI,append_assoc→aL,map_nil→aM,take_length→aO,append_nil→aP,drop_eq_getElem_cons→aS,replicate→aT,lookup_cons→aU,set_cons_zero→aW,set_cons_succ→aX,nil_append→aZ,take_of_length_le→ba,drop_of_length_le→bc,toArray→be,length_drop→bg,cons_append→bh,sum_cons→bi,take_append_of_le_length→bj,mem_append_left→bn,lookup→bo,map_congr_left→bt,getElem?_reverse→bu,mem_of_mem_take→bB,getElem?_append_right→bC,take_zero→bE,take_append_drop→bH,length_replicate→bP,getElem?_eq_none→bQ,getElem_idxOf→bS,getElem?_append_left→bT,length_range→bZ,drop_append_of_le_length→cb,eraseIdx_cons_succ→ce,replicate_succ→cf,map_map→cp,length_nil→cu,range_succ→cw,foldl_append→cz,getElem?_take_of_lt→cC,length_reverse→cE,flatMap_append→cF,getElem?_cons_zero→cG,filter_append→cK,length_filter_le→cM,getElem_mem→cP,mem_of_mem_drop→cQ,of_mem_zip→cX,filter_nil→da,contains_cons→dc,zip_cons_cons→de,getElem?_cons_succ→dg,range_succ_eq_map→dj,eraseIdxIfInBounds_toArray→dw,foldl_cons→dA,find?_some→dD,eq_nil_of_length_eq_zero→dI,filterMap_cons→dJ,getElem?_range→dN,replicate_zero→dO,take_succ_cons→dP,drop_zero→dW,drop_drop→dX,length→dY,flatMap_cons→d9,eraseIdx_nil→ee,extract_eq_drop_take→ef,mem_of_find?_eq_some→eg,drop_length→eE,map_reverse→eK,filter_cons→eL,not_mem_nil→eN,getElem?_replicate→eO,pairwise_singleton→eP,filter_cons_of_pos→eQ,filter_cons_of_neg→eR,forIn_cons→eV,getElem?_set_self→eW,length_singleton→e7,mem_range→fh,take_take→fj,foldl_nil→fk,getElem?_set_ne→fm,all_cons→ft,mem_cons→fw,find?_eq_none→fJ,getElem_range→fL
open PySem.W renaming findIn→ag,nsIn→au,mg_of→aF,keepIn→aJ,mg_none_of→aN,kitOne→aQ,isFn→aV,kia_one→bf,fnOf→bp,emptyDict→bF,mroIn→bI,codeIn→bJ,plainGet→bM,callWith_K→bO,kla_fn→bR,instObj→bU,hasDictIn→bY,methodCall_KW→cq,plainOver→cy,looks_findIn→cA,makesIn→cI,subIn→cS,specialIn→dh,takesIn→dz,plainGet_of→dM,lookIn→dQ,methodObj→d6,kitx_list→d7,envX→eG,takerIn→eS,cellsFrom_some→eX,callWith_K0→fz,kitx_tuple→fF,set_plain→fM,kitx_dict→fN,handedIn→fO,bind_fn→fP,findObj→fQ,kat_nil→fS,kas_ask→fV
open PySem.Heap renaming get?_push_of_some→ah,lt_size→aq,get?_update_other→aE,get?_push_size→aG,get?_update_self→cr,size_update→dn,size_push→dU
open Nat renaming le_refl→al,lt_of_lt_of_le→av,ne_of_lt→ay,zero_le→aD,le_trans→aK,not_lt_zero→bV,le_succ→cj,ne_of_gt→cB,lt_irrefl→cH,lt_of_le_of_lt→cJ,lt_succ_of_lt→cL,le_of_not_lt→cN,min_eq_left→cZ,le_of_lt→db,mul_le_mul→df,min_eq_right→dq,lt_or_ge→dC,mul_le_mul_right→dH,lt_trichotomy→d8,min_le_right→eh,succ_mul→eC,succ_ne_self→eD,zero_add→eF,sub_self→eM,pow_le_pow_right→fq,le_of_eq→fB,min_self→fG
open Bool renaming false_ne_true→az,false_eq_true→br,eq_false_or_eq_true→bX,and_eq_true→ci,eq_iff_iff→cU,not_eq_true'→di,or_true→dB,not_true→d5,and_false→e8,not_false→fg,beq_comm→fu,true_and→fv
open Int renaming toNat_natCast→aR,emod_nonneg→bx,emod_lt_of_pos→bz,eq_ofNat_of_zero_le→bA,natCast_mul→dF
open PySem.F renaming plainAttrs_list→aY,slot_list_append→bv,type_list_append→bw,plain_max_loop→bD,plainAttrs_str→bL,entry_max_loop→dk,slot_str_find→du,type_str_find→dv,excBase_ValueError→d4,slot_str_index→eY,type_str_index→eZ
open PyProof.Rows renaming callWith_type1→bq
open Decidable renaming byContradiction→bG
open PySem renaming mem_of_lookup→bK,strKind→cT,frameOf→dZ,passOn→fH,call→fR
open Option renaming bind_some→bN,getD_some→cD,map_some→cY,getD_none→dm,join_some→eI,join_none→eJ
open PySem.Str renaming ofString→bW,empty→eU
open Array renaming length_toList→dL,getElem?_toList→e9,getD→fo,toList_append→fA
open PySem renaming wpAny_bind→pQ,wpAny_pure→pR,mainGlobals→pS,starEach→pT,sizeLine→pV
open PySem.W renaming Frag→pW
open PySem renaming Addr→pX,Value→pY,Shared→pZ,FuncData→ra,Program→rb,wpAny→rd,Str→re,World→rf,Around→rg,Expr→rh,Heap→rj,Stmt→rn,compareOp→rp,keywordEach→rq,backTo→rA,wpAny_truthy_bool→rB,wpAny_Call_Name_kw→rD,sizeLine_eq→rE,Obj→rF,wpAny_holding→rG,bootBuiltins→rH,backToKw→rJ,wpAny_loadPart_at→rK,Scope→rL,wpAny_passesOwn→rM,wpAny_standAt→rN,wpAny_noRaise→rO,Pos→rP,wpAny_execs_nil→rQ,wpAny_setField→rR,wpAny_mono→rS,wpAny_field→rT,wpAny_call→rV,wpAny_execs_cons→rW,codeAny_mono→rX,codeAny→rY,wpAny_isSubtype_exc→rZ,codeAny_builtin→sf,Arguments→si,wpAny_tryCatch→sj,wpAny_pyIter_list→sk,wpAny_pyIter_enum→so,plainObj_wpAny_Assign_Attribute→sq,CmpOp→sr,codeAny_call_builtin→su,NameKind→sv,wpAny_letOwnedTupleGo_enum→sB,wpAny_letGo→sC,wpAny_comprehension_free→sE,wpAny_pyNext_enum_itemD→sF,wpAny_getItem_str_slice→sH,wpAny_pyNext_range_end→sI,wpAny_pyNext_enum_endD→sJ,wpAny_pyIter_rangeiter→sK,wpAny_updateSeq→sM,Env→sN,wpAny_seqItems→sP,wpAny_pyIter_revIter→sQ,wpAny_newFunctionEnv→sS,wpAny_loadPart→sU,strIterType→sV,recursionLimit→sW,excClassObj→sX,Result→sY,IsRangeIter→sZ,BindsTo→tj,Tok→tu,wpAny_newList→tw,wpAny_attempt→tz,ExceptHandler→tD,wpAny_pyIter_range→tE,wpAny_newObj_type→tF,wpAny_assign_Name→tG,wpAny_Return_some→tH,wpAny_Assign_Name→tI,Model→tJ,GenState→tK,wpAny_lookBehind→tL,wpAny_Try_except→tM,isCodeTable→tN,Sem→tO,Keyword→tP,wpAny_rule→tR,wpAny_Name→tS,TriplesOk→tU,Paired→tV
open PyProof.Rows renaming seqObj→rz,envOfC→sw,AllBare→sy,subscriptTail_builtinR→sL,subscriptTail→tB,IntsAre→tQ,Subscript_→tT,Call_→tX
open PySem.W renaming KasT→tW
open Option renaming some→tY,none→tZ
open Bool renaming true→Aa,false→Ab
open PySem PySem.Spec PyProof.Rows
set_option Elab.async false
set_option linter.all false
set_option maxRecDepth 100000
set_option maxHeartbeats 4000000
namespace L2
noncomputable abbrev Key:=Sum Int re
noncomputable def zdr:Key->pY->Bool
 | .inl k,v=>Value.isInt k v
 | .inr x,v=>Value.isStrOf x v
noncomputable def zfo(w:rf):Key->Int
 | .inl k=>hashInt k
 | .inr x=>hashStr w x
theorem z9:∀{k:Key} {v:pY},zdr k v=Aa->(∃i t,k=Sum.inl i/\v=Value.int i t)\/(∃x t,k=Sum.inr x/\v=Value.str x t)
 | .inl i,v,h=>by
  obtain⟨t,e⟩:=Value.isInt_shape (k:=i) (v:=v) h;exact .inl #[i,t,rfl,e]
 | .inr x,v,h=>by
  obtain⟨t,e⟩:=Value.isStrOf_shape (x:=x) (v:=v) h;exact .inr #[x,t,rfl,e]
theorem zc7(a b:Int):decide ((Sum.inl a:Key)=Sum.inl b)=(a == b):=by
 by_cases e:a=b
 ·subst e;simp
 ·have h:¬ (Sum.inl a:Key)=Sum.inl b:=λq=>e (Sum.inl.inj q);rw[decide_eq_false h];exact (beq_eq_false_iff_ne.mpr e).symm
theorem zcn(a b:re):decide ((Sum.inr a:Key)=Sum.inr b)=decide (a=b):=by
 by_cases e:a=b
 ·subst e;simp
 ·have h:¬ (Sum.inr a:Key)=Sum.inr b:=λq=>e (Sum.inr.inj q);rw[decide_eq_false h,decide_eq_false e]
theorem zdt(a:Int)(b:re):decide ((Sum.inl a:Key)=Sum.inr b)=Ab:=decide_eq_false (λq=>nomatch q)
theorem zcx(a:re)(b:Int):decide ((Sum.inr a:Key)=Sum.inl b)=Ab:=decide_eq_false (λq=>nomatch q)
noncomputable def Xq(prog:rb)(w:rf):PySem.KeyKind prog w Key where
 is:=zdr
 hash:=zfo w
 inj:=λv a b ha hb=>by
  rcases z9 ha with ⟨i,t,rfl,rfl⟩ | ⟨x,t,rfl,rfl⟩
  ·rcases z9 hb with ⟨j,u,rfl,e⟩ | ⟨y,u,rfl,e⟩
   ·injection e with e1 _;rw[e1]
   ·exact nomatch e
  ·rcases z9 hb with ⟨j,u,rfl,e⟩ | ⟨y,u,rfl,e⟩
   ·exact nomatch e
   ·injection e with e1 _;rw[e1]
 byValue:=λk v h=>by
  rcases z9 h with ⟨i,t,rfl,rfl⟩ | ⟨x,t,rfl,rfl⟩ <;> rfl
 pyHash:=λhv h=>by
  rcases z9 hv with ⟨i,t,rfl,rfl⟩ | ⟨x,t,rfl,rfl⟩
  ·exact wpAny_pyHash_int h
  ·exact wpAny_pyHash_str h
 eqBool:=λhu hv h=>by
  rcases z9 hu with ⟨i,t,rfl,rfl⟩ | ⟨x,t,rfl,rfl⟩
  ·rcases z9 hv with ⟨j,u,rfl,rfl⟩ | ⟨y,u,rfl,rfl⟩
   ·rw[zc7]at h;exact wpAny_eqBool_int h
   ·rw[zdt]at h;exact SeqAt.EqAt.int_str i t y u _ _ _ _ h
  ·rcases z9 hv with ⟨j,u,rfl,rfl⟩ | ⟨y,u,rfl,rfl⟩
   ·rw[zcx]at h;exact SeqAt.EqAt.str_int x t j u _ _ _ _ h
   ·rw[zcn]at h;exact wpAny_eqBool_str h
 «strs»:=λk x t v h=>by
  rcases z9 h with ⟨i,u,rfl,e⟩ | ⟨y,u,rfl,e⟩
  ·exact nomatch e
  ·injection e with e1 _;subst e1;cases v <;> rfl
inductive V where
 | non | bl (b:Bool) | int (i:Int) | str (x:re) | byt (b:Array UInt8) | flt (b:UInt64) | ref (a:pX) | ty (n:String)
 deriving DecidableEq
def RelV:V->pY->Prop
 | .non,u=>u=Value.none
 | .bl b,u=>u=Value.bool b
 | .int i,u=>∃t,u=Value.int i t
 | .str x,u=>∃t,u=Value.str x t
 | .byt b,u=>∃t,u=Value.bytes b t
 | .flt b,u=>∃t,u=Value.float b t
 | .ref a,u=>u=Value.ref a
 | .ty n,u=>u=Value.type n
abbrev Vals:List V->List pY->Prop:=tV RelV
theorem Vals.length{xs:List V}{us:List pY}(r:Vals xs us):xs.length=us.length:=Paired.length r
theorem Vals.get:∀{xs:List V} {us:List pY} {i:Nat} {x:V},Vals xs us->xs[i]? = tY x->∃u,us[i]? = tY u/\RelV x u
 | _,_,_,_,.nil,e=>by simp at e
 | _,_,0,_,.cons r _,e=>by simp at e;subst e;exact#[_,rfl,r]
 | _,_,i+1,x,.cons _ t,e=>by
  obtain⟨u,h1,h2⟩:=Vals.get (i:=i) (x:=x) t (by simpa using e);exact#[u,by simpa using h1,h2]
theorem Vals.set{x:V}{u:pY}(r:RelV x u):∀{xs:List V} {us:List pY} (i:Nat),Vals xs us->Vals (xs.set i x) (us.set i u)
 | _,_,_,.nil=>.nil
 | _,_,0,.cons _ t=>.cons r t
 | _,_,i+1,.cons q t=>.cons q (Vals.set r i t)
theorem Vals.append:∀{xs ys:List V} {us ws:List pY},Vals xs us->Vals ys ws->Vals (xs ++ ys) (us ++ ws)
 | _,_,_,_,.nil,s=>s
 | _,_,_,_,.cons r t,s=>.cons r (Vals.append t s)
theorem Vals.take:∀{xs:List V} {us:List pY} (n:Nat),Vals xs us->Vals (xs.take n) (us.take n)
 | _,_,0,_=>.nil
 | _,_,_+1,.nil=>.nil
 | _,_,n+1,.cons r t=>.cons r (Vals.take n t)
theorem Vals.drop:∀{xs:List V} {us:List pY} (n:Nat),Vals xs us->Vals (xs.drop n) (us.drop n)
 | _,_,0,r=>r
 | _,_,_+1,.nil=>.nil
 | _,_,n+1,.cons _ t=>Vals.drop n t
def RelO:Option V->Option pY->Prop
 | some v,tY u=>RelV v u
 | none,tZ=>True
 | _,_=>False
def KV{κ:Type}:List (κ × V)->List (κ × pY)->Prop:=tV λ(p:κ × V) (q:κ × pY)=>p.1=q.1/\RelV p.2 q.2
noncomputable def kV:Key->V
 | .inl i=>.int i
 | .inr x=>.str x
inductive HO where
  | lst (xs:List V)
  | tup (xs:List V)
  | dK (kvs:List (Key × V)) | dT (kvs:List (List Key × V))
  | set (S:Int->Bool) (n:Nat)
  | ins (C dx:pX) (fs:List (re × V))
  | own (x:pX)
  | xd (fs:List (re × V))
  | met (f x:pX)
  | rng (lo hi:Int)
  | frz (o:rF) (u:HO)
  | tbl (ps:Array pY)
  | ext (φ:rj->Prop)
noncomputable abbrev Hp:=pX->Option HO
noncomputable def upd(H:Hp)(a:pX)(o:HO):Hp:=λb=>if b=a then tY o else H b
theorem zf{H:Hp}{a:pX}{o:HO}:upd H a o a=tY o:=by unfold upd;rw[if_pos rfl]
theorem zp{H:Hp}{a b:pX}{o:HO}(h:b≠a):upd H a o b=H b:=by unfold upd;rw[if_neg h]
theorem zJ{H:Hp}{a b:pX}{o:HO}(h:H a=tY o)(h':H b=tZ):a≠b:=by
 intro e;subst e;rw[h]at h';cases h'
section
variable(P:rb)(w:rf)
def ObjOk(H:Hp)(h:rj)(a:pX):HO->Prop
 | .lst xs=>xs.length<=pV/\∃(its:List pY) (n:Nat),Vals xs its/\h.get? a=tY { cls:=.type "list",data:=.seq its.toArray n }
 | .tup xs=>xs.length<=pV/\∃its:List pY,Vals xs its/\IsTup h a its.toArray
 | .dK kvs=>kvs.length<=pV/\(a == sysModules)=Ab/\∃vs,KV kvs vs/\h.DictOf (Xq P w) a vs
 | .dT kvs=>kvs.length<=pV/\(a == sysModules)=Ab/\∃xs:List (List Key × pX × pY),
   tV (λ(p:List Key × V) (q:List Key × pX × pY)=>p.1=q.1/\H q.2.1=tY (.tup (p.1.map kV))/\RelV p.2 q.2.2) kvs xs /\
   ∃o es ep,h.get? a=tY o/\o.ExactDict/\o.data=.dict es ep/\es.toList=xs.map (entryOfKey (tupleKind (Xq P w)))/\(xs.map (·.1)).Nodup
 | .set S n=>h.SetOf (intKind P w) a S n
 | .ins C dx fs=>H dx=tY (.own a)/\fs.length<=1000/\dx≠a/\h.get? a=tY (bU C dx) /\
   ∃mA,h.Ns1 dx mA/\(∀f,RelO (fs.lookup f) (mA f))/\PySem.Within mA (fs.map (·.1))
 | .own _=>∃o,h.get? a=tY o
 | .xd fs=>∃mA,h.Ns1 a mA/\∀f,RelO (fs.lookup f) (mA f)
 | .rng lo hi=>∃t u v,h.get? a=tY { cls:=.type "range",data:=.fields (List.toArray [.int lo t,.int hi u,.int 1 v]) }
 | .frz o u=>h.get? a=tY o/\ObjOk H h a u
 | .tbl ps=>h.get? a=tY { cls:=.none,data:=.fields ps }
 | .met f x=>h.get? a=tY (d6 (.ref f) (.ref x))
 | .ext φ=>φ h/\(∃o,h.get? a=tY o)/\∀h1 h2:rj,φ h1->(∀o,h1.get? a=tY o->h2.get? a=tY o)->φ h2
def HOk(H:Hp)(h:rj):Prop:=∀a o,H a=tY o->ObjOk P w H h a o
end
section
variable{P:rb}{w:rf}{H H':Hp}{h h':rj}{a:pX}{o:HO}
theorem ObjOk.lt(x:ObjOk P w H h a o):a<h.objs.size:=by
 cases o with
 | lst xs=>obtain⟨_,_,_,_,e⟩:=x;exact aq e
 | tup xs=>obtain⟨_,_,_,p⟩:=x;exact p.lt
 | dK kvs=>obtain⟨_,_,_,_,o,_,_,e,_⟩:=x;exact aq e
 | dT kvs=>obtain⟨_,_,_,_,o,_,_,e,_⟩:=x;exact aq e
 | set S n=>obtain⟨o,_,_,_,e,_⟩:=x;exact aq e
 | ins C dx fs=>obtain⟨_,_,_,e,_⟩:=x;exact aq e
 | own y=>obtain⟨_,e⟩:=x;exact aq e
 | xd fs=>obtain⟨_,⟨_,_,_,e,_⟩,_⟩:=x;exact aq e
 | rng lo hi=>obtain⟨_,_,_,e⟩:=x;exact aq e
 | frz ob u=>obtain⟨e,_⟩:=x;exact aq e
 | tbl ps=>exact aq (show h.get? a=tY _ from x)
 | met f y=>exact aq (show h.get? a=tY _ from x)
 | ext φ=>obtain⟨_,⟨_,e⟩,_⟩:=x;exact aq e
theorem Paired.mapP{α β:Type}{F G:α->β->Prop}:∀{l₁:List α} {l₂:List β},tV F l₁ l₂->(∀a b,F a b->G a b)->tV G l₁ l₂
 | _,_,.nil,_=>.nil
 | _,_,.cons r t,f=>.cons (f _ _ r) (Paired.mapP t f)
theorem ObjOk.stay(x:ObjOk P w H h a o)(k:∀b u,(b=a\/H b=tY (.own a))->h.get? b=tY u->h'.get? b=tY u)
  (ho:∀b,H b=tY (.own a)->H' b=tY (.own a)) (ht:∀b xs,H b=tY (.tup xs)->H' b=tY (.tup xs)):ObjOk P w H' h' a o:=by
 induction o with
 | lst xs=>obtain⟨z,its,n,r,e⟩:=x;exact#[z,its,n,r,k _ _ (.inl rfl) e]
 | tup xs=>obtain⟨z,its,r,ob,e,c⟩:=x;exact#[z,its,r,ob,k _ _ (.inl rfl) e,c]
 | dK kvs=>obtain⟨z,y,vs,r,ob,es,ep,e,c⟩:=x;exact#[z,y,vs,r,ob,es,ep,k _ _ (.inl rfl) e,c]
 | dT kvs =>
  obtain⟨z,y,xs,r,ob,es,ep,e,c⟩:=x;exact#[z,y,xs,Paired.mapP r λp q z=>#[z.1,ht _ _ z.2.1,z.2.2],ob,es,ep,k _ _ (.inl rfl) e,c]
 | set S n=>obtain⟨ob,es,ep,t,e,c⟩:=x;exact#[ob,es,ep,t,k _ _ (.inl rfl) e,c]
 | ins C dx fs =>
  obtain⟨d,z,ne,e,mA,⟨od,es,ep,e2,c⟩,r⟩:=x;exact#[ho _ d,z,ne,k _ _ (.inl rfl) e,mA,#[od,es,ep,k _ _ (.inr d) e2,c],r]
 | own y=>obtain⟨ob,e⟩:=x;exact#[ob,k _ _ (.inl rfl) e]
 | xd fs=>obtain⟨mA,⟨od,es,ep,e,c⟩,r⟩:=x;exact#[mA,#[od,es,ep,k _ _ (.inl rfl) e,c],r]
 | rng lo hi=>obtain⟨t,u,v,e⟩:=x;exact#[t,u,v,k _ _ (.inl rfl) e]
 | frz ob u ih=>obtain⟨e,q⟩:=x;exact#[k _ _ (.inl rfl) e,ih q]
 | tbl ps =>
  have e:h.get? a=tY { cls:=.none,data:=.fields ps }:=x;show h'.get? a=tY { cls:=.none,data:=.fields ps };exact k a _ (.inl rfl) e
 | met f y =>
  have e:h.get? a=tY (d6 (.ref f) (.ref y)):=x;show h'.get? a=tY (d6 (.ref f) (.ref y));exact k a _ (.inl rfl) e
 | ext φ=>obtain⟨p,⟨o,e⟩,st⟩:=x;exact#[st _ _ p λo q=>k _ _ (.inl rfl) q,#[o,k _ _ (.inl rfl) e],st]
theorem HOk.lt(x:HOk P w H h)(e:H a=tY o):a<h.objs.size:=(x a o e).lt
theorem HOk.fresh(x:HOk P w H h)(e:h.objs.size<=a):H a=tZ:=by
 cases q:H a with
 | none=>rfl
 | some u=>exact absurd (av (x.lt q) e) (cH _)
theorem HOk.kept(x:HOk P w H h)(k:∀b u,h.get? b=tY u->h'.get? b=tY u):HOk P w H h':=λa o e =>
 (x a o e).stay (λb u _ q=>k b u q) (λ_ q=>q) λ_ _ q=>q
theorem HOk.laid(x:HOk P w H h)(k:∀b u,h.get? b=tY u->h'.get? b=tY u)(hp:h.objs.size<=a)(new:ObjOk P w (upd H a o) h' a o):HOk P w (upd H a o) h':=λb u e=>by
 have hn:=x.fresh hp;by_cases hb:b=a
 ·subst hb;rw[zf]at e;cases e;exact new
 ·rw[zp hb]at e;exact (x b u e).stay (λc v _ q=>k c v q) (λc q=>by rw[zp (zJ q hn)];exact q) λc xs q=>by rw[zp (zJ q hn)];exact q
end
def Rd(H:Hp)(a:pX)(u:HO):Prop:=H a=tY u\/∃o,H a=tY (.frz o u)
theorem Rd.ok{P:rb}{w:rf}{H:Hp}{h:rj}{a:pX}{u:HO}(r:Rd H a u)(x:HOk P w H h):ObjOk P w H h a u:=by
 rcases r with r | ⟨o,r⟩
 ·exact x a u r
 ·obtain⟨_,q⟩:=x a _ r;exact q
def Mut:Option HO->Prop
 | some (.lst _)=>True
 | some (.dK _)=>True
 | some (.dT _)=>True
 | some (.set _ _)=>True
 | some (.ins _ _ _)=>True
 | some (.ext _)=>True
 | _=>False
section
variable{P:rb}{w:rf}{H:Hp}{h h':rj}{x e:pX}{o':HO}
theorem HOk.write(ok:HOk P w H h)(mu:Mut (H x))(he:e=x\/H e=tY (.own x))(k:∀b u,b≠e->h.get? b=tY u->h'.get? b=tY u)(heo:∃u,h'.get? e=tY u)
  (new:ObjOk P w (upd H x o') h' x o'):HOk P w (upd H x o') h':=λb u q=>by
 have nown:∀c y,H c=tY (.own y)->c≠x:=λc y r z=>by subst z;rw[r]at mu;exact mu
 have ntup:∀c xs,H c=tY (.tup xs)->c≠x:=λc xs r z=>by subst z;rw[r]at mu;exact mu
 by_cases hb:b=x
 ·subst hb;rw[zf]at q;cases q;exact new
 ·rw[zp hb]at q;by_cases hbe:b=e
  ·have q':H b=tY (.own x):=by
    rcases he with z | z
    ·exact absurd (hbe.trans z) hb
    ·rw[hbe];exact z
   rw[q]at q';cases q';obtain⟨v,hv⟩:=heo;exact#[v,by rw[hbe];exact hv]
  ·refine (ok b u q).stay (λc v hc r=>k c v ?_ r) (λc r=>by rw[zp (nown c b r)];exact r) λc xs r=>by rw[zp (ntup c xs r)];exact r
   rcases hc with rfl | hc
   ·exact hbe
   ·rintro rfl;rcases he with z | z
    ·exact nown c b hc z
    ·rw[hc]at z;cases z;exact hb rfl
end
structure Un(fs ex:List pX)(H H':Hp)(h h':rj):Prop where
 keep:∀b o,h.get? b=tY o->H b=tZ->b ∉ fs->b ∉ ex->h'.get? b=tY o
 slot:∀b o,h.get? b=tY o->H b=tZ->b ∈ fs->b ∉ ex->∃sl,h'.get? b=tY { o with slots:=sl }
 free:∀b o,h.get? b=tY o->H b=tZ->b ∉ ex->H' b=tZ
 there:∀b o,h.get? b=tY o->b ∉ ex->∃o',h'.get? b=tY o'
 tups:∀b xs,H b=tY (.tup xs)->H' b=tY (.tup xs)
 frzs:∀b o u,H b=tY (.frz o u)->H' b=tY (.frz o u)
 tbls:∀b ps,H b=tY (.tbl ps)->∃more,H' b=tY (.tbl (ps ++ more))
section
variable{fs fs' ex ex':List pX}{H H1 H2:Hp}{h h1 h2 h':rj}{a x e:pX}{o:HO}
theorem Un.any(u:Un fs ex H H1 h h1){b:pX}{ob:rF}(q:h.get? b=tY ob)(n:H b=tZ)(hx:b ∉ ex):∃sl,h1.get? b=tY { ob with slots:=sl }:=by
 by_cases hb:b ∈ fs
 ·exact u.slot b ob q n hb hx
 ·exact#[ob.slots,u.keep b ob q n hb hx]
theorem Un.kept(k:∀b u,h.get? b=tY u->h'.get? b=tY u):Un fs ex H H h h' :=
 #[λb ob q _ _ _=>k b ob q,λb ob q _ _ _=>#[ob.slots,k b ob q],λ_ _ _ n _=>n,λb ob q _=>#[ob,k b ob q],λ_ _ q=>q,λ_ _ _ q=>q,λ_ ps q=>#[#[],by rw[q];simp]]
theorem Un.refl:Un fs ex H H h h:=Un.kept λ_ _ q=>q
theorem Un.laid(k:∀b u,h.get? b=tY u->h'.get? b=tY u)(hp:h.objs.size<=a)(hn:H a=tZ):Un fs ex H (upd H a o) h h' where
 keep:=λb u q _ _ _=>k b u q
 slot:=λb u q _ _ _=>#[u.slots,k b u q]
 free:=λb u q n _=>by rw[zp (ay (av (aq q) hp))];exact n
 there:=λb u q _=>#[u,k b u q]
 tups:=λb xs q=>by rw[zp (zJ q hn)];exact q
 frzs:=λb u xs q=>by rw[zp (zJ q hn)];exact q
 tbls:=λb ps q=>#[#[],by rw[zp (zJ q hn),q];simp]
theorem Un.write(mu:Mut (H x))(he:e=x\/H e=tY (.own x))(k:∀b u,b≠e->h.get? b=tY u->h'.get? b=tY u)(heo:∃u,h'.get? e=tY u):Un fs ex H (upd H x o) h h':=by
 have hx:∀b,H b=tZ->b≠x:=λb n z=>by subst z;rw[n]at mu;exact mu
 have hb:∀b,H b=tZ->b≠e:=λb n z=>by
  subst z;rcases he with r | r
  ·exact hx b n r
  ·rw[n]at r;cases r
 have hm:∀b u,H b=tY u->¬ Mut (tY u)->b≠x:=λb u q nm z=>by subst z;rw[q]at mu;exact nm mu
 refine#[λb u q n _ _=>k b u (hb b n) q,λb u q n _ _=>#[u.slots,k b u (hb b n) q],λb u q n _=>by rw[zp (hx b n)];exact n,λb u q _=>?_,
  λb xs q=>by rw[zp (hm b _ q λz=>z)];exact q,λb u xs q=>by rw[zp (hm b _ q λz=>z)];exact q,λb ps q=>#[#[],by rw[zp (hm b _ q λz=>z),q];simp]]
 by_cases hbe:b=e
 ·subst hbe;exact heo
 ·exact#[u,k b u hbe q]
end
noncomputable def trk(h:rj)(H:Hp):List pX:=(aH h.objs.size).filter λa=>(H a).isSome
noncomputable def Uc(h:rj)(H:Hp):rj:=PySem.W.hideAll h (trk h H)
theorem VJ(h:rj)(H:Hp):(Uc h H).objs.size=h.objs.size:=PySem.W.hideAll_size _ _
theorem XJ{h:rj}{H:Hp}{b:pX}{o:rF}(e:h.get? b=tY o)(n:H b=tZ):(Uc h H).get? b=tY o :=
 PySem.W.hideAll_get _ e λhm=>by
  have q:(H b).isSome=Aa:=(Am.mp hm).2;rw[n]at q;simp at q
theorem za2{h:rj}{H:Hp}{b:pX}{o:rF}(e:(Uc h H).get? b=tY o):h.get? b=tY o/\H b=tZ:=by
 have e':h.get? b=tY o:=PySem.W.of_hideAll (trk h H) e;refine#[e',?_]
 cases q:H b with
 | none=>rfl
 | some x =>
  have hm:b ∈ trk h H:=Am.mpr #[Al.mpr (aq e'),by simp [q]];have z:(Uc h H).get? b=tZ:=PySem.W.hideAll_none (trk h H) hm;rw[z]at e;cases e
noncomputable def zbQ(g h:rj)(L:pX):List (pX × rF):=(aH h.objs.size).filterMap λa=>if a=L\/(g.get? a).isSome=Aa then tZ else (h.get? a).map λo=>(a,o)
noncomputable def rest(g h:rj)(L d:pX):List (pX × rF):=(zbQ g h L).filter λp=>decide (p.1≠d)
structure Mod(K:pW)(mg:re->Option pY)(base:rj):Prop where
 kin:K.In base
 glob:base.Ns pS mg
 blt:∃mb,base.Ns builtinsNs mb/\∀x:re,x≠"__name__"->mb x=rH x
 nolimit:base.NoLimit
structure Cx where
 prog:rb
 w:rf
 K:pW
 mg:re->Option pY
 base:rj
 A:rg
 N:List re
 s₀:pZ
 H₀:Hp
 env:sN
 outer:List sN
 stack:List sN
 ex:List pX
 fn:re->Bool
 calm:Bool
 pn:List (pX × rF)
 xe:pY->pZ->Prop
noncomputable def frs(l:List sN):List pX:=l.filterMap (·.frame)
noncomputable abbrev Cx.fs(X:Cx):List pX:=frs X.outer
def Vis(sc:rL)(x:re):Prop:=sc.names.lookup x=tY .local\/sc.names.lookup x=tY .cell\/sc.names.lookup x=tY .free
def Loc(sc:rL)(x:re):Prop:=sc.names.lookup x=tY .local\/sc.names.lookup x=tY .cell
def zfj(env:sN)(h:rj)(m:re->Option pY)(x:re)(u:pY):Prop :=
 (env.kindOf x=tY .local/\m x=tY u)\/((env.kindOf x=tY .cell\/env.kindOf x=tY .free)/\∃c,env.cells.lookup x=tY c/\h.IsCell c (tY u))
structure Cx.Ok(X:Cx):Prop where
 mod:Mod X.K X.mg X.base
 kind:X.env.scope.kind=.function
 glob:X.env.globals=pS
 blt:X.env.builtins=builtinsNs
 above:X.s₀.heap.objs.size<=X.env.locals
 inj:∀x y c,X.env.cells.lookup x=tY c->X.env.cells.lookup y=tY c->x=y
 has:∀x,(X.env.kindOf x=tY .cell\/X.env.kindOf x=tY .free)->∃c,X.env.cells.lookup x=tY c
 cab:∀x c,X.fn x=Aa->X.env.cells.lookup x=tY c->X.s₀.heap.objs.size<=c
 hd:X.calm=Aa->X.A.handled=tZ
 frames:X.A.frames=tY X.stack
 stk:X.stack=X.outer\/(X.stack=X.env::X.outer/\X.env.frame=tY X.env.locals)
 exf:∀b ∈ X.ex,b≠X.env.locals/\∀x c,X.env.cells.lookup x=tY c->c≠b
 bs:∀b o,X.base.get? b=tY o->X.s₀.heap.get? b=tY o/\X.H₀ b=tZ
 bsz:X.base.objs.size<=X.s₀.heap.objs.size
 noex:∀b o,X.base.get? b=tY o->b ∉ X.ex
 exfs:∀b ∈ X.ex,b ∉ X.fs
 funs:X.s₀.heap.FunFrames X.base X.outer
 frf:∀b ∈ X.fs,X.H₀ b=tZ
structure Inv(X:Cx)(Ac:List (pX × rF))(σ:List (Option V))(H:Hp)(s:pZ):Prop where
 ok:X.Ok
 os:s.os=X.s₀.os
 bare:sy s.gens
 base:Un X.fs X.ex X.H₀ H X.s₀.heap s.heap
 loc:∃m,s.heap.Ns X.env.locals m/\∀(i:Nat) (x:re) (v:V),X.N[i]? = tY x->σ[i]? = tY (tY v)->Vis X.env.scope x->∃u,RelV v u/\zfj X.env s.heap m x u
 cell:∀x c,X.env.cells.lookup x=tY c->∃v,s.heap.IsCell c v
 free:H X.env.locals=tZ
 freeC:∀x c,X.env.cells.lookup x=tY c->H c=tZ
 pin:∀p ∈ X.pn ++ Ac,s.heap.get? p.1=tY p.2/\H p.1=tZ/\p.1≠X.env.locals/\p.1 ∉ X.fs/\∀v,p.2.data≠.cell v
 hok:HOk X.prog X.w H s.heap
 len:σ.length=X.N.length
section
variable{X:Cx}{Ac:List (pX × rF)}{σ:List (Option V)}{H H':Hp}{s:pZ}{h':rj}
theorem Cx.Ok.nofr(ok:X.Ok){b:pX}{o:rF}(e:X.base.get? b=tY o):b ∉ X.fs:=λhb=>by
 have:=(ok.funs.mem hb).1;rw[e]at this;cases this
theorem Inv.bs(I:Inv X Ac σ H s):∀b o,X.base.get? b=tY o->s.heap.get? b=tY o/\H b=tZ:=λb o e =>
 #[I.base.keep b o (I.ok.bs b o e).1 (I.ok.bs b o e).2 (I.ok.nofr e) (I.ok.noex b o e),I.base.free b o (I.ok.bs b o e).1 (I.ok.bs b o e).2 (I.ok.noex b o e)]
theorem Inv.bk(I:Inv X Ac σ H s):∀b o,X.base.get? b=tY o->s.heap.get? b=tY o:=λb o e=>(I.bs b o e).1
theorem Inv.mod(I:Inv X Ac σ H s):Mod X.K X.mg X.base:=I.ok.mod
theorem Inv.kIn(I:Inv X Ac σ H s):X.K.In s.heap:=I.ok.mod.kin.keeps I.bk
theorem Inv.nolimit(I:Inv X Ac σ H s):s.heap.NoLimit:=I.ok.mod.nolimit.keeps I.bk
theorem Inv.fr(I:Inv X Ac σ H s):∃m,Fr X.base X.env.locals s.heap m :=
 let #[m,hn,_]:=I.loc
 #[m,hn,I.bk,aK I.ok.bsz I.ok.above]
theorem Inv.lt(I:Inv X Ac σ H s):X.env.locals<s⁻¹:=let #[_,hn,_]:=I.loc;hn.lt
theorem Inv.sz(I:Inv X Ac σ H s):X.s₀.heap.objs.size<=s⁻¹:=aK I.ok.above (db I.lt)
theorem Inv.nofs(I:Inv X Ac σ H s){a:pX}(h:s⁻¹<=a):a ∉ X.fs:=λhb=>by
 obtain⟨_,o,ho,_⟩:=I.ok.funs.mem hb;exact absurd (av (aq ho) (aK I.sz h)) (cH _)
theorem Inv.cne(I:Inv X Ac σ H s):∀x c,X.env.cells.lookup x=tY c->c≠X.env.locals:=λx c e z=>by
 obtain⟨v,o,ho,hd⟩:=I.cell x c e;obtain⟨m,⟨o',es,ep,ho',hd',_⟩,_⟩:=I.loc;rw[z,ho']at ho;cases ho;rw[hd']at hd;cases hd
theorem Inv.funs(I:Inv X Ac σ H s):s.heap.FunFrames X.base X.outer:=by
 have all:∀(l:List sN),(∀b ∈ frs l,b ∈ X.fs)->X.s₀.heap.FunFrames X.base l->s.heap.FunFrames X.base l:=by
  intro l
  induction l with
  | nil=>intro _ _;trivial
  | cons env r ih =>
   intro hs hl;obtain⟨hk,⟨L,o,hf,hn,ho,hd⟩,hr⟩:=hl;have hL:L ∈ X.fs:=hs L (by unfold frs;rw[dJ,hf];exact aw);obtain⟨sl,e⟩:=I.base.slot L o ho (I.ok.frf L hL) hL λz=>I.ok.exfs L z hL;exact#[hk,#[L,_,hf,hn,e,hd],ih (λb hb=>hs b (by unfold frs;rw[dJ,hf];exact am _ hb)) hr]
 exact all X.outer (λ_ hb=>hb) I.ok.funs
theorem Inv.stack(I:Inv X Ac σ H s):s.heap.FunFrames X.base X.stack:=by
 rcases I.ok.stk with e | ⟨e,hf⟩
 ·rw[e];exact I.funs
 ·rw[e];obtain⟨m,hn,_⟩:=I.loc;refine .cons (by rw[I.ok.kind];decide) hf hn ?_ I.funs;exact Heap.get?_none_of_le (aK I.ok.bsz I.ok.above)
theorem Inv.stkSub(I:Inv X Ac σ H s):∀b ∈ frs X.stack,b ∈ X.env.locals::X.fs:=λb hb=>by
 rcases I.ok.stk with e | ⟨e,hf⟩
 ·rw[e]at hb;exact am _ hb
 ·rw[e]at hb;unfold frs at hb;rw[dJ,hf]at hb;exact hb
theorem Inv.stkFree(I:Inv X Ac σ H s):∀b ∈ frs X.stack,H b=tZ:=λb hb=>by
 rcases Ah.mp (I.stkSub b hb)with e | hb
 ·rw[e];exact I.free
 ·obtain⟨_,o,ho,_⟩:=I.ok.funs.mem hb;exact I.base.free b o ho (I.ok.frf b hb) λz=>I.ok.exfs b z hb
theorem Inv.step{g':Array tK}{t':Nat}{d':Drawn}{ch:List pX}(I:Inv X Ac σ H s)
  (hch:∀b ∈ ch,(b ∈ X.ex\/X.s₀.heap.objs.size<=b)/\b≠X.env.locals/\(∀x c,X.env.cells.lookup x=tY c->c≠b)/\∀p ∈ X.pn ++ Ac,p.1≠b)
  (keep:∀b o,b≠X.env.locals->b ∉ X.fs->b ∉ ch->s.heap.get? b=tY o->H b=tZ->h'.get? b=tY o)
  (slot:∀b o,b≠X.env.locals->b ∈ X.fs->b ∉ ch->s.heap.get? b=tY o->H b=tZ->∃sl,h'.get? b=tY { o with slots:=sl }) (free:∀b o,b ∉ ch->s.heap.get? b=tY o->H b=tZ->H' b=tZ)
  (there:∀b o,b ∉ ch->s.heap.get? b=tY o->∃o',h'.get? b=tY o')
  (tups:∀b xs,H b=tY (.tup xs)->H' b=tY (.tup xs)) (frzs:∀b o u,H b=tY (.frz o u)->H' b=tY (.frz o u)) (tbls:∀b ps,H b=tY (.tbl ps)->∃more,H' b=tY (.tbl (ps ++ more)))
  (ns:∀m,s.heap.Ns X.env.locals m->h'.Ns X.env.locals m) (hok:HOk X.prog X.w H' h') (hg:sy g') :
  Inv X Ac σ H' { s with heap:=h',gens:=g',drawn:=d',toks:=t' }:=by
 have neL:∀b o,X.s₀.heap.get? b=tY o->b≠X.env.locals:=λb o e=>ay (av (aq e) I.ok.above)
 have neC:∀b o,X.s₀.heap.get? b=tY o->b ∉ X.ex->b ∉ ch:=λb o e hx hb=>by
  rcases (hch b hb).1 with z | z
  ·exact hx z
  ·exact absurd (av (aq e) z) (cH _)
 have cellK:∀x c,X.env.cells.lookup x=tY c->∀v,s.heap.IsCell c v->h'.IsCell c v:=λx c e v ⟨o,ho,hd⟩=>by
  have nch:c ∉ ch:=λz=>(hch c z).2.2.1 x c e rfl;by_cases hc:c ∈ X.fs
  ·obtain⟨sl,q⟩:=slot c o (I.cne x c e) hc nch ho (I.freeC x c e);exact#[_,q,hd]
  ·exact#[o,keep c o (I.cne x c e) hc nch ho (I.freeC x c e),hd]
 refine#[I.ok,I.os,hg,#[λb o e n hb hx=>?_,λb o e n hb hx=>?_,λb o e n hx=>?_,λb o e hx=>?_,λb xs e=>tups b xs (I.base.tups b xs e),λb o xs e=>frzs b o xs (I.base.frzs b o xs e),λb ps e=>?_],?_,λx c e=>?_,?_,λx c e=>?_,λp hp=>?_,hok,I.len]
 ·exact keep b o (neL b o e) hb (neC b o e hx) (I.base.keep b o e n hb hx) (I.base.free b o e n hx)
 ·obtain⟨sl,e1⟩:=I.base.slot b o e n hb hx;obtain⟨sl',e2⟩:=slot b _ (neL b o e) hb (neC b o e hx) e1 (I.base.free b o e n hx);exact#[sl',e2]
 ·obtain⟨o',e1⟩:=I.base.there b o e hx;exact free b o' (neC b o e hx) e1 (I.base.free b o e n hx)
 ·obtain⟨o',e1⟩:=I.base.there b o e hx;exact there b o' (neC b o e hx) e1
 ·obtain⟨m1,e1⟩:=I.base.tbls b ps e;obtain⟨m2,e2⟩:=tbls b _ e1;exact#[m1 ++ m2,by rw[e2,Array.append_assoc]]
 ·obtain⟨m,hn,hl⟩:=I.loc;refine#[m,ns m hn,λi x v e1 e2 e3=>?_];obtain⟨u,r,l⟩:=hl i x v e1 e2 e3;refine#[u,r,?_];rcases l with l | ⟨k,c,e,z⟩
  ·exact .inl l
  ·exact .inr #[k,c,e,cellK x c e _ z]
 ·obtain⟨v,z⟩:=I.cell x c e;exact#[v,cellK x c e v z]
 ·obtain⟨m,⟨o,_,_,ho,_⟩,_⟩:=I.loc;exact free _ o (λz=>(hch _ z).2.1 rfl) ho I.free
 ·obtain⟨v,o,ho,hd⟩:=I.cell x c e;exact free c o (λz=>(hch c z).2.2.1 x c e rfl) ho (I.freeC x c e)
 ·obtain⟨e,n,ne,nf,d⟩:=I.pin p hp;have nch:p.1 ∉ ch:=λz=>(hch p.1 z).2.2.2 p hp rfl;exact#[keep p.1 p.2 ne nf nch e n,free p.1 p.2 nch e n,ne,nf,d]
theorem Inv.un{t':Nat}(I:Inv X Ac σ H s)(u:Un X.fs [] H H' s.heap h')(hok:HOk X.prog X.w H' h'):Inv X Ac σ H' { s with heap:=h',toks:=t' }:=by
 obtain⟨m,⟨o,es,ep,ho,r⟩,_⟩:=id I.loc;obtain⟨sl,hL⟩:=u.any ho I.free (by simp)
 exact I.step (g':=s.gens) (d':=s.drawn) (ch:=[]) (λ_ z=>nomatch z) (λb o _ hb _ e n=>u.keep b o e n hb (by simp)) (λb o _ hb _ e n=>u.slot b o e n hb (by simp)) (λb o _ e n=>u.free b o e n (by simp)) (λb o _ e=>u.there b o e (by simp)) u.tups u.frzs u.tbls (λm' hm=>by
  obtain⟨o',es',ep',ho',r'⟩:=hm;rw[ho]at ho';cases ho'
  exact#[_,es',ep',hL,r']) hok I.bare
theorem Inv.call{g':Array tK}{t':Nat}{d':Drawn}{ch:List pX}(I:Inv X Ac σ H s)(u:Un (frs X.stack) ch H H' s.heap h')(hok:HOk X.prog X.w H' h')(hg:sy g')
  (hch:∀b ∈ ch,(b ∈ X.ex\/X.s₀.heap.objs.size<=b)/\b≠X.env.locals/\(∀x c,X.env.cells.lookup x=tY c->c≠b)/\∀p ∈ X.pn ++ Ac,p.1≠b) :
  Inv X Ac σ H' { s with heap:=h',gens:=g',drawn:=d',toks:=t' }:=by
 obtain⟨m,⟨o,es,ep,ho,r⟩,_⟩:=id I.loc;obtain⟨sl,hL⟩:=u.any ho I.free λz=>(hch _ z).2.1 rfl
 exact I.step (ch:=ch) hch (λb o hL hb hc e n=>u.keep b o e n (λz=>(Ah.mp (I.stkSub b z)).elim hL hb) hc) (λb o _ _ hc e n=>u.any e n hc) (λb o hc e n=>u.free b o e n hc) (λb o hc e=>u.there b o e hc) u.tups u.frzs u.tbls (λm' hm=>by
  obtain⟨o',es',ep',ho',r'⟩:=hm;rw[ho]at ho';cases ho'
  exact#[_,es',ep',hL,r']) hok hg
theorem Inv.turned{t':Nat}{it:pX}(I:Inv X Ac σ H s)(k:∀b o,b≠it->s.heap.get? b=tY o->h'.get? b=tY o)(hn:H it=tZ)(hL:it≠X.env.locals)
  (h1:it ∈ X.ex\/X.s₀.heap.objs.size<=it) (h2:∀x c,X.env.cells.lookup x=tY c->c≠it) (h3:∀p ∈ X.pn ++ Ac,p.1≠it):Inv X Ac σ H { s with heap:=h',toks:=t' }:=by
 have nit:∀b u,H b=tY u->b≠it:=λb u e z=>by rw[z,hn]at e;cases e
 refine I.step (g':=s.gens) (d':=s.drawn) (ch:=[it]) (λb hb=>?_) (λb o _ _ hc e _=>k b o (λz=>hc (by simp [z])) e) (λb o _ _ hc e _=>#[o.slots,k b o (λz=>hc (by simp [z])) e]) (λ_ _ _ _ n=>n)
  (λb o hc e=>#[o,k b o (λz=>hc (by simp [z])) e]) (λ_ _ e=>e) (λ_ _ _ e=>e) (λb ps e=>#[#[],by rw[e];simp]) (λm hm=>?_) (λb u e=>?_) I.bare
 ·have e:b=it:=by simpa using hb
  subst e;exact#[h1,hL,h2,h3]
 ·obtain⟨o,es,ep,ho,r⟩:=hm;exact#[o,es,ep,k _ o (Ne.symm hL) ho,r]
 ·refine (I.hok b u e).stay (λc v hc q=>k c v ?_ q) (λ_ q=>q) λ_ _ q=>q;rcases hc with z | z
  ·rw[z];exact nit b u e
  ·exact nit c _ z
theorem Inv.tok(I:Inv X Ac σ H s)(t:Nat):Inv X Ac σ H { s with toks:=t }:=I.un (h':=s.heap) (t':=t) Un.refl I.hok
theorem Inv.kept{t':Nat}(I:Inv X Ac σ H s)(k:∀b u,s.heap.get? b=tY u->h'.get? b=tY u):Inv X Ac σ H { s with heap:=h',toks:=t' }:=I.un (Un.kept k) (I.hok.kept k)
theorem Inv.laid{a:pX}{o:HO}{t':Nat}(I:Inv X Ac σ H s)(k:∀b u,s.heap.get? b=tY u->h'.get? b=tY u)(hp:s⁻¹<=a)(new:ObjOk X.prog X.w (upd H a o) h' a o) :
  Inv X Ac σ (upd H a o) { s with heap:=h',toks:=t' }:=I.un (Un.laid k hp (I.hok.fresh hp)) (I.hok.laid k hp new)
theorem Inv.write{x e:pX}{o:HO}{t':Nat}(I:Inv X Ac σ H s)(mu:Mut (H x))(he:e=x\/H e=tY (.own x))(k:∀b u,b≠e->s.heap.get? b=tY u->h'.get? b=tY u)(heo:∃u,h'.get? e=tY u)
  (new:ObjOk X.prog X.w (upd H x o) h' x o):Inv X Ac σ (upd H x o) { s with heap:=h',toks:=t' }:=I.un (Un.write mu he k heo) (I.hok.write mu he k heo new)
theorem Inv.weak{σ':List (Option V)}(I:Inv X Ac σ H s)(hl:σ'.length=σ.length)(w:∀(i:Nat) v,σ'[i]? = tY (tY v)->σ[i]? = tY (tY v)):Inv X Ac σ' H s :=
 #[I.ok,I.os,I.bare,I.base,let #[m,hn,hl']:=I.loc; #[m,hn,λi x v e1 e2 e3=>hl' i x v e1 (w i v e2) e3],I.cell,I.free,I.freeC,I.pin,I.hok,hl.trans I.len]
theorem Inv.pins_of{pins':List (pX × rF)}(I:Inv X Ac σ H s)(h:∀p ∈ pins',s.heap.get? p.1=tY p.2/\H p.1=tZ/\p.1≠X.env.locals/\p.1 ∉ X.fs/\∀v,p.2.data≠.cell v):Inv X pins' σ H s :=
 #[I.ok,I.os,I.bare,I.base,I.loc,I.cell,I.free,I.freeC,λp hp=>(Ai.mp hp).elim (λz=>I.pin p (bn _ z)) (h p),I.hok,I.len]
theorem WL{N:List re}(hN:N.Nodup){i j:Nat}{x:re}(a:N[i]? = tY x)(b:N[j]? = tY x):i=j:=by
 obtain⟨h1,e1⟩:=Af.mp a;obtain⟨h2,e2⟩:=Af.mp b;exact (List.getElem_inj hN).mp (e1.trans e2.symm)
theorem Yi{M:tJ}{A:rg}{E:pY->pZ->Prop}{i:Nat}{x:re}{v:V}{u:pY}{Q:Unit->pZ->Prop}(I:Inv X Ac σ H s)(hN:X.N.Nodup)(hi:X.N[i]? = tY x)(hx:Loc X.env.scope x)(r:RelV v u)
  (h:∀s',Inv X Ac (σ.set i (tY v)) H s'->(∃a,Heap.SameBut a s.heap s'.heap/\(a=X.env.locals\/X.env.cells.lookup x=tY a))->Q Unit.unit s') (hf:X.fn x=Aa\/X.env.scope.names.lookup x=tY .local:=by first | exact .inl rfl | exact .inr rfl | assumption):rd M A (storeName X.env x u) Q E s:=by
 obtain⟨m,hn,hl⟩:=id I.loc;have hcls:(X.env.scope.kind == .class || (X.env.scope.kind == .module && X.env.locals != X.env.globals))=Ab:=by rw[I.ok.kind];rfl
 have hiσ:i<σ.length:=by rw[I.len];exact (Af.mp hi).1
 have cne:=I.cne
 have tracked:∀{a:pX} {h':rj},(∃o,s.heap.get? a=tY o/\H a=tZ)->Heap.SameBut a s.heap h'->HOk X.prog X.w H h':=λ{a h'} ha hs b ob e=>by
  obtain⟨_,_,hfree⟩:=ha;refine (I.hok b ob e).stay (λc w' hc q=>(hs.2 c ?_).trans q) (λ_ q=>q) λ_ _ q=>q;rintro rfl;rcases hc with rfl | hc
  ·rw[hfree]at e;cases e
  ·rw[hfree]at hc;cases hc
 rcases hx with hk | hk
 ·refine wpAny_storeName_local hk hn (λh' hn' hs=>?_) hcls;obtain⟨oL,_,_,hoL,_⟩:=id hn;refine h _ #[I.ok,I.os,I.bare,#[λb o e n hb hx=>?_,λb o e n hb hx=>?_,I.base.free,λb o e hx=>?_,I.base.tups,I.base.frzs,I.base.tbls],#[_,hn',λj y v' e1 e2 e3=>?_],λy c e=>?_,I.free,I.freeC,λp hp=>?_,tracked #[oL,hoL,I.free] hs,by simpa using I.len] #[_,hs,.inl rfl]
  ·exact (hs.2 b (ay (av (aq e) I.ok.above))).trans (I.base.keep b o e n hb hx)
  ·obtain⟨sl,e1⟩:=I.base.slot b o e n hb hx;exact#[sl,(hs.2 b (ay (av (aq e) I.ok.above))).trans e1]
  ·obtain⟨o',e1⟩:=I.base.there b o e hx;exact#[o',(hs.2 b (ay (av (aq e) I.ok.above))).trans e1]
  ·by_cases hj:j=i
   ·subst hj;rw[hi]at e1;cases e1;rw[eW hiσ]at e2;cases e2;exact#[u,r,.inl #[hk,by simp]]
   ·rw[fm (Ne.symm hj)]at e2;obtain⟨u',r',q⟩:=hl j y v' e1 e2 e3;refine#[u',r',?_];rcases q with ⟨k,e⟩ | ⟨k,c,e,z⟩
    ·refine .inl #[k,?_];have:y≠x:=λe=>hj (WL hN e1 (e ▸ hi));simp [this,e]
    ·exact .inr #[k,c,e,z.sameBut hs (cne y c e)]
  ·obtain⟨w',z⟩:=I.cell y c e;exact#[w',z.sameBut hs (cne y c e)]
  ·obtain⟨e,n,ne,nf,d⟩:=I.pin p hp;exact#[(hs.2 p.1 ne).trans e,n,ne,nf,d]
 ·have hfn:X.fn x=Aa:=by
   rcases hf with z | z
   ·exact z
   ·rw[z]at hk;cases hk
  obtain⟨c,hc⟩:=I.ok.has x (.inl hk);obtain⟨w',z⟩:=I.cell x c hc;refine wpAny_storeName_cell I.ok.kind hk hc z (λh' hc' hs=>?_);obtain⟨oc,hoc,hocd⟩:=id z;refine h { s with heap:=h' } #[I.ok,I.os,I.bare,#[λb o e n hb hx=>?_,λb o e n hb hx=>?_,I.base.free,λb o e hx=>?_,I.base.tups,I.base.frzs,I.base.tbls],#[m,hn.sameBut hs (Ne.symm (cne x c hc)),λj y v' e1 e2 e3=>?_],λy c' e=>?_,I.free,I.freeC,λp hp=>?_,tracked #[oc,hoc,I.freeC x c hc] hs,by simpa using I.len] #[c,hs,.inr hc]
  ·exact (hs.2 b (ay (av (aq e) (I.ok.cab x c hfn hc)))).trans (I.base.keep b o e n hb hx)
  ·obtain⟨sl,e1⟩:=I.base.slot b o e n hb hx;exact#[sl,(hs.2 b (ay (av (aq e) (I.ok.cab x c hfn hc)))).trans e1]
  ·obtain⟨o',e1⟩:=I.base.there b o e hx;exact#[o',(hs.2 b (ay (av (aq e) (I.ok.cab x c hfn hc)))).trans e1]
  ·by_cases hj:j=i
   ·subst hj;rw[hi]at e1;cases e1;rw[eW hiσ]at e2;cases e2;exact#[u,r,.inr #[.inl hk,c,hc,hc']]
   ·rw[fm (Ne.symm hj)]at e2;obtain⟨u',r',q⟩:=hl j y v' e1 e2 e3;refine#[u',r',?_];rcases q with q | ⟨k,c',e,z'⟩
    ·exact .inl q
    ·refine .inr #[k,c',e,z'.sameBut hs ?_];rintro rfl;exact hj (WL hN e1 (I.ok.inj _ _ _ e hc ▸ hi))
  ·by_cases hcc:c'=c
   ·subst hcc;exact#[_,hc']
   ·obtain⟨w2,z2⟩:=I.cell y c' e;exact#[w2,z2.sameBut hs hcc]
  ·obtain⟨e,n,ne,nf,d⟩:=I.pin p hp;refine#[(hs.2 p.1 ?_).trans e,n,ne,nf,d];intro q;rw[q,hoc]at e;have q':oc=p.2:=Option.some.inj e;exact d w' (by rw[<- q'];exact hocd)
theorem k8{M:tJ}{A:rg}{E:pY->pZ->Prop}{i:Nat}{x:re}{v:V}{u:pY}{Q:Unit->pZ->Prop}(I:Inv X Ac σ H s)(hN:X.N.Nodup)(hi:X.N[i]? = tY x)(hx:Loc X.env.scope x)(r:RelV v u)
  (h:∀s',Inv X Ac (σ.set i (tY v)) H s'->Q Unit.unit s') (hf:X.fn x=Aa\/X.env.scope.names.lookup x=tY .local:=by first | exact .inl rfl | exact .inr rfl | assumption):rd M A (storeName X.env x u) Q E s :=
 Yi I hN hi hx r (λs' I' _=>h s' I') hf
theorem Inv.call'{s':pZ}{ch:List pX}(I:Inv X Ac σ H s)(ho:s'.os=s.os)(u:Un (frs X.stack) ch H H' s.heap s'.heap)(hok:HOk X.prog X.w H' s'.heap)(hg:sy s'.gens)
  (hch:∀b ∈ ch,(b ∈ X.ex\/X.s₀.heap.objs.size<=b)/\b≠X.env.locals/\(∀x c,X.env.cells.lookup x=tY c->c≠b)/\∀p ∈ X.pn ++ Ac,p.1≠b):Inv X Ac σ H' s':=by
 obtain⟨h',g',d',t',o'⟩:=s';have e:o'=s.os:=ho;subst e;exact I.call (g':=g') (t':=t') (d':=d') u hok hg hch
end
noncomputable abbrev XK:=pY->Option pX->Hp->Prop
noncomputable abbrev St:=List (Option V)
noncomputable abbrev VK:=V->Hp->Prop
noncomputable abbrev TE:=St->Hp->VK->Prop
noncomputable abbrev TT:=St->Hp->(Bool->Hp->Prop)->Prop
noncomputable abbrev TA:=St->Hp->(List V->Hp->Prop)->Prop
structure vf where
 nx:St->Hp->Prop
 rt:VK
 bk:St->Hp->Prop:=λ_ _=>False
 ct:St->Hp->Prop:=λ_ _=>False
noncomputable abbrev TS:=vf->St->Hp->Prop
def EP(X:Cx)(Ac:List (pX × rF))(σ:St)(Q:VK)(u:pY)(s':pZ):Prop:=∃v H',Inv X Ac σ H' s'/\RelV v u/\Q v H'
def TP(X:Cx)(Ac:List (pX × rF))(σ:St)(Q:Bool->Hp->Prop)(b:Bool)(s':pZ):Prop:=∃H',Inv X Ac σ H' s'/\Q b H'
def AP(X:Cx)(Ac:List (pX × rF))(σ:St)(Q:List V->Hp->Prop)(us:List pY)(s':pZ):Prop:=∃vs H',Inv X Ac σ H' s'/\Vals vs us/\Q vs H'
def SP(X:Cx)(Ac:List (pX × rF))(D:vf)(f:Flow)(s':pZ):Prop :=
 match f with
 | .next=>∃σ' H',Inv X Ac σ' H' s'/\D.nx σ' H'
 | .brk=>∃σ' H',Inv X Ac σ' H' s'/\D.bk σ' H'
 | .cont=>∃σ' H',Inv X Ac σ' H' s'/\D.ct σ' H'
 | .ret u=>∃v σ' H',Inv X Ac σ' H' s'/\RelV v u/\D.rt v H'
def PE(X:Cx)(e:rh)(t:TE):Prop :=
 ∀(Ac:List (pX × rF)) (s:pZ) (σ:St) (H:Hp) (Q:VK),Inv X Ac σ H s->t σ H Q->rd (model X.prog X.w) X.A (eval e X.env) (EP X Ac σ Q) X.xe s
def PT(X:Cx)(e:rh)(t:TT):Prop :=
 ∀(Ac:List (pX × rF)) (s:pZ) (σ:St) (H:Hp) (Q:Bool->Hp->Prop),Inv X Ac σ H s->t σ H Q->rd (model X.prog X.w) X.A (isTrue e X.env (eval e X.env)) (TP X Ac σ Q) X.xe s
def PW(X:Cx)(e:rh)(t:TT):Prop :=
 ∀(whole:tO pY) (Ac:List (pX × rF)) (s:pZ) (σ:St) (H:Hp) (Q:Bool->Hp->Prop),Inv X Ac σ H s->t σ H Q->rd (model X.prog X.w) X.A (isTrue e X.env whole) (TP X Ac σ Q) X.xe s
theorem PW.pt{X:Cx}{e:rh}{t:TT}(h:PW X e t):PT X e t:=h _
def PA(X:Cx)(es:List rh)(t:TA):Prop :=
 ∀(pos:rP) (Ac:List (pX × rF)) (s:pZ) (σ:St) (H:Hp) (Q:List V->Hp->Prop),Inv X Ac σ H s->t σ H Q->rd (model X.prog X.w) X.A (spliced (rA pos (pT es X.env))) (AP X Ac σ Q) X.xe s
def PS(X:Cx)(st:rn)(t:TS):Prop :=
 ∀(Ac:List (pX × rF)) (s:pZ) (σ:St) (H:Hp) (D:vf),Inv X Ac σ H s->t D σ H->rd (model X.prog X.w) X.A (exec st X.env) (SP X Ac D) X.xe s
def PSs(X:Cx)(st:List rn)(t:TS):Prop :=
 ∀(Ac:List (pX × rF)) (s:pZ) (σ:St) (H:Hp) (D:vf),Inv X Ac σ H s->t D σ H->rd (model X.prog X.w) X.A (execs st X.env) (SP X Ac D) X.xe s
theorem thn{α:Type}{t:tO α}{Q Q':α->pZ->Prop}{M:tJ}{A:rg}{E:pY->pZ->Prop}{s:pZ}(h:rd M A t Q E s)(hQ:∀a s,Q a s->Q' a s):rd M A t Q' E s:=rS h hQ λ_ _ x=>x
section
variable{X:Cx}
theorem bin{a b:rh}{ta tb:TE}(ha:PE X a ta)(hb:PE X b tb){Ac:List (pX × rF)}{s:pZ}{σ:St}{H:Hp}{R:V->V->Hp->Prop}(I:Inv X Ac σ H s)(h:ta σ H λx H1=>tb σ H1 λy H2=>R x y H2)
  {α:Type} {Q:α->pZ->Prop} {f:pY->pY->tO α}
  (hf:∀v u s2 x y H2,Inv X Ac σ H2 s2->RelV x v->RelV y u->R x y H2->rd (model X.prog X.w) X.A (f v u) Q X.xe s2) :
  rd (model X.prog X.w) X.A (eval a X.env) (λv s₁=>rd (model X.prog X.w) X.A (eval b X.env) (λu s₂=>rd (model X.prog X.w) X.A (f v u) Q X.xe s₂) X.xe s₁) X.xe s:=by
 refine thn (ha Ac s σ H _ I h) λv s1 ⟨x,H1,I1,r1,q1⟩=>?_;refine thn (hb Ac s1 σ H1 _ I1 q1) λu s2 ⟨y,H2,I2,r2,q2⟩=>?_;exact hf v u s2 x y H2 I2 r1 r2 q2
def onSl(σ:St)(i:Nat)(p:V->Prop):Prop:=match σ[i]? with | some (tY v)=>p v | _=>False
theorem onSl.of{σ:St}{i:Nat}{p:V->Prop}(h:onSl σ i p):∃v,σ[i]? = tY (tY v)/\p v:=by
 unfold onSl at h;split at h
 ·exact#[_,by assumption,h]
 ·exact h.elim
def onInt(x:V)(p:Int->Prop):Prop:=match x with | .int k=>p k | _=>False
theorem onInt.of{x:V}{p:Int->Prop}(h:onInt x p):∃k,x=.int k/\p k:=by
 cases x <;> first | exact#[_,rfl,h] | exact h.elim
theorem onInt.to{x:V}{p:Int->Prop}(h:∃k,x=.int k/\p k):onInt x p:=by
 obtain⟨k,rfl,h⟩:=h;exact h
def onStr(x:V)(p:re->Prop):Prop:=match x with | .str k=>p k | _=>False
theorem onStr.of{x:V}{p:re->Prop}(h:onStr x p):∃k,x=.str k/\p k:=by
 cases x <;> first | exact#[_,rfl,h] | exact h.elim
theorem onStr.to{x:V}{p:re->Prop}(h:∃k,x=.str k/\p k):onStr x p:=by
 obtain⟨k,rfl,h⟩:=h;exact h
def onBl(x:V)(p:Bool->Prop):Prop:=match x with | .bl k=>p k | _=>False
theorem onBl.of{x:V}{p:Bool->Prop}(h:onBl x p):∃k,x=.bl k/\p k:=by
 cases x <;> first | exact#[_,rfl,h] | exact h.elim
theorem onBl.to{x:V}{p:Bool->Prop}(h:∃k,x=.bl k/\p k):onBl x p:=by
 obtain⟨k,rfl,h⟩:=h;exact h
def onRef(x:V)(p:pX->Prop):Prop:=match x with | .ref k=>p k | _=>False
theorem onRef.of{x:V}{p:pX->Prop}(h:onRef x p):∃k,x=.ref k/\p k:=by
 cases x <;> first | exact#[_,rfl,h] | exact h.elim
theorem onRef.to{x:V}{p:pX->Prop}(h:∃k,x=.ref k/\p k):onRef x p:=by
 obtain⟨k,rfl,h⟩:=h;exact h
def yt(i:Nat):TE:=λσ H Q=>onSl σ i λv=>Q v H
def tC(v:V):TE:=λ_ H Q=>Q v H
theorem zb5{i:Nat}{x:re}{pos:rP}(hN:X.N[i]? = tY x)(hv:Vis X.env.scope x)(hd:(x ==("__debug__" : re))=Ab:=by decide)(hcd:(x ==("__classdict__" : re))=Ab:=by decide):PE X (.Name x pos) (yt i):=by
 intro Ac s σ H Q I h;obtain⟨v,e,h⟩:=onSl.of h;obtain⟨m,hn,hl⟩:=I.loc;obtain⟨u,r,l⟩:=hl i x v hN e hv;have fin:EP X Ac σ Q u s:=#[v,H,I,r,h];rcases l with ⟨hk,hm⟩ | ⟨hk,c,hc,hcell⟩
 ·exact tS (wpAny_loadName_local I.ok.kind hk hn hm fin) hd
 ·rcases hk with hk | hk
  ·exact tS (wpAny_loadName_cell I.ok.kind hk hc hcell fin) hd
  ·exact tS (wpAny_loadName_free I.ok.kind hk hc hcell fin hcd) hd
theorem zg{i j pos}:PE X (.Constant (.int i) j pos) (tC (.int i)):=λ_ _ _ H _ I h=>wpAny_Constant_int #[.int i,H,I.tok _,#[_,rfl],h]
theorem yQ{b j pos}:PE X (.Constant (.bool b) j pos) (tC (.bl b)):=λ_ _ _ H _ I h=>Constant_bool #[.bl b,H,I,rfl,h]
theorem z7{j pos}:PE X (.Constant .none j pos) (tC .non):=λ_ _ _ H _ I h=>Constant_none #[.non,H,I,rfl,h]
theorem zV{x j pos}:PE X (.Constant (.str x) j pos) (tC (.str x)):=λ_ _ _ H _ I h=>Calls.Constant_str #[.str x,H,I.tok _,#[_,rfl],h]
def Gl(X:Cx)(x:re):Prop:=X.env.kindOf x=tY .globalImplicit
theorem vz{E:pY->pZ->Prop}{Ac:List (pX × rF)}{s:pZ}{σ:St}{H:Hp}{x:re}{u:pY}{pos:rP}{Q:pY->pZ->Prop}(I:Inv X Ac σ H s)(hg:Gl X x)(hm:X.mg x=tY u)(h:Q u s)
  (hd:(x ==("__debug__" : re))=Ab:=by decide):rd (model X.prog X.w) X.A (eval (.Name x pos) X.env) Q E s :=
 Calls.Name_function_global I.ok.kind hg (Calls.loadGlobal_global (by rw[I.ok.glob];exact I.mod.glob.keeps I.bk) hm h) hd
theorem wf{E:pY->pZ->Prop}{Ac:List (pX × rF)}{s:pZ}{σ:St}{H:Hp}{x:re}{u:pY}{pos:rP}{Q:pY->pZ->Prop}(I:Inv X Ac σ H s)(hg:Gl X x)(hm:X.mg x=tZ)(hv:rH x=tY u)(h:Q u s)
  (hn:x≠"__name__":=by decide) (hd:(x ==("__debug__" : re))=Ab:=by decide):rd (model X.prog X.w) X.A (eval (.Name x pos) X.env) Q E s:=by
 obtain⟨mb,h1,h2⟩:=I.mod.blt;exact Calls.Name_function_global I.ok.kind hg (Calls.loadGlobal_builtin (by rw[I.ok.glob];exact I.mod.glob.keeps I.bk) hm (by rw[I.ok.blt];exact h1.keeps I.bk) ((h2 x hn).trans hv) h) hd
theorem yw{x:re}{v:V}{u:pY}{pos:rP}(hg:Gl X x)(hm:X.mg x=tY u)(r:RelV v u)(hd:(x ==("__debug__" : re))=Ab:=by decide):PE X (.Name x pos) (tC v) :=
 λ_ _ _ H _ I h=>vz I hg hm #[v,H,I,r,h] hd
theorem za7{x:re}{v:V}{u:pY}{pos:rP}(hg:Gl X x)(hm:X.mg x=tZ)(hv:rH x=tY u)(r:RelV v u)(hn:x≠"__name__":=by decide)(hd:(x ==("__debug__" : re))=Ab:=by decide):PE X (.Name x pos) (tC v) :=
 λ_ _ _ H _ I h=>wf I hg hm hv #[v,H,I,r,h] hn hd
variable{a b:rh}{ta tb:TE}{pos:rP}
def PC(X:Cx)(op:sr)(a b:rh)(t:TE):Prop :=
 ∀(Ac:List (pX × rF)) (s:pZ) (σ:St) (H:Hp) (Q:VK),Inv X Ac σ H s->t σ H Q ->
  rd (model X.prog X.w) X.A (eval a X.env) (λv s₁=>rd (model X.prog X.w) X.A (eval b X.env) (λu s₂=>rd (model X.prog X.w) X.A (rp op v u) (EP X Ac σ Q) X.xe s₂) X.xe s₁) X.xe s
theorem Jy(b:rh){op:sr}(h:op≠.In)(h2:op≠.NotIn):behindInMarks op b=Ab:=by
 have e1:(op == CmpOp.In)=Ab:=by cases op <;> first | rfl | exact absurd rfl h
 have e2:(op == CmpOp.NotIn)=Ab:=by cases op <;> first | rfl | exact absurd rfl h2
 cases b <;> simp [behindInMarks,e1,e2]
theorem xY{op:sr}{t:TE}(h:PC X op a b t)(h1:behindInMarks op b=Ab:=by first | exact Jy _ ∅ ∅ | rfl):PE X (.Compare a [op] [b] pos) t:=λAc s σ H Q I hw=>wpAny_Compare1 (h Ac s σ H Q I hw) h1
variable{tA tB':TT}{rest:List rh}
def tOr(t u:TT):TT:=λσ H Q=>t σ H λc H1=>if c=Aa then Q Aa H1 else u σ H1 Q
def zb2(t:TT):TT:=λσ H Q=>t σ H λc H1=>Q (!c) H1
theorem wc(ha:PT X a tA):PW X (.BoolOp .Or [a] pos) tA:=by
 intro wh Ac s σ H Q I h;refine isTrue_or (thn (ha Ac s σ H Q I h) λc s1 e=>?_)
 cases c with
 | false=>exact isTrue_or_nil e
 | true=>exact e
theorem vn(ha:PT X a tA)(hb:PW X (.BoolOp .Or (b::rest) pos) tB'):PW X (.BoolOp .Or (a::b::rest) pos) (tOr tA tB'):=by
 intro wh Ac s σ H Q I h;refine isTrue_or (thn (ha Ac s σ H _ I h) λc s1 ⟨H1,I1,q1⟩=>?_)
 cases c with
 | true=>exact#[H1,I1,q1]
 | false=>exact hb wh Ac s1 σ H1 Q I1 q1
theorem zY(ha:PT X a tA):PT X (.UnaryOp .Not a pos) (zb2 tA):=by
 intro Ac s σ H Q I h;exact isTrue_not (ha Ac s σ H (λc H1=>Q (!c) H1) I h)
def VQ(ta tb:TE):TE:=λσ H Q=>ta σ H λx H1=>onBl x λc=>if c=Aa then tb σ H1 Q else Q (.bl Ab) H1
def Vu(ta:TE):TE:=λσ H Q=>ta σ H λx H1=>onBl x λc=>Q (.bl (!c)) H1
theorem qZ{op}{t:TE}(h:PE X a t):PE X (.BoolOp op [a] pos) t:=λAc s σ H Q I hw=>BoolOp_one (h Ac s σ H Q I hw)
theorem qy(ha:PE X a ta)(hb:PE X (.BoolOp .And (b::rest) pos) tb):PE X (.BoolOp .And (a::b::rest) pos) (VQ ta tb):=by
 intro Ac s σ H Q I h;refine BoolOp_and (thn (ha Ac s σ H _ I h) λv s1 ⟨x,H1,I1,r1,q1⟩=>?_);obtain⟨c,rfl,q1⟩:=onBl.of q1;cases r1;refine rB ?_
 cases c with
 | true=>exact hb Ac s1 σ H1 Q I1 q1
 | false=>exact#[.bl Ab,H1,I1,rfl,q1]
theorem Ku(ha:PE X a ta):PE X (.UnaryOp .Not a pos) (Vu ta):=by
 intro Ac s σ H Q I h;refine UnaryOp_ (thn (ha Ac s σ H _ I h) λv s1 ⟨x,H1,I1,r1,q1⟩=>?_);obtain⟨c,rfl,q1⟩:=onBl.of q1;cases r1;exact not_of (rB #[.bl (!c),H1,I1,rfl,q1])
def tIf(t:TT)(ta tb:TE):TE:=λσ H Q=>t σ H λc H1=>if c=Aa then ta σ H1 Q else tb σ H1 Q
theorem wM{c:rh}(hc:PT X c tA)(ha:PE X a ta)(hb:PE X b tb):PE X (.IfExp c a b pos) (tIf tA ta tb):=by
 intro Ac s σ H Q I h;refine wpAny_IfExp (thn (hc Ac s σ H _ I h) λd s1 ⟨H1,I1,q1⟩=>?_)
 cases d with
 | true=>exact ha Ac s1 σ H1 Q I1 q1
 | false=>exact hb Ac s1 σ H1 Q I1 q1
end
def SqL(K:pW)(H:Hp)(a:pX)(xs:List V):Prop :=
 Rd H a (.lst xs) \/
  ∃(o:rF) (its:Array pY) (n:Nat),K.lookup a=tY o/\o.cls=.type "list"/\o.dict=tZ/\o.data=.seq its n/\its.size<=pV/\Vals xs its.toList
def SqT(K:pW)(H:Hp)(a:pX)(xs:List V):Prop :=
 Rd H a (.tup xs) \/
  ∃(o:rF) (its:Array pY) (n:Nat),K.lookup a=tY o/\o.cls=.type "tuple"/\o.data=.seq its n/\its.size<=pV/\Vals xs its.toList
noncomputable def zfk:pY->Option V
 | .none=>tY .non
 | .bool b=>tY (.bl b)
 | .int i _=>tY (.int i)
 | .str x _=>tY (.str x)
 | .bytes b _=>tY (.byt b)
 | .float b _=>tY (.flt b)
 | .ref a=>tY (.ref a)
 | .type n=>tY (.ty n)
 | _=>tZ
theorem RelV.abs{x:V}{u:pY}(r:RelV x u):zfk u=tY x:=by
 cases x with
 | non=>cases r;rfl
 | bl _=>cases r;rfl
 | int _=>obtain⟨t,rfl⟩:=r;rfl
 | str _=>obtain⟨t,rfl⟩:=r;rfl
 | byt _=>obtain⟨t,rfl⟩:=r;rfl
 | flt _=>obtain⟨t,rfl⟩:=r;rfl
 | ref _=>cases r;rfl
 | ty _=>cases r;rfl
theorem RelV.inj{x y:V}{u:pY}(r:RelV x u)(q:RelV y u):x=y:=Option.some.inj (r.abs.symm.trans q.abs)
theorem Vals.inj:∀{xs ys:List V} {us:List pY},Vals xs us->Vals ys us->xs=ys
 | _,_,_,.nil,.nil=>rfl
 | _,_,_,.cons r t,.cons r' t'=>by rw[r.inj r',Vals.inj t t']
section
variable{X:Cx}{Ac:List (pX × rF)}{σ:St}{H:Hp}{s:pZ}{a:pX}{xs ys:List V}
theorem SqL.of{K:pW}(h:H a=tY (.lst xs)):SqL K H a xs:=.inl (.inl h)
theorem SqT.of{K:pW}(h:H a=tY (.tup xs)):SqT K H a xs:=.inl (.inl h)
theorem Inv.list(I:Inv X Ac σ H s)(h:SqL X.K H a xs):∃its:List pY,Vals xs its/\PlainL s.heap a its.toArray/\xs.length<=pV:=by
 rcases h with h | ⟨o,its,n,hk,hc,hd,hs,hz,r⟩
 ·obtain⟨z,its,n,r,e⟩:=h.ok I.hok;exact#[its,r,#[_,n,e,rfl,rfl,rfl],z]
 ·refine#[its.toList,r,#[o,n,I.kIn a o hk,hc,hd,by simpa using hs],?_];have e:=r.length
  erw[dL]at e
  lia
theorem Inv.tuple(I:Inv X Ac σ H s)(h:SqT X.K H a xs):∃its:List pY,Vals xs its/\IsTup s.heap a its.toArray/\xs.length<=pV:=by
 rcases h with h | ⟨o,its,n,hk,hc,hs,hz,r⟩
 ·obtain⟨z,its,r,p⟩:=h.ok I.hok;exact#[its,r,p,z]
 ·refine#[its.toList,r,#[o,I.kIn a o hk,hc,n,by simpa using hs],?_];have e:=r.length
  erw[dL]at e
  lia
theorem Inv.list_inj(I:Inv X Ac σ H s)(h:SqL X.K H a xs)(h':SqL X.K H a ys):xs=ys:=by
 obtain⟨its,r,⟨o,n,e,_,_,d⟩,_⟩:=I.list h;obtain⟨its',r',⟨o',n',e',_,_,d'⟩,_⟩:=I.list h';rw[e]at e';cases e';rw[d]at d';injection d' with d1 _;have:its=its':=by simpa using congrArg Array.toList d1
 subst this;exact r.inj r'
theorem Inv.tuple_inj(I:Inv X Ac σ H s)(h:SqT X.K H a xs)(h':SqT X.K H a ys):xs=ys:=by
 obtain⟨its,r,⟨o,e,_,n,d⟩,_⟩:=I.tuple h;obtain⟨its',r',⟨o',e',_,n',d'⟩,_⟩:=I.tuple h';rw[e]at e';cases e';rw[d]at d';injection d' with d1 _;have:its=its':=by simpa using congrArg Array.toList d1
 subst this;exact r.inj r'
end
noncomputable abbrev Cx.wish(X:Cx)(E:pY->pZ->Prop):Cx:={ X with xe:=E }
noncomputable abbrev Cx.nox(X:Cx):Cx:=X.wish λ_ _=>False
theorem Cx.Ok.wish{X:Cx}(ok:X.Ok)(E:pY->pZ->Prop):(X.wish E).Ok :=
 #[ok.mod,ok.kind,ok.glob,ok.blt,ok.above,ok.inj,ok.has,ok.cab,ok.hd,ok.frames,ok.stk,ok.exf,ok.bs,ok.bsz,ok.noex,ok.exfs,ok.funs,ok.frf]
theorem Cx.Ok.unwish{X:Cx}{E:pY->pZ->Prop}(ok:(X.wish E).Ok):X.Ok :=
 #[ok.mod,ok.kind,ok.glob,ok.blt,ok.above,ok.inj,ok.has,ok.cab,ok.hd,ok.frames,ok.stk,ok.exf,ok.bs,ok.bsz,ok.noex,ok.exfs,ok.funs,ok.frf]
section
variable{X:Cx}{Ac:List (pX × rF)}{σ:St}{H:Hp}{s:pZ}{E:pY->pZ->Prop}
theorem Inv.wish(I:Inv X Ac σ H s)(E:pY->pZ->Prop):Inv (X.wish E) Ac σ H s:=#[I.ok.wish E,I.os,I.bare,I.base,I.loc,I.cell,I.free,I.freeC,I.pin,I.hok,I.len]
theorem Inv.unwish(I:Inv (X.wish E) Ac σ H s):Inv X Ac σ H s:=#[I.ok.unwish,I.os,I.bare,I.base,I.loc,I.cell,I.free,I.freeC,I.pin,I.hok,I.len]
theorem SP.unwish{D:vf}{f:Flow}{s':pZ}(h:SP (X.wish E) Ac D f s'):SP X Ac D f s':=by
 cases f with
 | next=>obtain⟨σ',H',I,q⟩:=h;exact#[σ',H',I.unwish,q]
 | brk=>obtain⟨σ',H',I,q⟩:=h;exact#[σ',H',I.unwish,q]
 | cont=>obtain⟨σ',H',I,q⟩:=h;exact#[σ',H',I.unwish,q]
 | ret u=>obtain⟨v,σ',H',I,r,q⟩:=h;exact#[v,σ',H',I.unwish,r,q]
theorem PSs.nox{st:List rn}{t:TS}(h:PSs X.nox st t):PSs X st t:=λAc s σ H D I hw =>
 rS (h Ac s σ H D (I.wish _) hw) (λ_ _ q=>q.unwish) λ_ _ z=>False.elim z
end
section
variable{X:Cx}{st:rn}{rest:List rn}{t u:TS}{e:rh}{te:TE}{pos:rP}
def JI:TS:=λD σ H=>D.nx σ H
def zdI(t u:TS):TS:=λD σ H=>t { D with nx:=u D } σ H
theorem zt:PSs X [] JI:=λ_ _ σ H _ I h=>rQ #[σ,H,I,h]
theorem zE(h1:PS X st t)(h2:PSs X rest u):PSs X (st::rest) (zdI t u):=by
 intro Ac s σ H D I h;refine rW (thn (h1 Ac s σ H { D with nx:=u D } I h) λf s1 q=>?_)
 cases f with
 | next =>
  obtain⟨σ',H',I',q⟩:=q;exact h2 Ac s1 σ' H' D I' q
 | ret v=>exact q
 | brk=>exact q
 | cont=>exact q
theorem zc(h1:PS X st t):PSs X [st] t:=by
 intro Ac s σ H D I h;refine rW (thn (h1 Ac s σ H D I h) λf s1 q=>?_)
 cases f with
 | next=>exact rQ q
 | ret v=>exact q
 | brk=>exact q
 | cont=>exact q
theorem Inv.quiet{Ac:List (pX × rF)}{σ:St}{H:Hp}{s:pZ}(I:Inv X Ac σ H s):interactive X.env=Ab:=by simp [interactive,I.ok.kind]
def Jk(te:TE):TS:=λD σ H=>te σ H λ_ H1=>D.nx σ H1
theorem xm(he:PE X e te)(hs:swapsWith e tZ pos.line X.env=pure Ab:=by rfl):PS X (.Expr e pos) (Jk te):=by
 intro Ac s σ H D I h;exact wpAny_Expr_any (thn (he Ac s σ H _ I h) λv s1 ⟨x,H1,I1,r1,q1⟩=>#[σ,H1,I1,q1]) I.quiet hs
def Kt(te:TE):TS:=λD σ H=>te σ H D.rt
theorem zk(he:PE X e te):PS X (.Return (tY e) pos) (Kt te):=by
 intro Ac s σ H D I h;exact tH (thn (he Ac s σ H _ I h) λv s1 ⟨x,H1,I1,r1,q1⟩=>#[x,σ,H1,I1,r1,q1])
def zdJ(c:TT)(t u:TS):TS:=λD σ H=>c σ H λb H1=>if b=Aa then t D σ H1 else u D σ H1
theorem zK{c:rh}{a b:List rn}{tc:TT}(hc:PT X c tc)(ha:PSs X a t)(hb:PSs X b u):PS X (.If c a b pos) (zdJ tc t u):=by
 intro Ac s σ H D I h;refine wpAny_If (thn (hc Ac s σ H _ I h) λd s1 ⟨H1,I1,q1⟩=>?_)
 cases d with
 | true=>exact ha Ac s1 σ H1 D I1 q1
 | false=>exact hb Ac s1 σ H1 D I1 q1
end
noncomputable abbrev TG:=V->St->Hp->(St->Hp->Prop)->Prop
noncomputable abbrev TGs:=List V->St->Hp->(St->Hp->Prop)->Prop
def PG(X:Cx)(target:rh)(t:TG):Prop :=
 ∀(Ac:List (pX × rF)) (s:pZ) (σ:St) (H:Hp) (v:V) (u:pY) (Q:St->Hp->Prop),Inv X Ac σ H s->RelV v u->t v σ H Q ->
  rd (model X.prog X.w) X.A (assign target X.env u) (λ_ s'=>∃σ' H',Inv X Ac σ' H' s'/\Q σ' H') X.xe s
def PGs(X:Cx)(ts:List rh)(t:TGs):Prop :=
 ∀(Ac:List (pX × rF)) (s:pZ) (σ:St) (H:Hp) (vs:List V) (us:List pY) (Q:St->Hp->Prop),Inv X Ac σ H s->Vals vs us->t vs σ H Q ->
  rd (model X.prog X.w) X.A (assignInOrder ((assignEach ts X.env).map (·.2)) us) (λ_ s'=>∃σ' H',Inv X Ac σ' H' s'/\Q σ' H') X.xe s
noncomputable abbrev zet:=V->V->V->Hp->(Hp->Prop)->Prop
def zeY(X:Cx)(t:zet):Prop :=
 ∀(Ac:List (pX × rF)) (s:pZ) (σ:St) (H:Hp) (o i v:V) (ov iv u:pY) (Q:Hp->Prop),Inv X Ac σ H s->RelV o ov->RelV i iv->RelV v u->t o i v H Q ->
  rd (model X.prog X.w) X.A (setItem ov iv u) (λ_ s'=>∃H',Inv X Ac σ H' s'/\Q H') X.xe s
section
variable{X:Cx}{pos:rP}
def yD(i:Nat):TG:=λv σ H Q=>Q (σ.set i (tY v)) H
theorem zA{i:Nat}{x:re}(hN:X.N.Nodup)(hi:X.N[i]? = tY x)(hx:Loc X.env.scope x)(hf:X.fn x=Aa\/X.env.scope.names.lookup x=tY .local:=by first | exact .inl rfl | exact .inr rfl | assumption):PG X (.Name x pos) (yD i):=by
 intro Ac s σ H v u Q I r h;exact tG (k8 I hN hi hx r (λs' I'=>#[_,H,I',h]) hf)
def zb0:TGs:=λvs σ H Q=>vs=[]/\Q σ H
def ZH(t:TG)(u:TGs):TGs:=λvs σ H Q=>∃v r,vs=v::r/\t v σ H λσ' H'=>u r σ' H' Q
theorem wF:PGs X [] zb0:=by
 intro Ac s σ H vs us Q I r h;obtain⟨e,h⟩:=h;subst e;cases r;exact assignInOrder_nil #[σ,H,I,h]
theorem z5{e:rh}{es:List rh}{t:TG}{u:TGs}(h1:PG X e t)(h2:PGs X es u)
  (hs:(assignEach (e::es) X.env).map (·.2)=assign e X.env::(assignEach es X.env).map (·.2):=by rfl):PGs X (e::es) (ZH t u):=by
 intro Ac s σ H vs us Q I r h;obtain⟨v,vr,e1,h⟩:=h;subst e1
 cases r with
 | cons r rr =>
  rw[hs];refine assignInOrder_cons (thn (h1 Ac s σ H _ _ _ I r h) λ_ s1 ⟨σ1,H1,I1,q1⟩=>?_);exact h2 Ac s1 σ1 H1 _ _ Q I1 rr q1
def zb1(K:pW)(n:Nat)(t:TGs):TG:=λv σ H Q=>∃a xs,v=.ref a/\SqT K H a xs/\xs.length=n/\t xs σ H Q
theorem uE{es:List rh}{k:Nat}{t:TGs}{n:Nat}(hc:X.calm=Aa)(h:PGs X es t)
  (hn:(assignEach es X.env).length=n:=by rfl) (hst:(assignEach es X.env).findIdx? (·.1)=tZ:=by rfl):PG X (.Tuple es k pos) (zb1 X.K n t):=by
 intro Ac s σ H v u Q I r hw;obtain⟨a,xs,e1,hq,hl,hw⟩:=hw;subst e1;cases r;obtain⟨its,rv,ht,hz⟩:=I.tuple hq;refine assign_Tuple_tuple (I.ok.hd hc) ht (by simp [hn,<- hl,rv.length]) hst λh' hx=>?_;have I1:Inv X Ac σ H { s with heap:=h' }:=I.kept (t':=s.toks) λb o e=>hx b o (ay (aq e)) e;exact h Ac _ σ H xs _ Q I1 (by simpa using rv) hw
def ze5(to ti:TE)(t:zet):TG:=λv σ H Q=>to σ H λo H1=>ti σ H1 λi H2=>t o i v H2 λH3=>Q σ H3
theorem zcR{o i:rh}{to ti:TE}{t:zet}(ho:PE X o to)(hi:PE X i ti)(hs:zeY X t)
  (ha:∀v,assign (.Subscript o i pos) X.env v=(do
   let ov <- holding [v] (eval o X.env)
   let iv <- holding [v,ov] (eval i X.env)
   standAt pos
   holding [v,ov,iv] (setItem ov iv v)
   release [v,ov,iv] []):=by intro _;rfl):PG X (.Subscript o i pos) (ze5 to ti t):=by
 intro Ac s σ H v u Q I r h;rw[ha];refine pQ (rG (thn (ho Ac s σ H _ I h) λov s1 ⟨x,H1,I1,r1,q1⟩=>?_));refine pQ (rG (thn (hi Ac s1 σ H1 _ I1 q1) λiv s2 ⟨y,H2,I2,r2,q2⟩=>?_));refine pQ (rN (pQ (rG (thn (hs Ac s2 σ H2 x y v ov iv u _ I2 r1 r2 r q2) λ_ s3 ⟨H3,I3,q3⟩=>?_))));exact wpAny_release #[σ,H3,I3,q3]
def zbV(te:TE)(g:TG):TS:=λD σ H=>te σ H λx H1=>g x σ H1 D.nx
theorem zcq{tg e:rh}{te:TE}{g:TG}(he:PE X e te)(hg:PG X tg g)(hs:swapsWithSole [tg] e pos.line X.env=pure Ab:=by rfl)(hw:swappedStores [tg] e X.env=pure tZ:=by rfl)
  (h1:(assignEach [tg] X.env).map (·.2)=[assign tg X.env]:=by rfl):PS X (.Assign [tg] e pos) (zbV te g):=by
 intro Ac s σ H D I h;refine wpAny_Assign_stores (thn (he Ac s σ H _ I h) λv s1 ⟨x,H1,I1,r1,q1⟩=>?_) hs hw;rw[h1];exact thn (hg Ac s1 σ H1 x v _ I1 r1 q1) λ_ s2 q=>q
theorem jY{i:Nat}{x:re}{e:rh}{te:TE}{pos':rP}(hN:X.N.Nodup)(hi:X.N[i]? = tY x)(hx:Loc X.env.scope x)(he:PE X e te)(hs:swapsWith e (tY (.Name x pos')) pos.line X.env=pure Ab:=by rfl)(hf:X.fn x=Aa\/X.env.scope.names.lookup x=tY .local:=by first | exact .inl rfl | exact .inr rfl | assumption) :
  PS X (.Assign [.Name x pos'] e pos) (zbV te (yD i)):=by
 intro Ac s σ H D I h;refine tI (thn (he Ac s σ H _ I h) λv s1 ⟨y,H1,I1,r1,q1⟩=>?_) hs;exact k8 I1 hN hi hx r1 (λs2 I2=>#[_,H1,I2,q1]) hf
def Wr(c:TT)(tb:TS):TS:=λD σ H=>∃W:Nat->St->Hp->Prop,(∃m,W m σ H)/\∀m σ H,W m σ H ->
 c σ H λb H1=>if b=Aa then ∃N:St->Hp->Prop,(∀σ' H',N σ' H'->∃m',m'<m/\W m' σ' H')/\tb { D with nx:=N,ct:=N,bk:=D.nx } σ H1 else D.nx σ H1
theorem kh{c:rh}{body:List rn}{tc:TT}{tb:TS}(hp:PassesOwn (model X.prog X.w) X.A X.env X.xe)(hc:PT X c tc)(hb:PSs X body tb):PS X (.While c body [] pos) (Wr tc tb):=by
 intro Ac s σ H D I h;obtain⟨W,⟨m0,w0⟩,turn⟩:=h;refine wpAny_While (codeAny_whileLoop (λn s'=>∃σ' H',Inv X Ac σ' H' s'/\W n σ' H') ?_ m0 #[σ,H,I,w0]);rintro n s1 ⟨σ1,H1,I1,w1⟩;refine rM hp (thn (hc Ac s1 σ1 H1 _ I1 (turn n σ1 H1 w1)) λb s2 ⟨H2,I2,q2⟩=>?_)
 cases b with
 | true =>
  obtain⟨N,hN,q2⟩:=q2;rw[if_pos rfl];refine rM hp (thn (hb Ac s2 σ1 H2 _ I2 q2) λf s3 q3=>?_)
  cases f with
  | next =>
   obtain⟨σ3,H3,I3,n3⟩:=q3;obtain⟨m',hm,w3⟩:=hN σ3 H3 n3;exact#[m',hm,σ3,H3,I3,w3]
  | cont =>
   obtain⟨σ3,H3,I3,n3⟩:=q3;obtain⟨m',hm,w3⟩:=hN σ3 H3 n3;exact#[m',hm,σ3,H3,I3,w3]
  | brk=>exact q3
  | ret v=>exact q3
 | false =>
  rw[if_neg az];exact rQ #[σ1,H2,I2,q2]
end
structure It where
 go:Nat->Hp->Prop
 yld:Nat->Hp->V->Hp->Prop
 stop:Nat->Hp->Prop
def xU(X:Cx)(Ac:List (pX × rF))(H:Hp)(b:pX):Prop :=
 H b=tZ/\b≠X.env.locals/\b ∉ X.fs/\(b ∈ X.ex\/X.s₀.heap.objs.size<=b)/\(∀x c,X.env.cells.lookup x=tY c->c≠b)/\∀p ∈ X.pn ++ Ac,p.1≠b
theorem Inv.fpOk{X:Cx}{Ac:List (pX × rF)}{σ:St}{H H':Hp}{s:pZ}{b:pX}(I:Inv X Ac σ H s)(hb:s⁻¹<=b)(hn:H' b=tZ):xU X Ac H' b:=by
 refine#[hn,cB (av I.lt hb),I.nofs hb,.inr (aK I.sz hb),λx c e z=>?_,λp hp z=>?_]
 ·obtain⟨v,q⟩:=I.cell x c e;exact absurd (av q.lt (by rw[z];exact hb)) (cH _)
 ·exact absurd (av (aq (I.pin p hp).1) (by rw[z];exact hb)) (cH _)
structure JZ(P:rb)(w:rf)(K:pW)(tg:rh)(J:It)(fp:List pX)(it:pX)(tn:Nat->rj->Prop):Prop where
 mem:it ∈ fp
 obj:∀i h,tn i h->∀b ∈ fp,∃o,h.get? b=tY o/\∀v,o.data≠.cell v
 keep:∀i h h',tn i h->(∀b ∈ fp,∀o,h.get? b=tY o->h'.get? b=tY o)->tn i h'
 item:∀(X:Cx),X.prog=P->X.w=w->X.K=K->X.calm=Aa->∀(i:Nat) (Ac:List (pX × rF)) (s:pZ) (σ:St) (H:Hp) (E:pY->pZ->Prop),Inv X Ac σ H s->(∀b ∈ fp,xU X Ac H b)->tn i s.heap->J.go i H ->
  rd (model P w) X.A (pyNext (.ref it)) (λr s1=>∃u,r=tY u /\
   rd (model P w) X.A (letOwnedTupleGo tg (.ref it) u) (λ_ s2=>∃x H',Inv X Ac σ H' s2/\RelV x u/\J.yld i H x H'/\tn (i+1) s2.heap/\∀b ∈ fp,H' b=tZ) E s1) E s
 done:∀(X:Cx),X.prog=P->X.w=w->X.K=K->X.calm=Aa->∀(i:Nat) (Ac:List (pX × rF)) (s:pZ) (σ:St) (H:Hp) (E:pY->pZ->Prop),Inv X Ac σ H s->(∀b ∈ fp,xU X Ac H b)->tn i s.heap->J.stop i H ->
  rd (model P w) X.A (pyNext (.ref it)) (λr s1=>r=tZ/\Inv X Ac σ H s1) E s
 self:∀(A:rg) (i:Nat) (s:pZ) (Q:pY->pZ->Prop) (E:pY->pZ->Prop),tn i s.heap->Q (.ref it) s->rd (model P w) A (pyIter (.ref it)) Q E s
noncomputable abbrev TI:=St->Hp->(It->Hp->Prop)->Prop
def PIE(X:Cx)(Ac:List (pX × rF))(σ:St)(tg:rh)(R:It->Hp->Prop)(itv:pY)(s2:pZ):Prop :=
 ∃(it:pX) (fp:List pX) (tn:Nat->rj->Prop) (J:It) (H':Hp),itv=.ref it/\Inv X Ac σ H' s2/\JZ X.prog X.w X.K tg J fp it tn/\tn 0 s2.heap/\(∀b ∈ fp,xU X Ac H' b)/\R J H'
def PI(X:Cx)(tg iter:rh)(wi:TI):Prop :=
 ∀(Ac:List (pX × rF)) (s:pZ) (σ:St) (H:Hp) (R:It->Hp->Prop),Inv X Ac σ H s->wi σ H R ->
  rd (model X.prog X.w) X.A (eval iter X.env) (λv s1=>rd (model X.prog X.w) X.A (pyIter v) (PIE X Ac σ tg R) X.xe s1) X.xe s
theorem V6{M:tJ}{A:rg}{E:pY->pZ->Prop}{s:pZ}{tg:rh}{it:pX}{u:pY}{o:rF}{n:String}{vs:Array pY}{Q:Unit->pZ->Prop}(ho:s.heap.get? it=tY o)(hc:o.cls=.type n)(hd:o.data=.fields vs)
    (hn:["enumerate","zip","dict_itemiterator","dict_reverseitemiterator","odict_iterator","itertools.zip_longest","itertools.pairwise"].contains n=Ab) (hQ:Q Unit.unit s):rd M A (letOwnedTupleGo tg (.ref it) u) Q E s:=by
  unfold letOwnedTupleGo
  cases tg <;> first
    | exact pR hQ
    | (cases u <;> first
        | exact pR hQ
        | (refine pQ (wpAny_load ho ?_)
           rw[hc,hd];show rd M A (if (["enumerate","zip","dict_itemiterator","dict_reverseitemiterator","odict_iterator","itertools.zip_longest","itertools.pairwise"].contains n && vs[0]? == tY (rawInt _))=Aa then _ else _) Q E s;rw[if_neg (by intro h;rw[hn,Bool.false_and]at h;cases h)]
           exact pR hQ))
noncomputable def Itl(K:pW)(a:pX):It :=
 #[λi H=>∃xs x,SqL K H a xs/\xs[i]? = tY x,λi H x H'=>H'=H/\∀xs,SqL K H a xs->xs[i]? = tY x,λi H=>∃xs,SqL K H a xs/\xs.length<=i]
noncomputable def Itt(K:pW)(a:pX):It :=
 #[λi H=>∃xs x,SqT K H a xs/\xs[i]? = tY x,λi H x H'=>H'=H/\∀xs,SqT K H a xs->xs[i]? = tY x,λi H=>∃xs,SqT K H a xs/\xs.length<=i]
noncomputable def Itr(lo:Int)(n:Nat):It:=#[λi _=>i<n,λi H x H'=>H'=H/\x=.int (lo+i),λi _=>n<=i]
theorem UY{P:rb}{w:rf}{K:pW}{tg:rh}(a it:pX):JZ P w K tg (Itl K a) [it] it (λi h=>h.IsListIter it a i) where
 mem:=by simp
 obj:=λi h st b hb=>by
  have e:b=it:=by simpa using hb
  subst e;obtain⟨o,e,c,d⟩:=st;exact#[o,e,λv z=>by rw[d]at z;cases z]
 keep:=λi h h' st k=>st.at λo e=>k it (by simp) o e
 item:=by
  intro X hP hw hK hc i Ac s σ H E I hf st hg;subst hP hw hK;obtain⟨xs,x,hq,hx⟩:=hg;obtain⟨its,rv,p,hz⟩:=I.list hq;obtain⟨u,hu,ru⟩:=rv.get hx;obtain⟨f0,f1,f2,f3,f4,f5⟩:=hf it (by simp);refine wpAny_pyNext_list_item st p.isList (x:=u) (by simpa using hu) λh' st' sb=>?_;have I1:Inv X Ac σ H { s with heap:=h' }:=I.turned (t':=s.toks) (λb o hb e=>(sb.2 b hb).trans e) f0 f1 f3 f4 f5;obtain⟨o,e,c,d⟩:=id st';exact#[u,rfl,V6 (s:={ s with heap:=h' }) e c d ∅ #[x,H,I1,ru,#[rfl,λys hy=>by rw[I.list_inj hy hq];exact hx],st',λb hb=>(hf b hb).1]]
 done:=by
  intro X hP hw hK hc i Ac s σ H E I hf st hg;subst hP hw hK;obtain⟨xs,hq,hx⟩:=hg;obtain⟨its,rv,p,hz⟩:=I.list hq;obtain⟨f0,f1,f2,f3,f4,f5⟩:=hf it (by simp);have hl:=rv.length;exact wpAny_pyNext_list_end (I.ok.hd hc) st p.isList (by simp;lia) λh' eb=>#[rfl,I.turned (t':=s.toks) (λb o hb e=>eb b o hb e) f0 f1 f3 f4 f5]
 self:=λ_ _ _ _ _ st h=>wpAny_pyIter_listiter st h
theorem WM{P:rb}{w:rf}{K:pW}{tg:rh}(it:pX)(lo:Int)(n:Nat):JZ P w K tg (Itr lo n) [it] it (λi h=>sZ h it (lo+(i:Nat) * 1) ((n:Int) - (i:Nat)) 1) where
 mem:=by simp
 obj:=λi h st b hb=>by
  have e:b=it:=by simpa using hb
  subst e
  exact#[_,st,λv z=>by
   have z':Data.fields _=Data.cell v:=z
   cases z']
 keep:=λi h h' st k=>k it (by simp) _ st
 item:=by
  intro X hP hw hK hc i Ac s σ H E I hf st hg;subst hP hw hK;obtain⟨f0,f1,f2,f3,f4,f5⟩:=hf it (by simp);have W:=Walks.range (prog:=X.prog) (w:=X.w) (I.ok.hd hc) it lo 1 n;refine W.item i s _ _ hg st λv h' tk hv st' kk=>?_;obtain⟨t,rfl⟩:=hv;have I1:Inv X Ac σ H { s with heap:=h',toks:=tk }:=I.turned (λb o hb e=>kk b o (by simpa using hb) e) f0 f1 f3 f4 f5;refine#[_,rfl,V6 (s:={ s with heap:=h',toks:=tk }) (n:="range_iterator") st' rfl rfl ∅ #[.int (lo+i),H,I1,#[t,?_],#[rfl,rfl],st',λb hb=>(hf b hb).1]];rw[Int.mul_one]
 done:=by
  intro X hP hw hK hc i Ac s σ H E I hf st hg;subst hP hw hK;obtain⟨f0,f1,f2,f3,f4,f5⟩:=hf it (by simp);exact sI (I.ok.hd hc) st (by have:n<=i:=hg;lia) λh' eb=>#[rfl,I.turned (t':=s.toks) (λb o hb e=>eb b o hb e) f0 f1 f3 f4 f5]
 self:=λ_ _ _ _ _ st h=>sK st h
section
variable{X:Cx}{tg:rh}
def zaV(K:pW)(tl:TE):TI:=λσ H R=>tl σ H λx H1=>∃a,x=.ref a/\(∃xs,SqL K H1 a xs)/\R (Itl K a) H1
def zfw(K:pW)(tl:TE):TI:=λσ H R=>tl σ H λx H1=>∃a,x=.ref a/\(∃xs,SqT K H1 a xs)/\R (Itt K a) H1
theorem yc{l:rh}{tl:TE}(hl:PE X l tl):PI X tg l (zaV X.K tl):=by
 intro Ac s σ H R I h;refine thn (hl Ac s σ H _ I h) λv s1 ⟨x,H1,I1,r1,q1⟩=>?_;obtain⟨a,e,⟨xs,hq⟩,q⟩:=q1;subst e;cases r1;obtain⟨its,rv,p,hz⟩:=I1.list hq;refine sk p.isList ?_;refine#[s1⁻¹,[s1⁻¹],_,_,H1,rfl,I1.kept (t':=s1.toks) λb o e=>ah _ e,UY a _,#[_,aG _ rfl,rfl,rfl],λb hb=>?_,q];have e:b=s1⁻¹:=by simpa using hb
 subst e;exact I1.fpOk (al _) (I1.hok.fresh (al _))
theorem X5{Ac:List (pX × rF)}{σ:St}{H:Hp}{s:pZ}{R:It->Hp->Prop}{E:pY->pZ->Prop}{lo hi:Int}{t u v:tu}{tk:Nat}(I:Inv X Ac σ H s)(h1:-(2 ^ 62)<=lo)(h2:lo<2 ^ 62)(h3:-(2 ^ 62)<=hi)(h4:hi<2 ^ 62)
  (q:R (Itr lo (hi - lo).toNat) H):rd (model X.prog X.w) X.A (pyIter (.ref s⁻¹)) (PIE X Ac σ tg R) E { s with heap:=s.heap.push { cls:=.type "range",data:=.fields (List.toArray [.int lo t,.int hi u,.int 1 v]) },toks:=tk }:=by
 refine tE (IsRange.new ..) (small_one h1 h2 h3 h4) ?_;have I1:Inv X Ac σ H { s with heap:=s.heap.push { cls:=.type "range",data:=.fields (List.toArray [.int lo t,.int hi u,.int 1 v]) },toks:=tk }:=I.kept λb o e=>ah _ e
 refine#[(s.heap.push { cls:=.type "range",data:=.fields (List.toArray [.int lo t,.int hi u,.int 1 v]) }).objs.size,[(s.heap.push { cls:=.type "range",data:=.fields (List.toArray [.int lo t,.int hi u,.int 1 v]) }).objs.size],_,_,H,rfl,
  I1.kept (t':=tk) λb o e=>ah _ e,WM _ lo (hi - lo).toNat,?_,λb hb=>?_,q]
 ·have e1:lo+((0:Nat):Int) * 1=lo:=by simp
  have e2:(((hi - lo).toNat:Nat):Int) - ((0:Nat):Int)=Builtin.Range.rangeSize lo hi 1:=by rw[rangeSize_one];split <;> lia
  show sZ _ _ (lo+((0:Nat):Int) * 1) ((((hi - lo).toNat:Nat):Int) - ((0:Nat):Int)) 1;rw[e1,e2];exact aG _ rfl
 ·have e:b=(s.heap.push { cls:=.type "range",data:=.fields (List.toArray [.int lo t,.int hi u,.int 1 v]) }).objs.size:=by simpa using hb
  subst e;exact I1.fpOk (al _) (I1.hok.fresh (al _))
def zbL(ta:TA):TI:=λσ H R=>ta σ H λvs H1=>∃j:Int,vs=[.int j]/\-(2 ^ 62)<=j/\j<2 ^ 62/\R (Itr 0 j.toNat) H1
def zdB(ta:TA):TI:=λσ H R=>ta σ H λvs H1=>∃i j:Int,vs=[.int i,.int j]/\(-(2 ^ 62)<=i/\i<2 ^ 62/\-(2 ^ 62)<=j/\j<2 ^ 62)/\R (Itr i (j - i).toNat) H1
theorem yC{a:rh}{ta:TA}{p pos:rP}(hg:Gl X "range")(hm:X.mg "range" = tZ)(ha:PA X [a] ta)(hs:pT [a] X.env=[(Ab,eval a X.env)]:=by rfl):PI X tg (.Call (.Name "range" p) [a] [] pos) (zbL ta):=by
 intro Ac s σ H R I h;refine tX (wf I hg hm boot_range (bq (thn (ha pos Ac s σ H _ I h) λus s1 ⟨vs,H1,I1,r1,q1⟩=>?_) hs rfl));obtain⟨j,e,q1,q2,q⟩:=q1;subst e
 cases r1 with
 | cons r rr =>
  cases rr;obtain⟨t,rfl⟩:=r;exact call_range_1 (X5 I1 ⋯ ⋯ q1 q2 (by simpa using q))
theorem Yh{a b:rh}{ta:TA}{p pos:rP}(hg:Gl X "range")(hm:X.mg "range" = tZ)(ha:PA X [a,b] ta)(hs:pT [a,b] X.env=[(Ab,eval a X.env),(Ab,eval b X.env)]:=by rfl)(hs2:pT [b] X.env=[(Ab,eval b X.env)]:=by rfl) :
  PI X tg (.Call (.Name "range" p) [a,b] [] pos) (zdB ta):=by
 intro Ac s σ H R I h;refine tX (wf I hg hm boot_range (bq (thn (ha pos Ac s σ H _ I h) λus s1 ⟨vs,H1,I1,r1,q1⟩=>?_) (by rw[hs,hs2]) (by rw[hs2];rfl)));obtain⟨i,j,e,⟨q1,q2,q3,q4⟩,q⟩:=q1;subst e
 cases r1 with
 | cons r rr =>
  cases rr with
  | cons r' rr =>
   cases rr;obtain⟨t,rfl⟩:=r;obtain⟨t',rfl⟩:=r';exact call_range_2 (X5 I1 q1 q2 q3 q4 q)
def Ka(wi:TI)(g:TG)(tb:TS):TS:=λD σ H=>wi σ H λJ H1=>∃W:Nat->Nat->St->Hp->Prop,(∃m,W 0 m σ H1)/\∀i m σ H,W i m σ H ->
 (J.stop i H/\D.nx σ H)\/(J.go i H/\∃N:St->Hp->Prop,(∀σ' H',N σ' H'->∃m',m'<m/\W (i+1) m' σ' H')/\∀x H',J.yld i H x H'->g x σ H' λσ2 H2=>tb { D with nx:=N,ct:=N,bk:=D.nx } σ2 H2)
noncomputable def Yc(fp:List pX)(h:rj):List (pX × rF):=fp.filterMap λb=>(h.get? b).map λo=>(b,o)
theorem wV{fp:List pX}{h:rj}{b:pX}{o:rF}(hb:b ∈ fp)(e:h.get? b=tY o):(b,o) ∈ Yc fp h:=Ay.mpr #[b,hb,by rw[e];rfl]
theorem Us{fp:List pX}{h:rj}{p:pX × rF}(hp:p ∈ Yc fp h):p.1 ∈ fp/\h.get? p.1=tY p.2:=by
 obtain⟨b,hb,e⟩:=Ay.mp hp
 cases q:h.get? b with
 | none=>rw[q]at e;cases e
 | some o =>
  rw[q]at e;have e':(b,o)=p:=Option.some.inj e;subst e';exact#[hb,q]
theorem Inv.pinned{Ac:List (pX × rF)}{σ:St}{H:Hp}{s:pZ}{fp:List pX}(I:Inv X Ac σ H s)(hf:∀b ∈ fp,xU X Ac H b)(ho:∀b ∈ fp,∃o,s.heap.get? b=tY o/\∀v,o.data≠.cell v):Inv X (Ac ++ Yc fp s.heap) σ H s :=
 I.pins_of λp hp=>(Ai.mp hp).elim (λz=>I.pin p (aA _ z)) λz=>by
  obtain⟨hb,e⟩:=Us z;obtain⟨f0,f1,f2,_⟩:=hf p.1 hb;obtain⟨o,e',d⟩:=ho p.1 hb;rw[e]at e';cases e';exact#[e,f0,f1,f2,d]
theorem Inv.unpinned{Ac pl:List (pX × rF)}{σ:St}{H:Hp}{s:pZ}(I:Inv X (Ac ++ pl) σ H s):Inv X Ac σ H s:=I.pins_of λp hp=>I.pin p (aA _ (bn _ hp))
theorem zS{iter:rh}{body:List rn}{wi:TI}{g:TG}{tb:TS}{pos:rP}(hp:PassesOwn (model X.prog X.w) X.A X.env X.xe)(hc:X.calm=Aa)(hi:PI X tg iter wi)(hg:PG X tg g)(hb:PSs X body tb)
  (hs:∀x,foldedSetIterable iter X.env x=pure x:=by intro _;rfl):PS X (.For tg iter body [] pos) (Ka wi g tb):=by
 intro Ac s σ H D I h;refine wpAny_For (thn (hi Ac s σ H _ I h) λv s1 h1=>thn h1 λitv s2 h2=>?_) hs;obtain⟨it,fp,tn,J,H2,e,I2,T,st2,f2,W,⟨m0,w0⟩,turn⟩:=h2;subst e;have stat:∀{H':Hp},(∀b ∈ fp,H' b=tZ)->∀b ∈ fp,xU X Ac H' b:=λhn b hb=>#[hn b hb,(f2 b hb).2];refine codeAny_forLoop_any (λn s'=>∃i σ' H',Inv X Ac σ' H' s'/\tn i s'.heap/\(∀b ∈ fp,H' b=tZ)/\W i n σ' H') ?_ m0 #[0,σ,H2,I2,st2,λb hb=>(f2 b hb).1,w0];rintro n s3 ⟨i,σ3,H3,I3,st3,fr3,w3⟩;rcases turn i n σ3 H3 w3 with ⟨stop,qn⟩ | ⟨go,N,hN,step⟩
 ·refine rM hp (thn (T.done X rfl rfl rfl hc i Ac s3 σ3 H3 X.xe I3 (stat fr3) st3 stop) λr s4 ⟨hr,I4⟩=>?_);subst hr;exact rQ #[σ3,H3,I4,qn]
 ·refine rM hp (thn (T.item X rfl rfl rfl hc i Ac s3 σ3 H3 X.xe I3 (stat fr3) st3 go) λr s4 ⟨u,hr,h4⟩=>?_);subst hr;refine rM hp (thn h4 λ_ s5 ⟨x,H5,I5,r5,y5,st5,fr5⟩=>?_);have I5':=I5.pinned (stat fr5) (T.obj _ _ st5);refine rM hp (thn (hg _ s5 σ3 H5 x u _ I5' r5 (step x H5 y5)) λ_ s6 ⟨σ6,H6,I6,q6⟩=>?_);refine rM hp (thn (hb _ s6 σ6 H6 _ I6 q6) λf s7 q7=>?_)
  have again:∀{σ7:St} {H7:Hp},Inv X (Ac ++ Yc fp s5.heap) σ7 H7 s7->N σ7 H7->∃m,m<n/\∃i σ' H',Inv X Ac σ' H' s7/\tn i s7.heap/\(∀b ∈ fp,H' b=tZ)/\W i m σ' H':=λ{σ7 H7} I7 n7=>by
   obtain⟨m',hm,w7⟩:=hN σ7 H7 n7;refine#[m',hm,i+1,σ7,H7,I7.unpinned,T.keep _ _ _ st5 λb hb o e=>(I7.pin (b,o) (aA _ (aA _ (wV hb e)))).1,λb hb=>?_,w7];obtain⟨o,e,d⟩:=T.obj _ _ st5 b hb;exact (I7.pin (b,o) (aA _ (aA _ (wV hb e)))).2.1
  cases f with
  | next=>obtain⟨σ7,H7,I7,n7⟩:=q7;exact again I7 n7
  | cont=>obtain⟨σ7,H7,I7,n7⟩:=q7;exact again I7 n7
  | brk=>obtain⟨σ7,H7,I7,q7⟩:=q7;exact#[σ7,H7,I7.unpinned,q7]
  | ret v=>obtain⟨x7,σ7,H7,I7,r7,q7⟩:=q7;exact#[x7,σ7,H7,I7.unpinned,r7,q7]
end
theorem Jj{K:pW}{a:pX}{xs:List V}{g:TG}{tb:TS}{D:vf}{σ:St}{H:Hp}(Pv:Nat->St->Hp->Prop)(h0:Pv 0 σ H)(hl:∀i σ H,i<=xs.length->Pv i σ H->SqL K H a xs)
  (hs:∀i x σ H,xs[i]? = tY x->Pv i σ H->g x σ H λσ2 H2=>tb { D with nx:=Pv (i+1),ct:=Pv (i+1),bk:=D.nx } σ2 H2) (hd:∀σ H,Pv xs.length σ H->D.nx σ H) :
  ∃W:Nat->Nat->St->Hp->Prop,(∃m,W 0 m σ H)/\∀i m σ H,W i m σ H ->
   ((Itl K a).stop i H/\D.nx σ H)\/((Itl K a).go i H/\∃N:St->Hp->Prop,(∀σ' H',N σ' H'->∃m',m'<m/\W (i+1) m' σ' H')/\∀x H',(Itl K a).yld i H x H'->g x σ H' λσ2 H2=>tb { D with nx:=N,ct:=N,bk:=D.nx } σ2 H2):=by
 refine#[λi m σ H=>m=xs.length - i/\i<=xs.length/\Pv i σ H,#[xs.length,by simp,aD _,h0],?_];rintro i m σ H ⟨rfl,hi,p⟩;have q:=hl i σ H hi p;by_cases hlt:i<xs.length
 ·refine .inr #[#[xs,xs[i],q,by simp [hlt]],Pv (i+1),λσ' H' p'=>#[xs.length - (i+1),⋯,rfl,hlt,p'],λx H' y=>?_];obtain⟨e,y⟩:=y;subst e;exact hs i x σ _ (y xs q) p
 ·have e:i=xs.length:=⋯;subst e;exact .inl #[#[xs,q,al _],hd σ H p]
theorem U4{lo:Int}{n:Nat}{g:TG}{tb:TS}{D:vf}{σ:St}{H:Hp}(Pv:Nat->St->Hp->Prop)(h0:Pv 0 σ H)
  (hs:∀i σ H,i<n->Pv i σ H->g (.int (lo+i)) σ H λσ2 H2=>tb { D with nx:=Pv (i+1),ct:=Pv (i+1),bk:=D.nx } σ2 H2) (hd:∀σ H,Pv n σ H->D.nx σ H) :
  ∃W:Nat->Nat->St->Hp->Prop,(∃m,W 0 m σ H)/\∀i m σ H,W i m σ H ->
   ((Itr lo n).stop i H/\D.nx σ H)\/((Itr lo n).go i H/\∃N:St->Hp->Prop,(∀σ' H',N σ' H'->∃m',m'<m/\W (i+1) m' σ' H')/\∀x H',(Itr lo n).yld i H x H'->g x σ H' λσ2 H2=>tb { D with nx:=N,ct:=N,bk:=D.nx } σ2 H2):=by
 refine#[λi m σ H=>m=n - i/\i<=n/\Pv i σ H,#[n,by simp,aD _,h0],?_];rintro i m σ H ⟨rfl,hi,p⟩;by_cases hlt:i<n
 ·refine .inr #[hlt,Pv (i+1),λσ' H' p'=>#[n - (i+1),⋯,rfl,hlt,p'],λx H' y=>?_];obtain⟨e,y⟩:=y;subst e y;exact hs i σ _ hlt p
 ·have e:i=n:=⋯;subst e;exact .inl #[al _,hd σ H p]
noncomputable abbrev R2:=V->V->Hp->VK->Prop
def OpR(X:Cx)(f:pY->pY->tO pY)(r:R2):Prop :=
 ∀(Ac:List (pX × rF)) (s:pZ) (σ:St) (H:Hp) (x y:V) (v u:pY) (Q:VK),Inv X Ac σ H s->RelV x v->RelV y u->r x y H Q ->
  rd (model X.prog X.w) X.A (f v u) (EP X Ac σ Q) X.xe s
def UnR(X:Cx)(f:pY->tO pY)(r:V->Hp->VK->Prop):Prop :=
 ∀(Ac:List (pX × rF)) (s:pZ) (σ:St) (H:Hp) (x:V) (v:pY) (Q:VK),Inv X Ac σ H s->RelV x v->r x H Q ->
  rd (model X.prog X.w) X.A (f v) (EP X Ac σ Q) X.xe s
def vj(X:Cx)(f:pY)(r:List V->Hp->VK->Prop):Prop :=
 ∀(Ac:List (pX × rF)) (s:pZ) (σ:St) (H:Hp) (xs:List V) (us:List pY) (Q:VK),Inv X Ac σ H s->Vals xs us->r xs H Q ->
  rd (model X.prog X.w) X.A (call f us) (EP X Ac σ Q) X.xe s
def zft(X:Cx)(r:V->Hp->(Bool->Hp->Prop)->Prop):Prop :=
 ∀(Ac:List (pX × rF)) (s:pZ) (σ:St) (H:Hp) (x:V) (v:pY) (Q:Bool->Hp->Prop),Inv X Ac σ H s->RelV x v->r x H Q ->
  rd (model X.prog X.w) X.A (truthy v) (TP X Ac σ Q) X.xe s
def tOp(r:R2)(ta tb:TE):TE:=λσ H Q=>ta σ H λx H1=>tb σ H1 λy H2=>r x y H2 Q
def tUn(r:V->Hp->VK->Prop)(ta:TE):TE:=λσ H Q=>ta σ H λx H1=>r x H1 Q
def rI(C:Int->Int->Prop)(g:Int->Int->V):R2:=λx y H Q=>onInt x λi=>onInt y λj=>C i j/\Q (g i j) H
def rI0(g:Int->Int->V):R2:=λx y H Q=>onInt x λi=>onInt y λj=>Q (g i j) H
def rU(g:Int->V):V->Hp->VK->Prop:=λx H Q=>onInt x λi=>Q (g i) H
section
variable{X:Cx}{a b c:rh}{ta tb tc:TE}{pos:rP}
theorem zeA(ha:PE X a ta)(hb:PE X b tb){Ac:List (pX × rF)}{s:pZ}{σ:St}{H:Hp}{R:V->V->Hp->Prop}(I:Inv X Ac σ H s)
  (h:ta σ H λx H1=>tb σ H1 λy H2=>R x y H2) {Q:pY->pZ->Prop} {f:pY->pY->tO pY}
  (hf:∀v u s2 x y H2,Inv X Ac σ H2 s2->RelV x v->RelV y u->R x y H2->rd (model X.prog X.w) X.A (f v u) Q X.xe s2) :
  rd (model X.prog X.w) X.A (eval a X.env) (λv s₁=>rd (model X.prog X.w) X.A (eval b X.env) (λu s₂=>rd (model X.prog X.w) X.A (f v u) Q X.xe s₂) X.xe s₁) X.xe s:=by
 refine thn (ha Ac s σ H _ I h) λv s1 ⟨x,H1,I1,r1,q1⟩=>?_;refine thn (hb Ac s1 σ H1 _ I1 q1) λu s2 ⟨y,H2,I2,r2,q2⟩=>?_;exact hf v u s2 x y H2 I2 r1 r2 q2
theorem zF{op:Operator}{r:R2}(ho:OpR X (binaryOp op) r)(ha:PE X a ta)(hb:PE X b tb):PE X (.BinOp a op b pos) (tOp r ta tb):=by
 intro Ac s σ H Q I h;exact wpAny_BinOp (zeA ha hb I h λv u s2 x y H2 I2 rx ry q=>ho Ac s2 σ H2 x y v u Q I2 rx ry q)
theorem zeq{op:UnaryOp}{r:V->Hp->VK->Prop}(ho:UnR X (unaryOp op) r)(ha:PE X a ta):PE X (.UnaryOp op a pos) (tUn r ta):=by
 intro Ac s σ H Q I h;exact UnaryOp_ (thn (ha Ac s σ H _ I h) λv s1 ⟨x,H1,I1,r1,q1⟩=>ho Ac s1 σ H1 x v Q I1 r1 q1)
theorem opI{f:pY->pY->tO pY}{C:Int->Int->Prop}{g:Int->Int->Int}
  (rule:∀(i j:Int) (t u:tu) (s:pZ) (Q:pY->pZ->Prop) (E:pY->pZ->Prop),C i j->Q (.int (g i j) s.toks) { s with toks:=s.toks+1 }->rd (model X.prog X.w) X.A (f (.int i t) (.int j u)) Q E s) :
  OpR X f (rI C λi j=>.int (g i j)):=by
 intro Ac s σ H x y v u Q I rx ry h;obtain⟨i,rfl,h2⟩:=onInt.of h;obtain⟨j,rfl,hc,q⟩:=onInt.of h2;obtain⟨t,rfl⟩:=rx;obtain⟨t',rfl⟩:=ry;exact rule i j t t' s _ _ hc #[.int (g i j),H,I.tok _,#[_,rfl],q]
theorem ze3{f:pY->pY->tO pY}{g:Int->Int->Int}
  (rule:∀(i j:Int) (t u:tu) (s:pZ) (Q:pY->pZ->Prop) (E:pY->pZ->Prop),Q (.int (g i j) s.toks) { s with toks:=s.toks+1 }->rd (model X.prog X.w) X.A (f (.int i t) (.int j u)) Q E s) :
  OpR X f (rI0 λi j=>.int (g i j)):=by
 intro Ac s σ H x y v u Q I rx ry h;obtain⟨i,rfl,h2⟩:=onInt.of h;obtain⟨j,rfl,q⟩:=onInt.of h2;obtain⟨t,rfl⟩:=rx;obtain⟨t',rfl⟩:=ry;exact rule i j t t' s _ _ #[.int (g i j),H,I.tok _,#[_,rfl],q]
theorem zdK{f:pY->pY->tO pY}{g:Int->Int->Bool}
  (rule:∀(i j:Int) (t u:tu) (s:pZ) (Q:pY->pZ->Prop) (E:pY->pZ->Prop),Q (.bool (g i j)) s->rd (model X.prog X.w) X.A (f (.int i t) (.int j u)) Q E s) :
  OpR X f (rI0 λi j=>.bl (g i j)):=by
 intro Ac s σ H x y v u Q I rx ry h;obtain⟨i,rfl,h2⟩:=onInt.of h;obtain⟨j,rfl,q⟩:=onInt.of h2;obtain⟨t,rfl⟩:=rx;obtain⟨t',rfl⟩:=ry;exact rule i j t t' s _ _ #[.bl (g i j),H,I,rfl,q]
def zfv(i j:Int):Prop:=0<j/\j<1073741824
def zex(i j:Int):Prop:=0<=j/\j<=1000000/\i.natAbs<2 ^ 64
def CMul(i j:Int):Prop:=(-(2 ^ 64)<i/\i<2 ^ 64)\/(-(2 ^ 64)<j/\j<2 ^ 64)
theorem CMul.ok{i j:Int}(h:CMul i j):IntMulOk i j:=by
 rcases h with ⟨h1,h2⟩ | ⟨h1,h2⟩
 ·exact .of_left (intBits_le_64 h1 h2)
 ·exact .of_right (intBits_le_64 h1 h2)
theorem yj:OpR X (binaryOp .Add) (rI0 λi j=>.int (i+j)):=ze3 λ_ _ _ _ _ _ _ q=>add_int q
theorem j0:OpR X (binaryOp .Sub) (rI0 λi j=>.int (i - j)):=ze3 λ_ _ _ _ _ _ _ q=>sub_int q
theorem qN:OpR X (binaryOp .Mult) (rI CMul λi j=>.int (i * j)):=opI λ_ _ _ _ _ _ _ hc q=>mul_int q hc.ok
theorem xA:OpR X (binaryOp .FloorDiv) (rI zfv λi j=>.int (i / j)):=opI λi j _ _ _ _ _ hc q=>by
 have h1:(0:Int)<j:=hc.1;have h2:j<1073741824:=hc.2;exact floordiv_int ⋯ (by rw[Int.fdiv_eq_ediv_of_nonneg i ⋯];exact q) (.inl (PyProof.noPylong_small ⋯))
theorem yV:OpR X (binaryOp .Mod) (rI (λ_ j=>0<j) λi j=>.int (i % j)):=opI λi j _ _ _ _ _ hc q=>by
 have h1:(0:Int)<j:=hc;exact mod_int' ⋯ (by rw[Int.fmod_eq_emod_of_nonneg i ⋯];exact q)
theorem VZ:OpR X (binaryOp .Pow) (rI zex λi j=>.int (i ^ j.toNat)):=opI λ_ _ _ _ _ _ _ hc q=>pow_int_small hc.1 hc.2.1 hc.2.2 q
theorem unI{f:pY->tO pY}{g:Int->Int}
  (rule:∀(i:Int) (t:tu) (s:pZ) (Q:pY->pZ->Prop) (E:pY->pZ->Prop),Q (.int (g i) s.toks) { s with toks:=s.toks+1 }->rd (model X.prog X.w) X.A (f (.int i t)) Q E s) :
  UnR X f (rU λi=>.int (g i)):=by
 intro Ac s σ H x v Q I rx h;obtain⟨i,rfl,q⟩:=onInt.of h;obtain⟨t,rfl⟩:=rx;exact rule i t s _ _ #[.int (g i),H,I.tok _,#[_,rfl],q]
theorem zcs:UnR X (unaryOp .USub) (rU λi=>.int (-i)):=unI λ_ _ _ _ _ q=>neg_int q
end
noncomputable def Vs:V->V->Bool
 | .non,.non=>Aa | .non,.int _=>Aa | .int _,.non=>Aa | .non,.bl _=>Aa | .bl _,.non=>Aa | .non,.str _=>Aa | .str _,.non=>Aa
 | .int _,.int _=>Aa | .bl _,.bl _=>Aa | .str _,.str _=>Aa | .byt _,.byt _=>Aa
 | .int _,.str _=>Aa | .str _,.int _=>Aa | .bl _,.str _=>Aa | .str _,.bl _=>Aa
 | _,_=>Ab
def rEq:R2:=λx y H Q=>match x,y with | .int a,.int b=>Q (.bl (decide (a=b))) H | .str a,.str b=>Q (.bl (decide (a=b))) H | x,y=>Vs x y=Aa/\Q (.bl (decide (x=y))) H
theorem rEq_is{x y:V}{H:Hp}{Q:VK}:rEq x y H Q=(Vs x y=Aa/\Q (.bl (decide (x=y))) H):=by
 unfold rEq;split <;> simp [Vs]
def rNe:R2:=λx y H Q=>match x,y with | .int a,.int b=>Q (.bl (!decide (a=b))) H | .str a,.str b=>Q (.bl (!decide (a=b))) H | x,y=>Vs x y=Aa/\Q (.bl (!decide (x=y))) H
theorem rNe_is{x y:V}{H:Hp}{Q:VK}:rNe x y H Q=(Vs x y=Aa/\Q (.bl (!decide (x=y))) H):=by
 unfold rNe;split <;> simp [Vs]
theorem Uq{i j:Int}:decide (V.int i=V.int j)=(i == j):=by
 rw[cU];simp
theorem K5{i j:Bool}:decide (V.bl i=V.bl j)=(i == j):=by
 rw[cU];simp
theorem Ug{i j:re}:decide (V.str i=V.str j)=(i == j):=by
 rw[cU];simp
theorem Qn{i j:Array UInt8}:decide (V.byt i=V.byt j)=(i.toList == j.toList):=by
 rw[cU];cases i;cases j;simp
section
variable{X:Cx}{a b c:rh}{ta tb tc:TE}{pos:rP}
theorem zO{Ac:List (pX × rF)}{σ:St}{H:Hp}{s:pZ}{Q:VK}{k k':Bool}(I:Inv X Ac σ H s)(q:Q (.bl k) H)(e:k=k'):EP X Ac σ Q (.bool k') s:=by
 subst e;exact#[.bl k,H,I,rfl,q]
theorem y4:OpR X (rp .Eq) rEq:=by
 intro Ac s σ H x y v u Q I rx ry h;obtain⟨hs,q⟩:=rEq_is.mp h
 cases x with
 | non =>
  cases rx
  cases y with
  | non=>cases ry;exact PySem.EqNone.eq_none_none (zO I q (by simp))
  | bl j=>cases ry;exact PySem.EqNone.eq_none_bool (zO I q (by simp))
  | int j=>obtain⟨t',rfl⟩:=ry;exact PySem.EqNone.eq_none_int (zO I q (by simp))
  | str j=>obtain⟨t',rfl⟩:=ry;exact PySem.EqNone.eq_none_str (zO I q (by simp))
  | _=>exact absurd (show Ab=Aa from hs) az
 | bl i =>
  cases rx
  cases y with
  | non=>cases ry;exact PySem.EqNone.eq_bool_none (zO I q (by simp))
  | bl j=>cases ry;exact eq_bool (zO I q K5)
  | str j=>obtain⟨t',rfl⟩:=ry;exact PySem.EqMixed.eq_bool_str (zO I q (by simp))
  | _=>exact absurd (show Ab=Aa from hs) az
 | int i =>
  obtain⟨t,rfl⟩:=rx
  cases y with
  | non=>cases ry;exact PySem.EqNone.eq_int_none (zO I q (by simp))
  | int j=>obtain⟨t',rfl⟩:=ry;exact eq_int (zO I q Uq)
  | str j=>obtain⟨t',rfl⟩:=ry;exact PySem.EqMixed.eq_int_str (zO I q (by simp))
  | _=>exact absurd (show Ab=Aa from hs) az
 | str i =>
  obtain⟨t,rfl⟩:=rx
  cases y with
  | non=>cases ry;exact PySem.EqNone.eq_str_none (zO I q (by simp))
  | bl j=>cases ry;exact PySem.EqMixed.eq_str_bool (zO I q (by simp))
  | int j=>obtain⟨t',rfl⟩:=ry;exact PySem.EqMixed.eq_str_int (zO I q (by simp))
  | str j=>obtain⟨t',rfl⟩:=ry;exact eq_str (zO I q Ug)
  | _=>exact absurd (show Ab=Aa from hs) az
 | byt i =>
  obtain⟨t,rfl⟩:=rx
  cases y with
  | byt j=>obtain⟨t',rfl⟩:=ry;exact PySem.W.eq_bytes (zO I q Qn)
  | _=>exact absurd (show Ab=Aa from hs) az
 | _=>cases y <;> exact absurd (show Ab=Aa from hs) az
theorem Ze:OpR X (rp .NotEq) rNe:=by
 intro Ac s σ H x y v u Q I rx ry h;obtain⟨hs,q⟩:=rNe_is.mp h
 cases x with
 | non =>
  cases rx
  cases y with
  | non=>cases ry;exact PySem.EqNone.ne_none_none (zO I q (by simp))
  | bl j=>cases ry;exact PySem.EqNone.ne_none_bool (zO I q (by simp))
  | int j=>obtain⟨t',rfl⟩:=ry;exact PySem.EqNone.ne_none_int (zO I q (by simp))
  | str j=>obtain⟨t',rfl⟩:=ry;exact PySem.EqNone.ne_none_str (zO I q (by simp))
  | _=>exact absurd (show Ab=Aa from hs) az
 | bl i =>
  cases rx
  cases y with
  | non=>cases ry;exact PySem.EqNone.ne_bool_none (zO I q (by simp))
  | bl j=>cases ry;exact ne_bool (zO I q (congrArg not K5))
  | str j=>obtain⟨t',rfl⟩:=ry;exact PySem.EqMixed.ne_bool_str (zO I q (by simp))
  | _=>exact absurd (show Ab=Aa from hs) az
 | int i =>
  obtain⟨t,rfl⟩:=rx
  cases y with
  | non=>cases ry;exact PySem.EqNone.ne_int_none (zO I q (by simp))
  | int j=>obtain⟨t',rfl⟩:=ry;exact ne_int (zO I q (congrArg not Uq))
  | str j=>obtain⟨t',rfl⟩:=ry;exact PySem.EqMixed.ne_int_str (zO I q (by simp))
  | _=>exact absurd (show Ab=Aa from hs) az
 | str i =>
  obtain⟨t,rfl⟩:=rx
  cases y with
  | non=>cases ry;exact PySem.EqNone.ne_str_none (zO I q (by simp))
  | bl j=>cases ry;exact PySem.EqMixed.ne_str_bool (zO I q (by simp))
  | int j=>obtain⟨t',rfl⟩:=ry;exact PySem.EqMixed.ne_str_int (zO I q (by simp))
  | str j=>obtain⟨t',rfl⟩:=ry;exact ne_str (zO I q (congrArg not Ug))
  | _=>exact absurd (show Ab=Aa from hs) az
 | byt i =>
  obtain⟨t,rfl⟩:=rx
  cases y with
  | byt j=>obtain⟨t',rfl⟩:=ry;exact PySem.W.ne_bytes (zO I q (congrArg not Qn))
  | _=>exact absurd (show Ab=Aa from hs) az
 | _=>cases y <;> exact absurd (show Ab=Aa from hs) az
theorem WS:OpR X (rp .Lt) (rI0 λi j=>.bl (decide (i<j))):=zdK λ_ _ _ _ _ _ _ q=>lt_int q
theorem zd2:OpR X (rp .LtE) (rI0 λi j=>.bl (decide (i<=j))):=zdK λ_ _ _ _ _ _ _ q=>le_int q
theorem U0:OpR X (rp .Gt) (rI0 λi j=>.bl (decide (j<i))):=zdK λ_ _ _ _ _ _ _ q=>gt_int q
theorem zef:OpR X (rp .GtE) (rI0 λi j=>.bl (decide (j<=i))):=zdK λ_ _ _ _ _ _ _ q=>ge_int q
theorem Vy:OpR X (rp .Lt) (λx y H Q=>∃i j,x=.str i/\y=.str j/\Q (.bl (decide (i.cps.toList<j.cps.toList))) H):=by
 intro Ac s σ H x y v u Q I rx ry h;obtain⟨i,j,rfl,rfl,q⟩:=h;obtain⟨t,rfl⟩:=rx;obtain⟨t',rfl⟩:=ry;exact lt_str (zO I q rfl)
theorem zcf:OpR X (rp .Is) (λx y H Q=>y=.non/\Q (.bl (decide (x=.non))) H):=by
 intro Ac s σ H x y v u Q I rx ry h;obtain⟨rfl,q⟩:=h;cases ry;refine is_none_gen (zO I q ?_)
 cases x <;> first
  | (cases rx;rfl)
  | (obtain⟨t,rfl⟩:=rx;rfl)
theorem zaE:OpR X (rp .IsNot) (λx y H Q=>y=.non/\Q (.bl (!decide (x=.non))) H):=by
 intro Ac s σ H x y v u Q I rx ry h;obtain⟨rfl,q⟩:=h;cases ry;refine isnot_none_gen (zO I q ?_)
 cases x <;> first
  | (cases rx;rfl)
  | (obtain⟨t,rfl⟩:=rx;rfl)
theorem zB(b:rh){op:sr}(h:op≠.In:=by decide)(h2:op≠.NotIn:=by decide):behindInMarks op b=Ab:=by
 have e1:(op == CmpOp.In)=Ab:=by cases op <;> first | rfl | exact absurd rfl h
 have e2:(op == CmpOp.NotIn)=Ab:=by cases op <;> first | rfl | exact absurd rfl h2
 cases b <;> simp [behindInMarks,e1,e2]
theorem yE{op:sr}{r:R2}(ho:OpR X (rp op) r)(ha:PE X a ta)(hb:PE X b tb)(hm:behindInMarks op b=Ab):PE X (.Compare a [op] [b] pos) (tOp r ta tb):=by
 intro Ac s σ H Q I h;exact wpAny_Compare1 (zeA ha hb I h λv u s2 x y H2 I2 rx ry q=>ho Ac s2 σ H2 x y v u Q I2 rx ry q) hm
def QC(t:TE):TT:=λσ H Q=>t σ H λx H'=>onBl x λk=>Q k H'
theorem zx{op:sr}{r:R2}(ho:OpR X (rp op) r)(ha:PE X a ta)(hb:PE X b tb)(hm:behindInMarks op b=Ab):PT X (.Compare a [op] [b] pos) (QC (tOp r ta tb)):=by
 intro Ac s σ H Q I h
 refine wpAny_isTrue_Compare1 (thn (ha Ac s σ H _ I h) λv s1 ⟨x,H1,I1,r1,q1⟩=>thn (hb Ac s1 σ H1 _ I1 q1) λu s2 ⟨y,H2,I2,r2,q2⟩ =>
  thn (ho Ac s2 σ H2 x y v u _ I2 r1 r2 q2) λc s3 ⟨z,H3,I3,r3,q3⟩=>?_) hm
 obtain⟨k,rfl,q3⟩:=onBl.of q3;cases r3;exact rB #[H3,I3,q3]
def jM(r r':R2)(ta tb tc:TE):TE:=λσ H Q=>ta σ H λx H1=>tb σ H1 λy H2=>r x y H2 λz H3=>onBl z λk =>
 (if k=Aa then tc σ H3 λw' H4=>r' y w' H4 Q else Q (.bl Ab) H3)
theorem Wh{op op':sr}{r r':R2}(ho:OpR X (rp op) r)(ho':OpR X (rp op') r')(ha:PE X a ta)(hb:PE X b tb)(hc:PE X c tc)
  (hm:lastMarks [op,op'] [b,c]=Ab:=by with_unfolding_all rfl):PE X (.Compare a [op,op'] [b,c] pos) (jM r r' ta tb tc):=by
 intro Ac s σ H Q I h
 refine Compare_chain (thn (ha Ac s σ H _ I h) λv s1 ⟨x,H1,I1,r1,q1⟩=>chain_link (thn (hb Ac s1 σ H1 _ I1 q1) λu s2 ⟨y,H2,I2,r2,q2⟩ =>
  thn (ho Ac s2 σ H2 x y v u _ I2 r1 r2 q2) λd s3 ⟨z,H3,I3,r3,q3⟩=>?_)) hm
 obtain⟨k,rfl,q3⟩:=onBl.of q3;cases r3;refine rB ?_
 cases k with
 | false=>exact ite_ff #[.bl Ab,H3,I3,rfl,q3]
 | true=>exact ite_tt (chain_last (thn (hc Ac s3 σ H3 _ I3 q3) λw' s4 ⟨z',H4,I4,r4,q4⟩=>ho' Ac s4 σ H4 y z' u w' Q I4 r2 r4 q4))
theorem uU{op op':sr}{r r':R2}(ho:OpR X (rp op) r)(ho':OpR X (rp op') r')(ha:PE X a ta)(hb:PE X b tb)(hc:PE X c tc)
  (hm:lastMarks [op,op'] [b,c]=Ab:=by with_unfolding_all rfl):PT X (.Compare a [op,op'] [b,c] pos) (QC (jM r r' ta tb tc)):=by
 intro Ac s σ H Q I h
 refine isTrue_chain (thn (ha Ac s σ H _ I h) λv s1 ⟨x,H1,I1,r1,q1⟩=>test_link (thn (hb Ac s1 σ H1 _ I1 q1) λu s2 ⟨y,H2,I2,r2,q2⟩ =>
  thn (ho Ac s2 σ H2 x y v u _ I2 r1 r2 q2) λd s3 ⟨z,H3,I3,r3,q3⟩=>?_)) hm
 obtain⟨k,rfl,q3⟩:=onBl.of q3;cases r3;refine rB ?_
 cases k with
 | false =>
  exact ite_ff #[H3,I3,q3]
 | true =>
  refine ite_tt (test_last (thn (hc Ac s3 σ H3 _ I3 q3) λw' s4 ⟨z',H4,I4,r4,q4⟩=>thn (ho' Ac s4 σ H4 y z' u w' _ I4 r2 r4 q4) λd' s5 ⟨z2,H5,I5,r5,q5⟩=>?_));obtain⟨k2,rfl,q5⟩:=onBl.of q5;cases r5;exact rB #[H5,I5,q5]
def zc3(K:pW)(x:V)(H:Hp)(k:Bool):Prop :=
 match x with
 | .non=>k=Ab
 | .bl b=>k=b
 | .int i=>k=(i != 0)
 | .str y=>y.length<=pV/\k=((y.length:Int) != 0)
 | .byt y=>y.size<=pV/\k=((y.size:Int) != 0)
 | .ref p=>(∃xs,SqL K H p xs/\k=!xs.isEmpty)\/(∃xs,SqT K H p xs/\k=!xs.isEmpty)\/∃kvs,H p=tY (.dK kvs)/\k=!kvs.isEmpty
 | _=>False
theorem WR{κ:Type}{kvs:List (κ × V)}{vs:List (κ × pY)}(r:KV kvs vs):(!vs.isEmpty)=!kvs.isEmpty:=by
 cases r <;> rfl
theorem jO{xs:List V}{its:List pY}(r:Vals xs its):(!its.toArray.isEmpty)=!xs.isEmpty:=by
 cases r <;> simp
theorem ZV:(pV:Nat)<2 ^ 63:=by rw[rE];decide
theorem K1:zft X (λx H Q=>∃k,zc3 X.K x H k/\Q k H):=by
 intro Ac s σ H x v Q I rx h;obtain⟨k,e,q⟩:=h;have hl:=ZV;have hs:pV=16777216:=rE
 cases x with
 | non =>
  cases rx;have e':k=Ab:=e;subst e';exact truthy_none #[H,I,q]
 | bl b =>
  cases rx;have e':k=b:=e;subst e';exact rB #[H,I,q]
 | int i =>
  obtain⟨t,rfl⟩:=rx;have e':k=(i != 0):=e;subst e';exact PySem.P.truthy_int #[H,I,q]
 | str y =>
  obtain⟨t,rfl⟩:=rx;obtain⟨hy,e'⟩:y.length<=pV/\k=((y.length:Int) != 0):=e;subst e';exact PySem.P.truthy_str ⋯ #[H,I.tok _,q]
 | byt y =>
  obtain⟨t,rfl⟩:=rx;obtain⟨hy,e'⟩:y.size<=pV/\k=((y.size:Int) != 0):=e;subst e';exact PySem.W.truthy_bytes ⋯ #[H,I.tok _,q]
 | ref p =>
  cases rx;have e':(∃xs,SqL X.K H p xs/\k=!xs.isEmpty)\/(∃xs,SqT X.K H p xs/\k=!xs.isEmpty)\/∃kvs,H p=tY (.dK kvs)/\k=!kvs.isEmpty:=e;rcases e' with ⟨xs,hx,e'⟩ | ⟨xs,hx,e'⟩ | ⟨kvs,hx,e'⟩
  ·subst e';obtain⟨its,r,pl,hz⟩:=I.list hx;have hlen:=r.length;exact wpAny_truthy_list pl.isList (by erw[aj];lia) #[H,I.tok _,by rw[jO r];exact q]
  ·subst e';obtain⟨its,r,pl,hz⟩:=I.tuple hx;have hlen:=r.length;exact truthy_tuple pl (by erw[aj];lia) #[H,I.tok _,by rw[jO r];exact q]
  ·subst e';obtain⟨hz,hS,vs,r,m⟩:kvs.length<=pV/\(p == sysModules)=Ab/\∃vs,KV kvs vs/\s.heap.DictOf (Xq X.prog X.w) p vs:=I.hok p _ hx;have hlen:kvs.length=vs.length:=Paired.length r;exact wpAny_truthy_dict hS m ⋯ #[H,I.tok _,by rw[WR r];exact q]
 | _=>exact (show False from e).elim
theorem XG(ha:PE X a ta)(he:∀whole,isTrue a X.env whole=(do let v <- whole;standAt a.pos;holding [v] (truthy v))) :
  PT X a (λσ H Q=>ta σ H λx H'=>∃k,zc3 X.K x H' k/\Q k H'):=by
 intro Ac s σ H Q I h;exact isTrue_plain (thn (ha Ac s σ H _ I h) λv s1 ⟨x,H1,I1,r1,q1⟩=>K1 Ac s1 σ H1 x v Q I1 r1 q1) (he _)
theorem yl:OpR X (binaryOp .Add) (λx y H Q=>∃i j,x=.str i/\y=.str j/\i.length+j.length<=pV/\Q (.str (i ++ j)) H):=by
 intro Ac s σ H x y v u Q I rx ry h;obtain⟨i,j,rfl,rfl,hz,q⟩:=h;obtain⟨t,rfl⟩:=rx;obtain⟨t',rfl⟩:=ry;exact add_str (λt' tk=>#[.str (i ++ j),H,I.tok _,#[_,rfl],q]) hz
theorem wg{x:V}{us:List pY}(r:Vals [x] us):∃u,us=[u]/\RelV x u:=by
 cases r with
 | cons r1 r2=>cases r2;exact#[_,rfl,r1]
theorem Vv{x y:V}{us:List pY}(r:Vals [x,y] us):∃u w',us=[u,w']/\RelV x u/\RelV y w':=by
 cases r with
 | cons r1 r2 =>
  cases r2 with
  | cons r3 r4=>cases r4;exact#[_,_,rfl,r1,r3]
theorem Uo(hc:X.calm=Aa):vj X (.builtin "max") (λxs H Q=>∃i j,xs=[.int i,.int j]/\Q (.int (if j > i then j else i)) H):=by
 intro Ac s σ H xs us Q I r h;obtain⟨i,j,rfl,q⟩:=h;obtain⟨u,w',rfl,⟨t,rfl⟩,⟨t',rfl⟩⟩:=Vv r;refine max_two_ints (I.ok.hd hc) λh' tk k=>#[_,H,I.kept k,?_,q];by_cases hj:j > i
 ·rw[if_pos hj,if_pos hj];exact#[_,rfl]
 ·rw[if_neg hj,if_neg hj];exact#[_,rfl]
theorem Uh(hc:X.calm=Aa):vj X (.builtin "min") (λxs H Q=>∃i j,xs=[.int i,.int j]/\Q (.int (if j<i then j else i)) H):=by
 intro Ac s σ H xs us Q I r h;obtain⟨i,j,rfl,q⟩:=h;obtain⟨u,w',rfl,⟨t,rfl⟩,⟨t',rfl⟩⟩:=Vv r;refine min_two_ints (I.ok.hd hc) λh' tk k=>#[_,H,I.kept k,?_,q];by_cases hj:j<i
 ·rw[if_pos hj,if_pos hj];exact#[_,rfl]
 ·rw[if_neg hj,if_neg hj];exact#[_,rfl]
theorem Qz:vj X (.type "int") (λxs H Q=>(∃i,xs=[.int i]/\Q (.int i) H)\/∃k,xs=[.bl k]/\Q (.int (if k then 1 else 0)) H):=by
 intro Ac s σ H xs us Q I r h;rcases h with ⟨i,rfl,q⟩ | ⟨k,rfl,q⟩
 ·obtain⟨u,rfl,t,rfl⟩:=wg r;exact call_int_int #[.int i,H,I,#[_,rfl],q]
 ·obtain⟨u,rfl,r1⟩:=wg r;cases r1;exact call_int_bool #[.int (if k then 1 else 0),H,I.tok _,#[_,rfl],q]
def zcc(K:pW)(x:V)(H:Hp)(n:Nat):Prop :=
 match x with
 | .str y=>y.length<=pV/\n=y.length
 | .byt y=>y.size<=pV/\n=y.size
 | .ref p=>(∃xs,SqL K H p xs/\n=xs.length)\/∃xs,SqT K H p xs/\n=xs.length
 | _=>False
theorem Ki:vj X (.builtin "len") (λxs H Q=>∃x n,xs=[x]/\zcc X.K x H n/\Q (.int n) H):=by
 intro Ac s σ H xs us Q I r h;obtain⟨x,n,rfl,e,q⟩:=h;obtain⟨u,rfl,rx⟩:=wg r;have hl:=ZV;have hs:pV=16777216:=rE
 cases x with
 | str y =>
  obtain⟨t,rfl⟩:=rx;obtain⟨hy,e'⟩:y.length<=pV/\n=y.length:=e;subst e';exact len_str ⋯ #[.int _,H,I.tok _,#[_,rfl],q]
 | byt y =>
  obtain⟨t,rfl⟩:=rx;obtain⟨hy,e'⟩:y.size<=pV/\n=y.size:=e;subst e';exact PySem.W.len_bytes ⋯ #[.int _,H,I.tok _,#[_,rfl],q]
 | ref p =>
  cases rx;have e':(∃xs,SqL X.K H p xs/\n=xs.length)\/∃xs,SqT X.K H p xs/\n=xs.length:=e;rcases e' with ⟨xs,hx,e'⟩ | ⟨xs,hx,e'⟩
  ·subst e';obtain⟨its,r',pl,hz⟩:=I.list hx;have hlen:=r'.length;exact Calls.call_len_list pl.isList (by erw[aj];lia) #[.int xs.length,H,I.tok _,#[_,by erw[aj];rw[hlen]],q]
  ·subst e';obtain⟨its,r',pl,hz⟩:=I.tuple hx;have hlen:=r'.length;exact len_tuple pl (by erw[aj];lia) #[.int xs.length,H,I.tok _,#[_,by erw[aj];rw[hlen]],q]
 | _=>exact (show False from e).elim
end
structure ObjM(h:rj)(x dx C:pX)(mA:re->Option pY):Prop where
 obj:h.get? x=tY (bU C dx)
 ns:h.Ns1 dx mA
 ne:dx≠x
theorem U2{h:rj}{dx:pX}{mA:re->Option pY}(n:h.Ns1 dx mA):∃od,h.get? dx=tY od/\∀name,dQ name od=tY (mA name):=by
 obtain⟨o,es,ep,ho,hd,hk,_,hm⟩:=n;refine#[o,ho,λname=>?_];have e:=hm name;unfold nsFind findBy at e;rw[<- Array.find?_toList]at e;unfold dQ;rw[hd];dsimp only;split
 ·rename_i y q;rw[q]at e;exact congrArg tY e
 ·rename_i q;rw[q]at e
  have a:es.toList.any (·.refKey)=Ab:=by
   rw[List.any_eq_false];intro y hy;obtain⟨z,t,hkey⟩:=hk y (Array.mem_toList_iff.mp hy);simp [DictEntry.refKey,hkey]
  have a':¬ es.toList.any (·.refKey)=Aa:=by rw[a];exact az
  rw[if_neg a'];exact congrArg tY e
theorem ObjM.look{h:rj}{x dx C:pX}{mA:re->Option pY}(I:ObjM h x dx C mA):∃od,PySem.W.InstAt h x (bU C dx) C (tY od)/\∀name,dQ name od=tY (mA name) :=
 let #[od,ho,hl]:=U2 I.ns
 #[od,#[I.obj,rfl,rfl,ho],hl]
section
variable{prog:rb}{w:rf}{A:rg}{E:pY->pZ->Prop}{s:pZ}{K:pW}{x dx C f:pX}{mA:re->Option pY}{name:re}{v:pY}
theorem zbs{expr:Bool}{Q:pY->pZ->Prop}(X:K.In s.heap)(I:ObjM s.heap x dx C mA)(hg:bM K C name=Aa)(hh:bY K C=Aa)
  (ha:ag K (.ref C) name=tY tZ) (hv:mA name=tY v) (hv':fO v=Aa) (h:Q v { s with toks:=s.toks+1 }) :
  rd (model prog w) A (getAttr (.ref x) name expr) Q E s:=by
 obtain⟨od,J,hl⟩:=I.look;exact PySem.W.get_value X J (dM hg).1 (PySem.W.findObj_own hh ha rfl (by rw[hl,hv])) hv' h
theorem JH{pl:tO Bool}{Q:pY × List pY->pZ->Prop}(X:K.In s.heap)(I:ObjM s.heap x dx C mA)(hg:bM K C name=Aa)
  (hf:ag K (.ref C) name=tY (tY (.ref f))) (ht:aV K (.ref f)=Aa) (hv:mA name=tZ) (h:Q (.ref f,[.ref x]) s) :
  rd (model prog w) A (getMethod (.ref x) name pl) Q E s:=by
 obtain⟨od,J,hl⟩:=I.look;exact PySem.W.method_fn X J (dM hg).1 (dM hg).2 hf (beq_iff_eq.mp ht) (by show (dQ name od).map (·.isSome)=tY Ab;rw[hl,hv];rfl) h
theorem zaF{ns:List re}{Q:Unit->pZ->Prop}(X:K.In s.heap)(I:ObjM s.heap x dx C mA)
  (hs:ag K (.ref C) "__setattr__" = tY (tY (.builtin "object.__setattr__"))) (hp:cy K C=Aa) (ht:eS K C name=tY tZ) (hh:bY K C=Aa)
  (hw:PySem.Within mA ns) (hsz:ns.length<=pV)
  (h:∀h',ObjM h' x dx C (λy=>if y=name then tY v else mA y)->Heap.SameBut dx s.heap h'->Q Unit.unit { s with heap:=h',toks:=s.toks+2 }) :
  rd (model prog w) A (setAttr (.ref x) name v) Q E s:=by
 obtain⟨od,J,hl⟩:=I.look;refine fM X J hs (PySem.W.osa_open (s:={ s with toks:=s.toks+1 }) (r:=tZ) X J hp ht λb=>?_);obtain⟨cd,hc,hd'⟩:=PySem.W.any_some hh;have hx:s.heap.get? x=tY #[.ref C,tY dx,.plain,#[]]:=I.obj;refine pQ (pR (pQ (pQ (sU hx (pQ (PySem.W.Looks.here (s:={ s with toks:=s.toks+1 }) (PySem.W.looks_clsIn X hc) ?_))))));rw[hd'];refine pR (a:=tY dx) (pQ (pR (pQ ?_)));refine wpAny_nsSet1 (s:={ s with toks:=s.toks+1 }) I.ns λh' hn2 hs2=>?_;obtain⟨oD,esD,epD,hoD,hdD,hcD⟩:=hn2.count (PySem.Within.cons name v hw);refine pQ (tL hoD (by rw[hdD];exact pastItsLine_dict (aK hcD (by rw[aB];lia))) ?_);exact pR (h _ #[(hs2.2 _ (Ne.symm I.ne)).trans I.obj,hn2,I.ne] hs2)
theorem Jv{R:sY->pZ->Prop}{vs:List pY}{kw:List (re × pY)}(X:K.In s.heap)(hm:cI K C=Aa)
  (hi:ag K (.ref C) "__init__" = tY (tY (.ref f))) (hf:PySem.W.typeIn K (.ref f)=tY (.type "function"))
  (h:rY (model prog w) (A.under (.builtin "type.__call__" #[.ref C::vs,kw])) (.call (.ref f) #[.ref (s⁻¹+1)::vs,kw]) (PySem.W.InitBack (s⁻¹+1) R)
   { s with heap:=(s.heap.push bF).push (bU C s⁻¹) }) :
  rY (model prog w) A (.call (.ref C) #[vs,kw]) R s:=by
 obtain⟨hh,g,d,t,os⟩:=s;exact PySem.W.make_core (PySem.W.makes_of X hm) (cA X hi) (λself=>fP X self hf) (.inl rfl) h
end
noncomputable def Zx(f:re)(v:V):List (re × V)->List (re × V)
  | []=>[(f,v)]
  | (g,x)::r=>if g=f then (g,v)::r else (g,x)::Zx f v r
theorem qG(f g:re)(v:V):∀fs:List (re × V),(Zx f v fs).lookup g=if g=f then tY v else fs.lookup g
  | []=>by
    show bo g [(f,v)]=_;by_cases h:g=f
    . have hb:(g == f)=Aa:=beq_iff_eq.mpr h
      erw[bo,hb,if_pos h]
    . have hb:(g == f)=Ab:=beq_eq_false_iff_ne.mpr h
      erw[bo,hb,if_neg h]
  | (k,x)::r=>by
    have ih:=qG f g v r;rw[show Zx f v ((k,x)::r)=(if k=f then (k,v)::r else (k,x)::Zx f v r)from rfl];by_cases hk:k=f
    . rw[if_pos hk]
      by_cases h:g=k
      . have hb:(g == k)=Aa:=beq_iff_eq.mpr h
        erw[bo,hb,if_pos (h.trans hk)]
      . have hb:(g == k)=Ab:=beq_eq_false_iff_ne.mpr h
        erw[bo,hb,if_neg (λe:g=f=>h (e.trans hk.symm))]
    . rw[if_neg hk]
      by_cases h:g=k
      . have hb:(g == k)=Aa:=beq_iff_eq.mpr h
        erw[bo,hb,if_neg (λe:g=f=>hk (h.symm.trans e))]
      . have hb:(g == k)=Ab:=beq_eq_false_iff_ne.mpr h
        erw[bo,hb]
        exact ih
theorem qr(f:re)(v:V):∀fs:List (re × V),f ∈ (Zx f v fs).map (·.1)/\∀g,g ∈ fs.map (·.1)->g ∈ (Zx f v fs).map (·.1)
  | []=>#[by simp [Zx],λg h=>by simp at h]
  | (k,x)::r=>by
    obtain⟨i1,i2⟩:=qr f v r;rw[show Zx f v ((k,x)::r)=(if k=f then (k,v)::r else (k,x)::Zx f v r)from rfl];by_cases hk:k=f
    . rw[if_pos hk]
      subst hk;exact#[by simp,λg h=>by simpa using h]
    . rw[if_neg hk]
      refine#[?_,λg h=>?_]
      . rw[ao]
        exact am _ i1
      . rw[ao]at h ⊢
        rcases Ah.mp h with e | e
        . exact Ah.mpr (.inl e)
        . exact am _ (i2 g e)
theorem qx(f:re)(v:V):∀fs:List (re × V),(Zx f v fs).length<=fs.length+1
  | []=>by simp [Zx]
  | (k,x)::r=>by
    have ih:=qx f v r;rw[show Zx f v ((k,x)::r)=(if k=f then (k,v)::r else (k,x)::Zx f v r)from rfl];by_cases hk:k=f
    . rw[if_pos hk,aB,aB];lia
    . rw[if_neg hk,aB,aB];lia
theorem RelO.some_of{v:V}{o:Option pY}(r:RelO (tY v) o):∃u,o=tY u/\RelV v u:=by
 cases o with
 | none=>exact (show False from r).elim
 | some u=>exact#[u,rfl,r]
theorem RelO.none_of{o:Option pY}(r:RelO tZ o):o=tZ:=by
 cases o with
 | none=>rfl
 | some u=>exact (show False from r).elim
theorem QX{v:V}{u:pY}(r:RelV v u):fO u=Aa:=by
 cases v with
 | non=>cases (show u=Value.none from r);rfl
 | bl b=>cases (show u=Value.bool b from r);rfl
 | int i=>obtain⟨t,e⟩:=(show ∃t,u=Value.int i t from r);cases e;rfl
 | str x=>obtain⟨t,e⟩:=(show ∃t,u=Value.str x t from r);cases e;rfl
 | byt b=>obtain⟨t,e⟩:=(show ∃t,u=Value.bytes b t from r);cases e;rfl
 | flt b=>obtain⟨t,e⟩:=(show ∃t,u=Value.float b t from r);cases e;rfl
 | ref a=>cases (show u=Value.ref a from r);rfl
 | ty n=>cases (show u=Value.type n from r);rfl
section
variable{P:rb}{w:rf}{H H':Hp}{h h':rj}{a C dx:pX}{fs fs':List (re × V)}
theorem Zq(hok:HOk P w H h)(e:H a=tY (.ins C dx fs)):∃mA,ObjM h a dx C mA/\(∀f,RelO (fs.lookup f) (mA f))/\PySem.Within mA (fs.map (·.1))/\fs.length<=1000/\H dx=tY (.own a):=by
 obtain⟨d,z,ne,ob,mA,n,r,q⟩:=(show ObjOk P w H h a (.ins C dx fs)from hok a _ e);exact#[mA,#[ob,n,ne],r,q,z,d]
end
structure Cls(K:pW)(C:pX):Prop where
 pg:bM K C eU=Aa
 hd:bY K C=Aa
 po:cy K C=Aa
 sa:ag K (.ref C) "__setattr__" = tY (tY (.builtin "object.__setattr__"))
theorem Cls.get{K:pW}{C:pX}(c:Cls K C)(f:re):bM K C f=Aa:=c.pg
def NoAttr(K:pW)(C:pX)(f:re):Prop:=ag K (.ref C) f=tY tZ
theorem NoAttr.taker{K:pW}{C:pX}{f:re}(n:NoAttr K C f):eS K C f=tY tZ:=by
 unfold eS;rw[show ag K (.ref C) f=tY tZ from n];rfl
structure zcm(K:pW)(C:pX)(m:re)(f:pX):Prop where
 at_:ag K (.ref C) m=tY (tY (.ref f))
 fn:aV K (.ref f)=Aa
 kp:aJ K (.ref f)=Aa
section
variable{X:Cx}{Ac:List (pX × rF)}{σ:St}{H:Hp}{s:pZ}{a C dx:pX}{fs:List (re × V)}{f:re}{v:V}{A:rg}{E:pY->pZ->Prop}
theorem Vj{b:Bool}{Q:pY->pZ->Prop}(I:Inv X Ac σ H s)(e:H a=tY (.ins C dx fs))(c:Cls X.K C)(n:NoAttr X.K C f)(l:fs.lookup f=tY v)
  (h:∀u s',Inv X Ac σ H s'->RelV v u->Q u s'):rd (model X.prog X.w) A (getAttr (.ref a) f b) Q E s:=by
 obtain⟨mA,O,r,_,_,_⟩:=Zq I.hok e;obtain⟨u,hu,ru⟩:=RelO.some_of (v:=v) (o:=mA f) (by rw[<- l];exact r f);exact zbs I.kIn O (c.get f) c.hd n hu (QX ru) (h u _ (I.tok _) ru)
theorem xJ{m:re}{g:pX}{pl:tO Bool}{Q:pY × List pY->pZ->Prop}(I:Inv X Ac σ H s)(e:H a=tY (.ins C dx fs))(c:Cls X.K C)(k:zcm X.K C m g)(l:fs.lookup m=tZ)
  (h:Q (.ref g,[.ref a]) s):rd (model X.prog X.w) A (getMethod (.ref a) m pl) Q E s:=by
 obtain⟨mA,O,r,_,_,_⟩:=Zq I.hok e;have hn:mA m=tZ:=RelO.none_of (by rw[<- l];exact r m);exact JH I.kIn O (c.get m) k.at_ k.fn hn h
theorem W3{y:V}{u:pY}{Q:Unit->pZ->Prop}(I:Inv X Ac σ H s)(e:H a=tY (.ins C dx fs))(c:Cls X.K C)(n:NoAttr X.K C f)(hl:fs.length<1000)(ry:RelV y u)
  (h:∀s',Inv X Ac σ (upd H a (.ins C dx (Zx f y fs))) s'->Q Unit.unit s'):rd (model X.prog X.w) A (setAttr (.ref a) f u) Q E s:=by
 obtain⟨mA,O,r,wi,_,ho⟩:=Zq I.hok e;have hz:(fs.map (·.1)).length<=pV:=by rw[ac,rE];lia
 refine zaF I.kIn O c.sa c.po n.taker c.hd wi hz λh' O' sb=>h _ ?_;have hd:∃o,h'.get? dx=tY o:=let #[o,_,_,e',_]:=O'.ns; #[o,e'];refine I.write (x:=a) (e:=dx) (by rw[e];exact True.intro) (.inr ho) (λb q hb z=>(sb.2 b hb).trans z) hd ?_;refine#[by rw[zp O.ne];exact ho,?_,O.ne,O'.obj,_,O'.ns,λg=>?_,λg hg=>?_]
 ·have:=qx f y fs;lia
 ·show RelO ((Zx f y fs).lookup g) (if g=f then tY u else mA g);rw[qG];by_cases q:g=f
  ·rw[if_pos q,if_pos q];exact ry
  ·rw[if_neg q,if_neg q];exact r g
 ·by_cases q:g=f
  ·rw[q];exact (qr f y fs).1
  ·refine (qr f y fs).2 g (wi g λz=>hg ?_);show (if g=f then tY u else mA g)=tZ;rw[if_neg q];exact z
theorem Inv.made(I:Inv X Ac σ H s):Inv X Ac σ (upd (upd H s⁻¹ (.own (s⁻¹+1))) (s⁻¹+1) (.ins C s⁻¹ []))
  { s with heap:=(s.heap.push bF).push (bU C s⁻¹) }:=by
 have e1:(s.heap.push bF).get? s⁻¹=tY bF:=aG s.heap rfl
 have e2:((s.heap.push bF).push (bU C s⁻¹)).get? (s⁻¹+1)=tY (bU C s⁻¹):=by
  have:=aG (s.heap.push bF) (o:=bU C s⁻¹) rfl
  rwa [dU]at this
 have e3:(s.heap.push bF).Ns s⁻¹ (λ_=>tZ):=#[bF,#[],_,e1,rfl,(λe he=>absurd he (by simp)),λ_=>rfl];have I1:=I.laid (a:=s⁻¹) (o:=.own (s⁻¹+1)) (h':=s.heap.push bF) (t':=s.toks) (λb u q=>ah _ q) (al _) #[_,e1];refine I1.laid (a:=s⁻¹+1) (o:=.ins C s⁻¹ []) (t':=s.toks) (λb u q=>ah _ q) (fB (dU _ _)) ?_;have ne:s⁻¹≠s⁻¹+1:=ay (Nat.lt_succ_self _);refine#[by rw[zp ne,zf],aD _,ne,e2,λ_=>tZ,(Heap.Ns1.of_empty e3).at λo q=>ah _ q,λ_=>True.intro,λy hy=>absurd rfl hy]
theorem zap{prog:rb}{w:rf}{env:sN}{e:rh}{f:re}{pos:rP}{s:pZ}{Q:pY->pZ->Prop}(hb:attributeBase e f env (eval e env)=eval e env)
  (h:rd (model prog w) A (eval e env) (λo s₁=>rd (model prog w) A (getAttr o f Aa) Q E s₁) E s):rd (model prog w) A (eval (.Attribute e f pos) env) Q E s :=
 Attribute_any_ h (by rw[arm_eval_Attribute,hb])
end
def zbX(K:pW)(ta:TE)(f:re):TE:=λσ H Q=>ta σ H λx H1=>∃a C dx fs v,x=.ref a/\H1 a=tY (.ins C dx fs)/\Cls K C/\NoAttr K C f/\fs.lookup f=tY v/\Q v H1
def zel(K:pW)(ta tv:TE)(f:re):TS:=λD σ H=>tv σ H λy H1=>ta σ H1 λx H2=>∃a C dx fs,x=.ref a/\H2 a=tY (.ins C dx fs)/\Cls K C/\NoAttr K C f/\fs.length<1000 /\
 D.nx σ (upd H2 a (.ins C dx (Zx f y fs)))
section
variable{X:Cx}{o e value:rh}{f:re}{pos pos' tpos:rP}{ta tv:TE}
theorem qf(he:PE X e ta)(hb:attributeBase e f X.env (eval e X.env)=eval e X.env):PE X (.Attribute e f pos) (zbX X.K ta f):=by
 intro Ac s σ H Q I h;refine zap hb (thn (he Ac s σ H _ I h) λu s1 ⟨x,H1,I1,rx,a,C,dx,fs,v,ex,ea,c,n,l,q⟩=>?_);subst ex;obtain rfl:u=Value.ref a:=rx;exact Vj I1 ea c n l λu' s2 I2 ru=>#[v,H1,I2,ru,q]
theorem ZD(ha:PE X o ta)(hv:PE X value tv)(hs:swapsWith value (tY (.Attribute o f pos')) pos.line X.env=pure Ab):PS X (.Assign [.Attribute o f pos'] value pos) (zel X.K ta tv f):=by
 intro Ac s σ H D I h;refine sq (thn (hv Ac s σ H _ I h) λu s1 ⟨y,H1,I1,ry,q⟩=>thn (ha Ac s1 σ H1 _ I1 q) λov s2 ⟨x,H2,I2,rx,a,C,dx,fs,ex,ea,c,n,l,q2⟩=>?_) hs;subst ex;obtain rfl:ov=Value.ref a:=rx;exact W3 I2 ea c n l ry λs3 I3=>#[σ,_,I3,q2]
theorem za8{pl:tO Bool}{m:re}{apos:rP}{args:List rh}{Ac:List (pX × rF)}{s:pZ}{σ:St}{H:Hp}{Q:pY->pZ->Prop}{te:TE}(he:PE X e te)(I:Inv X Ac σ H s)
    (h:te σ H λx H1=>∃a C dx fs g,x=.ref a/\H1 a=tY (.ins C dx fs)/\Cls X.K C/\zcm X.K C m g/\fs.lookup m=tZ /\
      ∀s1,Inv X Ac σ H1 s1->rd (model X.prog X.w) X.A (callWith pos (.ref g) [.ref a] (rA pos (pT args X.env)) (rJ pos (rq [] X.env))) Q X.xe s1)
    (ht:eval (.Call (.Attribute e m apos) args [] pos) X.env=(do
      let ov <- eval e X.env
      standAt apos.atName
      let (f,first) <- holding [ov] (getMethod ov m pl)
      callWith pos f first (rA pos (pT args X.env)) (rJ pos (rq [] X.env)))) :
    rd (model X.prog X.w) X.A (eval (.Call (.Attribute e m apos) args [] pos) X.env) Q X.xe s:=by
  refine cq (pl:=pl) (thn (he Ac s σ H _ I h) λu s1 ⟨x,H1,I1,rx,a,C,dx,fs,g,ex,ea,c,k,l,q⟩=>?_) ht;subst ex;obtain rfl:u=Value.ref a:=rx;exact xJ I1 ea c k l (q s1 I1)
end
section
variable{X:Cx}{Ac:List (pX × rF)}{σ:St}{H:Hp}{s:pZ}{A:rg}{E:pY->pZ->Prop}{Q:pY->pZ->Prop}{c:pY}{b:Bool}
inductive XS(K:pW)(H:Hp):V->pY->Prop where
 | non:XS K H .non (.type "NoneType")
 | bl (x:Bool):XS K H (.bl x) (.type "bool")
 | int (i:Int):XS K H (.int i) (.type "int")
 | str (x:re):XS K H (.str x) (.type "str")
 | flt (x:UInt64):XS K H (.flt x) (.type "float")
 | lst {a:pX} {xs:List V} (e:H a=tY (.lst xs)):XS K H (.ref a) (.type "list")
 | frz {a:pX} {o:rF} {xs:List V} (e:H a=tY (.frz o (.lst xs))):XS K H (.ref a) (.type "list")
 | tup {a:pX} {xs:List V} (e:H a=tY (.tup xs)):XS K H (.ref a) (.type "tuple")
 | dK {a:pX} {kvs:List (Key × V)} (e:H a=tY (.dK kvs)):XS K H (.ref a) (.type "dict")
 | dT {a:pX} {kvs:List (List Key × V)} (e:H a=tY (.dT kvs)):XS K H (.ref a) (.type "dict")
 | ins {a C dx:pX} {fs:List (re × V)} (e:H a=tY (.ins C dx fs)) (cl:Cls K C) (ha:ag K (.ref C) "__class__" = tY (tY (.builtin "object.__class__")))
   (hn:dh K (.builtin "object.__class__") "__get__" = tY (tY (.builtin "getset_descriptor.__get__"))) (htk:dz K (.builtin "object.__class__")=tY Aa)
   (hm:bI K C (.type "object")=tY Aa):XS K H (.ref a) (.ref C)
theorem UJ{x:V}{u t:pY}(I:Inv X Ac σ H s)(rx:RelV x u)(ty:XS X.K H x t)(e:aQ X.K t c=tY b)(h:∀tk,Q (.bool b) { s with toks:=tk }) :
  rd (model X.prog X.w) A (call (.builtin "isinstance") [u,c]) Q E s:=by
 cases ty with
 | non=>cases (show u=Value.none from rx);exact bf PySem.W.kitx_none I.kIn True.intro e (λz=>nomatch z) h
 | bl y=>cases (show u=Value.bool y from rx);exact bf PySem.W.kitx_bool I.kIn True.intro e (λz=>nomatch z) h
 | int i=>obtain⟨t,q⟩:=(show ∃t,u=Value.int i t from rx);cases q;exact bf PySem.W.kitx_int I.kIn True.intro e (λz=>nomatch z) h
 | str y=>obtain⟨t,q⟩:=(show ∃t,u=Value.str y t from rx);cases q;exact bf PySem.W.kitx_str I.kIn True.intro e (λz=>nomatch z) h
 | flt y=>obtain⟨t,q⟩:=(show ∃t,u=Value.float y t from rx);cases q;exact bf PySem.W.kitx_float I.kIn True.intro e (λz=>nomatch z) h
 | @lst a xs ea =>
  cases (show u=Value.ref a from rx);obtain⟨_,_,n,_,h1⟩:=(show ObjOk X.prog X.w H s.heap a (.lst xs)from I.hok a _ ea);exact bf d7 I.kIn #[_,h1,rfl] e (λz=>nomatch z) h
 | @frz a ob xs ea =>
  cases (show u=Value.ref a from rx);obtain⟨_,_,_,n,_,h1⟩:=(show ObjOk X.prog X.w H s.heap a (.frz ob (.lst xs))from I.hok a _ ea);exact bf d7 I.kIn #[_,h1,rfl] e (λz=>nomatch z) h
 | @tup a xs ea =>
  cases (show u=Value.ref a from rx);obtain⟨_,_,_,p⟩:=(show ObjOk X.prog X.w H s.heap a (.tup xs)from I.hok a _ ea);obtain⟨o,h1,h2,_⟩:=p;exact bf fF I.kIn #[o,h1,h2] e (λz=>nomatch z) h
 | @dK a kvs ea =>
  cases (show u=Value.ref a from rx);obtain⟨_,_,vs,_,p⟩:=(show ObjOk X.prog X.w H s.heap a (.dK kvs)from I.hok a _ ea);obtain⟨o,es,ep,h1,h2,_⟩:=p;exact bf fN I.kIn #[o,h1,h2.1] e (λz=>nomatch z) h
 | @dT a kvs ea =>
  cases (show u=Value.ref a from rx);obtain⟨_,_,xs,_,o,es,ep,h1,h2,_⟩:=(show ObjOk X.prog X.w H s.heap a (.dT kvs)from I.hok a _ ea);exact bf fN I.kIn #[o,h1,h2.1] e (λz=>nomatch z) h
 | @ins a C dx fs ea cl ha hn htk hm =>
  cases (show u=Value.ref a from rx);obtain⟨mA,O,_⟩:=Zq I.hok ea;obtain⟨od,J,_⟩:=O.look;exact bf (PySem.W.kitx_own (cl.get _) cl.hd ha hn htk hm) I.kIn J e (λz=>nomatch z) h
end
structure Room(k:Nat)(A:rg):Prop where
 hd:A.handled=tZ
 dp:A.depth+3 * k+5<sW
 un:A.units+16 * k+200<cLine
theorem Room.mono{j k:Nat}{A:rg}(r:Room k A)(h:j<=k):Room j A:=#[r.hd,by have:=r.dp;lia,by have:=r.un;lia]
theorem Room.deeper{k:Nat}{A:rg}(r:Room (k+1) A)(env:sN):Room k (A.deeper env) :=
 #[r.hd,by have:=r.dp;show A.depth+1+3 * k+5<_;lia,by have:=r.un;show A.units+3+16 * k+200<_;lia]
theorem Room.in1{k:Nat}{A:rg}(r:Room (k+1) A):Room k A.in1 :=
 #[r.hd,by have:=r.dp;show A.depth+3 * k+5<_;lia,by have:=r.un;show A.units+1+16 * k+200<_;lia]
theorem Vq{A:rg}{C:pX}{us:List pY}{kw:List (re × pY)}:(A.under (.builtin "type.__call__" #[.ref C::us,kw])).depth=A.depth+1:=by
 first | rfl | simp [Around.under,Code.weight,Code.isCreation,Code.isGuard,Code.isCaller,Code.frames,Code.isFrame,guardIds]
theorem Vp{A:rg}{C:pX}{us:List pY}{kw:List (re × pY)}:(A.under (.builtin "type.__call__" #[.ref C::us,kw])).units=A.units+1:=by
 first | rfl | simp [Around.under,Code.cUnits,Code.frames,Code.isFrame]
theorem Room.make{k:Nat}{A:rg}(r:Room (k+1) A)(C:pX)(us:List pY)(kw:List (re × pY)):Room k (A.under (.builtin "type.__call__" #[.ref C::us,kw])) :=
 #[r.hd,by have:=r.dp;rw[Vq];lia,by have:=r.un;rw[Vp];lia]
theorem Room.depth{k:Nat}{A:rg}(r:Room k A):A.depth<sW:=by have:=r.dp;lia
theorem Room.units{k:Nat}{A:rg}(r:Room k A):A.units+64<cLine:=by have:=r.un;lia
def xM:TA:=λ_ H Q=>Q [] H
def zM(ta:TE)(tr:TA):TA:=λσ H Q=>ta σ H λx H1=>tr σ H1 λxs H2=>Q (x::xs) H2
section
variable{X:Cx}{e:rh}{es:List rh}{te:TE}{t:TA}{pos:rP}
theorem zd:PA X [] xM:=λ_ _ _ _ H Q I h=>Calls.spliced_nil #[[],H,I,.nil,h]
theorem za(ha:PE X e te)(hr:PA X es t)(hs:pT (e::es) X.env=(Ab,eval e X.env)::pT es X.env:=by rfl):PA X (e::es) (zM te t):=by
 intro pos Ac s σ H Q I h;rw[hs];show rd _ _ (spliced ((Ab,eval e X.env)::rA pos (pT es X.env))) _ _ s;refine Calls.spliced_cons (thn (ha Ac s σ H _ I h) λu s1 ⟨x,H1,I1,r1,q1⟩=>?_);exact thn (hr pos Ac s1 σ H1 _ I1 q1) λus s2 ⟨xs,H2,I2,r2,q2⟩=>#[x::xs,H2,I2,.cons r1 r2,q2]
def Q1(t:TA):TE:=λσ H Q=>t σ H λxs H1=>xs.length<=pV/\∀p,H1 p=tZ->Q (.ref p) (upd H1 p (.tup xs))
def zcy(t:TA):TE:=λσ H Q=>t σ H λxs H1=>xs.length<=pV/\∀p,H1 p=tZ->Q (.ref p) (upd H1 p (.lst xs))
theorem zW{x1}(h:PA X es t):PE X (.Tuple es x1 pos) (Q1 t):=by
 intro Ac s σ H Q I hq;refine wpAny_Tuple_spliced (thn (h pos Ac s σ H _ I hq) λus s1 ⟨xs,H1,I1,r,z,q⟩=>#[by rw[<- r.length];exact z,?_]);have hf:H1 s1⁻¹=tZ:=I1.hok.fresh (al _);refine#[.ref s1⁻¹,upd H1 s1⁻¹ (.tup xs),I1.laid (t':=s1.toks) (λb u e=>ah _ e) (al _) ?_,rfl,q _ hf];exact#[z,us,r,#[_,aG _ rfl,rfl,_,rfl]]
theorem xj(h:PA X es t):PE X (.List es pos) (zcy t):=by
 intro Ac s σ H Q I hq;refine wpAny_List_spliced (thn (h pos Ac s σ H _ I hq) λus s1 ⟨xs,H1,I1,r,z,q⟩=>#[by rw[<- r.length];exact z,?_]);have hf:H1 s1⁻¹=tZ:=I1.hok.fresh (al _);refine#[.ref s1⁻¹,upd H1 s1⁻¹ (.lst xs),I1.laid (t':=s1.toks) (λb u e=>ah _ e) (al _) ?_,rfl,q _ hf];exact#[z,us,0,r,aG _ rfl]
end
noncomputable abbrev Sp:=List V->Hp->VK->XK->Prop
noncomputable abbrev CXT:=List sN->Hp->pZ->XK->pY->pZ->Prop
structure Env0(P:rb)(w:rf)(K:pW)(mg:re->Option pY)(base:rj)(A:rg)(outer:List sN)(s:pZ)(H:Hp):Prop where
 frames:A.frames=tY outer
 mod:Mod K mg base
 bs:∀b o,base.get? b=tY o->s.heap.get? b=tY o/\H b=tZ
 bsz:base.objs.size<=s⁻¹
 funs:s.heap.FunFrames base outer
 frf:∀b ∈ frs outer,H b=tZ
 hok:HOk P w H s.heap
 bare:sy s.gens
def CE(outer:List sN)(P:rb)(w:rf)(H:Hp)(s:pZ)(Q:VK)(u:pY)(s':pZ):Prop :=
 ∃v H',s'.os=s.os/\sy s'.gens/\Un (frs outer) [] H H' s.heap s'.heap/\HOk P w H' s'.heap/\RelV v u/\Q v H'
def CR(CX:CXT)(outer:List sN)(P:rb)(w:rf)(H:Hp)(s:pZ)(Q:VK)(E:XK)(r:sY)(s':pZ):Prop :=
 match r with
 | .ok (.ret u)=>CE outer P w H s Q u s'
 | .ok _=>False
 | .error e=>CX outer H s E e s'
structure zR(P:rb)(w:rf)(K:pW)(mg:re->Option pY)(base:rj)(CX:CXT)(k:Nat)(f:pX)(fd:ra)(ps:List re)(sp:Sp):Prop where
 len:∀vs H Q E,sp vs H Q E->vs.length=ps.length
 run:∀(A:rg) (outer:List sN) (s:pZ) (H:Hp) (args:Args) (us:List pY) (vs:List V) (Q:VK) (E:XK),Room k A->Env0 P w K mg base A outer s H->tj s fd args (ps.zip us)->Vals vs us->sp vs H Q E ->
  rY (model P w) A (.call (.ref f) args) (CR CX outer P w H s Q E) s
theorem Env0.make{P:rb}{w:rf}{K:pW}{mg:re->Option pY}{base:rj}{A:rg}{outer:List sN}{s:pZ}{H:Hp}(e:Env0 P w K mg base A outer s H)(C:pX)(us:List pY)(kw:List (re × pY)) :
  Env0 P w K mg base (A.under (.builtin "type.__call__" #[.ref C::us,kw])) outer s H:=#[by first | exact e.frames | (simpa [Around.under,Code.envs,Code.isFrame,pushEnvs] using e.frames),e.mod,e.bs,e.bsz,e.funs,e.frf,e.hok,e.bare]
section
variable{X:Cx}{Ac:List (pX × rF)}{σ:St}{H:Hp}{s s':pZ}
theorem Inv.env0(I:Inv X Ac σ H s):Env0 X.prog X.w X.K X.mg X.base X.A X.stack s H :=
 #[I.ok.frames,I.ok.mod,I.bs,aK I.ok.bsz I.sz,I.stack,I.stkFree,I.hok,I.bare]
theorem Inv.after{Q:VK}{u:pY}(I:Inv X Ac σ H s)(h:CE X.stack X.prog X.w H s Q u s'):EP X Ac σ Q u s':=by
 obtain⟨v,H',os,bare,un,hok,r,q⟩:=h;obtain⟨hh,g,d,t,os'⟩:=s';obtain rfl:os'=s.os:=os;exact#[v,H',I.call (h':=hh) (g':=g) (d':=d) (t':=t) (ch:=[]) un hok bare (λb z=>absurd z (by simp)),r,q]
end
def jE(sp:Sp)(dvs:List V)(E:XK)(t:TA):TE:=λσ H Q=>t σ H λvs H1=>sp (vs ++ dvs) H1 Q E
def kN(C:pX)(m:re)(sp:Sp)(dvs:List V)(E:XK)(ta:TE)(t:TA):TE:=λσ H Q=>ta σ H λx H1=>∃a dx fs,x=.ref a/\H1 a=tY (.ins C dx fs)/\fs.lookup m=tZ /\
 t σ H1 λvs H2=>sp (x::(vs ++ dvs)) H2 Q E
def UP(C:pX)(sp:Sp)(dvs:List V)(E:XK)(t:TA):TE:=λσ H Q=>t σ H λvs H1=>∀x dx,H1 x=tZ->H1 dx=tZ->dx≠x ->
 sp (.ref x::(vs ++ dvs)) (upd (upd H1 dx (.own x)) x (.ins C dx [])) (λv H2=>v=.non/\Q (.ref x) H2) E
def Binds(K:pW)(fd:ra)(ps:List re)(ds:List pY):Prop :=
 ∀(s:pZ) (us:List pY),K.In s.heap->(us ++ ds).length=ps.length->tj s fd #[us,[]] (ps.zip (us ++ ds))
theorem Binds.all{K:pW}{fd:ra}{ps:List re}(h:∀us:List pY,us.length=ps.length->bindArgs fd #[us,[]]=pure (ps.zip us)):Binds K fd ps []:=λs us _ hl=>by
 rw[aP]at hl ⊢;exact .of_eq (h us hl)
def uD(CX:CXT)(X:Cx)(E:XK):Prop:=∀(Ac:List (pX × rF)) (σ:St) (H:Hp) (s:pZ) (e:pY) (s':pZ),Inv X Ac σ H s->CX X.stack H s E e s'->X.xe e s'
section
variable{X:Cx}{CX:CXT}{k:Nat}{f C:pX}{fd:ra}{ps:List re}{sp:Sp}{dvs:List V}{ds:List pY}{E:XK}{x m:re}{p pos apos:rP}{e o:rh}{es:List rh}{ta:TE}{t:TA}
theorem Yo{Ac:List (pX × rF)}{σ:St}{H:Hp}{s:pZ}{Q:VK}{us:List pY}{vs:List V}(F:zR X.prog X.w X.K X.mg X.base CX k f fd ps sp)(hr:Room k X.A)(hb:Binds X.K fd ps ds)(hd:Vals dvs ds)(hx:uD CX X E)
  (I:Inv X Ac σ H s) (r:Vals vs us) (h:sp (vs ++ dvs) H Q E):rd (model X.prog X.w) X.A (call (.ref f) us) (EP X Ac σ Q) X.xe s:=by
 have r2:Vals (vs ++ dvs) (us ++ ds):=r.append hd;have hl:(us ++ ds).length=ps.length:=by rw[<- r2.length];exact F.len _ _ _ _ h
 refine rV (rX (F.run X.A X.stack s H #[us,[]] (us ++ ds) (vs ++ dvs) Q E hr I.env0 (hb s us I.kIn hl) r2 h) λr s' hq=>?_)
 cases r with
 | error e=>exact hx Ac σ H s e s' I hq
 | ok fl =>
  cases fl with
  | ret u=>exact I.after hq
  | next=>exact False.elim hq
  | brk=>exact False.elim hq
  | cont=>exact False.elim hq
theorem VY(F:zR X.prog X.w X.K X.mg X.base CX k f fd ps sp)(hr:Room k X.A)(hg:Gl X x)(hm:X.mg x=tY (.ref f))(hk:aJ X.K (.ref f)=Aa)(hb:Binds X.K fd ps ds)(hd:Vals dvs ds)(hx:uD CX X E)
  (ha:PA X (e::es) t) (hdb:(x ==("__debug__" : re))=Ab:=by decide) (he:pT (e::es) X.env=(Ab,eval e X.env)::pT es X.env:=by rfl) (hpl:(rA pos (pT es X.env)).any (·.1)=Ab:=by rfl) :
  PE X (.Call (.Name x p) (e::es) [] pos) (jE sp dvs E t):=by
 intro Ac s σ H Q I h;refine rD (vz I hg hm ?_ hdb);refine bO (h₀:=X.base) I.ok.mod.kin hk (thn (ha pos Ac s σ H _ I h) λus s1 ⟨vs,H1,I1,r,q⟩=>#[I1.kIn,?_]) he hpl;exact Yo F hr hb hd hx I1 r q
theorem zaB{pl:tO Bool}(he:PE X o ta)(c:Cls X.K C)(hm:zcm X.K C m f)(F:zR X.prog X.w X.K X.mg X.base CX k f fd ps sp)(hr:Room k X.A)(hb:Binds X.K fd ps ds)(hd:Vals dvs ds)(hx:uD CX X E)(ha:PA X (e::es) t)
    (hst:pT (e::es) X.env=(Ab,eval e X.env)::pT es X.env:=by rfl) (hpl:(rA pos (pT es X.env)).any (·.1)=Ab:=by rfl)
    (ht:eval (.Call (.Attribute o m apos) (e::es) [] pos) X.env=(do
      let ov <- eval o X.env
      standAt apos.atName
      let (f,first) <- holding [ov] (getMethod ov m pl)
      callWith pos f first (rA pos (pT (e::es) X.env)) (rJ pos (rq [] X.env))):=by rfl) :
    PE X (.Call (.Attribute o m apos) (e::es) [] pos) (kN C m sp dvs E ta t):=by
  intro Ac s σ H Q I h;refine cq (pl:=pl) (thn (he Ac s σ H _ I h) λu s1 ⟨x,H1,I1,rx,a,dx,fs,ex,ea,l,q⟩=>?_) ht;subst ex;obtain rfl:u=Value.ref a:=rx;refine xJ I1 ea c hm l ?_;refine bO (first:=[.ref a]) (h₀:=X.base) I.ok.mod.kin hm.kp (thn (ha pos Ac s1 σ H1 _ I1 q) λus s2 ⟨vs,H2,I2,r,q2⟩=>#[I2.kIn,?_]) hst hpl;exact Yo (us:=.ref a::us) (vs:=.ref a::vs) F hr hb hd hx I2 (.cons rfl r) q2
theorem JM{pl:tO Bool}(he:PE X o ta)(c:Cls X.K C)(hm:zcm X.K C m f)(F:zR X.prog X.w X.K X.mg X.base CX k f fd ps sp)(hr:Room k X.A)(hb:Binds X.K fd ps ds)(hd:Vals dvs ds)(hx:uD CX X E)
    (ht:eval (.Call (.Attribute o m apos) [] [] pos) X.env=(do
      let ov <- eval o X.env
      standAt apos.atName
      let (f,first) <- holding [ov] (getMethod ov m pl)
      callWith pos f first (rA pos (pT [] X.env)) (rJ pos (rq [] X.env))):=by rfl) :
    PE X (.Call (.Attribute o m apos) [] [] pos) (kN C m sp dvs E ta xM):=by
  intro Ac s σ H Q I h;refine cq (pl:=pl) (thn (he Ac s σ H _ I h) λu s1 ⟨x,H1,I1,rx,a,dx,fs,ex,ea,l,q⟩=>?_) ht;subst ex;obtain rfl:u=Value.ref a:=rx;refine xJ I1 ea c hm l ?_;exact fz (first:=[.ref a]) I1.kIn hm.kp (Yo (us:=[.ref a]) (vs:=[.ref a]) F hr hb hd hx I1 (.cons rfl .nil) q)
structure Mk(K:pW)(C f:pX):Prop where
 makes:cI K C=Aa
 init:ag K (.ref C) "__init__" = tY (tY (.ref f))
 fn:aV K (.ref f)=Aa
 kp:aJ K (.ref C)=Aa
theorem Q7{Ac:List (pX × rF)}{σ:St}{H:Hp}{s:pZ}{Q:VK}{us:List pY}{vs:List V}(M:Mk X.K C f)(F:zR X.prog X.w X.K X.mg X.base CX k f fd ps sp)(hr:Room (k+1) X.A)(hb:Binds X.K fd ps ds)(hd:Vals dvs ds)
  (hx:uD CX X E) (I:Inv X Ac σ H s) (r:Vals vs us)
  (h:∀x dx,H x=tZ->H dx=tZ->dx≠x->sp (.ref x::(vs ++ dvs)) (upd (upd H dx (.own x)) x (.ins C dx [])) (λv H2=>v=.non/\Q (.ref x) H2) E) :
  rd (model X.prog X.w) X.A (call (.ref C) us) (EP X Ac σ Q) X.xe s:=by
 have hq:=h (s⁻¹+1) s⁻¹ (I.hok.fresh (cj _)) (I.hok.fresh (al _)) (ay (Nat.lt_succ_self _));have I2:=Inv.made (C:=C) I;have r2:Vals (V.ref (s⁻¹+1)::(vs ++ dvs)) (Value.ref (s⁻¹+1)::(us ++ ds)):=.cons rfl (r.append hd)
 have hl:(Value.ref (s⁻¹+1)::us ++ ds).length=ps.length:=by
  have e:=r2.length;rw[F.len _ _ _ _ hq]at e;exact e.symm
 refine rV (Jv (f:=f) I.kIn M.makes M.init (beq_iff_eq.mp M.fn) (rX (F.run _ X.stack _ _ #[Value.ref (s⁻¹+1)::us,[]] (Value.ref (s⁻¹+1)::(us ++ ds)) _ _ E (hr.make C us [])
  (I2.env0.make C us []) (hb _ (Value.ref (s⁻¹+1)::us) I2.kIn hl) r2 hq) λr s' hq'=>?_))
 cases r with
 | error e=>exact hx Ac σ _ _ e s' I2 hq'
 | ok fl =>
  cases fl with
  | ret u =>
   obtain⟨v,H',I3,rv,ev,q3⟩:=I2.after hq';subst ev;exact#[rv,#[V.ref (s⁻¹+1),H',I3,rfl,q3]]
  | next=>exact False.elim hq'
  | brk=>exact False.elim hq'
  | cont=>exact False.elim hq'
theorem Ui(M:Mk X.K C f)(F:zR X.prog X.w X.K X.mg X.base CX k f fd ps sp)(hr:Room (k+1) X.A)(hg:Gl X x)(hm:X.mg x=tY (.ref C))(hb:Binds X.K fd ps ds)(hd:Vals dvs ds)(hx:uD CX X E)
  (ha:PA X (e::es) t) (hdb:(x ==("__debug__" : re))=Ab:=by decide) (he:pT (e::es) X.env=(Ab,eval e X.env)::pT es X.env:=by rfl) (hpl:(rA pos (pT es X.env)).any (·.1)=Ab:=by rfl) :
  PE X (.Call (.Name x p) (e::es) [] pos) (UP C sp dvs E t):=by
 intro Ac s σ H Q I h;refine rD (vz I hg hm ?_ hdb);refine bO (h₀:=X.base) I.ok.mod.kin M.kp (thn (ha pos Ac s σ H _ I h) λus s1 ⟨vs,H1,I1,r,q⟩=>#[I1.kIn,?_]) he hpl;exact Q7 M F hr hb hd hx I1 r q
end
def PK(X:Cx)(kws:List tP)(t:TA):Prop :=
 ∀(pos:rP) (Ac:List (pX × rF)) (s:pZ) (σ:St) (H:Hp) (Q:List V->Hp->Prop),Inv X Ac σ H s->t σ H Q->rd (model X.prog X.w) X.A (evalAll ((rJ pos (rq kws X.env)).map (·.2))) (AP X Ac σ Q) X.xe s
section
variable{X:Cx}{CX:CXT}{k:Nat}{f C:pX}{fd:ra}{ps ks:List re}{sp:Sp}{E:XK}{x m:re}{p pos apos kpos:rP}{e o:rh}{es:List rh}{kws:List tP}{te ta:TE}{t tk:TA}{nm:Option re}
theorem K8:PK X [] xM:=λ_ _ _ _ H Q I h=>wpAny_evalAll_nil #[[],H,I,.nil,h]
theorem U8(ha:PE X e te)(hr:PK X kws t):PK X (#[nm,e,kpos]::kws) (zM te t):=by
 intro pos Ac s σ H Q I h;show rd _ _ (evalAll ((do let v <- eval e X.env;standAt pos;pure v)::(rJ pos (rq kws X.env)).map (·.2))) _ _ s;refine wpAny_evalAll_cons (pQ (thn (ha Ac s σ H _ I h) λu s1 ⟨x,H1,I1,r1,q1⟩=>pQ (rN (pR ?_))));exact thn (hr pos Ac s1 σ H1 _ I1 q1) λus s2 ⟨xs,H2,I2,r2,q2⟩=>#[x::xs,H2,I2,.cons r1 r2,q2]
variable{g:List pY->List pY->List pY}{gV:List V->List V->List V}
end
structure zl(N P:List re)(sc:rL):Prop where
 kind:sc.kind=.function
 co:sc.isCoroutine=Ab
 gen:sc.isGenerator=Ab
 nd:N.Nodup
 pre:N.take P.length=P
 par:∀x ∈ P,sc.names.lookup x=tY .local\/sc.names.lookup x=tY .cell
 nofree:∀y ∈ sc.names,y.2≠.free
theorem ZU{kindOf:re->Option sv}{x:re}:∀{binds:List (re × pY)} {m:re->Option pY},(∀v,(x,v) ∉ binds)->bindL kindOf binds m x=m x
  | [],_,_=>rfl
  | (n,v)::r,m,h=>by
    unfold bindL;rw[ZU λw hw=>h w (am _ hw)];split
    . have:x≠n:=by rintro rfl;exact h v aw
      simp [this]
    . rfl
theorem Yu{kindOf:re->Option sv}{x:re}:∀{binds:List (re × pY)} {m:re->Option pY},(∀v,(x,v) ∉ binds)->bindC kindOf binds m x=m x
  | [],_,_=>rfl
  | (n,v)::r,m,h=>by
    unfold bindC;rw[Yu λw hw=>h w (am _ hw)];split
    . rfl
    . have:x≠n:=by rintro rfl;exact h v aw
      simp [this]
theorem Z6{kindOf:re->Option sv}{x:re}{v:pY}:∀{P:List re} {vs:List pY} {i:Nat} {m:re->Option pY},P.Nodup->P[i]? = tY x->vs[i]? = tY v->kindOf x=tY .local ->
  bindL kindOf (P.zip vs) m x=tY v
 | [],_,_,_,_,h,_,_=>by simp at h
 | _::_,[],_,_,_,_,h,_=>by simp at h
 | p::P,w::vs,0,m,nd,h1,h2,hk=>by
  simp at h1 h2;subst h1;subst h2;show bindL kindOf ((p,w)::P.zip vs) m p=_;unfold bindL;rw[ZU λv hv=>(Ap.mp nd).1 (cX hv).1,if_pos hk];simp
 | p::P,w::vs,i+1,m,nd,h1,h2,hk=>by
  show bindL kindOf ((p,w)::P.zip vs) m x=_;unfold bindL;exact Z6 (i:=i) (Ap.mp nd).2 (by simpa using h1) (by simpa using h2) hk
theorem Ye{kindOf:re->Option sv}{x:re}{v:pY}:∀{P:List re} {vs:List pY} {i:Nat} {m:re->Option pY},P.Nodup->P[i]? = tY x->vs[i]? = tY v->kindOf x≠tY .local ->
  bindC kindOf (P.zip vs) m x=tY v
 | [],_,_,_,_,h,_,_=>by simp at h
 | _::_,[],_,_,_,_,h,_=>by simp at h
 | p::P,w::vs,0,m,nd,h1,h2,hk=>by
  simp at h1 h2;subst h1;subst h2;show bindC kindOf ((p,w)::P.zip vs) m p=_;unfold bindC;rw[Yu λv hv=>(Ap.mp nd).1 (cX hv).1,if_neg hk];simp
 | p::P,w::vs,i+1,m,nd,h1,h2,hk=>by
  show bindC kindOf ((p,w)::P.zip vs) m x=_;unfold bindC;exact Ye (i:=i) (Ap.mp nd).2 (by simpa using h1) (by simpa using h2) hk
noncomputable def start(N:List re)(vs:List V):St:=vs.map tY ++ aT (N.length - vs.length) tZ
noncomputable def uT(CX:CXT)(P:rb)(w:rf)(K:pW)(mg:re->Option pY)(base:rj)(N:List re)(qual:re)(scope:rL)(f:pX)(cd:pY)(A:rg)(outer:List sN)(s:pZ)(H:Hp)(E:XK):Cx where
 prog:=P
 w:=w
 K:=K
 mg:=mg
 base:=base
 A:=A.deeper (sw qual scope s⁻¹ f cd)
 N:=N
 s₀:=s
 H₀:=H
 env:=sw qual scope s⁻¹ f cd
 outer:=outer
 stack:=sw qual scope s⁻¹ f cd::outer
 ex:=[]
 calm:=Aa
 fn:=λ_=>Aa
 pn:=[]
 xe:=λe s'=>rd (model P w) (A.deeper (sw qual scope s⁻¹ f cd)) (leaving (sw qual scope s⁻¹ f cd) e) (λ_ s''=>CX outer H s E e s'') (λe' s''=>CX outer H s E e' s'') s'
theorem Xv{sc:rL}{n:Nat}{x:re}(h:sc.names.lookup x=tY .cell):∃c,(cellsFrom n sc.names []).lookup x=tY c:=by
 have q:=eX sc.names n [] (.inl h);exact Aq.mp q
theorem QJ{CX:CXT}{P:rb}{w:rf}{K:pW}{mg:re->Option pY}{base:rj}{N ps:List re}{qual:re}{scope:rL}{f:pX}{cd:pY}{A:rg}{outer:List sN}{s s1:pZ}{H:Hp}{E:XK}{us:List pY}{vs:List V}
  (S:zl N ps scope) (hd:A.handled=tZ) (e0:Env0 P w K mg base A outer s H) (hl:vs.length=ps.length) (r:Vals vs us)
  (x:InCallC s s⁻¹ (bindL (sw qual scope s⁻¹ f cd).kindOf (ps.zip us) λ_=>tZ) (cellsFrom (s⁻¹+1) scope.names []) (bindC (sw qual scope s⁻¹ f cd).kindOf (ps.zip us) λ_=>tZ) s1) :
  Inv (uT CX P w K mg base N qual scope f cd A outer s H E) [] (start N vs) H s1:=by
 have hpl:ps.length<=N.length:=by have:=congrArg dY S.pre;rw[aI]at this;lia
 obtain⟨h1,tk,rfl,hk⟩:=x.done;have noA:∀b:pX,b ∉ (uT CX P w K mg base N qual scope f cd A outer s H E).ex:=λb z=>absurd (show b ∈ ([]:List pX)from z) (by simp)
 refine#[#[e0.mod,S.kind,rfl,rfl,al _,λy z c h1 h2=>?_,λy hy=>?_,λy c _ h=>?_,λ_=>hd,Around.frames_deeper e0.frames,.inr #[rfl,rfl],λb z=>absurd z (noA b),e0.bs,e0.bsz,λb _ _=>noA b,λb z=>absurd z (noA b),e0.funs,e0.frf],
  rfl,e0.bare,Un.kept hk,#[_,x.toInCall.ns,λi y v h1 h2 h3=>?_],λy c h=>#[_,x.cell y c h],e0.hok.fresh (al _),λy c h=>?_,λp hp=>absurd (show p ∈ ([]:List (pX × rF))from hp) (by simp),e0.hok.kept hk,?_]
 ·exact name_of_addr x.apart (bK h1) (bK h2)
 ·have hy:scope.names.lookup y=tY .cell\/scope.names.lookup y=tY .free:=hy;rcases hy with hy | hy
  ·exact Xv hy
  ·exact absurd rfl (S.nofree _ (bK hy))
 ·exact db (x.above y c (bK h))
 ·have hi:i<vs.length:=by
   unfold start at h2;by_cases hi:i<vs.length
   ·exact hi
   ·rw[bC (by simpa using hi)]at h2;rw[eO]at h2;split at h2 <;> cases h2
  have ha:vs[i]? = tY v:=by
   unfold start at h2;rw[bT (by simpa using hi),ar]at h2
   cases e:vs[i]? with
   | none=>rw[e]at h2;cases h2
   | some a=>rw[e]at h2;cases h2;rfl
  obtain⟨u,hu,rv⟩:=r.get ha
  have hp:ps[i]? = tY y:=by
   rw[<- S.pre,cC ⋯];exact h1
  have ndP:ps.Nodup:=by rw[<- S.pre];exact S.nd.sublist (List.take_sublist _ _)
  refine#[u,rv,?_];rcases S.par y (af hp)with k | k
  ·exact .inl #[k,Z6 ndP hp hu k]
  ·obtain⟨c,e⟩:=Xv (n:=s⁻¹+1) k;refine .inr #[.inl k,c,e,?_];have q:=x.cell y c e;rw[Ye ndP hp hu (by show scope.names.lookup y≠_;rw[k];decide)]at q;exact q
 ·exact e0.hok.fresh (db (x.above y c (bK h)))
 ·unfold start;show _=N.length;rw[ak,ac,bP];lia
theorem JJ{CX:CXT}{P:rb}{w:rf}{K:pW}{mg:re->Option pY}{base:rj}{k:Nat}{f:pX}{name qual:re}{params:si}{body:List rn}{scope:rL}{dV kV doc pm cdv ct oc:pY}{an od:Option pX}
  {osl:Array (Option pY)} {N ps:List re} {sp:Sp} (lk:K.lookup f=tY #[oc,od,.func (bp name qual params body scope dV kV doc pm an cdv ct),osl]) (hcd:bJ K cdv qual=Aa) (S:zl N ps scope)
  (len:∀vs H Q E,sp vs H Q E->vs.length=ps.length)
  (hbody:∀(A:rg) (outer:List sN) (s:pZ) (H:Hp) (vs:List V) (Q:VK) (E:XK),Room k (A.deeper (sw qual scope s⁻¹ f cdv))->sp vs H Q E ->
   ∃t,PSs (uT CX P w K mg base N qual scope f cdv A outer s H E) body t/\t { nx:=λ_ H'=>Q .non H',rt:=Q } (start N vs) H) :
  zR P w K mg base CX (k+1) f (bp name qual params body scope dV kV doc pm an cdv ct) ps sp:=by
 refine#[len,λA outer s H args us vs Q E hr e0 hb r hsp=>?_];have hl:=len _ _ _ _ hsp;have KX:K.In s.heap:=e0.mod.kin.keeps λb o e=>(e0.bs b o e).1;have lim:s.heap.NoLimit:=e0.mod.nolimit.keeps λb o e=>(e0.bs b o e).1
 have hkind:∀y ∈ ps.zip us,scope.names.lookup y.1=tY .local\/(scope.names.lookup y.1=tY .cell/\((cellsFrom (s⁻¹+1) scope.names []).lookup y.1).isSome=Aa):=λ⟨n,v⟩ hy=>by
  rcases S.par n (cX hy).1 with q | q
  ·exact .inl q
  ·exact .inr #[q,eX _ _ _ (.inl q)]
 refine codeAny_call_function hr.depth (KX _ _ lk) rfl S.co S.gen rfl (PySem.W.codeRec_of KX hcd) (hb _ _ _ _ ?_);refine wpAny_newFunctionEnv_cells S.kind hkind λenv he s1 x=>?_;subst he;refine#[lim.keeps x.toInCall.keep,codeAny_func ?_];obtain⟨t,ht,hq⟩:=hbody A outer s H vs Q E (hr.deeper _) hsp;have I:Inv (uT CX P w K mg base N qual scope f cdv A outer s H E) [] (start N vs) H s1:=QJ S hr.hd e0 hl r x;refine rS (ht [] s1 (start N vs) H _ I hq) (λfl s' hs=>?_) λe s' hs=>hs
 have fin:∀{σ':St} {H':Hp} {v:V} {u:pY},Inv (uT CX P w K mg base N qual scope f cdv A outer s H E) [] σ' H' s'->RelV v u->Q v H'->CE outer P w H s Q u s' :=
  λ{σ' H' v u} J rv q=>#[v,H',J.os,J.bare,J.base,J.hok,rv,q]
 cases fl with
 | ret u =>
  obtain⟨v,σ',H',J,rv,q⟩:=hs;exact fin J rv q
 | next =>
  obtain⟨σ',H',J,q⟩:=hs;exact fin (v:=V.non) (u:=Value.none) J rfl q
 | brk =>
  obtain⟨_,_,_,q⟩:=hs;exact False.elim q
 | cont =>
  obtain⟨_,_,_,q⟩:=hs;exact False.elim q
section
variable{X:Cx}{x:re}{p pos:rP}{e:rh}{es:List rh}{t:TA}{id T:String}{r:List V->Hp->VK->Prop}
def tCB(r:List V->Hp->VK->Prop)(t:TA):TE:=λσ H Q=>t σ H λvs H1=>r vs H1 Q
theorem yW(hc:vj X (.builtin id) r)(hg:Gl X x)(hm:X.mg x=tZ)(hv:rH x=tY (.builtin id))(ha:PA X (e::es) t)(hn:x≠"__name__":=by decide)(hdb:(x ==("__debug__" : re))=Ab:=by decide)
  (he:pT (e::es) X.env=(Ab,eval e X.env)::pT es X.env:=by rfl) (hpl:(rA pos (pT es X.env)).any (·.1)=Ab:=by rfl):PE X (.Call (.Name x p) (e::es) [] pos) (tCB r t):=by
 intro Ac s σ H Q I h;refine rD (wf I hg hm hv ?_ hn hdb);exact PyProof.Rows.callWith_builtin1 (thn (ha pos Ac s σ H _ I h) λus s1 ⟨vs,H1,I1,r1,q1⟩=>hc Ac s1 σ H1 vs us Q I1 r1 q1) he hpl
theorem wq(hc:vj X (.type T) r)(hg:Gl X x)(hm:X.mg x=tZ)(hv:rH x=tY (.type T))(ha:PA X (e::es) t)(hn:x≠"__name__":=by decide)(hdb:(x ==("__debug__" : re))=Ab:=by decide)
  (he:pT (e::es) X.env=(Ab,eval e X.env)::pT es X.env:=by rfl) (hpl:(rA pos (pT es X.env)).any (·.1)=Ab:=by rfl):PE X (.Call (.Name x p) (e::es) [] pos) (tCB r t):=by
 intro Ac s σ H Q I h;refine rD (wf I hg hm hv ?_ hn hdb);exact bq (thn (ha pos Ac s σ H _ I h) λus s1 ⟨vs,H1,I1,r1,q1⟩=>hc Ac s1 σ H1 vs us Q I1 r1 q1) he hpl
end
end L2
namespace HT
open PySem PyProof.Rows
section
open PySem.SeqAt
open PySem.AutoSeq1 (wpAny_loadPart')
open PySem.MeetsSeq PySem.MeetsSeq2 PySem.MeetsSeq3
end
section
variable{prog:rb}{w:rf}{A:rg}{E:pY->pZ->Prop}{s:pZ}
noncomputable def sIx(n d:Nat):Option Int->Nat
 | none=>d
 | some v=>if v<0 then (v+(n:Int)).toNat else min v.toNat n
theorem sIx_none(n d:Nat):sIx n d tZ=d:=rfl
theorem sIx_nat(n d k:Nat):sIx n d (tY (k:Int))=min k n:=by
 show (if (k:Int)<0 then ((k:Int)+(n:Int)).toNat else min (k:Int).toNat n)=min k n;rw[if_neg ⋯,aR]
theorem sIx_le(n d:Nat)(hd:d<=n)(o:Option Int):sIx n d o<=n:=by
 cases o with
 | none=>exact hd
 | some v =>
  show (if v<0 then (v+(n:Int)).toNat else min v.toNat n)<=n;by_cases hv:v<0
  ·rw[if_pos hv];lia
  ·rw[if_neg hv];exact eh _ _
end
end HT
namespace L2
noncomputable abbrev TO:=St->Hp->(Option Int->Hp->Prop)->Prop
def PO(X:Cx)(e:Option rh)(t:TO):Prop :=
 ∀(Ac:List (pX × rF)) (s:pZ) (σ:St) (H:Hp) (Q:Option Int->Hp->Prop),Inv X Ac σ H s->t σ H Q ->
  rd (model X.prog X.w) X.A (evalPart e X.env) (λu s'=>∃o H',Inv X Ac σ H' s'/\IsPart u o/\Q o H') X.xe s
def kn:TO:=λ_ H Q=>Q tZ H
def Yn(t:TE):TO:=λσ H Q=>t σ H λx H1=>onInt x λi=>Q (tY i) H1
section
variable{X:Cx}{e:rh}{te:TE}{lo hi:Option rh}{tl th:TO}{pos p2:rP}
theorem xn:PO X tZ kn:=by
 intro Ac s σ H Q I h;rw[evalPart_none];exact pR #[tZ,H,I,.none,h]
theorem yd(h:PE X e te):PO X (tY e) (Yn te):=by
 intro Ac s σ H Q I hw;rw[evalPart_some];refine thn (h Ac s σ H _ I hw) λu s1 ⟨x,H1,I1,r1,q1⟩=>?_;obtain⟨i,rfl,q⟩:=onInt.of q1;obtain⟨t,rfl⟩:=r1;exact#[tY i,H1,I1,.int i t,q]
def SlR(X:Cx)(r:V->Option Int->Option Int->Hp->VK->Prop):Prop :=
 ∀(Ac:List (pX × rF)) (s:pZ) (σ:St) (H:Hp) (x:V) (v vl vu:pY) (lo hi:Option Int) (sl:pX) (Q:VK),Inv X Ac σ H s->RelV x v->s.heap.IsSliceOf sl vl vu .none->IsPart vl lo->IsPart vu hi->r x lo hi H Q ->
  ∃T id,typeLookup (.type T) "__getitem__" = pure (tY (.builtin id))/\s.TypeIs v T/\rd (model X.prog X.w) X.A (getItem v (.ref sl)) (EP X Ac σ Q) X.xe s
def tSl(r:V->Option Int->Option Int->Hp->VK->Prop)(te:TE)(tl th:TO):TE:=λσ H Q=>te σ H λx H1=>tl σ H1 λl H2=>th σ H2 λu H3=>r x l u H3 Q
theorem ye{r:V->Option Int->Option Int->Hp->VK->Prop}(hr:SlR X r)(he:PE X e te)(hl:PO X lo tl)(hu:PO X hi th):PE X (.Subscript e (.Slice lo hi tZ p2) pos) (tSl r te tl th):=by
 intro Ac s σ H Q I h;refine tT (thn (he Ac s σ H _ I h) λv s1 ⟨x,H1,I1,r1,q1⟩=>?_);refine wpAny_Slice (thn (hl Ac s1 σ H1 _ I1 q1) λvl s2 ⟨l,H2,I2,pl,q2⟩=>thn (hu Ac s2 σ H2 _ I2 q2) λvu s3 ⟨u,H3,I3,pu,q3⟩=>?_);rw[evalPart_none];refine pR ?_;have I4:Inv X Ac σ H3 { s3 with heap:=s3.heap.push { cls:=.type "slice",data:=.fields (List.toArray [vl,vu,.none]) } }:=I3.kept (t':=s3.toks) λb ob q=>ah _ q;obtain⟨T,id,hT,ht,hg⟩:=hr Ac { s3 with heap:=s3.heap.push { cls:=.type "slice",data:=.fields (List.toArray [vl,vu,.none]) } } σ H3 x v vl vu l u s3⁻¹ Q I4 r1 (Heap.IsSliceOf.new ..) pl pu q3;show rd (model X.prog X.w) X.A (tB e (.Slice lo hi tZ p2) v (.ref s3⁻¹)) (EP X Ac σ Q) X.xe { s3 with heap:=s3.heap.push { cls:=.type "slice",data:=.fields (List.toArray [vl,vu,.none]) } };exact tail_any (ops:=[.ref s3⁻¹,v]) ht hT hg (by with_unfolding_all rfl)
noncomputable def K6(xs:List V)(lo hi:Option Int):List V:=(xs.drop (HT.sIx xs.length 0 lo)).take (HT.sIx xs.length xs.length hi - HT.sIx xs.length 0 lo)
theorem Xd(xs:List V)(lo hi:Option Int):(K6 xs lo hi).length<=xs.length:=by
 unfold K6;rw[aI,bg];lia
end
noncomputable def ixN(n:Nat)(i:Int):Option Nat:=if 0<=i then (if i<n then tY i.toNat else tZ)else if -(n:Int)<=i then tY (i+n).toNat else tZ
noncomputable def atI{α:Type}(xs:List α)(i:Int):Option α:=(ixN xs.length i).bind λj=>xs[j]?
theorem zbb{n:Nat}{i:Int}{j:Nat}(h:ixN n i=tY j):seqIndex? i n=tY j/\j<n/\-(n:Int)<=i/\i<n:=by
 unfold ixN at h;by_cases h0:0<=i
 ·rw[if_pos h0]at h;by_cases h1:i<n
  ·rw[if_pos h1]at h;have e:i.toNat=j:=Option.some.inj h;exact#[by rw[seqIndex_of h0 h1,e],⋯,⋯,h1]
  ·rw[if_neg h1]at h;cases h
 ·rw[if_neg h0]at h;by_cases h1:-(n:Int)<=i
  ·rw[if_pos h1]at h;have e:(i+n).toNat=j:=Option.some.inj h;exact#[by rw[seqIndex_neg ⋯ h1,e],⋯,h1,⋯]
  ·rw[if_neg h1]at h;cases h
theorem Zh{α:Type}{xs:List α}{i:Int}{v:α}(h:atI xs i=tY v):∃j,seqIndex? i xs.length=tY j/\xs[j]? = tY v/\j<xs.length/\-(xs.length:Int)<=i/\i<xs.length:=by
 unfold atI at h
 cases e:ixN xs.length i with
 | none=>rw[e]at h;cases h
 | some j =>
  rw[e]at h;obtain⟨h1,h2,h3,h4⟩:=zbb e;exact#[j,h1,h,h2,h3,h4]
theorem vw{α:Type}{xs:List α}{j:Nat}{v:α}(h:xs[j]? = tY v):atI xs (j:Int)=tY v:=by
 have hj:j<xs.length:=(Af.mp h).1
 have e:ixN xs.length (j:Int)=tY j:=by
  unfold ixN;rw[if_pos ⋯,if_pos ⋯];simp
 unfold atI;rw[e];exact h
def U5(b:rh):Prop:=∀o i,subscripted b Ab o i=operate [o,i] (getItem o i)
def IxR(X:Cx)(r:R2):Prop :=
 ∀(value slice:rh) (Ac:List (pX × rF)) (s:pZ) (σ:St) (H:Hp) (x y:V) (v u:pY) (Q:VK),Inv X Ac σ H s->RelV x v->RelV y u->r x y H Q ->
  subscripted slice Ab v u=operate [v,u] (getItem v u)->rd (model X.prog X.w) X.A (tB value slice v u) (EP X Ac σ Q) X.xe s
def MtR(X:Cx)(id:String)(r:V->List V->Hp->VK->Prop):Prop :=
 ∀(Ac:List (pX × rF)) (s:pZ) (σ:St) (H:Hp) (x:V) (xs:List V) (v:pY) (us:List pY) (Q:VK),Inv X Ac σ H s->RelV x v->Vals xs us->r x xs H Q ->
  rd (model X.prog X.w) X.A (call (.builtin id) (v::us)) (EP X Ac σ Q) X.xe s
section
variable{X:Cx}{a b:rh}{ta tb:TE}{pos:rP}
theorem IxR.or{r r':R2}(h:IxR X r)(h':IxR X r'):IxR X (λx y H Q=>r x y H Q\/r' x y H Q):=by
 intro value slice Ac s σ H x y v u Q I rx ry q hs;rcases q with q | q
 ·exact h value slice Ac s σ H x y v u Q I rx ry q hs
 ·exact h' value slice Ac s σ H x y v u Q I rx ry q hs
theorem zdM{r:R2}(hr:IxR X r)(ha:PE X a ta)(hb:PE X b tb)(hs:U5 b):PE X (.Subscript a b pos) (tOp r ta tb):=by
 intro Ac s σ H Q I h;exact tT (zeA ha hb I h λv u s2 x y H2 I2 rx ry q=>hr a b Ac s2 σ H2 x y v u Q I2 rx ry q (hs _ _))
def zdj(K:pW):R2:=λx y H Q=>onRef x λp=>onInt y λi=>∃xs,SqL K H p xs/\∃v,atI xs i=tY v/\Q v H
def jl(K:pW):R2:=λx y H Q=>onRef x λp=>onInt y λi=>∃xs,SqT K H p xs/\∃v,atI xs i=tY v/\Q v H
def zbk:R2:=λx y H Q=>onStr x λz=>onInt y λi=>z.length<=pV/\∃c,atI z.cps.toList i=tY c/\Q (.str ⟨#[c]⟩) H
theorem ix_list:IxR X (zdj X.K):=by
 intro value slice Ac s σ H x y v u Q I rx ry h hs;obtain⟨p,rfl,h2⟩:=onRef.of h;obtain⟨i,rfl,xs,hq,z,he,q⟩:=onInt.of h2;cases rx;obtain⟨t,rfl⟩:=ry;obtain⟨its,r,pl,hz⟩:=I.list hq;obtain⟨j,h1,h2,h3,h4,h5⟩:=Zh he;obtain⟨w,ew,rw'⟩:=r.get h2;have hl:=r.length;have hn:=ZV;have fin:EP X Ac σ Q w s:=#[z,H,I,rw',q];by_cases h0:0<=i
 ·have hj:i.toNat=j:=by
   rw[seqIndex_of h0 h5]at h1;exact Option.some.inj h1
  exact item_listR pl.isList h0 ⋯ (by rw[hj];simpa using ew) fin hs
 ·have hj:(i+(its.toArray.size:Int)).toNat=j:=by
   rw[seqIndex_neg ⋯ h4]at h1;rw[aj,<- hl];exact Option.some.inj h1
  exact sL (x:=w) pl.isList.typeIs slot_list_getitem.lookup
   (wpAny_getItem_list_neg (Q:=λr s'=>r=w/\EP X Ac σ Q r s') pl.isList ⋯ (by rw[aj] <;> lia) ⋯ (by rw[hj];simpa using ew) #[rfl,fin]) hs
theorem ix_tup:IxR X (jl X.K):=by
 intro value slice Ac s σ H x y v u Q I rx ry h hs;obtain⟨p,rfl,h2⟩:=onRef.of h;obtain⟨i,rfl,xs,hq,z,he,q⟩:=onInt.of h2;cases rx;obtain⟨t,rfl⟩:=ry;obtain⟨its,r,pl,hz⟩:=I.tuple hq;obtain⟨j,h1,h2,h3,h4,h5⟩:=Zh he;obtain⟨w,ew,rw'⟩:=r.get h2;have hl:=r.length;have hn:=ZV;have fin:EP X Ac σ Q w s:=#[z,H,I,rw',q]
 exact sL (x:=w) pl.typeIs slot_tuple_getitem.lookup
  (getItem_tuple (j:=j) (Q:=λr s'=>r=w/\EP X Ac σ Q r s') pl ⋯ ⋯ (by rw[aj,<- hl];exact h1) (by simpa using ew) #[rfl,fin]) hs
theorem jR:IxR X zbk:=by
 intro value slice Ac s σ H x y v u Q I rx ry h hs;obtain⟨z,rfl,h2⟩:=onStr.of h;obtain⟨i,rfl,hz,c,he,q⟩:=onInt.of h2;obtain⟨t,rfl⟩:=rx;obtain⟨t',rfl⟩:=ry;obtain⟨j,h1,h2,h3,h4,h5⟩:=Zh he;have hl:z.cps.toList.length=z.length:=by simp [Str.length]
 rw[hl]at h1 h4 h5;have hn:=ZV
 exact tail_any (typeIs_str s z t) slot_str_getitem.lookup (getItem_str (c:=c) (by
  have e1:decide (i < -(2 ^ 63:Int))=Ab:=decide_eq_false ⋯;have e2:decide (i ≥ 2 ^ 63)=Ab:=decide_eq_false ⋯
  rw[e1,e2,Bool.or_false]) (by rw[h1];simpa using h2) #[.str ⟨#[c]⟩,H,I.tok _,#[_,rfl],q]) hs
def rIx(K:pW):R2:=λx y H Q=>match x with | .ref p=>onInt y λi=>(∃xs,SqL K H p xs/\∃v,atI xs i=tY v/\Q v H)\/∃xs,SqT K H p xs/\∃v,atI xs i=tY v/\Q v H | .str z=>zbk (.str z) y H Q | _=>False
theorem rIx.of{K:pW}{x y:V}{H:Hp}{Q:VK}(h:rIx K x y H Q):zdj K x y H Q\/jl K x y H Q\/zbk x y H Q:=by
 unfold rIx at h;cases x <;> first | exact .inr (.inr h) | (obtain⟨i,rfl,h⟩:=onInt.of h;exact h.elim .inl λh=>.inr (.inl h)) | exact h.elim
theorem zcE:IxR X (rIx X.K):=λa b Ac s σ H x y v u Q I rx ry h hs=>(ix_list.or (ix_tup.or jR)) a b Ac s σ H x y v u Q I rx ry h.of hs
theorem Inv.lst{Ac:List (pX × rF)}{σ:St}{H:Hp}{s:pZ}{p:pX}{xs:List V}(I:Inv X Ac σ H s)(h:H p=tY (.lst xs)) :
  ∃(its:List pY) (n:Nat),Vals xs its/\s.heap.get? p=tY { cls:=.type "list",data:=.seq its.toArray n }/\xs.length<=pV:=by
 obtain⟨z,its,n,r,e⟩:=I.hok p _ h;exact#[its,n,r,e,z]
theorem Yf(lo hi:Option Int)(n:Nat):(sliceBounds lo hi tZ n).1=((HT.sIx n 0 lo:Nat):Int)/\(sliceBounds lo hi tZ n).2.1=((HT.sIx n n hi:Nat):Int)/\(sliceBounds lo hi tZ n).2.2=1:=by
 refine#[?_,?_,rfl]
 ·cases lo with
  | none=>simp [sliceBounds,HT.sIx]
  | some i =>
   erw[sliceBounds,HT.sIx,dm,show (1:Int) > 0 by decide,if_true]
   by_cases h:i<0
   ·erw[h,if_true] <;> lia
   ·erw[h,if_false] <;> lia
 ·cases hi with
  | none=>simp [sliceBounds,HT.sIx]
  | some i =>
   erw[sliceBounds,HT.sIx,dm,show (1:Int) > 0 by decide,if_true]
   by_cases h:i<0
   ·erw[h,if_true] <;> lia
   ·erw[h,if_false] <;> lia
theorem Zd(its:List pY)(lo hi:Option Int):slicePick its.toArray lo hi tZ=((its.drop (HT.sIx its.length 0 lo)).take (HT.sIx its.length its.length hi - HT.sIx its.length 0 lo)).toArray:=by
 obtain⟨h1,h2,h3⟩:=Yf lo hi its.toArray.size;unfold slicePick;rw[h1,h2,h3]
 erw[sliceRange_one,pick_run,aj] <;> rfl
def zdy(K:pW):V->Option Int->Option Int->Hp->VK->Prop:=λx lo hi H Q=>onRef x λa=>∃xs,SqL K H a xs/\∀p,H p=tZ->Q (.ref p) (upd H p (.lst (K6 xs lo hi)))
theorem QP:SlR X (zdy X.K):=by
 intro Ac s σ H x v vl vu lo hi sl Q I rx hs pl pu h;obtain⟨a,rfl,xs,hx,q⟩:=onRef.of h;cases rx;obtain⟨its,r,ht,hz⟩:=I.list hx;have hlen:=r.length;refine#["list",_,slot_list_getitem.lookup,ht.isList.typeIs,?_];refine wpAny_getItem_list_slice ht.isList hs pl pu .none (by simp) ?_ (by rw[aj] <;> lia);rw[Zd,<- hlen];refine#[.ref s⁻¹,_,I.laid (t':=s.toks) (o:=.lst (K6 xs lo hi)) (λb ob q=>ah _ q) (al _) ?_,rfl,q _ (I.hok.fresh (al _))];exact#[aK (Xd xs lo hi) hz,_,0,(r.drop (HT.sIx xs.length 0 lo)).take (HT.sIx xs.length xs.length hi - HT.sIx xs.length 0 lo),aG _ rfl]
noncomputable def zb3:V->Bool
 | .non=>Aa
 | .bl _=>Aa
 | .int _=>Aa
 | .str _=>Aa
 | _=>Ab
noncomputable def eqV:V->V->Bool
 | .non,.non=>Aa
 | .bl a,.bl b=>a == b
 | .bl a,.int b=>(if a then 1 else 0) == b
 | .int a,.bl b=>a ==(if b then 1 else 0)
 | .int a,.int b=>a == b
 | .str a,.str b=>a == b
 | _,_=>Ab
theorem WA{A:rg}{s:pZ}{y x:V}{u v:pY}(ry:RelV y u)(rx:RelV x v)(fy:zb3 y=Aa)(fx:zb3 x=Aa):SeqAt.EqAt A s u v (eqV y x):=by
 cases y with
 | non =>
  cases ry
  cases x with
  | non=>cases rx;exact SeqAt.EqAt.same _
  | bl b=>cases rx;exact SeqAt.EqAt.none_bool b
  | int b=>obtain⟨t,rfl⟩:=rx;exact SeqAt.EqAt.none_int b t
  | str b=>obtain⟨t,rfl⟩:=rx;exact SeqAt.EqAt.none_str b t
  | _=>exact absurd (show Ab=Aa from fx) az
 | bl a =>
  cases ry
  cases x with
  | non=>cases rx;exact SeqAt.EqAt.bool_none a
  | bl b=>cases rx;exact SeqAt.EqAt.bool_bool a b
  | int b=>obtain⟨t,rfl⟩:=rx;exact SeqAt.EqAt.bool_int a b t
  | str b=>obtain⟨t,rfl⟩:=rx;exact SeqAt.EqAt.bool_str a b t
  | _=>exact absurd (show Ab=Aa from fx) az
 | int a =>
  obtain⟨t',rfl⟩:=ry
  cases x with
  | non=>cases rx;exact SeqAt.EqAt.int_none a t'
  | bl b=>cases rx;exact SeqAt.EqAt.int_bool a t' b
  | int b=>obtain⟨t,rfl⟩:=rx;exact SeqAt.EqAt.int_int a t' b t
  | str b=>obtain⟨t,rfl⟩:=rx;exact SeqAt.EqAt.int_str a t' b t
  | _=>exact absurd (show Ab=Aa from fx) az
 | str a =>
  obtain⟨t',rfl⟩:=ry
  cases x with
  | non=>cases rx;exact SeqAt.EqAt.str_none a t'
  | bl b=>cases rx;exact SeqAt.EqAt.str_bool a t' b
  | int b=>obtain⟨t,rfl⟩:=rx;exact SeqAt.EqAt.str_int a t' b t
  | str b=>obtain⟨t,rfl⟩:=rx;exact SeqAt.EqAt.str_str a t' b t
  | _=>exact absurd (show Ab=Aa from fx) az
 | _=>exact absurd (show Ab=Aa from fy) az
theorem xh:vj X (.type "list") (λxs H Q=>∃p ys,xs=[.ref p]/\(SqL X.K H p ys\/SqT X.K H p ys)/\∀l,H l=tZ->Q (.ref l) (upd H l (.lst ys))):=by
 intro Ac s σ H xs us Q I r h;obtain⟨p,ys,rfl,hq,q⟩:=h;obtain⟨u,rfl,rx⟩:=wg r;cases rx
 have fin:∀(its:List pY),Vals ys its->ys.length<=pV->∀(h':rj) (c':Nat),(∀b o',s.heap.get? b=tY o'->h'.get? b=tY o') ->
   h'.get? s⁻¹=tY { cls:=.type "list",dict:=tZ,data:=.seq its.toArray c',slots:=#[] }->EP X Ac σ Q (.ref s⁻¹) { s with heap:=h' }:=λits r' hz h' c' kp e =>
  #[.ref s⁻¹,_,I.laid (t':=s.toks) kp (al _) (show ObjOk X.prog X.w _ h' _ (.lst ys)from #[hz,its,c',r',e]),rfl,q _ (I.hok.fresh (al _))]
 rcases hq with hq | hq
 ·obtain⟨its,r',pl,hz⟩:=I.list hq;have hlen:=r'.length;obtain⟨o,ho,hc,n,hd⟩:=pl.isList;exact call_list_seq p (.inl rfl) ho hc hd (λh' c' kp e=>fin its r' hz h' c' kp e) (by erw[aj] <;> lia)
 ·obtain⟨its,r',pl,hz⟩:=I.tuple hq;have hlen:=r'.length;obtain⟨o,ho,hc,n,hd⟩:=pl;exact call_list_seq p (.inr rfl) ho hc hd (λh' c' kp e=>fin its r' hz h' c' kp e) (by erw[aj] <;> lia)
def tyV(K:pW)(T:String)(x:V)(H:Hp):Prop:=match x with
 | .str _=>T="str"
 | .int _=>T="int"
 | .ref p=>(T="list"/\∃xs,SqL K H p xs)\/(T="tuple"/\∃o,K.lookup p=tY o/\o.cls=.type "tuple"/\o.dict=tZ) \/
   (T="dict"/\((∃kvs,H p=tY (.dK kvs))\/∃kvs,H p=tY (.dT kvs)))\/(T="set"/\∃S n,H p=tY (.set S n))
 | _=>False
theorem K2{Ac:List (pX × rF)}{σ:St}{H:Hp}{s:pZ}{T:String}{x:V}{v:pY}(I:Inv X Ac σ H s)(r:RelV x v)(ty:tyV X.K T x H) :
  s.TypeIs v T/\∀a,v=.ref a->∃ob,s.heap.get? a=tY ob/\ob.dict=tZ:=by
 cases x with
 | str z =>
  obtain⟨t,rfl⟩:=r;cases (show T="str" from ty);exact#[typeIs_str s z t,λ_ e=>nomatch e]
 | int i =>
  obtain⟨t,rfl⟩:=r;cases (show T="int" from ty);exact#[typeIs_int s i t,λ_ e=>nomatch e]
 | ref p =>
  cases r;rcases ty with ⟨rfl,xs,hq⟩ | ⟨rfl,o,hk,hc,hd⟩ | ⟨rfl,hk⟩ | ⟨rfl,S,n,hk⟩
  ·obtain⟨its,_,pl,_⟩:=I.list hq;refine#[pl.isList.typeIs,λa e=>?_];cases e;obtain⟨o,n,e,c,hd,_⟩:=pl;exact#[o,e,hd]
  ·refine#[#[o,I.kIn p o hk,hc],λa e=>?_];cases e;exact#[o,I.kIn _ o hk,hd]
  ·have z:∃o,s.heap.get? p=tY o/\o.ExactDict:=by
    rcases hk with ⟨kvs,hk⟩ | ⟨kvs,hk⟩
    ·obtain⟨_,_,_,_,o,_,_,e,ex,_⟩:=I.hok p _ hk;exact#[o,e,ex]
    ·obtain⟨_,_,_,_,o,_,_,e,ex,_⟩:=I.hok p _ hk;exact#[o,e,ex]
   obtain⟨o,e,ex⟩:=z;refine#[#[o,e,ex.1],λa e2=>?_];cases e2;exact#[o,e,ex.2.1]
  ·obtain⟨o,_,_,_,e,ex,_⟩:=I.hok p _ hk;refine#[#[o,e,ex.1],λa e2=>?_];cases e2;exact#[o,e,ex.2.1]
 | _=>exact False.elim ty
def zdF(K:pW)(T:String)(r:V->List V->Hp->VK->Prop)(to:TE):TE:=λσ H Q=>to σ H λx H1=>tyV K T x H1/\r x [] H1 Q
def tBM(K:pW)(T:String)(r:V->List V->Hp->VK->Prop)(to:TE)(t:TA):TE:=λσ H Q=>to σ H λx H1=>tyV K T x H1/\t σ H1 λxs H2=>r x xs H2 Q
variable{o e:rh}{es:List rh}{to:TE}{t:TA}{name:re}{apos cpos:rP}{T id:String}{r:V->List V->Hp->VK->Prop}
theorem zcp(pa:PlainAttrs T)(slot:Slot T name id)(hty:typeOf (.builtin id)=pure (.type "method_descriptor"))(hm:MtR X id r)(ho:PE X o to)
  (hbase:attributeBase o name X.env (eval o X.env)=eval o X.env:=by rfl) (hline:(apos.endLine == cpos.line)=Aa:=by rfl):PE X (.Call (.Attribute o name apos) [] [] cpos) (zdF X.K T r to):=by
 intro Ac s σ H Q I h;refine wpAny_Call_method0_late hbase hline (thn (ho Ac s σ H _ I h) λv s1 ⟨x,H1,I1,r1,ty,q1⟩=>?_);obtain⟨h1,h2⟩:=K2 I1 r1 ty;exact#[T,id,pa,slot,hty,h1,h2,Calls.callWith_builtin rfl (PySem.evalArgs_none (hm Ac s1 σ H1 x [] v [] Q I1 r1 .nil q1))]
theorem vq(pa:PlainAttrs T)(slot:Slot T name id)(hty:typeOf (.builtin id)=pure (.type "method_descriptor"))(hm:MtR X id r)(ho:PE X o to)(ha:PA X (e::es) t)
  (hbase:attributeBase o name X.env (eval o X.env)=eval o X.env:=by rfl)
  (hfew:((rA cpos (pT (e::es) X.env)).all (λx=>!x.1) && (rJ cpos (rq [] X.env)).all (λx=>x.1.isSome)
   && decide ((e::es).length+([]:List tP).length+(if ([]:List tP).isEmpty then 0 else 1)<30))=Aa:=by rfl)
  (hline:(apos.endLine == cpos.line)=Aa:=by rfl) (hs:pT (e::es) X.env=(Ab,eval e X.env)::pT es X.env:=by rfl) (hplain:(rA cpos (pT es X.env)).any (·.1)=Ab:=by rfl) :
  PE X (.Call (.Attribute o name apos) (e::es) [] cpos) (tBM X.K T r to t):=by
 intro Ac s σ H Q I h;refine wpAny_Call_method_late hbase hfew hline rfl (thn (ho Ac s σ H _ I h) λv s1 ⟨x,H1,I1,r1,ty,q1⟩=>?_);obtain⟨h1,h2⟩:=K2 I1 r1 ty;refine#[T,id,pa,slot,hty,h1,h2,?_];have hA:=ha cpos Ac s1 σ H1 _ I1 q1;rw[hs]at hA ⊢;refine Calls.callWith_builtin (by show (Ab || (rA cpos (pT es X.env)).any (·.1))=Ab;rw[hplain] <;> rfl) (Calls.evalArgs_plain ?_);exact thn hA λus s2 ⟨vs,H2,I2,r2,q2⟩=>hm Ac s2 σ H2 x vs v us Q I2 r1 r2 q2
/- xs.append(e),list.index on a module's tuple .. are MtR facts of 06m -/
end
def MtM(X:Cx)(id:String)(r:V->List V->Hp->VK->Prop):Prop :=
 ∀(Ac:List (pX × rF)) (s:pZ) (σ:St) (H:Hp) (x:V) (xs:List V) (v:pY) (us:List pY) (Q:VK),Inv X Ac σ H s->RelV x v->Vals xs us->r x xs H Q ->
  rd (model X.prog X.w) X.A (call (.builtin id) (v::us)) (EP X Ac σ Q) X.xe s
theorem Vals.one:∀{x:V} {us:List pY},Vals [x] us->∃u,us=[u]/\RelV x u
 | _,_,.cons r .nil=>#[_,rfl,r]
theorem Vals.two:∀{x y:V} {us:List pY},Vals [x,y] us->∃u v,us=[u,v]/\RelV x u/\RelV y v
 | _,_,_,.cons r (.cons q .nil)=>#[_,_,rfl,r,q]
theorem Vals.zero:∀{us:List pY},Vals [] us->us=[]
 | _,.nil=>rfl
theorem Vals.dropLast{xs:List V}{us:List pY}(h:Vals xs us):Vals xs.dropLast us.dropLast:=by
 induction h with
 | nil=>exact .nil
 | cons r t ih =>
  cases t with
  | nil=>exact .nil
  | cons q t'=>exact .cons r ih
theorem Vals.eraseIdx:∀{xs:List V} {us:List pY} (i:Nat),Vals xs us->Vals (xs.eraseIdx i) (us.eraseIdx i)
 | _,_,_,.nil=>.nil
 | _,_,0,.cons _ t=>t
 | _,_,i+1,.cons r t=>.cons r (Vals.eraseIdx i t)
theorem Vals.reverse{xs:List V}{us:List pY}(h:Vals xs us):Vals xs.reverse us.reverse:=by
 induction h with
 | nil=>exact .nil
 | cons r t ih=>rw[List.reverse_cons,List.reverse_cons];exact Vals.append ih (.cons r .nil)
theorem WQ{α:Type}(l:List α):l.eraseIdx (l.length - 1)=l.dropLast:=by
 induction l with
 | nil=>rfl
 | cons a r ih =>
  cases r with
  | nil=>rfl
  | cons b r =>
   have e:(a::b::r).length - 1=((b::r).length - 1)+1:=by
    have h1:(a::b::r).length=r.length+2:=rfl;have h2:(b::r).length=r.length+1:=rfl;lia
   rw[e,ce,ih]
   all_goals rfl
theorem Z7{α:Type}:∀(l:List α) (i:Nat),(l.eraseIdx i).length<=l.length
 | [],_=>al _
 | _::_,0=>cj _
 | _::r,i+1=>Nat.succ_le_succ (Z7 r i)
section
variable{X:Cx}{Ac:List (pX × rF)}{σ:St}{H:Hp}{s:pZ}{l b:pX}{xs ys zs:List V}
theorem Inv.lset{its its':List pY}{n:Nat}{f:Array pY->Array pY}{t':Nat}(I:Inv X Ac σ H s)(hH:H l=tY (.lst xs))
  (e:s.heap.get? l=tY { cls:=.type "list",data:=.seq its.toArray n }) (hf:f its.toArray=its'.toArray) (hv:Vals ys its') (hz:ys.length<=pV) :
  Inv X Ac σ (upd H l (.lst ys)) { s with heap:=s.heap.update l (Obj.mapSeq f),toks:=t' }:=by
 have q:=PySem.IsL.update e f;rw[hf]at q;refine I.write (x:=l) (e:=l) (by rw[hH];exact trivial) (.inl rfl) (λb' u hb hu=>(aE s.heap (Obj.mapSeq f) (Ne.symm hb)).trans hu) #[_,q] ?_;exact#[hz,its',_,hv,q]
theorem Inv.lnew{its:List pY}{t':Nat}(I:Inv X Ac σ H s)(hv:Vals ys its)(hz:ys.length<=pV) :
  Inv X Ac σ (upd H s⁻¹ (.lst ys)) { s with heap:=s.heap.push { cls:=.type "list",data:=.seq its.toArray },toks:=t' } :=
 I.laid (λ_ _ q=>ah _ q) (al _) #[hz,its,0,hv,aG _ rfl]
theorem Inv.fresh(I:Inv X Ac σ H s):H s⁻¹=tZ:=I.hok.fresh (al _)
theorem Inv.lstM(I:Inv X Ac σ H s)(hH:H l=tY (.lst xs)):xs.length<=pV/\∃(its:List pY) (n:Nat),Vals xs its/\xs.length=its.length/\s.heap.get? l=tY { cls:=.type "list",data:=.seq its.toArray n }:=by
 obtain⟨z,its,n,r,e⟩:=I.hok l _ hH;exact#[z,its,n,r,r.length,e]
theorem Jt{n:Nat}(h:n<=pV):Builtin.List.listTooLong n=Ab:=by
 unfold Builtin.List.listTooLong;exact decide_eq_false ⋯
end
section
variable{X:Cx}
def Qi:V->List V->Hp->VK->Prop:=λx vs H Q=>onRef x λl=>match vs with | [y]=>∃xs,H l=tY (.lst xs)/\xs.length<pV/\Q .non (upd H l (.lst (xs ++ [y]))) | _=>False
theorem yO:MtM X "list.append" Qi:=by
 intro Ac s σ H x vs v us Q I rx rv h;obtain⟨l,rfl,h2⟩:=onRef.of h
 obtain⟨y,rfl,xs,hH,hz,q⟩:∃y,vs=[y]/\∃xs,H l=tY (.lst xs)/\xs.length<pV/\Q .non (upd H l (.lst (xs ++ [y]))):=by
  split at h2
  ·exact#[_,rfl,h2]
  ·exact h2.elim
 cases rx;obtain⟨u,rfl,ru⟩:=rv.one;obtain⟨z,its,n,r,hl,e⟩:=I.lstM hH;refine call_meets F.slot_list_append #[_,e,rfl] F.entry_list_append (F.args_list_append_2 _ _) (PySem.list_append l its.toArray n u (by rw[aj];lia)) #[e,?_];refine#[.non,_,I.lset (its':=its ++ [u]) hH e (by simp) (r.append (.cons ru .nil)) ?_,rfl,q];rw[ak,e7];lia
def Qp:V->List V->Hp->VK->Prop:=λx vs H Q=>∃l b xs zs,x=.ref l/\vs=[.ref b]/\H l=tY (.lst xs)/\H b=tY (.lst zs)/\xs.length+zs.length<=pV/\Q .non (upd H l (.lst (xs ++ zs)))
theorem Qu:MtM X "list.extend" Qp:=by
 intro Ac s σ H x vs v us Q I rx rv h;obtain⟨l,b,xs,zs,rfl,rfl,hH,hB,hz,q⟩:=h;cases rx;obtain⟨u,rfl,ru⟩:=rv.one;cases ru;obtain⟨z,its,n,r,hl,e⟩:=I.lstM hH;obtain⟨z2,its2,n2,r2,hl2,e2⟩:=I.lstM hB;have hsz:its.toArray.size+its2.toArray.size<=pV:=by rw[aj,aj];lia
 have hlong:¬ (!its.toArray.isEmpty && Builtin.List.listTooLong (its.toArray.size+its2.toArray.size))=Aa:=by
  rw[Jt hsz,e8];exact az
 refine call_meets F.slot_list_extend #[_,e,rfl] F.entry_list_extend (F.args_list_extend_2 _ _)
  (AutoSeq1.list_extend_list_list_0 l its.toArray n b its2.toArray n2 hlong (by rw[aj];lia) ⋯) #[e,e2,?_]
 refine#[.non,_,I.lset (its':=its ++ its2) hH e (by simp) (r.append r2) ?_,rfl,q];rw[ak];lia
def zfm:V->List V->Hp->VK->Prop:=λx vs H Q=>∃l xs y,x=.ref l/\vs=[]/\H l=tY (.lst xs)/\xs[xs.length - 1]? = tY y/\Q y (upd H l (.lst xs.dropLast))
theorem zeU:MtM X "list.pop" zfm:=by
 intro Ac s σ H x vs v us Q I rx rv h;obtain⟨l,xs,y,rfl,rfl,hH,hy,q⟩:=h;cases rx;have hus:=rv.zero;subst hus;obtain⟨z,its,n,r,hl,e⟩:=I.lstM hH;obtain⟨u,hu,ru⟩:=r.get hy
 have hy':its.toArray[its.toArray.size - 1]? = tY u:=by
  show its.toArray[its.length - 1]? = tY u;rw[<- e9,<- hl];exact hu
 refine call_meets F.slot_list_pop #[_,e,rfl] F.entry_list_pop (F.args_list_pop_1 _) (MeetsSeq.list_pop_last l its.toArray n u hy' (by rw[aj];lia)) #[e,?_];refine#[y,_,I.lset (its':=its.dropLast) hH e ?_ r.dropLast ?_,ru,q]
 ·show its.toArray.eraseIdxIfInBounds (its.toArray.size - 1)=its.dropLast.toArray;rw[aj,dw,WQ]
 ·rw[List.length_dropLast];lia
def zcl:V->List V->Hp->VK->Prop:=λx vs H Q=>∃l xs i k y,x=.ref l/\vs=[.int i]/\H l=tY (.lst xs)/\-(2 ^ 63)<=i/\i<2 ^ 63/\seqIndex? i xs.length=tY k/\xs[k]? = tY y/\Q y (upd H l (.lst (xs.eraseIdx k)))
theorem JK:MtM X "list.pop" zcl:=by
 intro Ac s σ H x vs v us Q I rx rv h;obtain⟨l,xs,i,k,y,rfl,rfl,hH,h1,h2,hk,hy,q⟩:=h;cases rx;obtain⟨u,rfl,ru⟩:=rv.one;obtain⟨t,rfl⟩:=ru;obtain⟨z,its,n,r,hl,e⟩:=I.lstM hH;obtain⟨w,hw,rw'⟩:=r.get hy
 refine call_meets F.slot_list_pop #[_,e,rfl] F.entry_list_pop (F.args_list_pop_2 _ _)
  (MeetsSeq.list_pop_at l its.toArray n i t k w (fitsIndex_both h1 h2) (by rw[aj,<- hl];exact hk) (by rw[<- e9];exact hw) (by rw[aj];lia)) #[e,?_]
 refine#[y,_,I.lset (its':=its.eraseIdx k) hH e ?_ (r.eraseIdx k) ?_,rw',q]
 ·show its.toArray.eraseIdxIfInBounds k=(its.eraseIdx k).toArray;rw[dw]
 ·have:=Z7 xs k;lia
def WK:V->List V->Hp->VK->Prop:=λx vs H Q=>∃l xs,x=.ref l/\vs=[]/\H l=tY (.lst xs)/\Q .non (upd H l (.lst xs.reverse))
theorem Vb:MtM X "list.reverse" WK:=by
 intro Ac s σ H x vs v us Q I rx rv h;obtain⟨l,xs,rfl,rfl,hH,q⟩:=h;cases rx;have hus:=rv.zero;subst hus;obtain⟨z,its,n,r,hl,e⟩:=I.lstM hH;refine call_meets F.slot_list_reverse #[_,e,rfl] F.entry_list_reverse (F.args_list_reverse_1 _) (AutoSeq1.list_reverse_list_0 l its.toArray n (by rw[aj];lia)) #[e,?_];refine#[.non,_,I.lset (its':=its.reverse) hH e (by simp) r.reverse ?_,rfl,q];rw[cE];lia
def zbZ:R2:=λx y H Q=>onRef x λl=>onRef y λb=>∃xs,H l=tY (.lst xs)/\∃zs,H b=tY (.lst zs)/\xs.length+zs.length<=pV/\∀p,H p=tZ->Q (.ref p) (upd H p (.lst (xs ++ zs)))
theorem Wt:OpR X (binaryOp .Add) zbZ:=by
 intro Ac s σ H x y v u Q I rx ry h;obtain⟨l,rfl,h2⟩:=onRef.of h;obtain⟨b,rfl,xs,hH,zs,hB,hz,q⟩:=onRef.of h2;cases rx;cases ry;obtain⟨z,its,n,r,hl,e⟩:=I.lstM hH;obtain⟨z2,its2,n2,r2,hl2,e2⟩:=I.lstM hB;refine PySem.P.add_list e e2 ?_ (by rw[aj,aj];lia);have ea:its.toArray ++ its2.toArray=(its ++ its2).toArray:=by simp
 rw[ea];exact#[.ref _,_,I.lnew (t':=s.toks) (r.append r2) (by rw[ak];lia),rfl,q _ I.fresh]
theorem len_rep{α:Type}(xs:List α)(k:Nat):(aT k xs).flatten.length=k * xs.length:=by
 induction k with
 | zero=>simp
 | succ k ih=>rw[cf,List.flatten_cons,ak,ih,eC,Nat.add_comm]
end
section
variable{prog:rb}{w:rf}{A:rg}{E:pY->pZ->Prop}{s:pZ}
end
section
variable{X:Cx}
end
end L2
namespace Att
open PySem PySem.W PySem.Calls PyProof.Rows
theorem ji{P:Params}{h:rj}:∀(ns:List Int) (vs:List pY),WellAll P h vs (ns.map WData.int)->tQ vs ns:=by
 intro ns
 induction ns with
 | nil =>
  intro vs w;rw[aM]at w;cases w;exact .nil
 | cons n ns ih =>
  intro vs w;rw[ao]at w
  cases w with
  | cons a b =>
   cases a;exact .cons _ _ (ih _ b)
theorem script_of{l:OpenLaw}{n:Nat}(hn:l.most=tY n){P:Params}{h:rj}{args:List WData}{vals:List pY}
  (hpre:l.row.toRowW.claim.pre args=Aa) (hwl:WellAll P h vals args) :
  ∃a vs ns,vals=[Value.ref a]/\args=[WData.list (ns.map WData.int)]/\h.get? a=tY { cls:=.type "list",data:=.seq vs.toArray }/\tQ vs ns/\ns.length<=n:=by
 have hsh:WShape.hasAll [] args [.list .int]=Aa:=(pre_splitW hpre).1;have hc:l.pre.holds [] { args:=args }=Aa:=(pre_splitW hpre).2;obtain⟨d,r,rfl,h1,h2⟩:=hasAllW_cons hsh;obtain rfl:=hasAllW_nil h2;obtain⟨xs,rfl,h3⟩:=hasW_list h1;obtain⟨ns,rfl⟩:=items_int h3
 have hlen:ns.length<=n:=by
  unfold OpenLaw.pre at hc
  have h4:(WTm.not (.lt (.lit (.int (n:Int))) (.len (.arg 0)))).holds [] { args:=[.list (ns.map .int)] }=Aa:=by
   have h4:=(holds_andW hc).1;rw[hn]at h4;exact h4
  have h5:=condW_of h4 (w_not (w_lt w_lit (w_len_list (w_arg rfl))));rw[ac]at h5;refine cN λq=>?_;have q':(n:Int)<((ns.length:Nat):Int):=⋯
  first
   | (rw[decide_eq_true q']at h5;exact absurd h5 ∅)
   | (simp at h5;lia)
 cases hwl with
 | cons w1 w2 =>
  cases w2
  cases w1 with
  | list ho hall=>exact#[_,_,ns,rfl,rfl,ho,ji ns _ hall,hlen]
theorem post_true(l:OpenLaw)(args:List WData):l.row.toRowW.claim.post args (.bool Aa) args=Aa :=
 postW_of (r:=l.row.toRowW) (X:=(Aa == Aa))
  (show WShape.has [] (.bool Aa) .bool=Aa by first | rfl | decide | simp [WShape.has,WShape.arms,WShape.armsAll])
  (show (WTm.eq .res (.lit (.bool Aa))).value [] { args:=args,res:=tY (.bool Aa),after:=args }=tY (.bool (Aa == Aa))from w_eq_bool (w_res rfl) w_lit) rfl
section
variable{prog:rb}{w:rf}{A:rg}{E:pY->pZ->Prop}{s:pZ}{K:Frag}
noncomputable def zfb(h:rj)(L d:pX):List (pX × rF):=(aH h.objs.size).filterMap λa=>if a=L\/a=d then tZ else (h.get? a).map λo=>(a,o)
end
end Att
namespace L2
theorem ZS:∀{vs:List pY} {ns:List Int},tQ vs ns->Vals (ns.map V.int) vs
 | _,_,.nil=>.nil
 | _,_,.cons n t h=>.cons #[t,rfl] (ZS h)
noncomputable def yv(s:rn)(j:Nat):rn:=match s with
 | .ClassDef _ _ _ body _ _ _ _ _ _ _=>body.getD j (.Pass #[0,0,0,0])
 | _=>.Pass #[0,0,0,0]
noncomputable def yI(s:rn):si:=match s with
 | .FunctionDef _ a _ _ _ _ _ _ _ _=>a
 | _=>{ posonlyargs:=[],args:=[],vararg:=tZ,kwonlyargs:=[],kw_defaults:=[],kwarg:=tZ,defaults:=[] }
noncomputable def ya(s:rn):List rn:=match s with
 | .FunctionDef _ _ b _ _ _ _ _ _ _=>b
 | _=>[]
noncomputable def zh(s:rn):rL:=match s with
 | .FunctionDef _ _ _ _ _ _ sc _ _ _=>sc
 | _=>{ kind:=.function,names:=[],isGenerator:=Ab,isCoroutine:=Ab }
abbrev CX0:CXT:=λ_ _ _ _ _ _=>False
noncomputable abbrev E0:XK:=λ_ _ _=>False
theorem W8{X:Cx}:uD CX0 X E0:=λ_ _ _ _ _ _ _ h=>h.elim
structure Fun(K:pW)(x qual:re)(st:rn)(f:pX)(fd:ra):Prop where
 ex:∃(oc:pY) (od:Option pX) (kV doc pm:pY) (an:Option pX) (cdv ct:pY) (osl:Array (Option pY)),
  fd=bp x qual (yI st) (ya st) (zh st) .none kV doc pm an cdv ct/\K.lookup f=tY #[oc,od,.func fd,osl]/\bJ K cdv qual=Aa
 kp:aJ K (.ref f)=Aa
section
variable{P:rb}{w:rf}{K:pW}{mg:re->Option pY}{base:rj}
theorem Fun.ok{x qual:re}{st:rn}{f:pX}{fd:ra}{N ps:List re}{k:Nat}{sp:Sp}(F:Fun K x qual st f fd)(S:zl N ps (zh st))(len:∀vs H Q E,sp vs H Q E->vs.length=ps.length)
  (hbody:∀(cdv:pY) (A:rg) (outer:List sN) (s:pZ) (H:Hp) (vs:List V) (Q:VK) (E:XK),Room k (A.deeper (sw qual (zh st) s⁻¹ f cdv))->sp vs H Q E ->
   ∃t,PSs (uT CX0 P w K mg base N qual (zh st) f cdv A outer s H E).nox (ya st) t/\t { nx:=λ_ H'=>Q .non H',rt:=Q } (start N vs) H):zR P w K mg base CX0 (k+1) f fd ps sp:=by
 obtain⟨oc,od,kV,doc,pm,an,cdv,ct,osl,rfl,lk,hcd⟩:=F.ex;refine JJ lk hcd S len λA outer s H vs Q E hr hsp=>?_;obtain⟨t,h,q⟩:=hbody cdv A outer s H vs Q E hr hsp;exact#[t,h.nox,q]
theorem Fun.binds{x qual:re}{st:rn}{f:pX}{fd:ra}{ps:List re}(F:Fun K x qual st f fd)
  (h:∀(kV doc pm:pY) (an:Option pX) (cdv ct:pY) (us:List pY),us.length=ps.length->bindArgs (bp x qual (yI st) (ya st) (zh st) .none kV doc pm an cdv ct) #[us,[]]=pure (ps.zip us)):Binds K fd ps []:=by
 obtain⟨oc,od,kV,doc,pm,an,cdv,ct,osl,rfl,lk,hcd⟩:=F.ex;exact .all (h kV doc pm an cdv ct)
theorem fun_mk{x qual:re}{st:rn}{f:pX}{oc:pY}{od an:Option pX}{osl:Array (Option pY)}{kV doc pm cdv ct:pY}(l:K.lookup f=tY #[oc,od,.func (bp x qual (yI st) (ya st) (zh st) .none kV doc pm an cdv ct),osl])
  (c:bJ K cdv qual=Aa) (k:aJ K (.ref f)=Aa):Fun K x qual st f (bp x qual (yI st) (ya st) (zh st) .none kV doc pm an cdv ct):=#[#[oc,od,kV,doc,pm,an,cdv,ct,osl,rfl,l,c],k]
end
section
variable{X:Cx}
theorem pv(i:Nat){x:re}{pos:rP}(hN:X.N[i]? = tY x:=by rfl)(hv:Vis X.env.scope x:=by first | exact Or.inl rfl | exact Or.inr (.inl rfl) | exact Or.inr (Or.inr rfl))(hd:(x ==("__debug__" : re))=Ab:=by decide)
  (hcd:(x ==("__classdict__" : re))=Ab:=by decide):PE X (.Name x pos) (yt i):=zb5 hN hv hd hcd
end
theorem zdR{A B:Prop}(h:A):if Aa=Aa then A else B:=by
 rw[if_pos rfl];exact h
theorem yo{c A B:Prop}[Decidable c](h1:c->A)(h2:¬ c->B):if c then A else B:=by
 by_cases h:c
 ·rw[if_pos h];exact h1 h
 ·rw[if_neg h];exact h2 h
def Same(H H':Hp):Prop:=∀b o,H b=tY o->H' b=tY o
theorem Same.refl(H:Hp):Same H H:=λ_ _ h=>h
theorem Same.trans{H H1 H2:Hp}(a:Same H H1)(b:Same H1 H2):Same H H2:=λc o h=>b c o (a c o h)
theorem Same.free{H H':Hp}(e:Same H H'){l:pX}(h:H' l=Option.none):H l=Option.none:=by
 cases q:H l with
 | none=>rfl
 | some o =>
  rw[e l o q]at h;cases h
theorem Same.seq{K:pW}{H H':Hp}{a:pX}{xs:List V}(e:Same H H')(h:SqL K H a xs):SqL K H' a xs:=by
 rcases h with (h | ⟨o,h⟩) | h
 ·exact .inl (.inl (e _ _ h))
 ·exact .inl (.inr #[o,e _ _ h])
 ·exact .inr h
end L2
open L2
namespace L3
noncomputable abbrev St:=L2.St
noncomputable abbrev cs(x:re):():=x.cps.toList
noncomputable abbrev tx(l:()):re:=⟨l.toArray⟩
theorem zcV(x:re):tx (cs x)=x:=by cases x;rfl
theorem YO(l:()):cs (tx l)=l:=rfl
theorem Wp(x:re):x.length=(cs x).length:=by simp [Str.length,cs]
theorem zX(l:()):(tx l).length=l.length:=by simp [Str.length,tx]
theorem Ya{x y:re}(h:cs x=cs y):x=y:=by rw[<- zcV x,<- zcV y,h]
theorem vM{l m:()}(h:tx l=tx m):l=m:=by rw[<- YO l,<- YO m,h]
theorem zcw{l m:()}:tx l=tx m ↔ l=m:=#[vM,λh=>by rw[h]]
theorem qS(l m:()):tx l ++ tx m=tx (l ++ m):=by
 apply Ya;show (tx l ++ tx m).cps.toList=l ++ m;rw[Str.cps_append];simp
noncomputable def cut{α:Type}(l:List α)(lo hi:Option Int):List α:=(l.drop (HT.sIx l.length 0 lo)).take (HT.sIx l.length l.length hi - HT.sIx l.length 0 lo)
theorem wm{α:Type}(l:List α)(lo hi:Option Int):(cut l lo hi).length<=l.length:=by
 unfold cut;rw[aI,bg];lia
theorem Qs(a b:Nat):sliceRange (a:Int) (b:Int) 1=(aH (b - a)).map (λk=>a+k):=by
 unfold sliceRange
 have e:(if (1:Int) > 0 then (if (a:Int)<b then ((b:Int) - a+1 - 1) / 1 else 0)else (if (a:Int) > b then ((a:Int) - b - 1 - 1) / (-1)else 0)).toNat=b - a:=by
  rw[if_pos ∅];by_cases h:(a:Int)<b
  ·rw[if_pos h,Int.ediv_one];lia
  ·rw[if_neg h];lia
 show (aH ((if (1:Int) > 0 then (if (a:Int)<b then ((b:Int) - a+1 - 1) / 1 else 0)else (if (a:Int) > b then ((a:Int) - b - 1 - 1) / (-1)else 0)).toNat)).map _=_;rw[e];refine bt λk _=>?_;lia
theorem zbf(lo hi:Option Int)(n:Nat):Builtin.Str.strSliceIndices lo hi 1 n=(aH (HT.sIx n n hi - HT.sIx n 0 lo)).map (λk=>HT.sIx n 0 lo+k):=by
 rw[<- Qs]
 have clip:∀(v:Int) (d:Nat),max 0 (min (if v<0 then v+(n:Int)else v) (n:Int))=((HT.sIx n d (tY v):Nat):Int):=λv d=>by
  show _=(((if v<0 then (v+(n:Int)).toNat else min v.toNat n):Nat):Int);by_cases hv:v<0
  ·erw[if_pos hv];lia
  ·erw[if_neg hv];lia
 have h1:((1:Int) > 0)=True:=by simp
 unfold Builtin.Str.strSliceIndices
 cases lo with
 | none =>
  cases hi with
  | none=>erw[h1,if_true];rfl
  | some j=>erw[h1,if_true,clip j n];rfl
 | some i =>
  cases hi with
  | none=>erw[h1,if_true,clip i 0];rfl
  | some j=>erw[h1,if_true,clip i 0,clip j n]
theorem Uj(x:re)(lo hi:Option Int):Txt.slice x lo hi=tx (cut (cs x) lo hi):=by
 have hn:x.length=x.cps.toList.length:=Wp x;have hj:HT.sIx x.length x.length hi<=x.length:=HT.sIx_le _ _ (al _) hi;have hi0:HT.sIx x.length 0 lo<=x.length:=HT.sIx_le _ _ (aD _) lo;unfold Txt.slice;rw[zbf];split
 ·rename_i h;have h':HT.sIx x.length x.length hi - HT.sIx x.length 0 lo=x.length:=by simpa using h
  apply Ya;show x.cps.toList=cut x.cps.toList lo hi;unfold cut;rw[<- hn];by_cases z:x.length=0
  ·have:x.cps.toList=[]:=dI ⋯;rw[this];simp
  ·have e0:HT.sIx x.length 0 lo=0:=⋯;rw[e0]at h' ⊢;rw[h',dW,hn,aO]
 ·apply Ya;have h:=StrLaws.picks x.cps.toList (HT.sIx x.length x.length hi - HT.sIx x.length 0 lo) (HT.sIx x.length 0 lo) ⋯;show (List.filterMap (λk=>x.cps[k]?) _).toArray.toList=cut x.cps.toList lo hi;unfold cut;rw[<- hn];simpa using h
section
variable{X:Cx}
theorem UE{v:pY}{o:Option Int}(p:IsPart v o):∃l:Option (Int × tu),v=partValue l/\l.map (·.1)=o:=by
 cases p with
 | none=>exact#[tZ,rfl,rfl]
 | int i t=>exact#[tY (i,t),rfl,rfl]
def zcS:V->Option Int->Option Int->Hp->VK->Prop:=λx lo hi H Q=>onStr x λz=>z.length<=pV/\Q (.str (tx (cut (cs z) lo hi))) H
theorem wa:SlR X zcS:=by
 intro Ac s σ H x v vl vu lo hi sl Q I rx hs pl pu h;obtain⟨z,rfl,hz,q⟩:=onStr.of h;obtain⟨t,rfl⟩:=rx;obtain⟨l,rfl,el⟩:=UE pl;obtain⟨u,rfl,eu⟩:=UE pu;refine#["str",_,slot_str_getitem.lookup,typeIs_str s z t,?_];refine sH (l:=l) (u:=u) (st:=tZ) hs rfl ?_;have e:Txt.slice z lo hi=tx (cut (cs z) lo hi):=Uj z lo hi;have hl:(tx (cut (cs z) lo hi)).length<=pV:=by rw[zX];have:=wm (cs z) lo hi;rw[<- Wp]at this;lia
 unfold sliceMade slicePicked;rw[el,eu];unfold Txt.slice at e;by_cases hc:((1:Int) == 1 && (Builtin.Str.strSliceIndices lo hi 1 z.length).length == z.length)=Aa
 ·rw[if_pos hc]at e;have hc':(((tZ:Option (Int × tu)).map (·.1)).getD 1 == 1 && (Builtin.Str.strSliceIndices lo hi (((tZ:Option (Int × tu)).map (·.1)).getD 1) z.length).length == z.length)=Aa:=hc;rw[if_pos hc'];exact#[.str (tx (cut (cs z) lo hi)),H,I,#[t,by rw[<- e]],q]
 ·rw[if_neg hc]at e;have hc':¬ (((tZ:Option (Int × tu)).map (·.1)).getD 1 == 1 && (Builtin.Str.strSliceIndices lo hi (((tZ:Option (Int × tu)).map (·.1)).getD 1) z.length).length == z.length)=Aa:=hc;rw[if_neg hc'];show (Str.mk ((Builtin.Str.strSliceIndices lo hi 1 z.length).filterMap (z.cps[·]?)).toArray).length<=pV/\_;rw[e];refine#[hl,?_]
  exact#[.str (tx (cut (cs z) lo hi)),H,I.tok _,#[_,by
   show Value.str (Str.mk ((Builtin.Str.strSliceIndices lo hi 1 z.length).filterMap (z.cps[·]?)).toArray) _=_
   rw[e]],q]
theorem Xx(l:()):∀(k:Nat) (Ae:Array Nat),((aT k l.toArray).foldl (· ++ ·) Ae).toList=Ae.toList ++ (aT k l).flatten
 | 0,Ae=>by simp
 | k+1,Ae=>by
  rw[cf,dA,Xx l k,cf,List.flatten_cons];simp
theorem WX:OpR X (binaryOp .Mult) (λx y H Q=>∃z n,x=.str z/\y=.int n/\0<=n/\n<=1000/\z.length<=1000/\Q (.str (tx (aT n.toNat (cs z)).flatten)) H):=by
 intro Ac s σ H x y v u Q I rx ry h;obtain⟨z,n,rfl,rfl,h0,h1,hz,q⟩:=h;obtain⟨t,rfl⟩:=rx;obtain⟨t',rfl⟩:=ry;have hs:pV=16777216:=rE;have hmul:z.length * n.toNat<=1000 * 1000:=df hz ⋯;have fl:((aT n.toNat (cs z)).flatten).length=n.toNat * z.length:=by rw[L2.len_rep,<- Wp]
 refine PySem.P.mul_str ?_ (λ_ _=>?_) (λ_ _=>?_) ?_
 ·rw[decide_eq_false ⋯,decide_eq_false ⋯];rfl
 ·have:(1000:Int)<=(2 ^ 63 - 1) / n:=by
   apply Int.le_ediv_of_mul_le ⋯;lia
  lia
 ·unfold Builtin.Str.tooLong;exact decide_eq_false ⋯
 ·by_cases c1:n<1
  ·rw[if_pos c1];have e:n.toNat=0:=⋯;rw[e]at q;exact#[∅,.str (tx []),H,I.tok _,#[_,rfl],q]
  ·rw[if_neg c1];by_cases c2:(n == 1 || z.length == 0)=Aa
   ·rw[if_pos c2]
    have e:tx (aT n.toNat (cs z)).flatten=z:=by
     rw[Bool.or_eq_true]at c2;rcases c2 with c | c
     ·have:n.toNat=1:=by have:=eq_of_beq c;lia
      rw[this]
      erw[List.replicate_one,List.flatten_singleton]
     ·have c0:z.length=0:=eq_of_beq c;have:cs z=[]:=dI (by rw[<- Wp];exact c0);apply Ya;rw[this];show (aT n.toNat ([]:())).flatten=[]
      erw[List.flatten_replicate_nil]
    rw[e]at q;exact#[.str z,H,I,#[_,rfl],q]
   ·rw[if_neg c2]
    have e:(⟨(aT n.toNat z.cps).foldl (· ++ ·) #[]⟩:re)=tx (aT n.toNat (cs z)).flatten:=by
     apply Ya;have:=Xx (cs z) n.toNat #[];have e2:(cs z).toArray=z.cps:=by cases z;rfl
     rw[e2]at this;show (List.foldl (· ++ ·) #[] (aT n.toNat z.cps)).toList=(aT n.toNat (cs z)).flatten;rw[this];rfl
    rw[e];refine#[by rw[zX,fl,Nat.mul_comm];lia,.str _,H,I.tok _,#[_,rfl],q]
theorem UC:OpR X (rp .LtE) (λx y H Q=>∃i j,x=.str i/\y=.str j/\Q (.bl (!(decide (cs j<cs i)))) H):=by
 intro Ac s σ H x y v u Q I rx ry h;obtain⟨i,j,rfl,rfl,q⟩:=h;obtain⟨t,rfl⟩:=rx;obtain⟨t',rfl⟩:=ry;exact PySem.P.le_str #[.bl _,H,I,rfl,q]
theorem op_lt_str':OpR X (rp .Lt) (λx y H Q=>∃i j,x=.str i/\y=.str j/\Q (.bl (decide (cs i<cs j))) H):=Vy
theorem J7:MtR X "str.count" (λx xs H Q=>∃z y,x=.str z/\xs=[.str y]/\Q (.int (Txt.count z y)) H):=by
 intro Ac s σ H x xs v us Q I rx rv h;obtain⟨z,y,rfl,rfl,q⟩:=h;obtain⟨t,rfl⟩:=rx;obtain⟨u,rfl,t',rfl⟩:=wg rv;exact PySem.SC.count #[.int _,H,I.tok _,#[_,rfl],q]
theorem zaR:MtR X "str.find" (λx xs H Q=>∃z y,x=.str z/\xs=[.str y]/\Q (.int (Txt.find z y)) H):=by
 intro Ac s σ H x xs v us Q I rx rv h;obtain⟨z,y,rfl,rfl,q⟩:=h;obtain⟨t,rfl⟩:=rx;obtain⟨u,rfl,t',rfl⟩:=wg rv;exact PySem.SC.find #[.int _,H,I.tok _,#[_,rfl],q]
end
section
variable{X:Cx}{Ac:List (pX × rF)}{σ:St}{H:Hp}{s:pZ}{fp:List pX}{h':rj}{t':Nat}
theorem Inv.turns(I:Inv X Ac σ H s)(k:∀b o,b ∉ fp->s.heap.get? b=tY o->h'.get? b=tY o)(hf:∀b ∈ fp,xU X Ac H b):Inv X Ac σ H { s with heap:=h',toks:=t' }:=by
 have nit:∀b u,H b=tY u->b ∉ fp:=λb u e z=>by rw[(hf b z).1]at e;cases e
 refine I.step (g':=s.gens) (d':=s.drawn) (ch:=fp) (λb hb=>?_) (λb o _ _ hc e _=>k b o hc e) (λb o _ _ hc e _=>#[o.slots,k b o hc e]) (λ_ _ _ _ n=>n)
  (λb o hc e=>#[o,k b o hc e]) (λ_ _ e=>e) (λ_ _ _ e=>e) (λb ps e=>#[#[],by rw[e];simp]) (λm hm=>?_) (λb u e=>?_) I.bare
 ·obtain⟨_,a1,_,a3,a4,a5⟩:=hf b hb;exact#[a3,a1,a4,a5]
 ·obtain⟨o,es,ep,ho,r⟩:=hm;exact#[o,es,ep,k _ o (λz=>(hf _ z).2.1 rfl) ho,r]
 ·refine (I.hok b u e).stay (λc v hc q=>k c v ?_ q) (λ_ q=>q) λ_ _ q=>q;rcases hc with z | z
  ·rw[z];exact nit b u e
  ·exact nit c _ z
theorem Inv.track{a:pX}{o:HO}(I:Inv X Ac σ H s)(fa:xU X Ac H a)(new:ObjOk X.prog X.w (upd H a o) s.heap a o):Inv X Ac σ (upd H a o) s:=by
 obtain⟨a0,a1,a2,a3,a4,a5⟩:=fa;have e:s={ s with heap:=s.heap,gens:=s.gens,drawn:=s.drawn,toks:=s.toks }:=rfl;rw[e]
 refine I.step (g':=s.gens) (d':=s.drawn) (ch:=[a]) (λb hb=>?_) (λb o _ _ _ e _=>e) (λb o _ _ _ e _=>#[o.slots,e]) (λb o hc _ n=>?_)
  (λb o _ e=>#[o,e]) (λb xs e=>?_) (λb u xs e=>?_) (λb ps e=>?_) (λm hm=>hm) (λb u e=>?_) I.bare
 ·have eb:b=a:=by simpa using hb
  subst eb;exact#[a3,a1,a4,a5]
 ·rw[zp (by simpa using hc)];exact n
 ·rw[zp (zJ e a0)];exact e
 ·rw[zp (zJ e a0)];exact e
 ·exact#[#[],by rw[zp (zJ e a0),e];simp]
 ·by_cases hb:b=a
  ·subst hb;rw[zf]at e;cases e;exact new
  ·rw[zp hb]at e;exact (I.hok b u e).stay (λc v _ q=>q) (λc q=>by rw[zp (zJ q a0)];exact q) λc xs q=>by rw[zp (zJ q a0)];exact q
end
noncomputable def Its(x:re):It:=#[λi _=>i<(cs x).length,λi H v H'=>H'=H/\∃c,(cs x)[i]? = tY c/\v=.str (tx [c]),λi _=>i=(cs x).length]
theorem Q9{P:rb}{w:rf}{K:pW}{tg:rh}{ty:String}(hty:["enumerate","zip","dict_itemiterator","dict_reverseitemiterator","odict_iterator","itertools.zip_longest","itertools.pairwise"].contains ty=Ab)(it:pX)(x:re)(t:tu)
  (W:∀A:rg,A.handled=tZ->Walks P w A it [it] [it] x.cps.size (SignAt x) λi h=>h.IsStrIter it ty x t i)
  (S:∀(A:rg) (i:Nat) (s:pZ) (Q:pY->pZ->Prop) (E:pY->pZ->Prop),s.heap.IsStrIter it ty x t i->Q (.ref it) s->rd (model P w) A (pyIter (.ref it)) Q E s) :
  JZ P w K tg (Its x) [it] it (λi h=>h.IsStrIter it ty x t i) where
 mem:=by simp
 obj:=λi h st b hb=>by
  have e:b=it:=by simpa using hb
  subst e;obtain⟨o,e,c,d⟩:=st;exact#[o,e,λv z=>by rw[d]at z;cases z]
 keep:=λi h h' st k=>let #[o,e,r]:=st; #[o,k it (by simp) o e,r]
 item:=by
  intro X hP hw hK hc i Ac s σ H E I hf st hg;subst hP hw hK;obtain⟨f0,f1,f2,f3,f4,f5⟩:=hf it (by simp);have hg':i<x.cps.size:=by have:i<x.cps.toList.length:=hg;simpa using this
  refine (W X.A (I.ok.hd hc)).item i s _ _ hg' st λv h' tk hv st' kk=>?_;obtain⟨c,u,hcc,rfl⟩:=hv;have I1:Inv X Ac σ H { s with heap:=h',toks:=tk }:=I.turned (λb o hb e=>kk b o (by simpa using hb) e) f0 f1 f3 f4 f5;obtain⟨o,e,cl,d⟩:=id st';refine#[_,rfl,V6 (s:={ s with heap:=h',toks:=tk }) e cl d hty #[.str (tx [c]),H,I1,#[u,rfl],#[rfl,c,?_,rfl],st',λb hb=>(hf b hb).1]];show x.cps.toList[i]? = tY c;simpa using hcc
 done:=by
  intro X hP hw hK hc i Ac s σ H E I hf st hg;subst hP hw hK;obtain⟨f0,f1,f2,f3,f4,f5⟩:=hf it (by simp);have hi:i=x.cps.size:=by have:i=x.cps.toList.length:=hg;simpa using this
  rw[hi]at st;exact (W X.A (I.ok.hd hc)).done s _ _ st λh' tk kk=>#[rfl,I.turned (λb o hb e=>kk b o (by simpa using hb) e) f0 f1 f3 f4 f5]
 self:=λA i s Q E st h=>S A i s Q E st h
section
variable{X:Cx}{tg:rh}
def zer(tl:TE):TI:=λσ H R=>tl σ H λv H1=>∃x,v=.str x/\R (Its x) H1
theorem XA{l:rh}{tl:TE}(hl:PE X l tl):PI X tg l (zer tl):=by
 intro Ac s σ H R I h;refine thn (hl Ac s σ H _ I h) λv s1 ⟨y,H1,I1,r1,q1⟩=>?_;obtain⟨x,e,q⟩:=q1;subst e;obtain⟨t,rfl⟩:=r1
 have fin:∀(ty:String) (hty:["enumerate","zip","dict_itemiterator","dict_reverseitemiterator","odict_iterator","itertools.zip_longest","itertools.pairwise"].contains ty=Ab)
   (W:∀A:rg,A.handled=tZ->Walks X.prog X.w A s1⁻¹ [s1⁻¹] [s1⁻¹] x.cps.size (SignAt x) λi h=>h.IsStrIter s1⁻¹ ty x t i)
   (S:∀(A:rg) (i:Nat) (s:pZ) (Q:pY->pZ->Prop) (E:pY->pZ->Prop),s.heap.IsStrIter s1⁻¹ ty x t i->Q (.ref s1⁻¹) s->rd (model X.prog X.w) A (pyIter (.ref s1⁻¹)) Q E s),
   PIE X Ac σ tg R (.ref s1⁻¹) { s1 with heap:=s1.heap.push { cls:=.type ty,data:=.fields (List.toArray [.str x t,.int 0 0]) } }:=λty hty W S=>by
  refine#[s1⁻¹,[s1⁻¹],_,_,H1,rfl,I1.kept (t':=s1.toks) λb o e=>ah _ e,Q9 hty _ x t W S,#[_,aG _ rfl,rfl,rfl],λb hb=>?_,q];have e:b=s1⁻¹:=by simpa using hb
  subst e;exact I1.fpOk (al _) (I1.hok.fresh (al _))
 cases ha:x.cps.all (· < 128)
 ·exact wpAny_pyIter_wide ha (fin "str_iterator" ∅ (λA hA=>Walks.strWide hA _ x t) λA i s Q E st h=>wpAny_pyIter_striter_wide st h)
 ·exact wpAny_pyIter_ascii ha (fin "str_ascii_iterator" ∅ (λA hA=>Walks.strAscii hA _ x t) λA i s Q E st h=>wpAny_pyIter_striter_ascii st h)
end
theorem zbn{x:re}{g:TG}{tb:TS}{D:vf}{σ:St}{H:Hp}(Pv:Nat->St->Hp->Prop)(h0:Pv 0 σ H)
  (hs:∀i c σ H,(cs x)[i]? = tY c->Pv i σ H->g (.str (tx [c])) σ H λσ2 H2=>tb { D with nx:=Pv (i+1),ct:=Pv (i+1),bk:=D.nx } σ2 H2) (hd:∀σ H,Pv (cs x).length σ H->D.nx σ H) :
  ∃W:Nat->Nat->St->Hp->Prop,(∃m,W 0 m σ H)/\∀i m σ H,W i m σ H ->
   ((Its x).stop i H/\D.nx σ H)\/((Its x).go i H/\∃N:St->Hp->Prop,(∀σ' H',N σ' H'->∃m',m'<m/\W (i+1) m' σ' H')/\∀v H',(Its x).yld i H v H'->g v σ H' λσ2 H2=>tb { D with nx:=N,ct:=N,bk:=D.nx } σ2 H2):=by
 refine#[λi m σ H=>m=(cs x).length - i/\i<=(cs x).length/\Pv i σ H,#[(cs x).length,by simp,aD _,h0],?_];rintro i m σ H ⟨rfl,hi,p⟩;by_cases hlt:i<(cs x).length
 ·refine .inr #[hlt,Pv (i+1),λσ' H' p'=>#[(cs x).length - (i+1),⋯,rfl,hlt,p'],λv H' y=>?_];obtain⟨e,c,hc,ev⟩:=y;subst e ev;exact hs i c σ _ hc p
 ·have e:i=(cs x).length:=⋯;subst e;exact .inl #[rfl,hd σ H p]
noncomputable def Ite(x:re):It:=#[λi _=>i<(cs x).length,λi H v H'=>∃p c,H p=tZ/\(cs x)[i]? = tY c/\v=.ref p/\H'=upd H p (.tup [.int (i:Nat),.str (tx [c])]),λi _=>i=(cs x).length]
theorem QV{P:rb}{w:rf}{K:pW}{elts:List rh}{x1:Nat}{tpos:rP}{ty:String}(e it:pX)(hei:e≠it)(x:re)(t:tu)
  (D:∀A:rg,A.handled=tZ->Draws P w A it [it] x.cps.size (λi v=>∃c u,x.cps[i]? = tY c/\v=.str ⟨#[c]⟩ u) λi h=>h.IsStrIter it ty x t i) :
  JZ P w K (.Tuple elts x1 tpos) (Ite x) [e,it] e (λi h=>(∃old,IsEnum h e it i old)/\h.IsStrIter it ty x t i) where
 mem:=by simp
 obj:=λi h st b hb=>by
  obtain⟨⟨old,he⟩,o,e2,c,d⟩:=st;rcases Ah.mp hb with q | q
  ·subst q;exact#[_,he,λv z=>by have z':Data.fields _=Data.cell v:=z;cases z']
  ·have q':b=it:=by simpa using q
   subst q';exact#[o,e2,λv z=>by rw[d]at z;cases z]
 keep:=λi h h' st k=>by
  obtain⟨⟨old,he⟩,o,e2,r⟩:=st;exact#[#[old,k e (by simp) _ he],o,k it (by simp) o e2,r]
 item:=by
  intro X hP hw hK hc i Ac s σ H E I hf st hg;subst hP hw hK;obtain⟨⟨old,he⟩,st⟩:=st;have hg':i<x.cps.size:=by have:i<x.cps.toList.length:=hg;simpa using this
  have hA:X.A.in1.handled=tZ:=I.ok.hd hc;refine sF (D X.A.in1 hA) he st hg' hei (by simpa using hei) λv h' tk hv ho st' hT hsz kk=>?_;obtain⟨c,u,hcc,rfl⟩:=hv;refine#[_,rfl,sB ho λh2 he2 sb=>?_];have elt:e<s⁻¹:=aq he;have ilt:it<s⁻¹:=by obtain⟨o,q,_⟩:=st;exact aq q
  have I1:Inv X Ac σ H { s with heap:=h2,toks:=tk+1 }:=Inv.turns (fp:=[e,it]) I (λb o hb q=>by
   have hb':b≠e/\b≠it:=by simpa using hb
   exact (sb.2 b hb'.1).trans (kk b o hb'.1 hb'.2 q)) hf
  have hp:H s⁻¹=tZ:=I.hok.fresh (al _);have hT2:h2.get? s⁻¹=tY { cls:=.type "tuple",data:=.seq (List.toArray [.int (i:Nat) tk,.str ⟨#[c]⟩ u]) }:=(sb.2 _ (cB elt)).trans hT
  have I2:Inv X Ac σ (upd H s⁻¹ (.tup [.int (i:Nat),.str (tx [c])])) { s with heap:=h2,toks:=tk+1 } :=
   Inv.track I1 (I.fpOk (al _) hp) #[by show 2<=pV;decide,[.int (i:Nat) tk,.str ⟨#[c]⟩ u],.cons #[_,rfl] (.cons #[_,rfl] .nil),#[_,hT2,rfl,_,rfl]]
  refine#[.ref s⁻¹,_,I2,rfl,#[s⁻¹,c,hp,?_,rfl,rfl],#[#[_,by simpa using he2],?_],λb hb=>?_]
  ·show x.cps.toList[i]? = tY c;simpa using hcc
  ·obtain⟨o,q,r⟩:=st';exact#[o,(sb.2 it (Ne.symm hei)).trans q,r]
  ·rw[zp]
   ·exact (hf b hb).1
   ·rcases Ah.mp hb with q | q
    ·rw[q];exact ay elt
    ·have q':b=it:=by simpa using q
     rw[q'];exact ay ilt
 done:=by
  intro X hP hw hK hc i Ac s σ H E I hf st hg;subst hP hw hK;obtain⟨⟨old,he⟩,st⟩:=st;have hi:i=x.cps.size:=by have:i=x.cps.toList.length:=hg;simpa using this
  have hA:X.A.in1.handled=tZ:=I.ok.hd hc;rw[hi]at st;refine sJ (D X.A.in1 hA) he st λh' hx=>#[rfl,?_];exact Inv.turns (fp:=[e,it]) (t':=s.toks) I (λb o hb q=>hx b o (λz=>hb (by simp [z])) q) hf
 self:=λA i s Q E st h=>by
  obtain⟨⟨old,he⟩,_⟩:=st;exact so he h
section
variable{X:Cx}
def zdi(ta:TA):TI:=λσ H R=>ta σ H λvs H1=>∃x,vs=[.str x]/\R (Ite x) H1
theorem Qw{a:rh}{ta:TA}{p pos tpos:rP}{elts:List rh}{x1:Nat}(hg:Gl X "enumerate")(hm:X.mg "enumerate" = tZ)(ha:PA X [a] ta)(hs:pT [a] X.env=[(Ab,eval a X.env)]:=by rfl) :
  PI X (.Tuple elts x1 tpos) (.Call (.Name "enumerate" p) [a] [] pos) (zdi ta):=by
 intro Ac s σ H R I h;refine tX (wf I hg hm boot_enumerate (bq (thn (ha pos Ac s σ H _ I h) λus s1 ⟨vs,H1,I1,r1,q1⟩=>?_) hs rfl));obtain⟨x,e,q⟩:=q1;subst e;obtain⟨u,rfl,t,rfl⟩:=wg r1;refine call_enumerate_str λh' he hit hsz kk=>?_;have I2:Inv X Ac σ H1 { s1 with heap:=h' }:=I1.kept (t':=s1.toks) kk;refine so (s:={ s1 with heap:=h' }) (i:=0) he ?_
 have fin:∀(ty:String) (hi:h'.IsStrIter s1⁻¹ ty x t 0) (D:∀A:rg,A.handled=tZ->Draws X.prog X.w A s1⁻¹ [s1⁻¹] x.cps.size (λi v=>∃c u,x.cps[i]? = tY c/\v=.str ⟨#[c]⟩ u) λi h=>h.IsStrIter s1⁻¹ ty x t i),
   PIE X Ac σ (.Tuple elts x1 tpos) R (.ref (s1⁻¹+1)) { s1 with heap:=h' }:=λty hi D=>by
  refine#[s1⁻¹+1,[s1⁻¹+1,s1⁻¹],_,_,H1,rfl,I2,QV _ _ (eD _) x t D,#[#[_,he],hi],λb hb=>?_,q]
  have hb':s1⁻¹<=b:=by
   rcases Ah.mp hb with e | e
   ·rw[e];exact cj _
   ·have:b=s1⁻¹:=by simpa using e
    rw[this];exact al _
  exact I1.fpOk hb' (I1.hok.fresh hb')
 cases ha:x.cps.all (· < 128)
 ·have e:sV x="str_iterator":=by simp [sV,ha]
  rw[e]at hit;exact fin _ hit λA hA=>Draws.strWide hA _ x t
 ·have e:sV x="str_ascii_iterator":=by simp [sV,ha]
  rw[e]at hit;exact fin _ hit λA hA=>Draws.strAscii hA _ x t
end
theorem JE{x:re}{g:TG}{tb:TS}{D:vf}{σ:St}{H:Hp}(Pv:Nat->St->Hp->Prop)(h0:Pv 0 σ H)
  (hs:∀i c σ H p,(cs x)[i]? = tY c->Pv i σ H->H p=tZ->g (.ref p) σ (upd H p (.tup [.int (i:Nat),.str (tx [c])])) λσ2 H2=>tb { D with nx:=Pv (i+1),ct:=Pv (i+1),bk:=D.nx } σ2 H2) (hd:∀σ H,Pv (cs x).length σ H->D.nx σ H) :
  ∃W:Nat->Nat->St->Hp->Prop,(∃m,W 0 m σ H)/\∀i m σ H,W i m σ H ->
   ((Ite x).stop i H/\D.nx σ H)\/((Ite x).go i H/\∃N:St->Hp->Prop,(∀σ' H',N σ' H'->∃m',m'<m/\W (i+1) m' σ' H')/\∀v H',(Ite x).yld i H v H'->g v σ H' λσ2 H2=>tb { D with nx:=N,ct:=N,bk:=D.nx } σ2 H2):=by
 refine#[λi m σ H=>m=(cs x).length - i/\i<=(cs x).length/\Pv i σ H,#[(cs x).length,by simp,aD _,h0],?_];rintro i m σ H ⟨rfl,hi,p⟩;by_cases hlt:i<(cs x).length
 ·refine .inr #[hlt,Pv (i+1),λσ' H' p'=>#[(cs x).length - (i+1),⋯,rfl,hlt,p'],λv H' y=>?_];obtain⟨p',c,hp,hc,ev,eH⟩:=y;subst ev eH;exact hs i c σ H p' hc p hp
 ·have e:i=(cs x).length:=⋯;subst e;exact .inl #[rfl,hd σ H p]
theorem ud{env:sN}:∀(names:List (re × sv)) (Ae:List (re × pX)),
    (∀y,(y,NameKind.free) ∈ names->∃c,env.cells.lookup y=tY c)->(∀y c,Ae.lookup y=tY c->env.cells.lookup y=tY c) ->
    ∃cl,(forIn names Ae λ(x:re × sv) (cs:List (re × pX))=>if (x.2 == NameKind.free)=Aa then (do let a <- cellOf env x.1;pure (ForInStep.yield ((x.1,a)::cs)))else pure (ForInStep.yield cs):tO (List (re × pX)))=pure cl /\
      (∀y c,cl.lookup y=tY c->env.cells.lookup y=tY c)/\(∀y,(y,NameKind.free) ∈ names\/(Ae.lookup y).isSome=Aa->∃c,cl.lookup y=tY c)
  | [],Ae,_,ha=>#[Ae,rfl,ha,λy h=>by
      rcases h with h | h
      . cases h
      . exact Aq.mp h]
  | (n,k)::r,Ae,hn,ha=>by
    by_cases hk:k=NameKind.free
    . subst hk
      obtain⟨c,hc⟩:=hn n (by simp)
      have ha':∀y d,((n,c)::Ae).lookup y=tY d->env.cells.lookup y=tY d:=λy d e=>by
        rw[aU]at e;by_cases hy:(y == n)=Aa
        . rw[hy]at e
          have:y=n:=eq_of_beq hy;subst this;cases e;exact hc
        . have hy':(y == n)=Ab:=by simpa using hy
          rw[hy']at e;exact ha y d e
      obtain⟨cl,e,h1,h2⟩:=ud r ((n,c)::Ae) (λy hy=>hn y (am _ hy)) ha';refine#[cl,?_,h1,λy hy=>h2 y ?_]
      . rw[eV]
        have ec:cellOf env n=pure c:=by unfold cellOf;rw[hc]
        erw[beq_self_eq_true,if_true,ec,pure_bind]
        exact e
      . rcases hy with hy | hy
        . rcases Ah.mp hy with q | q
          . cases q
            exact .inr (by simp)
          . exact .inl q
        . refine .inr ?_
          rw[aU];by_cases hyn:(y == n)=Aa
          . rw[hyn];rfl
          . have hy':(y == n)=Ab:=by simpa using hyn
            rw[hy'];exact hy
    . obtain⟨cl,e,h1,h2⟩:=ud r Ae (λy hy=>hn y (am _ hy)) ha
      refine#[cl,?_,h1,λy hy=>h2 y ?_]
      . rw[eV]
        have ek:(k == NameKind.free)=Ab:=by simpa using hk
        erw[ek,br,if_false,pure_bind]
        exact e
      . rcases hy with hy | hy
        . rcases Ah.mp hy with q | q
          . cases q;exact absurd rfl hk
          . exact .inl q
        . exact .inr hy
theorem vN{scope:rL}{env:sN}(hn:∀y,(y,NameKind.free) ∈ scope.names->∃c,env.cells.lookup y=tY c) :
  ∃cl,closureFor scope env=pure cl/\(∀y c,cl.lookup y=tY c->env.cells.lookup y=tY c)/\(∀y,(y,NameKind.free) ∈ scope.names->∃c,cl.lookup y=tY c):=by
 obtain⟨cl,e,h1,h2⟩:=ud scope.names [] hn (λy c h=>by cases h);refine#[cl,?_,h1,λy hy=>h2 y (.inl hy)];unfold closureFor
 erw[bind_pure]
 exact e
noncomputable abbrev QS(ifs:List rh)(env:sN):tO Bool :=
 forIn ifs Aa λc r=>if r=Aa then (do let ok <- isTrue c env (eval c env);pure (ForInStep.yield ok))else pure (ForInStep.yield r)
theorem Ua{prog:rb}{w:rf}{A:rg}{R:sY->pZ->Prop}{s:pZ}{elt tg iter:rh}{ifs:List rh}{scope:rL}{pos:rP}{it Ae:pY}{env:sN}
  (I:Nat->pZ->Prop) {EE:pY->pZ->Prop} (hEE:EE=notedBy (model prog w) A env λe s'=>R (.error e) s')
  (turn:∀n s,I n s->rd (model prog w) A (pyNext it) (λr s1=>match r with
   | none=>R (.ok .next) s1
   | some v=>rd (model prog w) A (letOwnedTupleGo tg it v) (λ_ s2=>rd (model prog w) A (assign tg env v) (λ_ s3 =>
     rd (model prog w) A (QS ifs env) (λok s4=>if ok=Aa then
      rd (model prog w) A (eval elt env) (λx s5=>rd (model prog w) A (call (.builtin "list.append") [Ae,x]) (λ_ s6=>∃m,m<n/\I m s6) EE s5) EE s4
      else ∃m,m<n/\I m s4) EE s3) EE s2) EE s1) EE s) (n:Nat) (h:I n s) :
  rY (model prog w) A (.compLoop (.ListComp elt [#[tg,iter,ifs,0]] scope pos) 0 it Ae env) R s:=by
 subst hEE;refine codeAny_loop rfl I (λn s hI=>?_) n h;show rd _ A ((compTurn (.ListComp elt [#[tg,iter,ifs,0]] scope pos) 0 it Ae env).onRaise (λx=>do noteFrame x env;theTreesLotGoes x)) _ _ s;refine wpAny_noted ?_;rw[compTurn_list];refine pQ (rN (pQ (thn (turn n s hI) λr s1 h1=>?_)))
 cases r with
 | none=>exact pR h1
 | some v =>
  refine pQ (thn h1 λ_ s2 h2=>pQ (thn h2 λ_ s3 h3=>pQ (thn h3 λok s4 h4=>?_)))
  cases ok with
  | false=>exact pR #[rfl,h4]
  | true=>exact pQ (pQ (thn h4 λx s5 h5=>pQ (thn h5 λ_ s6 h6=>pR (pR #[rfl,h6]))))
noncomputable def yq(X:Cx)(scope:rL)(cl:List (re × pX))(C:pX)(N:List re)(Ac:List (pX × rF))(s3:pZ)(H3:Hp)(fp:List pX)(E:pY->pZ->Prop):Cx :=
 { X with N:=N,s₀:=s3,H₀:=H3,env:=compEnvC scope cl C X.env,outer:=X.stack,ex:=fp,fn:=λ_=>Ab,pn:=X.pn ++ Ac,xe:=E }
noncomputable def vZ(σ:St)(own:Nat)(ix:()):St:=aT own tZ ++ ix.map λi=>(σ[i]?).join
structure jZ(X:Cx)(scope:rL)(own caps:List re)(ix:()):Prop where
 kind:scope.kind=.function
 nocell:∀y ∈ scope.names,y.2≠.cell
 names:∀y ∈ scope.names,y.2=.local->scope.names.lookup y.1=tY .local
 free:∀y,(y,NameKind.free) ∈ scope.names->X.env.kindOf y=tY .cell\/X.env.kindOf y=tY .free
 hown:∀y ∈ own,scope.names.lookup y=tY .local
 hcaps:∀y ∈ caps,scope.names.lookup y=tY .free
 hix:ix.map (λi=>X.N[i]?)=caps.map tY
theorem xD{α β:Type}[BEq α][LawfulBEq α]{l:List (α × β)}{a:α}{b:β}(h:l.lookup a=tY b):(a,b) ∈ l:=by
 induction l with
 | nil=>cases h
 | cons p r ih =>
  obtain⟨c,d⟩:=p;rw[aU]at h;by_cases e:(a == c)=Aa
  ·rw[e]at h;cases h;rw[eq_of_beq e];exact aw
  ·have e':(a == c)=Ab:=by simpa using e
   rw[e']at h;exact am _ (ih h)
theorem vd{scope:rL}{env:sN}(hf:env.scope.kind=.function):∀{names:List (re × sv)} {x:re} {k:sv},names.lookup x=tY k ->
    (names.map λ(n,k)=>if (k == NameKind.free && env.scope.kind == .function && env.kindOf n == tY .cell)then (n,NameKind.cell)else (n,k)).lookup x=tY (if (k == NameKind.free && env.scope.kind == .function && env.kindOf x == tY .cell)=Aa then .cell else k)
  | [],_,_,h=>by simp at h
  | (n,k')::r,x,k,h=>by
    have ih:=@vd scope env hf r x k;show bo x ((if (k' == NameKind.free && env.scope.kind == .function && env.kindOf n == tY .cell)=Aa then (n,NameKind.cell)else (n,k'))::_)=_;by_cases hx:(x == n)=Aa
    . have hxn:x=n:=eq_of_beq hx
      subst hxn;rw[aU,hx]at h;cases h;by_cases c:(k' == NameKind.free && env.scope.kind == .function && env.kindOf x == tY .cell)=Aa
      . rw[if_pos c,if_pos c,aU,hx]
      . rw[if_neg c,if_neg c,aU,hx]
    . have hx':(x == n)=Ab:=by simpa using hx
      rw[aU,hx']at h;by_cases c:(k' == NameKind.free && env.scope.kind == .function && env.kindOf n == tY .cell)=Aa
      . rw[if_pos c,aU,hx'];exact ih h
      . rw[if_neg c,aU,hx'];exact ih h
theorem uC{scope:rL}{env:sN}:∀{names:List (re × sv)} {x:re},names.lookup x=tZ ->
    (names.map λ(n,k)=>if (k == NameKind.free && env.scope.kind == .function && env.kindOf n == tY .cell)then (n,NameKind.cell)else (n,k)).lookup x=tZ
  | [],_,_=>rfl
  | (n,k')::r,x,h=>by
    have ih:=@uC scope env r x;show bo x ((if (k' == NameKind.free && env.scope.kind == .function && env.kindOf n == tY .cell)=Aa then (n,NameKind.cell)else (n,k'))::_)=_;by_cases hx:(x == n)=Aa
    . rw[aU,hx]at h;cases h
    . have hx':(x == n)=Ab:=by simpa using hx
      rw[aU,hx']at h;by_cases c:(k' == NameKind.free && env.scope.kind == .function && env.kindOf n == tY .cell)=Aa
      . rw[if_pos c,aU,hx'];exact ih h
      . rw[if_neg c,aU,hx'];exact ih h
section
variable{X:Cx}{scope:rL}{own caps:List re}{ix:()}{cl:List (re × pX)}{Ac:List (pX × rF)}{σ:St}{H:Hp}{s:pZ}{fp:List pX}{E:pY->pZ->Prop}
theorem WY(S:jZ X scope own caps ix)(hcl1:∀y c,cl.lookup y=tY c->X.env.cells.lookup y=tY c)(hcl2:∀y,(y,NameKind.free) ∈ scope.names->∃c,cl.lookup y=tY c)
  (I:Inv X Ac σ H s) (hfp:∀b ∈ fp,xU X Ac H b) (hlt:∀b ∈ fp,b<s⁻¹) {h4:rj} {t4:Nat} (hn:h4.Ns s⁻¹ λ_=>tZ) (hk:∀b o,s.heap.get? b=tY o->h4.get? b=tY o) :
  Inv (yq X scope cl s⁻¹ (own ++ caps) Ac s H fp E) [] (vZ σ own.length ix) H { s with heap:=h4,toks:=t4 }:=by
 have kf:X.env.scope.kind=.function:=I.ok.kind;have nofp:∀b ∈ fp,b≠s⁻¹:=λb hb=>ay (hlt b hb)
 have cellLt:∀x c,X.env.cells.lookup x=tY c->c<s⁻¹:=λx c e=>by
  obtain⟨v,o,ho,_⟩:=I.cell x c e;exact aq ho
 have kinds:∀y k,scope.names.lookup y=tY k->(relabel scope X.env).names.lookup y=tY (if (k == NameKind.free && X.env.scope.kind == .function && X.env.kindOf y == tY .cell)=Aa then .cell else k):=λy k e=>vd (scope:=scope) kf e
 have back:∀y k,(relabel scope X.env).names.lookup y=tY k->∃k',scope.names.lookup y=tY k'/\k=(if (k' == NameKind.free && X.env.scope.kind == .function && X.env.kindOf y == tY .cell)=Aa then .cell else k'):=λy k e=>by
  cases q:scope.names.lookup y with
  | none =>
   have:=uC (scope:=scope) (env:=X.env) q;have e':(scope.names.map λ(n,k)=>if (k == NameKind.free && X.env.scope.kind == .function && X.env.kindOf n == tY .cell)then (n,NameKind.cell)else (n,k)).lookup y=tY k:=e;rw[this]at e';cases e'
  | some k' =>
   refine#[k',rfl,?_];have:=kinds y k' q;rw[e]at this;exact Option.some.inj this
 have isCell:∀y,scope.names.lookup y=tY .free->(relabel scope X.env).names.lookup y=tY .cell\/(relabel scope X.env).names.lookup y=tY .free:=λy e=>by
  have:=kinds y _ e;rcases S.free y (xD e)with q | q
  ·refine .inl ?_;rw[this,if_pos];rw[q,kf];rfl
  ·refine .inr ?_;rw[this,if_neg];rw[q];simp
 refine#[#[I.ok.mod,?_,I.ok.glob,I.ok.blt,al _,?_,?_,?_,I.ok.hd,I.ok.frames,.inl rfl,?_,I.bs,aK I.ok.bsz I.sz,?_,?_,I.stack,I.stkFree],rfl,I.bare,Un.kept hk,#[_,hn,?_],?_,?_,?_,?_,I.hok.kept hk,?_]
 ·show (relabel scope X.env).kind=.function;exact S.kind
 ·intro x y c h1 h2;exact I.ok.inj x y c (hcl1 x c h1) (hcl1 y c h2)
 ·intro y hy;have hy':(relabel scope X.env).names.lookup y=tY .cell\/(relabel scope X.env).names.lookup y=tY .free:=hy
  have:scope.names.lookup y=tY .free:=by
   rcases hy' with q | q
   ·obtain⟨k',e,ek⟩:=back y _ q;by_cases c:(k' == NameKind.free && X.env.scope.kind == .function && X.env.kindOf y == tY .cell)=Aa
    ·rw[ci,ci]at c;rw[e,eq_of_beq c.1.1]
    ·rw[if_neg c]at ek;exact absurd ek.symm (S.nocell _ (xD e))
   ·obtain⟨k',e,ek⟩:=back y _ q;by_cases c:(k' == NameKind.free && X.env.scope.kind == .function && X.env.kindOf y == tY .cell)=Aa
    ·rw[if_pos c]at ek;cases ek
    ·rw[if_neg c]at ek;rw[e,<- ek]
  exact hcl2 y (xD this)
 ·intro x c h _;exact absurd h (by simp [yq])
 ·intro b hb;refine#[nofp b hb,λx c e=>?_];exact (hfp b hb).2.2.2.2.1 x c (hcl1 x c e)
 ·intro b o e hb;obtain⟨_,_,_,q,_⟩:=hfp b hb;rcases q with q | q
  ·exact I.ok.noex b o e q
  ·exact absurd (av (aq e) (aK I.ok.bsz q)) (cH _)
 ·intro b hb z;rcases Ah.mp (I.stkSub b z)with e | e
  ·exact (hfp b hb).2.1 e
  ·exact (hfp b hb).2.2.1 e
 ·intro i y v h1 h2 h3
  have hi:own.length<=i:=by
   refine cN λhlt'=>?_;unfold vZ at h2;rw[bT (by rw[bP];exact hlt'),eO,if_pos hlt']at h2;cases h2
  have h1':caps[i - own.length]? = tY y:=by
   have:(own ++ caps)[i]? = tY y:=h1;rw[bC hi]at this;exact this
  have h2':(ix.map λi=>(σ[i]?).join)[i - own.length]? = tY (tY v):=by
   unfold vZ at h2;rw[bC (by rw[bP];exact hi),bP]at h2;exact h2
  rw[ar]at h2';have hx:=congrArg (λl=>l[i - own.length]?) S.hix
  erw[ar,h1',cY]at hx
  cases q:ix[i - own.length]? with
  | none=>rw[q]at h2';cases h2'
  | some j =>
   rw[q]at h2' hx;have hj:X.N[j]? = tY y:=Option.some.inj hx;have hv:(σ[j]?).join=tY v:=Option.some.inj h2'
   have hσ:σ[j]? = tY (tY v):=by
    cases r:σ[j]? with
    | none=>rw[r]at hv;cases hv
    | some z=>rw[r]at hv;cases z with
     | none=>cases hv
     | some z=>cases hv;rfl
   have hfree:scope.names.lookup y=tY .free:=S.hcaps y (af h1');have hkc:=S.free y (xD hfree);obtain⟨m,hm,hl⟩:=I.loc;obtain⟨u,ru,l⟩:=hl j y v hj hσ (.inr hkc);refine#[u,ru,.inr #[isCell y hfree,?_]];rcases l with ⟨k,_⟩ | ⟨_,c,e,z⟩
   ·have:X.env.kindOf y=tY .local:=k;rcases hkc with q' | q' <;> (rw[q']at this;cases this)
   ·obtain⟨c',e'⟩:=hcl2 y (xD hfree);have:=hcl1 y c' e';rw[e]at this;cases this;obtain⟨o,ho,hd⟩:=z;exact#[c,e',o,hk c o ho,hd]
 ·intro x c e;obtain⟨v,o,ho,hd⟩:=I.cell x c (hcl1 x c e);exact#[v,o,hk c o ho,hd]
 ·exact I.hok.fresh (al _)
 ·intro x c e;exact I.freeC x c (hcl1 x c e)
 ·intro p hp
  have hp':p ∈ X.pn ++ Ac:=by
   have:p ∈ (X.pn ++ Ac) ++ []:=hp
   rwa [aP]at this
  obtain⟨e,n,ne,nf,d⟩:=I.pin p hp';refine#[hk _ _ e,n,?_,λz=>?_,d]
  ·exact ay (aq e)
  ·rcases Ah.mp (I.stkSub p.1 z)with q | q
   ·exact ne q
   ·exact nf q
 ·show (vZ σ own.length ix).length=(own ++ caps).length;have:=congrArg dY S.hix;rw[ac,ac]at this;unfold vZ;rw[ak,bP,ac,ak,this]
end
def xt(σ σ':St):Prop:=σ.length=σ'.length/\∀(i:Nat) v,σ[i]? = tY (tY v)->σ'[i]? = tY (tY v)
def PTs(X:Cx)(ifs:List rh)(t:TT):Prop :=
 ∀(Ac:List (pX × rF)) (s:pZ) (σ:St) (H:Hp) (Q:Bool->Hp->Prop),Inv X Ac σ H s->t σ H Q->rd (model X.prog X.w) X.A (QS ifs X.env) (TP X Ac σ Q) X.xe s
def vS:TT:=λ_ H Q=>Q Aa H
theorem y0{X:Cx}:PTs X [] vS:=λ_ _ _ H _ I h=>pR #[H,I,h]
theorem VF{X:Cx}{c:rh}{t:TT}(h:PT X c t):PTs X [c] t:=λAc s σ H Q I hq=>by
 show rd _ _ (forIn [c] Aa _) _ _ s
 erw[eV,List.forIn_nil,if_true]
 exact pQ (pQ (thn (h Ac s σ H Q I hq) λb s' hb=>pR (pR hb)))
def jp(wi:TI)(g:TG)(tt:TT)(te:TE)(own:Nat)(ix:()):TE:=λσ H Q=>wi σ H λJ H1=>∀D,H1 D=tZ->∃W:Nat->Nat->List V->Hp->Prop,(∃m,W 0 m [] (upd H1 D (.lst []))) /\
 ∀i m Ae H',W i m Ae H'->(J.stop i H'/\Q (.ref D) H')\/(J.go i H'/\∀x H2,J.yld i H' x H2->g x (vZ σ own ix) H2 λσ3 H3=>xt (vZ σ own ix) σ3/\tt σ3 H3 λb H4=>if b=Aa then
  te σ3 H4 λv H5=>H5 D=tY (.lst Ae)/\Ae.length<pV/\∃m',m'<m/\W (i+1) m' (Ae ++ [v]) (upd H5 D (.lst (Ae ++ [v])))
  else ∃m',m'<m/\W (i+1) m' Ae H4)
theorem Un.but{fs ex:List pX}{H H':Hp}{h h1 h2:rj}{a:pX}(u:Un fs ex H H' h h1)(sb:Heap.SameBut a h1 h2)(ha:h.get? a=tZ):Un fs ex H H' h h2:=by
 have ne:∀b o,h.get? b=tY o->b≠a:=λb o e z=>by subst z;rw[ha]at e;cases e
 refine#[λb o e n hb hx=>(sb.2 b (ne b o e)).trans (u.keep b o e n hb hx),λb o e n hb hx=>?_,u.free,λb o e hx=>?_,u.tups,u.frzs,u.tbls]
 ·obtain⟨sl,q⟩:=u.slot b o e n hb hx;exact#[sl,(sb.2 b (ne b o e)).trans q]
 ·obtain⟨o',q⟩:=u.there b o e hx;exact#[o',(sb.2 b (ne b o e)).trans q]
theorem HOk.but{P:rb}{w:rf}{H:Hp}{h1 h2:rj}{a:pX}(ok:HOk P w H h1)(sb:Heap.SameBut a h1 h2)(ha:H a=tZ):HOk P w H h2:=λb ob e=>by
 refine (ok b ob e).stay (λc u hc q=>(sb.2 c ?_).trans q) (λ_ q=>q) λ_ _ q=>q;rintro rfl;rcases hc with rfl | hc
 ·rw[ha]at e;cases e
 ·rw[ha]at hc;cases hc
section
variable{X:Cx}{scope:rL}{own caps:List re}{ix:()}{elt tg iter:rh}{ifs:List rh}{pos:rP}{wi:TI}{g:TG}{tt:TT}{te:TE}
def kg(i:Nat)(t:TE):TS:=λD σ H=>t σ H λx H1=>D.nx (σ.set i (tY x)) H1
end
section
variable{X:Cx}{a b:rh}{ta tb:TE}{pos:rP}
def Xk:R2:=λx y H Q=>match x with | .int i=>onInt y λj=>Q (.int (i+j)) H | .str i=>onStr y λj=>i.length+j.length<=pV/\Q (.str (i ++ j)) H | .ref l=>zbZ (.ref l) y H Q | _=>False
theorem qF:OpR X (binaryOp .Add) Xk:=by
 intro Ac s σ H x y v u Q I rx ry h
 cases x with
 | int i=>exact yj Ac s σ H (.int i) y v u Q I rx ry h
 | str i=>exact yl Ac s σ H (.str i) y v u Q I rx ry (by obtain⟨j,rfl,q⟩:=onStr.of h;exact#[i,j,rfl,rfl,q])
 | ref l=>exact Wt Ac s σ H (.ref l) y v u Q I rx ry h
 | _=>exact h.elim
def zbu:R2:=λx y H Q=>match x with | .int i=>onInt y λj=>CMul i j/\Q (.int (i * j)) H | .str z=>onInt y λn=>0<=n/\n<=1000/\z.length<=1000/\Q (.str (tx (aT n.toNat (cs z)).flatten)) H | _=>False
theorem YJ:OpR X (binaryOp .Mult) zbu:=by
 intro Ac s σ H x y v u Q I rx ry h
 cases x with
 | int i=>exact qN Ac s σ H (.int i) y v u Q I rx ry h
 | str z=>exact WX Ac s σ H (.str z) y v u Q I rx ry (by obtain⟨n,rfl,q⟩:=onInt.of h;exact#[z,n,rfl,rfl,q])
 | _=>exact h.elim
def zdL:R2:=λx y H Q=>match x with | .int i=>onInt y λj=>Q (.bl (decide (i<j))) H | .str i=>onStr y λj=>Q (.bl (decide (cs i<cs j))) H | _=>False
theorem VG:OpR X (rp .Lt) zdL:=by
 intro Ac s σ H x y v u Q I rx ry h
 cases x with
 | int i=>exact WS Ac s σ H (.int i) y v u Q I rx ry h
 | str i=>exact op_lt_str' Ac s σ H (.str i) y v u Q I rx ry (by obtain⟨j,rfl,q⟩:=onStr.of h;exact#[i,j,rfl,rfl,q])
 | _=>exact h.elim
def zdD:R2:=λx y H Q=>match x with | .int i=>onInt y λj=>Q (.bl (decide (i<=j))) H | .str i=>onStr y λj=>Q (.bl (!(decide (cs j<cs i)))) H | _=>False
theorem x0:OpR X (rp .LtE) zdD:=by
 intro Ac s σ H x y v u Q I rx ry h
 cases x with
 | int i=>exact zd2 Ac s σ H (.int i) y v u Q I rx ry h
 | str i=>exact UC Ac s σ H (.str i) y v u Q I rx ry (by obtain⟨j,rfl,q⟩:=onStr.of h;exact#[i,j,rfl,rfl,q])
 | _=>exact h.elim
theorem Uf:OpR X (rp .Gt) (λx y H Q=>∃i j,x=.str i/\y=.str j/\Q (.bl (decide (cs j<cs i))) H):=by
 intro Ac s σ H x y v u Q I rx ry h;obtain⟨i,j,rfl,rfl,q⟩:=h;obtain⟨t,rfl⟩:=rx;obtain⟨t',rfl⟩:=ry;exact PySem.P.gt_str #[.bl _,H,I,rfl,q]
def zdE:R2:=λx y H Q=>match x with | .int i=>onInt y λj=>Q (.bl (decide (j<i))) H | .str i=>onStr y λj=>Q (.bl (decide (cs j<cs i))) H | _=>False
theorem Ux:OpR X (rp .Gt) zdE:=by
 intro Ac s σ H x y v u Q I rx ry h
 cases x with
 | int i=>exact U0 Ac s σ H (.int i) y v u Q I rx ry h
 | str i=>exact Uf Ac s σ H (.str i) y v u Q I rx ry (by obtain⟨j,rfl,q⟩:=onStr.of h;exact#[i,j,rfl,rfl,q])
 | _=>exact h.elim
def zcZ(K:pW):V->Option Int->Option Int->Hp->VK->Prop:=λx lo hi H Q=>match x with | .ref a=>zdy K (.ref a) lo hi H Q | .str z=>zcS (.str z) lo hi H Q | _=>False
theorem KQ:SlR X (zcZ X.K):=by
 intro Ac s σ H x v vl vu lo hi sl Q I rx hs pl pu h
 cases x with
 | ref a=>exact QP Ac s σ H (.ref a) v vl vu lo hi sl Q I rx hs pl pu h
 | str z=>exact wa Ac s σ H (.str z) v vl vu lo hi sl Q I rx hs pl pu h
 | _=>exact h.elim
noncomputable def cV:V->Option pY
 | .ty n=>tY (.type n)
 | .ref a=>tY (.ref a)
 | _=>tZ
theorem J4:vj X (.builtin "isinstance") (λxs H Q=>∃x c u t b,xs=[x,c]/\cV c=tY u/\XS X.K H x t/\aQ X.K t u=tY b/\Q (.bl b) H):=by
 intro Ac s σ H xs us Q I r h;obtain⟨x,c,u,t,b,rfl,hc,ty,e,q⟩:=h;obtain⟨v,w',rfl,rx,rc⟩:=Vv r
 have:w'=u:=by
  cases c with
  | ty n=>cases hc;exact rc
  | ref a=>cases hc;exact rc
  | _=>cases hc
 subst this;exact UJ I rx ty e λtk=>#[.bl b,H,I.tok tk,rfl,q]
end
noncomputable def Iel(K:pW)(a:pX):It:=#[λi H=>∃xs x,SqL K H a xs/\xs[i]? = tY x,λi H v H'=>∃p x,H p=tZ/\(∀xs,SqL K H a xs->xs[i]? = tY x)/\v=.ref p/\H'=upd H p (.tup [.int (i:Nat),x]),λi H=>∃xs,SqL K H a xs/\i=xs.length]
theorem Vo{P:rb}{w:rf}{K:pW}{elts:List rh}{x1:Nat}{tpos:rP}(e it a:pX)(hei:e≠it) :
  JZ P w K (.Tuple elts x1 tpos) (Iel K a) [e,it] e (λi h=>(∃old,IsEnum h e it i old)/\h.IsListIter it a i) where
 mem:=by simp
 obj:=λi h st b hb=>by
  obtain⟨⟨old,he⟩,o,e2,c,d⟩:=st;rcases Ah.mp hb with q | q
  ·subst q;exact#[_,he,λv z=>by have z':Data.fields _=Data.cell v:=z;cases z']
  ·have q':b=it:=by simpa using q
   subst q';exact#[o,e2,λv z=>by rw[d]at z;cases z]
 keep:=λi h h' st k=>by
  obtain⟨⟨old,he⟩,st⟩:=st;exact#[#[old,k e (by simp) _ he],st.at λo q=>k it (by simp) o q]
 item:=by
  intro X hP hw hK hc i Ac s σ H E I hf st hg;subst hP hw hK;obtain⟨⟨old,he⟩,st⟩:=st;obtain⟨xs,x,hq,hx⟩:=hg;obtain⟨its,rv,p,hz⟩:=I.list hq;obtain⟨u,hu,ru⟩:=rv.get hx;have hA:X.A.in1.handled=tZ:=I.ok.hd hc;have pl:=p.isList
  have hai:a≠it:=λz=>by
   subst z;obtain⟨o1,q1,c1,_⟩:=st;obtain⟨o2,q2,c2,_⟩:=pl;rw[q1]at q2;cases q2;rw[c1]at c2;exact absurd (Value.type.inj c2) ∅
  have hea:e≠a:=λz=>by
   subst z;obtain⟨o2,q2,c2,_⟩:=pl;rw[he]at q2;cases q2;exact absurd (Value.type.inj c2) ∅
  refine sF (Draws.list (A:=X.A.in1) hA it a hai its.toArray) he #[st,pl] (by rw[aj];exact (Af.mp hu).1) hei (by simp [hei,hea]) λv h' tk hv ho st' hT hsz kk=>?_
  have ev:v=u:=by
   have hv':its.toArray[i]? = tY v:=hv;rw[List.getElem?_toArray,hu]at hv';exact (Option.some.inj hv').symm
  subst ev;refine#[_,rfl,sB ho λh2 he2 sb=>?_];have elt:e<s⁻¹:=aq he;have ilt:it<s⁻¹:=by obtain⟨o,q,_⟩:=st;exact aq q
  have I1:Inv X Ac σ H { s with heap:=h2,toks:=tk+1 }:=Inv.turns (fp:=[e,it]) I (λb o hb q=>by
   have hb':b≠e/\b≠it:=by simpa using hb
   exact (sb.2 b hb'.1).trans (kk b o hb'.1 hb'.2 q)) hf
  have hp:H s⁻¹=tZ:=I.hok.fresh (al _);have hT2:h2.get? s⁻¹=tY { cls:=.type "tuple",data:=.seq (List.toArray [.int (i:Nat) tk,v]) }:=(sb.2 _ (cB elt)).trans hT
  have I2:Inv X Ac σ (upd H s⁻¹ (.tup [.int (i:Nat),x])) { s with heap:=h2,toks:=tk+1 } :=
   Inv.track I1 (I.fpOk (al _) hp) #[by show 2<=pV;decide,[.int (i:Nat) tk,v],.cons #[_,rfl] (.cons ru .nil),#[_,hT2,rfl,_,rfl]]
  refine#[.ref s⁻¹,_,I2,rfl,#[s⁻¹,x,hp,λys hy=>by rw[I.list_inj hy hq];exact hx,rfl,rfl],#[#[_,by simpa using he2],?_],λb hb=>?_]
  ·exact st'.1.at λo q=>(sb.2 it (Ne.symm hei)).trans q
  ·rw[zp]
   ·exact (hf b hb).1
   ·rcases Ah.mp hb with q | q
    ·rw[q];exact ay elt
    ·have q':b=it:=by simpa using q
     rw[q'];exact ay ilt
 done:=by
  intro X hP hw hK hc i Ac s σ H E I hf st hg;subst hP hw hK;obtain⟨⟨old,he⟩,st⟩:=st;obtain⟨xs,hq,hi⟩:=hg;obtain⟨its,rv,p,hz⟩:=I.list hq;have pl:=p.isList
  have hai:a≠it:=λz=>by
   subst z;obtain⟨o1,q1,c1,_⟩:=st;obtain⟨o2,q2,c2,_⟩:=pl;rw[q1]at q2;cases q2;rw[c1]at c2;exact absurd (Value.type.inj c2) ∅
  have hA:X.A.in1.handled=tZ:=I.ok.hd hc;have hi':i=its.toArray.size:=by rw[aj,<- rv.length];exact hi
  subst hi';refine sJ (Draws.list (A:=X.A.in1) hA it a hai its.toArray) he #[st,pl] λh' hx=>#[rfl,?_];exact Inv.turns (fp:=[e,it]) (t':=s.toks) I (λb o hb q=>hx b o (λz=>hb (by simp [z])) q) hf
 self:=λA i s Q E st h=>by
  obtain⟨⟨old,he⟩,_⟩:=st;exact so he h
section
variable{X:Cx}
def VH(K:pW)(ta:TA):TI:=λσ H R=>ta σ H λvs H1=>∃a,vs=[.ref a]/\(∃xs,SqL K H1 a xs)/\R (Iel K a) H1
theorem wL{a:rh}{ta:TA}{p pos tpos:rP}{elts:List rh}{x1:Nat}(hg:Gl X "enumerate")(hm:X.mg "enumerate" = tZ)(ha:PA X [a] ta)(hs:pT [a] X.env=[(Ab,eval a X.env)]:=by rfl) :
  PI X (.Tuple elts x1 tpos) (.Call (.Name "enumerate" p) [a] [] pos) (VH X.K ta):=by
 intro Ac s σ H R I h;refine tX (wf I hg hm PyProof.Rows.boot_enumerate (bq (thn (ha pos Ac s σ H _ I h) λus s1 ⟨vs,H1,I1,r1,q1⟩=>?_) hs rfl));obtain⟨l,e,⟨xs,hq⟩,q⟩:=q1;subst e;obtain⟨u,rfl,ru⟩:=wg r1;cases ru;obtain⟨its,rv,pl,hz⟩:=I1.list hq;refine call_enumerate_list pl.isList λh' he hit hsz kk=>?_;have I2:Inv X Ac σ H1 { s1 with heap:=h' }:=I1.kept (t':=s1.toks) kk;refine so (s:={ s1 with heap:=h' }) (i:=0) he ?_;refine#[s1⁻¹+1,[s1⁻¹+1,s1⁻¹],_,_,H1,rfl,I2,Vo _ _ l (eD _),#[#[_,he],hit],λb hb=>?_,q]
 have hb':s1⁻¹<=b:=by
  rcases Ah.mp hb with e | e
  ·rw[e];exact cj _
  ·have:b=s1⁻¹:=by simpa using e
   rw[this];exact al _
 exact I1.fpOk hb' (I1.hok.fresh hb')
end
def ForEL(K:pW)(a:pX)(g:TG)(tb:TS)(D:vf)(σ:St)(H:Hp):Prop:=∃W:Nat->Nat->St->Hp->Prop,(∃m,W 0 m σ H)/\∀i m σ H,W i m σ H ->
 ((Iel K a).stop i H/\D.nx σ H)\/((Iel K a).go i H/\∃N:St->Hp->Prop,(∀σ' H',N σ' H'->∃m',m'<m/\W (i+1) m' σ' H')/\∀x H',(Iel K a).yld i H x H'->g x σ H' λσ2 H2=>tb { D with nx:=N,ct:=N,bk:=D.nx } σ2 H2)
theorem zde{K:pW}{ta:TA}{g:TG}{tb:TS}{D:vf}{σ:St}{H:Hp}:Ka (VH K ta) g tb D σ H=ta σ H λvs H1=>∃a,vs=[.ref a]/\(∃xs,SqL K H1 a xs)/\ForEL K a g tb D σ H1:=rfl
theorem ForEL.by{K:pW}{a:pX}{xs:List V}{g:TG}{tb:TS}{D:vf}{σ:St}{H:Hp}(Pv:Nat->St->Hp->Prop)(h0:Pv 0 σ H)(hl:∀i σ H,i<=xs.length->Pv i σ H->SqL K H a xs)
  (hs:∀i x σ H p,xs[i]? = tY x->Pv i σ H->H p=tZ->g (.ref p) σ (upd H p (.tup [.int (i:Nat),x])) λσ2 H2=>tb { D with nx:=Pv (i+1),ct:=Pv (i+1),bk:=D.nx } σ2 H2) (hd:∀σ H,Pv xs.length σ H->D.nx σ H):ForEL K a g tb D σ H:=by
 refine#[λi m σ H=>m=xs.length - i/\i<=xs.length/\Pv i σ H,#[xs.length,by simp,aD _,h0],?_];rintro i m σ H ⟨rfl,hi,p⟩;have q:=hl i σ H hi p;by_cases hlt:i<xs.length
 ·refine .inr #[#[xs,xs[i],q,by simp [hlt]],Pv (i+1),λσ' H' p'=>#[xs.length - (i+1),⋯,rfl,hlt,p'],λv H' y=>?_];obtain⟨p',x,hp,hx,ev,eH⟩:=y;subst ev eH;exact hs i x σ H p' (hx xs q) p hp
 ·have e:i=xs.length:=⋯;subst e;exact .inl #[#[xs,q,rfl],hd σ H p]
def zfl(K:pW)(a:pX)(g:TG)(tb:TS)(D:vf)(σ:St)(H:Hp):Prop:=∃W:Nat->Nat->St->Hp->Prop,(∃m,W 0 m σ H)/\∀i m σ H,W i m σ H ->
 ((Itt K a).stop i H/\D.nx σ H)\/((Itt K a).go i H/\∃N:St->Hp->Prop,(∀σ' H',N σ' H'->∃m',m'<m/\W (i+1) m' σ' H')/\∀x H',(Itt K a).yld i H x H'->g x σ H' λσ2 H2=>tb { D with nx:=N,ct:=N,bk:=D.nx } σ2 H2)
theorem zeX{K:pW}{tl:TE}{g:TG}{tb:TS}{D:vf}{σ:St}{H:Hp}:Ka (zfw K tl) g tb D σ H=tl σ H λx H1=>∃a,x=.ref a/\(∃xs,SqT K H1 a xs)/\zfl K a g tb D σ H1:=rfl
def zee(K:pW)(x:V)(H:Hp)(p:Bool->Prop):Prop:=match x with | .bl b=>p b | x=>∃k,zc3 K x H k/\p k
def tTr(K:pW)(ta:TE):TT:=λσ H Q=>ta σ H λx H'=>zee K x H' λk=>Q k H'
theorem zai{K:pW}{ta:TE}{σ:L2.St}{H:Hp}{Q:Bool->Hp->Prop}:tTr K ta σ H Q=ta σ H λx H'=>zee K x H' λk=>Q k H':=rfl
def tBl(ta:TE):TT:=λσ H Q=>ta σ H λx H'=>onBl x λk=>Q k H'
theorem zbA{ta:TE}{σ:L2.St}{H:Hp}{Q:Bool->Hp->Prop}:tBl ta σ H Q=ta σ H λx H'=>onBl x λk=>Q k H':=rfl
section
variable{X:Cx}{a:rh}{ta:TE}
theorem yK(ha:PE X a ta)(he:∀whole,isTrue a X.env whole=(do let v <- whole;standAt a.pos;holding [v] (truthy v))):PT X a (tBl ta):=by
 intro Ac s σ H Q I h;refine isTrue_plain (thn (ha Ac s σ H _ I h) λv s1 ⟨x,H1,I1,r1,q1⟩=>?_) (he _);obtain⟨k,rfl,q1⟩:=onBl.of q1;exact K1 Ac s1 σ H1 (.bl k) v Q I1 r1 #[k,rfl,q1]
end
noncomputable def Irv(K:pW)(a:pX)(n:Nat):It:=#[λi H=>∃xs,SqL K H a xs/\xs.length=n/\i<n,λi H v H'=>H'=H/\∀xs,SqL K H a xs->xs.length=n->xs[n - 1 - i]? = tY v,λi H=>i=n]
theorem Jm{P:rb}{w:rf}{K:pW}{tg:rh}(a it:pX)(n:Nat):JZ P w K tg (Irv K a n) [it] it (λi h=>i<=n/\h.IsRevIter it a ((n:Int) - 1 - (i:Int))) where
 mem:=by simp
 obj:=λi h st b hb=>by
  have e:b=it:=by simpa using hb
  subst e;obtain⟨_,o,e,c,d⟩:=st;exact#[o,e,λv z=>by rw[d]at z;cases z]
 keep:=λi h h' st k=>#[st.1,st.2.at λo e=>k it (by simp) o e]
 item:=by
  intro X hP hw hK hc i Ac s σ H E I hf st hg;subst hP hw hK;obtain⟨xs,hq,hn,hi⟩:=hg;obtain⟨its,rv,p,hz⟩:=I.list hq;obtain⟨f0,f1,f2,f3,f4,f5⟩:=hf it (by simp);have hx:xs[n - 1 - i]? = tY (xs[n - 1 - i]'⋯):=ae ⋯;generalize xs[n - 1 - i]'⋯=x at hx;obtain⟨u,hu,ru⟩:=rv.get hx;have st2:=st.2;have e:(n:Int) - 1 - (i:Int)=((n - 1 - i:Nat):Int):=⋯;rw[e]at st2;refine wpAny_pyNext_rev_item st2 p.isList (x:=u) (by simpa using hu) λh' st' sb=>?_;have I1:Inv X Ac σ H { s with heap:=h' }:=I.turned (t':=s.toks) (λb o hb e=>(sb.2 b hb).trans e) f0 f1 f3 f4 f5;have e2:((n - 1 - i:Nat):Int) - 1=(n:Int) - 1 - ((i+1:Nat):Int):=⋯;rw[e2]at st';obtain⟨o,e,c,d⟩:=id st';exact#[u,rfl,V6 (s:={ s with heap:=h' }) e c d ∅ #[x,H,I1,ru,#[rfl,λys hy _=>by rw[I.list_inj hy hq];exact hx],#[hi,st'],λb hb=>(hf b hb).1]]
 done:=by
  intro X hP hw hK hc i Ac s σ H E I hf st hg;subst hP hw hK;obtain⟨f0,f1,f2,f3,f4,f5⟩:=hf it (by simp);have hi:i=n:=hg;have st2:=st.2;rw[hi,show (n:Int) - 1 - (n:Int)=-1 by lia]at st2;exact wpAny_pyNext_rev_end (I.ok.hd hc) st2 λh' eb=>#[rfl,I.turned (t':=s.toks) (λb o hb e=>eb b o hb e) f0 f1 f3 f4 f5]
 self:=λ_ _ _ _ _ st h=>sQ st.2 h
theorem JV:rH "reversed" = tY (.type "reversed"):=PyProof.Rows.boot_reversed
section
variable{X:Cx}{tg:rh}
def zeV(K:pW)(ta:TA):TI:=λσ H R=>ta σ H λvs H1=>∃a xs,vs=[.ref a]/\SqL K H1 a xs/\R (Irv K a xs.length) H1
theorem zdg{a:rh}{ta:TA}{p pos:rP}(hg:Gl X "reversed")(hm:X.mg "reversed" = tZ)(ha:PA X [a] ta)(hs:pT [a] X.env=[(Ab,eval a X.env)]:=by rfl) :
  PI X tg (.Call (.Name "reversed" p) [a] [] pos) (zeV X.K ta):=by
 intro Ac s σ H R I h;refine tX (wf I hg hm JV (bq (thn (ha pos Ac s σ H _ I h) λus s1 ⟨vs,H1,I1,r1,q1⟩=>?_) hs rfl));obtain⟨l,xs,e,hq,q⟩:=q1;subst e;obtain⟨u,rfl,ru⟩:=wg r1;cases ru;obtain⟨its,rv,pl,hz⟩:=I1.list hq;have hn:its.toArray.size=xs.length:=by rw[aj,<- rv.length]
 refine call_reversed_list pl.isList ?_
 have hit:(s1.heap.push (revObj l ((its.toArray.size:Int) - 1))).IsRevIter s1⁻¹ l ((xs.length:Int) - 1 - ((0:Nat):Int)):=by
  refine#[_,aG _ rfl,rfl,?_];rw[hn,show (xs.length:Int) - 1 - ((0:Nat):Int)=(xs.length:Int) - 1 by lia];rfl
 refine sQ (s:={ s1 with heap:=s1.heap.push (revObj l ((its.toArray.size:Int) - 1)) }) hit ?_;refine#[s1⁻¹,[s1⁻¹],_,_,H1,rfl,I1.kept (t':=s1.toks) λb o e=>ah _ e,Jm l _ xs.length,#[aD _,hit],λb hb=>?_,q];have e:b=s1⁻¹:=by simpa using hb
 subst e;exact I1.fpOk (al _) (I1.hok.fresh (al _))
end
section
variable{prog:rb}{w:rf}{A:rg}{E:pY->pZ->Prop}{s:pZ}
end
section
variable{X:Cx}
def zd6(K:pW)(ta:TA):TE:=λσ H Q=>ta σ H λvs H1=>∃a xs,vs=[.ref a]/\SqL K H1 a xs/\∀l,H1 l=tZ->Q (.ref l) (upd H1 l (.lst xs.reverse))
theorem VC{K:pW}{ta:TA}{σ:L2.St}{H:Hp}{Q:VK}:zd6 K ta σ H Q=ta σ H λvs H1=>∃a xs,vs=[.ref a]/\SqL K H1 a xs/\∀l,H1 l=tZ->Q (.ref l) (upd H1 l (.lst xs.reverse)):=rfl
end
noncomputable def Izp(K:pW)(a b:pX):It:=#[λi H=>∃xs ys x y,SqL K H a xs/\SqL K H b ys/\xs[i]? = tY x/\ys[i]? = tY y,λi H v H'=>∃p x y,H p=tZ/\(∀xs,SqL K H a xs->xs[i]? = tY x)/\(∀ys,SqL K H b ys->ys[i]? = tY y)/\v=.ref p/\H'=upd H p (.tup [x,y]),λi H=>∃xs ys,SqL K H a xs/\SqL K H b ys/\(xs.length=i\/ys.length=i)/\i<=xs.length/\i<=ys.length]
theorem wH{h:rj}{a b:pX}{o1 o2:rF}{t u:String}(h1:h.get? a=tY o1)(c1:o1.cls=.type t)(h2:h.get? b=tY o2)(c2:o2.cls=.type u)(hne:t≠u):a≠b:=λz=>by
 rw[z,h2]at h1;cases h1;rw[c2]at c1;exact hne (Value.type.inj c1).symm
structure zcg(z TI TO i1 i2:pX):Prop where
 TIz:TI≠z
 TOz:TO≠z
 i1z:i1≠z
 i2z:i2≠z
 TITO:TI≠TO
 TIi1:TI≠i1
 TIi2:TI≠i2
 TOi1:TO≠i1
 TOi2:TO≠i2
 i12:i1≠i2
def ZipAt(z TI TO i1 i2 l1 l2:pX)(i:Nat)(h:rj):Prop:=IsZip h z TI TO .none/\IsPair h TI (.ref i1) (.ref i2)/\(∃a b,IsPair h TO a b)/\h.IsListIter i1 l1 i/\h.IsListIter i2 l2 i
theorem ZipAt.apart{z TI TO i1 i2 l1 l2:pX}{i:Nat}{h:rj}{xs ys:Array pY}(D:zcg z TI TO i1 i2)(st:ZipAt z TI TO i1 i2 l1 l2 i h)(h1:h.IsList l1 xs)(h2:h.IsList l2 ys):ZipApart z TI TO i1 i2 l1 l2:=by
 obtain⟨hz,hTI,⟨a,b,hTO⟩,⟨o1,e1,c1,_⟩,⟨o2,e2,c2,_⟩⟩:=st;obtain⟨p1,q1,k1,_⟩:=h1;obtain⟨p2,q2,k2,_⟩:=h2;exact#[D.TIz,D.TOz,D.i1z,D.i2z,D.TITO,D.TIi1,D.TIi2,D.TOi1,D.TOi2,D.i12,wH q1 k1 hz rfl ∅,wH q1 k1 hTO rfl ∅,wH q1 k1 e1 c1 ∅,wH q1 k1 e2 c2 ∅,wH q2 k2 hz rfl ∅,wH q2 k2 hTO rfl ∅,wH q2 k2 e1 c1 ∅,wH q2 k2 e2 c2 ∅]
section
variable{X:Cx}
def zfx(K:pW)(ta:TA):TI:=λσ H R=>ta σ H λvs H1=>∃a b,vs=[.ref a,.ref b]/\(∃xs,SqL K H1 a xs)/\(∃ys,SqL K H1 b ys)/\R (Izp K a b) H1
end
def zfz(K:pW)(a b:pX)(g:TG)(tb:TS)(D:vf)(σ:L2.St)(H:Hp):Prop:=∃W:Nat->Nat->L2.St->Hp->Prop,(∃m,W 0 m σ H)/\∀i m σ H,W i m σ H ->
 ((Izp K a b).stop i H/\D.nx σ H)\/((Izp K a b).go i H/\∃N:L2.St->Hp->Prop,(∀σ' H',N σ' H'->∃m',m'<m/\W (i+1) m' σ' H')/\∀x H',(Izp K a b).yld i H x H'->g x σ H' λσ2 H2=>tb { D with nx:=N,ct:=N,bk:=D.nx } σ2 H2)
theorem zfa{K:pW}{ta:TA}{g:TG}{tb:TS}{D:vf}{σ:L2.St}{H:Hp}:Ka (zfx K ta) g tb D σ H=ta σ H λvs H1=>∃a b,vs=[.ref a,.ref b]/\(∃xs,SqL K H1 a xs)/\(∃ys,SqL K H1 b ys)/\zfz K a b g tb D σ H1:=rfl
noncomputable abbrev xob(C:pX)(dx:Option pX)(t:pX)(tb:pY):rF:={ cls:=.ref C,dict:=dx,data:=.fields (List.toArray [.ref t,tb,.none,.none,.bool Ab,.none]) }
noncomputable abbrev xog(C:pX)(dx:Option pX)(t:pX)(tb c:pY)(k:Bool):rF:={ cls:=.ref C,dict:=dx,data:=.fields (List.toArray [.ref t,tb,c,.none,.bool k,.none]) }
def zaC(h:rj)(x:pX)(tb:pY):Prop:=tb=.none\/∃T oT ts,tb=.ref T/\T≠x/\h.get? T=tY oT/\oT.data=.fields ts/\3<ts.size
section
variable{M:tJ}{A:rg}{E:pY->pZ->Prop}{s:pZ}{base:rj}{env env0:sN}{outer:List sN}{L x t C:pX}{dx:Option pX}{cx:pY}{kx:Bool}
theorem ZP(h:env.frame=env0.frame):dZ env=dZ env0:=by unfold dZ;rw[h]
theorem Zg{tb head:pY}{hadNext:Bool}{Q:Unit->pZ->Prop}(hfr:A.frames=tY (env0::outer))(hl:s.heap.FunFrames base (env0::outer))(hf:env0.frame=tY L)(he:env.frame=tY L)
  (hx:s.heap.get? x=tY (xog C dx t tb cx kx))
  (h:∀h' oT ts,h'.get? x=tY (xog C dx t (.ref s⁻¹) cx kx)->s⁻¹≠x->h'.get? s⁻¹=tY oT->oT.data=.fields ts->3<ts.size ->
   (∀b o,b≠x->b ∉ frs (env0::outer)->s.heap.get? b=tY o->h'.get? b=tY o)->(∀b o,b≠x->s.heap.get? b=tY o->∃sl,h'.get? b=tY { o with slots:=sl })->Q Unit.unit { s with heap:=h' }) :
  rd M A (do let a <- dZ env;let pl <- entryPlaceOf L hadNext;let b <- EntryCells.newEntry head a .none (rawInt L) .none pl;setField (.ref x) 1 b) Q E s:=by
 have hxf:x ∉ frs (env0::outer):=λhm=>by
  obtain⟨_,o,ho,hnf⟩:=hl.mem hm;rw[hx]at ho;cases ho;exact hnf _ rfl
 rw[ZP (he.trans hf.symm)];refine pQ (wpAny_frameOf_fun hfr hl hf λh1 hs1=>pQ (wpAny_entryPlaceOf λpl hpl=>?_));unfold EntryCells.newEntry newFields;refine pQ (tF ?_ (hpl.sizeOk5 _ _ _ _ _));have hz:h1.objs.size=s⁻¹:=hs1.1;have hx1:h1.get? x=tY (xog C dx t tb cx kx):=(hs1.2.1 x hxf).trans hx;generalize ho:({ cls:=.type "traceback",dict:=tZ,data:=.fields ([head,.ref L,.none,rawInt L,.none] ++ (if pl.isEmpty then aT 6 Value.none else pl)).toArray }:rF)=ob;have hx2:(h1.push ob).get? x=tY (xog C dx t tb cx kx):=ah _ hx1;refine rR hx2 rfl (by show 1<6;decide) ?_;have hne:h1.objs.size≠x:=cB (aq hx1)
 have hx3:((h1.push ob).update x (Obj.mapFields (·.setIfInBounds 1 (Value.ref h1.objs.size)))).get? x=tY (xog C dx t (.ref h1.objs.size) cx kx) :=
  cr (Obj.mapFields (·.setIfInBounds 1 (Value.ref h1.objs.size))) hx2 rfl
 have hT:((h1.push ob).update x (Obj.mapFields (·.setIfInBounds 1 (Value.ref h1.objs.size)))).get? h1.objs.size=tY ob :=
  (aE _ _ (Ne.symm hne)).trans (aG h1 (by rw[<- ho];rfl))
 rw[hz]at hx3 hT hne
 have kp:∀b o,b≠x->h1.get? b=tY o->((h1.push ob).update x (Obj.mapFields (·.setIfInBounds 1 (Value.ref h1.objs.size)))).get? b=tY o:=λb o hb e =>
  (aE _ _ (Ne.symm hb)).trans (ah _ e)
 rw[hz]at kp ⊢;refine h _ ob _ hx3 hne hT (by rw[<- ho]) (by erw[aj,ak,aB,cu] <;> lia) (λb o hb hbf e=>kp b o hb ((hs1.2.1 b hbf).trans e)) λb o hb e=>?_;obtain⟨sl,q⟩:=hs1.2.2 b o e;exact#[sl,kp b _ hb q]
theorem kJ{tb:pY}{Q:Unit->pZ->Prop}(hfr:A.frames=tY (env0::outer))(hl:s.heap.FunFrames base (env0::outer))(hf:env0.frame=tY L)(he:env.frame=tY L)
  (hx:s.heap.get? x=tY (xog C dx t tb cx kx)) (htb:zaC s.heap x tb)
  (h:∀h' T oT ts,h'.get? x=tY (xog C dx t (.ref T) cx kx)->T≠x->(tb=.ref T\/s⁻¹<=T)->h'.get? T=tY oT->oT.data=.fields ts->3<ts.size ->
   (∀b o,b≠x->tb≠.ref b->b ∉ frs (env0::outer)->s.heap.get? b=tY o->h'.get? b=tY o)->(∀b o,b≠x->tb≠.ref b->s.heap.get? b=tY o->∃sl,h'.get? b=tY { o with slots:=sl })->Q Unit.unit { s with heap:=h' }) :
  rd M A (noteFrame (.ref x) env) (λ_ s1=>rd M A (setFlight (.ref x) tZ) Q E s1) E s:=by
 have land:∀(h1:rj) (T:pX) (oT:rF) (ts:Array pY),h1.get? x=tY (xog C dx t (.ref T) cx kx)->T≠x->(tb=.ref T\/s⁻¹<=T)->h1.get? T=tY oT->oT.data=.fields ts->3<ts.size ->
   (∀b o,b≠x->tb≠.ref b->b ∉ frs (env0::outer)->s.heap.get? b=tY o->h1.get? b=tY o)->(∀b o,b≠x->tb≠.ref b->s.heap.get? b=tY o->∃sl,h1.get? b=tY { o with slots:=sl }) ->
   rd M A (setFlight (.ref x) tZ) Q E { s with heap:=h1 }:=λh1 T oT ts e1 nT oldT e2 d2 z2 k1 k2=>by
  unfold setFlight;refine pQ (rT (s:={ s with heap:=h1 }) e1 rfl (x:=.ref T) rfl ?_);rw[if_pos (show (Value.ref T != Value.none)=Aa from by simp)];refine rR (s:={ s with heap:=h1 }) e2 d2 z2 ?_;have d3:=Obj.data_mapFields d2 (·.setIfInBounds 3 ((tZ:Option pX).elim Value.none λf=>rawInt f))
  have nb:∀b,b≠x->tb≠.ref b->(∃o,s.heap.get? b=tY o)->b≠T:=λb hb hbt ⟨o,eo⟩ z=>by
   subst z;rcases oldT with q | q
   ·exact hbt q
   ·exact absurd (aq eo) (Nat.not_lt.mpr q)
  refine h _ T _ _ ((aE _ _ nT).trans e1) nT oldT (cr _ e2 (Obj.isFreed_of_fields d3)) d3 (by simpa using z2) (λb o hb hbt hbf e=>?_) λb o hb hbt e=>?_
  ·exact (aE _ _ (Ne.symm (nb b hb hbt #[o,e]))).trans (k1 b o hb hbt hbf e)
  ·obtain⟨sl,q⟩:=k2 b o hb hbt e;exact#[sl,(aE _ _ (Ne.symm (nb b hb hbt #[o,e]))).trans q]
 unfold noteFrame
 erw[he]
 refine pQ (rT hx rfl (x:=tb) rfl ?_);rcases htb with rfl | ⟨T,oT,ts,rfl,nT,e2,d2,z2⟩
 ·rw[if_neg ∅];refine Zg hfr hl hf he hx λh' oT ts e1 ne e2 d2 z2 k1 k2=>land h' _ oT ts e1 ne (.inr (al _)) e2 d2 z2 (λb o hb _ hbf e=>k1 b o hb hbf e) λb o hb _ e=>k2 b o hb e
 ·rw[if_pos (show (Value.ref T != Value.none)=Aa from by simp)];obtain⟨y,hy⟩:∃y,ts[3]? = tY y:=#[ts[3],by simp [z2]];refine pQ (rT e2 d2 (x:=y) hy ?_);by_cases c:(y == rawInt L)=Aa
  ·rw[if_pos c];exact pR (land s.heap T oT ts hx nT (.inl rfl) e2 d2 z2 (λb o _ _ _ e=>e) λb o _ _ e=>#[o.slots,e])
  ·rw[if_neg c];refine pQ (rR e2 d2 z2 ?_);have oth:∀b,b≠T->(s.heap.update T (Obj.mapFields (·.setIfInBounds 3 Value.none))).get? b=s.heap.get? b:=λb hb=>aE _ _ (Ne.symm hb);have hl1:(s.heap.update T (Obj.mapFields (·.setIfInBounds 3 Value.none))).FunFrames base (env0::outer):=hl.of_keeps λb o hb hnf=>#[o,(oth b λq=>by rw[q,e2]at hb;cases hb;exact hnf ts d2).trans hb,rfl];have hsz:(s.heap.update T (Obj.mapFields (·.setIfInBounds 3 Value.none))).objs.size=s⁻¹:=dn ..;refine Zg (s:={ s with heap:=s.heap.update T (Obj.mapFields (·.setIfInBounds 3 Value.none)) }) hfr hl1 hf he ((oth x (Ne.symm nT)).trans hx) λh' oT' ts' e1 ne e2' d2' z2' k1 k2=>?_;refine land h' _ oT' ts' e1 ne (.inr (by rw[hsz];exact al _)) e2' d2' z2' (λb o hb hbt hbf e=>k1 b o hb hbf ((oth b λq=>hbt (by rw[q])).trans e)) λb o hb hbt e=>k2 b o hb ((oth b λq=>hbt (by rw[q])).trans e)
theorem zbD{tb:pY}{Q:Unit->pZ->Prop}(hfr:A.frames=tY (env0::outer))(hl:s.heap.FunFrames base (env0::outer))(hf:env0.frame=tY L)(he:env.frame=tY L)
  (hx:s.heap.get? x=tY (xog C dx t tb cx kx)) (htb:zaC s.heap x tb)
  (h:∀h' T oT ts,h'.get? x=tY (xog C dx t (.ref T) cx kx)->T≠x->(tb=.ref T\/s⁻¹<=T)->h'.get? T=tY oT->oT.data=.fields ts->3<ts.size ->
   (∀b o,b≠x->tb≠.ref b->b ∉ frs (env0::outer)->s.heap.get? b=tY o->h'.get? b=tY o)->(∀b o,b≠x->tb≠.ref b->s.heap.get? b=tY o->∃sl,h'.get? b=tY { o with slots:=sl })->Q Unit.unit { s with heap:=h' }) :
  rd M A (leaving env (.ref x)) Q E s:=pQ (kJ hfr hl hf he hx htb h)
end
def CXx(P:rb)(w:rf):CXT:=λouter H s E e s'=>∃(x C t:pX) (dx:Option pX) (tb:pY) (H':Hp),e=.ref x/\s'.os=s.os/\sy s'.gens/\Un (frs outer) [] H H' s.heap s'.heap/\HOk P w H' s'.heap /\
 s'.heap.get? x=tY (xob C dx t tb)/\zaC s'.heap x tb/\H' x=tZ/\s⁻¹<=x/\(∀T,tb=.ref T->H' T=tZ/\s⁻¹<=T)/\E (.ref C) dx H'
def zda(X:Cx)(E:XK)(e:pY)(s:pZ):Prop:=∃(Ac:List (pX × rF)) (σ:St) (H:Hp) (x C t:pX) (dx:Option pX) (tb:pY),e=.ref x/\Inv X Ac σ H s /\
 s.heap.get? x=tY (xob C dx t tb)/\zaC s.heap x tb/\xU X Ac H x/\(∀T,tb=.ref T->xU X Ac H T)/\E (.ref C) dx H
def XE(X:Cx)(E:XK):Prop:=∀e s,zda X E e s->X.xe e s
theorem X3{X:Cx}{E:XK}(hx:XE X E):uD (CXx X.prog X.w) X E:=by
 intro Ac σ H s e s' I h;obtain⟨x,C,t,dx,tb,H',rfl,os,bare,un,hok,ob,tr,hn,hsz,hT,q⟩:=h;have I':Inv X Ac σ H' s':=I.call' os un hok bare λb z=>absurd z (by simp);exact hx _ _ #[Ac,σ,H',x,C,t,dx,tb,rfl,I',ob,tr,I.fpOk hsz hn,λT e=>I.fpOk (hT T e).2 (hT T e).1,q]
theorem zdh{P:rb}{w:rf}{K:pW}{mg:re->Option pY}{base:rj}{N:List re}{qual:re}{scope:rL}{f:pX}{cd:pY}{A:rg}{outer:List sN}{s:pZ}{H:Hp}{E:XK} :
  XE (uT (CXx P w) P w K mg base N qual scope f cd A outer s H E) E:=by
 intro e s1 h;obtain⟨Ac,σ,H1,x,C,t,dx,tb,rfl,I,ob,tr,fx,fT,q⟩:=h;show rd _ _ (leaving _ (.ref x)) _ _ s1;have ff:=I.stack;refine zbD (A:=(uT (CXx P w) P w K mg base N qual scope f cd A outer s H E).A) (env0:=sw qual scope s⁻¹ f cd) (outer:=outer) I.ok.frames ff rfl rfl ob tr λh' T oT ts e1 nT oldT e2 d2 z2 k1 k2=>?_;have szs:s⁻¹<=s1⁻¹:=I.sz
 have hxs:s⁻¹<=x:=by
  rcases fx.2.2.2.1 with z | z
  ·exact absurd z (by simp [uT])
  ·exact z
 have hTs:s⁻¹<=T/\H1 T=tZ:=by
  rcases oldT with z | z
  ·obtain⟨a0,_,_,a3,_⟩:=fT T z;rcases a3 with y | y
   ·exact absurd y (by simp [uT])
   ·exact#[y,a0]
  ·exact#[aK szs z,I.hok.fresh z]
 have tbs:∀b,tb=.ref b->s⁻¹<=b/\H1 b=tZ:=λb hb=>by
  obtain⟨a0,_,_,a3,_⟩:=fT b hb;rcases a3 with y | y
  ·exact absurd y (by simp [uT])
  ·exact#[y,a0]
 have old:∀b o,s.heap.get? b=tY o->b≠x/\tb≠.ref b:=λb o e=>by
  have hb:=aq e;refine#[ay (av hb hxs),λz=>?_];exact absurd (av hb (tbs b z).1) (cH _)
 have un:Un (frs outer) [] H H1 s.heap h':=by
  have B:=I.base;refine#[λb o e n hb _=>?_,λb o e n hb _=>?_,λb o e n _=>B.free b o e n (by simp [uT]),λb o e _=>?_,B.tups,B.frzs,B.tbls]
  ·have e1:=B.keep b o e n hb (by simp [uT]);refine k1 b o (old b o e).1 (old b o e).2 (λz=>?_) e1;have z':=I.stkSub b z;rcases Ah.mp z' with q | q
   ·exact absurd q (ay (av (aq e) I.ok.above))
   ·exact hb q
  ·obtain⟨sl,e1⟩:=B.slot b o e n hb (by simp [uT]);obtain⟨sl',e2⟩:=k2 b _ (old b o e).1 (old b o e).2 e1;exact#[sl',e2]
  ·obtain⟨o',e1⟩:=B.there b o e (by simp [uT]);obtain⟨sl',e2⟩:=k2 b _ (old b o e).1 (old b o e).2 e1;exact#[_,e2]
 have hok:HOk P w H1 h':=λb u e=>by
  refine (I.hok b u e).stay (λc v hc q=>k1 c v ?_ ?_ ?_ q) (λ_ q=>q) λ_ _ q=>q
  ·rintro rfl;rcases hc with rfl | hc
   ·rw[fx.1]at e;cases e
   ·rw[fx.1]at hc;cases hc
  ·intro z;have:=(tbs c z).2;rcases hc with rfl | hc
   ·rw[this]at e;cases e
   ·rw[this]at hc;cases hc
  ·intro z;have:=I.stkFree c z;rcases hc with rfl | hc
   ·rw[this]at e;cases e
   ·rw[this]at hc;cases hc
 exact#[x,C,t,dx,.ref T,H1,rfl,I.os,I.bare,un,hok,e1,.inr #[T,oT,ts,rfl,nT,e2,d2,z2],fx.1,hxs,λT' z=>by cases z;exact#[hTs.2,hTs.1],q]
theorem Fun.okX{P:rb}{w:rf}{K:pW}{mg:re->Option pY}{base:rj}{x qual:re}{st:rn}{f:pX}{fd:ra}{N ps:List re}{k:Nat}{sp:Sp}(F:Fun K x qual st f fd)(S:zl N ps (zh st))(len:∀vs H Q E,sp vs H Q E->vs.length=ps.length)
  (hbody:∀(cdv:pY) (A:rg) (outer:List sN) (s:pZ) (H:Hp) (vs:List V) (Q:VK) (E:XK),Room k (A.deeper (sw qual (zh st) s⁻¹ f cdv))->XE (uT (CXx P w) P w K mg base N qual (zh st) f cdv A outer s H E) E->sp vs H Q E ->
   ∃t,PSs (uT (CXx P w) P w K mg base N qual (zh st) f cdv A outer s H E) (ya st) t/\t { nx:=λ_ H'=>Q .non H',rt:=Q } (start N vs) H):zR P w K mg base (CXx P w) (k+1) f fd ps sp:=by
 obtain⟨oc,od,kV,doc,pm,an,cdv,ct,osl,rfl,lk,hcd⟩:=F.ex;exact JJ lk hcd S len λA outer s H vs Q E hr hsp=>hbody cdv A outer s H vs Q E hr zdh hsp
def zcU(X:Cx)(E:XK)(e:pY)(s:pZ):Prop:=∃(cx:pY) (kx:Bool) (Ac:List (pX × rF)) (σ:St) (H:Hp) (x C t:pX) (dx:Option pX) (tb:pY),e=.ref x/\Inv X Ac σ H s /\
 s.heap.get? x=tY (xog C dx t tb cx kx)/\zaC s.heap x tb/\xU X Ac H x/\(∀T,tb=.ref T->xU X Ac H T)/\E (.ref C) dx H
def XEg(X:Cx)(E:XK):Prop:=∀e s,zcU X E e s->X.xe e s
structure RoomH(k:Nat)(A:rg):Prop where
 dp:A.depth+3 * k+5<sW
 un:A.units+16 * k+200<cLine
theorem RoomH.mark{k:Nat}{A:rg}(r:RoomH k A)(e:Option pY):RoomH k (A.mark e):=#[r.dp,r.un]
noncomputable def cxH(P:rb)(w:rf)(K:pW)(mg:re->Option pY)(base:rj)(N:List re)(qual:re)(scope:rL)(f:pX)(cd:pY)(A:rg)(outer:List sN)(s:pZ)(H:Hp):Cx :=
 { uT CX0 P w K mg base N qual scope f cd A outer s H E0 with calm:=Ab,xe:=λ_ _=>False }
section
variable{X:Cx}{k:Nat}{f:pX}{fd:ra}{ps:List re}{sp:Sp}{x:re}{p pos:rP}{e:rh}{es:List rh}{t:TA}
end
noncomputable abbrev bmV:List pY:=[.type "ValueError",.type "Exception",.type "BaseException",.type "object"]
noncomputable def ZM(K:pW)(C:pX):Bool:=match K.lookup C with
 | some ⟨.type "type",_,.cls cd,sl⟩=>(match cd.mro,sl.toList with
  | .ref C'::bm,[_,_,_,_,tY (.builtin n),_]=>C' == C && (n == "ValueError.__new__" && (!cd.hasDel && (cd.hasDict && PySem.W.tailIn K bmV bm)))
  | _,_=>Ab)
 | _=>Ab
theorem vG{K:pW}{C:pX}(q:ZM K C=Aa):∃bm N nm qn bs sn sub ab col dd k0 k1 k2 k3 k5,K.lookup C=tY (sX nm qn C N bs bm Aa sn sub ab col dd k0 k1 k2 k3 k5 "ValueError.__new__")/\∀h:rj,K.In h->OwnTail h bmV bm:=by
 unfold ZM at q;split at q
 ·rename_i dd cd sl ho;split at q
  ·rename_i C' bm k0 k1 k2 k3 n k5 hm hs
   erw[ci,beq_iff_eq,di]at q
   obtain⟨rfl,rfl,hdel,hdct,ht⟩:=q;obtain⟨nm,bs,mro,ns,qn,hd,sn,sub,ab,col,del⟩:=cd;dsimp only at hm hdel hdct;subst hm hdel hdct
   have hsl:sl=(List.toArray [k0,k1,k2,k3,tY (.builtin "ValueError.__new__"),k5]):=by
    obtain⟨l⟩:=sl;simp only at hs;rw[hs]
   subst hsl;exact#[bm,ns,nm,qn,bs,sn,sub,ab,col,dd,k0,k1,k2,k3,k5,ho,λh X=>PySem.W.tail_of_in X ht]
  ·cases q
 ·cases q
structure XC(K:pW)(C:pX):Prop where
 ok:ZM K C=Aa
 sa:ag K (.ref C) "__setattr__" = tY (tY (.builtin "object.__setattr__"))
 ga:ag K (.ref C) "__getattribute__" = tY (tY (.builtin "BaseException.__getattribute__"))
 gt:ag K (.ref C) "__getattr__" = tY tZ
 kp:aJ K (.ref C)=Aa
section
variable{prog:rb}{w:rf}{A:rg}{R:sY->pZ->Prop}{h:rj}{g:Array tK}{d:Drawn}{t:Nat}{os:OsState}{K:pW}{C:pX}
theorem Xw{init:pY}{rest:List pY}(X:K.In h)(q:ZM K C=Aa)(hi:ag K (.ref C) "__init__" = tY (tY init))
  (hb:∀self,PySem.W.Looks (model prog w) h (bindSpecial init self) (init,[self])) (hrest:rest.length<=pV)
  (hq:rY (model prog w) (A.under (.builtin "type.__call__" #[.ref C::rest,[]])) (.call init #[.ref (h.objs.size+1)::rest,[]]) (PySem.W.InitBack (h.objs.size+1) R) #[(h.push { cls:=.type "tuple",data:=.seq rest.toArray }).push (xob C tZ h.objs.size .none),g,d,t,os]) :
  rY (model prog w) A (.call (.ref C) #[rest,[]]) R #[h,g,d,t,os]:=by
 obtain⟨bm,N,nm,qn,bs,sn,sub,ab,col,dd,k0,k1,k2,k3,k5,lk,tl⟩:=vG q;have hC:=X _ _ lk;have T:=tl h X;have F:=d4;have f1:=tc_lookup;have f2:=tc_bind (.ref C);have hT:(#[h,g,d,t,os]:pZ).TypeIs (.ref C) "type":=#[_,hC,rfl];refine codeAny_of_tree ?_;show rd _ _ (callAny (.ref C) _) _ _ _
 repeat (any_goals (first | assumption | with_reducible refine rK hC ?_ | wp_step))
 refine#[rfl,?_];refine codeAny_call_builtin_at (Code.quiet_builtin _ (by symm)) entry_typeCall (wpAny_check_type_call_sub hC ?_)
 repeat (first | with_reducible refine rK hC ?_ | with_reducible refine wpAny_madeBy_exc hC ?_ | wp_step)
 refine codeAny_call_builtin_code (Code.quiet_builtin _ F.quiet) (wpAny_check_new_subT F T hC ?_);refine codeAny_exc_new_subT F T hC ?_ hrest;show rd _ _ _ _ _ _;have k:∀b o,h.get? b=tY o->((h.push { cls:=.type "tuple",data:=.seq rest.toArray }).push (xob C tZ h.objs.size .none)).get? b=tY o:=λb o e=>ah _ (ah _ e);have hC1:=k _ _ hC;have hget:((h.push { cls:=.type "tuple",data:=.seq rest.toArray }).push (xob C tZ h.objs.size .none)).get? (h.objs.size+1)=tY (xob C tZ h.objs.size .none):=by heap_get
 have hcC:(Value.ref C::bm).contains (.ref C)=Aa:=by simp
 unfold isInstance
 repeat (first | with_reducible refine rK hget ?_ | wp_step)
 refine rZ (C:=C) hC1 ?_;rw[hcC]
 repeat wp_step
 show rd _ _ (typeLookup (.ref C) _) _ _ _;refine ((cA X hi).keeps k).at ?_;refine rG (pQ (((hb _).keeps k).at ?_));refine pQ (rV (rX hq λr s' z=>?_));rcases r with e | (v | _ | _ | _) <;> first | exact z | exact z.elim | skip;obtain⟨rfl,z⟩:=z;exact pR (pR z)
end
noncomputable def XN(x C:pX)(dx:Option pX):HO:=.ext λh=>∃t,h.get? x=tY (xob C dx t .none)
noncomputable def XT(x C:pX)(dx:Option pX):HO:=.ext λh=>∃t tb c k,h.get? x=tY (xog C dx t tb c k)
noncomputable def XP(x C:pX)(dx:Option pX):HO:=.ext λh=>∃t tb,h.get? x=tY (xob C dx t tb)
theorem zcD{P:rb}{w:rf}{H:Hp}{h:rj}{x C t:pX}{dx:Option pX}(e:h.get? x=tY (xob C dx t .none)):ObjOk P w H h x (XN x C dx) :=
 #[#[t,e],#[_,e],λh1 h2 ⟨t,q⟩ k=>#[t,k _ q]]
theorem zc1{P:rb}{w:rf}{H:Hp}{h:rj}{x C t:pX}{dx:Option pX}{tb c:pY}{k:Bool}(e:h.get? x=tY (xog C dx t tb c k)):ObjOk P w H h x (XT x C dx) :=
 #[#[t,tb,c,k,e],#[_,e],λh1 h2 ⟨t,tb,c,k',q⟩ k=>#[t,tb,c,k',k _ q]]
theorem zb7{P:rb}{w:rf}{H:Hp}{h:rj}{x C:pX}{dx:Option pX}(o:ObjOk P w H h x (XN x C dx)):∃t,h.get? x=tY (xob C dx t .none):=o.1
theorem zeM{P:rb}{w:rf}{H:Hp}{h:rj}{x C:pX}{dx:Option pX}(o:ObjOk P w H h x (XT x C dx)):∃t tb c k,h.get? x=tY (xog C dx t tb c k):=o.1
section
variable{nm q:re}{C N:pX}{bs bm:List pY}{hdct:Bool}{sn:List re}{sub:List pY}{ab:Bool}{col:Option Bool}{dd:Option pX}{k0 k1 k2 k3 k5:Option pY}{newId:String}{h:rj}{M:tJ}
theorem Z5(hC:h.get? C=tY (sX nm q C N bs bm hdct sn sub ab col dd k0 k1 k2 k3 k5 newId))(base:pY):PySem.W.Looks M h (isSubtype (.ref C) base) ((Value.ref C::bm).contains base):=λA Q E s k z=>by
 obtain⟨hp,g,d,t,os⟩:=s;exact rZ (k _ _ hC) z
theorem Uw(hC:h.get? C=tY (sX nm q C N bs bm hdct sn sub ab col dd k0 k1 k2 k3 k5 newId)):PySem.W.Looks M h (mroOf (.ref C)) (.ref C::bm):=λA Q E s k z=>by
 obtain⟨hp,g,d,t,os⟩:=s;exact wpAny_mroOf_exc (k _ _ hC) z
theorem Uz(hC:h.get? C=tY (sX nm q C N bs bm hdct sn sub ab col dd k0 k1 k2 k3 k5 newId)):PySem.W.Looks M h (classData C) { name:=nm,bases:=bs,mro:=.ref C::bm,ns:=N,qualname:=q,hasDict:=hdct,slotNames:=sn,subclasses:=sub,abstract:=ab,collection:=col,hasDel:=Ab }:=λA Q E s k z=>by
 unfold classData;exact pQ (wpAny_load (k _ _ hC) (pR z))
theorem Xm{bmB bm:List pY}(T:OwnTail h bmB bm)(self:pY)(hp:refuseLoop self "__setattr__" bmB=pure Unit.unit):refuseLoop self "__setattr__" bm=pure Unit.unit:=by
 induction T with
 | base=>exact hp
 | own _ _ _ _ ih=>rw[refuseLoop_ref];exact ih
end
section
variable{X:Cx}{Ac:List (pX × rF)}{σ:St}{H:Hp}{s:pZ}{A:rg}{E:pY->pZ->Prop}{x C:pX}{f:re}{y:V}{u:pY}
theorem zbO{Q:Unit->pZ->Prop}(I:Inv X Ac σ H s)(e:H x=tY (XN x C tZ))(xc:XC X.K C)(n:NoAttr X.K C f)(ry:RelV y u)
  (h:∀s' dx,H dx=tZ->Inv X Ac σ (upd (upd H dx (.xd [(f,y)])) x (XN x C (tY dx))) s'->Q Unit.unit s'):rd (model X.prog X.w) A (setAttr (.ref x) f u) Q E s:=by
 obtain⟨t,ob⟩:=zb7 (I.hok x _ e);obtain⟨bm,N,nm,qn,bs,sn,sub,ab,col,dd,k0,k1,k2,k3,k5,lk,tl⟩:=vG xc.ok;have hC:=I.kIn _ _ lk;have T:=tl _ I.kIn;have SF:=PySem.F.store_ValueError;have J:PySem.W.InstAt s.heap x (xob C tZ t .none) C tZ:=#[ob,rfl,rfl,trivial];have hob:(Value.ref C::bm).contains (.type "object")=Aa:=by rw[dc,T.hasType (show bmV.contains (.type "object")=Aa by symm),dB]
 have isO:PySem.W.Looks (model X.prog X.w) s.heap (isInstance (.ref x) (.type "object")) Aa:=J.type.andThen (by have:=Z5 (M:=model X.prog X.w) hC (.type "object");rw[hob]at this;exact this);refine fM I.kIn J xc.sa ?_;refine su SF.slot.plain SF.entry (@PySem.W.check_slot (model X.prog X.w) _ _ { s with toks:=s.toks+1 } "object.__setattr__" "object" "__setattr__" (.ref x) [.str f s.toks,u] [] _ SF.kind SF.split isO (SF.args _ _ _) ?_);rw[PySem.W.osa_eq,refuse_eq];refine pQ (pQ (J.type.here (s:={ s with toks:=s.toks+1 }) (pQ ((Uw hC).here (s:={ s with toks:=s.toks+1 }) ?_))));rw[refuseLoop_ref,Xm T _ (SF.passes _)];refine pR (pQ (J.type.here (s:={ s with toks:=s.toks+1 }) (pQ ((cA I.kIn n).here (s:={ s with toks:=s.toks+1 }) (pQ (pR ?_))))));show rd _ _ (Builtin.ObjectAttr.storeInOwnDict (.ref x) (.ref C) (.str f s.toks) f u Ab) _ _ _;have hx1:(s.heap.push { cls:=.type "dict",data:=.dict #[] }).get? x=tY (xob C tZ t .none):=ah _ ob;have hxs:x≠s⁻¹:=ay (aq ob);refine pQ (pR (pQ (pQ (sU ob (pQ ((Uz hC).here (s:={ s with toks:=s.toks+1 }) ?_))))));rw[if_neg (by simp)];show rd _ _ (if (!Aa || !typeHasDict (.ref C))=Aa then _ else _) _ _ _;rw[if_neg (by simp [typeHasDict])]
 have hgd:((s.heap.push { cls:=.type "dict",data:=.dict #[] }).update x λo=>{ cls:=o.cls,dict:=tY s⁻¹,data:=o.data,slots:=o.slots }).get? s⁻¹=tY { cls:=.type "dict",data:=.dict #[] } :=
  (aE _ _ hxs).trans (Heap.get?_push_at rfl rfl)
 have hgx:((s.heap.push { cls:=.type "dict",data:=.dict #[] }).update x λo=>{ cls:=o.cls,dict:=tY s⁻¹,data:=o.data,slots:=o.slots }).get? x=tY (xob C (tY s⁻¹) t .none) :=
  cr _ hx1 rfl
 have hnd:((s.heap.push { cls:=.type "dict",data:=.dict #[] }).update x λo=>{ cls:=o.cls,dict:=tY s⁻¹,data:=o.data,slots:=o.slots }).Ns s⁻¹ (λ_=>tZ) :=
  #[_,#[],_,hgd,rfl,λe he=>absurd he (by simp),λ_=>rfl]
 refine pQ (wpAny_alloc' (pQ (wpAny_update' hx1 (pR ?_))));show rd _ _ (Builtin.ObjectAttr.storeInDict s⁻¹ (.str f s.toks) f u) _ _ _;unfold Builtin.ObjectAttr.storeInDict Builtin.ObjectAttr.newKeyGuard;refine pQ (pR (pQ (wpAny_nsSet1 (Heap.Ns1.of_empty hnd) λh' hn' hs=>?_)));obtain⟨oD,esD,epD,hoD,hdD,hcD⟩:=hn'.count (Within.cons f u Within.nil);refine pQ (tL hoD (by rw[hdD];exact pastItsLine_dict (aK hcD (by rw[aB,cu,rE];lia))) ?_);refine pR ?_;have hx2:h'.get? x=tY (xob C (tY s⁻¹) t .none):=(hs.2 x hxs).trans hgx;have hfr:H s⁻¹=tZ:=I.hok.fresh (al _);have hxe:x≠s⁻¹:=hxs;refine h _ s⁻¹ hfr ?_
 have k0:∀b o,b≠x->s.heap.get? b=tY o->h'.get? b=tY o:=λb o hb q =>
  (hs.2 b (ay (aq q))).trans ((aE _ _ (Ne.symm hb)).trans (ah _ q))
 have I1:Inv X Ac σ (upd H x (XN x C (tY s⁻¹))) { s with heap:=h',toks:=s.toks+1+1 } :=
  I.write (x:=x) (e:=x) (by rw[e];exact True.intro) (.inl rfl) k0 ⟨_,hx2⟩ (zcD hx2)
 have hd2:ObjOk X.prog X.w (upd (upd H x (XN x C (tY s⁻¹))) s⁻¹ (.xd [(f,y)])) h' s⁻¹ (.xd [(f,y)]):=by
  refine#[_,hn',λg=>?_];show RelO (bo g [(f,y)]) (if g=f then tY u else tZ);by_cases q:g=f
  ·subst q;rw[if_pos rfl];simp [bo,RelO,ry]
  ·rw[if_neg q];have q':(g == f)=Ab:=by simpa using q
   simp [bo,q',RelO]
 have fd:xU X Ac (upd H x (XN x C (tY s⁻¹))) s⁻¹:=I.fpOk (al _) (by rw[zp (Ne.symm hxe)];exact hfr);have I2:=Inv.track I1 fd hd2
 have eH:upd (upd H x (XN x C (tY s⁻¹))) s⁻¹ (.xd [(f,y)])=upd (upd H s⁻¹ (.xd [(f,y)])) x (XN x C (tY s⁻¹)):=by
  funext b;unfold upd;by_cases b1:b=s⁻¹
  ·subst b1;rw[if_pos rfl,if_neg (Ne.symm hxe),if_pos rfl]
  ·by_cases b2:b=x
   ·subst b2;rw[if_neg b1,if_pos rfl,if_pos rfl]
   ·rw[if_neg b1,if_neg b2,if_neg b2,if_neg b1]
 rw[eH]at I2;exact I2
end
def zaG(K:pW)(ta tv:TE)(f:re):TS:=λD σ H=>tv σ H λy H1=>ta σ H1 λo H2=>∃x C,o=.ref x/\H2 x=tY (XN x C tZ)/\XC K C/\NoAttr K C f/\∀dx,H2 dx=tZ->D.nx σ (upd (upd H2 dx (.xd [(f,y)])) x (XN x C (tY dx)))
section
variable{X:Cx}{o value:rh}{f:re}{pos pos':rP}{ta tv:TE}
theorem QZ(ha:PE X o ta)(hv:PE X value tv)(hs:swapsWith value (tY (.Attribute o f pos')) pos.line X.env=pure Ab):PS X (.Assign [.Attribute o f pos'] value pos) (zaG X.K ta tv f):=by
 intro Ac s σ H D I h;refine sq (thn (hv Ac s σ H _ I h) λu s1 ⟨y,H1,I1,ry,q⟩=>thn (ha Ac s1 σ H1 _ I1 q) λov s2 ⟨x',H2,I2,rx,x,C,ex,e,xc,n,q2⟩=>?_) hs;subst ex;obtain rfl:ov=Value.ref x:=rx;exact zbO I2 e xc n ry λs3 dx hdx I3=>#[σ,_,I3,q2 dx hdx]
end
section
variable{M:tJ}{A:rg}{E:pY->pZ->Prop}{s:pZ}{env:sN}
theorem QD{K:pW}{x:tO pY}{Q:Flow->pZ->Prop}(hh:A.handled=tZ)
  (h:rd M A x (λv s1=>∃e C t dx,v=.ref e/\K.In s1.heap/\ZM K C=Aa/\s1.heap.get? e=tY (xob C dx t .none)/\E (.ref e) s1) E s):rd M A (raiseStmt env (tY x) tZ) Q E s:=by
 unfold raiseStmt;refine pQ (thn h λv s1 h1=>?_);obtain⟨e,C,t,dx,rfl,X,hC,he,hE⟩:=h1;obtain⟨bm,N,nm,qn,bs,sn,sub,ab,col,dd,k0,k1,k2,k3,k5,lk,tl⟩:=vG hC;have hCo:=X _ _ lk;have T:=tl _ X;have hcB:(Value.ref C::bm).contains (.type "BaseException")=Aa:=by rw[dc,T.hasType (show bmV.contains (.type "BaseException")=Aa by symm),dB]
 obtain⟨hp,g,d,tk,os⟩:=s1
 repeat (first | with_reducible refine rK he ?_ | with_reducible refine rK hCo ?_ | (with_reducible refine rZ hCo ?_;rw[hcB]) | wp_step)
 exact wpAny_raiseNew_none hh hE
theorem V8{K:pW}{e:rh}{pos:rP}{Q:Flow->pZ->Prop}(hh:A.handled=tZ)
  (h:rd M A (eval e env) (λv s1=>∃a C t dx,v=.ref a/\K.In s1.heap/\ZM K C=Aa/\s1.heap.get? a=tY (xob C dx t .none)/\E (.ref a) s1) E s):rd M A (exec (.Raise (tY e) tZ pos) env) Q E s:=by
 rw[arm_exec_Raise]
 first
  | exact pQ (rN (QD hh (pQ (thn h λv s1 h1=>pQ (rN (pR h1))))))
  | (erw[evalOpt,Option.map];exact pQ (rN (QD hh (pQ (thn h λv s1 h1=>pQ (rN (pR h1)))))))
end
noncomputable def del(H:Hp)(x:pX):Hp:=λb=>if b=x then tZ else H b
theorem Ql{H:Hp}{x b:pX}(h:b≠x):del H x b=H b:=if_neg h
theorem XF{H:Hp}{x:pX}:del H x x=tZ:=if_pos rfl
section
variable{X:Cx}{Ac:List (pX × rF)}{σ:St}{H:Hp}{s:pZ}
theorem Inv.untrack{x:pX}{φ:rj->Prop}(I:Inv X Ac σ H s)(e:H x=tY (.ext φ))(hs:X.s₀.heap.objs.size<=x):Inv X Ac σ (del H x) s:=by
 have nx:∀b u,H b=tY u->(∀ψ,u≠.ext ψ)->b≠x:=λb u q nu z=>by subst z;rw[e]at q;cases q;exact nu _ rfl
 have hn:∀b,b≠x->del H x b=H b:=λb hb=>Ql hb;have es:s={ s with heap:=s.heap,gens:=s.gens,drawn:=s.drawn,toks:=s.toks }:=rfl;rw[es]
 refine I.step (g':=s.gens) (d':=s.drawn) (ch:=[x]) (λb hb=>?_) (λb o _ _ _ q _=>q) (λb o _ _ _ q _=>#[o.slots,q]) (λb o hc _ n=>?_)
  (λb o _ q=>#[o,q]) (λb xs q=>?_) (λb u xs q=>?_) (λb ps q=>?_) (λm hm=>hm) (λb u q=>?_) I.bare
 ·have eb:b=x:=by simpa using hb
  subst eb;refine#[.inr hs,λz=>?_,λy c q z=>?_,λp hp z=>?_]
  ·rw[z,I.free]at e;cases e
  ·have:=I.freeC y c q;rw[z,e]at this;cases this
  ·have:=(I.pin p hp).2.1;rw[z,e]at this;cases this
 ·rw[hn b (by simpa using hc)];exact n
 ·rw[hn b (nx b _ q λ_ z=>by cases z)];exact q
 ·rw[hn b (nx b _ q λ_ z=>by cases z)];exact q
 ·exact#[#[],by rw[hn b (nx b _ q λ_ z=>by cases z),q];simp]
 ·by_cases hb:b=x
  ·subst hb;rw[XF]at q;cases q
  ·rw[hn b hb]at q;exact (I.hok b u q).stay (λc v _ z=>z) (λc z=>by rw[hn c (nx c _ z λ_ y=>by cases y)];exact z) λc xs z=>by rw[hn c (nx c _ z λ_ y=>by cases y)];exact z
theorem WZ{C:pX}{us:List pY}{E:pY->pZ->Prop}{Q:pY->pZ->Prop}(I:Inv X Ac σ H s)(xc:ZM X.K C=Aa)(hi:ag X.K (.ref C) "__init__" = tY (tY (.builtin "ValueError.__init__")))(hl:us.length<=pV)
  (h:∀s' x t,s⁻¹<=x->Inv X Ac σ H s'->s'.heap.get? x=tY (xob C tZ t .none)->Q (.ref x) s'):rd (model X.prog X.w) X.A (call (.ref C) us) Q E s:=by
 have F:=d4;obtain⟨bm,N,nm,qn,bs,sn,sub,ab,col,dd,k0,k1,k2,k3,k5,lk,tl⟩:=vG xc;have hC:=I.kIn _ _ lk;have T:=tl _ I.kIn;obtain⟨hp,g,d,t,os⟩:=s;have k:∀b o,hp.get? b=tY o->((hp.push { cls:=.type "tuple",data:=.seq us.toArray }).push (xob C tZ hp.objs.size .none)).get? b=tY o:=λb o e=>ah _ (ah _ e);refine rV (Xw I.kIn xc hi (λself=>PySem.W.Looks.of_pure (F.init.bind self)) hl ?_);have hget:((hp.push { cls:=.type "tuple",data:=.seq us.toArray }).push (xob C tZ hp.objs.size .none)).get? (hp.objs.size+1)=tY (xob C tZ hp.objs.size .none):=by heap_get
 refine su F.init.plain F.initEntry (wpAny_check_init_subT F (T.keeps k) (k _ _ hC) hget rfl ?_)
 wp_walk
 refine#[rfl,h _ (hp.objs.size+1) ((hp.push { cls:=.type "tuple",data:=.seq us.toArray }).push (xob C tZ hp.objs.size .none)).objs.size (cj _) (I.kept (t':=t) λb o e=>?_) ?_]
 ·exact (aE _ _ (cB (cL (aq e)))).trans (ah _ (k b o e))
 ·exact cr (Obj.mapFields λx=>x.setIfInBounds 0 (Value.ref ((hp.push { cls:=.type "tuple",data:=.seq us.toArray }).push (xob C tZ hp.objs.size .none)).objs.size)) (ah _ hget) rfl
def Y4(E:XK)(C:pX)(t:TA):TS:=λ_ σ H=>t σ H λvs H1=>vs.length<=pV/\E (.ref C) tZ H1
theorem yb{E:XK}{C:pX}{cn:re}{np cpos pos:rP}{e:rh}{es:List rh}{t:TA}(hx:XE X E)(hc:X.calm=Aa)(xc:XC X.K C)(hi:ag X.K (.ref C) "__init__" = tY (tY (.builtin "ValueError.__init__")))(hg:Gl X cn)(hm:X.mg cn=tY (.ref C))(ha:PA X (e::es) t)
  (hdb:(cn ==("__debug__" : re))=Ab:=by decide) (he:pT (e::es) X.env=(Ab,eval e X.env)::pT es X.env:=by rfl) (hpl:(rA cpos (pT es X.env)).any (·.1)=Ab:=by rfl) :
  PS X (.Raise (tY (.Call (.Name cn np) (e::es) [] cpos)) tZ pos) (Y4 E C t):=by
 intro Ac s σ H D I h;refine V8 (K:=X.K) (I.ok.hd hc) (rD (vz I hg hm ?_ hdb));refine bO (h₀:=X.base) I.ok.mod.kin xc.kp (thn (ha cpos Ac s σ H _ I h) λus s1 ⟨vs,H1,I1,r,z,q⟩=>#[I1.kIn,?_]) he hpl;refine WZ (us:=[] ++ us) I1 xc.ok hi (by show us.length<=pV;rw[<- r.length];exact z) λs2 x t hz I2 ob=>#[x,C,t,tZ,rfl,I2.kIn,xc.ok,ob,?_];exact hx _ _ #[Ac,σ,H1,x,C,t,tZ,.none,rfl,I2,ob,.inl rfl,I1.fpOk hz (I1.hok.fresh hz),λT z=>(by cases z),q]
theorem UG{A:rg}{C:pX}{us:List pY}{k:Nat}(r:Room (k+1) A):Room k (A.under (.builtin "type.__call__" #[.ref C::us,[]])):=r.make C us []
def YB(E:XK)(C:pX)(sp:Sp)(t:TA):TS:=λ_ σ H=>t σ H λvs H1=>vs.length<=pV/\∀x,H1 x=tZ->sp (.ref x::vs) (upd H1 x (XN x C tZ)) (λv H2=>v=.non/\∃dx,H2 x=tY (XN x C dx)/\E (.ref C) dx (del H2 x)) E0
theorem Yq{E:XK}{C f:pX}{fd:ra}{k:Nat}{ps:List re}{sp:Sp}{cn:re}{np cpos pos:rP}{e:rh}{es:List rh}{t:TA}(hx:XE X E)(hc:X.calm=Aa)(xc:XC X.K C)(hi:ag X.K (.ref C) "__init__" = tY (tY (.ref f)))(hfn:aV X.K (.ref f)=Aa)
  (F:zR X.prog X.w X.K X.mg X.base CX0 k f fd ps sp) (hr:Room (k+1) X.A) (hb:Binds X.K fd ps []) (hg:Gl X cn) (hm:X.mg cn=tY (.ref C)) (ha:PA X (e::es) t)
  (hdb:(cn ==("__debug__" : re))=Ab:=by decide) (he:pT (e::es) X.env=(Ab,eval e X.env)::pT es X.env:=by rfl) (hpl:(rA cpos (pT es X.env)).any (·.1)=Ab:=by rfl) :
  PS X (.Raise (tY (.Call (.Name cn np) (e::es) [] cpos)) tZ pos) (YB E C sp t):=by
 intro Ac s σ H D I h;refine V8 (K:=X.K) (I.ok.hd hc) (rD (vz I hg hm ?_ hdb));refine bO (h₀:=X.base) I.ok.mod.kin xc.kp (thn (ha cpos Ac s σ H _ I h) λus s1 ⟨vs,H1,I1,r,z,q⟩=>#[I1.kIn,?_]) he hpl;have hl:us.length<=pV:=by rw[<- r.length];exact z
 have ob:((s1.heap.push { cls:=.type "tuple",data:=.seq us.toArray }).push (xob C tZ s1⁻¹ .none)).get? (s1⁻¹+1)=tY (xob C tZ s1⁻¹ .none):=by heap_get
 have hfr:H1 (s1⁻¹+1)=tZ:=I1.hok.fresh (cj _)
 have I2:Inv X Ac σ (upd H1 (s1⁻¹+1) (XN (s1⁻¹+1) C tZ)) { s1 with heap:=(s1.heap.push { cls:=.type "tuple",data:=.seq us.toArray }).push (xob C tZ s1⁻¹ .none) } :=
  I1.laid (t':=s1.toks) (λb o e=>ah _ (ah _ e)) (cj _) (zcD ob)
 have q1:=q _ hfr;have r2:Vals (V.ref (s1⁻¹+1)::vs) (Value.ref (s1⁻¹+1)::us):=.cons rfl r
 have hlen:(Value.ref (s1⁻¹+1)::us ++ ([]:List pY)).length=ps.length:=by
  rw[aP,<- r2.length];exact F.len _ _ _ _ q1
 have hb2:=hb { s1 with heap:=(s1.heap.push { cls:=.type "tuple",data:=.seq us.toArray }).push (xob C tZ s1⁻¹ .none) } (Value.ref (s1⁻¹+1)::us) I2.kIn hlen;rw[aP]at hb2;have run:=F.run _ X.stack _ _ #[Value.ref (s1⁻¹+1)::us,[]] (Value.ref (s1⁻¹+1)::us) _ _ E0 (UG (C:=C) (us:=us) hr) (I2.env0.make C us []) hb2 r2 q1;have sz0:X.s₀.heap.objs.size<=s1⁻¹+1:=aK I1.sz (cj _);show rd (model X.prog X.w) X.A (call (.ref C) us) _ X.xe s1;refine rV ?_;refine Xw (h:=s1.heap) (g:=s1.gens) (d:=s1.drawn) (t:=s1.toks) (os:=s1.os) (rest:=us) I1.kIn xc.ok hi (λself=>fP I1.kIn self (beq_iff_eq.mp hfn)) hl (rX run λr s' hq=>?_)
 cases r with
 | error e=>exact False.elim hq
 | ok fl =>
  cases fl with
  | ret u =>
   obtain⟨v,H',I3,rv,ev,dx,hx3,q3⟩:=I2.after hq;subst ev;refine#[rv,?_];obtain⟨t,ob3⟩:=zb7 (I3.hok _ _ hx3);have I4:=Inv.untrack I3 hx3 sz0;refine#[_,C,t,dx,rfl,I3.kIn,xc.ok,ob3,hx _ _ #[Ac,σ,_,_,C,t,dx,.none,rfl,I4,ob3,.inl rfl,?_,λT z=>(by cases z),q3]];exact I1.fpOk (cj _) XF
  | next=>exact False.elim hq
  | brk=>exact False.elim hq
  | cont=>exact False.elim hq
end
def zbv(X:Cx)(Ac:List (pX × rF))(σ:St)(E:XK)(e:pY)(s:pZ):Prop:=∃(cx:pY) (kx:Bool) (H:Hp) (x C t:pX) (dx:Option pX) (tb:pY),e=.ref x/\Inv X Ac σ H s /\
 s.heap.get? x=tY (xog C dx t tb cx kx)/\zaC s.heap x tb/\xU X Ac H x/\(∀T,tb=.ref T->xU X Ac H T)/\E (.ref C) dx H
noncomputable abbrev TX:=St->Hp->VK->XK->Prop
def PEX(X:Cx)(e:rh)(t:TX):Prop :=
 ∀(Ac:List (pX × rF)) (s:pZ) (σ:St) (H:Hp) (Q:VK) (E:XK),Inv X Ac σ H s->t σ H Q E->rd (model X.prog X.w) X.A (eval e X.env) (EP X Ac σ Q) (zbv X Ac σ E) s
section
variable{X:Cx}
variable{k:Nat}{f:pX}{fd:ra}{ps:List re}{sp:Sp}{dvs:List V}{ds:List pY}{x:re}{p pos:rP}{e:rh}{es:List rh}{t:TA}
theorem Jc(F:zR X.prog X.w X.K X.mg X.base (CXx X.prog X.w) k f fd ps sp)(hr:Room k X.A)(hg:Gl X x)(hm:X.mg x=tY (.ref f))(hk:aJ X.K (.ref f)=Aa)(hb:Binds X.K fd ps ds)(hd:Vals dvs ds)
  (ha:PA X.nox (e::es) t) (hdb:(x ==("__debug__" : re))=Ab:=by decide) (he:pT (e::es) X.env=(Ab,eval e X.env)::pT es X.env:=by rfl) (hpl:(rA pos (pT es X.env)).any (·.1)=Ab:=by rfl) :
  PEX X (.Call (.Name x p) (e::es) [] pos) (λσ H Q E=>t σ H λvs H1=>sp (vs ++ dvs) H1 Q E):=by
 intro Ac s σ H Q E I h;refine rD (vz I hg hm ?_ hdb);refine bO (h₀:=X.base) I.ok.mod.kin hk (rO (thn (ha pos Ac s σ H _ (I.wish _) h) λus s1 ⟨vs,H1,I1,r,q⟩=>#[I1.kIn,?_])) he hpl;have I1':Inv X Ac σ H1 s1:=I1.unwish;have r2:Vals (vs ++ dvs) (us ++ ds):=r.append hd;have hl:(us ++ ds).length=ps.length:=by rw[<- r2.length];exact F.len _ _ _ _ q
 refine rV (rX (F.run X.A X.stack s1 H1 #[us,[]] (us ++ ds) (vs ++ dvs) Q E hr I1'.env0 (hb s1 us I1'.kIn hl) r2 q) λr s' hq=>?_)
 cases r with
 | error e =>
  obtain⟨x,C,t,dx,tb,H',rfl,os,bare,un,hok,ob,tr,hn,hsz,hT,q⟩:=hq;exact#[.none,Ab,H',x,C,t,dx,tb,rfl,I1'.call' os un hok bare (λb z=>absurd z (by simp)),ob,tr,I1'.fpOk hsz hn,λT e=>I1'.fpOk (hT T e).2 (hT T e).1,q]
 | ok fl =>
  cases fl with
  | ret u=>exact I1'.after hq
  | next=>exact False.elim hq
  | brk=>exact False.elim hq
  | cont=>exact False.elim hq
end
noncomputable abbrev Cx.suite(X:Cx)(e:pY):Cx:={ X with A:=X.A.mark (tY e),calm:=Ab,xe:=λ_ _=>False }
theorem Inv.suite{X:Cx}{Ac:List (pX × rF)}{σ:St}{H:Hp}{s:pZ}(I:Inv X Ac σ H s)(e:pY):Inv (Cx.suite X e) Ac σ H s :=
 #[#[I.ok.mod,I.ok.kind,I.ok.glob,I.ok.blt,I.ok.above,I.ok.inj,I.ok.has,I.ok.cab,λz=>absurd z (by simp [Cx.suite]),I.ok.frames,I.ok.stk,I.ok.exf,I.ok.bs,I.ok.bsz,I.ok.noex,I.ok.exfs,I.ok.funs,I.ok.frf],
  I.os,I.bare,I.base,I.loc,I.cell,I.free,I.freeC,I.pin,I.hok,I.len]
theorem Inv.unsuite{X:Cx}{Ac:List (pX × rF)}{σ σ':St}{H H':Hp}{s s':pZ}{e:pY}(J:Inv X Ac σ' H' s')(I:Inv (Cx.suite X e) Ac σ H s):Inv X Ac σ H s :=
 #[J.ok,I.os,I.bare,I.base,I.loc,I.cell,I.free,I.freeC,I.pin,I.hok,I.len]
section
variable{X:Cx}{Ac:List (pX × rF)}{σ:St}{H:Hp}{s:pZ}
end
theorem zco{M:tJ}{A:rg}{E:pY->pZ->Prop}{K:pW}{s:pZ}{x C D t:pX}{dx:Option pX}{tb cx:pY}{kx:Bool}{b:Bool}{Q:Bool->pZ->Prop}(X:K.In s.heap)(hD:ZM K D=Aa)(he:s.heap.get? x=tY (xog C dx t tb cx kx))
  (hs:cS K (.ref C) (.ref D)=tY b) (h:Q b s):rd M A (excMatches (.ref x) (.ref D)) Q E s:=by
 obtain⟨bm,N,nm,qn,bs,sn,sub,ab,col,dd,k0,k1,k2,k3,k5,lk,tl⟩:=vG hD;have hDo:=X _ _ lk;have T:=tl _ X;have hcB:(Value.ref D::bm).contains (.type "BaseException")=Aa:=by rw[dc,T.hasType (show bmV.contains (.type "BaseException")=Aa by symm),dB]
 have L:=PySem.W.looks_subIn (M:=M) X hs;have f:=tc_notTuple;obtain⟨hp,g,d,tk,os⟩:=s;unfold excMatches
 repeat (first | with_reducible refine rK he ?_ | with_reducible refine rK hDo ?_ | (with_reducible refine rZ hDo ?_;rw[hcB]) | (with_reducible refine PySem.W.Looks.at L ?_) | wp_step)
 cases b with
 | false=>exact pR (pR (pR h))
 | true=>exact pR (pR (pR h))
section
variable{X:Cx}
noncomputable def tbL:pY->List pX
 | .ref b=>[b]
 | _=>[]
end
section
variable{prog:rb}{w:rf}{A:rg}{E:pY->pZ->Prop}{s:pZ}{K:pW}{x C:pX}{ox:rF}{od:Option rF}{name:re}{tk:tu}
theorem zcz{fill expr:Bool}{Q:pY->pZ->Prop}(X:K.In s.heap)(xc:XC K C)(J:PySem.W.InstAt s.heap x ox C od)
  (h:rd (model prog w) A.in1 (Builtin.«object.__getattribute__» #[[.ref x,.str name tk],[]]) (λfin s'=>match fin with | .done (.ret v)=>rd (model prog w) A (handedOut v) Q E s' | _=>False) (λ_ _=>False) s) :
  rd (model prog w) A (getAttrBy (.ref x) (.str name tk) fill expr) Q E s:=by
 obtain⟨bm,N,nm,qn,bs,sn,sub,ab,col,dd,k0,k1,k2,k3,k5,lk,tl⟩:=vG xc.ok;have hC:=X _ _ lk;have T:=tl _ X;have FB:=PySem.F.attrBase_ValueError;have L0:=J.type (M:=model prog w);have L1:=cA (M:=model prog w) X xc.ga;have L2:=cA (M:=model prog w) X xc.gt;have hcB:(Value.ref C::bm).contains (.type "BaseException")=Aa:=by rw[dc,T.hasType (show bmV.contains (.type "BaseException")=Aa by symm),dB]
 have isB:PySem.W.Looks (model prog w) s.heap (isInstance (.ref x) (.type "BaseException")) Aa:=L0.andThen (by have:=Z5 (M:=model prog w) hC (.type "BaseException");rw[hcB]at this;exact this);have f3:=FB.ga.bind (.ref x);have hx0:(expr && onTheHeap (Value.builtin "BaseException.__getattribute__"))=Ab:=by cases expr <;> rfl
 have hx2:(Value.builtin "BaseException.__getattribute__" == Value.builtin "object.__getattribute__")=Ab:=by symm
 have hx1:(onTheHeap (Value.ref C) && Value.builtin "BaseException.__getattribute__" == Value.builtin "object.__getattribute__")=Ab:=by rw[hx2];rfl
 unfold getAttrBy;refine rG (pQ (L0.here (pQ (L1.here ?_))));show rd _ _ (if (onTheHeap (Value.ref C) && Value.builtin "BaseException.__getattribute__" == Value.builtin "object.__getattribute__")=Aa then _ else _) _ _ _;rw[hx1,if_neg az];unfold getAttrByItsOwn hookBefore;rw[if_pos (by rfl)];refine pQ (L2.here (pQ (tz (rG ?_))));unfold callGetattribute;rw[hx0,if_neg az];unfold boundAndCalled;rw[f3];refine pQ (pR ?_);show rd (model prog w) A (call (.builtin "BaseException.__getattribute__") [.ref x,.str name tk]) _ _ s;refine rV (su FB.ga.plain PySem.F.entry_bexc_ga (@PySem.W.check_slot (model prog w) _ _ s "BaseException.__getattribute__" "BaseException" "__getattribute__" (.ref x) [.str name tk] [] _ (by symm) (by symm) isB (PySem.F.args_bexc_ga _ _) ?_));refine rS h (λfin s' z=>?_) λ_ _ z=>z.elim;rcases fin with (_ | _ | _ | v) | _ <;> first | exact z | exact z.elim
theorem K9{Q:Option pY->pZ->Prop}(X:K.In s.heap)(xc:XC K C)(J:PySem.W.InstAt s.heap x ox C od)(ha:ag K (.ref C) "__class__" = tY (tY (.builtin "object.__class__")))
  (hn:dh K (.builtin "object.__class__") "__get__" = tY (tY (.builtin "getset_descriptor.__get__"))) (htk:dz K (.builtin "object.__class__")=tY Aa) (hm:bI K C (.type "object")=tY Aa)
  (h:Q (tY (.ref C)) { s with toks:=s.toks+1 }):rd (model prog w) A (getAttr? (.ref x) "__class__") Q E s:=by
 have hf:fQ K C od "__class__" = tY (.bind (.builtin "getset_descriptor.__get__") (.builtin "object.__class__")):=by
  obtain⟨bm,N,nm,qn,bs,sn,sub,ab,col,dd,k0,k1,k2,k3,k5,lk,tl⟩:=vG xc.ok;have hcl:(PySem.W.clsIn K C).isSome=Aa:=by unfold PySem.W.clsIn;rw[lk];rfl
  obtain⟨cd,hc⟩:=Aq.mp hcl;unfold fQ;rw[hc,bN,ha,bN];simp [hn,htk]
 unfold getAttr? getAttrBy?;refine pQ (wpAny_mkText (pQ (tz (zcz (s:={ s with toks:=s.toks+1 }) X xc J ?_))));have L0:=J.type (M:=model prog w);have L1:=PySem.W.looks_find (M:=model prog w) X J hf;unfold Builtin.«object.__getattribute__»;refine pQ (pR (pQ (pR (pQ (L0.here (s:={ s with toks:=s.toks+1 }) (pQ (L1.here (s:={ s with toks:=s.toks+1 }) ?_)))))));show rd _ _ (holding [.builtin "object.__class__"] (call (.builtin "getset_descriptor.__get__") [.builtin "object.__class__",.ref x,.ref C]) >>= ret) _ _ _;refine pQ (rG (rV (PySem.W.class_get (s:={ s with toks:=s.toks+1 }) X J hm ?_)));refine pR ?_;show rd _ _ (handedOut (.ref C)) _ _ _;rw[PySem.W.handedOut_of rfl];exact pR (pR h)
end
structure XI(K:pW)(C:pX):Prop extends XC K C where
 ca:ag K (.ref C) "__class__" = tY (tY (.builtin "object.__class__"))
 cg:dh K (.builtin "object.__class__") "__get__" = tY (tY (.builtin "getset_descriptor.__get__"))
 ct:dz K (.builtin "object.__class__")=tY Aa
 mo:bI K C (.type "object")=tY Aa
theorem zc4{h:rj}{x C t:pX}{tb c:pY}{k:Bool}(ob:h.get? x=tY (xog C tZ t tb c k)):PySem.W.InstAt h x (xog C tZ t tb c k) C tZ:=#[ob,rfl,rfl,trivial]
theorem zeK{K:pW}{x C:pX}{dx:Option pX}(xi:XI K C):PySem.W.KitX K (.ref x) (.ref C) (λh=>(∃t tb c k,h.get? x=tY (xog C dx t tb c k))/\∀d,dx=tY d->∃o,h.get? d=tY o) where
 ty:=λM h X ⟨⟨t,tb,c,k',ob⟩,_⟩=>(PySem.W.Looks.ld ob).andThen .now
 it:=λM h X _=>by
  obtain⟨bm,N,nm,qn,bs,sn,sub,ab,col,dd,k0,k1,k2,k3,k5,lk,tl⟩:=vG xi.ok;intro A' Q' E' s' k q;unfold isType loadHead;exact pQ (sU (k _ _ (X _ _ lk)) (pR q))
 ne:=λh tp dd its n sl X htp=>by
  obtain⟨bm,N,nm,qn,bs,sn,sub,ab,col,dd,k0,k1,k2,k3,k5,lk,tl⟩:=vG xi.ok;refine Bool.eq_false_iff.mpr λq=>?_;have e:C=tp:=Value.ref.inj (beq_iff_eq.mp q);subst e;have z:=congrArg (λo:Option rF=>o.map λo=>match o.data with | .cls _=>Aa | _=>Ab) ((X _ _ lk).symm.trans htp);exact absurd (show Aa=Ab from Option.some.inj z) ∅
 ca:=λ{prog w A E Q s} X ⟨⟨t,tb,c,k',ob⟩,hd⟩ k=>by
  cases dx with
  | none=>exact K9 X xi.toXC (zc4 ob) xi.ca xi.cg xi.ct xi.mo k
  | some d =>
   obtain⟨o,e⟩:=hd d rfl;exact K9 (od:=tY o) X xi.toXC #[ob,rfl,rfl,e] xi.ca xi.cg xi.ct xi.mo k
section
variable{X:Cx}
def XAt(H:Hp)(x C:pX)(dx:Option pX)(fs:List (re × V)):Prop:=H x=tY (XT x C dx)/\((dx=tZ/\fs=[])\/∃d,dx=tY d/\H d=tY (.xd fs))
theorem VP:vj X (.builtin "isinstance") (λxs H Q=>∃x C dx fs c u b,xs=[.ref x,c]/\cV c=tY u/\XAt H x C dx fs/\XI X.K C/\aQ X.K (.ref C) u=tY b/\Q (.bl b) H):=by
 intro Ac s σ H xs us Q I r h;obtain⟨x,C,dx,fs,c,u,b,rfl,hc,⟨hx,hd⟩,xi,e,q⟩:=h;obtain⟨v,w',rfl,rx,rc⟩:=Vv r;cases rx
 have:w'=u:=by
  cases c with
  | ty n=>cases hc;exact rc
  | ref a=>cases hc;exact rc
  | _=>cases hc
 subst this;refine bf (zeK (dx:=dx) xi) I.kIn #[zeM (I.hok _ _ hx),λd z=>?_] e (λz=>nomatch z) λtk=>#[.bl b,H,I.tok tk,rfl,q];rcases hd with ⟨z',_⟩ | ⟨d',z',hd'⟩
 ·rw[z']at z;cases z
 ·rw[z']at z;cases z;obtain⟨mA,⟨o,es,ep,ho,_⟩,_⟩:=I.hok _ _ hd';exact#[o,ho]
end
structure Df(P:rb)(w:rf)(K:pW)(mg:re->Option pY)(base:rj)(CX:CXT)(k:Nat)(nm:re)(ps:List re)(ds:List pY)(sp:Sp):Prop where
 ex:∃f fd,zR P w K mg base CX k f fd ps sp/\mg nm=tY (.ref f)/\aJ K (.ref f)=Aa/\Binds K fd ps ds
structure Bt(mg:re->Option pY):Prop where
 len:mg "len" = tZ
 range:mg "range" = tZ
 isi:mg "isinstance" = tZ
 str:mg "str" = tZ
 int:mg "int" = tZ
 tuple:mg "tuple" = tZ
 list:mg "list" = tZ
 bool:mg "bool" = tZ
 enum:mg "enumerate" = tZ
 all:mg "all" = tZ
 verr:mg "ValueError" = tZ
 max:mg "max" = tZ
 rev:mg "reversed" = tZ
 zip:mg "zip" = tZ
 sum:mg "sum" = tZ
 sorted:mg "sorted" = tZ
section
variable{X:Cx}{CX:CXT}{k:Nat}{ps:List re}{sp:Sp}{ds:List pY}{dvs:List V}{E:XK}{x:re}{p pos:rP}{e:rh}{es:List rh}{t:TA}
theorem cl0{j:Nat}(D:Df X.prog X.w X.K X.mg X.base CX0 k x ps ds sp)(hr:Room j X.A)(hd:Vals dvs ds)(hg:Gl X x)(ha:PA X (e::es) t)(hdb:(x ==("__debug__" : re))=Ab:=by decide)(he:pT (e::es) X.env=(Ab,eval e X.env)::pT es X.env:=by rfl)
  (hpl:(rA pos (pT es X.env)).any (·.1)=Ab:=by rfl) (hj:k<=j:=by decide):PE X (.Call (.Name x p) (e::es) [] pos) (jE sp dvs E0 t):=by
 obtain⟨f,fd,F,hm,hk,hb⟩:=D.ex;exact VY F (hr.mono hj) hg hm hk hb hd W8 ha hdb he hpl
theorem clX{j:Nat}(D:Df X.prog X.w X.K X.mg X.base (CXx X.prog X.w) k x ps ds sp)(hr:Room j X.A)(hd:Vals dvs ds)(hg:Gl X x)(ha:PA X.nox (e::es) t)(hdb:(x ==("__debug__" : re))=Ab:=by decide)(he:pT (e::es) X.env=(Ab,eval e X.env)::pT es X.env:=by rfl)
  (hpl:(rA pos (pT es X.env)).any (·.1)=Ab:=by rfl) (hj:k<=j:=by decide):PEX X (.Call (.Name x p) (e::es) [] pos) (λσ H Q E=>t σ H λvs H1=>sp (vs ++ dvs) H1 Q E):=by
 obtain⟨f,fd,F,hm,hk,hb⟩:=D.ex;exact Jc F (hr.mono hj) hg hm hk hb hd ha hdb he hpl
theorem clP{j:Nat}(hx:XE X E)(D:Df X.prog X.w X.K X.mg X.base (CXx X.prog X.w) k x ps ds sp)(hr:Room j X.A)(hd:Vals dvs ds)(hg:Gl X x)(ha:PA X (e::es) t)(hdb:(x ==("__debug__" : re))=Ab:=by decide)(he:pT (e::es) X.env=(Ab,eval e X.env)::pT es X.env:=by rfl)
  (hpl:(rA pos (pT es X.env)).any (·.1)=Ab:=by rfl) (hj:k<=j:=by decide):PE X (.Call (.Name x p) (e::es) [] pos) (jE sp dvs E t):=by
 obtain⟨f,fd,F,hm,hk,hb⟩:=D.ex;exact VY F (hr.mono hj) hg hm hk hb hd (X3 hx) ha hdb he hpl
end
def TyX(K:pW)(H:Hp)(x:V)(t:pY):Prop:=XS K H x t\/(∃a C dx fs,x=.ref a/\t=.ref C/\XAt H a C dx fs/\XI K C)\/(∃a xs,x=.ref a/\t=.type "list"/\SqL K H a xs)\/∃a xs,x=.ref a/\t=.type "tuple"/\SqT K H a xs
def zdH(K:pW):List V->Hp->VK->Prop:=λxs H Q=>∃x c u t b,xs=[x,c]/\cV c=tY u/\TyX K H x t/\aQ K t u=tY b/\Q (.bl b) H
theorem zev{X:Cx}:vj X (.builtin "isinstance") (zdH X.K):=by
 intro Ac s σ H xs us Q I r h;obtain⟨x,c,u,t,b,rfl,hc,ty,e,q⟩:=h;rcases ty with ty | ⟨a,C,dx,fs,rfl,rfl,ha,xi⟩ | ⟨a,ys,rfl,rfl,hq⟩ | ⟨a,ys,rfl,rfl,hq⟩
 ·exact J4 Ac s σ H _ us Q I r #[x,c,u,t,b,rfl,hc,ty,e,q]
 ·exact VP Ac s σ H _ us Q I r #[a,C,dx,fs,c,u,b,rfl,hc,ha,xi,e,q]
 all_goals
  obtain⟨v,w',rfl,rx,rc⟩:=Vv r
  have:w'=u:=by
   cases c with
   | ty n=>cases hc;exact rc
   | ref a=>cases hc;exact rc
   | _=>cases hc
  subst this;cases rx
 ·obtain⟨its,_,p,_⟩:=I.list hq;obtain⟨o,h1,h2,_⟩:=p.isList;exact bf d7 I.kIn #[o,h1,h2] e (λz=>nomatch z) λtk=>#[.bl b,H,I.tok tk,rfl,q]
 ·obtain⟨its,_,p,_⟩:=I.tuple hq;obtain⟨o,h1,h2,_⟩:=p;exact bf fF I.kIn #[o,h1,h2] e (λz=>nomatch z) λtk=>#[.bl b,H,I.tok tk,rfl,q]
theorem yx{X:Cx}{e:rh}{te:TE}{c:re}{n:String}{p q pos:rP}(h1:Gl X "isinstance")(h2:X.mg "isinstance" = tZ)(he:PE X e te)(hg:Gl X c)(hm:X.mg c=tZ)(hv:rH c=tY (.type n))(hn:c≠"__name__":=by decide)(hd:(c ==("__debug__" : re))=Ab:=by decide)
  (hs1:pT [e,.Name c q] X.env=(Ab,eval e X.env)::pT [.Name c q] X.env:=by rfl) (hs3:pT [.Name c q] X.env=(Ab,eval (.Name c q) X.env)::pT [] X.env:=by rfl) (hs2:(rA pos (pT [.Name c q] X.env)).any (·.1)=Ab:=by rfl):PE X (.Call (.Name "isinstance" p) [e,.Name c q] [] pos) (tCB (zdH X.K) (zM te (zM (tC (.ty n)) xM))) :=
 yW zev h1 h2 boot_isinstance (za he (za (za7 hg hm hv rfl hn hd) zd hs3) hs1) (he:=hs1) (hpl:=hs2)
theorem zad{a:pX}:cV (.ref a)=tY (.ref a):=rfl
theorem zdA{n:String}:cV (.ty n)=tY (.type n):=rfl
theorem zeH{P w K mg base N q sc f cd A o s H}:(cxH P w K mg base N q sc f cd A o s H).K=K:=rfl
def Ub:V->List V->Hp->VK->Prop:=λx xs H Q=>∃z y,x=.str z/\xs=[.str y]/\Q (.int (Txt.count z y)) H
theorem zbq{X:Cx}:MtR X "str.count" Ub:=J7
def zaD:V->List V->Hp->VK->Prop:=λx xs H Q=>∃z y,x=.str z/\xs=[.str y]/\Q (.int (Txt.find z y)) H
theorem KG{X:Cx}:MtR X "str.find" zaD:=zaR
theorem Qy(l:())(c:Nat):Txt.count (tx l) (tx [c])=(l.count c:Int):=by
 have h:∀l:(),cnt c l=(l.count c:Int):=λl=>by
  induction l with
  | nil=>rfl
  | cons n r ih =>
   rw[cnt_cons,ih,List.count_cons];by_cases e:n=c
   ·subst e;simp;lia
   ·have:(n == c)=Ab:=by simpa using e
    simp [e,this]
 exact (PyProof.Rows.count_is (tx l) c).trans (h l)
theorem lt1{a b:Nat}:([a]:()) < [b] ↔ a<b:=by rw[List.cons_lt_cons_iff];exact#[λh=>h.elim id λ⟨_,q⟩=>absurd q (List.not_lt_nil _),.inl]
theorem Ur{l:()}{k v:Nat}(h:l[k]? = tY v):(v::(l.take k ++ l.drop (k+1))).Perm l:=by
 obtain⟨hk,e⟩:=Af.mp h
 have e2:l.take k ++ (v::l.drop (k+1))=l:=by
  rw[<- e,<- aS hk,bH]
 exact (List.perm_middle.symm.trans (by rw[e2]))
def Vd(K:pW):List V->Hp->VK->Prop:=λxs H Q=>match xs with
 | [.str z]=>z.length<=pV/\Q (.int z.length) H
 | [.ref a]=>∃n:Nat,((∃xs,SqL K H a xs/\n=xs.length)\/∃xs,SqT K H a xs/\n=xs.length)/\Q (.int n) H
 | xs=>∃x n,xs=[x]/\zcc K x H n/\Q (.int n) H
theorem rLen_is{K:pW}{xs:List V}{H:Hp}{Q:VK}:Vd K xs H Q=∃x n,xs=[x]/\zcc K x H n/\Q (.int n) H:=by
 unfold Vd;split
 ·exact propext #[λh=>#[_,_,rfl,#[h.1,rfl],h.2],λ⟨_,_,e,h,q⟩=>by cases e;obtain⟨h,rfl⟩:=h;exact#[h,q]]
 ·exact propext #[λ⟨n,h,q⟩=>#[_,n,rfl,h,q],λ⟨_,n,e,h,q⟩=>by cases e;exact#[n,h,q]]
 ·rfl
theorem zdV{X:Cx}:vj X (.builtin "len") (Vd X.K):=λAc s σ H xs us Q I r h=>Ki Ac s σ H xs us Q I r (rLen_is.mp h)
def ForR(lo:Int)(n:Nat)(g:TG)(tb:TS)(D:vf)(σ:St)(H:Hp):Prop:=∃W:Nat->Nat->St->Hp->Prop,(∃m,W 0 m σ H)/\∀i m σ H,W i m σ H ->
 ((Itr lo n).stop i H/\D.nx σ H)\/((Itr lo n).go i H/\∃N:St->Hp->Prop,(∀σ' H',N σ' H'->∃m',m'<m/\W (i+1) m' σ' H')/\∀x H',(Itr lo n).yld i H x H'->g x σ H' λσ2 H2=>tb { D with nx:=N,ct:=N,bk:=D.nx } σ2 H2)
theorem zcH{ta:TA}{g:TG}{tb:TS}{D:vf}{σ:St}{H:Hp}:Ka (zbL ta) g tb D σ H=ta σ H λvs H1=>∃j:Int,vs=[.int j]/\-(2 ^ 62)<=j/\j<2 ^ 62/\ForR 0 j.toNat g tb D σ H1:=rfl
theorem zch{ta:TA}{g:TG}{tb:TS}{D:vf}{σ:St}{H:Hp}:Ka (zdB ta) g tb D σ H=ta σ H λvs H1=>∃i j:Int,vs=[.int i,.int j]/\(-(2 ^ 62)<=i/\i<2 ^ 62/\-(2 ^ 62)<=j/\j<2 ^ 62)/\ForR i (j - i).toNat g tb D σ H1:=rfl
theorem ForR.by{lo:Int}{n:Nat}{g:TG}{tb:TS}{D:vf}{σ:St}{H:Hp}(Pv:Nat->St->Hp->Prop)(h0:Pv 0 σ H)
  (hs:∀i σ H,i<n->Pv i σ H->g (.int (lo+i)) σ H λσ2 H2=>tb { D with nx:=Pv (i+1),ct:=Pv (i+1),bk:=D.nx } σ2 H2) (hd:∀σ H,Pv n σ H->D.nx σ H):ForR lo n g tb D σ H:=U4 Pv h0 hs hd
def ForL(K:pW)(a:pX)(g:TG)(tb:TS)(D:vf)(σ:St)(H:Hp):Prop:=∃W:Nat->Nat->St->Hp->Prop,(∃m,W 0 m σ H)/\∀i m σ H,W i m σ H ->
 ((Itl K a).stop i H/\D.nx σ H)\/((Itl K a).go i H/\∃N:St->Hp->Prop,(∀σ' H',N σ' H'->∃m',m'<m/\W (i+1) m' σ' H')/\∀x H',(Itl K a).yld i H x H'->g x σ H' λσ2 H2=>tb { D with nx:=N,ct:=N,bk:=D.nx } σ2 H2)
theorem ze0{K:pW}{tl:TE}{g:TG}{tb:TS}{D:vf}{σ:St}{H:Hp}:Ka (zaV K tl) g tb D σ H=tl σ H λx H1=>∃a,x=.ref a/\(∃xs,SqL K H1 a xs)/\ForL K a g tb D σ H1:=rfl
def ForS(x:re)(g:TG)(tb:TS)(D:vf)(σ:St)(H:Hp):Prop:=∃W:Nat->Nat->St->Hp->Prop,(∃m,W 0 m σ H)/\∀i m σ H,W i m σ H ->
 ((Its x).stop i H/\D.nx σ H)\/((Its x).go i H/\∃N:St->Hp->Prop,(∀σ' H',N σ' H'->∃m',m'<m/\W (i+1) m' σ' H')/\∀v H',(Its x).yld i H v H'->g v σ H' λσ2 H2=>tb { D with nx:=N,ct:=N,bk:=D.nx } σ2 H2)
theorem zfh{tl:TE}{g:TG}{tb:TS}{D:vf}{σ:St}{H:Hp}:Ka (zer tl) g tb D σ H=tl σ H λv H1=>∃x,v=.str x/\ForS x g tb D σ H1:=rfl
theorem ForS.by{l:()}{g:TG}{tb:TS}{D:vf}{σ:St}{H:Hp}(Pv:Nat->St->Hp->Prop)(h0:Pv 0 σ H)
  (hs:∀i c σ H,l[i]? = tY c->Pv i σ H->g (.str (tx [c])) σ H λσ2 H2=>tb { D with nx:=Pv (i+1),ct:=Pv (i+1),bk:=D.nx } σ2 H2) (hd:∀σ H,Pv l.length σ H->D.nx σ H):ForS (tx l) g tb D σ H:=zbn Pv h0 hs hd
def ForE(x:re)(g:TG)(tb:TS)(D:vf)(σ:St)(H:Hp):Prop:=∃W:Nat->Nat->St->Hp->Prop,(∃m,W 0 m σ H)/\∀i m σ H,W i m σ H ->
 ((Ite x).stop i H/\D.nx σ H)\/((Ite x).go i H/\∃N:St->Hp->Prop,(∀σ' H',N σ' H'->∃m',m'<m/\W (i+1) m' σ' H')/\∀v H',(Ite x).yld i H v H'->g v σ H' λσ2 H2=>tb { D with nx:=N,ct:=N,bk:=D.nx } σ2 H2)
theorem zfd{ta:TA}{g:TG}{tb:TS}{D:vf}{σ:St}{H:Hp}:Ka (zdi ta) g tb D σ H=ta σ H λvs H1=>∃x,vs=[.str x]/\ForE x g tb D σ H1:=rfl
theorem ForE.by{l:()}{g:TG}{tb:TS}{D:vf}{σ:St}{H:Hp}(Pv:Nat->St->Hp->Prop)(h0:Pv 0 σ H)
  (hs:∀i c σ H p,l[i]? = tY c->Pv i σ H->H p=tZ->g (.ref p) σ (upd H p (.tup [.int (i:Nat),.str (tx [c])])) λσ2 H2=>tb { D with nx:=Pv (i+1),ct:=Pv (i+1),bk:=D.nx } σ2 H2) (hd:∀σ H,Pv l.length σ H->D.nx σ H):ForE (tx l) g tb D σ H:=JE Pv h0 hs hd
theorem ZI{α:Type}(l:List α){k:Int}(h:0<=k):cut l tZ (tY k)=l.take k.toNat:=by
 obtain⟨n,rfl⟩:=bA h;unfold cut;rw[HT.sIx_none,HT.sIx_nat,dW,Nat.sub_zero];by_cases q:n<=l.length
 ·rw[cZ q];rfl
 ·rw[dq ⋯,aO,ba (by simp;lia)]
theorem vU{α:Type}(l:List α){k:Int}(h:0<=k):cut l (tY k) tZ=l.drop k.toNat:=by
 obtain⟨n,rfl⟩:=bA h;unfold cut;rw[HT.sIx_none,HT.sIx_nat];by_cases q:n<=l.length
 ·rw[cZ q];rw[ba (by rw[bg] <;> lia)];rfl
 ·rw[dq ⋯,eE,bc (by simp;lia)];simp
theorem uI{α:Type}{xs:List α}{i:Int}(h0:0<=i)(h1:i<xs.length):∃v,atI xs i=tY v/\xs[i.toNat]? = tY v:=by
 obtain⟨n,rfl⟩:=bA h0;have hn:n<xs.length:=⋯;exact#[xs[n],vw (ae hn),ae hn]
noncomputable def alpha:():=[97,98,99,100,101,102,103,104,105,106,107,108,109,110,111,112,113,114,115,116,117,118,119,120,121,122]
theorem UU:(("abcdefghijklmnopqrstuvwxyz" : re))=tx alpha:=by symm
theorem zP:(pV:Nat)=16777216:=rE
theorem cxK{CX P w K mg base N q sc f cd A o s H E}:(uT CX P w K mg base N q sc f cd A o s H E).K=K:=rfl
theorem cxP{CX P w K mg base N q sc f cd A o s H E}:(uT CX P w K mg base N q sc f cd A o s H E).prog=P:=rfl
theorem cxW{CX P w K mg base N q sc f cd A o s H E}:(uT CX P w K mg base N q sc f cd A o s H E).w=w:=rfl
theorem zcu{a b:Int}:Vs (.int a) (.int b)=Aa:=rfl
theorem zdx{a b:re}:Vs (.str a) (.str b)=Aa:=rfl
theorem zcY{a b:Bool}:Vs (.bl a) (.bl b)=Aa:=rfl
theorem zcJ{b:re}:Vs .non (.str b)=Aa:=rfl
theorem zdk{b:re}:Vs (.str b) .non=Aa:=rfl
theorem ze{H:Hp}{p:pX}{o:HO}(h:H p=tZ):Same H (upd H p o):=λb u e=>by
 rw[zp (zJ e h)];exact e
theorem zN{α:Type}{l:List α}{i:Nat}{c:α}(h:l[i]? = tY c):l.take (i+1)=l.take i ++ [c]:=by
 rw[List.take_add_one,h];rfl
theorem Zt{α:Type}{l:List α}{i j:Nat}{c:α}(nd:l.Nodup)(hi:l[i]? = tY c)(hj:l[j]? = tY c):i=j :=
 (List.getElem?_inj (Af.mp hi).1 nd).mp (hi.trans hj.symm)
structure FunD(K:pW)(x qual:re)(st:rn)(dV:pY)(f:pX)(fd:ra):Prop where
 ex:∃(oc:pY) (od:Option pX) (kV doc pm:pY) (an:Option pX) (cdv ct:pY) (osl:Array (Option pY)),
  fd=bp x qual (yI st) (ya st) (zh st) dV kV doc pm an cdv ct/\K.lookup f=tY #[oc,od,.func fd,osl]/\bJ K cdv qual=Aa
theorem FunD.okX{P:rb}{w:rf}{K:pW}{mg:re->Option pY}{base:rj}{x qual:re}{st:rn}{dV:pY}{f:pX}{fd:ra}{N ps:List re}{k:Nat}{sp:Sp}(F:FunD K x qual st dV f fd)(S:zl N ps (zh st))(len:∀vs H Q E,sp vs H Q E->vs.length=ps.length)
  (hbody:∀(cdv:pY) (A:rg) (outer:List sN) (s:pZ) (H:Hp) (vs:List V) (Q:VK) (E:XK),Room k (A.deeper (sw qual (zh st) s⁻¹ f cdv))->XE (uT (CXx P w) P w K mg base N qual (zh st) f cdv A outer s H E) E->sp vs H Q E ->
   ∃t,PSs (uT (CXx P w) P w K mg base N qual (zh st) f cdv A outer s H E) (ya st) t/\t { nx:=λ_ H'=>Q .non H',rt:=Q } (start N vs) H):zR P w K mg base (CXx P w) (k+1) f fd ps sp:=by
 obtain⟨oc,od,kV,doc,pm,an,cdv,ct,osl,rfl,lk,hcd⟩:=F.ex;exact JJ lk hcd S len λA outer s H vs Q E hr hsp=>hbody cdv A outer s H vs Q E hr zdh hsp
def vV(C:pX)(f:re):Sp:=λvs H Q _=>∃x v,vs=[.ref x,v]/\H x=tY (XN x C tZ)/\∀dx,H dx=tZ->Q .non (upd (upd H dx (.xd [(f,v)])) x (XN x C (tY dx)))
def zd9(H:Hp)(d:pX)(f:re)(v:V)(H':Hp):Prop:=H d=tZ/\Same H H'/\H' d=tY (.xd [(f,v)])
theorem Qv{E:XK}{C:pX}{f:re}{v:V}{H:Hp}(h:∀d H',zd9 H d f v H'->E (.ref C) (tY d) H'):∀x,H x=tZ->vV C f [.ref x,v] (upd H x (XN x C tZ)) (λu H2=>u=.non/\∃dx,H2 x=tY (XN x C dx)/\E (.ref C) dx (del H2 x)) E0:=by
 intro x hx;refine#[x,v,rfl,zf,λdx hd=>#[rfl,tY dx,zf,h dx _ #[?_,?_,?_]]]
 ·by_cases e:dx=x
  ·rw[e];exact hx
  ·rw[zp e]at hd;exact hd
 ·have hne:dx≠x:=λe=>by rw[e,zf]at hd;cases hd
  rw[zp hne]at hd;intro b o q;have b1:b≠x:=zJ q hx;have b2:b≠dx:=zJ q hd;rw[Ql b1,zp b1,zp b2,zp b1];exact q
 ·have hne:dx≠x:=λe=>by rw[e,zf]at hd;cases hd
  rw[Ql hne,zp hne,zf]
section
variable{X:Cx}
def zeW:R2:=λx y H Q=>match y with | .non=>Q (.bl (decide (x=.non))) H | _=>False
theorem op_isN':OpR X (rp .Is) zeW:=λAc s σ H x y v u Q I rx ry h=>by
 cases y with
 | non=>exact zcf Ac s σ H x .non v u Q I rx ry #[rfl,h]
 | _=>exact h.elim
def zcQ:R2:=λx y H Q=>match y with | .non=>Q (.bl (!decide (x=.non))) H | _=>False
theorem op_notN':OpR X (rp .IsNot) zcQ:=λAc s σ H x y v u Q I rx ry h=>by
 cases y with
 | non=>exact zaE Ac s σ H x .non v u Q I rx ry #[rfl,h]
 | _=>exact h.elim
def Jr:List V->Hp->VK->Prop:=λxs H Q=>match xs with | [.int i,.int j]=>Q (.int (if j > i then j else i)) H | _=>False
theorem XV(hc:X.calm=Aa):vj X (.builtin "max") Jr:=λAc s σ H xs us Q I r h=>by
 unfold Jr at h;split at h
 ·exact Uo hc Ac s σ H _ us Q I r #[_,_,rfl,h]
 ·exact h.elim
def rGe:R2:=λx y H Q=>onInt x λi=>onInt y λj=>Q (.bl (decide (j<=i))) H
theorem op_ge':OpR X (rp .GtE) rGe:=zef
end
theorem vX:rH "max" = tY (.builtin "max"):=by symm
def zaL(ls l:())(m:Int)(k:Nat):Prop:=∃c,l[k]? = tY c/\(m<=k\/c ∉ ls)
def FB(ls l:())(m:Int)(k:Nat):Prop:=zaL ls l m k/\∀j<k,¬ zaL ls l m j
def NB(ls l:())(m:Int):Prop:=∀j,¬ zaL ls l m j
theorem FB.nb{ls l:()}{m:Int}{k:Nat}(h:FB ls l m k)(n:NB ls l m):False:=n k h.1
inductive D where
 | non | bl (b:Bool) | int (i:Int) | str (x:re) | lst (l:List D) | tup (l:List D)
mutual
def Is(K:pW)(H:Hp):D->V->Prop
 | .non,v=>v=.non
 | .bl b,v=>v=.bl b
 | .int i,v=>v=.int i
 | .str x,v=>v=.str x
 | .lst l,v=>∃a xs,v=.ref a/\SqL K H a xs/\Iss K H l xs
 | .tup l,v=>∃a xs,v=.ref a/\SqT K H a xs/\Iss K H l xs
def Iss(K:pW)(H:Hp):List D->List V->Prop
 | [],vs=>vs=[]
 | d::l,vs=>∃v r,vs=v::r/\Is K H d v/\Iss K H l r
end
mutual
noncomputable def eqD:D->D->Bool
 | .non,.non=>Aa
 | .bl a,.bl b=>a == b
 | .bl a,.int b=>(if a then 1 else 0) == b
 | .int a,.bl b=>a ==(if b then 1 else 0)
 | .int a,.int b=>a == b
 | .str a,.str b=>a == b
 | .lst l,.lst m=>uf l m
 | .tup l,.tup m=>uf l m
 | _,_=>Ab
noncomputable def uf:List D->List D->Bool
 | [],[]=>Aa
 | d::l,e::m=>eqD d e && uf l m
 | _,_=>Ab
end
mutual
noncomputable def dpD:D->Nat
 | .lst l=>uK l+1
 | .tup l=>uK l+1
 | _=>0
noncomputable def uK:List D->Nat
 | []=>0
 | d::l=>max (dpD d) (uK l)
end
theorem zaZ:∀{l:List D} {j:Nat} {d:D},l[j]? = tY d->dpD d<=uK l
 | d::l,0,_,h=>by
  cases h
  erw[uK]
  lia
 | d::l,j+1,e,h=>by
  have:=zaZ (l:=l) (j:=j) (d:=e) h
  erw[uK]
  lia
mutual
theorem kP:∀d:D,eqD d d=Aa
 | .non=>rfl
 | .bl b=>by simp [eqD]
 | .int i=>by simp [eqD]
 | .str x=>by simp [eqD]
 | .lst l=>by erw[eqD];exact wD l
 | .tup l=>by erw[eqD];exact wD l
theorem wD:∀l:List D,uf l l=Aa
 | []=>rfl
 | d::l=>by erw[uf,kP d,wD l,Bool.and_self]
end
theorem Iss.len{K:pW}{H:Hp}:∀{l:List D} {vs:List V},Iss K H l vs->vs.length=l.length
 | [],vs,h=>by erw[Iss]at h;rw[h];rfl
 | d::l,vs,h=>by
  erw[Iss]at h
  obtain⟨v,r,rfl,_,h2⟩:=h
  erw[aB,Iss.len h2]
theorem Iss.at{K:pW}{H:Hp}:∀{l:List D} {vs:List V} {j:Nat} {d:D},Iss K H l vs->l[j]? = tY d->∃v,vs[j]? = tY v/\Is K H d v
 | d::l,vs,0,_,h,q=>by
  cases q
  erw[Iss]at h
  obtain⟨v,r,rfl,h1,_⟩:=h;exact#[v,rfl,h1]
 | d::l,vs,j+1,e,h,q=>by
  erw[Iss]at h
  obtain⟨v,r,rfl,_,h2⟩:=h;exact Iss.at (j:=j) h2 q
theorem Iss.append{K:pW}{H:Hp}:∀{l m:List D} {vs us:List V},Iss K H l vs->Iss K H m us->Iss K H (l ++ m) (vs ++ us)
 | [],m,vs,us,h,g=>by erw[Iss]at h;rw[h];exact g
 | d::l,m,vs,us,h,g=>by
  erw[Iss]at h
  obtain⟨v,r,rfl,h1,h2⟩:=h
  erw[bh,Iss]
  exact#[v,r ++ us,rfl,h1,Iss.append h2 g]
theorem Iss.ints{K:pW}{H:Hp}:∀(l:List Int),Iss K H (l.map D.int) (l.map V.int)
 | []=>by erw[aM,Iss]
 | i::l=>by
  erw[ao,Iss,Is]
  exact#[_,_,rfl,rfl,Iss.ints l]
theorem zr{K:pW}{H H':Hp}{a:pX}{xs:List V}(e:Same H H')(h:SqT K H a xs):SqT K H' a xs:=by
 rcases h with (h | ⟨o,h⟩) | h
 ·exact .inl (.inl (e _ _ h))
 ·exact .inl (.inr #[o,e _ _ h])
 ·exact .inr h
mutual
theorem Is.same{K:pW}{H H':Hp}(e:Same H H'):∀(d:D) (v:V),Is K H d v->Is K H' d v
 | .non,v,h=>by erw[Is]at h ⊢;exact h
 | .bl b,v,h=>by erw[Is]at h ⊢;exact h
 | .int b,v,h=>by erw[Is]at h ⊢;exact h
 | .str b,v,h=>by erw[Is]at h ⊢;exact h
 | .lst l,v,h=>by
  erw[Is]at h ⊢
  obtain⟨a,xs,e1,e2,e3⟩:=h;exact#[a,xs,e1,e.seq e2,Iss.same e l xs e3]
 | .tup l,v,h=>by
  erw[Is]at h ⊢
  obtain⟨a,xs,e1,e2,e3⟩:=h;exact#[a,xs,e1,zr e e2,Iss.same e l xs e3]
theorem Iss.same{K:pW}{H H':Hp}(e:Same H H'):∀(l:List D) (vs:List V),Iss K H l vs->Iss K H' l vs
 | [],vs,h=>by erw[Iss]at h ⊢;exact h
 | d::l,vs,h=>by
  erw[Iss]at h ⊢
  obtain⟨v,r,e1,e2,e3⟩:=h;exact#[v,r,e1,Is.same e d v e2,Iss.same e l r e3]
end
theorem vo:∀(l m:List D),uf l m=((aH (min l.length m.length)).all (λj=>eqD (l.getD j .non) (m.getD j .non)) && l.length == m.length)
 | [],[]=>rfl
 | [],e::m=>by simp [uf]
 | d::l,[]=>by simp [uf]
 | d::l,e::m=>by
  erw[uf,vo l m,aB]
  have h1:min (l.length+1) (m.length+1)=min l.length m.length+1:=⋯;rw[h1,dj,ft,List.all_map]
  have h2:(l.length+1 == m.length+1)=(l.length == m.length):=by
   rw[cU,beq_iff_eq,beq_iff_eq];lia
  rw[h2]
  erw[List.getD_cons_zero,Bool.and_assoc]
  rfl
section
variable{X:Cx}{Ac:List (pX × rF)}{σ:St}{H:Hp}{s:pZ}
theorem ZO{a:pX}{xs ys:List V}(I:Inv X Ac σ H s)(h:SqL X.K H a xs)(g:SqT X.K H a ys):False:=by
 obtain⟨its,r,⟨o,n,e,c,_,d⟩,_⟩:=I.list h;obtain⟨its',r',⟨o',e',c',n',d'⟩,_⟩:=I.tuple g;rw[e]at e';cases e';rw[c]at c';exact absurd (Value.type.inj c') ∅
mutual
theorem QU(I:Inv X Ac σ H s):∀(d e:D) (v:V),Is X.K H d v->Is X.K H e v->d=e
 | .lst l,.lst m,v,h,g=>by
  erw[Is]at h g
  obtain⟨a,xs,rfl,h1,h2⟩:=h;obtain⟨b,ys,e,g1,g2⟩:=g;cases e;have:=I.list_inj h1 g1;subst this;rw[Xt I l m xs h2 g2]
 | .tup l,.tup m,v,h,g=>by
  erw[Is]at h g
  obtain⟨a,xs,rfl,h1,h2⟩:=h;obtain⟨b,ys,e,g1,g2⟩:=g;cases e;have:=I.tuple_inj h1 g1;subst this;rw[Xt I l m xs h2 g2]
 | .lst l,.tup m,v,h,g=>by
  erw[Is]at h g
  obtain⟨a,xs,rfl,h1,h2⟩:=h;obtain⟨b,ys,e,g1,g2⟩:=g;cases e;exact (ZO I h1 g1).elim
 | .tup l,.lst m,v,h,g=>by
  erw[Is]at h g
  obtain⟨a,xs,rfl,h1,h2⟩:=h;obtain⟨b,ys,e,g1,g2⟩:=g;cases e;exact (ZO I g1 h1).elim
 | .lst l,.non,v,h,g=>by erw[Is]at h g;obtain⟨a,xs,rfl,_⟩:=h;cases g
 | .lst l,.bl _,v,h,g=>by erw[Is]at h g;obtain⟨a,xs,rfl,_⟩:=h;cases g
 | .lst l,.int _,v,h,g=>by erw[Is]at h g;obtain⟨a,xs,rfl,_⟩:=h;cases g
 | .lst l,.str _,v,h,g=>by erw[Is]at h g;obtain⟨a,xs,rfl,_⟩:=h;cases g
 | .tup l,.non,v,h,g=>by erw[Is]at h g;obtain⟨a,xs,rfl,_⟩:=h;cases g
 | .tup l,.bl _,v,h,g=>by erw[Is]at h g;obtain⟨a,xs,rfl,_⟩:=h;cases g
 | .tup l,.int _,v,h,g=>by erw[Is]at h g;obtain⟨a,xs,rfl,_⟩:=h;cases g
 | .tup l,.str _,v,h,g=>by erw[Is]at h g;obtain⟨a,xs,rfl,_⟩:=h;cases g
 | .non,e,v,h,g=>by
  erw[Is]at h
  subst h;cases e <;> erw[Is]at g
  all_goals first | rfl | (obtain⟨a,xs,q,_⟩:=g;cases q) | cases g
 | .bl _,e,v,h,g=>by
  erw[Is]at h
  subst h;cases e <;> erw[Is]at g
  all_goals first | (cases g;rfl) | (obtain⟨a,xs,q,_⟩:=g;cases q) | cases g
 | .int _,e,v,h,g=>by
  erw[Is]at h
  subst h;cases e <;> erw[Is]at g
  all_goals first | (cases g;rfl) | (obtain⟨a,xs,q,_⟩:=g;cases q) | cases g
 | .str _,e,v,h,g=>by
  erw[Is]at h
  subst h;cases e <;> erw[Is]at g
  all_goals first | (cases g;rfl) | (obtain⟨a,xs,q,_⟩:=g;cases q) | cases g
theorem Xt(I:Inv X Ac σ H s):∀(l m:List D) (vs:List V),Iss X.K H l vs->Iss X.K H m vs->l=m
 | [],[],_,_,_=>rfl
 | [],e::m,vs,h,g=>by
  erw[Iss]at h g
  subst h;obtain⟨_,_,q,_⟩:=g;cases q
 | d::l,[],vs,h,g=>by
  erw[Iss]at h g
  subst g;obtain⟨_,_,q,_⟩:=h;cases q
 | d::l,e::m,vs,h,g=>by
  erw[Iss]at h g
  obtain⟨v,r,rfl,h1,h2⟩:=h;obtain⟨v',r',q,g1,g2⟩:=g;cases q;rw[QU I d e v h1 g1,Xt I l m r h2 g2]
end
theorem xC:∀{xs:List V} {us:List pY} {j:Nat} {x:V},Vals xs us->xs[j]? = tY x->∃u,us[j]? = tY u/\RelV x u
 | _,_,0,_,.cons r t,h=>by cases h;exact#[_,rfl,r]
 | _,_,j+1,_,.cons r t,h=>xC (j:=j) t h
theorem wP{l m:List D}{xs ys:List V}{its its':List pY}{A:rg}{n:Nat}(hl:Iss X.K H l xs)(hm:Iss X.K H m ys)(r:Vals xs its)(r':Vals ys its')(hn:uK l<n)
  (ih:∀(d e:D) (x y:V) (u v:pY),dpD d<n->Is X.K H d x->Is X.K H e y->RelV x u->RelV y v->SeqAt.EqAt A s u v (eqD d e)) :
  ∀j (h1:j<its.toArray.size) (h2:j<its'.toArray.size),SeqAt.EqAt A s its.toArray[j] its'.toArray[j] (eqD (l.getD j .non) (m.getD j .non)):=by
 intro j h1 h2;rw[aj]at h1 h2;have e1:=hl.len;have e2:=hm.len;have e3:=r.length;have e4:=r'.length;have g1:l[j]? = tY l[j]:=ae ⋯;have g2:m[j]? = tY m[j]:=ae ⋯;generalize l[j]=d at g1;generalize m[j]=e at g2;obtain⟨x,hx,ix⟩:=hl.at g1;obtain⟨y,hy,iy⟩:=hm.at g2;obtain⟨u,hu,ru⟩:=xC r hx;obtain⟨v,hv,rv⟩:=xC r' hy
 have q1:its.toArray[j]=u:=by
  have:=(Af.mp hu).2;simpa using this
 have q2:its'.toArray[j]=v:=by
  have:=(Af.mp hv).2;simpa using this
 rw[q1,q2,aa,aa,g1,g2];exact ih d e x y u v (cJ (zaZ g1) hn) ix iy ru rv
theorem Yl(I:Inv X Ac σ H s):∀(n:Nat) (A:rg) (d e:D) (x y:V) (u v:pY),A.units+n<cLine->dpD d<n->Is X.K H d x->Is X.K H e y->RelV x u->RelV y v->SeqAt.EqAt A s u v (eqD d e):=by
 intro n
 induction n with
 | zero=>intro A d e x y u v _ h;exact absurd h (bV _)
 | succ n ih =>
  intro A d e x y u v hu hd hx hy rx ry;have hu1:A.units<cLine:=⋯;have huA:A.in1.units+n<cLine:=by show A.units+1+n<cLine;lia
  cases d with
  | lst l =>
   erw[Is]at hx
   obtain⟨a,xs,rfl,h1,h2⟩:=hx;cases rx;obtain⟨its,r,p,_⟩:=I.list h1
   cases e with
   | non=>erw[Is]at hy;subst hy;cases ry;exact SeqAt.EqAt.list_none p.isList hu1
   | bl b=>erw[Is]at hy;subst hy;cases ry;exact SeqAt.EqAt.list_bool b p.isList hu1
   | int b=>erw[Is]at hy;subst hy;obtain⟨t,rfl⟩:=ry;exact SeqAt.EqAt.list_int b t p.isList hu1
   | str b=>erw[Is]at hy;subst hy;obtain⟨t,rfl⟩:=ry;exact SeqAt.EqAt.list_str b t p.isList hu1
   | tup m =>
    erw[Is]at hy
    obtain⟨b,ys,rfl,g1,g2⟩:=hy;cases ry;obtain⟨its',r',p',_⟩:=I.tuple g1;exact SeqAt.EqAt.list_tuple p.isList p' hu1
   | lst m =>
    have hy':=hy
    erw[Is]at hy
    obtain⟨b,ys,rfl,g1,g2⟩:=hy;cases ry;obtain⟨its',r',p',_⟩:=I.list g1
    erw[dpD]at hd
    by_cases hab:a=b
    ·subst hab;have:=QU I (.lst l) (.lst m) (.ref a) (by erw[Is];exact#[a,xs,rfl,h1,h2]) hy';rw[this,kP];exact SeqAt.EqAt.same _
    ·refine .of_refs hab ?_
     erw[eqD]
     have L1:=h2.len;have L2:=g2.len;have L3:=r.length;have L4:=r'.length;by_cases hl:l.length=m.length
     ·have:=SeqAt.RcAt.lists (A:=A) p.isList p'.isList (by erw[aj];lia) hu1 (wP h2 g2 r r' (n:=n) ⋯ λd e x y u v q1 q2 q3 q4 q5=>ih A.in1 d e x y u v huA q1 q2 q3 q4 q5);rw[vo,hl,fG,beq_self_eq_true,Bool.and_true];have e1:its.toArray.size=m.length:=by erw[aj];lia
      rw[e1]at this;exact this
     ·rw[vo,beq_eq_false_iff_ne.mpr hl,e8];exact SeqAt.RcAt.lists_lengths p.isList p'.isList (by rw[bne_iff_ne];erw[aj];lia) hu1
  | tup l =>
   erw[Is]at hx
   obtain⟨a,xs,rfl,h1,h2⟩:=hx;cases rx;obtain⟨its,r,p,_⟩:=I.tuple h1
   cases e with
   | non=>erw[Is]at hy;subst hy;cases ry;exact SeqAt.EqAt.tuple_none p hu1
   | bl b=>erw[Is]at hy;subst hy;cases ry;exact SeqAt.EqAt.tuple_bool b p hu1
   | int b=>erw[Is]at hy;subst hy;obtain⟨t,rfl⟩:=ry;exact SeqAt.EqAt.tuple_int b t p hu1
   | str b=>erw[Is]at hy;subst hy;obtain⟨t,rfl⟩:=ry;exact SeqAt.EqAt.tuple_str b t p hu1
   | lst m =>
    erw[Is]at hy
    obtain⟨b,ys,rfl,g1,g2⟩:=hy;cases ry;obtain⟨its',r',p',_⟩:=I.list g1;exact SeqAt.EqAt.tuple_list p p'.isList hu1
   | tup m =>
    have hy':=hy
    erw[Is]at hy
    obtain⟨b,ys,rfl,g1,g2⟩:=hy;cases ry;obtain⟨its',r',p',_⟩:=I.tuple g1
    erw[dpD]at hd
    by_cases hab:a=b
    ·subst hab;have:=QU I (.tup l) (.tup m) (.ref a) (by erw[Is];exact#[a,xs,rfl,h1,h2]) hy';rw[this,kP];exact SeqAt.EqAt.same _
    ·refine .of_refs hab ?_
     erw[eqD]
     have L1:=h2.len;have L2:=g2.len;have L3:=r.length;have L4:=r'.length;have:=SeqAt.RcAt.tuples (A:=A) p p' hu1 (wP h2 g2 r r' (n:=n) ⋯ λd e x y u v q1 q2 q3 q4 q5=>ih A.in1 d e x y u v huA q1 q2 q3 q4 q5);rw[vo]
     erw[aj]at this
     rw[<- L1,<- L2,L3,L4];exact this
  | non =>
   erw[Is]at hx
   subst hx
   cases e with
   | lst m =>
    erw[Is]at hy
    obtain⟨b,ys,rfl,g1,g2⟩:=hy;cases rx;cases ry;obtain⟨its',r',p',_⟩:=I.list g1;exact SeqAt.EqAt.none_list p'.isList hu1
   | tup m =>
    erw[Is]at hy
    obtain⟨b,ys,rfl,g1,g2⟩:=hy;cases rx;cases ry;obtain⟨its',r',p',_⟩:=I.tuple g1;exact SeqAt.EqAt.none_tuple p' hu1
   | _=>erw[Is]at hy;subst hy;exact WA rx ry rfl rfl
  | bl c =>
   erw[Is]at hx
   subst hx
   cases e with
   | lst m =>
    erw[Is]at hy
    obtain⟨b,ys,rfl,g1,g2⟩:=hy;cases rx;cases ry;obtain⟨its',r',p',_⟩:=I.list g1;exact SeqAt.EqAt.bool_list _ p'.isList hu1
   | tup m =>
    erw[Is]at hy
    obtain⟨b,ys,rfl,g1,g2⟩:=hy;cases rx;cases ry;obtain⟨its',r',p',_⟩:=I.tuple g1;exact SeqAt.EqAt.bool_tuple _ p' hu1
   | _=>erw[Is]at hy;subst hy;exact WA rx ry rfl rfl
  | int c =>
   erw[Is]at hx
   subst hx
   cases e with
   | lst m =>
    erw[Is]at hy
    obtain⟨b,ys,rfl,g1,g2⟩:=hy;obtain⟨t,rfl⟩:=rx;cases ry;obtain⟨its',r',p',_⟩:=I.list g1;exact SeqAt.EqAt.int_list _ _ p'.isList hu1
   | tup m =>
    erw[Is]at hy
    obtain⟨b,ys,rfl,g1,g2⟩:=hy;obtain⟨t,rfl⟩:=rx;cases ry;obtain⟨its',r',p',_⟩:=I.tuple g1;exact SeqAt.EqAt.int_tuple _ _ p' hu1
   | _=>erw[Is]at hy;subst hy;exact WA rx ry rfl rfl
  | str c =>
   erw[Is]at hx
   subst hx
   cases e with
   | lst m =>
    erw[Is]at hy
    obtain⟨b,ys,rfl,g1,g2⟩:=hy;obtain⟨t,rfl⟩:=rx;cases ry;obtain⟨its',r',p',_⟩:=I.list g1;exact SeqAt.EqAt.str_list _ _ p'.isList hu1
   | tup m =>
    erw[Is]at hy
    obtain⟨b,ys,rfl,g1,g2⟩:=hy;obtain⟨t,rfl⟩:=rx;cases ry;obtain⟨its',r',p',_⟩:=I.tuple g1;exact SeqAt.EqAt.str_tuple _ _ p' hu1
   | _=>erw[Is]at hy;subst hy;exact WA rx ry rfl rfl
def zfi(K:pW):R2:=λx y H Q=>∃l m,((Is K H (.lst l) x/\Is K H (.lst m) y)\/(Is K H (.tup l) x/\Is K H (.tup m) y))/\uK l<50/\Q (.bl (uf l m)) H
theorem QK(hu:X.A.units+100<cLine):OpR X (rp .Eq) (zfi X.K):=by
 intro Ac s σ H x y v u Q I rx ry h;obtain⟨l,m,hh,hd,q⟩:=h;have hu1:X.A.units<cLine:=⋯;have huA:X.A.in1.units+50<cLine:=by show X.A.units+1+50<cLine;lia
 rcases hh with ⟨hx,hy⟩ | ⟨hx,hy⟩
 ·erw[Is]at hx hy
  obtain⟨a,xs,rfl,h1,h2⟩:=hx;obtain⟨b,ys,rfl,g1,g2⟩:=hy;cases rx;cases ry;obtain⟨its,r,p,_⟩:=I.list h1;obtain⟨its',r',p',_⟩:=I.list g1;have L1:=h2.len;have L2:=g2.len;have L3:=r.length;have L4:=r'.length;by_cases hl:l.length=m.length
  ·have:=SeqAt.RcAt.lists (A:=X.A) p.isList p'.isList (by erw[aj];lia) hu1 (wP h2 g2 r r' (n:=50) hd λd e x y u v q1 q2 q3 q4 q5=>Yl I 50 X.A.in1 d e x y u v huA q1 q2 q3 q4 q5);have e1:its.toArray.size=m.length:=by erw[aj];lia
   rw[e1]at this;rw[vo,hl,fG,beq_self_eq_true,Bool.and_true]at q;exact this X.prog X.w X.xe _ #[.bl _,H,I,rfl,q]
  ·rw[vo,beq_eq_false_iff_ne.mpr hl,e8]at q;exact SeqAt.RcAt.lists_lengths p.isList p'.isList (by rw[bne_iff_ne];erw[aj];lia) hu1 X.prog X.w X.xe _ #[.bl _,H,I,rfl,q]
 ·erw[Is]at hx hy
  obtain⟨a,xs,rfl,h1,h2⟩:=hx;obtain⟨b,ys,rfl,g1,g2⟩:=hy;cases rx;cases ry;obtain⟨its,r,p,_⟩:=I.tuple h1;obtain⟨its',r',p',_⟩:=I.tuple g1;have L1:=h2.len;have L2:=g2.len;have L3:=r.length;have L4:=r'.length;have:=SeqAt.RcAt.tuples (A:=X.A) p p' hu1 (wP h2 g2 r r' (n:=50) hd λd e x y u v q1 q2 q3 q4 q5=>Yl I 50 X.A.in1 d e x y u v huA q1 q2 q3 q4 q5)
  erw[aj]at this
  rw[vo,<- L1,<- L2,L3,L4]at q;exact this X.prog X.w X.xe _ #[.bl _,H,I,rfl,q]
end
theorem Yv(l m:List Int):uf (l.map D.int) (m.map D.int)=decide (l=m):=by
 induction l generalizing m with
 | nil=>cases m <;> simp [uf]
 | cons a l ih =>
  cases m with
  | nil=>simp [uf]
  | cons b m =>
   erw[ao,uf,eqD,ih m]
   by_cases h1:a=b
   ·subst h1;by_cases h2:l=m
    ·simp [h2]
    ·simp [h2]
   ·simp [h1]
theorem Y7(l:List Int):uK (l.map D.int)=0:=by
 induction l with
 | nil=>rfl
 | cons a l ih=>erw[ao,uK,dpD,ih];rfl
abbrev CNx(n i:Nat)(Pv:Nat->List V->Hp->Prop)(Ae:List V)(H:Hp):Prop:=∃m',m'<n - i/\(m'=n - (i+1)/\i+1<=n/\Pv (i+1) Ae H)
theorem CNx.mk{n i:Nat}{Pv:Nat->List V->Hp->Prop}{Ae:List V}{H:Hp}(hi:i<n)(h:Pv (i+1) Ae H):CNx n i Pv Ae H:=#[n - (i+1),⋯,rfl,hi,h]
def YR(J:It)(g:TG)(tt:TT)(te:TE)(own:Nat)(ix:())(σ:St)(H1:Hp)(Q:VK)(D:pX):Prop:=∃W:Nat->Nat->List V->Hp->Prop,(∃m,W 0 m [] (upd H1 D (.lst []))) /\
 ∀i m Ae H',W i m Ae H'->(J.stop i H'/\Q (.ref D) H')\/(J.go i H'/\∀x H2,J.yld i H' x H2->g x (vZ σ own ix) H2 λσ3 H3=>xt (vZ σ own ix) σ3/\tt σ3 H3 λb H4=>if b=Aa then
  te σ3 H4 λv H5=>H5 D=tY (.lst Ae)/\Ae.length<pV/\∃m',m'<m/\W (i+1) m' (Ae ++ [v]) (upd H5 D (.lst (Ae ++ [v])))
  else ∃m',m'<m/\W (i+1) m' Ae H4)
def zdN(lo:Int)(n:Nat)(g:TG)(tt:TT)(te:TE)(own:Nat)(ix:())(σ:St)(H1:Hp)(Q:VK)(D:pX):Prop:=YR (Itr lo n) g tt te own ix σ H1 Q D
def CompL(K:pW)(a:pX)(g:TG)(tt:TT)(te:TE)(own:Nat)(ix:())(σ:St)(H1:Hp)(Q:VK)(D:pX):Prop:=YR (Itl K a) g tt te own ix σ H1 Q D
def CompS(x:re)(g:TG)(tt:TT)(te:TE)(own:Nat)(ix:())(σ:St)(H1:Hp)(Q:VK)(D:pX):Prop:=YR (Its x) g tt te own ix σ H1 Q D
theorem KI{ta:TA}{g:TG}{tt:TT}{te:TE}{own:Nat}{ix:()}{σ:St}{H:Hp}{Q:VK}:jp (zbL ta) g tt te own ix σ H Q=ta σ H λvs H1=>∃j:Int,vs=[.int j]/\-(2 ^ 62)<=j/\j<2 ^ 62/\∀D,H1 D=tZ->zdN 0 j.toNat g tt te own ix σ H1 Q D:=rfl
theorem zdl{K:pW}{tl:TE}{g:TG}{tt:TT}{te:TE}{own:Nat}{ix:()}{σ:St}{H:Hp}{Q:VK}:jp (zaV K tl) g tt te own ix σ H Q=tl σ H λx H1=>∃a,x=.ref a/\(∃xs,SqL K H1 a xs)/\∀D,H1 D=tZ->CompL K a g tt te own ix σ H1 Q D:=rfl
theorem zc9{tl:TE}{g:TG}{tt:TT}{te:TE}{own:Nat}{ix:()}{σ:St}{H:Hp}{Q:VK}:jp (zer tl) g tt te own ix σ H Q=tl σ H λv H1=>∃x,v=.str x/\∀D,H1 D=tZ->CompS x g tt te own ix σ H1 Q D:=rfl
section
variable{g:TG}{tt:TT}{te:TE}{own:Nat}{ix:()}{σ:St}{H1:Hp}{Q:VK}{D:pX}
theorem CompL.by{K:pW}{a:pX}{xs:List V}(Pv:Nat->List V->Hp->Prop)(h0:Pv 0 [] (upd H1 D (.lst [])))(hl:∀i Ae H',i<=xs.length->Pv i Ae H'->SqL K H' a xs)
  (hs:∀i x Ae H',xs[i]? = tY x->Pv i Ae H'->g x (vZ σ own ix) H' λσ3 H3=>xt (vZ σ own ix) σ3/\tt σ3 H3 λb H4=>if b=Aa then
   te σ3 H4 λv H5=>H5 D=tY (.lst Ae)/\Ae.length<pV/\CNx xs.length i Pv (Ae ++ [v]) (upd H5 D (.lst (Ae ++ [v])))else CNx xs.length i Pv Ae H4)
  (hd:∀Ae H',Pv xs.length Ae H'->Q (.ref D) H'):CompL K a g tt te own ix σ H1 Q D:=by
 refine#[λi m Ae H=>m=xs.length - i/\i<=xs.length/\Pv i Ae H,#[xs.length,by simp,aD _,h0],?_];rintro i m Ae H' ⟨rfl,hi,p⟩;have q:=hl i Ae H' hi p;by_cases hlt:i<xs.length
 ·refine .inr #[#[xs,xs[i],q,by simp [hlt]],λx H2 y=>?_];obtain⟨e,y⟩:=y;subst e;exact hs i x Ae _ (y xs q) p
 ·have e:i=xs.length:=⋯;subst e;exact .inl #[#[xs,q,al _],hd Ae H' p]
theorem CompS.by{l:()}(Pv:Nat->List V->Hp->Prop)(h0:Pv 0 [] (upd H1 D (.lst [])))
  (hs:∀i c Ae H',l[i]? = tY c->Pv i Ae H'->g (.str (tx [c])) (vZ σ own ix) H' λσ3 H3=>xt (vZ σ own ix) σ3/\tt σ3 H3 λb H4=>if b=Aa then
   te σ3 H4 λv H5=>H5 D=tY (.lst Ae)/\Ae.length<pV/\CNx l.length i Pv (Ae ++ [v]) (upd H5 D (.lst (Ae ++ [v])))else CNx l.length i Pv Ae H4)
  (hd:∀Ae H',Pv l.length Ae H'->Q (.ref D) H'):CompS (tx l) g tt te own ix σ H1 Q D:=by
 refine#[λi m Ae H=>m=l.length - i/\i<=l.length/\Pv i Ae H,#[l.length,by simp,aD _,h0],?_];rintro i m Ae H' ⟨rfl,hi,p⟩;by_cases hlt:i<l.length
 ·refine .inr #[hlt,λv H2 y=>?_];obtain⟨e,c,hc,ev⟩:=y;subst e ev;exact hs i c Ae _ hc p
 ·have e:i=l.length:=⋯;subst e;exact .inl #[rfl,hd Ae H' p]
end
theorem xZ{x:V}{r:St}:xt (tZ::r) (tY x::r):=#[rfl,λi v h=>by
 cases i with
 | zero=>cases h
 | succ i=>exact h]
theorem z6{X:Cx}{scope sc:rL}{own caps:List re}{ix:()}(h1:scope.kind=.function)(h2:scope.names.all (λy=>y.2 != .cell)=Aa)(h3:scope.names.all (λy=>y.2 != .local || scope.names.lookup y.1 == tY .local)=Aa)
  (h4:scope.names.all (λy=>y.2 != .free || sc.names.lookup y.1 == tY .cell)=Aa) (hsc:X.env.scope=sc) (h5:own.all (λy=>scope.names.lookup y == tY .local)=Aa) (h6:caps.all (λy=>scope.names.lookup y == tY .free)=Aa) (h7:ix.map (λi=>X.N[i]?)=caps.map tY):jZ X scope own caps ix:=by
 refine#[h1,λy hy=>?_,λy hy e=>?_,λy hy=>?_,λy hy=>?_,λy hy=>?_,h7]
 ·have:=Ao.mp h2 y hy;simpa using this
 ·have:=Ao.mp h3 y hy;rw[e]at this;simpa using this
 ·have:=Ao.mp h4 _ hy;have:=by simpa using this
  refine .inl ?_;show X.env.scope.names.lookup y=tY .cell;rw[hsc];exact this
 ·have:=Ao.mp h5 y hy;simpa using this
 ·have:=Ao.mp h6 y hy;simpa using this
theorem Y6{α:Type}(l:List α){a b:Int}(h0:0<=a)(h1:a<=b)(h2:b<=l.length):cut l (tY a) (tY b)=(l.drop a.toNat).take (b - a).toNat:=by
 obtain⟨m,rfl⟩:=bA h0;obtain⟨n,rfl⟩:=bA (by lia:0<=b);unfold cut;rw[HT.sIx_nat,HT.sIx_nat,cZ ⋯,cZ ⋯];have:((n:Int) - (m:Int)).toNat=n - m:=⋯;rw[this];rfl
theorem kL{k:Nat}{A:rg}(r:Room k A):A.units+100<cLine:=by have:=r.un;lia
theorem YI{K:pW}{x y:V}{H:Hp}{Q:VK}{l m:List D}(h:(Is K H (.lst l) x/\Is K H (.lst m) y)\/(Is K H (.tup l) x/\Is K H (.tup m) y))(hd:uK l<50)(q:Q (.bl (uf l m)) H):zfi K x y H Q:=#[l,m,h,hd,q]
def zeB(t u:TS):TS:=λD σ H=>∃R:St->Hp->Prop,t { D with nx:=R } σ H/\∀σ' H',R σ' H'->u D σ' H'
theorem zi{X:Cx}{st:rn}{rest:List rn}{t u:TS}(h1:PS X st t)(h2:PSs X rest u):PSs X (st::rest) (zeB t u):=by
 intro Ac s σ H D I h;obtain⟨R,h,hr⟩:=h;refine rW (thn (h1 Ac s σ H { D with nx:=R } I h) λf s1 q=>?_)
 cases f with
 | next =>
  obtain⟨σ',H',I',q⟩:=q;exact h2 Ac s1 σ' H' D I' (hr _ _ q)
 | ret v=>exact q
 | brk=>exact q
 | cont=>exact q
theorem jI{t u:TS}{D:vf}{σ:St}{H:Hp}(R:St->Hp->Prop)(h:t { D with nx:=R } σ H)(hr:∀σ' H',R σ' H'->u D σ' H'):zeB t u D σ H:=#[R,h,hr]
theorem zj{t u:TS}{D:vf}{σ:St}{H:Hp}(R:St->Hp->Prop)(h:t { D with nx:=R } σ H)(hr:∀G:St->Hp->Prop,G=u D->∀σ' H',R σ' H'->G σ' H'):zeB t u D σ H:=#[R,h,hr _ rfl]
theorem nm4{α β γ δ:Type}{P R:α->β->γ->δ->Prop}{B:α->β->γ->δ->Prop}(h:∀G:α->β->γ->δ->Prop,G=B->∀a b c d,P a b c d->R a b c d->G a b c d):∀a b c d,P a b c d->R a b c d->B a b c d:=h _ rfl
theorem nm3{α β γ:Type}{P R:α->β->γ->Prop}{B:α->β->γ->Prop}(h:∀G:α->β->γ->Prop,G=B->∀a b c,P a b c->R a b c->G a b c):∀a b c,P a b c->R a b c->B a b c:=h _ rfl
theorem zH{H H':Hp}{a:pX}{o:HO}(h:Same H H')(e:H a=tZ):Same H (upd H' a o):=λb u q=>by
 rw[zp (zJ q e)];exact h b u q
theorem ForL.by{K:pW}{a:pX}{xs:List V}{g:TG}{tb:TS}{D:vf}{σ:St}{H:Hp}(Pv:Nat->St->Hp->Prop)(h0:Pv 0 σ H)(hl:∀i σ H,i<=xs.length->Pv i σ H->SqL K H a xs)
  (hs:∀i x σ H,xs[i]? = tY x->Pv i σ H->g x σ H λσ2 H2=>tb { D with nx:=Pv (i+1),ct:=Pv (i+1),bk:=D.nx } σ2 H2) (hd:∀σ H,Pv xs.length σ H->D.nx σ H):ForL K a g tb D σ H:=Jj Pv h0 hl hs hd
theorem Zw{A B:Prop}(h:B):if Aa=Ab then A else B:=by rw[if_neg ∅];exact h
def CompV(K:pW)(a:pX)(n:Nat)(g:TG)(tt:TT)(te:TE)(own:Nat)(ix:())(σ:L2.St)(H1:Hp)(Q:VK)(D:pX):Prop:=YR (Irv K a n) g tt te own ix σ H1 Q D
theorem zcd{K:pW}{ta:TA}{g:TG}{tt:TT}{te:TE}{own:Nat}{ix:()}{σ:L2.St}{H:Hp}{Q:VK}:jp (zeV K ta) g tt te own ix σ H Q=ta σ H λvs H1=>∃a xs,vs=[.ref a]/\SqL K H1 a xs/\∀D,H1 D=tZ->CompV K a xs.length g tt te own ix σ H1 Q D:=rfl
theorem CompV.by{K:pW}{a:pX}{xs:List V}{g:TG}{tt:TT}{te:TE}{own:Nat}{ix:()}{σ:L2.St}{H1:Hp}{Q:VK}{D:pX}(Pv:Nat->List V->Hp->Prop)(h0:Pv 0 [] (upd H1 D (.lst [])))(hl:∀i Ae H',i<=xs.length->Pv i Ae H'->SqL K H' a xs)
  (hs:∀i x Ae H',xs.reverse[i]? = tY x->Pv i Ae H'->g x (vZ σ own ix) H' λσ3 H3=>xt (vZ σ own ix) σ3/\tt σ3 H3 λb H4=>if b=Aa then
   te σ3 H4 λv H5=>H5 D=tY (.lst Ae)/\Ae.length<pV/\CNx xs.length i Pv (Ae ++ [v]) (upd H5 D (.lst (Ae ++ [v])))else CNx xs.length i Pv Ae H4)
  (hd:∀Ae H',Pv xs.length Ae H'->Q (.ref D) H'):CompV K a xs.length g tt te own ix σ H1 Q D:=by
 refine#[λi m Ae H=>m=xs.length - i/\i<=xs.length/\Pv i Ae H,#[xs.length,by simp,aD _,h0],?_];rintro i m Ae H' ⟨rfl,hi,p⟩;have q:=hl i Ae H' hi p;by_cases hlt:i<xs.length
 ·refine .inr #[#[xs,q,rfl,hlt],λx H2 y=>?_];obtain⟨e,y⟩:=y;subst e;refine hs i x Ae _ ?_ p;rw[bu hlt];exact y xs q rfl
 ·have e:i=xs.length:=⋯;subst e;exact .inl #[rfl,hd Ae H' p]
theorem zeg{v:V}{σ:L2.St}{H:Hp}{Q:VK}:yt 0 (tY v::σ) H Q=Q v H:=rfl
theorem zeI{a0:Option V}{v:V}{σ:L2.St}{H:Hp}{Q:VK}:yt 1 (a0::tY v::σ) H Q=Q v H:=rfl
theorem zej{a0 a1:Option V}{v:V}{σ:L2.St}{H:Hp}{Q:VK}:yt 2 (a0::a1::tY v::σ) H Q=Q v H:=rfl
theorem zen{a0 a1 a2:Option V}{v:V}{σ:L2.St}{H:Hp}{Q:VK}:yt 3 (a0::a1::a2::tY v::σ) H Q=Q v H:=rfl
theorem zeF{a0 a1 a2 a3:Option V}{v:V}{σ:L2.St}{H:Hp}{Q:VK}:yt 4 (a0::a1::a2::a3::tY v::σ) H Q=Q v H:=rfl
theorem zew{a0 a1 a2 a3 a4:Option V}{v:V}{σ:L2.St}{H:Hp}{Q:VK}:yt 5 (a0::a1::a2::a3::a4::tY v::σ) H Q=Q v H:=rfl
theorem zeL{a0 a1 a2 a3 a4 a5:Option V}{v:V}{σ:L2.St}{H:Hp}{Q:VK}:yt 6 (a0::a1::a2::a3::a4::a5::tY v::σ) H Q=Q v H:=rfl
theorem zdQ{a0 a1 a2 a3 a4 a5 a6:Option V}{v:V}{σ:L2.St}{H:Hp}{Q:VK}:yt 7 (a0::a1::a2::a3::a4::a5::a6::tY v::σ) H Q=Q v H:=rfl
theorem zek{a0 a1 a2 a3 a4 a5 a6 a7:Option V}{v:V}{σ:L2.St}{H:Hp}{Q:VK}:yt 8 (a0::a1::a2::a3::a4::a5::a6::a7::tY v::σ) H Q=Q v H:=rfl
theorem zed{a0 a1 a2 a3 a4 a5 a6 a7 a8:Option V}{v:V}{σ:L2.St}{H:Hp}{Q:VK}:yt 9 (a0::a1::a2::a3::a4::a5::a6::a7::a8::tY v::σ) H Q=Q v H:=rfl
theorem zaJ{a0 a1 a2 a3 a4 a5 a6 a7 a8 a9:Option V}{v:V}{σ:L2.St}{H:Hp}{Q:VK}:yt 10 (a0::a1::a2::a3::a4::a5::a6::a7::a8::a9::tY v::σ) H Q=Q v H:=rfl
theorem zdd{b:Bool}{p:Bool->Prop}:(∃k,V.bl b=V.bl k/\p k)=p b:=propext #[λ⟨_,h,q⟩=>by cases h;exact q,λq=>#[_,rfl,q]]
theorem KJ{b:Int}{p:Int->Prop}:(∃k,V.int b=V.int k/\p k)=p b:=propext #[λ⟨_,h,q⟩=>by cases h;exact q,λq=>#[_,rfl,q]]
theorem Kv{b:re}{p:re->Prop}:(∃k,V.str b=V.str k/\p k)=p b:=propext #[λ⟨_,h,q⟩=>by cases h;exact q,λq=>#[_,rfl,q]]
theorem Ko{b:pX}{p:pX->Prop}:(∃k,V.ref b=V.ref k/\p k)=p b:=propext #[λ⟨_,h,q⟩=>by cases h;exact q,λq=>#[_,rfl,q]]
theorem zeP{i:Int}{p:Int->Prop}:onInt (.int i) p=p i:=rfl
theorem zeo{i:re}{p:re->Prop}:onStr (.str i) p=p i:=rfl
theorem zdZ{i:Bool}{p:Bool->Prop}:onBl (.bl i) p=p i:=rfl
theorem zeN{i:pX}{p:pX->Prop}:onRef (.ref i) p=p i:=rfl
theorem zd3{K:pW}{b:Bool}{H:Hp}{p:Bool->Prop}:zee K (.bl b) H p=p b:=rfl
theorem Kr{x:V}{p:Int->Prop}:onInt x p=∃k,x=.int k/\p k:=propext #[onInt.of,onInt.to]
theorem KL{x:V}{p:re->Prop}:onStr x p=∃k,x=.str k/\p k:=propext #[onStr.of,onStr.to]
theorem KO{x:V}{p:Bool->Prop}:onBl x p=∃k,x=.bl k/\p k:=propext #[onBl.of,onBl.to]
theorem KP{x:V}{p:pX->Prop}:onRef x p=∃k,x=.ref k/\p k:=propext #[onRef.of,onRef.to]
theorem UO{i:Nat}{σ:L2.St}{H:Hp}{Q:VK}:yt i σ H Q=∃v,σ[i]? = tY (tY v)/\Q v H:=propext #[onSl.of,λ⟨v,h,q⟩=>by erw[yt,onSl,h];exact q]
theorem zaW{a b:Int}{H:Hp}{Q:VK}:rEq (.int a) (.int b) H Q=Q (.bl (decide (a=b))) H:=rfl
theorem zbh{a b:re}{H:Hp}{Q:VK}:rEq (.str a) (.str b) H Q=Q (.bl (decide (a=b))) H:=rfl
theorem zbR{a b:Int}{H:Hp}{Q:VK}:rNe (.int a) (.int b) H Q=Q (.bl (!decide (a=b))) H:=rfl
theorem za3{a b:re}{H:Hp}{Q:VK}:rNe (.str a) (.str b) H Q=Q (.bl (!decide (a=b))) H:=rfl
theorem zbE{a:Int}{y:V}{H:Hp}{Q:VK}:Xk (.int a) y H Q=onInt y λj=>Q (.int (a+j)) H:=rfl
theorem zam{a:re}{y:V}{H:Hp}{Q:VK}:Xk (.str a) y H Q=onStr y λj=>a.length+j.length<=pV/\Q (.str (a ++ j)) H:=rfl
theorem zbg{a:pX}{y:V}{H:Hp}{Q:VK}:Xk (.ref a) y H Q=zbZ (.ref a) y H Q:=rfl
theorem zag{a:Int}{y:V}{H:Hp}{Q:VK}:zbu (.int a) y H Q=onInt y λj=>CMul a j/\Q (.int (a * j)) H:=rfl
theorem zax{z:re}{y:V}{H:Hp}{Q:VK}:zbu (.str z) y H Q=onInt y λn=>0<=n/\n<=1000/\z.length<=1000/\Q (.str (tx (aT n.toNat (cs z)).flatten)) H:=rfl
theorem zeC{a:Int}{y:V}{H:Hp}{Q:VK}:zdL (.int a) y H Q=onInt y λj=>Q (.bl (decide (a<j))) H:=rfl
theorem zec{a:re}{y:V}{H:Hp}{Q:VK}:zdL (.str a) y H Q=onStr y λj=>Q (.bl (decide (cs a<cs j))) H:=rfl
theorem zeO{a:Int}{y:V}{H:Hp}{Q:VK}:zdD (.int a) y H Q=onInt y λj=>Q (.bl (decide (a<=j))) H:=rfl
theorem zd5{a:re}{y:V}{H:Hp}{Q:VK}:zdD (.str a) y H Q=onStr y λj=>Q (.bl (!(decide (cs j<cs a)))) H:=rfl
theorem zd0{a:Int}{y:V}{H:Hp}{Q:VK}:zdE (.int a) y H Q=onInt y λj=>Q (.bl (decide (j<a))) H:=rfl
theorem zdW{a:re}{y:V}{H:Hp}{Q:VK}:zdE (.str a) y H Q=onStr y λj=>Q (.bl (decide (cs j<cs a))) H:=rfl
theorem zeu{K:pW}{a:pX}{y:V}{H:Hp}{Q:VK}:rIx K (.ref a) y H Q=onInt y λi=>(∃xs,SqL K H a xs/\∃v,atI xs i=tY v/\Q v H)\/∃xs,SqT K H a xs/\∃v,atI xs i=tY v/\Q v H:=rfl
theorem zes{K:pW}{z:re}{y:V}{H:Hp}{Q:VK}:rIx K (.str z) y H Q=zbk (.str z) y H Q:=rfl
theorem zaS{K:pW}{z:re}{lo hi:Option Int}{H:Hp}{Q:VK}:zcZ K (.str z) lo hi H Q=(z.length<=pV/\Q (.str (tx (cut (cs z) lo hi))) H):=rfl
theorem zaw{K:pW}{a:pX}{lo hi:Option Int}{H:Hp}{Q:VK}:zcZ K (.ref a) lo hi H Q=(∃xs,SqL K H a xs/\∀p,H p=tZ->Q (.ref p) (upd H p (.lst (K6 xs lo hi)))):=rfl
theorem zbd{K:pW}{z:re}{H:Hp}{Q:VK}:Vd K [.str z] H Q=(z.length<=pV/\Q (.int z.length) H):=rfl
theorem zaI{K:pW}{a:pX}{H:Hp}{Q:VK}:Vd K [.ref a] H Q=(∃n:Nat,((∃xs,SqL K H a xs/\n=xs.length)\/∃xs,SqT K H a xs/\n=xs.length)/\Q (.int n) H):=rfl
theorem zaT{x:V}{H:Hp}{Q:VK}:zeW x .non H Q=Q (.bl (decide (x=.non))) H:=rfl
theorem zaj{x:V}{H:Hp}{Q:VK}:zcQ x .non H Q=Q (.bl (!decide (x=.non))) H:=rfl
theorem za4{i j:Int}{H:Hp}{Q:VK}:Jr [.int i,.int j] H Q=Q (.int (if j > i then j else i)) H:=rfl
theorem zaM{a:pX}{y:V}{H:Hp}{Q:VK}:Qi (.ref a) [y] H Q=(∃xs,H a=tY (.lst xs)/\xs.length<pV/\Q .non (upd H a (.lst (xs ++ [y])))):=rfl
theorem zfg{K:pW}{z:re}{H:Hp}{p:Prop}:(tyV K "str" (.str z) H/\p)=p:=propext #[λh=>h.2,λh=>#[rfl,h]]
section
variable{X:Cx}{a b e:rh}{ta tb te:TE}{pos p:rP}
theorem zC(i:Nat){x:re}{pos':rP}(hN:X.N.Nodup)(he:PE X e te)(hi:X.N[i]? = tY x:=by rfl)(hx:Loc X.env.scope x:=by exact .inl rfl)(hs:swapsWith e (tY (.Name x pos')) pos.line X.env=pure Ab:=by rfl)(hf:X.fn x=Aa\/X.env.scope.names.lookup x=tY .local:=by first | exact .inl rfl | exact .inr rfl | assumption) :
  PS X (.Assign [.Name x pos'] e pos) (zbV te (yD i)):=jY hN hi hx he hs hf
theorem zo{r:R2}(hr:IxR X r)(ha:PE X a ta)(hb:PE X b tb)(hs:U5 b:=by exact λ_ _=>rfl):PE X (.Subscript a b pos) (tOp r ta tb):=zdM hr ha hb hs
theorem zD(hm:X.mg "len" = tZ)(he:PE X e te)(hg:Gl X "len":=by rfl)(h1:pT [e] X.env=(Ab,eval e X.env)::pT [] X.env:=by rfl)(h2:(rA pos (pT [] X.env)).any (·.1)=Ab:=by rfl):PE X (.Call (.Name "len" p) [e] [] pos) (tCB (Vd X.K) (zM te xM)) :=
 yW zdV hg hm PySem.boot_len (za he zd h1) (he:=h1) (hpl:=h2)
end
section
variable{X:Cx}
theorem j8:∀{bs:List Bool} {its:List pY} {i:Nat} {v:pY},Vals (bs.map V.bl) its->its[i]? = tY v->v=.bool (bs.getD i Ab)
 | [],_,_,_,.nil,h=>by cases h
 | b::bs,_,0,v,.cons r t,h=>by
  cases r;cases h;rfl
 | b::bs,_,i+1,v,.cons r t,h=>j8 (bs:=bs) (i:=i) t h
theorem UB(bs:List Bool):(aH bs.length).all (λi=>bs.getD i Ab)=bs.all id:=by
 induction bs with
 | nil=>rfl
 | cons b bs ih =>
  rw[aB,dj,ft,List.all_map,ft,<- ih];rfl
def zfp(K:pW):List V->Hp->VK->Prop:=λxs H Q=>∃(p:pX) (bs:List Bool),xs=[.ref p]/\SqL K H p (bs.map V.bl)/\Q (.bl (bs.all id)) H
theorem zei(hc:X.calm=Aa):vj X (.builtin "all") (zfp X.K):=by
 intro Ac s σ H xs us Q I r h;obtain⟨p,bs,rfl,hS,q⟩:=h;obtain⟨u,rfl,ru⟩:=wg r;cases ru;obtain⟨its,rv,pl,hz⟩:=I.list hS
 have hlen:its.length=bs.length:=by
  have:=rv.length;rw[ac]at this;exact this.symm
 have hh:X.A.in1.handled=tZ:=I.ok.hd hc
 have hne:p≠s⁻¹:=by
  obtain⟨o,n,e,_⟩:=pl;exact ay (aq e)
 obtain⟨f0,f1,f2,f3,f4,f5⟩:=I.fpOk (H':=H) (al _) (I.hok.fresh (al _));have I1:=I.kept (t':=s.toks) (h':=s.heap.push { cls:=.type "list_iterator",data:=.fields (List.toArray [.ref p,.int 0 0]) }) λb o e=>ah _ e;refine call_all_walk (sk pl.isList ?_);refine#[s⁻¹,_,_,_,_,_,λi=>bs.getD i Ab,rfl,Walks.list hh s⁻¹ p hne its.toArray,#[#[_,aG _ rfl,rfl,rfl],?_],?_,?_]
 ·obtain⟨o,n,e,c,d,dt⟩:=pl;exact#[o,ah _ e,c,n,dt]
 ·intro i v s' Q' E' hv hq;have:=j8 rv (i:=i) (v:=v) (by simpa using hv);rw[this];exact rB hq
 ·intro h' tk hk
  have e:(aH its.toArray.size).all (λi=>bs.getD i Ab)=bs.all id:=by
   rw[aj,hlen,UB]
  rw[e];refine#[.bl _,H,?_,rfl,q];exact I1.turned (t':=tk) (it:=s⁻¹) (λb o hb q=>hk b o (by simpa using hb) q) f0 f1 f3 f4 f5
end
section
variable{M:tJ}{A:rg}{E:pY->pZ->Prop}{s:pZ}{base:rj}{env env0:sN}{outer:List sN}{L x t C:pX}{dx:Option pX}
theorem zcN{tb:pY}{Q:Unit->pZ->Prop}(hfr:A.frames=tY (env0::outer))(hl:s.heap.FunFrames base (env0::outer))(hf:env0.frame=tY L)(he:env.frame=tY L)
  (hx:s.heap.get? x=tY (xob C dx t tb)) (htb:zaC s.heap x tb)
  (h:∀h' T oT ts,h'.get? x=tY (xob C dx t (.ref T))->T≠x->(tb=.ref T\/s⁻¹<=T)->h'.get? T=tY oT->oT.data=.fields ts->3<ts.size ->
   (∀b o,b≠x->tb≠.ref b->b ∉ frs (env0::outer)->s.heap.get? b=tY o->h'.get? b=tY o)->(∀b o,b≠x->tb≠.ref b->s.heap.get? b=tY o->∃sl,h'.get? b=tY { o with slots:=sl })->Q Unit.unit { s with heap:=h' }) :
  rd M A (noteFrame (.ref x) env) Q E s:=by
 have land:∀(h1:rj) (T:pX) (oT:rF) (ts:Array pY),h1.get? x=tY (xob C dx t (.ref T))->T≠x->(tb=.ref T\/s⁻¹<=T)->h1.get? T=tY oT->oT.data=.fields ts->3<ts.size ->
   (∀b o,b≠x->tb≠.ref b->b ∉ frs (env0::outer)->s.heap.get? b=tY o->h1.get? b=tY o)->(∀b o,b≠x->tb≠.ref b->s.heap.get? b=tY o->∃sl,h1.get? b=tY { o with slots:=sl }) ->
   Q Unit.unit { s with heap:=h1 }:=λh1 T oT ts e1 nT oldT e2 d2 z2 k1 k2=>h h1 T oT ts e1 nT oldT e2 d2 z2 k1 k2
 unfold noteFrame
 erw[he]
 refine pQ (rT hx rfl (x:=tb) rfl ?_);rcases htb with rfl | ⟨T,oT,ts,rfl,nT,e2,d2,z2⟩
 ·rw[if_neg ∅];refine Zg hfr hl hf he hx λh' oT ts e1 ne e2 d2 z2 k1 k2=>land h' _ oT ts e1 ne (.inr (al _)) e2 d2 z2 (λb o hb _ hbf e=>k1 b o hb hbf e) λb o hb _ e=>k2 b o hb e
 ·rw[if_pos (show (Value.ref T != Value.none)=Aa from by simp)];obtain⟨y,hy⟩:∃y,ts[3]? = tY y:=#[ts[3],by simp [z2]];refine pQ (rT e2 d2 (x:=y) hy ?_);by_cases c:(y == rawInt L)=Aa
  ·rw[if_pos c];exact pR (land s.heap T oT ts hx nT (.inl rfl) e2 d2 z2 (λb o _ _ _ e=>e) λb o _ _ e=>#[o.slots,e])
  ·rw[if_neg c];refine pQ (rR e2 d2 z2 ?_);have oth:∀b,b≠T->(s.heap.update T (Obj.mapFields (·.setIfInBounds 3 Value.none))).get? b=s.heap.get? b:=λb hb=>aE _ _ (Ne.symm hb);have hl1:(s.heap.update T (Obj.mapFields (·.setIfInBounds 3 Value.none))).FunFrames base (env0::outer):=hl.of_keeps λb o hb hnf=>#[o,(oth b λq=>by rw[q,e2]at hb;cases hb;exact hnf ts d2).trans hb,rfl];have hsz:(s.heap.update T (Obj.mapFields (·.setIfInBounds 3 Value.none))).objs.size=s⁻¹:=dn ..;refine Zg (s:={ s with heap:=s.heap.update T (Obj.mapFields (·.setIfInBounds 3 Value.none)) }) hfr hl1 hf he ((oth x (Ne.symm nT)).trans hx) λh' oT' ts' e1 ne e2' d2' z2' k1 k2=>?_;refine land h' _ oT' ts' e1 ne (.inr (by rw[hsz];exact al _)) e2' d2' z2' (λb o hb hbt hbf e=>k1 b o hb hbf ((oth b λq=>hbt (by rw[q])).trans e)) λb o hb hbt e=>k2 b o hb ((oth b λq=>hbt (by rw[q])).trans e)
end
section
variable{X:Cx}{Ac:List (pX × rF)}{σ:St}{H1:Hp}{s1:pZ}
theorem Inv.noted{h':rj}{x T:pX}{tb:pY}(I1:Inv X Ac σ H1 s1)(hst:X.stack=X.env::X.outer)(fx:xU X Ac H1 x)(fT:∀T,tb=.ref T->xU X Ac H1 T)(fT':xU X Ac H1 T)
  (k1:∀b o,b≠x->tb≠.ref b->b ∉ frs (X.env::X.outer)->s1.heap.get? b=tY o->h'.get? b=tY o) (k2:∀b o,b≠x->tb≠.ref b->s1.heap.get? b=tY o->∃sl,h'.get? b=tY { o with slots:=sl }):Inv X Ac σ H1 { s1 with heap:=h' }:=by
 have tbs:∀b,tb=.ref b->H1 b=tZ:=λb hb=>(fT b hb).1
 have nch:∀b o,s1.heap.get? b=tY o->b ∉ (x::T::tbL tb)->b≠x/\tb≠.ref b:=λb o _ hb=>by
  refine#[λz=>hb (by simp [z]),λz=>hb ?_];rw[z];simp [tbL]
 have un:Un (frs X.stack) (x::T::tbL tb) H1 H1 s1.heap h':=by
  rw[hst];refine#[λb o e n hb hc=>?_,λb o e n hb hc=>?_,λb o e n _=>n,λb o e hc=>?_,λb xs e=>e,λb o u e=>e,λb ps e=>#[#[],by rw[e];simp]]
  ·obtain⟨a1,a2⟩:=nch b o e hc;exact k1 b o a1 a2 hb e
  ·obtain⟨a1,a2⟩:=nch b o e hc;exact k2 b o a1 a2 e
  ·obtain⟨a1,a2⟩:=nch b o e hc;obtain⟨sl,q⟩:=k2 b o a1 a2 e;exact#[_,q]
 have hok:HOk X.prog X.w H1 h':=λb u e=>by
  refine (I1.hok b u e).stay (λc v hc q=>k1 c v ?_ ?_ ?_ q) (λ_ q=>q) λ_ _ q=>q
  ·rintro rfl;rcases hc with rfl | hc
   ·rw[fx.1]at e;cases e
   ·rw[fx.1]at hc;cases hc
  ·intro z;have:=tbs c z;rcases hc with rfl | hc
   ·rw[this]at e;cases e
   ·rw[this]at hc;cases hc
  ·intro z;rw[<- hst]at z;have:=I1.stkFree c z;rcases hc with rfl | hc
   ·rw[this]at e;cases e
   ·rw[this]at hc;cases hc
 exact I1.call' (s':={ s1 with heap:=h' }) rfl un hok I1.bare λb hb=>by
  have fb:xU X Ac H1 b:=by
   rcases Ah.mp hb with z | z
   ·rw[z];exact fx
   ·rcases Ah.mp z with z | z
    ·rw[z];exact fT'
    ·cases tb with
     | ref b' =>
      have:b=b':=by simpa [tbL] using z
      rw[this];exact fT b' rfl
     | _=>simp [tbL]at z
  obtain⟨_,a1,_,a3,a4,a5⟩:=fb;exact#[a3,a1,a4,a5]
end
section
variable{X:Cx}{scope:rL}{own caps:List re}{ix:()}{cl:List (re × pX)}
theorem Qj{N:List re}{EX:XK}{Ac:List (pX × rF)}{σ:St}{H3:Hp}{s3:pZ}{fp:List pX}{xe:pY->pZ->Prop}{e:pY}{s1:pZ}{RE:pY->pZ->Prop}(hst:X.stack=X.env::X.outer/\X.env.frame=tY X.env.locals)(hxe:XE X EX)
  (hc1:∀y c,cl.lookup y=tY c->X.env.cells.lookup y=tY c) (I3:Inv X Ac σ H3 s3) (f3:∀b ∈ fp,xU X Ac H3 b) (fl:zda (yq X scope cl s3⁻¹ N Ac s3 H3 fp xe) EX e s1)
  (hRE:∀m s' x,s'.heap.Ns s3⁻¹ m->(∀h',Heap.SameBut s3⁻¹ s'.heap h'->∀cenv:sN,cenv.locals=s3⁻¹->rd (model X.prog X.w) X.A (fH "comprehension.variables-let-go" x cenv:tO pY) (λ_ _=>False) X.xe { s' with heap:=h' })->RE x s') :
  notedBy (model X.prog X.w) X.A (compEnvC scope cl s3⁻¹ X.env) RE e s1:=by
 obtain⟨pins',σ',H1,x,C,t,dx,tb,rfl,I1,ob,tr,fx,fT,q⟩:=fl
 have IX:Inv X Ac σ H1 s1:=I3.call' (s':=s1) I1.os I1.base I1.hok I1.bare λb hb=>by
  obtain⟨_,a1,a2,a3,a4,a5⟩:=f3 b hb;exact#[a3,a1,a4,a5]
 have up:∀b,xU (yq X scope cl s3⁻¹ N Ac s3 H3 fp xe) pins' H1 b->xU X Ac H1 b:=λb hb=>by
  obtain⟨a0,a1,a2,a3,a4,a5⟩:=hb;rcases a3 with a3 | a3
  ·exact#[a0,(f3 b a3).2]
  ·exact I3.fpOk a3 a0
 have fx':=up x fx;have fT':∀T,tb=.ref T->xU X Ac H1 T:=λT h=>up T (fT T h);have fr:X.A.frames=tY (X.env::X.outer):=by rw[<- hst.1];exact IX.ok.frames
 have ff:s1.heap.FunFrames X.base (X.env::X.outer):=by rw[<- hst.1];exact IX.stack
 obtain⟨m,hm,_⟩:=I1.loc;have fC:xU X Ac H1 s3⁻¹:=I3.fpOk (al _) I1.free;refine zcN fr ff hst.2 hst.2 ob tr λh' T oT ts e1 nT oldT e2 d2 z2 k1 k2=>?_
 have fT2:xU X Ac H1 T:=by
  rcases oldT with z | z
  ·exact fT' T z
  ·exact IX.fpOk z (IX.hok.fresh z)
 have I2:Inv X Ac σ H1 { s1 with heap:=h' }:=Inv.noted IX hst.1 fx' fT' fT2 k1 k2;have hCx:s3⁻¹≠x:=λz=>fx.2.1 z.symm;have hCtb:tb≠.ref s3⁻¹:=λz=>(fT _ z).2.1 rfl;obtain⟨oC,es,ep,hoC,rC⟩:=hm
 have hCT:T≠s3⁻¹:=by
  rcases oldT with z | z
  ·exact (fT T z).2.1
  ·exact cB (av (aq hoC) z)
 have hCf:s3⁻¹ ∉ frs (X.env::X.outer):=λz=>by
  rw[<- hst.1]at z;rcases Ah.mp (IX.stkSub _ z)with y | y
  ·exact fC.2.1 y
  ·exact fC.2.2.1 y
 refine hRE m _ _ #[oC,es,ep,k1 _ _ hCx hCtb hCf hoC,rC] λh2 sb cenv hcenv=>?_;have I3':Inv X Ac σ H1 { s1 with heap:=h2 }:=I2.turned (t':=s1.toks) (λb o hb e=>(sb.2 b hb).trans e) fC.1 fC.2.1 fC.2.2.2.1 fC.2.2.2.2.1 fC.2.2.2.2.2;have ob2:h2.get? x=tY (xob C dx t (.ref T)):=(sb.2 x (Ne.symm hCx)).trans e1;have oT2:h2.get? T=tY oT:=(sb.2 T hCT).trans e2;unfold fH;refine pQ (rT (s:={ s1 with heap:=h2 }) ob2 rfl (x:=.ref T) rfl ?_);rw[if_neg (show ¬ (Value.ref T == Value.none)=Aa from by simp)];unfold setFlight;refine pQ (pQ (rT (s:={ s1 with heap:=h2 }) ob2 rfl (x:=.ref T) rfl ?_));rw[if_pos (show (Value.ref T != Value.none)=Aa from by simp)];refine rR (s:={ s1 with heap:=h2 }) oT2 d2 z2 (wpAny_throw (hxe _ _ ?_));have d3:=Obj.data_mapFields d2 (·.setIfInBounds 3 (cenv.frame.elim Value.none λf=>rawInt f))
 have I4:Inv X Ac σ H1 { s1 with heap:=h2.update T (Obj.mapFields (·.setIfInBounds 3 (cenv.frame.elim Value.none λf=>rawInt f))) } :=
  I3'.turned (t':=s1.toks) (λb o hb e=>(aE _ _ (Ne.symm hb)).trans e) fT2.1 fT2.2.1 fT2.2.2.2.1 fT2.2.2.2.2.1 fT2.2.2.2.2.2
 exact#[Ac,σ,H1,x,C,t,dx,.ref T,rfl,I4,(aE _ _ nT).trans ob2,.inr #[T,_,_,rfl,nT,cr _ oT2 (Obj.isFreed_of_fields d3),d3,by simpa using z2],fx',λT' z=>by cases z;exact fT2,q]
end
section
variable{X:Cx}{scope:rL}{own caps:List re}{ix:()}{elt tg iter:rh}{ifs:List rh}{pos:rP}{wi:TI}{g:TG}{tt:TT}{te:TE}
end
open PySem.AutoSeq1 (wpAny_loadPart')
open MeetsSeq MeetsSeq2 MeetsSeq3 SeqRoads2 SeqAt
def qe(op:sr)(A:rg)(s:pZ)(y x:pY)(b:Bool):Prop :=
 ∀(prog:rb) (w:rf) (E:pY->pZ->Prop) (Q:pY->pZ->Prop),Q (.bool b) s->rd (model prog w) A (richCompare op y x) Q E s
noncomputable abbrev LtAt:=qe .Lt
noncomputable def zcF:sr->Nat->Nat->Bool
 | .Gt,m,n=>decide (n<m)
 | _,m,n=>decide (m<n)
noncomputable def ze2:sr->Int
 | .Gt=>4
 | _=>0
def LG(op:sr):Prop:=op=.Lt\/op=.Gt
def vA(op:sr)(e t r:Nat->Bool)(m n:Nat):Prop:=∀i,i<=m->i<=n->r i=if i<m/\i<n then (if e i=Aa then r (i+1)else t i)else zcF op m n
noncomputable abbrev zeJ:=vA .Lt
variable{op:sr}
theorem Vt(ho:LG op)(l b:pX)(items Ad:Array pY)(n n2:Nat)(dd dd2:Option pX)(sl sl2:Array (Option pY))(e t r:Nat->Bool)(hr:vA op e t r items.size Ad.size)(k:Nat) :
  ∀i:Nat,i<=items.size->i<=Ad.size->items.size - i=k->Meets (Builtin.«list.__eq__.loop» #[[.ref l,.ref b,rawInt i,rawInt (ze2 op)],[]])
   (λA R s=>s.heap.get? l=tY { cls:=.type "list",dict:=dd,data:=.seq items n,slots:=sl }/\s.heap.get? b=tY { cls:=.type "list",dict:=dd2,data:=.seq Ad n2,slots:=sl2 } /\
    (∀j (h1:j<items.size) (h2:j<Ad.size),EqAt A.in1 s items[j] Ad[j] (e j))/\(∀j (h1:j<items.size) (h2:j<Ad.size),e j=Ab->qe op A.in1 s items[j] Ad[j] (t j)) /\
    R (.ok (.ret (.bool (r i)))) s):=by
 rcases ho with rfl | rfl <;> erw[ze2] <;> erw[vA,zcF]at hr
 all_goals
  induction k with
  | zero =>
   intro i b1 b2 hk prog w A R s h;obtain⟨hp,g,d,tk,os⟩:=s;obtain⟨hl,hb,he,ht,h⟩:=h;have hri:=hr i b1 b2;rw[if_neg ⋯]at hri;rw[hri]at h
   wp_walk using wpAny_loadPart' hl,wpAny_loadPart' hb
   have hi1:items[((i:Nat):Int).toNat]? = tZ:=by simp;lia
   rw[hi1]
   wp_walk using wpAny_loadPart' hl,wpAny_loadPart' hb
   exact h
  | succ k ih =>
   intro i b1 b2 hk prog w A R s h;obtain⟨hp,g,d,tk,os⟩:=s;obtain⟨hl,hb,he,ht,h⟩:=h;have hlt:i<items.size:=⋯;have hi1:items[((i:Nat):Int).toNat]? = tY items[i]:=by simp [hlt]
   have hc:((i:Int)+1)=((i+1:Nat):Int):=by push_cast;rfl
   have hri:=hr i b1 b2;by_cases hlt2:i<Ad.size
   ·rw[if_pos #[hlt,hlt2]]at hri;rw[hri]at h;have hi2:Ad[((i:Nat):Int).toNat]? = tY Ad[i]:=by simp [hlt2]
    wp_walk using wpAny_loadPart' hl,wpAny_loadPart' hb
    rw[hi1,hi2];refine pQ (he i hlt hlt2 prog w _ _ ?_)
    cases hb':e i with
    | true =>
     rw[hb',if_pos rfl]at h
     wp_walk
     rw[hc]
     exact#[plainId_quiet plain_eq_loop _,sf entry_eq_loop (by
      rw[Around.under_plainId plain_eq_loop _]
      exact ih (i+1) ⋯ ⋯ ⋯ prog w A R _ #[hl,hb,he,ht,h])]
    | false =>
     rw[hb',if_neg az]at h
     wp_walk using wpAny_loadPart' hl,wpAny_loadPart' hb
     rw[hi1,hi2];refine pQ (ht i hlt hlt2 hb' prog w _ _ ?_)
     wp_walk
     exact h
   ·rw[if_neg ⋯]at hri;rw[hri]at h;have hi2:Ad[((i:Nat):Int).toNat]? = tZ:=by simp;lia
    wp_walk using wpAny_loadPart' hl,wpAny_loadPart' hb
    rw[hi1,hi2]
    wp_walk using wpAny_loadPart' hl,wpAny_loadPart' hb
    exact h
theorem ZZ(ho:LG op)(l b:pX)(items Ad:Array pY)(n n2:Nat)(dd dd2:Option pX)(sl sl2:Array (Option pY))(e t r:Nat->Bool)(hr:vA op e t r items.size Ad.size) :
  Meets ((match op with | .Gt=>Builtin.«list.__gt__» | _=>Builtin.«list.__lt__») ⟨[.ref l,.ref b],[]⟩)
   (λA R s=>s.heap.get? l=tY { cls:=.type "list",dict:=dd,data:=.seq items n,slots:=sl }/\s.heap.get? b=tY { cls:=.type "list",dict:=dd2,data:=.seq Ad n2,slots:=sl2 } /\
    (∀j (h1:j<items.size) (h2:j<Ad.size),EqAt A.in1 s items[j] Ad[j] (e j))/\(∀j (h1:j<items.size) (h2:j<Ad.size),e j=Ab->qe op A.in1 s items[j] Ad[j] (t j)) /\
    R (.ok (.ret (.bool (r 0)))) s):=by
 rcases id ho with rfl | rfl
 all_goals
  intro prog w A R s h;obtain⟨hp,g,d,tk,os⟩:=s;obtain⟨hl,hb,he,ht,h⟩:=h;have f3:=AutoSeq1.sub_list_list
  wp_walk using wpAny_loadPart' hl,wpAny_loadPart' hb
  exact#[plainId_quiet plain_eq_loop _,sf entry_eq_loop (by
   rw[Around.under_plainId plain_eq_loop _]
   exact Vt ho l b items Ad n n2 dd dd2 sl sl2 e t r hr _ 0 (aD _) (aD _) rfl prog w A R _ #[hl,hb,he,ht,h])]
theorem jQ(ho:LG op)(l b:pX)(items Ad:Array pY)(n n2:Nat)(dd dd2:Option pX)(sl sl2:Array (Option pY))(e t r:Nat->Bool)(hr:vA op e t r items.size Ad.size) :
  Meets ((match op with | .Gt=>Builtin.«tuple.__gt__» | _=>Builtin.«tuple.__lt__») ⟨[.ref l,.ref b],[]⟩)
   (λA R s=>s.heap.get? l=tY { cls:=.type "tuple",dict:=dd,data:=.seq items n,slots:=sl }/\s.heap.get? b=tY { cls:=.type "tuple",dict:=dd2,data:=.seq Ad n2,slots:=sl2 } /\
    (∀j (h1:j<items.size) (h2:j<Ad.size),EqAt A.in1 s items[j] Ad[j] (e j))/\(∀j (h1:j<items.size) (h2:j<Ad.size),e j=Ab->qe op A.in1 s items[j] Ad[j] (t j)) /\
    R (.ok (.ret (.bool (r 0)))) s):=by
 rcases ho with rfl | rfl <;> erw[vA,zcF]at hr
 all_goals
  refine .of_wp λprog w A R s h=>?_;obtain⟨hp,g,d,tk,os⟩:=s;obtain⟨hl,hb,he,ht,h⟩:=h;have f2:=AutoSeq1.sub_tuple_tuple;have hZ:(items.toList.zip Ad.toList).length=min items.size Ad.size:=by simp
  wp_walk using wpAny_loadPart' hl,wpAny_loadPart' hb,wpAny_forIn_list _ (λrest b s'=>b.1=tZ/\s'=#[hp,g,d,tk,os]/\∃i,i<=min items.size Ad.size/\rest=(items.toList.zip Ad.toList).drop i /\
   R (.ok (.ret (.bool (r i)))) #[hp,g,d,tk,os]) _
  case turn =>
   rintro⟨y,x⟩ rest b s' ⟨hb',rfl,i,hi,hz,hR⟩
   have hlt:i<(items.toList.zip Ad.toList).length:=by
    rcases dC i (items.toList.zip Ad.toList).length with h' | h'
    ·exact h'
    ·rw[bc h']at hz;cases hz
   have hm:i<min items.size Ad.size:=hZ ▸ hlt;have h1:i<items.size:=av hm (Nat.min_le_left _ _);have h2:i<Ad.size:=av hm (eh _ _);rw[aS hlt]at hz;injection hz with hyx hrest;have hy:y=items[i]:=by have:=congrArg Prod.fst hyx;simpa using this
   have hx:x=Ad[i]:=by have:=congrArg Prod.snd hyx;simpa using this
   subst hy hx;have hri:=hr i ⋯ ⋯;rw[if_pos #[h1,h2]]at hri;rw[hri]at hR;refine pQ (he i h1 h2 prog w _ _ ?_)
   cases hy:e i with
   | true =>
    rw[hy,if_pos rfl]at hR
    wp_walk
    exact#[rfl,rfl,i+1,⋯,hrest,hR]
   | false =>
    rw[hy,if_neg az]at hR
    erw[fg,if_true]
    refine pQ (tR ?_);refine pQ (ht i h1 h2 hy prog w _ _ ?_)
    wp_walk
    exact#[_,rfl,hR]
  case fin =>
   rintro⟨b1,b2⟩ s' ⟨hb',rfl,i,hi,hz,hR⟩;simp only at hb';subst hb'
   have hge:min items.size Ad.size<=i:=by
    rcases dC i (items.toList.zip Ad.toList).length with h' | h'
    ·rw[aS h']at hz;cases hz
    ·exact hZ ▸ h'
   have hri:=hr i ⋯ ⋯;rw[if_neg ⋯]at hri;rw[hri]at hR
   wp_walk
   exact#[_,rfl,hR]
  case h =>
   exact#[rfl,rfl,0,aD _,rfl,h]
theorem LtAt.lists(ho:LG op){A:rg}{s:pZ}{l b:pX}{items Ad:Array pY}{e t r:Nat->Bool}(hl:s.heap.IsList l items)(hb:s.heap.IsList b Ad)(hr:vA op e t r items.size Ad.size)(hu:A.units<cLine)
  (he:∀j (h1:j<items.size) (h2:j<Ad.size),EqAt A.in1 s items[j] Ad[j] (e j)) (ht:∀j (h1:j<items.size) (h2:j<Ad.size),e j=Ab->qe op A.in1 s items[j] Ad[j] (t j)):qe op A s (.ref l) (.ref b) (r 0):=λprog w E Q h=>by
 obtain⟨⟨cls,dd,data,sl⟩,h1,hc,n,hd⟩:=id hl;obtain⟨⟨cls2,dd2,data2,sl2⟩,h2,hc2,n2,hd2⟩:=id hb;simp only at hc hd hc2 hd2;subst hc hd hc2 hd2;have z:Value.bool (r 0)≠Value.notImplemented/\Q (.bool (r 0)) s:=#[(λx=>nomatch x),h];rcases id ho with rfl | rfl
 ·exact richCompare_meets_room #[_,h1,rfl] #[_,h2,rfl] F.slot_list_lt F.entry_list_lt (F.args_list_lt_2 _ _) (ZZ ho l b items Ad n n2 dd dd2 sl sl2 e t r hr) #[h1,h2,he,ht,z] hu
 ·exact richCompare_meets_room #[_,h1,rfl] #[_,h2,rfl] F.slot_list_gt F.entry_list_gt (F.args_list_gt_2 _ _) (ZZ ho l b items Ad n n2 dd dd2 sl sl2 e t r hr) #[h1,h2,he,ht,z] hu
theorem LtAt.tuples(ho:LG op){A:rg}{s:pZ}{l b:pX}{items Ad:Array pY}{e t r:Nat->Bool}(hl:s.heap.IsTuple l items)(hb:s.heap.IsTuple b Ad)(hr:vA op e t r items.size Ad.size)(hu:A.units<cLine)
  (he:∀j (h1:j<items.size) (h2:j<Ad.size),EqAt A.in1 s items[j] Ad[j] (e j)) (ht:∀j (h1:j<items.size) (h2:j<Ad.size),e j=Ab->qe op A.in1 s items[j] Ad[j] (t j)):qe op A s (.ref l) (.ref b) (r 0):=λprog w E Q h=>by
 obtain⟨⟨cls,dd,data,sl⟩,h1,hc,n,hd⟩:=id hl;obtain⟨⟨cls2,dd2,data2,sl2⟩,h2,hc2,n2,hd2⟩:=id hb;simp only at hc hd hc2 hd2;subst hc hd hc2 hd2;have z:Value.bool (r 0)≠Value.notImplemented/\Q (.bool (r 0)) s:=#[(λx=>nomatch x),h];rcases id ho with rfl | rfl
 ·exact richCompare_meets_room #[_,h1,rfl] #[_,h2,rfl] F.slot_tuple_lt F.entry_tuple_lt (F.args_tuple_lt_2 _ _) (jQ ho l b items Ad n n2 dd dd2 sl sl2 e t r hr) #[h1,h2,he,ht,z] hu
 ·exact richCompare_meets_room #[_,h1,rfl] #[_,h2,rfl] F.slot_tuple_gt F.entry_tuple_gt (F.args_tuple_gt_2 _ _) (jQ ho l b items Ad n n2 dd dd2 sl sl2 e t r hr) #[h1,h2,he,ht,z] hu
mutual
def okD:D->D->Prop
 | .int _,.int _=>True
 | .lst l,.lst m=>kO l m
 | .tup l,.tup m=>kO l m
 | _,_=>False
def kO:List D->List D->Prop
 | d::l,e::m=>okD d e/\kO l m
 | _,_=>True
end
mutual
noncomputable def ltD:D->D->Bool
 | .int a,.int b=>decide (a<b)
 | .lst l,.lst m=>vD l m
 | .tup l,.tup m=>vD l m
 | _,_=>Ab
noncomputable def vD:List D->List D->Bool
 | d::l,e::m=>if eqD d e=Aa then vD l m else ltD d e
 | [],_::_=>Aa
 | _,[]=>Ab
end
theorem QT(l m:List D):zeJ (λj=>eqD (l.getD j .non) (m.getD j .non)) (λj=>ltD (l.getD j .non) (m.getD j .non)) (λi=>vD (l.drop i) (m.drop i)) l.length m.length:=by
 intro i b1 b2
 erw[zcF]
 by_cases h:i<l.length/\i<m.length
 ·rw[if_pos h,aS h.1,aS h.2,vD];rw[aa,aa,ae h.1,ae h.2];rfl
 ·rw[if_neg h];by_cases h1:i<l.length
  ·have h2:¬ i<m.length:=λz=>h #[h1,z];rw[aS h1,bc (cN h2),vD]
   ·simp;lia
   all_goals simp
  ·rw[bc (cN h1)];by_cases h2:i<m.length
   ·rw[aS h2,vD];simp;lia
   ·rw[bc (cN h2),vD]
    ·simp;lia
    all_goals simp
mutual
theorem Ww:∀d e:D,eqD d e=eqD e d
 | .lst l,e=>by cases e <;> erw[eqD];exact qL l _
 | .tup l,e=>by cases e <;> erw[eqD];exact qL l _
 | .int _,e=>by cases e <;> erw[eqD] <;> exact fu
 | .str _,e=>by cases e <;> erw[eqD] <;> exact fu
 | .bl _,e=>by cases e <;> erw[eqD] <;> exact fu
 | .non,e=>by cases e <;> erw[eqD]
theorem qL:∀l m:List D,uf l m=uf m l
 | [],[]=>rfl
 | [],_::_=>by erw[uf]
 | _::_,[]=>by erw[uf]
 | d::l,e::m=>by erw[uf,Ww d e,qL l m]
end
noncomputable def cm:sr->D->D->Bool
 | .Gt,d,e=>ltD e d
 | _,d,e=>ltD d e
noncomputable def cms:sr->List D->List D->Bool
 | .Gt,d,e=>vD e d
 | _,d,e=>vD d e
theorem VL{op:sr}(ho:LG op)(l m:List D):vA op (λj=>eqD (l.getD j .non) (m.getD j .non)) (λj=>cm op (l.getD j .non) (m.getD j .non)) (λi=>cms op (l.drop i) (m.drop i)) l.length m.length:=by
 rcases ho with rfl | rfl
 ·exact QT l m
 ·intro i b1 b2;have h:=QT m l i b2 b1
  erw[zcF,cm,cms]at h ⊢
  rw[h,Ww (m.getD i .non)];by_cases q:i<l.length/\i<m.length
  ·rw[if_pos q,if_pos q.symm]
  ·rw[if_neg q,if_neg λz=>q z.symm]
theorem zcv:∀{l m:List D} {j:Nat} {d e:D},kO l m->l[j]? = tY d->m[j]? = tY e->okD d e
 | d::l,e::m,0,_,_,h,q1,q2=>by
  cases q1;cases q2
  erw[kO]at h
  exact h.1
 | d::l,e::m,j+1,_,_,h,q1,q2=>by
  erw[kO]at h
  exact zcv (j:=j) h.2 q1 q2
section
variable{X:Cx}{Ac:List (pX × rF)}{σ:St}{H:Hp}{s:pZ}
theorem XR{op:sr}{l m:List D}{xs ys:List V}{its its':List pY}{A:rg}{n:Nat}(hl:Iss X.K H l xs)(hm:Iss X.K H m ys)(r:Vals xs its)(r':Vals ys its')(hn:uK l<n)(ok:kO l m)
  (ih:∀(d e:D) (x y:V) (u v:pY),dpD d<n->okD d e->Is X.K H d x->Is X.K H e y->RelV x u->RelV y v->qe op A s u v (cm op d e)) :
  ∀j (h1:j<its.toArray.size) (h2:j<its'.toArray.size),qe op A s its.toArray[j] its'.toArray[j] (cm op (l.getD j .non) (m.getD j .non)):=by
 intro j h1 h2;rw[aj]at h1 h2;have e1:=hl.len;have e2:=hm.len;have e3:=r.length;have e4:=r'.length;have g1:l[j]? = tY l[j]:=ae ⋯;have g2:m[j]? = tY m[j]:=ae ⋯;generalize l[j]=d at g1;generalize m[j]=e at g2;obtain⟨x,hx,ix⟩:=hl.at g1;obtain⟨y,hy,iy⟩:=hm.at g2;obtain⟨u,hu,ru⟩:=xC r hx;obtain⟨v,hv,rv⟩:=xC r' hy
 have q1:its.toArray[j]=u:=by
  have:=(Af.mp hu).2;simpa using this
 have q2:its'.toArray[j]=v:=by
  have:=(Af.mp hv).2;simpa using this
 rw[q1,q2,aa,aa,g1,g2];exact ih d e x y u v (cJ (zaZ g1) hn) (zcv ok g1 g2) ix iy ru rv
theorem zba{op:sr}(ho:LG op)(I:Inv X Ac σ H s):∀(n:Nat) (A:rg) (d e:D) (x y:V) (u v:pY),A.units+n<cLine->dpD d<n->okD d e->Is X.K H d x->Is X.K H e y->RelV x u->RelV y v->qe op A s u v (cm op d e):=by
 intro n
 induction n with
 | zero=>intro A d e x y u v _ h;exact absurd h (bV _)
 | succ n ih =>
  intro A d e x y u v hu hd ok hx hy rx ry;have hu1:A.units<cLine:=⋯;have huA:A.in1.units+n<cLine:=by show A.units+1+n<cLine;lia
  cases d with
  | int a =>
   cases e with
   | int b =>
    erw[Is]at hx hy
    subst hx hy;obtain⟨t,rfl⟩:=rx;obtain⟨t',rfl⟩:=ry;rcases ho with rfl | rfl
    ·exact λprog w E Q h=>lt_int h
    ·exact λprog w E Q h=>gt_int h
   | _=>erw[okD]at ok
  | lst l =>
   cases e with
   | lst m =>
    erw[Is]at hx hy
    obtain⟨a,xs,rfl,h1,h2⟩:=hx;obtain⟨b,ys,rfl,g1,g2⟩:=hy;cases rx;cases ry;obtain⟨its,r,p,_⟩:=I.list h1;obtain⟨its',r',p',_⟩:=I.list g1
    erw[dpD]at hd
    erw[okD]at ok
    have L1:=h2.len;have L2:=g2.len;have L3:=r.length;have L4:=r'.length;have st:=VL ho l m;rw[show l.length=its.toArray.size by erw[aj];lia,show m.length=its'.toArray.size by erw[aj];lia]at st
    have r0:=LtAt.lists ho (A:=A) p.isList p'.isList st hu1 (wP h2 g2 r r' (n:=n) ⋯ λd e x y u v q1 q2 q3 q4 q5=>Yl I n A.in1 d e x y u v huA q1 q2 q3 q4 q5)
     (λj h1 h2 _=>XR (n:=n) (A:=A.in1) ‹_› g2 r r' ⋯ ok (λd e x y u v q1 q2 q3 q4 q5 q6=>ih A.in1 d e x y u v huA q1 q2 q3 q4 q5 q6) j h1 h2)
    rcases id ho with rfl | rfl <;> exact r0
   | _=>erw[okD]at ok
  | tup l =>
   cases e with
   | tup m =>
    erw[Is]at hx hy
    obtain⟨a,xs,rfl,h1,h2⟩:=hx;obtain⟨b,ys,rfl,g1,g2⟩:=hy;cases rx;cases ry;obtain⟨its,r,p,_⟩:=I.tuple h1;obtain⟨its',r',p',_⟩:=I.tuple g1
    erw[dpD]at hd
    erw[okD]at ok
    have L1:=h2.len;have L2:=g2.len;have L3:=r.length;have L4:=r'.length;have st:=VL ho l m;rw[show l.length=its.toArray.size by erw[aj];lia,show m.length=its'.toArray.size by erw[aj];lia]at st
    have r0:=LtAt.tuples ho (A:=A) p p' st hu1 (wP h2 g2 r r' (n:=n) ⋯ λd e x y u v q1 q2 q3 q4 q5=>Yl I n A.in1 d e x y u v huA q1 q2 q3 q4 q5)
     (λj h1 h2 _=>XR (n:=n) (A:=A.in1) ‹_› g2 r r' ⋯ ok (λd e x y u v q1 q2 q3 q4 q5 q6=>ih A.in1 d e x y u v huA q1 q2 q3 q4 q5 q6) j h1 h2)
    rcases id ho with rfl | rfl <;> exact r0
   | _=>erw[okD]at ok
  | non=>cases e <;> erw[okD]at ok
  | bl _=>cases e <;> erw[okD]at ok
  | str _=>cases e <;> erw[okD]at ok
theorem Ky(I:Inv X Ac σ H s):∀(n:Nat) (A:rg) (d e:D) (x y:V) (u v:pY),A.units+n<cLine->dpD d<n->okD d e->Is X.K H d x->Is X.K H e y->RelV x u->RelV y v->LtAt A s u v (ltD d e):=zba (.inl rfl) I
def ze4(K:pW):R2:=λx y H Q=>∃d e,Is K H d x/\Is K H e y/\dpD d<50/\okD d e/\Q (.bl (ltD d e)) H
theorem zdz(hu:X.A.units+100<cLine):OpR X (rp .Lt) (ze4 X.K):=by
 intro Ac s σ H x y v u Q I rx ry h;obtain⟨d,e,hx,hy,hd,ok,q⟩:=h;exact Ky I 50 X.A d e x y v u ⋯ hd ok hx hy rx ry X.prog X.w X.xe _ #[.bl _,H,I,rfl,q]
end
theorem zbp{K:pW}{x y:V}{H:Hp}{Q:VK}{d e:D}(h1:Is K H d x)(h2:Is K H e y)(h3:dpD d<50)(h4:okD d e)(q:Q (.bl (ltD d e)) H):ze4 K x y H Q:=#[d,e,h1,h2,h3,h4,q]
noncomputable def ltI:List Int->List Int->Bool
 | a::l,b::m=>if a=b then ltI l m else decide (a<b)
 | [],_::_=>Aa
 | _,[]=>Ab
theorem qi:∀(l m:List Int),kO (l.map D.int) (m.map D.int)
 | [],_=>by erw[aM,kO]
 | _::_,[]=>by erw[aM,ao,kO]
 | a::l,b::m=>by erw[ao,kO,okD,true_and];exact qi l m
theorem ZK:∀(l m:List Int),vD (l.map D.int) (m.map D.int)=ltI l m
 | [],[]=>by erw[aM,vD,ltI]
 | [],_::_=>by erw[aM,ao,vD,ltI]
 | _::_,[]=>by erw[aM,ao,vD,ltI]
 | a::l,b::m=>by
  erw[ao,vD,ltI,eqD,ltD,ZK l m,beq_iff_eq]
mutual
def xB:D->Prop
 | .lst _=>False
 | .tup l=>zZ l
 | _=>True
def zZ:List D->Prop
 | []=>True
 | d::l=>xB d/\zZ l
end
theorem kq{K:pW}{H:Hp}{a p:pX}{xs ys zs:List V}(hp:H p=tY (.lst ys))(h:SqT K H a xs):SqT K (upd H p (.lst zs)) a xs:=by
 rcases h with (h | ⟨o,h⟩) | h
 ·refine .inl (.inl ?_);rw[zp (λe=>by rw[e,hp]at h;cases h)];exact h
 ·refine .inl (.inr #[o,?_]);rw[zp (λe=>by rw[e,hp]at h;cases h)];exact h
 ·exact .inr h
mutual
theorem Is.updL{K:pW}{H:Hp}{p:pX}{ys zs:List V}(hp:H p=tY (.lst ys)):∀(d:D) (v:V),xB d->Is K H d v->Is K (upd H p (.lst zs)) d v
 | .non,v,_,h=>by erw[Is]at h ⊢;exact h
 | .bl b,v,_,h=>by erw[Is]at h ⊢;exact h
 | .int b,v,_,h=>by erw[Is]at h ⊢;exact h
 | .str b,v,_,h=>by erw[Is]at h ⊢;exact h
 | .lst l,v,f,h=>by erw[xB]at f
 | .tup l,v,f,h=>by
  erw[Is]at h ⊢
  erw[xB]at f
  obtain⟨a,xs,e1,e2,e3⟩:=h;exact#[a,xs,e1,kq hp e2,Iss.updL hp l xs f e3]
theorem Iss.updL{K:pW}{H:Hp}{p:pX}{ys zs:List V}(hp:H p=tY (.lst ys)):∀(l:List D) (vs:List V),zZ l->Iss K H l vs->Iss K (upd H p (.lst zs)) l vs
 | [],vs,_,h=>by erw[Iss]at h ⊢;exact h
 | d::l,vs,f,h=>by
  erw[Iss]at h ⊢
  erw[zZ]at f
  obtain⟨v,r,e1,e2,e3⟩:=h;exact#[v,r,e1,Is.updL hp d v f.1 e2,Iss.updL hp l r f.2 e3]
end
theorem wn:∀{l:List D},(∀d ∈ l,xB d)->zZ l
 | [],_=>by erw[zZ]
 | d::l,h=>by erw[zZ];exact#[h d (by simp),wn λe he=>h e (by simp [he])]
theorem Qo{n:Nat}:∀{l:List D},(∀d ∈ l,dpD d<=n)->uK l<=n
 | [],_=>by erw[uK];lia
 | d::l,h=>by
  have h1:=h d (by simp);have h2:=Qo (n:=n) (l:=l) λe he=>h e (by simp [he])
  erw[uK]
  lia
def LsA(K:pW)(H:Hp)(a:pX)(ds:List D):Prop:=∃xs,H a=tY (.lst xs)/\Iss K H ds xs
theorem LsA.same{K:pW}{H H':Hp}{a:pX}{ds:List D}(h:LsA K H a ds)(e:Same H H'):LsA K H' a ds:=let #[xs,h1,h2]:=h; #[xs,e _ _ h1,Iss.same e _ _ h2]
theorem LsA.is{K:pW}{H:Hp}{a:pX}{ds:List D}(h:LsA K H a ds):Is K H (.lst ds) (.ref a):=by
 obtain⟨xs,h1,h2⟩:=h
 erw[Is]
 exact#[a,xs,rfl,SqL.of h1,h2]
theorem LsA.nil{K:pW}{H:Hp}{a:pX}:LsA K (upd H a (.lst [])) a []:=#[[],zf,by erw[Iss]]
theorem LsA.snoc{K:pW}{H:Hp}{a:pX}{ds:List D}{d:D}{xs:List V}{v:V}(h1:H a=tY (.lst xs))(h2:Iss K H ds xs)(f:zZ ds)(fd:xB d)(hv:Is K H d v):LsA K (upd H a (.lst (xs ++ [v]))) a (ds ++ [d]) :=
 #[_,zf,Iss.append (Iss.updL h1 _ _ f h2) (by erw[Iss];exact#[v,[],rfl,Is.updL h1 _ _ fd hv,rfl])]
theorem Is.tup{K:pW}{H:Hp}{p:pX}{vs:List V}{ds:List D}(hp:H p=tZ)(h:Iss K H ds vs):Is K (upd H p (.tup vs)) (.tup ds) (.ref p):=by
 erw[Is]
 exact#[p,vs,rfl,SqT.of zf,Iss.same (ze hp) _ _ h]
noncomputable abbrev dS(l:()):D:=.str (tx l)
noncomputable abbrev zq:=() × ()
noncomputable def dR(r:zq):D:=.tup [dS r.1,dS r.2]
theorem zb4{K:pW}{H:Hp}{r:zq}{v:V}(h:Is K H (dR r) v):∃p,v=.ref p/\SqT K H p [.str (tx r.1),.str (tx r.2)]:=by
 erw[dR,Is,Iss]at h
 obtain⟨a,xs,e,hs,v1,r1,rfl,rfl,v2,r2,rfl,rfl,rfl⟩:=h;exact#[a,e,hs]
theorem QQ{K:pW}{H:Hp}{p:pX}{l m:()}(h:SqT K H p [.str (tx l),.str (tx m)]):Is K H (dR (l,m)) (.ref p):=by
 erw[dR,Is,Iss]
 exact#[p,_,rfl,h,_,_,rfl,rfl,_,_,rfl,rfl,rfl]
theorem qu(r:zq):xB (dR r):=by erw[dR,xB,zZ,and_self]
theorem zeh(r:zq):dpD (dR r)<=1:=by erw[dR,dpD,uK];lia
theorem xf(rs:List zq):zZ (rs.map dR):=wn λd h=>by obtain⟨r,_,rfl⟩:=Ag.mp h;exact qu r
theorem zc6(rs:List zq):uK (rs.map dR)<=1:=Qo λd h=>by obtain⟨r,_,rfl⟩:=Ag.mp h;exact zeh r
noncomputable abbrev N3:=Nat × Nat × Nat
noncomputable def d3(t:N3):D:=.tup [.int (t.1:Nat),.int (t.2.1:Nat),.int (t.2.2:Nat)]
theorem zez{K:pW}{H:Hp}{t:N3}{v:V}(h:Is K H (d3 t) v):∃p,v=.ref p/\SqT K H p [.int (t.1:Nat),.int (t.2.1:Nat),.int (t.2.2:Nat)]:=by
 erw[d3,Is,Iss]at h
 obtain⟨a,xs,e,hs,v1,r1,rfl,rfl,v2,r2,rfl,rfl,v3,r3,rfl,rfl,rfl⟩:=h;exact#[a,e,hs]
theorem zcI{K:pW}{H:Hp}{i j k:Nat}:Iss K H [.int (i:Nat),.int (j:Nat),.int (k:Nat)] [.int (i:Nat),.int (j:Nat),.int (k:Nat)]:=by
 erw[Iss,Is]
 exact#[_,_,rfl,rfl,_,_,rfl,rfl,_,_,rfl,rfl,rfl]
theorem zbr(t:N3):xB (d3 t):=by erw[d3,xB,zZ,and_self]
theorem XO(rs:List N3):zZ (rs.map d3):=wn λd h=>by obtain⟨r,_,rfl⟩:=Ag.mp h;exact zbr r
theorem Iss.get{K:pW}{H:Hp}{l:List D}{vs:List V}{j:Nat}{v:V}(h:Iss K H l vs)(q:vs[j]? = tY v):∃d,l[j]? = tY d/\Is K H d v:=by
 have hj:=(Af.mp q).1;have hl:=h.len;have g1:l[j]? = tY l[j]:=ae ⋯;obtain⟨x,hx,ix⟩:=h.at g1;rw[q]at hx;cases hx;exact#[_,g1,ix]
theorem Iss.getR{K:pW}{H:Hp}{rs:List zq}{vs:List V}{j:Nat}{v:V}(h:Iss K H (rs.map dR) vs)(q:vs[j]? = tY v):∃r p,rs[j]? = tY r/\v=.ref p/\SqT K H p [.str (tx r.1),.str (tx r.2)]:=by
 obtain⟨d,e,i⟩:=h.get q;rw[ar]at e;obtain⟨r,hr,rfl⟩:=Ak.mp e;obtain⟨p,e1,e2⟩:=zb4 i;exact#[r,p,hr,e1,e2]
theorem Iss.get3{K:pW}{H:Hp}{rs:List N3}{vs:List V}{j:Nat}{v:V}(h:Iss K H (rs.map d3) vs)(q:vs[j]? = tY v):∃r p,rs[j]? = tY r/\v=.ref p/\SqT K H p [.int (r.1:Nat),.int (r.2.1:Nat),.int (r.2.2:Nat)]:=by
 obtain⟨d,e,i⟩:=h.get q;rw[ar]at e;obtain⟨r,hr,rfl⟩:=Ak.mp e;obtain⟨p,e1,e2⟩:=zez i;exact#[r,p,hr,e1,e2]
theorem K7{α:Type}(l:List α){a b:Int}(h0:0<=a)(h1:a<=b):cut l (tY a) (tY b)=(l.drop a.toNat).take (b - a).toNat:=by
 by_cases h2:b<=l.length
 ·exact Y6 l h0 h1 h2
 ·obtain⟨m,rfl⟩:=bA h0;obtain⟨n,rfl⟩:=bA (by lia:0<=b);unfold cut;rw[HT.sIx_nat,HT.sIx_nat,dq (by lia:l.length<=n)];have e:(((n:Nat):Int) - ((m:Nat):Int)).toNat=n - m:=⋯;have e2:((m:Nat):Int).toNat=m:=rfl;rw[e,e2,ba (l:=l.drop m) (by rw[bg];lia)];by_cases hm:m<=l.length
  ·rw[cZ hm,ba (by rw[bg];lia)]
  ·rw[dq ⋯,bc (al _),bc ⋯,List.take_nil]
theorem Qb(ns:List Int){a b:Int}(h0:0<=a)(h1:a<=b):K6 (ns.map V.int) (tY a) (tY b)=((ns.drop a.toNat).take (b - a).toNat).map V.int:=by
 have e:K6 (ns.map V.int) (tY a) (tY b)=cut (ns.map V.int) (tY a) (tY b):=rfl;rw[e,K7 _ h0 h1,List.map_take,List.map_drop]
open Classical in
section
variable{X:Cx}{Ac:List (pX × rF)}{σ:L2.St}{H:Hp}{s:pZ}
open Classical in
end
structure DM(P:rb)(w:rf)(K:pW)(mg:re->Option pY)(base:rj)(CX:CXT)(k:Nat)(C:pX)(m:re)(ps:List re)(sp:Sp):Prop where
 ex:∃f fd,zcm K C m f/\zR P w K mg base CX k f fd ps sp/\Binds K fd ps []
structure DMk(P:rb)(w:rf)(K:pW)(mg:re->Option pY)(base:rj)(CX:CXT)(k:Nat)(C:pX)(ps:List re)(sp:Sp):Prop where
 ex:∃f fd,Mk K C f/\zR P w K mg base CX k f fd ps sp/\Binds K fd ps []
section
variable{X:Cx}{k j:Nat}{C:pX}{m:re}{ps:List re}{sp:Sp}{o e:rh}{es:List rh}{ta:TE}{t:TA}{apos pos p:rP}{x:re}{E:XK}
theorem me0(D:DM X.prog X.w X.K X.mg X.base CX0 k C m ps sp)(c:Cls X.K C)(hr:Room j X.A)(he:PE X o ta){pl:tO Bool}(ht:eval (.Call (.Attribute o m apos) [] [] pos) X.env=(do
      let ov <- eval o X.env
      standAt apos.atName
      let (f,first) <- holding [ov] (getMethod ov m pl)
      callWith pos f first (rA pos (pT [] X.env)) (rJ pos (rq [] X.env))):=by rfl) (hj:k<=j:=by decide):PE X (.Call (.Attribute o m apos) [] [] pos) (kN C m sp [] E0 ta xM):=by
  obtain⟨f,fd,hm,F,hb⟩:=D.ex;exact JM he c hm F (hr.mono hj) hb .nil W8 ht
theorem me1(D:DM X.prog X.w X.K X.mg X.base CX0 k C m ps sp)(c:Cls X.K C)(hr:Room j X.A)(he:PE X o ta)(ha:PA X (e::es) t){pl:tO Bool}
    (hst:pT (e::es) X.env=(Ab,eval e X.env)::pT es X.env:=by rfl) (hpl:(rA pos (pT es X.env)).any (·.1)=Ab:=by rfl)
    (ht:eval (.Call (.Attribute o m apos) (e::es) [] pos) X.env=(do
      let ov <- eval o X.env
      standAt apos.atName
      let (f,first) <- holding [ov] (getMethod ov m pl)
      callWith pos f first (rA pos (pT (e::es) X.env)) (rJ pos (rq [] X.env))):=by rfl) (hj:k<=j:=by decide):PE X (.Call (.Attribute o m apos) (e::es) [] pos) (kN C m sp [] E0 ta t):=by
  obtain⟨f,fd,hm,F,hb⟩:=D.ex;exact zaB he c hm F (hr.mono hj) hb .nil W8 ha hst hpl ht
theorem mkC(D:DMk X.prog X.w X.K X.mg X.base CX0 k C ps sp)(hr:Room j X.A)(hg:Gl X x)(hm:X.mg x=tY (.ref C))(ha:PA X (e::es) t)(hdb:(x ==("__debug__" : re))=Ab:=by decide)(he:pT (e::es) X.env=(Ab,eval e X.env)::pT es X.env:=by rfl)
  (hpl:(rA pos (pT es X.env)).any (·.1)=Ab:=by rfl) (hj:k+1<=j:=by decide):PE X (.Call (.Name x p) (e::es) [] pos) (UP C sp [] E0 t):=by
 obtain⟨f,fd,M,F,hb⟩:=D.ex;exact Ui M F (hr.mono hj) hg hm hb .nil W8 ha hdb he hpl
end
section
variable{X:Cx}
end
section
variable{X:Cx}{k j:Nat}{C:pX}{m:re}{ps:List re}{sp:Sp}{o e:rh}{es:List rh}{ta:TE}{t:TA}{apos pos p:rP}
end
def zv(Fam:pX->Prop)(m:re)(sp:pX->Sp)(dvs:List V)(E:XK)(ta:TE)(t:TA):TE:=λσ H Q=>ta σ H λx H1=>∃C a dx fs,Fam C/\x=.ref a/\H1 a=tY (.ins C dx fs)/\fs.lookup m=tZ /\
 t σ H1 λvs H2=>sp C (x::(vs ++ dvs)) H2 Q E
structure DMF(P:rb)(w:rf)(K:pW)(mg:re->Option pY)(base:rj)(CX:CXT)(k:Nat)(Fam:pX->Prop)(m:re)(ps:List re)(sp:pX->Sp):Prop where
 ex:∀C,Fam C->Cls K C/\DM P w K mg base CX k C m ps (sp C)
section
variable{X:Cx}{k j:Nat}{Fam:pX->Prop}{m:re}{ps:List re}{sp:pX->Sp}{o e:rh}{es:List rh}{ta:TE}{t:TA}{apos pos p:rP}{x:re}{E:XK}
theorem zfB(D:DMF X.prog X.w X.K X.mg X.base CX0 k Fam m ps sp)(hr:Room j X.A)(he:PE X o ta){pl:tO Bool}(ht:eval (.Call (.Attribute o m apos) [] [] pos) X.env=(do
      let ov <- eval o X.env
      standAt apos.atName
      let (f,first) <- holding [ov] (getMethod ov m pl)
      callWith pos f first (rA pos (pT [] X.env)) (rJ pos (rq [] X.env))):=by rfl) (hj:k<=j:=by decide):PE X (.Call (.Attribute o m apos) [] [] pos) (zv Fam m sp [] E0 ta xM):=by
  intro Ac s σ H Q I h;refine cq (pl:=pl) (thn (he Ac s σ H _ I h) λu s1 ⟨x,H1,I1,rx,C,a,dx,fs,fam,ex,ea,l,q⟩=>?_) ht;subst ex;obtain rfl:u=Value.ref a:=rx;obtain⟨c,⟨f,fd,hm,F,hb⟩⟩:=D.ex C fam;refine xJ I1 ea c hm l ?_;exact fz (first:=[.ref a]) I1.kIn hm.kp (Yo (us:=[.ref a]) (vs:=[.ref a]) F (hr.mono hj) hb .nil W8 I1 (.cons rfl .nil) q)
theorem zbW(D:DMF X.prog X.w X.K X.mg X.base CX0 k Fam m ps sp)(hr:Room j X.A)(he:PE X o ta)(ha:PA X (e::es) t){pl:tO Bool}
    (hst:pT (e::es) X.env=(Ab,eval e X.env)::pT es X.env:=by rfl) (hpl:(rA pos (pT es X.env)).any (·.1)=Ab:=by rfl)
    (ht:eval (.Call (.Attribute o m apos) (e::es) [] pos) X.env=(do
      let ov <- eval o X.env
      standAt apos.atName
      let (f,first) <- holding [ov] (getMethod ov m pl)
      callWith pos f first (rA pos (pT (e::es) X.env)) (rJ pos (rq [] X.env))):=by rfl) (hj:k<=j:=by decide):PE X (.Call (.Attribute o m apos) (e::es) [] pos) (zv Fam m sp [] E0 ta t):=by
  intro Ac s σ H Q I h;refine cq (pl:=pl) (thn (he Ac s σ H _ I h) λu s1 ⟨x,H1,I1,rx,C,a,dx,fs,fam,ex,ea,l,q⟩=>?_) ht;subst ex;obtain rfl:u=Value.ref a:=rx;obtain⟨c,⟨f,fd,hm,F,hb⟩⟩:=D.ex C fam;refine xJ I1 ea c hm l ?_;refine bO (first:=[.ref a]) (h₀:=X.base) I.ok.mod.kin hm.kp (thn (ha pos Ac s1 σ H1 _ I1 q) λus s2 ⟨vs,H2,I2,r,q2⟩=>#[I2.kIn,?_]) hst hpl;exact Yo (us:=.ref a::us) (vs:=.ref a::vs) F (hr.mono hj) hb .nil W8 I2 (.cons rfl r) q2
end
section
variable{X:Cx}
def yi(K:pW):List V->Hp->VK->Prop:=λxs H Q=>∃(p:pX) (ns:List Int),xs=[.ref p]/\SqL K H p (ns.map V.int)/\Q (.int ns.sum) H
end
theorem W5(l:()):((Builtin.Str.strSliceIndices tZ tZ (-1) (tx l).length).filterMap ((tx l).cps[·]?))=l.reverse:=by
 rw[zX,picked_rev];have e:(tx l).cps=l.toArray:=rfl;rw[e];apply List.ext_getElem?;intro i
 have h:((aH l.length).map λk=>l.length - 1 - k).filterMap (l.toArray[·]?)=(aH l.length).map λk=>l.getD (l.length - 1 - k) 0:=by
  rw[filterMap_get,cp]
  ·refine bt λk _=>?_;show l.toArray.getD (l.length - 1 - k) 0=_;simp [fo,List.getD];split <;> simp_all
  ·intro i hi;obtain⟨k,hk,rfl⟩:=Ag.mp hi;have:=Al.mp hk;show _<l.toArray.size;rw[aj];lia
 rw[h];by_cases hi:i<l.length
 ·rw[bu hi,ar,dN hi];show tY (l.getD (l.length - 1 - i) 0)=_;rw[aa,ae ⋯];rfl
 ·rw[bQ (by simp;lia),bQ (by simp;lia)]
def yg(te ts:TE):TE:=λσ H Q=>te σ H λx H1=>ts σ H1 λy H2=>y=.int (-1)/\∃l:(),x=.str (tx l)/\l.length<=pV/\Q (.str (tx l.reverse)) H2
section
variable{X:Cx}{e st:rh}{te ts:TE}{pos p2:rP}
theorem za5(he:PE X e te)(hs:PE X st ts):PE X (.Subscript e (.Slice tZ tZ (tY st) p2) pos) (yg te ts):=by
 intro Ac s σ H Q I h;refine tT (thn (he Ac s σ H _ I h) λv s1 ⟨x,H1,I1,r1,q1⟩=>?_);refine wpAny_Slice ?_;rw[evalPart_none];refine pR (pR ?_);rw[evalPart_some];refine thn (hs Ac s1 σ H1 _ I1 q1) λu s2 ⟨y,H2,I2,r2,ey,l,ex,hl,q2⟩=>?_;subst ey ex;obtain⟨t,rfl⟩:=r1;obtain⟨tk,rfl⟩:=r2;have I4:Inv X Ac σ H2 { s2 with heap:=s2.heap.push { cls:=.type "slice",data:=.fields (List.toArray [.none,.none,.int (-1) tk]) } }:=I2.kept (t':=s2.toks) λb ob q=>ah _ q;show rd (model X.prog X.w) X.A (tB e (.Slice tZ tZ (tY st) p2) (.str (tx l) t) (.ref s2⁻¹)) (EP X Ac σ Q) X.xe { s2 with heap:=s2.heap.push { cls:=.type "slice",data:=.fields (List.toArray [.none,.none,.int (-1) tk]) } };refine tail_any (ops:=[.ref s2⁻¹,.str (tx l) t]) (typeIs_str _ (tx l) t) slot_str_getitem.lookup ?_ (by with_unfolding_all rfl);refine sH (l:=tZ) (u:=tZ) (st:=tY (-1,tk)) (Heap.IsSliceOf.new ..) rfl ?_;unfold sliceMade slicePicked
 have hc':¬ (((tY ((-1:Int),tk)).map (·.1)).getD 1 == 1 && (Builtin.Str.strSliceIndices ((tZ:Option (Int × tu)).map (·.1)) ((tZ:Option (Int × tu)).map (·.1)) (((tY ((-1:Int),tk)).map (·.1)).getD 1) (tx l).length).length ==(tx l).length)=Aa:=by
  have:(((tY ((-1:Int),tk)).map (·.1)).getD 1 == 1)=Ab:=rfl;rw[this];simp
 rw[if_neg hc']
 have e:Str.mk ((Builtin.Str.strSliceIndices tZ tZ (-1) (tx l).length).filterMap ((tx l).cps[·]?)).toArray=tx l.reverse:=by
  rw[W5]
 show (Str.mk ((Builtin.Str.strSliceIndices tZ tZ (-1) (tx l).length).filterMap ((tx l).cps[·]?)).toArray).length<=pV/\_;rw[e];refine#[by rw[zX,cE];exact hl,?_]
 exact#[.str (tx l.reverse),H2,I4.tok _,#[_,by
  show Value.str (Str.mk ((Builtin.Str.strSliceIndices tZ tZ (-1) (tx l).length).filterMap ((tx l).cps[·]?)).toArray) _=_
  rw[e]],q2]
end
section
variable{X:Cx}{k j:Nat}{C:pX}{m x:re}{ps:List re}{sp:Sp}{e:rh}{es:List rh}{t:TA}{apos pos p:rP}
def zw:V->List V->Hp->VK->Prop:=λx xs H Q=>∃(z y:re) (i:Nat),x=.str z/\xs=[.str y]/\PySem.Txt.find z y=(i:Int)/\Q (.int (i:Nat)) H
theorem VI:MtR X "str.index" zw:=by
 intro Ac s σ H x xs v us Q I rx rv h;obtain⟨z,y,i,rfl,rfl,hf,q⟩:=h;obtain⟨t,rfl⟩:=rx;obtain⟨u,rfl,t',rfl⟩:=wg rv;unfold PySem.Txt.find at hf
 cases ho:Builtin.Str.occurrences z y 0 z.length 1 with
 | nil=>rw[ho]at hf;dsimp only at hf;lia
 | cons a r =>
  rw[ho]at hf;have:a=i:=by dsimp only at hf;lia
  subst this;exact PySem.SC.index ho #[.int _,H,I.tok _,#[_,rfl],q]
end
section
variable{prog:rb}{w:rf}{A:rg}{E:pY->pZ->Prop}{s:pZ}
end
noncomputable def Izs(K:pW)(l:())(b:pX):It:=#[λi H=>∃ys y,SqT K H b ys/\i<l.length/\ys[i]? = tY y,λi H v H'=>∃p c y,H p=tZ/\l[i]? = tY c/\(∀ys,SqT K H b ys->ys[i]? = tY y)/\v=.ref p/\H'=upd H p (.tup [.str (tx [c]),y]),λi H=>i=l.length]
section
variable{X:Cx}
def iZs(K:pW)(ta:TA):TI:=λσ H R=>ta σ H λvs H1=>∃l b,vs=[.str (tx l),.ref b]/\(∃ys,SqT K H1 b ys)/\R (Izs K l b) H1
end
def zeb(K:pW)(l:())(b:pX)(g:TG)(tt:TT)(te:TE)(own:Nat)(ix:())(σ:L2.St)(H1:Hp)(Q:VK)(D:pX):Prop:=YR (Izs K l b) g tt te own ix σ H1 Q D
theorem zI{K:pW}{ta:TA}{g:TG}{tt:TT}{te:TE}{own:Nat}{ix:()}{σ:L2.St}{H:Hp}{Q:VK}:jp (iZs K ta) g tt te own ix σ H Q=ta σ H λvs H1=>∃l b,vs=[.str (tx l),.ref b]/\(∃ys,SqT K H1 b ys)/\∀D,H1 D=tZ->zeb K l b g tt te own ix σ H1 Q D:=rfl
section
variable{g:TG}{tt:TT}{te:TE}{own:Nat}{ix:()}{σ:L2.St}{H1:Hp}{Q:VK}{D:pX}
end
section
variable{X:Cx}{k1 k2 k3 j:Nat}{C1 C2 C3:pX}{m:re}{ps:List re}{s1 s2 s3:Sp}{o e:rh}{es:List rh}{ta:TE}{t:TA}{apos pos p:rP}{E:XK}
def yf(t1 t2:TE):TE:=λσ H Q=>t1 σ H Q\/t2 σ H Q
theorem KM{t1 t2:TE}(h1:PE X e t1)(h2:PE X e t2):PE X e (yf t1 t2):=by
 intro Ac s σ H Q I h;rcases h with h | h
 ·exact h1 Ac s σ H Q I h
 ·exact h2 Ac s σ H Q I h
theorem zci(D1:DM X.prog X.w X.K X.mg X.base CX0 k1 C1 m ps s1)(D2:DM X.prog X.w X.K X.mg X.base CX0 k2 C2 m ps s2)(D3:DM X.prog X.w X.K X.mg X.base CX0 k3 C3 m ps s3)(c1:Cls X.K C1)(c2:Cls X.K C2)(c3:Cls X.K C3)(hr:Room j X.A)(he:PE X o ta)(ha:PA X (e::es) t){pl:tO Bool}
    (hst:pT (e::es) X.env=(Ab,eval e X.env)::pT es X.env:=by rfl) (hpl:(rA pos (pT es X.env)).any (·.1)=Ab:=by rfl)
    (ht:eval (.Call (.Attribute o m apos) (e::es) [] pos) X.env=(do
      let ov <- eval o X.env
      standAt apos.atName
      let (f,first) <- holding [ov] (getMethod ov m pl)
      callWith pos f first (rA pos (pT (e::es) X.env)) (rJ pos (rq [] X.env))):=by rfl) (h1:k1<=j:=by decide) (h2:k2<=j:=by decide) (h3:k3<=j:=by decide) :
    PE X (.Call (.Attribute o m apos) (e::es) [] pos) (yf (kN C1 m s1 [] E0 ta t) (yf (kN C2 m s2 [] E0 ta t) (kN C3 m s3 [] E0 ta t))) :=
  KM (me1 (pl:=pl) D1 c1 hr he ha hst hpl ht h1) (KM (me1 (pl:=pl) D2 c2 hr he ha hst hpl ht h2) (me1 (pl:=pl) D3 c3 hr he ha hst hpl ht h3))
end
section
variable{X:Cx}
end
open PySem PySem.Spec PyProof.Rows L2 PySem.W PySem.Calls
def jm(n:Int):Prop:=Builtin.Int.intBits n<=1048576
theorem KD:∀(ns:List Int),WData.weightAll (ns.map WData.int)<=1048576->∀n ∈ ns,jm n
 | [],_,n,h=>nomatch h
 | m::ns,hw,n,h=>by
  rw[ao,WData.weightAll]at hw;rcases Ah.mp h with rfl | h
  ·have e:WData.weight (.int n)=Builtin.Int.intBits n:=by
    rw[WData.weight];rfl
   unfold jm;lia
  ·exact KD ns ⋯ n h
section
variable{X:Cx}
theorem Jl{i j:Int}(hi:jm i)(hj:jm j):IntMulOk i j:=by
 unfold IntMulOk Builtin.Int.intTooBig;unfold jm at hi hj;have:(bitsLine:Nat)=134217728:=rfl;simp;intro _ _;lia
theorem Kc:OpR X (binaryOp .Mult) (rI (λi j=>jm i/\jm j) λi j=>.int (i * j)):=opI λ_ _ _ _ _ _ _ hc q=>mul_int q (Jl hc.1 hc.2)
end
theorem ZF{l:OpenLaw}{n:Nat}{q:rb}{loose:List re}{XP:(re->Option pY)->rj->Prop}{YP:rf->rj->Prop}{d:DefRec}
  (hn:l.most=tY n) (hdf:d.params.defaults=[])
  (call:∀(w:rf) (s₀ s₁:pZ) (mg mb:re->Option pY) (fa:pX) (o:rF) (pm cd doc:pY) (a:pX) (vs:List pY) (ns:List Int),
   Ground q loose [] XP w s₀ mg mb s₁.heap->YP w s₁.heap ->
   s₁.heap.get? fa=tY o->o.data=.func (docDef d.name d.params d.body d.scope pm cd doc)->s₁.heap.CodeRec cd d.name->mg d.name=tY (.ref fa) ->
   s₁.heap.get? a=tY { cls:=.type "list",data:=.seq vs.toArray }->tQ vs ns->ns.length<=n->(∀z ∈ ns,jm z)->s₁.gens=#[] ->
   rY (model l.prog w) callerA (.call (.ref fa) #[[.ref a],[]]) (λr s'=>r=.ok (.ret (.bool Aa))/\OldK s₁.heap s'.heap/\s'.os=s₁.os/\sy s'.gens) s₁) :
  WalkO q loose XP YP l.row.toRowW d [] (λf vs=>fR f vs):=by
 intro w s₀ s₁ mg mb G Y fa o pm cd doc dV kV ho hd hcd hD hmg hg args vals as hpre hlay hrd hwl hlo;obtain rfl:dV=.none:=Dflts.none hD hdf;obtain rfl:kV=.none:=Dflts.noKw hD;obtain⟨a,vs,ns,rfl,rfl,hobj,hints,hlen⟩:=Att.script_of hn hpre hwl
 have hb:∀z ∈ ns,jm z:=by
  refine KD ns ?_
  have h1:WData.layable (WData.list (ns.map WData.int))=Aa:=by
   have:=hlay;unfold WData.layableAll at this;simpa using this
  unfold WData.layable at h1
  erw[ci,decide_eq_true_eq]at h1
  have h2:=h1.2;rw[WData.weight]at h2;exact h2
 refine enter_call (rX (call w s₀ s₁ mg mb fa o pm cd doc a vs ns G Y ho (fd_plain hd) hcd hmg hobj hints hlen hb hg) λr s' hq=>?_);obtain⟨rfl,h2,h3,h4⟩:=hq;exact#[.inl #[.bool Aa,.bool Aa,[],rfl,λ_=>rfl,.bool Aa,Att.post_true l _,λ_=>#[List.Pairwise.nil,λ_ hm=>(nomatch hm)]],h2,h3,h4]
section
variable{X:Cx}{k j:Nat}{C:pX}{x f':re}{ps:List re}{sp:Sp}{e:rh}{es:List rh}{t:TA}{te:TX}{pos p:rP}
end
section
variable{X:Cx}{k j:Nat}{C:pX}{m x:re}{ps:List re}{sp:Sp}{e:rh}{es:List rh}{t:TA}{apos pos p:rP}{E:XK}
end
section
variable{prog:rb}{w:rf}{A:rg}{E:pY->pZ->Prop}{s:pZ}{env:sN}
end
theorem XEg.xe{X:Cx}{E:XK}(h:XEg X E):XE X E:=λe s ⟨Ac,σ,H,x,C,t,dx,tb,q⟩=>h e s #[.none,Ab,Ac,σ,H,x,C,t,dx,tb,q]
section
variable{X:Cx}{k:Nat}{ps:List re}{sp:Sp}{ds:List pY}{dvs:List V}{E:XK}{x:re}{p pos:rP}{e:rh}{es:List rh}{t:TA}
end
section
variable{X:Cx}{o e:rh}{to:TE}{te:TX}{name:re}{apos cpos:rP}{T id:String}{r:V->List V->Hp->VK->Prop}
end
section
variable{X:Cx}
end
section
variable{X:Cx}{k j:Nat}{C:pX}{ps:List re}{sp:Sp}{e:rh}{es:List rh}{t:TA}{pos p:rP}{x:re}
end
theorem Y3(x y:re)(i j:Int)(t u v v':tu):Gives (Builtin.«str.find» #[[.str x t,.str y u,.int i v,.int j v'],[]]) (.int (match Builtin.Str.occurrences x y (fromIndex x.length i) (min (fromIndex x.length j) x.length) 1 with | k::_=>(k:Int) | []=>-1)):=by
 show Gives (match Builtin.Str.occurrences x y (fromIndex x.length i) (min (fromIndex x.length j) x.length) 1 with | k::_=>retInt k | []=>(do rule "str.find.not-found";retInt (-1))) _
 cases Builtin.Str.occurrences x y (fromIndex x.length i) (min (fromIndex x.length j) x.length) 1 with
 | nil=>exact .rule (.of_eq rfl)
 | cons k _=>exact .of_eq rfl
theorem YH(x y:re)(lo hi:Nat) :
  (Builtin.Str.occurrences x y lo hi 1=[]/\∀i,lo<=i->¬ StrLaws.At x y hi i) \/
  ∃i r,Builtin.Str.occurrences x y lo hi 1=i::r/\lo<=i/\StrLaws.At x y hi i/\∀k,lo<=k->k<i->¬ StrLaws.At x y hi k:=by
 rw[StrLaws.occ_eq];rcases StrLaws.occ_first x y hi 1 (al 1) (List.range' lo (hi+1 - lo)) lo (λi hm=>(List.mem_range'_1.mp hm).1)with ⟨e,no⟩ | ⟨pre,a,post,e,e0,at_a,no⟩
 ·exact .inl #[by rw[e],λi h1 h2=>no i (by have:=h2.1;rw[List.mem_range'_1];lia) h2]
 ·have sp:=StrLaws.range'_split_from e;generalize (forIn (List.range' lo (hi+1 - lo)) ((#[]:Array Nat),lo) (StrLaws.occBody x y hi 1)).run.fst=z at e0 ⊢;obtain⟨zs⟩:=z
  cases zs with
  | nil=>simp at e0
  | cons b r =>
   have:b=a:=by simpa using e0
   subst this;exact .inr #[b,r,rfl,sp.1,at_a,λk h1 h2=>no k (sp.2 k h1 h2)]
theorem zdO(l p:())(hi i:Nat):StrLaws.At (tx l) (tx p) hi i ↔ i+p.length<=hi/\(l.drop i).take p.length=p:=by
 unfold StrLaws.At Builtin.Str.subAt;rw[zX,beq_iff_eq]
 have e1:((tx l).cps.extract i (i+p.length)).toList=(l.drop i).take p.length:=by
  show (l.toArray.extract i (i+p.length)).toList=_;simp [ef]
 have e2:((tx l).cps.extract i (i+p.length)=(tx p).cps) ↔ (l.drop i).take p.length=p:=by
  constructor
  ·intro h;rw[<- e1,h]
  ·intro h;apply Array.toList_inj.mp;rw[e1,h]
 rw[e2]
def KT:V->List V->Hp->VK->Prop:=λx xs H Q=>∃(l p:()) (lo hi:Int),x=.str (tx l)/\xs=[.str (tx p),.int lo,.int hi]/\0<=lo/\0<=hi/\∀r:Int,((r=-1/\∀q:Nat,lo<=q->(q:Int)+p.length<=hi->q+p.length<=l.length->(l.drop q).take p.length≠p)\/∃k:Nat,r=k/\lo<=k/\(k:Int)+p.length<=hi/\k+p.length<=l.length/\(l.drop k).take p.length=p/\∀q:Nat,lo<=q->q<k->(l.drop q).take p.length≠p)->Q (.int r) H
theorem zbt{X:Cx}:MtR X "str.find" KT:=by
 intro Ac s σ H x xs v us Q I rx rv h;obtain⟨l,p,lo,hi,rfl,rfl,h0,h1,q⟩:=h;obtain⟨t,rfl⟩:=rx
 cases rv with
 | cons r1 r2 =>
  cases r2 with
  | cons r2 r3 =>
   obtain⟨w3,rfl,t3,rfl⟩:=wg r3;obtain⟨t1,rfl⟩:=r1;obtain⟨t2,rfl⟩:=r2;have f0:fromIndex (tx l).length lo=lo.toNat:=by unfold fromIndex;rw[if_neg ⋯];lia
   have f1:fromIndex (tx l).length hi=hi.toNat:=by unfold fromIndex;rw[if_neg ⋯];lia
   refine call_gives F.slot_str_find (typeIs_str _ _ _) F.entry_str_find (F.args_str_find_4 _ _ _ _) (Y3 _ _ lo hi t t1 t2 t3) ?_;refine#[.int _,H,I.tok _,#[_,rfl],q _ ?_];rw[f0,f1];have hm:∀k:Nat,k+p.length<=min hi.toNat (tx l).length ↔ (k:Int)+p.length<=hi/\k+p.length<=l.length:=λk=>by rw[zX];lia
   rcases YH (tx l) (tx p) lo.toNat (min hi.toNat (tx l).length)with ⟨e,no⟩ | ⟨i,r,e,hl,ha,no⟩
   ·rw[e];exact .inl #[rfl,λk k1 k2 k3 k4=>no k ⋯ ((zdO l p _ k).mpr #[(hm k).mpr #[k2,k3],k4])]
   ·rw[e];obtain⟨a1,a2⟩:=(zdO l p _ i).mp ha;obtain⟨b1,b2⟩:=(hm i).mp a1;exact .inr #[i,rfl,⋯,b1,b2,a2,λk k1 k2 k4=>no k ⋯ k2 ((zdO l p _ k).mpr #[(hm k).mpr #[⋯,⋯],k4])]
end L3
set_option linter.unusedVariables false
namespace L3
section
variable{X:Cx}
end
section
variable{prog:rb}{w:rf}{A:rg}{R:sY->pZ->Prop}{I l S:pX}
theorem Uu(hh:A.handled=tZ)(hlI:l≠I)(hSI:S≠I)(hSl:S≠l)(xs:Array pY)(val:Nat->Int)(hv:∀i v,xs[i]? = tY v->∃t,v=Value.int (val i) t)(d:pY) :
  ∀(k j:Nat) (z:Int) (t:tu) (s:pZ) (c:Nat),xs.size - j=k->j<=xs.size->(∀i,i<j->val i<=z)->s.heap.IsListIter I l j->s.heap.IsList l xs->s.heap.get? S=tY (rz "list" (List.toArray [.int z t,.int z t]) c) ->
   (∀z' t' h' tk,(∀i,i<xs.size->val i<=z')->(∀b o,b≠I->b≠S->s.heap.get? b=tY o->h'.get? b=tY o)->R (.ok (.ret (.int z' t'))) { s with heap:=h',toks:=tk }) ->
   rY (model prog w) A (.builtin "max.loop" #[[.ref I,.none,.ref S],[(bW "default",d)]]) R s:=by
 have nm:(toString "max" ++ toString ".loop" : String)="max.loop":=∅;have W:=Walks.list (prog:=prog) (w:=w) (A:=A.in1) hh I l hlI xs;intro k
 induction k with
 | zero =>
  intro j z t s c hk hj hz hit hl hS hR;have e:j=xs.size:=⋯;refine sf (b:=Builtin.«max.loop») dk ?_;rw[Around.under_plainId (id:="max.loop") bD _];show rd _ A.in1 (seqItems? (Value.ref S) >>= _) _ _ s;refine pQ (sP (items:=(List.toArray [.int z t,.int z t])) hS rfl ?_);show rd _ A.in1 (tryCatch (pyNext (Value.ref I)) _ >>= _) _ _ s;refine pQ (sj (W.done s _ _ #[e ▸ hit,hl] λh' tk kp=>?_));have hS':=kp S _ (by simpa using hSI) hS;show rd _ A.in1 (updateSeq S (λ_=>(#[]:Array pY)) >>= _) _ _ _;refine pQ (sM hS' rfl (pQ (sC (pR ?_))));exact hR z t _ tk (λi hi=>hz i ⋯) λb o hb hb' q=>(aE _ _ (Ne.symm hb')).trans (kp b o (by simpa using hb) q)
 | succ k ih =>
  intro j z t s c hk hj hz hit hl hS hR;refine sf (b:=Builtin.«max.loop») dk ?_;rw[Around.under_plainId (id:="max.loop") bD _];show rd _ A.in1 (seqItems? (Value.ref S) >>= _) _ _ s;refine pQ (sP (items:=(List.toArray [.int z t,.int z t])) hS rfl ?_);show rd _ A.in1 (tryCatch (pyNext (Value.ref I)) _ >>= _) _ _ s;refine pQ (sj (W.item j s _ _ ⋯ #[hit,hl] λv h' tk hP st kp=>?_));obtain⟨t2,rfl⟩:=hv j v hP;have hS':=kp S _ (by simpa using hSI) hS;show rd _ A.in1 (tryCatch (holding [Value.int (val j) t2,Value.int (val j) t2] (richCompare .Gt (.int (val j) t2) (.int z t) >>= _)) _ >>= _) _ _ _;refine pQ (sj (rG (pQ (CmpOf.ints_gt (prog:=prog) (w:=w) (A:=A.in1) (P:=λi v=>∃t,v=Value.int (if i=0 then val j else z) t) (λi=>if i=0 then val j else z) (λi v h=>h) 0 1 _ _ _ _ _ #[t2,rfl] #[t,rfl] ?_))));refine pQ (rG (rB (pQ (sC (pR ?_)))));by_cases g:val j > z
  ·erw[if_true,Nat.one_ne_zero,if_false,g,decide_true]
   refine pQ (sM hS' rfl (pQ (sC ?_)));rw[nm];refine pR #[plainId_quiet bD _,ih (j+1) (val j) t2 _ _ ⋯ ⋯ (λi hi=>?_) (W.frame _ _ _ st λb hb o q=>?_).1 (W.frame _ _ _ st λb hb o q=>?_).2 (get?_update_seq hS' _) λz' t' h'' tk'' a1 a2=>hR z' t' h'' tk'' a1 λb o hb hb' q=>a2 b o hb hb' ((aE _ _ (Ne.symm hb')).trans (kp b o (by simpa using hb) q))]
   ·by_cases e:i=j
    ·rw[e];exact Int.le_refl _
    ·have:=hz i ⋯;lia
   all_goals
    refine (aE _ _ (λe:S=b=>?_)).trans q;subst e;rcases Ah.mp hb with e | e
    ·exact hSI e
    ·exact hSl (Aj.mp e)
  ·erw[if_true,Nat.one_ne_zero,if_false,g,decide_false,br]
   refine pQ (sC ?_);rw[nm];refine pR #[plainId_quiet bD _,ih (j+1) z t _ _ ⋯ ⋯ (λi hi=>?_) st.1 st.2 hS' λz' t' h'' tk'' a1 a2=>hR z' t' h'' tk'' a1 λb o hb hb' q=>a2 b o hb hb' (kp b o (by simpa using hb) q)];by_cases e:i=j
   ·rw[e];lia
   ·exact hz i ⋯
theorem UV(a v:pY):argsOk "max" #[[a],[(bW "default",v)]]:=by unfold argsOk;kernel_rfl
theorem Qq{E:pY->pZ->Prop}{s:pZ}{Q:pY->pZ->Prop}(hh:A.handled=tZ)(xs:Array pY)(val:Nat->Int)(hv:∀i v,xs[i]? = tY v->∃t,v=Value.int (val i) t)(hl:s.heap.IsList l xs)(d:pY)
  (h:∀v h' tk,(xs.size=0->v=d)->(0<xs.size->∃z t,v=Value.int z t/\∀i,i<xs.size->val i<=z)->(∀b o,s.heap.get? b=tY o->h'.get? b=tY o)->Q v { s with heap:=h',toks:=tk }) :
  rd (model prog w) A (call (.builtin "max") [.ref l] [(bW "default",d)]) Q E s:=by
 have nm:(toString "max" ++ toString ".loop" : String)="max.loop":=∅;have hlt:l<s⁻¹:=by obtain⟨_,e,_⟩:=hl;exact aq e
 refine kmb_tree PySem.F.kind_max PySem.F.plain_max PySem.F.entry_max (UV _ _) ?_;show rd _ A.in1 (Builtin.Builtins.bindParams "max" ["key","default"] 0 #[[],[(bW "default",d)]] >>= _) _ _ s;refine pQ (wpAny_of_eq (show Builtin.Builtins.bindParams "max" ["key","default"] 0 #[[],[(bW "default",d)]]=pure [tZ,tY d]from rfl) (pQ (pR ?_)));refine pQ (sk hl (pQ (tw ?_ (aD _))));rw[nm];refine pR #[plainId_quiet bD _,?_];have gI:(s.heap.push { cls:=.type "list_iterator",data:=.fields (List.toArray [.ref l,.int 0 0]) }).IsListIter s⁻¹ l 0:=#[_,aG _ rfl,rfl,rfl];have gl:=hl.push { cls:=.type "list_iterator",data:=.fields (List.toArray [.ref l,.int 0 0]) };have kp0:∀b o,s.heap.get? b=tY o->(s.heap.push { cls:=.type "list_iterator",data:=.fields (List.toArray [.ref l,.int 0 0]) }).get? b=tY o:=λb o q=>ah _ q;have hsz:(s.heap.push { cls:=.type "list_iterator",data:=.fields (List.toArray [.ref l,.int 0 0]) }).objs.size=s⁻¹+1:=dU _ _;have hold:∀b o,s.heap.get? b=tY o->b<s⁻¹:=λb o q=>aq q;have hlI:l≠s⁻¹:=ay hlt;generalize s.heap.push { cls:=.type "list_iterator",data:=.fields (List.toArray [.ref l,.int 0 0]) }=h1 at *;generalize hIe:s⁻¹=I at *;have W:=Walks.list (prog:=prog) (w:=w) (A:=A.in1) hh I l hlI xs;have gS:(h1.push { cls:=.type "list",data:=.seq ([]:List pY).toArray }).get? h1.objs.size=tY (rz "list" #[] 0):=aG _ rfl;have st0:=W.frame 0 _ (h1.push { cls:=.type "list",data:=.seq ([]:List pY).toArray }) #[gI,gl] λb _ o q=>ah _ q;have kp1:∀b o,s.heap.get? b=tY o->(h1.push { cls:=.type "list",data:=.seq ([]:List pY).toArray }).get? b=tY o:=λb o q=>ah _ (kp0 b o q);have hSI:h1.objs.size≠I:=by rw[hsz];exact eD I
 have hSl:h1.objs.size≠l:=by rw[hsz];exact cB (cL hlt)
 have hSb:∀b o,s.heap.get? b=tY o->b≠I/\b≠h1.objs.size:=λb o q=>#[ay (hold b o q),by rw[hsz];exact ay (cL (hold b o q))];generalize h1.push { cls:=.type "list",data:=.seq ([]:List pY).toArray }=h2 at *;generalize h1.objs.size=S at *;refine sf (b:=Builtin.«max.loop») dk ?_;rw[Around.under_plainId (id:="max.loop") bD _];show rd _ A.in1 (seqItems? (Value.ref S) >>= _) _ _ _;refine pQ (sP (items:=#[]) gS rfl ?_);show rd _ A.in1 (tryCatch (pyNext (Value.ref I)) _ >>= _) _ _ _;by_cases hz:xs.size=0
 ·refine pQ (sj (W.done _ _ _ (by rw[hz];exact st0) λh' tk kp=>?_));show rd _ A.in1 (rule _ >>= λ_=>_) _ _ _;refine pQ (tR (pR ?_));exact h d h' tk (λ_=>rfl) (λq=>absurd q ⋯) λb o q=>kp b o (by simpa using (hSb b o q).1) (kp1 b o q)
 ·refine pQ (sj (W.item 0 _ _ _ ⋯ st0 λv h' tk hP st kp=>?_));obtain⟨t,rfl⟩:=hv 0 v hP;have hS':=kp S _ (by simpa using hSI) gS;show rd _ A.in1 (updateSeq S (λ_=>(List.toArray [Value.int (val 0) t,Value.int (val 0) t])) >>= _) _ _ _;refine pQ (sM hS' rfl ?_);rw[nm]
  have st':=W.frame _ _ (h'.update S (Obj.mapSeq λ_=>(List.toArray [Value.int (val 0) t,Value.int (val 0) t]))) st λb hb o q=>by
   refine (aE _ _ (λe:S=b=>?_)).trans q;subst e;rcases Ah.mp hb with e | e
   ·exact hSI e
   ·exact hSl (Aj.mp e)
  refine pR #[plainId_quiet bD _,Uu hh hlI hSI hSl xs val hv d _ 1 (val 0) t _ _ rfl ⋯ (λi hi=>?_) st'.1 st'.2 (get?_update_seq hS' _) λz' t' h'' tk'' a1 a2=>?_]
  ·have:i=0:=⋯;rw[this];exact Int.le_refl _
  ·exact h _ h'' tk'' (λq=>absurd q hz) (λ_=>#[z',t',rfl,a1]) λb o q=>a2 b o (hSb b o q).1 (hSb b o q).2 ((aE _ _ (Ne.symm (hSb b o q).2)).trans (kp b o (by simpa using (hSb b o q).1) (kp1 b o q)))
end
section
variable{X:Cx}{id:String}{x:re}{e:rh}{es:List rh}{kws:List tP}{ks:List re}{p pos:rP}{t tk:TA}
def Ks(X:Cx)(id:String)(ks:List re)(r:List V->List V->Hp->VK->Prop):Prop :=
 ∀(Ac:List (pX × rF)) (s:pZ) (σ:L2.St) (H:Hp) (vs zs:List V) (us ws:List pY) (Q:VK),Inv X Ac σ H s->Vals vs us->Vals zs ws->r vs zs H Q->rd (model X.prog X.w) X.A (call (.builtin id) us (ks.zip ws)) (EP X Ac σ Q) X.xe s
def zeZ(r:List V->List V->Hp->VK->Prop)(t tk:TA):TE:=λσ H Q=>t σ H λvs H1=>tk σ H1 λzs H2=>r vs zs H2 Q
theorem VV{r:List V->List V->Hp->VK->Prop}(hc:Ks X id ks r)(hg:Gl X x)(hm:X.mg x=tZ)(hv:rH x=tY (.builtin id))(ha:PA X (e::es) t)(hk:PK X kws tk)(hks:(rJ pos (rq kws X.env)).filterMap (·.1)=ks:=by rfl)(hn:x≠"__name__":=by decide)(hdb:(x ==("__debug__" : re))=Ab:=by decide)
  (he:rA pos (pT (e::es) X.env)=(Ab,eval e X.env)::rA pos (pT es X.env):=by rfl) (hpl:(rA pos (pT (e::es) X.env)).any (·.1)=Ab:=by rfl)
  (hall:(rJ pos (rq kws X.env)).all (·.1.isSome)=Aa:=by rfl) (hkw:(rJ pos (rq kws X.env)).any (·.1.isNone)=Ab:=by rfl):PE X (.Call (.Name x p) (e::es) kws pos) (zeZ r t tk):=by
 intro Ac s σ H Q I h;refine rD (wf I hg hm hv ?_ hn hdb);refine callWith_kw (thn (ha pos Ac s σ H _ I h) λus s1 ⟨vs,H1,I1,r1,q1⟩=>thn (hk pos Ac s1 σ H1 _ I1 q1) λws s2 ⟨zs,H2,I2,r2,q2⟩=>?_) he hpl hall hkw;rw[hks];exact hc Ac s2 σ H2 vs zs us ws Q I2 r1 r2 q2
def zep(K:pW):List V->List V->Hp->VK->Prop:=λvs zs H Q=>∃(a:pX) (ns:List Int) (d:Int),vs=[.ref a]/\zs=[.int d]/\SqL K H a (ns.map V.int)/\∀z:Int,(ns=[]->z=d)->(∀n ∈ ns,n<=z)->Q (.int z) H
theorem zc8(hc:X.calm=Aa):Ks X "max" [bW "default"] (zep X.K):=by
 intro Ac s σ H vs zs us ws Q I r1 r2 h;obtain⟨a,ns,d,rfl,rfl,hS,q⟩:=h;obtain⟨u,rfl,ru⟩:=wg r1;cases ru;obtain⟨w',rfl,td,rfl⟩:=wg r2;obtain⟨its,rv,pl,hz⟩:=I.list hS;have hlen:=rv.length;rw[ac]at hlen
 have hat:∀(i:Nat) (v:pY),its.toArray[i]? = tY v->∃t,v=Value.int (ns.getD i 0) t:=λi v hi=>by
  have hi':its[i]? = tY v:=by simpa using hi
  have hil:=(Af.mp hi').1;obtain⟨u,hu,t,rfl⟩:=xC rv (j:=i) (x:=.int (ns.getD i 0)) (by rw[ar,aa,ae ⋯];rfl);rw[hi']at hu;cases hu;exact#[t,rfl]
 refine Qq (I.ok.hd hc) its.toArray (λi=>ns.getD i 0) hat pl.isList (.int d td) λv h' tk h0 h1 kp=>?_;by_cases hn:ns=[]
 ·have:=h0 (by rw[aj,<- hlen,hn];rfl);subst this;exact#[.int d,H,I.kept kp,#[_,rfl],q d (λ_=>rfl) (λn hm=>by rw[hn]at hm;cases hm)]
 ·obtain⟨z,t,rfl,hzz⟩:=h1 (by rw[aj,<- hlen];exact Ar.mpr hn);refine#[.int z,H,I.kept kp,#[_,rfl],q z (λe=>absurd e hn) λn hm=>?_];obtain⟨i,hi,rfl⟩:=List.getElem_of_mem hm;have:=hzz i (by rw[aj,<- hlen];exact hi);rw[aa,ae hi]at this;exact this
end
section
variable{prog:rb}{w:rf}{A:rg}{R:sY->pZ->Prop}{I l S:pX}
end
section
variable{X:Cx}
end
section
variable{prog:rb}{w:rf}{A:rg}{R:sY->pZ->Prop}{I S:pX}{fp wr:List pX}{P:Nat->pY->Prop}{St:Nat->rj->Prop}
end
section
variable{X:Cx}
end
section
variable{X:Cx}{k j:Nat}{C:pX}{m:re}{ps:List re}{sp:Sp}{o e:rh}{es:List rh}{ta:TE}{t:TA}{apos pos p:rP}{x:re}{E:XK}
end
def zeD(y l:())(e:Nat):Prop:=e+y.length<=l.length/\(l.drop e).take y.length=y
noncomputable instance (y l:()) (e:Nat):Decidable (zeD y l e):=by unfold zeD;infer_instance
noncomputable def zfq(y l:()):Option (() × ()):=((aH (l.length+1)).find? λe=>decide (zeD y l e)).map λe=>(l.take e,l.drop (e+y.length))
section
variable{X:Cx}
theorem jK{cn:re}{np hpos:rP}{b0:rn}{suite:List rn}{hs:List tD}{D:pX}{th:TS}(hg:Gl X cn)(hm:X.mg cn=tY (.ref D))(hdb:(cn ==("__debug__" : re))=Ab)(xc:ZM X.K D=Aa)(hsu:∀e,PSs (Cx.suite X e) (b0::suite) th)
  {Ac:List (pX × rF)} {s:pZ} {σ:St} {H:Hp} {Dd:vf} {x C T:pX} {dx:Option pX} (I:Inv X Ac σ H s) (hob:∃t cx kx,s.heap.get? x=tY (xog C dx t (.ref T) cx kx)) (hoT:∃oT ts,s.heap.get? T=tY oT/\oT.data=.fields ts/\3<ts.size) (fT:xU X Ac H T)
  (hb:cS X.K (.ref C) (.ref D)=tY Aa) (q:th Dd σ H):rd (model X.prog X.w) X.A (handleBy (.ref x) X.env (.ExceptHandler (tY (.Name cn np)) tZ (b0::suite) hpos::hs)) (SP X Ac Dd) X.xe s:=by
 obtain⟨t,cx,kx,ob⟩:=hob;obtain⟨oT,ts,eT,dT,zT⟩:=hoT;have I':=Inv.suite I (.ref x);refine wpAny_handleBy_cons (codeAny_handlers_test (vz (X:=Cx.suite X (.ref x)) I' hg hm (zco I.kIn xc ob hb ?_) hdb)) (by intro q;cases q);refine codeAny_handlers_suite ?_;unfold setFlight;refine pQ (rT ob rfl (x:=.ref T) rfl ?_);rw[if_pos (show (Value.ref T != Value.none)=Aa from by simp)];refine rR eT dT zT ?_;obtain⟨f0,f1,f2,f3,f4,f5⟩:=fT
 have I2:Inv X Ac σ H { s with heap:=s.heap.update T (Obj.mapFields (·.setIfInBounds 3 ((tZ:Option pX).elim Value.none λf=>rawInt f))) } :=
  I.turned (t':=s.toks) (λb o hb e=>(aE _ _ (Ne.symm hb)).trans e) f0 f1 f3 f4 f5
 refine rO (thn (hsu _ Ac _ σ H _ (Inv.suite I2 (.ref x)) q) λfl s4 q4=>?_)
 cases fl with
 | next =>
  obtain⟨σ4,H4,I4,n4⟩:=q4;exact#[_,_,Inv.unsuite I I4,n4]
 | brk =>
  obtain⟨σ4,H4,I4,n4⟩:=q4;exact#[_,_,Inv.unsuite I I4,n4]
 | cont =>
  obtain⟨σ4,H4,I4,n4⟩:=q4;exact#[_,_,Inv.unsuite I I4,n4]
 | ret v =>
  obtain⟨y,σ4,H4,I4,r4,n4⟩:=q4;exact#[y,_,_,Inv.unsuite I I4,r4,n4]
def K3(K:pW)(i:Nat)(D:pX)(te:TX)(th:TS):TS:=λDd σ H=>te σ H (λv H1=>Dd.nx (σ.set i (tY v)) H1) λcls dx H1=>∃C,cls=.ref C/\cS K (.ref C) (.ref D)=tY Aa/\∀x,H1 x=tZ->th Dd σ (upd H1 x (XT x C dx))
theorem Jz{i:Nat}{y:re}{yp apos pos np hpos:rP}{e:rh}{te:TX}{cn:re}{b0:rn}{suite:List rn}{hs:List tD}{D:pX}{th:TS}
  (hN:X.N.Nodup) (hy:X.N[i]? = tY y) (hly:Loc X.env.scope y) (hf:X.fn y=Aa\/X.env.scope.names.lookup y=tY .local) (hst:X.stack=X.env::X.outer/\X.env.frame=tY X.env.locals) (he:PEX X e te) (hg:Gl X cn) (hm:X.mg cn=tY (.ref D)) (xc:ZM X.K D=Aa) (hsu:∀e,PSs (Cx.suite X e) (b0::suite) th) (hdb:(cn ==("__debug__" : re))=Ab:=by decide) (hsw:swapsWith e (tY (.Name y yp)) apos.line X.env=pure Ab:=by rfl) :
  PS X (.Try [.Assign [.Name y yp] e apos] (.ExceptHandler (tY (.Name cn np)) tZ (b0::suite) hpos::hs) [] [] pos) (K3 X.K i D te th):=by
 intro Ac s σ H D I hq;refine tM (rW (tI (rS (he Ac s σ H _ _ I hq) (λv s1 ⟨z,H1,I1,r1,q1⟩=>?_) λe s1 fl=>?_) hsw))
 ·exact k8 I1 hN hy hly r1 (λs2 I2=>rQ (rQ #[_,H1,I2,q1])) hf
 ·obtain⟨cx,kx,H1,x,C,t,dx,tb,rfl,I1,ob,tr,fx,fT,C',ec,hsb,q1⟩:=fl;cases ec;have fr:X.A.frames=tY (X.env::X.outer):=by rw[<- hst.1];exact I1.ok.frames
  have ff:s1.heap.FunFrames X.base (X.env::X.outer):=by rw[<- hst.1];exact I1.stack
  refine kJ fr ff hst.2 hst.2 ob tr λh' T oT ts e1 nT oldT e2 d2 z2 k1 k2=>?_
  have fT':xU X Ac H1 T:=by
   rcases oldT with z | z
   ·exact fT T z
   ·exact I1.fpOk z (I1.hok.fresh z)
  have tbs:∀b,tb=.ref b->H1 b=tZ:=λb hb=>(fT b hb).1
  have nch:∀b o,s1.heap.get? b=tY o->b ∉ (x::T::tbL tb)->b≠x/\tb≠.ref b:=λb o _ hb=>by
   refine#[λz=>hb (by simp [z]),λz=>hb ?_];rw[z];simp [tbL]
  have un:Un (frs X.stack) (x::T::tbL tb) H1 H1 s1.heap h':=by
   rw[hst.1];refine#[λb o e n hb hc=>?_,λb o e n hb hc=>?_,λb o e n _=>n,λb o e hc=>?_,λb xs e=>e,λb o u e=>e,λb ps e=>#[#[],by rw[e];simp]]
   ·obtain⟨a1,a2⟩:=nch b o e hc;exact k1 b o a1 a2 hb e
   ·obtain⟨a1,a2⟩:=nch b o e hc;exact k2 b o a1 a2 e
   ·obtain⟨a1,a2⟩:=nch b o e hc;obtain⟨sl,q⟩:=k2 b o a1 a2 e;exact#[_,q]
  have hok:HOk X.prog X.w H1 h':=λb u e=>by
   refine (I1.hok b u e).stay (λc v hc q=>k1 c v ?_ ?_ ?_ q) (λ_ q=>q) λ_ _ q=>q
   ·rintro rfl;rcases hc with rfl | hc
    ·rw[fx.1]at e;cases e
    ·rw[fx.1]at hc;cases hc
   ·intro z;have:=tbs c z;rcases hc with rfl | hc
    ·rw[this]at e;cases e
    ·rw[this]at hc;cases hc
   ·intro z;rw[<- hst.1]at z;have:=I1.stkFree c z;rcases hc with rfl | hc
    ·rw[this]at e;cases e
    ·rw[this]at hc;cases hc
  have I2:Inv X Ac σ H1 { s1 with heap:=h' }:=I1.call' (s':={ s1 with heap:=h' }) rfl un hok I1.bare λb hb=>by
   have fb:xU X Ac H1 b:=by
    rcases Ah.mp hb with z | z
    ·rw[z];exact fx
    ·rcases Ah.mp z with z | z
     ·rw[z];exact fT'
     ·cases tb with
      | ref b' =>
       have:b=b':=by simpa [tbL] using z
       rw[this];exact fT b' rfl
      | _=>simp [tbL]at z
   obtain⟨_,a1,_,a3,a4,a5⟩:=fb;exact#[a3,a1,a4,a5]
  have I3:Inv X Ac σ (upd H1 x (XT x C dx)) { s1 with heap:=h' }:=Inv.track I2 fx (zc1 e1);exact jK hg hm hdb xc hsu I3 #[t,_,_,e1] #[oT,ts,e2,d2,z2] #[by rw[zp nT];exact fT'.1,fT'.2] hsb (q1 x fx.1)
def Qh(K:pW)(D:pX)(te:TX)(th:TS):TS:=λDd σ H=>te σ H (λz H1=>Dd.rt z H1) λcls dx H1=>∃C,cls=.ref C/\cS K (.ref C) (.ref D)=tY Aa/\∀x,H1 x=tZ->th Dd σ (upd H1 x (XT x C dx))
theorem Wx{apos pos np hpos:rP}{e:rh}{te:TX}{cn:re}{b0:rn}{suite:List rn}{hs:List tD}{D:pX}{th:TS}
  (hst:X.stack=X.env::X.outer/\X.env.frame=tY X.env.locals) (he:PEX X e te) (hg:Gl X cn) (hm:X.mg cn=tY (.ref D)) (xc:ZM X.K D=Aa) (hsu:∀e,PSs (Cx.suite X e) (b0::suite) th) (hdb:(cn ==("__debug__" : re))=Ab:=by decide) :
  PS X (.Try [.Return (tY e) apos] (.ExceptHandler (tY (.Name cn np)) tZ (b0::suite) hpos::hs) [] [] pos) (Qh X.K D te th):=by
 intro Ac s σ H D I hq;refine tM (rW (tH (rS (he Ac s σ H _ _ I hq) (λv s1 ⟨z,H1,I1,r1,q1⟩=>?_) λe s1 fl=>?_)))
 ·exact#[z,σ,H1,I1,r1,q1]
 ·obtain⟨cx,kx,H1,x,C,t,dx,tb,rfl,I1,ob,tr,fx,fT,C',ec,hsb,q1⟩:=fl;cases ec;have fr:X.A.frames=tY (X.env::X.outer):=by rw[<- hst.1];exact I1.ok.frames
  have ff:s1.heap.FunFrames X.base (X.env::X.outer):=by rw[<- hst.1];exact I1.stack
  refine kJ fr ff hst.2 hst.2 ob tr λh' T oT ts e1 nT oldT e2 d2 z2 k1 k2=>?_
  have fT':xU X Ac H1 T:=by
   rcases oldT with z | z
   ·exact fT T z
   ·exact I1.fpOk z (I1.hok.fresh z)
  have tbs:∀b,tb=.ref b->H1 b=tZ:=λb hb=>(fT b hb).1
  have nch:∀b o,s1.heap.get? b=tY o->b ∉ (x::T::tbL tb)->b≠x/\tb≠.ref b:=λb o _ hb=>by
   refine#[λz=>hb (by simp [z]),λz=>hb ?_];rw[z];simp [tbL]
  have un:Un (frs X.stack) (x::T::tbL tb) H1 H1 s1.heap h':=by
   rw[hst.1];refine#[λb o e n hb hc=>?_,λb o e n hb hc=>?_,λb o e n _=>n,λb o e hc=>?_,λb xs e=>e,λb o u e=>e,λb ps e=>#[#[],by rw[e];simp]]
   ·obtain⟨a1,a2⟩:=nch b o e hc;exact k1 b o a1 a2 hb e
   ·obtain⟨a1,a2⟩:=nch b o e hc;exact k2 b o a1 a2 e
   ·obtain⟨a1,a2⟩:=nch b o e hc;obtain⟨sl,q⟩:=k2 b o a1 a2 e;exact#[_,q]
  have hok:HOk X.prog X.w H1 h':=λb u e=>by
   refine (I1.hok b u e).stay (λc v hc q=>k1 c v ?_ ?_ ?_ q) (λ_ q=>q) λ_ _ q=>q
   ·rintro rfl;rcases hc with rfl | hc
    ·rw[fx.1]at e;cases e
    ·rw[fx.1]at hc;cases hc
   ·intro z;have:=tbs c z;rcases hc with rfl | hc
    ·rw[this]at e;cases e
    ·rw[this]at hc;cases hc
   ·intro z;rw[<- hst.1]at z;have:=I1.stkFree c z;rcases hc with rfl | hc
    ·rw[this]at e;cases e
    ·rw[this]at hc;cases hc
  have I2:Inv X Ac σ H1 { s1 with heap:=h' }:=I1.call' (s':={ s1 with heap:=h' }) rfl un hok I1.bare λb hb=>by
   have fb:xU X Ac H1 b:=by
    rcases Ah.mp hb with z | z
    ·rw[z];exact fx
    ·rcases Ah.mp z with z | z
     ·rw[z];exact fT'
     ·cases tb with
      | ref b' =>
       have:b=b':=by simpa [tbL] using z
       rw[this];exact fT b' rfl
      | _=>simp [tbL]at z
   obtain⟨_,a1,_,a3,a4,a5⟩:=fb;exact#[a3,a1,a4,a5]
  have I3:Inv X Ac σ (upd H1 x (XT x C dx)) { s1 with heap:=h' }:=Inv.track I2 fx (zc1 e1);exact jK hg hm hdb xc hsu I3 #[t,_,_,e1] #[oT,ts,e2,d2,z2] #[by rw[zp nT];exact fT'.1,fT'.2] hsb (q1 x fx.1)
theorem QW(bs:List Bool):(aH bs.length).any (λi=>bs.getD i Ab)=bs.any id:=by
 induction bs with
 | nil=>rfl
 | cons b bs ih =>
  rw[aB,dj,List.any_cons,List.any_map,List.any_cons,<- ih];rfl
def zfr(K:pW):List V->Hp->VK->Prop:=λxs H Q=>∃(p:pX) (bs:List Bool),xs=[.ref p]/\SqL K H p (bs.map V.bl)/\Q (.bl (bs.any id)) H
theorem zdT(hc:X.calm=Aa):vj X (.builtin "any") (zfr X.K):=by
 intro Ac s σ H xs us Q I r h;obtain⟨p,bs,rfl,hS,q⟩:=h;obtain⟨u,rfl,ru⟩:=wg r;cases ru;obtain⟨its,rv,pl,hz⟩:=I.list hS
 have hlen:its.length=bs.length:=by
  have:=rv.length;rw[ac]at this;exact this.symm
 have hh:X.A.in1.handled=tZ:=I.ok.hd hc
 have hne:p≠s⁻¹:=by
  obtain⟨o,n,e,_⟩:=pl;exact ay (aq e)
 obtain⟨f0,f1,f2,f3,f4,f5⟩:=I.fpOk (H':=H) (al _) (I.hok.fresh (al _));have I1:=I.kept (t':=s.toks) (h':=s.heap.push { cls:=.type "list_iterator",data:=.fields (List.toArray [.ref p,.int 0 0]) }) λb o e=>ah _ e;refine call_any_walk (sk pl.isList ?_);refine#[s⁻¹,_,_,_,_,_,λi=>bs.getD i Ab,rfl,Walks.list hh s⁻¹ p hne its.toArray,#[#[_,aG _ rfl,rfl,rfl],?_],?_,?_]
 ·obtain⟨o,n,e,c,d,dt⟩:=pl;exact#[o,ah _ e,c,n,dt]
 ·intro i v s' Q' E' hv hq;have:=j8 rv (i:=i) (v:=v) (by simpa using hv);rw[this];exact rB hq
 ·intro h' tk hk
  have e:(aH its.toArray.size).any (λi=>bs.getD i Ab)=bs.any id:=by
   rw[aj,hlen,QW]
  rw[e];refine#[.bl _,H,?_,rfl,q];exact I1.turned (t':=tk) (it:=s⁻¹) (λb o hb q=>hk b o (by simpa using hb) q) f0 f1 f3 f4 f5
end
def CompEL(K:pW)(a:pX)(g:TG)(tt:TT)(te:TE)(own:Nat)(ix:())(σ:L2.St)(H1:Hp)(Q:VK)(D:pX):Prop:=YR (Iel K a) g tt te own ix σ H1 Q D
theorem zcK{K:pW}{ta:TA}{g:TG}{tt:TT}{te:TE}{own:Nat}{ix:()}{σ:L2.St}{H:Hp}{Q:VK}:jp (VH K ta) g tt te own ix σ H Q=ta σ H λvs H1=>∃a,vs=[.ref a]/\(∃xs,SqL K H1 a xs)/\∀D,H1 D=tZ->CompEL K a g tt te own ix σ H1 Q D:=rfl
section
variable{g:TG}{tt:TT}{te:TE}{own:Nat}{ix:()}{σ:L2.St}{H1:Hp}{Q:VK}{D:pX}
theorem CompEL.by{K:pW}{a:pX}{xs:List V}(Pv:Nat->List V->Hp->Prop)(h0:Pv 0 [] (upd H1 D (.lst [])))(hl:∀i Ae H',i<=xs.length->Pv i Ae H'->SqL K H' a xs)
  (hs:∀i x Ae H' p,xs[i]? = tY x->Pv i Ae H'->H' p=tZ->g (.ref p) (vZ σ own ix) (upd H' p (.tup [.int (i:Nat),x])) λσ3 H3=>xt (vZ σ own ix) σ3/\tt σ3 H3 λb H4=>if b=Aa then
   te σ3 H4 λv H5=>H5 D=tY (.lst Ae)/\Ae.length<pV/\CNx xs.length i Pv (Ae ++ [v]) (upd H5 D (.lst (Ae ++ [v])))else CNx xs.length i Pv Ae H4)
  (hd:∀Ae H',Pv xs.length Ae H'->Q (.ref D) H'):CompEL K a g tt te own ix σ H1 Q D:=by
 refine#[λi m Ae H=>m=xs.length - i/\i<=xs.length/\Pv i Ae H,#[xs.length,by simp,aD _,h0],?_];rintro i m Ae H' ⟨rfl,hi,p⟩;have q:=hl i Ae H' hi p;by_cases hlt:i<xs.length
 ·refine .inr #[#[xs,xs[i],q,by simp [hlt]],λv H2 y=>?_];obtain⟨p',x,hp,hx,ev,eH⟩:=y;subst ev eH;exact hs i x Ae H' p' (hx xs q) p hp
 ·have e:i=xs.length:=⋯;subst e;exact .inl #[#[xs,q,rfl],hd Ae H' p]
end
section
variable{X:Cx}
end
open PySem PySem.W PyProof.Rows
noncomputable def Q0(lt:Nat->Nat->Bool){α:Type}:tW α->α
 | .ret a=>a
 | .ask i j k=>Q0 lt (k (lt i j))
def Kok(lt:Nat->Nat->Bool)(n:Nat){α:Type}:tW α->(α->Prop)->Prop
 | .ret a,Q=>Q a
 | .ask i j k,Q=>i<n/\j<n/\Kok lt n (k (lt i j)) Q
section
variable{lt:Nat->Nat->Bool}{n:Nat}{α β:Type}
theorem Kok.mono{Q Q':α->Prop}(hq:∀a,Q a->Q' a):∀(t:tW α),Kok lt n t Q->Kok lt n t Q'
 | .ret a,h=>hq a h
 | .ask _ _ k,h=>#[h.1,h.2.1,Kok.mono hq (k _) h.2.2]
theorem Kok.bind{f:α->tW β}{Q:β->Prop}:∀(t:tW α),Kok lt n t (λa=>Kok lt n (f a) Q)->Kok lt n (t.bind f) Q
 | .ret _,h=>h
 | .ask _ _ k,h=>#[h.1,h.2.1,Kok.bind (k _) h.2.2]
theorem Kok.run{Q:α->Prop}:∀(t:tW α),Kok lt n t Q->Q (Q0 lt t)
 | .ret _,h=>h
 | .ask _ _ k,h=>Kok.run (k _) h.2.2
theorem Kok.same{Q:α->Prop}:∀(t:tW α),Kok lt n t Q->Kok lt n t (λa=>a=Q0 lt t)
 | .ret _,h=>rfl
 | .ask _ _ k,h=>#[h.1,h.2.1,Kok.same (k _) h.2.2]
theorem Kok.wp{cmp:Nat->Nat->(Bool->pZ->Prop)->pZ->Prop}{I:pZ->Prop}(hc:∀i j C s,i<n->j<n->I s->(∀s',I s'->C (lt i j) s')->cmp i j C s){Q:α->Prop}{R:α->pZ->Prop}
  (hR:∀a s,Q a->I s->R a s):∀(t:tW α) (s:pZ),I s->Kok lt n t Q->t.kasWp cmp R s
 | .ret a,s,hI,h=>hR a s h hI
 | .ask i j k,s,hI,h=>hc i j _ s h.1 h.2.1 hI λs' hI'=>Kok.wp hc hR (k _) s' hI' h.2.2
end
structure Wk(lt:Nat->Nat->Bool):Prop where
 asym:∀a b,lt a b=Aa->lt b a=Ab
 ntr:∀a b c,lt b a=Ab->lt c b=Ab->lt c a=Ab
section
variable{lt:Nat->Nat->Bool}{n:Nat}
abbrev Lq(lt:Nat->Nat->Bool)(a b:Nat):Prop:=lt b a=Ab
theorem Wk.refl(W:Wk lt)(a:Nat):Lq lt a a:=by
 cases h:lt a a with
 | false=>exact h
 | true=>exact absurd h (by rw[W.asym a a h];decide)
noncomputable abbrev pg(p:Array Nat)(i:Nat):Nat:=p.getD i 0
theorem Vc(p:Array Nat)(i:Nat):pg p i=(p[i]?).getD 0:=by simp [pg,Array.getD_eq_getD_getElem?]
def Up(lt:Nat->Nat->Bool)(p:Array Nat)(m:Nat):Prop:=∀i j,i<j->j<m->Lq lt (pg p i) (pg p j)
def Dn(lt:Nat->Nat->Bool)(p:Array Nat)(m:Nat):Prop:=∀i j,i<j->j<m->Lq lt (pg p j) (pg p i)
def Rg(n:Nat)(p:Array Nat):Prop:=p.toList.Perm (aH n)
theorem Rg.size{p:Array Nat}(h:Rg n p):p.size=n:=by have:=h.length_eq;simpa using this
theorem Rg.bd{p:Array Nat}(h:Rg n p){i:Nat}(hi:i<n):pg p i<n:=by
 have hs:=h.size;have hi':i<p.size:=⋯;have e:pg p i=p[i]:=by simp [pg,fo,hi']
 rw[e];have hm:p[i] ∈ p.toList:=Array.mem_toList_iff.mpr (Array.getElem_mem hi');exact Al.mp (h.mem_iff.mp hm)
theorem vc{p:Array Nat}{i j:Nat}(hj:j<=p.size)(k:Nat):pg (kas_rev p i j) k=if i<=k/\k<j then pg p (i+j - 1 - k)else pg p k:=by
 rw[Vc,kas_rev,getElem?_mirror_all hj];split <;> rw[Vc]
theorem Rg.rev{p:Array Nat}(h:Rg n p)(i j:Nat):Rg n (kas_rev p i j):=(Array.perm_iff_toList_perm.mp (mirror_perm p i j _)).trans h
theorem Rg.bub{p:Array Nat}(h:Rg n p)(i j:Nat):Rg n (bubble p i j):=(Array.perm_iff_toList_perm.mp (bubble_perm p i j)).trans h
theorem Qd(W:Wk lt){p:Array Nat}(hp:Rg n p):∀(f k:Nat),1<=k->k+f<=n->Up lt p k->Kok lt n (kas_asc p f k) (λm=>k<=m/\m<=k+f/\Up lt p m/\(m=k+f\/lt (pg p m) (pg p (m - 1))=Aa))
 | 0,k,h1,h2,hu=>#[⋯,⋯,hu,Or.inl ⋯]
 | f+1,k,h1,h2,hu=>by
  refine#[hp.bd ⋯,hp.bd ⋯,?_];rcases bX (lt (pg p k) (pg p (k - 1)))with hc | hc
  ·show Kok lt n (if lt (pg p k) (pg p (k - 1))=Aa then .ret k else _) _;rw[if_pos hc];exact#[⋯,⋯,hu,Or.inr hc]
  ·show Kok lt n (if lt (pg p k) (pg p (k - 1))=Aa then .ret k else _) _;rw[if_neg (by rw[hc];decide)];refine (Qd W hp f (k+1) ⋯ ⋯ λi j hij hj=>?_).mono (λm hm=>#[⋯,⋯,hm.2.2.1,?_]) _
   ·by_cases e:j=k
    ·subst e;by_cases e2:i=j - 1
     ·subst e2;exact hc
     ·exact W.ntr _ _ _ (hu i (j - 1) ⋯ ⋯) hc
    ·exact hu i j hij ⋯
   ·rcases hm.2.2.2 with h | h
    ·exact Or.inl ⋯
    ·exact Or.inr h
def Ev(lt:Nat->Nat->Bool)(p:Array Nat)(a b:Nat):Prop:=∀i j,a<=i->i<b->a<=j->j<b->Lq lt (pg p i) (pg p j)
theorem KR{p:Array Nat}{m q:Nat}(hm:m<=p.size)(hq:q+1<=m)(hd:Dn lt p m)(he:Ev lt p (m - (q+1)) m):Dn lt (kas_rev p (m - (q+1)) m) m:=by
 intro i j hij hj;rw[vc hm,vc hm];by_cases h1:m - (q+1)<=i
 ·rw[if_pos (show m - (q+1)<=i/\i<m by lia),if_pos (show m - (q+1)<=j/\j<m by lia)];exact he _ _ ⋯ ⋯ ⋯ ⋯
 ·rw[if_neg (show ¬ (m - (q+1)<=i/\i<m) by lia)];split
  ·exact hd _ _ ⋯ ⋯
  ·exact hd _ _ ⋯ ⋯
theorem ke(W:Wk lt):∀(f:Nat) (p:Array Nat) (k q:Nat),Rg n p->1<=k->k+f<=n->q+1<=k->Dn lt p k->Ev lt p (k - (q+1)) k ->
  Kok lt n (kas_desc f p k q) (λr=>Rg n r.1/\k<=r.2.1/\r.2.1<=k+f/\r.2.2+1<=r.2.1/\Dn lt r.1 r.2.1/\Ev lt r.1 (r.2.1 - (r.2.2+1)) r.2.1)
 | 0,p,k,q,hp,h1,h2,hq,hd,he=>#[hp,al _,Nat.le_add_right _ _,hq,hd,he]
 | f+1,p,k,q,hp,h1,h2,hq,hd,he=>by
  have hps:=hp.size;refine#[hp.bd ⋯,hp.bd ⋯,?_]
  have one:∀(p:Array Nat),Ev lt p (k+1 - (0+1)) (k+1):=λp i j a b c d=>by
   have:i=j:=⋯;subst this;exact W.refl _
  rcases bX (lt (pg p k) (pg p (k - 1)))with hc | hc
  ·show Kok lt n (if lt (pg p k) (pg p (k - 1))=Aa then _ else _) _;rw[if_pos hc];have hle:Lq lt (pg p k) (pg p (k - 1)):=W.asym _ _ hc;split
   ·rename_i hq0;refine (ke W f _ (k+1) 0 (hp.rev _ _) ⋯ ⋯ ⋯ (λi j hij hj=>?_) (one _)).mono (λr hr=>#[hr.1,⋯,⋯,hr.2.2.2]) _;by_cases e:j=k
    ·subst e;rw[vc ⋯,vc ⋯,if_neg ⋯];split
     ·exact W.ntr _ _ _ hle (he _ _ ⋯ ⋯ ⋯ ⋯)
     ·exact W.ntr _ _ _ hle (hd _ _ ⋯ ⋯)
    ·exact KR ⋯ hq hd he i j hij ⋯
   ·refine (ke W f _ (k+1) 0 hp ⋯ ⋯ ⋯ (λi j hij hj=>?_) (one _)).mono (λr hr=>#[hr.1,⋯,⋯,hr.2.2.2]) _;by_cases e:j=k
    ·subst e;by_cases e2:i=j - 1
     ·subst e2;exact hle
     ·exact W.ntr _ _ _ hle (hd i (j - 1) ⋯ ⋯)
    ·exact hd i j hij ⋯
  ·show Kok lt n (if lt (pg p k) (pg p (k - 1))=Aa then _ else _) _;rw[if_neg (by rw[hc];decide)];refine#[hp.bd ⋯,hp.bd ⋯,?_];rcases bX (lt (pg p (k - 1)) (pg p k))with hd2 | hd2
   ·show Kok lt n (if lt (pg p (k - 1)) (pg p k)=Aa then _ else _) _;rw[if_pos hd2];exact#[hp,al _,Nat.le_add_right _ _,hq,hd,he]
   ·show Kok lt n (if lt (pg p (k - 1)) (pg p k)=Aa then _ else _) _;rw[if_neg (by rw[hd2];decide)];refine (ke W f _ (k+1) (q+1) hp ⋯ ⋯ ⋯ (λi j hij hj=>?_) (λi j a b c d=>?_)).mono (λr hr=>#[hr.1,⋯,⋯,hr.2.2.2]) _
    ·by_cases e:j=k
     ·subst e;by_cases e2:i=j - 1
      ·subst e2;exact hd2
      ·exact W.ntr _ _ _ hd2 (hd i (j - 1) ⋯ ⋯)
     ·exact hd i j hij ⋯
    ·have b1:∀i,k+1 - (q+1+1)<=i->i<k->Lq lt (pg p i) (pg p (k - 1))/\Lq lt (pg p (k - 1)) (pg p i):=λi a b=>#[he _ _ ⋯ ⋯ ⋯ ⋯,he _ _ ⋯ ⋯ ⋯ ⋯];by_cases e:j=k
     ·subst e;by_cases e3:i=j
      ·subst e3;exact W.refl _
      ·exact W.ntr _ _ _ (b1 i ⋯ ⋯).1 hc
     ·by_cases e3:i=k
      ·subst e3;exact W.ntr _ _ _ hd2 (b1 j ⋯ ⋯).2
      ·exact he _ _ ⋯ ⋯ ⋯ ⋯
theorem WG(W:Wk lt){p:Array Nat}{m:Nat}(hp:Rg n p)(h1:1<=m)(hm:m<=n)(hd:Dn lt p m):Kok lt n (kas_tail3 m n p) (λr=>Rg n r.2/\1<=r.1/\r.1<=n/\Up lt r.2 r.1):=by
 have hps:=hp.size;unfold kas_tail3;refine Kok.bind _ ((Qd W (hp.rev 0 m) (n - m) m h1 ⋯ λi j hij hj=>?_).mono (λk hk=>#[hp.rev 0 m,by show 1<=k;lia,by show k<=n;lia,hk.2.2.1]) _);rw[vc ⋯,vc ⋯,if_pos ⋯,if_pos ⋯];exact hd _ _ ⋯ ⋯
theorem qU(W:Wk lt){p:Array Nat}{m:Nat}(hp:Rg n p)(h1:1<=m)(hm:m+1<=n)(hd:Dn lt p (m+1)):Kok lt n (kas_descPart m n p) (λr=>Rg n r.2/\1<=r.1/\r.1<=n/\Up lt r.2 r.1):=by
 unfold kas_descPart;refine Kok.bind _ ((ke W (n - (m+1)) p (m+1) 0 hp ⋯ ⋯ ⋯ hd λi j a b c d=>?_).mono (λr hr=>?_) _)
 ·have:i=j:=⋯;subst this;exact W.refl _
 ·obtain⟨r1,r2,r3,r4,r5,r6⟩:=hr;have hs:=r1.size
  (try dsimp only)
  split
  ·exact WG W (r1.rev _ _) ⋯ ⋯ (KR ⋯ r4 r5 r6)
  ·exact WG W r1 ⋯ ⋯ r5
theorem JC(W:Wk lt){p:Array Nat}(hp:Rg n p)(hn:1<=n):Kok lt n (kas_count n p) (λr=>Rg n r.2/\1<=r.1/\r.1<=n/\Up lt r.2 r.1):=by
 have hps:=hp.size;unfold kas_count;refine Kok.bind _ ((Qd W hp (n - 1) 1 (al _) ⋯ λi j hij hj=>by lia).mono (λm hm=>?_) _);obtain⟨m1,m2,mu,ms⟩:=hm;by_cases e:(m == n)=Aa
 ·rw[if_pos e];exact#[hp,by show 1<=m;lia,by show m<=n;lia,mu]
 ·rw[if_neg e];have hne:m≠n:=λh=>e (by rw[h];exact beq_self_eq_true _)
  have hlt:lt (pg p m) (pg p (m - 1))=Aa:=by
   rcases ms with h | h
   ·lia
   ·exact h
  have hle:Lq lt (pg p m) (pg p (m - 1)):=W.asym _ _ hlt;by_cases h1:m > 1
  ·rw[if_pos h1];refine#[hp.bd ⋯,hp.bd ⋯,?_];rcases bX (lt (pg p 0) (pg p (m - 1)))with hc | hc
   ·show Kok lt n (if lt (pg p 0) (pg p (m - 1))=Aa then _ else _) _;rw[if_pos hc];exact#[hp,by show 1<=m;lia,by show m<=n;lia,mu]
   ·show Kok lt n (if lt (pg p 0) (pg p (m - 1))=Aa then _ else _) _;rw[if_neg (by rw[hc];decide)]
    have u0:∀i,i<m->Lq lt (pg p 0) (pg p i):=λi hi=>by
     by_cases h:i=0
     ·subst h;exact W.refl _
     ·exact mu 0 i ⋯ hi
    have ul:∀i,i<m->Lq lt (pg p i) (pg p (m - 1)):=λi hi=>by
     by_cases h:i=m - 1
     ·subst h;exact W.refl _
     ·exact mu i (m - 1) ⋯ ⋯
    have ev:∀i j,i<m->j<m->Lq lt (pg p i) (pg p j):=λi j hi hj=>W.ntr _ _ _ (ul i hi) (W.ntr _ _ _ hc (u0 j hj));refine qU W (hp.rev 0 m) ⋯ ⋯ λi j hij hj=>?_;by_cases h:j=m
    ·subst h;rw[vc ⋯,vc ⋯,if_neg ⋯,if_pos ⋯];exact W.ntr _ _ _ hle (ev _ _ ⋯ ⋯)
    ·rw[vc ⋯,vc ⋯,if_pos ⋯,if_pos ⋯];exact ev _ _ ⋯ ⋯
  ·rw[if_neg h1];refine qU W hp ⋯ ⋯ λi j hij hj=>?_;have h0:i=m - 1:=⋯;have h1:j=m:=⋯;subst h0 h1;exact hle
theorem kY(W:Wk lt){p:Array Nat}(hp:Rg n p){k:Nat}(hk:k<n)(hu:Up lt p k):∀(f l r:Nat),l<=r->r<=k->r - l<=f->(∀i,i<l->Lq lt (pg p i) (pg p k))->(∀i,r<=i->i<k->Lq lt (pg p k) (pg p i)) ->
  Kok lt n (kas_place p k f l r) (λm=>m<=k/\(∀i,i<m->Lq lt (pg p i) (pg p k))/\(∀i,m<=i->i<k->Lq lt (pg p k) (pg p i)))
 | 0,l,r,hl,hr,hf,h1,h2=>by
  have:l=r:=⋯;subst this;exact#[hr,h1,h2]
 | f+1,l,r,hl,hr,hf,h1,h2=>by
  unfold kas_place;by_cases e:l ≥ r
  ·rw[if_pos e];have:l=r:=⋯;subst this;exact#[hr,h1,h2]
  ·rw[if_neg e];refine#[hp.bd hk,hp.bd ⋯,?_];rcases bX (lt (pg p k) (pg p ((l+r) / 2)))with hc | hc
   ·show Kok lt n (if lt (pg p k) (pg p ((l+r) / 2))=Aa then _ else _) _;rw[if_pos hc];refine kY W hp hk hu f l ((l+r) / 2) ⋯ ⋯ ⋯ h1 λi hi hik=>?_;by_cases e2:i=(l+r) / 2
    ·subst e2;exact W.asym _ _ hc
    ·exact W.ntr _ _ _ (W.asym _ _ hc) (hu _ _ ⋯ hik)
   ·show Kok lt n (if lt (pg p k) (pg p ((l+r) / 2))=Aa then _ else _) _;rw[if_neg (by rw[hc];decide)];refine kY W hp hk hu f ((l+r) / 2+1) r ⋯ hr ⋯ (λi hi=>?_) h2;by_cases e2:i=(l+r) / 2
    ·subst e2;exact hc
    ·exact W.ntr _ _ _ (hu i ((l+r) / 2) ⋯ ⋯) hc
theorem K0{p:Array Nat}{k l:Nat}(hk:k<p.size)(hl:l<=k)(i:Nat):pg (bubble p k (k - l)) i=if i=l then pg p k else if l<i/\i<=k then pg p (i - 1)else pg p i:=by
 have e:k - (k - l)=l:=⋯;rw[Vc,getElem?_bubble hk (k - l) ⋯,e];by_cases h:i=l
 ·rw[if_pos h,if_pos h];exact (Vc p k).symm
 ·rw[if_neg h,if_neg h];by_cases h':l<i/\i<=k
  ·rw[if_pos h',if_pos h'];exact (Vc p (i - 1)).symm
  ·rw[if_neg h',if_neg h'];exact (Vc p i).symm
theorem KC(W:Wk lt):∀(f:Nat) (p:Array Nat) (k:Nat),Rg n p->k+f=n->Up lt p k->Kok lt n (kas_bin f p k) (λp'=>Rg n p'/\Up lt p' n)
 | 0,p,k,hp,hk,hu=>by
  have:k=n:=⋯;subst this;exact#[hp,hu]
 | f+1,p,k,hp,hk,hu=>by
  have hps:=hp.size;refine Kok.bind _ ((kY W hp ⋯ hu k 0 k ⋯ ⋯ ⋯ (λi hi=>by lia) (λi h1 h2=>by lia)).mono (λl hl=>?_) _);obtain⟨l1,l2,l3⟩:=hl;refine KC W f _ (k+1) (hp.bub _ _) ⋯ λi j hij hj=>?_;rw[K0 ⋯ l1,K0 ⋯ l1];by_cases h1:i=l
  ·rw[if_pos h1,if_neg ⋯,if_pos ⋯];exact l3 _ ⋯ ⋯
  ·rw[if_neg h1];by_cases h2:j=l
   ·rw[if_pos h2,if_neg ⋯];exact l2 _ ⋯
   ·rw[if_neg h2];by_cases h3:l<i/\i<=k
    ·rw[if_pos h3,if_pos ⋯];exact hu _ _ ⋯ ⋯
    ·rw[if_neg h3];by_cases h4:l<j/\j<=k
     ·rw[if_pos h4];by_cases h5:i=j - 1
      ·lia
      ·exact hu _ _ ⋯ ⋯
     ·rw[if_neg h4];exact hu _ _ ⋯ ⋯
theorem Yz(W:Wk lt)(hn:1<=n):Kok lt n (kas_sort n) (λp=>Rg n p/\Up lt p n):=by
 unfold kas_sort;refine Kok.bind _ ((JC W (p:=be (aH n)) (by unfold Rg;exact List.Perm.refl _) hn).mono (λr hr=>?_) _);obtain⟨r1,r2,r3,r4⟩:=hr
 (try dsimp only)
 split
 ·have:max r.1 1=r.1:=⋯;rw[this];exact KC W _ _ _ r1 ⋯ r4
 ·have:r.1=n:=⋯;rw[this]at r4;exact#[r1,r4]
end
noncomputable def srt{α:Type}(lt:α->α->Bool)(d:α)(xs:List α):List α :=
 if xs.length<2 then xs else (Q0 (λi j=>lt (xs.getD i d) (xs.getD j d)) (kas_sort xs.length)).toList.map λi=>xs.getD i d
structure WkO{α:Type}(lt:α->α->Bool):Prop where
 asym:∀a b,lt a b=Aa->lt b a=Ab
 ntr:∀a b c,lt b a=Ab->lt c b=Ab->lt c a=Ab
theorem J3{α:Type}{lt:α->α->Bool}(W:WkO lt)(d:α)(xs:List α):(srt lt d xs).Perm xs/\(srt lt d xs).Pairwise λa b=>lt b a=Ab:=by
 unfold srt;split
 ·rename_i h;refine#[List.Perm.refl _,?_]
  match xs,h with
  | [],_=>exact List.Pairwise.nil
  | [a],_=>exact eP _ _
  | _::_::_,h=>exact absurd h (by simp)
 ·rename_i h;have W':Wk (λi j=>lt (xs.getD i d) (xs.getD j d)):=#[λa b=>W.asym _ _,λa b c=>W.ntr _ _ _];obtain⟨h1,h2⟩:=Kok.run _ (Yz (n:=xs.length) W' ⋯);generalize Q0 (λi j=>lt (xs.getD i d) (xs.getD j d)) (kas_sort xs.length)=p at h1 h2
  have e:(aH xs.length).map (λi=>xs.getD i d)=xs:=by
   refine List.ext_getElem (by simp) λi a b=>?_;have hb:i<xs.length:=by simpa using b
   simp [hb]
  refine#[(h1.map (λi=>xs.getD i d)).trans (by rw[e]),?_];rw[List.pairwise_map,List.pairwise_iff_getElem];intro i j hi hj hij;have hs:=h1.size;have hi':i<p.size:=by simpa using hi
  have hj':j<p.size:=by simpa using hj
  have q:=h2 i j hij ⋯;have ei:pg p i=p.toList[i]:=by simp [pg,fo,hi']
  have ej:pg p j=p.toList[j]:=by simp [pg,fo,hj']
  rw[ei,ej]at q;exact q
theorem QY{lt lt':Nat->Nat->Bool}{n:Nat}{α:Type}{Q:α->Prop}(h:∀i j,i<n->j<n->lt i j=lt' i j):∀t:tW α,Kok lt n t Q->Q0 lt t=Q0 lt' t
 | .ret _,_=>rfl
 | .ask i j k,q=>by
  show Q0 lt (k (lt i j))=Q0 lt' (k (lt' i j));rw[<- h i j q.1 q.2.1];exact QY h _ q.2.2
theorem KZ{α:Type}{lt lt':α->α->Bool}(W:WkO lt){d d':α}{xs:List α}(h:∀a ∈ xs,∀b ∈ xs,lt a b=lt' a b):srt lt d xs=srt lt' d' xs:=by
 have g:∀i,i<xs.length->∃a ∈ xs,xs.getD i d=a/\xs.getD i d'=a:=λi hi=>#[xs[i],cP hi,by rw[aa,ae hi];rfl,by rw[aa,ae hi];rfl];unfold srt;split
 ·rfl
 ·rename_i hl;have W':Wk (λi j=>lt (xs.getD i d) (xs.getD j d)):=#[λa b=>W.asym _ _,λa b c=>W.ntr _ _ _];have ok:=Yz (n:=xs.length) W' ⋯
  have e:=QY (lt':=λi j=>lt' (xs.getD i d') (xs.getD j d')) (λi j hi hj=>by
   obtain⟨a,ha,a1,a2⟩:=g i hi;obtain⟨b,hb,b1,b2⟩:=g j hj;show lt (xs.getD i d) (xs.getD j d)=lt' (xs.getD i d') (xs.getD j d');rw[a1,a2,b1,b2]
   exact h a ha b hb) _ ok
  rw[<- e];obtain⟨h1,_⟩:=Kok.run _ ok;refine bt λi hi=>?_;obtain⟨a,_,a1,a2⟩:=g i (Al.mp (h1.mem_iff.mp hi));rw[a1,a2]
theorem Qa{α β:Type}{lt:β->β->Bool}(f:α->β)(d:α)(xs:List α):srt lt (f d) (xs.map f)=(srt (λa b=>lt (f a) (f b)) d xs).map f:=by
 have e:∀i,(xs.map f).getD i (f d)=f (xs.getD i d):=λi=>by
  rw[aa,aa,ar];cases xs[i]? <;> rfl
 unfold srt;rw[ac];split
 ·rfl
 ·erw[e,cp]
  rfl
end L3
namespace L3
structure KeyFam(α:Type) where
 dec:α->List D
 lt:α->α->Bool
 fst:Bool
 d0:α
structure KeyFam.Ok{α:Type}(F:KeyFam α):Prop where
 w:WkO F.lt
 eq:∀a b,vD (F.dec a) (F.dec b)=F.lt a b
 ok:∀a b,kO (F.dec a) (F.dec b)
 dp:∀a,uK (F.dec a)<40
 sh:∀a,∃d r,F.dec a=d::r/\((F.fst=Aa/\∃n,d=.int n)\/(F.fst=Ab/\∃l,d=.tup l))
section
variable{X:Cx}{Ac:List (pX × rF)}{σ:L2.St}{H:Hp}{s:pZ}
theorem Inv.repin{b:pX}{o o':rF}{h':rj}(I:Inv X (Ac ++ [(b,o)]) σ H s)(hs:X.s₀.heap.objs.size<=b)(hn:∀p ∈ X.pn ++ Ac,p.1≠b)(sb:Heap.SameBut b s.heap h')(ho:h'.get? b=tY o')(hd:∀v,o'.data≠.cell v) :
  Inv X (Ac ++ [(b,o')]) σ H { s with heap:=h' }:=by
 have I1:Inv X Ac σ H s:=I.unpinned;obtain⟨p1,p2,p3,p4,p5⟩:=I.pin (b,o) (aA _ (aA _ (Aj.mpr rfl)))
 have I2:Inv X Ac σ H { s with heap:=h' }:=Inv.turns I1 (fp:=[b]) (t':=s.toks) (λb' u hb e=>(sb.2 b' (by simpa using hb)).trans e) λb' hb=>by
  have e:b'=b:=by simpa using hb
  subst e;refine#[p2,p3,p4,.inr hs,λx c e z=>?_,hn];obtain⟨v,o1,ho1,hd1⟩:=I.cell x c e;subst z;rw[p1]at ho1;cases ho1;exact p5 v hd1
 exact I2.pins_of λp hp=>by
  rcases Ai.mp hp with z | z
  ·exact I2.pin p (aA _ z)
  ·have e:p=(b,o'):=by simpa using z
   subst e;exact#[ho,p2,p3,p4,hd]
theorem Inv.newpin{b:pX}{o:rF}(I:Inv X Ac σ H s)(hf:xU X Ac H b)(ho:s.heap.get? b=tY o)(hd:∀v,o.data≠.cell v):Inv X (Ac ++ [(b,o)]) σ H s :=
 I.pins_of λp hp=>by
  rcases Ai.mp hp with z | z
  ·exact I.pin p (aA _ z)
  ·have e:p=(b,o):=by simpa using z
   subst e;exact#[ho,hf.1,hf.2.1,hf.2.2.1,hd]
theorem zds(I:Inv X Ac σ H s){A:rg}{b:Bool}{Q:Bool->pZ->Prop}(hu:A.units+50<cLine):∀(l m:List D) (xs ys:List V) (its its':List pY) (i:Nat),Iss X.K H l xs->Iss X.K H m ys->Vals xs its->Vals ys its'->kO l m->uK l<40 ->
  (b=Aa->i=0->(∃n r,l=.int n::r)/\∃n r,m=.int n::r)->Q (vD l m) s->PySem.W.KatLex X.prog X.w A b (decide (its.length<its'.length)) Q (its.zip its') i s
 | [],m,xs,ys,its,its',i,h1,h2,r1,r2,ok,hd,hb,q=>by
  erw[Iss]at h1
  subst h1;cases r1
  have e:vD [] m=decide (([]:List pY).length<its'.length):=by
   have e1:=h2.len;have e2:=r2.length;have e3:m.length=its'.length:=⋯;rw[<- e3]
   cases m with
   | nil=>simp [vD]
   | cons _ _=>simp [vD]
  rw[e]at q;rw[List.zip_nil_left];exact fS q
 | d::l,[],xs,ys,its,its',i,h1,h2,r1,r2,ok,hd,hb,q=>by
  erw[Iss]at h2
  subst h2;cases r2
  erw[vD]at q
  rw[List.zip_nil_right];exact fS (by simpa using q)
 | d::l,e::m,xs,ys,its,its',i,h1,h2,r1,r2,ok,hd,hb,q=>by
  erw[Iss]at h1 h2
  obtain⟨x,xr,rfl,hx,hxr⟩:=h1;obtain⟨y,yr,rfl,hy,hyr⟩:=h2
  cases r1 with | cons rx rxr =>
  cases r2 with | cons ry ryr =>
  erw[kO]at ok
  erw[uK]at hd
  rename_i u us v vs;rw[de];refine PySem.W.kat_cons (Yl I 45 A d e x y u v ⋯ ⋯ hx hy rx ry X.prog X.w _ _ ?_)
  cases he:eqD d e with
  | true =>
   refine PySem.W.kat_yes ?_;have:=zds I (b:=b) hu l m xr yr us vs (i+1) hxr hyr rxr ryr ok.2 ⋯ (λ_ z=>absurd z ⋯) (by simpa only[vD,he,if_true] using q);simpa using this
  | false =>
   refine PySem.W.kat_no ?_;have q':Q (ltD d e) s:=by simpa only[vD,he,br,if_false] using q
   by_cases hbi:(b && i == 0)=Aa
   ·rw[hbi]
    erw[ci,beq_iff_eq]at hbi
    obtain⟨⟨n,r,e1⟩,n',r',e2⟩:=hb hbi.1 hbi.2;cases e1;cases e2
    erw[Is]at hx hy
    subst hx hy;obtain⟨t,rfl⟩:=rx;obtain⟨t',rfl⟩:=ry
    erw[ltD]at q'
    exact oneLt_int q'
   ·rw[show (b && i == 0)=Ab by simpa using hbi];exact PySem.W.kat_one _ _ (Ky I 45 A d e x y u v ⋯ ⋯ ok.1 hx hy rx ry X.prog X.w _ _ q')
theorem zak(I:Inv X Ac σ H s){A:rg}{b:Bool}{Q:Bool->pZ->Prop}{E:pY->pZ->Prop}(hu:A.units+50<cLine){l m:List D}{x y:V}{u v:pY}(hx:Is X.K H (.tup l) x)(hy:Is X.K H (.tup m) y)(rx:RelV x u)(ry:RelV y v)
  (ok:kO l m) (hd:uK l<40) (hb:b=Aa->(∃n r,l=.int n::r)/\∃n r,m=.int n::r) (q:Q (vD l m) s):rd (model X.prog X.w) A (keyLt' (tuples' b) u v) Q E s:=by
 erw[Is]at hx hy
 obtain⟨a,xs,rfl,h1,h2⟩:=hx;obtain⟨c,ys,rfl,g1,g2⟩:=hy;cases rx;cases ry;obtain⟨its,r,⟨o,ho,hoc,n,hod⟩,_⟩:=I.tuple h1;obtain⟨its',r',⟨o',ho',hoc',n',hod'⟩,_⟩:=I.tuple g1;refine PySem.W.kat_lt ho hod ho' hod' ?_;have:=zds I (A:=A) (b:=b) (Q:=Q) hu l m xs ys its its' 0 h2 g2 r r' ok hd (λz _=>hb z) q;simpa using this
theorem Kn{α:Type}{F:KeyFam α}(FO:F.Ok)(I:Inv X Ac σ H s){M:tJ}:∀(rs:List α) (Ae:List V) (ks:List pY),Iss X.K H (rs.map λa=>.tup (F.dec a)) Ae->Vals Ae ks ->
  ∃fs,PySem.W.KatTups s.heap ks fs/\fs.length=rs.length/\∀v ∈ fs,PySem.W.Looks M s.heap (typeOf v) (.type (if F.fst=Aa then "int" else "tuple"))
 | [],Ae,ks,h,r=>by
  erw[aM,Iss]at h
  subst h;cases r;exact#[[],PySem.W.KatTups.nil,rfl,λv hv=>by cases hv]
 | a::rs,Ae,ks,h,r=>by
  erw[ao,Iss]at h
  obtain⟨x,xr,rfl,hx,hxr⟩:=h
  cases r with | cons rx rxr =>
  rename_i u us;obtain⟨fs,t1,t2,t3⟩:=Kn FO I (M:=M) rs xr us hxr rxr
  erw[Is]at hx
  obtain⟨c,xs,rfl,h1,h2⟩:=hx;cases rx;obtain⟨its,ri,⟨o,ho,hoc,n,hod⟩,_⟩:=I.tuple h1;obtain⟨d,dr,ed,hsh⟩:=FO.sh a;rw[ed]at h2
  erw[Iss]at h2
  obtain⟨y,yr,rfl,hy,_⟩:=h2
  cases ri with | cons ry rir =>
  rename_i v vs;refine#[v::fs,PySem.W.KatTups.cons ho hoc hod (by simp) t1,by simp [t2],λz hz=>?_];rcases Ah.mp hz with e | hz
  ·subst e;rcases hsh with ⟨hf,n',rfl⟩ | ⟨hf,l,rfl⟩
   ·rw[if_pos hf]
    erw[Is]at hy
    subst hy;obtain⟨t,rfl⟩:=ry;exact PySem.W.Looks.of_pure rfl
   ·rw[if_neg (by rw[hf];decide)]
    erw[Is]at hy
    obtain⟨c',xs',rfl,g1,_⟩:=hy;cases ry;obtain⟨its',ri',⟨o',ho',hoc',n',hod'⟩,_⟩:=I.tuple g1;rw[<- hoc'];exact (PySem.W.Looks.ld ho').andThen .now
  ·exact t3 z hz
end
def Ve{α:Type}(K:pW)(F:KeyFam α)(xs:List V)(Q:VK):List V->Hp->Prop:=λAe H'=>∃rs:List α,Iss K H' (rs.map λa=>.tup (F.dec a)) Ae /\
 ∀ys:List (α × V),ys=srt (λp q=>F.lt p.1 q.1) (F.d0,.non) (rs.zip xs)->∀D,H' D=tZ->Q (.ref D) (upd H' D (.lst (ys.map (·.2))))
section
variable{X:Cx}{Ac:List (pX × rF)}{σ:L2.St}{H:Hp}{s:pZ}
theorem Inv.fp_of_pin{b:pX}{o:rF}(I:Inv X (Ac ++ [(b,o)]) σ H s)(hs:X.s₀.heap.objs.size<=b)(hn:∀p ∈ X.pn ++ Ac,p.1≠b):xU X Ac H b:=by
 obtain⟨p1,p2,p3,p4,p5⟩:=I.pin (b,o) (aA _ (aA _ (Aj.mpr rfl)));refine#[p2,p3,p4,.inr hs,λx c e z=>?_,hn];obtain⟨v,o1,ho1,hd1⟩:=I.cell x c e;subst z;rw[p1]at ho1;cases ho1;exact p5 v hd1
theorem Inv.at_pin{b:pX}{o:rF}(I:Inv X (Ac ++ [(b,o)]) σ H s):s.heap.get? b=tY o:=(I.pin (b,o) (aA _ (aA _ (Aj.mpr rfl)))).1
theorem xG{c:String}{xs:Array pY}{n:Nat}:∀v,(rz c xs n).data≠.cell v:=λv z=>by cases z
theorem Kp{D kS:pX}{e e1:Nat}{st:SortSt}{ks out:List pY}{A:rg}{E:pY->pZ->Prop}{P:PySem.Fin->pZ->Prop}(I:Inv X ((Ac ++ [(D,rz "list" #[] e1)]) ++ [(kS,rz "list" (be ks) e)]) σ H s)
  (hD:X.s₀.heap.objs.size<=D) (hK:X.s₀.heap.objs.size<=kS) (nD:∀p ∈ X.pn ++ Ac,p.1≠D) (nK:∀p ∈ X.pn ++ (Ac ++ [(D,rz "list" #[] e1)]),p.1≠kS) (hkz:ks.length<64)
  (hout:(arrOf st).map (·.2)=be out) (hoz:out.length<64) (hf:failedOf st=tZ) (h:∀s' c,Inv X (Ac ++ [(D,rz "list" (be out) c)]) σ H s'->P (.done (.ret .none)) s') :
  rd (model X.prog X.w) A (ksk_tail D Ab e1 (.ref kS) st) P E s:=by
 have pk:=Inv.at_pin I;have s1:=Heap.SameBut.update s.heap kS (Obj.mapSeq λ_=>(#[]:Array pY));obtain⟨ck,hck⟩:∃ck,(s.heap.update kS (Obj.mapSeq λ_=>(#[]:Array pY))).get? kS=tY (rz "list" #[] ck):=#[_,get?_update_seq pk λ_=>#[]];have I2:=(Inv.repin I hK nK s1 hck xG).unpinned;have pd:=Inv.at_pin I2;have s2:=Heap.SameBut.update (s.heap.update kS (Obj.mapSeq λ_=>(#[]:Array pY))) D (Obj.mapSeq λ_=>be out);obtain⟨c2,hc2⟩:∃c2,((s.heap.update kS (Obj.mapSeq λ_=>(#[]:Array pY))).update D (Obj.mapSeq λ_=>be out)).get? D=tY (rz "list" (be out) c2):=#[_,get?_update_seq pd λ_=>be out];have I3:=Inv.repin I2 hD nD s2 hc2 xG;unfold ksk_tail
 (try dsimp only)
 rw[hout];refine pQ (listUpdate_at pk rfl ?_ (by rw[aj,rE];lia) (aD _));refine pQ (sC ?_);refine pQ (seqEpoch_at pd rfl ?_);refine pQ (listUpdate_at pd rfl ?_ (aD _) (by erw[br,if_false];rw[aj,rE];lia));rw[hf]
 erw[bne_self_eq_false,br,if_false]
 exact pR (h _ c2 I3)
theorem zd1{α:Type}{F:KeyFam α}(FO:F.Ok){D kS:pX}{e e1:Nat}{ks its:List pY}{Ae xs:List V}{rs:List α}{A:rg}{E:pY->pZ->Prop}{P:PySem.Fin->pZ->Prop}(hu:A.units+50<cLine)
  (I:Inv X ((Ac ++ [(D,rz "list" #[] e1)]) ++ [(kS,rz "list" (be ks) e)]) σ H s)
  (hD:X.s₀.heap.objs.size<=D) (hK:X.s₀.heap.objs.size<=kS) (nD:∀p ∈ X.pn ++ Ac,p.1≠D) (nK:∀p ∈ X.pn ++ (Ac ++ [(D,rz "list" #[] e1)]),p.1≠kS)
  (rk:Vals Ae ks) (rv:Vals xs its) (hl:ks.length=its.length) (hz:its.length<64) (hR:Iss X.K H (rs.map λa=>.tup (F.dec a)) Ae)
  (h:∀s' (ys:List (α × V)) (out:List pY) c,ys=srt (λp q=>F.lt p.1 q.1) (F.d0,.non) (rs.zip xs)->Vals (ys.map (·.2)) out->out.length<64->Inv X (Ac ++ [(D,rz "list" (be out) c)]) σ H s'->P (.done (.ret .none)) s') :
  rd (model X.prog X.w) A (ksk_end D Ab its.toArray e1 (.ref kS) (be ks)) P E s:=by
 have L1:=hR.len;have L2:=rk.length;have L3:=rv.length;rw[ac]at L1;have lz:(rs.zip xs).length=its.length:=by rw[List.length_zip];lia
 unfold ksk_end
 erw[br,if_false]
 by_cases h2:its.toArray.size<2
 ·rw[if_pos h2,if_pos h2];refine pQ (pR ?_);rw[StateT.run_pure];refine pQ (pR ?_)
  (try dsimp only)
  refine Kp (out:=its) I hD hK nD nK ⋯ ?_ hz rfl λs' c I'=>h s' (rs.zip xs) its c ?_ ?_ hz I'
  ·show ((be ks).zip its.toArray).map (·.2)=_;apply Array.toList_inj.mp;rw[Array.toList_map,ksk_zip];exact List.map_snd_zip (by simp;lia)
  ·rw[aj]at h2;unfold srt;rw[if_pos ⋯]
  ·rw[List.map_snd_zip ⋯];exact rv
 ·rw[if_neg h2,if_neg h2];rw[aj]at h2;obtain⟨fs,t1,t2,t3⟩:=Kn FO I (M:=model X.prog X.w) rs Ae ks hR rk;refine pQ (PySem.W.kat_kind t1 ⋯ t3 (by simp) ?_)
  have hfst:((Value.type (if F.fst=Aa then "int" else "tuple"):pY) != Value.type "tuple")=F.fst:=by
   cases hF:F.fst with
   | true=>rfl
   | false=>rfl
  rw[hfst];have W:Wk (λi j=>F.lt (rs.getD i F.d0) (rs.getD j F.d0)):=#[λa b=>FO.w.asym _ _,λa b c=>FO.w.ntr _ _ _];have ok:=Yz (n:=its.length) W ⋯
  have lt_eq:(λi j=>F.lt (rs.getD i F.d0) (rs.getD j F.d0))=(λi j=>(λ(p q:α × V)=>F.lt p.1 q.1) ((rs.zip xs).getD i (F.d0,.non)) ((rs.zip xs).getD j (F.d0,.non))):=by
   have one:∀i,((rs.zip xs).getD i (F.d0,V.non)).1=rs.getD i F.d0:=λi=>by
    by_cases hi:i<its.length
    ·have a1:i<rs.length:=⋯;have a2:i<xs.length:=⋯;rw[aa,aa,ae ⋯,ae a1];simp
    ·rw[aa,aa,bQ ⋯,bQ ⋯];rfl
   funext i j
   erw[one]
  have wp:=Kok.wp (n:=its.length) (cmp:=fV X.prog X.w A (tuples' F.fst) ks) (I:=λs'=>Inv X ((Ac ++ [(D,rz "list" #[] e1)]) ++ [(kS,rz "list" (be ks) e)]) σ H s')
   (R:=λp s'=>p=Q0 (λi j=>F.lt (rs.getD i F.d0) (rs.getD j F.d0)) (PySem.W.kas_sort its.length)/\Inv X ((Ac ++ [(D,rz "list" #[] e1)]) ++ [(kS,rz "list" (be ks) e)]) σ H s')
   (λi j C s' hi hj I' hC=>?_) (λp s' hp I'=>#[hp,I']) _ s I (Kok.same _ ok)
  ·have run:=PySem.W.kat_run (E:=E) (vs:=its) (ks:=ks) (Q:=λst' s'=>∃p:Array Nat,p.size=its.length/\arrOf st'=p.map (PySem.W.kas_item (ks.toArray.zip its.toArray))/\failedOf st'=tZ/\_) hl ⋯ hz (λp' st' s' a1 a2 a3 a4=>#[p',a1,a2,a3,a4]) wp;refine pQ (rS run ?_ λ_ _ e=>e);rintro⟨⟨⟩,st'⟩ s' ⟨p,hp,har,hf,hpk,I'⟩
   (try dsimp only)
   have hout:=PySem.W.kat_snds (ks:=ks) (vs:=its) hl har;have hR1:Rg its.length p:=by rw[hpk];exact (Kok.run _ ok).1
   have g1:(p.toList.map λi=>(rs.zip xs).getD i (F.d0,.non))=srt (λp q=>F.lt p.1 q.1) (F.d0,.non) (rs.zip xs):=by
    unfold srt;rw[if_neg ⋯,lz,<- lt_eq,<- hpk]
   have olen:(p.toList.map λi=>its.getD i Value.none).length=its.length:=by rw[ac,dL,hp]
   refine Kp (out:=p.toList.map λi=>its.getD i Value.none) I' hD hK nD nK ⋯ hout ⋯ hf λs2 c I2=>h s2 _ _ c g1 ?_ ⋯ I2;rw[cp]
   have all:∀(js:()),(∀j ∈ js,j<its.length)->Vals (js.map ((λx:α × V=>x.2) ∘ λi=>(rs.zip xs).getD i (F.d0,.non))) (js.map λi=>its.getD i Value.none):=by
    intro js
    induction js with
    | nil=>intro _;exact .nil
    | cons j js ih =>
     intro hj;refine .cons ?_ (ih λi hi=>hj i (am _ hi));have hjl:=hj j aw;have a1:j<xs.length:=⋯;obtain⟨u,hu1,ru⟩:=xC rv (j:=j) (x:=xs[j]) (ae a1)
     have e1:((rs.zip xs).getD j (F.d0,V.non)).2=xs[j]:=by
      rw[aa,ae ⋯];simp
     have e2:its.getD j Value.none=u:=by rw[aa,hu1];rfl
     show RelV ((rs.zip xs).getD j (F.d0,V.non)).2 (its.getD j Value.none);rw[e1,e2];exact ru
   exact all p.toList λj hj=>Al.mp (hR1.mem_iff.mp hj)
  ·have a1:i<rs.length:=⋯;have a2:j<rs.length:=⋯;have gi:(rs.map λa=>_root_.L3.D.tup (F.dec a))[i]? = tY (.tup (F.dec rs[i])):=by rw[ar,ae a1];rfl
   have gj:(rs.map λa=>_root_.L3.D.tup (F.dec a))[j]? = tY (.tup (F.dec rs[j])):=by rw[ar,ae a2];rfl
   obtain⟨x,hx,ix⟩:=hR.at gi;obtain⟨y,hy,iy⟩:=hR.at gj;obtain⟨u,hu1,ru⟩:=xC rk hx;obtain⟨v,hv1,rv1⟩:=xC rk hy;have e1:ks.getD i Value.none=u:=by rw[aa,hu1];rfl
   have e2:ks.getD j Value.none=v:=by rw[aa,hv1];rfl
   have e3:rs.getD i F.d0=rs[i]:=by rw[aa,ae a1];rfl
   have e4:rs.getD j F.d0=rs[j]:=by rw[aa,ae a2];rfl
   unfold fV;rw[e1,e2];refine zak I' hu ix iy ru rv1 (FO.ok _ _) (FO.dp _) (λhb=>?_) ?_
   ·obtain⟨d,r,ed,hd⟩:=FO.sh rs[i];obtain⟨d',r',ed',hd'⟩:=FO.sh rs[j];rcases hd with ⟨_,n,rfl⟩ | ⟨z,_⟩
    ·rcases hd' with ⟨_,n',rfl⟩ | ⟨z,_⟩
     ·exact#[#[n,r,ed],n',r',ed']
     ·rw[hb]at z;cases z
    ·rw[hb]at z;cases z
   ·rw[FO.eq,<- e3,<- e4];exact hC s' I'
end
def uz(kc:V->Hp->VK->Prop):List V->List V->Hp->(List V->Hp->Prop)->Prop
 | [],Ae,H,Q=>Q Ae H
 | x::xs,Ae,H,Q=>kc x H (λk H'=>uz kc xs (Ae ++ [k]) H' Q)
section
variable{X:Cx}{Ac:List (pX × rF)}{σ:L2.St}{H:Hp}{s:pZ}
theorem zbc{α:Type}{F:KeyFam α}(FO:F.Ok){k:Nat}{q:pX}{kc:V->Hp->VK->Prop}(hr:Room (k+2) X.A)
  (hkc:∀(pins':List (pX × rF)) (s:pZ) (H:Hp) (x:V) (u:pY) (Q:VK),Inv X pins' σ H s->RelV x u->kc x H Q->rd (model X.prog X.w) X.A.in1.in1 (call (.ref q) [u]) (EP X pins' σ Q) (λ_ _=>False) s)
  {D kS:pX} {e1:Nat} {its:List pY} {xs:List V} {E:pY->pZ->Prop} {P:PySem.Fin->pZ->Prop} {Q:VK}
  (I:Inv X ((Ac ++ [(D,rz "list" #[] e1)]) ++ [(kS,rz "list" #[] 0)]) σ H s)
  (hD:X.s₀.heap.objs.size<=D) (hK:X.s₀.heap.objs.size<=kS) (nD:∀p ∈ X.pn ++ Ac,p.1≠D) (nK:∀p ∈ X.pn ++ (Ac ++ [(D,rz "list" #[] e1)]),p.1≠kS)
  (rv:Vals xs its) (hz:its.length<64)
  (ht:uz kc xs [] H (Ve X.K F xs Q))
  (hP:∀s',EP X Ac σ Q (.ref D) s'->P (.done (.ret .none)) s') :
  rd (model X.prog X.w) X.A.in1.in1 (ksk_rest D (.ref q) Ab its.toArray e1 (.ref kS)) P E s:=by
 unfold ksk_rest;refine pQ (tR ?_);rw[List.forIn_toArray]
 refine pQ (ksk_fold (λj s'=>∃Ae ks e H',Inv X ((Ac ++ [(D,rz "list" #[] e1)]) ++ [(kS,rz "list" (be ks) e)]) σ H' s'/\Vals Ae ks/\ks.length=j/\uz kc (xs.drop j) Ae H' (Ve X.K F xs Q))
  its 0 s #[[],[],0,H,I,.nil,rfl,ht] (λj x s1 hx hJ=>?_) λs1 hJ=>?_)
 ·obtain⟨Ae,ks,e,H1,I1,rk,hkl,tk⟩:=hJ;rw[eF]at hkl tk;have hjl:j<its.length:=(Af.mp hx).1;have L3:=rv.length;obtain⟨u,hu,ru⟩:=xC rv (j:=j) (x:=xs[j]) (ae ⋯);rw[hx]at hu;cases hu;rw[aS ⋯]at tk;refine pQ (tz (rS (hkc _ _ _ _ _ _ I1 ru tk) (λkv s2 hk=>?_) λ_ _ z=>z.elim));obtain⟨v,H2,I2,rv2,tk2⟩:=hk;have pk:=Inv.at_pin I2;have sb:=Heap.SameBut.update s2.heap kS (Obj.mapSeq (·.push kv));have ea:(be ks).push kv=be (ks ++ [kv]):=by simp
  obtain⟨c2,hc2⟩:∃c2,(s2.heap.update kS (Obj.mapSeq (·.push kv))).get? kS=tY (rz "list" (be (ks ++ [kv])) c2):=#[_,by rw[<- ea];exact get?_update_seq pk (·.push kv)];have I3:=Inv.repin I2 hK nK sb hc2 xG
  (try dsimp only)
  refine pQ (listUpdate_at pk rfl ?_ (by rw[aj,rE];lia) (by rw[Array.size_push,aj,rE];lia));refine pR #[rfl,Ae ++ [v],ks ++ [kv],c2,H2,I3,rk.append (.cons rv2 .nil),by rw[ak,e7,hkl];lia,?_];rw[eF];exact tk2
 ·obtain⟨Ae,ks,e,H1,I1,rk,hkl,tk⟩:=hJ;rw[eF]at hkl tk;have L3:=rv.length;rw[<- L3,eE]at tk;obtain⟨rs,hR,hq⟩:=tk
  (try dsimp only)
  refine pQ (listItems_at (Inv.at_pin I1) rfl ?_);refine zd1 FO (by have:=hr.in1.in1.un;lia) I1 hD hK nD nK rk rv hkl hz hR λs' ys out c p1 p3 p4 I'=>hP s' ?_;have fp:=Inv.fp_of_pin I' hD nD;refine#[.ref D,_,Inv.track I'.unpinned (a:=D) (o:=.lst (ys.map (·.2))) fp #[?_,out,c,p3,Inv.at_pin I'],rfl,hq ys p1 D fp.1];rw[p3.length,rE];lia
theorem QF{α:Type}{F:KeyFam α}(FO:F.Ok){k:Nat}{q l:pX}{xs:List V}{kc:V->Hp->VK->Prop}{Q:VK}(hr:Room (k+2) X.A)
  (hkc:∀(pins':List (pX × rF)) (s:pZ) (H:Hp) (x:V) (u:pY) (Q:VK),Inv X pins' σ H s->RelV x u->kc x H Q->rd (model X.prog X.w) X.A.in1.in1 (call (.ref q) [u]) (EP X pins' σ Q) (λ_ _=>False) s)
  (I:Inv X Ac σ H s) (hS:SqL X.K H l xs) (hz:xs.length<64) (ht:uz kc xs [] H (Ve X.K F xs Q)) :
  rd (model X.prog X.w) X.A (call (.builtin "sorted") [.ref l] [(bW "key",.ref q)]) (EP X Ac σ Q) X.xe s:=by
 obtain⟨its,rv,pl,_⟩:=I.list hS;have hlen:=rv.length;refine call_function_entry_kw kind_sorted plain_sorted entry_sorted (ksk_s1 _ _) ?_;unfold Builtin.«sorted»;refine pQ (m:=checkCount "sorted" 1 1 _) (pR ?_);refine pQ (collect_list pl.isList ?_ (by rw[rE];lia));refine pQ (tw ?_ (by rw[rE];lia));generalize hh1:((s.heap.push (rz "list" #[] 0)).update s⁻¹ (Obj.mapSeq (· ++ its.toArray)))=h1;have sz1:h1.objs.size=s⁻¹+1:=by rw[<- hh1,dn,size_push']
 have kp1:∀b o,s.heap.get? b=tY o->h1.get? b=tY o:=λb o e=>by
  have hlt:b<s⁻¹:=aq e;rw[<- hh1,Heap.get?_update_ne _ _ _ _ (ay hlt),Heap.get?_push_ne _ _ _ (ay hlt)];exact e
 have hoL:(h1.push (rz "list" its.toArray 0)).get? h1.objs.size=tY (rz "list" its.toArray 0):=aG _ rfl;show rd _ _ _ _ _ { s with heap:=h1.push (rz "list" its.toArray 0) };refine pQ (rG (wpAny_call_entry_kw slot_list_sort #[_,hoL,rfl] entry_list_sort ?body (ksk_l1 _ _)));show rd _ _ (Builtin.«list.sort» #[[.ref h1.objs.size],[(bW "key",.ref q)]]) _ _ _;rw[ksk_t1];generalize hh2:h1.push (rz "list" its.toArray 0)=h2 at hoL;have sz2:h2.objs.size=h1.objs.size+1:=by rw[<- hh2,size_push']
 have kp2:∀b o,s.heap.get? b=tY o->h2.get? b=tY o:=λb o e=>by rw[<- hh2];exact ah _ (kp1 b o e)
 generalize hDD:h1.objs.size=D at hoL;obtain⟨e1,ho1⟩:∃e1,(h2.update D (Obj.mapSeq λ_=>(#[]:Array pY))).get? D=tY (rz "list" #[] e1):=#[_,get?_update_seq hoL λ_=>#[]];have hDs:s⁻¹<=D:=by rw[<- hDD,sz1];exact cj _
 have sb:=Heap.SameBut.update h2 D (Obj.mapSeq λ_=>(#[]:Array pY));unfold ksk_tree;refine pQ (listItems_at hoL rfl ?_);refine pQ (listUpdate_at hoL rfl ?_ (by rw[aj,rE];lia) (aD _));refine pQ (seqEpoch_at ho1 rfl ?_);refine pQ (wpAny_newTuple ?_ (by show its.length<=_;rw[rE];lia));refine pQ (tw ?_ (aD _));refine rG ?_;generalize hh3:(h2.update D (Obj.mapSeq λ_=>(#[]:Array pY))).push (rz "tuple" its.toArray 0)=h3;have sz3:h3.objs.size=s⁻¹+3:=by rw[<- hh3,size_push',dn,sz2,sz1]
 have hoK:(h3.push (rz "list" #[] 0)).get? h3.objs.size=tY (rz "list" #[] 0):=aG _ rfl;have hoD:(h3.push (rz "list" #[] 0)).get? D=tY (rz "list" #[] e1):=ah _ (by rw[<- hh3];exact ah _ ho1)
 have kp3:∀b o,s.heap.get? b=tY o->(h3.push (rz "list" #[] 0)).get? b=tY o:=λb o e=>by
  have hlt:b<s⁻¹:=aq e;refine ah _ ?_;rw[<- hh3];exact ah _ ((sb.2 b (ay (av hlt hDs))).trans (kp2 b o e))
 have I1:Inv X Ac σ H { s with heap:=h3.push (rz "list" #[] 0) }:=I.kept (t':=s.toks) kp3;have fD:xU X Ac H D:=I.fpOk ⋯ (I.hok.fresh ⋯);have fK:xU X Ac H h3.objs.size:=I.fpOk ⋯ (I.hok.fresh ⋯);have I2:=Inv.newpin I1 fD hoD xG
 have nK:∀p ∈ X.pn ++ (Ac ++ [(D,rz "list" #[] e1)]),p.1≠h3.objs.size:=λp hp=>by
  rcases Ai.mp hp with z | z
  ·exact fK.2.2.2.2.2 p (bn _ z)
  ·rcases Ai.mp z with z | z
   ·exact fK.2.2.2.2.2 p (aA _ z)
   ·have e:p=(D,rz "list" #[] e1):=by simpa using z
    subst e;show D≠_;lia
 have I3:=Inv.newpin I2 (b:=h3.objs.size) #[fK.1,fK.2.1,fK.2.2.1,fK.2.2.2.1,fK.2.2.2.2.1,nK] hoK xG;have hsz:=I.sz;have hK0:X.s₀.heap.objs.size<=h3.objs.size:=⋯;exact zbc FO hr hkc I3 ⋯ hK0 fD.2.2.2.2.2 nK rv ⋯ ht λs' hE=>#[_,rfl,pR #[_,rfl,hE]]
end
noncomputable def U7(X:Cx)(N:List re)(s:pZ)(H:Hp)(qual:re)(scope:rL)(f:pX)(cd:pY)(cl:List (re × pX)):Cx where
 prog:=X.prog
 w:=X.w
 K:=X.K
 mg:=X.mg
 base:=X.base
 A:=X.A.in1.in1.deeper (eG qual scope s⁻¹ f cd cl)
 N:=N
 s₀:=s
 H₀:=H
 env:=eG qual scope s⁻¹ f cd cl
 outer:=X.stack
 stack:=eG qual scope s⁻¹ f cd cl::X.stack
 ex:=[]
 calm:=Aa
 fn:=λ_=>Ab
 pn:=[]
 xe:=λ_ _=>False
structure zaq(p y:re)(scope:rL):Prop where
 kind:scope.kind=.function
 co:scope.isCoroutine=Ab
 gen:scope.isGenerator=Ab
 nocell:∀z ∈ scope.names,z.2≠.cell
 par:scope.names.lookup p=tY .local
 fre:scope.names.lookup y=tY .free
 one:∀q ∈ scope.names,q.2=.free->q.1=y
 ne:p≠y
section
variable{X:Cx}{Ac:List (pX × rF)}{σ:L2.St}{H:Hp}{s:pZ}{p y name qual:re}{scope:rL}{params:si}{body:rh}{f c' c:pX}{pm ctv cv:pY}{k iy:Nat}{vy x:V}{u:pY}{Q:VK}{t:TE}
theorem zbM(S:zaq p y scope)(hd:X.A.in1.in1.handled=tZ)(I:Inv X Ac σ H s)(hy:X.N[iy]? = tY y)(hσ:σ[iy]? = tY (tY vy))(hvis:X.env.scope.names.lookup y=tY .cell)(hc:X.env.cells.lookup y=tY c)(rx:RelV x u){h₁:rj}{tk:Nat}
  (hns:h₁.Ns s⁻¹ (λz=>[(p,u)].reverse.lookup z)) (hk₁:∀b o,s.heap.get? b=tY o->h₁.get? b=tY o) :
  Inv (U7 X [p,y] s H qual scope f cv [(y,c)]) [] [tY x,tY vy] H { s with heap:=h₁,toks:=tk }:=by
 obtain⟨m,hn,hl⟩:=I.loc;obtain⟨uy,ry,lk⟩:=hl iy y vy hy hσ (.inr (.inl hvis))
 have hcell:s.heap.IsCell c (tY uy):=by
  rcases lk with ⟨z,_⟩ | ⟨_,c2,e2,z⟩
  ·have z':X.env.scope.names.lookup y=tY .local:=z;rw[hvis]at z';cases z'
  ·rw[hc]at e2;cases e2;exact z
 have hcell':h₁.IsCell c (tY uy):=by
  obtain⟨o,e,d⟩:=hcell;exact#[o,hk₁ _ _ e,d]
 have e0:=I.env0;have noA:∀b:pX,b ∉ (U7 X [p,y] s H qual scope f cv [(y,c)]).ex:=λb z=>absurd (show b ∈ ([]:List pX)from z) (by simp)
 have lkc:∀z d,bo z [(y,c)]=tY d->z=y/\d=c:=λz d h=>by
  rw[aU]at h;by_cases hz:(z == y)=Aa
  ·rw[hz]at h;cases h;exact#[by simpa using hz,rfl]
  ·rw[show (z == y)=Ab by simpa using hz]at h;cases h
 have lky:bo y [(y,c)]=tY c:=by rw[aU];simp
 refine#[#[e0.mod,S.kind,rfl,rfl,al _,λz z' d h1 h2=>?_,λz hz=>?_,λz d h _=>?_,λ_=>hd,Around.frames_deeper e0.frames,.inr #[rfl,rfl],λb z=>absurd z (noA b),e0.bs,e0.bsz,λb _ _=>noA b,λb z=>absurd z (noA b),e0.funs,e0.frf],
  rfl,e0.bare,Un.kept hk₁,#[_,hns,λi z v h1 h2 h3=>?_],λz d h=>?_,e0.hok.fresh (al _),λz d h=>?_,λq hq=>absurd (show q ∈ ([]:List (pX × rF))from hq) (by simp),e0.hok.kept hk₁,rfl]
 ·rw[(lkc _ _ h1).1,(lkc _ _ h2).1]
 ·have hz':scope.names.lookup z=tY .cell\/scope.names.lookup z=tY .free:=hz;rcases hz' with hz' | hz'
  ·exact absurd rfl (S.nocell _ (bK hz'))
  ·rw[show z=y from S.one _ (bK hz') rfl];exact#[c,lky]
 ·exact absurd (show (Ab:Bool)=Aa from h) ∅
 ·match i,h1,h2 with
  | 0,h1,h2 =>
   cases h1;cases h2;refine#[u,rx,.inl #[S.par,?_]];show bo p [(p,u)].reverse=tY u;simp [bo]
  | 1,h1,h2 =>
   cases h1;cases h2;exact#[uy,ry,.inr #[.inr S.fre,c,lky,hcell']]
  | i+2,h1,h2=>simp at h2
 ·obtain⟨_,rfl⟩:=lkc z d h;exact#[_,hcell']
 ·obtain⟨_,rfl⟩:=lkc z d h;exact I.freeC y _ hc
theorem Jd(S:zaq p y scope)(hr:Room (k+3) X.A)(hbind:bindArgs (bR name qual params body scope [(y,c)] pm cv ctv) #[[u],[]]=pure [(p,u)])(I:Inv X Ac σ H s)
  (ho:s.heap.get? f=tY { cls:=.type "function",data:=.func (bR name qual params body scope [(y,c)] pm cv ctv) }) (hcd:s.heap.CodeRec cv qual) (hy:X.N[iy]? = tY y) (hσ:σ[iy]? = tY (tY vy)) (hvis:X.env.scope.names.lookup y=tY .cell) (hc:X.env.cells.lookup y=tY c)
  (rx:RelV x u) (hb:PE (U7 X [p,y] s H qual scope f cv [(y,c)]) body t) (h:t [tY x,tY vy] H Q) :
  rd (model X.prog X.w) X.A.in1.in1 (call (.ref f) [u]) (EP X Ac σ Q) (λ_ _=>False) s:=by
 have hr2:Room (k+1) X.A.in1.in1:=hr.in1.in1;refine rV (PySem.W.kla_callFunE hr2.depth ho rfl S.co S.gen rfl hcd ?_);rw[hbind];refine pR (sS S.nocell (λz hz=>?_) (λh₁ hns hsb=>?_) S.kind)
 ·have e:z=(p,u):=by simpa using hz
  subst e;exact S.par
 have hk₁:∀b o,s.heap.get? b=tY o->h₁.get? b=tY o:=λb o e=>hsb.extBut b o (ay (aq e)) (ah _ e);refine#[I.nolimit.keeps hk₁,?_];have I1:=zbM (qual:=qual) (f:=f) (cv:=cv) (tk:=s.toks+1) S hr2.hd I hy hσ hvis hc rx hns hk₁;show rY _ _ (.expr body (eG qual scope s⁻¹ f cv [(y,c)])) _ _;refine PySem.W.kla_codeExpr (rS (hb [] _ _ H Q I1 h) (λv s' hv=>?_) λ_ _ z=>False.elim z);obtain⟨w',H',J,rw',q⟩:=hv;exact I.after #[w',H',J.os,J.bare,J.base,J.hok,rw',q]
end
noncomputable def cdE(c':pX)(q:re):HO:=.ext λh=>h.CodeRec (.ref c') q
noncomputable def fnE(f:pX)(o:rF):HO:=.ext λh=>h.get? f=tY o
def TabOk(H:Hp)(P:pX)(pos:rP)(q:re):Prop :=
 ∃ps:Array pY,H P=tY (.tbl ps)/\tU ps.toList/\(codeAmong pos ps.toList=tZ\/∃c',codeAmong pos ps.toList=tY (.ref c')/\H c'=tY (cdE c' q))
def SamT(P:pX)(H H':Hp):Prop:=∀b o,b≠P->H b=tY o->H' b=tY o
def LamAt(H:Hp)(f:pX)(name qual:re)(params:si)(body:rh)(scope:rL)(cl:List (re × pX)):Prop :=
 ∃(c':pX) (pm ctv:pY),H c'=tY (cdE c' qual)/\H f=tY (fnE f { cls:=.type "function",data:=.func (bR name qual params body scope cl pm (.ref c') ctv) })
theorem zcL{P:rb}{w:rf}{H:Hp}{h:rj}{c':pX}{q:re}(x:h.CodeRec (.ref c') q):ObjOk P w H h c' (cdE c' q):=by
 refine#[x,?_,λh1 h2 a k=>?_]
 ·obtain⟨c,o,vs,t,e,g,_⟩:=x;cases e;exact#[o,g]
 ·obtain⟨c,o,vs,t,e,g,r⟩:=a;cases e;exact#[_,o,vs,t,rfl,k o g,r]
theorem Kq{P:rb}{w:rf}{H:Hp}{h:rj}{f:pX}{o:rF}(x:h.get? f=tY o):ObjOk P w H h f (fnE f o) :=
 #[x,#[o,x],λh1 h2 a k=>k o a]
section
variable{X:Cx}{Ac:List (pX × rF)}{σ:L2.St}{H:Hp}{s:pZ}
theorem Inv.grow{P c' f:pX}{ps more:Array pY}{o:rF}{q:re}{h':rj}{tk:Nat}(I:Inv X Ac σ H s)(hP:H P=tY (.tbl ps))(hk:∀b u,b≠P->s.heap.get? b=tY u->h'.get? b=tY u)(hP':h'.get? P=tY { cls:=.none,data:=.fields (ps ++ more) })
  (hc:s⁻¹<=c') (hf:s⁻¹<=f) (hcf:c'≠f) (hcr:h'.CodeRec (.ref c') q) (hfo:h'.get? f=tY o) :
  Inv X Ac σ (upd (upd (upd H P (.tbl (ps ++ more))) c' (cdE c' q)) f (fnE f o)) { s with heap:=h',toks:=tk }:=by
 have Pl:P<s⁻¹:=I.hok.lt hP;have hPc:P≠c':=ay (av Pl hc);have hPf:P≠f:=ay (av Pl hf)
 have old:∀b,b<s⁻¹->b≠P->(upd (upd (upd H P (.tbl (ps ++ more))) c' (cdE c' q)) f (fnE f o)) b=H b:=λb hb hbP=>by
  rw[zp (ay (av hb hf)),zp (ay (av hb hc)),zp hbP]
 have atP:(upd (upd (upd H P (.tbl (ps ++ more))) c' (cdE c' q)) f (fnE f o)) P=tY (.tbl (ps ++ more)):=by
  rw[zp hPf,zp hPc,zf]
 have neP:∀b,H b=tZ->b≠P:=λb e z=>by rw[z,hP]at e;cases e
 refine I.un #[λb u e n _ _=>hk b u (neP b n) e,λb u e n _ _=>#[u.slots,hk b u (neP b n) e],λb u e n _=>?_,λb u e _=>?_,λb xs e=>?_,λb ob u e=>?_,λb qs e=>?_] λb u e=>?_
 ·rw[old b (aq e) (neP b n)];exact n
 ·by_cases hb:b=P
  ·subst hb;exact#[_,hP']
  ·exact#[u,hk b u hb e]
 ·rw[old b (I.hok.lt e) (λz=>by rw[z,hP]at e;cases e)];exact e
 ·rw[old b (I.hok.lt e) (λz=>by rw[z,hP]at e;cases e)];exact e
 ·by_cases hb:b=P
  ·subst hb;rw[hP]at e;cases e;exact#[more,atP]
  ·rw[old b (I.hok.lt e) hb];exact#[#[],by rw[e];simp]
 ·by_cases hbf:b=f
  ·subst hbf;rw[zf]at e;cases e;exact Kq hfo
  ·rw[zp hbf]at e;by_cases hbc:b=c'
   ·subst hbc;rw[zf]at e;cases e;exact zcL hcr
   ·rw[zp hbc]at e;by_cases hbP:b=P
    ·subst hbP;rw[zf]at e;cases e;exact hP'
    ·rw[zp hbP]at e;refine (I.hok b u e).stay (λd v hd g=>hk d v ?_ g) (λd g=>?_) λd xs g=>?_
     ·rcases hd with z | z
      ·rw[z];exact hbP
      ·intro z';rw[z',hP]at z;cases z
     ·rw[old d (I.hok.lt g) (λz=>by rw[z,hP]at g;cases g)];exact g
     ·rw[old d (I.hok.lt g) (λz=>by rw[z,hP]at g;cases g)];exact g
end
theorem uF{a b:Int}{v:pY}:∀(l:List pY),tU l->tU (l ++ [rawInt a,rawInt b,v])
 | [],_=>trivial
 | .int _ _::.int _ _::_::rest,h=>uF rest h
theorem ZJ{h h':rj}{mg:re->Option pY}{T:pX}(x:h.BuiltinsAt mg T)(k:∀b o,h.get? b=tY o->h'.get? b=tY o):h'.BuiltinsAt mg T:=by
 obtain⟨bm,o,b1,b2,b3,b4,b5,b6⟩:=x;exact#[bm,o,b1,b2,b3,b4,k _ _ b5,b6]
section
variable{X:Cx}{Ac:List (pX × rF)}{σ:L2.St}{H:Hp}{s:pZ}{cc P c:pX}{y:re}{params:si}{body:rh}{scope:rL}{pos:rP}{Q:VK}
theorem JT(hcode:X.env.code=.ref cc)(hC:PySem.W.CodeHd X.base cc P)(hB:X.base.BuiltinsAt X.mg P)(hgP:pS≠P)(hcl:closureFor scope X.env=pure [(y,c)])(hdef:defaultsOf params X.env=([],[]))(I:Inv X Ac σ H s)
  (hT:TabOk H P pos (X.env.qual ++ "<lambda>"))
  (h:∀f H',H f=tZ->LamAt H' f "<lambda>" (X.env.qual ++ "<lambda>") params body scope [(y,c)]->TabOk H' P pos (X.env.qual ++ "<lambda>")->SamT P H H'->Q (.ref f) H') :
  rd (model X.prog X.w) X.A (eval (.Lambda params body scope pos) X.env) (EP X Ac σ Q) X.xe s:=by
 refine PySem.W.kla_eval hdef ?_;obtain⟨ps,hP,ht,hh⟩:=hT;have hPo:s.heap.get? P=tY (PySem.W.tabObj ps):=I.hok _ _ hP;have hg:=I.mod.glob.keeps I.bk;have Pl:P<s⁻¹:=I.hok.lt hP;rcases hh with hn | ⟨c',hit,hc'⟩
 ·refine PySem.W.kla_makeFunction (mg:=X.mg) hcl I.ok.glob hg hcode (hC.keeps I.bk) hPo ht hn hgP (ZJ hB I.bk) λc' ctv h' tk hx hge hlt hrec htb=>?_;have hsz:s⁻¹<=h'.objs.size:=db (cJ hge hlt)
  have I1:=Inv.grow (P:=P) (c':=c') (f:=h'.objs.size) (more:=(List.toArray [rawInt pos.line,rawInt pos.col,.ref c'])) (tk:=tk) (o:={ cls:=.type "function",data:=.func (bR "<lambda>" (X.env.qual ++ "<lambda>") params body scope [(y,c)] ((X.mg "__name__").getD .none) (.ref c') ctv) }) I hP
   (λb u hb e=>ah _ (hx b u hb e)) (ah _ htb) hge hsz (ay hlt) (hrec.push _) (aG _ rfl)
  have hPc:P≠c':=ay (av Pl hge);have hPf:P≠h'.objs.size:=ay (av Pl hsz)
  have atc:(upd (upd (upd H P (.tbl (ps ++ (List.toArray [rawInt pos.line,rawInt pos.col,.ref c'])))) c' (cdE c' (X.env.qual ++ "<lambda>"))) h'.objs.size (fnE h'.objs.size { cls:=.type "function",data:=.func (bR "<lambda>" (X.env.qual ++ "<lambda>") params body scope [(y,c)] ((X.mg "__name__").getD .none) (.ref c') ctv) })) c'=tY (cdE c' (X.env.qual ++ "<lambda>")):=by
   rw[zp (ay hlt),zf]
  refine#[.ref h'.objs.size,_,I1,rfl,h _ _ (I.hok.fresh hsz) #[c',_,ctv,atc,zf] #[ps ++ (List.toArray [rawInt pos.line,rawInt pos.col,.ref c']),?_,?_,.inr #[c',?_,atc]] λb o hb e=>?_]
  ·rw[zp hPf,zp hPc,zf]
  ·rw[fA];exact uF _ ht
  ·rw[fA];exact codeAmong_snoc _ ht hn
  ·have hl:=I.hok.lt e;rw[zp (ay (av hl hsz)),zp (ay (av hl hge)),zp hb];exact e
 ·refine PySem.W.kla_makeFunctionHit (mg:=X.mg) hcl I.ok.glob hg hcode (hC.keeps I.bk) hPo ht hit (ZJ hB I.bk) λctv h' tk hk hsz=>?_;have hfr:H h'.objs.size=tZ:=I.hok.fresh hsz
  have I1:=I.laid (a:=h'.objs.size) (t':=tk) (h':=h'.push { cls:=.type "function",data:=.func (bR "<lambda>" (X.env.qual ++ "<lambda>") params body scope [(y,c)] ((X.mg "__name__").getD .none) (.ref c') ctv) })
   (o:=fnE h'.objs.size { cls:=.type "function",data:=.func (bR "<lambda>" (X.env.qual ++ "<lambda>") params body scope [(y,c)] ((X.mg "__name__").getD .none) (.ref c') ctv) })
   (λb u e=>ah _ (hk b u e)) hsz (Kq (aG _ rfl))
  have sm:=ze (o:=fnE h'.objs.size { cls:=.type "function",data:=.func (bR "<lambda>" (X.env.qual ++ "<lambda>") params body scope [(y,c)] ((X.mg "__name__").getD .none) (.ref c') ctv) }) hfr;exact#[.ref h'.objs.size,_,I1,rfl,h _ _ hfr #[c',_,ctv,sm _ _ hc',zf] #[ps,sm _ _ hP,ht,.inr #[c',hit,sm _ _ hc']] λb o _ e=>sm _ _ e]
end
def zdP(R:V->Hp->Prop):List V->Hp->Prop
 | [v],H=>R v H
 | _,_=>False
theorem US{R:V->Hp->Prop}:∀{vs:List V} {H:Hp},zdP R vs H->∃v,vs=[v]/\R v H
 | [v],_,h=>#[v,rfl,h]
def ze8(P:pX)(pos:rP)(q:re)(LA:Hp->pX->Prop):TE:=λσ H Q=>TabOk H P pos q/\∀f H',H f=tZ->LA H' f->TabOk H' P pos q->SamT P H H'->Q (.ref f) H'
def KA{α:Type}(K:pW)(F:KeyFam α)(P:pX)(pos:rP)(q:re)(LA:Hp->pX->Prop)(iy:Nat)(te tb:TE):TE:=λσ H Q=>te σ H λv H1=>TabOk H1 P pos q /\
 ∀f H2,H1 f=tZ->LA H2 f->TabOk H2 P pos q->SamT P H1 H2->∃l xs vy,v=.ref l/\SqL K H2 l xs/\xs.length<64/\σ[iy]? = tY (tY vy)/\uz (λx H Q=>LA H f/\tb [tY x,tY vy] H Q) xs [] H2 (Ve K F xs Q)
section
variable{X:Cx}{cc P c:pX}{x p y:re}{params:si}{body e:rh}{scope:rL}{lpos kpos pos pp:rP}{k iy:Nat}{te tb:TE}
theorem zc0(hcode:X.env.code=.ref cc)(hC:PySem.W.CodeHd X.base cc P)(hB:X.base.BuiltinsAt X.mg P)(hgP:pS≠P)(hcl:closureFor scope X.env=pure [(y,c)])(hdef:defaultsOf params X.env=([],[])) :
  PE X (.Lambda params body scope lpos) (ze8 P lpos (X.env.qual ++ "<lambda>") λH f=>LamAt H f "<lambda>" (X.env.qual ++ "<lambda>") params body scope [(y,c)]):=by
 intro Ac s σ H Q I h;exact JT hcode hC hB hgP hcl hdef I h.1 h.2
theorem Kl{α:Type}{F:KeyFam α}(FO:F.Ok)(S:zaq p y scope)(hr:Room (k+3) X.A)(hg:Gl X x)(hm:X.mg x=tZ)(hv:rH x=tY (.builtin "sorted"))(ha:PA X [e] (zM te xM))
  (hcode:X.env.code=.ref cc) (hC:PySem.W.CodeHd X.base cc P) (hB:X.base.BuiltinsAt X.mg P) (hgP:pS≠P) (hcl:closureFor scope X.env=pure [(y,c)]) (hdef:defaultsOf params X.env=([],[]))
  (hbind:∀(cv pm ctv u:pY),bindArgs (bR "<lambda>" (X.env.qual ++ "<lambda>") params body scope [(y,c)] pm cv ctv) #[[u],[]]=pure [(p,u)]) (hy:X.N[iy]? = tY y) (hvis:X.env.scope.names.lookup y=tY .cell) (hc:X.env.cells.lookup y=tY c)
  (hb:∀(s:pZ) (H:Hp) (f:pX) (cv:pY),Room k (U7 X [p,y] s H (X.env.qual ++ "<lambda>") scope f cv [(y,c)]).A->PE (U7 X [p,y] s H (X.env.qual ++ "<lambda>") scope f cv [(y,c)]) body tb)
  (hn:x≠"__name__":=by decide) (hdb:(x ==("__debug__" : re))=Ab:=by decide)
  (hks:(rJ pos (rq [#[tY "key",.Lambda params body scope lpos,kpos]] X.env)).filterMap (·.1)=[bW "key"]:=by rfl)
  (hst:rA pos (pT [e] X.env)=(Ab,eval e X.env)::rA pos (pT [] X.env):=by rfl) (hpl:(rA pos (pT [e] X.env)).any (·.1)=Ab:=by rfl)
  (hall:(rJ pos (rq [#[tY "key",.Lambda params body scope lpos,kpos]] X.env)).all (·.1.isSome)=Aa:=by rfl) (hkw:(rJ pos (rq [#[tY "key",.Lambda params body scope lpos,kpos]] X.env)).any (·.1.isNone)=Ab:=by rfl) :
  PE X (.Call (.Name x pp) [e] [#[tY "key",.Lambda params body scope lpos,kpos]] pos) (KA X.K F P lpos (X.env.qual ++ "<lambda>") (λH f=>LamAt H f "<lambda>" (X.env.qual ++ "<lambda>") params body scope [(y,c)]) iy te tb):=by
 intro Ac s σ H Q I h;have hlam:PE X (.Lambda params body scope lpos) (ze8 P lpos (X.env.qual ++ "<lambda>") λH f=>LamAt H f "<lambda>" (X.env.qual ++ "<lambda>") params body scope [(y,c)]):=zc0 hcode hC hB hgP hcl hdef;refine rD (wf I hg hm hv ?_ hn hdb)
 have h':(zM te xM) σ H (zdP λv H1=>TabOk H1 P lpos (X.env.qual ++ "<lambda>")/\∀f H2,H1 f=tZ->LamAt H2 f "<lambda>" (X.env.qual ++ "<lambda>") params body scope [(y,c)]->TabOk H2 P lpos (X.env.qual ++ "<lambda>")->SamT P H1 H2 ->
   ∃l xs vy,v=.ref l/\SqL X.K H2 l xs/\xs.length<64/\σ[iy]? = tY (tY vy)/\uz (λx H Q=>LamAt H f "<lambda>" (X.env.qual ++ "<lambda>") params body scope [(y,c)]/\tb [tY x,tY vy] H Q) xs [] H2 (Ve X.K F xs Q)):=h
 refine callWith_kw (thn (ha pos Ac s σ H _ I h') λus s1 ⟨vs,H1,I1,r1,q1⟩=>?_) hst hpl hall hkw;obtain⟨v,rfl,hT,q1⟩:=US q1;obtain⟨u,rfl,ru⟩:=wg r1
 refine thn ((U8 hlam K8:PK X [#[tY "key",.Lambda params body scope lpos,kpos]] _) pos Ac s1 σ H1 (zdP λkv H2=>∃f,kv=.ref f/\LamAt H2 f "<lambda>" (X.env.qual ++ "<lambda>") params body scope [(y,c)] /\
   ∃l xs vy,v=.ref l/\SqL X.K H2 l xs/\xs.length<64/\σ[iy]? = tY (tY vy)/\uz (λx H Q=>LamAt H f "<lambda>" (X.env.qual ++ "<lambda>") params body scope [(y,c)]/\tb [tY x,tY vy] H Q) xs [] H2 (Ve X.K F xs Q)) I1 #[hT,λf H2 a1 a2 a3 a4=>#[f,rfl,a2,q1 f H2 a1 a2 a3 a4]]) λws s2 ⟨zs,H2,I2,r2,q2⟩=>?_
 obtain⟨kv,rfl,f,rfl,hLA,l,xs,vy,rfl,hS,hz,hσ,hk⟩:=US q2;obtain⟨w',rfl,rw'⟩:=wg r2;cases rw';cases ru;rw[hks];show rd _ _ (call (.builtin "sorted") [.ref l] [(bW "key",.ref f)]) _ _ _;refine QF FO (k:=k+1) hr (λpins' s3 H3 x3 u3 Q3 I3 r3 h3=>?_) I2 hS hz hk;obtain⟨⟨c',pm,ctv,e1,e2⟩,h4⟩:=h3;have hcd:s3.heap.CodeRec (.ref c') (X.env.qual ++ "<lambda>"):=(I3.hok _ _ e1).1;have ho:=(I3.hok _ _ e2).1;exact Jd (k:=k) S hr (hbind _ _ _ _) I3 ho hcd hy hσ hvis hc r3 (hb s3 H3 f (.ref c') (hr.in1.in1.deeper _)) h4
end
section
variable{K:pW}
theorem SamT.of{T:pX}{H H':Hp}(s:Same H H'):SamT T H H':=λb o _ e=>s b o e
theorem SamT.trans{T:pX}{H H' H'':Hp}(s:SamT T H H')(s':SamT T H' H''):SamT T H H'':=λb o n e=>s' b o n (s b o n e)
theorem SamT.at{T b:pX}{H H':Hp}{ps:Array pY}{o:HO}(s:SamT T H H')(hT:H T=tY (.tbl ps))(e:H b=tY o)(ho:∀qs,o≠.tbl qs):H' b=tY o:=s b o (λz=>by rw[z,hT]at e;cases e;exact ho _ rfl) e
theorem SamT.free{T b:pX}{H H':Hp}{o:HO}(s:SamT T H H')(hT:H' T=tY o)(h:H' b=tZ):H b=tZ:=by
 cases e:H b with
 | none=>rfl
 | some u =>
  by_cases hb:b=T
  ·rw[hb,hT]at h;cases h
  ·rw[s b u hb e]at h;cases h
theorem SamT.seqL{T a:pX}{H H':Hp}{ps:Array pY}{xs:List V}(s:SamT T H H')(hT:H T=tY (.tbl ps))(h:SqL K H a xs):SqL K H' a xs:=by
 rcases h with (h | ⟨o,h⟩) | h
 ·exact .inl (.inl (s.at hT h λ_ z=>by cases z))
 ·exact .inl (.inr #[o,s.at hT h λ_ z=>by cases z])
 ·exact .inr h
theorem SamT.seqT{T a:pX}{H H':Hp}{ps:Array pY}{xs:List V}(s:SamT T H H')(hT:H T=tY (.tbl ps))(h:SqT K H a xs):SqT K H' a xs:=by
 rcases h with (h | ⟨o,h⟩) | h
 ·exact .inl (.inl (s.at hT h λ_ z=>by cases z))
 ·exact .inl (.inr #[o,s.at hT h λ_ z=>by cases z])
 ·exact .inr h
mutual
theorem Is.samT{T:pX}{H H':Hp}{ps:Array pY}(s:SamT T H H')(hT:H T=tY (.tbl ps)):∀(d:D) (v:V),Is K H d v->Is K H' d v
 | .non,v,h=>by erw[Is]at h ⊢;exact h
 | .bl b,v,h=>by erw[Is]at h ⊢;exact h
 | .int b,v,h=>by erw[Is]at h ⊢;exact h
 | .str b,v,h=>by erw[Is]at h ⊢;exact h
 | .lst l,v,h=>by
  erw[Is]at h ⊢
  obtain⟨a,xs,e1,e2,e3⟩:=h;exact#[a,xs,e1,s.seqL hT e2,Iss.samT s hT l xs e3]
 | .tup l,v,h=>by
  erw[Is]at h ⊢
  obtain⟨a,xs,e1,e2,e3⟩:=h;exact#[a,xs,e1,s.seqT hT e2,Iss.samT s hT l xs e3]
theorem Iss.samT{T:pX}{H H':Hp}{ps:Array pY}(s:SamT T H H')(hT:H T=tY (.tbl ps)):∀(l:List D) (vs:List V),Iss K H l vs->Iss K H' l vs
 | [],vs,h=>by erw[Iss]at h ⊢;exact h
 | d::l,vs,h=>by
  erw[Iss]at h ⊢
  obtain⟨v,r,e1,e2,e3⟩:=h;exact#[v,r,e1,Is.samT s hT d v e2,Iss.samT s hT l r e3]
end
theorem LsA.samT{T a:pX}{H H':Hp}{ps:Array pY}{ds:List D}(h:LsA K H a ds)(s:SamT T H H')(hT:H T=tY (.tbl ps)):LsA K H' a ds:=by
 obtain⟨xs,h1,h2⟩:=h;exact#[xs,s.at hT h1 (λ_ z=>by cases z),Iss.samT s hT _ _ h2]
theorem TabOk.same{H H':Hp}{T:pX}{pos:rP}{q:re}(h:TabOk H T pos q)(s:Same H H'):TabOk H' T pos q:=by
 obtain⟨ps,h1,h2,h3⟩:=h;refine#[ps,s _ _ h1,h2,?_];rcases h3 with h3 | ⟨c',h4,h5⟩
 ·exact .inl h3
 ·exact .inr #[c',h4,s _ _ h5]
theorem LamAt.same{H H':Hp}{f:pX}{name qual:re}{params:si}{body:rh}{scope:rL}{cl:List (re × pX)}(h:LamAt H f name qual params body scope cl)(s:Same H H'):LamAt H' f name qual params body scope cl:=by
 obtain⟨c',pm,ctv,h1,h2⟩:=h;exact#[c',pm,ctv,s _ _ h1,s _ _ h2]
end
section
variable{P:rb}{w:rf}{K:pW}{mg mb:re->Option pY}{CX:CXT}{k:Nat}{fa a T cc:pX}{fd:ra}{x:re}{sp:Sp}{s₁:pZ}{vs:List pY}{ns:List Int}{ps:Array pY}
theorem Z2(KX:K.In s₁.heap)(hKT:K.lookup T=tZ)(hT:s₁.heap.get? T=tY { cls:=.none,data:=.fields ps })(hTc:tN s₁.heap T)(hns:s₁.heap.Ns pS mg)(hb:s₁.heap.Ns builtinsNs mb)(hbb:∀x:re,x≠"__name__"->mb x=rH x)(hlim:s₁.heap.NoLimit)(hg:s₁.gens=#[])
  (ha:s₁.heap.get? a=tY { cls:=.type "list",data:=.seq vs.toArray }) (hr:Room k callerA)
  (hbm:s₁.heap.BuiltinsAt mg T) (hcd:PySem.W.CodeHd s₁.heap cc T) (F:∀base:rj,K.In base->base.Ns pS mg->base.BuiltinsAt mg T->PySem.W.CodeHd base cc T->zR P w K mg base CX k fa fd [x] sp) (hbind:∀(s:pZ) (u:pY),tj s fd #[[u],[]] [(x,u)])
  (hCX:∀H e s',CX [] H s₁ (λ_ _ _=>False) e s'->False) (H:Hp) (h1:H T=tY (.tbl ps)) (h2:∀b u,H b=tY u->b=T\/(b=a/\K.lookup a=tZ/\u=.frz { cls:=.type "list",data:=.seq vs.toArray } (.lst (ns.map V.int))))
  (hok:HOk P w H s₁.heap) (hsp:sp [.ref a] H (λv _=>v=.bl Aa) λ_ _ _=>False) :
  rY (model P w) callerA (.call (.ref fa) #[[.ref a],[]]) (λr s'=>r=.ok (.ret (.bool Aa))/\OldK s₁.heap s'.heap/\s'.os=s₁.os/\sy s'.gens) s₁:=by
 have stay:∀b o,s₁.heap.get? b=tY o->(b≠T)->(b≠a)->(Uc s₁.heap H).get? b=tY o:=λb o e n1 n2=>XJ e (by
  cases q:H b with
  | none=>rfl
  | some u =>
   rcases h2 b u q with z | z
   ·exact absurd z n1
   ·exact absurd z.1 n2)
 have nsStay:∀(b:pX) (m:re->Option pY),s₁.heap.Ns b m->(Uc s₁.heap H).Ns b m:=λb m hN=>by
  obtain⟨o,es,ep,e,d,rest⟩:=hN;refine#[o,es,ep,stay b o e (λz=>?_) (λz=>?_),d,rest]
  ·rw[z,hT]at e;cases e;cases d
  ·rw[z,ha]at e;cases e;cases d
 have kStay:K.In (Uc s₁.heap H):=λb o e=>by
  have g:=KX b o e;refine XJ g ?_
  cases q:H b with
  | none=>rfl
  | some u =>
   rcases h2 b u q with z | z
   ·rw[z,hKT]at e;cases e
   ·rw[z.1,z.2.1]at e;cases e
 have bStay:(Uc s₁.heap H).BuiltinsAt mg T:=by
  obtain⟨bm,o,b1,b2,b3,b4,b5,b6,b7,b8⟩:=hbm;refine#[bm,o,b1,b2,b3,b4,stay bm o b5 b4 (λz=>?_),b6,b7,b8];rw[z,ha]at b5;cases b5;simp at b6
 have cStay:PySem.W.CodeHd (Uc s₁.heap H) cc T:=by
  obtain⟨o,vs',file,tf,flags,tg,inF,text,tt,c1,c2,c3,c4,c5,c6,c7,c8,c9,c10⟩:=hcd;refine#[o,vs',file,tf,flags,tg,inF,text,tt,stay cc o c1 c10 (λz=>?_),c2,c3,c4,c5,c6,c7,c8,c9,c10];rw[z,ha]at c1;cases c1;simp at c2
 obtain⟨mc,l1,l2⟩:=hlim;have M0:Mod K mg (Uc s₁.heap H):={ kin:=kStay,glob:=nsStay _ _ hns,blt:=#[mb,nsStay _ _ hb,hbb],nolimit:=#[mc,nsStay _ _ l1,l2] };have E0:Env0 P w K mg (Uc s₁.heap H) callerA [] s₁ H:={ frames:=rfl,mod:=M0,bs:=λb o e=>za2 e,bsz:=fB (VJ _ _),funs:=trivial,frf:=λb z=>(nomatch (show b ∈ ([]:List pX)from z)),hok:=hok,bare:=.of_eq hg };refine rX ((F _ kStay (nsStay _ _ hns) bStay cStay).run callerA [] s₁ H #[[.ref a],[]] [.ref a] [.ref a] (λv _=>v=.bl Aa) (λ_ _ _=>False) hr E0 (hbind s₁ (.ref a)) (.cons rfl .nil) hsp) λr s' hq=>?_;rcases r with e | fl
 ·exact (hCX H e s' hq).elim
 rcases fl with _ | _ | _ | u
 all_goals first | exact False.elim hq | skip
 obtain⟨v,H',e1,e2,un,hok',rv,ev⟩:=hq;have ev':v=V.bl Aa:=ev;subst ev';have eu:u=Value.bool Aa:=rv;subst eu;obtain⟨more,hT2⟩:=un.tbls T ps h1;have hT3:s'.heap.get? T=tY { cls:=.none,data:=.fields (ps ++ more) }:=hok' T _ hT2
 have each:∀b o,s₁.heap.get? b=tY o->b≠T->s'.heap.get? b=tY o:=λb o e n=>by
  cases q:H b with
  | none=>exact un.keep b o e q (λz=>(nomatch (show b ∈ ([]:List pX)from z))) (λz=>(nomatch z))
  | some ob =>
   rcases h2 b ob q with z | ⟨z,_,zz⟩
   ·exact absurd z n
   ·subst zz;have g:=(hok' b _ (un.frzs b _ _ q)).1;rw[z,ha]at e;cases e;exact g
 refine#[rfl,#[λb o e=>?_,λb o e=>?_],e1,e2]
 ·by_cases hbT:b=T
  ·subst hbT;rw[hT]at e;cases e;exact .inr (.inl #[hTc,rfl,ps,more,rfl,hT3])
  ·exact .inl (each b o e hbT)
 ·by_cases hbT:b=T
  ·subst hbT;exact#[_,hT3]
  ·exact#[o,each b o e hbT]
theorem U6(KX:K.In s₁.heap)(hKT:K.lookup T=tZ)(hT:s₁.heap.get? T=tY { cls:=.none,data:=.fields ps })(hTc:tN s₁.heap T)(hns:s₁.heap.Ns pS mg)(hb:s₁.heap.Ns builtinsNs mb)(hbb:∀x:re,x≠"__name__"->mb x=rH x)(hlim:s₁.heap.NoLimit)(hg:s₁.gens=#[])
  (ha:s₁.heap.get? a=tY { cls:=.type "list",data:=.seq vs.toArray }) (hi:tQ vs ns) (hl:ns.length<=pV) (hr:Room k callerA)
  (hbm:s₁.heap.BuiltinsAt mg T) (hcd:PySem.W.CodeHd s₁.heap cc T) (F:∀base:rj,K.In base->base.Ns pS mg->base.BuiltinsAt mg T->PySem.W.CodeHd base cc T->zR P w K mg base CX k fa fd [x] sp) (hbind:∀(s:pZ) (u:pY),tj s fd #[[u],[]] [(x,u)])
  (hCX:∀H e s',CX [] H s₁ (λ_ _ _=>False) e s'->False) (hsp:∀H:Hp,H T=tY (.tbl ps)->SqL K H a (ns.map V.int)->sp [.ref a] H (λv _=>v=.bl Aa) λ_ _ _=>False) :
  rY (model P w) callerA (.call (.ref fa) #[[.ref a],[]]) (λr s'=>r=.ok (.ret (.bool Aa))/\OldK s₁.heap s'.heap/\s'.os=s₁.os/\sy s'.gens) s₁:=by
 have rv:=ZS hi;have hlv:=hi.length
 have hTa:a≠T:=λz=>by
  rw[z,hT]at ha;cases ha
 rcases hk:K.lookup a with _ | o
 ·refine Z2 (ns:=ns) KX hKT hT hTc hns hb hbb hlim hg ha hr hbm hcd F hbind hCX (upd (upd (λ_=>tZ) T (.tbl ps)) a (.frz { cls:=.type "list",data:=.seq vs.toArray } (.lst (ns.map V.int)))) ?_ (λb u e=>?_) (λb u e=>?_) ?_
  ·rw[zp (Ne.symm hTa),zf]
  ·by_cases hba:b=a
   ·subst hba;rw[zf]at e;cases e;exact .inr #[rfl,hk,rfl]
   ·rw[zp hba]at e;by_cases hbT:b=T
    ·exact .inl hbT
    ·rw[zp hbT]at e;cases e
  ·by_cases hba:b=a
   ·subst hba;rw[zf]at e;cases e;exact#[ha,by rw[ac];exact hl,vs,_,rv,ha]
   ·rw[zp hba]at e;by_cases hbT:b=T
    ·subst hbT;rw[zf]at e;cases e;exact hT
    ·rw[zp hbT]at e;cases e
  ·exact hsp _ (by rw[zp (Ne.symm hTa),zf]) (.inl (.inr #[_,zf]))
 ·have e:=KX a o hk;rw[ha]at e;cases e;refine Z2 (ns:=ns) KX hKT hT hTc hns hb hbb hlim hg ha hr hbm hcd F hbind hCX (upd (λ_=>tZ) T (.tbl ps)) zf (λb u e=>?_) (λb u e=>?_) (hsp _ zf (.inr #[_,vs.toArray,_,hk,rfl,rfl,rfl,by rw[aj,hlv];exact hl,by simpa using rv]))
  ·by_cases hbT:b=T
   ·exact .inl hbT
   ·rw[zp hbT]at e;cases e
  ·by_cases hbT:b=T
   ·subst hbT;rw[zf]at e;cases e;exact hT
   ·rw[zp hbT]at e;cases e
end
noncomputable def zbw(K:pW):Bool:=K.all λp=>match p.2 with
 | ⟨.none,_,.fields _,_⟩=>Ab
 | _=>Aa
theorem XU{T:pX}{o:rF}:∀{K:pW},K.lookup T=tY o->(T,o) ∈ K
 | [],h=>by cases h
 | p::K,h=>by
  rw[aU]at h;by_cases hp:T=p.1
  ·rw[show (T == p.1)=Aa by simpa using hp]at h;cases h;rw[hp];exact aw
  ·rw[show (T == p.1)=Ab by simpa using hp]at h;exact am _ (XU h)
theorem Jp{K:pW}{T:pX}{ps:Array pY}{h:rj}(e:zbw K=Aa)(X:K.In h)(hT:h.get? T=tY { cls:=.none,data:=.fields ps }):K.lookup T=tZ:=by
 cases q:K.lookup T with
 | none=>rfl
 | some o =>
  have g:=X _ _ q;rw[hT]at g;cases g;have:=Ao.mp e _ (XU q);simp at this
theorem walk_ofT{l:PySem.W.OpenLaw}{n k:Nat}{q:rb}{loose:List re}{XP:(re->Option pY)->rj->Prop}{YP:rf->rj->Prop}{d din:DefRec}{K:Params->pW}{CX:rf->CXT}{sp:rf->pX->Sp}{x:re}
  (hn:l.most=tY n) (hn2:n<=pV) (hdf:d.params.defaults=[]) (hr:Room k callerA) (hdin:din ∈ recsOf q)
  (hY:∀(w:rf) (h:rj),YP w h->(K w.params).In h) (hno:∀w:rf,zbw (K w.params)=Aa)
  (F:∀(w:rf) (mg:re->Option pY) (fa:pX) (h:rj) (cc T:pX),(K w.params).In h->h.Ns pS mg->mg d.name=tY (.ref fa)->(∃a o fd,mg din.name=tY (.ref a)/\h.get? a=tY o/\o.data=.func fd/\fd.code=.ref cc)->pS≠T ->
   ∃fd:ra,(∀(s:pZ) (u:pY),tj s fd #[[u],[]] [(x,u)]) /\
    ∀base:rj,(K w.params).In base->base.Ns pS mg->base.BuiltinsAt mg T->PySem.W.CodeHd base cc T->zR l.prog w (K w.params) mg base (CX w) k fa fd [x] (sp w T))
  (hsp:∀(w:rf) (H:Hp) (a:pX) (ns:List Int) (T:pX),ns.length<=n->(∀z ∈ ns,jm z)->H T=tY (.tbl #[])->SqL (K w.params) H a (ns.map V.int)->sp w T [.ref a] H (λv _=>v=.bl Aa) λ_ _ _=>False)
  (hCX:∀(w:rf) (H:Hp) (s:pZ) (e:pY) (s':pZ),CX w [] H s (λ_ _ _=>False) e s'->False) :
  PySem.W.WalkO q loose XP YP l.row.toRowW d [] (λf vs=>fR f vs):=by
 refine ZF hn hdf λw s₀ s₁ mg mb fa o pm cd doc a vs ns G Y ho hd hcd hmg hobj hints hlen hb' hg=>?_;have X0:=hY w _ Y;obtain⟨ai,oi,fdi,cc,T,m1,m2,m3,m4,m5,m6⟩:=G.T.tab din hdin;have hcd':PySem.W.CodeHd s₁.heap cc T:=PySem.W.CodeHd.of m5 m6;have hTo:s₁.heap.get? T=tY { cls:=.none,data:=.fields #[] }:=m6.2;have hTc:tN s₁.heap T:=m6.isCodeTable
 have hgT:pS≠T:=λz=>by
  obtain⟨o,es,ep,e,hd',_⟩:=G.T.g;rw[z,hTo]at e;cases e;cases hd'
 have hbm:s₁.heap.BuiltinsAt mg T:=by
  obtain⟨bm,ob,b1,b2,b3,b4,b5,b6⟩:=G.T.bmain;refine#[bm,ob,b1,b2,λz=>?_,λz=>?_,b3,b4,b5,b6]
  ·obtain⟨o,es,ep,e,hd',_⟩:=G.T.g;rw[z,e]at b3;cases b3;rw[hd']at b6;cases b6
  ·rw[z,hTo]at b3;cases b3;cases b4
 obtain⟨fd,hbd,hF⟩:=F w mg fa _ cc T X0 G.T.g hmg #[ai,oi,fdi,m1,m2,m3,m4] hgT;exact U6 (T:=T) (ps:=#[]) X0 (Jp (hno w) X0 hTo) hTo hTc G.T.g G.T.b G.T.builtins G.T.nolimit hg hobj hints (aK hlen hn2) hr hbm hcd' hF hbd (λH e s'=>hCX w H s₁ e s') λH h1 h2=>hsp w H a ns T hlen hb' h1 h2
theorem zby{P:rb}{w:rf}{K:pW}{mg:re->Option pY}{base:rj}{x qual:re}{st:rn}{f cc:pX}{fd:ra}{N ps:List re}{k:Nat}{sp:Sp}(F:Fun K x qual st f fd)(hcc:fd.code=.ref cc)(S:zl N ps (zh st))(len:∀vs H Q E,sp vs H Q E->vs.length=ps.length)
  (hbody:∀(A:rg) (outer:List sN) (s:pZ) (H:Hp) (vs:List V) (Q:VK) (E:XK),Room k (A.deeper (sw qual (zh st) s⁻¹ f (.ref cc)))->sp vs H Q E ->
   ∃t,PSs (uT CX0 P w K mg base N qual (zh st) f (.ref cc) A outer s H E).nox (ya st) t/\t { nx:=λ_ H'=>Q .non H',rt:=Q } (start N vs) H):zR P w K mg base CX0 (k+1) f fd ps sp:=by
 obtain⟨oc,od,kV,doc,pm,an,cdv,ct,osl,rfl,lk,hcd⟩:=F.ex;have e:cdv=.ref cc:=hcc;subst e;refine JJ lk hcd S len λA outer s H vs Q E hr hsp=>?_;obtain⟨t,h,q⟩:=hbody A outer s H vs Q E hr hsp;exact#[t,h.nox,q]
end L3
namespace L3
section
variable{X:Cx}{Ac:List (pX × rF)}{σ:L2.St}{H:Hp}{s:pZ}{cc P c:pX}{y:re}{params:si}{body:rh}{scope:rL}{pos:rP}{Q:VK}
end
section
variable{X:Cx}{cc P c:pX}{x p y:re}{params:si}{body e:rh}{scope:rL}{lpos kpos pos pp:rP}{k iy:Nat}{te tb:TE}
end
section
variable{P:rb}{w:rf}{K:pW}{mg mb:re->Option pY}{CX:CXT}{k:Nat}{fa a T cc T' cc':pX}{fd:ra}{x:re}{sp:Sp}{s₁:pZ}{vs:List pY}{ns:List Int}
end
end L3
namespace PySem
namespace F
end F
section
variable{prog:rb}{w:rf}{A:rg}{E:pY->pZ->Prop}{s:pZ}
def Heap.IsRevS(h:rj)(a:pX)(x:re)(t:tu)(i:Int):Prop:=∃o,h.get? a=tY o/\o.cls=.type "reversed"/\o.data=.fields (List.toArray [.str x t,rawInt i])
theorem Heap.IsRevS.typeIs{a:pX}{x:re}{t:tu}{i:Int}(z:s.heap.IsRevS a x t i):s.TypeIs (.ref a) "reversed":=let #[o,ho,hc,_]:=z; #[o,ho,hc]
theorem Heap.IsRevS.at{h h':rj}{a:pX}{x:re}{t:tu}{i:Int}(z:h.IsRevS a x t i)(e:∀o,h.get? a=tY o->h'.get? a=tY o):h'.IsRevS a x t i:=let #[o,ho,r]:=z; #[o,e _ ho,r]
end
end PySem
namespace L3
section
variable{X:Cx}{o a:rh}{to:TE}{ta:TA}{apos cpos p pos2:rP}
end
end L3
namespace L2
noncomputable def Itk(lo k:Int)(n:Nat):It:=#[λi _=>i<n,λi H x H'=>H'=H/\x=.int (lo+i * k),λi _=>n<=i]
theorem Xc{P:rb}{w:rf}{K:pW}{tg:rh}(it:pX)(lo k:Int)(n:Nat):JZ P w K tg (Itk lo k n) [it] it (λi h=>sZ h it (lo+(i:Nat) * k) ((n:Int) - (i:Nat)) k) where
 mem:=by simp
 obj:=λi h st b hb=>by
  have e:b=it:=by simpa using hb
  subst e
  exact#[_,st,λv z=>by
   have z':Data.fields _=Data.cell v:=z
   cases z']
 keep:=λi h h' st k=>k it (by simp) _ st
 item:=by
  intro X hP hw hK hc i Ac s σ H E I hf st hg;subst hP hw hK;obtain⟨f0,f1,f2,f3,f4,f5⟩:=hf it (by simp);have W:=Walks.range (prog:=X.prog) (w:=X.w) (I.ok.hd hc) it lo k n;refine W.item i s _ _ hg st λv h' tk hv st' kk=>?_;obtain⟨t,rfl⟩:=hv;have I1:Inv X Ac σ H { s with heap:=h',toks:=tk }:=I.turned (λb o hb e=>kk b o (by simpa using hb) e) f0 f1 f3 f4 f5;exact#[_,rfl,V6 (s:={ s with heap:=h',toks:=tk }) (n:="range_iterator") st' rfl rfl ∅ #[.int (lo+i * k),H,I1,#[t,rfl],#[rfl,rfl],st',λb hb=>(hf b hb).1]]
 done:=by
  intro X hP hw hK hc i Ac s σ H E I hf st hg;subst hP hw hK;obtain⟨f0,f1,f2,f3,f4,f5⟩:=hf it (by simp);exact sI (I.ok.hd hc) st (by have:n<=i:=hg;lia) λh' eb=>#[rfl,I.turned (t':=s.toks) (λb o hb e=>eb b o hb e) f0 f1 f3 f4 f5]
 self:=λ_ _ _ _ _ st h=>sK st h
section
variable{X:Cx}{tg:rh}
theorem zab{i j k:Int}(h1:0<=i)(h2:i<=2 ^ 30)(h3:0<=j)(h4:j<=2 ^ 30)(h5:0<k)(h6:k<2 ^ 30):0<=Builtin.Range.rangeSize i j k/\Builtin.Range.rangeSize i j k<2 ^ 30+1:=by
 unfold Builtin.Range.rangeSize;rw[if_pos h5];split
 ·have a:=Int.ediv_nonneg (a:=j - i - 1) (b:=k) ⋯ ⋯;have b:=Int.ediv_le_self (a:=j - i - 1) k ⋯;lia
 ·lia
theorem zan{i j k:Int}(h1:0<=i)(h2:i<=2 ^ 30)(h3:0<=j)(h4:j<=2 ^ 30)(h5:0<k)(h6:k<2 ^ 30):Builtin.Range.small i j k=Aa:=by
 obtain⟨a,b⟩:=zab h1 h2 h3 h4 h5 h6;unfold Builtin.Range.small
 erw[Builtin.Range.rangeFitsLong,ci,Bool.or_eq_true,decide_eq_true_eq,beq_iff_eq,h5,gt_iff_lt,if_true]
 lia
theorem Uy{Ac:List (pX × rF)}{σ:St}{H:Hp}{s:pZ}{R:It->Hp->Prop}{E:pY->pZ->Prop}{lo hi k:Int}{t u v:tu}{tk:Nat}(I:Inv X Ac σ H s)(h1:0<=lo)(h2:lo<=2 ^ 30)(h3:0<=hi)(h4:hi<=2 ^ 30)(h5:0<k)(h6:k<2 ^ 30)
  (q:R (Itk lo k (Builtin.Range.rangeSize lo hi k).toNat) H):rd (model X.prog X.w) X.A (pyIter (.ref s⁻¹)) (PIE X Ac σ tg R) E { s with heap:=s.heap.push { cls:=.type "range",data:=.fields (List.toArray [.int lo t,.int hi u,.int k v]) },toks:=tk }:=by
 refine tE (IsRange.new ..) (zan h1 h2 h3 h4 h5 h6) ?_;have I1:Inv X Ac σ H { s with heap:=s.heap.push { cls:=.type "range",data:=.fields (List.toArray [.int lo t,.int hi u,.int k v]) },toks:=tk }:=I.kept λb o e=>ah _ e
 refine#[(s.heap.push { cls:=.type "range",data:=.fields (List.toArray [.int lo t,.int hi u,.int k v]) }).objs.size,[(s.heap.push { cls:=.type "range",data:=.fields (List.toArray [.int lo t,.int hi u,.int k v]) }).objs.size],_,_,H,rfl,
  I1.kept (t':=tk) λb o e=>ah _ e,Xc _ lo k (Builtin.Range.rangeSize lo hi k).toNat,?_,λb hb=>?_,q]
 ·have e1:lo+((0:Nat):Int) * k=lo:=by simp
  have e2:(((Builtin.Range.rangeSize lo hi k).toNat:Nat):Int) - ((0:Nat):Int)=Builtin.Range.rangeSize lo hi k:=by have:=(zab h1 h2 h3 h4 h5 h6).1;lia
  show sZ _ _ (lo+((0:Nat):Int) * k) ((((Builtin.Range.rangeSize lo hi k).toNat:Nat):Int) - ((0:Nat):Int)) k;rw[e1,e2];exact aG _ rfl
 ·have e:b=(s.heap.push { cls:=.type "range",data:=.fields (List.toArray [.int lo t,.int hi u,.int k v]) }).objs.size:=by simpa using hb
  subst e;exact I1.fpOk (al _) (I1.hok.fresh (al _))
def zce(ta:TA):TI:=λσ H R=>ta σ H λvs H1=>∃i j k:Int,vs=[.int i,.int j,.int k]/\(0<=i/\i<=2 ^ 30/\0<=j/\j<=2 ^ 30/\0<k/\k<2 ^ 30)/\R (Itk i k (Builtin.Range.rangeSize i j k).toNat) H1
theorem UA{a b c:rh}{ta:TA}{p pos:rP}(hg:Gl X "range")(hm:X.mg "range" = tZ)(ha:PA X [a,b,c] ta)(hs:pT [a,b,c] X.env=[(Ab,eval a X.env),(Ab,eval b X.env),(Ab,eval c X.env)]:=by rfl)(hs2:pT [b,c] X.env=[(Ab,eval b X.env),(Ab,eval c X.env)]:=by rfl) :
  PI X tg (.Call (.Name "range" p) [a,b,c] [] pos) (zce ta):=by
 intro Ac s σ H R I h;refine tX (wf I hg hm boot_range (bq (thn (ha pos Ac s σ H _ I h) λus s1 ⟨vs,H1,I1,r1,q1⟩=>?_) (by rw[hs,hs2]) (by rw[hs2];rfl)));obtain⟨i,j,k,e,⟨q1,q2,q3,q4,q5,q6⟩,q⟩:=q1;subst e
 cases r1 with
 | cons r rr =>
  cases rr with
  | cons r' rr =>
   cases rr with
   | cons r'' rr =>
    cases rr;obtain⟨t,rfl⟩:=r;obtain⟨t',rfl⟩:=r';obtain⟨t'',rfl⟩:=r'';exact call_range_3 ⋯ (Uy I1 q1 q2 q3 q4 q5 q6 q) (Or.inl (PyProof.noPylong_small ⋯))
end
end L2
namespace L3
open PySem L2
def CompK(lo k:Int)(n:Nat)(g:TG)(tt:TT)(te:TE)(own:Nat)(ix:())(σ:L2.St)(H1:Hp)(Q:VK)(D:pX):Prop:=YR (Itk lo k n) g tt te own ix σ H1 Q D
theorem zb9{ta:TA}{g:TG}{tt:TT}{te:TE}{own:Nat}{ix:()}{σ:L2.St}{H:Hp}{Q:VK}:jp (zce ta) g tt te own ix σ H Q=ta σ H λvs H1=>∃i j k:Int,vs=[.int i,.int j,.int k]/\(0<=i/\i<=2 ^ 30/\0<=j/\j<=2 ^ 30/\0<k/\k<2 ^ 30)/\∀D,H1 D=tZ->CompK i k (Builtin.Range.rangeSize i j k).toNat g tt te own ix σ H1 Q D:=rfl
section
variable{g:TG}{tt:TT}{te:TE}{own:Nat}{ix:()}{σ:L2.St}{H1:Hp}{Q:VK}{D:pX}
theorem CompK.by{lo k:Int}{n:Nat}(Pv:Nat->List V->Hp->Prop)(h0:Pv 0 [] (upd H1 D (.lst [])))
  (hs:∀i Ae H',i<n->Pv i Ae H'->g (.int (lo+i * k)) (vZ σ own ix) H' λσ3 H3=>xt (vZ σ own ix) σ3/\tt σ3 H3 λb H4=>if b=Aa then
   te σ3 H4 λv H5=>H5 D=tY (.lst Ae)/\Ae.length<pV/\CNx n i Pv (Ae ++ [v]) (upd H5 D (.lst (Ae ++ [v])))else CNx n i Pv Ae H4)
  (hd:∀Ae H',Pv n Ae H'->Q (.ref D) H'):CompK lo k n g tt te own ix σ H1 Q D:=by
 refine#[λi m Ae H=>m=n - i/\i<=n/\Pv i Ae H,#[n,by simp,aD _,h0],?_];rintro i m Ae H' ⟨rfl,hi,p⟩;by_cases hlt:i<n
 ·refine .inr #[hlt,λx H2 y=>?_];obtain⟨e,y⟩:=y;subst e y;exact hs i Ae _ hlt p
 ·have e:i=n:=⋯;subst e;exact .inl #[al _,hd Ae H' p]
end
end L3
namespace L3
open PySem.AutoSeq1 (wpAny_loadPart')
open MeetsSeq MeetsSeq2 MeetsSeq3 SeqRoads2 SeqAt
section
variable{X:Cx}{Ac:List (pX × rF)}{σ:St}{H:Hp}{s:pZ}
end
end L3
namespace L3
section
variable{prog:rb}{w:rf}{A:rg}{R:sY->pZ->Prop}{I:pX}{fp wr:List pX}{G:Array tK->Array tK->Prop}{n:Nat}{P:Nat->pY->Prop}{St:Nat->pZ->Prop}
end
section
variable{prog:rb}{w:rf}{A:rg}{E:pY->pZ->Prop}{s:pZ}
end
section
variable{X:Cx}
end
section
variable{g:TG}{tt:TT}{te:TE}{own:Nat}{ix:()}{σ:L2.St}{H1:Hp}{Q:VK}{D:pX}
end
theorem WI{α:Type}[DecidableEq α](k:α)(v:pY)(x:α):∀kvs:List (α × pY),(kvs.map λkv=>if kv.1=k then (kv.1,v)else kv).find? (λkv=>kv.1=x)=(kvs.find? λkv=>kv.1=x).map λkv=>if kv.1=k then (kv.1,v)else kv
 | []=>rfl
 | p::kvs=>by
  have e:(if p.1=k then (p.1,v)else p).1=p.1:=by split <;> rfl
  rw[ao,List.find?_cons,List.find?_cons,WI k v x kvs]
  erw[e]
  by_cases h:p.1=x
  ·simp [h]
  ·simp [h]
theorem W7{α:Type}[DecidableEq α](kvs:List (α × pY))(k:α)(v:pY)(x:α):valueAt (stored kvs k v) x=if x=k then tY v else valueAt kvs x:=by
 unfold stored valueAt;split
 ·rename_i h;rw[WI];by_cases e:x=k
  ·subst e;rw[if_pos rfl];obtain⟨p,hp,hk⟩:=Az.mp h
   cases hf:kvs.find? λkv=>kv.1=x with
   | none =>
    have:=AA.mp hf p hp;exact absurd hk this
   | some q =>
    have hq:=dD hf;have hq':q.1=x:=by simpa using hq
    simp [hq']
  ·rw[if_neg e]
   cases hf:kvs.find? λkv=>kv.1=x with
   | none=>rfl
   | some q =>
    have hq:=dD hf;have hq':q.1=x:=by simpa using hq
    have:¬ q.1=k:=λz=>e (hq'.symm.trans z);simp [this]
 ·rename_i h;rw[List.find?_append];by_cases e:x=k
  ·subst e;rw[if_pos rfl]
   have:kvs.find? (λkv=>kv.1=x)=tZ:=by
    rw[fJ];intro p hp hk;exact h (Az.mpr #[p,hp,hk])
   rw[this];simp
  ·have e':¬ k=x:=λz=>e z.symm;rw[if_neg e];simp [e']
section
variable{X:Cx}{pos:rP}
end
noncomputable def jo(P:rb)(w:rf)(a:pX)(m:re->Option V)(n:Nat):HO:=.ext λh=>(a == sysModules)=Ab/\∃kvs:List (re × pY),h.DictOf (cT P w) a kvs/\kvs.length<=n/\∀k,RelO (m k) (valueAt kvs k)
theorem Ut{P:rb}{w:rf}{H:Hp}{h:rj}{a:pX}{m:re->Option V}{n:Nat}{kvs:List (re × pY)}(hs:(a == sysModules)=Ab)(d:h.DictOf (cT P w) a kvs)(hl:kvs.length<=n)(r:∀k,RelO (m k) (valueAt kvs k)):ObjOk P w H h a (jo P w a m n) :=
 #[#[hs,kvs,d,hl,r],(let #[o,es,ep,ho,_]:=d; #[o,ho]),λh1 h2 ⟨hs,kvs,⟨o,es,ep,ho,rest⟩,z⟩ k=>#[hs,kvs,#[o,es,ep,k _ ho,rest],z]]
section
variable{X:Cx}{pos:rP}
theorem Inv.beyond{Ac:List (pX × rF)}{σ:L2.St}{H:Hp}{s:pZ}(I:Inv X Ac σ H s):(s⁻¹ == sysModules)=Ab:=by
 obtain⟨o,es,ep,e,_⟩:=I.ok.mod.glob;have h1:=aq e;have h2:=I.ok.bsz;have h3:=I.sz;have h4:1<=pS:=∅;have h5:1<s⁻¹:=av (cJ h4 h1) (aK h2 h3);rw[beq_eq_false_iff_ne];intro z;exact cB h5 z
def zcX(P:rb)(w:rf):TE:=λ_ H Q=>∀p,H p=tZ->Q (.ref p) (upd H p (jo P w p (λ_=>tZ) 0))
theorem zbB:PE X (.Dict [] [] pos) (zcX X.prog X.w):=λAc s σ H Q I h =>
 wpAny_Dict_empty #[.ref s⁻¹,_,I.laid (a:=s⁻¹) (t':=s.toks) (λ_ _ q=>ah _ q) (al _) (Ut (m:=λ_=>tZ) (Inv.beyond I) (Heap.DictOf.new s.heap) (al _) λ_=>trivial),rfl,h _ (I.hok.fresh (al _))]
theorem Inv.tdic{Ac:List (pX × rF)}{σ:L2.St}{H:Hp}{s:pZ}{a:pX}{m:re->Option V}{n:Nat}(I:Inv X Ac σ H s)(h:H a=tY (jo X.prog X.w a m n)):(a == sysModules)=Ab/\∃kvs:List (re × pY),s.heap.DictOf (cT X.prog X.w) a kvs/\kvs.length<=n/\∀k,RelO (m k) (valueAt kvs k):=(I.hok _ _ h).1
def zeG(P:rb)(w:rf):R2:=λx y H Q=>∃a m n k v,x=.ref a/\y=.str k/\H a=tY (jo P w a m n)/\m k=tY v/\Q v H
theorem zaO:IxR X (zeG X.prog X.w):=by
 intro value slice Ac s σ H x y v u Q I rx ry h hs;obtain⟨a,m,n,k,z,rfl,rfl,ha,hk,q⟩:=h;cases rx;obtain⟨t,rfl⟩:=ry;obtain⟨_,kvs,dd,hl,r⟩:=Inv.tdic I ha;obtain⟨w',hw,rw'⟩:=RelO.some_of (v:=z) (o:=valueAt kvs k) (by rw[<- hk];exact r k);exact tail_any dd.typeIs slot_dict_getitem.lookup (wpAny_getItem_of (knd:=cT X.prog X.w) (strKind_is _ _ _ _) dd.mapOf hw #[z,H,I.tok _,rw',q]) hs
def zdp(P:rb)(w:rf):V->V->V->Hp->(Hp->Prop)->Prop:=λo i v H Q=>∃a m n k,o=.ref a/\i=.str k/\H a=tY (jo P w a m n)/\n<=100000/\Q (upd H a (jo P w a (λx=>if x=k then tY v else m x) (n+1)))
theorem Jb:zeY X (zdp X.prog X.w):=by
 intro Ac s σ H o i v ov iv u Q I ro ri rv h;obtain⟨a,m,n,k,rfl,rfl,ha,hn,q⟩:=h;cases ro;obtain⟨t,rfl⟩:=ri;obtain⟨hsm,kvs,dd,hl,r⟩:=Inv.tdic I ha;have s16:=zP;refine wpAny_setItem_pairs (knd:=cT X.prog X.w) (hsz:=by lia) (strKind_is _ _ _ _) dd λh' dd' hs=>#[_,?_,q];have he:∃q,h'.get? a=tY q:=let #[q,_,_,hq,_]:=dd'; #[q,hq];refine I.write (x:=a) (e:=a) (by rw[ha];exact True.intro) (.inl rfl) (λb q hb z=>(hs.2 b hb).trans z) he (Ut hsm dd' (aK (stored_length_le _ _ _) ⋯) λx=>?_);rw[W7];by_cases e:x=k
 ·rw[if_pos e,if_pos e];exact rv
 ·rw[if_neg e,if_neg e];exact r x
def zc2(P:rb)(w:rf):R2:=λx y H Q=>∃a m n k,x=.str k/\y=.ref a/\H a=tY (jo P w a m n)/\Q (.bl (m k).isNone) H
theorem Js:OpR X (rp .NotIn) (zc2 X.prog X.w):=by
 intro Ac s σ H x y v u Q I rx ry h;obtain⟨a,m,n,k,rfl,rfl,ha,q⟩:=h;obtain⟨t,rfl⟩:=rx;cases ry;obtain⟨hsm,kvs,dd,hl,r⟩:=Inv.tdic I ha;refine wpAny_notIn_of (knd:=cT X.prog X.w) (strKind_is _ _ _ _) hsm dd.mapOf ?_
 have e:(!(valueAt kvs k).isSome)=(m k).isNone:=by
  have:=r k
  cases hm:m k with
  | none =>
   cases hv:valueAt kvs k with
   | none=>rfl
   | some z=>rw[hm,hv]at this;exact this.elim
  | some z0 =>
   cases hv:valueAt kvs k with
   | none=>rw[hm,hv]at this;exact this.elim
   | some z=>rfl
 rw[e];exact#[.bl _,H,I.tok _,rfl,q]
end
section
variable{X:Cx}{scope:rL}{own caps:List re}{ix:()}{elt tg iter:rh}{ifs:List rh}{pos:rP}{wi:TI}{g:TG}{tt:TT}{te:TE}
theorem uG{EX:XK}(hc:X.calm=Aa)(S:jZ X scope own caps ix)
  (hg:∀cl C Ac s3 H3 fp,PG (yq X scope cl C (own ++ caps) Ac s3 H3 fp λ_ _=>False) tg g)
  (ht:∀cl C Ac s3 H3 fp xe,XE (yq X scope cl C (own ++ caps) Ac s3 H3 fp xe) EX->PTs (yq X scope cl C (own ++ caps) Ac s3 H3 fp xe) ifs tt)
  (hst:X.stack=X.env::X.outer/\X.env.frame=tY X.env.locals) (hxe:XE X EX) (he:∀cl C Ac s3 H3 fp xe,XE (yq X scope cl C (own ++ caps) Ac s3 H3 fp xe) EX->PE (yq X scope cl C (own ++ caps) Ac s3 H3 fp xe) elt te)
  {cl:List (re × pX)} (hc1:∀y c,cl.lookup y=tY c->X.env.cells.lookup y=tY c) (hc2:∀y,(y,NameKind.free) ∈ scope.names->∃c,cl.lookup y=tY c)
  {Ac:List (pX × rF)} {σ:St} {H2:Hp} {s2:pZ} {Q:VK} {it:pX} {fp:List pX} {tn:Nat->rj->Prop} {J:It} (I2:Inv X Ac σ H2 s2) (T:JZ X.prog X.w X.K tg J fp it tn) (st2:tn 0 s2.heap) (f2:∀b ∈ fp,xU X Ac H2 b)
  (q:∀D,H2 D=tZ->∃W:Nat->Nat->List V->Hp->Prop,(∃m,W 0 m [] (upd H2 D (.lst []))) /\
   ∀i m Ae H',W i m Ae H'->(J.stop i H'/\Q (.ref D) H')\/(J.go i H'/\∀x H2,J.yld i H' x H2->g x (vZ σ own.length ix) H2 λσ3 H3=>xt (vZ σ own.length ix) σ3/\tt σ3 H3 λb H4=>if b=Aa then
    te σ3 H4 λv H5=>H5 D=tY (.lst Ae)/\Ae.length<pV/\∃m',m'<m/\W (i+1) m' (Ae ++ [v]) (upd H5 D (.lst (Ae ++ [v])))
    else ∃m',m'<m/\W (i+1) m' Ae H4))
  {RR:pY->pX->sY->pZ->Prop} {E:pY->pZ->Prop}
  (hRR:∀D C m s' H',H2 D=tZ->s'.heap.Ns C m->xU X Ac H' C->Inv X Ac σ H' s'->Q (.ref D) H'->RR (.ref D) C (.ok .next) s')
  (hRE:∀D C m s' x,s'.heap.Ns C m->(∀h',Heap.SameBut C s'.heap h'->∀cenv:sN,cenv.locals=C->rd (model X.prog X.w) X.A (fH "comprehension.variables-let-go" x cenv:tO pY) (λ_ _=>False) X.xe { s' with heap:=h' })->RR (.ref D) C (.error x) s') :
  rd (model X.prog X.w) X.A (newList []) (λAe s3=>rd (model X.prog X.w) X.A (newFunctionEnv scope X.env.globals cl [] X.env.qual tZ .none (tY X.env)) (λcenv s4 =>
   rY (model X.prog X.w) X.A (.compStart (.ListComp elt [#[tg,iter,ifs,0]] scope pos) 0 (.ref it) Ae { cenv with scope:=relabel scope X.env }) (RR Ae cenv.locals) s4) E s3) E s2:=by
 have hD:H2 s2⁻¹=tZ:=I2.hok.fresh (al _);obtain⟨W,⟨m0,w0⟩,turn⟩:=q _ hD;refine tF (sS S.nocell (by intro y hy;simp at hy) (λh1 hns1 hsb1=>?_) S.kind);dsimp only at hns1 hsb1 ⊢
 have I3:Inv X Ac σ (upd H2 s2⁻¹ (.lst [])) { s2 with heap:=s2.heap.push { cls:=.type "list",dict:=tZ,data:=.seq ([]:List pY).toArray } } :=
  I2.lnew (its:=[]) (t':=s2.toks) .nil (aD _)
 generalize hs3:({ s2 with heap:=s2.heap.push { cls:=.type "list",dict:=tZ,data:=.seq ([]:List pY).toArray } }:pZ)=s3 at I3;have e3:s2.heap.push { cls:=.type "list",dict:=tZ,data:=.seq ([]:List pY).toArray }=s3.heap:=by rw[<- hs3]
 rw[e3]at hns1 hsb1 ⊢;have k1:∀b o,s3.heap.get? b=tY o->h1.get? b=tY o:=λb o e=>(hsb1.2 b (ay (aq e))).trans (ah _ e);have k23:∀b o,s2.heap.get? b=tY o->s3.heap.get? b=tY o:=λb o e=>by rw[<- e3];exact ah _ e
 have hz:s3⁻¹=s2⁻¹+1:=by rw[<- e3,dU]
 have fpObj:∀b ∈ fp,∃o,s2.heap.get? b=tY o:=λb hb=>let #[o,e,_]:=T.obj 0 _ st2 b hb; #[o,e];have fplt:∀b ∈ fp,b<s2⁻¹:=λb hb=>let #[o,e]:=fpObj b hb;aq e;have f3:∀b ∈ fp,xU X Ac (upd H2 s2⁻¹ (.lst [])) b:=λb hb=>#[by rw[zp (ay (fplt b hb))];exact (f2 b hb).1,(f2 b hb).2]
 have I4:Inv (yq X scope cl s3⁻¹ (own ++ caps) Ac s3 (upd H2 s2⁻¹ (.lst [])) fp λ_ _=>False) [] (vZ σ own.length ix) (upd H2 s2⁻¹ (.lst [])) { s3 with heap:=h1,toks:=s3.toks+([]:List (re × pY)).length } :=
  WY S hc1 hc2 I3 f3 (λb hb=>by rw[hz];exact cL (fplt b hb)) hns1 k1
 have st4:tn 0 h1:=T.keep 0 _ _ st2 λb hb o e=>k1 b o (k23 b o e);generalize hs4:({ s3 with heap:=h1,toks:=s3.toks+([]:List (re × pY)).length }:pZ)=s4 at I4;have es4:({ s2 with heap:=h1,toks:=s2.toks+([]:List (re × pY)).length }:pZ)=s4:=by rw[<- hs4,<- hs3]
 have e4:h1=s4.heap:=by rw[<- hs4]
 have loop:rY (model X.prog X.w) X.A (.compLoop (.ListComp elt [#[tg,iter,ifs,0]] scope pos) 0 (.ref it) (.ref s2⁻¹) (compEnvC scope cl s3⁻¹ X.env)) (RR (.ref s2⁻¹) s3⁻¹) s4:=by
  let X':=yq X scope cl s3⁻¹ (own ++ caps) Ac s3 (upd H2 s2⁻¹ (.lst [])) fp λ_ _=>False
  have fp':∀{H':Hp},(∀b ∈ fp,H' b=tZ)->∀b ∈ fp,xU X' [] H' b:=λ{H'} hn b hb=>by
   obtain⟨_,a1,a2,a3,a4,a5⟩:=f3 b hb;refine#[hn b hb,ay (show b<s3⁻¹ from by rw[hz];exact cL (fplt b hb)),λz=>?_,.inl hb,λx c e=>a4 x c (hc1 x c e),λp hp=>?_]
   ·rcases Ah.mp (I3.stkSub b z)with e | e
    ·exact a1 e
    ·exact a2 e
   ·have:p ∈ (X.pn ++ Ac) ++ []:=hp;rw[aP]at this;exact a5 p this
  refine Ua (λn s'=>∃i Ae H',Inv X' [] (vZ σ own.length ix) H' s'/\tn i s'.heap/\(∀b ∈ fp,H' b=tZ)/\W i n Ae H') rfl ?_ m0 #[0,[],_,I4,by rw[<- e4];exact st4,λb hb=>(f3 b hb).1,w0];rintro n s5 ⟨i,Ae,H5,I5,st5,fr5,w5⟩;refine rO ?_;rcases turn i n Ae H5 w5 with ⟨stop,qn⟩ | ⟨go,step⟩
  ·refine thn (T.done X' rfl rfl rfl hc i [] s5 _ H5 _ I5 (fp' fr5) st5 stop) λr s6 ⟨hr,I6⟩=>?_;subst hr;obtain⟨m,hm,_⟩:=I6.loc;refine hRR _ _ m s6 H5 hD hm (I3.fpOk (al _) I6.free) (I3.call' (s':=s6) I6.os I6.base I6.hok I6.bare λb hb=>?_) qn;obtain⟨_,a1,a2,a3,a4,a5⟩:=f3 b hb;exact#[a3,a1,a4,a5]
  ·refine thn (T.item X' rfl rfl rfl hc i [] s5 _ H5 (λ_ _=>False) I5 (fp' fr5) st5 go) λr s6 ⟨u,hr,h6⟩=>?_;subst hr;refine rO (thn h6 λ_ s7 ⟨x,H7,I7,r7,y7,st7,fr7⟩=>?_);have I7':=I7.pinned (fp' fr7) (T.obj _ _ st7);refine rO (thn (hg _ _ _ _ _ _ _ s7 _ H7 x u _ I7' r7 (step x H7 y7)) λ_ s8 ⟨σ8,H8,I8,ks,q8⟩=>?_);refine thn (ht cl _ Ac s3 (upd H2 s2⁻¹ (.lst [])) fp _ (λe s hfl=>Qj (RE:=λe s'=>RR (.ref s2⁻¹) s3⁻¹ (.error e) s') hst hxe hc1 I3 f3 hfl λm s' x a b=>hRE _ _ m s' x a b) _ s8 σ8 H8 _ (I8.wish _) q8) λb s9 ⟨H9,I9',q9⟩=>?_;have I9:=Inv.unwish (X:=X') I9'
   have back:∀{s':pZ} {H':Hp} {acc':List V} {m':Nat},Inv X' ([] ++ Yc fp s7.heap) σ8 H' s'->m'<n->W (i+1) m' acc' H'->∃m,m<n/\∃i Ae H',Inv X' [] (vZ σ own.length ix) H' s'/\tn i s'.heap/\(∀b ∈ fp,H' b=tZ)/\W i m Ae H':=λ{s' H' acc' m'} J' hm w'=>by
    refine#[m',hm,i+1,acc',H',(J'.unpinned).weak ks.1 ks.2,T.keep _ _ _ st7 λb hb o e=>(J'.pin (b,o) (aA _ (aA _ (wV hb e)))).1,λb hb=>?_,w'];obtain⟨o,e,d⟩:=T.obj _ _ st7 b hb;exact (J'.pin (b,o) (aA _ (aA _ (wV hb e)))).2.1
   cases b with
   | false =>
    rw[if_neg az]at q9 ⊢;obtain⟨m',hm,w'⟩:=q9;exact back I9 hm w'
   | true =>
    rw[if_pos rfl]at q9 ⊢;refine thn (he cl _ Ac s3 (upd H2 s2⁻¹ (.lst [])) fp _ (λe s hfl=>Qj (RE:=λe s'=>RR (.ref s2⁻¹) s3⁻¹ (.error e) s') hst hxe hc1 I3 f3 hfl λm s' x a b=>hRE _ _ m s' x a b) _ s9 σ8 H9 _ (I9.wish _) q9) λv s10 ⟨y,H10,I10',r10,hD10,hsz,m',hm,w'⟩=>?_;have I10:=Inv.unwish (X:=X') I10';refine rO ?_;have:=yO (X:=X') _ s10 σ8 H10 (.ref s2⁻¹) [y] (.ref s2⁻¹) [v] (λ_ H'=>H'=upd H10 s2⁻¹ (.lst (Ae ++ [y]))) I10 rfl (.cons r10 .nil) #[Ae,hD10,hsz,rfl];refine thn this λ_ s11 ⟨_,H11,I11,_,eH⟩=>?_;subst eH;exact back I11 hm w'
 have goal:rY (model X.prog X.w) X.A (.compStart (.ListComp elt [#[tg,iter,ifs,0]] scope pos) 0 (.ref it) (.ref s2⁻¹) (compEnvC scope cl s3⁻¹ X.env)) (RR (.ref s2⁻¹) s3⁻¹) s4 :=
  codeAny_compStart_list loop (T.self _ 0 s4 _ _ (by rw[<- e4];exact st4) loop)
 rw[<- es4]at goal;exact goal
theorem Yt{EX:XK}(hc:X.calm=Aa)(S:jZ X scope own caps ix)(hst:X.stack=X.env::X.outer/\X.env.frame=tY X.env.locals)(hxe:XE X EX)(hi:PI X tg iter wi)
  (hg:∀cl C Ac s3 H3 fp,PG (yq X scope cl C (own ++ caps) Ac s3 H3 fp λ_ _=>False) tg g)
  (ht:∀cl C Ac s3 H3 fp xe,XE (yq X scope cl C (own ++ caps) Ac s3 H3 fp xe) EX->PTs (yq X scope cl C (own ++ caps) Ac s3 H3 fp xe) ifs tt)
  (he:∀cl C Ac s3 H3 fp xe,XE (yq X scope cl C (own ++ caps) Ac s3 H3 fp xe) EX->PE (yq X scope cl C (own ++ caps) Ac s3 H3 fp xe) elt te)
  (hs:∀x,foldedSetIterable iter X.env x=pure x:=by intro _;rfl) :
  PE X (.ListComp elt [#[tg,iter,ifs,0]] scope pos) (jp wi g tt te own.length ix):=by
 intro Ac s σ H Q I h;obtain⟨cl,hclos,hc1,hc2⟩:=vN (scope:=scope) (env:=X.env) λy hy=>I.ok.has y (S.free y hy);rw[eval_ListComp];refine sE (use:=tZ) rfl hs hclos S.kind S.names (thn (hi Ac s σ H _ I h) λv s1 h1=>thn h1 λitv s2 h2=>?_);obtain⟨it,fp,tn,J,H2,e,I2,T,st2,f2,q⟩:=h2;subst e;refine uG (RR:=λAe C=>compPost (model X.prog X.w) X.A X.xe tZ (EP X Ac σ Q) Ae C) hc S hg ht hst hxe he hc1 hc2 I2 T st2 f2 q ?_ ?_
 ·intro D C m s' H' _ hn fc I' qn;obtain⟨a0,a1,a2,a3,a4,a5⟩:=fc;exact#[m,hn,λh' sb=>#[.ref D,H',I'.turned (t':=s'.toks) (λb o hb e=>(sb.2 b hb).trans e) a0 a1 a3 a4 a5,rfl,qn]]
 ·intro D C m s' x hn hp;exact#[m,hn,hp]
theorem xeN:XE X E0:=λe s h=>by
 obtain⟨_,_,_,_,_,_,_,_,_,_,_,_,_,_,h⟩:=h;exact h.elim
theorem zck{e:rh}{t:TE}(h:PE (X.wish λ_ _=>False) e t):PE X e t:=λAc s σ H Q I hq=>rO (thn (h Ac s σ H Q (I.wish _) hq) λv s' ⟨x,H',I',r,q⟩=>#[x,H',I'.unwish,r,q])
theorem Kw{t:TT}(h:PTs (X.wish λ_ _=>False) ifs t):PTs X ifs t:=λAc s σ H Q I hq=>rO (thn (h Ac s σ H Q (I.wish _) hq) λv s' ⟨H',I',q⟩=>#[H',I'.unwish,q])
theorem xY(hc:X.calm=Aa)(S:jZ X scope own caps ix)(hi:PI X tg iter wi)
  (hg:∀cl C Ac s3 H3 fp,PG (yq X scope cl C (own ++ caps) Ac s3 H3 fp λ_ _=>False) tg g)
  (ht:∀cl C Ac s3 H3 fp,PTs (yq X scope cl C (own ++ caps) Ac s3 H3 fp λ_ _=>False) ifs tt)
  (he:∀cl C Ac s3 H3 fp,PE (yq X scope cl C (own ++ caps) Ac s3 H3 fp λ_ _=>False) elt te)
  (hst:X.stack=X.env::X.outer/\X.env.frame=tY X.env.locals:=by exact#[rfl,rfl]) (hs:∀x,foldedSetIterable iter X.env x=pure x:=by intro _;rfl) :
  PE X (.ListComp elt [#[tg,iter,ifs,0]] scope pos) (jp wi g tt te own.length ix) :=
 Yt hc S hst xeN hi hg (λa b c d e f _ _=>Kw (ht a b c d e f)) (λa b c d e f _ _=>zck (he a b c d e f)) hs
theorem zbz{i:Nat}{y:re}{py spos:rP}(hN:X.N.Nodup)(hy:X.N[i]? = tY y)(hly:Loc X.env.scope y)(hf:X.fn y=Aa\/X.env.scope.names.lookup y=tY .local)(hc:X.calm=Aa)(S:jZ X scope own caps ix)(hi:PI X tg iter wi)
  (hg:∀cl C Ac s3 H3 fp,PG (yq X scope cl C (own ++ caps) Ac s3 H3 fp λ_ _=>False) tg g)
  (ht:∀cl C Ac s3 H3 fp,PTs (yq X scope cl C (own ++ caps) Ac s3 H3 fp λ_ _=>False) ifs tt)
  (he:∀cl C Ac s3 H3 fp,PE (yq X scope cl C (own ++ caps) Ac s3 H3 fp λ_ _=>False) elt te)
  (hst:X.stack=X.env::X.outer/\X.env.frame=tY X.env.locals:=by exact#[rfl,rfl])
  (hsw:swapsWith (.ListComp elt [#[tg,iter,ifs,0]] scope pos) (tY (.Name y py)) spos.line X.env=pure Aa:=by rfl)
  (hs:∀x,foldedSetIterable iter X.env x=pure x:=by intro _;rfl) :
  PS X (.Assign [.Name y py] (.ListComp elt [#[tg,iter,ifs,0]] scope pos) spos) (kg i (jp wi g tt te own.length ix)):=by
 intro Ac s σ H D I h;obtain⟨cl,hclos,hc1,hc2⟩:=vN (scope:=scope) (env:=X.env) λy hy=>I.ok.has y (S.free y hy);rw[exec_Assign_Name_used _ _ _ _ hsw];refine pQ (rN (pQ ?_));show rd _ X.A (do let _ <- comprehension (.ListComp elt [#[tg,iter,ifs,0]] scope pos) scope X.env _ (newList []) Ab (eval iter X.env) (tY (assign (.Name y py) X.env))) _ _ s;refine pQ (thn (sE (use:=tY (assign (.Name y py) X.env)) (Q:=λ_ s'=>SP X Ac D .next s') rfl hs hclos S.kind S.names (thn (hi Ac s σ H _ I h) λv s1 h1=>thn h1 λitv s2 h2=>?_)) λ_ s' hq=>pR (pR hq));obtain⟨it,fp,tn,J,H2,e,I2,T,st2,f2,q⟩:=h2;subst e;refine uG (Q:=λx H1=>D.nx (σ.set i (tY x)) H1) (RR:=λAe C=>compPost (model X.prog X.w) X.A X.xe (tY (assign (.Name y py) X.env)) (λ_ s'=>SP X Ac D .next s') Ae C) hc S hg (λa b c d e f _ _=>Kw (ht a b c d e f)) hst xeN (λa b c d e f _ _=>zck (he a b c d e f)) hc1 hc2 I2 T st2 f2 q ?_ λD C m s' x hn hp=>#[m,hn,hp];intro D' C m s' H1 hD' hn fc I1 nx;obtain⟨a0,a1,a2,a3,a4,a5⟩:=fc;show rd _ X.A (assign (.Name y py) X.env (.ref D')) _ _ s';refine tG (Yi I1 hN hy hly (v:=.ref D') rfl (λs'' I2' ⟨a,sb,ha⟩=>?_) hf)
 have hCa:C≠a:=by
  rcases ha with e | e
  ·rw[e];exact a1
  ·exact λz=>a4 _ _ e z.symm
 refine#[m,hn.sameBut sb hCa,λh' sb'=>#[_,H1,I2'.turned (t':=s''.toks) (λb o hb e=>(sb'.2 b hb).trans e) a0 a1 a3 a4 a5,nx]]
end
section
variable{X:Cx}{scope:rL}{own caps:List re}{ix:()}{cl:List (re × pX)}{Ac:List (pX × rF)}{σ:St}{H:Hp}{s:pZ}{fp:List pX}{E:pY->pZ->Prop}
end
section
variable{X:Cx}{scope:rL}{own caps:List re}{ix:()}{elt tg iter:rh}{ifs:List rh}{pos:rP}{wi:TI}{g:TG}{tt:TT}{te:TE}
end
section
variable{X:Cx}
end
section
variable{X:Cx}{Ac:List (pX × rF)}{σ:L2.St}{H:Hp}{s:pZ}
end
end L3
namespace LL
open PySem L2 L3
noncomputable def top(i:Nat):rn:=PySem.Challenge.pw_letterlaw_k89_whole_tables_judged.main.body.getD i (.Pass #[0,0,0,0])
noncomputable abbrev yA:rn:=yv (top 4) 0
noncomputable abbrev zU:rn:=yv (top 5) 0
noncomputable abbrev yL:rn:=top 11
noncomputable abbrev wj:rn:=top 12
noncomputable abbrev vp:rn:=top 13
noncomputable abbrev zbN:rn:=top 14
noncomputable abbrev XZ:rn:=top 16
noncomputable abbrev Zn:rn:=top 17
noncomputable abbrev xw:rn:=top 20
noncomputable abbrev wI:rn:=top 21
noncomputable abbrev ve:rn:=top 22
noncomputable abbrev xV:rn:=yv (top 23) 0
noncomputable abbrev yy:rn:=yv (top 23) 1
noncomputable abbrev YC:rn:=top 25
noncomputable abbrev ut:rn:=top 26
noncomputable abbrev QI:rn:=top 27
noncomputable abbrev qW:rn:=top 28
noncomputable abbrev kG:rn:=top 29
noncomputable abbrev xl:rn:=top 30
noncomputable abbrev ug:rn:=top 36
noncomputable abbrev wN:rn:=top 37
noncomputable abbrev vg:rn:=top 38
noncomputable abbrev qA:rn:=top 39
noncomputable abbrev yz:rn:=top 40
noncomputable abbrev xq:rn:=top 41
noncomputable abbrev y2:rn:=top 42
noncomputable abbrev wz:rn:=top 43
noncomputable abbrev qh:rn:=top 44
noncomputable abbrev yF:rn:=top 50
noncomputable abbrev xW:rn:=top 51
noncomputable abbrev yT:rn:=top 52
noncomputable abbrev xp:rn:=top 53
noncomputable abbrev uk:rn:=top 54
noncomputable abbrev xP:rn:=top 55
noncomputable abbrev wX:rn:=top 58
noncomputable abbrev wB:rn:=yv (top 59) 0
noncomputable abbrev xO:rn:=yv (top 59) 1
noncomputable abbrev vt:rn:=yv (top 59) 3
noncomputable abbrev xo:rn:=yv (top 59) 5
noncomputable abbrev xx:rn:=yv (top 59) 6
noncomputable abbrev xL:rn:=top 62
noncomputable abbrev y1:rn:=top 63
noncomputable abbrev wQ:rn:=top 64
noncomputable abbrev xN:rn:=top 65
noncomputable abbrev xS:rn:=top 66
noncomputable abbrev xT:rn:=top 70
noncomputable abbrev yM:rn:=top 71
noncomputable abbrev yH:rn:=top 72
noncomputable abbrev kD:rn:=top 73
noncomputable abbrev wb:rn:=yv (top 75) 0
noncomputable abbrev xz:rn:=yv (top 75) 1
noncomputable abbrev wy:rn:=yv (top 75) 2
noncomputable abbrev xg:rn:=yv (top 75) 3
noncomputable abbrev xv:rn:=yv (top 75) 4
noncomputable abbrev yR:rn:=yv (top 76) 0
noncomputable abbrev QM:rn:=top 78
noncomputable abbrev YQ:rn:=top 79
noncomputable abbrev je:rn:=top 80
noncomputable abbrev V4:rn:=top 81
noncomputable abbrev Xb:rn:=top 82
noncomputable abbrev Y5:rn:=top 83
noncomputable abbrev Uv:rn:=top 84
noncomputable abbrev zay:rn:=top 85
noncomputable abbrev qj:rn:=top 86
noncomputable abbrev wS:rn:=top 87
noncomputable abbrev kT:rn:=top 88
noncomputable abbrev kW:rn:=top 89
noncomputable abbrev qg:rn:=top 90
noncomputable abbrev Y1:rn:=top 91
noncomputable abbrev zbK:rn:=top 92
noncomputable abbrev km:rn:=top 93
section
variable{P:rb}{w:rf}{K:pW}{mg:re->Option pY}{base:rj}
seal L2.PE L2.PS L2.PA L2.PT L2.PSs L2.PI L2.PG L2.PW L2.PGs
local macro_rules | `($a<<<$b)=>`(Df $(Lean.mkIdent `P) $(Lean.mkIdent `w) $(Lean.mkIdent `K) $(Lean.mkIdent `mg) $(Lean.mkIdent `base) CX0 $a $b)
local macro_rules | `($a>>>$b)=>`(Df $(Lean.mkIdent `P) $(Lean.mkIdent `w) $(Lean.mkIdent `K) $(Lean.mkIdent `mg) $(Lean.mkIdent `base) (CXx $(Lean.mkIdent `P) $(Lean.mkIdent `w)) $a $b)
local macro_rules | `($a&&&$b)=>`(zR $(Lean.mkIdent `P) $(Lean.mkIdent `w) $(Lean.mkIdent `K) $(Lean.mkIdent `mg) $(Lean.mkIdent `base) CX0 $a $(Lean.mkIdent `f) $(Lean.mkIdent `fd) $b)
local macro_rules | `($a|||$b)=>`(zR $(Lean.mkIdent `P) $(Lean.mkIdent `w) $(Lean.mkIdent `K) $(Lean.mkIdent `mg) $(Lean.mkIdent `base) (CXx $(Lean.mkIdent `P) $(Lean.mkIdent `w)) $a $(Lean.mkIdent `f) $(Lean.mkIdent `fd) $b)
local macro_rules | `(!!$a)=>`(tY (.ref $a))
local macro_rules | `(~~~$a)=>`(tY (.str (tx $a)))
local macro_rules | `(-~~~$a)=>`(tY (.int (($a):Nat)))
local macro_rules | `(~~~!$a)=>`(tY (.int $a))
local macro_rules | `($a^^^$b)=>`(Fun $(Lean.mkIdent `K) $a $a $b $(Lean.mkIdent `f) $(Lean.mkIdent `fd))
noncomputable abbrev sQz(n:Nat)(a:List PySem.Str)(s:PySem.Stmt):=zl a (a.take n) (zh s)
local macro_rules | `(tactic| rfl')=>do
 let A0←("zeg zeI zej zen zeF zew zeL zdQ zek zed zaJ zeP zeo zdZ zeN zd3 zaW zbh zbR za3 zbE zam zbg zag zax zeC zec zeO zd5 zd0 zdW zeu zes zaS zaw zbd zaI zaT zaj za4 zaM".splitOn " ").toArray.mapM fun s=>`(Lean.Parser.Tactic.simpLemma| ↓$(Lean.mkIdent s.toName):ident)
 let A1←("zdI JI Kt zdJ QC tOp tUn tC jE zM xM tCB zbV yD Jk zb2 tOr VQ Vu jM tIf rI rI0 rU rGe zdj jl zbk zbZ zdy zcS tSl kn Yn Q1 zcy tBM zdF zai zbA L2.start zeH cxK cxP cxW ao aM aB cu cf dO Nat.reduceAdd Nat.reduceSub cG dg aW aX aZ bh vZ eI eJ".splitOn " ").toArray.mapM fun s=>`(Lean.Parser.Tactic.simpLemma| $(Lean.mkIdent s.toName):ident)
 let A2←("zdd KJ Kv Ko zfg zeg zeI zej zen zeF zew zeL zdQ zek zed zaJ zeP zeo zdZ zeN zd3 zaW zbh zbR za3 zbE zam zbg zag zax zeC zec zeO zd5 zd0 zdW zeu zes zaS zaw zbd zaI zaT zaj za4 zaM".splitOn " ").toArray.mapM fun s=>`(Lean.Parser.Tactic.simpLemma| ↓$(Lean.mkIdent s.toName):ident)
 let A3←("zdI vZ eI eJ rU kg KI zdl zc9 JI Kt zdJ QC tOp tUn UO tC jE zM xM tCB zbV yD Jk zb2 tOr VQ Vu jM tIf rI rI0 rEq_is rNe_is zdj jl zbk zdy zcS zbZ tSl kn Yn rGe decide_false decide_true Prod.mk.injEq rLen_is zcc zdH Ub zaD Qy tyV tBM zdF if_true if_false br decide_eq_true_eq decide_eq_false_iff_not di d5 fg lt1 Q1 zcy zb1 ZH zb0 Y4 YB zc3 zcu zdx zcY zcJ zdk Value.ref.injEq L2.start zcH zch ze0 zfh zfd zde zeX zai zbA zfa VC zcd zbX zel kN UP Zx qS YO zX zeH zad zdA cxK cxP cxW ao aM aB cu cf dO Nat.reduceAdd Nat.reduceSub and_assoc zcw exists_eq exists_eq' exists_eq_left' exists_eq_left exists_eq_right exists_eq_right' exists_and_left exists_and_right V.int.injEq V.ref.injEq V.str.injEq V.bl.injEq V.ty.injEq reduceCtorEq false_and and_false true_and and_true or_false false_or exists_false exists_const cG dg Option.some.injEq aW aX List.cons.injEq aP aZ bh Kr KL KO KP".splitOn " ").toArray.mapM fun s=>`(Lean.Parser.Tactic.simpLemma| $(Lean.mkIdent s.toName):ident)
 `(tactic| first | (dsimp only[$A0,*,$A1,*];try simp only[$A2,*,$A3,*]) | simp only[$A2,*,$A3,*])
local macro_rules | `(tactic| ac_rfl)=>do
 let A0←("yf zv zI yg yi zw".splitOn " ").toArray.mapM fun s=>`(Lean.Parser.Tactic.simpLemma| $(Lean.mkIdent s.toName):ident)
 `(tactic| repeat (first | rfl' | simp only[$A0,*]))
theorem xe0{X:Cx}:XE X E0:=λe s h=>by
 obtain⟨_,_,_,_,_,_,_,_,_,_,_,_,_,_,h⟩:=h;exact h.elim
def small(l:()):Prop:=∀c ∈ l,97<=c/\c<=122
noncomputable instance (l:()):Decidable (small l):=by unfold small;infer_instance
noncomputable def j9(l:()):Bool:=decide (1<=l.length/\l.length<=6/\small l/\l.Nodup)
def kF:Sp:=λvs H Q _=>∃c:Nat,vs=[.str (tx [c])]/\Q (.bl (decide (97<=c/\c<=122))) H
theorem J8:sQz 1 ["sign"] yL:=by nofun
theorem JS{f:pX}{fd:ra}(F:("is_small_letter"^^^yL)):(1&&&["sign"]) kF:=by
 exists F.ok J8
 ·obtain⟨c,rfl,q⟩:=h;refine#[_,(zc (zk (Wh x0 x0 zV (pv 0) zV))),?_];have ea:cs (("a" : re))=[97]:=rfl;have ez:cs (("z" : re))=[122]:=rfl
  rfl'
  erw[ea,ez,YO,lt1]
  refine yo (λh=>?_) λh=>?_
  ·have e:decide (97<=c/\c<=122)=!decide (122<c):=by
    by_cases h2:122<c
    ·rw[decide_eq_true h2,decide_eq_false ⋯];rfl
    ·rw[decide_eq_false h2,decide_eq_true ⋯];rfl
   rw[e]at q;exact q
  ·rw[decide_eq_false ⋯]at q;exact q
structure ze1(K:pW)(mg:re->Option pY)(C:pX):Prop where
 xi:XI K C
 ini:ag K (.ref C) "__init__" = tY (tY (.builtin "ValueError.__init__"))
 g:mg "NoLetters" = tY (.ref C)
 most:∃t,mg "MOST_LETTERS" = tY (.int 6 t)
def xQ(C:pX):Sp:=λvs H Q E=>∃l:(),vs=[.str (tx l)]/\l.length<=1000/\(j9 l=Aa->Q (.str (tx l)) H)/\(j9 l=Ab->E (.ref C) tZ H)
theorem mG:sQz 1 ["text","sign"] wj:=by nofun
theorem j7{f C:pX}{fd:ra}(B:Bt mg)(T:ze1 K mg C)(F:("letters_of"^^^wj))(Ds:(1<<<"is_small_letter") ["sign"] [] kF):(2|||["text"]) (xQ C):=by
 exists Fun.okX F mG,0
 ·obtain⟨l,rfl,hl,q1,q2⟩:=h;obtain⟨t6,g6⟩:=T.most
  refine#[_,(zE (zK (zY (uU x0 x0 zg (zD B.len (pv 0)) (yw (v:=.int 6) rfl g6 #[t6,rfl])))
    (zc (yb hx rfl T.xi.toXC T.ini rfl T.g (za zV zd)))
    zt)
   (zE (zS PassesOwn.leaving rfl (XA (pv 0)) (zA (i:=1) mG.nd rfl (.inl rfl))
    (zE (zK (zY (XG (cl0 Ds hr .nil rfl (za (pv 1) zd)) (λ_=>rfl)))
     (zc (yb hx rfl T.xi.toXC T.ini rfl T.g (za zV zd)))
     zt)
    (zc (zK (zx Ux (vq bL PySem.F.slot_str_count PySem.F.type_str_count zbq (pv 0) (za (pv 1) zd)) zg (zB _))
     (zc (yb hx rfl T.xi.toXC T.ini rfl T.g (za zV zd)))
     zt))))
   (zc (zk (pv 0))))),?_]
  have s16:=zP
  rfl'
  have bad:(¬ (1<=l.length/\l.length<=6/\small l/\l.Nodup))->∀H':Hp,H'=H->E (.ref C) tZ H':=λh H' e=>by
   rw[e];exact q2 (decide_eq_false h)
  refine#[⋯,yo (λc=>yo (λc2=>#[⋯,bad (λh=>by have:=h.2.1;lia) H rfl]) (λc2=>?_)) (λc=>#[⋯,bad (λh=>by have:=h.1;lia) H rfl])];refine ForS.by (λi σ H'=>H'=H/\∃v,σ=[~~~l,v]/\small (l.take i)/\∀c ∈ l.take i,l.count c<=1) #[rfl,tZ,rfl,λc h=>absurd h (by simp),λc h=>absurd h (by simp)] ?_ ?_
  ·refine nm4 ?_;rintro i c σ H' hg ⟨eH,v,rfl,hs,hn⟩:_;have hc:=af hg;right
   rfl'
   erw[kF]
   rfl'
   refine yo (λh=>#[⋯,bad (λz=>by have:=z.2.2.1 c hc;lia) _ eH]) (λh=>yo (λh2=>#[⋯,bad (λz=>?_) _ eH]) (λh2=>#[eH,?_,?_]))
   ·have:=AB.mp z.2.2.2 c;lia
   ·rw[zN hg];intro x hx;rcases Ai.mp hx with q | q
    ·exact hs x q
    ·have:x=c:=by simpa using q
     subst this;lia
   ·rw[zN hg];intro x hx;rcases Ai.mp hx with q | q
    ·exact hn x q
    ·have:x=c:=by simpa using q
     subst this;lia
  ·rintro σ H' ⟨eH,v,rfl,hs,hn⟩;rw[aO]at hs hn
   rfl'
   rw[eH];refine q1 (decide_eq_true #[⋯,⋯,hs,AB.mpr λc=>?_]);by_cases hc:c ∈ l
   ·exact hn c hc
   ·rw[List.count_eq_zero.mpr hc];lia
noncomputable def zu(l:())(k:Int)(p:()):Bool:=decide (0<=k/\k+p.length<=l.length/\(l.drop k.toNat).take p.length=p)
def wu:Sp:=λvs H Q _=>∃(l p:()) (k:Int),vs=[.str (tx l),.int k,.str (tx p)]/\l.length<=10000/\p.length<=10000/\Q (.bl (zu l k p)) H
theorem ku{l p:()}{k:Int}{H:Hp}{Q:VK}{E:XK}(h1:l.length<=10000)(h2:p.length<=10000)(h:Q (.bl (zu l k p)) H):wu [.str (tx l),.int k,.str (tx p)] H Q E:=#[l,p,k,rfl,h1,h2,h]
theorem ZN:sQz 3 ["word","place","part"] vp:=by nofun
theorem Z0{f:pX}{fd:ra}(B:Bt mg)(F:("stands_at"^^^vp)):(1&&&["word","place","part"]) wu:=by
 exists F.ok ZN
 ·obtain⟨l,p,k,rfl,hl,hp,q⟩:=h
  refine#[_,(zE (zK (zY (uU x0 x0 zg (pv 1) (zF j0 (zD B.len (pv 0)) (zD B.len (pv 2)))))
    (zc (zk yQ))
    zt)
   (zc (zk (yE y4 (ye wa (pv 0) (yd (pv 1)) (yd (zF yj (pv 1) (zD B.len (pv 2))))) (pv 2) (zB _))))),?_]
  have s16:=zP
  rfl'
  have no:¬ (0<=k/\k+p.length<=l.length/\(l.drop k.toNat).take p.length=p)->Q (.bl Ab) H:=λh=>by
   have e:zu l k p=Ab:=decide_eq_false h;rw[e]at q;exact q
  refine yo (λh0=>#[⋯,⋯,yo (λh1=>no λh=>absurd h.2.1 ⋯) λh1=>#[⋯,⋯,?_]]) λh0=>no λh=>h0 h.1;rw[Y6 _ h0 ⋯ ⋯];have e:(k+(p.length:Int) - k).toNat=p.length:=⋯;rw[e]
  have e2:zu l k p=decide ((l.drop k.toNat).take p.length=p):=by
   unfold zu;exact decide_eq_decide.mpr #[λh=>h.2.2,λh=>#[h0,⋯,h]]
  rw[<- e2];exact q
noncomputable def yP(l:())(k:Int)(o n:()):():=l.take k.toNat ++ n ++ l.drop (k.toNat+o.length)
theorem yu{l o:()}{k:Int}(h:zu l k o=Aa):l.take k.toNat ++ o ++ l.drop (k.toNat+o.length)=l/\(l.take k.toNat).length=k.toNat/\0<=k/\k+o.length<=l.length:=by
 unfold zu at h;rw[decide_eq_true_eq]at h;obtain⟨h0,h1,h2⟩:=h;refine#[?_,by rw[aI];lia,h0,h1]
 have e:l.drop k.toNat=o ++ l.drop (k.toNat+o.length):=by
  have:=bH o.length (l.drop k.toNat);rw[h2,dX]at this;exact this.symm
 rw[aL,<- e,bH]
theorem X9{l o:()}{k:Int}(n:())(h:zu l k o=Aa):zu (yP l k o n) k n=Aa/\yP (yP l k o n) k n o=l:=by
 obtain⟨e,hl,h0,h1⟩:=yu h
 have e1:(yP l k o n).take k.toNat=l.take k.toNat:=by
  unfold yP;rw[aL,bj ⋯,ba ⋯]
 have e2:(yP l k o n).drop k.toNat=n ++ l.drop (k.toNat+o.length):=by
  unfold yP;rw[aL,cb ⋯,bc ⋯,aZ]
 have e3:(yP l k o n).length=l.length - o.length+n.length:=by
  unfold yP
  erw[ak,bg,hl]
  lia
 refine#[?_,?_]
 ·unfold zu;refine decide_eq_true #[h0,⋯,?_];rw[e2,bj ⋯,ba ⋯]
 ·show (yP l k o n).take k.toNat ++ o ++ (yP l k o n).drop (k.toNat+n.length)=l;rw[e1,<- dX,e2,cb ⋯,bc ⋯,aZ];exact e
theorem zbj{l o n:()}{k:Int}(h0:0<=k):cut l tZ (tY k) ++ n ++ cut l (tY (k + ↑o.length)) tZ=yP l k o n:=by
 rw[ZI _ h0,vU _ ⋯];have:(k+(o.length:Int)).toNat=k.toNat+o.length:=⋯;rw[this];rfl
structure TNU(K:pW)(mg:re->Option pY)(C:pX):Prop where
 xi:XI K C
 g:mg "NoUse" = tY (.ref C)
 na:NoAttr K C "at"
theorem kQ:sQz 2 ["self","at"] yA:=by nofun
theorem kd{f C:pX}{fd:ra}(T:TNU K mg C)(F:Fun K "__init__" "NoUse.__init__" yA f fd):(1&&&["self","at"]) (vV C "at"):=by
 exists F.ok kQ
 ·obtain⟨x,v,rfl,hx,q⟩:=h;refine#[_,(zc (QZ (pv 0) (pv 1) rfl)),?_]
  erw[zaG]
  rfl'
  exact#[C,hx,T.xi.toXC,T.na,q]
structure DNU(P:rb)(w:rf)(K:pW)(mg:re->Option pY)(base:rj)(C:pX):Prop extends TNU K mg C where
 ini:∃f fd,ag K (.ref C) "__init__" = tY (tY (.ref f))/\aV K (.ref f)=Aa/\(1&&&["self","at"]) (vV C "at")/\Binds K fd ["self","at"] []
def Wq(C:pX):Sp:=λvs H Q E=>∃(l o n:()) (k:Int),vs=[.str (tx l),.int k,.str (tx o),.str (tx n)]/\l.length<=10000/\o.length<=10000/\n.length<=10000/\(zu l k o=Aa->Q (.str (tx (yP l k o n))) H)/\(zu l k o=Ab->∀d H',zd9 H d "at" (.int 0) H'->E (.ref C) (tY d) H')
theorem zcb:sQz 4 ["word","place","old","new"] zbN:=by nofun
theorem zdC{f C:pX}{fd:ra}(B:Bt mg)(T:DNU P w K mg base C)(F:("put"^^^zbN))(oV:(1<<<"stands_at") ["word","place","part"] [] wu):(3|||["word","place","old","new"]) (Wq C):=by
 obtain⟨fi,fdi,hi,hfn,Fi,Bi⟩:=T.ini
 exists Fun.okX F zcb,0
 ·obtain⟨l,o,n,k,rfl,hl,ho,hn,q1,q2⟩:=h
  refine#[_,(zE (zK (zY (XG (cl0 oV hr .nil rfl (za (pv 0) (za (pv 1) (za (pv 2) zd)))) (λ_=>rfl)))
    (zc (Yq hx rfl T.xi.toXC hi hfn Fi hr Bi rfl T.g (za zg zd)))
    zt)
   (zc (zk (zF yl (zF yl (ye wa (pv 0) xn (yd (pv 1))) (pv 3)) (ye wa (pv 0) (yd (zF yj (pv 1) (zD B.len (pv 2)))) xn))))),?_]
  have s16:=zP
  rfl'
  refine ku hl ho ?_
  rfl'
  refine yo (λhb=>#[⋯,Qv (q2 hb)]) λhb=>?_;have hb':zu l k o=Aa:=by simpa using hb
  obtain⟨_,_,h0,h1⟩:=yu hb';have c1:=wm l tZ (tY k);have c2:=wm l (tY (k + ↑o.length)) tZ;refine#[⋯,⋯,⋯,⋯,?_,?_]
  ·erw[ak]
   lia
  ·have e:cut l tZ (tY k) ++ n ++ cut l (tY (k + ↑o.length)) tZ=yP l k o n:=by
    rw[ZI _ h0,vU _ ⋯];have:(k+(o.length:Int)).toNat=k.toNat+o.length:=⋯;rw[this];rfl
   rw[e];exact q1 hb'
structure TOrd(K:pW)(mg:re->Option pY)(CO CR CW:pX):Prop where
 cO:Cls K CO
 cR:Cls K CR
 cW:Cls K CW
 gO:mg "Order" = tY (.ref CO)
 gR:mg "FromRight" = tY (.ref CR)
 lO:NoAttr K CO "letters"
 lR:NoAttr K CR "letters"
 lW:NoAttr K CW "letters"
def OrdAt(CO CR CW:pX)(H:Hp)(o:pX)(k:Nat)(l:())(ns:List Int):Prop:=∃dx,(k=0/\H o=tY (.ins CO dx [("letters",.str (tx l))]))\/(k=1/\H o=tY (.ins CR dx [("letters",.str (tx l))]))
theorem OrdAt.same{CO CR CW:pX}{H H':Hp}{o:pX}{k:Nat}{l:()}{ns:List Int}(h:OrdAt CO CR CW H o k l ns)(e:Same H H'):OrdAt CO CR CW H' o k l ns:=by
 obtain⟨dx,⟨h1,h2⟩ | ⟨h1,h2⟩⟩:=h
 ·exact#[dx,.inl #[h1,e _ _ h2]]
 ·exact#[dx,.inr #[h1,e _ _ h2]]
noncomputable def Q2(l:())(ns:List Int)(w:()):Int:=((l.zip ns).map λp=>(w.count p.1:Int) * p.2).sum
noncomputable def zy(k:Nat)(l:())(ns:List Int)(w:()):Int:=if k=2 then Q2 l ns w else (w.length:Int)
noncomputable def xH(k:Nat)(w:()):():=if k=1 then w.reverse else w
def kr(K:pW):Sp:=λvs H Q _=>∃(x C dx:pX) (l:()),vs=[.ref x,.str (tx l)]/\j9 l=Aa/\Cls K C/\NoAttr K C "letters"/\H x=tY (.ins C dx [])/\Q .non (upd H x (.ins C dx [("letters",.str (tx l))]))
theorem Zu:sQz 2 ["self","letters"] wb:=by nofun
theorem vK{f:pX}{fd:ra}(B:Bt mg)(F:Fun K "__init__" "Order.__init__" wb f fd)(lC:(2>>>"letters_of") ["text"] [] (xQ C)):(3&&&["self","letters"]) (kr K):=by
 exists F.ok Zu
 ·obtain⟨x,C,dx,l,rfl,hg,hC,hN,hx,q⟩:=h;refine#[_,(zc (ZD (pv 0) (clP xe0 lC hr .nil rfl (za (pv 1) zd)) rfl)),?_];have s16:=zP
  rfl'
  exact#[l,rfl,by have:=of_decide_eq_true hg;lia,λ_=>#[_,_,_,hx,hC,hN,∅,q],λe=>by rw[hg]at e;cases e]
def k7:Sp:=λvs H Q _=>∃(o:pX) (w:()),vs=[.ref o,.str (tx w)]/\w.length<=1000/\Q (.int (w.length:Nat)) H
theorem qo:sQz 2 ["self","word"] xz:=by nofun
theorem wC{f:pX}{fd:ra}(B:Bt mg)(F:Fun K "weight" "Order.weight" xz f fd) :(1&&&["self","word"]) k7:=by
 exists F.ok qo
 ·obtain⟨o,w,rfl,hw,q⟩:=h;refine#[_,(zc (zk (zD B.len (pv 1)))),?_];have s16:=zP
  rfl'
  exact#[⋯,q]
def VU:Sp:=λvs H Q _=>∃(o:pX) (w:()),vs=[.ref o,.str (tx w)]/\Q (.str (tx w)) H
theorem Za:sQz 2 ["self","word"] wy:=by nofun
theorem Zk{f:pX}{fd:ra}(B:Bt mg)(F:Fun K "seen" "Order.seen" wy f fd) :(1&&&["self","word"]) VU:=by
 exists F.ok Za
 ·obtain⟨o,w,rfl,q⟩:=h;refine#[_,(zc (zk (pv 1))),?_];have s16:=zP
  rfl'
  exact q
def Xe:Sp:=λvs H Q _=>∃(o:pX) (w:()),vs=[.ref o,.str (tx w)]/\w.length<=1000/\Q (.str (tx w.reverse)) H
theorem uq:sQz 2 ["self","word"] yR:=by nofun
theorem uh{f:pX}{fd:ra}(B:Bt mg)(F:Fun K "seen" "FromRight.seen" yR f fd) :(1&&&["self","word"]) Xe:=by
 exists F.ok uq
 ·obtain⟨o,w,rfl,hw,q⟩:=h;refine#[_,(zc (zk (za5 (pv 1) (zeq zcs zg)))),?_];have s16:=zP;ac_rfl;exact#[⋯,q]
theorem zct{x y:V}{r:L2.St}:xt (tZ::tZ::r) (tY x::tY y::r):=#[rfl,λi v h=>by
 cases i with
 | zero=>cases h
 | succ i =>
  cases i with
  | zero=>cases h
  | succ i=>exact h]
theorem zdX(l:())(c e:Nat):StrLaws.At (tx l) (tx [c]) (tx l).length e ↔ l[e]? = tY c:=by
 unfold StrLaws.At Builtin.Str.subAt;rw[zX,zX];have h1:[c].length=1:=rfl;rw[h1,beq_iff_eq]
 have e1:((tx l).cps.extract e (e+1)).toList=(l.drop e).take 1:=by
  show (l.toArray.extract e (e+1)).toList=_;simp [ef]
 have e2:((tx l).cps.extract e (e+1)=(tx [c]).cps) ↔ (l.drop e).take 1=[c]:=by
  constructor
  ·intro h;rw[<- e1,h]
  ·intro h;apply Array.toList_inj.mp;rw[e1,h]
 constructor
 ·rintro⟨h2,h3⟩;have:=e2.mp h3;rw[aS ⋯,dP,bE]at this;rw[ae ⋯];injection this with h _;rw[h]
 ·intro h;obtain⟨he,hx⟩:=Af.mp h;refine#[⋯,e2.mpr ?_];rw[aS he,dP,bE,hx]
theorem Wi{l:()}{c:Nat}(h:c ∈ l):Txt.find (tx l) (tx [c])=((l.idxOf c:Nat):Int):=by
 have hlt:=aC h;have hg:l[l.idxOf c]? = tY c:=by rw[ae hlt,bS]
 rcases PyProof.Rows.find_whole (tx l) (tx [c])with ⟨h1,h2⟩ | ⟨e,h1,h2,h3⟩
 ·exact absurd ((zdX l c _).mpr hg) (h2 _)
 ·have he:=(zdX l c e).mp h2
  have:e=l.idxOf c:=by
   rcases d8 e (l.idxOf c)with q | q | q
   ·have:=List.not_of_lt_findIdx (p:=(· == c)) q;obtain⟨h4,h5⟩:=Af.mp he;simp [h5]at this
   ·exact q
   ·exact absurd ((zdX l c _).mpr hg) (h3 _ q)
  rw[h1,this]
abbrev MkO(P:rb)(w:rf)(K:pW)(mg:re->Option pY)(base:rj)(C:pX):Prop:=DMk P w K mg base CX0 3 C ["self","letters"] (kr K)
abbrev MW(P:rb)(w:rf)(K:pW)(mg:re->Option pY)(base:rj)(C:pX)(m:re)(sp:Sp):Prop:=DM P w K mg base CX0 1 C m ["self","word"] sp
structure TWS(P:rb)(w:rf)(K:pW)(mg:re->Option pY)(base:rj)(CO CR CW:pX):Prop extends TOrd K mg CO CR CW where
 mO:MkO P w K mg base CO
 mR:MkO P w K mg base CR
 wO:MW P w K mg base CO "weight" k7
 wR:MW P w K mg base CR "weight" k7
 sO:MW P w K mg base CO "seen" VU
 sR:MW P w K mg base CR "seen" Xe
structure OG(l:())(ns:List Int)(k:Nat):Prop where
 g:j9 l=Aa
 k3:k<3
 nl:ns.length=l.length
 nb:∀n ∈ ns,1<=n/\n<=1000000
noncomputable def jn(l:())(w:()):List Int:=w.map λc=>((l.idxOf c:Nat):Int)
noncomputable def qK(k:Nat)(l:())(w:()):List Int:=jn l (xH k w)
def zcG(CO CR CW:pX):pX->Prop:=λC=>C=CO\/C=CR\/C=CW
theorem OrdAt.fam{CO CR CW:pX}{H:Hp}{o:pX}{k:Nat}{l:()}{ns:List Int}(h:OrdAt CO CR CW H o k l ns):∃C dx fs,zcG CO CR CW C/\H o=tY (.ins C dx fs)/\(∀m:re,m≠"letters"->m≠"weights"->fs.lookup m=tZ)/\fs.lookup ("letters" : re)=tY (V.str (tx l)):=by
 have e1:∀m:re,m≠"letters"->(m ==("letters" : re))=Ab:=λm hm=>by simpa using hm
 obtain⟨dx,⟨h1,h2⟩ | ⟨h1,h2⟩⟩:=h
 ·exact#[_,_,_,.inl rfl,h2,λm hm _=>by simp [bo,e1 m hm],rfl]
 ·exact#[_,_,_,.inr (.inl rfl),h2,λm hm _=>by simp [bo,e1 m hm],rfl]
def jh(CO CR CW:pX):Sp:=λvs H Q _=>∃(o:pX) (k:Nat) (l:()) (ns:List Int) (w:()),vs=[.ref o,.str (tx w)]/\OrdAt CO CR CW H o k l ns/\OG l ns k/\w.length<=1000/\(∀c ∈ w,c ∈ l)/\∀(p q:pX) (H':Hp),Same H H'->H' p=tY (.tup [.int (zy k l ns w),.ref q])->H' q=tY (.lst ((qK k l w).map V.int))->Q (.ref p) H'
theorem Jx{H:Hp}{CO CR CW o D:pX}{k:Nat}{l:()}{ns:List Int}{v:()}{a1:Option V}{Q:VK}(T:TOrd K mg CO CR CW)(ho:OrdAt CO CR CW H o k l ns)(hl:v.length<=1000)(hm:∀c ∈ v,c ∈ l)(hD:H D=tZ)(q:∀H',Same H H'->H' D=tY (.lst ((jn l v).map V.int))->Q (.ref D) H') :
  CompS (tx v) (yD 0) vS (tBM K "str" zw (zbX K (yt 1) "letters") (zM (yt 0) xM)) 1 [0] [!!o,a1] H Q D:=by
 have s16:=zP;refine CompS.by (λi Ae H'=>Same H H'/\H' D=tY (.lst Ae)/\Ae=(jn l (v.take i)).map V.int) #[ze hD,zf,rfl] ?_ ?_
 ·refine nm4 ?_;rintro i c Ae H' hc ⟨hs,hH,rfl⟩:_;have hci:=(Af.mp hc).1;have hcl:=hm c (af hc);obtain⟨C,dx,fs,hf,ho',_,hlk⟩:=(ho.same hs).fam
  have hC:Cls K C/\NoAttr K C "letters":=by
   rcases hf with rfl | rfl | rfl
   ·exact#[T.cO,T.lO]
   ·exact#[T.cR,T.lR]
   ·exact#[T.cW,T.lW]
  right
  erw[vS]
  ac_rfl;refine#[xZ,_,_,_,ho',hC.1,hC.2,_,hlk,trivial,_,rfl,_,Wi hcl,hH,by rw[ac];unfold jn;rw[ac,aI];lia,CNx.mk hci #[zH hs hD,zf,?_]];unfold jn;rw[zN hc,ax,ax];rfl
 ·rintro Ae H' ⟨hs,hH,rfl⟩;rw[aO]at hH;exact q H' hs hH
theorem kX:sQz 2 ["self","word"] xg:=by nofun
theorem vR{f CO CR CW:pX}{fd:ra}(B:Bt mg)(T:TWS P w K mg base CO CR CW)(F:Fun K "rank" "Order.rank" xg f fd) :(2&&&["self","word"]) (jh CO CR CW):=by
 exists F.ok kX
 ·obtain⟨o,k,l,ns,w,rfl,ho,hG,hw,hm,q⟩:=h;refine#[_,(zc (zk (zW (za (zci T.wO T.wR T.wO T.cO T.cR T.cO hr (pv 0) (za (pv 1) zd)) (za (xY (own:=["letter"]) (caps:=["self"]) (ix:=[0]) (tt:=vS) (te:=(tBM K "str" zw (zbX K (yt 1) "letters") (zM (yt 0) xM))) rfl (z6 (sc:=zh xg) rfl (by symm) (by symm) (by symm) rfl (by symm) (by symm) rfl) (XA (zci T.sO T.sR T.sO T.cO T.cR T.cO hr (pv 0) (za (pv 1) zd))) (λ_ _ _ _ _ _=>zA (i:=0) (show List.Nodup [_,_] by decide) rfl (.inl rfl)) (λ_ _ _ _ _ _=>y0) (λ_ _ _ _ _ _=>(vq bL eY eZ VI (qf (pv 1) rfl) (za (pv 0) zd)))) zd))))),?_];have s16:=zP
  have hsl:(xH k w).length<=1000:=by
   unfold xH;split
   ·rw[cE];exact hw
   ·exact hw
  have hsm:∀c ∈ xH k w,c ∈ l:=λc hc=>by
   unfold xH at hc;split at hc
   ·exact hm c (An.mp hc)
   ·exact hm c hc
  have l6:l.length<=6:=(of_decide_eq_true hG.g).2.1;have fin:∀H1,Same H H1->∀D,H1 D=tZ->CompS (tx (xH k w)) (yD 0) vS (tBM K "str" zw (zbX K (yt 1) "letters") (zM (yt 0) xM)) 1 [0] [!!o,~~~w] H1 (λx5 H1=>2<=pV/\∀p,H1 p=tZ->Q (.ref p) (upd H1 p (.tup [.int (zy k l ns w),x5]))) D:=λH1 s1 D hD=>Jx T.toTOrd (ho.same s1) hsl hsm hD λH' s' hH=>#[⋯,λp hp=>q p D _ (s1.trans (s'.trans (ze hp))) zf (ze hp _ _ hH)];ac_rfl;obtain⟨dx',⟨h1,h2⟩ | ⟨h1,h2⟩⟩:=id ho
  ·have e1:zy k l ns w=(w.length:Int):=by unfold zy;rw[if_neg ⋯]
   have e2:xH k w=w:=by unfold xH;rw[if_neg ⋯]
   rw[e1,e2]at fin;exact .inl #[_,_,h2,rfl,o,w,rfl,hw,.inl #[_,_,h2,rfl,o,w,rfl,_,rfl,fin H (Same.refl _)]]
  ·have e1:zy k l ns w=(w.length:Int):=by unfold zy;rw[if_neg ⋯]
   have e2:xH k w=w.reverse:=by unfold xH;rw[if_pos h1]
   rw[e1,e2]at fin;exact .inr (.inl #[_,_,h2,rfl,o,w,rfl,hw,.inr (.inl #[_,_,h2,rfl,o,w,rfl,hw,_,rfl,fin H (Same.refl _)])])
noncomputable def zL(k:Nat)(l:())(ns:List Int)(u v:()):Bool:=if zy k l ns u=zy k l ns v then ltI (qK k l u) (qK k l v)else decide (zy k l ns u<zy k l ns v)
abbrev DR(P:rb)(w:rf)(K:pW)(mg:re->Option pY)(base:rj)(CO CR CW:pX):Prop:=DMF P w K mg base CX0 2 (zcG CO CR CW) "rank" ["self","word"] (λ_=>jh CO CR CW)
theorem kK{H:Hp}{p q:pX}{z:Int}{ns:List Int}(hp:H p=tY (.tup [.int z,.ref q]))(hq:H q=tY (.lst (ns.map V.int))):Is K H (.tup [.int z,.lst (ns.map L3.D.int)]) (.ref p):=by
 erw[Is,Iss]
 exact#[p,_,rfl,SqT.of hp,_,_,rfl,rfl,_,_,rfl,#[q,_,rfl,SqL.of hq,Iss.ints ns],rfl]
theorem yZ:∀x:List Int,ltI x x=Ab
 | []=>rfl
 | a::x=>by
  rw[ltI,if_pos rfl];exact yZ x
theorem V7(a b:Int)(x y:List Int):ltD (.tup [.int a,.lst (x.map L3.D.int)]) (.tup [.int b,.lst (y.map L3.D.int)])=if a=b then ltI x y else decide (a<b):=by
 erw[ltD,vD,eqD,Yv,ZK]
 by_cases h:a=b
 ·subst h;by_cases h2:x=y
  ·subst h2;simp [yZ]
  ·simp [h2]
 ·simp [h]
def VN(CO CR CW:pX):Sp:=λvs H Q _=>∃(o:pX) (k:Nat) (l:()) (ns:List Int) (u v:()),vs=[.ref o,.str (tx u),.str (tx v)]/\OrdAt CO CR CW H o k l ns/\OG l ns k/\u.length<=1000/\v.length<=1000/\(∀c ∈ u,c ∈ l)/\(∀c ∈ v,c ∈ l)/\∀H':Hp,Same H H'->Q (.bl (zL k l ns u v)) H'
theorem jj:sQz 3 ["self","one","other"] xv:=by nofun
theorem wG{f CO CR CW:pX}{fd:ra}(B:Bt mg)(DRk:DR P w K mg base CO CR CW)(F:Fun K "before" "Order.before" xv f fd) :(3&&&["self","one","other"]) (VN CO CR CW):=by
 exists F.ok jj
 ·obtain⟨o,k,l,ns,u,v,rfl,ho,hG,hu,hv,hmu,hmv,q⟩:=h;refine#[_,(zc (zk (yE (zdz (kL hr)) (zbW DRk hr (pv 0) (za (pv 1) zd)) (zbW DRk hr (pv 0) (za (pv 2) zd)) (zB _)))),?_];have s16:=zP;ac_rfl;obtain⟨C,dx,fs,hf,ho1,hn,_⟩:=ho.fam;have h1:fs.lookup ("rank" : re)=tZ:=hn _ ∅ ∅;refine#[C,hf,dx,fs,ho1,h1,o,k,l,ns,u,rfl,ho,hG,hu,hmu,λp x H1 s1 hp hx=>#[C,hf,dx,fs,s1 _ _ ho1,h1,o,k,l,ns,v,rfl,ho.same s1,hG,hv,hmv,λp' x' H2 s2 hp' hx'=>?_]];refine zbp (kK (s2 _ _ hp) (s2 _ _ hx)) (kK hp' hx') (by erw[dpD,uK,Y7];decide) (by erw[okD,kO];exact#[trivial,qi _ _,trivial]) ?_;rw[V7];exact q H2 (s1.trans s2)
abbrev DB(P:rb)(w:rf)(K:pW)(mg:re->Option pY)(base:rj)(CO CR CW:pX):Prop:=DMF P w K mg base CX0 3 (zcG CO CR CW) "before" ["self","one","other"] (λ_=>VN CO CR CW)
noncomputable def zae(k:Int)(ls:())(ns:List Int)(w:()):Int:=(w.map λc=>if k=2 then ns.getD (ls.idxOf c) 0 else 1).sum
theorem Ji{k:Int}{ls:()}{ns:List Int}{w:()}(h:k≠2):zae k ls ns w=(w.length:Int):=by
 unfold zae
 induction w with
 | nil=>rfl
 | cons c w ih =>
  rw[ao,bi,ih,if_neg h,aB];lia
theorem qR{ls:()}{ns:List Int}(f g:Nat->Int):((ls.zip ns).map λp=>(f p.1+g p.1) * p.2).sum=((ls.zip ns).map λp=>f p.1 * p.2).sum+((ls.zip ns).map λp=>g p.1 * p.2).sum:=by
 induction ls.zip ns with
 | nil=>rfl
 | cons p r ih =>
  rw[ao,ao,ao,bi,bi,bi,ih,Int.add_mul];lia
theorem Qm:∀{ls:()} {ns:List Int} {c:Nat},ls.Nodup->ns.length=ls.length->c ∈ ls->((ls.zip ns).map λp=>(if p.1=c then (1:Int)else 0) * p.2).sum=ns.getD (ls.idxOf c) 0
 | [],ns,c,_,_,hc=>(nomatch hc)
 | d::ls,[],c,_,hl,_=>by cases hl
 | d::ls,n::ns,c,hn,hl,hc=>by
  rw[de,ao,bi];have hnd:=Ap.mp hn;by_cases h:d=c
  ·subst h
   have h0:∀(l:()) (m:List Int),d ∉ l->((l.zip m).map λp=>(if p.1=d then (1:Int)else 0) * p.2).sum=0:=by
    intro l
    induction l with
    | nil=>intro m _;rfl
    | cons x l ih =>
     intro m hx
     cases m with
     | nil=>rfl
     | cons y m =>
      rw[de,ao,bi,ih m (λq=>hx (am _ q)),if_neg (show ¬ x=d from λe=>hx (by rw[e];exact aw))];lia
   rw[h0 ls ns hnd.1,if_pos rfl,List.idxOf_cons_self];simp
  ·have hc':c ∈ ls:=by
    rcases Ah.mp hc with e | e
    ·exact absurd e.symm h
    ·exact e
   rw[Qm hnd.2 (by simpa using hl) hc',if_neg h,List.idxOf_cons,show (d == c)=Ab by simpa using h];simp
theorem XD{ls:()}{ns:List Int}(hn:ls.Nodup)(hl:ns.length=ls.length):∀{w:()},(∀x ∈ w,x ∈ ls)->zae 2 ls ns w=Q2 ls ns w
 | [],_=>by
  have h0:∀r:List (Nat × Int),(r.map λp=>((([]:()).count p.1:Nat):Int) * p.2).sum=0:=by
   intro r
   induction r with
   | nil=>rfl
   | cons p r ih=>rw[ao,bi,ih];simp
  exact (h0 _).symm
 | c::w,h=>by
  have ih:=XD hn hl (w:=w) λx hx=>h x (am _ hx)
  have e1:zae 2 ls ns (c::w)=ns.getD (ls.idxOf c) 0+zae 2 ls ns w:=by
   unfold zae;rw[ao,bi,if_pos rfl]
  rw[e1,ih,<- Qm hn hl (h c aw)];unfold Q2;rw[<- qR (λx=>if x=c then 1 else 0) (λx=>(w.count x:Int))];refine congrArg List.sum (bt λp _=>?_);rw[List.count_cons];by_cases e:c=p.1
  ·rw[if_pos e.symm,if_pos (by simpa using e)];simp [Int.add_comm]
  ·rw[if_neg (λz=>e z.symm),if_neg (by simpa using e)];simp
noncomputable def wt(k:Nat)(ns:List Int)(i:Int):Int:=if k=2 then ns.getD i.toNat 0 else 1
theorem xK{g:Int->Int}:∀{x:List Int},(∀i ∈ x,0<g i)->0<=(x.map g).sum
 | [],_=>by simp
 | a::x,h=>by
  have h1:=h a aw;have h2:=xK (x:=x) λi hi=>h i (am _ hi);rw[ao,bi];lia
theorem wo:∀{x y:List Int},x≠y->ltI x y=!ltI y x
 | [],[],h=>absurd rfl h
 | [],_::_,_=>rfl
 | _::_,[],_=>rfl
 | a::x,b::y,h=>by
  rw[ltI,ltI];by_cases e:a=b
  ·rw[if_pos e,if_pos e.symm];exact wo λq=>h (by rw[e,q])
  ·rw[if_neg e,if_neg λq=>e q.symm];by_cases c:a<b
   ·rw[decide_eq_true c,decide_eq_false ⋯];rfl
   ·rw[decide_eq_false c,decide_eq_true ⋯];rfl
theorem qI:∀{x y z:List Int},ltI x y=Aa->ltI y z=Aa->ltI x z=Aa
 | [],[],_,h,_=>by cases h
 | [],_::_,[],_,h=>by cases h
 | [],_::_,_::_,_,_=>rfl
 | _::_,[],_,h,_=>by cases h
 | _::_,_::_,[],_,h=>by cases h
 | a::x,b::y,c::z,h1,h2=>by
  rw[ltI]at h1 h2 ⊢;by_cases e:a=b
  ·subst e;rw[if_pos rfl]at h1;by_cases f:a=c
   ·rw[if_pos f]at h2 ⊢;exact qI h1 h2
   ·rw[if_neg f]at h2 ⊢;exact h2
  ·rw[if_neg e]at h1;have h1':=of_decide_eq_true h1;by_cases f:b=c
   ·subst f;rw[if_neg e];exact h1
   ·rw[if_neg f]at h2;have h2':=of_decide_eq_true h2;rw[if_neg ⋯];exact decide_eq_true ⋯
theorem Xn:∀(c x y:List Int),ltI (c ++ x) (c ++ y)=ltI x y
 | [],_,_=>rfl
 | a::c,x,y=>by
  rw[bh,bh,ltI,if_pos rfl];exact Xn c x y
theorem XB{g:Int->Int}{c:List Int}:∀{x y:List Int},(∀i ∈ x,0<g i)->(∀i ∈ y,0<g i)->(x.map g).sum=(y.map g).sum->ltI (x ++ c) (y ++ c)=ltI x y
 | [],[],_,_,_=>yZ c
 | [],b::y,_,hy,h=>by
  have h1:=hy b aw;have h2:=xK (x:=y) λi hi=>hy i (am _ hi);rw[ao,bi,aM,List.sum_nil]at h;lia
 | a::x,[],hx,_,h=>by
  have h1:=hx a aw;have h2:=xK (x:=x) λi hi=>hx i (am _ hi);rw[ao,bi,aM,List.sum_nil]at h;lia
 | a::x,b::y,hx,hy,h=>by
  rw[bh,bh,ltI,ltI];by_cases e:a=b
  ·rw[if_pos e,if_pos e];rw[ao,bi,ao,bi,e]at h;exact XB (λi hi=>hx i (am _ hi)) (λi hi=>hy i (am _ hi)) ⋯
  ·rw[if_neg e,if_neg e]
section
variable{k:Nat}{l:()}{ns:List Int}{t u v:()}
theorem JF(a b:()):Q2 l ns (a ++ b)=Q2 l ns a+Q2 l ns b:=by
 unfold Q2;rw[<- qR (λx=>(a.count x:Int)) (λx=>(b.count x:Int))];refine congrArg List.sum (bt λp _=>?_);rw[List.count_append];simp
theorem yY(a b:()):zy k l ns (a ++ b)=zy k l ns a+zy k l ns b:=by
 unfold zy;by_cases h:k=2
 ·rw[if_pos h,if_pos h,if_pos h,JF]
 ·rw[if_neg h,if_neg h,if_neg h,ak];lia
theorem yX(G:OG l ns k):∀{w:()},(∀c ∈ w,c ∈ l)->zy k l ns w=((jn l w).map (wt k ns)).sum:=by
 intro w hm;have hn:l.Nodup:=(of_decide_eq_true G.g).2.2.2
 have e:((jn l w).map (wt k ns)).sum=zae (k:Int) l ns w:=by
  unfold jn zae;rw[cp];refine congrArg List.sum (bt λc _=>?_);show wt k ns _=_;unfold wt;by_cases h:k=2
  ·rw[if_pos h,if_pos ⋯,aR]
  ·rw[if_neg h,if_neg ⋯]
 rw[e];unfold zy;by_cases h:k=2
 ·rw[if_pos h,h];exact (XD hn G.nl hm).symm
 ·rw[if_neg h,Ji ⋯]
theorem Yd(G:OG l ns k)(hm:∀c ∈ u,c ∈ l):∀i ∈ jn l u,0<wt k ns i:=by
 intro i hi;obtain⟨c,hc,rfl⟩:=Ag.mp hi;have hlt:=aC (hm c hc);have hl:=G.nl;unfold wt;split
 ·rw[aR,aa,ae ⋯];have:=(G.nb _ (cP (l:=ns) (n:=l.idxOf c) ⋯)).1;show 0<ns[l.idxOf c];lia
 ·decide
theorem vP(G:OG l ns k)(hm:∀c ∈ u,c ∈ l):0<=zy k l ns u:=by
 rw[yX G hm];exact xK (Yd G hm)
theorem j2(G:OG l ns k)(hm:∀c ∈ u,c ∈ l)(h:u≠[]):0<zy k l ns u:=by
 cases u with
 | nil=>exact absurd rfl h
 | cons a u =>
  have h1:=Yd G hm (l.idxOf a:Nat) (Ag.mpr #[a,aw,rfl]);have h2:0<=((jn l u).map (wt k ns)).sum:=xK (Yd (u:=u) G λc hc=>hm c (am _ hc));rw[yX G hm];show 0<((((l.idxOf a:Nat):Int)::jn l u).map (wt k ns)).sum;rw[ao,bi];lia
theorem Zr:∀{u v:()},(∀c ∈ u,c ∈ l)->(∀c ∈ v,c ∈ l)->jn l u=jn l v->u=v
 | [],[],_,_,_=>rfl
 | [],_::_,_,_,h=>by cases h
 | _::_,[],_,_,h=>by cases h
 | a::u,b::v,hu,hv,h=>by
  unfold jn at h;rw[ao,ao]at h;injection h with h1 h2;have h3:l.idxOf a=l.idxOf b:=⋯;have ha:=bS (aC (hu a aw));have hb:=bS (aC (hv b aw))
  have:a=b:=by
   rw[<- ha,<- hb]
   erw[h3]
  rw[this,Zr (λc hc=>hu c (am _ hc)) (λc hc=>hv c (am _ hc)) h2]
theorem y9:zL k l ns u u=Ab:=by
 unfold zL;rw[if_pos rfl,yZ]
theorem X2(hu:∀c ∈ u,c ∈ l)(hv:∀c ∈ v,c ∈ l)(h:qK k l u=qK k l v):u=v:=by
 unfold qK xH at h;by_cases e:k=1
 ·rw[if_pos e,if_pos e]at h;exact List.reverse_inj.mp (Zr (λc hc=>hu c (An.mp hc)) (λc hc=>hv c (An.mp hc)) h)
 ·rw[if_neg e,if_neg e]at h;exact Zr hu hv h
theorem qB(hu:∀c ∈ u,c ∈ l)(hv:∀c ∈ v,c ∈ l)(h:u≠v):zL k l ns u v=!zL k l ns v u:=by
 unfold zL;by_cases e:zy k l ns u=zy k l ns v
 ·rw[if_pos e,if_pos e.symm];exact wo λq=>h (X2 hu hv q)
 ·rw[if_neg e,if_neg λq=>e q.symm];by_cases c:zy k l ns u<zy k l ns v
  ·rw[decide_eq_true c,decide_eq_false ⋯];rfl
  ·rw[decide_eq_false c,decide_eq_true ⋯];rfl
theorem qm(h1:zL k l ns t u=Aa)(h2:zL k l ns u v=Aa):zL k l ns t v=Aa:=by
 unfold zL at h1 h2 ⊢;generalize zy k l ns t=a at *;generalize zy k l ns u=b at *;generalize zy k l ns v=c at *;by_cases e:a=b
 ·subst e;rw[if_pos rfl]at h1;by_cases f:a=c
  ·rw[if_pos f]at h2 ⊢;exact qI h1 h2
  ·rw[if_neg f]at h2 ⊢;exact h2
 ·rw[if_neg e]at h1;have h1':=of_decide_eq_true h1;by_cases f:b=c
  ·subst f;rw[if_neg e];exact h1
  ·rw[if_neg f]at h2;have h2':=of_decide_eq_true h2;rw[if_neg ⋯];exact decide_eq_true ⋯
theorem Xz(a b:()):jn l (a ++ b)=jn l a ++ jn l b:=ax
theorem ZA(G:OG l ns k)(hu:∀c ∈ u,c ∈ l)(hv:∀c ∈ v,c ∈ l)(e:zy k l ns u=zy k l ns v)(c:List Int):ltI (jn l u ++ c) (jn l v ++ c)=ltI (jn l u) (jn l v):=by
 rw[yX G hu,yX G hv]at e;exact XB (Yd G hu) (Yd G hv) e
theorem jW(G:OG l ns k)(hu:∀c ∈ u,c ∈ l):zy k l ns u.reverse=zy k l ns u:=by
 rw[yX G hu,yX G λc hc=>hu c (An.mp hc)];unfold jn;rw[eK,eK,List.sum_reverse]
theorem Yr(G:OG l ns k)(ht:∀c ∈ t,c ∈ l)(hu:∀c ∈ u,c ∈ l)(hv:∀c ∈ v,c ∈ l):zL k l ns (t ++ u) (t ++ v)=zL k l ns u v/\zL k l ns (u ++ t) (v ++ t)=zL k l ns u v:=by
 have hur:∀c ∈ u.reverse,c ∈ l:=λc hc=>hu c (An.mp hc);have hvr:∀c ∈ v.reverse,c ∈ l:=λc hc=>hv c (An.mp hc);unfold zL;rw[yY,yY,yY,yY];by_cases e:zy k l ns u=zy k l ns v
 ·rw[if_pos ⋯,if_pos e,if_pos ⋯];unfold qK xH;by_cases f:k=1
  ·erw[if_pos f,List.reverse_append,Xz]
   exact#[ZA G hur hvr (by rw[jW G hu,jW G hv,e]) _,Xn _ _ _]
  ·erw[if_neg f,Xz]
   exact#[Xn _ _ _,ZA G hu hv e _]
 ·rw[if_neg ⋯,if_neg e,if_neg ⋯];exact#[by congr 1;exact propext ⋯,by congr 1;exact propext ⋯]
theorem JD(G:OG l ns k)(ht:∀c ∈ t,c ∈ l)(hu:∀c ∈ u,c ∈ l)(hv:∀c ∈ v,c ∈ l)(h:t ++ u ++ v≠u):zL k l ns u (t ++ u ++ v)=Aa/\zL k l ns (t ++ u ++ v) u=Ab:=by
 have h0:0<zy k l ns t+zy k l ns v:=by
  have h1:=vP G ht;have h2:=vP G hv;by_cases e:t=[]
  ·by_cases f:v=[]
   ·subst e f;simp at h
   ·have:=j2 G hv f;lia
  ·have:=j2 G ht e;lia
 unfold zL;rw[yY,yY,if_neg ⋯,if_neg ⋯];exact#[decide_eq_true ⋯,decide_eq_false ⋯]
end
theorem ZC:∀x y:List Int,ltI x y=Aa->ltI y x=Ab
 | [],[],h=>by cases h
 | [],_::_,_=>rfl
 | _::_,[],h=>by cases h
 | a::x,b::y,h=>by
  rw[ltI]at h ⊢;by_cases e:a=b
  ·rw[if_pos e]at h;rw[if_pos e.symm];exact ZC x y h
  ·rw[if_neg e]at h;rw[if_neg (λq=>e q.symm)];have:=of_decide_eq_true h;exact decide_eq_false ⋯
theorem YM{k:Nat}{l:()}{ns:List Int}{u v:()}(h:zL k l ns u v=Aa):zL k l ns v u=Ab:=by
 unfold zL at h ⊢;by_cases e:zy k l ns u=zy k l ns v
 ·rw[if_pos e]at h;rw[if_pos e.symm];exact ZC _ _ h
 ·rw[if_neg e]at h;rw[if_neg (λq=>e q.symm)];have:=of_decide_eq_true h;exact decide_eq_false ⋯
noncomputable def stJ(l:())(ps:List zq)(q j:Nat):Bool:=((ps[j]?).map λp=>zu l (q:Int) p.1).getD Ab
theorem jP{l:()}{ps:List zq}{q j:Nat}{p:zq}(h:ps[j]? = tY p):stJ l ps q j=zu l (q:Int) p.1:=by
 unfold stJ;rw[h];rfl
theorem vb{l:()}{ps:List zq}{q j:Nat}(h:stJ l ps q j=Aa):j<ps.length/\∃p,ps[j]? = tY p/\zu l (q:Int) p.1=Aa:=by
 unfold stJ at h
 cases e:ps[j]? with
 | none=>rw[e]at h;cases h
 | some p =>
  rw[e]at h;exact#[(Af.mp e).1,p,rfl,h]
noncomputable def qQ(l:())(ps:List zq)(q i:Nat):List (Nat × Nat):=((aH i).filter (stJ l ps q)).map λj=>(j,q)
noncomputable def xy(l:())(ps:List zq)(k:Nat):List (Nat × Nat):=(aH k).flatMap λq=>qQ l ps q ps.length
theorem Vf(l:())(ps:List zq)(q i:Nat):qQ l ps q (i+1)=qQ l ps q i ++ (if stJ l ps q i=Aa then [(i,q)]else []):=by
 unfold qQ;rw[cw,cK,ax];congr 1;by_cases h:stJ l ps q i=Aa
 ·rw[if_pos h,eQ h];rfl
 ·rw[if_neg h,eR h];rfl
theorem jJ(l:())(ps:List zq)(k:Nat):xy l ps (k+1)=xy l ps k ++ qQ l ps k ps.length:=by
 unfold xy;rw[cw,cF];simp
theorem VS(l:())(ps:List zq)(q i:Nat):(qQ l ps q i).length<=i:=by
 unfold qQ;rw[ac];have:=cM (stJ l ps q) (aH i);rw[bZ]at this;exact this
theorem UH(l:())(ps:List zq):∀k,(xy l ps k).length<=k * ps.length
 | 0=>by simp [xy]
 | k+1=>by
  rw[jJ,ak,eC];have:=UH l ps k;have:=VS l ps k ps.length;lia
theorem usesN_mem{l:()}{ps:List zq}{q i:Nat}{u:Nat × Nat}:u ∈ qQ l ps q i ↔ u.2=q/\u.1<i/\stJ l ps q u.1=Aa:=by
 unfold qQ;rw[List.mem_map];constructor
 ·rintro⟨j,hj,rfl⟩;rw[List.mem_filter,fh]at hj;exact#[rfl,hj.1,hj.2]
 ·rintro⟨h1,h2,h3⟩;exact#[u.1,Am.mpr #[Al.mpr h2,h3],by rw[<- h1]]
theorem usesK_mem{l:()}{ps:List zq}{k:Nat}{u:Nat × Nat}:u ∈ xy l ps k ↔ u.2<k/\stJ l ps u.2 u.1=Aa:=by
 unfold xy;rw[List.mem_flatMap];constructor
 ·rintro⟨q,hq,hu⟩;obtain⟨h1,h2,h3⟩:=usesN_mem.mp hu;rw[fh]at hq;rw[h1];exact#[hq,h3]
 ·rintro⟨h1,h2⟩;exact#[u.2,Al.mpr h1,usesN_mem.mpr #[rfl,(vb h2).1,h2]]
def uLt(a b:Nat × Nat):Prop:=a.2<b.2\/(a.2=b.2/\a.1<b.1)
theorem uA(l:())(ps:List zq)(q:Nat):∀i,(qQ l ps q i).Pairwise uLt
 | 0=>by simp [qQ]
 | i+1=>by
  rw[Vf];refine Av.mpr #[uA l ps q i,?_,λa ha b hb=>?_]
  ·split
   ·exact eP _ _
   ·exact List.Pairwise.nil
  ·obtain⟨h1,h2,_⟩:=usesN_mem.mp ha;split at hb
   ·rw[Aj.mp hb];exact .inr #[h1,h2]
   ·cases hb
theorem wK(l:())(ps:List zq):∀k,(xy l ps k).Pairwise uLt
 | 0=>by simp [xy]
 | k+1=>by
  rw[jJ];refine Av.mpr #[wK l ps k,uA l ps k _,λa ha b hb=>?_];have h1:=(usesK_mem.mp ha).1;have h2:=(usesN_mem.mp hb).1;exact .inl ⋯
def FirstN(l:())(ps:List zq)(lo hi n:Nat)(r:Option (Nat × Nat)):Prop :=
 (r=tZ/\∀j q,j<n->lo<=q->q<hi->stJ l ps q j=Ab) \/
 ∃n0 q0,r=tY (n0,q0)/\n0<n/\lo<=q0/\q0<hi/\stJ l ps q0 n0=Aa/\∀j q,j<n->lo<=q->stJ l ps q j=Aa->q0<q\/(q0=q/\n0<=j)
theorem FirstN.uniq{l:()}{ps:List zq}{lo hi n:Nat}{r r':Option (Nat × Nat)}(h:FirstN l ps lo hi n r)(h':FirstN l ps lo hi n r'):r=r':=by
 rcases h with ⟨rfl,h⟩ | ⟨n0,q0,rfl,a1,a2,a3,a4,a5⟩
 ·rcases h' with ⟨rfl,_⟩ | ⟨n0,q0,rfl,a1,a2,a3,a4,a5⟩
  ·rfl
  ·rw[h n0 q0 a1 a2 a3]at a4;cases a4
 ·rcases h' with ⟨rfl,h⟩ | ⟨n1,q1,rfl,b1,b2,b3,b4,b5⟩
  ·rw[h n0 q0 a1 a2 a3]at a4;cases a4
  ·have x1:=a5 n1 q1 b1 b2 b4;have x2:=b5 n0 q0 a1 a2 a4;have e1:q0=q1:=⋯;have e2:n0=n1:=⋯;rw[e1,e2]
theorem WT{l:()}{ps:List zq}{r:Option (Nat × Nat)}(h:FirstN l ps 0 l.length ps.length r):r=(xy l ps l.length).head?:=by
 have hs:=wK l ps l.length;refine h.uniq ?_
 cases e:xy l ps l.length with
 | nil =>
  refine .inl #[rfl,λj q _ _ hq=>?_]
  cases hb:stJ l ps q j with
  | false=>rfl
  | true =>
   have:(j,q) ∈ xy l ps l.length:=usesK_mem.mpr #[hq,hb];rw[e]at this;cases this
 | cons u us =>
  rw[e]at hs;have hu:u ∈ xy l ps l.length:=by rw[e];exact aw
  obtain⟨h1,h2⟩:=usesK_mem.mp hu;refine .inr #[u.1,u.2,rfl,(vb h2).1,aD _,h1,h2,λj q hj _ hb=>?_];by_cases hq:q<l.length
  ·have:(j,q) ∈ xy l ps l.length:=usesK_mem.mpr #[hq,hb];rw[e]at this;rcases Ah.mp this with e2 | e2
   ·rw[<- e2];exact .inr #[rfl,al _]
   ·rcases (AC.mp hs).1 _ e2 with h | ⟨h,h'⟩
    ·exact .inl h
    ·exact .inr #[h,db h']
  ·exact .inl ⋯
theorem jk{l p:()}{q:Nat}(hp:p≠[])(h:zu l (q:Int) p=Aa):q<l.length:=by
 obtain⟨h0,h1,_⟩:=of_decide_eq_true h;have:0<p.length:=Ar.mpr hp;lia
theorem FirstN.keep{l:()}{ps:List zq}{lo hi n:Nat}{r:Option (Nat × Nat)}{p:zq}(h:FirstN l ps lo hi n r)(hp:ps[n]? = tY p)(hn:∀q:Nat,lo<=q->q<(r.map Prod.snd).getD hi->zu l (q:Int) p.1=Ab):FirstN l ps lo hi (n+1) r:=by
 rcases h with ⟨rfl,h⟩ | ⟨n0,q0,rfl,a1,a2,a3,a4,a5⟩
 ·refine .inl #[rfl,λj q hj h1 h2=>?_];by_cases e:j<n
  ·exact h j q e h1 h2
  ·have:j=n:=⋯;subst this;rw[jP hp];exact hn q h1 h2
 ·refine .inr #[n0,q0,rfl,⋯,a2,a3,a4,λj q hj h1 h2=>?_];by_cases e:j<n
  ·exact a5 j q e h1 h2
  ·have:j=n:=⋯;subst this;rw[jP hp]at h2;by_cases hq:q<q0
   ·rw[hn q h1 hq]at h2;cases h2
   ·lia
theorem FirstN.take{l:()}{ps:List zq}{lo hi n k:Nat}{r:Option (Nat × Nat)}{p:zq}(h:FirstN l ps lo hi n r)(hp:ps[n]? = tY p)(h1:lo<=k)(h2:k<(r.map Prod.snd).getD hi)(h3:zu l (k:Int) p.1=Aa)(hn:∀q:Nat,lo<=q->q<k->zu l (q:Int) p.1=Ab):FirstN l ps lo hi (n+1) (tY (n,k)):=by
 have hk:k<hi/\∀j q,j<n->lo<=q->stJ l ps q j=Aa->k<q:=by
  rcases h with ⟨rfl,h⟩ | ⟨n0,q0,rfl,a1,a2,a3,a4,a5⟩
  ·refine#[h2,λj q hj hl hb=>?_];by_cases hq:q<hi
   ·rw[h j q hj hl hq]at hb;cases hb
   ·have h2':k<hi:=h2;lia
  ·have h2':k<q0:=h2;refine#[⋯,λj q hj hl hb=>?_];have:=a5 j q hj hl hb;lia
 refine .inr #[n,k,rfl,⋯,h1,hk.1,by rw[jP hp];exact h3,λj q hj hl hb=>?_];by_cases e:j<n
 ·exact .inl (hk.2 j q e hl hb)
 ·have:j=n:=⋯;subst this;rw[jP hp]at hb;by_cases hq:q<k
  ·rw[hn q hl hq]at hb;cases hb
  ·lia
theorem FirstN.window{l:()}{ps:List zq}{lo mid hi n:Nat}{r:Option (Nat × Nat)}(h0:FirstN l ps lo mid n tZ)(hm:lo<=mid)(h:FirstN l ps mid hi n r):FirstN l ps lo hi n r:=by
 have h0':∀j q,j<n->lo<=q->q<mid->stJ l ps q j=Ab:=by
  rcases h0 with ⟨_,h⟩ | ⟨_,_,h,_⟩
  ·exact h
  ·cases h
 rcases h with ⟨rfl,h⟩ | ⟨n0,q0,rfl,a1,a2,a3,a4,a5⟩
 ·refine .inl #[rfl,λj q hj h1 h2=>?_];by_cases e:q<mid
  ·exact h0' j q hj h1 e
  ·exact h j q hj ⋯ h2
 ·refine .inr #[n0,q0,rfl,a1,⋯,a3,a4,λj q hj h1 h2=>?_];by_cases e:q<mid
  ·rw[h0' j q hj h1 e]at h2;cases h2
  ·exact a5 j q hj ⋯ h2
def NeL(ps:List zq):Prop:=∀p ∈ ps,p.1≠[]
theorem FirstN.toEnd{l:()}{ps:List zq}{lo hi n:Nat}{r:Option (Nat × Nat)}(hN:NeL ps)(h:FirstN l ps lo hi n r)(hl:r=tZ->l.length<=hi):FirstN l ps lo l.length n r:=by
 have hlt:∀j q,stJ l ps q j=Aa->q<l.length:=λj q hb=>by
  obtain⟨_,p,hp,hs⟩:=vb hb;exact jk (hN p (af hp)) hs
 rcases h with ⟨rfl,h⟩ | ⟨n0,q0,rfl,a1,a2,a3,a4,a5⟩
 ·exact .inl #[rfl,λj q hj h1 h2=>h j q hj h1 (by have:=hl rfl;lia)]
 ·exact .inr #[n0,q0,rfl,a1,a2,hlt _ _ a4,a4,a5]
noncomputable def zG(l:())(ps:List zq):Option (Nat × Nat):=(xy l ps l.length).head?
theorem Wl{l:()}{ps:List zq}{r:Option (Nat × Nat)}(h:FirstN l ps 0 l.length ps.length r):r=zG l ps:=WT h
theorem WF(l:())(ps:List zq)(hN:NeL ps):FirstN l ps 0 l.length ps.length (zG l ps):=by
 have hs:=wK l ps l.length;unfold zG
 cases e:xy l ps l.length with
 | nil =>
  refine .inl #[rfl,λj q _ _ hq=>?_]
  cases hb:stJ l ps q j with
  | false=>rfl
  | true =>
   have:(j,q) ∈ xy l ps l.length:=usesK_mem.mpr #[hq,hb];rw[e]at this;cases this
 | cons u us =>
  rw[e]at hs;have hu:u ∈ xy l ps l.length:=by rw[e];exact aw
  obtain⟨h1,h2⟩:=usesK_mem.mp hu;refine .inr #[u.1,u.2,rfl,(vb h2).1,aD _,h1,h2,λj q hj _ hb=>?_]
  have hq:q<l.length:=by
   obtain⟨_,p,hp,hs⟩:=vb hb;exact jk (hN p (af hp)) hs
  have:(j,q) ∈ xy l ps l.length:=usesK_mem.mpr #[hq,hb];rw[e]at this;rcases Ah.mp this with e2 | e2
  ·rw[<- e2];exact .inr #[rfl,al _]
  ·rcases (AC.mp hs).1 _ e2 with h | ⟨h,h'⟩
   ·exact .inl h
   ·exact .inr #[h,db h']
noncomputable def WJ(ps:List zq)(n:Nat):zq:=ps.getD n ([],[])
theorem y3{ps:List zq}{n:Nat}{p:zq}(h:ps[n]? = tY p):WJ ps n=p:=by
 unfold WJ;rw[aa,h];rfl
noncomputable def YV(l:())(ps:List zq)(u:Nat × Nat):():=yP l (u.2:Int) (WJ ps u.1).1 (WJ ps u.1).2
noncomputable def Vr(ps:List zq)(l:()):():=((zG l ps).map (YV l ps)).getD l
noncomputable def wAt(ps:List zq)(l:()):Nat->()
 | 0=>l
 | j+1=>Vr ps (wAt ps l j)
noncomputable def sAt(ps:List zq)(l:())(j:Nat):List (Nat × Nat):=(aH j).map λi=>(zG (wAt ps l i) ps).getD (0,0)
theorem WB(ps:List zq)(l:())(j:Nat):sAt ps l (j+1)=sAt ps l j ++ [(zG (wAt ps l j) ps).getD (0,0)]:=by
 unfold sAt;rw[cw,ax];rfl
theorem vv(ps:List zq)(l:())(j:Nat):(sAt ps l j).length=j:=by
 unfold sAt;rw[ac,bZ]
theorem xR{ps:List zq}{l:()}{j:Nat}{u:Nat × Nat}(h:zG (wAt ps l j) ps=tY u):wAt ps l (j+1)=YV (wAt ps l j) ps u:=by
 show Vr ps (wAt ps l j)=_;unfold Vr;rw[h];rfl
def Wm(ps:List zq)(l:())(j:Nat):Prop:=∀i,i<j->zG (wAt ps l i) ps≠tZ
theorem ko{ps:List zq}{l:()}{i j:Nat}(h1:Wm ps l i)(h2:zG (wAt ps l i) ps=tZ)(h3:Wm ps l j)(h4:zG (wAt ps l j) ps=tZ):i=j:=by
 rcases d8 i j with h | h | h
 ·exact absurd h2 (h3 i h)
 ·exact h
 ·exact absurd h4 (h1 j h)
theorem WN{l:()}{ps:List zq}{n q M lo:Nat}(h:FirstN l ps 0 l.length ps.length (tY (n,q)))(hN:NeL ps)(hM:∀p ∈ ps,p.1.length<=M)(hlo:lo=0\/lo+M<=q+1):FirstN (YV l ps (n,q)) ps 0 lo ps.length tZ:=by
 refine .inl #[rfl,λj x hj _ hx=>?_];rcases h with ⟨h,_⟩ | ⟨n0,q0,e,a1,a2,a3,a4,a5⟩
 ·cases h
 ·injection e with e;injection e with e1 e2;subst e1 e2
  cases hb:stJ (YV l ps (n,q)) ps x j with
  | false=>rfl
  | true =>
   obtain⟨_,p,hp,hs⟩:=vb hb;have hpm:=hM p (af hp);have hpn:=Ar.mpr (hN p (af hp));have hxq:x+p.1.length<=q:=⋯;obtain⟨s0,s1,s2⟩:=of_decide_eq_true hs;rw[aR]at s2;obtain⟨_,p2,hp2,hs2⟩:=vb a4;obtain⟨t0,t1,t2⟩:=of_decide_eq_true hs2
   have e4:(YV l ps (n,q)).take q=l.take q:=by
    unfold YV yP;rw[aR,aL,bj (by rw[aI];lia),fj,fG]
   have e5:∀z:(),((z.take q).drop x).take p.1.length=(z.drop x).take p.1.length:=λz=>by
    rw[List.drop_take,fj];congr 1;lia
   have s3:(l.drop x).take p.1.length=p.1:=by rw[<- e5,<- e4,e5,s2]
   have:stJ l ps x j=Aa:=by
    rw[jP hp];exact decide_eq_true #[⋯,⋯,by rw[aR];exact s3]
   have:=a5 j x hj (aD _) this;lia
theorem FirstN.lower{l:()}{ps:List zq}{lo hi n:Nat}(h:FirstN l ps 0 hi n tZ)(hl:lo<=hi):FirstN l ps 0 lo n tZ:=by
 rcases h with ⟨_,h⟩ | ⟨_,_,h,_⟩
 ·exact .inl #[rfl,λj q hj h1 h2=>h j q hj h1 ⋯]
 ·cases h
theorem Q6{l:()}{ps:List zq}{n q m:Nat}(h:FirstN l ps 0 l.length ps.length (tY (n,q)))(hm:∀p ∈ ps,p.2.length<=m):(YV l ps (n,q)).length<=l.length+m:=by
 rcases h with ⟨h,_⟩ | ⟨n0,q0,e,a1,a2,a3,a4,a5⟩
 ·cases h
 ·injection e with e;injection e with e1 e2;subst e1 e2;obtain⟨_,p,hp,hs⟩:=vb a4;have:=hm p (af hp);have er:=y3 hp;unfold YV yP
  erw[ak,aI,bg,er]
  lia
theorem qH{ps:List zq}{l:()}{m:Nat}(hN:NeL ps)(hm:∀p ∈ ps,p.2.length<=m):∀j,(wAt ps l j).length<=l.length+j * m
 | 0=>by simp [wAt]
 | j+1=>by
  have ih:=qH (l:=l) hN hm j;have hf:=WF (wAt ps l j) ps hN;rw[eC]
  cases e:zG (wAt ps l j) ps with
  | none =>
   show (Vr ps (wAt ps l j)).length<=_;unfold Vr;rw[e];show (wAt ps l j).length<=_;lia
  | some u =>
   rw[xR e];rw[e]at hf;obtain⟨a,b⟩:=u;have:=Q6 hf hm;lia
def UseAt(H:Hp)(r:Option (Nat × Nat))(v:V):Prop:=(r=tZ/\v=.non)\/∃(n q:Nat) (p:pX),r=tY (n,q)/\v=.ref p/\H p=tY (.tup [.int (n:Nat),.int (q:Nat)])
theorem UseAt.same{H H':Hp}{r:Option (Nat × Nat)}{v:V}(h:UseAt H r v)(s:Same H H'):UseAt H' r v:=by
 rcases h with h | ⟨n,q,p,h1,h2,h3⟩
 ·exact .inl h
 ·exact .inr #[n,q,p,h1,h2,s _ _ h3]
theorem U1{l p:()}{lo hi:Int}{H:Hp}{Q:VK}(h0:0<=lo)(h1:0<=hi)(h:∀r:Int,((r=-1/\∀q:Nat,lo<=q->(q:Int)+p.length<=hi->zu l q p=Ab)\/∃k:Nat,r=k/\lo<=k/\(k:Int)+p.length<=hi/\zu l k p=Aa/\∀q:Nat,lo<=q->q<k->zu l q p=Ab)->Q (.int r) H):KT (.str (tx l)) [.str (tx p),.int lo,.int hi] H Q:=by
 refine#[l,p,lo,hi,rfl,rfl,h0,h1,λr hr=>h r ?_]
 have no:∀q:Nat,((l.drop q).take p.length≠p\/¬ q+p.length<=l.length)->zu l q p=Ab:=λq hq=>decide_eq_false λ⟨_,b,c⟩=>by
  rcases hq with hq | hq
  ·exact hq c
  ·lia
 rcases hr with ⟨rfl,hn⟩ | ⟨k,rfl,k1,k2,k3,k4,hn⟩
 ·refine .inl #[rfl,λq q1 q2=>no q ?_];by_cases e:q+p.length<=l.length
  ·exact .inl (hn q q1 q2 e)
  ·exact .inr e
 ·exact .inr #[k,rfl,k1,k2,decide_eq_true #[⋯,⋯,k4],λq q1 q2=>no q (.inl (hn q q1 q2))]
def uw(K:pW):Sp:=λvs H Q _=>∃(a:pX) (l:()) (ps:List zq) (st en:Nat),vs=[.ref a,.str (tx l),.int (st:Nat),.int (en:Nat)]/\LsA K H a (ps.map dR)/\NeL ps/\(∀p ∈ ps,p.1.length<=1000)/\∀(r:Option (Nat × Nat)) (v:V) (H':Hp),Same H H'->UseAt H' r v->FirstN l ps st en ps.length r->Q v H'
theorem Xl{a:pX}{l:()}{ps:List zq}{st en:Nat}{s e:Int}{H:Hp}{Q:VK}{E:XK}(hs:s=(st:Nat))(he:e=(en:Nat))(hA:LsA K H a (ps.map dR))(hN:NeL ps)(hP:∀p ∈ ps,p.1.length<=1000)(q:∀(r:Option (Nat × Nat)) (v:V) (H':Hp),Same H H'->UseAt H' r v->FirstN l ps st en ps.length r->Q v H'):uw K [.ref a,.str (tx l),.int s,.int e] H Q E:=by
 subst hs he;exact#[a,l,ps,st,en,rfl,hA,hN,hP,q]
theorem ge:sQz 4 ["rules","word","start","end","found","number","rule","place"] xw:=by nofun
theorem qC{f:pX}{fd:ra}(B:Bt mg)(F:("first_within"^^^xw)) :(1&&&["rules","word","start","end"]) (uw K):=by
 exists F.ok ge
 ·obtain⟨a,l,ps,st,en,rfl,hA,hN,hP,q⟩:=h
  refine#[_,(zi (zC 4 ge.nd z7)
   (zi (zS PassesOwn.never rfl (wL rfl B.enum (za (pv 0) zd)) (uE (n:=2) rfl (z5 (zA (i:=5) ge.nd rfl (.inl rfl)) (z5 (zA (i:=6) ge.nd rfl (.inl rfl)) wF)))
    (zE (zC 7 ge.nd (vq bL du dv zbt (pv 1) (za (zo ix_tup (pv 6) zg) (za (pv 2) (za (zF yj (zF j0 (pv 3) zg) (zD B.len (zo ix_tup (pv 6) zg))) zd)))))
    (zc (zK (zx op_ge' (pv 7) zg (zB _))
     (zE (zC 4 ge.nd (zW (za (pv 5) (za (pv 7) zd))))
     (zc (zC 3 ge.nd (pv 7))))
     zt))))
   (zc (zk (pv 4))))),?_]
  have s16:=zP;obtain⟨xs,hX,hI⟩:=id hA;have hxl:=hI.len;rw[ac]at hxl;have s16:=zP;refine zj (λσ H'=>H'=H/\σ=[!!a,~~~l,-~~~st,-~~~en,tY (.non),tZ,tZ,tZ]) ?_ ?_
  ·rfl'
  rintro σ H1 ⟨rfl,rfl⟩:_;right;refine zj (λσ H'=>Same H1 H'/\∃(r:Option (Nat × Nat)) (v:V) (v3 v5 v6 v7:Option V),UseAt H' r v/\FirstN l ps st en ps.length r/\σ=[!!a,~~~l,-~~~st,v3,tY (v),v5,v6,v7]) ?_ ?_
  ·rfl'
   refine#[#[_,SqL.of hX],ForEL.by (xs:=xs) (λi σ H'=>Same H1 H'/\∃(r:Option (Nat × Nat)) (v:V) (v5 v6 v7:Option V),UseAt H' r v/\FirstN l ps st en i r/\σ=[!!a,~~~l,-~~~st,tY (.int (((r.map Prod.snd).getD en:Nat):Int)),tY (v),v5,v6,v7]) #[Same.refl _,tZ,.non,tZ,tZ,tZ,.inl #[rfl,rfl],.inl #[rfl,λj q h=>absurd h (bV j)],rfl] (λi σ H' _ h=>SqL.of (h.1 _ _ hX)) ?_ ?_]
   ·rintro i y σ H' p hy ⟨hs,r,v,v5,v6,v7,hu,hF,rfl⟩ hpn;obtain⟨rl,pr,hri,rfl,hqr⟩:=hI.getR hy;have hm:=af hri;have hne:=Ar.mpr (hN rl hm);have hrl:=hP rl hm;have s2:=hs.trans (ze (o:=.tup [.int (i:Nat),.ref pr]) hpn);have hq2:=zr s2 hqr;have hu2:=hu.same (ze (o:=.tup [.int (i:Nat),.ref pr]) hpn)
    rfl'
    refine#[_,SqT.of zf,rfl,_,_,rfl,_,_,rfl,rfl,_,rfl,_,hq2,_,rfl,_,rfl,_,hq2,_,rfl,_,#[by rw[zX];lia,rfl],U1 ⋯ (by rw[zX];lia) λz hz=>#[z,rfl,?_]];rw[zX]at hz;rcases hz with ⟨rfl,hn⟩ | ⟨k,rfl,k1,k2,k3,hn⟩
    ·rw[if_neg ∅];exact#[s2,r,v,hu2,hF.keep hri λq q1 q2=>hn q ⋯ ⋯,rfl,rfl]
    ·rw[if_pos ⋯];refine#[⋯,λp2 hp2=>#[s2.trans (ze hp2),tY (i,k),.ref p2,.inr #[i,k,p2,rfl,rfl,zf],hF.take hri ⋯ ⋯ k3 λq q1 q2=>hn q ⋯ q2,rfl,rfl]]
   ·rintro σ H' ⟨hs,r,v,v5,v6,v7,hu,hF,rfl⟩;rw[hxl]at hF;exact#[hs,r,v,hu,hF,_,_,_,_,rfl]
  rintro σ H2 ⟨s2,r,v,v3,v5,v6,v7,hu,hF,rfl⟩:_;right
  rfl'
  exact q r v H2 s2 hu hF
structure zff(mg:re->Option pY):Prop where
 g:∃t,mg "WINDOW" = tY (.int 128 t)
def kB(K:pW):Sp:=λvs H Q _=>∃(a:pX) (l:()) (ps:List zq) (st:Nat),vs=[.ref a,.str (tx l),.int (st:Nat)]/\LsA K H a (ps.map dR)/\NeL ps/\(∀p ∈ ps,p.1.length<=1000)/\l.length<=100000/\∀(r:Option (Nat × Nat)) (v:V) (H':Hp),Same H H'->UseAt H' r v->FirstN l ps st l.length ps.length r->Q v H'
theorem ZY{a:pX}{l:()}{ps:List zq}{st:Nat}{s:Int}{H:Hp}{Q:VK}{E:XK}(hs:s=(st:Nat))(hA:LsA K H a (ps.map dR))(hN:NeL ps)(hP:∀p ∈ ps,p.1.length<=1000)(hl:l.length<=100000)(q:∀(r:Option (Nat × Nat)) (v:V) (H':Hp),Same H H'->UseAt H' r v->FirstN l ps st l.length ps.length r->Q v H'):kB K [.ref a,.str (tx l),.int s] H Q E:=by
 subst hs;exact#[a,l,ps,st,rfl,hA,hN,hP,hl,q]
theorem gA:sQz 3 ["rules","word","start","size","found"] wI:=by nofun
theorem Zl{f:pX}{fd:ra}(B:Bt mg)(T:zff mg)(F:("first_from"^^^wI))(oe:(1<<<"first_within") ["rules","word","start","end"] [] (uw K)):(2&&&["rules","word","start"]) (kB K):=by
 obtain⟨t8,g8⟩:=T.g
 exists F.ok gA
 ·obtain⟨a,l,ps,st,rfl,hA,hN,hP,hl,q⟩:=h
  refine#[_,(zi (zC 3 gA.nd (yw (v:=.int 128) rfl g8 #[t8,rfl]))
   (zi (kh PassesOwn.never (zx WS (pv 2) (zD B.len (pv 1)) (zB _))
    (zE (zC 4 gA.nd (cl0 oe hr .nil rfl (za (pv 0) (za (pv 1) (za (pv 2) (za (zF yj (pv 2) (pv 3)) zd))))))
    (zE (zK (zx op_notN' (pv 4) z7 (zB _))
     (zc (zk (pv 4)))
     zt)
    (zE (zC 2 gA.nd (zF yj (pv 2) (pv 3)))
    (zc (zC 3 gA.nd (zF qN (pv 3) zg)))))))
   (zc (zk z7)))),?_]
  have s16:=zP;have s16:=zP;refine zj (λσ H'=>H'=H/\σ=[!!a,~~~l,-~~~st,~~~!128,tZ]) ?_ ?_
  ·rfl'
  rintro σ H1 ⟨rfl,rfl⟩:_;right;refine zj (λσ H'=>Same H1 H'/\FirstN l ps st l.length ps.length tZ) ?_ ?_
  ·unfold Wr;refine#[λm σ H'=>∃(s z:Nat) (v4:Option V),m=l.length - s/\st<=s/\1<=z/\Same H1 H'/\FirstN l ps st s ps.length tZ/\σ=[!!a,~~~l,-~~~s,-~~~z,v4],#[_,st,128,tZ,rfl,al _,∅,Same.refl _,.inl #[rfl,λj q _ h1 h2=>by lia],rfl],?_];rintro m σ H' ⟨s,z,v4,rfl,hs,hz,sm,hF,rfl⟩
   rfl'
   refine#[⋯,yo (λhlt=>?_) λhge=>#[sm,hF.toEnd hN λ_=>by lia]];refine#[λσ' H''=>∃v4:Option V,Same H1 H''/\FirstN l ps st (s+z) ps.length tZ/\σ'=[!!a,~~~l,tY (.int ((s+z:Nat):Int)),tY (.int ((z * 2:Nat):Int)),v4],λσ' H'' ⟨v4,a1,a2,a3⟩=>#[l.length - (s+z),⋯,s+z,rfl,⋯,z * 2,⋯,a1,a2,v4,a3],?_];refine Xl (en:=s+z) rfl ⋯ (hA.same sm) hN hP λr v H2 s2 hu hF2=>?_;rcases hu with ⟨rfl,rfl⟩ | ⟨n,qq,p,rfl,rfl,hp⟩
   ·rw[if_neg (λh=>h rfl)];exact#[.inr #[∅,∅],tY .non,sm.trans s2,hF.window hs hF2,by push_cast;rfl]
   ·rw[if_pos (by intro h;cases h)];exact q _ _ H2 (sm.trans s2) (.inr #[n,qq,p,rfl,rfl,hp]) ((hF.window hs hF2).toEnd hN (λe=>by cases e))
  rintro σ H2 ⟨s2,hF⟩:_;right
  rfl'
  exact q tZ .non H2 s2 (.inl #[rfl,rfl]) hF
theorem LsA.pushT{H:Hp}{D p:pX}{ds es:List L3.D}{xs vs:List V}(h1:H D=tY (.lst xs))(h2:Iss K H ds xs)(hp:H p=tZ)(hv:Iss K H es vs)(f:zZ ds)(fe:zZ es):LsA K (upd (upd H p (.tup vs)) D (.lst (xs ++ [.ref p]))) D (ds ++ [.tup es]):=by
 have e:(upd H p (.tup vs)) D=tY (.lst xs):=ze hp _ _ h1;exact LsA.snoc e (Iss.same (ze hp) _ _ h2) f (by erw[xB];exact fe) (Is.tup hp hv)
structure zas(K:pW)(mg:re->Option pY)(C:pX):Prop where
 xi:XI K C
 ini:ag K (.ref C) "__init__" = tY (tY (.builtin "ValueError.__init__"))
 g:mg "TooFar" = tY (.ref C)
noncomputable def dG(u:Nat × Nat):L3.D:=.tup [.int (u.1:Nat),.int (u.2:Nat),.bl Aa]
theorem zat(u:Nat × Nat):xB (dG u):=by erw[dG,xB,zZ,and_self]
theorem Jg(us:List (Nat × Nat)):zZ (us.map dG):=wn λd h=>by obtain⟨r,_,rfl⟩:=Ag.mp h;exact zat r
theorem zdU{H:Hp}{n q:Nat}:Iss K H [.int (n:Nat),.int (q:Nat),.bl Aa] [.int (n:Nat),.int (q:Nat),.bl Aa]:=by
 erw[Iss,Is]
 exact#[_,_,rfl,rfl,_,_,rfl,rfl,_,_,rfl,rfl,rfl]
structure Rd(ps:List zq)(l:())(J:Nat):Prop where
 live:Wm ps l J
 len:∀j,j<=J->(wAt ps l j).length<=10000
 most:J<=10000
def xu(K:pW)(CF:pX):Sp:=λvs H Q E=>∃(a:pX) (l:()) (ps:List zq) (m:Int) (J:Nat),vs=[.ref a,.str (tx l),.int m]/\LsA K H a (ps.map dR)/\NeL ps/\ps.length<=100/\(∀p ∈ ps,p.1.length<=1000/\p.2.length<=1000)/\Rd ps l J /\
 ((zG (wAt ps l J) ps=tZ/\(J:Int)<=m/\∀(p S:pX) (H':Hp),Same H H'->H' p=tY (.tup [.ref S,.str (tx (wAt ps l J))])->LsA K H' S ((sAt ps l J).map dG)->H S=tZ->Q (.ref p) H') \/
  (zG (wAt ps l J) ps≠tZ/\(J:Int)=m/\∀H',Same H H'->E (.ref CF) tZ H'))
theorem UZ{a:pX}{ps:List zq}{σ:L2.St}{H:Hp}{Q:VK}{D:pX}(hA:LsA K H a (ps.map dR))(hP:∀p ∈ ps,p.1.length<=1000)(hpl:ps.length<=100)(hD:H D=tZ)(q:∀H',Same H H'->H' D=tY (.lst ((ps.map λp=>(p.1.length:Int)).map V.int))->Q (.ref D) H') :
  CompL K a (yD 0) vS (tCB (Vd K) (zM (tOp (jl K) (yt 0) (tC (.int 0))) xM)) 1 [] σ H Q D:=by
 have s16:=zP;obtain⟨xs,hX,hI⟩:=hA;have hxl:=hI.len;rw[ac]at hxl;refine CompL.by (xs:=xs) (λi Ae H'=>Same H H'/\H' D=tY (.lst Ae)/\Ae=((ps.take i).map λp=>(p.1.length:Int)).map V.int) #[ze hD,zf,rfl] (λi Ae H' _ h=>SqL.of (h.1 _ _ hX)) ?_ ?_
 ·refine nm4 ?_;rintro i x Ae H' hx ⟨hs,hH,rfl⟩:_;have hil:=(Af.mp hx).1;obtain⟨r,pr,hri,rfl,hqr⟩:=hI.getR hx;have hm:=hP r (af hri);right
  erw[vS]
  rfl'
  refine#[xZ,_,zr hs hqr,_,rfl,_,#[by rw[zX];lia,rfl],hH,by rw[ac,ac,aI];lia,CNx.mk hil #[zH hs hD,zf,?_]];rw[zN hri,ax,ax,zX];rfl
 ·rintro Ae H' ⟨hs,hH,rfl⟩;rw[hxl,aO]at hH;exact q H' hs hH
theorem zeE{H:Hp}{rs:List zq}{xs:List V}{i:Nat}{r:zq}(hI:Iss K H (rs.map dR) xs)(hi:rs[i]? = tY r):∃p,atI xs (i:Int)=tY (.ref p)/\SqT K H p [.str (tx r.1),.str (tx r.2)]:=by
 have hl:=hI.len;rw[ac]at hl;have hil:=(Af.mp hi).1;obtain⟨v,a1,b1⟩:=uI (xs:=xs) (i:=(i:Int)) ⋯ ⋯;obtain⟨r',p,h1,rfl,h3⟩:=hI.getR (j:=i) b1;rw[hi]at h1;cases h1;exact#[p,a1,h3]
theorem ig:sQz 3 ["rules","word","most","longest","steps","use","number","place"] ve:=by nofun
theorem zbe{f CU CF:pX}{fd:ra}{dV:pY}(B:Bt mg)(T:zas K mg CF)(TU:DNU P w K mg base CU)(F:FunD K "gone" "gone" ve dV f fd)(mM:(2<<<"first_from") ["rules","word","start"] [] (kB K))(oK:(3>>>"put") ["word","place","old","new"] [] (Wq CU)):(4|||["rules","word","most"]) (xu K CF):=by
 exists FunD.okX F ig,0
 ·obtain⟨a,l,ps,m,J,rfl,hA,hN,hpl,hP,hR,hq⟩:=h
  refine#[_,(zi (zC 3 ig.nd (VV (zc8 rfl) rfl B.max vX (za (xY (own:=["rule"]) (caps:=[]) (ix:=[]) (tt:=vS) (te:=(tCB (Vd K) (zM (tOp (jl K) (yt 0) (tC (.int 0))) xM))) rfl (z6 (sc:=zh ve) rfl (by symm) (by symm) (by symm) rfl (by symm) (by symm) rfl) (yc (pv 0)) (λ_ _ _ _ _ _=>zA (i:=0) (show List.Nodup [_] by decide) rfl (.inl rfl)) (λ_ _ _ _ _ _=>y0) (λ_ _ _ _ _ _=>(zD B.len (zo ix_tup (pv 0) zg)))) zd) (U8 zg K8)))
   (zi (zC 4 ig.nd (xj zd))
   (zi (zC 5 ig.nd (cl0 mM hr .nil rfl (za (pv 0) (za (pv 1) (za zg zd)))))
   (zi (kh PassesOwn.leaving (zx op_notN' (pv 5) z7 (zB _))
    (zi (zK (zx op_ge' (zD B.len (pv 4)) (pv 2) (zB _))
     (zc (yb hx rfl T.xi.toXC T.ini rfl T.g (za zV zd)))
     zt)
    (zi (zC 6 ig.nd (zo ix_tup (pv 5) zg))
    (zi (zC 7 ig.nd (zo ix_tup (pv 5) zg))
    (zi (zC 1 ig.nd (clP hx oK hr .nil rfl (za (pv 1) (za (pv 7) (za (zo ix_tup (zo ix_list (pv 0) (pv 6)) zg) (za (zo ix_tup (zo ix_list (pv 0) (pv 6)) zg) zd))))))
    (zi (xm (vq aY bv bw yO (pv 4) (za (zW (za (pv 6) (za (pv 7) (za yQ zd)))) zd)))
    (zc (zC 5 ig.nd (cl0 mM hr .nil rfl (za (pv 0) (za (pv 1) (za (yW (XV rfl) rfl B.max vX (za zg (za (zF yj (zF j0 (pv 7) (pv 3)) zg) zd))) zd))))))))))))
   (zc (zk (zW (za (pv 4) (za (pv 1) zd))))))))),?_]
  have s16:=zP;have s16:=zP;refine zj (λσ H'=>Same H H'/\∃M:Int,(∀p ∈ ps,(p.1.length:Int)<=M)/\σ=[!!a,~~~l,~~~!m,~~~!M,tZ,tZ,tZ,tZ]) ?_ ?_
  ·rfl'
   erw[zeZ]
   rfl'
   obtain⟨xs,hX,hI⟩:=id hA;exact#[#[_,SqL.of hX],λD hD=>UZ hA (λp hp=>(hP p hp).1) hpl hD λH' s' hH=>#[D,_,0,rfl,rfl,SqL.of hH,λz _ hz=>#[s',z,λp hp=>hz _ (Ag.mpr #[p,hp,rfl]),rfl]]]
  rintro σ H1 ⟨s1,M,hM,rfl⟩:_;right;refine zj (λσ H'=>Same H H'/\∃S:pX,H S=tZ/\H' S=tY (.lst [])/\σ=[!!a,~~~l,~~~!m,~~~!M,!!S,tZ,tZ,tZ]) ?_ ?_
  ·rfl'
   exact#[⋯,λp hp=>#[s1.trans (ze hp),p,s1.free hp,zf,rfl]]
  rintro σ H2 ⟨s2,S,hSn,hS,rfl⟩:_;right;refine zj (λσ H'=>Same H H'/\H' S=tY (.lst [])/\∃uv:V,UseAt H' (zG l ps) uv/\σ=[!!a,~~~l,~~~!m,~~~!M,!!S,tY (uv),tZ,tZ]) ?_ ?_
  ·rfl'
   exact ZY (st:=0) rfl (hA.same s2) hN (λp hp=>(hP p hp).1) (by have:=hR.len 0 (aD _);exact aK this ∅) λr v H' s' hu hF=>#[s2.trans s',s' _ _ hS,(by rw[Wl hF]at hu;exact hu)]
  rintro σ H3 ⟨s3,hS3,uv,hu,rfl⟩:_;right;refine zj (λσ H'=>Same H H'/\zG (wAt ps l J) ps=tZ/\LsA K H' S ((sAt ps l J).map dG)/\∃v5 v6 v7,σ=[!!a,tY (.str (tx (wAt ps l J))),~~~!m,~~~!M,!!S,v5,v6,v7]) ?_ ?_
  ·unfold Wr;refine#[λk σ H'=>∃(j:Nat) (uv:V) (v6 v7:Option V),k=J - j/\j<=J/\Same H H'/\LsA K H' S ((sAt ps l j).map dG)/\UseAt H' (zG (wAt ps l j) ps) uv/\σ=[!!a,tY (.str (tx (wAt ps l j))),~~~!m,~~~!M,!!S,tY (uv),v6,v7],#[_,0,uv,tZ,tZ,rfl,aD _,s3,#[[],hS3,by erw[sAt,List.range_zero,aM,Iss]],hu,rfl],?_];rintro k σ H' ⟨j,uv,v6,v7,rfl,hj,hs,hL,hu,rfl⟩;have hlj:=hR.len j hj;have hRm:=hR.most;obtain⟨xs,hX,hI⟩:=id hA
   rfl'
   refine yo (λhne=>?_) λhne=>?_
   ·rcases hu with ⟨_,h⟩ | ⟨n,q0,p,hf,rfl,hp⟩
    ·exact absurd h hne
    have hF:=WF (wAt ps l j) ps hN;rw[hf]at hF
    have hjJ:j<J\/(j=J/\(J:Int)=m/\∀H',Same H H'->E (.ref CF) tZ H'):=by
     by_cases e:j=J
     ·subst e;rcases hq with ⟨h,_⟩ | ⟨_,h1,h2⟩
      ·rw[hf]at h;cases h
      ·exact .inr #[rfl,h1,h2]
     ·exact .inl ⋯
    have hJm:(J:Int)<=m:=by
     rcases hq with ⟨_,h,_⟩ | ⟨_,h,_⟩ <;> lia
    obtain⟨rl,hrl,hst⟩:∃rl,ps[n]? = tY rl/\zu (wAt ps l j) (q0:Int) rl.1=Aa:=by
     rcases hF with ⟨h,_⟩ | ⟨n0,q1,e,_,_,_,a4,_⟩
     ·cases h
     ·cases e;exact (vb a4).2
    have hlp:=hP rl (af hrl);have hw:=xR hf;obtain⟨pr,hai,hqr⟩:=zeE hI hrl;refine#[λσ' H''=>∃(uv:V) (v6 v7:Option V),j<J/\Same H H''/\LsA K H'' S ((sAt ps l (j+1)).map dG)/\UseAt H'' (zG (wAt ps l (j+1)) ps) uv/\σ'=[!!a,tY (.str (tx (wAt ps l (j+1)))),~~~!m,~~~!M,!!S,tY (uv),v6,v7],λσ' H'' ⟨uv,v6,v7,a0,a1,a2,a3,a4⟩=>#[J - (j+1),⋯,j+1,rfl,⋯,a1,a2,uv,a3,v6,v7,a4],?_];obtain⟨ys,hY,hJ2⟩:=id hL;have hyl:=hJ2.len;rw[ac,vv]at hyl;refine zj (λσ' H''=>H''=H'/\j<J/\σ'=[!!a,tY (.str (tx (wAt ps l j))),~~~!m,~~~!M,!!S,!!p,v6,v7]) ?_ ?_
    ·rfl'
     refine#[_,.inl #[_,SqL.of hY,rfl],yo (λhge=>?_) λhge=>?_]
     ·rcases hjJ with h | ⟨_,_,h⟩
      ·lia
      ·exact#[⋯,h _ hs]
     ·rcases hjJ with h | ⟨e,h,_⟩
      ·exact h
      ·lia
    rintro σ' G1 ⟨rfl,hlt,rfl⟩:_;right;refine zj (λσ' H''=>H''=G1/\σ'=[!!a,tY (.str (tx (wAt ps l j))),~~~!m,~~~!M,!!S,!!p,-~~~n,v7]) ?_ ?_
    ·rfl'
     exact#[_,SqT.of hp,rfl]
    rintro σ' G2 ⟨rfl,rfl⟩:_;right;refine zj (λσ' H''=>H''=G2/\σ'=[!!a,tY (.str (tx (wAt ps l j))),~~~!m,~~~!M,!!S,!!p,-~~~n,-~~~q0]) ?_ ?_
    ·rfl'
     exact#[_,SqT.of hp,rfl]
    rintro σ' G3 ⟨rfl,rfl⟩:_;right;refine zj (λσ' H''=>H''=G3/\σ'=[!!a,tY (.str (tx (wAt ps l (j+1)))),~~~!m,~~~!M,!!S,!!p,-~~~n,-~~~q0]) ?_ ?_
    ·rfl'
     have hq2:=zr hs hqr;exact#[_,SqL.of (hs _ _ hX),_,hai,_,rfl,_,hq2,_,rfl,_,SqL.of (hs _ _ hX),_,hai,_,rfl,_,hq2,_,rfl,wAt ps l j,rl.1,rl.2,(q0:Nat),rfl,hlj,by have:=hlp.1;lia,by have:=hlp.2;lia,λ_=>#[rfl,by rw[hw];unfold YV;rw[y3 hrl]],λh=>by rw[hst]at h;cases h]
    rintro σ' G4 ⟨rfl,rfl⟩:_;right;refine zj (λσ' H''=>Same H H''/\LsA K H'' S ((sAt ps l (j+1)).map dG)/\σ'=[!!a,tY (.str (tx (wAt ps l (j+1)))),~~~!m,~~~!M,!!S,!!p,-~~~n,-~~~q0]) ?_ ?_
    ·rfl'
     refine#[.inl #[_,SqL.of hY],⋯,λt ht=>#[_,ze ht _ _ hY,⋯,zH (hs.trans (ze ht)) hSn,?_]];rw[WB,hf,ax];exact LsA.pushT hY hJ2 ht zdU (Jg _) (by erw[zZ,xB,and_self])
    rintro σ' G5 ⟨s5,hL5,rfl⟩:_;have hl1:=hR.len (j+1) hlt;have hM0:=hM rl (af hrl);right
    rfl'
    refine ZY (st:=(if (q0:Int) - M+1 > 0 then (q0:Int) - M+1 else 0).toNat) (by split <;> lia) (hA.same s5) hN (λp hp=>(hP p hp).1) (aK hl1 ∅) λr v H' s' hu hF2=>#[hlt,s5.trans s',hL5.same s',?_];have hb:=WN (M:=M.toNat) (lo:=(if (q0:Int) - M+1 > 0 then (q0:Int) - M+1 else 0).toNat) hF hN (λp hp=>by have:=hM p hp;lia) (by split <;> lia);rw[<- hw]at hb;rw[Wl (hb.window (aD _) hF2)]at hu;exact hu
   ·have hv:uv=.non:=Decidable.not_not.mp hne
    have hf:zG (wAt ps l j) ps=tZ:=by
     rcases hu with ⟨h,_⟩ | ⟨_,_,_,_,h,_⟩
     ·exact h
     ·rw[hv]at h;cases h
    have e:j=J:=by
     rcases dC j J with h | h
     ·exact absurd hf (hR.live j h)
     ·lia
    subst e;exact#[hs,hf,hL,rfl]
  rintro σ H4 ⟨s4,hF,hL,v5,v6,v7,rfl⟩:_;right
  rfl'
  rcases hq with ⟨_,_,hq⟩ | ⟨h,_⟩
  ·exact#[⋯,λp hp=>hq p S _ (s4.trans (ze hp)) zf (hL.same (ze hp)) hSn]
  ·exact absurd hF h
noncomputable abbrev Stp:=Int × Int × Bool
noncomputable def dSt(t:Stp):D:=.tup [.int t.1,.int t.2.1,.bl t.2.2]
noncomputable def sdl(r:zq)(f:Bool):zq:=if f=Aa then r else (r.2,r.1)
noncomputable def yn(ps:List zq)(w:())(t:Stp):Option (()) :=
 if 0<=t.1/\t.1<ps.length then (if zu w t.2.1 (sdl (ps.getD t.1.toNat ([],[])) t.2.2).1=Aa then tY (yP w t.2.1 (sdl (ps.getD t.1.toNat ([],[])) t.2.2).1 (sdl (ps.getD t.1.toNat ([],[])) t.2.2).2)else tZ)else tZ
theorem Ja{H:Hp}{D p:pX}{ds es:List L3.D}{xs vs:List V}(h1:H D=tY (.lst xs))(h2:Iss K H ds xs)(hp:H p=tZ)(hv:Iss K H es vs)(f:zZ ds)(fe:zZ es):LsA K (upd (upd H p (.tup vs)) D (.lst (xs ++ [.ref p]))) D (ds ++ [.tup es]):=by
 have e:(upd H p (.tup vs)) D=tY (.lst xs):=ze hp _ _ h1;exact LsA.snoc e (Iss.same (ze hp) _ _ h2) f (by erw[xB];exact fe) (Is.tup hp hv)
theorem zeR{H:Hp}{l m:()}:Iss K H [dS l,dS m] [.str (tx l),.str (tx m)]:=by
 erw[Iss,Is]
 exact#[_,_,rfl,rfl,_,_,rfl,rfl,rfl]
def kR(rs:List zq):Prop:=rs.length<=30/\∀r ∈ rs,r.1.length<=100/\r.2.length<=100
theorem zac{H:Hp}{t:Stp}{v:V}(h:Is K H (dSt t) v):∃p,v=.ref p/\SqT K H p [.int t.1,.int t.2.1,.bl t.2.2]:=by
 erw[dSt,Is,Iss]at h
 obtain⟨a,xs,e,hs,v1,r1,rfl,rfl,v2,r2,rfl,rfl,v3,r3,rfl,rfl,rfl⟩:=h;exact#[a,e,hs]
theorem Wg{H:Hp}{p:pX}{t:Stp}(h:SqT K H p [.int t.1,.int t.2.1,.bl t.2.2]):Is K H (dSt t) (.ref p):=by
 erw[dSt,Is,Iss]
 exact#[p,_,rfl,h,_,_,rfl,rfl,_,_,rfl,rfl,_,_,rfl,rfl,rfl]
theorem K4{H:Hp}{i j:Int}{b:Bool}:Iss K H [.int i,.int j,.bl b] [.int i,.int j,.bl b]:=by
 erw[Iss,Is]
 exact#[_,_,rfl,rfl,_,_,rfl,rfl,_,_,rfl,rfl,rfl]
theorem vW(rs:List Stp):zZ (rs.map dSt):=wn λd h=>by obtain⟨r,_,rfl⟩:=Ag.mp h;erw[dSt,xB,zZ,and_self]
theorem vE{H:Hp}{rs:List Stp}{vs:List V}{j:Nat}{v:V}(h:Iss K H (rs.map dSt) vs)(q:vs[j]? = tY v):∃r p,rs[j]? = tY r/\v=.ref p/\SqT K H p [.int r.1,.int r.2.1,.bl r.2.2]:=by
 obtain⟨d,e,i⟩:=h.get q;rw[ar]at e;obtain⟨r,hr,rfl⟩:=Ak.mp e;obtain⟨p,e1,e2⟩:=zac i;exact#[r,p,hr,e1,e2]
theorem zcP{H:Hp}{rs:List zq}{xs:List V}{i:Int}(hI:Iss K H (rs.map dR) xs)(h0:0<=i)(hi:i<rs.length):∃p,atI xs i=tY (.ref p)/\rs[i.toNat]? = tY (rs.getD i.toNat ([],[]))/\SqT K H p [.str (tx (rs.getD i.toNat ([],[])).1),.str (tx (rs.getD i.toNat ([],[])).2)]:=by
 have hl:=hI.len;rw[ac]at hl;obtain⟨v,a1,b1⟩:=uI (xs:=xs) (i:=i) h0 ⋯;obtain⟨r,p,h1,rfl,h3⟩:=hI.getR b1;have e:rs.getD i.toNat ([],[])=r:=by rw[aa,h1];rfl
 rw[e];exact#[p,a1,h1,h3]
theorem Xa{rs:List zq}(h:kR rs)(i:Nat):(rs.getD i ([],[])).1.length<=100/\(rs.getD i ([],[])).2.length<=100:=by
 rw[aa]
 cases e:rs[i]? with
 | none=>exact#[aD _,aD _]
 | some r=>exact h.2 r (af e)
theorem yN{ps:List zq}{w:()}{t:Stp}(h:¬ (0<=t.1/\t.1<ps.length)):yn ps w t=tZ:=if_neg h
theorem yG{ps:List zq}{w:()}{t:Stp}(h:0<=t.1/\t.1<ps.length):yn ps w t=if zu w t.2.1 (sdl (ps.getD t.1.toNat ([],[])) t.2.2).1=Aa then tY (yP w t.2.1 (sdl (ps.getD t.1.toNat ([],[])) t.2.2).1 (sdl (ps.getD t.1.toNat ([],[])) t.2.2).2)else tZ:=if_pos h
def Ch(rs:List zq)(ws:List (()))(ss:List Stp):Prop:=ws.length=ss.length+1/\∀i s,ss[i]? = tY s->∃w w',ws[i]? = tY w/\ws[i+1]? = tY w'/\yn rs w s=tY w'
noncomputable def bk(s:Stp):Stp:=(s.1,s.2.1,!s.2.2)
noncomputable def yJ(ss:List Stp):List Stp:=ss.reverse.map bk
noncomputable def mvL(ss:List Stp)(z:Int):List Stp:=ss.map λs=>(s.1,s.2.1+z,s.2.2)
theorem zaY(r:zq)(f:Bool):sdl r (!f)=((sdl r f).2,(sdl r f).1):=by cases f <;> rfl
theorem j1{rs:List zq}{w w':()}{s:Stp}(h:yn rs w s=tY w'):yn rs w' (bk s)=tY w:=by
 by_cases hb:0<=s.1/\s.1<rs.length
 ·rw[yG hb]at h;have hb':0<=(bk s).1/\(bk s).1<rs.length:=hb;rw[yG hb']
  erw[bk,zaY]
  generalize sdl (rs.getD s.1.toNat ([],[])) s.2.2=r at *;by_cases hs:zu w s.2.1 r.1=Aa
  ·rw[if_pos hs]at h;cases h;obtain⟨e1,e2⟩:=X9 r.2 hs;rw[if_pos e1,e2]
  ·rw[if_neg hs]at h;cases h
 ·rw[yN hb]at h;cases h
theorem Ch.back{rs:List zq}{ws:List (())}{ss:List Stp}(h:Ch rs ws ss):Ch rs ws.reverse (yJ ss):=by
 obtain⟨hl,hs⟩:=h;refine#[by simp [yJ,hl],λi s hi=>?_];have hil:i<ss.length:=by have:=(Af.mp hi).1;simpa [yJ] using this
 unfold yJ at hi;rw[ar,bu hil]at hi;obtain⟨s0,h0,rfl⟩:=Ak.mp hi;obtain⟨w,w',e1,e2,e3⟩:=hs _ _ h0;refine#[w',w,?_,?_,j1 e3]
 ·rw[bu ⋯,<- e2];congr 1;lia
 ·rw[bu ⋯,<- e1];congr 1;lia
theorem Wz{a w b:()}{k:Nat}(h:k<=w.length):(a ++ w ++ b).drop (a.length+k)=w.drop k ++ b:=by
 rw[aL,<- dX,List.drop_left,cb h]
theorem ky{a w b o:()}{k:Int}(h:zu w k o=Aa):zu (a ++ w ++ b) (k+(a.length:Int)) o=Aa:=by
 obtain⟨_,_,h0,h1⟩:=yu h;unfold zu at h ⊢;rw[decide_eq_true_eq]at h ⊢;obtain⟨_,_,h2⟩:=h;refine#[⋯,by erw[ak];lia,?_];rw[show (k+(a.length:Int)).toNat=a.length+k.toNat by lia,Wz ⋯,bj (by rw[bg];lia),h2]
theorem Vi{a w b o n:()}{k:Int}(h:zu w k o=Aa):yP (a ++ w ++ b) (k+(a.length:Int)) o n=a ++ yP w k o n ++ b:=by
 obtain⟨_,_,h0,h1⟩:=yu h;unfold yP;rw[show (k+(a.length:Int)).toNat=a.length+k.toNat by lia]
 have e1:(a ++ w ++ b).take (a.length+k.toNat)=a ++ w.take k.toNat:=by
  rw[aL,List.take_length_add_append,bj ⋯]
 have e2:(a ++ w ++ b).drop (a.length+k.toNat+o.length)=w.drop (k.toNat+o.length) ++ b:=by
  rw[Nat.add_assoc];exact Wz ⋯
 rw[e1,e2];simp [aL]
theorem uB{rs:List zq}{w w':()}{s:Stp}(a b:())(h:yn rs w s=tY w'):yn rs (a ++ w ++ b) (s.1,s.2.1+(a.length:Int),s.2.2)=tY (a ++ w' ++ b):=by
 by_cases hb:0<=s.1/\s.1<rs.length
 ·rw[yG hb]at h;rw[yG (by exact hb)];simp only;generalize sdl (rs.getD s.1.toNat ([],[])) s.2.2=r at *;by_cases hs:zu w s.2.1 r.1=Aa
  ·rw[if_pos hs]at h;cases h;rw[if_pos (ky hs),Vi hs]
  ·rw[if_neg hs]at h;cases h
 ·rw[yN hb]at h;cases h
theorem Ch.within{rs:List zq}{ws:List (())}{ss:List Stp}(a b:())(h:Ch rs ws ss):Ch rs (ws.map λw=>a ++ w ++ b) (mvL ss (a.length:Int)):=by
 obtain⟨hl,hs⟩:=h;refine#[by simp [mvL,hl],λi s hi=>?_];unfold mvL at hi;rw[ar]at hi;obtain⟨s0,h0,rfl⟩:=Ak.mp hi;obtain⟨w,w',e1,e2,e3⟩:=hs _ _ h0;exact#[a ++ w ++ b,a ++ w' ++ b,by rw[ar,e1];rfl,by rw[ar,e2];rfl,uB a b e3]
theorem Kj{w o n:()}{k:Int}(h:zu w k o=Aa):(yP w k o n).length+o.length=w.length+n.length:=by
 obtain⟨e,hl,h0,h1⟩:=yu h;unfold yP
 erw[ak,bg,hl]
 lia
theorem kZ{H:Hp}{D p:pX}{ds es:List L3.D}{xs vs:List V}(h1:H D=tY (.lst xs))(h2:Iss K H ds xs)(hp:H p=tZ)(hv:Iss K H es vs)(f:zZ ds)(fe:zZ es):Iss K (upd (upd H p (.tup vs)) D (.lst (xs ++ [.ref p]))) (ds ++ [.tup es]) (xs ++ [.ref p]):=by
 obtain⟨ys,hy1,hy2⟩:=Ja h1 h2 hp hv f fe;rw[zf]at hy1;cases hy1;exact hy2
def uo(K:pW):Sp:=λvs H Q _=>∃(t:pX) (ss:List Stp),vs=[.ref t]/\Is K H (.lst (ss.map dSt)) (.ref t)/\ss.length<=1000/\∀(D:pX) (H':Hp),H D=tZ->Same H H'->LsA K H' D ((yJ ss).map dSt)->Q (.ref D) H'
theorem uX{t:pX}{ss:List Stp}{H:Hp}{Q:VK}{E:XK}(h1:Is K H (.lst (ss.map dSt)) (.ref t))(h2:ss.length<=1000)(h:∀(D:pX) (H':Hp),H D=tZ->Same H H'->LsA K H' D ((yJ ss).map dSt)->Q (.ref D) H'):uo K [.ref t] H Q E:=#[t,ss,rfl,h1,h2,h]
theorem za1{ss:List Stp}{i:Nat}{s:Stp}(h:ss.reverse[i]? = tY s):(yJ ss).take (i+1)=(yJ ss).take i ++ [bk s]:=zN (by unfold yJ;rw[ar,h];rfl)
theorem zaz:sQz 1 ["steps"] XZ:=by nofun
theorem zaQ{f:pX}{fd:ra}(B:Bt mg)(F:("back"^^^XZ)) :(1&&&["steps"]) (uo K):=by
 exists F.ok zaz
 ·obtain⟨t,ss,rfl,hT,hsl,q⟩:=h;refine#[_,(zc (zk (xY (own:=["step"]) (caps:=[]) (ix:=[]) (tt:=vS) (te:=(Q1 (zM (tOp (jl K) (yt 0) (tC (.int 0))) (zM (tOp (jl K) (yt 0) (tC (.int 1))) (zM (Vu (tOp (jl K) (yt 0) (tC (.int 2)))) xM))))) rfl (z6 (sc:=zh XZ) rfl (by symm) (by symm) (by symm) rfl (by symm) (by symm) rfl) (zdg rfl B.rev (za (pv 0) zd)) (λ_ _ _ _ _ _=>zA (i:=0) (show List.Nodup [_] by decide) rfl (.inl rfl)) (λ_ _ _ _ _ _=>y0) (λ_ _ _ _ _ _=>(zW (za (zo ix_tup (pv 0) zg) (za (zo ix_tup (pv 0) zg) (za (Ku (zo ix_tup (pv 0) zg)) zd)))))))),?_];have s16:=zP
  rfl'
  erw[Is]at hT
  obtain⟨_,ts,e,hTs,hJ⟩:=hT;cases e;have htl:=hJ.len;rw[ac]at htl;have hbl:(yJ ss).length=ss.length:=by simp [yJ]
  refine#[ts,hTs,λD hD=>CompV.by (xs:=ts) (λi Ae H'=>Same H H'/\H' D=tY (.lst Ae)/\Iss K H' (((yJ ss).take i).map dSt) Ae) #[ze hD,zf,by erw[bE,aM,Iss]] (λi Ae H' _ h=>h.1.seq hTs) ?_ ?_]
  ·refine nm4 ?_;rintro i x Ae H' hx ⟨hs,hH,hA⟩:_;have hi:i<ts.length:=by have:=(Af.mp hx).1;simpa using this
   rw[bu hi]at hx;obtain⟨s,ps,hsi,rfl,hqs⟩:=vE hJ hx;have hsr:ss.reverse[i]? = tY s:=by rw[bu ⋯,<- hsi,htl]
   have hal:=hA.len;rw[ac,aI]at hal;right
   erw[vS]
   rfl'
   refine#[xZ,_,zr hs hqs,_,rfl,_,zr hs hqs,_,rfl,_,zr hs hqs,_,rfl,_,rfl,⋯,λp hp=>#[ze hp _ _ hH,⋯,CNx.mk hi #[zH (hs.trans (ze hp)) hD,zf,?_]]];rw[za1 hsr,ax];exact kZ hH hA hp K4 (vW _) (by erw[zZ,xB,and_self])
  ·rintro Ae H' ⟨hs,hH,hA⟩;rw[htl,<- hbl,aO]at hA;exact q D H' hD hs #[Ae,hH,hA]
def Zo(K:pW):Sp:=λvs H Q _=>∃(t:pX) (ss:List Stp) (z:Int),vs=[.ref t,.int z]/\Is K H (.lst (ss.map dSt)) (.ref t)/\ss.length<=1000/\∀(D:pX) (H':Hp),H D=tZ->Same H H'->LsA K H' D ((mvL ss z).map dSt)->Q (.ref D) H'
theorem ZL{t:pX}{ss:List Stp}{z:Int}{H:Hp}{Q:VK}{E:XK}(h1:Is K H (.lst (ss.map dSt)) (.ref t))(h2:ss.length<=1000)(h:∀(D:pX) (H':Hp),H D=tZ->Same H H'->LsA K H' D ((mvL ss z).map dSt)->Q (.ref D) H'):Zo K [.ref t,.int z] H Q E:=#[t,ss,z,rfl,h1,h2,h]
theorem JL:sQz 2 ["steps","size"] Zn:=by nofun
theorem JQ{f:pX}{fd:ra}(B:Bt mg)(F:("moved"^^^Zn)) :(1&&&["steps","size"]) (Zo K):=by
 exists F.ok JL
 ·obtain⟨t,ss,z,rfl,hT,hsl,q⟩:=h;refine#[_,(zc (zk (xY (own:=["step"]) (caps:=["size"]) (ix:=[1]) (tt:=vS) (te:=(Q1 (zM (tOp (jl K) (yt 0) (tC (.int 0))) (zM (tOp Xk (tOp (jl K) (yt 0) (tC (.int 1))) (yt 1)) (zM (tOp (jl K) (yt 0) (tC (.int 2))) xM))))) rfl (z6 (sc:=zh Zn) rfl (by symm) (by symm) (by symm) rfl (by symm) (by symm) rfl) (yc (pv 0)) (λ_ _ _ _ _ _=>zA (i:=0) (show List.Nodup [_,_] by decide) rfl (.inl rfl)) (λ_ _ _ _ _ _=>y0) (λ_ _ _ _ _ _=>(zW (za (zo ix_tup (pv 0) zg) (za (zF qF (zo ix_tup (pv 0) zg) (pv 1)) (za (zo ix_tup (pv 0) zg) zd)))))))),?_];have s16:=zP
  rfl'
  erw[Is]at hT
  obtain⟨_,ts,e,hTs,hJ⟩:=hT;cases e;have htl:=hJ.len;rw[ac]at htl;have hbl:(mvL ss z).length=ss.length:=by simp [mvL]
  refine#[#[ts,hTs],λD hD=>CompL.by (xs:=ts) (λi Ae H'=>Same H H'/\H' D=tY (.lst Ae)/\Iss K H' (((mvL ss z).take i).map dSt) Ae) #[ze hD,zf,by erw[bE,aM,Iss]] (λi Ae H' _ h=>h.1.seq hTs) ?_ ?_]
  ·refine nm4 ?_;rintro i x Ae H' hx ⟨hs,hH,hA⟩:_;have hi:=(Af.mp hx).1;obtain⟨s,ps,hsi,rfl,hqs⟩:=vE hJ hx;have hm:(mvL ss z)[i]? = tY (s.1,s.2.1+z,s.2.2):=by unfold mvL;rw[ar,hsi];rfl
   have hal:=hA.len;rw[ac,aI]at hal;right
   erw[vS]
   rfl'
   refine#[xZ,_,zr hs hqs,_,rfl,_,zr hs hqs,_,rfl,_,zr hs hqs,_,rfl,⋯,λp hp=>#[ze hp _ _ hH,⋯,CNx.mk hi #[zH (hs.trans (ze hp)) hD,zf,?_]]];rw[zN hm,ax];exact kZ hH hA hp K4 (vW _) (by erw[zZ,xB,and_self])
  ·rintro Ae H' ⟨hs,hH,hA⟩;rw[htl,<- hbl,aO]at hA;exact q D H' hD hs #[Ae,hH,hA]
noncomputable abbrev Ent:=() × () × List Stp
variable{E:XK}{H:Hp}{Q:VK}{bs:List Ent}{e:Ent}{es:List Ent}{f:pX}{fd:ra}{k:Nat}{n:Nat}{ns:List Int}{ps:List zq}{rs:List zq}{ss:List Stp}{z:Int}
noncomputable def dE(e:Ent):L3.D:=.tup [dS e.1,dS e.2.1,.lst (e.2.2.map dSt)]
noncomputable def X1(es:List Ent)(u:Stp):List Stp:=mvL (if u.2.2=Aa then (es.getD u.1.toNat ([],[],[])).2.2 else yJ (es.getD u.1.toNat ([],[],[])).2.2) u.2.1
noncomputable def byL(es:List Ent)(us:List Stp):List Stp:=us.flatMap (X1 es)
theorem zdn{v:V}(h:Is K H (dE e) v):∃p s,v=.ref p/\SqT K H p [.str (tx e.1),.str (tx e.2.1),.ref s]/\Is K H (.lst (e.2.2.map dSt)) (.ref s):=by
 erw[dE,Is,Iss]at h
 obtain⟨a,xs,e0,hs,v1,r1,rfl,rfl,v2,r2,rfl,rfl,v3,r3,rfl,⟨s,zs,rfl,h1,h2⟩,rfl⟩:=h;refine#[a,s,e0,hs,?_]
 erw[Is]
 exact#[s,zs,rfl,h1,h2]
theorem zfn{xs:List V}{i:Int}(hI:Iss K H (es.map dE) xs)(h0:0<=i)(hi:i<es.length):∃p s,atI xs i=tY (.ref p)/\es[i.toNat]? = tY (es.getD i.toNat ([],[],[]))/\SqT K H p [.str (tx (es.getD i.toNat ([],[],[])).1),.str (tx (es.getD i.toNat ([],[],[])).2.1),.ref s]/\Is K H (.lst ((es.getD i.toNat ([],[],[])).2.2.map dSt)) (.ref s):=by
 have hl:=hI.len;rw[ac]at hl;obtain⟨v,a1,b1⟩:=uI (xs:=xs) (i:=i) h0 ⋯;obtain⟨d,e,ix⟩:=hI.get b1;rw[ar]at e;obtain⟨r,hr,rfl⟩:=Ak.mp e;have e:es.getD i.toNat ([],[],[])=r:=by rw[aa,hr];rfl
 rw[e];obtain⟨p,s,rfl,h2,h3⟩:=zdn ix;exact#[p,s,a1,hr,h2,h3]
theorem ZT(ss:List Stp)(z:Int):(mvL ss z).length=ss.length:=by simp [mvL]
theorem ym(ss:List Stp):(yJ ss).length=ss.length:=by simp [yJ]
def QG(K:pW):Sp:=λvs H Q _=>∃(a t:pX) (es:List Ent) (us:List Stp),vs=[.ref a,.ref t]/\Is K H (.lst (es.map dE)) (.ref a)/\Is K H (.lst (us.map dSt)) (.ref t)/\us.length<=100/\(∀e ∈ es,e.2.2.length<=600)/\(∀u ∈ us,0<=u.1/\u.1<es.length)/\∀(D:pX) (H':Hp),H D=tZ->Same H H'->LsA K H' D ((byL es us).map dSt)->Q (.ref D) H'
theorem iU:sQz 2 ["entries","steps","chain","step","own"] ug:=by nofun
theorem YW(B:Bt mg)(F:("by_pacts"^^^ug))(pG:(1<<<"moved") ["steps","size"] [] (Zo K))(lD:(1<<<"back") ["steps"] [] (uo K)):(2&&&["entries","steps"]) (QG K):=by
 exists F.ok iU
 ·obtain⟨a,t,es,us,rfl,hE,hU,hul,hel,hub,q⟩:=h
  refine#[_,(zi (zC 2 iU.nd (xj zd))
   (zi (zS PassesOwn.never rfl (yc (pv 1)) (zA (i:=3) iU.nd rfl (.inl rfl))
    (zi (zC 4 iU.nd (zo ix_tup (zo ix_list (pv 0) (zo ix_tup (pv 3) zg)) zg))
    (zc (xm (vq aY PySem.F.slot_list_extend PySem.F.type_list_extend Qu (pv 2) (za (cl0 pG hr .nil rfl (za (wM (yK (zo ix_tup (pv 3) zg) (λ_=>rfl)) (pv 4) (cl0 lD hr .nil rfl (za (pv 4) zd))) (za (zo ix_tup (pv 3) zg) zd))) zd))))))
   (zc (zk (pv 2))))),?_]
  have s16:=zP;have hE':=hE;have hU':=hU
  erw[Is]at hE' hU'
  obtain⟨_,xs,e,hX,hI⟩:=hE';cases e;obtain⟨_,ts,e,hTs,hJ⟩:=hU';cases e;have htl:=hJ.len;rw[ac]at htl;refine zj (λσ H'=>∃D,H D=tZ/\Same H H'/\H' D=tY (.lst [])/\σ=[!!a,!!t,!!D,tZ,tZ]) ?_ ?_
  ·rfl'
   exact#[⋯,λp hp=>#[p,hp,ze hp,zf,rfl]]
  rintro σ H1 ⟨D,hD,s1,hD1,rfl⟩:_;right;refine zj (λσ H'=>Same H H'/\LsA K H' D ((byL es us).map dSt)/\∃v3 v4,σ=[!!a,!!t,!!D,v3,v4]) ?_ ?_
  ·rfl'
   refine#[#[_,s1.seq hTs],ForL.by (xs:=ts) (λi σ H'=>Same H H'/\LsA K H' D ((byL es (us.take i)).map dSt)/\(byL es (us.take i)).length<=i * 600/\∃v3 v4,σ=[!!a,!!t,!!D,v3,v4]) #[s1,#[[],hD1,by erw[bE,byL,List.flatMap_nil,aM,Iss]],by simp [byL],_,_,rfl] (λi σ H' _ h=>h.1.seq hTs) ?_ ?_]
   ·refine nm4 ?_;rintro i x σ H' hx ⟨hs,hL,hl,v3,v4,rfl⟩:_;obtain⟨u,pu,hui,rfl,hqu⟩:=vE hJ hx;have hil:=(Af.mp hui).1;obtain⟨u0,u1⟩:=hub u (af hui);obtain⟨pe,se,g1,g2,g3,g4⟩:=zfn hI u0 u1;have hle:=hel _ (af g2)
    have hby:byL es (us.take (i+1))=byL es (us.take i) ++ X1 es u:=by
     unfold byL;rw[zN hui,cF];simp
    right
    erw[yD,aX,aW]
    refine zj (λσ H''=>H''=H'/\σ=[!!a,!!t,!!D,!!pu,!!se]) ?_ ?_
    ·rfl'
     exact#[_,zr hs hqu,_,rfl,_,rfl,_,hs.seq hX,_,g1,_,rfl,_,zr hs g3,rfl]
    rintro σ G ⟨rfl,rfl⟩:_;obtain⟨zs,hZ,hZI⟩:=id hL;have hzl:=hZI.len;rw[ac]at hzl;have hse:=Is.same hs _ _ g4
    have fin:∀(ws:List Stp) (M:pX) (G2:Hp),X1 es u=ws->ws.length<=600->Same G G2->LsA K G2 M (ws.map dSt)->Qp (V.ref D) [V.ref M] G2 λx H1=>Same H H1/\LsA K H1 D ((byL es (us.take (i+1))).map dSt)/\(byL es (us.take (i+1))).length<=(i+1) * 600:=λws M G2 ew hwl sg hM=>by
     obtain⟨ys,hY,hYI⟩:=hM;have hyl:=hYI.len;rw[ac]at hyl;have hZ2:=sg _ _ hZ;refine#[D,M,zs,ys,rfl,rfl,hZ2,hY,⋯,zH (hs.trans sg) hD,#[_,zf,?_],?_]
     ·rw[hby,ew,ax];exact Iss.append (Iss.updL hZ2 _ _ (vW _) (Iss.same sg _ _ hZI)) (Iss.updL hZ2 _ _ (vW _) hYI)
     ·rw[hby,ew,ak];lia
    right
    rfl'
    refine#[.inl #[_,SqL.of hZ],_,zr hs hqu,_,rfl,_,rfl,yo (λhf=>#[_,zr hs hqu,_,rfl,ZL hse ⋯ λM G2 _ sg hM=>fin _ M G2 (by unfold X1;rw[if_pos hf]) (by rw[ZT];lia) sg hM]) λhf=>uX hse ⋯ λM0 G1 _ sg0 hM0=>#[_,zr (hs.trans sg0) hqu,_,rfl,ZL hM0.is (by rw[ym];lia) λM G2 _ sg hM=>fin _ M G2 (by unfold X1;rw[if_neg hf]) (by rw[ZT,ym];lia) (sg0.trans sg) hM]]
   ·rintro σ H' ⟨hs,hL,hl,v3,v4,rfl⟩;rw[htl,aO]at hL;exact#[hs,hL,_,_,rfl]
  rintro σ H2 ⟨s2,hL2,v3,v4,rfl⟩:_;right
  rfl'
  exact q D H2 hD s2 hL2
noncomputable def z8(rs:List zq):()->List Stp->Option (())
 | w,[]=>tY w
 | w,s::ss=>(yn rs w s).bind λw'=>z8 rs w' ss
theorem y8(rs:List zq):∀(ss ts:List Stp) (w:()),z8 rs w (ss ++ ts)=(z8 rs w ss).bind λw'=>z8 rs w' ts
 | [],ts,w=>rfl
 | s::ss,ts,w=>by
  erw[bh,z8]
  cases yn rs w s with
  | none=>rfl
  | some w1=>exact y8 rs ss ts w1
theorem vY{s:Stp}{w w':()}(h:z8 rs w (s::ss)=tY w'):∃w1,yn rs w s=tY w1/\z8 rs w1 ss=tY w':=by
 erw[z8]at h
 obtain⟨w1,h1,h2⟩:=Aw.mp h;exact#[w1,h1,h2]
theorem Z1{s:Stp}{w w1 w2:()}(h:z8 rs w ss=tY w1)(h2:yn rs w1 s=tY w2):z8 rs w (ss ++ [s])=tY w2:=by
 rw[y8,h]
 erw[z8,bN]
 rw[h2];rfl
theorem VW(s:Stp)(ss:List Stp):yJ (s::ss)=yJ ss ++ [bk s]:=by simp [yJ]
theorem wv:∀{ss:List Stp} {w w':()},z8 rs w ss=tY w'->z8 rs w' (yJ ss)=tY w
 | [],w,w',h=>by cases h;rfl
 | s::ss,w,w',h=>by
  obtain⟨w1,h1,h2⟩:=vY h;rw[VW];exact Z1 (wv h2) (j1 h1)
theorem qp(a b:()):∀{ss:List Stp} {w w':()},z8 rs w ss=tY w'->z8 rs (a ++ w ++ b) (mvL ss (a.length:Int))=tY (a ++ w' ++ b)
 | [],w,w',h=>by cases h;rfl
 | s::ss,w,w',h=>by
  obtain⟨w1,h1,h2⟩:=vY h;have e:mvL (s::ss) (a.length:Int)=(s.1,s.2.1+(a.length:Int),s.2.2)::mvL ss (a.length:Int):=rfl;rw[e]
  erw[z8]
  rw[uB a b h1];exact qp a b h2
def EOk(rs:List zq)(e:Ent):Prop:=z8 rs e.1 e.2.2=tY e.2.1
noncomputable def zb(es:List Ent):List zq:=es.map λe=>(e.1,e.2.1)
theorem Km(hE:∀e ∈ es,EOk rs e){u:Stp}{w w':()}(h:yn (zb es) w u=tY w'):z8 rs w (X1 es u)=tY w':=by
 have hb:0<=u.1/\u.1<(zb es).length:=bG λhb=>by rw[yN hb]at h;cases h
 rw[yG hb]at h;have hl:(zb es).length=es.length:=by unfold zb;rw[ac]
 rw[hl]at hb
 have hg:es[u.1.toNat]? = tY (es.getD u.1.toNat ([],[],[])):=by
  rw[aa,ae ⋯];rfl
 have hp:(zb es).getD u.1.toNat ([],[])=((es.getD u.1.toNat ([],[],[])).1,(es.getD u.1.toNat ([],[],[])).2.1):=by
  unfold zb;rw[aa,ar,hg];rfl
 rw[hp]at h;have he:=hE _ (af hg);unfold X1;generalize es.getD u.1.toNat ([],[],[])=e at *
 have key:∀(o n:()) (ss:List Stp),sdl (e.1,e.2.1) u.2.2=(o,n)->z8 rs o ss=tY n->z8 rs w (mvL ss u.2.1)=tY w':=λo n ss hs hw=>by
  rw[hs]at h;by_cases hst:zu w u.2.1 o=Aa
  ·rw[if_pos hst]at h;cases h;obtain⟨e1,e2,h0,h1⟩:=yu hst;have:=qp (w.take u.2.1.toNat) (w.drop (u.2.1.toNat+o.length)) hw;rw[e1,e2,show ((u.2.1.toNat:Nat):Int)=u.2.1 by lia]at this;exact this
  ·rw[if_neg hst]at h;cases h
 cases hf:u.2.2 with
 | true =>
  rw[if_pos rfl];exact key e.1 e.2.1 e.2.2 (by rw[hf];rfl) he
 | false =>
  rw[if_neg ∅];exact key e.2.1 e.1 (yJ e.2.2) (by rw[hf];rfl) (wv he)
theorem jf(hE:∀e ∈ es,EOk rs e):∀{us:List Stp} {w w':()},z8 (zb es) w us=tY w'->z8 rs w (byL es us)=tY w'
 | [],w,w',h=>by cases h;rfl
 | u::us,w,w',h=>by
  obtain⟨w1,h1,h2⟩:=vY h;have e:byL es (u::us)=X1 es u ++ byL es us:=by simp [byL]
  rw[e,y8,Km hE h1];exact jf hE h2
theorem UI(ok:kR rs){w w':()}{s:Stp}(h:yn rs w s=tY w'):w'.length<=w.length+100:=by
 have hb:0<=s.1/\s.1<rs.length:=bG λhb=>by rw[yN hb]at h;cases h
 rw[yG hb]at h;have g:=Xa ok s.1.toNat;generalize rs.getD s.1.toNat ([],[])=r at *;by_cases hs:zu w s.2.1 (sdl r s.2.2).1=Aa
 ·rw[if_pos hs]at h;cases h;have:=Kj (n:=(sdl r s.2.2).2) hs
  have h2:(sdl r s.2.2).2.length<=100:=by
   cases s.2.2
   ·exact g.1
   ·exact g.2
  lia
 ·rw[if_neg hs]at h;cases h
noncomputable def jA(D:pX)(H:Hp):Hp:=λb=>if b=D then tZ else H b
theorem wx{D b:pX}(h:b≠D):jA D H b=H b:=by unfold jA;rw[if_neg h]
theorem qV{D:pX}:jA D H D=tZ:=by unfold jA;rw[if_pos rfl]
theorem wk{D:pX}:Same (jA D H) H:=λb o e=>by
 by_cases hb:b=D
 ·rw[hb,qV]at e;cases e
 ·rw[wx hb]at e;exact e
theorem U9{D:pX}{H H':Hp}(hD:H D=tZ)(s:Same H H'):Same H (jA D H'):=λb o e=>by
 have hb:b≠D:=λz=>by rw[z,hD]at e;cases e
 rw[wx hb];exact s _ _ e
theorem wE{D:pX}{H H':Hp}(s:Same H H'):Same (jA D H) (jA D H'):=λb o e=>by
 by_cases hb:b=D
 ·rw[hb,qV]at e;cases e
 ·rw[wx hb]at e ⊢;exact s _ _ e
theorem y6{D:pX}{o:HO}:Same (jA D H) (jA D (upd H D o)):=λb o' e=>by
 by_cases hb:b=D
 ·rw[hb,qV]at e;cases e
 ·rw[wx hb]at e ⊢;rw[zp hb];exact e
theorem V3{D a:pX}{xs ys:List V}(hD:H D=tY (.lst ys))(h:SqT K H a xs):SqT K (jA D H) a xs:=by
 rcases h with (h | ⟨o,h⟩) | h
 ·exact .inl (.inl (by rw[wx (λe=>by rw[e,hD]at h;cases h)];exact h))
 ·exact .inl (.inr #[o,by rw[wx (λe=>by rw[e,hD]at h;cases h)];exact h])
 ·exact .inr h
theorem XH{D:pX}{ys:List V}(hD:H D=tY (.lst ys)):∀(ss:List Stp) (vs:List V),Iss K H (ss.map dSt) vs->Iss K (jA D H) (ss.map dSt) vs
 | [],vs,h=>by erw[aM,Iss]at h ⊢;exact h
 | s::ss,vs,h=>by
  erw[ao,Iss]at h ⊢
  obtain⟨v,r,rfl,h1,h2⟩:=h;obtain⟨p,rfl,h3⟩:=zac h1;exact#[_,r,rfl,Wg (V3 hD h3),XH hD ss r h2]
theorem zeQ{p s:pX}(h1:SqT K H p [.str (tx e.1),.str (tx e.2.1),.ref s])(h2:Is K H (.lst (e.2.2.map dSt)) (.ref s)):Is K H (dE e) (.ref p):=by
 erw[dE,Is,Iss]
 erw[Is]at h2
 exact#[p,_,rfl,h1,_,_,rfl,rfl,_,_,rfl,rfl,_,_,rfl,h2,rfl]
theorem WC{vs:List V}{j:Nat}{v:V}(h:Iss K H (es.map dE) vs)(q:vs[j]? = tY v):∃e p s,es[j]? = tY e/\v=.ref p/\SqT K H p [.str (tx e.1),.str (tx e.2.1),.ref s]/\Is K H (.lst (e.2.2.map dSt)) (.ref s):=by
 obtain⟨d,e,i⟩:=h.get q;rw[ar]at e;obtain⟨r,hr,rfl⟩:=Ak.mp e;obtain⟨p,s,e1,e2,e3⟩:=zdn i;exact#[r,p,s,hr,e1,e2,e3]
theorem zbl{d:L3.D}{v:V}(h:Is K H d v):Iss K H [d] [v]:=by
 erw[Iss]
 exact#[v,[],rfl,h,rfl]
def EnA(K:pW)(H:Hp)(e:Ent)(v:V):Prop:=∃p s,v=.ref p/\SqT K H p [.str (tx e.1),.str (tx e.2.1),.ref s]/\LsA K H s (e.2.2.map dSt)
def EnsA(K:pW)(H:Hp):List Ent->List V->Prop
 | [],vs=>vs=[]
 | e::es,vs=>∃v r,vs=v::r/\EnA K H e v/\EnsA K H es r
def EnsL(K:pW)(H:Hp)(a:pX)(es:List Ent):Prop:=∃xs,SqL K H a xs/\EnsA K H es xs
def EnsM(K:pW)(H:Hp)(a:pX)(es:List Ent):Prop:=∃xs,H a=tY (.lst xs)/\EnsA K H es xs
theorem EnA.is{v:V}(h:EnA K H e v):Is K H (dE e) v:=by
 obtain⟨p,s,rfl,h1,h2⟩:=h;exact zeQ h1 h2.is
theorem EnA.same{H H':Hp}{v:V}(h:EnA K H e v)(q:Same H H'):EnA K H' e v:=by
 obtain⟨p,s,e0,h1,h2⟩:=h;exact#[p,s,e0,zr q h1,h2.same q]
theorem EnsA.iss:∀{es:List Ent} {vs:List V},EnsA K H es vs->Iss K H (es.map dE) vs
 | [],vs,h=>by erw[EnsA]at h;erw[aM,Iss];exact h
 | e::es,vs,h=>by
  erw[EnsA]at h
  obtain⟨v,r,rfl,h1,h2⟩:=h
  erw[ao,Iss]
  exact#[v,r,rfl,h1.is,h2.iss]
theorem EnsA.len{vs:List V}(h:EnsA K H es vs):vs.length=es.length:=by
 have:=h.iss.len;rw[ac]at this;exact this
theorem EnsA.same{H H':Hp}(q:Same H H'):∀{es:List Ent} {vs:List V},EnsA K H es vs->EnsA K H' es vs
 | [],vs,h=>by erw[EnsA]at h ⊢;exact h
 | e::es,vs,h=>by
  erw[EnsA]at h ⊢
  obtain⟨v,r,e0,h1,h2⟩:=h;exact#[v,r,e0,h1.same q,h2.same q]
theorem EnsA.snoc{v:V}(hv:EnA K H e v):∀{es:List Ent} {vs:List V},EnsA K H es vs->EnsA K H (es ++ [e]) (vs ++ [v])
 | [],vs,h=>by
  erw[EnsA]at h
  subst h
  erw[aZ,EnsA]
  exact#[v,[],rfl,hv,rfl]
 | e'::es,vs,h=>by
  erw[EnsA]at h
  obtain⟨x,r,rfl,hx,hr⟩:=h
  erw[bh,EnsA]
  exact#[x,r ++ [v],rfl,hx,hr.snoc hv]
theorem EnsA.get:∀{es:List Ent} {vs:List V} {j:Nat} {v:V},EnsA K H es vs->vs[j]? = tY v->∃e p s,es[j]? = tY e/\v=.ref p/\SqT K H p [.str (tx e.1),.str (tx e.2.1),.ref s]/\LsA K H s (e.2.2.map dSt)
 | [],vs,j,v,h,q=>by
  erw[EnsA]at h
  subst h;simp at q
 | e::es,vs,0,v,h,q=>by
  erw[EnsA]at h
  obtain⟨x,r,rfl,⟨p,s,rfl,h1,h2⟩,_⟩:=h;cases q;exact#[e,p,s,rfl,rfl,h1,h2]
 | e::es,vs,j+1,v,h,q=>by
  erw[EnsA]at h
  obtain⟨x,r,rfl,_,hr⟩:=h;exact hr.get (j:=j) (by simpa using q)
theorem EnsL.is{a:pX}(h:EnsL K H a es):Is K H (.lst (es.map dE)) (.ref a):=by
 obtain⟨xs,h1,h2⟩:=h
 erw[Is]
 exact#[a,xs,rfl,h1,h2.iss]
theorem EnsL.same{H H':Hp}{a:pX}(h:EnsL K H a es)(q:Same H H'):EnsL K H' a es:=by
 obtain⟨xs,h1,h2⟩:=h;exact#[xs,q.seq h1,h2.same q]
theorem EnsM.l{a:pX}(h:EnsM K H a es):EnsL K H a es:=by
 obtain⟨xs,h1,h2⟩:=h;exact#[xs,SqL.of h1,h2]
theorem EnsM.same{H H':Hp}{a:pX}(h:EnsM K H a es)(q:Same H H'):EnsM K H' a es:=by
 obtain⟨xs,h1,h2⟩:=h;exact#[xs,q _ _ h1,h2.same q]
theorem EnA.new{D p s:pX}{ys:List V}(hD:H D=tY (.lst ys))(hp:H p=tY (.tup [.str (tx e.1),.str (tx e.2.1),.ref s]))(hs:LsA K H s (e.2.2.map dSt))(hsD:s≠D):EnA K (jA D H) e (.ref p):=by
 obtain⟨zs,hz,hi⟩:=hs;have hpD:p≠D:=λz=>by rw[z,hD]at hp;cases hp
 exact#[p,s,rfl,SqT.of (by rw[wx hpD];exact hp),zs,by rw[wx hsD];exact hz,XH hD _ _ hi]
theorem xF(es:List Ent):(zb es).length=es.length:=by unfold zb;rw[ac]
def xX(K:pW):Sp:=λvs H Q _=>∃(a:pX) (es:List Ent),vs=[.ref a]/\Is K H (.lst (es.map dE)) (.ref a)/\es.length<=1000/\∀(D:pX) (H':Hp),H D=tZ->Same H H'->LsA K H' D ((zb es).map dR)->Q (.ref D) H'
theorem xI{a:pX}(h1:Is K H (.lst (es.map dE)) (.ref a))(h2:es.length<=1000)(h:∀(D:pX) (H':Hp),H D=tZ->Same H H'->LsA K H' D ((zb es).map dR)->Q (.ref D) H'):xX K [.ref a] H Q E:=#[a,es,rfl,h1,h2,h]
theorem YU:sQz 1 ["entries"] wN:=by nofun
theorem YF(B:Bt mg)(F:("pairs_of"^^^wN)) :(1&&&["entries"]) (xX K):=by
 exists F.ok YU
 ·obtain⟨a,es,rfl,hA,hl,q⟩:=h;refine#[_,(zc (zk (xY (own:=["entry"]) (caps:=[]) (ix:=[]) (tt:=vS) (te:=(Q1 (zM (tOp (jl K) (yt 0) (tC (.int 0))) (zM (tOp (jl K) (yt 0) (tC (.int 1))) xM)))) rfl (z6 (sc:=zh wN) rfl (by symm) (by symm) (by symm) rfl (by symm) (by symm) rfl) (yc (pv 0)) (λ_ _ _ _ _ _=>zA (i:=0) (show List.Nodup [_] by decide) rfl (.inl rfl)) (λ_ _ _ _ _ _=>y0) (λ_ _ _ _ _ _=>(zW (za (zo ix_tup (pv 0) zg) (za (zo ix_tup (pv 0) zg) zd))))))),?_];have s16:=zP
  rfl'
  erw[Is]at hA
  obtain⟨_,xs,e,hX,hI⟩:=hA;cases e;have hxl:=hI.len;rw[ac]at hxl;have hpl:=xF es;refine#[#[xs,hX],λD hD=>CompL.by (xs:=xs) (λi Ae H'=>Same H H'/\H' D=tY (.lst Ae)/\Iss K H' (((zb es).take i).map dR) Ae) #[ze hD,zf,by erw[bE,aM,Iss]] (λi Ae H' _ h=>h.1.seq hX) ?_ ?_]
  ·refine nm4 ?_;rintro i x Ae H' hx ⟨hs,hH,hA⟩:_;have hi:=(Af.mp hx).1;obtain⟨e,pe,se,hei,rfl,hqe,_⟩:=WC hI hx;have hm:(zb es)[i]? = tY (e.1,e.2.1):=by unfold zb;rw[ar,hei];rfl
   have hal:=hA.len;rw[ac,aI]at hal;right
   erw[vS]
   rfl'
   refine#[xZ,_,zr hs hqe,_,rfl,_,zr hs hqe,_,rfl,⋯,λp hp=>#[ze hp _ _ hH,⋯,CNx.mk hi #[zH (hs.trans (ze hp)) hD,zf,?_]]];rw[zN hm,ax];exact kZ hH hA hp zeR (xf _) (by erw[zZ,xB,and_self])
  ·rintro Ae H' ⟨hs,hH,hA⟩;rw[hxl,<- hpl,aO]at hA;exact q D H' hD hs #[Ae,hH,hA]
noncomputable def zQ(k:Nat)(l:())(ns:List Int)(e:Ent):Ent:=if zL k l ns e.2.1 e.1=Aa then e else (e.2.1,e.1,yJ e.2.2)
structure EB(l:())(e:Ent):Prop where
 a:e.1.length<=60
 b:e.2.1.length<=60
 s:e.2.2.length<=600
 ma:∀c ∈ e.1,c ∈ l
 mb:∀c ∈ e.2.1,c ∈ l
theorem EB.rule{l:()}(h:EB l e):EB l (zQ k l ns e):=by
 unfold zQ;split
 ·exact h
 ·exact#[h.b,h.a,by rw[ym];exact h.s,h.mb,h.ma]
def wJ(K:pW)(CO CR CW:pX):Sp:=λvs H Q _=>∃(o p s:pX) (k:Nat) (l:()) (ns:List Int) (e:Ent),vs=[.ref o,.ref p]/\OrdAt CO CR CW H o k l ns/\OG l ns k/\SqT K H p [.str (tx e.1),.str (tx e.2.1),.ref s]/\Is K H (.lst (e.2.2.map dSt)) (.ref s)/\EB l e /\
 (zQ k l ns e=e->∀H',Same H H'->Q (.ref p) H') /\
 (∀(p' s':pX) (H':Hp),Same H H'->H s'=tZ->H' p'=tY (.tup [.str (tx (zQ k l ns e).1),.str (tx (zQ k l ns e).2.1),.ref s'])->LsA K H' s' ((zQ k l ns e).2.2.map dSt)->Q (.ref p') H')
theorem jU{CO CR CW o p s:pX}{l:()}(h1:OrdAt CO CR CW H o k l ns)(h2:OG l ns k)(h3:SqT K H p [.str (tx e.1),.str (tx e.2.1),.ref s])(h4:Is K H (.lst (e.2.2.map dSt)) (.ref s))(h5:EB l e)
  (h6:zQ k l ns e=e->∀H',Same H H'->Q (.ref p) H') (h7:∀(p' s':pX) (H':Hp),Same H H'->H s'=tZ->H' p'=tY (.tup [.str (tx (zQ k l ns e).1),.str (tx (zQ k l ns e).2.1),.ref s'])->LsA K H' s' ((zQ k l ns e).2.2.map dSt)->Q (.ref p') H'):wJ K CO CR CW [.ref o,.ref p] H Q E :=
 #[o,p,s,k,l,ns,e,rfl,h1,h2,h3,h4,h5,h6,h7]
theorem W9:sQz 2 ["order","entry"] qA:=by nofun
theorem Vh{f CO CR CW:pX}(B:Bt mg)(DBk:DB P w K mg base CO CR CW)(F:("as_rule"^^^qA))(lD:(1<<<"back") ["steps"] [] (uo K)):(4&&&["order","entry"]) (wJ K CO CR CW):=by
 exists F.ok W9
 ·obtain⟨o,p,s,k,l,ns,e,rfl,ho,hG,hp,hs,hE,q1,q2⟩:=h
  refine#[_,(zE (zK (yK (zbW DBk hr (pv 0) (za (zo ix_tup (pv 1) zg) (za (zo ix_tup (pv 1) zg) zd))) (λ_=>rfl))
    (zc (zk (pv 1)))
    zt)
   (zc (zk (zW (za (zo ix_tup (pv 1) zg) (za (zo ix_tup (pv 1) zg) (za (cl0 lD hr .nil rfl (za (zo ix_tup (pv 1) zg) zd)) zd))))))),?_]
  have s16:=zP;ac_rfl;obtain⟨C,dx,fs,hf,ho1,hn,_⟩:=ho.fam;have h1:fs.lookup ("before" : re)=tZ:=hn _ ∅ ∅;refine#[C,hf,dx,fs,ho1,h1,_,hp,_,rfl,_,hp,_,rfl,o,k,l,ns,e.2.1,e.1,rfl,ho,hG,by have:=hE.b;lia,by have:=hE.a;lia,hE.mb,hE.ma,λH1 s1=>#[_,rfl,yo (λh=>?_) λh=>?_]]
  ·exact q1 (by unfold zQ;rw[if_pos h]) H1 s1
  ·have er:zQ k l ns e=(e.2.1,e.1,yJ e.2.2):=by unfold zQ;rw[if_neg h]
   rw[er]at q2;have hp1:=zr s1 hp;refine#[_,hp1,_,rfl,_,hp1,_,rfl,_,hp1,_,rfl,uX (Is.same s1 _ _ hs) (by have:=hE.s;lia) λD H2 hD s2 hL=>#[⋯,λt ht=>?_]];exact q2 t D _ (s1.trans (s2.trans (ze ht))) (s1.free hD) zf (hL.same (ze ht))
theorem Xi{l:()}{w:()}(hb:∀n ∈ ns,1<=n/\n<=1000000):0<=Q2 l ns w:=by
 unfold Q2
 have key:∀xs:List Int,(∀x ∈ xs,0<=x)->0<=xs.sum:=by
  intro xs
  induction xs with
  | nil=>intro _;simp
  | cons x xs ih =>
   intro h;rw[bi];have h1:=h x aw;have h2:=ih λy hy=>h y (am _ hy);lia
 refine key _ λx hx=>?_;obtain⟨p,hp,rfl⟩:=Ag.mp hx;have h1:=(hb p.2 (cX (show (p.1,p.2) ∈ l.zip ns from hp)).2).1;exact Int.mul_nonneg ⋯ ⋯
theorem VX{l:()}{u v:()}(hb:∀n ∈ ns,1<=n/\n<=1000000)(h:zL k l ns u v=Aa):v≠[]:=by
 intro e;subst e
 have h0:zy k l ns []=0:=by
  unfold zy;split
  ·unfold Q2
   have z:∀xs:List (Nat × Int),(xs.map λp=>(([]:()).count p.1:Int) * p.2).sum=0:=by
    intro xs
    induction xs with
    | nil=>rfl
    | cons x xs ih=>rw[ao,bi,ih];simp
   exact z _
  ·rfl
 have h1:0<=zy k l ns u:=by
  unfold zy;split
  ·exact Xi hb
  ·lia
 have h2:qK k l []=[]:=by
  unfold qK xH;split <;> rfl
 unfold zL at h;rw[h0,h2]at h;split at h
 ·cases hr:qK k l u with
  | nil=>rw[hr]at h;cases h
  | cons a r=>rw[hr]at h;cases h
 ·have:=of_decide_eq_true h;lia
theorem qk{k:Nat}{l:()}{ns:List Int}(hE:EB l e)(hne:e.1≠e.2.1):zL k l ns (zQ k l ns e).2.1 (zQ k l ns e).1=Aa:=by
 unfold zQ;by_cases h:zL k l ns e.2.1 e.1=Aa
 ·rw[if_pos h];exact h
 ·rw[if_neg h];have:=qB (k:=k) (ns:=ns) hE.ma hE.mb hne;show zL k l ns e.1 e.2.1=Aa;rw[this];simpa using h
noncomputable def uW(k:Nat)(l:())(ns:List Int)(es:List Ent):List Ent:=(es.filter λe=>!decide (e.1=e.2.1)).map (zQ k l ns)
theorem zbF(k:Nat)(l:())(ns:List Int)(es fs:List Ent):uW k l ns (es ++ fs)=uW k l ns es ++ uW k l ns fs:=by
 unfold uW;rw[cK,ax]
theorem Y9(k:Nat)(l:())(ns:List Int)(es:List Ent):(uW k l ns es).length<=es.length:=by
 unfold uW;rw[ac];exact cM _ _
noncomputable def kE(k:Nat)(l:())(ns:List Int)(a b:Ent):Bool:=if a.1=b.1 then zL k l ns a.2.1 b.2.1 else zL k l ns a.1 b.1
structure Lined(k:Nat)(l:())(ns:List Int)(es zs:List Ent):Prop where
 perm:zs.Perm (uW k l ns es)
 srt:zs.Pairwise λa b=>kE k l ns b a=Ab
 is:zs=L3.srt (kE k l ns) ([],[],[]) (uW k l ns es)
structure EndsAt(ps:List zq)(w:())(i:Nat):Prop where
 live:Wm ps w i
 end_:zG (wAt ps w i) ps=tZ
 most:i<=40
theorem Ud(ps:List zq)(w:()):(∃i,EndsAt ps w i)\/(Wm ps w 40/\zG (wAt ps w 40) ps≠tZ):=by
 have key:∀n,n<=41->(∃i,EndsAt ps w i)\/Wm ps w n:=by
  intro n
  induction n with
  | zero=>intro _;exact .inr λi h=>absurd h (bV i)
  | succ n ih =>
   intro hn;rcases ih ⋯ with h | h
   ·exact .inl h
   ·cases e:zG (wAt ps w n) ps with
    | none=>exact .inl #[n,h,e,⋯]
    | some u =>
     refine .inr λi hi=>?_;by_cases hin:i=n
     ·rw[hin,e];intro z;cases z
     ·exact h i ⋯
 rcases key 41 (al _)with h | h
 ·exact .inl h
 ·exact .inr #[λi hi=>h i ⋯,h 40 ∅]
theorem EndsAt.uniq{w:()}{i j:Nat}(h1:EndsAt ps w i)(h2:EndsAt ps w j):i=j:=ko h1.live h1.end_ h2.live h2.end_
noncomputable def stS(us:List (Nat × Nat)):List Stp:=us.map λu=>((u.1:Int),(u.2:Int),Aa)
noncomputable def yB(bs:List Ent)(e:Ent)(i j:Nat):Ent:=(wAt (zb bs) e.1 i,wAt (zb bs) e.2.1 j,byL bs (yJ (stS (sAt (zb bs) e.1 i))) ++ e.2.2 ++ byL bs (stS (sAt (zb bs) e.2.1 j)))
def qc(e:Ent):Prop:=240<e.2.2.length\/60<e.1.length\/60<e.2.1.length
inductive yS(k:Nat)(l:())(ns:List Int):List Ent->List Ent->Option (List Ent)->Prop where
 | nil (bs:List Ent):yS k l ns bs [] (tY bs)
 | same {bs es:List Ent} {e:Ent} {i j:Nat} {r:Option (List Ent)} (h1:EndsAt (zb bs) e.1 i) (h2:EndsAt (zb bs) e.2.1 j) (h3:wAt (zb bs) e.1 i=wAt (zb bs) e.2.1 j) (h4:yS k l ns bs es r):yS k l ns bs (e::es) r
 | new {bs es:List Ent} {e:Ent} {i j:Nat} {r:Option (List Ent)} (h1:EndsAt (zb bs) e.1 i) (h2:EndsAt (zb bs) e.2.1 j) (h3:wAt (zb bs) e.1 i≠wAt (zb bs) e.2.1 j) (h4:¬ qc (yB bs e i j)) (h5:yS k l ns (bs ++ [zQ k l ns (yB bs e i j)]) es r):yS k l ns bs (e::es) r
 | far {bs es:List Ent} {e:Ent} {i j:Nat} (h1:EndsAt (zb bs) e.1 i) (h2:EndsAt (zb bs) e.2.1 j) (h3:wAt (zb bs) e.1 i≠wAt (zb bs) e.2.1 j) (h4:qc (yB bs e i j)):yS k l ns bs (e::es) tZ
 | stuck {bs es:List Ent} {e:Ent} (h:(∀i,¬ EndsAt (zb bs) e.1 i)\/(∀j,¬ EndsAt (zb bs) e.2.1 j)):yS k l ns bs (e::es) tZ
inductive v0(k:Nat)(l:())(ns:List Int):Nat->List Ent->Option (List Ent)->Prop where
 | out (es:List Ent):v0 k l ns 0 es tZ
 | bad {n:Nat} {es zs:List Ent} (h1:Lined k l ns es zs) (h2:yS k l ns [] zs tZ):v0 k l ns (n+1) es tZ
 | done {n:Nat} {es zs bs:List Ent} (h1:Lined k l ns es zs) (h2:yS k l ns [] zs (tY bs)) (h3:zb bs=zb zs):v0 k l ns (n+1) es (tY bs)
 | more {n:Nat} {es zs bs:List Ent} {r:Option (List Ent)} (h1:Lined k l ns es zs) (h2:yS k l ns [] zs (tY bs)) (h3:zb bs≠zb zs) (h4:v0 k l ns n bs r):v0 k l ns (n+1) es r
theorem yh{w:()}{u:Nat × Nat}(h:zG w ps=tY u):∃p,ps[u.1]? = tY p/\zu w (u.2:Int) p.1=Aa:=by
 have hm:u ∈ xy w ps w.length:=List.mem_of_mem_head? (by unfold zG at h;rw[h];rfl);exact (vb (usesK_mem.mp hm).2).2
theorem vk{l w:()}(hw:∀c ∈ w,c ∈ l)(hp:∀p ∈ ps,∀c ∈ p.2,c ∈ l):∀j,∀c ∈ wAt ps w j,c ∈ l
 | 0=>hw
 | j+1=>by
  have ih:=vk hw hp j
  cases e:zG (wAt ps w j) ps with
  | none =>
   show ∀c ∈ Vr ps (wAt ps w j),c ∈ l;unfold Vr;rw[e];exact ih
  | some u =>
   obtain⟨p,h1,h2⟩:=yh e;rw[xR e];unfold YV yP;rw[y3 h1];intro c hc;rcases Ai.mp hc with hc | hc
   ·rcases Ai.mp hc with hc | hc
    ·exact ih c (bB hc)
    ·exact hp p (af h1) c hc
   ·exact ih c (cQ hc)
structure zar(R:()->()->Prop):Prop where
 refl:∀u,R u u
 symm:∀{u v},R u v->R v u
 trans:∀{u v w},R u v->R v w->R u w
 ctx:∀{u v} (a b:()),R u v->R (a ++ u ++ b) (a ++ v ++ b)
def Vn(R:()->()->Prop)(es:List Ent):Prop:=∀e ∈ es,R e.1 e.2.1
theorem J0{R:()->()->Prop}(hR:zar R)(hk:∀p ∈ ps,R p.1 p.2)(w:()):∀j,R w (wAt ps w j)
 | 0=>hR.refl w
 | j+1=>by
  have ih:=J0 hR hk w j
  cases e:zG (wAt ps w j) ps with
  | none =>
   show R w (Vr ps (wAt ps w j));unfold Vr;rw[e];exact ih
  | some u =>
   obtain⟨p,h1,h2⟩:=yh e;rw[xR e];refine hR.trans ih ?_;obtain⟨e1,_⟩:=yu h2;unfold YV yP;rw[y3 h1];have:=hR.ctx ((wAt ps w j).take ((u.2:Int)).toNat) ((wAt ps w j).drop (((u.2:Int)).toNat+p.1.length)) (hk p (af h1));rw[e1]at this;exact this
theorem qJ{R:()->()->Prop}(h:Vn R bs):∀p ∈ zb bs,R p.1 p.2:=λp hp=>by
 unfold zb at hp;obtain⟨e,he,rfl⟩:=Ag.mp hp;exact h e he
theorem jX{R:()->()->Prop}(hR:zar R){l:()}:R (zQ k l ns e).1 (zQ k l ns e).2.1 ↔ R e.1 e.2.1:=by
 unfold zQ;split
 ·exact Iff.rfl
 ·exact#[hR.symm,hR.symm]
theorem Vw{R:()->()->Prop}(hR:zar R){i j:Nat}(h:Vn R bs):R (wAt (zb bs) e.1 i) (wAt (zb bs) e.2.1 j) ↔ R e.1 e.2.1:=by
 have h1:=J0 hR (qJ h) e.1 i;have h2:=J0 hR (qJ h) e.2.1 j;exact#[λx=>hR.trans h1 (hR.trans x (hR.symm h2)),λx=>hR.trans (hR.symm h1) (hR.trans x h2)]
theorem zeS{R:()->()->Prop}(hR:zar R){l:()}{bs es:List Ent}{r:Option (List Ent)}(h:yS k l ns bs es r):∀fs,r=tY fs->(Vn R fs ↔ Vn R bs/\Vn R es):=by
 induction h with
 | nil bs =>
  intro fs e;cases e;exact#[λh=>#[h,λe he=>(nomatch he)],λh=>h.1]
 | @same bs es e i j r h1 h2 h3 h4 ih =>
  intro fs er;rw[ih fs er];refine#[λ⟨a,b⟩=>#[a,λx hx=>?_],λ⟨a,b⟩=>#[a,λx hx=>b x (am _ hx)]];rcases Ah.mp hx with rfl | hx
  ·refine (Vw hR a (i:=i) (j:=j)).mp ?_;rw[h3];exact hR.refl _
  ·exact b x hx
 | @new bs es e i j r h1 h2 h3 h4 h5 ih =>
  intro fs er;rw[ih fs er];constructor
  ·rintro⟨a,b⟩;have a':Vn R bs:=λx hx=>a x (bn _ hx);refine#[a',λx hx=>?_];rcases Ah.mp hx with rfl | hx
   ·have:=a _ (aA bs (Aj.mpr rfl));exact (Vw hR a' (i:=i) (j:=j)).mp ((jX hR).mp this)
   ·exact b x hx
  ·rintro⟨a,b⟩;refine#[λx hx=>?_,λx hx=>b x (am _ hx)];rcases Ai.mp hx with hx | hx
   ·exact a x hx
   ·rw[Aj.mp hx];exact (jX hR).mpr ((Vw hR a (i:=i) (j:=j)).mpr (b e aw))
 | far=>intro fs e;cases e
 | stuck=>intro fs e;cases e
def Within(p w:()):Prop:=∃a b:(),w=a ++ p ++ b
theorem UK{w p:()}{q:Nat}(h:zu w (q:Int) p=Aa):Within p w:=by
 obtain⟨e,_⟩:=yu h;exact#[_,_,e.symm]
theorem UL{w p:()}(h:Within p w):∃q:Nat,zu w (q:Int) p=Aa:=by
 obtain⟨a,b,rfl⟩:=h;refine#[a.length,?_];unfold zu;refine decide_eq_true #[⋯,by erw[ak];lia,?_];rw[aR,aL,List.drop_left,List.take_left]
theorem Xh{w:()}(hN:NeL ps)(h:zG w ps=tZ):∀p ∈ ps,¬ Within p.1 w:=λp hp hw=>by
 obtain⟨q,hq⟩:=UL hw;obtain⟨j,hj⟩:=Ax.mp hp;have hlt:=jk (hN p hp) hq;have hs:stJ w ps q j=Aa:=by rw[jP hj];exact hq
 have:(j,q) ∈ xy w ps w.length:=usesK_mem.mpr #[hlt,hs];unfold zG at h;rw[List.head?_eq_none_iff]at h;rw[h]at this;cases this
structure RL(k:Nat)(l:())(ns:List Int)(bs:List Ent):Prop where
 e:∀e ∈ bs,EB l e
 lt:∀e ∈ bs,zL k l ns e.2.1 e.1=Aa
theorem Q5{l:()}{w:()}{u:Nat × Nat}(G:OG l ns k)(hp:∀p ∈ ps,zL k l ns p.2 p.1=Aa/\(∀c ∈ p.1,c ∈ l)/\∀c ∈ p.2,c ∈ l)(hw:∀c ∈ w,c ∈ l)(h:zG w ps=tY u):zL k l ns (YV w ps u) w=Aa:=by
 obtain⟨p,h1,h2⟩:=yh h;obtain⟨e1,_⟩:=yu h2;obtain⟨p1,p2,p3⟩:=hp p (af h1);unfold YV yP;rw[y3 h1];have ha:∀c ∈ w.take ((u.2:Int)).toNat,c ∈ l:=λc hc=>hw c (bB hc);have hb:∀c ∈ w.drop (((u.2:Int)).toNat+p.1.length),c ∈ l:=λc hc=>hw c (cQ hc);generalize w.take ((u.2:Int)).toNat=a at *;generalize w.drop (((u.2:Int)).toNat+p.1.length)=b at *;rw[<- e1];have ap:∀x:(),(∀c ∈ x,c ∈ l)->∀c ∈ a ++ x,c ∈ l:=λx hx c hc=>(Ai.mp hc).elim (ha c) (hx c);rw[(Yr G hb (ap p.2 p3) (ap p.1 p2)).2,(Yr G ha p3 p2).1];exact p1
theorem zaf{l:()}{w:()}(G:OG l ns k)(hp:∀p ∈ ps,zL k l ns p.2 p.1=Aa/\(∀c ∈ p.1,c ∈ l)/\∀c ∈ p.2,c ∈ l)(hw:∀c ∈ w,c ∈ l):∀j,wAt ps w j=w\/zL k l ns (wAt ps w j) w=Aa
 | 0=>.inl rfl
 | j+1=>by
  have ih:=zaf G hp hw j;have hm:=vk hw (λp hp'=>(hp p hp').2.2) j
  cases e:zG (wAt ps w j) ps with
  | none =>
   show Vr ps (wAt ps w j)=w\/zL k l ns (Vr ps (wAt ps w j)) w=Aa;unfold Vr;rw[e];exact ih
  | some u =>
   rw[xR e];have h:=Q5 G hp hm e;rcases ih with h' | h'
   ·rw[h']at h ⊢;exact .inr h
   ·exact .inr (qm h h')
theorem RL.pairs{l:()}(h:RL k l ns bs):∀p ∈ zb bs,zL k l ns p.2 p.1=Aa/\(∀c ∈ p.1,c ∈ l)/\∀c ∈ p.2,c ∈ l:=λp hp=>by
 unfold zb at hp;obtain⟨e,he,rfl⟩:=Ag.mp hp;exact#[h.lt e he,(h.e e he).ma,(h.e e he).mb]
theorem RL.ne{l:()}(h:RL k l ns bs)(G:OG l ns k):NeL (zb bs):=λp hp=>VX G.nb (h.pairs p hp).1
theorem RL.snoc{l:()}{d:Ent}(h:RL k l ns bs)(hd:EB l d)(hne:d.1≠d.2.1):RL k l ns (bs ++ [zQ k l ns d]):=by
 refine#[λe he=>?_,λe he=>?_]
 ·rcases Ai.mp he with he | he
  ·exact h.e e he
  ·rw[Aj.mp he];exact hd.rule
 ·rcases Ai.mp he with he | he
  ·exact h.lt e he
  ·rw[Aj.mp he];exact qk hd hne
theorem zbo{l:()}{i j:Nat}(hB:RL k l ns bs)(hE:EB l e)(hF:¬ qc (yB bs e i j)):EB l (yB bs e i j):=by
 unfold qc at hF;exact#[⋯,⋯,⋯,vk hE.ma (λp hp=>(hB.pairs p hp).2.2) i,vk hE.mb (λp hp=>(hB.pairs p hp).2.2) j]
theorem Va{l:()}{i j:Nat}(G:OG l ns k)(hB:RL k l ns bs)(hE:EB l e)(hlt:zL k l ns e.2.1 e.1=Aa)(h1:EndsAt (zb bs) e.1 i)(h2:EndsAt (zb bs) e.2.1 j)
  (hp1:(zQ k l ns (yB bs e i j)).1=e.1) (hp2:(zQ k l ns (yB bs e i j)).2.1=e.2.1):zG e.1 (zb bs)=tZ/\zG e.2.1 (zb bs)=tZ:=by
 unfold zQ at hp1 hp2;by_cases h:zL k l ns (yB bs e i j).2.1 (yB bs e i j).1=Aa
 ·rw[if_pos h]at hp1 hp2;have a1:wAt (zb bs) e.1 i=e.1:=hp1;have a2:wAt (zb bs) e.2.1 j=e.2.1:=hp2;have b1:=h1.end_;have b2:=h2.end_;rw[a1]at b1;rw[a2]at b2;exact#[b1,b2]
 ·rw[if_neg h]at hp1 hp2;have a1:wAt (zb bs) e.2.1 j=e.1:=hp1;rcases zaf G hB.pairs hE.mb j with h' | h'
  ·rw[a1]at h';rw[h',y9]at hlt;cases hlt
  ·rw[a1]at h';rw[YM h']at hlt;cases hlt
theorem jL{l:()}(G:OG l ns k){bs es:List Ent}{r:Option (List Ent)}(h:yS k l ns bs es r):∀fs,r=tY fs->RL k l ns bs->RL k l ns es->∃gs,fs=bs ++ gs/\gs.length<=es.length/\RL k l ns fs /\
  (zb gs=zb es->∀i e,es[i]? = tY e->zG e.1 (zb (bs ++ gs.take i))=tZ/\zG e.2.1 (zb (bs ++ gs.take i))=tZ):=by
 induction h with
 | nil bs =>
  intro fs er hb he;cases er;exact#[[],by simp,al _,hb,λ_ i e h=>by simp at h]
 | @same bs es e i j r h1 h2 h3 h4 ih =>
  intro fs er hb he;obtain⟨gs,g1,g2,g3,g4⟩:=ih fs er hb #[λx hx=>he.e x (am _ hx),λx hx=>he.lt x (am _ hx)];refine#[gs,g1,by rw[aB];lia,g3,λhp=>?_];have:=congrArg dY hp;unfold zb at this;rw[ac,ac,aB]at this;lia
 | @new bs es e i j r h1 h2 h3 h4 h5 ih =>
  intro fs er hb he;have hEe:=he.e e aw;have hd:=zbo hb hEe h4;obtain⟨gs,g1,g2,g3,g4⟩:=ih fs er (hb.snoc hd h3) #[λx hx=>he.e x (am _ hx),λx hx=>he.lt x (am _ hx)];refine#[zQ k l ns (yB bs e i j)::gs,by rw[g1,aL];rfl,by rw[aB,aB];lia,g3,λhp n x hx=>?_];unfold zb at hp;rw[ao,ao]at hp;injection hp with hp1 hp2;have hp1a:=(Prod.ext_iff.mp hp1).1;have hp1b:=(Prod.ext_iff.mp hp1).2
  cases n with
  | zero =>
   have e0:e=x:=by simpa using hx
   subst e0;rw[bE,aP];exact Va G hb hEe (he.lt _ aw) h1 h2 hp1a hp1b
  | succ n =>
   have:=g4 hp2 n x (by simpa using hx);rw[aL]at this;rw[dP];exact this
 | far=>intro fs e;cases e
 | stuck=>intro fs e;cases e
theorem uH{l:()}(G:OG l ns k){p w:()}(hw:∀c ∈ w,c ∈ l)(h:Within p w):p=w\/zL k l ns p w=Aa:=by
 obtain⟨a,b,rfl⟩:=h;by_cases e:a ++ p ++ b=p
 ·exact .inl e.symm
 ·refine .inr (JD G (λc hc=>hw c ?_) (λc hc=>hw c ?_) (λc hc=>hw c ?_) e).1
  ·exact bn _ (bn _ hc)
  ·exact bn _ (aA _ hc)
  ·exact aA _ hc
structure ThinL(k:Nat)(l:())(ns:List Int)(zs:List Ent):Prop where
 rl:RL k l ns zs
 up:∀(i j:Nat) (a b:Ent),zs[i]? = tY a->zs[j]? = tY b->i<j->zL k l ns a.1 b.1=Aa
 no1:∀(i j:Nat) (a b:Ent),zs[i]? = tY a->zs[j]? = tY b->i≠j->¬ Within b.1 a.1
 no2:∀(i j:Nat) (a b:Ent),zs[i]? = tY a->zs[j]? = tY b->¬ Within b.1 a.2.1
theorem zaN{k:Nat}{l:()}{ns:List Int}(G:OG l ns k){zs bs:List Ent}(hz:RL k l ns zs)(hs:zs.Pairwise λa b=>kE k l ns b a=Ab)(h:yS k l ns [] zs (tY bs))(hp:zb bs=zb zs):ThinL k l ns zs:=by
 obtain⟨gs,g1,g2,g3,g4⟩:=jL G h bs rfl #[λe he=>(nomatch he),λe he=>(nomatch he)] hz;rw[aZ]at g1;subst g1;have irr:=g4 hp
 erw[aZ]at irr
 have early:∀(i j:Nat) (a b:Ent),zs[i]? = tY a->zs[j]? = tY b->j<i->¬ Within b.1 a.1/\¬ Within b.1 a.2.1:=λi j a b ha hb hj=>by
  have hm:(b.1,b.2.1) ∈ zb (bs.take i):=by
   have e1:zb (bs.take i)=(zb zs).take i:=by
    rw[<- hp];unfold zb;rw[List.map_take]
   rw[e1];refine Ax.mpr #[j,?_];rw[cC hj];unfold zb;rw[ar,hb];rfl
  have hN:NeL (zb (bs.take i)):=λp hp'=>by
   refine (g3.ne G) p ?_;unfold zb at hp' ⊢;obtain⟨x,hx,rfl⟩:=Ag.mp hp';exact Ag.mpr #[x,bB hx,rfl]
  obtain⟨f1,f2⟩:=irr i a ha;exact#[Xh hN f1 _ hm,Xh hN f2 _ hm]
 have later:∀(i j:Nat) (a b:Ent),zs[i]? = tY a->zs[j]? = tY b->i<j->zL k l ns b.1 a.1=Ab:=λi j a b ha hb hij=>by
  have hi:=(Af.mp ha);have hj:=(Af.mp hb);have:=List.pairwise_iff_getElem.mp hs i j hi.1 hj.1 hij;rw[hi.2,hj.2]at this;unfold kE at this;by_cases e:b.1=a.1
  ·rw[e,y9]
  ·rw[if_neg e]at this;exact this
 have memz:∀{i:Nat} {a:Ent},zs[i]? = tY a->EB l a/\zL k l ns a.2.1 a.1=Aa:=λ{i a} ha=>#[hz.e _ (af ha),hz.lt _ (af ha)]
 have up:∀(i j:Nat) (a b:Ent),zs[i]? = tY a->zs[j]? = tY b->i<j->zL k l ns a.1 b.1=Aa:=λi j a b ha hb hij=>by
  have hne:a.1≠b.1:=λe=>(early j i b a hb ha hij).1 #[[],[],by rw[e];simp];have t:=qB (k:=k) (ns:=ns) (memz ha).1.ma (memz hb).1.ma hne;rw[later i j a b ha hb hij]at t;simpa using t
 refine#[hz,up,λi j a b ha hb hij=>?_,λi j a b ha hb hw=>?_]
 ·rcases Nat.lt_or_gt_of_ne hij with h1 | h1
  ·intro hw;rcases uH G (memz ha).1.ma hw with e | e
   ·have:=up i j a b ha hb h1;rw[e,y9]at this;cases this
   ·rw[later i j a b ha hb h1]at e;cases e
  ·exact (early i j a b ha hb h1).1
 ·have hle:zL k l ns b.1 a.1=Aa:=by
   rcases uH G (memz ha).1.mb hw with e | e
   ·rw[e];exact (memz ha).2
   ·exact qm e (memz ha).2
  rcases d8 i j with h1 | h1 | h1
  ·rw[later i j a b ha hb h1]at hle;cases hle
  ·subst h1;rw[ha]at hb;cases hb;rw[y9]at hle;cases hle
  ·exact (early i j a b ha hb h1).2 hw
theorem vL{w:()}:∀{i:Nat},Wm ps w i->z8 ps w (stS (sAt ps w i))=tY (wAt ps w i)
 | 0,_=>rfl
 | i+1,h=>by
  have ih:=vL (i:=i) λj hj=>h j ⋯;have hne:=h i ⋯
  cases e:zG (wAt ps w i) ps with
  | none=>exact absurd e hne
  | some u =>
   rw[WB,xR e,e];unfold stS at ih ⊢;rw[ax];refine Z1 ih ?_;obtain⟨p,h1,h2⟩:=yh e;have hl:=(Af.mp h1).1;show yn ps (wAt ps w i) ((u.1:Int),(u.2:Int),Aa)=_;rw[yG (by show (0:Int)<=(u.1:Int)/\(u.1:Int)<ps.length;lia)];have e2:ps.getD ((u.1:Int)).toNat ([],[])=p:=by rw[aR,aa,h1];rfl
   show (if zu (wAt ps w i) (u.2:Int) (sdl (ps.getD ((u.1:Int)).toNat ([],[])) Aa).1=Aa then _ else tZ)=_;rw[e2,if_pos (show zu (wAt ps w i) (u.2:Int) (sdl p Aa).1=Aa from h2)];unfold YV;rw[y3 h1];rfl
theorem VD{l:()}(h:EOk rs e):EOk rs (zQ k l ns e):=by
 unfold zQ;split
 ·exact h
 ·exact wv h
theorem zbP{i j:Nat}(hb:∀e ∈ bs,EOk rs e)(he:EOk rs e)(h1:EndsAt (zb bs) e.1 i)(h2:EndsAt (zb bs) e.2.1 j):EOk rs (yB bs e i j):=by
 have w1:=jf hb (wv (vL h1.live));have w2:=jf hb (vL h2.live);have he':z8 rs e.1 e.2.2=tY e.2.1:=he;show z8 rs (wAt (zb bs) e.1 i) (byL bs (yJ (stS (sAt (zb bs) e.1 i))) ++ e.2.2 ++ byL bs (stS (sAt (zb bs) e.2.1 j)))=tY (wAt (zb bs) e.2.1 j);rw[y8,y8,w1,bN,he',bN];exact w2
theorem Wf{l:()}{bs es:List Ent}{r:Option (List Ent)}(h:yS k l ns bs es r):∀fs,r=tY fs->(∀e ∈ bs,EOk rs e)->(∀e ∈ es,EOk rs e)->∀e ∈ fs,EOk rs e:=by
 induction h with
 | nil bs=>intro fs er hb _;cases er;exact hb
 | @same bs es e i j r h1 h2 h3 h4 ih=>intro fs er hb he;exact ih fs er hb λx hx=>he x (am _ hx)
 | @new bs es e i j r h1 h2 h3 h4 h5 ih =>
  intro fs er hb he;refine ih fs er (λx hx=>?_) λx hx=>he x (am _ hx);rcases Ai.mp hx with hx | hx
  ·exact hb x hx
  ·rw[Aj.mp hx];exact VD (zbP hb (he e aw) h1 h2)
 | far=>intro fs e;cases e
 | stuck=>intro fs e;cases e
theorem kC{l:()}{es zs:List Ent}(h:Lined k l ns es zs)(he:∀e ∈ es,EOk rs e):∀e ∈ zs,EOk rs e:=λe hz=>by
 have hm:=h.perm.mem_iff.mp hz;unfold uW at hm;obtain⟨y,hy,rfl⟩:=Ag.mp hm;exact VD (he y (Am.mp hy).1)
theorem We{l:()}{es zs:List Ent}(h:Lined k l ns es zs)(he:∀e ∈ es,EB l e):RL k l ns zs:=by
 have key:∀e ∈ zs,∃y,EB l y/\y.1≠y.2.1/\e=zQ k l ns y:=λe hz=>by
  have hm:=h.perm.mem_iff.mp hz;unfold uW at hm;obtain⟨y,hy,rfl⟩:=Ag.mp hm;obtain⟨h1,h2⟩:=Am.mp hy;exact#[y,he y h1,by simpa using h2,rfl]
 refine#[λe hz=>?_,λe hz=>?_]
 ·obtain⟨y,h1,_,rfl⟩:=key e hz;exact h1.rule
 ·obtain⟨y,h1,h2,rfl⟩:=key e hz;exact qk h1 h2
theorem JP{l:()}(G:OG l ns k){zs bs:List Ent}(hz:RL k l ns zs)(h:yS k l ns [] zs (tY bs)):RL k l ns bs:=by
 obtain⟨gs,g1,g2,g3,g4⟩:=jL G h bs rfl #[λe he=>(nomatch he),λe he=>(nomatch he)] hz;exact g3
theorem WD{k n:Nat}{l:()}(G:OG l ns k){r:Option (List Ent)}(h:v0 k l ns n es r):∀fs,r=tY fs->(∀e ∈ es,EB l e)->(∀e ∈ es,EOk rs e)->(∀e ∈ fs,EOk rs e)/\∃zs,ThinL k l ns zs/\zb fs=zb zs:=by
 induction h with
 | out=>intro fs e;cases e
 | bad=>intro fs e;cases e
 | @done n es zs bs h1 h2 h3 =>
  intro fs er he ho;cases er;have hz:=We h1 he;exact#[Wf h2 bs rfl (λe h=>(nomatch h)) (kC h1 ho),zs,zaN G hz h1.srt h2 h3,h3]
 | @more n es zs bs r h1 h2 h3 h4 ih =>
  intro fs er he ho;have hz:=We h1 he;exact ih fs er (JP G hz h2).e (Wf h2 bs rfl (λe h=>(nomatch h)) (kC h1 ho))
noncomputable def rankF:KeyFam (Int × List Int):=#[λr=>[.int r.1,.lst (r.2.map L3.D.int)],λa b=>if a.1=b.1 then ltI a.2 b.2 else decide (a.1<b.1),Aa,(0,[])]
theorem JU{x y:List Int}(h:ltI x y=Aa):ltI y x=Ab:=by
 by_cases e:x=y
 ·subst e;rw[yZ]at h;cases h
 ·have:=wo e;rw[h]at this;simpa using this.symm
theorem zbC{x y z:List Int}(h1:ltI y x=Ab)(h2:ltI z y=Ab):ltI z x=Ab:=by
 cases h:ltI z x with
 | false=>rfl
 | true =>
  by_cases e:y=x
  ·subst e;rw[h2]at h;cases h
  ·have h3:=wo e;rw[h1]at h3;have h4:ltI x y=Aa:=by simpa using h3.symm
   rw[qI h h4]at h2;cases h2
theorem rankF_ok:rankF.Ok where
 w:=#[λa b h=>by
   erw[rankF]at h ⊢
   by_cases e:a.1=b.1
   ·rw[if_pos e]at h;rw[if_pos e.symm];exact JU h
   ·rw[if_neg e]at h;rw[if_neg (λz=>e z.symm)];have:=of_decide_eq_true h;exact decide_eq_false ⋯,
  λa b c h1 h2=>by
   erw[rankF]at h1 h2 ⊢
   by_cases e:b.1=a.1
   ·rw[if_pos e]at h1;rw[e]at h2;by_cases f:c.1=a.1
    ·rw[if_pos f]at h2 ⊢;exact zbC h1 h2
    ·rw[if_neg f]at h2 ⊢;exact h2
   ·rw[if_neg e]at h1;have h1':=of_decide_eq_false h1;by_cases f:c.1=b.1
    ·rw[if_neg ⋯];exact decide_eq_false ⋯
    ·rw[if_neg f]at h2;have h2':=of_decide_eq_false h2;rw[if_neg ⋯]
     exact decide_eq_false ⋯]
 eq:=λa b=>by
  have:=V7 a.1 b.1 a.2 b.2
  erw[ltD]at this
  exact this
 ok:=λa b=>by erw[rankF,kO,okD];exact#[trivial,qi _ _,trivial]
 dp:=λa=>by erw[rankF,dpD,uK,Y7];decide
 sh:=λa=>#[_,_,rfl,.inl #[rfl,_,rfl]]
noncomputable def zbS(k:Nat)(l:())(ns:List Int)(w:()):Int × List Int:=(zy k l ns w,qK k l w)
theorem XY{d:L3.D}{v:V}:∀{ds:List L3.D} {vs:List V},Iss K H ds vs->Is K H d v->Iss K H (ds ++ [d]) (vs ++ [v])
 | [],vs,h,hv=>by
  erw[Iss]at h
  subst h
  erw[aZ,Iss]
  exact#[v,[],rfl,hv,rfl]
 | e::ds,vs,h,hv=>by
  erw[Iss]at h
  obtain⟨x,r,rfl,hx,hr⟩:=h
  erw[bh,Iss]
  exact#[x,r ++ [v],rfl,hx,XY hr hv]
theorem OrdAt.samT{T CO CR CW:pX}{H H':Hp}{ps:Array pY}{o:pX}{l:()}(h:OrdAt CO CR CW H o k l ns)(s:SamT T H H')(hT:H T=tY (.tbl ps)):OrdAt CO CR CW H' o k l ns:=by
 obtain⟨dx,⟨h1,h2⟩ | ⟨h1,h2⟩⟩:=h
 ·exact#[dx,.inl #[h1,s.at hT h2 λ_ z=>by cases z]]
 ·exact#[dx,.inr #[h1,s.at hT h2 λ_ z=>by cases z]]
theorem EnsA.samT{T:pX}{H H':Hp}{ps:Array pY}(s:SamT T H H')(hT:H T=tY (.tbl ps)):∀{es:List Ent} {vs:List V},EnsA K H es vs->EnsA K H' es vs
 | [],vs,h=>by erw[EnsA]at h ⊢;exact h
 | e::es,vs,h=>by
  erw[EnsA]at h ⊢
  obtain⟨v,r,e0,⟨p,s',e1,h1,h2⟩,h3⟩:=h;exact#[v,r,e0,#[p,s',e1,s.seqT hT h1,h2.samT s hT],EnsA.samT s hT h3]
theorem YG{a b:Int × List Int}(h:a≠b):rankF.lt a b=!rankF.lt b a:=by
 erw[rankF]
 by_cases e:a.1=b.1
 ·rw[if_pos e,if_pos e.symm];exact wo λq=>h (Prod.ext e q)
 ·rw[if_neg e,if_neg λq=>e q.symm];by_cases c:a.1<b.1
  ·rw[decide_eq_true c,decide_eq_false ⋯];rfl
  ·rw[decide_eq_false c,decide_eq_true ⋯];rfl
theorem VT(a b:Int × List Int):eqD (.tup (rankF.dec a)) (.tup (rankF.dec b))=decide (a=b):=by
 obtain⟨a1,a2⟩:=a;obtain⟨b1,b2⟩:=b
 erw[rankF,eqD,uf,Yv]
 by_cases h:a1=b1
 ·by_cases h2:a2=b2
  ·simp [h,h2]
  ·simp [h,h2]
 ·simp [h]
theorem Xy(a b:Int × List Int):ltD (.tup (rankF.dec a)) (.tup (rankF.dec b))=rankF.lt a b:=by
 erw[ltD]
 exact rankF_ok.eq a b
theorem ZX(a:Int × List Int):rankF.lt a a=Ab:=by
 erw[rankF]
 rw[if_pos trivial];exact yZ _
noncomputable def pairF:KeyFam ((Int × List Int) × (Int × List Int)):=#[λr=>[.tup (rankF.dec r.1),.tup (rankF.dec r.2)],λa b=>if a.1=b.1 then rankF.lt a.2 b.2 else rankF.lt a.1 b.1,Ab,((0,[]),(0,[]))]
theorem qd(a b:(Int × List Int) × (Int × List Int)):pairF.lt a b=if a.1=b.1 then rankF.lt a.2 b.2 else rankF.lt a.1 b.1:=rfl
theorem pairF_ok:pairF.Ok where
 w:=#[λa b h=>by
   rw[qd]at h ⊢;by_cases e:a.1=b.1
   ·rw[if_pos e]at h;rw[if_pos e.symm];exact rankF_ok.w.asym _ _ h
   ·rw[if_neg e]at h;rw[if_neg λq=>e q.symm];exact rankF_ok.w.asym _ _ h,
  λa b c h1 h2=>by
   rw[qd]at h1 h2 ⊢;by_cases e:b.1=a.1
   ·rw[if_pos e]at h1;rw[e]at h2;by_cases f:c.1=a.1
    ·rw[if_pos f]at h2 ⊢;exact rankF_ok.w.ntr _ _ _ h1 h2
    ·rw[if_neg f]at h2 ⊢;exact h2
   ·rw[if_neg e]at h1;by_cases g:c.1=b.1
    ·rw[g,if_neg e];exact h1
    ·rw[if_neg g]at h2;by_cases f:c.1=a.1
     ·rw[f]at h2;have:=YG (a:=b.1) (b:=a.1) e;rw[h1,h2]at this;cases this
     ·rw[if_neg f]
      exact rankF_ok.w.ntr _ _ _ h1 h2]
 eq:=λa b=>by
  show vD [.tup (rankF.dec a.1),.tup (rankF.dec a.2)] [.tup (rankF.dec b.1),.tup (rankF.dec b.2)]=_;rw[qd,vD,VT,vD,VT,Xy,Xy,vD];by_cases e:a.1=b.1
  ·rw[if_pos (decide_eq_true e),if_pos e];by_cases f:a.2=b.2
   ·rw[if_pos (decide_eq_true f),f,ZX]
   ·rw[if_neg (by simpa using f)]
  ·rw[if_neg (by simpa using e),if_neg e]
 ok:=λa b=>by
  show kO [.tup (rankF.dec a.1),.tup (rankF.dec a.2)] [.tup (rankF.dec b.1),.tup (rankF.dec b.2)]
  erw[kO,okD]
  exact#[rankF_ok.ok _ _,rankF_ok.ok _ _,trivial]
 dp:=λa=>by erw[pairF,rankF,dpD,uK,Y7];decide
 sh:=λa=>#[_,_,rfl,.inr #[rfl,_,rfl]]
noncomputable def rkE(k:Nat)(l:())(ns:List Int)(e:Ent):(Int × List Int) × (Int × List Int):=(zbS k l ns e.1,zbS k l ns e.2.1)
theorem zdc{l:()}{u v:()}(hu:∀c ∈ u,c ∈ l)(hv:∀c ∈ v,c ∈ l):zbS k l ns u=zbS k l ns v ↔ u=v :=
 #[λh=>X2 hu hv (Prod.ext_iff.mp h).2,λh=>by rw[h]]
theorem Qc{l:()}{a b:Ent}(ha:EB l a)(hb:EB l b):pairF.lt (rkE k l ns a) (rkE k l ns b)=kE k l ns a b:=by
 rw[qd];unfold kE;have h:(rkE k l ns a).1=(rkE k l ns b).1 ↔ a.1=b.1:=zdc ha.ma hb.ma;by_cases e:a.1=b.1
 ·rw[if_pos (h.mpr e),if_pos e];rfl
 ·rw[if_neg λq=>e (h.mp q),if_neg e];rfl
theorem UF:∀{es:List Ent} {vs:List V},EnsA K H es vs->∀t ∈ es.zip vs,EnA K H t.1 t.2
 | [],_,_,t,ht=>by simp at ht
 | e::es,vs,h,t,ht=>by
  erw[EnsA]at h
  obtain⟨v,r,rfl,h1,h2⟩:=h;rw[de]at ht;rcases Ah.mp ht with rfl | ht
  ·exact h1
  ·exact UF h2 t ht
theorem KH:∀{ts:List (Ent × V)},(∀t ∈ ts,EnA K H t.1 t.2)->EnsA K H (ts.map (·.1)) (ts.map (·.2))
 | [],_=>by erw[aM,EnsA]
 | t::ts,h=>by
  erw[ao,EnsA]
  exact#[_,_,rfl,h t aw,KH λu hu=>h u (am _ hu)]
theorem Y2{l:()}{vs:List V}{ys:List (((Int × List Int) × (Int × List Int)) × V)}{d:((Int × List Int) × (Int × List Int)) × V}(hI:EnsA K H es vs)(hE:∀e ∈ es,EB l e)(h1:ys=srt (λp q=>pairF.lt p.1 q.1) d ((es.map (rkE k l ns)).zip vs)) :
  ∃zs:List Ent,zs.Perm es/\zs.Pairwise (λa b=>kE k l ns b a=Ab)/\zs=srt (kE k l ns) ([],[],[]) es/\EnsA K H zs (ys.map (·.2)):=by
 have hl:=hI.len
 have e0:(es.map (rkE k l ns)).zip vs=(es.zip vs).map λt=>(rkE k l ns t.1,t.2):=by
  rw[List.zip_map_left];rfl
 have W0:WkO λ(p q:((Int × List Int) × (Int × List Int)) × V)=>pairF.lt p.1 q.1:=#[λa b=>pairF_ok.w.asym _ _,λa b c=>pairF_ok.w.ntr _ _ _];have W1:WkO λ(p q:Ent × V)=>pairF.lt (rkE k l ns p.1) (rkE k l ns q.1):=#[λa b=>pairF_ok.w.asym _ _,λa b c=>pairF_ok.w.ntr _ _ _];have W2:WkO λ(p q:Ent)=>pairF.lt (rkE k l ns p) (rkE k l ns q):=#[λa b=>pairF_ok.w.asym _ _,λa b c=>pairF_ok.w.ntr _ _ _];rw[e0,KZ W0 (d':=(λt:Ent × V=>(rkE k l ns t.1,t.2)) (([],[],[]),.non)) (λ_ _ _ _=>rfl)]at h1
 replace h1:=h1.trans (Qa (lt:=λ(p q:((Int × List Int) × (Int × List Int)) × V)=>pairF.lt p.1 q.1) (λt:Ent × V=>(rkE k l ns t.1,t.2)) (([],[],[]),.non) (es.zip vs))
 obtain⟨p,h2⟩:=J3 W1 (([],[],[]),.non) (es.zip vs)
 have e2:(srt (λ(p q:Ent × V)=>pairF.lt (rkE k l ns p.1) (rkE k l ns q.1)) (([],[],[]),.non) (es.zip vs)).map (·.1)=srt (kE k l ns) ([],[],[]) es:=by
  rw[<- KZ W2 (d:=([],[],[])) λa ha b hb=>Qc (hE a ha) (hE b hb)];have:=Qa (lt:=λ(p q:Ent)=>pairF.lt (rkE k l ns p) (rkE k l ns q)) (λt:Ent × V=>t.1) (([],[],[]),.non) (es.zip vs);rw[List.map_fst_zip ⋯]at this;exact this.symm
 generalize srt (λ(p q:Ent × V)=>pairF.lt (rkE k l ns p.1) (rkE k l ns q.1)) (([],[],[]),.non) (es.zip vs)=ts at h1 h2 p e2;have hm:∀t ∈ ts,t.1 ∈ es:=λt ht=>(cX (show (t.1,t.2) ∈ es.zip vs from p.mem_iff.mp ht)).1;refine#[ts.map (·.1),?_,?_,e2,?_]
 ·have:=p.map (·.1);rw[List.map_fst_zip ⋯]at this;exact this
 ·rw[List.pairwise_map];refine h2.imp_of_mem λ{a b} ha hb h=>?_;rw[<- Qc (hE _ (hm _ hb)) (hE _ (hm _ ha))];exact h
 ·rw[h1,cp];exact KH λt ht=>UF hI t (p.mem_iff.mp ht)
def tbE(K:pW)(CO CR CW:pX):TE:=Q1 (zM (zv (zcG CO CR CW) "rank" (λ_=>jh CO CR CW) [] E0 (yt 1) (zM (tOp (jl K) (yt 0) (tC (.int 0))) xM)) (zM (zv (zcG CO CR CW) "rank" (λ_=>jh CO CR CW) [] E0 (yt 1) (zM (tOp (jl K) (yt 0) (tC (.int 1))) xM)) xM))
theorem zdw{CO CR CW o p s:pX}{l:()}(hG:OG l ns k)(ho:OrdAt CO CR CW H o k l ns)(hE:EB l e)(hp:SqT K H p [.str (tx e.1),.str (tx e.2.1),.ref s])(q:∀(t:pX) (H':Hp),Same H H'->Is K H' (.tup (pairF.dec (rkE k l ns e))) (.ref t)->Q (.ref t) H'):tbE K CO CR CW [!!p,!!o] H Q:=by
 have s16:=zP;obtain⟨C,dx,fs,hf,ho1,hn,_⟩:=ho.fam;have h1:fs.lookup ("rank" : re)=tZ:=hn _ ∅ ∅;unfold tbE;ac_rfl;refine#[C,hf,dx,fs,ho1,h1,_,hp,_,rfl,o,k,l,ns,e.1,rfl,ho,hG,by have:=hE.a;lia,hE.ma,λp1 q1 H1 s1 hp1 hq1=>#[C,hf,dx,fs,s1 _ _ ho1,h1,_,zr s1 hp,_,rfl,o,k,l,ns,e.2.1,rfl,ho.same s1,hG,by have:=hE.b;lia,hE.mb,λp2 q2 H2 s2 hp2 hq2=>#[⋯,λt ht=>?_]]];refine q t _ (s1.trans (s2.trans (ze (o:=.tup [.ref p1,.ref p2]) ht))) ?_;show Is K _ (.tup [.tup (rankF.dec (zbS k l ns e.1)),.tup (rankF.dec (zbS k l ns e.2.1))]) (.ref t);refine Is.tup ht ?_
 erw[Iss]
 exact#[_,_,rfl,kK (s2 _ _ hp1) (s2 _ _ hq1),_,_,rfl,kK hp2 hq2,rfl]
theorem KU{CO CR CW o:pX}{l:()}{LA:Hp->Prop}{Qf:List V->Hp->Prop}(hG:OG l ns k)(hLA:∀H H',LA H->Same H H'->LA H'):∀(es:List Ent) (vs Ae:List V) (rs:List ((Int × List Int) × (Int × List Int))) (H:Hp),LA H->OrdAt CO CR CW H o k l ns->(∀e ∈ es,EB l e)->EnsA K H es vs ->
  Iss K H (rs.map λa=>.tup (pairF.dec a)) Ae->(∀acc' H',Same H H'->Iss K H' ((rs ++ es.map (rkE k l ns)).map λa=>.tup (pairF.dec a)) acc'->Qf acc' H')->uz (λx H Q=>LA H/\tbE K CO CR CW [tY x,!!o] H Q) vs Ae H Qf
 | [],vs,Ae,rs,H,hL,ho,hw,hV,hI,h=>by
  erw[EnsA]at hV
  subst hV;exact h Ae H (Same.refl _) (by simpa using hI)
 | e::es,vs,Ae,rs,H,hL,ho,hw,hV,hI,h=>by
  have s16:=zP
  erw[EnsA]at hV
  obtain⟨v,r,rfl,⟨p,s,rfl,hp,_⟩,hV⟩:=hV;refine#[hL,zdw hG ho (hw e aw) hp λt H' s3 hIs=>?_];refine KU hG hLA es r (Ae ++ [.ref t]) (rs ++ [rkE k l ns e]) _ (hLA _ _ hL s3) (ho.same s3) (λx hx=>hw x (am _ hx)) (hV.same s3) ?_ λacc' H' s' hI'=>h acc' H' (s3.trans s') (by simpa using hI');rw[ax];exact XY (Iss.same s3 _ _ hI) hIs
noncomputable def zcM:rh->rP
 | .Lambda _ _ _ p=>p
 | _=>default
noncomputable def zfy:List rn->rP
 | _::.Return (tY (.Call _ _ (k::_) _)) _::_=>zcM k.value
 | _=>default
noncomputable def lp:rP:=zfy (ya yz)
noncomputable def lq:re:="in_order.<locals>.<lambda>"
def kH(K:pW)(CO CR CW T:pX):Sp:=λvs H Q _=>∃(o a:pX) (k:Nat) (l:()) (ns:List Int) (es:List Ent),vs=[.ref o,.ref a]/\OrdAt CO CR CW H o k l ns/\OG l ns k/\EnsL K H a es/\es.length<64/\(∀e ∈ es,EB l e)/\TabOk H T lp lq /\
 ∀(D:pX) (zs:List Ent) (H':Hp),SamT T H H'->TabOk H' T lp lq->H D=tZ->Lined k l ns es zs->EnsM K H' D zs->Q (.ref D) H'
theorem VA{CO CR CW T o a:pX}{l:()}(h1:OrdAt CO CR CW H o k l ns)(h2:OG l ns k)(h3:EnsL K H a es)(h4:es.length<64)(h5:∀e ∈ es,EB l e)(h6:TabOk H T lp lq)
  (h:∀(D:pX) (zs:List Ent) (H':Hp),SamT T H H'->TabOk H' T lp lq->H D=tZ->Lined k l ns es zs->EnsM K H' D zs->Q (.ref D) H'):kH K CO CR CW T [.ref o,.ref a] H Q E:=#[o,a,k,l,ns,es,rfl,h1,h2,h3,h4,h5,h6,h]
abbrev zav(mg:re->Option pY):Prop:=mg "sorted" = tZ
theorem nz:sQz 2 ["order","entries","unlike"] yz:=by nofun
theorem YX{f CO CR CW CC TB:pX}(B:Bt mg)(DRk:DR P w K mg base CO CR CW)(hsorted:zav mg)(hCd:PySem.W.CodeHd base CC TB)(hBt:base.BuiltinsAt mg TB)(hgT:pS≠TB)(F:("in_order"^^^yz))(HC:fd.code=.ref CC)(mN:(4<<<"as_rule") ["order","entry"] [] (wJ K CO CR CW)):(6&&&["order","entries"]) (kH K CO CR CW TB):=by
 refine zby F HC nz (λvs H Q E h=>?_) (λA outer s H vs Q E hr h=>?_)
 ·obtain⟨o,a,k,l,ns,es,rfl,_⟩:=h;rfl
 ·obtain⟨o,a,k,l,ns,es,rfl,ho,hG,hA,hz,hE,hTab,q⟩:=h
  refine#[_,(zi (zbz (i:=2) nz.nd rfl (.inl rfl) (.inl rfl) (own:=["entry"]) (caps:=["order"]) (ix:=[0]) (tt:=(tBl (tOp rNe (tOp (jl K) (yt 0) (tC (.int 0))) (tOp (jl K) (yt 0) (tC (.int 1)))))) (te:=(jE (wJ K CO CR CW) [] E0 (zM (yt 1) (zM (yt 0) xM)))) rfl (z6 (sc:=zh yz) rfl (by symm) (by symm) (by symm) rfl (by symm) (by symm) rfl) (yc (pv 1)) (λ_ _ _ _ _ _=>zA (i:=0) (show List.Nodup [_,_] by decide) rfl (.inl rfl)) (λ_ _ _ _ _ _=>(VF (zx Ze (zo ix_tup (pv 0) zg) (zo ix_tup (pv 0) zg) (zB _)))) (λ_ _ _ _ _ _=>(cl0 mN hr .nil rfl (za (pv 1) (za (pv 0) zd)))))
   (zc (zk (Kl (k:=2) (p:="entry") (y:="order") (iy:=0) (c:=s⁻¹+1) (tb:=tbE K CO CR CW) pairF_ok #[rfl,rfl,rfl,∅,rfl,rfl,∅,∅] (hr.mono ∅) rfl hsorted PyProof.Rows.boot_sorted (za (pv 2) zd) rfl hCd hBt hgT rfl rfl (by intro _ _ _ _;exact rfl) rfl rfl rfl (λs H f cv hr'=>zW (za (zbW DRk hr' (pv 1) (za (zo ix_tup (pv 0) zg) zd)) (za (zbW DRk hr' (pv 1) (za (zo ix_tup (pv 0) zg) zd)) zd))))))),?_]
  have s16:=zP;obtain⟨xs,hX,hI⟩:=id hA;have hxl:=hI.len
  have hEr:∀e ∈ uW k l ns es,EB l e:=λe he=>by
   unfold uW at he;obtain⟨y,hy,rfl⟩:=Ag.mp he;exact (hE y (Am.mp hy).1).rule
  have hrl:=Y9 k l ns es;refine zj (λσ H'=>Same H H'/\∃(D0:pX) (Ae:List V),H D0=tZ/\H' D0=tY (.lst Ae)/\EnsA K (jA D0 H') (uW k l ns es) Ae/\σ=[!!o,!!a,!!D0]) ?_ ?_
  ·ac_rfl;refine#[#[xs,hX],λD hD=>CompL.by (xs:=xs) (λi Ae H'=>Same H H'/\H' D=tY (.lst Ae)/\EnsA K (jA D H') (uW k l ns (es.take i)) Ae) #[ze hD,zf,by erw[bE,uW,da,aM,EnsA]] (λi Ae H' _ h=>h.1.seq hX) ?_ ?_]
   ·refine nm4 ?_;rintro i x Ae H' hx ⟨hs,hH,hA⟩:_;have hi:=(Af.mp hx).1;obtain⟨e,pe,se,hei,rfl,hqe,hse⟩:=hI.get hx;have hEe:=hE e (af hei);have hal:=hA.len;have hal2:=Y9 k l ns (es.take i);rw[aI]at hal2;have hq1:=zr hs hqe
    have hraw:uW k l ns (es.take (i+1))=uW k l ns (es.take i) ++ if e.1=e.2.1 then []else [zQ k l ns e]:=by
     rw[zN hei,zbF];congr 1;unfold uW;by_cases hne:e.1=e.2.1
     ·rw[if_pos hne,eR (by simp [hne])];rfl
     ·rw[if_neg hne,eQ (by simp [hne])];rfl
    right;ac_rfl;refine#[xZ,_,hq1,_,rfl,_,hq1,_,rfl,rfl,yo (λhne=>?_) λheq=>?_]
    ·have hne':¬ e.1=e.2.1:=λz=>hne (by rw[z]);rw[if_neg hne']at hraw
     have fin:∀(v:V) (H2:Hp),Same H' H2->EnA K (jA D H2) (zQ k l ns e) v->H2 D=tY (.lst Ae)/\Ae.length<pV/\CNx xs.length i (λi Ae H'=>Same H H'/\H' D=tY (.lst Ae)/\EnsA K (jA D H') (uW k l ns (es.take i)) Ae) (Ae ++ [v]) (upd H2 D (.lst (Ae ++ [v]))):=λv H2 s2 hv=>by
      refine#[s2 _ _ hH,⋯,CNx.mk hi #[zH (hs.trans s2) hD,zf,?_]];rw[hraw];exact (hA.same ((wE s2).trans y6)).snoc (hv.same y6)
     refine jU (ho.same hs) hG hq1 (hse.same hs).is hEe (λer H2 s2=>fin _ _ s2 ?_) λp' s' H2 s2 hsn hp' hL=>fin _ _ s2 ?_
     ·rw[er];exact EnA.same #[pe,se,rfl,hqe,hse] (U9 hD (hs.trans s2))
     ·exact EnA.new (s2 _ _ hH) hp' hL (λz=>by rw[z,hH]at hsn;cases hsn)
    ·have heq':e.1=e.2.1:=by
      have:=Classical.not_not.mp heq;injection this with this;exact vM this
     rw[if_pos heq',aP]at hraw;exact CNx.mk hi #[hs,hH,by rw[hraw];exact hA]
   ·rintro Ae H' ⟨hs,hH,hA⟩;rw[hxl,aO]at hA;exact#[hs,D,hD,Ae,hH,hA,rfl]
  rintro σ H1 ⟨s1,D0,Ae,hD0,hH1,hI1,rfl⟩:_;have hal:=hI1.len;have hT1:=hTab.same s1;obtain⟨ps1,hps1,_⟩:=id hT1;right;ac_rfl;unfold KA;refine#[hT1,λf H2 hf hLA hT2 sT=>?_];obtain⟨ps2,hps2,_⟩:=id hT2;have hI2:=EnsA.samT sT hps1 (hI1.same wk);refine#[D0,Ae,.ref o,rfl,SqL.of (sT.at hps1 hH1 λ_ z=>by cases z),⋯,rfl,?_];refine KU hG (λA A' h1 h2=>LamAt.same h1 h2) (uW k l ns es) Ae [] [] H2 hLA ((ho.same s1).samT sT hps1) hEr hI2 (by erw[aM,Iss]) λacc' H3 s3 hI3=>#[(uW k l ns es).map (rkE k l ns),by simpa using hI3,λys p1 D hD=>?_];obtain⟨zs,z1,z2,z4,z3⟩:=Y2 (hI2.same s3) hEr p1;have sD:=ze (o:=.lst (ys.map (·.2))) hD;refine q D zs _ ((SamT.of s1).trans (sT.trans (SamT.of (s3.trans sD)))) (hT2.same (s3.trans sD)) ?_ #[z1,z2,z4] #[_,zf,z3.same sD];exact ((SamT.of s1).trans (sT.trans (SamT.of s3))).free (s3 _ _ hps2) hD
structure TMo(mg:re->Option pY):Prop where
 u:∃t,mg "MOST_USES_thinning" = tY (.int 40 t)
 s:∃t,mg "MOST_STEPS_thinning" = tY (.int 240 t)
 d:∃t,mg "MOST_SIDE_thinning" = tY (.int 60 t)
 p:∃t,mg "MOST_PASSES" = tY (.int 20 t)
structure BG(k:Nat)(l:())(ns:List Int)(bs:List Ent):Prop where
 n:bs.length<64
 e:∀e ∈ bs,EB l e
 lt:∀e ∈ bs,zL k l ns e.2.1 e.1=Aa
theorem BG.ne{l:()}(h:BG k l ns bs)(G:OG l ns k):NeL (zb bs):=λp hp=>by
 unfold zb at hp;obtain⟨e,he,rfl⟩:=Ag.mp hp;exact VX G.nb (h.lt e he)
theorem BG.le{l:()}(h:BG k l ns bs):∀p ∈ zb bs,p.1.length<=60/\p.2.length<=60:=λp hp=>by
 unfold zb at hp;obtain⟨e,he,rfl⟩:=Ag.mp hp;exact#[(h.e e he).a,(h.e e he).b]
theorem BG.mem{l:()}(h:BG k l ns bs):∀p ∈ zb bs,∀c ∈ p.2,c ∈ l:=λp hp=>by
 unfold zb at hp;obtain⟨e,he,rfl⟩:=Ag.mp hp;exact (h.e e he).mb
theorem ue{CF a:pX}{w:()}(hA:LsA K H a (ps.map dR))(hN:NeL ps)(hpl:ps.length<=100)(hP:∀p ∈ ps,p.1.length<=60/\p.2.length<=60)(hw:w.length<=60)
  (h1:∀(i:Nat) (p S:pX) (H':Hp),EndsAt ps w i->Same H H'->H' p=tY (.tup [.ref S,.str (tx (wAt ps w i))])->LsA K H' S ((sAt ps w i).map dG)->H S=tZ->Q (.ref p) H') (h2:(∀i,¬ EndsAt ps w i)->∀H',Same H H'->E (.ref CF) tZ H'):xu K CF [.ref a,.str (tx w),.int 40] H Q E:=by
 have hP':∀p ∈ ps,p.1.length<=1000/\p.2.length<=1000:=λp hp=>by
  have:=hP p hp;lia
 have len:∀j,j<=40->(wAt ps w j).length<=10000:=λj hj=>by
  have:=qH (l:=w) (m:=60) hN (λp hp=>(hP p hp).2) j;lia
 rcases Ud ps w with ⟨i,hi⟩ | ⟨hL,hf⟩
 ·have hm:=hi.most;exact#[a,w,ps,40,i,rfl,hA,hN,hpl,hP',#[hi.live,λj hj=>len j ⋯,⋯],.inl #[hi.end_,⋯,λp S H' s' hp hL hS=>h1 i p S H' hi s' hp hL hS]]
 ·refine#[a,w,ps,40,40,rfl,hA,hN,hpl,hP',#[hL,λj hj=>len j hj,∅],.inr #[hf,rfl,h2 λi hi=>?_]];have hm:=hi.most;by_cases e:i=40
  ·subst e;exact hf hi.end_
  ·exact hL i ⋯ hi.end_
theorem V2(us:List (Nat × Nat)):us.map dG=(stS us).map dSt:=by
 unfold stS;rw[cp];rfl
theorem uc(us:List (Nat × Nat)):(stS us).length=us.length:=by unfold stS;rw[ac]
theorem zdb{w:()}{i:Nat}(h:Wm ps w i):∀u ∈ sAt ps w i,u.1<ps.length:=λu hu=>by
 unfold sAt at hu;obtain⟨j,hj,rfl⟩:=Ag.mp hu
 cases e:zG (wAt ps w j) ps with
 | none=>exact absurd e (h j (Al.mp hj))
 | some v =>
  obtain⟨p,h1,_⟩:=yh e;exact (Af.mp h1).1
theorem jG{w:()}{i:Nat}(h:Wm ps w i):∀u ∈ stS (sAt ps w i),0<=u.1/\u.1<ps.length:=λu hu=>by
 unfold stS at hu;obtain⟨v,hv,rfl⟩:=Ag.mp hu;have:=zdb h v hv;show 0<=(v.1:Int)/\(v.1:Int)<ps.length;lia
theorem Y0{n:Int}(h:∀u ∈ ss,0<=u.1/\u.1<n):∀u ∈ yJ ss,0<=u.1/\u.1<n:=λu hu=>by
 unfold yJ at hu;obtain⟨v,hv,rfl⟩:=Ag.mp hu;exact h v (An.mp hv)
theorem zcT(h:∀e ∈ es,e.2.2.length<=600)(u:Stp):(X1 es u).length<=600:=by
 have hg:(es.getD u.1.toNat ([],[],[])).2.2.length<=600:=by
  rw[aa]
  cases e:es[u.1.toNat]? with
  | none=>exact aD _
  | some r=>exact h r (af e)
 unfold X1;rw[ZT];split
 ·exact hg
 ·rw[ym];exact hg
theorem za9(h:∀e ∈ es,e.2.2.length<=600):∀us:List Stp,(byL es us).length<=us.length * 600
 | []=>by simp [byL]
 | u::us=>by
  have e:byL es (u::us)=X1 es u ++ byL es us:=by simp [byL]
  have h1:=zcT h u;have h2:=za9 h us;rw[e,ak,aB,eC];lia
def YA(K:pW)(CF:pX):Sp:=λvs H Q E=>∃(a p s:pX) (k:Nat) (l:()) (ns:List Int) (bs:List Ent) (e:Ent),vs=[.ref a,.ref p]/\OG l ns k/\Is K H (.lst (bs.map dE)) (.ref a)/\BG k l ns bs/\SqT K H p [.str (tx e.1),.str (tx e.2.1),.ref s]/\LsA K H s (e.2.2.map dSt)/\EB l e /\
 (∀i j H',EndsAt (zb bs) e.1 i->EndsAt (zb bs) e.2.1 j->wAt (zb bs) e.1 i=wAt (zb bs) e.2.1 j->Same H H'->Q .non H') /\
 (∀i j p' s' H',EndsAt (zb bs) e.1 i->EndsAt (zb bs) e.2.1 j->wAt (zb bs) e.1 i≠wAt (zb bs) e.2.1 j->Same H H'->H s'=tZ->H' p'=tY (.tup [.str (tx (yB bs e i j).1),.str (tx (yB bs e i j).2.1),.ref s'])->LsA K H' s' ((yB bs e i j).2.2.map dSt)->Q (.ref p') H') /\
 ((∀i,¬ EndsAt (zb bs) e.1 i)\/(∀j,¬ EndsAt (zb bs) e.2.1 j)->∀H',Same H H'->E (.ref CF) tZ H')
theorem Wa{a t:pX}{us:List Stp}(h1:Is K H (.lst (es.map dE)) (.ref a))(h2:Is K H (.lst (us.map dSt)) (.ref t))(h3:us.length<=100)(h4:∀e ∈ es,e.2.2.length<=600)(h5:∀u ∈ us,0<=u.1/\u.1<es.length)(h:∀(D:pX) (H':Hp),H D=tZ->Same H H'->LsA K H' D ((byL es us).map dSt)->Q (.ref D) H'):QG K [.ref a,.ref t] H Q E:=#[a,t,es,us,rfl,h1,h2,h3,h4,h5,h]
theorem gp:sQz 2 ["entries","entry","rules","one","other","steps"] xq:=by nofun
theorem qO{f CF:pX}{ij:tu}(B:Bt mg)(TM:TMo mg)(F:("brought_down"^^^xq))(gf:(1<<<"pairs_of") ["entries"] [] (xX K))(mj:(4>>>"gone") ["rules","word","most"] [] (xu K CF))(DD_gone:(4>>>"gone") ["rules","word","most"] [.int 4000 ij] (xu K CF))(gK:(2<<<"by_pacts") ["entries","steps"] [] (QG K))(lD:(1<<<"back") ["steps"] [] (uo K)):(5|||["entries","entry"]) (YA K CF):=by
 obtain⟨t9,g9⟩:=TM.u
 exists Fun.okX F gp,0
 ·obtain⟨a,p,s,k,l,ns,bs,e,rfl,hG,hA,hB,hp,hs,hE,q1,q2,q3⟩:=h
  refine#[_,(zi (zC 2 gp.nd (cl0 gf hr .nil rfl (za (pv 0) zd)))
   (zi (zC 3 gp.nd (clP hx mj hr .nil rfl (za (pv 2) (za (zo ix_tup (pv 1) zg) (za (yw (v:=.int 40) rfl g9 #[t9,rfl]) zd)))))
   (zi (zC 4 gp.nd (clP hx mj hr .nil rfl (za (pv 2) (za (zo ix_tup (pv 1) zg) (za (yw (v:=.int 40) rfl g9 #[t9,rfl]) zd)))))
   (zi (zK (zx y4 (zo ix_tup (pv 3) zg) (zo ix_tup (pv 4) zg) (zB _))
    (zc (zk z7))
    zt)
   (zi (zC 5 gp.nd (zF Wt (zF Wt (cl0 gK hr .nil rfl (za (pv 0) (za (cl0 lD hr .nil rfl (za (zo ix_tup (pv 3) zg) zd)) zd))) (zo ix_tup (pv 1) zg)) (cl0 gK hr .nil rfl (za (pv 0) (za (zo ix_tup (pv 4) zg) zd)))))
   (zc (zk (zW (za (zo ix_tup (pv 3) zg) (za (zo ix_tup (pv 4) zg) (za (pv 5) zd))))))))))),?_]
  have s16:=zP;have hbl:=hB.n;have hN:=hB.ne hG;have hpl:=xF bs;have hst:∀e ∈ bs,e.2.2.length<=600:=λe he=>(hB.e e he).s;have hst3:∀e ∈ bs,e.2.2.length<=600:=λe he=>by have:=hst e he;lia
  refine zj (λσ H'=>Same H H'/\∃R:pX,LsA K H' R ((zb bs).map dR)/\σ=[!!a,!!p,!!R,tZ,tZ,tZ]) ?_ ?_
  ·ac_rfl;exact xI hA ⋯ λD H' _ s' hL=>#[s',D,hL,rfl]
  rintro σ H1 ⟨s1,R,hR,rfl⟩:_;right;refine zj (λσ H'=>Same H1 H'/\∃(i:Nat),EndsAt (zb bs) e.1 i/\∃p1:pX,(∃S1:pX,H' p1=tY (.tup [.ref S1,.str (tx (wAt (zb bs) e.1 i))])/\LsA K H' S1 ((sAt (zb bs) e.1 i).map dG))/\σ=[!!a,!!p,!!R,!!p1,tZ,tZ]) ?_ ?_
  ·ac_rfl;refine#[_,zr s1 hp,_,rfl,ue hR hN ⋯ hB.le hE.a (λi p1 S1 H' hi s' hp1 hL _=>#[s',i,hi,p1,#[S1,hp1,hL],rfl]) λhno H' s'=>q3 (.inl hno) H' (s1.trans s')]
  rintro σ H2 ⟨s2,i,hi,p1,⟨S1,hp1,hS1⟩,rfl⟩:_;have s12:=s1.trans s2;right;refine zj (λσ H'=>Same H2 H'/\∃(j:Nat),EndsAt (zb bs) e.2.1 j/\∃p2:pX,(∃S2:pX,H' p2=tY (.tup [.ref S2,.str (tx (wAt (zb bs) e.2.1 j))])/\LsA K H' S2 ((sAt (zb bs) e.2.1 j).map dG))/\σ=[!!a,!!p,!!R,!!p1,!!p2,tZ]) ?_ ?_
  ·ac_rfl;refine#[_,zr s12 hp,_,rfl,ue (hR.same s2) hN ⋯ hB.le hE.b (λj p2 S2 H' hj s' hp2 hL _=>#[s',j,hj,p2,#[S2,hp2,hL],rfl]) λhno H' s'=>q3 (.inr hno) H' (s12.trans s')]
  rintro σ H3 ⟨s3,j,hj,p2,⟨S2,hp2,hS2⟩,rfl⟩:_;have s13:=s12.trans s3;have hp1':=s3 _ _ hp1;have hS1':=hS1.same s3;right;refine zj (λσ H'=>H'=H3/\wAt (zb bs) e.1 i≠wAt (zb bs) e.2.1 j/\σ=[!!a,!!p,!!R,!!p1,!!p2,tZ]) ?_ ?_
  ·ac_rfl;refine#[_,SqT.of hp1',_,rfl,_,SqT.of hp2,_,rfl,rfl,yo (λh=>?_) λh=>?_]
   ·exact q1 i j H3 hi hj (vM (by injection h)) s13
   ·exact λz=>h (by rw[z])
  rintro σ H4 ⟨rfl,hne,rfl⟩:_;have him:=hi.most;have hjm:=hj.most;have hl1:(stS (sAt (zb bs) e.1 i)).length=i:=by rw[uc,vv]
  have hl2:(stS (sAt (zb bs) e.2.1 j)).length=j:=by rw[uc,vv]
  rw[V2]at hS1' hS2;have hA4:=Is.same s13 _ _ hA;have hb1:=za9 hst (yJ (stS (sAt (zb bs) e.1 i)));have hb2:=za9 hst (stS (sAt (zb bs) e.2.1 j));rw[ym,hl1]at hb1;rw[hl2]at hb2;have hes:=hE.s;right;refine zj (λσ H'=>Same H4 H'/\∃S:pX,H4 S=tZ/\LsA K H' S ((yB bs e i j).2.2.map dSt)/\σ=[!!a,!!p,!!R,!!p1,!!p2,!!S]) ?_ ?_
  ·ac_rfl;refine#[_,SqT.of hp1',_,rfl,uX hS1'.is ⋯ λB1 G1 _ t1 hB1=>Wa (Is.same t1 _ _ hA4) hB1.is (by rw[ym];lia) hst3 (by rw[<- hpl];exact Y0 (jG hi.live)) λC1 G2 hC1n t2 hC1=>?_];have t12:=t1.trans t2;obtain⟨c1,hc1,ic1⟩:=id hC1;obtain⟨es0,hs0,is0⟩:=hs.same (s13.trans t12);have lc1:=ic1.len;have ls0:=is0.len;rw[ac]at lc1 ls0;refine#[_,zr (s13.trans t12) hp,_,rfl,C1,rfl,s,rfl,c1,hc1,es0,hs0,⋯,λM hM=>?_];have t3:=ze (o:=.lst (c1 ++ es0)) hM;have t13:=t12.trans t3;refine#[_,SqT.of (t13 _ _ hp2),_,rfl,Wa (Is.same t13 _ _ hA4) (hS2.same t13).is ⋯ hst3 (by rw[<- hpl];exact jG hj.live) λC2 G3 hC2n t4 hC2=>?_];obtain⟨c2,hc2,ic2⟩:=id hC2;have lc2:=ic2.len;rw[ac]at lc2;refine#[C2,rfl,c1 ++ es0,t4 _ _ zf,c2,hc2,by rw[ak];lia,λS hS=>?_];have t5:=ze (o:=.lst (c1 ++ es0 ++ c2)) hS;refine#[t13.trans (t4.trans t5),S,(t13.trans t4).free hS,#[_,zf,?_],rfl];show Iss K _ ((byL bs (yJ (stS (sAt (zb bs) e.1 i))) ++ e.2.2 ++ byL bs (stS (sAt (zb bs) e.2.1 j))).map dSt) _;rw[ax,ax];exact Iss.append (Iss.append (Iss.same (t3.trans (t4.trans t5)) _ _ ic1) (Iss.same (t3.trans (t4.trans t5)) _ _ is0)) (Iss.same t5 _ _ ic2)
  rintro σ H5 ⟨s5,S,hSn,hS,rfl⟩:_;right;ac_rfl;refine#[_,SqT.of (s5 _ _ hp1'),_,rfl,_,SqT.of (s5 _ _ hp2),_,rfl,⋯,λt ht=>?_];have st:=ze (o:=.tup [.str (tx (wAt (zb bs) e.1 i)),.str (tx (wAt (zb bs) e.2.1 j)),.ref S]) ht;exact q2 i j t S _ hi hj hne (s13.trans (s5.trans st)) (s13.free hSn) zf (hS.same st)
def qP(K:pW)(CF:pX):Sp:=λvs H Q E=>∃(p s:pX) (e:Ent),vs=[.ref p]/\SqT K H p [.str (tx e.1),.str (tx e.2.1),.ref s]/\Is K H (.lst (e.2.2.map dSt)) (.ref s)/\e.1.length<=10000/\e.2.1.length<=10000/\(¬ qc e->Q .non H)/\(qc e->E (.ref CF) tZ H)
theorem Vm{CF p s:pX}(h1:SqT K H p [.str (tx e.1),.str (tx e.2.1),.ref s])(h2:Is K H (.lst (e.2.2.map dSt)) (.ref s))(h3:e.1.length<=10000)(h4:e.2.1.length<=10000)(h5:¬ qc e->Q .non H)(h6:qc e->E (.ref CF) tZ H):qP K CF [.ref p] H Q E:=#[p,s,e,rfl,h1,h2,h3,h4,h5,h6]
theorem uJ:sQz 1 ["entry"] y2:=by nofun
theorem uL{f CF:pX}(B:Bt mg)(T:zas K mg CF)(TM:TMo mg)(F:("refuse_beyond"^^^y2)) :(1|||["entry"]) (qP K CF):=by
 obtain⟨⟨t9,g9⟩,⟨t8,g8⟩⟩:=And.intro TM.s TM.d
 exists Fun.okX F uJ,0
 ·obtain⟨p,s,e,rfl,hp,hs,ha,hb,q1,q2⟩:=h
  refine#[_,(zi (zK (zx U0 (zD B.len (zo ix_tup (pv 0) zg)) (yw (v:=.int 240) rfl g9 #[t9,rfl]) (zB _))
    (zc (yb hx rfl T.xi.toXC T.ini rfl T.g (za zV zd)))
    zt)
   (zc (zK (zx U0 (yW (XV rfl) rfl B.max vX (za (zD B.len (zo ix_tup (pv 0) zg)) (za (zD B.len (zo ix_tup (pv 0) zg)) zd))) (yw (v:=.int 60) rfl g8 #[t8,rfl]) (zB _))
    (zc (yb hx rfl T.xi.toXC T.ini rfl T.g (za zV zd)))
    zt))),?_]
  have s16:=zP
  erw[Is]at hs
  obtain⟨_,zs,e0,hZ,hI⟩:=hs;cases e0;have hzl:=hI.len;rw[ac]at hzl;refine zj (λσ H'=>H'=H/\e.2.2.length<=240/\σ=[!!p]) ?_ ?_
  ·ac_rfl;refine#[_,hp,_,rfl,_,.inl #[_,hZ,rfl],yo (λh=>#[⋯,q2 (.inl ⋯)]) λh=>by lia]
  rintro σ H1 ⟨rfl,h1,rfl⟩:_;right;ac_rfl;refine#[_,hp,_,rfl,_,#[by rw[zX];lia,rfl],_,hp,_,rfl,_,#[by rw[zX];lia,rfl],?_];rw[zX,zX];refine yo (λh=>#[⋯,q2 ?_]) λh=>q1 ?_
  ·unfold qc;split at h <;> lia
  ·unfold qc;split at h <;> lia
theorem J5{l:()}{i j:Nat}(hB:BG k l ns bs)(hE:EB l e)(hF:¬ qc (yB bs e i j)):EB l (yB bs e i j):=by
 unfold qc at hF;exact#[⋯,⋯,⋯,vk hE.ma hB.mem i,vk hE.mb hB.mem j]
theorem BG.snoc{l:()}{d:Ent}(h:BG k l ns bs)(hn:bs.length+1<64)(hd:EB l d)(hne:d.1≠d.2.1):BG k l ns (bs ++ [zQ k l ns d]):=by
 refine#[by rw[ak];exact hn,λe he=>?_,λe he=>?_]
 ·rcases Ai.mp he with he | he
  ·exact h.e e he
  ·rw[Aj.mp he];exact hd.rule
 ·rcases Ai.mp he with he | he
  ·exact h.lt e he
  ·rw[Aj.mp he];exact qk hd hne
theorem Jh{CF a p s:pX}{l:()}(h1:OG l ns k)(h2:Is K H (.lst (bs.map dE)) (.ref a))(h3:BG k l ns bs)(h4:SqT K H p [.str (tx e.1),.str (tx e.2.1),.ref s])(h5:LsA K H s (e.2.2.map dSt))(h6:EB l e)
  (q1:∀i j H',EndsAt (zb bs) e.1 i->EndsAt (zb bs) e.2.1 j->wAt (zb bs) e.1 i=wAt (zb bs) e.2.1 j->Same H H'->Q .non H')
  (q2:∀i j p' s' H',EndsAt (zb bs) e.1 i->EndsAt (zb bs) e.2.1 j->wAt (zb bs) e.1 i≠wAt (zb bs) e.2.1 j->Same H H'->H s'=tZ->H' p'=tY (.tup [.str (tx (yB bs e i j).1),.str (tx (yB bs e i j).2.1),.ref s'])->LsA K H' s' ((yB bs e i j).2.2.map dSt)->Q (.ref p') H')
  (q3:(∀i,¬ EndsAt (zb bs) e.1 i)\/(∀j,¬ EndsAt (zb bs) e.2.1 j)->∀H',Same H H'->E (.ref CF) tZ H'):YA K CF [.ref a,.ref p] H Q E:=#[a,p,s,k,l,ns,bs,e,rfl,h1,h2,h3,h4,h5,h6,q1,q2,q3]
theorem Q4{l:()}{i j:Nat}(hB:BG k l ns bs)(hG:OG l ns k)(hE:EB l e)(hi:i<=40)(hj:j<=40):(yB bs e i j).1.length<=10000/\(yB bs e i j).2.1.length<=10000:=by
 have h1:=qH (l:=e.1) (m:=60) (hB.ne hG) (λp hp=>(hB.le p hp).2) i;have h2:=qH (l:=e.2.1) (m:=60) (hB.ne hG) (λp hp=>(hB.le p hp).2) j;have h3:=hE.a;have h4:=hE.b;show (wAt (zb bs) e.1 i).length<=10000/\(wAt (zb bs) e.2.1 j).length<=10000;lia
def kA(K:pW)(CO CR CW CF:pX):Sp:=λvs H Q E=>∃(o a:pX) (k:Nat) (l:()) (ns:List Int) (zs:List Ent),vs=[.ref o,.ref a]/\OrdAt CO CR CW H o k l ns/\OG l ns k/\EnsL K H a zs/\zs.length<64/\(∀e ∈ zs,EB l e) /\
 (∀(bs:List Ent) (D:pX) (H':Hp),yS k l ns [] zs (tY bs)->BG k l ns bs->Same H H'->H D=tZ->EnsM K H' D bs->Q (.ref D) H')/\(yS k l ns [] zs tZ->∀H',Same H H'->E (.ref CF) tZ H')
theorem V1{CO CR CW CF o a:pX}{l:()}{zs:List Ent}(h1:OrdAt CO CR CW H o k l ns)(h2:OG l ns k)(h3:EnsL K H a zs)(h4:zs.length<64)(h5:∀e ∈ zs,EB l e)
  (q1:∀(bs:List Ent) (D:pX) (H':Hp),yS k l ns [] zs (tY bs)->BG k l ns bs->Same H H'->H D=tZ->EnsM K H' D bs->Q (.ref D) H') (q2:yS k l ns [] zs tZ->∀H',Same H H'->E (.ref CF) tZ H'):kA K CO CR CW CF [.ref o,.ref a] H Q E:=#[o,a,k,l,ns,zs,rfl,h1,h2,h3,h4,h5,q1,q2]
def zea(K:pW)(H1 H':Hp)(bs:List Ent)(e:Ent)(v:V):Prop:=∃i j,EndsAt (zb bs) e.1 i/\EndsAt (zb bs) e.2.1 j/\((wAt (zb bs) e.1 i=wAt (zb bs) e.2.1 j/\v=.non) \/
 (wAt (zb bs) e.1 i≠wAt (zb bs) e.2.1 j/\∃p s:pX,v=.ref p/\H1 s=tZ/\H' p=tY (.tup [.str (tx (yB bs e i j).1),.str (tx (yB bs e i j).2.1),.ref s])/\LsA K H' s ((yB bs e i j).2.2.map dSt)))
def zdY(K:pW)(H:Hp)(D:pX)(k:Nat)(l:())(ns:List Int)(zs:List Ent)(i:Nat)(H':Hp):Prop:=∃(bs:List Ent) (Ae:List V),Same H H'/\H' D=tY (.lst Ae)/\EnsA K (jA D H') bs Ae/\BG k l ns bs/\bs.length<=i/\∀r,yS k l ns bs (zs.drop i) r->yS k l ns [] zs r
theorem gW:sQz 2 ["order","entries","built","entry","lower"] wz:=by nofun
theorem Zj{f CO CR CW CF:pX}(B:Bt mg)(F:("built_anew"^^^wz))(og:(5>>>"brought_down") ["entries","entry"] [] (YA K CF))(nO:(1>>>"refuse_beyond") ["entry"] [] (qP K CF))(mN:(4<<<"as_rule") ["order","entry"] [] (wJ K CO CR CW)):(6|||["order","entries"]) (kA K CO CR CW CF):=by
 exists Fun.okX F gW,0
 ·obtain⟨o,a,k,l,ns,zs,rfl,ho,hG,hA,hz,hE,q1,q2⟩:=h
  refine#[_,(zi (zC 2 gW.nd (xj zd))
   (zi (zS PassesOwn.leaving rfl (yc (pv 1)) (zA (i:=3) gW.nd rfl (.inl rfl))
    (zi (zC 4 gW.nd (clP hx og hr .nil rfl (za (pv 2) (za (pv 3) zd))))
    (zc (zK (zx op_notN' (pv 4) z7 (zB _))
     (zi (xm (clP hx nO hr .nil rfl (za (pv 4) zd)))
     (zc (xm (vq aY bv bw yO (pv 2) (za (cl0 mN hr .nil rfl (za (pv 0) (za (pv 4) zd))) zd)))))
     zt))))
   (zc (zk (pv 2))))),?_]
  have s16:=zP;obtain⟨xs,hX,hI⟩:=id hA;have hxl:=hI.len;refine zj (λσ H'=>Same H H'/\∃D:pX,H D=tZ/\H' D=tY (.lst [])/\σ=[!!o,!!a,!!D,tZ,tZ]) ?_ ?_
  ·ac_rfl;exact#[⋯,λp hp=>#[ze hp,p,hp,zf,rfl]]
  rintro σ H0 ⟨s0,D,hD,hD0,rfl⟩:_;right;refine zj (λσ H'=>zdY K H D k l ns zs zs.length H'/\∃(v3 v4:Option V),σ=[!!o,!!a,!!D,v3,v4]) ?_ ?_
  ·ac_rfl;refine#[#[_,s0.seq hX],ForL.by (xs:=xs) (λi σ H'=>zdY K H D k l ns zs i H'/\∃(v3 v4:Option V),σ=[!!o,!!a,!!D,v3,v4]) #[#[[],[],s0,hD0,by erw[EnsA],#[∅,λe he=>(nomatch he),λe he=>(nomatch he)],al _,λr h=>h],tZ,tZ,rfl] (λi σ H' _ ⟨⟨_,_,h,_⟩,_⟩=>h.seq hX) ?_ ?_]
   ·refine nm4 ?_;rintro i x σ H1 hx ⟨⟨bs,Ae,s1,hH1,hI1,hB,hbi,hr⟩,v3,v4,rfl⟩:_;have hix:=(Af.mp hx).1;obtain⟨e,pe,se,hei,rfl,hqe,hse⟩:=hI.get hx;have hEe:=hE e (af hei)
    have hdrop:zs.drop i=e::zs.drop (i+1):=by
     obtain⟨h1,h2⟩:=Af.mp hei;rw[aS h1,h2]
    rw[hdrop]at hr;have hal:=hI1.len;have hbn:=hB.n
    have hIs:Is K H1 (.lst (bs.map dE)) (.ref D):=by
     erw[Is]
     exact#[D,Ae,rfl,SqL.of hH1,(hI1.same wk).iss]
    right
    erw[yD,aX,aW]
    refine zj (λσ H'=>Same H1 H'/\∃v:V,zea K H1 H' bs e v/\σ=[!!o,!!a,!!D,!!pe,tY (v)]) ?_ ?_
    ·ac_rfl;exact Jh hG hIs hB (zr s1 hqe) (hse.same s1) hEe (λi' j' H' a1 a2 a3 s'=>#[s',i',j',a1,a2,.inl #[a3,rfl]]) (λi' j' p' s' H' a1 a2 a3 t' a4 a5 a6=>#[t',i',j',a1,a2,.inr #[a3,p',s',rfl,a4,a5,a6]]) λh H' s'=>q2 (hr _ (.stuck h)) H' (s1.trans s')
    rintro σ H2 ⟨s2,v,⟨i',j',hi',hj',hc⟩,rfl⟩:_;right;rcases hc with ⟨hw,rfl⟩ | ⟨hw,p',s',rfl,hsn,hp',hL'⟩
    ·ac_rfl;exact#[bs,Ae,s1.trans s2,s2 _ _ hH1,hI1.same (wE s2),hB,⋯,λr h=>hr r (.same hi' hj' hw h)]
    ·ac_rfl
     try rw[if_pos not_false]
     have hdl:=Q4 hB hG hEe hi'.most hj'.most;refine zj (λσ H'=>H'=H2/\¬ qc (yB bs e i' j')/\σ=[!!o,!!a,!!D,!!pe,!!p']) ?_ ?_
     ·ac_rfl;exact Vm (SqT.of hp') hL'.is hdl.1 hdl.2 (λh=>#[rfl,h]) λh=>q2 (hr _ (.far hi' hj' hw h)) H2 (s1.trans s2)
     rintro σ H3 ⟨rfl,hF,rfl⟩:_;have hEd:=J5 hB hEe hF;have hH3:=s2 _ _ hH1
     have fin:∀(v:V) (H4:Hp),Same H3 H4->EnA K (jA D H4) (zQ k l ns (yB bs e i' j')) v->zdY K H D k l ns zs (i+1) (upd H4 D (.lst (Ae ++ [v]))):=λv H4 s4 hv=>by
      refine#[bs ++ [zQ k l ns (yB bs e i' j')],Ae ++ [v],zH (s1.trans (s2.trans s4)) hD,zf,?_,hB.snoc ⋯ hEd hw,by rw[ak];show bs.length+1<=i+1;lia,λr h=>hr r (.new hi' hj' hw hF h)];exact (hI1.same ((wE (s2.trans s4)).trans y6)).snoc (hv.same y6)
     right;ac_rfl;refine#[.inl #[_,SqL.of hH3],jU (ho.same (s1.trans s2)) hG (SqT.of hp') hL'.is hEd (λer H4 s4=>#[Ae,s4 _ _ hH3,⋯,fin _ _ s4 ?_]) λp2 t2 H4 s4 htn hp2 hL2=>#[Ae,s4 _ _ hH3,⋯,fin _ _ s4 ?_]]
     ·rw[er];exact EnA.new (s4 _ _ hH3) (s4 _ _ hp') (hL'.same s4) (λz=>by rw[z,hH1]at hsn;cases hsn)
     ·exact EnA.new (s4 _ _ hH3) hp2 hL2 (λz=>by rw[z,hH3]at htn;cases htn)
   ·rintro σ H' ⟨h,v3,v4,rfl⟩;rw[hxl]at h;exact#[h,_,_,rfl]
  rintro σ H2 ⟨⟨bs,Ae,s2,hH2,hI2,hB,hbi,hr⟩,v3,v4,rfl⟩:_;rw[eE]at hr;right;ac_rfl;exact q1 bs D H2 (hr _ (.nil bs)) hB s2 hD #[Ae,hH2,hI2.same wk]
theorem Q8(rs ss:List zq):uf (rs.map dR) (ss.map dR)=decide (rs=ss):=by
 induction rs generalizing ss with
 | nil=>cases ss with
  | nil=>simp [uf]
  | cons s ss=>simp [uf]
 | cons r rs ih=>cases ss with
  | nil=>simp [uf]
  | cons s ss =>
   rw[ao,ao,uf,ih]
   have h:eqD (dR r) (dR s)=decide (r=s):=by
    obtain⟨a,b⟩:=r;obtain⟨c,d⟩:=s
    have e1:∀x y:(),eqD (dS x) (dS y)=decide (x=y):=λx y=>by
     have:eqD (dS x) (dS y)=decide (tx x=tx y):=by erw[dS,eqD];rfl
     rw[this];exact decide_eq_decide.mpr #[vM,λh=>by rw[h]]
    erw[dR,eqD,uf,e1]
    by_cases h1:a=c <;> by_cases h2:b=d <;> simp [h1,h2]
   rw[h];by_cases h1:r=s <;> by_cases h2:rs=ss <;> simp [h1,h2]
theorem Lined.eb{l:()}{es zs:List Ent}(h:Lined k l ns es zs)(hE:∀e ∈ es,EB l e):∀e ∈ zs,EB l e:=λe he=>by
 have hm:=h.perm.mem_iff.mp he;unfold uW at hm;obtain⟨y,hy,rfl⟩:=Ag.mp hm;exact (hE y (Am.mp hy).1).rule
theorem Lined.len{l:()}{es zs:List Ent}(h:Lined k l ns es zs):zs.length<=es.length:=by
 rw[h.perm.length_eq];exact Y9 k l ns es
def VO(K:pW)(CO CR CW T CF:pX):Sp:=λvs H Q E=>∃(o a:pX) (k:Nat) (l:()) (ns:List Int) (es:List Ent),vs=[.ref o,.ref a]/\OrdAt CO CR CW H o k l ns/\OG l ns k/\EnsL K H a es/\es.length<64/\(∀e ∈ es,EB l e)/\TabOk H T lp lq /\
 (∀(bs:List Ent) (D:pX) (H':Hp),v0 k l ns 20 es (tY bs)->BG k l ns bs->SamT T H H'->TabOk H' T lp lq->EnsM K H' D bs->Q (.ref D) H')/\(v0 k l ns 20 es tZ->∀H',SamT T H H'->TabOk H' T lp lq->E (.ref CF) tZ H')
def ze9(K:pW)(T:pX)(H:Hp)(k:Nat)(l:())(ns:List Int)(es:List Ent)(n:Nat)(H':Hp)(b:pX):Prop:=∃fs:List Ent,SamT T H H'/\TabOk H' T lp lq/\(∀r,v0 k l ns n fs r->v0 k l ns 20 es r)/\EnsL K H' b fs/\fs.length<64/\∀e ∈ fs,EB l e
theorem lB:sQz 2 ["order","entries","turn","lined_up"] qh:=by nofun
theorem W4{f CO CR CW TB CF:pX}(B:Bt mg)(T:zas K mg CF)(TM:TMo mg)(F:("thinned"^^^qh))(oZ:(6<<<"in_order") ["order","entries"] [] (kH K CO CR CW TB))(oM:(6>>>"built_anew") ["order","entries"] [] (kA K CO CR CW CF))(gf:(1<<<"pairs_of") ["entries"] [] (xX K)):(7|||["order","entries"]) (VO K CO CR CW TB CF):=by
 obtain⟨t9,g9⟩:=TM.p
 exists Fun.okX F lB,0
 ·obtain⟨o,a,k,l,ns,es,rfl,ho,hG,hA,hz,hE,hTab,q1,q2⟩:=h
  refine#[_,(zi (zS PassesOwn.leaving rfl (yC rfl B.range (za (yw (v:=.int 20) rfl g9 #[t9,rfl]) zd)) (zA (i:=2) lB.nd rfl (.inl rfl))
    (zi (zC 3 lB.nd (cl0 oZ hr .nil rfl (za (pv 0) (za (pv 1) zd))))
    (zi (zC 1 lB.nd (clP hx oM hr .nil rfl (za (pv 0) (za (pv 3) zd))))
    (zc (zK (zx (QK (kL hr)) (cl0 gf hr .nil rfl (za (pv 1) zd)) (cl0 gf hr .nil rfl (za (pv 3) zd)) (zB _))
     (zc (zk (pv 1)))
     zt)))))
   (zc (yb hx rfl T.xi.toXC T.ini rfl T.g (za zV zd)))),?_]
  have s16:=zP;obtain⟨ps0,hps0,_⟩:=id hTab;refine zj (λσ H'=>∃b:pX,ze9 K TB H k l ns es 0 H' b) ?_ ?_
  ·ac_rfl;refine#[⋯,⋯,ForR.by (λi σ H'=>∃(b:pX) (v2 v3:Option V),ze9 K TB H k l ns es (20 - i) H' b/\σ=[!!o,!!b,v2,v3]) #[a,tZ,tZ,#[es,SamT.of (Same.refl _),hTab,λr h=>h,hA,hz,hE],rfl] ?_ ?_]
   ·refine nm3 ?_;rintro i σ H1 hi ⟨b,v2,v3,⟨fs,s1,hT1,hr,hF,hfl,hFE⟩,rfl⟩:_;have ho1:=ho.samT s1 hps0;have hi20:i<20:=hi;obtain⟨n,hn⟩:∃n,20 - i=n+1:=#[20 - i - 1,⋯];rw[hn]at hr;right
    erw[yD,aX,aW]
    refine zj (λσ H'=>SamT TB H1 H'/\TabOk H' TB lp lq/\∃(z:pX),(∃zs:List Ent,Lined k l ns fs zs/\EnsM K H' z zs)/\∃v2,σ=[!!o,!!b,v2,!!z]) ?_ ?_
    ·ac_rfl;exact VA ho1 hG hF hfl hFE hT1 λD zs H' s' hT' _ hLn hM=>#[s',hT',D,#[zs,hLn,hM],rfl]
    rintro σ H2 ⟨s2,hT2,z,⟨zs,hLn,hZ⟩,v2,rfl⟩:_;have s12:=s1.trans s2;have ho2:=ho.samT s12 hps0;have hzE:=hLn.eb hFE;have hzl:=hLn.len;right;refine zj (λσ H'=>Same H2 H'/\∃(c:pX),(∃bs:List Ent,yS k l ns [] zs (tY bs)/\BG k l ns bs/\EnsM K H' c bs)/\σ=[!!o,!!c,v2,!!z]) ?_ ?_
    ·ac_rfl;exact V1 ho2 hG hZ.l ⋯ hzE (λbs D H' hb hB s' _ hM=>#[s',D,#[bs,hb,hB,hM],rfl]) λhb H' s'=>q2 (hr _ (.bad hLn hb)) H' (s12.trans (SamT.of s')) (hT2.same s')
    rintro σ H3 ⟨s3,c,⟨bs,hb,hB,hM⟩,rfl⟩:_;have hbn:=hB.n;right;ac_rfl;refine xI hM.l.is ⋯ λP1 H4 _ s4 hP1=>xI ((hZ.same s3).same s4).l.is ⋯ λP2 H5 _ s5 hP2=>YI (.inl #[(hP1.same s5).is,hP2.is]) (cJ (zc6 _) ∅) ?_;rw[Q8];have s45:=s4.trans s5;have s15:=s12.trans (SamT.of (s3.trans s45));have hT5:=hT2.same (s3.trans s45);refine#[_,rfl,yo (λh=>?_) λh=>?_]
    ·exact q1 bs c H5 (hr _ (.done hLn hb (of_decide_eq_true h))) hB s15 hT5 (hM.same s45)
    ·have e:20 - (i+1)=n:=⋯;rw[e];exact#[bs,s15,hT5,λr h'=>hr r (.more hLn hb (λz=>h (decide_eq_true z)) h'),(hM.same s45).l,hbn,hB.e]
   ·rintro σ H' ⟨b,v2,v3,h,rfl⟩;exact#[b,h]
  rintro σ H2 ⟨b,fs,s2,hT2,hr,_⟩:_;right;ac_rfl;exact#[⋯,q2 (hr _ (.out fs)) H2 s2 hT2]
def YN(K:pW):Sp:=λvs H Q _=>∃(a:pX) (ns:List Int) (k:Int),vs=[.ref a,.int k]/\SqL K H a (ns.map V.int)/\(∀z ∈ ns,jm z)/\0<=k/\∀c:Int,jm c->Q (.int c) H
theorem wW{a:pX}{k:Int}(hS:SqL K H a (ns.map V.int))(hB:∀z ∈ ns,jm z)(hk:0<=k)(h:∀c:Int,jm c->Q (.int c) H):YN K [.ref a,.int k] H Q E:=#[a,ns,k,rfl,hS,hB,hk,h]
theorem zaK:sQz 2 ["_law_script","_law_k"] QM:=by nofun
theorem zaA(B:Bt mg)(F:("_law_cell"^^^QM)) :(1&&&["_law_script","_law_k"]) (YN K):=by
 exists F.ok zaK
 ·obtain⟨a,ns,k,rfl,hS,hB,hk,q⟩:=h
  refine#[_,(zE (zK (zx WS (pv 1) (zD B.len (pv 0)) (zB _))
    (zc (zk (zo zcE (pv 0) (pv 1))))
    zt)
   (zc (zk zg))),?_]
  have s16:=zP
  rfl'
  refine#[_,.inl #[_,hS,rfl],yo (λc=>?_) (λc=>q 0 (by unfold jm;decide))];obtain⟨v,h1,h2⟩:=uI hk c;rw[ar]at h2;obtain⟨z,hz,rfl⟩:=Ak.mp h2;exact .inl #[_,hS,_,h1,q z (hB z (af hz))]
def vH:Sp:=λvs H Q _=>∃(c t:Int),vs=[.int c,.int t]/\jm c/\0<=t/\t<=100/\∀z:Int,0<=z->Q (.int z) H
theorem wl{c t:Int}(hc:jm c)(h0:0<=t)(h1:t<=100)(q:∀z:Int,0<=z->Q (.int z) H):vH [.int c,.int t] H Q E:=#[c,t,rfl,hc,h0,h1,q]
theorem mq:sQz 2 ["_law_cell_here","_law_turn","_law_step","_law_number"] YQ:=by nofun
theorem Kh(B:Bt mg)(F:("_law_mixed"^^^YQ)) :(1&&&["_law_cell_here","_law_turn"]) vH:=by
 exists F.ok mq
 ·obtain⟨c,t,rfl,hc,h0,h1,q⟩:=h
  refine#[_,(zi (zK (zx op_ge' (pv 0) (zF VZ zg zg) (zB _))
    (zi (zS PassesOwn.never rfl (yC rfl B.range (za (zF yj zg (zF yV (pv 1) zg)) zd)) (zA (i:=2) mq.nd rfl (.inl rfl))
     (zc (zC 0 mq.nd (zF xA (pv 0) (zF VZ zg zg)))))
    (zc (zk (zF yV (pv 0) (zF VZ zg zg)))))
    zt)
   (zi (zC 3 mq.nd (zF yj (zF qN (zF Kc (pv 0) (pv 0)) zg) (zF qN (zF qN (pv 0) zg) (zF yj (pv 1) zg))))
   (zc (zk (zF xA (zF yV (zF qN (zF yV (zF yj (pv 3) (zF qN (pv 1) zg)) zg) zg) zg) zg))))),?_]
  have s16:=zP;have c6:zex 10 6:=#[∅,∅,∅];have c12:zex 10 12:=#[∅,∅,∅];have p6:(0:Int)<10 ^ Int.toNat 6/\(10:Int) ^ Int.toNat 6<1073741824:=∅;refine zj (λσ H'=>H'=H/\σ=[~~~!c,~~~!t,tZ,tZ]) ?_ ?_
  ·rfl'
   refine#[c12,yo (λ_=>?_) (λ_=>trivial)];refine zj (λσ H'=>H'=H/\∃(z:Int) (v:Option V),σ=[~~~!z,~~~!t,v,tZ]) ?_ ?_
   ·rfl'
    have e1:=bx t (b:=9) ∅;have e2:=bz t (b:=9) ∅;refine#[∅,⋯,⋯,ForR.by (λi σ H'=>H'=H/\∃(z:Int) (v:Option V),σ=[~~~!z,~~~!t,v,tZ]) #[rfl,_,_,rfl] ?_ λσ H' h=>h];refine nm3 ?_;rintro i σ H' hi ⟨rfl,z,v,rfl⟩:_;right
    rfl'
    exact#[c6,p6.1,p6.2]
   rintro σ H1 ⟨rfl,z,v,rfl⟩:_;right
   rfl'
   exact#[c6,p6.1,q _ (bx _ (by have:=p6.1;lia))]
  rintro σ H1 ⟨rfl,rfl⟩:_;right;refine zj (λσ H'=>H'=H1/\∃z:Int,σ=[~~~!c,~~~!t,tZ,~~~!z]) ?_ ?_
  ·rfl'
   exact#[hc,hc,.inr #[∅,∅],.inr #[∅,∅],.inr #[⋯,⋯]]
  rintro σ H2 ⟨rfl,z,rfl⟩:_;right
  rfl'
  exact#[.inr #[∅,∅],∅,.inr #[∅,∅],∅,#[∅,∅],q _ (Int.ediv_nonneg (bx _ ∅) ∅)]
def ux:Sp:=λvs H Q _=>∃c m:Int,vs=[.int c,.int m]/\jm c/\0<=m/\m<=26/\∀l:(),(l.length:Int)=m->l.Nodup->small l->Q (.str (tx l)) H
theorem YS{c m:Int}(h:jm c)(h0:0<=m)(h1:m<=26)(q:∀l:(),(l.length:Int)=m->l.Nodup->small l->Q (.str (tx l)) H):ux [.int c,.int m] H Q E:=#[c,m,rfl,h,h0,h1,q]
def ze7(c m:Int)(i:Nat)(σ:L2.St):Prop:=∃(left found:()) (number:Int) (v5 v6:Option V),found.length=i/\(found ++ left).Perm alpha/\σ=[~~~!c,~~~!m,~~~left,~~~!number,~~~found,v5,v6]
theorem gm:sQz 2 ["_law_cell_here","_law_many","_law_left","_law_number","_law_letters_here","_law_k","_law_at"] je:=by nofun
theorem WO(B:Bt mg)(F:("_law_letters"^^^je))(iG:(1<<<"_law_mixed") ["_law_cell_here","_law_turn"] [] vH):(2&&&["_law_cell_here","_law_many"]) ux:=by
 exists F.ok gm
 ·obtain⟨c,m,rfl,hc,h0,h1,q⟩:=h
  refine#[_,(zi (zC 2 gm.nd zV)
   (zi (zC 3 gm.nd (cl0 iG hr .nil rfl (za (pv 0) (za zg zd))))
   (zi (zC 4 gm.nd zV)
   (zi (zS PassesOwn.never rfl (yC rfl B.range (za (pv 1) zd)) (zA (i:=5) gm.nd rfl (.inl rfl))
    (zi (zC 6 gm.nd (zF yV (pv 3) (zD B.len (pv 2))))
    (zi (zC 3 gm.nd (zF xA (pv 3) (zD B.len (pv 2))))
    (zi (zC 4 gm.nd (zF yl (pv 4) (zo jR (pv 2) (pv 6))))
    (zc (zC 2 gm.nd (zF yl (ye wa (pv 2) xn (yd (pv 6))) (ye wa (pv 2) (yd (zF yj (pv 6) zg)) xn))))))))
   (zc (zk (pv 4))))))),?_]
  have s16:=zP;have ha:alpha.length=26:=rfl;refine zj (λσ H'=>H'=H/\σ=[~~~!c,~~~!m,~~~alpha,tZ,tZ,tZ,tZ]) ?_ ?_
  ·rfl'
   exact UU
  rintro σ H1 ⟨rfl,rfl⟩:_;right;refine zj (λσ H'=>H'=H1/\∃z:Int,σ=[~~~!c,~~~!m,~~~alpha,~~~!z,tZ,tZ,tZ]) ?_ ?_
  ·rfl'
   exact wl hc ∅ ∅ λz _=>#[rfl,z,rfl]
  rintro σ H2 ⟨rfl,z,rfl⟩:_;right;refine zj (λσ H'=>H'=H2/\σ=[~~~!c,~~~!m,~~~alpha,~~~!z,tY (.str (tx [])),tZ,tZ]) ?_ ?_
  ·rfl'
   rfl
  rintro σ H3 ⟨rfl,rfl⟩:_;right;refine zj (λσ H'=>H'=H3/\ze7 c m m.toNat σ) ?_ ?_
  ·rfl'
   refine#[⋯,⋯,ForR.by (λi σ H'=>H'=H3/\ze7 c m i σ) #[rfl,alpha,[],z,tZ,tZ,rfl,.refl _,rfl] ?_ λσ H' h=>h];refine nm3 ?_;rintro i σ H' hi ⟨rfl,left,found,number,v5,v6,hf,hp,rfl⟩:_;have hpl:=hp.length_eq;rw[ak]at hpl;have hl:left.length+i=26:=⋯;have hm0:=bx number (b:=(left.length:Int)) ⋯;have hm1:=bz number (b:=(left.length:Int)) ⋯;right;generalize hz:number % (left.length:Int)=at_ at hm0 hm1;obtain⟨v,e1,e2⟩:=uI hm0 hm1
   erw[yD,aX,aW]
   refine zj (λσ H''=>H''=H'/\∃v5,σ=[~~~!c,~~~!m,~~~left,~~~!number,~~~found,v5,~~~!at_]) ?_ ?_
   ·rfl'
    exact#[⋯,⋯,hz]
   rintro σ G1 ⟨rfl,v5',rfl⟩:_;right;refine zj (λσ H''=>H''=G1/\∃n v5,σ=[~~~!c,~~~!m,~~~left,~~~!n,~~~found,v5,~~~!at_]) ?_ ?_
   ·rfl'
    exact#[⋯,#[⋯,⋯]]
   rintro σ G2 ⟨rfl,n,v5',rfl⟩:_;right;refine zj (λσ H''=>H''=G2/\∃v5,σ=[~~~!c,~~~!m,~~~left,~~~!n,tY (.str (tx (found ++ [v]))),v5,~~~!at_]) ?_ ?_
   ·rfl'
    exact#[⋯,v,e1,⋯,rfl]
   rintro σ G3 ⟨rfl,v5',rfl⟩:_;have hc1:=wm left tZ (tY at_);have hc2:=wm left (tY (at_+1)) tZ;right
   rfl'
   refine#[⋯,⋯,⋯,_,_,_,_,_,by rw[ak,hf];rfl,?_,rfl];rw[ZI _ hm0,vU _ ⋯,aL];have e3:(at_+1).toNat=at_.toNat+1:=⋯;rw[e3];exact ((Ur e2).append_left found).trans hp
  rintro σ H4 ⟨rfl,left,found,number,v5,v6,hf,hp,rfl⟩:_;right
  rfl'
  have hnd:(found ++ left).Nodup:=hp.nodup_iff.mpr ∅;refine q found ⋯ (List.nodup_append.mp hnd).1 λc hc=>?_;have h:c ∈ alpha:=hp.mem_iff.mp (bn _ hc);exact (by decide:∀c ∈ alpha,97<=c/\c<=122) c h
def YZ:Sp:=λvs H Q _=>∃(ls:()) (c m:Int),vs=[.int c,.str (tx ls),.int m]/\0<=c/\1<=ls.length/\ls.length<=26/\0<=m/\m<=100/\∀l:(),(l.length:Int)<=m->(∀x ∈ l,x ∈ ls)->Q (.str (tx l)) H
theorem X7{ls:()}{c m:Int}(h0:0<=c)(h1:1<=ls.length)(h2:ls.length<=26)(h3:0<=m)(h4:m<=100)(h:∀l:(),(l.length:Int)<=m->(∀x ∈ l,x ∈ ls)->Q (.str (tx l)) H):YZ [.int c,.str (tx ls),.int m] H Q E :=
 #[ls,c,m,rfl,h0,h1,h2,h3,h4,h]
theorem iH:sQz 3 ["_law_number","_law_letters_here","_law_most","_law_size","_law_word_here","_law_k"] V4:=by nofun
theorem zbm(B:Bt mg)(F:("_law_word"^^^V4)) :(1&&&["_law_number","_law_letters_here","_law_most"]) YZ:=by
 exists F.ok iH
 ·obtain⟨ls,c,m,rfl,h0,h1,h2,h3,h4,q⟩:=h
  refine#[_,(zE (zC 3 iH.nd (zF yV (pv 0) (zF yj (pv 2) zg)))
   (zE (zC 0 iH.nd (zF xA (pv 0) (zF yj (pv 2) zg)))
   (zE (zC 4 iH.nd zV)
   (zE (zS PassesOwn.never rfl (yC rfl B.range (za (pv 3) zd)) (zA (i:=5) iH.nd rfl (.inl rfl))
    (zE (zC 4 iH.nd (zF yl (pv 4) (zo jR (pv 1) (zF yV (pv 0) (zD B.len (pv 1))))))
    (zc (zC 0 iH.nd (zF xA (pv 0) (zD B.len (pv 1)))))))
   (zc (zk (pv 4))))))),?_]
  have s16:=zP
  rfl'
  have m0:=bx c (b:=m+1) ⋯;have m1:=bz c (b:=m+1) ⋯
  refine#[⋯,#[⋯,⋯],⋯,⋯,ForR.by (λi σ H'=>H'=H/\∃(found:()) (number:Int) (v5:Option V),σ=[~~~!number,~~~ls,~~~!m,tY (.int (c % (m+1))),~~~found,v5]/\found.length=i/\∀x ∈ found,x ∈ ls)
   #[rfl,[],_,tZ,rfl,rfl,λx h=>(nomatch h)] ?_ ?_]
  ·rintro i σ H' hi ⟨rfl,found,number,v5,rfl,hf,hm⟩
   rfl'
   have hm0:=bx number (b:=(ls.length:Int)) ⋯;have hm1:=bz number (b:=(ls.length:Int)) ⋯;obtain⟨v,e1,e2⟩:=uI hm0 hm1
   repeat (refine And.intro (by first | lia | decide | exact#[⋯,⋯] | assumption) ?_)
   refine#[v,e1,?_]
   repeat (refine And.intro (by first | lia | decide | exact#[⋯,⋯] | assumption) ?_)
   refine#[by rw[ak,hf];rfl,λx hx=>?_];rcases Ai.mp hx with h | h
   ·exact hm x h
   ·rw[Aj.mp h];exact af e2
  ·rintro σ H' ⟨rfl,found,number,v5,rfl,hf,hm⟩
   rfl'
   exact q found ⋯ hm
structure zfs(K:pW):Prop where
 ii:aQ K (.type "int") (.type "int")=tY Aa
 ib:aQ K (.type "int") (.type "bool")=tY Ab
def vI:Sp:=λvs H Q _=>∃i:Int,vs=[.int i]/\Q (.bl Aa) H
theorem ja{i:Int}(h:Q (.bl Aa) H):vI [.int i] H Q E:=#[i,rfl,h]
theorem J6:sQz 1 ["_law_found"] Xb:=by nofun
theorem Jn(B:Bt mg)(T:zfs K)(F:("_law_whole"^^^Xb)):(1&&&["_law_found"]) vI:=by
 exists F.ok J6
 ·obtain⟨i,rfl,q⟩:=h;refine#[_,(zc (zk (qy (yx rfl B.isi (pv 0) rfl B.int PySem.Pv.boot_int) (qZ (Ku (yx rfl B.isi (pv 0) rfl B.bool PySem.Pv.boot_bool)))))),?_]
  rfl'
  exact#[_,.inl (.int _),Aa,T.ii,zdR #[_,.inl (.int _),Ab,T.ib,q]]
structure TLs(K:pW):Prop where
 ll:aQ K (.type "list") (.type "list")=tY Aa
 tt:aQ K (.type "tuple") (.type "tuple")=tY Aa
 bb:aQ K (.type "bool") (.type "bool")=tY Aa
def Zf(K:pW):Sp:=λvs H Q _=>∃(t:pX) (ss:List Stp),vs=[.ref t]/\Is K H (.lst (ss.map dSt)) (.ref t)/\Q (.bl Aa) H
theorem oN:sQz 1 ["_law_found","_law_step"] Y5:=by nofun
theorem Jo(B:Bt mg)(T:TLs K)(F:("_law_steps"^^^Y5))(ni:(1<<<"_law_whole") ["_law_found"] [] vI):(2&&&["_law_found"]) (Zf K):=by
 exists F.ok oN
 ·obtain⟨t,ss,rfl,hT,q⟩:=h
  refine#[_,(zi (zK (zY (yK (yx rfl B.isi (pv 0) rfl B.list PySem.Pv.boot_list) (λ_=>rfl)))
    (zc (zk yQ))
    zt)
   (zi (zS PassesOwn.never rfl (yc (pv 0)) (zA (i:=1) oN.nd rfl (.inl rfl))
    (zi (zK (PW.pt (vn (zY (yK (yx rfl B.isi (pv 1) rfl B.tuple PySem.Pv.boot_tuple) (λ_=>rfl))) (vn (zx Ze (zD B.len (pv 1)) zg (zB _)) (wc (zY (yK (yx rfl B.isi (zo ix_tup (pv 1) zg) rfl B.bool PySem.Pv.boot_bool) (λ_=>rfl)))))))
     (zc (zk yQ))
     zt)
    (zc (zK (PW.pt (vn (zY (yK (cl0 ni hr .nil rfl (za (zo ix_tup (pv 1) zg) zd)) (λ_=>rfl))) (wc (zY (yK (cl0 ni hr .nil rfl (za (zo ix_tup (pv 1) zg) zd)) (λ_=>rfl))))))
     (zc (zk yQ))
     zt))))
   (zc (zk yQ)))),?_]
  have s16:=zP
  erw[Is]at hT
  obtain⟨_,ts,e,hTs,hJ⟩:=hT;cases e;refine zj (λσ H'=>H'=H/\σ=[!!t,tZ]) ?_ ?_
  ·rfl'
   exact#[_,.inr (.inr (.inl #[_,_,rfl,rfl,hTs])),Aa,T.ll,Zw trivial]
  rintro σ H1 ⟨rfl,rfl⟩:_;right;refine zj (λσ H'=>H'=H1/\∃v1,σ=[!!t,v1]) ?_ ?_
  ·rfl'
   refine#[#[_,hTs],ForL.by (xs:=ts) (λi σ H'=>H'=H1/\∃v1,σ=[!!t,v1]) #[rfl,_,rfl] (λi σ H' _ h=>by rw[h.1];exact hTs) ?_ λσ H' h=>h];refine nm4 ?_;rintro i x σ H' hx ⟨rfl,v1,rfl⟩:_;obtain⟨u,pu,hui,rfl,hqu⟩:=vE hJ hx;right
   erw[yD,aX,aW]
   refine zj (λσ H''=>H''=H'/\σ=[!!t,!!pu]) ?_ ?_
   ·rfl'
    exact#[_,.inr (.inr (.inr #[_,_,rfl,rfl,hqu])),Aa,T.tt,Zw #[_,.inr #[_,hqu,rfl],yo (λh=>absurd rfl h) λ_=>#[_,hqu,_,rfl,_,.inl (.bl _),Aa,T.bb,Zw trivial]]]
   rintro σ G ⟨rfl,rfl⟩:_;right
   rfl'
   exact#[_,hqu,_,rfl,ja #[Aa,rfl,Zw #[_,hqu,_,rfl,ja #[Aa,rfl,Zw rfl]]]]
  rintro σ H2 ⟨rfl,v1,rfl⟩:_;right
  rfl'
  exact q
def k9(K:pW):Sp:=λvs H Q _=>∃(a t:pX) (rs:List zq) (w w':()) (s:Stp),vs=[.ref a,.str (tx w),.ref t]/\Is K H (.lst (rs.map dR)) (.ref a)/\kR rs/\w.length<=300000/\SqT K H t [.int s.1,.int s.2.1,.bl s.2.2]/\yn rs w s=tY w'/\Q (.str (tx w')) H
theorem UD{a t:pX}{w w':()}{s:Stp}(h1:Is K H (.lst (rs.map dR)) (.ref a))(h2:kR rs)(h3:w.length<=300000)(h4:SqT K H t [.int s.1,.int s.2.1,.bl s.2.2])(h5:yn rs w s=tY w')(q:Q (.str (tx w')) H):k9 K [.ref a,.str (tx w),.ref t] H Q E:=#[a,t,rs,w,w',s,rfl,h1,h2,h3,h4,h5,q]
theorem ml:sQz 3 ["_law_pacts_here","_law_word_here","_law_step","_law_old","_law_new"] Uv:=by nofun
theorem zau(B:Bt mg)(F:("_law_used"^^^Uv)) :(1&&&["_law_pacts_here","_law_word_here","_law_step"]) (k9 K):=by
 refine F.ok ml (λvs H Q E h=>?_) (λcdv A outer s H vs Q E hr h=>?_)
 ·obtain⟨a,t,rs,w,w',s,rfl,_⟩:=h;rfl
 ·obtain⟨a,t,rs,w,w',s,rfl,hR,ok,hw,ht,ha,q⟩:=h
  refine#[_,(zi (zC 3 ml.nd (zo ix_tup (zo ix_list (pv 0) (zo ix_tup (pv 2) zg)) zg))
   (zi (zC 4 ml.nd (zo ix_tup (zo ix_list (pv 0) (zo ix_tup (pv 2) zg)) zg))
   (zi (zK (zY (yK (zo ix_tup (pv 2) zg) (λ_=>rfl)))
    (zE (zC 3 ml.nd (zo ix_tup (zo ix_list (pv 0) (zo ix_tup (pv 2) zg)) zg))
    (zc (zC 4 ml.nd (zo ix_tup (zo ix_list (pv 0) (zo ix_tup (pv 2) zg)) zg))))
    zt)
   (zc (zk (zF yl (zF yl (ye wa (pv 1) xn (yd (zo ix_tup (pv 2) zg))) (pv 4)) (ye wa (pv 1) (yd (zF yj (zo ix_tup (pv 2) zg) (zD B.len (pv 3)))) xn))))))),?_]
  have s16:=zP
  erw[Is]at hR
  obtain⟨_,xs,e,hX,hI⟩:=hR;cases e;have hb:0<=s.1/\s.1<rs.length:=bG λhb=>by rw[yN hb]at ha;cases ha
  obtain⟨p,a1,_,hp⟩:=zcP hI hb.1 hb.2;have gl:=Xa ok s.1.toNat;rw[yG hb]at ha;generalize rs.getD s.1.toNat ([],[])=r at *;refine zj (λσ H'=>H'=H/\σ=[!!a,~~~w,!!t,tY (.str (tx r.1)),tZ]) ?_ ?_
  ·rfl'
   exact#[_,ht,_,rfl,_,rfl,_,hX,_,a1,_,rfl,_,hp,rfl]
  rintro σ H1 ⟨rfl,rfl⟩:_;right;refine zj (λσ H'=>H'=H1/\σ=[!!a,~~~w,!!t,tY (.str (tx r.1)),tY (.str (tx r.2))]) ?_ ?_
  ·rfl'
   exact#[_,ht,_,rfl,_,rfl,_,hX,_,a1,_,rfl,_,hp,rfl]
  rintro σ H2 ⟨rfl,rfl⟩:_;right;refine zj (λσ H'=>H'=H2/\σ=[!!a,~~~w,!!t,tY (.str (tx (sdl r s.2.2).1)),tY (.str (tx (sdl r s.2.2).2))]) ?_ ?_
  ·rfl'
   refine#[_,ht,_,rfl,_,rfl,yo (λh=>#[_,ht,_,rfl,_,rfl,_,hX,_,a1,_,rfl,_,hp,_,rfl,_,ht,_,rfl,_,rfl,_,hX,_,a1,_,rfl,_,hp,_,rfl,?_]) λh=>?_]
   ·rw[h];exact#[rfl,rfl]
   ·rw[Bool.not_eq_false]at h;rw[h];exact#[rfl,rfl]
  rintro σ H3 ⟨rfl,rfl⟩:_
  have hol:(sdl r s.2.2).1.length<=100:=by
   cases s.2.2
   ·exact gl.2
   ·exact gl.1
  have hnl:(sdl r s.2.2).2.length<=100:=by
   cases s.2.2
   ·exact gl.1
   ·exact gl.2
  right;generalize sdl r s.2.2=on at *;have hst:zu w s.2.1 on.1=Aa:=bG λhst=>by rw[if_neg hst]at ha;cases ha
  rw[if_pos hst]at ha;obtain⟨_,_,h0,h1⟩:=yu hst;have c1:=wm w tZ (tY s.2.1);have c2:=wm w (tY (s.2.1 + ↑on.1.length)) tZ
  rfl'
  refine#[_,ht,_,rfl,_,rfl,⋯,⋯,_,ht,_,rfl,⋯,_,rfl,⋯,?_,?_]
  ·rw[ak];lia
  ·rw[zbj h0];cases ha;exact q
theorem kq{a p:pX}{xs:List V}{ys zs:List V}(hp:H p=tY (.lst ys))(h:SqT K H a xs):SqT K (upd H p (.lst zs)) a xs:=by
 rcases h with (h | ⟨o,h⟩) | h
 ·exact .inl (.inl (by rw[zp (λe=>by rw[e,hp]at h;cases h)];exact h))
 ·exact .inl (.inr #[o,by rw[zp (λe=>by rw[e,hp]at h;cases h)];exact h])
 ·exact .inr h
theorem UR{w w':()}{s:Stp}(h:yn rs w s=tY w'):0<=s.1/\s.1<rs.length:=bG λhb=>by rw[yN hb]at h;cases h
def VM(K:pW):Sp:=λvs H Q _=>∃(a t:pX) (rs:List zq) (w w':()) (ss:List Stp),vs=[.ref a,.str (tx w),.ref t]/\Is K H (.lst (rs.map dR)) (.ref a)/\kR rs/\w.length<=60/\Is K H (.lst (ss.map dSt)) (.ref t)/\ss.length<=2000/\z8 rs w ss=tY w'/\Q (.str (tx w')) H
theorem zaH{a t:pX}{w w':()}(h1:Is K H (.lst (rs.map dR)) (.ref a))(h2:kR rs)(h3:w.length<=60)(h4:Is K H (.lst (ss.map dSt)) (.ref t))(h5:ss.length<=2000)(h6:z8 rs w ss=tY w')(q:Q (.str (tx w')) H):VM K [.ref a,.str (tx w),.ref t] H Q E:=#[a,t,rs,w,w',ss,rfl,h1,h2,h3,h4,h5,h6,q]
theorem UX{w w':()}(h:z8 rs w ss=tY w'){i:Nat}{s:Stp}(hs:ss[i]? = tY s){w1:()}(h1:z8 rs w (ss.take i)=tY w1):∃w2,yn rs w1 s=tY w2/\z8 rs w (ss.take (i+1))=tY w2:=by
 have e:ss=ss.take (i+1) ++ ss.drop (i+1):=(bH _ _).symm;rw[e,y8]at h;obtain⟨w2,h2,_⟩:=Aw.mp h;refine#[w2,?_,h2];rw[zN hs,y8,h1]at h2
 erw[z8,bN]at h2
 obtain⟨w3,h3,h4⟩:=Aw.mp h2;cases h4;exact h3
theorem nP:sQz 3 ["_law_pacts_here","_law_word_here","_law_steps_here","_law_step","_law_old"] zay:=by nofun
theorem zcC(B:Bt mg)(F:("_law_end"^^^zay))(pO:(1<<<"_law_used") ["_law_pacts_here","_law_word_here","_law_step"] [] (k9 K)):(2&&&["_law_pacts_here","_law_word_here","_law_steps_here"]) (VM K):=by
 refine F.ok nP (λvs H Q E h=>?_) (λcdv A outer s H vs Q E hr h=>?_)
 ·obtain⟨a,t,rs,w,w',ss,rfl,_⟩:=h;rfl
 ·obtain⟨a,t,rs,w,w',ss,rfl,hR,ok,hw,hT,hsl,hwk,q⟩:=h
  refine#[_,(zi (zS PassesOwn.never rfl (yc (pv 2)) (zA (i:=3) nP.nd rfl (.inl rfl))
    (zi (zK (PW.pt (vn (zx WS (zo ix_tup (pv 3) zg) zg (zB _)) (vn (zx op_ge' (zo ix_tup (pv 3) zg) (zD B.len (pv 0)) (zB _)) (wc (zx WS (zo ix_tup (pv 3) zg) zg (zB _))))))
     (zc (zk z7))
     zt)
    (zi (zC 4 nP.nd (zo ix_tup (zo ix_list (pv 0) (zo ix_tup (pv 3) zg)) (zF j0 zg (wq Qz rfl B.int PySem.Pv.boot_int (za (zo ix_tup (pv 3) zg) zd)))))
    (zi (zK (PW.pt (vn (zx U0 (zF yj (zo ix_tup (pv 3) zg) (zD B.len (pv 4))) (zD B.len (pv 1)) (zB _)) (wc (zx Ze (ye wa (pv 1) (yd (zo ix_tup (pv 3) zg)) (yd (zF yj (zo ix_tup (pv 3) zg) (zD B.len (pv 4))))) (pv 4) (zB _)))))
     (zc (zk z7))
     zt)
    (zc (zC 1 nP.nd (cl0 pO hr .nil rfl (za (pv 0) (za (pv 1) (za (pv 3) zd))))))))))
   (zc (zk (pv 1)))),?_]
  have s16:=zP;have hR':=hR;have hT':=hT
  erw[Is]at hR' hT'
  obtain⟨_,xs,e,hX,hI⟩:=hR';cases e;obtain⟨_,ts,e,hTs,hJ⟩:=hT';cases e;have htl:=hJ.len;rw[ac]at htl;refine zj (λσ H'=>H'=H/\∃v3 v4,σ=[!!a,~~~w',!!t,v3,v4]) ?_ ?_
  ·rfl'
   refine#[#[_,hTs],ForL.by (xs:=ts) (λi σ H'=>H'=H/\∃w1 v3 v4,z8 rs w (ss.take i)=tY w1/\w1.length<=60+i * 100/\σ=[!!a,~~~w1,!!t,v3,v4]) #[rfl,w,_,_,rfl,⋯,rfl] (λi σ H' _ h=>by rw[h.1];exact hTs) ?_ ?_]
   ·refine nm4 ?_;rintro i x σ H' hx ⟨rfl,w1,v3,v4,hw1,hl1,rfl⟩:_;obtain⟨s,ps,hsi,rfl,hqs⟩:=vE hJ hx;have hil:=(Af.mp hsi).1;obtain⟨w2,haf,hw2⟩:=UX hwk hsi hw1;have hl2:=UI ok haf;have hb:=UR haf;obtain⟨p,a1,_,hp⟩:=zcP hI hb.1 hb.2;have gl:=Xa ok s.1.toNat;have ha:=haf;rw[yG hb]at ha;right;generalize rs.getD s.1.toNat ([],[])=r at *;have hst:zu w1 s.2.1 (sdl r s.2.2).1=Aa:=bG λhst=>by rw[if_neg hst]at ha;cases ha
    obtain⟨_,_,h0,h1⟩:=yu hst
    erw[yD,aX,aW]
    refine zj (λσ H''=>H''=H'/\σ=[!!a,~~~w1,!!t,!!ps,v4]) ?_ ?_
    ·rfl'
     exact#[_,hqs,_,rfl,_,rfl,yo (λh=>absurd hb.1 ⋯) λ_=>#[_,hqs,_,rfl,_,.inl #[_,hX,rfl],_,rfl,yo (λh=>absurd hb.2 (by have:=hI.len;rw[ac]at this;lia)) λ_=>#[_,hqs,_,rfl,_,rfl,yo (λh=>absurd h0 ⋯) λ_=>trivial]]]
    rintro σ G ⟨rfl,rfl⟩:_;right;refine zj (λσ H''=>H''=G/\σ=[!!a,~~~w1,!!t,!!ps,tY (.str (tx (sdl r s.2.2).1))]) ?_ ?_
    ·rfl'
     refine#[_,hqs,_,rfl,_,rfl,_,hX,_,a1,_,hqs,_,rfl,.inr #[_,rfl,_,rfl,_,hp,?_]];cases s.2.2 <;> rfl
    rintro σ G1 ⟨rfl,rfl⟩:_;right;refine zj (λσ H''=>H''=G1/\σ=[!!a,~~~w1,!!t,!!ps,tY (.str (tx (sdl r s.2.2).1))]) ?_ ?_
    ·rfl'
     have hol:(sdl r s.2.2).1.length<=100:=by
      cases s.2.2
      ·exact gl.2
      ·exact gl.1
     refine#[_,hqs,_,rfl,⋯,_,rfl,⋯,yo (λh=>absurd h1 ⋯) λ_=>#[_,hqs,_,rfl,_,rfl,_,hqs,_,rfl,⋯,_,rfl,⋯,yo (λh=>absurd ?_ h) λ_=>trivial]];have hst':=hst;unfold zu at hst';rw[decide_eq_true_eq]at hst';rw[Y6 _ h0 ⋯ ⋯];have e:(s.2.1+((sdl r s.2.2).1.length:Int) - s.2.1).toNat=(sdl r s.2.2).1.length:=⋯;rw[e];exact hst'.2.2
    rintro σ G2 ⟨rfl,rfl⟩:_;right
    rfl'
    refine UD hR ok ⋯ hqs haf #[rfl,w2,hw2,⋯,rfl]
   ·rintro σ H' ⟨rfl,w1,v3,v4,hw1,hl1,rfl⟩;rw[htl,aO,hwk]at hw1;cases hw1;exact#[rfl,_,_,rfl]
  rintro σ H2 ⟨rfl,v3,v4,rfl⟩:_;right
  rfl'
  exact q
theorem zfc{X:Cx}{k j:Nat}{C:pX}{ps:List re}{sp:Sp}{e:rh}{es:List rh}{t:TA}{pos p:rP}{x:re}(hx:XE X E)(D:DMk X.prog X.w X.K X.mg X.base (CXx X.prog X.w) k C ps sp)(hr:Room j X.A)(hg:Gl X x)(hm:X.mg x=tY (.ref C))(ha:PA X (e::es) t)(hdb:(x ==("__debug__" : re))=Ab:=by decide)(he:pT (e::es) X.env=(Ab,eval e X.env)::pT es X.env:=by rfl)
  (hpl:(rA pos (pT es X.env)).any (·.1)=Ab:=by rfl) (hj:k+1<=j:=by decide):PE X (.Call (.Name x p) (e::es) [] pos) (UP C sp [] E t):=by
 obtain⟨f,fd,M,F,hb⟩:=D.ex;exact Ui M F (hr.mono hj) hg hm hb .nil (X3 hx) ha hdb he hpl
abbrev zfu(mg:re->Option pY):Prop:=mg "any" = tZ
structure TNT(K:pW)(mg:re->Option pY)(C:pX):Prop where
 xi:XI K C
 g:mg "NotTurned" = tY (.ref C)
 na:NoAttr K C "number"
theorem ub:sQz 2 ["self","number"] zU:=by nofun
theorem ur{f C:pX}(T:TNT K mg C)(F:Fun K "__init__" "NotTurned.__init__" zU f fd):(1&&&["self","number"]) (vV C "number"):=by
 exists F.ok ub
 ·obtain⟨x,v,rfl,hx,q⟩:=h;refine#[_,(zc (QZ (pv 0) (pv 1) rfl)),?_]
  erw[zaG]
  rfl'
  exact#[C,hx,T.xi.toXC,T.na,q]
structure DNT(P:rb)(w:rf)(K:pW)(mg:re->Option pY)(base:rj)(C:pX):Prop extends TNT K mg C where
 ini:∃f fd,ag K (.ref C) "__init__" = tY (tY (.ref f))/\aV K (.ref f)=Aa/\(1&&&["self","number"]) (vV C "number")/\Binds K fd ["self","number"] []
structure zcO(K:pW)(mg:re->Option pY)(CH:pX):Prop where
 cl:Cls K CH
 g:mg "System" = tY (.ref CH)
 no:NoAttr K CH "order"
 nr:NoAttr K CH "rules"
noncomputable def wA(k:Nat)(l:())(ns:List Int):List zq->Nat->Option Nat
 | [],_=>tZ
 | r::rs,i=>if zL k l ns r.2 r.1=Aa then wA k l ns rs (i+1)else tY i
theorem Xu{l:()}:∀{ps:List zq} {j i:Nat} {r:zq},(∀(m:Nat) (p:zq),m<i->ps[m]? = tY p->zL k l ns p.2 p.1=Aa)->ps[i]? = tY r->zL k l ns r.2 r.1=Ab->wA k l ns ps j=tY (j+i)
 | [],_,_,_,_,h,_=>by simp at h
 | p::ps,j,0,r,_,h,hl=>by
  cases h;rw[wA,hl,if_neg az];rfl
 | p::ps,j,i+1,r,hb,h,hl=>by
  rw[wA,if_pos (hb 0 p (Nat.succ_pos _) rfl),Xu (i:=i) (λm q hm e=>hb (m+1) q ⋯ e) h hl];congr 1;lia
theorem um{l:()}:∀{ps:List zq} {j:Nat},(∀(m:Nat) (p:zq),ps[m]? = tY p->zL k l ns p.2 p.1=Aa)->wA k l ns ps j=tZ
 | [],_,_=>rfl
 | p::ps,j,hb=>by
  rw[wA,if_pos (hb 0 p rfl)];exact um λm q e=>hb (m+1) q e
def InL(l:())(ps:List zq):Prop:=∀p ∈ ps,p.1.length<=1000/\p.2.length<=1000/\(∀c ∈ p.1,c ∈ l)/\∀c ∈ p.2,c ∈ l
def uZ(K:pW)(CO CR CW CT CH:pX):Sp:=λvs H Q E=>∃(x dx o a:pX) (k:Nat) (l:()) (ns:List Int) (ps:List zq) (xs:List V),vs=[.ref x,.ref o,.ref a]/\H x=tY (.ins CH dx [])/\OrdAt CO CR CW H o k l ns/\OG l ns k/\H a=tY (.lst xs)/\Iss K H (ps.map dR) xs/\InL l ps /\
 (∀i,wA k l ns ps 0=tY i->∀H1,Same H H1->∀d H',zd9 H1 d "number" (.int (i:Nat)) H'->E (.ref CT) (tY d) H') /\
 (wA k l ns ps 0=tZ->∀(q:pX) (H':Hp),(∀b o',b≠x->H b=tY o'->H' b=tY o')->H' x=tY (.ins CH dx [("order",.ref o),("rules",.ref q)])->H' q=tY (.lst xs)->H q=tZ->Q .non H')
theorem iI:sQz 3 ["self","order","rules","number","rule"] xV:=by nofun
theorem jx{f CO CR CW CT CH:pX}(B:Bt mg)(T:DNT P w K mg base CT)(TS:zcO K mg CH)(DBk:DB P w K mg base CO CR CW)(F:Fun K "__init__" "System.__init__" xV f fd) :(5|||["self","order","rules"]) (uZ K CO CR CW CT CH):=by
 obtain⟨fi,fdi,hi,hfn,Fi,Bi⟩:=T.ini
 exists Fun.okX F iI,0
 ·obtain⟨x,dx,o,a,k,l,ns,ps,xs,rfl,hx0,ho,hG,hA,hI,hP,q1,q2⟩:=h
  refine#[_,(zi (zS PassesOwn.leaving rfl (wL rfl B.enum (za (pv 2) zd)) (uE (n:=2) rfl (z5 (zA (i:=3) iI.nd rfl (.inl rfl)) (z5 (zA (i:=4) iI.nd rfl (.inl rfl)) wF)))
    (zc (zK (zY (yK (zbW DBk hr (pv 1) (za (zo ix_tup (pv 4) zg) (za (zo ix_tup (pv 4) zg) zd))) (λ_=>rfl)))
     (zc (Yq hx rfl T.xi.toXC hi hfn Fi (hr.mono ∅) Bi rfl T.g (za (pv 3) zd)))
     zt)))
   (zi (ZD (pv 0) (pv 1) rfl)
   (zc (ZD (pv 0) (wq xh rfl B.list PySem.Pv.boot_list (za (pv 2) zd)) rfl)))),?_]
  have s16:=zP;refine zj (λσ H'=>Same H H'/\wA k l ns ps 0=tZ/\∃v3 v4,σ=[!!x,!!o,!!a,v3,v4]) ?_ ?_
  ·ac_rfl;refine#[#[_,SqL.of hA],ForEL.by (xs:=xs) (λi σ H'=>Same H H'/\(∀(j:Nat) (p:zq),j<i->ps[j]? = tY p->zL k l ns p.2 p.1=Aa)/\∃v3 v4,σ=[!!x,!!o,!!a,v3,v4]) #[Same.refl _,λj p h=>absurd h (bV j),_,_,rfl] ?_ ?_ ?_]
   ·rintro i σ H' _ ⟨hs,_⟩;exact SqL.of (hs _ _ hA)
   ·rintro i y σ H' p hy ⟨hs,hb,v3,v4,rfl⟩ hpn;obtain⟨r,pr,hri,rfl,hqr⟩:=hI.getR hy;have hm:=hP r (af hri);have s2:=hs.trans (ze (o:=.tup [.int (i:Nat),.ref pr]) hpn);have ho2:=ho.same s2;have hq2:=zr s2 hqr;obtain⟨C,dy,fs,hf,hoC,hn,_⟩:=ho2.fam;have hn1:fs.lookup ("before" : re)=tZ:=hn _ ∅ ∅;ac_rfl;refine#[_,SqT.of zf,rfl,_,_,rfl,_,_,rfl,rfl,C,hf,dy,fs,hoC,hn1,_,rfl,_,hq2,_,rfl,_,rfl,_,hq2,_,rfl,o,k,l,ns,r.2,r.1,rfl,ho2,hG,hm.2.1,hm.1,hm.2.2.2,hm.2.2.1,λH3 s3=>?_];have s16:=zP;refine#[_,rfl,yo (λe=>#[⋯,Qv (q1 i (by have:=Xu (j:=0) hb hri e;simpa using this) H3 (s2.trans s3))]) λe=>#[s2.trans s3,λj p' hj hp'=>?_]];by_cases hj':j<i
    ·exact hb j p' hj' hp'
    ·have:j=i:=⋯;rw[this,hri]at hp';cases hp';simpa using e
   ·rintro σ H' ⟨hs,hb,v3,v4,rfl⟩;have hxl:=hI.len;rw[ac]at hxl;exact#[hs,um λm p e=>hb m p (by have:=(Af.mp e).1;lia) e,v3,v4,rfl]
  rintro σ H1 ⟨s1,hf,v3,v4,rfl⟩:_;right;refine zj (λσ H'=>H'=upd H1 x (.ins CH dx [("order",.ref o)])/\σ=[!!x,!!o,!!a,v3,v4]) ?_ ?_
  ·ac_rfl;exact#[_,_,_,s1 _ _ hx0,TS.cl,TS.no,∅,rfl]
  rintro σ H2 ⟨rfl,rfl⟩:_;right;ac_rfl;have hax:a≠x:=λe=>by rw[e,hx0]at hA;cases hA
  refine#[xs,.inl (SqL.of (by rw[zp hax];exact s1 _ _ hA)),λq hq=>?_];have hqx:q≠x:=λe=>by rw[e,zf]at hq;cases hq
  rw[zp hqx]at hq
  have hqH:H q=tZ:=by
   cases e:H q with
   | none=>rfl
   | some o'=>rw[s1 _ _ e]at hq;cases hq
  refine#[CH,dx,_,by rw[zp hqx.symm,zf],TS.cl,TS.nr,by show 1<1000;decide,q2 hf q _ (λb o' hb e=>?_) zf (by rw[zp hqx,zf]) hqH];rw[zp hb,zp (λz=>by rw[z,hqH]at e;cases e),zp hb];exact s1 _ _ e
def JB(K:pW)(CH:pX)(H:Hp)(y o q:pX)(ps:List zq):Prop:=∃dx xs,H y=tY (.ins CH dx [("order",.ref o),("rules",.ref q)])/\H q=tY (.lst xs)/\Iss K H (ps.map dR) xs
noncomputable def xE(l m:())(k:Nat):Bool:=decide ((l.drop k).take m.length=m.take (l.length - k))
noncomputable def lf(rs:List zq)(i:Nat):():=(rs.getD i ([],[])).1
theorem vJ{i:Nat}{r:zq}(h:rs[i]? = tY r):lf rs i=r.1:=by unfold lf;rw[aa,h];rfl
noncomputable def Yx(rs:List zq)(i j n:Nat):List N3:=((aH n).filter λk=>(decide (i≠j) || decide (k≠0)) && xE (lf rs i) (lf rs j) k).map λk=>(i,j,k)
noncomputable def ovI(rs:List zq)(i m:Nat):List N3:=(aH m).flatMap λj=>Yx rs i j (lf rs i).length
noncomputable def ovA(rs:List zq)(m:Nat):List N3:=(aH m).flatMap λi=>ovI rs i rs.length
theorem jg(rs:List zq)(i j n:Nat):Yx rs i j (n+1)=Yx rs i j n ++ (if ((decide (i≠j) || decide (n≠0)) && xE (lf rs i) (lf rs j) n)=Aa then [(i,j,n)]else []):=by
 unfold Yx;rw[cw,cK,ax];congr 1
 erw[eL,da]
 split <;> rfl
theorem u7(rs:List zq)(i m:Nat):ovI rs i (m+1)=ovI rs i m ++ Yx rs i m (lf rs i).length:=by
 unfold ovI;rw[cw,cF];simp
theorem Zm(rs:List zq)(m:Nat):ovA rs (m+1)=ovA rs m ++ ovI rs m rs.length:=by
 unfold ovA;rw[cw,cF];simp
theorem uR(rs:List zq)(i j n:Nat):(Yx rs i j n).length<=n:=by
 unfold Yx;rw[ac];have:=cM (λk=>(decide (i≠j) || decide (k≠0)) && xE (lf rs i) (lf rs j) k) (aH n);rw[bZ]at this;exact this
theorem zdo(h:kR rs)(i:Nat):(lf rs i).length<=100:=by
 cases e:rs[i]? with
 | none=>unfold lf;rw[aa,e];exact aD _
 | some r=>rw[vJ e];exact (h.2 r (af e)).1
theorem Xg(h:kR rs)(i m:Nat):(ovI rs i m).length<=m * 100:=by
 induction m with
 | zero=>exact aD _
 | succ m ih =>
  rw[u7,ak];have h1:=uR rs i m (lf rs i).length;have h2:=zdo h i;lia
theorem UQ(h:kR rs)(m:Nat):(ovA rs m).length<=m * 3000:=by
 induction m with
 | zero=>exact aD _
 | succ m ih =>
  rw[Zm,ak];have h1:=Xg h m rs.length;have h2:=h.1;lia
def kM:Sp:=λvs H Q _=>∃(l m:()) (k:Nat),vs=[.str (tx l),.str (tx m),.int (k:Nat)]/\l.length<=1000/\m.length<=1000/\k<=l.length/\Q (.bl (xE l m k)) H
theorem Ym{l m:()}(h1:l.length<=1000)(h2:m.length<=1000)(h3:k<=l.length)(h:Q (.bl (xE l m k)) H):kM [.str (tx l),.str (tx m),.int (k:Nat)] H Q E:=#[l,m,k,rfl,h1,h2,h3,h]
theorem Kg:sQz 3 ["one","other","place"] YC:=by nofun
theorem JX(B:Bt mg)(F:("agree"^^^YC)) :(1&&&["one","other","place"]) kM:=by
 exists F.ok Kg
 ·obtain⟨l,m,k,rfl,hl,hm,hk,q⟩:=h;refine#[_,(zc (zk (yE y4 (ye wa (pv 0) (yd (pv 2)) (yd (zF yj (pv 2) (zD B.len (pv 1))))) (ye wa (pv 1) xn (yd (zF j0 (zD B.len (pv 0)) (pv 2)))) (zB _)))),?_];have s16:=zP
  rfl'
  refine#[⋯,⋯,⋯,⋯,?_];rw[K7 _ ⋯ ⋯,ZI _ ⋯];have e1:((k:Int)+(m.length:Int) - (k:Int)).toNat=m.length:=⋯;have e2:((l.length:Int) - (k:Int)).toNat=l.length - k:=⋯;rw[e1,e2];exact q
def vx(K:pW):Sp:=λvs H Q _=>∃(a:pX) (rs:List zq),vs=[.ref a]/\Is K H (.lst (rs.map dR)) (.ref a)/\kR rs/\∀D H',H D=tZ->Same H H'->LsA K H' D ((ovA rs rs.length).map d3)->Q (.ref D) H'
theorem Zz{a:pX}(h1:Is K H (.lst (rs.map dR)) (.ref a))(h2:kR rs)(h:∀D H',H D=tZ->Same H H'->LsA K H' D ((ovA rs rs.length).map d3)->Q (.ref D) H'):vx K [.ref a] H Q E:=#[a,rs,rfl,h1,h2,h]
theorem gr:sQz 1 ["rules","found","i","one","j","other","place"] ut:=by nofun
theorem YT(B:Bt mg)(F:("overlaps"^^^ut))(pH:(1<<<"agree") ["one","other","place"] [] kM):(2&&&["rules"]) (vx K):=by
 exists F.ok gr
 ·obtain⟨a,rs,rfl,hR,ok,q⟩:=h
  refine#[_,(zE (zC 1 gr.nd (xj zd))
   (zE (zS PassesOwn.never rfl (wL rfl B.enum (za (pv 0) zd)) (uE (n:=2) rfl (z5 (zA (i:=2) gr.nd rfl (.inl rfl)) (z5 (zA (i:=3) gr.nd rfl (.inl rfl)) wF)))
    (zc (zS PassesOwn.never rfl (wL rfl B.enum (za (pv 0) zd)) (uE (n:=2) rfl (z5 (zA (i:=4) gr.nd rfl (.inl rfl)) (z5 (zA (i:=5) gr.nd rfl (.inl rfl)) wF)))
     (zc (zS PassesOwn.never rfl (Yh rfl B.range (za (wM (zx y4 (pv 2) (pv 4) (zB _)) zg zg) (za (zD B.len (zo ix_tup (pv 3) zg)) zd))) (zA (i:=6) gr.nd rfl (.inl rfl))
      (zc (zK (yK (cl0 pH hr .nil rfl (za (zo ix_tup (pv 3) zg) (za (zo ix_tup (pv 5) zg) (za (pv 6) zd)))) (λ_=>rfl))
       (zc (xm (vq aY bv bw yO (pv 1) (za (zW (za (pv 2) (za (pv 4) (za (pv 6) zd)))) zd))))
       zt)))))))
   (zc (zk (pv 1))))),?_]
  have s16:=zP
  rfl'
  erw[Is]at hR
  obtain⟨_,xs,e,hX,hI⟩:=hR;cases e;refine#[⋯,λD hD=>#[#[_,(ze hD).seq hX],ForEL.by (xs:=xs) (λi σ H'=>∃v2 v3 v4 v5 v6,σ=[!!a,!!D,v2,v3,v4,v5,v6]/\Same H H'/\LsA K H' D ((ovA rs i).map d3)) #[tZ,tZ,tZ,tZ,tZ,rfl,ze hD,LsA.nil] ?_ ?_ ?_]]
  ·rintro i σ H' hi ⟨v2,v3,v4,v5,v6,rfl,hs,_⟩;exact hs.seq hX
  ·rintro i x σ H' p hx ⟨v2,v3,v4,v5,v6,rfl,hs,hL⟩ hp;obtain⟨r,pr,hri,rfl,hqr⟩:=hI.getR hx;have er:=vJ hri;have hr1:=(ok.2 r (af hri)).1
   rfl'
   refine#[_,SqT.of zf,rfl,_,_,rfl,_,_,rfl,rfl,#[_,((hs.trans (ze hp)).seq hX)],ForEL.by (xs:=xs) (λj σ H''=>∃v4 v5 v6,σ=[!!a,!!D,-~~~i,!!pr,v4,v5,v6]/\Same H H''/\LsA K H'' D ((ovA rs i ++ ovI rs i j).map d3)) #[v4,v5,v6,rfl,hs.trans (ze hp),by rw[show ovI rs i 0=[]from rfl,aP];exact hL.same (ze hp)] ?_ ?_ ?_]
   ·rintro j σ H2 hj ⟨v4,v5,v6,rfl,hs2,_⟩;exact hs2.seq hX
   ·rintro j y σ H2 p2 hy ⟨v4,v5,v6,rfl,hs2,hL2⟩ hp2;obtain⟨r2,pr2,hri2,rfl,hqr2⟩:=hI.getR hy;have er2:=vJ hri2;have hr2:=(ok.2 r2 (af hri2)).1;have hs3:=hs2.trans (ze (o:=.tup [.int (j:Nat),.ref pr2]) hp2);have hq1:=zr hs3 hqr;have el:(tx r.1).length=r.1.length:=zX _
    rfl'
    refine#[_,SqT.of zf,rfl,_,_,rfl,_,_,rfl,rfl,rfl,yo (λh=>?_) λh=>?_]
    ·have hij:i=j:=by injection h with h;lia
     have z0:Yx rs i j (1+0)=[]:=by
      subst hij;rw[show 1+0=0+1 from rfl,jg];simp [Yx]
     have zn:Yx rs i j (1+((r.1.length:Int) - 1).toNat)=Yx rs i j r.1.length:=by
      by_cases h0:r.1.length=0
      ·rw[h0];exact z0
      ·rw[show 1+((r.1.length:Int) - 1).toNat=r.1.length by lia]
     refine#[_,hq1,_,rfl,_,#[⋯,rfl],∅,∅,⋯,⋯,ForR.by (λt σ H3=>∃v6,σ=[!!a,!!D,-~~~i,!!pr,-~~~j,!!pr2,v6]/\Same H H3/\LsA K H3 D ((ovA rs i ++ ovI rs i j ++ Yx rs i j (1+t)).map d3)) #[v6,rfl,hs3,(by rw[z0,aP];exact hL2.same (ze hp2))] ?_ ?_]
     ·refine nm3 ?_;rintro n σ H3 hn ⟨v6,rfl,hs4,hL4⟩:_;have hn':1+n<r.1.length:=⋯;have en:((1:Int)+(n:Int))=((1+n:Nat):Int):=⋯;right;dsimp only;rw[en];obtain⟨ys,hY,hJ⟩:=hL4;have hlen:=hJ.len;have l1:=UQ ok i;have l2:=Xg ok i j;have l3:=uR rs i j (1+n);have i1:=(Af.mp hri).1;have i2:=(Af.mp hri2).1;have i3:=ok.1
      erw[ac,ak]at hlen
      have es:=jg rs i j (1+n);have etest:(decide (i≠j) || decide (1+n≠0))=Aa:=by rw[show decide (1+n≠0)=Aa from decide_eq_true ⋯,dB]
      rw[etest,fv,er,er2]at es
      rfl'
      refine#[_,zr hs4 hqr,_,rfl,_,zr hs4 hqr2,_,rfl,Ym ⋯ ⋯ ⋯ #[_,rfl,yo (λhb=>#[.inl #[_,SqL.of hY],⋯,λt ht=>#[_,ze ht _ _ hY,⋯,zH (hs4.trans (ze ht)) hD,?_]]) λhb=>#[hs4,ys,hY,?_]]]
      ·rw[hb,if_pos rfl]at es;rw[show 1+(n+1)=1+n+1 by lia,es,<- aL,ax];exact LsA.pushT hY hJ ht zcI (XO _) (by erw[zZ,xB,and_self])
      ·have hb':xE r.1 r2.1 (1+n)=Ab:=by simpa using hb
       rw[hb',if_neg az,aP]at es;rw[show 1+(n+1)=1+n+1 by lia,es];exact hJ
     ·rintro σ H3 ⟨v6,rfl,hs4,hL4⟩;refine#[#[_,_,_,rfl],hs4,?_];rw[u7,er,<- aL];rw[el,zn]at hL4;exact hL4
    ·have hij:i≠j:=λz=>h (by rw[z]);refine#[_,hq1,_,rfl,_,#[⋯,rfl],∅,∅,⋯,⋯,ForR.by (λt σ H3=>∃v6,σ=[!!a,!!D,-~~~i,!!pr,-~~~j,!!pr2,v6]/\Same H H3/\LsA K H3 D ((ovA rs i ++ ovI rs i j ++ Yx rs i j (0+t)).map d3)) #[v6,rfl,hs3,(by rw[show Yx rs i j (0+0)=[]from rfl,aP];exact hL2.same (ze hp2))] ?_ ?_]
     ·refine nm3 ?_;rintro n σ H3 hn ⟨v6,rfl,hs4,hL4⟩:_;have hn':0+n<r.1.length:=⋯;have en:((0:Int)+(n:Int))=((0+n:Nat):Int):=⋯;right;dsimp only;rw[en];obtain⟨ys,hY,hJ⟩:=hL4;have hlen:=hJ.len;have l1:=UQ ok i;have l2:=Xg ok i j;have l3:=uR rs i j (0+n);have i1:=(Af.mp hri).1;have i2:=(Af.mp hri2).1;have i3:=ok.1
      erw[ac,ak]at hlen
      have es:=jg rs i j (0+n);have etest:(decide (i≠j) || decide (0+n≠0))=Aa:=by rw[show decide (i≠j)=Aa from decide_eq_true hij,Bool.true_or]
      rw[etest,fv,er,er2]at es
      rfl'
      refine#[_,zr hs4 hqr,_,rfl,_,zr hs4 hqr2,_,rfl,Ym ⋯ ⋯ ⋯ #[_,rfl,yo (λhb=>#[.inl #[_,SqL.of hY],⋯,λt ht=>#[_,ze ht _ _ hY,⋯,zH (hs4.trans (ze ht)) hD,?_]]) λhb=>#[hs4,ys,hY,?_]]]
      ·rw[hb,if_pos rfl]at es;rw[show 0+(n+1)=0+n+1 by lia,es,<- aL,ax];exact LsA.pushT hY hJ ht zcI (XO _) (by erw[zZ,xB,and_self])
      ·have hb':xE r.1 r2.1 (0+n)=Ab:=by simpa using hb
       rw[hb',if_neg az,aP]at es;rw[show 0+(n+1)=0+n+1 by lia,es];exact hJ
     ·rintro σ H3 ⟨v6,rfl,hs4,hL4⟩;refine#[#[_,_,_,rfl],hs4,?_];rw[u7,er,<- aL];rw[el,show 0+((r.1.length:Int) - 0).toNat=r.1.length by lia]at hL4;exact hL4
   ·rintro σ H2 ⟨v4,v5,v6,rfl,hs2,hL2⟩;have e:=hI.len;rw[ac]at e;rw[e,<- Zm]at hL2;exact#[#[_,_,_,_,_,rfl],hs2,hL2]
  ·rintro σ H' ⟨v2,v3,v4,v5,v6,rfl,hs,hL⟩;have e:=hI.len;rw[ac]at e;rw[e]at hL
   rfl'
   exact q D H' hD hs hL
noncomputable def yk(l m:())(k:Nat):():=l ++ m.drop (l.length - k)
theorem vB(l m:())(k:Nat)(hk:k<=l.length):(yk l m k).length=max l.length (k+m.length):=by
 unfold yk;rw[ak,bg];lia
theorem jT(l m:())(k:Nat):zu (yk l m k) 0 l=Aa:=by
  unfold zu yk;refine decide_eq_true #[∅,by rw[ak];lia,?_];rw[show (0:Int).toNat=0 from rfl,dW,bj (al _),aO]
theorem qT{l m:()}(hk:k<=l.length)(h:xE l m k=Aa):zu (yk l m k) (k:Nat) m=Aa:=by
 unfold xE at h;rw[decide_eq_true_eq]at h;have hl:=vB l m k hk;unfold zu;refine decide_eq_true #[⋯,⋯,?_];rw[show ((k:Nat):Int).toNat=k from rfl];unfold yk;rw[cb hk];by_cases hm:m.length<=l.length - k
 ·rw[bj (by rw[bg];lia),h,ba hm]
 ·rw[ba (by rw[bg];lia)]at h;rw[h,bH,aO]
theorem Kf{i j n:Nat}{t:N3}(h:t ∈ Yx rs i j n):t.1=i/\t.2.1=j/\t.2.2<n/\xE (lf rs i) (lf rs j) t.2.2=Aa:=by
 unfold Yx at h;obtain⟨k,hk,rfl⟩:=Ag.mp h;rw[List.mem_filter,fh,ci]at hk;exact#[rfl,rfl,hk.1,hk.2.2]
theorem qY{t:N3}(h:t ∈ ovA rs rs.length):t.1<rs.length/\t.2.1<rs.length/\t.2.2<(lf rs t.1).length/\xE (lf rs t.1) (lf rs t.2.1) t.2.2=Aa:=by
 unfold ovA ovI at h;obtain⟨i,hi,h⟩:=As.mp h;obtain⟨j,hj,h⟩:=As.mp h;obtain⟨e1,e2,e3,e4⟩:=Kf h;rw[e1,e2];exact#[Al.mp hi,Al.mp hj,e3,e4]
def Zs(K:pW):Sp:=λvs H Q _=>∃(a t:pX) (rs:List zq) (i j k:Nat) (r r2:zq),vs=[.ref a,.ref t]/\Is K H (.lst (rs.map dR)) (.ref a)/\SqT K H t [.int (i:Nat),.int (j:Nat),.int (k:Nat)]/\kR rs/\rs[i]? = tY r/\rs[j]? = tY r2/\k<=r.1.length/\xE r.1 r2.1 k=Aa /\
 ∀p H',H p=tZ->Same H H'->H' p=tY (.tup [.str (tx (yk r.1 r2.1 k)),.str (tx (yP (yk r.1 r2.1 k) 0 r.1 r.2)),.str (tx (yP (yk r.1 r2.1 k) (k:Nat) r2.1 r2.2))])->Q (.ref p) H'
theorem XM{a t:pX}{i j k:Nat}{r r2:zq}(h1:Is K H (.lst (rs.map dR)) (.ref a))(h2:SqT K H t [.int (i:Nat),.int (j:Nat),.int (k:Nat)])(h3:kR rs)(h4:rs[i]? = tY r)(h5:rs[j]? = tY r2)(h6:k<=r.1.length)(h7:xE r.1 r2.1 k=Aa)
 (h:∀p H',H p=tZ->Same H H'->H' p=tY (.tup [.str (tx (yk r.1 r2.1 k)),.str (tx (yP (yk r.1 r2.1 k) 0 r.1 r.2)),.str (tx (yP (yk r.1 r2.1 k) (k:Nat) r2.1 r2.2))])->Q (.ref p) H'):Zs K [.ref a,.ref t] H Q E:=#[a,t,rs,i,j,k,r,r2,rfl,h1,h2,h3,h4,h5,h6,h7,h]
theorem V9{CU:pX}{l o n:()}{k:Int}(h1:l.length<=10000)(h2:o.length<=10000)(h3:n.length<=10000)(hs:zu l k o=Aa)(q:Q (.str (tx (yP l k o n))) H):Wq CU [.str (tx l),.int k,.str (tx o),.str (tx n)] H Q E:=#[l,o,n,k,rfl,h1,h2,h3,λ_=>q,λh=>by rw[hs]at h;cases h]
theorem mm:sQz 2 ["rules","overlap","one","other","place","word"] QI:=by nofun
theorem za0{f CU:pX}(B:Bt mg)(F:("peak"^^^QI))(oK:(3>>>"put") ["word","place","old","new"] [] (Wq CU)):(4&&&["rules","overlap"]) (Zs K):=by
 exists F.ok mm
 ·obtain⟨a,t,rs,i,j,k,r,r2,rfl,hR,ht,ok,hr1,hr2,hk,hag,q⟩:=h
  refine#[_,(zi (zC 2 mm.nd (zo ix_list (pv 0) (zo ix_tup (pv 1) zg)))
   (zi (zC 3 mm.nd (zo ix_list (pv 0) (zo ix_tup (pv 1) zg)))
   (zi (zC 4 mm.nd (zo ix_tup (pv 1) zg))
   (zi (zC 5 mm.nd (zF yl (zo ix_tup (pv 2) zg) (ye KQ (zo ix_tup (pv 3) zg) (yd (zF j0 (zD B.len (zo ix_tup (pv 2) zg)) (pv 4))) xn)))
   (zc (zk (zW (za (pv 5) (za (clP xe0 oK hr .nil rfl (za (pv 5) (za zg (za (zo ix_tup (pv 2) zg) (za (zo ix_tup (pv 2) zg) zd))))) (za (clP xe0 oK hr .nil rfl (za (pv 5) (za (pv 4) (za (zo ix_tup (pv 3) zg) (za (zo ix_tup (pv 3) zg) zd))))) zd)))))))))),?_]
  have s16:=zP
  erw[Is]at hR
  obtain⟨_,xs,e,hX,hI⟩:=hR;cases e;obtain⟨p1,a1,q1⟩:=zeE hI hr1;obtain⟨p2,a2,q2⟩:=zeE hI hr2;have b1:=ok.2 r (af hr1);have b2:=ok.2 r2 (af hr2);refine zj (λσ H'=>H'=H/\σ=[!!a,!!t,!!p1,tZ,tZ,tZ]) ?_ ?_
  ·rfl'
   exact#[_,ht,_,rfl,_,rfl,_,hX,a1]
  rintro σ H1 ⟨rfl,rfl⟩:_;right;refine zj (λσ H'=>H'=H1/\σ=[!!a,!!t,!!p1,!!p2,tZ,tZ]) ?_ ?_
  ·rfl'
   exact#[_,ht,_,rfl,_,rfl,_,hX,a2]
  rintro σ H2 ⟨rfl,rfl⟩:_;right;refine zj (λσ H'=>H'=H2/\σ=[!!a,!!t,!!p1,!!p2,-~~~k,tZ]) ?_ ?_
  ·rfl'
   exact#[_,ht,rfl]
  rintro σ H3 ⟨rfl,rfl⟩:_;right;refine zj (λσ H'=>H'=H3/\σ=[!!a,!!t,!!p1,!!p2,-~~~k,tY (.str (tx (yk r.1 r2.1 k)))]) ?_ ?_
  ·rfl'
   refine#[_,q1,_,rfl,_,q2,_,rfl,_,q1,_,rfl,_,#[by rw[zX];lia,rfl],#[by rw[zX];lia,_,rfl,_,rfl,?_,rfl,?_]]
   ·erw[zX,YO]
    have:=wm r2.1 (tY ((r.1.length:Int) - (k:Int))) tZ;lia
   ·rw[zX,YO,qS,vU _ ⋯,show ((r.1.length:Int) - (k:Int)).toNat=r.1.length - k by lia];rfl
  rintro σ H4 ⟨rfl,rfl⟩:_;have hw:=vB r.1 r2.1 k hk;right
  rfl'
  exact#[_,q1,_,rfl,_,q1,_,rfl,V9 ⋯ ⋯ ⋯ (jT _ _ _) #[_,q2,_,rfl,_,q2,_,rfl,V9 ⋯ ⋯ ⋯ (qT hk hag) #[⋯,λp hp=>q p _ hp (ze hp) zf]]]
def FmOk(ps:List zq)(most:Int)(m:re->Option V):Prop:=∀k v,m k=tY v->∃(w:()) (J:Nat),k=tx w/\v=.str (tx (wAt ps w J))/\Wm ps w J/\zG (wAt ps w J) ps=tZ/\(J:Int)<=most
theorem FmOk.get{most:Int}{m:re->Option V}(h:FmOk ps most m){w:()}{v:V}(e:m (tx w)=tY v){J:Nat}(hl:Wm ps w J)(hf:zG (wAt ps w J) ps=tZ):v=.str (tx (wAt ps w J)):=by
 obtain⟨w',J',e1,e2,e3,e4,_⟩:=h _ _ e;have e5:=vM e1;subst e5;rw[e2,ko e3 e4 hl hf]
theorem FmOk.put{most:Int}{m:re->Option V}(h:FmOk ps most m){w:()}{J:Nat}(hl:Wm ps w J)(hf:zG (wAt ps w J) ps=tZ)(hJ:(J:Int)<=most):FmOk ps most (λx=>if x=tx w then tY (.str (tx (wAt ps w J)))else m x):=λk v e=>by
 by_cases hk:k=tx w
 ·erw[hk,if_true]at e
  cases e;exact#[w,J,hk,rfl,hl,hf,hJ]
 ·erw[hk,if_false]at e
  exact h k v e
def Xs(P:rb)(w:rf)(K:pW)(CF:pX):Sp:=λvs H Q E=>∃(a F:pX) (l:()) (ps:List zq) (m:Int) (J n:Nat) (mp:re->Option V),vs=[.ref a,.str (tx l),.int m,.ref F]/\LsA K H a (ps.map dR)/\NeL ps/\ps.length<=100/\(∀p ∈ ps,p.1.length<=1000/\p.2.length<=1000)/\Rd ps l J/\H F=tY (jo P w F mp n)/\FmOk ps m mp/\n<=10000 /\
 ((zG (wAt ps l J) ps=tZ/\(J:Int)<=m/\∀(mp':re->Option V) (n':Nat) (H':Hp),SamT F H H'->H' F=tY (jo P w F mp' n')->FmOk ps m mp'->n'<=n+1->Q (.str (tx (wAt ps l J))) H') \/
  (zG (wAt ps l J) ps≠tZ/\(J:Int)=m/\∀H',Same H H'->E (.ref CF) tZ H'))
theorem Vk:sQz 4 ["rules","word","most","forms"] qW:=by nofun
theorem WU{f CF:pX}{ij:tu}(B:Bt mg)(F:("form_of"^^^qW))(mj:(4>>>"gone") ["rules","word","most"] [] (xu K CF))(DD_gone:(4>>>"gone") ["rules","word","most"] [.int 4000 ij] (xu K CF)):(5|||["rules","word","most","forms"]) (Xs P w K CF):=by
 exists Fun.okX F Vk,0
 ·obtain⟨a,F0,l,ps,m,J,n,mp,rfl,hA,hN,hpl,hP,hR,hF,hM,hn,hq⟩:=h
  refine#[_,(zi (zK (zx Js (pv 1) (pv 3) (by with_unfolding_all rfl))
    (zc (zcq (zo ix_tup (clP hx mj hr .nil rfl (za (pv 0) (za (pv 1) (za (pv 2) zd)))) zg) (zcR (pv 3) (pv 1) Jb (by intro _;rfl))))
    zt)
   (zc (zk (zo zaO (pv 3) (pv 1))))),?_]
  have s16:=zP;have s16:=zP;refine zj (λσ H'=>SamT F0 H H'/\zG (wAt ps l J) ps=tZ/\(J:Int)<=m/\(∃(mp':re->Option V) (n':Nat),H' F0=tY (jo P w F0 mp' n')/\FmOk ps m mp'/\n'<=n+1/\mp' (tx l)=tY (.str (tx (wAt ps l J))))/\σ=[!!a,~~~l,~~~!m,!!F0]) ?_ ?_
  ·rfl'
   refine#[F0,mp,n,tx l,rfl,rfl,hF,_,rfl,yo (λhnone=>#[a,l,ps,m,J,rfl,hA,hN,hpl,hP,hR,?_]) λhsome=>?_]
   ·rcases hq with ⟨hf,hJ,_⟩ | h
    ·refine .inl #[hf,hJ,λp S H' s' hp _ _=>#[p,rfl,_,SqT.of hp,_,rfl,?_]]
     erw[ze5]
     rfl'
     exact#[F0,mp,n,tx l,rfl,rfl,s' _ _ hF,⋯,λb o hb e=>by rw[zp hb];exact s' _ _ e,hf,hJ,_,_,zf,hM.put hR.live hf hJ,al _,if_pos rfl]
    ·exact .inr h
   ·cases hv:mp (tx l)with
    | none=>rw[hv]at hsome;exact absurd rfl hsome
    | some v =>
     obtain⟨w',J',e1,e2,e3,e4,e5⟩:=hM _ _ hv;have e6:=vM e1;subst e6;rcases hq with ⟨hf,hJ,_⟩ | ⟨hf,hJ,_⟩
     ·exact#[λb o _ e=>e,hf,hJ,mp,n,hF,hM,⋯,by rw[hM.get hv hR.live hf]at hv;exact hv]
     ·exfalso;rcases dC J' J with h | h
      ·exact hR.live J' h e4
      ·have:J'=J:=⋯;subst this;exact hf e4
  rintro σ H1 ⟨s1,hf,hJ,⟨mp',n',h1,h2,h3,h4⟩,rfl⟩:_;right
  rfl'
  refine#[F0,mp',n',tx l,_,rfl,rfl,h1,h4,?_];rcases hq with ⟨_,_,q⟩ | ⟨h,_⟩
  ·exact q mp' n' H1 s1 h1 h2 h3
  ·exact absurd hf h
noncomputable def pkA(ps:List zq)(t:N3):():=yP (yk (lf ps t.1) (lf ps t.2.1) t.2.2) 0 (lf ps t.1) (ps.getD t.1 ([],[])).2
noncomputable def pkB(ps:List zq)(t:N3):():=yP (yk (lf ps t.1) (lf ps t.2.1) t.2.2) (t.2.2:Nat) (lf ps t.2.1) (ps.getD t.2.1 ([],[])).2
inductive zbU(ps:List zq)(m:Int)(l:()):Option Nat->Prop where
 | yes {J:Nat} (h:Rd ps l J) (h1:zG (wAt ps l J) ps=tZ) (h2:(J:Int)<=m):zbU ps m l (tY J)
 | no {J:Nat} (h:Rd ps l J) (h1:zG (wAt ps l J) ps≠tZ) (h2:(J:Int)=m):zbU ps m l tZ
def Zc(P:rb)(w:rf)(K:pW)(CF:pX):Sp:=λvs H Q E=>∃(a t F:pX) (ps:List zq) (tr:N3) (m:Int) (n:Nat) (mp:re->Option V) (g1 g2:Option Nat),vs=[.ref a,.ref t,.int m,.ref F]/\LsA K H a (ps.map dR)/\NeL ps/\kR ps/\SqT K H t [.int (tr.1:Nat),.int (tr.2.1:Nat),.int (tr.2.2:Nat)]/\tr ∈ ovA ps ps.length/\H F=tY (jo P w F mp n)/\FmOk ps m mp/\n<=9000/\zbU ps m (pkA ps tr) g1/\zbU ps m (pkB ps tr) g2 /\
 (∀(J1 J2:Nat) (mp':re->Option V) (n':Nat) (H':Hp),g1=tY J1->g2=tY J2->SamT F H H'->H' F=tY (jo P w F mp' n')->FmOk ps m mp'->n'<=n+2->Q (.bl (decide (wAt ps (pkA ps tr) J1=wAt ps (pkB ps tr) J2))) H') /\
 ((g1=tZ\/g2=tZ)->∀H',SamT F H H'->E (.ref CF) tZ H')
theorem Wb{P:rb}{w:rf}{CF a F:pX}{l:()}{m:Int}{mp:re->Option V}{g:Option Nat}(hA:LsA K H a (ps.map dR))(hN:NeL ps)(hok:kR ps)(hF:H F=tY (jo P w F mp n))(hM:FmOk ps m mp)(hn:n<=10000)(hg:zbU ps m l g)
  (h1:∀(J:Nat) (mp':re->Option V) (n':Nat) (H':Hp),g=tY J->SamT F H H'->H' F=tY (jo P w F mp' n')->FmOk ps m mp'->n'<=n+1->Q (.str (tx (wAt ps l J))) H') (h2:g=tZ->∀H',Same H H'->E (.ref CF) tZ H'):Xs P w K CF [.ref a,.str (tx l),.int m,.ref F] H Q E:=by
 have hP:∀p ∈ ps,p.1.length<=1000/\p.2.length<=1000:=λp hp=>by have:=hok.2 p hp;lia
 have hl:ps.length<=100:=by have:=hok.1;lia
 cases hg with
 | yes h e1 e2=>exact#[a,F,l,ps,m,_,n,mp,rfl,hA,hN,hl,hP,h,hF,hM,hn,.inl #[e1,e2,λmp' n' H' a1 a2 a3 a4=>h1 _ mp' n' H' rfl a1 a2 a3 a4]]
 | no h e1 e2=>exact#[a,F,l,ps,m,_,n,mp,rfl,hA,hN,hl,hP,h,hF,hM,hn,.inr #[e1,e2,h2 rfl]]
theorem qM{F t:pX}{H H':Hp}{P:rb}{w:rf}{mp:re->Option V}{xs:List V}(s:SamT F H H')(hF:H F=tY (jo P w F mp n))(h:SqT K H t xs):SqT K H' t xs:=by
 rcases h with (h | ⟨o,h⟩) | h
 ·exact .inl (.inl (s _ _ (λz=>by rw[z,hF]at h;cases h) h))
 ·exact .inl (.inr #[o,s _ _ (λz=>by rw[z,hF]at h;cases h) h])
 ·exact .inr h
theorem Wd{F a:pX}{H H':Hp}{P:rb}{w:rf}{mp:re->Option V}(s:SamT F H H')(hF:H F=tY (jo P w F mp n))(h:LsA K H a (ps.map dR)):LsA K H' a (ps.map dR):=by
 obtain⟨xs,h1,h2⟩:=h;refine#[xs,s _ _ (λz=>by rw[z,hF]at h1;cases h1) h1,?_]
 have key:∀(qs:List zq) (vs:List V),Iss K H (qs.map dR) vs->Iss K H' (qs.map dR) vs:=by
  intro qs
  induction qs with
  | nil=>intro vs h;erw[aM,Iss]at h ⊢;exact h
  | cons q qs ih =>
   intro vs h
   erw[ao,Iss]at h ⊢
   obtain⟨v,r,e,h3,h4⟩:=h;obtain⟨p,rfl,h5⟩:=zb4 h3;exact#[_,r,e,QQ (qM s hF h5),ih r h4]
 exact key ps xs h2
theorem lV:sQz 4 ["rules","overlap","most","forms","sides","one","other"] kG:=by nofun
theorem UT{f CF:pX}(B:Bt mg)(F:("is_met"^^^kG))(oO:(4<<<"peak") ["rules","overlap"] [] (Zs K))(ou:(5>>>"form_of") ["rules","word","most","forms"] [] (Xs P w K CF)):(6|||["rules","overlap","most","forms"]) (Zc P w K CF):=by
 exists Fun.okX F lV,0
 ·obtain⟨a,t,F0,ps,tr,m,n,mp,g1,g2,rfl,hA,hN,hok,ht,htr,hF,hM,hn,hg1,hg2,q1,q2⟩:=h
  refine#[_,(zi (zC 4 lV.nd (cl0 oO hr .nil rfl (za (pv 0) (za (pv 1) zd))))
   (zi (zC 5 lV.nd (clP hx ou hr .nil rfl (za (pv 0) (za (zo ix_tup (pv 4) zg) (za (pv 2) (za (pv 3) zd))))))
   (zi (zC 6 lV.nd (clP hx ou hr .nil rfl (za (pv 0) (za (zo ix_tup (pv 4) zg) (za (pv 2) (za (pv 3) zd))))))
   (zc (zk (yE y4 (pv 5) (pv 6) (zB _))))))),?_]
  have s16:=zP;have s16:=zP;obtain⟨i1,i2,i3,i4⟩:=qY htr;obtain⟨r,hr⟩:∃r,ps[tr.1]? = tY r:=#[_,ae i1];obtain⟨r2,hr2⟩:∃r,ps[tr.2.1]? = tY r:=#[_,ae i2];have l1:=vJ hr;have l2:=vJ hr2;have d1:ps.getD tr.1 ([],[])=r:=by rw[aa,hr];rfl
  have d2:ps.getD tr.2.1 ([],[])=r2:=by rw[aa,hr2];rfl
  have eA:pkA ps tr=yP (yk r.1 r2.1 tr.2.2) 0 r.1 r.2:=by unfold pkA;rw[l1,l2,d1]
  have eB:pkB ps tr=yP (yk r.1 r2.1 tr.2.2) (tr.2.2:Nat) r2.1 r2.2:=by unfold pkB;rw[l1,l2,d2]
  rw[l1]at i3;rw[l1,l2]at i4;refine zj (λσ H'=>Same H H'/\∃p:pX,(∃x,H' p=tY (.tup [x,.str (tx (pkA ps tr)),.str (tx (pkB ps tr))]))/\σ=[!!a,!!t,~~~!m,!!F0,!!p,tZ,tZ]) ?_ ?_
  ·rfl'
   exact XM hA.is ht hok hr hr2 ⋯ i4 λp H' _ s' hp=>#[s',p,#[_,by rw[eA,eB];exact hp],rfl]
  rintro σ H1 ⟨s1,p,⟨x,hp⟩,rfl⟩:_;have hF1:=s1 _ _ hF;right;refine zj (λσ H'=>SamT F0 H1 H'/\∃(J1:Nat),g1=tY J1/\(∃mp' n',H' F0=tY (jo P w F0 mp' n')/\FmOk ps m mp'/\n'<=n+1)/\σ=[!!a,!!t,~~~!m,!!F0,!!p,tY (.str (tx (wAt ps (pkA ps tr) J1))),tZ]) ?_ ?_
  ·rfl'
   refine#[_,SqT.of hp,_,rfl,Wb (hA.same s1) hN hok hF1 hM ⋯ hg1 (λJ mp' n' H' e a1 a2 a3 a4=>?_) λe H' s'=>q2 (.inl e) H' (SamT.of (s1.trans s'))];exact#[a1,J,e,#[mp',n',a2,a3,a4],rfl]
  rintro σ H2 ⟨s2,J1,e1,⟨mp1,n1,hF2,hM2,hn2⟩,rfl⟩:_;have s12:SamT F0 H H2:=(SamT.of s1).trans s2;have hpF:p≠F0:=λz=>by rw[z,hF1]at hp;cases hp
  right;refine zj (λσ H'=>SamT F0 H2 H'/\∃(J2:Nat),g2=tY J2/\(∃mp' n',H' F0=tY (jo P w F0 mp' n')/\FmOk ps m mp'/\n'<=n+2)/\σ=[!!a,!!t,~~~!m,!!F0,!!p,tY (.str (tx (wAt ps (pkA ps tr) J1))),tY (.str (tx (wAt ps (pkB ps tr) J2)))]) ?_ ?_
  ·rfl'
   exact#[_,SqT.of (s2 _ _ hpF hp),_,rfl,Wb (Wd s2 hF1 (hA.same s1)) hN hok hF2 hM2 ⋯ hg2 (λJ mp' n' H' e a1 a2 a3 a4=>#[a1,J,e,#[mp',n',a2,a3,⋯],rfl]) λe H' s'=>q2 (.inr e) H' (s12.trans (SamT.of s'))]
  rintro σ H3 ⟨s3,J2,e2,⟨mp2,n2,hF3,hM3,hn3⟩,rfl⟩:_;right
  rfl'
  exact q1 J1 J2 mp2 n2 H3 e1 e2 (s12.trans s3) hF3 hM3 hn3
def kj(K:pW)(CH:pX):Sp:=λvs H Q _=>∃(y o q:pX) (ps:List zq),vs=[.ref y]/\JB K CH H y o q ps/\∀(r:pX) (H':Hp),Same H H'->LsA K H' r (ps.map dR)->H r=tZ->Q (.ref r) H'
theorem w8:sQz 1 ["self"] yy:=by nofun
theorem wZ{f CH:pX}(B:Bt mg)(TS:zcO K mg CH)(F:Fun K "rules_told" "System.rules_told" yy f fd) :(1&&&["self"]) (kj K CH):=by
 exists F.ok w8
 ·obtain⟨y,o,q,ps,rfl,hy,k⟩:=h;refine#[_,(zc (zk (wq xh rfl B.list PySem.Pv.boot_list (za (qf (pv 0) rfl) zd)))),?_];have s16:=zP
  rfl'
  obtain⟨dx,xs,h1,h2,h3⟩:=hy;exact#[_,_,_,h1,TS.cl,TS.nr,_,rfl,_,rfl,_,.inl (SqL.of h2),λr hr'=>k r _ (ze hr') #[xs,zf,Iss.same (ze hr') _ _ h3] hr']
noncomputable def goJ(ps:List zq)(m:Nat)(v:()):Option Nat:=(aH (m+1)).find? λj=>(zG (wAt ps v j) ps).isNone
theorem XW{m:Nat}{v:()}{i:Nat}(e:goJ ps m v=tY i):i<=m/\Wm ps v i/\zG (wAt ps v i) ps=tZ:=by
 unfold goJ at e;have h1:=dD e;have h2:zG (wAt ps v i) ps=tZ:=Option.isNone_iff_eq_none.mp h1;have hm:=Al.mp (eg e);refine#[⋯,λn hn hno=>?_,h2];obtain⟨_,as,bs,e2,h3⟩:=List.find?_eq_some_iff_append.mp e
 have hlen:as.length=i:=by
  have:=congrArg (λl=>l[as.length]?) e2
  erw[bC (al _),eM,cG]at this
  obtain⟨h7,h8⟩:=Af.mp this;rw[fL]at h8;exact h8
 have h9:(aH (m+1))[n]? = as[n]?:=by rw[e2,bT ⋯]
 have h10:n<(aH (m+1)).length:=by rw[bZ];lia
 rw[ae h10,fL]at h9;have:=h3 n (af h9.symm);rw[hno]at this;cases this
theorem WE{m:Nat}{v:()}(e:goJ ps m v=tZ):∀j,j<=m->zG (wAt ps v j) ps≠tZ:=λj hj hno=>by
 unfold goJ at e;have:=AA.mp e j (Al.mpr ⋯);rw[hno]at this;exact this rfl
theorem UW{m:Nat}{v:()}(hl:∀j,j<=m->(wAt ps v j).length<=10000)(hm:m<=10000):zbU ps (m:Int) v (goJ ps m v):=by
 cases e:goJ ps m v with
 | some i =>
  obtain⟨h1,h2,h3⟩:=XW e;exact .yes #[h2,λj hj=>hl j ⋯,⋯] h3 ⋯
 | none =>
  have h:=WE e;exact .no (J:=m) #[λi hi=>h i ⋯,λj hj=>hl j hj,hm] (h m (al _)) rfl
noncomputable def zdG(ps:List zq)(m:Nat)(v:()):():=wAt ps v ((goJ ps m v).getD 0)
noncomputable def Ju(ps:List zq)(m:Nat)(t:N3):Bool:=decide (zdG ps m (pkA ps t)=zdG ps m (pkB ps t))
def OkG(ps:List zq)(m:Nat)(t:N3):Prop:=(goJ ps m (pkA ps t)).isSome=Aa/\(goJ ps m (pkB ps t)).isSome=Aa
def zfe(ps:List zq)(m:Nat):Prop:=m<=10000/\∀t ∈ ovA ps ps.length,(∀j,j<=m->(wAt ps (pkA ps t) j).length<=10000)/\∀j,j<=m->(wAt ps (pkB ps t) j).length<=10000
theorem zbx{t:N3}{m J1 J2:Nat}(e1:goJ ps m (pkA ps t)=tY J1)(e2:goJ ps m (pkB ps t)=tY J2):decide (wAt ps (pkA ps t) J1=wAt ps (pkB ps t) J2)=Ju ps m t:=by
 unfold Ju zdG;rw[e1,e2];rfl
theorem zcj{m:Nat}{t:N3}(h:goJ ps m (pkA ps t)=tZ\/goJ ps m (pkB ps t)=tZ):¬ OkG ps m t:=λho=>by
 obtain⟨h1,h2⟩:=ho;rcases h with h | h
 ·rw[h]at h1;cases h1
 ·rw[h]at h2;cases h2
theorem FmOk.nil{m:Int}:FmOk ps m λ_=>tZ:=λk v e=>by cases e
theorem Ys{F:pX}{H H':Hp}{P:rb}{w:rf}{mp:re->Option V}(s:SamT F H H')(hF:H F=tY (jo P w F mp n)):∀{ts:List N3} {vs:List V},Iss K H (ts.map d3) vs->Iss K H' (ts.map d3) vs
 | [],vs,h=>by erw[aM,Iss]at h ⊢;exact h
 | t::ts,vs,h=>by
  erw[ao,Iss]at h ⊢
  obtain⟨v,r,e,h3,h4⟩:=h;refine#[v,r,e,?_,Ys s hF h4]
  erw[d3,Is]at h3 ⊢
  obtain⟨a,xs,e1,e2,e3⟩:=h3;refine#[a,xs,e1,qM s hF e2,?_]
  erw[Iss,Is]at e3 ⊢
  exact e3
noncomputable def unG(ps:List zq)(m:Nat):List N3:=(ovA ps ps.length).filter λt=>!Ju ps m t
def vC(K:pW)(CH CF:pX):Sp:=λvs H Q E=>∃(y o q:pX) (ps:List zq) (m:Nat),vs=[.ref y,.int (m:Nat)]/\JB K CH H y o q ps/\NeL ps/\kR ps/\(ovA ps ps.length).length<=4000/\zfe ps m /\
 ((∀t ∈ ovA ps ps.length,OkG ps m t)->∀D H',Same H H'->H D=tZ->LsA K H' D ((unG ps m).map d3)->Q (.ref D) H')/\(∀t ∈ ovA ps ps.length,¬ OkG ps m t->∀H',Same H H'->E (.ref CF) tZ H')
theorem nB:sQz 2 ["system","most","rules","forms"] xl:=by nofun
theorem JR{f CF CH:pX}{dV:pY}(B:Bt mg)(TS:zcO K mg CH)(F:FunD K "unmet" "unmet" xl dV f fd)(pb:(2<<<"overlaps") ["rules"] [] (vx K))(pB:(6>>>"is_met") ["rules","overlap","most","forms"] [] (Zc P w K CF))(M_system_rules_told:DM P w K mg base CX0 1 CH "rules_told" ["self"] (kj K CH)):(7|||["system","most"]) (vC K CH CF):=by
 exists FunD.okX F nB,0
 ·obtain⟨y,o,q,ps,m,rfl,hy,hN,hok,hlen,hE,k1,k2⟩:=h
  refine#[_,(zi (jY (i:=2) nB.nd rfl (Or.inr rfl) (me0 M_system_rules_told TS.cl hr (pv 0)))
   (zi (jY (i:=3) nB.nd rfl (Or.inr rfl) zbB)
   (zc (zk (Yt (EX:=E) (own:=["overlap"]) (caps:=["rules","most","forms"]) (ix:=[2,1,3]) (tt:=(zb2 (tBl (jE (Zc P w K CF) [] E (zM (yt 1) (zM (yt 0) (zM (yt 2) (zM (yt 3) xM)))))))) (te:=(yt 0)) rfl (z6 (sc:=zh xl) rfl (by symm) (by symm) (by symm) rfl (by symm) (by symm) rfl) #[rfl,rfl] hx (yc (cl0 pb hr .nil rfl (za (pv 2) zd))) (λ_ _ _ _ _ _=>zA (i:=0) (show List.Nodup [_,_,_,_] by decide) rfl (.inl rfl)) (λ_ _ _ _ _ _ _ hx'=>(VF (zY (yK (clP hx' pB hr .nil rfl (za (pv 1) (za (pv 0) (za (pv 2) (za (pv 3) zd))))) (λ_=>rfl))))) (λ_ _ _ _ _ _ _ _=>(pv 0))))))),?_]
  have s16:=zP;have s16:=zP;obtain⟨dx,xs0,h1,h2,h3⟩:=id hy;refine zj (λσ H'=>Same H H'/\∃r:pX,LsA K H' r (ps.map dR)/\σ=[!!y,-~~~m,!!r,tZ]) ?_ ?_
  ·rfl'
   exact#[_,_,h1,rfl,y,o,q,ps,rfl,hy,λr H1 s1 hA hr'=>#[s1,r,hA,rfl]]
  rintro σ H1 ⟨s1,r,hA,rfl⟩:_;right;refine zj (λσ H'=>Same H H'/\LsA K H' r (ps.map dR)/\∃F:pX,H F=tZ/\H' F=tY (jo P w F (λ_=>tZ) 0)/\σ=[!!y,-~~~m,!!r,!!F]) ?_ ?_
  ·rfl'
   erw[zcX]
   intro F hF;have s2:=ze (o:=jo P w F (λ_=>tZ) 0) hF
   rfl'
   exact#[s1.trans s2,hA.same s2,F,s1.free hF,zf,rfl]
  rintro σ H2 ⟨s2,hA2,F,hF0,hF,rfl⟩:_;right
  rfl'
  refine Zz hA2.is hok λO H3 hO s3 hL=>#[O,rfl,?_,λD hD=>?_]
  ·obtain⟨xs,hX,_⟩:=hL;exact#[_,SqL.of hX]
  obtain⟨xs,hX,hI⟩:=hL;have hxl:=hI.len;rw[ac]at hxl;have hF3:=s3 _ _ hF;have s03:=s2.trans s3;have hDF:D≠F:=λz=>by rw[z,hF3]at hD;cases hD
  have hOF:O≠F:=λz=>by rw[z,hF3]at hX;cases hX
  have back:∀{G:Hp},SamT F H3 G->Same H G:=λ{G} sT b o' e=>sT b o' (λz=>by rw[z,hF0]at e;cases e) (s03 b o' e);refine CompL.by (xs:=xs) (λi Ae H'=>SamT F H3 H'/\H' D=tY (.lst Ae)/\(∃(mp:re->Option V) (n:Nat),H' F=tY (jo P w F mp n)/\FmOk ps (m:Nat) mp/\n<=2 * i)/\Iss K H3 ((((ovA ps ps.length).take i).filter λt=>!Ju ps m t).map d3) Ae/\∀t ∈ (ovA ps ps.length).take i,OkG ps m t) #[SamT.of (ze hD),zf,#[_,0,by rw[zp (λz=>hDF z.symm)];exact hF3,FmOk.nil,⋯],by erw[bE,da,aM,Iss],λt ht=>by simp at ht] (λi Ae H' _ h=>SqL.of (h.1 _ _ hOF hX)) ?_ ?_
  ·refine nm4 ?_;rintro i x Ae H' hx ⟨sT,hH,⟨mp,n,hFm,hM,hn⟩,hI',hle⟩:_;have hil:=(Af.mp hx).1;obtain⟨t,p,ht,rfl,hp⟩:=hI.get3 hx;have htm:=af ht;have hE':=hE.2 t htm
   have hal:Ae.length<=i:=by
    have:=hI'.len;rw[ac]at this;have h5:=cM (λt=>!Ju ps m t) ((ovA ps ps.length).take i);rw[aI]at h5;lia
   right
   erw[zb2,tBl]
   rfl'
   refine#[xZ,r,p,F,ps,t,(m:Nat),n,mp,_,_,rfl,Wd sT hF3 (hA2.same s3),hN,hok,qM sT hF3 hp,htm,hFm,hM,⋯,UW hE'.1 hE.1,UW hE'.2 hE.1,λJ1 J2 mp' n' H5 e1 e2 s5 hF5 hM5 hn5=>?_,λh H5 s5=>k2 t htm (zcj h) H5 (back (sT.trans s5))]
   have hle':∀t' ∈ (ovA ps ps.length).take (i+1),OkG ps m t':=λt' ht'=>by
    rw[zN ht]at ht';rcases Ai.mp ht' with h | h
    ·exact hle t' h
    ·rw[Aj.mp h];exact#[by rw[e1];rfl,by rw[e2];rfl]
   rw[zbx e1 e2]
   have hcase:∀b,Ju ps m t=b->(!b)=Aa->Iss K H3 ((((ovA ps ps.length).take (i+1)).filter λt=>!Ju ps m t).map d3) (Ae ++ [.ref p]):=λb hb hb'=>by
    rw[zN ht,cK,ax];refine Iss.append hI' ?_;rw[eL,hb,if_pos hb']
    erw[da,ao,aM,Iss]
    refine#[_,[],rfl,?_,rfl]
    erw[d3,Is,Iss]
    exact#[p,_,rfl,hp,_,_,rfl,rfl,_,_,rfl,rfl,_,_,rfl,rfl,rfl]
   refine#[_,rfl,?_]
   cases hb:Ju ps m t with
   | false =>
    rw[if_pos rfl];refine#[s5 _ _ hDF hH,⋯,CNx.mk hil #[λb o' hbF e=>?_,zf,#[mp',n',by rw[zp (λz=>hDF z.symm)];exact hF5,hM5,⋯],hcase _ hb rfl,hle']];rw[zp (λz=>by rw[z,hD]at e;cases e)];exact s5 b o' hbF (sT b o' hbF e)
   | true =>
    rw[if_neg ∅];refine CNx.mk hil #[sT.trans s5,s5 _ _ hDF hH,#[mp',n',hF5,hM5,⋯],?_,hle'];rw[zN ht,cK,eL,hb]
    erw[d5,br,if_false,da,aP]
    exact hI'
  ·rintro Ae H' ⟨sT,hH,_,hI',hle⟩;rw[hxl,aO]at hI' hle;exact k1 hle D H' (back sT) (s03.free hD) #[Ae,hH,Ys sT hF3 hI']
theorem zah{p:pX}{a b:V}{i j:Nat}{σ:L2.St}{R:L2.St->Hp->Prop}(h:SqT K H p [a,b])(k:R ((σ.set i (tY a)).set j (tY b)) H):zb1 K 2 (ZH (yD i) (ZH (yD j) zb0)) (.ref p) σ H R:=by
 erw[zb1,ZH,yD,zb0]
 first
 | exact⟨_,_,rfl,h,rfl,_,_,rfl,_,_,rfl,rfl,k⟩
 | exact⟨_,_,rfl,.inr h,rfl,_,_,rfl,_,_,rfl,rfl,k⟩
theorem EnsA.app{fs:List Ent}{us:List V}(hf:EnsA K H fs us):∀{es:List Ent} {vs:List V},EnsA K H es vs->EnsA K H (es ++ fs) (vs ++ us)
 | [],vs,h=>by
  erw[EnsA]at h
  subst h;exact hf
 | e::es,vs,h=>by
  erw[EnsA]at h
  obtain⟨x,r,rfl,hx,hr⟩:=h
  erw[bh,EnsA]
  exact#[x,r ++ us,rfl,hx,hf.app hr]
abbrev MkS(P:rb)(w:rf)(K:pW)(mg:re->Option pY)(base:rj)(CO CR CW CT CH:pX):Prop:=DMk P w K mg base (CXx P w) 5 CH ["self","order","rules"] (uZ K CO CR CW CT CH)
theorem zbH{Q:pX->Hp->Prop}{CO CR CW CT CH o a:pX}{l:()}(ho:OrdAt CO CR CW H o k l ns)(hG:OG l ns k)(hA:LsA K H a (ps.map dR))(hin:InL l ps)(hf:wA k l ns ps 0=tZ)(q:∀(y qa:pX) (H':Hp),Same H H'->JB K CH H' y o qa ps->Q y H'):∀x dx,H x=tZ->H dx=tZ->dx≠x->uZ K CO CR CW CT CH [.ref x,.ref o,.ref a] (upd (upd H dx (.own x)) x (.ins CH dx [])) (λv H'=>v=.non/\Q x H') E0:=by
 intro x dx hx hdx hne;obtain⟨xs,hX,hI⟩:=hA;have sd:=ze (o:=.own x) hdx
 have k1:Same H (upd (upd H dx (.own x)) x (.ins CH dx [])):=λb' o' e=>by
  rw[zp (zJ e hx)];exact sd _ _ e
 refine#[x,dx,o,a,k,l,ns,ps,xs,rfl,zf,ho.same k1,hG,k1 _ _ hX,Iss.same k1 _ _ hI,hin,(λi e=>by rw[hf]at e;cases e),λ_ q1 H'' kp hx' hq' hqn=>#[rfl,?_]];have k3:Same H H'':=λb' o' e=>kp b' o' (λz=>by rw[z,hx]at e;cases e) (k1 _ _ e);exact q x q1 H'' k3 #[dx,xs,hx',hq',Iss.same k3 _ _ hI]
theorem BG.inL{l:()}(h:BG k l ns bs):InL l (zb bs):=λp hp=>by
 obtain⟨e,he,rfl⟩:=Ag.mp hp;have b:=h.e e he;exact#[aK b.a ∅,aK b.b ∅,b.ma,b.mb]
theorem BG.fault{l:()}(h:BG k l ns bs):wA k l ns (zb bs) 0=tZ:=um λm p e=>by
 obtain⟨e',he,rfl⟩:=Ag.mp (af e);exact h.lt e' he
def Wu(K:pW)(CO CR CW CH:pX):Sp:=λvs H Q _=>∃(o a:pX) (k:Nat) (l:()) (ns:List Int) (bs:List Ent),vs=[.ref o,.ref a]/\OrdAt CO CR CW H o k l ns/\OG l ns k/\EnsL K H a bs/\BG k l ns bs/\∀(y qa:pX) (H':Hp),Same H H'->JB K CH H' y o qa (zb bs)->Q (.ref y) H'
theorem Yk:sQz 2 ["order","entries"] vg:=by nofun
theorem Yg{f CO CR CW CT CH:pX}(B:Bt mg)(TS:zcO K mg CH)(MS:MkS P w K mg base CO CR CW CT CH)(F:("system_by"^^^vg))(gf:(1<<<"pairs_of") ["entries"] [] (xX K)):(7&&&["order","entries"]) (Wu K CO CR CW CH):=by
 exists F.ok Yk
 ·obtain⟨o,a,k,l,ns,bs,rfl,ho,hG,hA,hB,q⟩:=h;refine#[_,(zc (zk (zfc xe0 MS hr rfl TS.g (za (pv 0) (za (cl0 gf hr .nil rfl (za (pv 1) zd)) zd))))),?_];have s16:=zP;ac_rfl;refine xI hA.is (by have:=hB.n;lia) λD H' _ s' hL=>?_;exact zbH (ho.same s') hG hL hB.inL hB.fault λy qa H'' s'' hy=>q y qa H'' (s'.trans s'') hy
noncomputable def fE(i:Nat)(p:zq):Ent:=(p.1,p.2,[((i:Int),(0:Int),Aa)])
noncomputable def fEs(rs:List zq):Nat->List Ent
 | 0=>[]
 | n+1=>fEs rs n ++ ((rs[n]?).map (fE n)).toList
theorem Jf{p:zq}(h:rs[n]? = tY p):fEs rs (n+1)=fEs rs n ++ [fE n p]:=by
 show fEs rs n ++ ((rs[n]?).map (fE n)).toList=_;rw[h];rfl
theorem Um(rs:List zq):∀n,(fEs rs n).length<=n
 | 0=>al _
 | n+1=>by
  have:=Um rs n;show (fEs rs n ++ ((rs[n]?).map (fE n)).toList).length<=_;rw[ak]
  cases rs[n]? with
  | none=>simp;lia
  | some p=>simp;lia
theorem qX:∀{n:Nat} {e:Ent},e ∈ fEs rs n->∃i p,i<n/\rs[i]? = tY p/\e=fE i p
 | 0,e,h=>(nomatch h)
 | n+1,e,h=>by
  have h':e ∈ fEs rs n ++ ((rs[n]?).map (fE n)).toList:=h;rcases Ai.mp h' with h | h
  ·obtain⟨i,p,hi,hp,he⟩:=qX h;exact#[i,p,⋯,hp,he]
  ·cases hn:rs[n]? with
   | none=>rw[hn]at h;simp at h
   | some p =>
    rw[hn]at h;exact#[n,p,⋯,hn,by simpa using h]
def X4(K:pW):Sp:=λvs H Q _=>∃(a:pX) (rs:List zq),vs=[.ref a]/\LsA K H a (rs.map dR)/\rs.length<=20/\∀(D:pX) (H':Hp),Same H H'->H D=tZ->EnsM K H' D (fEs rs rs.length)->Q (.ref D) H'
theorem uO:sQz 1 ["pacts"] yF:=by nofun
theorem uN(B:Bt mg)(F:("first_entries"^^^yF)) :(1&&&["pacts"]) (X4 K):=by
 exists F.ok uO
 ·obtain⟨a,rs,rfl,hA,hrl,q⟩:=h;refine#[_,(zc (zk (xY (g:=zb1 K 2 (ZH (yD 0) (ZH (yD 1) zb0))) (own:=["number","pact"]) (caps:=[]) (ix:=[]) (tt:=vS) (te:=(Q1 (zM (tOp (jl K) (yt 1) (tC (.int 0))) (zM (tOp (jl K) (yt 1) (tC (.int 1))) (zM (zcy (zM (Q1 (zM (yt 0) (zM (tC (.int 0)) (zM (tC (.bl Aa)) xM)))) xM)) xM))))) rfl (z6 (sc:=zh yF) rfl (by symm) (by symm) (by symm) rfl (by symm) (by symm) rfl) (wL rfl B.enum (za (pv 0) zd)) (λ_ _ _ _ _ _=>uE (n:=2) rfl (z5 (zA (i:=0) (show List.Nodup [_,_] by decide) rfl (.inl rfl)) (z5 (zA (i:=1) (show List.Nodup [_,_] by decide) rfl (.inl rfl)) wF))) (λ_ _ _ _ _ _=>y0) (λ_ _ _ _ _ _=>(zW (za (zo ix_tup (pv 1) zg) (za (zo ix_tup (pv 1) zg) (za (xj (za (zW (za (pv 0) (za zg (za yQ zd)))) zd)) zd)))))))),?_];have s16:=zP;have s16:=zP;obtain⟨xs,hX,hI⟩:=id hA;have hxl:=hI.len;rw[ac]at hxl;ac_rfl;rw[zcK];ac_rfl;refine#[#[_,SqL.of hX],λD hD=>CompEL.by (xs:=xs) (λi Ae H'=>Same H H'/\H' D=tY (.lst Ae)/\Ae.length<=i/\EnsA K (jA D H') (fEs rs i) Ae) #[ze hD,zf,al _,rfl] (λi Ae H' _ h=>SqL.of (h.1 _ _ hX)) ?_ ?_]
  ·rintro i x Ae H' p hx ⟨hs,hH,hal,hEn⟩ hp;have hil:=(Af.mp hx).1;obtain⟨r,pr,hri,rfl,hqr⟩:=hI.getR hx;have u1:=ze (o:=HO.tup [.int (i:Nat),.ref pr]) hp;have hq:=zr (hs.trans u1) hqr;refine zah (SqT.of zf) ?_
   erw[vS]
   rfl'
   refine#[zct,_,hq,_,rfl,_,hq,_,rfl,⋯,λp1 hp1=>#[⋯,λp2 hp2=>#[⋯,λp3 hp3=>?_]]];have u2:=ze (o:=HO.tup [.int (i:Nat),.int 0,.bl Aa]) hp1;have u3:=ze (o:=HO.lst [.ref p1]) hp2;have u4:=ze (o:=HO.tup [.str (tx r.1),.str (tx r.2),.ref p2]) hp3;have u:=u1.trans (u2.trans (u3.trans u4));have hD4:=u _ _ hH;have hp2D:p2≠D:=λz=>by rw[z,u2 _ _ (u1 _ _ hH)]at hp2;cases hp2
   refine#[hD4,⋯,CNx.mk hil #[zH (hs.trans u) hD,zf,by rw[ak];erw[aB,cu];lia,?_]];rw[Jf hri];refine (hEn.same ((wE u).trans y6)).snoc (EnA.same ?_ y6);refine EnA.new (e:=fE i r) hD4 zf #[_,u4 _ _ zf,?_] hp2D;show Iss K _ [dSt ((i:Int),(0:Int),Aa)] _;exact zbl (Wg (SqT.of (u4 _ _ (u3 _ _ zf))))
  ·rintro Ae H' ⟨hs,hH,hal,hEn⟩;rw[hxl]at hEn;exact q D H' hs hD #[Ae,hH,hEn.same wk]
noncomputable def jc(es:List Ent):Bool:=decide (12<es.length) || es.any λe=>decide (10<max e.1.length e.2.1.length)
structure TMc(mg:re->Option pY):Prop where
 u:∃t,mg "MOST_USES_completing" = tY (.int 40 t)
 e:∃t,mg "MOST_ENTRIES" = tY (.int 12 t)
 d:∃t,mg "MOST_SIDE_completing" = tY (.int 10 t)
 p:∃t,mg "MOST_PEAKS" = tY (.int 8 t)
def ZE(K:pW):Sp:=λvs H Q _=>∃(a:pX) (es:List Ent),vs=[.ref a]/\EnsL K H a es/\es.length<64/\(∀e ∈ es,e.1.length<=10000/\e.2.1.length<=10000)/\∀H',Same H H'->Q (.bl (jc es)) H'
theorem ZR:sQz 1 ["entries"] xW:=by nofun
theorem Z8(B:Bt mg)(hany:zfu mg)(TM:TMc mg)(F:("is_beyond"^^^xW)) :(1&&&["entries"]) (ZE K):=by
 obtain⟨⟨t9,g9⟩,⟨t8,g8⟩⟩:=And.intro TM.e TM.d
 exists F.ok ZR
 ·obtain⟨a,es,rfl,hA,hl,hE,q⟩:=h
  refine#[_,(zi (zK (zx Ux (zD B.len (pv 0)) (yw (v:=.int 12) rfl g9 #[t9,rfl]) (zB _))
    (zc (zk yQ))
    zt)
   (zc (zk (yW (zdT rfl) rfl hany PyProof.Rows.boot_any (za (xY (own:=["entry"]) (caps:=[]) (ix:=[]) (tt:=vS) (te:=(tOp zdE (tCB Jr (zM (tCB (Vd K) (zM (tOp (jl K) (yt 0) (tC (.int 0))) xM)) (zM (tCB (Vd K) (zM (tOp (jl K) (yt 0) (tC (.int 1))) xM)) xM))) (tC (.int 10)))) rfl (z6 (sc:=zh xW) rfl (by symm) (by symm) (by symm) rfl (by symm) (by symm) rfl) (yc (pv 0)) (λ_ _ _ _ _ _=>zA (i:=0) (show List.Nodup [_] by decide) rfl (.inl rfl)) (λ_ _ _ _ _ _=>y0) (λ_ _ _ _ _ _=>(yE Ux (yW (XV rfl) rfl B.max vX (za (zD B.len (zo ix_tup (pv 0) zg)) (za (zD B.len (zo ix_tup (pv 0) zg)) zd))) (yw (v:=.int 10) rfl g8 #[t8,rfl]) (zB _)))) zd))))),?_]
  have s16:=zP;have s16:=zP;obtain⟨xs,hX,hEn⟩:=id hA;have hxl:=hEn.len;refine zj (λσ H'=>H'=H/\¬ 12<es.length/\σ=[!!a]) ?_ ?_
  ·ac_rfl;refine#[_,.inl #[_,hX,rfl],yo (λh=>?_) λh=>by lia]
   have e:jc es=Aa:=by
    unfold jc;rw[decide_eq_true ⋯,Bool.true_or]
   rw[<- e];exact q H (Same.refl _)
  rintro σ H1 ⟨rfl,h12,rfl⟩:_;right;ac_rfl;refine#[#[_,hX],λD hD=>CompL.by (xs:=xs) (λi Ae H'=>Same H1 H'/\H' D=tY (.lst Ae)/\Ae=((es.take i).map λe=>decide (10<max e.1.length e.2.1.length)).map V.bl) #[ze hD,zf,rfl] (λi Ae H' _ h=>h.1.seq hX) ?_ ?_]
  ·refine nm4 ?_;rintro i x Ae H' hx ⟨hs,hH,rfl⟩:_;have hil:=(Af.mp hx).1;obtain⟨e,p,s,he,rfl,hp,_⟩:=hEn.get hx;have hq:=zr hs hp;have hb:=hE e (af he);right
   erw[vS]
   rfl'
   refine#[xZ,_,hq,_,rfl,_,#[by rw[zX];lia,rfl],_,hq,_,rfl,_,#[by rw[zX];lia,rfl],hH,by rw[ac,ac,aI];lia,CNx.mk hil #[zH hs hD,zf,?_]];rw[zN he,ax,ax,zX,zX];congr 1;show [V.bl _]=[V.bl _];congr 2;refine decide_eq_decide.mpr ?_;split <;> lia
  ·rintro Ae H' ⟨hs,hH,rfl⟩;rw[hxl,aO]at hH;refine#[D,_,rfl,SqL.of hH,?_]
   have e:(es.map λe=>decide (10<max e.1.length e.2.1.length)).any id=jc es:=by
    unfold jc;rw[decide_eq_false h12,Bool.false_or,List.any_map];rfl
   rw[e];exact q H' hs
theorem YK(h:jc es=Ab):es.length<=12/\∀e ∈ es,e.1.length<=10/\e.2.1.length<=10:=by
 unfold jc at h;rw[Bool.or_eq_false_iff]at h;refine#[by have:=of_decide_eq_false h.1;lia,λe he=>?_];have:=List.any_eq_false.mp h.2 e he;have h2:¬ 10<max e.1.length e.2.1.length:=λz=>this (decide_eq_true z);lia
def KY(K:pW)(CO CR CW T:pX):Sp:=λvs H Q _=>∃(o a:pX) (k:Nat) (l:()) (ns:List Int) (es:List Ent),vs=[.ref o,.ref a]/\OrdAt CO CR CW H o k l ns/\OG l ns k/\EnsL K H a es/\es.length<64/\(∀e ∈ es,EB l e)/\TabOk H T lp lq /\
 (∀(bs:List Ent) (D:pX) (H':Hp),v0 k l ns 20 es (tY bs)->BG k l ns bs->jc bs=Ab->SamT T H H'->TabOk H' T lp lq->EnsM K H' D bs->Q (.ref D) H')/\((v0 k l ns 20 es tZ\/∃bs,v0 k l ns 20 es (tY bs)/\jc bs=Aa)->∀H',SamT T H H'->TabOk H' T lp lq->Q .non H')
structure zey(K:pW)(CF:pX):Prop where
 s:cS K (.ref CF) (.ref CF)=tY Aa
theorem lA:sQz 2 ["order","entries","slim"] yT:=by nofun
theorem uj{f CO CR CW TB CF:pX}(B:Bt mg)(TFx:zas K mg CF)(TSb:zey K CF)(F:("thinned_within"^^^yT))(pj:(7>>>"thinned") ["order","entries"] [] (VO K CO CR CW TB CF))(oW:(1<<<"is_beyond") ["entries"] [] (ZE K)):(8&&&["order","entries"]) (KY K CO CR CW TB):=by
 exists F.ok lA
 ·obtain⟨o,a,k,l,ns,es,rfl,ho,hG,hA,hz,hE,hTab,q1,q2⟩:=h
  refine#[_,(zi (Jz (i:=2) (th:=(Kt (tC .non))) lA.nd rfl (.inl rfl) (.inl rfl) #[rfl,rfl] (clX pj hr .nil rfl (za (pv 0) (za (pv 1) zd))) rfl TFx.g TFx.xi.ok (λe=>(zc (zk z7))))
   (zc (zk (wM (yK (cl0 oW hr .nil rfl (za (pv 2) zd)) (λ_=>rfl)) z7 (pv 2))))),?_]
  have s16:=zP;have s16:=zP;refine zj (λσ H'=>SamT TB H H'/\TabOk H' TB lp lq/\∃(bs:List Ent) (D:pX),v0 k l ns 20 es (tY bs)/\BG k l ns bs/\EnsM K H' D bs/\σ=[!!o,!!a,!!D]) ?_ ?_
  ·erw[K3]
   ac_rfl;exact#[o,a,k,l,ns,es,rfl,ho,hG,hA,hz,hE,hTab,λbs D H' h1 h2 h3 h4 h5=>#[h3,h4,bs,h1,h2,D,h5,rfl],λh H' h3 h4=>#[CF,rfl,TSb.s,λx hx=>q2 (.inl h) _ (h3.trans (SamT.of (ze hx))) (h4.same (ze hx))]]
  rintro σ H1 ⟨s1,hT1,bs,D,hTh,hB,hM,rfl⟩:_;right;ac_rfl;exact#[D,bs,rfl,hM.l,hB.n,λe he=>#[aK (hB.e e he).a ∅,aK (hB.e e he).b ∅],λH' s'=>#[_,rfl,yo (λh=>q2 (.inr #[bs,hTh,h]) H' (s1.trans (SamT.of s')) (hT1.same s')) λh=>q1 bs D H' hTh hB (by simpa using h) (s1.trans (SamT.of s')) (hT1.same s') (hM.same s')]]
theorem uV(w:())(k:Int)(o n:()):(yP w k o n).length<=w.length+n.length:=by
 unfold yP;rw[ak,ak,aI,bg];lia
theorem BG.ok{l:()}(h:BG k l ns bs)(hl:bs.length<=30):kR (zb bs):=by
 refine#[by unfold zb;rw[ac];exact hl,λr hr=>?_];obtain⟨e,he,rfl⟩:=Ag.mp hr;exact#[aK (h.e e he).a ∅,aK (h.e e he).b ∅]
theorem zdm(hok:∀r ∈ ps,r.1.length<=60/\r.2.length<=60){t:N3}(ht:t ∈ ovA ps ps.length):(pkA ps t).length<=180/\(pkB ps t).length<=180:=by
 obtain⟨i1,i2,i3,i4⟩:=qY ht;obtain⟨r,hr⟩:∃r,ps[t.1]? = tY r:=#[_,ae i1];obtain⟨r2,hr2⟩:∃r,ps[t.2.1]? = tY r:=#[_,ae i2];have l1:=vJ hr;have l2:=vJ hr2;have d1:ps.getD t.1 ([],[])=r:=by rw[aa,hr];rfl
 have d2:ps.getD t.2.1 ([],[])=r2:=by rw[aa,hr2];rfl
 rw[l1]at i3;have b1:=hok r (af hr);have b2:=hok r2 (af hr2);have hp:=vB r.1 r2.1 t.2.2 ⋯;have p1:=uV (yk r.1 r2.1 t.2.2) 0 r.1 r.2;have p2:=uV (yk r.1 r2.1 t.2.2) (t.2.2:Nat) r2.1 r2.2;unfold pkA pkB;rw[l1,l2,d1,d2];lia
theorem zb8(hN:NeL ps)(hok:∀r ∈ ps,r.1.length<=60/\r.2.length<=60):zfe ps 40:=by
 refine#[∅,λt ht=>?_];obtain⟨h1,h2⟩:=zdm hok ht
 have key:∀(v:()),v.length<=180->∀j,j<=40->(wAt ps v j).length<=10000:=λv hv j hj=>by
  have:=qH (l:=v) hN (λp hp=>(hok p hp).2) j;have h3:j * 60<=40 * 60:=df hj (al _);lia
 exact#[key _ h1,key _ h2]
def KN(K:pW)(CO CR CW:pX):Sp:=λvs H Q _=>∃(o a:pX) (k:Nat) (l:()) (ns:List Int) (bs:List Ent),vs=[.ref o,.ref a]/\OrdAt CO CR CW H o k l ns/\OG l ns k/\EnsL K H a bs/\BG k l ns bs/\bs.length<=30/\(ovA (zb bs) (zb bs).length).length<=4000 /\
 ((∀t ∈ ovA (zb bs) (zb bs).length,OkG (zb bs) 40 t)->∀D H',Same H H'->LsA K H' D ((unG (zb bs) 40).map d3)->Q (.ref D) H')/\(∀t ∈ ovA (zb bs) (zb bs).length,¬ OkG (zb bs) 40 t->∀H',Same H H'->Q .non H')
theorem qv:sQz 2 ["order","entries"] xp:=by nofun
theorem jb{f CO CR CW CF CH:pX}{mr:tu}(B:Bt mg)(TFx:zas K mg CF)(TSb:zey K CF)(TM:TMc mg)(F:("unmet_within"^^^xp))(pJ:(7>>>"unmet") ["system","most"] [] (vC K CH CF))(DD_unmet:(7>>>"unmet") ["system","most"] [.int 4000 mr] (vC K CH CF))(oX:(7<<<"system_by") ["order","entries"] [] (Wu K CO CR CW CH)):(9&&&["order","entries"]) (KN K CO CR CW):=by
 obtain⟨t9,g9⟩:=TM.u
 exists F.ok qv
 ·obtain⟨o,a,k,l,ns,bs,rfl,ho,hG,hA,hB,hbl,hol,q1,q2⟩:=h;refine#[_,(zc (Wx (th:=(Kt (tC .non))) #[rfl,rfl] (clX pJ hr .nil rfl (za (cl0 oX hr .nil rfl (za (pv 0) (za (pv 1) zd))) (za (yw (v:=.int 40) rfl g9 #[t9,rfl]) zd))) rfl TFx.g TFx.xi.ok (λe=>(zc (zk z7))))),?_];have s16:=zP;have s16:=zP
  erw[Qh]
  ac_rfl
  have hsd:∀r ∈ zb bs,r.1.length<=60/\r.2.length<=60:=λr hr=>by
   obtain⟨e,he,rfl⟩:=Ag.mp hr;exact#[(hB.e e he).a,(hB.e e he).b]
  exact#[o,a,k,l,ns,bs,rfl,ho,hG,hA,hB,λy qa H' s' hy=>#[y,o,qa,zb bs,40,rfl,hy,hB.ne hG,hB.ok hbl,hol,zb8 (hB.ne hG) hsd,λh D H'' s'' _ hL=>q1 h D H'' (s'.trans s'') hL,λt ht h H'' s''=>#[CF,rfl,TSb.s,λx hx=>q2 t ht h _ (s'.trans (s''.trans (ze hx)))]]]
noncomputable def jw(es:List Ent)(t:N3):Ent:=(pkA (zb es) t,pkB (zb es) t,byL es [((t.1:Int),(0:Int),Ab),((t.2.1:Int),(t.2.2:Int),Aa)])
def j4(K:pW):Sp:=λvs H Q _=>∃(a t:pX) (es:List Ent) (tr:N3),vs=[.ref a,.ref t]/\EnsL K H a es/\SqT K H t [.int (tr.1:Nat),.int (tr.2.1:Nat),.int (tr.2.2:Nat)]/\tr ∈ ovA (zb es) (zb es).length/\kR (zb es)/\(∀e ∈ es,e.2.2.length<=600)/\∀(p s:pX) (H':Hp),Same H H'->H' p=tY (.tup [.str (tx (jw es tr).1),.str (tx (jw es tr).2.1),.ref s])->LsA K H' s ((jw es tr).2.2.map dSt)->H s=tZ->Q (.ref p) H'
theorem mh:sQz 2 ["entries","overlap","sides","steps"] uk:=by nofun
theorem Xf(B:Bt mg)(F:("entry_of"^^^uk))(oO:(4<<<"peak") ["rules","overlap"] [] (Zs K))(gK:(2<<<"by_pacts") ["entries","steps"] [] (QG K))(gf:(1<<<"pairs_of") ["entries"] [] (xX K)):(5&&&["entries","overlap"]) (j4 K):=by
 exists F.ok mh
 ·obtain⟨a,t,es,tr,rfl,hA,ht,htr,hok,hst,q⟩:=h
  refine#[_,(zi (zC 2 mh.nd (cl0 oO hr .nil rfl (za (cl0 gf hr .nil rfl (za (pv 0) zd)) (za (pv 1) zd))))
   (zi (zC 3 mh.nd (cl0 gK hr .nil rfl (za (pv 0) (za (xj (za (zW (za (zo ix_tup (pv 1) zg) (za zg (za yQ zd)))) (za (zW (za (zo ix_tup (pv 1) zg) (za (zo ix_tup (pv 1) zg) (za yQ zd)))) zd))) zd))))
   (zc (zk (zW (za (zo ix_tup (pv 2) zg) (za (zo ix_tup (pv 2) zg) (za (pv 3) zd)))))))),?_]
  have s16:=zP;have s16:=zP;have hlp:(zb es).length=es.length:=by unfold zb;rw[ac]
  obtain⟨i1,i2,i3,i4⟩:=qY htr;obtain⟨r,hr1⟩:∃r,(zb es)[tr.1]? = tY r:=#[_,ae i1];obtain⟨r2,hr2⟩:∃r,(zb es)[tr.2.1]? = tY r:=#[_,ae i2];have l1:=vJ hr1;have l2:=vJ hr2;have d1:(zb es).getD tr.1 ([],[])=r:=by rw[aa,hr1];rfl
  have d2:(zb es).getD tr.2.1 ([],[])=r2:=by rw[aa,hr2];rfl
  have eA:pkA (zb es) tr=yP (yk r.1 r2.1 tr.2.2) 0 r.1 r.2:=by unfold pkA;rw[l1,l2,d1]
  have eB:pkB (zb es) tr=yP (yk r.1 r2.1 tr.2.2) (tr.2.2:Nat) r2.1 r2.2:=by unfold pkB;rw[l1,l2,d2]
  rw[l1]at i3;rw[l1,l2]at i4;refine zj (λσ H'=>Same H H'/\∃p:pX,(∃x,H' p=tY (.tup [x,.str (tx (pkA (zb es) tr)),.str (tx (pkB (zb es) tr))]))/\σ=[!!a,!!t,!!p,tZ]) ?_ ?_
  ·rfl'
   refine xI hA.is (by have:=hok.1;lia) λD H1 _ s1 hL=>?_;exact XM hL.is (zr s1 ht) hok hr1 hr2 ⋯ i4 λp H' _ s' hp=>#[s1.trans s',p,#[_,by rw[eA,eB];exact hp],rfl]
  rintro σ H1 ⟨s1,p,⟨x,hp⟩,rfl⟩:_;right;refine zj (λσ H'=>Same H1 H'/\∃S:pX,H S=tZ/\LsA K H' S ((jw es tr).2.2.map dSt)/\σ=[!!a,!!t,!!p,!!S]) ?_ ?_
  ·have ht1:=zr s1 ht
   rfl'
   refine#[_,ht1,_,rfl,⋯,λp1 hp1=>?_];have u1:=ze (o:=HO.tup [.int (tr.1:Nat),.int 0,.bl Ab]) hp1;refine#[_,zr u1 ht1,_,rfl,_,zr u1 ht1,_,rfl,⋯,λp2 hp2=>#[⋯,λp3 hp3=>?_]];have u2:=ze (o:=HO.tup [.int (tr.2.1:Nat),.int (tr.2.2:Nat),.bl Aa]) hp2;have u3:=ze (o:=HO.lst [.ref p1,.ref p2]) hp3;have u:=u1.trans (u2.trans u3);refine Wa (us:=[((tr.1:Int),(0:Int),Ab),((tr.2.1:Int),(tr.2.2:Int),Aa)]) (hA.same (s1.trans u)).is (LsA.is #[_,zf,?_]) (by simp) hst (λv hv=>?_) λD H' hDn s' hL=>#[u.trans s',D,(s1.trans u).free hDn,hL,rfl]
   ·erw[ao,aM,Iss]
    exact#[_,_,rfl,Wg (SqT.of (u3 _ _ (u2 _ _ zf))),_,_,rfl,Wg (SqT.of (u3 _ _ zf)),rfl]
   ·erw[fw,eN,or_false]at hv
    rcases hv with rfl | rfl
    ·exact#[by simp,by show (tr.1:Int)<_;lia]
    ·exact#[by simp,by show (tr.2.1:Int)<_;lia]
  rintro σ H2 ⟨s2,S,hSn,hS,rfl⟩:_;right
  rfl'
  exact#[_,SqT.of (s2 _ _ hp),_,rfl,_,SqT.of (s2 _ _ hp),_,rfl,⋯,λp' hp'=>q p' S _ (s1.trans (s2.trans (ze hp'))) zf (hS.same (ze hp')) hSn]
theorem JA{l:()}(h:¬ qc e):¬ qc (zQ k l ns e):=by
 unfold zQ;split
 ·exact h
 ·unfold qc at h ⊢;rw[ym];show ¬ (240<e.2.2.length\/60<e.2.1.length\/60<e.1.length);lia
theorem Vl{l:()}{bs es:List Ent}{r:Option (List Ent)}(h:yS k l ns bs es r):(∀e ∈ bs,¬ qc e)->∀fs,r=tY fs->∀e ∈ fs,¬ qc e:=by
 induction h with
 | nil bs=>exact λh fs e=>by cases e;exact h
 | same _ _ _ _ ih=>exact ih
 | new _ _ _ h4 _ ih =>
  intro h;refine ih λe he=>?_;rcases Ai.mp he with he | he
  ·exact h e he
  ·rw[Aj.mp he];exact JA h4
 | far _ _ _ _=>exact λ_ fs e=>by cases e
 | stuck _=>exact λ_ fs e=>by cases e
theorem qz{k n:Nat}{l:()}{r:Option (List Ent)}(h:v0 k l ns n es r):∀fs,r=tY fs->∀e ∈ fs,¬ qc e:=by
 induction h with
 | out es=>exact λfs e=>by cases e
 | bad _ _=>exact λfs e=>by cases e
 | done _ h2 _=>exact λfs e=>by cases e;exact Vl h2 (λe he=>(nomatch he)) _ rfl
 | more _ _ _ _ ih=>exact ih
theorem Qr{M:Nat}(h:∀e ∈ es,e.2.2.length<=M)(u:Stp):(X1 es u).length<=M:=by
 have hg:(es.getD u.1.toNat ([],[],[])).2.2.length<=M:=by
  rw[aa]
  cases e:es[u.1.toNat]? with
  | none=>exact aD _
  | some x=>exact h x (af e)
 unfold X1;rw[ZT];split
 ·exact hg
 ·rw[ym];exact hg
inductive Cpl(k:Nat)(l:())(ns:List Int):Nat->List Ent->List Ent->Bool->List Ent->Prop where
 | out (kept fresh:List Ent):Cpl k l ns 0 kept fresh Ab kept
 | slim {n:Nat} {kept fresh:List Ent} (h:v0 k l ns 20 fresh tZ\/∃bs,v0 k l ns 20 fresh (tY bs)/\jc bs=Aa):Cpl k l ns (n+1) kept fresh Ab kept
 | far {n:Nat} {kept fresh bs:List Ent} {t:N3} (h:v0 k l ns 20 fresh (tY bs)) (hb:jc bs=Ab) (ht:t ∈ ovA (zb bs) (zb bs).length) (ho:¬ OkG (zb bs) 40 t):Cpl k l ns (n+1) kept fresh Ab bs
 | whole {n:Nat} {kept fresh bs:List Ent} (h:v0 k l ns 20 fresh (tY bs)) (hb:jc bs=Ab) (ho:∀t ∈ ovA (zb bs) (zb bs).length,OkG (zb bs) 40 t) (hu:unG (zb bs) 40=[]):Cpl k l ns (n+1) kept fresh Aa bs
 | more {n:Nat} {kept fresh bs es:List Ent} {w:Bool} (h:v0 k l ns 20 fresh (tY bs)) (hb:jc bs=Ab) (ho:∀t ∈ ovA (zb bs) (zb bs).length,OkG (zb bs) 40 t) (hu:unG (zb bs) 40≠[]) (r:Cpl k l ns n bs (bs ++ ((unG (zb bs) 40).take 8).map (jw bs)) w es):Cpl k l ns (n+1) kept fresh w es
theorem zdu(hl:ps.length<=12)(h:∀r ∈ ps,r.1.length<=10):(ovA ps ps.length).length<=4000:=by
 have lfl:∀i,(lf ps i).length<=10:=λi=>by
  cases e:ps[i]? with
  | none=>unfold lf;rw[aa,e];exact aD _
  | some r=>rw[vJ e];exact h r (af e)
 have oI:∀i m,(ovI ps i m).length<=m * 10:=λi m=>by
  induction m with
  | zero=>exact aD _
  | succ m ih =>
   rw[u7,ak];have h1:=uR ps i m (lf ps i).length;have h2:=lfl i;lia
 have oA:∀m,(ovA ps m).length<=m * 120:=λm=>by
  induction m with
  | zero=>exact aD _
  | succ m ih =>
   rw[Zm,ak];have h1:=oI m ps.length;lia
 have:=oA ps.length;lia
theorem zdv{l:()}(hin:∀r ∈ ps,(∀c ∈ r.1,c ∈ l)/\∀c ∈ r.2,c ∈ l)(h10:∀r ∈ ps,r.1.length<=10/\r.2.length<=10){t:N3}(ht:t ∈ ovA ps ps.length):((pkA ps t).length<=40/\∀c ∈ pkA ps t,c ∈ l)/\(pkB ps t).length<=40/\∀c ∈ pkB ps t,c ∈ l:=by
 obtain⟨i1,i2,i3,i4⟩:=qY ht;obtain⟨r,hr⟩:∃r,ps[t.1]? = tY r:=#[_,ae i1];obtain⟨r2,hr2⟩:∃r,ps[t.2.1]? = tY r:=#[_,ae i2];have l1:=vJ hr;have l2:=vJ hr2;have d1:ps.getD t.1 ([],[])=r:=by rw[aa,hr];rfl
 have d2:ps.getD t.2.1 ([],[])=r2:=by rw[aa,hr2];rfl
 rw[l1]at i3;have b1:=h10 r (af hr);have b2:=h10 r2 (af hr2);have n1:=hin r (af hr);have n2:=hin r2 (af hr2);have hp:=vB r.1 r2.1 t.2.2 ⋯;have p1:=uV (yk r.1 r2.1 t.2.2) 0 r.1 r.2;have p2:=uV (yk r.1 r2.1 t.2.2) (t.2.2:Nat) r2.1 r2.2
 have hw:∀c ∈ yk r.1 r2.1 t.2.2,c ∈ l:=λc hc=>by
  unfold yk at hc;rcases Ai.mp hc with h | h
  ·exact n1.1 c h
  ·exact n2.1 c (cQ h)
 have put:∀(k:Int) (o n:()),(∀c ∈ n,c ∈ l)->∀c ∈ yP (yk r.1 r2.1 t.2.2) k o n,c ∈ l:=λk o n hn c hc=>by
  unfold yP at hc;rcases Ai.mp hc with hc | hc
  ·rcases Ai.mp hc with hc | hc
   ·exact hw c (bB hc)
   ·exact hn c hc
  ·exact hw c (cQ hc)
 unfold pkA pkB;rw[l1,l2,d1,d2];exact#[#[⋯,put _ _ _ n1.2],⋯,put _ _ _ n2.2]
theorem QR{l:()}(hB:BG k l ns bs)(hb:jc bs=Ab)(hs:∀e ∈ bs,e.2.2.length<=240){t:N3}(ht:t ∈ ovA (zb bs) (zb bs).length):EB l (jw bs t):=by
 obtain⟨b1,b2⟩:=YK hb
 obtain⟨h1,h2⟩:=zdv (l:=l) (ps:=zb bs) (λr hr=>by
  obtain⟨e,he,rfl⟩:=Ag.mp hr
  exact#[(hB.e e he).ma,(hB.e e he).mb]) (λr hr=>by
  obtain⟨e,he,rfl⟩:=Ag.mp hr
  exact b2 e he) ht
 refine#[aK h1.1 ∅,aK h2.1 ∅,?_,h1.2,h2.2];show (byL bs [((t.1:Int),(0:Int),Ab),((t.2.1:Int),(t.2.2:Int),Aa)]).length<=600;unfold byL;rw[d9,d9,List.flatMap_nil,aP,ak];have o1:=Qr hs ((t.1:Int),(0:Int),Ab);have o2:=Qr hs ((t.2.1:Int),(t.2.2:Int),Aa);lia
theorem EnsM.samT{T:pX}{H H':Hp}{ps:Array pY}{a:pX}(h:EnsM K H a es)(s:SamT T H H')(hT:H T=tY (.tbl ps)):EnsM K H' a es:=by
 obtain⟨xs,h1,h2⟩:=h;exact#[xs,s.at hT h1 (λ_ z=>by cases z),EnsA.samT s hT h2]
def zdS(K:pW)(T:pX)(H:Hp)(k:Nat)(l:())(ns:List Int)(rs:List zq)(m n:Nat)(H':Hp)(Dk Df:pX):Prop:=∃kept fresh:List Ent,SamT T H H'/\TabOk H' T lp lq/\EnsM K H' Dk kept/\EnsL K H' Df fresh/\fresh.length<64/\(∀e ∈ fresh,EB l e)/\BG k l ns kept/\∀w es,Cpl k l ns n kept fresh w es->Cpl k l ns m [] (fEs rs rs.length) w es
def KS(K:pW)(CO CR CW T:pX):Sp:=λvs H Q _=>∃(o a:pX) (k:Nat) (l:()) (ns:List Int) (rs:List zq) (m:Nat),vs=[.ref o,.ref a,.int (m:Nat)]/\OrdAt CO CR CW H o k l ns/\OG l ns k/\LsA K H a (rs.map dR)/\rs.length<=20/\InL l rs/\(∀r ∈ rs,r.1.length<=60/\r.2.length<=60)/\m<=1000/\TabOk H T lp lq/\∀(w:Bool) (es:List Ent) (p D:pX) (H':Hp),Cpl k l ns (m+1) [] (fEs rs rs.length) w es->BG k l ns es->SamT T H H'->TabOk H' T lp lq->H' p=tY (.tup [.bl w,.ref D])->EnsM K H' D es->Q (.ref p) H'
theorem gg:sQz 3 ["order","pacts","rounds","kept","fresh","turn","slim","lacking"] xP:=by nofun
theorem ZQ{f CO CR CW TB:pX}(B:Bt mg)(TM:TMc mg)(F:("completed"^^^xP))(nQ:(1<<<"first_entries") ["pacts"] [] (X4 K))(nC:(8<<<"thinned_within") ["order","entries"] [] (KY K CO CR CW TB))(oh:(9<<<"unmet_within") ["order","entries"] [] (KN K CO CR CW))(pc:(5<<<"entry_of") ["entries","overlap"] [] (j4 K)):(10&&&["order","pacts","rounds"]) (KS K CO CR CW TB):=by
 obtain⟨t9,g9⟩:=TM.p
 exists F.ok gg
 ·obtain⟨o,a,k,l,ns,rs,m,rfl,ho,hG,hA,hrl,hin,h60,hm,hTab,q⟩:=h
  refine#[_,(zi (jY (i:=3) gg.nd rfl (Or.inr rfl) (xj zd))
   (zi (zC 4 gg.nd (cl0 nQ hr .nil rfl (za (pv 1) zd)))
   (zi (zS PassesOwn.never rfl (yC rfl B.range (za (zF yj (pv 2) zg) zd)) (zA (i:=5) gg.nd rfl (.inl rfl))
    (zi (zC 6 gg.nd (cl0 nC hr .nil rfl (za (pv 0) (za (pv 4) zd))))
    (zi (zK (zx op_isN' (pv 6) z7 (zB _))
     (zc (zk (zW (za yQ (za (pv 3) zd)))))
     zt)
    (zi (jY (i:=3) gg.nd rfl (Or.inr rfl) (pv 6))
    (zi (zC 7 gg.nd (cl0 oh hr .nil rfl (za (pv 0) (za (pv 3) zd))))
    (zi (zK (zx op_isN' (pv 7) z7 (zB _))
     (zc (zk (zW (za yQ (za (pv 3) zd)))))
     zt)
    (zi (zK (zx y4 (zD B.len (pv 7)) zg (zB _))
     (zc (zk (zW (za yQ (za (pv 3) zd)))))
     zt)
    (zc (zC 4 gg.nd (zF qF (pv 3) (xY (own:=["overlap"]) (caps:=["kept"]) (ix:=[3]) (tt:=vS) (te:=(jE (j4 K) [] E0 (zM (yt 1) (zM (yt 0) xM)))) rfl (z6 (sc:=zh xP) rfl (by symm) (by symm) (by symm) rfl (by symm) (by symm) rfl) (yc (ye QP (pv 7) xn (yd (yw (v:=.int 8) rfl g9 #[t9,rfl])))) (λ_ _ _ _ _ _=>zA (i:=0) (show List.Nodup [_,_] by decide) rfl (.inl rfl)) (λ_ _ _ _ _ _=>y0) (λ_ _ _ _ _ _=>(cl0 pc hr .nil rfl (za (pv 1) (za (pv 0) zd)))))))))))))))
   (zc (zk (zW (za yQ (za (pv 3) zd)))))))),?_]
  have s16:=zP;have s16:=zP;have hTt:=hTab;obtain⟨tp,htp,_⟩:=hTt;refine zj (λσ H'=>Same H H'/\∃Dk:pX,H' Dk=tY (.lst [])/\σ=[!!o,!!a,-~~~m,!!Dk,tZ,tZ,tZ,tZ]) ?_ ?_
  ·ac_rfl;exact#[⋯,λp hp=>#[ze hp,zf]]
  rintro σ H1 ⟨s1,Dk0,hDk0,rfl⟩:_
  have hE0:∀e ∈ fEs rs rs.length,EB l e:=λe he=>by
   obtain⟨i,p,hi,hp,rfl⟩:=qX he;have h1:=h60 p (af hp);have h2:=hin p (af hp);exact#[h1.1,h1.2,by show ([((i:Int),(0:Int),Aa)]:List Stp).length<=600;simp,h2.2.2.1,h2.2.2.2]
  right;refine zj (λσ H'=>∃Df:pX,zdS K TB H k l ns rs (m+1) (m+1) H' Dk0 Df/\σ=[!!o,!!a,-~~~m,!!Dk0,!!Df,tZ,tZ,tZ]) ?_ ?_
  ·ac_rfl;exact#[a,rs,rfl,hA.same s1,hrl,λDf H' s' _ hM=>#[Df,#[[],fEs rs rs.length,SamT.of (s1.trans s'),hTab.same (s1.trans s'),#[[],s' _ _ hDk0,rfl],hM.l,by have:=Um rs rs.length;lia,hE0,#[by simp,λe he=>(nomatch he),λe he=>(nomatch he)],λw es h=>h],rfl]]
  rintro σ H2 ⟨Df0,hC0,rfl⟩:_;right;refine zj (λσ H'=>∃(Dk Df:pX) (v5 v6 v7:Option V),zdS K TB H k l ns rs (m+1) 0 H' Dk Df/\σ=[!!o,!!a,-~~~m,!!Dk,!!Df,v5,v6,v7]) ?_ ?_
  ·ac_rfl;refine#[⋯,⋯,ForR.by (λi σ H'=>∃(Dk Df:pX) (v5 v6 v7:Option V),zdS K TB H k l ns rs (m+1) (m+1 - i) H' Dk Df/\σ=[!!o,!!a,-~~~m,!!Dk,!!Df,v5,v6,v7]) #[Dk0,Df0,tZ,tZ,tZ,hC0,rfl] ?_ ?_]
   ·refine nm3 ?_;rintro i σ H' hi ⟨Dk,Df,v5,v6,v7,⟨kept,fresh,sT,hT,hK,hF,hfl,hfE,hB,hcp⟩,rfl⟩:_;have hi':i<m+1:=⋯;have en:m+1 - i=(m+1 - (i+1))+1:=⋯;rw[en]at hcp;have hTt:=hT;obtain⟨tq,htq,_⟩:=hTt;have ho':=ho.samT sT htp;right
    erw[yD,aX,aW]
    refine zj (λσ' G=>SamT TB H' G/\TabOk G TB lp lq/\(((v0 k l ns 20 fresh tZ\/∃bs,v0 k l ns 20 fresh (tY bs)/\jc bs=Aa)/\σ'=[!!o,!!a,-~~~m,!!Dk,!!Df,tY (.int (0+(i:Int))),tY (.non),v7])\/∃(bs:List Ent) (D:pX),v0 k l ns 20 fresh (tY bs)/\BG k l ns bs/\jc bs=Ab/\EnsM K G D bs/\σ'=[!!o,!!a,-~~~m,!!Dk,!!Df,tY (.int (0+(i:Int))),!!D,v7])) ?_ ?_
    ·ac_rfl;exact#[o,Df,k,l,ns,fresh,rfl,ho',hG,hF,hfl,hfE,hT,λbs D G h1 h2 h3 h4 h5 h6=>#[h4,h5,.inr #[bs,h1,h2,h3,D,h6,rfl]],λh G h4 h5=>#[h4,h5,.inl #[h,rfl]]]
    rintro σ' G1 ⟨g1,hT1,hcase⟩:_;have hK1:=hK.samT g1 htq;right;refine zj (λσ' G=>Same G1 G/\∃(bs:List Ent) (D:pX),v0 k l ns 20 fresh (tY bs)/\BG k l ns bs/\jc bs=Ab/\EnsM K G D bs/\σ'=[!!o,!!a,-~~~m,!!Dk,!!Df,tY (.int (0+(i:Int))),!!D,v7]) ?_ ?_
    ·rcases hcase with ⟨hno,rfl⟩ | ⟨bs,D,h1,h2,h3,h4,rfl⟩
     ·ac_rfl;exact#[⋯,λp hp=>q Ab kept p Dk _ (hcp _ _ (.slim hno)) hB (sT.trans (g1.trans (SamT.of (ze hp)))) (hT1.same (ze hp)) zf (hK1.same (ze hp))]
     ·ac_rfl;exact#[Same.refl _,bs,h1,h2,h3,h4]
    rintro σ' G2 ⟨s2,bs,D,hTh,hBb,hbey,hD,rfl⟩:_;right;refine zj (λσ' G=>G=G2/\σ'=[!!o,!!a,-~~~m,!!D,!!Df,tY (.int (0+(i:Int))),!!D,v7]) ?_ ?_
    ·ac_rfl
    rintro σ' G3 ⟨rfl,rfl⟩:_;have sT3:SamT TB H G3:=sT.trans (g1.trans (SamT.of s2));have hT3:=hT1.same s2;have ho3:=ho.samT sT3 htp;obtain⟨b12,b10⟩:=YK hbey;have hpl:(zb bs).length=bs.length:=by unfold zb;rw[ac]
    have hol:=zdu (ps:=zb bs) ⋯ λr hr=>by
     obtain⟨e,he,rfl⟩:=Ag.mp hr;exact (b10 e he).1
    have hnear:∀e ∈ bs,e.2.2.length<=240:=λe he=>by
     have:=qz hTh bs rfl e he;unfold qc at this;lia
    right;refine zj (λσ' G=>Same G3 G/\(((∃t ∈ ovA (zb bs) (zb bs).length,¬ OkG (zb bs) 40 t)/\σ'=[!!o,!!a,-~~~m,!!D,!!Df,tY (.int (0+(i:Int))),!!D,tY (.non)])\/∃L:pX,(∀t ∈ ovA (zb bs) (zb bs).length,OkG (zb bs) 40 t)/\LsA K G L ((unG (zb bs) 40).map d3)/\σ'=[!!o,!!a,-~~~m,!!D,!!Df,tY (.int (0+(i:Int))),!!D,!!L])) ?_ ?_
    ·ac_rfl;exact#[o,D,k,l,ns,bs,rfl,ho3,hG,hD.l,hBb,⋯,hol,λh L G s' hL=>#[s',.inr #[h,L,hL,rfl]],λt ht h G s'=>#[s',.inl #[#[t,ht,h],rfl]]]
    rintro σ' G4 ⟨s4,hcase⟩:_;right;refine zj (λσ' G=>Same G3 G/\∃L:pX,(∀t ∈ ovA (zb bs) (zb bs).length,OkG (zb bs) 40 t)/\LsA K G L ((unG (zb bs) 40).map d3)/\σ'=[!!o,!!a,-~~~m,!!D,!!Df,tY (.int (0+(i:Int))),!!D,!!L]) ?_ ?_
    ·rcases hcase with ⟨⟨t,ht,hno⟩,rfl⟩ | ⟨L,h1,h2,rfl⟩
     ·ac_rfl;exact#[⋯,λp hp=>q Ab bs p D _ (hcp _ _ (.far hTh hbey ht hno)) hBb (sT3.trans (SamT.of (s4.trans (ze hp)))) (hT3.same (s4.trans (ze hp))) zf (hD.same (s4.trans (ze hp)))]
     ·ac_rfl;exact#[s4,h1,h2]
    rintro σ' G5 ⟨s5,L,hok,hL,rfl⟩:_;right;refine zj (λσ' G=>G=G5/\unG (zb bs) 40≠[]/\σ'=[!!o,!!a,-~~~m,!!D,!!Df,tY (.int (0+(i:Int))),!!D,!!L]) ?_ ?_
    ·ac_rfl;obtain⟨xs,hX,hI⟩:=id hL;have hxl:=hI.len;rw[ac]at hxl;refine#[_,.inl #[_,SqL.of hX,rfl],yo (λh=>#[⋯,λp hp=>q Aa bs p D _ (hcp _ _ (.whole hTh hbey hok (Au.mp ⋯))) hBb (sT3.trans (SamT.of (s5.trans (ze hp)))) (hT3.same (s5.trans (ze hp))) zf (hD.same (s5.trans (ze hp)))]) λh z=>h ?_];rw[z]at hxl;show ((xs.length:Nat):Int)=0;rw[hxl];rfl
    rintro σ' G6 ⟨rfl,hne,rfl⟩:_;right;ac_rfl;obtain⟨xs,hX,hI⟩:=id hL;have hxl:=hI.len;rw[ac]at hxl;have hct:K6 xs tZ (tY 8)=xs.take 8:=ZI xs (k:=8) ∅;refine#[_,SqL.of hX,λp hp=>?_];rw[hct];have u1:=ze (o:=HO.lst (xs.take 8)) hp;have hS7:(upd G6 p (.lst (xs.take 8))) p=tY (.lst (xs.take 8)):=zf;have hX7:=Iss.same u1 _ _ hI;have hD7:=hD.same (s5.trans u1);refine#[#[_,SqL.of hS7],λE1 hE1=>?_];generalize upd G6 p (.lst (xs.take 8))=G7 at *;refine CompL.by (xs:=xs.take 8) (λj Ae H'=>Same G7 H'/\H' E1=tY (.lst Ae)/\Ae.length<=j/\EnsA K (jA E1 H') (((unG (zb bs) 40).take j).map (jw bs)) Ae) #[ze hE1,zf,al _,rfl] (λj Ae H' _ h=>SqL.of (h.1 _ _ hS7)) ?_ ?_
    ·refine nm4 ?_;rintro j x Ae H' hx ⟨hs,hH,hal,hEn⟩:_;have hjl:=(Af.mp hx).1;have hj8:j<8:=by rw[aI]at hjl;lia
     rw[cC hj8]at hx;obtain⟨t,pt,ht,rfl,hpt⟩:=hX7.get3 hx;have htm:=(Am.mp (af ht)).1;right
     erw[vS]
     rfl'
     refine#[xZ,D,pt,bs,t,rfl,(hD7.same hs).l,zr hs hpt,htm,hBb.ok ⋯,λe he=>(hBb.e e he).s,λp' s' H5 h1 h2 h3 h4=>?_];have hH5:=h1 _ _ hH;have hsE:s'≠E1:=λz=>by rw[z,hH]at h4;cases h4
     refine#[hH5,⋯,CNx.mk hjl #[zH (hs.trans h1) hE1,zf,by rw[ak];erw[aB,cu];lia,?_]];rw[zN ht,ax];exact (hEn.same ((wE h1).trans y6)).snoc ((EnA.new (e:=jw bs t) hH5 h2 h3 hsE).same y6)
    ·rintro Ae H' ⟨hs,hH,hal,hEn⟩
     have hEn':EnsA K H' (((unG (zb bs) 40).take 8).map (jw bs)) Ae:=by
      have h1:=hEn.same wk;rw[aI,hxl]at h1
      have e:(unG (zb bs) 40).take (min 8 (unG (zb bs) 40).length)=(unG (zb bs) 40).take 8:=by
       rw[<- fj,aO]
      rw[e]at h1;exact h1
     have hal8:Ae.length<=8:=by rw[aI]at hal;lia
     obtain⟨xk,hxk,hek⟩:=hD7.same hs;have hkl:=hek.len;refine#[E1,rfl,xk,hxk,Ae,hH,⋯,λp2 hp2=>#[D,p2,#[bs,_,sT3.trans (SamT.of (s5.trans (u1.trans (hs.trans (ze hp2))))),hT3.same (s5.trans (u1.trans (hs.trans (ze hp2)))),#[xk,ze hp2 _ _ hxk,hek.same (ze hp2)],#[xk ++ Ae,SqL.of zf,(hEn'.same (ze hp2)).app (hek.same (ze hp2))],?_,λe he=>?_,hBb,λw es h=>hcp w es (.more hTh hbey hok hne h)],rfl,rfl]]
     ·rw[ak,ac,aI];lia
     ·rcases Ai.mp he with he | he
      ·exact hBb.e e he
      ·obtain⟨t,ht,rfl⟩:=Ag.mp he;exact QR hBb hbey hnear (Am.mp (bB ht)).1
   ·rintro σ H' ⟨Dk,Df,v5,v6,v7,hC,rfl⟩;rw[show ((m:Int)+1).toNat=m+1 by lia,eM]at hC;exact#[Dk,Df,hC,_,_,_,rfl]
  rintro σ H3 ⟨Dk,Df,v5,v6,v7,⟨kept,fresh,sT,hT,hK,hF,hfl,hfE,hB,hcp⟩,rfl⟩:_;right;ac_rfl;exact#[⋯,λp hp=>q Ab kept p Dk _ (hcp _ _ (.out kept fresh)) hB (sT.trans (SamT.of (ze hp))) (hT.same (ze hp)) zf (hK.same (ze hp))]
theorem ThinL.pairs{l:()}{zs bs:List Ent}(h:ThinL k l ns zs)(hp:zb bs=zb zs)(hE:∀e ∈ bs,EB l e):ThinL k l ns bs:=by
 have key:∀(i:Nat) (a:Ent),bs[i]? = tY a->∃z,zs[i]? = tY z/\z.1=a.1/\z.2.1=a.2.1:=λi a ha=>by
  have h1:(zb bs)[i]? = tY (a.1,a.2.1):=by unfold zb;rw[ar,ha];rfl
  rw[hp]at h1;unfold zb at h1;rw[ar]at h1;obtain⟨z,hz,e⟩:=Ak.mp h1;exact#[z,hz,(Prod.ext_iff.mp e).1,(Prod.ext_iff.mp e).2]
 refine#[#[hE,λe he=>?_],λi j a b ha hb hij=>?_,λi j a b ha hb hij=>?_,λi j a b ha hb=>?_]
 ·obtain⟨i,hi⟩:=Ax.mp he;obtain⟨z,hz,e1,e2⟩:=key i e hi;rw[<- e1,<- e2];exact h.rl.lt z (af hz)
 all_goals
  obtain⟨x,hx,e1,e2⟩:=key i a ha;obtain⟨y,hy,f1,f2⟩:=key j b hb;rw[<- f1]
 ·rw[<- e1];exact h.up i j x y hx hy hij
 ·rw[<- e1];exact h.no1 i j x y hx hy hij
 ·rw[<- e2];exact h.no2 i j x y hx hy
theorem ka{w:()}{i:Nat}{q:Int}{f:Bool}{r:zq}(hr:ps[i]? = tY r)(h:zu w q (sdl r f).1=Aa):yn ps w ((i:Int),q,f)=tY (yP w q (sdl r f).1 (sdl r f).2):=by
 have hi:=(Af.mp hr).1
 have e:ps.getD ((i:Int),q,f).1.toNat ([],[])=r:=by
  show ps.getD ((i:Int)).toNat ([],[])=r;rw[aR,aa,hr];rfl
 rw[yG (show 0<=((i:Int),q,f).1/\((i:Int),q,f).1<ps.length by constructor <;> simp <;> lia),e,if_pos h]
theorem WH(h:e ∈ fEs rs n):EOk rs e:=by
 obtain⟨i,p,hi,hp,rfl⟩:=qX h;show z8 rs p.1 [((i:Int),(0:Int),Aa)]=tY p.2
 have hs:zu p.1 0 (sdl p Aa).1=Aa:=by
  show zu p.1 0 p.1=Aa;refine decide_eq_true #[⋯,⋯,?_];show (p.1.drop 0).take p.1.length=p.1;rw[dW,aO]
 erw[z8,ka hp hs,bN]
 show tY (yP p.1 0 p.1 p.2)=tY p.2;congr 1;unfold yP;show p.1.take 0 ++ p.2 ++ p.1.drop (0+p.1.length)=p.2;rw[bE,aZ,bc ⋯,aP]
theorem Uk(hb:∀e ∈ bs,EOk rs e){t:N3}(ht:t ∈ ovA (zb bs) (zb bs).length):EOk rs (jw bs t):=by
 obtain⟨i1,i2,i3,i4⟩:=qY ht;obtain⟨r,hr⟩:∃r,(zb bs)[t.1]? = tY r:=#[_,ae i1];obtain⟨r2,hr2⟩:∃r,(zb bs)[t.2.1]? = tY r:=#[_,ae i2];have l1:=vJ hr;have l2:=vJ hr2;have d1:(zb bs).getD t.1 ([],[])=r:=by rw[aa,hr];rfl
 have d2:(zb bs).getD t.2.1 ([],[])=r2:=by rw[aa,hr2];rfl
 rw[l1]at i3;rw[l1,l2]at i4;have eA:pkA (zb bs) t=yP (yk r.1 r2.1 t.2.2) 0 r.1 r.2:=by unfold pkA;rw[l1,l2,d1]
 have eB:pkB (zb bs) t=yP (yk r.1 r2.1 t.2.2) (t.2.2:Nat) r2.1 r2.2:=by unfold pkB;rw[l1,l2,d2]
 refine jf hb ?_;show z8 (zb bs) (pkA (zb bs) t) [((t.1:Int),(0:Int),Ab),((t.2.1:Int),(t.2.2:Int),Aa)]=tY (pkB (zb bs) t);obtain⟨b1,b2⟩:=X9 r.2 (jT r.1 r2.1 t.2.2);rw[eA,eB];have h1:=ka (f:=Ab) (q:=0) hr (w:=yP (yk r.1 r2.1 t.2.2) 0 r.1 r.2) b1;have h2:=ka (f:=Aa) (q:=(t.2.2:Int)) hr2 (w:=yk r.1 r2.1 t.2.2) (qT ⋯ i4)
 have h1':yn (zb bs) (yP (yk r.1 r2.1 t.2.2) 0 r.1 r.2) ((t.1:Int),(0:Int),Ab)=tY (yk r.1 r2.1 t.2.2):=by
  rw[h1];congr 1
 have h2':yn (zb bs) (yk r.1 r2.1 t.2.2) ((t.2.1:Int),(t.2.2:Int),Aa)=tY (yP (yk r.1 r2.1 t.2.2) (t.2.2:Nat) r2.1 r2.2):=h2
 erw[z8,h1',h2',bN]
theorem VB{l:()}{es bs zs:List Ent}(h:v0 k l ns 20 es (tY bs))(hb:jc bs=Ab)(hz:ThinL k l ns zs)(hp:zb bs=zb zs):BG k l ns bs:=by
 obtain⟨b1,_⟩:=YK hb
 have key:∀e ∈ bs,∃z ∈ zs,z.1=e.1/\z.2.1=e.2.1:=λe he=>by
  have:(e.1,e.2.1) ∈ zb zs:=by rw[<- hp];exact Ag.mpr #[e,he,rfl]
  obtain⟨z,hz,e2⟩:=Ag.mp this;injection e2 with h1 h2;exact#[z,hz,h1,h2]
 refine#[⋯,λe he=>?_,λe he=>?_]
 ·obtain⟨z,hzm,h1,h2⟩:=key e he;have hE:=hz.rl.e z hzm;have hn:=qz h bs rfl e he;unfold qc at hn;exact#[⋯,⋯,⋯,by rw[<- h1];exact hE.ma,by rw[<- h2];exact hE.mb]
 ·obtain⟨z,hzm,h1,h2⟩:=key e he;rw[<- h1,<- h2];exact hz.rl.lt z hzm
def Gd(rs:List zq)(k:Nat)(l:())(ns:List Int)(es:List Ent):Prop:=(∀e ∈ es,EOk rs e)/\(es=[]\/(ThinL k l ns es/\jc es=Ab/\BG k l ns es))
theorem YD{rs:List zq}{l:()}(G:OG l ns k){es bs:List Ent}(h:v0 k l ns 20 es (tY bs))(hb:jc bs=Ab)(he:∀e ∈ es,EB l e)(ho:∀e ∈ es,EOk rs e):Gd rs k l ns bs:=by
 obtain⟨h1,zs,hz,hp⟩:=WD (rs:=rs) G h bs rfl he ho;have hB:=VB h hb hz hp;exact#[h1,.inr #[hz.pairs hp hB.e,hb,hB]]
theorem zb6{rs:List zq}{k n:Nat}{l:()}(G:OG l ns k){kept fresh es:List Ent}{w:Bool}(h:Cpl k l ns n kept fresh w es):(∀e ∈ fresh,EB l e)->(∀e ∈ fresh,EOk rs e)->Gd rs k l ns kept->Gd rs k l ns es:=by
 induction h with
 | out kept fresh=>exact λ_ _ h=>h
 | slim _=>exact λ_ _ h=>h
 | far h hb _ _=>exact λhe ho _=>YD G h hb he ho
 | whole h hb _ _=>exact λhe ho _=>YD G h hb he ho
 | @more n kept fresh bs es w h hb ho' hu r ih =>
  intro he ho _;have hg:=YD (rs:=rs) G h hb he ho
  have hB:BG k l ns bs:=by
   obtain⟨h1,zs,hz,hp⟩:=WD (rs:=rs) G h bs rfl he ho;exact VB h hb hz hp
  have hnear:∀e ∈ bs,e.2.2.length<=240:=λe hm=>by
   have:=qz h bs rfl e hm;unfold qc at this;lia
  refine ih (λe hm=>?_) (λe hm=>?_) hg
  ·rcases Ai.mp hm with hm | hm
   ·exact hB.e e hm
   ·obtain⟨t,ht,rfl⟩:=Ag.mp hm;exact QR hB hb hnear (Am.mp (bB ht)).1
  ·rcases Ai.mp hm with hm | hm
   ·exact hg.1 e hm
   ·obtain⟨t,ht,rfl⟩:=Ag.mp hm;exact Uk hg.1 (Am.mp (bB ht)).1
theorem Je{w o:()}{q:Nat}(h:zu w (q:Int) o=Aa):w.take q ++ o ++ w.drop (q+o.length)=w:=by
 unfold zu at h;obtain⟨_,_,e⟩:=of_decide_eq_true h;rw[aR]at e
 calc w.take q ++ o ++ w.drop (q+o.length)=w.take q ++ ((w.drop q).take o.length ++ (w.drop q).drop o.length):=by rw[e,dX,aL]
  _=w.take q ++ w.drop q:=by rw[bH]
  _=w:=bH q w
def Rw(ps:List zq)(u v:()):Prop:=∃p,p ∈ ps/\∃a b,u=a ++ p.1 ++ b/\v=a ++ p.2 ++ b
inductive Rws(ps:List zq):()->()->Prop where
 | nil {u:()}:Rws ps u u
 | cons {u v w:()} (h:Rw ps u v) (h2:Rws ps v w):Rws ps u w
theorem Rw.ctx{u v:()}(h:Rw ps u v)(c d:()):Rw ps (c ++ u ++ d) (c ++ v ++ d):=by
 obtain⟨p,hp,a,b,rfl,rfl⟩:=h;exact#[p,hp,c ++ a,b ++ d,by erw[aL],by erw[aL]]
theorem Rws.ctx{u v:()}(h:Rws ps u v)(c d:()):Rws ps (c ++ u ++ d) (c ++ v ++ d):=by
 induction h with
 | nil=>exact .nil
 | cons s _ ih=>exact .cons (s.ctx c d) ih
theorem Ul{w:()}{p:zq}{q:Nat}(h:zu w (q:Int) p.1=Aa):w=w.take q ++ p.1 ++ w.drop (q+p.1.length)/\yP w (q:Int) p.1 p.2=w.take q ++ p.2 ++ w.drop (q+p.1.length):=by
 refine#[(Je h).symm,?_];unfold yP;rw[aR]
section
variable{k:Nat}{l:()}{ws:List Int}{ps:List zq}
noncomputable def mu(k:Nat)(l:())(ws:List Int)(Ws:List (()))(v:()):Nat:=Ws.countP λy=>zL k l ws y v
end
theorem zbi{R:()->()->Prop}(hR:zar R)(hp:∀p ∈ rs,R p.1 p.2){u v:()}{s:Stp}(h:yn rs u s=tY v):R u v:=by
 by_cases hb:0<=s.1/\s.1<rs.length
 ·rw[yG hb]at h
  have hm:rs.getD s.1.toNat ([],[]) ∈ rs:=by
   rw[aa,ae ⋯];exact cP _
  generalize rs.getD s.1.toNat ([],[])=r at *;by_cases hs:zu u s.2.1 (sdl r s.2.2).1=Aa
  ·rw[if_pos hs]at h;have h0:0<=s.2.1:=(of_decide_eq_true hs).1;obtain⟨q,hq⟩:∃q:Nat,s.2.1=(q:Int):=#[s.2.1.toNat,⋯];rw[hq]at h hs;obtain⟨e1,e2⟩:=Ul (p:=sdl r s.2.2) hs;rw[e2]at h;cases h
   conv=>arg 1;rw[e1]
   refine hR.ctx _ _ ?_;unfold sdl;split
   ·exact hp r hm
   ·exact hR.symm (hp r hm)
  ·rw[if_neg hs]at h;cases h
 ·rw[yN hb]at h;cases h
theorem KB{R:()->()->Prop}(hR:zar R)(hp:∀p ∈ rs,R p.1 p.2):∀{ss:List Stp} {u v:()},z8 rs u ss=tY v->R u v
 | [],u,v,h=>by cases h;exact hR.refl _
 | s::ss,u,v,h=>by
  obtain⟨w1,h1,h2⟩:=vY h;exact hR.trans (zbi hR hp h1) (KB hR hp h2)
section
variable{k:Nat}{l:()}{ws:List Int}{ps:List zq}
end
section
variable{k:Nat}{l:()}{ws:List Int}{es fs:List Ent}
end
def Wj(K:pW):List V->Hp->VK->Prop:=λxs H Q=>∃p ys,xs=[.ref p]/\(SqL K H p ys\/SqT K H p ys)/\∀l,H l=tZ->Q (.ref l) (upd H l (.lst ys))
structure TabAt(H:Hp)(t:pX)(rs:List pX)(tab:List (List Int)):Prop where
 top:H t=tY (.lst (rs.map V.ref))
 len:rs.length=tab.length
 row:∀(i:Nat) (r:pX) (x:List Int),rs[i]? = tY r->tab[i]? = tY x->H r=tY (.lst (x.map V.int))
theorem TabAt.same{H H':Hp}{t:pX}{rs:List pX}{tab:List (List Int)}(h:TabAt H t rs tab)(e:Same H H'):TabAt H' t rs tab:=#[e _ _ h.top,h.len,λi r x h1 h2=>e _ _ (h.row i r x h1 h2)]
structure ww(l:())(tab:List (List Int)):Prop where
 lo:1<=tab.length
 hi:tab.length<=8
 wd:∀x ∈ tab,x.length=l.length
 rm:∀x ∈ tab,∀n ∈ x,0<=n/\n<(tab.length:Int)
theorem TabAt.get{t:pX}{rs:List pX}{tab:List (List Int)}(h:TabAt H t rs tab){i:Int}(h0:0<=i)(h1:i<(tab.length:Int)):∃r x,atI (rs.map V.ref) i=tY (.ref r)/\tab[i.toNat]? = tY x/\H r=tY (.lst (x.map V.int)):=by
 have hl:=h.len;obtain⟨v,e1,e2⟩:=uI (xs:=rs.map V.ref) h0 (by rw[ac];lia);rw[ar]at e2;obtain⟨r,hr,rfl⟩:=Ak.mp e2;have hx:tab[i.toNat]? = tY (tab[i.toNat]'⋯):=ae ⋯;exact#[r,_,e1,hx,h.row _ _ _ hr hx]
theorem WW{t:pX}{rs:List pX}{tab:List (List Int)}{σ:L2.St}{D:pX}{g:TG}(hg:g=yD 0)(h:TabAt H t rs tab)(hb:tab.length<=1000)(hD:H D=tZ)(q:∀(rs':List pX) (H':Hp),Same H H'->TabAt H' D rs' tab->(∀r ∈ D::rs',H r=tZ)->D ∉ rs'->Q (.ref D) H') :
  CompL K t g vS (tCB (Wj K) (zM (yt 0) xM)) 1 [] σ H Q D:=by
 have s16:=zP;have hl:=h.len;subst hg;refine CompL.by (xs:=rs.map V.ref) (λi Ae H'=>∃rs':List pX,Ae=rs'.map V.ref/\rs'.length=i/\Same H H'/\H' D=tY (.lst Ae)/\(∀r ∈ rs',H r=tZ/\r≠D)/\∀(j:Nat) (r:pX) (x:List Int),rs'[j]? = tY r->tab[j]? = tY x->H' r=tY (.lst (x.map V.int))) #[[],rfl,rfl,ze hD,zf,λr h=>(nomatch h),λj r x h=>by simp at h] (λi Ae H' _ h'=>by obtain⟨_,_,_,hs,_⟩:=h';exact SqL.of (hs _ _ h.top)) ?_ ?_
 ·refine nm4 ?_;rintro i v Ae H' hv ⟨rs',rfl,hi,hs,hH,hf,hr⟩:_;rw[ar]at hv;obtain⟨r,hr0,rfl⟩:=Ak.mp hv;have hil:=(Af.mp hr0).1;have hx:tab[i]? = tY (tab[i]'⋯):=ae ⋯;right;generalize tab[i]'⋯=x at hx;have hrow:=hs _ _ (h.row i r x hr0 hx)
  erw[vS]
  rfl'
  erw[Wj]
  rfl'
  refine#[xZ,_,.inl (SqL.of hrow),λp hp=>#[ze hp _ _ hH,by rw[ac];lia,CNx.mk (by rw[ac];lia) #[rs' ++ [p],by rw[ax];rfl,by rw[ak,hi];rfl,zH (hs.trans (ze hp)) hD,zf,?_,?_]]]
  ·intro r' hr';rcases Ai.mp hr' with h' | h'
   ·exact hf r' h'
   ·rw[Aj.mp h'];refine#[?_,λe=>by rw[e]at hp;rw[hp]at hH;cases hH]
    cases e:H p with
    | none=>rfl
    | some o=>have:=hs _ _ e;rw[hp]at this;cases this
  ·intro j r' x' h1 h2;by_cases hj:j<i
   ·rw[bT ⋯]at h1;have hm:=hf r' (af h1);rw[zp hm.2];exact ze hp _ _ (hr j r' x' h1 h2)
   ·rw[bC ⋯]at h1
    have hj0:j=i:=by
     have:=(Af.mp h1).1;simp at this;lia
    subst hj0;rw[hi,eM]at h1;cases h1;rw[hx]at h2;cases h2;rw[zp (λe=>by rw[e]at hp;rw[hp]at hH;cases hH)];exact zf
 ·rintro Ae H' ⟨rs',rfl,hi,hs,hH,hf,hr⟩;rw[ac]at hi
  exact q rs' H' hs #[hH,⋯,hr] (λr hr'=>by
   rcases Ah.mp hr' with rfl | h'
   ·exact hD
   ·exact (hf r h').1) λh'=>(hf D h').2 rfl
theorem Qt{t:pX}{rs:List pX}{tab:List (List Int)}{σ:L2.St}{D:pX}{g:TG}(hg:g=yD 0)(h:TabAt H t rs tab)(hb:tab.length<=1000)(hD:H D=tZ)(q:∀(rs':List pX) (H':Hp),Same H H'->TabAt H' D rs' tab->(∀r ∈ D::rs',H r=tZ)->Q (.ref D) H') :
  CompL K t g vS (tCB (Wj K) (zM (yt 0) xM)) 1 [] σ H Q D :=
 WW hg h hb hD λrs' H' s' t' f' _=>q rs' H' s' t' f'
structure zca(K:pW)(mg:re->Option pY)(C:pX):Prop where
 xi:XI K C
 ini:ag K (.ref C) "__init__" = tY (tY (.builtin "ValueError.__init__"))
 g:mg "NoWorld" = tY (.ref C)
 most:∃t,mg "MOST_ROOMS" = tY (.int 8 t)
def qt:Sp:=λvs H Q _=>∃(l:()) (a:pX) (rs:List pX) (tab:List (List Int)),vs=[.str (tx l),.ref a]/\l.length<=6/\TabAt H a rs tab/\ww l tab/\∀(t:pX) (rs':List pX) (H':Hp),Same H H'->TabAt H' t rs' tab->(∀r ∈ t::rs',H r=tZ)->Q (.ref t) H'
theorem mi:sQz 2 ["letters","table","row","room"] wX:=by nofun
theorem YY{f CQ:pX}(B:Bt mg)(TNw:zca K mg CQ)(F:("table_of"^^^wX)) :(1|||["letters","table"]) qt:=by
 obtain⟨t6,g6⟩:=TNw.most
 exists Fun.okX F mi,0
 ·obtain⟨l,a,rs,tab,rfl,hl6,hT,hG,q⟩:=h
  refine#[_,(zi (zK (zY (uU x0 x0 zg (zD B.len (pv 1)) (yw (v:=.int 8) rfl g6 #[t6,rfl])))
    (zc (yb hx rfl TNw.xi.toXC TNw.ini rfl TNw.g (za zV zd)))
    zt)
   (zi (zS PassesOwn.leaving rfl (yc (pv 1)) (zA (i:=2) mi.nd rfl (.inl rfl))
    (zE (zK (zx Ze (zD B.len (pv 2)) (zD B.len (pv 0)) (zB _))
     (zc (yb hx rfl TNw.xi.toXC TNw.ini rfl TNw.g (za zV zd)))
     zt)
    (zc (zS PassesOwn.leaving rfl (yc (pv 2)) (zA (i:=3) mi.nd rfl (.inl rfl))
     (zc (zK (zY (uU x0 VG zg (pv 3) (zD B.len (pv 1))))
      (zc (yb hx rfl TNw.xi.toXC TNw.ini rfl TNw.g (za zV zd)))
      zt))))))
   (zc (zk (xY (own:=["row"]) (caps:=[]) (ix:=[]) (tt:=vS) (te:=(tCB (Wj K) (zM (yt 0) xM))) rfl (z6 (sc:=zh wX) rfl (by symm) (by symm) (by symm) rfl (by symm) (by symm) rfl) (yc (pv 1)) (λ_ _ _ _ _ _=>zA (i:=0) (show List.Nodup [_] by decide) rfl (.inl rfl)) (λ_ _ _ _ _ _=>y0) (λ_ _ _ _ _ _=>(wq xh rfl B.list PySem.Pv.boot_list (za (pv 0) zd)))))))),?_]
  have s16:=zP;have hlen:=hT.len;have hlo:=hG.lo;have hhi:=hG.hi;refine zj (λσ H'=>H'=H/\σ=[~~~l,!!a,tZ,tZ]) ?_ ?_
  ·ac_rfl;exact#[_,.inl #[_,SqL.of hT.top,rfl],yo (λ_=>yo (λh=>absurd (by rw[ac];lia) h) λ_=>trivial) λh=>absurd (by rw[ac];lia) h]
  rintro σ H1 ⟨rfl,rfl⟩:_;right;refine zj (λσ H'=>H'=H1/\∃v2 v3,σ=[~~~l,!!a,v2,v3]) ?_ ?_
  ·ac_rfl;refine#[#[_,SqL.of hT.top],ForL.by (xs:=rs.map V.ref) (λi σ H'=>H'=H1/\∃v2 v3,σ=[~~~l,!!a,v2,v3]) #[rfl,tZ,tZ,rfl] (λi σ H' _ h=>by rw[h.1];exact SqL.of hT.top) ?_ λσ H' h=>h];refine nm4 ?_;rintro i y σ H' hy ⟨rfl,v2,v3,rfl⟩:_;rw[ar]at hy;obtain⟨r,hr,rfl⟩:=Ak.mp hy;have hil:=(Af.mp hr).1;have hx:tab[i]? = tY (tab[i]'⋯):=ae ⋯;right;generalize tab[i]'⋯=x at hx;have hrow:=hT.row i r x hr hx;have hmx:=af hx;have hw:=hG.wd x hmx;ac_rfl;refine#[_,.inl #[_,SqL.of hrow,rfl],⋯,yo (λh=>absurd (by rw[ac];lia) h) λ_=>#[#[_,SqL.of hrow],ForL.by (xs:=x.map V.int) (λi σ H''=>H''=H'/\∃v2 v3,σ=[~~~l,!!a,v2,v3]) #[rfl,_,_,rfl] (λi σ H'' _ h=>by rw[h.1];exact SqL.of hrow) ?_ λσ H' h=>h]];refine nm4 ?_;rintro j y σ H'' hy ⟨rfl,v2,v3,rfl⟩:_;rw[ar]at hy;obtain⟨n,hn,rfl⟩:=Ak.mp hy;obtain⟨n1,n2⟩:=hG.rm x hmx n (af hn);right;ac_rfl;exact yo (λ_=>#[_,.inl #[_,SqL.of hT.top,rfl],yo (λh=>absurd (by rw[ac];lia) h) λ_=>trivial]) λh=>absurd n1 h
  rintro σ H2 ⟨rfl,v2,v3,rfl⟩:_;right;ac_rfl;exact#[#[_,SqL.of hT.top],λD hD=>Qt rfl hT ⋯ hD λrs' H' s' t' f'=>q D rs' H' s' t' f']
structure Kz(K:pW)(mg:re->Option pY)(CV:pX):Prop where
 cl:Cls K CV
 g:mg "World" = tY (.ref CV)
 nl:NoAttr K CV "letters"
 nt:NoAttr K CV "table"
def WorAt(CV:pX)(H:Hp)(o:pX)(l:())(t:pX)(rs:List pX)(tab:List (List Int)):Prop:=∃dx,H o=tY (.ins CV dx [("letters",.str (tx l)),("table",.ref t)])/\TabAt H t rs tab
theorem WorAt.same{CV:pX}{H H':Hp}{o t:pX}{l:()}{rs:List pX}{tab:List (List Int)}(h:WorAt CV H o l t rs tab)(e:Same H H'):WorAt CV H' o l t rs tab:=by
 obtain⟨dx,h1,h2⟩:=h;exact#[dx,e _ _ h1,h2.same e]
theorem TabAt.updI{p C dx t:pX}{fs gs:List (re × V)}{rs:List pX}{tab:List (List Int)}(hp:H p=tY (.ins C dx fs))(h:TabAt H t rs tab):TabAt (upd H p (.ins C dx gs)) t rs tab:=by
 refine#[?_,h.len,λi r x h1 h2=>?_]
 ·rw[zp (λe=>by have:=h.top;rw[e,hp]at this;cases this)];exact h.top
 ·have h3:=h.row i r x h1 h2;rw[zp (λe=>by rw[e,hp]at h3;cases h3)];exact h3
def vQ(CV:pX):Sp:=λvs H Q _=>∃(x dx a:pX) (l:()) (rs:List pX) (tab:List (List Int)),vs=[.ref x,.str (tx l),.ref a]/\j9 l=Aa/\TabAt H a rs tab/\ww l tab/\H x=tY (.ins CV dx []) /\
 ∀(t:pX) (rs':List pX) (H':Hp),(∀b o,b≠x->H b=tY o->H' b=tY o)->(∀r ∈ t::rs',H r=tZ)->WorAt CV H' x l t rs' tab->Q .non H'
theorem j6:sQz 3 ["self","letters","table"] wB:=by nofun
theorem Zp{f C CV:pX}(B:Bt mg)(CLw:Kz K mg CV)(F:Fun K "__init__" "World.__init__" wB f fd)(lC:(2>>>"letters_of") ["text"] [] (xQ C))(pf:(1>>>"table_of") ["letters","table"] [] qt):(4|||["self","letters","table"]) (vQ CV):=by
 exists Fun.okX F j6,0
 ·obtain⟨x,dx,a,l,rs,tab,rfl,hg,hT,hG,hX,q⟩:=h
  refine#[_,(zi (ZD (pv 0) (clP hx lC hr .nil rfl (za (pv 1) zd)) rfl)
   (zc (ZD (pv 0) (clP hx pf hr .nil rfl (za (pv 1) (za (pv 2) zd))) rfl))),?_]
  have s16:=zP;have hg':=of_decide_eq_true hg;refine zj (λσ H'=>H'=upd H x (.ins CV dx [("letters",.str (tx l))])/\σ=[!!x,~~~l,!!a]) ?_ ?_
  ·ac_rfl;exact#[l,rfl,⋯,λ_=>#[_,_,_,hX,CLw.cl,CLw.nl,∅,rfl],λe=>by rw[hg]at e;cases e]
  rintro σ H1 ⟨rfl,rfl⟩:_;right;ac_rfl;refine#[l,a,rs,tab,rfl,⋯,hT.updI hX,hG,λt rs' H' s' t' f'=>?_];have hX2:=s' _ _ (zf (H:=H) (a:=x) (o:=.ins CV dx [("letters",.str (tx l))]))
  have fr:∀r ∈ t::rs',H r=tZ/\r≠x:=λr hr'=>by
   have h1:=f' r hr';have h2:r≠x:=λe=>by rw[e,zf]at h1;cases h1
   rw[zp h2]at h1;exact#[h1,h2]
  exact#[_,_,_,hX2,CLw.cl,CLw.nt,by show 1<1000;decide,q t rs' _ (λb o hb e=>by rw[zp hb];exact s' _ _ (by rw[zp hb];exact e)) (λr hr'=>(fr r hr').1) #[dx,zf,t'.updI hX2]]
theorem V0{CV a:pX}{l:()}{rs:List pX}{tab:List (List Int)}{R:pX->Hp->Prop}(hg:j9 l=Aa)(hT:TabAt H a rs tab)(hG:ww l tab)(q:∀(x t:pX) (rs':List pX) (H':Hp),Same H H'->H x=tZ->(∀r ∈ t::rs',H r=tZ)->WorAt CV H' x l t rs' tab->R x H') :
  ∀x dx,H x=tZ->H dx=tZ->dx≠x->vQ CV [.ref x,.str (tx l),.ref a] (upd (upd H dx (.own x)) x (.ins CV dx [])) (λv H2=>v=.non/\R x H2) E:=by
 intro x dx hx hdx hne;have sd:=ze (o:=.own x) hdx;have hx1:(upd H dx (.own x)) x=tZ:=by rw[zp hne.symm];exact hx
 have sx:=sd.trans (ze (o:=.ins CV dx []) hx1);refine#[x,dx,a,l,rs,tab,rfl,hg,hT.same sx,hG,zf,λt rs' H' k f hc=>#[rfl,q x t rs' H' (λb o e=>k b o (zJ e hx) (sx b o e)) hx (λr hr=>?_) hc]]
 cases e:H r with
 | none=>rfl
 | some o=>have:=sx _ _ e;rw[f r hr]at this;cases this
def qb(CV:pX):Sp:=λvs H Q _=>∃(o t:pX) (l:()) (rs:List pX) (tab:List (List Int)),vs=[.ref o]/\WorAt CV H o l t rs tab/\Q (.int (tab.length:Nat)) H
theorem ju:sQz 1 ["self"] xO:=by nofun
theorem jC{f CV:pX}(B:Bt mg)(CLw:Kz K mg CV)(F:Fun K "rooms" "World.rooms" xO f fd) :(1&&&["self"]) (qb CV):=by
 exists F.ok ju
 ·obtain⟨o,t,l,rs,tab,rfl,hW,q⟩:=h;refine#[_,(zc (zk (zD B.len (qf (pv 0) rfl)))),?_];have s16:=zP
  rfl'
  obtain⟨dx,ho,hT⟩:=hW;exact#[_,_,_,ho,CLw.cl,CLw.nt,_,rfl,_,.inl #[_,SqL.of hT.top,rfl],by rw[ac,hT.len];exact q]
theorem QN{CV o t:pX}{l:()}{rs:List pX}{tab:List (List Int)}(h:WorAt CV H o l t rs tab)(q:Q (.int (tab.length:Nat)) H):qb CV [.ref o] H Q E:=#[o,t,l,rs,tab,rfl,h,q]
noncomputable def YE(l:())(tab:List (List Int))(r:Int)(c:Nat):Int:=(tab.getD r.toNat []).getD (l.idxOf c) 0
noncomputable def jV(l:())(tab:List (List Int))(r:Int)(w:()):Int:=w.foldl (YE l tab) r
theorem JN{l:()}{tab:List (List Int)}(hG:ww l tab){r:Int}(h0:0<=r)(h1:r<(tab.length:Int)){c:Nat}(hc:c ∈ l):0<=YE l tab r c/\YE l tab r c<(tab.length:Int):=by
 have hx:tab[r.toNat]? = tY (tab[r.toNat]'⋯):=ae ⋯;generalize tab[r.toNat]'⋯=x at hx;have hm:=af hx;have hi:=aC hc;rw[<- hG.wd x hm]at hi;have hn:x[l.idxOf c]? = tY x[l.idxOf c]:=ae hi;unfold YE;rw[aa (l:=tab),hx,cD,aa,hn,cD];exact hG.rm x hm _ (af hn)
theorem Vx{l:()}{tab:List (List Int)}(hG:ww l tab):∀{w:()} {r:Int},0<=r->r<(tab.length:Int)->(∀c ∈ w,c ∈ l)->0<=jV l tab r w/\jV l tab r w<(tab.length:Int)
 | [],r,h0,h1,_=>#[h0,h1]
 | c::w,r,h0,h1,hw=>by
  obtain⟨a,b⟩:=JN hG h0 h1 (hw c (by simp));exact Vx hG (w:=w) a b λx hx=>hw x (by simp [hx])
theorem UM{l:()}{tab:List (List Int)}{r:Int}{w:()}{i c:Nat}(h:w[i]? = tY c):jV l tab r (w.take (i+1))=YE l tab (jV l tab r (w.take i)) c:=by
 unfold jV;rw[zN h,cz];rfl
theorem zcr{l:()}{tab:List (List Int)}(hG:ww l tab){r:Int}{x:List Int}(hx:tab[r.toNat]? = tY x){c:Nat}(hc:c ∈ l):atI (x.map V.int) ((l.idxOf c:Nat):Int)=tY (.int (YE l tab r c)):=by
 have hm:=af hx;have hi:=aC hc;rw[<- hG.wd x hm]at hi;have hn:x[l.idxOf c]? = tY x[l.idxOf c]:=ae hi;refine vw ?_;unfold YE;rw[ar,hn,aa (l:=tab),hx,cD,aa,hn];rfl
def qE(CV:pX):Sp:=λvs H Q _=>∃(o t:pX) (l:()) (rs:List pX) (tab:List (List Int)) (r:Int) (w:()),vs=[.ref o,.int r,.str (tx w)]/\WorAt CV H o l t rs tab/\ww l tab/\0<=r/\r<(tab.length:Int)/\(∀c ∈ w,c ∈ l)/\Q (.int (jV l tab r w)) H
theorem lE:sQz 3 ["self","room","word","letter"] vt:=by nofun
theorem Yp{f CV:pX}(B:Bt mg)(CLw:Kz K mg CV)(F:Fun K "led" "World.led" vt f fd) :(1&&&["self","room","word"]) (qE CV):=by
 exists F.ok lE
 ·obtain⟨o,t,l,rs,tab,r,w,rfl,hW,hG,h0,h1,hw,q⟩:=h
  refine#[_,(zE (zS PassesOwn.never rfl (XA (pv 2)) (zA (i:=3) lE.nd rfl (.inl rfl))
    (zc (zC 1 lE.nd (zo ix_list (zo ix_list (qf (pv 0) rfl) (pv 1)) (vq bL eY eZ VI (qf (pv 0) rfl) (za (pv 3) zd))))))
   (zc (zk (pv 1)))),?_]
  have s16:=zP
  rfl'
  obtain⟨dx,ho,hT⟩:=hW;refine ForS.by (λi σ H'=>H'=H/\∃v3,σ=[!!o,tY (.int (jV l tab r (w.take i))),~~~w,v3]) #[rfl,tZ,rfl] ?_ ?_
  ·refine nm4 ?_;rintro i c σ H' hc ⟨rfl,v3,rfl⟩:_;have hcl:=hw c (af hc);obtain⟨a,b⟩:=Vx hG (w:=w.take i) h0 h1 λx hx=>hw x (bB hx);obtain⟨r',x,e1,e2,e3⟩:=hT.get a b;right;ac_rfl;exact#[_,_,_,ho,CLw.cl,CLw.nt,_,rfl,_,rfl,_,SqL.of hT.top,_,e1,_,_,_,ho,CLw.cl,CLw.nl,_,rfl,trivial,_,rfl,_,Wi hcl,_,rfl,_,SqL.of e3,by rw[UM hc];exact zcr hG e2 hcl]
  ·rintro σ H' ⟨rfl,v3,rfl⟩
   rfl'
   rw[aO];exact q
theorem uY{CV o t:pX}{l:()}{rs:List pX}{tab:List (List Int)}{r:Int}{w:()}(h:WorAt CV H o l t rs tab)(hG:ww l tab)(h0:0<=r)(h1:r<(tab.length:Int))(hw:∀c ∈ w,c ∈ l)(q:Q (.int (jV l tab r w)) H):qE CV [.ref o,.int r,.str (tx w)] H Q E:=#[o,t,l,rs,tab,r,w,rfl,h,hG,h0,h1,hw,q]
noncomputable def uM(l:())(tab:List (List Int))(u v:()):Option Nat:=(aH tab.length).find? λr=>decide (jV l tab (r:Int) u≠jV l tab (r:Int) v)
noncomputable def vO:Option Nat->V
 | none=>.non
 | some r=>.int (r:Nat)
theorem Qx{l:()}{tab:List (List Int)}{u v:()}{r:Nat}(h1:r<tab.length)(h2:jV l tab (r:Int) u≠jV l tab (r:Int) v)(h3:∀j:Nat,j<r->jV l tab (j:Int) u=jV l tab (j:Int) v):uM l tab u v=tY r:=by
 unfold uM;rw[List.find?_eq_some_iff_getElem];refine#[by simpa using h2,r,by simpa using h1,by simp,λj hj=>?_];simpa using h3 j hj
theorem QO{l:()}{tab:List (List Int)}{u v:()}(h:∀j:Nat,j<tab.length->jV l tab (j:Int) u=jV l tab (j:Int) v):uM l tab u v=tZ:=by
 unfold uM;rw[fJ];intro j hj;simpa using h j (by simpa using hj)
def wU(CV:pX):Sp:=λvs H Q _=>∃(o t:pX) (l:()) (rs:List pX) (tab:List (List Int)) (u v:()),vs=[.ref o,.str (tx u),.str (tx v)]/\WorAt CV H o l t rs tab/\ww l tab/\(∀c ∈ u,c ∈ l)/\(∀c ∈ v,c ∈ l)/\Q (vO (uM l tab u v)) H
theorem Y8{CV o t:pX}{l:()}{rs:List pX}{tab:List (List Int)}{u v:()}(h:WorAt CV H o l t rs tab)(hG:ww l tab)(hu:∀c ∈ u,c ∈ l)(hv:∀c ∈ v,c ∈ l)(q:Q (vO (uM l tab u v)) H):wU CV [.ref o,.str (tx u),.str (tx v)] H Q E:=#[o,t,l,rs,tab,u,v,rfl,h,hG,hu,hv,q]
theorem lX:sQz 3 ["self","one","other","room"] xx:=by nofun
theorem qD{f CV:pX}(B:Bt mg)(CL:Kz K mg CV)(F:Fun K "parted" "World.parted" xx f fd)(M_world_rooms:DM P w K mg base CX0 1 CV "rooms" ["self"] (qb CV))(M_world_led:DM P w K mg base CX0 1 CV "led" ["self","room","word"] (qE CV)):(2&&&["self","one","other"]) (wU CV):=by
 exists F.ok lX
 ·obtain⟨o,t,l,rs,tab,u,v,rfl,hW,hG,hu,hv,q⟩:=h
  refine#[_,(zE (zS PassesOwn.never rfl (yC rfl B.range (za (me0 M_world_rooms CL.cl hr (pv 0)) zd)) (zA (i:=3) lX.nd rfl (.inl rfl))
    (zc (zK (zx Ze (me1 M_world_led CL.cl hr (pv 0) (za (pv 3) (za (pv 1) zd))) (me1 M_world_led CL.cl hr (pv 0) (za (pv 3) (za (pv 2) zd))) (zB _))
     (zc (zk (pv 3)))
     zt)))
   (zc (zk z7))),?_]
  have s16:=zP
  rfl'
  obtain⟨dx,ho,hT⟩:=id hW;have hhi:=hG.hi;refine#[_,_,ho,rfl,QN hW ?_];refine#[_,rfl,⋯,⋯,ForR.by (λi σ H'=>H'=H/\(∀j:Nat,j<i->jV l tab (j:Int) u=jV l tab (j:Int) v)/\∃v3,σ=[!!o,~~~u,~~~v,v3]) #[rfl,λj h=>absurd h (bV j),tZ,rfl] ?_ ?_]
  ·refine nm3 ?_;rintro i σ H' hi ⟨rfl,hb,v3,rfl⟩:_;have hi':i<tab.length:=⋯;have e0:(0:Int)+(i:Int)=(i:Int):=⋯;right;ac_rfl;refine#[_,_,ho,rfl,uY hW hG ⋯ ⋯ hu #[_,_,ho,rfl,uY hW hG ⋯ ⋯ hv ?_]];rw[e0];ac_rfl;refine yo (λh=>?_) λh j hj=>?_
   ·rw[Qx hi' h hb]at q;exact q
   ·by_cases hj':j<i
    ·exact hb j hj'
    ·have:j=i:=⋯;rw[this];exact Decidable.not_not.mp h
  ·rintro σ H' ⟨rfl,hb,v3,rfl⟩;ac_rfl;rw[QO λj hj=>hb j ⋯]at q;exact q
noncomputable def va(l:())(tab:List (List Int)):List zq->Nat->Option (Nat × Nat)
 | [],_=>tZ
 | p::ps,i=>match uM l tab p.1 p.2 with
  | some r=>tY (i,r)
  | none=>va l tab ps (i+1)
theorem jH{l:()}{tab:List (List Int)}:∀{ps:List zq} {i k:Nat} {p:zq},ps[i]? = tY p->(∀(j:Nat) (q:zq),j<i->ps[j]? = tY q->uM l tab q.1 q.2=tZ)->∀r,uM l tab p.1 p.2=tY r->va l tab ps k=tY (k+i,r)
 | q::ps,0,k,p,h,_,r,hr=>by
  cases h
  erw[va,hr,Nat.add_zero]
 | q::ps,i+1,k,p,h,hb,r,hr=>by
  have h0:=hb 0 q ⋯ rfl
  erw[va,h0]
  rw[jH (ps:=ps) (i:=i) (k:=k+1) h (λj q' hj e=>hb (j+1) q' ⋯ e) r hr];congr 2;lia
theorem j3{l:()}{tab:List (List Int)}:∀{ps:List zq} {k:Nat},(∀(j:Nat) (q:zq),ps[j]? = tY q->uM l tab q.1 q.2=tZ)->va l tab ps k=tZ
 | [],_,_=>rfl
 | q::ps,k,hb=>by
  erw[va,hb 0 q rfl]
  exact j3 λj q' e=>hb (j+1) q' e
def uu(K:pW)(CV:pX):Sp:=λvs H Q _=>∃(o t a:pX) (l:()) (rs:List pX) (tab:List (List Int)) (ps:List zq),vs=[.ref o,.ref a]/\LsA K H a (ps.map dR)/\WorAt CV H o l t rs tab/\ww l tab/\(∀p ∈ ps,(∀c ∈ p.1,c ∈ l)/\∀c ∈ p.2,c ∈ l) /\
 (va l tab ps 0=tZ->∀H',Same H H'->Q .non H')/\∀i r,va l tab ps 0=tY (i,r)->∀p H',Same H H'->H' p=tY (.tup [.int (i:Nat),.int (r:Nat)])->Q (.ref p) H'
theorem gC:sQz 2 ["self","pacts","number","pact","room"] xo:=by nofun
theorem ql{f CV:pX}(B:Bt mg)(CL:Kz K mg CV)(F:Fun K "broken" "World.broken" xo f fd)(M_world_parted:DM P w K mg base CX0 2 CV "parted" ["self","one","other"] (wU CV)):(3&&&["self","pacts"]) (uu K CV):=by
 exists F.ok gC
 ·obtain⟨o,t,a,l,rs,tab,ps,rfl,hA,hW,hG,hp,q1,q2⟩:=h
  refine#[_,(zE (zS PassesOwn.never rfl (wL rfl B.enum (za (pv 1) zd)) (uE (n:=2) rfl (z5 (zA (i:=2) gC.nd rfl (.inl rfl)) (z5 (zA (i:=3) gC.nd rfl (.inl rfl)) wF)))
    (zE (zC 4 gC.nd (me1 M_world_parted CL.cl hr (pv 0) (za (zo ix_tup (pv 3) zg) (za (zo ix_tup (pv 3) zg) zd))))
    (zc (zK (zx op_notN' (pv 4) z7 (zB _))
     (zc (zk (zW (za (pv 2) (za (pv 4) zd)))))
     zt))))
   (zc (zk z7))),?_]
  have s16:=zP
  rfl'
  obtain⟨xs,hX,hI⟩:=id hA;have hXL:=hI.len;rw[ac]at hXL;refine#[#[_,SqL.of hX],ForEL.by (xs:=xs) (λi σ H'=>Same H H'/\(∀(j:Nat) (p:zq),j<i->ps[j]? = tY p->uM l tab p.1 p.2=tZ)/\∃v2 v3 v4,σ=[!!o,!!a,v2,v3,v4]) #[Same.refl _,λj p h=>absurd h (bV j),_,_,_,rfl] ?_ ?_ ?_]
  ·rintro i σ H' _ ⟨hs,_⟩;exact SqL.of (hs _ _ hX)
  ·rintro i x σ H' p hx ⟨hs,hb,v2,v3,v4,rfl⟩ hpn;obtain⟨r,pr,hri,rfl,hqr⟩:=hI.getR hx;have hm:=hp r (af hri);have s2:=hs.trans (ze (o:=.tup [.int (i:Nat),.ref pr]) hpn);have hW2:=hW.same s2;obtain⟨dx,ho,_⟩:=id hW2;have hq2:=zr s2 hqr;ac_rfl;refine#[_,SqT.of zf,rfl,_,_,rfl,_,_,rfl,rfl,_,_,ho,rfl,_,rfl,_,hq2,_,rfl,_,rfl,_,hq2,_,rfl,Y8 hW2 hG hm.1 hm.2 ?_]
   cases e:uM l tab r.1 r.2 with
   | none =>
    erw[vO]
    ac_rfl;refine#[s2,λj p' hj hp'=>?_];by_cases hj':j<i
    ·exact hb j p' hj' hp'
    ·have:j=i:=⋯;rw[this,hri]at hp';cases hp';exact e
   | some z =>
    erw[vO]
    ac_rfl;have hbr:=jH (k:=0) hri hb z e;rw[eF]at hbr;exact#[⋯,λp3 hp3=>q2 i z hbr p3 _ (s2.trans (ze hp3)) zf]
  ·rintro σ H' ⟨hs,hb,v2,v3,v4,rfl⟩;ac_rfl;exact q1 (j3 λj p' e=>hb j p' (by have:=(Af.mp e).1;lia) e) H' hs
structure Kk(K:pW)(mg:re->Option pY)(CM:pX):Prop where
 xi:XI K CM
 ini:ag K (.ref CM) "__init__" = tY (tY (.builtin "ValueError.__init__"))
 g:mg "TooMany" = tY (.ref CM)
 most:∃t,mg "MOST_TABLES" = tY (.int 1000 t)
theorem zd7{n k:Nat}(h1:n<=8)(h2:k<=6):n * k<=48:=df h1 h2
def u8:Sp:=λvs H Q _=>∃(l:()) (n:Nat),vs=[.str (tx l),.int (n:Nat)]/\l.length<=6/\n<=8/\Q (.int ((n ^ (n * l.length):Nat):Int)) H
theorem ZW{l:()}(h1:l.length<=6)(h2:n<=8)(q:Q (.int ((n ^ (n * l.length):Nat):Int)) H):u8 [.str (tx l),.int (n:Nat)] H Q E:=#[l,n,rfl,h1,h2,q]
theorem JY(n i:Nat):((n ^ i:Nat):Int) * (n:Int)=((n ^ (i+1):Nat):Int):=by rw[Nat.pow_succ,dF]
theorem gL:sQz 2 ["letters","rooms","count","cell"] xL:=by nofun
theorem jF(B:Bt mg)(F:("table_count"^^^xL)) :(1&&&["letters","rooms"]) u8:=by
 exists F.ok gL
 ·obtain⟨l,n,rfl,h1,h2,q⟩:=h
  refine#[_,(zE (zC 2 gL.nd zg)
   (zE (zS PassesOwn.never rfl (yC rfl B.range (za (zF YJ (pv 1) (zD B.len (pv 0))) zd)) (zA (i:=3) gL.nd rfl (.inl rfl))
    (zc (zC 2 gL.nd (zF YJ (pv 2) (pv 1)))))
   (zc (zk (pv 2))))),?_]
  have s16:=zP
  rfl'
  have hm:=zd7 h2 h1;have em:((n:Int) * (l.length:Int))=((n * l.length:Nat):Int):=by rw[dF]
  refine#[⋯,.inl #[⋯,⋯],?_];rw[em];refine#[⋯,⋯,ForR.by (λi σ H'=>H'=H/\∃v3,σ=[~~~l,-~~~n,tY (.int ((n ^ i:Nat):Int)),v3]) #[rfl,_,rfl] ?_ ?_]
  ·refine nm3 ?_;rintro i σ H' hi ⟨rfl,v3,rfl⟩:_;right
   rfl'
   exact#[.inr #[⋯,⋯],JY n i]
  ·rintro σ H' ⟨rfl,v3,rfl⟩
   rfl'
   rw[aR];exact q
def vT:Sp:=λvs H Q _=>∃(l:()) (n:Nat),vs=[.str (tx l),.int (n:Nat)]/\l.length<=6/\n<=8/\Q (.bl (decide (n ^ (n * l.length)<=1000))) H
theorem jS{l:()}(h1:l.length<=6)(h2:n<=8)(q:Q (.bl (decide (n ^ (n * l.length)<=1000))) H):vT [.str (tx l),.int (n:Nat)] H Q E:=#[l,n,rfl,h1,h2,q]
theorem JG(a:Nat):decide ((a:Int)<=1000)=decide (a<=1000):=by
 by_cases h:a<=1000
 ·rw[decide_eq_true h,decide_eq_true ⋯]
 ·rw[decide_eq_false h,decide_eq_false ⋯]
theorem uP:sQz 2 ["letters","rooms"] y1:=by nofun
theorem uQ{f CM:pX}(B:Bt mg)(TM:Kk K mg CM)(F:("tables_within"^^^y1))(iW:(1<<<"table_count") ["letters","rooms"] [] u8):(2&&&["letters","rooms"]) vT:=by
 obtain⟨t9,g9⟩:=TM.most
 exists F.ok uP
 ·obtain⟨l,n,rfl,h1,h2,q⟩:=h;refine#[_,(zc (zk (yE x0 (cl0 iW hr .nil rfl (za (pv 0) (za (pv 1) zd))) (yw (v:=.int 1000) rfl g9 #[t9,rfl]) (zB _)))),?_];have s16:=zP
  rfl'
  refine ZW h1 h2 ?_
  rfl'
  rw[JG];exact q
noncomputable def jr(n N i:Nat):Int:=((N / n ^ i % n:Nat):Int)
noncomputable def zbY(n k N r:Nat):List Int:=(aH k).map λj=>jr n N (n * k - 1 - (r * k+j))
noncomputable def j5(n k N:Nat):List (List Int):=(aH n).map λr=>zbY n k N r
theorem zbI{n N i:Nat}(h:1<=n):0<=jr n N i/\jr n N i<(n:Int):=by
 have:=Nat.mod_lt (N / n ^ i) (show 0<n by lia);unfold jr;lia
theorem kz(n k N:Nat):(j5 n k N).length=n:=by simp [j5]
theorem Wy{l:()}(N:Nat)(h1:1<=n)(h8:n<=8):ww l (j5 n l.length N):=by
 refine#[by rw[kz];exact h1,by rw[kz];exact h8,λx hx=>?_,λx hx z hz=>?_]
 ·obtain⟨r,_,rfl⟩:=Ag.mp hx;simp [zbY]
 ·obtain⟨r,_,rfl⟩:=Ag.mp hx;obtain⟨j,_,rfl⟩:=Ag.mp hz;rw[kz];exact zbI h1
theorem zal{n k N r:Nat}(hr:r<n):((((aH (n * k)).map (jr n N)).reverse).drop (r * k)).take k=zbY n k N r:=by
 have hb:r * k+k<=n * k:=by
  have:=dH k (show r+1<=n by lia);rw[Nat.add_mul,Nat.one_mul]at this;exact this
 apply List.ext_getElem?;intro j;by_cases hj:j<k
 ·rw[cC hj,List.getElem?_drop,bu (by simp;lia),ar,dN (by simp;lia),zbY,ar,dN hj];simp
 ·rw[bQ (by simp [aI];lia),bQ (by simp [zbY];lia)]
theorem QE(n N i:Nat):N / n ^ i / n=N / n ^ (i+1):=by rw[Nat.div_div_eq_div_mul,Nat.pow_succ]
def vh:Sp:=λvs H Q _=>∃(l:()) (n N:Nat),vs=[.str (tx l),.int (n:Nat),.int (N:Nat)]/\1<=l.length/\l.length<=6/\1<=n/\n<=8/\∀(t:pX) (rs:List pX) (H':Hp),Same H H'->TabAt H' t rs (j5 n l.length N)->(∀r ∈ t::rs,H r=tZ)->Q (.ref t) H'
theorem Z3{l:()}{n N:Nat}(h1:1<=l.length)(h2:l.length<=6)(h3:1<=n)(h4:n<=8)(q:∀(t:pX) (rs:List pX) (H':Hp),Same H H'->TabAt H' t rs (j5 n l.length N)->(∀r ∈ t::rs,H r=tZ)->Q (.ref t) H'):vh [.str (tx l),.int (n:Nat),.int (N:Nat)] H Q E:=#[l,n,N,rfl,h1,h2,h3,h4,q]
theorem za6{n k:Nat}(h1:1<=n)(h2:1<=k):(Builtin.Range.rangeSize 0 ((n * k:Nat):Int) (k:Int)).toNat=n:=by
 have hp:0<n * k:=Nat.mul_pos h1 h2;unfold Builtin.Range.rangeSize;rw[if_pos ⋯,if_pos ⋯];have e:(((n * k:Nat):Int) - 0 - 1)=((n * k - 1:Nat):Int):=⋯
 have e2:(n * k - 1) / k=n - 1:=by
  obtain⟨m,rfl⟩:∃m,n=m+1:=#[n - 1,⋯];rw[Nat.add_mul,Nat.one_mul,show m * k+k - 1=(k - 1)+m * k by lia,Nat.add_mul_div_right _ _ ⋯,Nat.div_eq_of_lt ⋯];lia
 rw[e,<- Int.natCast_ediv,e2];lia
theorem U3{c:pX}{l:()}{n N:Nat}{σ:L2.St}{D:pX}{g:TG}{ix:()}{te:TE}(hg:g=yD 0)(hte:te=tSl (zcZ K) (yt 1) (Yn (yt 0)) (Yn (tOp Xk (yt 0) (tCB (Vd K) (zM (yt 2) xM)))))(hi:vZ σ 1 ix=[tZ,!!c,~~~l])
  (hc:H c=tY (.lst ((((aH (n * l.length)).map (jr n N)).reverse).map V.int))) (h1:1<=l.length) (h2:l.length<=6) (h3:1<=n) (h4:n<=8) (hD:H D=tZ)
  (q:∀(rs:List pX) (H':Hp),Same H H'->TabAt H' D rs (j5 n l.length N)->(∀r ∈ D::rs,H r=tZ)->Q (.ref D) H'):CompK 0 (l.length:Nat) n g vS te 1 ix σ H Q D:=by
 have s16:=zP;have hmm:=zd7 h4 h2;subst hg hte;refine CompK.by (λi Ae H'=>∃rs:List pX,Ae=rs.map V.ref/\rs.length=i/\Same H H'/\H' D=tY (.lst Ae)/\(∀r ∈ rs,H r=tZ/\r≠D)/\∀(j:Nat) (r:pX),rs[j]? = tY r->H' r=tY (.lst ((zbY n l.length N j).map V.int))) #[[],rfl,rfl,ze hD,zf,λr h=>(nomatch h),λj r h=>by simp at h] ?_ ?_
 ·refine nm3 ?_;rintro i Ae H' hin ⟨rs,rfl,hrl,hs,hH,hf,hr⟩:_;have hc':=hs _ _ hc;have ei:(0:Int)+(i:Int) * (l.length:Int)=((i * l.length:Nat):Int):=by rw[Int.zero_add,dF]
  right;dsimp only;rw[ei];have hil:i * l.length<=48:=aK (dH _ (by lia:i<=n)) hmm
  erw[vS,yD,hi]
  rfl'
  refine#[xZ,⋯,_,SqL.of hc',λp hp=>?_];rw[Qb _ ⋯ ⋯];have e1:(((i * l.length:Nat):Int)).toNat=i * l.length:=aR _;have e2:(((i * l.length:Nat):Int)+(l.length:Int) - ((i * l.length:Nat):Int)).toNat=l.length:=⋯;rw[e1,e2,zal hin];have hpD:p≠D:=λe=>by rw[e]at hp;rw[hp]at hH;cases hH
  refine#[ze hp _ _ hH,by rw[ac];lia,CNx.mk hin #[rs ++ [p],by rw[ax];rfl,by rw[ak,hrl];rfl,zH (hs.trans (ze hp)) hD,zf,λr' hr'=>?_,λj r' h1=>?_]]
  ·rcases Ai.mp hr' with h' | h'
   ·exact hf r' h'
   ·rw[Aj.mp h'];refine#[?_,hpD]
    cases e:H p with
    | none=>rfl
    | some o=>have:=hs _ _ e;rw[hp]at this;cases this
  ·by_cases hj:j<i
   ·rw[bT ⋯]at h1;rw[zp (hf r' (af h1)).2];exact ze hp _ _ (hr j r' h1)
   ·rw[bC ⋯]at h1
    have hj0:j=i:=by
     have:=(Af.mp h1).1;simp at this;lia
    subst hj0;rw[hrl,eM]at h1;cases h1;rw[zp hpD];exact zf
 ·rintro Ae H' ⟨rs,rfl,hrl,hs,hH,hf,hr⟩
  refine q rs H' hs #[hH,by rw[kz,hrl],λi r x h1 h2=>?_] λr hr'=>by
   rcases Ah.mp hr' with rfl | h'
   ·exact hD
   ·exact (hf r h').1
  rw[hr i r h1];unfold j5 at h2;rw[ar]at h2;obtain⟨z,hz,rfl⟩:=Ak.mp h2;have:=(Af.mp hz).2;simp at this;rw[this]
theorem iV:sQz 3 ["letters","rooms","number","cells","cell"] wQ:=by nofun
theorem Xr(B:Bt mg)(F:("table_at"^^^wQ)) :(1&&&["letters","rooms","number"]) vh:=by
 exists F.ok iV
 ·obtain⟨l,n,N,rfl,h1,h2,h3,h4,q⟩:=h
  refine#[_,(zi (jY (i:=3) iV.nd rfl (Or.inr rfl) (xj zd))
   (zi (zS PassesOwn.never rfl (yC rfl B.range (za (zF YJ (pv 1) (zD B.len (pv 0))) zd)) (zA (i:=4) iV.nd rfl (.inl rfl))
    (zE (xm (vq aY bv bw yO (pv 3) (za (zF yV (pv 2) (pv 1)) zd)))
    (zc (zC 2 iV.nd (zF xA (pv 2) (pv 1))))))
   (zi (xm (zcp aY PySem.F.slot_list_reverse PySem.F.type_list_reverse Vb (pv 3)))
   (zc (zk (xY (own:=["start"]) (caps:=["cells","letters"]) (ix:=[3,0]) (tt:=vS) (te:=(tSl (zcZ K) (yt 1) (Yn (yt 0)) (Yn (tOp Xk (yt 0) (tCB (Vd K) (zM (yt 2) xM)))))) rfl (z6 (sc:=zh wQ) rfl (by symm) (by symm) (by symm) rfl (by symm) (by symm) rfl) (UA rfl B.range (za zg (za (zD B.len (pv 3)) (za (zD B.len (pv 0)) zd)))) (λ_ _ _ _ _ _=>zA (i:=0) (show List.Nodup [_,_,_] by decide) rfl (.inl rfl)) (λ_ _ _ _ _ _=>y0) (λ_ _ _ _ _ _=>(ye KQ (pv 1) (yd (pv 0)) (yd (zF qF (pv 0) (zD B.len (pv 2)))))))))))),?_]
  have s16:=zP;have hm:=zd7 h4 h2;have em:((n:Int) * (l.length:Int))=((n * l.length:Nat):Int):=by rw[dF]
  refine zj (λσ H'=>∃c,H c=tZ/\Same H H'/\H' c=tY (.lst [])/\σ=[~~~l,-~~~n,-~~~N,!!c,tZ]) ?_ ?_
  ·rfl'
   exact#[⋯,λc hc=>#[c,hc,ze hc,zf,rfl]]
  rintro σ H1 ⟨c,hcn,s1,hc,rfl⟩:_;right;refine zj (λσ H'=>∃v2 v4,Same H H'/\H' c=tY (.lst (((aH (n * l.length)).map (jr n N)).map V.int))/\σ=[~~~l,-~~~n,v2,!!c,v4]) ?_ ?_
  ·rfl'
   refine#[⋯,.inl #[⋯,⋯],?_];rw[em];refine#[⋯,⋯,ForR.by (λi σ H'=>∃v4,Same H H'/\H' c=tY (.lst (((aH i).map (jr n N)).map V.int))/\σ=[~~~l,-~~~n,tY (.int ((N / n ^ i:Nat):Int)),!!c,v4]) #[_,s1,hc,by rw[Nat.pow_zero,Nat.div_one]] ?_ ?_]
   ·refine nm3 ?_;rintro i σ H' hi ⟨v4,hs,hc',rfl⟩:_;rw[aR]at hi;right
    rfl'
    refine#[.inl #[_,SqL.of hc'],⋯,_,hc',by erw[ac,bZ];lia,#[⋯,⋯],?_];refine#[zH hs hcn,?_,?_]
    ·rw[zf,cw,ax,ax,<- Int.natCast_emod];rfl
    ·rw[<- Int.natCast_ediv,QE]
   ·rintro σ H' ⟨v4,hs,hc',rfl⟩;rw[aR]at hc';exact#[hs,hc',_,_,rfl]
  rintro σ H2 ⟨v2,v4,s2,hc2,rfl⟩:_;right;refine zj (λσ H'=>Same H H'/\H' c=tY (.lst ((((aH (n * l.length)).map (jr n N)).reverse).map V.int))/\σ=[~~~l,-~~~n,v2,!!c,v4]) ?_ ?_
  ·rfl'
   erw[WK]
   rfl'
   refine#[.inl #[_,SqL.of hc2],_,hc2,zH s2 hcn,?_];rw[zf,eK]
  rintro σ H3 ⟨s3,hc3,rfl⟩:_;right
  erw[Kt,zb9]
  rfl'
  refine#[_,.inl #[_,SqL.of hc3,rfl],⋯,∅,∅,⋯,by erw[ac,cE,bZ];lia,⋯,⋯,λD hD=>?_]
  have en:(Builtin.Range.rangeSize 0 (((List.map V.int ((List.map (jr n N) (aH (n * l.length))).reverse)).length:Nat):Int) (l.length:Nat)).toNat=n:=by
   rw[ac,cE,ac,bZ];exact za6 h3 h1
  rw[en]
  exact U3 rfl rfl rfl hc3 h1 h2 h3 h4 hD λrs H' s' hT hf=>q D rs H' (s3.trans s') hT λr hr'=>by
   cases e:H r with
   | none=>rfl
   | some o=>have:=s3 _ _ e;rw[hf r hr']at this;cases this
noncomputable def v8(l:())(tab:List (List Int))(ps:List zq)(u v:()):Bool:=decide (jV l tab 0 u≠jV l tab 0 v) && (va l tab ps 0).isNone
abbrev zbT(l:())(u:()):Prop:=∀c ∈ u,c ∈ l
abbrev InP(l:())(ps:List zq):Prop:=∀p ∈ ps,(∀c ∈ p.1,c ∈ l)/\∀c ∈ p.2,c ∈ l
def Zb(K:pW)(CV:pX):Sp:=λvs H Q _=>∃(o t a:pX) (l:()) (rs:List pX) (tab:List (List Int)) (ps:List zq) (u v:()),vs=[.ref o,.ref a,.str (tx u),.str (tx v)]/\LsA K H a (ps.map dR)/\WorAt CV H o l t rs tab/\ww l tab/\InP l ps/\zbT l u/\zbT l v/\∀H',Same H H'->Q (.bl (v8 l tab ps u v)) H'
theorem QH{CV o t a:pX}{l:()}{rs:List pX}{tab:List (List Int)}{u v:()}(h1:LsA K H a (ps.map dR))(h2:WorAt CV H o l t rs tab)(h3:ww l tab)(h4:InP l ps)(h5:zbT l u)(h6:zbT l v)(q:∀H',Same H H'->Q (.bl (v8 l tab ps u v)) H'):Zb K CV [.ref o,.ref a,.str (tx u),.str (tx v)] H Q E:=#[o,t,a,l,rs,tab,ps,u,v,rfl,h1,h2,h3,h4,h5,h6,q]
theorem jt:sQz 4 ["world","pacts","one","other"] xN:=by nofun
theorem jy{f CV:pX}(B:Bt mg)(CL:Kz K mg CV)(F:("tells_apart"^^^xN))(M_world_led:DM P w K mg base CX0 1 CV "led" ["self","room","word"] (qE CV))(M_world_broken:DM P w K mg base CX0 3 CV "broken" ["self","pacts"] (uu K CV)):(4&&&["world","pacts","one","other"]) (Zb K CV):=by
 exists F.ok jt
 ·obtain⟨o,t,a,l,rs,tab,ps,u,v,rfl,hA,hW,hG,hp,hu,hv,q⟩:=h
  refine#[_,(zE (zK (zx y4 (me1 M_world_led CL.cl hr (pv 0) (za zg (za (pv 2) zd))) (me1 M_world_led CL.cl hr (pv 0) (za zg (za (pv 3) zd))) (zB _))
    (zc (zk yQ))
    zt)
   (zc (zk (yE op_isN' (me1 M_world_broken CL.cl hr (pv 0) (za (pv 1) zd)) z7 (zB _))))),?_]
  have s16:=zP
  rfl'
  obtain⟨dx,ho,hT⟩:=id hW;have hlo:=hG.lo;refine#[_,_,ho,rfl,uY hW hG ⋯ ⋯ hu #[_,_,ho,rfl,uY hW hG ⋯ ⋯ hv ?_]]
  rfl'
  refine yo (λh=>?_) λh=>?_
  ·have e:v8 l tab ps u v=Ab:=by
    unfold v8;rw[decide_eq_false (λg=>g h)];rfl
   rw[e]at q;exact q _ (Same.refl _)
  ·have e:v8 l tab ps u v=(va l tab ps 0).isNone:=by
    unfold v8;rw[decide_eq_true h,fv]
   rw[e]at q;refine#[_,_,ho,rfl,o,t,a,l,rs,tab,ps,rfl,hA,hW,hG,hp,λhb H' s'=>?_,λi r hb p H' s' hp'=>?_]
   ·rw[hb]at q;exact q H' s'
   ·rw[hb]at q;exact q H' s'
def Ear(l:())(ps:List zq)(u v:())(n N:Nat):Prop:=∀n' N':Nat,1<=n'->N'<n' ^ (n' * l.length)->(n'<n\/n'=n/\N'<N)->v8 l (j5 n' l.length N') ps u v=Ab
theorem Jq{l:()}{u v:()}:Ear l ps u v 1 0:=λn' N' h1 _ h=>by lia
theorem Jw{l:()}{u v:()}{n N:Nat}(h:Ear l ps u v n N)(hf:v8 l (j5 n l.length N) ps u v=Ab):Ear l ps u v n (N+1):=λn' N' h1 h2 h3=>by
 rcases h3 with h3 | ⟨rfl,h3⟩
 ·exact h n' N' h1 h2 (.inl h3)
 ·by_cases e:N'=N
  ·rw[e];exact hf
  ·exact h n' N' h1 h2 (.inr #[rfl,⋯])
theorem zbG{l:()}{u v:()}(h:Ear l ps u v n (n ^ (n * l.length))):Ear l ps u v (n+1) 0:=λn' N' h1 h2 h3=>by
 rcases dC n' n with h4 | h4
 ·exact h n' N' h1 h2 (.inl h4)
 ·have e:n'=n:=⋯;subst e;exact h n' N' h1 h2 (.inr #[rfl,h2])
theorem Kb{n m k:Nat}(h1:1<=n)(h:n<=m):n ^ (n * k)<=m ^ (m * k):=aK (Nat.pow_le_pow_left h _) (fq ⋯ (dH k h))
def X6(K:pW)(CM:pX):Sp:=λvs H Q E=>∃(a:pX) (l:()) (ps:List zq) (u v:()) (m:Nat),vs=[.str (tx l),.ref a,.str (tx u),.str (tx v),.int (m:Nat)]/\j9 l=Aa/\LsA K H a (ps.map dR)/\InP l ps/\zbT l u/\zbT l v/\m<=8/\(1000<m ^ (m * l.length)->E (.ref CM) tZ H) /\
 (m ^ (m * l.length)<=1000->Ear l ps u v (m+1) 0->∀H',Same H H'->Q .non H') /\
 (m ^ (m * l.length)<=1000->∀n N:Nat,1<=n->n<=m->N<n ^ (n * l.length)->v8 l (j5 n l.length N) ps u v=Aa->Ear l ps u v n N->∀(t:pX) (rs:List pX) (H':Hp),Same H H'->TabAt H' t rs (j5 n l.length N)->(∀r ∈ t::rs,H r=tZ)->Q (.ref t) H')
theorem gM:sQz 5 ["letters","pacts","one","other","most","rooms","number","table"] xS:=by nofun
theorem jD{f CM CV:pX}(B:Bt mg)(TM:Kk K mg CM)(CL:Kz K mg CV)(F:("world_apart"^^^xS))(ik:(2<<<"tables_within") ["letters","rooms"] [] vT)(iW:(1<<<"table_count") ["letters","rooms"] [] u8)(ph:(1<<<"table_at") ["letters","rooms","number"] [] vh)(ow:(4<<<"tells_apart") ["world","pacts","one","other"] [] (Zb K CV))(M_world_init:DMk P w K mg base (CXx P w) 4 CV ["self","letters","table"] (vQ CV)):(6|||["letters","pacts","one","other","most"]) (X6 K CM):=by
 exists Fun.okX F gM,0
 ·obtain⟨a,l,ps,u,v,m,rfl,hg,hA,hp,hu,hv,m8,q1,q2,q3⟩:=h
  refine#[_,(zi (zK (zY (yK (cl0 ik hr .nil rfl (za (pv 0) (za (pv 4) zd))) (λ_=>rfl)))
    (zc (yb hx rfl TM.xi.toXC TM.ini rfl TM.g (za zV zd)))
    zt)
   (zi (zS PassesOwn.leaving rfl (Yh rfl B.range (za zg (za (zF qF (pv 4) zg) zd))) (zA (i:=5) gM.nd rfl (.inl rfl))
    (zc (zS PassesOwn.leaving rfl (yC rfl B.range (za (cl0 iW hr .nil rfl (za (pv 0) (za (pv 5) zd))) zd)) (zA (i:=6) gM.nd rfl (.inl rfl))
     (zi (zC 7 gM.nd (cl0 ph hr .nil rfl (za (pv 0) (za (pv 5) (za (pv 6) zd)))))
     (zc (zK (yK (cl0 ow hr .nil rfl (za (zfc hx M_world_init hr rfl CL.g (za (pv 0) (za (pv 7) zd))) (za (pv 1) (za (pv 2) (za (pv 3) zd))))) (λ_=>rfl))
      (zc (zk (pv 7)))
      zt))))))
   (zc (zk z7)))),?_]
  have s16:=zP;obtain⟨l1,l6,_,_⟩:=of_decide_eq_true hg;refine zj (λσ H'=>H'=H/\m ^ (m * l.length)<=1000/\σ=[~~~l,!!a,~~~u,~~~v,-~~~m,tZ,tZ,tZ]) ?_ ?_
  ·rfl'
   refine jS ⋯ m8 #[_,rfl,?_];by_cases hw:m ^ (m * l.length)<=1000
   ·rw[decide_eq_true hw]
    rfl'
    exact hw
   ·rw[decide_eq_false hw]
    rfl'
    exact#[⋯,q1 ⋯]
  rintro σ H1 ⟨rfl,hw,rfl⟩:_;right;refine zj (λσ H'=>Same H1 H'/\Ear l ps u v (m+1) 0/\∃v5 v6 v7,σ=[~~~l,!!a,~~~u,~~~v,-~~~m,v5,v6,v7]) ?_ ?_
  ·rfl'
   refine#[⋯,⋯,⋯,⋯,ForR.by (λi σ H'=>Same H1 H'/\Ear l ps u v (i+1) 0/\∃v5 v6 v7,σ=[~~~l,!!a,~~~u,~~~v,-~~~m,v5,v6,v7]) #[Same.refl _,Jq,_,_,_,rfl] ?_ ?_]
   ·refine nm3 ?_;rintro i σ H' hi ⟨hs,hE,v5,v6,v7,rfl⟩:_;have him:i+1<=m:=⋯;have e0:(1:Int)+(i:Int)=((i+1:Nat):Int):=⋯;have hpw:=Kb (k:=l.length) ⋯ him;right;dsimp only;rw[e0]
    rfl'
    refine ZW ⋯ ⋯ ?_;refine#[_,rfl,⋯,⋯,ForR.by (λj σ H'=>Same H1 H'/\Ear l ps u v (i+1) j/\∃v6 v7,σ=[~~~l,!!a,~~~u,~~~v,-~~~m,tY (.int ((i+1:Nat):Int)),v6,v7]) #[hs,hE,_,_,rfl] ?_ ?_]
    ·refine nm3 ?_;rintro j σ H'' hj ⟨hs2,hE2,v6,v7,rfl⟩:_;rw[aR]at hj;have e1:(0:Int)+(j:Int)=(j:Int):=⋯;right;dsimp only;rw[e1]
     erw[yD,aX,aW]
     refine zj (λσ G=>∃(t:pX) (rs:List pX),Same H1 G/\TabAt G t rs (j5 (i+1) l.length j)/\(∀r ∈ t::rs,H1 r=tZ)/\σ=[~~~l,!!a,~~~u,~~~v,-~~~m,tY (.int ((i+1:Nat):Int)),tY (.int (j:Int)),!!t]) ?_ ?_
     ·rfl'
      exact Z3 l1 ⋯ ⋯ ⋯ λt rs G sG hT hf=>#[hs2.trans sG,t,rs,hT,(λr hr=>by
       cases e:H1 r with
       | none=>rfl
       | some o=>have:=hs2 _ _ e;rw[hf r hr]at this;cases this),rfl]
     rintro σ G ⟨t,rs,sG,hT,hf,rfl⟩:_;have hG:=Wy (l:=l) j (show 1<=i+1 by lia) ⋯;right
     rfl'
     refine V0 hg hT hG λx t' rs' H' s' _ _ hW=>QH ((hA.same sG).same s') hW hG hp hu hv λH'' s''=>#[_,rfl,?_];have sA:=sG.trans (s'.trans s'')
     cases hfit:v8 l (j5 (i+1) l.length j) ps u v with
     | true =>
      rfl'
      exact q3 hw (i+1) j ⋯ him hj hfit hE2 t rs H'' sA (hT.same (s'.trans s'')) hf
     | false =>
      rfl'
      exact#[sA,Jw hE2 hfit]
    ·rintro σ H'' ⟨hs2,hE2,v6,v7,rfl⟩;rw[aR]at hE2;exact#[hs2,zbG hE2,_,_,_,rfl]
   ·rintro σ H' ⟨hs,hE,v5,v6,v7,rfl⟩;exact#[hs,by rw[show (((m:Nat):Int)+1 - 1).toNat=m by lia]at hE;exact hE,_,_,_,rfl]
  rintro σ H2 ⟨s2,hE,v5,v6,v7,rfl⟩:_;right
  rfl'
  exact q2 hw hE H2 s2
structure TMj(mg:re->Option pY):Prop where
 u:∃t,mg "MOST_USES_judging" = tY (.int 40 t)
 s:∃t,mg "MOST_STEPS_judging" = tY (.int 2000 t)
def zc5(K:pW):Sp:=λvs H Q _=>∃(a:pX) (k:Nat) (l:()) (ns:List Int) (bs:List Ent) (w:()),vs=[.ref a,.str (tx w)]/\OG l ns k/\EnsL K H a bs/\BG k l ns bs/\w.length<=60 /\
 (∀(i:Nat) (p S:pX) (H':Hp),EndsAt (zb bs) w i->Same H H'->H' p=tY (.tup [.ref S,.str (tx (wAt (zb bs) w i))])->LsA K H' S ((stS (sAt (zb bs) w i)).map dSt)->Q (.ref p) H')/\((∀i,¬ EndsAt (zb bs) w i)->∀H',Same H H'->Q .non H')
theorem jq:sQz 2 ["entries","word"] xT:=by nofun
theorem jv{f CF:pX}{ij:tu}(B:Bt mg)(TFx:zas K mg CF)(TSb:zey K CF)(TM:TMj mg)(F:("gone_within"^^^xT))(mj:(4>>>"gone") ["rules","word","most"] [] (xu K CF))(DD_gone:(4>>>"gone") ["rules","word","most"] [.int 4000 ij] (xu K CF))(gf:(1<<<"pairs_of") ["entries"] [] (xX K)):(5&&&["entries","word"]) (zc5 K):=by
 obtain⟨t9,g9⟩:=TM.u
 exists F.ok jq
 ·obtain⟨a,k,l,ns,bs,w,rfl,hG,hA,hB,hw,q1,q2⟩:=h;refine#[_,(zc (Wx (th:=(Kt (tC .non))) #[rfl,rfl] (clX mj hr .nil rfl (za (cl0 gf hr .nil rfl (za (pv 0) zd)) (za (pv 1) (za (yw (v:=.int 40) rfl g9 #[t9,rfl]) zd)))) rfl TFx.g TFx.xi.ok (λe=>(zc (zk z7))))),?_];have s16:=zP;have s16:=zP;have hpl:=xF bs;have hbl:=hB.n
  erw[Qh]
  ac_rfl;exact xI hA.is ⋯ λD H1 _ s1 hL=>ue hL (hB.ne hG) ⋯ hB.le hw (λi p S H' hi s' hp hS _=>q1 i p S H' hi (s1.trans s') hp (by rw[V2]at hS;exact hS)) λhno H' s'=>#[CF,rfl,TSb.s,λx hx=>q2 hno _ ((s1.trans s').trans (ze hx))]
def GwV(K:pW)(ps:List zq)(w:())(H:Hp)(v:V):Prop:=(v=.non/\∀i,¬ EndsAt ps w i)\/∃(i:Nat) (p S:pX),v=.ref p/\EndsAt ps w i/\H p=tY (.tup [.ref S,.str (tx (wAt ps w i))])/\LsA K H S ((stS (sAt ps w i)).map dSt)
theorem GwV.same{w:()}{H H':Hp}{v:V}(h:GwV K ps w H v)(s:Same H H'):GwV K ps w H' v:=by
 rcases h with h | ⟨i,p,S,h1,h2,h3,h4⟩
 ·exact .inl h
 ·exact .inr #[i,p,S,h1,h2,s _ _ h3,h4.same s]
noncomputable abbrev jz(bs:List Ent)(u v:())(i j:Nat):List Stp:=byL bs (stS (sAt (zb bs) u i) ++ yJ (stS (sAt (zb bs) v j)))
def NoR(bs:List Ent)(b:Bool)(u v:()):Prop:=(∀i,¬ EndsAt (zb bs) u i)\/(∀j,¬ EndsAt (zb bs) v j)\/∃i j,EndsAt (zb bs) u i/\EndsAt (zb bs) v j/\((wAt (zb bs) u i≠wAt (zb bs) v j/\b=Ab)\/(wAt (zb bs) u i=wAt (zb bs) v j/\2000<(jz bs u v i j).length))
def KW(K:pW):Sp:=λvs H Q _=>∃(a:pX) (k:Nat) (l:()) (ns:List Int) (bs:List Ent) (b:Bool) (u v:()),vs=[.bl b,.ref a,.str (tx u),.str (tx v)]/\OG l ns k/\EnsL K H a bs/\BG k l ns bs/\u.length<=60/\v.length<=60/\(NoR bs b u v->∀H',Same H H'->Q .non H') /\
 (∀(i j:Nat) (p:pX) (H':Hp),b=Aa->EndsAt (zb bs) u i->EndsAt (zb bs) v j->wAt (zb bs) u i≠wAt (zb bs) v j->Same H H'->H' p=tY (.tup [.str "forms",.ref a,.str (tx (wAt (zb bs) u i)),.str (tx (wAt (zb bs) v j))])->Q (.ref p) H') /\
 ∀(i j:Nat) (p S:pX) (H':Hp),EndsAt (zb bs) u i->EndsAt (zb bs) v j->wAt (zb bs) u i=wAt (zb bs) v j->Same H H'->H' p=tY (.tup [.str "alike",.ref S])->LsA K H' S ((jz bs u v i j).map dSt)->(jz bs u v i j).length<=2000->Q (.ref p) H'
theorem gq:sQz 4 ["whole","kept","one","other","ahead","behind","steps"] yM:=by nofun
theorem vF(B:Bt mg)(TM:TMj mg)(F:("judged_by_roads"^^^yM))(mH:(5<<<"gone_within") ["entries","word"] [] (zc5 K))(gK:(2<<<"by_pacts") ["entries","steps"] [] (QG K))(lD:(1<<<"back") ["steps"] [] (uo K)):(6&&&["whole","kept","one","other"]) (KW K):=by
 obtain⟨t9,g9⟩:=TM.s
 exists F.ok gq
 ·obtain⟨a,k,l,ns,bs,b,u,v,rfl,hG,hA,hB,hu,hv,q1,q3,q2⟩:=h
  refine#[_,(zi (zC 4 gq.nd (cl0 mH hr .nil rfl (za (pv 1) (za (pv 2) zd))))
   (zi (zC 5 gq.nd (cl0 mH hr .nil rfl (za (pv 1) (za (pv 3) zd))))
   (zi (zK (PW.pt (vn (zx op_isN' (pv 4) z7 (zB _)) (wc (zx op_isN' (pv 5) z7 (zB _)))))
    (zc (zk z7))
    zt)
   (zi (zK (zx Ze (zo ix_tup (pv 4) zg) (zo ix_tup (pv 5) zg) (zB _))
    (zc (zk (wM (yK (pv 0) (λ_=>rfl)) (zW (za zV (za (pv 1) (za (zo ix_tup (pv 4) zg) (za (zo ix_tup (pv 5) zg) zd))))) z7)))
    zt)
   (zi (zC 6 gq.nd (cl0 gK hr .nil rfl (za (pv 1) (za (zF Wt (zo ix_tup (pv 4) zg) (cl0 lD hr .nil rfl (za (zo ix_tup (pv 5) zg) zd))) zd))))
   (zc (zk (wM (zx x0 (zD B.len (pv 6)) (yw (v:=.int 2000) rfl g9 #[t9,rfl]) (zB _)) (zW (za zV (za (pv 6) zd))) z7)))))))),?_]
  have s16:=zP;have s16:=zP;have hbl:=hB.n;have hpl:=xF bs;have hst:∀e ∈ bs,e.2.2.length<=600:=λe he=>(hB.e e he).s;refine zj (λσ H'=>Same H H'/\∃v4,GwV K (zb bs) u H' v4/\σ=[tY (.bl b),!!a,~~~u,~~~v,tY (v4),tZ,tZ]) ?_ ?_
  ·rfl'
   exact#[a,k,l,ns,bs,u,rfl,hG,hA,hB,hu,λi p S H' h1 s' h2 h3=>#[s',.inr #[i,p,S,rfl,h1,h2,h3]],λhno H' s'=>#[s',.inl #[rfl,hno]]]
  rintro σ H1 ⟨s1,v4,hv4,rfl⟩:_;right;refine zj (λσ H'=>Same H1 H'/\∃v5,GwV K (zb bs) v H' v5/\σ=[tY (.bl b),!!a,~~~u,~~~v,tY (v4),tY (v5),tZ]) ?_ ?_
  ·rfl'
   exact#[a,k,l,ns,bs,v,rfl,hG,hA.same s1,hB,hv,λi p S H' h1 s' h2 h3=>#[s',.inr #[i,p,S,rfl,h1,h2,h3]],λhno H' s'=>#[s',.inl #[rfl,hno]]]
  rintro σ H2 ⟨s2,v5,hv5,rfl⟩:_;have s12:=s1.trans s2;have hv4':=hv4.same s2;right;refine zj (λσ H'=>H'=H2/\v4≠.non/\v5≠.non/\σ=[tY (.bl b),!!a,~~~u,~~~v,tY (v4),tY (v5),tZ]) ?_ ?_
  ·rfl'
   refine yo (λh=>?_) λh=>yo (λh'=>?_) λh'=>#[h,h']
   ·rcases hv4' with ⟨_,hno⟩ | ⟨i,p,S,e,_⟩
    ·exact q1 (.inl hno) _ s12
    ·rw[e]at h;cases h
   ·rcases hv5 with ⟨_,hno⟩ | ⟨i,p,S,e,_⟩
    ·exact q1 (.inr (.inl hno)) _ s12
    ·rw[e]at h';cases h'
  rintro σ H3 ⟨rfl,n4,n5,rfl⟩:_;obtain⟨i,p1,S1,rfl,hi,hp1,hS1⟩:=hv4'.resolve_left λz=>n4 z.1;obtain⟨j,p2,S2,rfl,hj,hp2,hS2⟩:=hv5.resolve_left λz=>n5 z.1;right;refine zj (λσ H'=>H'=H3/\wAt (zb bs) u i=wAt (zb bs) v j/\σ=[tY (.bl b),!!a,~~~u,~~~v,!!p1,!!p2,tZ]) ?_ ?_
  ·rfl'
   refine#[_,SqT.of hp1,_,rfl,_,SqT.of hp2,_,rfl,rfl,yo (λh=>yo (λhb'=>#[_,SqT.of hp1,_,rfl,_,SqT.of hp2,_,rfl,⋯,λp hp=>q3 i j p _ hb' hi hj (λz=>h (by rw[z])) (s12.trans (ze hp)) zf]) λhb'=>q1 (.inr (.inr #[i,j,hi,hj,.inl #[λz=>h (by rw[z]),by simpa using hb']])) _ s12) λh=>?_];have:=Classical.not_not.mp h;injection this with this;exact vM this
  rintro σ H4 ⟨rfl,he,rfl⟩:_;have him:=hi.most;have hjm:=hj.most;have hl1:(stS (sAt (zb bs) u i)).length=i:=by rw[uc,vv]
  have hl2:(stS (sAt (zb bs) v j)).length=j:=by rw[uc,vv]
  right;refine zj (λσ H'=>Same H4 H'/\∃S:pX,LsA K H' S ((jz bs u v i j).map dSt)/\σ=[tY (.bl b),!!a,~~~u,~~~v,!!p1,!!p2,!!S]) ?_ ?_
  ·rfl'
   refine#[_,SqT.of hp1,_,rfl,_,SqT.of hp2,_,rfl,uX hS2.is ⋯ λB1 G1 _ t1 hB1=>?_];obtain⟨c1,hc1,ic1⟩:=hS1.same t1;obtain⟨c2,hc2,ic2⟩:=id hB1;have n1:=ic1.len;have n2:=ic2.len;rw[ac]at n1 n2;rw[ym]at n2;refine#[S1,rfl,B1,rfl,c1,hc1,c2,hc2,⋯,λp hp=>?_];have sp:=ze (o:=.lst (c1 ++ c2)) hp;refine Wa (Is.same (s12.trans (t1.trans sp)) _ _ hA.is) (LsA.is #[_,zf,by rw[ax];exact Iss.append (Iss.same sp _ _ ic1) (Iss.same sp _ _ ic2)]) (by rw[ak,ym];lia) hst (λx hx=>?_) λD H' _ s' hL=>#[t1.trans (sp.trans s'),D,hL,rfl];rw[<- hpl];rcases Ai.mp hx with h | h
   ·exact jG hi.live x h
   ·exact Y0 (jG hj.live) x h
  rintro σ H5 ⟨s5,S,hS,rfl⟩:_;obtain⟨xs,hX,hI⟩:=id hS;have hxl:=hI.len;rw[ac]at hxl;right
  rfl'
  exact#[_,.inl #[_,SqL.of hX,rfl],yo (λhn=>#[⋯,λp hp=>q2 i j p S _ hi hj he ((s12.trans s5).trans (ze hp)) zf (hS.same (ze hp)) ⋯]) λhn=>q1 (.inr (.inr #[i,j,hi,hj,.inr #[he,⋯]])) _ (s12.trans s5)]
theorem QA(hE:∀e ∈ bs,EOk rs e){u v:()}{i j:Nat}(hi:EndsAt (zb bs) u i)(hj:EndsAt (zb bs) v j)(he:wAt (zb bs) u i=wAt (zb bs) v j):z8 rs u (jz bs u v i j)=tY v:=by
 refine jf hE ?_;rw[y8,vL hi.live,he];exact wv (vL hj.live)
theorem zcA{l:()}(h:∀p ∈ rs,p.1.length<=60/\p.2.length<=60/\(∀c ∈ p.1,c ∈ l)/\∀c ∈ p.2,c ∈ l):∀e ∈ fEs rs rs.length,EB l e:=λe he=>by
 obtain⟨i,p,hi,hp,rfl⟩:=qX he;obtain⟨g1,g2,g3,g4⟩:=h p (af hp);exact#[g1,g2,by show ([((i:Int),(0:Int),Aa)]:List Stp).length<=600;simp,g3,g4]
def Kx(K:pW):Sp:=λvs H Q _=>∃(a:pX) (l:()) (ps:List zq) (u v:()) (m:Nat),vs=[.str (tx l),.ref a,.str (tx u),.str (tx v),.int (m:Nat)]/\j9 l=Aa/\LsA K H a (ps.map dR)/\InP l ps/\(∀c ∈ u,c ∈ l)/\(∀c ∈ v,c ∈ l)/\m<=8/\m ^ (m * l.length)<=1000/\(Ear l ps u v (m+1) 0->∀(p:pX) (H':Hp),Same H H'->H' p=tY (.tup [.str "open"])->Q (.ref p) H') /\
 ∀(n N:Nat) (p t:pX) (rs:List pX) (H':Hp),1<=n->n<=m->N<n ^ (n * l.length)->v8 l (j5 n l.length N) ps u v=Aa->Ear l ps u v n N->Same H H'->H' p=tY (.tup [.str "world",.ref t])->TabAt H' t rs (j5 n l.length N)->Q (.ref p) H'
def JwV(l:())(ps:List zq)(u v:())(m:Nat)(H:Hp)(x:V):Prop:=(x=.non/\Ear l ps u v (m+1) 0)\/∃(n N:Nat) (t:pX) (rs:List pX),x=.ref t/\1<=n/\n<=m/\N<n ^ (n * l.length)/\v8 l (j5 n l.length N) ps u v=Aa/\Ear l ps u v n N/\TabAt H t rs (j5 n l.length N)
theorem iF:sQz 5 ["letters","pacts","one","other","most","table"] yH:=by nofun
theorem vm{f CM:pX}(B:Bt mg)(F:("judged_by_worlds"^^^yH))(oy:(6>>>"world_apart") ["letters","pacts","one","other","most"] [] (X6 K CM)):(7&&&["letters","pacts","one","other","most"]) (Kx K):=by
 exists F.ok iF
 ·obtain⟨a,l,ps,u,v,m,rfl,hg,hA,hp,hu,hv,m8,hm,q1,q2⟩:=h
  refine#[_,(zi (zC 5 iF.nd (clP xe0 oy hr .nil rfl (za (pv 0) (za (pv 1) (za (pv 2) (za (pv 3) (za (pv 4) zd)))))))
   (zc (zk (wM (zx op_isN' (pv 5) z7 (zB _)) (zW (za zV zd)) (zW (za zV (za (pv 5) zd))))))),?_]
  have s16:=zP;have s16:=zP;refine zj (λσ H'=>Same H H'/\∃x,JwV l ps u v m H' x/\σ=[~~~l,!!a,~~~u,~~~v,-~~~m,tY (x)]) ?_ ?_
  ·rfl'
   exact#[a,l,ps,u,v,m,rfl,hg,hA,hp,hu,hv,m8,λh=>by lia,λ_ h H' s'=>#[s',.inl #[rfl,h]],λ_ n N h1 h2 h3 h4 h5 t rs H' s' h6 _=>#[s',.inr #[n,N,t,rs,rfl,h1,h2,h3,h4,h5,h6]]]
  rintro σ H1 ⟨s1,x,hx,rfl⟩:_;right;rcases hx with ⟨rfl,hE⟩ | ⟨n,N,t,rs,rfl,h1,h2,h3,h4,h5,h6⟩
  ·rfl'
   exact#[⋯,λp hp=>q1 hE p _ (s1.trans (ze hp)) zf]
  ·rfl'
   exact#[⋯,λp hp=>q2 n N p t rs _ h1 h2 h3 h4 h5 (s1.trans (ze hp)) zf (h6.same (ze hp))]
inductive JOut(K:pW)(H:Hp)(k:Nat)(l:())(ns:List Int)(rs:List zq)(u v:())(r m:Nat)(p:pX):Prop where
 | alike (w:Bool) (es:List Ent) (i j:Nat) (S:pX) (hc:Cpl k l ns (r+1) [] (fEs rs rs.length) w es) (hb:BG k l ns es) (hi:EndsAt (zb es) u i) (hj:EndsAt (zb es) v j) (he:wAt (zb es) u i=wAt (zb es) v j) (hl:(jz es u v i j).length<=2000) (hp:H p=tY (.tup [.str "alike",.ref S])) (hS:LsA K H S ((jz es u v i j).map dSt))
 | forms (es:List Ent) (i j:Nat) (D:pX) (hc:Cpl k l ns (r+1) [] (fEs rs rs.length) Aa es) (hb:BG k l ns es) (hi:EndsAt (zb es) u i) (hj:EndsAt (zb es) v j) (hn:wAt (zb es) u i≠wAt (zb es) v j) (hp:H p=tY (.tup [.str "forms",.ref D,.str (tx (wAt (zb es) u i)),.str (tx (wAt (zb es) v j))])) (hD:EnsM K H D es)
 | world (w:Bool) (es:List Ent) (n N:Nat) (t:pX) (ts:List pX) (hc:Cpl k l ns (r+1) [] (fEs rs rs.length) w es) (hb:BG k l ns es) (hno:NoR es w u v) (h1:1<=n) (h2:n<=m) (h3:N<n ^ (n * l.length)) (h4:v8 l (j5 n l.length N) rs u v=Aa) (h5:Ear l rs u v n N) (hp:H p=tY (.tup [.str "world",.ref t])) (ht:TabAt H t ts (j5 n l.length N))
 | open_ (w:Bool) (es:List Ent) (hc:Cpl k l ns (r+1) [] (fEs rs rs.length) w es) (hb:BG k l ns es) (hno:NoR es w u v) (h5:Ear l rs u v (m+1) 0) (hp:H p=tY (.tup [.str "open"]))
def zdf(K:pW)(CO CR CW TB:pX):Sp:=λvs H Q _=>∃(o a:pX) (k:Nat) (l:()) (ns:List Int) (rs:List zq) (u v:()) (r m:Nat),vs=[.ref o,.ref a,.str (tx u),.str (tx v),.int (r:Nat),.int (m:Nat)]/\OrdAt CO CR CW H o k l ns/\OG l ns k/\LsA K H a (rs.map dR)/\rs.length<=20/\(∀p ∈ rs,p.1.length<=60/\p.2.length<=60/\(∀c ∈ p.1,c ∈ l)/\∀c ∈ p.2,c ∈ l)/\u.length<=60/\v.length<=60/\(∀c ∈ u,c ∈ l)/\(∀c ∈ v,c ∈ l)/\r<=1000/\m<=8/\m ^ (m * l.length)<=1000/\TabOk H TB lp lq /\
 ∀(p:pX) (H':Hp),SamT TB H H'->TabOk H' TB lp lq->JOut K H' k l ns rs u v r m p->Q (.ref p) H'
def JrV(K:pW)(H:Hp)(es:List Ent)(w:Bool)(u v:())(D:pX)(x:V):Prop:=(x=.non/\NoR es w u v)\/∃p:pX,x=.ref p/\((∃i j,w=Aa/\EndsAt (zb es) u i/\EndsAt (zb es) v j/\wAt (zb es) u i≠wAt (zb es) v j/\H p=tY (.tup [.str "forms",.ref D,.str (tx (wAt (zb es) u i)),.str (tx (wAt (zb es) v j))]))\/∃i j S,EndsAt (zb es) u i/\EndsAt (zb es) v j/\wAt (zb es) u i=wAt (zb es) v j/\(jz es u v i j).length<=2000/\H p=tY (.tup [.str "alike",.ref S])/\LsA K H S ((jz es u v i j).map dSt))
theorem mP:sQz 6 ["order","pacts","one","other","rounds","most","outcome","answer"] kD:=by nofun
theorem Vz{f CO CR CW TB CM:pX}(B:Bt mg)(TO:TOrd K mg CO CR CW)(TM:Kk K mg CM)(F:("judged"^^^kD))(oY:(10<<<"completed") ["order","pacts","rounds"] [] (KS K CO CR CW TB))(nq:(6<<<"judged_by_roads") ["whole","kept","one","other"] [] (KW K))(ik:(2<<<"tables_within") ["letters","rooms"] [] vT)(mQ:(7<<<"judged_by_worlds") ["letters","pacts","one","other","most"] [] (Kx K)):(11|||["order","pacts","one","other","rounds","most"]) (zdf K CO CR CW TB):=by
 exists Fun.okX F mP,0
 ·obtain⟨o,a,k,l,ns,rs,u,v,r,m,rfl,ho,hG,hA,hrl,hrs,hul,hvl,hu,hv,hr',hm8,hm,hTab,q⟩:=h
  refine#[_,(zi (zK (zY (yK (cl0 ik hr .nil rfl (za (qf (pv 0) rfl) (za (pv 5) zd))) (λ_=>rfl)))
    (zc (yb hx rfl TM.xi.toXC TM.ini rfl TM.g (za zV zd)))
    zt)
   (zi (zC 6 mP.nd (cl0 oY hr .nil rfl (za (pv 0) (za (pv 1) (za (pv 4) zd)))))
   (zi (zC 7 mP.nd (cl0 nq hr .nil rfl (za (zo ix_tup (pv 6) zg) (za (zo ix_tup (pv 6) zg) (za (pv 2) (za (pv 3) zd))))))
   (zi (zK (zx op_isN' (pv 7) z7 (zB _))
    (zc (zk (cl0 mQ hr .nil rfl (za (qf (pv 0) rfl) (za (pv 1) (za (pv 2) (za (pv 3) (za (pv 5) zd))))))))
    zt)
   (zc (zk (pv 7))))))),?_]
  have s16:=zP;have s16:=zP;obtain⟨l1,l6,lsm,lnd⟩:=of_decide_eq_true hG.g;obtain⟨C,dy,fs,hf,ho1,_,hlk⟩:=ho.fam
  have hC:Cls K C/\NoAttr K C "letters":=by
   rcases hf with rfl | rfl | rfl
   ·exact#[TO.cO,TO.lO]
   ·exact#[TO.cR,TO.lR]
   ·exact#[TO.cW,TO.lW]
  refine zj (λσ H'=>H'=H/\σ=[!!o,!!a,~~~u,~~~v,-~~~r,-~~~m,tZ,tZ]) ?_ ?_
  ·rfl'
   refine#[_,_,_,ho1,hC.1,hC.2,_,hlk,jS l6 hm8 ?_];rw[decide_eq_true hm];exact#[Aa,rfl,Zw rfl]
  rintro σ H1 ⟨rfl,rfl⟩:_;right;refine zj (λσ H'=>SamT TB H1 H'/\TabOk H' TB lp lq/\∃(w:Bool) (es:List Ent) (p D:pX),Cpl k l ns (r+1) [] (fEs rs rs.length) w es/\BG k l ns es/\H' p=tY (.tup [.bl w,.ref D])/\EnsM K H' D es/\σ=[!!o,!!a,~~~u,~~~v,-~~~r,-~~~m,!!p,tZ]) ?_ ?_
  ·rfl'
   exact#[o,a,k,l,ns,rs,r,rfl,ho,hG,hA,hrl,λp hp=>#[by have:=hrs p hp;lia,by have:=hrs p hp;lia,(hrs p hp).2.2],λp hp=>#[(hrs p hp).1,(hrs p hp).2.1],hr',hTab,λw es p D H' h1 h2 h3 h3' h4 h5=>#[h3,h3',w,es,h1,h2,p,D,h4,h5,rfl]]
  rintro σ H2 ⟨s2,hT2,w,es,p,D,hCp,hB,hp,hD,rfl⟩:_;obtain⟨tbl,htb,_⟩:=id hTab;right;refine zj (λσ H'=>Same H2 H'/\∃v7,JrV K H' es w u v D v7/\σ=[!!o,!!a,~~~u,~~~v,-~~~r,-~~~m,!!p,tY (v7)]) ?_ ?_
  ·rfl'
   exact#[_,SqT.of hp,_,rfl,_,SqT.of hp,_,rfl,D,k,l,ns,es,w,u,v,rfl,hG,hD.l,hB,hul,hvl,λhno H' s'=>#[s',.inl #[rfl,hno]],λi j p H' hw hi hj hn s' h1=>#[s',.inr #[p,rfl,.inl #[i,j,hw,hi,hj,hn,h1]]],λi j p S H' hi hj hij s' h1 h2 h3=>#[s',.inr #[p,rfl,.inr #[i,j,S,hi,hj,hij,h3,h1,h2]]]]
  rintro σ H3 ⟨s3,v7,hv7,rfl⟩:_;have sT:=s2.trans (SamT.of s3);have hT3:=hT2.same s3;have hA3:=hA.samT sT htb;right;rcases hv7 with ⟨rfl,hno⟩ | ⟨p',rfl,hv7⟩
  ·refine jI (λ_ _=>False) ?_ λ_ _ h=>h.elim
   rfl'
   exact#[_,_,_,sT.at htb ho1 (λ_ z=>by cases z),hC.1,hC.2,_,hlk,a,l,rs,u,v,m,rfl,hG.g,hA3,λp hp=>(hrs p hp).2.2,hu,hv,hm8,hm,λhE p H' s' h=>q p H' (sT.trans (SamT.of s')) (hT3.same s') (.open_ w es hCp hB hno hE h),λn N p t ts H' h1 h2 h3 h4 h5 s' h6 h7=>q p H' (sT.trans (SamT.of s')) (hT3.same s') (.world w es n N t ts hCp hB hno h1 h2 h3 h4 h5 h6 h7)]
  ·refine zj (λσ H'=>H'=H3/\σ=[!!o,!!a,~~~u,~~~v,-~~~r,-~~~m,!!p,!!p']) ?_ ?_
   ·rfl'
   rintro σ H4 ⟨rfl,rfl⟩:_;right
   rfl'
   refine q p' _ sT hT3 ?_;rcases hv7 with ⟨i,j,rfl,hi,hj,hn,h1⟩ | ⟨i,j,S,hi,hj,he,hl,h1,h2⟩
   ·exact .forms es i j D hCp hB hi hj hn h1 (hD.same s3)
   ·exact .alike w es i j S hCp hB hi hj he hl h1 h2
structure KXs(K:pW):Prop where
 ss:aQ K (.type "str") (.type "str")=tY Aa
def VE(K:pW):Sp:=λvs H Q _=>∃(a:pX) (es:List Ent),vs=[.ref a]/\Is K H (.lst (es.map dE)) (.ref a)/\Q (.bl Aa) H
theorem nR:sQz 1 ["_law_found","_law_entry"] qj:=by nofun
theorem WP(B:Bt mg)(T:TLs K)(TX:KXs K)(F:("_law_entries"^^^qj))(oj:(2<<<"_law_steps") ["_law_found"] [] (Zf K)):(3&&&["_law_found"]) (VE K):=by
 exists F.ok nR
 ·obtain⟨a,es,rfl,hA,q⟩:=h
  refine#[_,(zi (zK (zY (yK (yx rfl B.isi (pv 0) rfl B.list PySem.Pv.boot_list) (λ_=>rfl)))
    (zc (zk yQ))
    zt)
   (zi (zS PassesOwn.never rfl (yc (pv 0)) (zA (i:=1) nR.nd rfl (.inl rfl))
    (zi (zK (PW.pt (vn (zY (yK (yx rfl B.isi (pv 1) rfl B.tuple PySem.Pv.boot_tuple) (λ_=>rfl))) (vn (zx Ze (zD B.len (pv 1)) zg (zB _)) (wc (zY (yK (cl0 oj hr .nil rfl (za (zo ix_tup (pv 1) zg) zd)) (λ_=>rfl)))))))
     (zc (zk yQ))
     zt)
    (zc (zK (PW.pt (vn (zY (yK (yx rfl B.isi (zo ix_tup (pv 1) zg) rfl B.str PySem.Pv.boot_str) (λ_=>rfl))) (wc (zY (yK (yx rfl B.isi (zo ix_tup (pv 1) zg) rfl B.str PySem.Pv.boot_str) (λ_=>rfl))))))
     (zc (zk yQ))
     zt))))
   (zc (zk yQ)))),?_]
  have s16:=zP
  erw[Is]at hA
  obtain⟨_,xs,e,hX,hI⟩:=hA;cases e;refine zj (λσ H'=>H'=H/\σ=[!!a,tZ]) ?_ ?_
  ·rfl'
   exact#[_,.inr (.inr (.inl #[_,_,rfl,rfl,hX])),Aa,T.ll,Zw trivial]
  rintro σ H1 ⟨rfl,rfl⟩:_;right;refine zj (λσ H'=>H'=H1/\∃v1,σ=[!!a,v1]) ?_ ?_
  ·rfl'
   refine#[#[_,hX],ForL.by (xs:=xs) (λi σ H'=>H'=H1/\∃v1,σ=[!!a,v1]) #[rfl,_,rfl] (λi σ H' _ h=>by rw[h.1];exact hX) ?_ λσ H' h=>h];refine nm4 ?_;rintro i x σ H' hx ⟨rfl,v1,rfl⟩:_;obtain⟨e,pe,se,hei,rfl,hqe,hse⟩:=WC hI hx;right
   erw[yD,aX,aW]
   refine zj (λσ H''=>H''=H'/\σ=[!!a,!!pe]) ?_ ?_
   ·rfl'
    exact#[_,.inr (.inr (.inr #[_,_,rfl,rfl,hqe])),Aa,T.tt,Zw #[_,.inr #[_,hqe,rfl],yo (λh=>absurd rfl h) λ_=>#[_,hqe,_,rfl,se,e.2.2,rfl,hse,Aa,rfl,Zw rfl]]]
   rintro σ G ⟨rfl,rfl⟩:_;right
   rfl'
   exact#[_,hqe,_,rfl,_,.inl (.str _),Aa,TX.ss,Zw #[_,hqe,_,rfl,_,.inl (.str _),Aa,TX.ss,Zw trivial]]
  rintro σ H2 ⟨rfl,v1,rfl⟩:_;right
  rfl'
  exact q
def Qg(K:pW):Sp:=λvs H Q _=>∃(t:pX) (rs:List pX) (tab:List (List Int)) (l:()),vs=[.ref t,.int (l.length:Nat)]/\TabAt H t rs tab/\ww l tab/\l.length<=6/\∀H',Same H H'->Q (.bl Aa) H'
theorem zaP{t:pX}{rs:List pX}{tab:List (List Int)}{l:()}(h1:TabAt H t rs tab)(h2:ww l tab)(h3:l.length<=6)(q:∀H',Same H H'->Q (.bl Aa) H'):Qg K [.ref t,.int (l.length:Nat)] H Q E:=#[t,rs,tab,l,rfl,h1,h2,h3,q]
theorem nA:sQz 2 ["_law_table","_law_many","_law_row"] wS:=by nofun
theorem Xp(B:Bt mg)(T:TLs K)(F:("_law_table_ok"^^^wS))(ni:(1<<<"_law_whole") ["_law_found"] [] vI):(2&&&["_law_table","_law_many"]) (Qg K):=by
 exists F.ok nA
 ·obtain⟨t,rs,tab,l,rfl,hT,hG,l6,q⟩:=h
  refine#[_,(zi (zK (PW.pt (vn (zY (yK (yx rfl B.isi (pv 0) rfl B.list PySem.Pv.boot_list) (λ_=>rfl))) (wc (zx WS (zD B.len (pv 0)) zg (zB _)))))
    (zc (zk yQ))
    zt)
   (zi (zS PassesOwn.never rfl (yc (pv 0)) (zA (i:=2) nA.nd rfl (.inl rfl))
    (zi (zK (PW.pt (vn (zY (yK (yx rfl B.isi (pv 2) rfl B.list PySem.Pv.boot_list) (λ_=>rfl))) (wc (zx Ze (zD B.len (pv 2)) (pv 1) (zB _)))))
     (zc (zk yQ))
     zt)
    (zc (zK (zY (yK (yW (zei rfl) rfl B.all PyProof.Rows.boot_all (za (xY (own:=["_law_room"]) (caps:=["_law_table"]) (ix:=[0]) (tt:=vS) (te:=(VQ (jE vI [] E0 (zM (yt 0) xM)) (jM zdD zdL (tC (.int 0)) (yt 0) (tCB (Vd K) (zM (yt 1) xM))))) rfl (z6 (sc:=zh wS) rfl (by symm) (by symm) (by symm) rfl (by symm) (by symm) rfl) (yc (pv 2)) (λ_ _ _ _ _ _=>zA (i:=0) (show List.Nodup [_,_] by decide) rfl (.inl rfl)) (λ_ _ _ _ _ _=>y0) (λ_ _ _ _ _ _=>(qy (cl0 ni hr .nil rfl (za (pv 0) zd)) (qZ (Wh x0 VG zg (pv 0) (zD B.len (pv 1))))))) zd)) (λ_=>rfl)))
     (zc (zk yQ))
     zt))))
   (zc (zk yQ)))),?_]
  have s16:=zP;have s16:=zP;have hlo:=hG.lo;have hhi:=hG.hi;have hln:=hT.len;refine zj (λσ H'=>H'=H/\σ=[!!t,tY (.int (l.length:Nat)),tZ]) ?_ ?_
  ·rfl'
   exact#[_,.inr (.inr (.inl #[_,_,rfl,rfl,SqL.of hT.top])),Aa,T.ll,Zw #[_,.inl #[_,SqL.of hT.top,rfl],yo (λh=>by rw[ac]at h;lia) λ_=>trivial]]
  rintro σ H1 ⟨rfl,rfl⟩:_;right;refine zj (λσ H'=>Same H1 H'/\∃v2,σ=[!!t,tY (.int (l.length:Nat)),v2]) ?_ ?_
  ·rfl'
   refine#[#[_,SqL.of hT.top],ForL.by (xs:=rs.map V.ref) (λi σ H'=>Same H1 H'/\∃v2,σ=[!!t,tY (.int (l.length:Nat)),v2]) #[Same.refl _,_,rfl] (λi σ H' _ h=>SqL.of (h.1 _ _ hT.top)) ?_ λσ H' h=>h];refine nm4 ?_;rintro i x σ H' hx ⟨hs,v2,rfl⟩:_;rw[ar]at hx;obtain⟨r,hr,rfl⟩:=Ak.mp hx;have hil:=(Af.mp hr).1;have hy:tab[i]? = tY (tab[i]'⋯):=ae ⋯;right;generalize tab[i]'⋯=y at hy;have hym:=af hy;have hR:=hs _ _ (hT.row i r y hr hy)
   erw[yD,aX,aW]
   refine zj (λσ G=>G=H'/\σ=[!!t,tY (.int (l.length:Nat)),!!r]) ?_ ?_
   ·rfl'
    exact#[_,.inr (.inr (.inl #[_,_,rfl,rfl,SqL.of hR])),Aa,T.ll,Zw #[_,.inl #[_,SqL.of hR,rfl],yo (λh=>absurd (by rw[ac,hG.wd y hym]) h) λ_=>trivial]]
   rintro σ H2 ⟨rfl,rfl⟩:_;right
   rfl'
   refine#[#[_,SqL.of hR],λD hD=>CompL.by (xs:=y.map V.int) (λi Ae G=>Same H2 G/\G D=tY (.lst Ae)/\Ae=aT i (V.bl Aa)) #[ze hD,zf,rfl] (λi Ae G _ h=>SqL.of (h.1 _ _ hR)) ?_ ?_]
   ·refine nm4 ?_;rintro n x Ae G hx ⟨hs2,hH,rfl⟩:_;rw[ar]at hx;obtain⟨z,hz,rfl⟩:=Ak.mp hx;have hzl:=(Af.mp hz).1;have hzb:=hG.rm y hym z (af hz);have hyl:=hG.wd y hym;right
    erw[vS]
    rfl'
    have ht2:=hs2 _ _ (hs _ _ hT.top);refine#[xZ,ja #[Aa,rfl,zdR (yo (λ_=>#[_,.inl #[_,SqL.of ht2,rfl],hH,by rw[bP];lia,CNx.mk (by rw[ac];exact hzl) #[zH hs2 hD,zf,?_]]) λh=>absurd hzb.1 h)]];rw[ac,decide_eq_true ⋯,List.replicate_succ']
   ·rintro Ae G ⟨hs2,hH,rfl⟩;refine#[D,aT y.length Aa,rfl,?_,?_]
    ·rw[List.map_replicate,ac]at *;exact SqL.of hH
    ·have e:(aT y.length Aa).all id=Aa:=by simp
     rw[e];exact#[Aa,rfl,Zw (hs.trans hs2)]
  rintro σ H2 ⟨s2,v2,rfl⟩:_;right
  rfl'
  exact q _ s2
structure TAn(K:pW):Prop where
 tt:aQ K (.type "tuple") (.type "tuple")=tY Aa
 ss:aQ K (.type "str") (.type "str")=tY Aa
inductive zem(K:pW)(H:Hp)(l:())(p:pX):Prop where
 | open_ (h:H p=tY (.tup [.str "open"]))
 | alike (S:pX) (ss:List Stp) (h:H p=tY (.tup [.str "alike",.ref S])) (hS:LsA K H S (ss.map dSt))
 | forms (D:pX) (es:List Ent) (f g:()) (h:H p=tY (.tup [.str "forms",.ref D,.str (tx f),.str (tx g)])) (hD:EnsM K H D es)
 | world (t:pX) (ts:List pX) (tab:List (List Int)) (h:H p=tY (.tup [.str "world",.ref t])) (ht:TabAt H t ts tab) (hG:ww l tab)
theorem JOut.ans{l:()}{u v:()}{r m:Nat}{p:pX}(h:JOut K H k l ns rs u v r m p)(hm:m<=8):zem K H l p:=by
 cases h with
 | alike w es i j S hc hb hi hj he hl hp hS=>exact .alike S _ hp hS
 | forms es i j D hc hb hi hj hn hp hD=>exact .forms D es _ _ hp hD
 | world w es n N t ts hc hb hno h1 h2 h3 h4 h5 hp ht=>exact .world t ts _ hp ht (Wy N h1 ⋯)
 | open_ w es hc hb hno h5 hp=>exact .open_ hp
def V5(K:pW):Sp:=λvs H Q _=>∃(p:pX) (l:()),vs=[.ref p,.int (l.length:Nat)]/\l.length<=6/\zem K H l p/\∀H',Same H H'->Q (.bl Aa) H'
theorem Qe:sQz 2 ["_law_found","_law_many"] kT:=by nofun
theorem VR(B:Bt mg)(T:TAn K)(F:("_law_answer"^^^kT))(oj:(2<<<"_law_steps") ["_law_found"] [] (Zf K))(pi:(2<<<"_law_table_ok") ["_law_table","_law_many"] [] (Qg K))(pq:(3<<<"_law_entries") ["_law_found"] [] (VE K)):(4&&&["_law_found","_law_many"]) (V5 K):=by
 exists F.ok Qe
 ·obtain⟨p,l,rfl,l6,hA,q⟩:=h
  refine#[_,(zi (zK (PW.pt (vn (zY (yK (yx rfl B.isi (pv 0) rfl B.tuple PySem.Pv.boot_tuple) (λ_=>rfl))) (vn (zx VG (zD B.len (pv 0)) zg (zB _)) (wc (zY (yK (yx rfl B.isi (zo ix_tup (pv 0) zg) rfl B.str PySem.Pv.boot_str) (λ_=>rfl)))))))
    (zc (zk yQ))
    zt)
   (zi (zK (zx y4 (zo ix_tup (pv 0) zg) zV (zB _))
    (zc (zk (qy (yE y4 (zD B.len (pv 0)) zg (zB _)) (qZ (cl0 oj hr .nil rfl (za (zo ix_tup (pv 0) zg) zd))))))
    zt)
   (zi (zK (zx y4 (zo ix_tup (pv 0) zg) zV (zB _))
    (zi (zK (PW.pt (vn (zx Ze (zD B.len (pv 0)) zg (zB _)) (wc (zY (yK (cl0 pq hr .nil rfl (za (zo ix_tup (pv 0) zg) zd)) (λ_=>rfl))))))
     (zc (zk yQ))
     zt)
    (zc (zk (qy (yx rfl B.isi (zo ix_tup (pv 0) zg) rfl B.str PySem.Pv.boot_str) (qZ (yx rfl B.isi (zo ix_tup (pv 0) zg) rfl B.str PySem.Pv.boot_str))))))
    zt)
   (zi (zK (zx y4 (zo ix_tup (pv 0) zg) zV (zB _))
    (zc (zk (qy (yE y4 (zD B.len (pv 0)) zg (zB _)) (qZ (cl0 pi hr .nil rfl (za (zo ix_tup (pv 0) zg) (za (pv 1) zd)))))))
    zt)
   (zc (zk (yE (QK (kL hr)) (pv 0) (zW (za zV zd)) (zB _)))))))),?_]
  have s16:=zP;have s16:=zP;refine zj (λσ H'=>H'=H/\σ=[!!p,tY (.int (l.length:Nat))]) ?_ ?_
  ·rfl'
   have key:∀(a:re) (xs:List V),H p=tY (.tup (.str a::xs))->∃x,TyX K H (.ref p) x/\∃x_1,aQ K x (.type "tuple")=tY x_1/\if x_1=Ab then Q (.bl Ab) H else ∃x,((∃xs,SqL K H p xs/\x=xs.length)\/∃xs,SqT K H p xs/\x=xs.length)/\if (x:Int)<1 then Q (.bl Ab) H else ∃xs,SqT K H p xs/\∃v,atI xs 0=tY v/\∃x,TyX K H v x/\∃x_2,aQ K x (.type "str")=tY x_2/\if x_2=Ab then Q (.bl Ab) H else True:=λa xs h =>
    #[_,.inr (.inr (.inr #[_,_,rfl,rfl,SqT.of h])),Aa,T.tt,Zw #[_,.inr #[_,SqT.of h,rfl],yo (λz=>by rw[aB]at z;lia) λ_=>#[_,SqT.of h,.str a,vw (j:=0) rfl,_,.inl (.str _),Aa,T.ss,Zw trivial]]]
   cases hA with
   | open_ h=>exact key _ _ h
   | alike S ss h hS=>exact key _ _ h
   | forms D es f g h hD=>exact key _ _ h
   | world t ts tab h ht hG=>exact key _ _ h
  rintro σ H1 ⟨rfl,rfl⟩:_;have skip:∀{a b:re} {xs:List V} {A:Prop} {B:Prop},H1 p=tY (.tup (.str a::xs))->a≠b->B->∃xs,SqT K H1 p xs/\∃v,atI xs 0=tY v/\Vs v (.str b)=Aa/\if v=.str b then A else B:=λ{a b xs A B} h hne hB=>#[_,SqT.of h,.str a,vw (j:=0) rfl,rfl,yo (λz=>absurd (V.str.inj z) hne) λ_=>hB];right
  cases hA with
  | alike S ss h hS =>
   refine jI (λ_ _=>False) ?_ λ_ _ h=>h.elim
   rfl'
   exact#[_,SqT.of h,_,rfl,rfl,yo (λ_=>#[_,.inr #[_,SqT.of h,rfl],yo (λ_=>#[_,SqT.of h,_,rfl,S,ss,rfl,hS.is,q _ (Same.refl _)]) λz=>absurd rfl z]) λz=>absurd rfl z]
  | forms D es f g h hD =>
   refine zj (λσ H'=>H'=H1/\σ=[!!p,tY (.int (l.length:Nat))]) ?_ ?_
   ·rfl'
    exact skip h ∅ trivial
   rintro σ H2 ⟨rfl,rfl⟩:_;right;refine jI (λ_ _=>False) ?_ λ_ _ h=>h.elim
   rfl'
   refine#[_,SqT.of h,_,rfl,rfl,yo (λ_=>?_) λz=>absurd rfl z];refine zj (λσ H'=>H'=H2/\σ=[!!p,tY (.int (l.length:Nat))]) ?_ ?_
   ·rfl'
    exact#[_,.inr #[_,SqT.of h,rfl],yo (λz=>absurd rfl z) λ_=>#[_,SqT.of h,_,rfl,D,es,rfl,hD.l.is,Aa,rfl,Zw rfl]]
   rintro σ H3 ⟨rfl,rfl⟩:_;right
   rfl'
   exact#[_,SqT.of h,_,rfl,_,.inl (.str _),Aa,T.ss,zdR #[_,SqT.of h,_,rfl,_,.inl (.str _),Aa,T.ss,q _ (Same.refl _)]]
  | world t ts tab h ht hG =>
   refine zj (λσ H'=>H'=H1/\σ=[!!p,tY (.int (l.length:Nat))]) ?_ ?_
   ·rfl'
    exact skip h ∅ trivial
   rintro σ H2 ⟨rfl,rfl⟩:_;right;refine zj (λσ H'=>H'=H2/\σ=[!!p,tY (.int (l.length:Nat))]) ?_ ?_
   ·rfl'
    exact skip h ∅ trivial
   rintro σ H3 ⟨rfl,rfl⟩:_;right;refine jI (λ_ _=>False) ?_ λ_ _ h=>h.elim
   rfl'
   exact#[_,SqT.of h,_,rfl,rfl,yo (λ_=>#[_,.inr #[_,SqT.of h,rfl],yo (λ_=>#[_,SqT.of h,_,rfl,zaP ht hG l6 q]) λz=>absurd rfl z]) λz=>absurd rfl z]
  | open_ h =>
   refine zj (λσ H'=>H'=H1/\σ=[!!p,tY (.int (l.length:Nat))]) ?_ ?_
   ·rfl'
    exact skip h ∅ trivial
   rintro σ H2 ⟨rfl,rfl⟩:_;right;refine zj (λσ H'=>H'=H2/\σ=[!!p,tY (.int (l.length:Nat))]) ?_ ?_
   ·rfl'
    exact skip h ∅ trivial
   rintro σ H3 ⟨rfl,rfl⟩:_;right;refine zj (λσ H'=>H'=H3/\σ=[!!p,tY (.int (l.length:Nat))]) ?_ ?_
   ·rfl'
    exact skip h ∅ trivial
   rintro σ H4 ⟨rfl,rfl⟩:_;right
   rfl'
   refine#[⋯,λp1 hp1=>YI (l:=[.str "open"]) (m:=[.str "open"]) (.inr #[?_,?_]) ∅ ?_]
   ·erw[Is,Iss]
    exact#[_,_,rfl,SqT.of (ze hp1 _ _ h),_,_,rfl,rfl,rfl]
   ·erw[Is,Iss]
    exact#[_,_,rfl,SqT.of zf,_,_,rfl,rfl,rfl]
   ·rw[wD];exact q _ (ze hp1)
theorem none_of{w:()}(h:∀p ∈ ps,¬ Within p.1 w):zG w ps=tZ:=by
 cases e:zG w ps with
 | none=>rfl
 | some u =>
  obtain⟨p,h1,h2⟩:=yh e;exact absurd (UK h2) (h p (af h1))
theorem Yb{w:()}(h:zG w ps=tZ):EndsAt ps w 0:=#[λi hi=>absurd hi (bV i),h,aD _]
theorem Z4(bs:List Ent)(e:Ent):yB bs e 0 0=e:=by
 show (e.1,e.2.1,[] ++ e.2.2 ++ [])=e;rw[aZ,aP]
theorem WV{p w:()}(h:Within p w):p.length<=w.length/\(p.length=w.length->p=w):=by
 obtain⟨a,b,rfl⟩:=h
 erw[ak]
 refine#[⋯,λe=>?_];have ha:a=[]:=Au.mp ⋯;have hb:b=[]:=Au.mp ⋯;rw[ha,hb,aZ,aP]
structure TLe(k:Nat)(l:())(ns:List Int)(s:Nat)(e:Ent):Prop where
 a:e.1.length=s
 b:e.2.1.length<s
 lt:zL k l ns e.2.1 e.1=Aa
 far:¬ qc e
theorem J9{k s:Nat}{l:()}{bs es:List Ent}{r:Option (List Ent)}(h:yS k l ns bs es r):(∀e ∈ bs ++ es,TLe k l ns s e)->(bs ++ es).Pairwise (λa b=>a.1≠b.1)->r=tY (bs ++ es):=by
 have key:∀{bs es:List Ent} {e:Ent},(∀x ∈ bs ++ e::es,TLe k l ns s x)->(bs ++ e::es).Pairwise (λa b=>a.1≠b.1)->EndsAt (zb bs) e.1 0/\EndsAt (zb bs) e.2.1 0/\TLe k l ns s e:=λ{bs es e} h1 h2=>by
  have he:=h1 e (by simp);refine#[Yb (none_of λp hp hw=>?_),Yb (none_of λp hp hw=>?_),he]
  all_goals
   obtain⟨x,hx,rfl⟩:=Ag.mp hp;have hx':=h1 x (bn _ hx);have hl:=WV hw;have:=hx'.a;have:=he.a;have:=he.b
  ·exact (Av.mp h2).2.2 x hx e aw (hl.2 (by show x.1.length=_;lia))
  ·have:=hl.1
   change x.1.length<=_ at this
   lia
 induction h with
 | nil bs=>intro _ _;rw[aP]
 | @same bs es e i j r h1 h2 h3 h4 ih =>
  intro g1 g2;obtain⟨a1,a2,he⟩:=key g1 g2;rw[h1.uniq a1,h2.uniq a2]at h3;have h3':e.1.length=e.2.1.length:=congrArg dY h3;have:=he.a;have:=he.b;lia
 | @new bs es e i j r h1 h2 h3 h4 h5 ih =>
  intro g1 g2;obtain⟨a1,a2,he⟩:=key g1 g2
  have e0:zQ k l ns (yB bs e i j)=e:=by
   rw[h1.uniq a1,h2.uniq a2,Z4];unfold zQ;rw[if_pos he.lt]
  rw[e0,aL]at ih;exact ih g1 g2
 | @far bs es e i j h1 h2 h3 h4 =>
  intro g1 g2;obtain⟨a1,a2,he⟩:=key g1 g2;rw[h1.uniq a1,h2.uniq a2,Z4]at h4;exact absurd h4 he.far
 | @stuck bs es e h =>
  intro g1 g2;obtain⟨a1,a2,he⟩:=key g1 g2;rcases h with h | h
  ·exact absurd a1 (h 0)
  ·exact absurd a2 (h 0)
theorem zaU{k n s:Nat}{l:()}{r:Option (List Ent)}(h:v0 k l ns (n+1) es r)(hz:∀zs,Lined k l ns es zs->(∀e ∈ zs,TLe k l ns s e)/\zs.Pairwise λa b=>a.1≠b.1):∃zs,Lined k l ns es zs/\r=tY zs:=by
 have key:∀{zs r},Lined k l ns es zs->yS k l ns [] zs r->r=tY zs:=λ{zs r} h1 h2=>by
  have:=J9 h2 (by rw[aZ];exact (hz zs h1).1) (by rw[aZ];exact (hz zs h1).2);rw[aZ]at this;exact this
 cases h with
 | bad h1 h2=>cases key h1 h2
 | done h1 h2 h3=>exact#[_,h1,key h1 h2]
 | more h1 h2 h3 h4 =>
  cases key h1 h2;exact absurd rfl h3
noncomputable def lgR(p:zq):zq:=if p.1.length<p.2.length then (p.2,p.1)else p
theorem Zy(rs:List zq):∀n,n<=rs.length->zb (fEs rs n)=rs.take n
 | 0,_=>by simp [fEs,zb]
 | n+1,h=>by
  have ih:=Zy rs n ⋯;have e:rs[n]? = tY (rs[n]'⋯):=ae ⋯;rw[zN e,<- ih]
  erw[fEs,zb,ax]
  congr 1;rw[e];rfl
structure TLr(l:())(s:Nat)(p:zq):Prop where
 a:p.1.length=s
 b:p.2.length<s
 ma:∀c ∈ p.1,c ∈ l
 mb:∀c ∈ p.2,c ∈ l
theorem JO{k s:Nat}{l:()}{rs rs':List zq}{zs:List Ent}(hk:k≠2)(hs:∀p ∈ rs,TLr l s p)(h60:s<=60)(hA:(rs'.map lgR).Perm rs)(hn:(rs.map Prod.fst).Nodup)(hz:Lined k l ns (fEs rs' rs'.length) zs):((∀e ∈ zs,TLe k l ns s e)/\zs.Pairwise λa b=>a.1≠b.1)/\(zb zs).Perm rs/\∀e ∈ zs,e.2.2.length=1:=by
 have less:∀{u v:()},u.length<v.length->zL k l ns u v=Aa/\zL k l ns v u=Ab:=λ{u v} h=>by
  unfold zL zy;rw[if_neg hk,if_neg hk,if_neg ⋯,if_neg ⋯];exact#[decide_eq_true ⋯,decide_eq_false ⋯]
 have mem:∀p ∈ rs',TLr l s (lgR p):=λp hp=>hs _ (hA.mem_iff.mp (Ag.mpr #[p,hp,rfl]))
 have ne:∀p ∈ rs',p.1.length≠p.2.length:=λp hp e=>by
  have h:=mem p hp;unfold lgR at h;rw[if_neg ⋯]at h;have:=h.a;have:=h.b;lia
 have rul:∀e:Ent,e.1.length≠e.2.1.length->((zQ k l ns e).1,(zQ k l ns e).2.1)=lgR (e.1,e.2.1)/\zL k l ns (zQ k l ns e).2.1 (zQ k l ns e).1=Aa/\(zQ k l ns e).2.2.length=e.2.2.length:=λe h=>by
  unfold zQ lgR;by_cases g:e.1.length<e.2.1.length
  ·rw[if_neg (by rw[(less g).2];decide),if_pos g];exact#[rfl,(less g).1,ym _]
  ·have g':=(less (show e.2.1.length<e.1.length by lia)).1;rw[if_pos g',if_neg g];exact#[rfl,g',rfl]
 have ents:∀e ∈ fEs rs' rs'.length,e.1.length≠e.2.1.length/\e.2.2.length=1/\TLr l s (lgR (e.1,e.2.1)):=λe he=>by
  obtain⟨i,p,hi,hp,rfl⟩:=qX he;have hm:=af hp;exact#[ne p hm,rfl,mem p hm]
 have raw:uW k l ns (fEs rs' rs'.length)=(fEs rs' rs'.length).map (zQ k l ns):=by
  unfold uW
  rw[List.filter_eq_self.mpr λe he=>by
   have:=(ents e he).1
   erw[di,decide_eq_false_iff_not]
   exact λh=>this (by rw[h])]
 have hp0:=hz.perm;rw[raw]at hp0
 have pz:(zb zs).Perm rs:=by
  refine ((hp0.map λe:Ent=>(e.1,e.2.1)).trans ?_).trans hA
  have e1:((fEs rs' rs'.length).map (zQ k l ns)).map (λe:Ent=>(e.1,e.2.1))=(zb (fEs rs' rs'.length)).map lgR:=by
   unfold zb;rw[cp,cp];exact bt λe he=>(rul e (ents e he).1).1
  rw[e1,Zy _ _ (al _),aO]
 have zm:∀e ∈ zs,∃y ∈ fEs rs' rs'.length,e=zQ k l ns y:=λe he=>by
  obtain⟨y,hy,rfl⟩:=Ag.mp (hp0.mem_iff.mp he);exact#[y,hy,rfl]
 have z1:∀e ∈ zs,e.2.2.length=1:=λe he=>by
  obtain⟨y,hy,rfl⟩:=zm e he;rw[(rul y (ents y hy).1).2.2];exact (ents y hy).2.1
 refine#[#[λe he=>?_,?_],pz,z1]
 ·have hr:TLr l s (e.1,e.2.1):=hs _ (pz.mem_iff.mp (Ag.mpr #[e,he,rfl]));have h1:=z1 e he;obtain⟨y,hy,rfl⟩:=zm e he;have ha:=hr.a;have hb:=hr.b;refine#[ha,hb,(rul y (ents y hy).1).2.1,λh=>?_];unfold qc at h;simp only at ha hb;lia
 ·have hn':(zs.map λe:Ent=>e.1).Nodup:=by
   have:(zb zs).map Prod.fst=zs.map λe:Ent=>e.1:=by unfold zb;rw[cp];rfl
   rw[<- this];exact ((pz.map Prod.fst).nodup_iff).mpr hn
  exact List.pairwise_map.mp hn'
theorem Zv(hs:∀p ∈ ps,p.2.length<p.1.length){w:()}:∀{i:Nat},Wm ps w i->(wAt ps w i).length+i<=w.length
 | 0,_=>al _
 | i+1,h=>by
  have ih:=Zv hs (i:=i) λj hj=>h j ⋯
  cases e:zG (wAt ps w i) ps with
  | none=>exact absurd e (h i ⋯)
  | some u =>
   obtain⟨p,h1,h2⟩:=yh e;obtain⟨e1,_⟩:=yu h2;rw[xR e];unfold YV yP;rw[y3 h1];have e2:=congrArg dY e1;have:=hs p (af h1)
   erw[ak]at e2 ⊢
   lia
theorem wT(hs:∀p ∈ ps,p.2.length<p.1.length){w:()}(hw:w.length<=40):∃i,EndsAt ps w i/\i<=w.length:=by
 rcases Ud ps w with ⟨i,h⟩ | ⟨h1,h2⟩
 ·have:=Zv hs h.live;exact#[i,h,⋯]
 ·have:=Zv hs (w:=w) (i:=41) λi hi=>by
   by_cases e:i=40
   ·rw[e];exact h2
   ·exact h1 i ⋯
  lia
theorem uS{w:()}{i:Nat}(h:EndsAt ps w i):goJ ps 40 w=tY i:=by
 cases e:goJ ps 40 w with
 | none=>exact absurd h.end_ (WE e i h.most)
 | some j =>
  obtain⟨_,h2,h3⟩:=XW e;rw[ko h2 h3 h.live h.end_]
theorem zbJ(h:∀t ∈ ovA ps ps.length,∃i j,EndsAt ps (pkA ps t) i/\EndsAt ps (pkB ps t) j/\wAt ps (pkA ps t) i=wAt ps (pkB ps t) j):(∀t ∈ ovA ps ps.length,OkG ps 40 t)/\unG ps 40=[]:=by
 refine#[λt ht=>?_,?_]
 ·obtain⟨i,j,h1,h2,_⟩:=h t ht;exact#[by rw[uS h1];rfl,by rw[uS h2];rfl]
 ·unfold unG;refine List.filter_eq_nil_iff.mpr λt ht=>?_;obtain⟨i,j,h1,h2,h3⟩:=h t ht;unfold Ju zdG;rw[uS h1,uS h2]
  erw[cD,h3,decide_true,d5,br,not_false_eq_true]
theorem QB(h:∀e ∈ es,e.2.2.length=1):∀{us:List Stp},(∀u ∈ us,u.1.toNat<es.length)->(byL es us).length=us.length
 | [],_=>rfl
 | u::us,hu=>by
  have ih:=QB h (us:=us) λx hx=>hu x (am _ hx);unfold byL at ih ⊢;have h0:=hu u aw
  have h1:(es.getD u.1.toNat ([],[],[])).2.2.length=1:=by
   rw[aa,ae h0];exact h _ (cP h0)
  rw[d9,ak,ih,aB];unfold X1;rw[ZT];split
  ·lia
  ·rw[ym];lia
noncomputable def prN(z:Int)(m a b:Nat):Nat:=if z=0 then (a+b) % m else if z=1 then max a b else if z=2 then min a b else if z=3 then a else b
theorem Qk(z:Int)(m a b c:Nat):prN z m (prN z m a b) c=prN z m a (prN z m b c):=by
 unfold prN;by_cases h0:z=0
 ·erw[if_pos h0,Nat.mod_add_mod,Nat.add_mod_mod,Nat.add_assoc]
 by_cases h1:z=1
 ·erw[if_neg h0,if_pos h1,Nat.max_assoc]
 by_cases h2:z=2
 ·erw[if_neg h0,if_neg h1,if_pos h2,Nat.min_assoc]
 by_cases h3:z=3
 ·erw[if_neg h0,if_neg h1,if_neg h2,if_pos h3]
 ·erw[if_neg h0,if_neg h1,if_neg h2,if_neg h3]
theorem Wc{m a b:Nat}(ha:a<m)(hb:b<m):prN z m a b<m:=by
 unfold prN;split
 ·exact Nat.mod_lt _ ⋯
 split
 ·lia
 split
 ·lia
 split
 ·exact ha
 ·exact hb
noncomputable def stN(z:Int)(l:())(o:Option Nat)(c:Nat):Option Nat:=tY ((o.map λn=>prN z l.length n (l.idxOf c)).getD (l.idxOf c))
noncomputable def XX(z:Int)(l w:()):():=((w.foldl (stN z l) tZ).map λn=>l.getD n 0).toList
noncomputable def jB(z:Int)(l:()):List zq:=l.flatMap λx=>l.map λy=>([x,y],[l.getD (prN z l.length (l.idxOf x) (l.idxOf y)) 0])
theorem zaX{l:()}{x y:Nat}(hx:x ∈ l)(hy:y ∈ l):([x,y],[l.getD (prN z l.length (l.idxOf x) (l.idxOf y)) 0]) ∈ jB z l:=As.mpr #[x,hx,Ag.mpr #[y,hy,rfl]]
theorem UN{l:()}{p:zq}(h:p ∈ jB z l):∃x y,x ∈ l/\y ∈ l/\p=([x,y],[l.getD (prN z l.length (l.idxOf x) (l.idxOf y)) 0]):=by
 obtain⟨x,hx,h⟩:=As.mp h;obtain⟨y,hy,rfl⟩:=Ag.mp h;exact#[x,y,hx,hy,rfl]
theorem Wo{l:()}(h:n<l.length):l.getD n 0 ∈ l:=by
 rw[aa,ae h];exact cP h
theorem Ke{l:()}(hl:l.Nodup)(h:n<l.length):l.idxOf (l.getD n 0)=n:=by
 have e:l[n]? = tY (l.getD n 0):=by rw[aa,ae h];rfl
 exact Zt hl (Af.mpr #[aC (Wo h),bS _]) e
theorem Kd{l:()}{c:Nat}(h:c ∈ l):l.getD (l.idxOf c) 0=c:=by
 rw[aa,ae (aC h),bS];rfl
theorem yU{l:()}{p:zq}(h:p ∈ jB z l):TLr l 2 p:=by
 obtain⟨x,y,hx,hy,rfl⟩:=UN h;refine#[rfl,(by decide:1<2),λc hc=>?_,λc hc=>?_]
 ·rcases Ah.mp hc with rfl | hc
  ·exact hx
  ·rw[Aj.mp hc];exact hy
 ·rw[Aj.mp hc];exact Wo (Wc (aC hx) (aC hy))
def zd4(z:Int)(l u v:()):Prop:=∀o,u.foldl (stN z l) o=v.foldl (stN z l) o
theorem qw(z:Int)(l:()):zar (zd4 z l):=#[λ_ _=>rfl,λh o=>(h o).symm,λh g o=>(h o).trans (g o),λa b h o=>by rw[cz,cz,cz,cz,h]]
theorem Wn{z:Int}{l:()}(hl:l.Nodup){p:zq}(h:p ∈ jB z l):zd4 z l p.1 p.2:=by
 obtain⟨x,y,hx,hy,rfl⟩:=UN h;have e:=Ke hl (Wc (z:=z) (aC hx) (aC hy));intro o
 cases o with
 | none=>erw[dA,fk,stN,cY,cD,Option.map_none,dm,e]
 | some n=>erw[dA,fk,stN,cY,cD,e,Qk]
theorem we{l:()}(hl:l.Nodup)(hp:ps.Perm (jB z l)){w:()}(hw:∀c ∈ w,c ∈ l){i:Nat}(h:EndsAt ps w i):wAt ps w i=XX z l w:=by
 have hm:∀p ∈ ps,p ∈ jB z l:=λp h=>hp.mem_iff.mp h;have hR:=J0 (qw z l) (λp h=>Wn hl (hm p h)) w i;have hin:=vk hw (λp h=>(yU (hm p h)).mb) i;have hno:=Xh (λp h e=>by have:=(yU (hm p h)).a;rw[e]at this;cases this) h.end_;unfold XX;rw[hR tZ];generalize wAt ps w i=e at hin hno
 match e,hin,hno with
 | [],_,_=>rfl
 | [c],hin,_ =>
  erw[dA,fk,stN,Option.map_none,dm,cY,Kd (hin c aw)]
  rfl
 | x::y::r,hin,hno=>exact absurd #[[],r,rfl] (hno _ (hp.mem_iff.mpr (zaX (hin x aw) (hin y (am _ aw)))))
theorem jd:∀{l:()},l.Nodup->l.length<=3->((jB z l).map Prod.fst).Nodup/\(jB z l).length<=9:=by
 intro l hl h3;unfold jB;generalize (λx y=>[l.getD (prN z l.length (l.idxOf x) (l.idxOf y)) 0])=g
 match l,hl,h3 with
 | [],_,_=>simp
 | [a],_,_=>simp
 | [a,b],hl,_ =>
  erw[List.nodup_cons,fw,eN,or_false,not_false_eq_true,List.nodup_nil,and_true]at hl
  simp [hl,Ne.symm hl]
 | [a,b,c],hl,_ =>
  erw[List.nodup_cons,fw,eN,or_false,not_false_eq_true,List.nodup_nil,and_true,not_or]at hl
  obtain⟨⟨h1,h2⟩,h3⟩:=hl;simp [h1,h2,h3,Ne.symm h1,Ne.symm h2,Ne.symm h3]
 | _::_::_::_::_,_,h=>exact absurd h (by simp)
theorem Xo{k r:Nat}{l:()}{z:Int}{rs:List zq}{w:Bool}(hk:k≠2)(hl:l.Nodup)(h3:l.length<=3)(hA:(rs.map lgR).Perm (jB z l))(hC:Cpl k l ns (r+1) [] (fEs rs rs.length) w es):w=Aa/\(zb es).Perm (jB z l)/\∀e ∈ es,e.2.2.length=1:=by
 obtain⟨hn,h9⟩:=jd (z:=z) hl h3;have lin:=λzs (hz:Lined k l ns (fEs rs rs.length) zs)=>JO hk (λp h=>yU h) ∅ hA hn hz;have thin:∀{r},v0 k l ns 20 (fEs rs rs.length) r->∃zs,Lined k l ns (fEs rs rs.length) zs/\r=tY zs:=λh=>zaU (n:=19) h λzs hz=>(lin zs hz).1
 have good:∀zs,Lined k l ns (fEs rs rs.length) zs->jc zs=Ab/\(∀t ∈ ovA (zb zs) (zb zs).length,OkG (zb zs) 40 t)/\unG (zb zs) 40=[]:=λzs hz=>by
  obtain⟨⟨h1,_⟩,hp,_⟩:=lin zs hz
  have hb:jc zs=Ab:=by
   unfold jc;have:=hp.length_eq;rw[xF]at this;rw[decide_eq_false ⋯,Bool.false_or,List.any_eq_false];intro e he;have:=(h1 e he).a;have:=(h1 e he).b;rw[decide_eq_true_eq];lia
  refine#[hb,zbJ λt ht=>?_];have tm:∀p ∈ zb zs,p ∈ jB z l:=λp h=>hp.mem_iff.mp h;obtain⟨⟨a1,a2⟩,b1,b2⟩:=zdv (l:=l) (ps:=zb zs) (λp h=>#[(yU (tm p h)).ma,(yU (tm p h)).mb]) (λp h=>#[by have:=(yU (tm p h)).a;lia,by have:=(yU (tm p h)).b;lia]) ht
  have sh:∀p ∈ zb zs,p.2.length<p.1.length:=λp h=>by
   have:=(yU (tm p h)).a;have:=(yU (tm p h)).b;lia
  obtain⟨i,hi,_⟩:=wT sh a1;obtain⟨j,hj,_⟩:=wT sh b1;refine#[i,j,hi,hj,?_];rw[we hl hp a2 hi,we hl hp b2 hj];have hw:=Uk (rs:=rs) (bs:=zs) (kC hz λe he=>WH he) ht
  have hR:∀p ∈ rs,zd4 z l p.1 p.2:=λp h=>by
   have hm:=hA.mem_iff.mp (Ag.mpr #[p,h,rfl]);have g:=Wn hl hm;unfold lgR at g;split at g
   ·exact (qw z l).symm g
   ·exact g
  have:=KB (qw z l) hR hw;unfold XX;rw[show (pkA (zb zs) t).foldl (stN z l) tZ=(pkB (zb zs) t).foldl (stN z l) tZ from this tZ]
 cases hC with
 | slim h =>
  rcases h with h | ⟨bs,h,hb⟩
  ·obtain⟨zs,_,e⟩:=thin h;cases e
  ·obtain⟨zs,hz,e⟩:=thin h;cases e;rw[(good _ hz).1]at hb;cases hb
 | far h hb ht ho =>
  obtain⟨zs,hz,e⟩:=thin h;cases e;exact absurd ((good _ hz).2.1 _ ht) ho
 | whole h hb ho hu =>
  obtain⟨zs,hz,e⟩:=thin h;cases e;exact#[rfl,(lin _ hz).2]
 | more h hb ho hu r =>
  obtain⟨zs,hz,e⟩:=thin h;cases e;exact absurd (good _ hz).2.2 hu
def Alk(rs rs':List zq):Prop:=rs'.length=rs.length/\∀g:zq->zq,(∀p ∈ rs,g (p.2,p.1)=g p)->(rs'.map g).Perm (rs.map g)
theorem Alk.snoc{rs rs':List zq}{r r':zq}(h:Alk rs rs')(e:r'=r\/r'=(r.2,r.1)):Alk (rs ++ [r]) (rs' ++ [r']):=by
 refine#[by rw[ak,ak,h.1];rfl,λg hg=>?_];rw[ax,ax]
 have e':g r'=g r:=by
  rcases e with rfl | rfl
  ·rfl
  ·exact hg r (aA _ aw)
 rw[ao,ao,e'];exact (h.2 g λp hp=>hg p (bn _ hp)).append_right _
theorem Alk.perm{rs rs1 rs2:List zq}(h:Alk rs rs1)(e:rs2.Perm rs1):Alk rs rs2:=#[e.length_eq.trans h.1,λg hg=>(e.map g).trans (h.2 g hg)]
theorem Iss.erase:∀{ds:List L3.D} {vs:List V} {j:Nat},Iss K H ds vs->Iss K H (ds.eraseIdx j) (vs.eraseIdx j)
 | [],vs,j,h=>by
  erw[Iss]at h
  subst h
  erw[ee,Iss]
 | d::ds,vs,j,h=>by
  erw[Iss]at h
  obtain⟨v,r,rfl,h1,h2⟩:=h
  cases j with
  | zero=>exact h2
  | succ j =>
   erw[ce,Iss]
   exact#[v,_,rfl,h1,Iss.erase h2]
theorem jN{α:Type}:∀{xs:List α} {j:Nat} {x:α},xs[j]? = tY x->(x::xs.eraseIdx j).Perm xs
 | [],j,x,h=>by simp at h
 | y::xs,0,x,h=>by simp at h;rw[h];exact .refl _
 | y::xs,j+1,x,h=>by
  rw[ce];exact (List.Perm.swap _ _ _).trans ((jN (by simpa using h)).cons y)
theorem Yj{H H':Hp}{p:pX}(s:Same H H')(h:H' p=tZ):H p=tZ:=by
 cases e:H p with
 | none=>rfl
 | some o =>
  rw[s _ _ e]at h;cases h
theorem ZB{α β:Type}{g:α->β}:∀{xs:List α} {j:Nat},(xs.map g).eraseIdx j=(xs.eraseIdx j).map g
 | [],j=>by rw[aM,ee,ee];rfl
 | x::xs,0=>rfl
 | x::xs,j+1=>by rw[ao,ce,ce,ao,ZB]
def ZG(K:pW):Sp:=λvs H Q _=>∃(a:pX) (c:Int) (rs:List zq),vs=[.ref a,.int c]/\jm c/\LsA K H a (rs.map dR)/\rs.length<=20/\∀(D:pX) (H':Hp) (rs':List zq),H D=tZ->Same H H'->LsA K H' D (rs'.map dR)->Alk rs rs'->Q (.ref D) H'
theorem gu:sQz 2 ["_law_pacts_here","_law_cell_here","_law_number","_law_left","_law_pact","_law_told"] kW:=by nofun
theorem Ue(B:Bt mg)(F:("_law_turned"^^^kW))(iG:(1<<<"_law_mixed") ["_law_cell_here","_law_turn"] [] vH):(2&&&["_law_pacts_here","_law_cell_here"]) (ZG K):=by
 exists F.ok gu
 ·obtain⟨a,c,rs,rfl,hc,hA,hrl,q⟩:=h
  refine#[_,(zi (zC 2 gu.nd (cl0 iG hr .nil rfl (za (pv 1) (za zg zd))))
   (zi (zC 3 gu.nd (xj zd))
   (zi (zS PassesOwn.never rfl (yc (pv 0)) (zA (i:=4) gu.nd rfl (.inl rfl))
    (zi (xm (vq aY bv bw yO (pv 3) (za (zo ix_list (xj (za (pv 4) (za (zW (za (zo ix_tup (pv 4) zg) (za (zo ix_tup (pv 4) zg) zd))) zd))) (zF yV (pv 2) zg)) zd)))
    (zc (zC 2 gu.nd (zF xA (pv 2) zg)))))
   (zi (zC 2 gu.nd (cl0 iG hr .nil rfl (za (pv 1) (za zg zd))))
   (zi (zC 5 gu.nd (xj zd))
   (zi (kh PassesOwn.never (zx U0 (zD B.len (pv 3)) zg (zB _))
    (zi (xm (vq aY bv bw yO (pv 5) (za (vq aY PySem.F.slot_list_pop PySem.F.type_list_pop JK (pv 3) (za (zF yV (pv 2) (zD B.len (pv 3))) zd)) zd)))
    (zc (zC 2 gu.nd (zF xA (pv 2) (zF yj (zD B.len (pv 3)) zg))))))
   (zc (zk (pv 5))))))))),?_]
  have s16:=zP;have s16:=zP;obtain⟨xs,hX,hI⟩:=id hA;have hxl:=hI.len;rw[ac]at hxl;refine zj (λσ H'=>H'=H/\∃z:Int,σ=[!!a,~~~!c,~~~!z,tZ,tZ,tZ]) ?_ ?_
  ·rfl'
   exact wl hc ∅ ∅ λz _=>#[rfl,z,rfl]
  rintro σ H1 ⟨rfl,z,rfl⟩:_;right;refine zj (λσ H'=>∃D:pX,H1 D=tZ/\H'=upd H1 D (.lst [])/\σ=[!!a,~~~!c,~~~!z,!!D,tZ,tZ]) ?_ ?_
  ·rfl'
   exact#[⋯,λp hp=>#[p,hp,rfl,rfl]]
  rintro σ H2 ⟨D,hD,rfl,rfl⟩:_;right;refine zj (λσ H'=>Same H1 H'/\(∃rs1:List zq,LsA K H' D (rs1.map dR)/\Alk rs rs1)/\∃(z:Int) (v:Option V),σ=[!!a,~~~!c,~~~!z,!!D,v,tZ]) ?_ ?_
  ·rfl'
   refine#[#[_,SqL.of (ze hD _ _ hX)],ForL.by (xs:=xs) (λi σ H'=>Same H1 H'/\(∃rs1:List zq,LsA K H' D (rs1.map dR)/\Alk (rs.take i) rs1)/\∃(z:Int) (v:Option V),σ=[!!a,~~~!c,~~~!z,!!D,v,tZ]) #[ze hD,#[[],LsA.nil,rfl,λ_ _=>.refl _],_,_,rfl] (λi σ H' _ h=>SqL.of (h.1 _ _ hX)) ?_ ?_]
   ·refine nm4 ?_;rintro i x σ H3 hx ⟨s3,⟨rs1,hL1,hAk⟩,z,v,rfl⟩:_;have hi:=(Af.mp hx).1;obtain⟨r,p,hr,rfl,hsq⟩:=hI.getR hx;have hsq3:=zr s3 hsq;obtain⟨ys,hY,hJ⟩:=hL1;have hyl:=hJ.len;rw[ac,hAk.1,aI]at hyl;have m0:=bx z (b:=2) ∅;have m1:=bz z (b:=2) ∅;right
    erw[yD,aX,aW]
    refine zj (λσ H'=>Same H1 H'/\(∃rs1:List zq,LsA K H' D (rs1.map dR)/\Alk (rs.take (i+1)) rs1)/\σ=[!!a,~~~!c,~~~!z,!!D,!!p,tZ]) ?_ ?_
    ·rfl'
     have et:rs.take (i+1)=rs.take i ++ [r]:=by
      rw[List.take_add_one,hr];rfl
     rw[et];refine#[.inl #[_,SqL.of hY],_,hsq3,_,rfl,_,hsq3,_,rfl,⋯,λp1 hp1=>#[⋯,λp2 hp2=>#[∅,_,SqL.of zf,?_]]];have s5:=(ze (o:=.tup [.str (tx r.2),.str (tx r.1)]) hp1).trans (ze (o:=.lst [V.ref p,V.ref p1]) hp2);have hr5:SqT K _ p1 [.str (tx r.2),.str (tx r.1)]:=SqT.of (ze (o:=.lst [V.ref p,V.ref p1]) hp2 _ _ zf);rcases (show z % 2=0\/z % 2=1 by lia)with e | e <;> rw[e]
     ·refine#[_,rfl,ys,s5 _ _ hY,⋯,zH (s3.trans s5) hD,rs1 ++ [r],?_,hAk.snoc (.inl rfl)];rw[ax];exact LsA.snoc (s5 _ _ hY) (Iss.same s5 _ _ hJ) (xf rs1) (qu r) (QQ (zr s5 hsq3))
     ·refine#[_,rfl,ys,s5 _ _ hY,⋯,zH (s3.trans s5) hD,rs1 ++ [(r.2,r.1)],?_,hAk.snoc (.inr rfl)];rw[ax];exact LsA.snoc (s5 _ _ hY) (Iss.same s5 _ _ hJ) (xf rs1) (qu (r.2,r.1)) (QQ hr5)
    rintro σ H4 ⟨s4,⟨rs4,hL4,hA4⟩,rfl⟩:_;right
    rfl'
    exact#[#[∅,∅],s4,rs4,hL4,hA4]
   ·rintro σ H' ⟨s',⟨rs1,h1,h2⟩,z,v,rfl⟩;rw[ba ⋯]at h2;exact#[s',#[rs1,h1,h2],z,v,rfl]
  rintro σ H3 ⟨s3,⟨rs1,hL1,hAk⟩,z,v,rfl⟩:_;right;refine zj (λσ H'=>H'=H3/\∃(z:Int) (v:Option V),σ=[!!a,~~~!c,~~~!z,!!D,v,tZ]) ?_ ?_
  ·rfl'
   exact wl hc ∅ ∅ λz _=>#[rfl,z,rfl]
  rintro σ H4 ⟨rfl,z,v,rfl⟩:_;right;refine zj (λσ H'=>∃J:pX,H4 J=tZ/\H'=upd H4 J (.lst [])/\∃v:Option V,σ=[!!a,~~~!c,~~~!z,!!D,v,!!J]) ?_ ?_
  ·rfl'
   exact#[⋯,λp hp=>#[p,hp,rfl,rfl]]
  rintro σ H5 ⟨J,hJ,rfl,v,rfl⟩:_
  have hJD:J≠D:=λe=>by
   obtain⟨_,h,_⟩:=hL1;rw[<- e,hJ]at h;cases h
  have hJ1:H1 J=tZ:=Yj s3 hJ;right;refine zj (λσ H'=>Same H1 H'/\∃rs2:List zq,rs2.Perm rs1/\LsA K H' J (rs2.map dR)/\∃(z:Int) (v:Option V),σ=[!!a,~~~!c,~~~!z,!!D,v,!!J]) ?_ ?_
  ·unfold Wr;refine#[λm σ H'=>Same H1 H'/\∃la lb:List zq,la.length=m/\(lb ++ la).Perm rs1/\LsA K H' D (la.map dR)/\LsA K H' J (lb.map dR)/\∃(z:Int) (v:Option V),σ=[!!a,~~~!c,~~~!z,!!D,v,!!J],#[_,s3.trans (ze hJ),rs1,[],rfl,.refl _,hL1.same (ze hJ),LsA.nil,_,_,rfl],?_];rintro m σ H' ⟨s',la,lb,rfl,hpm,hLa,hLb,z,v,rfl⟩;have hpl:=hpm.length_eq;have ha1:=hAk.1;rw[ak]at hpl;obtain⟨xa,hXa,hIa⟩:=id hLa;obtain⟨xb,hXb,hIb⟩:=id hLb;have hal:=hIa.len;have hbl:=hIb.len;rw[ac]at hal hbl
   rfl'
   refine#[_,.inl #[_,SqL.of hXa,rfl],yo (λhpos=>?_) λhn=>?_]
   ·refine#[λσ' H''=>Same H1 H''/\∃la' lb':List zq,la'.length+1=la.length/\(lb' ++ la').Perm rs1/\LsA K H'' D (la'.map dR)/\LsA K H'' J (lb'.map dR)/\∃(z:Int) (v:Option V),σ'=[!!a,~~~!c,~~~!z,!!D,v,!!J],?_,?_]
    ·rintro σ' H'' ⟨t1,la',lb',t2,t3,t4,t5,z,v,rfl⟩;exact#[la'.length,⋯,t1,la',rfl,lb',t3,t4,t5,z,v,rfl]
    refine zj (λσ H''=>Same H1 H''/\∃la' lb':List zq,la'.length+1=la.length/\(lb' ++ la').Perm rs1/\LsA K H'' D (la'.map dR)/\LsA K H'' J (lb'.map dR)/\σ=[!!a,~~~!c,~~~!z,!!D,v,!!J]) ?_ ?_
    ·rfl'
     have m0:=bx z (b:=(xa.length:Int)) ⋯;have m1:=bz z (b:=(xa.length:Int)) ⋯;obtain⟨y,e1,_⟩:=uI (xs:=xa) m0 m1;obtain⟨j,hj,hy,_⟩:=Zh e1;obtain⟨r,pr,hr,rfl,hsq⟩:=hIa.getR hy;have ep:=jN hr;have epl:=ep.length_eq;rw[aB]at epl;refine#[.inl #[_,SqL.of hXb],.inl #[_,SqL.of hXa],_,.inl #[_,SqL.of hXa,rfl],⋯,D,xa,_,j,_,rfl,rfl,hXa,⋯,⋯,hj,hy,?_]
     have hXb8:upd H' D (.lst (xa.eraseIdx j)) J=tY (.lst xb):=by
      rw[zp hJD];exact hXb
     have hIa8:Iss K (upd H' D (.lst (xa.eraseIdx j))) ((la.eraseIdx j).map dR) (xa.eraseIdx j):=by
      have h:=Iss.erase (j:=j) (Iss.updL (zs:=xa.eraseIdx j) hXa _ _ (xf la) hIa);rw[ZB]at h;exact h
     have hIb8:=Iss.updL (zs:=xa.eraseIdx j) hXa _ _ (xf lb) hIb;refine#[xb,hXb8,⋯,zH (zH s' hD) hJ1,la.eraseIdx j,epl,lb ++ [r],?_,#[xa.eraseIdx j,?_,Iss.updL hXb8 _ _ (xf _) hIa8],?_]
     ·rw[aL];exact (ep.append_left lb).trans hpm
     ·rw[zp (Ne.symm hJD)];exact zf
     ·rw[ax];exact LsA.snoc hXb8 hIb8 (xf lb) (qu r) (QQ (kq hXa hsq))
    rintro σ H7 ⟨t1,la',lb',t2,t3,t4,t5,rfl⟩:_;obtain⟨xc,hXc,hIc⟩:=id t4;have hcl:=hIc.len;rw[ac]at hcl;right
    rfl'
    exact#[_,.inl #[_,SqL.of hXc,rfl],#[⋯,⋯],t1,la',t2,lb',t3,t4,t5]
   ·have hla:la=[]:=Au.mp ⋯;subst hla;rw[aP]at hpm;exact#[s',lb,hpm,xb,hXb,hIb]
  rintro σ H6 ⟨s6,rs2,hp,hL2,z,v,rfl⟩:_;right
  rfl'
  exact q _ _ rs2 hJ1 s6 hL2 (hAk.perm hp)
def zd8:List V->Hp->VK->Prop:=λxs H Q=>∃i j,xs=[.int i,.int j]/\Q (.int (if j<i then j else i)) H
theorem zcW{X:Cx}(hc:X.calm=Aa):vj X (.builtin "min") zd8:=Uh hc
structure HMn(mg:re->Option pY):Prop where
 m:mg "min" = tZ
def Zi:Sp:=λvs H Q _=>∃(z:Int) (a b m:Nat),vs=[.int z,.int (a:Nat),.int (b:Nat),.int (m:Nat)]/\1<=m/\Q (.int ((prN z m a b:Nat):Int)) H
theorem W6:sQz 4 ["_law_kind","_law_one","_law_other","_law_many"] qg:=by nofun
theorem Vg(B:Bt mg)(HM:HMn mg)(F:("_law_product"^^^qg)) :(1&&&["_law_kind","_law_one","_law_other","_law_many"]) Zi:=by
 exists F.ok W6
 ·obtain⟨z,a,b,m,rfl,hm,q⟩:=h
  refine#[_,(zE (zK (zx y4 (pv 0) zg (zB _))
    (zc (zk (zF yV (zF yj (pv 1) (pv 2)) (pv 3))))
    zt)
   (zE (zK (zx y4 (pv 0) zg (zB _))
    (zc (zk (yW (XV rfl) rfl B.max vX (za (pv 1) (za (pv 2) zd)))))
    zt)
   (zE (zK (zx y4 (pv 0) zg (zB _))
    (zc (zk (yW (zcW rfl) rfl HM.m PyProof.Rows.boot_min (za (pv 1) (za (pv 2) zd)))))
    zt)
   (zE (zK (zx y4 (pv 0) zg (zB _))
    (zc (zk (pv 1)))
    zt)
   (zc (zk (pv 2))))))),?_]
  have s16:=zP
  rfl'
  unfold prN at q;refine yo (λh=>?_) λh=>yo (λh1=>?_) λh1=>yo (λh2=>?_) λh2=>yo (λh3=>?_) λh3=>?_
  ·rw[if_pos h,Int.natCast_emod,Int.natCast_add]at q;exact#[⋯,q]
  ·rw[if_neg h,if_pos h1]at q;have e:(if (b:Int) > (a:Int)then (b:Int)else (a:Int))=((max a b:Nat):Int):=by split <;> lia
   rw[e];exact q
  ·rw[if_neg h,if_neg h1,if_pos h2]at q;have e:(if (b:Int)<(a:Int)then (b:Int)else (a:Int))=((min a b:Nat):Int):=by split <;> lia
   refine#[_,_,rfl,?_];rw[e];exact q
  ·rw[if_neg h,if_neg h1,if_neg h2,if_pos h3]at q;exact q
  ·rw[if_neg h,if_neg h1,if_neg h2,if_neg h3]at q;exact q
theorem Wv{a b m:Nat}(h:1<=m)(q:Q (.int ((prN z m a b:Nat):Int)) H):Zi [.int z,.int (a:Nat),.int (b:Nat),.int (m:Nat)] H Q E:=#[z,a,b,m,rfl,h,q]
noncomputable def QL(z:Int)(l:())(x:Nat):List zq:=l.map λy=>([x,y],[l.getD (prN z l.length (l.idxOf x) (l.idxOf y)) 0])
def Z9(K:pW):Sp:=λvs H Q _=>∃(z:Int) (l:()),vs=[.int z,.str (tx l)]/\l.Nodup/\1<=l.length/\l.length<=3/\∀(D:pX) (H':Hp),H D=tZ->Same H H'->LsA K H' D ((jB z l).map dR)->Q (.ref D) H'
theorem iJ:sQz 2 ["_law_kind","_law_letters_here","_law_pairs","_law_k","_law_letter","_law_n","_law_other"] Y1:=by nofun
theorem JW(B:Bt mg)(F:("_law_pacts"^^^Y1))(mS:(1<<<"_law_product") ["_law_kind","_law_one","_law_other","_law_many"] [] Zi):(2&&&["_law_kind","_law_letters_here"]) (Z9 K):=by
 exists F.ok iJ
 ·obtain⟨z,l,rfl,hnd,l1,l3,q⟩:=h
  refine#[_,(zi (zC 2 iJ.nd (xj zd))
   (zi (zS PassesOwn.never rfl (Qw rfl B.enum (za (pv 1) zd)) (uE (n:=2) rfl (z5 (zA (i:=3) iJ.nd rfl (.inl rfl)) (z5 (zA (i:=4) iJ.nd rfl (.inl rfl)) wF)))
    (zc (zS PassesOwn.never rfl (Qw rfl B.enum (za (pv 1) zd)) (uE (n:=2) rfl (z5 (zA (i:=5) iJ.nd rfl (.inl rfl)) (z5 (zA (i:=6) iJ.nd rfl (.inl rfl)) wF)))
     (zc (xm (vq aY bv bw yO (pv 2) (za (zW (za (zF qF (pv 4) (pv 6)) (za (zo jR (pv 1) (cl0 mS hr .nil rfl (za (pv 0) (za (pv 3) (za (pv 5) (za (zD B.len (pv 1)) zd)))))) zd))) zd)))))))
   (zc (zk (pv 2))))),?_]
  have s16:=zP;have s16:=zP;refine zj (λσ H'=>∃D:pX,H D=tZ/\H'=upd H D (.lst [])/\σ=[~~~!z,~~~l,!!D,tZ,tZ,tZ,tZ]) ?_ ?_
  ·rfl'
   exact#[⋯,λp hp=>#[p,hp,rfl,rfl]]
  rintro σ H2 ⟨D,hD,rfl,rfl⟩:_;have rl:∀x,(QL z l x).length=l.length:=λx=>ac _
  have fl:∀i,((l.take i).flatMap (QL z l)).length<=9:=λi=>by
   rw[List.length_flatMap];have:((l.take i).map λa=>(QL z l a).length)=(l.take i).map λ_=>l.length:=bt λx _=>rl x;rw[this,List.map_const',List.sum_replicate_nat,aI];have:=df (eh i l.length) (al l.length);have:=df l3 l3;lia
  right;refine zj (λσ H'=>Same H H'/\LsA K H' D ((jB z l).map dR)/\∃v3 v4 v5 v6,σ=[~~~!z,~~~l,!!D,v3,v4,v5,v6]) ?_ ?_
  ·rfl'
   refine ForE.by (λi σ H'=>Same H H'/\LsA K H' D (((l.take i).flatMap (QL z l)).map dR)/\∃v3 v4 v5 v6,σ=[~~~!z,~~~l,!!D,v3,v4,v5,v6]) #[ze hD,LsA.nil,_,_,_,_,rfl] ?_ ?_
   ·rintro i x σ H1 p1 hx ⟨s1,hL1,v3,v4,v5,v6,rfl⟩ hp1;have ex:l.idxOf x=i:=Zt hnd (Af.mpr #[aC (af hx),bS _]) hx;have hi:=(Af.mp hx).1;have s2:=s1.trans (ze (o:=.tup [.int (i:Nat),.str (tx [x])]) hp1);have hL2:=hL1.same (ze (o:=.tup [.int (i:Nat),.str (tx [x])]) hp1);refine zah (SqT.of zf) ?_;generalize upd H1 p1 (.tup [.int (i:Nat),.str (tx [x])])=H2 at s2 hL2
    rfl'
    have ei:(l.take (i+1)).flatMap (QL z l)=(l.take i).flatMap (QL z l) ++ QL z l x:=by
     rw[zN hx,cF];simp
    refine ForE.by (λj σ H'=>Same H H'/\LsA K H' D (((l.take i).flatMap (QL z l) ++ (QL z l x).take j).map dR)/\∃v5 v6,σ=[~~~!z,~~~l,!!D,-~~~i,tY (.str (tx [x])),v5,v6]) #[s2,by rw[bE,aP];exact hL2,_,_,rfl] ?_ ?_
    ·rintro j y σ H3 p3 hy ⟨s3,hL3,v5,v6,rfl⟩ hp3;have ey:l.idxOf y=j:=Zt hnd (Af.mpr #[aC (af hy),bS _]) hy;have hj:=(Af.mp hy).1;have s4:=s3.trans (ze (o:=.tup [.int (j:Nat),.str (tx [y])]) hp3);have hL4:=hL3.same (ze (o:=.tup [.int (j:Nat),.str (tx [y])]) hp3);refine zah (SqT.of zf) ?_;generalize upd H3 p3 (.tup [.int (j:Nat),.str (tx [y])])=H4 at s4 hL4
     have hm:(QL z l x)[j]? = tY ([x,y],[l.getD (prN z l.length i j) 0]):=by
      unfold QL;rw[ar,hy,ex];show tY (([x,y],[l.getD (prN z l.length i (l.idxOf y)) 0]):zq)=_;rw[ey]
     have hlt:=Wc (z:=z) hi hj;obtain⟨xs,hX,hI⟩:=id hL4;have hxl:=hI.len;rw[ac,ak,aI,rl]at hxl;have:=fl i
     rfl'
     refine#[.inl #[_,SqL.of hX],⋯,⋯,Wv ⋯ #[_,rfl,⋯,_,vw (ae hlt),⋯,λp hp=>?_]];have sp:=ze (o:=.tup [.str (tx [x,y]),.str (tx [l[prN z l.length i j]])]) hp;refine#[xs,sp _ _ hX,⋯,zH (s4.trans sp) hD,?_];rw[zN hm,<- aL,ax];refine LsA.snoc (sp _ _ hX) (Iss.same sp _ _ hI) (xf _) (qu _) (QQ ?_);rw[aa,ae hlt];exact SqT.of zf
    ·rintro σ H' ⟨s',hL',v5,v6,rfl⟩;rw[ba (fB (rl x)),<- ei]at hL';exact#[s',hL',_,_,_,_,rfl]
   ·rintro σ H' ⟨s',hL',v3,v4,v5,v6,rfl⟩;rw[aO]at hL';exact#[s',hL',_,_,_,_,rfl]
  rintro σ H3 ⟨s3,hL3,v3,v4,v5,v6,rfl⟩:_;right
  rfl'
  exact q _ _ hD s3 hL3
def YL:Sp:=λvs H Q _=>∃(z:Int) (l w:()),vs=[.int z,.str (tx l),.str (tx w)]/\(∀c ∈ w,c ∈ l)/\1<=l.length/\l.length<=6/\w.length<=1000/\Q (.str (tx (XX z l w))) H
theorem X8{l w:()}(h1:∀c ∈ w,c ∈ l)(h2:1<=l.length)(h3:l.length<=6)(h4:w.length<=1000)(q:Q (.str (tx (XX z l w))) H):YL [.int z,.str (tx l),.str (tx w)] H Q E:=#[z,l,w,rfl,h1,h2,h3,h4,q]
theorem nS:sQz 3 ["_law_kind","_law_letters_here","_law_word_here","_law_number","_law_sign"] zbK:=by nofun
theorem zcB(B:Bt mg)(F:("_law_due"^^^zbK))(mS:(1<<<"_law_product") ["_law_kind","_law_one","_law_other","_law_many"] [] Zi):(2&&&["_law_kind","_law_letters_here","_law_word_here"]) YL:=by
 exists F.ok nS
 ·obtain⟨z,l,w,rfl,hw,l1,l6,hwl,q⟩:=h
  refine#[_,(zi (zK (zx y4 (pv 2) zV (zB _))
    (zc (zk zV))
    zt)
   (zi (zC 3 nS.nd (vq bL du dv KG (pv 1) (za (zo jR (pv 2) zg) zd)))
   (zi (zS PassesOwn.never rfl (XA (ye wa (pv 2) (yd zg) xn)) (zA (i:=4) nS.nd rfl (.inl rfl))
    (zc (zC 3 nS.nd (cl0 mS hr .nil rfl (za (pv 0) (za (pv 3) (za (vq bL du dv KG (pv 1) (za (pv 4) zd)) (za (zD B.len (pv 1)) zd))))))))
   (zc (zk (zo jR (pv 1) (pv 3))))))),?_]
  have s16:=zP;have s16:=zP
  cases w with
  | nil =>
   refine jI (λ_ _=>False) ?_ λ_ _ h=>h.elim
   rfl'
   exact q
  | cons c w =>
  refine zj (λσ H'=>H'=H/\σ=[~~~!z,~~~l,tY (.str (tx (c::w))),tZ,tZ]) ?_ ?_
  ·rfl'
   exact yo (λh=>by have:=vM (show tx (c::w)=tx []from h);cases this) λ_=>trivial
  rintro σ H1 ⟨rfl,rfl⟩:_;right;refine zj (λσ H'=>H'=H1/\σ=[~~~!z,~~~l,tY (.str (tx (c::w))),tY (.int (l.idxOf c:Nat)),tZ]) ?_ ?_
  ·rfl'
   exact#[by rw[aB]at hwl;lia,_,vw (j:=0) rfl,Wi (hw c aw)]
  rintro σ H2 ⟨rfl,rfl⟩:_;right;refine zj (λσ H'=>H'=H2/\∃(n:Nat) (v:Option V),(c::w).foldl (stN z l) tZ=tY n/\n<l.length/\σ=[~~~!z,~~~l,tY (.str (tx (c::w))),-~~~n,v]) ?_ ?_
  ·rfl'
   rw[vU (c::w) ∅];refine#[by rw[aB]at hwl;lia,ForS.by (λi σ H'=>H'=H2/\∃(n:Nat) (v:Option V),(c::w.take i).foldl (stN z l) tZ=tY n/\n<l.length/\σ=[~~~!z,~~~l,tY (.str (tx (c::w))),-~~~n,v]) #[rfl,_,_,rfl,aC (hw c aw),rfl] ?_ ?_]
   ·refine nm4 ?_;rintro i d σ H3 hd ⟨rfl,n,v,h1,h2,rfl⟩:_;have hd':w[i]? = tY d:=hd;have hdl:=hw d (am _ (af hd'));right
    rfl'
    rw[Wi hdl];refine#[⋯,Wv ⋯ #[rfl,_,?_,Wc h2 (aC hdl),rfl]];rw[zN hd',<- bh,cz,h1];rfl
   ·rintro σ H3 ⟨rfl,n,v,h1,h2,rfl⟩;have e:((c::w).drop (1:Int).toNat).length=w.length:=rfl;rw[e,aO]at h1;exact#[rfl,n,h1,h2,v,rfl]
  rintro σ H3 ⟨rfl,n,v,h1,h2,rfl⟩:_;right
  rfl'
  unfold XX at q;rw[h1,cY,aa,ae h2]at q;exact#[⋯,_,vw (ae h2),q]
theorem Xj{m n:Nat}(hn:n<=3)(hm:m=1\/m=2):m ^ (m * n)<=1000:=by
 rcases hm with rfl | rfl
 ·rw[Nat.one_pow];decide
 ·exact aK (fq ∅ (show 2 * n<=6 by lia)) ∅
def J89(K:pW)(H:Hp)(l:())(z:Int)(rs:List zq)(u v:())(p:pX):Prop:=(XX z l u=XX z l v/\∃(S:pX) (ss:List Stp),H p=tY (.tup [.str "alike",.ref S])/\LsA K H S (ss.map dSt)/\ss.length<=2000/\z8 rs u ss=tY v)\/(XX z l u≠XX z l v/\∃D:pX,H p=tY (.tup [.str "forms",.ref D,.str (tx (XX z l u)),.str (tx (XX z l v))]))
theorem JOut.j89{l:()}{rs:List zq}{u v:()}{r m:Nat}{p:pX}(h:JOut K H k l ns rs u v r m p)(hG:OG l ns k)(hk:k≠2)(h3:l.length<=3)(hrs:∀p ∈ rs,p.1.length<=60/\p.2.length<=60/\(∀c ∈ p.1,c ∈ l)/\∀c ∈ p.2,c ∈ l)(hA:(rs.map lgR).Perm (jB z l))(ul:u.length<=8)(vl:v.length<=8)(ui:∀c ∈ u,c ∈ l)(vi:∀c ∈ v,c ∈ l):J89 K H l z rs u v p:=by
 have hnd:=(of_decide_eq_true hG.g).2.2.2
 have key:∀{w es},Cpl k l ns (r+1) [] (fEs rs rs.length) w es->BG k l ns es->NoR es w u v->False:=λ{w es} hc hb hno=>by
  obtain⟨rfl,hp,h1⟩:=Xo hk hnd h3 hA hc
  have sh:∀p ∈ zb es,p.2.length<p.1.length:=λp h=>by
   have hm:=hp.mem_iff.mp h;have:=(yU hm).a;have:=(yU hm).b;lia
  obtain⟨i,hi,li⟩:=wT sh (w:=u) ⋯;obtain⟨j,hj,lj⟩:=wT sh (w:=v) ⋯;rcases hno with h | h | ⟨i',j',hi',hj',h | h⟩
  ·exact h i hi
  ·exact h j hj
  ·cases h.2
  ·obtain⟨_,h⟩:=h;cases hi.uniq hi';cases hj.uniq hj';have hpl:=xF es
   have:(jz es u v i j).length=i+j:=by
    rw[QB h1,ak,ym,uc,uc,vv,vv];intro x hx;rw[<- hpl];rcases Ai.mp hx with h | h
    ·have:=jG hi.live x h;lia
    ·have:=Y0 (jG hj.live) x h;lia
   lia
 cases h with
 | alike w es i j S hc hb hi hj he hl hp hS =>
  obtain⟨rfl,hpp,h1⟩:=Xo hk hnd h3 hA hc;rw[we hnd hpp ui hi,we hnd hpp vi hj]at he;have hE:=(zb6 (rs:=rs) hG hc (zcA hrs) (λe he=>WH he) #[λe h=>(nomatch h),.inl rfl]).1;exact .inl #[he,S,_,hp,hS,hl,QA hE hi hj (by rw[we hnd hpp ui hi,we hnd hpp vi hj];exact he)]
 | forms es i j D hc hb hi hj hn hp hD =>
  obtain⟨_,hpp,h1⟩:=Xo hk hnd h3 hA hc;rw[we hnd hpp ui hi,we hnd hpp vi hj]at hn hp;exact .inr #[hn,D,hp]
 | world w es n N t ts hc hb hno h1 h2 h3 h4 h5 hp ht=>exact (key hc hb hno).elim
 | open_ w es hc hb hno h5 hp=>exact (key hc hb hno).elim
theorem J89.same{H H':Hp}{l:()}{u v:()}{p:pX}(h:J89 K H l z rs u v p)(s:Same H H'):J89 K H' l z rs u v p:=by
 rcases h with ⟨e,S,ss,h1,h2,h3⟩ | ⟨e,D,h1⟩
 ·exact .inl #[e,S,ss,s _ _ h1,h2.same s,h3]
 ·exact .inr #[e,D,s _ _ h1]
theorem zao{l:()}(h:Alk (jB z l) rs):(rs.map lgR).Perm (jB z l):=by
 have e:(jB z l).map lgR=jB z l:=by
  refine (bt λp hp=>?_).trans (List.map_id _);unfold lgR;have:=(yU hp).a;have:=(yU hp).b;rw[if_neg ⋯];rfl
 have:=h.2 lgR λp hp=>by
  unfold lgR;have:=(yU hp).a;have:=(yU hp).b;simp only;rw[if_pos ⋯,if_neg ⋯]
 rw[e]at this;exact this
theorem zaa{p:pX}{x y:()}(h:H p=tY (.lst [.str (tx x),.str (tx y)])):Is K H (.lst [.str (tx x),.str (tx y)]) (.ref p):=by
 erw[Is,Iss]
 exact#[_,_,rfl,SqL.of h,_,_,rfl,rfl,_,_,rfl,rfl,rfl]
def XQ(K:pW)(T:pX):Sp:=λvs H Q _=>∃(a:pX) (ns:List Int),vs=[.ref a]/\SqL K H a (ns.map V.int)/\(∀z ∈ ns,jm z)/\H T=tY (.tbl #[])/\∀H',Q (.bl Aa) H'
theorem gB:sQz 1 ["_law_script","_law_first","_law_letters_here","_law_order","_law_kind","_law_pacts_here","_law_one","_law_other","_law_asked","_law_found","_law_forms"] km:=by nofun
theorem zdq{f CO CR CW TB:pX}(B:Bt mg)(T:TWS P w K mg base CO CR CW)(F:("law"^^^km))(mn:(1<<<"_law_cell") ["_law_script","_law_k"] [] (YN K))(pw:(2<<<"_law_letters") ["_law_cell_here","_law_many"] [] ux)(pC:(2<<<"_law_turned") ["_law_pacts_here","_law_cell_here"] [] (ZG K))(pA:(1<<<"_law_word") ["_law_number","_law_letters_here","_law_most"] [] YZ)(pD:(11>>>"judged") ["order","pacts","one","other","rounds","most"] [] (zdf K CO CR CW TB))(pK:(2<<<"_law_pacts") ["_law_kind","_law_letters_here"] [] (Z9 K))(iG:(1<<<"_law_mixed") ["_law_cell_here","_law_turn"] [] vH)(pE:(4<<<"_law_answer") ["_law_found","_law_many"] [] (V5 K))(pF:(2<<<"_law_due") ["_law_kind","_law_letters_here","_law_word_here"] [] YL)(pP:(2<<<"_law_end") ["_law_pacts_here","_law_word_here","_law_steps_here"] [] (VM K)):(12&&&["_law_script"]) (XQ K TB):=by
 exists F.ok gB
 ·obtain⟨a,ns,rfl,hS,hB,hT,q⟩:=h
  refine#[_,(zi (zC 1 gB.nd (cl0 mn hr .nil rfl (za (pv 0) (za zg zd))))
   (zi (zC 2 gB.nd (cl0 pw hr .nil rfl (za (pv 1) (za (zF yj zg (zF yV (zF xA (pv 1) zg) zg)) zd))))
   (zi (zC 3 gB.nd (mkC T.mO hr rfl T.gO (za (pv 2) zd)))
   (zi (zK (zx y4 (zF yV (pv 1) zg) zg (zB _))
    (zc (zC 3 gB.nd (mkC T.mR hr rfl T.gR (za (pv 2) zd))))
    zt)
   (zi (zC 4 gB.nd (zF yV (cl0 mn hr .nil rfl (za (pv 0) (za zg zd))) zg))
   (zi (zC 5 gB.nd (cl0 pC hr .nil rfl (za (cl0 pK hr .nil rfl (za (pv 4) (za (pv 2) zd))) (za (cl0 mn hr .nil rfl (za (pv 0) (za zg zd))) zd))))
   (zi (zC 6 gB.nd (cl0 pA hr .nil rfl (za (cl0 iG hr .nil rfl (za (cl0 mn hr .nil rfl (za (pv 0) (za zg zd))) (za zg zd))) (za (pv 2) (za zg zd)))))
   (zi (zC 7 gB.nd (cl0 pA hr .nil rfl (za (cl0 iG hr .nil rfl (za (cl0 mn hr .nil rfl (za (pv 0) (za zg zd))) (za zg zd))) (za (pv 2) (za zg zd)))))
   (zi (zC 8 gB.nd (cl0 mn hr .nil rfl (za (pv 0) (za zg zd))))
   (zi (zC 9 gB.nd (clP xe0 pD hr .nil rfl (za (pv 3) (za (wq xh rfl B.list PySem.Pv.boot_list (za (pv 5) zd)) (za (pv 6) (za (pv 7) (za (zF yV (pv 8) zg) (za (zF yj zg (zF yV (zF xA (pv 8) zg) zg)) zd))))))))
   (zi (zK (zY (yK (cl0 pE hr .nil rfl (za (pv 9) (za (zD B.len (pv 2)) zd))) (λ_=>rfl)))
    (zc (zk yQ))
    zt)
   (zi (zC 10 gB.nd (xj (za (cl0 pF hr .nil rfl (za (pv 4) (za (pv 2) (za (pv 6) zd)))) (za (cl0 pF hr .nil rfl (za (pv 4) (za (pv 2) (za (pv 7) zd)))) zd))))
   (zi (zK (zx y4 (zo ix_list (pv 10) zg) (zo ix_list (pv 10) zg) (zB _))
    (zc (zk (qy (yE y4 (zo ix_tup (pv 9) zg) zV (zB _)) (qZ (yE y4 (cl0 pP hr .nil rfl (za (pv 5) (za (pv 6) (za (zo ix_tup (pv 9) zg) zd)))) (pv 7) (zB _))))))
    zt)
   (zc (zk (qy (yE y4 (zo ix_tup (pv 9) zg) zV (zB _)) (qZ (yE (QK (kL hr)) (xj (za (zo ix_tup (pv 9) zg) (za (zo ix_tup (pv 9) zg) zd))) (pv 10) (zB _))))))))))))))))))),?_]
  have s16:=zP;have s16:=zP;have hTab:TabOk H TB lp lq:=#[#[],hT,trivial,.inl rfl];refine zj (λσ H'=>H'=H/\∃n:Int,jm n/\σ=[!!a,~~~!n,tZ,tZ,tZ,tZ,tZ,tZ,tZ,tZ,tZ]) ?_ ?_
  ·rfl'
   exact wW hS hB ∅ λc hc=>#[rfl,c,hc,rfl]
  rintro σ H0 ⟨rfl,n,hn,rfl⟩:_;right;refine zj (λσ H'=>H'=H0/\∃l:(),j9 l=Aa/\l.length<=3/\σ=[!!a,~~~!n,~~~l,tZ,tZ,tZ,tZ,tZ,tZ,tZ,tZ]) ?_ ?_
  ·rfl'
   have e0:=bx (n / 2) (b:=3) ∅;have e1:=bz (n / 2) (b:=3) ∅;exact#[#[∅,∅],∅,YS hn ⋯ ⋯ λl hl hnd hs=>#[rfl,l,decide_eq_true #[⋯,⋯,hs,hnd],⋯,rfl]]
  rintro σ H1 ⟨rfl,l,hg,l3,rfl⟩:_;obtain⟨l1,l6,lsm,lnd⟩:=of_decide_eq_true hg
  have mk:∀{C x dx:pX} {H:Hp},H x=tZ->H dx=tZ->Same H (upd (upd (upd H dx (.own x)) x (.ins C dx [])) x (.ins C dx [("letters",.str (tx l))])):=λ{C x dx H} hx hdx b o' e=>by
   rw[zp (zJ e hx),zp (zJ e hx)];exact ze hdx _ _ e
  right;refine zj (λσ H'=>Same H1 H'/\∃o:pX,OrdAt CO CR CW H' o 0 l (l.map λ_=>1)/\σ=[!!a,~~~!n,~~~l,!!o,tZ,tZ,tZ,tZ,tZ,tZ,tZ]) ?_ ?_
  ·rfl'
   intro x dx hx hdx hne;exact#[x,CO,dx,l,rfl,hg,T.cO,T.lO,zf,rfl,mk hx hdx,dx,.inl #[rfl,zf]]
  rintro σ H2 ⟨s2,o0,ho0,rfl⟩:_;right;refine zj (λσ H'=>Same H1 H'/\∃(o:pX) (k:Nat),(OrdAt CO CR CW H' o k l (l.map λ_=>1)/\k<2)/\σ=[!!a,~~~!n,~~~l,!!o,tZ,tZ,tZ,tZ,tZ,tZ,tZ]) ?_ ?_
  ·rfl'
   refine#[∅,yo (λ_=>?_) λ_=>#[s2,o0,0,ho0,∅,rfl]];intro x dx hx hdx hne;exact#[x,CR,dx,l,rfl,hg,T.cR,T.lR,zf,rfl,s2.trans (mk hx hdx),x,1,#[dx,.inr #[rfl,zf]],∅,rfl]
  rintro σ H3 ⟨s3,o,k,⟨ho,hk⟩,rfl⟩:_;have hG:OG l (l.map λ_=>1) k:=#[hg,⋯,ac _,λx hx=>by obtain⟨_,_,rfl⟩:=Ag.mp hx;decide];have hS3:=s3.seq hS;right;refine zj (λσ H'=>H'=H3/\∃z:Int,σ=[!!a,~~~!n,~~~l,!!o,~~~!z,tZ,tZ,tZ,tZ,tZ,tZ]) ?_ ?_
  ·rfl'
   exact wW hS3 hB ∅ λc hc=>#[#[c,rfl],∅,rfl]
  rintro σ H3 ⟨rfl,z,rfl⟩:_;right;refine zj (λσ H'=>Same H3 H'/\∃pa:pX,(∃rs,LsA K H' pa (rs.map dR)/\Alk (jB z l) rs)/\σ=[!!a,~~~!n,~~~l,!!o,~~~!z,!!pa,tZ,tZ,tZ,tZ,tZ]) ?_ ?_
  ·rfl'
   refine#[z,l,rfl,lnd,l1,l3,λD H4 hD s4 hL4=>wW (s4.seq hS3) hB ∅ λc hc=>#[D,c,jB z l,rfl,hc,hL4,aK (jd lnd l3).2 ∅,λD' H5 rs' _ s5 hL5 hA=>#[s4.trans s5,D',#[rs',hL5,hA],rfl]]]
  rintro σ H4 ⟨s4,pa,⟨rs,hP,hA⟩,rfl⟩:_;have hrn:rs.length<=9:=by rw[hA.1];exact (jd lnd l3).2
  have hAp:=zao hA
  have hrs:∀p ∈ rs,p.1.length<=2/\p.2.length<=2/\(∀c ∈ p.1,c ∈ l)/\∀c ∈ p.2,c ∈ l:=λp hp=>by
   have h:=yU (hAp.mem_iff.mp (Ag.mpr #[p,hp,rfl]));have h1:=h.a;have h2:=h.b;have h3:=h.ma;have h4:=h.mb;unfold lgR at h1 h2 h3 h4;by_cases g:p.1.length<p.2.length
   ·rw[if_pos g]at h1 h2 h3 h4;simp only at h1 h2 h3 h4;exact#[⋯,⋯,h4,h3]
   ·rw[if_neg g]at h1 h2 h3 h4;exact#[⋯,⋯,h3,h4]
  have hok:kR rs:=#[⋯,λr hr=>by have:=hrs r hr;lia];have hb60:∀p ∈ rs,p.1.length<=60/\p.2.length<=60/\(∀c ∈ p.1,c ∈ l)/\∀c ∈ p.2,c ∈ l:=λp hp=>#[by have:=hrs p hp;lia,by have:=hrs p hp;lia,(hrs p hp).2.2];have hS4:=s4.seq hS3;right;refine zj (λσ H'=>H'=H4/\∃w:(),w.length<=8/\(∀c ∈ w,c ∈ l)/\σ=[!!a,~~~!n,~~~l,!!o,~~~!z,!!pa,~~~w,tZ,tZ,tZ,tZ]) ?_ ?_
  ·rfl'
   exact wW hS4 hB ∅ λc hc=>wl hc ∅ ∅ λz hz=>X7 hz ⋯ ⋯ ∅ ∅ λw hw1 hw2=>#[rfl,w,⋯,hw2,rfl]
  rintro σ H4 ⟨rfl,u,hul,hui,rfl⟩:_;right;refine zj (λσ H'=>H'=H4/\∃w:(),w.length<=8/\(∀c ∈ w,c ∈ l)/\σ=[!!a,~~~!n,~~~l,!!o,~~~!z,!!pa,~~~u,~~~w,tZ,tZ,tZ]) ?_ ?_
  ·rfl'
   exact wW hS4 hB ∅ λc hc=>wl hc ∅ ∅ λz hz=>X7 hz ⋯ ⋯ ∅ ∅ λw hw1 hw2=>#[rfl,w,⋯,hw2,rfl]
  rintro σ H4 ⟨rfl,v,hvl,hvi,rfl⟩:_;right;refine zj (λσ H'=>H'=H4/\∃x:Int,σ=[!!a,~~~!n,~~~l,!!o,~~~!z,!!pa,~~~u,~~~v,~~~!x,tZ,tZ]) ?_ ?_
  ·rfl'
   exact wW hS4 hB ∅ λc hc=>#[rfl,c,rfl]
  rintro σ H5 ⟨rfl,x,rfl⟩:_;have ho5:=ho.same s4;have hT5:=hTab.same (s3.trans s4);obtain⟨tp5,htp5,_⟩:=id hT5;right;refine zj (λσ H'=>LsA K H' pa (rs.map dR)/\∃fp:pX,(zem K H' l fp/\J89 K H' l z rs u v fp)/\σ=[!!a,~~~!n,~~~l,!!o,~~~!z,!!pa,~~~u,~~~v,~~~!x,!!fp,tZ]) ?_ ?_
  ·rfl'
   have c0:=bx x (b:=4) ∅;have c4:=bz x (b:=4) ∅;have d0:=bx (x / 4) (b:=2) ∅;have d1:=bz (x / 4) (b:=2) ∅;obtain⟨px,hPx,hPi⟩:=id hP;refine#[_,.inl (SqL.of hPx),λhd hh=>#[∅,#[∅,∅],∅,?_]];have sh:=ze (o:=.lst px) hh;have hT6:=hT5.same sh;obtain⟨tp6,htp6,_⟩:=id hT6;rw[show x % 4=((x % 4).toNat:Int) by lia,show 1+x / 4 % 2=((1+x / 4 % 2).toNat:Int) by lia];exact#[o,hd,k,l,_,rs,u,v,_,_,rfl,ho5.same sh,hG,#[px,zf,Iss.same sh _ _ hPi],⋯,hb60,⋯,⋯,hui,hvi,⋯,⋯,Xj ⋯ ⋯,hT6,λp H' sT hTk hJ=>#[(hP.same sh).samT sT htp6,p,hJ.ans ⋯,hJ.j89 hG ⋯ l3 hb60 hAp hul hvl hui hvi,rfl]]
  rintro σ H6 ⟨hP6,fp,⟨hAn,hJ⟩,rfl⟩:_;right;refine zj (λσ H'=>Same H6 H'/\σ=[!!a,~~~!n,~~~l,!!o,~~~!z,!!pa,~~~u,~~~v,~~~!x,!!fp,tZ]) ?_ ?_
  ·rfl'
   exact#[⋯,fp,l,rfl,l6,hAn,λH' s'=>#[Aa,rfl,Zw s']]
  rintro σ H7 ⟨s7,rfl⟩:_;have hJ7:=hJ.same s7;have hP7:=hP6.same s7;right;refine zj (λσ H'=>Same H7 H'/\∃F:pX,H' F=tY (.lst [.str (tx (XX z l u)),.str (tx (XX z l v))])/\σ=[!!a,~~~!n,~~~l,!!o,~~~!z,!!pa,~~~u,~~~v,~~~!x,!!fp,!!F]) ?_ ?_
  ·rfl'
   exact X8 hui l1 l6 ⋯ (X8 hvi l1 l6 ⋯ #[⋯,λF hF=>#[ze hF,zf]])
  rintro σ H8 ⟨s8,F,hF,rfl⟩:_;have hJ8:=hJ7.same s8;have hP8:=hP7.same s8;right;rcases hJ8 with ⟨e,S,ss,h1,h2,h3,h4⟩ | ⟨e,D,h1⟩
  ·refine jI (λ_ _=>False) ?_ λ_ _ h=>h.elim
   rfl'
   refine#[_,SqL.of hF,_,rfl,_,SqL.of hF,_,rfl,rfl,yo (λ_=>#[_,SqT.of h1,_,rfl,rfl,?_]) λh=>absurd (by rw[e]) h];rw[if_pos ∅];exact#[_,SqT.of h1,_,rfl,zaH hP8.is hok ⋯ h2.is h3 h4 #[rfl,by rw[decide_eq_true rfl];exact q _]]
  ·refine zj (λσ H'=>H'=H8/\σ=[!!a,~~~!n,~~~l,!!o,~~~!z,!!pa,~~~u,~~~v,~~~!x,!!fp,!!F]) ?_ ?_
   ·rfl'
    exact#[_,SqL.of hF,_,rfl,_,SqL.of hF,_,rfl,rfl,yo (λh=>absurd (vM (V.str.inj h)) e) λ_=>trivial]
   rintro σ H9 ⟨rfl,rfl⟩:_;right
   rfl'
   refine#[_,SqT.of h1,_,rfl,rfl,?_];rw[if_pos ∅];refine#[_,SqT.of h1,_,rfl,_,SqT.of h1,_,rfl,⋯,λF2 hF2=>YI (.inl #[zaa zf,zaa (ze hF2 _ _ hF)]) (by erw[uK,dpD];decide) ?_];rw[wD];exact q _
end
def FnE(K:pW)(x q:re)(st:rn)(f:pX):Prop:=∃fd,Fun K x q st f fd
def FnA(K:pW)(x:re)(st:rn)(f:pX):Prop:=au K pS x=tY (tY (.ref f))/\FnE K x x st f
theorem FnA.mk{K:pW}{x:re}{st:rn}{h:rj}{mg:re->Option pY}(q:FnA K x st f)(X:K.In h)(G:h.Ns pS mg):mg x=tY (.ref f)/\aJ K (.ref f)=Aa/\FnE K x x st f:=by
 obtain⟨a,fd,F⟩:=q;exact#[aF X G a,F.kp,fd,F]
theorem Yy{us:List pY}(h:us.length=1):∃a,us=[a]:=List.length_eq_one_iff.mp h
theorem wY{us:List pY}(h:us.length=2):∃a0 a1,us=[a0,a1]:=by
 cases us with
 | nil=>cases h
 | cons a r =>
  obtain⟨a1,rfl⟩:=Yy (Nat.succ.inj h);exact#[a,a1,rfl]
theorem Yw{us:List pY}(h:us.length=3):∃a0 a1 a2,us=[a0,a1,a2]:=by
 cases us with
 | nil=>cases h
 | cons a r =>
  obtain⟨a1,a2,rfl⟩:=wY (Nat.succ.inj h);exact#[a,a1,a2,rfl]
theorem KF{us:List pY}(h:us.length=4):∃a0 a1 a2 a3,us=[a0,a1,a2,a3]:=by
 cases us with
 | nil=>cases h
 | cons a r =>
  obtain⟨a1,a2,a3,rfl⟩:=Yw (Nat.succ.inj h);exact#[a,a1,a2,a3,rfl]
theorem zeT{us:List pY}(h:us.length=5):∃a0 a1 a2 a3 a4,us=[a0,a1,a2,a3,a4]:=by
 cases us with
 | nil=>cases h
 | cons a r =>
  obtain⟨a1,a2,a3,a4,rfl⟩:=KF (Nat.succ.inj h);exact#[a,a1,a2,a3,a4,rfl]
theorem ze6{us:List pY}(h:us.length=6):∃a0 a1 a2 a3 a4 a5,us=[a0,a1,a2,a3,a4,a5]:=by
 cases us with
 | nil=>cases h
 | cons a r =>
  obtain⟨a1,a2,a3,a4,a5,rfl⟩:=zeT (Nat.succ.inj h);exact#[a,a1,a2,a3,a4,a5,rfl]
theorem zfA{us:List pY}(h:us.length=7):∃a0 a1 a2 a3 a4 a5 a6,us=[a0,a1,a2,a3,a4,a5,a6]:=by
 cases us with
 | nil=>cases h
 | cons a r =>
  obtain⟨a1,a2,a3,a4,a5,a6,rfl⟩:=ze6 (Nat.succ.inj h);exact#[a,a1,a2,a3,a4,a5,a6,rfl]
theorem dfm(P:rb)(w:rf){K:pW}{mg:re->Option pY}(base:rj){CX:CXT}{nm:re}{ps:List re}{sp:Sp}(h:zR P w K mg base CX k f fd ps sp)(m:mg nm=tY (.ref f))(p:aJ K (.ref f)=Aa)(b:Binds K fd ps []):Df P w K mg base CX k nm ps [] sp:=#[_,_,h,m,p,b]
local macro_rules | `(tactic| injections)=>`(tactic| (intro _ _ _ _ _ _ us hl;first | (obtain⟨_,e⟩:=Yy hl;subst e;rfl) | (obtain⟨_,_,e⟩:=wY hl;subst e;rfl) | (obtain⟨_,_,_,e⟩:=Yw hl;subst e;rfl) | (obtain⟨_,_,_,_,e⟩:=KF hl;subst e;rfl) | (obtain⟨_,_,_,_,_,e⟩:=zeT hl;subst e;rfl) | (obtain⟨_,_,_,_,_,_,e⟩:=ze6 hl;subst e;rfl)))
local macro_rules | `(nofun)=>`(by injections)
theorem all_mk{l:PySem.W.OpenLaw}{w:rf}{K:pW}{h:rj}{mg:re->Option pY}{fa f0 f1 f2 f3 f4 f5 f6 f7 f8 f9 f10 f11 f12 f13 f14 f15 f16 f17 f18 f19 f20 f21 f22 f23 f24 f25 f26 f27 f28 f29 f30 f31 f32 f33 f34 f35 f36 f37 f38 f39 f40 f41 f42 f43 f44 f45 f46 f47 f48 f49 f50 f51 f52 f53 f54 f55 oz gd fX fW fZ gb gn gc gh fY gk:pX}{cc TB:pX}(X:K.In h)(G:h.Ns pS mg)(hfa:mg "law" = tY (.ref fa))(hlam:∃a o fd,mg "in_order" = tY (.ref a)/\h.get? a=tY o/\o.data=.func fd/\fd.code=.ref cc)(hgT:pS≠TB)
{od6 an6 od12 an12 od30 an30 od55 an55:Option pX}{sl6 sl12 sl30 sl55:Array (Option pY)}{oc6 kV6 dc6 pm6 cd6 ct6 oc12 kV12 dc12 pm12 cd12 ct12 oc30 kV30 dc30 pm30 cd30 ct30 oc55 kV55 dc55 pm55 cd55 ct55:pY}
  {t6:tu}
  {fI:pX}
  {odI anI:Option pX}
  {slI:Array (Option pY)}
  {ocI kVI dcI pmI cdI ctI:pY}
  {t8:tu}
  {fU:pX}
  {odU anU:Option pX}
  {slU:Array (Option pY)}
  {ocU kVU dcU pmU cdU ctU:pY}
  {t9:tu}
  {tmt:tu}
  {tmu tms tmd tmp:tu}
  {tcu tce tcd tcp:tu}
  {tju tjs:tu}
  {gX:pX}
  {gD:pX}
  {iX:pX}
  {gN:pX}
  {gY:pX}
  {gE:pX}
  {iK:pX}
  {gv:pX}
  {iY:pX}
  {iL:pX}
  {lF:pX}
  {il:pX}
  {im:pX}
  {nj:pX}
  {ij:tu}
  {d1_gone:pY}
  {d2_gone:Option pX}
  {d3_gone:Nat}
  {d4_gone:Array (Option pY)}
  {mv:pX}
  {mr:tu}
  {d1_unmet:pY}
  {d2_unmet:Option pX}
  {d3_unmet:Nat}
  {d4_unmet:Array (Option pY)}
  (a0:FnA K "is_small_letter" yL f0)
  (a1:FnA K "letters_of" wj f1)
  (a2:FnA K "stands_at" vp f2)
  (a3:FnA K "put" zbN f3)
  (a4:FnA K "first_within" xw f4)
  (a5:FnA K "first_from" wI f5)
  (a6:au K pS "gone" = tY (tY (.ref f6))) (l6:K.lookup f6=tY #[oc6,od6,.func (bp "gone" "gone" (yI ve) (ya ve) (zh ve) (.ref nj) kV6 dc6 pm6 an6 cd6 ct6),sl6]) (k6:bJ K cd6 "gone" = Aa) (p6:aJ K (.ref f6)=Aa)
  (a7:FnA K "back" XZ f7)
  (a8:FnA K "moved" Zn f8)
  (a9:FnA K "by_pacts" ug f9)
  (a10:FnA K "pairs_of" wN f10)
  (a11:FnA K "as_rule" qA f11)
  (a12:au K pS "in_order" = tY (tY (.ref f12))) (l12:K.lookup f12=tY #[oc12,od12,.func (bp "in_order" "in_order" (yI yz) (ya yz) (zh yz) .none kV12 dc12 pm12 an12 cd12 ct12),sl12]) (k12:bJ K cd12 "in_order" = Aa) (p12:aJ K (.ref f12)=Aa)
  (a13:FnA K "brought_down" xq f13)
  (a14:FnA K "refuse_beyond" y2 f14)
  (a15:FnA K "built_anew" wz f15)
  (a16:FnA K "thinned" qh f16)
  (a17:FnA K "_law_cell" QM f17)
  (a18:FnA K "_law_mixed" YQ f18)
  (a19:FnA K "_law_letters" je f19)
  (a20:FnA K "_law_word" V4 f20)
  (a21:FnA K "_law_whole" Xb f21)
  (a22:FnA K "_law_steps" Y5 f22)
  (a23:FnA K "_law_used" Uv f23)
  (a24:FnA K "_law_end" zay f24)
  (a25:FnA K "agree" YC f25)
  (a26:FnA K "overlaps" ut f26)
  (a27:FnA K "peak" QI f27)
  (a28:FnA K "form_of" qW f28)
  (a29:FnA K "is_met" kG f29)
  (a30:au K pS "unmet" = tY (tY (.ref f30))) (l30:K.lookup f30=tY #[oc30,od30,.func (bp "unmet" "unmet" (yI xl) (ya xl) (zh xl) (.ref mv) kV30 dc30 pm30 an30 cd30 ct30),sl30]) (k30:bJ K cd30 "unmet" = Aa) (p30:aJ K (.ref f30)=Aa)
  (a31:FnA K "system_by" vg f31)
  (a32:FnA K "first_entries" yF f32)
  (a33:FnA K "is_beyond" xW f33)
  (a34:FnA K "thinned_within" yT f34)
  (a35:FnA K "unmet_within" xp f35)
  (a36:FnA K "entry_of" uk f36)
  (a37:FnA K "completed" xP f37)
  (a38:FnA K "table_of" wX f38)
  (a39:FnA K "table_count" xL f39)
  (a40:FnA K "tables_within" y1 f40)
  (a41:FnA K "table_at" wQ f41)
  (a42:FnA K "tells_apart" xN f42)
  (a43:FnA K "world_apart" xS f43)
  (a44:FnA K "gone_within" xT f44)
  (a45:FnA K "judged_by_roads" yM f45)
  (a46:FnA K "judged_by_worlds" yH f46)
  (a47:FnA K "judged" kD f47)
  (a48:FnA K "_law_entries" qj f48)
  (a49:FnA K "_law_table_ok" wS f49)
  (a50:FnA K "_law_answer" kT f50)
  (a51:FnA K "_law_turned" kW f51)
  (a52:FnA K "_law_product" qg f52)
  (a53:FnA K "_law_pacts" Y1 f53)
  (a54:FnA K "_law_due" zbK f54)
  (a55:au K pS "law" = tY (tY (.ref f55))) (l55:K.lookup f55=tY #[oc55,od55,.func (bp "law" "law" (yI km) (ya km) (zh km) .none kV55 dc55 pm55 an55 cd55 ct55),sl55]) (k55:bJ K cd55 "law" = Aa) (p55:aJ K (.ref f55)=Aa)
  (g_LetterError:au K pS "LetterError" = tY (tY (.ref oz)))
  (g_NoLetters:au K pS "NoLetters" = tY (tY (.ref gd)))
  (g_Order:au K pS "Order" = tY (tY (.ref fX)))
  (g_FromRight:au K pS "FromRight" = tY (tY (.ref fW)))
  (g_NotTurned:au K pS "NotTurned" = tY (tY (.ref fZ)))
  (g_System:au K pS "System" = tY (tY (.ref gb)))
  (g_NoUse:au K pS "NoUse" = tY (tY (.ref gn)))
  (g_TooFar:au K pS "TooFar" = tY (tY (.ref gc)))
  (g_NoWorld:au K pS "NoWorld" = tY (tY (.ref gh)))
  (g_World:au K pS "World" = tY (tY (.ref fY)))
  (g_TooMany:au K pS "TooMany" = tY (tY (.ref gk)))
  (kbb:aQ K (.type "bool") (.type "bool")=tY Aa)
  (kt:aQ K (.type "tuple") (.type "tuple")=tY Aa)
  (ki:aQ K (.type "int") (.type "int")=tY Aa)
  (kb:aQ K (.type "int") (.type "bool")=tY Ab)
  (kl:aQ K (.type "list") (.type "list")=tY Aa)
  (XIl:XI K gd)
  (xi:ag K (.ref gd) "__init__" = tY (tY (.builtin "ValueError.__init__")))
  (most:au K pS "MOST_LETTERS" = tY (tY (.int 6 t6)))
  (mw:bM K fX eU=Aa)
  (mx:bY K fX=Aa)
  (my:cy K fX=Aa)
  (mz:ag K (.ref fX) "__setattr__" = tY (tY (.builtin "object.__setattr__")))
  (nE:cI K fX=Aa)
  (nF:aJ K (.ref fX)=Aa)
  (mB:ag K (.ref fX) "letters" = tY tZ)
  (oP:aQ K (.ref fX) (.ref fX)=tY Aa)
  (oQ:ag K (.ref fX) "__class__" = tY (tY (.builtin "object.__class__")))
  (oR:bI K fX (.type "object")=tY Aa)
  (lG:bM K fW eU=Aa)
  (lH:bY K fW=Aa)
  (lJ:cy K fW=Aa)
  (lK:ag K (.ref fW) "__setattr__" = tY (tY (.builtin "object.__setattr__")))
  (lL:cI K fW=Aa)
  (lM:aJ K (.ref fW)=Aa)
  (lN:ag K (.ref fW) "letters" = tY tZ)
  (mT:aQ K (.ref fW) (.ref fX)=tY Aa)
  (mU:ag K (.ref fW) "__class__" = tY (tY (.builtin "object.__class__")))
  (mV:bI K fW (.type "object")=tY Aa)
  (win:au K pS "WINDOW" = tY (tY (.int 128 t8)))
  (XIt:XI K fZ)
  (nn:ag K (.ref fZ) "number" = tY tZ)
  (ini:ag K (.ref fZ) "__init__" = tY (tY (.ref fI)))
  (lI:K.lookup fI=tY #[ocI,odI,.func (bp "__init__" "NotTurned.__init__" (yI zU) (ya zU) (zh zU) .none kVI dcI pmI anI cdI ctI),slI])
  (kI:bJ K cdI "NotTurned.__init__" = Aa)
  (pI:aJ K (.ref fI)=Aa)
  (fnI:aV K (.ref fI)=Aa)
  (mW:bM K gb eU=Aa)
  (mX:bY K gb=Aa)
  (mY:cy K gb=Aa)
  (mZ:ag K (.ref gb) "__setattr__" = tY (tY (.builtin "object.__setattr__")))
  (nc:cI K gb=Aa)
  (ng:aJ K (.ref gb)=Aa)
  (no_System:ag K (.ref gb) "order" = tY tZ)
  (nr_System:ag K (.ref gb) "rules" = tY tZ)
  (XIu:XI K gn)
  (ua:ag K (.ref gn) "at" = tY tZ)
  (iniU:ag K (.ref gn) "__init__" = tY (tY (.ref fU)))
  (lU:K.lookup fU=tY #[ocU,odU,.func (bp "__init__" "NoUse.__init__" (yI yA) (ya yA) (zh yA) .none kVU dcU pmU anU cdU ctU),slU])
  (kU:bJ K cdU "NoUse.__init__" = Aa)
  (pU:aJ K (.ref fU)=Aa)
  (fnU:aV K (.ref fU)=Aa)
  (XIf:XI K gc)
  (vi:ag K (.ref gc) "__init__" = tY (tY (.builtin "ValueError.__init__")))
  (sFF:cS K (.ref gc) (.ref gc)=tY Aa)
  (XIq:XI K gh)
  (nwi:ag K (.ref gh) "__init__" = tY (tY (.builtin "ValueError.__init__")))
  (mostr:au K pS "MOST_ROOMS" = tY (tY (.int 8 t9)))
  (nG:bM K fY eU=Aa)
  (nH:bY K fY=Aa)
  (nI:cy K fY=Aa)
  (nJ:ag K (.ref fY) "__setattr__" = tY (tY (.builtin "object.__setattr__")))
  (nL:cI K fY=Aa)
  (nM:aJ K (.ref fY)=Aa)
  (nN:ag K (.ref fY) "letters" = tY tZ)
  (nt_World:ag K (.ref fY) "table" = tY tZ)
  (XIm:XI K gk)
  (wi:ag K (.ref gk) "__init__" = tY (tY (.builtin "ValueError.__init__")))
  (mostt:au K pS "MOST_TABLES" = tY (tY (.int 1000 tmt)))
  (ks:aQ K (.type "str") (.type "str")=tY Aa)
  (nmin:au K pS "min" = tY tZ)
  (nany:au K pS "any" = tY tZ)
  (nsorted:au K pS "sorted" = tY tZ)
  (mou:au K pS "MOST_USES_thinning" = tY (tY (.int 40 tmu)))
  (mos:au K pS "MOST_STEPS_thinning" = tY (tY (.int 240 tms)))
  (mod_:au K pS "MOST_SIDE_thinning" = tY (tY (.int 60 tmd)))
  (mop:au K pS "MOST_PASSES" = tY (tY (.int 20 tmp)))
  (mcu:au K pS "MOST_USES_completing" = tY (tY (.int 40 tcu)))
  (mce:au K pS "MOST_ENTRIES" = tY (tY (.int 12 tce)))
  (mcd:au K pS "MOST_SIDE_completing" = tY (tY (.int 10 tcd)))
  (mcp:au K pS "MOST_PEAKS" = tY (tY (.int 8 tcp)))
  (mju:au K pS "MOST_USES_judging" = tY (tY (.int 40 tju)))
  (mjs:au K pS "MOST_STEPS_judging" = tY (tY (.int 2000 tjs)))
  (iZ:ag K (.ref fX) "__init__" = tY (tY (.ref gX)))
  (lc:FnE K "__init__" "Order.__init__" wb gX)
  (gZ:aV K (.ref gX)=Aa)
  (io:ag K (.ref fX) "weight" = tY (tY (.ref gD)))
  (ip:FnE K "weight" "Order.weight" xz gD)
  (gF:aV K (.ref gD)=Aa)
  (lg:ag K (.ref fX) "seen" = tY (tY (.ref iX)))
  (lh:FnE K "seen" "Order.seen" wy iX)
  (lm:aV K (.ref iX)=Aa)
  (gP:ag K (.ref fW) "seen" = tY (tY (.ref gN)))
  (gQ:FnE K "seen" "FromRight.seen" yR gN)
  (gT:aV K (.ref gN)=Aa)
  (ln:ag K (.ref fX) "rank" = tY (tY (.ref gY)))
  (lr:FnE K "rank" "Order.rank" xg gY)
  (ia:aV K (.ref gY)=Aa)
  (iq:ag K (.ref fX) "before" = tY (tY (.ref gE)))
  (ir:FnE K "before" "Order.before" xv gE)
  (gG:aV K (.ref gE)=Aa)
  (iM:ag K (.ref gb) "__init__" = tY (tY (.ref iK)))
  (iN:FnE K "__init__" "System.__init__" xV iK)
  (iO:aV K (.ref iK)=Aa)
  (gw:ag K (.ref gb) "rules_told" = tY (tY (.ref gv)))
  (gx:FnE K "rules_told" "System.rules_told" yy gv)
  (gy:aV K (.ref gv)=Aa)
  (lu:ag K (.ref fY) "__init__" = tY (tY (.ref iY)))
  (lv:FnE K "__init__" "World.__init__" wB iY)
  (lw:aV K (.ref iY)=Aa)
  (iP:ag K (.ref fY) "rooms" = tY (tY (.ref iL)))
  (iQ:FnE K "rooms" "World.rooms" xO iL)
  (iR:aV K (.ref iL)=Aa)
  (lP:ag K (.ref fY) "led" = tY (tY (.ref lF)))
  (lQ:FnE K "led" "World.led" vt lF)
  (lS:aV K (.ref lF)=Aa)
  (iu:ag K (.ref fY) "parted" = tY (tY (.ref il)))
  (iw:FnE K "parted" "World.parted" xx il)
  (iz:aV K (.ref il)=Aa)
  (iA:ag K (.ref fY) "broken" = tY (tY (.ref im)))
  (iB:FnE K "broken" "World.broken" xo im)
  (iC:aV K (.ref im)=Aa)
  (nk:K.lookup nj=tY #[d1_gone,d2_gone,.seq #[.int 4000 ij] d3_gone,d4_gone])
  (mC:K.lookup mv=tY #[d1_unmet,d2_unmet,.seq #[.int 4000 mr] d3_unmet,d4_unmet])
  (fiR_init:ag K (.ref fW) "__init__" = tY (tY (.ref gX)))
  (fiR_weight:ag K (.ref fW) "weight" = tY (tY (.ref gD)))
  (fiR_rank:ag K (.ref fW) "rank" = tY (tY (.ref gY)))
  (fiR_before:ag K (.ref fW) "before" = tY (tY (.ref gE)))
  (b0:au K pS "len" = tY tZ)
  (b1:au K pS "range" = tY tZ)
  (b2:au K pS "isinstance" = tY tZ)
  (b3:au K pS "str" = tY tZ)
  (b4:au K pS "int" = tY tZ)
  (b5:au K pS "tuple" = tY tZ)
  (b6:au K pS "list" = tY tZ)
  (b7:au K pS "bool" = tY tZ)
  (b8:au K pS "enumerate" = tY tZ)
  (b9:au K pS "all" = tY tZ)
  (b10:au K pS "ValueError" = tY tZ)
  (b11:au K pS "max" = tY tZ)
  (b12:au K pS "reversed" = tY tZ)
  (b13:au K pS "zip" = tY tZ)
  (b14:au K pS "sum" = tY tZ)
  (b15:au K pS "sorted" = tY tZ)
  : ∃fd:ra,(∀(s:pZ) (v:pY),tj s fd #[[v],[]] [("_law_script",v)])/\∀base:rj,K.In base->base.Ns pS mg->base.BuiltinsAt mg TB->PySem.W.CodeHd base cc TB->zR l.prog w K mg base CX0 12 fa fd ["_law_script"] (XQ K TB):=by
 have e:=hfa.symm.trans (aF X G a55);cases e;have B:Bt mg:=#[aN X G b0,aN X G b1,aN X G b2,aN X G b3,aN X G b4,aN X G b5,aN X G b6,aN X G b7,aN X G b8,aN X G b9,aN X G b10,aN X G b11,aN X G b12,aN X G b13,aN X G b14,aN X G b15];obtain⟨M0,p0,_,F0⟩:=a0.mk X G;obtain⟨M1,p1,_,F1⟩:=a1.mk X G;have B1:=F1.binds (ps:=["text"]) nofun;obtain⟨M2,p2,_,F2⟩:=a2.mk X G;obtain⟨M3,p3,_,F3⟩:=a3.mk X G;obtain⟨M4,p4,_,F4⟩:=a4.mk X G;obtain⟨M5,p5,_,F5⟩:=a5.mk X G;have F6:FunD K "gone" "gone" ve (.ref nj) f6 (bp "gone" "gone" (yI ve) (ya ve) (zh ve) (.ref nj) kV6 dc6 pm6 an6 cd6 ct6):=⟨#[_,_,_,_,_,_,_,_,_,rfl,l6,k6]⟩;have M6:=aF X G a6;obtain⟨M7,p7,_,F7⟩:=a7.mk X G;obtain⟨M8,p8,_,F8⟩:=a8.mk X G;obtain⟨M9,p9,_,F9⟩:=a9.mk X G;obtain⟨M10,p10,_,F10⟩:=a10.mk X G;obtain⟨M11,p11,_,F11⟩:=a11.mk X G;have F12:=fun_mk (st:=yz) l12 k12 p12;have M12:=aF X G a12;obtain⟨M13,p13,_,F13⟩:=a13.mk X G;obtain⟨M14,p14,_,F14⟩:=a14.mk X G;obtain⟨M15,p15,_,F15⟩:=a15.mk X G;obtain⟨M16,p16,_,F16⟩:=a16.mk X G;obtain⟨M17,p17,_,F17⟩:=a17.mk X G;obtain⟨M18,p18,_,F18⟩:=a18.mk X G;obtain⟨M19,p19,_,F19⟩:=a19.mk X G;obtain⟨M20,p20,_,F20⟩:=a20.mk X G;obtain⟨M21,p21,_,F21⟩:=a21.mk X G;obtain⟨M22,p22,_,F22⟩:=a22.mk X G;obtain⟨M23,p23,_,F23⟩:=a23.mk X G;obtain⟨M24,p24,_,F24⟩:=a24.mk X G;obtain⟨M25,p25,_,F25⟩:=a25.mk X G;obtain⟨M26,p26,_,F26⟩:=a26.mk X G;obtain⟨M27,p27,_,F27⟩:=a27.mk X G;obtain⟨M28,p28,_,F28⟩:=a28.mk X G;obtain⟨M29,p29,_,F29⟩:=a29.mk X G;have F30:FunD K "unmet" "unmet" xl (.ref mv) f30 (bp "unmet" "unmet" (yI xl) (ya xl) (zh xl) (.ref mv) kV30 dc30 pm30 an30 cd30 ct30):=⟨#[_,_,_,_,_,_,_,_,_,rfl,l30,k30]⟩;have M30:=aF X G a30;obtain⟨M31,p31,_,F31⟩:=a31.mk X G;obtain⟨M32,p32,_,F32⟩:=a32.mk X G;obtain⟨M33,p33,_,F33⟩:=a33.mk X G;obtain⟨M34,p34,_,F34⟩:=a34.mk X G;obtain⟨M35,p35,_,F35⟩:=a35.mk X G;obtain⟨M36,p36,_,F36⟩:=a36.mk X G;obtain⟨M37,p37,_,F37⟩:=a37.mk X G;obtain⟨M38,p38,_,F38⟩:=a38.mk X G;obtain⟨M39,p39,_,F39⟩:=a39.mk X G;obtain⟨M40,p40,_,F40⟩:=a40.mk X G;obtain⟨M41,p41,_,F41⟩:=a41.mk X G;obtain⟨M42,p42,_,F42⟩:=a42.mk X G;obtain⟨M43,p43,_,F43⟩:=a43.mk X G;obtain⟨M44,p44,_,F44⟩:=a44.mk X G;obtain⟨M45,p45,_,F45⟩:=a45.mk X G;obtain⟨M46,p46,_,F46⟩:=a46.mk X G;obtain⟨M47,p47,_,F47⟩:=a47.mk X G;obtain⟨M48,p48,_,F48⟩:=a48.mk X G;obtain⟨M49,p49,_,F49⟩:=a49.mk X G;obtain⟨M50,p50,_,F50⟩:=a50.mk X G;obtain⟨M51,p51,_,F51⟩:=a51.mk X G;obtain⟨M52,p52,_,F52⟩:=a52.mk X G;obtain⟨M53,p53,_,F53⟩:=a53.mk X G;obtain⟨M54,p54,_,F54⟩:=a54.mk X G;have F55:=fun_mk (st:=km) l55 k55 p55;have B55:=F55.binds (ps:=["_law_script"]) nofun;have M55:=aF X G a55
 have HCC:cd12=.ref cc:=by
  obtain⟨ai,oi,fdi,m1,m2,m3,m4⟩:=hlam;have e1:=m1.symm.trans (aF X G a12);cases e1;have e2:=m2.symm.trans (X _ _ l12);cases e2;cases m3;exact m4
 refine#[bp "law" "law" (yI km) (ya km) (zh km) .none kV55 dc55 pm55 an55 cd55 ct55,λs v=>.of_eq rfl,λbase _ _ HBT HCH=>?_];have TL:ze1 K mg gd:=#[XIl,xi,aF X G g_NoLetters,t6,aF X G most];have TO:TOrd K mg fX fW fX:=#[#[mw,mx,my,mz],#[lG,lH,lJ,lK],#[mw,mx,my,mz],aF X G g_Order,aF X G g_FromRight,mB,lN,mB];have TNt:TNT K mg fZ:=#[XIt,aF X G g_NotTurned,nn];have FI:=fun_mk (st:=zU) lI kI pI;have BI:=FI.binds (ps:=["self","number"]) nofun;have TD:DNT l.prog w K mg base fZ:=#[TNt,_,_,ini,fnI,ur TNt FI,BI];have TS:zcO K mg gb:=#[#[mW,mX,mY,mZ],aF X G g_System,no_System,nr_System];have TWi:zff mg:=#[t8,aF X G win];have TNu:TNU K mg gn:=#[XIu,aF X G g_NoUse,ua];have FU:=fun_mk (st:=yA) lU kU pU;have BU:=FU.binds (ps:=["self","at"]) nofun;have TUd:DNU l.prog w K mg base gn:=#[TNu,_,_,iniU,fnU,kd TNu FU,BU];have TF:zas K mg gc:=#[XIf,vi,aF X G g_TooFar];have TNw:zca K mg gh:=#[XIq,nwi,aF X G g_NoWorld,t9,aF X G mostr];have CLw:Kz K mg fY:=#[#[nG,nH,nI,nJ],aF X G g_World,nN,nt_World];have TM:Kk K mg gk:=#[XIm,wi,aF X G g_TooMany,tmt,aF X G mostt];have TMk:TMo mg:=#[#[tmu,aF X G mou],#[tms,aF X G mos],#[tmd,aF X G mod_],#[tmp,aF X G mop]];have TMcc:TMc mg:=#[#[tcu,aF X G mcu],#[tce,aF X G mce],#[tcd,aF X G mcd],#[tcp,aF X G mcp]];have TMjj:TMj mg:=#[#[tju,aF X G mju],#[tjs,aF X G mjs]];have D0:=dfm l.prog w base (JS F0) M0 p0 (F0.binds nofun);have D1:=dfm l.prog w base (j7 B TL F1 D0) M1 p1 B1;have D2:=dfm l.prog w base (Z0 B F2) M2 p2 (F2.binds nofun);have D3:=dfm l.prog w base (zdC B TUd F3 D2) M3 p3 (F3.binds nofun);obtain⟨_,ic⟩:=lc;have pM:=ic.kp;have mI:=ic.binds (ps:=["self","letters"]) nofun;have oB:DMk l.prog w K mg base CX0 3 fX ["self","letters"] (kr K):=#[_,_,#[nE,iZ,gZ,nF],vK B ic D1,mI];obtain⟨_,gH⟩:=ip;have lY:=gH.kp;have lZ:=gH.binds (ps:=["self","word"]) nofun;have nU:DM l.prog w K mg base CX0 1 fX "weight" ["self","word"] k7:=#[_,_,#[io,gF,lY],wC B gH,lZ];obtain⟨_,lx⟩:=lh;have oE:=lx.kp;have oF:=lx.binds (ps:=["self","word"]) nofun;have oG:DM l.prog w K mg base CX0 1 fX "seen" ["self","word"] VU:=#[_,_,#[lg,lm,oE],Zk B lx,oF];obtain⟨_,gU⟩:=gQ;have nv:=gU.kp;have nw:=gU.binds (ps:=["self","word"]) nofun;have ny:DM l.prog w K mg base CX0 1 fW "seen" ["self","word"] Xe:=#[_,_,#[gP,gT,nv],uh B gU,nw];have TT:TWS l.prog w K mg base fX fW fX:=#[TO,oB,#[_,_,#[lL,fiR_init,gZ,lM],vK B ic D1,mI],nU,#[_,_,#[fiR_weight,gF,lY],wC B gH,lZ],oG,ny];obtain⟨_,ie⟩:=lr;have mJ:=ie.kp;have mK:=ie.binds (ps:=["self","word"]) nofun;have mL:DM l.prog w K mg base CX0 2 fX "rank" ["self","word"] (jh fX fW fX):=#[_,_,#[ln,ia,mJ],vR B TT ie,mK];have DRk:DR l.prog w K mg base fX fW fX:=⟨λC h=>by rcases h with e | e | e; (rw[e];exact#[TO.cO,mL]); (rw[e];exact#[TO.cR,#[_,_,#[fiR_rank,ia,mJ],vR B TT ie,mK]]); (rw[e];exact#[TO.cO,mL])⟩;obtain⟨_,gJ⟩:=ir;have md:=gJ.kp;have me:=gJ.binds (ps:=["self","one","other"]) nofun;have mf:DM l.prog w K mg base CX0 3 fX "before" ["self","one","other"] (VN fX fW fX):=#[_,_,#[iq,gG,md],wG B DRk gJ,me];have DBk:DB l.prog w K mg base fX fW fX:=⟨λC h=>by rcases h with e | e | e; (rw[e];exact#[TO.cO,mf]); (rw[e];exact#[TO.cR,#[_,_,#[fiR_before,gG,md],wG B DRk gJ,me]]); (rw[e];exact#[TO.cO,mf])⟩;have D4:=dfm l.prog w base (qC B F4) M4 p4 (F4.binds nofun);have D5:=dfm l.prog w base (Zl B TWi F5 D4) M5 p5 (F5.binds nofun);have O6:=zbe (P:=l.prog) (w:=w) (base:=base) B TF TUd F6 D5 D3;have D6:Df l.prog w K mg base (CXx l.prog w) 4 "gone" ["rules","word","most"] [] (xu K gc):=#[_,_,O6,M6,p6,λs us hK hl=>by obtain⟨_,_,_,rfl⟩:=Yw (us:=us) (by simpa using hl);exact BindsTo.of_defaults rfl (hK _ _ nk) rfl rfl rfl];have D6d:Df l.prog w K mg base (CXx l.prog w) 4 "gone" ["rules","word","most"] [.int 4000 ij] (xu K gc):=#[_,_,O6,M6,p6,λs us hK hl=>by obtain⟨_,_,rfl⟩:=wY (us:=us) (by simpa using hl);exact BindsTo.of_defaults rfl (hK _ _ nk) rfl rfl rfl];have D7:=dfm l.prog w base (zaQ B F7) M7 p7 (F7.binds nofun);have D8:=dfm l.prog w base (JQ B F8) M8 p8 (F8.binds nofun);have D9:=dfm l.prog w base (YW B F9 D8 D7) M9 p9 (F9.binds nofun);have D10:=dfm l.prog w base (YF B F10) M10 p10 (F10.binds nofun);have D11:=dfm l.prog w base (Vh B DBk F11 D7) M11 p11 (F11.binds nofun);have D12:=dfm l.prog w base (YX B DRk (aN X G nsorted) HCH HBT hgT F12 HCC D11) M12 p12 (F12.binds nofun);have D13:=dfm l.prog w base (qO B TMk F13 D10 D6 D6d D9 D7) M13 p13 (F13.binds nofun);have D14:=dfm l.prog w base (uL B TF TMk F14) M14 p14 (F14.binds nofun);have D15:=dfm l.prog w base (Zj B F15 D13 D14 D11) M15 p15 (F15.binds nofun);have D16:=dfm l.prog w base (W4 B TF TMk F16 D12 D15 D10) M16 p16 (F16.binds nofun);have D17:=dfm l.prog w base (zaA B F17) M17 p17 (F17.binds nofun);have D18:=dfm l.prog w base (Kh B F18) M18 p18 (F18.binds nofun);have D19:=dfm l.prog w base (WO B F19 D18) M19 p19 (F19.binds nofun);have D20:=dfm l.prog w base (zbm B F20) M20 p20 (F20.binds nofun);have D21:=dfm l.prog w base (Jn B #[ki,kb] F21) M21 p21 (F21.binds nofun);have D22:=dfm l.prog w base (Jo B #[kl,kt,kbb] F22 D21) M22 p22 (F22.binds nofun);have D23:=dfm l.prog w base (zau B F23) M23 p23 (F23.binds nofun);have D24:=dfm l.prog w base (zcC B F24 D23) M24 p24 (F24.binds nofun);obtain⟨_,iS⟩:=iN;have pL:=iS.kp;have ol:=iS.binds (ps:=["self","order","rules"]) nofun;have om:DMk l.prog w K mg base (CXx l.prog w) 5 gb ["self","order","rules"] (uZ K fX fW fX fZ gb):=#[_,_,#[nc,iM,iO,ng],jx B TD TS DBk iS,ol];have MS:MkS l.prog w K mg base fX fW fX fZ gb:=om;have D25:=dfm l.prog w base (JX B F25) M25 p25 (F25.binds nofun);have D26:=dfm l.prog w base (YT B F26 D25) M26 p26 (F26.binds nofun);have D27:=dfm l.prog w base (za0 B F27 D3) M27 p27 (F27.binds nofun);have D28:=dfm l.prog w base (WU B F28 D6 D6d) M28 p28 (F28.binds nofun);have D29:=dfm l.prog w base (UT B F29 D27 D28) M29 p29 (F29.binds nofun);obtain⟨_,gz⟩:=gx;have mD:=gz.kp;have mE:=gz.binds (ps:=["self"]) nofun;have mF:DM l.prog w K mg base CX0 1 gb "rules_told" ["self"] (kj K gb):=#[_,_,#[gw,gy,mD],wZ B TS gz,mE];have O30:=JR (P:=l.prog) (w:=w) (base:=base) B TS F30 D26 D29 mF;have D30:Df l.prog w K mg base (CXx l.prog w) 7 "unmet" ["system","most"] [] (vC K gb gc):=#[_,_,O30,M30,p30,λs us hK hl=>by obtain⟨_,_,rfl⟩:=wY (us:=us) (by simpa using hl);exact BindsTo.of_defaults rfl (hK _ _ mC) rfl rfl rfl];have D30d:Df l.prog w K mg base (CXx l.prog w) 7 "unmet" ["system","most"] [.int 4000 mr] (vC K gb gc):=#[_,_,O30,M30,p30,λs us hK hl=>by obtain⟨_,rfl⟩:=Yy (us:=us) (by simpa using hl);exact BindsTo.of_defaults rfl (hK _ _ mC) rfl rfl rfl];have D31:=dfm l.prog w base (Yg B TS MS F31 D10) M31 p31 (F31.binds nofun);have D32:=dfm l.prog w base (uN B F32) M32 p32 (F32.binds nofun);have D33:=dfm l.prog w base (Z8 B (aN X G nany) TMcc F33) M33 p33 (F33.binds nofun);have D34:=dfm l.prog w base (uj B TF ⟨sFF⟩ F34 D16 D33) M34 p34 (F34.binds nofun);have D35:=dfm l.prog w base (jb B TF ⟨sFF⟩ TMcc F35 D30 D30d D31) M35 p35 (F35.binds nofun);have D36:=dfm l.prog w base (Xf B F36 D27 D9 D10) M36 p36 (F36.binds nofun);have D37:=dfm l.prog w base (ZQ B TMcc F37 D32 D34 D35 D36) M37 p37 (F37.binds nofun);have D38:=dfm l.prog w base (YY B TNw F38) M38 p38 (F38.binds nofun);obtain⟨_,ly⟩:=lv;have pN:=ly.kp;have oH:=ly.binds (ps:=["self","letters","table"]) nofun;have oJ:DMk l.prog w K mg base (CXx l.prog w) 4 fY ["self","letters","table"] (vQ fY):=#[_,_,#[nL,lu,lw,nM],Zp B CLw ly D1 D38,oH];obtain⟨_,iT⟩:=iQ;have oo:=iT.kp;have oq:=iT.binds (ps:=["self"]) nofun;have ot:DM l.prog w K mg base CX0 1 fY "rooms" ["self"] (qb fY):=#[_,_,#[iP,iR,oo],jC B CLw iT,oq];obtain⟨_,lT⟩:=lQ;have oS:=lT.kp;have oU:=lT.binds (ps:=["self","room","word"]) nofun;have nh:DM l.prog w K mg base CX0 1 fY "led" ["self","room","word"] (qE fY):=#[_,_,#[lP,lS,oS],Yp B CLw lT,oU];obtain⟨_,iD⟩:=iw;have nV:=iD.kp;have nW:=iD.binds (ps:=["self","one","other"]) nofun;have nX:DM l.prog w K mg base CX0 2 fY "parted" ["self","one","other"] (wU fY):=#[_,_,#[iu,iz,nV],qD B CLw iD ot nh,nW];obtain⟨_,iE⟩:=iB;have nY:=iE.kp;have nZ:=iE.binds (ps:=["self","pacts"]) nofun;have oa:DM l.prog w K mg base CX0 3 fY "broken" ["self","pacts"] (uu K fY):=#[_,_,#[iA,iC,nY],ql B CLw iE nX,nZ];have D39:=dfm l.prog w base (jF B F39) M39 p39 (F39.binds nofun);have D40:=dfm l.prog w base (uQ B TM F40 D39) M40 p40 (F40.binds nofun);have D41:=dfm l.prog w base (Xr B F41) M41 p41 (F41.binds nofun);have D42:=dfm l.prog w base (jy B CLw F42 nh oa) M42 p42 (F42.binds nofun);have D43:=dfm l.prog w base (jD B TM CLw F43 D40 D39 D41 D42 oJ) M43 p43 (F43.binds nofun);have D44:=dfm l.prog w base (jv B TF ⟨sFF⟩ TMjj F44 D6 D6d D10) M44 p44 (F44.binds nofun);have D45:=dfm l.prog w base (vF B TMjj F45 D44 D9 D7) M45 p45 (F45.binds nofun);have D46:=dfm l.prog w base (vm B F46 D43) M46 p46 (F46.binds nofun);have D47:=dfm l.prog w base (Vz B TO TM F47 D37 D45 D40 D46) M47 p47 (F47.binds nofun);have D48:=dfm l.prog w base (WP B #[kl,kt,kbb] ⟨ks⟩ F48 D22) M48 p48 (F48.binds nofun);have D49:=dfm l.prog w base (Xp B #[kl,kt,kbb] F49 D21) M49 p49 (F49.binds nofun);have D50:=dfm l.prog w base (VR B #[kt,ks] F50 D22 D49 D48) M50 p50 (F50.binds nofun);have D51:=dfm l.prog w base (Ue B F51 D18) M51 p51 (F51.binds nofun);have D52:=dfm l.prog w base (Vg B ⟨(aN X G nmin)⟩ F52) M52 p52 (F52.binds nofun);have D53:=dfm l.prog w base (JW B F53 D52) M53 p53 (F53.binds nofun);have D54:=dfm l.prog w base (zcB B F54 D52) M54 p54 (F54.binds nofun);exact zdq B TT F55 D17 D19 D51 D20 D47 D53 D18 D50 D54 D24
theorem walk{l:PySem.W.OpenLaw}{q:rb}{loose:List re}{XP:(re->Option pY)->rj->Prop}{YP:rf->rj->Prop}{d:DefRec}{K:Params->pW}(hn:l.most=tY 63)(hdf:d.params.defaults=[])
  (hY:∀(w:rf) (h:rj),YP w h->(K w.params).In h) (hj:((PyProof.Rows.recsOf q).find? λr=>r.name ==("in_order" : re)).isSome=Aa) (hno:∀w:rf,zbw (K w.params)=Aa)
  (F:∀(w:rf) (mg:re->Option pY) (fa:pX) (h:rj) (cc T:pX),(K w.params).In h->h.Ns pS mg->mg d.name=tY (.ref fa)->(∃a o fd,mg "in_order" = tY (.ref a)/\h.get? a=tY o/\o.data=.func fd/\fd.code=.ref cc)->pS≠T ->
   ∃fd:ra,(∀(s:pZ) (u:pY),tj s fd #[[u],[]] [("_law_script",u)])/\∀base:rj,(K w.params).In base->base.Ns pS mg->base.BuiltinsAt mg T->PySem.W.CodeHd base cc T->zR l.prog w (K w.params) mg base CX0 12 fa fd ["_law_script"] (XQ (K w.params) T)) :
  PySem.W.WalkO q loose XP YP l.row.toRowW d [] (λf vs=>fR f vs):=by
 obtain⟨din,hd⟩:=Aq.mp hj;have hnm:din.name="in_order":=by simpa using dD hd
 exact L3.walk_ofT (n:=63) (k:=12) (x:="_law_script") (CX:=λ_=>CX0) (din:=din) (sp:=λw T=>XQ (K w.params) T) hn ∅ hdf #[rfl,∅,∅] (eg hd) hY hno (λw mg fa h cc T a b c e g=>F w mg fa h cc T a b c (by rw[hnm]at e;exact e) g) (λ_ _ a ns T hl hB hT hS=>#[a,ns,rfl,hS,hB,hT,λ_=>rfl]) λ_ _ _ _ _ z=>z
end LL
namespace PySem.W.Fast
def tw14331967685568624470:=Nat
def tw8592420298947071638:=Nat
def tw9969049519974313836:=Nat
def tw5185533975665850109:=Nat
def tw9130459536784179866:=Nat
def tw7611002590092464923:=Nat
def tw14024987477657799483:=Nat
def tw6951473792903278965:=Nat
def tw11133555749616346398:=Nat
def tw6886986541185156596:=Nat
def tw10559144796671010642:=Nat
def tw17356676165295576714:=Nat
def tw16780786747000200990:=Nat
def tw1168531933757810423:=Nat
def tw18299683593285618938:=Nat
def tw763436159922654527:=Nat
def tw3225417621992674848:=Nat
def tw6602063859317633073:=Nat
def tw4717235867492149913:=Nat
def tw15569184984163192585:=Nat
def tw9025891306398449853:=Nat
def tw15024998020213868978:=Nat
def tw10700855148220345618:=Nat
def tw3327149297042562588:=Nat
def tw12873133626762551534:=Nat
def tw14905351974427341141:=Nat
def tw16019193787847900992:=Nat
def tw6912042894588335229:=Nat
def tw8011344963707210321:=Nat
def tw14209659469883107755:=Nat
def tw4077241094792220237:=Nat
def tw2562064195405334805:=Nat
def tw13319499801142345414:=Nat
def tw9328694420266062257:=Nat
def tw9630767245460052496:=Nat
def tw18221550608383957299:=Nat
def tw16148211666388699435:=Nat
def tw8665002763798456178:=Nat
def tw10290556783290164943:=Nat
def tw15734381961956808937:=Nat
def tw15559537299396820689:=Nat
def tw10872693215577298287:=Nat
def tw12099050977693484325:=Nat
def tw16423674110556630169:=Nat
def tw17667757854970243911:=Nat
def tw9164713170946568585:=Nat
def tw7456851570120910555:=Nat
def tw2132696339609825235:=Nat
def tw11940194801452547716:=Nat
def tw17425648099924601999:=Nat
def tw998092047756903886:=Nat
def tw4908816305532956596:=Nat
def tw16523163274140253902:=Nat
def tw625835651375537892:=Nat
def tw12148275576093204096:=Nat
def tw10238484196627219877:=Nat
def tw6808563293598120540:=Nat
def tw13851513064165933684:=Nat
def tw1222968520804487747:=Nat
def tw11909260757150131630:=Nat
def tw3879050518556529643:=Nat
def tw11486251227593593432:=Nat
def tw18349946551895437389:=Nat
def tw11888517302733035723:=Nat
def tw11361863635219379159:=Nat
def tw917271235902245473:=Nat
def tw16137370350875407937:=Nat
def tw14395681557269519019:=Nat
def tw17824698938045997121:=Nat
def tw632030624952935420:=Nat
def tw4290381575051240045:=Nat
def tw18251825523432716211:=Nat
def tw280626485026812489:=Nat
def tw4525150491138755322:=Nat
def tw14325901058646335938:=Nat
def tw8002635450542528301:=Nat
def tw4836741985016012793:=Nat
def tw4620000258225521106:=Nat
def tw12380871563858173463:=Nat
def tw15291996944544377797:=Nat
def tw10048029993720277211:=Nat
def tw9009720330975464356:=Nat
def tw3293102804585423880:=Nat
def tw18619424373586220:=Nat
def tw9805656338458560896:=Nat
def tw14992712823212821292:=Nat
def tw10436410880819899434:=Nat
def tw17186521474827650653:=Nat
def tw5526628401352311091:=Nat
def tw5046901254761750079:=Nat
def tw14870069472484998182:=Nat
def tw16370802106176046530:=Nat
def tw3141583767094530638:=Nat
def tw18096053161903701321:=Nat
def tw18416943390038160413:=Nat
def tw567328916204081866:=Nat
def tw12692852297795977824:=Nat
def tw14189186934492778154:=Nat
def tw2759023667797009759:=Nat
def tw13259652688850267211:=Nat
def tw14314415669313232498:=Nat
def tw16091090535410854187:=Nat
def tw16724297785450018577:=Nat
def tw14438035773212090429:=Nat
def tw8229133227469149727:=Nat
def tw3171426674992362726:=Nat
def tw2186731377295007597:=Nat
def tw9462974883207195565:=Nat
def tw18029678765305534813:=Nat
def tw10600694660784428951:=Nat
def tw6690741329317051415:=Nat
def tw2528682540109314989:=Nat
def tw7780493814125490443:=Nat
def tw6289020345156873751:=Nat
def tw12767157881202742263:=Nat
def tw14733300435799741056:=Nat
def tw10201835764586548246:=Nat
def tw8943228311498027854:=Nat
def tw12196773466388776865:=Nat
def tw6031478333122050918:=Nat
def tw17354093885150884425:=Nat
def tw14777476346967049474:=Nat
def tw11710391406486851192:=Nat
def tw4552373825440193853:=Nat
def tw9208456547477343492:=Nat
def tw3389121804751094939:=Nat
def tw7974707118394688454:=Nat
def tw5578699505918596855:=Nat
def tw14379866287214043435:=Nat
def tw6729782922988341276:=Nat
def tw13622210819734419329:=Nat
def tw8364106510259731254:=Nat
def tw3906297196034006414:=Nat
def tw9655362230701393461:=Nat
def tw10526608275895708651:=Nat
def tw7575926941942217678:=Nat
def tw14325507074003315627:=Nat
def tw9719258851910385167:=Nat
def tw8891480498037652850:=Nat
def tw11000192275406557062:=Nat
def tw17606957990042346275:=Nat
def tw4507537705562866577:=Nat
def tw18077793956562432715:=Nat
def tw9285574089950333058:=Nat
def tw12717101509891567695:=Nat
def tw14359848760919008566:=Nat
def tw17028050436123946216:=Nat
def tw15794365128267384482:=Nat
def tw13890928642892056181:=Nat
def tw11506071980798782285:=Nat
def tw15177381495284204864:=Nat
def tw1171224112726898475:=Nat
def tw2507389529702877529:=Nat
def tw15380687117951298808:=Nat
def tw5515520351841541960:=Nat
def tw4453259882706329939:=Nat
def tw9740099081585111418:=Nat
def tw12468324785598372243:=Nat
def tw7546570376579097391:=Nat
def tw3051364852813472069:=Nat
def tw8543212610096556563:=Nat
def tw2108502070807123294:=Nat
def tw7763475020876762463:=Nat
def tw17229957533953433594:=Nat
def tw10293821480141600440:=Nat
def tw5734135991577740594:=Nat
def tw2341909634418620196:=Nat
def tw16626416441657962037:=Nat
def tw16619426540759041279:=Nat
def tw10419580078529617819:=Nat
def tw13898122847355353219:=Nat
def tw7641013088692880885:=Nat
def tw4211609248376546090:=Nat
def tw16334693912334145462:=Nat
def tw17140500339021998454:=Nat
def tw3749401691843515247:=Nat
def tw7158638344593049282:=Nat
def tw14576429174161032474:=Nat
def tw4684107150196016785:=Nat
def tw3159172357196401825:=Nat
def tw14025325252311903505:=Nat
def tw10756993212444920182:=Nat
def tw13395433157182831159:=Nat
def tw3843898650972913050:=Nat
def tw1625843235247264092:=Nat
def tw5592516549247440224:=Nat
def tw1168994295481047837:=Nat
def tw13803654069462313219:=Nat
def tw16959767371586428353:=Nat
def tw3878224298153025010:=Nat
def tw2661885659938814259:=Nat
def tw14760180385868621319:=Nat
def tw3448633592295633380:=Nat
def tw4358879002795922464:=Nat
def tw13932905151156795430:=Nat
def tw12538484371198601794:=Nat
def tw14555181327088346202:=Nat
def tw15189947992337083056:=Nat
def tw8513817517126540922:=Nat
def tw16290125041927681077:=Nat
def tw9222196851605751466:=Nat
def tw4300011813487714563:=Nat
def tw3425422264079060599:=Nat
def tw2391049255340912056:=Nat
def tw16185159022398591703:=Nat
def tw8631445549498871515:=Nat
def tw15211476883889103597:=Nat
def tw190286006733929355:=Nat
def tw11326594144490258812:=Nat
def tw3113410644312261650:=Nat
def tw1661963790236091595:=Nat
def tw12311011762748269012:=Nat
def tw9707959424984295303:=Nat
def tw16978837172664272541:=Nat
def tw11491597876867970041:=Nat
def tw8266841972679378854:=Nat
def tw4437131089068582466:=Nat
def tw12595433048726352394:=Nat
def tw4671288481509297071:=Nat
def tw12154649536169971717:=Nat
def tw7766537457224985247:=Nat
def tw9957840267150686837:=Nat
def tw3657796388901567696:=Nat
def tw5100263272433591200:=Nat
def tw9077838194135298124:=Nat
def tw17190465737283832000:=Nat
def tw16646898879374723474:=Nat
def tw10094099497940129552:=Nat
def tw9781826061570061064:=Nat
def tw15338168972942979534:=Nat
def tw3835686703783939938:=Nat
def tw8435923077618148012:=Nat
def tw1829662593397850911:=Nat
def tw17485030746883196511:=Nat
def tw16584161880019163027:=Nat
def tw3976570010136435377:=Nat
def tw10385918420121517837:=Nat
def tw1308997861133688877:=Nat
end PySem.W.Fast
open PySem PySem.W PyProof.Rows
set_option maxRecDepth 100000 in
set_option maxHeartbeats 0 in
theorem PySem.Challenge.cw_letterlaw_k89_whole_tables_judged_holds : PySem.Challenge.rw_letterlaw_k89_whole_tables_judged.Holds := by
 w_on;o_law;k_head; (case hw=>w_witness2)
 k_fill
 refine LL.walk (l:=PySem.Challenge.rw_letterlaw_k89_whole_tables_judged) rfl rfl (λw h Y=>PySem.W.km_in_of Y) ?hJJ ?hNN ?hFF
 case hJJ=>first | kernel_rfl | rfl | decide +kernel
 case hNN=>intro w;first | kernel_rfl | rfl
 case hFF =>
  intro w mg fa h cc T KX G hmg hlam hgT
  refine' LL.all_mk KX G hmg hlam hgT ?a0 ?a1 ?a2 ?a3 ?a4 ?a5 ?a6 ?l6 ?k6 ?p6 ?a7 ?a8 ?a9 ?a10 ?a11 ?a12 ?l12 ?k12 ?p12 ?a13 ?a14 ?a15 ?a16 ?a17 ?a18 ?a19 ?a20 ?a21 ?a22 ?a23 ?a24 ?a25 ?a26 ?a27 ?a28 ?a29 ?a30 ?l30 ?k30 ?p30 ?a31 ?a32 ?a33 ?a34 ?a35 ?a36 ?a37 ?a38 ?a39 ?a40 ?a41 ?a42 ?a43 ?a44 ?a45 ?a46 ?a47 ?a48 ?a49 ?a50 ?a51 ?a52 ?a53 ?a54 ?a55 ?l55 ?k55 ?p55 ?g_LetterError ?g_NoLetters ?g_Order ?g_FromRight ?g_NotTurned ?g_System ?g_NoUse ?g_TooFar ?g_NoWorld ?g_World ?g_TooMany ?kbb ?kt ?ki ?kb ?kl ?XIl ?xi ?most ?mw ?mx ?my ?mz ?nE ?nF ?mB ?oP ?oQ ?oR ?lG ?lH ?lJ ?lK ?lL ?lM ?lN ?mT ?mU ?mV ?win ?XIt ?nn ?ini ?lI ?kI ?pI ?fnI ?mW ?mX ?mY ?mZ ?nc ?ng ?no_System ?nr_System ?XIu ?ua ?iniU ?lU ?kU ?pU ?fnU ?XIf ?vi ?sFF ?XIq ?nwi ?mostr ?nG ?nH ?nI ?nJ ?nL ?nM ?nN ?nt_World ?XIm ?wi ?mostt ?ks ?nmin ?nany ?nsorted ?mou ?mos ?mod_ ?mop ?mcu ?mce ?mcd ?mcp ?mju ?mjs ?iZ ?lc ?gZ ?io ?ip ?gF ?lg ?lh ?lm ?gP ?gQ ?gT ?ln ?lr ?ia ?iq ?ir ?gG ?iM ?iN ?iO ?gw ?gx ?gy ?lu ?lv ?lw ?iP ?iQ ?iR ?lP ?lQ ?lS ?iu ?iw ?iz ?iA ?iB ?iC ?nk ?mC ?fiR_init ?fiR_weight ?fiR_rank ?fiR_before ?b0 ?b1 ?b2 ?b3 ?b4 ?b5 ?b6 ?b7 ?b8 ?b9 ?b10 ?b11 ?b12 ?b13 ?b14 ?b15
  (case a0|a1|a2|a3|a4|a5=>exact#[by k_is,_,L2.fun_mk (by k_is) (by k_is) (by k_is)])
  case a6|l6|k6|p6=>k_is
  (case a7|a8|a9|a10|a11=>exact#[by k_is,_,L2.fun_mk (by k_is) (by k_is) (by k_is)])
  case a12|l12|k12|p12=>k_is
  (case a13|a14|a15|a16|a17|a18|a19|a20|a21|a22|a23|a24|a25|a26|a27|a28|a29=>exact#[by k_is,_,L2.fun_mk (by k_is) (by k_is) (by k_is)])
  case a30|l30|k30|p30=>k_is
  (case a31|a32|a33|a34|a35|a36|a37|a38|a39|a40|a41|a42|a43|a44|a45|a46|a47|a48|a49|a50|a51|a52|a53|a54=>exact#[by k_is,_,L2.fun_mk (by k_is) (by k_is) (by k_is)])
  case a55|l55|k55|p55|g_LetterError|g_NoLetters|g_Order|g_FromRight|g_NotTurned|g_System|g_NoUse|g_TooFar|g_NoWorld|g_World|g_TooMany|xi|most|mz|nF|mB|oQ|oR|lK|lM|lN|mU|mV|win|nn|ini|lI|kI|pI|mZ|ng|no_System|nr_System|ua|iniU|lU|kU|pU|vi|sFF|nwi|mostr|nJ|nM|nN|nt_World|wi|mostt|nmin|nany|nsorted|mou|mos|mod_|mop|mcu|mce|mcd|mcp|mju|mjs|iZ|io|lg|gP|ln|iq|iM|gw|lu|iP|lP|iu|iA=>k_is
  (case XIl|XIt|XIu|XIf|XIq|XIm=>exact#[#[by first | kernel_rfl | rfl | k_is | decide +kernel,by k_is,by k_is,by k_is,by k_is],by k_is,by k_is,by k_is,by k_is])
  case nk|mC|fiR_init|fiR_weight|fiR_rank|fiR_before|b0|b1|b2|b3|b4|b5|b6|b7|b8|b9|b10|b11|b12|b13|b14|b15=>k_is
  (case lc|ip|lh|gQ|lr|ir|iN|gx|lv|iQ|lQ|iw|iB=>exact#[_,L2.fun_mk (by k_is) (by k_is) (by k_is)])
  (case kbb|kt|ki|kb|kl|oP|mT|ks=>first | kernel_rfl | rfl)
  (case mw|my|nE|lG|lJ|lL|mW|mY|nc|nG|nI|nL=>first | kernel_rfl | rfl | k_is | decide +kernel)
  (case mx|lH|fnI|mX|fnU|nH|gZ|gF|lm|gT|ia|gG|iO|gy|lw|iR|lS|iz|iC=>first | kernel_rfl | rfl | k_is)
#print axioms PySem.Challenge.cw_letterlaw_k89_whole_tables_judged_holds
