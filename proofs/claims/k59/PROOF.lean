import PyProof.Rows.All
import Wide.All
import OpenK.AllK
import Wide.FinOn
import PyProof.EqAt
import PyProof.EqKinds
import PyProof.NeKinds
import PyProof.TupleCall
import KE.KRevIter
import PyProof.ZipIter
import PyProof.Rows.SetFrom
import PyProof.StrWalks
import PyProof.DictStraight
import PyProof.StrLawsFrom
import PyProof.Rows.StrNews2
import KE.KMinBuiltin
import PyProof.Rows.CallKwBuiltin
import PyProof.Rows.SortShell
import KE.KSortTup
import KE.KBoundM
import KE.KLam
import KE.KDictLaws
import PyProof.DictWalks
import Lean
import PySem.Challenge.RW_letterlaw_k59_thin_lists_completed
set_option compiler.extract_closed false
local macro_rules | `(tactic| exists $t)=>`(tactic| refine $t (λvs H Q E h=>by repeat (first | (obtain⟨e,_⟩:=h;subst e;rfl) | obtain⟨_,h⟩:=h)) (λ$(Lean.mkIdent `cdv) $(Lean.mkIdent `A) $(Lean.mkIdent `outer) $(Lean.mkIdent `s) $(Lean.mkIdent `H) $(Lean.mkIdent `vs) $(Lean.mkIdent `Q) $(Lean.mkIdent `E) $(Lean.mkIdent `hr) $(Lean.mkIdent `h)=>?_))
local macro_rules | `(tactic| exists $t,0)=>`(tactic| refine $t (λvs H Q E h=>by repeat (first | (obtain⟨e,_⟩:=h;subst e;rfl) | obtain⟨_,h⟩:=h)) (λ$(Lean.mkIdent `cdv) $(Lean.mkIdent `A) $(Lean.mkIdent `outer) $(Lean.mkIdent `s) $(Lean.mkIdent `H) $(Lean.mkIdent `vs) $(Lean.mkIdent `Q) $(Lean.mkIdent `E) $(Lean.mkIdent `hr) $(Lean.mkIdent `hx) $(Lean.mkIdent `h)=>?_))
local macro_rules | `(tactic| rintro $p* : _)=>`(tactic| rintro $(Lean.mkIdent `Gz):ident $(Lean.mkIdent `hGz):ident $p*)
local macro_rules | `(tactic| right)=>`(tactic| subst $(Lean.mkIdent `hGz))
local macro_rules | `($s⁻¹)=>`(($s).heap.objs.size)
local macro_rules | `(⋯)=>`(by lia)
local macro_rules | `(∅)=>`(by decide)
local macro_rules | `(tactic| erw [$[$a:term],*] $[$l:location]?)=>`(tactic| simp only [$[$a:term],*] $[$l:location]?)
local macro_rules | `(())=>`(List Nat)
local macro_rules | `(#[$a,*])=>if a.getElems.size>1 then `(⟨$a,*⟩) else Lean.Macro.throwUnsupported
open List renaming getElem?_eq_some_iff→rQ,mem_map→rR,mem_cons→rS,mem_append→rT,mem_singleton→rV,mem_range→rW,mem_filter→rX,mem_reverse→rZ,all_eq_true→sf,nodup_cons→si,length_pos_iff→sj,mem_flatMap→so,any_eq_true→sq,pairwise_append→sr,mem_iff_getElem?→sv,length_eq_zero_iff→sw,pairwise_map→sx,mem_filterMap→sy,find?_eq_none→sA,nodup_iff_count→sB,pairwise_cons→sC,nodup_append→sF
open Option renaming map_eq_some_iff→rY,isSome_iff_exists→sk,bind_eq_some_iff→su
local macro_rules | `(tactic| symm)=>`(tactic| decide +kernel)
local macro_rules | `(tactic| nofun)=>`(tactic| exact⟨rfl,rfl,rfl,by decide +kernel,rfl,by decide +kernel,by decide +kernel⟩)
open List renaming getD_eq_getElem?_getD→aa,length_map→ac,getElem?_eq_getElem→ae,mem_of_getElem?→af,size_toArray→ah,length_append→aj,map_cons→am,map_append→ao,mem_cons_of_mem→aq,getElem?_map→ax,mem_cons_self→az,length_take→aC,mem_append_right→aD,map_nil→aF,take_length→aG,length_cons→aJ,length_drop→aL,toArray→aN,append_assoc→aP,append_nil→aQ,range→aR,drop_eq_getElem_cons→aT,lookup_cons→aV,take_of_length_le→aW,drop_of_length_le→aX,nil_append→aY,set_cons_zero→aZ,set_cons_succ→ba,take_zero→bc,sum_cons→bf,take_append_of_le_length→bg,mem_append_left→bh,lookup→bi,cons_append→bo,getElem?_reverse→bp,map_congr_left→bA,length_reverse→bB,map_map→bF,mem_of_mem_take→bH,length_replicate→bN,take_append_drop→bO,getElem?_eq_none→bP,length_nil→bS,drop_append_of_le_length→bY,replicate→ce,length→ci,idxOf_lt_length_of_mem→cq,getElem?_append_right→cw,getElem?_cons_zero→cD,zip_cons_cons→cF,range_succ→cG,filter_append→cH,length_filter_le→cM,mem_of_mem_drop→cQ,take_succ_cons→cU,flatMap_append→cX,of_mem_zip→db,getElem?_append_left→dc,find?_cons→de,filter_nil→df,getElem?_take_of_lt→dh,contains_cons→di,getElem?_cons_succ→dj,reverse_cons→dm,length_range→dn,range_succ_eq_map→dq,drop_length→dz,map_snd_zip→dA,find?_some→dJ,filterMap_cons→dL,replicate_succ→dN,replicate_zero→dO,drop_zero→dU,find?_eq_none→dX,getElem_idxOf→dY,extract_eq_drop_take→d9,mem_of_find?_eq_some→ee,getElem_mem→em,map_reverse→eG,map_fst_zip→eI,filter_cons→eK,getElem?_replicate→eL,pairwise_singleton→eM,filter_cons_of_pos→eN,filter_cons_of_neg→eO,forIn_cons→eQ,getElem?_set_self→eR,length_singleton→eV,drop_drop→eX,mem_range→eY,take_take→eZ,drop_left→e7,getElem?_set_ne→e9,all_cons→fj,zip_nil_right→fB,getElem_range→fG
open PySem.Heap renaming get?_push_of_some→ag,lt_size→ar,get?_update_other→aw,get?_push_size→aE,get?_update_self→cu,size_push→cL,size_update→cP,get?_update_ne→ft
open PySem.W renaming findIn→ak,nsIn→aB,mg_none_of→aI,keepIn→aK,mg_of→aO,kitOne→aS,kia_one→be,isFn→bj,fnOf→bn,emptyDict→bz,codeIn→bG,callWith_K→bM,kla_fn→bQ,instObj→bR,mroIn→bX,plainGet→cb,methodCall_KW→cr,hasDictIn→cy,looks_findIn→cz,plainOver→cI,subIn→cS,makesIn→cZ,specialIn→dk,takesIn→dD,kat_nil→dH,kas_ask→dI,plainGet_of→dM,lookIn→dP,methodObj→d5,kitx_list→d6,envX→eD,takerIn→eP,cellsFrom_some→eS,callWith_K0→fq,kitx_tuple→fw,set_plain→fJ,kitx_dict→fL,handedIn→fM,kat_cons→fO,kat_kind→fP,kas_sort→fQ,kas_item→fR,kat_snds→fS,bind_fn→fV,findObj→fW,kat_yes→fX,kat_one→fY,kat_run→fZ
open Nat renaming le_refl→al,lt_of_lt_of_le→au,ne_of_lt→av,zero_le→ay,le_trans→aM,min_eq_left→bT,not_lt_zero→bU,min_eq_right→cf,ne_of_gt→cj,lt_of_le_of_lt→cp,le_succ→cA,lt_irrefl→cE,lt_succ_of_lt→cK,le_of_not_lt→cN,le_of_lt→dg,lt_succ_self→dw,lt_trichotomy→d7,min_self→ef,lt_or_ge→eh,zero_add→eC,lt_trans→fA,succ_mul→fF,le_total→fH
open Bool renaming false_ne_true→aA,false_eq_true→aU,and_eq_true→bE,eq_false_or_eq_true→bW,not_eq_true'→cJ,eq_iff_iff→cY,or_true→dF,and_false→dQ,eq_false_iff→d8,not_false→eW,and_true→fk,beq_comm→fm,not_true→fo
open Int renaming toNat_natCast→aH,natCast_nonneg→br,emod_lt_of_pos→bu,eq_ofNat_of_zero_le→bv,emod_nonneg→bD
open PySem renaming strKind→bq,mem_of_lookup→bJ,frameOf→dZ,call→fg,passOn→fz
open PySem.F renaming plain_max_loop→bw,plain_min_loop→bx,plainAttrs_str→bK,plainAttrs_list→bZ,slot_list_append→cB,type_list_append→cC,entry_max_loop→du,entry_min_loop→dv,slot_str_find→dB,type_str_find→dC,slot_dict_setdefault→dW,excBase_ValueError→d4
open Decidable renaming byContradiction→bC
open PyProof.Rows renaming callWith_type1→bI,boot_sorted→eJ,boot_min→e8
open Option renaming bind_some→bL,join_some→eE,join_none→eF,map_eq_none_iff→eU,getD_none→fN
open PySem.Str renaming ofString→bV,empty→fv
open Array renaming length_toList→cT,getD→fh,toList_append→fu
open PySem renaming wpAny_bind→nP,wpAny_pure→nQ,mainGlobals→nR,starEach→nS,sizeLine→nU
open PySem.W renaming Frag→nV
open PySem renaming Addr→nW,Value→nX,Shared→nY,Program→nZ,wpAny→oa,FuncData→oe,Str→og,World→oh,Around→oj,Expr→ol,Heap→oo,sizeLine_eq→oq,Stmt→ot,compareOp→ou,keywordEach→ow,wpAny_truthy_bool→oy,wpAny_holding→oz,backTo→oB,wpAny_Call_Name_kw→oE,Obj→oF,bootBuiltins→oG,backToKw→oH,wpAny_tryCatch→oJ,wpAny_loadPart_at→oK,codeAny_builtin→oM,Scope→oN,wpAny_passesOwn→oO,wpAny_standAt→oP,wpAny_noRaise→oQ,wpAny_mono→oR,codeAny→oS,Pos→oU,wpAny_letGo→oV,wpAny_updateSeq→oW,wpAny_execs_nil→oX,wpAny_setField→oY,wpAny_seqItems→oZ,wpAny_field→pb,wpAny_call→pc,wpAny_execs_cons→pf,codeAny_mono→ph,wpAny_isSubtype_exc→pi,Arguments→pq,wpAny_pyIter_list→pw,wpAny_newObj_type→pA,plainObj_wpAny_Assign_Attribute→pB,CmpOp→pC,wpAny_newList→pD,codeAny_call_builtin→pF,NameKind→pG,wpAny_comprehension_free→pH,wpAny_getItem_str_slice→pJ,wpAny_Call_method_late→pK,Env→pM,wpAny_pyIter_revIter→pN,wpAny_newFunctionEnv→pO,wpAny_loadPart→pP,recursionLimit→pQ,excClassObj→pR,Result→pS,Keyword→pT,BindsTo→pV,wpAny_attempt→pW,Model→pY,ExceptHandler→pZ,wpAny_pyIter_enum→ra,wpAny_assign_Name→rb,wpAny_Return_some→rd,wpAny_Assign_Name→re,GenState→rg,Tok→rh,wpAny_lookBehind→rj,wpAny_getItem_of→rm,wpAny_Try_except→rn,wpAny_Dict_empty→rp,isCodeTable→rq,Sem→rz,wpAny_rule→rA,wpAny_Name→rB,TriplesOk→rE,Paired→rF
open PyProof.Rows renaming seqObj→om,envOfC→pj,AllBare→pE,subscriptTail_builtinR→pL,subscriptTail→pX,IntsAre→rf,Subscript_→rD
open PySem.W renaming OpenLaw→rG,KasT→rH
open Option renaming some→rJ,none→rK
open Bool renaming true→rL,false→rM
open PySem PySem.Spec PyProof.Rows
set_option Elab.async false
set_option linter.all false
set_option maxRecDepth 100000
set_option maxHeartbeats 4000000
namespace L2
noncomputable abbrev Key:=Sum Int og
noncomputable def zbo:Key->nX->Bool
 | .inl k,v=>Value.isInt k v
 | .inr x,v=>Value.isStrOf x v
noncomputable def zdX(w:oh):Key->Int
 | .inl k=>hashInt k
 | .inr x=>hashStr w x
theorem z7:∀{k:Key} {v:nX},zbo k v=rL->(∃i t,k=Sum.inl i/\v=Value.int i t)\/(∃x t,k=Sum.inr x/\v=Value.str x t)
 | .inl i,v,h=>by
  obtain⟨t,e⟩:=Value.isInt_shape (k:=i) (v:=v) h;exact .inl #[i,t,rfl,e]
 | .inr x,v,h=>by
  obtain⟨t,e⟩:=Value.isStrOf_shape (x:=x) (v:=v) h;exact .inr #[x,t,rfl,e]
theorem za7(a b:Int):decide ((Sum.inl a:Key)=Sum.inl b)=(a == b):=by
 by_cases e:a=b
 ·subst e;simp
 ·have h:¬ (Sum.inl a:Key)=Sum.inl b:=λq=>e (Sum.inl.inj q);rw[decide_eq_false h];exact (beq_eq_false_iff_ne.mpr e).symm
theorem zbT(a b:og):decide ((Sum.inr a:Key)=Sum.inr b)=decide (a=b):=by
 by_cases e:a=b
 ·subst e;simp
 ·have h:¬ (Sum.inr a:Key)=Sum.inr b:=λq=>e (Sum.inr.inj q);rw[decide_eq_false h,decide_eq_false e]
theorem zbq(a:Int)(b:og):decide ((Sum.inl a:Key)=Sum.inr b)=rM:=decide_eq_false (λq=>nomatch q)
theorem zbM(a:og)(b:Int):decide ((Sum.inr a:Key)=Sum.inl b)=rM:=decide_eq_false (λq=>nomatch q)
noncomputable def Zz(prog:nZ)(w:oh):PySem.KeyKind prog w Key where
 is:=zbo
 hash:=zdX w
 inj:=λv a b ha hb=>by
  rcases z7 ha with ⟨i,t,rfl,rfl⟩ | ⟨x,t,rfl,rfl⟩
  ·rcases z7 hb with ⟨j,u,rfl,e⟩ | ⟨y,u,rfl,e⟩
   ·injection e with e1 _;rw[e1]
   ·exact nomatch e
  ·rcases z7 hb with ⟨j,u,rfl,e⟩ | ⟨y,u,rfl,e⟩
   ·exact nomatch e
   ·injection e with e1 _;rw[e1]
 byValue:=λk v h=>by
  rcases z7 h with ⟨i,t,rfl,rfl⟩ | ⟨x,t,rfl,rfl⟩ <;> rfl
 pyHash:=λhv h=>by
  rcases z7 hv with ⟨i,t,rfl,rfl⟩ | ⟨x,t,rfl,rfl⟩
  ·exact wpAny_pyHash_int h
  ·exact wpAny_pyHash_str h
 eqBool:=λhu hv h=>by
  rcases z7 hu with ⟨i,t,rfl,rfl⟩ | ⟨x,t,rfl,rfl⟩
  ·rcases z7 hv with ⟨j,u,rfl,rfl⟩ | ⟨y,u,rfl,rfl⟩
   ·rw[za7]at h;exact wpAny_eqBool_int h
   ·rw[zbq]at h;exact SeqAt.EqAt.int_str i t y u _ _ _ _ h
  ·rcases z7 hv with ⟨j,u,rfl,rfl⟩ | ⟨y,u,rfl,rfl⟩
   ·rw[zbM]at h;exact SeqAt.EqAt.str_int x t j u _ _ _ _ h
   ·rw[zbT]at h;exact wpAny_eqBool_str h
 «strs»:=λk x t v h=>by
  rcases z7 h with ⟨i,u,rfl,e⟩ | ⟨y,u,rfl,e⟩
  ·exact nomatch e
  ·injection e with e1 _;subst e1;cases v <;> rfl
inductive V where
 | non | bl (b:Bool) | int (i:Int) | str (x:og) | byt (b:Array UInt8) | flt (b:UInt64) | ref (a:nW) | ty (n:String)
 deriving DecidableEq
def RelV:V->nX->Prop
 | .non,u=>u=Value.none
 | .bl b,u=>u=Value.bool b
 | .int i,u=>∃t,u=Value.int i t
 | .str x,u=>∃t,u=Value.str x t
 | .byt b,u=>∃t,u=Value.bytes b t
 | .flt b,u=>∃t,u=Value.float b t
 | .ref a,u=>u=Value.ref a
 | .ty n,u=>u=Value.type n
abbrev Vals:List V->List nX->Prop:=rF RelV
theorem Vals.length{xs:List V}{us:List nX}(r:Vals xs us):xs.length=us.length:=Paired.length r
theorem Vals.get:∀{xs:List V} {us:List nX} {i:Nat} {x:V},Vals xs us->xs[i]? = rJ x->∃u,us[i]? = rJ u/\RelV x u
 | _,_,_,_,.nil,e=>by simp at e
 | _,_,0,_,.cons r _,e=>by simp at e;subst e;exact#[_,rfl,r]
 | _,_,i+1,x,.cons _ t,e=>by
  obtain⟨u,h1,h2⟩:=Vals.get (i:=i) (x:=x) t (by simpa using e);exact#[u,by simpa using h1,h2]
theorem Vals.set{x:V}{u:nX}(r:RelV x u):∀{xs:List V} {us:List nX} (i:Nat),Vals xs us->Vals (xs.set i x) (us.set i u)
 | _,_,_,.nil=>.nil
 | _,_,0,.cons _ t=>.cons r t
 | _,_,i+1,.cons q t=>.cons q (Vals.set r i t)
theorem Vals.append:∀{xs ys:List V} {us ws:List nX},Vals xs us->Vals ys ws->Vals (xs ++ ys) (us ++ ws)
 | _,_,_,_,.nil,s=>s
 | _,_,_,_,.cons r t,s=>.cons r (Vals.append t s)
theorem Vals.take:∀{xs:List V} {us:List nX} (n:Nat),Vals xs us->Vals (xs.take n) (us.take n)
 | _,_,0,_=>.nil
 | _,_,_+1,.nil=>.nil
 | _,_,n+1,.cons r t=>.cons r (Vals.take n t)
theorem Vals.drop:∀{xs:List V} {us:List nX} (n:Nat),Vals xs us->Vals (xs.drop n) (us.drop n)
 | _,_,0,r=>r
 | _,_,_+1,.nil=>.nil
 | _,_,n+1,.cons _ t=>Vals.drop n t
def RelO:Option V->Option nX->Prop
 | some v,rJ u=>RelV v u
 | none,rK=>True
 | _,_=>False
def KV{κ:Type}:List (κ × V)->List (κ × nX)->Prop:=rF λ(p:κ × V) (q:κ × nX)=>p.1=q.1/\RelV p.2 q.2
noncomputable def kV:Key->V
 | .inl i=>.int i
 | .inr x=>.str x
inductive HO where
  | lst (xs:List V)
  | tup (xs:List V)
  | dK (kvs:List (Key × V)) | dT (kvs:List (List Key × V))
  | set (S:Int->Bool) (n:Nat)
  | ins (C dx:nW) (fs:List (og × V))
  | own (x:nW)
  | xd (fs:List (og × V))
  | met (f x:nW)
  | rng (lo hi:Int)
  | frz (o:oF) (u:HO)
  | tbl (ps:Array nX)
  | ext (φ:oo->Prop)
noncomputable abbrev Hp:=nW->Option HO
noncomputable def upd(H:Hp)(a:nW)(o:HO):Hp:=λb=>if b=a then rJ o else H b
theorem zc{H:Hp}{a:nW}{o:HO}:upd H a o a=rJ o:=by unfold upd;rw[if_pos rfl]
theorem zq{H:Hp}{a b:nW}{o:HO}(h:b≠a):upd H a o b=H b:=by unfold upd;rw[if_neg h]
theorem zH{H:Hp}{a b:nW}{o:HO}(h:H a=rJ o)(h':H b=rK):a≠b:=by
 intro e;subst e;rw[h]at h';cases h'
section
variable(P:nZ)(w:oh)
def ObjOk(H:Hp)(h:oo)(a:nW):HO->Prop
 | .lst xs=>xs.length<=nU/\∃(its:List nX) (n:Nat),Vals xs its/\h.get? a=rJ { cls:=.type "list",data:=.seq its.toArray n }
 | .tup xs=>xs.length<=nU/\∃its:List nX,Vals xs its/\IsTup h a its.toArray
 | .dK kvs=>kvs.length<=nU/\(a == sysModules)=rM/\∃vs,KV kvs vs/\h.DictOf (Zz P w) a vs
 | .dT kvs=>kvs.length<=nU/\(a == sysModules)=rM/\∃xs:List (List Key × nW × nX),
   rF (λ(p:List Key × V) (q:List Key × nW × nX)=>p.1=q.1/\H q.2.1=rJ (.tup (p.1.map kV))/\RelV p.2 q.2.2) kvs xs /\
   ∃o es ep,h.get? a=rJ o/\o.ExactDict/\o.data=.dict es ep/\es.toList=xs.map (entryOfKey (tupleKind (Zz P w)))/\(xs.map (·.1)).Nodup
 | .set S n=>h.SetOf (intKind P w) a S n
 | .ins C dx fs=>H dx=rJ (.own a)/\fs.length<=1000/\dx≠a/\h.get? a=rJ (bR C dx) /\
   ∃mA,h.Ns1 dx mA/\(∀f,RelO (fs.lookup f) (mA f))/\PySem.Within mA (fs.map (·.1))
 | .own _=>∃o,h.get? a=rJ o
 | .xd fs=>∃mA,h.Ns1 a mA/\∀f,RelO (fs.lookup f) (mA f)
 | .rng lo hi=>∃t u v,h.get? a=rJ { cls:=.type "range",data:=.fields (List.toArray [.int lo t,.int hi u,.int 1 v]) }
 | .frz o u=>h.get? a=rJ o/\ObjOk H h a u
 | .tbl ps=>h.get? a=rJ { cls:=.none,data:=.fields ps }
 | .met f x=>h.get? a=rJ (d5 (.ref f) (.ref x))
 | .ext φ=>φ h/\(∃o,h.get? a=rJ o)/\∀h1 h2:oo,φ h1->(∀o,h1.get? a=rJ o->h2.get? a=rJ o)->φ h2
def HOk(H:Hp)(h:oo):Prop:=∀a o,H a=rJ o->ObjOk P w H h a o
end
section
variable{P:nZ}{w:oh}{H H':Hp}{h h':oo}{a:nW}{o:HO}
theorem ObjOk.lt(x:ObjOk P w H h a o):a<h.objs.size:=by
 cases o with
 | lst xs=>obtain⟨_,_,_,_,e⟩:=x;exact ar e
 | tup xs=>obtain⟨_,_,_,p⟩:=x;exact p.lt
 | dK kvs=>obtain⟨_,_,_,_,o,_,_,e,_⟩:=x;exact ar e
 | dT kvs=>obtain⟨_,_,_,_,o,_,_,e,_⟩:=x;exact ar e
 | set S n=>obtain⟨o,_,_,_,e,_⟩:=x;exact ar e
 | ins C dx fs=>obtain⟨_,_,_,e,_⟩:=x;exact ar e
 | own y=>obtain⟨_,e⟩:=x;exact ar e
 | xd fs=>obtain⟨_,⟨_,_,_,e,_⟩,_⟩:=x;exact ar e
 | rng lo hi=>obtain⟨_,_,_,e⟩:=x;exact ar e
 | frz ob u=>obtain⟨e,_⟩:=x;exact ar e
 | tbl ps=>exact ar (show h.get? a=rJ _ from x)
 | met f y=>exact ar (show h.get? a=rJ _ from x)
 | ext φ=>obtain⟨_,⟨_,e⟩,_⟩:=x;exact ar e
theorem Paired.mapP{α β:Type}{F G:α->β->Prop}:∀{l₁:List α} {l₂:List β},rF F l₁ l₂->(∀a b,F a b->G a b)->rF G l₁ l₂
 | _,_,.nil,_=>.nil
 | _,_,.cons r t,f=>.cons (f _ _ r) (Paired.mapP t f)
theorem ObjOk.stay(x:ObjOk P w H h a o)(k:∀b u,(b=a\/H b=rJ (.own a))->h.get? b=rJ u->h'.get? b=rJ u)
  (ho:∀b,H b=rJ (.own a)->H' b=rJ (.own a)) (ht:∀b xs,H b=rJ (.tup xs)->H' b=rJ (.tup xs)):ObjOk P w H' h' a o:=by
 induction o with
 | lst xs=>obtain⟨z,its,n,r,e⟩:=x;exact#[z,its,n,r,k _ _ (.inl rfl) e]
 | tup xs=>obtain⟨z,its,r,ob,e,c⟩:=x;exact#[z,its,r,ob,k _ _ (.inl rfl) e,c]
 | dK kvs=>obtain⟨z,y,vs,r,ob,es,ep,e,c⟩:=x;exact#[z,y,vs,r,ob,es,ep,k _ _ (.inl rfl) e,c]
 | dT kvs =>
  obtain⟨z,y,xs,r,ob,es,ep,e,c⟩:=x;exact#[z,y,xs,Paired.mapP r λp q z=>#[z.1,ht _ _ z.2.1,z.2.2],ob,es,ep,k _ _ (.inl rfl) e,c]
 | set S n=>obtain⟨ob,es,ep,t,e,c⟩:=x;exact#[ob,es,ep,t,k _ _ (.inl rfl) e,c]
 | ins C dx fs =>
  obtain⟨d,z,ne,e,mA,⟨od,es,ep,e2,c⟩,r⟩:=x;exact#[ho _ d,z,ne,k _ _ (.inl rfl) e,mA,#[od,es,ep,k _ _ (.inr d) e2,c],r]
 | own y=>obtain⟨ob,e⟩:=x;exact#[ob,k _ _ (.inl rfl) e]
 | xd fs=>obtain⟨mA,⟨od,es,ep,e,c⟩,r⟩:=x;exact#[mA,#[od,es,ep,k _ _ (.inl rfl) e,c],r]
 | rng lo hi=>obtain⟨t,u,v,e⟩:=x;exact#[t,u,v,k _ _ (.inl rfl) e]
 | frz ob u ih=>obtain⟨e,q⟩:=x;exact#[k _ _ (.inl rfl) e,ih q]
 | tbl ps =>
  have e:h.get? a=rJ { cls:=.none,data:=.fields ps }:=x;show h'.get? a=rJ { cls:=.none,data:=.fields ps };exact k a _ (.inl rfl) e
 | met f y =>
  have e:h.get? a=rJ (d5 (.ref f) (.ref y)):=x;show h'.get? a=rJ (d5 (.ref f) (.ref y));exact k a _ (.inl rfl) e
 | ext φ=>obtain⟨p,⟨o,e⟩,st⟩:=x;exact#[st _ _ p λo q=>k _ _ (.inl rfl) q,#[o,k _ _ (.inl rfl) e],st]
theorem HOk.lt(x:HOk P w H h)(e:H a=rJ o):a<h.objs.size:=(x a o e).lt
theorem HOk.fresh(x:HOk P w H h)(e:h.objs.size<=a):H a=rK:=by
 cases q:H a with
 | none=>rfl
 | some u=>exact absurd (au (x.lt q) e) (cE _)
theorem HOk.kept(x:HOk P w H h)(k:∀b u,h.get? b=rJ u->h'.get? b=rJ u):HOk P w H h':=λa o e =>
 (x a o e).stay (λb u _ q=>k b u q) (λ_ q=>q) λ_ _ q=>q
theorem HOk.laid(x:HOk P w H h)(k:∀b u,h.get? b=rJ u->h'.get? b=rJ u)(hp:h.objs.size<=a)(new:ObjOk P w (upd H a o) h' a o):HOk P w (upd H a o) h':=λb u e=>by
 have hn:=x.fresh hp;by_cases hb:b=a
 ·subst hb;rw[zc]at e;cases e;exact new
 ·rw[zq hb]at e;exact (x b u e).stay (λc v _ q=>k c v q) (λc q=>by rw[zq (zH q hn)];exact q) λc xs q=>by rw[zq (zH q hn)];exact q
end
def Rd(H:Hp)(a:nW)(u:HO):Prop:=H a=rJ u\/∃o,H a=rJ (.frz o u)
theorem Rd.ok{P:nZ}{w:oh}{H:Hp}{h:oo}{a:nW}{u:HO}(r:Rd H a u)(x:HOk P w H h):ObjOk P w H h a u:=by
 rcases r with r | ⟨o,r⟩
 ·exact x a u r
 ·obtain⟨_,q⟩:=x a _ r;exact q
def Mut:Option HO->Prop
 | some (.lst _)=>True
 | some (.dK _)=>True
 | some (.dT _)=>True
 | some (.set _ _)=>True
 | some (.ins _ _ _)=>True
 | some (.ext _)=>True
 | _=>False
section
variable{P:nZ}{w:oh}{H:Hp}{h h':oo}{x e:nW}{o':HO}
theorem HOk.write(ok:HOk P w H h)(mu:Mut (H x))(he:e=x\/H e=rJ (.own x))(k:∀b u,b≠e->h.get? b=rJ u->h'.get? b=rJ u)(heo:∃u,h'.get? e=rJ u)
  (new:ObjOk P w (upd H x o') h' x o'):HOk P w (upd H x o') h':=λb u q=>by
 have nown:∀c y,H c=rJ (.own y)->c≠x:=λc y r z=>by subst z;rw[r]at mu;exact mu
 have ntup:∀c xs,H c=rJ (.tup xs)->c≠x:=λc xs r z=>by subst z;rw[r]at mu;exact mu
 by_cases hb:b=x
 ·subst hb;rw[zc]at q;cases q;exact new
 ·rw[zq hb]at q;by_cases hbe:b=e
  ·have q':H b=rJ (.own x):=by
    rcases he with z | z
    ·exact absurd (hbe.trans z) hb
    ·rw[hbe];exact z
   rw[q]at q';cases q';obtain⟨v,hv⟩:=heo;exact#[v,by rw[hbe];exact hv]
  ·refine (ok b u q).stay (λc v hc r=>k c v ?_ r) (λc r=>by rw[zq (nown c b r)];exact r) λc xs r=>by rw[zq (ntup c xs r)];exact r
   rcases hc with rfl | hc
   ·exact hbe
   ·rintro rfl;rcases he with z | z
    ·exact nown c b hc z
    ·rw[hc]at z;cases z;exact hb rfl
end
structure Un(fs ex:List nW)(H H':Hp)(h h':oo):Prop where
 keep:∀b o,h.get? b=rJ o->H b=rK->b ∉ fs->b ∉ ex->h'.get? b=rJ o
 slot:∀b o,h.get? b=rJ o->H b=rK->b ∈ fs->b ∉ ex->∃sl,h'.get? b=rJ { o with slots:=sl }
 free:∀b o,h.get? b=rJ o->H b=rK->b ∉ ex->H' b=rK
 there:∀b o,h.get? b=rJ o->b ∉ ex->∃o',h'.get? b=rJ o'
 tups:∀b xs,H b=rJ (.tup xs)->H' b=rJ (.tup xs)
 frzs:∀b o u,H b=rJ (.frz o u)->H' b=rJ (.frz o u)
 tbls:∀b ps,H b=rJ (.tbl ps)->∃more,H' b=rJ (.tbl (ps ++ more))
section
variable{fs fs' ex ex':List nW}{H H1 H2:Hp}{h h1 h2 h':oo}{a x e:nW}{o:HO}
theorem Un.any(u:Un fs ex H H1 h h1){b:nW}{ob:oF}(q:h.get? b=rJ ob)(n:H b=rK)(hx:b ∉ ex):∃sl,h1.get? b=rJ { ob with slots:=sl }:=by
 by_cases hb:b ∈ fs
 ·exact u.slot b ob q n hb hx
 ·exact#[ob.slots,u.keep b ob q n hb hx]
theorem Un.kept(k:∀b u,h.get? b=rJ u->h'.get? b=rJ u):Un fs ex H H h h' :=
 #[λb ob q _ _ _=>k b ob q,λb ob q _ _ _=>#[ob.slots,k b ob q],λ_ _ _ n _=>n,λb ob q _=>#[ob,k b ob q],λ_ _ q=>q,λ_ _ _ q=>q,λ_ ps q=>#[#[],by rw[q];simp]]
theorem Un.refl:Un fs ex H H h h:=Un.kept λ_ _ q=>q
theorem Un.laid(k:∀b u,h.get? b=rJ u->h'.get? b=rJ u)(hp:h.objs.size<=a)(hn:H a=rK):Un fs ex H (upd H a o) h h' where
 keep:=λb u q _ _ _=>k b u q
 slot:=λb u q _ _ _=>#[u.slots,k b u q]
 free:=λb u q n _=>by rw[zq (av (au (ar q) hp))];exact n
 there:=λb u q _=>#[u,k b u q]
 tups:=λb xs q=>by rw[zq (zH q hn)];exact q
 frzs:=λb u xs q=>by rw[zq (zH q hn)];exact q
 tbls:=λb ps q=>#[#[],by rw[zq (zH q hn),q];simp]
theorem Un.write(mu:Mut (H x))(he:e=x\/H e=rJ (.own x))(k:∀b u,b≠e->h.get? b=rJ u->h'.get? b=rJ u)(heo:∃u,h'.get? e=rJ u):Un fs ex H (upd H x o) h h':=by
 have hx:∀b,H b=rK->b≠x:=λb n z=>by subst z;rw[n]at mu;exact mu
 have hb:∀b,H b=rK->b≠e:=λb n z=>by
  subst z;rcases he with r | r
  ·exact hx b n r
  ·rw[n]at r;cases r
 have hm:∀b u,H b=rJ u->¬ Mut (rJ u)->b≠x:=λb u q nm z=>by subst z;rw[q]at mu;exact nm mu
 refine#[λb u q n _ _=>k b u (hb b n) q,λb u q n _ _=>#[u.slots,k b u (hb b n) q],λb u q n _=>by rw[zq (hx b n)];exact n,λb u q _=>?_,
  λb xs q=>by rw[zq (hm b _ q λz=>z)];exact q,λb u xs q=>by rw[zq (hm b _ q λz=>z)];exact q,λb ps q=>#[#[],by rw[zq (hm b _ q λz=>z),q];simp]]
 by_cases hbe:b=e
 ·subst hbe;exact heo
 ·exact#[u,k b u hbe q]
end
noncomputable def trk(h:oo)(H:Hp):List nW:=(aR h.objs.size).filter λa=>(H a).isSome
noncomputable def VM(h:oo)(H:Hp):oo:=PySem.W.hideAll h (trk h H)
theorem WL(h:oo)(H:Hp):(VM h H).objs.size=h.objs.size:=PySem.W.hideAll_size _ _
theorem Yu{h:oo}{H:Hp}{b:nW}{o:oF}(e:h.get? b=rJ o)(n:H b=rK):(VM h H).get? b=rJ o :=
 PySem.W.hideAll_get _ e λhm=>by
  have q:(H b).isSome=rL:=(rX.mp hm).2;rw[n]at q;simp at q
theorem Km{h:oo}{H:Hp}{b:nW}{o:oF}(e:(VM h H).get? b=rJ o):h.get? b=rJ o/\H b=rK:=by
 have e':h.get? b=rJ o:=PySem.W.of_hideAll (trk h H) e;refine#[e',?_]
 cases q:H b with
 | none=>rfl
 | some x =>
  have hm:b ∈ trk h H:=rX.mpr #[rW.mpr (ar e'),by simp [q]];have z:(VM h H).get? b=rK:=PySem.W.hideAll_none (trk h H) hm;rw[z]at e;cases e
noncomputable def J6(g h:oo)(L:nW):List (nW × oF):=(aR h.objs.size).filterMap λa=>if a=L\/(g.get? a).isSome=rL then rK else (h.get? a).map λo=>(a,o)
noncomputable def rest(g h:oo)(L d:nW):List (nW × oF):=(J6 g h L).filter λp=>decide (p.1≠d)
structure Mod(K:nV)(mg:og->Option nX)(base:oo):Prop where
 kin:K.In base
 glob:base.Ns nR mg
 blt:∃mb,base.Ns builtinsNs mb/\∀x:og,x≠"__name__"->mb x=oG x
 nolimit:base.NoLimit
structure Cx where
 prog:nZ
 w:oh
 K:nV
 mg:og->Option nX
 base:oo
 A:oj
 N:List og
 s₀:nY
 H₀:Hp
 env:pM
 outer:List pM
 stack:List pM
 ex:List nW
 fn:og->Bool
 calm:Bool
 pn:List (nW × oF)
 xe:nX->nY->Prop
noncomputable def frs(l:List pM):List nW:=l.filterMap (·.frame)
noncomputable abbrev Cx.fs(X:Cx):List nW:=frs X.outer
def Vis(sc:oN)(x:og):Prop:=sc.names.lookup x=rJ .local\/sc.names.lookup x=rJ .cell\/sc.names.lookup x=rJ .free
def Loc(sc:oN)(x:og):Prop:=sc.names.lookup x=rJ .local\/sc.names.lookup x=rJ .cell
def zd9(env:pM)(h:oo)(m:og->Option nX)(x:og)(u:nX):Prop :=
 (env.kindOf x=rJ .local/\m x=rJ u)\/((env.kindOf x=rJ .cell\/env.kindOf x=rJ .free)/\∃c,env.cells.lookup x=rJ c/\h.IsCell c (rJ u))
structure Cx.Ok(X:Cx):Prop where
 mod:Mod X.K X.mg X.base
 kind:X.env.scope.kind=.function
 glob:X.env.globals=nR
 blt:X.env.builtins=builtinsNs
 above:X.s₀.heap.objs.size<=X.env.locals
 inj:∀x y c,X.env.cells.lookup x=rJ c->X.env.cells.lookup y=rJ c->x=y
 has:∀x,(X.env.kindOf x=rJ .cell\/X.env.kindOf x=rJ .free)->∃c,X.env.cells.lookup x=rJ c
 cab:∀x c,X.fn x=rL->X.env.cells.lookup x=rJ c->X.s₀.heap.objs.size<=c
 hd:X.calm=rL->X.A.handled=rK
 frames:X.A.frames=rJ X.stack
 stk:X.stack=X.outer\/(X.stack=X.env::X.outer/\X.env.frame=rJ X.env.locals)
 exf:∀b ∈ X.ex,b≠X.env.locals/\∀x c,X.env.cells.lookup x=rJ c->c≠b
 bs:∀b o,X.base.get? b=rJ o->X.s₀.heap.get? b=rJ o/\X.H₀ b=rK
 bsz:X.base.objs.size<=X.s₀.heap.objs.size
 noex:∀b o,X.base.get? b=rJ o->b ∉ X.ex
 exfs:∀b ∈ X.ex,b ∉ X.fs
 funs:X.s₀.heap.FunFrames X.base X.outer
 frf:∀b ∈ X.fs,X.H₀ b=rK
structure Inv(X:Cx)(rN:List (nW × oF))(σ:List (Option V))(H:Hp)(s:nY):Prop where
 ok:X.Ok
 os:s.os=X.s₀.os
 bare:pE s.gens
 base:Un X.fs X.ex X.H₀ H X.s₀.heap s.heap
 loc:∃m,s.heap.Ns X.env.locals m/\∀(i:Nat) (x:og) (v:V),X.N[i]? = rJ x->σ[i]? = rJ (rJ v)->Vis X.env.scope x->∃u,RelV v u/\zd9 X.env s.heap m x u
 cell:∀x c,X.env.cells.lookup x=rJ c->∃v,s.heap.IsCell c v
 free:H X.env.locals=rK
 freeC:∀x c,X.env.cells.lookup x=rJ c->H c=rK
 pin:∀p ∈ X.pn ++ rN,s.heap.get? p.1=rJ p.2/\H p.1=rK/\p.1≠X.env.locals/\p.1 ∉ X.fs/\∀v,p.2.data≠.cell v
 hok:HOk X.prog X.w H s.heap
 len:σ.length=X.N.length
section
variable{X:Cx}{rN:List (nW × oF)}{σ:List (Option V)}{H H':Hp}{s:nY}{h':oo}
theorem Cx.Ok.nofr(ok:X.Ok){b:nW}{o:oF}(e:X.base.get? b=rJ o):b ∉ X.fs:=λhb=>by
 have:=(ok.funs.mem hb).1;rw[e]at this;cases this
theorem Inv.bs(I:Inv X rN σ H s):∀b o,X.base.get? b=rJ o->s.heap.get? b=rJ o/\H b=rK:=λb o e =>
 #[I.base.keep b o (I.ok.bs b o e).1 (I.ok.bs b o e).2 (I.ok.nofr e) (I.ok.noex b o e),I.base.free b o (I.ok.bs b o e).1 (I.ok.bs b o e).2 (I.ok.noex b o e)]
theorem Inv.bk(I:Inv X rN σ H s):∀b o,X.base.get? b=rJ o->s.heap.get? b=rJ o:=λb o e=>(I.bs b o e).1
theorem Inv.mod(I:Inv X rN σ H s):Mod X.K X.mg X.base:=I.ok.mod
theorem Inv.kIn(I:Inv X rN σ H s):X.K.In s.heap:=I.ok.mod.kin.keeps I.bk
theorem Inv.nolimit(I:Inv X rN σ H s):s.heap.NoLimit:=I.ok.mod.nolimit.keeps I.bk
theorem Inv.fr(I:Inv X rN σ H s):∃m,Fr X.base X.env.locals s.heap m :=
 let #[m,hn,_]:=I.loc
 #[m,hn,I.bk,aM I.ok.bsz I.ok.above]
theorem Inv.lt(I:Inv X rN σ H s):X.env.locals<s⁻¹:=let #[_,hn,_]:=I.loc;hn.lt
theorem Inv.sz(I:Inv X rN σ H s):X.s₀.heap.objs.size<=s⁻¹:=aM I.ok.above (dg I.lt)
theorem Inv.nofs(I:Inv X rN σ H s){a:nW}(h:s⁻¹<=a):a ∉ X.fs:=λhb=>by
 obtain⟨_,o,ho,_⟩:=I.ok.funs.mem hb;exact absurd (au (ar ho) (aM I.sz h)) (cE _)
theorem Inv.cne(I:Inv X rN σ H s):∀x c,X.env.cells.lookup x=rJ c->c≠X.env.locals:=λx c e z=>by
 obtain⟨v,o,ho,hd⟩:=I.cell x c e;obtain⟨m,⟨o',es,ep,ho',hd',_⟩,_⟩:=I.loc;rw[z,ho']at ho;cases ho;rw[hd']at hd;cases hd
theorem Inv.funs(I:Inv X rN σ H s):s.heap.FunFrames X.base X.outer:=by
 have all:∀(l:List pM),(∀b ∈ frs l,b ∈ X.fs)->X.s₀.heap.FunFrames X.base l->s.heap.FunFrames X.base l:=by
  intro l
  induction l with
  | nil=>intro _ _;trivial
  | cons env r ih =>
   intro hs hl;obtain⟨hk,⟨L,o,hf,hn,ho,hd⟩,hr⟩:=hl;have hL:L ∈ X.fs:=hs L (by unfold frs;rw[dL,hf];exact az);obtain⟨sl,e⟩:=I.base.slot L o ho (I.ok.frf L hL) hL λz=>I.ok.exfs L z hL;exact#[hk,#[L,_,hf,hn,e,hd],ih (λb hb=>hs b (by unfold frs;rw[dL,hf];exact aq _ hb)) hr]
 exact all X.outer (λ_ hb=>hb) I.ok.funs
theorem Inv.stack(I:Inv X rN σ H s):s.heap.FunFrames X.base X.stack:=by
 rcases I.ok.stk with e | ⟨e,hf⟩
 ·rw[e];exact I.funs
 ·rw[e];obtain⟨m,hn,_⟩:=I.loc;refine .cons (by rw[I.ok.kind];decide) hf hn ?_ I.funs;exact Heap.get?_none_of_le (aM I.ok.bsz I.ok.above)
theorem Inv.stkSub(I:Inv X rN σ H s):∀b ∈ frs X.stack,b ∈ X.env.locals::X.fs:=λb hb=>by
 rcases I.ok.stk with e | ⟨e,hf⟩
 ·rw[e]at hb;exact aq _ hb
 ·rw[e]at hb;unfold frs at hb;rw[dL,hf]at hb;exact hb
theorem Inv.stkFree(I:Inv X rN σ H s):∀b ∈ frs X.stack,H b=rK:=λb hb=>by
 rcases rS.mp (I.stkSub b hb)with e | hb
 ·rw[e];exact I.free
 ·obtain⟨_,o,ho,_⟩:=I.ok.funs.mem hb;exact I.base.free b o ho (I.ok.frf b hb) λz=>I.ok.exfs b z hb
theorem Inv.step{g':Array rg}{t':Nat}{d':Drawn}{ch:List nW}(I:Inv X rN σ H s)
  (hch:∀b ∈ ch,(b ∈ X.ex\/X.s₀.heap.objs.size<=b)/\b≠X.env.locals/\(∀x c,X.env.cells.lookup x=rJ c->c≠b)/\∀p ∈ X.pn ++ rN,p.1≠b)
  (keep:∀b o,b≠X.env.locals->b ∉ X.fs->b ∉ ch->s.heap.get? b=rJ o->H b=rK->h'.get? b=rJ o)
  (slot:∀b o,b≠X.env.locals->b ∈ X.fs->b ∉ ch->s.heap.get? b=rJ o->H b=rK->∃sl,h'.get? b=rJ { o with slots:=sl }) (free:∀b o,b ∉ ch->s.heap.get? b=rJ o->H b=rK->H' b=rK)
  (there:∀b o,b ∉ ch->s.heap.get? b=rJ o->∃o',h'.get? b=rJ o')
  (tups:∀b xs,H b=rJ (.tup xs)->H' b=rJ (.tup xs)) (frzs:∀b o u,H b=rJ (.frz o u)->H' b=rJ (.frz o u)) (tbls:∀b ps,H b=rJ (.tbl ps)->∃more,H' b=rJ (.tbl (ps ++ more)))
  (ns:∀m,s.heap.Ns X.env.locals m->h'.Ns X.env.locals m) (hok:HOk X.prog X.w H' h') (hg:pE g') :
  Inv X rN σ H' { s with heap:=h',gens:=g',drawn:=d',toks:=t' }:=by
 have neL:∀b o,X.s₀.heap.get? b=rJ o->b≠X.env.locals:=λb o e=>av (au (ar e) I.ok.above)
 have neC:∀b o,X.s₀.heap.get? b=rJ o->b ∉ X.ex->b ∉ ch:=λb o e hx hb=>by
  rcases (hch b hb).1 with z | z
  ·exact hx z
  ·exact absurd (au (ar e) z) (cE _)
 have cellK:∀x c,X.env.cells.lookup x=rJ c->∀v,s.heap.IsCell c v->h'.IsCell c v:=λx c e v ⟨o,ho,hd⟩=>by
  have nch:c ∉ ch:=λz=>(hch c z).2.2.1 x c e rfl;by_cases hc:c ∈ X.fs
  ·obtain⟨sl,q⟩:=slot c o (I.cne x c e) hc nch ho (I.freeC x c e);exact#[_,q,hd]
  ·exact#[o,keep c o (I.cne x c e) hc nch ho (I.freeC x c e),hd]
 refine#[I.ok,I.os,hg,#[λb o e n hb hx=>?_,λb o e n hb hx=>?_,λb o e n hx=>?_,λb o e hx=>?_,λb xs e=>tups b xs (I.base.tups b xs e),λb o xs e=>frzs b o xs (I.base.frzs b o xs e),λb ps e=>?_],?_,λx c e=>?_,?_,λx c e=>?_,λp hp=>?_,hok,I.len]
 ·exact keep b o (neL b o e) hb (neC b o e hx) (I.base.keep b o e n hb hx) (I.base.free b o e n hx)
 ·obtain⟨sl,e1⟩:=I.base.slot b o e n hb hx;obtain⟨sl',e2⟩:=slot b _ (neL b o e) hb (neC b o e hx) e1 (I.base.free b o e n hx);exact#[sl',e2]
 ·obtain⟨o',e1⟩:=I.base.there b o e hx;exact free b o' (neC b o e hx) e1 (I.base.free b o e n hx)
 ·obtain⟨o',e1⟩:=I.base.there b o e hx;exact there b o' (neC b o e hx) e1
 ·obtain⟨m1,e1⟩:=I.base.tbls b ps e;obtain⟨m2,e2⟩:=tbls b _ e1;exact#[m1 ++ m2,by rw[e2,Array.append_assoc]]
 ·obtain⟨m,hn,hl⟩:=I.loc;refine#[m,ns m hn,λi x v e1 e2 e3=>?_];obtain⟨u,r,l⟩:=hl i x v e1 e2 e3;refine#[u,r,?_];rcases l with l | ⟨k,c,e,z⟩
  ·exact .inl l
  ·exact .inr #[k,c,e,cellK x c e _ z]
 ·obtain⟨v,z⟩:=I.cell x c e;exact#[v,cellK x c e v z]
 ·obtain⟨m,⟨o,_,_,ho,_⟩,_⟩:=I.loc;exact free _ o (λz=>(hch _ z).2.1 rfl) ho I.free
 ·obtain⟨v,o,ho,hd⟩:=I.cell x c e;exact free c o (λz=>(hch c z).2.2.1 x c e rfl) ho (I.freeC x c e)
 ·obtain⟨e,n,ne,nf,d⟩:=I.pin p hp;have nch:p.1 ∉ ch:=λz=>(hch p.1 z).2.2.2 p hp rfl;exact#[keep p.1 p.2 ne nf nch e n,free p.1 p.2 nch e n,ne,nf,d]
theorem Inv.un{t':Nat}(I:Inv X rN σ H s)(u:Un X.fs [] H H' s.heap h')(hok:HOk X.prog X.w H' h'):Inv X rN σ H' { s with heap:=h',toks:=t' }:=by
 obtain⟨m,⟨o,es,ep,ho,r⟩,_⟩:=id I.loc;obtain⟨sl,hL⟩:=u.any ho I.free (by simp)
 exact I.step (g':=s.gens) (d':=s.drawn) (ch:=[]) (λ_ z=>nomatch z) (λb o _ hb _ e n=>u.keep b o e n hb (by simp)) (λb o _ hb _ e n=>u.slot b o e n hb (by simp)) (λb o _ e n=>u.free b o e n (by simp)) (λb o _ e=>u.there b o e (by simp)) u.tups u.frzs u.tbls (λm' hm=>by
  obtain⟨o',es',ep',ho',r'⟩:=hm;rw[ho]at ho';cases ho'
  exact#[_,es',ep',hL,r']) hok I.bare
theorem Inv.call{g':Array rg}{t':Nat}{d':Drawn}{ch:List nW}(I:Inv X rN σ H s)(u:Un (frs X.stack) ch H H' s.heap h')(hok:HOk X.prog X.w H' h')(hg:pE g')
  (hch:∀b ∈ ch,(b ∈ X.ex\/X.s₀.heap.objs.size<=b)/\b≠X.env.locals/\(∀x c,X.env.cells.lookup x=rJ c->c≠b)/\∀p ∈ X.pn ++ rN,p.1≠b) :
  Inv X rN σ H' { s with heap:=h',gens:=g',drawn:=d',toks:=t' }:=by
 obtain⟨m,⟨o,es,ep,ho,r⟩,_⟩:=id I.loc;obtain⟨sl,hL⟩:=u.any ho I.free λz=>(hch _ z).2.1 rfl
 exact I.step (ch:=ch) hch (λb o hL hb hc e n=>u.keep b o e n (λz=>(rS.mp (I.stkSub b z)).elim hL hb) hc) (λb o _ _ hc e n=>u.any e n hc) (λb o hc e n=>u.free b o e n hc) (λb o hc e=>u.there b o e hc) u.tups u.frzs u.tbls (λm' hm=>by
  obtain⟨o',es',ep',ho',r'⟩:=hm;rw[ho]at ho';cases ho'
  exact#[_,es',ep',hL,r']) hok hg
theorem Inv.turned{t':Nat}{it:nW}(I:Inv X rN σ H s)(k:∀b o,b≠it->s.heap.get? b=rJ o->h'.get? b=rJ o)(hn:H it=rK)(hL:it≠X.env.locals)
  (h1:it ∈ X.ex\/X.s₀.heap.objs.size<=it) (h2:∀x c,X.env.cells.lookup x=rJ c->c≠it) (h3:∀p ∈ X.pn ++ rN,p.1≠it):Inv X rN σ H { s with heap:=h',toks:=t' }:=by
 have nit:∀b u,H b=rJ u->b≠it:=λb u e z=>by rw[z,hn]at e;cases e
 refine I.step (g':=s.gens) (d':=s.drawn) (ch:=[it]) (λb hb=>?_) (λb o _ _ hc e _=>k b o (λz=>hc (by simp [z])) e) (λb o _ _ hc e _=>#[o.slots,k b o (λz=>hc (by simp [z])) e]) (λ_ _ _ _ n=>n)
  (λb o hc e=>#[o,k b o (λz=>hc (by simp [z])) e]) (λ_ _ e=>e) (λ_ _ _ e=>e) (λb ps e=>#[#[],by rw[e];simp]) (λm hm=>?_) (λb u e=>?_) I.bare
 ·have e:b=it:=by simpa using hb
  subst e;exact#[h1,hL,h2,h3]
 ·obtain⟨o,es,ep,ho,r⟩:=hm;exact#[o,es,ep,k _ o (Ne.symm hL) ho,r]
 ·refine (I.hok b u e).stay (λc v hc q=>k c v ?_ q) (λ_ q=>q) λ_ _ q=>q;rcases hc with z | z
  ·rw[z];exact nit b u e
  ·exact nit c _ z
theorem Inv.tok(I:Inv X rN σ H s)(t:Nat):Inv X rN σ H { s with toks:=t }:=I.un (h':=s.heap) (t':=t) Un.refl I.hok
theorem Inv.kept{t':Nat}(I:Inv X rN σ H s)(k:∀b u,s.heap.get? b=rJ u->h'.get? b=rJ u):Inv X rN σ H { s with heap:=h',toks:=t' }:=I.un (Un.kept k) (I.hok.kept k)
theorem Inv.laid{a:nW}{o:HO}{t':Nat}(I:Inv X rN σ H s)(k:∀b u,s.heap.get? b=rJ u->h'.get? b=rJ u)(hp:s⁻¹<=a)(new:ObjOk X.prog X.w (upd H a o) h' a o) :
  Inv X rN σ (upd H a o) { s with heap:=h',toks:=t' }:=I.un (Un.laid k hp (I.hok.fresh hp)) (I.hok.laid k hp new)
theorem Inv.write{x e:nW}{o:HO}{t':Nat}(I:Inv X rN σ H s)(mu:Mut (H x))(he:e=x\/H e=rJ (.own x))(k:∀b u,b≠e->s.heap.get? b=rJ u->h'.get? b=rJ u)(heo:∃u,h'.get? e=rJ u)
  (new:ObjOk X.prog X.w (upd H x o) h' x o):Inv X rN σ (upd H x o) { s with heap:=h',toks:=t' }:=I.un (Un.write mu he k heo) (I.hok.write mu he k heo new)
theorem Inv.weak{σ':List (Option V)}(I:Inv X rN σ H s)(hl:σ'.length=σ.length)(w:∀(i:Nat) v,σ'[i]? = rJ (rJ v)->σ[i]? = rJ (rJ v)):Inv X rN σ' H s :=
 #[I.ok,I.os,I.bare,I.base,let #[m,hn,hl']:=I.loc; #[m,hn,λi x v e1 e2 e3=>hl' i x v e1 (w i v e2) e3],I.cell,I.free,I.freeC,I.pin,I.hok,hl.trans I.len]
theorem Inv.pins_of{pins':List (nW × oF)}(I:Inv X rN σ H s)(h:∀p ∈ pins',s.heap.get? p.1=rJ p.2/\H p.1=rK/\p.1≠X.env.locals/\p.1 ∉ X.fs/\∀v,p.2.data≠.cell v):Inv X pins' σ H s :=
 #[I.ok,I.os,I.bare,I.base,I.loc,I.cell,I.free,I.freeC,λp hp=>(rT.mp hp).elim (λz=>I.pin p (bh _ z)) (h p),I.hok,I.len]
theorem Yc{N:List og}(hN:N.Nodup){i j:Nat}{x:og}(a:N[i]? = rJ x)(b:N[j]? = rJ x):i=j:=by
 obtain⟨h1,e1⟩:=rQ.mp a;obtain⟨h2,e2⟩:=rQ.mp b;exact (List.getElem_inj hN).mp (e1.trans e2.symm)
theorem kH{M:pY}{A:oj}{E:nX->nY->Prop}{i:Nat}{x:og}{v:V}{u:nX}{Q:Unit->nY->Prop}(I:Inv X rN σ H s)(hN:X.N.Nodup)(hi:X.N[i]? = rJ x)(hx:Loc X.env.scope x)(r:RelV v u)
  (h:∀s',Inv X rN (σ.set i (rJ v)) H s'->(∃a,Heap.SameBut a s.heap s'.heap/\(a=X.env.locals\/X.env.cells.lookup x=rJ a))->Q Unit.unit s') (hf:X.fn x=rL\/X.env.scope.names.lookup x=rJ .local:=by first | exact .inl rfl | exact .inr rfl | assumption):oa M A (storeName X.env x u) Q E s:=by
 obtain⟨m,hn,hl⟩:=id I.loc;have hcls:(X.env.scope.kind == .class || (X.env.scope.kind == .module && X.env.locals != X.env.globals))=rM:=by rw[I.ok.kind];rfl
 have hiσ:i<σ.length:=by rw[I.len];exact (rQ.mp hi).1
 have cne:=I.cne
 have tracked:∀{a:nW} {h':oo},(∃o,s.heap.get? a=rJ o/\H a=rK)->Heap.SameBut a s.heap h'->HOk X.prog X.w H h':=λ{a h'} ha hs b ob e=>by
  obtain⟨_,_,hfree⟩:=ha;refine (I.hok b ob e).stay (λc w' hc q=>(hs.2 c ?_).trans q) (λ_ q=>q) λ_ _ q=>q;rintro rfl;rcases hc with rfl | hc
  ·rw[hfree]at e;cases e
  ·rw[hfree]at hc;cases hc
 rcases hx with hk | hk
 ·refine wpAny_storeName_local hk hn (λh' hn' hs=>?_) hcls;obtain⟨oL,_,_,hoL,_⟩:=id hn;refine h _ #[I.ok,I.os,I.bare,#[λb o e n hb hx=>?_,λb o e n hb hx=>?_,I.base.free,λb o e hx=>?_,I.base.tups,I.base.frzs,I.base.tbls],#[_,hn',λj y v' e1 e2 e3=>?_],λy c e=>?_,I.free,I.freeC,λp hp=>?_,tracked #[oL,hoL,I.free] hs,by simpa using I.len] #[_,hs,.inl rfl]
  ·exact (hs.2 b (av (au (ar e) I.ok.above))).trans (I.base.keep b o e n hb hx)
  ·obtain⟨sl,e1⟩:=I.base.slot b o e n hb hx;exact#[sl,(hs.2 b (av (au (ar e) I.ok.above))).trans e1]
  ·obtain⟨o',e1⟩:=I.base.there b o e hx;exact#[o',(hs.2 b (av (au (ar e) I.ok.above))).trans e1]
  ·by_cases hj:j=i
   ·subst hj;rw[hi]at e1;cases e1;rw[eR hiσ]at e2;cases e2;exact#[u,r,.inl #[hk,by simp]]
   ·rw[e9 (Ne.symm hj)]at e2;obtain⟨u',r',q⟩:=hl j y v' e1 e2 e3;refine#[u',r',?_];rcases q with ⟨k,e⟩ | ⟨k,c,e,z⟩
    ·refine .inl #[k,?_];have:y≠x:=λe=>hj (Yc hN e1 (e ▸ hi));simp [this,e]
    ·exact .inr #[k,c,e,z.sameBut hs (cne y c e)]
  ·obtain⟨w',z⟩:=I.cell y c e;exact#[w',z.sameBut hs (cne y c e)]
  ·obtain⟨e,n,ne,nf,d⟩:=I.pin p hp;exact#[(hs.2 p.1 ne).trans e,n,ne,nf,d]
 ·have hfn:X.fn x=rL:=by
   rcases hf with z | z
   ·exact z
   ·rw[z]at hk;cases hk
  obtain⟨c,hc⟩:=I.ok.has x (.inl hk);obtain⟨w',z⟩:=I.cell x c hc;refine wpAny_storeName_cell I.ok.kind hk hc z (λh' hc' hs=>?_);obtain⟨oc,hoc,hocd⟩:=id z;refine h { s with heap:=h' } #[I.ok,I.os,I.bare,#[λb o e n hb hx=>?_,λb o e n hb hx=>?_,I.base.free,λb o e hx=>?_,I.base.tups,I.base.frzs,I.base.tbls],#[m,hn.sameBut hs (Ne.symm (cne x c hc)),λj y v' e1 e2 e3=>?_],λy c' e=>?_,I.free,I.freeC,λp hp=>?_,tracked #[oc,hoc,I.freeC x c hc] hs,by simpa using I.len] #[c,hs,.inr hc]
  ·exact (hs.2 b (av (au (ar e) (I.ok.cab x c hfn hc)))).trans (I.base.keep b o e n hb hx)
  ·obtain⟨sl,e1⟩:=I.base.slot b o e n hb hx;exact#[sl,(hs.2 b (av (au (ar e) (I.ok.cab x c hfn hc)))).trans e1]
  ·obtain⟨o',e1⟩:=I.base.there b o e hx;exact#[o',(hs.2 b (av (au (ar e) (I.ok.cab x c hfn hc)))).trans e1]
  ·by_cases hj:j=i
   ·subst hj;rw[hi]at e1;cases e1;rw[eR hiσ]at e2;cases e2;exact#[u,r,.inr #[.inl hk,c,hc,hc']]
   ·rw[e9 (Ne.symm hj)]at e2;obtain⟨u',r',q⟩:=hl j y v' e1 e2 e3;refine#[u',r',?_];rcases q with q | ⟨k,c',e,z'⟩
    ·exact .inl q
    ·refine .inr #[k,c',e,z'.sameBut hs ?_];rintro rfl;exact hj (Yc hN e1 (I.ok.inj _ _ _ e hc ▸ hi))
  ·by_cases hcc:c'=c
   ·subst hcc;exact#[_,hc']
   ·obtain⟨w2,z2⟩:=I.cell y c' e;exact#[w2,z2.sameBut hs hcc]
  ·obtain⟨e,n,ne,nf,d⟩:=I.pin p hp;refine#[(hs.2 p.1 ?_).trans e,n,ne,nf,d];intro q;rw[q,hoc]at e;have q':oc=p.2:=Option.some.inj e;exact d w' (by rw[<- q'];exact hocd)
theorem jU{M:pY}{A:oj}{E:nX->nY->Prop}{i:Nat}{x:og}{v:V}{u:nX}{Q:Unit->nY->Prop}(I:Inv X rN σ H s)(hN:X.N.Nodup)(hi:X.N[i]? = rJ x)(hx:Loc X.env.scope x)(r:RelV v u)
  (h:∀s',Inv X rN (σ.set i (rJ v)) H s'->Q Unit.unit s') (hf:X.fn x=rL\/X.env.scope.names.lookup x=rJ .local:=by first | exact .inl rfl | exact .inr rfl | assumption):oa M A (storeName X.env x u) Q E s :=
 kH I hN hi hx r (λs' I' _=>h s' I') hf
theorem Inv.call'{s':nY}{ch:List nW}(I:Inv X rN σ H s)(ho:s'.os=s.os)(u:Un (frs X.stack) ch H H' s.heap s'.heap)(hok:HOk X.prog X.w H' s'.heap)(hg:pE s'.gens)
  (hch:∀b ∈ ch,(b ∈ X.ex\/X.s₀.heap.objs.size<=b)/\b≠X.env.locals/\(∀x c,X.env.cells.lookup x=rJ c->c≠b)/\∀p ∈ X.pn ++ rN,p.1≠b):Inv X rN σ H' s':=by
 obtain⟨h',g',d',t',o'⟩:=s';have e:o'=s.os:=ho;subst e;exact I.call (g':=g') (t':=t') (d':=d') u hok hg hch
end
noncomputable abbrev XK:=nX->Option nW->Hp->Prop
noncomputable abbrev St:=List (Option V)
noncomputable abbrev VK:=V->Hp->Prop
noncomputable abbrev TE:=St->Hp->VK->Prop
noncomputable abbrev TT:=St->Hp->(Bool->Hp->Prop)->Prop
noncomputable abbrev TA:=St->Hp->(List V->Hp->Prop)->Prop
structure wU where
 nx:St->Hp->Prop
 rt:VK
 bk:St->Hp->Prop:=λ_ _=>False
 ct:St->Hp->Prop:=λ_ _=>False
noncomputable abbrev TS:=wU->St->Hp->Prop
def EP(X:Cx)(rN:List (nW × oF))(σ:St)(Q:VK)(u:nX)(s':nY):Prop:=∃v H',Inv X rN σ H' s'/\RelV v u/\Q v H'
def TP(X:Cx)(rN:List (nW × oF))(σ:St)(Q:Bool->Hp->Prop)(b:Bool)(s':nY):Prop:=∃H',Inv X rN σ H' s'/\Q b H'
def AP(X:Cx)(rN:List (nW × oF))(σ:St)(Q:List V->Hp->Prop)(us:List nX)(s':nY):Prop:=∃vs H',Inv X rN σ H' s'/\Vals vs us/\Q vs H'
def SP(X:Cx)(rN:List (nW × oF))(D:wU)(f:Flow)(s':nY):Prop :=
 match f with
 | .next=>∃σ' H',Inv X rN σ' H' s'/\D.nx σ' H'
 | .brk=>∃σ' H',Inv X rN σ' H' s'/\D.bk σ' H'
 | .cont=>∃σ' H',Inv X rN σ' H' s'/\D.ct σ' H'
 | .ret u=>∃v σ' H',Inv X rN σ' H' s'/\RelV v u/\D.rt v H'
def PE(X:Cx)(e:ol)(t:TE):Prop :=
 ∀(rN:List (nW × oF)) (s:nY) (σ:St) (H:Hp) (Q:VK),Inv X rN σ H s->t σ H Q->oa (model X.prog X.w) X.A (eval e X.env) (EP X rN σ Q) X.xe s
def PT(X:Cx)(e:ol)(t:TT):Prop :=
 ∀(rN:List (nW × oF)) (s:nY) (σ:St) (H:Hp) (Q:Bool->Hp->Prop),Inv X rN σ H s->t σ H Q->oa (model X.prog X.w) X.A (isTrue e X.env (eval e X.env)) (TP X rN σ Q) X.xe s
def PW(X:Cx)(e:ol)(t:TT):Prop :=
 ∀(whole:rz nX) (rN:List (nW × oF)) (s:nY) (σ:St) (H:Hp) (Q:Bool->Hp->Prop),Inv X rN σ H s->t σ H Q->oa (model X.prog X.w) X.A (isTrue e X.env whole) (TP X rN σ Q) X.xe s
theorem PW.pt{X:Cx}{e:ol}{t:TT}(h:PW X e t):PT X e t:=h _
def PA(X:Cx)(es:List ol)(t:TA):Prop :=
 ∀(pos:oU) (rN:List (nW × oF)) (s:nY) (σ:St) (H:Hp) (Q:List V->Hp->Prop),Inv X rN σ H s->t σ H Q->oa (model X.prog X.w) X.A (spliced (oB pos (nS es X.env))) (AP X rN σ Q) X.xe s
def PS(X:Cx)(st:ot)(t:TS):Prop :=
 ∀(rN:List (nW × oF)) (s:nY) (σ:St) (H:Hp) (D:wU),Inv X rN σ H s->t D σ H->oa (model X.prog X.w) X.A (exec st X.env) (SP X rN D) X.xe s
def PSs(X:Cx)(st:List ot)(t:TS):Prop :=
 ∀(rN:List (nW × oF)) (s:nY) (σ:St) (H:Hp) (D:wU),Inv X rN σ H s->t D σ H->oa (model X.prog X.w) X.A (execs st X.env) (SP X rN D) X.xe s
theorem thn{α:Type}{t:rz α}{Q Q':α->nY->Prop}{M:pY}{A:oj}{E:nX->nY->Prop}{s:nY}(h:oa M A t Q E s)(hQ:∀a s,Q a s->Q' a s):oa M A t Q' E s:=oR h hQ λ_ _ x=>x
section
variable{X:Cx}
theorem bin{a b:ol}{ta tb:TE}(ha:PE X a ta)(hb:PE X b tb){rN:List (nW × oF)}{s:nY}{σ:St}{H:Hp}{R:V->V->Hp->Prop}(I:Inv X rN σ H s)(h:ta σ H λx H1=>tb σ H1 λy H2=>R x y H2)
  {α:Type} {Q:α->nY->Prop} {f:nX->nX->rz α}
  (hf:∀v u s2 x y H2,Inv X rN σ H2 s2->RelV x v->RelV y u->R x y H2->oa (model X.prog X.w) X.A (f v u) Q X.xe s2) :
  oa (model X.prog X.w) X.A (eval a X.env) (λv s₁=>oa (model X.prog X.w) X.A (eval b X.env) (λu s₂=>oa (model X.prog X.w) X.A (f v u) Q X.xe s₂) X.xe s₁) X.xe s:=by
 refine thn (ha rN s σ H _ I h) λv s1 ⟨x,H1,I1,r1,q1⟩=>?_;refine thn (hb rN s1 σ H1 _ I1 q1) λu s2 ⟨y,H2,I2,r2,q2⟩=>?_;exact hf v u s2 x y H2 I2 r1 r2 q2
def onSl(σ:St)(i:Nat)(p:V->Prop):Prop:=match σ[i]? with | some (rJ v)=>p v | _=>False
theorem onSl.of{σ:St}{i:Nat}{p:V->Prop}(h:onSl σ i p):∃v,σ[i]? = rJ (rJ v)/\p v:=by
 unfold onSl at h;split at h
 ·exact#[_,by assumption,h]
 ·exact h.elim
def onInt(x:V)(p:Int->Prop):Prop:=match x with | .int k=>p k | _=>False
theorem onInt.of{x:V}{p:Int->Prop}(h:onInt x p):∃k,x=.int k/\p k:=by
 cases x <;> first | exact#[_,rfl,h] | exact h.elim
theorem onInt.to{x:V}{p:Int->Prop}(h:∃k,x=.int k/\p k):onInt x p:=by
 obtain⟨k,rfl,h⟩:=h;exact h
def onStr(x:V)(p:og->Prop):Prop:=match x with | .str k=>p k | _=>False
theorem onStr.of{x:V}{p:og->Prop}(h:onStr x p):∃k,x=.str k/\p k:=by
 cases x <;> first | exact#[_,rfl,h] | exact h.elim
theorem onStr.to{x:V}{p:og->Prop}(h:∃k,x=.str k/\p k):onStr x p:=by
 obtain⟨k,rfl,h⟩:=h;exact h
def onBl(x:V)(p:Bool->Prop):Prop:=match x with | .bl k=>p k | _=>False
theorem onBl.of{x:V}{p:Bool->Prop}(h:onBl x p):∃k,x=.bl k/\p k:=by
 cases x <;> first | exact#[_,rfl,h] | exact h.elim
theorem onBl.to{x:V}{p:Bool->Prop}(h:∃k,x=.bl k/\p k):onBl x p:=by
 obtain⟨k,rfl,h⟩:=h;exact h
def onRef(x:V)(p:nW->Prop):Prop:=match x with | .ref k=>p k | _=>False
theorem onRef.of{x:V}{p:nW->Prop}(h:onRef x p):∃k,x=.ref k/\p k:=by
 cases x <;> first | exact#[_,rfl,h] | exact h.elim
theorem onRef.to{x:V}{p:nW->Prop}(h:∃k,x=.ref k/\p k):onRef x p:=by
 obtain⟨k,rfl,h⟩:=h;exact h
def z9(i:Nat):TE:=λσ H Q=>onSl σ i λv=>Q v H
def tC(v:V):TE:=λ_ H Q=>Q v H
theorem zaG{i:Nat}{x:og}{pos:oU}(hN:X.N[i]? = rJ x)(hv:Vis X.env.scope x)(hd:(x ==("__debug__" : og))=rM:=by decide)(hcd:(x ==("__classdict__" : og))=rM:=by decide):PE X (.Name x pos) (z9 i):=by
 intro rN s σ H Q I h;obtain⟨v,e,h⟩:=onSl.of h;obtain⟨m,hn,hl⟩:=I.loc;obtain⟨u,r,l⟩:=hl i x v hN e hv;have fin:EP X rN σ Q u s:=#[v,H,I,r,h];rcases l with ⟨hk,hm⟩ | ⟨hk,c,hc,hcell⟩
 ·exact rB (wpAny_loadName_local I.ok.kind hk hn hm fin) hd
 ·rcases hk with hk | hk
  ·exact rB (wpAny_loadName_cell I.ok.kind hk hc hcell fin) hd
  ·exact rB (wpAny_loadName_free I.ok.kind hk hc hcell fin hcd) hd
theorem ze{i j pos}:PE X (.Constant (.int i) j pos) (tC (.int i)):=λ_ _ _ H _ I h=>wpAny_Constant_int #[.int i,H,I.tok _,#[_,rfl],h]
theorem yT{b j pos}:PE X (.Constant (.bool b) j pos) (tC (.bl b)):=λ_ _ _ H _ I h=>Constant_bool #[.bl b,H,I,rfl,h]
theorem xA{j pos}:PE X (.Constant .none j pos) (tC .non):=λ_ _ _ H _ I h=>Constant_none #[.non,H,I,rfl,h]
theorem xb{x j pos}:PE X (.Constant (.str x) j pos) (tC (.str x)):=λ_ _ _ H _ I h=>Calls.Constant_str #[.str x,H,I.tok _,#[_,rfl],h]
def Gl(X:Cx)(x:og):Prop:=X.env.kindOf x=rJ .globalImplicit
theorem wL{E:nX->nY->Prop}{rN:List (nW × oF)}{s:nY}{σ:St}{H:Hp}{x:og}{u:nX}{pos:oU}{Q:nX->nY->Prop}(I:Inv X rN σ H s)(hg:Gl X x)(hm:X.mg x=rJ u)(h:Q u s)
  (hd:(x ==("__debug__" : og))=rM:=by decide):oa (model X.prog X.w) X.A (eval (.Name x pos) X.env) Q E s :=
 Calls.Name_function_global I.ok.kind hg (Calls.loadGlobal_global (by rw[I.ok.glob];exact I.mod.glob.keeps I.bk) hm h) hd
theorem vb{E:nX->nY->Prop}{rN:List (nW × oF)}{s:nY}{σ:St}{H:Hp}{x:og}{u:nX}{pos:oU}{Q:nX->nY->Prop}(I:Inv X rN σ H s)(hg:Gl X x)(hm:X.mg x=rK)(hv:oG x=rJ u)(h:Q u s)
  (hn:x≠"__name__":=by decide) (hd:(x ==("__debug__" : og))=rM:=by decide):oa (model X.prog X.w) X.A (eval (.Name x pos) X.env) Q E s:=by
 obtain⟨mb,h1,h2⟩:=I.mod.blt;exact Calls.Name_function_global I.ok.kind hg (Calls.loadGlobal_builtin (by rw[I.ok.glob];exact I.mod.glob.keeps I.bk) hm (by rw[I.ok.blt];exact h1.keeps I.bk) ((h2 x hn).trans hv) h) hd
theorem y9{x:og}{v:V}{u:nX}{pos:oU}(hg:Gl X x)(hm:X.mg x=rJ u)(r:RelV v u)(hd:(x ==("__debug__" : og))=rM:=by decide):PE X (.Name x pos) (tC v) :=
 λ_ _ _ H _ I h=>wL I hg hm #[v,H,I,r,h] hd
theorem JO{x:og}{v:V}{u:nX}{pos:oU}(hg:Gl X x)(hm:X.mg x=rK)(hv:oG x=rJ u)(r:RelV v u)(hn:x≠"__name__":=by decide)(hd:(x ==("__debug__" : og))=rM:=by decide):PE X (.Name x pos) (tC v) :=
 λ_ _ _ H _ I h=>vb I hg hm hv #[v,H,I,r,h] hn hd
variable{a b:ol}{ta tb:TE}{pos:oU}
def PC(X:Cx)(op:pC)(a b:ol)(t:TE):Prop :=
 ∀(rN:List (nW × oF)) (s:nY) (σ:St) (H:Hp) (Q:VK),Inv X rN σ H s->t σ H Q ->
  oa (model X.prog X.w) X.A (eval a X.env) (λv s₁=>oa (model X.prog X.w) X.A (eval b X.env) (λu s₂=>oa (model X.prog X.w) X.A (ou op v u) (EP X rN σ Q) X.xe s₂) X.xe s₁) X.xe s
theorem Qw(b:ol){op:pC}(h:op≠.In)(h2:op≠.NotIn):behindInMarks op b=rM:=by
 have e1:(op == CmpOp.In)=rM:=by cases op <;> first | rfl | exact absurd rfl h
 have e2:(op == CmpOp.NotIn)=rM:=by cases op <;> first | rfl | exact absurd rfl h2
 cases b <;> simp [behindInMarks,e1,e2]
theorem yJ{op:pC}{t:TE}(h:PC X op a b t)(h1:behindInMarks op b=rM:=by first | exact Qw _ ∅ ∅ | rfl):PE X (.Compare a [op] [b] pos) t:=λrN s σ H Q I hw=>wpAny_Compare1 (h rN s σ H Q I hw) h1
variable{tA tB':TT}{rest:List ol}
def zcc(t u:TT):TT:=λσ H Q=>t σ H λc H1=>if c=rL then u σ H1 Q else Q rM H1
def tOr(t u:TT):TT:=λσ H Q=>t σ H λc H1=>if c=rL then Q rL H1 else u σ H1 Q
def zan(t:TT):TT:=λσ H Q=>t σ H λc H1=>Q (!c) H1
theorem KM(ha:PT X a tA):PW X (.BoolOp .And [a] pos) tA:=by
 intro wh rN s σ H Q I h;refine isTrue_and (thn (ha rN s σ H Q I h) λc s1 e=>?_)
 cases c with
 | true=>exact isTrue_and_nil e
 | false=>exact e
theorem vg(ha:PT X a tA):PW X (.BoolOp .Or [a] pos) tA:=by
 intro wh rN s σ H Q I h;refine isTrue_or (thn (ha rN s σ H Q I h) λc s1 e=>?_)
 cases c with
 | false=>exact isTrue_or_nil e
 | true=>exact e
theorem zaC(ha:PT X a tA)(hb:PW X (.BoolOp .And (b::rest) pos) tB'):PW X (.BoolOp .And (a::b::rest) pos) (zcc tA tB'):=by
 intro wh rN s σ H Q I h;refine isTrue_and (thn (ha rN s σ H _ I h) λc s1 ⟨H1,I1,q1⟩=>?_)
 cases c with
 | true=>exact hb wh rN s1 σ H1 Q I1 q1
 | false=>exact#[H1,I1,q1]
theorem vG(ha:PT X a tA)(hb:PW X (.BoolOp .Or (b::rest) pos) tB'):PW X (.BoolOp .Or (a::b::rest) pos) (tOr tA tB'):=by
 intro wh rN s σ H Q I h;refine isTrue_or (thn (ha rN s σ H _ I h) λc s1 ⟨H1,I1,q1⟩=>?_)
 cases c with
 | true=>exact#[H1,I1,q1]
 | false=>exact hb wh rN s1 σ H1 Q I1 q1
theorem yo(ha:PT X a tA):PT X (.UnaryOp .Not a pos) (zan tA):=by
 intro rN s σ H Q I h;exact isTrue_not (ha rN s σ H (λc H1=>Q (!c) H1) I h)
def UG(ta tb:TE):TE:=λσ H Q=>ta σ H λx H1=>onBl x λc=>if c=rL then tb σ H1 Q else Q (.bl rM) H1
def W5(ta:TE):TE:=λσ H Q=>ta σ H λx H1=>onBl x λc=>Q (.bl (!c)) H1
theorem zba{op}{t:TE}(h:PE X a t):PE X (.BoolOp op [a] pos) t:=λrN s σ H Q I hw=>BoolOp_one (h rN s σ H Q I hw)
theorem zbf(ha:PE X a ta)(hb:PE X (.BoolOp .And (b::rest) pos) tb):PE X (.BoolOp .And (a::b::rest) pos) (UG ta tb):=by
 intro rN s σ H Q I h;refine BoolOp_and (thn (ha rN s σ H _ I h) λv s1 ⟨x,H1,I1,r1,q1⟩=>?_);obtain⟨c,rfl,q1⟩:=onBl.of q1;cases r1;refine oy ?_
 cases c with
 | true=>exact hb rN s1 σ H1 Q I1 q1
 | false=>exact#[.bl rM,H1,I1,rfl,q1]
theorem Ji(ha:PE X a ta):PE X (.UnaryOp .Not a pos) (W5 ta):=by
 intro rN s σ H Q I h;refine UnaryOp_ (thn (ha rN s σ H _ I h) λv s1 ⟨x,H1,I1,r1,q1⟩=>?_);obtain⟨c,rfl,q1⟩:=onBl.of q1;cases r1;exact not_of (oy #[.bl (!c),H1,I1,rfl,q1])
def tIf(t:TT)(ta tb:TE):TE:=λσ H Q=>t σ H λc H1=>if c=rL then ta σ H1 Q else tb σ H1 Q
theorem ux{c:ol}(hc:PT X c tA)(ha:PE X a ta)(hb:PE X b tb):PE X (.IfExp c a b pos) (tIf tA ta tb):=by
 intro rN s σ H Q I h;refine wpAny_IfExp (thn (hc rN s σ H _ I h) λd s1 ⟨H1,I1,q1⟩=>?_)
 cases d with
 | true=>exact ha rN s1 σ H1 Q I1 q1
 | false=>exact hb rN s1 σ H1 Q I1 q1
end
def SqL(K:nV)(H:Hp)(a:nW)(xs:List V):Prop :=
 Rd H a (.lst xs) \/
  ∃(o:oF) (its:Array nX) (n:Nat),K.lookup a=rJ o/\o.cls=.type "list"/\o.dict=rK/\o.data=.seq its n/\its.size<=nU/\Vals xs its.toList
def SqT(K:nV)(H:Hp)(a:nW)(xs:List V):Prop :=
 Rd H a (.tup xs) \/
  ∃(o:oF) (its:Array nX) (n:Nat),K.lookup a=rJ o/\o.cls=.type "tuple"/\o.data=.seq its n/\its.size<=nU/\Vals xs its.toList
noncomputable def zdU:nX->Option V
 | .none=>rJ .non
 | .bool b=>rJ (.bl b)
 | .int i _=>rJ (.int i)
 | .str x _=>rJ (.str x)
 | .bytes b _=>rJ (.byt b)
 | .float b _=>rJ (.flt b)
 | .ref a=>rJ (.ref a)
 | .type n=>rJ (.ty n)
 | _=>rK
theorem RelV.abs{x:V}{u:nX}(r:RelV x u):zdU u=rJ x:=by
 cases x with
 | non=>cases r;rfl
 | bl _=>cases r;rfl
 | int _=>obtain⟨t,rfl⟩:=r;rfl
 | str _=>obtain⟨t,rfl⟩:=r;rfl
 | byt _=>obtain⟨t,rfl⟩:=r;rfl
 | flt _=>obtain⟨t,rfl⟩:=r;rfl
 | ref _=>cases r;rfl
 | ty _=>cases r;rfl
theorem RelV.inj{x y:V}{u:nX}(r:RelV x u)(q:RelV y u):x=y:=Option.some.inj (r.abs.symm.trans q.abs)
theorem Vals.inj:∀{xs ys:List V} {us:List nX},Vals xs us->Vals ys us->xs=ys
 | _,_,_,.nil,.nil=>rfl
 | _,_,_,.cons r t,.cons r' t'=>by rw[r.inj r',Vals.inj t t']
section
variable{X:Cx}{rN:List (nW × oF)}{σ:St}{H:Hp}{s:nY}{a:nW}{xs ys:List V}
theorem SqL.of{K:nV}(h:H a=rJ (.lst xs)):SqL K H a xs:=.inl (.inl h)
theorem SqT.of{K:nV}(h:H a=rJ (.tup xs)):SqT K H a xs:=.inl (.inl h)
theorem Inv.list(I:Inv X rN σ H s)(h:SqL X.K H a xs):∃its:List nX,Vals xs its/\PlainL s.heap a its.toArray/\xs.length<=nU:=by
 rcases h with h | ⟨o,its,n,hk,hc,hd,hs,hz,r⟩
 ·obtain⟨z,its,n,r,e⟩:=h.ok I.hok;exact#[its,r,#[_,n,e,rfl,rfl,rfl],z]
 ·refine#[its.toList,r,#[o,n,I.kIn a o hk,hc,hd,by simpa using hs],?_];have e:=r.length
  erw[cT]at e
  lia
theorem Inv.tuple(I:Inv X rN σ H s)(h:SqT X.K H a xs):∃its:List nX,Vals xs its/\IsTup s.heap a its.toArray/\xs.length<=nU:=by
 rcases h with h | ⟨o,its,n,hk,hc,hs,hz,r⟩
 ·obtain⟨z,its,r,p⟩:=h.ok I.hok;exact#[its,r,p,z]
 ·refine#[its.toList,r,#[o,I.kIn a o hk,hc,n,by simpa using hs],?_];have e:=r.length
  erw[cT]at e
  lia
theorem Inv.list_inj(I:Inv X rN σ H s)(h:SqL X.K H a xs)(h':SqL X.K H a ys):xs=ys:=by
 obtain⟨its,r,⟨o,n,e,_,_,d⟩,_⟩:=I.list h;obtain⟨its',r',⟨o',n',e',_,_,d'⟩,_⟩:=I.list h';rw[e]at e';cases e';rw[d]at d';injection d' with d1 _;have:its=its':=by simpa using congrArg Array.toList d1
 subst this;exact r.inj r'
theorem Inv.tuple_inj(I:Inv X rN σ H s)(h:SqT X.K H a xs)(h':SqT X.K H a ys):xs=ys:=by
 obtain⟨its,r,⟨o,e,_,n,d⟩,_⟩:=I.tuple h;obtain⟨its',r',⟨o',e',_,n',d'⟩,_⟩:=I.tuple h';rw[e]at e';cases e';rw[d]at d';injection d' with d1 _;have:its=its':=by simpa using congrArg Array.toList d1
 subst this;exact r.inj r'
end
noncomputable abbrev Cx.wish(X:Cx)(E:nX->nY->Prop):Cx:={ X with xe:=E }
noncomputable abbrev Cx.nox(X:Cx):Cx:=X.wish λ_ _=>False
theorem Cx.Ok.wish{X:Cx}(ok:X.Ok)(E:nX->nY->Prop):(X.wish E).Ok :=
 #[ok.mod,ok.kind,ok.glob,ok.blt,ok.above,ok.inj,ok.has,ok.cab,ok.hd,ok.frames,ok.stk,ok.exf,ok.bs,ok.bsz,ok.noex,ok.exfs,ok.funs,ok.frf]
theorem Cx.Ok.unwish{X:Cx}{E:nX->nY->Prop}(ok:(X.wish E).Ok):X.Ok :=
 #[ok.mod,ok.kind,ok.glob,ok.blt,ok.above,ok.inj,ok.has,ok.cab,ok.hd,ok.frames,ok.stk,ok.exf,ok.bs,ok.bsz,ok.noex,ok.exfs,ok.funs,ok.frf]
section
variable{X:Cx}{rN:List (nW × oF)}{σ:St}{H:Hp}{s:nY}{E:nX->nY->Prop}
theorem Inv.wish(I:Inv X rN σ H s)(E:nX->nY->Prop):Inv (X.wish E) rN σ H s:=#[I.ok.wish E,I.os,I.bare,I.base,I.loc,I.cell,I.free,I.freeC,I.pin,I.hok,I.len]
theorem Inv.unwish(I:Inv (X.wish E) rN σ H s):Inv X rN σ H s:=#[I.ok.unwish,I.os,I.bare,I.base,I.loc,I.cell,I.free,I.freeC,I.pin,I.hok,I.len]
theorem SP.unwish{D:wU}{f:Flow}{s':nY}(h:SP (X.wish E) rN D f s'):SP X rN D f s':=by
 cases f with
 | next=>obtain⟨σ',H',I,q⟩:=h;exact#[σ',H',I.unwish,q]
 | brk=>obtain⟨σ',H',I,q⟩:=h;exact#[σ',H',I.unwish,q]
 | cont=>obtain⟨σ',H',I,q⟩:=h;exact#[σ',H',I.unwish,q]
 | ret u=>obtain⟨v,σ',H',I,r,q⟩:=h;exact#[v,σ',H',I.unwish,r,q]
theorem PSs.nox{st:List ot}{t:TS}(h:PSs X.nox st t):PSs X st t:=λrN s σ H D I hw =>
 oR (h rN s σ H D (I.wish _) hw) (λ_ _ q=>q.unwish) λ_ _ z=>False.elim z
end
section
variable{X:Cx}{st:ot}{rest:List ot}{t u:TS}{e:ol}{te:TE}{pos:oU}
def U0:TS:=λD σ H=>D.nx σ H
def zce(t u:TS):TS:=λD σ H=>t { D with nx:=u D } σ H
theorem zB:PSs X [] U0:=λ_ _ σ H _ I h=>oX #[σ,H,I,h]
theorem zK(h1:PS X st t)(h2:PSs X rest u):PSs X (st::rest) (zce t u):=by
 intro rN s σ H D I h;refine pf (thn (h1 rN s σ H { D with nx:=u D } I h) λf s1 q=>?_)
 cases f with
 | next =>
  obtain⟨σ',H',I',q⟩:=q;exact h2 rN s1 σ' H' D I' q
 | ret v=>exact q
 | brk=>exact q
 | cont=>exact q
theorem zh(h1:PS X st t):PSs X [st] t:=by
 intro rN s σ H D I h;refine pf (thn (h1 rN s σ H D I h) λf s1 q=>?_)
 cases f with
 | next=>exact oX q
 | ret v=>exact q
 | brk=>exact q
 | cont=>exact q
theorem Inv.quiet{rN:List (nW × oF)}{σ:St}{H:Hp}{s:nY}(I:Inv X rN σ H s):interactive X.env=rM:=by simp [interactive,I.ok.kind]
def UH(te:TE):TS:=λD σ H=>te σ H λ_ H1=>D.nx σ H1
theorem wQ(he:PE X e te)(hs:swapsWith e rK pos.line X.env=pure rM:=by rfl):PS X (.Expr e pos) (UH te):=by
 intro rN s σ H D I h;exact wpAny_Expr_any (thn (he rN s σ H _ I h) λv s1 ⟨x,H1,I1,r1,q1⟩=>#[σ,H1,I1,q1]) I.quiet hs
def zal(te:TE):TS:=λD σ H=>te σ H D.rt
theorem zt(he:PE X e te):PS X (.Return (rJ e) pos) (zal te):=by
 intro rN s σ H D I h;exact rd (thn (he rN s σ H _ I h) λv s1 ⟨x,H1,I1,r1,q1⟩=>#[x,σ,H1,I1,r1,q1])
def zcd(c:TT)(t u:TS):TS:=λD σ H=>c σ H λb H1=>if b=rL then t D σ H1 else u D σ H1
theorem zZ{c:ol}{a b:List ot}{tc:TT}(hc:PT X c tc)(ha:PSs X a t)(hb:PSs X b u):PS X (.If c a b pos) (zcd tc t u):=by
 intro rN s σ H D I h;refine wpAny_If (thn (hc rN s σ H _ I h) λd s1 ⟨H1,I1,q1⟩=>?_)
 cases d with
 | true=>exact ha rN s1 σ H1 D I1 q1
 | false=>exact hb rN s1 σ H1 D I1 q1
end
noncomputable abbrev TG:=V->St->Hp->(St->Hp->Prop)->Prop
noncomputable abbrev TGs:=List V->St->Hp->(St->Hp->Prop)->Prop
def PG(X:Cx)(target:ol)(t:TG):Prop :=
 ∀(rN:List (nW × oF)) (s:nY) (σ:St) (H:Hp) (v:V) (u:nX) (Q:St->Hp->Prop),Inv X rN σ H s->RelV v u->t v σ H Q ->
  oa (model X.prog X.w) X.A (assign target X.env u) (λ_ s'=>∃σ' H',Inv X rN σ' H' s'/\Q σ' H') X.xe s
def PGs(X:Cx)(ts:List ol)(t:TGs):Prop :=
 ∀(rN:List (nW × oF)) (s:nY) (σ:St) (H:Hp) (vs:List V) (us:List nX) (Q:St->Hp->Prop),Inv X rN σ H s->Vals vs us->t vs σ H Q ->
  oa (model X.prog X.w) X.A (assignInOrder ((assignEach ts X.env).map (·.2)) us) (λ_ s'=>∃σ' H',Inv X rN σ' H' s'/\Q σ' H') X.xe s
noncomputable abbrev zck:=V->V->V->Hp->(Hp->Prop)->Prop
def zdE(X:Cx)(t:zck):Prop :=
 ∀(rN:List (nW × oF)) (s:nY) (σ:St) (H:Hp) (o i v:V) (ov iv u:nX) (Q:Hp->Prop),Inv X rN σ H s->RelV o ov->RelV i iv->RelV v u->t o i v H Q ->
  oa (model X.prog X.w) X.A (setItem ov iv u) (λ_ s'=>∃H',Inv X rN σ H' s'/\Q H') X.xe s
section
variable{X:Cx}{pos:oU}
def yK(i:Nat):TG:=λv σ H Q=>Q (σ.set i (rJ v)) H
theorem zv{i:Nat}{x:og}(hN:X.N.Nodup)(hi:X.N[i]? = rJ x)(hx:Loc X.env.scope x)(hf:X.fn x=rL\/X.env.scope.names.lookup x=rJ .local:=by first | exact .inl rfl | exact .inr rfl | assumption):PG X (.Name x pos) (yK i):=by
 intro rN s σ H v u Q I r h;exact rb (jU I hN hi hx r (λs' I'=>#[_,H,I',h]) hf)
def K9:TGs:=λvs σ H Q=>vs=[]/\Q σ H
def qH(t:TG)(u:TGs):TGs:=λvs σ H Q=>∃v r,vs=v::r/\t v σ H λσ' H'=>u r σ' H' Q
theorem xM:PGs X [] K9:=by
 intro rN s σ H vs us Q I r h;obtain⟨e,h⟩:=h;subst e;cases r;exact assignInOrder_nil #[σ,H,I,h]
theorem zV{e:ol}{es:List ol}{t:TG}{u:TGs}(h1:PG X e t)(h2:PGs X es u)
  (hs:(assignEach (e::es) X.env).map (·.2)=assign e X.env::(assignEach es X.env).map (·.2):=by rfl):PGs X (e::es) (qH t u):=by
 intro rN s σ H vs us Q I r h;obtain⟨v,vr,e1,h⟩:=h;subst e1
 cases r with
 | cons r rr =>
  rw[hs];refine assignInOrder_cons (thn (h1 rN s σ H _ _ _ I r h) λ_ s1 ⟨σ1,H1,I1,q1⟩=>?_);exact h2 rN s1 σ1 H1 _ _ Q I1 rr q1
def JD(K:nV)(n:Nat)(t:TGs):TG:=λv σ H Q=>∃a xs,v=.ref a/\SqT K H a xs/\xs.length=n/\t xs σ H Q
theorem vn{es:List ol}{k:Nat}{t:TGs}{n:Nat}(hc:X.calm=rL)(h:PGs X es t)
  (hn:(assignEach es X.env).length=n:=by rfl) (hst:(assignEach es X.env).findIdx? (·.1)=rK:=by rfl):PG X (.Tuple es k pos) (JD X.K n t):=by
 intro rN s σ H v u Q I r hw;obtain⟨a,xs,e1,hq,hl,hw⟩:=hw;subst e1;cases r;obtain⟨its,rv,ht,hz⟩:=I.tuple hq;refine assign_Tuple_tuple (I.ok.hd hc) ht (by simp [hn,<- hl,rv.length]) hst λh' hx=>?_;have I1:Inv X rN σ H { s with heap:=h' }:=I.kept (t':=s.toks) λb o e=>hx b o (av (ar e)) e;exact h rN _ σ H xs _ Q I1 (by simpa using rv) hw
def zdu(to ti:TE)(t:zck):TG:=λv σ H Q=>to σ H λo H1=>ti σ H1 λi H2=>t o i v H2 λH3=>Q σ H3
theorem zbL{o i:ol}{to ti:TE}{t:zck}(ho:PE X o to)(hi:PE X i ti)(hs:zdE X t)
  (ha:∀v,assign (.Subscript o i pos) X.env v=(do
   let ov <- holding [v] (eval o X.env)
   let iv <- holding [v,ov] (eval i X.env)
   standAt pos
   holding [v,ov,iv] (setItem ov iv v)
   release [v,ov,iv] []):=by intro _;rfl):PG X (.Subscript o i pos) (zdu to ti t):=by
 intro rN s σ H v u Q I r h;rw[ha];refine nP (oz (thn (ho rN s σ H _ I h) λov s1 ⟨x,H1,I1,r1,q1⟩=>?_));refine nP (oz (thn (hi rN s1 σ H1 _ I1 q1) λiv s2 ⟨y,H2,I2,r2,q2⟩=>?_));refine nP (oP (nP (oz (thn (hs rN s2 σ H2 x y v ov iv u _ I2 r1 r2 r q2) λ_ s3 ⟨H3,I3,q3⟩=>?_))));exact wpAny_release #[σ,H3,I3,q3]
def zak(te:TE)(g:TG):TS:=λD σ H=>te σ H λx H1=>g x σ H1 D.nx
theorem zaR{tg e:ol}{te:TE}{g:TG}(he:PE X e te)(hg:PG X tg g)(hs:swapsWithSole [tg] e pos.line X.env=pure rM:=by rfl)(hw:swappedStores [tg] e X.env=pure rK:=by rfl)
  (h1:(assignEach [tg] X.env).map (·.2)=[assign tg X.env]:=by rfl):PS X (.Assign [tg] e pos) (zak te g):=by
 intro rN s σ H D I h;refine wpAny_Assign_stores (thn (he rN s σ H _ I h) λv s1 ⟨x,H1,I1,r1,q1⟩=>?_) hs hw;rw[h1];exact thn (hg rN s1 σ H1 x v _ I1 r1 q1) λ_ s2 q=>q
theorem xO{i:Nat}{x:og}{e:ol}{te:TE}{pos':oU}(hN:X.N.Nodup)(hi:X.N[i]? = rJ x)(hx:Loc X.env.scope x)(he:PE X e te)(hs:swapsWith e (rJ (.Name x pos')) pos.line X.env=pure rM:=by rfl)(hf:X.fn x=rL\/X.env.scope.names.lookup x=rJ .local:=by first | exact .inl rfl | exact .inr rfl | assumption) :
  PS X (.Assign [.Name x pos'] e pos) (zak te (yK i)):=by
 intro rN s σ H D I h;refine re (thn (he rN s σ H _ I h) λv s1 ⟨y,H1,I1,r1,q1⟩=>?_) hs;exact jU I1 hN hi hx r1 (λs2 I2=>#[_,H1,I2,q1]) hf
def Y4(c:TT)(tb:TS):TS:=λD σ H=>∃W:Nat->St->Hp->Prop,(∃m,W m σ H)/\∀m σ H,W m σ H ->
 c σ H λb H1=>if b=rL then ∃N:St->Hp->Prop,(∀σ' H',N σ' H'->∃m',m'<m/\W m' σ' H')/\tb { D with nx:=N,ct:=N,bk:=D.nx } σ H1 else D.nx σ H1
theorem j5{c:ol}{body:List ot}{tc:TT}{tb:TS}(hp:PassesOwn (model X.prog X.w) X.A X.env X.xe)(hc:PT X c tc)(hb:PSs X body tb):PS X (.While c body [] pos) (Y4 tc tb):=by
 intro rN s σ H D I h;obtain⟨W,⟨m0,w0⟩,turn⟩:=h;refine wpAny_While (codeAny_whileLoop (λn s'=>∃σ' H',Inv X rN σ' H' s'/\W n σ' H') ?_ m0 #[σ,H,I,w0]);rintro n s1 ⟨σ1,H1,I1,w1⟩;refine oO hp (thn (hc rN s1 σ1 H1 _ I1 (turn n σ1 H1 w1)) λb s2 ⟨H2,I2,q2⟩=>?_)
 cases b with
 | true =>
  obtain⟨N,hN,q2⟩:=q2;rw[if_pos rfl];refine oO hp (thn (hb rN s2 σ1 H2 _ I2 q2) λf s3 q3=>?_)
  cases f with
  | next =>
   obtain⟨σ3,H3,I3,n3⟩:=q3;obtain⟨m',hm,w3⟩:=hN σ3 H3 n3;exact#[m',hm,σ3,H3,I3,w3]
  | cont =>
   obtain⟨σ3,H3,I3,n3⟩:=q3;obtain⟨m',hm,w3⟩:=hN σ3 H3 n3;exact#[m',hm,σ3,H3,I3,w3]
  | brk=>exact q3
  | ret v=>exact q3
 | false =>
  rw[if_neg aA];exact oX #[σ1,H2,I2,q2]
end
structure It where
 go:Nat->Hp->Prop
 yld:Nat->Hp->V->Hp->Prop
 stop:Nat->Hp->Prop
def xG(X:Cx)(rN:List (nW × oF))(H:Hp)(b:nW):Prop :=
 H b=rK/\b≠X.env.locals/\b ∉ X.fs/\(b ∈ X.ex\/X.s₀.heap.objs.size<=b)/\(∀x c,X.env.cells.lookup x=rJ c->c≠b)/\∀p ∈ X.pn ++ rN,p.1≠b
theorem Inv.fpOk{X:Cx}{rN:List (nW × oF)}{σ:St}{H H':Hp}{s:nY}{b:nW}(I:Inv X rN σ H s)(hb:s⁻¹<=b)(hn:H' b=rK):xG X rN H' b:=by
 refine#[hn,cj (au I.lt hb),I.nofs hb,.inr (aM I.sz hb),λx c e z=>?_,λp hp z=>?_]
 ·obtain⟨v,q⟩:=I.cell x c e;exact absurd (au q.lt (by rw[z];exact hb)) (cE _)
 ·exact absurd (au (ar (I.pin p hp).1) (by rw[z];exact hb)) (cE _)
structure Jj(P:nZ)(w:oh)(K:nV)(tg:ol)(J:It)(fp:List nW)(it:nW)(tn:Nat->oo->Prop):Prop where
 mem:it ∈ fp
 obj:∀i h,tn i h->∀b ∈ fp,∃o,h.get? b=rJ o/\∀v,o.data≠.cell v
 keep:∀i h h',tn i h->(∀b ∈ fp,∀o,h.get? b=rJ o->h'.get? b=rJ o)->tn i h'
 item:∀(X:Cx),X.prog=P->X.w=w->X.K=K->X.calm=rL->∀(i:Nat) (rN:List (nW × oF)) (s:nY) (σ:St) (H:Hp) (E:nX->nY->Prop),Inv X rN σ H s->(∀b ∈ fp,xG X rN H b)->tn i s.heap->J.go i H ->
  oa (model P w) X.A (pyNext (.ref it)) (λr s1=>∃u,r=rJ u /\
   oa (model P w) X.A (letOwnedTupleGo tg (.ref it) u) (λ_ s2=>∃x H',Inv X rN σ H' s2/\RelV x u/\J.yld i H x H'/\tn (i+1) s2.heap/\∀b ∈ fp,H' b=rK) E s1) E s
 done:∀(X:Cx),X.prog=P->X.w=w->X.K=K->X.calm=rL->∀(i:Nat) (rN:List (nW × oF)) (s:nY) (σ:St) (H:Hp) (E:nX->nY->Prop),Inv X rN σ H s->(∀b ∈ fp,xG X rN H b)->tn i s.heap->J.stop i H ->
  oa (model P w) X.A (pyNext (.ref it)) (λr s1=>r=rK/\Inv X rN σ H s1) E s
 self:∀(A:oj) (i:Nat) (s:nY) (Q:nX->nY->Prop) (E:nX->nY->Prop),tn i s.heap->Q (.ref it) s->oa (model P w) A (pyIter (.ref it)) Q E s
noncomputable abbrev TI:=St->Hp->(It->Hp->Prop)->Prop
def PIE(X:Cx)(rN:List (nW × oF))(σ:St)(tg:ol)(R:It->Hp->Prop)(itv:nX)(s2:nY):Prop :=
 ∃(it:nW) (fp:List nW) (tn:Nat->oo->Prop) (J:It) (H':Hp),itv=.ref it/\Inv X rN σ H' s2/\Jj X.prog X.w X.K tg J fp it tn/\tn 0 s2.heap/\(∀b ∈ fp,xG X rN H' b)/\R J H'
def PI(X:Cx)(tg iter:ol)(wi:TI):Prop :=
 ∀(rN:List (nW × oF)) (s:nY) (σ:St) (H:Hp) (R:It->Hp->Prop),Inv X rN σ H s->wi σ H R ->
  oa (model X.prog X.w) X.A (eval iter X.env) (λv s1=>oa (model X.prog X.w) X.A (pyIter v) (PIE X rN σ tg R) X.xe s1) X.xe s
theorem Wn{M:pY}{A:oj}{E:nX->nY->Prop}{s:nY}{tg:ol}{it:nW}{u:nX}{o:oF}{n:String}{vs:Array nX}{Q:Unit->nY->Prop}(ho:s.heap.get? it=rJ o)(hc:o.cls=.type n)(hd:o.data=.fields vs)
    (hn:["enumerate","zip","dict_itemiterator","dict_reverseitemiterator","odict_iterator","itertools.zip_longest","itertools.pairwise"].contains n=rM) (hQ:Q Unit.unit s):oa M A (letOwnedTupleGo tg (.ref it) u) Q E s:=by
  unfold letOwnedTupleGo
  cases tg <;> first
    | exact nQ hQ
    | (cases u <;> first
        | exact nQ hQ
        | (refine nP (wpAny_load ho ?_)
           rw[hc,hd];show oa M A (if (["enumerate","zip","dict_itemiterator","dict_reverseitemiterator","odict_iterator","itertools.zip_longest","itertools.pairwise"].contains n && vs[0]? == rJ (rawInt _))=rL then _ else _) Q E s;rw[if_neg (by intro h;rw[hn,Bool.false_and]at h;cases h)]
           exact nQ hQ))
noncomputable def Itl(K:nV)(a:nW):It :=
 #[λi H=>∃xs x,SqL K H a xs/\xs[i]? = rJ x,λi H x H'=>H'=H/\∀xs,SqL K H a xs->xs[i]? = rJ x,λi H=>∃xs,SqL K H a xs/\xs.length<=i]
noncomputable def Itt(K:nV)(a:nW):It :=
 #[λi H=>∃xs x,SqT K H a xs/\xs[i]? = rJ x,λi H x H'=>H'=H/\∀xs,SqT K H a xs->xs[i]? = rJ x,λi H=>∃xs,SqT K H a xs/\xs.length<=i]
noncomputable def Itr(lo:Int)(n:Nat):It:=#[λi _=>i<n,λi H x H'=>H'=H/\x=.int (lo+i),λi _=>n<=i]
theorem VI{P:nZ}{w:oh}{K:nV}{tg:ol}(a it:nW):Jj P w K tg (Itl K a) [it] it (λi h=>h.IsListIter it a i) where
 mem:=by simp
 obj:=λi h st b hb=>by
  have e:b=it:=by simpa using hb
  subst e;obtain⟨o,e,c,d⟩:=st;exact#[o,e,λv z=>by rw[d]at z;cases z]
 keep:=λi h h' st k=>st.at λo e=>k it (by simp) o e
 item:=by
  intro X hP hw hK hc i rN s σ H E I hf st hg;subst hP hw hK;obtain⟨xs,x,hq,hx⟩:=hg;obtain⟨its,rv,p,hz⟩:=I.list hq;obtain⟨u,hu,ru⟩:=rv.get hx;obtain⟨f0,f1,f2,f3,f4,f5⟩:=hf it (by simp);refine wpAny_pyNext_list_item st p.isList (x:=u) (by simpa using hu) λh' st' sb=>?_;have I1:Inv X rN σ H { s with heap:=h' }:=I.turned (t':=s.toks) (λb o hb e=>(sb.2 b hb).trans e) f0 f1 f3 f4 f5;obtain⟨o,e,c,d⟩:=id st';exact#[u,rfl,Wn (s:={ s with heap:=h' }) e c d ∅ #[x,H,I1,ru,#[rfl,λys hy=>by rw[I.list_inj hy hq];exact hx],st',λb hb=>(hf b hb).1]]
 done:=by
  intro X hP hw hK hc i rN s σ H E I hf st hg;subst hP hw hK;obtain⟨xs,hq,hx⟩:=hg;obtain⟨its,rv,p,hz⟩:=I.list hq;obtain⟨f0,f1,f2,f3,f4,f5⟩:=hf it (by simp);have hl:=rv.length;exact wpAny_pyNext_list_end (I.ok.hd hc) st p.isList (by simp;lia) λh' eb=>#[rfl,I.turned (t':=s.toks) (λb o hb e=>eb b o hb e) f0 f1 f3 f4 f5]
 self:=λ_ _ _ _ _ st h=>wpAny_pyIter_listiter st h
theorem Xr{P:nZ}{w:oh}{K:nV}{tg:ol}(it:nW)(lo:Int)(n:Nat):Jj P w K tg (Itr lo n) [it] it (λi h=>IsRangeIter h it (lo+(i:Nat) * 1) ((n:Int) - (i:Nat)) 1) where
 mem:=by simp
 obj:=λi h st b hb=>by
  have e:b=it:=by simpa using hb
  subst e
  exact#[_,st,λv z=>by
   have z':Data.fields _=Data.cell v:=z
   cases z']
 keep:=λi h h' st k=>k it (by simp) _ st
 item:=by
  intro X hP hw hK hc i rN s σ H E I hf st hg;subst hP hw hK;obtain⟨f0,f1,f2,f3,f4,f5⟩:=hf it (by simp);have W:=Walks.range (prog:=X.prog) (w:=X.w) (I.ok.hd hc) it lo 1 n;refine W.item i s _ _ hg st λv h' tk hv st' kk=>?_;obtain⟨t,rfl⟩:=hv;have I1:Inv X rN σ H { s with heap:=h',toks:=tk }:=I.turned (λb o hb e=>kk b o (by simpa using hb) e) f0 f1 f3 f4 f5;refine#[_,rfl,Wn (s:={ s with heap:=h',toks:=tk }) (n:="range_iterator") st' rfl rfl ∅ #[.int (lo+i),H,I1,#[t,?_],#[rfl,rfl],st',λb hb=>(hf b hb).1]];rw[Int.mul_one]
 done:=by
  intro X hP hw hK hc i rN s σ H E I hf st hg;subst hP hw hK;obtain⟨f0,f1,f2,f3,f4,f5⟩:=hf it (by simp);exact wpAny_pyNext_range_end (I.ok.hd hc) st (by have:n<=i:=hg;lia) λh' eb=>#[rfl,I.turned (t':=s.toks) (λb o hb e=>eb b o hb e) f0 f1 f3 f4 f5]
 self:=λ_ _ _ _ _ st h=>wpAny_pyIter_rangeiter st h
section
variable{X:Cx}{tg:ol}
def JY(K:nV)(tl:TE):TI:=λσ H R=>tl σ H λx H1=>∃a,x=.ref a/\(∃xs,SqL K H1 a xs)/\R (Itl K a) H1
def zd4(K:nV)(tl:TE):TI:=λσ H R=>tl σ H λx H1=>∃a,x=.ref a/\(∃xs,SqT K H1 a xs)/\R (Itt K a) H1
theorem yi{l:ol}{tl:TE}(hl:PE X l tl):PI X tg l (JY X.K tl):=by
 intro rN s σ H R I h;refine thn (hl rN s σ H _ I h) λv s1 ⟨x,H1,I1,r1,q1⟩=>?_;obtain⟨a,e,⟨xs,hq⟩,q⟩:=q1;subst e;cases r1;obtain⟨its,rv,p,hz⟩:=I1.list hq;refine pw p.isList ?_;refine#[s1⁻¹,[s1⁻¹],_,_,H1,rfl,I1.kept (t':=s1.toks) λb o e=>ag _ e,VI a _,#[_,aE _ rfl,rfl,rfl],λb hb=>?_,q];have e:b=s1⁻¹:=by simpa using hb
 subst e;exact I1.fpOk (al _) (I1.hok.fresh (al _))
theorem YJ{rN:List (nW × oF)}{σ:St}{H:Hp}{s:nY}{R:It->Hp->Prop}{E:nX->nY->Prop}{lo hi:Int}{t u v:rh}{tk:Nat}(I:Inv X rN σ H s)(h1:-(2 ^ 62)<=lo)(h2:lo<2 ^ 62)(h3:-(2 ^ 62)<=hi)(h4:hi<2 ^ 62)
  (q:R (Itr lo (hi - lo).toNat) H):oa (model X.prog X.w) X.A (pyIter (.ref s⁻¹)) (PIE X rN σ tg R) E { s with heap:=s.heap.push { cls:=.type "range",data:=.fields (List.toArray [.int lo t,.int hi u,.int 1 v]) },toks:=tk }:=by
 refine wpAny_pyIter_range (IsRange.new ..) (small_one h1 h2 h3 h4) ?_;have I1:Inv X rN σ H { s with heap:=s.heap.push { cls:=.type "range",data:=.fields (List.toArray [.int lo t,.int hi u,.int 1 v]) },toks:=tk }:=I.kept λb o e=>ag _ e
 refine#[(s.heap.push { cls:=.type "range",data:=.fields (List.toArray [.int lo t,.int hi u,.int 1 v]) }).objs.size,[(s.heap.push { cls:=.type "range",data:=.fields (List.toArray [.int lo t,.int hi u,.int 1 v]) }).objs.size],_,_,H,rfl,
  I1.kept (t':=tk) λb o e=>ag _ e,Xr _ lo (hi - lo).toNat,?_,λb hb=>?_,q]
 ·have e1:lo+((0:Nat):Int) * 1=lo:=by simp
  have e2:(((hi - lo).toNat:Nat):Int) - ((0:Nat):Int)=Builtin.Range.rangeSize lo hi 1:=by rw[rangeSize_one];split <;> lia
  show IsRangeIter _ _ (lo+((0:Nat):Int) * 1) ((((hi - lo).toNat:Nat):Int) - ((0:Nat):Int)) 1;rw[e1,e2];exact aE _ rfl
 ·have e:b=(s.heap.push { cls:=.type "range",data:=.fields (List.toArray [.int lo t,.int hi u,.int 1 v]) }).objs.size:=by simpa using hb
  subst e;exact I1.fpOk (al _) (I1.hok.fresh (al _))
def Kx(ta:TA):TI:=λσ H R=>ta σ H λvs H1=>∃j:Int,vs=[.int j]/\-(2 ^ 62)<=j/\j<2 ^ 62/\R (Itr 0 j.toNat) H1
def zaA(ta:TA):TI:=λσ H R=>ta σ H λvs H1=>∃i j:Int,vs=[.int i,.int j]/\(-(2 ^ 62)<=i/\i<2 ^ 62/\-(2 ^ 62)<=j/\j<2 ^ 62)/\R (Itr i (j - i).toNat) H1
theorem yz{a:ol}{ta:TA}{p pos:oU}(hg:Gl X "range")(hm:X.mg "range" = rK)(ha:PA X [a] ta)(hs:nS [a] X.env=[(rM,eval a X.env)]:=by rfl):PI X tg (.Call (.Name "range" p) [a] [] pos) (Kx ta):=by
 intro rN s σ H R I h;refine Call_ (vb I hg hm boot_range (bI (thn (ha pos rN s σ H _ I h) λus s1 ⟨vs,H1,I1,r1,q1⟩=>?_) hs rfl));obtain⟨j,e,q1,q2,q⟩:=q1;subst e
 cases r1 with
 | cons r rr =>
  cases rr;obtain⟨t,rfl⟩:=r;exact call_range_1 (YJ I1 ⋯ ⋯ q1 q2 (by simpa using q))
theorem WX{a b:ol}{ta:TA}{p pos:oU}(hg:Gl X "range")(hm:X.mg "range" = rK)(ha:PA X [a,b] ta)(hs:nS [a,b] X.env=[(rM,eval a X.env),(rM,eval b X.env)]:=by rfl)(hs2:nS [b] X.env=[(rM,eval b X.env)]:=by rfl) :
  PI X tg (.Call (.Name "range" p) [a,b] [] pos) (zaA ta):=by
 intro rN s σ H R I h;refine Call_ (vb I hg hm boot_range (bI (thn (ha pos rN s σ H _ I h) λus s1 ⟨vs,H1,I1,r1,q1⟩=>?_) (by rw[hs,hs2]) (by rw[hs2];rfl)));obtain⟨i,j,e,⟨q1,q2,q3,q4⟩,q⟩:=q1;subst e
 cases r1 with
 | cons r rr =>
  cases rr with
  | cons r' rr =>
   cases rr;obtain⟨t,rfl⟩:=r;obtain⟨t',rfl⟩:=r';exact call_range_2 (YJ I1 q1 q2 q3 q4 q)
def Qt(wi:TI)(g:TG)(tb:TS):TS:=λD σ H=>wi σ H λJ H1=>∃W:Nat->Nat->St->Hp->Prop,(∃m,W 0 m σ H1)/\∀i m σ H,W i m σ H ->
 (J.stop i H/\D.nx σ H)\/(J.go i H/\∃N:St->Hp->Prop,(∀σ' H',N σ' H'->∃m',m'<m/\W (i+1) m' σ' H')/\∀x H',J.yld i H x H'->g x σ H' λσ2 H2=>tb { D with nx:=N,ct:=N,bk:=D.nx } σ2 H2)
noncomputable def k7(fp:List nW)(h:oo):List (nW × oF):=fp.filterMap λb=>(h.get? b).map λo=>(b,o)
theorem wB{fp:List nW}{h:oo}{b:nW}{o:oF}(hb:b ∈ fp)(e:h.get? b=rJ o):(b,o) ∈ k7 fp h:=sy.mpr #[b,hb,by rw[e];rfl]
theorem Va{fp:List nW}{h:oo}{p:nW × oF}(hp:p ∈ k7 fp h):p.1 ∈ fp/\h.get? p.1=rJ p.2:=by
 obtain⟨b,hb,e⟩:=sy.mp hp
 cases q:h.get? b with
 | none=>rw[q]at e;cases e
 | some o =>
  rw[q]at e;have e':(b,o)=p:=Option.some.inj e;subst e';exact#[hb,q]
theorem Inv.pinned{rN:List (nW × oF)}{σ:St}{H:Hp}{s:nY}{fp:List nW}(I:Inv X rN σ H s)(hf:∀b ∈ fp,xG X rN H b)(ho:∀b ∈ fp,∃o,s.heap.get? b=rJ o/\∀v,o.data≠.cell v):Inv X (rN ++ k7 fp s.heap) σ H s :=
 I.pins_of λp hp=>(rT.mp hp).elim (λz=>I.pin p (aD _ z)) λz=>by
  obtain⟨hb,e⟩:=Va z;obtain⟨f0,f1,f2,_⟩:=hf p.1 hb;obtain⟨o,e',d⟩:=ho p.1 hb;rw[e]at e';cases e';exact#[e,f0,f1,f2,d]
theorem Inv.unpinned{rN pl:List (nW × oF)}{σ:St}{H:Hp}{s:nY}(I:Inv X (rN ++ pl) σ H s):Inv X rN σ H s:=I.pins_of λp hp=>I.pin p (aD _ (bh _ hp))
theorem yg{iter:ol}{body:List ot}{wi:TI}{g:TG}{tb:TS}{pos:oU}(hp:PassesOwn (model X.prog X.w) X.A X.env X.xe)(hc:X.calm=rL)(hi:PI X tg iter wi)(hg:PG X tg g)(hb:PSs X body tb)
  (hs:∀x,foldedSetIterable iter X.env x=pure x:=by intro _;rfl):PS X (.For tg iter body [] pos) (Qt wi g tb):=by
 intro rN s σ H D I h;refine wpAny_For (thn (hi rN s σ H _ I h) λv s1 h1=>thn h1 λitv s2 h2=>?_) hs;obtain⟨it,fp,tn,J,H2,e,I2,T,st2,f2,W,⟨m0,w0⟩,turn⟩:=h2;subst e;have stat:∀{H':Hp},(∀b ∈ fp,H' b=rK)->∀b ∈ fp,xG X rN H' b:=λhn b hb=>#[hn b hb,(f2 b hb).2];refine codeAny_forLoop_any (λn s'=>∃i σ' H',Inv X rN σ' H' s'/\tn i s'.heap/\(∀b ∈ fp,H' b=rK)/\W i n σ' H') ?_ m0 #[0,σ,H2,I2,st2,λb hb=>(f2 b hb).1,w0];rintro n s3 ⟨i,σ3,H3,I3,st3,fr3,w3⟩;rcases turn i n σ3 H3 w3 with ⟨stop,qn⟩ | ⟨go,N,hN,step⟩
 ·refine oO hp (thn (T.done X rfl rfl rfl hc i rN s3 σ3 H3 X.xe I3 (stat fr3) st3 stop) λr s4 ⟨hr,I4⟩=>?_);subst hr;exact oX #[σ3,H3,I4,qn]
 ·refine oO hp (thn (T.item X rfl rfl rfl hc i rN s3 σ3 H3 X.xe I3 (stat fr3) st3 go) λr s4 ⟨u,hr,h4⟩=>?_);subst hr;refine oO hp (thn h4 λ_ s5 ⟨x,H5,I5,r5,y5,st5,fr5⟩=>?_);have I5':=I5.pinned (stat fr5) (T.obj _ _ st5);refine oO hp (thn (hg _ s5 σ3 H5 x u _ I5' r5 (step x H5 y5)) λ_ s6 ⟨σ6,H6,I6,q6⟩=>?_);refine oO hp (thn (hb _ s6 σ6 H6 _ I6 q6) λf s7 q7=>?_)
  have again:∀{σ7:St} {H7:Hp},Inv X (rN ++ k7 fp s5.heap) σ7 H7 s7->N σ7 H7->∃m,m<n/\∃i σ' H',Inv X rN σ' H' s7/\tn i s7.heap/\(∀b ∈ fp,H' b=rK)/\W i m σ' H':=λ{σ7 H7} I7 n7=>by
   obtain⟨m',hm,w7⟩:=hN σ7 H7 n7;refine#[m',hm,i+1,σ7,H7,I7.unpinned,T.keep _ _ _ st5 λb hb o e=>(I7.pin (b,o) (aD _ (aD _ (wB hb e)))).1,λb hb=>?_,w7];obtain⟨o,e,d⟩:=T.obj _ _ st5 b hb;exact (I7.pin (b,o) (aD _ (aD _ (wB hb e)))).2.1
  cases f with
  | next=>obtain⟨σ7,H7,I7,n7⟩:=q7;exact again I7 n7
  | cont=>obtain⟨σ7,H7,I7,n7⟩:=q7;exact again I7 n7
  | brk=>obtain⟨σ7,H7,I7,q7⟩:=q7;exact#[σ7,H7,I7.unpinned,q7]
  | ret v=>obtain⟨x7,σ7,H7,I7,r7,q7⟩:=q7;exact#[x7,σ7,H7,I7.unpinned,r7,q7]
end
theorem Qv{K:nV}{a:nW}{xs:List V}{g:TG}{tb:TS}{D:wU}{σ:St}{H:Hp}(Pv:Nat->St->Hp->Prop)(h0:Pv 0 σ H)(hl:∀i σ H,i<=xs.length->Pv i σ H->SqL K H a xs)
  (hs:∀i x σ H,xs[i]? = rJ x->Pv i σ H->g x σ H λσ2 H2=>tb { D with nx:=Pv (i+1),ct:=Pv (i+1),bk:=D.nx } σ2 H2) (hd:∀σ H,Pv xs.length σ H->D.nx σ H) :
  ∃W:Nat->Nat->St->Hp->Prop,(∃m,W 0 m σ H)/\∀i m σ H,W i m σ H ->
   ((Itl K a).stop i H/\D.nx σ H)\/((Itl K a).go i H/\∃N:St->Hp->Prop,(∀σ' H',N σ' H'->∃m',m'<m/\W (i+1) m' σ' H')/\∀x H',(Itl K a).yld i H x H'->g x σ H' λσ2 H2=>tb { D with nx:=N,ct:=N,bk:=D.nx } σ2 H2):=by
 refine#[λi m σ H=>m=xs.length - i/\i<=xs.length/\Pv i σ H,#[xs.length,by simp,ay _,h0],?_];rintro i m σ H ⟨rfl,hi,p⟩;have q:=hl i σ H hi p;by_cases hlt:i<xs.length
 ·refine .inr #[#[xs,xs[i],q,by simp [hlt]],Pv (i+1),λσ' H' p'=>#[xs.length - (i+1),⋯,rfl,hlt,p'],λx H' y=>?_];obtain⟨e,y⟩:=y;subst e;exact hs i x σ _ (y xs q) p
 ·have e:i=xs.length:=⋯;subst e;exact .inl #[#[xs,q,al _],hd σ H p]
theorem WI{lo:Int}{n:Nat}{g:TG}{tb:TS}{D:wU}{σ:St}{H:Hp}(Pv:Nat->St->Hp->Prop)(h0:Pv 0 σ H)
  (hs:∀i σ H,i<n->Pv i σ H->g (.int (lo+i)) σ H λσ2 H2=>tb { D with nx:=Pv (i+1),ct:=Pv (i+1),bk:=D.nx } σ2 H2) (hd:∀σ H,Pv n σ H->D.nx σ H) :
  ∃W:Nat->Nat->St->Hp->Prop,(∃m,W 0 m σ H)/\∀i m σ H,W i m σ H ->
   ((Itr lo n).stop i H/\D.nx σ H)\/((Itr lo n).go i H/\∃N:St->Hp->Prop,(∀σ' H',N σ' H'->∃m',m'<m/\W (i+1) m' σ' H')/\∀x H',(Itr lo n).yld i H x H'->g x σ H' λσ2 H2=>tb { D with nx:=N,ct:=N,bk:=D.nx } σ2 H2):=by
 refine#[λi m σ H=>m=n - i/\i<=n/\Pv i σ H,#[n,by simp,ay _,h0],?_];rintro i m σ H ⟨rfl,hi,p⟩;by_cases hlt:i<n
 ·refine .inr #[hlt,Pv (i+1),λσ' H' p'=>#[n - (i+1),⋯,rfl,hlt,p'],λx H' y=>?_];obtain⟨e,y⟩:=y;subst e y;exact hs i σ _ hlt p
 ·have e:i=n:=⋯;subst e;exact .inl #[al _,hd σ H p]
noncomputable abbrev R2:=V->V->Hp->VK->Prop
def OpR(X:Cx)(f:nX->nX->rz nX)(r:R2):Prop :=
 ∀(rN:List (nW × oF)) (s:nY) (σ:St) (H:Hp) (x y:V) (v u:nX) (Q:VK),Inv X rN σ H s->RelV x v->RelV y u->r x y H Q ->
  oa (model X.prog X.w) X.A (f v u) (EP X rN σ Q) X.xe s
def UnR(X:Cx)(f:nX->rz nX)(r:V->Hp->VK->Prop):Prop :=
 ∀(rN:List (nW × oF)) (s:nY) (σ:St) (H:Hp) (x:V) (v:nX) (Q:VK),Inv X rN σ H s->RelV x v->r x H Q ->
  oa (model X.prog X.w) X.A (f v) (EP X rN σ Q) X.xe s
def wq(X:Cx)(f:nX)(r:List V->Hp->VK->Prop):Prop :=
 ∀(rN:List (nW × oF)) (s:nY) (σ:St) (H:Hp) (xs:List V) (us:List nX) (Q:VK),Inv X rN σ H s->Vals xs us->r xs H Q ->
  oa (model X.prog X.w) X.A (call f us) (EP X rN σ Q) X.xe s
def zd1(X:Cx)(r:V->Hp->(Bool->Hp->Prop)->Prop):Prop :=
 ∀(rN:List (nW × oF)) (s:nY) (σ:St) (H:Hp) (x:V) (v:nX) (Q:Bool->Hp->Prop),Inv X rN σ H s->RelV x v->r x H Q ->
  oa (model X.prog X.w) X.A (truthy v) (TP X rN σ Q) X.xe s
def tOp(r:R2)(ta tb:TE):TE:=λσ H Q=>ta σ H λx H1=>tb σ H1 λy H2=>r x y H2 Q
def tUn(r:V->Hp->VK->Prop)(ta:TE):TE:=λσ H Q=>ta σ H λx H1=>r x H1 Q
def rI(C:Int->Int->Prop)(g:Int->Int->V):R2:=λx y H Q=>onInt x λi=>onInt y λj=>C i j/\Q (g i j) H
def rI0(g:Int->Int->V):R2:=λx y H Q=>onInt x λi=>onInt y λj=>Q (g i j) H
def rU(g:Int->V):V->Hp->VK->Prop:=λx H Q=>onInt x λi=>Q (g i) H
section
variable{X:Cx}{a b c:ol}{ta tb tc:TE}{pos:oU}
theorem zdg(ha:PE X a ta)(hb:PE X b tb){rN:List (nW × oF)}{s:nY}{σ:St}{H:Hp}{R:V->V->Hp->Prop}(I:Inv X rN σ H s)
  (h:ta σ H λx H1=>tb σ H1 λy H2=>R x y H2) {Q:nX->nY->Prop} {f:nX->nX->rz nX}
  (hf:∀v u s2 x y H2,Inv X rN σ H2 s2->RelV x v->RelV y u->R x y H2->oa (model X.prog X.w) X.A (f v u) Q X.xe s2) :
  oa (model X.prog X.w) X.A (eval a X.env) (λv s₁=>oa (model X.prog X.w) X.A (eval b X.env) (λu s₂=>oa (model X.prog X.w) X.A (f v u) Q X.xe s₂) X.xe s₁) X.xe s:=by
 refine thn (ha rN s σ H _ I h) λv s1 ⟨x,H1,I1,r1,q1⟩=>?_;refine thn (hb rN s1 σ H1 _ I1 q1) λu s2 ⟨y,H2,I2,r2,q2⟩=>?_;exact hf v u s2 x y H2 I2 r1 r2 q2
theorem zC{op:Operator}{r:R2}(ho:OpR X (binaryOp op) r)(ha:PE X a ta)(hb:PE X b tb):PE X (.BinOp a op b pos) (tOp r ta tb):=by
 intro rN s σ H Q I h;exact wpAny_BinOp (zdg ha hb I h λv u s2 x y H2 I2 rx ry q=>ho rN s2 σ H2 x y v u Q I2 rx ry q)
theorem zc7{op:UnaryOp}{r:V->Hp->VK->Prop}(ho:UnR X (unaryOp op) r)(ha:PE X a ta):PE X (.UnaryOp op a pos) (tUn r ta):=by
 intro rN s σ H Q I h;exact UnaryOp_ (thn (ha rN s σ H _ I h) λv s1 ⟨x,H1,I1,r1,q1⟩=>ho rN s1 σ H1 x v Q I1 r1 q1)
theorem opI{f:nX->nX->rz nX}{C:Int->Int->Prop}{g:Int->Int->Int}
  (rule:∀(i j:Int) (t u:rh) (s:nY) (Q:nX->nY->Prop) (E:nX->nY->Prop),C i j->Q (.int (g i j) s.toks) { s with toks:=s.toks+1 }->oa (model X.prog X.w) X.A (f (.int i t) (.int j u)) Q E s) :
  OpR X f (rI C λi j=>.int (g i j)):=by
 intro rN s σ H x y v u Q I rx ry h;obtain⟨i,rfl,h2⟩:=onInt.of h;obtain⟨j,rfl,hc,q⟩:=onInt.of h2;obtain⟨t,rfl⟩:=rx;obtain⟨t',rfl⟩:=ry;exact rule i j t t' s _ _ hc #[.int (g i j),H,I.tok _,#[_,rfl],q]
theorem zdK{f:nX->nX->rz nX}{g:Int->Int->Int}
  (rule:∀(i j:Int) (t u:rh) (s:nY) (Q:nX->nY->Prop) (E:nX->nY->Prop),Q (.int (g i j) s.toks) { s with toks:=s.toks+1 }->oa (model X.prog X.w) X.A (f (.int i t) (.int j u)) Q E s) :
  OpR X f (rI0 λi j=>.int (g i j)):=by
 intro rN s σ H x y v u Q I rx ry h;obtain⟨i,rfl,h2⟩:=onInt.of h;obtain⟨j,rfl,q⟩:=onInt.of h2;obtain⟨t,rfl⟩:=rx;obtain⟨t',rfl⟩:=ry;exact rule i j t t' s _ _ #[.int (g i j),H,I.tok _,#[_,rfl],q]
theorem zb7{f:nX->nX->rz nX}{g:Int->Int->Bool}
  (rule:∀(i j:Int) (t u:rh) (s:nY) (Q:nX->nY->Prop) (E:nX->nY->Prop),Q (.bool (g i j)) s->oa (model X.prog X.w) X.A (f (.int i t) (.int j u)) Q E s) :
  OpR X f (rI0 λi j=>.bl (g i j)):=by
 intro rN s σ H x y v u Q I rx ry h;obtain⟨i,rfl,h2⟩:=onInt.of h;obtain⟨j,rfl,q⟩:=onInt.of h2;obtain⟨t,rfl⟩:=rx;obtain⟨t',rfl⟩:=ry;exact rule i j t t' s _ _ #[.bl (g i j),H,I,rfl,q]
def zd3(i j:Int):Prop:=0<j/\j<1073741824
def CMul(i j:Int):Prop:=(-(2 ^ 64)<i/\i<2 ^ 64)\/(-(2 ^ 64)<j/\j<2 ^ 64)
theorem CMul.ok{i j:Int}(h:CMul i j):IntMulOk i j:=by
 rcases h with ⟨h1,h2⟩ | ⟨h1,h2⟩
 ·exact .of_left (intBits_le_64 h1 h2)
 ·exact .of_right (intBits_le_64 h1 h2)
theorem z6:OpR X (binaryOp .Add) (rI0 λi j=>.int (i+j)):=zdK λ_ _ _ _ _ _ _ q=>add_int q
theorem xN:OpR X (binaryOp .Sub) (rI0 λi j=>.int (i - j)):=zdK λ_ _ _ _ _ _ _ q=>sub_int q
theorem kM:OpR X (binaryOp .Mult) (rI CMul λi j=>.int (i * j)):=opI λ_ _ _ _ _ _ _ hc q=>mul_int q hc.ok
theorem wS:OpR X (binaryOp .FloorDiv) (rI zd3 λi j=>.int (i / j)):=opI λi j _ _ _ _ _ hc q=>by
 have h1:(0:Int)<j:=hc.1;have h2:j<1073741824:=hc.2;exact floordiv_int ⋯ (by rw[Int.fdiv_eq_ediv_of_nonneg i ⋯];exact q) (.inl (PyProof.noPylong_small ⋯))
theorem xF:OpR X (binaryOp .Mod) (rI (λ_ j=>0<j) λi j=>.int (i % j)):=opI λi j _ _ _ _ _ hc q=>by
 have h1:(0:Int)<j:=hc;exact mod_int' ⋯ (by rw[Int.fmod_eq_emod_of_nonneg i ⋯];exact q)
theorem unI{f:nX->rz nX}{g:Int->Int}
  (rule:∀(i:Int) (t:rh) (s:nY) (Q:nX->nY->Prop) (E:nX->nY->Prop),Q (.int (g i) s.toks) { s with toks:=s.toks+1 }->oa (model X.prog X.w) X.A (f (.int i t)) Q E s) :
  UnR X f (rU λi=>.int (g i)):=by
 intro rN s σ H x v Q I rx h;obtain⟨i,rfl,q⟩:=onInt.of h;obtain⟨t,rfl⟩:=rx;exact rule i t s _ _ #[.int (g i),H,I.tok _,#[_,rfl],q]
theorem zbG:UnR X (unaryOp .USub) (rU λi=>.int (-i)):=unI λ_ _ _ _ _ q=>neg_int q
end
noncomputable def X8:V->V->Bool
 | .non,.non=>rL | .non,.int _=>rL | .int _,.non=>rL | .non,.bl _=>rL | .bl _,.non=>rL | .non,.str _=>rL | .str _,.non=>rL
 | .int _,.int _=>rL | .bl _,.bl _=>rL | .str _,.str _=>rL | .byt _,.byt _=>rL
 | .int _,.str _=>rL | .str _,.int _=>rL | .bl _,.str _=>rL | .str _,.bl _=>rL
 | _,_=>rM
def rEq:R2:=λx y H Q=>match x,y with | .int a,.int b=>Q (.bl (decide (a=b))) H | .str a,.str b=>Q (.bl (decide (a=b))) H | x,y=>X8 x y=rL/\Q (.bl (decide (x=y))) H
theorem rEq_is{x y:V}{H:Hp}{Q:VK}:rEq x y H Q=(X8 x y=rL/\Q (.bl (decide (x=y))) H):=by
 unfold rEq;split <;> simp [X8]
def rNe:R2:=λx y H Q=>match x,y with | .int a,.int b=>Q (.bl (!decide (a=b))) H | .str a,.str b=>Q (.bl (!decide (a=b))) H | x,y=>X8 x y=rL/\Q (.bl (!decide (x=y))) H
theorem rNe_is{x y:V}{H:Hp}{Q:VK}:rNe x y H Q=(X8 x y=rL/\Q (.bl (!decide (x=y))) H):=by
 unfold rNe;split <;> simp [X8]
theorem Vx{i j:Int}:decide (V.int i=V.int j)=(i == j):=by
 rw[cY];simp
theorem QI{i j:Bool}:decide (V.bl i=V.bl j)=(i == j):=by
 rw[cY];simp
theorem V5{i j:og}:decide (V.str i=V.str j)=(i == j):=by
 rw[cY];simp
theorem VO{i j:Array UInt8}:decide (V.byt i=V.byt j)=(i.toList == j.toList):=by
 rw[cY];cases i;cases j;simp
section
variable{X:Cx}{a b c:ol}{ta tb tc:TE}{pos:oU}
theorem zS{rN:List (nW × oF)}{σ:St}{H:Hp}{s:nY}{Q:VK}{k k':Bool}(I:Inv X rN σ H s)(q:Q (.bl k) H)(e:k=k'):EP X rN σ Q (.bool k') s:=by
 subst e;exact#[.bl k,H,I,rfl,q]
theorem qA:OpR X (ou .Eq) rEq:=by
 intro rN s σ H x y v u Q I rx ry h;obtain⟨hs,q⟩:=rEq_is.mp h
 cases x with
 | non =>
  cases rx
  cases y with
  | non=>cases ry;exact PySem.EqNone.eq_none_none (zS I q (by simp))
  | bl j=>cases ry;exact PySem.EqNone.eq_none_bool (zS I q (by simp))
  | int j=>obtain⟨t',rfl⟩:=ry;exact PySem.EqNone.eq_none_int (zS I q (by simp))
  | str j=>obtain⟨t',rfl⟩:=ry;exact PySem.EqNone.eq_none_str (zS I q (by simp))
  | _=>exact absurd (show rM=rL from hs) aA
 | bl i =>
  cases rx
  cases y with
  | non=>cases ry;exact PySem.EqNone.eq_bool_none (zS I q (by simp))
  | bl j=>cases ry;exact eq_bool (zS I q QI)
  | str j=>obtain⟨t',rfl⟩:=ry;exact PySem.EqMixed.eq_bool_str (zS I q (by simp))
  | _=>exact absurd (show rM=rL from hs) aA
 | int i =>
  obtain⟨t,rfl⟩:=rx
  cases y with
  | non=>cases ry;exact PySem.EqNone.eq_int_none (zS I q (by simp))
  | int j=>obtain⟨t',rfl⟩:=ry;exact eq_int (zS I q Vx)
  | str j=>obtain⟨t',rfl⟩:=ry;exact PySem.EqMixed.eq_int_str (zS I q (by simp))
  | _=>exact absurd (show rM=rL from hs) aA
 | str i =>
  obtain⟨t,rfl⟩:=rx
  cases y with
  | non=>cases ry;exact PySem.EqNone.eq_str_none (zS I q (by simp))
  | bl j=>cases ry;exact PySem.EqMixed.eq_str_bool (zS I q (by simp))
  | int j=>obtain⟨t',rfl⟩:=ry;exact PySem.EqMixed.eq_str_int (zS I q (by simp))
  | str j=>obtain⟨t',rfl⟩:=ry;exact eq_str (zS I q V5)
  | _=>exact absurd (show rM=rL from hs) aA
 | byt i =>
  obtain⟨t,rfl⟩:=rx
  cases y with
  | byt j=>obtain⟨t',rfl⟩:=ry;exact PySem.W.eq_bytes (zS I q VO)
  | _=>exact absurd (show rM=rL from hs) aA
 | _=>cases y <;> exact absurd (show rM=rL from hs) aA
theorem kK:OpR X (ou .NotEq) rNe:=by
 intro rN s σ H x y v u Q I rx ry h;obtain⟨hs,q⟩:=rNe_is.mp h
 cases x with
 | non =>
  cases rx
  cases y with
  | non=>cases ry;exact PySem.EqNone.ne_none_none (zS I q (by simp))
  | bl j=>cases ry;exact PySem.EqNone.ne_none_bool (zS I q (by simp))
  | int j=>obtain⟨t',rfl⟩:=ry;exact PySem.EqNone.ne_none_int (zS I q (by simp))
  | str j=>obtain⟨t',rfl⟩:=ry;exact PySem.EqNone.ne_none_str (zS I q (by simp))
  | _=>exact absurd (show rM=rL from hs) aA
 | bl i =>
  cases rx
  cases y with
  | non=>cases ry;exact PySem.EqNone.ne_bool_none (zS I q (by simp))
  | bl j=>cases ry;exact ne_bool (zS I q (congrArg not QI))
  | str j=>obtain⟨t',rfl⟩:=ry;exact PySem.EqMixed.ne_bool_str (zS I q (by simp))
  | _=>exact absurd (show rM=rL from hs) aA
 | int i =>
  obtain⟨t,rfl⟩:=rx
  cases y with
  | non=>cases ry;exact PySem.EqNone.ne_int_none (zS I q (by simp))
  | int j=>obtain⟨t',rfl⟩:=ry;exact ne_int (zS I q (congrArg not Vx))
  | str j=>obtain⟨t',rfl⟩:=ry;exact PySem.EqMixed.ne_int_str (zS I q (by simp))
  | _=>exact absurd (show rM=rL from hs) aA
 | str i =>
  obtain⟨t,rfl⟩:=rx
  cases y with
  | non=>cases ry;exact PySem.EqNone.ne_str_none (zS I q (by simp))
  | bl j=>cases ry;exact PySem.EqMixed.ne_str_bool (zS I q (by simp))
  | int j=>obtain⟨t',rfl⟩:=ry;exact PySem.EqMixed.ne_str_int (zS I q (by simp))
  | str j=>obtain⟨t',rfl⟩:=ry;exact ne_str (zS I q (congrArg not V5))
  | _=>exact absurd (show rM=rL from hs) aA
 | byt i =>
  obtain⟨t,rfl⟩:=rx
  cases y with
  | byt j=>obtain⟨t',rfl⟩:=ry;exact PySem.W.ne_bytes (zS I q (congrArg not VO))
  | _=>exact absurd (show rM=rL from hs) aA
 | _=>cases y <;> exact absurd (show rM=rL from hs) aA
theorem UU:OpR X (ou .Lt) (rI0 λi j=>.bl (decide (i<j))):=zb7 λ_ _ _ _ _ _ _ q=>lt_int q
theorem zcf:OpR X (ou .LtE) (rI0 λi j=>.bl (decide (i<=j))):=zb7 λ_ _ _ _ _ _ _ q=>le_int q
theorem Y7:OpR X (ou .Gt) (rI0 λi j=>.bl (decide (j<i))):=zb7 λ_ _ _ _ _ _ _ q=>gt_int q
theorem zcY:OpR X (ou .GtE) (rI0 λi j=>.bl (decide (j<=i))):=zb7 λ_ _ _ _ _ _ _ q=>ge_int q
theorem zbF:OpR X (ou .Is) (λx y H Q=>y=.non/\Q (.bl (decide (x=.non))) H):=by
 intro rN s σ H x y v u Q I rx ry h;obtain⟨rfl,q⟩:=h;cases ry;refine is_none_gen (zS I q ?_)
 cases x <;> first
  | (cases rx;rfl)
  | (obtain⟨t,rfl⟩:=rx;rfl)
theorem Ko:OpR X (ou .IsNot) (λx y H Q=>y=.non/\Q (.bl (!decide (x=.non))) H):=by
 intro rN s σ H x y v u Q I rx ry h;obtain⟨rfl,q⟩:=h;cases ry;refine isnot_none_gen (zS I q ?_)
 cases x <;> first
  | (cases rx;rfl)
  | (obtain⟨t,rfl⟩:=rx;rfl)
theorem zI(b:ol){op:pC}(h:op≠.In:=by decide)(h2:op≠.NotIn:=by decide):behindInMarks op b=rM:=by
 have e1:(op == CmpOp.In)=rM:=by cases op <;> first | rfl | exact absurd rfl h
 have e2:(op == CmpOp.NotIn)=rM:=by cases op <;> first | rfl | exact absurd rfl h2
 cases b <;> simp [behindInMarks,e1,e2]
theorem wu{op:pC}{r:R2}(ho:OpR X (ou op) r)(ha:PE X a ta)(hb:PE X b tb)(hm:behindInMarks op b=rM):PE X (.Compare a [op] [b] pos) (tOp r ta tb):=by
 intro rN s σ H Q I h;exact wpAny_Compare1 (zdg ha hb I h λv u s2 x y H2 I2 rx ry q=>ho rN s2 σ H2 x y v u Q I2 rx ry q) hm
def Xf(t:TE):TT:=λσ H Q=>t σ H λx H'=>onBl x λk=>Q k H'
theorem zG{op:pC}{r:R2}(ho:OpR X (ou op) r)(ha:PE X a ta)(hb:PE X b tb)(hm:behindInMarks op b=rM):PT X (.Compare a [op] [b] pos) (Xf (tOp r ta tb)):=by
 intro rN s σ H Q I h
 refine wpAny_isTrue_Compare1 (thn (ha rN s σ H _ I h) λv s1 ⟨x,H1,I1,r1,q1⟩=>thn (hb rN s1 σ H1 _ I1 q1) λu s2 ⟨y,H2,I2,r2,q2⟩ =>
  thn (ho rN s2 σ H2 x y v u _ I2 r1 r2 q2) λc s3 ⟨z,H3,I3,r3,q3⟩=>?_) hm
 obtain⟨k,rfl,q3⟩:=onBl.of q3;cases r3;exact oy #[H3,I3,q3]
def kr(r r':R2)(ta tb tc:TE):TE:=λσ H Q=>ta σ H λx H1=>tb σ H1 λy H2=>r x y H2 λz H3=>onBl z λk =>
 (if k=rL then tc σ H3 λw' H4=>r' y w' H4 Q else Q (.bl rM) H3)
theorem UF{op op':pC}{r r':R2}(ho:OpR X (ou op) r)(ho':OpR X (ou op') r')(ha:PE X a ta)(hb:PE X b tb)(hc:PE X c tc)
  (hm:lastMarks [op,op'] [b,c]=rM:=by with_unfolding_all rfl):PE X (.Compare a [op,op'] [b,c] pos) (kr r r' ta tb tc):=by
 intro rN s σ H Q I h
 refine Compare_chain (thn (ha rN s σ H _ I h) λv s1 ⟨x,H1,I1,r1,q1⟩=>chain_link (thn (hb rN s1 σ H1 _ I1 q1) λu s2 ⟨y,H2,I2,r2,q2⟩ =>
  thn (ho rN s2 σ H2 x y v u _ I2 r1 r2 q2) λd s3 ⟨z,H3,I3,r3,q3⟩=>?_)) hm
 obtain⟨k,rfl,q3⟩:=onBl.of q3;cases r3;refine oy ?_
 cases k with
 | false=>exact ite_ff #[.bl rM,H3,I3,rfl,q3]
 | true=>exact ite_tt (chain_last (thn (hc rN s3 σ H3 _ I3 q3) λw' s4 ⟨z',H4,I4,r4,q4⟩=>ho' rN s4 σ H4 y z' u w' Q I4 r2 r4 q4))
theorem YL{op op':pC}{r r':R2}(ho:OpR X (ou op) r)(ho':OpR X (ou op') r')(ha:PE X a ta)(hb:PE X b tb)(hc:PE X c tc)
  (hm:lastMarks [op,op'] [b,c]=rM:=by with_unfolding_all rfl):PT X (.Compare a [op,op'] [b,c] pos) (Xf (kr r r' ta tb tc)):=by
 intro rN s σ H Q I h
 refine isTrue_chain (thn (ha rN s σ H _ I h) λv s1 ⟨x,H1,I1,r1,q1⟩=>test_link (thn (hb rN s1 σ H1 _ I1 q1) λu s2 ⟨y,H2,I2,r2,q2⟩ =>
  thn (ho rN s2 σ H2 x y v u _ I2 r1 r2 q2) λd s3 ⟨z,H3,I3,r3,q3⟩=>?_)) hm
 obtain⟨k,rfl,q3⟩:=onBl.of q3;cases r3;refine oy ?_
 cases k with
 | false =>
  exact ite_ff #[H3,I3,q3]
 | true =>
  refine ite_tt (test_last (thn (hc rN s3 σ H3 _ I3 q3) λw' s4 ⟨z',H4,I4,r4,q4⟩=>thn (ho' rN s4 σ H4 y z' u w' _ I4 r2 r4 q4) λd' s5 ⟨z2,H5,I5,r5,q5⟩=>?_));obtain⟨k2,rfl,q5⟩:=onBl.of q5;cases r5;exact oy #[H5,I5,q5]
def zaw(K:nV)(x:V)(H:Hp)(k:Bool):Prop :=
 match x with
 | .non=>k=rM
 | .bl b=>k=b
 | .int i=>k=(i != 0)
 | .str y=>y.length<=nU/\k=((y.length:Int) != 0)
 | .byt y=>y.size<=nU/\k=((y.size:Int) != 0)
 | .ref p=>(∃xs,SqL K H p xs/\k=!xs.isEmpty)\/(∃xs,SqT K H p xs/\k=!xs.isEmpty)\/∃kvs,H p=rJ (.dK kvs)/\k=!kvs.isEmpty
 | _=>False
theorem Xp{κ:Type}{kvs:List (κ × V)}{vs:List (κ × nX)}(r:KV kvs vs):(!vs.isEmpty)=!kvs.isEmpty:=by
 cases r <;> rfl
theorem qM{xs:List V}{its:List nX}(r:Vals xs its):(!its.toArray.isEmpty)=!xs.isEmpty:=by
 cases r <;> simp
theorem Zi:(nU:Nat)<2 ^ 63:=by rw[oq];decide
theorem QM:zd1 X (λx H Q=>∃k,zaw X.K x H k/\Q k H):=by
 intro rN s σ H x v Q I rx h;obtain⟨k,e,q⟩:=h;have hl:=Zi;have hs:nU=16777216:=oq
 cases x with
 | non =>
  cases rx;have e':k=rM:=e;subst e';exact truthy_none #[H,I,q]
 | bl b =>
  cases rx;have e':k=b:=e;subst e';exact oy #[H,I,q]
 | int i =>
  obtain⟨t,rfl⟩:=rx;have e':k=(i != 0):=e;subst e';exact PySem.P.truthy_int #[H,I,q]
 | str y =>
  obtain⟨t,rfl⟩:=rx;obtain⟨hy,e'⟩:y.length<=nU/\k=((y.length:Int) != 0):=e;subst e';exact PySem.P.truthy_str ⋯ #[H,I.tok _,q]
 | byt y =>
  obtain⟨t,rfl⟩:=rx;obtain⟨hy,e'⟩:y.size<=nU/\k=((y.size:Int) != 0):=e;subst e';exact PySem.W.truthy_bytes ⋯ #[H,I.tok _,q]
 | ref p =>
  cases rx;have e':(∃xs,SqL X.K H p xs/\k=!xs.isEmpty)\/(∃xs,SqT X.K H p xs/\k=!xs.isEmpty)\/∃kvs,H p=rJ (.dK kvs)/\k=!kvs.isEmpty:=e;rcases e' with ⟨xs,hx,e'⟩ | ⟨xs,hx,e'⟩ | ⟨kvs,hx,e'⟩
  ·subst e';obtain⟨its,r,pl,hz⟩:=I.list hx;have hlen:=r.length;exact wpAny_truthy_list pl.isList (by erw[ah];lia) #[H,I.tok _,by rw[qM r];exact q]
  ·subst e';obtain⟨its,r,pl,hz⟩:=I.tuple hx;have hlen:=r.length;exact truthy_tuple pl (by erw[ah];lia) #[H,I.tok _,by rw[qM r];exact q]
  ·subst e';obtain⟨hz,hS,vs,r,m⟩:kvs.length<=nU/\(p == sysModules)=rM/\∃vs,KV kvs vs/\s.heap.DictOf (Zz X.prog X.w) p vs:=I.hok p _ hx;have hlen:kvs.length=vs.length:=Paired.length r;exact wpAny_truthy_dict hS m ⋯ #[H,I.tok _,by rw[Xp r];exact q]
 | _=>exact (show False from e).elim
theorem YY(ha:PE X a ta)(he:∀whole,isTrue a X.env whole=(do let v <- whole;standAt a.pos;holding [v] (truthy v))) :
  PT X a (λσ H Q=>ta σ H λx H'=>∃k,zaw X.K x H' k/\Q k H'):=by
 intro rN s σ H Q I h;exact isTrue_plain (thn (ha rN s σ H _ I h) λv s1 ⟨x,H1,I1,r1,q1⟩=>QM rN s1 σ H1 x v Q I1 r1 q1) (he _)
theorem zN:OpR X (binaryOp .Add) (λx y H Q=>∃i j,x=.str i/\y=.str j/\i.length+j.length<=nU/\Q (.str (i ++ j)) H):=by
 intro rN s σ H x y v u Q I rx ry h;obtain⟨i,j,rfl,rfl,hz,q⟩:=h;obtain⟨t,rfl⟩:=rx;obtain⟨t',rfl⟩:=ry;exact add_str (λt' tk=>#[.str (i ++ j),H,I.tok _,#[_,rfl],q]) hz
theorem xP{x:V}{us:List nX}(r:Vals [x] us):∃u,us=[u]/\RelV x u:=by
 cases r with
 | cons r1 r2=>cases r2;exact#[_,rfl,r1]
theorem Xv{x y:V}{us:List nX}(r:Vals [x,y] us):∃u w',us=[u,w']/\RelV x u/\RelV y w':=by
 cases r with
 | cons r1 r2 =>
  cases r2 with
  | cons r3 r4=>cases r4;exact#[_,_,rfl,r1,r3]
theorem WS(hc:X.calm=rL):wq X (.builtin "max") (λxs H Q=>∃i j,xs=[.int i,.int j]/\Q (.int (if j > i then j else i)) H):=by
 intro rN s σ H xs us Q I r h;obtain⟨i,j,rfl,q⟩:=h;obtain⟨u,w',rfl,⟨t,rfl⟩,⟨t',rfl⟩⟩:=Xv r;refine max_two_ints (I.ok.hd hc) λh' tk k=>#[_,H,I.kept k,?_,q];by_cases hj:j > i
 ·rw[if_pos hj,if_pos hj];exact#[_,rfl]
 ·rw[if_neg hj,if_neg hj];exact#[_,rfl]
theorem WE(hc:X.calm=rL):wq X (.builtin "min") (λxs H Q=>∃i j,xs=[.int i,.int j]/\Q (.int (if j<i then j else i)) H):=by
 intro rN s σ H xs us Q I r h;obtain⟨i,j,rfl,q⟩:=h;obtain⟨u,w',rfl,⟨t,rfl⟩,⟨t',rfl⟩⟩:=Xv r;refine min_two_ints (I.ok.hd hc) λh' tk k=>#[_,H,I.kept k,?_,q];by_cases hj:j<i
 ·rw[if_pos hj,if_pos hj];exact#[_,rfl]
 ·rw[if_neg hj,if_neg hj];exact#[_,rfl]
theorem Wy:wq X (.type "int") (λxs H Q=>(∃i,xs=[.int i]/\Q (.int i) H)\/∃k,xs=[.bl k]/\Q (.int (if k then 1 else 0)) H):=by
 intro rN s σ H xs us Q I r h;rcases h with ⟨i,rfl,q⟩ | ⟨k,rfl,q⟩
 ·obtain⟨u,rfl,t,rfl⟩:=xP r;exact call_int_int #[.int i,H,I,#[_,rfl],q]
 ·obtain⟨u,rfl,r1⟩:=xP r;cases r1;exact call_int_bool #[.int (if k then 1 else 0),H,I.tok _,#[_,rfl],q]
def zaI(K:nV)(x:V)(H:Hp)(n:Nat):Prop :=
 match x with
 | .str y=>y.length<=nU/\n=y.length
 | .byt y=>y.size<=nU/\n=y.size
 | .ref p=>(∃xs,SqL K H p xs/\n=xs.length)\/∃xs,SqT K H p xs/\n=xs.length
 | _=>False
theorem UA:wq X (.builtin "len") (λxs H Q=>∃x n,xs=[x]/\zaI X.K x H n/\Q (.int n) H):=by
 intro rN s σ H xs us Q I r h;obtain⟨x,n,rfl,e,q⟩:=h;obtain⟨u,rfl,rx⟩:=xP r;have hl:=Zi;have hs:nU=16777216:=oq
 cases x with
 | str y =>
  obtain⟨t,rfl⟩:=rx;obtain⟨hy,e'⟩:y.length<=nU/\n=y.length:=e;subst e';exact len_str ⋯ #[.int _,H,I.tok _,#[_,rfl],q]
 | byt y =>
  obtain⟨t,rfl⟩:=rx;obtain⟨hy,e'⟩:y.size<=nU/\n=y.size:=e;subst e';exact PySem.W.len_bytes ⋯ #[.int _,H,I.tok _,#[_,rfl],q]
 | ref p =>
  cases rx;have e':(∃xs,SqL X.K H p xs/\n=xs.length)\/∃xs,SqT X.K H p xs/\n=xs.length:=e;rcases e' with ⟨xs,hx,e'⟩ | ⟨xs,hx,e'⟩
  ·subst e';obtain⟨its,r',pl,hz⟩:=I.list hx;have hlen:=r'.length;exact Calls.call_len_list pl.isList (by erw[ah];lia) #[.int xs.length,H,I.tok _,#[_,by erw[ah];rw[hlen]],q]
  ·subst e';obtain⟨its,r',pl,hz⟩:=I.tuple hx;have hlen:=r'.length;exact len_tuple pl (by erw[ah];lia) #[.int xs.length,H,I.tok _,#[_,by erw[ah];rw[hlen]],q]
 | _=>exact (show False from e).elim
end
structure ObjM(h:oo)(x dx C:nW)(mA:og->Option nX):Prop where
 obj:h.get? x=rJ (bR C dx)
 ns:h.Ns1 dx mA
 ne:dx≠x
theorem Wi{h:oo}{dx:nW}{mA:og->Option nX}(n:h.Ns1 dx mA):∃od,h.get? dx=rJ od/\∀name,dP name od=rJ (mA name):=by
 obtain⟨o,es,ep,ho,hd,hk,_,hm⟩:=n;refine#[o,ho,λname=>?_];have e:=hm name;unfold nsFind findBy at e;rw[<- Array.find?_toList]at e;unfold dP;rw[hd];dsimp only;split
 ·rename_i y q;rw[q]at e;exact congrArg rJ e
 ·rename_i q;rw[q]at e
  have a:es.toList.any (·.refKey)=rM:=by
   rw[List.any_eq_false];intro y hy;obtain⟨z,t,hkey⟩:=hk y (Array.mem_toList_iff.mp hy);simp [DictEntry.refKey,hkey]
  have a':¬ es.toList.any (·.refKey)=rL:=by rw[a];exact aA
  rw[if_neg a'];exact congrArg rJ e
theorem ObjM.look{h:oo}{x dx C:nW}{mA:og->Option nX}(I:ObjM h x dx C mA):∃od,PySem.W.InstAt h x (bR C dx) C (rJ od)/\∀name,dP name od=rJ (mA name) :=
 let #[od,ho,hl]:=Wi I.ns
 #[od,#[I.obj,rfl,rfl,ho],hl]
section
variable{prog:nZ}{w:oh}{A:oj}{E:nX->nY->Prop}{s:nY}{K:nV}{x dx C f:nW}{mA:og->Option nX}{name:og}{v:nX}
theorem Kf{expr:Bool}{Q:nX->nY->Prop}(X:K.In s.heap)(I:ObjM s.heap x dx C mA)(hg:cb K C name=rL)(hh:cy K C=rL)
  (ha:ak K (.ref C) name=rJ rK) (hv:mA name=rJ v) (hv':fM v=rL) (h:Q v { s with toks:=s.toks+1 }) :
  oa (model prog w) A (getAttr (.ref x) name expr) Q E s:=by
 obtain⟨od,J,hl⟩:=I.look;exact PySem.W.get_value X J (dM hg).1 (PySem.W.findObj_own hh ha rfl (by rw[hl,hv])) hv' h
theorem Uk{pl:rz Bool}{Q:nX × List nX->nY->Prop}(X:K.In s.heap)(I:ObjM s.heap x dx C mA)(hg:cb K C name=rL)
  (hf:ak K (.ref C) name=rJ (rJ (.ref f))) (ht:bj K (.ref f)=rL) (hv:mA name=rK) (h:Q (.ref f,[.ref x]) s) :
  oa (model prog w) A (getMethod (.ref x) name pl) Q E s:=by
 obtain⟨od,J,hl⟩:=I.look;exact PySem.W.method_fn X J (dM hg).1 (dM hg).2 hf (beq_iff_eq.mp ht) (by show (dP name od).map (·.isSome)=rJ rM;rw[hl,hv];rfl) h
theorem Ju{ns:List og}{Q:Unit->nY->Prop}(X:K.In s.heap)(I:ObjM s.heap x dx C mA)
  (hs:ak K (.ref C) "__setattr__" = rJ (rJ (.builtin "object.__setattr__"))) (hp:cI K C=rL) (ht:eP K C name=rJ rK) (hh:cy K C=rL)
  (hw:PySem.Within mA ns) (hsz:ns.length<=nU)
  (h:∀h',ObjM h' x dx C (λy=>if y=name then rJ v else mA y)->Heap.SameBut dx s.heap h'->Q Unit.unit { s with heap:=h',toks:=s.toks+2 }) :
  oa (model prog w) A (setAttr (.ref x) name v) Q E s:=by
 obtain⟨od,J,hl⟩:=I.look;refine fJ X J hs (PySem.W.osa_open (s:={ s with toks:=s.toks+1 }) (r:=rK) X J hp ht λb=>?_);obtain⟨cd,hc,hd'⟩:=PySem.W.any_some hh;have hx:s.heap.get? x=rJ #[.ref C,rJ dx,.plain,#[]]:=I.obj;refine nP (nQ (nP (nP (pP hx (nP (PySem.W.Looks.here (s:={ s with toks:=s.toks+1 }) (PySem.W.looks_clsIn X hc) ?_))))));rw[hd'];refine nQ (a:=rJ dx) (nP (nQ (nP ?_)));refine wpAny_nsSet1 (s:={ s with toks:=s.toks+1 }) I.ns λh' hn2 hs2=>?_;obtain⟨oD,esD,epD,hoD,hdD,hcD⟩:=hn2.count (PySem.Within.cons name v hw);refine nP (rj hoD (by rw[hdD];exact pastItsLine_dict (aM hcD (by rw[aJ];lia))) ?_);exact nQ (h _ #[(hs2.2 _ (Ne.symm I.ne)).trans I.obj,hn2,I.ne] hs2)
theorem UE{R:pS->nY->Prop}{vs:List nX}{kw:List (og × nX)}(X:K.In s.heap)(hm:cZ K C=rL)
  (hi:ak K (.ref C) "__init__" = rJ (rJ (.ref f))) (hf:PySem.W.typeIn K (.ref f)=rJ (.type "function"))
  (h:oS (model prog w) (A.under (.builtin "type.__call__" #[.ref C::vs,kw])) (.call (.ref f) #[.ref (s⁻¹+1)::vs,kw]) (PySem.W.InitBack (s⁻¹+1) R)
   { s with heap:=(s.heap.push bz).push (bR C s⁻¹) }) :
  oS (model prog w) A (.call (.ref C) #[vs,kw]) R s:=by
 obtain⟨hh,g,d,t,os⟩:=s;exact PySem.W.make_core (PySem.W.makes_of X hm) (cz X hi) (λself=>fV X self hf) (.inl rfl) h
end
noncomputable def kd(f:og)(v:V):List (og × V)->List (og × V)
  | []=>[(f,v)]
  | (g,x)::r=>if g=f then (g,v)::r else (g,x)::kd f v r
theorem uR(f g:og)(v:V):∀fs:List (og × V),(kd f v fs).lookup g=if g=f then rJ v else fs.lookup g
  | []=>by
    show bi g [(f,v)]=_;by_cases h:g=f
    . have hb:(g == f)=rL:=beq_iff_eq.mpr h
      erw[bi,hb,if_pos h]
    . have hb:(g == f)=rM:=beq_eq_false_iff_ne.mpr h
      erw[bi,hb,if_neg h]
  | (k,x)::r=>by
    have ih:=uR f g v r;rw[show kd f v ((k,x)::r)=(if k=f then (k,v)::r else (k,x)::kd f v r)from rfl];by_cases hk:k=f
    . rw[if_pos hk]
      by_cases h:g=k
      . have hb:(g == k)=rL:=beq_iff_eq.mpr h
        erw[bi,hb,if_pos (h.trans hk)]
      . have hb:(g == k)=rM:=beq_eq_false_iff_ne.mpr h
        erw[bi,hb,if_neg (λe:g=f=>h (e.trans hk.symm))]
    . rw[if_neg hk]
      by_cases h:g=k
      . have hb:(g == k)=rL:=beq_iff_eq.mpr h
        erw[bi,hb,if_neg (λe:g=f=>hk (h.symm.trans e))]
      . have hb:(g == k)=rM:=beq_eq_false_iff_ne.mpr h
        erw[bi,hb]
        exact ih
theorem uI(f:og)(v:V):∀fs:List (og × V),f ∈ (kd f v fs).map (·.1)/\∀g,g ∈ fs.map (·.1)->g ∈ (kd f v fs).map (·.1)
  | []=>#[by simp [kd],λg h=>by simp at h]
  | (k,x)::r=>by
    obtain⟨i1,i2⟩:=uI f v r;rw[show kd f v ((k,x)::r)=(if k=f then (k,v)::r else (k,x)::kd f v r)from rfl];by_cases hk:k=f
    . rw[if_pos hk]
      subst hk;exact#[by simp,λg h=>by simpa using h]
    . rw[if_neg hk]
      refine#[?_,λg h=>?_]
      . rw[am]
        exact aq _ i1
      . rw[am]at h ⊢
        rcases rS.mp h with e | e
        . exact rS.mpr (.inl e)
        . exact aq _ (i2 g e)
theorem qb(f:og)(v:V):∀fs:List (og × V),(kd f v fs).length<=fs.length+1
  | []=>by simp [kd]
  | (k,x)::r=>by
    have ih:=qb f v r;rw[show kd f v ((k,x)::r)=(if k=f then (k,v)::r else (k,x)::kd f v r)from rfl];by_cases hk:k=f
    . rw[if_pos hk,aJ,aJ];lia
    . rw[if_neg hk,aJ,aJ];lia
theorem RelO.some_of{v:V}{o:Option nX}(r:RelO (rJ v) o):∃u,o=rJ u/\RelV v u:=by
 cases o with
 | none=>exact (show False from r).elim
 | some u=>exact#[u,rfl,r]
theorem RelO.none_of{o:Option nX}(r:RelO rK o):o=rK:=by
 cases o with
 | none=>rfl
 | some u=>exact (show False from r).elim
theorem Wt{v:V}{u:nX}(r:RelV v u):fM u=rL:=by
 cases v with
 | non=>cases (show u=Value.none from r);rfl
 | bl b=>cases (show u=Value.bool b from r);rfl
 | int i=>obtain⟨t,e⟩:=(show ∃t,u=Value.int i t from r);cases e;rfl
 | str x=>obtain⟨t,e⟩:=(show ∃t,u=Value.str x t from r);cases e;rfl
 | byt b=>obtain⟨t,e⟩:=(show ∃t,u=Value.bytes b t from r);cases e;rfl
 | flt b=>obtain⟨t,e⟩:=(show ∃t,u=Value.float b t from r);cases e;rfl
 | ref a=>cases (show u=Value.ref a from r);rfl
 | ty n=>cases (show u=Value.type n from r);rfl
section
variable{P:nZ}{w:oh}{H H':Hp}{h h':oo}{a C dx:nW}{fs fs':List (og × V)}
theorem j9(hok:HOk P w H h)(e:H a=rJ (.ins C dx fs)):∃mA,ObjM h a dx C mA/\(∀f,RelO (fs.lookup f) (mA f))/\PySem.Within mA (fs.map (·.1))/\fs.length<=1000/\H dx=rJ (.own a):=by
 obtain⟨d,z,ne,ob,mA,n,r,q⟩:=(show ObjOk P w H h a (.ins C dx fs)from hok a _ e);exact#[mA,#[ob,n,ne],r,q,z,d]
end
structure Cls(K:nV)(C:nW):Prop where
 pg:cb K C fv=rL
 hd:cy K C=rL
 po:cI K C=rL
 sa:ak K (.ref C) "__setattr__" = rJ (rJ (.builtin "object.__setattr__"))
theorem Cls.get{K:nV}{C:nW}(c:Cls K C)(f:og):cb K C f=rL:=c.pg
def NoAttr(K:nV)(C:nW)(f:og):Prop:=ak K (.ref C) f=rJ rK
theorem NoAttr.taker{K:nV}{C:nW}{f:og}(n:NoAttr K C f):eP K C f=rJ rK:=by
 unfold eP;rw[show ak K (.ref C) f=rJ rK from n];rfl
structure zat(K:nV)(C:nW)(m:og)(f:nW):Prop where
 at_:ak K (.ref C) m=rJ (rJ (.ref f))
 fn:bj K (.ref f)=rL
 kp:aK K (.ref f)=rL
section
variable{X:Cx}{rN:List (nW × oF)}{σ:St}{H:Hp}{s:nY}{a C dx:nW}{fs:List (og × V)}{f:og}{v:V}{A:oj}{E:nX->nY->Prop}
theorem XD{b:Bool}{Q:nX->nY->Prop}(I:Inv X rN σ H s)(e:H a=rJ (.ins C dx fs))(c:Cls X.K C)(n:NoAttr X.K C f)(l:fs.lookup f=rJ v)
  (h:∀u s',Inv X rN σ H s'->RelV v u->Q u s'):oa (model X.prog X.w) A (getAttr (.ref a) f b) Q E s:=by
 obtain⟨mA,O,r,_,_,_⟩:=j9 I.hok e;obtain⟨u,hu,ru⟩:=RelO.some_of (v:=v) (o:=mA f) (by rw[<- l];exact r f);exact Kf I.kIn O (c.get f) c.hd n hu (Wt ru) (h u _ (I.tok _) ru)
theorem xE{m:og}{g:nW}{pl:rz Bool}{Q:nX × List nX->nY->Prop}(I:Inv X rN σ H s)(e:H a=rJ (.ins C dx fs))(c:Cls X.K C)(k:zat X.K C m g)(l:fs.lookup m=rK)
  (h:Q (.ref g,[.ref a]) s):oa (model X.prog X.w) A (getMethod (.ref a) m pl) Q E s:=by
 obtain⟨mA,O,r,_,_,_⟩:=j9 I.hok e;have hn:mA m=rK:=RelO.none_of (by rw[<- l];exact r m);exact Uk I.kIn O (c.get m) k.at_ k.fn hn h
theorem Xx{y:V}{u:nX}{Q:Unit->nY->Prop}(I:Inv X rN σ H s)(e:H a=rJ (.ins C dx fs))(c:Cls X.K C)(n:NoAttr X.K C f)(hl:fs.length<1000)(ry:RelV y u)
  (h:∀s',Inv X rN σ (upd H a (.ins C dx (kd f y fs))) s'->Q Unit.unit s'):oa (model X.prog X.w) A (setAttr (.ref a) f u) Q E s:=by
 obtain⟨mA,O,r,wi,_,ho⟩:=j9 I.hok e;have hz:(fs.map (·.1)).length<=nU:=by rw[ac,oq];lia
 refine Ju I.kIn O c.sa c.po n.taker c.hd wi hz λh' O' sb=>h _ ?_;have hd:∃o,h'.get? dx=rJ o:=let #[o,_,_,e',_]:=O'.ns; #[o,e'];refine I.write (x:=a) (e:=dx) (by rw[e];exact True.intro) (.inr ho) (λb q hb z=>(sb.2 b hb).trans z) hd ?_;refine#[by rw[zq O.ne];exact ho,?_,O.ne,O'.obj,_,O'.ns,λg=>?_,λg hg=>?_]
 ·have:=qb f y fs;lia
 ·show RelO ((kd f y fs).lookup g) (if g=f then rJ u else mA g);rw[uR];by_cases q:g=f
  ·rw[if_pos q,if_pos q];exact ry
  ·rw[if_neg q,if_neg q];exact r g
 ·by_cases q:g=f
  ·rw[q];exact (uI f y fs).1
  ·refine (uI f y fs).2 g (wi g λz=>hg ?_);show (if g=f then rJ u else mA g)=rK;rw[if_neg q];exact z
theorem Inv.made(I:Inv X rN σ H s):Inv X rN σ (upd (upd H s⁻¹ (.own (s⁻¹+1))) (s⁻¹+1) (.ins C s⁻¹ []))
  { s with heap:=(s.heap.push bz).push (bR C s⁻¹) }:=by
 have e1:(s.heap.push bz).get? s⁻¹=rJ bz:=aE s.heap rfl
 have e2:((s.heap.push bz).push (bR C s⁻¹)).get? (s⁻¹+1)=rJ (bR C s⁻¹):=by
  have:=aE (s.heap.push bz) (o:=bR C s⁻¹) rfl
  rwa [cL]at this
 have e3:(s.heap.push bz).Ns s⁻¹ (λ_=>rK):=#[bz,#[],_,e1,rfl,(λe he=>absurd he (by simp)),λ_=>rfl];have I1:=I.laid (a:=s⁻¹) (o:=.own (s⁻¹+1)) (h':=s.heap.push bz) (t':=s.toks) (λb u q=>ag _ q) (al _) #[_,e1];refine I1.laid (a:=s⁻¹+1) (o:=.ins C s⁻¹ []) (t':=s.toks) (λb u q=>ag _ q) (Nat.le_of_eq (cL _ _)) ?_;have ne:s⁻¹≠s⁻¹+1:=av (dw _);refine#[by rw[zq ne,zc],ay _,ne,e2,λ_=>rK,(Heap.Ns1.of_empty e3).at λo q=>ag _ q,λ_=>True.intro,λy hy=>absurd rfl hy]
theorem Jx{prog:nZ}{w:oh}{env:pM}{e:ol}{f:og}{pos:oU}{s:nY}{Q:nX->nY->Prop}(hb:attributeBase e f env (eval e env)=eval e env)
  (h:oa (model prog w) A (eval e env) (λo s₁=>oa (model prog w) A (getAttr o f rL) Q E s₁) E s):oa (model prog w) A (eval (.Attribute e f pos) env) Q E s :=
 Attribute_any_ h (by rw[arm_eval_Attribute,hb])
end
def zao(K:nV)(ta:TE)(f:og):TE:=λσ H Q=>ta σ H λx H1=>∃a C dx fs v,x=.ref a/\H1 a=rJ (.ins C dx fs)/\Cls K C/\NoAttr K C f/\fs.lookup f=rJ v/\Q v H1
def zdf(K:nV)(ta tv:TE)(f:og):TS:=λD σ H=>tv σ H λy H1=>ta σ H1 λx H2=>∃a C dx fs,x=.ref a/\H2 a=rJ (.ins C dx fs)/\Cls K C/\NoAttr K C f/\fs.length<1000 /\
 D.nx σ (upd H2 a (.ins C dx (kd f y fs)))
section
variable{X:Cx}{o e value:ol}{f:og}{pos pos' tpos:oU}{ta tv:TE}
theorem QT(he:PE X e ta)(hb:attributeBase e f X.env (eval e X.env)=eval e X.env):PE X (.Attribute e f pos) (zao X.K ta f):=by
 intro rN s σ H Q I h;refine Jx hb (thn (he rN s σ H _ I h) λu s1 ⟨x,H1,I1,rx,a,C,dx,fs,v,ex,ea,c,n,l,q⟩=>?_);subst ex;obtain rfl:u=Value.ref a:=rx;exact XD I1 ea c n l λu' s2 I2 ru=>#[v,H1,I2,ru,q]
theorem WD(ha:PE X o ta)(hv:PE X value tv)(hs:swapsWith value (rJ (.Attribute o f pos')) pos.line X.env=pure rM):PS X (.Assign [.Attribute o f pos'] value pos) (zdf X.K ta tv f):=by
 intro rN s σ H D I h;refine pB (thn (hv rN s σ H _ I h) λu s1 ⟨y,H1,I1,ry,q⟩=>thn (ha rN s1 σ H1 _ I1 q) λov s2 ⟨x,H2,I2,rx,a,C,dx,fs,ex,ea,c,n,l,q2⟩=>?_) hs;subst ex;obtain rfl:ov=Value.ref a:=rx;exact Xx I2 ea c n l ry λs3 I3=>#[σ,_,I3,q2]
theorem KP{pl:rz Bool}{m:og}{apos:oU}{args:List ol}{rN:List (nW × oF)}{s:nY}{σ:St}{H:Hp}{Q:nX->nY->Prop}{te:TE}(he:PE X e te)(I:Inv X rN σ H s)
    (h:te σ H λx H1=>∃a C dx fs g,x=.ref a/\H1 a=rJ (.ins C dx fs)/\Cls X.K C/\zat X.K C m g/\fs.lookup m=rK /\
      ∀s1,Inv X rN σ H1 s1->oa (model X.prog X.w) X.A (callWith pos (.ref g) [.ref a] (oB pos (nS args X.env)) (oH pos (ow [] X.env))) Q X.xe s1)
    (ht:eval (.Call (.Attribute e m apos) args [] pos) X.env=(do
      let ov <- eval e X.env
      standAt apos.atName
      let (f,first) <- holding [ov] (getMethod ov m pl)
      callWith pos f first (oB pos (nS args X.env)) (oH pos (ow [] X.env)))) :
    oa (model X.prog X.w) X.A (eval (.Call (.Attribute e m apos) args [] pos) X.env) Q X.xe s:=by
  refine cr (pl:=pl) (thn (he rN s σ H _ I h) λu s1 ⟨x,H1,I1,rx,a,C,dx,fs,g,ex,ea,c,k,l,q⟩=>?_) ht;subst ex;obtain rfl:u=Value.ref a:=rx;exact xE I1 ea c k l (q s1 I1)
end
section
variable{X:Cx}{rN:List (nW × oF)}{σ:St}{H:Hp}{s:nY}{A:oj}{E:nX->nY->Prop}{Q:nX->nY->Prop}{c:nX}{b:Bool}
inductive YR(K:nV)(H:Hp):V->nX->Prop where
 | non:YR K H .non (.type "NoneType")
 | bl (x:Bool):YR K H (.bl x) (.type "bool")
 | int (i:Int):YR K H (.int i) (.type "int")
 | str (x:og):YR K H (.str x) (.type "str")
 | flt (x:UInt64):YR K H (.flt x) (.type "float")
 | lst {a:nW} {xs:List V} (e:H a=rJ (.lst xs)):YR K H (.ref a) (.type "list")
 | frz {a:nW} {o:oF} {xs:List V} (e:H a=rJ (.frz o (.lst xs))):YR K H (.ref a) (.type "list")
 | tup {a:nW} {xs:List V} (e:H a=rJ (.tup xs)):YR K H (.ref a) (.type "tuple")
 | dK {a:nW} {kvs:List (Key × V)} (e:H a=rJ (.dK kvs)):YR K H (.ref a) (.type "dict")
 | dT {a:nW} {kvs:List (List Key × V)} (e:H a=rJ (.dT kvs)):YR K H (.ref a) (.type "dict")
 | ins {a C dx:nW} {fs:List (og × V)} (e:H a=rJ (.ins C dx fs)) (cl:Cls K C) (ha:ak K (.ref C) "__class__" = rJ (rJ (.builtin "object.__class__")))
   (hn:dk K (.builtin "object.__class__") "__get__" = rJ (rJ (.builtin "getset_descriptor.__get__"))) (htk:dD K (.builtin "object.__class__")=rJ rL)
   (hm:bX K C (.type "object")=rJ rL):YR K H (.ref a) (.ref C)
theorem X1{x:V}{u t:nX}(I:Inv X rN σ H s)(rx:RelV x u)(ty:YR X.K H x t)(e:aS X.K t c=rJ b)(h:∀tk,Q (.bool b) { s with toks:=tk }) :
  oa (model X.prog X.w) A (call (.builtin "isinstance") [u,c]) Q E s:=by
 cases ty with
 | non=>cases (show u=Value.none from rx);exact be PySem.W.kitx_none I.kIn True.intro e (λz=>nomatch z) h
 | bl y=>cases (show u=Value.bool y from rx);exact be PySem.W.kitx_bool I.kIn True.intro e (λz=>nomatch z) h
 | int i=>obtain⟨t,q⟩:=(show ∃t,u=Value.int i t from rx);cases q;exact be PySem.W.kitx_int I.kIn True.intro e (λz=>nomatch z) h
 | str y=>obtain⟨t,q⟩:=(show ∃t,u=Value.str y t from rx);cases q;exact be PySem.W.kitx_str I.kIn True.intro e (λz=>nomatch z) h
 | flt y=>obtain⟨t,q⟩:=(show ∃t,u=Value.float y t from rx);cases q;exact be PySem.W.kitx_float I.kIn True.intro e (λz=>nomatch z) h
 | @lst a xs ea =>
  cases (show u=Value.ref a from rx);obtain⟨_,_,n,_,h1⟩:=(show ObjOk X.prog X.w H s.heap a (.lst xs)from I.hok a _ ea);exact be d6 I.kIn #[_,h1,rfl] e (λz=>nomatch z) h
 | @frz a ob xs ea =>
  cases (show u=Value.ref a from rx);obtain⟨_,_,_,n,_,h1⟩:=(show ObjOk X.prog X.w H s.heap a (.frz ob (.lst xs))from I.hok a _ ea);exact be d6 I.kIn #[_,h1,rfl] e (λz=>nomatch z) h
 | @tup a xs ea =>
  cases (show u=Value.ref a from rx);obtain⟨_,_,_,p⟩:=(show ObjOk X.prog X.w H s.heap a (.tup xs)from I.hok a _ ea);obtain⟨o,h1,h2,_⟩:=p;exact be fw I.kIn #[o,h1,h2] e (λz=>nomatch z) h
 | @dK a kvs ea =>
  cases (show u=Value.ref a from rx);obtain⟨_,_,vs,_,p⟩:=(show ObjOk X.prog X.w H s.heap a (.dK kvs)from I.hok a _ ea);obtain⟨o,es,ep,h1,h2,_⟩:=p;exact be fL I.kIn #[o,h1,h2.1] e (λz=>nomatch z) h
 | @dT a kvs ea =>
  cases (show u=Value.ref a from rx);obtain⟨_,_,xs,_,o,es,ep,h1,h2,_⟩:=(show ObjOk X.prog X.w H s.heap a (.dT kvs)from I.hok a _ ea);exact be fL I.kIn #[o,h1,h2.1] e (λz=>nomatch z) h
 | @ins a C dx fs ea cl ha hn htk hm =>
  cases (show u=Value.ref a from rx);obtain⟨mA,O,_⟩:=j9 I.hok ea;obtain⟨od,J,_⟩:=O.look;exact be (PySem.W.kitx_own (cl.get _) cl.hd ha hn htk hm) I.kIn J e (λz=>nomatch z) h
end
structure Room(k:Nat)(A:oj):Prop where
 hd:A.handled=rK
 dp:A.depth+3 * k+5<pQ
 un:A.units+16 * k+200<cLine
theorem Room.mono{j k:Nat}{A:oj}(r:Room k A)(h:j<=k):Room j A:=#[r.hd,by have:=r.dp;lia,by have:=r.un;lia]
theorem Room.deeper{k:Nat}{A:oj}(r:Room (k+1) A)(env:pM):Room k (A.deeper env) :=
 #[r.hd,by have:=r.dp;show A.depth+1+3 * k+5<_;lia,by have:=r.un;show A.units+3+16 * k+200<_;lia]
theorem Room.in1{k:Nat}{A:oj}(r:Room (k+1) A):Room k A.in1 :=
 #[r.hd,by have:=r.dp;show A.depth+3 * k+5<_;lia,by have:=r.un;show A.units+1+16 * k+200<_;lia]
theorem XB{A:oj}{C:nW}{us:List nX}{kw:List (og × nX)}:(A.under (.builtin "type.__call__" #[.ref C::us,kw])).depth=A.depth+1:=by
 first | rfl | simp [Around.under,Code.weight,Code.isCreation,Code.isGuard,Code.isCaller,Code.frames,Code.isFrame,guardIds]
theorem Xz{A:oj}{C:nW}{us:List nX}{kw:List (og × nX)}:(A.under (.builtin "type.__call__" #[.ref C::us,kw])).units=A.units+1:=by
 first | rfl | simp [Around.under,Code.cUnits,Code.frames,Code.isFrame]
theorem Room.make{k:Nat}{A:oj}(r:Room (k+1) A)(C:nW)(us:List nX)(kw:List (og × nX)):Room k (A.under (.builtin "type.__call__" #[.ref C::us,kw])) :=
 #[r.hd,by have:=r.dp;rw[XB];lia,by have:=r.un;rw[Xz];lia]
theorem Room.depth{k:Nat}{A:oj}(r:Room k A):A.depth<pQ:=by have:=r.dp;lia
theorem Room.units{k:Nat}{A:oj}(r:Room k A):A.units+64<cLine:=by have:=r.un;lia
def xH:TA:=λ_ H Q=>Q [] H
def zL(ta:TE)(tr:TA):TA:=λσ H Q=>ta σ H λx H1=>tr σ H1 λxs H2=>Q (x::xs) H2
section
variable{X:Cx}{e:ol}{es:List ol}{te:TE}{t:TA}{pos:oU}
theorem zf:PA X [] xH:=λ_ _ _ _ H Q I h=>Calls.spliced_nil #[[],H,I,.nil,h]
theorem za(ha:PE X e te)(hr:PA X es t)(hs:nS (e::es) X.env=(rM,eval e X.env)::nS es X.env:=by rfl):PA X (e::es) (zL te t):=by
 intro pos rN s σ H Q I h;rw[hs];show oa _ _ (spliced ((rM,eval e X.env)::oB pos (nS es X.env))) _ _ s;refine Calls.spliced_cons (thn (ha rN s σ H _ I h) λu s1 ⟨x,H1,I1,r1,q1⟩=>?_);exact thn (hr pos rN s1 σ H1 _ I1 q1) λus s2 ⟨xs,H2,I2,r2,q2⟩=>#[x::xs,H2,I2,.cons r1 r2,q2]
def XQ(t:TA):TE:=λσ H Q=>t σ H λxs H1=>xs.length<=nU/\∀p,H1 p=rK->Q (.ref p) (upd H1 p (.tup xs))
def zaq(t:TA):TE:=λσ H Q=>t σ H λxs H1=>xs.length<=nU/\∀p,H1 p=rK->Q (.ref p) (upd H1 p (.lst xs))
theorem z5{x1}(h:PA X es t):PE X (.Tuple es x1 pos) (XQ t):=by
 intro rN s σ H Q I hq;refine wpAny_Tuple_spliced (thn (h pos rN s σ H _ I hq) λus s1 ⟨xs,H1,I1,r,z,q⟩=>#[by rw[<- r.length];exact z,?_]);have hf:H1 s1⁻¹=rK:=I1.hok.fresh (al _);refine#[.ref s1⁻¹,upd H1 s1⁻¹ (.tup xs),I1.laid (t':=s1.toks) (λb u e=>ag _ e) (al _) ?_,rfl,q _ hf];exact#[z,us,r,#[_,aE _ rfl,rfl,_,rfl]]
theorem vR(h:PA X es t):PE X (.List es pos) (zaq t):=by
 intro rN s σ H Q I hq;refine wpAny_List_spliced (thn (h pos rN s σ H _ I hq) λus s1 ⟨xs,H1,I1,r,z,q⟩=>#[by rw[<- r.length];exact z,?_]);have hf:H1 s1⁻¹=rK:=I1.hok.fresh (al _);refine#[.ref s1⁻¹,upd H1 s1⁻¹ (.lst xs),I1.laid (t':=s1.toks) (λb u e=>ag _ e) (al _) ?_,rfl,q _ hf];exact#[z,us,0,r,aE _ rfl]
end
noncomputable abbrev Sp:=List V->Hp->VK->XK->Prop
noncomputable abbrev CXT:=List pM->Hp->nY->XK->nX->nY->Prop
structure Env0(P:nZ)(w:oh)(K:nV)(mg:og->Option nX)(base:oo)(A:oj)(outer:List pM)(s:nY)(H:Hp):Prop where
 frames:A.frames=rJ outer
 mod:Mod K mg base
 bs:∀b o,base.get? b=rJ o->s.heap.get? b=rJ o/\H b=rK
 bsz:base.objs.size<=s⁻¹
 funs:s.heap.FunFrames base outer
 frf:∀b ∈ frs outer,H b=rK
 hok:HOk P w H s.heap
 bare:pE s.gens
def CE(outer:List pM)(P:nZ)(w:oh)(H:Hp)(s:nY)(Q:VK)(u:nX)(s':nY):Prop :=
 ∃v H',s'.os=s.os/\pE s'.gens/\Un (frs outer) [] H H' s.heap s'.heap/\HOk P w H' s'.heap/\RelV v u/\Q v H'
def CR(CX:CXT)(outer:List pM)(P:nZ)(w:oh)(H:Hp)(s:nY)(Q:VK)(E:XK)(r:pS)(s':nY):Prop :=
 match r with
 | .ok (.ret u)=>CE outer P w H s Q u s'
 | .ok _=>False
 | .error e=>CX outer H s E e s'
structure FnOk(P:nZ)(w:oh)(K:nV)(mg:og->Option nX)(base:oo)(CX:CXT)(k:Nat)(f:nW)(fd:oe)(ps:List og)(sp:Sp):Prop where
 len:∀vs H Q E,sp vs H Q E->vs.length=ps.length
 run:∀(A:oj) (outer:List pM) (s:nY) (H:Hp) (args:Args) (us:List nX) (vs:List V) (Q:VK) (E:XK),Room k A->Env0 P w K mg base A outer s H->pV s fd args (ps.zip us)->Vals vs us->sp vs H Q E ->
  oS (model P w) A (.call (.ref f) args) (CR CX outer P w H s Q E) s
theorem FnOk.imp{P:nZ}{w:oh}{K:nV}{mg:og->Option nX}{base:oo}{CX:CXT}{k:Nat}{f:nW}{fd:oe}{ps:List og}{sp sp':Sp}(F:FnOk P w K mg base CX k f fd ps sp)
  (h:∀vs H Q E,sp' vs H Q E->sp vs H Q E):FnOk P w K mg base CX k f fd ps sp' :=
 #[λvs H Q E q=>F.len vs H Q E (h _ _ _ _ q),λA outer s H args us vs Q E hr he hb hv hs=>F.run A outer s H args us vs Q E hr he hb hv (h _ _ _ _ hs)]
theorem Env0.make{P:nZ}{w:oh}{K:nV}{mg:og->Option nX}{base:oo}{A:oj}{outer:List pM}{s:nY}{H:Hp}(e:Env0 P w K mg base A outer s H)(C:nW)(us:List nX)(kw:List (og × nX)) :
  Env0 P w K mg base (A.under (.builtin "type.__call__" #[.ref C::us,kw])) outer s H:=#[by first | exact e.frames | (simpa [Around.under,Code.envs,Code.isFrame,pushEnvs] using e.frames),e.mod,e.bs,e.bsz,e.funs,e.frf,e.hok,e.bare]
section
variable{X:Cx}{rN:List (nW × oF)}{σ:St}{H:Hp}{s s':nY}
theorem Inv.env0(I:Inv X rN σ H s):Env0 X.prog X.w X.K X.mg X.base X.A X.stack s H :=
 #[I.ok.frames,I.ok.mod,I.bs,aM I.ok.bsz I.sz,I.stack,I.stkFree,I.hok,I.bare]
theorem Inv.after{Q:VK}{u:nX}(I:Inv X rN σ H s)(h:CE X.stack X.prog X.w H s Q u s'):EP X rN σ Q u s':=by
 obtain⟨v,H',os,bare,un,hok,r,q⟩:=h;obtain⟨hh,g,d,t,os'⟩:=s';obtain rfl:os'=s.os:=os;exact#[v,H',I.call (h':=hh) (g':=g) (d':=d) (t':=t) (ch:=[]) un hok bare (λb z=>absurd z (by simp)),r,q]
end
def uO(sp:Sp)(dvs:List V)(E:XK)(t:TA):TE:=λσ H Q=>t σ H λvs H1=>sp (vs ++ dvs) H1 Q E
def j4(C:nW)(m:og)(sp:Sp)(dvs:List V)(E:XK)(ta:TE)(t:TA):TE:=λσ H Q=>ta σ H λx H1=>∃a dx fs,x=.ref a/\H1 a=rJ (.ins C dx fs)/\fs.lookup m=rK /\
 t σ H1 λvs H2=>sp (x::(vs ++ dvs)) H2 Q E
def WB(C:nW)(sp:Sp)(dvs:List V)(E:XK)(t:TA):TE:=λσ H Q=>t σ H λvs H1=>∀x dx,H1 x=rK->H1 dx=rK->dx≠x ->
 sp (.ref x::(vs ++ dvs)) (upd (upd H1 dx (.own x)) x (.ins C dx [])) (λv H2=>v=.non/\Q (.ref x) H2) E
def Binds(K:nV)(fd:oe)(ps:List og)(ds:List nX):Prop :=
 ∀(s:nY) (us:List nX),K.In s.heap->(us ++ ds).length=ps.length->pV s fd #[us,[]] (ps.zip (us ++ ds))
theorem Binds.all{K:nV}{fd:oe}{ps:List og}(h:∀us:List nX,us.length=ps.length->bindArgs fd #[us,[]]=pure (ps.zip us)):Binds K fd ps []:=λs us _ hl=>by
 rw[aQ]at hl ⊢;exact .of_eq (h us hl)
def vZ(CX:CXT)(X:Cx)(E:XK):Prop:=∀(rN:List (nW × oF)) (σ:St) (H:Hp) (s:nY) (e:nX) (s':nY),Inv X rN σ H s->CX X.stack H s E e s'->X.xe e s'
section
variable{X:Cx}{CX:CXT}{k:Nat}{f C:nW}{fd:oe}{ps:List og}{sp:Sp}{dvs:List V}{ds:List nX}{E:XK}{x m:og}{p pos apos:oU}{e o:ol}{es:List ol}{ta:TE}{t:TA}
theorem kg{rN:List (nW × oF)}{σ:St}{H:Hp}{s:nY}{Q:VK}{us:List nX}{vs:List V}(F:FnOk X.prog X.w X.K X.mg X.base CX k f fd ps sp)(hr:Room k X.A)(hb:Binds X.K fd ps ds)(hd:Vals dvs ds)(hx:vZ CX X E)
  (I:Inv X rN σ H s) (r:Vals vs us) (h:sp (vs ++ dvs) H Q E):oa (model X.prog X.w) X.A (call (.ref f) us) (EP X rN σ Q) X.xe s:=by
 have r2:Vals (vs ++ dvs) (us ++ ds):=r.append hd;have hl:(us ++ ds).length=ps.length:=by rw[<- r2.length];exact F.len _ _ _ _ h
 refine pc (ph (F.run X.A X.stack s H #[us,[]] (us ++ ds) (vs ++ dvs) Q E hr I.env0 (hb s us I.kIn hl) r2 h) λr s' hq=>?_)
 cases r with
 | error e=>exact hx rN σ H s e s' I hq
 | ok fl =>
  cases fl with
  | ret u=>exact I.after hq
  | next=>exact False.elim hq
  | brk=>exact False.elim hq
  | cont=>exact False.elim hq
theorem Wr(F:FnOk X.prog X.w X.K X.mg X.base CX k f fd ps sp)(hr:Room k X.A)(hg:Gl X x)(hm:X.mg x=rJ (.ref f))(hk:aK X.K (.ref f)=rL)(hb:Binds X.K fd ps ds)(hd:Vals dvs ds)(hx:vZ CX X E)
  (ha:PA X (e::es) t) (hdb:(x ==("__debug__" : og))=rM:=by decide) (he:nS (e::es) X.env=(rM,eval e X.env)::nS es X.env:=by rfl) (hpl:(oB pos (nS es X.env)).any (·.1)=rM:=by rfl) :
  PE X (.Call (.Name x p) (e::es) [] pos) (uO sp dvs E t):=by
 intro rN s σ H Q I h;refine oE (wL I hg hm ?_ hdb);refine bM (h₀:=X.base) I.ok.mod.kin hk (thn (ha pos rN s σ H _ I h) λus s1 ⟨vs,H1,I1,r,q⟩=>#[I1.kIn,?_]) he hpl;exact kg F hr hb hd hx I1 r q
theorem KD{pl:rz Bool}(he:PE X o ta)(c:Cls X.K C)(hm:zat X.K C m f)(F:FnOk X.prog X.w X.K X.mg X.base CX k f fd ps sp)(hr:Room k X.A)(hb:Binds X.K fd ps ds)(hd:Vals dvs ds)(hx:vZ CX X E)(ha:PA X (e::es) t)
    (hst:nS (e::es) X.env=(rM,eval e X.env)::nS es X.env:=by rfl) (hpl:(oB pos (nS es X.env)).any (·.1)=rM:=by rfl)
    (ht:eval (.Call (.Attribute o m apos) (e::es) [] pos) X.env=(do
      let ov <- eval o X.env
      standAt apos.atName
      let (f,first) <- holding [ov] (getMethod ov m pl)
      callWith pos f first (oB pos (nS (e::es) X.env)) (oH pos (ow [] X.env))):=by rfl) :
    PE X (.Call (.Attribute o m apos) (e::es) [] pos) (j4 C m sp dvs E ta t):=by
  intro rN s σ H Q I h;refine cr (pl:=pl) (thn (he rN s σ H _ I h) λu s1 ⟨x,H1,I1,rx,a,dx,fs,ex,ea,l,q⟩=>?_) ht;subst ex;obtain rfl:u=Value.ref a:=rx;refine xE I1 ea c hm l ?_;refine bM (first:=[.ref a]) (h₀:=X.base) I.ok.mod.kin hm.kp (thn (ha pos rN s1 σ H1 _ I1 q) λus s2 ⟨vs,H2,I2,r,q2⟩=>#[I2.kIn,?_]) hst hpl;exact kg (us:=.ref a::us) (vs:=.ref a::vs) F hr hb hd hx I2 (.cons rfl r) q2
theorem Uq{pl:rz Bool}(he:PE X o ta)(c:Cls X.K C)(hm:zat X.K C m f)(F:FnOk X.prog X.w X.K X.mg X.base CX k f fd ps sp)(hr:Room k X.A)(hb:Binds X.K fd ps ds)(hd:Vals dvs ds)(hx:vZ CX X E)
    (ht:eval (.Call (.Attribute o m apos) [] [] pos) X.env=(do
      let ov <- eval o X.env
      standAt apos.atName
      let (f,first) <- holding [ov] (getMethod ov m pl)
      callWith pos f first (oB pos (nS [] X.env)) (oH pos (ow [] X.env))):=by rfl) :
    PE X (.Call (.Attribute o m apos) [] [] pos) (j4 C m sp dvs E ta xH):=by
  intro rN s σ H Q I h;refine cr (pl:=pl) (thn (he rN s σ H _ I h) λu s1 ⟨x,H1,I1,rx,a,dx,fs,ex,ea,l,q⟩=>?_) ht;subst ex;obtain rfl:u=Value.ref a:=rx;refine xE I1 ea c hm l ?_;exact fq (first:=[.ref a]) I1.kIn hm.kp (kg (us:=[.ref a]) (vs:=[.ref a]) F hr hb hd hx I1 (.cons rfl .nil) q)
structure Mk(K:nV)(C f:nW):Prop where
 makes:cZ K C=rL
 init:ak K (.ref C) "__init__" = rJ (rJ (.ref f))
 fn:bj K (.ref f)=rL
 kp:aK K (.ref C)=rL
theorem Ue{rN:List (nW × oF)}{σ:St}{H:Hp}{s:nY}{Q:VK}{us:List nX}{vs:List V}(M:Mk X.K C f)(F:FnOk X.prog X.w X.K X.mg X.base CX k f fd ps sp)(hr:Room (k+1) X.A)(hb:Binds X.K fd ps ds)(hd:Vals dvs ds)
  (hx:vZ CX X E) (I:Inv X rN σ H s) (r:Vals vs us)
  (h:∀x dx,H x=rK->H dx=rK->dx≠x->sp (.ref x::(vs ++ dvs)) (upd (upd H dx (.own x)) x (.ins C dx [])) (λv H2=>v=.non/\Q (.ref x) H2) E) :
  oa (model X.prog X.w) X.A (call (.ref C) us) (EP X rN σ Q) X.xe s:=by
 have hq:=h (s⁻¹+1) s⁻¹ (I.hok.fresh (cA _)) (I.hok.fresh (al _)) (av (dw _));have I2:=Inv.made (C:=C) I;have r2:Vals (V.ref (s⁻¹+1)::(vs ++ dvs)) (Value.ref (s⁻¹+1)::(us ++ ds)):=.cons rfl (r.append hd)
 have hl:(Value.ref (s⁻¹+1)::us ++ ds).length=ps.length:=by
  have e:=r2.length;rw[F.len _ _ _ _ hq]at e;exact e.symm
 refine pc (UE (f:=f) I.kIn M.makes M.init (beq_iff_eq.mp M.fn) (ph (F.run _ X.stack _ _ #[Value.ref (s⁻¹+1)::us,[]] (Value.ref (s⁻¹+1)::(us ++ ds)) _ _ E (hr.make C us [])
  (I2.env0.make C us []) (hb _ (Value.ref (s⁻¹+1)::us) I2.kIn hl) r2 hq) λr s' hq'=>?_))
 cases r with
 | error e=>exact hx rN σ _ _ e s' I2 hq'
 | ok fl =>
  cases fl with
  | ret u =>
   obtain⟨v,H',I3,rv,ev,q3⟩:=I2.after hq';subst ev;exact#[rv,#[V.ref (s⁻¹+1),H',I3,rfl,q3]]
  | next=>exact False.elim hq'
  | brk=>exact False.elim hq'
  | cont=>exact False.elim hq'
theorem VL(M:Mk X.K C f)(F:FnOk X.prog X.w X.K X.mg X.base CX k f fd ps sp)(hr:Room (k+1) X.A)(hg:Gl X x)(hm:X.mg x=rJ (.ref C))(hb:Binds X.K fd ps ds)(hd:Vals dvs ds)(hx:vZ CX X E)
  (ha:PA X (e::es) t) (hdb:(x ==("__debug__" : og))=rM:=by decide) (he:nS (e::es) X.env=(rM,eval e X.env)::nS es X.env:=by rfl) (hpl:(oB pos (nS es X.env)).any (·.1)=rM:=by rfl) :
  PE X (.Call (.Name x p) (e::es) [] pos) (WB C sp dvs E t):=by
 intro rN s σ H Q I h;refine oE (wL I hg hm ?_ hdb);refine bM (h₀:=X.base) I.ok.mod.kin M.kp (thn (ha pos rN s σ H _ I h) λus s1 ⟨vs,H1,I1,r,q⟩=>#[I1.kIn,?_]) he hpl;exact Ue M F hr hb hd hx I1 r q
end
def PK(X:Cx)(kws:List pT)(t:TA):Prop :=
 ∀(pos:oU) (rN:List (nW × oF)) (s:nY) (σ:St) (H:Hp) (Q:List V->Hp->Prop),Inv X rN σ H s->t σ H Q->oa (model X.prog X.w) X.A (evalAll ((oH pos (ow kws X.env)).map (·.2))) (AP X rN σ Q) X.xe s
section
variable{X:Cx}{CX:CXT}{k:Nat}{f C:nW}{fd:oe}{ps ks:List og}{sp:Sp}{E:XK}{x m:og}{p pos apos kpos:oU}{e o:ol}{es:List ol}{kws:List pT}{te ta:TE}{t tk:TA}{nm:Option og}
theorem QX:PK X [] xH:=λ_ _ _ _ H Q I h=>wpAny_evalAll_nil #[[],H,I,.nil,h]
theorem Wu(ha:PE X e te)(hr:PK X kws t):PK X (#[nm,e,kpos]::kws) (zL te t):=by
 intro pos rN s σ H Q I h;show oa _ _ (evalAll ((do let v <- eval e X.env;standAt pos;pure v)::(oH pos (ow kws X.env)).map (·.2))) _ _ s;refine wpAny_evalAll_cons (nP (thn (ha rN s σ H _ I h) λu s1 ⟨x,H1,I1,r1,q1⟩=>nP (oP (nQ ?_))));exact thn (hr pos rN s1 σ H1 _ I1 q1) λus s2 ⟨xs,H2,I2,r2,q2⟩=>#[x::xs,H2,I2,.cons r1 r2,q2]
variable{g:List nX->List nX->List nX}{gV:List V->List V->List V}
end
structure zo(N P:List og)(sc:oN):Prop where
 kind:sc.kind=.function
 co:sc.isCoroutine=rM
 gen:sc.isGenerator=rM
 nd:N.Nodup
 pre:N.take P.length=P
 par:∀x ∈ P,sc.names.lookup x=rJ .local\/sc.names.lookup x=rJ .cell
 nofree:∀y ∈ sc.names,y.2≠.free
theorem ko{kindOf:og->Option pG}{x:og}:∀{binds:List (og × nX)} {m:og->Option nX},(∀v,(x,v) ∉ binds)->bindL kindOf binds m x=m x
  | [],_,_=>rfl
  | (n,v)::r,m,h=>by
    unfold bindL;rw[ko λw hw=>h w (aq _ hw)];split
    . have:x≠n:=by rintro rfl;exact h v az
      simp [this]
    . rfl
theorem Za{kindOf:og->Option pG}{x:og}:∀{binds:List (og × nX)} {m:og->Option nX},(∀v,(x,v) ∉ binds)->bindC kindOf binds m x=m x
  | [],_,_=>rfl
  | (n,v)::r,m,h=>by
    unfold bindC;rw[Za λw hw=>h w (aq _ hw)];split
    . rfl
    . have:x≠n:=by rintro rfl;exact h v az
      simp [this]
theorem Ze{kindOf:og->Option pG}{x:og}{v:nX}:∀{P:List og} {vs:List nX} {i:Nat} {m:og->Option nX},P.Nodup->P[i]? = rJ x->vs[i]? = rJ v->kindOf x=rJ .local ->
  bindL kindOf (P.zip vs) m x=rJ v
 | [],_,_,_,_,h,_,_=>by simp at h
 | _::_,[],_,_,_,_,h,_=>by simp at h
 | p::P,w::vs,0,m,nd,h1,h2,hk=>by
  simp at h1 h2;subst h1;subst h2;show bindL kindOf ((p,w)::P.zip vs) m p=_;unfold bindL;rw[ko λv hv=>(si.mp nd).1 (db hv).1,if_pos hk];simp
 | p::P,w::vs,i+1,m,nd,h1,h2,hk=>by
  show bindL kindOf ((p,w)::P.zip vs) m x=_;unfold bindL;exact Ze (i:=i) (si.mp nd).2 (by simpa using h1) (by simpa using h2) hk
theorem Zj{kindOf:og->Option pG}{x:og}{v:nX}:∀{P:List og} {vs:List nX} {i:Nat} {m:og->Option nX},P.Nodup->P[i]? = rJ x->vs[i]? = rJ v->kindOf x≠rJ .local ->
  bindC kindOf (P.zip vs) m x=rJ v
 | [],_,_,_,_,h,_,_=>by simp at h
 | _::_,[],_,_,_,_,h,_=>by simp at h
 | p::P,w::vs,0,m,nd,h1,h2,hk=>by
  simp at h1 h2;subst h1;subst h2;show bindC kindOf ((p,w)::P.zip vs) m p=_;unfold bindC;rw[Za λv hv=>(si.mp nd).1 (db hv).1,if_neg hk];simp
 | p::P,w::vs,i+1,m,nd,h1,h2,hk=>by
  show bindC kindOf ((p,w)::P.zip vs) m x=_;unfold bindC;exact Zj (i:=i) (si.mp nd).2 (by simpa using h1) (by simpa using h2) hk
noncomputable def start(N:List og)(vs:List V):St:=vs.map rJ ++ ce (N.length - vs.length) rK
noncomputable def uz(CX:CXT)(P:nZ)(w:oh)(K:nV)(mg:og->Option nX)(base:oo)(N:List og)(qual:og)(scope:oN)(f:nW)(cd:nX)(A:oj)(outer:List pM)(s:nY)(H:Hp)(E:XK):Cx where
 prog:=P
 w:=w
 K:=K
 mg:=mg
 base:=base
 A:=A.deeper (pj qual scope s⁻¹ f cd)
 N:=N
 s₀:=s
 H₀:=H
 env:=pj qual scope s⁻¹ f cd
 outer:=outer
 stack:=pj qual scope s⁻¹ f cd::outer
 ex:=[]
 calm:=rL
 fn:=λ_=>rL
 pn:=[]
 xe:=λe s'=>oa (model P w) (A.deeper (pj qual scope s⁻¹ f cd)) (leaving (pj qual scope s⁻¹ f cd) e) (λ_ s''=>CX outer H s E e s'') (λe' s''=>CX outer H s E e' s'') s'
theorem YF{sc:oN}{n:Nat}{x:og}(h:sc.names.lookup x=rJ .cell):∃c,(cellsFrom n sc.names []).lookup x=rJ c:=by
 have q:=eS sc.names n [] (.inl h);exact sk.mp q
theorem WW{CX:CXT}{P:nZ}{w:oh}{K:nV}{mg:og->Option nX}{base:oo}{N ps:List og}{qual:og}{scope:oN}{f:nW}{cd:nX}{A:oj}{outer:List pM}{s s1:nY}{H:Hp}{E:XK}{us:List nX}{vs:List V}
  (S:zo N ps scope) (hd:A.handled=rK) (e0:Env0 P w K mg base A outer s H) (hl:vs.length=ps.length) (r:Vals vs us)
  (x:InCallC s s⁻¹ (bindL (pj qual scope s⁻¹ f cd).kindOf (ps.zip us) λ_=>rK) (cellsFrom (s⁻¹+1) scope.names []) (bindC (pj qual scope s⁻¹ f cd).kindOf (ps.zip us) λ_=>rK) s1) :
  Inv (uz CX P w K mg base N qual scope f cd A outer s H E) [] (start N vs) H s1:=by
 have hpl:ps.length<=N.length:=by have:=congrArg ci S.pre;rw[aC]at this;lia
 obtain⟨h1,tk,rfl,hk⟩:=x.done;have noA:∀b:nW,b ∉ (uz CX P w K mg base N qual scope f cd A outer s H E).ex:=λb z=>absurd (show b ∈ ([]:List nW)from z) (by simp)
 refine#[#[e0.mod,S.kind,rfl,rfl,al _,λy z c h1 h2=>?_,λy hy=>?_,λy c _ h=>?_,λ_=>hd,Around.frames_deeper e0.frames,.inr #[rfl,rfl],λb z=>absurd z (noA b),e0.bs,e0.bsz,λb _ _=>noA b,λb z=>absurd z (noA b),e0.funs,e0.frf],
  rfl,e0.bare,Un.kept hk,#[_,x.toInCall.ns,λi y v h1 h2 h3=>?_],λy c h=>#[_,x.cell y c h],e0.hok.fresh (al _),λy c h=>?_,λp hp=>absurd (show p ∈ ([]:List (nW × oF))from hp) (by simp),e0.hok.kept hk,?_]
 ·exact name_of_addr x.apart (bJ h1) (bJ h2)
 ·have hy:scope.names.lookup y=rJ .cell\/scope.names.lookup y=rJ .free:=hy;rcases hy with hy | hy
  ·exact YF hy
  ·exact absurd rfl (S.nofree _ (bJ hy))
 ·exact dg (x.above y c (bJ h))
 ·have hi:i<vs.length:=by
   unfold start at h2;by_cases hi:i<vs.length
   ·exact hi
   ·rw[cw (by simpa using hi)]at h2;rw[eL]at h2;split at h2 <;> cases h2
  have ha:vs[i]? = rJ v:=by
   unfold start at h2;rw[dc (by simpa using hi),ax]at h2
   cases e:vs[i]? with
   | none=>rw[e]at h2;cases h2
   | some a=>rw[e]at h2;cases h2;rfl
  obtain⟨u,hu,rv⟩:=r.get ha
  have hp:ps[i]? = rJ y:=by
   rw[<- S.pre,dh ⋯];exact h1
  have ndP:ps.Nodup:=by rw[<- S.pre];exact S.nd.sublist (List.take_sublist _ _)
  refine#[u,rv,?_];rcases S.par y (af hp)with k | k
  ·exact .inl #[k,Ze ndP hp hu k]
  ·obtain⟨c,e⟩:=YF (n:=s⁻¹+1) k;refine .inr #[.inl k,c,e,?_];have q:=x.cell y c e;rw[Zj ndP hp hu (by show scope.names.lookup y≠_;rw[k];decide)]at q;exact q
 ·exact e0.hok.fresh (dg (x.above y c (bJ h)))
 ·unfold start;show _=N.length;rw[aj,ac,bN];lia
theorem Us{CX:CXT}{P:nZ}{w:oh}{K:nV}{mg:og->Option nX}{base:oo}{k:Nat}{f:nW}{name qual:og}{params:pq}{body:List ot}{scope:oN}{dV kV doc pm cdv ct oc:nX}{an od:Option nW}
  {osl:Array (Option nX)} {N ps:List og} {sp:Sp} (lk:K.lookup f=rJ #[oc,od,.func (bn name qual params body scope dV kV doc pm an cdv ct),osl]) (hcd:bG K cdv qual=rL) (S:zo N ps scope)
  (len:∀vs H Q E,sp vs H Q E->vs.length=ps.length)
  (hbody:∀(A:oj) (outer:List pM) (s:nY) (H:Hp) (vs:List V) (Q:VK) (E:XK),Room k (A.deeper (pj qual scope s⁻¹ f cdv))->sp vs H Q E ->
   ∃t,PSs (uz CX P w K mg base N qual scope f cdv A outer s H E) body t/\t { nx:=λ_ H'=>Q .non H',rt:=Q } (start N vs) H) :
  FnOk P w K mg base CX (k+1) f (bn name qual params body scope dV kV doc pm an cdv ct) ps sp:=by
 refine#[len,λA outer s H args us vs Q E hr e0 hb r hsp=>?_];have hl:=len _ _ _ _ hsp;have KX:K.In s.heap:=e0.mod.kin.keeps λb o e=>(e0.bs b o e).1;have lim:s.heap.NoLimit:=e0.mod.nolimit.keeps λb o e=>(e0.bs b o e).1
 have hkind:∀y ∈ ps.zip us,scope.names.lookup y.1=rJ .local\/(scope.names.lookup y.1=rJ .cell/\((cellsFrom (s⁻¹+1) scope.names []).lookup y.1).isSome=rL):=λ⟨n,v⟩ hy=>by
  rcases S.par n (db hy).1 with q | q
  ·exact .inl q
  ·exact .inr #[q,eS _ _ _ (.inl q)]
 refine codeAny_call_function hr.depth (KX _ _ lk) rfl S.co S.gen rfl (PySem.W.codeRec_of KX hcd) (hb _ _ _ _ ?_);refine wpAny_newFunctionEnv_cells S.kind hkind λenv he s1 x=>?_;subst he;refine#[lim.keeps x.toInCall.keep,codeAny_func ?_];obtain⟨t,ht,hq⟩:=hbody A outer s H vs Q E (hr.deeper _) hsp;have I:Inv (uz CX P w K mg base N qual scope f cdv A outer s H E) [] (start N vs) H s1:=WW S hr.hd e0 hl r x;refine oR (ht [] s1 (start N vs) H _ I hq) (λfl s' hs=>?_) λe s' hs=>hs
 have fin:∀{σ':St} {H':Hp} {v:V} {u:nX},Inv (uz CX P w K mg base N qual scope f cdv A outer s H E) [] σ' H' s'->RelV v u->Q v H'->CE outer P w H s Q u s' :=
  λ{σ' H' v u} J rv q=>#[v,H',J.os,J.bare,J.base,J.hok,rv,q]
 cases fl with
 | ret u =>
  obtain⟨v,σ',H',J,rv,q⟩:=hs;exact fin J rv q
 | next =>
  obtain⟨σ',H',J,q⟩:=hs;exact fin (v:=V.non) (u:=Value.none) J rfl q
 | brk =>
  obtain⟨_,_,_,q⟩:=hs;exact False.elim q
 | cont =>
  obtain⟨_,_,_,q⟩:=hs;exact False.elim q
section
variable{X:Cx}{x:og}{p pos:oU}{e:ol}{es:List ol}{t:TA}{id T:String}{r:List V->Hp->VK->Prop}
def tCB(r:List V->Hp->VK->Prop)(t:TA):TE:=λσ H Q=>t σ H λvs H1=>r vs H1 Q
theorem yw(hc:wq X (.builtin id) r)(hg:Gl X x)(hm:X.mg x=rK)(hv:oG x=rJ (.builtin id))(ha:PA X (e::es) t)(hn:x≠"__name__":=by decide)(hdb:(x ==("__debug__" : og))=rM:=by decide)
  (he:nS (e::es) X.env=(rM,eval e X.env)::nS es X.env:=by rfl) (hpl:(oB pos (nS es X.env)).any (·.1)=rM:=by rfl):PE X (.Call (.Name x p) (e::es) [] pos) (tCB r t):=by
 intro rN s σ H Q I h;refine oE (vb I hg hm hv ?_ hn hdb);exact PyProof.Rows.callWith_builtin1 (thn (ha pos rN s σ H _ I h) λus s1 ⟨vs,H1,I1,r1,q1⟩=>hc rN s1 σ H1 vs us Q I1 r1 q1) he hpl
theorem vk(hc:wq X (.type T) r)(hg:Gl X x)(hm:X.mg x=rK)(hv:oG x=rJ (.type T))(ha:PA X (e::es) t)(hn:x≠"__name__":=by decide)(hdb:(x ==("__debug__" : og))=rM:=by decide)
  (he:nS (e::es) X.env=(rM,eval e X.env)::nS es X.env:=by rfl) (hpl:(oB pos (nS es X.env)).any (·.1)=rM:=by rfl):PE X (.Call (.Name x p) (e::es) [] pos) (tCB r t):=by
 intro rN s σ H Q I h;refine oE (vb I hg hm hv ?_ hn hdb);exact bI (thn (ha pos rN s σ H _ I h) λus s1 ⟨vs,H1,I1,r1,q1⟩=>hc rN s1 σ H1 vs us Q I1 r1 q1) he hpl
end
end L2
namespace HT
open PySem PyProof.Rows
section
open PySem.SeqAt
open PySem.AutoSeq1 (wpAny_loadPart')
open PySem.MeetsSeq PySem.MeetsSeq2 PySem.MeetsSeq3
end
section
variable{prog:nZ}{w:oh}{A:oj}{E:nX->nY->Prop}{s:nY}
noncomputable def sIx(n d:Nat):Option Int->Nat
 | none=>d
 | some v=>if v<0 then (v+(n:Int)).toNat else min v.toNat n
theorem sIx_none(n d:Nat):sIx n d rK=d:=rfl
theorem sIx_nat(n d k:Nat):sIx n d (rJ (k:Int))=min k n:=by
 show (if (k:Int)<0 then ((k:Int)+(n:Int)).toNat else min (k:Int).toNat n)=min k n;rw[if_neg ⋯,aH]
theorem sIx_le(n d:Nat)(hd:d<=n)(o:Option Int):sIx n d o<=n:=by
 cases o with
 | none=>exact hd
 | some v =>
  show (if v<0 then (v+(n:Int)).toNat else min v.toNat n)<=n;by_cases hv:v<0
  ·rw[if_pos hv];lia
  ·rw[if_neg hv];exact Nat.min_le_right _ _
end
end HT
namespace L2
noncomputable abbrev TO:=St->Hp->(Option Int->Hp->Prop)->Prop
def PO(X:Cx)(e:Option ol)(t:TO):Prop :=
 ∀(rN:List (nW × oF)) (s:nY) (σ:St) (H:Hp) (Q:Option Int->Hp->Prop),Inv X rN σ H s->t σ H Q ->
  oa (model X.prog X.w) X.A (evalPart e X.env) (λu s'=>∃o H',Inv X rN σ H' s'/\IsPart u o/\Q o H') X.xe s
def j1:TO:=λ_ H Q=>Q rK H
def Qi(t:TE):TO:=λσ H Q=>t σ H λx H1=>onInt x λi=>Q (rJ i) H1
section
variable{X:Cx}{e:ol}{te:TE}{lo hi:Option ol}{tl th:TO}{pos p2:oU}
theorem ya:PO X rK j1:=by
 intro rN s σ H Q I h;rw[evalPart_none];exact nQ #[rK,H,I,.none,h]
theorem zR(h:PE X e te):PO X (rJ e) (Qi te):=by
 intro rN s σ H Q I hw;rw[evalPart_some];refine thn (h rN s σ H _ I hw) λu s1 ⟨x,H1,I1,r1,q1⟩=>?_;obtain⟨i,rfl,q⟩:=onInt.of q1;obtain⟨t,rfl⟩:=r1;exact#[rJ i,H1,I1,.int i t,q]
def SlR(X:Cx)(r:V->Option Int->Option Int->Hp->VK->Prop):Prop :=
 ∀(rN:List (nW × oF)) (s:nY) (σ:St) (H:Hp) (x:V) (v vl vu:nX) (lo hi:Option Int) (sl:nW) (Q:VK),Inv X rN σ H s->RelV x v->s.heap.IsSliceOf sl vl vu .none->IsPart vl lo->IsPart vu hi->r x lo hi H Q ->
  ∃T id,typeLookup (.type T) "__getitem__" = pure (rJ (.builtin id))/\s.TypeIs v T/\oa (model X.prog X.w) X.A (getItem v (.ref sl)) (EP X rN σ Q) X.xe s
def tSl(r:V->Option Int->Option Int->Hp->VK->Prop)(te:TE)(tl th:TO):TE:=λσ H Q=>te σ H λx H1=>tl σ H1 λl H2=>th σ H2 λu H3=>r x l u H3 Q
theorem zP{r:V->Option Int->Option Int->Hp->VK->Prop}(hr:SlR X r)(he:PE X e te)(hl:PO X lo tl)(hu:PO X hi th):PE X (.Subscript e (.Slice lo hi rK p2) pos) (tSl r te tl th):=by
 intro rN s σ H Q I h;refine rD (thn (he rN s σ H _ I h) λv s1 ⟨x,H1,I1,r1,q1⟩=>?_);refine wpAny_Slice (thn (hl rN s1 σ H1 _ I1 q1) λvl s2 ⟨l,H2,I2,pl,q2⟩=>thn (hu rN s2 σ H2 _ I2 q2) λvu s3 ⟨u,H3,I3,pu,q3⟩=>?_);rw[evalPart_none];refine nQ ?_;have I4:Inv X rN σ H3 { s3 with heap:=s3.heap.push { cls:=.type "slice",data:=.fields (List.toArray [vl,vu,.none]) } }:=I3.kept (t':=s3.toks) λb ob q=>ag _ q;obtain⟨T,id,hT,ht,hg⟩:=hr rN { s3 with heap:=s3.heap.push { cls:=.type "slice",data:=.fields (List.toArray [vl,vu,.none]) } } σ H3 x v vl vu l u s3⁻¹ Q I4 r1 (Heap.IsSliceOf.new ..) pl pu q3;show oa (model X.prog X.w) X.A (pX e (.Slice lo hi rK p2) v (.ref s3⁻¹)) (EP X rN σ Q) X.xe { s3 with heap:=s3.heap.push { cls:=.type "slice",data:=.fields (List.toArray [vl,vu,.none]) } };exact tail_any (ops:=[.ref s3⁻¹,v]) ht hT hg (by with_unfolding_all rfl)
noncomputable def Q1(xs:List V)(lo hi:Option Int):List V:=(xs.drop (HT.sIx xs.length 0 lo)).take (HT.sIx xs.length xs.length hi - HT.sIx xs.length 0 lo)
theorem Zw(xs:List V)(lo hi:Option Int):(Q1 xs lo hi).length<=xs.length:=by
 unfold Q1;rw[aC,aL];lia
end
noncomputable def ixN(n:Nat)(i:Int):Option Nat:=if 0<=i then (if i<n then rJ i.toNat else rK)else if -(n:Int)<=i then rJ (i+n).toNat else rK
noncomputable def atI{α:Type}(xs:List α)(i:Int):Option α:=(ixN xs.length i).bind λj=>xs[j]?
theorem J7{n:Nat}{i:Int}{j:Nat}(h:ixN n i=rJ j):seqIndex? i n=rJ j/\j<n/\-(n:Int)<=i/\i<n:=by
 unfold ixN at h;by_cases h0:0<=i
 ·rw[if_pos h0]at h;by_cases h1:i<n
  ·rw[if_pos h1]at h;have e:i.toNat=j:=Option.some.inj h;exact#[by rw[seqIndex_of h0 h1,e],⋯,⋯,h1]
  ·rw[if_neg h1]at h;cases h
 ·rw[if_neg h0]at h;by_cases h1:-(n:Int)<=i
  ·rw[if_pos h1]at h;have e:(i+n).toNat=j:=Option.some.inj h;exact#[by rw[seqIndex_neg ⋯ h1,e],⋯,h1,⋯]
  ·rw[if_neg h1]at h;cases h
theorem Zx{α:Type}{xs:List α}{i:Int}{v:α}(h:atI xs i=rJ v):∃j,seqIndex? i xs.length=rJ j/\xs[j]? = rJ v/\j<xs.length/\-(xs.length:Int)<=i/\i<xs.length:=by
 unfold atI at h
 cases e:ixN xs.length i with
 | none=>rw[e]at h;cases h
 | some j =>
  rw[e]at h;obtain⟨h1,h2,h3,h4⟩:=J7 e;exact#[j,h1,h,h2,h3,h4]
theorem jC{α:Type}{xs:List α}{j:Nat}{v:α}(h:xs[j]? = rJ v):atI xs (j:Int)=rJ v:=by
 have hj:j<xs.length:=(rQ.mp h).1
 have e:ixN xs.length (j:Int)=rJ j:=by
  unfold ixN;rw[if_pos ⋯,if_pos ⋯];simp
 unfold atI;rw[e];exact h
def VU(b:ol):Prop:=∀o i,subscripted b rM o i=operate [o,i] (getItem o i)
def IxR(X:Cx)(r:R2):Prop :=
 ∀(value slice:ol) (rN:List (nW × oF)) (s:nY) (σ:St) (H:Hp) (x y:V) (v u:nX) (Q:VK),Inv X rN σ H s->RelV x v->RelV y u->r x y H Q ->
  subscripted slice rM v u=operate [v,u] (getItem v u)->oa (model X.prog X.w) X.A (pX value slice v u) (EP X rN σ Q) X.xe s
def MtR(X:Cx)(id:String)(r:V->List V->Hp->VK->Prop):Prop :=
 ∀(rN:List (nW × oF)) (s:nY) (σ:St) (H:Hp) (x:V) (xs:List V) (v:nX) (us:List nX) (Q:VK),Inv X rN σ H s->RelV x v->Vals xs us->r x xs H Q ->
  oa (model X.prog X.w) X.A (call (.builtin id) (v::us)) (EP X rN σ Q) X.xe s
section
variable{X:Cx}{a b:ol}{ta tb:TE}{pos:oU}
theorem IxR.or{r r':R2}(h:IxR X r)(h':IxR X r'):IxR X (λx y H Q=>r x y H Q\/r' x y H Q):=by
 intro value slice rN s σ H x y v u Q I rx ry q hs;rcases q with q | q
 ·exact h value slice rN s σ H x y v u Q I rx ry q hs
 ·exact h' value slice rN s σ H x y v u Q I rx ry q hs
theorem zcB{r:R2}(hr:IxR X r)(ha:PE X a ta)(hb:PE X b tb)(hs:VU b):PE X (.Subscript a b pos) (tOp r ta tb):=by
 intro rN s σ H Q I h;exact rD (zdg ha hb I h λv u s2 x y H2 I2 rx ry q=>hr a b rN s2 σ H2 x y v u Q I2 rx ry q (hs _ _))
def zaj(K:nV):R2:=λx y H Q=>onRef x λp=>onInt y λi=>∃xs,SqL K H p xs/\∃v,atI xs i=rJ v/\Q v H
def wM(K:nV):R2:=λx y H Q=>onRef x λp=>onInt y λi=>∃xs,SqT K H p xs/\∃v,atI xs i=rJ v/\Q v H
def QU:R2:=λx y H Q=>onStr x λz=>onInt y λi=>z.length<=nU/\∃c,atI z.cps.toList i=rJ c/\Q (.str ⟨#[c]⟩) H
theorem ix_list:IxR X (zaj X.K):=by
 intro value slice rN s σ H x y v u Q I rx ry h hs;obtain⟨p,rfl,h2⟩:=onRef.of h;obtain⟨i,rfl,xs,hq,z,he,q⟩:=onInt.of h2;cases rx;obtain⟨t,rfl⟩:=ry;obtain⟨its,r,pl,hz⟩:=I.list hq;obtain⟨j,h1,h2,h3,h4,h5⟩:=Zx he;obtain⟨w,ew,rw'⟩:=r.get h2;have hl:=r.length;have hn:=Zi;have fin:EP X rN σ Q w s:=#[z,H,I,rw',q];by_cases h0:0<=i
 ·have hj:i.toNat=j:=by
   rw[seqIndex_of h0 h5]at h1;exact Option.some.inj h1
  exact item_listR pl.isList h0 ⋯ (by rw[hj];simpa using ew) fin hs
 ·have hj:(i+(its.toArray.size:Int)).toNat=j:=by
   rw[seqIndex_neg ⋯ h4]at h1;rw[ah,<- hl];exact Option.some.inj h1
  exact pL (x:=w) pl.isList.typeIs slot_list_getitem.lookup
   (wpAny_getItem_list_neg (Q:=λr s'=>r=w/\EP X rN σ Q r s') pl.isList ⋯ (by rw[ah] <;> lia) ⋯ (by rw[hj];simpa using ew) #[rfl,fin]) hs
theorem ix_tup:IxR X (wM X.K):=by
 intro value slice rN s σ H x y v u Q I rx ry h hs;obtain⟨p,rfl,h2⟩:=onRef.of h;obtain⟨i,rfl,xs,hq,z,he,q⟩:=onInt.of h2;cases rx;obtain⟨t,rfl⟩:=ry;obtain⟨its,r,pl,hz⟩:=I.tuple hq;obtain⟨j,h1,h2,h3,h4,h5⟩:=Zx he;obtain⟨w,ew,rw'⟩:=r.get h2;have hl:=r.length;have hn:=Zi;have fin:EP X rN σ Q w s:=#[z,H,I,rw',q]
 exact pL (x:=w) pl.typeIs slot_tuple_getitem.lookup
  (getItem_tuple (j:=j) (Q:=λr s'=>r=w/\EP X rN σ Q r s') pl ⋯ ⋯ (by rw[ah,<- hl];exact h1) (by simpa using ew) #[rfl,fin]) hs
theorem kF:IxR X QU:=by
 intro value slice rN s σ H x y v u Q I rx ry h hs;obtain⟨z,rfl,h2⟩:=onStr.of h;obtain⟨i,rfl,hz,c,he,q⟩:=onInt.of h2;obtain⟨t,rfl⟩:=rx;obtain⟨t',rfl⟩:=ry;obtain⟨j,h1,h2,h3,h4,h5⟩:=Zx he;have hl:z.cps.toList.length=z.length:=by simp [Str.length]
 rw[hl]at h1 h4 h5;have hn:=Zi
 exact tail_any (typeIs_str s z t) slot_str_getitem.lookup (getItem_str (c:=c) (by
  have e1:decide (i < -(2 ^ 63:Int))=rM:=decide_eq_false ⋯;have e2:decide (i ≥ 2 ^ 63)=rM:=decide_eq_false ⋯
  rw[e1,e2,Bool.or_false]) (by rw[h1];simpa using h2) #[.str ⟨#[c]⟩,H,I.tok _,#[_,rfl],q]) hs
def rIx(K:nV):R2:=λx y H Q=>match x with | .ref p=>onInt y λi=>(∃xs,SqL K H p xs/\∃v,atI xs i=rJ v/\Q v H)\/∃xs,SqT K H p xs/\∃v,atI xs i=rJ v/\Q v H | .str z=>QU (.str z) y H Q | _=>False
theorem rIx.of{K:nV}{x y:V}{H:Hp}{Q:VK}(h:rIx K x y H Q):zaj K x y H Q\/wM K x y H Q\/QU x y H Q:=by
 unfold rIx at h;cases x <;> first | exact .inr (.inr h) | (obtain⟨i,rfl,h⟩:=onInt.of h;exact h.elim .inl λh=>.inr (.inl h)) | exact h.elim
theorem zb6:IxR X (rIx X.K):=λa b rN s σ H x y v u Q I rx ry h hs=>(ix_list.or (ix_tup.or kF)) a b rN s σ H x y v u Q I rx ry h.of hs
theorem Inv.lst{rN:List (nW × oF)}{σ:St}{H:Hp}{s:nY}{p:nW}{xs:List V}(I:Inv X rN σ H s)(h:H p=rJ (.lst xs)) :
  ∃(its:List nX) (n:Nat),Vals xs its/\s.heap.get? p=rJ { cls:=.type "list",data:=.seq its.toArray n }/\xs.length<=nU:=by
 obtain⟨z,its,n,r,e⟩:=I.hok p _ h;exact#[its,n,r,e,z]
theorem ku(lo hi:Option Int)(n:Nat):(sliceBounds lo hi rK n).1=((HT.sIx n 0 lo:Nat):Int)/\(sliceBounds lo hi rK n).2.1=((HT.sIx n n hi:Nat):Int)/\(sliceBounds lo hi rK n).2.2=1:=by
 refine#[?_,?_,rfl]
 ·cases lo with
  | none=>simp [sliceBounds,HT.sIx]
  | some i =>
   erw[sliceBounds,HT.sIx,fN,show (1:Int) > 0 by decide,if_true]
   by_cases h:i<0
   ·erw[h,if_true] <;> lia
   ·erw[h,if_false] <;> lia
 ·cases hi with
  | none=>simp [sliceBounds,HT.sIx]
  | some i =>
   erw[sliceBounds,HT.sIx,fN,show (1:Int) > 0 by decide,if_true]
   by_cases h:i<0
   ·erw[h,if_true] <;> lia
   ·erw[h,if_false] <;> lia
theorem jb(its:List nX)(lo hi:Option Int):slicePick its.toArray lo hi rK=((its.drop (HT.sIx its.length 0 lo)).take (HT.sIx its.length its.length hi - HT.sIx its.length 0 lo)).toArray:=by
 obtain⟨h1,h2,h3⟩:=ku lo hi its.toArray.size;unfold slicePick;rw[h1,h2,h3]
 erw[sliceRange_one,pick_run,ah] <;> rfl
def zb4(K:nV):V->Option Int->Option Int->Hp->VK->Prop:=λx lo hi H Q=>onRef x λa=>∃xs,SqL K H a xs/\∀p,H p=rK->Q (.ref p) (upd H p (.lst (Q1 xs lo hi)))
theorem jK:SlR X (zb4 X.K):=by
 intro rN s σ H x v vl vu lo hi sl Q I rx hs pl pu h;obtain⟨a,rfl,xs,hx,q⟩:=onRef.of h;cases rx;obtain⟨its,r,ht,hz⟩:=I.list hx;have hlen:=r.length;refine#["list",_,slot_list_getitem.lookup,ht.isList.typeIs,?_];refine wpAny_getItem_list_slice ht.isList hs pl pu .none (by simp) ?_ (by rw[ah] <;> lia);rw[jb,<- hlen];refine#[.ref s⁻¹,_,I.laid (t':=s.toks) (o:=.lst (Q1 xs lo hi)) (λb ob q=>ag _ q) (al _) ?_,rfl,q _ (I.hok.fresh (al _))];exact#[aM (Zw xs lo hi) hz,_,0,(r.drop (HT.sIx xs.length 0 lo)).take (HT.sIx xs.length xs.length hi - HT.sIx xs.length 0 lo),aE _ rfl]
noncomputable def zbC:V->Bool
 | .non=>rL
 | .bl _=>rL
 | .int _=>rL
 | .str _=>rL
 | _=>rM
noncomputable def eqV:V->V->Bool
 | .non,.non=>rL
 | .bl a,.bl b=>a == b
 | .bl a,.int b=>(if a then 1 else 0) == b
 | .int a,.bl b=>a ==(if b then 1 else 0)
 | .int a,.int b=>a == b
 | .str a,.str b=>a == b
 | _,_=>rM
theorem Yq{A:oj}{s:nY}{y x:V}{u v:nX}(ry:RelV y u)(rx:RelV x v)(fy:zbC y=rL)(fx:zbC x=rL):SeqAt.EqAt A s u v (eqV y x):=by
 cases y with
 | non =>
  cases ry
  cases x with
  | non=>cases rx;exact SeqAt.EqAt.same _
  | bl b=>cases rx;exact SeqAt.EqAt.none_bool b
  | int b=>obtain⟨t,rfl⟩:=rx;exact SeqAt.EqAt.none_int b t
  | str b=>obtain⟨t,rfl⟩:=rx;exact SeqAt.EqAt.none_str b t
  | _=>exact absurd (show rM=rL from fx) aA
 | bl a =>
  cases ry
  cases x with
  | non=>cases rx;exact SeqAt.EqAt.bool_none a
  | bl b=>cases rx;exact SeqAt.EqAt.bool_bool a b
  | int b=>obtain⟨t,rfl⟩:=rx;exact SeqAt.EqAt.bool_int a b t
  | str b=>obtain⟨t,rfl⟩:=rx;exact SeqAt.EqAt.bool_str a b t
  | _=>exact absurd (show rM=rL from fx) aA
 | int a =>
  obtain⟨t',rfl⟩:=ry
  cases x with
  | non=>cases rx;exact SeqAt.EqAt.int_none a t'
  | bl b=>cases rx;exact SeqAt.EqAt.int_bool a t' b
  | int b=>obtain⟨t,rfl⟩:=rx;exact SeqAt.EqAt.int_int a t' b t
  | str b=>obtain⟨t,rfl⟩:=rx;exact SeqAt.EqAt.int_str a t' b t
  | _=>exact absurd (show rM=rL from fx) aA
 | str a =>
  obtain⟨t',rfl⟩:=ry
  cases x with
  | non=>cases rx;exact SeqAt.EqAt.str_none a t'
  | bl b=>cases rx;exact SeqAt.EqAt.str_bool a t' b
  | int b=>obtain⟨t,rfl⟩:=rx;exact SeqAt.EqAt.str_int a t' b t
  | str b=>obtain⟨t,rfl⟩:=rx;exact SeqAt.EqAt.str_str a t' b t
  | _=>exact absurd (show rM=rL from fx) aA
 | _=>exact absurd (show rM=rL from fy) aA
theorem xX:wq X (.type "list") (λxs H Q=>∃p ys,xs=[.ref p]/\(SqL X.K H p ys\/SqT X.K H p ys)/\∀l,H l=rK->Q (.ref l) (upd H l (.lst ys))):=by
 intro rN s σ H xs us Q I r h;obtain⟨p,ys,rfl,hq,q⟩:=h;obtain⟨u,rfl,rx⟩:=xP r;cases rx
 have fin:∀(its:List nX),Vals ys its->ys.length<=nU->∀(h':oo) (c':Nat),(∀b o',s.heap.get? b=rJ o'->h'.get? b=rJ o') ->
   h'.get? s⁻¹=rJ { cls:=.type "list",dict:=rK,data:=.seq its.toArray c',slots:=#[] }->EP X rN σ Q (.ref s⁻¹) { s with heap:=h' }:=λits r' hz h' c' kp e =>
  #[.ref s⁻¹,_,I.laid (t':=s.toks) kp (al _) (show ObjOk X.prog X.w _ h' _ (.lst ys)from #[hz,its,c',r',e]),rfl,q _ (I.hok.fresh (al _))]
 rcases hq with hq | hq
 ·obtain⟨its,r',pl,hz⟩:=I.list hq;have hlen:=r'.length;obtain⟨o,ho,hc,n,hd⟩:=pl.isList;exact call_list_seq p (.inl rfl) ho hc hd (λh' c' kp e=>fin its r' hz h' c' kp e) (by erw[ah] <;> lia)
 ·obtain⟨its,r',pl,hz⟩:=I.tuple hq;have hlen:=r'.length;obtain⟨o,ho,hc,n,hd⟩:=pl;exact call_list_seq p (.inr rfl) ho hc hd (λh' c' kp e=>fin its r' hz h' c' kp e) (by erw[ah] <;> lia)
def tyV(K:nV)(T:String)(x:V)(H:Hp):Prop:=match x with
 | .str _=>T="str"
 | .int _=>T="int"
 | .ref p=>(T="list"/\∃xs,SqL K H p xs)\/(T="tuple"/\∃o,K.lookup p=rJ o/\o.cls=.type "tuple"/\o.dict=rK) \/
   (T="dict"/\((∃kvs,H p=rJ (.dK kvs))\/∃kvs,H p=rJ (.dT kvs)))\/(T="set"/\∃S n,H p=rJ (.set S n))
 | _=>False
theorem zbz{rN:List (nW × oF)}{σ:St}{H:Hp}{s:nY}{T:String}{x:V}{v:nX}(I:Inv X rN σ H s)(r:RelV x v)(ty:tyV X.K T x H) :
  s.TypeIs v T/\∀a,v=.ref a->∃ob,s.heap.get? a=rJ ob/\ob.dict=rK:=by
 cases x with
 | str z =>
  obtain⟨t,rfl⟩:=r;cases (show T="str" from ty);exact#[typeIs_str s z t,λ_ e=>nomatch e]
 | int i =>
  obtain⟨t,rfl⟩:=r;cases (show T="int" from ty);exact#[typeIs_int s i t,λ_ e=>nomatch e]
 | ref p =>
  cases r;rcases ty with ⟨rfl,xs,hq⟩ | ⟨rfl,o,hk,hc,hd⟩ | ⟨rfl,hk⟩ | ⟨rfl,S,n,hk⟩
  ·obtain⟨its,_,pl,_⟩:=I.list hq;refine#[pl.isList.typeIs,λa e=>?_];cases e;obtain⟨o,n,e,c,hd,_⟩:=pl;exact#[o,e,hd]
  ·refine#[#[o,I.kIn p o hk,hc],λa e=>?_];cases e;exact#[o,I.kIn _ o hk,hd]
  ·have z:∃o,s.heap.get? p=rJ o/\o.ExactDict:=by
    rcases hk with ⟨kvs,hk⟩ | ⟨kvs,hk⟩
    ·obtain⟨_,_,_,_,o,_,_,e,ex,_⟩:=I.hok p _ hk;exact#[o,e,ex]
    ·obtain⟨_,_,_,_,o,_,_,e,ex,_⟩:=I.hok p _ hk;exact#[o,e,ex]
   obtain⟨o,e,ex⟩:=z;refine#[#[o,e,ex.1],λa e2=>?_];cases e2;exact#[o,e,ex.2.1]
  ·obtain⟨o,_,_,_,e,ex,_⟩:=I.hok p _ hk;refine#[#[o,e,ex.1],λa e2=>?_];cases e2;exact#[o,e,ex.2.1]
 | _=>exact False.elim ty
def tBM(K:nV)(T:String)(r:V->List V->Hp->VK->Prop)(to:TE)(t:TA):TE:=λσ H Q=>to σ H λx H1=>tyV K T x H1/\t σ H1 λxs H2=>r x xs H2 Q
variable{o e:ol}{es:List ol}{to:TE}{t:TA}{name:og}{apos cpos:oU}{T id:String}{r:V->List V->Hp->VK->Prop}
theorem uX(pa:PlainAttrs T)(slot:Slot T name id)(hty:typeOf (.builtin id)=pure (.type "method_descriptor"))(hm:MtR X id r)(ho:PE X o to)(ha:PA X (e::es) t)
  (hbase:attributeBase o name X.env (eval o X.env)=eval o X.env:=by rfl)
  (hfew:((oB cpos (nS (e::es) X.env)).all (λx=>!x.1) && (oH cpos (ow [] X.env)).all (λx=>x.1.isSome)
   && decide ((e::es).length+([]:List pT).length+(if ([]:List pT).isEmpty then 0 else 1)<30))=rL:=by rfl)
  (hline:(apos.endLine == cpos.line)=rL:=by rfl) (hs:nS (e::es) X.env=(rM,eval e X.env)::nS es X.env:=by rfl) (hplain:(oB cpos (nS es X.env)).any (·.1)=rM:=by rfl) :
  PE X (.Call (.Attribute o name apos) (e::es) [] cpos) (tBM X.K T r to t):=by
 intro rN s σ H Q I h;refine pK hbase hfew hline rfl (thn (ho rN s σ H _ I h) λv s1 ⟨x,H1,I1,r1,ty,q1⟩=>?_);obtain⟨h1,h2⟩:=zbz I1 r1 ty;refine#[T,id,pa,slot,hty,h1,h2,?_];have hA:=ha cpos rN s1 σ H1 _ I1 q1;rw[hs]at hA ⊢;refine Calls.callWith_builtin (by show (rM || (oB cpos (nS es X.env)).any (·.1))=rM;rw[hplain] <;> rfl) (Calls.evalArgs_plain ?_);exact thn hA λus s2 ⟨vs,H2,I2,r2,q2⟩=>hm rN s2 σ H2 x vs v us Q I2 r1 r2 q2
/- xs.append(e),list.index on a module's tuple .. are MtR facts of 06m -/
end
def MtM(X:Cx)(id:String)(r:V->List V->Hp->VK->Prop):Prop :=
 ∀(rN:List (nW × oF)) (s:nY) (σ:St) (H:Hp) (x:V) (xs:List V) (v:nX) (us:List nX) (Q:VK),Inv X rN σ H s->RelV x v->Vals xs us->r x xs H Q ->
  oa (model X.prog X.w) X.A (call (.builtin id) (v::us)) (EP X rN σ Q) X.xe s
theorem Vals.one:∀{x:V} {us:List nX},Vals [x] us->∃u,us=[u]/\RelV x u
 | _,_,.cons r .nil=>#[_,rfl,r]
theorem Vals.two:∀{x y:V} {us:List nX},Vals [x,y] us->∃u v,us=[u,v]/\RelV x u/\RelV y v
 | _,_,_,.cons r (.cons q .nil)=>#[_,_,rfl,r,q]
theorem Vals.zero:∀{us:List nX},Vals [] us->us=[]
 | _,.nil=>rfl
theorem Vals.reverse{xs:List V}{us:List nX}(h:Vals xs us):Vals xs.reverse us.reverse:=by
 induction h with
 | nil=>exact .nil
 | cons r t ih=>rw[dm,dm];exact Vals.append ih (.cons r .nil)
section
variable{X:Cx}{rN:List (nW × oF)}{σ:St}{H:Hp}{s:nY}{l b:nW}{xs ys zs:List V}
theorem Inv.lset{its its':List nX}{n:Nat}{f:Array nX->Array nX}{t':Nat}(I:Inv X rN σ H s)(hH:H l=rJ (.lst xs))
  (e:s.heap.get? l=rJ { cls:=.type "list",data:=.seq its.toArray n }) (hf:f its.toArray=its'.toArray) (hv:Vals ys its') (hz:ys.length<=nU) :
  Inv X rN σ (upd H l (.lst ys)) { s with heap:=s.heap.update l (Obj.mapSeq f),toks:=t' }:=by
 have q:=PySem.IsL.update e f;rw[hf]at q;refine I.write (x:=l) (e:=l) (by rw[hH];exact trivial) (.inl rfl) (λb' u hb hu=>(aw s.heap (Obj.mapSeq f) (Ne.symm hb)).trans hu) #[_,q] ?_;exact#[hz,its',_,hv,q]
theorem Inv.lnew{its:List nX}{t':Nat}(I:Inv X rN σ H s)(hv:Vals ys its)(hz:ys.length<=nU) :
  Inv X rN σ (upd H s⁻¹ (.lst ys)) { s with heap:=s.heap.push { cls:=.type "list",data:=.seq its.toArray },toks:=t' } :=
 I.laid (λ_ _ q=>ag _ q) (al _) #[hz,its,0,hv,aE _ rfl]
theorem Inv.fresh(I:Inv X rN σ H s):H s⁻¹=rK:=I.hok.fresh (al _)
theorem Inv.lstM(I:Inv X rN σ H s)(hH:H l=rJ (.lst xs)):xs.length<=nU/\∃(its:List nX) (n:Nat),Vals xs its/\xs.length=its.length/\s.heap.get? l=rJ { cls:=.type "list",data:=.seq its.toArray n }:=by
 obtain⟨z,its,n,r,e⟩:=I.hok l _ hH;exact#[z,its,n,r,r.length,e]
theorem Qk{n:Nat}(h:n<=nU):Builtin.List.listTooLong n=rM:=by
 unfold Builtin.List.listTooLong;exact decide_eq_false ⋯
end
section
variable{X:Cx}
def Wo:V->List V->Hp->VK->Prop:=λx vs H Q=>onRef x λl=>match vs with | [y]=>∃xs,H l=rJ (.lst xs)/\xs.length<nU/\Q .non (upd H l (.lst (xs ++ [y]))) | _=>False
theorem wn:MtM X "list.append" Wo:=by
 intro rN s σ H x vs v us Q I rx rv h;obtain⟨l,rfl,h2⟩:=onRef.of h
 obtain⟨y,rfl,xs,hH,hz,q⟩:∃y,vs=[y]/\∃xs,H l=rJ (.lst xs)/\xs.length<nU/\Q .non (upd H l (.lst (xs ++ [y]))):=by
  split at h2
  ·exact#[_,rfl,h2]
  ·exact h2.elim
 cases rx;obtain⟨u,rfl,ru⟩:=rv.one;obtain⟨z,its,n,r,hl,e⟩:=I.lstM hH;refine call_meets F.slot_list_append #[_,e,rfl] F.entry_list_append (F.args_list_append_2 _ _) (PySem.list_append l its.toArray n u (by rw[ah];lia)) #[e,?_];refine#[.non,_,I.lset (its':=its ++ [u]) hH e (by simp) (r.append (.cons ru .nil)) ?_,rfl,q];rw[aj,eV];lia
def VD:V->List V->Hp->VK->Prop:=λx vs H Q=>∃l b xs zs,x=.ref l/\vs=[.ref b]/\H l=rJ (.lst xs)/\H b=rJ (.lst zs)/\xs.length+zs.length<=nU/\Q .non (upd H l (.lst (xs ++ zs)))
theorem Vt:MtM X "list.extend" VD:=by
 intro rN s σ H x vs v us Q I rx rv h;obtain⟨l,b,xs,zs,rfl,rfl,hH,hB,hz,q⟩:=h;cases rx;obtain⟨u,rfl,ru⟩:=rv.one;cases ru;obtain⟨z,its,n,r,hl,e⟩:=I.lstM hH;obtain⟨z2,its2,n2,r2,hl2,e2⟩:=I.lstM hB;have hsz:its.toArray.size+its2.toArray.size<=nU:=by rw[ah,ah];lia
 have hlong:¬ (!its.toArray.isEmpty && Builtin.List.listTooLong (its.toArray.size+its2.toArray.size))=rL:=by
  rw[Qk hsz,dQ];exact aA
 refine call_meets F.slot_list_extend #[_,e,rfl] F.entry_list_extend (F.args_list_extend_2 _ _)
  (AutoSeq1.list_extend_list_list_0 l its.toArray n b its2.toArray n2 hlong (by rw[ah];lia) ⋯) #[e,e2,?_]
 refine#[.non,_,I.lset (its':=its ++ its2) hH e (by simp) (r.append r2) ?_,rfl,q];rw[aj];lia
def zam:R2:=λx y H Q=>onRef x λl=>onRef y λb=>∃xs,H l=rJ (.lst xs)/\∃zs,H b=rJ (.lst zs)/\xs.length+zs.length<=nU/\∀p,H p=rK->Q (.ref p) (upd H p (.lst (xs ++ zs)))
theorem Yz:OpR X (binaryOp .Add) zam:=by
 intro rN s σ H x y v u Q I rx ry h;obtain⟨l,rfl,h2⟩:=onRef.of h;obtain⟨b,rfl,xs,hH,zs,hB,hz,q⟩:=onRef.of h2;cases rx;cases ry;obtain⟨z,its,n,r,hl,e⟩:=I.lstM hH;obtain⟨z2,its2,n2,r2,hl2,e2⟩:=I.lstM hB;refine PySem.P.add_list e e2 ?_ (by rw[ah,ah];lia);have ea:its.toArray ++ its2.toArray=(its ++ its2).toArray:=by simp
 rw[ea];exact#[.ref _,_,I.lnew (t':=s.toks) (r.append r2) (by rw[aj];lia),rfl,q _ I.fresh]
end
section
variable{prog:nZ}{w:oh}{A:oj}{E:nX->nY->Prop}{s:nY}
end
section
variable{X:Cx}
end
end L2
namespace Att
open PySem PySem.W PySem.Calls PyProof.Rows
theorem uK{P:Params}{h:oo}:∀(ns:List Int) (vs:List nX),WellAll P h vs (ns.map WData.int)->rf vs ns:=by
 intro ns
 induction ns with
 | nil =>
  intro vs w;rw[aF]at w;cases w;exact .nil
 | cons n ns ih =>
  intro vs w;rw[am]at w
  cases w with
  | cons a b =>
   cases a;exact .cons _ _ (ih _ b)
theorem script_of{l:rG}{n:Nat}(hn:l.most=rJ n){P:Params}{h:oo}{args:List WData}{vals:List nX}
  (hpre:l.row.toRowW.claim.pre args=rL) (hwl:WellAll P h vals args) :
  ∃a vs ns,vals=[Value.ref a]/\args=[WData.list (ns.map WData.int)]/\h.get? a=rJ { cls:=.type "list",data:=.seq vs.toArray }/\rf vs ns/\ns.length<=n:=by
 have hsh:WShape.hasAll [] args [.list .int]=rL:=(pre_splitW hpre).1;have hc:l.pre.holds [] { args:=args }=rL:=(pre_splitW hpre).2;obtain⟨d,r,rfl,h1,h2⟩:=hasAllW_cons hsh;obtain rfl:=hasAllW_nil h2;obtain⟨xs,rfl,h3⟩:=hasW_list h1;obtain⟨ns,rfl⟩:=items_int h3
 have hlen:ns.length<=n:=by
  unfold OpenLaw.pre at hc
  have h4:(WTm.not (.lt (.lit (.int (n:Int))) (.len (.arg 0)))).holds [] { args:=[.list (ns.map .int)] }=rL:=by
   have h4:=(holds_andW hc).1;rw[hn]at h4;exact h4
  have h5:=condW_of h4 (w_not (w_lt w_lit (w_len_list (w_arg rfl))));rw[ac]at h5;refine cN λq=>?_;have q':(n:Int)<((ns.length:Nat):Int):=⋯
  first
   | (rw[decide_eq_true q']at h5;exact absurd h5 ∅)
   | (simp at h5;lia)
 cases hwl with
 | cons w1 w2 =>
  cases w2
  cases w1 with
  | list ho hall=>exact#[_,_,ns,rfl,rfl,ho,uK ns _ hall,hlen]
theorem post_true(l:rG)(args:List WData):l.row.toRowW.claim.post args (.bool rL) args=rL :=
 postW_of (r:=l.row.toRowW) (X:=(rL == rL))
  (show WShape.has [] (.bool rL) .bool=rL by first | rfl | decide | simp [WShape.has,WShape.arms,WShape.armsAll])
  (show (WTm.eq .res (.lit (.bool rL))).value [] { args:=args,res:=rJ (.bool rL),after:=args }=rJ (.bool (rL == rL))from w_eq_bool (w_res rfl) w_lit) rfl
theorem attach{l:rG}{n:Nat}{q:nZ}{loose:List og}{XP:(og->Option nX)->oo->Prop}{YP:oh->oo->Prop}{d:DefRec}{x:og}
  (hn:l.most=rJ n) (hdf:d.params.defaults=[])
  (hbind:∀pm cd doc v:nX,bindArgs (docDef d.name d.params d.body d.scope pm cd doc) #[[v],[]]=pure [(x,v)])
  (hx:d.scope.names.lookup x=rJ .local\/d.scope.names.lookup x=rJ .cell)
  (hk:d.scope.kind=.function) (hco:d.scope.isCoroutine=rM) (hgen:d.scope.isGenerator=rM)
  (body:∀(w:oh) (s₀ s₁ s:nY) (mg mb:og->Option nX) (fa:nW) (o:oF) (pm cd doc:nX) (a:nW) (vs:List nX) (ns:List Int),
   Ground q loose [] XP w s₀ mg mb s₁.heap->YP w s₁.heap ->
   s₁.heap.get? fa=rJ o->o.data=.func (docDef d.name d.params d.body d.scope pm cd doc)->s₁.heap.CodeRec cd d.name->mg d.name=rJ (.ref fa) ->
   s₁.heap.get? a=rJ { cls:=.type "list",data:=.seq vs.toArray }->rf vs ns->ns.length<=n ->
   s.gens=#[]->s.os=s₁.os ->
   Fr s₁.heap s₁⁻¹ s.heap (bindL (pj d.name d.scope s₁⁻¹ fa cd).kindOf [(x,.ref a)] λ_=>rK) ->
   Cl s₁⁻¹ (cellsFrom (s₁⁻¹+1) d.scope.names []) s.heap (bindC (pj d.name d.scope s₁⁻¹ fa cd).kindOf [(x,.ref a)] λ_=>rK) ->
   oa (model l.prog w) (callerA.deeper (pj d.name d.scope s₁⁻¹ fa cd)) (execs d.body (pj d.name d.scope s₁⁻¹ fa cd))
    (λf s'=>f=.ret (.bool rL)/\OldK s₁.heap s'.heap/\s'.os=s₁.os/\pE s'.gens) (λ_ _=>False) s) :
  WalkO q loose XP YP l.row.toRowW d [] (λf vs=>fg f vs):=by
 intro w s₀ s₁ mg mb G Y fa o pm cd doc dV kV ho hd hcd hD hmg hg args vals as hpre hlay hrd hwl hlo;obtain rfl:dV=.none:=Dflts.none hD hdf;obtain rfl:kV=.none:=Dflts.noKw hD;obtain⟨a,vs,ns,rfl,rfl,hobj,hints,hlen⟩:=script_of hn hpre hwl;refine enter_call ?_;refine call_cells_ret (o:=o) (by rw[depth_caller];decide) ho (fd_plain hd) G.T.nolimit hcd (hbind pm cd doc (.ref a)) (λy hy=>?_) (λh₁ tk F X=>?_) hco hgen hk
 ·obtain rfl:y=(x,Value.ref a):=rV.mp hy;rcases hx with e | e
  ·exact .inl e
  ·exact .inr #[e,cellsFrom_some _ _ _ (.inl e)]
 ·refine oR (body w s₀ s₁ { s₁ with heap:=h₁,toks:=tk } mg mb fa o pm cd doc a vs ns G Y ho (fd_plain hd) hcd hmg hobj hints hlen hg rfl F X) (λf s' hq=>?_) (λ_ _ hq=>hq);obtain⟨rfl,h2,h3,h4⟩:=hq;exact#[.inl #[.bool rL,.bool rL,[],rfl,λ_=>rfl,.bool rL,post_true l _,λ_=>#[List.Pairwise.nil,λ_ hm=>(nomatch hm)]],h2,h3,h4]
section
variable{prog:nZ}{w:oh}{A:oj}{E:nX->nY->Prop}{s:nY}{K:Frag}
noncomputable def zdr(h:oo)(L d:nW):List (nW × oF):=(aR h.objs.size).filterMap λa=>if a=L\/a=d then rK else (h.get? a).map λo=>(a,o)
end
end Att
namespace L2
theorem kZ:∀{vs:List nX} {ns:List Int},rf vs ns->Vals (ns.map V.int) vs
 | _,_,.nil=>.nil
 | _,_,.cons n t h=>.cons #[t,rfl] (kZ h)
noncomputable def xt(s:ot)(j:Nat):ot:=match s with
 | .ClassDef _ _ _ body _ _ _ _ _ _ _=>body.getD j (.Pass #[0,0,0,0])
 | _=>.Pass #[0,0,0,0]
noncomputable def yC(s:ot):pq:=match s with
 | .FunctionDef _ a _ _ _ _ _ _ _ _=>a
 | _=>{ posonlyargs:=[],args:=[],vararg:=rK,kwonlyargs:=[],kw_defaults:=[],kwarg:=rK,defaults:=[] }
noncomputable def z8(s:ot):List ot:=match s with
 | .FunctionDef _ _ b _ _ _ _ _ _ _=>b
 | _=>[]
noncomputable def zg(s:ot):oN:=match s with
 | .FunctionDef _ _ _ _ _ _ sc _ _ _=>sc
 | _=>{ kind:=.function,names:=[],isGenerator:=rM,isCoroutine:=rM }
abbrev CX0:CXT:=λ_ _ _ _ _ _=>False
noncomputable abbrev E0:XK:=λ_ _ _=>False
theorem Xs{X:Cx}:vZ CX0 X E0:=λ_ _ _ _ _ _ _ h=>h.elim
structure Fun(K:nV)(x qual:og)(st:ot)(f:nW)(fd:oe):Prop where
 ex:∃(oc:nX) (od:Option nW) (kV doc pm:nX) (an:Option nW) (cdv ct:nX) (osl:Array (Option nX)),
  fd=bn x qual (yC st) (z8 st) (zg st) .none kV doc pm an cdv ct/\K.lookup f=rJ #[oc,od,.func fd,osl]/\bG K cdv qual=rL
 kp:aK K (.ref f)=rL
section
variable{P:nZ}{w:oh}{K:nV}{mg:og->Option nX}{base:oo}
theorem Fun.ok{x qual:og}{st:ot}{f:nW}{fd:oe}{N ps:List og}{k:Nat}{sp:Sp}(F:Fun K x qual st f fd)(S:zo N ps (zg st))(len:∀vs H Q E,sp vs H Q E->vs.length=ps.length)
  (hbody:∀(cdv:nX) (A:oj) (outer:List pM) (s:nY) (H:Hp) (vs:List V) (Q:VK) (E:XK),Room k (A.deeper (pj qual (zg st) s⁻¹ f cdv))->sp vs H Q E ->
   ∃t,PSs (uz CX0 P w K mg base N qual (zg st) f cdv A outer s H E).nox (z8 st) t/\t { nx:=λ_ H'=>Q .non H',rt:=Q } (start N vs) H):FnOk P w K mg base CX0 (k+1) f fd ps sp:=by
 obtain⟨oc,od,kV,doc,pm,an,cdv,ct,osl,rfl,lk,hcd⟩:=F.ex;refine Us lk hcd S len λA outer s H vs Q E hr hsp=>?_;obtain⟨t,h,q⟩:=hbody cdv A outer s H vs Q E hr hsp;exact#[t,h.nox,q]
theorem Fun.binds{x qual:og}{st:ot}{f:nW}{fd:oe}{ps:List og}(F:Fun K x qual st f fd)
  (h:∀(kV doc pm:nX) (an:Option nW) (cdv ct:nX) (us:List nX),us.length=ps.length->bindArgs (bn x qual (yC st) (z8 st) (zg st) .none kV doc pm an cdv ct) #[us,[]]=pure (ps.zip us)):Binds K fd ps []:=by
 obtain⟨oc,od,kV,doc,pm,an,cdv,ct,osl,rfl,lk,hcd⟩:=F.ex;exact .all (h kV doc pm an cdv ct)
theorem fun_mk{x qual:og}{st:ot}{f:nW}{oc:nX}{od an:Option nW}{osl:Array (Option nX)}{kV doc pm cdv ct:nX}(l:K.lookup f=rJ #[oc,od,.func (bn x qual (yC st) (z8 st) (zg st) .none kV doc pm an cdv ct),osl])
  (c:bG K cdv qual=rL) (k:aK K (.ref f)=rL):Fun K x qual st f (bn x qual (yC st) (z8 st) (zg st) .none kV doc pm an cdv ct):=#[#[oc,od,kV,doc,pm,an,cdv,ct,osl,rfl,l,c],k]
end
section
variable{X:Cx}
theorem pv(i:Nat){x:og}{pos:oU}(hN:X.N[i]? = rJ x:=by rfl)(hv:Vis X.env.scope x:=by first | exact Or.inl rfl | exact Or.inr (.inl rfl) | exact Or.inr (Or.inr rfl))(hd:(x ==("__debug__" : og))=rM:=by decide)
  (hcd:(x ==("__classdict__" : og))=rM:=by decide):PE X (.Name x pos) (z9 i):=zaG hN hv hd hcd
end
theorem zdV{A B:Prop}(h:A):if rL=rL then A else B:=by
 rw[if_pos rfl];exact h
theorem yU{c A B:Prop}[Decidable c](h1:c->A)(h2:¬ c->B):if c then A else B:=by
 by_cases h:c
 ·rw[if_pos h];exact h1 h
 ·rw[if_neg h];exact h2 h
def Same(H H':Hp):Prop:=∀b o,H b=rJ o->H' b=rJ o
theorem Same.refl(H:Hp):Same H H:=λ_ _ h=>h
theorem Same.trans{H H1 H2:Hp}(a:Same H H1)(b:Same H1 H2):Same H H2:=λc o h=>b c o (a c o h)
theorem Same.free{H H':Hp}(e:Same H H'){l:nW}(h:H' l=Option.none):H l=Option.none:=by
 cases q:H l with
 | none=>rfl
 | some o =>
  rw[e l o q]at h;cases h
theorem Same.seq{K:nV}{H H':Hp}{a:nW}{xs:List V}(e:Same H H')(h:SqL K H a xs):SqL K H' a xs:=by
 rcases h with (h | ⟨o,h⟩) | h
 ·exact .inl (.inl (e _ _ h))
 ·exact .inl (.inr #[o,e _ _ h])
 ·exact .inr h
end L2
open L2
namespace L3
noncomputable abbrev St:=L2.St
noncomputable abbrev cs(x:og):():=x.cps.toList
noncomputable abbrev tx(l:()):og:=⟨l.toArray⟩
theorem zaU(x:og):tx (cs x)=x:=by cases x;rfl
theorem uU(l:()):cs (tx l)=l:=rfl
theorem QV(x:og):x.length=(cs x).length:=by simp [Str.length,cs]
theorem zE(l:()):(tx l).length=l.length:=by simp [Str.length,tx]
theorem WR{x y:og}(h:cs x=cs y):x=y:=by rw[<- zaU x,<- zaU y,h]
theorem ub{l m:()}(h:tx l=tx m):l=m:=by rw[<- uU l,<- uU m,h]
theorem za9{l m:()}:tx l=tx m ↔ l=m:=#[ub,λh=>by rw[h]]
theorem yA(l m:()):tx l ++ tx m=tx (l ++ m):=by
 apply WR;show (tx l ++ tx m).cps.toList=l ++ m;rw[Str.cps_append];simp
noncomputable def cut{α:Type}(l:List α)(lo hi:Option Int):List α:=(l.drop (HT.sIx l.length 0 lo)).take (HT.sIx l.length l.length hi - HT.sIx l.length 0 lo)
theorem xR{α:Type}(l:List α)(lo hi:Option Int):(cut l lo hi).length<=l.length:=by
 unfold cut;rw[aC,aL];lia
theorem X6(a b:Nat):sliceRange (a:Int) (b:Int) 1=(aR (b - a)).map (λk=>a+k):=by
 unfold sliceRange
 have e:(if (1:Int) > 0 then (if (a:Int)<b then ((b:Int) - a+1 - 1) / 1 else 0)else (if (a:Int) > b then ((a:Int) - b - 1 - 1) / (-1)else 0)).toNat=b - a:=by
  rw[if_pos ∅];by_cases h:(a:Int)<b
  ·rw[if_pos h,Int.ediv_one];lia
  ·rw[if_neg h];lia
 show (aR ((if (1:Int) > 0 then (if (a:Int)<b then ((b:Int) - a+1 - 1) / 1 else 0)else (if (a:Int) > b then ((a:Int) - b - 1 - 1) / (-1)else 0)).toNat)).map _=_;rw[e];refine bA λk _=>?_;lia
theorem KO(lo hi:Option Int)(n:Nat):Builtin.Str.strSliceIndices lo hi 1 n=(aR (HT.sIx n n hi - HT.sIx n 0 lo)).map (λk=>HT.sIx n 0 lo+k):=by
 rw[<- X6]
 have clip:∀(v:Int) (d:Nat),max 0 (min (if v<0 then v+(n:Int)else v) (n:Int))=((HT.sIx n d (rJ v):Nat):Int):=λv d=>by
  show _=(((if v<0 then (v+(n:Int)).toNat else min v.toNat n):Nat):Int);by_cases hv:v<0
  ·erw[if_pos hv];lia
  ·erw[if_neg hv];lia
 have h1:((1:Int) > 0)=True:=by simp
 unfold Builtin.Str.strSliceIndices
 cases lo with
 | none =>
  cases hi with
  | none=>erw[h1,if_true];rfl
  | some j=>erw[h1,if_true,clip j n];rfl
 | some i =>
  cases hi with
  | none=>erw[h1,if_true,clip i 0];rfl
  | some j=>erw[h1,if_true,clip i 0,clip j n]
theorem Vb(x:og)(lo hi:Option Int):Txt.slice x lo hi=tx (cut (cs x) lo hi):=by
 have hn:x.length=x.cps.toList.length:=QV x;have hj:HT.sIx x.length x.length hi<=x.length:=HT.sIx_le _ _ (al _) hi;have hi0:HT.sIx x.length 0 lo<=x.length:=HT.sIx_le _ _ (ay _) lo;unfold Txt.slice;rw[KO];split
 ·rename_i h;have h':HT.sIx x.length x.length hi - HT.sIx x.length 0 lo=x.length:=by simpa using h
  apply WR;show x.cps.toList=cut x.cps.toList lo hi;unfold cut;rw[<- hn];by_cases z:x.length=0
  ·have:x.cps.toList=[]:=List.eq_nil_of_length_eq_zero ⋯;rw[this];simp
  ·have e0:HT.sIx x.length 0 lo=0:=⋯;rw[e0]at h' ⊢;rw[h',dU,hn,aG]
 ·apply WR;have h:=StrLaws.picks x.cps.toList (HT.sIx x.length x.length hi - HT.sIx x.length 0 lo) (HT.sIx x.length 0 lo) ⋯;show (List.filterMap (λk=>x.cps[k]?) _).toArray.toList=cut x.cps.toList lo hi;unfold cut;rw[<- hn];simpa using h
section
variable{X:Cx}
theorem XZ{v:nX}{o:Option Int}(p:IsPart v o):∃l:Option (Int × rh),v=partValue l/\l.map (·.1)=o:=by
 cases p with
 | none=>exact#[rK,rfl,rfl]
 | int i t=>exact#[rJ (i,t),rfl,rfl]
def za3:V->Option Int->Option Int->Hp->VK->Prop:=λx lo hi H Q=>onStr x λz=>z.length<=nU/\Q (.str (tx (cut (cs z) lo hi))) H
theorem yx:SlR X za3:=by
 intro rN s σ H x v vl vu lo hi sl Q I rx hs pl pu h;obtain⟨z,rfl,hz,q⟩:=onStr.of h;obtain⟨t,rfl⟩:=rx;obtain⟨l,rfl,el⟩:=XZ pl;obtain⟨u,rfl,eu⟩:=XZ pu;refine#["str",_,slot_str_getitem.lookup,typeIs_str s z t,?_];refine pJ (l:=l) (u:=u) (st:=rK) hs rfl ?_;have e:Txt.slice z lo hi=tx (cut (cs z) lo hi):=Vb z lo hi;have hl:(tx (cut (cs z) lo hi)).length<=nU:=by rw[zE];have:=xR (cs z) lo hi;rw[<- QV]at this;lia
 unfold sliceMade slicePicked;rw[el,eu];unfold Txt.slice at e;by_cases hc:((1:Int) == 1 && (Builtin.Str.strSliceIndices lo hi 1 z.length).length == z.length)=rL
 ·rw[if_pos hc]at e;have hc':(((rK:Option (Int × rh)).map (·.1)).getD 1 == 1 && (Builtin.Str.strSliceIndices lo hi (((rK:Option (Int × rh)).map (·.1)).getD 1) z.length).length == z.length)=rL:=hc;rw[if_pos hc'];exact#[.str (tx (cut (cs z) lo hi)),H,I,#[t,by rw[<- e]],q]
 ·rw[if_neg hc]at e;have hc':¬ (((rK:Option (Int × rh)).map (·.1)).getD 1 == 1 && (Builtin.Str.strSliceIndices lo hi (((rK:Option (Int × rh)).map (·.1)).getD 1) z.length).length == z.length)=rL:=hc;rw[if_neg hc'];show (Str.mk ((Builtin.Str.strSliceIndices lo hi 1 z.length).filterMap (z.cps[·]?)).toArray).length<=nU/\_;rw[e];refine#[hl,?_]
  exact#[.str (tx (cut (cs z) lo hi)),H,I.tok _,#[_,by
   show Value.str (Str.mk ((Builtin.Str.strSliceIndices lo hi 1 z.length).filterMap (z.cps[·]?)).toArray) _=_
   rw[e]],q]
theorem WF:OpR X (ou .LtE) (λx y H Q=>∃i j,x=.str i/\y=.str j/\Q (.bl (!(decide (cs j<cs i)))) H):=by
 intro rN s σ H x y v u Q I rx ry h;obtain⟨i,j,rfl,rfl,q⟩:=h;obtain⟨t,rfl⟩:=rx;obtain⟨t',rfl⟩:=ry;exact PySem.P.le_str #[.bl _,H,I,rfl,q]
theorem Qr:MtR X "str.count" (λx xs H Q=>∃z y,x=.str z/\xs=[.str y]/\Q (.int (Txt.count z y)) H):=by
 intro rN s σ H x xs v us Q I rx rv h;obtain⟨z,y,rfl,rfl,q⟩:=h;obtain⟨t,rfl⟩:=rx;obtain⟨u,rfl,t',rfl⟩:=xP rv;exact PySem.SC.count #[.int _,H,I.tok _,#[_,rfl],q]
theorem Vl:MtR X "str.find" (λx xs H Q=>∃z y,x=.str z/\xs=[.str y]/\Q (.int (Txt.find z y)) H):=by
 intro rN s σ H x xs v us Q I rx rv h;obtain⟨z,y,rfl,rfl,q⟩:=h;obtain⟨t,rfl⟩:=rx;obtain⟨u,rfl,t',rfl⟩:=xP rv;exact PySem.SC.find #[.int _,H,I.tok _,#[_,rfl],q]
end
section
variable{X:Cx}{rN:List (nW × oF)}{σ:St}{H:Hp}{s:nY}{fp:List nW}{h':oo}{t':Nat}
theorem Inv.turns(I:Inv X rN σ H s)(k:∀b o,b ∉ fp->s.heap.get? b=rJ o->h'.get? b=rJ o)(hf:∀b ∈ fp,xG X rN H b):Inv X rN σ H { s with heap:=h',toks:=t' }:=by
 have nit:∀b u,H b=rJ u->b ∉ fp:=λb u e z=>by rw[(hf b z).1]at e;cases e
 refine I.step (g':=s.gens) (d':=s.drawn) (ch:=fp) (λb hb=>?_) (λb o _ _ hc e _=>k b o hc e) (λb o _ _ hc e _=>#[o.slots,k b o hc e]) (λ_ _ _ _ n=>n)
  (λb o hc e=>#[o,k b o hc e]) (λ_ _ e=>e) (λ_ _ _ e=>e) (λb ps e=>#[#[],by rw[e];simp]) (λm hm=>?_) (λb u e=>?_) I.bare
 ·obtain⟨_,a1,_,a3,a4,a5⟩:=hf b hb;exact#[a3,a1,a4,a5]
 ·obtain⟨o,es,ep,ho,r⟩:=hm;exact#[o,es,ep,k _ o (λz=>(hf _ z).2.1 rfl) ho,r]
 ·refine (I.hok b u e).stay (λc v hc q=>k c v ?_ q) (λ_ q=>q) λ_ _ q=>q;rcases hc with z | z
  ·rw[z];exact nit b u e
  ·exact nit c _ z
theorem Inv.track{a:nW}{o:HO}(I:Inv X rN σ H s)(fa:xG X rN H a)(new:ObjOk X.prog X.w (upd H a o) s.heap a o):Inv X rN σ (upd H a o) s:=by
 obtain⟨a0,a1,a2,a3,a4,a5⟩:=fa;have e:s={ s with heap:=s.heap,gens:=s.gens,drawn:=s.drawn,toks:=s.toks }:=rfl;rw[e]
 refine I.step (g':=s.gens) (d':=s.drawn) (ch:=[a]) (λb hb=>?_) (λb o _ _ _ e _=>e) (λb o _ _ _ e _=>#[o.slots,e]) (λb o hc _ n=>?_)
  (λb o _ e=>#[o,e]) (λb xs e=>?_) (λb u xs e=>?_) (λb ps e=>?_) (λm hm=>hm) (λb u e=>?_) I.bare
 ·have eb:b=a:=by simpa using hb
  subst eb;exact#[a3,a1,a4,a5]
 ·rw[zq (by simpa using hc)];exact n
 ·rw[zq (zH e a0)];exact e
 ·rw[zq (zH e a0)];exact e
 ·exact#[#[],by rw[zq (zH e a0),e];simp]
 ·by_cases hb:b=a
  ·subst hb;rw[zc]at e;cases e;exact new
  ·rw[zq hb]at e;exact (I.hok b u e).stay (λc v _ q=>q) (λc q=>by rw[zq (zH q a0)];exact q) λc xs q=>by rw[zq (zH q a0)];exact q
end
noncomputable def Its(x:og):It:=#[λi _=>i<(cs x).length,λi H v H'=>H'=H/\∃c,(cs x)[i]? = rJ c/\v=.str (tx [c]),λi _=>i=(cs x).length]
theorem Qn{P:nZ}{w:oh}{K:nV}{tg:ol}{ty:String}(hty:["enumerate","zip","dict_itemiterator","dict_reverseitemiterator","odict_iterator","itertools.zip_longest","itertools.pairwise"].contains ty=rM)(it:nW)(x:og)(t:rh)
  (W:∀A:oj,A.handled=rK->Walks P w A it [it] [it] x.cps.size (SignAt x) λi h=>h.IsStrIter it ty x t i)
  (S:∀(A:oj) (i:Nat) (s:nY) (Q:nX->nY->Prop) (E:nX->nY->Prop),s.heap.IsStrIter it ty x t i->Q (.ref it) s->oa (model P w) A (pyIter (.ref it)) Q E s) :
  Jj P w K tg (Its x) [it] it (λi h=>h.IsStrIter it ty x t i) where
 mem:=by simp
 obj:=λi h st b hb=>by
  have e:b=it:=by simpa using hb
  subst e;obtain⟨o,e,c,d⟩:=st;exact#[o,e,λv z=>by rw[d]at z;cases z]
 keep:=λi h h' st k=>let #[o,e,r]:=st; #[o,k it (by simp) o e,r]
 item:=by
  intro X hP hw hK hc i rN s σ H E I hf st hg;subst hP hw hK;obtain⟨f0,f1,f2,f3,f4,f5⟩:=hf it (by simp);have hg':i<x.cps.size:=by have:i<x.cps.toList.length:=hg;simpa using this
  refine (W X.A (I.ok.hd hc)).item i s _ _ hg' st λv h' tk hv st' kk=>?_;obtain⟨c,u,hcc,rfl⟩:=hv;have I1:Inv X rN σ H { s with heap:=h',toks:=tk }:=I.turned (λb o hb e=>kk b o (by simpa using hb) e) f0 f1 f3 f4 f5;obtain⟨o,e,cl,d⟩:=id st';refine#[_,rfl,Wn (s:={ s with heap:=h',toks:=tk }) e cl d hty #[.str (tx [c]),H,I1,#[u,rfl],#[rfl,c,?_,rfl],st',λb hb=>(hf b hb).1]];show x.cps.toList[i]? = rJ c;simpa using hcc
 done:=by
  intro X hP hw hK hc i rN s σ H E I hf st hg;subst hP hw hK;obtain⟨f0,f1,f2,f3,f4,f5⟩:=hf it (by simp);have hi:i=x.cps.size:=by have:i=x.cps.toList.length:=hg;simpa using this
  rw[hi]at st;exact (W X.A (I.ok.hd hc)).done s _ _ st λh' tk kk=>#[rfl,I.turned (λb o hb e=>kk b o (by simpa using hb) e) f0 f1 f3 f4 f5]
 self:=λA i s Q E st h=>S A i s Q E st h
section
variable{X:Cx}{tg:ol}
def zdo(tl:TE):TI:=λσ H R=>tl σ H λv H1=>∃x,v=.str x/\R (Its x) H1
theorem V3{l:ol}{tl:TE}(hl:PE X l tl):PI X tg l (zdo tl):=by
 intro rN s σ H R I h;refine thn (hl rN s σ H _ I h) λv s1 ⟨y,H1,I1,r1,q1⟩=>?_;obtain⟨x,e,q⟩:=q1;subst e;obtain⟨t,rfl⟩:=r1
 have fin:∀(ty:String) (hty:["enumerate","zip","dict_itemiterator","dict_reverseitemiterator","odict_iterator","itertools.zip_longest","itertools.pairwise"].contains ty=rM)
   (W:∀A:oj,A.handled=rK->Walks X.prog X.w A s1⁻¹ [s1⁻¹] [s1⁻¹] x.cps.size (SignAt x) λi h=>h.IsStrIter s1⁻¹ ty x t i)
   (S:∀(A:oj) (i:Nat) (s:nY) (Q:nX->nY->Prop) (E:nX->nY->Prop),s.heap.IsStrIter s1⁻¹ ty x t i->Q (.ref s1⁻¹) s->oa (model X.prog X.w) A (pyIter (.ref s1⁻¹)) Q E s),
   PIE X rN σ tg R (.ref s1⁻¹) { s1 with heap:=s1.heap.push { cls:=.type ty,data:=.fields (List.toArray [.str x t,.int 0 0]) } }:=λty hty W S=>by
  refine#[s1⁻¹,[s1⁻¹],_,_,H1,rfl,I1.kept (t':=s1.toks) λb o e=>ag _ e,Qn hty _ x t W S,#[_,aE _ rfl,rfl,rfl],λb hb=>?_,q];have e:b=s1⁻¹:=by simpa using hb
  subst e;exact I1.fpOk (al _) (I1.hok.fresh (al _))
 cases ha:x.cps.all (· < 128)
 ·exact wpAny_pyIter_wide ha (fin "str_iterator" ∅ (λA hA=>Walks.strWide hA _ x t) λA i s Q E st h=>wpAny_pyIter_striter_wide st h)
 ·exact wpAny_pyIter_ascii ha (fin "str_ascii_iterator" ∅ (λA hA=>Walks.strAscii hA _ x t) λA i s Q E st h=>wpAny_pyIter_striter_ascii st h)
end
theorem JI{x:og}{g:TG}{tb:TS}{D:wU}{σ:St}{H:Hp}(Pv:Nat->St->Hp->Prop)(h0:Pv 0 σ H)
  (hs:∀i c σ H,(cs x)[i]? = rJ c->Pv i σ H->g (.str (tx [c])) σ H λσ2 H2=>tb { D with nx:=Pv (i+1),ct:=Pv (i+1),bk:=D.nx } σ2 H2) (hd:∀σ H,Pv (cs x).length σ H->D.nx σ H) :
  ∃W:Nat->Nat->St->Hp->Prop,(∃m,W 0 m σ H)/\∀i m σ H,W i m σ H ->
   ((Its x).stop i H/\D.nx σ H)\/((Its x).go i H/\∃N:St->Hp->Prop,(∀σ' H',N σ' H'->∃m',m'<m/\W (i+1) m' σ' H')/\∀v H',(Its x).yld i H v H'->g v σ H' λσ2 H2=>tb { D with nx:=N,ct:=N,bk:=D.nx } σ2 H2):=by
 refine#[λi m σ H=>m=(cs x).length - i/\i<=(cs x).length/\Pv i σ H,#[(cs x).length,by simp,ay _,h0],?_];rintro i m σ H ⟨rfl,hi,p⟩;by_cases hlt:i<(cs x).length
 ·refine .inr #[hlt,Pv (i+1),λσ' H' p'=>#[(cs x).length - (i+1),⋯,rfl,hlt,p'],λv H' y=>?_];obtain⟨e,c,hc,ev⟩:=y;subst e ev;exact hs i c σ _ hc p
 ·have e:i=(cs x).length:=⋯;subst e;exact .inl #[rfl,hd σ H p]
noncomputable def Ite(x:og):It:=#[λi _=>i<(cs x).length,λi H v H'=>∃p c,H p=rK/\(cs x)[i]? = rJ c/\v=.ref p/\H'=upd H p (.tup [.int (i:Nat),.str (tx [c])]),λi _=>i=(cs x).length]
section
variable{X:Cx}
def zcQ(ta:TA):TI:=λσ H R=>ta σ H λvs H1=>∃x,vs=[.str x]/\R (Ite x) H1
end
theorem vD{env:pM}:∀(names:List (og × pG)) (rP:List (og × nW)),
    (∀y,(y,NameKind.free) ∈ names->∃c,env.cells.lookup y=rJ c)->(∀y c,rP.lookup y=rJ c->env.cells.lookup y=rJ c) ->
    ∃cl,(forIn names rP λ(x:og × pG) (cs:List (og × nW))=>if (x.2 == NameKind.free)=rL then (do let a <- cellOf env x.1;pure (ForInStep.yield ((x.1,a)::cs)))else pure (ForInStep.yield cs):rz (List (og × nW)))=pure cl /\
      (∀y c,cl.lookup y=rJ c->env.cells.lookup y=rJ c)/\(∀y,(y,NameKind.free) ∈ names\/(rP.lookup y).isSome=rL->∃c,cl.lookup y=rJ c)
  | [],rP,_,ha=>#[rP,rfl,ha,λy h=>by
      rcases h with h | h
      . cases h
      . exact sk.mp h]
  | (n,k)::r,rP,hn,ha=>by
    by_cases hk:k=NameKind.free
    . subst hk
      obtain⟨c,hc⟩:=hn n (by simp)
      have ha':∀y d,((n,c)::rP).lookup y=rJ d->env.cells.lookup y=rJ d:=λy d e=>by
        rw[aV]at e;by_cases hy:(y == n)=rL
        . rw[hy]at e
          have:y=n:=eq_of_beq hy;subst this;cases e;exact hc
        . have hy':(y == n)=rM:=by simpa using hy
          rw[hy']at e;exact ha y d e
      obtain⟨cl,e,h1,h2⟩:=vD r ((n,c)::rP) (λy hy=>hn y (aq _ hy)) ha';refine#[cl,?_,h1,λy hy=>h2 y ?_]
      . rw[eQ]
        have ec:cellOf env n=pure c:=by unfold cellOf;rw[hc]
        erw[beq_self_eq_true,if_true,ec,pure_bind]
        exact e
      . rcases hy with hy | hy
        . rcases rS.mp hy with q | q
          . cases q
            exact .inr (by simp)
          . exact .inl q
        . refine .inr ?_
          rw[aV];by_cases hyn:(y == n)=rL
          . rw[hyn];rfl
          . have hy':(y == n)=rM:=by simpa using hyn
            rw[hy'];exact hy
    . obtain⟨cl,e,h1,h2⟩:=vD r rP (λy hy=>hn y (aq _ hy)) ha
      refine#[cl,?_,h1,λy hy=>h2 y ?_]
      . rw[eQ]
        have ek:(k == NameKind.free)=rM:=by simpa using hk
        erw[ek,aU,if_false,pure_bind]
        exact e
      . rcases hy with hy | hy
        . rcases rS.mp hy with q | q
          . cases q;exact absurd rfl hk
          . exact .inl q
        . exact .inr hy
theorem wW{scope:oN}{env:pM}(hn:∀y,(y,NameKind.free) ∈ scope.names->∃c,env.cells.lookup y=rJ c) :
  ∃cl,closureFor scope env=pure cl/\(∀y c,cl.lookup y=rJ c->env.cells.lookup y=rJ c)/\(∀y,(y,NameKind.free) ∈ scope.names->∃c,cl.lookup y=rJ c):=by
 obtain⟨cl,e,h1,h2⟩:=vD scope.names [] hn (λy c h=>by cases h);refine#[cl,?_,h1,λy hy=>h2 y (.inl hy)];unfold closureFor
 erw[bind_pure]
 exact e
noncomputable abbrev Vd(ifs:List ol)(env:pM):rz Bool :=
 forIn ifs rL λc r=>if r=rL then (do let ok <- isTrue c env (eval c env);pure (ForInStep.yield ok))else pure (ForInStep.yield r)
theorem Vc{prog:nZ}{w:oh}{A:oj}{R:pS->nY->Prop}{s:nY}{elt tg iter:ol}{ifs:List ol}{scope:oN}{pos:oU}{it rP:nX}{env:pM}
  (I:Nat->nY->Prop) {EE:nX->nY->Prop} (hEE:EE=notedBy (model prog w) A env λe s'=>R (.error e) s')
  (turn:∀n s,I n s->oa (model prog w) A (pyNext it) (λr s1=>match r with
   | none=>R (.ok .next) s1
   | some v=>oa (model prog w) A (letOwnedTupleGo tg it v) (λ_ s2=>oa (model prog w) A (assign tg env v) (λ_ s3 =>
     oa (model prog w) A (Vd ifs env) (λok s4=>if ok=rL then
      oa (model prog w) A (eval elt env) (λx s5=>oa (model prog w) A (call (.builtin "list.append") [rP,x]) (λ_ s6=>∃m,m<n/\I m s6) EE s5) EE s4
      else ∃m,m<n/\I m s4) EE s3) EE s2) EE s1) EE s) (n:Nat) (h:I n s) :
  oS (model prog w) A (.compLoop (.ListComp elt [#[tg,iter,ifs,0]] scope pos) 0 it rP env) R s:=by
 subst hEE;refine codeAny_loop rfl I (λn s hI=>?_) n h;show oa _ A ((compTurn (.ListComp elt [#[tg,iter,ifs,0]] scope pos) 0 it rP env).onRaise (λx=>do noteFrame x env;theTreesLotGoes x)) _ _ s;refine wpAny_noted ?_;rw[compTurn_list];refine nP (oP (nP (thn (turn n s hI) λr s1 h1=>?_)))
 cases r with
 | none=>exact nQ h1
 | some v =>
  refine nP (thn h1 λ_ s2 h2=>nP (thn h2 λ_ s3 h3=>nP (thn h3 λok s4 h4=>?_)))
  cases ok with
  | false=>exact nQ #[rfl,h4]
  | true=>exact nP (nP (thn h4 λx s5 h5=>nP (thn h5 λ_ s6 h6=>nQ (nQ #[rfl,h6]))))
noncomputable def yf(X:Cx)(scope:oN)(cl:List (og × nW))(C:nW)(N:List og)(rN:List (nW × oF))(s3:nY)(H3:Hp)(fp:List nW)(E:nX->nY->Prop):Cx :=
 { X with N:=N,s₀:=s3,H₀:=H3,env:=compEnvC scope cl C X.env,outer:=X.stack,ex:=fp,fn:=λ_=>rM,pn:=X.pn ++ rN,xe:=E }
noncomputable def vx(σ:St)(own:Nat)(ix:()):St:=ce own rK ++ ix.map λi=>(σ[i]?).join
structure qZ(X:Cx)(scope:oN)(own caps:List og)(ix:()):Prop where
 kind:scope.kind=.function
 nocell:∀y ∈ scope.names,y.2≠.cell
 names:∀y ∈ scope.names,y.2=.local->scope.names.lookup y.1=rJ .local
 free:∀y,(y,NameKind.free) ∈ scope.names->X.env.kindOf y=rJ .cell\/X.env.kindOf y=rJ .free
 hown:∀y ∈ own,scope.names.lookup y=rJ .local
 hcaps:∀y ∈ caps,scope.names.lookup y=rJ .free
 hix:ix.map (λi=>X.N[i]?)=caps.map rJ
theorem xB{α β:Type}[BEq α][LawfulBEq α]{l:List (α × β)}{a:α}{b:β}(h:l.lookup a=rJ b):(a,b) ∈ l:=by
 induction l with
 | nil=>cases h
 | cons p r ih =>
  obtain⟨c,d⟩:=p;rw[aV]at h;by_cases e:(a == c)=rL
  ·rw[e]at h;cases h;rw[eq_of_beq e];exact az
  ·have e':(a == c)=rM:=by simpa using e
   rw[e']at h;exact aq _ (ih h)
theorem wH{scope:oN}{env:pM}(hf:env.scope.kind=.function):∀{names:List (og × pG)} {x:og} {k:pG},names.lookup x=rJ k ->
    (names.map λ(n,k)=>if (k == NameKind.free && env.scope.kind == .function && env.kindOf n == rJ .cell)then (n,NameKind.cell)else (n,k)).lookup x=rJ (if (k == NameKind.free && env.scope.kind == .function && env.kindOf x == rJ .cell)=rL then .cell else k)
  | [],_,_,h=>by simp at h
  | (n,k')::r,x,k,h=>by
    have ih:=@wH scope env hf r x k;show bi x ((if (k' == NameKind.free && env.scope.kind == .function && env.kindOf n == rJ .cell)=rL then (n,NameKind.cell)else (n,k'))::_)=_;by_cases hx:(x == n)=rL
    . have hxn:x=n:=eq_of_beq hx
      subst hxn;rw[aV,hx]at h;cases h;by_cases c:(k' == NameKind.free && env.scope.kind == .function && env.kindOf x == rJ .cell)=rL
      . rw[if_pos c,if_pos c,aV,hx]
      . rw[if_neg c,if_neg c,aV,hx]
    . have hx':(x == n)=rM:=by simpa using hx
      rw[aV,hx']at h;by_cases c:(k' == NameKind.free && env.scope.kind == .function && env.kindOf n == rJ .cell)=rL
      . rw[if_pos c,aV,hx'];exact ih h
      . rw[if_neg c,aV,hx'];exact ih h
theorem uc{scope:oN}{env:pM}:∀{names:List (og × pG)} {x:og},names.lookup x=rK ->
    (names.map λ(n,k)=>if (k == NameKind.free && env.scope.kind == .function && env.kindOf n == rJ .cell)then (n,NameKind.cell)else (n,k)).lookup x=rK
  | [],_,_=>rfl
  | (n,k')::r,x,h=>by
    have ih:=@uc scope env r x;show bi x ((if (k' == NameKind.free && env.scope.kind == .function && env.kindOf n == rJ .cell)=rL then (n,NameKind.cell)else (n,k'))::_)=_;by_cases hx:(x == n)=rL
    . rw[aV,hx]at h;cases h
    . have hx':(x == n)=rM:=by simpa using hx
      rw[aV,hx']at h;by_cases c:(k' == NameKind.free && env.scope.kind == .function && env.kindOf n == rJ .cell)=rL
      . rw[if_pos c,aV,hx'];exact ih h
      . rw[if_neg c,aV,hx'];exact ih h
section
variable{X:Cx}{scope:oN}{own caps:List og}{ix:()}{cl:List (og × nW)}{rN:List (nW × oF)}{σ:St}{H:Hp}{s:nY}{fp:List nW}{E:nX->nY->Prop}
theorem Xa(S:qZ X scope own caps ix)(hcl1:∀y c,cl.lookup y=rJ c->X.env.cells.lookup y=rJ c)(hcl2:∀y,(y,NameKind.free) ∈ scope.names->∃c,cl.lookup y=rJ c)
  (I:Inv X rN σ H s) (hfp:∀b ∈ fp,xG X rN H b) (hlt:∀b ∈ fp,b<s⁻¹) {h4:oo} {t4:Nat} (hn:h4.Ns s⁻¹ λ_=>rK) (hk:∀b o,s.heap.get? b=rJ o->h4.get? b=rJ o) :
  Inv (yf X scope cl s⁻¹ (own ++ caps) rN s H fp E) [] (vx σ own.length ix) H { s with heap:=h4,toks:=t4 }:=by
 have kf:X.env.scope.kind=.function:=I.ok.kind;have nofp:∀b ∈ fp,b≠s⁻¹:=λb hb=>av (hlt b hb)
 have cellLt:∀x c,X.env.cells.lookup x=rJ c->c<s⁻¹:=λx c e=>by
  obtain⟨v,o,ho,_⟩:=I.cell x c e;exact ar ho
 have kinds:∀y k,scope.names.lookup y=rJ k->(relabel scope X.env).names.lookup y=rJ (if (k == NameKind.free && X.env.scope.kind == .function && X.env.kindOf y == rJ .cell)=rL then .cell else k):=λy k e=>wH (scope:=scope) kf e
 have back:∀y k,(relabel scope X.env).names.lookup y=rJ k->∃k',scope.names.lookup y=rJ k'/\k=(if (k' == NameKind.free && X.env.scope.kind == .function && X.env.kindOf y == rJ .cell)=rL then .cell else k'):=λy k e=>by
  cases q:scope.names.lookup y with
  | none =>
   have:=uc (scope:=scope) (env:=X.env) q;have e':(scope.names.map λ(n,k)=>if (k == NameKind.free && X.env.scope.kind == .function && X.env.kindOf n == rJ .cell)then (n,NameKind.cell)else (n,k)).lookup y=rJ k:=e;rw[this]at e';cases e'
  | some k' =>
   refine#[k',rfl,?_];have:=kinds y k' q;rw[e]at this;exact Option.some.inj this
 have isCell:∀y,scope.names.lookup y=rJ .free->(relabel scope X.env).names.lookup y=rJ .cell\/(relabel scope X.env).names.lookup y=rJ .free:=λy e=>by
  have:=kinds y _ e;rcases S.free y (xB e)with q | q
  ·refine .inl ?_;rw[this,if_pos];rw[q,kf];rfl
  ·refine .inr ?_;rw[this,if_neg];rw[q];simp
 refine#[#[I.ok.mod,?_,I.ok.glob,I.ok.blt,al _,?_,?_,?_,I.ok.hd,I.ok.frames,.inl rfl,?_,I.bs,aM I.ok.bsz I.sz,?_,?_,I.stack,I.stkFree],rfl,I.bare,Un.kept hk,#[_,hn,?_],?_,?_,?_,?_,I.hok.kept hk,?_]
 ·show (relabel scope X.env).kind=.function;exact S.kind
 ·intro x y c h1 h2;exact I.ok.inj x y c (hcl1 x c h1) (hcl1 y c h2)
 ·intro y hy;have hy':(relabel scope X.env).names.lookup y=rJ .cell\/(relabel scope X.env).names.lookup y=rJ .free:=hy
  have:scope.names.lookup y=rJ .free:=by
   rcases hy' with q | q
   ·obtain⟨k',e,ek⟩:=back y _ q;by_cases c:(k' == NameKind.free && X.env.scope.kind == .function && X.env.kindOf y == rJ .cell)=rL
    ·rw[bE,bE]at c;rw[e,eq_of_beq c.1.1]
    ·rw[if_neg c]at ek;exact absurd ek.symm (S.nocell _ (xB e))
   ·obtain⟨k',e,ek⟩:=back y _ q;by_cases c:(k' == NameKind.free && X.env.scope.kind == .function && X.env.kindOf y == rJ .cell)=rL
    ·rw[if_pos c]at ek;cases ek
    ·rw[if_neg c]at ek;rw[e,<- ek]
  exact hcl2 y (xB this)
 ·intro x c h _;exact absurd h (by simp [yf])
 ·intro b hb;refine#[nofp b hb,λx c e=>?_];exact (hfp b hb).2.2.2.2.1 x c (hcl1 x c e)
 ·intro b o e hb;obtain⟨_,_,_,q,_⟩:=hfp b hb;rcases q with q | q
  ·exact I.ok.noex b o e q
  ·exact absurd (au (ar e) (aM I.ok.bsz q)) (cE _)
 ·intro b hb z;rcases rS.mp (I.stkSub b z)with e | e
  ·exact (hfp b hb).2.1 e
  ·exact (hfp b hb).2.2.1 e
 ·intro i y v h1 h2 h3
  have hi:own.length<=i:=by
   refine cN λhlt'=>?_;unfold vx at h2;rw[dc (by rw[bN];exact hlt'),eL,if_pos hlt']at h2;cases h2
  have h1':caps[i - own.length]? = rJ y:=by
   have:(own ++ caps)[i]? = rJ y:=h1;rw[cw hi]at this;exact this
  have h2':(ix.map λi=>(σ[i]?).join)[i - own.length]? = rJ (rJ v):=by
   unfold vx at h2;rw[cw (by rw[bN];exact hi),bN]at h2;exact h2
  rw[ax]at h2';have hx:=congrArg (λl=>l[i - own.length]?) S.hix
  erw[ax,h1',Option.map_some]at hx
  cases q:ix[i - own.length]? with
  | none=>rw[q]at h2';cases h2'
  | some j =>
   rw[q]at h2' hx;have hj:X.N[j]? = rJ y:=Option.some.inj hx;have hv:(σ[j]?).join=rJ v:=Option.some.inj h2'
   have hσ:σ[j]? = rJ (rJ v):=by
    cases r:σ[j]? with
    | none=>rw[r]at hv;cases hv
    | some z=>rw[r]at hv;cases z with
     | none=>cases hv
     | some z=>cases hv;rfl
   have hfree:scope.names.lookup y=rJ .free:=S.hcaps y (af h1');have hkc:=S.free y (xB hfree);obtain⟨m,hm,hl⟩:=I.loc;obtain⟨u,ru,l⟩:=hl j y v hj hσ (.inr hkc);refine#[u,ru,.inr #[isCell y hfree,?_]];rcases l with ⟨k,_⟩ | ⟨_,c,e,z⟩
   ·have:X.env.kindOf y=rJ .local:=k;rcases hkc with q' | q' <;> (rw[q']at this;cases this)
   ·obtain⟨c',e'⟩:=hcl2 y (xB hfree);have:=hcl1 y c' e';rw[e]at this;cases this;obtain⟨o,ho,hd⟩:=z;exact#[c,e',o,hk c o ho,hd]
 ·intro x c e;obtain⟨v,o,ho,hd⟩:=I.cell x c (hcl1 x c e);exact#[v,o,hk c o ho,hd]
 ·exact I.hok.fresh (al _)
 ·intro x c e;exact I.freeC x c (hcl1 x c e)
 ·intro p hp
  have hp':p ∈ X.pn ++ rN:=by
   have:p ∈ (X.pn ++ rN) ++ []:=hp
   rwa [aQ]at this
  obtain⟨e,n,ne,nf,d⟩:=I.pin p hp';refine#[hk _ _ e,n,?_,λz=>?_,d]
  ·exact av (ar e)
  ·rcases rS.mp (I.stkSub p.1 z)with q | q
   ·exact ne q
   ·exact nf q
 ·show (vx σ own.length ix).length=(own ++ caps).length;have:=congrArg ci S.hix;rw[ac,ac]at this;unfold vx;rw[aj,bN,ac,aj,this]
end
def yZ(σ σ':St):Prop:=σ.length=σ'.length/\∀(i:Nat) v,σ[i]? = rJ (rJ v)->σ'[i]? = rJ (rJ v)
def PTs(X:Cx)(ifs:List ol)(t:TT):Prop :=
 ∀(rN:List (nW × oF)) (s:nY) (σ:St) (H:Hp) (Q:Bool->Hp->Prop),Inv X rN σ H s->t σ H Q->oa (model X.prog X.w) X.A (Vd ifs X.env) (TP X rN σ Q) X.xe s
def xQ:TT:=λ_ H Q=>Q rL H
theorem yh{X:Cx}:PTs X [] xQ:=λ_ _ _ H _ I h=>nQ #[H,I,h]
theorem Vn{X:Cx}{c:ol}{t:TT}(h:PT X c t):PTs X [c] t:=λrN s σ H Q I hq=>by
 show oa _ _ (forIn [c] rL _) _ _ s
 erw[eQ,List.forIn_nil,if_true]
 exact nP (nP (thn (h rN s σ H Q I hq) λb s' hb=>nQ (nQ hb)))
def uC(wi:TI)(g:TG)(tt:TT)(te:TE)(own:Nat)(ix:()):TE:=λσ H Q=>wi σ H λJ H1=>∀D,H1 D=rK->∃W:Nat->Nat->List V->Hp->Prop,(∃m,W 0 m [] (upd H1 D (.lst []))) /\
 ∀i m rP H',W i m rP H'->(J.stop i H'/\Q (.ref D) H')\/(J.go i H'/\∀x H2,J.yld i H' x H2->g x (vx σ own ix) H2 λσ3 H3=>yZ (vx σ own ix) σ3/\tt σ3 H3 λb H4=>if b=rL then
  te σ3 H4 λv H5=>H5 D=rJ (.lst rP)/\rP.length<nU/\∃m',m'<m/\W (i+1) m' (rP ++ [v]) (upd H5 D (.lst (rP ++ [v])))
  else ∃m',m'<m/\W (i+1) m' rP H4)
theorem Un.but{fs ex:List nW}{H H':Hp}{h h1 h2:oo}{a:nW}(u:Un fs ex H H' h h1)(sb:Heap.SameBut a h1 h2)(ha:h.get? a=rK):Un fs ex H H' h h2:=by
 have ne:∀b o,h.get? b=rJ o->b≠a:=λb o e z=>by subst z;rw[ha]at e;cases e
 refine#[λb o e n hb hx=>(sb.2 b (ne b o e)).trans (u.keep b o e n hb hx),λb o e n hb hx=>?_,u.free,λb o e hx=>?_,u.tups,u.frzs,u.tbls]
 ·obtain⟨sl,q⟩:=u.slot b o e n hb hx;exact#[sl,(sb.2 b (ne b o e)).trans q]
 ·obtain⟨o',q⟩:=u.there b o e hx;exact#[o',(sb.2 b (ne b o e)).trans q]
theorem HOk.but{P:nZ}{w:oh}{H:Hp}{h1 h2:oo}{a:nW}(ok:HOk P w H h1)(sb:Heap.SameBut a h1 h2)(ha:H a=rK):HOk P w H h2:=λb ob e=>by
 refine (ok b ob e).stay (λc u hc q=>(sb.2 c ?_).trans q) (λ_ q=>q) λ_ _ q=>q;rintro rfl;rcases hc with rfl | hc
 ·rw[ha]at e;cases e
 ·rw[ha]at hc;cases hc
section
variable{X:Cx}{scope:oN}{own caps:List og}{ix:()}{elt tg iter:ol}{ifs:List ol}{pos:oU}{wi:TI}{g:TG}{tt:TT}{te:TE}
def jx(i:Nat)(t:TE):TS:=λD σ H=>t σ H λx H1=>D.nx (σ.set i (rJ x)) H1
end
section
variable{X:Cx}{a b:ol}{ta tb:TE}{pos:oU}
def Xt:R2:=λx y H Q=>match x with | .int i=>onInt y λj=>Q (.int (i+j)) H | .str i=>onStr y λj=>i.length+j.length<=nU/\Q (.str (i ++ j)) H | .ref l=>zam (.ref l) y H Q | _=>False
theorem Zv:OpR X (binaryOp .Add) Xt:=by
 intro rN s σ H x y v u Q I rx ry h
 cases x with
 | int i=>exact z6 rN s σ H (.int i) y v u Q I rx ry h
 | str i=>exact zN rN s σ H (.str i) y v u Q I rx ry (by obtain⟨j,rfl,q⟩:=onStr.of h;exact#[i,j,rfl,rfl,q])
 | ref l=>exact Yz rN s σ H (.ref l) y v u Q I rx ry h
 | _=>exact h.elim
def zbK:R2:=λx y H Q=>match x with | .int i=>onInt y λj=>CMul i j/\Q (.int (i * j)) H | .str z=>onInt y λn=>0<=n/\n<=1000/\z.length<=1000/\Q (.str (tx (ce n.toNat (cs z)).flatten)) H | _=>False
def zdF:R2:=λx y H Q=>match x with | .int i=>onInt y λj=>Q (.bl (decide (i<j))) H | .str i=>onStr y λj=>Q (.bl (decide (cs i<cs j))) H | _=>False
def zcl:R2:=λx y H Q=>match x with | .int i=>onInt y λj=>Q (.bl (decide (i<=j))) H | .str i=>onStr y λj=>Q (.bl (!(decide (cs j<cs i)))) H | _=>False
theorem qW:OpR X (ou .LtE) zcl:=by
 intro rN s σ H x y v u Q I rx ry h
 cases x with
 | int i=>exact zcf rN s σ H (.int i) y v u Q I rx ry h
 | str i=>exact WF rN s σ H (.str i) y v u Q I rx ry (by obtain⟨j,rfl,q⟩:=onStr.of h;exact#[i,j,rfl,rfl,q])
 | _=>exact h.elim
theorem WV:OpR X (ou .Gt) (λx y H Q=>∃i j,x=.str i/\y=.str j/\Q (.bl (decide (cs j<cs i))) H):=by
 intro rN s σ H x y v u Q I rx ry h;obtain⟨i,j,rfl,rfl,q⟩:=h;obtain⟨t,rfl⟩:=rx;obtain⟨t',rfl⟩:=ry;exact PySem.P.gt_str #[.bl _,H,I,rfl,q]
def zcb:R2:=λx y H Q=>match x with | .int i=>onInt y λj=>Q (.bl (decide (j<i))) H | .str i=>onStr y λj=>Q (.bl (decide (cs j<cs i))) H | _=>False
theorem Vu:OpR X (ou .Gt) zcb:=by
 intro rN s σ H x y v u Q I rx ry h
 cases x with
 | int i=>exact Y7 rN s σ H (.int i) y v u Q I rx ry h
 | str i=>exact WV rN s σ H (.str i) y v u Q I rx ry (by obtain⟨j,rfl,q⟩:=onStr.of h;exact#[i,j,rfl,rfl,q])
 | _=>exact h.elim
def zcA(K:nV):V->Option Int->Option Int->Hp->VK->Prop:=λx lo hi H Q=>match x with | .ref a=>zb4 K (.ref a) lo hi H Q | .str z=>za3 (.str z) lo hi H Q | _=>False
theorem zaQ:SlR X (zcA X.K):=by
 intro rN s σ H x v vl vu lo hi sl Q I rx hs pl pu h
 cases x with
 | ref a=>exact jK rN s σ H (.ref a) v vl vu lo hi sl Q I rx hs pl pu h
 | str z=>exact yx rN s σ H (.str z) v vl vu lo hi sl Q I rx hs pl pu h
 | _=>exact h.elim
noncomputable def cV:V->Option nX
 | .ty n=>rJ (.type n)
 | .ref a=>rJ (.ref a)
 | _=>rK
theorem Qp:wq X (.builtin "isinstance") (λxs H Q=>∃x c u t b,xs=[x,c]/\cV c=rJ u/\YR X.K H x t/\aS X.K t u=rJ b/\Q (.bl b) H):=by
 intro rN s σ H xs us Q I r h;obtain⟨x,c,u,t,b,rfl,hc,ty,e,q⟩:=h;obtain⟨v,w',rfl,rx,rc⟩:=Xv r
 have:w'=u:=by
  cases c with
  | ty n=>cases hc;exact rc
  | ref a=>cases hc;exact rc
  | _=>cases hc
 subst this;exact X1 I rx ty e λtk=>#[.bl b,H,I.tok tk,rfl,q]
end
noncomputable def Iel(K:nV)(a:nW):It:=#[λi H=>∃xs x,SqL K H a xs/\xs[i]? = rJ x,λi H v H'=>∃p x,H p=rK/\(∀xs,SqL K H a xs->xs[i]? = rJ x)/\v=.ref p/\H'=upd H p (.tup [.int (i:Nat),x]),λi H=>∃xs,SqL K H a xs/\i=xs.length]
theorem Xo{P:nZ}{w:oh}{K:nV}{elts:List ol}{x1:Nat}{tpos:oU}(e it a:nW)(hei:e≠it) :
  Jj P w K (.Tuple elts x1 tpos) (Iel K a) [e,it] e (λi h=>(∃old,IsEnum h e it i old)/\h.IsListIter it a i) where
 mem:=by simp
 obj:=λi h st b hb=>by
  obtain⟨⟨old,he⟩,o,e2,c,d⟩:=st;rcases rS.mp hb with q | q
  ·subst q;exact#[_,he,λv z=>by have z':Data.fields _=Data.cell v:=z;cases z']
  ·have q':b=it:=by simpa using q
   subst q';exact#[o,e2,λv z=>by rw[d]at z;cases z]
 keep:=λi h h' st k=>by
  obtain⟨⟨old,he⟩,st⟩:=st;exact#[#[old,k e (by simp) _ he],st.at λo q=>k it (by simp) o q]
 item:=by
  intro X hP hw hK hc i rN s σ H E I hf st hg;subst hP hw hK;obtain⟨⟨old,he⟩,st⟩:=st;obtain⟨xs,x,hq,hx⟩:=hg;obtain⟨its,rv,p,hz⟩:=I.list hq;obtain⟨u,hu,ru⟩:=rv.get hx;have hA:X.A.in1.handled=rK:=I.ok.hd hc;have pl:=p.isList
  have hai:a≠it:=λz=>by
   subst z;obtain⟨o1,q1,c1,_⟩:=st;obtain⟨o2,q2,c2,_⟩:=pl;rw[q1]at q2;cases q2;rw[c1]at c2;exact absurd (Value.type.inj c2) ∅
  have hea:e≠a:=λz=>by
   subst z;obtain⟨o2,q2,c2,_⟩:=pl;rw[he]at q2;cases q2;exact absurd (Value.type.inj c2) ∅
  refine wpAny_pyNext_enum_itemD (Draws.list (A:=X.A.in1) hA it a hai its.toArray) he #[st,pl] (by rw[ah];exact (rQ.mp hu).1) hei (by simp [hei,hea]) λv h' tk hv ho st' hT hsz kk=>?_
  have ev:v=u:=by
   have hv':its.toArray[i]? = rJ v:=hv;rw[List.getElem?_toArray,hu]at hv';exact (Option.some.inj hv').symm
  subst ev;refine#[_,rfl,wpAny_letOwnedTupleGo_enum ho λh2 he2 sb=>?_];have elt:e<s⁻¹:=ar he;have ilt:it<s⁻¹:=by obtain⟨o,q,_⟩:=st;exact ar q
  have I1:Inv X rN σ H { s with heap:=h2,toks:=tk+1 }:=Inv.turns (fp:=[e,it]) I (λb o hb q=>by
   have hb':b≠e/\b≠it:=by simpa using hb
   exact (sb.2 b hb'.1).trans (kk b o hb'.1 hb'.2 q)) hf
  have hp:H s⁻¹=rK:=I.hok.fresh (al _);have hT2:h2.get? s⁻¹=rJ { cls:=.type "tuple",data:=.seq (List.toArray [.int (i:Nat) tk,v]) }:=(sb.2 _ (cj elt)).trans hT
  have I2:Inv X rN σ (upd H s⁻¹ (.tup [.int (i:Nat),x])) { s with heap:=h2,toks:=tk+1 } :=
   Inv.track I1 (I.fpOk (al _) hp) #[by show 2<=nU;decide,[.int (i:Nat) tk,v],.cons #[_,rfl] (.cons ru .nil),#[_,hT2,rfl,_,rfl]]
  refine#[.ref s⁻¹,_,I2,rfl,#[s⁻¹,x,hp,λys hy=>by rw[I.list_inj hy hq];exact hx,rfl,rfl],#[#[_,by simpa using he2],?_],λb hb=>?_]
  ·exact st'.1.at λo q=>(sb.2 it (Ne.symm hei)).trans q
  ·rw[zq]
   ·exact (hf b hb).1
   ·rcases rS.mp hb with q | q
    ·rw[q];exact av elt
    ·have q':b=it:=by simpa using q
     rw[q'];exact av ilt
 done:=by
  intro X hP hw hK hc i rN s σ H E I hf st hg;subst hP hw hK;obtain⟨⟨old,he⟩,st⟩:=st;obtain⟨xs,hq,hi⟩:=hg;obtain⟨its,rv,p,hz⟩:=I.list hq;have pl:=p.isList
  have hai:a≠it:=λz=>by
   subst z;obtain⟨o1,q1,c1,_⟩:=st;obtain⟨o2,q2,c2,_⟩:=pl;rw[q1]at q2;cases q2;rw[c1]at c2;exact absurd (Value.type.inj c2) ∅
  have hA:X.A.in1.handled=rK:=I.ok.hd hc;have hi':i=its.toArray.size:=by rw[ah,<- rv.length];exact hi
  subst hi';refine wpAny_pyNext_enum_endD (Draws.list (A:=X.A.in1) hA it a hai its.toArray) he #[st,pl] λh' hx=>#[rfl,?_];exact Inv.turns (fp:=[e,it]) (t':=s.toks) I (λb o hb q=>hx b o (λz=>hb (by simp [z])) q) hf
 self:=λA i s Q E st h=>by
  obtain⟨⟨old,he⟩,_⟩:=st;exact ra he h
section
variable{X:Cx}
def Wb(K:nV)(ta:TA):TI:=λσ H R=>ta σ H λvs H1=>∃a,vs=[.ref a]/\(∃xs,SqL K H1 a xs)/\R (Iel K a) H1
theorem yQ{a:ol}{ta:TA}{p pos tpos:oU}{elts:List ol}{x1:Nat}(hg:Gl X "enumerate")(hm:X.mg "enumerate" = rK)(ha:PA X [a] ta)(hs:nS [a] X.env=[(rM,eval a X.env)]:=by rfl) :
  PI X (.Tuple elts x1 tpos) (.Call (.Name "enumerate" p) [a] [] pos) (Wb X.K ta):=by
 intro rN s σ H R I h;refine Call_ (vb I hg hm PyProof.Rows.boot_enumerate (bI (thn (ha pos rN s σ H _ I h) λus s1 ⟨vs,H1,I1,r1,q1⟩=>?_) hs rfl));obtain⟨l,e,⟨xs,hq⟩,q⟩:=q1;subst e;obtain⟨u,rfl,ru⟩:=xP r1;cases ru;obtain⟨its,rv,pl,hz⟩:=I1.list hq;refine call_enumerate_list pl.isList λh' he hit hsz kk=>?_;have I2:Inv X rN σ H1 { s1 with heap:=h' }:=I1.kept (t':=s1.toks) kk;refine ra (s:={ s1 with heap:=h' }) (i:=0) he ?_;refine#[s1⁻¹+1,[s1⁻¹+1,s1⁻¹],_,_,H1,rfl,I2,Xo _ _ l (Nat.succ_ne_self _),#[#[_,he],hit],λb hb=>?_,q]
 have hb':s1⁻¹<=b:=by
  rcases rS.mp hb with e | e
  ·rw[e];exact cA _
  ·have:b=s1⁻¹:=by simpa using e
   rw[this];exact al _
 exact I1.fpOk hb' (I1.hok.fresh hb')
end
def ForEL(K:nV)(a:nW)(g:TG)(tb:TS)(D:wU)(σ:St)(H:Hp):Prop:=∃W:Nat->Nat->St->Hp->Prop,(∃m,W 0 m σ H)/\∀i m σ H,W i m σ H ->
 ((Iel K a).stop i H/\D.nx σ H)\/((Iel K a).go i H/\∃N:St->Hp->Prop,(∀σ' H',N σ' H'->∃m',m'<m/\W (i+1) m' σ' H')/\∀x H',(Iel K a).yld i H x H'->g x σ H' λσ2 H2=>tb { D with nx:=N,ct:=N,bk:=D.nx } σ2 H2)
theorem zbi{K:nV}{ta:TA}{g:TG}{tb:TS}{D:wU}{σ:St}{H:Hp}:Qt (Wb K ta) g tb D σ H=ta σ H λvs H1=>∃a,vs=[.ref a]/\(∃xs,SqL K H1 a xs)/\ForEL K a g tb D σ H1:=rfl
theorem ForEL.by{K:nV}{a:nW}{xs:List V}{g:TG}{tb:TS}{D:wU}{σ:St}{H:Hp}(Pv:Nat->St->Hp->Prop)(h0:Pv 0 σ H)(hl:∀i σ H,i<=xs.length->Pv i σ H->SqL K H a xs)
  (hs:∀i x σ H p,xs[i]? = rJ x->Pv i σ H->H p=rK->g (.ref p) σ (upd H p (.tup [.int (i:Nat),x])) λσ2 H2=>tb { D with nx:=Pv (i+1),ct:=Pv (i+1),bk:=D.nx } σ2 H2) (hd:∀σ H,Pv xs.length σ H->D.nx σ H):ForEL K a g tb D σ H:=by
 refine#[λi m σ H=>m=xs.length - i/\i<=xs.length/\Pv i σ H,#[xs.length,by simp,ay _,h0],?_];rintro i m σ H ⟨rfl,hi,p⟩;have q:=hl i σ H hi p;by_cases hlt:i<xs.length
 ·refine .inr #[#[xs,xs[i],q,by simp [hlt]],Pv (i+1),λσ' H' p'=>#[xs.length - (i+1),⋯,rfl,hlt,p'],λv H' y=>?_];obtain⟨p',x,hp,hx,ev,eH⟩:=y;subst ev eH;exact hs i x σ H p' (hx xs q) p hp
 ·have e:i=xs.length:=⋯;subst e;exact .inl #[#[xs,q,rfl],hd σ H p]
def zdY(K:nV)(a:nW)(g:TG)(tb:TS)(D:wU)(σ:St)(H:Hp):Prop:=∃W:Nat->Nat->St->Hp->Prop,(∃m,W 0 m σ H)/\∀i m σ H,W i m σ H ->
 ((Itt K a).stop i H/\D.nx σ H)\/((Itt K a).go i H/\∃N:St->Hp->Prop,(∀σ' H',N σ' H'->∃m',m'<m/\W (i+1) m' σ' H')/\∀x H',(Itt K a).yld i H x H'->g x σ H' λσ2 H2=>tb { D with nx:=N,ct:=N,bk:=D.nx } σ2 H2)
theorem zdq{K:nV}{tl:TE}{g:TG}{tb:TS}{D:wU}{σ:St}{H:Hp}:Qt (zd4 K tl) g tb D σ H=tl σ H λx H1=>∃a,x=.ref a/\(∃xs,SqT K H1 a xs)/\zdY K a g tb D σ H1:=rfl
def zcE(K:nV)(x:V)(H:Hp)(p:Bool->Prop):Prop:=match x with | .bl b=>p b | x=>∃k,zaw K x H k/\p k
def tTr(K:nV)(ta:TE):TT:=λσ H Q=>ta σ H λx H'=>zcE K x H' λk=>Q k H'
theorem Jw{K:nV}{ta:TE}{σ:L2.St}{H:Hp}{Q:Bool->Hp->Prop}:tTr K ta σ H Q=ta σ H λx H'=>zcE K x H' λk=>Q k H':=rfl
def tBl(ta:TE):TT:=λσ H Q=>ta σ H λx H'=>onBl x λk=>Q k H'
theorem KQ{ta:TE}{σ:L2.St}{H:Hp}{Q:Bool->Hp->Prop}:tBl ta σ H Q=ta σ H λx H'=>onBl x λk=>Q k H':=rfl
section
variable{X:Cx}{a:ol}{ta:TE}
theorem yM(ha:PE X a ta)(he:∀whole,isTrue a X.env whole=(do let v <- whole;standAt a.pos;holding [v] (truthy v))):PT X a (tBl ta):=by
 intro rN s σ H Q I h;refine isTrue_plain (thn (ha rN s σ H _ I h) λv s1 ⟨x,H1,I1,r1,q1⟩=>?_) (he _);obtain⟨k,rfl,q1⟩:=onBl.of q1;exact QM rN s1 σ H1 (.bl k) v Q I1 r1 #[k,rfl,q1]
end
noncomputable def Irv(K:nV)(a:nW)(n:Nat):It:=#[λi H=>∃xs,SqL K H a xs/\xs.length=n/\i<n,λi H v H'=>H'=H/\∀xs,SqL K H a xs->xs.length=n->xs[n - 1 - i]? = rJ v,λi H=>i=n]
theorem Qe{P:nZ}{w:oh}{K:nV}{tg:ol}(a it:nW)(n:Nat):Jj P w K tg (Irv K a n) [it] it (λi h=>i<=n/\h.IsRevIter it a ((n:Int) - 1 - (i:Int))) where
 mem:=by simp
 obj:=λi h st b hb=>by
  have e:b=it:=by simpa using hb
  subst e;obtain⟨_,o,e,c,d⟩:=st;exact#[o,e,λv z=>by rw[d]at z;cases z]
 keep:=λi h h' st k=>#[st.1,st.2.at λo e=>k it (by simp) o e]
 item:=by
  intro X hP hw hK hc i rN s σ H E I hf st hg;subst hP hw hK;obtain⟨xs,hq,hn,hi⟩:=hg;obtain⟨its,rv,p,hz⟩:=I.list hq;obtain⟨f0,f1,f2,f3,f4,f5⟩:=hf it (by simp);have hx:xs[n - 1 - i]? = rJ (xs[n - 1 - i]'⋯):=ae ⋯;generalize xs[n - 1 - i]'⋯=x at hx;obtain⟨u,hu,ru⟩:=rv.get hx;have st2:=st.2;have e:(n:Int) - 1 - (i:Int)=((n - 1 - i:Nat):Int):=⋯;rw[e]at st2;refine wpAny_pyNext_rev_item st2 p.isList (x:=u) (by simpa using hu) λh' st' sb=>?_;have I1:Inv X rN σ H { s with heap:=h' }:=I.turned (t':=s.toks) (λb o hb e=>(sb.2 b hb).trans e) f0 f1 f3 f4 f5;have e2:((n - 1 - i:Nat):Int) - 1=(n:Int) - 1 - ((i+1:Nat):Int):=⋯;rw[e2]at st';obtain⟨o,e,c,d⟩:=id st';exact#[u,rfl,Wn (s:={ s with heap:=h' }) e c d ∅ #[x,H,I1,ru,#[rfl,λys hy _=>by rw[I.list_inj hy hq];exact hx],#[hi,st'],λb hb=>(hf b hb).1]]
 done:=by
  intro X hP hw hK hc i rN s σ H E I hf st hg;subst hP hw hK;obtain⟨f0,f1,f2,f3,f4,f5⟩:=hf it (by simp);have hi:i=n:=hg;have st2:=st.2;rw[hi,show (n:Int) - 1 - (n:Int)=-1 by lia]at st2;exact wpAny_pyNext_rev_end (I.ok.hd hc) st2 λh' eb=>#[rfl,I.turned (t':=s.toks) (λb o hb e=>eb b o hb e) f0 f1 f3 f4 f5]
 self:=λ_ _ _ _ _ st h=>pN st.2 h
theorem UX:oG "reversed" = rJ (.type "reversed"):=PyProof.Rows.boot_reversed
section
variable{X:Cx}{tg:ol}
def zdO(K:nV)(ta:TA):TI:=λσ H R=>ta σ H λvs H1=>∃a xs,vs=[.ref a]/\SqL K H1 a xs/\R (Irv K a xs.length) H1
theorem zaZ{a:ol}{ta:TA}{p pos:oU}(hg:Gl X "reversed")(hm:X.mg "reversed" = rK)(ha:PA X [a] ta)(hs:nS [a] X.env=[(rM,eval a X.env)]:=by rfl) :
  PI X tg (.Call (.Name "reversed" p) [a] [] pos) (zdO X.K ta):=by
 intro rN s σ H R I h;refine Call_ (vb I hg hm UX (bI (thn (ha pos rN s σ H _ I h) λus s1 ⟨vs,H1,I1,r1,q1⟩=>?_) hs rfl));obtain⟨l,xs,e,hq,q⟩:=q1;subst e;obtain⟨u,rfl,ru⟩:=xP r1;cases ru;obtain⟨its,rv,pl,hz⟩:=I1.list hq;have hn:its.toArray.size=xs.length:=by rw[ah,<- rv.length]
 refine call_reversed_list pl.isList ?_
 have hit:(s1.heap.push (revObj l ((its.toArray.size:Int) - 1))).IsRevIter s1⁻¹ l ((xs.length:Int) - 1 - ((0:Nat):Int)):=by
  refine#[_,aE _ rfl,rfl,?_];rw[hn,show (xs.length:Int) - 1 - ((0:Nat):Int)=(xs.length:Int) - 1 by lia];rfl
 refine pN (s:={ s1 with heap:=s1.heap.push (revObj l ((its.toArray.size:Int) - 1)) }) hit ?_;refine#[s1⁻¹,[s1⁻¹],_,_,H1,rfl,I1.kept (t':=s1.toks) λb o e=>ag _ e,Qe l _ xs.length,#[ay _,hit],λb hb=>?_,q];have e:b=s1⁻¹:=by simpa using hb
 subst e;exact I1.fpOk (al _) (I1.hok.fresh (al _))
end
section
variable{prog:nZ}{w:oh}{A:oj}{E:nX->nY->Prop}{s:nY}
end
section
variable{X:Cx}
def zdi(K:nV)(ta:TA):TE:=λσ H Q=>ta σ H λvs H1=>∃a xs,vs=[.ref a]/\SqL K H1 a xs/\∀l,H1 l=rK->Q (.ref l) (upd H1 l (.lst xs.reverse))
theorem VR{K:nV}{ta:TA}{σ:L2.St}{H:Hp}{Q:VK}:zdi K ta σ H Q=ta σ H λvs H1=>∃a xs,vs=[.ref a]/\SqL K H1 a xs/\∀l,H1 l=rK->Q (.ref l) (upd H1 l (.lst xs.reverse)):=rfl
end
noncomputable def Izp(K:nV)(a b:nW):It:=#[λi H=>∃xs ys x y,SqL K H a xs/\SqL K H b ys/\xs[i]? = rJ x/\ys[i]? = rJ y,λi H v H'=>∃p x y,H p=rK/\(∀xs,SqL K H a xs->xs[i]? = rJ x)/\(∀ys,SqL K H b ys->ys[i]? = rJ y)/\v=.ref p/\H'=upd H p (.tup [x,y]),λi H=>∃xs ys,SqL K H a xs/\SqL K H b ys/\(xs.length=i\/ys.length=i)/\i<=xs.length/\i<=ys.length]
theorem xS{h:oo}{a b:nW}{o1 o2:oF}{t u:String}(h1:h.get? a=rJ o1)(c1:o1.cls=.type t)(h2:h.get? b=rJ o2)(c2:o2.cls=.type u)(hne:t≠u):a≠b:=λz=>by
 rw[z,h2]at h1;cases h1;rw[c2]at c1;exact hne (Value.type.inj c1).symm
structure za1(z TI TO i1 i2:nW):Prop where
 TIz:TI≠z
 TOz:TO≠z
 i1z:i1≠z
 i2z:i2≠z
 TITO:TI≠TO
 TIi1:TI≠i1
 TIi2:TI≠i2
 TOi1:TO≠i1
 TOi2:TO≠i2
 i12:i1≠i2
def ZipAt(z TI TO i1 i2 l1 l2:nW)(i:Nat)(h:oo):Prop:=IsZip h z TI TO .none/\IsPair h TI (.ref i1) (.ref i2)/\(∃a b,IsPair h TO a b)/\h.IsListIter i1 l1 i/\h.IsListIter i2 l2 i
theorem ZipAt.apart{z TI TO i1 i2 l1 l2:nW}{i:Nat}{h:oo}{xs ys:Array nX}(D:za1 z TI TO i1 i2)(st:ZipAt z TI TO i1 i2 l1 l2 i h)(h1:h.IsList l1 xs)(h2:h.IsList l2 ys):ZipApart z TI TO i1 i2 l1 l2:=by
 obtain⟨hz,hTI,⟨a,b,hTO⟩,⟨o1,e1,c1,_⟩,⟨o2,e2,c2,_⟩⟩:=st;obtain⟨p1,q1,k1,_⟩:=h1;obtain⟨p2,q2,k2,_⟩:=h2;exact#[D.TIz,D.TOz,D.i1z,D.i2z,D.TITO,D.TIi1,D.TIi2,D.TOi1,D.TOi2,D.i12,xS q1 k1 hz rfl ∅,xS q1 k1 hTO rfl ∅,xS q1 k1 e1 c1 ∅,xS q1 k1 e2 c2 ∅,xS q2 k2 hz rfl ∅,xS q2 k2 hTO rfl ∅,xS q2 k2 e1 c1 ∅,xS q2 k2 e2 c2 ∅]
section
variable{X:Cx}
def zdP(K:nV)(ta:TA):TI:=λσ H R=>ta σ H λvs H1=>∃a b,vs=[.ref a,.ref b]/\(∃xs,SqL K H1 a xs)/\(∃ys,SqL K H1 b ys)/\R (Izp K a b) H1
end
def zea(K:nV)(a b:nW)(g:TG)(tb:TS)(D:wU)(σ:L2.St)(H:Hp):Prop:=∃W:Nat->Nat->L2.St->Hp->Prop,(∃m,W 0 m σ H)/\∀i m σ H,W i m σ H ->
 ((Izp K a b).stop i H/\D.nx σ H)\/((Izp K a b).go i H/\∃N:L2.St->Hp->Prop,(∀σ' H',N σ' H'->∃m',m'<m/\W (i+1) m' σ' H')/\∀x H',(Izp K a b).yld i H x H'->g x σ H' λσ2 H2=>tb { D with nx:=N,ct:=N,bk:=D.nx } σ2 H2)
theorem zdw{K:nV}{ta:TA}{g:TG}{tb:TS}{D:wU}{σ:L2.St}{H:Hp}:Qt (zdP K ta) g tb D σ H=ta σ H λvs H1=>∃a b,vs=[.ref a,.ref b]/\(∃xs,SqL K H1 a xs)/\(∃ys,SqL K H1 b ys)/\zea K a b g tb D σ H1:=rfl
noncomputable abbrev xob(C:nW)(dx:Option nW)(t:nW)(tb:nX):oF:={ cls:=.ref C,dict:=dx,data:=.fields (List.toArray [.ref t,tb,.none,.none,.bool rM,.none]) }
noncomputable abbrev xog(C:nW)(dx:Option nW)(t:nW)(tb c:nX)(k:Bool):oF:={ cls:=.ref C,dict:=dx,data:=.fields (List.toArray [.ref t,tb,c,.none,.bool k,.none]) }
def Kr(h:oo)(x:nW)(tb:nX):Prop:=tb=.none\/∃T oT ts,tb=.ref T/\T≠x/\h.get? T=rJ oT/\oT.data=.fields ts/\3<ts.size
section
variable{M:pY}{A:oj}{E:nX->nY->Prop}{s:nY}{base:oo}{env env0:pM}{outer:List pM}{L x t C:nW}{dx:Option nW}{cx:nX}{kx:Bool}
theorem kL(h:env.frame=env0.frame):dZ env=dZ env0:=by unfold dZ;rw[h]
theorem jL{tb head:nX}{hadNext:Bool}{Q:Unit->nY->Prop}(hfr:A.frames=rJ (env0::outer))(hl:s.heap.FunFrames base (env0::outer))(hf:env0.frame=rJ L)(he:env.frame=rJ L)
  (hx:s.heap.get? x=rJ (xog C dx t tb cx kx))
  (h:∀h' oT ts,h'.get? x=rJ (xog C dx t (.ref s⁻¹) cx kx)->s⁻¹≠x->h'.get? s⁻¹=rJ oT->oT.data=.fields ts->3<ts.size ->
   (∀b o,b≠x->b ∉ frs (env0::outer)->s.heap.get? b=rJ o->h'.get? b=rJ o)->(∀b o,b≠x->s.heap.get? b=rJ o->∃sl,h'.get? b=rJ { o with slots:=sl })->Q Unit.unit { s with heap:=h' }) :
  oa M A (do let a <- dZ env;let pl <- entryPlaceOf L hadNext;let b <- EntryCells.newEntry head a .none (rawInt L) .none pl;setField (.ref x) 1 b) Q E s:=by
 have hxf:x ∉ frs (env0::outer):=λhm=>by
  obtain⟨_,o,ho,hnf⟩:=hl.mem hm;rw[hx]at ho;cases ho;exact hnf _ rfl
 rw[kL (he.trans hf.symm)];refine nP (wpAny_frameOf_fun hfr hl hf λh1 hs1=>nP (wpAny_entryPlaceOf λpl hpl=>?_));unfold EntryCells.newEntry newFields;refine nP (pA ?_ (hpl.sizeOk5 _ _ _ _ _));have hz:h1.objs.size=s⁻¹:=hs1.1;have hx1:h1.get? x=rJ (xog C dx t tb cx kx):=(hs1.2.1 x hxf).trans hx;generalize ho:({ cls:=.type "traceback",dict:=rK,data:=.fields ([head,.ref L,.none,rawInt L,.none] ++ (if pl.isEmpty then ce 6 Value.none else pl)).toArray }:oF)=ob;have hx2:(h1.push ob).get? x=rJ (xog C dx t tb cx kx):=ag _ hx1;refine oY hx2 rfl (by show 1<6;decide) ?_;have hne:h1.objs.size≠x:=cj (ar hx1)
 have hx3:((h1.push ob).update x (Obj.mapFields (·.setIfInBounds 1 (Value.ref h1.objs.size)))).get? x=rJ (xog C dx t (.ref h1.objs.size) cx kx) :=
  cu (Obj.mapFields (·.setIfInBounds 1 (Value.ref h1.objs.size))) hx2 rfl
 have hT:((h1.push ob).update x (Obj.mapFields (·.setIfInBounds 1 (Value.ref h1.objs.size)))).get? h1.objs.size=rJ ob :=
  (aw _ _ (Ne.symm hne)).trans (aE h1 (by rw[<- ho];rfl))
 rw[hz]at hx3 hT hne
 have kp:∀b o,b≠x->h1.get? b=rJ o->((h1.push ob).update x (Obj.mapFields (·.setIfInBounds 1 (Value.ref h1.objs.size)))).get? b=rJ o:=λb o hb e =>
  (aw _ _ (Ne.symm hb)).trans (ag _ e)
 rw[hz]at kp ⊢;refine h _ ob _ hx3 hne hT (by rw[<- ho]) (by erw[ah,aj,aJ,bS] <;> lia) (λb o hb hbf e=>kp b o hb ((hs1.2.1 b hbf).trans e)) λb o hb e=>?_;obtain⟨sl,q⟩:=hs1.2.2 b o e;exact#[sl,kp b _ hb q]
theorem jv{tb:nX}{Q:Unit->nY->Prop}(hfr:A.frames=rJ (env0::outer))(hl:s.heap.FunFrames base (env0::outer))(hf:env0.frame=rJ L)(he:env.frame=rJ L)
  (hx:s.heap.get? x=rJ (xog C dx t tb cx kx)) (htb:Kr s.heap x tb)
  (h:∀h' T oT ts,h'.get? x=rJ (xog C dx t (.ref T) cx kx)->T≠x->(tb=.ref T\/s⁻¹<=T)->h'.get? T=rJ oT->oT.data=.fields ts->3<ts.size ->
   (∀b o,b≠x->tb≠.ref b->b ∉ frs (env0::outer)->s.heap.get? b=rJ o->h'.get? b=rJ o)->(∀b o,b≠x->tb≠.ref b->s.heap.get? b=rJ o->∃sl,h'.get? b=rJ { o with slots:=sl })->Q Unit.unit { s with heap:=h' }) :
  oa M A (noteFrame (.ref x) env) (λ_ s1=>oa M A (setFlight (.ref x) rK) Q E s1) E s:=by
 have land:∀(h1:oo) (T:nW) (oT:oF) (ts:Array nX),h1.get? x=rJ (xog C dx t (.ref T) cx kx)->T≠x->(tb=.ref T\/s⁻¹<=T)->h1.get? T=rJ oT->oT.data=.fields ts->3<ts.size ->
   (∀b o,b≠x->tb≠.ref b->b ∉ frs (env0::outer)->s.heap.get? b=rJ o->h1.get? b=rJ o)->(∀b o,b≠x->tb≠.ref b->s.heap.get? b=rJ o->∃sl,h1.get? b=rJ { o with slots:=sl }) ->
   oa M A (setFlight (.ref x) rK) Q E { s with heap:=h1 }:=λh1 T oT ts e1 nT oldT e2 d2 z2 k1 k2=>by
  unfold setFlight;refine nP (pb (s:={ s with heap:=h1 }) e1 rfl (x:=.ref T) rfl ?_);rw[if_pos (show (Value.ref T != Value.none)=rL from by simp)];refine oY (s:={ s with heap:=h1 }) e2 d2 z2 ?_;have d3:=Obj.data_mapFields d2 (·.setIfInBounds 3 ((rK:Option nW).elim Value.none λf=>rawInt f))
  have nb:∀b,b≠x->tb≠.ref b->(∃o,s.heap.get? b=rJ o)->b≠T:=λb hb hbt ⟨o,eo⟩ z=>by
   subst z;rcases oldT with q | q
   ·exact hbt q
   ·exact absurd (ar eo) (Nat.not_lt.mpr q)
  refine h _ T _ _ ((aw _ _ nT).trans e1) nT oldT (cu _ e2 (Obj.isFreed_of_fields d3)) d3 (by simpa using z2) (λb o hb hbt hbf e=>?_) λb o hb hbt e=>?_
  ·exact (aw _ _ (Ne.symm (nb b hb hbt #[o,e]))).trans (k1 b o hb hbt hbf e)
  ·obtain⟨sl,q⟩:=k2 b o hb hbt e;exact#[sl,(aw _ _ (Ne.symm (nb b hb hbt #[o,e]))).trans q]
 unfold noteFrame
 erw[he]
 refine nP (pb hx rfl (x:=tb) rfl ?_);rcases htb with rfl | ⟨T,oT,ts,rfl,nT,e2,d2,z2⟩
 ·rw[if_neg ∅];refine jL hfr hl hf he hx λh' oT ts e1 ne e2 d2 z2 k1 k2=>land h' _ oT ts e1 ne (.inr (al _)) e2 d2 z2 (λb o hb _ hbf e=>k1 b o hb hbf e) λb o hb _ e=>k2 b o hb e
 ·rw[if_pos (show (Value.ref T != Value.none)=rL from by simp)];obtain⟨y,hy⟩:∃y,ts[3]? = rJ y:=#[ts[3],by simp [z2]];refine nP (pb e2 d2 (x:=y) hy ?_);by_cases c:(y == rawInt L)=rL
  ·rw[if_pos c];exact nQ (land s.heap T oT ts hx nT (.inl rfl) e2 d2 z2 (λb o _ _ _ e=>e) λb o _ _ e=>#[o.slots,e])
  ·rw[if_neg c];refine nP (oY e2 d2 z2 ?_);have oth:∀b,b≠T->(s.heap.update T (Obj.mapFields (·.setIfInBounds 3 Value.none))).get? b=s.heap.get? b:=λb hb=>aw _ _ (Ne.symm hb);have hl1:(s.heap.update T (Obj.mapFields (·.setIfInBounds 3 Value.none))).FunFrames base (env0::outer):=hl.of_keeps λb o hb hnf=>#[o,(oth b λq=>by rw[q,e2]at hb;cases hb;exact hnf ts d2).trans hb,rfl];have hsz:(s.heap.update T (Obj.mapFields (·.setIfInBounds 3 Value.none))).objs.size=s⁻¹:=cP ..;refine jL (s:={ s with heap:=s.heap.update T (Obj.mapFields (·.setIfInBounds 3 Value.none)) }) hfr hl1 hf he ((oth x (Ne.symm nT)).trans hx) λh' oT' ts' e1 ne e2' d2' z2' k1 k2=>?_;refine land h' _ oT' ts' e1 ne (.inr (by rw[hsz];exact al _)) e2' d2' z2' (λb o hb hbt hbf e=>k1 b o hb hbf ((oth b λq=>hbt (by rw[q])).trans e)) λb o hb hbt e=>k2 b o hb ((oth b λq=>hbt (by rw[q])).trans e)
theorem JG{tb:nX}{Q:Unit->nY->Prop}(hfr:A.frames=rJ (env0::outer))(hl:s.heap.FunFrames base (env0::outer))(hf:env0.frame=rJ L)(he:env.frame=rJ L)
  (hx:s.heap.get? x=rJ (xog C dx t tb cx kx)) (htb:Kr s.heap x tb)
  (h:∀h' T oT ts,h'.get? x=rJ (xog C dx t (.ref T) cx kx)->T≠x->(tb=.ref T\/s⁻¹<=T)->h'.get? T=rJ oT->oT.data=.fields ts->3<ts.size ->
   (∀b o,b≠x->tb≠.ref b->b ∉ frs (env0::outer)->s.heap.get? b=rJ o->h'.get? b=rJ o)->(∀b o,b≠x->tb≠.ref b->s.heap.get? b=rJ o->∃sl,h'.get? b=rJ { o with slots:=sl })->Q Unit.unit { s with heap:=h' }) :
  oa M A (leaving env (.ref x)) Q E s:=nP (jv hfr hl hf he hx htb h)
end
def CXx(P:nZ)(w:oh):CXT:=λouter H s E e s'=>∃(x C t:nW) (dx:Option nW) (tb:nX) (H':Hp),e=.ref x/\s'.os=s.os/\pE s'.gens/\Un (frs outer) [] H H' s.heap s'.heap/\HOk P w H' s'.heap /\
 s'.heap.get? x=rJ (xob C dx t tb)/\Kr s'.heap x tb/\H' x=rK/\s⁻¹<=x/\(∀T,tb=.ref T->H' T=rK/\s⁻¹<=T)/\E (.ref C) dx H'
def zaB(X:Cx)(E:XK)(e:nX)(s:nY):Prop:=∃(rN:List (nW × oF)) (σ:St) (H:Hp) (x C t:nW) (dx:Option nW) (tb:nX),e=.ref x/\Inv X rN σ H s /\
 s.heap.get? x=rJ (xob C dx t tb)/\Kr s.heap x tb/\xG X rN H x/\(∀T,tb=.ref T->xG X rN H T)/\E (.ref C) dx H
def XE(X:Cx)(E:XK):Prop:=∀e s,zaB X E e s->X.xe e s
theorem Yh{X:Cx}{E:XK}(hx:XE X E):vZ (CXx X.prog X.w) X E:=by
 intro rN σ H s e s' I h;obtain⟨x,C,t,dx,tb,H',rfl,os,bare,un,hok,ob,tr,hn,hsz,hT,q⟩:=h;have I':Inv X rN σ H' s':=I.call' os un hok bare λb z=>absurd z (by simp);exact hx _ _ #[rN,σ,H',x,C,t,dx,tb,rfl,I',ob,tr,I.fpOk hsz hn,λT e=>I.fpOk (hT T e).2 (hT T e).1,q]
theorem zbv{P:nZ}{w:oh}{K:nV}{mg:og->Option nX}{base:oo}{N:List og}{qual:og}{scope:oN}{f:nW}{cd:nX}{A:oj}{outer:List pM}{s:nY}{H:Hp}{E:XK} :
  XE (uz (CXx P w) P w K mg base N qual scope f cd A outer s H E) E:=by
 intro e s1 h;obtain⟨rN,σ,H1,x,C,t,dx,tb,rfl,I,ob,tr,fx,fT,q⟩:=h;show oa _ _ (leaving _ (.ref x)) _ _ s1;have ff:=I.stack;refine JG (A:=(uz (CXx P w) P w K mg base N qual scope f cd A outer s H E).A) (env0:=pj qual scope s⁻¹ f cd) (outer:=outer) I.ok.frames ff rfl rfl ob tr λh' T oT ts e1 nT oldT e2 d2 z2 k1 k2=>?_;have szs:s⁻¹<=s1⁻¹:=I.sz
 have hxs:s⁻¹<=x:=by
  rcases fx.2.2.2.1 with z | z
  ·exact absurd z (by simp [uz])
  ·exact z
 have hTs:s⁻¹<=T/\H1 T=rK:=by
  rcases oldT with z | z
  ·obtain⟨a0,_,_,a3,_⟩:=fT T z;rcases a3 with y | y
   ·exact absurd y (by simp [uz])
   ·exact#[y,a0]
  ·exact#[aM szs z,I.hok.fresh z]
 have tbs:∀b,tb=.ref b->s⁻¹<=b/\H1 b=rK:=λb hb=>by
  obtain⟨a0,_,_,a3,_⟩:=fT b hb;rcases a3 with y | y
  ·exact absurd y (by simp [uz])
  ·exact#[y,a0]
 have old:∀b o,s.heap.get? b=rJ o->b≠x/\tb≠.ref b:=λb o e=>by
  have hb:=ar e;refine#[av (au hb hxs),λz=>?_];exact absurd (au hb (tbs b z).1) (cE _)
 have un:Un (frs outer) [] H H1 s.heap h':=by
  have B:=I.base;refine#[λb o e n hb _=>?_,λb o e n hb _=>?_,λb o e n _=>B.free b o e n (by simp [uz]),λb o e _=>?_,B.tups,B.frzs,B.tbls]
  ·have e1:=B.keep b o e n hb (by simp [uz]);refine k1 b o (old b o e).1 (old b o e).2 (λz=>?_) e1;have z':=I.stkSub b z;rcases rS.mp z' with q | q
   ·exact absurd q (av (au (ar e) I.ok.above))
   ·exact hb q
  ·obtain⟨sl,e1⟩:=B.slot b o e n hb (by simp [uz]);obtain⟨sl',e2⟩:=k2 b _ (old b o e).1 (old b o e).2 e1;exact#[sl',e2]
  ·obtain⟨o',e1⟩:=B.there b o e (by simp [uz]);obtain⟨sl',e2⟩:=k2 b _ (old b o e).1 (old b o e).2 e1;exact#[_,e2]
 have hok:HOk P w H1 h':=λb u e=>by
  refine (I.hok b u e).stay (λc v hc q=>k1 c v ?_ ?_ ?_ q) (λ_ q=>q) λ_ _ q=>q
  ·rintro rfl;rcases hc with rfl | hc
   ·rw[fx.1]at e;cases e
   ·rw[fx.1]at hc;cases hc
  ·intro z;have:=(tbs c z).2;rcases hc with rfl | hc
   ·rw[this]at e;cases e
   ·rw[this]at hc;cases hc
  ·intro z;have:=I.stkFree c z;rcases hc with rfl | hc
   ·rw[this]at e;cases e
   ·rw[this]at hc;cases hc
 exact#[x,C,t,dx,.ref T,H1,rfl,I.os,I.bare,un,hok,e1,.inr #[T,oT,ts,rfl,nT,e2,d2,z2],fx.1,hxs,λT' z=>by cases z;exact#[hTs.2,hTs.1],q]
theorem Fun.okX{P:nZ}{w:oh}{K:nV}{mg:og->Option nX}{base:oo}{x qual:og}{st:ot}{f:nW}{fd:oe}{N ps:List og}{k:Nat}{sp:Sp}(F:Fun K x qual st f fd)(S:zo N ps (zg st))(len:∀vs H Q E,sp vs H Q E->vs.length=ps.length)
  (hbody:∀(cdv:nX) (A:oj) (outer:List pM) (s:nY) (H:Hp) (vs:List V) (Q:VK) (E:XK),Room k (A.deeper (pj qual (zg st) s⁻¹ f cdv))->XE (uz (CXx P w) P w K mg base N qual (zg st) f cdv A outer s H E) E->sp vs H Q E ->
   ∃t,PSs (uz (CXx P w) P w K mg base N qual (zg st) f cdv A outer s H E) (z8 st) t/\t { nx:=λ_ H'=>Q .non H',rt:=Q } (start N vs) H):FnOk P w K mg base (CXx P w) (k+1) f fd ps sp:=by
 obtain⟨oc,od,kV,doc,pm,an,cdv,ct,osl,rfl,lk,hcd⟩:=F.ex;exact Us lk hcd S len λA outer s H vs Q E hr hsp=>hbody cdv A outer s H vs Q E hr zbv hsp
def zaE(X:Cx)(E:XK)(e:nX)(s:nY):Prop:=∃(cx:nX) (kx:Bool) (rN:List (nW × oF)) (σ:St) (H:Hp) (x C t:nW) (dx:Option nW) (tb:nX),e=.ref x/\Inv X rN σ H s /\
 s.heap.get? x=rJ (xog C dx t tb cx kx)/\Kr s.heap x tb/\xG X rN H x/\(∀T,tb=.ref T->xG X rN H T)/\E (.ref C) dx H
def XEg(X:Cx)(E:XK):Prop:=∀e s,zaE X E e s->X.xe e s
structure RoomH(k:Nat)(A:oj):Prop where
 dp:A.depth+3 * k+5<pQ
 un:A.units+16 * k+200<cLine
theorem RoomH.mark{k:Nat}{A:oj}(r:RoomH k A)(e:Option nX):RoomH k (A.mark e):=#[r.dp,r.un]
noncomputable def cxH(P:nZ)(w:oh)(K:nV)(mg:og->Option nX)(base:oo)(N:List og)(qual:og)(scope:oN)(f:nW)(cd:nX)(A:oj)(outer:List pM)(s:nY)(H:Hp):Cx :=
 { uz CX0 P w K mg base N qual scope f cd A outer s H E0 with calm:=rM,xe:=λ_ _=>False }
section
variable{X:Cx}{k:Nat}{f:nW}{fd:oe}{ps:List og}{sp:Sp}{x:og}{p pos:oU}{e:ol}{es:List ol}{t:TA}
end
noncomputable abbrev bmV:List nX:=[.type "ValueError",.type "Exception",.type "BaseException",.type "object"]
noncomputable def ZO(K:nV)(C:nW):Bool:=match K.lookup C with
 | some ⟨.type "type",_,.cls cd,sl⟩=>(match cd.mro,sl.toList with
  | .ref C'::bm,[_,_,_,_,rJ (.builtin n),_]=>C' == C && (n == "ValueError.__new__" && (!cd.hasDel && (cd.hasDict && PySem.W.tailIn K bmV bm)))
  | _,_=>rM)
 | _=>rM
theorem vm{K:nV}{C:nW}(q:ZO K C=rL):∃bm N nm qn bs sn sub ab col dd k0 k1 k2 k3 k5,K.lookup C=rJ (pR nm qn C N bs bm rL sn sub ab col dd k0 k1 k2 k3 k5 "ValueError.__new__")/\∀h:oo,K.In h->OwnTail h bmV bm:=by
 unfold ZO at q;split at q
 ·rename_i dd cd sl ho;split at q
  ·rename_i C' bm k0 k1 k2 k3 n k5 hm hs
   erw[bE,beq_iff_eq,cJ]at q
   obtain⟨rfl,rfl,hdel,hdct,ht⟩:=q;obtain⟨nm,bs,mro,ns,qn,hd,sn,sub,ab,col,del⟩:=cd;dsimp only at hm hdel hdct;subst hm hdel hdct
   have hsl:sl=(List.toArray [k0,k1,k2,k3,rJ (.builtin "ValueError.__new__"),k5]):=by
    obtain⟨l⟩:=sl;simp only at hs;rw[hs]
   subst hsl;exact#[bm,ns,nm,qn,bs,sn,sub,ab,col,dd,k0,k1,k2,k3,k5,ho,λh X=>PySem.W.tail_of_in X ht]
  ·cases q
 ·cases q
structure XC(K:nV)(C:nW):Prop where
 ok:ZO K C=rL
 sa:ak K (.ref C) "__setattr__" = rJ (rJ (.builtin "object.__setattr__"))
 ga:ak K (.ref C) "__getattribute__" = rJ (rJ (.builtin "BaseException.__getattribute__"))
 gt:ak K (.ref C) "__getattr__" = rJ rK
 kp:aK K (.ref C)=rL
section
variable{prog:nZ}{w:oh}{A:oj}{R:pS->nY->Prop}{h:oo}{g:Array rg}{d:Drawn}{t:Nat}{os:OsState}{K:nV}{C:nW}
theorem Y5{init:nX}{rest:List nX}(X:K.In h)(q:ZO K C=rL)(hi:ak K (.ref C) "__init__" = rJ (rJ init))
  (hb:∀self,PySem.W.Looks (model prog w) h (bindSpecial init self) (init,[self])) (hrest:rest.length<=nU)
  (hq:oS (model prog w) (A.under (.builtin "type.__call__" #[.ref C::rest,[]])) (.call init #[.ref (h.objs.size+1)::rest,[]]) (PySem.W.InitBack (h.objs.size+1) R) #[(h.push { cls:=.type "tuple",data:=.seq rest.toArray }).push (xob C rK h.objs.size .none),g,d,t,os]) :
  oS (model prog w) A (.call (.ref C) #[rest,[]]) R #[h,g,d,t,os]:=by
 obtain⟨bm,N,nm,qn,bs,sn,sub,ab,col,dd,k0,k1,k2,k3,k5,lk,tl⟩:=vm q;have hC:=X _ _ lk;have T:=tl h X;have F:=d4;have f1:=tc_lookup;have f2:=tc_bind (.ref C);have hT:(#[h,g,d,t,os]:nY).TypeIs (.ref C) "type":=#[_,hC,rfl];refine codeAny_of_tree ?_;show oa _ _ (callAny (.ref C) _) _ _ _
 repeat (any_goals (first | assumption | with_reducible refine oK hC ?_ | wp_step))
 refine#[rfl,?_];refine codeAny_call_builtin_at (Code.quiet_builtin _ (by symm)) entry_typeCall (wpAny_check_type_call_sub hC ?_)
 repeat (first | with_reducible refine oK hC ?_ | with_reducible refine wpAny_madeBy_exc hC ?_ | wp_step)
 refine codeAny_call_builtin_code (Code.quiet_builtin _ F.quiet) (wpAny_check_new_subT F T hC ?_);refine codeAny_exc_new_subT F T hC ?_ hrest;show oa _ _ _ _ _ _;have k:∀b o,h.get? b=rJ o->((h.push { cls:=.type "tuple",data:=.seq rest.toArray }).push (xob C rK h.objs.size .none)).get? b=rJ o:=λb o e=>ag _ (ag _ e);have hC1:=k _ _ hC;have hget:((h.push { cls:=.type "tuple",data:=.seq rest.toArray }).push (xob C rK h.objs.size .none)).get? (h.objs.size+1)=rJ (xob C rK h.objs.size .none):=by heap_get
 have hcC:(Value.ref C::bm).contains (.ref C)=rL:=by simp
 unfold isInstance
 repeat (first | with_reducible refine oK hget ?_ | wp_step)
 refine pi (C:=C) hC1 ?_;rw[hcC]
 repeat wp_step
 show oa _ _ (typeLookup (.ref C) _) _ _ _;refine ((cz X hi).keeps k).at ?_;refine oz (nP (((hb _).keeps k).at ?_));refine nP (pc (ph hq λr s' z=>?_));rcases r with e | (v | _ | _ | _) <;> first | exact z | exact z.elim | skip;obtain⟨rfl,z⟩:=z;exact nQ (nQ z)
end
noncomputable def XN(x C:nW)(dx:Option nW):HO:=.ext λh=>∃t,h.get? x=rJ (xob C dx t .none)
noncomputable def XT(x C:nW)(dx:Option nW):HO:=.ext λh=>∃t tb c k,h.get? x=rJ (xog C dx t tb c k)
noncomputable def XP(x C:nW)(dx:Option nW):HO:=.ext λh=>∃t tb,h.get? x=rJ (xob C dx t tb)
theorem zby{P:nZ}{w:oh}{H:Hp}{h:oo}{x C t:nW}{dx:Option nW}(e:h.get? x=rJ (xob C dx t .none)):ObjOk P w H h x (XN x C dx) :=
 #[#[t,e],#[_,e],λh1 h2 ⟨t,q⟩ k=>#[t,k _ q]]
theorem zbr{P:nZ}{w:oh}{H:Hp}{h:oo}{x C t:nW}{dx:Option nW}{tb c:nX}{k:Bool}(e:h.get? x=rJ (xog C dx t tb c k)):ObjOk P w H h x (XT x C dx) :=
 #[#[t,tb,c,k,e],#[_,e],λh1 h2 ⟨t,tb,c,k',q⟩ k=>#[t,tb,c,k',k _ q]]
theorem zas{P:nZ}{w:oh}{H:Hp}{h:oo}{x C:nW}{dx:Option nW}(o:ObjOk P w H h x (XN x C dx)):∃t,h.get? x=rJ (xob C dx t .none):=o.1
theorem zdj{P:nZ}{w:oh}{H:Hp}{h:oo}{x C:nW}{dx:Option nW}(o:ObjOk P w H h x (XT x C dx)):∃t tb c k,h.get? x=rJ (xog C dx t tb c k):=o.1
section
variable{nm q:og}{C N:nW}{bs bm:List nX}{hdct:Bool}{sn:List og}{sub:List nX}{ab:Bool}{col:Option Bool}{dd:Option nW}{k0 k1 k2 k3 k5:Option nX}{newId:String}{h:oo}{M:pY}
theorem kE(hC:h.get? C=rJ (pR nm q C N bs bm hdct sn sub ab col dd k0 k1 k2 k3 k5 newId))(base:nX):PySem.W.Looks M h (isSubtype (.ref C) base) ((Value.ref C::bm).contains base):=λA Q E s k z=>by
 obtain⟨hp,g,d,t,os⟩:=s;exact pi (k _ _ hC) z
theorem VG(hC:h.get? C=rJ (pR nm q C N bs bm hdct sn sub ab col dd k0 k1 k2 k3 k5 newId)):PySem.W.Looks M h (mroOf (.ref C)) (.ref C::bm):=λA Q E s k z=>by
 obtain⟨hp,g,d,t,os⟩:=s;exact wpAny_mroOf_exc (k _ _ hC) z
theorem VS(hC:h.get? C=rJ (pR nm q C N bs bm hdct sn sub ab col dd k0 k1 k2 k3 k5 newId)):PySem.W.Looks M h (classData C) { name:=nm,bases:=bs,mro:=.ref C::bm,ns:=N,qualname:=q,hasDict:=hdct,slotNames:=sn,subclasses:=sub,abstract:=ab,collection:=col,hasDel:=rM }:=λA Q E s k z=>by
 unfold classData;exact nP (wpAny_load (k _ _ hC) (nQ z))
theorem ZJ{bmB bm:List nX}(T:OwnTail h bmB bm)(self:nX)(hp:refuseLoop self "__setattr__" bmB=pure Unit.unit):refuseLoop self "__setattr__" bm=pure Unit.unit:=by
 induction T with
 | base=>exact hp
 | own _ _ _ _ ih=>rw[refuseLoop_ref];exact ih
end
section
variable{X:Cx}{rN:List (nW × oF)}{σ:St}{H:Hp}{s:nY}{A:oj}{E:nX->nY->Prop}{x C:nW}{f:og}{y:V}{u:nX}
theorem Jr{Q:Unit->nY->Prop}(I:Inv X rN σ H s)(e:H x=rJ (XN x C rK))(xc:XC X.K C)(n:NoAttr X.K C f)(ry:RelV y u)
  (h:∀s' dx,H dx=rK->Inv X rN σ (upd (upd H dx (.xd [(f,y)])) x (XN x C (rJ dx))) s'->Q Unit.unit s'):oa (model X.prog X.w) A (setAttr (.ref x) f u) Q E s:=by
 obtain⟨t,ob⟩:=zas (I.hok x _ e);obtain⟨bm,N,nm,qn,bs,sn,sub,ab,col,dd,k0,k1,k2,k3,k5,lk,tl⟩:=vm xc.ok;have hC:=I.kIn _ _ lk;have T:=tl _ I.kIn;have SF:=PySem.F.store_ValueError;have J:PySem.W.InstAt s.heap x (xob C rK t .none) C rK:=#[ob,rfl,rfl,trivial];have hob:(Value.ref C::bm).contains (.type "object")=rL:=by rw[di,T.hasType (show bmV.contains (.type "object")=rL by symm),dF]
 have isO:PySem.W.Looks (model X.prog X.w) s.heap (isInstance (.ref x) (.type "object")) rL:=J.type.andThen (by have:=kE (M:=model X.prog X.w) hC (.type "object");rw[hob]at this;exact this);refine fJ I.kIn J xc.sa ?_;refine pF SF.slot.plain SF.entry (@PySem.W.check_slot (model X.prog X.w) _ _ { s with toks:=s.toks+1 } "object.__setattr__" "object" "__setattr__" (.ref x) [.str f s.toks,u] [] _ SF.kind SF.split isO (SF.args _ _ _) ?_);rw[PySem.W.osa_eq,refuse_eq];refine nP (nP (J.type.here (s:={ s with toks:=s.toks+1 }) (nP ((VG hC).here (s:={ s with toks:=s.toks+1 }) ?_))));rw[refuseLoop_ref,ZJ T _ (SF.passes _)];refine nQ (nP (J.type.here (s:={ s with toks:=s.toks+1 }) (nP ((cz I.kIn n).here (s:={ s with toks:=s.toks+1 }) (nP (nQ ?_))))));show oa _ _ (Builtin.ObjectAttr.storeInOwnDict (.ref x) (.ref C) (.str f s.toks) f u rM) _ _ _;have hx1:(s.heap.push { cls:=.type "dict",data:=.dict #[] }).get? x=rJ (xob C rK t .none):=ag _ ob;have hxs:x≠s⁻¹:=av (ar ob);refine nP (nQ (nP (nP (pP ob (nP ((VS hC).here (s:={ s with toks:=s.toks+1 }) ?_))))));rw[if_neg (by simp)];show oa _ _ (if (!rL || !typeHasDict (.ref C))=rL then _ else _) _ _ _;rw[if_neg (by simp [typeHasDict])]
 have hgd:((s.heap.push { cls:=.type "dict",data:=.dict #[] }).update x λo=>{ cls:=o.cls,dict:=rJ s⁻¹,data:=o.data,slots:=o.slots }).get? s⁻¹=rJ { cls:=.type "dict",data:=.dict #[] } :=
  (aw _ _ hxs).trans (Heap.get?_push_at rfl rfl)
 have hgx:((s.heap.push { cls:=.type "dict",data:=.dict #[] }).update x λo=>{ cls:=o.cls,dict:=rJ s⁻¹,data:=o.data,slots:=o.slots }).get? x=rJ (xob C (rJ s⁻¹) t .none) :=
  cu _ hx1 rfl
 have hnd:((s.heap.push { cls:=.type "dict",data:=.dict #[] }).update x λo=>{ cls:=o.cls,dict:=rJ s⁻¹,data:=o.data,slots:=o.slots }).Ns s⁻¹ (λ_=>rK) :=
  #[_,#[],_,hgd,rfl,λe he=>absurd he (by simp),λ_=>rfl]
 refine nP (wpAny_alloc' (nP (wpAny_update' hx1 (nQ ?_))));show oa _ _ (Builtin.ObjectAttr.storeInDict s⁻¹ (.str f s.toks) f u) _ _ _;unfold Builtin.ObjectAttr.storeInDict Builtin.ObjectAttr.newKeyGuard;refine nP (nQ (nP (wpAny_nsSet1 (Heap.Ns1.of_empty hnd) λh' hn' hs=>?_)));obtain⟨oD,esD,epD,hoD,hdD,hcD⟩:=hn'.count (Within.cons f u Within.nil);refine nP (rj hoD (by rw[hdD];exact pastItsLine_dict (aM hcD (by rw[aJ,bS,oq];lia))) ?_);refine nQ ?_;have hx2:h'.get? x=rJ (xob C (rJ s⁻¹) t .none):=(hs.2 x hxs).trans hgx;have hfr:H s⁻¹=rK:=I.hok.fresh (al _);have hxe:x≠s⁻¹:=hxs;refine h _ s⁻¹ hfr ?_
 have k0:∀b o,b≠x->s.heap.get? b=rJ o->h'.get? b=rJ o:=λb o hb q =>
  (hs.2 b (av (ar q))).trans ((aw _ _ (Ne.symm hb)).trans (ag _ q))
 have I1:Inv X rN σ (upd H x (XN x C (rJ s⁻¹))) { s with heap:=h',toks:=s.toks+1+1 } :=
  I.write (x:=x) (e:=x) (by rw[e];exact True.intro) (.inl rfl) k0 ⟨_,hx2⟩ (zby hx2)
 have hd2:ObjOk X.prog X.w (upd (upd H x (XN x C (rJ s⁻¹))) s⁻¹ (.xd [(f,y)])) h' s⁻¹ (.xd [(f,y)]):=by
  refine#[_,hn',λg=>?_];show RelO (bi g [(f,y)]) (if g=f then rJ u else rK);by_cases q:g=f
  ·subst q;rw[if_pos rfl];simp [bi,RelO,ry]
  ·rw[if_neg q];have q':(g == f)=rM:=by simpa using q
   simp [bi,q',RelO]
 have fd:xG X rN (upd H x (XN x C (rJ s⁻¹))) s⁻¹:=I.fpOk (al _) (by rw[zq (Ne.symm hxe)];exact hfr);have I2:=Inv.track I1 fd hd2
 have eH:upd (upd H x (XN x C (rJ s⁻¹))) s⁻¹ (.xd [(f,y)])=upd (upd H s⁻¹ (.xd [(f,y)])) x (XN x C (rJ s⁻¹)):=by
  funext b;unfold upd;by_cases b1:b=s⁻¹
  ·subst b1;rw[if_pos rfl,if_neg (Ne.symm hxe),if_pos rfl]
  ·by_cases b2:b=x
   ·subst b2;rw[if_neg b1,if_pos rfl,if_pos rfl]
   ·rw[if_neg b1,if_neg b2,if_neg b2,if_neg b1]
 rw[eH]at I2;exact I2
end
def JZ(K:nV)(ta tv:TE)(f:og):TS:=λD σ H=>tv σ H λy H1=>ta σ H1 λo H2=>∃x C,o=.ref x/\H2 x=rJ (XN x C rK)/\XC K C/\NoAttr K C f/\∀dx,H2 dx=rK->D.nx σ (upd (upd H2 dx (.xd [(f,y)])) x (XN x C (rJ dx)))
section
variable{X:Cx}{o value:ol}{f:og}{pos pos':oU}{ta tv:TE}
theorem V4(ha:PE X o ta)(hv:PE X value tv)(hs:swapsWith value (rJ (.Attribute o f pos')) pos.line X.env=pure rM):PS X (.Assign [.Attribute o f pos'] value pos) (JZ X.K ta tv f):=by
 intro rN s σ H D I h;refine pB (thn (hv rN s σ H _ I h) λu s1 ⟨y,H1,I1,ry,q⟩=>thn (ha rN s1 σ H1 _ I1 q) λov s2 ⟨x',H2,I2,rx,x,C,ex,e,xc,n,q2⟩=>?_) hs;subst ex;obtain rfl:ov=Value.ref x:=rx;exact Jr I2 e xc n ry λs3 dx hdx I3=>#[σ,_,I3,q2 dx hdx]
end
section
variable{M:pY}{A:oj}{E:nX->nY->Prop}{s:nY}{env:pM}
theorem VJ{K:nV}{x:rz nX}{Q:Flow->nY->Prop}(hh:A.handled=rK)
  (h:oa M A x (λv s1=>∃e C t dx,v=.ref e/\K.In s1.heap/\ZO K C=rL/\s1.heap.get? e=rJ (xob C dx t .none)/\E (.ref e) s1) E s):oa M A (raiseStmt env (rJ x) rK) Q E s:=by
 unfold raiseStmt;refine nP (thn h λv s1 h1=>?_);obtain⟨e,C,t,dx,rfl,X,hC,he,hE⟩:=h1;obtain⟨bm,N,nm,qn,bs,sn,sub,ab,col,dd,k0,k1,k2,k3,k5,lk,tl⟩:=vm hC;have hCo:=X _ _ lk;have T:=tl _ X;have hcB:(Value.ref C::bm).contains (.type "BaseException")=rL:=by rw[di,T.hasType (show bmV.contains (.type "BaseException")=rL by symm),dF]
 obtain⟨hp,g,d,tk,os⟩:=s1
 repeat (first | with_reducible refine oK he ?_ | with_reducible refine oK hCo ?_ | (with_reducible refine pi hCo ?_;rw[hcB]) | wp_step)
 exact wpAny_raiseNew_none hh hE
theorem X3{K:nV}{e:ol}{pos:oU}{Q:Flow->nY->Prop}(hh:A.handled=rK)
  (h:oa M A (eval e env) (λv s1=>∃a C t dx,v=.ref a/\K.In s1.heap/\ZO K C=rL/\s1.heap.get? a=rJ (xob C dx t .none)/\E (.ref a) s1) E s):oa M A (exec (.Raise (rJ e) rK pos) env) Q E s:=by
 rw[arm_exec_Raise]
 first
  | exact nP (oP (VJ hh (nP (thn h λv s1 h1=>nP (oP (nQ h1))))))
  | (erw[evalOpt,Option.map];exact nP (oP (VJ hh (nP (thn h λv s1 h1=>nP (oP (nQ h1)))))))
end
noncomputable def del(H:Hp)(x:nW):Hp:=λb=>if b=x then rK else H b
theorem W9{H:Hp}{x b:nW}(h:b≠x):del H x b=H b:=if_neg h
theorem Y1{H:Hp}{x:nW}:del H x x=rK:=if_pos rfl
section
variable{X:Cx}{rN:List (nW × oF)}{σ:St}{H:Hp}{s:nY}
theorem Inv.untrack{x:nW}{φ:oo->Prop}(I:Inv X rN σ H s)(e:H x=rJ (.ext φ))(hs:X.s₀.heap.objs.size<=x):Inv X rN σ (del H x) s:=by
 have nx:∀b u,H b=rJ u->(∀ψ,u≠.ext ψ)->b≠x:=λb u q nu z=>by subst z;rw[e]at q;cases q;exact nu _ rfl
 have hn:∀b,b≠x->del H x b=H b:=λb hb=>W9 hb;have es:s={ s with heap:=s.heap,gens:=s.gens,drawn:=s.drawn,toks:=s.toks }:=rfl;rw[es]
 refine I.step (g':=s.gens) (d':=s.drawn) (ch:=[x]) (λb hb=>?_) (λb o _ _ _ q _=>q) (λb o _ _ _ q _=>#[o.slots,q]) (λb o hc _ n=>?_)
  (λb o _ q=>#[o,q]) (λb xs q=>?_) (λb u xs q=>?_) (λb ps q=>?_) (λm hm=>hm) (λb u q=>?_) I.bare
 ·have eb:b=x:=by simpa using hb
  subst eb;refine#[.inr hs,λz=>?_,λy c q z=>?_,λp hp z=>?_]
  ·rw[z,I.free]at e;cases e
  ·have:=I.freeC y c q;rw[z,e]at this;cases this
  ·have:=(I.pin p hp).2.1;rw[z,e]at this;cases this
 ·rw[hn b (by simpa using hc)];exact n
 ·rw[hn b (nx b _ q λ_ z=>by cases z)];exact q
 ·rw[hn b (nx b _ q λ_ z=>by cases z)];exact q
 ·exact#[#[],by rw[hn b (nx b _ q λ_ z=>by cases z),q];simp]
 ·by_cases hb:b=x
  ·subst hb;rw[Y1]at q;cases q
  ·rw[hn b hb]at q;exact (I.hok b u q).stay (λc v _ z=>z) (λc z=>by rw[hn c (nx c _ z λ_ y=>by cases y)];exact z) λc xs z=>by rw[hn c (nx c _ z λ_ y=>by cases y)];exact z
theorem XM{C:nW}{us:List nX}{E:nX->nY->Prop}{Q:nX->nY->Prop}(I:Inv X rN σ H s)(xc:ZO X.K C=rL)(hi:ak X.K (.ref C) "__init__" = rJ (rJ (.builtin "ValueError.__init__")))(hl:us.length<=nU)
  (h:∀s' x t,s⁻¹<=x->Inv X rN σ H s'->s'.heap.get? x=rJ (xob C rK t .none)->Q (.ref x) s'):oa (model X.prog X.w) X.A (call (.ref C) us) Q E s:=by
 have F:=d4;obtain⟨bm,N,nm,qn,bs,sn,sub,ab,col,dd,k0,k1,k2,k3,k5,lk,tl⟩:=vm xc;have hC:=I.kIn _ _ lk;have T:=tl _ I.kIn;obtain⟨hp,g,d,t,os⟩:=s;have k:∀b o,hp.get? b=rJ o->((hp.push { cls:=.type "tuple",data:=.seq us.toArray }).push (xob C rK hp.objs.size .none)).get? b=rJ o:=λb o e=>ag _ (ag _ e);refine pc (Y5 I.kIn xc hi (λself=>PySem.W.Looks.of_pure (F.init.bind self)) hl ?_);have hget:((hp.push { cls:=.type "tuple",data:=.seq us.toArray }).push (xob C rK hp.objs.size .none)).get? (hp.objs.size+1)=rJ (xob C rK hp.objs.size .none):=by heap_get
 refine pF F.init.plain F.initEntry (wpAny_check_init_subT F (T.keeps k) (k _ _ hC) hget rfl ?_)
 wp_walk
 refine#[rfl,h _ (hp.objs.size+1) ((hp.push { cls:=.type "tuple",data:=.seq us.toArray }).push (xob C rK hp.objs.size .none)).objs.size (cA _) (I.kept (t':=t) λb o e=>?_) ?_]
 ·exact (aw _ _ (cj (cK (ar e)))).trans (ag _ (k b o e))
 ·exact cu (Obj.mapFields λx=>x.setIfInBounds 0 (Value.ref ((hp.push { cls:=.type "tuple",data:=.seq us.toArray }).push (xob C rK hp.objs.size .none)).objs.size)) (ag _ hget) rfl
def Zp(E:XK)(C:nW)(t:TA):TS:=λ_ σ H=>t σ H λvs H1=>vs.length<=nU/\E (.ref C) rK H1
theorem y8{E:XK}{C:nW}{cn:og}{np cpos pos:oU}{e:ol}{es:List ol}{t:TA}(hx:XE X E)(hc:X.calm=rL)(xc:XC X.K C)(hi:ak X.K (.ref C) "__init__" = rJ (rJ (.builtin "ValueError.__init__")))(hg:Gl X cn)(hm:X.mg cn=rJ (.ref C))(ha:PA X (e::es) t)
  (hdb:(cn ==("__debug__" : og))=rM:=by decide) (he:nS (e::es) X.env=(rM,eval e X.env)::nS es X.env:=by rfl) (hpl:(oB cpos (nS es X.env)).any (·.1)=rM:=by rfl) :
  PS X (.Raise (rJ (.Call (.Name cn np) (e::es) [] cpos)) rK pos) (Zp E C t):=by
 intro rN s σ H D I h;refine X3 (K:=X.K) (I.ok.hd hc) (oE (wL I hg hm ?_ hdb));refine bM (h₀:=X.base) I.ok.mod.kin xc.kp (thn (ha cpos rN s σ H _ I h) λus s1 ⟨vs,H1,I1,r,z,q⟩=>#[I1.kIn,?_]) he hpl;refine XM (us:=[] ++ us) I1 xc.ok hi (by show us.length<=nU;rw[<- r.length];exact z) λs2 x t hz I2 ob=>#[x,C,t,rK,rfl,I2.kIn,xc.ok,ob,?_];exact hx _ _ #[rN,σ,H1,x,C,t,rK,.none,rfl,I2,ob,.inl rfl,I1.fpOk hz (I1.hok.fresh hz),λT z=>(by cases z),q]
theorem VX{A:oj}{C:nW}{us:List nX}{k:Nat}(r:Room (k+1) A):Room k (A.under (.builtin "type.__call__" #[.ref C::us,[]])):=r.make C us []
def Z6(E:XK)(C:nW)(sp:Sp)(t:TA):TS:=λ_ σ H=>t σ H λvs H1=>vs.length<=nU/\∀x,H1 x=rK->sp (.ref x::vs) (upd H1 x (XN x C rK)) (λv H2=>v=.non/\∃dx,H2 x=rJ (XN x C dx)/\E (.ref C) dx (del H2 x)) E0
theorem kP{E:XK}{C f:nW}{fd:oe}{k:Nat}{ps:List og}{sp:Sp}{cn:og}{np cpos pos:oU}{e:ol}{es:List ol}{t:TA}(hx:XE X E)(hc:X.calm=rL)(xc:XC X.K C)(hi:ak X.K (.ref C) "__init__" = rJ (rJ (.ref f)))(hfn:bj X.K (.ref f)=rL)
  (F:FnOk X.prog X.w X.K X.mg X.base CX0 k f fd ps sp) (hr:Room (k+1) X.A) (hb:Binds X.K fd ps []) (hg:Gl X cn) (hm:X.mg cn=rJ (.ref C)) (ha:PA X (e::es) t)
  (hdb:(cn ==("__debug__" : og))=rM:=by decide) (he:nS (e::es) X.env=(rM,eval e X.env)::nS es X.env:=by rfl) (hpl:(oB cpos (nS es X.env)).any (·.1)=rM:=by rfl) :
  PS X (.Raise (rJ (.Call (.Name cn np) (e::es) [] cpos)) rK pos) (Z6 E C sp t):=by
 intro rN s σ H D I h;refine X3 (K:=X.K) (I.ok.hd hc) (oE (wL I hg hm ?_ hdb));refine bM (h₀:=X.base) I.ok.mod.kin xc.kp (thn (ha cpos rN s σ H _ I h) λus s1 ⟨vs,H1,I1,r,z,q⟩=>#[I1.kIn,?_]) he hpl;have hl:us.length<=nU:=by rw[<- r.length];exact z
 have ob:((s1.heap.push { cls:=.type "tuple",data:=.seq us.toArray }).push (xob C rK s1⁻¹ .none)).get? (s1⁻¹+1)=rJ (xob C rK s1⁻¹ .none):=by heap_get
 have hfr:H1 (s1⁻¹+1)=rK:=I1.hok.fresh (cA _)
 have I2:Inv X rN σ (upd H1 (s1⁻¹+1) (XN (s1⁻¹+1) C rK)) { s1 with heap:=(s1.heap.push { cls:=.type "tuple",data:=.seq us.toArray }).push (xob C rK s1⁻¹ .none) } :=
  I1.laid (t':=s1.toks) (λb o e=>ag _ (ag _ e)) (cA _) (zby ob)
 have q1:=q _ hfr;have r2:Vals (V.ref (s1⁻¹+1)::vs) (Value.ref (s1⁻¹+1)::us):=.cons rfl r
 have hlen:(Value.ref (s1⁻¹+1)::us ++ ([]:List nX)).length=ps.length:=by
  rw[aQ,<- r2.length];exact F.len _ _ _ _ q1
 have hb2:=hb { s1 with heap:=(s1.heap.push { cls:=.type "tuple",data:=.seq us.toArray }).push (xob C rK s1⁻¹ .none) } (Value.ref (s1⁻¹+1)::us) I2.kIn hlen;rw[aQ]at hb2;have run:=F.run _ X.stack _ _ #[Value.ref (s1⁻¹+1)::us,[]] (Value.ref (s1⁻¹+1)::us) _ _ E0 (VX (C:=C) (us:=us) hr) (I2.env0.make C us []) hb2 r2 q1;have sz0:X.s₀.heap.objs.size<=s1⁻¹+1:=aM I1.sz (cA _);show oa (model X.prog X.w) X.A (call (.ref C) us) _ X.xe s1;refine pc ?_;refine Y5 (h:=s1.heap) (g:=s1.gens) (d:=s1.drawn) (t:=s1.toks) (os:=s1.os) (rest:=us) I1.kIn xc.ok hi (λself=>fV I1.kIn self (beq_iff_eq.mp hfn)) hl (ph run λr s' hq=>?_)
 cases r with
 | error e=>exact False.elim hq
 | ok fl =>
  cases fl with
  | ret u =>
   obtain⟨v,H',I3,rv,ev,dx,hx3,q3⟩:=I2.after hq;subst ev;refine#[rv,?_];obtain⟨t,ob3⟩:=zas (I3.hok _ _ hx3);have I4:=Inv.untrack I3 hx3 sz0;refine#[_,C,t,dx,rfl,I3.kIn,xc.ok,ob3,hx _ _ #[rN,σ,_,_,C,t,dx,.none,rfl,I4,ob3,.inl rfl,?_,λT z=>(by cases z),q3]];exact I1.fpOk (cA _) Y1
  | next=>exact False.elim hq
  | brk=>exact False.elim hq
  | cont=>exact False.elim hq
end
def J8(X:Cx)(rN:List (nW × oF))(σ:St)(E:XK)(e:nX)(s:nY):Prop:=∃(cx:nX) (kx:Bool) (H:Hp) (x C t:nW) (dx:Option nW) (tb:nX),e=.ref x/\Inv X rN σ H s /\
 s.heap.get? x=rJ (xog C dx t tb cx kx)/\Kr s.heap x tb/\xG X rN H x/\(∀T,tb=.ref T->xG X rN H T)/\E (.ref C) dx H
noncomputable abbrev TX:=St->Hp->VK->XK->Prop
def PEX(X:Cx)(e:ol)(t:TX):Prop :=
 ∀(rN:List (nW × oF)) (s:nY) (σ:St) (H:Hp) (Q:VK) (E:XK),Inv X rN σ H s->t σ H Q E->oa (model X.prog X.w) X.A (eval e X.env) (EP X rN σ Q) (J8 X rN σ E) s
section
variable{X:Cx}
variable{k:Nat}{f:nW}{fd:oe}{ps:List og}{sp:Sp}{dvs:List V}{ds:List nX}{x:og}{p pos:oU}{e:ol}{es:List ol}{t:TA}
theorem U2(F:FnOk X.prog X.w X.K X.mg X.base (CXx X.prog X.w) k f fd ps sp)(hr:Room k X.A)(hg:Gl X x)(hm:X.mg x=rJ (.ref f))(hk:aK X.K (.ref f)=rL)(hb:Binds X.K fd ps ds)(hd:Vals dvs ds)
  (ha:PA X.nox (e::es) t) (hdb:(x ==("__debug__" : og))=rM:=by decide) (he:nS (e::es) X.env=(rM,eval e X.env)::nS es X.env:=by rfl) (hpl:(oB pos (nS es X.env)).any (·.1)=rM:=by rfl) :
  PEX X (.Call (.Name x p) (e::es) [] pos) (λσ H Q E=>t σ H λvs H1=>sp (vs ++ dvs) H1 Q E):=by
 intro rN s σ H Q E I h;refine oE (wL I hg hm ?_ hdb);refine bM (h₀:=X.base) I.ok.mod.kin hk (oQ (thn (ha pos rN s σ H _ (I.wish _) h) λus s1 ⟨vs,H1,I1,r,q⟩=>#[I1.kIn,?_])) he hpl;have I1':Inv X rN σ H1 s1:=I1.unwish;have r2:Vals (vs ++ dvs) (us ++ ds):=r.append hd;have hl:(us ++ ds).length=ps.length:=by rw[<- r2.length];exact F.len _ _ _ _ q
 refine pc (ph (F.run X.A X.stack s1 H1 #[us,[]] (us ++ ds) (vs ++ dvs) Q E hr I1'.env0 (hb s1 us I1'.kIn hl) r2 q) λr s' hq=>?_)
 cases r with
 | error e =>
  obtain⟨x,C,t,dx,tb,H',rfl,os,bare,un,hok,ob,tr,hn,hsz,hT,q⟩:=hq;exact#[.none,rM,H',x,C,t,dx,tb,rfl,I1'.call' os un hok bare (λb z=>absurd z (by simp)),ob,tr,I1'.fpOk hsz hn,λT e=>I1'.fpOk (hT T e).2 (hT T e).1,q]
 | ok fl =>
  cases fl with
  | ret u=>exact I1'.after hq
  | next=>exact False.elim hq
  | brk=>exact False.elim hq
  | cont=>exact False.elim hq
end
noncomputable abbrev Cx.suite(X:Cx)(e:nX):Cx:={ X with A:=X.A.mark (rJ e),calm:=rM,xe:=λ_ _=>False }
theorem Inv.suite{X:Cx}{rN:List (nW × oF)}{σ:St}{H:Hp}{s:nY}(I:Inv X rN σ H s)(e:nX):Inv (Cx.suite X e) rN σ H s :=
 #[#[I.ok.mod,I.ok.kind,I.ok.glob,I.ok.blt,I.ok.above,I.ok.inj,I.ok.has,I.ok.cab,λz=>absurd z (by simp [Cx.suite]),I.ok.frames,I.ok.stk,I.ok.exf,I.ok.bs,I.ok.bsz,I.ok.noex,I.ok.exfs,I.ok.funs,I.ok.frf],
  I.os,I.bare,I.base,I.loc,I.cell,I.free,I.freeC,I.pin,I.hok,I.len]
theorem Inv.unsuite{X:Cx}{rN:List (nW × oF)}{σ σ':St}{H H':Hp}{s s':nY}{e:nX}(J:Inv X rN σ' H' s')(I:Inv (Cx.suite X e) rN σ H s):Inv X rN σ H s :=
 #[J.ok,I.os,I.bare,I.base,I.loc,I.cell,I.free,I.freeC,I.pin,I.hok,I.len]
section
variable{X:Cx}{rN:List (nW × oF)}{σ:St}{H:Hp}{s:nY}
end
theorem zb2{M:pY}{A:oj}{E:nX->nY->Prop}{K:nV}{s:nY}{x C D t:nW}{dx:Option nW}{tb cx:nX}{kx:Bool}{b:Bool}{Q:Bool->nY->Prop}(X:K.In s.heap)(hD:ZO K D=rL)(he:s.heap.get? x=rJ (xog C dx t tb cx kx))
  (hs:cS K (.ref C) (.ref D)=rJ b) (h:Q b s):oa M A (excMatches (.ref x) (.ref D)) Q E s:=by
 obtain⟨bm,N,nm,qn,bs,sn,sub,ab,col,dd,k0,k1,k2,k3,k5,lk,tl⟩:=vm hD;have hDo:=X _ _ lk;have T:=tl _ X;have hcB:(Value.ref D::bm).contains (.type "BaseException")=rL:=by rw[di,T.hasType (show bmV.contains (.type "BaseException")=rL by symm),dF]
 have L:=PySem.W.looks_subIn (M:=M) X hs;have f:=tc_notTuple;obtain⟨hp,g,d,tk,os⟩:=s;unfold excMatches
 repeat (first | with_reducible refine oK he ?_ | with_reducible refine oK hDo ?_ | (with_reducible refine pi hDo ?_;rw[hcB]) | (with_reducible refine PySem.W.Looks.at L ?_) | wp_step)
 cases b with
 | false=>exact nQ (nQ (nQ h))
 | true=>exact nQ (nQ (nQ h))
section
variable{X:Cx}
noncomputable def tbL:nX->List nW
 | .ref b=>[b]
 | _=>[]
end
section
variable{prog:nZ}{w:oh}{A:oj}{E:nX->nY->Prop}{s:nY}{K:nV}{x C:nW}{ox:oF}{od:Option oF}{name:og}{tk:rh}
theorem za2{fill expr:Bool}{Q:nX->nY->Prop}(X:K.In s.heap)(xc:XC K C)(J:PySem.W.InstAt s.heap x ox C od)
  (h:oa (model prog w) A.in1 (Builtin.«object.__getattribute__» #[[.ref x,.str name tk],[]]) (λfin s'=>match fin with | .done (.ret v)=>oa (model prog w) A (handedOut v) Q E s' | _=>False) (λ_ _=>False) s) :
  oa (model prog w) A (getAttrBy (.ref x) (.str name tk) fill expr) Q E s:=by
 obtain⟨bm,N,nm,qn,bs,sn,sub,ab,col,dd,k0,k1,k2,k3,k5,lk,tl⟩:=vm xc.ok;have hC:=X _ _ lk;have T:=tl _ X;have FB:=PySem.F.attrBase_ValueError;have L0:=J.type (M:=model prog w);have L1:=cz (M:=model prog w) X xc.ga;have L2:=cz (M:=model prog w) X xc.gt;have hcB:(Value.ref C::bm).contains (.type "BaseException")=rL:=by rw[di,T.hasType (show bmV.contains (.type "BaseException")=rL by symm),dF]
 have isB:PySem.W.Looks (model prog w) s.heap (isInstance (.ref x) (.type "BaseException")) rL:=L0.andThen (by have:=kE (M:=model prog w) hC (.type "BaseException");rw[hcB]at this;exact this);have f3:=FB.ga.bind (.ref x);have hx0:(expr && onTheHeap (Value.builtin "BaseException.__getattribute__"))=rM:=by cases expr <;> rfl
 have hx2:(Value.builtin "BaseException.__getattribute__" == Value.builtin "object.__getattribute__")=rM:=by symm
 have hx1:(onTheHeap (Value.ref C) && Value.builtin "BaseException.__getattribute__" == Value.builtin "object.__getattribute__")=rM:=by rw[hx2];rfl
 unfold getAttrBy;refine oz (nP (L0.here (nP (L1.here ?_))));show oa _ _ (if (onTheHeap (Value.ref C) && Value.builtin "BaseException.__getattribute__" == Value.builtin "object.__getattribute__")=rL then _ else _) _ _ _;rw[hx1,if_neg aA];unfold getAttrByItsOwn hookBefore;rw[if_pos (by rfl)];refine nP (L2.here (nP (pW (oz ?_))));unfold callGetattribute;rw[hx0,if_neg aA];unfold boundAndCalled;rw[f3];refine nP (nQ ?_);show oa (model prog w) A (call (.builtin "BaseException.__getattribute__") [.ref x,.str name tk]) _ _ s;refine pc (pF FB.ga.plain PySem.F.entry_bexc_ga (@PySem.W.check_slot (model prog w) _ _ s "BaseException.__getattribute__" "BaseException" "__getattribute__" (.ref x) [.str name tk] [] _ (by symm) (by symm) isB (PySem.F.args_bexc_ga _ _) ?_));refine oR h (λfin s' z=>?_) λ_ _ z=>z.elim;rcases fin with (_ | _ | _ | v) | _ <;> first | exact z | exact z.elim
theorem QG{Q:Option nX->nY->Prop}(X:K.In s.heap)(xc:XC K C)(J:PySem.W.InstAt s.heap x ox C od)(ha:ak K (.ref C) "__class__" = rJ (rJ (.builtin "object.__class__")))
  (hn:dk K (.builtin "object.__class__") "__get__" = rJ (rJ (.builtin "getset_descriptor.__get__"))) (htk:dD K (.builtin "object.__class__")=rJ rL) (hm:bX K C (.type "object")=rJ rL)
  (h:Q (rJ (.ref C)) { s with toks:=s.toks+1 }):oa (model prog w) A (getAttr? (.ref x) "__class__") Q E s:=by
 have hf:fW K C od "__class__" = rJ (.bind (.builtin "getset_descriptor.__get__") (.builtin "object.__class__")):=by
  obtain⟨bm,N,nm,qn,bs,sn,sub,ab,col,dd,k0,k1,k2,k3,k5,lk,tl⟩:=vm xc.ok;have hcl:(PySem.W.clsIn K C).isSome=rL:=by unfold PySem.W.clsIn;rw[lk];rfl
  obtain⟨cd,hc⟩:=sk.mp hcl;unfold fW;rw[hc,bL,ha,bL];simp [hn,htk]
 unfold getAttr? getAttrBy?;refine nP (wpAny_mkText (nP (pW (za2 (s:={ s with toks:=s.toks+1 }) X xc J ?_))));have L0:=J.type (M:=model prog w);have L1:=PySem.W.looks_find (M:=model prog w) X J hf;unfold Builtin.«object.__getattribute__»;refine nP (nQ (nP (nQ (nP (L0.here (s:={ s with toks:=s.toks+1 }) (nP (L1.here (s:={ s with toks:=s.toks+1 }) ?_)))))));show oa _ _ (holding [.builtin "object.__class__"] (call (.builtin "getset_descriptor.__get__") [.builtin "object.__class__",.ref x,.ref C]) >>= ret) _ _ _;refine nP (oz (pc (PySem.W.class_get (s:={ s with toks:=s.toks+1 }) X J hm ?_)));refine nQ ?_;show oa _ _ (handedOut (.ref C)) _ _ _;rw[PySem.W.handedOut_of rfl];exact nQ (nQ h)
end
structure XI(K:nV)(C:nW):Prop extends XC K C where
 ca:ak K (.ref C) "__class__" = rJ (rJ (.builtin "object.__class__"))
 cg:dk K (.builtin "object.__class__") "__get__" = rJ (rJ (.builtin "getset_descriptor.__get__"))
 ct:dD K (.builtin "object.__class__")=rJ rL
 mo:bX K C (.type "object")=rJ rL
theorem zaF{h:oo}{x C t:nW}{tb c:nX}{k:Bool}(ob:h.get? x=rJ (xog C rK t tb c k)):PySem.W.InstAt h x (xog C rK t tb c k) C rK:=#[ob,rfl,rfl,trivial]
theorem zc9{K:nV}{x C:nW}{dx:Option nW}(xi:XI K C):PySem.W.KitX K (.ref x) (.ref C) (λh=>(∃t tb c k,h.get? x=rJ (xog C dx t tb c k))/\∀d,dx=rJ d->∃o,h.get? d=rJ o) where
 ty:=λM h X ⟨⟨t,tb,c,k',ob⟩,_⟩=>(PySem.W.Looks.ld ob).andThen .now
 it:=λM h X _=>by
  obtain⟨bm,N,nm,qn,bs,sn,sub,ab,col,dd,k0,k1,k2,k3,k5,lk,tl⟩:=vm xi.ok;intro A' Q' E' s' k q;unfold isType loadHead;exact nP (pP (k _ _ (X _ _ lk)) (nQ q))
 ne:=λh tp dd its n sl X htp=>by
  obtain⟨bm,N,nm,qn,bs,sn,sub,ab,col,dd,k0,k1,k2,k3,k5,lk,tl⟩:=vm xi.ok;refine Bool.eq_false_iff.mpr λq=>?_;have e:C=tp:=Value.ref.inj (beq_iff_eq.mp q);subst e;have z:=congrArg (λo:Option oF=>o.map λo=>match o.data with | .cls _=>rL | _=>rM) ((X _ _ lk).symm.trans htp);exact absurd (show rL=rM from Option.some.inj z) ∅
 ca:=λ{prog w A E Q s} X ⟨⟨t,tb,c,k',ob⟩,hd⟩ k=>by
  cases dx with
  | none=>exact QG X xi.toXC (zaF ob) xi.ca xi.cg xi.ct xi.mo k
  | some d =>
   obtain⟨o,e⟩:=hd d rfl;exact QG (od:=rJ o) X xi.toXC #[ob,rfl,rfl,e] xi.ca xi.cg xi.ct xi.mo k
section
variable{X:Cx}
def XAt(H:Hp)(x C:nW)(dx:Option nW)(fs:List (og × V)):Prop:=H x=rJ (XT x C dx)/\((dx=rK/\fs=[])\/∃d,dx=rJ d/\H d=rJ (.xd fs))
theorem Vf:wq X (.builtin "isinstance") (λxs H Q=>∃x C dx fs c u b,xs=[.ref x,c]/\cV c=rJ u/\XAt H x C dx fs/\XI X.K C/\aS X.K (.ref C) u=rJ b/\Q (.bl b) H):=by
 intro rN s σ H xs us Q I r h;obtain⟨x,C,dx,fs,c,u,b,rfl,hc,⟨hx,hd⟩,xi,e,q⟩:=h;obtain⟨v,w',rfl,rx,rc⟩:=Xv r;cases rx
 have:w'=u:=by
  cases c with
  | ty n=>cases hc;exact rc
  | ref a=>cases hc;exact rc
  | _=>cases hc
 subst this;refine be (zc9 (dx:=dx) xi) I.kIn #[zdj (I.hok _ _ hx),λd z=>?_] e (λz=>nomatch z) λtk=>#[.bl b,H,I.tok tk,rfl,q];rcases hd with ⟨z',_⟩ | ⟨d',z',hd'⟩
 ·rw[z']at z;cases z
 ·rw[z']at z;cases z;obtain⟨mA,⟨o,es,ep,ho,_⟩,_⟩:=I.hok _ _ hd';exact#[o,ho]
end
structure Df(P:nZ)(w:oh)(K:nV)(mg:og->Option nX)(base:oo)(CX:CXT)(k:Nat)(nm:og)(ps:List og)(ds:List nX)(sp:Sp):Prop where
 ex:∃f fd,FnOk P w K mg base CX k f fd ps sp/\mg nm=rJ (.ref f)/\aK K (.ref f)=rL/\Binds K fd ps ds
structure Bt(mg:og->Option nX):Prop where
 len:mg "len" = rK
 range:mg "range" = rK
 isi:mg "isinstance" = rK
 str:mg "str" = rK
 int:mg "int" = rK
 tuple:mg "tuple" = rK
 list:mg "list" = rK
 bool:mg "bool" = rK
 enum:mg "enumerate" = rK
 all:mg "all" = rK
 verr:mg "ValueError" = rK
 max:mg "max" = rK
 rev:mg "reversed" = rK
 zip:mg "zip" = rK
 sum:mg "sum" = rK
 sorted:mg "sorted" = rK
section
variable{X:Cx}{CX:CXT}{k:Nat}{ps:List og}{sp:Sp}{ds:List nX}{dvs:List V}{E:XK}{x:og}{p pos:oU}{e:ol}{es:List ol}{t:TA}
theorem cl0{j:Nat}(D:Df X.prog X.w X.K X.mg X.base CX0 k x ps ds sp)(hr:Room j X.A)(hd:Vals dvs ds)(hg:Gl X x)(ha:PA X (e::es) t)(hdb:(x ==("__debug__" : og))=rM:=by decide)(he:nS (e::es) X.env=(rM,eval e X.env)::nS es X.env:=by rfl)
  (hpl:(oB pos (nS es X.env)).any (·.1)=rM:=by rfl) (hj:k<=j:=by decide):PE X (.Call (.Name x p) (e::es) [] pos) (uO sp dvs E0 t):=by
 obtain⟨f,fd,F,hm,hk,hb⟩:=D.ex;exact Wr F (hr.mono hj) hg hm hk hb hd Xs ha hdb he hpl
theorem clX{j:Nat}(D:Df X.prog X.w X.K X.mg X.base (CXx X.prog X.w) k x ps ds sp)(hr:Room j X.A)(hd:Vals dvs ds)(hg:Gl X x)(ha:PA X.nox (e::es) t)(hdb:(x ==("__debug__" : og))=rM:=by decide)(he:nS (e::es) X.env=(rM,eval e X.env)::nS es X.env:=by rfl)
  (hpl:(oB pos (nS es X.env)).any (·.1)=rM:=by rfl) (hj:k<=j:=by decide):PEX X (.Call (.Name x p) (e::es) [] pos) (λσ H Q E=>t σ H λvs H1=>sp (vs ++ dvs) H1 Q E):=by
 obtain⟨f,fd,F,hm,hk,hb⟩:=D.ex;exact U2 F (hr.mono hj) hg hm hk hb hd ha hdb he hpl
theorem clP{j:Nat}(hx:XE X E)(D:Df X.prog X.w X.K X.mg X.base (CXx X.prog X.w) k x ps ds sp)(hr:Room j X.A)(hd:Vals dvs ds)(hg:Gl X x)(ha:PA X (e::es) t)(hdb:(x ==("__debug__" : og))=rM:=by decide)(he:nS (e::es) X.env=(rM,eval e X.env)::nS es X.env:=by rfl)
  (hpl:(oB pos (nS es X.env)).any (·.1)=rM:=by rfl) (hj:k<=j:=by decide):PE X (.Call (.Name x p) (e::es) [] pos) (uO sp dvs E t):=by
 obtain⟨f,fd,F,hm,hk,hb⟩:=D.ex;exact Wr F (hr.mono hj) hg hm hk hb hd (Yh hx) ha hdb he hpl
end
def TyX(K:nV)(H:Hp)(x:V)(t:nX):Prop:=YR K H x t\/(∃a C dx fs,x=.ref a/\t=.ref C/\XAt H a C dx fs/\XI K C)\/(∃a xs,x=.ref a/\t=.type "list"/\SqL K H a xs)\/∃a xs,x=.ref a/\t=.type "tuple"/\SqT K H a xs
def zb8(K:nV):List V->Hp->VK->Prop:=λxs H Q=>∃x c u t b,xs=[x,c]/\cV c=rJ u/\TyX K H x t/\aS K t u=rJ b/\Q (.bl b) H
theorem zcP{X:Cx}:wq X (.builtin "isinstance") (zb8 X.K):=by
 intro rN s σ H xs us Q I r h;obtain⟨x,c,u,t,b,rfl,hc,ty,e,q⟩:=h;rcases ty with ty | ⟨a,C,dx,fs,rfl,rfl,ha,xi⟩ | ⟨a,ys,rfl,rfl,hq⟩ | ⟨a,ys,rfl,rfl,hq⟩
 ·exact Qp rN s σ H _ us Q I r #[x,c,u,t,b,rfl,hc,ty,e,q]
 ·exact Vf rN s σ H _ us Q I r #[a,C,dx,fs,c,u,b,rfl,hc,ha,xi,e,q]
 all_goals
  obtain⟨v,w',rfl,rx,rc⟩:=Xv r
  have:w'=u:=by
   cases c with
   | ty n=>cases hc;exact rc
   | ref a=>cases hc;exact rc
   | _=>cases hc
  subst this;cases rx
 ·obtain⟨its,_,p,_⟩:=I.list hq;obtain⟨o,h1,h2,_⟩:=p.isList;exact be d6 I.kIn #[o,h1,h2] e (λz=>nomatch z) λtk=>#[.bl b,H,I.tok tk,rfl,q]
 ·obtain⟨its,_,p,_⟩:=I.tuple hq;obtain⟨o,h1,h2,_⟩:=p;exact be fw I.kIn #[o,h1,h2] e (λz=>nomatch z) λtk=>#[.bl b,H,I.tok tk,rfl,q]
theorem y3{X:Cx}{e:ol}{te:TE}{c:og}{n:String}{p q pos:oU}(h1:Gl X "isinstance")(h2:X.mg "isinstance" = rK)(he:PE X e te)(hg:Gl X c)(hm:X.mg c=rK)(hv:oG c=rJ (.type n))(hn:c≠"__name__":=by decide)(hd:(c ==("__debug__" : og))=rM:=by decide)
  (hs1:nS [e,.Name c q] X.env=(rM,eval e X.env)::nS [.Name c q] X.env:=by rfl) (hs3:nS [.Name c q] X.env=(rM,eval (.Name c q) X.env)::nS [] X.env:=by rfl) (hs2:(oB pos (nS [.Name c q] X.env)).any (·.1)=rM:=by rfl):PE X (.Call (.Name "isinstance" p) [e,.Name c q] [] pos) (tCB (zb8 X.K) (zL te (zL (tC (.ty n)) xH))) :=
 yw zcP h1 h2 boot_isinstance (za he (za (JO hg hm hv rfl hn hd) zf hs3) hs1) (he:=hs1) (hpl:=hs2)
theorem Q2{a:nW}:cV (.ref a)=rJ (.ref a):=rfl
theorem zbJ{n:String}:cV (.ty n)=rJ (.type n):=rfl
theorem zcJ{P w K mg base N q sc f cd A o s H}:(cxH P w K mg base N q sc f cd A o s H).K=K:=rfl
def WN:V->List V->Hp->VK->Prop:=λx xs H Q=>∃z y,x=.str z/\xs=[.str y]/\Q (.int (Txt.count z y)) H
theorem JL{X:Cx}:MtR X "str.count" WN:=Qr
def UT:V->List V->Hp->VK->Prop:=λx xs H Q=>∃z y,x=.str z/\xs=[.str y]/\Q (.int (Txt.find z y)) H
theorem zaN{X:Cx}:MtR X "str.find" UT:=Vl
theorem V1(l:())(c:Nat):Txt.count (tx l) (tx [c])=(l.count c:Int):=by
 have h:∀l:(),cnt c l=(l.count c:Int):=λl=>by
  induction l with
  | nil=>rfl
  | cons n r ih =>
   rw[cnt_cons,ih,List.count_cons];by_cases e:n=c
   ·subst e;simp;lia
   ·have:(n == c)=rM:=by simpa using e
    simp [e,this]
 exact (PyProof.Rows.count_is (tx l) c).trans (h l)
theorem lt1{a b:Nat}:([a]:()) < [b] ↔ a<b:=by rw[List.cons_lt_cons_iff];exact#[λh=>h.elim id λ⟨_,q⟩=>absurd q (List.not_lt_nil _),.inl]
theorem V6{l:()}{k v:Nat}(h:l[k]? = rJ v):(v::(l.take k ++ l.drop (k+1))).Perm l:=by
 obtain⟨hk,e⟩:=rQ.mp h
 have e2:l.take k ++ (v::l.drop (k+1))=l:=by
  rw[<- e,<- aT hk,bO]
 exact (List.perm_middle.symm.trans (by rw[e2]))
def XS(K:nV):List V->Hp->VK->Prop:=λxs H Q=>match xs with
 | [.str z]=>z.length<=nU/\Q (.int z.length) H
 | [.ref a]=>∃n:Nat,((∃xs,SqL K H a xs/\n=xs.length)\/∃xs,SqT K H a xs/\n=xs.length)/\Q (.int n) H
 | xs=>∃x n,xs=[x]/\zaI K x H n/\Q (.int n) H
theorem rLen_is{K:nV}{xs:List V}{H:Hp}{Q:VK}:XS K xs H Q=∃x n,xs=[x]/\zaI K x H n/\Q (.int n) H:=by
 unfold XS;split
 ·exact propext #[λh=>#[_,_,rfl,#[h.1,rfl],h.2],λ⟨_,_,e,h,q⟩=>by cases e;obtain⟨h,rfl⟩:=h;exact#[h,q]]
 ·exact propext #[λ⟨n,h,q⟩=>#[_,n,rfl,h,q],λ⟨_,n,e,h,q⟩=>by cases e;exact#[n,h,q]]
 ·rfl
theorem zde{X:Cx}:wq X (.builtin "len") (XS X.K):=λrN s σ H xs us Q I r h=>UA rN s σ H xs us Q I r (rLen_is.mp h)
def ForR(lo:Int)(n:Nat)(g:TG)(tb:TS)(D:wU)(σ:St)(H:Hp):Prop:=∃W:Nat->Nat->St->Hp->Prop,(∃m,W 0 m σ H)/\∀i m σ H,W i m σ H ->
 ((Itr lo n).stop i H/\D.nx σ H)\/((Itr lo n).go i H/\∃N:St->Hp->Prop,(∀σ' H',N σ' H'->∃m',m'<m/\W (i+1) m' σ' H')/\∀x H',(Itr lo n).yld i H x H'->g x σ H' λσ2 H2=>tb { D with nx:=N,ct:=N,bk:=D.nx } σ2 H2)
theorem zbh{ta:TA}{g:TG}{tb:TS}{D:wU}{σ:St}{H:Hp}:Qt (Kx ta) g tb D σ H=ta σ H λvs H1=>∃j:Int,vs=[.int j]/\-(2 ^ 62)<=j/\j<2 ^ 62/\ForR 0 j.toNat g tb D σ H1:=rfl
theorem zbl{ta:TA}{g:TG}{tb:TS}{D:wU}{σ:St}{H:Hp}:Qt (zaA ta) g tb D σ H=ta σ H λvs H1=>∃i j:Int,vs=[.int i,.int j]/\(-(2 ^ 62)<=i/\i<2 ^ 62/\-(2 ^ 62)<=j/\j<2 ^ 62)/\ForR i (j - i).toNat g tb D σ H1:=rfl
theorem ForR.by{lo:Int}{n:Nat}{g:TG}{tb:TS}{D:wU}{σ:St}{H:Hp}(Pv:Nat->St->Hp->Prop)(h0:Pv 0 σ H)
  (hs:∀i σ H,i<n->Pv i σ H->g (.int (lo+i)) σ H λσ2 H2=>tb { D with nx:=Pv (i+1),ct:=Pv (i+1),bk:=D.nx } σ2 H2) (hd:∀σ H,Pv n σ H->D.nx σ H):ForR lo n g tb D σ H:=WI Pv h0 hs hd
def ForL(K:nV)(a:nW)(g:TG)(tb:TS)(D:wU)(σ:St)(H:Hp):Prop:=∃W:Nat->Nat->St->Hp->Prop,(∃m,W 0 m σ H)/\∀i m σ H,W i m σ H ->
 ((Itl K a).stop i H/\D.nx σ H)\/((Itl K a).go i H/\∃N:St->Hp->Prop,(∀σ' H',N σ' H'->∃m',m'<m/\W (i+1) m' σ' H')/\∀x H',(Itl K a).yld i H x H'->g x σ H' λσ2 H2=>tb { D with nx:=N,ct:=N,bk:=D.nx } σ2 H2)
theorem zds{K:nV}{tl:TE}{g:TG}{tb:TS}{D:wU}{σ:St}{H:Hp}:Qt (JY K tl) g tb D σ H=tl σ H λx H1=>∃a,x=.ref a/\(∃xs,SqL K H1 a xs)/\ForL K a g tb D σ H1:=rfl
def ForS(x:og)(g:TG)(tb:TS)(D:wU)(σ:St)(H:Hp):Prop:=∃W:Nat->Nat->St->Hp->Prop,(∃m,W 0 m σ H)/\∀i m σ H,W i m σ H ->
 ((Its x).stop i H/\D.nx σ H)\/((Its x).go i H/\∃N:St->Hp->Prop,(∀σ' H',N σ' H'->∃m',m'<m/\W (i+1) m' σ' H')/\∀v H',(Its x).yld i H v H'->g v σ H' λσ2 H2=>tb { D with nx:=N,ct:=N,bk:=D.nx } σ2 H2)
theorem zdN{tl:TE}{g:TG}{tb:TS}{D:wU}{σ:St}{H:Hp}:Qt (zdo tl) g tb D σ H=tl σ H λv H1=>∃x,v=.str x/\ForS x g tb D σ H1:=rfl
theorem ForS.by{l:()}{g:TG}{tb:TS}{D:wU}{σ:St}{H:Hp}(Pv:Nat->St->Hp->Prop)(h0:Pv 0 σ H)
  (hs:∀i c σ H,l[i]? = rJ c->Pv i σ H->g (.str (tx [c])) σ H λσ2 H2=>tb { D with nx:=Pv (i+1),ct:=Pv (i+1),bk:=D.nx } σ2 H2) (hd:∀σ H,Pv l.length σ H->D.nx σ H):ForS (tx l) g tb D σ H:=JI Pv h0 hs hd
def zdR(x:og)(g:TG)(tb:TS)(D:wU)(σ:St)(H:Hp):Prop:=∃W:Nat->Nat->St->Hp->Prop,(∃m,W 0 m σ H)/\∀i m σ H,W i m σ H ->
 ((Ite x).stop i H/\D.nx σ H)\/((Ite x).go i H/\∃N:St->Hp->Prop,(∀σ' H',N σ' H'->∃m',m'<m/\W (i+1) m' σ' H')/\∀v H',(Ite x).yld i H v H'->g v σ H' λσ2 H2=>tb { D with nx:=N,ct:=N,bk:=D.nx } σ2 H2)
theorem zdx{ta:TA}{g:TG}{tb:TS}{D:wU}{σ:St}{H:Hp}:Qt (zcQ ta) g tb D σ H=ta σ H λvs H1=>∃x,vs=[.str x]/\zdR x g tb D σ H1:=rfl
theorem vo{α:Type}(l:List α){k:Int}(h:0<=k):cut l rK (rJ k)=l.take k.toNat:=by
 obtain⟨n,rfl⟩:=bv h;unfold cut;rw[HT.sIx_none,HT.sIx_nat,dU,Nat.sub_zero];by_cases q:n<=l.length
 ·rw[bT q];rfl
 ·rw[cf ⋯,aG,aW (by simp;lia)]
theorem yS{α:Type}(l:List α){k:Int}(h:0<=k):cut l (rJ k) rK=l.drop k.toNat:=by
 obtain⟨n,rfl⟩:=bv h;unfold cut;rw[HT.sIx_none,HT.sIx_nat];by_cases q:n<=l.length
 ·rw[bT q];rw[aW (by rw[aL] <;> lia)];rfl
 ·rw[cf ⋯,dz,aX (by simp;lia)];simp
theorem qc{α:Type}{xs:List α}{i:Int}(h0:0<=i)(h1:i<xs.length):∃v,atI xs i=rJ v/\xs[i.toNat]? = rJ v:=by
 obtain⟨n,rfl⟩:=bv h0;have hn:n<xs.length:=⋯;exact#[xs[n],jC (ae hn),ae hn]
noncomputable def alpha:():=[97,98,99,100,101,102,103,104,105,106,107,108,109,110,111,112,113,114,115,116,117,118,119,120,121,122]
theorem V7:(("abcdefghijklmnopqrstuvwxyz" : og))=tx alpha:=by symm
theorem yb:(nU:Nat)=16777216:=oq
theorem cxK{CX P w K mg base N q sc f cd A o s H E}:(uz CX P w K mg base N q sc f cd A o s H E).K=K:=rfl
theorem cxP{CX P w K mg base N q sc f cd A o s H E}:(uz CX P w K mg base N q sc f cd A o s H E).prog=P:=rfl
theorem cxW{CX P w K mg base N q sc f cd A o s H E}:(uz CX P w K mg base N q sc f cd A o s H E).w=w:=rfl
theorem zbV{a b:Int}:X8 (.int a) (.int b)=rL:=rfl
theorem za5{a b:og}:X8 (.str a) (.str b)=rL:=rfl
theorem zaz{a b:Bool}:X8 (.bl a) (.bl b)=rL:=rfl
theorem zar{b:og}:X8 .non (.str b)=rL:=rfl
theorem zaH{b:og}:X8 (.str b) .non=rL:=rfl
theorem zd{H:Hp}{p:nW}{o:HO}(h:H p=rK):Same H (upd H p o):=λb u e=>by
 rw[zq (zH e h)];exact e
theorem zJ{α:Type}{l:List α}{i:Nat}{c:α}(h:l[i]? = rJ c):l.take (i+1)=l.take i ++ [c]:=by
 rw[List.take_add_one,h];rfl
structure FunD(K:nV)(x qual:og)(st:ot)(dV:nX)(f:nW)(fd:oe):Prop where
 ex:∃(oc:nX) (od:Option nW) (kV doc pm:nX) (an:Option nW) (cdv ct:nX) (osl:Array (Option nX)),
  fd=bn x qual (yC st) (z8 st) (zg st) dV kV doc pm an cdv ct/\K.lookup f=rJ #[oc,od,.func fd,osl]/\bG K cdv qual=rL
theorem FunD.okX{P:nZ}{w:oh}{K:nV}{mg:og->Option nX}{base:oo}{x qual:og}{st:ot}{dV:nX}{f:nW}{fd:oe}{N ps:List og}{k:Nat}{sp:Sp}(F:FunD K x qual st dV f fd)(S:zo N ps (zg st))(len:∀vs H Q E,sp vs H Q E->vs.length=ps.length)
  (hbody:∀(cdv:nX) (A:oj) (outer:List pM) (s:nY) (H:Hp) (vs:List V) (Q:VK) (E:XK),Room k (A.deeper (pj qual (zg st) s⁻¹ f cdv))->XE (uz (CXx P w) P w K mg base N qual (zg st) f cdv A outer s H E) E->sp vs H Q E ->
   ∃t,PSs (uz (CXx P w) P w K mg base N qual (zg st) f cdv A outer s H E) (z8 st) t/\t { nx:=λ_ H'=>Q .non H',rt:=Q } (start N vs) H):FnOk P w K mg base (CXx P w) (k+1) f fd ps sp:=by
 obtain⟨oc,od,kV,doc,pm,an,cdv,ct,osl,rfl,lk,hcd⟩:=F.ex;exact Us lk hcd S len λA outer s H vs Q E hr hsp=>hbody cdv A outer s H vs Q E hr zbv hsp
def vf(C:nW)(f:og):Sp:=λvs H Q _=>∃x v,vs=[.ref x,v]/\H x=rJ (XN x C rK)/\∀dx,H dx=rK->Q .non (upd (upd H dx (.xd [(f,v)])) x (XN x C (rJ dx)))
def zcN(H:Hp)(d:nW)(f:og)(v:V)(H':Hp):Prop:=H d=rK/\Same H H'/\H' d=rJ (.xd [(f,v)])
theorem XW{E:XK}{C:nW}{f:og}{v:V}{H:Hp}(h:∀d H',zcN H d f v H'->E (.ref C) (rJ d) H'):∀x,H x=rK->vf C f [.ref x,v] (upd H x (XN x C rK)) (λu H2=>u=.non/\∃dx,H2 x=rJ (XN x C dx)/\E (.ref C) dx (del H2 x)) E0:=by
 intro x hx;refine#[x,v,rfl,zc,λdx hd=>#[rfl,rJ dx,zc,h dx _ #[?_,?_,?_]]]
 ·by_cases e:dx=x
  ·rw[e];exact hx
  ·rw[zq e]at hd;exact hd
 ·have hne:dx≠x:=λe=>by rw[e,zc]at hd;cases hd
  rw[zq hne]at hd;intro b o q;have b1:b≠x:=zH q hx;have b2:b≠dx:=zH q hd;rw[W9 b1,zq b1,zq b2,zq b1];exact q
 ·have hne:dx≠x:=λe=>by rw[e,zc]at hd;cases hd
  rw[W9 hne,zq hne,zc]
section
variable{X:Cx}
def zdy:R2:=λx y H Q=>match y with | .non=>Q (.bl (decide (x=.non))) H | _=>False
theorem op_isN':OpR X (ou .Is) zdy:=λrN s σ H x y v u Q I rx ry h=>by
 cases y with
 | non=>exact zbF rN s σ H x .non v u Q I rx ry #[rfl,h]
 | _=>exact h.elim
def zb3:R2:=λx y H Q=>match y with | .non=>Q (.bl (!decide (x=.non))) H | _=>False
theorem op_notN':OpR X (ou .IsNot) zb3:=λrN s σ H x y v u Q I rx ry h=>by
 cases y with
 | non=>exact Ko rN s σ H x .non v u Q I rx ry #[rfl,h]
 | _=>exact h.elim
def UL:List V->Hp->VK->Prop:=λxs H Q=>match xs with | [.int i,.int j]=>Q (.int (if j > i then j else i)) H | _=>False
theorem Yg(hc:X.calm=rL):wq X (.builtin "max") UL:=λrN s σ H xs us Q I r h=>by
 unfold UL at h;split at h
 ·exact WS hc rN s σ H _ us Q I r #[_,_,rfl,h]
 ·exact h.elim
def rGe:R2:=λx y H Q=>onInt x λi=>onInt y λj=>Q (.bl (decide (j<=i))) H
theorem op_ge':OpR X (ou .GtE) rGe:=zcY
end
theorem w6:oG "max" = rJ (.builtin "max"):=by symm
def K3(ls l:())(m:Int)(k:Nat):Prop:=∃c,l[k]? = rJ c/\(m<=k\/c ∉ ls)
def FB(ls l:())(m:Int)(k:Nat):Prop:=K3 ls l m k/\∀j<k,¬ K3 ls l m j
def NB(ls l:())(m:Int):Prop:=∀j,¬ K3 ls l m j
theorem FB.nb{ls l:()}{m:Int}{k:Nat}(h:FB ls l m k)(n:NB ls l m):False:=n k h.1
inductive D where
 | non | bl (b:Bool) | int (i:Int) | str (x:og) | lst (l:List D) | tup (l:List D)
mutual
def Is(K:nV)(H:Hp):D->V->Prop
 | .non,v=>v=.non
 | .bl b,v=>v=.bl b
 | .int i,v=>v=.int i
 | .str x,v=>v=.str x
 | .lst l,v=>∃a xs,v=.ref a/\SqL K H a xs/\Iss K H l xs
 | .tup l,v=>∃a xs,v=.ref a/\SqT K H a xs/\Iss K H l xs
def Iss(K:nV)(H:Hp):List D->List V->Prop
 | [],vs=>vs=[]
 | d::l,vs=>∃v r,vs=v::r/\Is K H d v/\Iss K H l r
end
mutual
noncomputable def eqD:D->D->Bool
 | .non,.non=>rL
 | .bl a,.bl b=>a == b
 | .bl a,.int b=>(if a then 1 else 0) == b
 | .int a,.bl b=>a ==(if b then 1 else 0)
 | .int a,.int b=>a == b
 | .str a,.str b=>a == b
 | .lst l,.lst m=>vq l m
 | .tup l,.tup m=>vq l m
 | _,_=>rM
noncomputable def vq:List D->List D->Bool
 | [],[]=>rL
 | d::l,e::m=>eqD d e && vq l m
 | _,_=>rM
end
mutual
noncomputable def dpD:D->Nat
 | .lst l=>wI l+1
 | .tup l=>wI l+1
 | _=>0
noncomputable def wI:List D->Nat
 | []=>0
 | d::l=>max (dpD d) (wI l)
end
theorem K4:∀{l:List D} {j:Nat} {d:D},l[j]? = rJ d->dpD d<=wI l
 | d::l,0,_,h=>by
  cases h
  erw[wI]
  lia
 | d::l,j+1,e,h=>by
  have:=K4 (l:=l) (j:=j) (d:=e) h
  erw[wI]
  lia
mutual
theorem vd:∀d:D,eqD d d=rL
 | .non=>rfl
 | .bl b=>by simp [eqD]
 | .int i=>by simp [eqD]
 | .str x=>by simp [eqD]
 | .lst l=>by erw[eqD];exact ve l
 | .tup l=>by erw[eqD];exact ve l
theorem ve:∀l:List D,vq l l=rL
 | []=>rfl
 | d::l=>by erw[vq,vd d,ve l,Bool.and_self]
end
theorem Iss.len{K:nV}{H:Hp}:∀{l:List D} {vs:List V},Iss K H l vs->vs.length=l.length
 | [],vs,h=>by erw[Iss]at h;rw[h];rfl
 | d::l,vs,h=>by
  erw[Iss]at h
  obtain⟨v,r,rfl,_,h2⟩:=h
  erw[aJ,Iss.len h2]
theorem Iss.at{K:nV}{H:Hp}:∀{l:List D} {vs:List V} {j:Nat} {d:D},Iss K H l vs->l[j]? = rJ d->∃v,vs[j]? = rJ v/\Is K H d v
 | d::l,vs,0,_,h,q=>by
  cases q
  erw[Iss]at h
  obtain⟨v,r,rfl,h1,_⟩:=h;exact#[v,rfl,h1]
 | d::l,vs,j+1,e,h,q=>by
  erw[Iss]at h
  obtain⟨v,r,rfl,_,h2⟩:=h;exact Iss.at (j:=j) h2 q
theorem Iss.append{K:nV}{H:Hp}:∀{l m:List D} {vs us:List V},Iss K H l vs->Iss K H m us->Iss K H (l ++ m) (vs ++ us)
 | [],m,vs,us,h,g=>by erw[Iss]at h;rw[h];exact g
 | d::l,m,vs,us,h,g=>by
  erw[Iss]at h
  obtain⟨v,r,rfl,h1,h2⟩:=h
  erw[bo,Iss]
  exact#[v,r ++ us,rfl,h1,Iss.append h2 g]
theorem Iss.ints{K:nV}{H:Hp}:∀(l:List Int),Iss K H (l.map D.int) (l.map V.int)
 | []=>by erw[aF,Iss]
 | i::l=>by
  erw[am,Iss,Is]
  exact#[_,_,rfl,rfl,Iss.ints l]
theorem zk{K:nV}{H H':Hp}{a:nW}{xs:List V}(e:Same H H')(h:SqT K H a xs):SqT K H' a xs:=by
 rcases h with (h | ⟨o,h⟩) | h
 ·exact .inl (.inl (e _ _ h))
 ·exact .inl (.inr #[o,e _ _ h])
 ·exact .inr h
mutual
theorem Is.same{K:nV}{H H':Hp}(e:Same H H'):∀(d:D) (v:V),Is K H d v->Is K H' d v
 | .non,v,h=>by erw[Is]at h ⊢;exact h
 | .bl b,v,h=>by erw[Is]at h ⊢;exact h
 | .int b,v,h=>by erw[Is]at h ⊢;exact h
 | .str b,v,h=>by erw[Is]at h ⊢;exact h
 | .lst l,v,h=>by
  erw[Is]at h ⊢
  obtain⟨a,xs,e1,e2,e3⟩:=h;exact#[a,xs,e1,e.seq e2,Iss.same e l xs e3]
 | .tup l,v,h=>by
  erw[Is]at h ⊢
  obtain⟨a,xs,e1,e2,e3⟩:=h;exact#[a,xs,e1,zk e e2,Iss.same e l xs e3]
theorem Iss.same{K:nV}{H H':Hp}(e:Same H H'):∀(l:List D) (vs:List V),Iss K H l vs->Iss K H' l vs
 | [],vs,h=>by erw[Iss]at h ⊢;exact h
 | d::l,vs,h=>by
  erw[Iss]at h ⊢
  obtain⟨v,r,e1,e2,e3⟩:=h;exact#[v,r,e1,Is.same e d v e2,Iss.same e l r e3]
end
theorem xx:∀(l m:List D),vq l m=((aR (min l.length m.length)).all (λj=>eqD (l.getD j .non) (m.getD j .non)) && l.length == m.length)
 | [],[]=>rfl
 | [],e::m=>by simp [vq]
 | d::l,[]=>by simp [vq]
 | d::l,e::m=>by
  erw[vq,xx l m,aJ]
  have h1:min (l.length+1) (m.length+1)=min l.length m.length+1:=⋯;rw[h1,dq,fj,List.all_map]
  have h2:(l.length+1 == m.length+1)=(l.length == m.length):=by
   rw[cY,beq_iff_eq,beq_iff_eq];lia
  rw[h2]
  erw[List.getD_cons_zero,Bool.and_assoc]
  rfl
section
variable{X:Cx}{rN:List (nW × oF)}{σ:St}{H:Hp}{s:nY}
theorem kN{a:nW}{xs ys:List V}(I:Inv X rN σ H s)(h:SqL X.K H a xs)(g:SqT X.K H a ys):False:=by
 obtain⟨its,r,⟨o,n,e,c,_,d⟩,_⟩:=I.list h;obtain⟨its',r',⟨o',e',c',n',d'⟩,_⟩:=I.tuple g;rw[e]at e';cases e';rw[c]at c';exact absurd (Value.type.inj c') ∅
mutual
theorem Wq(I:Inv X rN σ H s):∀(d e:D) (v:V),Is X.K H d v->Is X.K H e v->d=e
 | .lst l,.lst m,v,h,g=>by
  erw[Is]at h g
  obtain⟨a,xs,rfl,h1,h2⟩:=h;obtain⟨b,ys,e,g1,g2⟩:=g;cases e;have:=I.list_inj h1 g1;subst this;rw[ZF I l m xs h2 g2]
 | .tup l,.tup m,v,h,g=>by
  erw[Is]at h g
  obtain⟨a,xs,rfl,h1,h2⟩:=h;obtain⟨b,ys,e,g1,g2⟩:=g;cases e;have:=I.tuple_inj h1 g1;subst this;rw[ZF I l m xs h2 g2]
 | .lst l,.tup m,v,h,g=>by
  erw[Is]at h g
  obtain⟨a,xs,rfl,h1,h2⟩:=h;obtain⟨b,ys,e,g1,g2⟩:=g;cases e;exact (kN I h1 g1).elim
 | .tup l,.lst m,v,h,g=>by
  erw[Is]at h g
  obtain⟨a,xs,rfl,h1,h2⟩:=h;obtain⟨b,ys,e,g1,g2⟩:=g;cases e;exact (kN I g1 h1).elim
 | .lst l,.non,v,h,g=>by erw[Is]at h g;obtain⟨a,xs,rfl,_⟩:=h;cases g
 | .lst l,.bl _,v,h,g=>by erw[Is]at h g;obtain⟨a,xs,rfl,_⟩:=h;cases g
 | .lst l,.int _,v,h,g=>by erw[Is]at h g;obtain⟨a,xs,rfl,_⟩:=h;cases g
 | .lst l,.str _,v,h,g=>by erw[Is]at h g;obtain⟨a,xs,rfl,_⟩:=h;cases g
 | .tup l,.non,v,h,g=>by erw[Is]at h g;obtain⟨a,xs,rfl,_⟩:=h;cases g
 | .tup l,.bl _,v,h,g=>by erw[Is]at h g;obtain⟨a,xs,rfl,_⟩:=h;cases g
 | .tup l,.int _,v,h,g=>by erw[Is]at h g;obtain⟨a,xs,rfl,_⟩:=h;cases g
 | .tup l,.str _,v,h,g=>by erw[Is]at h g;obtain⟨a,xs,rfl,_⟩:=h;cases g
 | .non,e,v,h,g=>by
  erw[Is]at h
  subst h;cases e <;> erw[Is]at g
  all_goals first | rfl | (obtain⟨a,xs,q,_⟩:=g;cases q) | cases g
 | .bl _,e,v,h,g=>by
  erw[Is]at h
  subst h;cases e <;> erw[Is]at g
  all_goals first | (cases g;rfl) | (obtain⟨a,xs,q,_⟩:=g;cases q) | cases g
 | .int _,e,v,h,g=>by
  erw[Is]at h
  subst h;cases e <;> erw[Is]at g
  all_goals first | (cases g;rfl) | (obtain⟨a,xs,q,_⟩:=g;cases q) | cases g
 | .str _,e,v,h,g=>by
  erw[Is]at h
  subst h;cases e <;> erw[Is]at g
  all_goals first | (cases g;rfl) | (obtain⟨a,xs,q,_⟩:=g;cases q) | cases g
theorem ZF(I:Inv X rN σ H s):∀(l m:List D) (vs:List V),Iss X.K H l vs->Iss X.K H m vs->l=m
 | [],[],_,_,_=>rfl
 | [],e::m,vs,h,g=>by
  erw[Iss]at h g
  subst h;obtain⟨_,_,q,_⟩:=g;cases q
 | d::l,[],vs,h,g=>by
  erw[Iss]at h g
  subst g;obtain⟨_,_,q,_⟩:=h;cases q
 | d::l,e::m,vs,h,g=>by
  erw[Iss]at h g
  obtain⟨v,r,rfl,h1,h2⟩:=h;obtain⟨v',r',q,g1,g2⟩:=g;cases q;rw[Wq I d e v h1 g1,ZF I l m r h2 g2]
end
theorem yF:∀{xs:List V} {us:List nX} {j:Nat} {x:V},Vals xs us->xs[j]? = rJ x->∃u,us[j]? = rJ u/\RelV x u
 | _,_,0,_,.cons r t,h=>by cases h;exact#[_,rfl,r]
 | _,_,j+1,_,.cons r t,h=>yF (j:=j) t h
theorem xm{l m:List D}{xs ys:List V}{its its':List nX}{A:oj}{n:Nat}(hl:Iss X.K H l xs)(hm:Iss X.K H m ys)(r:Vals xs its)(r':Vals ys its')(hn:wI l<n)
  (ih:∀(d e:D) (x y:V) (u v:nX),dpD d<n->Is X.K H d x->Is X.K H e y->RelV x u->RelV y v->SeqAt.EqAt A s u v (eqD d e)) :
  ∀j (h1:j<its.toArray.size) (h2:j<its'.toArray.size),SeqAt.EqAt A s its.toArray[j] its'.toArray[j] (eqD (l.getD j .non) (m.getD j .non)):=by
 intro j h1 h2;rw[ah]at h1 h2;have e1:=hl.len;have e2:=hm.len;have e3:=r.length;have e4:=r'.length;have g1:l[j]? = rJ l[j]:=ae ⋯;have g2:m[j]? = rJ m[j]:=ae ⋯;generalize l[j]=d at g1;generalize m[j]=e at g2;obtain⟨x,hx,ix⟩:=hl.at g1;obtain⟨y,hy,iy⟩:=hm.at g2;obtain⟨u,hu,ru⟩:=yF r hx;obtain⟨v,hv,rv⟩:=yF r' hy
 have q1:its.toArray[j]=u:=by
  have:=(rQ.mp hu).2;simpa using this
 have q2:its'.toArray[j]=v:=by
  have:=(rQ.mp hv).2;simpa using this
 rw[q1,q2,aa,aa,g1,g2];exact ih d e x y u v (cp (K4 g1) hn) ix iy ru rv
theorem vW(I:Inv X rN σ H s):∀(n:Nat) (A:oj) (d e:D) (x y:V) (u v:nX),A.units+n<cLine->dpD d<n->Is X.K H d x->Is X.K H e y->RelV x u->RelV y v->SeqAt.EqAt A s u v (eqD d e):=by
 intro n
 induction n with
 | zero=>intro A d e x y u v _ h;exact absurd h (bU _)
 | succ n ih =>
  intro A d e x y u v hu hd hx hy rx ry;have hu1:A.units<cLine:=⋯;have huA:A.in1.units+n<cLine:=by show A.units+1+n<cLine;lia
  cases d with
  | lst l =>
   erw[Is]at hx
   obtain⟨a,xs,rfl,h1,h2⟩:=hx;cases rx;obtain⟨its,r,p,_⟩:=I.list h1
   cases e with
   | non=>erw[Is]at hy;subst hy;cases ry;exact SeqAt.EqAt.list_none p.isList hu1
   | bl b=>erw[Is]at hy;subst hy;cases ry;exact SeqAt.EqAt.list_bool b p.isList hu1
   | int b=>erw[Is]at hy;subst hy;obtain⟨t,rfl⟩:=ry;exact SeqAt.EqAt.list_int b t p.isList hu1
   | str b=>erw[Is]at hy;subst hy;obtain⟨t,rfl⟩:=ry;exact SeqAt.EqAt.list_str b t p.isList hu1
   | tup m =>
    erw[Is]at hy
    obtain⟨b,ys,rfl,g1,g2⟩:=hy;cases ry;obtain⟨its',r',p',_⟩:=I.tuple g1;exact SeqAt.EqAt.list_tuple p.isList p' hu1
   | lst m =>
    have hy':=hy
    erw[Is]at hy
    obtain⟨b,ys,rfl,g1,g2⟩:=hy;cases ry;obtain⟨its',r',p',_⟩:=I.list g1
    erw[dpD]at hd
    by_cases hab:a=b
    ·subst hab;have:=Wq I (.lst l) (.lst m) (.ref a) (by erw[Is];exact#[a,xs,rfl,h1,h2]) hy';rw[this,vd];exact SeqAt.EqAt.same _
    ·refine .of_refs hab ?_
     erw[eqD]
     have L1:=h2.len;have L2:=g2.len;have L3:=r.length;have L4:=r'.length;by_cases hl:l.length=m.length
     ·have:=SeqAt.RcAt.lists (A:=A) p.isList p'.isList (by erw[ah];lia) hu1 (xm h2 g2 r r' (n:=n) ⋯ λd e x y u v q1 q2 q3 q4 q5=>ih A.in1 d e x y u v huA q1 q2 q3 q4 q5);rw[xx,hl,ef,beq_self_eq_true,fk];have e1:its.toArray.size=m.length:=by erw[ah];lia
      rw[e1]at this;exact this
     ·rw[xx,beq_eq_false_iff_ne.mpr hl,dQ];exact SeqAt.RcAt.lists_lengths p.isList p'.isList (by rw[bne_iff_ne];erw[ah];lia) hu1
  | tup l =>
   erw[Is]at hx
   obtain⟨a,xs,rfl,h1,h2⟩:=hx;cases rx;obtain⟨its,r,p,_⟩:=I.tuple h1
   cases e with
   | non=>erw[Is]at hy;subst hy;cases ry;exact SeqAt.EqAt.tuple_none p hu1
   | bl b=>erw[Is]at hy;subst hy;cases ry;exact SeqAt.EqAt.tuple_bool b p hu1
   | int b=>erw[Is]at hy;subst hy;obtain⟨t,rfl⟩:=ry;exact SeqAt.EqAt.tuple_int b t p hu1
   | str b=>erw[Is]at hy;subst hy;obtain⟨t,rfl⟩:=ry;exact SeqAt.EqAt.tuple_str b t p hu1
   | lst m =>
    erw[Is]at hy
    obtain⟨b,ys,rfl,g1,g2⟩:=hy;cases ry;obtain⟨its',r',p',_⟩:=I.list g1;exact SeqAt.EqAt.tuple_list p p'.isList hu1
   | tup m =>
    have hy':=hy
    erw[Is]at hy
    obtain⟨b,ys,rfl,g1,g2⟩:=hy;cases ry;obtain⟨its',r',p',_⟩:=I.tuple g1
    erw[dpD]at hd
    by_cases hab:a=b
    ·subst hab;have:=Wq I (.tup l) (.tup m) (.ref a) (by erw[Is];exact#[a,xs,rfl,h1,h2]) hy';rw[this,vd];exact SeqAt.EqAt.same _
    ·refine .of_refs hab ?_
     erw[eqD]
     have L1:=h2.len;have L2:=g2.len;have L3:=r.length;have L4:=r'.length;have:=SeqAt.RcAt.tuples (A:=A) p p' hu1 (xm h2 g2 r r' (n:=n) ⋯ λd e x y u v q1 q2 q3 q4 q5=>ih A.in1 d e x y u v huA q1 q2 q3 q4 q5);rw[xx]
     erw[ah]at this
     rw[<- L1,<- L2,L3,L4];exact this
  | non =>
   erw[Is]at hx
   subst hx
   cases e with
   | lst m =>
    erw[Is]at hy
    obtain⟨b,ys,rfl,g1,g2⟩:=hy;cases rx;cases ry;obtain⟨its',r',p',_⟩:=I.list g1;exact SeqAt.EqAt.none_list p'.isList hu1
   | tup m =>
    erw[Is]at hy
    obtain⟨b,ys,rfl,g1,g2⟩:=hy;cases rx;cases ry;obtain⟨its',r',p',_⟩:=I.tuple g1;exact SeqAt.EqAt.none_tuple p' hu1
   | _=>erw[Is]at hy;subst hy;exact Yq rx ry rfl rfl
  | bl c =>
   erw[Is]at hx
   subst hx
   cases e with
   | lst m =>
    erw[Is]at hy
    obtain⟨b,ys,rfl,g1,g2⟩:=hy;cases rx;cases ry;obtain⟨its',r',p',_⟩:=I.list g1;exact SeqAt.EqAt.bool_list _ p'.isList hu1
   | tup m =>
    erw[Is]at hy
    obtain⟨b,ys,rfl,g1,g2⟩:=hy;cases rx;cases ry;obtain⟨its',r',p',_⟩:=I.tuple g1;exact SeqAt.EqAt.bool_tuple _ p' hu1
   | _=>erw[Is]at hy;subst hy;exact Yq rx ry rfl rfl
  | int c =>
   erw[Is]at hx
   subst hx
   cases e with
   | lst m =>
    erw[Is]at hy
    obtain⟨b,ys,rfl,g1,g2⟩:=hy;obtain⟨t,rfl⟩:=rx;cases ry;obtain⟨its',r',p',_⟩:=I.list g1;exact SeqAt.EqAt.int_list _ _ p'.isList hu1
   | tup m =>
    erw[Is]at hy
    obtain⟨b,ys,rfl,g1,g2⟩:=hy;obtain⟨t,rfl⟩:=rx;cases ry;obtain⟨its',r',p',_⟩:=I.tuple g1;exact SeqAt.EqAt.int_tuple _ _ p' hu1
   | _=>erw[Is]at hy;subst hy;exact Yq rx ry rfl rfl
  | str c =>
   erw[Is]at hx
   subst hx
   cases e with
   | lst m =>
    erw[Is]at hy
    obtain⟨b,ys,rfl,g1,g2⟩:=hy;obtain⟨t,rfl⟩:=rx;cases ry;obtain⟨its',r',p',_⟩:=I.list g1;exact SeqAt.EqAt.str_list _ _ p'.isList hu1
   | tup m =>
    erw[Is]at hy
    obtain⟨b,ys,rfl,g1,g2⟩:=hy;obtain⟨t,rfl⟩:=rx;cases ry;obtain⟨its',r',p',_⟩:=I.tuple g1;exact SeqAt.EqAt.str_tuple _ _ p' hu1
   | _=>erw[Is]at hy;subst hy;exact Yq rx ry rfl rfl
def zdt(K:nV):R2:=λx y H Q=>∃l m,((Is K H (.lst l) x/\Is K H (.lst m) y)\/(Is K H (.tup l) x/\Is K H (.tup m) y))/\wI l<50/\Q (.bl (vq l m)) H
def zdG(K:nV):R2:=λx y H Q=>∃l m,((Is K H (.lst l) x/\Is K H (.lst m) y)\/(Is K H (.tup l) x/\Is K H (.tup m) y))/\wI l<50/\Q (.bl (!vq l m)) H
theorem zaV(hu:X.A.units+100<cLine):OpR X (ou .Eq) (zdt X.K):=by
 intro rN s σ H x y v u Q I rx ry h;obtain⟨l,m,hh,hd,q⟩:=h;have hu1:X.A.units<cLine:=⋯;have huA:X.A.in1.units+50<cLine:=by show X.A.units+1+50<cLine;lia
 rcases hh with ⟨hx,hy⟩ | ⟨hx,hy⟩
 ·erw[Is]at hx hy
  obtain⟨a,xs,rfl,h1,h2⟩:=hx;obtain⟨b,ys,rfl,g1,g2⟩:=hy;cases rx;cases ry;obtain⟨its,r,p,_⟩:=I.list h1;obtain⟨its',r',p',_⟩:=I.list g1;have L1:=h2.len;have L2:=g2.len;have L3:=r.length;have L4:=r'.length;by_cases hl:l.length=m.length
  ·have:=SeqAt.RcAt.lists (A:=X.A) p.isList p'.isList (by erw[ah];lia) hu1 (xm h2 g2 r r' (n:=50) hd λd e x y u v q1 q2 q3 q4 q5=>vW I 50 X.A.in1 d e x y u v huA q1 q2 q3 q4 q5);have e1:its.toArray.size=m.length:=by erw[ah];lia
   rw[e1]at this;rw[xx,hl,ef,beq_self_eq_true,fk]at q;exact this X.prog X.w X.xe _ #[.bl _,H,I,rfl,q]
  ·rw[xx,beq_eq_false_iff_ne.mpr hl,dQ]at q;exact SeqAt.RcAt.lists_lengths p.isList p'.isList (by rw[bne_iff_ne];erw[ah];lia) hu1 X.prog X.w X.xe _ #[.bl _,H,I,rfl,q]
 ·erw[Is]at hx hy
  obtain⟨a,xs,rfl,h1,h2⟩:=hx;obtain⟨b,ys,rfl,g1,g2⟩:=hy;cases rx;cases ry;obtain⟨its,r,p,_⟩:=I.tuple h1;obtain⟨its',r',p',_⟩:=I.tuple g1;have L1:=h2.len;have L2:=g2.len;have L3:=r.length;have L4:=r'.length;have:=SeqAt.RcAt.tuples (A:=X.A) p p' hu1 (xm h2 g2 r r' (n:=50) hd λd e x y u v q1 q2 q3 q4 q5=>vW I 50 X.A.in1 d e x y u v huA q1 q2 q3 q4 q5)
  erw[ah]at this
  rw[xx,<- L1,<- L2,L3,L4]at q;exact this X.prog X.w X.xe _ #[.bl _,H,I,rfl,q]
theorem zau(hu:X.A.units+100<cLine):OpR X (ou .NotEq) (zdG X.K):=by
 intro rN s σ H x y v u Q I rx ry h;obtain⟨l,m,hh,hd,q⟩:=h;have hu1:X.A.units<cLine:=⋯;have huA:X.A.in1.units+50<cLine:=by show X.A.units+1+50<cLine;lia
 rcases hh with ⟨hx,hy⟩ | ⟨hx,hy⟩
 ·erw[Is]at hx hy
  obtain⟨a,xs,rfl,h1,h2⟩:=hx;obtain⟨b,ys,rfl,g1,g2⟩:=hy;cases rx;cases ry;obtain⟨its,r,p,_⟩:=I.list h1;obtain⟨its',r',p',_⟩:=I.list g1;have L1:=h2.len;have L2:=g2.len;have L3:=r.length;have L4:=r'.length;by_cases hl:l.length=m.length
  ·have:=SeqAt.RcNeAt.lists (A:=X.A) p.isList p'.isList (by erw[ah];lia) hu1 (xm h2 g2 r r' (n:=50) hd λd e x y u v q1 q2 q3 q4 q5=>vW I 50 X.A.in1 d e x y u v huA q1 q2 q3 q4 q5);have e1:its.toArray.size=m.length:=by erw[ah];lia
   rw[e1]at this;rw[xx,hl,ef,beq_self_eq_true,fk]at q;exact this X.prog X.w X.xe _ #[.bl _,H,I,rfl,q]
  ·rw[xx,beq_eq_false_iff_ne.mpr hl,dQ]at q;exact SeqAt.RcNeAt.lists_lengths p.isList p'.isList (by rw[bne_iff_ne];erw[ah];lia) hu1 X.prog X.w X.xe _ #[.bl _,H,I,rfl,q]
 ·erw[Is]at hx hy
  obtain⟨a,xs,rfl,h1,h2⟩:=hx;obtain⟨b,ys,rfl,g1,g2⟩:=hy;cases rx;cases ry;obtain⟨its,r,p,_⟩:=I.tuple h1;obtain⟨its',r',p',_⟩:=I.tuple g1;have L1:=h2.len;have L2:=g2.len;have L3:=r.length;have L4:=r'.length;have:=SeqAt.RcNeAt.tuples (A:=X.A) p p' hu1 (xm h2 g2 r r' (n:=50) hd λd e x y u v q1 q2 q3 q4 q5=>vW I 50 X.A.in1 d e x y u v huA q1 q2 q3 q4 q5)
  erw[ah]at this
  rw[xx,<- L1,<- L2,L3,L4]at q;exact this X.prog X.w X.xe _ #[.bl _,H,I,rfl,q]
end
theorem qf(l m:List Int):vq (l.map D.int) (m.map D.int)=decide (l=m):=by
 induction l generalizing m with
 | nil=>cases m <;> simp [vq]
 | cons a l ih =>
  cases m with
  | nil=>simp [vq]
  | cons b m =>
   erw[am,vq,eqD,ih m]
   by_cases h1:a=b
   ·subst h1;by_cases h2:l=m
    ·simp [h2]
    ·simp [h2]
   ·simp [h1]
theorem j7(l:List Int):wI (l.map D.int)=0:=by
 induction l with
 | nil=>rfl
 | cons a l ih=>erw[am,wI,dpD,ih];rfl
abbrev CNx(n i:Nat)(Pv:Nat->List V->Hp->Prop)(rP:List V)(H:Hp):Prop:=∃m',m'<n - i/\(m'=n - (i+1)/\i+1<=n/\Pv (i+1) rP H)
theorem CNx.mk{n i:Nat}{Pv:Nat->List V->Hp->Prop}{rP:List V}{H:Hp}(hi:i<n)(h:Pv (i+1) rP H):CNx n i Pv rP H:=#[n - (i+1),⋯,rfl,hi,h]
def ZT(J:It)(g:TG)(tt:TT)(te:TE)(own:Nat)(ix:())(σ:St)(H1:Hp)(Q:VK)(D:nW):Prop:=∃W:Nat->Nat->List V->Hp->Prop,(∃m,W 0 m [] (upd H1 D (.lst []))) /\
 ∀i m rP H',W i m rP H'->(J.stop i H'/\Q (.ref D) H')\/(J.go i H'/\∀x H2,J.yld i H' x H2->g x (vx σ own ix) H2 λσ3 H3=>yZ (vx σ own ix) σ3/\tt σ3 H3 λb H4=>if b=rL then
  te σ3 H4 λv H5=>H5 D=rJ (.lst rP)/\rP.length<nU/\∃m',m'<m/\W (i+1) m' (rP ++ [v]) (upd H5 D (.lst (rP ++ [v])))
  else ∃m',m'<m/\W (i+1) m' rP H4)
def CompR(lo:Int)(n:Nat)(g:TG)(tt:TT)(te:TE)(own:Nat)(ix:())(σ:St)(H1:Hp)(Q:VK)(D:nW):Prop:=ZT (Itr lo n) g tt te own ix σ H1 Q D
def CompL(K:nV)(a:nW)(g:TG)(tt:TT)(te:TE)(own:Nat)(ix:())(σ:St)(H1:Hp)(Q:VK)(D:nW):Prop:=ZT (Itl K a) g tt te own ix σ H1 Q D
def CompS(x:og)(g:TG)(tt:TT)(te:TE)(own:Nat)(ix:())(σ:St)(H1:Hp)(Q:VK)(D:nW):Prop:=ZT (Its x) g tt te own ix σ H1 Q D
theorem Jg{ta:TA}{g:TG}{tt:TT}{te:TE}{own:Nat}{ix:()}{σ:St}{H:Hp}{Q:VK}:uC (Kx ta) g tt te own ix σ H Q=ta σ H λvs H1=>∃j:Int,vs=[.int j]/\-(2 ^ 62)<=j/\j<2 ^ 62/\∀D,H1 D=rK->CompR 0 j.toNat g tt te own ix σ H1 Q D:=rfl
theorem zaJ{K:nV}{tl:TE}{g:TG}{tt:TT}{te:TE}{own:Nat}{ix:()}{σ:St}{H:Hp}{Q:VK}:uC (JY K tl) g tt te own ix σ H Q=tl σ H λx H1=>∃a,x=.ref a/\(∃xs,SqL K H1 a xs)/\∀D,H1 D=rK->CompL K a g tt te own ix σ H1 Q D:=rfl
theorem zbj{tl:TE}{g:TG}{tt:TT}{te:TE}{own:Nat}{ix:()}{σ:St}{H:Hp}{Q:VK}:uC (zdo tl) g tt te own ix σ H Q=tl σ H λv H1=>∃x,v=.str x/\∀D,H1 D=rK->CompS x g tt te own ix σ H1 Q D:=rfl
section
variable{g:TG}{tt:TT}{te:TE}{own:Nat}{ix:()}{σ:St}{H1:Hp}{Q:VK}{D:nW}
theorem CompR.by{lo:Int}{n:Nat}(Pv:Nat->List V->Hp->Prop)(h0:Pv 0 [] (upd H1 D (.lst [])))
  (hs:∀i rP H',i<n->Pv i rP H'->g (.int (lo+i)) (vx σ own ix) H' λσ3 H3=>yZ (vx σ own ix) σ3/\tt σ3 H3 λb H4=>if b=rL then
   te σ3 H4 λv H5=>H5 D=rJ (.lst rP)/\rP.length<nU/\CNx n i Pv (rP ++ [v]) (upd H5 D (.lst (rP ++ [v])))else CNx n i Pv rP H4)
  (hd:∀rP H',Pv n rP H'->Q (.ref D) H'):CompR lo n g tt te own ix σ H1 Q D:=by
 refine#[λi m rP H=>m=n - i/\i<=n/\Pv i rP H,#[n,by simp,ay _,h0],?_];rintro i m rP H' ⟨rfl,hi,p⟩;by_cases hlt:i<n
 ·refine .inr #[hlt,λx H2 y=>?_];obtain⟨e,y⟩:=y;subst e y;exact hs i rP _ hlt p
 ·have e:i=n:=⋯;subst e;exact .inl #[al _,hd rP H' p]
theorem CompL.by{K:nV}{a:nW}{xs:List V}(Pv:Nat->List V->Hp->Prop)(h0:Pv 0 [] (upd H1 D (.lst [])))(hl:∀i rP H',i<=xs.length->Pv i rP H'->SqL K H' a xs)
  (hs:∀i x rP H',xs[i]? = rJ x->Pv i rP H'->g x (vx σ own ix) H' λσ3 H3=>yZ (vx σ own ix) σ3/\tt σ3 H3 λb H4=>if b=rL then
   te σ3 H4 λv H5=>H5 D=rJ (.lst rP)/\rP.length<nU/\CNx xs.length i Pv (rP ++ [v]) (upd H5 D (.lst (rP ++ [v])))else CNx xs.length i Pv rP H4)
  (hd:∀rP H',Pv xs.length rP H'->Q (.ref D) H'):CompL K a g tt te own ix σ H1 Q D:=by
 refine#[λi m rP H=>m=xs.length - i/\i<=xs.length/\Pv i rP H,#[xs.length,by simp,ay _,h0],?_];rintro i m rP H' ⟨rfl,hi,p⟩;have q:=hl i rP H' hi p;by_cases hlt:i<xs.length
 ·refine .inr #[#[xs,xs[i],q,by simp [hlt]],λx H2 y=>?_];obtain⟨e,y⟩:=y;subst e;exact hs i x rP _ (y xs q) p
 ·have e:i=xs.length:=⋯;subst e;exact .inl #[#[xs,q,al _],hd rP H' p]
theorem CompS.by{l:()}(Pv:Nat->List V->Hp->Prop)(h0:Pv 0 [] (upd H1 D (.lst [])))
  (hs:∀i c rP H',l[i]? = rJ c->Pv i rP H'->g (.str (tx [c])) (vx σ own ix) H' λσ3 H3=>yZ (vx σ own ix) σ3/\tt σ3 H3 λb H4=>if b=rL then
   te σ3 H4 λv H5=>H5 D=rJ (.lst rP)/\rP.length<nU/\CNx l.length i Pv (rP ++ [v]) (upd H5 D (.lst (rP ++ [v])))else CNx l.length i Pv rP H4)
  (hd:∀rP H',Pv l.length rP H'->Q (.ref D) H'):CompS (tx l) g tt te own ix σ H1 Q D:=by
 refine#[λi m rP H=>m=l.length - i/\i<=l.length/\Pv i rP H,#[l.length,by simp,ay _,h0],?_];rintro i m rP H' ⟨rfl,hi,p⟩;by_cases hlt:i<l.length
 ·refine .inr #[hlt,λv H2 y=>?_];obtain⟨e,c,hc,ev⟩:=y;subst e ev;exact hs i c rP _ hc p
 ·have e:i=l.length:=⋯;subst e;exact .inl #[rfl,hd rP H' p]
end
theorem yP{x:V}{r:St}:yZ (rK::r) (rJ x::r):=#[rfl,λi v h=>by
 cases i with
 | zero=>cases h
 | succ i=>exact h]
theorem zQ{X:Cx}{scope sc:oN}{own caps:List og}{ix:()}(h1:scope.kind=.function)(h2:scope.names.all (λy=>y.2 != .cell)=rL)(h3:scope.names.all (λy=>y.2 != .local || scope.names.lookup y.1 == rJ .local)=rL)
  (h4:scope.names.all (λy=>y.2 != .free || sc.names.lookup y.1 == rJ .cell)=rL) (hsc:X.env.scope=sc) (h5:own.all (λy=>scope.names.lookup y == rJ .local)=rL) (h6:caps.all (λy=>scope.names.lookup y == rJ .free)=rL) (h7:ix.map (λi=>X.N[i]?)=caps.map rJ):qZ X scope own caps ix:=by
 refine#[h1,λy hy=>?_,λy hy e=>?_,λy hy=>?_,λy hy=>?_,λy hy=>?_,h7]
 ·have:=sf.mp h2 y hy;simpa using this
 ·have:=sf.mp h3 y hy;rw[e]at this;simpa using this
 ·have:=sf.mp h4 _ hy;have:=by simpa using this
  refine .inl ?_;show X.env.scope.names.lookup y=rJ .cell;rw[hsc];exact this
 ·have:=sf.mp h5 y hy;simpa using this
 ·have:=sf.mp h6 y hy;simpa using this
theorem ZX{α:Type}(l:List α){a b:Int}(h0:0<=a)(h1:a<=b)(h2:b<=l.length):cut l (rJ a) (rJ b)=(l.drop a.toNat).take (b - a).toNat:=by
 obtain⟨m,rfl⟩:=bv h0;obtain⟨n,rfl⟩:=bv (by lia:0<=b);unfold cut;rw[HT.sIx_nat,HT.sIx_nat,bT ⋯,bT ⋯];have:((n:Int) - (m:Int)).toNat=n - m:=⋯;rw[this];rfl
theorem jW{k:Nat}{A:oj}(r:Room k A):A.units+100<cLine:=by have:=r.un;lia
theorem zaf{K:nV}{x y:V}{H:Hp}{Q:VK}{l m:List D}(h:(Is K H (.lst l) x/\Is K H (.lst m) y)\/(Is K H (.tup l) x/\Is K H (.tup m) y))(hd:wI l<50)(q:Q (.bl (vq l m)) H):zdt K x y H Q:=#[l,m,h,hd,q]
theorem Kh{K:nV}{x y:V}{H:Hp}{Q:VK}{l m:List D}(h:(Is K H (.lst l) x/\Is K H (.lst m) y)\/(Is K H (.tup l) x/\Is K H (.tup m) y))(hd:wI l<50)(q:Q (.bl (!vq l m)) H):zdG K x y H Q:=#[l,m,h,hd,q]
def zcK(t u:TS):TS:=λD σ H=>∃R:St->Hp->Prop,t { D with nx:=R } σ H/\∀σ' H',R σ' H'->u D σ' H'
theorem zi{X:Cx}{st:ot}{rest:List ot}{t u:TS}(h1:PS X st t)(h2:PSs X rest u):PSs X (st::rest) (zcK t u):=by
 intro rN s σ H D I h;obtain⟨R,h,hr⟩:=h;refine pf (thn (h1 rN s σ H { D with nx:=R } I h) λf s1 q=>?_)
 cases f with
 | next =>
  obtain⟨σ',H',I',q⟩:=q;exact h2 rN s1 σ' H' D I' (hr _ _ q)
 | ret v=>exact q
 | brk=>exact q
 | cont=>exact q
theorem zaP{t u:TS}{D:wU}{σ:St}{H:Hp}(R:St->Hp->Prop)(h:t { D with nx:=R } σ H)(hr:∀σ' H',R σ' H'->u D σ' H'):zcK t u D σ H:=#[R,h,hr]
theorem zj{t u:TS}{D:wU}{σ:St}{H:Hp}(R:St->Hp->Prop)(h:t { D with nx:=R } σ H)(hr:∀G:St->Hp->Prop,G=u D->∀σ' H',R σ' H'->G σ' H'):zcK t u D σ H:=#[R,h,hr _ rfl]
theorem nm4{α β γ δ:Type}{P R:α->β->γ->δ->Prop}{B:α->β->γ->δ->Prop}(h:∀G:α->β->γ->δ->Prop,G=B->∀a b c d,P a b c d->R a b c d->G a b c d):∀a b c d,P a b c d->R a b c d->B a b c d:=h _ rfl
theorem nm3{α β γ:Type}{P R:α->β->γ->Prop}{B:α->β->γ->Prop}(h:∀G:α->β->γ->Prop,G=B->∀a b c,P a b c->R a b c->G a b c):∀a b c,P a b c->R a b c->B a b c:=h _ rfl
theorem zD{H H':Hp}{a:nW}{o:HO}(h:Same H H')(e:H a=rK):Same H (upd H' a o):=λb u q=>by
 rw[zq (zH q e)];exact h b u q
theorem ForL.by{K:nV}{a:nW}{xs:List V}{g:TG}{tb:TS}{D:wU}{σ:St}{H:Hp}(Pv:Nat->St->Hp->Prop)(h0:Pv 0 σ H)(hl:∀i σ H,i<=xs.length->Pv i σ H->SqL K H a xs)
  (hs:∀i x σ H,xs[i]? = rJ x->Pv i σ H->g x σ H λσ2 H2=>tb { D with nx:=Pv (i+1),ct:=Pv (i+1),bk:=D.nx } σ2 H2) (hd:∀σ H,Pv xs.length σ H->D.nx σ H):ForL K a g tb D σ H:=Qv Pv h0 hl hs hd
theorem Ub{A B:Prop}(h:B):if rL=rM then A else B:=by rw[if_neg ∅];exact h
def CompV(K:nV)(a:nW)(n:Nat)(g:TG)(tt:TT)(te:TE)(own:Nat)(ix:())(σ:L2.St)(H1:Hp)(Q:VK)(D:nW):Prop:=ZT (Irv K a n) g tt te own ix σ H1 Q D
theorem zbp{K:nV}{ta:TA}{g:TG}{tt:TT}{te:TE}{own:Nat}{ix:()}{σ:L2.St}{H:Hp}{Q:VK}:uC (zdO K ta) g tt te own ix σ H Q=ta σ H λvs H1=>∃a xs,vs=[.ref a]/\SqL K H1 a xs/\∀D,H1 D=rK->CompV K a xs.length g tt te own ix σ H1 Q D:=rfl
theorem CompV.by{K:nV}{a:nW}{xs:List V}{g:TG}{tt:TT}{te:TE}{own:Nat}{ix:()}{σ:L2.St}{H1:Hp}{Q:VK}{D:nW}(Pv:Nat->List V->Hp->Prop)(h0:Pv 0 [] (upd H1 D (.lst [])))(hl:∀i rP H',i<=xs.length->Pv i rP H'->SqL K H' a xs)
  (hs:∀i x rP H',xs.reverse[i]? = rJ x->Pv i rP H'->g x (vx σ own ix) H' λσ3 H3=>yZ (vx σ own ix) σ3/\tt σ3 H3 λb H4=>if b=rL then
   te σ3 H4 λv H5=>H5 D=rJ (.lst rP)/\rP.length<nU/\CNx xs.length i Pv (rP ++ [v]) (upd H5 D (.lst (rP ++ [v])))else CNx xs.length i Pv rP H4)
  (hd:∀rP H',Pv xs.length rP H'->Q (.ref D) H'):CompV K a xs.length g tt te own ix σ H1 Q D:=by
 refine#[λi m rP H=>m=xs.length - i/\i<=xs.length/\Pv i rP H,#[xs.length,by simp,ay _,h0],?_];rintro i m rP H' ⟨rfl,hi,p⟩;have q:=hl i rP H' hi p;by_cases hlt:i<xs.length
 ·refine .inr #[#[xs,q,rfl,hlt],λx H2 y=>?_];obtain⟨e,y⟩:=y;subst e;refine hs i x rP _ ?_ p;rw[bp hlt];exact y xs q rfl
 ·have e:i=xs.length:=⋯;subst e;exact .inl #[rfl,hd rP H' p]
theorem zcq{v:V}{σ:L2.St}{H:Hp}{Q:VK}:z9 0 (rJ v::σ) H Q=Q v H:=rfl
theorem zct{a0:Option V}{v:V}{σ:L2.St}{H:Hp}{Q:VK}:z9 1 (a0::rJ v::σ) H Q=Q v H:=rfl
theorem zc0{a0 a1:Option V}{v:V}{σ:L2.St}{H:Hp}{Q:VK}:z9 2 (a0::a1::rJ v::σ) H Q=Q v H:=rfl
theorem zc8{a0 a1 a2:Option V}{v:V}{σ:L2.St}{H:Hp}{Q:VK}:z9 3 (a0::a1::a2::rJ v::σ) H Q=Q v H:=rfl
theorem zcg{a0 a1 a2 a3:Option V}{v:V}{σ:L2.St}{H:Hp}{Q:VK}:z9 4 (a0::a1::a2::a3::rJ v::σ) H Q=Q v H:=rfl
theorem zc4{a0 a1 a2 a3 a4:Option V}{v:V}{σ:L2.St}{H:Hp}{Q:VK}:z9 5 (a0::a1::a2::a3::a4::rJ v::σ) H Q=Q v H:=rfl
theorem zcS{a0 a1 a2 a3 a4 a5:Option V}{v:V}{σ:L2.St}{H:Hp}{Q:VK}:z9 6 (a0::a1::a2::a3::a4::a5::rJ v::σ) H Q=Q v H:=rfl
theorem zcu{a0 a1 a2 a3 a4 a5 a6:Option V}{v:V}{σ:L2.St}{H:Hp}{Q:VK}:z9 7 (a0::a1::a2::a3::a4::a5::a6::rJ v::σ) H Q=Q v H:=rfl
theorem zcp{a0 a1 a2 a3 a4 a5 a6 a7:Option V}{v:V}{σ:L2.St}{H:Hp}{Q:VK}:z9 8 (a0::a1::a2::a3::a4::a5::a6::a7::rJ v::σ) H Q=Q v H:=rfl
theorem zcV{a0 a1 a2 a3 a4 a5 a6 a7 a8:Option V}{v:V}{σ:L2.St}{H:Hp}{Q:VK}:z9 9 (a0::a1::a2::a3::a4::a5::a6::a7::a8::rJ v::σ) H Q=Q v H:=rfl
theorem KC{a0 a1 a2 a3 a4 a5 a6 a7 a8 a9:Option V}{v:V}{σ:L2.St}{H:Hp}{Q:VK}:z9 10 (a0::a1::a2::a3::a4::a5::a6::a7::a8::a9::rJ v::σ) H Q=Q v H:=rfl
theorem Jv{a0 a1 a2 a3 a4 a5 a6 a7 a8 a9 a10:Option V}{v:V}{σ:L2.St}{H:Hp}{Q:VK}:z9 11 (a0::a1::a2::a3::a4::a5::a6::a7::a8::a9::a10::rJ v::σ) H Q=Q v H:=rfl
theorem zaT{b:Bool}{p:Bool->Prop}:(∃k,V.bl b=V.bl k/\p k)=p b:=propext #[λ⟨_,h,q⟩=>by cases h;exact q,λq=>#[_,rfl,q]]
theorem Jb{b:Int}{p:Int->Prop}:(∃k,V.int b=V.int k/\p k)=p b:=propext #[λ⟨_,h,q⟩=>by cases h;exact q,λq=>#[_,rfl,q]]
theorem Jc{b:og}{p:og->Prop}:(∃k,V.str b=V.str k/\p k)=p b:=propext #[λ⟨_,h,q⟩=>by cases h;exact q,λq=>#[_,rfl,q]]
theorem Jk{b:nW}{p:nW->Prop}:(∃k,V.ref b=V.ref k/\p k)=p b:=propext #[λ⟨_,h,q⟩=>by cases h;exact q,λq=>#[_,rfl,q]]
theorem zcM{i:Int}{p:Int->Prop}:onInt (.int i) p=p i:=rfl
theorem zc3{i:og}{p:og->Prop}:onStr (.str i) p=p i:=rfl
theorem zcR{i:Bool}{p:Bool->Prop}:onBl (.bl i) p=p i:=rfl
theorem zcC{i:nW}{p:nW->Prop}:onRef (.ref i) p=p i:=rfl
theorem zcI{K:nV}{b:Bool}{H:Hp}{p:Bool->Prop}:zcE K (.bl b) H p=p b:=rfl
theorem Jd{x:V}{p:Int->Prop}:onInt x p=∃k,x=.int k/\p k:=propext #[onInt.of,onInt.to]
theorem Q7{x:V}{p:og->Prop}:onStr x p=∃k,x=.str k/\p k:=propext #[onStr.of,onStr.to]
theorem Q9{x:V}{p:Bool->Prop}:onBl x p=∃k,x=.bl k/\p k:=propext #[onBl.of,onBl.to]
theorem Q5{x:V}{p:nW->Prop}:onRef x p=∃k,x=.ref k/\p k:=propext #[onRef.of,onRef.to]
theorem VV{i:Nat}{σ:L2.St}{H:Hp}{Q:VK}:z9 i σ H Q=∃v,σ[i]? = rJ (rJ v)/\Q v H:=propext #[onSl.of,λ⟨v,h,q⟩=>by erw[z9,onSl,h];exact q]
theorem JE{a b:Int}{H:Hp}{Q:VK}:rEq (.int a) (.int b) H Q=Q (.bl (decide (a=b))) H:=rfl
theorem JC{a b:og}{H:Hp}{Q:VK}:rEq (.str a) (.str b) H Q=Q (.bl (decide (a=b))) H:=rfl
theorem KA{a b:Int}{H:Hp}{Q:VK}:rNe (.int a) (.int b) H Q=Q (.bl (!decide (a=b))) H:=rfl
theorem Kw{a b:og}{H:Hp}{Q:VK}:rNe (.str a) (.str b) H Q=Q (.bl (!decide (a=b))) H:=rfl
theorem JW{a:Int}{y:V}{H:Hp}{Q:VK}:Xt (.int a) y H Q=onInt y λj=>Q (.int (a+j)) H:=rfl
theorem zae{a:og}{y:V}{H:Hp}{Q:VK}:Xt (.str a) y H Q=onStr y λj=>a.length+j.length<=nU/\Q (.str (a ++ j)) H:=rfl
theorem JH{a:nW}{y:V}{H:Hp}{Q:VK}:Xt (.ref a) y H Q=zam (.ref a) y H Q:=rfl
theorem KS{a:Int}{y:V}{H:Hp}{Q:VK}:zbK (.int a) y H Q=onInt y λj=>CMul a j/\Q (.int (a * j)) H:=rfl
theorem JF{z:og}{y:V}{H:Hp}{Q:VK}:zbK (.str z) y H Q=onInt y λn=>0<=n/\n<=1000/\z.length<=1000/\Q (.str (tx (ce n.toNat (cs z)).flatten)) H:=rfl
theorem zc1{a:Int}{y:V}{H:Hp}{Q:VK}:zdF (.int a) y H Q=onInt y λj=>Q (.bl (decide (a<j))) H:=rfl
theorem zch{a:og}{y:V}{H:Hp}{Q:VK}:zdF (.str a) y H Q=onStr y λj=>Q (.bl (decide (cs a<cs j))) H:=rfl
theorem zcT{a:Int}{y:V}{H:Hp}{Q:VK}:zcl (.int a) y H Q=onInt y λj=>Q (.bl (decide (a<=j))) H:=rfl
theorem zcx{a:og}{y:V}{H:Hp}{Q:VK}:zcl (.str a) y H Q=onStr y λj=>Q (.bl (!(decide (cs j<cs a)))) H:=rfl
theorem zcW{a:Int}{y:V}{H:Hp}{Q:VK}:zcb (.int a) y H Q=onInt y λj=>Q (.bl (decide (j<a))) H:=rfl
theorem zcm{a:og}{y:V}{H:Hp}{Q:VK}:zcb (.str a) y H Q=onStr y λj=>Q (.bl (decide (cs j<cs a))) H:=rfl
theorem zdb{K:nV}{a:nW}{y:V}{H:Hp}{Q:VK}:rIx K (.ref a) y H Q=onInt y λi=>(∃xs,SqL K H a xs/\∃v,atI xs i=rJ v/\Q v H)\/∃xs,SqT K H a xs/\∃v,atI xs i=rJ v/\Q v H:=rfl
theorem zc2{K:nV}{z:og}{y:V}{H:Hp}{Q:VK}:rIx K (.str z) y H Q=QU (.str z) y H Q:=rfl
theorem KN{K:nV}{z:og}{lo hi:Option Int}{H:Hp}{Q:VK}:zcA K (.str z) lo hi H Q=(z.length<=nU/\Q (.str (tx (cut (cs z) lo hi))) H):=rfl
theorem Ks{K:nV}{a:nW}{lo hi:Option Int}{H:Hp}{Q:VK}:zcA K (.ref a) lo hi H Q=(∃xs,SqL K H a xs/\∀p,H p=rK->Q (.ref p) (upd H p (.lst (Q1 xs lo hi)))):=rfl
theorem JK{K:nV}{z:og}{H:Hp}{Q:VK}:XS K [.str z] H Q=(z.length<=nU/\Q (.int z.length) H):=rfl
theorem zad{K:nV}{a:nW}{H:Hp}{Q:VK}:XS K [.ref a] H Q=(∃n:Nat,((∃xs,SqL K H a xs/\n=xs.length)\/∃xs,SqT K H a xs/\n=xs.length)/\Q (.int n) H):=rfl
theorem Kt{x:V}{H:Hp}{Q:VK}:zdy x .non H Q=Q (.bl (decide (x=.non))) H:=rfl
theorem Ke{x:V}{H:Hp}{Q:VK}:zb3 x .non H Q=Q (.bl (!decide (x=.non))) H:=rfl
theorem Kj{i j:Int}{H:Hp}{Q:VK}:UL [.int i,.int j] H Q=Q (.int (if j > i then j else i)) H:=rfl
theorem JN{a:nW}{y:V}{H:Hp}{Q:VK}:Wo (.ref a) [y] H Q=(∃xs,H a=rJ (.lst xs)/\xs.length<nU/\Q .non (upd H a (.lst (xs ++ [y])))):=rfl
theorem zdL{K:nV}{z:og}{H:Hp}{p:Prop}:(tyV K "str" (.str z) H/\p)=p:=propext #[λh=>h.2,λh=>#[rfl,h]]
section
variable{X:Cx}{a b e:ol}{ta tb te:TE}{pos p:oU}
theorem zy(i:Nat){x:og}{pos':oU}(hN:X.N.Nodup)(he:PE X e te)(hi:X.N[i]? = rJ x:=by rfl)(hx:Loc X.env.scope x:=by exact .inl rfl)(hs:swapsWith e (rJ (.Name x pos')) pos.line X.env=pure rM:=by rfl)(hf:X.fn x=rL\/X.env.scope.names.lookup x=rJ .local:=by first | exact .inl rfl | exact .inr rfl | assumption) :
  PS X (.Assign [.Name x pos'] e pos) (zak te (yK i)):=xO hN hi hx he hs hf
theorem zl{r:R2}(hr:IxR X r)(ha:PE X a ta)(hb:PE X b tb)(hs:VU b:=by exact λ_ _=>rfl):PE X (.Subscript a b pos) (tOp r ta tb):=zcB hr ha hb hs
theorem zF(hm:X.mg "len" = rK)(he:PE X e te)(hg:Gl X "len":=by rfl)(h1:nS [e] X.env=(rM,eval e X.env)::nS [] X.env:=by rfl)(h2:(oB pos (nS [] X.env)).any (·.1)=rM:=by rfl):PE X (.Call (.Name "len" p) [e] [] pos) (tCB (XS X.K) (zL te xH)) :=
 yw zde hg hm PySem.boot_len (za he zf h1) (he:=h1) (hpl:=h2)
end
section
variable{X:Cx}
theorem WG:∀{ys:List og} {its:List nX},Vals (ys.map V.str) its->∃l:List (og × rh),its=strValues l/\l.map (·.1)=ys
 | [],_,.nil=>#[[],rfl,rfl]
 | y::ys,_,.cons r t=>by
  obtain⟨tk,rfl⟩:=r;obtain⟨l,e1,e2⟩:=WG t;exact#[(y,tk)::l,by rw[e1];rfl,by rw[am,e2]]
def zdm(K:nV):V->List V->Hp->VK->Prop:=λx xs H Q=>∃z p ys,x=.str z/\xs=[.ref p]/\SqL K H p (ys.map V.str)/\JoinOk z ys=rL/\Q (.str (Txt.join z ys)) H
theorem zax:MtR X "str.join" (zdm X.K):=by
 intro rN s σ H x xs v us Q I rx rv h;obtain⟨z,p,ys,rfl,rfl,hS,hok,q⟩:=h;obtain⟨t,rfl⟩:=rx;obtain⟨u,rfl,ru⟩:=xP rv;cases ru;obtain⟨its,r,pl,_⟩:=I.list hS;obtain⟨l,rfl,e⟩:=WG r;exact PySem.SC.join pl.isList e hok λt' k=>#[.str _,H,I.tok _,#[_,rfl],q]
theorem jP:∀{bs:List Bool} {its:List nX} {i:Nat} {v:nX},Vals (bs.map V.bl) its->its[i]? = rJ v->v=.bool (bs.getD i rM)
 | [],_,_,_,.nil,h=>by cases h
 | b::bs,_,0,v,.cons r t,h=>by
  cases r;cases h;rfl
 | b::bs,_,i+1,v,.cons r t,h=>jP (bs:=bs) (i:=i) t h
theorem XY(bs:List Bool):(aR bs.length).all (λi=>bs.getD i rM)=bs.all id:=by
 induction bs with
 | nil=>rfl
 | cons b bs ih =>
  rw[aJ,dq,fj,List.all_map,fj,<- ih];rfl
def zd6(K:nV):List V->Hp->VK->Prop:=λxs H Q=>∃(p:nW) (bs:List Bool),xs=[.ref p]/\SqL K H p (bs.map V.bl)/\Q (.bl (bs.all id)) H
theorem zco(hc:X.calm=rL):wq X (.builtin "all") (zd6 X.K):=by
 intro rN s σ H xs us Q I r h;obtain⟨p,bs,rfl,hS,q⟩:=h;obtain⟨u,rfl,ru⟩:=xP r;cases ru;obtain⟨its,rv,pl,hz⟩:=I.list hS
 have hlen:its.length=bs.length:=by
  have:=rv.length;rw[ac]at this;exact this.symm
 have hh:X.A.in1.handled=rK:=I.ok.hd hc
 have hne:p≠s⁻¹:=by
  obtain⟨o,n,e,_⟩:=pl;exact av (ar e)
 obtain⟨f0,f1,f2,f3,f4,f5⟩:=I.fpOk (H':=H) (al _) (I.hok.fresh (al _));have I1:=I.kept (t':=s.toks) (h':=s.heap.push { cls:=.type "list_iterator",data:=.fields (List.toArray [.ref p,.int 0 0]) }) λb o e=>ag _ e;refine call_all_walk (pw pl.isList ?_);refine#[s⁻¹,_,_,_,_,_,λi=>bs.getD i rM,rfl,Walks.list hh s⁻¹ p hne its.toArray,#[#[_,aE _ rfl,rfl,rfl],?_],?_,?_]
 ·obtain⟨o,n,e,c,d,dt⟩:=pl;exact#[o,ag _ e,c,n,dt]
 ·intro i v s' Q' E' hv hq;have:=jP rv (i:=i) (v:=v) (by simpa using hv);rw[this];exact oy hq
 ·intro h' tk hk
  have e:(aR its.toArray.size).all (λi=>bs.getD i rM)=bs.all id:=by
   rw[ah,hlen,XY]
  rw[e];refine#[.bl _,H,?_,rfl,q];exact I1.turned (t':=tk) (it:=s⁻¹) (λb o hb q=>hk b o (by simpa using hb) q) f0 f1 f3 f4 f5
end
section
variable{M:pY}{A:oj}{E:nX->nY->Prop}{s:nY}{base:oo}{env env0:pM}{outer:List pM}{L x t C:nW}{dx:Option nW}
theorem zaX{tb:nX}{Q:Unit->nY->Prop}(hfr:A.frames=rJ (env0::outer))(hl:s.heap.FunFrames base (env0::outer))(hf:env0.frame=rJ L)(he:env.frame=rJ L)
  (hx:s.heap.get? x=rJ (xob C dx t tb)) (htb:Kr s.heap x tb)
  (h:∀h' T oT ts,h'.get? x=rJ (xob C dx t (.ref T))->T≠x->(tb=.ref T\/s⁻¹<=T)->h'.get? T=rJ oT->oT.data=.fields ts->3<ts.size ->
   (∀b o,b≠x->tb≠.ref b->b ∉ frs (env0::outer)->s.heap.get? b=rJ o->h'.get? b=rJ o)->(∀b o,b≠x->tb≠.ref b->s.heap.get? b=rJ o->∃sl,h'.get? b=rJ { o with slots:=sl })->Q Unit.unit { s with heap:=h' }) :
  oa M A (noteFrame (.ref x) env) Q E s:=by
 have land:∀(h1:oo) (T:nW) (oT:oF) (ts:Array nX),h1.get? x=rJ (xob C dx t (.ref T))->T≠x->(tb=.ref T\/s⁻¹<=T)->h1.get? T=rJ oT->oT.data=.fields ts->3<ts.size ->
   (∀b o,b≠x->tb≠.ref b->b ∉ frs (env0::outer)->s.heap.get? b=rJ o->h1.get? b=rJ o)->(∀b o,b≠x->tb≠.ref b->s.heap.get? b=rJ o->∃sl,h1.get? b=rJ { o with slots:=sl }) ->
   Q Unit.unit { s with heap:=h1 }:=λh1 T oT ts e1 nT oldT e2 d2 z2 k1 k2=>h h1 T oT ts e1 nT oldT e2 d2 z2 k1 k2
 unfold noteFrame
 erw[he]
 refine nP (pb hx rfl (x:=tb) rfl ?_);rcases htb with rfl | ⟨T,oT,ts,rfl,nT,e2,d2,z2⟩
 ·rw[if_neg ∅];refine jL hfr hl hf he hx λh' oT ts e1 ne e2 d2 z2 k1 k2=>land h' _ oT ts e1 ne (.inr (al _)) e2 d2 z2 (λb o hb _ hbf e=>k1 b o hb hbf e) λb o hb _ e=>k2 b o hb e
 ·rw[if_pos (show (Value.ref T != Value.none)=rL from by simp)];obtain⟨y,hy⟩:∃y,ts[3]? = rJ y:=#[ts[3],by simp [z2]];refine nP (pb e2 d2 (x:=y) hy ?_);by_cases c:(y == rawInt L)=rL
  ·rw[if_pos c];exact nQ (land s.heap T oT ts hx nT (.inl rfl) e2 d2 z2 (λb o _ _ _ e=>e) λb o _ _ e=>#[o.slots,e])
  ·rw[if_neg c];refine nP (oY e2 d2 z2 ?_);have oth:∀b,b≠T->(s.heap.update T (Obj.mapFields (·.setIfInBounds 3 Value.none))).get? b=s.heap.get? b:=λb hb=>aw _ _ (Ne.symm hb);have hl1:(s.heap.update T (Obj.mapFields (·.setIfInBounds 3 Value.none))).FunFrames base (env0::outer):=hl.of_keeps λb o hb hnf=>#[o,(oth b λq=>by rw[q,e2]at hb;cases hb;exact hnf ts d2).trans hb,rfl];have hsz:(s.heap.update T (Obj.mapFields (·.setIfInBounds 3 Value.none))).objs.size=s⁻¹:=cP ..;refine jL (s:={ s with heap:=s.heap.update T (Obj.mapFields (·.setIfInBounds 3 Value.none)) }) hfr hl1 hf he ((oth x (Ne.symm nT)).trans hx) λh' oT' ts' e1 ne e2' d2' z2' k1 k2=>?_;refine land h' _ oT' ts' e1 ne (.inr (by rw[hsz];exact al _)) e2' d2' z2' (λb o hb hbt hbf e=>k1 b o hb hbf ((oth b λq=>hbt (by rw[q])).trans e)) λb o hb hbt e=>k2 b o hb ((oth b λq=>hbt (by rw[q])).trans e)
end
section
variable{X:Cx}{rN:List (nW × oF)}{σ:St}{H1:Hp}{s1:nY}
theorem Inv.noted{h':oo}{x T:nW}{tb:nX}(I1:Inv X rN σ H1 s1)(hst:X.stack=X.env::X.outer)(fx:xG X rN H1 x)(fT:∀T,tb=.ref T->xG X rN H1 T)(fT':xG X rN H1 T)
  (k1:∀b o,b≠x->tb≠.ref b->b ∉ frs (X.env::X.outer)->s1.heap.get? b=rJ o->h'.get? b=rJ o) (k2:∀b o,b≠x->tb≠.ref b->s1.heap.get? b=rJ o->∃sl,h'.get? b=rJ { o with slots:=sl }):Inv X rN σ H1 { s1 with heap:=h' }:=by
 have tbs:∀b,tb=.ref b->H1 b=rK:=λb hb=>(fT b hb).1
 have nch:∀b o,s1.heap.get? b=rJ o->b ∉ (x::T::tbL tb)->b≠x/\tb≠.ref b:=λb o _ hb=>by
  refine#[λz=>hb (by simp [z]),λz=>hb ?_];rw[z];simp [tbL]
 have un:Un (frs X.stack) (x::T::tbL tb) H1 H1 s1.heap h':=by
  rw[hst];refine#[λb o e n hb hc=>?_,λb o e n hb hc=>?_,λb o e n _=>n,λb o e hc=>?_,λb xs e=>e,λb o u e=>e,λb ps e=>#[#[],by rw[e];simp]]
  ·obtain⟨a1,a2⟩:=nch b o e hc;exact k1 b o a1 a2 hb e
  ·obtain⟨a1,a2⟩:=nch b o e hc;exact k2 b o a1 a2 e
  ·obtain⟨a1,a2⟩:=nch b o e hc;obtain⟨sl,q⟩:=k2 b o a1 a2 e;exact#[_,q]
 have hok:HOk X.prog X.w H1 h':=λb u e=>by
  refine (I1.hok b u e).stay (λc v hc q=>k1 c v ?_ ?_ ?_ q) (λ_ q=>q) λ_ _ q=>q
  ·rintro rfl;rcases hc with rfl | hc
   ·rw[fx.1]at e;cases e
   ·rw[fx.1]at hc;cases hc
  ·intro z;have:=tbs c z;rcases hc with rfl | hc
   ·rw[this]at e;cases e
   ·rw[this]at hc;cases hc
  ·intro z;rw[<- hst]at z;have:=I1.stkFree c z;rcases hc with rfl | hc
   ·rw[this]at e;cases e
   ·rw[this]at hc;cases hc
 exact I1.call' (s':={ s1 with heap:=h' }) rfl un hok I1.bare λb hb=>by
  have fb:xG X rN H1 b:=by
   rcases rS.mp hb with z | z
   ·rw[z];exact fx
   ·rcases rS.mp z with z | z
    ·rw[z];exact fT'
    ·cases tb with
     | ref b' =>
      have:b=b':=by simpa [tbL] using z
      rw[this];exact fT b' rfl
     | _=>simp [tbL]at z
  obtain⟨_,a1,_,a3,a4,a5⟩:=fb;exact#[a3,a1,a4,a5]
end
section
variable{X:Cx}{scope:oN}{own caps:List og}{ix:()}{cl:List (og × nW)}
theorem Wj{N:List og}{EX:XK}{rN:List (nW × oF)}{σ:St}{H3:Hp}{s3:nY}{fp:List nW}{xe:nX->nY->Prop}{e:nX}{s1:nY}{RE:nX->nY->Prop}(hst:X.stack=X.env::X.outer/\X.env.frame=rJ X.env.locals)(hxe:XE X EX)
  (hc1:∀y c,cl.lookup y=rJ c->X.env.cells.lookup y=rJ c) (I3:Inv X rN σ H3 s3) (f3:∀b ∈ fp,xG X rN H3 b) (fl:zaB (yf X scope cl s3⁻¹ N rN s3 H3 fp xe) EX e s1)
  (hRE:∀m s' x,s'.heap.Ns s3⁻¹ m->(∀h',Heap.SameBut s3⁻¹ s'.heap h'->∀cenv:pM,cenv.locals=s3⁻¹->oa (model X.prog X.w) X.A (fz "comprehension.variables-let-go" x cenv:rz nX) (λ_ _=>False) X.xe { s' with heap:=h' })->RE x s') :
  notedBy (model X.prog X.w) X.A (compEnvC scope cl s3⁻¹ X.env) RE e s1:=by
 obtain⟨pins',σ',H1,x,C,t,dx,tb,rfl,I1,ob,tr,fx,fT,q⟩:=fl
 have IX:Inv X rN σ H1 s1:=I3.call' (s':=s1) I1.os I1.base I1.hok I1.bare λb hb=>by
  obtain⟨_,a1,a2,a3,a4,a5⟩:=f3 b hb;exact#[a3,a1,a4,a5]
 have up:∀b,xG (yf X scope cl s3⁻¹ N rN s3 H3 fp xe) pins' H1 b->xG X rN H1 b:=λb hb=>by
  obtain⟨a0,a1,a2,a3,a4,a5⟩:=hb;rcases a3 with a3 | a3
  ·exact#[a0,(f3 b a3).2]
  ·exact I3.fpOk a3 a0
 have fx':=up x fx;have fT':∀T,tb=.ref T->xG X rN H1 T:=λT h=>up T (fT T h);have fr:X.A.frames=rJ (X.env::X.outer):=by rw[<- hst.1];exact IX.ok.frames
 have ff:s1.heap.FunFrames X.base (X.env::X.outer):=by rw[<- hst.1];exact IX.stack
 obtain⟨m,hm,_⟩:=I1.loc;have fC:xG X rN H1 s3⁻¹:=I3.fpOk (al _) I1.free;refine zaX fr ff hst.2 hst.2 ob tr λh' T oT ts e1 nT oldT e2 d2 z2 k1 k2=>?_
 have fT2:xG X rN H1 T:=by
  rcases oldT with z | z
  ·exact fT' T z
  ·exact IX.fpOk z (IX.hok.fresh z)
 have I2:Inv X rN σ H1 { s1 with heap:=h' }:=Inv.noted IX hst.1 fx' fT' fT2 k1 k2;have hCx:s3⁻¹≠x:=λz=>fx.2.1 z.symm;have hCtb:tb≠.ref s3⁻¹:=λz=>(fT _ z).2.1 rfl;obtain⟨oC,es,ep,hoC,rC⟩:=hm
 have hCT:T≠s3⁻¹:=by
  rcases oldT with z | z
  ·exact (fT T z).2.1
  ·exact cj (au (ar hoC) z)
 have hCf:s3⁻¹ ∉ frs (X.env::X.outer):=λz=>by
  rw[<- hst.1]at z;rcases rS.mp (IX.stkSub _ z)with y | y
  ·exact fC.2.1 y
  ·exact fC.2.2.1 y
 refine hRE m _ _ #[oC,es,ep,k1 _ _ hCx hCtb hCf hoC,rC] λh2 sb cenv hcenv=>?_;have I3':Inv X rN σ H1 { s1 with heap:=h2 }:=I2.turned (t':=s1.toks) (λb o hb e=>(sb.2 b hb).trans e) fC.1 fC.2.1 fC.2.2.2.1 fC.2.2.2.2.1 fC.2.2.2.2.2;have ob2:h2.get? x=rJ (xob C dx t (.ref T)):=(sb.2 x (Ne.symm hCx)).trans e1;have oT2:h2.get? T=rJ oT:=(sb.2 T hCT).trans e2;unfold fz;refine nP (pb (s:={ s1 with heap:=h2 }) ob2 rfl (x:=.ref T) rfl ?_);rw[if_neg (show ¬ (Value.ref T == Value.none)=rL from by simp)];unfold setFlight;refine nP (nP (pb (s:={ s1 with heap:=h2 }) ob2 rfl (x:=.ref T) rfl ?_));rw[if_pos (show (Value.ref T != Value.none)=rL from by simp)];refine oY (s:={ s1 with heap:=h2 }) oT2 d2 z2 (wpAny_throw (hxe _ _ ?_));have d3:=Obj.data_mapFields d2 (·.setIfInBounds 3 (cenv.frame.elim Value.none λf=>rawInt f))
 have I4:Inv X rN σ H1 { s1 with heap:=h2.update T (Obj.mapFields (·.setIfInBounds 3 (cenv.frame.elim Value.none λf=>rawInt f))) } :=
  I3'.turned (t':=s1.toks) (λb o hb e=>(aw _ _ (Ne.symm hb)).trans e) fT2.1 fT2.2.1 fT2.2.2.2.1 fT2.2.2.2.2.1 fT2.2.2.2.2.2
 exact#[rN,σ,H1,x,C,t,dx,.ref T,rfl,I4,(aw _ _ nT).trans ob2,.inr #[T,_,_,rfl,nT,cu _ oT2 (Obj.isFreed_of_fields d3),d3,by simpa using z2],fx',λT' z=>by cases z;exact fT2,q]
end
section
variable{X:Cx}{scope:oN}{own caps:List og}{ix:()}{elt tg iter:ol}{ifs:List ol}{pos:oU}{wi:TI}{g:TG}{tt:TT}{te:TE}
end
open PySem.AutoSeq1 (wpAny_loadPart')
open MeetsSeq MeetsSeq2 MeetsSeq3 SeqRoads2 SeqAt
def qu(op:pC)(A:oj)(s:nY)(y x:nX)(b:Bool):Prop :=
 ∀(prog:nZ) (w:oh) (E:nX->nY->Prop) (Q:nX->nY->Prop),Q (.bool b) s->oa (model prog w) A (richCompare op y x) Q E s
noncomputable abbrev LtAt:=qu .Lt
noncomputable def zav:pC->Nat->Nat->Bool
 | .Gt,m,n=>decide (n<m)
 | _,m,n=>decide (m<n)
noncomputable def zdp:pC->Int
 | .Gt=>4
 | _=>0
def LG(op:pC):Prop:=op=.Lt\/op=.Gt
def vv(op:pC)(e t r:Nat->Bool)(m n:Nat):Prop:=∀i,i<=m->i<=n->r i=if i<m/\i<n then (if e i=rL then r (i+1)else t i)else zav op m n
noncomputable abbrev zcH:=vv .Lt
variable{op:pC}
theorem WO(ho:LG op)(l b:nW)(items rO:Array nX)(n n2:Nat)(dd dd2:Option nW)(sl sl2:Array (Option nX))(e t r:Nat->Bool)(hr:vv op e t r items.size rO.size)(k:Nat) :
  ∀i:Nat,i<=items.size->i<=rO.size->items.size - i=k->Meets (Builtin.«list.__eq__.loop» #[[.ref l,.ref b,rawInt i,rawInt (zdp op)],[]])
   (λA R s=>s.heap.get? l=rJ { cls:=.type "list",dict:=dd,data:=.seq items n,slots:=sl }/\s.heap.get? b=rJ { cls:=.type "list",dict:=dd2,data:=.seq rO n2,slots:=sl2 } /\
    (∀j (h1:j<items.size) (h2:j<rO.size),EqAt A.in1 s items[j] rO[j] (e j))/\(∀j (h1:j<items.size) (h2:j<rO.size),e j=rM->qu op A.in1 s items[j] rO[j] (t j)) /\
    R (.ok (.ret (.bool (r i)))) s):=by
 rcases ho with rfl | rfl <;> erw[zdp] <;> erw[vv,zav]at hr
 all_goals
  induction k with
  | zero =>
   intro i b1 b2 hk prog w A R s h;obtain⟨hp,g,d,tk,os⟩:=s;obtain⟨hl,hb,he,ht,h⟩:=h;have hri:=hr i b1 b2;rw[if_neg ⋯]at hri;rw[hri]at h
   wp_walk using wpAny_loadPart' hl,wpAny_loadPart' hb
   have hi1:items[((i:Nat):Int).toNat]? = rK:=by simp;lia
   rw[hi1]
   wp_walk using wpAny_loadPart' hl,wpAny_loadPart' hb
   exact h
  | succ k ih =>
   intro i b1 b2 hk prog w A R s h;obtain⟨hp,g,d,tk,os⟩:=s;obtain⟨hl,hb,he,ht,h⟩:=h;have hlt:i<items.size:=⋯;have hi1:items[((i:Nat):Int).toNat]? = rJ items[i]:=by simp [hlt]
   have hc:((i:Int)+1)=((i+1:Nat):Int):=by push_cast;rfl
   have hri:=hr i b1 b2;by_cases hlt2:i<rO.size
   ·rw[if_pos #[hlt,hlt2]]at hri;rw[hri]at h;have hi2:rO[((i:Nat):Int).toNat]? = rJ rO[i]:=by simp [hlt2]
    wp_walk using wpAny_loadPart' hl,wpAny_loadPart' hb
    rw[hi1,hi2];refine nP (he i hlt hlt2 prog w _ _ ?_)
    cases hb':e i with
    | true =>
     rw[hb',if_pos rfl]at h
     wp_walk
     rw[hc]
     exact#[plainId_quiet plain_eq_loop _,oM entry_eq_loop (by
      rw[Around.under_plainId plain_eq_loop _]
      exact ih (i+1) ⋯ ⋯ ⋯ prog w A R _ #[hl,hb,he,ht,h])]
    | false =>
     rw[hb',if_neg aA]at h
     wp_walk using wpAny_loadPart' hl,wpAny_loadPart' hb
     rw[hi1,hi2];refine nP (ht i hlt hlt2 hb' prog w _ _ ?_)
     wp_walk
     exact h
   ·rw[if_neg ⋯]at hri;rw[hri]at h;have hi2:rO[((i:Nat):Int).toNat]? = rK:=by simp;lia
    wp_walk using wpAny_loadPart' hl,wpAny_loadPart' hb
    rw[hi1,hi2]
    wp_walk using wpAny_loadPart' hl,wpAny_loadPart' hb
    exact h
theorem Zg(ho:LG op)(l b:nW)(items rO:Array nX)(n n2:Nat)(dd dd2:Option nW)(sl sl2:Array (Option nX))(e t r:Nat->Bool)(hr:vv op e t r items.size rO.size) :
  Meets ((match op with | .Gt=>Builtin.«list.__gt__» | _=>Builtin.«list.__lt__») ⟨[.ref l,.ref b],[]⟩)
   (λA R s=>s.heap.get? l=rJ { cls:=.type "list",dict:=dd,data:=.seq items n,slots:=sl }/\s.heap.get? b=rJ { cls:=.type "list",dict:=dd2,data:=.seq rO n2,slots:=sl2 } /\
    (∀j (h1:j<items.size) (h2:j<rO.size),EqAt A.in1 s items[j] rO[j] (e j))/\(∀j (h1:j<items.size) (h2:j<rO.size),e j=rM->qu op A.in1 s items[j] rO[j] (t j)) /\
    R (.ok (.ret (.bool (r 0)))) s):=by
 rcases id ho with rfl | rfl
 all_goals
  intro prog w A R s h;obtain⟨hp,g,d,tk,os⟩:=s;obtain⟨hl,hb,he,ht,h⟩:=h;have f3:=AutoSeq1.sub_list_list
  wp_walk using wpAny_loadPart' hl,wpAny_loadPart' hb
  exact#[plainId_quiet plain_eq_loop _,oM entry_eq_loop (by
   rw[Around.under_plainId plain_eq_loop _]
   exact WO ho l b items rO n n2 dd dd2 sl sl2 e t r hr _ 0 (ay _) (ay _) rfl prog w A R _ #[hl,hb,he,ht,h])]
theorem qY(ho:LG op)(l b:nW)(items rO:Array nX)(n n2:Nat)(dd dd2:Option nW)(sl sl2:Array (Option nX))(e t r:Nat->Bool)(hr:vv op e t r items.size rO.size) :
  Meets ((match op with | .Gt=>Builtin.«tuple.__gt__» | _=>Builtin.«tuple.__lt__») ⟨[.ref l,.ref b],[]⟩)
   (λA R s=>s.heap.get? l=rJ { cls:=.type "tuple",dict:=dd,data:=.seq items n,slots:=sl }/\s.heap.get? b=rJ { cls:=.type "tuple",dict:=dd2,data:=.seq rO n2,slots:=sl2 } /\
    (∀j (h1:j<items.size) (h2:j<rO.size),EqAt A.in1 s items[j] rO[j] (e j))/\(∀j (h1:j<items.size) (h2:j<rO.size),e j=rM->qu op A.in1 s items[j] rO[j] (t j)) /\
    R (.ok (.ret (.bool (r 0)))) s):=by
 rcases ho with rfl | rfl <;> erw[vv,zav]at hr
 all_goals
  refine .of_wp λprog w A R s h=>?_;obtain⟨hp,g,d,tk,os⟩:=s;obtain⟨hl,hb,he,ht,h⟩:=h;have f2:=AutoSeq1.sub_tuple_tuple;have hZ:(items.toList.zip rO.toList).length=min items.size rO.size:=by simp
  wp_walk using wpAny_loadPart' hl,wpAny_loadPart' hb,wpAny_forIn_list _ (λrest b s'=>b.1=rK/\s'=#[hp,g,d,tk,os]/\∃i,i<=min items.size rO.size/\rest=(items.toList.zip rO.toList).drop i /\
   R (.ok (.ret (.bool (r i)))) #[hp,g,d,tk,os]) _
  case turn =>
   rintro⟨y,x⟩ rest b s' ⟨hb',rfl,i,hi,hz,hR⟩
   have hlt:i<(items.toList.zip rO.toList).length:=by
    rcases eh i (items.toList.zip rO.toList).length with h' | h'
    ·exact h'
    ·rw[aX h']at hz;cases hz
   have hm:i<min items.size rO.size:=hZ ▸ hlt;have h1:i<items.size:=au hm (Nat.min_le_left _ _);have h2:i<rO.size:=au hm (Nat.min_le_right _ _);rw[aT hlt]at hz;injection hz with hyx hrest;have hy:y=items[i]:=by have:=congrArg Prod.fst hyx;simpa using this
   have hx:x=rO[i]:=by have:=congrArg Prod.snd hyx;simpa using this
   subst hy hx;have hri:=hr i ⋯ ⋯;rw[if_pos #[h1,h2]]at hri;rw[hri]at hR;refine nP (he i h1 h2 prog w _ _ ?_)
   cases hy:e i with
   | true =>
    rw[hy,if_pos rfl]at hR
    wp_walk
    exact#[rfl,rfl,i+1,⋯,hrest,hR]
   | false =>
    rw[hy,if_neg aA]at hR
    erw[eW,if_true]
    refine nP (rA ?_);refine nP (ht i h1 h2 hy prog w _ _ ?_)
    wp_walk
    exact#[_,rfl,hR]
  case fin =>
   rintro⟨b1,b2⟩ s' ⟨hb',rfl,i,hi,hz,hR⟩;simp only at hb';subst hb'
   have hge:min items.size rO.size<=i:=by
    rcases eh i (items.toList.zip rO.toList).length with h' | h'
    ·rw[aT h']at hz;cases hz
    ·exact hZ ▸ h'
   have hri:=hr i ⋯ ⋯;rw[if_neg ⋯]at hri;rw[hri]at hR
   wp_walk
   exact#[_,rfl,hR]
  case h =>
   exact#[rfl,rfl,0,ay _,rfl,h]
theorem LtAt.lists(ho:LG op){A:oj}{s:nY}{l b:nW}{items rO:Array nX}{e t r:Nat->Bool}(hl:s.heap.IsList l items)(hb:s.heap.IsList b rO)(hr:vv op e t r items.size rO.size)(hu:A.units<cLine)
  (he:∀j (h1:j<items.size) (h2:j<rO.size),EqAt A.in1 s items[j] rO[j] (e j)) (ht:∀j (h1:j<items.size) (h2:j<rO.size),e j=rM->qu op A.in1 s items[j] rO[j] (t j)):qu op A s (.ref l) (.ref b) (r 0):=λprog w E Q h=>by
 obtain⟨⟨cls,dd,data,sl⟩,h1,hc,n,hd⟩:=id hl;obtain⟨⟨cls2,dd2,data2,sl2⟩,h2,hc2,n2,hd2⟩:=id hb;simp only at hc hd hc2 hd2;subst hc hd hc2 hd2;have z:Value.bool (r 0)≠Value.notImplemented/\Q (.bool (r 0)) s:=#[(λx=>nomatch x),h];rcases id ho with rfl | rfl
 ·exact richCompare_meets_room #[_,h1,rfl] #[_,h2,rfl] F.slot_list_lt F.entry_list_lt (F.args_list_lt_2 _ _) (Zg ho l b items rO n n2 dd dd2 sl sl2 e t r hr) #[h1,h2,he,ht,z] hu
 ·exact richCompare_meets_room #[_,h1,rfl] #[_,h2,rfl] F.slot_list_gt F.entry_list_gt (F.args_list_gt_2 _ _) (Zg ho l b items rO n n2 dd dd2 sl sl2 e t r hr) #[h1,h2,he,ht,z] hu
theorem LtAt.tuples(ho:LG op){A:oj}{s:nY}{l b:nW}{items rO:Array nX}{e t r:Nat->Bool}(hl:s.heap.IsTuple l items)(hb:s.heap.IsTuple b rO)(hr:vv op e t r items.size rO.size)(hu:A.units<cLine)
  (he:∀j (h1:j<items.size) (h2:j<rO.size),EqAt A.in1 s items[j] rO[j] (e j)) (ht:∀j (h1:j<items.size) (h2:j<rO.size),e j=rM->qu op A.in1 s items[j] rO[j] (t j)):qu op A s (.ref l) (.ref b) (r 0):=λprog w E Q h=>by
 obtain⟨⟨cls,dd,data,sl⟩,h1,hc,n,hd⟩:=id hl;obtain⟨⟨cls2,dd2,data2,sl2⟩,h2,hc2,n2,hd2⟩:=id hb;simp only at hc hd hc2 hd2;subst hc hd hc2 hd2;have z:Value.bool (r 0)≠Value.notImplemented/\Q (.bool (r 0)) s:=#[(λx=>nomatch x),h];rcases id ho with rfl | rfl
 ·exact richCompare_meets_room #[_,h1,rfl] #[_,h2,rfl] F.slot_tuple_lt F.entry_tuple_lt (F.args_tuple_lt_2 _ _) (qY ho l b items rO n n2 dd dd2 sl sl2 e t r hr) #[h1,h2,he,ht,z] hu
 ·exact richCompare_meets_room #[_,h1,rfl] #[_,h2,rfl] F.slot_tuple_gt F.entry_tuple_gt (F.args_tuple_gt_2 _ _) (qY ho l b items rO n n2 dd dd2 sl sl2 e t r hr) #[h1,h2,he,ht,z] hu
mutual
def okD:D->D->Prop
 | .int _,.int _=>True
 | .lst l,.lst m=>qT l m
 | .tup l,.tup m=>qT l m
 | _,_=>False
def qT:List D->List D->Prop
 | d::l,e::m=>okD d e/\qT l m
 | _,_=>True
end
mutual
noncomputable def ltD:D->D->Bool
 | .int a,.int b=>decide (a<b)
 | .lst l,.lst m=>xj l m
 | .tup l,.tup m=>xj l m
 | _,_=>rM
noncomputable def xj:List D->List D->Bool
 | d::l,e::m=>if eqD d e=rL then xj l m else ltD d e
 | [],_::_=>rL
 | _,[]=>rM
end
theorem VW(l m:List D):zcH (λj=>eqD (l.getD j .non) (m.getD j .non)) (λj=>ltD (l.getD j .non) (m.getD j .non)) (λi=>xj (l.drop i) (m.drop i)) l.length m.length:=by
 intro i b1 b2
 erw[zav]
 by_cases h:i<l.length/\i<m.length
 ·rw[if_pos h,aT h.1,aT h.2,xj];rw[aa,aa,ae h.1,ae h.2];rfl
 ·rw[if_neg h];by_cases h1:i<l.length
  ·have h2:¬ i<m.length:=λz=>h #[h1,z];rw[aT h1,aX (cN h2),xj]
   ·simp;lia
   all_goals simp
  ·rw[aX (cN h1)];by_cases h2:i<m.length
   ·rw[aT h2,xj];simp;lia
   ·rw[aX (cN h2),xj]
    ·simp;lia
    all_goals simp
mutual
theorem Yo:∀d e:D,eqD d e=eqD e d
 | .lst l,e=>by cases e <;> erw[eqD];exact qv l _
 | .tup l,e=>by cases e <;> erw[eqD];exact qv l _
 | .int _,e=>by cases e <;> erw[eqD] <;> exact fm
 | .str _,e=>by cases e <;> erw[eqD] <;> exact fm
 | .bl _,e=>by cases e <;> erw[eqD] <;> exact fm
 | .non,e=>by cases e <;> erw[eqD]
theorem qv:∀l m:List D,vq l m=vq m l
 | [],[]=>rfl
 | [],_::_=>by erw[vq]
 | _::_,[]=>by erw[vq]
 | d::l,e::m=>by erw[vq,Yo d e,qv l m]
end
noncomputable def cm:pC->D->D->Bool
 | .Gt,d,e=>ltD e d
 | _,d,e=>ltD d e
noncomputable def cms:pC->List D->List D->Bool
 | .Gt,d,e=>xj e d
 | _,d,e=>xj d e
theorem W7{op:pC}(ho:LG op)(l m:List D):vv op (λj=>eqD (l.getD j .non) (m.getD j .non)) (λj=>cm op (l.getD j .non) (m.getD j .non)) (λi=>cms op (l.drop i) (m.drop i)) l.length m.length:=by
 rcases ho with rfl | rfl
 ·exact VW l m
 ·intro i b1 b2;have h:=VW m l i b2 b1
  erw[zav,cm,cms]at h ⊢
  rw[h,Yo (m.getD i .non)];by_cases q:i<l.length/\i<m.length
  ·rw[if_pos q,if_pos q.symm]
  ·rw[if_neg q,if_neg λz=>q z.symm]
theorem zbb:∀{l m:List D} {j:Nat} {d e:D},qT l m->l[j]? = rJ d->m[j]? = rJ e->okD d e
 | d::l,e::m,0,_,_,h,q1,q2=>by
  cases q1;cases q2
  erw[qT]at h
  exact h.1
 | d::l,e::m,j+1,_,_,h,q1,q2=>by
  erw[qT]at h
  exact zbb (j:=j) h.2 q1 q2
section
variable{X:Cx}{rN:List (nW × oF)}{σ:St}{H:Hp}{s:nY}
theorem YQ{op:pC}{l m:List D}{xs ys:List V}{its its':List nX}{A:oj}{n:Nat}(hl:Iss X.K H l xs)(hm:Iss X.K H m ys)(r:Vals xs its)(r':Vals ys its')(hn:wI l<n)(ok:qT l m)
  (ih:∀(d e:D) (x y:V) (u v:nX),dpD d<n->okD d e->Is X.K H d x->Is X.K H e y->RelV x u->RelV y v->qu op A s u v (cm op d e)) :
  ∀j (h1:j<its.toArray.size) (h2:j<its'.toArray.size),qu op A s its.toArray[j] its'.toArray[j] (cm op (l.getD j .non) (m.getD j .non)):=by
 intro j h1 h2;rw[ah]at h1 h2;have e1:=hl.len;have e2:=hm.len;have e3:=r.length;have e4:=r'.length;have g1:l[j]? = rJ l[j]:=ae ⋯;have g2:m[j]? = rJ m[j]:=ae ⋯;generalize l[j]=d at g1;generalize m[j]=e at g2;obtain⟨x,hx,ix⟩:=hl.at g1;obtain⟨y,hy,iy⟩:=hm.at g2;obtain⟨u,hu,ru⟩:=yF r hx;obtain⟨v,hv,rv⟩:=yF r' hy
 have q1:its.toArray[j]=u:=by
  have:=(rQ.mp hu).2;simpa using this
 have q2:its'.toArray[j]=v:=by
  have:=(rQ.mp hv).2;simpa using this
 rw[q1,q2,aa,aa,g1,g2];exact ih d e x y u v (cp (K4 g1) hn) (zbb ok g1 g2) ix iy ru rv
theorem JQ{op:pC}(ho:LG op)(I:Inv X rN σ H s):∀(n:Nat) (A:oj) (d e:D) (x y:V) (u v:nX),A.units+n<cLine->dpD d<n->okD d e->Is X.K H d x->Is X.K H e y->RelV x u->RelV y v->qu op A s u v (cm op d e):=by
 intro n
 induction n with
 | zero=>intro A d e x y u v _ h;exact absurd h (bU _)
 | succ n ih =>
  intro A d e x y u v hu hd ok hx hy rx ry;have hu1:A.units<cLine:=⋯;have huA:A.in1.units+n<cLine:=by show A.units+1+n<cLine;lia
  cases d with
  | int a =>
   cases e with
   | int b =>
    erw[Is]at hx hy
    subst hx hy;obtain⟨t,rfl⟩:=rx;obtain⟨t',rfl⟩:=ry;rcases ho with rfl | rfl
    ·exact λprog w E Q h=>lt_int h
    ·exact λprog w E Q h=>gt_int h
   | _=>erw[okD]at ok
  | lst l =>
   cases e with
   | lst m =>
    erw[Is]at hx hy
    obtain⟨a,xs,rfl,h1,h2⟩:=hx;obtain⟨b,ys,rfl,g1,g2⟩:=hy;cases rx;cases ry;obtain⟨its,r,p,_⟩:=I.list h1;obtain⟨its',r',p',_⟩:=I.list g1
    erw[dpD]at hd
    erw[okD]at ok
    have L1:=h2.len;have L2:=g2.len;have L3:=r.length;have L4:=r'.length;have st:=W7 ho l m;rw[show l.length=its.toArray.size by erw[ah];lia,show m.length=its'.toArray.size by erw[ah];lia]at st
    have r0:=LtAt.lists ho (A:=A) p.isList p'.isList st hu1 (xm h2 g2 r r' (n:=n) ⋯ λd e x y u v q1 q2 q3 q4 q5=>vW I n A.in1 d e x y u v huA q1 q2 q3 q4 q5)
     (λj h1 h2 _=>YQ (n:=n) (A:=A.in1) ‹_› g2 r r' ⋯ ok (λd e x y u v q1 q2 q3 q4 q5 q6=>ih A.in1 d e x y u v huA q1 q2 q3 q4 q5 q6) j h1 h2)
    rcases id ho with rfl | rfl <;> exact r0
   | _=>erw[okD]at ok
  | tup l =>
   cases e with
   | tup m =>
    erw[Is]at hx hy
    obtain⟨a,xs,rfl,h1,h2⟩:=hx;obtain⟨b,ys,rfl,g1,g2⟩:=hy;cases rx;cases ry;obtain⟨its,r,p,_⟩:=I.tuple h1;obtain⟨its',r',p',_⟩:=I.tuple g1
    erw[dpD]at hd
    erw[okD]at ok
    have L1:=h2.len;have L2:=g2.len;have L3:=r.length;have L4:=r'.length;have st:=W7 ho l m;rw[show l.length=its.toArray.size by erw[ah];lia,show m.length=its'.toArray.size by erw[ah];lia]at st
    have r0:=LtAt.tuples ho (A:=A) p p' st hu1 (xm h2 g2 r r' (n:=n) ⋯ λd e x y u v q1 q2 q3 q4 q5=>vW I n A.in1 d e x y u v huA q1 q2 q3 q4 q5)
     (λj h1 h2 _=>YQ (n:=n) (A:=A.in1) ‹_› g2 r r' ⋯ ok (λd e x y u v q1 q2 q3 q4 q5 q6=>ih A.in1 d e x y u v huA q1 q2 q3 q4 q5 q6) j h1 h2)
    rcases id ho with rfl | rfl <;> exact r0
   | _=>erw[okD]at ok
  | non=>cases e <;> erw[okD]at ok
  | bl _=>cases e <;> erw[okD]at ok
  | str _=>cases e <;> erw[okD]at ok
theorem YS(I:Inv X rN σ H s):∀(n:Nat) (A:oj) (d e:D) (x y:V) (u v:nX),A.units+n<cLine->dpD d<n->okD d e->Is X.K H d x->Is X.K H e y->RelV x u->RelV y v->LtAt A s u v (ltD d e):=JQ (.inl rfl) I
def zdM(K:nV):R2:=λx y H Q=>∃d e,Is K H d x/\Is K H e y/\dpD d<50/\okD d e/\Q (.bl (ltD d e)) H
theorem zbY(hu:X.A.units+100<cLine):OpR X (ou .Lt) (zdM X.K):=by
 intro rN s σ H x y v u Q I rx ry h;obtain⟨d,e,hx,hy,hd,ok,q⟩:=h;exact YS I 50 X.A d e x y v u ⋯ hd ok hx hy rx ry X.prog X.w X.xe _ #[.bl _,H,I,rfl,q]
end
theorem Ka{K:nV}{x y:V}{H:Hp}{Q:VK}{d e:D}(h1:Is K H d x)(h2:Is K H e y)(h3:dpD d<50)(h4:okD d e)(q:Q (.bl (ltD d e)) H):zdM K x y H Q:=#[d,e,h1,h2,h3,h4,q]
noncomputable def ltI:List Int->List Int->Bool
 | a::l,b::m=>if a=b then ltI l m else decide (a<b)
 | [],_::_=>rL
 | _,[]=>rM
theorem va:∀(l m:List Int),qT (l.map D.int) (m.map D.int)
 | [],_=>by erw[aF,qT]
 | _::_,[]=>by erw[aF,am,qT]
 | a::l,b::m=>by erw[am,qT,okD,true_and];exact va l m
theorem kJ:∀(l m:List Int),xj (l.map D.int) (m.map D.int)=ltI l m
 | [],[]=>by erw[aF,xj,ltI]
 | [],_::_=>by erw[aF,am,xj,ltI]
 | _::_,[]=>by erw[aF,am,xj,ltI]
 | a::l,b::m=>by
  erw[am,xj,ltI,eqD,ltD,kJ l m,beq_iff_eq]
mutual
def xy:D->Prop
 | .lst _=>False
 | .tup l=>zY l
 | _=>True
def zY:List D->Prop
 | []=>True
 | d::l=>xy d/\zY l
end
theorem YT{K:nV}{H:Hp}{a p:nW}{xs ys zs:List V}(hp:H p=rJ (.lst ys))(h:SqT K H a xs):SqT K (upd H p (.lst zs)) a xs:=by
 rcases h with (h | ⟨o,h⟩) | h
 ·refine .inl (.inl ?_);rw[zq (λe=>by rw[e,hp]at h;cases h)];exact h
 ·refine .inl (.inr #[o,?_]);rw[zq (λe=>by rw[e,hp]at h;cases h)];exact h
 ·exact .inr h
mutual
theorem Is.updL{K:nV}{H:Hp}{p:nW}{ys zs:List V}(hp:H p=rJ (.lst ys)):∀(d:D) (v:V),xy d->Is K H d v->Is K (upd H p (.lst zs)) d v
 | .non,v,_,h=>by erw[Is]at h ⊢;exact h
 | .bl b,v,_,h=>by erw[Is]at h ⊢;exact h
 | .int b,v,_,h=>by erw[Is]at h ⊢;exact h
 | .str b,v,_,h=>by erw[Is]at h ⊢;exact h
 | .lst l,v,f,h=>by erw[xy]at f
 | .tup l,v,f,h=>by
  erw[Is]at h ⊢
  erw[xy]at f
  obtain⟨a,xs,e1,e2,e3⟩:=h;exact#[a,xs,e1,YT hp e2,Iss.updL hp l xs f e3]
theorem Iss.updL{K:nV}{H:Hp}{p:nW}{ys zs:List V}(hp:H p=rJ (.lst ys)):∀(l:List D) (vs:List V),zY l->Iss K H l vs->Iss K (upd H p (.lst zs)) l vs
 | [],vs,_,h=>by erw[Iss]at h ⊢;exact h
 | d::l,vs,f,h=>by
  erw[Iss]at h ⊢
  erw[zY]at f
  obtain⟨v,r,e1,e2,e3⟩:=h;exact#[v,r,e1,Is.updL hp d v f.1 e2,Iss.updL hp l r f.2 e3]
end
theorem xU:∀{l:List D},(∀d ∈ l,xy d)->zY l
 | [],_=>by erw[zY]
 | d::l,h=>by erw[zY];exact#[h d (by simp),xU λe he=>h e (by simp [he])]
theorem W3{n:Nat}:∀{l:List D},(∀d ∈ l,dpD d<=n)->wI l<=n
 | [],_=>by erw[wI];lia
 | d::l,h=>by
  have h1:=h d (by simp);have h2:=W3 (n:=n) (l:=l) λe he=>h e (by simp [he])
  erw[wI]
  lia
def LsA(K:nV)(H:Hp)(a:nW)(ds:List D):Prop:=∃xs,H a=rJ (.lst xs)/\Iss K H ds xs
theorem LsA.same{K:nV}{H H':Hp}{a:nW}{ds:List D}(h:LsA K H a ds)(e:Same H H'):LsA K H' a ds:=let #[xs,h1,h2]:=h; #[xs,e _ _ h1,Iss.same e _ _ h2]
theorem LsA.is{K:nV}{H:Hp}{a:nW}{ds:List D}(h:LsA K H a ds):Is K H (.lst ds) (.ref a):=by
 obtain⟨xs,h1,h2⟩:=h
 erw[Is]
 exact#[a,xs,rfl,SqL.of h1,h2]
theorem LsA.nil{K:nV}{H:Hp}{a:nW}:LsA K (upd H a (.lst [])) a []:=#[[],zc,by erw[Iss]]
theorem LsA.snoc{K:nV}{H:Hp}{a:nW}{ds:List D}{d:D}{xs:List V}{v:V}(h1:H a=rJ (.lst xs))(h2:Iss K H ds xs)(f:zY ds)(fd:xy d)(hv:Is K H d v):LsA K (upd H a (.lst (xs ++ [v]))) a (ds ++ [d]) :=
 #[_,zc,Iss.append (Iss.updL h1 _ _ f h2) (by erw[Iss];exact#[v,[],rfl,Is.updL h1 _ _ fd hv,rfl])]
theorem Is.tup{K:nV}{H:Hp}{p:nW}{vs:List V}{ds:List D}(hp:H p=rK)(h:Iss K H ds vs):Is K (upd H p (.tup vs)) (.tup ds) (.ref p):=by
 erw[Is]
 exact#[p,vs,rfl,SqT.of zc,Iss.same (zd hp) _ _ h]
noncomputable abbrev dS(l:()):D:=.str (tx l)
noncomputable abbrev zp:=() × ()
noncomputable def dR(r:zp):D:=.tup [dS r.1,dS r.2]
theorem zbc{K:nV}{H:Hp}{r:zp}{v:V}(h:Is K H (dR r) v):∃p,v=.ref p/\SqT K H p [.str (tx r.1),.str (tx r.2)]:=by
 erw[dR,Is,Iss]at h
 obtain⟨a,xs,e,hs,v1,r1,rfl,rfl,v2,r2,rfl,rfl,rfl⟩:=h;exact#[a,e,hs]
theorem Xj{K:nV}{H:Hp}{p:nW}{l m:()}(h:SqT K H p [.str (tx l),.str (tx m)]):Is K H (dR (l,m)) (.ref p):=by
 erw[dR,Is,Iss]
 exact#[p,_,rfl,h,_,_,rfl,rfl,_,_,rfl,rfl,rfl]
theorem vO(r:zp):xy (dR r):=by erw[dR,xy,zY,and_self]
theorem zcO(r:zp):dpD (dR r)<=1:=by erw[dR,dpD,wI];lia
theorem wA(rs:List zp):zY (rs.map dR):=xU λd h=>by obtain⟨r,_,rfl⟩:=rR.mp h;exact vO r
theorem Je(rs:List zp):wI (rs.map dR)<=1:=W3 λd h=>by obtain⟨r,_,rfl⟩:=rR.mp h;exact zcO r
noncomputable abbrev N3:=Nat × Nat × Nat
noncomputable def d3(t:N3):D:=.tup [.int (t.1:Nat),.int (t.2.1:Nat),.int (t.2.2:Nat)]
theorem zdc{K:nV}{H:Hp}{t:N3}{v:V}(h:Is K H (d3 t) v):∃p,v=.ref p/\SqT K H p [.int (t.1:Nat),.int (t.2.1:Nat),.int (t.2.2:Nat)]:=by
 erw[d3,Is,Iss]at h
 obtain⟨a,xs,e,hs,v1,r1,rfl,rfl,v2,r2,rfl,rfl,v3,r3,rfl,rfl,rfl⟩:=h;exact#[a,e,hs]
theorem zaO{K:nV}{H:Hp}{i j k:Nat}:Iss K H [.int (i:Nat),.int (j:Nat),.int (k:Nat)] [.int (i:Nat),.int (j:Nat),.int (k:Nat)]:=by
 erw[Iss,Is]
 exact#[_,_,rfl,rfl,_,_,rfl,rfl,_,_,rfl,rfl,rfl]
theorem Jy(t:N3):xy (d3 t):=by erw[d3,xy,zY,and_self]
theorem Yw(rs:List N3):zY (rs.map d3):=xU λd h=>by obtain⟨r,_,rfl⟩:=rR.mp h;exact Jy r
theorem Iss.get{K:nV}{H:Hp}{l:List D}{vs:List V}{j:Nat}{v:V}(h:Iss K H l vs)(q:vs[j]? = rJ v):∃d,l[j]? = rJ d/\Is K H d v:=by
 have hj:=(rQ.mp q).1;have hl:=h.len;have g1:l[j]? = rJ l[j]:=ae ⋯;obtain⟨x,hx,ix⟩:=h.at g1;rw[q]at hx;cases hx;exact#[_,g1,ix]
theorem Iss.getR{K:nV}{H:Hp}{rs:List zp}{vs:List V}{j:Nat}{v:V}(h:Iss K H (rs.map dR) vs)(q:vs[j]? = rJ v):∃r p,rs[j]? = rJ r/\v=.ref p/\SqT K H p [.str (tx r.1),.str (tx r.2)]:=by
 obtain⟨d,e,i⟩:=h.get q;rw[ax]at e;obtain⟨r,hr,rfl⟩:=rY.mp e;obtain⟨p,e1,e2⟩:=zbc i;exact#[r,p,hr,e1,e2]
theorem Iss.get3{K:nV}{H:Hp}{rs:List N3}{vs:List V}{j:Nat}{v:V}(h:Iss K H (rs.map d3) vs)(q:vs[j]? = rJ v):∃r p,rs[j]? = rJ r/\v=.ref p/\SqT K H p [.int (r.1:Nat),.int (r.2.1:Nat),.int (r.2.2:Nat)]:=by
 obtain⟨d,e,i⟩:=h.get q;rw[ax]at e;obtain⟨r,hr,rfl⟩:=rY.mp e;obtain⟨p,e1,e2⟩:=zdc i;exact#[r,p,hr,e1,e2]
theorem QZ{α:Type}(l:List α){a b:Int}(h0:0<=a)(h1:a<=b):cut l (rJ a) (rJ b)=(l.drop a.toNat).take (b - a).toNat:=by
 by_cases h2:b<=l.length
 ·exact ZX l h0 h1 h2
 ·obtain⟨m,rfl⟩:=bv h0;obtain⟨n,rfl⟩:=bv (by lia:0<=b);unfold cut;rw[HT.sIx_nat,HT.sIx_nat,cf (by lia:l.length<=n)];have e:(((n:Nat):Int) - ((m:Nat):Int)).toNat=n - m:=⋯;have e2:((m:Nat):Int).toNat=m:=rfl;rw[e,e2,aW (l:=l.drop m) (by rw[aL];lia)];by_cases hm:m<=l.length
  ·rw[bT hm,aW (by rw[aL];lia)]
  ·rw[cf ⋯,aX (al _),aX ⋯,List.take_nil]
open Classical in
section
variable{X:Cx}{rN:List (nW × oF)}{σ:L2.St}{H:Hp}{s:nY}
open Classical in
end
structure DM(P:nZ)(w:oh)(K:nV)(mg:og->Option nX)(base:oo)(CX:CXT)(k:Nat)(C:nW)(m:og)(ps:List og)(sp:Sp):Prop where
 ex:∃f fd,zat K C m f/\FnOk P w K mg base CX k f fd ps sp/\Binds K fd ps []
structure DMk(P:nZ)(w:oh)(K:nV)(mg:og->Option nX)(base:oo)(CX:CXT)(k:Nat)(C:nW)(ps:List og)(sp:Sp):Prop where
 ex:∃f fd,Mk K C f/\FnOk P w K mg base CX k f fd ps sp/\Binds K fd ps []
section
variable{X:Cx}{k j:Nat}{C:nW}{m:og}{ps:List og}{sp:Sp}{o e:ol}{es:List ol}{ta:TE}{t:TA}{apos pos p:oU}{x:og}{E:XK}
theorem me0(D:DM X.prog X.w X.K X.mg X.base CX0 k C m ps sp)(c:Cls X.K C)(hr:Room j X.A)(he:PE X o ta){pl:rz Bool}(ht:eval (.Call (.Attribute o m apos) [] [] pos) X.env=(do
      let ov <- eval o X.env
      standAt apos.atName
      let (f,first) <- holding [ov] (getMethod ov m pl)
      callWith pos f first (oB pos (nS [] X.env)) (oH pos (ow [] X.env))):=by rfl) (hj:k<=j:=by decide):PE X (.Call (.Attribute o m apos) [] [] pos) (j4 C m sp [] E0 ta xH):=by
  obtain⟨f,fd,hm,F,hb⟩:=D.ex;exact Uq he c hm F (hr.mono hj) hb .nil Xs ht
theorem me1(D:DM X.prog X.w X.K X.mg X.base CX0 k C m ps sp)(c:Cls X.K C)(hr:Room j X.A)(he:PE X o ta)(ha:PA X (e::es) t){pl:rz Bool}
    (hst:nS (e::es) X.env=(rM,eval e X.env)::nS es X.env:=by rfl) (hpl:(oB pos (nS es X.env)).any (·.1)=rM:=by rfl)
    (ht:eval (.Call (.Attribute o m apos) (e::es) [] pos) X.env=(do
      let ov <- eval o X.env
      standAt apos.atName
      let (f,first) <- holding [ov] (getMethod ov m pl)
      callWith pos f first (oB pos (nS (e::es) X.env)) (oH pos (ow [] X.env))):=by rfl) (hj:k<=j:=by decide):PE X (.Call (.Attribute o m apos) (e::es) [] pos) (j4 C m sp [] E0 ta t):=by
  obtain⟨f,fd,hm,F,hb⟩:=D.ex;exact KD he c hm F (hr.mono hj) hb .nil Xs ha hst hpl ht
theorem mkC(D:DMk X.prog X.w X.K X.mg X.base CX0 k C ps sp)(hr:Room j X.A)(hg:Gl X x)(hm:X.mg x=rJ (.ref C))(ha:PA X (e::es) t)(hdb:(x ==("__debug__" : og))=rM:=by decide)(he:nS (e::es) X.env=(rM,eval e X.env)::nS es X.env:=by rfl)
  (hpl:(oB pos (nS es X.env)).any (·.1)=rM:=by rfl) (hj:k+1<=j:=by decide):PE X (.Call (.Name x p) (e::es) [] pos) (WB C sp [] E0 t):=by
 obtain⟨f,fd,M,F,hb⟩:=D.ex;exact VL M F (hr.mono hj) hg hm hb .nil Xs ha hdb he hpl
end
section
variable{X:Cx}
end
section
variable{X:Cx}{k j:Nat}{C:nW}{m:og}{ps:List og}{sp:Sp}{o e:ol}{es:List ol}{ta:TE}{t:TA}{apos pos p:oU}
end
def zx(Fam:nW->Prop)(m:og)(sp:nW->Sp)(dvs:List V)(E:XK)(ta:TE)(t:TA):TE:=λσ H Q=>ta σ H λx H1=>∃C a dx fs,Fam C/\x=.ref a/\H1 a=rJ (.ins C dx fs)/\fs.lookup m=rK /\
 t σ H1 λvs H2=>sp C (x::(vs ++ dvs)) H2 Q E
structure DMF(P:nZ)(w:oh)(K:nV)(mg:og->Option nX)(base:oo)(CX:CXT)(k:Nat)(Fam:nW->Prop)(m:og)(ps:List og)(sp:nW->Sp):Prop where
 ex:∀C,Fam C->Cls K C/\DM P w K mg base CX k C m ps (sp C)
section
variable{X:Cx}{k j:Nat}{Fam:nW->Prop}{m:og}{ps:List og}{sp:nW->Sp}{o e:ol}{es:List ol}{ta:TE}{t:TA}{apos pos p:oU}{x:og}{E:XK}
theorem zec(D:DMF X.prog X.w X.K X.mg X.base CX0 k Fam m ps sp)(hr:Room j X.A)(he:PE X o ta){pl:rz Bool}(ht:eval (.Call (.Attribute o m apos) [] [] pos) X.env=(do
      let ov <- eval o X.env
      standAt apos.atName
      let (f,first) <- holding [ov] (getMethod ov m pl)
      callWith pos f first (oB pos (nS [] X.env)) (oH pos (ow [] X.env))):=by rfl) (hj:k<=j:=by decide):PE X (.Call (.Attribute o m apos) [] [] pos) (zx Fam m sp [] E0 ta xH):=by
  intro rN s σ H Q I h;refine cr (pl:=pl) (thn (he rN s σ H _ I h) λu s1 ⟨x,H1,I1,rx,C,a,dx,fs,fam,ex,ea,l,q⟩=>?_) ht;subst ex;obtain rfl:u=Value.ref a:=rx;obtain⟨c,⟨f,fd,hm,F,hb⟩⟩:=D.ex C fam;refine xE I1 ea c hm l ?_;exact fq (first:=[.ref a]) I1.kIn hm.kp (kg (us:=[.ref a]) (vs:=[.ref a]) F (hr.mono hj) hb .nil Xs I1 (.cons rfl .nil) q)
theorem zah(D:DMF X.prog X.w X.K X.mg X.base CX0 k Fam m ps sp)(hr:Room j X.A)(he:PE X o ta)(ha:PA X (e::es) t){pl:rz Bool}
    (hst:nS (e::es) X.env=(rM,eval e X.env)::nS es X.env:=by rfl) (hpl:(oB pos (nS es X.env)).any (·.1)=rM:=by rfl)
    (ht:eval (.Call (.Attribute o m apos) (e::es) [] pos) X.env=(do
      let ov <- eval o X.env
      standAt apos.atName
      let (f,first) <- holding [ov] (getMethod ov m pl)
      callWith pos f first (oB pos (nS (e::es) X.env)) (oH pos (ow [] X.env))):=by rfl) (hj:k<=j:=by decide):PE X (.Call (.Attribute o m apos) (e::es) [] pos) (zx Fam m sp [] E0 ta t):=by
  intro rN s σ H Q I h;refine cr (pl:=pl) (thn (he rN s σ H _ I h) λu s1 ⟨x,H1,I1,rx,C,a,dx,fs,fam,ex,ea,l,q⟩=>?_) ht;subst ex;obtain rfl:u=Value.ref a:=rx;obtain⟨c,⟨f,fd,hm,F,hb⟩⟩:=D.ex C fam;refine xE I1 ea c hm l ?_;refine bM (first:=[.ref a]) (h₀:=X.base) I.ok.mod.kin hm.kp (thn (ha pos rN s1 σ H1 _ I1 q) λus s2 ⟨vs,H2,I2,r,q2⟩=>#[I2.kIn,?_]) hst hpl;exact kg (us:=.ref a::us) (vs:=.ref a::vs) F (hr.mono hj) hb .nil Xs I2 (.cons rfl r) q2
end
section
variable{X:Cx}
def yy(K:nV):List V->Hp->VK->Prop:=λxs H Q=>∃(p:nW) (ns:List Int),xs=[.ref p]/\SqL K H p (ns.map V.int)/\Q (.int ns.sum) H
end
theorem Xm(l:()):((Builtin.Str.strSliceIndices rK rK (-1) (tx l).length).filterMap ((tx l).cps[·]?))=l.reverse:=by
 rw[zE,picked_rev];have e:(tx l).cps=l.toArray:=rfl;rw[e];apply List.ext_getElem?;intro i
 have h:((aR l.length).map λk=>l.length - 1 - k).filterMap (l.toArray[·]?)=(aR l.length).map λk=>l.getD (l.length - 1 - k) 0:=by
  rw[filterMap_get,bF]
  ·refine bA λk _=>?_;show l.toArray.getD (l.length - 1 - k) 0=_;simp [fh,List.getD];split <;> simp_all
  ·intro i hi;obtain⟨k,hk,rfl⟩:=rR.mp hi;have:=rW.mp hk;show _<l.toArray.size;rw[ah];lia
 rw[h];by_cases hi:i<l.length
 ·rw[bp hi,ax,List.getElem?_range hi];show rJ (l.getD (l.length - 1 - i) 0)=_;rw[aa,ae ⋯];rfl
 ·rw[bP (by simp;lia),bP (by simp;lia)]
def yu(te ts:TE):TE:=λσ H Q=>te σ H λx H1=>ts σ H1 λy H2=>y=.int (-1)/\∃l:(),x=.str (tx l)/\l.length<=nU/\Q (.str (tx l.reverse)) H2
section
variable{X:Cx}{e st:ol}{te ts:TE}{pos p2:oU}
theorem K2(he:PE X e te)(hs:PE X st ts):PE X (.Subscript e (.Slice rK rK (rJ st) p2) pos) (yu te ts):=by
 intro rN s σ H Q I h;refine rD (thn (he rN s σ H _ I h) λv s1 ⟨x,H1,I1,r1,q1⟩=>?_);refine wpAny_Slice ?_;rw[evalPart_none];refine nQ (nQ ?_);rw[evalPart_some];refine thn (hs rN s1 σ H1 _ I1 q1) λu s2 ⟨y,H2,I2,r2,ey,l,ex,hl,q2⟩=>?_;subst ey ex;obtain⟨t,rfl⟩:=r1;obtain⟨tk,rfl⟩:=r2;have I4:Inv X rN σ H2 { s2 with heap:=s2.heap.push { cls:=.type "slice",data:=.fields (List.toArray [.none,.none,.int (-1) tk]) } }:=I2.kept (t':=s2.toks) λb ob q=>ag _ q;show oa (model X.prog X.w) X.A (pX e (.Slice rK rK (rJ st) p2) (.str (tx l) t) (.ref s2⁻¹)) (EP X rN σ Q) X.xe { s2 with heap:=s2.heap.push { cls:=.type "slice",data:=.fields (List.toArray [.none,.none,.int (-1) tk]) } };refine tail_any (ops:=[.ref s2⁻¹,.str (tx l) t]) (typeIs_str _ (tx l) t) slot_str_getitem.lookup ?_ (by with_unfolding_all rfl);refine pJ (l:=rK) (u:=rK) (st:=rJ (-1,tk)) (Heap.IsSliceOf.new ..) rfl ?_;unfold sliceMade slicePicked
 have hc':¬ (((rJ ((-1:Int),tk)).map (·.1)).getD 1 == 1 && (Builtin.Str.strSliceIndices ((rK:Option (Int × rh)).map (·.1)) ((rK:Option (Int × rh)).map (·.1)) (((rJ ((-1:Int),tk)).map (·.1)).getD 1) (tx l).length).length ==(tx l).length)=rL:=by
  have:(((rJ ((-1:Int),tk)).map (·.1)).getD 1 == 1)=rM:=rfl;rw[this];simp
 rw[if_neg hc']
 have e:Str.mk ((Builtin.Str.strSliceIndices rK rK (-1) (tx l).length).filterMap ((tx l).cps[·]?)).toArray=tx l.reverse:=by
  rw[Xm]
 show (Str.mk ((Builtin.Str.strSliceIndices rK rK (-1) (tx l).length).filterMap ((tx l).cps[·]?)).toArray).length<=nU/\_;rw[e];refine#[by rw[zE,bB];exact hl,?_]
 exact#[.str (tx l.reverse),H2,I4.tok _,#[_,by
  show Value.str (Str.mk ((Builtin.Str.strSliceIndices rK rK (-1) (tx l).length).filterMap ((tx l).cps[·]?)).toArray) _=_
  rw[e]],q2]
end
section
variable{X:Cx}{k j:Nat}{C:nW}{m x:og}{ps:List og}{sp:Sp}{e:ol}{es:List ol}{t:TA}{apos pos p:oU}
def zw:V->List V->Hp->VK->Prop:=λx xs H Q=>∃(z y:og) (i:Nat),x=.str z/\xs=[.str y]/\PySem.Txt.find z y=(i:Int)/\Q (.int (i:Nat)) H
theorem Kl:MtR X "str.index" zw:=by
 intro rN s σ H x xs v us Q I rx rv h;obtain⟨z,y,i,rfl,rfl,hf,q⟩:=h;obtain⟨t,rfl⟩:=rx;obtain⟨u,rfl,t',rfl⟩:=xP rv;unfold PySem.Txt.find at hf
 cases ho:Builtin.Str.occurrences z y 0 z.length 1 with
 | nil=>rw[ho]at hf;dsimp only at hf;lia
 | cons a r =>
  rw[ho]at hf;have:a=i:=by dsimp only at hf;lia
  subst this;exact PySem.SC.index ho #[.int _,H,I.tok _,#[_,rfl],q]
end
section
variable{prog:nZ}{w:oh}{A:oj}{E:nX->nY->Prop}{s:nY}
end
noncomputable def Izs(K:nV)(l:())(b:nW):It:=#[λi H=>∃ys y,SqT K H b ys/\i<l.length/\ys[i]? = rJ y,λi H v H'=>∃p c y,H p=rK/\l[i]? = rJ c/\(∀ys,SqT K H b ys->ys[i]? = rJ y)/\v=.ref p/\H'=upd H p (.tup [.str (tx [c]),y]),λi H=>i=l.length]
section
variable{X:Cx}
def iZs(K:nV)(ta:TA):TI:=λσ H R=>ta σ H λvs H1=>∃l b,vs=[.str (tx l),.ref b]/\(∃ys,SqT K H1 b ys)/\R (Izs K l b) H1
end
def zcn(K:nV)(l:())(b:nW)(g:TG)(tt:TT)(te:TE)(own:Nat)(ix:())(σ:L2.St)(H1:Hp)(Q:VK)(D:nW):Prop:=ZT (Izs K l b) g tt te own ix σ H1 Q D
theorem zM{K:nV}{ta:TA}{g:TG}{tt:TT}{te:TE}{own:Nat}{ix:()}{σ:L2.St}{H:Hp}{Q:VK}:uC (iZs K ta) g tt te own ix σ H Q=ta σ H λvs H1=>∃l b,vs=[.str (tx l),.ref b]/\(∃ys,SqT K H1 b ys)/\∀D,H1 D=rK->zcn K l b g tt te own ix σ H1 Q D:=rfl
section
variable{g:TG}{tt:TT}{te:TE}{own:Nat}{ix:()}{σ:L2.St}{H1:Hp}{Q:VK}{D:nW}
end
section
variable{X:Cx}{k1 k2 k3 j:Nat}{C1 C2 C3:nW}{m:og}{ps:List og}{s1 s2 s3:Sp}{o e:ol}{es:List ol}{ta:TE}{t:TA}{apos pos p:oU}{E:XK}
def yn(t1 t2:TE):TE:=λσ H Q=>t1 σ H Q\/t2 σ H Q
theorem QL{t1 t2:TE}(h1:PE X e t1)(h2:PE X e t2):PE X e (yn t1 t2):=by
 intro rN s σ H Q I h;rcases h with h | h
 ·exact h1 rN s σ H Q I h
 ·exact h2 rN s σ H Q I h
theorem zbE(D1:DM X.prog X.w X.K X.mg X.base CX0 k1 C1 m ps s1)(D2:DM X.prog X.w X.K X.mg X.base CX0 k2 C2 m ps s2)(D3:DM X.prog X.w X.K X.mg X.base CX0 k3 C3 m ps s3)(c1:Cls X.K C1)(c2:Cls X.K C2)(c3:Cls X.K C3)(hr:Room j X.A)(he:PE X o ta)(ha:PA X (e::es) t){pl:rz Bool}
    (hst:nS (e::es) X.env=(rM,eval e X.env)::nS es X.env:=by rfl) (hpl:(oB pos (nS es X.env)).any (·.1)=rM:=by rfl)
    (ht:eval (.Call (.Attribute o m apos) (e::es) [] pos) X.env=(do
      let ov <- eval o X.env
      standAt apos.atName
      let (f,first) <- holding [ov] (getMethod ov m pl)
      callWith pos f first (oB pos (nS (e::es) X.env)) (oH pos (ow [] X.env))):=by rfl) (h1:k1<=j:=by decide) (h2:k2<=j:=by decide) (h3:k3<=j:=by decide) :
    PE X (.Call (.Attribute o m apos) (e::es) [] pos) (yn (j4 C1 m s1 [] E0 ta t) (yn (j4 C2 m s2 [] E0 ta t) (j4 C3 m s3 [] E0 ta t))) :=
  QL (me1 (pl:=pl) D1 c1 hr he ha hst hpl ht h1) (QL (me1 (pl:=pl) D2 c2 hr he ha hst hpl ht h2) (me1 (pl:=pl) D3 c3 hr he ha hst hpl ht h3))
end
section
variable{X:Cx}
end
open PySem PySem.Spec PyProof.Rows L2 PySem.W PySem.Calls
def uu(n:Int):Prop:=Builtin.Int.intBits n<=1048576
theorem Jn:∀(ns:List Int),WData.weightAll (ns.map WData.int)<=1048576->∀n ∈ ns,uu n
 | [],_,n,h=>nomatch h
 | m::ns,hw,n,h=>by
  rw[am,WData.weightAll]at hw;rcases rS.mp h with rfl | h
  ·have e:WData.weight (.int n)=Builtin.Int.intBits n:=by
    rw[WData.weight];rfl
   unfold uu;lia
  ·exact Jn ns ⋯ n h
section
variable{X:Cx}
theorem Qu{i j:Int}(hi:uu i)(hj:uu j):IntMulOk i j:=by
 unfold IntMulOk Builtin.Int.intTooBig;unfold uu at hi hj;have:(bitsLine:Nat)=134217728:=rfl;simp;intro _ _;lia
theorem UD:OpR X (binaryOp .Mult) (rI (λi j=>uu i/\uu j) λi j=>.int (i * j)):=opI λ_ _ _ _ _ _ _ hc q=>mul_int q (Qu hc.1 hc.2)
end
theorem Zl{l:rG}{n:Nat}{q:nZ}{loose:List og}{XP:(og->Option nX)->oo->Prop}{YP:oh->oo->Prop}{d:DefRec}
  (hn:l.most=rJ n) (hdf:d.params.defaults=[])
  (call:∀(w:oh) (s₀ s₁:nY) (mg mb:og->Option nX) (fa:nW) (o:oF) (pm cd doc:nX) (a:nW) (vs:List nX) (ns:List Int),
   Ground q loose [] XP w s₀ mg mb s₁.heap->YP w s₁.heap ->
   s₁.heap.get? fa=rJ o->o.data=.func (docDef d.name d.params d.body d.scope pm cd doc)->s₁.heap.CodeRec cd d.name->mg d.name=rJ (.ref fa) ->
   s₁.heap.get? a=rJ { cls:=.type "list",data:=.seq vs.toArray }->rf vs ns->ns.length<=n->(∀z ∈ ns,uu z)->s₁.gens=#[] ->
   oS (model l.prog w) callerA (.call (.ref fa) #[[.ref a],[]]) (λr s'=>r=.ok (.ret (.bool rL))/\OldK s₁.heap s'.heap/\s'.os=s₁.os/\pE s'.gens) s₁) :
  WalkO q loose XP YP l.row.toRowW d [] (λf vs=>fg f vs):=by
 intro w s₀ s₁ mg mb G Y fa o pm cd doc dV kV ho hd hcd hD hmg hg args vals as hpre hlay hrd hwl hlo;obtain rfl:dV=.none:=Dflts.none hD hdf;obtain rfl:kV=.none:=Dflts.noKw hD;obtain⟨a,vs,ns,rfl,rfl,hobj,hints,hlen⟩:=Att.script_of hn hpre hwl
 have hb:∀z ∈ ns,uu z:=by
  refine Jn ns ?_
  have h1:WData.layable (WData.list (ns.map WData.int))=rL:=by
   have:=hlay;unfold WData.layableAll at this;simpa using this
  unfold WData.layable at h1
  erw[bE,decide_eq_true_eq]at h1
  have h2:=h1.2;rw[WData.weight]at h2;exact h2
 refine enter_call (ph (call w s₀ s₁ mg mb fa o pm cd doc a vs ns G Y ho (fd_plain hd) hcd hmg hobj hints hlen hb hg) λr s' hq=>?_);obtain⟨rfl,h2,h3,h4⟩:=hq;exact#[.inl #[.bool rL,.bool rL,[],rfl,λ_=>rfl,.bool rL,Att.post_true l _,λ_=>#[List.Pairwise.nil,λ_ hm=>(nomatch hm)]],h2,h3,h4]
section
variable{X:Cx}{k j:Nat}{C:nW}{x f':og}{ps:List og}{sp:Sp}{e:ol}{es:List ol}{t:TA}{te:TX}{pos p:oU}
end
section
variable{X:Cx}{k j:Nat}{C:nW}{m x:og}{ps:List og}{sp:Sp}{e:ol}{es:List ol}{t:TA}{apos pos p:oU}{E:XK}
end
section
variable{prog:nZ}{w:oh}{A:oj}{E:nX->nY->Prop}{s:nY}{env:pM}
end
theorem XEg.xe{X:Cx}{E:XK}(h:XEg X E):XE X E:=λe s ⟨rN,σ,H,x,C,t,dx,tb,q⟩=>h e s #[.none,rM,rN,σ,H,x,C,t,dx,tb,q]
section
variable{X:Cx}{k:Nat}{ps:List og}{sp:Sp}{ds:List nX}{dvs:List V}{E:XK}{x:og}{p pos:oU}{e:ol}{es:List ol}{t:TA}
end
section
variable{X:Cx}{o e:ol}{to:TE}{te:TX}{name:og}{apos cpos:oU}{T id:String}{r:V->List V->Hp->VK->Prop}
end
section
variable{X:Cx}
end
section
variable{X:Cx}{k j:Nat}{C:nW}{ps:List og}{sp:Sp}{e:ol}{es:List ol}{t:TA}{pos p:oU}{x:og}
end
theorem ZY(x y:og)(i j:Int)(t u v v':rh):Gives (Builtin.«str.find» #[[.str x t,.str y u,.int i v,.int j v'],[]]) (.int (match Builtin.Str.occurrences x y (fromIndex x.length i) (min (fromIndex x.length j) x.length) 1 with | k::_=>(k:Int) | []=>-1)):=by
 show Gives (match Builtin.Str.occurrences x y (fromIndex x.length i) (min (fromIndex x.length j) x.length) 1 with | k::_=>retInt k | []=>(do rule "str.find.not-found";retInt (-1))) _
 cases Builtin.Str.occurrences x y (fromIndex x.length i) (min (fromIndex x.length j) x.length) 1 with
 | nil=>exact .rule (.of_eq rfl)
 | cons k _=>exact .of_eq rfl
theorem Zt(x y:og)(lo hi:Nat) :
  (Builtin.Str.occurrences x y lo hi 1=[]/\∀i,lo<=i->¬ StrLaws.At x y hi i) \/
  ∃i r,Builtin.Str.occurrences x y lo hi 1=i::r/\lo<=i/\StrLaws.At x y hi i/\∀k,lo<=k->k<i->¬ StrLaws.At x y hi k:=by
 rw[StrLaws.occ_eq];rcases StrLaws.occ_first x y hi 1 (al 1) (List.range' lo (hi+1 - lo)) lo (λi hm=>(List.mem_range'_1.mp hm).1)with ⟨e,no⟩ | ⟨pre,a,post,e,e0,at_a,no⟩
 ·exact .inl #[by rw[e],λi h1 h2=>no i (by have:=h2.1;rw[List.mem_range'_1];lia) h2]
 ·have sp:=StrLaws.range'_split_from e;generalize (forIn (List.range' lo (hi+1 - lo)) ((#[]:Array Nat),lo) (StrLaws.occBody x y hi 1)).run.fst=z at e0 ⊢;obtain⟨zs⟩:=z
  cases zs with
  | nil=>simp at e0
  | cons b r =>
   have:b=a:=by simpa using e0
   subst this;exact .inr #[b,r,rfl,sp.1,at_a,λk h1 h2=>no k (sp.2 k h1 h2)]
theorem zag(l p:())(hi i:Nat):StrLaws.At (tx l) (tx p) hi i ↔ i+p.length<=hi/\(l.drop i).take p.length=p:=by
 unfold StrLaws.At Builtin.Str.subAt;rw[zE,beq_iff_eq]
 have e1:((tx l).cps.extract i (i+p.length)).toList=(l.drop i).take p.length:=by
  show (l.toArray.extract i (i+p.length)).toList=_;simp [d9]
 have e2:((tx l).cps.extract i (i+p.length)=(tx p).cps) ↔ (l.drop i).take p.length=p:=by
  constructor
  ·intro h;rw[<- e1,h]
  ·intro h;apply Array.toList_inj.mp;rw[e1,h]
 rw[e2]
def Jq:V->List V->Hp->VK->Prop:=λx xs H Q=>∃(l p:()) (lo hi:Int),x=.str (tx l)/\xs=[.str (tx p),.int lo,.int hi]/\0<=lo/\0<=hi/\∀r:Int,((r=-1/\∀q:Nat,lo<=q->(q:Int)+p.length<=hi->q+p.length<=l.length->(l.drop q).take p.length≠p)\/∃k:Nat,r=k/\lo<=k/\(k:Int)+p.length<=hi/\k+p.length<=l.length/\(l.drop k).take p.length=p/\∀q:Nat,lo<=q->q<k->(l.drop q).take p.length≠p)->Q (.int r) H
theorem J4{X:Cx}:MtR X "str.find" Jq:=by
 intro rN s σ H x xs v us Q I rx rv h;obtain⟨l,p,lo,hi,rfl,rfl,h0,h1,q⟩:=h;obtain⟨t,rfl⟩:=rx
 cases rv with
 | cons r1 r2 =>
  cases r2 with
  | cons r2 r3 =>
   obtain⟨w3,rfl,t3,rfl⟩:=xP r3;obtain⟨t1,rfl⟩:=r1;obtain⟨t2,rfl⟩:=r2;have f0:fromIndex (tx l).length lo=lo.toNat:=by unfold fromIndex;rw[if_neg ⋯];lia
   have f1:fromIndex (tx l).length hi=hi.toNat:=by unfold fromIndex;rw[if_neg ⋯];lia
   refine call_gives F.slot_str_find (typeIs_str _ _ _) F.entry_str_find (F.args_str_find_4 _ _ _ _) (ZY _ _ lo hi t t1 t2 t3) ?_;refine#[.int _,H,I.tok _,#[_,rfl],q _ ?_];rw[f0,f1];have hm:∀k:Nat,k+p.length<=min hi.toNat (tx l).length ↔ (k:Int)+p.length<=hi/\k+p.length<=l.length:=λk=>by rw[zE];lia
   rcases Zt (tx l) (tx p) lo.toNat (min hi.toNat (tx l).length)with ⟨e,no⟩ | ⟨i,r,e,hl,ha,no⟩
   ·rw[e];exact .inl #[rfl,λk k1 k2 k3 k4=>no k ⋯ ((zag l p _ k).mpr #[(hm k).mpr #[k2,k3],k4])]
   ·rw[e];obtain⟨a1,a2⟩:=(zag l p _ i).mp ha;obtain⟨b1,b2⟩:=(hm i).mp a1;exact .inr #[i,rfl,⋯,b1,b2,a2,λk k1 k2 k4=>no k ⋯ k2 ((zag l p _ k).mpr #[(hm k).mpr #[⋯,⋯],k4])]
end L3
set_option linter.unusedVariables false
namespace L3
section
variable{X:Cx}
def zcv(l p:())(r:Int):Prop:=(r=-1/\∀q:Nat,¬ (q+p.length<=l.length/\(l.drop q).take p.length=p))\/∃q:Nat,r=(q:Int)/\(q+p.length<=l.length/\(l.drop q).take p.length=p)/\∀q':Nat,q'<q->¬ (q'+p.length<=l.length/\(l.drop q').take p.length=p)
def zc6:V->List V->Hp->VK->Prop:=λx xs H Q=>∃l p:(),x=.str (tx l)/\xs=[.str (tx p)]/\∀r:Int,zcv l p r->Q (.int r) H
theorem J9:MtR X "str.find" zc6:=by
 intro rN s σ H x xs v us Q I rx rv h;obtain⟨l,p,rfl,rfl,q⟩:=h;refine Vl rN s σ H _ _ v us Q I rx rv #[_,_,rfl,rfl,q _ ?_];rcases find_whole (tx l) (tx p)with ⟨h1,h2⟩ | ⟨e,h1,h2,h3⟩
 ·exact .inl #[h1,λq hq=>h2 q ((zag l p _ q).mpr (by rw[zE];exact hq))]
 ·refine .inr #[e,h1,?_,λk hk hq=>h3 k hk ((zag l p _ k).mpr (by rw[zE];exact hq))];have:=(zag l p _ e).mp h2;rw[zE]at this;exact this
end
section
variable{prog:nZ}{w:oh}{A:oj}{R:pS->nY->Prop}{I l S:nW}
theorem Wf(hh:A.handled=rK)(hlI:l≠I)(hSI:S≠I)(hSl:S≠l)(xs:Array nX)(val:Nat->Int)(hv:∀i v,xs[i]? = rJ v->∃t,v=Value.int (val i) t)(d:nX) :
  ∀(k j:Nat) (z:Int) (t:rh) (s:nY) (c:Nat),xs.size - j=k->j<=xs.size->(∀i,i<j->val i<=z)->s.heap.IsListIter I l j->s.heap.IsList l xs->s.heap.get? S=rJ (om "list" (List.toArray [.int z t,.int z t]) c) ->
   (∀z' t' h' tk,(∀i,i<xs.size->val i<=z')->(∀b o,b≠I->b≠S->s.heap.get? b=rJ o->h'.get? b=rJ o)->R (.ok (.ret (.int z' t'))) { s with heap:=h',toks:=tk }) ->
   oS (model prog w) A (.builtin "max.loop" #[[.ref I,.none,.ref S],[(bV "default",d)]]) R s:=by
 have nm:(toString "max" ++ toString ".loop" : String)="max.loop":=∅;have W:=Walks.list (prog:=prog) (w:=w) (A:=A.in1) hh I l hlI xs;intro k
 induction k with
 | zero =>
  intro j z t s c hk hj hz hit hl hS hR;have e:j=xs.size:=⋯;refine oM (b:=Builtin.«max.loop») du ?_;rw[Around.under_plainId (id:="max.loop") bw _];show oa _ A.in1 (seqItems? (Value.ref S) >>= _) _ _ s;refine nP (oZ (items:=(List.toArray [.int z t,.int z t])) hS rfl ?_);show oa _ A.in1 (tryCatch (pyNext (Value.ref I)) _ >>= _) _ _ s;refine nP (oJ (W.done s _ _ #[e ▸ hit,hl] λh' tk kp=>?_));have hS':=kp S _ (by simpa using hSI) hS;show oa _ A.in1 (updateSeq S (λ_=>(#[]:Array nX)) >>= _) _ _ _;refine nP (oW hS' rfl (nP (oV (nQ ?_))));exact hR z t _ tk (λi hi=>hz i ⋯) λb o hb hb' q=>(aw _ _ (Ne.symm hb')).trans (kp b o (by simpa using hb) q)
 | succ k ih =>
  intro j z t s c hk hj hz hit hl hS hR;refine oM (b:=Builtin.«max.loop») du ?_;rw[Around.under_plainId (id:="max.loop") bw _];show oa _ A.in1 (seqItems? (Value.ref S) >>= _) _ _ s;refine nP (oZ (items:=(List.toArray [.int z t,.int z t])) hS rfl ?_);show oa _ A.in1 (tryCatch (pyNext (Value.ref I)) _ >>= _) _ _ s;refine nP (oJ (W.item j s _ _ ⋯ #[hit,hl] λv h' tk hP st kp=>?_));obtain⟨t2,rfl⟩:=hv j v hP;have hS':=kp S _ (by simpa using hSI) hS;show oa _ A.in1 (tryCatch (holding [Value.int (val j) t2,Value.int (val j) t2] (richCompare .Gt (.int (val j) t2) (.int z t) >>= _)) _ >>= _) _ _ _;refine nP (oJ (oz (nP (CmpOf.ints_gt (prog:=prog) (w:=w) (A:=A.in1) (P:=λi v=>∃t,v=Value.int (if i=0 then val j else z) t) (λi=>if i=0 then val j else z) (λi v h=>h) 0 1 _ _ _ _ _ #[t2,rfl] #[t,rfl] ?_))));refine nP (oz (oy (nP (oV (nQ ?_)))));by_cases g:val j > z
  ·erw[if_true,Nat.one_ne_zero,if_false,g,decide_true]
   refine nP (oW hS' rfl (nP (oV ?_)));rw[nm];refine nQ #[plainId_quiet bw _,ih (j+1) (val j) t2 _ _ ⋯ ⋯ (λi hi=>?_) (W.frame _ _ _ st λb hb o q=>?_).1 (W.frame _ _ _ st λb hb o q=>?_).2 (get?_update_seq hS' _) λz' t' h'' tk'' a1 a2=>hR z' t' h'' tk'' a1 λb o hb hb' q=>a2 b o hb hb' ((aw _ _ (Ne.symm hb')).trans (kp b o (by simpa using hb) q))]
   ·by_cases e:i=j
    ·rw[e];exact Int.le_refl _
    ·have:=hz i ⋯;lia
   all_goals
    refine (aw _ _ (λe:S=b=>?_)).trans q;subst e;rcases rS.mp hb with e | e
    ·exact hSI e
    ·exact hSl (rV.mp e)
  ·erw[if_true,Nat.one_ne_zero,if_false,g,decide_false,aU]
   refine nP (oV ?_);rw[nm];refine nQ #[plainId_quiet bw _,ih (j+1) z t _ _ ⋯ ⋯ (λi hi=>?_) st.1 st.2 hS' λz' t' h'' tk'' a1 a2=>hR z' t' h'' tk'' a1 λb o hb hb' q=>a2 b o hb hb' (kp b o (by simpa using hb) q)];by_cases e:i=j
   ·rw[e];lia
   ·exact hz i ⋯
theorem VZ(a v:nX):argsOk "max" #[[a],[(bV "default",v)]]:=by unfold argsOk;kernel_rfl
theorem Vm{E:nX->nY->Prop}{s:nY}{Q:nX->nY->Prop}(hh:A.handled=rK)(xs:Array nX)(val:Nat->Int)(hv:∀i v,xs[i]? = rJ v->∃t,v=Value.int (val i) t)(hl:s.heap.IsList l xs)(d:nX)
  (h:∀v h' tk,(xs.size=0->v=d)->(0<xs.size->∃z t,v=Value.int z t/\∀i,i<xs.size->val i<=z)->(∀b o,s.heap.get? b=rJ o->h'.get? b=rJ o)->Q v { s with heap:=h',toks:=tk }) :
  oa (model prog w) A (call (.builtin "max") [.ref l] [(bV "default",d)]) Q E s:=by
 have nm:(toString "max" ++ toString ".loop" : String)="max.loop":=∅;have hlt:l<s⁻¹:=by obtain⟨_,e,_⟩:=hl;exact ar e
 refine kmb_tree PySem.F.kind_max PySem.F.plain_max PySem.F.entry_max (VZ _ _) ?_;show oa _ A.in1 (Builtin.Builtins.bindParams "max" ["key","default"] 0 #[[],[(bV "default",d)]] >>= _) _ _ s;refine nP (wpAny_of_eq (show Builtin.Builtins.bindParams "max" ["key","default"] 0 #[[],[(bV "default",d)]]=pure [rK,rJ d]from rfl) (nP (nQ ?_)));refine nP (pw hl (nP (pD ?_ (ay _))));rw[nm];refine nQ #[plainId_quiet bw _,?_];have gI:(s.heap.push { cls:=.type "list_iterator",data:=.fields (List.toArray [.ref l,.int 0 0]) }).IsListIter s⁻¹ l 0:=#[_,aE _ rfl,rfl,rfl];have gl:=hl.push { cls:=.type "list_iterator",data:=.fields (List.toArray [.ref l,.int 0 0]) };have kp0:∀b o,s.heap.get? b=rJ o->(s.heap.push { cls:=.type "list_iterator",data:=.fields (List.toArray [.ref l,.int 0 0]) }).get? b=rJ o:=λb o q=>ag _ q;have hsz:(s.heap.push { cls:=.type "list_iterator",data:=.fields (List.toArray [.ref l,.int 0 0]) }).objs.size=s⁻¹+1:=cL _ _;have hold:∀b o,s.heap.get? b=rJ o->b<s⁻¹:=λb o q=>ar q;have hlI:l≠s⁻¹:=av hlt;generalize s.heap.push { cls:=.type "list_iterator",data:=.fields (List.toArray [.ref l,.int 0 0]) }=h1 at *;generalize hIe:s⁻¹=I at *;have W:=Walks.list (prog:=prog) (w:=w) (A:=A.in1) hh I l hlI xs;have gS:(h1.push { cls:=.type "list",data:=.seq ([]:List nX).toArray }).get? h1.objs.size=rJ (om "list" #[] 0):=aE _ rfl;have st0:=W.frame 0 _ (h1.push { cls:=.type "list",data:=.seq ([]:List nX).toArray }) #[gI,gl] λb _ o q=>ag _ q;have kp1:∀b o,s.heap.get? b=rJ o->(h1.push { cls:=.type "list",data:=.seq ([]:List nX).toArray }).get? b=rJ o:=λb o q=>ag _ (kp0 b o q);have hSI:h1.objs.size≠I:=by rw[hsz];exact Nat.succ_ne_self I
 have hSl:h1.objs.size≠l:=by rw[hsz];exact cj (cK hlt)
 have hSb:∀b o,s.heap.get? b=rJ o->b≠I/\b≠h1.objs.size:=λb o q=>#[av (hold b o q),by rw[hsz];exact av (cK (hold b o q))];generalize h1.push { cls:=.type "list",data:=.seq ([]:List nX).toArray }=h2 at *;generalize h1.objs.size=S at *;refine oM (b:=Builtin.«max.loop») du ?_;rw[Around.under_plainId (id:="max.loop") bw _];show oa _ A.in1 (seqItems? (Value.ref S) >>= _) _ _ _;refine nP (oZ (items:=#[]) gS rfl ?_);show oa _ A.in1 (tryCatch (pyNext (Value.ref I)) _ >>= _) _ _ _;by_cases hz:xs.size=0
 ·refine nP (oJ (W.done _ _ _ (by rw[hz];exact st0) λh' tk kp=>?_));show oa _ A.in1 (rule _ >>= λ_=>_) _ _ _;refine nP (rA (nQ ?_));exact h d h' tk (λ_=>rfl) (λq=>absurd q ⋯) λb o q=>kp b o (by simpa using (hSb b o q).1) (kp1 b o q)
 ·refine nP (oJ (W.item 0 _ _ _ ⋯ st0 λv h' tk hP st kp=>?_));obtain⟨t,rfl⟩:=hv 0 v hP;have hS':=kp S _ (by simpa using hSI) gS;show oa _ A.in1 (updateSeq S (λ_=>(List.toArray [Value.int (val 0) t,Value.int (val 0) t])) >>= _) _ _ _;refine nP (oW hS' rfl ?_);rw[nm]
  have st':=W.frame _ _ (h'.update S (Obj.mapSeq λ_=>(List.toArray [Value.int (val 0) t,Value.int (val 0) t]))) st λb hb o q=>by
   refine (aw _ _ (λe:S=b=>?_)).trans q;subst e;rcases rS.mp hb with e | e
   ·exact hSI e
   ·exact hSl (rV.mp e)
  refine nQ #[plainId_quiet bw _,Wf hh hlI hSI hSl xs val hv d _ 1 (val 0) t _ _ rfl ⋯ (λi hi=>?_) st'.1 st'.2 (get?_update_seq hS' _) λz' t' h'' tk'' a1 a2=>?_]
  ·have:i=0:=⋯;rw[this];exact Int.le_refl _
  ·exact h _ h'' tk'' (λq=>absurd q hz) (λ_=>#[z',t',rfl,a1]) λb o q=>a2 b o (hSb b o q).1 (hSb b o q).2 ((aw _ _ (Ne.symm (hSb b o q).2)).trans (kp b o (by simpa using (hSb b o q).1) (kp1 b o q)))
end
section
variable{X:Cx}{id:String}{x:og}{e:ol}{es:List ol}{kws:List pT}{ks:List og}{p pos:oU}{t tk:TA}
def Q0(X:Cx)(id:String)(ks:List og)(r:List V->List V->Hp->VK->Prop):Prop :=
 ∀(rN:List (nW × oF)) (s:nY) (σ:L2.St) (H:Hp) (vs zs:List V) (us ws:List nX) (Q:VK),Inv X rN σ H s->Vals vs us->Vals zs ws->r vs zs H Q->oa (model X.prog X.w) X.A (call (.builtin id) us (ks.zip ws)) (EP X rN σ Q) X.xe s
def zdJ(r:List V->List V->Hp->VK->Prop)(t tk:TA):TE:=λσ H Q=>t σ H λvs H1=>tk σ H1 λzs H2=>r vs zs H2 Q
theorem X2{r:List V->List V->Hp->VK->Prop}(hc:Q0 X id ks r)(hg:Gl X x)(hm:X.mg x=rK)(hv:oG x=rJ (.builtin id))(ha:PA X (e::es) t)(hk:PK X kws tk)(hks:(oH pos (ow kws X.env)).filterMap (·.1)=ks:=by rfl)(hn:x≠"__name__":=by decide)(hdb:(x ==("__debug__" : og))=rM:=by decide)
  (he:oB pos (nS (e::es) X.env)=(rM,eval e X.env)::oB pos (nS es X.env):=by rfl) (hpl:(oB pos (nS (e::es) X.env)).any (·.1)=rM:=by rfl)
  (hall:(oH pos (ow kws X.env)).all (·.1.isSome)=rL:=by rfl) (hkw:(oH pos (ow kws X.env)).any (·.1.isNone)=rM:=by rfl):PE X (.Call (.Name x p) (e::es) kws pos) (zdJ r t tk):=by
 intro rN s σ H Q I h;refine oE (vb I hg hm hv ?_ hn hdb);refine callWith_kw (thn (ha pos rN s σ H _ I h) λus s1 ⟨vs,H1,I1,r1,q1⟩=>thn (hk pos rN s1 σ H1 _ I1 q1) λws s2 ⟨zs,H2,I2,r2,q2⟩=>?_) he hpl hall hkw;rw[hks];exact hc rN s2 σ H2 vs zs us ws Q I2 r1 r2 q2
def zcU(K:nV):List V->List V->Hp->VK->Prop:=λvs zs H Q=>∃(a:nW) (ns:List Int) (d:Int),vs=[.ref a]/\zs=[.int d]/\SqL K H a (ns.map V.int)/\∀z:Int,(ns=[]->z=d)->(∀n ∈ ns,n<=z)->Q (.int z) H
theorem zbd(hc:X.calm=rL):Q0 X "max" [bV "default"] (zcU X.K):=by
 intro rN s σ H vs zs us ws Q I r1 r2 h;obtain⟨a,ns,d,rfl,rfl,hS,q⟩:=h;obtain⟨u,rfl,ru⟩:=xP r1;cases ru;obtain⟨w',rfl,td,rfl⟩:=xP r2;obtain⟨its,rv,pl,hz⟩:=I.list hS;have hlen:=rv.length;rw[ac]at hlen
 have hat:∀(i:Nat) (v:nX),its.toArray[i]? = rJ v->∃t,v=Value.int (ns.getD i 0) t:=λi v hi=>by
  have hi':its[i]? = rJ v:=by simpa using hi
  have hil:=(rQ.mp hi').1;obtain⟨u,hu,t,rfl⟩:=yF rv (j:=i) (x:=.int (ns.getD i 0)) (by rw[ax,aa,ae ⋯];rfl);rw[hi']at hu;cases hu;exact#[t,rfl]
 refine Vm (I.ok.hd hc) its.toArray (λi=>ns.getD i 0) hat pl.isList (.int d td) λv h' tk h0 h1 kp=>?_;by_cases hn:ns=[]
 ·have:=h0 (by rw[ah,<- hlen,hn];rfl);subst this;exact#[.int d,H,I.kept kp,#[_,rfl],q d (λ_=>rfl) (λn hm=>by rw[hn]at hm;cases hm)]
 ·obtain⟨z,t,rfl,hzz⟩:=h1 (by rw[ah,<- hlen];exact sj.mpr hn);refine#[.int z,H,I.kept kp,#[_,rfl],q z (λe=>absurd e hn) λn hm=>?_];obtain⟨i,hi,rfl⟩:=List.getElem_of_mem hm;have:=hzz i (by rw[ah,<- hlen];exact hi);rw[aa,ae hi]at this;exact this
end
section
variable{prog:nZ}{w:oh}{A:oj}{R:pS->nY->Prop}{I l S:nW}
end
section
variable{X:Cx}
end
section
variable{prog:nZ}{w:oh}{A:oj}{R:pS->nY->Prop}{I S:nW}{fp wr:List nW}{P:Nat->nX->Prop}{St:Nat->oo->Prop}
theorem Y3:(toString "min" ++ toString ".loop" : String)="min.loop":=∅
theorem YI(W:Walks prog w A.in1 I fp wr 2 P St)(hw:S ∉ wr){v:nX}{c:Nat}{s:nY}(st:St 2 s.heap)(hS:s.heap.get? S=rJ (om "list" (List.toArray [v,v]) c))
  (hR:∀h' tk,(∀b o,b ∉ wr->b≠S->s.heap.get? b=rJ o->h'.get? b=rJ o)->R (.ok (.ret v)) { s with heap:=h',toks:=tk }):oS (model prog w) A (.builtin "min.loop" #[[.ref I,.none,.ref S],[]]) R s:=by
 refine oM (b:=Builtin.«min.loop») dv ?_;rw[Around.under_plainId (id:="min.loop") bx _];show oa _ A.in1 (seqItems? (Value.ref S) >>= _) _ _ s;refine nP (oZ (items:=(List.toArray [v,v])) hS rfl ?_);show oa _ A.in1 (tryCatch (pyNext (Value.ref I)) _ >>= _) _ _ s;refine nP (oJ (W.done s _ _ st λh' tk kp=>?_));have hS':=kp S _ hw hS;show oa _ A.in1 (updateSeq S (λ_=>(#[]:Array nX)) >>= _) _ _ _;refine nP (oW hS' rfl (nP (oV (nQ ?_))));exact hR _ tk λb o hb hb' q=>(aw _ _ (Ne.symm hb')).trans (kp b o hb q)
theorem Xd(W:Walks prog w A.in1 I fp wr 2 P St)(hf:S ∉ fp){a b:nX}{bt:Bool}{c:Nat}{s:nY}(hb:∀v,P 1 v->v=b)(st:St 1 s.heap)(hS:s.heap.get? S=rJ (om "list" (List.toArray [a,a]) c))
  (hc:∀h' tk,(∀b o,b ∉ wr->b≠S->s.heap.get? b=rJ o->h'.get? b=rJ o)->LtAt A.in1 { s with heap:=h',toks:=tk } b a bt)
  (hR:∀h' tk,(∀b o,b ∉ wr->b≠S->s.heap.get? b=rJ o->h'.get? b=rJ o)->R (.ok (.ret (if bt=rL then b else a))) { s with heap:=h',toks:=tk }):oS (model prog w) A (.builtin "min.loop" #[[.ref I,.none,.ref S],[]]) R s:=by
 have hw:S ∉ wr:=λh=>hf (W.sub _ h);refine oM (b:=Builtin.«min.loop») dv ?_;rw[Around.under_plainId (id:="min.loop") bx _];show oa _ A.in1 (seqItems? (Value.ref S) >>= _) _ _ s;refine nP (oZ (items:=(List.toArray [a,a])) hS rfl ?_);show oa _ A.in1 (tryCatch (pyNext (Value.ref I)) _ >>= _) _ _ s;refine nP (oJ (W.item 1 s _ _ ∅ st λv h' tk hP st' kp=>?_));obtain rfl:=hb v hP;have hS':=kp S _ hw hS;show oa _ A.in1 (tryCatch (holding [v,v] (richCompare .Lt v a >>= _)) _ >>= _) _ _ _;refine nP (oJ (oz (nP (hc h' tk (λb o q _ e=>kp b o q e) prog w _ _ ?_))));refine nP (oz (oy (nP (oV (nQ ?_)))))
 cases bt with
 | true =>
  erw[if_true]
  refine nP (oW hS' rfl (nP (oV ?_)));rw[Y3];refine nQ #[plainId_quiet bx _,YI W hw (W.frame _ _ _ st' λb hbf o e=>?_) (get?_update_seq hS' _) λh'' tk'' k2=>?_]
  ·exact (aw _ _ (λz:S=b=>hf (by rw[z];exact hbf))).trans e
  ·exact hR h'' tk'' λb o q1 q2 e=>k2 b o q1 q2 ((aw _ _ (Ne.symm q2)).trans (kp b o q1 e))
 | false =>
  erw[aU,if_false]
  refine nP (oV ?_);rw[Y3];refine nQ #[plainId_quiet bx _,YI W hw st' hS' λh'' tk'' k2=>?_];exact hR h'' tk'' λb o q1 q2 e=>k2 b o q1 q2 (kp b o q1 e)
theorem Vk(W:Walks prog w A.in1 I fp wr 2 P St)(hf:S ∉ fp){a b:nX}{bt:Bool}{c:Nat}{s:nY}(ha:∀v,P 0 v->v=a)(hb:∀v,P 1 v->v=b)(st:St 0 s.heap)(hS:s.heap.get? S=rJ (om "list" #[] c))
  (hc:∀h' tk,(∀b o,b ∉ wr->b≠S->s.heap.get? b=rJ o->h'.get? b=rJ o)->LtAt A.in1 { s with heap:=h',toks:=tk } b a bt)
  (hR:∀h' tk,(∀b o,b ∉ wr->b≠S->s.heap.get? b=rJ o->h'.get? b=rJ o)->R (.ok (.ret (if bt=rL then b else a))) { s with heap:=h',toks:=tk }):oS (model prog w) A (.builtin "min.loop" #[[.ref I,.none,.ref S],[]]) R s:=by
 have hw:S ∉ wr:=λh=>hf (W.sub _ h);refine oM (b:=Builtin.«min.loop») dv ?_;rw[Around.under_plainId (id:="min.loop") bx _];show oa _ A.in1 (seqItems? (Value.ref S) >>= _) _ _ s;refine nP (oZ (items:=#[]) hS rfl ?_);show oa _ A.in1 (tryCatch (pyNext (Value.ref I)) _ >>= _) _ _ s;refine nP (oJ (W.item 0 s _ _ ∅ st λv h' tk hP st' kp=>?_));obtain rfl:=ha v hP;have hS':=kp S _ hw hS;show oa _ A.in1 (updateSeq S (λ_=>(List.toArray [v,v])) >>= _) _ _ _;refine nP (oW hS' rfl ?_);rw[Y3];have k1:∀b o,b ∉ wr->b≠S->s.heap.get? b=rJ o->(h'.update S (Obj.mapSeq λ_=>(List.toArray [v,v]))).get? b=rJ o:=λb o q1 q2 e=>(aw _ _ (Ne.symm q2)).trans (kp b o q1 e);refine nQ #[plainId_quiet bx _,Xd (a:=v) (bt:=bt) W hf hb (W.frame _ _ _ st' λb hbf o e=>?_) (get?_update_seq hS' _) (λh'' tk'' k2=>?_) λh'' tk'' k2=>?_]
 ·exact (aw _ _ (λz:S=b=>hf (by rw[z];exact hbf))).trans e
 ·exact hc h'' tk'' λb o q1 q2 e=>k2 b o q1 q2 (k1 b o q1 q2 e)
 ·exact hR h'' tk'' λb o q1 q2 e=>k2 b o q1 q2 (k1 b o q1 q2 e)
theorem UY{a b:nX}{bt:Bool}{E:nX->nY->Prop}{s:nY}{Q:nX->nY->Prop}(hh:A.handled=rK)
    (hc:∀h' tk,(∀b o,s.heap.get? b=rJ o->h'.get? b=rJ o)->LtAt A.in1 { s with heap:=h',toks:=tk } b a bt)
    (h:∀h' tk,(∀b o,s.heap.get? b=rJ o->h'.get? b=rJ o)->Q (if bt=rL then b else a) { s with heap:=h',toks:=tk }):oa (model prog w) A (call (.builtin "min") [a,b]) Q E s:=by
  refine kmb_tree PySem.F.kind_min PySem.F.plain_min PySem.F.entry_min (PySem.F.args_min2 _ _) ?_;show oa _ A.in1 (Builtin.Builtins.bindParams "min" ["key","default"] 0 #[[],[]] >>= _) _ _ s;refine nP (wpAny_of_eq (show Builtin.Builtins.bindParams "min" ["key","default"] 0 #[[],[]]=pure [rK,rK]from rfl) ?_);show oa _ A.in1 (newTuple [a,b] >>= _) _ _ s;refine nP (pA ?_);have hT:(s.heap.push { cls:=.type "tuple",data:=.seq (List.toArray [a,b]) }).IsTuple s⁻¹ (List.toArray [a,b]):=#[_,aE _ rfl,rfl,0,rfl];have hz:(s.heap.push { cls:=.type "tuple",data:=.seq (List.toArray [a,b]) }).objs.size=s⁻¹+1:=cL ..;have k0:∀b' o,s.heap.get? b'=rJ o->(s.heap.push { cls:=.type "tuple",data:=.seq (List.toArray [a,b]) }).get? b'=rJ o:=λb' o q=>ag _ q;have hold:∀b o,s.heap.get? b=rJ o->b<s⁻¹:=λb o q=>ar q;refine nP (wpAny_pyIter_tuple hT (nP (pA ?_)));rw[Y3];refine nQ #[plainId_quiet bx _,?_];generalize s.heap.push { cls:=.type "tuple",data:=.seq (List.toArray [a,b]) }=h1 at *;generalize hTe:s⁻¹=T at *;have gI:(h1.push { cls:=.type "tuple_iterator",data:=.fields (List.toArray [.ref T,.int 0 0]) }).IsTupleIter h1.objs.size T 0:=#[_,aE _ rfl,rfl,rfl];have gT:=hT.push { cls:=.type "tuple_iterator",data:=.fields (List.toArray [.ref T,.int 0 0]) };have k1:∀b' o,s.heap.get? b'=rJ o->(h1.push { cls:=.type "tuple_iterator",data:=.fields (List.toArray [.ref T,.int 0 0]) }).get? b'=rJ o:=λb' o q=>ag _ (k0 b' o q);have hz1:(h1.push { cls:=.type "tuple_iterator",data:=.fields (List.toArray [.ref T,.int 0 0]) }).objs.size=h1.objs.size+1:=cL ..;generalize h1.push { cls:=.type "tuple_iterator",data:=.fields (List.toArray [.ref T,.int 0 0]) }=h2 at *;generalize h1.objs.size=I at *;have a1:Nat.lt T I:=by rw[hz];exact dw _
  have a2:Nat.lt I h2.objs.size:=by rw[hz1];exact dw _
  have W:=Walks.tuple (prog:=prog) (w:=w) (A:=A.in1) hh I T (av a1) (List.toArray [a,b]);refine Vk (S:=h2.objs.size) (a:=a) (b:=b) (bt:=bt) W (λq=>?_) (λv q=>?_) (λv q=>?_) (W.frame 0 _ _ #[gI,gT] λb _ o q=>ag _ q) (aE _ rfl) (λh' tk kp=>hc h' tk λb o q=>?_) λh' tk kp=>h h' tk λb o q=>?_
  . rcases rS.mp q with e | q
    . exact cj a2 e
    . exact cj (fA a1 a2) (rV.mp q)
  . cases q;rfl
  . cases q;rfl
  all_goals
    have b1:=fA (hold b o q) a1;exact kp b o (λz=>av b1 (rV.mp z)) (av (fA b1 a2)) (ag _ (k1 b o q))
end
section
variable{X:Cx}
def zcz(K:nV):List V->Hp->VK->Prop:=λxs H Q=>∃(p r:nW) (i j k m:Int),xs=[.ref p,.ref r]/\SqT K H p [.int i,.int j]/\SqT K H r [.int k,.int m]/\Q (if k<i\/(k=i/\m<j)then .ref r else .ref p) H
theorem Jt(i j k m:Int):ltD (.tup [.int k,.int m]) (.tup [.int i,.int j])=decide (k<i\/(k=i/\m<j)):=by
 erw[ltD,xj,eqD]
 by_cases h1:k=i
 ·subst h1;by_cases h2:m=j
  ·subst h2;simp
  ·simp [h2]
 ·simp [h1]
theorem zay(hc:X.calm=rL)(hu:X.A.units+100<cLine):wq X (.builtin "min") (zcz X.K):=by
 intro rN s σ H xs us Q I r h;obtain⟨p,q,i,j,k,m,rfl,hp,hq,hQ⟩:=h;obtain⟨u,v,rfl,r1,r2⟩:=Xv r;have d1:Is X.K H (.tup [.int i,.int j]) (.ref p):=by erw[Is,Iss];exact#[p,_,rfl,hp,_,_,rfl,rfl,_,_,rfl,rfl,rfl]
 have d2:Is X.K H (.tup [.int k,.int m]) (.ref q):=by erw[Is,Iss];exact#[q,_,rfl,hq,_,_,rfl,rfl,_,_,rfl,rfl,rfl]
 refine UY (bt:=decide (k<i\/(k=i/\m<j))) (I.ok.hd hc) (λh' tk kp=>?_) λh' tk kp=>#[_,H,I.kept kp,?_,hQ]
 ·rw[<- Jt];exact YS (I.kept kp) 50 X.A.in1 _ _ _ _ _ _ (by show X.A.units+1+50<cLine;lia) (by erw[dpD,wI];decide) (by erw[okD,qT,and_self]) d2 d1 r2 r1
 ·by_cases g:k<i\/(k=i/\m<j)
  ·rw[if_pos g,if_pos (decide_eq_true g)];exact r2
  ·rw[if_neg g,if_neg (by simpa using g)];exact r1
end
section
variable{X:Cx}{k j:Nat}{C:nW}{m:og}{ps:List og}{sp:Sp}{o e:ol}{es:List ol}{ta:TE}{t:TA}{apos pos p:oU}{x:og}{E:XK}
end
def zdl(y l:())(e:Nat):Prop:=e+y.length<=l.length/\(l.drop e).take y.length=y
noncomputable instance (y l:()) (e:Nat):Decidable (zdl y l e):=by unfold zdl;infer_instance
noncomputable def zdS(y l:()):Option (() × ()):=((aR (l.length+1)).find? λe=>decide (zdl y l e)).map λe=>(l.take e,l.drop (e+y.length))
section
variable{X:Cx}
theorem qQ{cn:og}{np hpos:oU}{b0:ot}{suite:List ot}{hs:List pZ}{D:nW}{th:TS}(hg:Gl X cn)(hm:X.mg cn=rJ (.ref D))(hdb:(cn ==("__debug__" : og))=rM)(xc:ZO X.K D=rL)(hsu:∀e,PSs (Cx.suite X e) (b0::suite) th)
  {rN:List (nW × oF)} {s:nY} {σ:St} {H:Hp} {Dd:wU} {x C T:nW} {dx:Option nW} (I:Inv X rN σ H s) (hob:∃t cx kx,s.heap.get? x=rJ (xog C dx t (.ref T) cx kx)) (hoT:∃oT ts,s.heap.get? T=rJ oT/\oT.data=.fields ts/\3<ts.size) (fT:xG X rN H T)
  (hb:cS X.K (.ref C) (.ref D)=rJ rL) (q:th Dd σ H):oa (model X.prog X.w) X.A (handleBy (.ref x) X.env (.ExceptHandler (rJ (.Name cn np)) rK (b0::suite) hpos::hs)) (SP X rN Dd) X.xe s:=by
 obtain⟨t,cx,kx,ob⟩:=hob;obtain⟨oT,ts,eT,dT,zT⟩:=hoT;have I':=Inv.suite I (.ref x);refine wpAny_handleBy_cons (codeAny_handlers_test (wL (X:=Cx.suite X (.ref x)) I' hg hm (zb2 I.kIn xc ob hb ?_) hdb)) (by intro q;cases q);refine codeAny_handlers_suite ?_;unfold setFlight;refine nP (pb ob rfl (x:=.ref T) rfl ?_);rw[if_pos (show (Value.ref T != Value.none)=rL from by simp)];refine oY eT dT zT ?_;obtain⟨f0,f1,f2,f3,f4,f5⟩:=fT
 have I2:Inv X rN σ H { s with heap:=s.heap.update T (Obj.mapFields (·.setIfInBounds 3 ((rK:Option nW).elim Value.none λf=>rawInt f))) } :=
  I.turned (t':=s.toks) (λb o hb e=>(aw _ _ (Ne.symm hb)).trans e) f0 f1 f3 f4 f5
 refine oQ (thn (hsu _ rN _ σ H _ (Inv.suite I2 (.ref x)) q) λfl s4 q4=>?_)
 cases fl with
 | next =>
  obtain⟨σ4,H4,I4,n4⟩:=q4;exact#[_,_,Inv.unsuite I I4,n4]
 | brk =>
  obtain⟨σ4,H4,I4,n4⟩:=q4;exact#[_,_,Inv.unsuite I I4,n4]
 | cont =>
  obtain⟨σ4,H4,I4,n4⟩:=q4;exact#[_,_,Inv.unsuite I I4,n4]
 | ret v =>
  obtain⟨y,σ4,H4,I4,r4,n4⟩:=q4;exact#[y,_,_,Inv.unsuite I I4,r4,n4]
def Q8(K:nV)(i:Nat)(D:nW)(te:TX)(th:TS):TS:=λDd σ H=>te σ H (λv H1=>Dd.nx (σ.set i (rJ v)) H1) λcls dx H1=>∃C,cls=.ref C/\cS K (.ref C) (.ref D)=rJ rL/\∀x,H1 x=rK->th Dd σ (upd H1 x (XT x C dx))
theorem UW{i:Nat}{y:og}{yp apos pos np hpos:oU}{e:ol}{te:TX}{cn:og}{b0:ot}{suite:List ot}{hs:List pZ}{D:nW}{th:TS}
  (hN:X.N.Nodup) (hy:X.N[i]? = rJ y) (hly:Loc X.env.scope y) (hf:X.fn y=rL\/X.env.scope.names.lookup y=rJ .local) (hst:X.stack=X.env::X.outer/\X.env.frame=rJ X.env.locals) (he:PEX X e te) (hg:Gl X cn) (hm:X.mg cn=rJ (.ref D)) (xc:ZO X.K D=rL) (hsu:∀e,PSs (Cx.suite X e) (b0::suite) th) (hdb:(cn ==("__debug__" : og))=rM:=by decide) (hsw:swapsWith e (rJ (.Name y yp)) apos.line X.env=pure rM:=by rfl) :
  PS X (.Try [.Assign [.Name y yp] e apos] (.ExceptHandler (rJ (.Name cn np)) rK (b0::suite) hpos::hs) [] [] pos) (Q8 X.K i D te th):=by
 intro rN s σ H D I hq;refine rn (pf (re (oR (he rN s σ H _ _ I hq) (λv s1 ⟨z,H1,I1,r1,q1⟩=>?_) λe s1 fl=>?_) hsw))
 ·exact jU I1 hN hy hly r1 (λs2 I2=>oX (oX #[_,H1,I2,q1])) hf
 ·obtain⟨cx,kx,H1,x,C,t,dx,tb,rfl,I1,ob,tr,fx,fT,C',ec,hsb,q1⟩:=fl;cases ec;have fr:X.A.frames=rJ (X.env::X.outer):=by rw[<- hst.1];exact I1.ok.frames
  have ff:s1.heap.FunFrames X.base (X.env::X.outer):=by rw[<- hst.1];exact I1.stack
  refine jv fr ff hst.2 hst.2 ob tr λh' T oT ts e1 nT oldT e2 d2 z2 k1 k2=>?_
  have fT':xG X rN H1 T:=by
   rcases oldT with z | z
   ·exact fT T z
   ·exact I1.fpOk z (I1.hok.fresh z)
  have tbs:∀b,tb=.ref b->H1 b=rK:=λb hb=>(fT b hb).1
  have nch:∀b o,s1.heap.get? b=rJ o->b ∉ (x::T::tbL tb)->b≠x/\tb≠.ref b:=λb o _ hb=>by
   refine#[λz=>hb (by simp [z]),λz=>hb ?_];rw[z];simp [tbL]
  have un:Un (frs X.stack) (x::T::tbL tb) H1 H1 s1.heap h':=by
   rw[hst.1];refine#[λb o e n hb hc=>?_,λb o e n hb hc=>?_,λb o e n _=>n,λb o e hc=>?_,λb xs e=>e,λb o u e=>e,λb ps e=>#[#[],by rw[e];simp]]
   ·obtain⟨a1,a2⟩:=nch b o e hc;exact k1 b o a1 a2 hb e
   ·obtain⟨a1,a2⟩:=nch b o e hc;exact k2 b o a1 a2 e
   ·obtain⟨a1,a2⟩:=nch b o e hc;obtain⟨sl,q⟩:=k2 b o a1 a2 e;exact#[_,q]
  have hok:HOk X.prog X.w H1 h':=λb u e=>by
   refine (I1.hok b u e).stay (λc v hc q=>k1 c v ?_ ?_ ?_ q) (λ_ q=>q) λ_ _ q=>q
   ·rintro rfl;rcases hc with rfl | hc
    ·rw[fx.1]at e;cases e
    ·rw[fx.1]at hc;cases hc
   ·intro z;have:=tbs c z;rcases hc with rfl | hc
    ·rw[this]at e;cases e
    ·rw[this]at hc;cases hc
   ·intro z;rw[<- hst.1]at z;have:=I1.stkFree c z;rcases hc with rfl | hc
    ·rw[this]at e;cases e
    ·rw[this]at hc;cases hc
  have I2:Inv X rN σ H1 { s1 with heap:=h' }:=I1.call' (s':={ s1 with heap:=h' }) rfl un hok I1.bare λb hb=>by
   have fb:xG X rN H1 b:=by
    rcases rS.mp hb with z | z
    ·rw[z];exact fx
    ·rcases rS.mp z with z | z
     ·rw[z];exact fT'
     ·cases tb with
      | ref b' =>
       have:b=b':=by simpa [tbL] using z
       rw[this];exact fT b' rfl
      | _=>simp [tbL]at z
   obtain⟨_,a1,_,a3,a4,a5⟩:=fb;exact#[a3,a1,a4,a5]
  have I3:Inv X rN σ (upd H1 x (XT x C dx)) { s1 with heap:=h' }:=Inv.track I2 fx (zbr e1);exact qQ hg hm hdb xc hsu I3 #[t,_,_,e1] #[oT,ts,e2,d2,z2] #[by rw[zq nT];exact fT'.1,fT'.2] hsb (q1 x fx.1)
def QK(K:nV)(D:nW)(te:TX)(th:TS):TS:=λDd σ H=>te σ H (λz H1=>Dd.rt z H1) λcls dx H1=>∃C,cls=.ref C/\cS K (.ref C) (.ref D)=rJ rL/\∀x,H1 x=rK->th Dd σ (upd H1 x (XT x C dx))
theorem UJ{apos pos np hpos:oU}{e:ol}{te:TX}{cn:og}{b0:ot}{suite:List ot}{hs:List pZ}{D:nW}{th:TS}
  (hst:X.stack=X.env::X.outer/\X.env.frame=rJ X.env.locals) (he:PEX X e te) (hg:Gl X cn) (hm:X.mg cn=rJ (.ref D)) (xc:ZO X.K D=rL) (hsu:∀e,PSs (Cx.suite X e) (b0::suite) th) (hdb:(cn ==("__debug__" : og))=rM:=by decide) :
  PS X (.Try [.Return (rJ e) apos] (.ExceptHandler (rJ (.Name cn np)) rK (b0::suite) hpos::hs) [] [] pos) (QK X.K D te th):=by
 intro rN s σ H D I hq;refine rn (pf (rd (oR (he rN s σ H _ _ I hq) (λv s1 ⟨z,H1,I1,r1,q1⟩=>?_) λe s1 fl=>?_)))
 ·exact#[z,σ,H1,I1,r1,q1]
 ·obtain⟨cx,kx,H1,x,C,t,dx,tb,rfl,I1,ob,tr,fx,fT,C',ec,hsb,q1⟩:=fl;cases ec;have fr:X.A.frames=rJ (X.env::X.outer):=by rw[<- hst.1];exact I1.ok.frames
  have ff:s1.heap.FunFrames X.base (X.env::X.outer):=by rw[<- hst.1];exact I1.stack
  refine jv fr ff hst.2 hst.2 ob tr λh' T oT ts e1 nT oldT e2 d2 z2 k1 k2=>?_
  have fT':xG X rN H1 T:=by
   rcases oldT with z | z
   ·exact fT T z
   ·exact I1.fpOk z (I1.hok.fresh z)
  have tbs:∀b,tb=.ref b->H1 b=rK:=λb hb=>(fT b hb).1
  have nch:∀b o,s1.heap.get? b=rJ o->b ∉ (x::T::tbL tb)->b≠x/\tb≠.ref b:=λb o _ hb=>by
   refine#[λz=>hb (by simp [z]),λz=>hb ?_];rw[z];simp [tbL]
  have un:Un (frs X.stack) (x::T::tbL tb) H1 H1 s1.heap h':=by
   rw[hst.1];refine#[λb o e n hb hc=>?_,λb o e n hb hc=>?_,λb o e n _=>n,λb o e hc=>?_,λb xs e=>e,λb o u e=>e,λb ps e=>#[#[],by rw[e];simp]]
   ·obtain⟨a1,a2⟩:=nch b o e hc;exact k1 b o a1 a2 hb e
   ·obtain⟨a1,a2⟩:=nch b o e hc;exact k2 b o a1 a2 e
   ·obtain⟨a1,a2⟩:=nch b o e hc;obtain⟨sl,q⟩:=k2 b o a1 a2 e;exact#[_,q]
  have hok:HOk X.prog X.w H1 h':=λb u e=>by
   refine (I1.hok b u e).stay (λc v hc q=>k1 c v ?_ ?_ ?_ q) (λ_ q=>q) λ_ _ q=>q
   ·rintro rfl;rcases hc with rfl | hc
    ·rw[fx.1]at e;cases e
    ·rw[fx.1]at hc;cases hc
   ·intro z;have:=tbs c z;rcases hc with rfl | hc
    ·rw[this]at e;cases e
    ·rw[this]at hc;cases hc
   ·intro z;rw[<- hst.1]at z;have:=I1.stkFree c z;rcases hc with rfl | hc
    ·rw[this]at e;cases e
    ·rw[this]at hc;cases hc
  have I2:Inv X rN σ H1 { s1 with heap:=h' }:=I1.call' (s':={ s1 with heap:=h' }) rfl un hok I1.bare λb hb=>by
   have fb:xG X rN H1 b:=by
    rcases rS.mp hb with z | z
    ·rw[z];exact fx
    ·rcases rS.mp z with z | z
     ·rw[z];exact fT'
     ·cases tb with
      | ref b' =>
       have:b=b':=by simpa [tbL] using z
       rw[this];exact fT b' rfl
      | _=>simp [tbL]at z
   obtain⟨_,a1,_,a3,a4,a5⟩:=fb;exact#[a3,a1,a4,a5]
  have I3:Inv X rN σ (upd H1 x (XT x C dx)) { s1 with heap:=h' }:=Inv.track I2 fx (zbr e1);exact qQ hg hm hdb xc hsu I3 #[t,_,_,e1] #[oT,ts,e2,d2,z2] #[by rw[zq nT];exact fT'.1,fT'.2] hsb (q1 x fx.1)
theorem WH(bs:List Bool):(aR bs.length).any (λi=>bs.getD i rM)=bs.any id:=by
 induction bs with
 | nil=>rfl
 | cons b bs ih =>
  rw[aJ,dq,List.any_cons,List.any_map,List.any_cons,<- ih];rfl
def zd8(K:nV):List V->Hp->VK->Prop:=λxs H Q=>∃(p:nW) (bs:List Bool),xs=[.ref p]/\SqL K H p (bs.map V.bl)/\Q (.bl (bs.any id)) H
theorem zcy(hc:X.calm=rL):wq X (.builtin "any") (zd8 X.K):=by
 intro rN s σ H xs us Q I r h;obtain⟨p,bs,rfl,hS,q⟩:=h;obtain⟨u,rfl,ru⟩:=xP r;cases ru;obtain⟨its,rv,pl,hz⟩:=I.list hS
 have hlen:its.length=bs.length:=by
  have:=rv.length;rw[ac]at this;exact this.symm
 have hh:X.A.in1.handled=rK:=I.ok.hd hc
 have hne:p≠s⁻¹:=by
  obtain⟨o,n,e,_⟩:=pl;exact av (ar e)
 obtain⟨f0,f1,f2,f3,f4,f5⟩:=I.fpOk (H':=H) (al _) (I.hok.fresh (al _));have I1:=I.kept (t':=s.toks) (h':=s.heap.push { cls:=.type "list_iterator",data:=.fields (List.toArray [.ref p,.int 0 0]) }) λb o e=>ag _ e;refine call_any_walk (pw pl.isList ?_);refine#[s⁻¹,_,_,_,_,_,λi=>bs.getD i rM,rfl,Walks.list hh s⁻¹ p hne its.toArray,#[#[_,aE _ rfl,rfl,rfl],?_],?_,?_]
 ·obtain⟨o,n,e,c,d,dt⟩:=pl;exact#[o,ag _ e,c,n,dt]
 ·intro i v s' Q' E' hv hq;have:=jP rv (i:=i) (v:=v) (by simpa using hv);rw[this];exact oy hq
 ·intro h' tk hk
  have e:(aR its.toArray.size).any (λi=>bs.getD i rM)=bs.any id:=by
   rw[ah,hlen,WH]
  rw[e];refine#[.bl _,H,?_,rfl,q];exact I1.turned (t':=tk) (it:=s⁻¹) (λb o hb q=>hk b o (by simpa using hb) q) f0 f1 f3 f4 f5
end
def CompEL(K:nV)(a:nW)(g:TG)(tt:TT)(te:TE)(own:Nat)(ix:())(σ:L2.St)(H1:Hp)(Q:VK)(D:nW):Prop:=ZT (Iel K a) g tt te own ix σ H1 Q D
theorem QO{K:nV}{ta:TA}{g:TG}{tt:TT}{te:TE}{own:Nat}{ix:()}{σ:L2.St}{H:Hp}{Q:VK}:uC (Wb K ta) g tt te own ix σ H Q=ta σ H λvs H1=>∃a,vs=[.ref a]/\(∃xs,SqL K H1 a xs)/\∀D,H1 D=rK->CompEL K a g tt te own ix σ H1 Q D:=rfl
section
variable{g:TG}{tt:TT}{te:TE}{own:Nat}{ix:()}{σ:L2.St}{H1:Hp}{Q:VK}{D:nW}
theorem CompEL.by{K:nV}{a:nW}{xs:List V}(Pv:Nat->List V->Hp->Prop)(h0:Pv 0 [] (upd H1 D (.lst [])))(hl:∀i rP H',i<=xs.length->Pv i rP H'->SqL K H' a xs)
  (hs:∀i x rP H' p,xs[i]? = rJ x->Pv i rP H'->H' p=rK->g (.ref p) (vx σ own ix) (upd H' p (.tup [.int (i:Nat),x])) λσ3 H3=>yZ (vx σ own ix) σ3/\tt σ3 H3 λb H4=>if b=rL then
   te σ3 H4 λv H5=>H5 D=rJ (.lst rP)/\rP.length<nU/\CNx xs.length i Pv (rP ++ [v]) (upd H5 D (.lst (rP ++ [v])))else CNx xs.length i Pv rP H4)
  (hd:∀rP H',Pv xs.length rP H'->Q (.ref D) H'):CompEL K a g tt te own ix σ H1 Q D:=by
 refine#[λi m rP H=>m=xs.length - i/\i<=xs.length/\Pv i rP H,#[xs.length,by simp,ay _,h0],?_];rintro i m rP H' ⟨rfl,hi,p⟩;have q:=hl i rP H' hi p;by_cases hlt:i<xs.length
 ·refine .inr #[#[xs,xs[i],q,by simp [hlt]],λv H2 y=>?_];obtain⟨p',x,hp,hx,ev,eH⟩:=y;subst ev eH;exact hs i x rP H' p' (hx xs q) p hp
 ·have e:i=xs.length:=⋯;subst e;exact .inl #[#[xs,q,rfl],hd rP H' p]
end
section
variable{X:Cx}
end
open PySem PySem.W PyProof.Rows
noncomputable def X7(lt:Nat->Nat->Bool){α:Type}:rH α->α
 | .ret a=>a
 | .ask i j k=>X7 lt (k (lt i j))
def Kok(lt:Nat->Nat->Bool)(n:Nat){α:Type}:rH α->(α->Prop)->Prop
 | .ret a,Q=>Q a
 | .ask i j k,Q=>i<n/\j<n/\Kok lt n (k (lt i j)) Q
section
variable{lt:Nat->Nat->Bool}{n:Nat}{α β:Type}
theorem Kok.mono{Q Q':α->Prop}(hq:∀a,Q a->Q' a):∀(t:rH α),Kok lt n t Q->Kok lt n t Q'
 | .ret a,h=>hq a h
 | .ask _ _ k,h=>#[h.1,h.2.1,Kok.mono hq (k _) h.2.2]
theorem Kok.bind{f:α->rH β}{Q:β->Prop}:∀(t:rH α),Kok lt n t (λa=>Kok lt n (f a) Q)->Kok lt n (t.bind f) Q
 | .ret _,h=>h
 | .ask _ _ k,h=>#[h.1,h.2.1,Kok.bind (k _) h.2.2]
theorem Kok.run{Q:α->Prop}:∀(t:rH α),Kok lt n t Q->Q (X7 lt t)
 | .ret _,h=>h
 | .ask _ _ k,h=>Kok.run (k _) h.2.2
theorem Kok.same{Q:α->Prop}:∀(t:rH α),Kok lt n t Q->Kok lt n t (λa=>a=X7 lt t)
 | .ret _,h=>rfl
 | .ask _ _ k,h=>#[h.1,h.2.1,Kok.same (k _) h.2.2]
theorem Kok.wp{cmp:Nat->Nat->(Bool->nY->Prop)->nY->Prop}{I:nY->Prop}(hc:∀i j C s,i<n->j<n->I s->(∀s',I s'->C (lt i j) s')->cmp i j C s){Q:α->Prop}{R:α->nY->Prop}
  (hR:∀a s,Q a->I s->R a s):∀(t:rH α) (s:nY),I s->Kok lt n t Q->t.kasWp cmp R s
 | .ret a,s,hI,h=>hR a s h hI
 | .ask i j k,s,hI,h=>hc i j _ s h.1 h.2.1 hI λs' hI'=>Kok.wp hc hR (k _) s' hI' h.2.2
end
structure Wk(lt:Nat->Nat->Bool):Prop where
 asym:∀a b,lt a b=rL->lt b a=rM
 ntr:∀a b c,lt b a=rM->lt c b=rM->lt c a=rM
section
variable{lt:Nat->Nat->Bool}{n:Nat}
abbrev Lq(lt:Nat->Nat->Bool)(a b:Nat):Prop:=lt b a=rM
theorem Wk.refl(W:Wk lt)(a:Nat):Lq lt a a:=by
 cases h:lt a a with
 | false=>exact h
 | true=>exact absurd h (by rw[W.asym a a h];decide)
noncomputable abbrev pg(p:Array Nat)(i:Nat):Nat:=p.getD i 0
theorem Xy(p:Array Nat)(i:Nat):pg p i=(p[i]?).getD 0:=by simp [pg,Array.getD_eq_getD_getElem?]
def Up(lt:Nat->Nat->Bool)(p:Array Nat)(m:Nat):Prop:=∀i j,i<j->j<m->Lq lt (pg p i) (pg p j)
def Dn(lt:Nat->Nat->Bool)(p:Array Nat)(m:Nat):Prop:=∀i j,i<j->j<m->Lq lt (pg p j) (pg p i)
def Rg(n:Nat)(p:Array Nat):Prop:=p.toList.Perm (aR n)
theorem Rg.size{p:Array Nat}(h:Rg n p):p.size=n:=by have:=h.length_eq;simpa using this
theorem Rg.bd{p:Array Nat}(h:Rg n p){i:Nat}(hi:i<n):pg p i<n:=by
 have hs:=h.size;have hi':i<p.size:=⋯;have e:pg p i=p[i]:=by simp [pg,fh,hi']
 rw[e];have hm:p[i] ∈ p.toList:=Array.mem_toList_iff.mpr (Array.getElem_mem hi');exact rW.mp (h.mem_iff.mp hm)
theorem wJ{p:Array Nat}{i j:Nat}(hj:j<=p.size)(k:Nat):pg (kas_rev p i j) k=if i<=k/\k<j then pg p (i+j - 1 - k)else pg p k:=by
 rw[Xy,kas_rev,getElem?_mirror_all hj];split <;> rw[Xy]
theorem Rg.rev{p:Array Nat}(h:Rg n p)(i j:Nat):Rg n (kas_rev p i j):=(Array.perm_iff_toList_perm.mp (mirror_perm p i j _)).trans h
theorem Rg.bub{p:Array Nat}(h:Rg n p)(i j:Nat):Rg n (bubble p i j):=(Array.perm_iff_toList_perm.mp (bubble_perm p i j)).trans h
theorem Ww(W:Wk lt){p:Array Nat}(hp:Rg n p):∀(f k:Nat),1<=k->k+f<=n->Up lt p k->Kok lt n (kas_asc p f k) (λm=>k<=m/\m<=k+f/\Up lt p m/\(m=k+f\/lt (pg p m) (pg p (m - 1))=rL))
 | 0,k,h1,h2,hu=>#[⋯,⋯,hu,Or.inl ⋯]
 | f+1,k,h1,h2,hu=>by
  refine#[hp.bd ⋯,hp.bd ⋯,?_];rcases bW (lt (pg p k) (pg p (k - 1)))with hc | hc
  ·show Kok lt n (if lt (pg p k) (pg p (k - 1))=rL then .ret k else _) _;rw[if_pos hc];exact#[⋯,⋯,hu,Or.inr hc]
  ·show Kok lt n (if lt (pg p k) (pg p (k - 1))=rL then .ret k else _) _;rw[if_neg (by rw[hc];decide)];refine (Ww W hp f (k+1) ⋯ ⋯ λi j hij hj=>?_).mono (λm hm=>#[⋯,⋯,hm.2.2.1,?_]) _
   ·by_cases e:j=k
    ·subst e;by_cases e2:i=j - 1
     ·subst e2;exact hc
     ·exact W.ntr _ _ _ (hu i (j - 1) ⋯ ⋯) hc
    ·exact hu i j hij ⋯
   ·rcases hm.2.2.2 with h | h
    ·exact Or.inl ⋯
    ·exact Or.inr h
def Ev(lt:Nat->Nat->Bool)(p:Array Nat)(a b:Nat):Prop:=∀i j,a<=i->i<b->a<=j->j<b->Lq lt (pg p i) (pg p j)
theorem QD{p:Array Nat}{m q:Nat}(hm:m<=p.size)(hq:q+1<=m)(hd:Dn lt p m)(he:Ev lt p (m - (q+1)) m):Dn lt (kas_rev p (m - (q+1)) m) m:=by
 intro i j hij hj;rw[wJ hm,wJ hm];by_cases h1:m - (q+1)<=i
 ·rw[if_pos (show m - (q+1)<=i/\i<m by lia),if_pos (show m - (q+1)<=j/\j<m by lia)];exact he _ _ ⋯ ⋯ ⋯ ⋯
 ·rw[if_neg (show ¬ (m - (q+1)<=i/\i<m) by lia)];split
  ·exact hd _ _ ⋯ ⋯
  ·exact hd _ _ ⋯ ⋯
theorem je(W:Wk lt):∀(f:Nat) (p:Array Nat) (k q:Nat),Rg n p->1<=k->k+f<=n->q+1<=k->Dn lt p k->Ev lt p (k - (q+1)) k ->
  Kok lt n (kas_desc f p k q) (λr=>Rg n r.1/\k<=r.2.1/\r.2.1<=k+f/\r.2.2+1<=r.2.1/\Dn lt r.1 r.2.1/\Ev lt r.1 (r.2.1 - (r.2.2+1)) r.2.1)
 | 0,p,k,q,hp,h1,h2,hq,hd,he=>#[hp,al _,Nat.le_add_right _ _,hq,hd,he]
 | f+1,p,k,q,hp,h1,h2,hq,hd,he=>by
  have hps:=hp.size;refine#[hp.bd ⋯,hp.bd ⋯,?_]
  have one:∀(p:Array Nat),Ev lt p (k+1 - (0+1)) (k+1):=λp i j a b c d=>by
   have:i=j:=⋯;subst this;exact W.refl _
  rcases bW (lt (pg p k) (pg p (k - 1)))with hc | hc
  ·show Kok lt n (if lt (pg p k) (pg p (k - 1))=rL then _ else _) _;rw[if_pos hc];have hle:Lq lt (pg p k) (pg p (k - 1)):=W.asym _ _ hc;split
   ·rename_i hq0;refine (je W f _ (k+1) 0 (hp.rev _ _) ⋯ ⋯ ⋯ (λi j hij hj=>?_) (one _)).mono (λr hr=>#[hr.1,⋯,⋯,hr.2.2.2]) _;by_cases e:j=k
    ·subst e;rw[wJ ⋯,wJ ⋯,if_neg ⋯];split
     ·exact W.ntr _ _ _ hle (he _ _ ⋯ ⋯ ⋯ ⋯)
     ·exact W.ntr _ _ _ hle (hd _ _ ⋯ ⋯)
    ·exact QD ⋯ hq hd he i j hij ⋯
   ·refine (je W f _ (k+1) 0 hp ⋯ ⋯ ⋯ (λi j hij hj=>?_) (one _)).mono (λr hr=>#[hr.1,⋯,⋯,hr.2.2.2]) _;by_cases e:j=k
    ·subst e;by_cases e2:i=j - 1
     ·subst e2;exact hle
     ·exact W.ntr _ _ _ hle (hd i (j - 1) ⋯ ⋯)
    ·exact hd i j hij ⋯
  ·show Kok lt n (if lt (pg p k) (pg p (k - 1))=rL then _ else _) _;rw[if_neg (by rw[hc];decide)];refine#[hp.bd ⋯,hp.bd ⋯,?_];rcases bW (lt (pg p (k - 1)) (pg p k))with hd2 | hd2
   ·show Kok lt n (if lt (pg p (k - 1)) (pg p k)=rL then _ else _) _;rw[if_pos hd2];exact#[hp,al _,Nat.le_add_right _ _,hq,hd,he]
   ·show Kok lt n (if lt (pg p (k - 1)) (pg p k)=rL then _ else _) _;rw[if_neg (by rw[hd2];decide)];refine (je W f _ (k+1) (q+1) hp ⋯ ⋯ ⋯ (λi j hij hj=>?_) (λi j a b c d=>?_)).mono (λr hr=>#[hr.1,⋯,⋯,hr.2.2.2]) _
    ·by_cases e:j=k
     ·subst e;by_cases e2:i=j - 1
      ·subst e2;exact hd2
      ·exact W.ntr _ _ _ hd2 (hd i (j - 1) ⋯ ⋯)
     ·exact hd i j hij ⋯
    ·have b1:∀i,k+1 - (q+1+1)<=i->i<k->Lq lt (pg p i) (pg p (k - 1))/\Lq lt (pg p (k - 1)) (pg p i):=λi a b=>#[he _ _ ⋯ ⋯ ⋯ ⋯,he _ _ ⋯ ⋯ ⋯ ⋯];by_cases e:j=k
     ·subst e;by_cases e3:i=j
      ·subst e3;exact W.refl _
      ·exact W.ntr _ _ _ (b1 i ⋯ ⋯).1 hc
     ·by_cases e3:i=k
      ·subst e3;exact W.ntr _ _ _ hd2 (b1 j ⋯ ⋯).2
      ·exact he _ _ ⋯ ⋯ ⋯ ⋯
theorem YB(W:Wk lt){p:Array Nat}{m:Nat}(hp:Rg n p)(h1:1<=m)(hm:m<=n)(hd:Dn lt p m):Kok lt n (kas_tail3 m n p) (λr=>Rg n r.2/\1<=r.1/\r.1<=n/\Up lt r.2 r.1):=by
 have hps:=hp.size;unfold kas_tail3;refine Kok.bind _ ((Ww W (hp.rev 0 m) (n - m) m h1 ⋯ λi j hij hj=>?_).mono (λk hk=>#[hp.rev 0 m,by show 1<=k;lia,by show k<=n;lia,hk.2.2.1]) _);rw[wJ ⋯,wJ ⋯,if_pos ⋯,if_pos ⋯];exact hd _ _ ⋯ ⋯
theorem uE(W:Wk lt){p:Array Nat}{m:Nat}(hp:Rg n p)(h1:1<=m)(hm:m+1<=n)(hd:Dn lt p (m+1)):Kok lt n (kas_descPart m n p) (λr=>Rg n r.2/\1<=r.1/\r.1<=n/\Up lt r.2 r.1):=by
 unfold kas_descPart;refine Kok.bind _ ((je W (n - (m+1)) p (m+1) 0 hp ⋯ ⋯ ⋯ hd λi j a b c d=>?_).mono (λr hr=>?_) _)
 ·have:i=j:=⋯;subst this;exact W.refl _
 ·obtain⟨r1,r2,r3,r4,r5,r6⟩:=hr;have hs:=r1.size
  (try dsimp only)
  split
  ·exact YB W (r1.rev _ _) ⋯ ⋯ (QD ⋯ r4 r5 r6)
  ·exact YB W r1 ⋯ ⋯ r5
theorem U4(W:Wk lt){p:Array Nat}(hp:Rg n p)(hn:1<=n):Kok lt n (kas_count n p) (λr=>Rg n r.2/\1<=r.1/\r.1<=n/\Up lt r.2 r.1):=by
 have hps:=hp.size;unfold kas_count;refine Kok.bind _ ((Ww W hp (n - 1) 1 (al _) ⋯ λi j hij hj=>by lia).mono (λm hm=>?_) _);obtain⟨m1,m2,mu,ms⟩:=hm;by_cases e:(m == n)=rL
 ·rw[if_pos e];exact#[hp,by show 1<=m;lia,by show m<=n;lia,mu]
 ·rw[if_neg e];have hne:m≠n:=λh=>e (by rw[h];exact beq_self_eq_true _)
  have hlt:lt (pg p m) (pg p (m - 1))=rL:=by
   rcases ms with h | h
   ·lia
   ·exact h
  have hle:Lq lt (pg p m) (pg p (m - 1)):=W.asym _ _ hlt;by_cases h1:m > 1
  ·rw[if_pos h1];refine#[hp.bd ⋯,hp.bd ⋯,?_];rcases bW (lt (pg p 0) (pg p (m - 1)))with hc | hc
   ·show Kok lt n (if lt (pg p 0) (pg p (m - 1))=rL then _ else _) _;rw[if_pos hc];exact#[hp,by show 1<=m;lia,by show m<=n;lia,mu]
   ·show Kok lt n (if lt (pg p 0) (pg p (m - 1))=rL then _ else _) _;rw[if_neg (by rw[hc];decide)]
    have u0:∀i,i<m->Lq lt (pg p 0) (pg p i):=λi hi=>by
     by_cases h:i=0
     ·subst h;exact W.refl _
     ·exact mu 0 i ⋯ hi
    have ul:∀i,i<m->Lq lt (pg p i) (pg p (m - 1)):=λi hi=>by
     by_cases h:i=m - 1
     ·subst h;exact W.refl _
     ·exact mu i (m - 1) ⋯ ⋯
    have ev:∀i j,i<m->j<m->Lq lt (pg p i) (pg p j):=λi j hi hj=>W.ntr _ _ _ (ul i hi) (W.ntr _ _ _ hc (u0 j hj));refine uE W (hp.rev 0 m) ⋯ ⋯ λi j hij hj=>?_;by_cases h:j=m
    ·subst h;rw[wJ ⋯,wJ ⋯,if_neg ⋯,if_pos ⋯];exact W.ntr _ _ _ hle (ev _ _ ⋯ ⋯)
    ·rw[wJ ⋯,wJ ⋯,if_pos ⋯,if_pos ⋯];exact ev _ _ ⋯ ⋯
  ·rw[if_neg h1];refine uE W hp ⋯ ⋯ λi j hij hj=>?_;have h0:i=m - 1:=⋯;have h1:j=m:=⋯;subst h0 h1;exact hle
theorem jI(W:Wk lt){p:Array Nat}(hp:Rg n p){k:Nat}(hk:k<n)(hu:Up lt p k):∀(f l r:Nat),l<=r->r<=k->r - l<=f->(∀i,i<l->Lq lt (pg p i) (pg p k))->(∀i,r<=i->i<k->Lq lt (pg p k) (pg p i)) ->
  Kok lt n (kas_place p k f l r) (λm=>m<=k/\(∀i,i<m->Lq lt (pg p i) (pg p k))/\(∀i,m<=i->i<k->Lq lt (pg p k) (pg p i)))
 | 0,l,r,hl,hr,hf,h1,h2=>by
  have:l=r:=⋯;subst this;exact#[hr,h1,h2]
 | f+1,l,r,hl,hr,hf,h1,h2=>by
  unfold kas_place;by_cases e:l ≥ r
  ·rw[if_pos e];have:l=r:=⋯;subst this;exact#[hr,h1,h2]
  ·rw[if_neg e];refine#[hp.bd hk,hp.bd ⋯,?_];rcases bW (lt (pg p k) (pg p ((l+r) / 2)))with hc | hc
   ·show Kok lt n (if lt (pg p k) (pg p ((l+r) / 2))=rL then _ else _) _;rw[if_pos hc];refine jI W hp hk hu f l ((l+r) / 2) ⋯ ⋯ ⋯ h1 λi hi hik=>?_;by_cases e2:i=(l+r) / 2
    ·subst e2;exact W.asym _ _ hc
    ·exact W.ntr _ _ _ (W.asym _ _ hc) (hu _ _ ⋯ hik)
   ·show Kok lt n (if lt (pg p k) (pg p ((l+r) / 2))=rL then _ else _) _;rw[if_neg (by rw[hc];decide)];refine jI W hp hk hu f ((l+r) / 2+1) r ⋯ hr ⋯ (λi hi=>?_) h2;by_cases e2:i=(l+r) / 2
    ·subst e2;exact hc
    ·exact W.ntr _ _ _ (hu i ((l+r) / 2) ⋯ ⋯) hc
theorem Jo{p:Array Nat}{k l:Nat}(hk:k<p.size)(hl:l<=k)(i:Nat):pg (bubble p k (k - l)) i=if i=l then pg p k else if l<i/\i<=k then pg p (i - 1)else pg p i:=by
 have e:k - (k - l)=l:=⋯;rw[Xy,getElem?_bubble hk (k - l) ⋯,e];by_cases h:i=l
 ·rw[if_pos h,if_pos h];exact (Xy p k).symm
 ·rw[if_neg h,if_neg h];by_cases h':l<i/\i<=k
  ·rw[if_pos h',if_pos h'];exact (Xy p (i - 1)).symm
  ·rw[if_neg h',if_neg h'];exact (Xy p i).symm
theorem QP(W:Wk lt):∀(f:Nat) (p:Array Nat) (k:Nat),Rg n p->k+f=n->Up lt p k->Kok lt n (kas_bin f p k) (λp'=>Rg n p'/\Up lt p' n)
 | 0,p,k,hp,hk,hu=>by
  have:k=n:=⋯;subst this;exact#[hp,hu]
 | f+1,p,k,hp,hk,hu=>by
  have hps:=hp.size;refine Kok.bind _ ((jI W hp ⋯ hu k 0 k ⋯ ⋯ ⋯ (λi hi=>by lia) (λi h1 h2=>by lia)).mono (λl hl=>?_) _);obtain⟨l1,l2,l3⟩:=hl;refine QP W f _ (k+1) (hp.bub _ _) ⋯ λi j hij hj=>?_;rw[Jo ⋯ l1,Jo ⋯ l1];by_cases h1:i=l
  ·rw[if_pos h1,if_neg ⋯,if_pos ⋯];exact l3 _ ⋯ ⋯
  ·rw[if_neg h1];by_cases h2:j=l
   ·rw[if_pos h2,if_neg ⋯];exact l2 _ ⋯
   ·rw[if_neg h2];by_cases h3:l<i/\i<=k
    ·rw[if_pos h3,if_pos ⋯];exact hu _ _ ⋯ ⋯
    ·rw[if_neg h3];by_cases h4:l<j/\j<=k
     ·rw[if_pos h4];by_cases h5:i=j - 1
      ·lia
      ·exact hu _ _ ⋯ ⋯
     ·rw[if_neg h4];exact hu _ _ ⋯ ⋯
theorem ju(W:Wk lt)(hn:1<=n):Kok lt n (kas_sort n) (λp=>Rg n p/\Up lt p n):=by
 unfold kas_sort;refine Kok.bind _ ((U4 W (p:=aN (aR n)) (by unfold Rg;exact List.Perm.refl _) hn).mono (λr hr=>?_) _);obtain⟨r1,r2,r3,r4⟩:=hr
 (try dsimp only)
 split
 ·have:max r.1 1=r.1:=⋯;rw[this];exact QP W _ _ _ r1 ⋯ r4
 ·have:r.1=n:=⋯;rw[this]at r4;exact#[r1,r4]
end
noncomputable def srt{α:Type}(lt:α->α->Bool)(d:α)(xs:List α):List α :=
 if xs.length<2 then xs else (X7 (λi j=>lt (xs.getD i d) (xs.getD j d)) (kas_sort xs.length)).toList.map λi=>xs.getD i d
structure WkO{α:Type}(lt:α->α->Bool):Prop where
 asym:∀a b,lt a b=rL->lt b a=rM
 ntr:∀a b c,lt b a=rM->lt c b=rM->lt c a=rM
theorem Ye{α:Type}{lt:α->α->Bool}(W:WkO lt)(d:α)(xs:List α):(srt lt d xs).Perm xs/\(srt lt d xs).Pairwise λa b=>lt b a=rM:=by
 unfold srt;split
 ·rename_i h;refine#[List.Perm.refl _,?_]
  match xs,h with
  | [],_=>exact List.Pairwise.nil
  | [a],_=>exact eM _ _
  | _::_::_,h=>exact absurd h (by simp)
 ·rename_i h;have W':Wk (λi j=>lt (xs.getD i d) (xs.getD j d)):=#[λa b=>W.asym _ _,λa b c=>W.ntr _ _ _];obtain⟨h1,h2⟩:=Kok.run _ (ju (n:=xs.length) W' ⋯);generalize X7 (λi j=>lt (xs.getD i d) (xs.getD j d)) (kas_sort xs.length)=p at h1 h2
  have e:(aR xs.length).map (λi=>xs.getD i d)=xs:=by
   refine List.ext_getElem (by simp) λi a b=>?_;have hb:i<xs.length:=by simpa using b
   simp [hb]
  refine#[(h1.map (λi=>xs.getD i d)).trans (by rw[e]),?_];rw[List.pairwise_map,List.pairwise_iff_getElem];intro i j hi hj hij;have hs:=h1.size;have hi':i<p.size:=by simpa using hi
  have hj':j<p.size:=by simpa using hj
  have q:=h2 i j hij ⋯;have ei:pg p i=p.toList[i]:=by simp [pg,fh,hi']
  have ej:pg p j=p.toList[j]:=by simp [pg,fh,hj']
  rw[ei,ej]at q;exact q
theorem Vv{lt lt':Nat->Nat->Bool}{n:Nat}{α:Type}{Q:α->Prop}(h:∀i j,i<n->j<n->lt i j=lt' i j):∀t:rH α,Kok lt n t Q->X7 lt t=X7 lt' t
 | .ret _,_=>rfl
 | .ask i j k,q=>by
  show X7 lt (k (lt i j))=X7 lt' (k (lt' i j));rw[<- h i j q.1 q.2.1];exact Vv h _ q.2.2
theorem QN{α:Type}{lt lt':α->α->Bool}(W:WkO lt){d d':α}{xs:List α}(h:∀a ∈ xs,∀b ∈ xs,lt a b=lt' a b):srt lt d xs=srt lt' d' xs:=by
 have g:∀i,i<xs.length->∃a ∈ xs,xs.getD i d=a/\xs.getD i d'=a:=λi hi=>#[xs[i],em hi,by rw[aa,ae hi];rfl,by rw[aa,ae hi];rfl];unfold srt;split
 ·rfl
 ·rename_i hl;have W':Wk (λi j=>lt (xs.getD i d) (xs.getD j d)):=#[λa b=>W.asym _ _,λa b c=>W.ntr _ _ _];have ok:=ju (n:=xs.length) W' ⋯
  have e:=Vv (lt':=λi j=>lt' (xs.getD i d') (xs.getD j d')) (λi j hi hj=>by
   obtain⟨a,ha,a1,a2⟩:=g i hi;obtain⟨b,hb,b1,b2⟩:=g j hj;show lt (xs.getD i d) (xs.getD j d)=lt' (xs.getD i d') (xs.getD j d');rw[a1,a2,b1,b2]
   exact h a ha b hb) _ ok
  rw[<- e];obtain⟨h1,_⟩:=Kok.run _ ok;refine bA λi hi=>?_;obtain⟨a,_,a1,a2⟩:=g i (rW.mp (h1.mem_iff.mp hi));rw[a1,a2]
theorem Wa{α β:Type}{lt:β->β->Bool}(f:α->β)(d:α)(xs:List α):srt lt (f d) (xs.map f)=(srt (λa b=>lt (f a) (f b)) d xs).map f:=by
 have e:∀i,(xs.map f).getD i (f d)=f (xs.getD i d):=λi=>by
  rw[aa,aa,ax];cases xs[i]? <;> rfl
 unfold srt;rw[ac];split
 ·rfl
 ·erw[e,bF]
  rfl
end L3
namespace L3
structure KeyFam(α:Type) where
 dec:α->List D
 lt:α->α->Bool
 fst:Bool
 d0:α
structure KeyFam.Ok{α:Type}(F:KeyFam α):Prop where
 w:WkO F.lt
 eq:∀a b,xj (F.dec a) (F.dec b)=F.lt a b
 ok:∀a b,qT (F.dec a) (F.dec b)
 dp:∀a,wI (F.dec a)<40
 sh:∀a,∃d r,F.dec a=d::r/\((F.fst=rL/\∃n,d=.int n)\/(F.fst=rM/\∃l,d=.tup l))
section
variable{X:Cx}{rN:List (nW × oF)}{σ:L2.St}{H:Hp}{s:nY}
theorem Inv.repin{b:nW}{o o':oF}{h':oo}(I:Inv X (rN ++ [(b,o)]) σ H s)(hs:X.s₀.heap.objs.size<=b)(hn:∀p ∈ X.pn ++ rN,p.1≠b)(sb:Heap.SameBut b s.heap h')(ho:h'.get? b=rJ o')(hd:∀v,o'.data≠.cell v) :
  Inv X (rN ++ [(b,o')]) σ H { s with heap:=h' }:=by
 have I1:Inv X rN σ H s:=I.unpinned;obtain⟨p1,p2,p3,p4,p5⟩:=I.pin (b,o) (aD _ (aD _ (rV.mpr rfl)))
 have I2:Inv X rN σ H { s with heap:=h' }:=Inv.turns I1 (fp:=[b]) (t':=s.toks) (λb' u hb e=>(sb.2 b' (by simpa using hb)).trans e) λb' hb=>by
  have e:b'=b:=by simpa using hb
  subst e;refine#[p2,p3,p4,.inr hs,λx c e z=>?_,hn];obtain⟨v,o1,ho1,hd1⟩:=I.cell x c e;subst z;rw[p1]at ho1;cases ho1;exact p5 v hd1
 exact I2.pins_of λp hp=>by
  rcases rT.mp hp with z | z
  ·exact I2.pin p (aD _ z)
  ·have e:p=(b,o'):=by simpa using z
   subst e;exact#[ho,p2,p3,p4,hd]
theorem Inv.newpin{b:nW}{o:oF}(I:Inv X rN σ H s)(hf:xG X rN H b)(ho:s.heap.get? b=rJ o)(hd:∀v,o.data≠.cell v):Inv X (rN ++ [(b,o)]) σ H s :=
 I.pins_of λp hp=>by
  rcases rT.mp hp with z | z
  ·exact I.pin p (aD _ z)
  ·have e:p=(b,o):=by simpa using z
   subst e;exact#[ho,hf.1,hf.2.1,hf.2.2.1,hd]
theorem zbN(I:Inv X rN σ H s){A:oj}{b:Bool}{Q:Bool->nY->Prop}(hu:A.units+50<cLine):∀(l m:List D) (xs ys:List V) (its its':List nX) (i:Nat),Iss X.K H l xs->Iss X.K H m ys->Vals xs its->Vals ys its'->qT l m->wI l<40 ->
  (b=rL->i=0->(∃n r,l=.int n::r)/\∃n r,m=.int n::r)->Q (xj l m) s->PySem.W.KatLex X.prog X.w A b (decide (its.length<its'.length)) Q (its.zip its') i s
 | [],m,xs,ys,its,its',i,h1,h2,r1,r2,ok,hd,hb,q=>by
  erw[Iss]at h1
  subst h1;cases r1
  have e:xj [] m=decide (([]:List nX).length<its'.length):=by
   have e1:=h2.len;have e2:=r2.length;have e3:m.length=its'.length:=⋯;rw[<- e3]
   cases m with
   | nil=>simp [xj]
   | cons _ _=>simp [xj]
  rw[e]at q;rw[List.zip_nil_left];exact dH q
 | d::l,[],xs,ys,its,its',i,h1,h2,r1,r2,ok,hd,hb,q=>by
  erw[Iss]at h2
  subst h2;cases r2
  erw[xj]at q
  rw[fB];exact dH (by simpa using q)
 | d::l,e::m,xs,ys,its,its',i,h1,h2,r1,r2,ok,hd,hb,q=>by
  erw[Iss]at h1 h2
  obtain⟨x,xr,rfl,hx,hxr⟩:=h1;obtain⟨y,yr,rfl,hy,hyr⟩:=h2
  cases r1 with | cons rx rxr =>
  cases r2 with | cons ry ryr =>
  erw[qT]at ok
  erw[wI]at hd
  rename_i u us v vs;rw[cF];refine fO (vW I 45 A d e x y u v ⋯ ⋯ hx hy rx ry X.prog X.w _ _ ?_)
  cases he:eqD d e with
  | true =>
   refine fX ?_;have:=zbN I (b:=b) hu l m xr yr us vs (i+1) hxr hyr rxr ryr ok.2 ⋯ (λ_ z=>absurd z ⋯) (by simpa only[xj,he,if_true] using q);simpa using this
  | false =>
   refine PySem.W.kat_no ?_;have q':Q (ltD d e) s:=by simpa only[xj,he,aU,if_false] using q
   by_cases hbi:(b && i == 0)=rL
   ·rw[hbi]
    erw[bE,beq_iff_eq]at hbi
    obtain⟨⟨n,r,e1⟩,n',r',e2⟩:=hb hbi.1 hbi.2;cases e1;cases e2
    erw[Is]at hx hy
    subst hx hy;obtain⟨t,rfl⟩:=rx;obtain⟨t',rfl⟩:=ry
    erw[ltD]at q'
    exact oneLt_int q'
   ·rw[show (b && i == 0)=rM by simpa using hbi];exact fY _ _ (YS I 45 A d e x y u v ⋯ ⋯ ok.1 hx hy rx ry X.prog X.w _ _ q')
theorem Kc(I:Inv X rN σ H s){A:oj}{b:Bool}{Q:Bool->nY->Prop}{E:nX->nY->Prop}(hu:A.units+50<cLine){l m:List D}{x y:V}{u v:nX}(hx:Is X.K H (.tup l) x)(hy:Is X.K H (.tup m) y)(rx:RelV x u)(ry:RelV y v)
  (ok:qT l m) (hd:wI l<40) (hb:b=rL->(∃n r,l=.int n::r)/\∃n r,m=.int n::r) (q:Q (xj l m) s):oa (model X.prog X.w) A (keyLt' (tuples' b) u v) Q E s:=by
 erw[Is]at hx hy
 obtain⟨a,xs,rfl,h1,h2⟩:=hx;obtain⟨c,ys,rfl,g1,g2⟩:=hy;cases rx;cases ry;obtain⟨its,r,⟨o,ho,hoc,n,hod⟩,_⟩:=I.tuple h1;obtain⟨its',r',⟨o',ho',hoc',n',hod'⟩,_⟩:=I.tuple g1;refine PySem.W.kat_lt ho hod ho' hod' ?_;have:=zbN I (A:=A) (b:=b) (Q:=Q) hu l m xs ys its its' 0 h2 g2 r r' ok hd (λz _=>hb z) q;simpa using this
theorem Q6{α:Type}{F:KeyFam α}(FO:F.Ok)(I:Inv X rN σ H s){M:pY}:∀(rs:List α) (rP:List V) (ks:List nX),Iss X.K H (rs.map λa=>.tup (F.dec a)) rP->Vals rP ks ->
  ∃fs,PySem.W.KatTups s.heap ks fs/\fs.length=rs.length/\∀v ∈ fs,PySem.W.Looks M s.heap (typeOf v) (.type (if F.fst=rL then "int" else "tuple"))
 | [],rP,ks,h,r=>by
  erw[aF,Iss]at h
  subst h;cases r;exact#[[],PySem.W.KatTups.nil,rfl,λv hv=>by cases hv]
 | a::rs,rP,ks,h,r=>by
  erw[am,Iss]at h
  obtain⟨x,xr,rfl,hx,hxr⟩:=h
  cases r with | cons rx rxr =>
  rename_i u us;obtain⟨fs,t1,t2,t3⟩:=Q6 FO I (M:=M) rs xr us hxr rxr
  erw[Is]at hx
  obtain⟨c,xs,rfl,h1,h2⟩:=hx;cases rx;obtain⟨its,ri,⟨o,ho,hoc,n,hod⟩,_⟩:=I.tuple h1;obtain⟨d,dr,ed,hsh⟩:=FO.sh a;rw[ed]at h2
  erw[Iss]at h2
  obtain⟨y,yr,rfl,hy,_⟩:=h2
  cases ri with | cons ry rir =>
  rename_i v vs;refine#[v::fs,PySem.W.KatTups.cons ho hoc hod (by simp) t1,by simp [t2],λz hz=>?_];rcases rS.mp hz with e | hz
  ·subst e;rcases hsh with ⟨hf,n',rfl⟩ | ⟨hf,l,rfl⟩
   ·rw[if_pos hf]
    erw[Is]at hy
    subst hy;obtain⟨t,rfl⟩:=ry;exact PySem.W.Looks.of_pure rfl
   ·rw[if_neg (by rw[hf];decide)]
    erw[Is]at hy
    obtain⟨c',xs',rfl,g1,_⟩:=hy;cases ry;obtain⟨its',ri',⟨o',ho',hoc',n',hod'⟩,_⟩:=I.tuple g1;rw[<- hoc'];exact (PySem.W.Looks.ld ho').andThen .now
  ·exact t3 z hz
end
def Xg{α:Type}(K:nV)(F:KeyFam α)(xs:List V)(Q:VK):List V->Hp->Prop:=λrP H'=>∃rs:List α,Iss K H' (rs.map λa=>.tup (F.dec a)) rP /\
 ∀ys:List (α × V),ys=srt (λp q=>F.lt p.1 q.1) (F.d0,.non) (rs.zip xs)->∀D,H' D=rK->Q (.ref D) (upd H' D (.lst (ys.map (·.2))))
section
variable{X:Cx}{rN:List (nW × oF)}{σ:L2.St}{H:Hp}{s:nY}
theorem Inv.fp_of_pin{b:nW}{o:oF}(I:Inv X (rN ++ [(b,o)]) σ H s)(hs:X.s₀.heap.objs.size<=b)(hn:∀p ∈ X.pn ++ rN,p.1≠b):xG X rN H b:=by
 obtain⟨p1,p2,p3,p4,p5⟩:=I.pin (b,o) (aD _ (aD _ (rV.mpr rfl)));refine#[p2,p3,p4,.inr hs,λx c e z=>?_,hn];obtain⟨v,o1,ho1,hd1⟩:=I.cell x c e;subst z;rw[p1]at ho1;cases ho1;exact p5 v hd1
theorem Inv.at_pin{b:nW}{o:oF}(I:Inv X (rN ++ [(b,o)]) σ H s):s.heap.get? b=rJ o:=(I.pin (b,o) (aD _ (aD _ (rV.mpr rfl)))).1
theorem yG{c:String}{xs:Array nX}{n:Nat}:∀v,(om c xs n).data≠.cell v:=λv z=>by cases z
theorem Ja{D kS:nW}{e e1:Nat}{st:SortSt}{ks out:List nX}{A:oj}{E:nX->nY->Prop}{P:PySem.Fin->nY->Prop}(I:Inv X ((rN ++ [(D,om "list" #[] e1)]) ++ [(kS,om "list" (aN ks) e)]) σ H s)
  (hD:X.s₀.heap.objs.size<=D) (hK:X.s₀.heap.objs.size<=kS) (nD:∀p ∈ X.pn ++ rN,p.1≠D) (nK:∀p ∈ X.pn ++ (rN ++ [(D,om "list" #[] e1)]),p.1≠kS) (hkz:ks.length<64)
  (hout:(arrOf st).map (·.2)=aN out) (hoz:out.length<64) (hf:failedOf st=rK) (h:∀s' c,Inv X (rN ++ [(D,om "list" (aN out) c)]) σ H s'->P (.done (.ret .none)) s') :
  oa (model X.prog X.w) A (ksk_tail D rM e1 (.ref kS) st) P E s:=by
 have pk:=Inv.at_pin I;have s1:=Heap.SameBut.update s.heap kS (Obj.mapSeq λ_=>(#[]:Array nX));obtain⟨ck,hck⟩:∃ck,(s.heap.update kS (Obj.mapSeq λ_=>(#[]:Array nX))).get? kS=rJ (om "list" #[] ck):=#[_,get?_update_seq pk λ_=>#[]];have I2:=(Inv.repin I hK nK s1 hck yG).unpinned;have pd:=Inv.at_pin I2;have s2:=Heap.SameBut.update (s.heap.update kS (Obj.mapSeq λ_=>(#[]:Array nX))) D (Obj.mapSeq λ_=>aN out);obtain⟨c2,hc2⟩:∃c2,((s.heap.update kS (Obj.mapSeq λ_=>(#[]:Array nX))).update D (Obj.mapSeq λ_=>aN out)).get? D=rJ (om "list" (aN out) c2):=#[_,get?_update_seq pd λ_=>aN out];have I3:=Inv.repin I2 hD nD s2 hc2 yG;unfold ksk_tail
 (try dsimp only)
 rw[hout];refine nP (listUpdate_at pk rfl ?_ (by rw[ah,oq];lia) (ay _));refine nP (oV ?_);refine nP (seqEpoch_at pd rfl ?_);refine nP (listUpdate_at pd rfl ?_ (ay _) (by erw[aU,if_false];rw[ah,oq];lia));rw[hf]
 erw[bne_self_eq_false,aU,if_false]
 exact nQ (h _ c2 I3)
theorem zcs{α:Type}{F:KeyFam α}(FO:F.Ok){D kS:nW}{e e1:Nat}{ks its:List nX}{rP xs:List V}{rs:List α}{A:oj}{E:nX->nY->Prop}{P:PySem.Fin->nY->Prop}(hu:A.units+50<cLine)
  (I:Inv X ((rN ++ [(D,om "list" #[] e1)]) ++ [(kS,om "list" (aN ks) e)]) σ H s)
  (hD:X.s₀.heap.objs.size<=D) (hK:X.s₀.heap.objs.size<=kS) (nD:∀p ∈ X.pn ++ rN,p.1≠D) (nK:∀p ∈ X.pn ++ (rN ++ [(D,om "list" #[] e1)]),p.1≠kS)
  (rk:Vals rP ks) (rv:Vals xs its) (hl:ks.length=its.length) (hz:its.length<64) (hR:Iss X.K H (rs.map λa=>.tup (F.dec a)) rP)
  (h:∀s' (ys:List (α × V)) (out:List nX) c,ys=srt (λp q=>F.lt p.1 q.1) (F.d0,.non) (rs.zip xs)->Vals (ys.map (·.2)) out->out.length<64->Inv X (rN ++ [(D,om "list" (aN out) c)]) σ H s'->P (.done (.ret .none)) s') :
  oa (model X.prog X.w) A (ksk_end D rM its.toArray e1 (.ref kS) (aN ks)) P E s:=by
 have L1:=hR.len;have L2:=rk.length;have L3:=rv.length;rw[ac]at L1;have lz:(rs.zip xs).length=its.length:=by rw[List.length_zip];lia
 unfold ksk_end
 erw[aU,if_false]
 by_cases h2:its.toArray.size<2
 ·rw[if_pos h2,if_pos h2];refine nP (nQ ?_);rw[StateT.run_pure];refine nP (nQ ?_)
  (try dsimp only)
  refine Ja (out:=its) I hD hK nD nK ⋯ ?_ hz rfl λs' c I'=>h s' (rs.zip xs) its c ?_ ?_ hz I'
  ·show ((aN ks).zip its.toArray).map (·.2)=_;apply Array.toList_inj.mp;rw[Array.toList_map,ksk_zip];exact dA (by simp;lia)
  ·rw[ah]at h2;unfold srt;rw[if_pos ⋯]
  ·rw[dA ⋯];exact rv
 ·rw[if_neg h2,if_neg h2];rw[ah]at h2;obtain⟨fs,t1,t2,t3⟩:=Q6 FO I (M:=model X.prog X.w) rs rP ks hR rk;refine nP (fP t1 ⋯ t3 (by simp) ?_)
  have hfst:((Value.type (if F.fst=rL then "int" else "tuple"):nX) != Value.type "tuple")=F.fst:=by
   cases hF:F.fst with
   | true=>rfl
   | false=>rfl
  rw[hfst];have W:Wk (λi j=>F.lt (rs.getD i F.d0) (rs.getD j F.d0)):=#[λa b=>FO.w.asym _ _,λa b c=>FO.w.ntr _ _ _];have ok:=ju (n:=its.length) W ⋯
  have lt_eq:(λi j=>F.lt (rs.getD i F.d0) (rs.getD j F.d0))=(λi j=>(λ(p q:α × V)=>F.lt p.1 q.1) ((rs.zip xs).getD i (F.d0,.non)) ((rs.zip xs).getD j (F.d0,.non))):=by
   have one:∀i,((rs.zip xs).getD i (F.d0,V.non)).1=rs.getD i F.d0:=λi=>by
    by_cases hi:i<its.length
    ·have a1:i<rs.length:=⋯;have a2:i<xs.length:=⋯;rw[aa,aa,ae ⋯,ae a1];simp
    ·rw[aa,aa,bP ⋯,bP ⋯];rfl
   funext i j
   erw[one]
  have wp:=Kok.wp (n:=its.length) (cmp:=dI X.prog X.w A (tuples' F.fst) ks) (I:=λs'=>Inv X ((rN ++ [(D,om "list" #[] e1)]) ++ [(kS,om "list" (aN ks) e)]) σ H s')
   (R:=λp s'=>p=X7 (λi j=>F.lt (rs.getD i F.d0) (rs.getD j F.d0)) (fQ its.length)/\Inv X ((rN ++ [(D,om "list" #[] e1)]) ++ [(kS,om "list" (aN ks) e)]) σ H s')
   (λi j C s' hi hj I' hC=>?_) (λp s' hp I'=>#[hp,I']) _ s I (Kok.same _ ok)
  ·have run:=fZ (E:=E) (vs:=its) (ks:=ks) (Q:=λst' s'=>∃p:Array Nat,p.size=its.length/\arrOf st'=p.map (fR (ks.toArray.zip its.toArray))/\failedOf st'=rK/\_) hl ⋯ hz (λp' st' s' a1 a2 a3 a4=>#[p',a1,a2,a3,a4]) wp;refine nP (oR run ?_ λ_ _ e=>e);rintro⟨⟨⟩,st'⟩ s' ⟨p,hp,har,hf,hpk,I'⟩
   (try dsimp only)
   have hout:=fS (ks:=ks) (vs:=its) hl har;have hR1:Rg its.length p:=by rw[hpk];exact (Kok.run _ ok).1
   have g1:(p.toList.map λi=>(rs.zip xs).getD i (F.d0,.non))=srt (λp q=>F.lt p.1 q.1) (F.d0,.non) (rs.zip xs):=by
    unfold srt;rw[if_neg ⋯,lz,<- lt_eq,<- hpk]
   have olen:(p.toList.map λi=>its.getD i Value.none).length=its.length:=by rw[ac,cT,hp]
   refine Ja (out:=p.toList.map λi=>its.getD i Value.none) I' hD hK nD nK ⋯ hout ⋯ hf λs2 c I2=>h s2 _ _ c g1 ?_ ⋯ I2;rw[bF]
   have all:∀(js:()),(∀j ∈ js,j<its.length)->Vals (js.map ((λx:α × V=>x.2) ∘ λi=>(rs.zip xs).getD i (F.d0,.non))) (js.map λi=>its.getD i Value.none):=by
    intro js
    induction js with
    | nil=>intro _;exact .nil
    | cons j js ih =>
     intro hj;refine .cons ?_ (ih λi hi=>hj i (aq _ hi));have hjl:=hj j az;have a1:j<xs.length:=⋯;obtain⟨u,hu1,ru⟩:=yF rv (j:=j) (x:=xs[j]) (ae a1)
     have e1:((rs.zip xs).getD j (F.d0,V.non)).2=xs[j]:=by
      rw[aa,ae ⋯];simp
     have e2:its.getD j Value.none=u:=by rw[aa,hu1];rfl
     show RelV ((rs.zip xs).getD j (F.d0,V.non)).2 (its.getD j Value.none);rw[e1,e2];exact ru
   exact all p.toList λj hj=>rW.mp (hR1.mem_iff.mp hj)
  ·have a1:i<rs.length:=⋯;have a2:j<rs.length:=⋯;have gi:(rs.map λa=>_root_.L3.D.tup (F.dec a))[i]? = rJ (.tup (F.dec rs[i])):=by rw[ax,ae a1];rfl
   have gj:(rs.map λa=>_root_.L3.D.tup (F.dec a))[j]? = rJ (.tup (F.dec rs[j])):=by rw[ax,ae a2];rfl
   obtain⟨x,hx,ix⟩:=hR.at gi;obtain⟨y,hy,iy⟩:=hR.at gj;obtain⟨u,hu1,ru⟩:=yF rk hx;obtain⟨v,hv1,rv1⟩:=yF rk hy;have e1:ks.getD i Value.none=u:=by rw[aa,hu1];rfl
   have e2:ks.getD j Value.none=v:=by rw[aa,hv1];rfl
   have e3:rs.getD i F.d0=rs[i]:=by rw[aa,ae a1];rfl
   have e4:rs.getD j F.d0=rs[j]:=by rw[aa,ae a2];rfl
   unfold dI;rw[e1,e2];refine Kc I' hu ix iy ru rv1 (FO.ok _ _) (FO.dp _) (λhb=>?_) ?_
   ·obtain⟨d,r,ed,hd⟩:=FO.sh rs[i];obtain⟨d',r',ed',hd'⟩:=FO.sh rs[j];rcases hd with ⟨_,n,rfl⟩ | ⟨z,_⟩
    ·rcases hd' with ⟨_,n',rfl⟩ | ⟨z,_⟩
     ·exact#[#[n,r,ed],n',r',ed']
     ·rw[hb]at z;cases z
    ·rw[hb]at z;cases z
   ·rw[FO.eq,<- e3,<- e4];exact hC s' I'
end
def vX(kc:V->Hp->VK->Prop):List V->List V->Hp->(List V->Hp->Prop)->Prop
 | [],rP,H,Q=>Q rP H
 | x::xs,rP,H,Q=>kc x H (λk H'=>vX kc xs (rP ++ [k]) H' Q)
section
variable{X:Cx}{rN:List (nW × oF)}{σ:L2.St}{H:Hp}{s:nY}
theorem K6{α:Type}{F:KeyFam α}(FO:F.Ok){k:Nat}{q:nW}{kc:V->Hp->VK->Prop}(hr:Room (k+2) X.A)
  (hkc:∀(pins':List (nW × oF)) (s:nY) (H:Hp) (x:V) (u:nX) (Q:VK),Inv X pins' σ H s->RelV x u->kc x H Q->oa (model X.prog X.w) X.A.in1.in1 (call (.ref q) [u]) (EP X pins' σ Q) (λ_ _=>False) s)
  {D kS:nW} {e1:Nat} {its:List nX} {xs:List V} {E:nX->nY->Prop} {P:PySem.Fin->nY->Prop} {Q:VK}
  (I:Inv X ((rN ++ [(D,om "list" #[] e1)]) ++ [(kS,om "list" #[] 0)]) σ H s)
  (hD:X.s₀.heap.objs.size<=D) (hK:X.s₀.heap.objs.size<=kS) (nD:∀p ∈ X.pn ++ rN,p.1≠D) (nK:∀p ∈ X.pn ++ (rN ++ [(D,om "list" #[] e1)]),p.1≠kS)
  (rv:Vals xs its) (hz:its.length<64)
  (ht:vX kc xs [] H (Xg X.K F xs Q))
  (hP:∀s',EP X rN σ Q (.ref D) s'->P (.done (.ret .none)) s') :
  oa (model X.prog X.w) X.A.in1.in1 (ksk_rest D (.ref q) rM its.toArray e1 (.ref kS)) P E s:=by
 unfold ksk_rest;refine nP (rA ?_);rw[List.forIn_toArray]
 refine nP (ksk_fold (λj s'=>∃rP ks e H',Inv X ((rN ++ [(D,om "list" #[] e1)]) ++ [(kS,om "list" (aN ks) e)]) σ H' s'/\Vals rP ks/\ks.length=j/\vX kc (xs.drop j) rP H' (Xg X.K F xs Q))
  its 0 s #[[],[],0,H,I,.nil,rfl,ht] (λj x s1 hx hJ=>?_) λs1 hJ=>?_)
 ·obtain⟨rP,ks,e,H1,I1,rk,hkl,tk⟩:=hJ;rw[eC]at hkl tk;have hjl:j<its.length:=(rQ.mp hx).1;have L3:=rv.length;obtain⟨u,hu,ru⟩:=yF rv (j:=j) (x:=xs[j]) (ae ⋯);rw[hx]at hu;cases hu;rw[aT ⋯]at tk;refine nP (pW (oR (hkc _ _ _ _ _ _ I1 ru tk) (λkv s2 hk=>?_) λ_ _ z=>z.elim));obtain⟨v,H2,I2,rv2,tk2⟩:=hk;have pk:=Inv.at_pin I2;have sb:=Heap.SameBut.update s2.heap kS (Obj.mapSeq (·.push kv));have ea:(aN ks).push kv=aN (ks ++ [kv]):=by simp
  obtain⟨c2,hc2⟩:∃c2,(s2.heap.update kS (Obj.mapSeq (·.push kv))).get? kS=rJ (om "list" (aN (ks ++ [kv])) c2):=#[_,by rw[<- ea];exact get?_update_seq pk (·.push kv)];have I3:=Inv.repin I2 hK nK sb hc2 yG
  (try dsimp only)
  refine nP (listUpdate_at pk rfl ?_ (by rw[ah,oq];lia) (by rw[Array.size_push,ah,oq];lia));refine nQ #[rfl,rP ++ [v],ks ++ [kv],c2,H2,I3,rk.append (.cons rv2 .nil),by rw[aj,eV,hkl];lia,?_];rw[eC];exact tk2
 ·obtain⟨rP,ks,e,H1,I1,rk,hkl,tk⟩:=hJ;rw[eC]at hkl tk;have L3:=rv.length;rw[<- L3,dz]at tk;obtain⟨rs,hR,hq⟩:=tk
  (try dsimp only)
  refine nP (listItems_at (Inv.at_pin I1) rfl ?_);refine zcs FO (by have:=hr.in1.in1.un;lia) I1 hD hK nD nK rk rv hkl hz hR λs' ys out c p1 p3 p4 I'=>hP s' ?_;have fp:=Inv.fp_of_pin I' hD nD;refine#[.ref D,_,Inv.track I'.unpinned (a:=D) (o:=.lst (ys.map (·.2))) fp #[?_,out,c,p3,Inv.at_pin I'],rfl,hq ys p1 D fp.1];rw[p3.length,oq];lia
theorem Vg{α:Type}{F:KeyFam α}(FO:F.Ok){k:Nat}{q l:nW}{xs:List V}{kc:V->Hp->VK->Prop}{Q:VK}(hr:Room (k+2) X.A)
  (hkc:∀(pins':List (nW × oF)) (s:nY) (H:Hp) (x:V) (u:nX) (Q:VK),Inv X pins' σ H s->RelV x u->kc x H Q->oa (model X.prog X.w) X.A.in1.in1 (call (.ref q) [u]) (EP X pins' σ Q) (λ_ _=>False) s)
  (I:Inv X rN σ H s) (hS:SqL X.K H l xs) (hz:xs.length<64) (ht:vX kc xs [] H (Xg X.K F xs Q)) :
  oa (model X.prog X.w) X.A (call (.builtin "sorted") [.ref l] [(bV "key",.ref q)]) (EP X rN σ Q) X.xe s:=by
 obtain⟨its,rv,pl,_⟩:=I.list hS;have hlen:=rv.length;refine call_function_entry_kw kind_sorted plain_sorted entry_sorted (ksk_s1 _ _) ?_;unfold Builtin.«sorted»;refine nP (m:=checkCount "sorted" 1 1 _) (nQ ?_);refine nP (collect_list pl.isList ?_ (by rw[oq];lia));refine nP (pD ?_ (by rw[oq];lia));generalize hh1:((s.heap.push (om "list" #[] 0)).update s⁻¹ (Obj.mapSeq (· ++ its.toArray)))=h1;have sz1:h1.objs.size=s⁻¹+1:=by rw[<- hh1,cP,size_push']
 have kp1:∀b o,s.heap.get? b=rJ o->h1.get? b=rJ o:=λb o e=>by
  have hlt:b<s⁻¹:=ar e;rw[<- hh1,ft _ _ _ _ (av hlt),Heap.get?_push_ne _ _ _ (av hlt)];exact e
 have hoL:(h1.push (om "list" its.toArray 0)).get? h1.objs.size=rJ (om "list" its.toArray 0):=aE _ rfl;show oa _ _ _ _ _ { s with heap:=h1.push (om "list" its.toArray 0) };refine nP (oz (wpAny_call_entry_kw slot_list_sort #[_,hoL,rfl] entry_list_sort ?body (ksk_l1 _ _)));show oa _ _ (Builtin.«list.sort» #[[.ref h1.objs.size],[(bV "key",.ref q)]]) _ _ _;rw[ksk_t1];generalize hh2:h1.push (om "list" its.toArray 0)=h2 at hoL;have sz2:h2.objs.size=h1.objs.size+1:=by rw[<- hh2,size_push']
 have kp2:∀b o,s.heap.get? b=rJ o->h2.get? b=rJ o:=λb o e=>by rw[<- hh2];exact ag _ (kp1 b o e)
 generalize hDD:h1.objs.size=D at hoL;obtain⟨e1,ho1⟩:∃e1,(h2.update D (Obj.mapSeq λ_=>(#[]:Array nX))).get? D=rJ (om "list" #[] e1):=#[_,get?_update_seq hoL λ_=>#[]];have hDs:s⁻¹<=D:=by rw[<- hDD,sz1];exact cA _
 have sb:=Heap.SameBut.update h2 D (Obj.mapSeq λ_=>(#[]:Array nX));unfold ksk_tree;refine nP (listItems_at hoL rfl ?_);refine nP (listUpdate_at hoL rfl ?_ (by rw[ah,oq];lia) (ay _));refine nP (seqEpoch_at ho1 rfl ?_);refine nP (wpAny_newTuple ?_ (by show its.length<=_;rw[oq];lia));refine nP (pD ?_ (ay _));refine oz ?_;generalize hh3:(h2.update D (Obj.mapSeq λ_=>(#[]:Array nX))).push (om "tuple" its.toArray 0)=h3;have sz3:h3.objs.size=s⁻¹+3:=by rw[<- hh3,size_push',cP,sz2,sz1]
 have hoK:(h3.push (om "list" #[] 0)).get? h3.objs.size=rJ (om "list" #[] 0):=aE _ rfl;have hoD:(h3.push (om "list" #[] 0)).get? D=rJ (om "list" #[] e1):=ag _ (by rw[<- hh3];exact ag _ ho1)
 have kp3:∀b o,s.heap.get? b=rJ o->(h3.push (om "list" #[] 0)).get? b=rJ o:=λb o e=>by
  have hlt:b<s⁻¹:=ar e;refine ag _ ?_;rw[<- hh3];exact ag _ ((sb.2 b (av (au hlt hDs))).trans (kp2 b o e))
 have I1:Inv X rN σ H { s with heap:=h3.push (om "list" #[] 0) }:=I.kept (t':=s.toks) kp3;have fD:xG X rN H D:=I.fpOk ⋯ (I.hok.fresh ⋯);have fK:xG X rN H h3.objs.size:=I.fpOk ⋯ (I.hok.fresh ⋯);have I2:=Inv.newpin I1 fD hoD yG
 have nK:∀p ∈ X.pn ++ (rN ++ [(D,om "list" #[] e1)]),p.1≠h3.objs.size:=λp hp=>by
  rcases rT.mp hp with z | z
  ·exact fK.2.2.2.2.2 p (bh _ z)
  ·rcases rT.mp z with z | z
   ·exact fK.2.2.2.2.2 p (aD _ z)
   ·have e:p=(D,om "list" #[] e1):=by simpa using z
    subst e;show D≠_;lia
 have I3:=Inv.newpin I2 (b:=h3.objs.size) #[fK.1,fK.2.1,fK.2.2.1,fK.2.2.2.1,fK.2.2.2.2.1,nK] hoK yG;have hsz:=I.sz;have hK0:X.s₀.heap.objs.size<=h3.objs.size:=⋯;exact K6 FO hr hkc I3 ⋯ hK0 fD.2.2.2.2.2 nK rv ⋯ ht λs' hE=>#[_,rfl,nQ #[_,rfl,hE]]
end
noncomputable def qB(D:nW)(before:Nat)(st:SortSt):rz PySem.Fin:=do
 let sorted:=(arrOf st).map (·.2)
 let touched:=(<- seqEpoch D) != before
 Builtin.List.listUpdate (.ref D) λ_=>sorted
 if let rJ e:=failedOf st then rule "list.sort.comparison-raised";throw e
 if touched then rule "list.sort.modified";raiseError "ValueError" "list modified during sort"
 ret .none
def okF:List D->List D->Prop
 | d::l,e::m=>if eqD d e=rL then okF l m else okD d e
 | _,_=>True
structure KeyFam.OkF{α:Type}(F:KeyFam α):Prop where
 w:WkO F.lt
 eq:∀a b,xj (F.dec a) (F.dec b)=F.lt a b
 ok:∀a b,okF (F.dec a) (F.dec b)
 dp:∀a,wI (F.dec a)<40
 sh:∀a,∃d r,F.dec a=d::r/\((F.fst=rL/\∃n,d=.int n)\/(F.fst=rM/\∃l,d=.tup l))
def za0(K:nV):List V->Hp->VK->Prop:=λvs H Q=>∃(l:nW) (xs:List V) (α:Type) (F:KeyFam α) (rs:List α),vs=[.ref l]/\SqL K H l xs/\xs.length<64/\F.OkF/\Iss K H (rs.map λa=>.tup (F.dec a)) xs /\
 ∀D,H D=rK->Q (.ref D) (upd H D (.lst ((srt (λp q=>F.lt p.1 q.1) (F.d0,V.non) (rs.zip xs)).map (·.2))))
section
variable{X:Cx}{rN:List (nW × oF)}{σ:L2.St}{H:Hp}{s:nY}
theorem zbk(I:Inv X rN σ H s){A:oj}{b:Bool}{Q:Bool->nY->Prop}(hu:A.units+50<cLine):∀(l m:List D) (xs ys:List V) (its its':List nX) (i:Nat),Iss X.K H l xs->Iss X.K H m ys->Vals xs its->Vals ys its'->okF l m->wI l<40 ->
  (b=rL->i=0->(∃n r,l=.int n::r)/\∃n r,m=.int n::r)->Q (xj l m) s->PySem.W.KatLex X.prog X.w A b (decide (its.length<its'.length)) Q (its.zip its') i s
 | [],m,xs,ys,its,its',i,h1,h2,r1,r2,ok,hd,hb,q=>by
  erw[Iss]at h1
  subst h1;cases r1
  have e:xj [] m=decide (([]:List nX).length<its'.length):=by
   have e1:=h2.len;have e2:=r2.length;have e3:m.length=its'.length:=⋯;rw[<- e3]
   cases m with
   | nil=>simp [xj]
   | cons _ _=>simp [xj]
  rw[e]at q;rw[List.zip_nil_left];exact dH q
 | d::l,[],xs,ys,its,its',i,h1,h2,r1,r2,ok,hd,hb,q=>by
  erw[Iss]at h2
  subst h2;cases r2
  erw[xj]at q
  rw[fB];exact dH (by simpa using q)
 | d::l,e::m,xs,ys,its,its',i,h1,h2,r1,r2,ok,hd,hb,q=>by
  erw[Iss]at h1 h2
  obtain⟨x,xr,rfl,hx,hxr⟩:=h1;obtain⟨y,yr,rfl,hy,hyr⟩:=h2
  cases r1 with | cons rx rxr =>
  cases r2 with | cons ry ryr =>
  erw[okF]at ok
  erw[wI]at hd
  rename_i u us v vs;rw[cF];refine fO (vW I 45 A d e x y u v ⋯ ⋯ hx hy rx ry X.prog X.w _ _ ?_)
  cases he:eqD d e with
  | true =>
   refine fX ?_;have:=zbk I (b:=b) hu l m xr yr us vs (i+1) hxr hyr rxr ryr (by rw[if_pos he]at ok;exact ok) ⋯ (λ_ z=>absurd z ⋯) (by simpa only[xj,he,if_true] using q);simpa using this
  | false =>
   refine PySem.W.kat_no ?_;have q':Q (ltD d e) s:=by simpa only[xj,he,aU,if_false] using q
   by_cases hbi:(b && i == 0)=rL
   ·rw[hbi]
    erw[bE,beq_iff_eq]at hbi
    obtain⟨⟨n,r,e1⟩,n',r',e2⟩:=hb hbi.1 hbi.2;cases e1;cases e2
    erw[Is]at hx hy
    subst hx hy;obtain⟨t,rfl⟩:=rx;obtain⟨t',rfl⟩:=ry
    erw[ltD]at q'
    exact oneLt_int q'
   ·rw[show (b && i == 0)=rM by simpa using hbi];exact fY _ _ (YS I 45 A d e x y u v ⋯ ⋯ (by rw[if_neg (by rw[he];decide)]at ok;exact ok) hx hy rx ry X.prog X.w _ _ q')
theorem J3(I:Inv X rN σ H s){A:oj}{b:Bool}{Q:Bool->nY->Prop}{E:nX->nY->Prop}(hu:A.units+50<cLine){l m:List D}{x y:V}{u v:nX}(hx:Is X.K H (.tup l) x)(hy:Is X.K H (.tup m) y)(rx:RelV x u)(ry:RelV y v)
  (ok:okF l m) (hd:wI l<40) (hb:b=rL->(∃n r,l=.int n::r)/\∃n r,m=.int n::r) (q:Q (xj l m) s):oa (model X.prog X.w) A (keyLt' (tuples' b) u v) Q E s:=by
 erw[Is]at hx hy
 obtain⟨a,xs,rfl,h1,h2⟩:=hx;obtain⟨c,ys,rfl,g1,g2⟩:=hy;cases rx;cases ry;obtain⟨its,r,⟨o,ho,hoc,n,hod⟩,_⟩:=I.tuple h1;obtain⟨its',r',⟨o',ho',hoc',n',hod'⟩,_⟩:=I.tuple g1;refine PySem.W.kat_lt ho hod ho' hod' ?_;have:=zbk I (A:=A) (b:=b) (Q:=Q) hu l m xs ys its its' 0 h2 g2 r r' ok hd (λz _=>hb z) q;simpa using this
theorem QF{α:Type}{F:KeyFam α}(FO:F.OkF)(I:Inv X rN σ H s){M:pY}:∀(rs:List α) (rP:List V) (ks:List nX),Iss X.K H (rs.map λa=>.tup (F.dec a)) rP->Vals rP ks ->
  ∃fs,PySem.W.KatTups s.heap ks fs/\fs.length=rs.length/\∀v ∈ fs,PySem.W.Looks M s.heap (typeOf v) (.type (if F.fst=rL then "int" else "tuple"))
 | [],rP,ks,h,r=>by
  erw[aF,Iss]at h
  subst h;cases r;exact#[[],PySem.W.KatTups.nil,rfl,λv hv=>by cases hv]
 | a::rs,rP,ks,h,r=>by
  erw[am,Iss]at h
  obtain⟨x,xr,rfl,hx,hxr⟩:=h
  cases r with | cons rx rxr =>
  rename_i u us;obtain⟨fs,t1,t2,t3⟩:=QF FO I (M:=M) rs xr us hxr rxr
  erw[Is]at hx
  obtain⟨c,xs,rfl,h1,h2⟩:=hx;cases rx;obtain⟨its,ri,⟨o,ho,hoc,n,hod⟩,_⟩:=I.tuple h1;obtain⟨d,dr,ed,hsh⟩:=FO.sh a;rw[ed]at h2
  erw[Iss]at h2
  obtain⟨y,yr,rfl,hy,_⟩:=h2
  cases ri with | cons ry rir =>
  rename_i v vs;refine#[v::fs,PySem.W.KatTups.cons ho hoc hod (by simp) t1,by simp [t2],λz hz=>?_];rcases rS.mp hz with e | hz
  ·subst e;rcases hsh with ⟨hf,n',rfl⟩ | ⟨hf,l,rfl⟩
   ·rw[if_pos hf]
    erw[Is]at hy
    subst hy;obtain⟨t,rfl⟩:=ry;exact PySem.W.Looks.of_pure rfl
   ·rw[if_neg (by rw[hf];decide)]
    erw[Is]at hy
    obtain⟨c',xs',rfl,g1,_⟩:=hy;cases ry;obtain⟨its',ri',⟨o',ho',hoc',n',hod'⟩,_⟩:=I.tuple g1;rw[<- hoc'];exact (PySem.W.Looks.ld ho').andThen .now
  ·exact t3 z hz
theorem VY{D:nW}{e1:Nat}{st:SortSt}{out:List nX}{A:oj}{E:nX->nY->Prop}{P:PySem.Fin->nY->Prop}(I:Inv X (rN ++ [(D,om "list" #[] e1)]) σ H s)
  (hD:X.s₀.heap.objs.size<=D) (nD:∀p ∈ X.pn ++ rN,p.1≠D)
  (hout:(arrOf st).map (·.2)=aN out) (hoz:out.length<64) (hf:failedOf st=rK) (h:∀s' c,Inv X (rN ++ [(D,om "list" (aN out) c)]) σ H s'->P (.done (.ret .none)) s') :
  oa (model X.prog X.w) A (qB D e1 st) P E s:=by
 have pd:=Inv.at_pin I;have s2:=Heap.SameBut.update s.heap D (Obj.mapSeq λ_=>aN out);obtain⟨c2,hc2⟩:∃c2,(s.heap.update D (Obj.mapSeq λ_=>aN out)).get? D=rJ (om "list" (aN out) c2):=#[_,get?_update_seq pd λ_=>aN out];have I3:=Inv.repin I hD nD s2 hc2 yG;unfold qB
 (try dsimp only)
 rw[hout];refine nP (seqEpoch_at pd rfl ?_);refine nP (listUpdate_at pd rfl ?_ (ay _) (by rw[ah,oq];lia));rw[hf]
 erw[bne_self_eq_false,aU,if_false]
 exact nQ (h _ c2 I3)
theorem zbR{α:Type}{F:KeyFam α}(FO:F.OkF){D:nW}{e1:Nat}{its:List nX}{xs:List V}{rs:List α}{A:oj}{E:nX->nY->Prop}{P:PySem.Fin->nY->Prop}(hu:A.units+50<cLine)
  (I:Inv X (rN ++ [(D,om "list" #[] e1)]) σ H s) (hD:X.s₀.heap.objs.size<=D) (nD:∀p ∈ X.pn ++ rN,p.1≠D)
  (rv:Vals xs its) (hz:its.length<64) (hR:Iss X.K H (rs.map λa=>.tup (F.dec a)) xs)
  (h:∀s' (out:List nX) c,Vals ((srt (λp q=>F.lt p.1 q.1) (F.d0,V.non) (rs.zip xs)).map (·.2)) out->out.length<64->Inv X (rN ++ [(D,om "list" (aN out) c)]) σ H s'->P (.done (.ret .none)) s') :
  oa (model X.prog X.w) A (do
   let kind <- if its.toArray.size<2 then pure general' else keyKind' its.toArray
   let (Unit.unit,st) <- (if its.toArray.size<2 then pure Unit.unit else sortRuns').run (SortSt.mk' kind (its.toArray.zip its.toArray) #[] 7 rK)
   qB D e1 st) P E s:=by
 have L1:=hR.len;have L3:=rv.length;rw[ac]at L1;have lz:(rs.zip xs).length=its.length:=by rw[List.length_zip];lia
 by_cases h2:its.toArray.size<2
 ·rw[if_pos h2,if_pos h2];refine nP (nQ ?_);dsimp only;rw[StateT.run_pure];refine nP (nQ ?_)
  (try dsimp only)
  refine VY (out:=its) I hD nD ?_ hz rfl λs' c I'=>h s' its c ?_ hz I'
  ·show ((aN its).zip its.toArray).map (·.2)=_;apply Array.toList_inj.mp;rw[Array.toList_map,ksk_zip];exact dA (by simp)
  ·rw[ah]at h2;unfold srt;rw[if_pos ⋯,dA ⋯];exact rv
 ·rw[if_neg h2,if_neg h2];rw[ah]at h2;obtain⟨fs,t1,t2,t3⟩:=QF FO I (M:=model X.prog X.w) rs xs its hR rv;refine nP (fP t1 ⋯ t3 (by simp) ?_)
  have hfst:((Value.type (if F.fst=rL then "int" else "tuple"):nX) != Value.type "tuple")=F.fst:=by
   cases hF:F.fst with
   | true=>rfl
   | false=>rfl
  rw[hfst];have W:Wk (λi j=>F.lt (rs.getD i F.d0) (rs.getD j F.d0)):=#[λa b=>FO.w.asym _ _,λa b c=>FO.w.ntr _ _ _];have ok:=ju (n:=its.length) W ⋯
  have lt_eq:(λi j=>F.lt (rs.getD i F.d0) (rs.getD j F.d0))=(λi j=>(λ(p q:α × V)=>F.lt p.1 q.1) ((rs.zip xs).getD i (F.d0,.non)) ((rs.zip xs).getD j (F.d0,.non))):=by
   have one:∀i,((rs.zip xs).getD i (F.d0,V.non)).1=rs.getD i F.d0:=λi=>by
    by_cases hi:i<its.length
    ·have a1:i<rs.length:=⋯;have a2:i<xs.length:=⋯;rw[aa,aa,ae ⋯,ae a1];simp
    ·rw[aa,aa,bP ⋯,bP ⋯];rfl
   funext i j
   erw[one]
  have wp:=Kok.wp (n:=its.length) (cmp:=dI X.prog X.w A (tuples' F.fst) its) (I:=λs'=>Inv X (rN ++ [(D,om "list" #[] e1)]) σ H s')
   (R:=λp s'=>p=X7 (λi j=>F.lt (rs.getD i F.d0) (rs.getD j F.d0)) (fQ its.length)/\Inv X (rN ++ [(D,om "list" #[] e1)]) σ H s')
   (λi j C s' hi hj I' hC=>?_) (λp s' hp I'=>#[hp,I']) _ s I (Kok.same _ ok)
  ·have run:=fZ (E:=E) (vs:=its) (ks:=its) (Q:=λst' s'=>∃p:Array Nat,p.size=its.length/\arrOf st'=p.map (fR (its.toArray.zip its.toArray))/\failedOf st'=rK/\_) rfl ⋯ hz (λp' st' s' a1 a2 a3 a4=>#[p',a1,a2,a3,a4]) wp;refine nP (oR run ?_ λ_ _ e=>e);rintro⟨⟨⟩,st'⟩ s' ⟨p,hp,har,hf,hpk,I'⟩
   (try dsimp only)
   have hout:=fS (ks:=its) (vs:=its) rfl har;have hR1:Rg its.length p:=by rw[hpk];exact (Kok.run _ ok).1
   have g1:(p.toList.map λi=>(rs.zip xs).getD i (F.d0,.non))=srt (λp q=>F.lt p.1 q.1) (F.d0,.non) (rs.zip xs):=by
    unfold srt;rw[if_neg ⋯,lz,<- lt_eq,<- hpk]
   have olen:(p.toList.map λi=>its.getD i Value.none).length=its.length:=by rw[ac,cT,hp]
   refine VY (out:=p.toList.map λi=>its.getD i Value.none) I' hD nD hout ⋯ hf λs2 c I2=>h s2 _ c ?_ ⋯ I2;rw[<- g1,bF]
   have all:∀(js:()),(∀j ∈ js,j<its.length)->Vals (js.map ((λx:α × V=>x.2) ∘ λi=>(rs.zip xs).getD i (F.d0,.non))) (js.map λi=>its.getD i Value.none):=by
    intro js
    induction js with
    | nil=>intro _;exact .nil
    | cons j js ih =>
     intro hj;refine .cons ?_ (ih λi hi=>hj i (aq _ hi));have hjl:=hj j az;have a1:j<xs.length:=⋯;obtain⟨u,hu1,ru⟩:=yF rv (j:=j) (x:=xs[j]) (ae a1)
     have e1:((rs.zip xs).getD j (F.d0,V.non)).2=xs[j]:=by
      rw[aa,ae ⋯];simp
     have e2:its.getD j Value.none=u:=by rw[aa,hu1];rfl
     show RelV ((rs.zip xs).getD j (F.d0,V.non)).2 (its.getD j Value.none);rw[e1,e2];exact ru
   exact all p.toList λj hj=>rW.mp (hR1.mem_iff.mp hj)
  ·have a1:i<rs.length:=⋯;have a2:j<rs.length:=⋯;have gi:(rs.map λa=>_root_.L3.D.tup (F.dec a))[i]? = rJ (.tup (F.dec rs[i])):=by rw[ax,ae a1];rfl
   have gj:(rs.map λa=>_root_.L3.D.tup (F.dec a))[j]? = rJ (.tup (F.dec rs[j])):=by rw[ax,ae a2];rfl
   obtain⟨x,hx,ix⟩:=hR.at gi;obtain⟨y,hy,iy⟩:=hR.at gj;obtain⟨u,hu1,ru⟩:=yF rv hx;obtain⟨v,hv1,rv1⟩:=yF rv hy;have e1:its.getD i Value.none=u:=by rw[aa,hu1];rfl
   have e2:its.getD j Value.none=v:=by rw[aa,hv1];rfl
   have e3:rs.getD i F.d0=rs[i]:=by rw[aa,ae a1];rfl
   have e4:rs.getD j F.d0=rs[j]:=by rw[aa,ae a2];rfl
   unfold dI;rw[e1,e2];refine J3 I' hu ix iy ru rv1 (FO.ok _ _) (FO.dp _) (λhb=>?_) ?_
   ·obtain⟨d,r,ed,hd⟩:=FO.sh rs[i];obtain⟨d',r',ed',hd'⟩:=FO.sh rs[j];rcases hd with ⟨_,n,rfl⟩ | ⟨z,_⟩
    ·rcases hd' with ⟨_,n',rfl⟩ | ⟨z,_⟩
     ·exact#[#[n,r,ed],n',r',ed']
     ·rw[hb]at z;cases z
    ·rw[hb]at z;cases z
   ·rw[FO.eq,<- e3,<- e4];exact hC s' I'
theorem Js{k:Nat}(hr:Room (k+2) X.A):wq X (.builtin "sorted") (za0 X.K):=by
 intro rN s σ H vs us Q I r1 h;obtain⟨l,xs,α,F,rs,rfl,hS,hz,FO,hR,q⟩:=h;obtain⟨u,rfl,ru⟩:=xP r1;cases ru;obtain⟨its,rv,pl,_⟩:=I.list hS;have hlen:=rv.length;refine Calls.call_function_entry kind_sorted plain_sorted entry_sorted (args_sorted1 _) ?_;unfold Builtin.«sorted»;refine nP (m:=checkCount "sorted" 1 1 _) (nQ ?_);refine nP (collect_list pl.isList ?_ (by rw[oq];lia));refine nP (pD ?_ (by rw[oq];lia));generalize hh1:((s.heap.push (om "list" #[] 0)).update s⁻¹ (Obj.mapSeq (· ++ its.toArray)))=h1;have sz1:h1.objs.size=s⁻¹+1:=by rw[<- hh1,cP,size_push']
 have kp1:∀b o,s.heap.get? b=rJ o->h1.get? b=rJ o:=λb o e=>by
  have hlt:b<s⁻¹:=ar e;rw[<- hh1,ft _ _ _ _ (av hlt),Heap.get?_push_ne _ _ _ (av hlt)];exact e
 have hoL:(h1.push (om "list" its.toArray 0)).get? h1.objs.size=rJ (om "list" its.toArray 0):=aE _ rfl;show oa _ _ _ _ _ { s with heap:=h1.push (om "list" its.toArray 0) };refine nP (oz (wpAny_call_entry slot_list_sort #[_,hoL,rfl] entry_list_sort ?body (args_list_sort _)));show oa _ _ (Builtin.«list.sort» #[[.ref h1.objs.size],[]]) _ _ _;rw[list_sort_plain];generalize hh2:h1.push (om "list" its.toArray 0)=h2 at hoL;have sz2:h2.objs.size=h1.objs.size+1:=by rw[<- hh2,size_push']
 have kp2:∀b o,s.heap.get? b=rJ o->h2.get? b=rJ o:=λb o e=>by rw[<- hh2];exact ag _ (kp1 b o e)
 generalize hDD:h1.objs.size=D at hoL;obtain⟨e1,ho1⟩:∃e1,(h2.update D (Obj.mapSeq λ_=>(#[]:Array nX))).get? D=rJ (om "list" #[] e1):=#[_,get?_update_seq hoL λ_=>#[]];have hDs:s⁻¹<=D:=by rw[<- hDD,sz1];exact cA _
 have sb:=Heap.SameBut.update h2 D (Obj.mapSeq λ_=>(#[]:Array nX));refine nP (listItems_at hoL rfl ?_);refine nP (listUpdate_at hoL rfl ?_ (by rw[ah,oq];lia) (ay _));refine nP (seqEpoch_at ho1 rfl ?_);refine nP (wpAny_newTuple ?_ (by show its.length<=_;rw[oq];lia));refine nP (pD ?_ (ay _));refine oz ?_;generalize hh3:(h2.update D (Obj.mapSeq λ_=>(#[]:Array nX))).push (om "tuple" its.toArray 0)=h3;have hoD:(h3.push (om "list" #[] 0)).get? D=rJ (om "list" #[] e1):=ag _ (by rw[<- hh3];exact ag _ ho1)
 have kp3:∀b o,s.heap.get? b=rJ o->(h3.push (om "list" #[] 0)).get? b=rJ o:=λb o e=>by
  have hlt:b<s⁻¹:=ar e;refine ag _ ?_;rw[<- hh3];exact ag _ ((sb.2 b (av (au hlt hDs))).trans (kp2 b o e))
 have I1:Inv X rN σ H { s with heap:=h3.push (om "list" #[] 0) }:=I.kept (t':=s.toks) kp3;have fD:xG X rN H D:=I.fpOk ⋯ (I.hok.fresh ⋯);have I2:=Inv.newpin I1 fD hoD yG;have hsz:=I.sz;refine zbR FO (by have:=hr.in1.in1.un;lia) I2 ⋯ fD.2.2.2.2.2 rv ⋯ hR λs' out c p3 p4 I'=>#[_,rfl,nQ #[_,rfl,?_]];have fp:=Inv.fp_of_pin I' ⋯ fD.2.2.2.2.2;refine#[.ref D,_,Inv.track I'.unpinned (a:=D) (o:=.lst _) fp #[?_,out,c,p3,Inv.at_pin I'],rfl,q D fp.1];rw[p3.length,oq];lia
end
noncomputable def VP(X:Cx)(N:List og)(s:nY)(H:Hp)(qual:og)(scope:oN)(f:nW)(cd:nX)(cl:List (og × nW)):Cx where
 prog:=X.prog
 w:=X.w
 K:=X.K
 mg:=X.mg
 base:=X.base
 A:=X.A.in1.in1.deeper (eD qual scope s⁻¹ f cd cl)
 N:=N
 s₀:=s
 H₀:=H
 env:=eD qual scope s⁻¹ f cd cl
 outer:=X.stack
 stack:=eD qual scope s⁻¹ f cd cl::X.stack
 ex:=[]
 calm:=rL
 fn:=λ_=>rM
 pn:=[]
 xe:=λ_ _=>False
structure KJ(p y:og)(scope:oN):Prop where
 kind:scope.kind=.function
 co:scope.isCoroutine=rM
 gen:scope.isGenerator=rM
 nocell:∀z ∈ scope.names,z.2≠.cell
 par:scope.names.lookup p=rJ .local
 fre:scope.names.lookup y=rJ .free
 one:∀q ∈ scope.names,q.2=.free->q.1=y
 ne:p≠y
section
variable{X:Cx}{rN:List (nW × oF)}{σ:L2.St}{H:Hp}{s:nY}{p y name qual:og}{scope:oN}{params:pq}{body:ol}{f c' c:nW}{pm ctv cv:nX}{k iy:Nat}{vy x:V}{u:nX}{Q:VK}{t:TE}
theorem KR(S:KJ p y scope)(hd:X.A.in1.in1.handled=rK)(I:Inv X rN σ H s)(hy:X.N[iy]? = rJ y)(hσ:σ[iy]? = rJ (rJ vy))(hvis:X.env.scope.names.lookup y=rJ .cell)(hc:X.env.cells.lookup y=rJ c)(rx:RelV x u){h₁:oo}{tk:Nat}
  (hns:h₁.Ns s⁻¹ (λz=>[(p,u)].reverse.lookup z)) (hk₁:∀b o,s.heap.get? b=rJ o->h₁.get? b=rJ o) :
  Inv (VP X [p,y] s H qual scope f cv [(y,c)]) [] [rJ x,rJ vy] H { s with heap:=h₁,toks:=tk }:=by
 obtain⟨m,hn,hl⟩:=I.loc;obtain⟨uy,ry,lk⟩:=hl iy y vy hy hσ (.inr (.inl hvis))
 have hcell:s.heap.IsCell c (rJ uy):=by
  rcases lk with ⟨z,_⟩ | ⟨_,c2,e2,z⟩
  ·have z':X.env.scope.names.lookup y=rJ .local:=z;rw[hvis]at z';cases z'
  ·rw[hc]at e2;cases e2;exact z
 have hcell':h₁.IsCell c (rJ uy):=by
  obtain⟨o,e,d⟩:=hcell;exact#[o,hk₁ _ _ e,d]
 have e0:=I.env0;have noA:∀b:nW,b ∉ (VP X [p,y] s H qual scope f cv [(y,c)]).ex:=λb z=>absurd (show b ∈ ([]:List nW)from z) (by simp)
 have lkc:∀z d,bi z [(y,c)]=rJ d->z=y/\d=c:=λz d h=>by
  rw[aV]at h;by_cases hz:(z == y)=rL
  ·rw[hz]at h;cases h;exact#[by simpa using hz,rfl]
  ·rw[show (z == y)=rM by simpa using hz]at h;cases h
 have lky:bi y [(y,c)]=rJ c:=by rw[aV];simp
 refine#[#[e0.mod,S.kind,rfl,rfl,al _,λz z' d h1 h2=>?_,λz hz=>?_,λz d h _=>?_,λ_=>hd,Around.frames_deeper e0.frames,.inr #[rfl,rfl],λb z=>absurd z (noA b),e0.bs,e0.bsz,λb _ _=>noA b,λb z=>absurd z (noA b),e0.funs,e0.frf],
  rfl,e0.bare,Un.kept hk₁,#[_,hns,λi z v h1 h2 h3=>?_],λz d h=>?_,e0.hok.fresh (al _),λz d h=>?_,λq hq=>absurd (show q ∈ ([]:List (nW × oF))from hq) (by simp),e0.hok.kept hk₁,rfl]
 ·rw[(lkc _ _ h1).1,(lkc _ _ h2).1]
 ·have hz':scope.names.lookup z=rJ .cell\/scope.names.lookup z=rJ .free:=hz;rcases hz' with hz' | hz'
  ·exact absurd rfl (S.nocell _ (bJ hz'))
  ·rw[show z=y from S.one _ (bJ hz') rfl];exact#[c,lky]
 ·exact absurd (show (rM:Bool)=rL from h) ∅
 ·match i,h1,h2 with
  | 0,h1,h2 =>
   cases h1;cases h2;refine#[u,rx,.inl #[S.par,?_]];show bi p [(p,u)].reverse=rJ u;simp [bi]
  | 1,h1,h2 =>
   cases h1;cases h2;exact#[uy,ry,.inr #[.inr S.fre,c,lky,hcell']]
  | i+2,h1,h2=>simp at h2
 ·obtain⟨_,rfl⟩:=lkc z d h;exact#[_,hcell']
 ·obtain⟨_,rfl⟩:=lkc z d h;exact I.freeC y _ hc
theorem Qh(S:KJ p y scope)(hr:Room (k+3) X.A)(hbind:bindArgs (bQ name qual params body scope [(y,c)] pm cv ctv) #[[u],[]]=pure [(p,u)])(I:Inv X rN σ H s)
  (ho:s.heap.get? f=rJ { cls:=.type "function",data:=.func (bQ name qual params body scope [(y,c)] pm cv ctv) }) (hcd:s.heap.CodeRec cv qual) (hy:X.N[iy]? = rJ y) (hσ:σ[iy]? = rJ (rJ vy)) (hvis:X.env.scope.names.lookup y=rJ .cell) (hc:X.env.cells.lookup y=rJ c)
  (rx:RelV x u) (hb:PE (VP X [p,y] s H qual scope f cv [(y,c)]) body t) (h:t [rJ x,rJ vy] H Q) :
  oa (model X.prog X.w) X.A.in1.in1 (call (.ref f) [u]) (EP X rN σ Q) (λ_ _=>False) s:=by
 have hr2:Room (k+1) X.A.in1.in1:=hr.in1.in1;refine pc (PySem.W.kla_callFunE hr2.depth ho rfl S.co S.gen rfl hcd ?_);rw[hbind];refine nQ (pO S.nocell (λz hz=>?_) (λh₁ hns hsb=>?_) S.kind)
 ·have e:z=(p,u):=by simpa using hz
  subst e;exact S.par
 have hk₁:∀b o,s.heap.get? b=rJ o->h₁.get? b=rJ o:=λb o e=>hsb.extBut b o (av (ar e)) (ag _ e);refine#[I.nolimit.keeps hk₁,?_];have I1:=KR (qual:=qual) (f:=f) (cv:=cv) (tk:=s.toks+1) S hr2.hd I hy hσ hvis hc rx hns hk₁;show oS _ _ (.expr body (eD qual scope s⁻¹ f cv [(y,c)])) _ _;refine PySem.W.kla_codeExpr (oR (hb [] _ _ H Q I1 h) (λv s' hv=>?_) λ_ _ z=>False.elim z);obtain⟨w',H',J,rw',q⟩:=hv;exact I.after #[w',H',J.os,J.bare,J.base,J.hok,rw',q]
end
noncomputable def cdE(c':nW)(q:og):HO:=.ext λh=>h.CodeRec (.ref c') q
noncomputable def fnE(f:nW)(o:oF):HO:=.ext λh=>h.get? f=rJ o
def TabOk(H:Hp)(P:nW)(pos:oU)(q:og):Prop :=
 ∃ps:Array nX,H P=rJ (.tbl ps)/\rE ps.toList/\(codeAmong pos ps.toList=rK\/∃c',codeAmong pos ps.toList=rJ (.ref c')/\H c'=rJ (cdE c' q))
def SamT(P:nW)(H H':Hp):Prop:=∀b o,b≠P->H b=rJ o->H' b=rJ o
def LamAt(H:Hp)(f:nW)(name qual:og)(params:pq)(body:ol)(scope:oN)(cl:List (og × nW)):Prop :=
 ∃(c':nW) (pm ctv:nX),H c'=rJ (cdE c' qual)/\H f=rJ (fnE f { cls:=.type "function",data:=.func (bQ name qual params body scope cl pm (.ref c') ctv) })
theorem za8{P:nZ}{w:oh}{H:Hp}{h:oo}{c':nW}{q:og}(x:h.CodeRec (.ref c') q):ObjOk P w H h c' (cdE c' q):=by
 refine#[x,?_,λh1 h2 a k=>?_]
 ·obtain⟨c,o,vs,t,e,g,_⟩:=x;cases e;exact#[o,g]
 ·obtain⟨c,o,vs,t,e,g,r⟩:=a;cases e;exact#[_,o,vs,t,rfl,k o g,r]
theorem QY{P:nZ}{w:oh}{H:Hp}{h:oo}{f:nW}{o:oF}(x:h.get? f=rJ o):ObjOk P w H h f (fnE f o) :=
 #[x,#[o,x],λh1 h2 a k=>k o a]
section
variable{X:Cx}{rN:List (nW × oF)}{σ:L2.St}{H:Hp}{s:nY}
theorem Inv.grow{P c' f:nW}{ps more:Array nX}{o:oF}{q:og}{h':oo}{tk:Nat}(I:Inv X rN σ H s)(hP:H P=rJ (.tbl ps))(hk:∀b u,b≠P->s.heap.get? b=rJ u->h'.get? b=rJ u)(hP':h'.get? P=rJ { cls:=.none,data:=.fields (ps ++ more) })
  (hc:s⁻¹<=c') (hf:s⁻¹<=f) (hcf:c'≠f) (hcr:h'.CodeRec (.ref c') q) (hfo:h'.get? f=rJ o) :
  Inv X rN σ (upd (upd (upd H P (.tbl (ps ++ more))) c' (cdE c' q)) f (fnE f o)) { s with heap:=h',toks:=tk }:=by
 have Pl:P<s⁻¹:=I.hok.lt hP;have hPc:P≠c':=av (au Pl hc);have hPf:P≠f:=av (au Pl hf)
 have old:∀b,b<s⁻¹->b≠P->(upd (upd (upd H P (.tbl (ps ++ more))) c' (cdE c' q)) f (fnE f o)) b=H b:=λb hb hbP=>by
  rw[zq (av (au hb hf)),zq (av (au hb hc)),zq hbP]
 have atP:(upd (upd (upd H P (.tbl (ps ++ more))) c' (cdE c' q)) f (fnE f o)) P=rJ (.tbl (ps ++ more)):=by
  rw[zq hPf,zq hPc,zc]
 have neP:∀b,H b=rK->b≠P:=λb e z=>by rw[z,hP]at e;cases e
 refine I.un #[λb u e n _ _=>hk b u (neP b n) e,λb u e n _ _=>#[u.slots,hk b u (neP b n) e],λb u e n _=>?_,λb u e _=>?_,λb xs e=>?_,λb ob u e=>?_,λb qs e=>?_] λb u e=>?_
 ·rw[old b (ar e) (neP b n)];exact n
 ·by_cases hb:b=P
  ·subst hb;exact#[_,hP']
  ·exact#[u,hk b u hb e]
 ·rw[old b (I.hok.lt e) (λz=>by rw[z,hP]at e;cases e)];exact e
 ·rw[old b (I.hok.lt e) (λz=>by rw[z,hP]at e;cases e)];exact e
 ·by_cases hb:b=P
  ·subst hb;rw[hP]at e;cases e;exact#[more,atP]
  ·rw[old b (I.hok.lt e) hb];exact#[#[],by rw[e];simp]
 ·by_cases hbf:b=f
  ·subst hbf;rw[zc]at e;cases e;exact QY hfo
  ·rw[zq hbf]at e;by_cases hbc:b=c'
   ·subst hbc;rw[zc]at e;cases e;exact za8 hcr
   ·rw[zq hbc]at e;by_cases hbP:b=P
    ·subst hbP;rw[zc]at e;cases e;exact hP'
    ·rw[zq hbP]at e;refine (I.hok b u e).stay (λd v hd g=>hk d v ?_ g) (λd g=>?_) λd xs g=>?_
     ·rcases hd with z | z
      ·rw[z];exact hbP
      ·intro z';rw[z',hP]at z;cases z
     ·rw[old d (I.hok.lt g) (λz=>by rw[z,hP]at g;cases g)];exact g
     ·rw[old d (I.hok.lt g) (λz=>by rw[z,hP]at g;cases g)];exact g
end
theorem ud{a b:Int}{v:nX}:∀(l:List nX),rE l->rE (l ++ [rawInt a,rawInt b,v])
 | [],_=>trivial
 | .int _ _::.int _ _::_::rest,h=>ud rest h
theorem kQ{h h':oo}{mg:og->Option nX}{T:nW}(x:h.BuiltinsAt mg T)(k:∀b o,h.get? b=rJ o->h'.get? b=rJ o):h'.BuiltinsAt mg T:=by
 obtain⟨bm,o,b1,b2,b3,b4,b5,b6⟩:=x;exact#[bm,o,b1,b2,b3,b4,k _ _ b5,b6]
section
variable{X:Cx}{rN:List (nW × oF)}{σ:L2.St}{H:Hp}{s:nY}{cc P c:nW}{y:og}{params:pq}{body:ol}{scope:oN}{pos:oU}{Q:VK}
theorem Ug(hcode:X.env.code=.ref cc)(hC:PySem.W.CodeHd X.base cc P)(hB:X.base.BuiltinsAt X.mg P)(hgP:nR≠P)(hcl:closureFor scope X.env=pure [(y,c)])(hdef:defaultsOf params X.env=([],[]))(I:Inv X rN σ H s)
  (hT:TabOk H P pos (X.env.qual ++ "<lambda>"))
  (h:∀f H',H f=rK->LamAt H' f "<lambda>" (X.env.qual ++ "<lambda>") params body scope [(y,c)]->TabOk H' P pos (X.env.qual ++ "<lambda>")->SamT P H H'->Q (.ref f) H') :
  oa (model X.prog X.w) X.A (eval (.Lambda params body scope pos) X.env) (EP X rN σ Q) X.xe s:=by
 refine PySem.W.kla_eval hdef ?_;obtain⟨ps,hP,ht,hh⟩:=hT;have hPo:s.heap.get? P=rJ (PySem.W.tabObj ps):=I.hok _ _ hP;have hg:=I.mod.glob.keeps I.bk;have Pl:P<s⁻¹:=I.hok.lt hP;rcases hh with hn | ⟨c',hit,hc'⟩
 ·refine PySem.W.kla_makeFunction (mg:=X.mg) hcl I.ok.glob hg hcode (hC.keeps I.bk) hPo ht hn hgP (kQ hB I.bk) λc' ctv h' tk hx hge hlt hrec htb=>?_;have hsz:s⁻¹<=h'.objs.size:=dg (cp hge hlt)
  have I1:=Inv.grow (P:=P) (c':=c') (f:=h'.objs.size) (more:=(List.toArray [rawInt pos.line,rawInt pos.col,.ref c'])) (tk:=tk) (o:={ cls:=.type "function",data:=.func (bQ "<lambda>" (X.env.qual ++ "<lambda>") params body scope [(y,c)] ((X.mg "__name__").getD .none) (.ref c') ctv) }) I hP
   (λb u hb e=>ag _ (hx b u hb e)) (ag _ htb) hge hsz (av hlt) (hrec.push _) (aE _ rfl)
  have hPc:P≠c':=av (au Pl hge);have hPf:P≠h'.objs.size:=av (au Pl hsz)
  have atc:(upd (upd (upd H P (.tbl (ps ++ (List.toArray [rawInt pos.line,rawInt pos.col,.ref c'])))) c' (cdE c' (X.env.qual ++ "<lambda>"))) h'.objs.size (fnE h'.objs.size { cls:=.type "function",data:=.func (bQ "<lambda>" (X.env.qual ++ "<lambda>") params body scope [(y,c)] ((X.mg "__name__").getD .none) (.ref c') ctv) })) c'=rJ (cdE c' (X.env.qual ++ "<lambda>")):=by
   rw[zq (av hlt),zc]
  refine#[.ref h'.objs.size,_,I1,rfl,h _ _ (I.hok.fresh hsz) #[c',_,ctv,atc,zc] #[ps ++ (List.toArray [rawInt pos.line,rawInt pos.col,.ref c']),?_,?_,.inr #[c',?_,atc]] λb o hb e=>?_]
  ·rw[zq hPf,zq hPc,zc]
  ·rw[fu];exact ud _ ht
  ·rw[fu];exact codeAmong_snoc _ ht hn
  ·have hl:=I.hok.lt e;rw[zq (av (au hl hsz)),zq (av (au hl hge)),zq hb];exact e
 ·refine PySem.W.kla_makeFunctionHit (mg:=X.mg) hcl I.ok.glob hg hcode (hC.keeps I.bk) hPo ht hit (kQ hB I.bk) λctv h' tk hk hsz=>?_;have hfr:H h'.objs.size=rK:=I.hok.fresh hsz
  have I1:=I.laid (a:=h'.objs.size) (t':=tk) (h':=h'.push { cls:=.type "function",data:=.func (bQ "<lambda>" (X.env.qual ++ "<lambda>") params body scope [(y,c)] ((X.mg "__name__").getD .none) (.ref c') ctv) })
   (o:=fnE h'.objs.size { cls:=.type "function",data:=.func (bQ "<lambda>" (X.env.qual ++ "<lambda>") params body scope [(y,c)] ((X.mg "__name__").getD .none) (.ref c') ctv) })
   (λb u e=>ag _ (hk b u e)) hsz (QY (aE _ rfl))
  have sm:=zd (o:=fnE h'.objs.size { cls:=.type "function",data:=.func (bQ "<lambda>" (X.env.qual ++ "<lambda>") params body scope [(y,c)] ((X.mg "__name__").getD .none) (.ref c') ctv) }) hfr;exact#[.ref h'.objs.size,_,I1,rfl,h _ _ hfr #[c',_,ctv,sm _ _ hc',zc] #[ps,sm _ _ hP,ht,.inr #[c',hit,sm _ _ hc']] λb o _ e=>sm _ _ e]
end
def zcD(R:V->Hp->Prop):List V->Hp->Prop
 | [v],H=>R v H
 | _,_=>False
theorem Wd{R:V->Hp->Prop}:∀{vs:List V} {H:Hp},zcD R vs H->∃v,vs=[v]/\R v H
 | [v],_,h=>#[v,rfl,h]
def zdD(P:nW)(pos:oU)(q:og)(LA:Hp->nW->Prop):TE:=λσ H Q=>TabOk H P pos q/\∀f H',H f=rK->LA H' f->TabOk H' P pos q->SamT P H H'->Q (.ref f) H'
def Jl{α:Type}(K:nV)(F:KeyFam α)(P:nW)(pos:oU)(q:og)(LA:Hp->nW->Prop)(iy:Nat)(te tb:TE):TE:=λσ H Q=>te σ H λv H1=>TabOk H1 P pos q /\
 ∀f H2,H1 f=rK->LA H2 f->TabOk H2 P pos q->SamT P H1 H2->∃l xs vy,v=.ref l/\SqL K H2 l xs/\xs.length<64/\σ[iy]? = rJ (rJ vy)/\vX (λx H Q=>LA H f/\tb [rJ x,rJ vy] H Q) xs [] H2 (Xg K F xs Q)
section
variable{X:Cx}{cc P c:nW}{x p y:og}{params:pq}{body e:ol}{scope:oN}{lpos kpos pos pp:oU}{k iy:Nat}{te tb:TE}
theorem zbt(hcode:X.env.code=.ref cc)(hC:PySem.W.CodeHd X.base cc P)(hB:X.base.BuiltinsAt X.mg P)(hgP:nR≠P)(hcl:closureFor scope X.env=pure [(y,c)])(hdef:defaultsOf params X.env=([],[])) :
  PE X (.Lambda params body scope lpos) (zdD P lpos (X.env.qual ++ "<lambda>") λH f=>LamAt H f "<lambda>" (X.env.qual ++ "<lambda>") params body scope [(y,c)]):=by
 intro rN s σ H Q I h;exact Ug hcode hC hB hgP hcl hdef I h.1 h.2
theorem Ud{α:Type}{F:KeyFam α}(FO:F.Ok)(S:KJ p y scope)(hr:Room (k+3) X.A)(hg:Gl X x)(hm:X.mg x=rK)(hv:oG x=rJ (.builtin "sorted"))(ha:PA X [e] (zL te xH))
  (hcode:X.env.code=.ref cc) (hC:PySem.W.CodeHd X.base cc P) (hB:X.base.BuiltinsAt X.mg P) (hgP:nR≠P) (hcl:closureFor scope X.env=pure [(y,c)]) (hdef:defaultsOf params X.env=([],[]))
  (hbind:∀(cv pm ctv u:nX),bindArgs (bQ "<lambda>" (X.env.qual ++ "<lambda>") params body scope [(y,c)] pm cv ctv) #[[u],[]]=pure [(p,u)]) (hy:X.N[iy]? = rJ y) (hvis:X.env.scope.names.lookup y=rJ .cell) (hc:X.env.cells.lookup y=rJ c)
  (hb:∀(s:nY) (H:Hp) (f:nW) (cv:nX),Room k (VP X [p,y] s H (X.env.qual ++ "<lambda>") scope f cv [(y,c)]).A->PE (VP X [p,y] s H (X.env.qual ++ "<lambda>") scope f cv [(y,c)]) body tb)
  (hn:x≠"__name__":=by decide) (hdb:(x ==("__debug__" : og))=rM:=by decide)
  (hks:(oH pos (ow [#[rJ "key",.Lambda params body scope lpos,kpos]] X.env)).filterMap (·.1)=[bV "key"]:=by rfl)
  (hst:oB pos (nS [e] X.env)=(rM,eval e X.env)::oB pos (nS [] X.env):=by rfl) (hpl:(oB pos (nS [e] X.env)).any (·.1)=rM:=by rfl)
  (hall:(oH pos (ow [#[rJ "key",.Lambda params body scope lpos,kpos]] X.env)).all (·.1.isSome)=rL:=by rfl) (hkw:(oH pos (ow [#[rJ "key",.Lambda params body scope lpos,kpos]] X.env)).any (·.1.isNone)=rM:=by rfl) :
  PE X (.Call (.Name x pp) [e] [#[rJ "key",.Lambda params body scope lpos,kpos]] pos) (Jl X.K F P lpos (X.env.qual ++ "<lambda>") (λH f=>LamAt H f "<lambda>" (X.env.qual ++ "<lambda>") params body scope [(y,c)]) iy te tb):=by
 intro rN s σ H Q I h;have hlam:PE X (.Lambda params body scope lpos) (zdD P lpos (X.env.qual ++ "<lambda>") λH f=>LamAt H f "<lambda>" (X.env.qual ++ "<lambda>") params body scope [(y,c)]):=zbt hcode hC hB hgP hcl hdef;refine oE (vb I hg hm hv ?_ hn hdb)
 have h':(zL te xH) σ H (zcD λv H1=>TabOk H1 P lpos (X.env.qual ++ "<lambda>")/\∀f H2,H1 f=rK->LamAt H2 f "<lambda>" (X.env.qual ++ "<lambda>") params body scope [(y,c)]->TabOk H2 P lpos (X.env.qual ++ "<lambda>")->SamT P H1 H2 ->
   ∃l xs vy,v=.ref l/\SqL X.K H2 l xs/\xs.length<64/\σ[iy]? = rJ (rJ vy)/\vX (λx H Q=>LamAt H f "<lambda>" (X.env.qual ++ "<lambda>") params body scope [(y,c)]/\tb [rJ x,rJ vy] H Q) xs [] H2 (Xg X.K F xs Q)):=h
 refine callWith_kw (thn (ha pos rN s σ H _ I h') λus s1 ⟨vs,H1,I1,r1,q1⟩=>?_) hst hpl hall hkw;obtain⟨v,rfl,hT,q1⟩:=Wd q1;obtain⟨u,rfl,ru⟩:=xP r1
 refine thn ((Wu hlam QX:PK X [#[rJ "key",.Lambda params body scope lpos,kpos]] _) pos rN s1 σ H1 (zcD λkv H2=>∃f,kv=.ref f/\LamAt H2 f "<lambda>" (X.env.qual ++ "<lambda>") params body scope [(y,c)] /\
   ∃l xs vy,v=.ref l/\SqL X.K H2 l xs/\xs.length<64/\σ[iy]? = rJ (rJ vy)/\vX (λx H Q=>LamAt H f "<lambda>" (X.env.qual ++ "<lambda>") params body scope [(y,c)]/\tb [rJ x,rJ vy] H Q) xs [] H2 (Xg X.K F xs Q)) I1 #[hT,λf H2 a1 a2 a3 a4=>#[f,rfl,a2,q1 f H2 a1 a2 a3 a4]]) λws s2 ⟨zs,H2,I2,r2,q2⟩=>?_
 obtain⟨kv,rfl,f,rfl,hLA,l,xs,vy,rfl,hS,hz,hσ,hk⟩:=Wd q2;obtain⟨w',rfl,rw'⟩:=xP r2;cases rw';cases ru;rw[hks];show oa _ _ (call (.builtin "sorted") [.ref l] [(bV "key",.ref f)]) _ _ _;refine Vg FO (k:=k+1) hr (λpins' s3 H3 x3 u3 Q3 I3 r3 h3=>?_) I2 hS hz hk;obtain⟨⟨c',pm,ctv,e1,e2⟩,h4⟩:=h3;have hcd:s3.heap.CodeRec (.ref c') (X.env.qual ++ "<lambda>"):=(I3.hok _ _ e1).1;have ho:=(I3.hok _ _ e2).1;exact Qh (k:=k) S hr (hbind _ _ _ _) I3 ho hcd hy hσ hvis hc r3 (hb s3 H3 f (.ref c') (hr.in1.in1.deeper _)) h4
end
section
variable{K:nV}
theorem SamT.of{T:nW}{H H':Hp}(s:Same H H'):SamT T H H':=λb o _ e=>s b o e
theorem SamT.trans{T:nW}{H H' H'':Hp}(s:SamT T H H')(s':SamT T H' H''):SamT T H H'':=λb o n e=>s' b o n (s b o n e)
theorem SamT.at{T b:nW}{H H':Hp}{ps:Array nX}{o:HO}(s:SamT T H H')(hT:H T=rJ (.tbl ps))(e:H b=rJ o)(ho:∀qs,o≠.tbl qs):H' b=rJ o:=s b o (λz=>by rw[z,hT]at e;cases e;exact ho _ rfl) e
theorem SamT.free{T b:nW}{H H':Hp}{o:HO}(s:SamT T H H')(hT:H' T=rJ o)(h:H' b=rK):H b=rK:=by
 cases e:H b with
 | none=>rfl
 | some u =>
  by_cases hb:b=T
  ·rw[hb,hT]at h;cases h
  ·rw[s b u hb e]at h;cases h
theorem SamT.seqL{T a:nW}{H H':Hp}{ps:Array nX}{xs:List V}(s:SamT T H H')(hT:H T=rJ (.tbl ps))(h:SqL K H a xs):SqL K H' a xs:=by
 rcases h with (h | ⟨o,h⟩) | h
 ·exact .inl (.inl (s.at hT h λ_ z=>by cases z))
 ·exact .inl (.inr #[o,s.at hT h λ_ z=>by cases z])
 ·exact .inr h
theorem SamT.seqT{T a:nW}{H H':Hp}{ps:Array nX}{xs:List V}(s:SamT T H H')(hT:H T=rJ (.tbl ps))(h:SqT K H a xs):SqT K H' a xs:=by
 rcases h with (h | ⟨o,h⟩) | h
 ·exact .inl (.inl (s.at hT h λ_ z=>by cases z))
 ·exact .inl (.inr #[o,s.at hT h λ_ z=>by cases z])
 ·exact .inr h
mutual
theorem Is.samT{T:nW}{H H':Hp}{ps:Array nX}(s:SamT T H H')(hT:H T=rJ (.tbl ps)):∀(d:D) (v:V),Is K H d v->Is K H' d v
 | .non,v,h=>by erw[Is]at h ⊢;exact h
 | .bl b,v,h=>by erw[Is]at h ⊢;exact h
 | .int b,v,h=>by erw[Is]at h ⊢;exact h
 | .str b,v,h=>by erw[Is]at h ⊢;exact h
 | .lst l,v,h=>by
  erw[Is]at h ⊢
  obtain⟨a,xs,e1,e2,e3⟩:=h;exact#[a,xs,e1,s.seqL hT e2,Iss.samT s hT l xs e3]
 | .tup l,v,h=>by
  erw[Is]at h ⊢
  obtain⟨a,xs,e1,e2,e3⟩:=h;exact#[a,xs,e1,s.seqT hT e2,Iss.samT s hT l xs e3]
theorem Iss.samT{T:nW}{H H':Hp}{ps:Array nX}(s:SamT T H H')(hT:H T=rJ (.tbl ps)):∀(l:List D) (vs:List V),Iss K H l vs->Iss K H' l vs
 | [],vs,h=>by erw[Iss]at h ⊢;exact h
 | d::l,vs,h=>by
  erw[Iss]at h ⊢
  obtain⟨v,r,e1,e2,e3⟩:=h;exact#[v,r,e1,Is.samT s hT d v e2,Iss.samT s hT l r e3]
end
theorem LsA.samT{T a:nW}{H H':Hp}{ps:Array nX}{ds:List D}(h:LsA K H a ds)(s:SamT T H H')(hT:H T=rJ (.tbl ps)):LsA K H' a ds:=by
 obtain⟨xs,h1,h2⟩:=h;exact#[xs,s.at hT h1 (λ_ z=>by cases z),Iss.samT s hT _ _ h2]
theorem TabOk.same{H H':Hp}{T:nW}{pos:oU}{q:og}(h:TabOk H T pos q)(s:Same H H'):TabOk H' T pos q:=by
 obtain⟨ps,h1,h2,h3⟩:=h;refine#[ps,s _ _ h1,h2,?_];rcases h3 with h3 | ⟨c',h4,h5⟩
 ·exact .inl h3
 ·exact .inr #[c',h4,s _ _ h5]
theorem LamAt.same{H H':Hp}{f:nW}{name qual:og}{params:pq}{body:ol}{scope:oN}{cl:List (og × nW)}(h:LamAt H f name qual params body scope cl)(s:Same H H'):LamAt H' f name qual params body scope cl:=by
 obtain⟨c',pm,ctv,h1,h2⟩:=h;exact#[c',pm,ctv,s _ _ h1,s _ _ h2]
end
section
variable{P:nZ}{w:oh}{K:nV}{mg mb:og->Option nX}{CX:CXT}{k:Nat}{fa a T cc:nW}{fd:oe}{x:og}{sp:Sp}{s₁:nY}{vs:List nX}{ns:List Int}{ps:Array nX}
theorem km(KX:K.In s₁.heap)(hKT:K.lookup T=rK)(hT:s₁.heap.get? T=rJ { cls:=.none,data:=.fields ps })(hTc:rq s₁.heap T)(hns:s₁.heap.Ns nR mg)(hb:s₁.heap.Ns builtinsNs mb)(hbb:∀x:og,x≠"__name__"->mb x=oG x)(hlim:s₁.heap.NoLimit)(hg:s₁.gens=#[])
  (ha:s₁.heap.get? a=rJ { cls:=.type "list",data:=.seq vs.toArray }) (hr:Room k callerA)
  (hbm:s₁.heap.BuiltinsAt mg T) (hcd:PySem.W.CodeHd s₁.heap cc T) (F:∀base:oo,K.In base->base.Ns nR mg->base.BuiltinsAt mg T->PySem.W.CodeHd base cc T->FnOk P w K mg base CX k fa fd [x] sp) (hbind:∀(s:nY) (u:nX),pV s fd #[[u],[]] [(x,u)])
  (hCX:∀H e s',CX [] H s₁ (λ_ _ _=>False) e s'->False) (H:Hp) (h1:H T=rJ (.tbl ps)) (h2:∀b u,H b=rJ u->b=T\/(b=a/\K.lookup a=rK/\u=.frz { cls:=.type "list",data:=.seq vs.toArray } (.lst (ns.map V.int))))
  (hok:HOk P w H s₁.heap) (hsp:sp [.ref a] H (λv _=>v=.bl rL) λ_ _ _=>False) :
  oS (model P w) callerA (.call (.ref fa) #[[.ref a],[]]) (λr s'=>r=.ok (.ret (.bool rL))/\OldK s₁.heap s'.heap/\s'.os=s₁.os/\pE s'.gens) s₁:=by
 have stay:∀b o,s₁.heap.get? b=rJ o->(b≠T)->(b≠a)->(VM s₁.heap H).get? b=rJ o:=λb o e n1 n2=>Yu e (by
  cases q:H b with
  | none=>rfl
  | some u =>
   rcases h2 b u q with z | z
   ·exact absurd z n1
   ·exact absurd z.1 n2)
 have nsStay:∀(b:nW) (m:og->Option nX),s₁.heap.Ns b m->(VM s₁.heap H).Ns b m:=λb m hN=>by
  obtain⟨o,es,ep,e,d,rest⟩:=hN;refine#[o,es,ep,stay b o e (λz=>?_) (λz=>?_),d,rest]
  ·rw[z,hT]at e;cases e;cases d
  ·rw[z,ha]at e;cases e;cases d
 have kStay:K.In (VM s₁.heap H):=λb o e=>by
  have g:=KX b o e;refine Yu g ?_
  cases q:H b with
  | none=>rfl
  | some u =>
   rcases h2 b u q with z | z
   ·rw[z,hKT]at e;cases e
   ·rw[z.1,z.2.1]at e;cases e
 have bStay:(VM s₁.heap H).BuiltinsAt mg T:=by
  obtain⟨bm,o,b1,b2,b3,b4,b5,b6,b7,b8⟩:=hbm;refine#[bm,o,b1,b2,b3,b4,stay bm o b5 b4 (λz=>?_),b6,b7,b8];rw[z,ha]at b5;cases b5;simp at b6
 have cStay:PySem.W.CodeHd (VM s₁.heap H) cc T:=by
  obtain⟨o,vs',file,tf,flags,tg,inF,text,tt,c1,c2,c3,c4,c5,c6,c7,c8,c9,c10⟩:=hcd;refine#[o,vs',file,tf,flags,tg,inF,text,tt,stay cc o c1 c10 (λz=>?_),c2,c3,c4,c5,c6,c7,c8,c9,c10];rw[z,ha]at c1;cases c1;simp at c2
 obtain⟨mc,l1,l2⟩:=hlim;have M0:Mod K mg (VM s₁.heap H):={ kin:=kStay,glob:=nsStay _ _ hns,blt:=#[mb,nsStay _ _ hb,hbb],nolimit:=#[mc,nsStay _ _ l1,l2] };have E0:Env0 P w K mg (VM s₁.heap H) callerA [] s₁ H:={ frames:=rfl,mod:=M0,bs:=λb o e=>Km e,bsz:=Nat.le_of_eq (WL _ _),funs:=trivial,frf:=λb z=>(nomatch (show b ∈ ([]:List nW)from z)),hok:=hok,bare:=.of_eq hg };refine ph ((F _ kStay (nsStay _ _ hns) bStay cStay).run callerA [] s₁ H #[[.ref a],[]] [.ref a] [.ref a] (λv _=>v=.bl rL) (λ_ _ _=>False) hr E0 (hbind s₁ (.ref a)) (.cons rfl .nil) hsp) λr s' hq=>?_;rcases r with e | fl
 ·exact (hCX H e s' hq).elim
 rcases fl with _ | _ | _ | u
 all_goals first | exact False.elim hq | skip
 obtain⟨v,H',e1,e2,un,hok',rv,ev⟩:=hq;have ev':v=V.bl rL:=ev;subst ev';have eu:u=Value.bool rL:=rv;subst eu;obtain⟨more,hT2⟩:=un.tbls T ps h1;have hT3:s'.heap.get? T=rJ { cls:=.none,data:=.fields (ps ++ more) }:=hok' T _ hT2
 have each:∀b o,s₁.heap.get? b=rJ o->b≠T->s'.heap.get? b=rJ o:=λb o e n=>by
  cases q:H b with
  | none=>exact un.keep b o e q (λz=>(nomatch (show b ∈ ([]:List nW)from z))) (λz=>(nomatch z))
  | some ob =>
   rcases h2 b ob q with z | ⟨z,_,zz⟩
   ·exact absurd z n
   ·subst zz;have g:=(hok' b _ (un.frzs b _ _ q)).1;rw[z,ha]at e;cases e;exact g
 refine#[rfl,#[λb o e=>?_,λb o e=>?_],e1,e2]
 ·by_cases hbT:b=T
  ·subst hbT;rw[hT]at e;cases e;exact .inr (.inl #[hTc,rfl,ps,more,rfl,hT3])
  ·exact .inl (each b o e hbT)
 ·by_cases hbT:b=T
  ·subst hbT;exact#[_,hT3]
  ·exact#[o,each b o e hbT]
theorem V2(KX:K.In s₁.heap)(hKT:K.lookup T=rK)(hT:s₁.heap.get? T=rJ { cls:=.none,data:=.fields ps })(hTc:rq s₁.heap T)(hns:s₁.heap.Ns nR mg)(hb:s₁.heap.Ns builtinsNs mb)(hbb:∀x:og,x≠"__name__"->mb x=oG x)(hlim:s₁.heap.NoLimit)(hg:s₁.gens=#[])
  (ha:s₁.heap.get? a=rJ { cls:=.type "list",data:=.seq vs.toArray }) (hi:rf vs ns) (hl:ns.length<=nU) (hr:Room k callerA)
  (hbm:s₁.heap.BuiltinsAt mg T) (hcd:PySem.W.CodeHd s₁.heap cc T) (F:∀base:oo,K.In base->base.Ns nR mg->base.BuiltinsAt mg T->PySem.W.CodeHd base cc T->FnOk P w K mg base CX k fa fd [x] sp) (hbind:∀(s:nY) (u:nX),pV s fd #[[u],[]] [(x,u)])
  (hCX:∀H e s',CX [] H s₁ (λ_ _ _=>False) e s'->False) (hsp:∀H:Hp,H T=rJ (.tbl ps)->SqL K H a (ns.map V.int)->sp [.ref a] H (λv _=>v=.bl rL) λ_ _ _=>False) :
  oS (model P w) callerA (.call (.ref fa) #[[.ref a],[]]) (λr s'=>r=.ok (.ret (.bool rL))/\OldK s₁.heap s'.heap/\s'.os=s₁.os/\pE s'.gens) s₁:=by
 have rv:=kZ hi;have hlv:=hi.length
 have hTa:a≠T:=λz=>by
  rw[z,hT]at ha;cases ha
 rcases hk:K.lookup a with _ | o
 ·refine km (ns:=ns) KX hKT hT hTc hns hb hbb hlim hg ha hr hbm hcd F hbind hCX (upd (upd (λ_=>rK) T (.tbl ps)) a (.frz { cls:=.type "list",data:=.seq vs.toArray } (.lst (ns.map V.int)))) ?_ (λb u e=>?_) (λb u e=>?_) ?_
  ·rw[zq (Ne.symm hTa),zc]
  ·by_cases hba:b=a
   ·subst hba;rw[zc]at e;cases e;exact .inr #[rfl,hk,rfl]
   ·rw[zq hba]at e;by_cases hbT:b=T
    ·exact .inl hbT
    ·rw[zq hbT]at e;cases e
  ·by_cases hba:b=a
   ·subst hba;rw[zc]at e;cases e;exact#[ha,by rw[ac];exact hl,vs,_,rv,ha]
   ·rw[zq hba]at e;by_cases hbT:b=T
    ·subst hbT;rw[zc]at e;cases e;exact hT
    ·rw[zq hbT]at e;cases e
  ·exact hsp _ (by rw[zq (Ne.symm hTa),zc]) (.inl (.inr #[_,zc]))
 ·have e:=KX a o hk;rw[ha]at e;cases e;refine km (ns:=ns) KX hKT hT hTc hns hb hbb hlim hg ha hr hbm hcd F hbind hCX (upd (λ_=>rK) T (.tbl ps)) zc (λb u e=>?_) (λb u e=>?_) (hsp _ zc (.inr #[_,vs.toArray,_,hk,rfl,rfl,rfl,by rw[ah,hlv];exact hl,by simpa using rv]))
  ·by_cases hbT:b=T
   ·exact .inl hbT
   ·rw[zq hbT]at e;cases e
  ·by_cases hbT:b=T
   ·subst hbT;rw[zc]at e;cases e;exact hT
   ·rw[zq hbT]at e;cases e
end
noncomputable def Kk(K:nV):Bool:=K.all λp=>match p.2 with
 | ⟨.none,_,.fields _,_⟩=>rM
 | _=>rL
theorem Yj{T:nW}{o:oF}:∀{K:nV},K.lookup T=rJ o->(T,o) ∈ K
 | [],h=>by cases h
 | p::K,h=>by
  rw[aV]at h;by_cases hp:T=p.1
  ·rw[show (T == p.1)=rL by simpa using hp]at h;cases h;rw[hp];exact az
  ·rw[show (T == p.1)=rM by simpa using hp]at h;exact aq _ (Yj h)
theorem UR{K:nV}{T:nW}{ps:Array nX}{h:oo}(e:Kk K=rL)(X:K.In h)(hT:h.get? T=rJ { cls:=.none,data:=.fields ps }):K.lookup T=rK:=by
 cases q:K.lookup T with
 | none=>rfl
 | some o =>
  have g:=X _ _ q;rw[hT]at g;cases g;have:=sf.mp e _ (Yj q);simp at this
theorem walk_ofT{l:PySem.W.OpenLaw}{n k:Nat}{q:nZ}{loose:List og}{XP:(og->Option nX)->oo->Prop}{YP:oh->oo->Prop}{d din:DefRec}{K:Params->nV}{CX:oh->CXT}{sp:oh->nW->Sp}{x:og}
  (hn:l.most=rJ n) (hn2:n<=nU) (hdf:d.params.defaults=[]) (hr:Room k callerA) (hdin:din ∈ recsOf q)
  (hY:∀(w:oh) (h:oo),YP w h->(K w.params).In h) (hno:∀w:oh,Kk (K w.params)=rL)
  (F:∀(w:oh) (mg:og->Option nX) (fa:nW) (h:oo) (cc T:nW),(K w.params).In h->h.Ns nR mg->mg d.name=rJ (.ref fa)->(∃a o fd,mg din.name=rJ (.ref a)/\h.get? a=rJ o/\o.data=.func fd/\fd.code=.ref cc)->nR≠T ->
   ∃fd:oe,(∀(s:nY) (u:nX),pV s fd #[[u],[]] [(x,u)]) /\
    ∀base:oo,(K w.params).In base->base.Ns nR mg->base.BuiltinsAt mg T->PySem.W.CodeHd base cc T->FnOk l.prog w (K w.params) mg base (CX w) k fa fd [x] (sp w T))
  (hsp:∀(w:oh) (H:Hp) (a:nW) (ns:List Int) (T:nW),ns.length<=n->(∀z ∈ ns,uu z)->H T=rJ (.tbl #[])->SqL (K w.params) H a (ns.map V.int)->sp w T [.ref a] H (λv _=>v=.bl rL) λ_ _ _=>False)
  (hCX:∀(w:oh) (H:Hp) (s:nY) (e:nX) (s':nY),CX w [] H s (λ_ _ _=>False) e s'->False) :
  PySem.W.WalkO q loose XP YP l.row.toRowW d [] (λf vs=>fg f vs):=by
 refine Zl hn hdf λw s₀ s₁ mg mb fa o pm cd doc a vs ns G Y ho hd hcd hmg hobj hints hlen hb' hg=>?_;have X0:=hY w _ Y;obtain⟨ai,oi,fdi,cc,T,m1,m2,m3,m4,m5,m6⟩:=G.T.tab din hdin;have hcd':PySem.W.CodeHd s₁.heap cc T:=PySem.W.CodeHd.of m5 m6;have hTo:s₁.heap.get? T=rJ { cls:=.none,data:=.fields #[] }:=m6.2;have hTc:rq s₁.heap T:=m6.isCodeTable
 have hgT:nR≠T:=λz=>by
  obtain⟨o,es,ep,e,hd',_⟩:=G.T.g;rw[z,hTo]at e;cases e;cases hd'
 have hbm:s₁.heap.BuiltinsAt mg T:=by
  obtain⟨bm,ob,b1,b2,b3,b4,b5,b6⟩:=G.T.bmain;refine#[bm,ob,b1,b2,λz=>?_,λz=>?_,b3,b4,b5,b6]
  ·obtain⟨o,es,ep,e,hd',_⟩:=G.T.g;rw[z,e]at b3;cases b3;rw[hd']at b6;cases b6
  ·rw[z,hTo]at b3;cases b3;cases b4
 obtain⟨fd,hbd,hF⟩:=F w mg fa _ cc T X0 G.T.g hmg #[ai,oi,fdi,m1,m2,m3,m4] hgT;exact V2 (T:=T) (ps:=#[]) X0 (UR (hno w) X0 hTo) hTo hTc G.T.g G.T.b G.T.builtins G.T.nolimit hg hobj hints (aM hlen hn2) hr hbm hcd' hF hbd (λH e s'=>hCX w H s₁ e s') λH h1 h2=>hsp w H a ns T hlen hb' h1 h2
theorem KH{P:nZ}{w:oh}{K:nV}{mg:og->Option nX}{base:oo}{x qual:og}{st:ot}{f cc:nW}{fd:oe}{N ps:List og}{k:Nat}{sp:Sp}(F:Fun K x qual st f fd)(hcc:fd.code=.ref cc)(S:zo N ps (zg st))(len:∀vs H Q E,sp vs H Q E->vs.length=ps.length)
  (hbody:∀(A:oj) (outer:List pM) (s:nY) (H:Hp) (vs:List V) (Q:VK) (E:XK),Room k (A.deeper (pj qual (zg st) s⁻¹ f (.ref cc)))->sp vs H Q E ->
   ∃t,PSs (uz CX0 P w K mg base N qual (zg st) f (.ref cc) A outer s H E).nox (z8 st) t/\t { nx:=λ_ H'=>Q .non H',rt:=Q } (start N vs) H):FnOk P w K mg base CX0 (k+1) f fd ps sp:=by
 obtain⟨oc,od,kV,doc,pm,an,cdv,ct,osl,rfl,lk,hcd⟩:=F.ex;have e:cdv=.ref cc:=hcc;subst e;refine Us lk hcd S len λA outer s H vs Q E hr hsp=>?_;obtain⟨t,h,q⟩:=hbody A outer s H vs Q E hr hsp;exact#[t,h.nox,q]
end L3
namespace L3
section
variable{X:Cx}{rN:List (nW × oF)}{σ:L2.St}{H:Hp}{s:nY}{cc P c:nW}{y:og}{params:pq}{body:ol}{scope:oN}{pos:oU}{Q:VK}
end
section
variable{X:Cx}{cc P c:nW}{x p y:og}{params:pq}{body e:ol}{scope:oN}{lpos kpos pos pp:oU}{k iy:Nat}{te tb:TE}
end
section
variable{P:nZ}{w:oh}{K:nV}{mg mb:og->Option nX}{CX:CXT}{k:Nat}{fa a T cc T' cc':nW}{fd:oe}{x:og}{sp:Sp}{s₁:nY}{vs:List nX}{ns:List Int}
end
end L3
namespace PySem
namespace F
end F
section
variable{prog:nZ}{w:oh}{A:oj}{E:nX->nY->Prop}{s:nY}
def Heap.IsRevS(h:oo)(a:nW)(x:og)(t:rh)(i:Int):Prop:=∃o,h.get? a=rJ o/\o.cls=.type "reversed"/\o.data=.fields (List.toArray [.str x t,rawInt i])
theorem Heap.IsRevS.typeIs{a:nW}{x:og}{t:rh}{i:Int}(z:s.heap.IsRevS a x t i):s.TypeIs (.ref a) "reversed":=let #[o,ho,hc,_]:=z; #[o,ho,hc]
theorem Heap.IsRevS.at{h h':oo}{a:nW}{x:og}{t:rh}{i:Int}(z:h.IsRevS a x t i)(e:∀o,h.get? a=rJ o->h'.get? a=rJ o):h'.IsRevS a x t i:=let #[o,ho,r]:=z; #[o,e _ ho,r]
end
end PySem
namespace L3
section
variable{X:Cx}{o a:ol}{to:TE}{ta:TA}{apos cpos p pos2:oU}
end
end L3
namespace L2
section
variable{X:Cx}{tg:ol}
end
end L2
namespace L3
open PySem L2
section
variable{g:TG}{tt:TT}{te:TE}{own:Nat}{ix:()}{σ:L2.St}{H1:Hp}{Q:VK}{D:nW}
end
end L3
namespace L3
open PySem.AutoSeq1 (wpAny_loadPart')
open MeetsSeq MeetsSeq2 MeetsSeq3 SeqRoads2 SeqAt
section
variable{X:Cx}{rN:List (nW × oF)}{σ:St}{H:Hp}{s:nY}
end
end L3
namespace L3
section
variable{prog:nZ}{w:oh}{A:oj}{R:pS->nY->Prop}{I:nW}{fp wr:List nW}{G:Array rg->Array rg->Prop}{n:Nat}{P:Nat->nX->Prop}{St:Nat->nY->Prop}
end
section
variable{prog:nZ}{w:oh}{A:oj}{E:nX->nY->Prop}{s:nY}
end
section
variable{X:Cx}
end
section
variable{g:TG}{tt:TT}{te:TE}{own:Nat}{ix:()}{σ:L2.St}{H1:Hp}{Q:VK}{D:nW}
end
theorem Yn{α:Type}[DecidableEq α](k:α)(v:nX)(x:α):∀kvs:List (α × nX),(kvs.map λkv=>if kv.1=k then (kv.1,v)else kv).find? (λkv=>kv.1=x)=(kvs.find? λkv=>kv.1=x).map λkv=>if kv.1=k then (kv.1,v)else kv
 | []=>rfl
 | p::kvs=>by
  have e:(if p.1=k then (p.1,v)else p).1=p.1:=by split <;> rfl
  rw[am,de,de,Yn k v x kvs]
  erw[e]
  by_cases h:p.1=x
  ·simp [h]
  ·simp [h]
theorem Xh{α:Type}[DecidableEq α](kvs:List (α × nX))(k:α)(v:nX)(x:α):valueAt (stored kvs k v) x=if x=k then rJ v else valueAt kvs x:=by
 unfold stored valueAt;split
 ·rename_i h;rw[Yn];by_cases e:x=k
  ·subst e;rw[if_pos rfl];obtain⟨p,hp,hk⟩:=sq.mp h
   cases hf:kvs.find? λkv=>kv.1=x with
   | none =>
    have:=sA.mp hf p hp;exact absurd hk this
   | some q =>
    have hq:=dJ hf;have hq':q.1=x:=by simpa using hq
    simp [hq']
  ·rw[if_neg e]
   cases hf:kvs.find? λkv=>kv.1=x with
   | none=>rfl
   | some q =>
    have hq:=dJ hf;have hq':q.1=x:=by simpa using hq
    have:¬ q.1=k:=λz=>e (hq'.symm.trans z);simp [this]
 ·rename_i h;rw[List.find?_append];by_cases e:x=k
  ·subst e;rw[if_pos rfl]
   have:kvs.find? (λkv=>kv.1=x)=rK:=by
    rw[dX];intro p hp hk;exact h (sq.mpr #[p,hp,hk])
   rw[this];simp
  ·have e':¬ k=x:=λz=>e z.symm;rw[if_neg e];simp [e']
section
variable{X:Cx}{pos:oU}
end
noncomputable def qC(P:nZ)(w:oh)(a:nW)(m:og->Option V)(n:Nat):HO:=.ext λh=>(a == sysModules)=rM/\∃kvs:List (og × nX),h.DictOf (bq P w) a kvs/\kvs.length<=n/\∀k,RelO (m k) (valueAt kvs k)
theorem VN{P:nZ}{w:oh}{H:Hp}{h:oo}{a:nW}{m:og->Option V}{n:Nat}{kvs:List (og × nX)}(hs:(a == sysModules)=rM)(d:h.DictOf (bq P w) a kvs)(hl:kvs.length<=n)(r:∀k,RelO (m k) (valueAt kvs k)):ObjOk P w H h a (qC P w a m n) :=
 #[#[hs,kvs,d,hl,r],(let #[o,es,ep,ho,_]:=d; #[o,ho]),λh1 h2 ⟨hs,kvs,⟨o,es,ep,ho,rest⟩,z⟩ k=>#[hs,kvs,#[o,es,ep,k _ ho,rest],z]]
section
variable{X:Cx}{pos:oU}
theorem Inv.beyond{rN:List (nW × oF)}{σ:L2.St}{H:Hp}{s:nY}(I:Inv X rN σ H s):(s⁻¹ == sysModules)=rM:=by
 obtain⟨o,es,ep,e,_⟩:=I.ok.mod.glob;have h1:=ar e;have h2:=I.ok.bsz;have h3:=I.sz;have h4:1<=nR:=∅;have h5:1<s⁻¹:=au (cp h4 h1) (aM h2 h3);rw[beq_eq_false_iff_ne];intro z;exact cj h5 z
def zbs(P:nZ)(w:oh):TE:=λ_ H Q=>∀p,H p=rK->Q (.ref p) (upd H p (qC P w p (λ_=>rK) 0))
theorem JM:PE X (.Dict [] [] pos) (zbs X.prog X.w):=λrN s σ H Q I h =>
 rp #[.ref s⁻¹,_,I.laid (a:=s⁻¹) (t':=s.toks) (λ_ _ q=>ag _ q) (al _) (VN (m:=λ_=>rK) (Inv.beyond I) (Heap.DictOf.new s.heap) (al _) λ_=>trivial),rfl,h _ (I.hok.fresh (al _))]
theorem Inv.tdic{rN:List (nW × oF)}{σ:L2.St}{H:Hp}{s:nY}{a:nW}{m:og->Option V}{n:Nat}(I:Inv X rN σ H s)(h:H a=rJ (qC X.prog X.w a m n)):(a == sysModules)=rM/\∃kvs:List (og × nX),s.heap.DictOf (bq X.prog X.w) a kvs/\kvs.length<=n/\∀k,RelO (m k) (valueAt kvs k):=(I.hok _ _ h).1
def zcZ(P:nZ)(w:oh):R2:=λx y H Q=>∃a m n k v,x=.ref a/\y=.str k/\H a=rJ (qC P w a m n)/\m k=rJ v/\Q v H
theorem JU:IxR X (zcZ X.prog X.w):=by
 intro value slice rN s σ H x y v u Q I rx ry h hs;obtain⟨a,m,n,k,z,rfl,rfl,ha,hk,q⟩:=h;cases rx;obtain⟨t,rfl⟩:=ry;obtain⟨_,kvs,dd,hl,r⟩:=Inv.tdic I ha;obtain⟨w',hw,rw'⟩:=RelO.some_of (v:=z) (o:=valueAt kvs k) (by rw[<- hk];exact r k);exact tail_any dd.typeIs slot_dict_getitem.lookup (rm (knd:=bq X.prog X.w) (strKind_is _ _ _ _) dd.mapOf hw #[z,H,I.tok _,rw',q]) hs
def zbS(P:nZ)(w:oh):V->V->V->Hp->(Hp->Prop)->Prop:=λo i v H Q=>∃a m n k,o=.ref a/\i=.str k/\H a=rJ (qC P w a m n)/\n<=100000/\Q (upd H a (qC P w a (λx=>if x=k then rJ v else m x) (n+1)))
theorem Qo:zdE X (zbS X.prog X.w):=by
 intro rN s σ H o i v ov iv u Q I ro ri rv h;obtain⟨a,m,n,k,rfl,rfl,ha,hn,q⟩:=h;cases ro;obtain⟨t,rfl⟩:=ri;obtain⟨hsm,kvs,dd,hl,r⟩:=Inv.tdic I ha;have s16:=yb;refine wpAny_setItem_pairs (knd:=bq X.prog X.w) (hsz:=by lia) (strKind_is _ _ _ _) dd λh' dd' hs=>#[_,?_,q];have he:∃q,h'.get? a=rJ q:=let #[q,_,_,hq,_]:=dd'; #[q,hq];refine I.write (x:=a) (e:=a) (by rw[ha];exact True.intro) (.inl rfl) (λb q hb z=>(hs.2 b hb).trans z) he (VN hsm dd' (aM (stored_length_le _ _ _) ⋯) λx=>?_);rw[Xh];by_cases e:x=k
 ·rw[if_pos e,if_pos e];exact rv
 ·rw[if_neg e,if_neg e];exact r x
def zbw(P:nZ)(w:oh):R2:=λx y H Q=>∃a m n k,x=.str k/\y=.ref a/\H a=rJ (qC P w a m n)/\Q (.bl (m k).isNone) H
theorem Qj:OpR X (ou .NotIn) (zbw X.prog X.w):=by
 intro rN s σ H x y v u Q I rx ry h;obtain⟨a,m,n,k,rfl,rfl,ha,q⟩:=h;obtain⟨t,rfl⟩:=rx;cases ry;obtain⟨hsm,kvs,dd,hl,r⟩:=Inv.tdic I ha;refine wpAny_notIn_of (knd:=bq X.prog X.w) (strKind_is _ _ _ _) hsm dd.mapOf ?_
 have e:(!(valueAt kvs k).isSome)=(m k).isNone:=by
  have:=r k
  cases hm:m k with
  | none =>
   cases hv:valueAt kvs k with
   | none=>rfl
   | some z=>rw[hm,hv]at this;exact this.elim
  | some z0 =>
   cases hv:valueAt kvs k with
   | none=>rw[hm,hv]at this;exact this.elim
   | some z=>rfl
 rw[e];exact#[.bl _,H,I.tok _,rfl,q]
end
noncomputable def ZW(P:nZ)(w:oh)(a:nW)(kvs:List (og × V))(ep:Nat):HO:=.ext λh=>(a == sysModules)=rM/\∃kus:List (og × nX),kus.map (·.1)=kvs.map (·.1)/\Vals (kvs.map (·.2)) (kus.map (·.2))/\h.DictAt (bq P w) a kus ep
noncomputable def atD(kvs:List (og × V))(k:og):Option V:=(kvs.find? λp=>p.1=k).map (·.2)
theorem ZV:∀{kvs:List (og × V)} {kus:List (og × nX)},kus.map (·.1)=kvs.map (·.1)->Vals (kvs.map (·.2)) (kus.map (·.2))->∀k,RelO (atD kvs k) (valueAt kus k)
 | [],[],_,_,k=>trivial
 | [],q::kus,e,_,k=>nomatch e
 | p::kvs,[],e,_,k=>nomatch e
 | p::kvs,q::kus,e,r,k=>by
  rw[am,am,List.cons.injEq]at e;rw[am,am]at r
  cases r with
  | cons r1 r2 =>
   unfold atD valueAt;rw[de,de,e.1];by_cases h:p.1=k
   ·rw[decide_eq_true h];exact r1
   ·rw[decide_eq_false h];exact ZV e.2 r2 k
theorem Vq{P:nZ}{w:oh}{H:Hp}{h:oo}{a:nW}{kvs:List (og × V)}{ep:Nat}{kus:List (og × nX)}(hs:(a == sysModules)=rM)(e:kus.map (·.1)=kvs.map (·.1))(r:Vals (kvs.map (·.2)) (kus.map (·.2)))(d:h.DictAt (bq P w) a kus ep):ObjOk P w H h a (ZW P w a kvs ep) :=
 #[#[hs,kus,e,r,d],(let #[o,es,ho,_]:=d; #[o,ho]),λh1 h2 ⟨hs,kus,e,r,o,es,ho,z⟩ k=>#[hs,kus,e,r,o,es,k _ ho,z]]
section
variable{X:Cx}{pos:oU}
def zcL(P:nZ)(w:oh):TE:=λ_ H Q=>∀p ep,H p=rK->Q (.ref p) (upd H p (ZW P w p [] ep))
theorem JJ:PE X (.Dict [] [] pos) (zcL X.prog X.w):=λrN s σ H Q I h=>by
 obtain⟨ep,d⟩:=(Heap.DictOf.new (knd:=bq X.prog X.w) s.heap).dictAt;exact rp #[.ref s⁻¹,_,I.laid (a:=s⁻¹) (t':=s.toks) (λ_ _ q=>ag _ q) (al _) (Vq (kvs:=[]) (Inv.beyond I) rfl .nil d),rfl,h _ ep (I.hok.fresh (al _))]
theorem Inv.odic{rN:List (nW × oF)}{σ:L2.St}{H:Hp}{s:nY}{a:nW}{kvs:List (og × V)}{ep:Nat}(I:Inv X rN σ H s)(h:H a=rJ (ZW X.prog X.w a kvs ep)):(a == sysModules)=rM/\∃kus:List (og × nX),kus.map (·.1)=kvs.map (·.1)/\Vals (kvs.map (·.2)) (kus.map (·.2))/\s.heap.DictAt (bq X.prog X.w) a kus ep:=(I.hok a _ h).1
def zb1(P:nZ)(w:oh):R2:=λx y H Q=>∃a kvs ep k v,x=.ref a/\y=.str k/\H a=rJ (ZW P w a kvs ep)/\atD kvs k=rJ v/\Q v H
theorem Ku:IxR X (zb1 X.prog X.w):=by
 intro value slice rN s σ H x y v u Q I rx ry h hs;obtain⟨a,kvs,ep,k,z,rfl,rfl,ha,hk,q⟩:=h;cases rx;obtain⟨t,rfl⟩:=ry;obtain⟨_,kus,e,r,dd⟩:=Inv.odic I ha;obtain⟨w',hw,rw'⟩:=RelO.some_of (v:=z) (o:=valueAt kus k) (by rw[<- hk];exact ZV e r k);exact tail_any dd.dictOf.typeIs slot_dict_getitem.lookup (rm (knd:=bq X.prog X.w) (strKind_is _ _ _ _) dd.dictOf.mapOf hw #[z,H,I.tok _,rw',q]) hs
def zdQ(P:nZ)(w:oh):V->List V->Hp->VK->Prop:=λx vs H Q=>∃a kvs ep k v,x=.ref a/\vs=[.str k,v]/\H a=rJ (ZW P w a kvs ep)/\kvs.length<=1000/\(∀u,atD kvs k=rJ u->Q u H)/\(atD kvs k=rK->∀ep',Q v (upd H a (ZW P w a (kvs ++ [(k,v)]) ep')))
theorem zbu:MtR X "dict.setdefault" (zdQ X.prog X.w):=by
 intro rN s σ H x vs v us Q I rx rv h;obtain⟨a,kvs,ep,k,d,rfl,rfl,ha,hn,q1,q2⟩:=h;cases rx;obtain⟨u1,u2,rfl,r1,r2⟩:=Vals.two rv;obtain⟨t,rfl⟩:=r1;obtain⟨hsm,kus,e,r,da⟩:=Inv.odic I ha;have hl:kus.length=kvs.length:=by have:=congrArg ci e;rw[ac,ac]at this;exact this
 have s16:=yb;have hv:=ZV e r k;refine call_meetsIn dW da.dictOf.typeIs PySem.F.entry_dict_setdefault (PySem.F.args_dict_setdefault_3 _ _ _) (kt_meets_setdefault (bq X.prog X.w) a (strKind_is _ _ k t) hsm u2) #[kus,da.dictOf,⋯,λz hz=>?_,λhz h' dd hs=>?_]
 ·rw[hz]at hv
  cases hk:atD kvs k with
  | none=>rw[hk]at hv;exact hv.elim
  | some y =>
   rw[hk]at hv;exact#[y,H,I.tok _,hv,q1 y hk]
 ·rw[hz]at hv
  have hk:atD kvs k=rK:=by
   cases hk:atD kvs k with
   | none=>rfl
   | some y=>rw[hk]at hv;exact hv.elim
  have es:stored kus k u2=kus ++ [(k,u2)]:=by
   unfold stored;rw[if_neg];intro h;obtain⟨p,hp,hpk⟩:=sq.mp h;unfold valueAt at hz;rw[eU,dX]at hz;exact hz p hp hpk
  rw[es]at dd;obtain⟨ep',dd'⟩:=dd.dictAt;have he:∃q,h'.get? a=rJ q:=let #[q,_,hq,_]:=dd'; #[q,hq];refine#[d,_,I.write (x:=a) (e:=a) (by rw[ha];exact True.intro) (.inl rfl) (λb q hb z=>(hs.2 b hb).trans z) he (Vq hsm ?_ ?_ dd'),r2,q2 hk ep']
  ·rw[ao,ao,e];rfl
  ·rw[ao,ao];exact r.append (.cons r2 .nil)
def zdI(P:nZ)(w:oh)(r:V->List V->Hp->VK->Prop)(to:TE)(t:TA):TE:=λσ H Q=>to σ H λx H1=>(∃a kvs ep,x=.ref a/\H1 a=rJ (ZW P w a kvs ep))/\t σ H1 λxs H2=>r x xs H2 Q
variable{o e:ol}{es:List ol}{to:TE}{t:TA}{name:og}{apos cpos:oU}{id:String}{r:V->List V->Hp->VK->Prop}
theorem zaY(slot:Slot "dict" name id)(hty:typeOf (.builtin id)=pure (.type "method_descriptor"))(hm:MtR X id r)(ho:PE X o to)(ha:PA X (e::es) t)
  (hbase:attributeBase o name X.env (eval o X.env)=eval o X.env:=by rfl)
  (hfew:((oB cpos (nS (e::es) X.env)).all (λx=>!x.1) && (oH cpos (ow [] X.env)).all (λx=>x.1.isSome)
   && decide ((e::es).length+([]:List pT).length+(if ([]:List pT).isEmpty then 0 else 1)<30))=rL:=by rfl)
  (hline:(apos.endLine == cpos.line)=rL:=by rfl) (hs:nS (e::es) X.env=(rM,eval e X.env)::nS es X.env:=by rfl) (hplain:(oB cpos (nS es X.env)).any (·.1)=rM:=by rfl) :
  PE X (.Call (.Attribute o name apos) (e::es) [] cpos) (zdI X.prog X.w r to t):=by
 intro rN s σ H Q I h;refine pK hbase hfew hline rfl (thn (ho rN s σ H _ I h) λv s1 ⟨x,H1,I1,r1,ty,q1⟩=>?_);obtain⟨a,kvs,ep,rfl,hA⟩:=ty;cases r1;obtain⟨_,kus,_,_,dd⟩:=Inv.odic I1 hA;refine#["dict",id,PySem.F.plainAttrs_dict,slot,hty,dd.dictOf.typeIs,dd.dictOf.mapOf.noDict,?_];have hA:=ha cpos rN s1 σ H1 _ I1 q1;rw[hs]at hA ⊢;refine Calls.callWith_builtin (by show (rM || (oB cpos (nS es X.env)).any (·.1))=rM;rw[hplain] <;> rfl) (Calls.evalArgs_plain ?_);exact thn hA λus s2 ⟨vs,H2,I2,r2,q2⟩=>hm rN s2 σ H2 (.ref a) vs _ us Q I2 rfl r2 q2
end
noncomputable def Itd(P:nZ)(w:oh)(a:nW)(kvs:List (og × V))(ep:Nat):It :=
 #[λi H=>i<kvs.length/\H a=rJ (ZW P w a kvs ep),λi H x H'=>H'=H/\∃p,kvs[i]? = rJ p/\x=.str p.1,λi H=>i=kvs.length/\H a=rJ (ZW P w a kvs ep)]
theorem WC{P:nZ}{w:oh}{K:nV}{tg:ol}(a it:nW)(kvs:List (og × V))(ep:Nat):Jj P w K tg (Itd P w a kvs ep) [it] it (λi h=>h.IsKeyIter it a i kvs.length ep) where
 mem:=by simp
 obj:=λi h st b hb=>by
  have e:b=it:=by simpa using hb
  subst e;obtain⟨o,e,c,d⟩:=st;exact#[o,e,λv z=>by rw[d]at z;cases z]
 keep:=λi h h' st k=>st.at λo e=>k it (by simp) o e
 item:=by
  intro X hP hw hK hc i rN s σ H E I hf st hg;subst hP hw hK;obtain⟨hi,ha⟩:=hg;obtain⟨f0,f1,f2,f3,f4,f5⟩:=hf it (by simp);obtain⟨_,kus,e,r,dd⟩:=Inv.odic I ha;have hl:kus.length=kvs.length:=by have:=congrArg ci e;rw[ac,ac]at this;exact this
  rw[<- hl]at st
  have hk:kus[i].1=kvs[i].1:=by
   have h1:=congrArg (λl=>l[i]?) e;simpa [hi,hl] using h1
  refine wpAny_pyNext_dict_item st dd (ae ⋯) λkey h' hkey st' sb=>?_;have I1:Inv X rN σ H { s with heap:=h' }:=I.turned (t':=s.toks) (λb o hb e=>(sb.2 b hb).trans e) f0 f1 f3 f4 f5;obtain⟨o,e',c,d⟩:=id st'
  have hr:RelV (.str kvs[i].1) key:=by
   replace hkey:(bq X.prog X.w).is kvs[i].1 key=rL:=by rw[<- hk];exact hkey
   cases key <;> simp [bq,Value.isStrOf]at hkey;exact#[_,by rw[hkey]]
  rw[hl]at st';exact#[key,rfl,Wn (s:={ s with heap:=h' }) e' c d ∅ #[_,H,I1,hr,#[rfl,_,ae hi,rfl],st',λb hb=>(hf b hb).1]]
 done:=by
  intro X hP hw hK hc i rN s σ H E I hf st hg;subst hP hw hK;obtain⟨rfl,ha⟩:=hg;obtain⟨f0,f1,f2,f3,f4,f5⟩:=hf it (by simp);obtain⟨_,kus,e,r,dd⟩:=Inv.odic I ha;have hl:kus.length=kvs.length:=by have:=congrArg ci e;rw[ac,ac]at this;exact this
  rw[<- hl]at st;exact wpAny_pyNext_dict_end (I.ok.hd hc) st dd (by simp) λh' eb=>#[rfl,I.turned (t':=s.toks) (λb o hb e=>eb b o hb e) f0 f1 f3 f4 f5]
 self:=λ_ _ _ _ _ st h=>wpAny_pyIter_keyiter st h
section
variable{X:Cx}{tg:ol}
def zdd(P:nZ)(w:oh)(tl:TE):TI:=λσ H R=>tl σ H λx H1=>∃a kvs ep,x=.ref a/\H1 a=rJ (ZW P w a kvs ep)/\R (Itd P w a kvs ep) H1
theorem zb5{l:ol}{tl:TE}(hl:PE X l tl):PI X tg l (zdd X.prog X.w tl):=by
 intro rN s σ H R I h;refine thn (hl rN s σ H _ I h) λv s1 ⟨x,H1,I1,r1,q1⟩=>?_;obtain⟨a,kvs,ep,e,ha,q⟩:=q1;subst e;cases r1;obtain⟨hsm,kus,e,r,dd⟩:=Inv.odic I1 ha;have hlen:kus.length=kvs.length:=by have:=congrArg ci e;rw[ac,ac]at this;exact this
 refine wpAny_pyIter_dict hsm dd ?_;refine#[s1⁻¹,[s1⁻¹],_,_,H1,rfl,I1.kept (t':=s1.toks) λb o e=>ag _ e,WC a _ kvs ep,#[_,aE _ rfl,rfl,by rw[hlen];rfl],λb hb=>?_,q];have e:b=s1⁻¹:=by simpa using hb
 subst e;exact I1.fpOk (al _) (I1.hok.fresh (al _))
end
def CompD(P:nZ)(w:oh)(a:nW)(kvs:List (og × V))(ep:Nat)(g:TG)(tt:TT)(te:TE)(own:Nat)(ix:())(σ:L2.St)(H1:Hp)(Q:VK)(D:nW):Prop:=ZT (Itd P w a kvs ep) g tt te own ix σ H1 Q D
theorem zda{P:nZ}{w:oh}{tl:TE}{g:TG}{tt:TT}{te:TE}{own:Nat}{ix:()}{σ:L2.St}{H:Hp}{Q:VK}:uC (zdd P w tl) g tt te own ix σ H Q=tl σ H λx H1=>∃a kvs ep,x=.ref a/\H1 a=rJ (ZW P w a kvs ep)/\∀D,H1 D=rK->CompD P w a kvs ep g tt te own ix σ H1 Q D:=rfl
section
variable{g:TG}{tt:TT}{te:TE}{own:Nat}{ix:()}{σ:L2.St}{H1:Hp}{Q:VK}{D:nW}
theorem CompD.by{P:nZ}{w:oh}{a:nW}{kvs:List (og × V)}{ep:Nat}(Pv:Nat->List V->Hp->Prop)(h0:Pv 0 [] (upd H1 D (.lst [])))(hl:∀i rP H',Pv i rP H'->H' a=rJ (ZW P w a kvs ep))
  (hs:∀i p rP H',kvs[i]? = rJ p->Pv i rP H'->g (.str p.1) (vx σ own ix) H' λσ3 H3=>yZ (vx σ own ix) σ3/\tt σ3 H3 λb H4=>if b=rL then
   te σ3 H4 λv H5=>H5 D=rJ (.lst rP)/\rP.length<nU/\CNx kvs.length i Pv (rP ++ [v]) (upd H5 D (.lst (rP ++ [v])))else CNx kvs.length i Pv rP H4)
  (hd:∀rP H',Pv kvs.length rP H'->Q (.ref D) H'):CompD P w a kvs ep g tt te own ix σ H1 Q D:=by
 refine#[λi m rP H=>m=kvs.length - i/\i<=kvs.length/\Pv i rP H,#[kvs.length,by simp,ay _,h0],?_];rintro i m rP H' ⟨rfl,hi,p⟩;have q:=hl i rP H' p;by_cases hlt:i<kvs.length
 ·refine .inr #[#[hlt,q],λv H2 y=>?_];obtain⟨rfl,r,hx,rfl⟩:=y;exact hs i r rP _ hx p
 ·have e:i=kvs.length:=⋯;subst e;exact .inl #[#[rfl,q],hd rP H' p]
end
section
variable{X:Cx}{scope:oN}{own caps:List og}{ix:()}{elt tg iter:ol}{ifs:List ol}{pos:oU}{wi:TI}{g:TG}{tt:TT}{te:TE}
theorem vY{EX:XK}(hc:X.calm=rL)(S:qZ X scope own caps ix)
  (hg:∀cl C rN s3 H3 fp,PG (yf X scope cl C (own ++ caps) rN s3 H3 fp λ_ _=>False) tg g)
  (ht:∀cl C rN s3 H3 fp xe,XE (yf X scope cl C (own ++ caps) rN s3 H3 fp xe) EX->PTs (yf X scope cl C (own ++ caps) rN s3 H3 fp xe) ifs tt)
  (hst:X.stack=X.env::X.outer/\X.env.frame=rJ X.env.locals) (hxe:XE X EX) (he:∀cl C rN s3 H3 fp xe,XE (yf X scope cl C (own ++ caps) rN s3 H3 fp xe) EX->PE (yf X scope cl C (own ++ caps) rN s3 H3 fp xe) elt te)
  {cl:List (og × nW)} (hc1:∀y c,cl.lookup y=rJ c->X.env.cells.lookup y=rJ c) (hc2:∀y,(y,NameKind.free) ∈ scope.names->∃c,cl.lookup y=rJ c)
  {rN:List (nW × oF)} {σ:St} {H2:Hp} {s2:nY} {Q:VK} {it:nW} {fp:List nW} {tn:Nat->oo->Prop} {J:It} (I2:Inv X rN σ H2 s2) (T:Jj X.prog X.w X.K tg J fp it tn) (st2:tn 0 s2.heap) (f2:∀b ∈ fp,xG X rN H2 b)
  (q:∀D,H2 D=rK->∃W:Nat->Nat->List V->Hp->Prop,(∃m,W 0 m [] (upd H2 D (.lst []))) /\
   ∀i m rP H',W i m rP H'->(J.stop i H'/\Q (.ref D) H')\/(J.go i H'/\∀x H2,J.yld i H' x H2->g x (vx σ own.length ix) H2 λσ3 H3=>yZ (vx σ own.length ix) σ3/\tt σ3 H3 λb H4=>if b=rL then
    te σ3 H4 λv H5=>H5 D=rJ (.lst rP)/\rP.length<nU/\∃m',m'<m/\W (i+1) m' (rP ++ [v]) (upd H5 D (.lst (rP ++ [v])))
    else ∃m',m'<m/\W (i+1) m' rP H4))
  {RR:nX->nW->pS->nY->Prop} {E:nX->nY->Prop}
  (hRR:∀D C m s' H',H2 D=rK->s'.heap.Ns C m->xG X rN H' C->Inv X rN σ H' s'->Q (.ref D) H'->RR (.ref D) C (.ok .next) s')
  (hRE:∀D C m s' x,s'.heap.Ns C m->(∀h',Heap.SameBut C s'.heap h'->∀cenv:pM,cenv.locals=C->oa (model X.prog X.w) X.A (fz "comprehension.variables-let-go" x cenv:rz nX) (λ_ _=>False) X.xe { s' with heap:=h' })->RR (.ref D) C (.error x) s') :
  oa (model X.prog X.w) X.A (newList []) (λrP s3=>oa (model X.prog X.w) X.A (newFunctionEnv scope X.env.globals cl [] X.env.qual rK .none (rJ X.env)) (λcenv s4 =>
   oS (model X.prog X.w) X.A (.compStart (.ListComp elt [#[tg,iter,ifs,0]] scope pos) 0 (.ref it) rP { cenv with scope:=relabel scope X.env }) (RR rP cenv.locals) s4) E s3) E s2:=by
 have hD:H2 s2⁻¹=rK:=I2.hok.fresh (al _);obtain⟨W,⟨m0,w0⟩,turn⟩:=q _ hD;refine pA (pO S.nocell (by intro y hy;simp at hy) (λh1 hns1 hsb1=>?_) S.kind);dsimp only at hns1 hsb1 ⊢
 have I3:Inv X rN σ (upd H2 s2⁻¹ (.lst [])) { s2 with heap:=s2.heap.push { cls:=.type "list",dict:=rK,data:=.seq ([]:List nX).toArray } } :=
  I2.lnew (its:=[]) (t':=s2.toks) .nil (ay _)
 generalize hs3:({ s2 with heap:=s2.heap.push { cls:=.type "list",dict:=rK,data:=.seq ([]:List nX).toArray } }:nY)=s3 at I3;have e3:s2.heap.push { cls:=.type "list",dict:=rK,data:=.seq ([]:List nX).toArray }=s3.heap:=by rw[<- hs3]
 rw[e3]at hns1 hsb1 ⊢;have k1:∀b o,s3.heap.get? b=rJ o->h1.get? b=rJ o:=λb o e=>(hsb1.2 b (av (ar e))).trans (ag _ e);have k23:∀b o,s2.heap.get? b=rJ o->s3.heap.get? b=rJ o:=λb o e=>by rw[<- e3];exact ag _ e
 have hz:s3⁻¹=s2⁻¹+1:=by rw[<- e3,cL]
 have fpObj:∀b ∈ fp,∃o,s2.heap.get? b=rJ o:=λb hb=>let #[o,e,_]:=T.obj 0 _ st2 b hb; #[o,e];have fplt:∀b ∈ fp,b<s2⁻¹:=λb hb=>let #[o,e]:=fpObj b hb;ar e;have f3:∀b ∈ fp,xG X rN (upd H2 s2⁻¹ (.lst [])) b:=λb hb=>#[by rw[zq (av (fplt b hb))];exact (f2 b hb).1,(f2 b hb).2]
 have I4:Inv (yf X scope cl s3⁻¹ (own ++ caps) rN s3 (upd H2 s2⁻¹ (.lst [])) fp λ_ _=>False) [] (vx σ own.length ix) (upd H2 s2⁻¹ (.lst [])) { s3 with heap:=h1,toks:=s3.toks+([]:List (og × nX)).length } :=
  Xa S hc1 hc2 I3 f3 (λb hb=>by rw[hz];exact cK (fplt b hb)) hns1 k1
 have st4:tn 0 h1:=T.keep 0 _ _ st2 λb hb o e=>k1 b o (k23 b o e);generalize hs4:({ s3 with heap:=h1,toks:=s3.toks+([]:List (og × nX)).length }:nY)=s4 at I4;have es4:({ s2 with heap:=h1,toks:=s2.toks+([]:List (og × nX)).length }:nY)=s4:=by rw[<- hs4,<- hs3]
 have e4:h1=s4.heap:=by rw[<- hs4]
 have loop:oS (model X.prog X.w) X.A (.compLoop (.ListComp elt [#[tg,iter,ifs,0]] scope pos) 0 (.ref it) (.ref s2⁻¹) (compEnvC scope cl s3⁻¹ X.env)) (RR (.ref s2⁻¹) s3⁻¹) s4:=by
  let X':=yf X scope cl s3⁻¹ (own ++ caps) rN s3 (upd H2 s2⁻¹ (.lst [])) fp λ_ _=>False
  have fp':∀{H':Hp},(∀b ∈ fp,H' b=rK)->∀b ∈ fp,xG X' [] H' b:=λ{H'} hn b hb=>by
   obtain⟨_,a1,a2,a3,a4,a5⟩:=f3 b hb;refine#[hn b hb,av (show b<s3⁻¹ from by rw[hz];exact cK (fplt b hb)),λz=>?_,.inl hb,λx c e=>a4 x c (hc1 x c e),λp hp=>?_]
   ·rcases rS.mp (I3.stkSub b z)with e | e
    ·exact a1 e
    ·exact a2 e
   ·have:p ∈ (X.pn ++ rN) ++ []:=hp;rw[aQ]at this;exact a5 p this
  refine Vc (λn s'=>∃i rP H',Inv X' [] (vx σ own.length ix) H' s'/\tn i s'.heap/\(∀b ∈ fp,H' b=rK)/\W i n rP H') rfl ?_ m0 #[0,[],_,I4,by rw[<- e4];exact st4,λb hb=>(f3 b hb).1,w0];rintro n s5 ⟨i,rP,H5,I5,st5,fr5,w5⟩;refine oQ ?_;rcases turn i n rP H5 w5 with ⟨stop,qn⟩ | ⟨go,step⟩
  ·refine thn (T.done X' rfl rfl rfl hc i [] s5 _ H5 _ I5 (fp' fr5) st5 stop) λr s6 ⟨hr,I6⟩=>?_;subst hr;obtain⟨m,hm,_⟩:=I6.loc;refine hRR _ _ m s6 H5 hD hm (I3.fpOk (al _) I6.free) (I3.call' (s':=s6) I6.os I6.base I6.hok I6.bare λb hb=>?_) qn;obtain⟨_,a1,a2,a3,a4,a5⟩:=f3 b hb;exact#[a3,a1,a4,a5]
  ·refine thn (T.item X' rfl rfl rfl hc i [] s5 _ H5 (λ_ _=>False) I5 (fp' fr5) st5 go) λr s6 ⟨u,hr,h6⟩=>?_;subst hr;refine oQ (thn h6 λ_ s7 ⟨x,H7,I7,r7,y7,st7,fr7⟩=>?_);have I7':=I7.pinned (fp' fr7) (T.obj _ _ st7);refine oQ (thn (hg _ _ _ _ _ _ _ s7 _ H7 x u _ I7' r7 (step x H7 y7)) λ_ s8 ⟨σ8,H8,I8,ks,q8⟩=>?_);refine thn (ht cl _ rN s3 (upd H2 s2⁻¹ (.lst [])) fp _ (λe s hfl=>Wj (RE:=λe s'=>RR (.ref s2⁻¹) s3⁻¹ (.error e) s') hst hxe hc1 I3 f3 hfl λm s' x a b=>hRE _ _ m s' x a b) _ s8 σ8 H8 _ (I8.wish _) q8) λb s9 ⟨H9,I9',q9⟩=>?_;have I9:=Inv.unwish (X:=X') I9'
   have back:∀{s':nY} {H':Hp} {acc':List V} {m':Nat},Inv X' ([] ++ k7 fp s7.heap) σ8 H' s'->m'<n->W (i+1) m' acc' H'->∃m,m<n/\∃i rP H',Inv X' [] (vx σ own.length ix) H' s'/\tn i s'.heap/\(∀b ∈ fp,H' b=rK)/\W i m rP H':=λ{s' H' acc' m'} J' hm w'=>by
    refine#[m',hm,i+1,acc',H',(J'.unpinned).weak ks.1 ks.2,T.keep _ _ _ st7 λb hb o e=>(J'.pin (b,o) (aD _ (aD _ (wB hb e)))).1,λb hb=>?_,w'];obtain⟨o,e,d⟩:=T.obj _ _ st7 b hb;exact (J'.pin (b,o) (aD _ (aD _ (wB hb e)))).2.1
   cases b with
   | false =>
    rw[if_neg aA]at q9 ⊢;obtain⟨m',hm,w'⟩:=q9;exact back I9 hm w'
   | true =>
    rw[if_pos rfl]at q9 ⊢;refine thn (he cl _ rN s3 (upd H2 s2⁻¹ (.lst [])) fp _ (λe s hfl=>Wj (RE:=λe s'=>RR (.ref s2⁻¹) s3⁻¹ (.error e) s') hst hxe hc1 I3 f3 hfl λm s' x a b=>hRE _ _ m s' x a b) _ s9 σ8 H9 _ (I9.wish _) q9) λv s10 ⟨y,H10,I10',r10,hD10,hsz,m',hm,w'⟩=>?_;have I10:=Inv.unwish (X:=X') I10';refine oQ ?_;have:=wn (X:=X') _ s10 σ8 H10 (.ref s2⁻¹) [y] (.ref s2⁻¹) [v] (λ_ H'=>H'=upd H10 s2⁻¹ (.lst (rP ++ [y]))) I10 rfl (.cons r10 .nil) #[rP,hD10,hsz,rfl];refine thn this λ_ s11 ⟨_,H11,I11,_,eH⟩=>?_;subst eH;exact back I11 hm w'
 have goal:oS (model X.prog X.w) X.A (.compStart (.ListComp elt [#[tg,iter,ifs,0]] scope pos) 0 (.ref it) (.ref s2⁻¹) (compEnvC scope cl s3⁻¹ X.env)) (RR (.ref s2⁻¹) s3⁻¹) s4 :=
  codeAny_compStart_list loop (T.self _ 0 s4 _ _ (by rw[<- e4];exact st4) loop)
 rw[<- es4]at goal;exact goal
theorem kX{EX:XK}(hc:X.calm=rL)(S:qZ X scope own caps ix)(hst:X.stack=X.env::X.outer/\X.env.frame=rJ X.env.locals)(hxe:XE X EX)(hi:PI X tg iter wi)
  (hg:∀cl C rN s3 H3 fp,PG (yf X scope cl C (own ++ caps) rN s3 H3 fp λ_ _=>False) tg g)
  (ht:∀cl C rN s3 H3 fp xe,XE (yf X scope cl C (own ++ caps) rN s3 H3 fp xe) EX->PTs (yf X scope cl C (own ++ caps) rN s3 H3 fp xe) ifs tt)
  (he:∀cl C rN s3 H3 fp xe,XE (yf X scope cl C (own ++ caps) rN s3 H3 fp xe) EX->PE (yf X scope cl C (own ++ caps) rN s3 H3 fp xe) elt te)
  (hs:∀x,foldedSetIterable iter X.env x=pure x:=by intro _;rfl) :
  PE X (.ListComp elt [#[tg,iter,ifs,0]] scope pos) (uC wi g tt te own.length ix):=by
 intro rN s σ H Q I h;obtain⟨cl,hclos,hc1,hc2⟩:=wW (scope:=scope) (env:=X.env) λy hy=>I.ok.has y (S.free y hy);rw[eval_ListComp];refine pH (use:=rK) rfl hs hclos S.kind S.names (thn (hi rN s σ H _ I h) λv s1 h1=>thn h1 λitv s2 h2=>?_);obtain⟨it,fp,tn,J,H2,e,I2,T,st2,f2,q⟩:=h2;subst e;refine vY (RR:=λrP C=>compPost (model X.prog X.w) X.A X.xe rK (EP X rN σ Q) rP C) hc S hg ht hst hxe he hc1 hc2 I2 T st2 f2 q ?_ ?_
 ·intro D C m s' H' _ hn fc I' qn;obtain⟨a0,a1,a2,a3,a4,a5⟩:=fc;exact#[m,hn,λh' sb=>#[.ref D,H',I'.turned (t':=s'.toks) (λb o hb e=>(sb.2 b hb).trans e) a0 a1 a3 a4 a5,rfl,qn]]
 ·intro D C m s' x hn hp;exact#[m,hn,hp]
theorem xeN:XE X E0:=λe s h=>by
 obtain⟨_,_,_,_,_,_,_,_,_,_,_,_,_,_,h⟩:=h;exact h.elim
theorem zaD{e:ol}{t:TE}(h:PE (X.wish λ_ _=>False) e t):PE X e t:=λrN s σ H Q I hq=>oQ (thn (h rN s σ H Q (I.wish _) hq) λv s' ⟨x,H',I',r,q⟩=>#[x,H',I'.unwish,r,q])
theorem QC{t:TT}(h:PTs (X.wish λ_ _=>False) ifs t):PTs X ifs t:=λrN s σ H Q I hq=>oQ (thn (h rN s σ H Q (I.wish _) hq) λv s' ⟨H',I',q⟩=>#[H',I'.unwish,q])
theorem yJ(hc:X.calm=rL)(S:qZ X scope own caps ix)(hi:PI X tg iter wi)
  (hg:∀cl C rN s3 H3 fp,PG (yf X scope cl C (own ++ caps) rN s3 H3 fp λ_ _=>False) tg g)
  (ht:∀cl C rN s3 H3 fp,PTs (yf X scope cl C (own ++ caps) rN s3 H3 fp λ_ _=>False) ifs tt)
  (he:∀cl C rN s3 H3 fp,PE (yf X scope cl C (own ++ caps) rN s3 H3 fp λ_ _=>False) elt te)
  (hst:X.stack=X.env::X.outer/\X.env.frame=rJ X.env.locals:=by exact#[rfl,rfl]) (hs:∀x,foldedSetIterable iter X.env x=pure x:=by intro _;rfl) :
  PE X (.ListComp elt [#[tg,iter,ifs,0]] scope pos) (uC wi g tt te own.length ix) :=
 kX hc S hst xeN hi hg (λa b c d e f _ _=>QC (ht a b c d e f)) (λa b c d e f _ _=>zaD (he a b c d e f)) hs
theorem JT{i:Nat}{y:og}{py spos:oU}(hN:X.N.Nodup)(hy:X.N[i]? = rJ y)(hly:Loc X.env.scope y)(hf:X.fn y=rL\/X.env.scope.names.lookup y=rJ .local)(hc:X.calm=rL)(S:qZ X scope own caps ix)(hi:PI X tg iter wi)
  (hg:∀cl C rN s3 H3 fp,PG (yf X scope cl C (own ++ caps) rN s3 H3 fp λ_ _=>False) tg g)
  (ht:∀cl C rN s3 H3 fp,PTs (yf X scope cl C (own ++ caps) rN s3 H3 fp λ_ _=>False) ifs tt)
  (he:∀cl C rN s3 H3 fp,PE (yf X scope cl C (own ++ caps) rN s3 H3 fp λ_ _=>False) elt te)
  (hst:X.stack=X.env::X.outer/\X.env.frame=rJ X.env.locals:=by exact#[rfl,rfl])
  (hsw:swapsWith (.ListComp elt [#[tg,iter,ifs,0]] scope pos) (rJ (.Name y py)) spos.line X.env=pure rL:=by rfl)
  (hs:∀x,foldedSetIterable iter X.env x=pure x:=by intro _;rfl) :
  PS X (.Assign [.Name y py] (.ListComp elt [#[tg,iter,ifs,0]] scope pos) spos) (jx i (uC wi g tt te own.length ix)):=by
 intro rN s σ H D I h;obtain⟨cl,hclos,hc1,hc2⟩:=wW (scope:=scope) (env:=X.env) λy hy=>I.ok.has y (S.free y hy);rw[exec_Assign_Name_used _ _ _ _ hsw];refine nP (oP (nP ?_));show oa _ X.A (do let _ <- comprehension (.ListComp elt [#[tg,iter,ifs,0]] scope pos) scope X.env _ (newList []) rM (eval iter X.env) (rJ (assign (.Name y py) X.env))) _ _ s;refine nP (thn (pH (use:=rJ (assign (.Name y py) X.env)) (Q:=λ_ s'=>SP X rN D .next s') rfl hs hclos S.kind S.names (thn (hi rN s σ H _ I h) λv s1 h1=>thn h1 λitv s2 h2=>?_)) λ_ s' hq=>nQ (nQ hq));obtain⟨it,fp,tn,J,H2,e,I2,T,st2,f2,q⟩:=h2;subst e;refine vY (Q:=λx H1=>D.nx (σ.set i (rJ x)) H1) (RR:=λrP C=>compPost (model X.prog X.w) X.A X.xe (rJ (assign (.Name y py) X.env)) (λ_ s'=>SP X rN D .next s') rP C) hc S hg (λa b c d e f _ _=>QC (ht a b c d e f)) hst xeN (λa b c d e f _ _=>zaD (he a b c d e f)) hc1 hc2 I2 T st2 f2 q ?_ λD C m s' x hn hp=>#[m,hn,hp];intro D' C m s' H1 hD' hn fc I1 nx;obtain⟨a0,a1,a2,a3,a4,a5⟩:=fc;show oa _ X.A (assign (.Name y py) X.env (.ref D')) _ _ s';refine rb (kH I1 hN hy hly (v:=.ref D') rfl (λs'' I2' ⟨a,sb,ha⟩=>?_) hf)
 have hCa:C≠a:=by
  rcases ha with e | e
  ·rw[e];exact a1
  ·exact λz=>a4 _ _ e z.symm
 refine#[m,hn.sameBut sb hCa,λh' sb'=>#[_,H1,I2'.turned (t':=s''.toks) (λb o hb e=>(sb'.2 b hb).trans e) a0 a1 a3 a4 a5,nx]]
end
section
variable{X:Cx}{scope:oN}{own caps:List og}{ix:()}{cl:List (og × nW)}{rN:List (nW × oF)}{σ:St}{H:Hp}{s:nY}{fp:List nW}{E:nX->nY->Prop}
end
section
variable{X:Cx}{scope:oN}{own caps:List og}{ix:()}{elt tg iter:ol}{ifs:List ol}{pos:oU}{wi:TI}{g:TG}{tt:TT}{te:TE}
end
section
variable{X:Cx}
end
section
variable{X:Cx}{rN:List (nW × oF)}{σ:L2.St}{H:Hp}{s:nY}
end
end L3
namespace LL
open PySem L2 L3
noncomputable def top(i:Nat):ot:=PySem.Challenge.pw_letterlaw_k59_thin_lists_completed.main.body.getD i (.Pass #[0,0,0,0])
noncomputable abbrev yq:ot:=xt (top 4) 0
noncomputable abbrev zW:ot:=xt (top 5) 0
noncomputable abbrev yH:ot:=top 9
noncomputable abbrev wo:ot:=top 10
noncomputable abbrev wT:ot:=top 11
noncomputable abbrev Jz:ot:=top 12
noncomputable abbrev xp:ot:=top 15
noncomputable abbrev ww:ot:=top 16
noncomputable abbrev wG:ot:=top 17
noncomputable abbrev xJ:ot:=xt (top 18) 0
noncomputable abbrev yl:ot:=xt (top 18) 1
noncomputable abbrev ZR:ot:=top 20
noncomputable abbrev vA:ot:=top 21
noncomputable abbrev WA:ot:=top 22
noncomputable abbrev uW:ot:=top 23
noncomputable abbrev jk:ot:=top 24
noncomputable abbrev xw:ot:=top 25
noncomputable abbrev YH:ot:=top 27
noncomputable abbrev jn:ot:=top 28
noncomputable abbrev vI:ot:=top 34
noncomputable abbrev wC:ot:=top 35
noncomputable abbrev wP:ot:=top 36
noncomputable abbrev uJ:ot:=top 37
noncomputable abbrev ym:ot:=top 38
noncomputable abbrev xu:ot:=top 39
noncomputable abbrev y4:ot:=top 40
noncomputable abbrev wj:ot:=top 41
noncomputable abbrev qe:ot:=top 42
noncomputable abbrev yv:ot:=top 48
noncomputable abbrev xK:ot:=top 49
noncomputable abbrev yL:ot:=top 50
noncomputable abbrev xq:ot:=top 51
noncomputable abbrev vE:ot:=top 52
noncomputable abbrev xL:ot:=top 53
noncomputable abbrev wm:ot:=xt (top 55) 0
noncomputable abbrev xo:ot:=xt (top 55) 1
noncomputable abbrev wx:ot:=xt (top 55) 2
noncomputable abbrev xg:ot:=xt (top 55) 3
noncomputable abbrev xn:ot:=xt (top 55) 4
noncomputable abbrev yO:ot:=xt (top 56) 0
noncomputable abbrev Vh:ot:=top 58
noncomputable abbrev Zy:ot:=top 59
noncomputable abbrev uM:ot:=top 60
noncomputable abbrev W6:ot:=top 61
noncomputable abbrev ZE:ot:=top 62
noncomputable abbrev Z5:ot:=top 63
noncomputable abbrev ZU:ot:=top 64
noncomputable abbrev Wx:ot:=top 65
noncomputable abbrev KZ:ot:=top 66
noncomputable abbrev uA:ot:=top 67
noncomputable abbrev VA:ot:=top 68
noncomputable abbrev VE:ot:=top 69
noncomputable abbrev Wv:ot:=top 70
noncomputable abbrev vj:ot:=top 71
noncomputable abbrev jd:ot:=top 72
noncomputable abbrev vH:ot:=top 73
noncomputable abbrev u8:ot:=top 74
section
variable{P:nZ}{w:oh}{K:nV}{mg:og->Option nX}{base:oo}
seal L2.PE L2.PS L2.PA L2.PT L2.PSs L2.PI L2.PG L2.PW L2.PGs
local macro_rules | `($a<<<$b)=>`(Df $(Lean.mkIdent `P) $(Lean.mkIdent `w) $(Lean.mkIdent `K) $(Lean.mkIdent `mg) $(Lean.mkIdent `base) CX0 $a $b)
local macro_rules | `($a>>>$b)=>`(Df $(Lean.mkIdent `P) $(Lean.mkIdent `w) $(Lean.mkIdent `K) $(Lean.mkIdent `mg) $(Lean.mkIdent `base) (CXx $(Lean.mkIdent `P) $(Lean.mkIdent `w)) $a $b)
local macro_rules | `($a&&&$b)=>`(FnOk $(Lean.mkIdent `P) $(Lean.mkIdent `w) $(Lean.mkIdent `K) $(Lean.mkIdent `mg) $(Lean.mkIdent `base) CX0 $a $(Lean.mkIdent `f) $(Lean.mkIdent `fd) $b)
local macro_rules | `($a|||$b)=>`(FnOk $(Lean.mkIdent `P) $(Lean.mkIdent `w) $(Lean.mkIdent `K) $(Lean.mkIdent `mg) $(Lean.mkIdent `base) (CXx $(Lean.mkIdent `P) $(Lean.mkIdent `w)) $a $(Lean.mkIdent `f) $(Lean.mkIdent `fd) $b)
local macro_rules | `(!!$a)=>`(rJ (.ref $a))
local macro_rules | `(~~~$a)=>`(rJ (.str (tx $a)))
local macro_rules | `(-~~~$a)=>`(rJ (.int (($a):Nat)))
local macro_rules | `(~~~!$a)=>`(rJ (.int $a))
local macro_rules | `($a^^^$b)=>`(Fun $(Lean.mkIdent `K) $a $a $b $(Lean.mkIdent `f) $(Lean.mkIdent `fd))
noncomputable abbrev sQz(n:Nat)(a:List PySem.Str)(s:PySem.Stmt):=zo a (a.take n) (zg s)
local macro_rules | `(tactic| rfl')=>do
 let A0←("zcq zct zc0 zc8 zcg zc4 zcS zcu zcp zcV KC Jv zcM zc3 zcR zcC zcI JE JC KA Kw JW zae JH KS JF zc1 zch zcT zcx zcW zcm zdb zc2 KN Ks JK zad Kt Ke Kj JN".splitOn " ").toArray.mapM fun s=>`(Lean.Parser.Tactic.simpLemma| ↓$(Lean.mkIdent s.toName):ident)
 let A1←("zce U0 zal zcd Xf tOp tUn tC uO zL xH tCB zak yK UH zan zcc tOr UG W5 kr tIf rI rI0 rU rGe zaj wM QU zam zb4 za3 tSl j1 Qi XQ zaq tBM Jw KQ L2.start zcJ cxK cxP cxW am aF aJ bS dN dO Nat.reduceAdd Nat.reduceSub cD dj aZ ba aY bo vx eE eF".splitOn " ").toArray.mapM fun s=>`(Lean.Parser.Tactic.simpLemma| $(Lean.mkIdent s.toName):ident)
 let A2←("zaT Jb Jc Jk zdL zcq zct zc0 zc8 zcg zc4 zcS zcu zcp zcV KC Jv zcM zc3 zcR zcC zcI JE JC KA Kw JW zae JH KS JF zc1 zch zcT zcx zcW zcm zdb zc2 KN Ks JK zad Kt Ke Kj JN".splitOn " ").toArray.mapM fun s=>`(Lean.Parser.Tactic.simpLemma| ↓$(Lean.mkIdent s.toName):ident)
 let A3←("zce vx eE eF rU jx Jg zaJ zbj U0 zal zcd Xf tOp tUn VV tC uO zL xH tCB zak yK UH zan zcc tOr UG W5 kr tIf rI rI0 rEq_is rNe_is zaj wM QU zb4 za3 zam tSl j1 Qi rGe decide_false decide_true Prod.mk.injEq rLen_is zaI zb8 WN UT V1 tyV tBM if_true if_false aU decide_eq_true_eq decide_eq_false_iff_not cJ fo eW lt1 XQ zaq JD qH K9 Zp Z6 zaw zbV za5 zaz zar zaH Value.ref.injEq L2.start zbh zbl zds zdN zdx zbi zdq Jw KQ zdw VR zbp zao zdf j4 WB kd yA uU zE zcJ Q2 zbJ cxK cxP cxW am aF aJ bS dN dO Nat.reduceAdd Nat.reduceSub and_assoc za9 exists_eq exists_eq' exists_eq_left' exists_eq_left exists_eq_right exists_eq_right' exists_and_left exists_and_right V.int.injEq V.ref.injEq V.str.injEq V.bl.injEq V.ty.injEq reduceCtorEq false_and and_false true_and and_true or_false false_or exists_false exists_const cD dj Option.some.injEq aZ ba List.cons.injEq aQ aY bo Jd Q7 Q9 Q5".splitOn " ").toArray.mapM fun s=>`(Lean.Parser.Tactic.simpLemma| $(Lean.mkIdent s.toName):ident)
 `(tactic| first | (dsimp only[$A0,*,$A1,*];try simp only[$A2,*,$A3,*]) | simp only[$A2,*,$A3,*])
local macro_rules | `(tactic| ac_rfl)=>do
 let A0←("yn zx zM yu yy zw".splitOn " ").toArray.mapM fun s=>`(Lean.Parser.Tactic.simpLemma| $(Lean.mkIdent s.toName):ident)
 `(tactic| repeat (first | rfl' | simp only[$A0,*]))
theorem xe0{X:Cx}:XE X E0:=λe s h=>by
 obtain⟨_,_,_,_,_,_,_,_,_,_,_,_,_,_,h⟩:=h;exact h.elim
def ZB(l:()):Prop:=∀c ∈ l,97<=c/\c<=122
noncomputable instance (l:()):Decidable (ZB l):=by unfold ZB;infer_instance
noncomputable def Y8(l:()):Bool:=decide (1<=l.length/\l.length<=6/\ZB l/\l.Nodup)
def jm:Sp:=λvs H Q _=>∃c:Nat,vs=[.str (tx [c])]/\Q (.bl (decide (97<=c/\c<=122))) H
theorem UM:sQz 1 ["sign"] yH:=by nofun
theorem Uv{f:nW}{fd:oe}(F:("is_small_letter"^^^yH)):(1&&&["sign"]) jm:=by
 exists F.ok UM
 ·obtain⟨c,rfl,q⟩:=h;refine#[_,(zh (zt (UF qW qW xb (pv 0) xb))),?_];have ea:cs (("a" : og))=[97]:=rfl;have ez:cs (("z" : og))=[122]:=rfl
  rfl'
  erw[ea,ez,uU,lt1]
  refine yU (λh=>?_) λh=>?_
  ·have e:decide (97<=c/\c<=122)=!decide (122<c):=by
    by_cases h2:122<c
    ·rw[decide_eq_true h2,decide_eq_false ⋯];rfl
    ·rw[decide_eq_false h2,decide_eq_true ⋯];rfl
   rw[e]at q;exact q
  ·rw[decide_eq_false ⋯]at q;exact q
structure zdH(K:nV)(mg:og->Option nX)(C:nW):Prop where
 xi:XI K C
 ini:ak K (.ref C) "__init__" = rJ (rJ (.builtin "ValueError.__init__"))
 g:mg "NoLetters" = rJ (.ref C)
 most:∃t,mg "MOST_LETTERS" = rJ (.int 6 t)
def vh(C:nW):Sp:=λvs H Q E=>∃l:(),vs=[.str (tx l)]/\l.length<=1000/\(Y8 l=rL->Q (.str (tx l)) H)/\(Y8 l=rM->E (.ref C) rK H)
theorem lE:sQz 1 ["text","sign"] wo:=by nofun
theorem jX{f C:nW}{fd:oe}(B:Bt mg)(T:zdH K mg C)(F:("letters_of"^^^wo))(Ds:(1<<<"is_small_letter") ["sign"] [] jm):(2|||["text"]) (vh C):=by
 exists Fun.okX F lE,0
 ·obtain⟨l,rfl,hl,q1,q2⟩:=h;obtain⟨t6,g6⟩:=T.most
  refine#[_,(zK (zZ (yo (YL qW qW ze (zF B.len (pv 0)) (y9 (v:=.int 6) rfl g6 #[t6,rfl])))
    (zh (y8 hx rfl T.xi.toXC T.ini rfl T.g (za xb zf)))
    zB)
   (zK (yg PassesOwn.leaving rfl (V3 (pv 0)) (zv (i:=1) lE.nd rfl (.inl rfl))
    (zK (zZ (yo (YY (cl0 Ds hr .nil rfl (za (pv 1) zf)) (λ_=>rfl)))
     (zh (y8 hx rfl T.xi.toXC T.ini rfl T.g (za xb zf)))
     zB)
    (zh (zZ (zG Vu (uX bK PySem.F.slot_str_count PySem.F.type_str_count JL (pv 0) (za (pv 1) zf)) ze (zI _))
     (zh (y8 hx rfl T.xi.toXC T.ini rfl T.g (za xb zf)))
     zB))))
   (zh (zt (pv 0))))),?_]
  have s16:=yb
  rfl'
  have bad:(¬ (1<=l.length/\l.length<=6/\ZB l/\l.Nodup))->∀H':Hp,H'=H->E (.ref C) rK H':=λh H' e=>by
   rw[e];exact q2 (decide_eq_false h)
  refine#[⋯,yU (λc=>yU (λc2=>#[⋯,bad (λh=>by have:=h.2.1;lia) H rfl]) (λc2=>?_)) (λc=>#[⋯,bad (λh=>by have:=h.1;lia) H rfl])];refine ForS.by (λi σ H'=>H'=H/\∃v,σ=[~~~l,v]/\ZB (l.take i)/\∀c ∈ l.take i,l.count c<=1) #[rfl,rK,rfl,λc h=>absurd h (by simp),λc h=>absurd h (by simp)] ?_ ?_
  ·refine nm4 ?_;rintro i c σ H' hg ⟨eH,v,rfl,hs,hn⟩:_;have hc:=af hg;right
   rfl'
   erw[jm]
   rfl'
   refine yU (λh=>#[⋯,bad (λz=>by have:=z.2.2.1 c hc;lia) _ eH]) (λh=>yU (λh2=>#[⋯,bad (λz=>?_) _ eH]) (λh2=>#[eH,?_,?_]))
   ·have:=sB.mp z.2.2.2 c;lia
   ·rw[zJ hg];intro x hx;rcases rT.mp hx with q | q
    ·exact hs x q
    ·have:x=c:=by simpa using q
     subst this;lia
   ·rw[zJ hg];intro x hx;rcases rT.mp hx with q | q
    ·exact hn x q
    ·have:x=c:=by simpa using q
     subst this;lia
  ·rintro σ H' ⟨eH,v,rfl,hs,hn⟩;rw[aG]at hs hn
   rfl'
   rw[eH];refine q1 (decide_eq_true #[⋯,⋯,hs,sB.mpr λc=>?_]);by_cases hc:c ∈ l
   ·exact hn c hc
   ·rw[List.count_eq_zero.mpr hc];lia
noncomputable def zr(l:())(k:Int)(p:()):Bool:=decide (0<=k/\k+p.length<=l.length/\(l.drop k.toNat).take p.length=p)
def xW:Sp:=λvs H Q _=>∃(l p:()) (k:Int),vs=[.str (tx l),.int k,.str (tx p)]/\l.length<=10000/\p.length<=10000/\Q (.bl (zr l k p)) H
theorem jG{l p:()}{k:Int}{H:Hp}{Q:VK}{E:XK}(h1:l.length<=10000)(h2:p.length<=10000)(h:Q (.bl (zr l k p)) H):xW [.str (tx l),.int k,.str (tx p)] H Q E:=#[l,p,k,rfl,h1,h2,h]
theorem k9:sQz 3 ["word","place","part"] wT:=by nofun
theorem kC{f:nW}{fd:oe}(B:Bt mg)(F:("stands_at"^^^wT)):(1&&&["word","place","part"]) xW:=by
 exists F.ok k9
 ·obtain⟨l,p,k,rfl,hl,hp,q⟩:=h
  refine#[_,(zK (zZ (yo (YL qW qW ze (pv 1) (zC xN (zF B.len (pv 0)) (zF B.len (pv 2)))))
    (zh (zt yT))
    zB)
   (zh (zt (wu qA (zP yx (pv 0) (zR (pv 1)) (zR (zC z6 (pv 1) (zF B.len (pv 2))))) (pv 2) (zI _))))),?_]
  have s16:=yb
  rfl'
  have no:¬ (0<=k/\k+p.length<=l.length/\(l.drop k.toNat).take p.length=p)->Q (.bl rM) H:=λh=>by
   have e:zr l k p=rM:=decide_eq_false h;rw[e]at q;exact q
  refine yU (λh0=>#[⋯,⋯,yU (λh1=>no λh=>absurd h.2.1 ⋯) λh1=>#[⋯,⋯,?_]]) λh0=>no λh=>h0 h.1;rw[ZX _ h0 ⋯ ⋯];have e:(k+(p.length:Int) - k).toNat=p.length:=⋯;rw[e]
  have e2:zr l k p=decide ((l.drop k.toNat).take p.length=p):=by
   unfold zr;exact decide_eq_decide.mpr #[λh=>h.2.2,λh=>#[h0,⋯,h]]
  rw[<- e2];exact q
noncomputable def yE(l:())(k:Int)(o n:()):():=l.take k.toNat ++ n ++ l.drop (k.toNat+o.length)
theorem ye{l o:()}{k:Int}(h:zr l k o=rL):l.take k.toNat ++ o ++ l.drop (k.toNat+o.length)=l/\(l.take k.toNat).length=k.toNat/\0<=k/\k+o.length<=l.length:=by
 unfold zr at h;rw[decide_eq_true_eq]at h;obtain⟨h0,h1,h2⟩:=h;refine#[?_,by rw[aC];lia,h0,h1]
 have e:l.drop k.toNat=o ++ l.drop (k.toNat+o.length):=by
  have:=bO o.length (l.drop k.toNat);rw[h2,eX]at this;exact this.symm
 rw[aP,<- e,bO]
theorem YZ{l o:()}{k:Int}(n:())(h:zr l k o=rL):zr (yE l k o n) k n=rL/\yE (yE l k o n) k n o=l:=by
 obtain⟨e,hl,h0,h1⟩:=ye h
 have e1:(yE l k o n).take k.toNat=l.take k.toNat:=by
  unfold yE;rw[aP,bg ⋯,aW ⋯]
 have e2:(yE l k o n).drop k.toNat=n ++ l.drop (k.toNat+o.length):=by
  unfold yE;rw[aP,bY ⋯,aX ⋯,aY]
 have e3:(yE l k o n).length=l.length - o.length+n.length:=by
  unfold yE
  erw[aj,aL,hl]
  lia
 refine#[?_,?_]
 ·unfold zr;refine decide_eq_true #[h0,⋯,?_];rw[e2,bg ⋯,aW ⋯]
 ·show (yE l k o n).take k.toNat ++ o ++ (yE l k o n).drop (k.toNat+n.length)=l;rw[e1,<- eX,e2,bY ⋯,aX ⋯,aY];exact e
theorem KF{l o n:()}{k:Int}(h0:0<=k):cut l rK (rJ k) ++ n ++ cut l (rJ (k + ↑o.length)) rK=yE l k o n:=by
 rw[vo _ h0,yS _ ⋯];have:(k+(o.length:Int)).toNat=k.toNat+o.length:=⋯;rw[this];rfl
structure TNU(K:nV)(mg:og->Option nX)(C:nW):Prop where
 xi:XI K C
 g:mg "NoUse" = rJ (.ref C)
 na:NoAttr K C "at"
theorem j6:sQz 2 ["self","at"] yq:=by nofun
theorem jj{f C:nW}{fd:oe}(T:TNU K mg C)(F:Fun K "__init__" "NoUse.__init__" yq f fd):(1&&&["self","at"]) (vf C "at"):=by
 exists F.ok j6
 ·obtain⟨x,v,rfl,hx,q⟩:=h;refine#[_,(zh (V4 (pv 0) (pv 1) rfl)),?_]
  erw[JZ]
  rfl'
  exact#[C,hx,T.xi.toXC,T.na,q]
structure DNU(P:nZ)(w:oh)(K:nV)(mg:og->Option nX)(base:oo)(C:nW):Prop extends TNU K mg C where
 ini:∃f fd,ak K (.ref C) "__init__" = rJ (rJ (.ref f))/\bj K (.ref f)=rL/\(1&&&["self","at"]) (vf C "at")/\Binds K fd ["self","at"] []
def YC(C:nW):Sp:=λvs H Q E=>∃(l o n:()) (k:Int),vs=[.str (tx l),.int k,.str (tx o),.str (tx n)]/\l.length<=10000/\o.length<=10000/\n.length<=10000/\(zr l k o=rL->Q (.str (tx (yE l k o n))) H)/\(zr l k o=rM->∀d H',zcN H d "at" (.int 0) H'->E (.ref C) (rJ d) H')
theorem zbP:sQz 4 ["word","place","old","new"] Jz:=by nofun
theorem zbB{f C:nW}{fd:oe}(B:Bt mg)(T:DNU P w K mg base C)(F:("put"^^^Jz))(mX:(1<<<"stands_at") ["word","place","part"] [] xW):(3|||["word","place","old","new"]) (YC C):=by
 obtain⟨fi,fdi,hi,hfn,Fi,Bi⟩:=T.ini
 exists Fun.okX F zbP,0
 ·obtain⟨l,o,n,k,rfl,hl,ho,hn,q1,q2⟩:=h
  refine#[_,(zK (zZ (yo (YY (cl0 mX hr .nil rfl (za (pv 0) (za (pv 1) (za (pv 2) zf)))) (λ_=>rfl)))
    (zh (kP hx rfl T.xi.toXC hi hfn Fi hr Bi rfl T.g (za ze zf)))
    zB)
   (zh (zt (zC zN (zC zN (zP yx (pv 0) ya (zR (pv 1))) (pv 3)) (zP yx (pv 0) (zR (zC z6 (pv 1) (zF B.len (pv 2)))) ya))))),?_]
  have s16:=yb
  rfl'
  refine jG hl ho ?_
  rfl'
  refine yU (λhb=>#[⋯,XW (q2 hb)]) λhb=>?_;have hb':zr l k o=rL:=by simpa using hb
  obtain⟨_,_,h0,h1⟩:=ye hb';have c1:=xR l rK (rJ k);have c2:=xR l (rJ (k + ↑o.length)) rK;refine#[⋯,⋯,⋯,⋯,?_,?_]
  ·erw[aj]
   lia
  ·have e:cut l rK (rJ k) ++ n ++ cut l (rJ (k + ↑o.length)) rK=yE l k o n:=by
    rw[vo _ h0,yS _ ⋯];have:(k+(o.length:Int)).toNat=k.toNat+o.length:=⋯;rw[this];rfl
   rw[e];exact q1 hb'
structure TOrd(K:nV)(mg:og->Option nX)(CO CR CW:nW):Prop where
 cO:Cls K CO
 cR:Cls K CR
 cW:Cls K CW
 gO:mg "Order" = rJ (.ref CO)
 gR:mg "FromRight" = rJ (.ref CR)
 lO:NoAttr K CO "letters"
 lR:NoAttr K CR "letters"
 lW:NoAttr K CW "letters"
def OrdAt(CO CR CW:nW)(H:Hp)(o:nW)(k:Nat)(l:())(ns:List Int):Prop:=∃dx,(k=0/\H o=rJ (.ins CO dx [("letters",.str (tx l))]))\/(k=1/\H o=rJ (.ins CR dx [("letters",.str (tx l))]))
theorem OrdAt.same{CO CR CW:nW}{H H':Hp}{o:nW}{k:Nat}{l:()}{ns:List Int}(h:OrdAt CO CR CW H o k l ns)(e:Same H H'):OrdAt CO CR CW H' o k l ns:=by
 obtain⟨dx,⟨h1,h2⟩ | ⟨h1,h2⟩⟩:=h
 ·exact#[dx,.inl #[h1,e _ _ h2]]
 ·exact#[dx,.inr #[h1,e _ _ h2]]
noncomputable def Uc(l:())(ns:List Int)(w:()):Int:=((l.zip ns).map λp=>(w.count p.1:Int) * p.2).sum
noncomputable def zu(k:Nat)(l:())(ns:List Int)(w:()):Int:=if k=2 then Uc l ns w else (w.length:Int)
noncomputable def yk(k:Nat)(w:()):():=if k=1 then w.reverse else w
def jJ(K:nV):Sp:=λvs H Q _=>∃(x C dx:nW) (l:()),vs=[.ref x,.str (tx l)]/\Y8 l=rL/\Cls K C/\NoAttr K C "letters"/\H x=rJ (.ins C dx [])/\Q .non (upd H x (.ins C dx [("letters",.str (tx l))]))
theorem jY:sQz 2 ["self","letters"] wm:=by nofun
theorem wY{f:nW}{fd:oe}(B:Bt mg)(F:Fun K "__init__" "Order.__init__" wm f fd)(mN:(2>>>"letters_of") ["text"] [] (vh C)):(3&&&["self","letters"]) (jJ K):=by
 exists F.ok jY
 ·obtain⟨x,C,dx,l,rfl,hg,hC,hN,hx,q⟩:=h;refine#[_,(zh (WD (pv 0) (clP xe0 mN hr .nil rfl (za (pv 1) zf)) rfl)),?_];have s16:=yb
  rfl'
  exact#[l,rfl,by have:=of_decide_eq_true hg;lia,λ_=>#[_,_,_,hx,hC,hN,∅,q],λe=>by rw[hg]at e;cases e]
def jH:Sp:=λvs H Q _=>∃(o:nW) (w:()),vs=[.ref o,.str (tx w)]/\w.length<=1000/\Q (.int (w.length:Nat)) H
theorem qt:sQz 2 ["self","word"] xo:=by nofun
theorem wv{f:nW}{fd:oe}(B:Bt mg)(F:Fun K "weight" "Order.weight" xo f fd) :(1&&&["self","word"]) jH:=by
 exists F.ok qt
 ·obtain⟨o,w,rfl,hw,q⟩:=h;refine#[_,(zh (zt (zF B.len (pv 1)))),?_];have s16:=yb
  rfl'
  exact#[⋯,q]
def VT:Sp:=λvs H Q _=>∃(o:nW) (w:()),vs=[.ref o,.str (tx w)]/\Q (.str (tx w)) H
theorem j0:sQz 2 ["self","word"] wx:=by nofun
theorem jB{f:nW}{fd:oe}(B:Bt mg)(F:Fun K "seen" "Order.seen" wx f fd) :(1&&&["self","word"]) VT:=by
 exists F.ok j0
 ·obtain⟨o,w,rfl,q⟩:=h;refine#[_,(zh (zt (pv 1))),?_];have s16:=yb
  rfl'
  exact q
def ZM:Sp:=λvs H Q _=>∃(o:nW) (w:()),vs=[.ref o,.str (tx w)]/\w.length<=1000/\Q (.str (tx w.reverse)) H
theorem vP:sQz 2 ["self","word"] yO:=by nofun
theorem vN{f:nW}{fd:oe}(B:Bt mg)(F:Fun K "seen" "FromRight.seen" yO f fd) :(1&&&["self","word"]) ZM:=by
 exists F.ok vP
 ·obtain⟨o,w,rfl,hw,q⟩:=h;refine#[_,(zh (zt (K2 (pv 1) (zc7 zbG ze)))),?_];have s16:=yb;ac_rfl;exact#[⋯,q]
theorem Jp{x y:V}{r:L2.St}:yZ (rK::rK::r) (rJ x::rJ y::r):=#[rfl,λi v h=>by
 cases i with
 | zero=>cases h
 | succ i =>
  cases i with
  | zero=>cases h
  | succ i=>exact h]
theorem zc5(l:())(c e:Nat):StrLaws.At (tx l) (tx [c]) (tx l).length e ↔ l[e]? = rJ c:=by
 unfold StrLaws.At Builtin.Str.subAt;rw[zE,zE];have h1:[c].length=1:=rfl;rw[h1,beq_iff_eq]
 have e1:((tx l).cps.extract e (e+1)).toList=(l.drop e).take 1:=by
  show (l.toArray.extract e (e+1)).toList=_;simp [d9]
 have e2:((tx l).cps.extract e (e+1)=(tx [c]).cps) ↔ (l.drop e).take 1=[c]:=by
  constructor
  ·intro h;rw[<- e1,h]
  ·intro h;apply Array.toList_inj.mp;rw[e1,h]
 constructor
 ·rintro⟨h2,h3⟩;have:=e2.mp h3;rw[aT ⋯,cU,bc]at this;rw[ae ⋯];injection this with h _;rw[h]
 ·intro h;obtain⟨he,hx⟩:=rQ.mp h;refine#[⋯,e2.mpr ?_];rw[aT he,cU,bc,hx]
theorem Q4{l:()}{c:Nat}(h:c ∈ l):Txt.find (tx l) (tx [c])=((l.idxOf c:Nat):Int):=by
 have hlt:=cq h;have hg:l[l.idxOf c]? = rJ c:=by rw[ae hlt,dY]
 rcases PyProof.Rows.find_whole (tx l) (tx [c])with ⟨h1,h2⟩ | ⟨e,h1,h2,h3⟩
 ·exact absurd ((zc5 l c _).mpr hg) (h2 _)
 ·have he:=(zc5 l c e).mp h2
  have:e=l.idxOf c:=by
   rcases d7 e (l.idxOf c)with q | q | q
   ·have:=List.not_of_lt_findIdx (p:=(· == c)) q;obtain⟨h4,h5⟩:=rQ.mp he;simp [h5]at this
   ·exact q
   ·exact absurd ((zc5 l c _).mpr hg) (h3 _ q)
  rw[h1,this]
abbrev MkO(P:nZ)(w:oh)(K:nV)(mg:og->Option nX)(base:oo)(C:nW):Prop:=DMk P w K mg base CX0 3 C ["self","letters"] (jJ K)
abbrev MW(P:nZ)(w:oh)(K:nV)(mg:og->Option nX)(base:oo)(C:nW)(m:og)(sp:Sp):Prop:=DM P w K mg base CX0 1 C m ["self","word"] sp
structure TWS(P:nZ)(w:oh)(K:nV)(mg:og->Option nX)(base:oo)(CO CR CW:nW):Prop extends TOrd K mg CO CR CW where
 mO:MkO P w K mg base CO
 mR:MkO P w K mg base CR
 wO:MW P w K mg base CO "weight" jH
 wR:MW P w K mg base CR "weight" jH
 sO:MW P w K mg base CO "seen" VT
 sR:MW P w K mg base CR "seen" ZM
structure OG(l:())(ns:List Int)(k:Nat):Prop where
 g:Y8 l=rL
 k3:k<3
 nl:ns.length=l.length
 nb:∀n ∈ ns,1<=n/\n<=1000000
noncomputable def uh(l:())(w:()):List Int:=w.map λc=>((l.idxOf c:Nat):Int)
noncomputable def vw(k:Nat)(l:())(w:()):List Int:=uh l (yk k w)
def zbW(CO CR CW:nW):nW->Prop:=λC=>C=CO\/C=CR\/C=CW
theorem OrdAt.fam{CO CR CW:nW}{H:Hp}{o:nW}{k:Nat}{l:()}{ns:List Int}(h:OrdAt CO CR CW H o k l ns):∃C dx fs,zbW CO CR CW C/\H o=rJ (.ins C dx fs)/\(∀m:og,m≠"letters"->m≠"weights"->fs.lookup m=rK)/\fs.lookup ("letters" : og)=rJ (V.str (tx l)):=by
 have e1:∀m:og,m≠"letters"->(m ==("letters" : og))=rM:=λm hm=>by simpa using hm
 obtain⟨dx,⟨h1,h2⟩ | ⟨h1,h2⟩⟩:=h
 ·exact#[_,_,_,.inl rfl,h2,λm hm _=>by simp [bi,e1 m hm],rfl]
 ·exact#[_,_,_,.inr (.inl rfl),h2,λm hm _=>by simp [bi,e1 m hm],rfl]
def u7(CO CR CW:nW):Sp:=λvs H Q _=>∃(o:nW) (k:Nat) (l:()) (ns:List Int) (w:()),vs=[.ref o,.str (tx w)]/\OrdAt CO CR CW H o k l ns/\OG l ns k/\w.length<=1000/\(∀c ∈ w,c ∈ l)/\∀(p q:nW) (H':Hp),Same H H'->H' p=rJ (.tup [.int (zu k l ns w),.ref q])->H' q=rJ (.lst ((vw k l w).map V.int))->Q (.ref p) H'
theorem Qb{H:Hp}{CO CR CW o D:nW}{k:Nat}{l:()}{ns:List Int}{v:()}{a1:Option V}{Q:VK}(T:TOrd K mg CO CR CW)(ho:OrdAt CO CR CW H o k l ns)(hl:v.length<=1000)(hm:∀c ∈ v,c ∈ l)(hD:H D=rK)(q:∀H',Same H H'->H' D=rJ (.lst ((uh l v).map V.int))->Q (.ref D) H') :
  CompS (tx v) (yK 0) xQ (tBM K "str" zw (zao K (z9 1) "letters") (zL (z9 0) xH)) 1 [0] [!!o,a1] H Q D:=by
 have s16:=yb;refine CompS.by (λi rP H'=>Same H H'/\H' D=rJ (.lst rP)/\rP=(uh l (v.take i)).map V.int) #[zd hD,zc,rfl] ?_ ?_
 ·refine nm4 ?_;rintro i c rP H' hc ⟨hs,hH,rfl⟩:_;have hci:=(rQ.mp hc).1;have hcl:=hm c (af hc);obtain⟨C,dx,fs,hf,ho',_,hlk⟩:=(ho.same hs).fam
  have hC:Cls K C/\NoAttr K C "letters":=by
   rcases hf with rfl | rfl | rfl
   ·exact#[T.cO,T.lO]
   ·exact#[T.cR,T.lR]
   ·exact#[T.cW,T.lW]
  right
  erw[xQ]
  ac_rfl;refine#[yP,_,_,_,ho',hC.1,hC.2,_,hlk,trivial,_,rfl,_,Q4 hcl,hH,by rw[ac];unfold uh;rw[ac,aC];lia,CNx.mk hci #[zD hs hD,zc,?_]];unfold uh;rw[zJ hc,ao,ao];rfl
 ·rintro rP H' ⟨hs,hH,rfl⟩;rw[aG]at hH;exact q H' hs hH
theorem jo:sQz 2 ["self","word"] xg:=by nofun
theorem vp{f CO CR CW:nW}{fd:oe}(B:Bt mg)(T:TWS P w K mg base CO CR CW)(F:Fun K "rank" "Order.rank" xg f fd) :(2&&&["self","word"]) (u7 CO CR CW):=by
 exists F.ok jo
 ·obtain⟨o,k,l,ns,w,rfl,ho,hG,hw,hm,q⟩:=h;refine#[_,(zh (zt (z5 (za (zbE T.wO T.wR T.wO T.cO T.cR T.cO hr (pv 0) (za (pv 1) zf)) (za (yJ (own:=["letter"]) (caps:=["self"]) (ix:=[0]) (tt:=xQ) (te:=(tBM K "str" zw (zao K (z9 1) "letters") (zL (z9 0) xH))) rfl (zQ (sc:=zg xg) rfl (by symm) (by symm) (by symm) rfl (by symm) (by symm) rfl) (V3 (zbE T.sO T.sR T.sO T.cO T.cR T.cO hr (pv 0) (za (pv 1) zf))) (λ_ _ _ _ _ _=>zv (i:=0) (show List.Nodup [_,_] by decide) rfl (.inl rfl)) (λ_ _ _ _ _ _=>yh) (λ_ _ _ _ _ _=>(uX bK PySem.F.slot_str_index PySem.F.type_str_index Kl (QT (pv 1) rfl) (za (pv 0) zf)))) zf))))),?_];have s16:=yb
  have hsl:(yk k w).length<=1000:=by
   unfold yk;split
   ·rw[bB];exact hw
   ·exact hw
  have hsm:∀c ∈ yk k w,c ∈ l:=λc hc=>by
   unfold yk at hc;split at hc
   ·exact hm c (rZ.mp hc)
   ·exact hm c hc
  have l6:l.length<=6:=(of_decide_eq_true hG.g).2.1;have fin:∀H1,Same H H1->∀D,H1 D=rK->CompS (tx (yk k w)) (yK 0) xQ (tBM K "str" zw (zao K (z9 1) "letters") (zL (z9 0) xH)) 1 [0] [!!o,~~~w] H1 (λx5 H1=>2<=nU/\∀p,H1 p=rK->Q (.ref p) (upd H1 p (.tup [.int (zu k l ns w),x5]))) D:=λH1 s1 D hD=>Qb T.toTOrd (ho.same s1) hsl hsm hD λH' s' hH=>#[⋯,λp hp=>q p D _ (s1.trans (s'.trans (zd hp))) zc (zd hp _ _ hH)];ac_rfl;obtain⟨dx',⟨h1,h2⟩ | ⟨h1,h2⟩⟩:=id ho
  ·have e1:zu k l ns w=(w.length:Int):=by unfold zu;rw[if_neg ⋯]
   have e2:yk k w=w:=by unfold yk;rw[if_neg ⋯]
   rw[e1,e2]at fin;exact .inl #[_,_,h2,rfl,o,w,rfl,hw,.inl #[_,_,h2,rfl,o,w,rfl,_,rfl,fin H (Same.refl _)]]
  ·have e1:zu k l ns w=(w.length:Int):=by unfold zu;rw[if_neg ⋯]
   have e2:yk k w=w.reverse:=by unfold yk;rw[if_pos h1]
   rw[e1,e2]at fin;exact .inr (.inl #[_,_,h2,rfl,o,w,rfl,hw,.inr (.inl #[_,_,h2,rfl,o,w,rfl,hw,_,rfl,fin H (Same.refl _)])])
noncomputable def zO(k:Nat)(l:())(ns:List Int)(u v:()):Bool:=if zu k l ns u=zu k l ns v then ltI (vw k l u) (vw k l v)else decide (zu k l ns u<zu k l ns v)
abbrev DR(P:nZ)(w:oh)(K:nV)(mg:og->Option nX)(base:oo)(CO CR CW:nW):Prop:=DMF P w K mg base CX0 2 (zbW CO CR CW) "rank" ["self","word"] (λ_=>u7 CO CR CW)
theorem ka{H:Hp}{p q:nW}{z:Int}{ns:List Int}(hp:H p=rJ (.tup [.int z,.ref q]))(hq:H q=rJ (.lst (ns.map V.int))):Is K H (.tup [.int z,.lst (ns.map L3.D.int)]) (.ref p):=by
 erw[Is,Iss]
 exact#[p,_,rfl,SqT.of hp,_,_,rfl,rfl,_,_,rfl,#[q,_,rfl,SqL.of hq,Iss.ints ns],rfl]
theorem yV:∀x:List Int,ltI x x=rM
 | []=>rfl
 | a::x=>by
  rw[ltI,if_pos rfl];exact yV x
theorem XU(a b:Int)(x y:List Int):ltD (.tup [.int a,.lst (x.map L3.D.int)]) (.tup [.int b,.lst (y.map L3.D.int)])=if a=b then ltI x y else decide (a<b):=by
 erw[ltD,xj,eqD,qf,kJ]
 by_cases h:a=b
 ·subst h;by_cases h2:x=y
  ·subst h2;simp [yV]
  ·simp [h2]
 ·simp [h]
def WP(CO CR CW:nW):Sp:=λvs H Q _=>∃(o:nW) (k:Nat) (l:()) (ns:List Int) (u v:()),vs=[.ref o,.str (tx u),.str (tx v)]/\OrdAt CO CR CW H o k l ns/\OG l ns k/\u.length<=1000/\v.length<=1000/\(∀c ∈ u,c ∈ l)/\(∀c ∈ v,c ∈ l)/\∀H':Hp,Same H H'->Q (.bl (zO k l ns u v)) H'
theorem uV:sQz 3 ["self","one","other"] xn:=by nofun
theorem we{f CO CR CW:nW}{fd:oe}(B:Bt mg)(DRk:DR P w K mg base CO CR CW)(F:Fun K "before" "Order.before" xn f fd) :(3&&&["self","one","other"]) (WP CO CR CW):=by
 exists F.ok uV
 ·obtain⟨o,k,l,ns,u,v,rfl,ho,hG,hu,hv,hmu,hmv,q⟩:=h;refine#[_,(zh (zt (wu (zbY (jW hr)) (zah DRk hr (pv 0) (za (pv 1) zf)) (zah DRk hr (pv 0) (za (pv 2) zf)) (zI _)))),?_];have s16:=yb;ac_rfl;obtain⟨C,dx,fs,hf,ho1,hn,_⟩:=ho.fam;have h1:fs.lookup ("rank" : og)=rK:=hn _ ∅ ∅;refine#[C,hf,dx,fs,ho1,h1,o,k,l,ns,u,rfl,ho,hG,hu,hmu,λp x H1 s1 hp hx=>#[C,hf,dx,fs,s1 _ _ ho1,h1,o,k,l,ns,v,rfl,ho.same s1,hG,hv,hmv,λp' x' H2 s2 hp' hx'=>?_]];refine Ka (ka (s2 _ _ hp) (s2 _ _ hx)) (ka hp' hx') (by erw[dpD,wI,j7];decide) (by erw[okD,qT];exact#[trivial,va _ _,trivial]) ?_;rw[XU];exact q H2 (s1.trans s2)
abbrev DB(P:nZ)(w:oh)(K:nV)(mg:og->Option nX)(base:oo)(CO CR CW:nW):Prop:=DMF P w K mg base CX0 3 (zbW CO CR CW) "before" ["self","one","other"] (λ_=>WP CO CR CW)
noncomputable def QJ(k:Int)(ls:())(ns:List Int)(w:()):Int:=(w.map λc=>if k=2 then ns.getD (ls.idxOf c) 0 else 1).sum
theorem U8{k:Int}{ls:()}{ns:List Int}{w:()}(h:k≠2):QJ k ls ns w=(w.length:Int):=by
 unfold QJ
 induction w with
 | nil=>rfl
 | cons c w ih =>
  rw[am,bf,ih,if_neg h,aJ];lia
theorem qw{ls:()}{ns:List Int}(f g:Nat->Int):((ls.zip ns).map λp=>(f p.1+g p.1) * p.2).sum=((ls.zip ns).map λp=>f p.1 * p.2).sum+((ls.zip ns).map λp=>g p.1 * p.2).sum:=by
 induction ls.zip ns with
 | nil=>rfl
 | cons p r ih =>
  rw[am,am,am,bf,bf,bf,ih,Int.add_mul];lia
theorem WK:∀{ls:()} {ns:List Int} {c:Nat},ls.Nodup->ns.length=ls.length->c ∈ ls->((ls.zip ns).map λp=>(if p.1=c then (1:Int)else 0) * p.2).sum=ns.getD (ls.idxOf c) 0
 | [],ns,c,_,_,hc=>(nomatch hc)
 | d::ls,[],c,_,hl,_=>by cases hl
 | d::ls,n::ns,c,hn,hl,hc=>by
  rw[cF,am,bf];have hnd:=si.mp hn;by_cases h:d=c
  ·subst h
   have h0:∀(l:()) (m:List Int),d ∉ l->((l.zip m).map λp=>(if p.1=d then (1:Int)else 0) * p.2).sum=0:=by
    intro l
    induction l with
    | nil=>intro m _;rfl
    | cons x l ih =>
     intro m hx
     cases m with
     | nil=>rfl
     | cons y m =>
      rw[cF,am,bf,ih m (λq=>hx (aq _ q)),if_neg (show ¬ x=d from λe=>hx (by rw[e];exact az))];lia
   rw[h0 ls ns hnd.1,if_pos rfl,List.idxOf_cons_self];simp
  ·have hc':c ∈ ls:=by
    rcases rS.mp hc with e | e
    ·exact absurd e.symm h
    ·exact e
   rw[WK hnd.2 (by simpa using hl) hc',if_neg h,List.idxOf_cons,show (d == c)=rM by simpa using h];simp
theorem Yr{ls:()}{ns:List Int}(hn:ls.Nodup)(hl:ns.length=ls.length):∀{w:()},(∀x ∈ w,x ∈ ls)->QJ 2 ls ns w=Uc ls ns w
 | [],_=>by
  have h0:∀r:List (Nat × Int),(r.map λp=>((([]:()).count p.1:Nat):Int) * p.2).sum=0:=by
   intro r
   induction r with
   | nil=>rfl
   | cons p r ih=>rw[am,bf,ih];simp
  exact (h0 _).symm
 | c::w,h=>by
  have ih:=Yr hn hl (w:=w) λx hx=>h x (aq _ hx)
  have e1:QJ 2 ls ns (c::w)=ns.getD (ls.idxOf c) 0+QJ 2 ls ns w:=by
   unfold QJ;rw[am,bf,if_pos rfl]
  rw[e1,ih,<- WK hn hl (h c az)];unfold Uc;rw[<- qw (λx=>if x=c then 1 else 0) (λx=>(w.count x:Int))];refine congrArg List.sum (bA λp _=>?_);rw[List.count_cons];by_cases e:c=p.1
  ·rw[if_pos e.symm,if_pos (by simpa using e)];simp [Int.add_comm]
  ·rw[if_neg (λz=>e z.symm),if_neg (by simpa using e)];simp
noncomputable def wt(k:Nat)(ns:List Int)(i:Int):Int:=if k=2 then ns.getD i.toNat 0 else 1
theorem xz{g:Int->Int}:∀{x:List Int},(∀i ∈ x,0<g i)->0<=(x.map g).sum
 | [],_=>by simp
 | a::x,h=>by
  have h1:=h a az;have h2:=xz (x:=x) λi hi=>h i (aq _ hi);rw[am,bf];lia
theorem wf:∀{x y:List Int},x≠y->ltI x y=!ltI y x
 | [],[],h=>absurd rfl h
 | [],_::_,_=>rfl
 | _::_,[],_=>rfl
 | a::x,b::y,h=>by
  rw[ltI,ltI];by_cases e:a=b
  ·rw[if_pos e,if_pos e.symm];exact wf λq=>h (by rw[e,q])
  ·rw[if_neg e,if_neg λq=>e q.symm];by_cases c:a<b
   ·rw[decide_eq_true c,decide_eq_false ⋯];rfl
   ·rw[decide_eq_false c,decide_eq_true ⋯];rfl
theorem uH:∀{x y z:List Int},ltI x y=rL->ltI y z=rL->ltI x z=rL
 | [],[],_,h,_=>by cases h
 | [],_::_,[],_,h=>by cases h
 | [],_::_,_::_,_,_=>rfl
 | _::_,[],_,h,_=>by cases h
 | _::_,_::_,[],_,h=>by cases h
 | a::x,b::y,c::z,h1,h2=>by
  rw[ltI]at h1 h2 ⊢;by_cases e:a=b
  ·subst e;rw[if_pos rfl]at h1;by_cases f:a=c
   ·rw[if_pos f]at h2 ⊢;exact uH h1 h2
   ·rw[if_neg f]at h2 ⊢;exact h2
  ·rw[if_neg e]at h1;have h1':=of_decide_eq_true h1;by_cases f:b=c
   ·subst f;rw[if_neg e];exact h1
   ·rw[if_neg f]at h2;have h2':=of_decide_eq_true h2;rw[if_neg ⋯];exact decide_eq_true ⋯
theorem ZS:∀(c x y:List Int),ltI (c ++ x) (c ++ y)=ltI x y
 | [],_,_=>rfl
 | a::c,x,y=>by
  rw[bo,bo,ltI,if_pos rfl];exact ZS c x y
theorem Yy{g:Int->Int}{c:List Int}:∀{x y:List Int},(∀i ∈ x,0<g i)->(∀i ∈ y,0<g i)->(x.map g).sum=(y.map g).sum->ltI (x ++ c) (y ++ c)=ltI x y
 | [],[],_,_,_=>yV c
 | [],b::y,_,hy,h=>by
  have h1:=hy b az;have h2:=xz (x:=y) λi hi=>hy i (aq _ hi);rw[am,bf,aF,List.sum_nil]at h;lia
 | a::x,[],hx,_,h=>by
  have h1:=hx a az;have h2:=xz (x:=x) λi hi=>hx i (aq _ hi);rw[am,bf,aF,List.sum_nil]at h;lia
 | a::x,b::y,hx,hy,h=>by
  rw[bo,bo,ltI,ltI];by_cases e:a=b
  ·rw[if_pos e,if_pos e];rw[am,bf,am,bf,e]at h;exact Yy (λi hi=>hx i (aq _ hi)) (λi hi=>hy i (aq _ hi)) ⋯
  ·rw[if_neg e,if_neg e]
section
variable{k:Nat}{l:()}{ns:List Int}{t u v:()}
theorem Uj(a b:()):Uc l ns (a ++ b)=Uc l ns a+Uc l ns b:=by
 unfold Uc;rw[<- qw (λx=>(a.count x:Int)) (λx=>(b.count x:Int))];refine congrArg List.sum (bA λp _=>?_);rw[List.count_append];simp
theorem yY(a b:()):zu k l ns (a ++ b)=zu k l ns a+zu k l ns b:=by
 unfold zu;by_cases h:k=2
 ·rw[if_pos h,if_pos h,if_pos h,Uj]
 ·rw[if_neg h,if_neg h,if_neg h,aj];lia
theorem yX(G:OG l ns k):∀{w:()},(∀c ∈ w,c ∈ l)->zu k l ns w=((uh l w).map (wt k ns)).sum:=by
 intro w hm;have hn:l.Nodup:=(of_decide_eq_true G.g).2.2.2
 have e:((uh l w).map (wt k ns)).sum=QJ (k:Int) l ns w:=by
  unfold uh QJ;rw[bF];refine congrArg List.sum (bA λc _=>?_);show wt k ns _=_;unfold wt;by_cases h:k=2
  ·rw[if_pos h,if_pos ⋯,aH]
  ·rw[if_neg h,if_neg ⋯]
 rw[e];unfold zu;by_cases h:k=2
 ·rw[if_pos h,h];exact (Yr hn G.nl hm).symm
 ·rw[if_neg h,U8 ⋯]
theorem Zb(G:OG l ns k)(hm:∀c ∈ u,c ∈ l):∀i ∈ uh l u,0<wt k ns i:=by
 intro i hi;obtain⟨c,hc,rfl⟩:=rR.mp hi;have hlt:=cq (hm c hc);have hl:=G.nl;unfold wt;split
 ·rw[aH,aa,ae ⋯];have:=(G.nb _ (em (l:=ns) (n:=l.idxOf c) ⋯)).1;show 0<ns[l.idxOf c];lia
 ·decide
theorem wV(G:OG l ns k)(hm:∀c ∈ u,c ∈ l):0<=zu k l ns u:=by
 rw[yX G hm];exact xz (Zb G hm)
theorem qP(G:OG l ns k)(hm:∀c ∈ u,c ∈ l)(h:u≠[]):0<zu k l ns u:=by
 cases u with
 | nil=>exact absurd rfl h
 | cons a u =>
  have h1:=Zb G hm (l.idxOf a:Nat) (rR.mpr #[a,az,rfl]);have h2:0<=((uh l u).map (wt k ns)).sum:=xz (Zb (u:=u) G λc hc=>hm c (aq _ hc));rw[yX G hm];show 0<((((l.idxOf a:Nat):Int)::uh l u).map (wt k ns)).sum;rw[am,bf];lia
theorem jy:∀{u v:()},(∀c ∈ u,c ∈ l)->(∀c ∈ v,c ∈ l)->uh l u=uh l v->u=v
 | [],[],_,_,_=>rfl
 | [],_::_,_,_,h=>by cases h
 | _::_,[],_,_,h=>by cases h
 | a::u,b::v,hu,hv,h=>by
  unfold uh at h;rw[am,am]at h;injection h with h1 h2;have h3:l.idxOf a=l.idxOf b:=⋯;have ha:=dY (cq (hu a az));have hb:=dY (cq (hv b az))
  have:a=b:=by
   rw[<- ha,<- hb]
   erw[h3]
  rw[this,jy (λc hc=>hu c (aq _ hc)) (λc hc=>hv c (aq _ hc)) h2]
theorem xl:zO k l ns u u=rM:=by
 unfold zO;rw[if_pos rfl,yV]
theorem jw(hu:∀c ∈ u,c ∈ l)(hv:∀c ∈ v,c ∈ l)(h:vw k l u=vw k l v):u=v:=by
 unfold vw yk at h;by_cases e:k=1
 ·rw[if_pos e,if_pos e]at h;exact List.reverse_inj.mp (jy (λc hc=>hu c (rZ.mp hc)) (λc hc=>hv c (rZ.mp hc)) h)
 ·rw[if_neg e,if_neg e]at h;exact jy hu hv h
theorem qh(hu:∀c ∈ u,c ∈ l)(hv:∀c ∈ v,c ∈ l)(h:u≠v):zO k l ns u v=!zO k l ns v u:=by
 unfold zO;by_cases e:zu k l ns u=zu k l ns v
 ·rw[if_pos e,if_pos e.symm];exact wf λq=>h (jw hu hv q)
 ·rw[if_neg e,if_neg λq=>e q.symm];by_cases c:zu k l ns u<zu k l ns v
  ·rw[decide_eq_true c,decide_eq_false ⋯];rfl
  ·rw[decide_eq_false c,decide_eq_true ⋯];rfl
theorem uS(h1:zO k l ns t u=rL)(h2:zO k l ns u v=rL):zO k l ns t v=rL:=by
 unfold zO at h1 h2 ⊢;generalize zu k l ns t=a at *;generalize zu k l ns u=b at *;generalize zu k l ns v=c at *;by_cases e:a=b
 ·subst e;rw[if_pos rfl]at h1;by_cases f:a=c
  ·rw[if_pos f]at h2 ⊢;exact uH h1 h2
  ·rw[if_neg f]at h2 ⊢;exact h2
 ·rw[if_neg e]at h1;have h1':=of_decide_eq_true h1;by_cases f:b=c
  ·subst f;rw[if_neg e];exact h1
  ·rw[if_neg f]at h2;have h2':=of_decide_eq_true h2;rw[if_neg ⋯];exact decide_eq_true ⋯
theorem Z9(a b:()):uh l (a ++ b)=uh l a ++ uh l b:=ao
theorem Zk(G:OG l ns k)(hu:∀c ∈ u,c ∈ l)(hv:∀c ∈ v,c ∈ l)(e:zu k l ns u=zu k l ns v)(c:List Int):ltI (uh l u ++ c) (uh l v ++ c)=ltI (uh l u) (uh l v):=by
 rw[yX G hu,yX G hv]at e;exact Yy (Zb G hu) (Zb G hv) e
theorem qI(G:OG l ns k)(hu:∀c ∈ u,c ∈ l):zu k l ns u.reverse=zu k l ns u:=by
 rw[yX G hu,yX G λc hc=>hu c (rZ.mp hc)];unfold uh;rw[eG,eG,List.sum_reverse]
theorem Zn(G:OG l ns k)(ht:∀c ∈ t,c ∈ l)(hu:∀c ∈ u,c ∈ l)(hv:∀c ∈ v,c ∈ l):zO k l ns (t ++ u) (t ++ v)=zO k l ns u v/\zO k l ns (u ++ t) (v ++ t)=zO k l ns u v:=by
 have hur:∀c ∈ u.reverse,c ∈ l:=λc hc=>hu c (rZ.mp hc);have hvr:∀c ∈ v.reverse,c ∈ l:=λc hc=>hv c (rZ.mp hc);unfold zO;rw[yY,yY,yY,yY];by_cases e:zu k l ns u=zu k l ns v
 ·rw[if_pos ⋯,if_pos e,if_pos ⋯];unfold vw yk;by_cases f:k=1
  ·erw[if_pos f,List.reverse_append,Z9]
   exact#[Zk G hur hvr (by rw[qI G hu,qI G hv,e]) _,ZS _ _ _]
  ·erw[if_neg f,Z9]
   exact#[ZS _ _ _,Zk G hu hv e _]
 ·rw[if_neg ⋯,if_neg e,if_neg ⋯];exact#[by congr 1;exact propext ⋯,by congr 1;exact propext ⋯]
theorem U7(G:OG l ns k)(ht:∀c ∈ t,c ∈ l)(hu:∀c ∈ u,c ∈ l)(hv:∀c ∈ v,c ∈ l)(h:t ++ u ++ v≠u):zO k l ns u (t ++ u ++ v)=rL/\zO k l ns (t ++ u ++ v) u=rM:=by
 have h0:0<zu k l ns t+zu k l ns v:=by
  have h1:=wV G ht;have h2:=wV G hv;by_cases e:t=[]
  ·by_cases f:v=[]
   ·subst e f;simp at h
   ·have:=qP G hv f;lia
  ·have:=qP G ht e;lia
 unfold zO;rw[yY,yY,if_neg ⋯,if_neg ⋯];exact#[decide_eq_true ⋯,decide_eq_false ⋯]
end
theorem k8:∀x y:List Int,ltI x y=rL->ltI y x=rM
 | [],[],h=>by cases h
 | [],_::_,_=>rfl
 | _::_,[],h=>by cases h
 | a::x,b::y,h=>by
  rw[ltI]at h ⊢;by_cases e:a=b
  ·rw[if_pos e]at h;rw[if_pos e.symm];exact k8 x y h
  ·rw[if_neg e]at h;rw[if_neg (λq=>e q.symm)];have:=of_decide_eq_true h;exact decide_eq_false ⋯
theorem Z3{k:Nat}{l:()}{ns:List Int}{u v:()}(h:zO k l ns u v=rL):zO k l ns v u=rM:=by
 unfold zO at h ⊢;by_cases e:zu k l ns u=zu k l ns v
 ·rw[if_pos e]at h;rw[if_pos e.symm];exact k8 _ _ h
 ·rw[if_neg e]at h;rw[if_neg (λq=>e q.symm)];have:=of_decide_eq_true h;exact decide_eq_false ⋯
noncomputable def stJ(l:())(ps:List zp)(q j:Nat):Bool:=((ps[j]?).map λp=>zr l (q:Int) p.1).getD rM
theorem qV{l:()}{ps:List zp}{q j:Nat}{p:zp}(h:ps[j]? = rJ p):stJ l ps q j=zr l (q:Int) p.1:=by
 unfold stJ;rw[h];rfl
theorem wK{l:()}{ps:List zp}{q j:Nat}(h:stJ l ps q j=rL):j<ps.length/\∃p,ps[j]? = rJ p/\zr l (q:Int) p.1=rL:=by
 unfold stJ at h
 cases e:ps[j]? with
 | none=>rw[e]at h;cases h
 | some p =>
  rw[e]at h;exact#[(rQ.mp e).1,p,rfl,h]
noncomputable def uZ(l:())(ps:List zp)(q i:Nat):List (Nat × Nat):=((aR i).filter (stJ l ps q)).map λj=>(j,q)
noncomputable def xv(l:())(ps:List zp)(k:Nat):List (Nat × Nat):=(aR k).flatMap λq=>uZ l ps q ps.length
theorem Xc(l:())(ps:List zp)(q i:Nat):uZ l ps q (i+1)=uZ l ps q i ++ (if stJ l ps q i=rL then [(i,q)]else []):=by
 unfold uZ;rw[cG,cH,ao];congr 1;by_cases h:stJ l ps q i=rL
 ·rw[if_pos h,eN h];rfl
 ·rw[if_neg h,eO h];rfl
theorem qX(l:())(ps:List zp)(k:Nat):xv l ps (k+1)=xv l ps k ++ uZ l ps k ps.length:=by
 unfold xv;rw[cG,cX];simp
theorem VH(l:())(ps:List zp)(q i:Nat):(uZ l ps q i).length<=i:=by
 unfold uZ;rw[ac];have:=cM (stJ l ps q) (aR i);rw[dn]at this;exact this
theorem Vy(l:())(ps:List zp):∀k,(xv l ps k).length<=k * ps.length
 | 0=>by simp [xv]
 | k+1=>by
  rw[qX,aj,fF];have:=Vy l ps k;have:=VH l ps k ps.length;lia
theorem usesN_mem{l:()}{ps:List zp}{q i:Nat}{u:Nat × Nat}:u ∈ uZ l ps q i ↔ u.2=q/\u.1<i/\stJ l ps q u.1=rL:=by
 unfold uZ;rw[List.mem_map];constructor
 ·rintro⟨j,hj,rfl⟩;rw[List.mem_filter,eY]at hj;exact#[rfl,hj.1,hj.2]
 ·rintro⟨h1,h2,h3⟩;exact#[u.1,rX.mpr #[rW.mpr h2,h3],by rw[<- h1]]
theorem usesK_mem{l:()}{ps:List zp}{k:Nat}{u:Nat × Nat}:u ∈ xv l ps k ↔ u.2<k/\stJ l ps u.2 u.1=rL:=by
 unfold xv;rw[List.mem_flatMap];constructor
 ·rintro⟨q,hq,hu⟩;obtain⟨h1,h2,h3⟩:=usesN_mem.mp hu;rw[eY]at hq;rw[h1];exact#[hq,h3]
 ·rintro⟨h1,h2⟩;exact#[u.2,rW.mpr h1,usesN_mem.mpr #[rfl,(wK h2).1,h2]]
def uLt(a b:Nat × Nat):Prop:=a.2<b.2\/(a.2=b.2/\a.1<b.1)
theorem vS(l:())(ps:List zp)(q:Nat):∀i,(uZ l ps q i).Pairwise uLt
 | 0=>by simp [uZ]
 | i+1=>by
  rw[Xc];refine sr.mpr #[vS l ps q i,?_,λa ha b hb=>?_]
  ·split
   ·exact eM _ _
   ·exact List.Pairwise.nil
  ·obtain⟨h1,h2,_⟩:=usesN_mem.mp ha;split at hb
   ·rw[rV.mp hb];exact .inr #[h1,h2]
   ·cases hb
theorem wb(l:())(ps:List zp):∀k,(xv l ps k).Pairwise uLt
 | 0=>by simp [xv]
 | k+1=>by
  rw[qX];refine sr.mpr #[wb l ps k,vS l ps k _,λa ha b hb=>?_];have h1:=(usesK_mem.mp ha).1;have h2:=(usesN_mem.mp hb).1;exact .inl ⋯
def FirstN(l:())(ps:List zp)(lo hi n:Nat)(r:Option (Nat × Nat)):Prop :=
 (r=rK/\∀j q,j<n->lo<=q->q<hi->stJ l ps q j=rM) \/
 ∃n0 q0,r=rJ (n0,q0)/\n0<n/\lo<=q0/\q0<hi/\stJ l ps q0 n0=rL/\∀j q,j<n->lo<=q->stJ l ps q j=rL->q0<q\/(q0=q/\n0<=j)
theorem FirstN.uniq{l:()}{ps:List zp}{lo hi n:Nat}{r r':Option (Nat × Nat)}(h:FirstN l ps lo hi n r)(h':FirstN l ps lo hi n r'):r=r':=by
 rcases h with ⟨rfl,h⟩ | ⟨n0,q0,rfl,a1,a2,a3,a4,a5⟩
 ·rcases h' with ⟨rfl,_⟩ | ⟨n0,q0,rfl,a1,a2,a3,a4,a5⟩
  ·rfl
  ·rw[h n0 q0 a1 a2 a3]at a4;cases a4
 ·rcases h' with ⟨rfl,h⟩ | ⟨n1,q1,rfl,b1,b2,b3,b4,b5⟩
  ·rw[h n0 q0 a1 a2 a3]at a4;cases a4
  ·have x1:=a5 n1 q1 b1 b2 b4;have x2:=b5 n0 q0 a1 a2 a4;have e1:q0=q1:=⋯;have e2:n0=n1:=⋯;rw[e1,e2]
theorem Xk{l:()}{ps:List zp}{r:Option (Nat × Nat)}(h:FirstN l ps 0 l.length ps.length r):r=(xv l ps l.length).head?:=by
 have hs:=wb l ps l.length;refine h.uniq ?_
 cases e:xv l ps l.length with
 | nil =>
  refine .inl #[rfl,λj q _ _ hq=>?_]
  cases hb:stJ l ps q j with
  | false=>rfl
  | true =>
   have:(j,q) ∈ xv l ps l.length:=usesK_mem.mpr #[hq,hb];rw[e]at this;cases this
 | cons u us =>
  rw[e]at hs;have hu:u ∈ xv l ps l.length:=by rw[e];exact az
  obtain⟨h1,h2⟩:=usesK_mem.mp hu;refine .inr #[u.1,u.2,rfl,(wK h2).1,ay _,h1,h2,λj q hj _ hb=>?_];by_cases hq:q<l.length
  ·have:(j,q) ∈ xv l ps l.length:=usesK_mem.mpr #[hq,hb];rw[e]at this;rcases rS.mp this with e2 | e2
   ·rw[<- e2];exact .inr #[rfl,al _]
   ·rcases (sC.mp hs).1 _ e2 with h | ⟨h,h'⟩
    ·exact .inl h
    ·exact .inr #[h,dg h']
  ·exact .inl ⋯
theorem uN{l p:()}{q:Nat}(hp:p≠[])(h:zr l (q:Int) p=rL):q<l.length:=by
 obtain⟨h0,h1,_⟩:=of_decide_eq_true h;have:0<p.length:=sj.mpr hp;lia
theorem FirstN.keep{l:()}{ps:List zp}{lo hi n:Nat}{r:Option (Nat × Nat)}{p:zp}(h:FirstN l ps lo hi n r)(hp:ps[n]? = rJ p)(hn:∀q:Nat,lo<=q->q<(r.map Prod.snd).getD hi->zr l (q:Int) p.1=rM):FirstN l ps lo hi (n+1) r:=by
 rcases h with ⟨rfl,h⟩ | ⟨n0,q0,rfl,a1,a2,a3,a4,a5⟩
 ·refine .inl #[rfl,λj q hj h1 h2=>?_];by_cases e:j<n
  ·exact h j q e h1 h2
  ·have:j=n:=⋯;subst this;rw[qV hp];exact hn q h1 h2
 ·refine .inr #[n0,q0,rfl,⋯,a2,a3,a4,λj q hj h1 h2=>?_];by_cases e:j<n
  ·exact a5 j q e h1 h2
  ·have:j=n:=⋯;subst this;rw[qV hp]at h2;by_cases hq:q<q0
   ·rw[hn q h1 hq]at h2;cases h2
   ·lia
theorem FirstN.take{l:()}{ps:List zp}{lo hi n k:Nat}{r:Option (Nat × Nat)}{p:zp}(h:FirstN l ps lo hi n r)(hp:ps[n]? = rJ p)(h1:lo<=k)(h2:k<(r.map Prod.snd).getD hi)(h3:zr l (k:Int) p.1=rL)(hn:∀q:Nat,lo<=q->q<k->zr l (q:Int) p.1=rM):FirstN l ps lo hi (n+1) (rJ (n,k)):=by
 have hk:k<hi/\∀j q,j<n->lo<=q->stJ l ps q j=rL->k<q:=by
  rcases h with ⟨rfl,h⟩ | ⟨n0,q0,rfl,a1,a2,a3,a4,a5⟩
  ·refine#[h2,λj q hj hl hb=>?_];by_cases hq:q<hi
   ·rw[h j q hj hl hq]at hb;cases hb
   ·have h2':k<hi:=h2;lia
  ·have h2':k<q0:=h2;refine#[⋯,λj q hj hl hb=>?_];have:=a5 j q hj hl hb;lia
 refine .inr #[n,k,rfl,⋯,h1,hk.1,by rw[qV hp];exact h3,λj q hj hl hb=>?_];by_cases e:j<n
 ·exact .inl (hk.2 j q e hl hb)
 ·have:j=n:=⋯;subst this;rw[qV hp]at hb;by_cases hq:q<k
  ·rw[hn q hl hq]at hb;cases hb
  ·lia
theorem FirstN.window{l:()}{ps:List zp}{lo mid hi n:Nat}{r:Option (Nat × Nat)}(h0:FirstN l ps lo mid n rK)(hm:lo<=mid)(h:FirstN l ps mid hi n r):FirstN l ps lo hi n r:=by
 have h0':∀j q,j<n->lo<=q->q<mid->stJ l ps q j=rM:=by
  rcases h0 with ⟨_,h⟩ | ⟨_,_,h,_⟩
  ·exact h
  ·cases h
 rcases h with ⟨rfl,h⟩ | ⟨n0,q0,rfl,a1,a2,a3,a4,a5⟩
 ·refine .inl #[rfl,λj q hj h1 h2=>?_];by_cases e:q<mid
  ·exact h0' j q hj h1 e
  ·exact h j q hj ⋯ h2
 ·refine .inr #[n0,q0,rfl,a1,⋯,a3,a4,λj q hj h1 h2=>?_];by_cases e:q<mid
  ·rw[h0' j q hj h1 e]at h2;cases h2
  ·exact a5 j q hj ⋯ h2
def NeL(ps:List zp):Prop:=∀p ∈ ps,p.1≠[]
theorem FirstN.toEnd{l:()}{ps:List zp}{lo hi n:Nat}{r:Option (Nat × Nat)}(hN:NeL ps)(h:FirstN l ps lo hi n r)(hl:r=rK->l.length<=hi):FirstN l ps lo l.length n r:=by
 have hlt:∀j q,stJ l ps q j=rL->q<l.length:=λj q hb=>by
  obtain⟨_,p,hp,hs⟩:=wK hb;exact uN (hN p (af hp)) hs
 rcases h with ⟨rfl,h⟩ | ⟨n0,q0,rfl,a1,a2,a3,a4,a5⟩
 ·exact .inl #[rfl,λj q hj h1 h2=>h j q hj h1 (by have:=hl rfl;lia)]
 ·exact .inr #[n0,q0,rfl,a1,a2,hlt _ _ a4,a4,a5]
noncomputable def zA(l:())(ps:List zp):Option (Nat × Nat):=(xv l ps l.length).head?
theorem jr{l:()}{ps:List zp}{r:Option (Nat × Nat)}(h:FirstN l ps 0 l.length ps.length r):r=zA l ps:=Xk h
theorem Yb(l:())(ps:List zp)(hN:NeL ps):FirstN l ps 0 l.length ps.length (zA l ps):=by
 have hs:=wb l ps l.length;unfold zA
 cases e:xv l ps l.length with
 | nil =>
  refine .inl #[rfl,λj q _ _ hq=>?_]
  cases hb:stJ l ps q j with
  | false=>rfl
  | true =>
   have:(j,q) ∈ xv l ps l.length:=usesK_mem.mpr #[hq,hb];rw[e]at this;cases this
 | cons u us =>
  rw[e]at hs;have hu:u ∈ xv l ps l.length:=by rw[e];exact az
  obtain⟨h1,h2⟩:=usesK_mem.mp hu;refine .inr #[u.1,u.2,rfl,(wK h2).1,ay _,h1,h2,λj q hj _ hb=>?_]
  have hq:q<l.length:=by
   obtain⟨_,p,hp,hs⟩:=wK hb;exact uN (hN p (af hp)) hs
  have:(j,q) ∈ xv l ps l.length:=usesK_mem.mpr #[hq,hb];rw[e]at this;rcases rS.mp this with e2 | e2
  ·rw[<- e2];exact .inr #[rfl,al _]
  ·rcases (sC.mp hs).1 _ e2 with h | ⟨h,h'⟩
   ·exact .inl h
   ·exact .inr #[h,dg h']
noncomputable def Z8(ps:List zp)(n:Nat):zp:=ps.getD n ([],[])
theorem yB{ps:List zp}{n:Nat}{p:zp}(h:ps[n]? = rJ p):Z8 ps n=p:=by
 unfold Z8;rw[aa,h];rfl
noncomputable def jZ(l:())(ps:List zp)(u:Nat × Nat):():=yE l (u.2:Int) (Z8 ps u.1).1 (Z8 ps u.1).2
noncomputable def XR(ps:List zp)(l:()):():=((zA l ps).map (jZ l ps)).getD l
noncomputable def wAt(ps:List zp)(l:()):Nat->()
 | 0=>l
 | j+1=>XR ps (wAt ps l j)
noncomputable def sAt(ps:List zp)(l:())(j:Nat):List (Nat × Nat):=(aR j).map λi=>(zA (wAt ps l i) ps).getD (0,0)
theorem YO(ps:List zp)(l:())(j:Nat):sAt ps l (j+1)=sAt ps l j ++ [(zA (wAt ps l j) ps).getD (0,0)]:=by
 unfold sAt;rw[cG,ao];rfl
theorem ZQ(ps:List zp)(l:())(j:Nat):(sAt ps l j).length=j:=by
 unfold sAt;rw[ac,dn]
theorem xh{ps:List zp}{l:()}{j:Nat}{u:Nat × Nat}(h:zA (wAt ps l j) ps=rJ u):wAt ps l (j+1)=jZ (wAt ps l j) ps u:=by
 show XR ps (wAt ps l j)=_;unfold XR;rw[h];rfl
def qJ(ps:List zp)(l:())(j:Nat):Prop:=∀i,i<j->zA (wAt ps l i) ps≠rK
theorem jN{ps:List zp}{l:()}{i j:Nat}(h1:qJ ps l i)(h2:zA (wAt ps l i) ps=rK)(h3:qJ ps l j)(h4:zA (wAt ps l j) ps=rK):i=j:=by
 rcases d7 i j with h | h | h
 ·exact absurd h2 (h3 i h)
 ·exact h
 ·exact absurd h4 (h1 j h)
theorem Xe{l:()}{ps:List zp}{n q M lo:Nat}(h:FirstN l ps 0 l.length ps.length (rJ (n,q)))(hN:NeL ps)(hM:∀p ∈ ps,p.1.length<=M)(hlo:lo=0\/lo+M<=q+1):FirstN (jZ l ps (n,q)) ps 0 lo ps.length rK:=by
 refine .inl #[rfl,λj x hj _ hx=>?_];rcases h with ⟨h,_⟩ | ⟨n0,q0,e,a1,a2,a3,a4,a5⟩
 ·cases h
 ·injection e with e;injection e with e1 e2;subst e1 e2
  cases hb:stJ (jZ l ps (n,q)) ps x j with
  | false=>rfl
  | true =>
   obtain⟨_,p,hp,hs⟩:=wK hb;have hpm:=hM p (af hp);have hpn:=sj.mpr (hN p (af hp));have hxq:x+p.1.length<=q:=⋯;obtain⟨s0,s1,s2⟩:=of_decide_eq_true hs;rw[aH]at s2;obtain⟨_,p2,hp2,hs2⟩:=wK a4;obtain⟨t0,t1,t2⟩:=of_decide_eq_true hs2
   have e4:(jZ l ps (n,q)).take q=l.take q:=by
    unfold jZ yE;rw[aH,aP,bg (by rw[aC];lia),eZ,ef]
   have e5:∀z:(),((z.take q).drop x).take p.1.length=(z.drop x).take p.1.length:=λz=>by
    rw[List.drop_take,eZ];congr 1;lia
   have s3:(l.drop x).take p.1.length=p.1:=by rw[<- e5,<- e4,e5,s2]
   have:stJ l ps x j=rL:=by
    rw[qV hp];exact decide_eq_true #[⋯,⋯,by rw[aH];exact s3]
   have:=a5 j x hj (ay _) this;lia
theorem FirstN.lower{l:()}{ps:List zp}{lo hi n:Nat}(h:FirstN l ps 0 hi n rK)(hl:lo<=hi):FirstN l ps 0 lo n rK:=by
 rcases h with ⟨_,h⟩ | ⟨_,_,h,_⟩
 ·exact .inl #[rfl,λj q hj h1 h2=>h j q hj h1 ⋯]
 ·cases h
theorem Uu{l:()}{ps:List zp}{n q m:Nat}(h:FirstN l ps 0 l.length ps.length (rJ (n,q)))(hm:∀p ∈ ps,p.2.length<=m):(jZ l ps (n,q)).length<=l.length+m:=by
 rcases h with ⟨h,_⟩ | ⟨n0,q0,e,a1,a2,a3,a4,a5⟩
 ·cases h
 ·injection e with e;injection e with e1 e2;subst e1 e2;obtain⟨_,p,hp,hs⟩:=wK a4;have:=hm p (af hp);have er:=yB hp;unfold jZ yE
  erw[aj,aC,aL,er]
  lia
theorem uP{ps:List zp}{l:()}{m:Nat}(hN:NeL ps)(hm:∀p ∈ ps,p.2.length<=m):∀j,(wAt ps l j).length<=l.length+j * m
 | 0=>by simp [wAt]
 | j+1=>by
  have ih:=uP (l:=l) hN hm j;have hf:=Yb (wAt ps l j) ps hN;rw[fF]
  cases e:zA (wAt ps l j) ps with
  | none =>
   show (XR ps (wAt ps l j)).length<=_;unfold XR;rw[e];show (wAt ps l j).length<=_;lia
  | some u =>
   rw[xh e];rw[e]at hf;obtain⟨a,b⟩:=u;have:=Uu hf hm;lia
def UseAt(H:Hp)(r:Option (Nat × Nat))(v:V):Prop:=(r=rK/\v=.non)\/∃(n q:Nat) (p:nW),r=rJ (n,q)/\v=.ref p/\H p=rJ (.tup [.int (n:Nat),.int (q:Nat)])
theorem UseAt.same{H H':Hp}{r:Option (Nat × Nat)}{v:V}(h:UseAt H r v)(s:Same H H'):UseAt H' r v:=by
 rcases h with h | ⟨n,q,p,h1,h2,h3⟩
 ·exact .inl h
 ·exact .inr #[n,q,p,h1,h2,s _ _ h3]
theorem WU{l p:()}{lo hi:Int}{H:Hp}{Q:VK}(h0:0<=lo)(h1:0<=hi)(h:∀r:Int,((r=-1/\∀q:Nat,lo<=q->(q:Int)+p.length<=hi->zr l q p=rM)\/∃k:Nat,r=k/\lo<=k/\(k:Int)+p.length<=hi/\zr l k p=rL/\∀q:Nat,lo<=q->q<k->zr l q p=rM)->Q (.int r) H):Jq (.str (tx l)) [.str (tx p),.int lo,.int hi] H Q:=by
 refine#[l,p,lo,hi,rfl,rfl,h0,h1,λr hr=>h r ?_]
 have no:∀q:Nat,((l.drop q).take p.length≠p\/¬ q+p.length<=l.length)->zr l q p=rM:=λq hq=>decide_eq_false λ⟨_,b,c⟩=>by
  rcases hq with hq | hq
  ·exact hq c
  ·lia
 rcases hr with ⟨rfl,hn⟩ | ⟨k,rfl,k1,k2,k3,k4,hn⟩
 ·refine .inl #[rfl,λq q1 q2=>no q ?_];by_cases e:q+p.length<=l.length
  ·exact .inl (hn q q1 q2 e)
  ·exact .inr e
 ·exact .inr #[k,rfl,k1,k2,decide_eq_true #[⋯,⋯,k4],λq q1 q2=>no q (.inl (hn q q1 q2))]
def vK(K:nV):Sp:=λvs H Q _=>∃(a:nW) (l:()) (ps:List zp) (st en:Nat),vs=[.ref a,.str (tx l),.int (st:Nat),.int (en:Nat)]/\LsA K H a (ps.map dR)/\NeL ps/\(∀p ∈ ps,p.1.length<=1000)/\∀(r:Option (Nat × Nat)) (v:V) (H':Hp),Same H H'->UseAt H' r v->FirstN l ps st en ps.length r->Q v H'
theorem ZK{a:nW}{l:()}{ps:List zp}{st en:Nat}{s e:Int}{H:Hp}{Q:VK}{E:XK}(hs:s=(st:Nat))(he:e=(en:Nat))(hA:LsA K H a (ps.map dR))(hN:NeL ps)(hP:∀p ∈ ps,p.1.length<=1000)(q:∀(r:Option (Nat × Nat)) (v:V) (H':Hp),Same H H'->UseAt H' r v->FirstN l ps st en ps.length r->Q v H'):vK K [.ref a,.str (tx l),.int s,.int e] H Q E:=by
 subst hs he;exact#[a,l,ps,st,en,rfl,hA,hN,hP,q]
theorem gh:sQz 4 ["rules","word","start","end","found","number","rule","place"] xp:=by nofun
theorem qm{f:nW}{fd:oe}(B:Bt mg)(F:("first_within"^^^xp)) :(1&&&["rules","word","start","end"]) (vK K):=by
 exists F.ok gh
 ·obtain⟨a,l,ps,st,en,rfl,hA,hN,hP,q⟩:=h
  refine#[_,(zi (zy 4 gh.nd xA)
   (zi (yg PassesOwn.never rfl (yQ rfl B.enum (za (pv 0) zf)) (vn (n:=2) rfl (zV (zv (i:=5) gh.nd rfl (.inl rfl)) (zV (zv (i:=6) gh.nd rfl (.inl rfl)) xM)))
    (zK (zy 7 gh.nd (uX bK dB dC J4 (pv 1) (za (zl ix_tup (pv 6) ze) (za (pv 2) (za (zC z6 (zC xN (pv 3) ze) (zF B.len (zl ix_tup (pv 6) ze))) zf)))))
    (zh (zZ (zG op_ge' (pv 7) ze (zI _))
     (zK (zy 4 gh.nd (z5 (za (pv 5) (za (pv 7) zf))))
     (zh (zy 3 gh.nd (pv 7))))
     zB))))
   (zh (zt (pv 4))))),?_]
  have s16:=yb;obtain⟨xs,hX,hI⟩:=id hA;have hxl:=hI.len;rw[ac]at hxl;have s16:=yb;refine zj (λσ H'=>H'=H/\σ=[!!a,~~~l,-~~~st,-~~~en,rJ (.non),rK,rK,rK]) ?_ ?_
  ·rfl'
  rintro σ H1 ⟨rfl,rfl⟩:_;right;refine zj (λσ H'=>Same H1 H'/\∃(r:Option (Nat × Nat)) (v:V) (v3 v5 v6 v7:Option V),UseAt H' r v/\FirstN l ps st en ps.length r/\σ=[!!a,~~~l,-~~~st,v3,rJ (v),v5,v6,v7]) ?_ ?_
  ·rfl'
   refine#[#[_,SqL.of hX],ForEL.by (xs:=xs) (λi σ H'=>Same H1 H'/\∃(r:Option (Nat × Nat)) (v:V) (v5 v6 v7:Option V),UseAt H' r v/\FirstN l ps st en i r/\σ=[!!a,~~~l,-~~~st,rJ (.int (((r.map Prod.snd).getD en:Nat):Int)),rJ (v),v5,v6,v7]) #[Same.refl _,rK,.non,rK,rK,rK,.inl #[rfl,rfl],.inl #[rfl,λj q h=>absurd h (bU j)],rfl] (λi σ H' _ h=>SqL.of (h.1 _ _ hX)) ?_ ?_]
   ·rintro i y σ H' p hy ⟨hs,r,v,v5,v6,v7,hu,hF,rfl⟩ hpn;obtain⟨rl,pr,hri,rfl,hqr⟩:=hI.getR hy;have hm:=af hri;have hne:=sj.mpr (hN rl hm);have hrl:=hP rl hm;have s2:=hs.trans (zd (o:=.tup [.int (i:Nat),.ref pr]) hpn);have hq2:=zk s2 hqr;have hu2:=hu.same (zd (o:=.tup [.int (i:Nat),.ref pr]) hpn)
    rfl'
    refine#[_,SqT.of zc,rfl,_,_,rfl,_,_,rfl,rfl,_,rfl,_,hq2,_,rfl,_,rfl,_,hq2,_,rfl,_,#[by rw[zE];lia,rfl],WU ⋯ (by rw[zE];lia) λz hz=>#[z,rfl,?_]];rw[zE]at hz;rcases hz with ⟨rfl,hn⟩ | ⟨k,rfl,k1,k2,k3,hn⟩
    ·rw[if_neg ∅];exact#[s2,r,v,hu2,hF.keep hri λq q1 q2=>hn q ⋯ ⋯,rfl,rfl]
    ·rw[if_pos ⋯];refine#[⋯,λp2 hp2=>#[s2.trans (zd hp2),rJ (i,k),.ref p2,.inr #[i,k,p2,rfl,rfl,zc],hF.take hri ⋯ ⋯ k3 λq q1 q2=>hn q ⋯ q2,rfl,rfl]]
   ·rintro σ H' ⟨hs,r,v,v5,v6,v7,hu,hF,rfl⟩;rw[hxl]at hF;exact#[hs,r,v,hu,hF,_,_,_,_,rfl]
  rintro σ H2 ⟨s2,r,v,v3,v5,v6,v7,hu,hF,rfl⟩:_;right
  rfl'
  exact q r v H2 s2 hu hF
structure zdz(mg:og->Option nX):Prop where
 g:∃t,mg "WINDOW" = rJ (.int 128 t)
def jA(K:nV):Sp:=λvs H Q _=>∃(a:nW) (l:()) (ps:List zp) (st:Nat),vs=[.ref a,.str (tx l),.int (st:Nat)]/\LsA K H a (ps.map dR)/\NeL ps/\(∀p ∈ ps,p.1.length<=1000)/\l.length<=100000/\∀(r:Option (Nat × Nat)) (v:V) (H':Hp),Same H H'->UseAt H' r v->FirstN l ps st l.length ps.length r->Q v H'
theorem ky{a:nW}{l:()}{ps:List zp}{st:Nat}{s:Int}{H:Hp}{Q:VK}{E:XK}(hs:s=(st:Nat))(hA:LsA K H a (ps.map dR))(hN:NeL ps)(hP:∀p ∈ ps,p.1.length<=1000)(hl:l.length<=100000)(q:∀(r:Option (Nat × Nat)) (v:V) (H':Hp),Same H H'->UseAt H' r v->FirstN l ps st l.length ps.length r->Q v H'):jA K [.ref a,.str (tx l),.int s] H Q E:=by
 subst hs;exact#[a,l,ps,st,rfl,hA,hN,hP,hl,q]
theorem gA:sQz 3 ["rules","word","start","size","found"] ww:=by nofun
theorem jF{f:nW}{fd:oe}(B:Bt mg)(T:zdz mg)(F:("first_from"^^^ww))(mB:(1<<<"first_within") ["rules","word","start","end"] [] (vK K)):(2&&&["rules","word","start"]) (jA K):=by
 obtain⟨t8,g8⟩:=T.g
 exists F.ok gA
 ·obtain⟨a,l,ps,st,rfl,hA,hN,hP,hl,q⟩:=h
  refine#[_,(zi (zy 3 gA.nd (y9 (v:=.int 128) rfl g8 #[t8,rfl]))
   (zi (j5 PassesOwn.never (zG UU (pv 2) (zF B.len (pv 1)) (zI _))
    (zK (zy 4 gA.nd (cl0 mB hr .nil rfl (za (pv 0) (za (pv 1) (za (pv 2) (za (zC z6 (pv 2) (pv 3)) zf))))))
    (zK (zZ (zG op_notN' (pv 4) xA (zI _))
     (zh (zt (pv 4)))
     zB)
    (zK (zy 2 gA.nd (zC z6 (pv 2) (pv 3)))
    (zh (zy 3 gA.nd (zC kM (pv 3) ze)))))))
   (zh (zt xA)))),?_]
  have s16:=yb;have s16:=yb;refine zj (λσ H'=>H'=H/\σ=[!!a,~~~l,-~~~st,~~~!128,rK]) ?_ ?_
  ·rfl'
  rintro σ H1 ⟨rfl,rfl⟩:_;right;refine zj (λσ H'=>Same H1 H'/\FirstN l ps st l.length ps.length rK) ?_ ?_
  ·unfold Y4;refine#[λm σ H'=>∃(s z:Nat) (v4:Option V),m=l.length - s/\st<=s/\1<=z/\Same H1 H'/\FirstN l ps st s ps.length rK/\σ=[!!a,~~~l,-~~~s,-~~~z,v4],#[_,st,128,rK,rfl,al _,∅,Same.refl _,.inl #[rfl,λj q _ h1 h2=>by lia],rfl],?_];rintro m σ H' ⟨s,z,v4,rfl,hs,hz,sm,hF,rfl⟩
   rfl'
   refine#[⋯,yU (λhlt=>?_) λhge=>#[sm,hF.toEnd hN λ_=>by lia]];refine#[λσ' H''=>∃v4:Option V,Same H1 H''/\FirstN l ps st (s+z) ps.length rK/\σ'=[!!a,~~~l,rJ (.int ((s+z:Nat):Int)),rJ (.int ((z * 2:Nat):Int)),v4],λσ' H'' ⟨v4,a1,a2,a3⟩=>#[l.length - (s+z),⋯,s+z,rfl,⋯,z * 2,⋯,a1,a2,v4,a3],?_];refine ZK (en:=s+z) rfl ⋯ (hA.same sm) hN hP λr v H2 s2 hu hF2=>?_;rcases hu with ⟨rfl,rfl⟩ | ⟨n,qq,p,rfl,rfl,hp⟩
   ·rw[if_neg (λh=>h rfl)];exact#[.inr #[∅,∅],rJ .non,sm.trans s2,hF.window hs hF2,by push_cast;rfl]
   ·rw[if_pos (by intro h;cases h)];exact q _ _ H2 (sm.trans s2) (.inr #[n,qq,p,rfl,rfl,hp]) ((hF.window hs hF2).toEnd hN (λe=>by cases e))
  rintro σ H2 ⟨s2,hF⟩:_;right
  rfl'
  exact q rK .non H2 s2 (.inl #[rfl,rfl]) hF
theorem LsA.pushT{H:Hp}{D p:nW}{ds es:List L3.D}{xs vs:List V}(h1:H D=rJ (.lst xs))(h2:Iss K H ds xs)(hp:H p=rK)(hv:Iss K H es vs)(f:zY ds)(fe:zY es):LsA K (upd (upd H p (.tup vs)) D (.lst (xs ++ [.ref p]))) D (ds ++ [.tup es]):=by
 have e:(upd H p (.tup vs)) D=rJ (.lst xs):=zd hp _ _ h1;exact LsA.snoc e (Iss.same (zd hp) _ _ h2) f (by erw[xy];exact fe) (Is.tup hp hv)
structure zap(K:nV)(mg:og->Option nX)(C:nW):Prop where
 xi:XI K C
 ini:ak K (.ref C) "__init__" = rJ (rJ (.builtin "ValueError.__init__"))
 g:mg "TooFar" = rJ (.ref C)
noncomputable def dG(u:Nat × Nat):L3.D:=.tup [.int (u.1:Nat),.int (u.2:Nat),.bl rL]
theorem J0(u:Nat × Nat):xy (dG u):=by erw[dG,xy,zY,and_self]
theorem U1(us:List (Nat × Nat)):zY (us.map dG):=xU λd h=>by obtain⟨r,_,rfl⟩:=rR.mp h;exact J0 r
theorem zci{H:Hp}{n q:Nat}:Iss K H [.int (n:Nat),.int (q:Nat),.bl rL] [.int (n:Nat),.int (q:Nat),.bl rL]:=by
 erw[Iss,Is]
 exact#[_,_,rfl,rfl,_,_,rfl,rfl,_,_,rfl,rfl,rfl]
structure Rd(ps:List zp)(l:())(J:Nat):Prop where
 live:qJ ps l J
 len:∀j,j<=J->(wAt ps l j).length<=10000
 most:J<=10000
def xV(K:nV)(CF:nW):Sp:=λvs H Q E=>∃(a:nW) (l:()) (ps:List zp) (m:Int) (J:Nat),vs=[.ref a,.str (tx l),.int m]/\LsA K H a (ps.map dR)/\NeL ps/\ps.length<=100/\(∀p ∈ ps,p.1.length<=1000/\p.2.length<=1000)/\Rd ps l J /\
 ((zA (wAt ps l J) ps=rK/\(J:Int)<=m/\∀(p S:nW) (H':Hp),Same H H'->H' p=rJ (.tup [.ref S,.str (tx (wAt ps l J))])->LsA K H' S ((sAt ps l J).map dG)->H S=rK->Q (.ref p) H') \/
  (zA (wAt ps l J) ps≠rK/\(J:Int)=m/\∀H',Same H H'->E (.ref CF) rK H'))
theorem We{a:nW}{ps:List zp}{σ:L2.St}{H:Hp}{Q:VK}{D:nW}(hA:LsA K H a (ps.map dR))(hP:∀p ∈ ps,p.1.length<=1000)(hpl:ps.length<=100)(hD:H D=rK)(q:∀H',Same H H'->H' D=rJ (.lst ((ps.map λp=>(p.1.length:Int)).map V.int))->Q (.ref D) H') :
  CompL K a (yK 0) xQ (tCB (XS K) (zL (tOp (wM K) (z9 0) (tC (.int 0))) xH)) 1 [] σ H Q D:=by
 have s16:=yb;obtain⟨xs,hX,hI⟩:=hA;have hxl:=hI.len;rw[ac]at hxl;refine CompL.by (xs:=xs) (λi rP H'=>Same H H'/\H' D=rJ (.lst rP)/\rP=((ps.take i).map λp=>(p.1.length:Int)).map V.int) #[zd hD,zc,rfl] (λi rP H' _ h=>SqL.of (h.1 _ _ hX)) ?_ ?_
 ·refine nm4 ?_;rintro i x rP H' hx ⟨hs,hH,rfl⟩:_;have hil:=(rQ.mp hx).1;obtain⟨r,pr,hri,rfl,hqr⟩:=hI.getR hx;have hm:=hP r (af hri);right
  erw[xQ]
  rfl'
  refine#[yP,_,zk hs hqr,_,rfl,_,#[by rw[zE];lia,rfl],hH,by rw[ac,ac,aC];lia,CNx.mk hil #[zD hs hD,zc,?_]];rw[zJ hri,ao,ao,zE];rfl
 ·rintro rP H' ⟨hs,hH,rfl⟩;rw[hxl,aG]at hH;exact q H' hs hH
theorem zcX{H:Hp}{rs:List zp}{xs:List V}{i:Nat}{r:zp}(hI:Iss K H (rs.map dR) xs)(hi:rs[i]? = rJ r):∃p,atI xs (i:Int)=rJ (.ref p)/\SqT K H p [.str (tx r.1),.str (tx r.2)]:=by
 have hl:=hI.len;rw[ac]at hl;have hil:=(rQ.mp hi).1;obtain⟨v,a1,b1⟩:=qc (xs:=xs) (i:=(i:Int)) ⋯ ⋯;obtain⟨r',p,h1,rfl,h3⟩:=hI.getR (j:=i) b1;rw[hi]at h1;cases h1;exact#[p,a1,h3]
theorem ic:sQz 3 ["rules","word","most","longest","steps","use","number","place"] wG:=by nofun
theorem Kd{f CU CF:nW}{fd:oe}{dV:nX}(B:Bt mg)(T:zap K mg CF)(TU:DNU P w K mg base CU)(F:FunD K "gone" "gone" wG dV f fd)(lK:(2<<<"first_from") ["rules","word","start"] [] (jA K))(mM:(3>>>"put") ["word","place","old","new"] [] (YC CU)):(4|||["rules","word","most"]) (xV K CF):=by
 exists FunD.okX F ic,0
 ·obtain⟨a,l,ps,m,J,rfl,hA,hN,hpl,hP,hR,hq⟩:=h
  refine#[_,(zi (zy 3 ic.nd (X2 (zbd rfl) rfl B.max w6 (za (yJ (own:=["rule"]) (caps:=[]) (ix:=[]) (tt:=xQ) (te:=(tCB (XS K) (zL (tOp (wM K) (z9 0) (tC (.int 0))) xH))) rfl (zQ (sc:=zg wG) rfl (by symm) (by symm) (by symm) rfl (by symm) (by symm) rfl) (yi (pv 0)) (λ_ _ _ _ _ _=>zv (i:=0) (show List.Nodup [_] by decide) rfl (.inl rfl)) (λ_ _ _ _ _ _=>yh) (λ_ _ _ _ _ _=>(zF B.len (zl ix_tup (pv 0) ze)))) zf) (Wu ze QX)))
   (zi (zy 4 ic.nd (vR zf))
   (zi (zy 5 ic.nd (cl0 lK hr .nil rfl (za (pv 0) (za (pv 1) (za ze zf)))))
   (zi (j5 PassesOwn.leaving (zG op_notN' (pv 5) xA (zI _))
    (zi (zZ (zG op_ge' (zF B.len (pv 4)) (pv 2) (zI _))
     (zh (y8 hx rfl T.xi.toXC T.ini rfl T.g (za xb zf)))
     zB)
    (zi (zy 6 ic.nd (zl ix_tup (pv 5) ze))
    (zi (zy 7 ic.nd (zl ix_tup (pv 5) ze))
    (zi (zy 1 ic.nd (clP hx mM hr .nil rfl (za (pv 1) (za (pv 7) (za (zl ix_tup (zl ix_list (pv 0) (pv 6)) ze) (za (zl ix_tup (zl ix_list (pv 0) (pv 6)) ze) zf))))))
    (zi (wQ (uX bZ cB cC wn (pv 4) (za (z5 (za (pv 6) (za (pv 7) (za yT zf)))) zf)))
    (zh (zy 5 ic.nd (cl0 lK hr .nil rfl (za (pv 0) (za (pv 1) (za (yw (Yg rfl) rfl B.max w6 (za ze (za (zC z6 (zC xN (pv 7) (pv 3)) ze) zf))) zf))))))))))))
   (zh (zt (z5 (za (pv 4) (za (pv 1) zf))))))))),?_]
  have s16:=yb;have s16:=yb;refine zj (λσ H'=>Same H H'/\∃M:Int,(∀p ∈ ps,(p.1.length:Int)<=M)/\σ=[!!a,~~~l,~~~!m,~~~!M,rK,rK,rK,rK]) ?_ ?_
  ·rfl'
   erw[zdJ]
   rfl'
   obtain⟨xs,hX,hI⟩:=id hA;exact#[#[_,SqL.of hX],λD hD=>We hA (λp hp=>(hP p hp).1) hpl hD λH' s' hH=>#[D,_,0,rfl,rfl,SqL.of hH,λz _ hz=>#[s',z,λp hp=>hz _ (rR.mpr #[p,hp,rfl]),rfl]]]
  rintro σ H1 ⟨s1,M,hM,rfl⟩:_;right;refine zj (λσ H'=>Same H H'/\∃S:nW,H S=rK/\H' S=rJ (.lst [])/\σ=[!!a,~~~l,~~~!m,~~~!M,!!S,rK,rK,rK]) ?_ ?_
  ·rfl'
   exact#[⋯,λp hp=>#[s1.trans (zd hp),p,s1.free hp,zc,rfl]]
  rintro σ H2 ⟨s2,S,hSn,hS,rfl⟩:_;right;refine zj (λσ H'=>Same H H'/\H' S=rJ (.lst [])/\∃uv:V,UseAt H' (zA l ps) uv/\σ=[!!a,~~~l,~~~!m,~~~!M,!!S,rJ (uv),rK,rK]) ?_ ?_
  ·rfl'
   exact ky (st:=0) rfl (hA.same s2) hN (λp hp=>(hP p hp).1) (by have:=hR.len 0 (ay _);exact aM this ∅) λr v H' s' hu hF=>#[s2.trans s',s' _ _ hS,(by rw[jr hF]at hu;exact hu)]
  rintro σ H3 ⟨s3,hS3,uv,hu,rfl⟩:_;right;refine zj (λσ H'=>Same H H'/\zA (wAt ps l J) ps=rK/\LsA K H' S ((sAt ps l J).map dG)/\∃v5 v6 v7,σ=[!!a,rJ (.str (tx (wAt ps l J))),~~~!m,~~~!M,!!S,v5,v6,v7]) ?_ ?_
  ·unfold Y4;refine#[λk σ H'=>∃(j:Nat) (uv:V) (v6 v7:Option V),k=J - j/\j<=J/\Same H H'/\LsA K H' S ((sAt ps l j).map dG)/\UseAt H' (zA (wAt ps l j) ps) uv/\σ=[!!a,rJ (.str (tx (wAt ps l j))),~~~!m,~~~!M,!!S,rJ (uv),v6,v7],#[_,0,uv,rK,rK,rfl,ay _,s3,#[[],hS3,by erw[sAt,List.range_zero,aF,Iss]],hu,rfl],?_];rintro k σ H' ⟨j,uv,v6,v7,rfl,hj,hs,hL,hu,rfl⟩;have hlj:=hR.len j hj;have hRm:=hR.most;obtain⟨xs,hX,hI⟩:=id hA
   rfl'
   refine yU (λhne=>?_) λhne=>?_
   ·rcases hu with ⟨_,h⟩ | ⟨n,q0,p,hf,rfl,hp⟩
    ·exact absurd h hne
    have hF:=Yb (wAt ps l j) ps hN;rw[hf]at hF
    have hjJ:j<J\/(j=J/\(J:Int)=m/\∀H',Same H H'->E (.ref CF) rK H'):=by
     by_cases e:j=J
     ·subst e;rcases hq with ⟨h,_⟩ | ⟨_,h1,h2⟩
      ·rw[hf]at h;cases h
      ·exact .inr #[rfl,h1,h2]
     ·exact .inl ⋯
    have hJm:(J:Int)<=m:=by
     rcases hq with ⟨_,h,_⟩ | ⟨_,h,_⟩ <;> lia
    obtain⟨rl,hrl,hst⟩:∃rl,ps[n]? = rJ rl/\zr (wAt ps l j) (q0:Int) rl.1=rL:=by
     rcases hF with ⟨h,_⟩ | ⟨n0,q1,e,_,_,_,a4,_⟩
     ·cases h
     ·cases e;exact (wK a4).2
    have hlp:=hP rl (af hrl);have hw:=xh hf;obtain⟨pr,hai,hqr⟩:=zcX hI hrl;refine#[λσ' H''=>∃(uv:V) (v6 v7:Option V),j<J/\Same H H''/\LsA K H'' S ((sAt ps l (j+1)).map dG)/\UseAt H'' (zA (wAt ps l (j+1)) ps) uv/\σ'=[!!a,rJ (.str (tx (wAt ps l (j+1)))),~~~!m,~~~!M,!!S,rJ (uv),v6,v7],λσ' H'' ⟨uv,v6,v7,a0,a1,a2,a3,a4⟩=>#[J - (j+1),⋯,j+1,rfl,⋯,a1,a2,uv,a3,v6,v7,a4],?_];obtain⟨ys,hY,hJ2⟩:=id hL;have hyl:=hJ2.len;rw[ac,ZQ]at hyl;refine zj (λσ' H''=>H''=H'/\j<J/\σ'=[!!a,rJ (.str (tx (wAt ps l j))),~~~!m,~~~!M,!!S,!!p,v6,v7]) ?_ ?_
    ·rfl'
     refine#[_,.inl #[_,SqL.of hY,rfl],yU (λhge=>?_) λhge=>?_]
     ·rcases hjJ with h | ⟨_,_,h⟩
      ·lia
      ·exact#[⋯,h _ hs]
     ·rcases hjJ with h | ⟨e,h,_⟩
      ·exact h
      ·lia
    rintro σ' G1 ⟨rfl,hlt,rfl⟩:_;right;refine zj (λσ' H''=>H''=G1/\σ'=[!!a,rJ (.str (tx (wAt ps l j))),~~~!m,~~~!M,!!S,!!p,-~~~n,v7]) ?_ ?_
    ·rfl'
     exact#[_,SqT.of hp,rfl]
    rintro σ' G2 ⟨rfl,rfl⟩:_;right;refine zj (λσ' H''=>H''=G2/\σ'=[!!a,rJ (.str (tx (wAt ps l j))),~~~!m,~~~!M,!!S,!!p,-~~~n,-~~~q0]) ?_ ?_
    ·rfl'
     exact#[_,SqT.of hp,rfl]
    rintro σ' G3 ⟨rfl,rfl⟩:_;right;refine zj (λσ' H''=>H''=G3/\σ'=[!!a,rJ (.str (tx (wAt ps l (j+1)))),~~~!m,~~~!M,!!S,!!p,-~~~n,-~~~q0]) ?_ ?_
    ·rfl'
     have hq2:=zk hs hqr;exact#[_,SqL.of (hs _ _ hX),_,hai,_,rfl,_,hq2,_,rfl,_,SqL.of (hs _ _ hX),_,hai,_,rfl,_,hq2,_,rfl,wAt ps l j,rl.1,rl.2,(q0:Nat),rfl,hlj,by have:=hlp.1;lia,by have:=hlp.2;lia,λ_=>#[rfl,by rw[hw];unfold jZ;rw[yB hrl]],λh=>by rw[hst]at h;cases h]
    rintro σ' G4 ⟨rfl,rfl⟩:_;right;refine zj (λσ' H''=>Same H H''/\LsA K H'' S ((sAt ps l (j+1)).map dG)/\σ'=[!!a,rJ (.str (tx (wAt ps l (j+1)))),~~~!m,~~~!M,!!S,!!p,-~~~n,-~~~q0]) ?_ ?_
    ·rfl'
     refine#[.inl #[_,SqL.of hY],⋯,λt ht=>#[_,zd ht _ _ hY,⋯,zD (hs.trans (zd ht)) hSn,?_]];rw[YO,hf,ao];exact LsA.pushT hY hJ2 ht zci (U1 _) (by erw[zY,xy,and_self])
    rintro σ' G5 ⟨s5,hL5,rfl⟩:_;have hl1:=hR.len (j+1) hlt;have hM0:=hM rl (af hrl);right
    rfl'
    refine ky (st:=(if (q0:Int) - M+1 > 0 then (q0:Int) - M+1 else 0).toNat) (by split <;> lia) (hA.same s5) hN (λp hp=>(hP p hp).1) (aM hl1 ∅) λr v H' s' hu hF2=>#[hlt,s5.trans s',hL5.same s',?_];have hb:=Xe (M:=M.toNat) (lo:=(if (q0:Int) - M+1 > 0 then (q0:Int) - M+1 else 0).toNat) hF hN (λp hp=>by have:=hM p hp;lia) (by split <;> lia);rw[<- hw]at hb;rw[jr (hb.window (ay _) hF2)]at hu;exact hu
   ·have hv:uv=.non:=Decidable.not_not.mp hne
    have hf:zA (wAt ps l j) ps=rK:=by
     rcases hu with ⟨h,_⟩ | ⟨_,_,_,_,h,_⟩
     ·exact h
     ·rw[hv]at h;cases h
    have e:j=J:=by
     rcases eh j J with h | h
     ·exact absurd hf (hR.live j h)
     ·lia
    subst e;exact#[hs,hf,hL,rfl]
  rintro σ H4 ⟨s4,hF,hL,v5,v6,v7,rfl⟩:_;right
  rfl'
  rcases hq with ⟨_,_,hq⟩ | ⟨h,_⟩
  ·exact#[⋯,λp hp=>hq p S _ (s4.trans (zd hp)) zc (hL.same (zd hp)) hSn]
  ·exact absurd hF h
noncomputable abbrev Stp:=Int × Int × Bool
noncomputable def dSt(t:Stp):D:=.tup [.int t.1,.int t.2.1,.bl t.2.2]
noncomputable def sdl(r:zp)(f:Bool):zp:=if f=rL then r else (r.2,r.1)
noncomputable def yj(ps:List zp)(w:())(t:Stp):Option (()) :=
 if 0<=t.1/\t.1<ps.length then (if zr w t.2.1 (sdl (ps.getD t.1.toNat ([],[])) t.2.2).1=rL then rJ (yE w t.2.1 (sdl (ps.getD t.1.toNat ([],[])) t.2.2).1 (sdl (ps.getD t.1.toNat ([],[])) t.2.2).2)else rK)else rK
theorem Uw{H:Hp}{D p:nW}{ds es:List L3.D}{xs vs:List V}(h1:H D=rJ (.lst xs))(h2:Iss K H ds xs)(hp:H p=rK)(hv:Iss K H es vs)(f:zY ds)(fe:zY es):LsA K (upd (upd H p (.tup vs)) D (.lst (xs ++ [.ref p]))) D (ds ++ [.tup es]):=by
 have e:(upd H p (.tup vs)) D=rJ (.lst xs):=zd hp _ _ h1;exact LsA.snoc e (Iss.same (zd hp) _ _ h2) f (by erw[xy];exact fe) (Is.tup hp hv)
theorem zcj{H:Hp}{l m:()}:Iss K H [dS l,dS m] [.str (tx l),.str (tx m)]:=by
 erw[Iss,Is]
 exact#[_,_,rfl,rfl,_,_,rfl,rfl,rfl]
def jR(rs:List zp):Prop:=rs.length<=30/\∀r ∈ rs,r.1.length<=100/\r.2.length<=100
theorem QE{H:Hp}{t:Stp}{v:V}(h:Is K H (dSt t) v):∃p,v=.ref p/\SqT K H p [.int t.1,.int t.2.1,.bl t.2.2]:=by
 erw[dSt,Is,Iss]at h
 obtain⟨a,xs,e,hs,v1,r1,rfl,rfl,v2,r2,rfl,rfl,v3,r3,rfl,rfl,rfl⟩:=h;exact#[a,e,hs]
theorem YW{H:Hp}{p:nW}{t:Stp}(h:SqT K H p [.int t.1,.int t.2.1,.bl t.2.2]):Is K H (dSt t) (.ref p):=by
 erw[dSt,Is,Iss]
 exact#[p,_,rfl,h,_,_,rfl,rfl,_,_,rfl,rfl,_,_,rfl,rfl,rfl]
theorem Jh{H:Hp}{i j:Int}{b:Bool}:Iss K H [.int i,.int j,.bl b] [.int i,.int j,.bl b]:=by
 erw[Iss,Is]
 exact#[_,_,rfl,rfl,_,_,rfl,rfl,_,_,rfl,rfl,rfl]
theorem w4(rs:List Stp):zY (rs.map dSt):=xU λd h=>by obtain⟨r,_,rfl⟩:=rR.mp h;erw[dSt,xy,zY,and_self]
theorem w9{H:Hp}{rs:List Stp}{vs:List V}{j:Nat}{v:V}(h:Iss K H (rs.map dSt) vs)(q:vs[j]? = rJ v):∃r p,rs[j]? = rJ r/\v=.ref p/\SqT K H p [.int r.1,.int r.2.1,.bl r.2.2]:=by
 obtain⟨d,e,i⟩:=h.get q;rw[ax]at e;obtain⟨r,hr,rfl⟩:=rY.mp e;obtain⟨p,e1,e2⟩:=QE i;exact#[r,p,hr,e1,e2]
theorem zbg{H:Hp}{rs:List zp}{xs:List V}{i:Int}(hI:Iss K H (rs.map dR) xs)(h0:0<=i)(hi:i<rs.length):∃p,atI xs i=rJ (.ref p)/\rs[i.toNat]? = rJ (rs.getD i.toNat ([],[]))/\SqT K H p [.str (tx (rs.getD i.toNat ([],[])).1),.str (tx (rs.getD i.toNat ([],[])).2)]:=by
 have hl:=hI.len;rw[ac]at hl;obtain⟨v,a1,b1⟩:=qc (xs:=xs) (i:=i) h0 ⋯;obtain⟨r,p,h1,rfl,h3⟩:=hI.getR b1;have e:rs.getD i.toNat ([],[])=r:=by rw[aa,h1];rfl
 rw[e];exact#[p,a1,h1,h3]
theorem Zr{rs:List zp}(h:jR rs)(i:Nat):(rs.getD i ([],[])).1.length<=100/\(rs.getD i ([],[])).2.length<=100:=by
 rw[aa]
 cases e:rs[i]? with
 | none=>exact#[ay _,ay _]
 | some r=>exact h.2 r (af e)
theorem yW{ps:List zp}{w:()}{t:Stp}(h:¬ (0<=t.1/\t.1<ps.length)):yj ps w t=rK:=if_neg h
theorem yI{ps:List zp}{w:()}{t:Stp}(h:0<=t.1/\t.1<ps.length):yj ps w t=if zr w t.2.1 (sdl (ps.getD t.1.toNat ([],[])) t.2.2).1=rL then rJ (yE w t.2.1 (sdl (ps.getD t.1.toNat ([],[])) t.2.2).1 (sdl (ps.getD t.1.toNat ([],[])) t.2.2).2)else rK:=if_pos h
def Ch(rs:List zp)(ws:List (()))(ss:List Stp):Prop:=ws.length=ss.length+1/\∀i s,ss[i]? = rJ s->∃w w',ws[i]? = rJ w/\ws[i+1]? = rJ w'/\yj rs w s=rJ w'
noncomputable def bk(s:Stp):Stp:=(s.1,s.2.1,!s.2.2)
noncomputable def yD(ss:List Stp):List Stp:=ss.reverse.map bk
noncomputable def mvL(ss:List Stp)(z:Int):List Stp:=ss.map λs=>(s.1,s.2.1+z,s.2.2)
theorem KI(r:zp)(f:Bool):sdl r (!f)=((sdl r f).2,(sdl r f).1):=by cases f <;> rfl
theorem qK{rs:List zp}{w w':()}{s:Stp}(h:yj rs w s=rJ w'):yj rs w' (bk s)=rJ w:=by
 by_cases hb:0<=s.1/\s.1<rs.length
 ·rw[yI hb]at h;have hb':0<=(bk s).1/\(bk s).1<rs.length:=hb;rw[yI hb']
  erw[bk,KI]
  generalize sdl (rs.getD s.1.toNat ([],[])) s.2.2=r at *;by_cases hs:zr w s.2.1 r.1=rL
  ·rw[if_pos hs]at h;cases h;obtain⟨e1,e2⟩:=YZ r.2 hs;rw[if_pos e1,e2]
  ·rw[if_neg hs]at h;cases h
 ·rw[yW hb]at h;cases h
theorem Ch.back{rs:List zp}{ws:List (())}{ss:List Stp}(h:Ch rs ws ss):Ch rs ws.reverse (yD ss):=by
 obtain⟨hl,hs⟩:=h;refine#[by simp [yD,hl],λi s hi=>?_];have hil:i<ss.length:=by have:=(rQ.mp hi).1;simpa [yD] using this
 unfold yD at hi;rw[ax,bp hil]at hi;obtain⟨s0,h0,rfl⟩:=rY.mp hi;obtain⟨w,w',e1,e2,e3⟩:=hs _ _ h0;refine#[w',w,?_,?_,qK e3]
 ·rw[bp ⋯,<- e2];congr 1;lia
 ·rw[bp ⋯,<- e1];congr 1;lia
theorem Ys{a w b:()}{k:Nat}(h:k<=w.length):(a ++ w ++ b).drop (a.length+k)=w.drop k ++ b:=by
 rw[aP,<- eX,e7,bY h]
theorem jq{a w b o:()}{k:Int}(h:zr w k o=rL):zr (a ++ w ++ b) (k+(a.length:Int)) o=rL:=by
 obtain⟨_,_,h0,h1⟩:=ye h;unfold zr at h ⊢;rw[decide_eq_true_eq]at h ⊢;obtain⟨_,_,h2⟩:=h;refine#[⋯,by erw[aj];lia,?_];rw[show (k+(a.length:Int)).toNat=a.length+k.toNat by lia,Ys ⋯,bg (by rw[aL];lia),h2]
theorem Y9{a w b o n:()}{k:Int}(h:zr w k o=rL):yE (a ++ w ++ b) (k+(a.length:Int)) o n=a ++ yE w k o n ++ b:=by
 obtain⟨_,_,h0,h1⟩:=ye h;unfold yE;rw[show (k+(a.length:Int)).toNat=a.length+k.toNat by lia]
 have e1:(a ++ w ++ b).take (a.length+k.toNat)=a ++ w.take k.toNat:=by
  rw[aP,List.take_length_add_append,bg ⋯]
 have e2:(a ++ w ++ b).drop (a.length+k.toNat+o.length)=w.drop (k.toNat+o.length) ++ b:=by
  rw[Nat.add_assoc];exact Ys ⋯
 rw[e1,e2];simp [aP]
theorem vU{rs:List zp}{w w':()}{s:Stp}(a b:())(h:yj rs w s=rJ w'):yj rs (a ++ w ++ b) (s.1,s.2.1+(a.length:Int),s.2.2)=rJ (a ++ w' ++ b):=by
 by_cases hb:0<=s.1/\s.1<rs.length
 ·rw[yI hb]at h;rw[yI (by exact hb)];simp only;generalize sdl (rs.getD s.1.toNat ([],[])) s.2.2=r at *;by_cases hs:zr w s.2.1 r.1=rL
  ·rw[if_pos hs]at h;cases h;rw[if_pos (jq hs),Y9 hs]
  ·rw[if_neg hs]at h;cases h
 ·rw[yW hb]at h;cases h
theorem Ch.within{rs:List zp}{ws:List (())}{ss:List Stp}(a b:())(h:Ch rs ws ss):Ch rs (ws.map λw=>a ++ w ++ b) (mvL ss (a.length:Int)):=by
 obtain⟨hl,hs⟩:=h;refine#[by simp [mvL,hl],λi s hi=>?_];unfold mvL at hi;rw[ax]at hi;obtain⟨s0,h0,rfl⟩:=rY.mp hi;obtain⟨w,w',e1,e2,e3⟩:=hs _ _ h0;exact#[a ++ w ++ b,a ++ w' ++ b,by rw[ax,e1];rfl,by rw[ax,e2];rfl,vU a b e3]
theorem UN{w o n:()}{k:Int}(h:zr w k o=rL):(yE w k o n).length+o.length=w.length+n.length:=by
 obtain⟨e,hl,h0,h1⟩:=ye h;unfold yE
 erw[aj,aL,hl]
 lia
theorem jp{H:Hp}{D p:nW}{ds es:List L3.D}{xs vs:List V}(h1:H D=rJ (.lst xs))(h2:Iss K H ds xs)(hp:H p=rK)(hv:Iss K H es vs)(f:zY ds)(fe:zY es):Iss K (upd (upd H p (.tup vs)) D (.lst (xs ++ [.ref p]))) (ds ++ [.tup es]) (xs ++ [.ref p]):=by
 obtain⟨ys,hy1,hy2⟩:=Uw h1 h2 hp hv f fe;rw[zc]at hy1;cases hy1;exact hy2
def qg(K:nV):Sp:=λvs H Q _=>∃(t:nW) (ss:List Stp),vs=[.ref t]/\Is K H (.lst (ss.map dSt)) (.ref t)/\ss.length<=1000/\∀(D:nW) (H':Hp),H D=rK->Same H H'->LsA K H' D ((yD ss).map dSt)->Q (.ref D) H'
theorem jO{t:nW}{ss:List Stp}{H:Hp}{Q:VK}{E:XK}(h1:Is K H (.lst (ss.map dSt)) (.ref t))(h2:ss.length<=1000)(h:∀(D:nW) (H':Hp),H D=rK->Same H H'->LsA K H' D ((yD ss).map dSt)->Q (.ref D) H'):qg K [.ref t] H Q E:=#[t,ss,rfl,h1,h2,h]
theorem KU{ss:List Stp}{i:Nat}{s:Stp}(h:ss.reverse[i]? = rJ s):(yD ss).take (i+1)=(yD ss).take i ++ [bk s]:=zJ (by unfold yD;rw[ax,h];rfl)
theorem KW:sQz 1 ["steps"] YH:=by nofun
theorem KT{f:nW}{fd:oe}(B:Bt mg)(F:("back"^^^YH)) :(1&&&["steps"]) (qg K):=by
 exists F.ok KW
 ·obtain⟨t,ss,rfl,hT,hsl,q⟩:=h;refine#[_,(zh (zt (yJ (own:=["step"]) (caps:=[]) (ix:=[]) (tt:=xQ) (te:=(XQ (zL (tOp (wM K) (z9 0) (tC (.int 0))) (zL (tOp (wM K) (z9 0) (tC (.int 1))) (zL (W5 (tOp (wM K) (z9 0) (tC (.int 2)))) xH))))) rfl (zQ (sc:=zg YH) rfl (by symm) (by symm) (by symm) rfl (by symm) (by symm) rfl) (zaZ rfl B.rev (za (pv 0) zf)) (λ_ _ _ _ _ _=>zv (i:=0) (show List.Nodup [_] by decide) rfl (.inl rfl)) (λ_ _ _ _ _ _=>yh) (λ_ _ _ _ _ _=>(z5 (za (zl ix_tup (pv 0) ze) (za (zl ix_tup (pv 0) ze) (za (Ji (zl ix_tup (pv 0) ze)) zf)))))))),?_];have s16:=yb
  rfl'
  erw[Is]at hT
  obtain⟨_,ts,e,hTs,hJ⟩:=hT;cases e;have htl:=hJ.len;rw[ac]at htl;have hbl:(yD ss).length=ss.length:=by simp [yD]
  refine#[ts,hTs,λD hD=>CompV.by (xs:=ts) (λi rP H'=>Same H H'/\H' D=rJ (.lst rP)/\Iss K H' (((yD ss).take i).map dSt) rP) #[zd hD,zc,by erw[bc,aF,Iss]] (λi rP H' _ h=>h.1.seq hTs) ?_ ?_]
  ·refine nm4 ?_;rintro i x rP H' hx ⟨hs,hH,hA⟩:_;have hi:i<ts.length:=by have:=(rQ.mp hx).1;simpa using this
   rw[bp hi]at hx;obtain⟨s,ps,hsi,rfl,hqs⟩:=w9 hJ hx;have hsr:ss.reverse[i]? = rJ s:=by rw[bp ⋯,<- hsi,htl]
   have hal:=hA.len;rw[ac,aC]at hal;right
   erw[xQ]
   rfl'
   refine#[yP,_,zk hs hqs,_,rfl,_,zk hs hqs,_,rfl,_,zk hs hqs,_,rfl,_,rfl,⋯,λp hp=>#[zd hp _ _ hH,⋯,CNx.mk hi #[zD (hs.trans (zd hp)) hD,zc,?_]]];rw[KU hsr,ao];exact jp hH hA hp Jh (w4 _) (by erw[zY,xy,and_self])
  ·rintro rP H' ⟨hs,hH,hA⟩;rw[htl,<- hbl,aG]at hA;exact q D H' hD hs #[rP,hH,hA]
def jT(K:nV):Sp:=λvs H Q _=>∃(t:nW) (ss:List Stp) (z:Int),vs=[.ref t,.int z]/\Is K H (.lst (ss.map dSt)) (.ref t)/\ss.length<=1000/\∀(D:nW) (H':Hp),H D=rK->Same H H'->LsA K H' D ((mvL ss z).map dSt)->Q (.ref D) H'
theorem Zh{t:nW}{ss:List Stp}{z:Int}{H:Hp}{Q:VK}{E:XK}(h1:Is K H (.lst (ss.map dSt)) (.ref t))(h2:ss.length<=1000)(h:∀(D:nW) (H':Hp),H D=rK->Same H H'->LsA K H' D ((mvL ss z).map dSt)->Q (.ref D) H'):jT K [.ref t,.int z] H Q E:=#[t,ss,z,rfl,h1,h2,h]
theorem UB:sQz 2 ["steps","size"] jn:=by nofun
theorem US{f:nW}{fd:oe}(B:Bt mg)(F:("moved"^^^jn)) :(1&&&["steps","size"]) (jT K):=by
 exists F.ok UB
 ·obtain⟨t,ss,z,rfl,hT,hsl,q⟩:=h;refine#[_,(zh (zt (yJ (own:=["step"]) (caps:=["size"]) (ix:=[1]) (tt:=xQ) (te:=(XQ (zL (tOp (wM K) (z9 0) (tC (.int 0))) (zL (tOp Xt (tOp (wM K) (z9 0) (tC (.int 1))) (z9 1)) (zL (tOp (wM K) (z9 0) (tC (.int 2))) xH))))) rfl (zQ (sc:=zg jn) rfl (by symm) (by symm) (by symm) rfl (by symm) (by symm) rfl) (yi (pv 0)) (λ_ _ _ _ _ _=>zv (i:=0) (show List.Nodup [_,_] by decide) rfl (.inl rfl)) (λ_ _ _ _ _ _=>yh) (λ_ _ _ _ _ _=>(z5 (za (zl ix_tup (pv 0) ze) (za (zC Zv (zl ix_tup (pv 0) ze) (pv 1)) (za (zl ix_tup (pv 0) ze) zf)))))))),?_];have s16:=yb
  rfl'
  erw[Is]at hT
  obtain⟨_,ts,e,hTs,hJ⟩:=hT;cases e;have htl:=hJ.len;rw[ac]at htl;have hbl:(mvL ss z).length=ss.length:=by simp [mvL]
  refine#[#[ts,hTs],λD hD=>CompL.by (xs:=ts) (λi rP H'=>Same H H'/\H' D=rJ (.lst rP)/\Iss K H' (((mvL ss z).take i).map dSt) rP) #[zd hD,zc,by erw[bc,aF,Iss]] (λi rP H' _ h=>h.1.seq hTs) ?_ ?_]
  ·refine nm4 ?_;rintro i x rP H' hx ⟨hs,hH,hA⟩:_;have hi:=(rQ.mp hx).1;obtain⟨s,ps,hsi,rfl,hqs⟩:=w9 hJ hx;have hm:(mvL ss z)[i]? = rJ (s.1,s.2.1+z,s.2.2):=by unfold mvL;rw[ax,hsi];rfl
   have hal:=hA.len;rw[ac,aC]at hal;right
   erw[xQ]
   rfl'
   refine#[yP,_,zk hs hqs,_,rfl,_,zk hs hqs,_,rfl,_,zk hs hqs,_,rfl,⋯,λp hp=>#[zd hp _ _ hH,⋯,CNx.mk hi #[zD (hs.trans (zd hp)) hD,zc,?_]]];rw[zJ hm,ao];exact jp hH hA hp Jh (w4 _) (by erw[zY,xy,and_self])
  ·rintro rP H' ⟨hs,hH,hA⟩;rw[htl,<- hbl,aG]at hA;exact q D H' hD hs #[rP,hH,hA]
noncomputable abbrev Ent:=() × () × List Stp
variable{E:XK}{H:Hp}{Q:VK}{bs:List Ent}{e:Ent}{es:List Ent}{f:nW}{fd:oe}{k:Nat}{ns:List Int}{ps:List zp}{rs:List zp}{ss:List Stp}
noncomputable def dE(e:Ent):L3.D:=.tup [dS e.1,dS e.2.1,.lst (e.2.2.map dSt)]
noncomputable def XO(es:List Ent)(u:Stp):List Stp:=mvL (if u.2.2=rL then (es.getD u.1.toNat ([],[],[])).2.2 else yD (es.getD u.1.toNat ([],[],[])).2.2) u.2.1
noncomputable def byL(es:List Ent)(us:List Stp):List Stp:=us.flatMap (XO es)
theorem zbX{v:V}(h:Is K H (dE e) v):∃p s,v=.ref p/\SqT K H p [.str (tx e.1),.str (tx e.2.1),.ref s]/\Is K H (.lst (e.2.2.map dSt)) (.ref s):=by
 erw[dE,Is,Iss]at h
 obtain⟨a,xs,e0,hs,v1,r1,rfl,rfl,v2,r2,rfl,rfl,v3,r3,rfl,⟨s,zs,rfl,h1,h2⟩,rfl⟩:=h;refine#[a,s,e0,hs,?_]
 erw[Is]
 exact#[s,zs,rfl,h1,h2]
theorem zdZ{xs:List V}{i:Int}(hI:Iss K H (es.map dE) xs)(h0:0<=i)(hi:i<es.length):∃p s,atI xs i=rJ (.ref p)/\es[i.toNat]? = rJ (es.getD i.toNat ([],[],[]))/\SqT K H p [.str (tx (es.getD i.toNat ([],[],[])).1),.str (tx (es.getD i.toNat ([],[],[])).2.1),.ref s]/\Is K H (.lst ((es.getD i.toNat ([],[],[])).2.2.map dSt)) (.ref s):=by
 have hl:=hI.len;rw[ac]at hl;obtain⟨v,a1,b1⟩:=qc (xs:=xs) (i:=i) h0 ⋯;obtain⟨d,e,ix⟩:=hI.get b1;rw[ax]at e;obtain⟨r,hr,rfl⟩:=rY.mp e;have e:es.getD i.toNat ([],[],[])=r:=by rw[aa,hr];rfl
 rw[e];obtain⟨p,s,rfl,h2,h3⟩:=zbX ix;exact#[p,s,a1,hr,h2,h3]
theorem YG(ss:List Stp)(z:Int):(mvL ss z).length=ss.length:=by simp [mvL]
theorem yR(ss:List Stp):(yD ss).length=ss.length:=by simp [yD]
def Uz(K:nV):Sp:=λvs H Q _=>∃(a t:nW) (es:List Ent) (us:List Stp),vs=[.ref a,.ref t]/\Is K H (.lst (es.map dE)) (.ref a)/\Is K H (.lst (us.map dSt)) (.ref t)/\us.length<=100/\(∀e ∈ es,e.2.2.length<=600)/\(∀u ∈ us,0<=u.1/\u.1<es.length)/\∀(D:nW) (H':Hp),H D=rK->Same H H'->LsA K H' D ((byL es us).map dSt)->Q (.ref D) H'
theorem iz:sQz 2 ["entries","steps","chain","step","own"] vI:=by nofun
theorem ZA(B:Bt mg)(F:("by_pacts"^^^vI))(nz:(1<<<"moved") ["steps","size"] [] (jT K))(lL:(1<<<"back") ["steps"] [] (qg K)):(2&&&["entries","steps"]) (Uz K):=by
 exists F.ok iz
 ·obtain⟨a,t,es,us,rfl,hE,hU,hul,hel,hub,q⟩:=h
  refine#[_,(zi (zy 2 iz.nd (vR zf))
   (zi (yg PassesOwn.never rfl (yi (pv 1)) (zv (i:=3) iz.nd rfl (.inl rfl))
    (zi (zy 4 iz.nd (zl ix_tup (zl ix_list (pv 0) (zl ix_tup (pv 3) ze)) ze))
    (zh (wQ (uX bZ PySem.F.slot_list_extend PySem.F.type_list_extend Vt (pv 2) (za (cl0 nz hr .nil rfl (za (ux (yM (zl ix_tup (pv 3) ze) (λ_=>rfl)) (pv 4) (cl0 lL hr .nil rfl (za (pv 4) zf))) (za (zl ix_tup (pv 3) ze) zf))) zf))))))
   (zh (zt (pv 2))))),?_]
  have s16:=yb;have hE':=hE;have hU':=hU
  erw[Is]at hE' hU'
  obtain⟨_,xs,e,hX,hI⟩:=hE';cases e;obtain⟨_,ts,e,hTs,hJ⟩:=hU';cases e;have htl:=hJ.len;rw[ac]at htl;refine zj (λσ H'=>∃D,H D=rK/\Same H H'/\H' D=rJ (.lst [])/\σ=[!!a,!!t,!!D,rK,rK]) ?_ ?_
  ·rfl'
   exact#[⋯,λp hp=>#[p,hp,zd hp,zc,rfl]]
  rintro σ H1 ⟨D,hD,s1,hD1,rfl⟩:_;right;refine zj (λσ H'=>Same H H'/\LsA K H' D ((byL es us).map dSt)/\∃v3 v4,σ=[!!a,!!t,!!D,v3,v4]) ?_ ?_
  ·rfl'
   refine#[#[_,s1.seq hTs],ForL.by (xs:=ts) (λi σ H'=>Same H H'/\LsA K H' D ((byL es (us.take i)).map dSt)/\(byL es (us.take i)).length<=i * 600/\∃v3 v4,σ=[!!a,!!t,!!D,v3,v4]) #[s1,#[[],hD1,by erw[bc,byL,List.flatMap_nil,aF,Iss]],by simp [byL],_,_,rfl] (λi σ H' _ h=>h.1.seq hTs) ?_ ?_]
   ·refine nm4 ?_;rintro i x σ H' hx ⟨hs,hL,hl,v3,v4,rfl⟩:_;obtain⟨u,pu,hui,rfl,hqu⟩:=w9 hJ hx;have hil:=(rQ.mp hui).1;obtain⟨u0,u1⟩:=hub u (af hui);obtain⟨pe,se,g1,g2,g3,g4⟩:=zdZ hI u0 u1;have hle:=hel _ (af g2)
    have hby:byL es (us.take (i+1))=byL es (us.take i) ++ XO es u:=by
     unfold byL;rw[zJ hui,cX];simp
    right
    erw[yK,ba,aZ]
    refine zj (λσ H''=>H''=H'/\σ=[!!a,!!t,!!D,!!pu,!!se]) ?_ ?_
    ·rfl'
     exact#[_,zk hs hqu,_,rfl,_,rfl,_,hs.seq hX,_,g1,_,rfl,_,zk hs g3,rfl]
    rintro σ G ⟨rfl,rfl⟩:_;obtain⟨zs,hZ,hZI⟩:=id hL;have hzl:=hZI.len;rw[ac]at hzl;have hse:=Is.same hs _ _ g4
    have fin:∀(ws:List Stp) (M:nW) (G2:Hp),XO es u=ws->ws.length<=600->Same G G2->LsA K G2 M (ws.map dSt)->VD (V.ref D) [V.ref M] G2 λx H1=>Same H H1/\LsA K H1 D ((byL es (us.take (i+1))).map dSt)/\(byL es (us.take (i+1))).length<=(i+1) * 600:=λws M G2 ew hwl sg hM=>by
     obtain⟨ys,hY,hYI⟩:=hM;have hyl:=hYI.len;rw[ac]at hyl;have hZ2:=sg _ _ hZ;refine#[D,M,zs,ys,rfl,rfl,hZ2,hY,⋯,zD (hs.trans sg) hD,#[_,zc,?_],?_]
     ·rw[hby,ew,ao];exact Iss.append (Iss.updL hZ2 _ _ (w4 _) (Iss.same sg _ _ hZI)) (Iss.updL hZ2 _ _ (w4 _) hYI)
     ·rw[hby,ew,aj];lia
    right
    rfl'
    refine#[.inl #[_,SqL.of hZ],_,zk hs hqu,_,rfl,_,rfl,yU (λhf=>#[_,zk hs hqu,_,rfl,Zh hse ⋯ λM G2 _ sg hM=>fin _ M G2 (by unfold XO;rw[if_pos hf]) (by rw[YG];lia) sg hM]) λhf=>jO hse ⋯ λM0 G1 _ sg0 hM0=>#[_,zk (hs.trans sg0) hqu,_,rfl,Zh hM0.is (by rw[yR];lia) λM G2 _ sg hM=>fin _ M G2 (by unfold XO;rw[if_neg hf]) (by rw[YG,yR];lia) (sg0.trans sg) hM]]
   ·rintro σ H' ⟨hs,hL,hl,v3,v4,rfl⟩;rw[htl,aG]at hL;exact#[hs,hL,_,_,rfl]
  rintro σ H2 ⟨s2,hL2,v3,v4,rfl⟩:_;right
  rfl'
  exact q D H2 hD s2 hL2
noncomputable def yc(rs:List zp):()->List Stp->Option (())
 | w,[]=>rJ w
 | w,s::ss=>(yj rs w s).bind λw'=>yc rs w' ss
theorem xI(rs:List zp):∀(ss ts:List Stp) (w:()),yc rs w (ss ++ ts)=(yc rs w ss).bind λw'=>yc rs w' ts
 | [],ts,w=>rfl
 | s::ss,ts,w=>by
  erw[bo,yc]
  cases yj rs w s with
  | none=>rfl
  | some w1=>exact xI rs ss ts w1
theorem qd{s:Stp}{w w':()}(h:yc rs w (s::ss)=rJ w'):∃w1,yj rs w s=rJ w1/\yc rs w1 ss=rJ w':=by
 erw[yc]at h
 obtain⟨w1,h1,h2⟩:=su.mp h;exact#[w1,h1,h2]
theorem Zc{s:Stp}{w w1 w2:()}(h:yc rs w ss=rJ w1)(h2:yj rs w1 s=rJ w2):yc rs w (ss ++ [s])=rJ w2:=by
 rw[xI,h]
 erw[yc,bL]
 rw[h2];rfl
theorem Wh(s:Stp)(ss:List Stp):yD (s::ss)=yD ss ++ [bk s]:=by simp [yD]
theorem vc:∀{ss:List Stp} {w w':()},yc rs w ss=rJ w'->yc rs w' (yD ss)=rJ w
 | [],w,w',h=>by cases h;rfl
 | s::ss,w,w',h=>by
  obtain⟨w1,h1,h2⟩:=qd h;rw[Wh];exact Zc (vc h2) (qK h1)
theorem uQ(a b:()):∀{ss:List Stp} {w w':()},yc rs w ss=rJ w'->yc rs (a ++ w ++ b) (mvL ss (a.length:Int))=rJ (a ++ w' ++ b)
 | [],w,w',h=>by cases h;rfl
 | s::ss,w,w',h=>by
  obtain⟨w1,h1,h2⟩:=qd h;have e:mvL (s::ss) (a.length:Int)=(s.1,s.2.1+(a.length:Int),s.2.2)::mvL ss (a.length:Int):=rfl;rw[e]
  erw[yc]
  rw[vU a b h1];exact uQ a b h2
def EOk(rs:List zp)(e:Ent):Prop:=yc rs e.1 e.2.2=rJ e.2.1
noncomputable def zb(es:List Ent):List zp:=es.map λe=>(e.1,e.2.1)
theorem Qg(hE:∀e ∈ es,EOk rs e){u:Stp}{w w':()}(h:yj (zb es) w u=rJ w'):yc rs w (XO es u)=rJ w':=by
 have hb:0<=u.1/\u.1<(zb es).length:=bC λhb=>by rw[yW hb]at h;cases h
 rw[yI hb]at h;have hl:(zb es).length=es.length:=by unfold zb;rw[ac]
 rw[hl]at hb
 have hg:es[u.1.toNat]? = rJ (es.getD u.1.toNat ([],[],[])):=by
  rw[aa,ae ⋯];rfl
 have hp:(zb es).getD u.1.toNat ([],[])=((es.getD u.1.toNat ([],[],[])).1,(es.getD u.1.toNat ([],[],[])).2.1):=by
  unfold zb;rw[aa,ax,hg];rfl
 rw[hp]at h;have he:=hE _ (af hg);unfold XO;generalize es.getD u.1.toNat ([],[],[])=e at *
 have key:∀(o n:()) (ss:List Stp),sdl (e.1,e.2.1) u.2.2=(o,n)->yc rs o ss=rJ n->yc rs w (mvL ss u.2.1)=rJ w':=λo n ss hs hw=>by
  rw[hs]at h;by_cases hst:zr w u.2.1 o=rL
  ·rw[if_pos hst]at h;cases h;obtain⟨e1,e2,h0,h1⟩:=ye hst;have:=uQ (w.take u.2.1.toNat) (w.drop (u.2.1.toNat+o.length)) hw;rw[e1,e2,show ((u.2.1.toNat:Nat):Int)=u.2.1 by lia]at this;exact this
  ·rw[if_neg hst]at h;cases h
 cases hf:u.2.2 with
 | true =>
  rw[if_pos rfl];exact key e.1 e.2.1 e.2.2 (by rw[hf];rfl) he
 | false =>
  rw[if_neg ∅];exact key e.2.1 e.1 (yD e.2.2) (by rw[hf];rfl) (vc he)
theorem jS(hE:∀e ∈ es,EOk rs e):∀{us:List Stp} {w w':()},yc (zb es) w us=rJ w'->yc rs w (byL es us)=rJ w'
 | [],w,w',h=>by cases h;rfl
 | u::us,w,w',h=>by
  obtain⟨w1,h1,h2⟩:=qd h;have e:byL es (u::us)=XO es u ++ byL es us:=by simp [byL]
  rw[e,xI,Qg hE h1];exact jS hE h2
theorem Vs(ok:jR rs){w w':()}{s:Stp}(h:yj rs w s=rJ w'):w'.length<=w.length+100:=by
 have hb:0<=s.1/\s.1<rs.length:=bC λhb=>by rw[yW hb]at h;cases h
 rw[yI hb]at h;have g:=Zr ok s.1.toNat;generalize rs.getD s.1.toNat ([],[])=r at *;by_cases hs:zr w s.2.1 (sdl r s.2.2).1=rL
 ·rw[if_pos hs]at h;cases h;have:=UN (n:=(sdl r s.2.2).2) hs
  have h2:(sdl r s.2.2).2.length<=100:=by
   cases s.2.2
   ·exact g.1
   ·exact g.2
  lia
 ·rw[if_neg hs]at h;cases h
noncomputable def qE(D:nW)(H:Hp):Hp:=λb=>if b=D then rK else H b
theorem wa{D b:nW}(h:b≠D):qE D H b=H b:=by unfold qE;rw[if_neg h]
theorem qx{D:nW}:qE D H D=rK:=by unfold qE;rw[if_pos rfl]
theorem xZ{D:nW}:Same (qE D H) H:=λb o e=>by
 by_cases hb:b=D
 ·rw[hb,qx]at e;cases e
 ·rw[wa hb]at e;exact e
theorem WT{D:nW}{H H':Hp}(hD:H D=rK)(s:Same H H'):Same H (qE D H'):=λb o e=>by
 have hb:b≠D:=λz=>by rw[z,hD]at e;cases e
 rw[wa hb];exact s _ _ e
theorem wc{D:nW}{H H':Hp}(s:Same H H'):Same (qE D H) (qE D H'):=λb o e=>by
 by_cases hb:b=D
 ·rw[hb,qx]at e;cases e
 ·rw[wa hb]at e ⊢;exact s _ _ e
theorem xf{D:nW}{o:HO}:Same (qE D H) (qE D (upd H D o)):=λb o' e=>by
 by_cases hb:b=D
 ·rw[hb,qx]at e;cases e
 ·rw[wa hb]at e ⊢;rw[zq hb];exact e
theorem WY{D a:nW}{xs ys:List V}(hD:H D=rJ (.lst ys))(h:SqT K H a xs):SqT K (qE D H) a xs:=by
 rcases h with (h | ⟨o,h⟩) | h
 ·exact .inl (.inl (by rw[wa (λe=>by rw[e,hD]at h;cases h)];exact h))
 ·exact .inl (.inr #[o,by rw[wa (λe=>by rw[e,hD]at h;cases h)];exact h])
 ·exact .inr h
theorem YU{D:nW}{ys:List V}(hD:H D=rJ (.lst ys)):∀(ss:List Stp) (vs:List V),Iss K H (ss.map dSt) vs->Iss K (qE D H) (ss.map dSt) vs
 | [],vs,h=>by erw[aF,Iss]at h ⊢;exact h
 | s::ss,vs,h=>by
  erw[am,Iss]at h ⊢
  obtain⟨v,r,rfl,h1,h2⟩:=h;obtain⟨p,rfl,h3⟩:=QE h1;exact#[_,r,rfl,YW (WY hD h3),YU hD ss r h2]
theorem zcw{p s:nW}(h1:SqT K H p [.str (tx e.1),.str (tx e.2.1),.ref s])(h2:Is K H (.lst (e.2.2.map dSt)) (.ref s)):Is K H (dE e) (.ref p):=by
 erw[dE,Is,Iss]
 erw[Is]at h2
 exact#[p,_,rfl,h1,_,_,rfl,rfl,_,_,rfl,rfl,_,_,rfl,h2,rfl]
theorem YV{vs:List V}{j:Nat}{v:V}(h:Iss K H (es.map dE) vs)(q:vs[j]? = rJ v):∃e p s,es[j]? = rJ e/\v=.ref p/\SqT K H p [.str (tx e.1),.str (tx e.2.1),.ref s]/\Is K H (.lst (e.2.2.map dSt)) (.ref s):=by
 obtain⟨d,e,i⟩:=h.get q;rw[ax]at e;obtain⟨r,hr,rfl⟩:=rY.mp e;obtain⟨p,s,e1,e2,e3⟩:=zbX i;exact#[r,p,s,hr,e1,e2,e3]
theorem Kn{d:L3.D}{v:V}(h:Is K H d v):Iss K H [d] [v]:=by
 erw[Iss]
 exact#[v,[],rfl,h,rfl]
def EnA(K:nV)(H:Hp)(e:Ent)(v:V):Prop:=∃p s,v=.ref p/\SqT K H p [.str (tx e.1),.str (tx e.2.1),.ref s]/\LsA K H s (e.2.2.map dSt)
def EnsA(K:nV)(H:Hp):List Ent->List V->Prop
 | [],vs=>vs=[]
 | e::es,vs=>∃v r,vs=v::r/\EnA K H e v/\EnsA K H es r
def EnsL(K:nV)(H:Hp)(a:nW)(es:List Ent):Prop:=∃xs,SqL K H a xs/\EnsA K H es xs
def EnsM(K:nV)(H:Hp)(a:nW)(es:List Ent):Prop:=∃xs,H a=rJ (.lst xs)/\EnsA K H es xs
theorem EnA.is{v:V}(h:EnA K H e v):Is K H (dE e) v:=by
 obtain⟨p,s,rfl,h1,h2⟩:=h;exact zcw h1 h2.is
theorem EnA.same{H H':Hp}{v:V}(h:EnA K H e v)(q:Same H H'):EnA K H' e v:=by
 obtain⟨p,s,e0,h1,h2⟩:=h;exact#[p,s,e0,zk q h1,h2.same q]
theorem EnsA.iss:∀{es:List Ent} {vs:List V},EnsA K H es vs->Iss K H (es.map dE) vs
 | [],vs,h=>by erw[EnsA]at h;erw[aF,Iss];exact h
 | e::es,vs,h=>by
  erw[EnsA]at h
  obtain⟨v,r,rfl,h1,h2⟩:=h
  erw[am,Iss]
  exact#[v,r,rfl,h1.is,h2.iss]
theorem EnsA.len{vs:List V}(h:EnsA K H es vs):vs.length=es.length:=by
 have:=h.iss.len;rw[ac]at this;exact this
theorem EnsA.same{H H':Hp}(q:Same H H'):∀{es:List Ent} {vs:List V},EnsA K H es vs->EnsA K H' es vs
 | [],vs,h=>by erw[EnsA]at h ⊢;exact h
 | e::es,vs,h=>by
  erw[EnsA]at h ⊢
  obtain⟨v,r,e0,h1,h2⟩:=h;exact#[v,r,e0,h1.same q,h2.same q]
theorem EnsA.snoc{v:V}(hv:EnA K H e v):∀{es:List Ent} {vs:List V},EnsA K H es vs->EnsA K H (es ++ [e]) (vs ++ [v])
 | [],vs,h=>by
  erw[EnsA]at h
  subst h
  erw[aY,EnsA]
  exact#[v,[],rfl,hv,rfl]
 | e'::es,vs,h=>by
  erw[EnsA]at h
  obtain⟨x,r,rfl,hx,hr⟩:=h
  erw[bo,EnsA]
  exact#[x,r ++ [v],rfl,hx,hr.snoc hv]
theorem EnsA.get:∀{es:List Ent} {vs:List V} {j:Nat} {v:V},EnsA K H es vs->vs[j]? = rJ v->∃e p s,es[j]? = rJ e/\v=.ref p/\SqT K H p [.str (tx e.1),.str (tx e.2.1),.ref s]/\LsA K H s (e.2.2.map dSt)
 | [],vs,j,v,h,q=>by
  erw[EnsA]at h
  subst h;simp at q
 | e::es,vs,0,v,h,q=>by
  erw[EnsA]at h
  obtain⟨x,r,rfl,⟨p,s,rfl,h1,h2⟩,_⟩:=h;cases q;exact#[e,p,s,rfl,rfl,h1,h2]
 | e::es,vs,j+1,v,h,q=>by
  erw[EnsA]at h
  obtain⟨x,r,rfl,_,hr⟩:=h;exact hr.get (j:=j) (by simpa using q)
theorem EnsL.is{a:nW}(h:EnsL K H a es):Is K H (.lst (es.map dE)) (.ref a):=by
 obtain⟨xs,h1,h2⟩:=h
 erw[Is]
 exact#[a,xs,rfl,h1,h2.iss]
theorem EnsL.same{H H':Hp}{a:nW}(h:EnsL K H a es)(q:Same H H'):EnsL K H' a es:=by
 obtain⟨xs,h1,h2⟩:=h;exact#[xs,q.seq h1,h2.same q]
theorem EnsM.l{a:nW}(h:EnsM K H a es):EnsL K H a es:=by
 obtain⟨xs,h1,h2⟩:=h;exact#[xs,SqL.of h1,h2]
theorem EnsM.same{H H':Hp}{a:nW}(h:EnsM K H a es)(q:Same H H'):EnsM K H' a es:=by
 obtain⟨xs,h1,h2⟩:=h;exact#[xs,q _ _ h1,h2.same q]
theorem EnA.new{D p s:nW}{ys:List V}(hD:H D=rJ (.lst ys))(hp:H p=rJ (.tup [.str (tx e.1),.str (tx e.2.1),.ref s]))(hs:LsA K H s (e.2.2.map dSt))(hsD:s≠D):EnA K (qE D H) e (.ref p):=by
 obtain⟨zs,hz,hi⟩:=hs;have hpD:p≠D:=λz=>by rw[z,hD]at hp;cases hp
 exact#[p,s,rfl,SqT.of (by rw[wa hpD];exact hp),zs,by rw[wa hsD];exact hz,YU hD _ _ hi]
theorem wk(es:List Ent):(zb es).length=es.length:=by unfold zb;rw[ac]
def wD(K:nV):Sp:=λvs H Q _=>∃(a:nW) (es:List Ent),vs=[.ref a]/\Is K H (.lst (es.map dE)) (.ref a)/\es.length<=1000/\∀(D:nW) (H':Hp),H D=rK->Same H H'->LsA K H' D ((zb es).map dR)->Q (.ref D) H'
theorem xY{a:nW}(h1:Is K H (.lst (es.map dE)) (.ref a))(h2:es.length<=1000)(h:∀(D:nW) (H':Hp),H D=rK->Same H H'->LsA K H' D ((zb es).map dR)->Q (.ref D) H'):wD K [.ref a] H Q E:=#[a,es,rfl,h1,h2,h]
theorem ZG:sQz 1 ["entries"] wC:=by nofun
theorem ZD(B:Bt mg)(F:("pairs_of"^^^wC)) :(1&&&["entries"]) (wD K):=by
 exists F.ok ZG
 ·obtain⟨a,es,rfl,hA,hl,q⟩:=h;refine#[_,(zh (zt (yJ (own:=["entry"]) (caps:=[]) (ix:=[]) (tt:=xQ) (te:=(XQ (zL (tOp (wM K) (z9 0) (tC (.int 0))) (zL (tOp (wM K) (z9 0) (tC (.int 1))) xH)))) rfl (zQ (sc:=zg wC) rfl (by symm) (by symm) (by symm) rfl (by symm) (by symm) rfl) (yi (pv 0)) (λ_ _ _ _ _ _=>zv (i:=0) (show List.Nodup [_] by decide) rfl (.inl rfl)) (λ_ _ _ _ _ _=>yh) (λ_ _ _ _ _ _=>(z5 (za (zl ix_tup (pv 0) ze) (za (zl ix_tup (pv 0) ze) zf))))))),?_];have s16:=yb
  rfl'
  erw[Is]at hA
  obtain⟨_,xs,e,hX,hI⟩:=hA;cases e;have hxl:=hI.len;rw[ac]at hxl;have hpl:=wk es;refine#[#[xs,hX],λD hD=>CompL.by (xs:=xs) (λi rP H'=>Same H H'/\H' D=rJ (.lst rP)/\Iss K H' (((zb es).take i).map dR) rP) #[zd hD,zc,by erw[bc,aF,Iss]] (λi rP H' _ h=>h.1.seq hX) ?_ ?_]
  ·refine nm4 ?_;rintro i x rP H' hx ⟨hs,hH,hA⟩:_;have hi:=(rQ.mp hx).1;obtain⟨e,pe,se,hei,rfl,hqe,_⟩:=YV hI hx;have hm:(zb es)[i]? = rJ (e.1,e.2.1):=by unfold zb;rw[ax,hei];rfl
   have hal:=hA.len;rw[ac,aC]at hal;right
   erw[xQ]
   rfl'
   refine#[yP,_,zk hs hqe,_,rfl,_,zk hs hqe,_,rfl,⋯,λp hp=>#[zd hp _ _ hH,⋯,CNx.mk hi #[zD (hs.trans (zd hp)) hD,zc,?_]]];rw[zJ hm,ao];exact jp hH hA hp zcj (wA _) (by erw[zY,xy,and_self])
  ·rintro rP H' ⟨hs,hH,hA⟩;rw[hxl,<- hpl,aG]at hA;exact q D H' hD hs #[rP,hH,hA]
noncomputable def zU(k:Nat)(l:())(ns:List Int)(e:Ent):Ent:=if zO k l ns e.2.1 e.1=rL then e else (e.2.1,e.1,yD e.2.2)
structure EB(l:())(e:Ent):Prop where
 a:e.1.length<=60
 b:e.2.1.length<=60
 s:e.2.2.length<=600
 ma:∀c ∈ e.1,c ∈ l
 mb:∀c ∈ e.2.1,c ∈ l
theorem EB.rule{l:()}(h:EB l e):EB l (zU k l ns e):=by
 unfold zU;split
 ·exact h
 ·exact#[h.b,h.a,by rw[yR];exact h.s,h.mb,h.ma]
def wg(K:nV)(CO CR CW:nW):Sp:=λvs H Q _=>∃(o p s:nW) (k:Nat) (l:()) (ns:List Int) (e:Ent),vs=[.ref o,.ref p]/\OrdAt CO CR CW H o k l ns/\OG l ns k/\SqT K H p [.str (tx e.1),.str (tx e.2.1),.ref s]/\Is K H (.lst (e.2.2.map dSt)) (.ref s)/\EB l e /\
 (zU k l ns e=e->∀H',Same H H'->Q (.ref p) H') /\
 (∀(p' s':nW) (H':Hp),Same H H'->H s'=rK->H' p'=rJ (.tup [.str (tx (zU k l ns e).1),.str (tx (zU k l ns e).2.1),.ref s'])->LsA K H' s' ((zU k l ns e).2.2.map dSt)->Q (.ref p') H')
theorem qL{CO CR CW o p s:nW}{l:()}(h1:OrdAt CO CR CW H o k l ns)(h2:OG l ns k)(h3:SqT K H p [.str (tx e.1),.str (tx e.2.1),.ref s])(h4:Is K H (.lst (e.2.2.map dSt)) (.ref s))(h5:EB l e)
  (h6:zU k l ns e=e->∀H',Same H H'->Q (.ref p) H') (h7:∀(p' s':nW) (H':Hp),Same H H'->H s'=rK->H' p'=rJ (.tup [.str (tx (zU k l ns e).1),.str (tx (zU k l ns e).2.1),.ref s'])->LsA K H' s' ((zU k l ns e).2.2.map dSt)->Q (.ref p') H'):wg K CO CR CW [.ref o,.ref p] H Q E :=
 #[o,p,s,k,l,ns,e,rfl,h1,h2,h3,h4,h5,h6,h7]
theorem Xw:sQz 2 ["order","entry"] uJ:=by nofun
theorem XA{f CO CR CW:nW}(B:Bt mg)(DBk:DB P w K mg base CO CR CW)(F:("as_rule"^^^uJ))(lL:(1<<<"back") ["steps"] [] (qg K)):(4&&&["order","entry"]) (wg K CO CR CW):=by
 exists F.ok Xw
 ·obtain⟨o,p,s,k,l,ns,e,rfl,ho,hG,hp,hs,hE,q1,q2⟩:=h
  refine#[_,(zK (zZ (yM (zah DBk hr (pv 0) (za (zl ix_tup (pv 1) ze) (za (zl ix_tup (pv 1) ze) zf))) (λ_=>rfl))
    (zh (zt (pv 1)))
    zB)
   (zh (zt (z5 (za (zl ix_tup (pv 1) ze) (za (zl ix_tup (pv 1) ze) (za (cl0 lL hr .nil rfl (za (zl ix_tup (pv 1) ze) zf)) zf))))))),?_]
  have s16:=yb;ac_rfl;obtain⟨C,dx,fs,hf,ho1,hn,_⟩:=ho.fam;have h1:fs.lookup ("before" : og)=rK:=hn _ ∅ ∅;refine#[C,hf,dx,fs,ho1,h1,_,hp,_,rfl,_,hp,_,rfl,o,k,l,ns,e.2.1,e.1,rfl,ho,hG,by have:=hE.b;lia,by have:=hE.a;lia,hE.mb,hE.ma,λH1 s1=>#[_,rfl,yU (λh=>?_) λh=>?_]]
  ·exact q1 (by unfold zU;rw[if_pos h]) H1 s1
  ·have er:zU k l ns e=(e.2.1,e.1,yD e.2.2):=by unfold zU;rw[if_neg h]
   rw[er]at q2;have hp1:=zk s1 hp;refine#[_,hp1,_,rfl,_,hp1,_,rfl,_,hp1,_,rfl,jO (Is.same s1 _ _ hs) (by have:=hE.s;lia) λD H2 hD s2 hL=>#[⋯,λt ht=>?_]];exact q2 t D _ (s1.trans (s2.trans (zd ht))) (s1.free hD) zc (hL.same (zd ht))
theorem Z0{l:()}{w:()}(hb:∀n ∈ ns,1<=n/\n<=1000000):0<=Uc l ns w:=by
 unfold Uc
 have key:∀xs:List Int,(∀x ∈ xs,0<=x)->0<=xs.sum:=by
  intro xs
  induction xs with
  | nil=>intro _;simp
  | cons x xs ih =>
   intro h;rw[bf];have h1:=h x az;have h2:=ih λy hy=>h y (aq _ hy);lia
 refine key _ λx hx=>?_;obtain⟨p,hp,rfl⟩:=rR.mp hx;have h1:=(hb p.2 (db (show (p.1,p.2) ∈ l.zip ns from hp)).2).1;exact Int.mul_nonneg ⋯ ⋯
theorem VC{l:()}{u v:()}(hb:∀n ∈ ns,1<=n/\n<=1000000)(h:zO k l ns u v=rL):v≠[]:=by
 intro e;subst e
 have h0:zu k l ns []=0:=by
  unfold zu;split
  ·unfold Uc
   have z:∀xs:List (Nat × Int),(xs.map λp=>(([]:()).count p.1:Int) * p.2).sum=0:=by
    intro xs
    induction xs with
    | nil=>rfl
    | cons x xs ih=>rw[am,bf,ih];simp
   exact z _
  ·rfl
 have h1:0<=zu k l ns u:=by
  unfold zu;split
  ·exact Z0 hb
  ·lia
 have h2:vw k l []=[]:=by
  unfold vw yk;split <;> rfl
 unfold zO at h;rw[h0,h2]at h;split at h
 ·cases hr:vw k l u with
  | nil=>rw[hr]at h;cases h
  | cons a r=>rw[hr]at h;cases h
 ·have:=of_decide_eq_true h;lia
theorem uL{k:Nat}{l:()}{ns:List Int}(hE:EB l e)(hne:e.1≠e.2.1):zO k l ns (zU k l ns e).2.1 (zU k l ns e).1=rL:=by
 unfold zU;by_cases h:zO k l ns e.2.1 e.1=rL
 ·rw[if_pos h];exact h
 ·rw[if_neg h];have:=qh (k:=k) (ns:=ns) hE.ma hE.mb hne;show zO k l ns e.1 e.2.1=rL;rw[this];simpa using h
noncomputable def ur(k:Nat)(l:())(ns:List Int)(es:List Ent):List Ent:=(es.filter λe=>!decide (e.1=e.2.1)).map (zU k l ns)
theorem zab(k:Nat)(l:())(ns:List Int)(es fs:List Ent):ur k l ns (es ++ fs)=ur k l ns es ++ ur k l ns fs:=by
 unfold ur;rw[cH,ao]
theorem ZC(k:Nat)(l:())(ns:List Int)(es:List Ent):(ur k l ns es).length<=es.length:=by
 unfold ur;rw[ac];exact cM _ _
noncomputable def qG(k:Nat)(l:())(ns:List Int)(a b:Ent):Bool:=if a.1=b.1 then zO k l ns a.2.1 b.2.1 else zO k l ns a.1 b.1
structure Lined(k:Nat)(l:())(ns:List Int)(es zs:List Ent):Prop where
 perm:zs.Perm (ur k l ns es)
 srt:zs.Pairwise λa b=>qG k l ns b a=rM
 is:zs=L3.srt (qG k l ns) ([],[],[]) (ur k l ns es)
structure EndsAt(ps:List zp)(w:())(i:Nat):Prop where
 live:qJ ps w i
 end_:zA (wAt ps w i) ps=rK
 most:i<=40
theorem Vw(ps:List zp)(w:()):(∃i,EndsAt ps w i)\/(qJ ps w 40/\zA (wAt ps w 40) ps≠rK):=by
 have key:∀n,n<=41->(∃i,EndsAt ps w i)\/qJ ps w n:=by
  intro n
  induction n with
  | zero=>intro _;exact .inr λi h=>absurd h (bU i)
  | succ n ih =>
   intro hn;rcases ih ⋯ with h | h
   ·exact .inl h
   ·cases e:zA (wAt ps w n) ps with
    | none=>exact .inl #[n,h,e,⋯]
    | some u =>
     refine .inr λi hi=>?_;by_cases hin:i=n
     ·rw[hin,e];intro z;cases z
     ·exact h i ⋯
 rcases key 41 (al _)with h | h
 ·exact .inl h
 ·exact .inr #[λi hi=>h i ⋯,h 40 ∅]
theorem EndsAt.uniq{w:()}{i j:Nat}(h1:EndsAt ps w i)(h2:EndsAt ps w j):i=j:=jN h1.live h1.end_ h2.live h2.end_
noncomputable def stS(us:List (Nat × Nat)):List Stp:=us.map λu=>((u.1:Int),(u.2:Int),rL)
noncomputable def yt(bs:List Ent)(e:Ent)(i j:Nat):Ent:=(wAt (zb bs) e.1 i,wAt (zb bs) e.2.1 j,byL bs (yD (stS (sAt (zb bs) e.1 i))) ++ e.2.2 ++ byL bs (stS (sAt (zb bs) e.2.1 j)))
def ut(e:Ent):Prop:=240<e.2.2.length\/60<e.1.length\/60<e.2.1.length
inductive yN(k:Nat)(l:())(ns:List Int):List Ent->List Ent->Option (List Ent)->Prop where
 | nil (bs:List Ent):yN k l ns bs [] (rJ bs)
 | same {bs es:List Ent} {e:Ent} {i j:Nat} {r:Option (List Ent)} (h1:EndsAt (zb bs) e.1 i) (h2:EndsAt (zb bs) e.2.1 j) (h3:wAt (zb bs) e.1 i=wAt (zb bs) e.2.1 j) (h4:yN k l ns bs es r):yN k l ns bs (e::es) r
 | new {bs es:List Ent} {e:Ent} {i j:Nat} {r:Option (List Ent)} (h1:EndsAt (zb bs) e.1 i) (h2:EndsAt (zb bs) e.2.1 j) (h3:wAt (zb bs) e.1 i≠wAt (zb bs) e.2.1 j) (h4:¬ ut (yt bs e i j)) (h5:yN k l ns (bs ++ [zU k l ns (yt bs e i j)]) es r):yN k l ns bs (e::es) r
 | far {bs es:List Ent} {e:Ent} {i j:Nat} (h1:EndsAt (zb bs) e.1 i) (h2:EndsAt (zb bs) e.2.1 j) (h3:wAt (zb bs) e.1 i≠wAt (zb bs) e.2.1 j) (h4:ut (yt bs e i j)):yN k l ns bs (e::es) rK
 | stuck {bs es:List Ent} {e:Ent} (h:(∀i,¬ EndsAt (zb bs) e.1 i)\/(∀j,¬ EndsAt (zb bs) e.2.1 j)):yN k l ns bs (e::es) rK
inductive vz(k:Nat)(l:())(ns:List Int):Nat->List Ent->Option (List Ent)->Prop where
 | out (es:List Ent):vz k l ns 0 es rK
 | bad {n:Nat} {es zs:List Ent} (h1:Lined k l ns es zs) (h2:yN k l ns [] zs rK):vz k l ns (n+1) es rK
 | done {n:Nat} {es zs bs:List Ent} (h1:Lined k l ns es zs) (h2:yN k l ns [] zs (rJ bs)) (h3:zb bs=zb zs):vz k l ns (n+1) es (rJ bs)
 | more {n:Nat} {es zs bs:List Ent} {r:Option (List Ent)} (h1:Lined k l ns es zs) (h2:yN k l ns [] zs (rJ bs)) (h3:zb bs≠zb zs) (h4:vz k l ns n bs r):vz k l ns (n+1) es r
theorem zX{w:()}{u:Nat × Nat}(h:zA w ps=rJ u):∃p,ps[u.1]? = rJ p/\zr w (u.2:Int) p.1=rL:=by
 have hm:u ∈ xv w ps w.length:=List.mem_of_mem_head? (by unfold zA at h;rw[h];rfl);exact (wK (usesK_mem.mp hm).2).2
theorem vB{l w:()}(hw:∀c ∈ w,c ∈ l)(hp:∀p ∈ ps,∀c ∈ p.2,c ∈ l):∀j,∀c ∈ wAt ps w j,c ∈ l
 | 0=>hw
 | j+1=>by
  have ih:=vB hw hp j
  cases e:zA (wAt ps w j) ps with
  | none =>
   show ∀c ∈ XR ps (wAt ps w j),c ∈ l;unfold XR;rw[e];exact ih
  | some u =>
   obtain⟨p,h1,h2⟩:=zX e;rw[xh e];unfold jZ yE;rw[yB h1];intro c hc;rcases rT.mp hc with hc | hc
   ·rcases rT.mp hc with hc | hc
    ·exact ih c (bH hc)
    ·exact hp p (af h1) c hc
   ·exact ih c (cQ hc)
structure zb9(R:()->()->Prop):Prop where
 refl:∀u,R u u
 symm:∀{u v},R u v->R v u
 trans:∀{u v w},R u v->R v w->R u w
 ctx:∀{u v} (a b:()),R u v->R (a ++ u ++ b) (a ++ v ++ b)
def XG(R:()->()->Prop)(es:List Ent):Prop:=∀e ∈ es,R e.1 e.2.1
theorem K5{R:()->()->Prop}(hR:zb9 R)(hk:∀p ∈ ps,R p.1 p.2)(w:()):∀j,R w (wAt ps w j)
 | 0=>hR.refl w
 | j+1=>by
  have ih:=K5 hR hk w j
  cases e:zA (wAt ps w j) ps with
  | none =>
   show R w (XR ps (wAt ps w j));unfold XR;rw[e];exact ih
  | some u =>
   obtain⟨p,h1,h2⟩:=zX e;rw[xh e];refine hR.trans ih ?_;obtain⟨e1,_⟩:=ye h2;unfold jZ yE;rw[yB h1];have:=hR.ctx ((wAt ps w j).take ((u.2:Int)).toNat) ((wAt ps w j).drop (((u.2:Int)).toNat+p.1.length)) (hk p (af h1));rw[e1]at this;exact this
theorem qj{R:()->()->Prop}(h:XG R bs):∀p ∈ zb bs,R p.1 p.2:=λp hp=>by
 unfold zb at hp;obtain⟨e,he,rfl⟩:=rR.mp hp;exact h e he
theorem qR{R:()->()->Prop}(hR:zb9 R){l:()}:R (zU k l ns e).1 (zU k l ns e).2.1 ↔ R e.1 e.2.1:=by
 unfold zU;split
 ·exact Iff.rfl
 ·exact#[hR.symm,hR.symm]
theorem XV{R:()->()->Prop}(hR:zb9 R){i j:Nat}(h:XG R bs):R (wAt (zb bs) e.1 i) (wAt (zb bs) e.2.1 j) ↔ R e.1 e.2.1:=by
 have h1:=K5 hR (qj h) e.1 i;have h2:=K5 hR (qj h) e.2.1 j;exact#[λx=>hR.trans h1 (hR.trans x (hR.symm h2)),λx=>hR.trans (hR.symm h1) (hR.trans x h2)]
theorem zcG{R:()->()->Prop}(hR:zb9 R){l:()}{bs es:List Ent}{r:Option (List Ent)}(h:yN k l ns bs es r):∀fs,r=rJ fs->(XG R fs ↔ XG R bs/\XG R es):=by
 induction h with
 | nil bs =>
  intro fs e;cases e;exact#[λh=>#[h,λe he=>(nomatch he)],λh=>h.1]
 | @same bs es e i j r h1 h2 h3 h4 ih =>
  intro fs er;rw[ih fs er];refine#[λ⟨a,b⟩=>#[a,λx hx=>?_],λ⟨a,b⟩=>#[a,λx hx=>b x (aq _ hx)]];rcases rS.mp hx with rfl | hx
  ·refine (XV hR a (i:=i) (j:=j)).mp ?_;rw[h3];exact hR.refl _
  ·exact b x hx
 | @new bs es e i j r h1 h2 h3 h4 h5 ih =>
  intro fs er;rw[ih fs er];constructor
  ·rintro⟨a,b⟩;have a':XG R bs:=λx hx=>a x (bh _ hx);refine#[a',λx hx=>?_];rcases rS.mp hx with rfl | hx
   ·have:=a _ (aD bs (rV.mpr rfl));exact (XV hR a' (i:=i) (j:=j)).mp ((qR hR).mp this)
   ·exact b x hx
  ·rintro⟨a,b⟩;refine#[λx hx=>?_,λx hx=>b x (aq _ hx)];rcases rT.mp hx with hx | hx
   ·exact a x hx
   ·rw[rV.mp hx];exact (qR hR).mpr ((XV hR a (i:=i) (j:=j)).mpr (b e az))
 | far=>intro fs e;cases e
 | stuck=>intro fs e;cases e
def Within(p w:()):Prop:=∃a b:(),w=a ++ p ++ b
theorem Ve{w p:()}{q:Nat}(h:zr w (q:Int) p=rL):Within p w:=by
 obtain⟨e,_⟩:=ye h;exact#[_,_,e.symm]
theorem X5{w p:()}(h:Within p w):∃q:Nat,zr w (q:Int) p=rL:=by
 obtain⟨a,b,rfl⟩:=h;refine#[a.length,?_];unfold zr;refine decide_eq_true #[⋯,by erw[aj];lia,?_];rw[aH,aP,e7,List.take_left]
theorem V9{w:()}(hN:NeL ps)(h:zA w ps=rK):∀p ∈ ps,¬ Within p.1 w:=λp hp hw=>by
 obtain⟨q,hq⟩:=X5 hw;obtain⟨j,hj⟩:=sv.mp hp;have hlt:=uN (hN p hp) hq;have hs:stJ w ps q j=rL:=by rw[qV hj];exact hq
 have:(j,q) ∈ xv w ps w.length:=usesK_mem.mpr #[hlt,hs];unfold zA at h;rw[List.head?_eq_none_iff]at h;rw[h]at this;cases this
structure RL(k:Nat)(l:())(ns:List Int)(bs:List Ent):Prop where
 e:∀e ∈ bs,EB l e
 lt:∀e ∈ bs,zO k l ns e.2.1 e.1=rL
theorem UP{l:()}{w:()}{u:Nat × Nat}(G:OG l ns k)(hp:∀p ∈ ps,zO k l ns p.2 p.1=rL/\(∀c ∈ p.1,c ∈ l)/\∀c ∈ p.2,c ∈ l)(hw:∀c ∈ w,c ∈ l)(h:zA w ps=rJ u):zO k l ns (jZ w ps u) w=rL:=by
 obtain⟨p,h1,h2⟩:=zX h;obtain⟨e1,_⟩:=ye h2;obtain⟨p1,p2,p3⟩:=hp p (af h1);unfold jZ yE;rw[yB h1];have ha:∀c ∈ w.take ((u.2:Int)).toNat,c ∈ l:=λc hc=>hw c (bH hc);have hb:∀c ∈ w.drop (((u.2:Int)).toNat+p.1.length),c ∈ l:=λc hc=>hw c (cQ hc);generalize w.take ((u.2:Int)).toNat=a at *;generalize w.drop (((u.2:Int)).toNat+p.1.length)=b at *;rw[<- e1];have ap:∀x:(),(∀c ∈ x,c ∈ l)->∀c ∈ a ++ x,c ∈ l:=λx hx c hc=>(rT.mp hc).elim (ha c) (hx c);rw[(Zn G hb (ap p.2 p3) (ap p.1 p2)).2,(Zn G ha p3 p2).1];exact p1
theorem QW{l:()}{w:()}(G:OG l ns k)(hp:∀p ∈ ps,zO k l ns p.2 p.1=rL/\(∀c ∈ p.1,c ∈ l)/\∀c ∈ p.2,c ∈ l)(hw:∀c ∈ w,c ∈ l):∀j,wAt ps w j=w\/zO k l ns (wAt ps w j) w=rL
 | 0=>.inl rfl
 | j+1=>by
  have ih:=QW G hp hw j;have hm:=vB hw (λp hp'=>(hp p hp').2.2) j
  cases e:zA (wAt ps w j) ps with
  | none =>
   show XR ps (wAt ps w j)=w\/zO k l ns (XR ps (wAt ps w j)) w=rL;unfold XR;rw[e];exact ih
  | some u =>
   rw[xh e];have h:=UP G hp hm e;rcases ih with h' | h'
   ·rw[h']at h ⊢;exact .inr h
   ·exact .inr (uS h h')
theorem RL.pairs{l:()}(h:RL k l ns bs):∀p ∈ zb bs,zO k l ns p.2 p.1=rL/\(∀c ∈ p.1,c ∈ l)/\∀c ∈ p.2,c ∈ l:=λp hp=>by
 unfold zb at hp;obtain⟨e,he,rfl⟩:=rR.mp hp;exact#[h.lt e he,(h.e e he).ma,(h.e e he).mb]
theorem RL.ne{l:()}(h:RL k l ns bs)(G:OG l ns k):NeL (zb bs):=λp hp=>VC G.nb (h.pairs p hp).1
theorem RL.snoc{l:()}{d:Ent}(h:RL k l ns bs)(hd:EB l d)(hne:d.1≠d.2.1):RL k l ns (bs ++ [zU k l ns d]):=by
 refine#[λe he=>?_,λe he=>?_]
 ·rcases rT.mp he with he | he
  ·exact h.e e he
  ·rw[rV.mp he];exact hd.rule
 ·rcases rT.mp he with he | he
  ·exact h.lt e he
  ·rw[rV.mp he];exact uL hd hne
theorem K0{l:()}{i j:Nat}(hB:RL k l ns bs)(hE:EB l e)(hF:¬ ut (yt bs e i j)):EB l (yt bs e i j):=by
 unfold ut at hF;exact#[⋯,⋯,⋯,vB hE.ma (λp hp=>(hB.pairs p hp).2.2) i,vB hE.mb (λp hp=>(hB.pairs p hp).2.2) j]
theorem XF{l:()}{i j:Nat}(G:OG l ns k)(hB:RL k l ns bs)(hE:EB l e)(hlt:zO k l ns e.2.1 e.1=rL)(h1:EndsAt (zb bs) e.1 i)(h2:EndsAt (zb bs) e.2.1 j)
  (hp1:(zU k l ns (yt bs e i j)).1=e.1) (hp2:(zU k l ns (yt bs e i j)).2.1=e.2.1):zA e.1 (zb bs)=rK/\zA e.2.1 (zb bs)=rK:=by
 unfold zU at hp1 hp2;by_cases h:zO k l ns (yt bs e i j).2.1 (yt bs e i j).1=rL
 ·rw[if_pos h]at hp1 hp2;have a1:wAt (zb bs) e.1 i=e.1:=hp1;have a2:wAt (zb bs) e.2.1 j=e.2.1:=hp2;have b1:=h1.end_;have b2:=h2.end_;rw[a1]at b1;rw[a2]at b2;exact#[b1,b2]
 ·rw[if_neg h]at hp1 hp2;have a1:wAt (zb bs) e.2.1 j=e.1:=hp1;rcases QW G hB.pairs hE.mb j with h' | h'
  ·rw[a1]at h';rw[h',xl]at hlt;cases hlt
  ·rw[a1]at h';rw[Z3 h']at hlt;cases hlt
theorem qN{l:()}(G:OG l ns k){bs es:List Ent}{r:Option (List Ent)}(h:yN k l ns bs es r):∀fs,r=rJ fs->RL k l ns bs->RL k l ns es->∃gs,fs=bs ++ gs/\gs.length<=es.length/\RL k l ns fs /\
  (zb gs=zb es->∀i e,es[i]? = rJ e->zA e.1 (zb (bs ++ gs.take i))=rK/\zA e.2.1 (zb (bs ++ gs.take i))=rK):=by
 induction h with
 | nil bs =>
  intro fs er hb he;cases er;exact#[[],by simp,al _,hb,λ_ i e h=>by simp at h]
 | @same bs es e i j r h1 h2 h3 h4 ih =>
  intro fs er hb he;obtain⟨gs,g1,g2,g3,g4⟩:=ih fs er hb #[λx hx=>he.e x (aq _ hx),λx hx=>he.lt x (aq _ hx)];refine#[gs,g1,by rw[aJ];lia,g3,λhp=>?_];have:=congrArg ci hp;unfold zb at this;rw[ac,ac,aJ]at this;lia
 | @new bs es e i j r h1 h2 h3 h4 h5 ih =>
  intro fs er hb he;have hEe:=he.e e az;have hd:=K0 hb hEe h4;obtain⟨gs,g1,g2,g3,g4⟩:=ih fs er (hb.snoc hd h3) #[λx hx=>he.e x (aq _ hx),λx hx=>he.lt x (aq _ hx)];refine#[zU k l ns (yt bs e i j)::gs,by rw[g1,aP];rfl,by rw[aJ,aJ];lia,g3,λhp n x hx=>?_];unfold zb at hp;rw[am,am]at hp;injection hp with hp1 hp2;have hp1a:=(Prod.ext_iff.mp hp1).1;have hp1b:=(Prod.ext_iff.mp hp1).2
  cases n with
  | zero =>
   have e0:e=x:=by simpa using hx
   subst e0;rw[bc,aQ];exact XF G hb hEe (he.lt _ az) h1 h2 hp1a hp1b
  | succ n =>
   have:=g4 hp2 n x (by simpa using hx);rw[aP]at this;rw[cU];exact this
 | far=>intro fs e;cases e
 | stuck=>intro fs e;cases e
theorem vV{l:()}(G:OG l ns k){p w:()}(hw:∀c ∈ w,c ∈ l)(h:Within p w):p=w\/zO k l ns p w=rL:=by
 obtain⟨a,b,rfl⟩:=h;by_cases e:a ++ p ++ b=p
 ·exact .inl e.symm
 ·refine .inr (U7 G (λc hc=>hw c ?_) (λc hc=>hw c ?_) (λc hc=>hw c ?_) e).1
  ·exact bh _ (bh _ hc)
  ·exact bh _ (aD _ hc)
  ·exact aD _ hc
structure ThinL(k:Nat)(l:())(ns:List Int)(zs:List Ent):Prop where
 rl:RL k l ns zs
 up:∀(i j:Nat) (a b:Ent),zs[i]? = rJ a->zs[j]? = rJ b->i<j->zO k l ns a.1 b.1=rL
 no1:∀(i j:Nat) (a b:Ent),zs[i]? = rJ a->zs[j]? = rJ b->i≠j->¬ Within b.1 a.1
 no2:∀(i j:Nat) (a b:Ent),zs[i]? = rJ a->zs[j]? = rJ b->¬ Within b.1 a.2.1
theorem Kg{k:Nat}{l:()}{ns:List Int}(G:OG l ns k){zs bs:List Ent}(hz:RL k l ns zs)(hs:zs.Pairwise λa b=>qG k l ns b a=rM)(h:yN k l ns [] zs (rJ bs))(hp:zb bs=zb zs):ThinL k l ns zs:=by
 obtain⟨gs,g1,g2,g3,g4⟩:=qN G h bs rfl #[λe he=>(nomatch he),λe he=>(nomatch he)] hz;rw[aY]at g1;subst g1;have irr:=g4 hp
 erw[aY]at irr
 have early:∀(i j:Nat) (a b:Ent),zs[i]? = rJ a->zs[j]? = rJ b->j<i->¬ Within b.1 a.1/\¬ Within b.1 a.2.1:=λi j a b ha hb hj=>by
  have hm:(b.1,b.2.1) ∈ zb (bs.take i):=by
   have e1:zb (bs.take i)=(zb zs).take i:=by
    rw[<- hp];unfold zb;rw[List.map_take]
   rw[e1];refine sv.mpr #[j,?_];rw[dh hj];unfold zb;rw[ax,hb];rfl
  have hN:NeL (zb (bs.take i)):=λp hp'=>by
   refine (g3.ne G) p ?_;unfold zb at hp' ⊢;obtain⟨x,hx,rfl⟩:=rR.mp hp';exact rR.mpr #[x,bH hx,rfl]
  obtain⟨f1,f2⟩:=irr i a ha;exact#[V9 hN f1 _ hm,V9 hN f2 _ hm]
 have later:∀(i j:Nat) (a b:Ent),zs[i]? = rJ a->zs[j]? = rJ b->i<j->zO k l ns b.1 a.1=rM:=λi j a b ha hb hij=>by
  have hi:=(rQ.mp ha);have hj:=(rQ.mp hb);have:=List.pairwise_iff_getElem.mp hs i j hi.1 hj.1 hij;rw[hi.2,hj.2]at this;unfold qG at this;by_cases e:b.1=a.1
  ·rw[e,xl]
  ·rw[if_neg e]at this;exact this
 have memz:∀{i:Nat} {a:Ent},zs[i]? = rJ a->EB l a/\zO k l ns a.2.1 a.1=rL:=λ{i a} ha=>#[hz.e _ (af ha),hz.lt _ (af ha)]
 have up:∀(i j:Nat) (a b:Ent),zs[i]? = rJ a->zs[j]? = rJ b->i<j->zO k l ns a.1 b.1=rL:=λi j a b ha hb hij=>by
  have hne:a.1≠b.1:=λe=>(early j i b a hb ha hij).1 #[[],[],by rw[e];simp];have t:=qh (k:=k) (ns:=ns) (memz ha).1.ma (memz hb).1.ma hne;rw[later i j a b ha hb hij]at t;simpa using t
 refine#[hz,up,λi j a b ha hb hij=>?_,λi j a b ha hb hw=>?_]
 ·rcases Nat.lt_or_gt_of_ne hij with h1 | h1
  ·intro hw;rcases vV G (memz ha).1.ma hw with e | e
   ·have:=up i j a b ha hb h1;rw[e,xl]at this;cases this
   ·rw[later i j a b ha hb h1]at e;cases e
  ·exact (early i j a b ha hb h1).1
 ·have hle:zO k l ns b.1 a.1=rL:=by
   rcases vV G (memz ha).1.mb hw with e | e
   ·rw[e];exact (memz ha).2
   ·exact uS e (memz ha).2
  rcases d7 i j with h1 | h1 | h1
  ·rw[later i j a b ha hb h1]at hle;cases hle
  ·subst h1;rw[ha]at hb;cases hb;rw[xl]at hle;cases hle
  ·exact (early i j a b ha hb h1).2 hw
theorem j3{w:()}:∀{i:Nat},qJ ps w i->yc ps w (stS (sAt ps w i))=rJ (wAt ps w i)
 | 0,_=>rfl
 | i+1,h=>by
  have ih:=j3 (i:=i) λj hj=>h j ⋯;have hne:=h i ⋯
  cases e:zA (wAt ps w i) ps with
  | none=>exact absurd e hne
  | some u =>
   rw[YO,xh e,e];unfold stS at ih ⊢;rw[ao];refine Zc ih ?_;obtain⟨p,h1,h2⟩:=zX e;have hl:=(rQ.mp h1).1;show yj ps (wAt ps w i) ((u.1:Int),(u.2:Int),rL)=_;rw[yI (by show (0:Int)<=(u.1:Int)/\(u.1:Int)<ps.length;lia)];have e2:ps.getD ((u.1:Int)).toNat ([],[])=p:=by rw[aH,aa,h1];rfl
   show (if zr (wAt ps w i) (u.2:Int) (sdl (ps.getD ((u.1:Int)).toNat ([],[])) rL).1=rL then _ else rK)=_;rw[e2,if_pos (show zr (wAt ps w i) (u.2:Int) (sdl p rL).1=rL from h2)];unfold jZ;rw[yB h1];rfl
theorem VB{l:()}(h:EOk rs e):EOk rs (zU k l ns e):=by
 unfold zU;split
 ·exact h
 ·exact vc h
theorem JX{i j:Nat}(hb:∀e ∈ bs,EOk rs e)(he:EOk rs e)(h1:EndsAt (zb bs) e.1 i)(h2:EndsAt (zb bs) e.2.1 j):EOk rs (yt bs e i j):=by
 have w1:=jS hb (vc (j3 h1.live));have w2:=jS hb (j3 h2.live);have he':yc rs e.1 e.2.2=rJ e.2.1:=he;show yc rs (wAt (zb bs) e.1 i) (byL bs (yD (stS (sAt (zb bs) e.1 i))) ++ e.2.2 ++ byL bs (stS (sAt (zb bs) e.2.1 j)))=rJ (wAt (zb bs) e.2.1 j);rw[xI,xI,w1,bL,he',bL];exact w2
theorem YD{l:()}{bs es:List Ent}{r:Option (List Ent)}(h:yN k l ns bs es r):∀fs,r=rJ fs->(∀e ∈ bs,EOk rs e)->(∀e ∈ es,EOk rs e)->∀e ∈ fs,EOk rs e:=by
 induction h with
 | nil bs=>intro fs er hb _;cases er;exact hb
 | @same bs es e i j r h1 h2 h3 h4 ih=>intro fs er hb he;exact ih fs er hb λx hx=>he x (aq _ hx)
 | @new bs es e i j r h1 h2 h3 h4 h5 ih =>
  intro fs er hb he;refine ih fs er (λx hx=>?_) λx hx=>he x (aq _ hx);rcases rT.mp hx with hx | hx
  ·exact hb x hx
  ·rw[rV.mp hx];exact VB (JX hb (he e az) h1 h2)
 | far=>intro fs e;cases e
 | stuck=>intro fs e;cases e
theorem YA{l:()}{es zs:List Ent}(h:Lined k l ns es zs)(he:∀e ∈ es,EOk rs e):∀e ∈ zs,EOk rs e:=λe hz=>by
 have hm:=h.perm.mem_iff.mp hz;unfold ur at hm;obtain⟨y,hy,rfl⟩:=rR.mp hm;exact VB (he y (rX.mp hy).1)
theorem YM{l:()}{es zs:List Ent}(h:Lined k l ns es zs)(he:∀e ∈ es,EB l e):RL k l ns zs:=by
 have key:∀e ∈ zs,∃y,EB l y/\y.1≠y.2.1/\e=zU k l ns y:=λe hz=>by
  have hm:=h.perm.mem_iff.mp hz;unfold ur at hm;obtain⟨y,hy,rfl⟩:=rR.mp hm;obtain⟨h1,h2⟩:=rX.mp hy;exact#[y,he y h1,by simpa using h2,rfl]
 refine#[λe hz=>?_,λe hz=>?_]
 ·obtain⟨y,h1,_,rfl⟩:=key e hz;exact h1.rule
 ·obtain⟨y,h1,h2,rfl⟩:=key e hz;exact uL h1 h2
theorem Um{l:()}(G:OG l ns k){zs bs:List Ent}(hz:RL k l ns zs)(h:yN k l ns [] zs (rJ bs)):RL k l ns bs:=by
 obtain⟨gs,g1,g2,g3,g4⟩:=qN G h bs rfl #[λe he=>(nomatch he),λe he=>(nomatch he)] hz;exact g3
theorem Ya{k n:Nat}{l:()}(G:OG l ns k){r:Option (List Ent)}(h:vz k l ns n es r):∀fs,r=rJ fs->(∀e ∈ es,EB l e)->(∀e ∈ es,EOk rs e)->(∀e ∈ fs,EOk rs e)/\∃zs,ThinL k l ns zs/\zb fs=zb zs:=by
 induction h with
 | out=>intro fs e;cases e
 | bad=>intro fs e;cases e
 | @done n es zs bs h1 h2 h3 =>
  intro fs er he ho;cases er;have hz:=YM h1 he;exact#[YD h2 bs rfl (λe h=>(nomatch h)) (YA h1 ho),zs,Kg G hz h1.srt h2 h3,h3]
 | @more n es zs bs r h1 h2 h3 h4 ih =>
  intro fs er he ho;have hz:=YM h1 he;exact ih fs er (Um G hz h2).e (YD h2 bs rfl (λe h=>(nomatch h)) (YA h1 ho))
noncomputable def rankF:KeyFam (Int × List Int):=#[λr=>[.int r.1,.lst (r.2.map L3.D.int)],λa b=>if a.1=b.1 then ltI a.2 b.2 else decide (a.1<b.1),rL,(0,[])]
theorem UC{x y:List Int}(h:ltI x y=rL):ltI y x=rM:=by
 by_cases e:x=y
 ·subst e;rw[yV]at h;cases h
 ·have:=wf e;rw[h]at this;simpa using this.symm
theorem JB{x y z:List Int}(h1:ltI y x=rM)(h2:ltI z y=rM):ltI z x=rM:=by
 cases h:ltI z x with
 | false=>rfl
 | true =>
  by_cases e:y=x
  ·subst e;rw[h2]at h;cases h
  ·have h3:=wf e;rw[h1]at h3;have h4:ltI x y=rL:=by simpa using h3.symm
   rw[uH h h4]at h2;cases h2
theorem rankF_ok:rankF.Ok where
 w:=#[λa b h=>by
   erw[rankF]at h ⊢
   by_cases e:a.1=b.1
   ·rw[if_pos e]at h;rw[if_pos e.symm];exact UC h
   ·rw[if_neg e]at h;rw[if_neg (λz=>e z.symm)];have:=of_decide_eq_true h;exact decide_eq_false ⋯,
  λa b c h1 h2=>by
   erw[rankF]at h1 h2 ⊢
   by_cases e:b.1=a.1
   ·rw[if_pos e]at h1;rw[e]at h2;by_cases f:c.1=a.1
    ·rw[if_pos f]at h2 ⊢;exact JB h1 h2
    ·rw[if_neg f]at h2 ⊢;exact h2
   ·rw[if_neg e]at h1;have h1':=of_decide_eq_false h1;by_cases f:c.1=b.1
    ·rw[if_neg ⋯];exact decide_eq_false ⋯
    ·rw[if_neg f]at h2;have h2':=of_decide_eq_false h2;rw[if_neg ⋯]
     exact decide_eq_false ⋯]
 eq:=λa b=>by
  have:=XU a.1 b.1 a.2 b.2
  erw[ltD]at this
  exact this
 ok:=λa b=>by erw[rankF,qT,okD];exact#[trivial,va _ _,trivial]
 dp:=λa=>by erw[rankF,dpD,wI,j7];decide
 sh:=λa=>#[_,_,rfl,.inl #[rfl,_,rfl]]
noncomputable def vT(k:Nat)(l:())(ns:List Int)(w:()):Int × List Int:=(zu k l ns w,vw k l w)
theorem YE{d:L3.D}{v:V}:∀{ds:List L3.D} {vs:List V},Iss K H ds vs->Is K H d v->Iss K H (ds ++ [d]) (vs ++ [v])
 | [],vs,h,hv=>by
  erw[Iss]at h
  subst h
  erw[aY,Iss]
  exact#[v,[],rfl,hv,rfl]
 | e::ds,vs,h,hv=>by
  erw[Iss]at h
  obtain⟨x,r,rfl,hx,hr⟩:=h
  erw[bo,Iss]
  exact#[x,r ++ [v],rfl,hx,YE hr hv]
theorem OrdAt.samT{T CO CR CW:nW}{H H':Hp}{ps:Array nX}{o:nW}{l:()}(h:OrdAt CO CR CW H o k l ns)(s:SamT T H H')(hT:H T=rJ (.tbl ps)):OrdAt CO CR CW H' o k l ns:=by
 obtain⟨dx,⟨h1,h2⟩ | ⟨h1,h2⟩⟩:=h
 ·exact#[dx,.inl #[h1,s.at hT h2 λ_ z=>by cases z]]
 ·exact#[dx,.inr #[h1,s.at hT h2 λ_ z=>by cases z]]
theorem EnsA.samT{T:nW}{H H':Hp}{ps:Array nX}(s:SamT T H H')(hT:H T=rJ (.tbl ps)):∀{es:List Ent} {vs:List V},EnsA K H es vs->EnsA K H' es vs
 | [],vs,h=>by erw[EnsA]at h ⊢;exact h
 | e::es,vs,h=>by
  erw[EnsA]at h ⊢
  obtain⟨v,r,e0,⟨p,s',e1,h1,h2⟩,h3⟩:=h;exact#[v,r,e0,#[p,s',e1,s.seqT hT h1,h2.samT s hT],EnsA.samT s hT h3]
theorem uB{a b:Int × List Int}(h:a≠b):rankF.lt a b=!rankF.lt b a:=by
 erw[rankF]
 by_cases e:a.1=b.1
 ·rw[if_pos e,if_pos e.symm];exact wf λq=>h (Prod.ext e q)
 ·rw[if_neg e,if_neg λq=>e q.symm];by_cases c:a.1<b.1
  ·rw[decide_eq_true c,decide_eq_false ⋯];rfl
  ·rw[decide_eq_false c,decide_eq_true ⋯];rfl
theorem WQ(a b:Int × List Int):eqD (.tup (rankF.dec a)) (.tup (rankF.dec b))=decide (a=b):=by
 obtain⟨a1,a2⟩:=a;obtain⟨b1,b2⟩:=b
 erw[rankF,eqD,vq,qf]
 by_cases h:a1=b1
 ·by_cases h2:a2=b2
  ·simp [h,h2]
  ·simp [h,h2]
 ·simp [h]
theorem Y2(a b:Int × List Int):ltD (.tup (rankF.dec a)) (.tup (rankF.dec b))=rankF.lt a b:=by
 erw[ltD]
 exact rankF_ok.eq a b
theorem v0(a:Int × List Int):rankF.lt a a=rM:=by
 erw[rankF]
 rw[if_pos trivial];exact yV _
noncomputable def pairF:KeyFam ((Int × List Int) × (Int × List Int)):=#[λr=>[.tup (rankF.dec r.1),.tup (rankF.dec r.2)],λa b=>if a.1=b.1 then rankF.lt a.2 b.2 else rankF.lt a.1 b.1,rM,((0,[]),(0,[]))]
theorem um(a b:(Int × List Int) × (Int × List Int)):pairF.lt a b=if a.1=b.1 then rankF.lt a.2 b.2 else rankF.lt a.1 b.1:=rfl
theorem pairF_ok:pairF.Ok where
 w:=#[λa b h=>by
   rw[um]at h ⊢;by_cases e:a.1=b.1
   ·rw[if_pos e]at h;rw[if_pos e.symm];exact rankF_ok.w.asym _ _ h
   ·rw[if_neg e]at h;rw[if_neg λq=>e q.symm];exact rankF_ok.w.asym _ _ h,
  λa b c h1 h2=>by
   rw[um]at h1 h2 ⊢;by_cases e:b.1=a.1
   ·rw[if_pos e]at h1;rw[e]at h2;by_cases f:c.1=a.1
    ·rw[if_pos f]at h2 ⊢;exact rankF_ok.w.ntr _ _ _ h1 h2
    ·rw[if_neg f]at h2 ⊢;exact h2
   ·rw[if_neg e]at h1;by_cases g:c.1=b.1
    ·rw[g,if_neg e];exact h1
    ·rw[if_neg g]at h2;by_cases f:c.1=a.1
     ·rw[f]at h2;have:=uB (a:=b.1) (b:=a.1) e;rw[h1,h2]at this;cases this
     ·rw[if_neg f]
      exact rankF_ok.w.ntr _ _ _ h1 h2]
 eq:=λa b=>by
  show xj [.tup (rankF.dec a.1),.tup (rankF.dec a.2)] [.tup (rankF.dec b.1),.tup (rankF.dec b.2)]=_;rw[um,xj,WQ,xj,WQ,Y2,Y2,xj];by_cases e:a.1=b.1
  ·rw[if_pos (decide_eq_true e),if_pos e];by_cases f:a.2=b.2
   ·rw[if_pos (decide_eq_true f),f,v0]
   ·rw[if_neg (by simpa using f)]
  ·rw[if_neg (by simpa using e),if_neg e]
 ok:=λa b=>by
  show qT [.tup (rankF.dec a.1),.tup (rankF.dec a.2)] [.tup (rankF.dec b.1),.tup (rankF.dec b.2)]
  erw[qT,okD]
  exact#[rankF_ok.ok _ _,rankF_ok.ok _ _,trivial]
 dp:=λa=>by erw[pairF,rankF,dpD,wI,j7];decide
 sh:=λa=>#[_,_,rfl,.inr #[rfl,_,rfl]]
noncomputable def rkE(k:Nat)(l:())(ns:List Int)(e:Ent):(Int × List Int) × (Int × List Int):=(vT k l ns e.1,vT k l ns e.2.1)
theorem QR{l:()}{u v:()}(hu:∀c ∈ u,c ∈ l)(hv:∀c ∈ v,c ∈ l):vT k l ns u=vT k l ns v ↔ u=v :=
 #[λh=>jw hu hv (Prod.ext_iff.mp h).2,λh=>by rw[h]]
theorem Wg{l:()}{a b:Ent}(ha:EB l a)(hb:EB l b):pairF.lt (rkE k l ns a) (rkE k l ns b)=qG k l ns a b:=by
 rw[um];unfold qG;have h:(rkE k l ns a).1=(rkE k l ns b).1 ↔ a.1=b.1:=QR ha.ma hb.ma;by_cases e:a.1=b.1
 ·rw[if_pos (h.mpr e),if_pos e];rfl
 ·rw[if_neg λq=>e (h.mp q),if_neg e];rfl
theorem Ua:∀{es:List Ent} {vs:List V},EnsA K H es vs->∀t ∈ es.zip vs,EnA K H t.1 t.2
 | [],_,_,t,ht=>by simp at ht
 | e::es,vs,h,t,ht=>by
  erw[EnsA]at h
  obtain⟨v,r,rfl,h1,h2⟩:=h;rw[cF]at ht;rcases rS.mp ht with rfl | ht
  ·exact h1
  ·exact Ua h2 t ht
theorem QQ:∀{ts:List (Ent × V)},(∀t ∈ ts,EnA K H t.1 t.2)->EnsA K H (ts.map (·.1)) (ts.map (·.2))
 | [],_=>by erw[aF,EnsA]
 | t::ts,h=>by
  erw[am,EnsA]
  exact#[_,_,rfl,h t az,QQ λu hu=>h u (aq _ hu)]
theorem ZH{l:()}{vs:List V}{ys:List (((Int × List Int) × (Int × List Int)) × V)}{d:((Int × List Int) × (Int × List Int)) × V}(hI:EnsA K H es vs)(hE:∀e ∈ es,EB l e)(h1:ys=srt (λp q=>pairF.lt p.1 q.1) d ((es.map (rkE k l ns)).zip vs)) :
  ∃zs:List Ent,zs.Perm es/\zs.Pairwise (λa b=>qG k l ns b a=rM)/\zs=srt (qG k l ns) ([],[],[]) es/\EnsA K H zs (ys.map (·.2)):=by
 have hl:=hI.len
 have e0:(es.map (rkE k l ns)).zip vs=(es.zip vs).map λt=>(rkE k l ns t.1,t.2):=by
  rw[List.zip_map_left];rfl
 have W0:WkO λ(p q:((Int × List Int) × (Int × List Int)) × V)=>pairF.lt p.1 q.1:=#[λa b=>pairF_ok.w.asym _ _,λa b c=>pairF_ok.w.ntr _ _ _];have W1:WkO λ(p q:Ent × V)=>pairF.lt (rkE k l ns p.1) (rkE k l ns q.1):=#[λa b=>pairF_ok.w.asym _ _,λa b c=>pairF_ok.w.ntr _ _ _];have W2:WkO λ(p q:Ent)=>pairF.lt (rkE k l ns p) (rkE k l ns q):=#[λa b=>pairF_ok.w.asym _ _,λa b c=>pairF_ok.w.ntr _ _ _];rw[e0,QN W0 (d':=(λt:Ent × V=>(rkE k l ns t.1,t.2)) (([],[],[]),.non)) (λ_ _ _ _=>rfl)]at h1
 replace h1:=h1.trans (Wa (lt:=λ(p q:((Int × List Int) × (Int × List Int)) × V)=>pairF.lt p.1 q.1) (λt:Ent × V=>(rkE k l ns t.1,t.2)) (([],[],[]),.non) (es.zip vs))
 obtain⟨p,h2⟩:=Ye W1 (([],[],[]),.non) (es.zip vs)
 have e2:(srt (λ(p q:Ent × V)=>pairF.lt (rkE k l ns p.1) (rkE k l ns q.1)) (([],[],[]),.non) (es.zip vs)).map (·.1)=srt (qG k l ns) ([],[],[]) es:=by
  rw[<- QN W2 (d:=([],[],[])) λa ha b hb=>Wg (hE a ha) (hE b hb)];have:=Wa (lt:=λ(p q:Ent)=>pairF.lt (rkE k l ns p) (rkE k l ns q)) (λt:Ent × V=>t.1) (([],[],[]),.non) (es.zip vs);rw[eI ⋯]at this;exact this.symm
 generalize srt (λ(p q:Ent × V)=>pairF.lt (rkE k l ns p.1) (rkE k l ns q.1)) (([],[],[]),.non) (es.zip vs)=ts at h1 h2 p e2;have hm:∀t ∈ ts,t.1 ∈ es:=λt ht=>(db (show (t.1,t.2) ∈ es.zip vs from p.mem_iff.mp ht)).1;refine#[ts.map (·.1),?_,?_,e2,?_]
 ·have:=p.map (·.1);rw[eI ⋯]at this;exact this
 ·rw[List.pairwise_map];refine h2.imp_of_mem λ{a b} ha hb h=>?_;rw[<- Wg (hE _ (hm _ hb)) (hE _ (hm _ ha))];exact h
 ·rw[h1,bF];exact QQ λt ht=>Ua hI t (p.mem_iff.mp ht)
def tbE(K:nV)(CO CR CW:nW):TE:=XQ (zL (zx (zbW CO CR CW) "rank" (λ_=>u7 CO CR CW) [] E0 (z9 1) (zL (tOp (wM K) (z9 0) (tC (.int 0))) xH)) (zL (zx (zbW CO CR CW) "rank" (λ_=>u7 CO CR CW) [] E0 (z9 1) (zL (tOp (wM K) (z9 0) (tC (.int 1))) xH)) xH))
theorem zbZ{CO CR CW o p s:nW}{l:()}(hG:OG l ns k)(ho:OrdAt CO CR CW H o k l ns)(hE:EB l e)(hp:SqT K H p [.str (tx e.1),.str (tx e.2.1),.ref s])(q:∀(t:nW) (H':Hp),Same H H'->Is K H' (.tup (pairF.dec (rkE k l ns e))) (.ref t)->Q (.ref t) H'):tbE K CO CR CW [!!p,!!o] H Q:=by
 have s16:=yb;obtain⟨C,dx,fs,hf,ho1,hn,_⟩:=ho.fam;have h1:fs.lookup ("rank" : og)=rK:=hn _ ∅ ∅;unfold tbE;ac_rfl;refine#[C,hf,dx,fs,ho1,h1,_,hp,_,rfl,o,k,l,ns,e.1,rfl,ho,hG,by have:=hE.a;lia,hE.ma,λp1 q1 H1 s1 hp1 hq1=>#[C,hf,dx,fs,s1 _ _ ho1,h1,_,zk s1 hp,_,rfl,o,k,l,ns,e.2.1,rfl,ho.same s1,hG,by have:=hE.b;lia,hE.mb,λp2 q2 H2 s2 hp2 hq2=>#[⋯,λt ht=>?_]]];refine q t _ (s1.trans (s2.trans (zd (o:=.tup [.ref p1,.ref p2]) ht))) ?_;show Is K _ (.tup [.tup (rankF.dec (vT k l ns e.1)),.tup (rankF.dec (vT k l ns e.2.1))]) (.ref t);refine Is.tup ht ?_
 erw[Iss]
 exact#[_,_,rfl,ka (s2 _ _ hp1) (s2 _ _ hq1),_,_,rfl,ka hp2 hq2,rfl]
theorem QS{CO CR CW o:nW}{l:()}{LA:Hp->Prop}{Qf:List V->Hp->Prop}(hG:OG l ns k)(hLA:∀H H',LA H->Same H H'->LA H'):∀(es:List Ent) (vs rP:List V) (rs:List ((Int × List Int) × (Int × List Int))) (H:Hp),LA H->OrdAt CO CR CW H o k l ns->(∀e ∈ es,EB l e)->EnsA K H es vs ->
  Iss K H (rs.map λa=>.tup (pairF.dec a)) rP->(∀acc' H',Same H H'->Iss K H' ((rs ++ es.map (rkE k l ns)).map λa=>.tup (pairF.dec a)) acc'->Qf acc' H')->vX (λx H Q=>LA H/\tbE K CO CR CW [rJ x,!!o] H Q) vs rP H Qf
 | [],vs,rP,rs,H,hL,ho,hw,hV,hI,h=>by
  erw[EnsA]at hV
  subst hV;exact h rP H (Same.refl _) (by simpa using hI)
 | e::es,vs,rP,rs,H,hL,ho,hw,hV,hI,h=>by
  have s16:=yb
  erw[EnsA]at hV
  obtain⟨v,r,rfl,⟨p,s,rfl,hp,_⟩,hV⟩:=hV;refine#[hL,zbZ hG ho (hw e az) hp λt H' s3 hIs=>?_];refine QS hG hLA es r (rP ++ [.ref t]) (rs ++ [rkE k l ns e]) _ (hLA _ _ hL s3) (ho.same s3) (λx hx=>hw x (aq _ hx)) (hV.same s3) ?_ λacc' H' s' hI'=>h acc' H' (s3.trans s') (by simpa using hI');rw[ao];exact YE (Iss.same s3 _ _ hI) hIs
noncomputable def zb0:ol->oU
 | .Lambda _ _ _ p=>p
 | _=>default
noncomputable def zd5:List ot->oU
 | _::.Return (rJ (.Call _ _ (k::_) _)) _::_=>zb0 k.value
 | _=>default
noncomputable def lp:oU:=zd5 (z8 ym)
noncomputable def lq:og:="in_order.<locals>.<lambda>"
def jD(K:nV)(CO CR CW T:nW):Sp:=λvs H Q _=>∃(o a:nW) (k:Nat) (l:()) (ns:List Int) (es:List Ent),vs=[.ref o,.ref a]/\OrdAt CO CR CW H o k l ns/\OG l ns k/\EnsL K H a es/\es.length<64/\(∀e ∈ es,EB l e)/\TabOk H T lp lq /\
 ∀(D:nW) (zs:List Ent) (H':Hp),SamT T H H'->TabOk H' T lp lq->H D=rK->Lined k l ns es zs->EnsM K H' D zs->Q (.ref D) H'
theorem Vo{CO CR CW T o a:nW}{l:()}(h1:OrdAt CO CR CW H o k l ns)(h2:OG l ns k)(h3:EnsL K H a es)(h4:es.length<64)(h5:∀e ∈ es,EB l e)(h6:TabOk H T lp lq)
  (h:∀(D:nW) (zs:List Ent) (H':Hp),SamT T H H'->TabOk H' T lp lq->H D=rK->Lined k l ns es zs->EnsM K H' D zs->Q (.ref D) H'):jD K CO CR CW T [.ref o,.ref a] H Q E:=#[o,a,k,l,ns,es,rfl,h1,h2,h3,h4,h5,h6,h]
abbrev X9(mg:og->Option nX):Prop:=mg "sorted" = rK
theorem mj:sQz 2 ["order","entries","unlike"] ym:=by nofun
theorem ZZ{f CO CR CW CC TB:nW}(B:Bt mg)(DRk:DR P w K mg base CO CR CW)(hsorted:X9 mg)(hCd:PySem.W.CodeHd base CC TB)(hBt:base.BuiltinsAt mg TB)(hgT:nR≠TB)(F:("in_order"^^^ym))(HC:fd.code=.ref CC)(lM:(4<<<"as_rule") ["order","entry"] [] (wg K CO CR CW)):(6&&&["order","entries"]) (jD K CO CR CW TB):=by
 refine KH F HC mj (λvs H Q E h=>?_) (λA outer s H vs Q E hr h=>?_)
 ·obtain⟨o,a,k,l,ns,es,rfl,_⟩:=h;rfl
 ·obtain⟨o,a,k,l,ns,es,rfl,ho,hG,hA,hz,hE,hTab,q⟩:=h
  refine#[_,(zi (JT (i:=2) mj.nd rfl (.inl rfl) (.inl rfl) (own:=["entry"]) (caps:=["order"]) (ix:=[0]) (tt:=(tBl (tOp rNe (tOp (wM K) (z9 0) (tC (.int 0))) (tOp (wM K) (z9 0) (tC (.int 1)))))) (te:=(uO (wg K CO CR CW) [] E0 (zL (z9 1) (zL (z9 0) xH)))) rfl (zQ (sc:=zg ym) rfl (by symm) (by symm) (by symm) rfl (by symm) (by symm) rfl) (yi (pv 1)) (λ_ _ _ _ _ _=>zv (i:=0) (show List.Nodup [_,_] by decide) rfl (.inl rfl)) (λ_ _ _ _ _ _=>(Vn (zG kK (zl ix_tup (pv 0) ze) (zl ix_tup (pv 0) ze) (zI _)))) (λ_ _ _ _ _ _=>(cl0 lM hr .nil rfl (za (pv 1) (za (pv 0) zf)))))
   (zh (zt (Ud (k:=2) (p:="entry") (y:="order") (iy:=0) (c:=s⁻¹+1) (tb:=tbE K CO CR CW) pairF_ok #[rfl,rfl,rfl,∅,rfl,rfl,∅,∅] (hr.mono ∅) rfl hsorted eJ (za (pv 2) zf) rfl hCd hBt hgT rfl rfl (by intro _ _ _ _;exact rfl) rfl rfl rfl (λs H f cv hr'=>z5 (za (zah DRk hr' (pv 1) (za (zl ix_tup (pv 0) ze) zf)) (za (zah DRk hr' (pv 1) (za (zl ix_tup (pv 0) ze) zf)) zf))))))),?_]
  have s16:=yb;obtain⟨xs,hX,hI⟩:=id hA;have hxl:=hI.len
  have hEr:∀e ∈ ur k l ns es,EB l e:=λe he=>by
   unfold ur at he;obtain⟨y,hy,rfl⟩:=rR.mp he;exact (hE y (rX.mp hy).1).rule
  have hrl:=ZC k l ns es;refine zj (λσ H'=>Same H H'/\∃(D0:nW) (rP:List V),H D0=rK/\H' D0=rJ (.lst rP)/\EnsA K (qE D0 H') (ur k l ns es) rP/\σ=[!!o,!!a,!!D0]) ?_ ?_
  ·ac_rfl;refine#[#[xs,hX],λD hD=>CompL.by (xs:=xs) (λi rP H'=>Same H H'/\H' D=rJ (.lst rP)/\EnsA K (qE D H') (ur k l ns (es.take i)) rP) #[zd hD,zc,by erw[bc,ur,df,aF,EnsA]] (λi rP H' _ h=>h.1.seq hX) ?_ ?_]
   ·refine nm4 ?_;rintro i x rP H' hx ⟨hs,hH,hA⟩:_;have hi:=(rQ.mp hx).1;obtain⟨e,pe,se,hei,rfl,hqe,hse⟩:=hI.get hx;have hEe:=hE e (af hei);have hal:=hA.len;have hal2:=ZC k l ns (es.take i);rw[aC]at hal2;have hq1:=zk hs hqe
    have hraw:ur k l ns (es.take (i+1))=ur k l ns (es.take i) ++ if e.1=e.2.1 then []else [zU k l ns e]:=by
     rw[zJ hei,zab];congr 1;unfold ur;by_cases hne:e.1=e.2.1
     ·rw[if_pos hne,eO (by simp [hne])];rfl
     ·rw[if_neg hne,eN (by simp [hne])];rfl
    right;ac_rfl;refine#[yP,_,hq1,_,rfl,_,hq1,_,rfl,rfl,yU (λhne=>?_) λheq=>?_]
    ·have hne':¬ e.1=e.2.1:=λz=>hne (by rw[z]);rw[if_neg hne']at hraw
     have fin:∀(v:V) (H2:Hp),Same H' H2->EnA K (qE D H2) (zU k l ns e) v->H2 D=rJ (.lst rP)/\rP.length<nU/\CNx xs.length i (λi rP H'=>Same H H'/\H' D=rJ (.lst rP)/\EnsA K (qE D H') (ur k l ns (es.take i)) rP) (rP ++ [v]) (upd H2 D (.lst (rP ++ [v]))):=λv H2 s2 hv=>by
      refine#[s2 _ _ hH,⋯,CNx.mk hi #[zD (hs.trans s2) hD,zc,?_]];rw[hraw];exact (hA.same ((wc s2).trans xf)).snoc (hv.same xf)
     refine qL (ho.same hs) hG hq1 (hse.same hs).is hEe (λer H2 s2=>fin _ _ s2 ?_) λp' s' H2 s2 hsn hp' hL=>fin _ _ s2 ?_
     ·rw[er];exact EnA.same #[pe,se,rfl,hqe,hse] (WT hD (hs.trans s2))
     ·exact EnA.new (s2 _ _ hH) hp' hL (λz=>by rw[z,hH]at hsn;cases hsn)
    ·have heq':e.1=e.2.1:=by
      have:=Classical.not_not.mp heq;injection this with this;exact ub this
     rw[if_pos heq',aQ]at hraw;exact CNx.mk hi #[hs,hH,by rw[hraw];exact hA]
   ·rintro rP H' ⟨hs,hH,hA⟩;rw[hxl,aG]at hA;exact#[hs,D,hD,rP,hH,hA,rfl]
  rintro σ H1 ⟨s1,D0,rP,hD0,hH1,hI1,rfl⟩:_;have hal:=hI1.len;have hT1:=hTab.same s1;obtain⟨ps1,hps1,_⟩:=id hT1;right;ac_rfl;unfold Jl;refine#[hT1,λf H2 hf hLA hT2 sT=>?_];obtain⟨ps2,hps2,_⟩:=id hT2;have hI2:=EnsA.samT sT hps1 (hI1.same xZ);refine#[D0,rP,.ref o,rfl,SqL.of (sT.at hps1 hH1 λ_ z=>by cases z),⋯,rfl,?_];refine QS hG (λA A' h1 h2=>LamAt.same h1 h2) (ur k l ns es) rP [] [] H2 hLA ((ho.same s1).samT sT hps1) hEr hI2 (by erw[aF,Iss]) λacc' H3 s3 hI3=>#[(ur k l ns es).map (rkE k l ns),by simpa using hI3,λys p1 D hD=>?_];obtain⟨zs,z1,z2,z4,z3⟩:=ZH (hI2.same s3) hEr p1;have sD:=zd (o:=.lst (ys.map (·.2))) hD;refine q D zs _ ((SamT.of s1).trans (sT.trans (SamT.of (s3.trans sD)))) (hT2.same (s3.trans sD)) ?_ #[z1,z2,z4] #[_,zc,z3.same sD];exact ((SamT.of s1).trans (sT.trans (SamT.of s3))).free (s3 _ _ hps2) hD
structure TMo(mg:og->Option nX):Prop where
 u:∃t,mg "MOST_USES_thinning" = rJ (.int 40 t)
 s:∃t,mg "MOST_STEPS" = rJ (.int 240 t)
 d:∃t,mg "MOST_SIDE_thinning" = rJ (.int 60 t)
 p:∃t,mg "MOST_PASSES" = rJ (.int 20 t)
structure BG(k:Nat)(l:())(ns:List Int)(bs:List Ent):Prop where
 n:bs.length<64
 e:∀e ∈ bs,EB l e
 lt:∀e ∈ bs,zO k l ns e.2.1 e.1=rL
theorem BG.ne{l:()}(h:BG k l ns bs)(G:OG l ns k):NeL (zb bs):=λp hp=>by
 unfold zb at hp;obtain⟨e,he,rfl⟩:=rR.mp hp;exact VC G.nb (h.lt e he)
theorem BG.le{l:()}(h:BG k l ns bs):∀p ∈ zb bs,p.1.length<=60/\p.2.length<=60:=λp hp=>by
 unfold zb at hp;obtain⟨e,he,rfl⟩:=rR.mp hp;exact#[(h.e e he).a,(h.e e he).b]
theorem BG.mem{l:()}(h:BG k l ns bs):∀p ∈ zb bs,∀c ∈ p.2,c ∈ l:=λp hp=>by
 unfold zb at hp;obtain⟨e,he,rfl⟩:=rR.mp hp;exact (h.e e he).mb
theorem qU{CF a:nW}{w:()}(hA:LsA K H a (ps.map dR))(hN:NeL ps)(hpl:ps.length<=100)(hP:∀p ∈ ps,p.1.length<=60/\p.2.length<=60)(hw:w.length<=60)
  (h1:∀(i:Nat) (p S:nW) (H':Hp),EndsAt ps w i->Same H H'->H' p=rJ (.tup [.ref S,.str (tx (wAt ps w i))])->LsA K H' S ((sAt ps w i).map dG)->H S=rK->Q (.ref p) H') (h2:(∀i,¬ EndsAt ps w i)->∀H',Same H H'->E (.ref CF) rK H'):xV K CF [.ref a,.str (tx w),.int 40] H Q E:=by
 have hP':∀p ∈ ps,p.1.length<=1000/\p.2.length<=1000:=λp hp=>by
  have:=hP p hp;lia
 have len:∀j,j<=40->(wAt ps w j).length<=10000:=λj hj=>by
  have:=uP (l:=w) (m:=60) hN (λp hp=>(hP p hp).2) j;lia
 rcases Vw ps w with ⟨i,hi⟩ | ⟨hL,hf⟩
 ·have hm:=hi.most;exact#[a,w,ps,40,i,rfl,hA,hN,hpl,hP',#[hi.live,λj hj=>len j ⋯,⋯],.inl #[hi.end_,⋯,λp S H' s' hp hL hS=>h1 i p S H' hi s' hp hL hS]]
 ·refine#[a,w,ps,40,40,rfl,hA,hN,hpl,hP',#[hL,λj hj=>len j hj,∅],.inr #[hf,rfl,h2 λi hi=>?_]];have hm:=hi.most;by_cases e:i=40
  ·subst e;exact hf hi.end_
  ·exact hL i ⋯ hi.end_
theorem JV(us:List (Nat × Nat)):us.map dG=(stS us).map dSt:=by
 unfold stS;rw[bF];rfl
theorem V0(us:List (Nat × Nat)):(stS us).length=us.length:=by unfold stS;rw[ac]
theorem zbH{w:()}{i:Nat}(h:qJ ps w i):∀u ∈ sAt ps w i,u.1<ps.length:=λu hu=>by
 unfold sAt at hu;obtain⟨j,hj,rfl⟩:=rR.mp hu
 cases e:zA (wAt ps w j) ps with
 | none=>exact absurd e (h j (rW.mp hj))
 | some v =>
  obtain⟨p,h1,_⟩:=zX e;exact (rQ.mp h1).1
theorem QB{w:()}{i:Nat}(h:qJ ps w i):∀u ∈ stS (sAt ps w i),0<=u.1/\u.1<ps.length:=λu hu=>by
 unfold stS at hu;obtain⟨v,hv,rfl⟩:=rR.mp hu;have:=zbH h v hv;show 0<=(v.1:Int)/\(v.1:Int)<ps.length;lia
theorem Ky{n:Int}(h:∀u ∈ ss,0<=u.1/\u.1<n):∀u ∈ yD ss,0<=u.1/\u.1<n:=λu hu=>by
 unfold yD at hu;obtain⟨v,hv,rfl⟩:=rR.mp hu;exact h v (rZ.mp hv)
theorem zaS(h:∀e ∈ es,e.2.2.length<=600)(u:Stp):(XO es u).length<=600:=by
 have hg:(es.getD u.1.toNat ([],[],[])).2.2.length<=600:=by
  rw[aa]
  cases e:es[u.1.toNat]? with
  | none=>exact ay _
  | some r=>exact h r (af e)
 unfold XO;rw[YG];split
 ·exact hg
 ·rw[yR];exact hg
theorem JA(h:∀e ∈ es,e.2.2.length<=600):∀us:List Stp,(byL es us).length<=us.length * 600
 | []=>by simp [byL]
 | u::us=>by
  have e:byL es (u::us)=XO es u ++ byL es us:=by simp [byL]
  have h1:=zaS h u;have h2:=JA h us;rw[e,aj,aJ,fF];lia
def ZP(K:nV)(CF:nW):Sp:=λvs H Q E=>∃(a p s:nW) (k:Nat) (l:()) (ns:List Int) (bs:List Ent) (e:Ent),vs=[.ref a,.ref p]/\OG l ns k/\Is K H (.lst (bs.map dE)) (.ref a)/\BG k l ns bs/\SqT K H p [.str (tx e.1),.str (tx e.2.1),.ref s]/\LsA K H s (e.2.2.map dSt)/\EB l e /\
 (∀i j H',EndsAt (zb bs) e.1 i->EndsAt (zb bs) e.2.1 j->wAt (zb bs) e.1 i=wAt (zb bs) e.2.1 j->Same H H'->Q .non H') /\
 (∀i j p' s' H',EndsAt (zb bs) e.1 i->EndsAt (zb bs) e.2.1 j->wAt (zb bs) e.1 i≠wAt (zb bs) e.2.1 j->Same H H'->H s'=rK->H' p'=rJ (.tup [.str (tx (yt bs e i j).1),.str (tx (yt bs e i j).2.1),.ref s'])->LsA K H' s' ((yt bs e i j).2.2.map dSt)->Q (.ref p') H') /\
 ((∀i,¬ EndsAt (zb bs) e.1 i)\/(∀j,¬ EndsAt (zb bs) e.2.1 j)->∀H',Same H H'->E (.ref CF) rK H')
theorem Vi{a t:nW}{us:List Stp}(h1:Is K H (.lst (es.map dE)) (.ref a))(h2:Is K H (.lst (us.map dSt)) (.ref t))(h3:us.length<=100)(h4:∀e ∈ es,e.2.2.length<=600)(h5:∀u ∈ us,0<=u.1/\u.1<es.length)(h:∀(D:nW) (H':Hp),H D=rK->Same H H'->LsA K H' D ((byL es us).map dSt)->Q (.ref D) H'):Uz K [.ref a,.ref t] H Q E:=#[a,t,es,us,rfl,h1,h2,h3,h4,h5,h]
theorem gq:sQz 2 ["entries","entry","rules","one","other","steps"] xu:=by nofun
theorem uG{f CF:nW}{iN:rh}(B:Bt mg)(TM:TMo mg)(F:("brought_down"^^^xu))(gr:(1<<<"pairs_of") ["entries"] [] (wD K))(mr:(4>>>"gone") ["rules","word","most"] [] (xV K CF))(DD_gone:(4>>>"gone") ["rules","word","most"] [.int 4000 iN] (xV K CF))(iL:(2<<<"by_pacts") ["entries","steps"] [] (Uz K))(lL:(1<<<"back") ["steps"] [] (qg K)):(5|||["entries","entry"]) (ZP K CF):=by
 obtain⟨t9,g9⟩:=TM.u
 exists Fun.okX F gq,0
 ·obtain⟨a,p,s,k,l,ns,bs,e,rfl,hG,hA,hB,hp,hs,hE,q1,q2,q3⟩:=h
  refine#[_,(zi (zy 2 gq.nd (cl0 gr hr .nil rfl (za (pv 0) zf)))
   (zi (zy 3 gq.nd (clP hx mr hr .nil rfl (za (pv 2) (za (zl ix_tup (pv 1) ze) (za (y9 (v:=.int 40) rfl g9 #[t9,rfl]) zf)))))
   (zi (zy 4 gq.nd (clP hx mr hr .nil rfl (za (pv 2) (za (zl ix_tup (pv 1) ze) (za (y9 (v:=.int 40) rfl g9 #[t9,rfl]) zf)))))
   (zi (zZ (zG qA (zl ix_tup (pv 3) ze) (zl ix_tup (pv 4) ze) (zI _))
    (zh (zt xA))
    zB)
   (zi (zy 5 gq.nd (zC Yz (zC Yz (cl0 iL hr .nil rfl (za (pv 0) (za (cl0 lL hr .nil rfl (za (zl ix_tup (pv 3) ze) zf)) zf))) (zl ix_tup (pv 1) ze)) (cl0 iL hr .nil rfl (za (pv 0) (za (zl ix_tup (pv 4) ze) zf)))))
   (zh (zt (z5 (za (zl ix_tup (pv 3) ze) (za (zl ix_tup (pv 4) ze) (za (pv 5) zf))))))))))),?_]
  have s16:=yb;have hbl:=hB.n;have hN:=hB.ne hG;have hpl:=wk bs;have hst:∀e ∈ bs,e.2.2.length<=600:=λe he=>(hB.e e he).s;have hst3:∀e ∈ bs,e.2.2.length<=600:=λe he=>by have:=hst e he;lia
  refine zj (λσ H'=>Same H H'/\∃R:nW,LsA K H' R ((zb bs).map dR)/\σ=[!!a,!!p,!!R,rK,rK,rK]) ?_ ?_
  ·ac_rfl;exact xY hA ⋯ λD H' _ s' hL=>#[s',D,hL,rfl]
  rintro σ H1 ⟨s1,R,hR,rfl⟩:_;right;refine zj (λσ H'=>Same H1 H'/\∃(i:Nat),EndsAt (zb bs) e.1 i/\∃p1:nW,(∃S1:nW,H' p1=rJ (.tup [.ref S1,.str (tx (wAt (zb bs) e.1 i))])/\LsA K H' S1 ((sAt (zb bs) e.1 i).map dG))/\σ=[!!a,!!p,!!R,!!p1,rK,rK]) ?_ ?_
  ·ac_rfl;refine#[_,zk s1 hp,_,rfl,qU hR hN ⋯ hB.le hE.a (λi p1 S1 H' hi s' hp1 hL _=>#[s',i,hi,p1,#[S1,hp1,hL],rfl]) λhno H' s'=>q3 (.inl hno) H' (s1.trans s')]
  rintro σ H2 ⟨s2,i,hi,p1,⟨S1,hp1,hS1⟩,rfl⟩:_;have s12:=s1.trans s2;right;refine zj (λσ H'=>Same H2 H'/\∃(j:Nat),EndsAt (zb bs) e.2.1 j/\∃p2:nW,(∃S2:nW,H' p2=rJ (.tup [.ref S2,.str (tx (wAt (zb bs) e.2.1 j))])/\LsA K H' S2 ((sAt (zb bs) e.2.1 j).map dG))/\σ=[!!a,!!p,!!R,!!p1,!!p2,rK]) ?_ ?_
  ·ac_rfl;refine#[_,zk s12 hp,_,rfl,qU (hR.same s2) hN ⋯ hB.le hE.b (λj p2 S2 H' hj s' hp2 hL _=>#[s',j,hj,p2,#[S2,hp2,hL],rfl]) λhno H' s'=>q3 (.inr hno) H' (s12.trans s')]
  rintro σ H3 ⟨s3,j,hj,p2,⟨S2,hp2,hS2⟩,rfl⟩:_;have s13:=s12.trans s3;have hp1':=s3 _ _ hp1;have hS1':=hS1.same s3;right;refine zj (λσ H'=>H'=H3/\wAt (zb bs) e.1 i≠wAt (zb bs) e.2.1 j/\σ=[!!a,!!p,!!R,!!p1,!!p2,rK]) ?_ ?_
  ·ac_rfl;refine#[_,SqT.of hp1',_,rfl,_,SqT.of hp2,_,rfl,rfl,yU (λh=>?_) λh=>?_]
   ·exact q1 i j H3 hi hj (ub (by injection h)) s13
   ·exact λz=>h (by rw[z])
  rintro σ H4 ⟨rfl,hne,rfl⟩:_;have him:=hi.most;have hjm:=hj.most;have hl1:(stS (sAt (zb bs) e.1 i)).length=i:=by rw[V0,ZQ]
  have hl2:(stS (sAt (zb bs) e.2.1 j)).length=j:=by rw[V0,ZQ]
  rw[JV]at hS1' hS2;have hA4:=Is.same s13 _ _ hA;have hb1:=JA hst (yD (stS (sAt (zb bs) e.1 i)));have hb2:=JA hst (stS (sAt (zb bs) e.2.1 j));rw[yR,hl1]at hb1;rw[hl2]at hb2;have hes:=hE.s;right;refine zj (λσ H'=>Same H4 H'/\∃S:nW,H4 S=rK/\LsA K H' S ((yt bs e i j).2.2.map dSt)/\σ=[!!a,!!p,!!R,!!p1,!!p2,!!S]) ?_ ?_
  ·ac_rfl;refine#[_,SqT.of hp1',_,rfl,jO hS1'.is ⋯ λB1 G1 _ t1 hB1=>Vi (Is.same t1 _ _ hA4) hB1.is (by rw[yR];lia) hst3 (by rw[<- hpl];exact Ky (QB hi.live)) λC1 G2 hC1n t2 hC1=>?_];have t12:=t1.trans t2;obtain⟨c1,hc1,ic1⟩:=id hC1;obtain⟨es0,hs0,is0⟩:=hs.same (s13.trans t12);have lc1:=ic1.len;have ls0:=is0.len;rw[ac]at lc1 ls0;refine#[_,zk (s13.trans t12) hp,_,rfl,C1,rfl,s,rfl,c1,hc1,es0,hs0,⋯,λM hM=>?_];have t3:=zd (o:=.lst (c1 ++ es0)) hM;have t13:=t12.trans t3;refine#[_,SqT.of (t13 _ _ hp2),_,rfl,Vi (Is.same t13 _ _ hA4) (hS2.same t13).is ⋯ hst3 (by rw[<- hpl];exact QB hj.live) λC2 G3 hC2n t4 hC2=>?_];obtain⟨c2,hc2,ic2⟩:=id hC2;have lc2:=ic2.len;rw[ac]at lc2;refine#[C2,rfl,c1 ++ es0,t4 _ _ zc,c2,hc2,by rw[aj];lia,λS hS=>?_];have t5:=zd (o:=.lst (c1 ++ es0 ++ c2)) hS;refine#[t13.trans (t4.trans t5),S,(t13.trans t4).free hS,#[_,zc,?_],rfl];show Iss K _ ((byL bs (yD (stS (sAt (zb bs) e.1 i))) ++ e.2.2 ++ byL bs (stS (sAt (zb bs) e.2.1 j))).map dSt) _;rw[ao,ao];exact Iss.append (Iss.append (Iss.same (t3.trans (t4.trans t5)) _ _ ic1) (Iss.same (t3.trans (t4.trans t5)) _ _ is0)) (Iss.same t5 _ _ ic2)
  rintro σ H5 ⟨s5,S,hSn,hS,rfl⟩:_;right;ac_rfl;refine#[_,SqT.of (s5 _ _ hp1'),_,rfl,_,SqT.of (s5 _ _ hp2),_,rfl,⋯,λt ht=>?_];have st:=zd (o:=.tup [.str (tx (wAt (zb bs) e.1 i)),.str (tx (wAt (zb bs) e.2.1 j)),.ref S]) ht;exact q2 i j t S _ hi hj hne (s13.trans (s5.trans st)) (s13.free hSn) zc (hS.same st)
def ql(K:nV)(CF:nW):Sp:=λvs H Q E=>∃(p s:nW) (e:Ent),vs=[.ref p]/\SqT K H p [.str (tx e.1),.str (tx e.2.1),.ref s]/\Is K H (.lst (e.2.2.map dSt)) (.ref s)/\e.1.length<=10000/\e.2.1.length<=10000/\(¬ ut e->Q .non H)/\(ut e->E (.ref CF) rK H)
theorem Xb{CF p s:nW}(h1:SqT K H p [.str (tx e.1),.str (tx e.2.1),.ref s])(h2:Is K H (.lst (e.2.2.map dSt)) (.ref s))(h3:e.1.length<=10000)(h4:e.2.1.length<=10000)(h5:¬ ut e->Q .non H)(h6:ut e->E (.ref CF) rK H):ql K CF [.ref p] H Q E:=#[p,s,e,rfl,h1,h2,h3,h4,h5,h6]
theorem uf:sQz 1 ["entry"] y4:=by nofun
theorem ui{f CF:nW}(B:Bt mg)(T:zap K mg CF)(TM:TMo mg)(F:("refuse_beyond"^^^y4)) :(1|||["entry"]) (ql K CF):=by
 obtain⟨⟨t9,g9⟩,⟨t8,g8⟩⟩:=And.intro TM.s TM.d
 exists Fun.okX F uf,0
 ·obtain⟨p,s,e,rfl,hp,hs,ha,hb,q1,q2⟩:=h
  refine#[_,(zi (zZ (zG Y7 (zF B.len (zl ix_tup (pv 0) ze)) (y9 (v:=.int 240) rfl g9 #[t9,rfl]) (zI _))
    (zh (y8 hx rfl T.xi.toXC T.ini rfl T.g (za xb zf)))
    zB)
   (zh (zZ (zG Y7 (yw (Yg rfl) rfl B.max w6 (za (zF B.len (zl ix_tup (pv 0) ze)) (za (zF B.len (zl ix_tup (pv 0) ze)) zf))) (y9 (v:=.int 60) rfl g8 #[t8,rfl]) (zI _))
    (zh (y8 hx rfl T.xi.toXC T.ini rfl T.g (za xb zf)))
    zB))),?_]
  have s16:=yb
  erw[Is]at hs
  obtain⟨_,zs,e0,hZ,hI⟩:=hs;cases e0;have hzl:=hI.len;rw[ac]at hzl;refine zj (λσ H'=>H'=H/\e.2.2.length<=240/\σ=[!!p]) ?_ ?_
  ·ac_rfl;refine#[_,hp,_,rfl,_,.inl #[_,hZ,rfl],yU (λh=>#[⋯,q2 (.inl ⋯)]) λh=>by lia]
  rintro σ H1 ⟨rfl,h1,rfl⟩:_;right;ac_rfl;refine#[_,hp,_,rfl,_,#[by rw[zE];lia,rfl],_,hp,_,rfl,_,#[by rw[zE];lia,rfl],?_];rw[zE,zE];refine yU (λh=>#[⋯,q2 ?_]) λh=>q1 ?_
  ·unfold ut;split at h <;> lia
  ·unfold ut;split at h <;> lia
theorem UK{l:()}{i j:Nat}(hB:BG k l ns bs)(hE:EB l e)(hF:¬ ut (yt bs e i j)):EB l (yt bs e i j):=by
 unfold ut at hF;exact#[⋯,⋯,⋯,vB hE.ma hB.mem i,vB hE.mb hB.mem j]
theorem BG.snoc{l:()}{d:Ent}(h:BG k l ns bs)(hn:bs.length+1<64)(hd:EB l d)(hne:d.1≠d.2.1):BG k l ns (bs ++ [zU k l ns d]):=by
 refine#[by rw[aj];exact hn,λe he=>?_,λe he=>?_]
 ·rcases rT.mp he with he | he
  ·exact h.e e he
  ·rw[rV.mp he];exact hd.rule
 ·rcases rT.mp he with he | he
  ·exact h.lt e he
  ·rw[rV.mp he];exact uL hd hne
theorem Qq{CF a p s:nW}{l:()}(h1:OG l ns k)(h2:Is K H (.lst (bs.map dE)) (.ref a))(h3:BG k l ns bs)(h4:SqT K H p [.str (tx e.1),.str (tx e.2.1),.ref s])(h5:LsA K H s (e.2.2.map dSt))(h6:EB l e)
  (q1:∀i j H',EndsAt (zb bs) e.1 i->EndsAt (zb bs) e.2.1 j->wAt (zb bs) e.1 i=wAt (zb bs) e.2.1 j->Same H H'->Q .non H')
  (q2:∀i j p' s' H',EndsAt (zb bs) e.1 i->EndsAt (zb bs) e.2.1 j->wAt (zb bs) e.1 i≠wAt (zb bs) e.2.1 j->Same H H'->H s'=rK->H' p'=rJ (.tup [.str (tx (yt bs e i j).1),.str (tx (yt bs e i j).2.1),.ref s'])->LsA K H' s' ((yt bs e i j).2.2.map dSt)->Q (.ref p') H')
  (q3:(∀i,¬ EndsAt (zb bs) e.1 i)\/(∀j,¬ EndsAt (zb bs) e.2.1 j)->∀H',Same H H'->E (.ref CF) rK H'):ZP K CF [.ref a,.ref p] H Q E:=#[a,p,s,k,l,ns,bs,e,rfl,h1,h2,h3,h4,h5,h6,q1,q2,q3]
theorem Ql{l:()}{i j:Nat}(hB:BG k l ns bs)(hG:OG l ns k)(hE:EB l e)(hi:i<=40)(hj:j<=40):(yt bs e i j).1.length<=10000/\(yt bs e i j).2.1.length<=10000:=by
 have h1:=uP (l:=e.1) (m:=60) (hB.ne hG) (λp hp=>(hB.le p hp).2) i;have h2:=uP (l:=e.2.1) (m:=60) (hB.ne hG) (λp hp=>(hB.le p hp).2) j;have h3:=hE.a;have h4:=hE.b;show (wAt (zb bs) e.1 i).length<=10000/\(wAt (zb bs) e.2.1 j).length<=10000;lia
def jh(K:nV)(CO CR CW CF:nW):Sp:=λvs H Q E=>∃(o a:nW) (k:Nat) (l:()) (ns:List Int) (zs:List Ent),vs=[.ref o,.ref a]/\OrdAt CO CR CW H o k l ns/\OG l ns k/\EnsL K H a zs/\zs.length<64/\(∀e ∈ zs,EB l e) /\
 (∀(bs:List Ent) (D:nW) (H':Hp),yN k l ns [] zs (rJ bs)->BG k l ns bs->Same H H'->H D=rK->EnsM K H' D bs->Q (.ref D) H')/\(yN k l ns [] zs rK->∀H',Same H H'->E (.ref CF) rK H')
theorem X4{CO CR CW CF o a:nW}{l:()}{zs:List Ent}(h1:OrdAt CO CR CW H o k l ns)(h2:OG l ns k)(h3:EnsL K H a zs)(h4:zs.length<64)(h5:∀e ∈ zs,EB l e)
  (q1:∀(bs:List Ent) (D:nW) (H':Hp),yN k l ns [] zs (rJ bs)->BG k l ns bs->Same H H'->H D=rK->EnsM K H' D bs->Q (.ref D) H') (q2:yN k l ns [] zs rK->∀H',Same H H'->E (.ref CF) rK H'):jh K CO CR CW CF [.ref o,.ref a] H Q E:=#[o,a,k,l,ns,zs,rfl,h1,h2,h3,h4,h5,q1,q2]
def zdk(K:nV)(H1 H':Hp)(bs:List Ent)(e:Ent)(v:V):Prop:=∃i j,EndsAt (zb bs) e.1 i/\EndsAt (zb bs) e.2.1 j/\((wAt (zb bs) e.1 i=wAt (zb bs) e.2.1 j/\v=.non) \/
 (wAt (zb bs) e.1 i≠wAt (zb bs) e.2.1 j/\∃p s:nW,v=.ref p/\H1 s=rK/\H' p=rJ (.tup [.str (tx (yt bs e i j).1),.str (tx (yt bs e i j).2.1),.ref s])/\LsA K H' s ((yt bs e i j).2.2.map dSt)))
def zcF(K:nV)(H:Hp)(D:nW)(k:Nat)(l:())(ns:List Int)(zs:List Ent)(i:Nat)(H':Hp):Prop:=∃(bs:List Ent) (rP:List V),Same H H'/\H' D=rJ (.lst rP)/\EnsA K (qE D H') bs rP/\BG k l ns bs/\bs.length<=i/\∀r,yN k l ns bs (zs.drop i) r->yN k l ns [] zs r
theorem gQ:sQz 2 ["order","entries","built","entry","lower"] wj:=by nofun
theorem jM{f CO CR CW CF:nW}(B:Bt mg)(F:("built_anew"^^^wj))(mC:(5>>>"brought_down") ["entries","entry"] [] (ZP K CF))(mv:(1>>>"refuse_beyond") ["entry"] [] (ql K CF))(lM:(4<<<"as_rule") ["order","entry"] [] (wg K CO CR CW)):(6|||["order","entries"]) (jh K CO CR CW CF):=by
 exists Fun.okX F gQ,0
 ·obtain⟨o,a,k,l,ns,zs,rfl,ho,hG,hA,hz,hE,q1,q2⟩:=h
  refine#[_,(zi (zy 2 gQ.nd (vR zf))
   (zi (yg PassesOwn.leaving rfl (yi (pv 1)) (zv (i:=3) gQ.nd rfl (.inl rfl))
    (zi (zy 4 gQ.nd (clP hx mC hr .nil rfl (za (pv 2) (za (pv 3) zf))))
    (zh (zZ (zG op_notN' (pv 4) xA (zI _))
     (zi (wQ (clP hx mv hr .nil rfl (za (pv 4) zf)))
     (zh (wQ (uX bZ cB cC wn (pv 2) (za (cl0 lM hr .nil rfl (za (pv 0) (za (pv 4) zf))) zf)))))
     zB))))
   (zh (zt (pv 2))))),?_]
  have s16:=yb;obtain⟨xs,hX,hI⟩:=id hA;have hxl:=hI.len;refine zj (λσ H'=>Same H H'/\∃D:nW,H D=rK/\H' D=rJ (.lst [])/\σ=[!!o,!!a,!!D,rK,rK]) ?_ ?_
  ·ac_rfl;exact#[⋯,λp hp=>#[zd hp,p,hp,zc,rfl]]
  rintro σ H0 ⟨s0,D,hD,hD0,rfl⟩:_;right;refine zj (λσ H'=>zcF K H D k l ns zs zs.length H'/\∃(v3 v4:Option V),σ=[!!o,!!a,!!D,v3,v4]) ?_ ?_
  ·ac_rfl;refine#[#[_,s0.seq hX],ForL.by (xs:=xs) (λi σ H'=>zcF K H D k l ns zs i H'/\∃(v3 v4:Option V),σ=[!!o,!!a,!!D,v3,v4]) #[#[[],[],s0,hD0,by erw[EnsA],#[∅,λe he=>(nomatch he),λe he=>(nomatch he)],al _,λr h=>h],rK,rK,rfl] (λi σ H' _ ⟨⟨_,_,h,_⟩,_⟩=>h.seq hX) ?_ ?_]
   ·refine nm4 ?_;rintro i x σ H1 hx ⟨⟨bs,rP,s1,hH1,hI1,hB,hbi,hr⟩,v3,v4,rfl⟩:_;have hix:=(rQ.mp hx).1;obtain⟨e,pe,se,hei,rfl,hqe,hse⟩:=hI.get hx;have hEe:=hE e (af hei)
    have hdrop:zs.drop i=e::zs.drop (i+1):=by
     obtain⟨h1,h2⟩:=rQ.mp hei;rw[aT h1,h2]
    rw[hdrop]at hr;have hal:=hI1.len;have hbn:=hB.n
    have hIs:Is K H1 (.lst (bs.map dE)) (.ref D):=by
     erw[Is]
     exact#[D,rP,rfl,SqL.of hH1,(hI1.same xZ).iss]
    right
    erw[yK,ba,aZ]
    refine zj (λσ H'=>Same H1 H'/\∃v:V,zdk K H1 H' bs e v/\σ=[!!o,!!a,!!D,!!pe,rJ (v)]) ?_ ?_
    ·ac_rfl;exact Qq hG hIs hB (zk s1 hqe) (hse.same s1) hEe (λi' j' H' a1 a2 a3 s'=>#[s',i',j',a1,a2,.inl #[a3,rfl]]) (λi' j' p' s' H' a1 a2 a3 t' a4 a5 a6=>#[t',i',j',a1,a2,.inr #[a3,p',s',rfl,a4,a5,a6]]) λh H' s'=>q2 (hr _ (.stuck h)) H' (s1.trans s')
    rintro σ H2 ⟨s2,v,⟨i',j',hi',hj',hc⟩,rfl⟩:_;right;rcases hc with ⟨hw,rfl⟩ | ⟨hw,p',s',rfl,hsn,hp',hL'⟩
    ·ac_rfl;exact#[bs,rP,s1.trans s2,s2 _ _ hH1,hI1.same (wc s2),hB,⋯,λr h=>hr r (.same hi' hj' hw h)]
    ·ac_rfl
     try rw[if_pos not_false]
     have hdl:=Ql hB hG hEe hi'.most hj'.most;refine zj (λσ H'=>H'=H2/\¬ ut (yt bs e i' j')/\σ=[!!o,!!a,!!D,!!pe,!!p']) ?_ ?_
     ·ac_rfl;exact Xb (SqT.of hp') hL'.is hdl.1 hdl.2 (λh=>#[rfl,h]) λh=>q2 (hr _ (.far hi' hj' hw h)) H2 (s1.trans s2)
     rintro σ H3 ⟨rfl,hF,rfl⟩:_;have hEd:=UK hB hEe hF;have hH3:=s2 _ _ hH1
     have fin:∀(v:V) (H4:Hp),Same H3 H4->EnA K (qE D H4) (zU k l ns (yt bs e i' j')) v->zcF K H D k l ns zs (i+1) (upd H4 D (.lst (rP ++ [v]))):=λv H4 s4 hv=>by
      refine#[bs ++ [zU k l ns (yt bs e i' j')],rP ++ [v],zD (s1.trans (s2.trans s4)) hD,zc,?_,hB.snoc ⋯ hEd hw,by rw[aj];show bs.length+1<=i+1;lia,λr h=>hr r (.new hi' hj' hw hF h)];exact (hI1.same ((wc (s2.trans s4)).trans xf)).snoc (hv.same xf)
     right;ac_rfl;refine#[.inl #[_,SqL.of hH3],qL (ho.same (s1.trans s2)) hG (SqT.of hp') hL'.is hEd (λer H4 s4=>#[rP,s4 _ _ hH3,⋯,fin _ _ s4 ?_]) λp2 t2 H4 s4 htn hp2 hL2=>#[rP,s4 _ _ hH3,⋯,fin _ _ s4 ?_]]
     ·rw[er];exact EnA.new (s4 _ _ hH3) (s4 _ _ hp') (hL'.same s4) (λz=>by rw[z,hH1]at hsn;cases hsn)
     ·exact EnA.new (s4 _ _ hH3) hp2 hL2 (λz=>by rw[z,hH3]at htn;cases htn)
   ·rintro σ H' ⟨h,v3,v4,rfl⟩;rw[hxl]at h;exact#[h,_,_,rfl]
  rintro σ H2 ⟨⟨bs,rP,s2,hH2,hI2,hB,hbi,hr⟩,v3,v4,rfl⟩:_;rw[dz]at hr;right;ac_rfl;exact q1 bs D H2 (hr _ (.nil bs)) hB s2 hD #[rP,hH2,hI2.same xZ]
theorem UI(rs ss:List zp):vq (rs.map dR) (ss.map dR)=decide (rs=ss):=by
 induction rs generalizing ss with
 | nil=>cases ss with
  | nil=>simp [vq]
  | cons s ss=>simp [vq]
 | cons r rs ih=>cases ss with
  | nil=>simp [vq]
  | cons s ss =>
   rw[am,am,vq,ih]
   have h:eqD (dR r) (dR s)=decide (r=s):=by
    obtain⟨a,b⟩:=r;obtain⟨c,d⟩:=s
    have e1:∀x y:(),eqD (dS x) (dS y)=decide (x=y):=λx y=>by
     have:eqD (dS x) (dS y)=decide (tx x=tx y):=by erw[dS,eqD];rfl
     rw[this];exact decide_eq_decide.mpr #[ub,λh=>by rw[h]]
    erw[dR,eqD,vq,e1]
    by_cases h1:a=c <;> by_cases h2:b=d <;> simp [h1,h2]
   rw[h];by_cases h1:r=s <;> by_cases h2:rs=ss <;> simp [h1,h2]
theorem Lined.eb{l:()}{es zs:List Ent}(h:Lined k l ns es zs)(hE:∀e ∈ es,EB l e):∀e ∈ zs,EB l e:=λe he=>by
 have hm:=h.perm.mem_iff.mp he;unfold ur at hm;obtain⟨y,hy,rfl⟩:=rR.mp hm;exact (hE y (rX.mp hy).1).rule
theorem Lined.len{l:()}{es zs:List Ent}(h:Lined k l ns es zs):zs.length<=es.length:=by
 rw[h.perm.length_eq];exact ZC k l ns es
def Wz(K:nV)(CO CR CW T CF:nW):Sp:=λvs H Q E=>∃(o a:nW) (k:Nat) (l:()) (ns:List Int) (es:List Ent),vs=[.ref o,.ref a]/\OrdAt CO CR CW H o k l ns/\OG l ns k/\EnsL K H a es/\es.length<64/\(∀e ∈ es,EB l e)/\TabOk H T lp lq /\
 (∀(bs:List Ent) (D:nW) (H':Hp),vz k l ns 20 es (rJ bs)->BG k l ns bs->SamT T H H'->TabOk H' T lp lq->EnsM K H' D bs->Q (.ref D) H')/\(vz k l ns 20 es rK->∀H',SamT T H H'->TabOk H' T lp lq->E (.ref CF) rK H')
def zdv(K:nV)(T:nW)(H:Hp)(k:Nat)(l:())(ns:List Int)(es:List Ent)(n:Nat)(H':Hp)(b:nW):Prop:=∃fs:List Ent,SamT T H H'/\TabOk H' T lp lq/\(∀r,vz k l ns n fs r->vz k l ns 20 es r)/\EnsL K H' b fs/\fs.length<64/\∀e ∈ fs,EB l e
theorem iM:sQz 2 ["order","entries","turn","lined_up"] qe:=by nofun
theorem Xq{f CO CR CW TB CF:nW}(B:Bt mg)(T:zap K mg CF)(TM:TMo mg)(F:("thinned"^^^qe))(nh:(6<<<"in_order") ["order","entries"] [] (jD K CO CR CW TB))(mP:(6>>>"built_anew") ["order","entries"] [] (jh K CO CR CW CF))(gr:(1<<<"pairs_of") ["entries"] [] (wD K)):(7|||["order","entries"]) (Wz K CO CR CW TB CF):=by
 obtain⟨t9,g9⟩:=TM.p
 exists Fun.okX F iM,0
 ·obtain⟨o,a,k,l,ns,es,rfl,ho,hG,hA,hz,hE,hTab,q1,q2⟩:=h
  refine#[_,(zi (yg PassesOwn.leaving rfl (yz rfl B.range (za (y9 (v:=.int 20) rfl g9 #[t9,rfl]) zf)) (zv (i:=2) iM.nd rfl (.inl rfl))
    (zi (zy 3 iM.nd (cl0 nh hr .nil rfl (za (pv 0) (za (pv 1) zf))))
    (zi (zy 1 iM.nd (clP hx mP hr .nil rfl (za (pv 0) (za (pv 3) zf))))
    (zh (zZ (zG (zaV (jW hr)) (cl0 gr hr .nil rfl (za (pv 1) zf)) (cl0 gr hr .nil rfl (za (pv 3) zf)) (zI _))
     (zh (zt (pv 1)))
     zB)))))
   (zh (y8 hx rfl T.xi.toXC T.ini rfl T.g (za xb zf)))),?_]
  have s16:=yb;obtain⟨ps0,hps0,_⟩:=id hTab;refine zj (λσ H'=>∃b:nW,zdv K TB H k l ns es 0 H' b) ?_ ?_
  ·ac_rfl;refine#[⋯,⋯,ForR.by (λi σ H'=>∃(b:nW) (v2 v3:Option V),zdv K TB H k l ns es (20 - i) H' b/\σ=[!!o,!!b,v2,v3]) #[a,rK,rK,#[es,SamT.of (Same.refl _),hTab,λr h=>h,hA,hz,hE],rfl] ?_ ?_]
   ·refine nm3 ?_;rintro i σ H1 hi ⟨b,v2,v3,⟨fs,s1,hT1,hr,hF,hfl,hFE⟩,rfl⟩:_;have ho1:=ho.samT s1 hps0;have hi20:i<20:=hi;obtain⟨n,hn⟩:∃n,20 - i=n+1:=#[20 - i - 1,⋯];rw[hn]at hr;right
    erw[yK,ba,aZ]
    refine zj (λσ H'=>SamT TB H1 H'/\TabOk H' TB lp lq/\∃(z:nW),(∃zs:List Ent,Lined k l ns fs zs/\EnsM K H' z zs)/\∃v2,σ=[!!o,!!b,v2,!!z]) ?_ ?_
    ·ac_rfl;exact Vo ho1 hG hF hfl hFE hT1 λD zs H' s' hT' _ hLn hM=>#[s',hT',D,#[zs,hLn,hM],rfl]
    rintro σ H2 ⟨s2,hT2,z,⟨zs,hLn,hZ⟩,v2,rfl⟩:_;have s12:=s1.trans s2;have ho2:=ho.samT s12 hps0;have hzE:=hLn.eb hFE;have hzl:=hLn.len;right;refine zj (λσ H'=>Same H2 H'/\∃(c:nW),(∃bs:List Ent,yN k l ns [] zs (rJ bs)/\BG k l ns bs/\EnsM K H' c bs)/\σ=[!!o,!!c,v2,!!z]) ?_ ?_
    ·ac_rfl;exact X4 ho2 hG hZ.l ⋯ hzE (λbs D H' hb hB s' _ hM=>#[s',D,#[bs,hb,hB,hM],rfl]) λhb H' s'=>q2 (hr _ (.bad hLn hb)) H' (s12.trans (SamT.of s')) (hT2.same s')
    rintro σ H3 ⟨s3,c,⟨bs,hb,hB,hM⟩,rfl⟩:_;have hbn:=hB.n;right;ac_rfl;refine xY hM.l.is ⋯ λP1 H4 _ s4 hP1=>xY ((hZ.same s3).same s4).l.is ⋯ λP2 H5 _ s5 hP2=>zaf (.inl #[(hP1.same s5).is,hP2.is]) (cp (Je _) ∅) ?_;rw[UI];have s45:=s4.trans s5;have s15:=s12.trans (SamT.of (s3.trans s45));have hT5:=hT2.same (s3.trans s45);refine#[_,rfl,yU (λh=>?_) λh=>?_]
    ·exact q1 bs c H5 (hr _ (.done hLn hb (of_decide_eq_true h))) hB s15 hT5 (hM.same s45)
    ·have e:20 - (i+1)=n:=⋯;rw[e];exact#[bs,s15,hT5,λr h'=>hr r (.more hLn hb (λz=>h (decide_eq_true z)) h'),(hM.same s45).l,hbn,hB.e]
   ·rintro σ H' ⟨b,v2,v3,h,rfl⟩;exact#[b,h]
  rintro σ H2 ⟨b,fs,s2,hT2,hr,_⟩:_;right;ac_rfl;exact#[⋯,q2 (hr _ (.out fs)) H2 s2 hT2]
def ji(K:nV):Sp:=λvs H Q _=>∃(a:nW) (ns:List Int) (k:Int),vs=[.ref a,.int k]/\SqL K H a (ns.map V.int)/\(∀z ∈ ns,uu z)/\0<=k/\∀c:Int,uu c->Q (.int c) H
theorem wZ{a:nW}{k:Int}(hS:SqL K H a (ns.map V.int))(hB:∀z ∈ ns,uu z)(hk:0<=k)(h:∀c:Int,uu c->Q (.int c) H):ji K [.ref a,.int k] H Q E:=#[a,ns,k,rfl,hS,hB,hk,h]
theorem K8:sQz 2 ["_law_script","_law_k"] Vh:=by nofun
theorem Kb(B:Bt mg)(F:("_law_cell"^^^Vh)) :(1&&&["_law_script","_law_k"]) (ji K):=by
 exists F.ok K8
 ·obtain⟨a,ns,k,rfl,hS,hB,hk,q⟩:=h
  refine#[_,(zK (zZ (zG UU (pv 1) (zF B.len (pv 0)) (zI _))
    (zh (zt (zl zb6 (pv 0) (pv 1))))
    zB)
   (zh (zt ze))),?_]
  have s16:=yb
  rfl'
  refine#[_,.inl #[_,hS,rfl],yU (λc=>?_) (λc=>q 0 (by unfold uu;decide))];obtain⟨v,h1,h2⟩:=qc hk c;rw[ax]at h2;obtain⟨z,hz,rfl⟩:=rY.mp h2;exact .inl #[_,hS,_,h1,q z (hB z (af hz))]
def wz:Sp:=λvs H Q _=>∃(c t:Int),vs=[.int c,.int t]/\uu c/\0<=t/\t<=100/\∀z:Int,0<=z->Q (.int z) H
theorem xD{c t:Int}(hc:uu c)(h0:0<=t)(h1:t<=100)(q:∀z:Int,0<=z->Q (.int z) H):wz [.int c,.int t] H Q E:=#[c,t,rfl,hc,h0,h1,q]
theorem mQ:sQz 2 ["_law_cell_here","_law_turn","_law_number"] Zy:=by nofun
theorem Uo(B:Bt mg)(F:("_law_mixed"^^^Zy)) :(1&&&["_law_cell_here","_law_turn"]) wz:=by
 exists F.ok mQ
 ·obtain⟨c,t,rfl,hc,h0,h1,q⟩:=h
  refine#[_,(zK (zy 2 mQ.nd (zC z6 (zC kM (zC UD (pv 0) (pv 0)) ze) (zC kM (zC kM (pv 0) ze) (zC z6 (pv 1) ze))))
   (zh (zt (zC wS (zC xF (zC z6 (pv 2) (zC kM (pv 1) ze)) ze) ze)))),?_]
  have s16:=yb
  rfl'
  exact#[hc,hc,.inr #[∅,∅],.inr #[∅,∅],.inr #[⋯,⋯],.inr #[∅,∅],∅,#[∅,∅],q _ (Int.ediv_nonneg (bD _ ∅) ∅)]
def vF:Sp:=λvs H Q _=>∃c m:Int,vs=[.int c,.int m]/\uu c/\0<=m/\m<=26/\∀l:(),(l.length:Int)=m->l.Nodup->ZB l->Q (.str (tx l)) H
theorem Zu{c m:Int}(h:uu c)(h0:0<=m)(h1:m<=26)(q:∀l:(),(l.length:Int)=m->l.Nodup->ZB l->Q (.str (tx l)) H):vF [.int c,.int m] H Q E:=#[c,m,rfl,h,h0,h1,q]
def zdB(c m:Int)(i:Nat)(σ:L2.St):Prop:=∃(left found:()) (number:Int) (v5 v6:Option V),found.length=i/\(found ++ left).Perm alpha/\σ=[~~~!c,~~~!m,~~~left,~~~!number,~~~found,v5,v6]
theorem gm:sQz 2 ["_law_cell_here","_law_many","_law_left","_law_number","_law_letters_here","_law_k","_law_at"] uM:=by nofun
theorem XJ(B:Bt mg)(F:("_law_letters"^^^uM))(ie:(1<<<"_law_mixed") ["_law_cell_here","_law_turn"] [] wz):(2&&&["_law_cell_here","_law_many"]) vF:=by
 exists F.ok gm
 ·obtain⟨c,m,rfl,hc,h0,h1,q⟩:=h
  refine#[_,(zi (zy 2 gm.nd xb)
   (zi (zy 3 gm.nd (cl0 ie hr .nil rfl (za (pv 0) (za ze zf))))
   (zi (zy 4 gm.nd xb)
   (zi (yg PassesOwn.never rfl (yz rfl B.range (za (pv 1) zf)) (zv (i:=5) gm.nd rfl (.inl rfl))
    (zi (zy 6 gm.nd (zC xF (pv 3) (zF B.len (pv 2))))
    (zi (zy 3 gm.nd (zC wS (pv 3) (zF B.len (pv 2))))
    (zi (zy 4 gm.nd (zC zN (pv 4) (zl kF (pv 2) (pv 6))))
    (zh (zy 2 gm.nd (zC zN (zP yx (pv 2) ya (zR (pv 6))) (zP yx (pv 2) (zR (zC z6 (pv 6) ze)) ya))))))))
   (zh (zt (pv 4))))))),?_]
  have s16:=yb;have ha:alpha.length=26:=rfl;refine zj (λσ H'=>H'=H/\σ=[~~~!c,~~~!m,~~~alpha,rK,rK,rK,rK]) ?_ ?_
  ·rfl'
   exact V7
  rintro σ H1 ⟨rfl,rfl⟩:_;right;refine zj (λσ H'=>H'=H1/\∃z:Int,σ=[~~~!c,~~~!m,~~~alpha,~~~!z,rK,rK,rK]) ?_ ?_
  ·rfl'
   exact xD hc ∅ ∅ λz _=>#[rfl,z,rfl]
  rintro σ H2 ⟨rfl,z,rfl⟩:_;right;refine zj (λσ H'=>H'=H2/\σ=[~~~!c,~~~!m,~~~alpha,~~~!z,rJ (.str (tx [])),rK,rK]) ?_ ?_
  ·rfl'
   rfl
  rintro σ H3 ⟨rfl,rfl⟩:_;right;refine zj (λσ H'=>H'=H3/\zdB c m m.toNat σ) ?_ ?_
  ·rfl'
   refine#[⋯,⋯,ForR.by (λi σ H'=>H'=H3/\zdB c m i σ) #[rfl,alpha,[],z,rK,rK,rfl,.refl _,rfl] ?_ λσ H' h=>h];refine nm3 ?_;rintro i σ H' hi ⟨rfl,left,found,number,v5,v6,hf,hp,rfl⟩:_;have hpl:=hp.length_eq;rw[aj]at hpl;have hl:left.length+i=26:=⋯;have hm0:=bD number (b:=(left.length:Int)) ⋯;have hm1:=bu number (b:=(left.length:Int)) ⋯;right;generalize hz:number % (left.length:Int)=at_ at hm0 hm1;obtain⟨v,e1,e2⟩:=qc hm0 hm1
   erw[yK,ba,aZ]
   refine zj (λσ H''=>H''=H'/\∃v5,σ=[~~~!c,~~~!m,~~~left,~~~!number,~~~found,v5,~~~!at_]) ?_ ?_
   ·rfl'
    exact#[⋯,⋯,hz]
   rintro σ G1 ⟨rfl,v5',rfl⟩:_;right;refine zj (λσ H''=>H''=G1/\∃n v5,σ=[~~~!c,~~~!m,~~~left,~~~!n,~~~found,v5,~~~!at_]) ?_ ?_
   ·rfl'
    exact#[⋯,#[⋯,⋯]]
   rintro σ G2 ⟨rfl,n,v5',rfl⟩:_;right;refine zj (λσ H''=>H''=G2/\∃v5,σ=[~~~!c,~~~!m,~~~left,~~~!n,rJ (.str (tx (found ++ [v]))),v5,~~~!at_]) ?_ ?_
   ·rfl'
    exact#[⋯,v,e1,⋯,rfl]
   rintro σ G3 ⟨rfl,v5',rfl⟩:_;have hc1:=xR left rK (rJ at_);have hc2:=xR left (rJ (at_+1)) rK;right
   rfl'
   refine#[⋯,⋯,⋯,_,_,_,_,_,by rw[aj,hf];rfl,?_,rfl];rw[vo _ hm0,yS _ ⋯,aP];have e3:(at_+1).toNat=at_.toNat+1:=⋯;rw[e3];exact ((V6 e2).append_left found).trans hp
  rintro σ H4 ⟨rfl,left,found,number,v5,v6,hf,hp,rfl⟩:_;right
  rfl'
  have hnd:(found ++ left).Nodup:=hp.nodup_iff.mpr ∅;refine q found ⋯ (sF.mp hnd).1 λc hc=>?_;have h:c ∈ alpha:=hp.mem_iff.mp (bh _ hc);exact (by decide:∀c ∈ alpha,97<=c/\c<=122) c h
def Zq:Sp:=λvs H Q _=>∃(ls:()) (c m:Int),vs=[.int c,.str (tx ls),.int m]/\0<=c/\1<=ls.length/\ls.length<=26/\0<=m/\m<=100/\∀l:(),(l.length:Int)<=m->(∀x ∈ l,x ∈ ls)->Q (.str (tx l)) H
theorem Qc{ls:()}{c m:Int}(h0:0<=c)(h1:1<=ls.length)(h2:ls.length<=26)(h3:0<=m)(h4:m<=100)(h:∀l:(),(l.length:Int)<=m->(∀x ∈ l,x ∈ ls)->Q (.str (tx l)) H):Zq [.int c,.str (tx ls),.int m] H Q E :=
 #[ls,c,m,rfl,h0,h1,h2,h3,h4,h]
theorem im:sQz 3 ["_law_number","_law_letters_here","_law_most","_law_size","_law_word_here","_law_k"] W6:=by nofun
theorem zaa(B:Bt mg)(F:("_law_word"^^^W6)) :(1&&&["_law_number","_law_letters_here","_law_most"]) Zq:=by
 exists F.ok im
 ·obtain⟨ls,c,m,rfl,h0,h1,h2,h3,h4,q⟩:=h
  refine#[_,(zK (zy 3 im.nd (zC xF (pv 0) (zC z6 (pv 2) ze)))
   (zK (zy 0 im.nd (zC wS (pv 0) (zC z6 (pv 2) ze)))
   (zK (zy 4 im.nd xb)
   (zK (yg PassesOwn.never rfl (yz rfl B.range (za (pv 3) zf)) (zv (i:=5) im.nd rfl (.inl rfl))
    (zK (zy 4 im.nd (zC zN (pv 4) (zl kF (pv 1) (zC xF (pv 0) (zF B.len (pv 1))))))
    (zh (zy 0 im.nd (zC wS (pv 0) (zF B.len (pv 1)))))))
   (zh (zt (pv 4))))))),?_]
  have s16:=yb
  rfl'
  have m0:=bD c (b:=m+1) ⋯;have m1:=bu c (b:=m+1) ⋯
  refine#[⋯,#[⋯,⋯],⋯,⋯,ForR.by (λi σ H'=>H'=H/\∃(found:()) (number:Int) (v5:Option V),σ=[~~~!number,~~~ls,~~~!m,rJ (.int (c % (m+1))),~~~found,v5]/\found.length=i/\∀x ∈ found,x ∈ ls)
   #[rfl,[],_,rK,rfl,rfl,λx h=>(nomatch h)] ?_ ?_]
  ·rintro i σ H' hi ⟨rfl,found,number,v5,rfl,hf,hm⟩
   rfl'
   have hm0:=bD number (b:=(ls.length:Int)) ⋯;have hm1:=bu number (b:=(ls.length:Int)) ⋯;obtain⟨v,e1,e2⟩:=qc hm0 hm1
   repeat (refine And.intro (by first | lia | decide | exact#[⋯,⋯] | assumption) ?_)
   refine#[v,e1,?_]
   repeat (refine And.intro (by first | lia | decide | exact#[⋯,⋯] | assumption) ?_)
   refine#[by rw[aj,hf];rfl,λx hx=>?_];rcases rT.mp hx with h | h
   ·exact hm x h
   ·rw[rV.mp h];exact af e2
  ·rintro σ H' ⟨rfl,found,number,v5,rfl,hf,hm⟩
   rfl'
   exact q found ⋯ hm
structure zd7(K:nV):Prop where
 ii:aS K (.type "int") (.type "int")=rJ rL
 ib:aS K (.type "int") (.type "bool")=rJ rM
def jg:Sp:=λvs H Q _=>∃i:Int,vs=[.int i]/\Q (.bl rL) H
theorem kA{i:Int}(h:Q (.bl rL) H):jg [.int i] H Q E:=#[i,rfl,h]
theorem Ur:sQz 1 ["_law_found"] Z5:=by nofun
theorem U5(B:Bt mg)(T:zd7 K)(F:("_law_whole"^^^Z5)):(1&&&["_law_found"]) jg:=by
 exists F.ok Ur
 ·obtain⟨i,rfl,q⟩:=h;refine#[_,(zh (zt (zbf (y3 rfl B.isi (pv 0) rfl B.int PySem.Pv.boot_int) (zba (Ji (y3 rfl B.isi (pv 0) rfl B.bool PySem.Pv.boot_bool)))))),?_]
  rfl'
  exact#[_,.inl (.int _),rL,T.ii,zdV #[_,.inl (.int _),rM,T.ib,q]]
structure TLs(K:nV):Prop where
 ll:aS K (.type "list") (.type "list")=rJ rL
 tt:aS K (.type "tuple") (.type "tuple")=rJ rL
 bb:aS K (.type "bool") (.type "bool")=rJ rL
def YX(K:nV):Sp:=λvs H Q _=>∃(t:nW) (ss:List Stp),vs=[.ref t]/\Is K H (.lst (ss.map dSt)) (.ref t)/\Q (.bl rL) H
theorem mS:sQz 1 ["_law_found","_law_step"] ZU:=by nofun
theorem Qs(B:Bt mg)(T:TLs K)(F:("_law_steps"^^^ZU))(ng:(1<<<"_law_whole") ["_law_found"] [] jg):(2&&&["_law_found"]) (YX K):=by
 exists F.ok mS
 ·obtain⟨t,ss,rfl,hT,q⟩:=h
  refine#[_,(zi (zZ (yo (yM (y3 rfl B.isi (pv 0) rfl B.list PySem.Pv.boot_list) (λ_=>rfl)))
    (zh (zt yT))
    zB)
   (zi (yg PassesOwn.never rfl (yi (pv 0)) (zv (i:=1) mS.nd rfl (.inl rfl))
    (zi (zZ (PW.pt (vG (yo (yM (y3 rfl B.isi (pv 1) rfl B.tuple PySem.Pv.boot_tuple) (λ_=>rfl))) (vG (zG kK (zF B.len (pv 1)) ze (zI _)) (vg (yo (yM (y3 rfl B.isi (zl ix_tup (pv 1) ze) rfl B.bool PySem.Pv.boot_bool) (λ_=>rfl)))))))
     (zh (zt yT))
     zB)
    (zh (zZ (PW.pt (vG (yo (yM (cl0 ng hr .nil rfl (za (zl ix_tup (pv 1) ze) zf)) (λ_=>rfl))) (vg (yo (yM (cl0 ng hr .nil rfl (za (zl ix_tup (pv 1) ze) zf)) (λ_=>rfl))))))
     (zh (zt yT))
     zB))))
   (zh (zt yT)))),?_]
  have s16:=yb
  erw[Is]at hT
  obtain⟨_,ts,e,hTs,hJ⟩:=hT;cases e;refine zj (λσ H'=>H'=H/\σ=[!!t,rK]) ?_ ?_
  ·rfl'
   exact#[_,.inr (.inr (.inl #[_,_,rfl,rfl,hTs])),rL,T.ll,Ub trivial]
  rintro σ H1 ⟨rfl,rfl⟩:_;right;refine zj (λσ H'=>H'=H1/\∃v1,σ=[!!t,v1]) ?_ ?_
  ·rfl'
   refine#[#[_,hTs],ForL.by (xs:=ts) (λi σ H'=>H'=H1/\∃v1,σ=[!!t,v1]) #[rfl,_,rfl] (λi σ H' _ h=>by rw[h.1];exact hTs) ?_ λσ H' h=>h];refine nm4 ?_;rintro i x σ H' hx ⟨rfl,v1,rfl⟩:_;obtain⟨u,pu,hui,rfl,hqu⟩:=w9 hJ hx;right
   erw[yK,ba,aZ]
   refine zj (λσ H''=>H''=H'/\σ=[!!t,!!pu]) ?_ ?_
   ·rfl'
    exact#[_,.inr (.inr (.inr #[_,_,rfl,rfl,hqu])),rL,T.tt,Ub #[_,.inr #[_,hqu,rfl],yU (λh=>absurd rfl h) λ_=>#[_,hqu,_,rfl,_,.inl (.bl _),rL,T.bb,Ub trivial]]]
   rintro σ G ⟨rfl,rfl⟩:_;right
   rfl'
   exact#[_,hqu,_,rfl,kA #[rL,rfl,Ub #[_,hqu,_,rfl,kA #[rL,rfl,Ub rfl]]]]
  rintro σ H2 ⟨rfl,v1,rfl⟩:_;right
  rfl'
  exact q
def j2(K:nV):Sp:=λvs H Q _=>∃(a t:nW) (rs:List zp) (w w':()) (s:Stp),vs=[.ref a,.str (tx w),.ref t]/\Is K H (.lst (rs.map dR)) (.ref a)/\jR rs/\w.length<=300000/\SqT K H t [.int s.1,.int s.2.1,.bl s.2.2]/\yj rs w s=rJ w'/\Q (.str (tx w')) H
theorem VF{a t:nW}{w w':()}{s:Stp}(h1:Is K H (.lst (rs.map dR)) (.ref a))(h2:jR rs)(h3:w.length<=300000)(h4:SqT K H t [.int s.1,.int s.2.1,.bl s.2.2])(h5:yj rs w s=rJ w')(q:Q (.str (tx w')) H):j2 K [.ref a,.str (tx w),.ref t] H Q E:=#[a,t,rs,w,w',s,rfl,h1,h2,h3,h4,h5,q]
theorem li:sQz 3 ["_law_pacts","_law_word_here","_law_step","_law_old","_law_new"] Wx:=by nofun
theorem K7(B:Bt mg)(F:("_law_used"^^^Wx)) :(1&&&["_law_pacts","_law_word_here","_law_step"]) (j2 K):=by
 refine F.ok li (λvs H Q E h=>?_) (λcdv A outer s H vs Q E hr h=>?_)
 ·obtain⟨a,t,rs,w,w',s,rfl,_⟩:=h;rfl
 ·obtain⟨a,t,rs,w,w',s,rfl,hR,ok,hw,ht,ha,q⟩:=h
  refine#[_,(zi (zy 3 li.nd (zl ix_tup (zl ix_list (pv 0) (zl ix_tup (pv 2) ze)) ze))
   (zi (zy 4 li.nd (zl ix_tup (zl ix_list (pv 0) (zl ix_tup (pv 2) ze)) ze))
   (zi (zZ (yo (yM (zl ix_tup (pv 2) ze) (λ_=>rfl)))
    (zK (zy 3 li.nd (zl ix_tup (zl ix_list (pv 0) (zl ix_tup (pv 2) ze)) ze))
    (zh (zy 4 li.nd (zl ix_tup (zl ix_list (pv 0) (zl ix_tup (pv 2) ze)) ze))))
    zB)
   (zh (zt (zC zN (zC zN (zP yx (pv 1) ya (zR (zl ix_tup (pv 2) ze))) (pv 4)) (zP yx (pv 1) (zR (zC z6 (zl ix_tup (pv 2) ze) (zF B.len (pv 3)))) ya))))))),?_]
  have s16:=yb
  erw[Is]at hR
  obtain⟨_,xs,e,hX,hI⟩:=hR;cases e;have hb:0<=s.1/\s.1<rs.length:=bC λhb=>by rw[yW hb]at ha;cases ha
  obtain⟨p,a1,_,hp⟩:=zbg hI hb.1 hb.2;have gl:=Zr ok s.1.toNat;rw[yI hb]at ha;generalize rs.getD s.1.toNat ([],[])=r at *;refine zj (λσ H'=>H'=H/\σ=[!!a,~~~w,!!t,rJ (.str (tx r.1)),rK]) ?_ ?_
  ·rfl'
   exact#[_,ht,_,rfl,_,rfl,_,hX,_,a1,_,rfl,_,hp,rfl]
  rintro σ H1 ⟨rfl,rfl⟩:_;right;refine zj (λσ H'=>H'=H1/\σ=[!!a,~~~w,!!t,rJ (.str (tx r.1)),rJ (.str (tx r.2))]) ?_ ?_
  ·rfl'
   exact#[_,ht,_,rfl,_,rfl,_,hX,_,a1,_,rfl,_,hp,rfl]
  rintro σ H2 ⟨rfl,rfl⟩:_;right;refine zj (λσ H'=>H'=H2/\σ=[!!a,~~~w,!!t,rJ (.str (tx (sdl r s.2.2).1)),rJ (.str (tx (sdl r s.2.2).2))]) ?_ ?_
  ·rfl'
   refine#[_,ht,_,rfl,_,rfl,yU (λh=>#[_,ht,_,rfl,_,rfl,_,hX,_,a1,_,rfl,_,hp,_,rfl,_,ht,_,rfl,_,rfl,_,hX,_,a1,_,rfl,_,hp,_,rfl,?_]) λh=>?_]
   ·rw[h];exact#[rfl,rfl]
   ·rw[Bool.not_eq_false]at h;rw[h];exact#[rfl,rfl]
  rintro σ H3 ⟨rfl,rfl⟩:_
  have hol:(sdl r s.2.2).1.length<=100:=by
   cases s.2.2
   ·exact gl.2
   ·exact gl.1
  have hnl:(sdl r s.2.2).2.length<=100:=by
   cases s.2.2
   ·exact gl.1
   ·exact gl.2
  right;generalize sdl r s.2.2=on at *;have hst:zr w s.2.1 on.1=rL:=bC λhst=>by rw[if_neg hst]at ha;cases ha
  rw[if_pos hst]at ha;obtain⟨_,_,h0,h1⟩:=ye hst;have c1:=xR w rK (rJ s.2.1);have c2:=xR w (rJ (s.2.1 + ↑on.1.length)) rK
  rfl'
  refine#[_,ht,_,rfl,_,rfl,⋯,⋯,_,ht,_,rfl,⋯,_,rfl,⋯,?_,?_]
  ·rw[aj];lia
  ·rw[KF h0];cases ha;exact q
theorem YT{a p:nW}{xs:List V}{ys zs:List V}(hp:H p=rJ (.lst ys))(h:SqT K H a xs):SqT K (upd H p (.lst zs)) a xs:=by
 rcases h with (h | ⟨o,h⟩) | h
 ·exact .inl (.inl (by rw[zq (λe=>by rw[e,hp]at h;cases h)];exact h))
 ·exact .inl (.inr #[o,by rw[zq (λe=>by rw[e,hp]at h;cases h)];exact h])
 ·exact .inr h
theorem Vp{w w':()}{s:Stp}(h:yj rs w s=rJ w'):0<=s.1/\s.1<rs.length:=bC λhb=>by rw[yW hb]at h;cases h
def YN(K:nV):Sp:=λvs H Q _=>∃(a t:nW) (rs:List zp) (w w':()) (ss:List Stp),vs=[.ref a,.str (tx w),.ref t]/\Is K H (.lst (rs.map dR)) (.ref a)/\jR rs/\w.length<=60/\Is K H (.lst (ss.map dSt)) (.ref t)/\ss.length<=2000/\yc rs w ss=rJ w'/\Q (.str (tx w')) H
theorem zac{a t:nW}{w w':()}(h1:Is K H (.lst (rs.map dR)) (.ref a))(h2:jR rs)(h3:w.length<=60)(h4:Is K H (.lst (ss.map dSt)) (.ref t))(h5:ss.length<=2000)(h6:yc rs w ss=rJ w')(q:Q (.str (tx w')) H):YN K [.ref a,.str (tx w),.ref t] H Q E:=#[a,t,rs,w,w',ss,rfl,h1,h2,h3,h4,h5,h6,q]
theorem Vj{w w':()}(h:yc rs w ss=rJ w'){i:Nat}{s:Stp}(hs:ss[i]? = rJ s){w1:()}(h1:yc rs w (ss.take i)=rJ w1):∃w2,yj rs w1 s=rJ w2/\yc rs w (ss.take (i+1))=rJ w2:=by
 have e:ss=ss.take (i+1) ++ ss.drop (i+1):=(bO _ _).symm;rw[e,xI]at h;obtain⟨w2,h2,_⟩:=su.mp h;refine#[w2,?_,h2];rw[zJ hs,xI,h1]at h2
 erw[yc,bL]at h2
 obtain⟨w3,h3,h4⟩:=su.mp h2;cases h4;exact h3
theorem mw:sQz 3 ["_law_pacts","_law_word_here","_law_steps_here","_law_step","_law_old"] KZ:=by nofun
theorem zbU(B:Bt mg)(F:("_law_end"^^^KZ))(nJ:(1<<<"_law_used") ["_law_pacts","_law_word_here","_law_step"] [] (j2 K)):(2&&&["_law_pacts","_law_word_here","_law_steps_here"]) (YN K):=by
 refine F.ok mw (λvs H Q E h=>?_) (λcdv A outer s H vs Q E hr h=>?_)
 ·obtain⟨a,t,rs,w,w',ss,rfl,_⟩:=h;rfl
 ·obtain⟨a,t,rs,w,w',ss,rfl,hR,ok,hw,hT,hsl,hwk,q⟩:=h
  refine#[_,(zi (yg PassesOwn.never rfl (yi (pv 2)) (zv (i:=3) mw.nd rfl (.inl rfl))
    (zi (zZ (PW.pt (vG (zG UU (zl ix_tup (pv 3) ze) ze (zI _)) (vG (zG op_ge' (zl ix_tup (pv 3) ze) (zF B.len (pv 0)) (zI _)) (vg (zG UU (zl ix_tup (pv 3) ze) ze (zI _))))))
     (zh (zt xA))
     zB)
    (zi (zy 4 mw.nd (zl ix_tup (zl ix_list (pv 0) (zl ix_tup (pv 3) ze)) (zC xN ze (vk Wy rfl B.int PySem.Pv.boot_int (za (zl ix_tup (pv 3) ze) zf)))))
    (zi (zZ (PW.pt (vG (zG Y7 (zC z6 (zl ix_tup (pv 3) ze) (zF B.len (pv 4))) (zF B.len (pv 1)) (zI _)) (vg (zG kK (zP yx (pv 1) (zR (zl ix_tup (pv 3) ze)) (zR (zC z6 (zl ix_tup (pv 3) ze) (zF B.len (pv 4))))) (pv 4) (zI _)))))
     (zh (zt xA))
     zB)
    (zh (zy 1 mw.nd (cl0 nJ hr .nil rfl (za (pv 0) (za (pv 1) (za (pv 3) zf))))))))))
   (zh (zt (pv 1)))),?_]
  have s16:=yb;have hR':=hR;have hT':=hT
  erw[Is]at hR' hT'
  obtain⟨_,xs,e,hX,hI⟩:=hR';cases e;obtain⟨_,ts,e,hTs,hJ⟩:=hT';cases e;have htl:=hJ.len;rw[ac]at htl;refine zj (λσ H'=>H'=H/\∃v3 v4,σ=[!!a,~~~w',!!t,v3,v4]) ?_ ?_
  ·rfl'
   refine#[#[_,hTs],ForL.by (xs:=ts) (λi σ H'=>H'=H/\∃w1 v3 v4,yc rs w (ss.take i)=rJ w1/\w1.length<=60+i * 100/\σ=[!!a,~~~w1,!!t,v3,v4]) #[rfl,w,_,_,rfl,⋯,rfl] (λi σ H' _ h=>by rw[h.1];exact hTs) ?_ ?_]
   ·refine nm4 ?_;rintro i x σ H' hx ⟨rfl,w1,v3,v4,hw1,hl1,rfl⟩:_;obtain⟨s,ps,hsi,rfl,hqs⟩:=w9 hJ hx;have hil:=(rQ.mp hsi).1;obtain⟨w2,haf,hw2⟩:=Vj hwk hsi hw1;have hl2:=Vs ok haf;have hb:=Vp haf;obtain⟨p,a1,_,hp⟩:=zbg hI hb.1 hb.2;have gl:=Zr ok s.1.toNat;have ha:=haf;rw[yI hb]at ha;right;generalize rs.getD s.1.toNat ([],[])=r at *;have hst:zr w1 s.2.1 (sdl r s.2.2).1=rL:=bC λhst=>by rw[if_neg hst]at ha;cases ha
    obtain⟨_,_,h0,h1⟩:=ye hst
    erw[yK,ba,aZ]
    refine zj (λσ H''=>H''=H'/\σ=[!!a,~~~w1,!!t,!!ps,v4]) ?_ ?_
    ·rfl'
     exact#[_,hqs,_,rfl,_,rfl,yU (λh=>absurd hb.1 ⋯) λ_=>#[_,hqs,_,rfl,_,.inl #[_,hX,rfl],_,rfl,yU (λh=>absurd hb.2 (by have:=hI.len;rw[ac]at this;lia)) λ_=>#[_,hqs,_,rfl,_,rfl,yU (λh=>absurd h0 ⋯) λ_=>trivial]]]
    rintro σ G ⟨rfl,rfl⟩:_;right;refine zj (λσ H''=>H''=G/\σ=[!!a,~~~w1,!!t,!!ps,rJ (.str (tx (sdl r s.2.2).1))]) ?_ ?_
    ·rfl'
     refine#[_,hqs,_,rfl,_,rfl,_,hX,_,a1,_,hqs,_,rfl,.inr #[_,rfl,_,rfl,_,hp,?_]];cases s.2.2 <;> rfl
    rintro σ G1 ⟨rfl,rfl⟩:_;right;refine zj (λσ H''=>H''=G1/\σ=[!!a,~~~w1,!!t,!!ps,rJ (.str (tx (sdl r s.2.2).1))]) ?_ ?_
    ·rfl'
     have hol:(sdl r s.2.2).1.length<=100:=by
      cases s.2.2
      ·exact gl.2
      ·exact gl.1
     refine#[_,hqs,_,rfl,⋯,_,rfl,⋯,yU (λh=>absurd h1 ⋯) λ_=>#[_,hqs,_,rfl,_,rfl,_,hqs,_,rfl,⋯,_,rfl,⋯,yU (λh=>absurd ?_ h) λ_=>trivial]];have hst':=hst;unfold zr at hst';rw[decide_eq_true_eq]at hst';rw[ZX _ h0 ⋯ ⋯];have e:(s.2.1+((sdl r s.2.2).1.length:Int) - s.2.1).toNat=(sdl r s.2.2).1.length:=⋯;rw[e];exact hst'.2.2
    rintro σ G2 ⟨rfl,rfl⟩:_;right
    rfl'
    refine VF hR ok ⋯ hqs haf #[rfl,w2,hw2,⋯,rfl]
   ·rintro σ H' ⟨rfl,w1,v3,v4,hw1,hl1,rfl⟩;rw[htl,aG,hwk]at hw1;cases hw1;exact#[rfl,_,_,rfl]
  rintro σ H2 ⟨rfl,v3,v4,rfl⟩:_;right
  rfl'
  exact q
theorem zdW{X:Cx}{k j:Nat}{C:nW}{ps:List og}{sp:Sp}{e:ol}{es:List ol}{t:TA}{pos p:oU}{x:og}(hx:XE X E)(D:DMk X.prog X.w X.K X.mg X.base (CXx X.prog X.w) k C ps sp)(hr:Room j X.A)(hg:Gl X x)(hm:X.mg x=rJ (.ref C))(ha:PA X (e::es) t)(hdb:(x ==("__debug__" : og))=rM:=by decide)(he:nS (e::es) X.env=(rM,eval e X.env)::nS es X.env:=by rfl)
  (hpl:(oB pos (nS es X.env)).any (·.1)=rM:=by rfl) (hj:k+1<=j:=by decide):PE X (.Call (.Name x p) (e::es) [] pos) (WB C sp [] E t):=by
 obtain⟨f,fd,M,F,hb⟩:=D.ex;exact VL M F (hr.mono hj) hg hm hb .nil (Yh hx) ha hdb he hpl
abbrev zd2(mg:og->Option nX):Prop:=mg "any" = rK
structure TNT(K:nV)(mg:og->Option nX)(C:nW):Prop where
 xi:XI K C
 g:mg "NotTurned" = rJ (.ref C)
 na:NoAttr K C "number"
theorem vM:sQz 2 ["self","number"] zW:=by nofun
theorem vJ{f C:nW}(T:TNT K mg C)(F:Fun K "__init__" "NotTurned.__init__" zW f fd):(1&&&["self","number"]) (vf C "number"):=by
 exists F.ok vM
 ·obtain⟨x,v,rfl,hx,q⟩:=h;refine#[_,(zh (V4 (pv 0) (pv 1) rfl)),?_]
  erw[JZ]
  rfl'
  exact#[C,hx,T.xi.toXC,T.na,q]
structure DNT(P:nZ)(w:oh)(K:nV)(mg:og->Option nX)(base:oo)(C:nW):Prop extends TNT K mg C where
 ini:∃f fd,ak K (.ref C) "__init__" = rJ (rJ (.ref f))/\bj K (.ref f)=rL/\(1&&&["self","number"]) (vf C "number")/\Binds K fd ["self","number"] []
structure zbI(K:nV)(mg:og->Option nX)(CH:nW):Prop where
 cl:Cls K CH
 g:mg "System" = rJ (.ref CH)
 no:NoAttr K CH "order"
 nr:NoAttr K CH "rules"
noncomputable def xT(k:Nat)(l:())(ns:List Int):List zp->Nat->Option Nat
 | [],_=>rK
 | r::rs,i=>if zO k l ns r.2 r.1=rL then xT k l ns rs (i+1)else rJ i
theorem Z7{l:()}:∀{ps:List zp} {j i:Nat} {r:zp},(∀(m:Nat) (p:zp),m<i->ps[m]? = rJ p->zO k l ns p.2 p.1=rL)->ps[i]? = rJ r->zO k l ns r.2 r.1=rM->xT k l ns ps j=rJ (j+i)
 | [],_,_,_,_,h,_=>by simp at h
 | p::ps,j,0,r,_,h,hl=>by
  cases h;rw[xT,hl,if_neg aA];rfl
 | p::ps,j,i+1,r,hb,h,hl=>by
  rw[xT,if_pos (hb 0 p (Nat.succ_pos _) rfl),Z7 (i:=i) (λm q hm e=>hb (m+1) q ⋯ e) h hl];congr 1;lia
theorem vC{l:()}:∀{ps:List zp} {j:Nat},(∀(m:Nat) (p:zp),ps[m]? = rJ p->zO k l ns p.2 p.1=rL)->xT k l ns ps j=rK
 | [],_,_=>rfl
 | p::ps,j,hb=>by
  rw[xT,if_pos (hb 0 p rfl)];exact vC λm q e=>hb (m+1) q e
def InL(l:())(ps:List zp):Prop:=∀p ∈ ps,p.1.length<=1000/\p.2.length<=1000/\(∀c ∈ p.1,c ∈ l)/\∀c ∈ p.2,c ∈ l
def uo(K:nV)(CO CR CW CT CH:nW):Sp:=λvs H Q E=>∃(x dx o a:nW) (k:Nat) (l:()) (ns:List Int) (ps:List zp) (xs:List V),vs=[.ref x,.ref o,.ref a]/\H x=rJ (.ins CH dx [])/\OrdAt CO CR CW H o k l ns/\OG l ns k/\H a=rJ (.lst xs)/\Iss K H (ps.map dR) xs/\InL l ps /\
 (∀i,xT k l ns ps 0=rJ i->∀H1,Same H H1->∀d H',zcN H1 d "number" (.int (i:Nat)) H'->E (.ref CT) (rJ d) H') /\
 (xT k l ns ps 0=rK->∀(q:nW) (H':Hp),(∀b o',b≠x->H b=rJ o'->H' b=rJ o')->H' x=rJ (.ins CH dx [("order",.ref o),("rules",.ref q)])->H' q=rJ (.lst xs)->H q=rK->Q .non H')
theorem io:sQz 3 ["self","order","rules","number","rule"] xJ:=by nofun
theorem qF{f CO CR CW CT CH:nW}(B:Bt mg)(T:DNT P w K mg base CT)(TS:zbI K mg CH)(DBk:DB P w K mg base CO CR CW)(F:Fun K "__init__" "System.__init__" xJ f fd) :(5|||["self","order","rules"]) (uo K CO CR CW CT CH):=by
 obtain⟨fi,fdi,hi,hfn,Fi,Bi⟩:=T.ini
 exists Fun.okX F io,0
 ·obtain⟨x,dx,o,a,k,l,ns,ps,xs,rfl,hx0,ho,hG,hA,hI,hP,q1,q2⟩:=h
  refine#[_,(zi (yg PassesOwn.leaving rfl (yQ rfl B.enum (za (pv 2) zf)) (vn (n:=2) rfl (zV (zv (i:=3) io.nd rfl (.inl rfl)) (zV (zv (i:=4) io.nd rfl (.inl rfl)) xM)))
    (zh (zZ (yo (yM (zah DBk hr (pv 1) (za (zl ix_tup (pv 4) ze) (za (zl ix_tup (pv 4) ze) zf))) (λ_=>rfl)))
     (zh (kP hx rfl T.xi.toXC hi hfn Fi (hr.mono ∅) Bi rfl T.g (za (pv 3) zf)))
     zB)))
   (zi (WD (pv 0) (pv 1) rfl)
   (zh (WD (pv 0) (vk xX rfl B.list PySem.Pv.boot_list (za (pv 2) zf)) rfl)))),?_]
  have s16:=yb;refine zj (λσ H'=>Same H H'/\xT k l ns ps 0=rK/\∃v3 v4,σ=[!!x,!!o,!!a,v3,v4]) ?_ ?_
  ·ac_rfl;refine#[#[_,SqL.of hA],ForEL.by (xs:=xs) (λi σ H'=>Same H H'/\(∀(j:Nat) (p:zp),j<i->ps[j]? = rJ p->zO k l ns p.2 p.1=rL)/\∃v3 v4,σ=[!!x,!!o,!!a,v3,v4]) #[Same.refl _,λj p h=>absurd h (bU j),_,_,rfl] ?_ ?_ ?_]
   ·rintro i σ H' _ ⟨hs,_⟩;exact SqL.of (hs _ _ hA)
   ·rintro i y σ H' p hy ⟨hs,hb,v3,v4,rfl⟩ hpn;obtain⟨r,pr,hri,rfl,hqr⟩:=hI.getR hy;have hm:=hP r (af hri);have s2:=hs.trans (zd (o:=.tup [.int (i:Nat),.ref pr]) hpn);have ho2:=ho.same s2;have hq2:=zk s2 hqr;obtain⟨C,dy,fs,hf,hoC,hn,_⟩:=ho2.fam;have hn1:fs.lookup ("before" : og)=rK:=hn _ ∅ ∅;ac_rfl;refine#[_,SqT.of zc,rfl,_,_,rfl,_,_,rfl,rfl,C,hf,dy,fs,hoC,hn1,_,rfl,_,hq2,_,rfl,_,rfl,_,hq2,_,rfl,o,k,l,ns,r.2,r.1,rfl,ho2,hG,hm.2.1,hm.1,hm.2.2.2,hm.2.2.1,λH3 s3=>?_];have s16:=yb;refine#[_,rfl,yU (λe=>#[⋯,XW (q1 i (by have:=Z7 (j:=0) hb hri e;simpa using this) H3 (s2.trans s3))]) λe=>#[s2.trans s3,λj p' hj hp'=>?_]];by_cases hj':j<i
    ·exact hb j p' hj' hp'
    ·have:j=i:=⋯;rw[this,hri]at hp';cases hp';simpa using e
   ·rintro σ H' ⟨hs,hb,v3,v4,rfl⟩;have hxl:=hI.len;rw[ac]at hxl;exact#[hs,vC λm p e=>hb m p (by have:=(rQ.mp e).1;lia) e,v3,v4,rfl]
  rintro σ H1 ⟨s1,hf,v3,v4,rfl⟩:_;right;refine zj (λσ H'=>H'=upd H1 x (.ins CH dx [("order",.ref o)])/\σ=[!!x,!!o,!!a,v3,v4]) ?_ ?_
  ·ac_rfl;exact#[_,_,_,s1 _ _ hx0,TS.cl,TS.no,∅,rfl]
  rintro σ H2 ⟨rfl,rfl⟩:_;right;ac_rfl;have hax:a≠x:=λe=>by rw[e,hx0]at hA;cases hA
  refine#[xs,.inl (SqL.of (by rw[zq hax];exact s1 _ _ hA)),λq hq=>?_];have hqx:q≠x:=λe=>by rw[e,zc]at hq;cases hq
  rw[zq hqx]at hq
  have hqH:H q=rK:=by
   cases e:H q with
   | none=>rfl
   | some o'=>rw[s1 _ _ e]at hq;cases hq
  refine#[CH,dx,_,by rw[zq hqx.symm,zc],TS.cl,TS.nr,by show 1<1000;decide,q2 hf q _ (λb o' hb e=>?_) zc (by rw[zq hqx,zc]) hqH];rw[zq hb,zq (λz=>by rw[z,hqH]at e;cases e),zq hb];exact s1 _ _ e
def Ux(K:nV)(CH:nW)(H:Hp)(y o q:nW)(ps:List zp):Prop:=∃dx xs,H y=rJ (.ins CH dx [("order",.ref o),("rules",.ref q)])/\H q=rJ (.lst xs)/\Iss K H (ps.map dR) xs
noncomputable def y6(l m:())(k:Nat):Bool:=decide ((l.drop k).take m.length=m.take (l.length - k))
noncomputable def lf(rs:List zp)(i:Nat):():=(rs.getD i ([],[])).1
theorem xa{i:Nat}{r:zp}(h:rs[i]? = rJ r):lf rs i=r.1:=by unfold lf;rw[aa,h];rfl
noncomputable def kj(rs:List zp)(i j n:Nat):List N3:=((aR n).filter λk=>(decide (i≠j) || decide (k≠0)) && y6 (lf rs i) (lf rs j) k).map λk=>(i,j,k)
noncomputable def ovI(rs:List zp)(i m:Nat):List N3:=(aR m).flatMap λj=>kj rs i j (lf rs i).length
noncomputable def ovA(rs:List zp)(m:Nat):List N3:=(aR m).flatMap λi=>ovI rs i rs.length
theorem wl(rs:List zp)(i j n:Nat):kj rs i j (n+1)=kj rs i j n ++ (if ((decide (i≠j) || decide (n≠0)) && y6 (lf rs i) (lf rs j) n)=rL then [(i,j,n)]else []):=by
 unfold kj;rw[cG,cH,ao];congr 1
 erw[eK,df]
 split <;> rfl
theorem wX(rs:List zp)(i m:Nat):ovI rs i (m+1)=ovI rs i m ++ kj rs i m (lf rs i).length:=by
 unfold ovI;rw[cG,cX];simp
theorem uw(rs:List zp)(m:Nat):ovA rs (m+1)=ovA rs m ++ ovI rs m rs.length:=by
 unfold ovA;rw[cG,cX];simp
theorem uk(rs:List zp)(i j n:Nat):(kj rs i j n).length<=n:=by
 unfold kj;rw[ac];have:=cM (λk=>(decide (i≠j) || decide (k≠0)) && y6 (lf rs i) (lf rs j) k) (aR n);rw[dn]at this;exact this
theorem zbx(h:jR rs)(i:Nat):(lf rs i).length<=100:=by
 cases e:rs[i]? with
 | none=>unfold lf;rw[aa,e];exact ay _
 | some r=>rw[xa e];exact (h.2 r (af e)).1
theorem Zs(h:jR rs)(i m:Nat):(ovI rs i m).length<=m * 100:=by
 induction m with
 | zero=>exact ay _
 | succ m ih =>
  rw[wX,aj];have h1:=uk rs i m (lf rs i).length;have h2:=zbx h i;lia
theorem Wp(h:jR rs)(m:Nat):(ovA rs m).length<=m * 3000:=by
 induction m with
 | zero=>exact ay _
 | succ m ih =>
  rw[uw,aj];have h1:=Zs h m rs.length;have h2:=h.1;lia
def jz:Sp:=λvs H Q _=>∃(l m:()) (k:Nat),vs=[.str (tx l),.str (tx m),.int (k:Nat)]/\l.length<=1000/\m.length<=1000/\k<=l.length/\Q (.bl (y6 l m k)) H
theorem kz{l m:()}(h1:l.length<=1000)(h2:m.length<=1000)(h3:k<=l.length)(h:Q (.bl (y6 l m k)) H):jz [.str (tx l),.str (tx m),.int (k:Nat)] H Q E:=#[l,m,k,rfl,h1,h2,h3,h]
theorem Ul:sQz 3 ["one","other","place"] ZR:=by nofun
theorem Qx(B:Bt mg)(F:("agree"^^^ZR)) :(1&&&["one","other","place"]) jz:=by
 exists F.ok Ul
 ·obtain⟨l,m,k,rfl,hl,hm,hk,q⟩:=h;refine#[_,(zh (zt (wu qA (zP yx (pv 0) (zR (pv 2)) (zR (zC z6 (pv 2) (zF B.len (pv 1))))) (zP yx (pv 1) ya (zR (zC xN (zF B.len (pv 0)) (pv 2)))) (zI _)))),?_];have s16:=yb
  rfl'
  refine#[⋯,⋯,⋯,⋯,?_];rw[QZ _ ⋯ ⋯,vo _ ⋯];have e1:((k:Int)+(m.length:Int) - (k:Int)).toNat=m.length:=⋯;have e2:((l.length:Int) - (k:Int)).toNat=l.length - k:=⋯;rw[e1,e2];exact q
def wN(K:nV):Sp:=λvs H Q _=>∃(a:nW) (rs:List zp),vs=[.ref a]/\Is K H (.lst (rs.map dR)) (.ref a)/\jR rs/\∀D H',H D=rK->Same H H'->LsA K H' D ((ovA rs rs.length).map d3)->Q (.ref D) H'
theorem Zo{a:nW}(h1:Is K H (.lst (rs.map dR)) (.ref a))(h2:jR rs)(h:∀D H',H D=rK->Same H H'->LsA K H' D ((ovA rs rs.length).map d3)->Q (.ref D) H'):wN K [.ref a] H Q E:=#[a,rs,rfl,h1,h2,h]
theorem gu:sQz 1 ["rules","found","i","one","j","other","place"] vA:=by nofun
theorem ZL(B:Bt mg)(F:("overlaps"^^^vA))(nA:(1<<<"agree") ["one","other","place"] [] jz):(2&&&["rules"]) (wN K):=by
 exists F.ok gu
 ·obtain⟨a,rs,rfl,hR,ok,q⟩:=h
  refine#[_,(zK (zy 1 gu.nd (vR zf))
   (zK (yg PassesOwn.never rfl (yQ rfl B.enum (za (pv 0) zf)) (vn (n:=2) rfl (zV (zv (i:=2) gu.nd rfl (.inl rfl)) (zV (zv (i:=3) gu.nd rfl (.inl rfl)) xM)))
    (zh (yg PassesOwn.never rfl (yQ rfl B.enum (za (pv 0) zf)) (vn (n:=2) rfl (zV (zv (i:=4) gu.nd rfl (.inl rfl)) (zV (zv (i:=5) gu.nd rfl (.inl rfl)) xM)))
     (zh (yg PassesOwn.never rfl (WX rfl B.range (za (ux (zG qA (pv 2) (pv 4) (zI _)) ze ze) (za (zF B.len (zl ix_tup (pv 3) ze)) zf))) (zv (i:=6) gu.nd rfl (.inl rfl))
      (zh (zZ (yM (cl0 nA hr .nil rfl (za (zl ix_tup (pv 3) ze) (za (zl ix_tup (pv 5) ze) (za (pv 6) zf)))) (λ_=>rfl))
       (zh (wQ (uX bZ cB cC wn (pv 1) (za (z5 (za (pv 2) (za (pv 4) (za (pv 6) zf)))) zf))))
       zB)))))))
   (zh (zt (pv 1))))),?_]
  have s16:=yb
  rfl'
  erw[Is]at hR
  obtain⟨_,xs,e,hX,hI⟩:=hR;cases e;refine#[⋯,λD hD=>#[#[_,(zd hD).seq hX],ForEL.by (xs:=xs) (λi σ H'=>∃v2 v3 v4 v5 v6,σ=[!!a,!!D,v2,v3,v4,v5,v6]/\Same H H'/\LsA K H' D ((ovA rs i).map d3)) #[rK,rK,rK,rK,rK,rfl,zd hD,LsA.nil] ?_ ?_ ?_]]
  ·rintro i σ H' hi ⟨v2,v3,v4,v5,v6,rfl,hs,_⟩;exact hs.seq hX
  ·rintro i x σ H' p hx ⟨v2,v3,v4,v5,v6,rfl,hs,hL⟩ hp;obtain⟨r,pr,hri,rfl,hqr⟩:=hI.getR hx;have er:=xa hri;have hr1:=(ok.2 r (af hri)).1
   rfl'
   refine#[_,SqT.of zc,rfl,_,_,rfl,_,_,rfl,rfl,#[_,((hs.trans (zd hp)).seq hX)],ForEL.by (xs:=xs) (λj σ H''=>∃v4 v5 v6,σ=[!!a,!!D,-~~~i,!!pr,v4,v5,v6]/\Same H H''/\LsA K H'' D ((ovA rs i ++ ovI rs i j).map d3)) #[v4,v5,v6,rfl,hs.trans (zd hp),by rw[show ovI rs i 0=[]from rfl,aQ];exact hL.same (zd hp)] ?_ ?_ ?_]
   ·rintro j σ H2 hj ⟨v4,v5,v6,rfl,hs2,_⟩;exact hs2.seq hX
   ·rintro j y σ H2 p2 hy ⟨v4,v5,v6,rfl,hs2,hL2⟩ hp2;obtain⟨r2,pr2,hri2,rfl,hqr2⟩:=hI.getR hy;have er2:=xa hri2;have hr2:=(ok.2 r2 (af hri2)).1;have hs3:=hs2.trans (zd (o:=.tup [.int (j:Nat),.ref pr2]) hp2);have hq1:=zk hs3 hqr;have el:(tx r.1).length=r.1.length:=zE _
    rfl'
    refine#[_,SqT.of zc,rfl,_,_,rfl,_,_,rfl,rfl,rfl,yU (λh=>?_) λh=>?_]
    ·have hij:i=j:=by injection h with h;lia
     have z0:kj rs i j (1+0)=[]:=by
      subst hij;rw[show 1+0=0+1 from rfl,wl];simp [kj]
     have zn:kj rs i j (1+((r.1.length:Int) - 1).toNat)=kj rs i j r.1.length:=by
      by_cases h0:r.1.length=0
      ·rw[h0];exact z0
      ·rw[show 1+((r.1.length:Int) - 1).toNat=r.1.length by lia]
     refine#[_,hq1,_,rfl,_,#[⋯,rfl],∅,∅,⋯,⋯,ForR.by (λt σ H3=>∃v6,σ=[!!a,!!D,-~~~i,!!pr,-~~~j,!!pr2,v6]/\Same H H3/\LsA K H3 D ((ovA rs i ++ ovI rs i j ++ kj rs i j (1+t)).map d3)) #[v6,rfl,hs3,(by rw[z0,aQ];exact hL2.same (zd hp2))] ?_ ?_]
     ·refine nm3 ?_;rintro n σ H3 hn ⟨v6,rfl,hs4,hL4⟩:_;have hn':1+n<r.1.length:=⋯;have en:((1:Int)+(n:Int))=((1+n:Nat):Int):=⋯;right;dsimp only;rw[en];obtain⟨ys,hY,hJ⟩:=hL4;have hlen:=hJ.len;have l1:=Wp ok i;have l2:=Zs ok i j;have l3:=uk rs i j (1+n);have i1:=(rQ.mp hri).1;have i2:=(rQ.mp hri2).1;have i3:=ok.1
      erw[ac,aj]at hlen
      have es:=wl rs i j (1+n);have etest:(decide (i≠j) || decide (1+n≠0))=rL:=by rw[show decide (1+n≠0)=rL from decide_eq_true ⋯,dF]
      rw[etest,Bool.true_and,er,er2]at es
      rfl'
      refine#[_,zk hs4 hqr,_,rfl,_,zk hs4 hqr2,_,rfl,kz ⋯ ⋯ ⋯ #[_,rfl,yU (λhb=>#[.inl #[_,SqL.of hY],⋯,λt ht=>#[_,zd ht _ _ hY,⋯,zD (hs4.trans (zd ht)) hD,?_]]) λhb=>#[hs4,ys,hY,?_]]]
      ·rw[hb,if_pos rfl]at es;rw[show 1+(n+1)=1+n+1 by lia,es,<- aP,ao];exact LsA.pushT hY hJ ht zaO (Yw _) (by erw[zY,xy,and_self])
      ·have hb':y6 r.1 r2.1 (1+n)=rM:=by simpa using hb
       rw[hb',if_neg aA,aQ]at es;rw[show 1+(n+1)=1+n+1 by lia,es];exact hJ
     ·rintro σ H3 ⟨v6,rfl,hs4,hL4⟩;refine#[#[_,_,_,rfl],hs4,?_];rw[wX,er,<- aP];rw[el,zn]at hL4;exact hL4
    ·have hij:i≠j:=λz=>h (by rw[z]);refine#[_,hq1,_,rfl,_,#[⋯,rfl],∅,∅,⋯,⋯,ForR.by (λt σ H3=>∃v6,σ=[!!a,!!D,-~~~i,!!pr,-~~~j,!!pr2,v6]/\Same H H3/\LsA K H3 D ((ovA rs i ++ ovI rs i j ++ kj rs i j (0+t)).map d3)) #[v6,rfl,hs3,(by rw[show kj rs i j (0+0)=[]from rfl,aQ];exact hL2.same (zd hp2))] ?_ ?_]
     ·refine nm3 ?_;rintro n σ H3 hn ⟨v6,rfl,hs4,hL4⟩:_;have hn':0+n<r.1.length:=⋯;have en:((0:Int)+(n:Int))=((0+n:Nat):Int):=⋯;right;dsimp only;rw[en];obtain⟨ys,hY,hJ⟩:=hL4;have hlen:=hJ.len;have l1:=Wp ok i;have l2:=Zs ok i j;have l3:=uk rs i j (0+n);have i1:=(rQ.mp hri).1;have i2:=(rQ.mp hri2).1;have i3:=ok.1
      erw[ac,aj]at hlen
      have es:=wl rs i j (0+n);have etest:(decide (i≠j) || decide (0+n≠0))=rL:=by rw[show decide (i≠j)=rL from decide_eq_true hij,Bool.true_or]
      rw[etest,Bool.true_and,er,er2]at es
      rfl'
      refine#[_,zk hs4 hqr,_,rfl,_,zk hs4 hqr2,_,rfl,kz ⋯ ⋯ ⋯ #[_,rfl,yU (λhb=>#[.inl #[_,SqL.of hY],⋯,λt ht=>#[_,zd ht _ _ hY,⋯,zD (hs4.trans (zd ht)) hD,?_]]) λhb=>#[hs4,ys,hY,?_]]]
      ·rw[hb,if_pos rfl]at es;rw[show 0+(n+1)=0+n+1 by lia,es,<- aP,ao];exact LsA.pushT hY hJ ht zaO (Yw _) (by erw[zY,xy,and_self])
      ·have hb':y6 r.1 r2.1 (0+n)=rM:=by simpa using hb
       rw[hb',if_neg aA,aQ]at es;rw[show 0+(n+1)=0+n+1 by lia,es];exact hJ
     ·rintro σ H3 ⟨v6,rfl,hs4,hL4⟩;refine#[#[_,_,_,rfl],hs4,?_];rw[wX,er,<- aP];rw[el,show 0+((r.1.length:Int) - 0).toNat=r.1.length by lia]at hL4;exact hL4
   ·rintro σ H2 ⟨v4,v5,v6,rfl,hs2,hL2⟩;have e:=hI.len;rw[ac]at e;rw[e,<- uw]at hL2;exact#[#[_,_,_,_,_,rfl],hs2,hL2]
  ·rintro σ H' ⟨v2,v3,v4,v5,v6,rfl,hs,hL⟩;have e:=hI.len;rw[ac]at e;rw[e]at hL
   rfl'
   exact q D H' hD hs hL
noncomputable def yd(l m:())(k:Nat):():=l ++ m.drop (l.length - k)
theorem w8(l m:())(k:Nat)(hk:k<=l.length):(yd l m k).length=max l.length (k+m.length):=by
 unfold yd;rw[aj,aL];lia
theorem qO(l m:())(k:Nat):zr (yd l m k) 0 l=rL:=by
  unfold zr yd;refine decide_eq_true #[∅,by rw[aj];lia,?_];rw[show (0:Int).toNat=0 from rfl,dU,bg (al _),aG]
theorem qi{l m:()}(hk:k<=l.length)(h:y6 l m k=rL):zr (yd l m k) (k:Nat) m=rL:=by
 unfold y6 at h;rw[decide_eq_true_eq]at h;have hl:=w8 l m k hk;unfold zr;refine decide_eq_true #[⋯,⋯,?_];rw[show ((k:Nat):Int).toNat=k from rfl];unfold yd;rw[bY hk];by_cases hm:m.length<=l.length - k
 ·rw[bg (by rw[aL];lia),h,aW hm]
 ·rw[aW (by rw[aL];lia)]at h;rw[h,bO,aG]
theorem UV{i j n:Nat}{t:N3}(h:t ∈ kj rs i j n):t.1=i/\t.2.1=j/\t.2.2<n/\y6 (lf rs i) (lf rs j) t.2.2=rL:=by
 unfold kj at h;obtain⟨k,hk,rfl⟩:=rR.mp h;rw[List.mem_filter,eY,bE]at hk;exact#[rfl,rfl,hk.1,hk.2.2]
theorem qk{t:N3}(h:t ∈ ovA rs rs.length):t.1<rs.length/\t.2.1<rs.length/\t.2.2<(lf rs t.1).length/\y6 (lf rs t.1) (lf rs t.2.1) t.2.2=rL:=by
 unfold ovA ovI at h;obtain⟨i,hi,h⟩:=so.mp h;obtain⟨j,hj,h⟩:=so.mp h;obtain⟨e1,e2,e3,e4⟩:=UV h;rw[e1,e2];exact#[rW.mp hi,rW.mp hj,e3,e4]
def jV(K:nV):Sp:=λvs H Q _=>∃(a t:nW) (rs:List zp) (i j k:Nat) (r r2:zp),vs=[.ref a,.ref t]/\Is K H (.lst (rs.map dR)) (.ref a)/\SqT K H t [.int (i:Nat),.int (j:Nat),.int (k:Nat)]/\jR rs/\rs[i]? = rJ r/\rs[j]? = rJ r2/\k<=r.1.length/\y6 r.1 r2.1 k=rL /\
 ∀p H',H p=rK->Same H H'->H' p=rJ (.tup [.str (tx (yd r.1 r2.1 k)),.str (tx (yE (yd r.1 r2.1 k) 0 r.1 r.2)),.str (tx (yE (yd r.1 r2.1 k) (k:Nat) r2.1 r2.2))])->Q (.ref p) H'
theorem Y0{a t:nW}{i j k:Nat}{r r2:zp}(h1:Is K H (.lst (rs.map dR)) (.ref a))(h2:SqT K H t [.int (i:Nat),.int (j:Nat),.int (k:Nat)])(h3:jR rs)(h4:rs[i]? = rJ r)(h5:rs[j]? = rJ r2)(h6:k<=r.1.length)(h7:y6 r.1 r2.1 k=rL)
 (h:∀p H',H p=rK->Same H H'->H' p=rJ (.tup [.str (tx (yd r.1 r2.1 k)),.str (tx (yE (yd r.1 r2.1 k) 0 r.1 r.2)),.str (tx (yE (yd r.1 r2.1 k) (k:Nat) r2.1 r2.2))])->Q (.ref p) H'):jV K [.ref a,.ref t] H Q E:=#[a,t,rs,i,j,k,r,r2,rfl,h1,h2,h3,h4,h5,h6,h7,h]
theorem XX{CU:nW}{l o n:()}{k:Int}(h1:l.length<=10000)(h2:o.length<=10000)(h3:n.length<=10000)(hs:zr l k o=rL)(q:Q (.str (tx (yE l k o n))) H):YC CU [.str (tx l),.int k,.str (tx o),.str (tx n)] H Q E:=#[l,o,n,k,rfl,h1,h2,h3,λ_=>q,λh=>by rw[hs]at h;cases h]
theorem lj:sQz 2 ["rules","overlap","one","other","place","word"] WA:=by nofun
theorem Kq{f CU:nW}(B:Bt mg)(F:("peak"^^^WA))(mM:(3>>>"put") ["word","place","old","new"] [] (YC CU)):(4&&&["rules","overlap"]) (jV K):=by
 exists F.ok lj
 ·obtain⟨a,t,rs,i,j,k,r,r2,rfl,hR,ht,ok,hr1,hr2,hk,hag,q⟩:=h
  refine#[_,(zi (zy 2 lj.nd (zl ix_list (pv 0) (zl ix_tup (pv 1) ze)))
   (zi (zy 3 lj.nd (zl ix_list (pv 0) (zl ix_tup (pv 1) ze)))
   (zi (zy 4 lj.nd (zl ix_tup (pv 1) ze))
   (zi (zy 5 lj.nd (zC zN (zl ix_tup (pv 2) ze) (zP zaQ (zl ix_tup (pv 3) ze) (zR (zC xN (zF B.len (zl ix_tup (pv 2) ze)) (pv 4))) ya)))
   (zh (zt (z5 (za (pv 5) (za (clP xe0 mM hr .nil rfl (za (pv 5) (za ze (za (zl ix_tup (pv 2) ze) (za (zl ix_tup (pv 2) ze) zf))))) (za (clP xe0 mM hr .nil rfl (za (pv 5) (za (pv 4) (za (zl ix_tup (pv 3) ze) (za (zl ix_tup (pv 3) ze) zf))))) zf)))))))))),?_]
  have s16:=yb
  erw[Is]at hR
  obtain⟨_,xs,e,hX,hI⟩:=hR;cases e;obtain⟨p1,a1,q1⟩:=zcX hI hr1;obtain⟨p2,a2,q2⟩:=zcX hI hr2;have b1:=ok.2 r (af hr1);have b2:=ok.2 r2 (af hr2);refine zj (λσ H'=>H'=H/\σ=[!!a,!!t,!!p1,rK,rK,rK]) ?_ ?_
  ·rfl'
   exact#[_,ht,_,rfl,_,rfl,_,hX,a1]
  rintro σ H1 ⟨rfl,rfl⟩:_;right;refine zj (λσ H'=>H'=H1/\σ=[!!a,!!t,!!p1,!!p2,rK,rK]) ?_ ?_
  ·rfl'
   exact#[_,ht,_,rfl,_,rfl,_,hX,a2]
  rintro σ H2 ⟨rfl,rfl⟩:_;right;refine zj (λσ H'=>H'=H2/\σ=[!!a,!!t,!!p1,!!p2,-~~~k,rK]) ?_ ?_
  ·rfl'
   exact#[_,ht,rfl]
  rintro σ H3 ⟨rfl,rfl⟩:_;right;refine zj (λσ H'=>H'=H3/\σ=[!!a,!!t,!!p1,!!p2,-~~~k,rJ (.str (tx (yd r.1 r2.1 k)))]) ?_ ?_
  ·rfl'
   refine#[_,q1,_,rfl,_,q2,_,rfl,_,q1,_,rfl,_,#[by rw[zE];lia,rfl],#[by rw[zE];lia,_,rfl,_,rfl,?_,rfl,?_]]
   ·erw[zE,uU]
    have:=xR r2.1 (rJ ((r.1.length:Int) - (k:Int))) rK;lia
   ·rw[zE,uU,yA,yS _ ⋯,show ((r.1.length:Int) - (k:Int)).toNat=r.1.length - k by lia];rfl
  rintro σ H4 ⟨rfl,rfl⟩:_;have hw:=w8 r.1 r2.1 k hk;right
  rfl'
  exact#[_,q1,_,rfl,_,q1,_,rfl,XX ⋯ ⋯ ⋯ (qO _ _ _) #[_,q2,_,rfl,_,q2,_,rfl,XX ⋯ ⋯ ⋯ (qi hk hag) #[⋯,λp hp=>q p _ hp (zd hp) zc]]]
def FmOk(ps:List zp)(most:Int)(m:og->Option V):Prop:=∀k v,m k=rJ v->∃(w:()) (J:Nat),k=tx w/\v=.str (tx (wAt ps w J))/\qJ ps w J/\zA (wAt ps w J) ps=rK/\(J:Int)<=most
theorem FmOk.get{most:Int}{m:og->Option V}(h:FmOk ps most m){w:()}{v:V}(e:m (tx w)=rJ v){J:Nat}(hl:qJ ps w J)(hf:zA (wAt ps w J) ps=rK):v=.str (tx (wAt ps w J)):=by
 obtain⟨w',J',e1,e2,e3,e4,_⟩:=h _ _ e;have e5:=ub e1;subst e5;rw[e2,jN e3 e4 hl hf]
theorem FmOk.put{most:Int}{m:og->Option V}(h:FmOk ps most m){w:()}{J:Nat}(hl:qJ ps w J)(hf:zA (wAt ps w J) ps=rK)(hJ:(J:Int)<=most):FmOk ps most (λx=>if x=tx w then rJ (.str (tx (wAt ps w J)))else m x):=λk v e=>by
 by_cases hk:k=tx w
 ·erw[hk,if_true]at e
  cases e;exact#[w,J,hk,rfl,hl,hf,hJ]
 ·erw[hk,if_false]at e
  exact h k v e
def Z1(P:nZ)(w:oh)(K:nV)(CF:nW):Sp:=λvs H Q E=>∃(a F:nW) (l:()) (ps:List zp) (m:Int) (J n:Nat) (mp:og->Option V),vs=[.ref a,.str (tx l),.int m,.ref F]/\LsA K H a (ps.map dR)/\NeL ps/\ps.length<=100/\(∀p ∈ ps,p.1.length<=1000/\p.2.length<=1000)/\Rd ps l J/\H F=rJ (qC P w F mp n)/\FmOk ps m mp/\n<=10000 /\
 ((zA (wAt ps l J) ps=rK/\(J:Int)<=m/\∀(mp':og->Option V) (n':Nat) (H':Hp),SamT F H H'->H' F=rJ (qC P w F mp' n')->FmOk ps m mp'->n'<=n+1->Q (.str (tx (wAt ps l J))) H') \/
  (zA (wAt ps l J) ps≠rK/\(J:Int)=m/\∀H',Same H H'->E (.ref CF) rK H'))
theorem Xn:sQz 4 ["rules","word","most","forms"] uW:=by nofun
theorem Xl{f CF:nW}{iN:rh}(B:Bt mg)(F:("form_of"^^^uW))(mr:(4>>>"gone") ["rules","word","most"] [] (xV K CF))(DD_gone:(4>>>"gone") ["rules","word","most"] [.int 4000 iN] (xV K CF)):(5|||["rules","word","most","forms"]) (Z1 P w K CF):=by
 exists Fun.okX F Xn,0
 ·obtain⟨a,F0,l,ps,m,J,n,mp,rfl,hA,hN,hpl,hP,hR,hF,hM,hn,hq⟩:=h
  refine#[_,(zi (zZ (zG Qj (pv 1) (pv 3) (by with_unfolding_all rfl))
    (zh (zaR (zl ix_tup (clP hx mr hr .nil rfl (za (pv 0) (za (pv 1) (za (pv 2) zf)))) ze) (zbL (pv 3) (pv 1) Qo (by intro _;rfl))))
    zB)
   (zh (zt (zl JU (pv 3) (pv 1))))),?_]
  have s16:=yb;have s16:=yb;refine zj (λσ H'=>SamT F0 H H'/\zA (wAt ps l J) ps=rK/\(J:Int)<=m/\(∃(mp':og->Option V) (n':Nat),H' F0=rJ (qC P w F0 mp' n')/\FmOk ps m mp'/\n'<=n+1/\mp' (tx l)=rJ (.str (tx (wAt ps l J))))/\σ=[!!a,~~~l,~~~!m,!!F0]) ?_ ?_
  ·rfl'
   refine#[F0,mp,n,tx l,rfl,rfl,hF,_,rfl,yU (λhnone=>#[a,l,ps,m,J,rfl,hA,hN,hpl,hP,hR,?_]) λhsome=>?_]
   ·rcases hq with ⟨hf,hJ,_⟩ | h
    ·refine .inl #[hf,hJ,λp S H' s' hp _ _=>#[p,rfl,_,SqT.of hp,_,rfl,?_]]
     erw[zdu]
     rfl'
     exact#[F0,mp,n,tx l,rfl,rfl,s' _ _ hF,⋯,λb o hb e=>by rw[zq hb];exact s' _ _ e,hf,hJ,_,_,zc,hM.put hR.live hf hJ,al _,if_pos rfl]
    ·exact .inr h
   ·cases hv:mp (tx l)with
    | none=>rw[hv]at hsome;exact absurd rfl hsome
    | some v =>
     obtain⟨w',J',e1,e2,e3,e4,e5⟩:=hM _ _ hv;have e6:=ub e1;subst e6;rcases hq with ⟨hf,hJ,_⟩ | ⟨hf,hJ,_⟩
     ·exact#[λb o _ e=>e,hf,hJ,mp,n,hF,hM,⋯,by rw[hM.get hv hR.live hf]at hv;exact hv]
     ·exfalso;rcases eh J' J with h | h
      ·exact hR.live J' h e4
      ·have:J'=J:=⋯;subst this;exact hf e4
  rintro σ H1 ⟨s1,hf,hJ,⟨mp',n',h1,h2,h3,h4⟩,rfl⟩:_;right
  rfl'
  refine#[F0,mp',n',tx l,_,rfl,rfl,h1,h4,?_];rcases hq with ⟨_,_,q⟩ | ⟨h,_⟩
  ·exact q mp' n' H1 s1 h1 h2 h3
  ·exact absurd hf h
noncomputable def pkA(ps:List zp)(t:N3):():=yE (yd (lf ps t.1) (lf ps t.2.1) t.2.2) 0 (lf ps t.1) (ps.getD t.1 ([],[])).2
noncomputable def pkB(ps:List zp)(t:N3):():=yE (yd (lf ps t.1) (lf ps t.2.1) t.2.2) (t.2.2:Nat) (lf ps t.2.1) (ps.getD t.2.1 ([],[])).2
inductive zai(ps:List zp)(m:Int)(l:()):Option Nat->Prop where
 | yes {J:Nat} (h:Rd ps l J) (h1:zA (wAt ps l J) ps=rK) (h2:(J:Int)<=m):zai ps m l (rJ J)
 | no {J:Nat} (h:Rd ps l J) (h1:zA (wAt ps l J) ps≠rK) (h2:(J:Int)=m):zai ps m l rK
def jQ(P:nZ)(w:oh)(K:nV)(CF:nW):Sp:=λvs H Q E=>∃(a t F:nW) (ps:List zp) (tr:N3) (m:Int) (n:Nat) (mp:og->Option V) (g1 g2:Option Nat),vs=[.ref a,.ref t,.int m,.ref F]/\LsA K H a (ps.map dR)/\NeL ps/\jR ps/\SqT K H t [.int (tr.1:Nat),.int (tr.2.1:Nat),.int (tr.2.2:Nat)]/\tr ∈ ovA ps ps.length/\H F=rJ (qC P w F mp n)/\FmOk ps m mp/\n<=9000/\zai ps m (pkA ps tr) g1/\zai ps m (pkB ps tr) g2 /\
 (∀(J1 J2:Nat) (mp':og->Option V) (n':Nat) (H':Hp),g1=rJ J1->g2=rJ J2->SamT F H H'->H' F=rJ (qC P w F mp' n')->FmOk ps m mp'->n'<=n+2->Q (.bl (decide (wAt ps (pkA ps tr) J1=wAt ps (pkB ps tr) J2))) H') /\
 ((g1=rK\/g2=rK)->∀H',SamT F H H'->E (.ref CF) rK H')
theorem Yv{P:nZ}{w:oh}{CF a F:nW}{l:()}{m:Int}{n:Nat}{mp:og->Option V}{g:Option Nat}(hA:LsA K H a (ps.map dR))(hN:NeL ps)(hok:jR ps)(hF:H F=rJ (qC P w F mp n))(hM:FmOk ps m mp)(hn:n<=10000)(hg:zai ps m l g)
  (h1:∀(J:Nat) (mp':og->Option V) (n':Nat) (H':Hp),g=rJ J->SamT F H H'->H' F=rJ (qC P w F mp' n')->FmOk ps m mp'->n'<=n+1->Q (.str (tx (wAt ps l J))) H') (h2:g=rK->∀H',Same H H'->E (.ref CF) rK H'):Z1 P w K CF [.ref a,.str (tx l),.int m,.ref F] H Q E:=by
 have hP:∀p ∈ ps,p.1.length<=1000/\p.2.length<=1000:=λp hp=>by have:=hok.2 p hp;lia
 have hl:ps.length<=100:=by have:=hok.1;lia
 cases hg with
 | yes h e1 e2=>exact#[a,F,l,ps,m,_,n,mp,rfl,hA,hN,hl,hP,h,hF,hM,hn,.inl #[e1,e2,λmp' n' H' a1 a2 a3 a4=>h1 _ mp' n' H' rfl a1 a2 a3 a4]]
 | no h e1 e2=>exact#[a,F,l,ps,m,_,n,mp,rfl,hA,hN,hl,hP,h,hF,hM,hn,.inr #[e1,e2,h2 rfl]]
theorem qo{F t:nW}{H H':Hp}{P:nZ}{w:oh}{mp:og->Option V}{n:Nat}{xs:List V}(s:SamT F H H')(hF:H F=rJ (qC P w F mp n))(h:SqT K H t xs):SqT K H' t xs:=by
 rcases h with (h | ⟨o,h⟩) | h
 ·exact .inl (.inl (s _ _ (λz=>by rw[z,hF]at h;cases h) h))
 ·exact .inl (.inr #[o,s _ _ (λz=>by rw[z,hF]at h;cases h) h])
 ·exact .inr h
theorem Y6{F a:nW}{H H':Hp}{P:nZ}{w:oh}{mp:og->Option V}{n:Nat}(s:SamT F H H')(hF:H F=rJ (qC P w F mp n))(h:LsA K H a (ps.map dR)):LsA K H' a (ps.map dR):=by
 obtain⟨xs,h1,h2⟩:=h;refine#[xs,s _ _ (λz=>by rw[z,hF]at h1;cases h1) h1,?_]
 have key:∀(qs:List zp) (vs:List V),Iss K H (qs.map dR) vs->Iss K H' (qs.map dR) vs:=by
  intro qs
  induction qs with
  | nil=>intro vs h;erw[aF,Iss]at h ⊢;exact h
  | cons q qs ih =>
   intro vs h
   erw[am,Iss]at h ⊢
   obtain⟨v,r,e,h3,h4⟩:=h;obtain⟨p,rfl,h5⟩:=zbc h3;exact#[_,r,e,Xj (qo s hF h5),ih r h4]
 exact key ps xs h2
theorem iY:sQz 4 ["rules","overlap","most","forms","sides","one","other"] jk:=by nofun
theorem VQ{f CF:nW}(B:Bt mg)(F:("is_met"^^^jk))(mT:(4<<<"peak") ["rules","overlap"] [] (jV K))(mG:(5>>>"form_of") ["rules","word","most","forms"] [] (Z1 P w K CF)):(6|||["rules","overlap","most","forms"]) (jQ P w K CF):=by
 exists Fun.okX F iY,0
 ·obtain⟨a,t,F0,ps,tr,m,n,mp,g1,g2,rfl,hA,hN,hok,ht,htr,hF,hM,hn,hg1,hg2,q1,q2⟩:=h
  refine#[_,(zi (zy 4 iY.nd (cl0 mT hr .nil rfl (za (pv 0) (za (pv 1) zf))))
   (zi (zy 5 iY.nd (clP hx mG hr .nil rfl (za (pv 0) (za (zl ix_tup (pv 4) ze) (za (pv 2) (za (pv 3) zf))))))
   (zi (zy 6 iY.nd (clP hx mG hr .nil rfl (za (pv 0) (za (zl ix_tup (pv 4) ze) (za (pv 2) (za (pv 3) zf))))))
   (zh (zt (wu qA (pv 5) (pv 6) (zI _))))))),?_]
  have s16:=yb;have s16:=yb;obtain⟨i1,i2,i3,i4⟩:=qk htr;obtain⟨r,hr⟩:∃r,ps[tr.1]? = rJ r:=#[_,ae i1];obtain⟨r2,hr2⟩:∃r,ps[tr.2.1]? = rJ r:=#[_,ae i2];have l1:=xa hr;have l2:=xa hr2;have d1:ps.getD tr.1 ([],[])=r:=by rw[aa,hr];rfl
  have d2:ps.getD tr.2.1 ([],[])=r2:=by rw[aa,hr2];rfl
  have eA:pkA ps tr=yE (yd r.1 r2.1 tr.2.2) 0 r.1 r.2:=by unfold pkA;rw[l1,l2,d1]
  have eB:pkB ps tr=yE (yd r.1 r2.1 tr.2.2) (tr.2.2:Nat) r2.1 r2.2:=by unfold pkB;rw[l1,l2,d2]
  rw[l1]at i3;rw[l1,l2]at i4;refine zj (λσ H'=>Same H H'/\∃p:nW,(∃x,H' p=rJ (.tup [x,.str (tx (pkA ps tr)),.str (tx (pkB ps tr))]))/\σ=[!!a,!!t,~~~!m,!!F0,!!p,rK,rK]) ?_ ?_
  ·rfl'
   exact Y0 hA.is ht hok hr hr2 ⋯ i4 λp H' _ s' hp=>#[s',p,#[_,by rw[eA,eB];exact hp],rfl]
  rintro σ H1 ⟨s1,p,⟨x,hp⟩,rfl⟩:_;have hF1:=s1 _ _ hF;right;refine zj (λσ H'=>SamT F0 H1 H'/\∃(J1:Nat),g1=rJ J1/\(∃mp' n',H' F0=rJ (qC P w F0 mp' n')/\FmOk ps m mp'/\n'<=n+1)/\σ=[!!a,!!t,~~~!m,!!F0,!!p,rJ (.str (tx (wAt ps (pkA ps tr) J1))),rK]) ?_ ?_
  ·rfl'
   refine#[_,SqT.of hp,_,rfl,Yv (hA.same s1) hN hok hF1 hM ⋯ hg1 (λJ mp' n' H' e a1 a2 a3 a4=>?_) λe H' s'=>q2 (.inl e) H' (SamT.of (s1.trans s'))];exact#[a1,J,e,#[mp',n',a2,a3,a4],rfl]
  rintro σ H2 ⟨s2,J1,e1,⟨mp1,n1,hF2,hM2,hn2⟩,rfl⟩:_;have s12:SamT F0 H H2:=(SamT.of s1).trans s2;have hpF:p≠F0:=λz=>by rw[z,hF1]at hp;cases hp
  right;refine zj (λσ H'=>SamT F0 H2 H'/\∃(J2:Nat),g2=rJ J2/\(∃mp' n',H' F0=rJ (qC P w F0 mp' n')/\FmOk ps m mp'/\n'<=n+2)/\σ=[!!a,!!t,~~~!m,!!F0,!!p,rJ (.str (tx (wAt ps (pkA ps tr) J1))),rJ (.str (tx (wAt ps (pkB ps tr) J2)))]) ?_ ?_
  ·rfl'
   exact#[_,SqT.of (s2 _ _ hpF hp),_,rfl,Yv (Y6 s2 hF1 (hA.same s1)) hN hok hF2 hM2 ⋯ hg2 (λJ mp' n' H' e a1 a2 a3 a4=>#[a1,J,e,#[mp',n',a2,a3,⋯],rfl]) λe H' s'=>q2 (.inr e) H' (s12.trans (SamT.of s'))]
  rintro σ H3 ⟨s3,J2,e2,⟨mp2,n2,hF3,hM3,hn3⟩,rfl⟩:_;right
  rfl'
  exact q1 J1 J2 mp2 n2 H3 e1 e2 (s12.trans s3) hF3 hM3 hn3
def jl(K:nV)(CH:nW):Sp:=λvs H Q _=>∃(y o q:nW) (ps:List zp),vs=[.ref y]/\Ux K CH H y o q ps/\∀(r:nW) (H':Hp),Same H H'->LsA K H' r (ps.map dR)->H r=rK->Q (.ref r) H'
theorem wE:sQz 1 ["self"] yl:=by nofun
theorem wF{f CH:nW}(B:Bt mg)(TS:zbI K mg CH)(F:Fun K "rules_told" "System.rules_told" yl f fd) :(1&&&["self"]) (jl K CH):=by
 exists F.ok wE
 ·obtain⟨y,o,q,ps,rfl,hy,k⟩:=h;refine#[_,(zh (zt (vk xX rfl B.list PySem.Pv.boot_list (za (QT (pv 0) rfl) zf)))),?_];have s16:=yb
  rfl'
  obtain⟨dx,xs,h1,h2,h3⟩:=hy;exact#[_,_,_,h1,TS.cl,TS.nr,_,rfl,_,rfl,_,.inl (SqL.of h2),λr hr'=>k r _ (zd hr') #[xs,zc,Iss.same (zd hr') _ _ h3] hr']
noncomputable def goJ(ps:List zp)(m:Nat)(v:()):Option Nat:=(aR (m+1)).find? λj=>(zA (wAt ps v j) ps).isNone
theorem Yl{m:Nat}{v:()}{i:Nat}(e:goJ ps m v=rJ i):i<=m/\qJ ps v i/\zA (wAt ps v i) ps=rK:=by
 unfold goJ at e;have h1:=dJ e;have h2:zA (wAt ps v i) ps=rK:=Option.isNone_iff_eq_none.mp h1;have hm:=rW.mp (ee e);refine#[⋯,λn hn hno=>?_,h2];obtain⟨_,as,bs,e2,h3⟩:=List.find?_eq_some_iff_append.mp e
 have hlen:as.length=i:=by
  have:=congrArg (λl=>l[as.length]?) e2
  erw[cw (al _),Nat.sub_self,cD]at this
  obtain⟨h7,h8⟩:=rQ.mp this;rw[fG]at h8;exact h8
 have h9:(aR (m+1))[n]? = as[n]?:=by rw[e2,dc ⋯]
 have h10:n<(aR (m+1)).length:=by rw[dn];lia
 rw[ae h10,fG]at h9;have:=h3 n (af h9.symm);rw[hno]at this;cases this
theorem YK{m:Nat}{v:()}(e:goJ ps m v=rK):∀j,j<=m->zA (wAt ps v j) ps≠rK:=λj hj hno=>by
 unfold goJ at e;have:=sA.mp e j (rW.mpr ⋯);rw[hno]at this;exact this rfl
theorem W4{m:Nat}{v:()}(hl:∀j,j<=m->(wAt ps v j).length<=10000)(hm:m<=10000):zai ps (m:Int) v (goJ ps m v):=by
 cases e:goJ ps m v with
 | some i =>
  obtain⟨h1,h2,h3⟩:=Yl e;exact .yes #[h2,λj hj=>hl j ⋯,⋯] h3 ⋯
 | none =>
  have h:=YK e;exact .no (J:=m) #[λi hi=>h i ⋯,λj hj=>hl j hj,hm] (h m (al _)) rfl
noncomputable def zca(ps:List zp)(m:Nat)(v:()):():=wAt ps v ((goJ ps m v).getD 0)
noncomputable def ZI(ps:List zp)(m:Nat)(t:N3):Bool:=decide (zca ps m (pkA ps t)=zca ps m (pkB ps t))
def OkG(ps:List zp)(m:Nat)(t:N3):Prop:=(goJ ps m (pkA ps t)).isSome=rL/\(goJ ps m (pkB ps t)).isSome=rL
def zdA(ps:List zp)(m:Nat):Prop:=m<=10000/\∀t ∈ ovA ps ps.length,(∀j,j<=m->(wAt ps (pkA ps t) j).length<=10000)/\∀j,j<=m->(wAt ps (pkB ps t) j).length<=10000
theorem JR{t:N3}{m J1 J2:Nat}(e1:goJ ps m (pkA ps t)=rJ J1)(e2:goJ ps m (pkB ps t)=rJ J2):decide (wAt ps (pkA ps t) J1=wAt ps (pkB ps t) J2)=ZI ps m t:=by
 unfold ZI zca;rw[e1,e2];rfl
theorem zbm{m:Nat}{t:N3}(h:goJ ps m (pkA ps t)=rK\/goJ ps m (pkB ps t)=rK):¬ OkG ps m t:=λho=>by
 obtain⟨h1,h2⟩:=ho;rcases h with h | h
 ·rw[h]at h1;cases h1
 ·rw[h]at h2;cases h2
theorem FmOk.nil{m:Int}:FmOk ps m λ_=>rK:=λk v e=>by cases e
theorem kh{F:nW}{H H':Hp}{P:nZ}{w:oh}{mp:og->Option V}{n:Nat}(s:SamT F H H')(hF:H F=rJ (qC P w F mp n)):∀{ts:List N3} {vs:List V},Iss K H (ts.map d3) vs->Iss K H' (ts.map d3) vs
 | [],vs,h=>by erw[aF,Iss]at h ⊢;exact h
 | t::ts,vs,h=>by
  erw[am,Iss]at h ⊢
  obtain⟨v,r,e,h3,h4⟩:=h;refine#[v,r,e,?_,kh s hF h4]
  erw[d3,Is]at h3 ⊢
  obtain⟨a,xs,e1,e2,e3⟩:=h3;refine#[a,xs,e1,qo s hF e2,?_]
  erw[Iss,Is]at e3 ⊢
  exact e3
noncomputable def unG(ps:List zp)(m:Nat):List N3:=(ovA ps ps.length).filter λt=>!ZI ps m t
def vt(K:nV)(CH CF:nW):Sp:=λvs H Q E=>∃(y o q:nW) (ps:List zp) (m:Nat),vs=[.ref y,.int (m:Nat)]/\Ux K CH H y o q ps/\NeL ps/\jR ps/\(ovA ps ps.length).length<=4000/\zdA ps m /\
 ((∀t ∈ ovA ps ps.length,OkG ps m t)->∀D H',Same H H'->H D=rK->LsA K H' D ((unG ps m).map d3)->Q (.ref D) H')/\(∀t ∈ ovA ps ps.length,¬ OkG ps m t->∀H',Same H H'->E (.ref CF) rK H')
theorem ml:sQz 2 ["system","most","rules","forms"] xw:=by nofun
theorem Uy{f CF CH:nW}{dV:nX}(B:Bt mg)(TS:zbI K mg CH)(F:FunD K "unmet" "unmet" xw dV f fd)(ni:(2<<<"overlaps") ["rules"] [] (wN K))(nw:(6>>>"is_met") ["rules","overlap","most","forms"] [] (jQ P w K CF))(M_system_rules_told:DM P w K mg base CX0 1 CH "rules_told" ["self"] (jl K CH)):(7|||["system","most"]) (vt K CH CF):=by
 exists FunD.okX F ml,0
 ·obtain⟨y,o,q,ps,m,rfl,hy,hN,hok,hlen,hE,k1,k2⟩:=h
  refine#[_,(zi (xO (i:=2) ml.nd rfl (Or.inr rfl) (me0 M_system_rules_told TS.cl hr (pv 0)))
   (zi (xO (i:=3) ml.nd rfl (Or.inr rfl) JM)
   (zh (zt (kX (EX:=E) (own:=["overlap"]) (caps:=["rules","most","forms"]) (ix:=[2,1,3]) (tt:=(zan (tBl (uO (jQ P w K CF) [] E (zL (z9 1) (zL (z9 0) (zL (z9 2) (zL (z9 3) xH)))))))) (te:=(z9 0)) rfl (zQ (sc:=zg xw) rfl (by symm) (by symm) (by symm) rfl (by symm) (by symm) rfl) #[rfl,rfl] hx (yi (cl0 ni hr .nil rfl (za (pv 2) zf))) (λ_ _ _ _ _ _=>zv (i:=0) (show List.Nodup [_,_,_,_] by decide) rfl (.inl rfl)) (λ_ _ _ _ _ _ _ hx'=>(Vn (yo (yM (clP hx' nw hr .nil rfl (za (pv 1) (za (pv 0) (za (pv 2) (za (pv 3) zf))))) (λ_=>rfl))))) (λ_ _ _ _ _ _ _ _=>(pv 0))))))),?_]
  have s16:=yb;have s16:=yb;obtain⟨dx,xs0,h1,h2,h3⟩:=id hy;refine zj (λσ H'=>Same H H'/\∃r:nW,LsA K H' r (ps.map dR)/\σ=[!!y,-~~~m,!!r,rK]) ?_ ?_
  ·rfl'
   exact#[_,_,h1,rfl,y,o,q,ps,rfl,hy,λr H1 s1 hA hr'=>#[s1,r,hA,rfl]]
  rintro σ H1 ⟨s1,r,hA,rfl⟩:_;right;refine zj (λσ H'=>Same H H'/\LsA K H' r (ps.map dR)/\∃F:nW,H F=rK/\H' F=rJ (qC P w F (λ_=>rK) 0)/\σ=[!!y,-~~~m,!!r,!!F]) ?_ ?_
  ·rfl'
   erw[zbs]
   intro F hF;have s2:=zd (o:=qC P w F (λ_=>rK) 0) hF
   rfl'
   exact#[s1.trans s2,hA.same s2,F,s1.free hF,zc,rfl]
  rintro σ H2 ⟨s2,hA2,F,hF0,hF,rfl⟩:_;right
  rfl'
  refine Zo hA2.is hok λO H3 hO s3 hL=>#[O,rfl,?_,λD hD=>?_]
  ·obtain⟨xs,hX,_⟩:=hL;exact#[_,SqL.of hX]
  obtain⟨xs,hX,hI⟩:=hL;have hxl:=hI.len;rw[ac]at hxl;have hF3:=s3 _ _ hF;have s03:=s2.trans s3;have hDF:D≠F:=λz=>by rw[z,hF3]at hD;cases hD
  have hOF:O≠F:=λz=>by rw[z,hF3]at hX;cases hX
  have back:∀{G:Hp},SamT F H3 G->Same H G:=λ{G} sT b o' e=>sT b o' (λz=>by rw[z,hF0]at e;cases e) (s03 b o' e);refine CompL.by (xs:=xs) (λi rP H'=>SamT F H3 H'/\H' D=rJ (.lst rP)/\(∃(mp:og->Option V) (n:Nat),H' F=rJ (qC P w F mp n)/\FmOk ps (m:Nat) mp/\n<=2 * i)/\Iss K H3 ((((ovA ps ps.length).take i).filter λt=>!ZI ps m t).map d3) rP/\∀t ∈ (ovA ps ps.length).take i,OkG ps m t) #[SamT.of (zd hD),zc,#[_,0,by rw[zq (λz=>hDF z.symm)];exact hF3,FmOk.nil,⋯],by erw[bc,df,aF,Iss],λt ht=>by simp at ht] (λi rP H' _ h=>SqL.of (h.1 _ _ hOF hX)) ?_ ?_
  ·refine nm4 ?_;rintro i x rP H' hx ⟨sT,hH,⟨mp,n,hFm,hM,hn⟩,hI',hle⟩:_;have hil:=(rQ.mp hx).1;obtain⟨t,p,ht,rfl,hp⟩:=hI.get3 hx;have htm:=af ht;have hE':=hE.2 t htm
   have hal:rP.length<=i:=by
    have:=hI'.len;rw[ac]at this;have h5:=cM (λt=>!ZI ps m t) ((ovA ps ps.length).take i);rw[aC]at h5;lia
   right
   erw[zan,tBl]
   rfl'
   refine#[yP,r,p,F,ps,t,(m:Nat),n,mp,_,_,rfl,Y6 sT hF3 (hA2.same s3),hN,hok,qo sT hF3 hp,htm,hFm,hM,⋯,W4 hE'.1 hE.1,W4 hE'.2 hE.1,λJ1 J2 mp' n' H5 e1 e2 s5 hF5 hM5 hn5=>?_,λh H5 s5=>k2 t htm (zbm h) H5 (back (sT.trans s5))]
   have hle':∀t' ∈ (ovA ps ps.length).take (i+1),OkG ps m t':=λt' ht'=>by
    rw[zJ ht]at ht';rcases rT.mp ht' with h | h
    ·exact hle t' h
    ·rw[rV.mp h];exact#[by rw[e1];rfl,by rw[e2];rfl]
   rw[JR e1 e2]
   have hcase:∀b,ZI ps m t=b->(!b)=rL->Iss K H3 ((((ovA ps ps.length).take (i+1)).filter λt=>!ZI ps m t).map d3) (rP ++ [.ref p]):=λb hb hb'=>by
    rw[zJ ht,cH,ao];refine Iss.append hI' ?_;rw[eK,hb,if_pos hb']
    erw[df,am,aF,Iss]
    refine#[_,[],rfl,?_,rfl]
    erw[d3,Is,Iss]
    exact#[p,_,rfl,hp,_,_,rfl,rfl,_,_,rfl,rfl,_,_,rfl,rfl,rfl]
   refine#[_,rfl,?_]
   cases hb:ZI ps m t with
   | false =>
    rw[if_pos rfl];refine#[s5 _ _ hDF hH,⋯,CNx.mk hil #[λb o' hbF e=>?_,zc,#[mp',n',by rw[zq (λz=>hDF z.symm)];exact hF5,hM5,⋯],hcase _ hb rfl,hle']];rw[zq (λz=>by rw[z,hD]at e;cases e)];exact s5 b o' hbF (sT b o' hbF e)
   | true =>
    rw[if_neg ∅];refine CNx.mk hil #[sT.trans s5,s5 _ _ hDF hH,#[mp',n',hF5,hM5,⋯],?_,hle'];rw[zJ ht,cH,eK,hb]
    erw[fo,aU,if_false,df,aQ]
    exact hI'
  ·rintro rP H' ⟨sT,hH,_,hI',hle⟩;rw[hxl,aG]at hI' hle;exact k1 hle D H' (back sT) (s03.free hD) #[rP,hH,kh sT hF3 hI']
theorem U9{p:nW}{a b:V}{i j:Nat}{σ:L2.St}{R:L2.St->Hp->Prop}(h:SqT K H p [a,b])(k:R ((σ.set i (rJ a)).set j (rJ b)) H):JD K 2 (qH (yK i) (qH (yK j) K9)) (.ref p) σ H R:=by
 erw[JD,qH,yK,K9]
 first
 | exact⟨_,_,rfl,h,rfl,_,_,rfl,_,_,rfl,rfl,k⟩
 | exact⟨_,_,rfl,.inr h,rfl,_,_,rfl,_,_,rfl,rfl,k⟩
theorem EnsA.app{fs:List Ent}{us:List V}(hf:EnsA K H fs us):∀{es:List Ent} {vs:List V},EnsA K H es vs->EnsA K H (es ++ fs) (vs ++ us)
 | [],vs,h=>by
  erw[EnsA]at h
  subst h;exact hf
 | e::es,vs,h=>by
  erw[EnsA]at h
  obtain⟨x,r,rfl,hx,hr⟩:=h
  erw[bo,EnsA]
  exact#[x,r ++ us,rfl,hx,hf.app hr]
abbrev MkS(P:nZ)(w:oh)(K:nV)(mg:og->Option nX)(base:oo)(CO CR CW CT CH:nW):Prop:=DMk P w K mg base (CXx P w) 5 CH ["self","order","rules"] (uo K CO CR CW CT CH)
theorem JS{Q:nW->Hp->Prop}{CO CR CW CT CH o a:nW}{l:()}(ho:OrdAt CO CR CW H o k l ns)(hG:OG l ns k)(hA:LsA K H a (ps.map dR))(hin:InL l ps)(hf:xT k l ns ps 0=rK)(q:∀(y qa:nW) (H':Hp),Same H H'->Ux K CH H' y o qa ps->Q y H'):∀x dx,H x=rK->H dx=rK->dx≠x->uo K CO CR CW CT CH [.ref x,.ref o,.ref a] (upd (upd H dx (.own x)) x (.ins CH dx [])) (λv H'=>v=.non/\Q x H') E0:=by
 intro x dx hx hdx hne;obtain⟨xs,hX,hI⟩:=hA;have sd:=zd (o:=.own x) hdx
 have k1:Same H (upd (upd H dx (.own x)) x (.ins CH dx [])):=λb' o' e=>by
  rw[zq (zH e hx)];exact sd _ _ e
 refine#[x,dx,o,a,k,l,ns,ps,xs,rfl,zc,ho.same k1,hG,k1 _ _ hX,Iss.same k1 _ _ hI,hin,(λi e=>by rw[hf]at e;cases e),λ_ q1 H'' kp hx' hq' hqn=>#[rfl,?_]];have k3:Same H H'':=λb' o' e=>kp b' o' (λz=>by rw[z,hx]at e;cases e) (k1 _ _ e);exact q x q1 H'' k3 #[dx,xs,hx',hq',Iss.same k3 _ _ hI]
theorem BG.inL{l:()}(h:BG k l ns bs):InL l (zb bs):=λp hp=>by
 obtain⟨e,he,rfl⟩:=rR.mp hp;have b:=h.e e he;exact#[aM b.a ∅,aM b.b ∅,b.ma,b.mb]
theorem BG.fault{l:()}(h:BG k l ns bs):xT k l ns (zb bs) 0=rK:=vC λm p e=>by
 obtain⟨e',he,rfl⟩:=rR.mp (af e);exact h.lt e' he
def Yt(K:nV)(CO CR CW CH:nW):Sp:=λvs H Q _=>∃(o a:nW) (k:Nat) (l:()) (ns:List Int) (bs:List Ent),vs=[.ref o,.ref a]/\OrdAt CO CR CW H o k l ns/\OG l ns k/\EnsL K H a bs/\BG k l ns bs/\∀(y qa:nW) (H':Hp),Same H H'->Ux K CH H' y o qa (zb bs)->Q (.ref y) H'
theorem kT:sQz 2 ["order","entries"] wP:=by nofun
theorem kD{f CO CR CW CT CH:nW}(B:Bt mg)(TS:zbI K mg CH)(MS:MkS P w K mg base CO CR CW CT CH)(F:("system_by"^^^wP))(gr:(1<<<"pairs_of") ["entries"] [] (wD K)):(7&&&["order","entries"]) (Yt K CO CR CW CH):=by
 exists F.ok kT
 ·obtain⟨o,a,k,l,ns,bs,rfl,ho,hG,hA,hB,q⟩:=h;refine#[_,(zh (zt (zdW xe0 MS hr rfl TS.g (za (pv 0) (za (cl0 gr hr .nil rfl (za (pv 1) zf)) zf))))),?_];have s16:=yb;ac_rfl;refine xY hA.is (by have:=hB.n;lia) λD H' _ s' hL=>?_;exact JS (ho.same s') hG hL hB.inL hB.fault λy qa H'' s'' hy=>q y qa H'' (s'.trans s'') hy
noncomputable def fE(i:Nat)(p:zp):Ent:=(p.1,p.2,[((i:Int),(0:Int),rL)])
noncomputable def fEs(rs:List zp):Nat->List Ent
 | 0=>[]
 | n+1=>fEs rs n ++ ((rs[n]?).map (fE n)).toList
theorem Uf{n:Nat}{p:zp}(h:rs[n]? = rJ p):fEs rs (n+1)=fEs rs n ++ [fE n p]:=by
 show fEs rs n ++ ((rs[n]?).map (fE n)).toList=_;rw[h];rfl
theorem W8(rs:List zp):∀n,(fEs rs n).length<=n
 | 0=>al _
 | n+1=>by
  have:=W8 rs n;show (fEs rs n ++ ((rs[n]?).map (fE n)).toList).length<=_;rw[aj]
  cases rs[n]? with
  | none=>simp;lia
  | some p=>simp;lia
theorem qz:∀{n:Nat} {e:Ent},e ∈ fEs rs n->∃i p,i<n/\rs[i]? = rJ p/\e=fE i p
 | 0,e,h=>(nomatch h)
 | n+1,e,h=>by
  have h':e ∈ fEs rs n ++ ((rs[n]?).map (fE n)).toList:=h;rcases rT.mp h' with h | h
  ·obtain⟨i,p,hi,hp,he⟩:=qz h;exact#[i,p,⋯,hp,he]
  ·cases hn:rs[n]? with
   | none=>rw[hn]at h;simp at h
   | some p =>
    rw[hn]at h;exact#[n,p,⋯,hn,by simpa using h]
def Ym(K:nV):Sp:=λvs H Q _=>∃(a:nW) (rs:List zp),vs=[.ref a]/\LsA K H a (rs.map dR)/\rs.length<=20/\∀(D:nW) (H':Hp),Same H H'->H D=rK->EnsM K H' D (fEs rs rs.length)->Q (.ref D) H'
theorem ug:sQz 1 ["pacts"] yv:=by nofun
theorem ue(B:Bt mg)(F:("first_entries"^^^yv)) :(1&&&["pacts"]) (Ym K):=by
 exists F.ok ug
 ·obtain⟨a,rs,rfl,hA,hrl,q⟩:=h;refine#[_,(zh (zt (yJ (g:=JD K 2 (qH (yK 0) (qH (yK 1) K9))) (own:=["number","pact"]) (caps:=[]) (ix:=[]) (tt:=xQ) (te:=(XQ (zL (tOp (wM K) (z9 1) (tC (.int 0))) (zL (tOp (wM K) (z9 1) (tC (.int 1))) (zL (zaq (zL (XQ (zL (z9 0) (zL (tC (.int 0)) (zL (tC (.bl rL)) xH)))) xH)) xH))))) rfl (zQ (sc:=zg yv) rfl (by symm) (by symm) (by symm) rfl (by symm) (by symm) rfl) (yQ rfl B.enum (za (pv 0) zf)) (λ_ _ _ _ _ _=>vn (n:=2) rfl (zV (zv (i:=0) (show List.Nodup [_,_] by decide) rfl (.inl rfl)) (zV (zv (i:=1) (show List.Nodup [_,_] by decide) rfl (.inl rfl)) xM))) (λ_ _ _ _ _ _=>yh) (λ_ _ _ _ _ _=>(z5 (za (zl ix_tup (pv 1) ze) (za (zl ix_tup (pv 1) ze) (za (vR (za (z5 (za (pv 0) (za ze (za yT zf)))) zf)) zf)))))))),?_];have s16:=yb;have s16:=yb;obtain⟨xs,hX,hI⟩:=id hA;have hxl:=hI.len;rw[ac]at hxl;ac_rfl;rw[QO];ac_rfl;refine#[#[_,SqL.of hX],λD hD=>CompEL.by (xs:=xs) (λi rP H'=>Same H H'/\H' D=rJ (.lst rP)/\rP.length<=i/\EnsA K (qE D H') (fEs rs i) rP) #[zd hD,zc,al _,rfl] (λi rP H' _ h=>SqL.of (h.1 _ _ hX)) ?_ ?_]
  ·rintro i x rP H' p hx ⟨hs,hH,hal,hEn⟩ hp;have hil:=(rQ.mp hx).1;obtain⟨r,pr,hri,rfl,hqr⟩:=hI.getR hx;have u1:=zd (o:=HO.tup [.int (i:Nat),.ref pr]) hp;have hq:=zk (hs.trans u1) hqr;refine U9 (SqT.of zc) ?_
   erw[xQ]
   rfl'
   refine#[Jp,_,hq,_,rfl,_,hq,_,rfl,⋯,λp1 hp1=>#[⋯,λp2 hp2=>#[⋯,λp3 hp3=>?_]]];have u2:=zd (o:=HO.tup [.int (i:Nat),.int 0,.bl rL]) hp1;have u3:=zd (o:=HO.lst [.ref p1]) hp2;have u4:=zd (o:=HO.tup [.str (tx r.1),.str (tx r.2),.ref p2]) hp3;have u:=u1.trans (u2.trans (u3.trans u4));have hD4:=u _ _ hH;have hp2D:p2≠D:=λz=>by rw[z,u2 _ _ (u1 _ _ hH)]at hp2;cases hp2
   refine#[hD4,⋯,CNx.mk hil #[zD (hs.trans u) hD,zc,by rw[aj];erw[aJ,bS];lia,?_]];rw[Uf hri];refine (hEn.same ((wc u).trans xf)).snoc (EnA.same ?_ xf);refine EnA.new (e:=fE i r) hD4 zc #[_,u4 _ _ zc,?_] hp2D;show Iss K _ [dSt ((i:Int),(0:Int),rL)] _;exact Kn (YW (SqT.of (u4 _ _ (u3 _ _ zc))))
  ·rintro rP H' ⟨hs,hH,hal,hEn⟩;rw[hxl]at hEn;exact q D H' hs hD #[rP,hH,hEn.same xZ]
noncomputable def uY(es:List Ent):Bool:=decide (12<es.length) || es.any λe=>decide (10<max e.1.length e.2.1.length)
structure TMc(mg:og->Option nX):Prop where
 u:∃t,mg "MOST_USES_completing" = rJ (.int 40 t)
 e:∃t,mg "MOST_ENTRIES" = rJ (.int 12 t)
 d:∃t,mg "MOST_SIDE_completing" = rJ (.int 10 t)
 p:∃t,mg "MOST_PEAKS" = rJ (.int 8 t)
def kn(K:nV):Sp:=λvs H Q _=>∃(a:nW) (es:List Ent),vs=[.ref a]/\EnsL K H a es/\es.length<64/\(∀e ∈ es,e.1.length<=10000/\e.2.1.length<=10000)/\∀H',Same H H'->Q (.bl (uY es)) H'
theorem Zd:sQz 1 ["entries"] xK:=by nofun
theorem kB(B:Bt mg)(hany:zd2 mg)(TM:TMc mg)(F:("is_beyond"^^^xK)) :(1&&&["entries"]) (kn K):=by
 obtain⟨⟨t9,g9⟩,⟨t8,g8⟩⟩:=And.intro TM.e TM.d
 exists F.ok Zd
 ·obtain⟨a,es,rfl,hA,hl,hE,q⟩:=h
  refine#[_,(zi (zZ (zG Vu (zF B.len (pv 0)) (y9 (v:=.int 12) rfl g9 #[t9,rfl]) (zI _))
    (zh (zt yT))
    zB)
   (zh (zt (yw (zcy rfl) rfl hany PyProof.Rows.boot_any (za (yJ (own:=["entry"]) (caps:=[]) (ix:=[]) (tt:=xQ) (te:=(tOp zcb (tCB UL (zL (tCB (XS K) (zL (tOp (wM K) (z9 0) (tC (.int 0))) xH)) (zL (tCB (XS K) (zL (tOp (wM K) (z9 0) (tC (.int 1))) xH)) xH))) (tC (.int 10)))) rfl (zQ (sc:=zg xK) rfl (by symm) (by symm) (by symm) rfl (by symm) (by symm) rfl) (yi (pv 0)) (λ_ _ _ _ _ _=>zv (i:=0) (show List.Nodup [_] by decide) rfl (.inl rfl)) (λ_ _ _ _ _ _=>yh) (λ_ _ _ _ _ _=>(wu Vu (yw (Yg rfl) rfl B.max w6 (za (zF B.len (zl ix_tup (pv 0) ze)) (za (zF B.len (zl ix_tup (pv 0) ze)) zf))) (y9 (v:=.int 10) rfl g8 #[t8,rfl]) (zI _)))) zf))))),?_]
  have s16:=yb;have s16:=yb;obtain⟨xs,hX,hEn⟩:=id hA;have hxl:=hEn.len;refine zj (λσ H'=>H'=H/\¬ 12<es.length/\σ=[!!a]) ?_ ?_
  ·ac_rfl;refine#[_,.inl #[_,hX,rfl],yU (λh=>?_) λh=>by lia]
   have e:uY es=rL:=by
    unfold uY;rw[decide_eq_true ⋯,Bool.true_or]
   rw[<- e];exact q H (Same.refl _)
  rintro σ H1 ⟨rfl,h12,rfl⟩:_;right;ac_rfl;refine#[#[_,hX],λD hD=>CompL.by (xs:=xs) (λi rP H'=>Same H1 H'/\H' D=rJ (.lst rP)/\rP=((es.take i).map λe=>decide (10<max e.1.length e.2.1.length)).map V.bl) #[zd hD,zc,rfl] (λi rP H' _ h=>h.1.seq hX) ?_ ?_]
  ·refine nm4 ?_;rintro i x rP H' hx ⟨hs,hH,rfl⟩:_;have hil:=(rQ.mp hx).1;obtain⟨e,p,s,he,rfl,hp,_⟩:=hEn.get hx;have hq:=zk hs hp;have hb:=hE e (af he);right
   erw[xQ]
   rfl'
   refine#[yP,_,hq,_,rfl,_,#[by rw[zE];lia,rfl],_,hq,_,rfl,_,#[by rw[zE];lia,rfl],hH,by rw[ac,ac,aC];lia,CNx.mk hil #[zD hs hD,zc,?_]];rw[zJ he,ao,ao,zE,zE];congr 1;show [V.bl _]=[V.bl _];congr 2;refine decide_eq_decide.mpr ?_;split <;> lia
  ·rintro rP H' ⟨hs,hH,rfl⟩;rw[hxl,aG]at hH;refine#[D,_,rfl,SqL.of hH,?_]
   have e:(es.map λe=>decide (10<max e.1.length e.2.1.length)).any id=uY es:=by
    unfold uY;rw[decide_eq_false h12,Bool.false_or,List.any_map];rfl
   rw[e];exact q H' hs
theorem jf(h:uY es=rM):es.length<=12/\∀e ∈ es,e.1.length<=10/\e.2.1.length<=10:=by
 unfold uY at h;rw[Bool.or_eq_false_iff]at h;refine#[by have:=of_decide_eq_false h.1;lia,λe he=>?_];have:=List.any_eq_false.mp h.2 e he;have h2:¬ 10<max e.1.length e.2.1.length:=λz=>this (decide_eq_true z);lia
def QH(K:nV)(CO CR CW T:nW):Sp:=λvs H Q _=>∃(o a:nW) (k:Nat) (l:()) (ns:List Int) (es:List Ent),vs=[.ref o,.ref a]/\OrdAt CO CR CW H o k l ns/\OG l ns k/\EnsL K H a es/\es.length<64/\(∀e ∈ es,EB l e)/\TabOk H T lp lq /\
 (∀(bs:List Ent) (D:nW) (H':Hp),vz k l ns 20 es (rJ bs)->BG k l ns bs->uY bs=rM->SamT T H H'->TabOk H' T lp lq->EnsM K H' D bs->Q (.ref D) H')/\((vz k l ns 20 es rK\/∃bs,vz k l ns 20 es (rJ bs)/\uY bs=rL)->∀H',SamT T H H'->TabOk H' T lp lq->Q .non H')
structure zdC(K:nV)(CF:nW):Prop where
 s:cS K (.ref CF) (.ref CF)=rJ rL
theorem iK:sQz 2 ["order","entries","slim"] yL:=by nofun
theorem vQ{f CO CR CW TB CF:nW}(B:Bt mg)(TFx:zap K mg CF)(TSb:zdC K CF)(F:("thinned_within"^^^yL))(nk:(7>>>"thinned") ["order","entries"] [] (Wz K CO CR CW TB CF))(mY:(1<<<"is_beyond") ["entries"] [] (kn K)):(8&&&["order","entries"]) (QH K CO CR CW TB):=by
 exists F.ok iK
 ·obtain⟨o,a,k,l,ns,es,rfl,ho,hG,hA,hz,hE,hTab,q1,q2⟩:=h
  refine#[_,(zi (UW (i:=2) (th:=(zal (tC .non))) iK.nd rfl (.inl rfl) (.inl rfl) #[rfl,rfl] (clX nk hr .nil rfl (za (pv 0) (za (pv 1) zf))) rfl TFx.g TFx.xi.ok (λe=>(zh (zt xA))))
   (zh (zt (ux (yM (cl0 mY hr .nil rfl (za (pv 2) zf)) (λ_=>rfl)) xA (pv 2))))),?_]
  have s16:=yb;have s16:=yb;refine zj (λσ H'=>SamT TB H H'/\TabOk H' TB lp lq/\∃(bs:List Ent) (D:nW),vz k l ns 20 es (rJ bs)/\BG k l ns bs/\EnsM K H' D bs/\σ=[!!o,!!a,!!D]) ?_ ?_
  ·erw[Q8]
   ac_rfl;exact#[o,a,k,l,ns,es,rfl,ho,hG,hA,hz,hE,hTab,λbs D H' h1 h2 h3 h4 h5=>#[h3,h4,bs,h1,h2,D,h5,rfl],λh H' h3 h4=>#[CF,rfl,TSb.s,λx hx=>q2 (.inl h) _ (h3.trans (SamT.of (zd hx))) (h4.same (zd hx))]]
  rintro σ H1 ⟨s1,hT1,bs,D,hTh,hB,hM,rfl⟩:_;right;ac_rfl;exact#[D,bs,rfl,hM.l,hB.n,λe he=>#[aM (hB.e e he).a ∅,aM (hB.e e he).b ∅],λH' s'=>#[_,rfl,yU (λh=>q2 (.inr #[bs,hTh,h]) H' (s1.trans (SamT.of s')) (hT1.same s')) λh=>q1 bs D H' hTh hB (by simpa using h) (s1.trans (SamT.of s')) (hT1.same s') (hM.same s')]]
theorem uj(w:())(k:Int)(o n:()):(yE w k o n).length<=w.length+n.length:=by
 unfold yE;rw[aj,aj,aC,aL];lia
theorem BG.ok{l:()}(h:BG k l ns bs)(hl:bs.length<=30):jR (zb bs):=by
 refine#[by unfold zb;rw[ac];exact hl,λr hr=>?_];obtain⟨e,he,rfl⟩:=rR.mp hr;exact#[aM (h.e e he).a ∅,aM (h.e e he).b ∅]
theorem zbQ(hok:∀r ∈ ps,r.1.length<=60/\r.2.length<=60){t:N3}(ht:t ∈ ovA ps ps.length):(pkA ps t).length<=180/\(pkB ps t).length<=180:=by
 obtain⟨i1,i2,i3,i4⟩:=qk ht;obtain⟨r,hr⟩:∃r,ps[t.1]? = rJ r:=#[_,ae i1];obtain⟨r2,hr2⟩:∃r,ps[t.2.1]? = rJ r:=#[_,ae i2];have l1:=xa hr;have l2:=xa hr2;have d1:ps.getD t.1 ([],[])=r:=by rw[aa,hr];rfl
 have d2:ps.getD t.2.1 ([],[])=r2:=by rw[aa,hr2];rfl
 rw[l1]at i3;have b1:=hok r (af hr);have b2:=hok r2 (af hr2);have hp:=w8 r.1 r2.1 t.2.2 ⋯;have p1:=uj (yd r.1 r2.1 t.2.2) 0 r.1 r.2;have p2:=uj (yd r.1 r2.1 t.2.2) (t.2.2:Nat) r2.1 r2.2;unfold pkA pkB;rw[l1,l2,d1,d2];lia
theorem za4(hN:NeL ps)(hok:∀r ∈ ps,r.1.length<=60/\r.2.length<=60):zdA ps 40:=by
 refine#[∅,λt ht=>?_];obtain⟨h1,h2⟩:=zbQ hok ht
 have key:∀(v:()),v.length<=180->∀j,j<=40->(wAt ps v j).length<=10000:=λv hv j hj=>by
  have:=uP (l:=v) hN (λp hp=>(hok p hp).2) j;have h3:j * 60<=40 * 60:=Nat.mul_le_mul hj (al _);lia
 exact#[key _ h1,key _ h2]
def Jm(K:nV)(CO CR CW:nW):Sp:=λvs H Q _=>∃(o a:nW) (k:Nat) (l:()) (ns:List Int) (bs:List Ent),vs=[.ref o,.ref a]/\OrdAt CO CR CW H o k l ns/\OG l ns k/\EnsL K H a bs/\BG k l ns bs/\bs.length<=30/\(ovA (zb bs) (zb bs).length).length<=4000 /\
 ((∀t ∈ ovA (zb bs) (zb bs).length,OkG (zb bs) 40 t)->∀D H',Same H H'->LsA K H' D ((unG (zb bs) 40).map d3)->Q (.ref D) H')/\(∀t ∈ ovA (zb bs) (zb bs).length,¬ OkG (zb bs) 40 t->∀H',Same H H'->Q .non H')
theorem uT:sQz 2 ["order","entries"] xq:=by nofun
theorem qy{f CO CR CW CF CH:nW}{ln:rh}(B:Bt mg)(TFx:zap K mg CF)(TSb:zdC K CF)(TM:TMc mg)(F:("unmet_within"^^^xq))(nB:(7>>>"unmet") ["system","most"] [] (vt K CH CF))(DD_unmet:(7>>>"unmet") ["system","most"] [.int 4000 ln] (vt K CH CF))(mZ:(7<<<"system_by") ["order","entries"] [] (Yt K CO CR CW CH)):(9&&&["order","entries"]) (Jm K CO CR CW):=by
 obtain⟨t9,g9⟩:=TM.u
 exists F.ok uT
 ·obtain⟨o,a,k,l,ns,bs,rfl,ho,hG,hA,hB,hbl,hol,q1,q2⟩:=h;refine#[_,(zh (UJ (th:=(zal (tC .non))) #[rfl,rfl] (clX nB hr .nil rfl (za (cl0 mZ hr .nil rfl (za (pv 0) (za (pv 1) zf))) (za (y9 (v:=.int 40) rfl g9 #[t9,rfl]) zf))) rfl TFx.g TFx.xi.ok (λe=>(zh (zt xA))))),?_];have s16:=yb;have s16:=yb
  erw[QK]
  ac_rfl
  have hsd:∀r ∈ zb bs,r.1.length<=60/\r.2.length<=60:=λr hr=>by
   obtain⟨e,he,rfl⟩:=rR.mp hr;exact#[(hB.e e he).a,(hB.e e he).b]
  exact#[o,a,k,l,ns,bs,rfl,ho,hG,hA,hB,λy qa H' s' hy=>#[y,o,qa,zb bs,40,rfl,hy,hB.ne hG,hB.ok hbl,hol,za4 (hB.ne hG) hsd,λh D H'' s'' _ hL=>q1 h D H'' (s'.trans s'') hL,λt ht h H'' s''=>#[CF,rfl,TSb.s,λx hx=>q2 t ht h _ (s'.trans (s''.trans (zd hx)))]]]
noncomputable def qD(es:List Ent)(t:N3):Ent:=(pkA (zb es) t,pkB (zb es) t,byL es [((t.1:Int),(0:Int),rM),((t.2.1:Int),(t.2.2:Int),rL)])
def jE(K:nV):Sp:=λvs H Q _=>∃(a t:nW) (es:List Ent) (tr:N3),vs=[.ref a,.ref t]/\EnsL K H a es/\SqT K H t [.int (tr.1:Nat),.int (tr.2.1:Nat),.int (tr.2.2:Nat)]/\tr ∈ ovA (zb es) (zb es).length/\jR (zb es)/\(∀e ∈ es,e.2.2.length<=600)/\∀(p s:nW) (H':Hp),Same H H'->H' p=rJ (.tup [.str (tx (qD es tr).1),.str (tx (qD es tr).2.1),.ref s])->LsA K H' s ((qD es tr).2.2.map dSt)->H s=rK->Q (.ref p) H'
theorem lh:sQz 2 ["entries","overlap","sides","steps"] vE:=by nofun
theorem Z2(B:Bt mg)(F:("entry_of"^^^vE))(mT:(4<<<"peak") ["rules","overlap"] [] (jV K))(iL:(2<<<"by_pacts") ["entries","steps"] [] (Uz K))(gr:(1<<<"pairs_of") ["entries"] [] (wD K)):(5&&&["entries","overlap"]) (jE K):=by
 exists F.ok lh
 ·obtain⟨a,t,es,tr,rfl,hA,ht,htr,hok,hst,q⟩:=h
  refine#[_,(zi (zy 2 lh.nd (cl0 mT hr .nil rfl (za (cl0 gr hr .nil rfl (za (pv 0) zf)) (za (pv 1) zf))))
   (zi (zy 3 lh.nd (cl0 iL hr .nil rfl (za (pv 0) (za (vR (za (z5 (za (zl ix_tup (pv 1) ze) (za ze (za yT zf)))) (za (z5 (za (zl ix_tup (pv 1) ze) (za (zl ix_tup (pv 1) ze) (za yT zf)))) zf))) zf))))
   (zh (zt (z5 (za (zl ix_tup (pv 2) ze) (za (zl ix_tup (pv 2) ze) (za (pv 3) zf)))))))),?_]
  have s16:=yb;have s16:=yb;have hlp:(zb es).length=es.length:=by unfold zb;rw[ac]
  obtain⟨i1,i2,i3,i4⟩:=qk htr;obtain⟨r,hr1⟩:∃r,(zb es)[tr.1]? = rJ r:=#[_,ae i1];obtain⟨r2,hr2⟩:∃r,(zb es)[tr.2.1]? = rJ r:=#[_,ae i2];have l1:=xa hr1;have l2:=xa hr2;have d1:(zb es).getD tr.1 ([],[])=r:=by rw[aa,hr1];rfl
  have d2:(zb es).getD tr.2.1 ([],[])=r2:=by rw[aa,hr2];rfl
  have eA:pkA (zb es) tr=yE (yd r.1 r2.1 tr.2.2) 0 r.1 r.2:=by unfold pkA;rw[l1,l2,d1]
  have eB:pkB (zb es) tr=yE (yd r.1 r2.1 tr.2.2) (tr.2.2:Nat) r2.1 r2.2:=by unfold pkB;rw[l1,l2,d2]
  rw[l1]at i3;rw[l1,l2]at i4;refine zj (λσ H'=>Same H H'/\∃p:nW,(∃x,H' p=rJ (.tup [x,.str (tx (pkA (zb es) tr)),.str (tx (pkB (zb es) tr))]))/\σ=[!!a,!!t,!!p,rK]) ?_ ?_
  ·rfl'
   refine xY hA.is (by have:=hok.1;lia) λD H1 _ s1 hL=>?_;exact Y0 hL.is (zk s1 ht) hok hr1 hr2 ⋯ i4 λp H' _ s' hp=>#[s1.trans s',p,#[_,by rw[eA,eB];exact hp],rfl]
  rintro σ H1 ⟨s1,p,⟨x,hp⟩,rfl⟩:_;right;refine zj (λσ H'=>Same H1 H'/\∃S:nW,H S=rK/\LsA K H' S ((qD es tr).2.2.map dSt)/\σ=[!!a,!!t,!!p,!!S]) ?_ ?_
  ·have ht1:=zk s1 ht
   rfl'
   refine#[_,ht1,_,rfl,⋯,λp1 hp1=>?_];have u1:=zd (o:=HO.tup [.int (tr.1:Nat),.int 0,.bl rM]) hp1;refine#[_,zk u1 ht1,_,rfl,_,zk u1 ht1,_,rfl,⋯,λp2 hp2=>#[⋯,λp3 hp3=>?_]];have u2:=zd (o:=HO.tup [.int (tr.2.1:Nat),.int (tr.2.2:Nat),.bl rL]) hp2;have u3:=zd (o:=HO.lst [.ref p1,.ref p2]) hp3;have u:=u1.trans (u2.trans u3);refine Vi (us:=[((tr.1:Int),(0:Int),rM),((tr.2.1:Int),(tr.2.2:Int),rL)]) (hA.same (s1.trans u)).is (LsA.is #[_,zc,?_]) (by simp) hst (λv hv=>?_) λD H' hDn s' hL=>#[u.trans s',D,(s1.trans u).free hDn,hL,rfl]
   ·erw[am,aF,Iss]
    exact#[_,_,rfl,YW (SqT.of (u3 _ _ (u2 _ _ zc))),_,_,rfl,YW (SqT.of (u3 _ _ zc)),rfl]
   ·erw[List.mem_cons,List.not_mem_nil,or_false]at hv
    rcases hv with rfl | rfl
    ·exact#[by simp,by show (tr.1:Int)<_;lia]
    ·exact#[by simp,by show (tr.2.1:Int)<_;lia]
  rintro σ H2 ⟨s2,S,hSn,hS,rfl⟩:_;right
  rfl'
  exact#[_,SqT.of (s2 _ _ hp),_,rfl,_,SqT.of (s2 _ _ hp),_,rfl,⋯,λp' hp'=>q p' S _ (s1.trans (s2.trans (zd hp'))) zc (hS.same (zd hp')) hSn]
theorem Qy{l:()}(h:¬ ut e):¬ ut (zU k l ns e):=by
 unfold zU;split
 ·exact h
 ·unfold ut at h ⊢;rw[yR];show ¬ (240<e.2.2.length\/60<e.2.1.length\/60<e.1.length);lia
theorem Xu{l:()}{bs es:List Ent}{r:Option (List Ent)}(h:yN k l ns bs es r):(∀e ∈ bs,¬ ut e)->∀fs,r=rJ fs->∀e ∈ fs,¬ ut e:=by
 induction h with
 | nil bs=>exact λh fs e=>by cases e;exact h
 | same _ _ _ _ ih=>exact ih
 | new _ _ _ h4 _ ih =>
  intro h;refine ih λe he=>?_;rcases rT.mp he with he | he
  ·exact h e he
  ·rw[rV.mp he];exact Qy h4
 | far _ _ _ _=>exact λ_ fs e=>by cases e
 | stuck _=>exact λ_ fs e=>by cases e
theorem qr{k n:Nat}{l:()}{r:Option (List Ent)}(h:vz k l ns n es r):∀fs,r=rJ fs->∀e ∈ fs,¬ ut e:=by
 induction h with
 | out es=>exact λfs e=>by cases e
 | bad _ _=>exact λfs e=>by cases e
 | done _ h2 _=>exact λfs e=>by cases e;exact Xu h2 (λe he=>(nomatch he)) _ rfl
 | more _ _ _ _ ih=>exact ih
theorem WM{M:Nat}(h:∀e ∈ es,e.2.2.length<=M)(u:Stp):(XO es u).length<=M:=by
 have hg:(es.getD u.1.toNat ([],[],[])).2.2.length<=M:=by
  rw[aa]
  cases e:es[u.1.toNat]? with
  | none=>exact ay _
  | some x=>exact h x (af e)
 unfold XO;rw[YG];split
 ·exact hg
 ·rw[yR];exact hg
inductive Cpl(k:Nat)(l:())(ns:List Int):Nat->List Ent->List Ent->Bool->List Ent->Prop where
 | out (kept fresh:List Ent):Cpl k l ns 0 kept fresh rM kept
 | slim {n:Nat} {kept fresh:List Ent} (h:vz k l ns 20 fresh rK\/∃bs,vz k l ns 20 fresh (rJ bs)/\uY bs=rL):Cpl k l ns (n+1) kept fresh rM kept
 | far {n:Nat} {kept fresh bs:List Ent} {t:N3} (h:vz k l ns 20 fresh (rJ bs)) (hb:uY bs=rM) (ht:t ∈ ovA (zb bs) (zb bs).length) (ho:¬ OkG (zb bs) 40 t):Cpl k l ns (n+1) kept fresh rM bs
 | whole {n:Nat} {kept fresh bs:List Ent} (h:vz k l ns 20 fresh (rJ bs)) (hb:uY bs=rM) (ho:∀t ∈ ovA (zb bs) (zb bs).length,OkG (zb bs) 40 t) (hu:unG (zb bs) 40=[]):Cpl k l ns (n+1) kept fresh rL bs
 | more {n:Nat} {kept fresh bs es:List Ent} {w:Bool} (h:vz k l ns 20 fresh (rJ bs)) (hb:uY bs=rM) (ho:∀t ∈ ovA (zb bs) (zb bs).length,OkG (zb bs) 40 t) (hu:unG (zb bs) 40≠[]) (r:Cpl k l ns n bs (bs ++ ((unG (zb bs) 40).take 8).map (qD bs)) w es):Cpl k l ns (n+1) kept fresh w es
theorem zaK(hl:ps.length<=12)(h:∀r ∈ ps,r.1.length<=10):(ovA ps ps.length).length<=4000:=by
 have lfl:∀i,(lf ps i).length<=10:=λi=>by
  cases e:ps[i]? with
  | none=>unfold lf;rw[aa,e];exact ay _
  | some r=>rw[xa e];exact h r (af e)
 have oI:∀i m,(ovI ps i m).length<=m * 10:=λi m=>by
  induction m with
  | zero=>exact ay _
  | succ m ih =>
   rw[wX,aj];have h1:=uk ps i m (lf ps i).length;have h2:=lfl i;lia
 have oA:∀m,(ovA ps m).length<=m * 120:=λm=>by
  induction m with
  | zero=>exact ay _
  | succ m ih =>
   rw[uw,aj];have h1:=oI m ps.length;lia
 have:=oA ps.length;lia
theorem zaM{l:()}(hin:∀r ∈ ps,(∀c ∈ r.1,c ∈ l)/\∀c ∈ r.2,c ∈ l)(h10:∀r ∈ ps,r.1.length<=10/\r.2.length<=10){t:N3}(ht:t ∈ ovA ps ps.length):((pkA ps t).length<=40/\∀c ∈ pkA ps t,c ∈ l)/\(pkB ps t).length<=40/\∀c ∈ pkB ps t,c ∈ l:=by
 obtain⟨i1,i2,i3,i4⟩:=qk ht;obtain⟨r,hr⟩:∃r,ps[t.1]? = rJ r:=#[_,ae i1];obtain⟨r2,hr2⟩:∃r,ps[t.2.1]? = rJ r:=#[_,ae i2];have l1:=xa hr;have l2:=xa hr2;have d1:ps.getD t.1 ([],[])=r:=by rw[aa,hr];rfl
 have d2:ps.getD t.2.1 ([],[])=r2:=by rw[aa,hr2];rfl
 rw[l1]at i3;have b1:=h10 r (af hr);have b2:=h10 r2 (af hr2);have n1:=hin r (af hr);have n2:=hin r2 (af hr2);have hp:=w8 r.1 r2.1 t.2.2 ⋯;have p1:=uj (yd r.1 r2.1 t.2.2) 0 r.1 r.2;have p2:=uj (yd r.1 r2.1 t.2.2) (t.2.2:Nat) r2.1 r2.2
 have hw:∀c ∈ yd r.1 r2.1 t.2.2,c ∈ l:=λc hc=>by
  unfold yd at hc;rcases rT.mp hc with h | h
  ·exact n1.1 c h
  ·exact n2.1 c (cQ h)
 have put:∀(k:Int) (o n:()),(∀c ∈ n,c ∈ l)->∀c ∈ yE (yd r.1 r2.1 t.2.2) k o n,c ∈ l:=λk o n hn c hc=>by
  unfold yE at hc;rcases rT.mp hc with hc | hc
  ·rcases rT.mp hc with hc | hc
   ·exact hw c (bH hc)
   ·exact hn c hc
  ·exact hw c (cQ hc)
 unfold pkA pkB;rw[l1,l2,d1,d2];exact#[#[⋯,put _ _ _ n1.2],⋯,put _ _ _ n2.2]
theorem Wm{l:()}(hB:BG k l ns bs)(hb:uY bs=rM)(hs:∀e ∈ bs,e.2.2.length<=240){t:N3}(ht:t ∈ ovA (zb bs) (zb bs).length):EB l (qD bs t):=by
 obtain⟨b1,b2⟩:=jf hb
 obtain⟨h1,h2⟩:=zaM (l:=l) (ps:=zb bs) (λr hr=>by
  obtain⟨e,he,rfl⟩:=rR.mp hr
  exact#[(hB.e e he).ma,(hB.e e he).mb]) (λr hr=>by
  obtain⟨e,he,rfl⟩:=rR.mp hr
  exact b2 e he) ht
 refine#[aM h1.1 ∅,aM h2.1 ∅,?_,h1.2,h2.2];show (byL bs [((t.1:Int),(0:Int),rM),((t.2.1:Int),(t.2.2:Int),rL)]).length<=600;unfold byL;rw[List.flatMap_cons,List.flatMap_cons,List.flatMap_nil,aQ,aj];have o1:=WM hs ((t.1:Int),(0:Int),rM);have o2:=WM hs ((t.2.1:Int),(t.2.2:Int),rL);lia
theorem EnsM.samT{T:nW}{H H':Hp}{ps:Array nX}{a:nW}(h:EnsM K H a es)(s:SamT T H H')(hT:H T=rJ (.tbl ps)):EnsM K H' a es:=by
 obtain⟨xs,h1,h2⟩:=h;exact#[xs,s.at hT h1 (λ_ z=>by cases z),EnsA.samT s hT h2]
def zdh(K:nV)(T:nW)(H:Hp)(k:Nat)(l:())(ns:List Int)(rs:List zp)(m n:Nat)(H':Hp)(Dk Df:nW):Prop:=∃kept fresh:List Ent,SamT T H H'/\TabOk H' T lp lq/\EnsM K H' Dk kept/\EnsL K H' Df fresh/\fresh.length<64/\(∀e ∈ fresh,EB l e)/\BG k l ns kept/\∀w es,Cpl k l ns n kept fresh w es->Cpl k l ns m [] (fEs rs rs.length) w es
def Jf(K:nV)(CO CR CW T:nW):Sp:=λvs H Q _=>∃(o a:nW) (k:Nat) (l:()) (ns:List Int) (rs:List zp) (m:Nat),vs=[.ref o,.ref a,.int (m:Nat)]/\OrdAt CO CR CW H o k l ns/\OG l ns k/\LsA K H a (rs.map dR)/\rs.length<=20/\InL l rs/\(∀r ∈ rs,r.1.length<=60/\r.2.length<=60)/\m<=1000/\TabOk H T lp lq/\∀(w:Bool) (es:List Ent) (p D:nW) (H':Hp),Cpl k l ns (m+1) [] (fEs rs rs.length) w es->BG k l ns es->SamT T H H'->TabOk H' T lp lq->H' p=rJ (.tup [.bl w,.ref D])->EnsM K H' D es->Q (.ref p) H'
theorem gk:sQz 3 ["order","pacts","rounds","kept","fresh","turn","slim","lacking"] xL:=by nofun
theorem kq{f CO CR CW TB:nW}(B:Bt mg)(TM:TMc mg)(F:("completed"^^^xL))(mx:(1<<<"first_entries") ["pacts"] [] (Ym K))(mm:(8<<<"thinned_within") ["order","entries"] [] (QH K CO CR CW TB))(mD:(9<<<"unmet_within") ["order","entries"] [] (Jm K CO CR CW))(nj:(5<<<"entry_of") ["entries","overlap"] [] (jE K)):(10&&&["order","pacts","rounds"]) (Jf K CO CR CW TB):=by
 obtain⟨t9,g9⟩:=TM.p
 exists F.ok gk
 ·obtain⟨o,a,k,l,ns,rs,m,rfl,ho,hG,hA,hrl,hin,h60,hm,hTab,q⟩:=h
  refine#[_,(zi (xO (i:=3) gk.nd rfl (Or.inr rfl) (vR zf))
   (zi (zy 4 gk.nd (cl0 mx hr .nil rfl (za (pv 1) zf)))
   (zi (yg PassesOwn.never rfl (yz rfl B.range (za (zC z6 (pv 2) ze) zf)) (zv (i:=5) gk.nd rfl (.inl rfl))
    (zi (zy 6 gk.nd (cl0 mm hr .nil rfl (za (pv 0) (za (pv 4) zf))))
    (zi (zZ (zG op_isN' (pv 6) xA (zI _))
     (zh (zt (z5 (za yT (za (pv 3) zf)))))
     zB)
    (zi (xO (i:=3) gk.nd rfl (Or.inr rfl) (pv 6))
    (zi (zy 7 gk.nd (cl0 mD hr .nil rfl (za (pv 0) (za (pv 3) zf))))
    (zi (zZ (zG op_isN' (pv 7) xA (zI _))
     (zh (zt (z5 (za yT (za (pv 3) zf)))))
     zB)
    (zi (zZ (zG qA (zF B.len (pv 7)) ze (zI _))
     (zh (zt (z5 (za yT (za (pv 3) zf)))))
     zB)
    (zh (zy 4 gk.nd (zC Zv (pv 3) (yJ (own:=["overlap"]) (caps:=["kept"]) (ix:=[3]) (tt:=xQ) (te:=(uO (jE K) [] E0 (zL (z9 1) (zL (z9 0) xH)))) rfl (zQ (sc:=zg xL) rfl (by symm) (by symm) (by symm) rfl (by symm) (by symm) rfl) (yi (zP jK (pv 7) ya (zR (y9 (v:=.int 8) rfl g9 #[t9,rfl])))) (λ_ _ _ _ _ _=>zv (i:=0) (show List.Nodup [_,_] by decide) rfl (.inl rfl)) (λ_ _ _ _ _ _=>yh) (λ_ _ _ _ _ _=>(cl0 nj hr .nil rfl (za (pv 1) (za (pv 0) zf)))))))))))))))
   (zh (zt (z5 (za yT (za (pv 3) zf)))))))),?_]
  have s16:=yb;have s16:=yb;have hTt:=hTab;obtain⟨tp,htp,_⟩:=hTt;refine zj (λσ H'=>Same H H'/\∃Dk:nW,H' Dk=rJ (.lst [])/\σ=[!!o,!!a,-~~~m,!!Dk,rK,rK,rK,rK]) ?_ ?_
  ·ac_rfl;exact#[⋯,λp hp=>#[zd hp,zc]]
  rintro σ H1 ⟨s1,Dk0,hDk0,rfl⟩:_
  have hE0:∀e ∈ fEs rs rs.length,EB l e:=λe he=>by
   obtain⟨i,p,hi,hp,rfl⟩:=qz he;have h1:=h60 p (af hp);have h2:=hin p (af hp);exact#[h1.1,h1.2,by show ([((i:Int),(0:Int),rL)]:List Stp).length<=600;simp,h2.2.2.1,h2.2.2.2]
  right;refine zj (λσ H'=>∃Df:nW,zdh K TB H k l ns rs (m+1) (m+1) H' Dk0 Df/\σ=[!!o,!!a,-~~~m,!!Dk0,!!Df,rK,rK,rK]) ?_ ?_
  ·ac_rfl;exact#[a,rs,rfl,hA.same s1,hrl,λDf H' s' _ hM=>#[Df,#[[],fEs rs rs.length,SamT.of (s1.trans s'),hTab.same (s1.trans s'),#[[],s' _ _ hDk0,rfl],hM.l,by have:=W8 rs rs.length;lia,hE0,#[by simp,λe he=>(nomatch he),λe he=>(nomatch he)],λw es h=>h],rfl]]
  rintro σ H2 ⟨Df0,hC0,rfl⟩:_;right;refine zj (λσ H'=>∃(Dk Df:nW) (v5 v6 v7:Option V),zdh K TB H k l ns rs (m+1) 0 H' Dk Df/\σ=[!!o,!!a,-~~~m,!!Dk,!!Df,v5,v6,v7]) ?_ ?_
  ·ac_rfl;refine#[⋯,⋯,ForR.by (λi σ H'=>∃(Dk Df:nW) (v5 v6 v7:Option V),zdh K TB H k l ns rs (m+1) (m+1 - i) H' Dk Df/\σ=[!!o,!!a,-~~~m,!!Dk,!!Df,v5,v6,v7]) #[Dk0,Df0,rK,rK,rK,hC0,rfl] ?_ ?_]
   ·refine nm3 ?_;rintro i σ H' hi ⟨Dk,Df,v5,v6,v7,⟨kept,fresh,sT,hT,hK,hF,hfl,hfE,hB,hcp⟩,rfl⟩:_;have hi':i<m+1:=⋯;have en:m+1 - i=(m+1 - (i+1))+1:=⋯;rw[en]at hcp;have hTt:=hT;obtain⟨tq,htq,_⟩:=hTt;have ho':=ho.samT sT htp;right
    erw[yK,ba,aZ]
    refine zj (λσ' G=>SamT TB H' G/\TabOk G TB lp lq/\(((vz k l ns 20 fresh rK\/∃bs,vz k l ns 20 fresh (rJ bs)/\uY bs=rL)/\σ'=[!!o,!!a,-~~~m,!!Dk,!!Df,rJ (.int (0+(i:Int))),rJ (.non),v7])\/∃(bs:List Ent) (D:nW),vz k l ns 20 fresh (rJ bs)/\BG k l ns bs/\uY bs=rM/\EnsM K G D bs/\σ'=[!!o,!!a,-~~~m,!!Dk,!!Df,rJ (.int (0+(i:Int))),!!D,v7])) ?_ ?_
    ·ac_rfl;exact#[o,Df,k,l,ns,fresh,rfl,ho',hG,hF,hfl,hfE,hT,λbs D G h1 h2 h3 h4 h5 h6=>#[h4,h5,.inr #[bs,h1,h2,h3,D,h6,rfl]],λh G h4 h5=>#[h4,h5,.inl #[h,rfl]]]
    rintro σ' G1 ⟨g1,hT1,hcase⟩:_;have hK1:=hK.samT g1 htq;right;refine zj (λσ' G=>Same G1 G/\∃(bs:List Ent) (D:nW),vz k l ns 20 fresh (rJ bs)/\BG k l ns bs/\uY bs=rM/\EnsM K G D bs/\σ'=[!!o,!!a,-~~~m,!!Dk,!!Df,rJ (.int (0+(i:Int))),!!D,v7]) ?_ ?_
    ·rcases hcase with ⟨hno,rfl⟩ | ⟨bs,D,h1,h2,h3,h4,rfl⟩
     ·ac_rfl;exact#[⋯,λp hp=>q rM kept p Dk _ (hcp _ _ (.slim hno)) hB (sT.trans (g1.trans (SamT.of (zd hp)))) (hT1.same (zd hp)) zc (hK1.same (zd hp))]
     ·ac_rfl;exact#[Same.refl _,bs,h1,h2,h3,h4]
    rintro σ' G2 ⟨s2,bs,D,hTh,hBb,hbey,hD,rfl⟩:_;right;refine zj (λσ' G=>G=G2/\σ'=[!!o,!!a,-~~~m,!!D,!!Df,rJ (.int (0+(i:Int))),!!D,v7]) ?_ ?_
    ·ac_rfl
    rintro σ' G3 ⟨rfl,rfl⟩:_;have sT3:SamT TB H G3:=sT.trans (g1.trans (SamT.of s2));have hT3:=hT1.same s2;have ho3:=ho.samT sT3 htp;obtain⟨b12,b10⟩:=jf hbey;have hpl:(zb bs).length=bs.length:=by unfold zb;rw[ac]
    have hol:=zaK (ps:=zb bs) ⋯ λr hr=>by
     obtain⟨e,he,rfl⟩:=rR.mp hr;exact (b10 e he).1
    have hnear:∀e ∈ bs,e.2.2.length<=240:=λe he=>by
     have:=qr hTh bs rfl e he;unfold ut at this;lia
    right;refine zj (λσ' G=>Same G3 G/\(((∃t ∈ ovA (zb bs) (zb bs).length,¬ OkG (zb bs) 40 t)/\σ'=[!!o,!!a,-~~~m,!!D,!!Df,rJ (.int (0+(i:Int))),!!D,rJ (.non)])\/∃L:nW,(∀t ∈ ovA (zb bs) (zb bs).length,OkG (zb bs) 40 t)/\LsA K G L ((unG (zb bs) 40).map d3)/\σ'=[!!o,!!a,-~~~m,!!D,!!Df,rJ (.int (0+(i:Int))),!!D,!!L])) ?_ ?_
    ·ac_rfl;exact#[o,D,k,l,ns,bs,rfl,ho3,hG,hD.l,hBb,⋯,hol,λh L G s' hL=>#[s',.inr #[h,L,hL,rfl]],λt ht h G s'=>#[s',.inl #[#[t,ht,h],rfl]]]
    rintro σ' G4 ⟨s4,hcase⟩:_;right;refine zj (λσ' G=>Same G3 G/\∃L:nW,(∀t ∈ ovA (zb bs) (zb bs).length,OkG (zb bs) 40 t)/\LsA K G L ((unG (zb bs) 40).map d3)/\σ'=[!!o,!!a,-~~~m,!!D,!!Df,rJ (.int (0+(i:Int))),!!D,!!L]) ?_ ?_
    ·rcases hcase with ⟨⟨t,ht,hno⟩,rfl⟩ | ⟨L,h1,h2,rfl⟩
     ·ac_rfl;exact#[⋯,λp hp=>q rM bs p D _ (hcp _ _ (.far hTh hbey ht hno)) hBb (sT3.trans (SamT.of (s4.trans (zd hp)))) (hT3.same (s4.trans (zd hp))) zc (hD.same (s4.trans (zd hp)))]
     ·ac_rfl;exact#[s4,h1,h2]
    rintro σ' G5 ⟨s5,L,hok,hL,rfl⟩:_;right;refine zj (λσ' G=>G=G5/\unG (zb bs) 40≠[]/\σ'=[!!o,!!a,-~~~m,!!D,!!Df,rJ (.int (0+(i:Int))),!!D,!!L]) ?_ ?_
    ·ac_rfl;obtain⟨xs,hX,hI⟩:=id hL;have hxl:=hI.len;rw[ac]at hxl;refine#[_,.inl #[_,SqL.of hX,rfl],yU (λh=>#[⋯,λp hp=>q rL bs p D _ (hcp _ _ (.whole hTh hbey hok (sw.mp ⋯))) hBb (sT3.trans (SamT.of (s5.trans (zd hp)))) (hT3.same (s5.trans (zd hp))) zc (hD.same (s5.trans (zd hp)))]) λh z=>h ?_];rw[z]at hxl;show ((xs.length:Nat):Int)=0;rw[hxl];rfl
    rintro σ' G6 ⟨rfl,hne,rfl⟩:_;right;ac_rfl;obtain⟨xs,hX,hI⟩:=id hL;have hxl:=hI.len;rw[ac]at hxl;have hct:Q1 xs rK (rJ 8)=xs.take 8:=vo xs (k:=8) ∅;refine#[_,SqL.of hX,λp hp=>?_];rw[hct];have u1:=zd (o:=HO.lst (xs.take 8)) hp;have hS7:(upd G6 p (.lst (xs.take 8))) p=rJ (.lst (xs.take 8)):=zc;have hX7:=Iss.same u1 _ _ hI;have hD7:=hD.same (s5.trans u1);refine#[#[_,SqL.of hS7],λE1 hE1=>?_];generalize upd G6 p (.lst (xs.take 8))=G7 at *;refine CompL.by (xs:=xs.take 8) (λj rP H'=>Same G7 H'/\H' E1=rJ (.lst rP)/\rP.length<=j/\EnsA K (qE E1 H') (((unG (zb bs) 40).take j).map (qD bs)) rP) #[zd hE1,zc,al _,rfl] (λj rP H' _ h=>SqL.of (h.1 _ _ hS7)) ?_ ?_
    ·refine nm4 ?_;rintro j x rP H' hx ⟨hs,hH,hal,hEn⟩:_;have hjl:=(rQ.mp hx).1;have hj8:j<8:=by rw[aC]at hjl;lia
     rw[dh hj8]at hx;obtain⟨t,pt,ht,rfl,hpt⟩:=hX7.get3 hx;have htm:=(rX.mp (af ht)).1;right
     erw[xQ]
     rfl'
     refine#[yP,D,pt,bs,t,rfl,(hD7.same hs).l,zk hs hpt,htm,hBb.ok ⋯,λe he=>(hBb.e e he).s,λp' s' H5 h1 h2 h3 h4=>?_];have hH5:=h1 _ _ hH;have hsE:s'≠E1:=λz=>by rw[z,hH]at h4;cases h4
     refine#[hH5,⋯,CNx.mk hjl #[zD (hs.trans h1) hE1,zc,by rw[aj];erw[aJ,bS];lia,?_]];rw[zJ ht,ao];exact (hEn.same ((wc h1).trans xf)).snoc ((EnA.new (e:=qD bs t) hH5 h2 h3 hsE).same xf)
    ·rintro rP H' ⟨hs,hH,hal,hEn⟩
     have hEn':EnsA K H' (((unG (zb bs) 40).take 8).map (qD bs)) rP:=by
      have h1:=hEn.same xZ;rw[aC,hxl]at h1
      have e:(unG (zb bs) 40).take (min 8 (unG (zb bs) 40).length)=(unG (zb bs) 40).take 8:=by
       rw[<- eZ,aG]
      rw[e]at h1;exact h1
     have hal8:rP.length<=8:=by rw[aC]at hal;lia
     obtain⟨xk,hxk,hek⟩:=hD7.same hs;have hkl:=hek.len;refine#[E1,rfl,xk,hxk,rP,hH,⋯,λp2 hp2=>#[D,p2,#[bs,_,sT3.trans (SamT.of (s5.trans (u1.trans (hs.trans (zd hp2))))),hT3.same (s5.trans (u1.trans (hs.trans (zd hp2)))),#[xk,zd hp2 _ _ hxk,hek.same (zd hp2)],#[xk ++ rP,SqL.of zc,(hEn'.same (zd hp2)).app (hek.same (zd hp2))],?_,λe he=>?_,hBb,λw es h=>hcp w es (.more hTh hbey hok hne h)],rfl,rfl]]
     ·rw[aj,ac,aC];lia
     ·rcases rT.mp he with he | he
      ·exact hBb.e e he
      ·obtain⟨t,ht,rfl⟩:=rR.mp he;exact Wm hBb hbey hnear (rX.mp (bH ht)).1
   ·rintro σ H' ⟨Dk,Df,v5,v6,v7,hC,rfl⟩;rw[show ((m:Int)+1).toNat=m+1 by lia,Nat.sub_self]at hC;exact#[Dk,Df,hC,_,_,_,rfl]
  rintro σ H3 ⟨Dk,Df,v5,v6,v7,⟨kept,fresh,sT,hT,hK,hF,hfl,hfE,hB,hcp⟩,rfl⟩:_;right;ac_rfl;exact#[⋯,λp hp=>q rM kept p Dk _ (hcp _ _ (.out kept fresh)) hB (sT.trans (SamT.of (zd hp))) (hT.same (zd hp)) zc (hK.same (zd hp))]
theorem ThinL.pairs{l:()}{zs bs:List Ent}(h:ThinL k l ns zs)(hp:zb bs=zb zs)(hE:∀e ∈ bs,EB l e):ThinL k l ns bs:=by
 have key:∀(i:Nat) (a:Ent),bs[i]? = rJ a->∃z,zs[i]? = rJ z/\z.1=a.1/\z.2.1=a.2.1:=λi a ha=>by
  have h1:(zb bs)[i]? = rJ (a.1,a.2.1):=by unfold zb;rw[ax,ha];rfl
  rw[hp]at h1;unfold zb at h1;rw[ax]at h1;obtain⟨z,hz,e⟩:=rY.mp h1;exact#[z,hz,(Prod.ext_iff.mp e).1,(Prod.ext_iff.mp e).2]
 refine#[#[hE,λe he=>?_],λi j a b ha hb hij=>?_,λi j a b ha hb hij=>?_,λi j a b ha hb=>?_]
 ·obtain⟨i,hi⟩:=sv.mp he;obtain⟨z,hz,e1,e2⟩:=key i e hi;rw[<- e1,<- e2];exact h.rl.lt z (af hz)
 all_goals
  obtain⟨x,hx,e1,e2⟩:=key i a ha;obtain⟨y,hy,f1,f2⟩:=key j b hb;rw[<- f1]
 ·rw[<- e1];exact h.up i j x y hx hy hij
 ·rw[<- e1];exact h.no1 i j x y hx hy hij
 ·rw[<- e2];exact h.no2 i j x y hx hy
structure KXs(K:nV):Prop where
 ss:aS K (.type "str") (.type "str")=rJ rL
def V8(K:nV):Sp:=λvs H Q _=>∃(a:nW) (es:List Ent),vs=[.ref a]/\Is K H (.lst (es.map dE)) (.ref a)/\Q (.bl rL) H
theorem my:sQz 1 ["_law_found","_law_entry"] uA:=by nofun
theorem Xi(B:Bt mg)(T:TLs K)(TX:KXs K)(F:("_law_entries"^^^uA))(nC:(2<<<"_law_steps") ["_law_found"] [] (YX K)):(3&&&["_law_found"]) (V8 K):=by
 exists F.ok my
 ·obtain⟨a,es,rfl,hA,q⟩:=h
  refine#[_,(zi (zZ (yo (yM (y3 rfl B.isi (pv 0) rfl B.list PySem.Pv.boot_list) (λ_=>rfl)))
    (zh (zt yT))
    zB)
   (zi (yg PassesOwn.never rfl (yi (pv 0)) (zv (i:=1) my.nd rfl (.inl rfl))
    (zi (zZ (PW.pt (vG (yo (yM (y3 rfl B.isi (pv 1) rfl B.tuple PySem.Pv.boot_tuple) (λ_=>rfl))) (vG (zG kK (zF B.len (pv 1)) ze (zI _)) (vg (yo (yM (cl0 nC hr .nil rfl (za (zl ix_tup (pv 1) ze) zf)) (λ_=>rfl)))))))
     (zh (zt yT))
     zB)
    (zh (zZ (PW.pt (vG (yo (yM (y3 rfl B.isi (zl ix_tup (pv 1) ze) rfl B.str PySem.Pv.boot_str) (λ_=>rfl))) (vg (yo (yM (y3 rfl B.isi (zl ix_tup (pv 1) ze) rfl B.str PySem.Pv.boot_str) (λ_=>rfl))))))
     (zh (zt yT))
     zB))))
   (zh (zt yT)))),?_]
  have s16:=yb
  erw[Is]at hA
  obtain⟨_,xs,e,hX,hI⟩:=hA;cases e;refine zj (λσ H'=>H'=H/\σ=[!!a,rK]) ?_ ?_
  ·rfl'
   exact#[_,.inr (.inr (.inl #[_,_,rfl,rfl,hX])),rL,T.ll,Ub trivial]
  rintro σ H1 ⟨rfl,rfl⟩:_;right;refine zj (λσ H'=>H'=H1/\∃v1,σ=[!!a,v1]) ?_ ?_
  ·rfl'
   refine#[#[_,hX],ForL.by (xs:=xs) (λi σ H'=>H'=H1/\∃v1,σ=[!!a,v1]) #[rfl,_,rfl] (λi σ H' _ h=>by rw[h.1];exact hX) ?_ λσ H' h=>h];refine nm4 ?_;rintro i x σ H' hx ⟨rfl,v1,rfl⟩:_;obtain⟨e,pe,se,hei,rfl,hqe,hse⟩:=YV hI hx;right
   erw[yK,ba,aZ]
   refine zj (λσ H''=>H''=H'/\σ=[!!a,!!pe]) ?_ ?_
   ·rfl'
    exact#[_,.inr (.inr (.inr #[_,_,rfl,rfl,hqe])),rL,T.tt,Ub #[_,.inr #[_,hqe,rfl],yU (λh=>absurd rfl h) λ_=>#[_,hqe,_,rfl,se,e.2.2,rfl,hse,rL,rfl,Ub rfl]]]
   rintro σ G ⟨rfl,rfl⟩:_;right
   rfl'
   exact#[_,hqe,_,rfl,_,.inl (.str _),rL,TX.ss,Ub #[_,hqe,_,rfl,_,.inl (.str _),rL,TX.ss,Ub trivial]]
  rintro σ H2 ⟨rfl,v1,rfl⟩:_;right
  rfl'
  exact q
theorem jc{w:()}{i:Nat}{q:Int}{f:Bool}{r:zp}(hr:ps[i]? = rJ r)(h:zr w q (sdl r f).1=rL):yj ps w ((i:Int),q,f)=rJ (yE w q (sdl r f).1 (sdl r f).2):=by
 have hi:=(rQ.mp hr).1
 have e:ps.getD ((i:Int),q,f).1.toNat ([],[])=r:=by
  show ps.getD ((i:Int)).toNat ([],[])=r;rw[aH,aa,hr];rfl
 rw[yI (show 0<=((i:Int),q,f).1/\((i:Int),q,f).1<ps.length by constructor <;> simp <;> lia),e,if_pos h]
theorem Qz{n:Nat}(h:e ∈ fEs rs n):EOk rs e:=by
 obtain⟨i,p,hi,hp,rfl⟩:=qz h;show yc rs p.1 [((i:Int),(0:Int),rL)]=rJ p.2
 have hs:zr p.1 0 (sdl p rL).1=rL:=by
  show zr p.1 0 p.1=rL;refine decide_eq_true #[⋯,⋯,?_];show (p.1.drop 0).take p.1.length=p.1;rw[dU,aG]
 erw[yc,jc hp hs,bL]
 show rJ (yE p.1 0 p.1 p.2)=rJ p.2;congr 1;unfold yE;show p.1.take 0 ++ p.2 ++ p.1.drop (0+p.1.length)=p.2;rw[bc,aY,aX ⋯,aQ]
theorem Ki(hb:∀e ∈ bs,EOk rs e){t:N3}(ht:t ∈ ovA (zb bs) (zb bs).length):EOk rs (qD bs t):=by
 obtain⟨i1,i2,i3,i4⟩:=qk ht;obtain⟨r,hr⟩:∃r,(zb bs)[t.1]? = rJ r:=#[_,ae i1];obtain⟨r2,hr2⟩:∃r,(zb bs)[t.2.1]? = rJ r:=#[_,ae i2];have l1:=xa hr;have l2:=xa hr2;have d1:(zb bs).getD t.1 ([],[])=r:=by rw[aa,hr];rfl
 have d2:(zb bs).getD t.2.1 ([],[])=r2:=by rw[aa,hr2];rfl
 rw[l1]at i3;rw[l1,l2]at i4;have eA:pkA (zb bs) t=yE (yd r.1 r2.1 t.2.2) 0 r.1 r.2:=by unfold pkA;rw[l1,l2,d1]
 have eB:pkB (zb bs) t=yE (yd r.1 r2.1 t.2.2) (t.2.2:Nat) r2.1 r2.2:=by unfold pkB;rw[l1,l2,d2]
 refine jS hb ?_;show yc (zb bs) (pkA (zb bs) t) [((t.1:Int),(0:Int),rM),((t.2.1:Int),(t.2.2:Int),rL)]=rJ (pkB (zb bs) t);obtain⟨b1,b2⟩:=YZ r.2 (qO r.1 r2.1 t.2.2);rw[eA,eB];have h1:=jc (f:=rM) (q:=0) hr (w:=yE (yd r.1 r2.1 t.2.2) 0 r.1 r.2) b1;have h2:=jc (f:=rL) (q:=(t.2.2:Int)) hr2 (w:=yd r.1 r2.1 t.2.2) (qi ⋯ i4)
 have h1':yj (zb bs) (yE (yd r.1 r2.1 t.2.2) 0 r.1 r.2) ((t.1:Int),(0:Int),rM)=rJ (yd r.1 r2.1 t.2.2):=by
  rw[h1];congr 1
 have h2':yj (zb bs) (yd r.1 r2.1 t.2.2) ((t.2.1:Int),(t.2.2:Int),rL)=rJ (yE (yd r.1 r2.1 t.2.2) (t.2.2:Nat) r2.1 r2.2):=h2
 erw[yc,h1',h2',bL]
theorem Wc{l:()}{es bs zs:List Ent}(h:vz k l ns 20 es (rJ bs))(hb:uY bs=rM)(hz:ThinL k l ns zs)(hp:zb bs=zb zs):BG k l ns bs:=by
 obtain⟨b1,_⟩:=jf hb
 have key:∀e ∈ bs,∃z ∈ zs,z.1=e.1/\z.2.1=e.2.1:=λe he=>by
  have:(e.1,e.2.1) ∈ zb zs:=by rw[<- hp];exact rR.mpr #[e,he,rfl]
  obtain⟨z,hz,e2⟩:=rR.mp this;injection e2 with h1 h2;exact#[z,hz,h1,h2]
 refine#[⋯,λe he=>?_,λe he=>?_]
 ·obtain⟨z,hzm,h1,h2⟩:=key e he;have hE:=hz.rl.e z hzm;have hn:=qr h bs rfl e he;unfold ut at hn;exact#[⋯,⋯,⋯,by rw[<- h1];exact hE.ma,by rw[<- h2];exact hE.mb]
 ·obtain⟨z,hzm,h1,h2⟩:=key e he;rw[<- h1,<- h2];exact hz.rl.lt z hzm
def Gd(rs:List zp)(k:Nat)(l:())(ns:List Int)(es:List Ent):Prop:=(∀e ∈ es,EOk rs e)/\(es=[]\/(ThinL k l ns es/\uY es=rM/\BG k l ns es))
theorem Z4{rs:List zp}{l:()}(G:OG l ns k){es bs:List Ent}(h:vz k l ns 20 es (rJ bs))(hb:uY bs=rM)(he:∀e ∈ es,EB l e)(ho:∀e ∈ es,EOk rs e):Gd rs k l ns bs:=by
 obtain⟨h1,zs,hz,hp⟩:=Ya (rs:=rs) G h bs rfl he ho;have hB:=Wc h hb hz hp;exact#[h1,.inr #[hz.pairs hp hB.e,hb,hB]]
theorem za6{rs:List zp}{k n:Nat}{l:()}(G:OG l ns k){kept fresh es:List Ent}{w:Bool}(h:Cpl k l ns n kept fresh w es):(∀e ∈ fresh,EB l e)->(∀e ∈ fresh,EOk rs e)->Gd rs k l ns kept->Gd rs k l ns es:=by
 induction h with
 | out kept fresh=>exact λ_ _ h=>h
 | slim _=>exact λ_ _ h=>h
 | far h hb _ _=>exact λhe ho _=>Z4 G h hb he ho
 | whole h hb _ _=>exact λhe ho _=>Z4 G h hb he ho
 | @more n kept fresh bs es w h hb ho' hu r ih =>
  intro he ho _;have hg:=Z4 (rs:=rs) G h hb he ho
  have hB:BG k l ns bs:=by
   obtain⟨h1,zs,hz,hp⟩:=Ya (rs:=rs) G h bs rfl he ho;exact Wc h hb hz hp
  have hnear:∀e ∈ bs,e.2.2.length<=240:=λe hm=>by
   have:=qr h bs rfl e hm;unfold ut at this;lia
  refine ih (λe hm=>?_) (λe hm=>?_) hg
  ·rcases rT.mp hm with hm | hm
   ·exact hB.e e hm
   ·obtain⟨t,ht,rfl⟩:=rR.mp hm;exact Wm hB hb hnear (rX.mp (bH ht)).1
  ·rcases rT.mp hm with hm | hm
   ·exact hg.1 e hm
   ·obtain⟨t,ht,rfl⟩:=rR.mp hm;exact Ki hg.1 (rX.mp (bH ht)).1
structure TTl(K:nV):Prop where
 tt:aS K (.type "tuple") (.type "tuple")=rJ rL
 bb:aS K (.type "bool") (.type "bool")=rJ rL
def Yd(K:nV):Sp:=λvs H Q _=>∃(p D:nW) (w:Bool) (es:List Ent),vs=[.ref p]/\H p=rJ (.tup [.bl w,.ref D])/\EnsL K H D es/\Q (.bl rL) H
theorem Kz:sQz 1 ["_law_found"] VA:=by nofun
theorem KL(B:Bt mg)(TT':TTl K)(F:("_law_told"^^^VA))(nq:(3<<<"_law_entries") ["_law_found"] [] (V8 K)):(4&&&["_law_found"]) (Yd K):=by
 exists F.ok Kz
 ·obtain⟨p,D,w,es,rfl,hp,hE,q⟩:=h
  refine#[_,(zi (zZ (PW.pt (vG (yo (yM (y3 rfl B.isi (pv 0) rfl B.tuple PySem.Pv.boot_tuple) (λ_=>rfl))) (vG (zG kK (zF B.len (pv 0)) ze (zI _)) (vg (yo (yM (y3 rfl B.isi (zl ix_tup (pv 0) ze) rfl B.bool PySem.Pv.boot_bool) (λ_=>rfl)))))))
    (zh (zt yT))
    zB)
   (zh (zt (cl0 nq hr .nil rfl (za (zl ix_tup (pv 0) ze) zf))))),?_]
  have s16:=yb;refine zj (λσ H'=>H'=H/\σ=[!!p]) ?_ ?_
  ·ac_rfl;exact#[_,.inl (.tup hp),rL,TT'.tt,yU (λe=>by cases e) λ_=>#[_,.inr #[_,SqT.of hp,rfl],yU (λe=>absurd rfl e) λ_=>#[_,SqT.of hp,_,rfl,_,.inl (.bl _),rL,TT'.bb,yU (λe=>by cases e) λ_=>trivial]]]
  rintro σ H1 ⟨rfl,rfl⟩:_;right;ac_rfl;exact#[_,SqT.of hp,_,rfl,D,es,rfl,hE.is,q]
def Rw(ps:List zp)(u v:()):Prop:=∃p,p ∈ ps/\∃a b,u=a ++ p.1 ++ b/\v=a ++ p.2 ++ b
inductive Rws(ps:List zp):()->()->Prop where
 | nil {u:()}:Rws ps u u
 | cons {u v w:()} (h:Rw ps u v) (h2:Rws ps v w):Rws ps u w
theorem Rw.ctx{u v:()}(h:Rw ps u v)(c d:()):Rw ps (c ++ u ++ d) (c ++ v ++ d):=by
 obtain⟨p,hp,a,b,rfl,rfl⟩:=h;exact#[p,hp,c ++ a,b ++ d,by erw[aP],by erw[aP]]
theorem Rws.ctx{u v:()}(h:Rws ps u v)(c d:()):Rws ps (c ++ u ++ d) (c ++ v ++ d):=by
 induction h with
 | nil=>exact .nil
 | cons s _ ih=>exact .cons (s.ctx c d) ih
section
variable{k:Nat}{l:()}{ws:List Int}{ps:List zp}
noncomputable def mu(k:Nat)(l:())(ws:List Int)(Ws:List (()))(v:()):Nat:=Ws.countP λy=>zO k l ws y v
end
section
variable{k:Nat}{l:()}{ws:List Int}{es fs:List Ent}
end
theorem none_of{w:()}(h:∀p ∈ ps,¬ Within p.1 w):zA w ps=rK:=by
 cases e:zA w ps with
 | none=>rfl
 | some u =>
  obtain⟨p,h1,h2⟩:=zX e;exact absurd (Ve h2) (h p (af h1))
theorem Zf{w:()}(h:zA w ps=rK):EndsAt ps w 0:=#[λi hi=>absurd hi (bU i),h,ay _]
theorem kG(bs:List Ent)(e:Ent):yt bs e 0 0=e:=by
 show (e.1,e.2.1,[] ++ e.2.2 ++ [])=e;rw[aY,aQ]
theorem XH{p w:()}(h:Within p w):p.length<=w.length/\(p.length=w.length->p=w):=by
 obtain⟨a,b,rfl⟩:=h
 erw[aj]
 refine#[⋯,λe=>?_];have ha:a=[]:=sw.mp ⋯;have hb:b=[]:=sw.mp ⋯;rw[ha,hb,aY,aQ]
structure TLe(k:Nat)(l:())(ns:List Int)(s:Nat)(e:Ent):Prop where
 a:e.1.length=s
 b:e.2.1.length<s
 lt:zO k l ns e.2.1 e.1=rL
 far:¬ ut e
theorem Uh{k s:Nat}{l:()}{bs es:List Ent}{r:Option (List Ent)}(h:yN k l ns bs es r):(∀e ∈ bs ++ es,TLe k l ns s e)->(bs ++ es).Pairwise (λa b=>a.1≠b.1)->r=rJ (bs ++ es):=by
 have key:∀{bs es:List Ent} {e:Ent},(∀x ∈ bs ++ e::es,TLe k l ns s x)->(bs ++ e::es).Pairwise (λa b=>a.1≠b.1)->EndsAt (zb bs) e.1 0/\EndsAt (zb bs) e.2.1 0/\TLe k l ns s e:=λ{bs es e} h1 h2=>by
  have he:=h1 e (by simp);refine#[Zf (none_of λp hp hw=>?_),Zf (none_of λp hp hw=>?_),he]
  all_goals
   obtain⟨x,hx,rfl⟩:=rR.mp hp;have hx':=h1 x (bh _ hx);have hl:=XH hw;have:=hx'.a;have:=he.a;have:=he.b
  ·exact (sr.mp h2).2.2 x hx e az (hl.2 (by show x.1.length=_;lia))
  ·have:=hl.1
   change x.1.length<=_ at this
   lia
 induction h with
 | nil bs=>intro _ _;rw[aQ]
 | @same bs es e i j r h1 h2 h3 h4 ih =>
  intro g1 g2;obtain⟨a1,a2,he⟩:=key g1 g2;rw[h1.uniq a1,h2.uniq a2]at h3;have h3':e.1.length=e.2.1.length:=congrArg ci h3;have:=he.a;have:=he.b;lia
 | @new bs es e i j r h1 h2 h3 h4 h5 ih =>
  intro g1 g2;obtain⟨a1,a2,he⟩:=key g1 g2
  have e0:zU k l ns (yt bs e i j)=e:=by
   rw[h1.uniq a1,h2.uniq a2,kG];unfold zU;rw[if_pos he.lt]
  rw[e0,aP]at ih;exact ih g1 g2
 | @far bs es e i j h1 h2 h3 h4 =>
  intro g1 g2;obtain⟨a1,a2,he⟩:=key g1 g2;rw[h1.uniq a1,h2.uniq a2,kG]at h4;exact absurd h4 he.far
 | @stuck bs es e h =>
  intro g1 g2;obtain⟨a1,a2,he⟩:=key g1 g2;rcases h with h | h
  ·exact absurd a1 (h 0)
  ·exact absurd a2 (h 0)
theorem Kv{k n s:Nat}{l:()}{r:Option (List Ent)}(h:vz k l ns (n+1) es r)(hz:∀zs,Lined k l ns es zs->(∀e ∈ zs,TLe k l ns s e)/\zs.Pairwise λa b=>a.1≠b.1):∃zs,Lined k l ns es zs/\r=rJ zs:=by
 have key:∀{zs r},Lined k l ns es zs->yN k l ns [] zs r->r=rJ zs:=λ{zs r} h1 h2=>by
  have:=Uh h2 (by rw[aY];exact (hz zs h1).1) (by rw[aY];exact (hz zs h1).2);rw[aY]at this;exact this
 cases h with
 | bad h1 h2=>cases key h1 h2
 | done h1 h2 h3=>exact#[_,h1,key h1 h2]
 | more h1 h2 h3 h4 =>
  cases key h1 h2;exact absurd rfl h3
noncomputable def lgR(p:zp):zp:=if p.1.length<p.2.length then (p.2,p.1)else p
theorem kW(rs:List zp):∀n,n<=rs.length->zb (fEs rs n)=rs.take n
 | 0,_=>by simp [fEs,zb]
 | n+1,h=>by
  have ih:=kW rs n ⋯;have e:rs[n]? = rJ (rs[n]'⋯):=ae ⋯;rw[zJ e,<- ih]
  erw[fEs,zb,ao]
  congr 1;rw[e];rfl
structure TLr(l:())(s:Nat)(p:zp):Prop where
 a:p.1.length=s
 b:p.2.length<s
 ma:∀c ∈ p.1,c ∈ l
 mb:∀c ∈ p.2,c ∈ l
theorem UZ{k s:Nat}{l:()}{rs rs':List zp}{zs:List Ent}(hk:k≠2)(hs:∀p ∈ rs,TLr l s p)(h60:s<=60)(hA:(rs'.map lgR).Perm rs)(hn:(rs.map Prod.fst).Nodup)(hz:Lined k l ns (fEs rs' rs'.length) zs):((∀e ∈ zs,TLe k l ns s e)/\zs.Pairwise λa b=>a.1≠b.1)/\(zb zs).Perm rs/\∀e ∈ zs,e.2.2.length=1:=by
 have less:∀{u v:()},u.length<v.length->zO k l ns u v=rL/\zO k l ns v u=rM:=λ{u v} h=>by
  unfold zO zu;rw[if_neg hk,if_neg hk,if_neg ⋯,if_neg ⋯];exact#[decide_eq_true ⋯,decide_eq_false ⋯]
 have mem:∀p ∈ rs',TLr l s (lgR p):=λp hp=>hs _ (hA.mem_iff.mp (rR.mpr #[p,hp,rfl]))
 have ne:∀p ∈ rs',p.1.length≠p.2.length:=λp hp e=>by
  have h:=mem p hp;unfold lgR at h;rw[if_neg ⋯]at h;have:=h.a;have:=h.b;lia
 have rul:∀e:Ent,e.1.length≠e.2.1.length->((zU k l ns e).1,(zU k l ns e).2.1)=lgR (e.1,e.2.1)/\zO k l ns (zU k l ns e).2.1 (zU k l ns e).1=rL/\(zU k l ns e).2.2.length=e.2.2.length:=λe h=>by
  unfold zU lgR;by_cases g:e.1.length<e.2.1.length
  ·rw[if_neg (by rw[(less g).2];decide),if_pos g];exact#[rfl,(less g).1,yR _]
  ·have g':=(less (show e.2.1.length<e.1.length by lia)).1;rw[if_pos g',if_neg g];exact#[rfl,g',rfl]
 have ents:∀e ∈ fEs rs' rs'.length,e.1.length≠e.2.1.length/\e.2.2.length=1/\TLr l s (lgR (e.1,e.2.1)):=λe he=>by
  obtain⟨i,p,hi,hp,rfl⟩:=qz he;have hm:=af hp;exact#[ne p hm,rfl,mem p hm]
 have raw:ur k l ns (fEs rs' rs'.length)=(fEs rs' rs'.length).map (zU k l ns):=by
  unfold ur
  rw[List.filter_eq_self.mpr λe he=>by
   have:=(ents e he).1
   erw[cJ,decide_eq_false_iff_not]
   exact λh=>this (by rw[h])]
 have hp0:=hz.perm;rw[raw]at hp0
 have pz:(zb zs).Perm rs:=by
  refine ((hp0.map λe:Ent=>(e.1,e.2.1)).trans ?_).trans hA
  have e1:((fEs rs' rs'.length).map (zU k l ns)).map (λe:Ent=>(e.1,e.2.1))=(zb (fEs rs' rs'.length)).map lgR:=by
   unfold zb;rw[bF,bF];exact bA λe he=>(rul e (ents e he).1).1
  rw[e1,kW _ _ (al _),aG]
 have zm:∀e ∈ zs,∃y ∈ fEs rs' rs'.length,e=zU k l ns y:=λe he=>by
  obtain⟨y,hy,rfl⟩:=rR.mp (hp0.mem_iff.mp he);exact#[y,hy,rfl]
 have z1:∀e ∈ zs,e.2.2.length=1:=λe he=>by
  obtain⟨y,hy,rfl⟩:=zm e he;rw[(rul y (ents y hy).1).2.2];exact (ents y hy).2.1
 refine#[#[λe he=>?_,?_],pz,z1]
 ·have hr:TLr l s (e.1,e.2.1):=hs _ (pz.mem_iff.mp (rR.mpr #[e,he,rfl]));have h1:=z1 e he;obtain⟨y,hy,rfl⟩:=zm e he;have ha:=hr.a;have hb:=hr.b;refine#[ha,hb,(rul y (ents y hy).1).2.1,λh=>?_];unfold ut at h;simp only at ha hb;lia
 ·have hn':(zs.map λe:Ent=>e.1).Nodup:=by
   have:(zb zs).map Prod.fst=zs.map λe:Ent=>e.1:=by unfold zb;rw[bF];rfl
   rw[<- this];exact ((pz.map Prod.fst).nodup_iff).mpr hn
  exact sx.mp hn'
theorem wy(hs:∀p ∈ ps,p.2.length<p.1.length){w:()}:∀{i:Nat},qJ ps w i->(wAt ps w i).length+i<=w.length
 | 0,_=>al _
 | i+1,h=>by
  have ih:=wy hs (i:=i) λj hj=>h j ⋯
  cases e:zA (wAt ps w i) ps with
  | none=>exact absurd e (h i ⋯)
  | some u =>
   obtain⟨p,h1,h2⟩:=zX e;obtain⟨e1,_⟩:=ye h2;rw[xh e];unfold jZ yE;rw[yB h1];have e2:=congrArg ci e1;have:=hs p (af h1)
   erw[aj]at e2 ⊢
   lia
theorem ja(hs:∀p ∈ ps,p.2.length<p.1.length){w:()}(hw:w.length<=40):∃i,EndsAt ps w i/\i<=w.length:=by
 rcases Vw ps w with ⟨i,h⟩ | ⟨h1,h2⟩
 ·have:=wy hs h.live;exact#[i,h,⋯]
 ·have:=wy hs (w:=w) (i:=41) λi hi=>by
   by_cases e:i=40
   ·rw[e];exact h2
   ·exact h1 i ⋯
  lia
theorem uq{w:()}{i:Nat}(h:EndsAt ps w i):goJ ps 40 w=rJ i:=by
 cases e:goJ ps 40 w with
 | none=>exact absurd h.end_ (YK e i h.most)
 | some j =>
  obtain⟨_,h2,h3⟩:=Yl e;rw[jN h2 h3 h.live h.end_]
def AtF(v:())(ps:List zp)(i:Nat)(x y:Int):Prop:=∃r,FirstN v ps 0 v.length i r/\((r=rK/\x=(v.length:Int)+1)\/∃j n:Nat,r=rJ (j,n)/\j<i/\n<v.length/\x=(n:Int)/\y=(j:Int))
theorem st_of{v o:()}{q:Nat}:zr v (q:Int) o=rL ↔ q+o.length<=v.length/\(v.drop q).take o.length=o:=by
 unfold zr;rw[decide_eq_true_eq,aH];exact#[λh=>#[⋯,h.2.2],λh=>#[⋯,⋯,h.2]]
theorem AtF.next{v:()}{i:Nat}{x y z:Int}{r:zp}(h:AtF v ps i x y)(hr:ps[i]? = rJ r)(hne:r.1≠[])(hz:zcv v r.1 z):(z<0->AtF v ps (i+1) x y)/\(0<=z->if z<x\/(z=x/\(i:Int)<y)then AtF v ps (i+1) z (i:Int)else AtF v ps (i+1) x y):=by
 obtain⟨r0,hF,hx⟩:=h
 have lift:FirstN v ps 0 v.length (i+1) r0->AtF v ps (i+1) x y:=λhF'=>by
  refine#[r0,hF',?_];rcases hx with hx | ⟨j,n,h1,h2,h3⟩
  ·exact .inl hx
  ·exact .inr #[j,n,h1,⋯,h3]
 have hpos:0<r.1.length:=sj.mpr hne;rcases hz with ⟨rfl,hz⟩ | ⟨q,rfl,h1,h2⟩
 ·refine#[λ_=>lift (hF.keep hr λq _ _=>?_),λh=>by lia];rw[d8];exact λh=>hz q (st_of.mp h)
 ·refine#[λh=>by lia,λ_=>?_]
  have fst:∀q':Nat,0<=q'->q'<q->zr v (q':Int) r.1=rM:=λq' _ hq=>by
   rw[d8];exact λh=>h2 q' hq (st_of.mp h)
  split
  ·rename_i hlt
   have hqx:(q:Int)<x:=by
    rcases hlt with h | ⟨h,hy⟩
    ·exact h
    ·rcases hx with ⟨_,rfl⟩ | ⟨j,n,_,hj,_,_,rfl⟩
     ·lia
     ·lia
   refine#[rJ (i,q),hF.take hr (ay _) ?_ (st_of.mpr h1) fst,.inr #[i,q,rfl,⋯,⋯,rfl,rfl]];rcases hx with ⟨rfl,rfl⟩ | ⟨j,n,rfl,_,_,rfl,_⟩
   ·show q<v.length;lia
   ·show q<n;lia
  ·rename_i hlt;refine lift (hF.keep hr λq' _ hq=>fst q' (ay _) ?_);rcases hx with ⟨rfl,rfl⟩ | ⟨j,n,rfl,_,_,rfl,_⟩
   ·exact absurd (.inl ⋯) hlt
   ·have:q'<n:=hq;have:¬ (q:Int)<(n:Int):=λh=>hlt (.inl h);lia
structure ShP(ps:List zp):Prop where
 ne:NeL ps
 sh:∀p ∈ ps,p.2.length<p.1.length
 s:∀p ∈ ps,p.1.length<=60
 n:ps.length<=1000
def uF(K:nV):Sp:=λvs H Q _=>∃(a:nW) (ps:List zp) (w:()),vs=[.ref a,.str (tx w)]/\LsA K H a (ps.map dR)/\ShP ps/\w.length<=100/\∀(i:Nat) (H':Hp),Same H H'->qJ ps w i->zA (wAt ps w i) ps=rK->Q (.str (tx (wAt ps w i))) H'
theorem qS{a:nW}{w:()}(h1:LsA K H a (ps.map dR))(h2:ShP ps)(h3:w.length<=100)(h:∀(i:Nat) (H':Hp),Same H H'->qJ ps w i->zA (wAt ps w i) ps=rK->Q (.str (tx (wAt ps w i))) H'):uF K [.ref a,.str (tx w)] H Q E:=#[a,ps,w,rfl,h1,h2,h3,h]
structure HMn(mg:og->Option nX):Prop where
 m:mg "min" = rK
theorem gJ:sQz 2 ["_law_rules","_law_word_here","_law_first","_law_number","_law_rule","_law_at","_law_behind"] VE:=by nofun
theorem JP(B:Bt mg)(HM:HMn mg)(F:("_law_form"^^^VE)) :(1&&&["_law_rules","_law_word_here"]) (uF K):=by
 exists F.ok gJ
 ·obtain⟨a,ps,w,rfl,hA,hP,hwl,q⟩:=h
  refine#[_,(zh (j5 PassesOwn.never (yM yT (λ_=>rfl))
    (zi (zy 2 gJ.nd (z5 (za (zC z6 (zF B.len (pv 1)) ze) (za ze zf))))
    (zi (yg PassesOwn.never rfl (yQ rfl B.enum (za (pv 0) zf)) (vn (n:=2) rfl (zV (zv (i:=3) gJ.nd rfl (.inl rfl)) (zV (zv (i:=4) gJ.nd rfl (.inl rfl)) xM)))
     (zi (zy 5 gJ.nd (uX bK dB dC J9 (pv 1) (za (zl ix_tup (pv 4) ze) zf)))
     (zh (zZ (zG op_ge' (pv 5) ze (zI _))
      (zh (zy 2 gJ.nd (yw (zay rfl (jW hr)) rfl HM.m e8 (za (pv 2) (za (z5 (za (pv 5) (za (pv 3) zf))) zf)))))
      zB))))
    (zi (zZ (zG Y7 (zl ix_tup (pv 2) ze) (zF B.len (pv 1)) (zI _))
     (zh (zt (pv 1)))
     zB)
    (zi (zy 4 gJ.nd (zl ix_list (pv 0) (zl ix_tup (pv 2) ze)))
    (zi (zy 6 gJ.nd (zP yx (pv 1) (zR (zC z6 (zl ix_tup (pv 2) ze) (zF B.len (zl ix_tup (pv 4) ze)))) ya))
    (zh (zy 1 gJ.nd (zC zN (zC zN (zP yx (pv 1) ya (zR (zl ix_tup (pv 2) ze))) (zl ix_tup (pv 4) ze)) (pv 6))))))))))),?_]
  have s16:=yb;obtain⟨xs,hX,hI⟩:=id hA;have hxl:=hI.len;rw[ac]at hxl;have hpn:=hP.n;unfold Y4;refine#[λm σ H'=>Same H H'/\∃(k:Nat) (v2 v3 v4 v5 v6:Option V),(m=(wAt ps w k).length/\qJ ps w k)/\σ=[!!a,rJ (.str (tx (wAt ps w k))),v2,v3,v4,v5,v6],#[_,Same.refl _,0,rK,rK,rK,rK,rK,#[rfl,λi hi=>absurd hi (bU i)],rfl],?_];rintro m σ H1 ⟨s1,k,v2,v3,v4,v5,v6,⟨rfl,hk⟩,rfl⟩;have hvl:=wy hP.sh hk
  rfl'
  refine#[λσ' H''=>Same H H''/\∃(u:Nat × Nat) (v2 v3 v4 v5 v6:Option V),zA (wAt ps w k) ps=rJ u/\σ'=[!!a,rJ (.str (tx (jZ (wAt ps w k) ps u))),v2,v3,v4,v5,v6],?_,?_]
  ·rintro σ' H'' ⟨s2,u,v2,v3,v4,v5,v6,h,rfl⟩
   have hk1:qJ ps w (k+1):=λi hi=>by
    by_cases e:i=k
    ·rw[e,h];intro z;cases z
    ·exact hk i ⋯
   have e:=xh h
   have m1:(wAt ps w (k+1)).length<(wAt ps w k).length:=by
    obtain⟨p,h1,h2⟩:=zX h;obtain⟨e1,_⟩:=ye h2;have e2:=congrArg ci e1;have:=hP.sh p (af h1);rw[e];unfold jZ yE;rw[yB h1]
    erw[aj]at e2 ⊢
    lia
   exact#[_,m1,s2,k+1,rfl,hk1,v2,v3,v4,v5,v6,by rw[e]]
  generalize hv:wAt ps w k=v at hvl;refine zj (λσ H'=>Same H H'/\∃q:nW,H' q=rJ (.tup [.int ((v.length:Int)+1),.int 0])/\σ=[!!a,~~~v,!!q,v3,v4,v5,v6]) ?_ ?_
  ·rfl'
   exact#[⋯,⋯,λp hp=>#[s1.trans (zd hp),zc]]
  rintro σ H2 ⟨s2,q0,hq0,rfl⟩:_;right;refine zj (λσ H'=>Same H H'/\∃(q0:nW) (x y:Int),H' q0=rJ (.tup [.int x,.int y])/\AtF v ps ps.length x y/\∃v3 v4 v5:Option V,σ=[!!a,~~~v,!!q0,v3,v4,v5,v6]) ?_ ?_
  ·rfl'
   refine#[#[_,SqL.of (s2 _ _ hX)],ForEL.by (xs:=xs) (λi σ H'=>Same H H'/\∃(q0:nW) (x y:Int),H' q0=rJ (.tup [.int x,.int y])/\AtF v ps i x y/\∃v3 v4 v5:Option V,σ=[!!a,~~~v,!!q0,v3,v4,v5,v6]) #[s2,q0,_,_,hq0,#[rK,.inl #[rfl,λj q h=>absurd h (bU _)],.inl #[rfl,rfl]],v3,v4,v5,rfl] (λi σ H' _ h=>SqL.of (h.1 _ _ hX)) ?_ ?_]
   ·rintro i x σ H3 p3 hx ⟨s3,q0,x0,y0,hq0,hat,v3,v4,v5,rfl⟩ hp3;have hi:=(rQ.mp hx).1;obtain⟨r,p,hr,rfl,hsq⟩:=hI.getR hx;have sp3:=zd (o:=.tup [.int (i:Nat),.ref p]) hp3;have s4:=s3.trans sp3;have hq4:=sp3 _ _ hq0;have hsq4:=zk s4 hsq
    rfl'
    refine#[_,SqT.of zc,rfl,_,_,rfl,_,_,rfl,rfl,?_];generalize upd H3 p3 (.tup [.int (i:Nat),.ref p])=H4 at s4 hq4 hsq4;refine zj (λσ H'=>H'=H4/\∃z:Int,zcv v r.1 z/\σ=[!!a,~~~v,!!q0,-~~~i,!!p,~~~!z,v6]) ?_ ?_
    ·rfl'
     exact#[_,hsq4,_,rfl,v,r.1,rfl,rfl,λz hz=>#[rfl,z,hz,rfl]]
    rintro σ H5 ⟨rfl,z,hz,rfl⟩:_;have hnx:=hat.next hr (hP.ne r (af hr)) hz;right
    rfl'
    refine yU (λh0=>#[⋯,λp5 hp5=>?_]) λh0=>#[s4,q0,x0,y0,hq4,hnx.1 ⋯,rfl];have sp5:=zd (o:=.tup [.int z,.int (i:Nat)]) hp5;refine#[q0,p5,x0,y0,z,(i:Nat),rfl,SqT.of (sp5 _ _ hq4),SqT.of zc,s4.trans sp5,?_];have hy:=hnx.2 h0;by_cases g:z<x0\/(z=x0/\(i:Int)<y0)
    ·rw[if_pos g]at hy ⊢;exact#[p5,_,_,zc,hy,rfl]
    ·rw[if_neg g]at hy ⊢;exact#[q0,_,_,sp5 _ _ hq4,hy,rfl]
   ·rintro σ H' ⟨s',q0,x,y,h1,h2,v3,v4,v5,rfl⟩;exact#[s',q0,x,y,h1,by rw[<- hxl];exact h2,v3,v4,v5,rfl]
  rintro σ H3 ⟨s3,q0,x,y,hq0,⟨r0,hF,hat⟩,v3,v4,v5,rfl⟩:_;have hfu:=jr hF;right;refine zj (λσ H'=>H'=H3/\(∃(n j:Nat) (p:zp),x=(n:Int)/\y=(j:Int)/\ps[j]? = rJ p/\zr v (n:Int) p.1=rL/\zA v ps=rJ (j,n))/\σ=[!!a,~~~v,!!q0,v3,v4,v5,v6]) ?_ ?_
  ·rfl'
   refine#[_,SqT.of hq0,_,rfl,⋯,_,rfl,yU (λhg=>?_) λhg=>?_]
   ·rcases hat with ⟨rfl,_⟩ | ⟨j,n,_,_,hn,rfl,_⟩
    ·rw[<- hv]at hfu ⊢;exact q k H3 s3 hk hfu.symm
    ·lia
   ·obtain⟨j,n,rfl,_,_,h1,h2⟩:=hat.resolve_left λh=>hg (by have:=h.2;lia);obtain⟨p,g1,g2⟩:=zX hfu.symm;exact#[n,h1,j,h2,p,g1,g2,hfu.symm]
  rintro σ H4 ⟨rfl,⟨n,j,r,rfl,rfl,hr,hst,hfu⟩,rfl⟩:_;obtain⟨hn1,hn2⟩:=st_of.mp hst;have hrm:=af hr;have hrl:=hP.s r hrm;have hrs:=hP.sh r hrm
  obtain⟨x3,hx3,hsq3⟩:∃p3:nW,xs[j]? = rJ (.ref p3)/\SqT K H4 p3 [.str (tx r.1),.str (tx r.2)]:=by
   have hj:=(rQ.mp hr).1;have hx:xs[j]? = rJ (xs[j]'⋯):=ae ⋯;obtain⟨r',p,hr',e,hsq⟩:=hI.getR hx;rw[hr]at hr';cases hr';exact#[p,by rw[hx,e],zk s3 hsq]
  right;refine zj (λσ H'=>H'=H4/\σ=[!!a,~~~v,!!q0,v3,!!x3,v5,v6]) ?_ ?_
  ·rfl'
   exact#[_,SqT.of hq0,_,rfl,_,rfl,_,SqL.of (s3 _ _ hX),jC hx3]
  rintro σ H5 ⟨rfl,rfl⟩:_;right;refine zj (λσ H'=>H'=H5/\σ=[!!a,~~~v,!!q0,v3,!!x3,v5,rJ (.str (tx (v.drop (n+r.1.length))))]) ?_ ?_
  ·rfl'
   refine#[_,SqT.of hq0,_,rfl,_,hsq3,_,rfl,_,#[by rw[zE];lia,rfl],_,rfl,⋯,?_];rw[zE,<- Int.natCast_add,yS v (br _),aH]
  rintro σ H6 ⟨rfl,rfl⟩:_;right
  rfl'
  have e:v.take n ++ r.2 ++ v.drop (n+r.1.length)=jZ v ps (j,n):=by
   unfold jZ yE;rw[yB hr];rfl
  refine#[_,SqT.of hq0,_,rfl,_,rfl,⋯,_,hsq3,_,rfl,_,rfl,?_,?_,s3,_,hfu,?_]
  all_goals erw[zE,yA,vo v (br _),aH,aj,aC,aL]
  ·lia
  ·lia
  ·rw[e]
def zcr:List V->Hp->VK->Prop:=λxs H Q=>∃i j,xs=[.int i,.int j]/\Q (.int (if j<i then j else i)) H
theorem zaL{X:Cx}(hc:X.calm=rL):wq X (.builtin "min") zcr:=WE hc
theorem KY{A B C X Y:Prop}[Decidable A][Decidable B][Decidable C](h1:A->(B\/C)->X)(h2:¬ (A/\(B\/C))->Y):if A then (if B then X else if C then X else Y)else Y:=by
 by_cases a:A <;> by_cases b:B <;> by_cases c:C <;> simp_all
noncomputable def ke(ps:List zp):Bool:=(ovA ps ps.length).all (ZI ps 40)
theorem metA_un:ke ps=rL ↔ unG ps 40=[]:=by
 unfold ke unG;rw[List.all_eq_true,List.filter_eq_nil_iff];exact#[λh t ht=>by rw[h t ht];decide,λh t ht=>by simpa using h t ht]
theorem KG{i j n sz:Nat}{r o:zp}(hr:ps[i]? = rJ r)(ho:ps[j]? = rJ o)(hn:n<r.1.length)(hsz:sz=min (r.1.length - n) o.1.length):y6 (lf ps i) (lf ps j) n=decide ((r.1.drop n).take sz=o.1.take sz)/\pkA ps (i,j,n)=r.2 ++ o.1.drop sz/\pkB ps (i,j,n)=(r.1 ++ o.1.drop sz).take n ++ o.2 ++ (r.1 ++ o.1.drop sz).drop (n+o.1.length):=by
 have d1:ps.getD i ([],[])=r:=by rw[aa,hr];rfl
 have d2:ps.getD j ([],[])=o:=by rw[aa,ho];rfl
 have ed:o.1.drop (r.1.length - n)=o.1.drop sz:=by
  rcases fH (r.1.length - n) o.1.length with h | h
  ·rw[hsz,bT h]
  ·rw[hsz,cf h,aX h,dz]
 refine#[?_,?_,?_]
 ·rw[xa hr,xa ho];unfold y6
  have e1:(r.1.drop n).take o.1.length=(r.1.drop n).take sz:=by
   rw[hsz];rcases fH (r.1.length - n) o.1.length with h | h
   ·rw[bT h,aW (by rw[aL];exact h),aW (by rw[aL];exact al _)]
   ·rw[cf h]
  have e2:o.1.take (r.1.length - n)=o.1.take sz:=by
   rw[hsz];rcases fH (r.1.length - n) o.1.length with h | h
   ·rw[bT h]
   ·rw[cf h,aW h,aG]
  rw[e1,e2]
 ·unfold pkA yE yd;rw[xa hr,xa ho,d1];show (r.1 ++ o.1.drop (r.1.length - n)).take 0 ++ r.2 ++ (r.1 ++ o.1.drop (r.1.length - n)).drop (0+r.1.length)=_;rw[bc,aY,eC,e7,ed]
 ·unfold pkB yE yd;rw[xa hr,xa ho,d2];show (r.1 ++ o.1.drop (r.1.length - n)).take n ++ o.2 ++ (r.1 ++ o.1.drop (r.1.length - n)).drop (n+o.1.length)=_;rw[ed]
theorem kY(hP:ShP ps){t:N3}{i j:Nat}(h1:(pkA ps t).length<=40)(h2:(pkB ps t).length<=40)(a1:qJ ps (pkA ps t) i)(a2:zA (wAt ps (pkA ps t) i) ps=rK)(b1:qJ ps (pkB ps t) j)(b2:zA (wAt ps (pkB ps t) j) ps=rK):ZI ps 40 t=decide (wAt ps (pkA ps t) i=wAt ps (pkB ps t) j):=by
 have l1:=wy hP.sh a1;have l2:=wy hP.sh b1;unfold ZI zca;rw[uq #[a1,a2,⋯],uq #[b1,b2,⋯]];rfl
def kR(K:nV):Sp:=λvs H Q _=>∃(a:nW) (ps:List zp),vs=[.ref a]/\LsA K H a (ps.map dR)/\ShP ps/\(∀p ∈ ps,p.1.length<=10/\p.2.length<=10)/\∀H':Hp,Same H H'->Q (.bl (ke ps)) H'
theorem gp:sQz 1 ["_law_rules","_law_k","_law_rule","_law_n","_law_other","_law_place","_law_size","_law_agree","_law_word_here","_law_left","_law_behind","_law_right"] Wv:=by nofun
theorem J5(B:Bt mg)(HM:HMn mg)(F:("_law_meet"^^^Wv))(nt:(1<<<"_law_form") ["_law_rules","_law_word_here"] [] (uF K)):(2&&&["_law_rules"]) (kR K):=by
 exists F.ok gp
 ·obtain⟨a,ps,rfl,hA,hP,hsd,q⟩:=h
  refine#[_,(zi (yg PassesOwn.never rfl (yQ rfl B.enum (za (pv 0) zf)) (vn (n:=2) rfl (zV (zv (i:=1) gp.nd rfl (.inl rfl)) (zV (zv (i:=2) gp.nd rfl (.inl rfl)) xM)))
    (zh (yg PassesOwn.never rfl (yQ rfl B.enum (za (pv 0) zf)) (vn (n:=2) rfl (zV (zv (i:=3) gp.nd rfl (.inl rfl)) (zV (zv (i:=4) gp.nd rfl (.inl rfl)) xM)))
     (zh (yg PassesOwn.never rfl (yz rfl B.range (za (zF B.len (zl ix_tup (pv 2) ze)) zf)) (zv (i:=5) gp.nd rfl (.inl rfl))
      (zi (zy 6 gp.nd (yw (zaL rfl) rfl HM.m e8 (za (zC xN (zF B.len (zl ix_tup (pv 2) ze)) (pv 5)) (za (zF B.len (zl ix_tup (pv 4) ze)) zf))))
      (zi (zy 7 gp.nd (wu qA (zP yx (zl ix_tup (pv 2) ze) (zR (pv 5)) (zR (zC z6 (pv 5) (pv 6)))) (zP yx (zl ix_tup (pv 4) ze) ya (zR (pv 6))) (zI _)))
      (zh (zZ (PW.pt (zaC (yM (pv 7) (λ_=>rfl)) (KM (PW.pt (vG (zG kK (pv 1) (pv 3) (zI _)) (vg (zG Y7 (pv 5) ze (zI _))))))))
       (zi (zy 8 gp.nd (zC zN (zl ix_tup (pv 2) ze) (zP yx (zl ix_tup (pv 4) ze) (zR (pv 6)) ya)))
       (zi (zy 9 gp.nd (zC zN (zl ix_tup (pv 2) ze) (zP yx (zl ix_tup (pv 4) ze) (zR (pv 6)) ya)))
       (zi (zy 10 gp.nd (zP yx (pv 8) (zR (zC z6 (pv 5) (zF B.len (zl ix_tup (pv 4) ze)))) ya))
       (zi (zy 11 gp.nd (zC zN (zC zN (zP yx (pv 8) ya (zR (pv 5))) (zl ix_tup (pv 4) ze)) (pv 10)))
       (zh (zZ (zG kK (cl0 nt hr .nil rfl (za (pv 0) (za (pv 9) zf))) (cl0 nt hr .nil rfl (za (pv 0) (za (pv 11) zf))) (zI _))
        (zh (zt yT))
        zB))))))
       zB)))))))))
   (zh (zt yT))),?_]
  have s16:=yb;have hpl:=hP.n;obtain⟨xs,hX,hI⟩:=id hA;have hxl:=hI.len;rw[ac]at hxl
  refine zaP (λσ H'=>Same H H'/\∀t ∈ ovA ps ps.length,ZI ps 40 t=rL) ?_ λσ H' s'=>by
   rfl'
   have e:ke ps=rL:=sf.mpr s'.2;have:=q H' s'.1;rw[e]at this;exact this
  rfl'
  refine#[#[_,SqL.of hX],ForEL.by (xs:=xs) (λi σ H'=>Same H H'/\(∀t ∈ ovA ps i,ZI ps 40 t=rL)/\∃v1 v2 v3 v4 v5 v6 v7 v8 v9 v10 v11:Option V,σ=[!!a,v1,v2,v3,v4,v5,v6,v7,v8,v9,v10,v11]) #[Same.refl _,λt h=>(nomatch h),rK,rK,rK,rK,rK,rK,rK,rK,rK,rK,rK,rfl] (λi σ H' _ h=>SqL.of (h.1 _ _ hX)) ?_ λσ H' h=>#[h.1,by rw[<- hxl];exact h.2.1]];rintro i x σ H1 p1 hx ⟨s1,m1,v1,v2,v3,v4,v5,v6,v7,v8,v9,v10,v11,rfl⟩ hp1;obtain⟨r,p,hr,rfl,hsq⟩:=hI.getR hx;have hrm:=af hr;obtain⟨r1,r2⟩:=hsd r hrm;have s2:=s1.trans (zd (o:=.tup [.int (i:Nat),.ref p]) hp1);refine U9 (SqT.of zc) ?_;generalize upd H1 p1 (.tup [.int (i:Nat),.ref p])=H2 at s2
  rfl'
  refine#[#[_,SqL.of (s2 _ _ hX)],ForEL.by (xs:=xs) (λj σ H'=>Same H H'/\(∀t ∈ ovI ps i j,ZI ps 40 t=rL)/\∃v3 v4 v5 v6 v7 v8 v9 v10 v11:Option V,σ=[!!a,-~~~i,!!p,v3,v4,v5,v6,v7,v8,v9,v10,v11]) #[s2,λt h=>(nomatch h),v3,v4,v5,v6,v7,v8,v9,v10,v11,rfl] (λi σ H' _ h=>SqL.of (h.1 _ _ hX)) ?_ ?_]
  rotate_left
  ·rintro σ H' ⟨s',m',v3,v4,v5,v6,v7,v8,v9,v10,v11,rfl⟩;refine#[s',λt ht=>?_,_,_,_,_,_,_,_,_,_,_,_,rfl];rw[uw,<- hxl]at ht;exact (rT.mp ht).elim (m1 t) (m' t)
  rintro j x σ H3 p3 hx3 ⟨s3,m3,v3,v4,v5,v6,v7,v8,v9,v10,v11,rfl⟩ hp3;obtain⟨o,po,ho,rfl,hso⟩:=hI.getR hx3;have hom:=af ho;obtain⟨o1,o2⟩:=hsd o hom;have s4:=s3.trans (zd (o:=.tup [.int (j:Nat),.ref po]) hp3);refine U9 (SqT.of zc) ?_;generalize upd H3 p3 (.tup [.int (j:Nat),.ref po])=H4 at s4
  rfl'
  refine#[_,zk s4 hsq,_,rfl,_,#[by rw[zE];lia,rfl],⋯,by rw[zE];lia,?_];rw[zE];refine ForR.by (λn σ H'=>Same H H'/\(∀t ∈ kj ps i j n,ZI ps 40 t=rL)/\∃v5 v6 v7 v8 v9 v10 v11:Option V,σ=[!!a,-~~~i,!!p,-~~~j,!!po,v5,v6,v7,v8,v9,v10,v11]) #[s4,λt h=>(nomatch h),v5,v6,v7,v8,v9,v10,v11,rfl] ?_ ?_
  rotate_left
  ·rintro σ H' ⟨s',m',v5,v6,v7,v8,v9,v10,v11,rfl⟩;refine#[s',λt ht=>?_,_,_,_,_,_,_,_,_,_,rfl];rw[wX,xa hr]at ht;exact (rT.mp ht).elim (m3 t) (m' t)
  rintro n σ H5 hn ⟨s5,m5,v5,v6,v7,v8,v9,v10,v11,rfl⟩;have hn':n<r.1.length:=⋯
  erw[yK,ba,aZ]
  rw[show (0:Int)+(n:Int)=(n:Int) by lia];have hsq5:=zk s5 hsq;have hso5:=zk s5 hso;refine zj (λσ H'=>H'=H5/\∃sz:Nat,sz=min (r.1.length - n) o.1.length/\σ=[!!a,-~~~i,!!p,-~~~j,!!po,-~~~n,-~~~sz,v7,v8,v9,v10,v11]) ?_ ?_
  ·rfl'
   refine#[_,hsq5,_,rfl,_,#[by rw[zE];lia,rfl],_,hso5,_,rfl,_,#[by rw[zE];lia,rfl],_,_,rfl,rfl,?_];rw[zE,zE];refine congrArg V.int ?_;split <;> lia
  rintro σ H6 ⟨rfl,sz,hsz,rfl⟩:_;right;refine zj (λσ H'=>H'=H6/\σ=[!!a,-~~~i,!!p,-~~~j,!!po,-~~~n,-~~~sz,rJ (.bl (decide ((r.1.drop n).take sz=o.1.take sz))),v8,v9,v10,v11]) ?_ ?_
  ·rfl'
   refine#[_,hsq5,_,rfl,_,rfl,by rw[zE];lia,_,hso5,_,rfl,_,rfl,by rw[zE];lia,?_];rw[uU,uU,vo _ (br _),QZ _ (br _) ⋯,aH,aH,show ((n:Int)+(sz:Int) - (n:Int)).toNat=sz by lia]
  rintro σ H7 ⟨rfl,rfl⟩:_;obtain⟨eg,eA,eB⟩:=KG hr ho hn' hsz;right
  rfl'
  refine KY (λhag hne=>?_) λhno=>#[s5,λt ht=>?_]
  rotate_left
  ·rw[wl,eg]at ht;refine (rT.mp ht).elim (m5 t) λht=>?_;rw[if_neg]at ht
   ·cases ht
   ·intro hb
    erw[bE,Bool.or_eq_true,decide_eq_true_eq]at hb
    exact hno #[hb.2,hb.1.imp (λh z=>h ⋯) λh=>by lia]
  have hsl:(o.1.drop sz).length<=10:=by rw[aL];lia
  refine zj (λσ H'=>H'=H7/\σ=[!!a,-~~~i,!!p,-~~~j,!!po,-~~~n,-~~~sz,rJ (.bl (decide ((r.1.drop n).take sz=o.1.take sz))),rJ (.str (tx (r.1 ++ o.1.drop sz))),v9,v10,v11]) ?_ ?_
  ·rfl'
   refine#[_,hsq5,_,rfl,_,hso5,_,rfl,_,rfl,by rw[zE];lia,_,rfl,?_,?_]
   all_goals rw[uU,yS _ (br _),aH]
   ·rw[zE];lia
   ·rw[yA]
  rintro σ H8 ⟨rfl,rfl⟩:_;right;refine zj (λσ H'=>H'=H8/\σ=[!!a,-~~~i,!!p,-~~~j,!!po,-~~~n,-~~~sz,rJ (.bl (decide ((r.1.drop n).take sz=o.1.take sz))),rJ (.str (tx (r.1 ++ o.1.drop sz))),rJ (.str (tx (r.2 ++ o.1.drop sz))),v10,v11]) ?_ ?_
  ·rfl'
   refine#[_,hsq5,_,rfl,_,hso5,_,rfl,_,rfl,by rw[zE];lia,_,rfl,?_,?_]
   all_goals rw[uU,yS _ (br _),aH]
   ·rw[zE];lia
   ·rw[yA]
  rintro σ H9 ⟨rfl,rfl⟩:_;have hwl:(r.1 ++ o.1.drop sz).length<=20:=by rw[aj];lia
  right;generalize hwd:r.1 ++ o.1.drop sz=wd at eB hwl;refine zj (λσ H'=>H'=H9/\σ=[!!a,-~~~i,!!p,-~~~j,!!po,-~~~n,-~~~sz,rJ (.bl (decide ((r.1.drop n).take sz=o.1.take sz))),~~~wd,rJ (.str (tx (r.2 ++ o.1.drop sz))),rJ (.str (tx (wd.drop (n+o.1.length)))),v11]) ?_ ?_
  ·rfl'
   refine#[_,hso5,_,rfl,_,#[by rw[zE];lia,rfl],⋯,?_];rw[zE,<- Int.natCast_add,yS wd (br _),aH]
  rintro σ H10 ⟨rfl,rfl⟩:_;right;refine zj (λσ H'=>H'=H10/\σ=[!!a,-~~~i,!!p,-~~~j,!!po,-~~~n,-~~~sz,rJ (.bl (decide ((r.1.drop n).take sz=o.1.take sz))),~~~wd,rJ (.str (tx (r.2 ++ o.1.drop sz))),rJ (.str (tx (wd.drop (n+o.1.length)))),rJ (.str (tx (wd.take n ++ o.2 ++ wd.drop (n+o.1.length))))]) ?_ ?_
  ·rfl'
   refine#[⋯,_,hso5,_,rfl,_,rfl,?_,?_,?_]
   all_goals erw[zE,yA,vo wd (br _),aH,aj,aC,aL]
   ·lia
   ·lia
  rintro σ H11 ⟨rfl,rfl⟩:_;right
  rfl'
  rw[<- eA,<- eB];have hlA:(pkA ps (i,j,n)).length<=40:=by rw[eA,aj];lia
  have hlB:(pkB ps (i,j,n)).length<=40:=by rw[eB];erw[aj,aC,aL];lia
  have hR:=hA.same s5;refine qS hR hP ⋯ λi1 H12 s12 a1 a2=>qS (hR.same s12) hP ⋯ λi2 H13 s13 b1 b2=>#[rfl,yU (λhd=>?_) λhd=>#[(s5.trans s12).trans s13,λt ht=>?_]]
  ·have hmf:=kY hP hlA hlB a1 a2 b1 b2;rw[decide_eq_false λe=>hd (by rw[e])]at hmf
   have e:ke ps=rM:=by
    unfold ke;rw[List.all_eq_false];refine#[(i,j,n),so.mpr #[i,rW.mpr (rQ.mp hr).1,so.mpr #[j,rW.mpr (rQ.mp ho).1,rR.mpr #[n,rX.mpr #[rW.mpr (by rw[xa hr];exact hn'),?_],rfl]]],by rw[hmf];decide];rw[eg,bE,Bool.or_eq_true,decide_eq_true_eq,decide_eq_true_eq,decide_eq_true_eq];exact#[hne.imp (λh z=>h (by rw[z])) λh=>by lia,hag]
   have:=q H13 ((s5.trans s12).trans s13);rw[e]at this;exact this
  ·rw[wl]at ht;refine (rT.mp ht).elim (m5 t) λht=>?_;split at ht
   ·rw[rV.mp ht,kY hP hlA hlB a1 a2 b1 b2];exact decide_eq_true (ub (V.str.inj (Classical.not_not.mp hd)))
   ·cases ht
def Alk(rs rs':List zp):Prop:=rs'.length=rs.length/\∀g:zp->zp,(∀p ∈ rs,g (p.2,p.1)=g p)->(rs'.map g).Perm (rs.map g)
theorem Alk.snoc{rs rs':List zp}{r r':zp}(h:Alk rs rs')(e:r'=r\/r'=(r.2,r.1)):Alk (rs ++ [r]) (rs' ++ [r']):=by
 refine#[by rw[aj,aj,h.1];rfl,λg hg=>?_];rw[ao,ao]
 have e':g r'=g r:=by
  rcases e with rfl | rfl
  ·rfl
  ·exact hg r (aD _ az)
 rw[am,am,e'];exact (h.2 g λp hp=>hg p (bh _ hp)).append_right _
theorem Alk.perm{rs rs1 rs2:List zp}(h:Alk rs rs1)(e:rs2.Perm rs1):Alk rs rs2:=#[e.length_eq.trans h.1,λg hg=>(e.map g).trans (h.2 g hg)]
theorem Iss.drop:∀(n:Nat) {l:List L3.D} {vs:List V},Iss K H l vs->Iss K H (l.drop n) (vs.drop n)
 | 0,_,_,h=>h
 | n+1,[],vs,h=>by
  erw[Iss]at h
  subst h
  erw[List.drop_nil,Iss]
 | n+1,d::l,vs,h=>by
  erw[Iss]at h
  obtain⟨v,r,rfl,_,h2⟩:=h;exact Iss.drop n h2
theorem Iss.take:∀(n:Nat) {l:List L3.D} {vs:List V},Iss K H l vs->Iss K H (l.take n) (vs.take n)
 | 0,_,_,_=>by erw[bc,Iss]
 | n+1,[],vs,h=>by
  erw[Iss]at h
  subst h
  erw[List.take_nil,Iss]
 | n+1,d::l,vs,h=>by
  erw[Iss]at h
  obtain⟨v,r,rfl,h1,h2⟩:=h
  erw[cU,Iss]
  exact#[v,_,rfl,h1,Iss.take n h2]
theorem Iss.rev:∀{l:List L3.D} {vs:List V},Iss K H l vs->Iss K H l.reverse vs.reverse
 | [],vs,h=>by
  erw[Iss]at h
  subst h
  erw[List.reverse_nil,Iss]
 | d::l,vs,h=>by
  erw[Iss]at h
  obtain⟨v,r,rfl,h1,h2⟩:=h;rw[dm,dm];exact Iss.append (Iss.rev h2) (by erw[Iss];exact#[v,[],rfl,h1,rfl])
def Zm(K:nV):Sp:=λvs H Q _=>∃(a:nW) (c:Int) (rs:List zp),vs=[.ref a,.int c]/\uu c/\LsA K H a (rs.map dR)/\rs.length<=20/\∀(D:nW) (H':Hp) (rs':List zp),Same H H'->LsA K H' D (rs'.map dR)->Alk rs rs'->Q (.ref D) H'
theorem iA:sQz 2 ["_law_pacts","_law_cell_here","_law_at"] vj:=by nofun
theorem WJ(B:Bt mg)(F:("_law_turned"^^^vj))(ie:(1<<<"_law_mixed") ["_law_cell_here","_law_turn"] [] wz):(2&&&["_law_pacts","_law_cell_here"]) (Zm K):=by
 exists F.ok iA
 ·obtain⟨a,c,rs,rfl,hc,hA,hrl,q⟩:=h
  refine#[_,(zi (xO (i:=0) iA.nd rfl (Or.inr rfl) (yJ (g:=JD K 2 (qH (yK 0) (qH (yK 1) K9))) (own:=["_law_k","_law_pact"]) (caps:=["_law_cell_here"]) (ix:=[1]) (tt:=xQ) (te:=(tIf (Xf (tOp rEq (tOp (rI (λ_ j=>0<j) λi j=>.int (i % j)) (uO wz [] E0 (zL (z9 2) (zL (tOp Xt (tC (.int 11)) (z9 0)) xH))) (tC (.int 2))) (tC (.int 0)))) (z9 1) (XQ (zL (tOp (wM K) (z9 1) (tC (.int 1))) (zL (tOp (wM K) (z9 1) (tC (.int 0))) xH))))) rfl (zQ (sc:=zg vj) rfl (by symm) (by symm) (by symm) rfl (by symm) (by symm) rfl) (yQ rfl B.enum (za (pv 0) zf)) (λ_ _ _ _ _ _=>vn (n:=2) rfl (zV (zv (i:=0) (show List.Nodup [_,_,_] by decide) rfl (.inl rfl)) (zV (zv (i:=1) (show List.Nodup [_,_,_] by decide) rfl (.inl rfl)) xM))) (λ_ _ _ _ _ _=>yh) (λ_ _ _ _ _ _=>(ux (zG qA (zC xF (cl0 ie hr .nil rfl (za (pv 2) (za (zC Zv ze (pv 0)) zf))) ze) ze (zI _)) (pv 1) (z5 (za (zl ix_tup (pv 1) ze) (za (zl ix_tup (pv 1) ze) zf)))))))
   (zi (zy 2 iA.nd (zC xF (cl0 ie hr .nil rfl (za (pv 1) (za ze zf))) (yw (Yg rfl) rfl B.max w6 (za ze (za (zF B.len (pv 0)) zf)))))
   (zi (xO (i:=0) iA.nd rfl (Or.inr rfl) (zC Yz (zP jK (pv 0) (zR (pv 2)) ya) (zP jK (pv 0) ya (zR (pv 2)))))
   (zi (zZ (zG qA (zC xF (cl0 ie hr .nil rfl (za (pv 1) (za ze zf))) ze) ze (zI _))
    (zh (xO (i:=0) iA.nd rfl (Or.inr rfl) (yJ (own:=["_law_k"]) (caps:=["_law_pacts"]) (ix:=[0]) (tt:=xQ) (te:=(tOp (zaj K) (z9 1) (tOp (rI0 λi j=>.int (i - j)) (tOp (rI0 λi j=>.int (i - j)) (tCB (XS K) (zL (z9 1) xH)) (tC (.int 1))) (z9 0)))) rfl (zQ (sc:=zg vj) rfl (by symm) (by symm) (by symm) rfl (by symm) (by symm) rfl) (yz rfl B.range (za (zF B.len (pv 0)) zf)) (λ_ _ _ _ _ _=>zv (i:=0) (show List.Nodup [_,_] by decide) rfl (.inl rfl)) (λ_ _ _ _ _ _=>yh) (λ_ _ _ _ _ _=>(zl ix_list (pv 1) (zC xN (zC xN (zF B.len (pv 1)) ze) (pv 0)))))))
    zB)
   (zh (zt (pv 0))))))),?_]
  have s16:=yb;obtain⟨xs,hX,hI⟩:=id hA;have hxl:=hI.len;rw[ac]at hxl;refine zj (λσ H'=>Same H H'/\∃D:nW,(∃rs1:List zp,LsA K H' D (rs1.map dR)/\Alk rs rs1)/\σ=[!!D,~~~!c,rK]) ?_ ?_
  ·rfl'
   rw[QO]
   rfl'
   refine#[#[_,SqL.of hX],λD hD=>CompEL.by (xs:=xs) (λi rP H'=>Same H H'/\H' D=rJ (.lst rP)/\∃rs1:List zp,Iss K H' (rs1.map dR) rP/\Alk (rs.take i) rs1) #[zd hD,zc,[],by erw[aF,Iss],rfl,λ_ _=>.refl _] (λi rP H' _ h=>SqL.of (h.1 _ _ hX)) ?_ ?_]
   ·rintro i x rP H' p hx ⟨hs,hH,rs1,hIs,hAk⟩ hp;have hil:=(rQ.mp hx).1;obtain⟨r,pr,hri,rfl,hqr⟩:=hI.getR hx;have u1:=zd (o:=HO.tup [.int (i:Nat),.ref pr]) hp;have hq:=zk (hs.trans u1) hqr;have hal:=hIs.len;rw[ac,hAk.1,aC]at hal;have et:rs.take (i+1)=rs.take i ++ [r]:=zJ hri;refine U9 (SqT.of zc) ?_
    erw[xQ]
    have hs1:=hs.trans u1;have hH1:=u1 _ _ hH;have hI1:=Iss.same u1 _ _ hIs;generalize upd H' p (.tup [.int (i:Nat),.ref pr])=H1 at hq hs1 hH1 hI1
    rfl'
    refine#[Jp,xD hc ⋯ ⋯ λz _=>#[z,rfl,∅,yU (λ_=>#[hH1,⋯,CNx.mk hil #[zD hs1 hD,zc,rs1 ++ [r],?_,by rw[et];exact hAk.snoc (.inl rfl)]]) λ_=>#[_,hq,_,rfl,_,hq,_,rfl,⋯,λp2 hp2=>#[zd hp2 _ _ hH1,⋯,CNx.mk hil #[zD (hs1.trans (zd hp2)) hD,zc,rs1 ++ [(r.2,r.1)],?_,by rw[et];exact hAk.snoc (.inr rfl)]]]]]
    ·rw[ao];obtain⟨ys,hY,hJ⟩:=LsA.snoc hH1 hI1 (wA rs1) (vO r) (Xj hq);rw[zc]at hY;cases hY;exact hJ
    ·rw[ao];have u2:=zd (o:=HO.tup [.str (tx r.2),.str (tx r.1)]) hp2;obtain⟨ys,hY,hJ⟩:=LsA.snoc (u2 _ _ hH1) (Iss.same u2 _ _ hI1) (wA rs1) (vO (r.2,r.1)) (Xj (SqT.of zc));rw[zc]at hY;cases hY;exact hJ
   ·rintro rP H' ⟨hs,hH,rs1,hIs,hAk⟩;rw[hxl,aG]at hAk;exact#[hs,D,#[rs1,#[rP,hH,hIs],hAk],rfl]
  rintro σ H1 ⟨s1,D,⟨rs1,hL1,hAk⟩,rfl⟩:_;obtain⟨x1,hX1,hI1⟩:=id hL1;have hx1l:=hI1.len;have ha1:=hAk.1;rw[ac]at hx1l;right;refine zj (λσ H'=>H'=H1/\∃n:Nat,n<=x1.length/\σ=[!!D,~~~!c,-~~~n]) ?_ ?_
  ·rfl'
   refine xD hc ∅ ∅ λz hz=>#[_,.inl #[_,SqL.of hX1,rfl],z,rfl,by split <;> lia,rfl,?_];by_cases g:(x1.length:Int) > 1
   ·have m0:=bD z (b:=(x1.length:Int)) ⋯;have m1:=bu z (b:=(x1.length:Int)) ⋯;rw[if_pos g];exact#[(z % (x1.length:Int)).toNat,⋯,⋯]
   ·rw[if_neg g];exact#[0,ay _,⋯]
  rintro σ H1 ⟨rfl,n,hn,rfl⟩:_;right;refine zj (λσ H'=>Same H H'/\∃D:nW,(∃rs1:List zp,LsA K H' D (rs1.map dR)/\Alk rs rs1)/\σ=[!!D,~~~!c,-~~~n]) ?_ ?_
  ·rfl'
   have e1:Q1 x1 (rJ (n:Int)) rK=x1.drop n:=yS x1 (br n);have e2:Q1 x1 rK (rJ (n:Int))=x1.take n:=vo x1 (br n);refine#[_,SqL.of hX1,?_]
   erw[e1]
   refine λp hp=>#[_,SqL.of (zd hp _ _ hX1),?_]
   erw[e2]
   intro p1 hp1;refine#[_,zd hp1 _ _ zc,_,zc,by rw[aL,aC];lia,λp2 hp2=>?_];have ss:=(zd (o:=.lst (x1.drop n)) hp).trans ((zd (o:=.lst (x1.take n)) hp1).trans (zd (o:=.lst (x1.drop n ++ x1.take n)) hp2));refine#[s1.trans ss,rs1.drop n ++ rs1.take n,#[_,zc,?_],hAk.perm ?_]
   ·rw[ao,List.map_drop,List.map_take];exact Iss.same ss _ _ (Iss.append (Iss.drop n hI1) (Iss.take n hI1))
   ·exact List.perm_append_comm.trans (.of_eq (bO n rs1))
  rintro σ H2 ⟨s2,D2,⟨rs2,hL2,hAk2⟩,rfl⟩:_;obtain⟨x2,hX2,hI2⟩:=id hL2;have hx2l:=hI2.len;have ha2:=hAk2.1;rw[ac]at hx2l;right;refine zj (λσ H'=>Same H H'/\∃D:nW,(∃rs1:List zp,LsA K H' D (rs1.map dR)/\Alk rs rs1)/\σ=[!!D,~~~!c,-~~~n]) ?_ ?_
  ·rfl'
   refine xD hc ∅ ∅ λz hz=>#[z,rfl,∅,yU (λ_=>#[_,.inl #[_,SqL.of hX2,rfl],⋯,⋯,λJ hJ=>CompR.by (λi rP H'=>Same H2 H'/\H' J=rJ (.lst rP)/\rP=x2.reverse.take i) #[zd hJ,zc,rfl] ?_ ?_]) λ_=>#[s2,rs2,hL2,hAk2]]
   ·refine nm3 ?_;rintro i rP H' hi ⟨hs,hH,rfl⟩:_;rw[aH]at hi
    have hr:x2.reverse[i]? = rJ (x2[x2.length - 1 - i]'⋯):=by
     rw[bp hi,ae ⋯]
    right
    erw[xQ]
    rfl'
    refine#[yP,_,.inl #[_,SqL.of (hs _ _ hX2),rfl],_,SqL.of (hs _ _ hX2),x2[x2.length - 1 - i]'⋯,?_,hH,by rw[aC,bB];lia,CNx.mk (by rw[aH];exact hi) #[zD hs hJ,zc,?_]]
    ·rw[show (x2.length:Int) - 1 - (0+(i:Int))=((x2.length - 1 - i:Nat):Int) by lia];exact jC (ae ⋯)
    ·rw[zJ hr]
   ·rintro rP H' ⟨hs,hH,rfl⟩;rw[aH,<- bB,aG]at hH;refine#[s2.trans hs,J,#[rs2.reverse,#[_,hH,?_],hAk2.perm (List.reverse_perm rs2)],rfl];rw[eG];exact Iss.same hs _ _ (Iss.rev hI2)
  rintro σ H3 ⟨s3,D3,⟨rs3,hL3,hAk3⟩,rfl⟩:_;right
  rfl'
  exact q D3 H3 rs3 s3 hL3 hAk3
def jt:Sp:=λvs H Q _=>∃(ls:()) (c:Int) (m:Nat),vs=[.int c,.str (tx ls),.int (m:Nat)]/\1<=ls.length/\ls.length<=26/\m<=100/\∀l:(),l.length=m->(∀x ∈ l,x ∈ ls)->Q (.str (tx l)) H
theorem WZ{ls:()}{c:Int}{m:Nat}(h1:1<=ls.length)(h2:ls.length<=26)(h4:m<=100)(h:∀l:(),l.length=m->(∀x ∈ l,x ∈ ls)->Q (.str (tx l)) H):jt [.int c,.str (tx ls),.int (m:Nat)] H Q E :=
 #[ls,c,m,rfl,h1,h2,h4,h]
theorem iO:sQz 3 ["_law_number","_law_letters_here","_law_size","_law_word_here","_law_k"] ZE:=by nofun
theorem Qd(B:Bt mg)(F:("_law_exact"^^^ZE)) :(1&&&["_law_number","_law_letters_here","_law_size"]) jt:=by
 exists F.ok iO
 ·obtain⟨ls,c,m,rfl,h1,h2,h4,q⟩:=h
  refine#[_,(zK (zy 3 iO.nd xb)
   (zK (yg PassesOwn.never rfl (yz rfl B.range (za (pv 2) zf)) (zv (i:=4) iO.nd rfl (.inl rfl))
    (zK (zy 3 iO.nd (zC zN (pv 3) (zl kF (pv 1) (zC xF (pv 0) (zF B.len (pv 1))))))
    (zh (zy 0 iO.nd (zC wS (pv 0) (zF B.len (pv 1)))))))
   (zh (zt (pv 3))))),?_]
  have s16:=yb
  rfl'
  refine#[⋯,⋯,ForR.by (λi σ H'=>H'=H/\∃(found:()) (number:Int) (v5:Option V),σ=[~~~!number,~~~ls,-~~~m,~~~found,v5]/\found.length=i/\∀x ∈ found,x ∈ ls)
   #[rfl,[],_,rK,rfl,rfl,λx h=>(nomatch h)] ?_ ?_]
  ·rintro i σ H' hi ⟨rfl,found,number,v5,rfl,hf,hm⟩
   rfl'
   have hm0:=bD number (b:=(ls.length:Int)) ⋯;have hm1:=bu number (b:=(ls.length:Int)) ⋯;obtain⟨v,e1,e2⟩:=qc hm0 hm1
   repeat (refine And.intro (by first | lia | decide | exact#[⋯,⋯] | assumption) ?_)
   refine#[v,e1,?_]
   repeat (refine And.intro (by first | lia | decide | exact#[⋯,⋯] | assumption) ?_)
   refine#[by rw[aj,hf];rfl,λx hx=>?_];rcases rT.mp hx with h | h
   ·exact hm x h
   ·rw[rV.mp h];exact af e2
  ·rintro σ H' ⟨rfl,found,number,v5,rfl,hf,hm⟩
   rfl'
   exact q found (by rw[hf];lia) hm
def DrawnP(ls:())(m:Nat)(rs:List zp):Prop:=(rs.map (·.1)).Nodup/\∀r ∈ rs,r.1.length=m/\r.2.length<m/\(∀x ∈ r.1,x ∈ ls)/\∀x ∈ r.2,x ∈ ls
noncomputable def kvR(rs:List zp):List (og × V):=rs.map λr=>(tx r.1,V.str (tx r.2))
theorem KB{u:()}(h:atD (kvR rs) (tx u)=rK):u ∉ rs.map (·.1):=λhu=>by
 obtain⟨r,hr,rfl⟩:=rR.mp hu;unfold atD at h;rw[eU,dX]at h;exact h (tx r.1,V.str (tx r.2)) (rR.mpr #[r,hr,rfl]) (decide_eq_true rfl)
theorem DrawnP.snoc{ls:()}{m:Nat}{u v:()}(h:DrawnP ls m rs)(hno:atD (kvR rs) (tx u)=rK)(h1:u.length=m)(h2:v.length<m)(h3:∀x ∈ u,x ∈ ls)(h4:∀x ∈ v,x ∈ ls):DrawnP ls m (rs ++ [(u,v)]):=by
 refine#[?_,λr hr=>?_]
 ·rw[ao];exact sF.mpr #[h.1,si.mpr #[(nomatch ·),.nil],λa ha b hb=>by rw[rV.mp hb];rintro rfl;exact KB hno ha]
 ·rcases rT.mp hr with hr | hr
  ·exact h.2 r hr
  ·rw[rV.mp hr];exact#[h1,h2,h3,h4]
theorem zdn(h:(rs.map (·.1)).Nodup):∀r ∈ rs,atD (kvR rs) (tx r.1)=rJ (V.str (tx r.2)):=by
 induction rs with
 | nil=>intro r h;cases h
 | cons a rs ih =>
  rw[am,List.nodup_cons]at h;intro r hr;unfold atD kvR;rw[am,de];rcases rS.mp hr with rfl | hr
  ·rw[decide_eq_true rfl];rfl
  ·rw[decide_eq_false λe=>h.1 (by rw[ub e];exact rR.mpr #[r,hr,rfl])];exact ih h.2 r hr
def QA(K:nV):Sp:=λvs H Q _=>∃(a:nW) (ns:List Int) (ls:()) (m:Nat),vs=[.ref a,.str (tx ls),.int (m:Nat)]/\SqL K H a (ns.map V.int)/\(∀z ∈ ns,uu z)/\1<=ls.length/\ls.length<=26/\1<=m/\m<=50/\∀(D:nW) (H':Hp) (rs:List zp),Same H H'->LsA K H' D (rs.map dR)->rs.length<=12->rs≠[]->DrawnP ls m rs->Q (.ref D) H'
theorem iP:sQz 3 ["_law_script","_law_letters_here","_law_size","_law_rights","_law_number","_law_cell_here","_law_left"] jd:=by nofun
theorem U6(B:Bt mg)(F:("_law_pairs"^^^jd))(lm:(1<<<"_law_cell") ["_law_script","_law_k"] [] (ji K))(nE:(1<<<"_law_exact") ["_law_number","_law_letters_here","_law_size"] [] jt)(ie:(1<<<"_law_mixed") ["_law_cell_here","_law_turn"] [] wz)(nL:(1<<<"_law_word") ["_law_number","_law_letters_here","_law_most"] [] Zq):(2&&&["_law_script","_law_letters_here","_law_size"]) (QA K):=by
 exists F.ok iP
 ·obtain⟨a,ns,ls,m,rfl,hS,hB,h1,h2,h3,h4,q⟩:=h
  refine#[_,(zi (xO (i:=3) iP.nd rfl (Or.inr rfl) JJ)
   (zi (yg PassesOwn.never rfl (yz rfl B.range (za (zC z6 ze (zC xF (cl0 lm hr .nil rfl (za (pv 0) (za ze zf))) ze)) zf)) (zv (i:=4) iP.nd rfl (.inl rfl))
    (zi (zy 5 iP.nd (cl0 lm hr .nil rfl (za (pv 0) (za (zC z6 ze (pv 4)) zf))))
    (zi (zy 6 iP.nd (cl0 nE hr .nil rfl (za (cl0 ie hr .nil rfl (za (pv 5) (za ze zf))) (za (pv 1) (za (pv 2) zf)))))
    (zh (wQ (zaY dW PySem.F.type_dict_setdefault zbu (pv 3) (za (pv 6) (za (cl0 nL hr .nil rfl (za (cl0 ie hr .nil rfl (za (pv 5) (za ze zf))) (za (pv 1) (za (zC xN (pv 2) ze) zf)))) zf))))))))
   (zh (zt (yJ (own:=["_law_left"]) (caps:=["_law_rights"]) (ix:=[3]) (tt:=xQ) (te:=(XQ (zL (z9 0) (zL (tOp (zb1 P w) (z9 1) (z9 0)) xH)))) rfl (zQ (sc:=zg jd) rfl (by symm) (by symm) (by symm) rfl (by symm) (by symm) rfl) (zb5 (pv 3)) (λ_ _ _ _ _ _=>zv (i:=0) (show List.Nodup [_,_] by decide) rfl (.inl rfl)) (λ_ _ _ _ _ _=>yh) (λ_ _ _ _ _ _=>(z5 (za (pv 0) (za (zl Ku (pv 1) (pv 0)) zf))))))))),?_]
  have s16:=yb;refine zj (λσ H'=>Same H H'/\∃(p:nW) (ep:Nat),H p=rK/\H' p=rJ (ZW P w p [] ep)/\σ=[!!a,~~~ls,-~~~m,!!p,rK,rK,rK]) ?_ ?_
  ·rfl'
   exact λp ep hp=>#[zd hp,p,hp,#[ep,zc],rfl]
  rintro σ H1 ⟨s1,p,ep,hp,hH1,rfl⟩:_;right;refine zj (λσ H'=>Same H H'/\∃(rs:List zp) (ep:Nat) (v4 v5 v6:Option V),H' p=rJ (ZW P w p (kvR rs) ep)/\rs.length<=12/\rs≠[]/\DrawnP ls m rs/\σ=[!!a,~~~ls,-~~~m,!!p,v4,v5,v6]) ?_ ?_
  ·rfl'
   refine wZ (s1.seq hS) hB ∅ λc hc=>?_;have c0:=bD c (b:=12) ∅;have c1:=bu c (b:=12) ∅;refine#[c,rfl,∅,⋯,⋯,ForR.by (λi σ H'=>Same H H'/\∃(rs:List zp) (ep:Nat) (v4 v5 v6:Option V),H' p=rJ (ZW P w p (kvR rs) ep)/\rs.length<=i/\(0<i->rs≠[])/\DrawnP ls m rs/\σ=[!!a,~~~ls,-~~~m,!!p,v4,v5,v6]) #[s1,[],ep,rK,rK,rK,hH1,al _,λh=>absurd h ∅,#[.nil,λr h=>(nomatch h)],rfl] ?_ ?_]
   ·refine nm3 ?_;rintro i σ H2 hi ⟨s2,rs,ep2,v4,v5,v6,hH2,hl,hne,hD,rfl⟩:_;right;refine zj (λσ H'=>H'=H2/\∃d:Int,uu d/\σ=[!!a,~~~ls,-~~~m,!!p,rJ (.int (0+(i:Int))),~~~!d,v6]) ?_ ?_
    ·rfl'
     exact wZ (s2.seq hS) hB ⋯ λd hd=>#[rfl,d,hd,rfl]
    rintro σ H3 ⟨rfl,d,hd,rfl⟩:_;right;refine zj (λσ H'=>H'=H3/\∃u:(),u.length=m/\(∀x ∈ u,x ∈ ls)/\σ=[!!a,~~~ls,-~~~m,!!p,rJ (.int (0+(i:Int))),~~~!d,~~~u]) ?_ ?_
    ·rfl'
     exact xD hd ∅ ∅ λz hz=>WZ h1 h2 ⋯ λu hu1 hu2=>#[rfl,u,hu1,hu2,rfl]
    rintro σ H4 ⟨rfl,u,hu1,hu2,rfl⟩:_;right
    rfl'
    unfold zdI
    rfl'
    refine#[#[_,_,hH2],?_];refine xD hd ∅ ∅ λz hz=>Qc hz h1 h2 ⋯ ⋯ λv hv1 hv2=>?_;refine#[p,_,_,_,_,rfl,rfl,hH2,by unfold kvR;rw[ac];lia,λy hy=>#[s2,rs,#[ep2,hH2],⋯,λ_ e=>(by rw[e]at hy;cases hy),hD],λhno ep3=>#[zD s2 hp,rs ++ [(u,v)],#[ep3,by rw[zc];unfold kvR;rw[ao];rfl],by rw[aj];exact Nat.succ_le_succ hl,λ_ e=>by simp at e,hD.snoc hno hu1 ⋯ hu2 hv2]]
   ·rintro σ H2 ⟨s2,rs,ep2,v4,v5,v6,hH2,hl,hne,hD,rfl⟩;exact#[s2,rs,#[ep2,hH2],⋯,hne ⋯,hD,#[v4,v5,v6,rfl]]
  rintro σ H2 ⟨s2,rs,ep2,v4,v5,v6,hH2,hl,hne,hD0,rfl⟩:_;right
  rfl'
  show uC (zdd P w (z9 3)) _ _ _ _ _ _ _ _;rw[zda]
  rfl'
  refine#[_,_,hH2,λD hD=>CompD.by (λi rP H'=>Same H2 H'/\H' D=rJ (.lst rP)/\Iss K H' ((rs.take i).map dR) rP) #[zd hD,zc,by erw[bc,aF,Iss]] (λi rP H' h=>h.1 _ _ hH2) ?_ ?_]
  ·refine nm4 ?_;rintro i r rP H' hr ⟨hs,hH,hI⟩:_;have hil:=(rQ.mp hr).1;right;unfold kvR at hr hil;rw[ac]at hil;rw[ax,ae hil]at hr;obtain rfl:=Option.some.inj hr;have hal:=hI.len;rw[ac,aC]at hal;have et:rs.take (i+1)=rs.take i ++ [rs[i]]:=zJ (ae hil)
   erw[xQ]
   rfl'
   refine#[yP,p,_,_,_,_,rfl,rfl,hs _ _ hH2,zdn hD0.1 _ (em hil),⋯,λp1 hp1=>#[zd hp1 _ _ hH,⋯,CNx.mk (by unfold kvR;rw[ac];exact hil) #[zD (hs.trans (zd hp1)) hD,zc,?_]]];rw[et,ao];have u2:=zd (o:=HO.tup [.str (tx rs[i].1),.str (tx rs[i].2)]) hp1;obtain⟨ys,hY,hJ⟩:=LsA.snoc (u2 _ _ hH) (Iss.same u2 _ _ hI) (wA _) (vO rs[i]) (Xj (SqT.of zc));rw[zc]at hY;cases hY;exact hJ
  ·rintro rP H' ⟨hs,hH,hI⟩;unfold kvR at hI;rw[ac,aG]at hI;exact q D H' rs (s2.trans hs) #[rP,hH,hI] hl hne hD0
theorem Wl:∀ws:List (()),Str.join (tx []) (ws.map tx)=tx ws.flatten
 | []=>rfl
 | [w]=>by
  show tx w=_;simp
 | w::v::r=>by
  have ih:=Wl (v::r);show tx w ++ tx [] ++ Str.join (tx []) ((v::r).map tx)=_;rw[ih,yA,yA];simp
theorem Ut{ws:List (())}(h:ws.flatten.length<=100000):JoinOk (tx []) (ws.map tx)=rL:=by
 have s16:=yb
 have hf:∀(l:List (())) (n:Nat),(l.map tx).foldl (λa y=>a+y.length+0) n=n+l.flatten.length:=λl=>by
  induction l with
  | nil=>intro n;rfl
  | cons c r ih =>
   intro n;rw[am,List.foldl_cons,ih,zE,List.flatten_cons,aj];lia
 have e:JoinOk (tx []) (ws.map tx)=!PySem.Builtin.Str.tooLong ((ws.map tx).foldl (λa y=>a+y.length+0) 0):=by
  unfold JoinOk;rw[List.foldl_toArray];rfl
 rw[e,hf];unfold PySem.Builtin.Str.tooLong;rw[cJ,decide_eq_false_iff_not];lia
noncomputable def dK3(k:Nat)(l:())(r:zp):List L3.D:=[.int (r.1.length:Nat),.lst ((vw k l r.1).map L3.D.int),dR r]
noncomputable def xC(k:Nat)(l:())(rs:List zp)(d:{r // r ∈ rs}):KeyFam {r // r ∈ rs}:=#[λa=>dK3 k l a.1,λa b=>rankF.lt (vT k l [] a.1.1) (vT k l [] b.1.1),rL,d]
theorem Ui{x1 x2 y1 y2:L3.D}{r r':List L3.D}(h:eqD x1 y1=rL->eqD x2 y2=rM):xj (x1::x2::r) (y1::y2::r')=xj [x1,x2] [y1,y2]:=by
 cases e:eqD x1 y1 with
 | false=>erw[xj,e,aU,if_false]
 | true=>erw[xj,e,h e,aU,if_false]
theorem j8(h:(rs.map (·.1)).Nodup){a b:zp}(ha:a ∈ rs)(hb:b ∈ rs)(e:a.1=b.1):a=b:=by
 induction rs with
 | nil=>cases ha
 | cons c rs ih =>
  rw[am,List.nodup_cons]at h;rcases rS.mp ha with e1 | ha'
  ·rcases rS.mp hb with e2 | hb'
   ·rw[e1,e2]
   ·exact absurd (rR.mpr #[b,hb',by rw[<- e1];exact e.symm]) h.1
  ·rcases rS.mp hb with e2 | hb'
   ·exact absurd (rR.mpr #[a,ha',by rw[<- e2];exact e]) h.1
   ·exact ih h.2 ha' hb'
theorem Yf{l:()}{u v:()}(hu:∀c ∈ u,c ∈ l)(hv:∀c ∈ v,c ∈ l)(h:u≠v):eqD (.lst ((vw k l u).map L3.D.int)) (.lst ((vw k l v).map L3.D.int))=rM:=by
 erw[eqD]
 rw[qf];exact decide_eq_false λe=>h (jw hu hv e)
theorem Yx{l:()}{d:{r // r ∈ rs}}(hk:k≠2)(hn:(rs.map (·.1)).Nodup)(hl:∀r ∈ rs,∀c ∈ r.1,c ∈ l):(xC k l rs d).OkF where
 w:=#[λa b h=>rankF_ok.w.asym _ _ h,λa b c h1 h2=>rankF_ok.w.ntr _ _ _ h1 h2]
 eq:=λa b=>by
  by_cases e:a.1.1=b.1.1
  ·obtain rfl:a=b:=Subtype.ext (j8 hn a.2 b.2 e)
   have h1:(xC k l rs d).lt a a=rM:=by
    cases h:(xC k l rs d).lt a a with
    | false=>rfl
    | true=>exact (rankF_ok.w.asym _ _ h).symm.trans h |>.symm
   rw[h1]
   erw[xC,dK3,xj,vd,if_true]
  ·have h:=rankF_ok.eq (vT k l [] a.1.1) (vT k l [] b.1.1);have w1:∀u:(),zu k l [] u=(u.length:Int):=λu=>by unfold zu;rw[if_neg hk]
   erw[xC]
   rw[<- h];unfold dK3;rw[Ui λ_=>Yf (hl _ a.2) (hl _ b.2) e]
   erw[rankF,vT,w1]
 ok:=λa b=>by
  by_cases e:a.1.1=b.1.1
  ·obtain rfl:a=b:=Subtype.ext (j8 hn a.2 b.2 e)
   erw[xC,dK3,okF,vd,if_true]
  ·erw[xC,dK3,okF,Yf (hl _ a.2) (hl _ b.2) e,aU,if_false,okD]
   split
   ·exact va _ _
   ·trivial
 dp:=λa=>by erw[xC,dK3,dR,dpD,wI,j7];decide
 sh:=λa=>#[_,_,rfl,.inl #[rfl,_,rfl]]
theorem Vz{β:Type}{f:β->L3.D}{g:β->V}:∀{ys:List β},(∀y ∈ ys,Is K H (f y) (g y))->Iss K H (ys.map f) (ys.map g)
 | [],_=>by erw[aF,Iss]
 | y::ys,h=>by
  erw[am,Iss]
  exact#[_,_,rfl,h y az,Vz λz hz=>h z (aq _ hz)]
theorem Vr{β:Type}{f:β->L3.D}:∀{bs:List β} {xs:List V},Iss K H (bs.map f) xs->∀y ∈ bs.zip xs,Is K H (f y.1) y.2
 | [],xs,_,y,hy=>by cases hy
 | b::bs,xs,h,y,hy=>by
  erw[am,Iss]at h
  obtain⟨x,r,rfl,h1,h2⟩:=h;rcases rS.mp hy with rfl | hy
  ·exact h1
  ·exact Vr h2 y hy
def zbD(k:Nat)(l:())(rs rs':List zp):Prop:=rs'.Perm rs/\rs'.Pairwise λa b=>rankF.lt (vT k l [] b.1) (vT k l [] a.1)=rM
theorem ZN{l:()}{d:{r // r ∈ rs}}{xs:List V}(hk:k≠2)(hn:(rs.map (·.1)).Nodup)(hl:∀r ∈ rs,∀c ∈ r.1,c ∈ l)(hI:Iss K H (rs.attach.map λa=>.tup ((xC k l rs d).dec a)) xs) :
  ∃rs':List zp,zbD k l rs rs'/\Iss K H (rs'.map λr=>.tup (dK3 k l r)) ((srt (λp q=>(xC k l rs d).lt p.1 q.1) ((xC k l rs d).d0,V.non) (rs.attach.zip xs)).map (·.2)):=by
 have W:=(Yx (d:=d) hk hn hl).w;obtain⟨p1,p2⟩:=Ye (lt:=λ(p q:{r // r ∈ rs} × V)=>(xC k l rs d).lt p.1 q.1) #[λa b=>W.asym _ _,λa b c=>W.ntr _ _ _] ((xC k l rs d).d0,V.non) (rs.attach.zip xs);generalize srt (λ(p q:{r // r ∈ rs} × V)=>(xC k l rs d).lt p.1 q.1) ((xC k l rs d).d0,V.non) (rs.attach.zip xs)=ys at p1 p2;refine#[ys.map λy=>y.1.1,#[?_,?_],?_]
 ·have h1:=(p1.map (·.1)).map Subtype.val;have hlen:=hI.len;rw[ac]at hlen;rw[eI ⋯,List.attach_map_subtype_val,bF]at h1;exact h1
 ·exact sx.mpr p2
 ·rw[bF];exact Vz λy hy=>Vr hI y (p1.mem_iff.mp hy)
noncomputable def hid(H:Hp)(R:nW):Hp:=λb=>if b=R then rK else H b
theorem qp{R b:nW}(h:b≠R):hid H R b=H b:=if_neg h
theorem Qa{R:nW}:Same (hid H R) H:=λb o h=>by
 by_cases e:b=R
 ·rw[e,hid,if_pos rfl]at h;cases h
 ·rw[qp e]at h;exact h
theorem Kp{R:nW}{o:HO}:hid (upd H R o) R=hid H R:=funext λb=>by
 by_cases e:b=R
 ·rw[e,hid,hid,if_pos rfl,if_pos rfl]
 ·rw[qp e,qp e,zq e]
theorem U3{H H':Hp}{R:nW}(s:Same H H')(hR:H R=rK):Same H (hid H' R):=λb o h=>by
 rw[qp (zH h hR)];exact s b o h
theorem UO{H H':Hp}{R:nW}(s:Same H H'):Same (hid H R) (hid H' R):=λb o h=>by
 by_cases e:b=R
 ·rw[e,hid,if_pos rfl]at h;cases h
 ·rw[qp e]at h ⊢;exact s b o h
def Yi(K:nV):Sp:=λvs H Q _=>∃(a:nW) (rs:List zp) (b:Bool) (l:()),vs=[.ref a,.bl b,.str (tx l)]/\LsA K H a (rs.map dR)/\rs≠[]/\rs.length<=12/\(rs.map (·.1)).Nodup/\(∀r ∈ rs,r.1.length<=10/\∀c ∈ r.1,c ∈ l)/\Y8 l=rL/\∀(D:nW) (H':Hp) (rs':List zp),Same H H'->LsA K H' D (rs'.map dR)->zbD (if b=rL then 1 else 0) l rs rs'->Q (.ref D) H'
theorem iQ:sQz 3 ["_law_pairs_here","_law_right","_law_letters_here","_law_ranks","_law_pair","_law_seen"] vH:=by nofun
theorem Qm{f:nW}(B:Bt mg)(hsorted:X9 mg)(F:("_law_sided"^^^vH)) :(3&&&["_law_pairs_here","_law_right","_law_letters_here"]) (Yi K):=by
 exists F.ok iQ
 ·obtain⟨a,rs,b,l,rfl,hA,hne,hrl,hn,hl,hg,q⟩:=h
  refine#[_,(zi (zy 3 iQ.nd (vR zf))
   (zi (yg PassesOwn.never rfl (yi (pv 0)) (zv (i:=4) iQ.nd rfl (.inl rfl))
    (zi (xO (i:=5) iQ.nd rfl (Or.inr rfl) (zl ix_tup (pv 4) ze))
    (zi (zZ (yM (pv 1) (λ_=>rfl))
     (zh (xO (i:=5) iQ.nd rfl (Or.inr rfl) (uX bK PySem.F.slot_str_join PySem.F.type_str_join zax xb (za (yJ (own:=["_law_k"]) (caps:=["_law_seen"]) (ix:=[5]) (tt:=xQ) (te:=(tOp QU (z9 1) (tOp (rI0 λi j=>.int (i - j)) (tOp (rI0 λi j=>.int (i - j)) (tCB (XS K) (zL (z9 1) xH)) (tC (.int 1))) (z9 0)))) rfl (zQ (sc:=zg vH) rfl (by symm) (by symm) (by symm) rfl (by symm) (by symm) rfl) (yz rfl B.range (za (zF B.len (pv 5)) zf)) (λ_ _ _ _ _ _=>zv (i:=0) (show List.Nodup [_,_] by decide) rfl (.inl rfl)) (λ_ _ _ _ _ _=>yh) (λ_ _ _ _ _ _=>(zl kF (pv 1) (zC xN (zC xN (zF B.len (pv 1)) ze) (pv 0))))) zf))))
     zB)
    (zh (wQ (uX bZ cB cC wn (pv 3) (za (z5 (za (zF B.len (pv 5)) (za (yJ (own:=["_law_sign"]) (caps:=["_law_letters_here"]) (ix:=[2]) (tt:=xQ) (te:=(tBM K "str" UT (z9 1) (zL (z9 0) xH))) rfl (zQ (sc:=zg vH) rfl (by symm) (by symm) (by symm) rfl (by symm) (by symm) rfl) (V3 (pv 5)) (λ_ _ _ _ _ _=>zv (i:=0) (show List.Nodup [_,_] by decide) rfl (.inl rfl)) (λ_ _ _ _ _ _=>yh) (λ_ _ _ _ _ _=>(uX bK dB dC zaN (pv 1) (za (pv 0) zf)))) (za (pv 4) zf)))) zf)))))))
   (zh (zt (yJ (own:=["_law_rank"]) (caps:=[]) (ix:=[]) (tt:=xQ) (te:=(tOp (wM K) (z9 0) (tC (.int 2)))) rfl (zQ (sc:=zg vH) rfl (by symm) (by symm) (by symm) rfl (by symm) (by symm) rfl) (yi (yw (Js (k:=0) (hr.mono ∅)) rfl hsorted eJ (za (pv 3) zf))) (λ_ _ _ _ _ _=>zv (i:=0) (show List.Nodup [_] by decide) rfl (.inl rfl)) (λ_ _ _ _ _ _=>yh) (λ_ _ _ _ _ _=>(zl ix_tup (pv 0) ze))))))),?_]
  have s16:=yb;obtain⟨xs,hX,hI⟩:=id hA;have hxl:=hI.len;rw[ac]at hxl;obtain⟨k,hk⟩:∃k:Nat,(if b=rL then 1 else 0)=k:=#[_,rfl];rw[hk]at q;refine zj (λσ H'=>Same H H'/\∃(R:nW),H R=rK/\H' R=rJ (.lst [])/\σ=[!!a,rJ (.bl b),~~~l,!!R,rK,rK]) ?_ ?_
  ·rfl'
   exact#[ay _,λR hR=>#[zd hR,R,hR,zc,rfl]]
  rintro σ H1 ⟨s1,R,hR,hR1,rfl⟩:_;right;refine zj (λσ H'=>Same H H'/\∃v4 v5:Option V,LsA K H' R (rs.map λr=>.tup (dK3 k l r))/\σ=[!!a,rJ (.bl b),~~~l,!!R,v4,v5]) ?_ ?_
  ·rfl'
   refine#[#[_,SqL.of (s1 _ _ hX)],ForL.by (xs:=xs) (λi σ H'=>Same H H'/\∃(v4 v5:Option V) (ys:List V),H' R=rJ (.lst ys)/\Iss K (hid H' R) ((rs.take i).map λr=>.tup (dK3 k l r)) ys/\σ=[!!a,rJ (.bl b),~~~l,!!R,v4,v5]) #[s1,rK,rK,[],hR1,by erw[bc,aF,Iss],rfl] (λi σ H' _ h=>SqL.of (h.1 _ _ hX)) ?_ ?_]
   ·refine nm4 ?_;rintro i x σ H2 hx ⟨s2,v4,v5,ys,hY,hJ,rfl⟩:_;have hil:=(rQ.mp hx).1;obtain⟨r,pr,hri,rfl,hqr⟩:=hI.getR hx;have hrm:=af hri;obtain⟨hr10,hrc⟩:=hl r hrm;have hq2:=zk s2 hqr;have hyl:=hJ.len;rw[ac,aC]at hyl;right
    erw[yK,ba,aZ]
    refine zj (λσ H'=>H'=H2/\σ=[!!a,rJ (.bl b),~~~l,!!R,!!pr,rJ (.str (tx r.1))]) ?_ ?_
    ·rfl'
     exact#[_,hq2,rfl]
    rintro σ H3 ⟨rfl,rfl⟩:_;right;refine zj (λσ H'=>Same H3 H'/\σ=[!!a,rJ (.bl b),~~~l,!!R,!!pr,rJ (.str (tx (yk k r.1)))]) ?_ ?_
    ·rfl'
     refine yU (λhb=>#[⋯,⋯,⋯,λD hD=>CompR.by (λi rP H'=>Same H3 H'/\H' D=rJ (.lst rP)/\rP=(((r.1.reverse.take i).map λc=>[c]).map tx).map V.str) #[zd hD,zc,rfl] ?_ ?_]) λhb=>#[Same.refl _,?_]
     ·refine nm3 ?_;rintro i rP H' hi ⟨hs,hH,rfl⟩:_;rw[aH]at hi
      have hr:r.1.reverse[i]? = rJ (r.1[r.1.length - 1 - i]'⋯):=by
       rw[bp hi,ae ⋯]
      have ha:atI r.1 ((r.1.length:Int) - 1 - (0+(i:Int)))=rJ (r.1[r.1.length - 1 - i]'⋯):=by
       rw[show (r.1.length:Int) - 1 - (0+(i:Int))=((r.1.length - 1 - i:Nat):Int) by lia];exact jC (ae ⋯)
      right
      erw[xQ]
      rfl'
      refine#[yP,⋯,⋯,_,ha,hH,by erw[ac,aC,bB];lia,CNx.mk (by rw[aH];exact hi) #[zD hs hD,zc,?_]];rw[zJ hr,ao,ao,ao];rfl
     ·rintro rP H' ⟨hs,hH,rfl⟩;rw[aH,<- bB,aG]at hH
      have hfl:(r.1.reverse.map λc=>[c]).flatten=r.1.reverse:=by
       induction r.1.reverse with
       | nil=>rfl
       | cons a r ih=>rw[am,List.flatten_cons,ih];rfl
      refine#[tx [],D,(r.1.reverse.map λc=>[c]).map tx,rfl,rfl,SqL.of hH,Ut (by rw[hfl,bB];lia),?_];have e:Txt.join (tx []) ((r.1.reverse.map λc=>[c]).map tx)=Str.join (tx []) ((r.1.reverse.map λc=>[c]).map tx):=StrLaws.glued_eq_join _ _;rw[e,Wl,hfl];refine#[hs,?_];rw[<- hk,if_pos hb];rfl
     ·rw[<- hk,if_neg hb];rfl
    rintro σ H4 ⟨s4,rfl⟩:_;have hsl:(yk k r.1).length=r.1.length:=by unfold yk;split <;> erw[bB]
    have hsm:∀c ∈ yk k r.1,c ∈ l:=λc hc=>hrc c (by
     unfold yk at hc;split at hc
     ·exact rZ.mp hc
     ·exact hc)
    right
    rfl'
    refine#[.inl #[_,SqL.of (s4 _ _ hY)],⋯,λD hD=>CompS.by (l:=yk k r.1) (λi rP H'=>Same H4 H'/\H' D=rJ (.lst rP)/\rP=(uh l ((yk k r.1).take i)).map V.int) #[zd hD,zc,rfl] ?_ ?_]
    ·refine nm4 ?_;rintro i c rP H' hc ⟨hs,hH,rfl⟩:_;have hci:=(rQ.mp hc).1;have hcl:=hsm c (af hc);right
     erw[xQ]
     rfl'
     rw[Q4 hcl];refine#[yP,hH,by rw[ac];unfold uh;rw[ac,aC];lia,CNx.mk hci #[zD hs hD,zc,?_]];unfold uh;rw[zJ hc,ao,ao];rfl
    ·rintro rP H' ⟨hs,hH,rfl⟩;rw[aG]at hH;have hR':=hs _ _ (s4 _ _ hY);refine#[⋯,λp hp=>?_];have up:=zd (o:=HO.tup [.int ((yk k r.1).length:Nat),.ref D,.ref pr]) hp;have hDR:D≠R:=λe=>by rw[e,s4 _ _ hY]at hD;cases hD
     have hpR:p≠R:=λe=>by rw[e,hR']at hp;cases hp
     have s5:=(s2.trans s4).trans (hs.trans up);refine#[ys,up _ _ hR',⋯,zD s5 hR,_,_,ys ++ [.ref p],zc,?_,rfl,rfl];rw[Kp,zJ hri,ao];refine Iss.append (Iss.same (UO (s4.trans (hs.trans up))) _ _ hJ) ?_
     erw[am,aF,Iss,dK3,Is]
     refine#[_,_,rfl,#[p,_,rfl,SqT.of ((qp hpR).trans zc),_,_,rfl,by rw[hsl],_,_,rfl,#[D,_,rfl,SqL.of ((qp hDR).trans (up _ _ hH)),Iss.ints _],_,_,rfl,Xj (zk (U3 s5 hR) hqr),rfl],rfl]
   ·rintro σ H2 ⟨s2,v4,v5,ys,hY,hJ,rfl⟩;rw[hxl,aG]at hJ;exact#[s2,#[ys,hY,Iss.same Qa _ _ hJ],v4,v5,rfl]
  rintro σ H2 ⟨s2,v4,v5,⟨ys,hY,hJ⟩,rfl⟩:_;right
  rfl'
  obtain⟨r0,hr0⟩:∃r0,r0 ∈ rs:=by
   cases rs with
   | nil=>exact absurd rfl hne
   | cons r0 _=>exact#[r0,az]
  have hk2:k≠2:=by rw[<- hk];split <;> decide
  have hJ':Iss K H2 (rs.attach.map λa=>.tup ((xC k l rs #[r0,hr0]).dec a)) ys:=by
   rw[show (rs.attach.map λa=>L3.D.tup ((xC k l rs #[r0,hr0]).dec a))=rs.map λr=>.tup (dK3 k l r)from List.attach_map_val (f:=λr=>L3.D.tup (dK3 k l r))];exact hJ
  have hyl:=hJ.len;rw[ac]at hyl;obtain⟨rs',hS,hO⟩:=ZN hk2 hn (λr hr=>(hl r hr).2) hJ';refine#[R,ys,_,xC k l rs #[r0,hr0],rs.attach,rfl,SqL.of hY,⋯,Yx hk2 hn λr hr=>(hl r hr).2,hJ',λD hD=>#[D,rfl,#[_,SqL.of zc],λJ hJn=>?_]];generalize (srt (λ(p q:{r // r ∈ rs} × V)=>(xC k l rs #[r0,hr0]).lt p.1 q.1) ((xC k l rs #[r0,hr0]).d0,V.non) (rs.attach.zip ys)).map (·.2)=zs at *;have uD:=zd (o:=HO.lst zs) hD;have hzl:=hO.len;have hpl:=hS.1.length_eq;rw[ac]at hzl;refine CompL.by (xs:=zs) (λi rP H'=>Same (upd H2 D (.lst zs)) H'/\H' J=rJ (.lst rP)/\Iss K H' ((rs'.take i).map dR) rP) #[zd hJn,zc,by erw[bc,aF,Iss]] (λi rP H' _ h=>SqL.of (h.1 _ _ zc)) ?_ ?_
  ·refine nm4 ?_;rintro i x rP H' hx ⟨hs,hH,hIs⟩:_;have hil:=(rQ.mp hx).1;obtain⟨dd,e,hi⟩:=hO.get hx;rw[ax,ae ⋯]at e;obtain rfl:=Option.some.inj e;have ht:rs'[i]? = rJ (rs'[i]'⋯):=ae ⋯;right;generalize rs'[i]'⋯=r at *
   erw[dK3,Is,Iss]at hi
   obtain⟨p,us,rfl,hq,u1,t1,rfl,rfl,u2,t2,rfl,_,u3,t3,rfl,h3,rfl⟩:=hi;have hal:=hIs.len;rw[ac,aC]at hal;have hs2:=uD.trans hs
   erw[xQ]
   rfl'
   refine#[yP,_,zk hs2 hq,_,rfl,hH,⋯,CNx.mk hil #[zD hs hJn,zc,?_]];rw[zJ ht,ao];obtain⟨ws,hW,hV⟩:=LsA.snoc hH hIs (wA _) (vO r) (Is.same hs2 _ _ h3);rw[zc]at hW;cases hW;exact hV
  ·rintro rP H' ⟨hs,hH,hIs⟩;rw[hzl,aG]at hIs;exact q J H' rs' (s2.trans (uD.trans hs)) #[rP,hH,hIs] hS
theorem K1{l:()}(hk:k≠2)(u v:()):zO k l ns u v=rankF.lt (vT k l [] u) (vT k l [] v):=by
 unfold zO
 erw[rankF,vT,zu,if_neg hk]
theorem UQ{k:Nat}{l:()}{ns:List Int}{es zs:List Ent}(hk:k≠2)(hl:∀r ∈ rs,∀c ∈ r.1,c ∈ l)(hn:(rs.map Prod.fst).Nodup)(hz:Lined k l ns es zs)(hp:(zb zs).Perm rs)(hs:rs.Pairwise λa b=>rankF.lt (vT k l [] b.1) (vT k l [] a.1)=rM):zb zs=rs:=by
 refine List.Perm.eq_of_pairwise (le:=λa b:zp=>rankF.lt (vT k l [] b.1) (vT k l [] a.1)=rM) (λa b ha hb h1 h2=>?_) ?_ hs hp
 ·have ha':=hp.mem_iff.mp ha;refine j8 hn ha' hb ((QR (k:=k) (ns:=[]) (hl a ha') (hl b hb)).mp ?_);by_cases e:vT k l [] a.1=vT k l [] b.1
  ·exact e
  ·have:=uB e;rw[h1,h2]at this;cases this
 ·refine sx.mpr (hz.srt.imp λ{a b} h=>?_);unfold qG at h;by_cases e:b.1=a.1
  ·simp only;rw[e];exact v0 _
  ·rw[if_neg e,K1 hk]at h;exact h
theorem zaW{k r s:Nat}{l:()}{rs rs':List zp}{w:Bool}(hk:k≠2)(hs:∀p ∈ rs,TLr l s p)(h3:s<=3)(h12:rs.length<=12)(hA:(rs'.map lgR).Perm rs)(hn:(rs.map Prod.fst).Nodup)(ho:rs.Pairwise λa b=>rankF.lt (vT k l [] b.1) (vT k l [] a.1)=rM)(hr:ke rs=rM->r=0)(hC:Cpl k l ns (r+1) [] (fEs rs' rs'.length) w es):w=ke rs/\zb es=rs:=by
 have lin:=λzs (hz:Lined k l ns (fEs rs' rs'.length) zs)=>UZ hk hs ⋯ hA hn hz;have thin:∀{r},vz k l ns 20 (fEs rs' rs'.length) r->∃zs,Lined k l ns (fEs rs' rs'.length) zs/\r=rJ zs:=λh=>Kv (n:=19) h λzs hz=>(lin zs hz).1
 have good:∀zs,Lined k l ns (fEs rs' rs'.length) zs->uY zs=rM/\(∀t ∈ ovA (zb zs) (zb zs).length,OkG (zb zs) 40 t)/\zb zs=rs:=λzs hz=>by
  obtain⟨⟨h1,_⟩,hp,_⟩:=lin zs hz
  have hb:uY zs=rM:=by
   unfold uY;have:=hp.length_eq;rw[wk]at this;rw[decide_eq_false ⋯,Bool.false_or,List.any_eq_false];intro e he;have:=(h1 e he).a;have:=(h1 e he).b;rw[decide_eq_true_eq];lia
  have hpe:=UQ hk (λr hr=>(hs r hr).ma) hn hz hp ho;refine#[hb,λt ht=>?_,hpe];rw[hpe]at ht ⊢;obtain⟨⟨a1,a2⟩,b1,b2⟩:=zaM (l:=l) (ps:=rs) (λp h=>#[(hs p h).ma,(hs p h).mb]) (λp h=>#[by have:=(hs p h).a;lia,by have:=(hs p h).b;lia]) ht
  have sh:∀p ∈ rs,p.2.length<p.1.length:=λp h=>by
   have:=(hs p h).a;have:=(hs p h).b;lia
  obtain⟨i,hi,_⟩:=ja sh a1;obtain⟨j,hj,_⟩:=ja sh b1;exact#[by rw[uq hi];rfl,by rw[uq hj];rfl]
 cases hC with
 | slim h =>
  rcases h with h | ⟨bs,h,hb⟩
  ·obtain⟨zs,_,e⟩:=thin h;cases e
  ·obtain⟨zs,hz,e⟩:=thin h;cases e;rw[(good _ hz).1]at hb;cases hb
 | far h hb ht ho =>
  obtain⟨zs,hz,e⟩:=thin h;cases e;exact absurd ((good _ hz).2.1 _ ht) ho
 | whole h hb ho hu =>
  obtain⟨zs,hz,e⟩:=thin h;cases e;have hp:=(good _ hz).2.2;rw[hp]at hu;exact#[(metA_un.mpr hu).symm,hp]
 | more h hb ho hu q =>
  obtain⟨zs,hz,e⟩:=thin h;cases e;have hp:=(good _ hz).2.2
  have hm:ke rs=rM:=by
   rw[d8];exact λh=>hu (by rw[hp];exact metA_un.mp h)
  rw[hm];cases hr hm
  cases q with
  | out=>exact#[rfl,hp]
theorem zbe{l:()}{s:Nat}{rs rs':List zp}(hs:∀p ∈ rs,TLr l s p)(h:Alk rs rs'):(rs'.map lgR).Perm rs:=by
 have e:rs.map lgR=rs:=by
  refine (bA λp hp=>?_).trans (List.map_id _);unfold lgR;have:=(hs p hp).a;have:=(hs p hp).b;rw[if_neg ⋯];rfl
 have:=h.2 lgR λp hp=>by
  unfold lgR;have:=(hs p hp).a;have:=(hs p hp).b;simp only;rw[if_pos ⋯,if_neg ⋯]
 rw[e]at this;exact this
theorem zbA{l:()}(h:∀p ∈ rs,p.1.length<=60/\p.2.length<=60/\(∀c ∈ p.1,c ∈ l)/\∀c ∈ p.2,c ∈ l):∀e ∈ fEs rs rs.length,EB l e:=λe he=>by
 obtain⟨i,p,hi,hp,rfl⟩:=qz he;obtain⟨g1,g2,g3,g4⟩:=h p (af hp);exact#[g1,g2,by show ([((i:Int),(0:Int),rL)]:List Stp).length<=600;simp,g3,g4]
def Yk(K:nV)(T:nW):Sp:=λvs H Q _=>∃(a:nW) (ns:List Int),vs=[.ref a]/\SqL K H a (ns.map V.int)/\(∀z ∈ ns,uu z)/\H T=rJ (.tbl #[])/\∀H',Q (.bl rL) H'
theorem gB:sQz 1 ["_law_script","_law_first","_law_letters_here","_law_right","_law_order","_law_rules","_law_pacts","_law_whole_here","_law_rounds","_law_found"] u8:=by nofun
theorem zbn{f CO CR CW TB:nW}(B:Bt mg)(T:TWS P w K mg base CO CR CW)(F:("law"^^^u8))(lm:(1<<<"_law_cell") ["_law_script","_law_k"] [] (ji K))(nv:(2<<<"_law_letters") ["_law_cell_here","_law_many"] [] vF)(nF:(3<<<"_law_sided") ["_law_pairs_here","_law_right","_law_letters_here"] [] (Yi K))(ny:(2<<<"_law_turned") ["_law_pacts","_law_cell_here"] [] (Zm K))(nM:(2<<<"_law_meet") ["_law_rules"] [] (kR K))(nc:(10<<<"completed") ["order","pacts","rounds"] [] (Jf K CO CR CW TB))(nG:(2<<<"_law_pairs") ["_law_script","_law_letters_here","_law_size"] [] (QA K))(nN:(4<<<"_law_told") ["_law_found"] [] (Yd K))(nO:(2<<<"_law_end") ["_law_pacts","_law_word_here","_law_steps_here"] [] (YN K)):(11&&&["_law_script"]) (Yk K TB):=by
 exists F.ok gB
 ·obtain⟨a,ns,rfl,hS,hB,hT,q⟩:=h
  refine#[_,(zi (zy 1 gB.nd (cl0 lm hr .nil rfl (za (pv 0) (za ze zf))))
   (zi (zy 2 gB.nd (cl0 nv hr .nil rfl (za (pv 1) (za (zC z6 ze (zC xF (pv 1) ze)) zf))))
   (zi (zy 3 gB.nd (wu qA (zC xF (zC wS (pv 1) ze) ze) ze (zI _)))
   (zi (zy 4 gB.nd (mkC T.mO hr rfl T.gO (za (pv 2) zf)))
   (zi (zZ (yM (pv 3) (λ_=>rfl))
    (zh (zy 4 gB.nd (mkC T.mR hr rfl T.gR (za (pv 2) zf))))
    zB)
   (zi (zy 5 gB.nd (cl0 nF hr .nil rfl (za (cl0 nG hr .nil rfl (za (pv 0) (za (pv 2) (za (zC z6 ze (zC xF (zC wS (pv 1) ze) ze)) zf)))) (za (pv 3) (za (pv 2) zf)))))
   (zi (xO (i:=6) gB.nd rfl (Or.inr rfl) (cl0 ny hr .nil rfl (za (pv 5) (za (cl0 lm hr .nil rfl (za (pv 0) (za ze zf))) zf))))
   (zi (zy 7 gB.nd (cl0 nM hr .nil rfl (za (pv 5) zf)))
   (zi (zy 8 gB.nd ze)
   (zi (zZ (yM (pv 7) (λ_=>rfl))
    (zh (zy 8 gB.nd (zC xF (cl0 lm hr .nil rfl (za (pv 0) (za ze zf))) ze)))
    zB)
   (zi (zy 9 gB.nd (cl0 nc hr .nil rfl (za (pv 4) (za (vk xX rfl B.list PySem.Pv.boot_list (za (pv 6) zf)) (za (pv 8) zf)))))
   (zi (zZ (PW.pt (vG (yo (yM (cl0 nN hr .nil rfl (za (pv 9) zf)) (λ_=>rfl))) (vg (zG kK (zl ix_tup (pv 9) ze) (pv 7) (zI _)))))
    (zh (zt yT))
    zB)
   (zi (zZ (zG (zau (jW hr)) (yJ (own:=["_law_entry"]) (caps:=[]) (ix:=[]) (tt:=xQ) (te:=(XQ (zL (tOp (wM K) (z9 0) (tC (.int 0))) (zL (tOp (wM K) (z9 0) (tC (.int 1))) xH)))) rfl (zQ (sc:=zg u8) rfl (by symm) (by symm) (by symm) rfl (by symm) (by symm) rfl) (yi (zl ix_tup (pv 9) ze)) (λ_ _ _ _ _ _=>zv (i:=0) (show List.Nodup [_] by decide) rfl (.inl rfl)) (λ_ _ _ _ _ _=>yh) (λ_ _ _ _ _ _=>(z5 (za (zl ix_tup (pv 0) ze) (za (zl ix_tup (pv 0) ze) zf))))) (pv 5) (zI _))
    (zh (zt yT))
    zB)
   (zh (zt (yw (zco rfl) rfl B.all PyProof.Rows.boot_all (za (yJ (own:=["_law_entry"]) (caps:=["_law_pacts"]) (ix:=[6]) (tt:=xQ) (te:=(tOp rEq (uO (YN K) [] E0 (zL (z9 1) (zL (tOp (wM K) (z9 0) (tC (.int 0))) (zL (tOp (wM K) (z9 0) (tC (.int 2))) xH)))) (tOp (wM K) (z9 0) (tC (.int 1))))) rfl (zQ (sc:=zg u8) rfl (by symm) (by symm) (by symm) rfl (by symm) (by symm) rfl) (yi (zl ix_tup (pv 9) ze)) (λ_ _ _ _ _ _=>zv (i:=0) (show List.Nodup [_,_] by decide) rfl (.inl rfl)) (λ_ _ _ _ _ _=>yh) (λ_ _ _ _ _ _=>(wu qA (cl0 nO hr .nil rfl (za (pv 1) (za (zl ix_tup (pv 0) ze) (za (zl ix_tup (pv 0) ze) zf)))) (zl ix_tup (pv 0) ze) (zI _)))) zf))))))))))))))))),?_]
  have s16:=yb;have s16:=yb;have hTab:TabOk H TB lp lq:=#[#[],hT,trivial,.inl rfl];refine zj (λσ H'=>H'=H/\∃n:Int,uu n/\σ=[!!a,~~~!n,rK,rK,rK,rK,rK,rK,rK,rK]) ?_ ?_
  ·rfl'
   exact wZ hS hB ∅ λc hc=>#[rfl,c,hc,rfl]
  rintro σ H0 ⟨rfl,n,hn,rfl⟩:_;right;refine zj (λσ H'=>H'=H0/\∃l:(),Y8 l=rL/\l.length<=3/\σ=[!!a,~~~!n,~~~l,rK,rK,rK,rK,rK,rK,rK]) ?_ ?_
  ·rfl'
   have e0:=bD n (b:=2) ∅;have e1:=bu n (b:=2) ∅;exact#[∅,Zu hn ⋯ ⋯ λl hl hnd hs=>#[rfl,l,decide_eq_true #[⋯,⋯,hs,hnd],⋯,rfl]]
  rintro σ H1 ⟨rfl,l,hg,l3,rfl⟩:_;obtain⟨l1,l6,lsm,lnd⟩:=of_decide_eq_true hg;right;refine zj (λσ H'=>H'=H1/\∃b:Bool,σ=[!!a,~~~!n,~~~l,rJ (.bl b),rK,rK,rK,rK,rK,rK]) ?_ ?_
  ·rfl'
   exact#[#[∅,∅],∅]
  rintro σ H1 ⟨rfl,b,rfl⟩:_
  have mk:∀{C x dx:nW} {H:Hp},H x=rK->H dx=rK->Same H (upd (upd (upd H dx (.own x)) x (.ins C dx [])) x (.ins C dx [("letters",.str (tx l))])):=λ{C x dx H} hx hdx b o' e=>by
   rw[zq (zH e hx),zq (zH e hx)];exact zd hdx _ _ e
  right;refine zj (λσ H'=>Same H1 H'/\∃o:nW,OrdAt CO CR CW H' o 0 l (l.map λ_=>1)/\σ=[!!a,~~~!n,~~~l,rJ (.bl b),!!o,rK,rK,rK,rK,rK]) ?_ ?_
  ·rfl'
   intro x dx hx hdx hne;exact#[x,CO,dx,l,rfl,hg,T.cO,T.lO,zc,rfl,mk hx hdx,dx,.inl #[rfl,zc]]
  rintro σ H2 ⟨s2,o0,ho0,rfl⟩:_;obtain⟨k,hk⟩:∃k:Nat,(if b=rL then 1 else 0)=k:=#[_,rfl];right;refine zj (λσ H'=>Same H1 H'/\∃(o:nW),OrdAt CO CR CW H' o k l (l.map λ_=>1)/\σ=[!!a,~~~!n,~~~l,rJ (.bl b),!!o,rK,rK,rK,rK,rK]) ?_ ?_
  ·rfl'
   refine yU (λhb=>?_) λhb=>#[s2,by rw[<- hk,if_neg hb];exact ho0];intro x dx hx hdx hne;exact#[x,CR,dx,l,rfl,hg,T.cR,T.lR,zc,rfl,s2.trans (mk hx hdx),by rw[<- hk,if_pos hb];exact#[dx,.inr #[rfl,zc]]]
  rintro σ H3 ⟨s3,o,ho,rfl⟩:_;have k2:k≠2:=by rw[<- hk];split <;> decide
  have hG:OG l (l.map λ_=>1) k:=#[hg,by rw[<- hk];split <;> decide,ac _,λx hx=>by obtain⟨_,_,rfl⟩:=rR.mp hx;decide];have hS3:=s3.seq hS;right;refine zj (λσ H'=>Same H3 H'/\∃pr:nW,(∃(rs:List zp) (m:Nat),m<=3/\LsA K H' pr (rs.map dR)/\rs.length<=12/\(rs.map Prod.fst).Nodup/\(∀p ∈ rs,TLr l m p)/\rs.Pairwise λa b=>rankF.lt (vT k l [] b.1) (vT k l [] a.1)=rM)/\σ=[!!a,~~~!n,~~~l,rJ (.bl b),!!o,!!pr,rK,rK,rK,rK]) ?_ ?_
  ·rfl'
   have e0:=bD (n / 4) (b:=2) ∅;have e1:=bu (n / 4) (b:=2) ∅;rw[show 2+n / 4 % 2=((2+n / 4 % 2).toNat:Int) by lia];obtain⟨m,hm⟩:∃m,(2+n / 4 % 2).toNat=m:=#[_,rfl];rw[hm];refine#[#[∅,∅],∅,a,ns,l,m,rfl,hS3,hB,⋯,⋯,⋯,⋯,λD H' rs s' hL h12 hne hD=>#[D,rs,b,l,rfl,hL,hne,h12,hD.1,λr hr=>#[by have:=(hD.2 r hr).1;lia,(hD.2 r hr).2.2.1],hg,λD2 H5 rs' s5 hL5 hSd=>?_]];rw[hk]at hSd;refine#[s'.trans s5,D2,#[rs',m,⋯,hL5,by rw[hSd.1.length_eq];exact h12,((hSd.1.map Prod.fst).nodup_iff).mpr hD.1,λp hp=>?_,hSd.2],rfl];have h:=hD.2 p (hSd.1.mem_iff.mp hp);exact#[h.1,h.2.1,h.2.2.1,h.2.2.2]
  rintro σ H4 ⟨s4,pr,⟨rs,m,m3,hP,h12,hnd,hTL,hso⟩,rfl⟩:_;have hS4:=s4.seq hS3;right;refine zj (λσ H'=>Same H4 H'/\∃pa:nW,(∃rs',LsA K H' pa (rs'.map dR)/\Alk rs rs')/\σ=[!!a,~~~!n,~~~l,rJ (.bl b),!!o,!!pr,!!pa,rK,rK,rK]) ?_ ?_
  ·rfl'
   exact wZ hS4 hB ∅ λc hc=>#[pr,c,rs,rfl,hc,hP,⋯,λD H' rs' s' hL hA=>#[s',D,#[rs',hL,hA],rfl]]
  rintro σ H5 ⟨s5,pa,⟨rs',hPa,hA⟩,rfl⟩:_;have hAp:=zbe hTL hA;have hrl:rs'.length<=12:=by rw[hA.1];exact h12
  have hrs:∀p ∈ rs',p.1.length<=3/\p.2.length<=3/\(∀c ∈ p.1,c ∈ l)/\∀c ∈ p.2,c ∈ l:=λp hp=>by
   have h:=hTL _ (hAp.mem_iff.mp (rR.mpr #[p,hp,rfl]));have h1:=h.a;have h2:=h.b;have h3:=h.ma;have h4:=h.mb;unfold lgR at h1 h2 h3 h4;by_cases g:p.1.length<p.2.length
   ·rw[if_pos g]at h1 h2 h3 h4;simp only at h1 h2 h3 h4;exact#[⋯,⋯,h4,h3]
   ·rw[if_neg g]at h1 h2 h3 h4;exact#[⋯,⋯,h3,h4]
  have hok:jR rs':=#[⋯,λr hr=>by have:=hrs r hr;lia];have hPr:=hP.same s5;right;refine zj (λσ H'=>Same H5 H'/\σ=[!!a,~~~!n,~~~l,rJ (.bl b),!!o,!!pr,!!pa,rJ (.bl (ke rs)),rK,rK]) ?_ ?_
  ·rfl'
   refine#[pr,rs,rfl,hPr,#[λp hp e=>?_,λp hp=>?_,λp hp=>?_,⋯],λp hp=>?_,λH' s'=>#[s',rfl]]
   ·have h1:=(hTL p hp).a;have h2:=(hTL p hp).b;rw[e]at h1
    erw[bS]at h1
    lia
   all_goals
    have h1:=(hTL p hp).a;have h2:=(hTL p hp).b;lia
  rintro σ H6 ⟨s6,rfl⟩:_;right;refine zj (λσ H'=>H'=H6/\σ=[!!a,~~~!n,~~~l,rJ (.bl b),!!o,!!pr,!!pa,rJ (.bl (ke rs)),~~~!0,rK]) ?_ ?_
  ·rfl'
  rintro σ H6 ⟨rfl,rfl⟩:_;have sE:=s4.trans (s5.trans s6);right;refine zj (λσ H'=>H'=H6/\∃r:Nat,(ke rs=rM->r=0)/\r<=3/\σ=[!!a,~~~!n,~~~l,rJ (.bl b),!!o,!!pr,!!pa,rJ (.bl (ke rs)),-~~~r,rK]) ?_ ?_
  ·rfl'
   refine yU (λhm=>wZ (sE.seq hS3) hB ∅ λc hc=>?_) λhm=>?_
   ·have c0:=bD c (b:=4) ∅;have c1:=bu c (b:=4) ∅;exact#[c,rfl,∅,rfl,(c % 4).toNat,λh=>absurd (h.symm.trans hm) ∅,⋯,⋯]
   ·exact#[0,λ_=>rfl,∅,rfl]
  rintro σ H6 ⟨rfl,r,hr0,hr3,rfl⟩:_;have hTab6:=hTab.same (s3.trans sE);obtain⟨tp,htp,_⟩:=id hTab6;have ho6:=ho.same sE;obtain⟨px,hPx,hPi⟩:=id (hPa.same s6);right;refine zj (λσ H'=>SamT TB H6 H'/\∃(fp D:nW) (es:List Ent),zb es=rs/\Gd rs' k l (l.map λ_=>1) es/\H' fp=rJ (.tup [.bl (ke rs),.ref D])/\EnsM K H' D es/\σ=[!!a,~~~!n,~~~l,rJ (.bl b),!!o,!!pr,!!pa,rJ (.bl (ke rs)),-~~~r,!!fp]) ?_ ?_
  ·rfl'
   refine#[px,.inl (SqL.of hPx),λh hh=>#[o,h,k,l,_,rs',r,rfl,OrdAt.same ho6 (zd hh),hG,#[px,zc,Iss.same (zd hh) _ _ hPi],⋯,(λp hp=>by have h1:=hrs p hp;exact#[⋯,⋯,h1.2.2.1,h1.2.2.2]),(λp hp=>by have h1:=hrs p hp;lia),⋯,hTab6.same (zd hh),λw es p D H' hC hBG hs hTk hp hM=>?_]];obtain⟨rfl,hpe⟩:=zaW k2 hTL m3 h12 hAp hnd hso hr0 hC;exact#[(SamT.of (zd hh)).trans hs,p,D,es,hpe,za6 hG hC (zbA λp hp=>#[by have:=hrs p hp;lia,by have:=hrs p hp;lia,(hrs p hp).2.2]) (λe he=>Qz he) #[λe he=>(nomatch he),.inl rfl],hp,hM,rfl]
  rintro σ H7 ⟨s7,fp,D,es,hpe,⟨hAll,hor⟩,hfp,hM,rfl⟩:_;have hlen:es.length<=12:=by rw[<- wk,hpe];exact h12
  have hsd:∀e ∈ es,EB l e/\e.1.length<=10/\e.2.1.length<=10:=λe he=>by
   rcases hor with rfl | ⟨_,h,hb⟩
   ·cases he
   ·exact#[hb.e e he,(jf h).2 e he]
  obtain⟨xs,hX,hEn⟩:=id hM;have hxl:=hEn.len;have hPr7:=LsA.samT (hPr.same s6) s7 htp;have hPa7:=LsA.samT (hPa.same s6) s7 htp;right;refine zj (λσ H'=>H'=H7/\σ=[!!a,~~~!n,~~~l,rJ (.bl b),!!o,!!pr,!!pa,rJ (.bl (ke rs)),-~~~r,!!fp]) ?_ ?_
  ·ac_rfl;exact#[fp,D,ke rs,es,rfl,hfp,hM.l,rL,rfl,yU (λe=>by cases e) λ_=>#[_,SqT.of hfp,_,rfl,rfl,yU (λe=>absurd rfl e) λ_=>rfl]]
  rintro σ H7 ⟨rfl,rfl⟩:_;right;refine zj (λσ H'=>Same H7 H'/\σ=[!!a,~~~!n,~~~l,rJ (.bl b),!!o,!!pr,!!pa,rJ (.bl (ke rs)),-~~~r,!!fp]) ?_ ?_
  ·ac_rfl;refine#[_,SqT.of hfp,_,rfl,D,rfl,#[_,SqL.of hX],λJ hJ=>CompL.by (xs:=xs) (λi rP H'=>Same H7 H'/\H' J=rJ (.lst rP)/\Iss K H' (((zb es).take i).map dR) rP) #[zd hJ,zc,by erw[bc,aF,Iss]] (λi rP H' _ h=>SqL.of (h.1 _ _ hX)) ?_ ?_]
   ·refine nm4 ?_;rintro i x rP H' hx ⟨hs,hH,hIs⟩:_;have hi:=(rQ.mp hx).1;obtain⟨e,pe,se,hei,rfl,hqe,hse⟩:=hEn.get hx;have hm:(zb es)[i]? = rJ (e.1,e.2.1):=by unfold zb;rw[ax,hei];rfl
    have hal:=hIs.len;rw[ac,aC]at hal;have hq2:=zk hs hqe;right
    erw[xQ]
    rfl'
    refine#[yP,_,hq2,_,rfl,_,hq2,_,rfl,⋯,λp hp=>#[zd hp _ _ hH,⋯,CNx.mk hi #[zD (hs.trans (zd hp)) hJ,zc,?_]]];rw[zJ hm,ao];have u2:=zd (o:=HO.tup [.str (tx e.1),.str (tx e.2.1)]) hp;obtain⟨ys,hY,hV⟩:=LsA.snoc (u2 _ _ hH) (Iss.same u2 _ _ hIs) (wA _) (vO (e.1,e.2.1)) (Xj (SqT.of zc));rw[zc]at hY;cases hY;exact hV
   ·rintro rP H' ⟨hs,hH,hIs⟩;have hpl:=wk es;rw[hxl,<- hpl,aG,hpe]at hIs;refine Kh (.inl #[LsA.is #[rP,hH,hIs],(hPr7.same hs).is]) (cp (Je _) ∅) #[_,rfl,yU (λe=>by rw[ve]at e;cases e) λ_=>hs]
  rintro σ H8 ⟨s8,rfl⟩:_;obtain⟨xs2,hX2,hI2⟩:=hM.same s8;have hxl2:=hI2.len;have hP8:=hPa7.same s8;right
  rfl'
  refine#[_,SqT.of (s8 _ _ hfp),_,rfl,D,rfl,#[_,SqL.of hX2],λJ hJ=>CompL.by (xs:=xs2) (λi rP H'=>Same H8 H'/\H' J=rJ (.lst rP)/\rP=(ce i rL).map V.bl) #[zd hJ,zc,rfl] (λi rP H' _ h=>SqL.of (h.1 _ _ hX2)) ?_ ?_]
  ·refine nm4 ?_;rintro i x rP H' hx ⟨hs,hH,rfl⟩:_;have hi:=(rQ.mp hx).1;obtain⟨e,pe,se,hei,rfl,hqe,hse⟩:=hI2.get hx;have hEe:=(hsd e (af hei)).1;have hok':=hAll e (af hei);have hq2:=zk hs hqe;right
   erw[xQ]
   rfl'
   refine#[yP,_,hq2,_,rfl,_,hq2,_,rfl,zac (hP8.same hs).is hok (by have:=hEe.a;lia) (hse.same hs).is (by have:=hEe.s;lia) hok' #[_,hq2,_,rfl,rfl,hH,by rw[ac,bN];lia,CNx.mk hi #[zD hs hJ,zc,?_]]];rw[List.replicate_succ',ao];simp
  ·rintro rP H' ⟨hs,hH,rfl⟩;refine#[J,ce xs2.length rL,rfl,SqL.of hH,?_];have e:(ce xs2.length rL).all id=rL:=by simp
   rw[e];exact q _
end
def FnE(K:nV)(x q:og)(st:ot)(f:nW):Prop:=∃fd,Fun K x q st f fd
def FnA(K:nV)(x:og)(st:ot)(f:nW):Prop:=aB K nR x=rJ (rJ (.ref f))/\FnE K x x st f
theorem FnA.mk{K:nV}{x:og}{st:ot}{h:oo}{mg:og->Option nX}(q:FnA K x st f)(X:K.In h)(G:h.Ns nR mg):mg x=rJ (.ref f)/\aK K (.ref f)=rL/\FnE K x x st f:=by
 obtain⟨a,fd,F⟩:=q;exact#[aO X G a,F.kp,fd,F]
theorem kO{us:List nX}(h:us.length=1):∃a,us=[a]:=List.length_eq_one_iff.mp h
theorem vL{us:List nX}(h:us.length=2):∃a0 a1,us=[a0,a1]:=by
 cases us with
 | nil=>cases h
 | cons a r =>
  obtain⟨a1,rfl⟩:=kO (Nat.succ.inj h);exact#[a,a1,rfl]
theorem Yp{us:List nX}(h:us.length=3):∃a0 a1 a2,us=[a0,a1,a2]:=by
 cases us with
 | nil=>cases h
 | cons a r =>
  obtain⟨a1,a2,rfl⟩:=vL (Nat.succ.inj h);exact#[a,a1,a2,rfl]
theorem zbO{us:List nX}(h:us.length=4):∃a0 a1 a2 a3,us=[a0,a1,a2,a3]:=by
 cases us with
 | nil=>cases h
 | cons a r =>
  obtain⟨a1,a2,a3,rfl⟩:=Yp (Nat.succ.inj h);exact#[a,a1,a2,a3,rfl]
theorem zdT{us:List nX}(h:us.length=5):∃a0 a1 a2 a3 a4,us=[a0,a1,a2,a3,a4]:=by
 cases us with
 | nil=>cases h
 | cons a r =>
  obtain⟨a1,a2,a3,a4,rfl⟩:=zbO (Nat.succ.inj h);exact#[a,a1,a2,a3,a4,rfl]
theorem zd0{us:List nX}(h:us.length=6):∃a0 a1 a2 a3 a4 a5,us=[a0,a1,a2,a3,a4,a5]:=by
 cases us with
 | nil=>cases h
 | cons a r =>
  obtain⟨a1,a2,a3,a4,a5,rfl⟩:=zdT (Nat.succ.inj h);exact#[a,a1,a2,a3,a4,a5,rfl]
theorem zeb{us:List nX}(h:us.length=7):∃a0 a1 a2 a3 a4 a5 a6,us=[a0,a1,a2,a3,a4,a5,a6]:=by
 cases us with
 | nil=>cases h
 | cons a r =>
  obtain⟨a1,a2,a3,a4,a5,a6,rfl⟩:=zd0 (Nat.succ.inj h);exact#[a,a1,a2,a3,a4,a5,a6,rfl]
theorem dfm(P:nZ)(w:oh){K:nV}{mg:og->Option nX}(base:oo){CX:CXT}{nm:og}{ps:List og}{sp:Sp}(h:FnOk P w K mg base CX k f fd ps sp)(m:mg nm=rJ (.ref f))(p:aK K (.ref f)=rL)(b:Binds K fd ps []):Df P w K mg base CX k nm ps [] sp:=#[_,_,h,m,p,b]
local macro_rules | `(tactic| injections)=>`(tactic| (intro _ _ _ _ _ _ us hl;first | (obtain⟨_,e⟩:=kO hl;subst e;rfl) | (obtain⟨_,_,e⟩:=vL hl;subst e;rfl) | (obtain⟨_,_,_,e⟩:=Yp hl;subst e;rfl) | (obtain⟨_,_,_,_,e⟩:=zbO hl;subst e;rfl)))
local macro_rules | `(nofun)=>`(by injections)
theorem all_mk{l:PySem.W.OpenLaw}{w:oh}{K:nV}{h:oo}{mg:og->Option nX}{fa f0 f1 f2 f3 f4 f5 f6 f7 f8 f9 f10 f11 f12 f13 f14 f15 f16 f17 f18 f19 f20 f21 f22 f23 f24 f25 f26 f27 f28 f29 f30 f31 f32 f33 f34 f35 f36 f37 f38 f39 f40 f41 f42 f43 f44 f45 f46 mH gg gc gb gd ge gn gf:nW}{cc TB:nW}(X:K.In h)(G:h.Ns nR mg)(hfa:mg "law" = rJ (.ref fa))(hlam:∃a o fd,mg "in_order" = rJ (.ref a)/\h.get? a=rJ o/\o.data=.func fd/\fd.code=.ref cc)(hgT:nR≠TB)
{od6 an6 od12 an12 od30 an30 od46 an46:Option nW}{sl6 sl12 sl30 sl46:Array (Option nX)}{oc6 kV6 dc6 pm6 cd6 ct6 oc12 kV12 dc12 pm12 cd12 ct12 oc30 kV30 dc30 pm30 cd30 ct30 oc46 kV46 dc46 pm46 cd46 ct46:nX}
  {t6:rh}
  {fI:nW}
  {odI anI:Option nW}
  {slI:Array (Option nX)}
  {ocI kVI dcI pmI cdI ctI:nX}
  {t8:rh}
  {fU:nW}
  {odU anU:Option nW}
  {slU:Array (Option nX)}
  {ocU kVU dcU pmU cdU ctU:nX}
  {tmu tms tmd tmp:rh}
  {tcu tce tcd tcp:rh}
  {gU:nW}
  {gC:nW}
  {iB:nW}
  {gK:nW}
  {gW:nW}
  {gD:nW}
  {ip:nW}
  {gv:nW}
  {md:nW}
  {iN:rh}
  {d1_gone:nX}
  {d2_gone:Option nW}
  {d3_gone:Nat}
  {d4_gone:Array (Option nX)}
  {lr:nW}
  {ln:rh}
  {d1_unmet:nX}
  {d2_unmet:Option nW}
  {d3_unmet:Nat}
  {d4_unmet:Array (Option nX)}
  (a0:FnA K "is_small_letter" yH f0)
  (a1:FnA K "letters_of" wo f1)
  (a2:FnA K "stands_at" wT f2)
  (a3:FnA K "put" Jz f3)
  (a4:FnA K "first_within" xp f4)
  (a5:FnA K "first_from" ww f5)
  (a6:aB K nR "gone" = rJ (rJ (.ref f6))) (l6:K.lookup f6=rJ #[oc6,od6,.func (bn "gone" "gone" (yC wG) (z8 wG) (zg wG) (.ref md) kV6 dc6 pm6 an6 cd6 ct6),sl6]) (k6:bG K cd6 "gone" = rL) (p6:aK K (.ref f6)=rL)
  (a7:FnA K "back" YH f7)
  (a8:FnA K "moved" jn f8)
  (a9:FnA K "by_pacts" vI f9)
  (a10:FnA K "pairs_of" wC f10)
  (a11:FnA K "as_rule" uJ f11)
  (a12:aB K nR "in_order" = rJ (rJ (.ref f12))) (l12:K.lookup f12=rJ #[oc12,od12,.func (bn "in_order" "in_order" (yC ym) (z8 ym) (zg ym) .none kV12 dc12 pm12 an12 cd12 ct12),sl12]) (k12:bG K cd12 "in_order" = rL) (p12:aK K (.ref f12)=rL)
  (a13:FnA K "brought_down" xu f13)
  (a14:FnA K "refuse_beyond" y4 f14)
  (a15:FnA K "built_anew" wj f15)
  (a16:FnA K "thinned" qe f16)
  (a17:FnA K "_law_cell" Vh f17)
  (a18:FnA K "_law_mixed" Zy f18)
  (a19:FnA K "_law_letters" uM f19)
  (a20:FnA K "_law_word" W6 f20)
  (a21:FnA K "_law_whole" Z5 f21)
  (a22:FnA K "_law_steps" ZU f22)
  (a23:FnA K "_law_used" Wx f23)
  (a24:FnA K "_law_end" KZ f24)
  (a25:FnA K "agree" ZR f25)
  (a26:FnA K "overlaps" vA f26)
  (a27:FnA K "peak" WA f27)
  (a28:FnA K "form_of" uW f28)
  (a29:FnA K "is_met" jk f29)
  (a30:aB K nR "unmet" = rJ (rJ (.ref f30))) (l30:K.lookup f30=rJ #[oc30,od30,.func (bn "unmet" "unmet" (yC xw) (z8 xw) (zg xw) (.ref lr) kV30 dc30 pm30 an30 cd30 ct30),sl30]) (k30:bG K cd30 "unmet" = rL) (p30:aK K (.ref f30)=rL)
  (a31:FnA K "system_by" wP f31)
  (a32:FnA K "first_entries" yv f32)
  (a33:FnA K "is_beyond" xK f33)
  (a34:FnA K "thinned_within" yL f34)
  (a35:FnA K "unmet_within" xq f35)
  (a36:FnA K "entry_of" vE f36)
  (a37:FnA K "completed" xL f37)
  (a38:FnA K "_law_entries" uA f38)
  (a39:FnA K "_law_told" VA f39)
  (a40:FnA K "_law_form" VE f40)
  (a41:FnA K "_law_meet" Wv f41)
  (a42:FnA K "_law_turned" vj f42)
  (a43:FnA K "_law_exact" ZE f43)
  (a44:FnA K "_law_pairs" jd f44)
  (a45:FnA K "_law_sided" vH f45)
  (a46:aB K nR "law" = rJ (rJ (.ref f46))) (l46:K.lookup f46=rJ #[oc46,od46,.func (bn "law" "law" (yC u8) (z8 u8) (zg u8) .none kV46 dc46 pm46 an46 cd46 ct46),sl46]) (k46:bG K cd46 "law" = rL) (p46:aK K (.ref f46)=rL)
  (g_LetterError:aB K nR "LetterError" = rJ (rJ (.ref mH)))
  (g_NoLetters:aB K nR "NoLetters" = rJ (rJ (.ref gg)))
  (g_Order:aB K nR "Order" = rJ (rJ (.ref gc)))
  (g_FromRight:aB K nR "FromRight" = rJ (rJ (.ref gb)))
  (g_NotTurned:aB K nR "NotTurned" = rJ (rJ (.ref gd)))
  (g_System:aB K nR "System" = rJ (rJ (.ref ge)))
  (g_NoUse:aB K nR "NoUse" = rJ (rJ (.ref gn)))
  (g_TooFar:aB K nR "TooFar" = rJ (rJ (.ref gf)))
  (kbb:aS K (.type "bool") (.type "bool")=rJ rL)
  (kt:aS K (.type "tuple") (.type "tuple")=rJ rL)
  (ki:aS K (.type "int") (.type "int")=rJ rL)
  (kb:aS K (.type "int") (.type "bool")=rJ rM)
  (kl:aS K (.type "list") (.type "list")=rJ rL)
  (XIl:XI K gg)
  (xi:ak K (.ref gg) "__init__" = rJ (rJ (.builtin "ValueError.__init__")))
  (most:aB K nR "MOST_LETTERS" = rJ (rJ (.int 6 t6)))
  (lu:cb K gc fv=rL)
  (lv:cy K gc=rL)
  (lw:cI K gc=rL)
  (lx:ak K (.ref gc) "__setattr__" = rJ (rJ (.builtin "object.__setattr__")))
  (mn:cZ K gc=rL)
  (mq:aK K (.ref gc)=rL)
  (ly:ak K (.ref gc) "letters" = rJ rK)
  (mU:aS K (.ref gc) (.ref gc)=rJ rL)
  (mV:ak K (.ref gc) "__class__" = rJ (rJ (.builtin "object.__class__")))
  (mW:bX K gc (.type "object")=rJ rL)
  (iR:cb K gb fv=rL)
  (iS:cy K gb=rL)
  (iT:cI K gb=rL)
  (iU:ak K (.ref gb) "__setattr__" = rJ (rJ (.builtin "object.__setattr__")))
  (iV:cZ K gb=rL)
  (iW:aK K (.ref gb)=rL)
  (iX:ak K (.ref gb) "letters" = rJ rK)
  (lN:aS K (.ref gb) (.ref gc)=rJ rL)
  (lP:ak K (.ref gb) "__class__" = rJ (rJ (.builtin "object.__class__")))
  (lQ:bX K gb (.type "object")=rJ rL)
  (win:aB K nR "WINDOW" = rJ (rJ (.int 128 t8)))
  (XIt:XI K gd)
  (nn:ak K (.ref gd) "number" = rJ rK)
  (ini:ak K (.ref gd) "__init__" = rJ (rJ (.ref fI)))
  (lI:K.lookup fI=rJ #[ocI,odI,.func (bn "__init__" "NotTurned.__init__" (yC zW) (z8 zW) (zg zW) .none kVI dcI pmI anI cdI ctI),slI])
  (kI:bG K cdI "NotTurned.__init__" = rL)
  (pI:aK K (.ref fI)=rL)
  (fnI:bj K (.ref fI)=rL)
  (lS:cb K ge fv=rL)
  (lT:cy K ge=rL)
  (lV:cI K ge=rL)
  (lX:ak K (.ref ge) "__setattr__" = rJ (rJ (.builtin "object.__setattr__")))
  (lY:cZ K ge=rL)
  (lZ:aK K (.ref ge)=rL)
  (no_System:ak K (.ref ge) "order" = rJ rK)
  (nr_System:ak K (.ref ge) "rules" = rJ rK)
  (XIu:XI K gn)
  (ua:ak K (.ref gn) "at" = rJ rK)
  (iniU:ak K (.ref gn) "__init__" = rJ (rJ (.ref fU)))
  (lU:K.lookup fU=rJ #[ocU,odU,.func (bn "__init__" "NoUse.__init__" (yC yq) (z8 yq) (zg yq) .none kVU dcU pmU anU cdU ctU),slU])
  (kU:bG K cdU "NoUse.__init__" = rL)
  (pU:aK K (.ref fU)=rL)
  (fnU:bj K (.ref fU)=rL)
  (XIf:XI K gf)
  (vi:ak K (.ref gf) "__init__" = rJ (rJ (.builtin "ValueError.__init__")))
  (sFF:cS K (.ref gf) (.ref gf)=rJ rL)
  (ks:aS K (.type "str") (.type "str")=rJ rL)
  (nmin:aB K nR "min" = rJ rK)
  (nany:aB K nR "any" = rJ rK)
  (nsorted:aB K nR "sorted" = rJ rK)
  (mou:aB K nR "MOST_USES_thinning" = rJ (rJ (.int 40 tmu)))
  (mos:aB K nR "MOST_STEPS" = rJ (rJ (.int 240 tms)))
  (mod_:aB K nR "MOST_SIDE_thinning" = rJ (rJ (.int 60 tmd)))
  (mop:aB K nR "MOST_PASSES" = rJ (rJ (.int 20 tmp)))
  (mcu:aB K nR "MOST_USES_completing" = rJ (rJ (.int 40 tcu)))
  (mce:aB K nR "MOST_ENTRIES" = rJ (rJ (.int 12 tce)))
  (mcd:aB K nR "MOST_SIDE_completing" = rJ (rJ (.int 10 tcd)))
  (mcp:aB K nR "MOST_PEAKS" = rJ (rJ (.int 8 tcp)))
  (iC:ak K (.ref gc) "__init__" = rJ (rJ (.ref gU)))
  (iD:FnE K "__init__" "Order.__init__" wm gU)
  (gX:bj K (.ref gU)=rL)
  (ig:ak K (.ref gc) "weight" = rJ (rJ (.ref gC)))
  (ij:FnE K "weight" "Order.weight" xo gC)
  (gE:bj K (.ref gC)=rL)
  (iE:ak K (.ref gc) "seen" = rJ (rJ (.ref iB)))
  (iF:FnE K "seen" "Order.seen" wx iB)
  (iG:bj K (.ref iB)=rL)
  (gL:ak K (.ref gb) "seen" = rJ (rJ (.ref gK)))
  (gM:FnE K "seen" "FromRight.seen" yO gK)
  (gN:bj K (.ref gK)=rL)
  (iH:ak K (.ref gc) "rank" = rJ (rJ (.ref gW)))
  (iI:FnE K "rank" "Order.rank" xg gW)
  (gY:bj K (.ref gW)=rL)
  (ik:ak K (.ref gc) "before" = rJ (rJ (.ref gD)))
  (il:FnE K "before" "Order.before" xn gD)
  (gF:bj K (.ref gD)=rL)
  (iq:ak K (.ref ge) "__init__" = rJ (rJ (.ref ip)))
  (ir:FnE K "__init__" "System.__init__" xJ ip)
  (iu:bj K (.ref ip)=rL)
  (gw:ak K (.ref ge) "rules_told" = rJ (rJ (.ref gv)))
  (gx:FnE K "rules_told" "System.rules_told" yl gv)
  (gy:bj K (.ref gv)=rL)
  (me:K.lookup md=rJ #[d1_gone,d2_gone,.seq #[.int 4000 iN] d3_gone,d4_gone])
  (lA:K.lookup lr=rJ #[d1_unmet,d2_unmet,.seq #[.int 4000 ln] d3_unmet,d4_unmet])
  (fiR_init:ak K (.ref gb) "__init__" = rJ (rJ (.ref gU)))
  (fiR_weight:ak K (.ref gb) "weight" = rJ (rJ (.ref gC)))
  (fiR_rank:ak K (.ref gb) "rank" = rJ (rJ (.ref gW)))
  (fiR_before:ak K (.ref gb) "before" = rJ (rJ (.ref gD)))
  (b0:aB K nR "len" = rJ rK)
  (b1:aB K nR "range" = rJ rK)
  (b2:aB K nR "isinstance" = rJ rK)
  (b3:aB K nR "str" = rJ rK)
  (b4:aB K nR "int" = rJ rK)
  (b5:aB K nR "tuple" = rJ rK)
  (b6:aB K nR "list" = rJ rK)
  (b7:aB K nR "bool" = rJ rK)
  (b8:aB K nR "enumerate" = rJ rK)
  (b9:aB K nR "all" = rJ rK)
  (b10:aB K nR "ValueError" = rJ rK)
  (b11:aB K nR "max" = rJ rK)
  (b12:aB K nR "reversed" = rJ rK)
  (b13:aB K nR "zip" = rJ rK)
  (b14:aB K nR "sum" = rJ rK)
  (b15:aB K nR "sorted" = rJ rK)
  : ∃fd:oe,(∀(s:nY) (v:nX),pV s fd #[[v],[]] [("_law_script",v)])/\∀base:oo,K.In base->base.Ns nR mg->base.BuiltinsAt mg TB->PySem.W.CodeHd base cc TB->FnOk l.prog w K mg base CX0 11 fa fd ["_law_script"] (Yk K TB):=by
 have e:=hfa.symm.trans (aO X G a46);cases e;have B:Bt mg:=#[aI X G b0,aI X G b1,aI X G b2,aI X G b3,aI X G b4,aI X G b5,aI X G b6,aI X G b7,aI X G b8,aI X G b9,aI X G b10,aI X G b11,aI X G b12,aI X G b13,aI X G b14,aI X G b15];obtain⟨M0,p0,_,F0⟩:=a0.mk X G;obtain⟨M1,p1,_,F1⟩:=a1.mk X G;obtain⟨M2,p2,_,F2⟩:=a2.mk X G;obtain⟨M3,p3,_,F3⟩:=a3.mk X G;obtain⟨M4,p4,_,F4⟩:=a4.mk X G;obtain⟨M5,p5,_,F5⟩:=a5.mk X G;have F6:FunD K "gone" "gone" wG (.ref md) f6 (bn "gone" "gone" (yC wG) (z8 wG) (zg wG) (.ref md) kV6 dc6 pm6 an6 cd6 ct6):=⟨#[_,_,_,_,_,_,_,_,_,rfl,l6,k6]⟩;have M6:=aO X G a6;obtain⟨M7,p7,_,F7⟩:=a7.mk X G;obtain⟨M8,p8,_,F8⟩:=a8.mk X G;obtain⟨M9,p9,_,F9⟩:=a9.mk X G;obtain⟨M10,p10,_,F10⟩:=a10.mk X G;obtain⟨M11,p11,_,F11⟩:=a11.mk X G;have F12:=fun_mk (st:=ym) l12 k12 p12;have M12:=aO X G a12;obtain⟨M13,p13,_,F13⟩:=a13.mk X G;obtain⟨M14,p14,_,F14⟩:=a14.mk X G;obtain⟨M15,p15,_,F15⟩:=a15.mk X G;obtain⟨M16,p16,_,F16⟩:=a16.mk X G;obtain⟨M17,p17,_,F17⟩:=a17.mk X G;obtain⟨M18,p18,_,F18⟩:=a18.mk X G;obtain⟨M19,p19,_,F19⟩:=a19.mk X G;obtain⟨M20,p20,_,F20⟩:=a20.mk X G;obtain⟨M21,p21,_,F21⟩:=a21.mk X G;obtain⟨M22,p22,_,F22⟩:=a22.mk X G;obtain⟨M23,p23,_,F23⟩:=a23.mk X G;obtain⟨M24,p24,_,F24⟩:=a24.mk X G;obtain⟨M25,p25,_,F25⟩:=a25.mk X G;obtain⟨M26,p26,_,F26⟩:=a26.mk X G;obtain⟨M27,p27,_,F27⟩:=a27.mk X G;obtain⟨M28,p28,_,F28⟩:=a28.mk X G;obtain⟨M29,p29,_,F29⟩:=a29.mk X G;have F30:FunD K "unmet" "unmet" xw (.ref lr) f30 (bn "unmet" "unmet" (yC xw) (z8 xw) (zg xw) (.ref lr) kV30 dc30 pm30 an30 cd30 ct30):=⟨#[_,_,_,_,_,_,_,_,_,rfl,l30,k30]⟩;have M30:=aO X G a30;obtain⟨M31,p31,_,F31⟩:=a31.mk X G;obtain⟨M32,p32,_,F32⟩:=a32.mk X G;obtain⟨M33,p33,_,F33⟩:=a33.mk X G;obtain⟨M34,p34,_,F34⟩:=a34.mk X G;obtain⟨M35,p35,_,F35⟩:=a35.mk X G;obtain⟨M36,p36,_,F36⟩:=a36.mk X G;obtain⟨M37,p37,_,F37⟩:=a37.mk X G;obtain⟨M38,p38,_,F38⟩:=a38.mk X G;obtain⟨M39,p39,_,F39⟩:=a39.mk X G;obtain⟨M40,p40,_,F40⟩:=a40.mk X G;obtain⟨M41,p41,_,F41⟩:=a41.mk X G;obtain⟨M42,p42,_,F42⟩:=a42.mk X G;obtain⟨M43,p43,_,F43⟩:=a43.mk X G;obtain⟨M44,p44,_,F44⟩:=a44.mk X G;obtain⟨M45,p45,_,F45⟩:=a45.mk X G;have F46:=fun_mk (st:=u8) l46 k46 p46;have B46:=F46.binds (ps:=["_law_script"]) nofun;have M46:=aO X G a46
 have HCC:cd12=.ref cc:=by
  obtain⟨ai,oi,fdi,m1,m2,m3,m4⟩:=hlam;have e1:=m1.symm.trans (aO X G a12);cases e1;have e2:=m2.symm.trans (X _ _ l12);cases e2;cases m3;exact m4
 refine#[bn "law" "law" (yC u8) (z8 u8) (zg u8) .none kV46 dc46 pm46 an46 cd46 ct46,λs v=>.of_eq rfl,λbase _ _ HBT HCH=>?_];have TL:zdH K mg gg:=#[XIl,xi,aO X G g_NoLetters,t6,aO X G most];have TO:TOrd K mg gc gb gc:=#[#[lu,lv,lw,lx],#[iR,iS,iT,iU],#[lu,lv,lw,lx],aO X G g_Order,aO X G g_FromRight,ly,iX,ly];have TNt:TNT K mg gd:=#[XIt,aO X G g_NotTurned,nn];have FI:=fun_mk (st:=zW) lI kI pI;have BI:=FI.binds (ps:=["self","number"]) nofun;have TD:DNT l.prog w K mg base gd:=#[TNt,_,_,ini,fnI,vJ TNt FI,BI];have TS:zbI K mg ge:=#[#[lS,lT,lV,lX],aO X G g_System,no_System,nr_System];have TWi:zdz mg:=#[t8,aO X G win];have TNu:TNU K mg gn:=#[XIu,aO X G g_NoUse,ua];have FU:=fun_mk (st:=yq) lU kU pU;have BU:=FU.binds (ps:=["self","at"]) nofun;have TUd:DNU l.prog w K mg base gn:=#[TNu,_,_,iniU,fnU,jj TNu FU,BU];have TF:zap K mg gf:=#[XIf,vi,aO X G g_TooFar];have TMk:TMo mg:=#[#[tmu,aO X G mou],#[tms,aO X G mos],#[tmd,aO X G mod_],#[tmp,aO X G mop]];have TMcc:TMc mg:=#[#[tcu,aO X G mcu],#[tce,aO X G mce],#[tcd,aO X G mcd],#[tcp,aO X G mcp]];have D0:=dfm l.prog w base (Uv F0) M0 p0 (F0.binds nofun);have D1:=dfm l.prog w base (jX B TL F1 D0) M1 p1 (F1.binds nofun);have D2:=dfm l.prog w base (kC B F2) M2 p2 (F2.binds nofun);have D3:=dfm l.prog w base (zbB B TUd F3 D2) M3 p3 (F3.binds nofun);obtain⟨_,gZ⟩:=iD;have nI:=gZ.kp;have lF:=gZ.binds (ps:=["self","letters"]) nofun;have mI:DMk l.prog w K mg base CX0 3 gc ["self","letters"] (jJ K):=#[_,_,#[mn,iC,gX,mq],wY B gZ D1,lF];obtain⟨_,gG⟩:=ij;have iZ:=gG.kp;have la:=gG.binds (ps:=["self","word"]) nofun;have mz:DM l.prog w K mg base CX0 1 gc "weight" ["self","word"] jH:=#[_,_,#[ig,gE,iZ],wv B gG,la];obtain⟨_,iJ⟩:=iF;have mJ:=iJ.kp;have mK:=iJ.binds (ps:=["self","word"]) nofun;have mL:DM l.prog w K mg base CX0 1 gc "seen" ["self","word"] VT:=#[_,_,#[iE,iG,mJ],jB B iJ,mK];obtain⟨_,gP⟩:=gM;have mf:=gP.kp;have mh:=gP.binds (ps:=["self","word"]) nofun;have mi:DM l.prog w K mg base CX0 1 gb "seen" ["self","word"] ZM:=#[_,_,#[gL,gN,mf],vN B gP,mh];have TT:TWS l.prog w K mg base gc gb gc:=#[TO,mI,#[_,_,#[iV,fiR_init,gX,iW],wY B gZ D1,lF],mz,#[_,_,#[fiR_weight,gE,iZ],wv B gG,la],mL,mi];obtain⟨_,ia⟩:=iI;have lG:=ia.kp;have lH:=ia.binds (ps:=["self","word"]) nofun;have lJ:DM l.prog w K mg base CX0 2 gc "rank" ["self","word"] (u7 gc gb gc):=#[_,_,#[iH,gY,lG],vp B TT ia,lH];have DRk:DR l.prog w K mg base gc gb gc:=⟨λC h=>by rcases h with e | e | e; (rw[e];exact#[TO.cO,lJ]); (rw[e];exact#[TO.cR,#[_,_,#[fiR_rank,gY,lG],vp B TT ia,lH]]); (rw[e];exact#[TO.cO,lJ])⟩;obtain⟨_,gH⟩:=il;have lb:=gH.kp;have lc:=gH.binds (ps:=["self","one","other"]) nofun;have lg:DM l.prog w K mg base CX0 3 gc "before" ["self","one","other"] (WP gc gb gc):=#[_,_,#[ik,gF,lb],we B DRk gH,lc];have DBk:DB l.prog w K mg base gc gb gc:=⟨λC h=>by rcases h with e | e | e; (rw[e];exact#[TO.cO,lg]); (rw[e];exact#[TO.cR,#[_,_,#[fiR_before,gF,lb],we B DRk gH,lc]]); (rw[e];exact#[TO.cO,lg])⟩;have D4:=dfm l.prog w base (qm B F4) M4 p4 (F4.binds nofun);have D5:=dfm l.prog w base (jF B TWi F5 D4) M5 p5 (F5.binds nofun);have O6:=Kd (P:=l.prog) (w:=w) (base:=base) B TF TUd F6 D5 D3;have D6:Df l.prog w K mg base (CXx l.prog w) 4 "gone" ["rules","word","most"] [] (xV K gf):=#[_,_,O6,M6,p6,λs us hK hl=>by obtain⟨_,_,_,rfl⟩:=Yp (us:=us) (by simpa using hl);exact BindsTo.of_defaults rfl (hK _ _ me) rfl rfl rfl];have D6d:Df l.prog w K mg base (CXx l.prog w) 4 "gone" ["rules","word","most"] [.int 4000 iN] (xV K gf):=#[_,_,O6,M6,p6,λs us hK hl=>by obtain⟨_,_,rfl⟩:=vL (us:=us) (by simpa using hl);exact BindsTo.of_defaults rfl (hK _ _ me) rfl rfl rfl];have D7:=dfm l.prog w base (KT B F7) M7 p7 (F7.binds nofun);have D8:=dfm l.prog w base (US B F8) M8 p8 (F8.binds nofun);have D9:=dfm l.prog w base (ZA B F9 D8 D7) M9 p9 (F9.binds nofun);have D10:=dfm l.prog w base (ZD B F10) M10 p10 (F10.binds nofun);have D11:=dfm l.prog w base (XA B DBk F11 D7) M11 p11 (F11.binds nofun);have D12:=dfm l.prog w base (ZZ B DRk (aI X G nsorted) HCH HBT hgT F12 HCC D11) M12 p12 (F12.binds nofun);have D13:=dfm l.prog w base (uG B TMk F13 D10 D6 D6d D9 D7) M13 p13 (F13.binds nofun);have D14:=dfm l.prog w base (ui B TF TMk F14) M14 p14 (F14.binds nofun);have D15:=dfm l.prog w base (jM B F15 D13 D14 D11) M15 p15 (F15.binds nofun);have D16:=dfm l.prog w base (Xq B TF TMk F16 D12 D15 D10) M16 p16 (F16.binds nofun);have D17:=dfm l.prog w base (Kb B F17) M17 p17 (F17.binds nofun);have D18:=dfm l.prog w base (Uo B F18) M18 p18 (F18.binds nofun);have D19:=dfm l.prog w base (XJ B F19 D18) M19 p19 (F19.binds nofun);have D20:=dfm l.prog w base (zaa B F20) M20 p20 (F20.binds nofun);have D21:=dfm l.prog w base (U5 B #[ki,kb] F21) M21 p21 (F21.binds nofun);have D22:=dfm l.prog w base (Qs B #[kl,kt,kbb] F22 D21) M22 p22 (F22.binds nofun);have D23:=dfm l.prog w base (K7 B F23) M23 p23 (F23.binds nofun);have D24:=dfm l.prog w base (zbU B F24 D23) M24 p24 (F24.binds nofun);obtain⟨_,iw⟩:=ir;have nH:=iw.kp;have mE:=iw.binds (ps:=["self","order","rules"]) nofun;have mF:DMk l.prog w K mg base (CXx l.prog w) 5 ge ["self","order","rules"] (uo K gc gb gc gd ge):=#[_,_,#[lY,iq,iu,lZ],qF B TD TS DBk iw,mE];have MS:MkS l.prog w K mg base gc gb gc gd ge:=mF;have D25:=dfm l.prog w base (Qx B F25) M25 p25 (F25.binds nofun);have D26:=dfm l.prog w base (ZL B F26 D25) M26 p26 (F26.binds nofun);have D27:=dfm l.prog w base (Kq B F27 D3) M27 p27 (F27.binds nofun);have D28:=dfm l.prog w base (Xl B F28 D6 D6d) M28 p28 (F28.binds nofun);have D29:=dfm l.prog w base (VQ B F29 D27 D28) M29 p29 (F29.binds nofun);obtain⟨_,gz⟩:=gx;have lB:=gz.kp;have lC:=gz.binds (ps:=["self"]) nofun;have lD:DM l.prog w K mg base CX0 1 ge "rules_told" ["self"] (jl K ge):=#[_,_,#[gw,gy,lB],wF B TS gz,lC];have O30:=Uy (P:=l.prog) (w:=w) (base:=base) B TS F30 D26 D29 lD;have D30:Df l.prog w K mg base (CXx l.prog w) 7 "unmet" ["system","most"] [] (vt K ge gf):=#[_,_,O30,M30,p30,λs us hK hl=>by obtain⟨_,_,rfl⟩:=vL (us:=us) (by simpa using hl);exact BindsTo.of_defaults rfl (hK _ _ lA) rfl rfl rfl];have D30d:Df l.prog w K mg base (CXx l.prog w) 7 "unmet" ["system","most"] [.int 4000 ln] (vt K ge gf):=#[_,_,O30,M30,p30,λs us hK hl=>by obtain⟨_,rfl⟩:=kO (us:=us) (by simpa using hl);exact BindsTo.of_defaults rfl (hK _ _ lA) rfl rfl rfl];have D31:=dfm l.prog w base (kD B TS MS F31 D10) M31 p31 (F31.binds nofun);have D32:=dfm l.prog w base (ue B F32) M32 p32 (F32.binds nofun);have D33:=dfm l.prog w base (kB B (aI X G nany) TMcc F33) M33 p33 (F33.binds nofun);have D34:=dfm l.prog w base (vQ B TF ⟨sFF⟩ F34 D16 D33) M34 p34 (F34.binds nofun);have D35:=dfm l.prog w base (qy B TF ⟨sFF⟩ TMcc F35 D30 D30d D31) M35 p35 (F35.binds nofun);have D36:=dfm l.prog w base (Z2 B F36 D27 D9 D10) M36 p36 (F36.binds nofun);have D37:=dfm l.prog w base (kq B TMcc F37 D32 D34 D35 D36) M37 p37 (F37.binds nofun);have D38:=dfm l.prog w base (Xi B #[kl,kt,kbb] ⟨ks⟩ F38 D22) M38 p38 (F38.binds nofun);have D39:=dfm l.prog w base (KL B #[kt,kbb] F39 D38) M39 p39 (F39.binds nofun);have D40:=dfm l.prog w base (JP B ⟨(aI X G nmin)⟩ F40) M40 p40 (F40.binds nofun);have D41:=dfm l.prog w base (J5 B ⟨(aI X G nmin)⟩ F41 D40) M41 p41 (F41.binds nofun);have D42:=dfm l.prog w base (WJ B F42 D18) M42 p42 (F42.binds nofun);have D43:=dfm l.prog w base (Qd B F43) M43 p43 (F43.binds nofun);have D44:=dfm l.prog w base (U6 B F44 D17 D43 D18 D20) M44 p44 (F44.binds nofun);have D45:=dfm l.prog w base (Qm B (aI X G nsorted) F45) M45 p45 (F45.binds nofun);exact zbn B TT F46 D17 D19 D45 D42 D41 D37 D44 D39 D24
theorem walk{l:PySem.W.OpenLaw}{q:nZ}{loose:List og}{XP:(og->Option nX)->oo->Prop}{YP:oh->oo->Prop}{d:DefRec}{K:Params->nV}(hn:l.most=rJ 63)(hdf:d.params.defaults=[])
  (hY:∀(w:oh) (h:oo),YP w h->(K w.params).In h) (hj:((PyProof.Rows.recsOf q).find? λr=>r.name ==("in_order" : og)).isSome=rL) (hno:∀w:oh,Kk (K w.params)=rL)
  (F:∀(w:oh) (mg:og->Option nX) (fa:nW) (h:oo) (cc T:nW),(K w.params).In h->h.Ns nR mg->mg d.name=rJ (.ref fa)->(∃a o fd,mg "in_order" = rJ (.ref a)/\h.get? a=rJ o/\o.data=.func fd/\fd.code=.ref cc)->nR≠T ->
   ∃fd:oe,(∀(s:nY) (u:nX),pV s fd #[[u],[]] [("_law_script",u)])/\∀base:oo,(K w.params).In base->base.Ns nR mg->base.BuiltinsAt mg T->PySem.W.CodeHd base cc T->FnOk l.prog w (K w.params) mg base CX0 11 fa fd ["_law_script"] (Yk (K w.params) T)) :
  PySem.W.WalkO q loose XP YP l.row.toRowW d [] (λf vs=>fg f vs):=by
 obtain⟨din,hd⟩:=sk.mp hj;have hnm:din.name="in_order":=by simpa using dJ hd
 exact L3.walk_ofT (n:=63) (k:=11) (x:="_law_script") (CX:=λ_=>CX0) (din:=din) (sp:=λw T=>Yk (K w.params) T) hn ∅ hdf #[rfl,∅,∅] (ee hd) hY hno (λw mg fa h cc T a b c e g=>F w mg fa h cc T a b c (by rw[hnm]at e;exact e) g) (λ_ _ a ns T hl hB hT hS=>#[a,ns,rfl,hS,hB,hT,λ_=>rfl]) λ_ _ _ _ _ z=>z
end LL
namespace PySem.W.Fast
def tw12350342244148887202:=Nat
def tw342716946002953853:=Nat
def tw4477616486843196535:=Nat
def tw4285024699863864804:=Nat
def tw10191124679801879044:=Nat
def tw9474500078481240950:=Nat
def tw7038618543492953560:=Nat
def tw3677040164614696136:=Nat
def tw5543965414075034257:=Nat
def tw17648408938771947225:=Nat
def tw12545249813000537422:=Nat
def tw2856659658215932823:=Nat
def tw3425740152344285541:=Nat
def tw2709019620800593407:=Nat
def tw16461348915961519031:=Nat
def tw8974396161349454747:=Nat
def tw14292525809530521458:=Nat
def tw6934441402770398994:=Nat
def tw14312631750352137311:=Nat
def tw18201030804491497083:=Nat
def tw266136500167668145:=Nat
def tw18298896512689540384:=Nat
def tw11581375783703537666:=Nat
def tw4931005924432033478:=Nat
def tw6613189869254975508:=Nat
def tw2104333747870224904:=Nat
def tw7208817957883163057:=Nat
def tw16795835970560363069:=Nat
def tw15298724918146013941:=Nat
def tw9006878660435684538:=Nat
def tw6419407710889742877:=Nat
def tw12440353026773510253:=Nat
def tw3188369954450042309:=Nat
def tw18277887376974114619:=Nat
def tw7467002415826877559:=Nat
def tw18206432940838529739:=Nat
def tw9881997768095809242:=Nat
def tw15320025907001377360:=Nat
def tw13106537617288095828:=Nat
def tw17792196495199686056:=Nat
def tw15554759160065301895:=Nat
def tw3974936901277048231:=Nat
def tw2376606401886523778:=Nat
def tw17072734093033528119:=Nat
def tw6950035753409609927:=Nat
def tw16156342132758947598:=Nat
def tw8391017183643801427:=Nat
def tw5294702984572962762:=Nat
def tw13406285357167891280:=Nat
def tw8721593603495837314:=Nat
def tw15427574960648624328:=Nat
def tw838169237202257050:=Nat
def tw6627213470971819770:=Nat
def tw14877084958082234102:=Nat
def tw420522472632628710:=Nat
def tw9154294530286223635:=Nat
def tw12422882140189002785:=Nat
def tw6407007436036944721:=Nat
def tw11351474541909759140:=Nat
def tw3922626862740055243:=Nat
def tw727601141367031009:=Nat
def tw10906436047102538972:=Nat
def tw5018557570466581152:=Nat
def tw2037650945592251132:=Nat
def tw10029337927879655606:=Nat
def tw10796350712287267681:=Nat
def tw14425890184433429401:=Nat
def tw4326673832020278780:=Nat
def tw3523548342759293344:=Nat
def tw10638987846805935152:=Nat
def tw10620177181221647030:=Nat
def tw11713445731538224163:=Nat
def tw4178870314868859256:=Nat
def tw18273541280418165893:=Nat
def tw5135768969567718447:=Nat
def tw14355415396634539597:=Nat
def tw17173440463502309298:=Nat
def tw4934454943464410313:=Nat
def tw17120854330709271329:=Nat
def tw17341287336682605274:=Nat
def tw17791417013124152002:=Nat
def tw8408661441885122863:=Nat
def tw9684253052451226821:=Nat
def tw15928149855365871345:=Nat
def tw3844347620501463710:=Nat
def tw4001646044412668366:=Nat
def tw7681205566054577185:=Nat
def tw14540033544326623270:=Nat
def tw17219423567721707683:=Nat
def tw1357436205032673667:=Nat
def tw16706000829290417554:=Nat
def tw11527120192911369224:=Nat
def tw7916306979824160776:=Nat
def tw12715195968118802919:=Nat
def tw14972532530996707923:=Nat
def tw937007475891112975:=Nat
def tw16780989251150988187:=Nat
def tw14177958200761314321:=Nat
def tw17794919096807404515:=Nat
def tw46602143601597846:=Nat
def tw16774465873723867994:=Nat
def tw14408935092513780712:=Nat
def tw2535475217684321007:=Nat
def tw17823905764541318536:=Nat
def tw3047861066234272205:=Nat
def tw7586611773947299321:=Nat
def tw2172390761088475028:=Nat
def tw16086427869514052421:=Nat
def tw8280729138392389537:=Nat
def tw10878209883720465259:=Nat
def tw14343864883388656060:=Nat
def tw17013789566769803159:=Nat
def tw4038456383508851765:=Nat
def tw1420596682278157584:=Nat
def tw5328974666855876506:=Nat
def tw15391523776724778609:=Nat
def tw13923290253384039310:=Nat
def tw15218977984024303582:=Nat
def tw13912932465665149369:=Nat
def tw9568877786454021897:=Nat
def tw3690317748183208960:=Nat
def tw9330215936766548249:=Nat
def tw3436271417769761147:=Nat
def tw9491596646138165003:=Nat
def tw3117900682407020753:=Nat
def tw5459367668912084875:=Nat
def tw9684125799799806538:=Nat
def tw12038786634610492379:=Nat
def tw9552147395825525990:=Nat
def tw2041556910374213922:=Nat
def tw16914237574863203749:=Nat
def tw1796913288694833649:=Nat
def tw15572249051628551019:=Nat
def tw18284412306750788146:=Nat
def tw1966211122170985725:=Nat
def tw5580920575074133610:=Nat
def tw5801496066295065114:=Nat
def tw15227251478936965454:=Nat
def tw14401984659602891953:=Nat
def tw8582098392298206763:=Nat
def tw15883643986748464117:=Nat
def tw14214256414666490950:=Nat
def tw7935517926020338497:=Nat
def tw12721967441503796072:=Nat
def tw11312103781161630646:=Nat
def tw3961404386147915867:=Nat
def tw4454243136275826622:=Nat
def tw8704736816121640763:=Nat
def tw4980232058865033905:=Nat
def tw13183175565896291154:=Nat
def tw15286337219162539405:=Nat
def tw2831993013253807760:=Nat
def tw3462503039670946953:=Nat
def tw18087254589301864393:=Nat
def tw15608683550323377665:=Nat
def tw5375276959001379294:=Nat
def tw1877802701882902225:=Nat
def tw10150381202921337705:=Nat
def tw5159660132961155544:=Nat
def tw14091618028818652489:=Nat
def tw10630918587294749315:=Nat
def tw12661385940161927872:=Nat
def tw905405614427714108:=Nat
def tw6728250126433741661:=Nat
def tw8853236209658504760:=Nat
def tw9841191374950424102:=Nat
def tw16331707887508818383:=Nat
def tw863775773252534529:=Nat
def tw17737196894815849979:=Nat
def tw3256828641112758668:=Nat
def tw18393262122399352303:=Nat
def tw1225171398966673014:=Nat
def tw16982015905474973037:=Nat
def tw4162423626849940621:=Nat
def tw10645974096804106573:=Nat
def tw16748840075928497855:=Nat
def tw10017226575373466394:=Nat
def tw16387987892387613421:=Nat
def tw12765929112707492505:=Nat
def tw558688900186053297:=Nat
def tw16247104502279661856:=Nat
def tw8104196395628911347:=Nat
def tw15714215269026519593:=Nat
def tw14682071386248707339:=Nat
def tw4444247083037107810:=Nat
def tw6402332443696132614:=Nat
end PySem.W.Fast
open PySem PySem.W PyProof.Rows
set_option maxRecDepth 100000 in
set_option maxHeartbeats 0 in
theorem PySem.Challenge.cw_letterlaw_k59_thin_lists_completed_holds : PySem.Challenge.rw_letterlaw_k59_thin_lists_completed.Holds := by
 w_on;o_law;k_head; (case hw=>w_witness2)
 k_fill
 refine LL.walk (l:=PySem.Challenge.rw_letterlaw_k59_thin_lists_completed) rfl rfl (λw h Y=>PySem.W.km_in_of Y) ?hJJ ?hNN ?hFF
 case hJJ=>first | kernel_rfl | rfl | decide +kernel
 case hNN=>intro w;first | kernel_rfl | rfl
 case hFF =>
  intro w mg fa h cc T KX G hmg hlam hgT
  refine' LL.all_mk KX G hmg hlam hgT ?a0 ?a1 ?a2 ?a3 ?a4 ?a5 ?a6 ?l6 ?k6 ?p6 ?a7 ?a8 ?a9 ?a10 ?a11 ?a12 ?l12 ?k12 ?p12 ?a13 ?a14 ?a15 ?a16 ?a17 ?a18 ?a19 ?a20 ?a21 ?a22 ?a23 ?a24 ?a25 ?a26 ?a27 ?a28 ?a29 ?a30 ?l30 ?k30 ?p30 ?a31 ?a32 ?a33 ?a34 ?a35 ?a36 ?a37 ?a38 ?a39 ?a40 ?a41 ?a42 ?a43 ?a44 ?a45 ?a46 ?l46 ?k46 ?p46 ?g_LetterError ?g_NoLetters ?g_Order ?g_FromRight ?g_NotTurned ?g_System ?g_NoUse ?g_TooFar ?kbb ?kt ?ki ?kb ?kl ?XIl ?xi ?most ?lu ?lv ?lw ?lx ?mn ?mq ?ly ?mU ?mV ?mW ?iR ?iS ?iT ?iU ?iV ?iW ?iX ?lN ?lP ?lQ ?win ?XIt ?nn ?ini ?lI ?kI ?pI ?fnI ?lS ?lT ?lV ?lX ?lY ?lZ ?no_System ?nr_System ?XIu ?ua ?iniU ?lU ?kU ?pU ?fnU ?XIf ?vi ?sFF ?ks ?nmin ?nany ?nsorted ?mou ?mos ?mod_ ?mop ?mcu ?mce ?mcd ?mcp ?iC ?iD ?gX ?ig ?ij ?gE ?iE ?iF ?iG ?gL ?gM ?gN ?iH ?iI ?gY ?ik ?il ?gF ?iq ?ir ?iu ?gw ?gx ?gy ?me ?lA ?fiR_init ?fiR_weight ?fiR_rank ?fiR_before ?b0 ?b1 ?b2 ?b3 ?b4 ?b5 ?b6 ?b7 ?b8 ?b9 ?b10 ?b11 ?b12 ?b13 ?b14 ?b15
  (case a0|a1|a2|a3|a4|a5=>exact#[by k_is,_,L2.fun_mk (by k_is) (by k_is) (by k_is)])
  case a6|l6|k6|p6=>k_is
  (case a7|a8|a9|a10|a11=>exact#[by k_is,_,L2.fun_mk (by k_is) (by k_is) (by k_is)])
  case a12|l12|k12|p12=>k_is
  (case a13|a14|a15|a16|a17|a18|a19|a20|a21|a22|a23|a24|a25|a26|a27|a28|a29=>exact#[by k_is,_,L2.fun_mk (by k_is) (by k_is) (by k_is)])
  case a30|l30|k30|p30=>k_is
  (case a31|a32|a33|a34|a35|a36|a37|a38|a39|a40|a41|a42|a43|a44|a45=>exact#[by k_is,_,L2.fun_mk (by k_is) (by k_is) (by k_is)])
  case a46|l46|k46|p46|g_LetterError|g_NoLetters|g_Order|g_FromRight|g_NotTurned|g_System|g_NoUse|g_TooFar|xi|most|lx|mq|ly|mV|mW|iU|iW|iX|lP|lQ|win|nn|ini|lI|kI|pI|lX|lZ|no_System|nr_System|ua|iniU|lU|kU|pU|vi|sFF|nmin|nany|nsorted|mou|mos|mod_|mop|mcu|mce|mcd|mcp|iC|ig|iE|gL|iH|ik|iq|gw=>k_is
  (case XIl|XIt|XIu|XIf=>exact#[#[by first | kernel_rfl | rfl | k_is | decide +kernel,by k_is,by k_is,by k_is,by k_is],by k_is,by k_is,by k_is,by k_is])
  case me|lA|fiR_init|fiR_weight|fiR_rank|fiR_before|b0|b1|b2|b3|b4|b5|b6|b7|b8|b9|b10|b11|b12|b13|b14|b15=>k_is
  (case iD|ij|iF|gM|iI|il|ir|gx=>exact#[_,L2.fun_mk (by k_is) (by k_is) (by k_is)])
  (case kbb|kt|ki|kb|kl|mU|lN|ks=>first | kernel_rfl | rfl)
  (case lu|lw|mn|iR|iT|iV|lS|lV|lY=>first | kernel_rfl | rfl | k_is | decide +kernel)
  (case lv|iS|fnI|lT|fnU|gX|gE|iG|gN|gY|gF|iu|gy=>first | kernel_rfl | rfl | k_is)
#print axioms PySem.Challenge.cw_letterlaw_k59_thin_lists_completed_holds
