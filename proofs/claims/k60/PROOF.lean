import PyProof.Rows.All
import Wide.All
import OpenK.AllK
import Wide.FinOn
import PyProof.EqAt
import PyProof.EqKinds
import PyProof.NeKinds
import PyProof.TupleCall
import KE.KRevIter
import PyProof.ZipIter
import PyProof.Rows.SetFrom
import PyProof.StrWalks
import PyProof.DictStraight
import PyProof.StrLawsFrom
import PyProof.Rows.StrNews2
import KE.KMinBuiltin
import PyProof.Rows.CallKwBuiltin
import PyProof.Rows.SortShell
import KE.KSortTup
import KE.KBoundM
import KE.KLam
import KE.KDictLaws
import PyProof.DictWalks
import Lean
import PySem.Challenge.RW_letterlaw_k60_rounds_needed
set_option compiler.extract_closed false
local macro_rules | `(tactic| exists $t)=>`(tactic| refine $t (λvs H Q E h=>by repeat (first | (obtain⟨e,_⟩:=h;subst e;rfl) | obtain⟨_,h⟩:=h)) (λ$(Lean.mkIdent `cdv) $(Lean.mkIdent `A) $(Lean.mkIdent `outer) $(Lean.mkIdent `s) $(Lean.mkIdent `H) $(Lean.mkIdent `vs) $(Lean.mkIdent `Q) $(Lean.mkIdent `E) $(Lean.mkIdent `hr) $(Lean.mkIdent `h)=>?_))
local macro_rules | `(tactic| exists $t,0)=>`(tactic| refine $t (λvs H Q E h=>by repeat (first | (obtain⟨e,_⟩:=h;subst e;rfl) | obtain⟨_,h⟩:=h)) (λ$(Lean.mkIdent `cdv) $(Lean.mkIdent `A) $(Lean.mkIdent `outer) $(Lean.mkIdent `s) $(Lean.mkIdent `H) $(Lean.mkIdent `vs) $(Lean.mkIdent `Q) $(Lean.mkIdent `E) $(Lean.mkIdent `hr) $(Lean.mkIdent `hx) $(Lean.mkIdent `h)=>?_))
local macro_rules | `(tactic| rintro $p* : _)=>`(tactic| rintro $(Lean.mkIdent `Gz):ident $(Lean.mkIdent `hGz):ident $p*)
local macro_rules | `(tactic| right)=>`(tactic| subst $(Lean.mkIdent `hGz))
local macro_rules | `($s⁻¹)=>`(($s).heap.objs.size)
local macro_rules | `(⋯)=>`(by lia)
local macro_rules | `(∅)=>`(by decide)
local macro_rules | `(tactic| erw [$[$a:term],*] $[$l:location]?)=>`(tactic| simp only [$[$a:term],*] $[$l:location]?)
local macro_rules | `(())=>`(List Nat)
local macro_rules | `(#[$a,*])=>if a.getElems.size>1 then `(⟨$a,*⟩) else Lean.Macro.throwUnsupported
open List renaming mem_map→rF,getElem?_eq_some_iff→rG,mem_cons→rH,mem_append→rJ,mem_singleton→rK,all_eq_true→rL,mem_range→rM,mem_filter→rN,mem_reverse→rP,pairwise_map→rQ,nodup_cons→rR,length_pos_iff→rT,isPerm_iff→rV,pairwise_cons→rW,mem_iff_getElem?→rY,mem_filterMap→rZ,any_eq_true→sf,find?_eq_none→si,nodup_iff_count→sj,pairwise_append→sk,mem_flatMap→so
open Option renaming map_eq_some_iff→rO,isSome_iff_exists→rS,bind_eq_some_iff→rX
local macro_rules | `(tactic| symm)=>`(tactic| decide +kernel)
local macro_rules | `(tactic| nofun)=>`(tactic| exact⟨rfl,rfl,rfl,by decide +kernel,rfl,by decide +kernel,by decide +kernel⟩)
open List renaming getD_eq_getElem?_getD→aa,length_map→ac,getElem?_eq_getElem→ae,mem_of_getElem?→ag,size_toArray→ah,map_cons→aj,length_append→am,map_append→aq,mem_cons_of_mem→ar,map_nil→aw,getElem?_map→ay,mem_cons_self→az,mem_append_right→aD,length_cons→aE,length_take→aF,take_length→aH,replicate→aJ,toArray→aN,range→aQ,append_assoc→aR,drop_eq_getElem_cons→aT,map_congr_left→aU,map_map→aV,lookup_cons→aW,append_nil→aX,length_drop→aZ,drop_of_length_le→bc,set_cons_zero→be,set_cons_succ→bf,sum_cons→bh,take_append_of_le_length→bi,lookup→bj,take_zero→bn,length_nil→bo,cons_append→br,getElem?_reverse→bt,mem_append_left→bu,take_of_length_le→bv,length_reverse→bB,nil_append→bC,length_replicate→bE,mem_of_mem_take→bI,take_append_drop→bO,getElem?_eq_none→bP,drop_append_of_le_length→bV,replicate_succ→bW,idxOf_lt_length_of_mem→bZ,range_succ→cf,getElem?_append_right→ci,getElem?_cons_zero→cu,zip_cons_cons→cy,filter_append→cz,length_range→cD,length_filter_le→cE,mem_of_mem_drop→cH,not_mem_nil→cI,take_succ_cons→cM,flatMap_append→cN,of_mem_zip→cS,getElem?_append_left→cT,filter_nil→cY,getElem?_take_of_lt→db,contains_cons→dc,pairwise_singleton→df,getElem?_cons_succ→dg,reverse_cons→di,flatten_cons→dj,range_succ_eq_map→dk,map_take→dn,mem_cons→dq,map_drop→dv,map_snd_zip→dz,map_reverse→dA,find?_some→dI,eq_nil_of_length_eq_zero→dJ,filterMap_cons→dL,replicate_zero→dN,drop_zero→dU,getElem_idxOf→dW,flatMap_cons→d7,extract_eq_drop_take→d8,mem_of_find?_eq_some→d9,drop_length→ee,all_map→ef,any_map→em,map_fst_zip→eF,filter_cons→eI,getElem?_replicate→eJ,filter_cons_of_pos→eK,filter_cons_of_neg→eL,forIn_cons→eN,idxOf_cons→eO,getElem?_set_self→eP,length_singleton→eR,drop_drop→eU,mem_range→eV,take_take→eW,getElem?_set_ne→e8,replicate_succ'→fh,all_cons→fj,zip_nil_right→fA,getElem_range→fF,map_replicate→fG,length→fL
open PySem.Heap renaming get?_push_of_some→af,lt_size→au,get?_update_other→aG,get?_push_size→aI,get?_update_self→ce,size_update→cG,size_push→dP,get?_update_ne→ft
open PySem.W renaming findIn→ak,nsIn→aC,mg_none_of→aK,keepIn→aM,mg_of→aO,kitOne→aS,kia_one→bg,isFn→bp,fnOf→bq,emptyDict→bA,codeIn→bH,callWith_K→bN,kla_fn→bQ,instObj→bR,mroIn→bU,plainGet→bX,methodCall_KW→cb,hasDictIn→cj,looks_findIn→cp,plainOver→cA,subIn→cJ,makesIn→cQ,specialIn→dh,takesIn→dB,kat_nil→dF,kas_ask→dH,plainGet_of→dM,lookIn→dO,methodObj→dZ,kitx_list→d5,envX→eC,takerIn→eM,cellsFrom_some→eQ,callWith_K0→fq,kitx_tuple→fw,set_plain→fH,kitx_dict→fJ,handedIn→fM,kat_cons→fO,kat_kind→fP,kas_sort→fQ,kas_item→fR,kat_snds→fS,bind_fn→fV,findObj→fW,kat_yes→fX,kat_one→fY,kat_run→fZ
open Nat renaming le_refl→ao,lt_of_lt_of_le→av,ne_of_lt→ax,zero_le→aB,le_trans→aL,lt_of_le_of_lt→bY,le_succ→cq,ne_of_gt→cr,lt_irrefl→cw,lt_succ_of_lt→cC,le_of_not_lt→cF,min_eq_left→cU,not_lt_zero→cX,le_of_lt→da,min_eq_right→dw,succ_mul→dC,lt_trichotomy→d6,min_self→eg,lt_or_ge→eh,zero_add→fB
open Bool renaming false_ne_true→aA,false_eq_true→aY,and_eq_true→ba,eq_false_or_eq_true→bT,not_eq_true'→cB,eq_iff_iff→cP,or_true→dD,and_false→dQ,not_false→eS,and_true→fk,beq_comm→fm,not_true→fo
open Int renaming toNat_natCast→aP,eq_ofNat_of_zero_le→bw,emod_nonneg→cZ,emod_lt_of_pos→de
open PySem.F renaming plainAttrs_list→bx,plain_max_loop→bz,slot_list_append→bF,type_list_append→bG,plainAttrs_str→bL,entry_max_loop→dm,excBase_ValueError→dY,slot_str_find→eX,type_str_find→eY,slot_str_join→eZ,type_str_join→e7
open Decidable renaming byContradiction→bD
open PyProof.Rows renaming callWith_type1→bJ,boot_sorted→eG
open PySem renaming mem_of_lookup→bK,strKind→cK,frameOf→dX,call→e9,passOn→fz
open Option renaming bind_some→bM,join_some→eD,join_none→eE,getD_none→fN
open PySem.Str renaming ofString→bS,empty→fv
open Array renaming length_toList→cL,getD→fg,toList_append→fu
open PySem renaming wpAny_bind→nI,wpAny_pure→nJ,mainGlobals→nL,starEach→nM,sizeLine→nN
open PySem.W renaming Frag→nO
open PySem renaming Addr→nP,Value→nQ,Shared→nR,FuncData→nS,Program→nU,wpAny→nV,Str→nW,Around→nX,World→nY,Expr→nZ,Heap→oa,compareOp→og,sizeLine_eq→oh,Stmt→oj,keywordEach→ol,backTo→om,wpAny_truthy_bool→oo,wpAny_Call_Name_kw→oq,wpAny_holding→ot,Obj→ou,bootBuiltins→ow,backToKw→oy,wpAny_loadPart_at→oz,Scope→oB,wpAny_passesOwn→oE,wpAny_standAt→oF,wpAny_noRaise→oG,wpAny_mono→oH,Pos→oJ,wpAny_execs_nil→oK,wpAny_setField→oM,wpAny_field→oN,wpAny_call→oO,wpAny_execs_cons→oP,codeAny_mono→oQ,codeAny→oR,wpAny_isSubtype_exc→oS,codeAny_builtin→oV,Arguments→oW,wpAny_tryCatch→oX,wpAny_pyIter_list→oY,plainObj_wpAny_Assign_Attribute→oZ,CmpOp→pb,wpAny_newList→pc,codeAny_call_builtin→ph,NameKind→pi,wpAny_letGo→pj,wpAny_comprehension_free→pq,wpAny_getItem_str_slice→pw,wpAny_updateSeq→pA,Env→pB,wpAny_seqItems→pC,wpAny_pyIter_revIter→pD,wpAny_newFunctionEnv→pE,wpAny_loadPart→pF,recursionLimit→pG,excClassObj→pH,Result→pJ,BindsTo→pK,wpAny_attempt→pL,Model→pN,ExceptHandler→pO,wpAny_pyIter_enum→pP,wpAny_newObj_type→pQ,wpAny_assign_Name→pR,wpAny_Return_some→pS,wpAny_Assign_Name→pT,GenState→pW,Tok→pX,wpAny_lookBehind→pY,wpAny_Try_except→pZ,isCodeTable→ra,Sem→rb,Keyword→rd,wpAny_rule→re,wpAny_Name→rf,TriplesOk→rh,Paired→rj
open PyProof.Rows renaming seqObj→oe,envOfC→oU,AllBare→pf,subscriptTail_builtinR→pz,subscriptTail→pM,IntsAre→pV,Subscript_→rg
open PySem.W renaming OpenLaw→rm,KasT→rn
open Option renaming some→rp,none→rq
open Bool renaming true→rz,false→rA
open PySem PySem.Spec PyProof.Rows
set_option Elab.async false
set_option linter.all false
set_option maxRecDepth 100000
set_option maxHeartbeats 4000000
namespace L2
noncomputable abbrev Key:=Sum Int nW
noncomputable def zbj:Key->nQ->Bool
 | .inl k,v=>Value.isInt k v
 | .inr x,v=>Value.isStrOf x v
noncomputable def zdT(w:nY):Key->Int
 | .inl k=>hashInt k
 | .inr x=>hashStr w x
theorem zZ:∀{k:Key} {v:nQ},zbj k v=rz->(∃i t,k=Sum.inl i/\v=Value.int i t)\/(∃x t,k=Sum.inr x/\v=Value.str x t)
 | .inl i,v,h=>by
  obtain⟨t,e⟩:=Value.isInt_shape (k:=i) (v:=v) h;exact .inl #[i,t,rfl,e]
 | .inr x,v,h=>by
  obtain⟨t,e⟩:=Value.isStrOf_shape (x:=x) (v:=v) h;exact .inr #[x,t,rfl,e]
theorem zb4(a b:Int):decide ((Sum.inl a:Key)=Sum.inl b)=(a == b):=by
 by_cases e:a=b
 ·subst e;simp
 ·have h:¬ (Sum.inl a:Key)=Sum.inl b:=λq=>e (Sum.inl.inj q);rw[decide_eq_false h];exact (beq_eq_false_iff_ne.mpr e).symm
theorem zbT(a b:nW):decide ((Sum.inr a:Key)=Sum.inr b)=decide (a=b):=by
 by_cases e:a=b
 ·subst e;simp
 ·have h:¬ (Sum.inr a:Key)=Sum.inr b:=λq=>e (Sum.inr.inj q);rw[decide_eq_false h,decide_eq_false e]
theorem za5(a:Int)(b:nW):decide ((Sum.inl a:Key)=Sum.inr b)=rA:=decide_eq_false (λq=>nomatch q)
theorem zb6(a:nW)(b:Int):decide ((Sum.inr a:Key)=Sum.inl b)=rA:=decide_eq_false (λq=>nomatch q)
noncomputable def Z8(prog:nU)(w:nY):PySem.KeyKind prog w Key where
 is:=zbj
 hash:=zdT w
 inj:=λv a b ha hb=>by
  rcases zZ ha with ⟨i,t,rfl,rfl⟩ | ⟨x,t,rfl,rfl⟩
  ·rcases zZ hb with ⟨j,u,rfl,e⟩ | ⟨y,u,rfl,e⟩
   ·injection e with e1 _;rw[e1]
   ·exact nomatch e
  ·rcases zZ hb with ⟨j,u,rfl,e⟩ | ⟨y,u,rfl,e⟩
   ·exact nomatch e
   ·injection e with e1 _;rw[e1]
 byValue:=λk v h=>by
  rcases zZ h with ⟨i,t,rfl,rfl⟩ | ⟨x,t,rfl,rfl⟩ <;> rfl
 pyHash:=λhv h=>by
  rcases zZ hv with ⟨i,t,rfl,rfl⟩ | ⟨x,t,rfl,rfl⟩
  ·exact wpAny_pyHash_int h
  ·exact wpAny_pyHash_str h
 eqBool:=λhu hv h=>by
  rcases zZ hu with ⟨i,t,rfl,rfl⟩ | ⟨x,t,rfl,rfl⟩
  ·rcases zZ hv with ⟨j,u,rfl,rfl⟩ | ⟨y,u,rfl,rfl⟩
   ·rw[zb4]at h;exact wpAny_eqBool_int h
   ·rw[za5]at h;exact SeqAt.EqAt.int_str i t y u _ _ _ _ h
  ·rcases zZ hv with ⟨j,u,rfl,rfl⟩ | ⟨y,u,rfl,rfl⟩
   ·rw[zb6]at h;exact SeqAt.EqAt.str_int x t j u _ _ _ _ h
   ·rw[zbT]at h;exact wpAny_eqBool_str h
 «strs»:=λk x t v h=>by
  rcases zZ h with ⟨i,u,rfl,e⟩ | ⟨y,u,rfl,e⟩
  ·exact nomatch e
  ·injection e with e1 _;subst e1;cases v <;> rfl
inductive V where
 | non | bl (b:Bool) | int (i:Int) | str (x:nW) | byt (b:Array UInt8) | flt (b:UInt64) | ref (a:nP) | ty (n:String)
 deriving DecidableEq
def RelV:V->nQ->Prop
 | .non,u=>u=Value.none
 | .bl b,u=>u=Value.bool b
 | .int i,u=>∃t,u=Value.int i t
 | .str x,u=>∃t,u=Value.str x t
 | .byt b,u=>∃t,u=Value.bytes b t
 | .flt b,u=>∃t,u=Value.float b t
 | .ref a,u=>u=Value.ref a
 | .ty n,u=>u=Value.type n
abbrev Vals:List V->List nQ->Prop:=rj RelV
theorem Vals.length{xs:List V}{us:List nQ}(r:Vals xs us):xs.length=us.length:=Paired.length r
theorem Vals.get:∀{xs:List V} {us:List nQ} {i:Nat} {x:V},Vals xs us->xs[i]? = rp x->∃u,us[i]? = rp u/\RelV x u
 | _,_,_,_,.nil,e=>by simp at e
 | _,_,0,_,.cons r _,e=>by simp at e;subst e;exact#[_,rfl,r]
 | _,_,i+1,x,.cons _ t,e=>by
  obtain⟨u,h1,h2⟩:=Vals.get (i:=i) (x:=x) t (by simpa using e);exact#[u,by simpa using h1,h2]
theorem Vals.set{x:V}{u:nQ}(r:RelV x u):∀{xs:List V} {us:List nQ} (i:Nat),Vals xs us->Vals (xs.set i x) (us.set i u)
 | _,_,_,.nil=>.nil
 | _,_,0,.cons _ t=>.cons r t
 | _,_,i+1,.cons q t=>.cons q (Vals.set r i t)
theorem Vals.append:∀{xs ys:List V} {us ws:List nQ},Vals xs us->Vals ys ws->Vals (xs ++ ys) (us ++ ws)
 | _,_,_,_,.nil,s=>s
 | _,_,_,_,.cons r t,s=>.cons r (Vals.append t s)
theorem Vals.take:∀{xs:List V} {us:List nQ} (n:Nat),Vals xs us->Vals (xs.take n) (us.take n)
 | _,_,0,_=>.nil
 | _,_,_+1,.nil=>.nil
 | _,_,n+1,.cons r t=>.cons r (Vals.take n t)
theorem Vals.drop:∀{xs:List V} {us:List nQ} (n:Nat),Vals xs us->Vals (xs.drop n) (us.drop n)
 | _,_,0,r=>r
 | _,_,_+1,.nil=>.nil
 | _,_,n+1,.cons _ t=>Vals.drop n t
def RelO:Option V->Option nQ->Prop
 | some v,rp u=>RelV v u
 | none,rq=>True
 | _,_=>False
def KV{κ:Type}:List (κ × V)->List (κ × nQ)->Prop:=rj λ(p:κ × V) (q:κ × nQ)=>p.1=q.1/\RelV p.2 q.2
noncomputable def kV:Key->V
 | .inl i=>.int i
 | .inr x=>.str x
inductive HO where
  | lst (xs:List V)
  | tup (xs:List V)
  | dK (kvs:List (Key × V)) | dT (kvs:List (List Key × V))
  | set (S:Int->Bool) (n:Nat)
  | ins (C dx:nP) (fs:List (nW × V))
  | own (x:nP)
  | xd (fs:List (nW × V))
  | met (f x:nP)
  | rng (lo hi:Int)
  | frz (o:ou) (u:HO)
  | tbl (ps:Array nQ)
  | ext (φ:oa->Prop)
noncomputable abbrev Hp:=nP->Option HO
noncomputable def upd(H:Hp)(a:nP)(o:HO):Hp:=λb=>if b=a then rp o else H b
theorem zc{H:Hp}{a:nP}{o:HO}:upd H a o a=rp o:=by unfold upd;rw[if_pos rfl]
theorem zp{H:Hp}{a b:nP}{o:HO}(h:b≠a):upd H a o b=H b:=by unfold upd;rw[if_neg h]
theorem zG{H:Hp}{a b:nP}{o:HO}(h:H a=rp o)(h':H b=rq):a≠b:=by
 intro e;subst e;rw[h]at h';cases h'
section
variable(P:nU)(w:nY)
def ObjOk(H:Hp)(h:oa)(a:nP):HO->Prop
 | .lst xs=>xs.length<=nN/\∃(its:List nQ) (n:Nat),Vals xs its/\h.get? a=rp { cls:=.type "list",data:=.seq its.toArray n }
 | .tup xs=>xs.length<=nN/\∃its:List nQ,Vals xs its/\IsTup h a its.toArray
 | .dK kvs=>kvs.length<=nN/\(a == sysModules)=rA/\∃vs,KV kvs vs/\h.DictOf (Z8 P w) a vs
 | .dT kvs=>kvs.length<=nN/\(a == sysModules)=rA/\∃xs:List (List Key × nP × nQ),
   rj (λ(p:List Key × V) (q:List Key × nP × nQ)=>p.1=q.1/\H q.2.1=rp (.tup (p.1.map kV))/\RelV p.2 q.2.2) kvs xs /\
   ∃o es ep,h.get? a=rp o/\o.ExactDict/\o.data=.dict es ep/\es.toList=xs.map (entryOfKey (tupleKind (Z8 P w)))/\(xs.map (·.1)).Nodup
 | .set S n=>h.SetOf (intKind P w) a S n
 | .ins C dx fs=>H dx=rp (.own a)/\fs.length<=1000/\dx≠a/\h.get? a=rp (bR C dx) /\
   ∃mA,h.Ns1 dx mA/\(∀f,RelO (fs.lookup f) (mA f))/\PySem.Within mA (fs.map (·.1))
 | .own _=>∃o,h.get? a=rp o
 | .xd fs=>∃mA,h.Ns1 a mA/\∀f,RelO (fs.lookup f) (mA f)
 | .rng lo hi=>∃t u v,h.get? a=rp { cls:=.type "range",data:=.fields (List.toArray [.int lo t,.int hi u,.int 1 v]) }
 | .frz o u=>h.get? a=rp o/\ObjOk H h a u
 | .tbl ps=>h.get? a=rp { cls:=.none,data:=.fields ps }
 | .met f x=>h.get? a=rp (dZ (.ref f) (.ref x))
 | .ext φ=>φ h/\(∃o,h.get? a=rp o)/\∀h1 h2:oa,φ h1->(∀o,h1.get? a=rp o->h2.get? a=rp o)->φ h2
def HOk(H:Hp)(h:oa):Prop:=∀a o,H a=rp o->ObjOk P w H h a o
end
section
variable{P:nU}{w:nY}{H H':Hp}{h h':oa}{a:nP}{o:HO}
theorem ObjOk.lt(x:ObjOk P w H h a o):a<h.objs.size:=by
 cases o with
 | lst xs=>obtain⟨_,_,_,_,e⟩:=x;exact au e
 | tup xs=>obtain⟨_,_,_,p⟩:=x;exact p.lt
 | dK kvs=>obtain⟨_,_,_,_,o,_,_,e,_⟩:=x;exact au e
 | dT kvs=>obtain⟨_,_,_,_,o,_,_,e,_⟩:=x;exact au e
 | set S n=>obtain⟨o,_,_,_,e,_⟩:=x;exact au e
 | ins C dx fs=>obtain⟨_,_,_,e,_⟩:=x;exact au e
 | own y=>obtain⟨_,e⟩:=x;exact au e
 | xd fs=>obtain⟨_,⟨_,_,_,e,_⟩,_⟩:=x;exact au e
 | rng lo hi=>obtain⟨_,_,_,e⟩:=x;exact au e
 | frz ob u=>obtain⟨e,_⟩:=x;exact au e
 | tbl ps=>exact au (show h.get? a=rp _ from x)
 | met f y=>exact au (show h.get? a=rp _ from x)
 | ext φ=>obtain⟨_,⟨_,e⟩,_⟩:=x;exact au e
theorem Paired.mapP{α β:Type}{F G:α->β->Prop}:∀{l₁:List α} {l₂:List β},rj F l₁ l₂->(∀a b,F a b->G a b)->rj G l₁ l₂
 | _,_,.nil,_=>.nil
 | _,_,.cons r t,f=>.cons (f _ _ r) (Paired.mapP t f)
theorem ObjOk.stay(x:ObjOk P w H h a o)(k:∀b u,(b=a\/H b=rp (.own a))->h.get? b=rp u->h'.get? b=rp u)
  (ho:∀b,H b=rp (.own a)->H' b=rp (.own a)) (ht:∀b xs,H b=rp (.tup xs)->H' b=rp (.tup xs)):ObjOk P w H' h' a o:=by
 induction o with
 | lst xs=>obtain⟨z,its,n,r,e⟩:=x;exact#[z,its,n,r,k _ _ (.inl rfl) e]
 | tup xs=>obtain⟨z,its,r,ob,e,c⟩:=x;exact#[z,its,r,ob,k _ _ (.inl rfl) e,c]
 | dK kvs=>obtain⟨z,y,vs,r,ob,es,ep,e,c⟩:=x;exact#[z,y,vs,r,ob,es,ep,k _ _ (.inl rfl) e,c]
 | dT kvs =>
  obtain⟨z,y,xs,r,ob,es,ep,e,c⟩:=x;exact#[z,y,xs,Paired.mapP r λp q z=>#[z.1,ht _ _ z.2.1,z.2.2],ob,es,ep,k _ _ (.inl rfl) e,c]
 | set S n=>obtain⟨ob,es,ep,t,e,c⟩:=x;exact#[ob,es,ep,t,k _ _ (.inl rfl) e,c]
 | ins C dx fs =>
  obtain⟨d,z,ne,e,mA,⟨od,es,ep,e2,c⟩,r⟩:=x;exact#[ho _ d,z,ne,k _ _ (.inl rfl) e,mA,#[od,es,ep,k _ _ (.inr d) e2,c],r]
 | own y=>obtain⟨ob,e⟩:=x;exact#[ob,k _ _ (.inl rfl) e]
 | xd fs=>obtain⟨mA,⟨od,es,ep,e,c⟩,r⟩:=x;exact#[mA,#[od,es,ep,k _ _ (.inl rfl) e,c],r]
 | rng lo hi=>obtain⟨t,u,v,e⟩:=x;exact#[t,u,v,k _ _ (.inl rfl) e]
 | frz ob u ih=>obtain⟨e,q⟩:=x;exact#[k _ _ (.inl rfl) e,ih q]
 | tbl ps =>
  have e:h.get? a=rp { cls:=.none,data:=.fields ps }:=x;show h'.get? a=rp { cls:=.none,data:=.fields ps };exact k a _ (.inl rfl) e
 | met f y =>
  have e:h.get? a=rp (dZ (.ref f) (.ref y)):=x;show h'.get? a=rp (dZ (.ref f) (.ref y));exact k a _ (.inl rfl) e
 | ext φ=>obtain⟨p,⟨o,e⟩,st⟩:=x;exact#[st _ _ p λo q=>k _ _ (.inl rfl) q,#[o,k _ _ (.inl rfl) e],st]
theorem HOk.lt(x:HOk P w H h)(e:H a=rp o):a<h.objs.size:=(x a o e).lt
theorem HOk.fresh(x:HOk P w H h)(e:h.objs.size<=a):H a=rq:=by
 cases q:H a with
 | none=>rfl
 | some u=>exact absurd (av (x.lt q) e) (cw _)
theorem HOk.kept(x:HOk P w H h)(k:∀b u,h.get? b=rp u->h'.get? b=rp u):HOk P w H h':=λa o e =>
 (x a o e).stay (λb u _ q=>k b u q) (λ_ q=>q) λ_ _ q=>q
theorem HOk.laid(x:HOk P w H h)(k:∀b u,h.get? b=rp u->h'.get? b=rp u)(hp:h.objs.size<=a)(new:ObjOk P w (upd H a o) h' a o):HOk P w (upd H a o) h':=λb u e=>by
 have hn:=x.fresh hp;by_cases hb:b=a
 ·subst hb;rw[zc]at e;cases e;exact new
 ·rw[zp hb]at e;exact (x b u e).stay (λc v _ q=>k c v q) (λc q=>by rw[zp (zG q hn)];exact q) λc xs q=>by rw[zp (zG q hn)];exact q
end
def Rd(H:Hp)(a:nP)(u:HO):Prop:=H a=rp u\/∃o,H a=rp (.frz o u)
theorem Rd.ok{P:nU}{w:nY}{H:Hp}{h:oa}{a:nP}{u:HO}(r:Rd H a u)(x:HOk P w H h):ObjOk P w H h a u:=by
 rcases r with r | ⟨o,r⟩
 ·exact x a u r
 ·obtain⟨_,q⟩:=x a _ r;exact q
def Mut:Option HO->Prop
 | some (.lst _)=>True
 | some (.dK _)=>True
 | some (.dT _)=>True
 | some (.set _ _)=>True
 | some (.ins _ _ _)=>True
 | some (.ext _)=>True
 | _=>False
section
variable{P:nU}{w:nY}{H:Hp}{h h':oa}{x e:nP}{o':HO}
theorem HOk.write(ok:HOk P w H h)(mu:Mut (H x))(he:e=x\/H e=rp (.own x))(k:∀b u,b≠e->h.get? b=rp u->h'.get? b=rp u)(heo:∃u,h'.get? e=rp u)
  (new:ObjOk P w (upd H x o') h' x o'):HOk P w (upd H x o') h':=λb u q=>by
 have nown:∀c y,H c=rp (.own y)->c≠x:=λc y r z=>by subst z;rw[r]at mu;exact mu
 have ntup:∀c xs,H c=rp (.tup xs)->c≠x:=λc xs r z=>by subst z;rw[r]at mu;exact mu
 by_cases hb:b=x
 ·subst hb;rw[zc]at q;cases q;exact new
 ·rw[zp hb]at q;by_cases hbe:b=e
  ·have q':H b=rp (.own x):=by
    rcases he with z | z
    ·exact absurd (hbe.trans z) hb
    ·rw[hbe];exact z
   rw[q]at q';cases q';obtain⟨v,hv⟩:=heo;exact#[v,by rw[hbe];exact hv]
  ·refine (ok b u q).stay (λc v hc r=>k c v ?_ r) (λc r=>by rw[zp (nown c b r)];exact r) λc xs r=>by rw[zp (ntup c xs r)];exact r
   rcases hc with rfl | hc
   ·exact hbe
   ·rintro rfl;rcases he with z | z
    ·exact nown c b hc z
    ·rw[hc]at z;cases z;exact hb rfl
end
structure Un(fs ex:List nP)(H H':Hp)(h h':oa):Prop where
 keep:∀b o,h.get? b=rp o->H b=rq->b ∉ fs->b ∉ ex->h'.get? b=rp o
 slot:∀b o,h.get? b=rp o->H b=rq->b ∈ fs->b ∉ ex->∃sl,h'.get? b=rp { o with slots:=sl }
 free:∀b o,h.get? b=rp o->H b=rq->b ∉ ex->H' b=rq
 there:∀b o,h.get? b=rp o->b ∉ ex->∃o',h'.get? b=rp o'
 tups:∀b xs,H b=rp (.tup xs)->H' b=rp (.tup xs)
 frzs:∀b o u,H b=rp (.frz o u)->H' b=rp (.frz o u)
 tbls:∀b ps,H b=rp (.tbl ps)->∃more,H' b=rp (.tbl (ps ++ more))
section
variable{fs fs' ex ex':List nP}{H H1 H2:Hp}{h h1 h2 h':oa}{a x e:nP}{o:HO}
theorem Un.any(u:Un fs ex H H1 h h1){b:nP}{ob:ou}(q:h.get? b=rp ob)(n:H b=rq)(hx:b ∉ ex):∃sl,h1.get? b=rp { ob with slots:=sl }:=by
 by_cases hb:b ∈ fs
 ·exact u.slot b ob q n hb hx
 ·exact#[ob.slots,u.keep b ob q n hb hx]
theorem Un.kept(k:∀b u,h.get? b=rp u->h'.get? b=rp u):Un fs ex H H h h' :=
 #[λb ob q _ _ _=>k b ob q,λb ob q _ _ _=>#[ob.slots,k b ob q],λ_ _ _ n _=>n,λb ob q _=>#[ob,k b ob q],λ_ _ q=>q,λ_ _ _ q=>q,λ_ ps q=>#[#[],by rw[q];simp]]
theorem Un.refl:Un fs ex H H h h:=Un.kept λ_ _ q=>q
theorem Un.laid(k:∀b u,h.get? b=rp u->h'.get? b=rp u)(hp:h.objs.size<=a)(hn:H a=rq):Un fs ex H (upd H a o) h h' where
 keep:=λb u q _ _ _=>k b u q
 slot:=λb u q _ _ _=>#[u.slots,k b u q]
 free:=λb u q n _=>by rw[zp (ax (av (au q) hp))];exact n
 there:=λb u q _=>#[u,k b u q]
 tups:=λb xs q=>by rw[zp (zG q hn)];exact q
 frzs:=λb u xs q=>by rw[zp (zG q hn)];exact q
 tbls:=λb ps q=>#[#[],by rw[zp (zG q hn),q];simp]
theorem Un.write(mu:Mut (H x))(he:e=x\/H e=rp (.own x))(k:∀b u,b≠e->h.get? b=rp u->h'.get? b=rp u)(heo:∃u,h'.get? e=rp u):Un fs ex H (upd H x o) h h':=by
 have hx:∀b,H b=rq->b≠x:=λb n z=>by subst z;rw[n]at mu;exact mu
 have hb:∀b,H b=rq->b≠e:=λb n z=>by
  subst z;rcases he with r | r
  ·exact hx b n r
  ·rw[n]at r;cases r
 have hm:∀b u,H b=rp u->¬ Mut (rp u)->b≠x:=λb u q nm z=>by subst z;rw[q]at mu;exact nm mu
 refine#[λb u q n _ _=>k b u (hb b n) q,λb u q n _ _=>#[u.slots,k b u (hb b n) q],λb u q n _=>by rw[zp (hx b n)];exact n,λb u q _=>?_,
  λb xs q=>by rw[zp (hm b _ q λz=>z)];exact q,λb u xs q=>by rw[zp (hm b _ q λz=>z)];exact q,λb ps q=>#[#[],by rw[zp (hm b _ q λz=>z),q];simp]]
 by_cases hbe:b=e
 ·subst hbe;exact heo
 ·exact#[u,k b u hbe q]
end
noncomputable def trk(h:oa)(H:Hp):List nP:=(aQ h.objs.size).filter λa=>(H a).isSome
noncomputable def W4(h:oa)(H:Hp):oa:=PySem.W.hideAll h (trk h H)
theorem Wu(h:oa)(H:Hp):(W4 h H).objs.size=h.objs.size:=PySem.W.hideAll_size _ _
theorem Yo{h:oa}{H:Hp}{b:nP}{o:ou}(e:h.get? b=rp o)(n:H b=rq):(W4 h H).get? b=rp o :=
 PySem.W.hideAll_get _ e λhm=>by
  have q:(H b).isSome=rz:=(rN.mp hm).2;rw[n]at q;simp at q
theorem KS{h:oa}{H:Hp}{b:nP}{o:ou}(e:(W4 h H).get? b=rp o):h.get? b=rp o/\H b=rq:=by
 have e':h.get? b=rp o:=PySem.W.of_hideAll (trk h H) e;refine#[e',?_]
 cases q:H b with
 | none=>rfl
 | some x =>
  have hm:b ∈ trk h H:=rN.mpr #[rM.mpr (au e'),by simp [q]];have z:(W4 h H).get? b=rq:=PySem.W.hideAll_none (trk h H) hm;rw[z]at e;cases e
noncomputable def zaf(g h:oa)(L:nP):List (nP × ou):=(aQ h.objs.size).filterMap λa=>if a=L\/(g.get? a).isSome=rz then rq else (h.get? a).map λo=>(a,o)
noncomputable def rest(g h:oa)(L d:nP):List (nP × ou):=(zaf g h L).filter λp=>decide (p.1≠d)
structure Mod(K:nO)(mg:nW->Option nQ)(base:oa):Prop where
 kin:K.In base
 glob:base.Ns nL mg
 blt:∃mb,base.Ns builtinsNs mb/\∀x:nW,x≠"__name__"->mb x=ow x
 nolimit:base.NoLimit
structure Cx where
 prog:nU
 w:nY
 K:nO
 mg:nW->Option nQ
 base:oa
 A:nX
 N:List nW
 s₀:nR
 H₀:Hp
 env:pB
 outer:List pB
 stack:List pB
 ex:List nP
 fn:nW->Bool
 calm:Bool
 pn:List (nP × ou)
 xe:nQ->nR->Prop
noncomputable def frs(l:List pB):List nP:=l.filterMap (·.frame)
noncomputable abbrev Cx.fs(X:Cx):List nP:=frs X.outer
def Vis(sc:oB)(x:nW):Prop:=sc.names.lookup x=rp .local\/sc.names.lookup x=rp .cell\/sc.names.lookup x=rp .free
def Loc(sc:oB)(x:nW):Prop:=sc.names.lookup x=rp .local\/sc.names.lookup x=rp .cell
def zd4(env:pB)(h:oa)(m:nW->Option nQ)(x:nW)(u:nQ):Prop :=
 (env.kindOf x=rp .local/\m x=rp u)\/((env.kindOf x=rp .cell\/env.kindOf x=rp .free)/\∃c,env.cells.lookup x=rp c/\h.IsCell c (rp u))
structure Cx.Ok(X:Cx):Prop where
 mod:Mod X.K X.mg X.base
 kind:X.env.scope.kind=.function
 glob:X.env.globals=nL
 blt:X.env.builtins=builtinsNs
 above:X.s₀.heap.objs.size<=X.env.locals
 inj:∀x y c,X.env.cells.lookup x=rp c->X.env.cells.lookup y=rp c->x=y
 has:∀x,(X.env.kindOf x=rp .cell\/X.env.kindOf x=rp .free)->∃c,X.env.cells.lookup x=rp c
 cab:∀x c,X.fn x=rz->X.env.cells.lookup x=rp c->X.s₀.heap.objs.size<=c
 hd:X.calm=rz->X.A.handled=rq
 frames:X.A.frames=rp X.stack
 stk:X.stack=X.outer\/(X.stack=X.env::X.outer/\X.env.frame=rp X.env.locals)
 exf:∀b ∈ X.ex,b≠X.env.locals/\∀x c,X.env.cells.lookup x=rp c->c≠b
 bs:∀b o,X.base.get? b=rp o->X.s₀.heap.get? b=rp o/\X.H₀ b=rq
 bsz:X.base.objs.size<=X.s₀.heap.objs.size
 noex:∀b o,X.base.get? b=rp o->b ∉ X.ex
 exfs:∀b ∈ X.ex,b ∉ X.fs
 funs:X.s₀.heap.FunFrames X.base X.outer
 frf:∀b ∈ X.fs,X.H₀ b=rq
structure Inv(X:Cx)(rB:List (nP × ou))(σ:List (Option V))(H:Hp)(s:nR):Prop where
 ok:X.Ok
 os:s.os=X.s₀.os
 bare:pf s.gens
 base:Un X.fs X.ex X.H₀ H X.s₀.heap s.heap
 loc:∃m,s.heap.Ns X.env.locals m/\∀(i:Nat) (x:nW) (v:V),X.N[i]? = rp x->σ[i]? = rp (rp v)->Vis X.env.scope x->∃u,RelV v u/\zd4 X.env s.heap m x u
 cell:∀x c,X.env.cells.lookup x=rp c->∃v,s.heap.IsCell c v
 free:H X.env.locals=rq
 freeC:∀x c,X.env.cells.lookup x=rp c->H c=rq
 pin:∀p ∈ X.pn ++ rB,s.heap.get? p.1=rp p.2/\H p.1=rq/\p.1≠X.env.locals/\p.1 ∉ X.fs/\∀v,p.2.data≠.cell v
 hok:HOk X.prog X.w H s.heap
 len:σ.length=X.N.length
section
variable{X:Cx}{rB:List (nP × ou)}{σ:List (Option V)}{H H':Hp}{s:nR}{h':oa}
theorem Cx.Ok.nofr(ok:X.Ok){b:nP}{o:ou}(e:X.base.get? b=rp o):b ∉ X.fs:=λhb=>by
 have:=(ok.funs.mem hb).1;rw[e]at this;cases this
theorem Inv.bs(I:Inv X rB σ H s):∀b o,X.base.get? b=rp o->s.heap.get? b=rp o/\H b=rq:=λb o e =>
 #[I.base.keep b o (I.ok.bs b o e).1 (I.ok.bs b o e).2 (I.ok.nofr e) (I.ok.noex b o e),I.base.free b o (I.ok.bs b o e).1 (I.ok.bs b o e).2 (I.ok.noex b o e)]
theorem Inv.bk(I:Inv X rB σ H s):∀b o,X.base.get? b=rp o->s.heap.get? b=rp o:=λb o e=>(I.bs b o e).1
theorem Inv.mod(I:Inv X rB σ H s):Mod X.K X.mg X.base:=I.ok.mod
theorem Inv.kIn(I:Inv X rB σ H s):X.K.In s.heap:=I.ok.mod.kin.keeps I.bk
theorem Inv.nolimit(I:Inv X rB σ H s):s.heap.NoLimit:=I.ok.mod.nolimit.keeps I.bk
theorem Inv.fr(I:Inv X rB σ H s):∃m,Fr X.base X.env.locals s.heap m :=
 let #[m,hn,_]:=I.loc
 #[m,hn,I.bk,aL I.ok.bsz I.ok.above]
theorem Inv.lt(I:Inv X rB σ H s):X.env.locals<s⁻¹:=let #[_,hn,_]:=I.loc;hn.lt
theorem Inv.sz(I:Inv X rB σ H s):X.s₀.heap.objs.size<=s⁻¹:=aL I.ok.above (da I.lt)
theorem Inv.nofs(I:Inv X rB σ H s){a:nP}(h:s⁻¹<=a):a ∉ X.fs:=λhb=>by
 obtain⟨_,o,ho,_⟩:=I.ok.funs.mem hb;exact absurd (av (au ho) (aL I.sz h)) (cw _)
theorem Inv.cne(I:Inv X rB σ H s):∀x c,X.env.cells.lookup x=rp c->c≠X.env.locals:=λx c e z=>by
 obtain⟨v,o,ho,hd⟩:=I.cell x c e;obtain⟨m,⟨o',es,ep,ho',hd',_⟩,_⟩:=I.loc;rw[z,ho']at ho;cases ho;rw[hd']at hd;cases hd
theorem Inv.funs(I:Inv X rB σ H s):s.heap.FunFrames X.base X.outer:=by
 have all:∀(l:List pB),(∀b ∈ frs l,b ∈ X.fs)->X.s₀.heap.FunFrames X.base l->s.heap.FunFrames X.base l:=by
  intro l
  induction l with
  | nil=>intro _ _;trivial
  | cons env r ih =>
   intro hs hl;obtain⟨hk,⟨L,o,hf,hn,ho,hd⟩,hr⟩:=hl;have hL:L ∈ X.fs:=hs L (by unfold frs;rw[dL,hf];exact az);obtain⟨sl,e⟩:=I.base.slot L o ho (I.ok.frf L hL) hL λz=>I.ok.exfs L z hL;exact#[hk,#[L,_,hf,hn,e,hd],ih (λb hb=>hs b (by unfold frs;rw[dL,hf];exact ar _ hb)) hr]
 exact all X.outer (λ_ hb=>hb) I.ok.funs
theorem Inv.stack(I:Inv X rB σ H s):s.heap.FunFrames X.base X.stack:=by
 rcases I.ok.stk with e | ⟨e,hf⟩
 ·rw[e];exact I.funs
 ·rw[e];obtain⟨m,hn,_⟩:=I.loc;refine .cons (by rw[I.ok.kind];decide) hf hn ?_ I.funs;exact Heap.get?_none_of_le (aL I.ok.bsz I.ok.above)
theorem Inv.stkSub(I:Inv X rB σ H s):∀b ∈ frs X.stack,b ∈ X.env.locals::X.fs:=λb hb=>by
 rcases I.ok.stk with e | ⟨e,hf⟩
 ·rw[e]at hb;exact ar _ hb
 ·rw[e]at hb;unfold frs at hb;rw[dL,hf]at hb;exact hb
theorem Inv.stkFree(I:Inv X rB σ H s):∀b ∈ frs X.stack,H b=rq:=λb hb=>by
 rcases rH.mp (I.stkSub b hb)with e | hb
 ·rw[e];exact I.free
 ·obtain⟨_,o,ho,_⟩:=I.ok.funs.mem hb;exact I.base.free b o ho (I.ok.frf b hb) λz=>I.ok.exfs b z hb
theorem Inv.step{g':Array pW}{t':Nat}{d':Drawn}{ch:List nP}(I:Inv X rB σ H s)
  (hch:∀b ∈ ch,(b ∈ X.ex\/X.s₀.heap.objs.size<=b)/\b≠X.env.locals/\(∀x c,X.env.cells.lookup x=rp c->c≠b)/\∀p ∈ X.pn ++ rB,p.1≠b)
  (keep:∀b o,b≠X.env.locals->b ∉ X.fs->b ∉ ch->s.heap.get? b=rp o->H b=rq->h'.get? b=rp o)
  (slot:∀b o,b≠X.env.locals->b ∈ X.fs->b ∉ ch->s.heap.get? b=rp o->H b=rq->∃sl,h'.get? b=rp { o with slots:=sl }) (free:∀b o,b ∉ ch->s.heap.get? b=rp o->H b=rq->H' b=rq)
  (there:∀b o,b ∉ ch->s.heap.get? b=rp o->∃o',h'.get? b=rp o')
  (tups:∀b xs,H b=rp (.tup xs)->H' b=rp (.tup xs)) (frzs:∀b o u,H b=rp (.frz o u)->H' b=rp (.frz o u)) (tbls:∀b ps,H b=rp (.tbl ps)->∃more,H' b=rp (.tbl (ps ++ more)))
  (ns:∀m,s.heap.Ns X.env.locals m->h'.Ns X.env.locals m) (hok:HOk X.prog X.w H' h') (hg:pf g') :
  Inv X rB σ H' { s with heap:=h',gens:=g',drawn:=d',toks:=t' }:=by
 have neL:∀b o,X.s₀.heap.get? b=rp o->b≠X.env.locals:=λb o e=>ax (av (au e) I.ok.above)
 have neC:∀b o,X.s₀.heap.get? b=rp o->b ∉ X.ex->b ∉ ch:=λb o e hx hb=>by
  rcases (hch b hb).1 with z | z
  ·exact hx z
  ·exact absurd (av (au e) z) (cw _)
 have cellK:∀x c,X.env.cells.lookup x=rp c->∀v,s.heap.IsCell c v->h'.IsCell c v:=λx c e v ⟨o,ho,hd⟩=>by
  have nch:c ∉ ch:=λz=>(hch c z).2.2.1 x c e rfl;by_cases hc:c ∈ X.fs
  ·obtain⟨sl,q⟩:=slot c o (I.cne x c e) hc nch ho (I.freeC x c e);exact#[_,q,hd]
  ·exact#[o,keep c o (I.cne x c e) hc nch ho (I.freeC x c e),hd]
 refine#[I.ok,I.os,hg,#[λb o e n hb hx=>?_,λb o e n hb hx=>?_,λb o e n hx=>?_,λb o e hx=>?_,λb xs e=>tups b xs (I.base.tups b xs e),λb o xs e=>frzs b o xs (I.base.frzs b o xs e),λb ps e=>?_],?_,λx c e=>?_,?_,λx c e=>?_,λp hp=>?_,hok,I.len]
 ·exact keep b o (neL b o e) hb (neC b o e hx) (I.base.keep b o e n hb hx) (I.base.free b o e n hx)
 ·obtain⟨sl,e1⟩:=I.base.slot b o e n hb hx;obtain⟨sl',e2⟩:=slot b _ (neL b o e) hb (neC b o e hx) e1 (I.base.free b o e n hx);exact#[sl',e2]
 ·obtain⟨o',e1⟩:=I.base.there b o e hx;exact free b o' (neC b o e hx) e1 (I.base.free b o e n hx)
 ·obtain⟨o',e1⟩:=I.base.there b o e hx;exact there b o' (neC b o e hx) e1
 ·obtain⟨m1,e1⟩:=I.base.tbls b ps e;obtain⟨m2,e2⟩:=tbls b _ e1;exact#[m1 ++ m2,by rw[e2,Array.append_assoc]]
 ·obtain⟨m,hn,hl⟩:=I.loc;refine#[m,ns m hn,λi x v e1 e2 e3=>?_];obtain⟨u,r,l⟩:=hl i x v e1 e2 e3;refine#[u,r,?_];rcases l with l | ⟨k,c,e,z⟩
  ·exact .inl l
  ·exact .inr #[k,c,e,cellK x c e _ z]
 ·obtain⟨v,z⟩:=I.cell x c e;exact#[v,cellK x c e v z]
 ·obtain⟨m,⟨o,_,_,ho,_⟩,_⟩:=I.loc;exact free _ o (λz=>(hch _ z).2.1 rfl) ho I.free
 ·obtain⟨v,o,ho,hd⟩:=I.cell x c e;exact free c o (λz=>(hch c z).2.2.1 x c e rfl) ho (I.freeC x c e)
 ·obtain⟨e,n,ne,nf,d⟩:=I.pin p hp;have nch:p.1 ∉ ch:=λz=>(hch p.1 z).2.2.2 p hp rfl;exact#[keep p.1 p.2 ne nf nch e n,free p.1 p.2 nch e n,ne,nf,d]
theorem Inv.un{t':Nat}(I:Inv X rB σ H s)(u:Un X.fs [] H H' s.heap h')(hok:HOk X.prog X.w H' h'):Inv X rB σ H' { s with heap:=h',toks:=t' }:=by
 obtain⟨m,⟨o,es,ep,ho,r⟩,_⟩:=id I.loc;obtain⟨sl,hL⟩:=u.any ho I.free (by simp)
 exact I.step (g':=s.gens) (d':=s.drawn) (ch:=[]) (λ_ z=>nomatch z) (λb o _ hb _ e n=>u.keep b o e n hb (by simp)) (λb o _ hb _ e n=>u.slot b o e n hb (by simp)) (λb o _ e n=>u.free b o e n (by simp)) (λb o _ e=>u.there b o e (by simp)) u.tups u.frzs u.tbls (λm' hm=>by
  obtain⟨o',es',ep',ho',r'⟩:=hm;rw[ho]at ho';cases ho'
  exact#[_,es',ep',hL,r']) hok I.bare
theorem Inv.call{g':Array pW}{t':Nat}{d':Drawn}{ch:List nP}(I:Inv X rB σ H s)(u:Un (frs X.stack) ch H H' s.heap h')(hok:HOk X.prog X.w H' h')(hg:pf g')
  (hch:∀b ∈ ch,(b ∈ X.ex\/X.s₀.heap.objs.size<=b)/\b≠X.env.locals/\(∀x c,X.env.cells.lookup x=rp c->c≠b)/\∀p ∈ X.pn ++ rB,p.1≠b) :
  Inv X rB σ H' { s with heap:=h',gens:=g',drawn:=d',toks:=t' }:=by
 obtain⟨m,⟨o,es,ep,ho,r⟩,_⟩:=id I.loc;obtain⟨sl,hL⟩:=u.any ho I.free λz=>(hch _ z).2.1 rfl
 exact I.step (ch:=ch) hch (λb o hL hb hc e n=>u.keep b o e n (λz=>(rH.mp (I.stkSub b z)).elim hL hb) hc) (λb o _ _ hc e n=>u.any e n hc) (λb o hc e n=>u.free b o e n hc) (λb o hc e=>u.there b o e hc) u.tups u.frzs u.tbls (λm' hm=>by
  obtain⟨o',es',ep',ho',r'⟩:=hm;rw[ho]at ho';cases ho'
  exact#[_,es',ep',hL,r']) hok hg
theorem Inv.turned{t':Nat}{it:nP}(I:Inv X rB σ H s)(k:∀b o,b≠it->s.heap.get? b=rp o->h'.get? b=rp o)(hn:H it=rq)(hL:it≠X.env.locals)
  (h1:it ∈ X.ex\/X.s₀.heap.objs.size<=it) (h2:∀x c,X.env.cells.lookup x=rp c->c≠it) (h3:∀p ∈ X.pn ++ rB,p.1≠it):Inv X rB σ H { s with heap:=h',toks:=t' }:=by
 have nit:∀b u,H b=rp u->b≠it:=λb u e z=>by rw[z,hn]at e;cases e
 refine I.step (g':=s.gens) (d':=s.drawn) (ch:=[it]) (λb hb=>?_) (λb o _ _ hc e _=>k b o (λz=>hc (by simp [z])) e) (λb o _ _ hc e _=>#[o.slots,k b o (λz=>hc (by simp [z])) e]) (λ_ _ _ _ n=>n)
  (λb o hc e=>#[o,k b o (λz=>hc (by simp [z])) e]) (λ_ _ e=>e) (λ_ _ _ e=>e) (λb ps e=>#[#[],by rw[e];simp]) (λm hm=>?_) (λb u e=>?_) I.bare
 ·have e:b=it:=by simpa using hb
  subst e;exact#[h1,hL,h2,h3]
 ·obtain⟨o,es,ep,ho,r⟩:=hm;exact#[o,es,ep,k _ o (Ne.symm hL) ho,r]
 ·refine (I.hok b u e).stay (λc v hc q=>k c v ?_ q) (λ_ q=>q) λ_ _ q=>q;rcases hc with z | z
  ·rw[z];exact nit b u e
  ·exact nit c _ z
theorem Inv.tok(I:Inv X rB σ H s)(t:Nat):Inv X rB σ H { s with toks:=t }:=I.un (h':=s.heap) (t':=t) Un.refl I.hok
theorem Inv.kept{t':Nat}(I:Inv X rB σ H s)(k:∀b u,s.heap.get? b=rp u->h'.get? b=rp u):Inv X rB σ H { s with heap:=h',toks:=t' }:=I.un (Un.kept k) (I.hok.kept k)
theorem Inv.laid{a:nP}{o:HO}{t':Nat}(I:Inv X rB σ H s)(k:∀b u,s.heap.get? b=rp u->h'.get? b=rp u)(hp:s⁻¹<=a)(new:ObjOk X.prog X.w (upd H a o) h' a o) :
  Inv X rB σ (upd H a o) { s with heap:=h',toks:=t' }:=I.un (Un.laid k hp (I.hok.fresh hp)) (I.hok.laid k hp new)
theorem Inv.write{x e:nP}{o:HO}{t':Nat}(I:Inv X rB σ H s)(mu:Mut (H x))(he:e=x\/H e=rp (.own x))(k:∀b u,b≠e->s.heap.get? b=rp u->h'.get? b=rp u)(heo:∃u,h'.get? e=rp u)
  (new:ObjOk X.prog X.w (upd H x o) h' x o):Inv X rB σ (upd H x o) { s with heap:=h',toks:=t' }:=I.un (Un.write mu he k heo) (I.hok.write mu he k heo new)
theorem Inv.weak{σ':List (Option V)}(I:Inv X rB σ H s)(hl:σ'.length=σ.length)(w:∀(i:Nat) v,σ'[i]? = rp (rp v)->σ[i]? = rp (rp v)):Inv X rB σ' H s :=
 #[I.ok,I.os,I.bare,I.base,let #[m,hn,hl']:=I.loc; #[m,hn,λi x v e1 e2 e3=>hl' i x v e1 (w i v e2) e3],I.cell,I.free,I.freeC,I.pin,I.hok,hl.trans I.len]
theorem Inv.pins_of{pins':List (nP × ou)}(I:Inv X rB σ H s)(h:∀p ∈ pins',s.heap.get? p.1=rp p.2/\H p.1=rq/\p.1≠X.env.locals/\p.1 ∉ X.fs/\∀v,p.2.data≠.cell v):Inv X pins' σ H s :=
 #[I.ok,I.os,I.bare,I.base,I.loc,I.cell,I.free,I.freeC,λp hp=>(rJ.mp hp).elim (λz=>I.pin p (bu _ z)) (h p),I.hok,I.len]
theorem Y9{N:List nW}(hN:N.Nodup){i j:Nat}{x:nW}(a:N[i]? = rp x)(b:N[j]? = rp x):i=j:=by
 obtain⟨h1,e1⟩:=rG.mp a;obtain⟨h2,e2⟩:=rG.mp b;exact (List.getElem_inj hN).mp (e1.trans e2.symm)
theorem Zc{M:pN}{A:nX}{E:nQ->nR->Prop}{i:Nat}{x:nW}{v:V}{u:nQ}{Q:Unit->nR->Prop}(I:Inv X rB σ H s)(hN:X.N.Nodup)(hi:X.N[i]? = rp x)(hx:Loc X.env.scope x)(r:RelV v u)
  (h:∀s',Inv X rB (σ.set i (rp v)) H s'->(∃a,Heap.SameBut a s.heap s'.heap/\(a=X.env.locals\/X.env.cells.lookup x=rp a))->Q Unit.unit s') (hf:X.fn x=rz\/X.env.scope.names.lookup x=rp .local:=by first | exact .inl rfl | exact .inr rfl | assumption):nV M A (storeName X.env x u) Q E s:=by
 obtain⟨m,hn,hl⟩:=id I.loc;have hcls:(X.env.scope.kind == .class || (X.env.scope.kind == .module && X.env.locals != X.env.globals))=rA:=by rw[I.ok.kind];rfl
 have hiσ:i<σ.length:=by rw[I.len];exact (rG.mp hi).1
 have cne:=I.cne
 have tracked:∀{a:nP} {h':oa},(∃o,s.heap.get? a=rp o/\H a=rq)->Heap.SameBut a s.heap h'->HOk X.prog X.w H h':=λ{a h'} ha hs b ob e=>by
  obtain⟨_,_,hfree⟩:=ha;refine (I.hok b ob e).stay (λc w' hc q=>(hs.2 c ?_).trans q) (λ_ q=>q) λ_ _ q=>q;rintro rfl;rcases hc with rfl | hc
  ·rw[hfree]at e;cases e
  ·rw[hfree]at hc;cases hc
 rcases hx with hk | hk
 ·refine wpAny_storeName_local hk hn (λh' hn' hs=>?_) hcls;obtain⟨oL,_,_,hoL,_⟩:=id hn;refine h _ #[I.ok,I.os,I.bare,#[λb o e n hb hx=>?_,λb o e n hb hx=>?_,I.base.free,λb o e hx=>?_,I.base.tups,I.base.frzs,I.base.tbls],#[_,hn',λj y v' e1 e2 e3=>?_],λy c e=>?_,I.free,I.freeC,λp hp=>?_,tracked #[oL,hoL,I.free] hs,by simpa using I.len] #[_,hs,.inl rfl]
  ·exact (hs.2 b (ax (av (au e) I.ok.above))).trans (I.base.keep b o e n hb hx)
  ·obtain⟨sl,e1⟩:=I.base.slot b o e n hb hx;exact#[sl,(hs.2 b (ax (av (au e) I.ok.above))).trans e1]
  ·obtain⟨o',e1⟩:=I.base.there b o e hx;exact#[o',(hs.2 b (ax (av (au e) I.ok.above))).trans e1]
  ·by_cases hj:j=i
   ·subst hj;rw[hi]at e1;cases e1;rw[eP hiσ]at e2;cases e2;exact#[u,r,.inl #[hk,by simp]]
   ·rw[e8 (Ne.symm hj)]at e2;obtain⟨u',r',q⟩:=hl j y v' e1 e2 e3;refine#[u',r',?_];rcases q with ⟨k,e⟩ | ⟨k,c,e,z⟩
    ·refine .inl #[k,?_];have:y≠x:=λe=>hj (Y9 hN e1 (e ▸ hi));simp [this,e]
    ·exact .inr #[k,c,e,z.sameBut hs (cne y c e)]
  ·obtain⟨w',z⟩:=I.cell y c e;exact#[w',z.sameBut hs (cne y c e)]
  ·obtain⟨e,n,ne,nf,d⟩:=I.pin p hp;exact#[(hs.2 p.1 ne).trans e,n,ne,nf,d]
 ·have hfn:X.fn x=rz:=by
   rcases hf with z | z
   ·exact z
   ·rw[z]at hk;cases hk
  obtain⟨c,hc⟩:=I.ok.has x (.inl hk);obtain⟨w',z⟩:=I.cell x c hc;refine wpAny_storeName_cell I.ok.kind hk hc z (λh' hc' hs=>?_);obtain⟨oc,hoc,hocd⟩:=id z;refine h { s with heap:=h' } #[I.ok,I.os,I.bare,#[λb o e n hb hx=>?_,λb o e n hb hx=>?_,I.base.free,λb o e hx=>?_,I.base.tups,I.base.frzs,I.base.tbls],#[m,hn.sameBut hs (Ne.symm (cne x c hc)),λj y v' e1 e2 e3=>?_],λy c' e=>?_,I.free,I.freeC,λp hp=>?_,tracked #[oc,hoc,I.freeC x c hc] hs,by simpa using I.len] #[c,hs,.inr hc]
  ·exact (hs.2 b (ax (av (au e) (I.ok.cab x c hfn hc)))).trans (I.base.keep b o e n hb hx)
  ·obtain⟨sl,e1⟩:=I.base.slot b o e n hb hx;exact#[sl,(hs.2 b (ax (av (au e) (I.ok.cab x c hfn hc)))).trans e1]
  ·obtain⟨o',e1⟩:=I.base.there b o e hx;exact#[o',(hs.2 b (ax (av (au e) (I.ok.cab x c hfn hc)))).trans e1]
  ·by_cases hj:j=i
   ·subst hj;rw[hi]at e1;cases e1;rw[eP hiσ]at e2;cases e2;exact#[u,r,.inr #[.inl hk,c,hc,hc']]
   ·rw[e8 (Ne.symm hj)]at e2;obtain⟨u',r',q⟩:=hl j y v' e1 e2 e3;refine#[u',r',?_];rcases q with q | ⟨k,c',e,z'⟩
    ·exact .inl q
    ·refine .inr #[k,c',e,z'.sameBut hs ?_];rintro rfl;exact hj (Y9 hN e1 (I.ok.inj _ _ _ e hc ▸ hi))
  ·by_cases hcc:c'=c
   ·subst hcc;exact#[_,hc']
   ·obtain⟨w2,z2⟩:=I.cell y c' e;exact#[w2,z2.sameBut hs hcc]
  ·obtain⟨e,n,ne,nf,d⟩:=I.pin p hp;refine#[(hs.2 p.1 ?_).trans e,n,ne,nf,d];intro q;rw[q,hoc]at e;have q':oc=p.2:=Option.some.inj e;exact d w' (by rw[<- q'];exact hocd)
theorem jj{M:pN}{A:nX}{E:nQ->nR->Prop}{i:Nat}{x:nW}{v:V}{u:nQ}{Q:Unit->nR->Prop}(I:Inv X rB σ H s)(hN:X.N.Nodup)(hi:X.N[i]? = rp x)(hx:Loc X.env.scope x)(r:RelV v u)
  (h:∀s',Inv X rB (σ.set i (rp v)) H s'->Q Unit.unit s') (hf:X.fn x=rz\/X.env.scope.names.lookup x=rp .local:=by first | exact .inl rfl | exact .inr rfl | assumption):nV M A (storeName X.env x u) Q E s :=
 Zc I hN hi hx r (λs' I' _=>h s' I') hf
theorem Inv.call'{s':nR}{ch:List nP}(I:Inv X rB σ H s)(ho:s'.os=s.os)(u:Un (frs X.stack) ch H H' s.heap s'.heap)(hok:HOk X.prog X.w H' s'.heap)(hg:pf s'.gens)
  (hch:∀b ∈ ch,(b ∈ X.ex\/X.s₀.heap.objs.size<=b)/\b≠X.env.locals/\(∀x c,X.env.cells.lookup x=rp c->c≠b)/\∀p ∈ X.pn ++ rB,p.1≠b):Inv X rB σ H' s':=by
 obtain⟨h',g',d',t',o'⟩:=s';have e:o'=s.os:=ho;subst e;exact I.call (g':=g') (t':=t') (d':=d') u hok hg hch
end
noncomputable abbrev XK:=nQ->Option nP->Hp->Prop
noncomputable abbrev St:=List (Option V)
noncomputable abbrev VK:=V->Hp->Prop
noncomputable abbrev TE:=St->Hp->VK->Prop
noncomputable abbrev TT:=St->Hp->(Bool->Hp->Prop)->Prop
noncomputable abbrev TA:=St->Hp->(List V->Hp->Prop)->Prop
structure va where
 nx:St->Hp->Prop
 rt:VK
 bk:St->Hp->Prop:=λ_ _=>False
 ct:St->Hp->Prop:=λ_ _=>False
noncomputable abbrev TS:=va->St->Hp->Prop
def EP(X:Cx)(rB:List (nP × ou))(σ:St)(Q:VK)(u:nQ)(s':nR):Prop:=∃v H',Inv X rB σ H' s'/\RelV v u/\Q v H'
def TP(X:Cx)(rB:List (nP × ou))(σ:St)(Q:Bool->Hp->Prop)(b:Bool)(s':nR):Prop:=∃H',Inv X rB σ H' s'/\Q b H'
def AP(X:Cx)(rB:List (nP × ou))(σ:St)(Q:List V->Hp->Prop)(us:List nQ)(s':nR):Prop:=∃vs H',Inv X rB σ H' s'/\Vals vs us/\Q vs H'
def SP(X:Cx)(rB:List (nP × ou))(D:va)(f:Flow)(s':nR):Prop :=
 match f with
 | .next=>∃σ' H',Inv X rB σ' H' s'/\D.nx σ' H'
 | .brk=>∃σ' H',Inv X rB σ' H' s'/\D.bk σ' H'
 | .cont=>∃σ' H',Inv X rB σ' H' s'/\D.ct σ' H'
 | .ret u=>∃v σ' H',Inv X rB σ' H' s'/\RelV v u/\D.rt v H'
def PE(X:Cx)(e:nZ)(t:TE):Prop :=
 ∀(rB:List (nP × ou)) (s:nR) (σ:St) (H:Hp) (Q:VK),Inv X rB σ H s->t σ H Q->nV (model X.prog X.w) X.A (eval e X.env) (EP X rB σ Q) X.xe s
def PT(X:Cx)(e:nZ)(t:TT):Prop :=
 ∀(rB:List (nP × ou)) (s:nR) (σ:St) (H:Hp) (Q:Bool->Hp->Prop),Inv X rB σ H s->t σ H Q->nV (model X.prog X.w) X.A (isTrue e X.env (eval e X.env)) (TP X rB σ Q) X.xe s
def PW(X:Cx)(e:nZ)(t:TT):Prop :=
 ∀(whole:rb nQ) (rB:List (nP × ou)) (s:nR) (σ:St) (H:Hp) (Q:Bool->Hp->Prop),Inv X rB σ H s->t σ H Q->nV (model X.prog X.w) X.A (isTrue e X.env whole) (TP X rB σ Q) X.xe s
theorem PW.pt{X:Cx}{e:nZ}{t:TT}(h:PW X e t):PT X e t:=h _
def PA(X:Cx)(es:List nZ)(t:TA):Prop :=
 ∀(pos:oJ) (rB:List (nP × ou)) (s:nR) (σ:St) (H:Hp) (Q:List V->Hp->Prop),Inv X rB σ H s->t σ H Q->nV (model X.prog X.w) X.A (spliced (om pos (nM es X.env))) (AP X rB σ Q) X.xe s
def PS(X:Cx)(st:oj)(t:TS):Prop :=
 ∀(rB:List (nP × ou)) (s:nR) (σ:St) (H:Hp) (D:va),Inv X rB σ H s->t D σ H->nV (model X.prog X.w) X.A (exec st X.env) (SP X rB D) X.xe s
def PSs(X:Cx)(st:List oj)(t:TS):Prop :=
 ∀(rB:List (nP × ou)) (s:nR) (σ:St) (H:Hp) (D:va),Inv X rB σ H s->t D σ H->nV (model X.prog X.w) X.A (execs st X.env) (SP X rB D) X.xe s
theorem thn{α:Type}{t:rb α}{Q Q':α->nR->Prop}{M:pN}{A:nX}{E:nQ->nR->Prop}{s:nR}(h:nV M A t Q E s)(hQ:∀a s,Q a s->Q' a s):nV M A t Q' E s:=oH h hQ λ_ _ x=>x
section
variable{X:Cx}
theorem bin{a b:nZ}{ta tb:TE}(ha:PE X a ta)(hb:PE X b tb){rB:List (nP × ou)}{s:nR}{σ:St}{H:Hp}{R:V->V->Hp->Prop}(I:Inv X rB σ H s)(h:ta σ H λx H1=>tb σ H1 λy H2=>R x y H2)
  {α:Type} {Q:α->nR->Prop} {f:nQ->nQ->rb α}
  (hf:∀v u s2 x y H2,Inv X rB σ H2 s2->RelV x v->RelV y u->R x y H2->nV (model X.prog X.w) X.A (f v u) Q X.xe s2) :
  nV (model X.prog X.w) X.A (eval a X.env) (λv s₁=>nV (model X.prog X.w) X.A (eval b X.env) (λu s₂=>nV (model X.prog X.w) X.A (f v u) Q X.xe s₂) X.xe s₁) X.xe s:=by
 refine thn (ha rB s σ H _ I h) λv s1 ⟨x,H1,I1,r1,q1⟩=>?_;refine thn (hb rB s1 σ H1 _ I1 q1) λu s2 ⟨y,H2,I2,r2,q2⟩=>?_;exact hf v u s2 x y H2 I2 r1 r2 q2
def onSl(σ:St)(i:Nat)(p:V->Prop):Prop:=match σ[i]? with | some (rp v)=>p v | _=>False
theorem onSl.of{σ:St}{i:Nat}{p:V->Prop}(h:onSl σ i p):∃v,σ[i]? = rp (rp v)/\p v:=by
 unfold onSl at h;split at h
 ·exact#[_,by assumption,h]
 ·exact h.elim
def onInt(x:V)(p:Int->Prop):Prop:=match x with | .int k=>p k | _=>False
theorem onInt.of{x:V}{p:Int->Prop}(h:onInt x p):∃k,x=.int k/\p k:=by
 cases x <;> first | exact#[_,rfl,h] | exact h.elim
theorem onInt.to{x:V}{p:Int->Prop}(h:∃k,x=.int k/\p k):onInt x p:=by
 obtain⟨k,rfl,h⟩:=h;exact h
def onStr(x:V)(p:nW->Prop):Prop:=match x with | .str k=>p k | _=>False
theorem onStr.of{x:V}{p:nW->Prop}(h:onStr x p):∃k,x=.str k/\p k:=by
 cases x <;> first | exact#[_,rfl,h] | exact h.elim
theorem onStr.to{x:V}{p:nW->Prop}(h:∃k,x=.str k/\p k):onStr x p:=by
 obtain⟨k,rfl,h⟩:=h;exact h
def onBl(x:V)(p:Bool->Prop):Prop:=match x with | .bl k=>p k | _=>False
theorem onBl.of{x:V}{p:Bool->Prop}(h:onBl x p):∃k,x=.bl k/\p k:=by
 cases x <;> first | exact#[_,rfl,h] | exact h.elim
theorem onBl.to{x:V}{p:Bool->Prop}(h:∃k,x=.bl k/\p k):onBl x p:=by
 obtain⟨k,rfl,h⟩:=h;exact h
def onRef(x:V)(p:nP->Prop):Prop:=match x with | .ref k=>p k | _=>False
theorem onRef.of{x:V}{p:nP->Prop}(h:onRef x p):∃k,x=.ref k/\p k:=by
 cases x <;> first | exact#[_,rfl,h] | exact h.elim
theorem onRef.to{x:V}{p:nP->Prop}(h:∃k,x=.ref k/\p k):onRef x p:=by
 obtain⟨k,rfl,h⟩:=h;exact h
def z5(i:Nat):TE:=λσ H Q=>onSl σ i λv=>Q v H
def tC(v:V):TE:=λ_ H Q=>Q v H
theorem zbx{i:Nat}{x:nW}{pos:oJ}(hN:X.N[i]? = rp x)(hv:Vis X.env.scope x)(hd:(x ==("__debug__" : nW))=rA:=by decide)(hcd:(x ==("__classdict__" : nW))=rA:=by decide):PE X (.Name x pos) (z5 i):=by
 intro rB s σ H Q I h;obtain⟨v,e,h⟩:=onSl.of h;obtain⟨m,hn,hl⟩:=I.loc;obtain⟨u,r,l⟩:=hl i x v hN e hv;have fin:EP X rB σ Q u s:=#[v,H,I,r,h];rcases l with ⟨hk,hm⟩ | ⟨hk,c,hc,hcell⟩
 ·exact rf (wpAny_loadName_local I.ok.kind hk hn hm fin) hd
 ·rcases hk with hk | hk
  ·exact rf (wpAny_loadName_cell I.ok.kind hk hc hcell fin) hd
  ·exact rf (wpAny_loadName_free I.ok.kind hk hc hcell fin hcd) hd
theorem zf{i j pos}:PE X (.Constant (.int i) j pos) (tC (.int i)):=λ_ _ _ H _ I h=>wpAny_Constant_int #[.int i,H,I.tok _,#[_,rfl],h]
theorem xn{b j pos}:PE X (.Constant (.bool b) j pos) (tC (.bl b)):=λ_ _ _ H _ I h=>Constant_bool #[.bl b,H,I,rfl,h]
theorem xC{j pos}:PE X (.Constant .none j pos) (tC .non):=λ_ _ _ H _ I h=>Constant_none #[.non,H,I,rfl,h]
theorem yf{x j pos}:PE X (.Constant (.str x) j pos) (tC (.str x)):=λ_ _ _ H _ I h=>Calls.Constant_str #[.str x,H,I.tok _,#[_,rfl],h]
def Gl(X:Cx)(x:nW):Prop:=X.env.kindOf x=rp .globalImplicit
theorem wQ{E:nQ->nR->Prop}{rB:List (nP × ou)}{s:nR}{σ:St}{H:Hp}{x:nW}{u:nQ}{pos:oJ}{Q:nQ->nR->Prop}(I:Inv X rB σ H s)(hg:Gl X x)(hm:X.mg x=rp u)(h:Q u s)
  (hd:(x ==("__debug__" : nW))=rA:=by decide):nV (model X.prog X.w) X.A (eval (.Name x pos) X.env) Q E s :=
 Calls.Name_function_global I.ok.kind hg (Calls.loadGlobal_global (by rw[I.ok.glob];exact I.mod.glob.keeps I.bk) hm h) hd
theorem vx{E:nQ->nR->Prop}{rB:List (nP × ou)}{s:nR}{σ:St}{H:Hp}{x:nW}{u:nQ}{pos:oJ}{Q:nQ->nR->Prop}(I:Inv X rB σ H s)(hg:Gl X x)(hm:X.mg x=rq)(hv:ow x=rp u)(h:Q u s)
  (hn:x≠"__name__":=by decide) (hd:(x ==("__debug__" : nW))=rA:=by decide):nV (model X.prog X.w) X.A (eval (.Name x pos) X.env) Q E s:=by
 obtain⟨mb,h1,h2⟩:=I.mod.blt;exact Calls.Name_function_global I.ok.kind hg (Calls.loadGlobal_builtin (by rw[I.ok.glob];exact I.mod.glob.keeps I.bk) hm (by rw[I.ok.blt];exact h1.keeps I.bk) ((h2 x hn).trans hv) h) hd
theorem yU{x:nW}{v:V}{u:nQ}{pos:oJ}(hg:Gl X x)(hm:X.mg x=rp u)(r:RelV v u)(hd:(x ==("__debug__" : nW))=rA:=by decide):PE X (.Name x pos) (tC v) :=
 λ_ _ _ H _ I h=>wQ I hg hm #[v,H,I,r,h] hd
theorem Kc{x:nW}{v:V}{u:nQ}{pos:oJ}(hg:Gl X x)(hm:X.mg x=rq)(hv:ow x=rp u)(r:RelV v u)(hn:x≠"__name__":=by decide)(hd:(x ==("__debug__" : nW))=rA:=by decide):PE X (.Name x pos) (tC v) :=
 λ_ _ _ H _ I h=>vx I hg hm hv #[v,H,I,r,h] hn hd
variable{a b:nZ}{ta tb:TE}{pos:oJ}
def PC(X:Cx)(op:pb)(a b:nZ)(t:TE):Prop :=
 ∀(rB:List (nP × ou)) (s:nR) (σ:St) (H:Hp) (Q:VK),Inv X rB σ H s->t σ H Q ->
  nV (model X.prog X.w) X.A (eval a X.env) (λv s₁=>nV (model X.prog X.w) X.A (eval b X.env) (λu s₂=>nV (model X.prog X.w) X.A (og op v u) (EP X rB σ Q) X.xe s₂) X.xe s₁) X.xe s
theorem UW(b:nZ){op:pb}(h:op≠.In)(h2:op≠.NotIn):behindInMarks op b=rA:=by
 have e1:(op == CmpOp.In)=rA:=by cases op <;> first | rfl | exact absurd rfl h
 have e2:(op == CmpOp.NotIn)=rA:=by cases op <;> first | rfl | exact absurd rfl h2
 cases b <;> simp [behindInMarks,e1,e2]
theorem yC{op:pb}{t:TE}(h:PC X op a b t)(h1:behindInMarks op b=rA:=by first | exact UW _ ∅ ∅ | rfl):PE X (.Compare a [op] [b] pos) t:=λrB s σ H Q I hw=>wpAny_Compare1 (h rB s σ H Q I hw) h1
variable{tA tB':TT}{rest:List nZ}
def zca(t u:TT):TT:=λσ H Q=>t σ H λc H1=>if c=rz then u σ H1 Q else Q rA H1
def tOr(t u:TT):TT:=λσ H Q=>t σ H λc H1=>if c=rz then Q rz H1 else u σ H1 Q
def zao(t:TT):TT:=λσ H Q=>t σ H λc H1=>Q (!c) H1
theorem JZ(ha:PT X a tA):PW X (.BoolOp .And [a] pos) tA:=by
 intro wh rB s σ H Q I h;refine isTrue_and (thn (ha rB s σ H Q I h) λc s1 e=>?_)
 cases c with
 | true=>exact isTrue_and_nil e
 | false=>exact e
theorem vY(ha:PT X a tA):PW X (.BoolOp .Or [a] pos) tA:=by
 intro wh rB s σ H Q I h;refine isTrue_or (thn (ha rB s σ H Q I h) λc s1 e=>?_)
 cases c with
 | false=>exact isTrue_or_nil e
 | true=>exact e
theorem zaK(ha:PT X a tA)(hb:PW X (.BoolOp .And (b::rest) pos) tB'):PW X (.BoolOp .And (a::b::rest) pos) (zca tA tB'):=by
 intro wh rB s σ H Q I h;refine isTrue_and (thn (ha rB s σ H _ I h) λc s1 ⟨H1,I1,q1⟩=>?_)
 cases c with
 | true=>exact hb wh rB s1 σ H1 Q I1 q1
 | false=>exact#[H1,I1,q1]
theorem ut(ha:PT X a tA)(hb:PW X (.BoolOp .Or (b::rest) pos) tB'):PW X (.BoolOp .Or (a::b::rest) pos) (tOr tA tB'):=by
 intro wh rB s σ H Q I h;refine isTrue_or (thn (ha rB s σ H _ I h) λc s1 ⟨H1,I1,q1⟩=>?_)
 cases c with
 | true=>exact#[H1,I1,q1]
 | false=>exact hb wh rB s1 σ H1 Q I1 q1
theorem yn(ha:PT X a tA):PT X (.UnaryOp .Not a pos) (zao tA):=by
 intro rB s σ H Q I h;exact isTrue_not (ha rB s σ H (λc H1=>Q (!c) H1) I h)
def Qx(ta tb:TE):TE:=λσ H Q=>ta σ H λx H1=>onBl x λc=>if c=rz then tb σ H1 Q else Q (.bl rA) H1
def Wt(ta:TE):TE:=λσ H Q=>ta σ H λx H1=>onBl x λc=>Q (.bl (!c)) H1
theorem zaI{op}{t:TE}(h:PE X a t):PE X (.BoolOp op [a] pos) t:=λrB s σ H Q I hw=>BoolOp_one (h rB s σ H Q I hw)
theorem zaR(ha:PE X a ta)(hb:PE X (.BoolOp .And (b::rest) pos) tb):PE X (.BoolOp .And (a::b::rest) pos) (Qx ta tb):=by
 intro rB s σ H Q I h;refine BoolOp_and (thn (ha rB s σ H _ I h) λv s1 ⟨x,H1,I1,r1,q1⟩=>?_);obtain⟨c,rfl,q1⟩:=onBl.of q1;cases r1;refine oo ?_
 cases c with
 | true=>exact hb rB s1 σ H1 Q I1 q1
 | false=>exact#[.bl rA,H1,I1,rfl,q1]
theorem Jp(ha:PE X a ta):PE X (.UnaryOp .Not a pos) (Wt ta):=by
 intro rB s σ H Q I h;refine UnaryOp_ (thn (ha rB s σ H _ I h) λv s1 ⟨x,H1,I1,r1,q1⟩=>?_);obtain⟨c,rfl,q1⟩:=onBl.of q1;cases r1;exact not_of (oo #[.bl (!c),H1,I1,rfl,q1])
def tIf(t:TT)(ta tb:TE):TE:=λσ H Q=>t σ H λc H1=>if c=rz then ta σ H1 Q else tb σ H1 Q
theorem uF{c:nZ}(hc:PT X c tA)(ha:PE X a ta)(hb:PE X b tb):PE X (.IfExp c a b pos) (tIf tA ta tb):=by
 intro rB s σ H Q I h;refine wpAny_IfExp (thn (hc rB s σ H _ I h) λd s1 ⟨H1,I1,q1⟩=>?_)
 cases d with
 | true=>exact ha rB s1 σ H1 Q I1 q1
 | false=>exact hb rB s1 σ H1 Q I1 q1
end
def SqL(K:nO)(H:Hp)(a:nP)(xs:List V):Prop :=
 Rd H a (.lst xs) \/
  ∃(o:ou) (its:Array nQ) (n:Nat),K.lookup a=rp o/\o.cls=.type "list"/\o.dict=rq/\o.data=.seq its n/\its.size<=nN/\Vals xs its.toList
def SqT(K:nO)(H:Hp)(a:nP)(xs:List V):Prop :=
 Rd H a (.tup xs) \/
  ∃(o:ou) (its:Array nQ) (n:Nat),K.lookup a=rp o/\o.cls=.type "tuple"/\o.data=.seq its n/\its.size<=nN/\Vals xs its.toList
noncomputable def zdV:nQ->Option V
 | .none=>rp .non
 | .bool b=>rp (.bl b)
 | .int i _=>rp (.int i)
 | .str x _=>rp (.str x)
 | .bytes b _=>rp (.byt b)
 | .float b _=>rp (.flt b)
 | .ref a=>rp (.ref a)
 | .type n=>rp (.ty n)
 | _=>rq
theorem RelV.abs{x:V}{u:nQ}(r:RelV x u):zdV u=rp x:=by
 cases x with
 | non=>cases r;rfl
 | bl _=>cases r;rfl
 | int _=>obtain⟨t,rfl⟩:=r;rfl
 | str _=>obtain⟨t,rfl⟩:=r;rfl
 | byt _=>obtain⟨t,rfl⟩:=r;rfl
 | flt _=>obtain⟨t,rfl⟩:=r;rfl
 | ref _=>cases r;rfl
 | ty _=>cases r;rfl
theorem RelV.inj{x y:V}{u:nQ}(r:RelV x u)(q:RelV y u):x=y:=Option.some.inj (r.abs.symm.trans q.abs)
theorem Vals.inj:∀{xs ys:List V} {us:List nQ},Vals xs us->Vals ys us->xs=ys
 | _,_,_,.nil,.nil=>rfl
 | _,_,_,.cons r t,.cons r' t'=>by rw[r.inj r',Vals.inj t t']
section
variable{X:Cx}{rB:List (nP × ou)}{σ:St}{H:Hp}{s:nR}{a:nP}{xs ys:List V}
theorem SqL.of{K:nO}(h:H a=rp (.lst xs)):SqL K H a xs:=.inl (.inl h)
theorem SqT.of{K:nO}(h:H a=rp (.tup xs)):SqT K H a xs:=.inl (.inl h)
theorem Inv.list(I:Inv X rB σ H s)(h:SqL X.K H a xs):∃its:List nQ,Vals xs its/\PlainL s.heap a its.toArray/\xs.length<=nN:=by
 rcases h with h | ⟨o,its,n,hk,hc,hd,hs,hz,r⟩
 ·obtain⟨z,its,n,r,e⟩:=h.ok I.hok;exact#[its,r,#[_,n,e,rfl,rfl,rfl],z]
 ·refine#[its.toList,r,#[o,n,I.kIn a o hk,hc,hd,by simpa using hs],?_];have e:=r.length
  erw[cL]at e
  lia
theorem Inv.tuple(I:Inv X rB σ H s)(h:SqT X.K H a xs):∃its:List nQ,Vals xs its/\IsTup s.heap a its.toArray/\xs.length<=nN:=by
 rcases h with h | ⟨o,its,n,hk,hc,hs,hz,r⟩
 ·obtain⟨z,its,r,p⟩:=h.ok I.hok;exact#[its,r,p,z]
 ·refine#[its.toList,r,#[o,I.kIn a o hk,hc,n,by simpa using hs],?_];have e:=r.length
  erw[cL]at e
  lia
theorem Inv.list_inj(I:Inv X rB σ H s)(h:SqL X.K H a xs)(h':SqL X.K H a ys):xs=ys:=by
 obtain⟨its,r,⟨o,n,e,_,_,d⟩,_⟩:=I.list h;obtain⟨its',r',⟨o',n',e',_,_,d'⟩,_⟩:=I.list h';rw[e]at e';cases e';rw[d]at d';injection d' with d1 _;have:its=its':=by simpa using congrArg Array.toList d1
 subst this;exact r.inj r'
theorem Inv.tuple_inj(I:Inv X rB σ H s)(h:SqT X.K H a xs)(h':SqT X.K H a ys):xs=ys:=by
 obtain⟨its,r,⟨o,e,_,n,d⟩,_⟩:=I.tuple h;obtain⟨its',r',⟨o',e',_,n',d'⟩,_⟩:=I.tuple h';rw[e]at e';cases e';rw[d]at d';injection d' with d1 _;have:its=its':=by simpa using congrArg Array.toList d1
 subst this;exact r.inj r'
end
noncomputable abbrev Cx.wish(X:Cx)(E:nQ->nR->Prop):Cx:={ X with xe:=E }
noncomputable abbrev Cx.nox(X:Cx):Cx:=X.wish λ_ _=>False
theorem Cx.Ok.wish{X:Cx}(ok:X.Ok)(E:nQ->nR->Prop):(X.wish E).Ok :=
 #[ok.mod,ok.kind,ok.glob,ok.blt,ok.above,ok.inj,ok.has,ok.cab,ok.hd,ok.frames,ok.stk,ok.exf,ok.bs,ok.bsz,ok.noex,ok.exfs,ok.funs,ok.frf]
theorem Cx.Ok.unwish{X:Cx}{E:nQ->nR->Prop}(ok:(X.wish E).Ok):X.Ok :=
 #[ok.mod,ok.kind,ok.glob,ok.blt,ok.above,ok.inj,ok.has,ok.cab,ok.hd,ok.frames,ok.stk,ok.exf,ok.bs,ok.bsz,ok.noex,ok.exfs,ok.funs,ok.frf]
section
variable{X:Cx}{rB:List (nP × ou)}{σ:St}{H:Hp}{s:nR}{E:nQ->nR->Prop}
theorem Inv.wish(I:Inv X rB σ H s)(E:nQ->nR->Prop):Inv (X.wish E) rB σ H s:=#[I.ok.wish E,I.os,I.bare,I.base,I.loc,I.cell,I.free,I.freeC,I.pin,I.hok,I.len]
theorem Inv.unwish(I:Inv (X.wish E) rB σ H s):Inv X rB σ H s:=#[I.ok.unwish,I.os,I.bare,I.base,I.loc,I.cell,I.free,I.freeC,I.pin,I.hok,I.len]
theorem SP.unwish{D:va}{f:Flow}{s':nR}(h:SP (X.wish E) rB D f s'):SP X rB D f s':=by
 cases f with
 | next=>obtain⟨σ',H',I,q⟩:=h;exact#[σ',H',I.unwish,q]
 | brk=>obtain⟨σ',H',I,q⟩:=h;exact#[σ',H',I.unwish,q]
 | cont=>obtain⟨σ',H',I,q⟩:=h;exact#[σ',H',I.unwish,q]
 | ret u=>obtain⟨v,σ',H',I,r,q⟩:=h;exact#[v,σ',H',I.unwish,r,q]
theorem PSs.nox{st:List oj}{t:TS}(h:PSs X.nox st t):PSs X st t:=λrB s σ H D I hw =>
 oH (h rB s σ H D (I.wish _) hw) (λ_ _ q=>q.unwish) λ_ _ z=>False.elim z
end
section
variable{X:Cx}{st:oj}{rest:List oj}{t u:TS}{e:nZ}{te:TE}{pos:oJ}
def Qo:TS:=λD σ H=>D.nx σ H
def zcd(t u:TS):TS:=λD σ H=>t { D with nx:=u D } σ H
theorem zw:PSs X [] Qo:=λ_ _ σ H _ I h=>oK #[σ,H,I,h]
theorem zQ(h1:PS X st t)(h2:PSs X rest u):PSs X (st::rest) (zcd t u):=by
 intro rB s σ H D I h;refine oP (thn (h1 rB s σ H { D with nx:=u D } I h) λf s1 q=>?_)
 cases f with
 | next =>
  obtain⟨σ',H',I',q⟩:=q;exact h2 rB s1 σ' H' D I' q
 | ret v=>exact q
 | brk=>exact q
 | cont=>exact q
theorem zh(h1:PS X st t):PSs X [st] t:=by
 intro rB s σ H D I h;refine oP (thn (h1 rB s σ H D I h) λf s1 q=>?_)
 cases f with
 | next=>exact oK q
 | ret v=>exact q
 | brk=>exact q
 | cont=>exact q
theorem Inv.quiet{rB:List (nP × ou)}{σ:St}{H:Hp}{s:nR}(I:Inv X rB σ H s):interactive X.env=rA:=by simp [interactive,I.ok.kind]
def Uu(te:TE):TS:=λD σ H=>te σ H λ_ H1=>D.nx σ H1
theorem wm(he:PE X e te)(hs:swapsWith e rq pos.line X.env=pure rA:=by rfl):PS X (.Expr e pos) (Uu te):=by
 intro rB s σ H D I h;exact wpAny_Expr_any (thn (he rB s σ H _ I h) λv s1 ⟨x,H1,I1,r1,q1⟩=>#[σ,H1,I1,q1]) I.quiet hs
def zaj(te:TE):TS:=λD σ H=>te σ H D.rt
theorem zt(he:PE X e te):PS X (.Return (rp e) pos) (zaj te):=by
 intro rB s σ H D I h;exact pS (thn (he rB s σ H _ I h) λv s1 ⟨x,H1,I1,r1,q1⟩=>#[x,σ,H1,I1,r1,q1])
def zb8(c:TT)(t u:TS):TS:=λD σ H=>c σ H λb H1=>if b=rz then t D σ H1 else u D σ H1
theorem zU{c:nZ}{a b:List oj}{tc:TT}(hc:PT X c tc)(ha:PSs X a t)(hb:PSs X b u):PS X (.If c a b pos) (zb8 tc t u):=by
 intro rB s σ H D I h;refine wpAny_If (thn (hc rB s σ H _ I h) λd s1 ⟨H1,I1,q1⟩=>?_)
 cases d with
 | true=>exact ha rB s1 σ H1 D I1 q1
 | false=>exact hb rB s1 σ H1 D I1 q1
end
noncomputable abbrev TG:=V->St->Hp->(St->Hp->Prop)->Prop
noncomputable abbrev TGs:=List V->St->Hp->(St->Hp->Prop)->Prop
def PG(X:Cx)(target:nZ)(t:TG):Prop :=
 ∀(rB:List (nP × ou)) (s:nR) (σ:St) (H:Hp) (v:V) (u:nQ) (Q:St->Hp->Prop),Inv X rB σ H s->RelV v u->t v σ H Q ->
  nV (model X.prog X.w) X.A (assign target X.env u) (λ_ s'=>∃σ' H',Inv X rB σ' H' s'/\Q σ' H') X.xe s
def PGs(X:Cx)(ts:List nZ)(t:TGs):Prop :=
 ∀(rB:List (nP × ou)) (s:nR) (σ:St) (H:Hp) (vs:List V) (us:List nQ) (Q:St->Hp->Prop),Inv X rB σ H s->Vals vs us->t vs σ H Q ->
  nV (model X.prog X.w) X.A (assignInOrder ((assignEach ts X.env).map (·.2)) us) (λ_ s'=>∃σ' H',Inv X rB σ' H' s'/\Q σ' H') X.xe s
noncomputable abbrev zc4:=V->V->V->Hp->(Hp->Prop)->Prop
def zdI(X:Cx)(t:zc4):Prop :=
 ∀(rB:List (nP × ou)) (s:nR) (σ:St) (H:Hp) (o i v:V) (ov iv u:nQ) (Q:Hp->Prop),Inv X rB σ H s->RelV o ov->RelV i iv->RelV v u->t o i v H Q ->
  nV (model X.prog X.w) X.A (setItem ov iv u) (λ_ s'=>∃H',Inv X rB σ H' s'/\Q H') X.xe s
section
variable{X:Cx}{pos:oJ}
def yI(i:Nat):TG:=λv σ H Q=>Q (σ.set i (rp v)) H
theorem zx{i:Nat}{x:nW}(hN:X.N.Nodup)(hi:X.N[i]? = rp x)(hx:Loc X.env.scope x)(hf:X.fn x=rz\/X.env.scope.names.lookup x=rp .local:=by first | exact .inl rfl | exact .inr rfl | assumption):PG X (.Name x pos) (yI i):=by
 intro rB s σ H v u Q I r h;exact pR (jj I hN hi hx r (λs' I'=>#[_,H,I',h]) hf)
def Kh:TGs:=λvs σ H Q=>vs=[]/\Q σ H
def qI(t:TG)(u:TGs):TGs:=λvs σ H Q=>∃v r,vs=v::r/\t v σ H λσ' H'=>u r σ' H' Q
theorem vI:PGs X [] Kh:=by
 intro rB s σ H vs us Q I r h;obtain⟨e,h⟩:=h;subst e;cases r;exact assignInOrder_nil #[σ,H,I,h]
theorem yh{e:nZ}{es:List nZ}{t:TG}{u:TGs}(h1:PG X e t)(h2:PGs X es u)
  (hs:(assignEach (e::es) X.env).map (·.2)=assign e X.env::(assignEach es X.env).map (·.2):=by rfl):PGs X (e::es) (qI t u):=by
 intro rB s σ H vs us Q I r h;obtain⟨v,vr,e1,h⟩:=h;subst e1
 cases r with
 | cons r rr =>
  rw[hs];refine assignInOrder_cons (thn (h1 rB s σ H _ _ _ I r h) λ_ s1 ⟨σ1,H1,I1,q1⟩=>?_);exact h2 rB s1 σ1 H1 _ _ Q I1 rr q1
def Kk(K:nO)(n:Nat)(t:TGs):TG:=λv σ H Q=>∃a xs,v=.ref a/\SqT K H a xs/\xs.length=n/\t xs σ H Q
theorem qU{es:List nZ}{k:Nat}{t:TGs}{n:Nat}(hc:X.calm=rz)(h:PGs X es t)
  (hn:(assignEach es X.env).length=n:=by rfl) (hst:(assignEach es X.env).findIdx? (·.1)=rq:=by rfl):PG X (.Tuple es k pos) (Kk X.K n t):=by
 intro rB s σ H v u Q I r hw;obtain⟨a,xs,e1,hq,hl,hw⟩:=hw;subst e1;cases r;obtain⟨its,rv,ht,hz⟩:=I.tuple hq;refine assign_Tuple_tuple (I.ok.hd hc) ht (by simp [hn,<- hl,rv.length]) hst λh' hx=>?_;have I1:Inv X rB σ H { s with heap:=h' }:=I.kept (t':=s.toks) λb o e=>hx b o (ax (au e)) e;exact h rB _ σ H xs _ Q I1 (by simpa using rv) hw
def zdH(to ti:TE)(t:zc4):TG:=λv σ H Q=>to σ H λo H1=>ti σ H1 λi H2=>t o i v H2 λH3=>Q σ H3
theorem zaP{o i:nZ}{to ti:TE}{t:zc4}(ho:PE X o to)(hi:PE X i ti)(hs:zdI X t)
  (ha:∀v,assign (.Subscript o i pos) X.env v=(do
   let ov <- holding [v] (eval o X.env)
   let iv <- holding [v,ov] (eval i X.env)
   standAt pos
   holding [v,ov,iv] (setItem ov iv v)
   release [v,ov,iv] []):=by intro _;rfl):PG X (.Subscript o i pos) (zdH to ti t):=by
 intro rB s σ H v u Q I r h;rw[ha];refine nI (ot (thn (ho rB s σ H _ I h) λov s1 ⟨x,H1,I1,r1,q1⟩=>?_));refine nI (ot (thn (hi rB s1 σ H1 _ I1 q1) λiv s2 ⟨y,H2,I2,r2,q2⟩=>?_));refine nI (oF (nI (ot (thn (hs rB s2 σ H2 x y v ov iv u _ I2 r1 r2 r q2) λ_ s3 ⟨H3,I3,q3⟩=>?_))));exact wpAny_release #[σ,H3,I3,q3]
def zam(te:TE)(g:TG):TS:=λD σ H=>te σ H λx H1=>g x σ H1 D.nx
theorem zbG{tg e:nZ}{te:TE}{g:TG}(he:PE X e te)(hg:PG X tg g)(hs:swapsWithSole [tg] e pos.line X.env=pure rA:=by rfl)(hw:swappedStores [tg] e X.env=pure rq:=by rfl)
  (h1:(assignEach [tg] X.env).map (·.2)=[assign tg X.env]:=by rfl):PS X (.Assign [tg] e pos) (zam te g):=by
 intro rB s σ H D I h;refine wpAny_Assign_stores (thn (he rB s σ H _ I h) λv s1 ⟨x,H1,I1,r1,q1⟩=>?_) hs hw;rw[h1];exact thn (hg rB s1 σ H1 x v _ I1 r1 q1) λ_ s2 q=>q
theorem xa{i:Nat}{x:nW}{e:nZ}{te:TE}{pos':oJ}(hN:X.N.Nodup)(hi:X.N[i]? = rp x)(hx:Loc X.env.scope x)(he:PE X e te)(hs:swapsWith e (rp (.Name x pos')) pos.line X.env=pure rA:=by rfl)(hf:X.fn x=rz\/X.env.scope.names.lookup x=rp .local:=by first | exact .inl rfl | exact .inr rfl | assumption) :
  PS X (.Assign [.Name x pos'] e pos) (zam te (yI i)):=by
 intro rB s σ H D I h;refine pT (thn (he rB s σ H _ I h) λv s1 ⟨y,H1,I1,r1,q1⟩=>?_) hs;exact jj I1 hN hi hx r1 (λs2 I2=>#[_,H1,I2,q1]) hf
def Wd(c:TT)(tb:TS):TS:=λD σ H=>∃W:Nat->St->Hp->Prop,(∃m,W m σ H)/\∀m σ H,W m σ H ->
 c σ H λb H1=>if b=rz then ∃N:St->Hp->Prop,(∀σ' H',N σ' H'->∃m',m'<m/\W m' σ' H')/\tb { D with nx:=N,ct:=N,bk:=D.nx } σ H1 else D.nx σ H1
theorem YL{c:nZ}{body:List oj}{tc:TT}{tb:TS}(hp:PassesOwn (model X.prog X.w) X.A X.env X.xe)(hc:PT X c tc)(hb:PSs X body tb):PS X (.While c body [] pos) (Wd tc tb):=by
 intro rB s σ H D I h;obtain⟨W,⟨m0,w0⟩,turn⟩:=h;refine wpAny_While (codeAny_whileLoop (λn s'=>∃σ' H',Inv X rB σ' H' s'/\W n σ' H') ?_ m0 #[σ,H,I,w0]);rintro n s1 ⟨σ1,H1,I1,w1⟩;refine oE hp (thn (hc rB s1 σ1 H1 _ I1 (turn n σ1 H1 w1)) λb s2 ⟨H2,I2,q2⟩=>?_)
 cases b with
 | true =>
  obtain⟨N,hN,q2⟩:=q2;rw[if_pos rfl];refine oE hp (thn (hb rB s2 σ1 H2 _ I2 q2) λf s3 q3=>?_)
  cases f with
  | next =>
   obtain⟨σ3,H3,I3,n3⟩:=q3;obtain⟨m',hm,w3⟩:=hN σ3 H3 n3;exact#[m',hm,σ3,H3,I3,w3]
  | cont =>
   obtain⟨σ3,H3,I3,n3⟩:=q3;obtain⟨m',hm,w3⟩:=hN σ3 H3 n3;exact#[m',hm,σ3,H3,I3,w3]
  | brk=>exact q3
  | ret v=>exact q3
 | false =>
  rw[if_neg aA];exact oK #[σ1,H2,I2,q2]
end
structure It where
 go:Nat->Hp->Prop
 yld:Nat->Hp->V->Hp->Prop
 stop:Nat->Hp->Prop
def xE(X:Cx)(rB:List (nP × ou))(H:Hp)(b:nP):Prop :=
 H b=rq/\b≠X.env.locals/\b ∉ X.fs/\(b ∈ X.ex\/X.s₀.heap.objs.size<=b)/\(∀x c,X.env.cells.lookup x=rp c->c≠b)/\∀p ∈ X.pn ++ rB,p.1≠b
theorem Inv.fpOk{X:Cx}{rB:List (nP × ou)}{σ:St}{H H':Hp}{s:nR}{b:nP}(I:Inv X rB σ H s)(hb:s⁻¹<=b)(hn:H' b=rq):xE X rB H' b:=by
 refine#[hn,cr (av I.lt hb),I.nofs hb,.inr (aL I.sz hb),λx c e z=>?_,λp hp z=>?_]
 ·obtain⟨v,q⟩:=I.cell x c e;exact absurd (av q.lt (by rw[z];exact hb)) (cw _)
 ·exact absurd (av (au (I.pin p hp).1) (by rw[z];exact hb)) (cw _)
structure Kn(P:nU)(w:nY)(K:nO)(tg:nZ)(J:It)(fp:List nP)(it:nP)(tn:Nat->oa->Prop):Prop where
 mem:it ∈ fp
 obj:∀i h,tn i h->∀b ∈ fp,∃o,h.get? b=rp o/\∀v,o.data≠.cell v
 keep:∀i h h',tn i h->(∀b ∈ fp,∀o,h.get? b=rp o->h'.get? b=rp o)->tn i h'
 item:∀(X:Cx),X.prog=P->X.w=w->X.K=K->X.calm=rz->∀(i:Nat) (rB:List (nP × ou)) (s:nR) (σ:St) (H:Hp) (E:nQ->nR->Prop),Inv X rB σ H s->(∀b ∈ fp,xE X rB H b)->tn i s.heap->J.go i H ->
  nV (model P w) X.A (pyNext (.ref it)) (λr s1=>∃u,r=rp u /\
   nV (model P w) X.A (letOwnedTupleGo tg (.ref it) u) (λ_ s2=>∃x H',Inv X rB σ H' s2/\RelV x u/\J.yld i H x H'/\tn (i+1) s2.heap/\∀b ∈ fp,H' b=rq) E s1) E s
 done:∀(X:Cx),X.prog=P->X.w=w->X.K=K->X.calm=rz->∀(i:Nat) (rB:List (nP × ou)) (s:nR) (σ:St) (H:Hp) (E:nQ->nR->Prop),Inv X rB σ H s->(∀b ∈ fp,xE X rB H b)->tn i s.heap->J.stop i H ->
  nV (model P w) X.A (pyNext (.ref it)) (λr s1=>r=rq/\Inv X rB σ H s1) E s
 self:∀(A:nX) (i:Nat) (s:nR) (Q:nQ->nR->Prop) (E:nQ->nR->Prop),tn i s.heap->Q (.ref it) s->nV (model P w) A (pyIter (.ref it)) Q E s
noncomputable abbrev TI:=St->Hp->(It->Hp->Prop)->Prop
def PIE(X:Cx)(rB:List (nP × ou))(σ:St)(tg:nZ)(R:It->Hp->Prop)(itv:nQ)(s2:nR):Prop :=
 ∃(it:nP) (fp:List nP) (tn:Nat->oa->Prop) (J:It) (H':Hp),itv=.ref it/\Inv X rB σ H' s2/\Kn X.prog X.w X.K tg J fp it tn/\tn 0 s2.heap/\(∀b ∈ fp,xE X rB H' b)/\R J H'
def PI(X:Cx)(tg iter:nZ)(wi:TI):Prop :=
 ∀(rB:List (nP × ou)) (s:nR) (σ:St) (H:Hp) (R:It->Hp->Prop),Inv X rB σ H s->wi σ H R ->
  nV (model X.prog X.w) X.A (eval iter X.env) (λv s1=>nV (model X.prog X.w) X.A (pyIter v) (PIE X rB σ tg R) X.xe s1) X.xe s
theorem Qk{M:pN}{A:nX}{E:nQ->nR->Prop}{s:nR}{tg:nZ}{it:nP}{u:nQ}{o:ou}{n:String}{vs:Array nQ}{Q:Unit->nR->Prop}(ho:s.heap.get? it=rp o)(hc:o.cls=.type n)(hd:o.data=.fields vs)
    (hn:["enumerate","zip","dict_itemiterator","dict_reverseitemiterator","odict_iterator","itertools.zip_longest","itertools.pairwise"].contains n=rA) (hQ:Q Unit.unit s):nV M A (letOwnedTupleGo tg (.ref it) u) Q E s:=by
  unfold letOwnedTupleGo
  cases tg <;> first
    | exact nJ hQ
    | (cases u <;> first
        | exact nJ hQ
        | (refine nI (wpAny_load ho ?_)
           rw[hc,hd];show nV M A (if (["enumerate","zip","dict_itemiterator","dict_reverseitemiterator","odict_iterator","itertools.zip_longest","itertools.pairwise"].contains n && vs[0]? == rp (rawInt _))=rz then _ else _) Q E s;rw[if_neg (by intro h;rw[hn,Bool.false_and]at h;cases h)]
           exact nJ hQ))
noncomputable def Itl(K:nO)(a:nP):It :=
 #[λi H=>∃xs x,SqL K H a xs/\xs[i]? = rp x,λi H x H'=>H'=H/\∀xs,SqL K H a xs->xs[i]? = rp x,λi H=>∃xs,SqL K H a xs/\xs.length<=i]
noncomputable def Itt(K:nO)(a:nP):It :=
 #[λi H=>∃xs x,SqT K H a xs/\xs[i]? = rp x,λi H x H'=>H'=H/\∀xs,SqT K H a xs->xs[i]? = rp x,λi H=>∃xs,SqT K H a xs/\xs.length<=i]
noncomputable def Itr(lo:Int)(n:Nat):It:=#[λi _=>i<n,λi H x H'=>H'=H/\x=.int (lo+i),λi _=>n<=i]
theorem WM{P:nU}{w:nY}{K:nO}{tg:nZ}(a it:nP):Kn P w K tg (Itl K a) [it] it (λi h=>h.IsListIter it a i) where
 mem:=by simp
 obj:=λi h st b hb=>by
  have e:b=it:=by simpa using hb
  subst e;obtain⟨o,e,c,d⟩:=st;exact#[o,e,λv z=>by rw[d]at z;cases z]
 keep:=λi h h' st k=>st.at λo e=>k it (by simp) o e
 item:=by
  intro X hP hw hK hc i rB s σ H E I hf st hg;subst hP hw hK;obtain⟨xs,x,hq,hx⟩:=hg;obtain⟨its,rv,p,hz⟩:=I.list hq;obtain⟨u,hu,ru⟩:=rv.get hx;obtain⟨f0,f1,f2,f3,f4,f5⟩:=hf it (by simp);refine wpAny_pyNext_list_item st p.isList (x:=u) (by simpa using hu) λh' st' sb=>?_;have I1:Inv X rB σ H { s with heap:=h' }:=I.turned (t':=s.toks) (λb o hb e=>(sb.2 b hb).trans e) f0 f1 f3 f4 f5;obtain⟨o,e,c,d⟩:=id st';exact#[u,rfl,Qk (s:={ s with heap:=h' }) e c d ∅ #[x,H,I1,ru,#[rfl,λys hy=>by rw[I.list_inj hy hq];exact hx],st',λb hb=>(hf b hb).1]]
 done:=by
  intro X hP hw hK hc i rB s σ H E I hf st hg;subst hP hw hK;obtain⟨xs,hq,hx⟩:=hg;obtain⟨its,rv,p,hz⟩:=I.list hq;obtain⟨f0,f1,f2,f3,f4,f5⟩:=hf it (by simp);have hl:=rv.length;exact wpAny_pyNext_list_end (I.ok.hd hc) st p.isList (by simp;lia) λh' eb=>#[rfl,I.turned (t':=s.toks) (λb o hb e=>eb b o hb e) f0 f1 f3 f4 f5]
 self:=λ_ _ _ _ _ st h=>wpAny_pyIter_listiter st h
theorem XH{P:nU}{w:nY}{K:nO}{tg:nZ}(it:nP)(lo:Int)(n:Nat):Kn P w K tg (Itr lo n) [it] it (λi h=>IsRangeIter h it (lo+(i:Nat) * 1) ((n:Int) - (i:Nat)) 1) where
 mem:=by simp
 obj:=λi h st b hb=>by
  have e:b=it:=by simpa using hb
  subst e
  exact#[_,st,λv z=>by
   have z':Data.fields _=Data.cell v:=z
   cases z']
 keep:=λi h h' st k=>k it (by simp) _ st
 item:=by
  intro X hP hw hK hc i rB s σ H E I hf st hg;subst hP hw hK;obtain⟨f0,f1,f2,f3,f4,f5⟩:=hf it (by simp);have W:=Walks.range (prog:=X.prog) (w:=X.w) (I.ok.hd hc) it lo 1 n;refine W.item i s _ _ hg st λv h' tk hv st' kk=>?_;obtain⟨t,rfl⟩:=hv;have I1:Inv X rB σ H { s with heap:=h',toks:=tk }:=I.turned (λb o hb e=>kk b o (by simpa using hb) e) f0 f1 f3 f4 f5;refine#[_,rfl,Qk (s:={ s with heap:=h',toks:=tk }) (n:="range_iterator") st' rfl rfl ∅ #[.int (lo+i),H,I1,#[t,?_],#[rfl,rfl],st',λb hb=>(hf b hb).1]];rw[Int.mul_one]
 done:=by
  intro X hP hw hK hc i rB s σ H E I hf st hg;subst hP hw hK;obtain⟨f0,f1,f2,f3,f4,f5⟩:=hf it (by simp);exact wpAny_pyNext_range_end (I.ok.hd hc) st (by have:n<=i:=hg;lia) λh' eb=>#[rfl,I.turned (t':=s.toks) (λb o hb e=>eb b o hb e) f0 f1 f3 f4 f5]
 self:=λ_ _ _ _ _ st h=>wpAny_pyIter_rangeiter st h
section
variable{X:Cx}{tg:nZ}
def Kw(K:nO)(tl:TE):TI:=λσ H R=>tl σ H λx H1=>∃a,x=.ref a/\(∃xs,SqL K H1 a xs)/\R (Itl K a) H1
def zd7(K:nO)(tl:TE):TI:=λσ H R=>tl σ H λx H1=>∃a,x=.ref a/\(∃xs,SqT K H1 a xs)/\R (Itt K a) H1
theorem ye{l:nZ}{tl:TE}(hl:PE X l tl):PI X tg l (Kw X.K tl):=by
 intro rB s σ H R I h;refine thn (hl rB s σ H _ I h) λv s1 ⟨x,H1,I1,r1,q1⟩=>?_;obtain⟨a,e,⟨xs,hq⟩,q⟩:=q1;subst e;cases r1;obtain⟨its,rv,p,hz⟩:=I1.list hq;refine oY p.isList ?_;refine#[s1⁻¹,[s1⁻¹],_,_,H1,rfl,I1.kept (t':=s1.toks) λb o e=>af _ e,WM a _,#[_,aI _ rfl,rfl,rfl],λb hb=>?_,q];have e:b=s1⁻¹:=by simpa using hb
 subst e;exact I1.fpOk (ao _) (I1.hok.fresh (ao _))
theorem YC{rB:List (nP × ou)}{σ:St}{H:Hp}{s:nR}{R:It->Hp->Prop}{E:nQ->nR->Prop}{lo hi:Int}{t u v:pX}{tk:Nat}(I:Inv X rB σ H s)(h1:-(2 ^ 62)<=lo)(h2:lo<2 ^ 62)(h3:-(2 ^ 62)<=hi)(h4:hi<2 ^ 62)
  (q:R (Itr lo (hi - lo).toNat) H):nV (model X.prog X.w) X.A (pyIter (.ref s⁻¹)) (PIE X rB σ tg R) E { s with heap:=s.heap.push { cls:=.type "range",data:=.fields (List.toArray [.int lo t,.int hi u,.int 1 v]) },toks:=tk }:=by
 refine wpAny_pyIter_range (IsRange.new ..) (small_one h1 h2 h3 h4) ?_;have I1:Inv X rB σ H { s with heap:=s.heap.push { cls:=.type "range",data:=.fields (List.toArray [.int lo t,.int hi u,.int 1 v]) },toks:=tk }:=I.kept λb o e=>af _ e
 refine#[(s.heap.push { cls:=.type "range",data:=.fields (List.toArray [.int lo t,.int hi u,.int 1 v]) }).objs.size,[(s.heap.push { cls:=.type "range",data:=.fields (List.toArray [.int lo t,.int hi u,.int 1 v]) }).objs.size],_,_,H,rfl,
  I1.kept (t':=tk) λb o e=>af _ e,XH _ lo (hi - lo).toNat,?_,λb hb=>?_,q]
 ·have e1:lo+((0:Nat):Int) * 1=lo:=by simp
  have e2:(((hi - lo).toNat:Nat):Int) - ((0:Nat):Int)=Builtin.Range.rangeSize lo hi 1:=by rw[rangeSize_one];split <;> lia
  show IsRangeIter _ _ (lo+((0:Nat):Int) * 1) ((((hi - lo).toNat:Nat):Int) - ((0:Nat):Int)) 1;rw[e1,e2];exact aI _ rfl
 ·have e:b=(s.heap.push { cls:=.type "range",data:=.fields (List.toArray [.int lo t,.int hi u,.int 1 v]) }).objs.size:=by simpa using hb
  subst e;exact I1.fpOk (ao _) (I1.hok.fresh (ao _))
def Kd(ta:TA):TI:=λσ H R=>ta σ H λvs H1=>∃j:Int,vs=[.int j]/\-(2 ^ 62)<=j/\j<2 ^ 62/\R (Itr 0 j.toNat) H1
def zbn(ta:TA):TI:=λσ H R=>ta σ H λvs H1=>∃i j:Int,vs=[.int i,.int j]/\(-(2 ^ 62)<=i/\i<2 ^ 62/\-(2 ^ 62)<=j/\j<2 ^ 62)/\R (Itr i (j - i).toNat) H1
theorem yX{a:nZ}{ta:TA}{p pos:oJ}(hg:Gl X "range")(hm:X.mg "range" = rq)(ha:PA X [a] ta)(hs:nM [a] X.env=[(rA,eval a X.env)]:=by rfl):PI X tg (.Call (.Name "range" p) [a] [] pos) (Kd ta):=by
 intro rB s σ H R I h;refine Call_ (vx I hg hm boot_range (bJ (thn (ha pos rB s σ H _ I h) λus s1 ⟨vs,H1,I1,r1,q1⟩=>?_) hs rfl));obtain⟨j,e,q1,q2,q⟩:=q1;subst e
 cases r1 with
 | cons r rr =>
  cases rr;obtain⟨t,rfl⟩:=r;exact call_range_1 (YC I1 ⋯ ⋯ q1 q2 (by simpa using q))
theorem VA{a b:nZ}{ta:TA}{p pos:oJ}(hg:Gl X "range")(hm:X.mg "range" = rq)(ha:PA X [a,b] ta)(hs:nM [a,b] X.env=[(rA,eval a X.env),(rA,eval b X.env)]:=by rfl)(hs2:nM [b] X.env=[(rA,eval b X.env)]:=by rfl) :
  PI X tg (.Call (.Name "range" p) [a,b] [] pos) (zbn ta):=by
 intro rB s σ H R I h;refine Call_ (vx I hg hm boot_range (bJ (thn (ha pos rB s σ H _ I h) λus s1 ⟨vs,H1,I1,r1,q1⟩=>?_) (by rw[hs,hs2]) (by rw[hs2];rfl)));obtain⟨i,j,e,⟨q1,q2,q3,q4⟩,q⟩:=q1;subst e
 cases r1 with
 | cons r rr =>
  cases rr with
  | cons r' rr =>
   cases rr;obtain⟨t,rfl⟩:=r;obtain⟨t',rfl⟩:=r';exact call_range_2 (YC I1 q1 q2 q3 q4 q)
def U8(wi:TI)(g:TG)(tb:TS):TS:=λD σ H=>wi σ H λJ H1=>∃W:Nat->Nat->St->Hp->Prop,(∃m,W 0 m σ H1)/\∀i m σ H,W i m σ H ->
 (J.stop i H/\D.nx σ H)\/(J.go i H/\∃N:St->Hp->Prop,(∀σ' H',N σ' H'->∃m',m'<m/\W (i+1) m' σ' H')/\∀x H',J.yld i H x H'->g x σ H' λσ2 H2=>tb { D with nx:=N,ct:=N,bk:=D.nx } σ2 H2)
noncomputable def Zg(fp:List nP)(h:oa):List (nP × ou):=fp.filterMap λb=>(h.get? b).map λo=>(b,o)
theorem wD{fp:List nP}{h:oa}{b:nP}{o:ou}(hb:b ∈ fp)(e:h.get? b=rp o):(b,o) ∈ Zg fp h:=rZ.mpr #[b,hb,by rw[e];rfl]
theorem Wm{fp:List nP}{h:oa}{p:nP × ou}(hp:p ∈ Zg fp h):p.1 ∈ fp/\h.get? p.1=rp p.2:=by
 obtain⟨b,hb,e⟩:=rZ.mp hp
 cases q:h.get? b with
 | none=>rw[q]at e;cases e
 | some o =>
  rw[q]at e;have e':(b,o)=p:=Option.some.inj e;subst e';exact#[hb,q]
theorem Inv.pinned{rB:List (nP × ou)}{σ:St}{H:Hp}{s:nR}{fp:List nP}(I:Inv X rB σ H s)(hf:∀b ∈ fp,xE X rB H b)(ho:∀b ∈ fp,∃o,s.heap.get? b=rp o/\∀v,o.data≠.cell v):Inv X (rB ++ Zg fp s.heap) σ H s :=
 I.pins_of λp hp=>(rJ.mp hp).elim (λz=>I.pin p (aD _ z)) λz=>by
  obtain⟨hb,e⟩:=Wm z;obtain⟨f0,f1,f2,_⟩:=hf p.1 hb;obtain⟨o,e',d⟩:=ho p.1 hb;rw[e]at e';cases e';exact#[e,f0,f1,f2,d]
theorem Inv.unpinned{rB pl:List (nP × ou)}{σ:St}{H:Hp}{s:nR}(I:Inv X (rB ++ pl) σ H s):Inv X rB σ H s:=I.pins_of λp hp=>I.pin p (aD _ (bu _ hp))
theorem yK{iter:nZ}{body:List oj}{wi:TI}{g:TG}{tb:TS}{pos:oJ}(hp:PassesOwn (model X.prog X.w) X.A X.env X.xe)(hc:X.calm=rz)(hi:PI X tg iter wi)(hg:PG X tg g)(hb:PSs X body tb)
  (hs:∀x,foldedSetIterable iter X.env x=pure x:=by intro _;rfl):PS X (.For tg iter body [] pos) (U8 wi g tb):=by
 intro rB s σ H D I h;refine wpAny_For (thn (hi rB s σ H _ I h) λv s1 h1=>thn h1 λitv s2 h2=>?_) hs;obtain⟨it,fp,tn,J,H2,e,I2,T,st2,f2,W,⟨m0,w0⟩,turn⟩:=h2;subst e;have stat:∀{H':Hp},(∀b ∈ fp,H' b=rq)->∀b ∈ fp,xE X rB H' b:=λhn b hb=>#[hn b hb,(f2 b hb).2];refine codeAny_forLoop_any (λn s'=>∃i σ' H',Inv X rB σ' H' s'/\tn i s'.heap/\(∀b ∈ fp,H' b=rq)/\W i n σ' H') ?_ m0 #[0,σ,H2,I2,st2,λb hb=>(f2 b hb).1,w0];rintro n s3 ⟨i,σ3,H3,I3,st3,fr3,w3⟩;rcases turn i n σ3 H3 w3 with ⟨stop,qn⟩ | ⟨go,N,hN,step⟩
 ·refine oE hp (thn (T.done X rfl rfl rfl hc i rB s3 σ3 H3 X.xe I3 (stat fr3) st3 stop) λr s4 ⟨hr,I4⟩=>?_);subst hr;exact oK #[σ3,H3,I4,qn]
 ·refine oE hp (thn (T.item X rfl rfl rfl hc i rB s3 σ3 H3 X.xe I3 (stat fr3) st3 go) λr s4 ⟨u,hr,h4⟩=>?_);subst hr;refine oE hp (thn h4 λ_ s5 ⟨x,H5,I5,r5,y5,st5,fr5⟩=>?_);have I5':=I5.pinned (stat fr5) (T.obj _ _ st5);refine oE hp (thn (hg _ s5 σ3 H5 x u _ I5' r5 (step x H5 y5)) λ_ s6 ⟨σ6,H6,I6,q6⟩=>?_);refine oE hp (thn (hb _ s6 σ6 H6 _ I6 q6) λf s7 q7=>?_)
  have again:∀{σ7:St} {H7:Hp},Inv X (rB ++ Zg fp s5.heap) σ7 H7 s7->N σ7 H7->∃m,m<n/\∃i σ' H',Inv X rB σ' H' s7/\tn i s7.heap/\(∀b ∈ fp,H' b=rq)/\W i m σ' H':=λ{σ7 H7} I7 n7=>by
   obtain⟨m',hm,w7⟩:=hN σ7 H7 n7;refine#[m',hm,i+1,σ7,H7,I7.unpinned,T.keep _ _ _ st5 λb hb o e=>(I7.pin (b,o) (aD _ (aD _ (wD hb e)))).1,λb hb=>?_,w7];obtain⟨o,e,d⟩:=T.obj _ _ st5 b hb;exact (I7.pin (b,o) (aD _ (aD _ (wD hb e)))).2.1
  cases f with
  | next=>obtain⟨σ7,H7,I7,n7⟩:=q7;exact again I7 n7
  | cont=>obtain⟨σ7,H7,I7,n7⟩:=q7;exact again I7 n7
  | brk=>obtain⟨σ7,H7,I7,q7⟩:=q7;exact#[σ7,H7,I7.unpinned,q7]
  | ret v=>obtain⟨x7,σ7,H7,I7,r7,q7⟩:=q7;exact#[x7,σ7,H7,I7.unpinned,r7,q7]
end
theorem UJ{K:nO}{a:nP}{xs:List V}{g:TG}{tb:TS}{D:va}{σ:St}{H:Hp}(Pv:Nat->St->Hp->Prop)(h0:Pv 0 σ H)(hl:∀i σ H,i<=xs.length->Pv i σ H->SqL K H a xs)
  (hs:∀i x σ H,xs[i]? = rp x->Pv i σ H->g x σ H λσ2 H2=>tb { D with nx:=Pv (i+1),ct:=Pv (i+1),bk:=D.nx } σ2 H2) (hd:∀σ H,Pv xs.length σ H->D.nx σ H) :
  ∃W:Nat->Nat->St->Hp->Prop,(∃m,W 0 m σ H)/\∀i m σ H,W i m σ H ->
   ((Itl K a).stop i H/\D.nx σ H)\/((Itl K a).go i H/\∃N:St->Hp->Prop,(∀σ' H',N σ' H'->∃m',m'<m/\W (i+1) m' σ' H')/\∀x H',(Itl K a).yld i H x H'->g x σ H' λσ2 H2=>tb { D with nx:=N,ct:=N,bk:=D.nx } σ2 H2):=by
 refine#[λi m σ H=>m=xs.length - i/\i<=xs.length/\Pv i σ H,#[xs.length,by simp,aB _,h0],?_];rintro i m σ H ⟨rfl,hi,p⟩;have q:=hl i σ H hi p;by_cases hlt:i<xs.length
 ·refine .inr #[#[xs,xs[i],q,by simp [hlt]],Pv (i+1),λσ' H' p'=>#[xs.length - (i+1),⋯,rfl,hlt,p'],λx H' y=>?_];obtain⟨e,y⟩:=y;subst e;exact hs i x σ _ (y xs q) p
 ·have e:i=xs.length:=⋯;subst e;exact .inl #[#[xs,q,ao _],hd σ H p]
theorem WX{lo:Int}{n:Nat}{g:TG}{tb:TS}{D:va}{σ:St}{H:Hp}(Pv:Nat->St->Hp->Prop)(h0:Pv 0 σ H)
  (hs:∀i σ H,i<n->Pv i σ H->g (.int (lo+i)) σ H λσ2 H2=>tb { D with nx:=Pv (i+1),ct:=Pv (i+1),bk:=D.nx } σ2 H2) (hd:∀σ H,Pv n σ H->D.nx σ H) :
  ∃W:Nat->Nat->St->Hp->Prop,(∃m,W 0 m σ H)/\∀i m σ H,W i m σ H ->
   ((Itr lo n).stop i H/\D.nx σ H)\/((Itr lo n).go i H/\∃N:St->Hp->Prop,(∀σ' H',N σ' H'->∃m',m'<m/\W (i+1) m' σ' H')/\∀x H',(Itr lo n).yld i H x H'->g x σ H' λσ2 H2=>tb { D with nx:=N,ct:=N,bk:=D.nx } σ2 H2):=by
 refine#[λi m σ H=>m=n - i/\i<=n/\Pv i σ H,#[n,by simp,aB _,h0],?_];rintro i m σ H ⟨rfl,hi,p⟩;by_cases hlt:i<n
 ·refine .inr #[hlt,Pv (i+1),λσ' H' p'=>#[n - (i+1),⋯,rfl,hlt,p'],λx H' y=>?_];obtain⟨e,y⟩:=y;subst e y;exact hs i σ _ hlt p
 ·have e:i=n:=⋯;subst e;exact .inl #[ao _,hd σ H p]
noncomputable abbrev R2:=V->V->Hp->VK->Prop
def OpR(X:Cx)(f:nQ->nQ->rb nQ)(r:R2):Prop :=
 ∀(rB:List (nP × ou)) (s:nR) (σ:St) (H:Hp) (x y:V) (v u:nQ) (Q:VK),Inv X rB σ H s->RelV x v->RelV y u->r x y H Q ->
  nV (model X.prog X.w) X.A (f v u) (EP X rB σ Q) X.xe s
def UnR(X:Cx)(f:nQ->rb nQ)(r:V->Hp->VK->Prop):Prop :=
 ∀(rB:List (nP × ou)) (s:nR) (σ:St) (H:Hp) (x:V) (v:nQ) (Q:VK),Inv X rB σ H s->RelV x v->r x H Q ->
  nV (model X.prog X.w) X.A (f v) (EP X rB σ Q) X.xe s
def vz(X:Cx)(f:nQ)(r:List V->Hp->VK->Prop):Prop :=
 ∀(rB:List (nP × ou)) (s:nR) (σ:St) (H:Hp) (xs:List V) (us:List nQ) (Q:VK),Inv X rB σ H s->Vals xs us->r xs H Q ->
  nV (model X.prog X.w) X.A (call f us) (EP X rB σ Q) X.xe s
def zdW(X:Cx)(r:V->Hp->(Bool->Hp->Prop)->Prop):Prop :=
 ∀(rB:List (nP × ou)) (s:nR) (σ:St) (H:Hp) (x:V) (v:nQ) (Q:Bool->Hp->Prop),Inv X rB σ H s->RelV x v->r x H Q ->
  nV (model X.prog X.w) X.A (truthy v) (TP X rB σ Q) X.xe s
def tOp(r:R2)(ta tb:TE):TE:=λσ H Q=>ta σ H λx H1=>tb σ H1 λy H2=>r x y H2 Q
def tUn(r:V->Hp->VK->Prop)(ta:TE):TE:=λσ H Q=>ta σ H λx H1=>r x H1 Q
def rI(C:Int->Int->Prop)(g:Int->Int->V):R2:=λx y H Q=>onInt x λi=>onInt y λj=>C i j/\Q (g i j) H
def rI0(g:Int->Int->V):R2:=λx y H Q=>onInt x λi=>onInt y λj=>Q (g i j) H
def rU(g:Int->V):V->Hp->VK->Prop:=λx H Q=>onInt x λi=>Q (g i) H
section
variable{X:Cx}{a b c:nZ}{ta tb tc:TE}{pos:oJ}
theorem zc2(ha:PE X a ta)(hb:PE X b tb){rB:List (nP × ou)}{s:nR}{σ:St}{H:Hp}{R:V->V->Hp->Prop}(I:Inv X rB σ H s)
  (h:ta σ H λx H1=>tb σ H1 λy H2=>R x y H2) {Q:nQ->nR->Prop} {f:nQ->nQ->rb nQ}
  (hf:∀v u s2 x y H2,Inv X rB σ H2 s2->RelV x v->RelV y u->R x y H2->nV (model X.prog X.w) X.A (f v u) Q X.xe s2) :
  nV (model X.prog X.w) X.A (eval a X.env) (λv s₁=>nV (model X.prog X.w) X.A (eval b X.env) (λu s₂=>nV (model X.prog X.w) X.A (f v u) Q X.xe s₂) X.xe s₁) X.xe s:=by
 refine thn (ha rB s σ H _ I h) λv s1 ⟨x,H1,I1,r1,q1⟩=>?_;refine thn (hb rB s1 σ H1 _ I1 q1) λu s2 ⟨y,H2,I2,r2,q2⟩=>?_;exact hf v u s2 x y H2 I2 r1 r2 q2
theorem zC{op:Operator}{r:R2}(ho:OpR X (binaryOp op) r)(ha:PE X a ta)(hb:PE X b tb):PE X (.BinOp a op b pos) (tOp r ta tb):=by
 intro rB s σ H Q I h;exact wpAny_BinOp (zc2 ha hb I h λv u s2 x y H2 I2 rx ry q=>ho rB s2 σ H2 x y v u Q I2 rx ry q)
theorem zcQ{op:UnaryOp}{r:V->Hp->VK->Prop}(ho:UnR X (unaryOp op) r)(ha:PE X a ta):PE X (.UnaryOp op a pos) (tUn r ta):=by
 intro rB s σ H Q I h;exact UnaryOp_ (thn (ha rB s σ H _ I h) λv s1 ⟨x,H1,I1,r1,q1⟩=>ho rB s1 σ H1 x v Q I1 r1 q1)
theorem opI{f:nQ->nQ->rb nQ}{C:Int->Int->Prop}{g:Int->Int->Int}
  (rule:∀(i j:Int) (t u:pX) (s:nR) (Q:nQ->nR->Prop) (E:nQ->nR->Prop),C i j->Q (.int (g i j) s.toks) { s with toks:=s.toks+1 }->nV (model X.prog X.w) X.A (f (.int i t) (.int j u)) Q E s) :
  OpR X f (rI C λi j=>.int (g i j)):=by
 intro rB s σ H x y v u Q I rx ry h;obtain⟨i,rfl,h2⟩:=onInt.of h;obtain⟨j,rfl,hc,q⟩:=onInt.of h2;obtain⟨t,rfl⟩:=rx;obtain⟨t',rfl⟩:=ry;exact rule i j t t' s _ _ hc #[.int (g i j),H,I.tok _,#[_,rfl],q]
theorem zdy{f:nQ->nQ->rb nQ}{g:Int->Int->Int}
  (rule:∀(i j:Int) (t u:pX) (s:nR) (Q:nQ->nR->Prop) (E:nQ->nR->Prop),Q (.int (g i j) s.toks) { s with toks:=s.toks+1 }->nV (model X.prog X.w) X.A (f (.int i t) (.int j u)) Q E s) :
  OpR X f (rI0 λi j=>.int (g i j)):=by
 intro rB s σ H x y v u Q I rx ry h;obtain⟨i,rfl,h2⟩:=onInt.of h;obtain⟨j,rfl,q⟩:=onInt.of h2;obtain⟨t,rfl⟩:=rx;obtain⟨t',rfl⟩:=ry;exact rule i j t t' s _ _ #[.int (g i j),H,I.tok _,#[_,rfl],q]
theorem zce{f:nQ->nQ->rb nQ}{g:Int->Int->Bool}
  (rule:∀(i j:Int) (t u:pX) (s:nR) (Q:nQ->nR->Prop) (E:nQ->nR->Prop),Q (.bool (g i j)) s->nV (model X.prog X.w) X.A (f (.int i t) (.int j u)) Q E s) :
  OpR X f (rI0 λi j=>.bl (g i j)):=by
 intro rB s σ H x y v u Q I rx ry h;obtain⟨i,rfl,h2⟩:=onInt.of h;obtain⟨j,rfl,q⟩:=onInt.of h2;obtain⟨t,rfl⟩:=rx;obtain⟨t',rfl⟩:=ry;exact rule i j t t' s _ _ #[.bl (g i j),H,I,rfl,q]
def zdO(i j:Int):Prop:=0<j/\j<1073741824
def CMul(i j:Int):Prop:=(-(2 ^ 64)<i/\i<2 ^ 64)\/(-(2 ^ 64)<j/\j<2 ^ 64)
theorem CMul.ok{i j:Int}(h:CMul i j):IntMulOk i j:=by
 rcases h with ⟨h1,h2⟩ | ⟨h1,h2⟩
 ·exact .of_left (intBits_le_64 h1 h2)
 ·exact .of_right (intBits_le_64 h1 h2)
theorem yF:OpR X (binaryOp .Add) (rI0 λi j=>.int (i+j)):=zdy λ_ _ _ _ _ _ _ q=>add_int q
theorem xO:OpR X (binaryOp .Sub) (rI0 λi j=>.int (i - j)):=zdy λ_ _ _ _ _ _ _ q=>sub_int q
theorem jg:OpR X (binaryOp .Mult) (rI CMul λi j=>.int (i * j)):=opI λ_ _ _ _ _ _ _ hc q=>mul_int q hc.ok
theorem jT:OpR X (binaryOp .FloorDiv) (rI zdO λi j=>.int (i / j)):=opI λi j _ _ _ _ _ hc q=>by
 have h1:(0:Int)<j:=hc.1;have h2:j<1073741824:=hc.2;exact floordiv_int ⋯ (by rw[Int.fdiv_eq_ediv_of_nonneg i ⋯];exact q) (.inl (PyProof.noPylong_small ⋯))
theorem wa:OpR X (binaryOp .Mod) (rI (λ_ j=>0<j) λi j=>.int (i % j)):=opI λi j _ _ _ _ _ hc q=>by
 have h1:(0:Int)<j:=hc;exact mod_int' ⋯ (by rw[Int.fmod_eq_emod_of_nonneg i ⋯];exact q)
theorem unI{f:nQ->rb nQ}{g:Int->Int}
  (rule:∀(i:Int) (t:pX) (s:nR) (Q:nQ->nR->Prop) (E:nQ->nR->Prop),Q (.int (g i) s.toks) { s with toks:=s.toks+1 }->nV (model X.prog X.w) X.A (f (.int i t)) Q E s) :
  UnR X f (rU λi=>.int (g i)):=by
 intro rB s σ H x v Q I rx h;obtain⟨i,rfl,q⟩:=onInt.of h;obtain⟨t,rfl⟩:=rx;exact rule i t s _ _ #[.int (g i),H,I.tok _,#[_,rfl],q]
theorem zb5:UnR X (unaryOp .USub) (rU λi=>.int (-i)):=unI λ_ _ _ _ _ q=>neg_int q
end
noncomputable def Ue:V->V->Bool
 | .non,.non=>rz | .non,.int _=>rz | .int _,.non=>rz | .non,.bl _=>rz | .bl _,.non=>rz | .non,.str _=>rz | .str _,.non=>rz
 | .int _,.int _=>rz | .bl _,.bl _=>rz | .str _,.str _=>rz | .byt _,.byt _=>rz
 | .int _,.str _=>rz | .str _,.int _=>rz | .bl _,.str _=>rz | .str _,.bl _=>rz
 | _,_=>rA
def rEq:R2:=λx y H Q=>match x,y with | .int a,.int b=>Q (.bl (decide (a=b))) H | .str a,.str b=>Q (.bl (decide (a=b))) H | x,y=>Ue x y=rz/\Q (.bl (decide (x=y))) H
theorem rEq_is{x y:V}{H:Hp}{Q:VK}:rEq x y H Q=(Ue x y=rz/\Q (.bl (decide (x=y))) H):=by
 unfold rEq;split <;> simp [Ue]
def rNe:R2:=λx y H Q=>match x,y with | .int a,.int b=>Q (.bl (!decide (a=b))) H | .str a,.str b=>Q (.bl (!decide (a=b))) H | x,y=>Ue x y=rz/\Q (.bl (!decide (x=y))) H
theorem rNe_is{x y:V}{H:Hp}{Q:VK}:rNe x y H Q=(Ue x y=rz/\Q (.bl (!decide (x=y))) H):=by
 unfold rNe;split <;> simp [Ue]
theorem VE{i j:Int}:decide (V.int i=V.int j)=(i == j):=by
 rw[cP];simp
theorem QF{i j:Bool}:decide (V.bl i=V.bl j)=(i == j):=by
 rw[cP];simp
theorem Vw{i j:nW}:decide (V.str i=V.str j)=(i == j):=by
 rw[cP];simp
theorem VZ{i j:Array UInt8}:decide (V.byt i=V.byt j)=(i.toList == j.toList):=by
 rw[cP];cases i;cases j;simp
section
variable{X:Cx}{a b c:nZ}{ta tb tc:TE}{pos:oJ}
theorem zP{rB:List (nP × ou)}{σ:St}{H:Hp}{s:nR}{Q:VK}{k k':Bool}(I:Inv X rB σ H s)(q:Q (.bl k) H)(e:k=k'):EP X rB σ Q (.bool k') s:=by
 subst e;exact#[.bl k,H,I,rfl,q]
theorem wU:OpR X (og .Eq) rEq:=by
 intro rB s σ H x y v u Q I rx ry h;obtain⟨hs,q⟩:=rEq_is.mp h
 cases x with
 | non =>
  cases rx
  cases y with
  | non=>cases ry;exact PySem.EqNone.eq_none_none (zP I q (by simp))
  | bl j=>cases ry;exact PySem.EqNone.eq_none_bool (zP I q (by simp))
  | int j=>obtain⟨t',rfl⟩:=ry;exact PySem.EqNone.eq_none_int (zP I q (by simp))
  | str j=>obtain⟨t',rfl⟩:=ry;exact PySem.EqNone.eq_none_str (zP I q (by simp))
  | _=>exact absurd (show rA=rz from hs) aA
 | bl i =>
  cases rx
  cases y with
  | non=>cases ry;exact PySem.EqNone.eq_bool_none (zP I q (by simp))
  | bl j=>cases ry;exact eq_bool (zP I q QF)
  | str j=>obtain⟨t',rfl⟩:=ry;exact PySem.EqMixed.eq_bool_str (zP I q (by simp))
  | _=>exact absurd (show rA=rz from hs) aA
 | int i =>
  obtain⟨t,rfl⟩:=rx
  cases y with
  | non=>cases ry;exact PySem.EqNone.eq_int_none (zP I q (by simp))
  | int j=>obtain⟨t',rfl⟩:=ry;exact eq_int (zP I q VE)
  | str j=>obtain⟨t',rfl⟩:=ry;exact PySem.EqMixed.eq_int_str (zP I q (by simp))
  | _=>exact absurd (show rA=rz from hs) aA
 | str i =>
  obtain⟨t,rfl⟩:=rx
  cases y with
  | non=>cases ry;exact PySem.EqNone.eq_str_none (zP I q (by simp))
  | bl j=>cases ry;exact PySem.EqMixed.eq_str_bool (zP I q (by simp))
  | int j=>obtain⟨t',rfl⟩:=ry;exact PySem.EqMixed.eq_str_int (zP I q (by simp))
  | str j=>obtain⟨t',rfl⟩:=ry;exact eq_str (zP I q Vw)
  | _=>exact absurd (show rA=rz from hs) aA
 | byt i =>
  obtain⟨t,rfl⟩:=rx
  cases y with
  | byt j=>obtain⟨t',rfl⟩:=ry;exact PySem.W.eq_bytes (zP I q VZ)
  | _=>exact absurd (show rA=rz from hs) aA
 | _=>cases y <;> exact absurd (show rA=rz from hs) aA
theorem Xz:OpR X (og .NotEq) rNe:=by
 intro rB s σ H x y v u Q I rx ry h;obtain⟨hs,q⟩:=rNe_is.mp h
 cases x with
 | non =>
  cases rx
  cases y with
  | non=>cases ry;exact PySem.EqNone.ne_none_none (zP I q (by simp))
  | bl j=>cases ry;exact PySem.EqNone.ne_none_bool (zP I q (by simp))
  | int j=>obtain⟨t',rfl⟩:=ry;exact PySem.EqNone.ne_none_int (zP I q (by simp))
  | str j=>obtain⟨t',rfl⟩:=ry;exact PySem.EqNone.ne_none_str (zP I q (by simp))
  | _=>exact absurd (show rA=rz from hs) aA
 | bl i =>
  cases rx
  cases y with
  | non=>cases ry;exact PySem.EqNone.ne_bool_none (zP I q (by simp))
  | bl j=>cases ry;exact ne_bool (zP I q (congrArg not QF))
  | str j=>obtain⟨t',rfl⟩:=ry;exact PySem.EqMixed.ne_bool_str (zP I q (by simp))
  | _=>exact absurd (show rA=rz from hs) aA
 | int i =>
  obtain⟨t,rfl⟩:=rx
  cases y with
  | non=>cases ry;exact PySem.EqNone.ne_int_none (zP I q (by simp))
  | int j=>obtain⟨t',rfl⟩:=ry;exact ne_int (zP I q (congrArg not VE))
  | str j=>obtain⟨t',rfl⟩:=ry;exact PySem.EqMixed.ne_int_str (zP I q (by simp))
  | _=>exact absurd (show rA=rz from hs) aA
 | str i =>
  obtain⟨t,rfl⟩:=rx
  cases y with
  | non=>cases ry;exact PySem.EqNone.ne_str_none (zP I q (by simp))
  | bl j=>cases ry;exact PySem.EqMixed.ne_str_bool (zP I q (by simp))
  | int j=>obtain⟨t',rfl⟩:=ry;exact PySem.EqMixed.ne_str_int (zP I q (by simp))
  | str j=>obtain⟨t',rfl⟩:=ry;exact ne_str (zP I q (congrArg not Vw))
  | _=>exact absurd (show rA=rz from hs) aA
 | byt i =>
  obtain⟨t,rfl⟩:=rx
  cases y with
  | byt j=>obtain⟨t',rfl⟩:=ry;exact PySem.W.ne_bytes (zP I q (congrArg not VZ))
  | _=>exact absurd (show rA=rz from hs) aA
 | _=>cases y <;> exact absurd (show rA=rz from hs) aA
theorem VH:OpR X (og .Lt) (rI0 λi j=>.bl (decide (i<j))):=zce λ_ _ _ _ _ _ _ q=>lt_int q
theorem zc9:OpR X (og .LtE) (rI0 λi j=>.bl (decide (i<=j))):=zce λ_ _ _ _ _ _ _ q=>le_int q
theorem UN:OpR X (og .Gt) (rI0 λi j=>.bl (decide (j<i))):=zce λ_ _ _ _ _ _ _ q=>gt_int q
theorem zcu:OpR X (og .GtE) (rI0 λi j=>.bl (decide (j<=i))):=zce λ_ _ _ _ _ _ _ q=>ge_int q
theorem W8:OpR X (og .Lt) (λx y H Q=>∃i j,x=.str i/\y=.str j/\Q (.bl (decide (i.cps.toList<j.cps.toList))) H):=by
 intro rB s σ H x y v u Q I rx ry h;obtain⟨i,j,rfl,rfl,q⟩:=h;obtain⟨t,rfl⟩:=rx;obtain⟨t',rfl⟩:=ry;exact lt_str (zP I q rfl)
theorem zax:OpR X (og .Is) (λx y H Q=>y=.non/\Q (.bl (decide (x=.non))) H):=by
 intro rB s σ H x y v u Q I rx ry h;obtain⟨rfl,q⟩:=h;cases ry;refine is_none_gen (zP I q ?_)
 cases x <;> first
  | (cases rx;rfl)
  | (obtain⟨t,rfl⟩:=rx;rfl)
theorem Kl:OpR X (og .IsNot) (λx y H Q=>y=.non/\Q (.bl (!decide (x=.non))) H):=by
 intro rB s σ H x y v u Q I rx ry h;obtain⟨rfl,q⟩:=h;cases ry;refine isnot_none_gen (zP I q ?_)
 cases x <;> first
  | (cases rx;rfl)
  | (obtain⟨t,rfl⟩:=rx;rfl)
theorem zE(b:nZ){op:pb}(h:op≠.In:=by decide)(h2:op≠.NotIn:=by decide):behindInMarks op b=rA:=by
 have e1:(op == CmpOp.In)=rA:=by cases op <;> first | rfl | exact absurd rfl h
 have e2:(op == CmpOp.NotIn)=rA:=by cases op <;> first | rfl | exact absurd rfl h2
 cases b <;> simp [behindInMarks,e1,e2]
theorem xZ{op:pb}{r:R2}(ho:OpR X (og op) r)(ha:PE X a ta)(hb:PE X b tb)(hm:behindInMarks op b=rA):PE X (.Compare a [op] [b] pos) (tOp r ta tb):=by
 intro rB s σ H Q I h;exact wpAny_Compare1 (zc2 ha hb I h λv u s2 x y H2 I2 rx ry q=>ho rB s2 σ H2 x y v u Q I2 rx ry q) hm
def XR(t:TE):TT:=λσ H Q=>t σ H λx H'=>onBl x λk=>Q k H'
theorem zB{op:pb}{r:R2}(ho:OpR X (og op) r)(ha:PE X a ta)(hb:PE X b tb)(hm:behindInMarks op b=rA):PT X (.Compare a [op] [b] pos) (XR (tOp r ta tb)):=by
 intro rB s σ H Q I h
 refine wpAny_isTrue_Compare1 (thn (ha rB s σ H _ I h) λv s1 ⟨x,H1,I1,r1,q1⟩=>thn (hb rB s1 σ H1 _ I1 q1) λu s2 ⟨y,H2,I2,r2,q2⟩ =>
  thn (ho rB s2 σ H2 x y v u _ I2 r1 r2 q2) λc s3 ⟨z,H3,I3,r3,q3⟩=>?_) hm
 obtain⟨k,rfl,q3⟩:=onBl.of q3;cases r3;exact oo #[H3,I3,q3]
def kZ(r r':R2)(ta tb tc:TE):TE:=λσ H Q=>ta σ H λx H1=>tb σ H1 λy H2=>r x y H2 λz H3=>onBl z λk =>
 (if k=rz then tc σ H3 λw' H4=>r' y w' H4 Q else Q (.bl rA) H3)
theorem Qt{op op':pb}{r r':R2}(ho:OpR X (og op) r)(ho':OpR X (og op') r')(ha:PE X a ta)(hb:PE X b tb)(hc:PE X c tc)
  (hm:lastMarks [op,op'] [b,c]=rA:=by with_unfolding_all rfl):PE X (.Compare a [op,op'] [b,c] pos) (kZ r r' ta tb tc):=by
 intro rB s σ H Q I h
 refine Compare_chain (thn (ha rB s σ H _ I h) λv s1 ⟨x,H1,I1,r1,q1⟩=>chain_link (thn (hb rB s1 σ H1 _ I1 q1) λu s2 ⟨y,H2,I2,r2,q2⟩ =>
  thn (ho rB s2 σ H2 x y v u _ I2 r1 r2 q2) λd s3 ⟨z,H3,I3,r3,q3⟩=>?_)) hm
 obtain⟨k,rfl,q3⟩:=onBl.of q3;cases r3;refine oo ?_
 cases k with
 | false=>exact ite_ff #[.bl rA,H3,I3,rfl,q3]
 | true=>exact ite_tt (chain_last (thn (hc rB s3 σ H3 _ I3 q3) λw' s4 ⟨z',H4,I4,r4,q4⟩=>ho' rB s4 σ H4 y z' u w' Q I4 r2 r4 q4))
theorem YJ{op op':pb}{r r':R2}(ho:OpR X (og op) r)(ho':OpR X (og op') r')(ha:PE X a ta)(hb:PE X b tb)(hc:PE X c tc)
  (hm:lastMarks [op,op'] [b,c]=rA:=by with_unfolding_all rfl):PT X (.Compare a [op,op'] [b,c] pos) (XR (kZ r r' ta tb tc)):=by
 intro rB s σ H Q I h
 refine isTrue_chain (thn (ha rB s σ H _ I h) λv s1 ⟨x,H1,I1,r1,q1⟩=>test_link (thn (hb rB s1 σ H1 _ I1 q1) λu s2 ⟨y,H2,I2,r2,q2⟩ =>
  thn (ho rB s2 σ H2 x y v u _ I2 r1 r2 q2) λd s3 ⟨z,H3,I3,r3,q3⟩=>?_)) hm
 obtain⟨k,rfl,q3⟩:=onBl.of q3;cases r3;refine oo ?_
 cases k with
 | false =>
  exact ite_ff #[H3,I3,q3]
 | true =>
  refine ite_tt (test_last (thn (hc rB s3 σ H3 _ I3 q3) λw' s4 ⟨z',H4,I4,r4,q4⟩=>thn (ho' rB s4 σ H4 y z' u w' _ I4 r2 r4 q4) λd' s5 ⟨z2,H5,I5,r5,q5⟩=>?_));obtain⟨k2,rfl,q5⟩:=onBl.of q5;cases r5;exact oo #[H5,I5,q5]
def zbt(K:nO)(x:V)(H:Hp)(k:Bool):Prop :=
 match x with
 | .non=>k=rA
 | .bl b=>k=b
 | .int i=>k=(i != 0)
 | .str y=>y.length<=nN/\k=((y.length:Int) != 0)
 | .byt y=>y.size<=nN/\k=((y.size:Int) != 0)
 | .ref p=>(∃xs,SqL K H p xs/\k=!xs.isEmpty)\/(∃xs,SqT K H p xs/\k=!xs.isEmpty)\/∃kvs,H p=rp (.dK kvs)/\k=!kvs.isEmpty
 | _=>False
theorem XS{κ:Type}{kvs:List (κ × V)}{vs:List (κ × nQ)}(r:KV kvs vs):(!vs.isEmpty)=!kvs.isEmpty:=by
 cases r <;> rfl
theorem qV{xs:List V}{its:List nQ}(r:Vals xs its):(!its.toArray.isEmpty)=!xs.isEmpty:=by
 cases r <;> simp
theorem Zk:(nN:Nat)<2 ^ 63:=by rw[oh];decide
theorem Jq:zdW X (λx H Q=>∃k,zbt X.K x H k/\Q k H):=by
 intro rB s σ H x v Q I rx h;obtain⟨k,e,q⟩:=h;have hl:=Zk;have hs:nN=16777216:=oh
 cases x with
 | non =>
  cases rx;have e':k=rA:=e;subst e';exact truthy_none #[H,I,q]
 | bl b =>
  cases rx;have e':k=b:=e;subst e';exact oo #[H,I,q]
 | int i =>
  obtain⟨t,rfl⟩:=rx;have e':k=(i != 0):=e;subst e';exact PySem.P.truthy_int #[H,I,q]
 | str y =>
  obtain⟨t,rfl⟩:=rx;obtain⟨hy,e'⟩:y.length<=nN/\k=((y.length:Int) != 0):=e;subst e';exact PySem.P.truthy_str ⋯ #[H,I.tok _,q]
 | byt y =>
  obtain⟨t,rfl⟩:=rx;obtain⟨hy,e'⟩:y.size<=nN/\k=((y.size:Int) != 0):=e;subst e';exact PySem.W.truthy_bytes ⋯ #[H,I.tok _,q]
 | ref p =>
  cases rx;have e':(∃xs,SqL X.K H p xs/\k=!xs.isEmpty)\/(∃xs,SqT X.K H p xs/\k=!xs.isEmpty)\/∃kvs,H p=rp (.dK kvs)/\k=!kvs.isEmpty:=e;rcases e' with ⟨xs,hx,e'⟩ | ⟨xs,hx,e'⟩ | ⟨kvs,hx,e'⟩
  ·subst e';obtain⟨its,r,pl,hz⟩:=I.list hx;have hlen:=r.length;exact wpAny_truthy_list pl.isList (by erw[ah];lia) #[H,I.tok _,by rw[qV r];exact q]
  ·subst e';obtain⟨its,r,pl,hz⟩:=I.tuple hx;have hlen:=r.length;exact truthy_tuple pl (by erw[ah];lia) #[H,I.tok _,by rw[qV r];exact q]
  ·subst e';obtain⟨hz,hS,vs,r,m⟩:kvs.length<=nN/\(p == sysModules)=rA/\∃vs,KV kvs vs/\s.heap.DictOf (Z8 X.prog X.w) p vs:=I.hok p _ hx;have hlen:kvs.length=vs.length:=Paired.length r;exact wpAny_truthy_dict hS m ⋯ #[H,I.tok _,by rw[XS r];exact q]
 | _=>exact (show False from e).elim
theorem Y8(ha:PE X a ta)(he:∀whole,isTrue a X.env whole=(do let v <- whole;standAt a.pos;holding [v] (truthy v))) :
  PT X a (λσ H Q=>ta σ H λx H'=>∃k,zbt X.K x H' k/\Q k H'):=by
 intro rB s σ H Q I h;exact isTrue_plain (thn (ha rB s σ H _ I h) λv s1 ⟨x,H1,I1,r1,q1⟩=>Jq rB s1 σ H1 x v Q I1 r1 q1) (he _)
theorem zJ:OpR X (binaryOp .Add) (λx y H Q=>∃i j,x=.str i/\y=.str j/\i.length+j.length<=nN/\Q (.str (i ++ j)) H):=by
 intro rB s σ H x y v u Q I rx ry h;obtain⟨i,j,rfl,rfl,hz,q⟩:=h;obtain⟨t,rfl⟩:=rx;obtain⟨t',rfl⟩:=ry;exact add_str (λt' tk=>#[.str (i ++ j),H,I.tok _,#[_,rfl],q]) hz
theorem xP{x:V}{us:List nQ}(r:Vals [x] us):∃u,us=[u]/\RelV x u:=by
 cases r with
 | cons r1 r2=>cases r2;exact#[_,rfl,r1]
theorem U3{x y:V}{us:List nQ}(r:Vals [x,y] us):∃u w',us=[u,w']/\RelV x u/\RelV y w':=by
 cases r with
 | cons r1 r2 =>
  cases r2 with
  | cons r3 r4=>cases r4;exact#[_,_,rfl,r1,r3]
theorem VD(hc:X.calm=rz):vz X (.builtin "max") (λxs H Q=>∃i j,xs=[.int i,.int j]/\Q (.int (if j > i then j else i)) H):=by
 intro rB s σ H xs us Q I r h;obtain⟨i,j,rfl,q⟩:=h;obtain⟨u,w',rfl,⟨t,rfl⟩,⟨t',rfl⟩⟩:=U3 r;refine max_two_ints (I.ok.hd hc) λh' tk k=>#[_,H,I.kept k,?_,q];by_cases hj:j > i
 ·rw[if_pos hj,if_pos hj];exact#[_,rfl]
 ·rw[if_neg hj,if_neg hj];exact#[_,rfl]
theorem X6:vz X (.type "int") (λxs H Q=>(∃i,xs=[.int i]/\Q (.int i) H)\/∃k,xs=[.bl k]/\Q (.int (if k then 1 else 0)) H):=by
 intro rB s σ H xs us Q I r h;rcases h with ⟨i,rfl,q⟩ | ⟨k,rfl,q⟩
 ·obtain⟨u,rfl,t,rfl⟩:=xP r;exact call_int_int #[.int i,H,I,#[_,rfl],q]
 ·obtain⟨u,rfl,r1⟩:=xP r;cases r1;exact call_int_bool #[.int (if k then 1 else 0),H,I.tok _,#[_,rfl],q]
def zbz(K:nO)(x:V)(H:Hp)(n:Nat):Prop :=
 match x with
 | .str y=>y.length<=nN/\n=y.length
 | .byt y=>y.size<=nN/\n=y.size
 | .ref p=>(∃xs,SqL K H p xs/\n=xs.length)\/∃xs,SqT K H p xs/\n=xs.length
 | _=>False
theorem Uj:vz X (.builtin "len") (λxs H Q=>∃x n,xs=[x]/\zbz X.K x H n/\Q (.int n) H):=by
 intro rB s σ H xs us Q I r h;obtain⟨x,n,rfl,e,q⟩:=h;obtain⟨u,rfl,rx⟩:=xP r;have hl:=Zk;have hs:nN=16777216:=oh
 cases x with
 | str y =>
  obtain⟨t,rfl⟩:=rx;obtain⟨hy,e'⟩:y.length<=nN/\n=y.length:=e;subst e';exact len_str ⋯ #[.int _,H,I.tok _,#[_,rfl],q]
 | byt y =>
  obtain⟨t,rfl⟩:=rx;obtain⟨hy,e'⟩:y.size<=nN/\n=y.size:=e;subst e';exact PySem.W.len_bytes ⋯ #[.int _,H,I.tok _,#[_,rfl],q]
 | ref p =>
  cases rx;have e':(∃xs,SqL X.K H p xs/\n=xs.length)\/∃xs,SqT X.K H p xs/\n=xs.length:=e;rcases e' with ⟨xs,hx,e'⟩ | ⟨xs,hx,e'⟩
  ·subst e';obtain⟨its,r',pl,hz⟩:=I.list hx;have hlen:=r'.length;exact Calls.call_len_list pl.isList (by erw[ah];lia) #[.int xs.length,H,I.tok _,#[_,by erw[ah];rw[hlen]],q]
  ·subst e';obtain⟨its,r',pl,hz⟩:=I.tuple hx;have hlen:=r'.length;exact len_tuple pl (by erw[ah];lia) #[.int xs.length,H,I.tok _,#[_,by erw[ah];rw[hlen]],q]
 | _=>exact (show False from e).elim
end
structure ObjM(h:oa)(x dx C:nP)(mA:nW->Option nQ):Prop where
 obj:h.get? x=rp (bR C dx)
 ns:h.Ns1 dx mA
 ne:dx≠x
theorem WT{h:oa}{dx:nP}{mA:nW->Option nQ}(n:h.Ns1 dx mA):∃od,h.get? dx=rp od/\∀name,dO name od=rp (mA name):=by
 obtain⟨o,es,ep,ho,hd,hk,_,hm⟩:=n;refine#[o,ho,λname=>?_];have e:=hm name;unfold nsFind findBy at e;rw[<- Array.find?_toList]at e;unfold dO;rw[hd];dsimp only;split
 ·rename_i y q;rw[q]at e;exact congrArg rp e
 ·rename_i q;rw[q]at e
  have a:es.toList.any (·.refKey)=rA:=by
   rw[List.any_eq_false];intro y hy;obtain⟨z,t,hkey⟩:=hk y (Array.mem_toList_iff.mp hy);simp [DictEntry.refKey,hkey]
  have a':¬ es.toList.any (·.refKey)=rz:=by rw[a];exact aA
  rw[if_neg a'];exact congrArg rp e
theorem ObjM.look{h:oa}{x dx C:nP}{mA:nW->Option nQ}(I:ObjM h x dx C mA):∃od,PySem.W.InstAt h x (bR C dx) C (rp od)/\∀name,dO name od=rp (mA name) :=
 let #[od,ho,hl]:=WT I.ns
 #[od,#[I.obj,rfl,rfl,ho],hl]
section
variable{prog:nU}{w:nY}{A:nX}{E:nQ->nR->Prop}{s:nR}{K:nO}{x dx C f:nP}{mA:nW->Option nQ}{name:nW}{v:nQ}
theorem JW{expr:Bool}{Q:nQ->nR->Prop}(X:K.In s.heap)(I:ObjM s.heap x dx C mA)(hg:bX K C name=rz)(hh:cj K C=rz)
  (ha:ak K (.ref C) name=rp rq) (hv:mA name=rp v) (hv':fM v=rz) (h:Q v { s with toks:=s.toks+1 }) :
  nV (model prog w) A (getAttr (.ref x) name expr) Q E s:=by
 obtain⟨od,J,hl⟩:=I.look;exact PySem.W.get_value X J (dM hg).1 (PySem.W.findObj_own hh ha rfl (by rw[hl,hv])) hv' h
theorem QB{pl:rb Bool}{Q:nQ × List nQ->nR->Prop}(X:K.In s.heap)(I:ObjM s.heap x dx C mA)(hg:bX K C name=rz)
  (hf:ak K (.ref C) name=rp (rp (.ref f))) (ht:bp K (.ref f)=rz) (hv:mA name=rq) (h:Q (.ref f,[.ref x]) s) :
  nV (model prog w) A (getMethod (.ref x) name pl) Q E s:=by
 obtain⟨od,J,hl⟩:=I.look;exact PySem.W.method_fn X J (dM hg).1 (dM hg).2 hf (beq_iff_eq.mp ht) (by show (dO name od).map (·.isSome)=rp rA;rw[hl,hv];rfl) h
theorem KR{ns:List nW}{Q:Unit->nR->Prop}(X:K.In s.heap)(I:ObjM s.heap x dx C mA)
  (hs:ak K (.ref C) "__setattr__" = rp (rp (.builtin "object.__setattr__"))) (hp:cA K C=rz) (ht:eM K C name=rp rq) (hh:cj K C=rz)
  (hw:PySem.Within mA ns) (hsz:ns.length<=nN)
  (h:∀h',ObjM h' x dx C (λy=>if y=name then rp v else mA y)->Heap.SameBut dx s.heap h'->Q Unit.unit { s with heap:=h',toks:=s.toks+2 }) :
  nV (model prog w) A (setAttr (.ref x) name v) Q E s:=by
 obtain⟨od,J,hl⟩:=I.look;refine fH X J hs (PySem.W.osa_open (s:={ s with toks:=s.toks+1 }) (r:=rq) X J hp ht λb=>?_);obtain⟨cd,hc,hd'⟩:=PySem.W.any_some hh;have hx:s.heap.get? x=rp #[.ref C,rp dx,.plain,#[]]:=I.obj;refine nI (nJ (nI (nI (pF hx (nI (PySem.W.Looks.here (s:={ s with toks:=s.toks+1 }) (PySem.W.looks_clsIn X hc) ?_))))));rw[hd'];refine nJ (a:=rp dx) (nI (nJ (nI ?_)));refine wpAny_nsSet1 (s:={ s with toks:=s.toks+1 }) I.ns λh' hn2 hs2=>?_;obtain⟨oD,esD,epD,hoD,hdD,hcD⟩:=hn2.count (PySem.Within.cons name v hw);refine nI (pY hoD (by rw[hdD];exact pastItsLine_dict (aL hcD (by rw[aE];lia))) ?_);exact nJ (h _ #[(hs2.2 _ (Ne.symm I.ne)).trans I.obj,hn2,I.ne] hs2)
theorem Qb{R:pJ->nR->Prop}{vs:List nQ}{kw:List (nW × nQ)}(X:K.In s.heap)(hm:cQ K C=rz)
  (hi:ak K (.ref C) "__init__" = rp (rp (.ref f))) (hf:PySem.W.typeIn K (.ref f)=rp (.type "function"))
  (h:oR (model prog w) (A.under (.builtin "type.__call__" #[.ref C::vs,kw])) (.call (.ref f) #[.ref (s⁻¹+1)::vs,kw]) (PySem.W.InitBack (s⁻¹+1) R)
   { s with heap:=(s.heap.push bA).push (bR C s⁻¹) }) :
  oR (model prog w) A (.call (.ref C) #[vs,kw]) R s:=by
 obtain⟨hh,g,d,t,os⟩:=s;exact PySem.W.make_core (PySem.W.makes_of X hm) (cp X hi) (λself=>fV X self hf) (.inl rfl) h
end
noncomputable def km(f:nW)(v:V):List (nW × V)->List (nW × V)
  | []=>[(f,v)]
  | (g,x)::r=>if g=f then (g,v)::r else (g,x)::km f v r
theorem qz(f g:nW)(v:V):∀fs:List (nW × V),(km f v fs).lookup g=if g=f then rp v else fs.lookup g
  | []=>by
    show bj g [(f,v)]=_;by_cases h:g=f
    . have hb:(g == f)=rz:=beq_iff_eq.mpr h
      erw[bj,hb,if_pos h]
    . have hb:(g == f)=rA:=beq_eq_false_iff_ne.mpr h
      erw[bj,hb,if_neg h]
  | (k,x)::r=>by
    have ih:=qz f g v r;rw[show km f v ((k,x)::r)=(if k=f then (k,v)::r else (k,x)::km f v r)from rfl];by_cases hk:k=f
    . rw[if_pos hk]
      by_cases h:g=k
      . have hb:(g == k)=rz:=beq_iff_eq.mpr h
        erw[bj,hb,if_pos (h.trans hk)]
      . have hb:(g == k)=rA:=beq_eq_false_iff_ne.mpr h
        erw[bj,hb,if_neg (λe:g=f=>h (e.trans hk.symm))]
    . rw[if_neg hk]
      by_cases h:g=k
      . have hb:(g == k)=rz:=beq_iff_eq.mpr h
        erw[bj,hb,if_neg (λe:g=f=>hk (h.symm.trans e))]
      . have hb:(g == k)=rA:=beq_eq_false_iff_ne.mpr h
        erw[bj,hb]
        exact ih
theorem qc(f:nW)(v:V):∀fs:List (nW × V),f ∈ (km f v fs).map (·.1)/\∀g,g ∈ fs.map (·.1)->g ∈ (km f v fs).map (·.1)
  | []=>#[by simp [km],λg h=>by simp at h]
  | (k,x)::r=>by
    obtain⟨i1,i2⟩:=qc f v r;rw[show km f v ((k,x)::r)=(if k=f then (k,v)::r else (k,x)::km f v r)from rfl];by_cases hk:k=f
    . rw[if_pos hk]
      subst hk;exact#[by simp,λg h=>by simpa using h]
    . rw[if_neg hk]
      refine#[?_,λg h=>?_]
      . rw[aj]
        exact ar _ i1
      . rw[aj]at h ⊢
        rcases rH.mp h with e | e
        . exact rH.mpr (.inl e)
        . exact ar _ (i2 g e)
theorem qe(f:nW)(v:V):∀fs:List (nW × V),(km f v fs).length<=fs.length+1
  | []=>by simp [km]
  | (k,x)::r=>by
    have ih:=qe f v r;rw[show km f v ((k,x)::r)=(if k=f then (k,v)::r else (k,x)::km f v r)from rfl];by_cases hk:k=f
    . rw[if_pos hk,aE,aE];lia
    . rw[if_neg hk,aE,aE];lia
theorem RelO.some_of{v:V}{o:Option nQ}(r:RelO (rp v) o):∃u,o=rp u/\RelV v u:=by
 cases o with
 | none=>exact (show False from r).elim
 | some u=>exact#[u,rfl,r]
theorem RelO.none_of{o:Option nQ}(r:RelO rq o):o=rq:=by
 cases o with
 | none=>rfl
 | some u=>exact (show False from r).elim
theorem Wn{v:V}{u:nQ}(r:RelV v u):fM u=rz:=by
 cases v with
 | non=>cases (show u=Value.none from r);rfl
 | bl b=>cases (show u=Value.bool b from r);rfl
 | int i=>obtain⟨t,e⟩:=(show ∃t,u=Value.int i t from r);cases e;rfl
 | str x=>obtain⟨t,e⟩:=(show ∃t,u=Value.str x t from r);cases e;rfl
 | byt b=>obtain⟨t,e⟩:=(show ∃t,u=Value.bytes b t from r);cases e;rfl
 | flt b=>obtain⟨t,e⟩:=(show ∃t,u=Value.float b t from r);cases e;rfl
 | ref a=>cases (show u=Value.ref a from r);rfl
 | ty n=>cases (show u=Value.type n from r);rfl
section
variable{P:nU}{w:nY}{H H':Hp}{h h':oa}{a C dx:nP}{fs fs':List (nW × V)}
theorem jz(hok:HOk P w H h)(e:H a=rp (.ins C dx fs)):∃mA,ObjM h a dx C mA/\(∀f,RelO (fs.lookup f) (mA f))/\PySem.Within mA (fs.map (·.1))/\fs.length<=1000/\H dx=rp (.own a):=by
 obtain⟨d,z,ne,ob,mA,n,r,q⟩:=(show ObjOk P w H h a (.ins C dx fs)from hok a _ e);exact#[mA,#[ob,n,ne],r,q,z,d]
end
structure Cls(K:nO)(C:nP):Prop where
 pg:bX K C fv=rz
 hd:cj K C=rz
 po:cA K C=rz
 sa:ak K (.ref C) "__setattr__" = rp (rp (.builtin "object.__setattr__"))
theorem Cls.get{K:nO}{C:nP}(c:Cls K C)(f:nW):bX K C f=rz:=c.pg
def NoAttr(K:nO)(C:nP)(f:nW):Prop:=ak K (.ref C) f=rp rq
theorem NoAttr.taker{K:nO}{C:nP}{f:nW}(n:NoAttr K C f):eM K C f=rp rq:=by
 unfold eM;rw[show ak K (.ref C) f=rp rq from n];rfl
structure zbm(K:nO)(C:nP)(m:nW)(f:nP):Prop where
 at_:ak K (.ref C) m=rp (rp (.ref f))
 fn:bp K (.ref f)=rz
 kp:aM K (.ref f)=rz
section
variable{X:Cx}{rB:List (nP × ou)}{σ:St}{H:Hp}{s:nR}{a C dx:nP}{fs:List (nW × V)}{f:nW}{v:V}{A:nX}{E:nQ->nR->Prop}
theorem Xr{b:Bool}{Q:nQ->nR->Prop}(I:Inv X rB σ H s)(e:H a=rp (.ins C dx fs))(c:Cls X.K C)(n:NoAttr X.K C f)(l:fs.lookup f=rp v)
  (h:∀u s',Inv X rB σ H s'->RelV v u->Q u s'):nV (model X.prog X.w) A (getAttr (.ref a) f b) Q E s:=by
 obtain⟨mA,O,r,_,_,_⟩:=jz I.hok e;obtain⟨u,hu,ru⟩:=RelO.some_of (v:=v) (o:=mA f) (by rw[<- l];exact r f);exact JW I.kIn O (c.get f) c.hd n hu (Wn ru) (h u _ (I.tok _) ru)
theorem xD{m:nW}{g:nP}{pl:rb Bool}{Q:nQ × List nQ->nR->Prop}(I:Inv X rB σ H s)(e:H a=rp (.ins C dx fs))(c:Cls X.K C)(k:zbm X.K C m g)(l:fs.lookup m=rq)
  (h:Q (.ref g,[.ref a]) s):nV (model X.prog X.w) A (getMethod (.ref a) m pl) Q E s:=by
 obtain⟨mA,O,r,_,_,_⟩:=jz I.hok e;have hn:mA m=rq:=RelO.none_of (by rw[<- l];exact r m);exact QB I.kIn O (c.get m) k.at_ k.fn hn h
theorem Xy{y:V}{u:nQ}{Q:Unit->nR->Prop}(I:Inv X rB σ H s)(e:H a=rp (.ins C dx fs))(c:Cls X.K C)(n:NoAttr X.K C f)(hl:fs.length<1000)(ry:RelV y u)
  (h:∀s',Inv X rB σ (upd H a (.ins C dx (km f y fs))) s'->Q Unit.unit s'):nV (model X.prog X.w) A (setAttr (.ref a) f u) Q E s:=by
 obtain⟨mA,O,r,wi,_,ho⟩:=jz I.hok e;have hz:(fs.map (·.1)).length<=nN:=by rw[ac,oh];lia
 refine KR I.kIn O c.sa c.po n.taker c.hd wi hz λh' O' sb=>h _ ?_;have hd:∃o,h'.get? dx=rp o:=let #[o,_,_,e',_]:=O'.ns; #[o,e'];refine I.write (x:=a) (e:=dx) (by rw[e];exact True.intro) (.inr ho) (λb q hb z=>(sb.2 b hb).trans z) hd ?_;refine#[by rw[zp O.ne];exact ho,?_,O.ne,O'.obj,_,O'.ns,λg=>?_,λg hg=>?_]
 ·have:=qe f y fs;lia
 ·show RelO ((km f y fs).lookup g) (if g=f then rp u else mA g);rw[qz];by_cases q:g=f
  ·rw[if_pos q,if_pos q];exact ry
  ·rw[if_neg q,if_neg q];exact r g
 ·by_cases q:g=f
  ·rw[q];exact (qc f y fs).1
  ·refine (qc f y fs).2 g (wi g λz=>hg ?_);show (if g=f then rp u else mA g)=rq;rw[if_neg q];exact z
theorem Inv.made(I:Inv X rB σ H s):Inv X rB σ (upd (upd H s⁻¹ (.own (s⁻¹+1))) (s⁻¹+1) (.ins C s⁻¹ []))
  { s with heap:=(s.heap.push bA).push (bR C s⁻¹) }:=by
 have e1:(s.heap.push bA).get? s⁻¹=rp bA:=aI s.heap rfl
 have e2:((s.heap.push bA).push (bR C s⁻¹)).get? (s⁻¹+1)=rp (bR C s⁻¹):=by
  have:=aI (s.heap.push bA) (o:=bR C s⁻¹) rfl
  rwa [dP]at this
 have e3:(s.heap.push bA).Ns s⁻¹ (λ_=>rq):=#[bA,#[],_,e1,rfl,(λe he=>absurd he (by simp)),λ_=>rfl];have I1:=I.laid (a:=s⁻¹) (o:=.own (s⁻¹+1)) (h':=s.heap.push bA) (t':=s.toks) (λb u q=>af _ q) (ao _) #[_,e1];refine I1.laid (a:=s⁻¹+1) (o:=.ins C s⁻¹ []) (t':=s.toks) (λb u q=>af _ q) (Nat.le_of_eq (dP _ _)) ?_;have ne:s⁻¹≠s⁻¹+1:=ax (Nat.lt_succ_self _);refine#[by rw[zp ne,zc],aB _,ne,e2,λ_=>rq,(Heap.Ns1.of_empty e3).at λo q=>af _ q,λ_=>True.intro,λy hy=>absurd rfl hy]
theorem zac{prog:nU}{w:nY}{env:pB}{e:nZ}{f:nW}{pos:oJ}{s:nR}{Q:nQ->nR->Prop}(hb:attributeBase e f env (eval e env)=eval e env)
  (h:nV (model prog w) A (eval e env) (λo s₁=>nV (model prog w) A (getAttr o f rz) Q E s₁) E s):nV (model prog w) A (eval (.Attribute e f pos) env) Q E s :=
 Attribute_any_ h (by rw[arm_eval_Attribute,hb])
end
def zat(K:nO)(ta:TE)(f:nW):TE:=λσ H Q=>ta σ H λx H1=>∃a C dx fs v,x=.ref a/\H1 a=rp (.ins C dx fs)/\Cls K C/\NoAttr K C f/\fs.lookup f=rp v/\Q v H1
def zct(K:nO)(ta tv:TE)(f:nW):TS:=λD σ H=>tv σ H λy H1=>ta σ H1 λx H2=>∃a C dx fs,x=.ref a/\H2 a=rp (.ins C dx fs)/\Cls K C/\NoAttr K C f/\fs.length<1000 /\
 D.nx σ (upd H2 a (.ins C dx (km f y fs)))
section
variable{X:Cx}{o e value:nZ}{f:nW}{pos pos' tpos:oJ}{ta tv:TE}
theorem Q5(he:PE X e ta)(hb:attributeBase e f X.env (eval e X.env)=eval e X.env):PE X (.Attribute e f pos) (zat X.K ta f):=by
 intro rB s σ H Q I h;refine zac hb (thn (he rB s σ H _ I h) λu s1 ⟨x,H1,I1,rx,a,C,dx,fs,v,ex,ea,c,n,l,q⟩=>?_);subst ex;obtain rfl:u=Value.ref a:=rx;exact Xr I1 ea c n l λu' s2 I2 ru=>#[v,H1,I2,ru,q]
theorem WN(ha:PE X o ta)(hv:PE X value tv)(hs:swapsWith value (rp (.Attribute o f pos')) pos.line X.env=pure rA):PS X (.Assign [.Attribute o f pos'] value pos) (zct X.K ta tv f):=by
 intro rB s σ H D I h;refine oZ (thn (hv rB s σ H _ I h) λu s1 ⟨y,H1,I1,ry,q⟩=>thn (ha rB s1 σ H1 _ I1 q) λov s2 ⟨x,H2,I2,rx,a,C,dx,fs,ex,ea,c,n,l,q2⟩=>?_) hs;subst ex;obtain rfl:ov=Value.ref a:=rx;exact Xy I2 ea c n l ry λs3 I3=>#[σ,_,I3,q2]
theorem KO{pl:rb Bool}{m:nW}{apos:oJ}{args:List nZ}{rB:List (nP × ou)}{s:nR}{σ:St}{H:Hp}{Q:nQ->nR->Prop}{te:TE}(he:PE X e te)(I:Inv X rB σ H s)
    (h:te σ H λx H1=>∃a C dx fs g,x=.ref a/\H1 a=rp (.ins C dx fs)/\Cls X.K C/\zbm X.K C m g/\fs.lookup m=rq /\
      ∀s1,Inv X rB σ H1 s1->nV (model X.prog X.w) X.A (callWith pos (.ref g) [.ref a] (om pos (nM args X.env)) (oy pos (ol [] X.env))) Q X.xe s1)
    (ht:eval (.Call (.Attribute e m apos) args [] pos) X.env=(do
      let ov <- eval e X.env
      standAt apos.atName
      let (f,first) <- holding [ov] (getMethod ov m pl)
      callWith pos f first (om pos (nM args X.env)) (oy pos (ol [] X.env)))) :
    nV (model X.prog X.w) X.A (eval (.Call (.Attribute e m apos) args [] pos) X.env) Q X.xe s:=by
  refine cb (pl:=pl) (thn (he rB s σ H _ I h) λu s1 ⟨x,H1,I1,rx,a,C,dx,fs,g,ex,ea,c,k,l,q⟩=>?_) ht;subst ex;obtain rfl:u=Value.ref a:=rx;exact xD I1 ea c k l (q s1 I1)
end
section
variable{X:Cx}{rB:List (nP × ou)}{σ:St}{H:Hp}{s:nR}{A:nX}{E:nQ->nR->Prop}{Q:nQ->nR->Prop}{c:nQ}{b:Bool}
inductive Y0(K:nO)(H:Hp):V->nQ->Prop where
 | non:Y0 K H .non (.type "NoneType")
 | bl (x:Bool):Y0 K H (.bl x) (.type "bool")
 | int (i:Int):Y0 K H (.int i) (.type "int")
 | str (x:nW):Y0 K H (.str x) (.type "str")
 | flt (x:UInt64):Y0 K H (.flt x) (.type "float")
 | lst {a:nP} {xs:List V} (e:H a=rp (.lst xs)):Y0 K H (.ref a) (.type "list")
 | frz {a:nP} {o:ou} {xs:List V} (e:H a=rp (.frz o (.lst xs))):Y0 K H (.ref a) (.type "list")
 | tup {a:nP} {xs:List V} (e:H a=rp (.tup xs)):Y0 K H (.ref a) (.type "tuple")
 | dK {a:nP} {kvs:List (Key × V)} (e:H a=rp (.dK kvs)):Y0 K H (.ref a) (.type "dict")
 | dT {a:nP} {kvs:List (List Key × V)} (e:H a=rp (.dT kvs)):Y0 K H (.ref a) (.type "dict")
 | ins {a C dx:nP} {fs:List (nW × V)} (e:H a=rp (.ins C dx fs)) (cl:Cls K C) (ha:ak K (.ref C) "__class__" = rp (rp (.builtin "object.__class__")))
   (hn:dh K (.builtin "object.__class__") "__get__" = rp (rp (.builtin "getset_descriptor.__get__"))) (htk:dB K (.builtin "object.__class__")=rp rz)
   (hm:bU K C (.type "object")=rp rz):Y0 K H (.ref a) (.ref C)
theorem W6{x:V}{u t:nQ}(I:Inv X rB σ H s)(rx:RelV x u)(ty:Y0 X.K H x t)(e:aS X.K t c=rp b)(h:∀tk,Q (.bool b) { s with toks:=tk }) :
  nV (model X.prog X.w) A (call (.builtin "isinstance") [u,c]) Q E s:=by
 cases ty with
 | non=>cases (show u=Value.none from rx);exact bg PySem.W.kitx_none I.kIn True.intro e (λz=>nomatch z) h
 | bl y=>cases (show u=Value.bool y from rx);exact bg PySem.W.kitx_bool I.kIn True.intro e (λz=>nomatch z) h
 | int i=>obtain⟨t,q⟩:=(show ∃t,u=Value.int i t from rx);cases q;exact bg PySem.W.kitx_int I.kIn True.intro e (λz=>nomatch z) h
 | str y=>obtain⟨t,q⟩:=(show ∃t,u=Value.str y t from rx);cases q;exact bg PySem.W.kitx_str I.kIn True.intro e (λz=>nomatch z) h
 | flt y=>obtain⟨t,q⟩:=(show ∃t,u=Value.float y t from rx);cases q;exact bg PySem.W.kitx_float I.kIn True.intro e (λz=>nomatch z) h
 | @lst a xs ea =>
  cases (show u=Value.ref a from rx);obtain⟨_,_,n,_,h1⟩:=(show ObjOk X.prog X.w H s.heap a (.lst xs)from I.hok a _ ea);exact bg d5 I.kIn #[_,h1,rfl] e (λz=>nomatch z) h
 | @frz a ob xs ea =>
  cases (show u=Value.ref a from rx);obtain⟨_,_,_,n,_,h1⟩:=(show ObjOk X.prog X.w H s.heap a (.frz ob (.lst xs))from I.hok a _ ea);exact bg d5 I.kIn #[_,h1,rfl] e (λz=>nomatch z) h
 | @tup a xs ea =>
  cases (show u=Value.ref a from rx);obtain⟨_,_,_,p⟩:=(show ObjOk X.prog X.w H s.heap a (.tup xs)from I.hok a _ ea);obtain⟨o,h1,h2,_⟩:=p;exact bg fw I.kIn #[o,h1,h2] e (λz=>nomatch z) h
 | @dK a kvs ea =>
  cases (show u=Value.ref a from rx);obtain⟨_,_,vs,_,p⟩:=(show ObjOk X.prog X.w H s.heap a (.dK kvs)from I.hok a _ ea);obtain⟨o,es,ep,h1,h2,_⟩:=p;exact bg fJ I.kIn #[o,h1,h2.1] e (λz=>nomatch z) h
 | @dT a kvs ea =>
  cases (show u=Value.ref a from rx);obtain⟨_,_,xs,_,o,es,ep,h1,h2,_⟩:=(show ObjOk X.prog X.w H s.heap a (.dT kvs)from I.hok a _ ea);exact bg fJ I.kIn #[o,h1,h2.1] e (λz=>nomatch z) h
 | @ins a C dx fs ea cl ha hn htk hm =>
  cases (show u=Value.ref a from rx);obtain⟨mA,O,_⟩:=jz I.hok ea;obtain⟨od,J,_⟩:=O.look;exact bg (PySem.W.kitx_own (cl.get _) cl.hd ha hn htk hm) I.kIn J e (λz=>nomatch z) h
end
structure Room(k:Nat)(A:nX):Prop where
 hd:A.handled=rq
 dp:A.depth+3 * k+5<pG
 un:A.units+16 * k+200<cLine
theorem Room.mono{j k:Nat}{A:nX}(r:Room k A)(h:j<=k):Room j A:=#[r.hd,by have:=r.dp;lia,by have:=r.un;lia]
theorem Room.deeper{k:Nat}{A:nX}(r:Room (k+1) A)(env:pB):Room k (A.deeper env) :=
 #[r.hd,by have:=r.dp;show A.depth+1+3 * k+5<_;lia,by have:=r.un;show A.units+3+16 * k+200<_;lia]
theorem Room.in1{k:Nat}{A:nX}(r:Room (k+1) A):Room k A.in1 :=
 #[r.hd,by have:=r.dp;show A.depth+3 * k+5<_;lia,by have:=r.un;show A.units+1+16 * k+200<_;lia]
theorem Xp{A:nX}{C:nP}{us:List nQ}{kw:List (nW × nQ)}:(A.under (.builtin "type.__call__" #[.ref C::us,kw])).depth=A.depth+1:=by
 first | rfl | simp [Around.under,Code.weight,Code.isCreation,Code.isGuard,Code.isCaller,Code.frames,Code.isFrame,guardIds]
theorem Xj{A:nX}{C:nP}{us:List nQ}{kw:List (nW × nQ)}:(A.under (.builtin "type.__call__" #[.ref C::us,kw])).units=A.units+1:=by
 first | rfl | simp [Around.under,Code.cUnits,Code.frames,Code.isFrame]
theorem Room.make{k:Nat}{A:nX}(r:Room (k+1) A)(C:nP)(us:List nQ)(kw:List (nW × nQ)):Room k (A.under (.builtin "type.__call__" #[.ref C::us,kw])) :=
 #[r.hd,by have:=r.dp;rw[Xp];lia,by have:=r.un;rw[Xj];lia]
theorem Room.depth{k:Nat}{A:nX}(r:Room k A):A.depth<pG:=by have:=r.dp;lia
theorem Room.units{k:Nat}{A:nX}(r:Room k A):A.units+64<cLine:=by have:=r.un;lia
def xI:TA:=λ_ H Q=>Q [] H
def zK(ta:TE)(tr:TA):TA:=λσ H Q=>ta σ H λx H1=>tr σ H1 λxs H2=>Q (x::xs) H2
section
variable{X:Cx}{e:nZ}{es:List nZ}{te:TE}{t:TA}{pos:oJ}
theorem ze:PA X [] xI:=λ_ _ _ _ H Q I h=>Calls.spliced_nil #[[],H,I,.nil,h]
theorem za(ha:PE X e te)(hr:PA X es t)(hs:nM (e::es) X.env=(rA,eval e X.env)::nM es X.env:=by rfl):PA X (e::es) (zK te t):=by
 intro pos rB s σ H Q I h;rw[hs];show nV _ _ (spliced ((rA,eval e X.env)::om pos (nM es X.env))) _ _ s;refine Calls.spliced_cons (thn (ha rB s σ H _ I h) λu s1 ⟨x,H1,I1,r1,q1⟩=>?_);exact thn (hr pos rB s1 σ H1 _ I1 q1) λus s2 ⟨xs,H2,I2,r2,q2⟩=>#[x::xs,H2,I2,.cons r1 r2,q2]
def XY(t:TA):TE:=λσ H Q=>t σ H λxs H1=>xs.length<=nN/\∀p,H1 p=rq->Q (.ref p) (upd H1 p (.tup xs))
def zbJ(t:TA):TE:=λσ H Q=>t σ H λxs H1=>xs.length<=nN/\∀p,H1 p=rq->Q (.ref p) (upd H1 p (.lst xs))
theorem zN{x1}(h:PA X es t):PE X (.Tuple es x1 pos) (XY t):=by
 intro rB s σ H Q I hq;refine wpAny_Tuple_spliced (thn (h pos rB s σ H _ I hq) λus s1 ⟨xs,H1,I1,r,z,q⟩=>#[by rw[<- r.length];exact z,?_]);have hf:H1 s1⁻¹=rq:=I1.hok.fresh (ao _);refine#[.ref s1⁻¹,upd H1 s1⁻¹ (.tup xs),I1.laid (t':=s1.toks) (λb u e=>af _ e) (ao _) ?_,rfl,q _ hf];exact#[z,us,r,#[_,aI _ rfl,rfl,_,rfl]]
theorem xz(h:PA X es t):PE X (.List es pos) (zbJ t):=by
 intro rB s σ H Q I hq;refine wpAny_List_spliced (thn (h pos rB s σ H _ I hq) λus s1 ⟨xs,H1,I1,r,z,q⟩=>#[by rw[<- r.length];exact z,?_]);have hf:H1 s1⁻¹=rq:=I1.hok.fresh (ao _);refine#[.ref s1⁻¹,upd H1 s1⁻¹ (.lst xs),I1.laid (t':=s1.toks) (λb u e=>af _ e) (ao _) ?_,rfl,q _ hf];exact#[z,us,0,r,aI _ rfl]
end
noncomputable abbrev Sp:=List V->Hp->VK->XK->Prop
noncomputable abbrev CXT:=List pB->Hp->nR->XK->nQ->nR->Prop
structure Env0(P:nU)(w:nY)(K:nO)(mg:nW->Option nQ)(base:oa)(A:nX)(outer:List pB)(s:nR)(H:Hp):Prop where
 frames:A.frames=rp outer
 mod:Mod K mg base
 bs:∀b o,base.get? b=rp o->s.heap.get? b=rp o/\H b=rq
 bsz:base.objs.size<=s⁻¹
 funs:s.heap.FunFrames base outer
 frf:∀b ∈ frs outer,H b=rq
 hok:HOk P w H s.heap
 bare:pf s.gens
def CE(outer:List pB)(P:nU)(w:nY)(H:Hp)(s:nR)(Q:VK)(u:nQ)(s':nR):Prop :=
 ∃v H',s'.os=s.os/\pf s'.gens/\Un (frs outer) [] H H' s.heap s'.heap/\HOk P w H' s'.heap/\RelV v u/\Q v H'
def CR(CX:CXT)(outer:List pB)(P:nU)(w:nY)(H:Hp)(s:nR)(Q:VK)(E:XK)(r:pJ)(s':nR):Prop :=
 match r with
 | .ok (.ret u)=>CE outer P w H s Q u s'
 | .ok _=>False
 | .error e=>CX outer H s E e s'
structure FnOk(P:nU)(w:nY)(K:nO)(mg:nW->Option nQ)(base:oa)(CX:CXT)(k:Nat)(f:nP)(fd:nS)(ps:List nW)(sp:Sp):Prop where
 len:∀vs H Q E,sp vs H Q E->vs.length=ps.length
 run:∀(A:nX) (outer:List pB) (s:nR) (H:Hp) (args:Args) (us:List nQ) (vs:List V) (Q:VK) (E:XK),Room k A->Env0 P w K mg base A outer s H->pK s fd args (ps.zip us)->Vals vs us->sp vs H Q E ->
  oR (model P w) A (.call (.ref f) args) (CR CX outer P w H s Q E) s
theorem FnOk.imp{P:nU}{w:nY}{K:nO}{mg:nW->Option nQ}{base:oa}{CX:CXT}{k:Nat}{f:nP}{fd:nS}{ps:List nW}{sp sp':Sp}(F:FnOk P w K mg base CX k f fd ps sp)
  (h:∀vs H Q E,sp' vs H Q E->sp vs H Q E):FnOk P w K mg base CX k f fd ps sp' :=
 #[λvs H Q E q=>F.len vs H Q E (h _ _ _ _ q),λA outer s H args us vs Q E hr he hb hv hs=>F.run A outer s H args us vs Q E hr he hb hv (h _ _ _ _ hs)]
theorem Env0.make{P:nU}{w:nY}{K:nO}{mg:nW->Option nQ}{base:oa}{A:nX}{outer:List pB}{s:nR}{H:Hp}(e:Env0 P w K mg base A outer s H)(C:nP)(us:List nQ)(kw:List (nW × nQ)) :
  Env0 P w K mg base (A.under (.builtin "type.__call__" #[.ref C::us,kw])) outer s H:=#[by first | exact e.frames | (simpa [Around.under,Code.envs,Code.isFrame,pushEnvs] using e.frames),e.mod,e.bs,e.bsz,e.funs,e.frf,e.hok,e.bare]
section
variable{X:Cx}{rB:List (nP × ou)}{σ:St}{H:Hp}{s s':nR}
theorem Inv.env0(I:Inv X rB σ H s):Env0 X.prog X.w X.K X.mg X.base X.A X.stack s H :=
 #[I.ok.frames,I.ok.mod,I.bs,aL I.ok.bsz I.sz,I.stack,I.stkFree,I.hok,I.bare]
theorem Inv.after{Q:VK}{u:nQ}(I:Inv X rB σ H s)(h:CE X.stack X.prog X.w H s Q u s'):EP X rB σ Q u s':=by
 obtain⟨v,H',os,bare,un,hok,r,q⟩:=h;obtain⟨hh,g,d,t,os'⟩:=s';obtain rfl:os'=s.os:=os;exact#[v,H',I.call (h':=hh) (g':=g) (d':=d) (t':=t) (ch:=[]) un hok bare (λb z=>absurd z (by simp)),r,q]
end
def uN(sp:Sp)(dvs:List V)(E:XK)(t:TA):TE:=λσ H Q=>t σ H λvs H1=>sp (vs ++ dvs) H1 Q E
def jl(C:nP)(m:nW)(sp:Sp)(dvs:List V)(E:XK)(ta:TE)(t:TA):TE:=λσ H Q=>ta σ H λx H1=>∃a dx fs,x=.ref a/\H1 a=rp (.ins C dx fs)/\fs.lookup m=rq /\
 t σ H1 λvs H2=>sp (x::(vs ++ dvs)) H2 Q E
def W9(C:nP)(sp:Sp)(dvs:List V)(E:XK)(t:TA):TE:=λσ H Q=>t σ H λvs H1=>∀x dx,H1 x=rq->H1 dx=rq->dx≠x ->
 sp (.ref x::(vs ++ dvs)) (upd (upd H1 dx (.own x)) x (.ins C dx [])) (λv H2=>v=.non/\Q (.ref x) H2) E
def Binds(K:nO)(fd:nS)(ps:List nW)(ds:List nQ):Prop :=
 ∀(s:nR) (us:List nQ),K.In s.heap->(us ++ ds).length=ps.length->pK s fd #[us,[]] (ps.zip (us ++ ds))
theorem Binds.all{K:nO}{fd:nS}{ps:List nW}(h:∀us:List nQ,us.length=ps.length->bindArgs fd #[us,[]]=pure (ps.zip us)):Binds K fd ps []:=λs us _ hl=>by
 rw[aX]at hl ⊢;exact .of_eq (h us hl)
def uh(CX:CXT)(X:Cx)(E:XK):Prop:=∀(rB:List (nP × ou)) (σ:St) (H:Hp) (s:nR) (e:nQ) (s':nR),Inv X rB σ H s->CX X.stack H s E e s'->X.xe e s'
section
variable{X:Cx}{CX:CXT}{k:Nat}{f C:nP}{fd:nS}{ps:List nW}{sp:Sp}{dvs:List V}{ds:List nQ}{E:XK}{x m:nW}{p pos apos:oJ}{e o:nZ}{es:List nZ}{ta:TE}{t:TA}
theorem kD{rB:List (nP × ou)}{σ:St}{H:Hp}{s:nR}{Q:VK}{us:List nQ}{vs:List V}(F:FnOk X.prog X.w X.K X.mg X.base CX k f fd ps sp)(hr:Room k X.A)(hb:Binds X.K fd ps ds)(hd:Vals dvs ds)(hx:uh CX X E)
  (I:Inv X rB σ H s) (r:Vals vs us) (h:sp (vs ++ dvs) H Q E):nV (model X.prog X.w) X.A (call (.ref f) us) (EP X rB σ Q) X.xe s:=by
 have r2:Vals (vs ++ dvs) (us ++ ds):=r.append hd;have hl:(us ++ ds).length=ps.length:=by rw[<- r2.length];exact F.len _ _ _ _ h
 refine oO (oQ (F.run X.A X.stack s H #[us,[]] (us ++ ds) (vs ++ dvs) Q E hr I.env0 (hb s us I.kIn hl) r2 h) λr s' hq=>?_)
 cases r with
 | error e=>exact hx rB σ H s e s' I hq
 | ok fl =>
  cases fl with
  | ret u=>exact I.after hq
  | next=>exact False.elim hq
  | brk=>exact False.elim hq
  | cont=>exact False.elim hq
theorem VS(F:FnOk X.prog X.w X.K X.mg X.base CX k f fd ps sp)(hr:Room k X.A)(hg:Gl X x)(hm:X.mg x=rp (.ref f))(hk:aM X.K (.ref f)=rz)(hb:Binds X.K fd ps ds)(hd:Vals dvs ds)(hx:uh CX X E)
  (ha:PA X (e::es) t) (hdb:(x ==("__debug__" : nW))=rA:=by decide) (he:nM (e::es) X.env=(rA,eval e X.env)::nM es X.env:=by rfl) (hpl:(om pos (nM es X.env)).any (·.1)=rA:=by rfl) :
  PE X (.Call (.Name x p) (e::es) [] pos) (uN sp dvs E t):=by
 intro rB s σ H Q I h;refine oq (wQ I hg hm ?_ hdb);refine bN (h₀:=X.base) I.ok.mod.kin hk (thn (ha pos rB s σ H _ I h) λus s1 ⟨vs,H1,I1,r,q⟩=>#[I1.kIn,?_]) he hpl;exact kD F hr hb hd hx I1 r q
theorem Ki{pl:rb Bool}(he:PE X o ta)(c:Cls X.K C)(hm:zbm X.K C m f)(F:FnOk X.prog X.w X.K X.mg X.base CX k f fd ps sp)(hr:Room k X.A)(hb:Binds X.K fd ps ds)(hd:Vals dvs ds)(hx:uh CX X E)(ha:PA X (e::es) t)
    (hst:nM (e::es) X.env=(rA,eval e X.env)::nM es X.env:=by rfl) (hpl:(om pos (nM es X.env)).any (·.1)=rA:=by rfl)
    (ht:eval (.Call (.Attribute o m apos) (e::es) [] pos) X.env=(do
      let ov <- eval o X.env
      standAt apos.atName
      let (f,first) <- holding [ov] (getMethod ov m pl)
      callWith pos f first (om pos (nM (e::es) X.env)) (oy pos (ol [] X.env))):=by rfl) :
    PE X (.Call (.Attribute o m apos) (e::es) [] pos) (jl C m sp dvs E ta t):=by
  intro rB s σ H Q I h;refine cb (pl:=pl) (thn (he rB s σ H _ I h) λu s1 ⟨x,H1,I1,rx,a,dx,fs,ex,ea,l,q⟩=>?_) ht;subst ex;obtain rfl:u=Value.ref a:=rx;refine xD I1 ea c hm l ?_;refine bN (first:=[.ref a]) (h₀:=X.base) I.ok.mod.kin hm.kp (thn (ha pos rB s1 σ H1 _ I1 q) λus s2 ⟨vs,H2,I2,r,q2⟩=>#[I2.kIn,?_]) hst hpl;exact kD (us:=.ref a::us) (vs:=.ref a::vs) F hr hb hd hx I2 (.cons rfl r) q2
theorem Uo{pl:rb Bool}(he:PE X o ta)(c:Cls X.K C)(hm:zbm X.K C m f)(F:FnOk X.prog X.w X.K X.mg X.base CX k f fd ps sp)(hr:Room k X.A)(hb:Binds X.K fd ps ds)(hd:Vals dvs ds)(hx:uh CX X E)
    (ht:eval (.Call (.Attribute o m apos) [] [] pos) X.env=(do
      let ov <- eval o X.env
      standAt apos.atName
      let (f,first) <- holding [ov] (getMethod ov m pl)
      callWith pos f first (om pos (nM [] X.env)) (oy pos (ol [] X.env))):=by rfl) :
    PE X (.Call (.Attribute o m apos) [] [] pos) (jl C m sp dvs E ta xI):=by
  intro rB s σ H Q I h;refine cb (pl:=pl) (thn (he rB s σ H _ I h) λu s1 ⟨x,H1,I1,rx,a,dx,fs,ex,ea,l,q⟩=>?_) ht;subst ex;obtain rfl:u=Value.ref a:=rx;refine xD I1 ea c hm l ?_;exact fq (first:=[.ref a]) I1.kIn hm.kp (kD (us:=[.ref a]) (vs:=[.ref a]) F hr hb hd hx I1 (.cons rfl .nil) q)
structure Mk(K:nO)(C f:nP):Prop where
 makes:cQ K C=rz
 init:ak K (.ref C) "__init__" = rp (rp (.ref f))
 fn:bp K (.ref f)=rz
 kp:aM K (.ref C)=rz
theorem UP{rB:List (nP × ou)}{σ:St}{H:Hp}{s:nR}{Q:VK}{us:List nQ}{vs:List V}(M:Mk X.K C f)(F:FnOk X.prog X.w X.K X.mg X.base CX k f fd ps sp)(hr:Room (k+1) X.A)(hb:Binds X.K fd ps ds)(hd:Vals dvs ds)
  (hx:uh CX X E) (I:Inv X rB σ H s) (r:Vals vs us)
  (h:∀x dx,H x=rq->H dx=rq->dx≠x->sp (.ref x::(vs ++ dvs)) (upd (upd H dx (.own x)) x (.ins C dx [])) (λv H2=>v=.non/\Q (.ref x) H2) E) :
  nV (model X.prog X.w) X.A (call (.ref C) us) (EP X rB σ Q) X.xe s:=by
 have hq:=h (s⁻¹+1) s⁻¹ (I.hok.fresh (cq _)) (I.hok.fresh (ao _)) (ax (Nat.lt_succ_self _));have I2:=Inv.made (C:=C) I;have r2:Vals (V.ref (s⁻¹+1)::(vs ++ dvs)) (Value.ref (s⁻¹+1)::(us ++ ds)):=.cons rfl (r.append hd)
 have hl:(Value.ref (s⁻¹+1)::us ++ ds).length=ps.length:=by
  have e:=r2.length;rw[F.len _ _ _ _ hq]at e;exact e.symm
 refine oO (Qb (f:=f) I.kIn M.makes M.init (beq_iff_eq.mp M.fn) (oQ (F.run _ X.stack _ _ #[Value.ref (s⁻¹+1)::us,[]] (Value.ref (s⁻¹+1)::(us ++ ds)) _ _ E (hr.make C us [])
  (I2.env0.make C us []) (hb _ (Value.ref (s⁻¹+1)::us) I2.kIn hl) r2 hq) λr s' hq'=>?_))
 cases r with
 | error e=>exact hx rB σ _ _ e s' I2 hq'
 | ok fl =>
  cases fl with
  | ret u =>
   obtain⟨v,H',I3,rv,ev,q3⟩:=I2.after hq';subst ev;exact#[rv,#[V.ref (s⁻¹+1),H',I3,rfl,q3]]
  | next=>exact False.elim hq'
  | brk=>exact False.elim hq'
  | cont=>exact False.elim hq'
theorem Vl(M:Mk X.K C f)(F:FnOk X.prog X.w X.K X.mg X.base CX k f fd ps sp)(hr:Room (k+1) X.A)(hg:Gl X x)(hm:X.mg x=rp (.ref C))(hb:Binds X.K fd ps ds)(hd:Vals dvs ds)(hx:uh CX X E)
  (ha:PA X (e::es) t) (hdb:(x ==("__debug__" : nW))=rA:=by decide) (he:nM (e::es) X.env=(rA,eval e X.env)::nM es X.env:=by rfl) (hpl:(om pos (nM es X.env)).any (·.1)=rA:=by rfl) :
  PE X (.Call (.Name x p) (e::es) [] pos) (W9 C sp dvs E t):=by
 intro rB s σ H Q I h;refine oq (wQ I hg hm ?_ hdb);refine bN (h₀:=X.base) I.ok.mod.kin M.kp (thn (ha pos rB s σ H _ I h) λus s1 ⟨vs,H1,I1,r,q⟩=>#[I1.kIn,?_]) he hpl;exact UP M F hr hb hd hx I1 r q
end
def PK(X:Cx)(kws:List rd)(t:TA):Prop :=
 ∀(pos:oJ) (rB:List (nP × ou)) (s:nR) (σ:St) (H:Hp) (Q:List V->Hp->Prop),Inv X rB σ H s->t σ H Q->nV (model X.prog X.w) X.A (evalAll ((oy pos (ol kws X.env)).map (·.2))) (AP X rB σ Q) X.xe s
section
variable{X:Cx}{CX:CXT}{k:Nat}{f C:nP}{fd:nS}{ps ks:List nW}{sp:Sp}{E:XK}{x m:nW}{p pos apos kpos:oJ}{e o:nZ}{es:List nZ}{kws:List rd}{te ta:TE}{t tk:TA}{nm:Option nW}
theorem Ja:PK X [] xI:=λ_ _ _ _ H Q I h=>wpAny_evalAll_nil #[[],H,I,.nil,h]
theorem Wa(ha:PE X e te)(hr:PK X kws t):PK X (#[nm,e,kpos]::kws) (zK te t):=by
 intro pos rB s σ H Q I h;show nV _ _ (evalAll ((do let v <- eval e X.env;standAt pos;pure v)::(oy pos (ol kws X.env)).map (·.2))) _ _ s;refine wpAny_evalAll_cons (nI (thn (ha rB s σ H _ I h) λu s1 ⟨x,H1,I1,r1,q1⟩=>nI (oF (nJ ?_))));exact thn (hr pos rB s1 σ H1 _ I1 q1) λus s2 ⟨xs,H2,I2,r2,q2⟩=>#[x::xs,H2,I2,.cons r1 r2,q2]
variable{g:List nQ->List nQ->List nQ}{gV:List V->List V->List V}
end
structure zo(N P:List nW)(sc:oB):Prop where
 kind:sc.kind=.function
 co:sc.isCoroutine=rA
 gen:sc.isGenerator=rA
 nd:N.Nodup
 pre:N.take P.length=P
 par:∀x ∈ P,sc.names.lookup x=rp .local\/sc.names.lookup x=rp .cell
 nofree:∀y ∈ sc.names,y.2≠.free
theorem kO{kindOf:nW->Option pi}{x:nW}:∀{binds:List (nW × nQ)} {m:nW->Option nQ},(∀v,(x,v) ∉ binds)->bindL kindOf binds m x=m x
  | [],_,_=>rfl
  | (n,v)::r,m,h=>by
    unfold bindL;rw[kO λw hw=>h w (ar _ hw)];split
    . have:x≠n:=by rintro rfl;exact h v az
      simp [this]
    . rfl
theorem kJ{kindOf:nW->Option pi}{x:nW}:∀{binds:List (nW × nQ)} {m:nW->Option nQ},(∀v,(x,v) ∉ binds)->bindC kindOf binds m x=m x
  | [],_,_=>rfl
  | (n,v)::r,m,h=>by
    unfold bindC;rw[kJ λw hw=>h w (ar _ hw)];split
    . rfl
    . have:x≠n:=by rintro rfl;exact h v az
      simp [this]
theorem Zl{kindOf:nW->Option pi}{x:nW}{v:nQ}:∀{P:List nW} {vs:List nQ} {i:Nat} {m:nW->Option nQ},P.Nodup->P[i]? = rp x->vs[i]? = rp v->kindOf x=rp .local ->
  bindL kindOf (P.zip vs) m x=rp v
 | [],_,_,_,_,h,_,_=>by simp at h
 | _::_,[],_,_,_,_,h,_=>by simp at h
 | p::P,w::vs,0,m,nd,h1,h2,hk=>by
  simp at h1 h2;subst h1;subst h2;show bindL kindOf ((p,w)::P.zip vs) m p=_;unfold bindL;rw[kO λv hv=>(rR.mp nd).1 (cS hv).1,if_pos hk];simp
 | p::P,w::vs,i+1,m,nd,h1,h2,hk=>by
  show bindL kindOf ((p,w)::P.zip vs) m x=_;unfold bindL;exact Zl (i:=i) (rR.mp nd).2 (by simpa using h1) (by simpa using h2) hk
theorem kM{kindOf:nW->Option pi}{x:nW}{v:nQ}:∀{P:List nW} {vs:List nQ} {i:Nat} {m:nW->Option nQ},P.Nodup->P[i]? = rp x->vs[i]? = rp v->kindOf x≠rp .local ->
  bindC kindOf (P.zip vs) m x=rp v
 | [],_,_,_,_,h,_,_=>by simp at h
 | _::_,[],_,_,_,_,h,_=>by simp at h
 | p::P,w::vs,0,m,nd,h1,h2,hk=>by
  simp at h1 h2;subst h1;subst h2;show bindC kindOf ((p,w)::P.zip vs) m p=_;unfold bindC;rw[kJ λv hv=>(rR.mp nd).1 (cS hv).1,if_neg hk];simp
 | p::P,w::vs,i+1,m,nd,h1,h2,hk=>by
  show bindC kindOf ((p,w)::P.zip vs) m x=_;unfold bindC;exact kM (i:=i) (rR.mp nd).2 (by simpa using h1) (by simpa using h2) hk
noncomputable def start(N:List nW)(vs:List V):St:=vs.map rp ++ aJ (N.length - vs.length) rq
noncomputable def ux(CX:CXT)(P:nU)(w:nY)(K:nO)(mg:nW->Option nQ)(base:oa)(N:List nW)(qual:nW)(scope:oB)(f:nP)(cd:nQ)(A:nX)(outer:List pB)(s:nR)(H:Hp)(E:XK):Cx where
 prog:=P
 w:=w
 K:=K
 mg:=mg
 base:=base
 A:=A.deeper (oU qual scope s⁻¹ f cd)
 N:=N
 s₀:=s
 H₀:=H
 env:=oU qual scope s⁻¹ f cd
 outer:=outer
 stack:=oU qual scope s⁻¹ f cd::outer
 ex:=[]
 calm:=rz
 fn:=λ_=>rz
 pn:=[]
 xe:=λe s'=>nV (model P w) (A.deeper (oU qual scope s⁻¹ f cd)) (leaving (oU qual scope s⁻¹ f cd) e) (λ_ s''=>CX outer H s E e s'') (λe' s''=>CX outer H s E e' s'') s'
theorem YR{sc:oB}{n:Nat}{x:nW}(h:sc.names.lookup x=rp .cell):∃c,(cellsFrom n sc.names []).lookup x=rp c:=by
 have q:=eQ sc.names n [] (.inl h);exact rS.mp q
theorem Vg{CX:CXT}{P:nU}{w:nY}{K:nO}{mg:nW->Option nQ}{base:oa}{N ps:List nW}{qual:nW}{scope:oB}{f:nP}{cd:nQ}{A:nX}{outer:List pB}{s s1:nR}{H:Hp}{E:XK}{us:List nQ}{vs:List V}
  (S:zo N ps scope) (hd:A.handled=rq) (e0:Env0 P w K mg base A outer s H) (hl:vs.length=ps.length) (r:Vals vs us)
  (x:InCallC s s⁻¹ (bindL (oU qual scope s⁻¹ f cd).kindOf (ps.zip us) λ_=>rq) (cellsFrom (s⁻¹+1) scope.names []) (bindC (oU qual scope s⁻¹ f cd).kindOf (ps.zip us) λ_=>rq) s1) :
  Inv (ux CX P w K mg base N qual scope f cd A outer s H E) [] (start N vs) H s1:=by
 have hpl:ps.length<=N.length:=by have:=congrArg fL S.pre;rw[aF]at this;lia
 obtain⟨h1,tk,rfl,hk⟩:=x.done;have noA:∀b:nP,b ∉ (ux CX P w K mg base N qual scope f cd A outer s H E).ex:=λb z=>absurd (show b ∈ ([]:List nP)from z) (by simp)
 refine#[#[e0.mod,S.kind,rfl,rfl,ao _,λy z c h1 h2=>?_,λy hy=>?_,λy c _ h=>?_,λ_=>hd,Around.frames_deeper e0.frames,.inr #[rfl,rfl],λb z=>absurd z (noA b),e0.bs,e0.bsz,λb _ _=>noA b,λb z=>absurd z (noA b),e0.funs,e0.frf],
  rfl,e0.bare,Un.kept hk,#[_,x.toInCall.ns,λi y v h1 h2 h3=>?_],λy c h=>#[_,x.cell y c h],e0.hok.fresh (ao _),λy c h=>?_,λp hp=>absurd (show p ∈ ([]:List (nP × ou))from hp) (by simp),e0.hok.kept hk,?_]
 ·exact name_of_addr x.apart (bK h1) (bK h2)
 ·have hy:scope.names.lookup y=rp .cell\/scope.names.lookup y=rp .free:=hy;rcases hy with hy | hy
  ·exact YR hy
  ·exact absurd rfl (S.nofree _ (bK hy))
 ·exact da (x.above y c (bK h))
 ·have hi:i<vs.length:=by
   unfold start at h2;by_cases hi:i<vs.length
   ·exact hi
   ·rw[ci (by simpa using hi)]at h2;rw[eJ]at h2;split at h2 <;> cases h2
  have ha:vs[i]? = rp v:=by
   unfold start at h2;rw[cT (by simpa using hi),ay]at h2
   cases e:vs[i]? with
   | none=>rw[e]at h2;cases h2
   | some a=>rw[e]at h2;cases h2;rfl
  obtain⟨u,hu,rv⟩:=r.get ha
  have hp:ps[i]? = rp y:=by
   rw[<- S.pre,db ⋯];exact h1
  have ndP:ps.Nodup:=by rw[<- S.pre];exact S.nd.sublist (List.take_sublist _ _)
  refine#[u,rv,?_];rcases S.par y (ag hp)with k | k
  ·exact .inl #[k,Zl ndP hp hu k]
  ·obtain⟨c,e⟩:=YR (n:=s⁻¹+1) k;refine .inr #[.inl k,c,e,?_];have q:=x.cell y c e;rw[kM ndP hp hu (by show scope.names.lookup y≠_;rw[k];decide)]at q;exact q
 ·exact e0.hok.fresh (da (x.above y c (bK h)))
 ·unfold start;show _=N.length;rw[am,ac,bE];lia
theorem Qu{CX:CXT}{P:nU}{w:nY}{K:nO}{mg:nW->Option nQ}{base:oa}{k:Nat}{f:nP}{name qual:nW}{params:oW}{body:List oj}{scope:oB}{dV kV doc pm cdv ct oc:nQ}{an od:Option nP}
  {osl:Array (Option nQ)} {N ps:List nW} {sp:Sp} (lk:K.lookup f=rp #[oc,od,.func (bq name qual params body scope dV kV doc pm an cdv ct),osl]) (hcd:bH K cdv qual=rz) (S:zo N ps scope)
  (len:∀vs H Q E,sp vs H Q E->vs.length=ps.length)
  (hbody:∀(A:nX) (outer:List pB) (s:nR) (H:Hp) (vs:List V) (Q:VK) (E:XK),Room k (A.deeper (oU qual scope s⁻¹ f cdv))->sp vs H Q E ->
   ∃t,PSs (ux CX P w K mg base N qual scope f cdv A outer s H E) body t/\t { nx:=λ_ H'=>Q .non H',rt:=Q } (start N vs) H) :
  FnOk P w K mg base CX (k+1) f (bq name qual params body scope dV kV doc pm an cdv ct) ps sp:=by
 refine#[len,λA outer s H args us vs Q E hr e0 hb r hsp=>?_];have hl:=len _ _ _ _ hsp;have KX:K.In s.heap:=e0.mod.kin.keeps λb o e=>(e0.bs b o e).1;have lim:s.heap.NoLimit:=e0.mod.nolimit.keeps λb o e=>(e0.bs b o e).1
 have hkind:∀y ∈ ps.zip us,scope.names.lookup y.1=rp .local\/(scope.names.lookup y.1=rp .cell/\((cellsFrom (s⁻¹+1) scope.names []).lookup y.1).isSome=rz):=λ⟨n,v⟩ hy=>by
  rcases S.par n (cS hy).1 with q | q
  ·exact .inl q
  ·exact .inr #[q,eQ _ _ _ (.inl q)]
 refine codeAny_call_function hr.depth (KX _ _ lk) rfl S.co S.gen rfl (PySem.W.codeRec_of KX hcd) (hb _ _ _ _ ?_);refine wpAny_newFunctionEnv_cells S.kind hkind λenv he s1 x=>?_;subst he;refine#[lim.keeps x.toInCall.keep,codeAny_func ?_];obtain⟨t,ht,hq⟩:=hbody A outer s H vs Q E (hr.deeper _) hsp;have I:Inv (ux CX P w K mg base N qual scope f cdv A outer s H E) [] (start N vs) H s1:=Vg S hr.hd e0 hl r x;refine oH (ht [] s1 (start N vs) H _ I hq) (λfl s' hs=>?_) λe s' hs=>hs
 have fin:∀{σ':St} {H':Hp} {v:V} {u:nQ},Inv (ux CX P w K mg base N qual scope f cdv A outer s H E) [] σ' H' s'->RelV v u->Q v H'->CE outer P w H s Q u s' :=
  λ{σ' H' v u} J rv q=>#[v,H',J.os,J.bare,J.base,J.hok,rv,q]
 cases fl with
 | ret u =>
  obtain⟨v,σ',H',J,rv,q⟩:=hs;exact fin J rv q
 | next =>
  obtain⟨σ',H',J,q⟩:=hs;exact fin (v:=V.non) (u:=Value.none) J rfl q
 | brk =>
  obtain⟨_,_,_,q⟩:=hs;exact False.elim q
 | cont =>
  obtain⟨_,_,_,q⟩:=hs;exact False.elim q
section
variable{X:Cx}{x:nW}{p pos:oJ}{e:nZ}{es:List nZ}{t:TA}{id T:String}{r:List V->Hp->VK->Prop}
def tCB(r:List V->Hp->VK->Prop)(t:TA):TE:=λσ H Q=>t σ H λvs H1=>r vs H1 Q
theorem yM(hc:vz X (.builtin id) r)(hg:Gl X x)(hm:X.mg x=rq)(hv:ow x=rp (.builtin id))(ha:PA X (e::es) t)(hn:x≠"__name__":=by decide)(hdb:(x ==("__debug__" : nW))=rA:=by decide)
  (he:nM (e::es) X.env=(rA,eval e X.env)::nM es X.env:=by rfl) (hpl:(om pos (nM es X.env)).any (·.1)=rA:=by rfl):PE X (.Call (.Name x p) (e::es) [] pos) (tCB r t):=by
 intro rB s σ H Q I h;refine oq (vx I hg hm hv ?_ hn hdb);exact PyProof.Rows.callWith_builtin1 (thn (ha pos rB s σ H _ I h) λus s1 ⟨vs,H1,I1,r1,q1⟩=>hc rB s1 σ H1 vs us Q I1 r1 q1) he hpl
theorem vC(hc:vz X (.type T) r)(hg:Gl X x)(hm:X.mg x=rq)(hv:ow x=rp (.type T))(ha:PA X (e::es) t)(hn:x≠"__name__":=by decide)(hdb:(x ==("__debug__" : nW))=rA:=by decide)
  (he:nM (e::es) X.env=(rA,eval e X.env)::nM es X.env:=by rfl) (hpl:(om pos (nM es X.env)).any (·.1)=rA:=by rfl):PE X (.Call (.Name x p) (e::es) [] pos) (tCB r t):=by
 intro rB s σ H Q I h;refine oq (vx I hg hm hv ?_ hn hdb);exact bJ (thn (ha pos rB s σ H _ I h) λus s1 ⟨vs,H1,I1,r1,q1⟩=>hc rB s1 σ H1 vs us Q I1 r1 q1) he hpl
end
end L2
namespace HT
open PySem PyProof.Rows
section
open PySem.SeqAt
open PySem.AutoSeq1 (wpAny_loadPart')
open PySem.MeetsSeq PySem.MeetsSeq2 PySem.MeetsSeq3
end
section
variable{prog:nU}{w:nY}{A:nX}{E:nQ->nR->Prop}{s:nR}
noncomputable def sIx(n d:Nat):Option Int->Nat
 | none=>d
 | some v=>if v<0 then (v+(n:Int)).toNat else min v.toNat n
theorem sIx_none(n d:Nat):sIx n d rq=d:=rfl
theorem sIx_nat(n d k:Nat):sIx n d (rp (k:Int))=min k n:=by
 show (if (k:Int)<0 then ((k:Int)+(n:Int)).toNat else min (k:Int).toNat n)=min k n;rw[if_neg ⋯,aP]
theorem sIx_le(n d:Nat)(hd:d<=n)(o:Option Int):sIx n d o<=n:=by
 cases o with
 | none=>exact hd
 | some v =>
  show (if v<0 then (v+(n:Int)).toNat else min v.toNat n)<=n;by_cases hv:v<0
  ·rw[if_pos hv];lia
  ·rw[if_neg hv];exact Nat.min_le_right _ _
end
end HT
namespace L2
noncomputable abbrev TO:=St->Hp->(Option Int->Hp->Prop)->Prop
def PO(X:Cx)(e:Option nZ)(t:TO):Prop :=
 ∀(rB:List (nP × ou)) (s:nR) (σ:St) (H:Hp) (Q:Option Int->Hp->Prop),Inv X rB σ H s->t σ H Q ->
  nV (model X.prog X.w) X.A (evalPart e X.env) (λu s'=>∃o H',Inv X rB σ H' s'/\IsPart u o/\Q o H') X.xe s
def jI:TO:=λ_ H Q=>Q rq H
def Qi(t:TE):TO:=λσ H Q=>t σ H λx H1=>onInt x λi=>Q (rp i) H1
section
variable{X:Cx}{e:nZ}{te:TE}{lo hi:Option nZ}{tl th:TO}{pos p2:oJ}
theorem yZ:PO X rq jI:=by
 intro rB s σ H Q I h;rw[evalPart_none];exact nJ #[rq,H,I,.none,h]
theorem z9(h:PE X e te):PO X (rp e) (Qi te):=by
 intro rB s σ H Q I hw;rw[evalPart_some];refine thn (h rB s σ H _ I hw) λu s1 ⟨x,H1,I1,r1,q1⟩=>?_;obtain⟨i,rfl,q⟩:=onInt.of q1;obtain⟨t,rfl⟩:=r1;exact#[rp i,H1,I1,.int i t,q]
def SlR(X:Cx)(r:V->Option Int->Option Int->Hp->VK->Prop):Prop :=
 ∀(rB:List (nP × ou)) (s:nR) (σ:St) (H:Hp) (x:V) (v vl vu:nQ) (lo hi:Option Int) (sl:nP) (Q:VK),Inv X rB σ H s->RelV x v->s.heap.IsSliceOf sl vl vu .none->IsPart vl lo->IsPart vu hi->r x lo hi H Q ->
  ∃T id,typeLookup (.type T) "__getitem__" = pure (rp (.builtin id))/\s.TypeIs v T/\nV (model X.prog X.w) X.A (getItem v (.ref sl)) (EP X rB σ Q) X.xe s
def tSl(r:V->Option Int->Option Int->Hp->VK->Prop)(te:TE)(tl th:TO):TE:=λσ H Q=>te σ H λx H1=>tl σ H1 λl H2=>th σ H2 λu H3=>r x l u H3 Q
theorem z6{r:V->Option Int->Option Int->Hp->VK->Prop}(hr:SlR X r)(he:PE X e te)(hl:PO X lo tl)(hu:PO X hi th):PE X (.Subscript e (.Slice lo hi rq p2) pos) (tSl r te tl th):=by
 intro rB s σ H Q I h;refine rg (thn (he rB s σ H _ I h) λv s1 ⟨x,H1,I1,r1,q1⟩=>?_);refine wpAny_Slice (thn (hl rB s1 σ H1 _ I1 q1) λvl s2 ⟨l,H2,I2,pl,q2⟩=>thn (hu rB s2 σ H2 _ I2 q2) λvu s3 ⟨u,H3,I3,pu,q3⟩=>?_);rw[evalPart_none];refine nJ ?_;have I4:Inv X rB σ H3 { s3 with heap:=s3.heap.push { cls:=.type "slice",data:=.fields (List.toArray [vl,vu,.none]) } }:=I3.kept (t':=s3.toks) λb ob q=>af _ q;obtain⟨T,id,hT,ht,hg⟩:=hr rB { s3 with heap:=s3.heap.push { cls:=.type "slice",data:=.fields (List.toArray [vl,vu,.none]) } } σ H3 x v vl vu l u s3⁻¹ Q I4 r1 (Heap.IsSliceOf.new ..) pl pu q3;show nV (model X.prog X.w) X.A (pM e (.Slice lo hi rq p2) v (.ref s3⁻¹)) (EP X rB σ Q) X.xe { s3 with heap:=s3.heap.push { cls:=.type "slice",data:=.fields (List.toArray [vl,vu,.none]) } };exact tail_any (ops:=[.ref s3⁻¹,v]) ht hT hg (by with_unfolding_all rfl)
noncomputable def QO(xs:List V)(lo hi:Option Int):List V:=(xs.drop (HT.sIx xs.length 0 lo)).take (HT.sIx xs.length xs.length hi - HT.sIx xs.length 0 lo)
theorem ZD(xs:List V)(lo hi:Option Int):(QO xs lo hi).length<=xs.length:=by
 unfold QO;rw[aF,aZ];lia
end
noncomputable def ixN(n:Nat)(i:Int):Option Nat:=if 0<=i then (if i<n then rp i.toNat else rq)else if -(n:Int)<=i then rp (i+n).toNat else rq
noncomputable def atI{α:Type}(xs:List α)(i:Int):Option α:=(ixN xs.length i).bind λj=>xs[j]?
theorem KD{n:Nat}{i:Int}{j:Nat}(h:ixN n i=rp j):seqIndex? i n=rp j/\j<n/\-(n:Int)<=i/\i<n:=by
 unfold ixN at h;by_cases h0:0<=i
 ·rw[if_pos h0]at h;by_cases h1:i<n
  ·rw[if_pos h1]at h;have e:i.toNat=j:=Option.some.inj h;exact#[by rw[seqIndex_of h0 h1,e],⋯,⋯,h1]
  ·rw[if_neg h1]at h;cases h
 ·rw[if_neg h0]at h;by_cases h1:-(n:Int)<=i
  ·rw[if_pos h1]at h;have e:(i+n).toNat=j:=Option.some.inj h;exact#[by rw[seqIndex_neg ⋯ h1,e],⋯,h1,⋯]
  ·rw[if_neg h1]at h;cases h
theorem Z2{α:Type}{xs:List α}{i:Int}{v:α}(h:atI xs i=rp v):∃j,seqIndex? i xs.length=rp j/\xs[j]? = rp v/\j<xs.length/\-(xs.length:Int)<=i/\i<xs.length:=by
 unfold atI at h
 cases e:ixN xs.length i with
 | none=>rw[e]at h;cases h
 | some j =>
  rw[e]at h;obtain⟨h1,h2,h3,h4⟩:=KD e;exact#[j,h1,h,h2,h3,h4]
theorem ZW{α:Type}{xs:List α}{j:Nat}{v:α}(h:xs[j]? = rp v):atI xs (j:Int)=rp v:=by
 have hj:j<xs.length:=(rG.mp h).1
 have e:ixN xs.length (j:Int)=rp j:=by
  unfold ixN;rw[if_pos ⋯,if_pos ⋯];simp
 unfold atI;rw[e];exact h
def Wo(b:nZ):Prop:=∀o i,subscripted b rA o i=operate [o,i] (getItem o i)
def IxR(X:Cx)(r:R2):Prop :=
 ∀(value slice:nZ) (rB:List (nP × ou)) (s:nR) (σ:St) (H:Hp) (x y:V) (v u:nQ) (Q:VK),Inv X rB σ H s->RelV x v->RelV y u->r x y H Q ->
  subscripted slice rA v u=operate [v,u] (getItem v u)->nV (model X.prog X.w) X.A (pM value slice v u) (EP X rB σ Q) X.xe s
def MtR(X:Cx)(id:String)(r:V->List V->Hp->VK->Prop):Prop :=
 ∀(rB:List (nP × ou)) (s:nR) (σ:St) (H:Hp) (x:V) (xs:List V) (v:nQ) (us:List nQ) (Q:VK),Inv X rB σ H s->RelV x v->Vals xs us->r x xs H Q ->
  nV (model X.prog X.w) X.A (call (.builtin id) (v::us)) (EP X rB σ Q) X.xe s
section
variable{X:Cx}{a b:nZ}{ta tb:TE}{pos:oJ}
theorem IxR.or{r r':R2}(h:IxR X r)(h':IxR X r'):IxR X (λx y H Q=>r x y H Q\/r' x y H Q):=by
 intro value slice rB s σ H x y v u Q I rx ry q hs;rcases q with q | q
 ·exact h value slice rB s σ H x y v u Q I rx ry q hs
 ·exact h' value slice rB s σ H x y v u Q I rx ry q hs
theorem zcZ{r:R2}(hr:IxR X r)(ha:PE X a ta)(hb:PE X b tb)(hs:Wo b):PE X (.Subscript a b pos) (tOp r ta tb):=by
 intro rB s σ H Q I h;exact rg (zc2 ha hb I h λv u s2 x y H2 I2 rx ry q=>hr a b rB s2 σ H2 x y v u Q I2 rx ry q (hs _ _))
def zak(K:nO):R2:=λx y H Q=>onRef x λp=>onInt y λi=>∃xs,SqL K H p xs/\∃v,atI xs i=rp v/\Q v H
def wV(K:nO):R2:=λx y H Q=>onRef x λp=>onInt y λi=>∃xs,SqT K H p xs/\∃v,atI xs i=rp v/\Q v H
def Jm:R2:=λx y H Q=>onStr x λz=>onInt y λi=>z.length<=nN/\∃c,atI z.cps.toList i=rp c/\Q (.str ⟨#[c]⟩) H
theorem ix_list:IxR X (zak X.K):=by
 intro value slice rB s σ H x y v u Q I rx ry h hs;obtain⟨p,rfl,h2⟩:=onRef.of h;obtain⟨i,rfl,xs,hq,z,he,q⟩:=onInt.of h2;cases rx;obtain⟨t,rfl⟩:=ry;obtain⟨its,r,pl,hz⟩:=I.list hq;obtain⟨j,h1,h2,h3,h4,h5⟩:=Z2 he;obtain⟨w,ew,rw'⟩:=r.get h2;have hl:=r.length;have hn:=Zk;have fin:EP X rB σ Q w s:=#[z,H,I,rw',q];by_cases h0:0<=i
 ·have hj:i.toNat=j:=by
   rw[seqIndex_of h0 h5]at h1;exact Option.some.inj h1
  exact item_listR pl.isList h0 ⋯ (by rw[hj];simpa using ew) fin hs
 ·have hj:(i+(its.toArray.size:Int)).toNat=j:=by
   rw[seqIndex_neg ⋯ h4]at h1;rw[ah,<- hl];exact Option.some.inj h1
  exact pz (x:=w) pl.isList.typeIs slot_list_getitem.lookup
   (wpAny_getItem_list_neg (Q:=λr s'=>r=w/\EP X rB σ Q r s') pl.isList ⋯ (by rw[ah] <;> lia) ⋯ (by rw[hj];simpa using ew) #[rfl,fin]) hs
theorem ix_tup:IxR X (wV X.K):=by
 intro value slice rB s σ H x y v u Q I rx ry h hs;obtain⟨p,rfl,h2⟩:=onRef.of h;obtain⟨i,rfl,xs,hq,z,he,q⟩:=onInt.of h2;cases rx;obtain⟨t,rfl⟩:=ry;obtain⟨its,r,pl,hz⟩:=I.tuple hq;obtain⟨j,h1,h2,h3,h4,h5⟩:=Z2 he;obtain⟨w,ew,rw'⟩:=r.get h2;have hl:=r.length;have hn:=Zk;have fin:EP X rB σ Q w s:=#[z,H,I,rw',q]
 exact pz (x:=w) pl.typeIs slot_tuple_getitem.lookup
  (getItem_tuple (j:=j) (Q:=λr s'=>r=w/\EP X rB σ Q r s') pl ⋯ ⋯ (by rw[ah,<- hl];exact h1) (by simpa using ew) #[rfl,fin]) hs
theorem xY:IxR X Jm:=by
 intro value slice rB s σ H x y v u Q I rx ry h hs;obtain⟨z,rfl,h2⟩:=onStr.of h;obtain⟨i,rfl,hz,c,he,q⟩:=onInt.of h2;obtain⟨t,rfl⟩:=rx;obtain⟨t',rfl⟩:=ry;obtain⟨j,h1,h2,h3,h4,h5⟩:=Z2 he;have hl:z.cps.toList.length=z.length:=by simp [Str.length]
 rw[hl]at h1 h4 h5;have hn:=Zk
 exact tail_any (typeIs_str s z t) slot_str_getitem.lookup (getItem_str (c:=c) (by
  have e1:decide (i < -(2 ^ 63:Int))=rA:=decide_eq_false ⋯;have e2:decide (i ≥ 2 ^ 63)=rA:=decide_eq_false ⋯
  rw[e1,e2,Bool.or_false]) (by rw[h1];simpa using h2) #[.str ⟨#[c]⟩,H,I.tok _,#[_,rfl],q]) hs
def rIx(K:nO):R2:=λx y H Q=>match x with | .ref p=>onInt y λi=>(∃xs,SqL K H p xs/\∃v,atI xs i=rp v/\Q v H)\/∃xs,SqT K H p xs/\∃v,atI xs i=rp v/\Q v H | .str z=>Jm (.str z) y H Q | _=>False
theorem rIx.of{K:nO}{x y:V}{H:Hp}{Q:VK}(h:rIx K x y H Q):zak K x y H Q\/wV K x y H Q\/Jm x y H Q:=by
 unfold rIx at h;cases x <;> first | exact .inr (.inr h) | (obtain⟨i,rfl,h⟩:=onInt.of h;exact h.elim .inl λh=>.inr (.inl h)) | exact h.elim
theorem za0:IxR X (rIx X.K):=λa b rB s σ H x y v u Q I rx ry h hs=>(ix_list.or (ix_tup.or xY)) a b rB s σ H x y v u Q I rx ry h.of hs
theorem Inv.lst{rB:List (nP × ou)}{σ:St}{H:Hp}{s:nR}{p:nP}{xs:List V}(I:Inv X rB σ H s)(h:H p=rp (.lst xs)) :
  ∃(its:List nQ) (n:Nat),Vals xs its/\s.heap.get? p=rp { cls:=.type "list",data:=.seq its.toArray n }/\xs.length<=nN:=by
 obtain⟨z,its,n,r,e⟩:=I.hok p _ h;exact#[its,n,r,e,z]
theorem Zb(lo hi:Option Int)(n:Nat):(sliceBounds lo hi rq n).1=((HT.sIx n 0 lo:Nat):Int)/\(sliceBounds lo hi rq n).2.1=((HT.sIx n n hi:Nat):Int)/\(sliceBounds lo hi rq n).2.2=1:=by
 refine#[?_,?_,rfl]
 ·cases lo with
  | none=>simp [sliceBounds,HT.sIx]
  | some i =>
   erw[sliceBounds,HT.sIx,fN,show (1:Int) > 0 by decide,if_true]
   by_cases h:i<0
   ·erw[h,if_true] <;> lia
   ·erw[h,if_false] <;> lia
 ·cases hi with
  | none=>simp [sliceBounds,HT.sIx]
  | some i =>
   erw[sliceBounds,HT.sIx,fN,show (1:Int) > 0 by decide,if_true]
   by_cases h:i<0
   ·erw[h,if_true] <;> lia
   ·erw[h,if_false] <;> lia
theorem jv(its:List nQ)(lo hi:Option Int):slicePick its.toArray lo hi rq=((its.drop (HT.sIx its.length 0 lo)).take (HT.sIx its.length its.length hi - HT.sIx its.length 0 lo)).toArray:=by
 obtain⟨h1,h2,h3⟩:=Zb lo hi its.toArray.size;unfold slicePick;rw[h1,h2,h3]
 erw[sliceRange_one,pick_run,ah] <;> rfl
def zbY(K:nO):V->Option Int->Option Int->Hp->VK->Prop:=λx lo hi H Q=>onRef x λa=>∃xs,SqL K H a xs/\∀p,H p=rq->Q (.ref p) (upd H p (.lst (QO xs lo hi)))
theorem jr:SlR X (zbY X.K):=by
 intro rB s σ H x v vl vu lo hi sl Q I rx hs pl pu h;obtain⟨a,rfl,xs,hx,q⟩:=onRef.of h;cases rx;obtain⟨its,r,ht,hz⟩:=I.list hx;have hlen:=r.length;refine#["list",_,slot_list_getitem.lookup,ht.isList.typeIs,?_];refine wpAny_getItem_list_slice ht.isList hs pl pu .none (by simp) ?_ (by rw[ah] <;> lia);rw[jv,<- hlen];refine#[.ref s⁻¹,_,I.laid (t':=s.toks) (o:=.lst (QO xs lo hi)) (λb ob q=>af _ q) (ao _) ?_,rfl,q _ (I.hok.fresh (ao _))];exact#[aL (ZD xs lo hi) hz,_,0,(r.drop (HT.sIx xs.length 0 lo)).take (HT.sIx xs.length xs.length hi - HT.sIx xs.length 0 lo),aI _ rfl]
noncomputable def zbd:V->Bool
 | .non=>rz
 | .bl _=>rz
 | .int _=>rz
 | .str _=>rz
 | _=>rA
noncomputable def eqV:V->V->Bool
 | .non,.non=>rz
 | .bl a,.bl b=>a == b
 | .bl a,.int b=>(if a then 1 else 0) == b
 | .int a,.bl b=>a ==(if b then 1 else 0)
 | .int a,.int b=>a == b
 | .str a,.str b=>a == b
 | _,_=>rA
theorem Xd{A:nX}{s:nR}{y x:V}{u v:nQ}(ry:RelV y u)(rx:RelV x v)(fy:zbd y=rz)(fx:zbd x=rz):SeqAt.EqAt A s u v (eqV y x):=by
 cases y with
 | non =>
  cases ry
  cases x with
  | non=>cases rx;exact SeqAt.EqAt.same _
  | bl b=>cases rx;exact SeqAt.EqAt.none_bool b
  | int b=>obtain⟨t,rfl⟩:=rx;exact SeqAt.EqAt.none_int b t
  | str b=>obtain⟨t,rfl⟩:=rx;exact SeqAt.EqAt.none_str b t
  | _=>exact absurd (show rA=rz from fx) aA
 | bl a =>
  cases ry
  cases x with
  | non=>cases rx;exact SeqAt.EqAt.bool_none a
  | bl b=>cases rx;exact SeqAt.EqAt.bool_bool a b
  | int b=>obtain⟨t,rfl⟩:=rx;exact SeqAt.EqAt.bool_int a b t
  | str b=>obtain⟨t,rfl⟩:=rx;exact SeqAt.EqAt.bool_str a b t
  | _=>exact absurd (show rA=rz from fx) aA
 | int a =>
  obtain⟨t',rfl⟩:=ry
  cases x with
  | non=>cases rx;exact SeqAt.EqAt.int_none a t'
  | bl b=>cases rx;exact SeqAt.EqAt.int_bool a t' b
  | int b=>obtain⟨t,rfl⟩:=rx;exact SeqAt.EqAt.int_int a t' b t
  | str b=>obtain⟨t,rfl⟩:=rx;exact SeqAt.EqAt.int_str a t' b t
  | _=>exact absurd (show rA=rz from fx) aA
 | str a =>
  obtain⟨t',rfl⟩:=ry
  cases x with
  | non=>cases rx;exact SeqAt.EqAt.str_none a t'
  | bl b=>cases rx;exact SeqAt.EqAt.str_bool a t' b
  | int b=>obtain⟨t,rfl⟩:=rx;exact SeqAt.EqAt.str_int a t' b t
  | str b=>obtain⟨t,rfl⟩:=rx;exact SeqAt.EqAt.str_str a t' b t
  | _=>exact absurd (show rA=rz from fx) aA
 | _=>exact absurd (show rA=rz from fy) aA
theorem wc:vz X (.type "list") (λxs H Q=>∃p ys,xs=[.ref p]/\(SqL X.K H p ys\/SqT X.K H p ys)/\∀l,H l=rq->Q (.ref l) (upd H l (.lst ys))):=by
 intro rB s σ H xs us Q I r h;obtain⟨p,ys,rfl,hq,q⟩:=h;obtain⟨u,rfl,rx⟩:=xP r;cases rx
 have fin:∀(its:List nQ),Vals ys its->ys.length<=nN->∀(h':oa) (c':Nat),(∀b o',s.heap.get? b=rp o'->h'.get? b=rp o') ->
   h'.get? s⁻¹=rp { cls:=.type "list",dict:=rq,data:=.seq its.toArray c',slots:=#[] }->EP X rB σ Q (.ref s⁻¹) { s with heap:=h' }:=λits r' hz h' c' kp e =>
  #[.ref s⁻¹,_,I.laid (t':=s.toks) kp (ao _) (show ObjOk X.prog X.w _ h' _ (.lst ys)from #[hz,its,c',r',e]),rfl,q _ (I.hok.fresh (ao _))]
 rcases hq with hq | hq
 ·obtain⟨its,r',pl,hz⟩:=I.list hq;have hlen:=r'.length;obtain⟨o,ho,hc,n,hd⟩:=pl.isList;exact call_list_seq p (.inl rfl) ho hc hd (λh' c' kp e=>fin its r' hz h' c' kp e) (by erw[ah] <;> lia)
 ·obtain⟨its,r',pl,hz⟩:=I.tuple hq;have hlen:=r'.length;obtain⟨o,ho,hc,n,hd⟩:=pl;exact call_list_seq p (.inr rfl) ho hc hd (λh' c' kp e=>fin its r' hz h' c' kp e) (by erw[ah] <;> lia)
def tyV(K:nO)(T:String)(x:V)(H:Hp):Prop:=match x with
 | .str _=>T="str"
 | .int _=>T="int"
 | .ref p=>(T="list"/\∃xs,SqL K H p xs)\/(T="tuple"/\∃o,K.lookup p=rp o/\o.cls=.type "tuple"/\o.dict=rq) \/
   (T="dict"/\((∃kvs,H p=rp (.dK kvs))\/∃kvs,H p=rp (.dT kvs)))\/(T="set"/\∃S n,H p=rp (.set S n))
 | _=>False
theorem zbD{rB:List (nP × ou)}{σ:St}{H:Hp}{s:nR}{T:String}{x:V}{v:nQ}(I:Inv X rB σ H s)(r:RelV x v)(ty:tyV X.K T x H) :
  s.TypeIs v T/\∀a,v=.ref a->∃ob,s.heap.get? a=rp ob/\ob.dict=rq:=by
 cases x with
 | str z =>
  obtain⟨t,rfl⟩:=r;cases (show T="str" from ty);exact#[typeIs_str s z t,λ_ e=>nomatch e]
 | int i =>
  obtain⟨t,rfl⟩:=r;cases (show T="int" from ty);exact#[typeIs_int s i t,λ_ e=>nomatch e]
 | ref p =>
  cases r;rcases ty with ⟨rfl,xs,hq⟩ | ⟨rfl,o,hk,hc,hd⟩ | ⟨rfl,hk⟩ | ⟨rfl,S,n,hk⟩
  ·obtain⟨its,_,pl,_⟩:=I.list hq;refine#[pl.isList.typeIs,λa e=>?_];cases e;obtain⟨o,n,e,c,hd,_⟩:=pl;exact#[o,e,hd]
  ·refine#[#[o,I.kIn p o hk,hc],λa e=>?_];cases e;exact#[o,I.kIn _ o hk,hd]
  ·have z:∃o,s.heap.get? p=rp o/\o.ExactDict:=by
    rcases hk with ⟨kvs,hk⟩ | ⟨kvs,hk⟩
    ·obtain⟨_,_,_,_,o,_,_,e,ex,_⟩:=I.hok p _ hk;exact#[o,e,ex]
    ·obtain⟨_,_,_,_,o,_,_,e,ex,_⟩:=I.hok p _ hk;exact#[o,e,ex]
   obtain⟨o,e,ex⟩:=z;refine#[#[o,e,ex.1],λa e2=>?_];cases e2;exact#[o,e,ex.2.1]
  ·obtain⟨o,_,_,_,e,ex,_⟩:=I.hok p _ hk;refine#[#[o,e,ex.1],λa e2=>?_];cases e2;exact#[o,e,ex.2.1]
 | _=>exact False.elim ty
def tBM(K:nO)(T:String)(r:V->List V->Hp->VK->Prop)(to:TE)(t:TA):TE:=λσ H Q=>to σ H λx H1=>tyV K T x H1/\t σ H1 λxs H2=>r x xs H2 Q
variable{o e:nZ}{es:List nZ}{to:TE}{t:TA}{name:nW}{apos cpos:oJ}{T id:String}{r:V->List V->Hp->VK->Prop}
theorem vG(pa:PlainAttrs T)(slot:Slot T name id)(hty:typeOf (.builtin id)=pure (.type "method_descriptor"))(hm:MtR X id r)(ho:PE X o to)(ha:PA X (e::es) t)
  (hbase:attributeBase o name X.env (eval o X.env)=eval o X.env:=by rfl)
  (hfew:((om cpos (nM (e::es) X.env)).all (λx=>!x.1) && (oy cpos (ol [] X.env)).all (λx=>x.1.isSome)
   && decide ((e::es).length+([]:List rd).length+(if ([]:List rd).isEmpty then 0 else 1)<30))=rz:=by rfl)
  (hline:(apos.endLine == cpos.line)=rz:=by rfl) (hs:nM (e::es) X.env=(rA,eval e X.env)::nM es X.env:=by rfl) (hplain:(om cpos (nM es X.env)).any (·.1)=rA:=by rfl) :
  PE X (.Call (.Attribute o name apos) (e::es) [] cpos) (tBM X.K T r to t):=by
 intro rB s σ H Q I h;refine wpAny_Call_method_late hbase hfew hline rfl (thn (ho rB s σ H _ I h) λv s1 ⟨x,H1,I1,r1,ty,q1⟩=>?_);obtain⟨h1,h2⟩:=zbD I1 r1 ty;refine#[T,id,pa,slot,hty,h1,h2,?_];have hA:=ha cpos rB s1 σ H1 _ I1 q1;rw[hs]at hA ⊢;refine Calls.callWith_builtin (by show (rA || (om cpos (nM es X.env)).any (·.1))=rA;rw[hplain] <;> rfl) (Calls.evalArgs_plain ?_);exact thn hA λus s2 ⟨vs,H2,I2,r2,q2⟩=>hm rB s2 σ H2 x vs v us Q I2 r1 r2 q2
/- xs.append(e),list.index on a module's tuple .. are MtR facts of 06m -/
end
def MtM(X:Cx)(id:String)(r:V->List V->Hp->VK->Prop):Prop :=
 ∀(rB:List (nP × ou)) (s:nR) (σ:St) (H:Hp) (x:V) (xs:List V) (v:nQ) (us:List nQ) (Q:VK),Inv X rB σ H s->RelV x v->Vals xs us->r x xs H Q ->
  nV (model X.prog X.w) X.A (call (.builtin id) (v::us)) (EP X rB σ Q) X.xe s
theorem Vals.one:∀{x:V} {us:List nQ},Vals [x] us->∃u,us=[u]/\RelV x u
 | _,_,.cons r .nil=>#[_,rfl,r]
theorem Vals.two:∀{x y:V} {us:List nQ},Vals [x,y] us->∃u v,us=[u,v]/\RelV x u/\RelV y v
 | _,_,_,.cons r (.cons q .nil)=>#[_,_,rfl,r,q]
theorem Vals.zero:∀{us:List nQ},Vals [] us->us=[]
 | _,.nil=>rfl
theorem Vals.reverse{xs:List V}{us:List nQ}(h:Vals xs us):Vals xs.reverse us.reverse:=by
 induction h with
 | nil=>exact .nil
 | cons r t ih=>rw[di,di];exact Vals.append ih (.cons r .nil)
section
variable{X:Cx}{rB:List (nP × ou)}{σ:St}{H:Hp}{s:nR}{l b:nP}{xs ys zs:List V}
theorem Inv.lset{its its':List nQ}{n:Nat}{f:Array nQ->Array nQ}{t':Nat}(I:Inv X rB σ H s)(hH:H l=rp (.lst xs))
  (e:s.heap.get? l=rp { cls:=.type "list",data:=.seq its.toArray n }) (hf:f its.toArray=its'.toArray) (hv:Vals ys its') (hz:ys.length<=nN) :
  Inv X rB σ (upd H l (.lst ys)) { s with heap:=s.heap.update l (Obj.mapSeq f),toks:=t' }:=by
 have q:=PySem.IsL.update e f;rw[hf]at q;refine I.write (x:=l) (e:=l) (by rw[hH];exact trivial) (.inl rfl) (λb' u hb hu=>(aG s.heap (Obj.mapSeq f) (Ne.symm hb)).trans hu) #[_,q] ?_;exact#[hz,its',_,hv,q]
theorem Inv.lnew{its:List nQ}{t':Nat}(I:Inv X rB σ H s)(hv:Vals ys its)(hz:ys.length<=nN) :
  Inv X rB σ (upd H s⁻¹ (.lst ys)) { s with heap:=s.heap.push { cls:=.type "list",data:=.seq its.toArray },toks:=t' } :=
 I.laid (λ_ _ q=>af _ q) (ao _) #[hz,its,0,hv,aI _ rfl]
theorem Inv.fresh(I:Inv X rB σ H s):H s⁻¹=rq:=I.hok.fresh (ao _)
theorem Inv.lstM(I:Inv X rB σ H s)(hH:H l=rp (.lst xs)):xs.length<=nN/\∃(its:List nQ) (n:Nat),Vals xs its/\xs.length=its.length/\s.heap.get? l=rp { cls:=.type "list",data:=.seq its.toArray n }:=by
 obtain⟨z,its,n,r,e⟩:=I.hok l _ hH;exact#[z,its,n,r,r.length,e]
theorem Uz{n:Nat}(h:n<=nN):Builtin.List.listTooLong n=rA:=by
 unfold Builtin.List.listTooLong;exact decide_eq_false ⋯
end
section
variable{X:Cx}
def VX:V->List V->Hp->VK->Prop:=λx vs H Q=>onRef x λl=>match vs with | [y]=>∃xs,H l=rp (.lst xs)/\xs.length<nN/\Q .non (upd H l (.lst (xs ++ [y]))) | _=>False
theorem yS:MtM X "list.append" VX:=by
 intro rB s σ H x vs v us Q I rx rv h;obtain⟨l,rfl,h2⟩:=onRef.of h
 obtain⟨y,rfl,xs,hH,hz,q⟩:∃y,vs=[y]/\∃xs,H l=rp (.lst xs)/\xs.length<nN/\Q .non (upd H l (.lst (xs ++ [y]))):=by
  split at h2
  ·exact#[_,rfl,h2]
  ·exact h2.elim
 cases rx;obtain⟨u,rfl,ru⟩:=rv.one;obtain⟨z,its,n,r,hl,e⟩:=I.lstM hH;refine call_meets F.slot_list_append #[_,e,rfl] F.entry_list_append (F.args_list_append_2 _ _) (PySem.list_append l its.toArray n u (by rw[ah];lia)) #[e,?_];refine#[.non,_,I.lset (its':=its ++ [u]) hH e (by simp) (r.append (.cons ru .nil)) ?_,rfl,q];rw[am,eR];lia
def Vv:V->List V->Hp->VK->Prop:=λx vs H Q=>∃l b xs zs,x=.ref l/\vs=[.ref b]/\H l=rp (.lst xs)/\H b=rp (.lst zs)/\xs.length+zs.length<=nN/\Q .non (upd H l (.lst (xs ++ zs)))
theorem Vd:MtM X "list.extend" Vv:=by
 intro rB s σ H x vs v us Q I rx rv h;obtain⟨l,b,xs,zs,rfl,rfl,hH,hB,hz,q⟩:=h;cases rx;obtain⟨u,rfl,ru⟩:=rv.one;cases ru;obtain⟨z,its,n,r,hl,e⟩:=I.lstM hH;obtain⟨z2,its2,n2,r2,hl2,e2⟩:=I.lstM hB;have hsz:its.toArray.size+its2.toArray.size<=nN:=by rw[ah,ah];lia
 have hlong:¬ (!its.toArray.isEmpty && Builtin.List.listTooLong (its.toArray.size+its2.toArray.size))=rz:=by
  rw[Uz hsz,dQ];exact aA
 refine call_meets F.slot_list_extend #[_,e,rfl] F.entry_list_extend (F.args_list_extend_2 _ _)
  (AutoSeq1.list_extend_list_list_0 l its.toArray n b its2.toArray n2 hlong (by rw[ah];lia) ⋯) #[e,e2,?_]
 refine#[.non,_,I.lset (its':=its ++ its2) hH e (by simp) (r.append r2) ?_,rfl,q];rw[am];lia
def zar:R2:=λx y H Q=>onRef x λl=>onRef y λb=>∃xs,H l=rp (.lst xs)/\∃zs,H b=rp (.lst zs)/\xs.length+zs.length<=nN/\∀p,H p=rq->Q (.ref p) (upd H p (.lst (xs ++ zs)))
theorem jc:OpR X (binaryOp .Add) zar:=by
 intro rB s σ H x y v u Q I rx ry h;obtain⟨l,rfl,h2⟩:=onRef.of h;obtain⟨b,rfl,xs,hH,zs,hB,hz,q⟩:=onRef.of h2;cases rx;cases ry;obtain⟨z,its,n,r,hl,e⟩:=I.lstM hH;obtain⟨z2,its2,n2,r2,hl2,e2⟩:=I.lstM hB;refine PySem.P.add_list e e2 ?_ (by rw[ah,ah];lia);have ea:its.toArray ++ its2.toArray=(its ++ its2).toArray:=by simp
 rw[ea];exact#[.ref _,_,I.lnew (t':=s.toks) (r.append r2) (by rw[am];lia),rfl,q _ I.fresh]
theorem len_rep{α:Type}(xs:List α)(k:Nat):(aJ k xs).flatten.length=k * xs.length:=by
 induction k with
 | zero=>simp
 | succ k ih=>rw[bW,dj,am,ih,dC,Nat.add_comm]
end
section
variable{prog:nU}{w:nY}{A:nX}{E:nQ->nR->Prop}{s:nR}
end
section
variable{X:Cx}
end
end L2
namespace Att
open PySem PySem.W PySem.Calls PyProof.Rows
theorem uL{P:Params}{h:oa}:∀(ns:List Int) (vs:List nQ),WellAll P h vs (ns.map WData.int)->pV vs ns:=by
 intro ns
 induction ns with
 | nil =>
  intro vs w;rw[aw]at w;cases w;exact .nil
 | cons n ns ih =>
  intro vs w;rw[aj]at w
  cases w with
  | cons a b =>
   cases a;exact .cons _ _ (ih _ b)
theorem script_of{l:rm}{n:Nat}(hn:l.most=rp n){P:Params}{h:oa}{args:List WData}{vals:List nQ}
  (hpre:l.row.toRowW.claim.pre args=rz) (hwl:WellAll P h vals args) :
  ∃a vs ns,vals=[Value.ref a]/\args=[WData.list (ns.map WData.int)]/\h.get? a=rp { cls:=.type "list",data:=.seq vs.toArray }/\pV vs ns/\ns.length<=n:=by
 have hsh:WShape.hasAll [] args [.list .int]=rz:=(pre_splitW hpre).1;have hc:l.pre.holds [] { args:=args }=rz:=(pre_splitW hpre).2;obtain⟨d,r,rfl,h1,h2⟩:=hasAllW_cons hsh;obtain rfl:=hasAllW_nil h2;obtain⟨xs,rfl,h3⟩:=hasW_list h1;obtain⟨ns,rfl⟩:=items_int h3
 have hlen:ns.length<=n:=by
  unfold OpenLaw.pre at hc
  have h4:(WTm.not (.lt (.lit (.int (n:Int))) (.len (.arg 0)))).holds [] { args:=[.list (ns.map .int)] }=rz:=by
   have h4:=(holds_andW hc).1;rw[hn]at h4;exact h4
  have h5:=condW_of h4 (w_not (w_lt w_lit (w_len_list (w_arg rfl))));rw[ac]at h5;refine cF λq=>?_;have q':(n:Int)<((ns.length:Nat):Int):=⋯
  first
   | (rw[decide_eq_true q']at h5;exact absurd h5 ∅)
   | (simp at h5;lia)
 cases hwl with
 | cons w1 w2 =>
  cases w2
  cases w1 with
  | list ho hall=>exact#[_,_,ns,rfl,rfl,ho,uL ns _ hall,hlen]
theorem post_true(l:rm)(args:List WData):l.row.toRowW.claim.post args (.bool rz) args=rz :=
 postW_of (r:=l.row.toRowW) (X:=(rz == rz))
  (show WShape.has [] (.bool rz) .bool=rz by first | rfl | decide | simp [WShape.has,WShape.arms,WShape.armsAll])
  (show (WTm.eq .res (.lit (.bool rz))).value [] { args:=args,res:=rp (.bool rz),after:=args }=rp (.bool (rz == rz))from w_eq_bool (w_res rfl) w_lit) rfl
theorem attach{l:rm}{n:Nat}{q:nU}{loose:List nW}{XP:(nW->Option nQ)->oa->Prop}{YP:nY->oa->Prop}{d:DefRec}{x:nW}
  (hn:l.most=rp n) (hdf:d.params.defaults=[])
  (hbind:∀pm cd doc v:nQ,bindArgs (docDef d.name d.params d.body d.scope pm cd doc) #[[v],[]]=pure [(x,v)])
  (hx:d.scope.names.lookup x=rp .local\/d.scope.names.lookup x=rp .cell)
  (hk:d.scope.kind=.function) (hco:d.scope.isCoroutine=rA) (hgen:d.scope.isGenerator=rA)
  (body:∀(w:nY) (s₀ s₁ s:nR) (mg mb:nW->Option nQ) (fa:nP) (o:ou) (pm cd doc:nQ) (a:nP) (vs:List nQ) (ns:List Int),
   Ground q loose [] XP w s₀ mg mb s₁.heap->YP w s₁.heap ->
   s₁.heap.get? fa=rp o->o.data=.func (docDef d.name d.params d.body d.scope pm cd doc)->s₁.heap.CodeRec cd d.name->mg d.name=rp (.ref fa) ->
   s₁.heap.get? a=rp { cls:=.type "list",data:=.seq vs.toArray }->pV vs ns->ns.length<=n ->
   s.gens=#[]->s.os=s₁.os ->
   Fr s₁.heap s₁⁻¹ s.heap (bindL (oU d.name d.scope s₁⁻¹ fa cd).kindOf [(x,.ref a)] λ_=>rq) ->
   Cl s₁⁻¹ (cellsFrom (s₁⁻¹+1) d.scope.names []) s.heap (bindC (oU d.name d.scope s₁⁻¹ fa cd).kindOf [(x,.ref a)] λ_=>rq) ->
   nV (model l.prog w) (callerA.deeper (oU d.name d.scope s₁⁻¹ fa cd)) (execs d.body (oU d.name d.scope s₁⁻¹ fa cd))
    (λf s'=>f=.ret (.bool rz)/\OldK s₁.heap s'.heap/\s'.os=s₁.os/\pf s'.gens) (λ_ _=>False) s) :
  WalkO q loose XP YP l.row.toRowW d [] (λf vs=>e9 f vs):=by
 intro w s₀ s₁ mg mb G Y fa o pm cd doc dV kV ho hd hcd hD hmg hg args vals as hpre hlay hrd hwl hlo;obtain rfl:dV=.none:=Dflts.none hD hdf;obtain rfl:kV=.none:=Dflts.noKw hD;obtain⟨a,vs,ns,rfl,rfl,hobj,hints,hlen⟩:=script_of hn hpre hwl;refine enter_call ?_;refine call_cells_ret (o:=o) (by rw[depth_caller];decide) ho (fd_plain hd) G.T.nolimit hcd (hbind pm cd doc (.ref a)) (λy hy=>?_) (λh₁ tk F X=>?_) hco hgen hk
 ·obtain rfl:y=(x,Value.ref a):=rK.mp hy;rcases hx with e | e
  ·exact .inl e
  ·exact .inr #[e,cellsFrom_some _ _ _ (.inl e)]
 ·refine oH (body w s₀ s₁ { s₁ with heap:=h₁,toks:=tk } mg mb fa o pm cd doc a vs ns G Y ho (fd_plain hd) hcd hmg hobj hints hlen hg rfl F X) (λf s' hq=>?_) (λ_ _ hq=>hq);obtain⟨rfl,h2,h3,h4⟩:=hq;exact#[.inl #[.bool rz,.bool rz,[],rfl,λ_=>rfl,.bool rz,post_true l _,λ_=>#[List.Pairwise.nil,λ_ hm=>(nomatch hm)]],h2,h3,h4]
section
variable{prog:nU}{w:nY}{A:nX}{E:nQ->nR->Prop}{s:nR}{K:Frag}
noncomputable def zdM(h:oa)(L d:nP):List (nP × ou):=(aQ h.objs.size).filterMap λa=>if a=L\/a=d then rq else (h.get? a).map λo=>(a,o)
end
end Att
namespace L2
theorem kB:∀{vs:List nQ} {ns:List Int},pV vs ns->Vals (ns.map V.int) vs
 | _,_,.nil=>.nil
 | _,_,.cons n t h=>.cons #[t,rfl] (kB h)
noncomputable def xb(s:oj)(j:Nat):oj:=match s with
 | .ClassDef _ _ _ body _ _ _ _ _ _ _=>body.getD j (.Pass #[0,0,0,0])
 | _=>.Pass #[0,0,0,0]
noncomputable def yv(s:oj):oW:=match s with
 | .FunctionDef _ a _ _ _ _ _ _ _ _=>a
 | _=>{ posonlyargs:=[],args:=[],vararg:=rq,kwonlyargs:=[],kw_defaults:=[],kwarg:=rq,defaults:=[] }
noncomputable def zY(s:oj):List oj:=match s with
 | .FunctionDef _ _ b _ _ _ _ _ _ _=>b
 | _=>[]
noncomputable def zg(s:oj):oB:=match s with
 | .FunctionDef _ _ _ _ _ _ sc _ _ _=>sc
 | _=>{ kind:=.function,names:=[],isGenerator:=rA,isCoroutine:=rA }
abbrev CX0:CXT:=λ_ _ _ _ _ _=>False
noncomputable abbrev E0:XK:=λ_ _ _=>False
theorem XD{X:Cx}:uh CX0 X E0:=λ_ _ _ _ _ _ _ h=>h.elim
structure Fun(K:nO)(x qual:nW)(st:oj)(f:nP)(fd:nS):Prop where
 ex:∃(oc:nQ) (od:Option nP) (kV doc pm:nQ) (an:Option nP) (cdv ct:nQ) (osl:Array (Option nQ)),
  fd=bq x qual (yv st) (zY st) (zg st) .none kV doc pm an cdv ct/\K.lookup f=rp #[oc,od,.func fd,osl]/\bH K cdv qual=rz
 kp:aM K (.ref f)=rz
section
variable{P:nU}{w:nY}{K:nO}{mg:nW->Option nQ}{base:oa}
theorem Fun.ok{x qual:nW}{st:oj}{f:nP}{fd:nS}{N ps:List nW}{k:Nat}{sp:Sp}(F:Fun K x qual st f fd)(S:zo N ps (zg st))(len:∀vs H Q E,sp vs H Q E->vs.length=ps.length)
  (hbody:∀(cdv:nQ) (A:nX) (outer:List pB) (s:nR) (H:Hp) (vs:List V) (Q:VK) (E:XK),Room k (A.deeper (oU qual (zg st) s⁻¹ f cdv))->sp vs H Q E ->
   ∃t,PSs (ux CX0 P w K mg base N qual (zg st) f cdv A outer s H E).nox (zY st) t/\t { nx:=λ_ H'=>Q .non H',rt:=Q } (start N vs) H):FnOk P w K mg base CX0 (k+1) f fd ps sp:=by
 obtain⟨oc,od,kV,doc,pm,an,cdv,ct,osl,rfl,lk,hcd⟩:=F.ex;refine Qu lk hcd S len λA outer s H vs Q E hr hsp=>?_;obtain⟨t,h,q⟩:=hbody cdv A outer s H vs Q E hr hsp;exact#[t,h.nox,q]
theorem Fun.binds{x qual:nW}{st:oj}{f:nP}{fd:nS}{ps:List nW}(F:Fun K x qual st f fd)
  (h:∀(kV doc pm:nQ) (an:Option nP) (cdv ct:nQ) (us:List nQ),us.length=ps.length->bindArgs (bq x qual (yv st) (zY st) (zg st) .none kV doc pm an cdv ct) #[us,[]]=pure (ps.zip us)):Binds K fd ps []:=by
 obtain⟨oc,od,kV,doc,pm,an,cdv,ct,osl,rfl,lk,hcd⟩:=F.ex;exact .all (h kV doc pm an cdv ct)
theorem fun_mk{x qual:nW}{st:oj}{f:nP}{oc:nQ}{od an:Option nP}{osl:Array (Option nQ)}{kV doc pm cdv ct:nQ}(l:K.lookup f=rp #[oc,od,.func (bq x qual (yv st) (zY st) (zg st) .none kV doc pm an cdv ct),osl])
  (c:bH K cdv qual=rz) (k:aM K (.ref f)=rz):Fun K x qual st f (bq x qual (yv st) (zY st) (zg st) .none kV doc pm an cdv ct):=#[#[oc,od,kV,doc,pm,an,cdv,ct,osl,rfl,l,c],k]
end
section
variable{X:Cx}
theorem pv(i:Nat){x:nW}{pos:oJ}(hN:X.N[i]? = rp x:=by rfl)(hv:Vis X.env.scope x:=by first | exact Or.inl rfl | exact Or.inr (.inl rfl) | exact Or.inr (Or.inr rfl))(hd:(x ==("__debug__" : nW))=rA:=by decide)
  (hcd:(x ==("__classdict__" : nW))=rA:=by decide):PE X (.Name x pos) (z5 i):=zbx hN hv hd hcd
end
theorem zdX{A B:Prop}(h:A):if rz=rz then A else B:=by
 rw[if_pos rfl];exact h
theorem yG{c A B:Prop}[Decidable c](h1:c->A)(h2:¬ c->B):if c then A else B:=by
 by_cases h:c
 ·rw[if_pos h];exact h1 h
 ·rw[if_neg h];exact h2 h
def Same(H H':Hp):Prop:=∀b o,H b=rp o->H' b=rp o
theorem Same.refl(H:Hp):Same H H:=λ_ _ h=>h
theorem Same.trans{H H1 H2:Hp}(a:Same H H1)(b:Same H1 H2):Same H H2:=λc o h=>b c o (a c o h)
theorem Same.free{H H':Hp}(e:Same H H'){l:nP}(h:H' l=Option.none):H l=Option.none:=by
 cases q:H l with
 | none=>rfl
 | some o =>
  rw[e l o q]at h;cases h
theorem Same.seq{K:nO}{H H':Hp}{a:nP}{xs:List V}(e:Same H H')(h:SqL K H a xs):SqL K H' a xs:=by
 rcases h with (h | ⟨o,h⟩) | h
 ·exact .inl (.inl (e _ _ h))
 ·exact .inl (.inr #[o,e _ _ h])
 ·exact .inr h
end L2
open L2
namespace L3
noncomputable abbrev St:=L2.St
noncomputable abbrev cs(x:nW):():=x.cps.toList
noncomputable abbrev tx(l:()):nW:=⟨l.toArray⟩
theorem zaZ(x:nW):tx (cs x)=x:=by cases x;rfl
theorem ZB(l:()):cs (tx l)=l:=rfl
theorem YK(x:nW):x.length=(cs x).length:=by simp [Str.length,cs]
theorem zS(l:()):(tx l).length=l.length:=by simp [Str.length,tx]
theorem Za{x y:nW}(h:cs x=cs y):x=y:=by rw[<- zaZ x,<- zaZ y,h]
theorem qR{l m:()}(h:tx l=tx m):l=m:=by rw[<- ZB l,<- ZB m,h]
theorem zbB{l m:()}:tx l=tx m ↔ l=m:=#[qR,λh=>by rw[h]]
theorem xW(l m:()):tx l ++ tx m=tx (l ++ m):=by
 apply Za;show (tx l ++ tx m).cps.toList=l ++ m;rw[Str.cps_append];simp
noncomputable def cut{α:Type}(l:List α)(lo hi:Option Int):List α:=(l.drop (HT.sIx l.length 0 lo)).take (HT.sIx l.length l.length hi - HT.sIx l.length 0 lo)
theorem wv{α:Type}(l:List α)(lo hi:Option Int):(cut l lo hi).length<=l.length:=by
 unfold cut;rw[aF,aZ];lia
theorem WP(a b:Nat):sliceRange (a:Int) (b:Int) 1=(aQ (b - a)).map (λk=>a+k):=by
 unfold sliceRange
 have e:(if (1:Int) > 0 then (if (a:Int)<b then ((b:Int) - a+1 - 1) / 1 else 0)else (if (a:Int) > b then ((a:Int) - b - 1 - 1) / (-1)else 0)).toNat=b - a:=by
  rw[if_pos ∅];by_cases h:(a:Int)<b
  ·rw[if_pos h,Int.ediv_one];lia
  ·rw[if_neg h];lia
 show (aQ ((if (1:Int) > 0 then (if (a:Int)<b then ((b:Int) - a+1 - 1) / 1 else 0)else (if (a:Int) > b then ((a:Int) - b - 1 - 1) / (-1)else 0)).toNat)).map _=_;rw[e];refine aU λk _=>?_;lia
theorem JK(lo hi:Option Int)(n:Nat):Builtin.Str.strSliceIndices lo hi 1 n=(aQ (HT.sIx n n hi - HT.sIx n 0 lo)).map (λk=>HT.sIx n 0 lo+k):=by
 rw[<- WP]
 have clip:∀(v:Int) (d:Nat),max 0 (min (if v<0 then v+(n:Int)else v) (n:Int))=((HT.sIx n d (rp v):Nat):Int):=λv d=>by
  show _=(((if v<0 then (v+(n:Int)).toNat else min v.toNat n):Nat):Int);by_cases hv:v<0
  ·erw[if_pos hv];lia
  ·erw[if_neg hv];lia
 have h1:((1:Int) > 0)=True:=by simp
 unfold Builtin.Str.strSliceIndices
 cases lo with
 | none =>
  cases hi with
  | none=>erw[h1,if_true];rfl
  | some j=>erw[h1,if_true,clip j n];rfl
 | some i =>
  cases hi with
  | none=>erw[h1,if_true,clip i 0];rfl
  | some j=>erw[h1,if_true,clip i 0,clip j n]
theorem X7(x:nW)(lo hi:Option Int):Txt.slice x lo hi=tx (cut (cs x) lo hi):=by
 have hn:x.length=x.cps.toList.length:=YK x;have hj:HT.sIx x.length x.length hi<=x.length:=HT.sIx_le _ _ (ao _) hi;have hi0:HT.sIx x.length 0 lo<=x.length:=HT.sIx_le _ _ (aB _) lo;unfold Txt.slice;rw[JK];split
 ·rename_i h;have h':HT.sIx x.length x.length hi - HT.sIx x.length 0 lo=x.length:=by simpa using h
  apply Za;show x.cps.toList=cut x.cps.toList lo hi;unfold cut;rw[<- hn];by_cases z:x.length=0
  ·have:x.cps.toList=[]:=dJ ⋯;rw[this];simp
  ·have e0:HT.sIx x.length 0 lo=0:=⋯;rw[e0]at h' ⊢;rw[h',dU,hn,aH]
 ·apply Za;have h:=StrLaws.picks x.cps.toList (HT.sIx x.length x.length hi - HT.sIx x.length 0 lo) (HT.sIx x.length 0 lo) ⋯;show (List.filterMap (λk=>x.cps[k]?) _).toArray.toList=cut x.cps.toList lo hi;unfold cut;rw[<- hn];simpa using h
section
variable{X:Cx}
theorem Vy{v:nQ}{o:Option Int}(p:IsPart v o):∃l:Option (Int × pX),v=partValue l/\l.map (·.1)=o:=by
 cases p with
 | none=>exact#[rq,rfl,rfl]
 | int i t=>exact#[rp (i,t),rfl,rfl]
def zb0:V->Option Int->Option Int->Hp->VK->Prop:=λx lo hi H Q=>onStr x λz=>z.length<=nN/\Q (.str (tx (cut (cs z) lo hi))) H
theorem wb:SlR X zb0:=by
 intro rB s σ H x v vl vu lo hi sl Q I rx hs pl pu h;obtain⟨z,rfl,hz,q⟩:=onStr.of h;obtain⟨t,rfl⟩:=rx;obtain⟨l,rfl,el⟩:=Vy pl;obtain⟨u,rfl,eu⟩:=Vy pu;refine#["str",_,slot_str_getitem.lookup,typeIs_str s z t,?_];refine pw (l:=l) (u:=u) (st:=rq) hs rfl ?_;have e:Txt.slice z lo hi=tx (cut (cs z) lo hi):=X7 z lo hi;have hl:(tx (cut (cs z) lo hi)).length<=nN:=by rw[zS];have:=wv (cs z) lo hi;rw[<- YK]at this;lia
 unfold sliceMade slicePicked;rw[el,eu];unfold Txt.slice at e;by_cases hc:((1:Int) == 1 && (Builtin.Str.strSliceIndices lo hi 1 z.length).length == z.length)=rz
 ·rw[if_pos hc]at e;have hc':(((rq:Option (Int × pX)).map (·.1)).getD 1 == 1 && (Builtin.Str.strSliceIndices lo hi (((rq:Option (Int × pX)).map (·.1)).getD 1) z.length).length == z.length)=rz:=hc;rw[if_pos hc'];exact#[.str (tx (cut (cs z) lo hi)),H,I,#[t,by rw[<- e]],q]
 ·rw[if_neg hc]at e;have hc':¬ (((rq:Option (Int × pX)).map (·.1)).getD 1 == 1 && (Builtin.Str.strSliceIndices lo hi (((rq:Option (Int × pX)).map (·.1)).getD 1) z.length).length == z.length)=rz:=hc;rw[if_neg hc'];show (Str.mk ((Builtin.Str.strSliceIndices lo hi 1 z.length).filterMap (z.cps[·]?)).toArray).length<=nN/\_;rw[e];refine#[hl,?_]
  exact#[.str (tx (cut (cs z) lo hi)),H,I.tok _,#[_,by
   show Value.str (Str.mk ((Builtin.Str.strSliceIndices lo hi 1 z.length).filterMap (z.cps[·]?)).toArray) _=_
   rw[e]],q]
theorem YW(l:()):∀(k:Nat) (rE:Array Nat),((aJ k l.toArray).foldl (· ++ ·) rE).toList=rE.toList ++ (aJ k l).flatten
 | 0,rE=>by simp
 | k+1,rE=>by
  rw[bW,List.foldl_cons,YW l k,bW,dj];simp
theorem XQ:OpR X (binaryOp .Mult) (λx y H Q=>∃z n,x=.str z/\y=.int n/\0<=n/\n<=1000/\z.length<=1000/\Q (.str (tx (aJ n.toNat (cs z)).flatten)) H):=by
 intro rB s σ H x y v u Q I rx ry h;obtain⟨z,n,rfl,rfl,h0,h1,hz,q⟩:=h;obtain⟨t,rfl⟩:=rx;obtain⟨t',rfl⟩:=ry;have hs:nN=16777216:=oh;have hmul:z.length * n.toNat<=1000 * 1000:=Nat.mul_le_mul hz ⋯;have fl:((aJ n.toNat (cs z)).flatten).length=n.toNat * z.length:=by rw[L2.len_rep,<- YK]
 refine PySem.P.mul_str ?_ (λ_ _=>?_) (λ_ _=>?_) ?_
 ·rw[decide_eq_false ⋯,decide_eq_false ⋯];rfl
 ·have:(1000:Int)<=(2 ^ 63 - 1) / n:=by
   apply Int.le_ediv_of_mul_le ⋯;lia
  lia
 ·unfold Builtin.Str.tooLong;exact decide_eq_false ⋯
 ·by_cases c1:n<1
  ·rw[if_pos c1];have e:n.toNat=0:=⋯;rw[e]at q;exact#[∅,.str (tx []),H,I.tok _,#[_,rfl],q]
  ·rw[if_neg c1];by_cases c2:(n == 1 || z.length == 0)=rz
   ·rw[if_pos c2]
    have e:tx (aJ n.toNat (cs z)).flatten=z:=by
     rw[Bool.or_eq_true]at c2;rcases c2 with c | c
     ·have:n.toNat=1:=by have:=eq_of_beq c;lia
      rw[this]
      erw[List.replicate_one,List.flatten_singleton]
     ·have c0:z.length=0:=eq_of_beq c;have:cs z=[]:=dJ (by rw[<- YK];exact c0);apply Za;rw[this];show (aJ n.toNat ([]:())).flatten=[]
      erw[List.flatten_replicate_nil]
    rw[e]at q;exact#[.str z,H,I,#[_,rfl],q]
   ·rw[if_neg c2]
    have e:(⟨(aJ n.toNat z.cps).foldl (· ++ ·) #[]⟩:nW)=tx (aJ n.toNat (cs z)).flatten:=by
     apply Za;have:=YW (cs z) n.toNat #[];have e2:(cs z).toArray=z.cps:=by cases z;rfl
     rw[e2]at this;show (List.foldl (· ++ ·) #[] (aJ n.toNat z.cps)).toList=(aJ n.toNat (cs z)).flatten;rw[this];rfl
    rw[e];refine#[by rw[zS,fl,Nat.mul_comm];lia,.str _,H,I.tok _,#[_,rfl],q]
theorem Ve:OpR X (og .LtE) (λx y H Q=>∃i j,x=.str i/\y=.str j/\Q (.bl (!(decide (cs j<cs i)))) H):=by
 intro rB s σ H x y v u Q I rx ry h;obtain⟨i,j,rfl,rfl,q⟩:=h;obtain⟨t,rfl⟩:=rx;obtain⟨t',rfl⟩:=ry;exact PySem.P.le_str #[.bl _,H,I,rfl,q]
theorem op_lt_str':OpR X (og .Lt) (λx y H Q=>∃i j,x=.str i/\y=.str j/\Q (.bl (decide (cs i<cs j))) H):=W8
theorem UR:MtR X "str.count" (λx xs H Q=>∃z y,x=.str z/\xs=[.str y]/\Q (.int (Txt.count z y)) H):=by
 intro rB s σ H x xs v us Q I rx rv h;obtain⟨z,y,rfl,rfl,q⟩:=h;obtain⟨t,rfl⟩:=rx;obtain⟨u,rfl,t',rfl⟩:=xP rv;exact PySem.SC.count #[.int _,H,I.tok _,#[_,rfl],q]
theorem K3:MtR X "str.find" (λx xs H Q=>∃z y,x=.str z/\xs=[.str y]/\Q (.int (Txt.find z y)) H):=by
 intro rB s σ H x xs v us Q I rx rv h;obtain⟨z,y,rfl,rfl,q⟩:=h;obtain⟨t,rfl⟩:=rx;obtain⟨u,rfl,t',rfl⟩:=xP rv;exact PySem.SC.find #[.int _,H,I.tok _,#[_,rfl],q]
end
section
variable{X:Cx}{rB:List (nP × ou)}{σ:St}{H:Hp}{s:nR}{fp:List nP}{h':oa}{t':Nat}
theorem Inv.turns(I:Inv X rB σ H s)(k:∀b o,b ∉ fp->s.heap.get? b=rp o->h'.get? b=rp o)(hf:∀b ∈ fp,xE X rB H b):Inv X rB σ H { s with heap:=h',toks:=t' }:=by
 have nit:∀b u,H b=rp u->b ∉ fp:=λb u e z=>by rw[(hf b z).1]at e;cases e
 refine I.step (g':=s.gens) (d':=s.drawn) (ch:=fp) (λb hb=>?_) (λb o _ _ hc e _=>k b o hc e) (λb o _ _ hc e _=>#[o.slots,k b o hc e]) (λ_ _ _ _ n=>n)
  (λb o hc e=>#[o,k b o hc e]) (λ_ _ e=>e) (λ_ _ _ e=>e) (λb ps e=>#[#[],by rw[e];simp]) (λm hm=>?_) (λb u e=>?_) I.bare
 ·obtain⟨_,a1,_,a3,a4,a5⟩:=hf b hb;exact#[a3,a1,a4,a5]
 ·obtain⟨o,es,ep,ho,r⟩:=hm;exact#[o,es,ep,k _ o (λz=>(hf _ z).2.1 rfl) ho,r]
 ·refine (I.hok b u e).stay (λc v hc q=>k c v ?_ q) (λ_ q=>q) λ_ _ q=>q;rcases hc with z | z
  ·rw[z];exact nit b u e
  ·exact nit c _ z
theorem Inv.track{a:nP}{o:HO}(I:Inv X rB σ H s)(fa:xE X rB H a)(new:ObjOk X.prog X.w (upd H a o) s.heap a o):Inv X rB σ (upd H a o) s:=by
 obtain⟨a0,a1,a2,a3,a4,a5⟩:=fa;have e:s={ s with heap:=s.heap,gens:=s.gens,drawn:=s.drawn,toks:=s.toks }:=rfl;rw[e]
 refine I.step (g':=s.gens) (d':=s.drawn) (ch:=[a]) (λb hb=>?_) (λb o _ _ _ e _=>e) (λb o _ _ _ e _=>#[o.slots,e]) (λb o hc _ n=>?_)
  (λb o _ e=>#[o,e]) (λb xs e=>?_) (λb u xs e=>?_) (λb ps e=>?_) (λm hm=>hm) (λb u e=>?_) I.bare
 ·have eb:b=a:=by simpa using hb
  subst eb;exact#[a3,a1,a4,a5]
 ·rw[zp (by simpa using hc)];exact n
 ·rw[zp (zG e a0)];exact e
 ·rw[zp (zG e a0)];exact e
 ·exact#[#[],by rw[zp (zG e a0),e];simp]
 ·by_cases hb:b=a
  ·subst hb;rw[zc]at e;cases e;exact new
  ·rw[zp hb]at e;exact (I.hok b u e).stay (λc v _ q=>q) (λc q=>by rw[zp (zG q a0)];exact q) λc xs q=>by rw[zp (zG q a0)];exact q
end
noncomputable def Its(x:nW):It:=#[λi _=>i<(cs x).length,λi H v H'=>H'=H/\∃c,(cs x)[i]? = rp c/\v=.str (tx [c]),λi _=>i=(cs x).length]
theorem Qm{P:nU}{w:nY}{K:nO}{tg:nZ}{ty:String}(hty:["enumerate","zip","dict_itemiterator","dict_reverseitemiterator","odict_iterator","itertools.zip_longest","itertools.pairwise"].contains ty=rA)(it:nP)(x:nW)(t:pX)
  (W:∀A:nX,A.handled=rq->Walks P w A it [it] [it] x.cps.size (SignAt x) λi h=>h.IsStrIter it ty x t i)
  (S:∀(A:nX) (i:Nat) (s:nR) (Q:nQ->nR->Prop) (E:nQ->nR->Prop),s.heap.IsStrIter it ty x t i->Q (.ref it) s->nV (model P w) A (pyIter (.ref it)) Q E s) :
  Kn P w K tg (Its x) [it] it (λi h=>h.IsStrIter it ty x t i) where
 mem:=by simp
 obj:=λi h st b hb=>by
  have e:b=it:=by simpa using hb
  subst e;obtain⟨o,e,c,d⟩:=st;exact#[o,e,λv z=>by rw[d]at z;cases z]
 keep:=λi h h' st k=>let #[o,e,r]:=st; #[o,k it (by simp) o e,r]
 item:=by
  intro X hP hw hK hc i rB s σ H E I hf st hg;subst hP hw hK;obtain⟨f0,f1,f2,f3,f4,f5⟩:=hf it (by simp);have hg':i<x.cps.size:=by have:i<x.cps.toList.length:=hg;simpa using this
  refine (W X.A (I.ok.hd hc)).item i s _ _ hg' st λv h' tk hv st' kk=>?_;obtain⟨c,u,hcc,rfl⟩:=hv;have I1:Inv X rB σ H { s with heap:=h',toks:=tk }:=I.turned (λb o hb e=>kk b o (by simpa using hb) e) f0 f1 f3 f4 f5;obtain⟨o,e,cl,d⟩:=id st';refine#[_,rfl,Qk (s:={ s with heap:=h',toks:=tk }) e cl d hty #[.str (tx [c]),H,I1,#[u,rfl],#[rfl,c,?_,rfl],st',λb hb=>(hf b hb).1]];show x.cps.toList[i]? = rp c;simpa using hcc
 done:=by
  intro X hP hw hK hc i rB s σ H E I hf st hg;subst hP hw hK;obtain⟨f0,f1,f2,f3,f4,f5⟩:=hf it (by simp);have hi:i=x.cps.size:=by have:i=x.cps.toList.length:=hg;simpa using this
  rw[hi]at st;exact (W X.A (I.ok.hd hc)).done s _ _ st λh' tk kk=>#[rfl,I.turned (λb o hb e=>kk b o (by simpa using hb) e) f0 f1 f3 f4 f5]
 self:=λA i s Q E st h=>S A i s Q E st h
section
variable{X:Cx}{tg:nZ}
def zda(tl:TE):TI:=λσ H R=>tl σ H λv H1=>∃x,v=.str x/\R (Its x) H1
theorem Ua{l:nZ}{tl:TE}(hl:PE X l tl):PI X tg l (zda tl):=by
 intro rB s σ H R I h;refine thn (hl rB s σ H _ I h) λv s1 ⟨y,H1,I1,r1,q1⟩=>?_;obtain⟨x,e,q⟩:=q1;subst e;obtain⟨t,rfl⟩:=r1
 have fin:∀(ty:String) (hty:["enumerate","zip","dict_itemiterator","dict_reverseitemiterator","odict_iterator","itertools.zip_longest","itertools.pairwise"].contains ty=rA)
   (W:∀A:nX,A.handled=rq->Walks X.prog X.w A s1⁻¹ [s1⁻¹] [s1⁻¹] x.cps.size (SignAt x) λi h=>h.IsStrIter s1⁻¹ ty x t i)
   (S:∀(A:nX) (i:Nat) (s:nR) (Q:nQ->nR->Prop) (E:nQ->nR->Prop),s.heap.IsStrIter s1⁻¹ ty x t i->Q (.ref s1⁻¹) s->nV (model X.prog X.w) A (pyIter (.ref s1⁻¹)) Q E s),
   PIE X rB σ tg R (.ref s1⁻¹) { s1 with heap:=s1.heap.push { cls:=.type ty,data:=.fields (List.toArray [.str x t,.int 0 0]) } }:=λty hty W S=>by
  refine#[s1⁻¹,[s1⁻¹],_,_,H1,rfl,I1.kept (t':=s1.toks) λb o e=>af _ e,Qm hty _ x t W S,#[_,aI _ rfl,rfl,rfl],λb hb=>?_,q];have e:b=s1⁻¹:=by simpa using hb
  subst e;exact I1.fpOk (ao _) (I1.hok.fresh (ao _))
 cases ha:x.cps.all (· < 128)
 ·exact wpAny_pyIter_wide ha (fin "str_iterator" ∅ (λA hA=>Walks.strWide hA _ x t) λA i s Q E st h=>wpAny_pyIter_striter_wide st h)
 ·exact wpAny_pyIter_ascii ha (fin "str_ascii_iterator" ∅ (λA hA=>Walks.strAscii hA _ x t) λA i s Q E st h=>wpAny_pyIter_striter_ascii st h)
end
theorem Jy{x:nW}{g:TG}{tb:TS}{D:va}{σ:St}{H:Hp}(Pv:Nat->St->Hp->Prop)(h0:Pv 0 σ H)
  (hs:∀i c σ H,(cs x)[i]? = rp c->Pv i σ H->g (.str (tx [c])) σ H λσ2 H2=>tb { D with nx:=Pv (i+1),ct:=Pv (i+1),bk:=D.nx } σ2 H2) (hd:∀σ H,Pv (cs x).length σ H->D.nx σ H) :
  ∃W:Nat->Nat->St->Hp->Prop,(∃m,W 0 m σ H)/\∀i m σ H,W i m σ H ->
   ((Its x).stop i H/\D.nx σ H)\/((Its x).go i H/\∃N:St->Hp->Prop,(∀σ' H',N σ' H'->∃m',m'<m/\W (i+1) m' σ' H')/\∀v H',(Its x).yld i H v H'->g v σ H' λσ2 H2=>tb { D with nx:=N,ct:=N,bk:=D.nx } σ2 H2):=by
 refine#[λi m σ H=>m=(cs x).length - i/\i<=(cs x).length/\Pv i σ H,#[(cs x).length,by simp,aB _,h0],?_];rintro i m σ H ⟨rfl,hi,p⟩;by_cases hlt:i<(cs x).length
 ·refine .inr #[hlt,Pv (i+1),λσ' H' p'=>#[(cs x).length - (i+1),⋯,rfl,hlt,p'],λv H' y=>?_];obtain⟨e,c,hc,ev⟩:=y;subst e ev;exact hs i c σ _ hc p
 ·have e:i=(cs x).length:=⋯;subst e;exact .inl #[rfl,hd σ H p]
noncomputable def Ite(x:nW):It:=#[λi _=>i<(cs x).length,λi H v H'=>∃p c,H p=rq/\(cs x)[i]? = rp c/\v=.ref p/\H'=upd H p (.tup [.int (i:Nat),.str (tx [c])]),λi _=>i=(cs x).length]
section
variable{X:Cx}
def zcw(ta:TA):TI:=λσ H R=>ta σ H λvs H1=>∃x,vs=[.str x]/\R (Ite x) H1
end
theorem vN{env:pB}:∀(names:List (nW × pi)) (rE:List (nW × nP)),
    (∀y,(y,NameKind.free) ∈ names->∃c,env.cells.lookup y=rp c)->(∀y c,rE.lookup y=rp c->env.cells.lookup y=rp c) ->
    ∃cl,(forIn names rE λ(x:nW × pi) (cs:List (nW × nP))=>if (x.2 == NameKind.free)=rz then (do let a <- cellOf env x.1;pure (ForInStep.yield ((x.1,a)::cs)))else pure (ForInStep.yield cs):rb (List (nW × nP)))=pure cl /\
      (∀y c,cl.lookup y=rp c->env.cells.lookup y=rp c)/\(∀y,(y,NameKind.free) ∈ names\/(rE.lookup y).isSome=rz->∃c,cl.lookup y=rp c)
  | [],rE,_,ha=>#[rE,rfl,ha,λy h=>by
      rcases h with h | h
      . cases h
      . exact rS.mp h]
  | (n,k)::r,rE,hn,ha=>by
    by_cases hk:k=NameKind.free
    . subst hk
      obtain⟨c,hc⟩:=hn n (by simp)
      have ha':∀y d,((n,c)::rE).lookup y=rp d->env.cells.lookup y=rp d:=λy d e=>by
        rw[aW]at e;by_cases hy:(y == n)=rz
        . rw[hy]at e
          have:y=n:=eq_of_beq hy;subst this;cases e;exact hc
        . have hy':(y == n)=rA:=by simpa using hy
          rw[hy']at e;exact ha y d e
      obtain⟨cl,e,h1,h2⟩:=vN r ((n,c)::rE) (λy hy=>hn y (ar _ hy)) ha';refine#[cl,?_,h1,λy hy=>h2 y ?_]
      . rw[eN]
        have ec:cellOf env n=pure c:=by unfold cellOf;rw[hc]
        erw[beq_self_eq_true,if_true,ec,pure_bind]
        exact e
      . rcases hy with hy | hy
        . rcases rH.mp hy with q | q
          . cases q
            exact .inr (by simp)
          . exact .inl q
        . refine .inr ?_
          rw[aW];by_cases hyn:(y == n)=rz
          . rw[hyn];rfl
          . have hy':(y == n)=rA:=by simpa using hyn
            rw[hy'];exact hy
    . obtain⟨cl,e,h1,h2⟩:=vN r rE (λy hy=>hn y (ar _ hy)) ha
      refine#[cl,?_,h1,λy hy=>h2 y ?_]
      . rw[eN]
        have ek:(k == NameKind.free)=rA:=by simpa using hk
        erw[ek,aY,if_false,pure_bind]
        exact e
      . rcases hy with hy | hy
        . rcases rH.mp hy with q | q
          . cases q;exact absurd rfl hk
          . exact .inl q
        . exact .inr hy
theorem vj{scope:oB}{env:pB}(hn:∀y,(y,NameKind.free) ∈ scope.names->∃c,env.cells.lookup y=rp c) :
  ∃cl,closureFor scope env=pure cl/\(∀y c,cl.lookup y=rp c->env.cells.lookup y=rp c)/\(∀y,(y,NameKind.free) ∈ scope.names->∃c,cl.lookup y=rp c):=by
 obtain⟨cl,e,h1,h2⟩:=vN scope.names [] hn (λy c h=>by cases h);refine#[cl,?_,h1,λy hy=>h2 y (.inl hy)];unfold closureFor
 erw[bind_pure]
 exact e
noncomputable abbrev WG(ifs:List nZ)(env:pB):rb Bool :=
 forIn ifs rz λc r=>if r=rz then (do let ok <- isTrue c env (eval c env);pure (ForInStep.yield ok))else pure (ForInStep.yield r)
theorem VT{prog:nU}{w:nY}{A:nX}{R:pJ->nR->Prop}{s:nR}{elt tg iter:nZ}{ifs:List nZ}{scope:oB}{pos:oJ}{it rE:nQ}{env:pB}
  (I:Nat->nR->Prop) {EE:nQ->nR->Prop} (hEE:EE=notedBy (model prog w) A env λe s'=>R (.error e) s')
  (turn:∀n s,I n s->nV (model prog w) A (pyNext it) (λr s1=>match r with
   | none=>R (.ok .next) s1
   | some v=>nV (model prog w) A (letOwnedTupleGo tg it v) (λ_ s2=>nV (model prog w) A (assign tg env v) (λ_ s3 =>
     nV (model prog w) A (WG ifs env) (λok s4=>if ok=rz then
      nV (model prog w) A (eval elt env) (λx s5=>nV (model prog w) A (call (.builtin "list.append") [rE,x]) (λ_ s6=>∃m,m<n/\I m s6) EE s5) EE s4
      else ∃m,m<n/\I m s4) EE s3) EE s2) EE s1) EE s) (n:Nat) (h:I n s) :
  oR (model prog w) A (.compLoop (.ListComp elt [#[tg,iter,ifs,0]] scope pos) 0 it rE env) R s:=by
 subst hEE;refine codeAny_loop rfl I (λn s hI=>?_) n h;show nV _ A ((compTurn (.ListComp elt [#[tg,iter,ifs,0]] scope pos) 0 it rE env).onRaise (λx=>do noteFrame x env;theTreesLotGoes x)) _ _ s;refine wpAny_noted ?_;rw[compTurn_list];refine nI (oF (nI (thn (turn n s hI) λr s1 h1=>?_)))
 cases r with
 | none=>exact nJ h1
 | some v =>
  refine nI (thn h1 λ_ s2 h2=>nI (thn h2 λ_ s3 h3=>nI (thn h3 λok s4 h4=>?_)))
  cases ok with
  | false=>exact nJ #[rfl,h4]
  | true=>exact nI (nI (thn h4 λx s5 h5=>nI (thn h5 λ_ s6 h6=>nJ (nJ #[rfl,h6]))))
noncomputable def yb(X:Cx)(scope:oB)(cl:List (nW × nP))(C:nP)(N:List nW)(rB:List (nP × ou))(s3:nR)(H3:Hp)(fp:List nP)(E:nQ->nR->Prop):Cx :=
 { X with N:=N,s₀:=s3,H₀:=H3,env:=compEnvC scope cl C X.env,outer:=X.stack,ex:=fp,fn:=λ_=>rA,pn:=X.pn ++ rB,xe:=E }
noncomputable def vU(σ:St)(own:Nat)(ix:()):St:=aJ own rq ++ ix.map λi=>(σ[i]?).join
structure qW(X:Cx)(scope:oB)(own caps:List nW)(ix:()):Prop where
 kind:scope.kind=.function
 nocell:∀y ∈ scope.names,y.2≠.cell
 names:∀y ∈ scope.names,y.2=.local->scope.names.lookup y.1=rp .local
 free:∀y,(y,NameKind.free) ∈ scope.names->X.env.kindOf y=rp .cell\/X.env.kindOf y=rp .free
 hown:∀y ∈ own,scope.names.lookup y=rp .local
 hcaps:∀y ∈ caps,scope.names.lookup y=rp .free
 hix:ix.map (λi=>X.N[i]?)=caps.map rp
theorem xB{α β:Type}[BEq α][LawfulBEq α]{l:List (α × β)}{a:α}{b:β}(h:l.lookup a=rp b):(a,b) ∈ l:=by
 induction l with
 | nil=>cases h
 | cons p r ih =>
  obtain⟨c,d⟩:=p;rw[aW]at h;by_cases e:(a == c)=rz
  ·rw[e]at h;cases h;rw[eq_of_beq e];exact az
  ·have e':(a == c)=rA:=by simpa using e
   rw[e']at h;exact ar _ (ih h)
theorem wM{scope:oB}{env:pB}(hf:env.scope.kind=.function):∀{names:List (nW × pi)} {x:nW} {k:pi},names.lookup x=rp k ->
    (names.map λ(n,k)=>if (k == NameKind.free && env.scope.kind == .function && env.kindOf n == rp .cell)then (n,NameKind.cell)else (n,k)).lookup x=rp (if (k == NameKind.free && env.scope.kind == .function && env.kindOf x == rp .cell)=rz then .cell else k)
  | [],_,_,h=>by simp at h
  | (n,k')::r,x,k,h=>by
    have ih:=@wM scope env hf r x k;show bj x ((if (k' == NameKind.free && env.scope.kind == .function && env.kindOf n == rp .cell)=rz then (n,NameKind.cell)else (n,k'))::_)=_;by_cases hx:(x == n)=rz
    . have hxn:x=n:=eq_of_beq hx
      subst hxn;rw[aW,hx]at h;cases h;by_cases c:(k' == NameKind.free && env.scope.kind == .function && env.kindOf x == rp .cell)=rz
      . rw[if_pos c,if_pos c,aW,hx]
      . rw[if_neg c,if_neg c,aW,hx]
    . have hx':(x == n)=rA:=by simpa using hx
      rw[aW,hx']at h;by_cases c:(k' == NameKind.free && env.scope.kind == .function && env.kindOf n == rp .cell)=rz
      . rw[if_pos c,aW,hx'];exact ih h
      . rw[if_neg c,aW,hx'];exact ih h
theorem v0{scope:oB}{env:pB}:∀{names:List (nW × pi)} {x:nW},names.lookup x=rq ->
    (names.map λ(n,k)=>if (k == NameKind.free && env.scope.kind == .function && env.kindOf n == rp .cell)then (n,NameKind.cell)else (n,k)).lookup x=rq
  | [],_,_=>rfl
  | (n,k')::r,x,h=>by
    have ih:=@v0 scope env r x;show bj x ((if (k' == NameKind.free && env.scope.kind == .function && env.kindOf n == rp .cell)=rz then (n,NameKind.cell)else (n,k'))::_)=_;by_cases hx:(x == n)=rz
    . rw[aW,hx]at h;cases h
    . have hx':(x == n)=rA:=by simpa using hx
      rw[aW,hx']at h;by_cases c:(k' == NameKind.free && env.scope.kind == .function && env.kindOf n == rp .cell)=rz
      . rw[if_pos c,aW,hx'];exact ih h
      . rw[if_neg c,aW,hx'];exact ih h
section
variable{X:Cx}{scope:oB}{own caps:List nW}{ix:()}{cl:List (nW × nP)}{rB:List (nP × ou)}{σ:St}{H:Hp}{s:nR}{fp:List nP}{E:nQ->nR->Prop}
theorem Xl(S:qW X scope own caps ix)(hcl1:∀y c,cl.lookup y=rp c->X.env.cells.lookup y=rp c)(hcl2:∀y,(y,NameKind.free) ∈ scope.names->∃c,cl.lookup y=rp c)
  (I:Inv X rB σ H s) (hfp:∀b ∈ fp,xE X rB H b) (hlt:∀b ∈ fp,b<s⁻¹) {h4:oa} {t4:Nat} (hn:h4.Ns s⁻¹ λ_=>rq) (hk:∀b o,s.heap.get? b=rp o->h4.get? b=rp o) :
  Inv (yb X scope cl s⁻¹ (own ++ caps) rB s H fp E) [] (vU σ own.length ix) H { s with heap:=h4,toks:=t4 }:=by
 have kf:X.env.scope.kind=.function:=I.ok.kind;have nofp:∀b ∈ fp,b≠s⁻¹:=λb hb=>ax (hlt b hb)
 have cellLt:∀x c,X.env.cells.lookup x=rp c->c<s⁻¹:=λx c e=>by
  obtain⟨v,o,ho,_⟩:=I.cell x c e;exact au ho
 have kinds:∀y k,scope.names.lookup y=rp k->(relabel scope X.env).names.lookup y=rp (if (k == NameKind.free && X.env.scope.kind == .function && X.env.kindOf y == rp .cell)=rz then .cell else k):=λy k e=>wM (scope:=scope) kf e
 have back:∀y k,(relabel scope X.env).names.lookup y=rp k->∃k',scope.names.lookup y=rp k'/\k=(if (k' == NameKind.free && X.env.scope.kind == .function && X.env.kindOf y == rp .cell)=rz then .cell else k'):=λy k e=>by
  cases q:scope.names.lookup y with
  | none =>
   have:=v0 (scope:=scope) (env:=X.env) q;have e':(scope.names.map λ(n,k)=>if (k == NameKind.free && X.env.scope.kind == .function && X.env.kindOf n == rp .cell)then (n,NameKind.cell)else (n,k)).lookup y=rp k:=e;rw[this]at e';cases e'
  | some k' =>
   refine#[k',rfl,?_];have:=kinds y k' q;rw[e]at this;exact Option.some.inj this
 have isCell:∀y,scope.names.lookup y=rp .free->(relabel scope X.env).names.lookup y=rp .cell\/(relabel scope X.env).names.lookup y=rp .free:=λy e=>by
  have:=kinds y _ e;rcases S.free y (xB e)with q | q
  ·refine .inl ?_;rw[this,if_pos];rw[q,kf];rfl
  ·refine .inr ?_;rw[this,if_neg];rw[q];simp
 refine#[#[I.ok.mod,?_,I.ok.glob,I.ok.blt,ao _,?_,?_,?_,I.ok.hd,I.ok.frames,.inl rfl,?_,I.bs,aL I.ok.bsz I.sz,?_,?_,I.stack,I.stkFree],rfl,I.bare,Un.kept hk,#[_,hn,?_],?_,?_,?_,?_,I.hok.kept hk,?_]
 ·show (relabel scope X.env).kind=.function;exact S.kind
 ·intro x y c h1 h2;exact I.ok.inj x y c (hcl1 x c h1) (hcl1 y c h2)
 ·intro y hy;have hy':(relabel scope X.env).names.lookup y=rp .cell\/(relabel scope X.env).names.lookup y=rp .free:=hy
  have:scope.names.lookup y=rp .free:=by
   rcases hy' with q | q
   ·obtain⟨k',e,ek⟩:=back y _ q;by_cases c:(k' == NameKind.free && X.env.scope.kind == .function && X.env.kindOf y == rp .cell)=rz
    ·rw[ba,ba]at c;rw[e,eq_of_beq c.1.1]
    ·rw[if_neg c]at ek;exact absurd ek.symm (S.nocell _ (xB e))
   ·obtain⟨k',e,ek⟩:=back y _ q;by_cases c:(k' == NameKind.free && X.env.scope.kind == .function && X.env.kindOf y == rp .cell)=rz
    ·rw[if_pos c]at ek;cases ek
    ·rw[if_neg c]at ek;rw[e,<- ek]
  exact hcl2 y (xB this)
 ·intro x c h _;exact absurd h (by simp [yb])
 ·intro b hb;refine#[nofp b hb,λx c e=>?_];exact (hfp b hb).2.2.2.2.1 x c (hcl1 x c e)
 ·intro b o e hb;obtain⟨_,_,_,q,_⟩:=hfp b hb;rcases q with q | q
  ·exact I.ok.noex b o e q
  ·exact absurd (av (au e) (aL I.ok.bsz q)) (cw _)
 ·intro b hb z;rcases rH.mp (I.stkSub b z)with e | e
  ·exact (hfp b hb).2.1 e
  ·exact (hfp b hb).2.2.1 e
 ·intro i y v h1 h2 h3
  have hi:own.length<=i:=by
   refine cF λhlt'=>?_;unfold vU at h2;rw[cT (by rw[bE];exact hlt'),eJ,if_pos hlt']at h2;cases h2
  have h1':caps[i - own.length]? = rp y:=by
   have:(own ++ caps)[i]? = rp y:=h1;rw[ci hi]at this;exact this
  have h2':(ix.map λi=>(σ[i]?).join)[i - own.length]? = rp (rp v):=by
   unfold vU at h2;rw[ci (by rw[bE];exact hi),bE]at h2;exact h2
  rw[ay]at h2';have hx:=congrArg (λl=>l[i - own.length]?) S.hix
  erw[ay,h1',Option.map_some]at hx
  cases q:ix[i - own.length]? with
  | none=>rw[q]at h2';cases h2'
  | some j =>
   rw[q]at h2' hx;have hj:X.N[j]? = rp y:=Option.some.inj hx;have hv:(σ[j]?).join=rp v:=Option.some.inj h2'
   have hσ:σ[j]? = rp (rp v):=by
    cases r:σ[j]? with
    | none=>rw[r]at hv;cases hv
    | some z=>rw[r]at hv;cases z with
     | none=>cases hv
     | some z=>cases hv;rfl
   have hfree:scope.names.lookup y=rp .free:=S.hcaps y (ag h1');have hkc:=S.free y (xB hfree);obtain⟨m,hm,hl⟩:=I.loc;obtain⟨u,ru,l⟩:=hl j y v hj hσ (.inr hkc);refine#[u,ru,.inr #[isCell y hfree,?_]];rcases l with ⟨k,_⟩ | ⟨_,c,e,z⟩
   ·have:X.env.kindOf y=rp .local:=k;rcases hkc with q' | q' <;> (rw[q']at this;cases this)
   ·obtain⟨c',e'⟩:=hcl2 y (xB hfree);have:=hcl1 y c' e';rw[e]at this;cases this;obtain⟨o,ho,hd⟩:=z;exact#[c,e',o,hk c o ho,hd]
 ·intro x c e;obtain⟨v,o,ho,hd⟩:=I.cell x c (hcl1 x c e);exact#[v,o,hk c o ho,hd]
 ·exact I.hok.fresh (ao _)
 ·intro x c e;exact I.freeC x c (hcl1 x c e)
 ·intro p hp
  have hp':p ∈ X.pn ++ rB:=by
   have:p ∈ (X.pn ++ rB) ++ []:=hp
   rwa [aX]at this
  obtain⟨e,n,ne,nf,d⟩:=I.pin p hp';refine#[hk _ _ e,n,?_,λz=>?_,d]
  ·exact ax (au e)
  ·rcases rH.mp (I.stkSub p.1 z)with q | q
   ·exact ne q
   ·exact nf q
 ·show (vU σ own.length ix).length=(own ++ caps).length;have:=congrArg fL S.hix;rw[ac,ac]at this;unfold vU;rw[am,bE,ac,am,this]
end
def xv(σ σ':St):Prop:=σ.length=σ'.length/\∀(i:Nat) v,σ[i]? = rp (rp v)->σ'[i]? = rp (rp v)
def PTs(X:Cx)(ifs:List nZ)(t:TT):Prop :=
 ∀(rB:List (nP × ou)) (s:nR) (σ:St) (H:Hp) (Q:Bool->Hp->Prop),Inv X rB σ H s->t σ H Q->nV (model X.prog X.w) X.A (WG ifs X.env) (TP X rB σ Q) X.xe s
def xQ:TT:=λ_ H Q=>Q rz H
theorem yd{X:Cx}:PTs X [] xQ:=λ_ _ _ H _ I h=>nJ #[H,I,h]
theorem VV{X:Cx}{c:nZ}{t:TT}(h:PT X c t):PTs X [c] t:=λrB s σ H Q I hq=>by
 show nV _ _ (forIn [c] rz _) _ _ s
 erw[eN,List.forIn_nil,if_true]
 exact nI (nI (thn (h rB s σ H Q I hq) λb s' hb=>nJ (nJ hb)))
def j7(wi:TI)(g:TG)(tt:TT)(te:TE)(own:Nat)(ix:()):TE:=λσ H Q=>wi σ H λJ H1=>∀D,H1 D=rq->∃W:Nat->Nat->List V->Hp->Prop,(∃m,W 0 m [] (upd H1 D (.lst []))) /\
 ∀i m rE H',W i m rE H'->(J.stop i H'/\Q (.ref D) H')\/(J.go i H'/\∀x H2,J.yld i H' x H2->g x (vU σ own ix) H2 λσ3 H3=>xv (vU σ own ix) σ3/\tt σ3 H3 λb H4=>if b=rz then
  te σ3 H4 λv H5=>H5 D=rp (.lst rE)/\rE.length<nN/\∃m',m'<m/\W (i+1) m' (rE ++ [v]) (upd H5 D (.lst (rE ++ [v])))
  else ∃m',m'<m/\W (i+1) m' rE H4)
theorem Un.but{fs ex:List nP}{H H':Hp}{h h1 h2:oa}{a:nP}(u:Un fs ex H H' h h1)(sb:Heap.SameBut a h1 h2)(ha:h.get? a=rq):Un fs ex H H' h h2:=by
 have ne:∀b o,h.get? b=rp o->b≠a:=λb o e z=>by subst z;rw[ha]at e;cases e
 refine#[λb o e n hb hx=>(sb.2 b (ne b o e)).trans (u.keep b o e n hb hx),λb o e n hb hx=>?_,u.free,λb o e hx=>?_,u.tups,u.frzs,u.tbls]
 ·obtain⟨sl,q⟩:=u.slot b o e n hb hx;exact#[sl,(sb.2 b (ne b o e)).trans q]
 ·obtain⟨o',q⟩:=u.there b o e hx;exact#[o',(sb.2 b (ne b o e)).trans q]
theorem HOk.but{P:nU}{w:nY}{H:Hp}{h1 h2:oa}{a:nP}(ok:HOk P w H h1)(sb:Heap.SameBut a h1 h2)(ha:H a=rq):HOk P w H h2:=λb ob e=>by
 refine (ok b ob e).stay (λc u hc q=>(sb.2 c ?_).trans q) (λ_ q=>q) λ_ _ q=>q;rintro rfl;rcases hc with rfl | hc
 ·rw[ha]at e;cases e
 ·rw[ha]at hc;cases hc
section
variable{X:Cx}{scope:oB}{own caps:List nW}{ix:()}{elt tg iter:nZ}{ifs:List nZ}{pos:oJ}{wi:TI}{g:TG}{tt:TT}{te:TE}
def jB(i:Nat)(t:TE):TS:=λD σ H=>t σ H λx H1=>D.nx (σ.set i (rp x)) H1
end
section
variable{X:Cx}{a b:nZ}{ta tb:TE}{pos:oJ}
def Xv:R2:=λx y H Q=>match x with | .int i=>onInt y λj=>Q (.int (i+j)) H | .str i=>onStr y λj=>i.length+j.length<=nN/\Q (.str (i ++ j)) H | .ref l=>zar (.ref l) y H Q | _=>False
theorem Z4:OpR X (binaryOp .Add) Xv:=by
 intro rB s σ H x y v u Q I rx ry h
 cases x with
 | int i=>exact yF rB s σ H (.int i) y v u Q I rx ry h
 | str i=>exact zJ rB s σ H (.str i) y v u Q I rx ry (by obtain⟨j,rfl,q⟩:=onStr.of h;exact#[i,j,rfl,rfl,q])
 | ref l=>exact jc rB s σ H (.ref l) y v u Q I rx ry h
 | _=>exact h.elim
def KF:R2:=λx y H Q=>match x with | .int i=>onInt y λj=>CMul i j/\Q (.int (i * j)) H | .str z=>onInt y λn=>0<=n/\n<=1000/\z.length<=1000/\Q (.str (tx (aJ n.toNat (cs z)).flatten)) H | _=>False
theorem WE:OpR X (binaryOp .Mult) KF:=by
 intro rB s σ H x y v u Q I rx ry h
 cases x with
 | int i=>exact jg rB s σ H (.int i) y v u Q I rx ry h
 | str z=>exact XQ rB s σ H (.str z) y v u Q I rx ry (by obtain⟨n,rfl,q⟩:=onInt.of h;exact#[z,n,rfl,rfl,q])
 | _=>exact h.elim
def zc6:R2:=λx y H Q=>match x with | .int i=>onInt y λj=>Q (.bl (decide (i<j))) H | .str i=>onStr y λj=>Q (.bl (decide (cs i<cs j))) H | _=>False
theorem zbb:OpR X (og .Lt) zc6:=by
 intro rB s σ H x y v u Q I rx ry h
 cases x with
 | int i=>exact VH rB s σ H (.int i) y v u Q I rx ry h
 | str i=>exact op_lt_str' rB s σ H (.str i) y v u Q I rx ry (by obtain⟨j,rfl,q⟩:=onStr.of h;exact#[i,j,rfl,rfl,q])
 | _=>exact h.elim
def zdh:R2:=λx y H Q=>match x with | .int i=>onInt y λj=>Q (.bl (decide (i<=j))) H | .str i=>onStr y λj=>Q (.bl (!(decide (cs j<cs i)))) H | _=>False
theorem jd:OpR X (og .LtE) zdh:=by
 intro rB s σ H x y v u Q I rx ry h
 cases x with
 | int i=>exact zc9 rB s σ H (.int i) y v u Q I rx ry h
 | str i=>exact Ve rB s σ H (.str i) y v u Q I rx ry (by obtain⟨j,rfl,q⟩:=onStr.of h;exact#[i,j,rfl,rfl,q])
 | _=>exact h.elim
theorem V2:OpR X (og .Gt) (λx y H Q=>∃i j,x=.str i/\y=.str j/\Q (.bl (decide (cs j<cs i))) H):=by
 intro rB s σ H x y v u Q I rx ry h;obtain⟨i,j,rfl,rfl,q⟩:=h;obtain⟨t,rfl⟩:=rx;obtain⟨t',rfl⟩:=ry;exact PySem.P.gt_str #[.bl _,H,I,rfl,q]
def zb9:R2:=λx y H Q=>match x with | .int i=>onInt y λj=>Q (.bl (decide (j<i))) H | .str i=>onStr y λj=>Q (.bl (decide (cs j<cs i))) H | _=>False
theorem X5:OpR X (og .Gt) zb9:=by
 intro rB s σ H x y v u Q I rx ry h
 cases x with
 | int i=>exact UN rB s σ H (.int i) y v u Q I rx ry h
 | str i=>exact V2 rB s σ H (.str i) y v u Q I rx ry (by obtain⟨j,rfl,q⟩:=onStr.of h;exact#[i,j,rfl,rfl,q])
 | _=>exact h.elim
def zcS(K:nO):V->Option Int->Option Int->Hp->VK->Prop:=λx lo hi H Q=>match x with | .ref a=>zbY K (.ref a) lo hi H Q | .str z=>zb0 (.str z) lo hi H Q | _=>False
theorem zaA:SlR X (zcS X.K):=by
 intro rB s σ H x v vl vu lo hi sl Q I rx hs pl pu h
 cases x with
 | ref a=>exact jr rB s σ H (.ref a) v vl vu lo hi sl Q I rx hs pl pu h
 | str z=>exact wb rB s σ H (.str z) v vl vu lo hi sl Q I rx hs pl pu h
 | _=>exact h.elim
noncomputable def cV:V->Option nQ
 | .ty n=>rp (.type n)
 | .ref a=>rp (.ref a)
 | _=>rq
theorem Qy:vz X (.builtin "isinstance") (λxs H Q=>∃x c u t b,xs=[x,c]/\cV c=rp u/\Y0 X.K H x t/\aS X.K t u=rp b/\Q (.bl b) H):=by
 intro rB s σ H xs us Q I r h;obtain⟨x,c,u,t,b,rfl,hc,ty,e,q⟩:=h;obtain⟨v,w',rfl,rx,rc⟩:=U3 r
 have:w'=u:=by
  cases c with
  | ty n=>cases hc;exact rc
  | ref a=>cases hc;exact rc
  | _=>cases hc
 subst this;exact W6 I rx ty e λtk=>#[.bl b,H,I.tok tk,rfl,q]
end
noncomputable def Iel(K:nO)(a:nP):It:=#[λi H=>∃xs x,SqL K H a xs/\xs[i]? = rp x,λi H v H'=>∃p x,H p=rq/\(∀xs,SqL K H a xs->xs[i]? = rp x)/\v=.ref p/\H'=upd H p (.tup [.int (i:Nat),x]),λi H=>∃xs,SqL K H a xs/\i=xs.length]
theorem XF{P:nU}{w:nY}{K:nO}{elts:List nZ}{x1:Nat}{tpos:oJ}(e it a:nP)(hei:e≠it) :
  Kn P w K (.Tuple elts x1 tpos) (Iel K a) [e,it] e (λi h=>(∃old,IsEnum h e it i old)/\h.IsListIter it a i) where
 mem:=by simp
 obj:=λi h st b hb=>by
  obtain⟨⟨old,he⟩,o,e2,c,d⟩:=st;rcases rH.mp hb with q | q
  ·subst q;exact#[_,he,λv z=>by have z':Data.fields _=Data.cell v:=z;cases z']
  ·have q':b=it:=by simpa using q
   subst q';exact#[o,e2,λv z=>by rw[d]at z;cases z]
 keep:=λi h h' st k=>by
  obtain⟨⟨old,he⟩,st⟩:=st;exact#[#[old,k e (by simp) _ he],st.at λo q=>k it (by simp) o q]
 item:=by
  intro X hP hw hK hc i rB s σ H E I hf st hg;subst hP hw hK;obtain⟨⟨old,he⟩,st⟩:=st;obtain⟨xs,x,hq,hx⟩:=hg;obtain⟨its,rv,p,hz⟩:=I.list hq;obtain⟨u,hu,ru⟩:=rv.get hx;have hA:X.A.in1.handled=rq:=I.ok.hd hc;have pl:=p.isList
  have hai:a≠it:=λz=>by
   subst z;obtain⟨o1,q1,c1,_⟩:=st;obtain⟨o2,q2,c2,_⟩:=pl;rw[q1]at q2;cases q2;rw[c1]at c2;exact absurd (Value.type.inj c2) ∅
  have hea:e≠a:=λz=>by
   subst z;obtain⟨o2,q2,c2,_⟩:=pl;rw[he]at q2;cases q2;exact absurd (Value.type.inj c2) ∅
  refine wpAny_pyNext_enum_itemD (Draws.list (A:=X.A.in1) hA it a hai its.toArray) he #[st,pl] (by rw[ah];exact (rG.mp hu).1) hei (by simp [hei,hea]) λv h' tk hv ho st' hT hsz kk=>?_
  have ev:v=u:=by
   have hv':its.toArray[i]? = rp v:=hv;rw[List.getElem?_toArray,hu]at hv';exact (Option.some.inj hv').symm
  subst ev;refine#[_,rfl,wpAny_letOwnedTupleGo_enum ho λh2 he2 sb=>?_];have elt:e<s⁻¹:=au he;have ilt:it<s⁻¹:=by obtain⟨o,q,_⟩:=st;exact au q
  have I1:Inv X rB σ H { s with heap:=h2,toks:=tk+1 }:=Inv.turns (fp:=[e,it]) I (λb o hb q=>by
   have hb':b≠e/\b≠it:=by simpa using hb
   exact (sb.2 b hb'.1).trans (kk b o hb'.1 hb'.2 q)) hf
  have hp:H s⁻¹=rq:=I.hok.fresh (ao _);have hT2:h2.get? s⁻¹=rp { cls:=.type "tuple",data:=.seq (List.toArray [.int (i:Nat) tk,v]) }:=(sb.2 _ (cr elt)).trans hT
  have I2:Inv X rB σ (upd H s⁻¹ (.tup [.int (i:Nat),x])) { s with heap:=h2,toks:=tk+1 } :=
   Inv.track I1 (I.fpOk (ao _) hp) #[by show 2<=nN;decide,[.int (i:Nat) tk,v],.cons #[_,rfl] (.cons ru .nil),#[_,hT2,rfl,_,rfl]]
  refine#[.ref s⁻¹,_,I2,rfl,#[s⁻¹,x,hp,λys hy=>by rw[I.list_inj hy hq];exact hx,rfl,rfl],#[#[_,by simpa using he2],?_],λb hb=>?_]
  ·exact st'.1.at λo q=>(sb.2 it (Ne.symm hei)).trans q
  ·rw[zp]
   ·exact (hf b hb).1
   ·rcases rH.mp hb with q | q
    ·rw[q];exact ax elt
    ·have q':b=it:=by simpa using q
     rw[q'];exact ax ilt
 done:=by
  intro X hP hw hK hc i rB s σ H E I hf st hg;subst hP hw hK;obtain⟨⟨old,he⟩,st⟩:=st;obtain⟨xs,hq,hi⟩:=hg;obtain⟨its,rv,p,hz⟩:=I.list hq;have pl:=p.isList
  have hai:a≠it:=λz=>by
   subst z;obtain⟨o1,q1,c1,_⟩:=st;obtain⟨o2,q2,c2,_⟩:=pl;rw[q1]at q2;cases q2;rw[c1]at c2;exact absurd (Value.type.inj c2) ∅
  have hA:X.A.in1.handled=rq:=I.ok.hd hc;have hi':i=its.toArray.size:=by rw[ah,<- rv.length];exact hi
  subst hi';refine wpAny_pyNext_enum_endD (Draws.list (A:=X.A.in1) hA it a hai its.toArray) he #[st,pl] λh' hx=>#[rfl,?_];exact Inv.turns (fp:=[e,it]) (t':=s.toks) I (λb o hb q=>hx b o (λz=>hb (by simp [z])) q) hf
 self:=λA i s Q E st h=>by
  obtain⟨⟨old,he⟩,_⟩:=st;exact pP he h
section
variable{X:Cx}
def WS(K:nO)(ta:TA):TI:=λσ H R=>ta σ H λvs H1=>∃a,vs=[.ref a]/\(∃xs,SqL K H1 a xs)/\R (Iel K a) H1
theorem wC{a:nZ}{ta:TA}{p pos tpos:oJ}{elts:List nZ}{x1:Nat}(hg:Gl X "enumerate")(hm:X.mg "enumerate" = rq)(ha:PA X [a] ta)(hs:nM [a] X.env=[(rA,eval a X.env)]:=by rfl) :
  PI X (.Tuple elts x1 tpos) (.Call (.Name "enumerate" p) [a] [] pos) (WS X.K ta):=by
 intro rB s σ H R I h;refine Call_ (vx I hg hm PyProof.Rows.boot_enumerate (bJ (thn (ha pos rB s σ H _ I h) λus s1 ⟨vs,H1,I1,r1,q1⟩=>?_) hs rfl));obtain⟨l,e,⟨xs,hq⟩,q⟩:=q1;subst e;obtain⟨u,rfl,ru⟩:=xP r1;cases ru;obtain⟨its,rv,pl,hz⟩:=I1.list hq;refine call_enumerate_list pl.isList λh' he hit hsz kk=>?_;have I2:Inv X rB σ H1 { s1 with heap:=h' }:=I1.kept (t':=s1.toks) kk;refine pP (s:={ s1 with heap:=h' }) (i:=0) he ?_;refine#[s1⁻¹+1,[s1⁻¹+1,s1⁻¹],_,_,H1,rfl,I2,XF _ _ l (Nat.succ_ne_self _),#[#[_,he],hit],λb hb=>?_,q]
 have hb':s1⁻¹<=b:=by
  rcases rH.mp hb with e | e
  ·rw[e];exact cq _
  ·have:b=s1⁻¹:=by simpa using e
   rw[this];exact ao _
 exact I1.fpOk hb' (I1.hok.fresh hb')
end
def ForEL(K:nO)(a:nP)(g:TG)(tb:TS)(D:va)(σ:St)(H:Hp):Prop:=∃W:Nat->Nat->St->Hp->Prop,(∃m,W 0 m σ H)/\∀i m σ H,W i m σ H ->
 ((Iel K a).stop i H/\D.nx σ H)\/((Iel K a).go i H/\∃N:St->Hp->Prop,(∀σ' H',N σ' H'->∃m',m'<m/\W (i+1) m' σ' H')/\∀x H',(Iel K a).yld i H x H'->g x σ H' λσ2 H2=>tb { D with nx:=N,ct:=N,bk:=D.nx } σ2 H2)
theorem zbI{K:nO}{ta:TA}{g:TG}{tb:TS}{D:va}{σ:St}{H:Hp}:U8 (WS K ta) g tb D σ H=ta σ H λvs H1=>∃a,vs=[.ref a]/\(∃xs,SqL K H1 a xs)/\ForEL K a g tb D σ H1:=rfl
theorem ForEL.by{K:nO}{a:nP}{xs:List V}{g:TG}{tb:TS}{D:va}{σ:St}{H:Hp}(Pv:Nat->St->Hp->Prop)(h0:Pv 0 σ H)(hl:∀i σ H,i<=xs.length->Pv i σ H->SqL K H a xs)
  (hs:∀i x σ H p,xs[i]? = rp x->Pv i σ H->H p=rq->g (.ref p) σ (upd H p (.tup [.int (i:Nat),x])) λσ2 H2=>tb { D with nx:=Pv (i+1),ct:=Pv (i+1),bk:=D.nx } σ2 H2) (hd:∀σ H,Pv xs.length σ H->D.nx σ H):ForEL K a g tb D σ H:=by
 refine#[λi m σ H=>m=xs.length - i/\i<=xs.length/\Pv i σ H,#[xs.length,by simp,aB _,h0],?_];rintro i m σ H ⟨rfl,hi,p⟩;have q:=hl i σ H hi p;by_cases hlt:i<xs.length
 ·refine .inr #[#[xs,xs[i],q,by simp [hlt]],Pv (i+1),λσ' H' p'=>#[xs.length - (i+1),⋯,rfl,hlt,p'],λv H' y=>?_];obtain⟨p',x,hp,hx,ev,eH⟩:=y;subst ev eH;exact hs i x σ H p' (hx xs q) p hp
 ·have e:i=xs.length:=⋯;subst e;exact .inl #[#[xs,q,rfl],hd σ H p]
def zd3(K:nO)(a:nP)(g:TG)(tb:TS)(D:va)(σ:St)(H:Hp):Prop:=∃W:Nat->Nat->St->Hp->Prop,(∃m,W 0 m σ H)/\∀i m σ H,W i m σ H ->
 ((Itt K a).stop i H/\D.nx σ H)\/((Itt K a).go i H/\∃N:St->Hp->Prop,(∀σ' H',N σ' H'->∃m',m'<m/\W (i+1) m' σ' H')/\∀x H',(Itt K a).yld i H x H'->g x σ H' λσ2 H2=>tb { D with nx:=N,ct:=N,bk:=D.nx } σ2 H2)
theorem zdu{K:nO}{tl:TE}{g:TG}{tb:TS}{D:va}{σ:St}{H:Hp}:U8 (zd7 K tl) g tb D σ H=tl σ H λx H1=>∃a,x=.ref a/\(∃xs,SqT K H1 a xs)/\zd3 K a g tb D σ H1:=rfl
def zdc(K:nO)(x:V)(H:Hp)(p:Bool->Prop):Prop:=match x with | .bl b=>p b | x=>∃k,zbt K x H k/\p k
def tTr(K:nO)(ta:TE):TT:=λσ H Q=>ta σ H λx H'=>zdc K x H' λk=>Q k H'
theorem JR{K:nO}{ta:TE}{σ:L2.St}{H:Hp}{Q:Bool->Hp->Prop}:tTr K ta σ H Q=ta σ H λx H'=>zdc K x H' λk=>Q k H':=rfl
def tBl(ta:TE):TT:=λσ H Q=>ta σ H λx H'=>onBl x λk=>Q k H'
theorem zah{ta:TE}{σ:L2.St}{H:Hp}{Q:Bool->Hp->Prop}:tBl ta σ H Q=ta σ H λx H'=>onBl x λk=>Q k H':=rfl
section
variable{X:Cx}{a:nZ}{ta:TE}
theorem yT(ha:PE X a ta)(he:∀whole,isTrue a X.env whole=(do let v <- whole;standAt a.pos;holding [v] (truthy v))):PT X a (tBl ta):=by
 intro rB s σ H Q I h;refine isTrue_plain (thn (ha rB s σ H _ I h) λv s1 ⟨x,H1,I1,r1,q1⟩=>?_) (he _);obtain⟨k,rfl,q1⟩:=onBl.of q1;exact Jq rB s1 σ H1 (.bl k) v Q I1 r1 #[k,rfl,q1]
end
noncomputable def Irv(K:nO)(a:nP)(n:Nat):It:=#[λi H=>∃xs,SqL K H a xs/\xs.length=n/\i<n,λi H v H'=>H'=H/\∀xs,SqL K H a xs->xs.length=n->xs[n - 1 - i]? = rp v,λi H=>i=n]
theorem Qw{P:nU}{w:nY}{K:nO}{tg:nZ}(a it:nP)(n:Nat):Kn P w K tg (Irv K a n) [it] it (λi h=>i<=n/\h.IsRevIter it a ((n:Int) - 1 - (i:Int))) where
 mem:=by simp
 obj:=λi h st b hb=>by
  have e:b=it:=by simpa using hb
  subst e;obtain⟨_,o,e,c,d⟩:=st;exact#[o,e,λv z=>by rw[d]at z;cases z]
 keep:=λi h h' st k=>#[st.1,st.2.at λo e=>k it (by simp) o e]
 item:=by
  intro X hP hw hK hc i rB s σ H E I hf st hg;subst hP hw hK;obtain⟨xs,hq,hn,hi⟩:=hg;obtain⟨its,rv,p,hz⟩:=I.list hq;obtain⟨f0,f1,f2,f3,f4,f5⟩:=hf it (by simp);have hx:xs[n - 1 - i]? = rp (xs[n - 1 - i]'⋯):=ae ⋯;generalize xs[n - 1 - i]'⋯=x at hx;obtain⟨u,hu,ru⟩:=rv.get hx;have st2:=st.2;have e:(n:Int) - 1 - (i:Int)=((n - 1 - i:Nat):Int):=⋯;rw[e]at st2;refine wpAny_pyNext_rev_item st2 p.isList (x:=u) (by simpa using hu) λh' st' sb=>?_;have I1:Inv X rB σ H { s with heap:=h' }:=I.turned (t':=s.toks) (λb o hb e=>(sb.2 b hb).trans e) f0 f1 f3 f4 f5;have e2:((n - 1 - i:Nat):Int) - 1=(n:Int) - 1 - ((i+1:Nat):Int):=⋯;rw[e2]at st';obtain⟨o,e,c,d⟩:=id st';exact#[u,rfl,Qk (s:={ s with heap:=h' }) e c d ∅ #[x,H,I1,ru,#[rfl,λys hy _=>by rw[I.list_inj hy hq];exact hx],#[hi,st'],λb hb=>(hf b hb).1]]
 done:=by
  intro X hP hw hK hc i rB s σ H E I hf st hg;subst hP hw hK;obtain⟨f0,f1,f2,f3,f4,f5⟩:=hf it (by simp);have hi:i=n:=hg;have st2:=st.2;rw[hi,show (n:Int) - 1 - (n:Int)=-1 by lia]at st2;exact wpAny_pyNext_rev_end (I.ok.hd hc) st2 λh' eb=>#[rfl,I.turned (t':=s.toks) (λb o hb e=>eb b o hb e) f0 f1 f3 f4 f5]
 self:=λ_ _ _ _ _ st h=>pD st.2 h
theorem Qr:ow "reversed" = rp (.type "reversed"):=PyProof.Rows.boot_reversed
section
variable{X:Cx}{tg:nZ}
def zdv(K:nO)(ta:TA):TI:=λσ H R=>ta σ H λvs H1=>∃a xs,vs=[.ref a]/\SqL K H1 a xs/\R (Irv K a xs.length) H1
theorem zau{a:nZ}{ta:TA}{p pos:oJ}(hg:Gl X "reversed")(hm:X.mg "reversed" = rq)(ha:PA X [a] ta)(hs:nM [a] X.env=[(rA,eval a X.env)]:=by rfl) :
  PI X tg (.Call (.Name "reversed" p) [a] [] pos) (zdv X.K ta):=by
 intro rB s σ H R I h;refine Call_ (vx I hg hm Qr (bJ (thn (ha pos rB s σ H _ I h) λus s1 ⟨vs,H1,I1,r1,q1⟩=>?_) hs rfl));obtain⟨l,xs,e,hq,q⟩:=q1;subst e;obtain⟨u,rfl,ru⟩:=xP r1;cases ru;obtain⟨its,rv,pl,hz⟩:=I1.list hq;have hn:its.toArray.size=xs.length:=by rw[ah,<- rv.length]
 refine call_reversed_list pl.isList ?_
 have hit:(s1.heap.push (revObj l ((its.toArray.size:Int) - 1))).IsRevIter s1⁻¹ l ((xs.length:Int) - 1 - ((0:Nat):Int)):=by
  refine#[_,aI _ rfl,rfl,?_];rw[hn,show (xs.length:Int) - 1 - ((0:Nat):Int)=(xs.length:Int) - 1 by lia];rfl
 refine pD (s:={ s1 with heap:=s1.heap.push (revObj l ((its.toArray.size:Int) - 1)) }) hit ?_;refine#[s1⁻¹,[s1⁻¹],_,_,H1,rfl,I1.kept (t':=s1.toks) λb o e=>af _ e,Qw l _ xs.length,#[aB _,hit],λb hb=>?_,q];have e:b=s1⁻¹:=by simpa using hb
 subst e;exact I1.fpOk (ao _) (I1.hok.fresh (ao _))
end
section
variable{prog:nU}{w:nY}{A:nX}{E:nQ->nR->Prop}{s:nR}
end
section
variable{X:Cx}
def zcn(K:nO)(ta:TA):TE:=λσ H Q=>ta σ H λvs H1=>∃a xs,vs=[.ref a]/\SqL K H1 a xs/\∀l,H1 l=rq->Q (.ref l) (upd H1 l (.lst xs.reverse))
theorem Vn{K:nO}{ta:TA}{σ:L2.St}{H:Hp}{Q:VK}:zcn K ta σ H Q=ta σ H λvs H1=>∃a xs,vs=[.ref a]/\SqL K H1 a xs/\∀l,H1 l=rq->Q (.ref l) (upd H1 l (.lst xs.reverse)):=rfl
end
noncomputable def Izp(K:nO)(a b:nP):It:=#[λi H=>∃xs ys x y,SqL K H a xs/\SqL K H b ys/\xs[i]? = rp x/\ys[i]? = rp y,λi H v H'=>∃p x y,H p=rq/\(∀xs,SqL K H a xs->xs[i]? = rp x)/\(∀ys,SqL K H b ys->ys[i]? = rp y)/\v=.ref p/\H'=upd H p (.tup [x,y]),λi H=>∃xs ys,SqL K H a xs/\SqL K H b ys/\(xs.length=i\/ys.length=i)/\i<=xs.length/\i<=ys.length]
theorem wy{h:oa}{a b:nP}{o1 o2:ou}{t u:String}(h1:h.get? a=rp o1)(c1:o1.cls=.type t)(h2:h.get? b=rp o2)(c2:o2.cls=.type u)(hne:t≠u):a≠b:=λz=>by
 rw[z,h2]at h1;cases h1;rw[c2]at c1;exact hne (Value.type.inj c1).symm
structure zbQ(z TI TO i1 i2:nP):Prop where
 TIz:TI≠z
 TOz:TO≠z
 i1z:i1≠z
 i2z:i2≠z
 TITO:TI≠TO
 TIi1:TI≠i1
 TIi2:TI≠i2
 TOi1:TO≠i1
 TOi2:TO≠i2
 i12:i1≠i2
def ZipAt(z TI TO i1 i2 l1 l2:nP)(i:Nat)(h:oa):Prop:=IsZip h z TI TO .none/\IsPair h TI (.ref i1) (.ref i2)/\(∃a b,IsPair h TO a b)/\h.IsListIter i1 l1 i/\h.IsListIter i2 l2 i
theorem ZipAt.apart{z TI TO i1 i2 l1 l2:nP}{i:Nat}{h:oa}{xs ys:Array nQ}(D:zbQ z TI TO i1 i2)(st:ZipAt z TI TO i1 i2 l1 l2 i h)(h1:h.IsList l1 xs)(h2:h.IsList l2 ys):ZipApart z TI TO i1 i2 l1 l2:=by
 obtain⟨hz,hTI,⟨a,b,hTO⟩,⟨o1,e1,c1,_⟩,⟨o2,e2,c2,_⟩⟩:=st;obtain⟨p1,q1,k1,_⟩:=h1;obtain⟨p2,q2,k2,_⟩:=h2;exact#[D.TIz,D.TOz,D.i1z,D.i2z,D.TITO,D.TIi1,D.TIi2,D.TOi1,D.TOi2,D.i12,wy q1 k1 hz rfl ∅,wy q1 k1 hTO rfl ∅,wy q1 k1 e1 c1 ∅,wy q1 k1 e2 c2 ∅,wy q2 k2 hz rfl ∅,wy q2 k2 hTO rfl ∅,wy q2 k2 e1 c1 ∅,wy q2 k2 e2 c2 ∅]
section
variable{X:Cx}
def zdU(K:nO)(ta:TA):TI:=λσ H R=>ta σ H λvs H1=>∃a b,vs=[.ref a,.ref b]/\(∃xs,SqL K H1 a xs)/\(∃ys,SqL K H1 b ys)/\R (Izp K a b) H1
end
def zd5(K:nO)(a b:nP)(g:TG)(tb:TS)(D:va)(σ:L2.St)(H:Hp):Prop:=∃W:Nat->Nat->L2.St->Hp->Prop,(∃m,W 0 m σ H)/\∀i m σ H,W i m σ H ->
 ((Izp K a b).stop i H/\D.nx σ H)\/((Izp K a b).go i H/\∃N:L2.St->Hp->Prop,(∀σ' H',N σ' H'->∃m',m'<m/\W (i+1) m' σ' H')/\∀x H',(Izp K a b).yld i H x H'->g x σ H' λσ2 H2=>tb { D with nx:=N,ct:=N,bk:=D.nx } σ2 H2)
theorem zdp{K:nO}{ta:TA}{g:TG}{tb:TS}{D:va}{σ:L2.St}{H:Hp}:U8 (zdU K ta) g tb D σ H=ta σ H λvs H1=>∃a b,vs=[.ref a,.ref b]/\(∃xs,SqL K H1 a xs)/\(∃ys,SqL K H1 b ys)/\zd5 K a b g tb D σ H1:=rfl
noncomputable abbrev xob(C:nP)(dx:Option nP)(t:nP)(tb:nQ):ou:={ cls:=.ref C,dict:=dx,data:=.fields (List.toArray [.ref t,tb,.none,.none,.bool rA,.none]) }
noncomputable abbrev xog(C:nP)(dx:Option nP)(t:nP)(tb c:nQ)(k:Bool):ou:={ cls:=.ref C,dict:=dx,data:=.fields (List.toArray [.ref t,tb,c,.none,.bool k,.none]) }
def Kz(h:oa)(x:nP)(tb:nQ):Prop:=tb=.none\/∃T oT ts,tb=.ref T/\T≠x/\h.get? T=rp oT/\oT.data=.fields ts/\3<ts.size
section
variable{M:pN}{A:nX}{E:nQ->nR->Prop}{s:nR}{base:oa}{env env0:pB}{outer:List pB}{L x t C:nP}{dx:Option nP}{cx:nQ}{kx:Bool}
theorem kQ(h:env.frame=env0.frame):dX env=dX env0:=by unfold dX;rw[h]
theorem jh{tb head:nQ}{hadNext:Bool}{Q:Unit->nR->Prop}(hfr:A.frames=rp (env0::outer))(hl:s.heap.FunFrames base (env0::outer))(hf:env0.frame=rp L)(he:env.frame=rp L)
  (hx:s.heap.get? x=rp (xog C dx t tb cx kx))
  (h:∀h' oT ts,h'.get? x=rp (xog C dx t (.ref s⁻¹) cx kx)->s⁻¹≠x->h'.get? s⁻¹=rp oT->oT.data=.fields ts->3<ts.size ->
   (∀b o,b≠x->b ∉ frs (env0::outer)->s.heap.get? b=rp o->h'.get? b=rp o)->(∀b o,b≠x->s.heap.get? b=rp o->∃sl,h'.get? b=rp { o with slots:=sl })->Q Unit.unit { s with heap:=h' }) :
  nV M A (do let a <- dX env;let pl <- entryPlaceOf L hadNext;let b <- EntryCells.newEntry head a .none (rawInt L) .none pl;setField (.ref x) 1 b) Q E s:=by
 have hxf:x ∉ frs (env0::outer):=λhm=>by
  obtain⟨_,o,ho,hnf⟩:=hl.mem hm;rw[hx]at ho;cases ho;exact hnf _ rfl
 rw[kQ (he.trans hf.symm)];refine nI (wpAny_frameOf_fun hfr hl hf λh1 hs1=>nI (wpAny_entryPlaceOf λpl hpl=>?_));unfold EntryCells.newEntry newFields;refine nI (pQ ?_ (hpl.sizeOk5 _ _ _ _ _));have hz:h1.objs.size=s⁻¹:=hs1.1;have hx1:h1.get? x=rp (xog C dx t tb cx kx):=(hs1.2.1 x hxf).trans hx;generalize ho:({ cls:=.type "traceback",dict:=rq,data:=.fields ([head,.ref L,.none,rawInt L,.none] ++ (if pl.isEmpty then aJ 6 Value.none else pl)).toArray }:ou)=ob;have hx2:(h1.push ob).get? x=rp (xog C dx t tb cx kx):=af _ hx1;refine oM hx2 rfl (by show 1<6;decide) ?_;have hne:h1.objs.size≠x:=cr (au hx1)
 have hx3:((h1.push ob).update x (Obj.mapFields (·.setIfInBounds 1 (Value.ref h1.objs.size)))).get? x=rp (xog C dx t (.ref h1.objs.size) cx kx) :=
  ce (Obj.mapFields (·.setIfInBounds 1 (Value.ref h1.objs.size))) hx2 rfl
 have hT:((h1.push ob).update x (Obj.mapFields (·.setIfInBounds 1 (Value.ref h1.objs.size)))).get? h1.objs.size=rp ob :=
  (aG _ _ (Ne.symm hne)).trans (aI h1 (by rw[<- ho];rfl))
 rw[hz]at hx3 hT hne
 have kp:∀b o,b≠x->h1.get? b=rp o->((h1.push ob).update x (Obj.mapFields (·.setIfInBounds 1 (Value.ref h1.objs.size)))).get? b=rp o:=λb o hb e =>
  (aG _ _ (Ne.symm hb)).trans (af _ e)
 rw[hz]at kp ⊢;refine h _ ob _ hx3 hne hT (by rw[<- ho]) (by erw[ah,am,aE,bo] <;> lia) (λb o hb hbf e=>kp b o hb ((hs1.2.1 b hbf).trans e)) λb o hb e=>?_;obtain⟨sl,q⟩:=hs1.2.2 b o e;exact#[sl,kp b _ hb q]
theorem kh{tb:nQ}{Q:Unit->nR->Prop}(hfr:A.frames=rp (env0::outer))(hl:s.heap.FunFrames base (env0::outer))(hf:env0.frame=rp L)(he:env.frame=rp L)
  (hx:s.heap.get? x=rp (xog C dx t tb cx kx)) (htb:Kz s.heap x tb)
  (h:∀h' T oT ts,h'.get? x=rp (xog C dx t (.ref T) cx kx)->T≠x->(tb=.ref T\/s⁻¹<=T)->h'.get? T=rp oT->oT.data=.fields ts->3<ts.size ->
   (∀b o,b≠x->tb≠.ref b->b ∉ frs (env0::outer)->s.heap.get? b=rp o->h'.get? b=rp o)->(∀b o,b≠x->tb≠.ref b->s.heap.get? b=rp o->∃sl,h'.get? b=rp { o with slots:=sl })->Q Unit.unit { s with heap:=h' }) :
  nV M A (noteFrame (.ref x) env) (λ_ s1=>nV M A (setFlight (.ref x) rq) Q E s1) E s:=by
 have land:∀(h1:oa) (T:nP) (oT:ou) (ts:Array nQ),h1.get? x=rp (xog C dx t (.ref T) cx kx)->T≠x->(tb=.ref T\/s⁻¹<=T)->h1.get? T=rp oT->oT.data=.fields ts->3<ts.size ->
   (∀b o,b≠x->tb≠.ref b->b ∉ frs (env0::outer)->s.heap.get? b=rp o->h1.get? b=rp o)->(∀b o,b≠x->tb≠.ref b->s.heap.get? b=rp o->∃sl,h1.get? b=rp { o with slots:=sl }) ->
   nV M A (setFlight (.ref x) rq) Q E { s with heap:=h1 }:=λh1 T oT ts e1 nT oldT e2 d2 z2 k1 k2=>by
  unfold setFlight;refine nI (oN (s:={ s with heap:=h1 }) e1 rfl (x:=.ref T) rfl ?_);rw[if_pos (show (Value.ref T != Value.none)=rz from by simp)];refine oM (s:={ s with heap:=h1 }) e2 d2 z2 ?_;have d3:=Obj.data_mapFields d2 (·.setIfInBounds 3 ((rq:Option nP).elim Value.none λf=>rawInt f))
  have nb:∀b,b≠x->tb≠.ref b->(∃o,s.heap.get? b=rp o)->b≠T:=λb hb hbt ⟨o,eo⟩ z=>by
   subst z;rcases oldT with q | q
   ·exact hbt q
   ·exact absurd (au eo) (Nat.not_lt.mpr q)
  refine h _ T _ _ ((aG _ _ nT).trans e1) nT oldT (ce _ e2 (Obj.isFreed_of_fields d3)) d3 (by simpa using z2) (λb o hb hbt hbf e=>?_) λb o hb hbt e=>?_
  ·exact (aG _ _ (Ne.symm (nb b hb hbt #[o,e]))).trans (k1 b o hb hbt hbf e)
  ·obtain⟨sl,q⟩:=k2 b o hb hbt e;exact#[sl,(aG _ _ (Ne.symm (nb b hb hbt #[o,e]))).trans q]
 unfold noteFrame
 erw[he]
 refine nI (oN hx rfl (x:=tb) rfl ?_);rcases htb with rfl | ⟨T,oT,ts,rfl,nT,e2,d2,z2⟩
 ·rw[if_neg ∅];refine jh hfr hl hf he hx λh' oT ts e1 ne e2 d2 z2 k1 k2=>land h' _ oT ts e1 ne (.inr (ao _)) e2 d2 z2 (λb o hb _ hbf e=>k1 b o hb hbf e) λb o hb _ e=>k2 b o hb e
 ·rw[if_pos (show (Value.ref T != Value.none)=rz from by simp)];obtain⟨y,hy⟩:∃y,ts[3]? = rp y:=#[ts[3],by simp [z2]];refine nI (oN e2 d2 (x:=y) hy ?_);by_cases c:(y == rawInt L)=rz
  ·rw[if_pos c];exact nJ (land s.heap T oT ts hx nT (.inl rfl) e2 d2 z2 (λb o _ _ _ e=>e) λb o _ _ e=>#[o.slots,e])
  ·rw[if_neg c];refine nI (oM e2 d2 z2 ?_);have oth:∀b,b≠T->(s.heap.update T (Obj.mapFields (·.setIfInBounds 3 Value.none))).get? b=s.heap.get? b:=λb hb=>aG _ _ (Ne.symm hb);have hl1:(s.heap.update T (Obj.mapFields (·.setIfInBounds 3 Value.none))).FunFrames base (env0::outer):=hl.of_keeps λb o hb hnf=>#[o,(oth b λq=>by rw[q,e2]at hb;cases hb;exact hnf ts d2).trans hb,rfl];have hsz:(s.heap.update T (Obj.mapFields (·.setIfInBounds 3 Value.none))).objs.size=s⁻¹:=cG ..;refine jh (s:={ s with heap:=s.heap.update T (Obj.mapFields (·.setIfInBounds 3 Value.none)) }) hfr hl1 hf he ((oth x (Ne.symm nT)).trans hx) λh' oT' ts' e1 ne e2' d2' z2' k1 k2=>?_;refine land h' _ oT' ts' e1 ne (.inr (by rw[hsz];exact ao _)) e2' d2' z2' (λb o hb hbt hbf e=>k1 b o hb hbf ((oth b λq=>hbt (by rw[q])).trans e)) λb o hb hbt e=>k2 b o hb ((oth b λq=>hbt (by rw[q])).trans e)
theorem JH{tb:nQ}{Q:Unit->nR->Prop}(hfr:A.frames=rp (env0::outer))(hl:s.heap.FunFrames base (env0::outer))(hf:env0.frame=rp L)(he:env.frame=rp L)
  (hx:s.heap.get? x=rp (xog C dx t tb cx kx)) (htb:Kz s.heap x tb)
  (h:∀h' T oT ts,h'.get? x=rp (xog C dx t (.ref T) cx kx)->T≠x->(tb=.ref T\/s⁻¹<=T)->h'.get? T=rp oT->oT.data=.fields ts->3<ts.size ->
   (∀b o,b≠x->tb≠.ref b->b ∉ frs (env0::outer)->s.heap.get? b=rp o->h'.get? b=rp o)->(∀b o,b≠x->tb≠.ref b->s.heap.get? b=rp o->∃sl,h'.get? b=rp { o with slots:=sl })->Q Unit.unit { s with heap:=h' }) :
  nV M A (leaving env (.ref x)) Q E s:=nI (kh hfr hl hf he hx htb h)
end
def CXx(P:nU)(w:nY):CXT:=λouter H s E e s'=>∃(x C t:nP) (dx:Option nP) (tb:nQ) (H':Hp),e=.ref x/\s'.os=s.os/\pf s'.gens/\Un (frs outer) [] H H' s.heap s'.heap/\HOk P w H' s'.heap /\
 s'.heap.get? x=rp (xob C dx t tb)/\Kz s'.heap x tb/\H' x=rq/\s⁻¹<=x/\(∀T,tb=.ref T->H' T=rq/\s⁻¹<=T)/\E (.ref C) dx H'
def zbW(X:Cx)(E:XK)(e:nQ)(s:nR):Prop:=∃(rB:List (nP × ou)) (σ:St) (H:Hp) (x C t:nP) (dx:Option nP) (tb:nQ),e=.ref x/\Inv X rB σ H s /\
 s.heap.get? x=rp (xob C dx t tb)/\Kz s.heap x tb/\xE X rB H x/\(∀T,tb=.ref T->xE X rB H T)/\E (.ref C) dx H
def XE(X:Cx)(E:XK):Prop:=∀e s,zbW X E e s->X.xe e s
theorem Y1{X:Cx}{E:XK}(hx:XE X E):uh (CXx X.prog X.w) X E:=by
 intro rB σ H s e s' I h;obtain⟨x,C,t,dx,tb,H',rfl,os,bare,un,hok,ob,tr,hn,hsz,hT,q⟩:=h;have I':Inv X rB σ H' s':=I.call' os un hok bare λb z=>absurd z (by simp);exact hx _ _ #[rB,σ,H',x,C,t,dx,tb,rfl,I',ob,tr,I.fpOk hsz hn,λT e=>I.fpOk (hT T e).2 (hT T e).1,q]
theorem zbE{P:nU}{w:nY}{K:nO}{mg:nW->Option nQ}{base:oa}{N:List nW}{qual:nW}{scope:oB}{f:nP}{cd:nQ}{A:nX}{outer:List pB}{s:nR}{H:Hp}{E:XK} :
  XE (ux (CXx P w) P w K mg base N qual scope f cd A outer s H E) E:=by
 intro e s1 h;obtain⟨rB,σ,H1,x,C,t,dx,tb,rfl,I,ob,tr,fx,fT,q⟩:=h;show nV _ _ (leaving _ (.ref x)) _ _ s1;have ff:=I.stack;refine JH (A:=(ux (CXx P w) P w K mg base N qual scope f cd A outer s H E).A) (env0:=oU qual scope s⁻¹ f cd) (outer:=outer) I.ok.frames ff rfl rfl ob tr λh' T oT ts e1 nT oldT e2 d2 z2 k1 k2=>?_;have szs:s⁻¹<=s1⁻¹:=I.sz
 have hxs:s⁻¹<=x:=by
  rcases fx.2.2.2.1 with z | z
  ·exact absurd z (by simp [ux])
  ·exact z
 have hTs:s⁻¹<=T/\H1 T=rq:=by
  rcases oldT with z | z
  ·obtain⟨a0,_,_,a3,_⟩:=fT T z;rcases a3 with y | y
   ·exact absurd y (by simp [ux])
   ·exact#[y,a0]
  ·exact#[aL szs z,I.hok.fresh z]
 have tbs:∀b,tb=.ref b->s⁻¹<=b/\H1 b=rq:=λb hb=>by
  obtain⟨a0,_,_,a3,_⟩:=fT b hb;rcases a3 with y | y
  ·exact absurd y (by simp [ux])
  ·exact#[y,a0]
 have old:∀b o,s.heap.get? b=rp o->b≠x/\tb≠.ref b:=λb o e=>by
  have hb:=au e;refine#[ax (av hb hxs),λz=>?_];exact absurd (av hb (tbs b z).1) (cw _)
 have un:Un (frs outer) [] H H1 s.heap h':=by
  have B:=I.base;refine#[λb o e n hb _=>?_,λb o e n hb _=>?_,λb o e n _=>B.free b o e n (by simp [ux]),λb o e _=>?_,B.tups,B.frzs,B.tbls]
  ·have e1:=B.keep b o e n hb (by simp [ux]);refine k1 b o (old b o e).1 (old b o e).2 (λz=>?_) e1;have z':=I.stkSub b z;rcases rH.mp z' with q | q
   ·exact absurd q (ax (av (au e) I.ok.above))
   ·exact hb q
  ·obtain⟨sl,e1⟩:=B.slot b o e n hb (by simp [ux]);obtain⟨sl',e2⟩:=k2 b _ (old b o e).1 (old b o e).2 e1;exact#[sl',e2]
  ·obtain⟨o',e1⟩:=B.there b o e (by simp [ux]);obtain⟨sl',e2⟩:=k2 b _ (old b o e).1 (old b o e).2 e1;exact#[_,e2]
 have hok:HOk P w H1 h':=λb u e=>by
  refine (I.hok b u e).stay (λc v hc q=>k1 c v ?_ ?_ ?_ q) (λ_ q=>q) λ_ _ q=>q
  ·rintro rfl;rcases hc with rfl | hc
   ·rw[fx.1]at e;cases e
   ·rw[fx.1]at hc;cases hc
  ·intro z;have:=(tbs c z).2;rcases hc with rfl | hc
   ·rw[this]at e;cases e
   ·rw[this]at hc;cases hc
  ·intro z;have:=I.stkFree c z;rcases hc with rfl | hc
   ·rw[this]at e;cases e
   ·rw[this]at hc;cases hc
 exact#[x,C,t,dx,.ref T,H1,rfl,I.os,I.bare,un,hok,e1,.inr #[T,oT,ts,rfl,nT,e2,d2,z2],fx.1,hxs,λT' z=>by cases z;exact#[hTs.2,hTs.1],q]
theorem Fun.okX{P:nU}{w:nY}{K:nO}{mg:nW->Option nQ}{base:oa}{x qual:nW}{st:oj}{f:nP}{fd:nS}{N ps:List nW}{k:Nat}{sp:Sp}(F:Fun K x qual st f fd)(S:zo N ps (zg st))(len:∀vs H Q E,sp vs H Q E->vs.length=ps.length)
  (hbody:∀(cdv:nQ) (A:nX) (outer:List pB) (s:nR) (H:Hp) (vs:List V) (Q:VK) (E:XK),Room k (A.deeper (oU qual (zg st) s⁻¹ f cdv))->XE (ux (CXx P w) P w K mg base N qual (zg st) f cdv A outer s H E) E->sp vs H Q E ->
   ∃t,PSs (ux (CXx P w) P w K mg base N qual (zg st) f cdv A outer s H E) (zY st) t/\t { nx:=λ_ H'=>Q .non H',rt:=Q } (start N vs) H):FnOk P w K mg base (CXx P w) (k+1) f fd ps sp:=by
 obtain⟨oc,od,kV,doc,pm,an,cdv,ct,osl,rfl,lk,hcd⟩:=F.ex;exact Qu lk hcd S len λA outer s H vs Q E hr hsp=>hbody cdv A outer s H vs Q E hr zbE hsp
def zbo(X:Cx)(E:XK)(e:nQ)(s:nR):Prop:=∃(cx:nQ) (kx:Bool) (rB:List (nP × ou)) (σ:St) (H:Hp) (x C t:nP) (dx:Option nP) (tb:nQ),e=.ref x/\Inv X rB σ H s /\
 s.heap.get? x=rp (xog C dx t tb cx kx)/\Kz s.heap x tb/\xE X rB H x/\(∀T,tb=.ref T->xE X rB H T)/\E (.ref C) dx H
def XEg(X:Cx)(E:XK):Prop:=∀e s,zbo X E e s->X.xe e s
structure RoomH(k:Nat)(A:nX):Prop where
 dp:A.depth+3 * k+5<pG
 un:A.units+16 * k+200<cLine
theorem RoomH.mark{k:Nat}{A:nX}(r:RoomH k A)(e:Option nQ):RoomH k (A.mark e):=#[r.dp,r.un]
noncomputable def cxH(P:nU)(w:nY)(K:nO)(mg:nW->Option nQ)(base:oa)(N:List nW)(qual:nW)(scope:oB)(f:nP)(cd:nQ)(A:nX)(outer:List pB)(s:nR)(H:Hp):Cx :=
 { ux CX0 P w K mg base N qual scope f cd A outer s H E0 with calm:=rA,xe:=λ_ _=>False }
section
variable{X:Cx}{k:Nat}{f:nP}{fd:nS}{ps:List nW}{sp:Sp}{x:nW}{p pos:oJ}{e:nZ}{es:List nZ}{t:TA}
end
noncomputable abbrev bmV:List nQ:=[.type "ValueError",.type "Exception",.type "BaseException",.type "object"]
noncomputable def Z6(K:nO)(C:nP):Bool:=match K.lookup C with
 | some ⟨.type "type",_,.cls cd,sl⟩=>(match cd.mro,sl.toList with
  | .ref C'::bm,[_,_,_,_,rp (.builtin n),_]=>C' == C && (n == "ValueError.__new__" && (!cd.hasDel && (cd.hasDict && PySem.W.tailIn K bmV bm)))
  | _,_=>rA)
 | _=>rA
theorem w6{K:nO}{C:nP}(q:Z6 K C=rz):∃bm N nm qn bs sn sub ab col dd k0 k1 k2 k3 k5,K.lookup C=rp (pH nm qn C N bs bm rz sn sub ab col dd k0 k1 k2 k3 k5 "ValueError.__new__")/\∀h:oa,K.In h->OwnTail h bmV bm:=by
 unfold Z6 at q;split at q
 ·rename_i dd cd sl ho;split at q
  ·rename_i C' bm k0 k1 k2 k3 n k5 hm hs
   erw[ba,beq_iff_eq,cB]at q
   obtain⟨rfl,rfl,hdel,hdct,ht⟩:=q;obtain⟨nm,bs,mro,ns,qn,hd,sn,sub,ab,col,del⟩:=cd;dsimp only at hm hdel hdct;subst hm hdel hdct
   have hsl:sl=(List.toArray [k0,k1,k2,k3,rp (.builtin "ValueError.__new__"),k5]):=by
    obtain⟨l⟩:=sl;simp only at hs;rw[hs]
   subst hsl;exact#[bm,ns,nm,qn,bs,sn,sub,ab,col,dd,k0,k1,k2,k3,k5,ho,λh X=>PySem.W.tail_of_in X ht]
  ·cases q
 ·cases q
structure XC(K:nO)(C:nP):Prop where
 ok:Z6 K C=rz
 sa:ak K (.ref C) "__setattr__" = rp (rp (.builtin "object.__setattr__"))
 ga:ak K (.ref C) "__getattribute__" = rp (rp (.builtin "BaseException.__getattribute__"))
 gt:ak K (.ref C) "__getattr__" = rp rq
 kp:aM K (.ref C)=rz
section
variable{prog:nU}{w:nY}{A:nX}{R:pJ->nR->Prop}{h:oa}{g:Array pW}{d:Drawn}{t:Nat}{os:OsState}{K:nO}{C:nP}
theorem Xa{init:nQ}{rest:List nQ}(X:K.In h)(q:Z6 K C=rz)(hi:ak K (.ref C) "__init__" = rp (rp init))
  (hb:∀self,PySem.W.Looks (model prog w) h (bindSpecial init self) (init,[self])) (hrest:rest.length<=nN)
  (hq:oR (model prog w) (A.under (.builtin "type.__call__" #[.ref C::rest,[]])) (.call init #[.ref (h.objs.size+1)::rest,[]]) (PySem.W.InitBack (h.objs.size+1) R) #[(h.push { cls:=.type "tuple",data:=.seq rest.toArray }).push (xob C rq h.objs.size .none),g,d,t,os]) :
  oR (model prog w) A (.call (.ref C) #[rest,[]]) R #[h,g,d,t,os]:=by
 obtain⟨bm,N,nm,qn,bs,sn,sub,ab,col,dd,k0,k1,k2,k3,k5,lk,tl⟩:=w6 q;have hC:=X _ _ lk;have T:=tl h X;have F:=dY;have f1:=tc_lookup;have f2:=tc_bind (.ref C);have hT:(#[h,g,d,t,os]:nR).TypeIs (.ref C) "type":=#[_,hC,rfl];refine codeAny_of_tree ?_;show nV _ _ (callAny (.ref C) _) _ _ _
 repeat (any_goals (first | assumption | with_reducible refine oz hC ?_ | wp_step))
 refine#[rfl,?_];refine codeAny_call_builtin_at (Code.quiet_builtin _ (by symm)) entry_typeCall (wpAny_check_type_call_sub hC ?_)
 repeat (first | with_reducible refine oz hC ?_ | with_reducible refine wpAny_madeBy_exc hC ?_ | wp_step)
 refine codeAny_call_builtin_code (Code.quiet_builtin _ F.quiet) (wpAny_check_new_subT F T hC ?_);refine codeAny_exc_new_subT F T hC ?_ hrest;show nV _ _ _ _ _ _;have k:∀b o,h.get? b=rp o->((h.push { cls:=.type "tuple",data:=.seq rest.toArray }).push (xob C rq h.objs.size .none)).get? b=rp o:=λb o e=>af _ (af _ e);have hC1:=k _ _ hC;have hget:((h.push { cls:=.type "tuple",data:=.seq rest.toArray }).push (xob C rq h.objs.size .none)).get? (h.objs.size+1)=rp (xob C rq h.objs.size .none):=by heap_get
 have hcC:(Value.ref C::bm).contains (.ref C)=rz:=by simp
 unfold isInstance
 repeat (first | with_reducible refine oz hget ?_ | wp_step)
 refine oS (C:=C) hC1 ?_;rw[hcC]
 repeat wp_step
 show nV _ _ (typeLookup (.ref C) _) _ _ _;refine ((cp X hi).keeps k).at ?_;refine ot (nI (((hb _).keeps k).at ?_));refine nI (oO (oQ hq λr s' z=>?_));rcases r with e | (v | _ | _ | _) <;> first | exact z | exact z.elim | skip;obtain⟨rfl,z⟩:=z;exact nJ (nJ z)
end
noncomputable def XN(x C:nP)(dx:Option nP):HO:=.ext λh=>∃t,h.get? x=rp (xob C dx t .none)
noncomputable def XT(x C:nP)(dx:Option nP):HO:=.ext λh=>∃t tb c k,h.get? x=rp (xog C dx t tb c k)
noncomputable def XP(x C:nP)(dx:Option nP):HO:=.ext λh=>∃t tb,h.get? x=rp (xob C dx t tb)
theorem zbH{P:nU}{w:nY}{H:Hp}{h:oa}{x C t:nP}{dx:Option nP}(e:h.get? x=rp (xob C dx t .none)):ObjOk P w H h x (XN x C dx) :=
 #[#[t,e],#[_,e],λh1 h2 ⟨t,q⟩ k=>#[t,k _ q]]
theorem zaT{P:nU}{w:nY}{H:Hp}{h:oa}{x C t:nP}{dx:Option nP}{tb c:nQ}{k:Bool}(e:h.get? x=rp (xog C dx t tb c k)):ObjOk P w H h x (XT x C dx) :=
 #[#[t,tb,c,k,e],#[_,e],λh1 h2 ⟨t,tb,c,k',q⟩ k=>#[t,tb,c,k',k _ q]]
theorem za7{P:nU}{w:nY}{H:Hp}{h:oa}{x C:nP}{dx:Option nP}(o:ObjOk P w H h x (XN x C dx)):∃t,h.get? x=rp (xob C dx t .none):=o.1
theorem zdl{P:nU}{w:nY}{H:Hp}{h:oa}{x C:nP}{dx:Option nP}(o:ObjOk P w H h x (XT x C dx)):∃t tb c k,h.get? x=rp (xog C dx t tb c k):=o.1
section
variable{nm q:nW}{C N:nP}{bs bm:List nQ}{hdct:Bool}{sn:List nW}{sub:List nQ}{ab:Bool}{col:Option Bool}{dd:Option nP}{k0 k1 k2 k3 k5:Option nQ}{newId:String}{h:oa}{M:pN}
theorem kz(hC:h.get? C=rp (pH nm q C N bs bm hdct sn sub ab col dd k0 k1 k2 k3 k5 newId))(base:nQ):PySem.W.Looks M h (isSubtype (.ref C) base) ((Value.ref C::bm).contains base):=λA Q E s k z=>by
 obtain⟨hp,g,d,t,os⟩:=s;exact oS (k _ _ hC) z
theorem Ug(hC:h.get? C=rp (pH nm q C N bs bm hdct sn sub ab col dd k0 k1 k2 k3 k5 newId)):PySem.W.Looks M h (mroOf (.ref C)) (.ref C::bm):=λA Q E s k z=>by
 obtain⟨hp,g,d,t,os⟩:=s;exact wpAny_mroOf_exc (k _ _ hC) z
theorem WU(hC:h.get? C=rp (pH nm q C N bs bm hdct sn sub ab col dd k0 k1 k2 k3 k5 newId)):PySem.W.Looks M h (classData C) { name:=nm,bases:=bs,mro:=.ref C::bm,ns:=N,qualname:=q,hasDict:=hdct,slotNames:=sn,subclasses:=sub,abstract:=ab,collection:=col,hasDel:=rA }:=λA Q E s k z=>by
 unfold classData;exact nI (wpAny_load (k _ _ hC) (nJ z))
theorem ZQ{bmB bm:List nQ}(T:OwnTail h bmB bm)(self:nQ)(hp:refuseLoop self "__setattr__" bmB=pure Unit.unit):refuseLoop self "__setattr__" bm=pure Unit.unit:=by
 induction T with
 | base=>exact hp
 | own _ _ _ _ ih=>rw[refuseLoop_ref];exact ih
end
section
variable{X:Cx}{rB:List (nP × ou)}{σ:St}{H:Hp}{s:nR}{A:nX}{E:nQ->nR->Prop}{x C:nP}{f:nW}{y:V}{u:nQ}
theorem zag{Q:Unit->nR->Prop}(I:Inv X rB σ H s)(e:H x=rp (XN x C rq))(xc:XC X.K C)(n:NoAttr X.K C f)(ry:RelV y u)
  (h:∀s' dx,H dx=rq->Inv X rB σ (upd (upd H dx (.xd [(f,y)])) x (XN x C (rp dx))) s'->Q Unit.unit s'):nV (model X.prog X.w) A (setAttr (.ref x) f u) Q E s:=by
 obtain⟨t,ob⟩:=za7 (I.hok x _ e);obtain⟨bm,N,nm,qn,bs,sn,sub,ab,col,dd,k0,k1,k2,k3,k5,lk,tl⟩:=w6 xc.ok;have hC:=I.kIn _ _ lk;have T:=tl _ I.kIn;have SF:=PySem.F.store_ValueError;have J:PySem.W.InstAt s.heap x (xob C rq t .none) C rq:=#[ob,rfl,rfl,trivial];have hob:(Value.ref C::bm).contains (.type "object")=rz:=by rw[dc,T.hasType (show bmV.contains (.type "object")=rz by symm),dD]
 have isO:PySem.W.Looks (model X.prog X.w) s.heap (isInstance (.ref x) (.type "object")) rz:=J.type.andThen (by have:=kz (M:=model X.prog X.w) hC (.type "object");rw[hob]at this;exact this);refine fH I.kIn J xc.sa ?_;refine ph SF.slot.plain SF.entry (@PySem.W.check_slot (model X.prog X.w) _ _ { s with toks:=s.toks+1 } "object.__setattr__" "object" "__setattr__" (.ref x) [.str f s.toks,u] [] _ SF.kind SF.split isO (SF.args _ _ _) ?_);rw[PySem.W.osa_eq,refuse_eq];refine nI (nI (J.type.here (s:={ s with toks:=s.toks+1 }) (nI ((Ug hC).here (s:={ s with toks:=s.toks+1 }) ?_))));rw[refuseLoop_ref,ZQ T _ (SF.passes _)];refine nJ (nI (J.type.here (s:={ s with toks:=s.toks+1 }) (nI ((cp I.kIn n).here (s:={ s with toks:=s.toks+1 }) (nI (nJ ?_))))));show nV _ _ (Builtin.ObjectAttr.storeInOwnDict (.ref x) (.ref C) (.str f s.toks) f u rA) _ _ _;have hx1:(s.heap.push { cls:=.type "dict",data:=.dict #[] }).get? x=rp (xob C rq t .none):=af _ ob;have hxs:x≠s⁻¹:=ax (au ob);refine nI (nJ (nI (nI (pF ob (nI ((WU hC).here (s:={ s with toks:=s.toks+1 }) ?_))))));rw[if_neg (by simp)];show nV _ _ (if (!rz || !typeHasDict (.ref C))=rz then _ else _) _ _ _;rw[if_neg (by simp [typeHasDict])]
 have hgd:((s.heap.push { cls:=.type "dict",data:=.dict #[] }).update x λo=>{ cls:=o.cls,dict:=rp s⁻¹,data:=o.data,slots:=o.slots }).get? s⁻¹=rp { cls:=.type "dict",data:=.dict #[] } :=
  (aG _ _ hxs).trans (Heap.get?_push_at rfl rfl)
 have hgx:((s.heap.push { cls:=.type "dict",data:=.dict #[] }).update x λo=>{ cls:=o.cls,dict:=rp s⁻¹,data:=o.data,slots:=o.slots }).get? x=rp (xob C (rp s⁻¹) t .none) :=
  ce _ hx1 rfl
 have hnd:((s.heap.push { cls:=.type "dict",data:=.dict #[] }).update x λo=>{ cls:=o.cls,dict:=rp s⁻¹,data:=o.data,slots:=o.slots }).Ns s⁻¹ (λ_=>rq) :=
  #[_,#[],_,hgd,rfl,λe he=>absurd he (by simp),λ_=>rfl]
 refine nI (wpAny_alloc' (nI (wpAny_update' hx1 (nJ ?_))));show nV _ _ (Builtin.ObjectAttr.storeInDict s⁻¹ (.str f s.toks) f u) _ _ _;unfold Builtin.ObjectAttr.storeInDict Builtin.ObjectAttr.newKeyGuard;refine nI (nJ (nI (wpAny_nsSet1 (Heap.Ns1.of_empty hnd) λh' hn' hs=>?_)));obtain⟨oD,esD,epD,hoD,hdD,hcD⟩:=hn'.count (Within.cons f u Within.nil);refine nI (pY hoD (by rw[hdD];exact pastItsLine_dict (aL hcD (by rw[aE,bo,oh];lia))) ?_);refine nJ ?_;have hx2:h'.get? x=rp (xob C (rp s⁻¹) t .none):=(hs.2 x hxs).trans hgx;have hfr:H s⁻¹=rq:=I.hok.fresh (ao _);have hxe:x≠s⁻¹:=hxs;refine h _ s⁻¹ hfr ?_
 have k0:∀b o,b≠x->s.heap.get? b=rp o->h'.get? b=rp o:=λb o hb q =>
  (hs.2 b (ax (au q))).trans ((aG _ _ (Ne.symm hb)).trans (af _ q))
 have I1:Inv X rB σ (upd H x (XN x C (rp s⁻¹))) { s with heap:=h',toks:=s.toks+1+1 } :=
  I.write (x:=x) (e:=x) (by rw[e];exact True.intro) (.inl rfl) k0 ⟨_,hx2⟩ (zbH hx2)
 have hd2:ObjOk X.prog X.w (upd (upd H x (XN x C (rp s⁻¹))) s⁻¹ (.xd [(f,y)])) h' s⁻¹ (.xd [(f,y)]):=by
  refine#[_,hn',λg=>?_];show RelO (bj g [(f,y)]) (if g=f then rp u else rq);by_cases q:g=f
  ·subst q;rw[if_pos rfl];simp [bj,RelO,ry]
  ·rw[if_neg q];have q':(g == f)=rA:=by simpa using q
   simp [bj,q',RelO]
 have fd:xE X rB (upd H x (XN x C (rp s⁻¹))) s⁻¹:=I.fpOk (ao _) (by rw[zp (Ne.symm hxe)];exact hfr);have I2:=Inv.track I1 fd hd2
 have eH:upd (upd H x (XN x C (rp s⁻¹))) s⁻¹ (.xd [(f,y)])=upd (upd H s⁻¹ (.xd [(f,y)])) x (XN x C (rp s⁻¹)):=by
  funext b;unfold upd;by_cases b1:b=s⁻¹
  ·subst b1;rw[if_pos rfl,if_neg (Ne.symm hxe),if_pos rfl]
  ·by_cases b2:b=x
   ·subst b2;rw[if_neg b1,if_pos rfl,if_pos rfl]
   ·rw[if_neg b1,if_neg b2,if_neg b2,if_neg b1]
 rw[eH]at I2;exact I2
end
def J7(K:nO)(ta tv:TE)(f:nW):TS:=λD σ H=>tv σ H λy H1=>ta σ H1 λo H2=>∃x C,o=.ref x/\H2 x=rp (XN x C rq)/\XC K C/\NoAttr K C f/\∀dx,H2 dx=rq->D.nx σ (upd (upd H2 dx (.xd [(f,y)])) x (XN x C (rp dx)))
section
variable{X:Cx}{o value:nZ}{f:nW}{pos pos':oJ}{ta tv:TE}
theorem WQ(ha:PE X o ta)(hv:PE X value tv)(hs:swapsWith value (rp (.Attribute o f pos')) pos.line X.env=pure rA):PS X (.Assign [.Attribute o f pos'] value pos) (J7 X.K ta tv f):=by
 intro rB s σ H D I h;refine oZ (thn (hv rB s σ H _ I h) λu s1 ⟨y,H1,I1,ry,q⟩=>thn (ha rB s1 σ H1 _ I1 q) λov s2 ⟨x',H2,I2,rx,x,C,ex,e,xc,n,q2⟩=>?_) hs;subst ex;obtain rfl:ov=Value.ref x:=rx;exact zag I2 e xc n ry λs3 dx hdx I3=>#[σ,_,I3,q2 dx hdx]
end
section
variable{M:pN}{A:nX}{E:nQ->nR->Prop}{s:nR}{env:pB}
theorem WZ{K:nO}{x:rb nQ}{Q:Flow->nR->Prop}(hh:A.handled=rq)
  (h:nV M A x (λv s1=>∃e C t dx,v=.ref e/\K.In s1.heap/\Z6 K C=rz/\s1.heap.get? e=rp (xob C dx t .none)/\E (.ref e) s1) E s):nV M A (raiseStmt env (rp x) rq) Q E s:=by
 unfold raiseStmt;refine nI (thn h λv s1 h1=>?_);obtain⟨e,C,t,dx,rfl,X,hC,he,hE⟩:=h1;obtain⟨bm,N,nm,qn,bs,sn,sub,ab,col,dd,k0,k1,k2,k3,k5,lk,tl⟩:=w6 hC;have hCo:=X _ _ lk;have T:=tl _ X;have hcB:(Value.ref C::bm).contains (.type "BaseException")=rz:=by rw[dc,T.hasType (show bmV.contains (.type "BaseException")=rz by symm),dD]
 obtain⟨hp,g,d,tk,os⟩:=s1
 repeat (first | with_reducible refine oz he ?_ | with_reducible refine oz hCo ?_ | (with_reducible refine oS hCo ?_;rw[hcB]) | wp_step)
 exact wpAny_raiseNew_none hh hE
theorem V6{K:nO}{e:nZ}{pos:oJ}{Q:Flow->nR->Prop}(hh:A.handled=rq)
  (h:nV M A (eval e env) (λv s1=>∃a C t dx,v=.ref a/\K.In s1.heap/\Z6 K C=rz/\s1.heap.get? a=rp (xob C dx t .none)/\E (.ref a) s1) E s):nV M A (exec (.Raise (rp e) rq pos) env) Q E s:=by
 rw[arm_exec_Raise]
 first
  | exact nI (oF (WZ hh (nI (thn h λv s1 h1=>nI (oF (nJ h1))))))
  | (erw[evalOpt,Option.map];exact nI (oF (WZ hh (nI (thn h λv s1 h1=>nI (oF (nJ h1)))))))
end
noncomputable def del(H:Hp)(x:nP):Hp:=λb=>if b=x then rq else H b
theorem WV{H:Hp}{x b:nP}(h:b≠x):del H x b=H b:=if_neg h
theorem Yn{H:Hp}{x:nP}:del H x x=rq:=if_pos rfl
section
variable{X:Cx}{rB:List (nP × ou)}{σ:St}{H:Hp}{s:nR}
theorem Inv.untrack{x:nP}{φ:oa->Prop}(I:Inv X rB σ H s)(e:H x=rp (.ext φ))(hs:X.s₀.heap.objs.size<=x):Inv X rB σ (del H x) s:=by
 have nx:∀b u,H b=rp u->(∀ψ,u≠.ext ψ)->b≠x:=λb u q nu z=>by subst z;rw[e]at q;cases q;exact nu _ rfl
 have hn:∀b,b≠x->del H x b=H b:=λb hb=>WV hb;have es:s={ s with heap:=s.heap,gens:=s.gens,drawn:=s.drawn,toks:=s.toks }:=rfl;rw[es]
 refine I.step (g':=s.gens) (d':=s.drawn) (ch:=[x]) (λb hb=>?_) (λb o _ _ _ q _=>q) (λb o _ _ _ q _=>#[o.slots,q]) (λb o hc _ n=>?_)
  (λb o _ q=>#[o,q]) (λb xs q=>?_) (λb u xs q=>?_) (λb ps q=>?_) (λm hm=>hm) (λb u q=>?_) I.bare
 ·have eb:b=x:=by simpa using hb
  subst eb;refine#[.inr hs,λz=>?_,λy c q z=>?_,λp hp z=>?_]
  ·rw[z,I.free]at e;cases e
  ·have:=I.freeC y c q;rw[z,e]at this;cases this
  ·have:=(I.pin p hp).2.1;rw[z,e]at this;cases this
 ·rw[hn b (by simpa using hc)];exact n
 ·rw[hn b (nx b _ q λ_ z=>by cases z)];exact q
 ·rw[hn b (nx b _ q λ_ z=>by cases z)];exact q
 ·exact#[#[],by rw[hn b (nx b _ q λ_ z=>by cases z),q];simp]
 ·by_cases hb:b=x
  ·subst hb;rw[Yn]at q;cases q
  ·rw[hn b hb]at q;exact (I.hok b u q).stay (λc v _ z=>z) (λc z=>by rw[hn c (nx c _ z λ_ y=>by cases y)];exact z) λc xs z=>by rw[hn c (nx c _ z λ_ y=>by cases y)];exact z
theorem XW{C:nP}{us:List nQ}{E:nQ->nR->Prop}{Q:nQ->nR->Prop}(I:Inv X rB σ H s)(xc:Z6 X.K C=rz)(hi:ak X.K (.ref C) "__init__" = rp (rp (.builtin "ValueError.__init__")))(hl:us.length<=nN)
  (h:∀s' x t,s⁻¹<=x->Inv X rB σ H s'->s'.heap.get? x=rp (xob C rq t .none)->Q (.ref x) s'):nV (model X.prog X.w) X.A (call (.ref C) us) Q E s:=by
 have F:=dY;obtain⟨bm,N,nm,qn,bs,sn,sub,ab,col,dd,k0,k1,k2,k3,k5,lk,tl⟩:=w6 xc;have hC:=I.kIn _ _ lk;have T:=tl _ I.kIn;obtain⟨hp,g,d,t,os⟩:=s;have k:∀b o,hp.get? b=rp o->((hp.push { cls:=.type "tuple",data:=.seq us.toArray }).push (xob C rq hp.objs.size .none)).get? b=rp o:=λb o e=>af _ (af _ e);refine oO (Xa I.kIn xc hi (λself=>PySem.W.Looks.of_pure (F.init.bind self)) hl ?_);have hget:((hp.push { cls:=.type "tuple",data:=.seq us.toArray }).push (xob C rq hp.objs.size .none)).get? (hp.objs.size+1)=rp (xob C rq hp.objs.size .none):=by heap_get
 refine ph F.init.plain F.initEntry (wpAny_check_init_subT F (T.keeps k) (k _ _ hC) hget rfl ?_)
 wp_walk
 refine#[rfl,h _ (hp.objs.size+1) ((hp.push { cls:=.type "tuple",data:=.seq us.toArray }).push (xob C rq hp.objs.size .none)).objs.size (cq _) (I.kept (t':=t) λb o e=>?_) ?_]
 ·exact (aG _ _ (cr (cC (au e)))).trans (af _ (k b o e))
 ·exact ce (Obj.mapFields λx=>x.setIfInBounds 0 (Value.ref ((hp.push { cls:=.type "tuple",data:=.seq us.toArray }).push (xob C rq hp.objs.size .none)).objs.size)) (af _ hget) rfl
def ZX(E:XK)(C:nP)(t:TA):TS:=λ_ σ H=>t σ H λvs H1=>vs.length<=nN/\E (.ref C) rq H1
theorem yW{E:XK}{C:nP}{cn:nW}{np cpos pos:oJ}{e:nZ}{es:List nZ}{t:TA}(hx:XE X E)(hc:X.calm=rz)(xc:XC X.K C)(hi:ak X.K (.ref C) "__init__" = rp (rp (.builtin "ValueError.__init__")))(hg:Gl X cn)(hm:X.mg cn=rp (.ref C))(ha:PA X (e::es) t)
  (hdb:(cn ==("__debug__" : nW))=rA:=by decide) (he:nM (e::es) X.env=(rA,eval e X.env)::nM es X.env:=by rfl) (hpl:(om cpos (nM es X.env)).any (·.1)=rA:=by rfl) :
  PS X (.Raise (rp (.Call (.Name cn np) (e::es) [] cpos)) rq pos) (ZX E C t):=by
 intro rB s σ H D I h;refine V6 (K:=X.K) (I.ok.hd hc) (oq (wQ I hg hm ?_ hdb));refine bN (h₀:=X.base) I.ok.mod.kin xc.kp (thn (ha cpos rB s σ H _ I h) λus s1 ⟨vs,H1,I1,r,z,q⟩=>#[I1.kIn,?_]) he hpl;refine XW (us:=[] ++ us) I1 xc.ok hi (by show us.length<=nN;rw[<- r.length];exact z) λs2 x t hz I2 ob=>#[x,C,t,rq,rfl,I2.kIn,xc.ok,ob,?_];exact hx _ _ #[rB,σ,H1,x,C,t,rq,.none,rfl,I2,ob,.inl rfl,I1.fpOk hz (I1.hok.fresh hz),λT z=>(by cases z),q]
theorem Vj{A:nX}{C:nP}{us:List nQ}{k:Nat}(r:Room (k+1) A):Room k (A.under (.builtin "type.__call__" #[.ref C::us,[]])):=r.make C us []
def ZO(E:XK)(C:nP)(sp:Sp)(t:TA):TS:=λ_ σ H=>t σ H λvs H1=>vs.length<=nN/\∀x,H1 x=rq->sp (.ref x::vs) (upd H1 x (XN x C rq)) (λv H2=>v=.non/\∃dx,H2 x=rp (XN x C dx)/\E (.ref C) dx (del H2 x)) E0
theorem Zo{E:XK}{C f:nP}{fd:nS}{k:Nat}{ps:List nW}{sp:Sp}{cn:nW}{np cpos pos:oJ}{e:nZ}{es:List nZ}{t:TA}(hx:XE X E)(hc:X.calm=rz)(xc:XC X.K C)(hi:ak X.K (.ref C) "__init__" = rp (rp (.ref f)))(hfn:bp X.K (.ref f)=rz)
  (F:FnOk X.prog X.w X.K X.mg X.base CX0 k f fd ps sp) (hr:Room (k+1) X.A) (hb:Binds X.K fd ps []) (hg:Gl X cn) (hm:X.mg cn=rp (.ref C)) (ha:PA X (e::es) t)
  (hdb:(cn ==("__debug__" : nW))=rA:=by decide) (he:nM (e::es) X.env=(rA,eval e X.env)::nM es X.env:=by rfl) (hpl:(om cpos (nM es X.env)).any (·.1)=rA:=by rfl) :
  PS X (.Raise (rp (.Call (.Name cn np) (e::es) [] cpos)) rq pos) (ZO E C sp t):=by
 intro rB s σ H D I h;refine V6 (K:=X.K) (I.ok.hd hc) (oq (wQ I hg hm ?_ hdb));refine bN (h₀:=X.base) I.ok.mod.kin xc.kp (thn (ha cpos rB s σ H _ I h) λus s1 ⟨vs,H1,I1,r,z,q⟩=>#[I1.kIn,?_]) he hpl;have hl:us.length<=nN:=by rw[<- r.length];exact z
 have ob:((s1.heap.push { cls:=.type "tuple",data:=.seq us.toArray }).push (xob C rq s1⁻¹ .none)).get? (s1⁻¹+1)=rp (xob C rq s1⁻¹ .none):=by heap_get
 have hfr:H1 (s1⁻¹+1)=rq:=I1.hok.fresh (cq _)
 have I2:Inv X rB σ (upd H1 (s1⁻¹+1) (XN (s1⁻¹+1) C rq)) { s1 with heap:=(s1.heap.push { cls:=.type "tuple",data:=.seq us.toArray }).push (xob C rq s1⁻¹ .none) } :=
  I1.laid (t':=s1.toks) (λb o e=>af _ (af _ e)) (cq _) (zbH ob)
 have q1:=q _ hfr;have r2:Vals (V.ref (s1⁻¹+1)::vs) (Value.ref (s1⁻¹+1)::us):=.cons rfl r
 have hlen:(Value.ref (s1⁻¹+1)::us ++ ([]:List nQ)).length=ps.length:=by
  rw[aX,<- r2.length];exact F.len _ _ _ _ q1
 have hb2:=hb { s1 with heap:=(s1.heap.push { cls:=.type "tuple",data:=.seq us.toArray }).push (xob C rq s1⁻¹ .none) } (Value.ref (s1⁻¹+1)::us) I2.kIn hlen;rw[aX]at hb2;have run:=F.run _ X.stack _ _ #[Value.ref (s1⁻¹+1)::us,[]] (Value.ref (s1⁻¹+1)::us) _ _ E0 (Vj (C:=C) (us:=us) hr) (I2.env0.make C us []) hb2 r2 q1;have sz0:X.s₀.heap.objs.size<=s1⁻¹+1:=aL I1.sz (cq _);show nV (model X.prog X.w) X.A (call (.ref C) us) _ X.xe s1;refine oO ?_;refine Xa (h:=s1.heap) (g:=s1.gens) (d:=s1.drawn) (t:=s1.toks) (os:=s1.os) (rest:=us) I1.kIn xc.ok hi (λself=>fV I1.kIn self (beq_iff_eq.mp hfn)) hl (oQ run λr s' hq=>?_)
 cases r with
 | error e=>exact False.elim hq
 | ok fl =>
  cases fl with
  | ret u =>
   obtain⟨v,H',I3,rv,ev,dx,hx3,q3⟩:=I2.after hq;subst ev;refine#[rv,?_];obtain⟨t,ob3⟩:=za7 (I3.hok _ _ hx3);have I4:=Inv.untrack I3 hx3 sz0;refine#[_,C,t,dx,rfl,I3.kIn,xc.ok,ob3,hx _ _ #[rB,σ,_,_,C,t,dx,.none,rfl,I4,ob3,.inl rfl,?_,λT z=>(by cases z),q3]];exact I1.fpOk (cq _) Yn
  | next=>exact False.elim hq
  | brk=>exact False.elim hq
  | cont=>exact False.elim hq
end
def Jx(X:Cx)(rB:List (nP × ou))(σ:St)(E:XK)(e:nQ)(s:nR):Prop:=∃(cx:nQ) (kx:Bool) (H:Hp) (x C t:nP) (dx:Option nP) (tb:nQ),e=.ref x/\Inv X rB σ H s /\
 s.heap.get? x=rp (xog C dx t tb cx kx)/\Kz s.heap x tb/\xE X rB H x/\(∀T,tb=.ref T->xE X rB H T)/\E (.ref C) dx H
noncomputable abbrev TX:=St->Hp->VK->XK->Prop
def PEX(X:Cx)(e:nZ)(t:TX):Prop :=
 ∀(rB:List (nP × ou)) (s:nR) (σ:St) (H:Hp) (Q:VK) (E:XK),Inv X rB σ H s->t σ H Q E->nV (model X.prog X.w) X.A (eval e X.env) (EP X rB σ Q) (Jx X rB σ E) s
section
variable{X:Cx}
variable{k:Nat}{f:nP}{fd:nS}{ps:List nW}{sp:Sp}{dvs:List V}{ds:List nQ}{x:nW}{p pos:oJ}{e:nZ}{es:List nZ}{t:TA}
theorem UH(F:FnOk X.prog X.w X.K X.mg X.base (CXx X.prog X.w) k f fd ps sp)(hr:Room k X.A)(hg:Gl X x)(hm:X.mg x=rp (.ref f))(hk:aM X.K (.ref f)=rz)(hb:Binds X.K fd ps ds)(hd:Vals dvs ds)
  (ha:PA X.nox (e::es) t) (hdb:(x ==("__debug__" : nW))=rA:=by decide) (he:nM (e::es) X.env=(rA,eval e X.env)::nM es X.env:=by rfl) (hpl:(om pos (nM es X.env)).any (·.1)=rA:=by rfl) :
  PEX X (.Call (.Name x p) (e::es) [] pos) (λσ H Q E=>t σ H λvs H1=>sp (vs ++ dvs) H1 Q E):=by
 intro rB s σ H Q E I h;refine oq (wQ I hg hm ?_ hdb);refine bN (h₀:=X.base) I.ok.mod.kin hk (oG (thn (ha pos rB s σ H _ (I.wish _) h) λus s1 ⟨vs,H1,I1,r,q⟩=>#[I1.kIn,?_])) he hpl;have I1':Inv X rB σ H1 s1:=I1.unwish;have r2:Vals (vs ++ dvs) (us ++ ds):=r.append hd;have hl:(us ++ ds).length=ps.length:=by rw[<- r2.length];exact F.len _ _ _ _ q
 refine oO (oQ (F.run X.A X.stack s1 H1 #[us,[]] (us ++ ds) (vs ++ dvs) Q E hr I1'.env0 (hb s1 us I1'.kIn hl) r2 q) λr s' hq=>?_)
 cases r with
 | error e =>
  obtain⟨x,C,t,dx,tb,H',rfl,os,bare,un,hok,ob,tr,hn,hsz,hT,q⟩:=hq;exact#[.none,rA,H',x,C,t,dx,tb,rfl,I1'.call' os un hok bare (λb z=>absurd z (by simp)),ob,tr,I1'.fpOk hsz hn,λT e=>I1'.fpOk (hT T e).2 (hT T e).1,q]
 | ok fl =>
  cases fl with
  | ret u=>exact I1'.after hq
  | next=>exact False.elim hq
  | brk=>exact False.elim hq
  | cont=>exact False.elim hq
end
noncomputable abbrev Cx.suite(X:Cx)(e:nQ):Cx:={ X with A:=X.A.mark (rp e),calm:=rA,xe:=λ_ _=>False }
theorem Inv.suite{X:Cx}{rB:List (nP × ou)}{σ:St}{H:Hp}{s:nR}(I:Inv X rB σ H s)(e:nQ):Inv (Cx.suite X e) rB σ H s :=
 #[#[I.ok.mod,I.ok.kind,I.ok.glob,I.ok.blt,I.ok.above,I.ok.inj,I.ok.has,I.ok.cab,λz=>absurd z (by simp [Cx.suite]),I.ok.frames,I.ok.stk,I.ok.exf,I.ok.bs,I.ok.bsz,I.ok.noex,I.ok.exfs,I.ok.funs,I.ok.frf],
  I.os,I.bare,I.base,I.loc,I.cell,I.free,I.freeC,I.pin,I.hok,I.len]
theorem Inv.unsuite{X:Cx}{rB:List (nP × ou)}{σ σ':St}{H H':Hp}{s s':nR}{e:nQ}(J:Inv X rB σ' H' s')(I:Inv (Cx.suite X e) rB σ H s):Inv X rB σ H s :=
 #[J.ok,I.os,I.bare,I.base,I.loc,I.cell,I.free,I.freeC,I.pin,I.hok,I.len]
section
variable{X:Cx}{rB:List (nP × ou)}{σ:St}{H:Hp}{s:nR}
end
theorem zaz{M:pN}{A:nX}{E:nQ->nR->Prop}{K:nO}{s:nR}{x C D t:nP}{dx:Option nP}{tb cx:nQ}{kx:Bool}{b:Bool}{Q:Bool->nR->Prop}(X:K.In s.heap)(hD:Z6 K D=rz)(he:s.heap.get? x=rp (xog C dx t tb cx kx))
  (hs:cJ K (.ref C) (.ref D)=rp b) (h:Q b s):nV M A (excMatches (.ref x) (.ref D)) Q E s:=by
 obtain⟨bm,N,nm,qn,bs,sn,sub,ab,col,dd,k0,k1,k2,k3,k5,lk,tl⟩:=w6 hD;have hDo:=X _ _ lk;have T:=tl _ X;have hcB:(Value.ref D::bm).contains (.type "BaseException")=rz:=by rw[dc,T.hasType (show bmV.contains (.type "BaseException")=rz by symm),dD]
 have L:=PySem.W.looks_subIn (M:=M) X hs;have f:=tc_notTuple;obtain⟨hp,g,d,tk,os⟩:=s;unfold excMatches
 repeat (first | with_reducible refine oz he ?_ | with_reducible refine oz hDo ?_ | (with_reducible refine oS hDo ?_;rw[hcB]) | (with_reducible refine PySem.W.Looks.at L ?_) | wp_step)
 cases b with
 | false=>exact nJ (nJ (nJ h))
 | true=>exact nJ (nJ (nJ h))
section
variable{X:Cx}
noncomputable def tbL:nQ->List nP
 | .ref b=>[b]
 | _=>[]
end
section
variable{prog:nU}{w:nY}{A:nX}{E:nQ->nR->Prop}{s:nR}{K:nO}{x C:nP}{ox:ou}{od:Option ou}{name:nW}{tk:pX}
theorem zbO{fill expr:Bool}{Q:nQ->nR->Prop}(X:K.In s.heap)(xc:XC K C)(J:PySem.W.InstAt s.heap x ox C od)
  (h:nV (model prog w) A.in1 (Builtin.«object.__getattribute__» #[[.ref x,.str name tk],[]]) (λfin s'=>match fin with | .done (.ret v)=>nV (model prog w) A (handedOut v) Q E s' | _=>False) (λ_ _=>False) s) :
  nV (model prog w) A (getAttrBy (.ref x) (.str name tk) fill expr) Q E s:=by
 obtain⟨bm,N,nm,qn,bs,sn,sub,ab,col,dd,k0,k1,k2,k3,k5,lk,tl⟩:=w6 xc.ok;have hC:=X _ _ lk;have T:=tl _ X;have FB:=PySem.F.attrBase_ValueError;have L0:=J.type (M:=model prog w);have L1:=cp (M:=model prog w) X xc.ga;have L2:=cp (M:=model prog w) X xc.gt;have hcB:(Value.ref C::bm).contains (.type "BaseException")=rz:=by rw[dc,T.hasType (show bmV.contains (.type "BaseException")=rz by symm),dD]
 have isB:PySem.W.Looks (model prog w) s.heap (isInstance (.ref x) (.type "BaseException")) rz:=L0.andThen (by have:=kz (M:=model prog w) hC (.type "BaseException");rw[hcB]at this;exact this);have f3:=FB.ga.bind (.ref x);have hx0:(expr && onTheHeap (Value.builtin "BaseException.__getattribute__"))=rA:=by cases expr <;> rfl
 have hx2:(Value.builtin "BaseException.__getattribute__" == Value.builtin "object.__getattribute__")=rA:=by symm
 have hx1:(onTheHeap (Value.ref C) && Value.builtin "BaseException.__getattribute__" == Value.builtin "object.__getattribute__")=rA:=by rw[hx2];rfl
 unfold getAttrBy;refine ot (nI (L0.here (nI (L1.here ?_))));show nV _ _ (if (onTheHeap (Value.ref C) && Value.builtin "BaseException.__getattribute__" == Value.builtin "object.__getattribute__")=rz then _ else _) _ _ _;rw[hx1,if_neg aA];unfold getAttrByItsOwn hookBefore;rw[if_pos (by rfl)];refine nI (L2.here (nI (pL (ot ?_))));unfold callGetattribute;rw[hx0,if_neg aA];unfold boundAndCalled;rw[f3];refine nI (nJ ?_);show nV (model prog w) A (call (.builtin "BaseException.__getattribute__") [.ref x,.str name tk]) _ _ s;refine oO (ph FB.ga.plain PySem.F.entry_bexc_ga (@PySem.W.check_slot (model prog w) _ _ s "BaseException.__getattribute__" "BaseException" "__getattribute__" (.ref x) [.str name tk] [] _ (by symm) (by symm) isB (PySem.F.args_bexc_ga _ _) ?_));refine oH h (λfin s' z=>?_) λ_ _ z=>z.elim;rcases fin with (_ | _ | _ | v) | _ <;> first | exact z | exact z.elim
theorem QV{Q:Option nQ->nR->Prop}(X:K.In s.heap)(xc:XC K C)(J:PySem.W.InstAt s.heap x ox C od)(ha:ak K (.ref C) "__class__" = rp (rp (.builtin "object.__class__")))
  (hn:dh K (.builtin "object.__class__") "__get__" = rp (rp (.builtin "getset_descriptor.__get__"))) (htk:dB K (.builtin "object.__class__")=rp rz) (hm:bU K C (.type "object")=rp rz)
  (h:Q (rp (.ref C)) { s with toks:=s.toks+1 }):nV (model prog w) A (getAttr? (.ref x) "__class__") Q E s:=by
 have hf:fW K C od "__class__" = rp (.bind (.builtin "getset_descriptor.__get__") (.builtin "object.__class__")):=by
  obtain⟨bm,N,nm,qn,bs,sn,sub,ab,col,dd,k0,k1,k2,k3,k5,lk,tl⟩:=w6 xc.ok;have hcl:(PySem.W.clsIn K C).isSome=rz:=by unfold PySem.W.clsIn;rw[lk];rfl
  obtain⟨cd,hc⟩:=rS.mp hcl;unfold fW;rw[hc,bM,ha,bM];simp [hn,htk]
 unfold getAttr? getAttrBy?;refine nI (wpAny_mkText (nI (pL (zbO (s:={ s with toks:=s.toks+1 }) X xc J ?_))));have L0:=J.type (M:=model prog w);have L1:=PySem.W.looks_find (M:=model prog w) X J hf;unfold Builtin.«object.__getattribute__»;refine nI (nJ (nI (nJ (nI (L0.here (s:={ s with toks:=s.toks+1 }) (nI (L1.here (s:={ s with toks:=s.toks+1 }) ?_)))))));show nV _ _ (holding [.builtin "object.__class__"] (call (.builtin "getset_descriptor.__get__") [.builtin "object.__class__",.ref x,.ref C]) >>= ret) _ _ _;refine nI (ot (oO (PySem.W.class_get (s:={ s with toks:=s.toks+1 }) X J hm ?_)));refine nJ ?_;show nV _ _ (handedOut (.ref C)) _ _ _;rw[PySem.W.handedOut_of rfl];exact nJ (nJ h)
end
structure XI(K:nO)(C:nP):Prop extends XC K C where
 ca:ak K (.ref C) "__class__" = rp (rp (.builtin "object.__class__"))
 cg:dh K (.builtin "object.__class__") "__get__" = rp (rp (.builtin "getset_descriptor.__get__"))
 ct:dB K (.builtin "object.__class__")=rp rz
 mo:bU K C (.type "object")=rp rz
theorem zby{h:oa}{x C t:nP}{tb c:nQ}{k:Bool}(ob:h.get? x=rp (xog C rq t tb c k)):PySem.W.InstAt h x (xog C rq t tb c k) C rq:=#[ob,rfl,rfl,trivial]
theorem zcf{K:nO}{x C:nP}{dx:Option nP}(xi:XI K C):PySem.W.KitX K (.ref x) (.ref C) (λh=>(∃t tb c k,h.get? x=rp (xog C dx t tb c k))/\∀d,dx=rp d->∃o,h.get? d=rp o) where
 ty:=λM h X ⟨⟨t,tb,c,k',ob⟩,_⟩=>(PySem.W.Looks.ld ob).andThen .now
 it:=λM h X _=>by
  obtain⟨bm,N,nm,qn,bs,sn,sub,ab,col,dd,k0,k1,k2,k3,k5,lk,tl⟩:=w6 xi.ok;intro A' Q' E' s' k q;unfold isType loadHead;exact nI (pF (k _ _ (X _ _ lk)) (nJ q))
 ne:=λh tp dd its n sl X htp=>by
  obtain⟨bm,N,nm,qn,bs,sn,sub,ab,col,dd,k0,k1,k2,k3,k5,lk,tl⟩:=w6 xi.ok;refine Bool.eq_false_iff.mpr λq=>?_;have e:C=tp:=Value.ref.inj (beq_iff_eq.mp q);subst e;have z:=congrArg (λo:Option ou=>o.map λo=>match o.data with | .cls _=>rz | _=>rA) ((X _ _ lk).symm.trans htp);exact absurd (show rz=rA from Option.some.inj z) ∅
 ca:=λ{prog w A E Q s} X ⟨⟨t,tb,c,k',ob⟩,hd⟩ k=>by
  cases dx with
  | none=>exact QV X xi.toXC (zby ob) xi.ca xi.cg xi.ct xi.mo k
  | some d =>
   obtain⟨o,e⟩:=hd d rfl;exact QV (od:=rp o) X xi.toXC #[ob,rfl,rfl,e] xi.ca xi.cg xi.ct xi.mo k
section
variable{X:Cx}
def XAt(H:Hp)(x C:nP)(dx:Option nP)(fs:List (nW × V)):Prop:=H x=rp (XT x C dx)/\((dx=rq/\fs=[])\/∃d,dx=rp d/\H d=rp (.xd fs))
theorem Wf:vz X (.builtin "isinstance") (λxs H Q=>∃x C dx fs c u b,xs=[.ref x,c]/\cV c=rp u/\XAt H x C dx fs/\XI X.K C/\aS X.K (.ref C) u=rp b/\Q (.bl b) H):=by
 intro rB s σ H xs us Q I r h;obtain⟨x,C,dx,fs,c,u,b,rfl,hc,⟨hx,hd⟩,xi,e,q⟩:=h;obtain⟨v,w',rfl,rx,rc⟩:=U3 r;cases rx
 have:w'=u:=by
  cases c with
  | ty n=>cases hc;exact rc
  | ref a=>cases hc;exact rc
  | _=>cases hc
 subst this;refine bg (zcf (dx:=dx) xi) I.kIn #[zdl (I.hok _ _ hx),λd z=>?_] e (λz=>nomatch z) λtk=>#[.bl b,H,I.tok tk,rfl,q];rcases hd with ⟨z',_⟩ | ⟨d',z',hd'⟩
 ·rw[z']at z;cases z
 ·rw[z']at z;cases z;obtain⟨mA,⟨o,es,ep,ho,_⟩,_⟩:=I.hok _ _ hd';exact#[o,ho]
end
structure Df(P:nU)(w:nY)(K:nO)(mg:nW->Option nQ)(base:oa)(CX:CXT)(k:Nat)(nm:nW)(ps:List nW)(ds:List nQ)(sp:Sp):Prop where
 ex:∃f fd,FnOk P w K mg base CX k f fd ps sp/\mg nm=rp (.ref f)/\aM K (.ref f)=rz/\Binds K fd ps ds
structure Bt(mg:nW->Option nQ):Prop where
 len:mg "len" = rq
 range:mg "range" = rq
 isi:mg "isinstance" = rq
 str:mg "str" = rq
 int:mg "int" = rq
 tuple:mg "tuple" = rq
 list:mg "list" = rq
 bool:mg "bool" = rq
 enum:mg "enumerate" = rq
 all:mg "all" = rq
 verr:mg "ValueError" = rq
 max:mg "max" = rq
 rev:mg "reversed" = rq
 zip:mg "zip" = rq
 sum:mg "sum" = rq
 sorted:mg "sorted" = rq
section
variable{X:Cx}{CX:CXT}{k:Nat}{ps:List nW}{sp:Sp}{ds:List nQ}{dvs:List V}{E:XK}{x:nW}{p pos:oJ}{e:nZ}{es:List nZ}{t:TA}
theorem cl0{j:Nat}(D:Df X.prog X.w X.K X.mg X.base CX0 k x ps ds sp)(hr:Room j X.A)(hd:Vals dvs ds)(hg:Gl X x)(ha:PA X (e::es) t)(hdb:(x ==("__debug__" : nW))=rA:=by decide)(he:nM (e::es) X.env=(rA,eval e X.env)::nM es X.env:=by rfl)
  (hpl:(om pos (nM es X.env)).any (·.1)=rA:=by rfl) (hj:k<=j:=by decide):PE X (.Call (.Name x p) (e::es) [] pos) (uN sp dvs E0 t):=by
 obtain⟨f,fd,F,hm,hk,hb⟩:=D.ex;exact VS F (hr.mono hj) hg hm hk hb hd XD ha hdb he hpl
theorem clX{j:Nat}(D:Df X.prog X.w X.K X.mg X.base (CXx X.prog X.w) k x ps ds sp)(hr:Room j X.A)(hd:Vals dvs ds)(hg:Gl X x)(ha:PA X.nox (e::es) t)(hdb:(x ==("__debug__" : nW))=rA:=by decide)(he:nM (e::es) X.env=(rA,eval e X.env)::nM es X.env:=by rfl)
  (hpl:(om pos (nM es X.env)).any (·.1)=rA:=by rfl) (hj:k<=j:=by decide):PEX X (.Call (.Name x p) (e::es) [] pos) (λσ H Q E=>t σ H λvs H1=>sp (vs ++ dvs) H1 Q E):=by
 obtain⟨f,fd,F,hm,hk,hb⟩:=D.ex;exact UH F (hr.mono hj) hg hm hk hb hd ha hdb he hpl
theorem clP{j:Nat}(hx:XE X E)(D:Df X.prog X.w X.K X.mg X.base (CXx X.prog X.w) k x ps ds sp)(hr:Room j X.A)(hd:Vals dvs ds)(hg:Gl X x)(ha:PA X (e::es) t)(hdb:(x ==("__debug__" : nW))=rA:=by decide)(he:nM (e::es) X.env=(rA,eval e X.env)::nM es X.env:=by rfl)
  (hpl:(om pos (nM es X.env)).any (·.1)=rA:=by rfl) (hj:k<=j:=by decide):PE X (.Call (.Name x p) (e::es) [] pos) (uN sp dvs E t):=by
 obtain⟨f,fd,F,hm,hk,hb⟩:=D.ex;exact VS F (hr.mono hj) hg hm hk hb hd (Y1 hx) ha hdb he hpl
end
def TyX(K:nO)(H:Hp)(x:V)(t:nQ):Prop:=Y0 K H x t\/(∃a C dx fs,x=.ref a/\t=.ref C/\XAt H a C dx fs/\XI K C)\/(∃a xs,x=.ref a/\t=.type "list"/\SqL K H a xs)\/∃a xs,x=.ref a/\t=.type "tuple"/\SqT K H a xs
def zcc(K:nO):List V->Hp->VK->Prop:=λxs H Q=>∃x c u t b,xs=[x,c]/\cV c=rp u/\TyX K H x t/\aS K t u=rp b/\Q (.bl b) H
theorem zc1{X:Cx}:vz X (.builtin "isinstance") (zcc X.K):=by
 intro rB s σ H xs us Q I r h;obtain⟨x,c,u,t,b,rfl,hc,ty,e,q⟩:=h;rcases ty with ty | ⟨a,C,dx,fs,rfl,rfl,ha,xi⟩ | ⟨a,ys,rfl,rfl,hq⟩ | ⟨a,ys,rfl,rfl,hq⟩
 ·exact Qy rB s σ H _ us Q I r #[x,c,u,t,b,rfl,hc,ty,e,q]
 ·exact Wf rB s σ H _ us Q I r #[a,C,dx,fs,c,u,b,rfl,hc,ha,xi,e,q]
 all_goals
  obtain⟨v,w',rfl,rx,rc⟩:=U3 r
  have:w'=u:=by
   cases c with
   | ty n=>cases hc;exact rc
   | ref a=>cases hc;exact rc
   | _=>cases hc
  subst this;cases rx
 ·obtain⟨its,_,p,_⟩:=I.list hq;obtain⟨o,h1,h2,_⟩:=p.isList;exact bg d5 I.kIn #[o,h1,h2] e (λz=>nomatch z) λtk=>#[.bl b,H,I.tok tk,rfl,q]
 ·obtain⟨its,_,p,_⟩:=I.tuple hq;obtain⟨o,h1,h2,_⟩:=p;exact bg fw I.kIn #[o,h1,h2] e (λz=>nomatch z) λtk=>#[.bl b,H,I.tok tk,rfl,q]
theorem yY{X:Cx}{e:nZ}{te:TE}{c:nW}{n:String}{p q pos:oJ}(h1:Gl X "isinstance")(h2:X.mg "isinstance" = rq)(he:PE X e te)(hg:Gl X c)(hm:X.mg c=rq)(hv:ow c=rp (.type n))(hn:c≠"__name__":=by decide)(hd:(c ==("__debug__" : nW))=rA:=by decide)
  (hs1:nM [e,.Name c q] X.env=(rA,eval e X.env)::nM [.Name c q] X.env:=by rfl) (hs3:nM [.Name c q] X.env=(rA,eval (.Name c q) X.env)::nM [] X.env:=by rfl) (hs2:(om pos (nM [.Name c q] X.env)).any (·.1)=rA:=by rfl):PE X (.Call (.Name "isinstance" p) [e,.Name c q] [] pos) (tCB (zcc X.K) (zK te (zK (tC (.ty n)) xI))) :=
 yM zc1 h1 h2 boot_isinstance (za he (za (Kc hg hm hv rfl hn hd) ze hs3) hs1) (he:=hs1) (hpl:=hs2)
theorem Q2{a:nP}:cV (.ref a)=rp (.ref a):=rfl
theorem za4{n:String}:cV (.ty n)=rp (.type n):=rfl
theorem zcW{P w K mg base N q sc f cd A o s H}:(cxH P w K mg base N q sc f cd A o s H).K=K:=rfl
def Wl:V->List V->Hp->VK->Prop:=λx xs H Q=>∃z y,x=.str z/\xs=[.str y]/\Q (.int (Txt.count z y)) H
theorem Kg{X:Cx}:MtR X "str.count" Wl:=UR
def UB:V->List V->Hp->VK->Prop:=λx xs H Q=>∃z y,x=.str z/\xs=[.str y]/\Q (.int (Txt.find z y)) H
theorem zbX{X:Cx}:MtR X "str.find" UB:=K3
theorem V4(l:())(c:Nat):Txt.count (tx l) (tx [c])=(l.count c:Int):=by
 have h:∀l:(),cnt c l=(l.count c:Int):=λl=>by
  induction l with
  | nil=>rfl
  | cons n r ih =>
   rw[cnt_cons,ih,List.count_cons];by_cases e:n=c
   ·subst e;simp;lia
   ·have:(n == c)=rA:=by simpa using e
    simp [e,this]
 exact (PyProof.Rows.count_is (tx l) c).trans (h l)
theorem lt1{a b:Nat}:([a]:()) < [b] ↔ a<b:=by rw[List.cons_lt_cons_iff];exact#[λh=>h.elim id λ⟨_,q⟩=>absurd q (List.not_lt_nil _),.inl]
theorem VQ{l:()}{k v:Nat}(h:l[k]? = rp v):(v::(l.take k ++ l.drop (k+1))).Perm l:=by
 obtain⟨hk,e⟩:=rG.mp h
 have e2:l.take k ++ (v::l.drop (k+1))=l:=by
  rw[<- e,<- aT hk,bO]
 exact (List.perm_middle.symm.trans (by rw[e2]))
def X2(K:nO):List V->Hp->VK->Prop:=λxs H Q=>match xs with
 | [.str z]=>z.length<=nN/\Q (.int z.length) H
 | [.ref a]=>∃n:Nat,((∃xs,SqL K H a xs/\n=xs.length)\/∃xs,SqT K H a xs/\n=xs.length)/\Q (.int n) H
 | xs=>∃x n,xs=[x]/\zbz K x H n/\Q (.int n) H
theorem rLen_is{K:nO}{xs:List V}{H:Hp}{Q:VK}:X2 K xs H Q=∃x n,xs=[x]/\zbz K x H n/\Q (.int n) H:=by
 unfold X2;split
 ·exact propext #[λh=>#[_,_,rfl,#[h.1,rfl],h.2],λ⟨_,_,e,h,q⟩=>by cases e;obtain⟨h,rfl⟩:=h;exact#[h,q]]
 ·exact propext #[λ⟨n,h,q⟩=>#[_,n,rfl,h,q],λ⟨_,n,e,h,q⟩=>by cases e;exact#[n,h,q]]
 ·rfl
theorem zdk{X:Cx}:vz X (.builtin "len") (X2 X.K):=λrB s σ H xs us Q I r h=>Uj rB s σ H xs us Q I r (rLen_is.mp h)
def ForR(lo:Int)(n:Nat)(g:TG)(tb:TS)(D:va)(σ:St)(H:Hp):Prop:=∃W:Nat->Nat->St->Hp->Prop,(∃m,W 0 m σ H)/\∀i m σ H,W i m σ H ->
 ((Itr lo n).stop i H/\D.nx σ H)\/((Itr lo n).go i H/\∃N:St->Hp->Prop,(∀σ' H',N σ' H'->∃m',m'<m/\W (i+1) m' σ' H')/\∀x H',(Itr lo n).yld i H x H'->g x σ H' λσ2 H2=>tb { D with nx:=N,ct:=N,bk:=D.nx } σ2 H2)
theorem zb1{ta:TA}{g:TG}{tb:TS}{D:va}{σ:St}{H:Hp}:U8 (Kd ta) g tb D σ H=ta σ H λvs H1=>∃j:Int,vs=[.int j]/\-(2 ^ 62)<=j/\j<2 ^ 62/\ForR 0 j.toNat g tb D σ H1:=rfl
theorem zaL{ta:TA}{g:TG}{tb:TS}{D:va}{σ:St}{H:Hp}:U8 (zbn ta) g tb D σ H=ta σ H λvs H1=>∃i j:Int,vs=[.int i,.int j]/\(-(2 ^ 62)<=i/\i<2 ^ 62/\-(2 ^ 62)<=j/\j<2 ^ 62)/\ForR i (j - i).toNat g tb D σ H1:=rfl
theorem ForR.by{lo:Int}{n:Nat}{g:TG}{tb:TS}{D:va}{σ:St}{H:Hp}(Pv:Nat->St->Hp->Prop)(h0:Pv 0 σ H)
  (hs:∀i σ H,i<n->Pv i σ H->g (.int (lo+i)) σ H λσ2 H2=>tb { D with nx:=Pv (i+1),ct:=Pv (i+1),bk:=D.nx } σ2 H2) (hd:∀σ H,Pv n σ H->D.nx σ H):ForR lo n g tb D σ H:=WX Pv h0 hs hd
def ForL(K:nO)(a:nP)(g:TG)(tb:TS)(D:va)(σ:St)(H:Hp):Prop:=∃W:Nat->Nat->St->Hp->Prop,(∃m,W 0 m σ H)/\∀i m σ H,W i m σ H ->
 ((Itl K a).stop i H/\D.nx σ H)\/((Itl K a).go i H/\∃N:St->Hp->Prop,(∀σ' H',N σ' H'->∃m',m'<m/\W (i+1) m' σ' H')/\∀x H',(Itl K a).yld i H x H'->g x σ H' λσ2 H2=>tb { D with nx:=N,ct:=N,bk:=D.nx } σ2 H2)
theorem zdz{K:nO}{tl:TE}{g:TG}{tb:TS}{D:va}{σ:St}{H:Hp}:U8 (Kw K tl) g tb D σ H=tl σ H λx H1=>∃a,x=.ref a/\(∃xs,SqL K H1 a xs)/\ForL K a g tb D σ H1:=rfl
def ForS(x:nW)(g:TG)(tb:TS)(D:va)(σ:St)(H:Hp):Prop:=∃W:Nat->Nat->St->Hp->Prop,(∃m,W 0 m σ H)/\∀i m σ H,W i m σ H ->
 ((Its x).stop i H/\D.nx σ H)\/((Its x).go i H/\∃N:St->Hp->Prop,(∀σ' H',N σ' H'->∃m',m'<m/\W (i+1) m' σ' H')/\∀v H',(Its x).yld i H v H'->g v σ H' λσ2 H2=>tb { D with nx:=N,ct:=N,bk:=D.nx } σ2 H2)
theorem zdt{tl:TE}{g:TG}{tb:TS}{D:va}{σ:St}{H:Hp}:U8 (zda tl) g tb D σ H=tl σ H λv H1=>∃x,v=.str x/\ForS x g tb D σ H1:=rfl
theorem ForS.by{l:()}{g:TG}{tb:TS}{D:va}{σ:St}{H:Hp}(Pv:Nat->St->Hp->Prop)(h0:Pv 0 σ H)
  (hs:∀i c σ H,l[i]? = rp c->Pv i σ H->g (.str (tx [c])) σ H λσ2 H2=>tb { D with nx:=Pv (i+1),ct:=Pv (i+1),bk:=D.nx } σ2 H2) (hd:∀σ H,Pv l.length σ H->D.nx σ H):ForS (tx l) g tb D σ H:=Jy Pv h0 hs hd
def zd2(x:nW)(g:TG)(tb:TS)(D:va)(σ:St)(H:Hp):Prop:=∃W:Nat->Nat->St->Hp->Prop,(∃m,W 0 m σ H)/\∀i m σ H,W i m σ H ->
 ((Ite x).stop i H/\D.nx σ H)\/((Ite x).go i H/\∃N:St->Hp->Prop,(∀σ' H',N σ' H'->∃m',m'<m/\W (i+1) m' σ' H')/\∀v H',(Ite x).yld i H v H'->g v σ H' λσ2 H2=>tb { D with nx:=N,ct:=N,bk:=D.nx } σ2 H2)
theorem zdo{ta:TA}{g:TG}{tb:TS}{D:va}{σ:St}{H:Hp}:U8 (zcw ta) g tb D σ H=ta σ H λvs H1=>∃x,vs=[.str x]/\zd2 x g tb D σ H1:=rfl
theorem je{α:Type}(l:List α){k:Int}(h:0<=k):cut l rq (rp k)=l.take k.toNat:=by
 obtain⟨n,rfl⟩:=bw h;unfold cut;rw[HT.sIx_none,HT.sIx_nat,dU,Nat.sub_zero];by_cases q:n<=l.length
 ·rw[cU q];rfl
 ·rw[dw ⋯,aH,bv (by simp;lia)]
theorem vd{α:Type}(l:List α){k:Int}(h:0<=k):cut l (rp k) rq=l.drop k.toNat:=by
 obtain⟨n,rfl⟩:=bw h;unfold cut;rw[HT.sIx_none,HT.sIx_nat];by_cases q:n<=l.length
 ·rw[cU q];rw[bv (by rw[aZ] <;> lia)];rfl
 ·rw[dw ⋯,ee,bc (by simp;lia)];simp
theorem ky{α:Type}{xs:List α}{i:Int}(h0:0<=i)(h1:i<xs.length):∃v,atI xs i=rp v/\xs[i.toNat]? = rp v:=by
 obtain⟨n,rfl⟩:=bw h0;have hn:n<xs.length:=⋯;exact#[xs[n],ZW (ae hn),ae hn]
noncomputable def alpha:():=[97,98,99,100,101,102,103,104,105,106,107,108,109,110,111,112,113,114,115,116,117,118,119,120,121,122]
theorem WR:(("abcdefghijklmnopqrstuvwxyz" : nW))=tx alpha:=by symm
theorem ya:(nN:Nat)=16777216:=oh
theorem cxK{CX P w K mg base N q sc f cd A o s H E}:(ux CX P w K mg base N q sc f cd A o s H E).K=K:=rfl
theorem cxP{CX P w K mg base N q sc f cd A o s H E}:(ux CX P w K mg base N q sc f cd A o s H E).prog=P:=rfl
theorem cxW{CX P w K mg base N q sc f cd A o s H E}:(ux CX P w K mg base N q sc f cd A o s H E).w=w:=rfl
theorem zb3{a b:Int}:Ue (.int a) (.int b)=rz:=rfl
theorem zbR{a b:nW}:Ue (.str a) (.str b)=rz:=rfl
theorem za1{a b:Bool}:Ue (.bl a) (.bl b)=rz:=rfl
theorem zaY{b:nW}:Ue .non (.str b)=rz:=rfl
theorem zaJ{b:nW}:Ue (.str b) .non=rz:=rfl
theorem zd{H:Hp}{p:nP}{o:HO}(h:H p=rq):Same H (upd H p o):=λb u e=>by
 rw[zp (zG e h)];exact e
theorem zH{α:Type}{l:List α}{i:Nat}{c:α}(h:l[i]? = rp c):l.take (i+1)=l.take i ++ [c]:=by
 rw[List.take_add_one,h];rfl
structure FunD(K:nO)(x qual:nW)(st:oj)(dV:nQ)(f:nP)(fd:nS):Prop where
 ex:∃(oc:nQ) (od:Option nP) (kV doc pm:nQ) (an:Option nP) (cdv ct:nQ) (osl:Array (Option nQ)),
  fd=bq x qual (yv st) (zY st) (zg st) dV kV doc pm an cdv ct/\K.lookup f=rp #[oc,od,.func fd,osl]/\bH K cdv qual=rz
theorem FunD.okX{P:nU}{w:nY}{K:nO}{mg:nW->Option nQ}{base:oa}{x qual:nW}{st:oj}{dV:nQ}{f:nP}{fd:nS}{N ps:List nW}{k:Nat}{sp:Sp}(F:FunD K x qual st dV f fd)(S:zo N ps (zg st))(len:∀vs H Q E,sp vs H Q E->vs.length=ps.length)
  (hbody:∀(cdv:nQ) (A:nX) (outer:List pB) (s:nR) (H:Hp) (vs:List V) (Q:VK) (E:XK),Room k (A.deeper (oU qual (zg st) s⁻¹ f cdv))->XE (ux (CXx P w) P w K mg base N qual (zg st) f cdv A outer s H E) E->sp vs H Q E ->
   ∃t,PSs (ux (CXx P w) P w K mg base N qual (zg st) f cdv A outer s H E) (zY st) t/\t { nx:=λ_ H'=>Q .non H',rt:=Q } (start N vs) H):FnOk P w K mg base (CXx P w) (k+1) f fd ps sp:=by
 obtain⟨oc,od,kV,doc,pm,an,cdv,ct,osl,rfl,lk,hcd⟩:=F.ex;exact Qu lk hcd S len λA outer s H vs Q E hr hsp=>hbody cdv A outer s H vs Q E hr zbE hsp
def vB(C:nP)(f:nW):Sp:=λvs H Q _=>∃x v,vs=[.ref x,v]/\H x=rp (XN x C rq)/\∀dx,H dx=rq->Q .non (upd (upd H dx (.xd [(f,v)])) x (XN x C (rp dx)))
def zdb(H:Hp)(d:nP)(f:nW)(v:V)(H':Hp):Prop:=H d=rq/\Same H H'/\H' d=rp (.xd [(f,v)])
theorem Uf{E:XK}{C:nP}{f:nW}{v:V}{H:Hp}(h:∀d H',zdb H d f v H'->E (.ref C) (rp d) H'):∀x,H x=rq->vB C f [.ref x,v] (upd H x (XN x C rq)) (λu H2=>u=.non/\∃dx,H2 x=rp (XN x C dx)/\E (.ref C) dx (del H2 x)) E0:=by
 intro x hx;refine#[x,v,rfl,zc,λdx hd=>#[rfl,rp dx,zc,h dx _ #[?_,?_,?_]]]
 ·by_cases e:dx=x
  ·rw[e];exact hx
  ·rw[zp e]at hd;exact hd
 ·have hne:dx≠x:=λe=>by rw[e,zc]at hd;cases hd
  rw[zp hne]at hd;intro b o q;have b1:b≠x:=zG q hx;have b2:b≠dx:=zG q hd;rw[WV b1,zp b1,zp b2,zp b1];exact q
 ·have hne:dx≠x:=λe=>by rw[e,zc]at hd;cases hd
  rw[WV hne,zp hne,zc]
section
variable{X:Cx}
def zds:R2:=λx y H Q=>match y with | .non=>Q (.bl (decide (x=.non))) H | _=>False
theorem op_isN':OpR X (og .Is) zds:=λrB s σ H x y v u Q I rx ry h=>by
 cases y with
 | non=>exact zax rB s σ H x .non v u Q I rx ry #[rfl,h]
 | _=>exact h.elim
def zaM:R2:=λx y H Q=>match y with | .non=>Q (.bl (!decide (x=.non))) H | _=>False
theorem op_notN':OpR X (og .IsNot) zaM:=λrB s σ H x y v u Q I rx ry h=>by
 cases y with
 | non=>exact Kl rB s σ H x .non v u Q I rx ry #[rfl,h]
 | _=>exact h.elim
def U1:List V->Hp->VK->Prop:=λxs H Q=>match xs with | [.int i,.int j]=>Q (.int (if j > i then j else i)) H | _=>False
theorem YQ(hc:X.calm=rz):vz X (.builtin "max") U1:=λrB s σ H xs us Q I r h=>by
 unfold U1 at h;split at h
 ·exact VD hc rB s σ H _ us Q I r #[_,_,rfl,h]
 ·exact h.elim
def rGe:R2:=λx y H Q=>onInt x λi=>onInt y λj=>Q (.bl (decide (j<=i))) H
theorem op_ge':OpR X (og .GtE) rGe:=zcu
end
theorem vb:ow "max" = rp (.builtin "max"):=by symm
def JT(ls l:())(m:Int)(k:Nat):Prop:=∃c,l[k]? = rp c/\(m<=k\/c ∉ ls)
def FB(ls l:())(m:Int)(k:Nat):Prop:=JT ls l m k/\∀j<k,¬ JT ls l m j
def NB(ls l:())(m:Int):Prop:=∀j,¬ JT ls l m j
theorem FB.nb{ls l:()}{m:Int}{k:Nat}(h:FB ls l m k)(n:NB ls l m):False:=n k h.1
inductive D where
 | non | bl (b:Bool) | int (i:Int) | str (x:nW) | lst (l:List D) | tup (l:List D)
mutual
def Is(K:nO)(H:Hp):D->V->Prop
 | .non,v=>v=.non
 | .bl b,v=>v=.bl b
 | .int i,v=>v=.int i
 | .str x,v=>v=.str x
 | .lst l,v=>∃a xs,v=.ref a/\SqL K H a xs/\Iss K H l xs
 | .tup l,v=>∃a xs,v=.ref a/\SqT K H a xs/\Iss K H l xs
def Iss(K:nO)(H:Hp):List D->List V->Prop
 | [],vs=>vs=[]
 | d::l,vs=>∃v r,vs=v::r/\Is K H d v/\Iss K H l r
end
mutual
noncomputable def eqD:D->D->Bool
 | .non,.non=>rz
 | .bl a,.bl b=>a == b
 | .bl a,.int b=>(if a then 1 else 0) == b
 | .int a,.bl b=>a ==(if b then 1 else 0)
 | .int a,.int b=>a == b
 | .str a,.str b=>a == b
 | .lst l,.lst m=>w8 l m
 | .tup l,.tup m=>w8 l m
 | _,_=>rA
noncomputable def w8:List D->List D->Bool
 | [],[]=>rz
 | d::l,e::m=>eqD d e && w8 l m
 | _,_=>rA
end
mutual
noncomputable def dpD:D->Nat
 | .lst l=>wW l+1
 | .tup l=>wW l+1
 | _=>0
noncomputable def wW:List D->Nat
 | []=>0
 | d::l=>max (dpD d) (wW l)
end
theorem JQ:∀{l:List D} {j:Nat} {d:D},l[j]? = rp d->dpD d<=wW l
 | d::l,0,_,h=>by
  cases h
  erw[wW]
  lia
 | d::l,j+1,e,h=>by
  have:=JQ (l:=l) (j:=j) (d:=e) h
  erw[wW]
  lia
mutual
theorem ve:∀d:D,eqD d d=rz
 | .non=>rfl
 | .bl b=>by simp [eqD]
 | .int i=>by simp [eqD]
 | .str x=>by simp [eqD]
 | .lst l=>by erw[eqD];exact w9 l
 | .tup l=>by erw[eqD];exact w9 l
theorem w9:∀l:List D,w8 l l=rz
 | []=>rfl
 | d::l=>by erw[w8,ve d,w9 l,Bool.and_self]
end
theorem Iss.len{K:nO}{H:Hp}:∀{l:List D} {vs:List V},Iss K H l vs->vs.length=l.length
 | [],vs,h=>by erw[Iss]at h;rw[h];rfl
 | d::l,vs,h=>by
  erw[Iss]at h
  obtain⟨v,r,rfl,_,h2⟩:=h
  erw[aE,Iss.len h2]
theorem Iss.at{K:nO}{H:Hp}:∀{l:List D} {vs:List V} {j:Nat} {d:D},Iss K H l vs->l[j]? = rp d->∃v,vs[j]? = rp v/\Is K H d v
 | d::l,vs,0,_,h,q=>by
  cases q
  erw[Iss]at h
  obtain⟨v,r,rfl,h1,_⟩:=h;exact#[v,rfl,h1]
 | d::l,vs,j+1,e,h,q=>by
  erw[Iss]at h
  obtain⟨v,r,rfl,_,h2⟩:=h;exact Iss.at (j:=j) h2 q
theorem Iss.append{K:nO}{H:Hp}:∀{l m:List D} {vs us:List V},Iss K H l vs->Iss K H m us->Iss K H (l ++ m) (vs ++ us)
 | [],m,vs,us,h,g=>by erw[Iss]at h;rw[h];exact g
 | d::l,m,vs,us,h,g=>by
  erw[Iss]at h
  obtain⟨v,r,rfl,h1,h2⟩:=h
  erw[br,Iss]
  exact#[v,r ++ us,rfl,h1,Iss.append h2 g]
theorem Iss.ints{K:nO}{H:Hp}:∀(l:List Int),Iss K H (l.map D.int) (l.map V.int)
 | []=>by erw[aw,Iss]
 | i::l=>by
  erw[aj,Iss,Is]
  exact#[_,_,rfl,rfl,Iss.ints l]
theorem zl{K:nO}{H H':Hp}{a:nP}{xs:List V}(e:Same H H')(h:SqT K H a xs):SqT K H' a xs:=by
 rcases h with (h | ⟨o,h⟩) | h
 ·exact .inl (.inl (e _ _ h))
 ·exact .inl (.inr #[o,e _ _ h])
 ·exact .inr h
mutual
theorem Is.same{K:nO}{H H':Hp}(e:Same H H'):∀(d:D) (v:V),Is K H d v->Is K H' d v
 | .non,v,h=>by erw[Is]at h ⊢;exact h
 | .bl b,v,h=>by erw[Is]at h ⊢;exact h
 | .int b,v,h=>by erw[Is]at h ⊢;exact h
 | .str b,v,h=>by erw[Is]at h ⊢;exact h
 | .lst l,v,h=>by
  erw[Is]at h ⊢
  obtain⟨a,xs,e1,e2,e3⟩:=h;exact#[a,xs,e1,e.seq e2,Iss.same e l xs e3]
 | .tup l,v,h=>by
  erw[Is]at h ⊢
  obtain⟨a,xs,e1,e2,e3⟩:=h;exact#[a,xs,e1,zl e e2,Iss.same e l xs e3]
theorem Iss.same{K:nO}{H H':Hp}(e:Same H H'):∀(l:List D) (vs:List V),Iss K H l vs->Iss K H' l vs
 | [],vs,h=>by erw[Iss]at h ⊢;exact h
 | d::l,vs,h=>by
  erw[Iss]at h ⊢
  obtain⟨v,r,e1,e2,e3⟩:=h;exact#[v,r,e1,Is.same e d v e2,Iss.same e l r e3]
end
theorem xu:∀(l m:List D),w8 l m=((aQ (min l.length m.length)).all (λj=>eqD (l.getD j .non) (m.getD j .non)) && l.length == m.length)
 | [],[]=>rfl
 | [],e::m=>by simp [w8]
 | d::l,[]=>by simp [w8]
 | d::l,e::m=>by
  erw[w8,xu l m,aE]
  have h1:min (l.length+1) (m.length+1)=min l.length m.length+1:=⋯;rw[h1,dk,fj,ef]
  have h2:(l.length+1 == m.length+1)=(l.length == m.length):=by
   rw[cP,beq_iff_eq,beq_iff_eq];lia
  rw[h2]
  erw[List.getD_cons_zero,Bool.and_assoc]
  rfl
section
variable{X:Cx}{rB:List (nP × ou)}{σ:St}{H:Hp}{s:nR}
theorem kX{a:nP}{xs ys:List V}(I:Inv X rB σ H s)(h:SqL X.K H a xs)(g:SqT X.K H a ys):False:=by
 obtain⟨its,r,⟨o,n,e,c,_,d⟩,_⟩:=I.list h;obtain⟨its',r',⟨o',e',c',n',d'⟩,_⟩:=I.tuple g;rw[e]at e';cases e';rw[c]at c';exact absurd (Value.type.inj c') ∅
mutual
theorem Wq(I:Inv X rB σ H s):∀(d e:D) (v:V),Is X.K H d v->Is X.K H e v->d=e
 | .lst l,.lst m,v,h,g=>by
  erw[Is]at h g
  obtain⟨a,xs,rfl,h1,h2⟩:=h;obtain⟨b,ys,e,g1,g2⟩:=g;cases e;have:=I.list_inj h1 g1;subst this;rw[Yg I l m xs h2 g2]
 | .tup l,.tup m,v,h,g=>by
  erw[Is]at h g
  obtain⟨a,xs,rfl,h1,h2⟩:=h;obtain⟨b,ys,e,g1,g2⟩:=g;cases e;have:=I.tuple_inj h1 g1;subst this;rw[Yg I l m xs h2 g2]
 | .lst l,.tup m,v,h,g=>by
  erw[Is]at h g
  obtain⟨a,xs,rfl,h1,h2⟩:=h;obtain⟨b,ys,e,g1,g2⟩:=g;cases e;exact (kX I h1 g1).elim
 | .tup l,.lst m,v,h,g=>by
  erw[Is]at h g
  obtain⟨a,xs,rfl,h1,h2⟩:=h;obtain⟨b,ys,e,g1,g2⟩:=g;cases e;exact (kX I g1 h1).elim
 | .lst l,.non,v,h,g=>by erw[Is]at h g;obtain⟨a,xs,rfl,_⟩:=h;cases g
 | .lst l,.bl _,v,h,g=>by erw[Is]at h g;obtain⟨a,xs,rfl,_⟩:=h;cases g
 | .lst l,.int _,v,h,g=>by erw[Is]at h g;obtain⟨a,xs,rfl,_⟩:=h;cases g
 | .lst l,.str _,v,h,g=>by erw[Is]at h g;obtain⟨a,xs,rfl,_⟩:=h;cases g
 | .tup l,.non,v,h,g=>by erw[Is]at h g;obtain⟨a,xs,rfl,_⟩:=h;cases g
 | .tup l,.bl _,v,h,g=>by erw[Is]at h g;obtain⟨a,xs,rfl,_⟩:=h;cases g
 | .tup l,.int _,v,h,g=>by erw[Is]at h g;obtain⟨a,xs,rfl,_⟩:=h;cases g
 | .tup l,.str _,v,h,g=>by erw[Is]at h g;obtain⟨a,xs,rfl,_⟩:=h;cases g
 | .non,e,v,h,g=>by
  erw[Is]at h
  subst h;cases e <;> erw[Is]at g
  all_goals first | rfl | (obtain⟨a,xs,q,_⟩:=g;cases q) | cases g
 | .bl _,e,v,h,g=>by
  erw[Is]at h
  subst h;cases e <;> erw[Is]at g
  all_goals first | (cases g;rfl) | (obtain⟨a,xs,q,_⟩:=g;cases q) | cases g
 | .int _,e,v,h,g=>by
  erw[Is]at h
  subst h;cases e <;> erw[Is]at g
  all_goals first | (cases g;rfl) | (obtain⟨a,xs,q,_⟩:=g;cases q) | cases g
 | .str _,e,v,h,g=>by
  erw[Is]at h
  subst h;cases e <;> erw[Is]at g
  all_goals first | (cases g;rfl) | (obtain⟨a,xs,q,_⟩:=g;cases q) | cases g
theorem Yg(I:Inv X rB σ H s):∀(l m:List D) (vs:List V),Iss X.K H l vs->Iss X.K H m vs->l=m
 | [],[],_,_,_=>rfl
 | [],e::m,vs,h,g=>by
  erw[Iss]at h g
  subst h;obtain⟨_,_,q,_⟩:=g;cases q
 | d::l,[],vs,h,g=>by
  erw[Iss]at h g
  subst g;obtain⟨_,_,q,_⟩:=h;cases q
 | d::l,e::m,vs,h,g=>by
  erw[Iss]at h g
  obtain⟨v,r,rfl,h1,h2⟩:=h;obtain⟨v',r',q,g1,g2⟩:=g;cases q;rw[Wq I d e v h1 g1,Yg I l m r h2 g2]
end
theorem yx:∀{xs:List V} {us:List nQ} {j:Nat} {x:V},Vals xs us->xs[j]? = rp x->∃u,us[j]? = rp u/\RelV x u
 | _,_,0,_,.cons r t,h=>by cases h;exact#[_,rfl,r]
 | _,_,j+1,_,.cons r t,h=>yx (j:=j) t h
theorem y9{l m:List D}{xs ys:List V}{its its':List nQ}{A:nX}{n:Nat}(hl:Iss X.K H l xs)(hm:Iss X.K H m ys)(r:Vals xs its)(r':Vals ys its')(hn:wW l<n)
  (ih:∀(d e:D) (x y:V) (u v:nQ),dpD d<n->Is X.K H d x->Is X.K H e y->RelV x u->RelV y v->SeqAt.EqAt A s u v (eqD d e)) :
  ∀j (h1:j<its.toArray.size) (h2:j<its'.toArray.size),SeqAt.EqAt A s its.toArray[j] its'.toArray[j] (eqD (l.getD j .non) (m.getD j .non)):=by
 intro j h1 h2;rw[ah]at h1 h2;have e1:=hl.len;have e2:=hm.len;have e3:=r.length;have e4:=r'.length;have g1:l[j]? = rp l[j]:=ae ⋯;have g2:m[j]? = rp m[j]:=ae ⋯;generalize l[j]=d at g1;generalize m[j]=e at g2;obtain⟨x,hx,ix⟩:=hl.at g1;obtain⟨y,hy,iy⟩:=hm.at g2;obtain⟨u,hu,ru⟩:=yx r hx;obtain⟨v,hv,rv⟩:=yx r' hy
 have q1:its.toArray[j]=u:=by
  have:=(rG.mp hu).2;simpa using this
 have q2:its'.toArray[j]=v:=by
  have:=(rG.mp hv).2;simpa using this
 rw[q1,q2,aa,aa,g1,g2];exact ih d e x y u v (bY (JQ g1) hn) ix iy ru rv
theorem ug(I:Inv X rB σ H s):∀(n:Nat) (A:nX) (d e:D) (x y:V) (u v:nQ),A.units+n<cLine->dpD d<n->Is X.K H d x->Is X.K H e y->RelV x u->RelV y v->SeqAt.EqAt A s u v (eqD d e):=by
 intro n
 induction n with
 | zero=>intro A d e x y u v _ h;exact absurd h (cX _)
 | succ n ih =>
  intro A d e x y u v hu hd hx hy rx ry;have hu1:A.units<cLine:=⋯;have huA:A.in1.units+n<cLine:=by show A.units+1+n<cLine;lia
  cases d with
  | lst l =>
   erw[Is]at hx
   obtain⟨a,xs,rfl,h1,h2⟩:=hx;cases rx;obtain⟨its,r,p,_⟩:=I.list h1
   cases e with
   | non=>erw[Is]at hy;subst hy;cases ry;exact SeqAt.EqAt.list_none p.isList hu1
   | bl b=>erw[Is]at hy;subst hy;cases ry;exact SeqAt.EqAt.list_bool b p.isList hu1
   | int b=>erw[Is]at hy;subst hy;obtain⟨t,rfl⟩:=ry;exact SeqAt.EqAt.list_int b t p.isList hu1
   | str b=>erw[Is]at hy;subst hy;obtain⟨t,rfl⟩:=ry;exact SeqAt.EqAt.list_str b t p.isList hu1
   | tup m =>
    erw[Is]at hy
    obtain⟨b,ys,rfl,g1,g2⟩:=hy;cases ry;obtain⟨its',r',p',_⟩:=I.tuple g1;exact SeqAt.EqAt.list_tuple p.isList p' hu1
   | lst m =>
    have hy':=hy
    erw[Is]at hy
    obtain⟨b,ys,rfl,g1,g2⟩:=hy;cases ry;obtain⟨its',r',p',_⟩:=I.list g1
    erw[dpD]at hd
    by_cases hab:a=b
    ·subst hab;have:=Wq I (.lst l) (.lst m) (.ref a) (by erw[Is];exact#[a,xs,rfl,h1,h2]) hy';rw[this,ve];exact SeqAt.EqAt.same _
    ·refine .of_refs hab ?_
     erw[eqD]
     have L1:=h2.len;have L2:=g2.len;have L3:=r.length;have L4:=r'.length;by_cases hl:l.length=m.length
     ·have:=SeqAt.RcAt.lists (A:=A) p.isList p'.isList (by erw[ah];lia) hu1 (y9 h2 g2 r r' (n:=n) ⋯ λd e x y u v q1 q2 q3 q4 q5=>ih A.in1 d e x y u v huA q1 q2 q3 q4 q5);rw[xu,hl,eg,beq_self_eq_true,fk];have e1:its.toArray.size=m.length:=by erw[ah];lia
      rw[e1]at this;exact this
     ·rw[xu,beq_eq_false_iff_ne.mpr hl,dQ];exact SeqAt.RcAt.lists_lengths p.isList p'.isList (by rw[bne_iff_ne];erw[ah];lia) hu1
  | tup l =>
   erw[Is]at hx
   obtain⟨a,xs,rfl,h1,h2⟩:=hx;cases rx;obtain⟨its,r,p,_⟩:=I.tuple h1
   cases e with
   | non=>erw[Is]at hy;subst hy;cases ry;exact SeqAt.EqAt.tuple_none p hu1
   | bl b=>erw[Is]at hy;subst hy;cases ry;exact SeqAt.EqAt.tuple_bool b p hu1
   | int b=>erw[Is]at hy;subst hy;obtain⟨t,rfl⟩:=ry;exact SeqAt.EqAt.tuple_int b t p hu1
   | str b=>erw[Is]at hy;subst hy;obtain⟨t,rfl⟩:=ry;exact SeqAt.EqAt.tuple_str b t p hu1
   | lst m =>
    erw[Is]at hy
    obtain⟨b,ys,rfl,g1,g2⟩:=hy;cases ry;obtain⟨its',r',p',_⟩:=I.list g1;exact SeqAt.EqAt.tuple_list p p'.isList hu1
   | tup m =>
    have hy':=hy
    erw[Is]at hy
    obtain⟨b,ys,rfl,g1,g2⟩:=hy;cases ry;obtain⟨its',r',p',_⟩:=I.tuple g1
    erw[dpD]at hd
    by_cases hab:a=b
    ·subst hab;have:=Wq I (.tup l) (.tup m) (.ref a) (by erw[Is];exact#[a,xs,rfl,h1,h2]) hy';rw[this,ve];exact SeqAt.EqAt.same _
    ·refine .of_refs hab ?_
     erw[eqD]
     have L1:=h2.len;have L2:=g2.len;have L3:=r.length;have L4:=r'.length;have:=SeqAt.RcAt.tuples (A:=A) p p' hu1 (y9 h2 g2 r r' (n:=n) ⋯ λd e x y u v q1 q2 q3 q4 q5=>ih A.in1 d e x y u v huA q1 q2 q3 q4 q5);rw[xu]
     erw[ah]at this
     rw[<- L1,<- L2,L3,L4];exact this
  | non =>
   erw[Is]at hx
   subst hx
   cases e with
   | lst m =>
    erw[Is]at hy
    obtain⟨b,ys,rfl,g1,g2⟩:=hy;cases rx;cases ry;obtain⟨its',r',p',_⟩:=I.list g1;exact SeqAt.EqAt.none_list p'.isList hu1
   | tup m =>
    erw[Is]at hy
    obtain⟨b,ys,rfl,g1,g2⟩:=hy;cases rx;cases ry;obtain⟨its',r',p',_⟩:=I.tuple g1;exact SeqAt.EqAt.none_tuple p' hu1
   | _=>erw[Is]at hy;subst hy;exact Xd rx ry rfl rfl
  | bl c =>
   erw[Is]at hx
   subst hx
   cases e with
   | lst m =>
    erw[Is]at hy
    obtain⟨b,ys,rfl,g1,g2⟩:=hy;cases rx;cases ry;obtain⟨its',r',p',_⟩:=I.list g1;exact SeqAt.EqAt.bool_list _ p'.isList hu1
   | tup m =>
    erw[Is]at hy
    obtain⟨b,ys,rfl,g1,g2⟩:=hy;cases rx;cases ry;obtain⟨its',r',p',_⟩:=I.tuple g1;exact SeqAt.EqAt.bool_tuple _ p' hu1
   | _=>erw[Is]at hy;subst hy;exact Xd rx ry rfl rfl
  | int c =>
   erw[Is]at hx
   subst hx
   cases e with
   | lst m =>
    erw[Is]at hy
    obtain⟨b,ys,rfl,g1,g2⟩:=hy;obtain⟨t,rfl⟩:=rx;cases ry;obtain⟨its',r',p',_⟩:=I.list g1;exact SeqAt.EqAt.int_list _ _ p'.isList hu1
   | tup m =>
    erw[Is]at hy
    obtain⟨b,ys,rfl,g1,g2⟩:=hy;obtain⟨t,rfl⟩:=rx;cases ry;obtain⟨its',r',p',_⟩:=I.tuple g1;exact SeqAt.EqAt.int_tuple _ _ p' hu1
   | _=>erw[Is]at hy;subst hy;exact Xd rx ry rfl rfl
  | str c =>
   erw[Is]at hx
   subst hx
   cases e with
   | lst m =>
    erw[Is]at hy
    obtain⟨b,ys,rfl,g1,g2⟩:=hy;obtain⟨t,rfl⟩:=rx;cases ry;obtain⟨its',r',p',_⟩:=I.list g1;exact SeqAt.EqAt.str_list _ _ p'.isList hu1
   | tup m =>
    erw[Is]at hy
    obtain⟨b,ys,rfl,g1,g2⟩:=hy;obtain⟨t,rfl⟩:=rx;cases ry;obtain⟨its',r',p',_⟩:=I.tuple g1;exact SeqAt.EqAt.str_tuple _ _ p' hu1
   | _=>erw[Is]at hy;subst hy;exact Xd rx ry rfl rfl
def zdD(K:nO):R2:=λx y H Q=>∃l m,((Is K H (.lst l) x/\Is K H (.lst m) y)\/(Is K H (.tup l) x/\Is K H (.tup m) y))/\wW l<50/\Q (.bl (w8 l m)) H
def zdG(K:nO):R2:=λx y H Q=>∃l m,((Is K H (.lst l) x/\Is K H (.lst m) y)\/(Is K H (.tup l) x/\Is K H (.tup m) y))/\wW l<50/\Q (.bl (!w8 l m)) H
theorem za8(hu:X.A.units+100<cLine):OpR X (og .Eq) (zdD X.K):=by
 intro rB s σ H x y v u Q I rx ry h;obtain⟨l,m,hh,hd,q⟩:=h;have hu1:X.A.units<cLine:=⋯;have huA:X.A.in1.units+50<cLine:=by show X.A.units+1+50<cLine;lia
 rcases hh with ⟨hx,hy⟩ | ⟨hx,hy⟩
 ·erw[Is]at hx hy
  obtain⟨a,xs,rfl,h1,h2⟩:=hx;obtain⟨b,ys,rfl,g1,g2⟩:=hy;cases rx;cases ry;obtain⟨its,r,p,_⟩:=I.list h1;obtain⟨its',r',p',_⟩:=I.list g1;have L1:=h2.len;have L2:=g2.len;have L3:=r.length;have L4:=r'.length;by_cases hl:l.length=m.length
  ·have:=SeqAt.RcAt.lists (A:=X.A) p.isList p'.isList (by erw[ah];lia) hu1 (y9 h2 g2 r r' (n:=50) hd λd e x y u v q1 q2 q3 q4 q5=>ug I 50 X.A.in1 d e x y u v huA q1 q2 q3 q4 q5);have e1:its.toArray.size=m.length:=by erw[ah];lia
   rw[e1]at this;rw[xu,hl,eg,beq_self_eq_true,fk]at q;exact this X.prog X.w X.xe _ #[.bl _,H,I,rfl,q]
  ·rw[xu,beq_eq_false_iff_ne.mpr hl,dQ]at q;exact SeqAt.RcAt.lists_lengths p.isList p'.isList (by rw[bne_iff_ne];erw[ah];lia) hu1 X.prog X.w X.xe _ #[.bl _,H,I,rfl,q]
 ·erw[Is]at hx hy
  obtain⟨a,xs,rfl,h1,h2⟩:=hx;obtain⟨b,ys,rfl,g1,g2⟩:=hy;cases rx;cases ry;obtain⟨its,r,p,_⟩:=I.tuple h1;obtain⟨its',r',p',_⟩:=I.tuple g1;have L1:=h2.len;have L2:=g2.len;have L3:=r.length;have L4:=r'.length;have:=SeqAt.RcAt.tuples (A:=X.A) p p' hu1 (y9 h2 g2 r r' (n:=50) hd λd e x y u v q1 q2 q3 q4 q5=>ug I 50 X.A.in1 d e x y u v huA q1 q2 q3 q4 q5)
  erw[ah]at this
  rw[xu,<- L1,<- L2,L3,L4]at q;exact this X.prog X.w X.xe _ #[.bl _,H,I,rfl,q]
theorem zaH(hu:X.A.units+100<cLine):OpR X (og .NotEq) (zdG X.K):=by
 intro rB s σ H x y v u Q I rx ry h;obtain⟨l,m,hh,hd,q⟩:=h;have hu1:X.A.units<cLine:=⋯;have huA:X.A.in1.units+50<cLine:=by show X.A.units+1+50<cLine;lia
 rcases hh with ⟨hx,hy⟩ | ⟨hx,hy⟩
 ·erw[Is]at hx hy
  obtain⟨a,xs,rfl,h1,h2⟩:=hx;obtain⟨b,ys,rfl,g1,g2⟩:=hy;cases rx;cases ry;obtain⟨its,r,p,_⟩:=I.list h1;obtain⟨its',r',p',_⟩:=I.list g1;have L1:=h2.len;have L2:=g2.len;have L3:=r.length;have L4:=r'.length;by_cases hl:l.length=m.length
  ·have:=SeqAt.RcNeAt.lists (A:=X.A) p.isList p'.isList (by erw[ah];lia) hu1 (y9 h2 g2 r r' (n:=50) hd λd e x y u v q1 q2 q3 q4 q5=>ug I 50 X.A.in1 d e x y u v huA q1 q2 q3 q4 q5);have e1:its.toArray.size=m.length:=by erw[ah];lia
   rw[e1]at this;rw[xu,hl,eg,beq_self_eq_true,fk]at q;exact this X.prog X.w X.xe _ #[.bl _,H,I,rfl,q]
  ·rw[xu,beq_eq_false_iff_ne.mpr hl,dQ]at q;exact SeqAt.RcNeAt.lists_lengths p.isList p'.isList (by rw[bne_iff_ne];erw[ah];lia) hu1 X.prog X.w X.xe _ #[.bl _,H,I,rfl,q]
 ·erw[Is]at hx hy
  obtain⟨a,xs,rfl,h1,h2⟩:=hx;obtain⟨b,ys,rfl,g1,g2⟩:=hy;cases rx;cases ry;obtain⟨its,r,p,_⟩:=I.tuple h1;obtain⟨its',r',p',_⟩:=I.tuple g1;have L1:=h2.len;have L2:=g2.len;have L3:=r.length;have L4:=r'.length;have:=SeqAt.RcNeAt.tuples (A:=X.A) p p' hu1 (y9 h2 g2 r r' (n:=50) hd λd e x y u v q1 q2 q3 q4 q5=>ug I 50 X.A.in1 d e x y u v huA q1 q2 q3 q4 q5)
  erw[ah]at this
  rw[xu,<- L1,<- L2,L3,L4]at q;exact this X.prog X.w X.xe _ #[.bl _,H,I,rfl,q]
end
theorem qy(l m:List Int):w8 (l.map D.int) (m.map D.int)=decide (l=m):=by
 induction l generalizing m with
 | nil=>cases m <;> simp [w8]
 | cons a l ih =>
  cases m with
  | nil=>simp [w8]
  | cons b m =>
   erw[aj,w8,eqD,ih m]
   by_cases h1:a=b
   ·subst h1;by_cases h2:l=m
    ·simp [h2]
    ·simp [h2]
   ·simp [h1]
theorem jD(l:List Int):wW (l.map D.int)=0:=by
 induction l with
 | nil=>rfl
 | cons a l ih=>erw[aj,wW,dpD,ih];rfl
abbrev CNx(n i:Nat)(Pv:Nat->List V->Hp->Prop)(rE:List V)(H:Hp):Prop:=∃m',m'<n - i/\(m'=n - (i+1)/\i+1<=n/\Pv (i+1) rE H)
theorem CNx.mk{n i:Nat}{Pv:Nat->List V->Hp->Prop}{rE:List V}{H:Hp}(hi:i<n)(h:Pv (i+1) rE H):CNx n i Pv rE H:=#[n - (i+1),⋯,rfl,hi,h]
def Xn(J:It)(g:TG)(tt:TT)(te:TE)(own:Nat)(ix:())(σ:St)(H1:Hp)(Q:VK)(D:nP):Prop:=∃W:Nat->Nat->List V->Hp->Prop,(∃m,W 0 m [] (upd H1 D (.lst []))) /\
 ∀i m rE H',W i m rE H'->(J.stop i H'/\Q (.ref D) H')\/(J.go i H'/\∀x H2,J.yld i H' x H2->g x (vU σ own ix) H2 λσ3 H3=>xv (vU σ own ix) σ3/\tt σ3 H3 λb H4=>if b=rz then
  te σ3 H4 λv H5=>H5 D=rp (.lst rE)/\rE.length<nN/\∃m',m'<m/\W (i+1) m' (rE ++ [v]) (upd H5 D (.lst (rE ++ [v])))
  else ∃m',m'<m/\W (i+1) m' rE H4)
def CompR(lo:Int)(n:Nat)(g:TG)(tt:TT)(te:TE)(own:Nat)(ix:())(σ:St)(H1:Hp)(Q:VK)(D:nP):Prop:=Xn (Itr lo n) g tt te own ix σ H1 Q D
def CompL(K:nO)(a:nP)(g:TG)(tt:TT)(te:TE)(own:Nat)(ix:())(σ:St)(H1:Hp)(Q:VK)(D:nP):Prop:=Xn (Itl K a) g tt te own ix σ H1 Q D
def CompS(x:nW)(g:TG)(tt:TT)(te:TE)(own:Nat)(ix:())(σ:St)(H1:Hp)(Q:VK)(D:nP):Prop:=Xn (Its x) g tt te own ix σ H1 Q D
theorem QH{ta:TA}{g:TG}{tt:TT}{te:TE}{own:Nat}{ix:()}{σ:St}{H:Hp}{Q:VK}:j7 (Kd ta) g tt te own ix σ H Q=ta σ H λvs H1=>∃j:Int,vs=[.int j]/\-(2 ^ 62)<=j/\j<2 ^ 62/\∀D,H1 D=rq->CompR 0 j.toNat g tt te own ix σ H1 Q D:=rfl
theorem zbc{K:nO}{tl:TE}{g:TG}{tt:TT}{te:TE}{own:Nat}{ix:()}{σ:St}{H:Hp}{Q:VK}:j7 (Kw K tl) g tt te own ix σ H Q=tl σ H λx H1=>∃a,x=.ref a/\(∃xs,SqL K H1 a xs)/\∀D,H1 D=rq->CompL K a g tt te own ix σ H1 Q D:=rfl
theorem zbV{tl:TE}{g:TG}{tt:TT}{te:TE}{own:Nat}{ix:()}{σ:St}{H:Hp}{Q:VK}:j7 (zda tl) g tt te own ix σ H Q=tl σ H λv H1=>∃x,v=.str x/\∀D,H1 D=rq->CompS x g tt te own ix σ H1 Q D:=rfl
section
variable{g:TG}{tt:TT}{te:TE}{own:Nat}{ix:()}{σ:St}{H1:Hp}{Q:VK}{D:nP}
theorem CompR.by{lo:Int}{n:Nat}(Pv:Nat->List V->Hp->Prop)(h0:Pv 0 [] (upd H1 D (.lst [])))
  (hs:∀i rE H',i<n->Pv i rE H'->g (.int (lo+i)) (vU σ own ix) H' λσ3 H3=>xv (vU σ own ix) σ3/\tt σ3 H3 λb H4=>if b=rz then
   te σ3 H4 λv H5=>H5 D=rp (.lst rE)/\rE.length<nN/\CNx n i Pv (rE ++ [v]) (upd H5 D (.lst (rE ++ [v])))else CNx n i Pv rE H4)
  (hd:∀rE H',Pv n rE H'->Q (.ref D) H'):CompR lo n g tt te own ix σ H1 Q D:=by
 refine#[λi m rE H=>m=n - i/\i<=n/\Pv i rE H,#[n,by simp,aB _,h0],?_];rintro i m rE H' ⟨rfl,hi,p⟩;by_cases hlt:i<n
 ·refine .inr #[hlt,λx H2 y=>?_];obtain⟨e,y⟩:=y;subst e y;exact hs i rE _ hlt p
 ·have e:i=n:=⋯;subst e;exact .inl #[ao _,hd rE H' p]
theorem CompL.by{K:nO}{a:nP}{xs:List V}(Pv:Nat->List V->Hp->Prop)(h0:Pv 0 [] (upd H1 D (.lst [])))(hl:∀i rE H',i<=xs.length->Pv i rE H'->SqL K H' a xs)
  (hs:∀i x rE H',xs[i]? = rp x->Pv i rE H'->g x (vU σ own ix) H' λσ3 H3=>xv (vU σ own ix) σ3/\tt σ3 H3 λb H4=>if b=rz then
   te σ3 H4 λv H5=>H5 D=rp (.lst rE)/\rE.length<nN/\CNx xs.length i Pv (rE ++ [v]) (upd H5 D (.lst (rE ++ [v])))else CNx xs.length i Pv rE H4)
  (hd:∀rE H',Pv xs.length rE H'->Q (.ref D) H'):CompL K a g tt te own ix σ H1 Q D:=by
 refine#[λi m rE H=>m=xs.length - i/\i<=xs.length/\Pv i rE H,#[xs.length,by simp,aB _,h0],?_];rintro i m rE H' ⟨rfl,hi,p⟩;have q:=hl i rE H' hi p;by_cases hlt:i<xs.length
 ·refine .inr #[#[xs,xs[i],q,by simp [hlt]],λx H2 y=>?_];obtain⟨e,y⟩:=y;subst e;exact hs i x rE _ (y xs q) p
 ·have e:i=xs.length:=⋯;subst e;exact .inl #[#[xs,q,ao _],hd rE H' p]
theorem CompS.by{l:()}(Pv:Nat->List V->Hp->Prop)(h0:Pv 0 [] (upd H1 D (.lst [])))
  (hs:∀i c rE H',l[i]? = rp c->Pv i rE H'->g (.str (tx [c])) (vU σ own ix) H' λσ3 H3=>xv (vU σ own ix) σ3/\tt σ3 H3 λb H4=>if b=rz then
   te σ3 H4 λv H5=>H5 D=rp (.lst rE)/\rE.length<nN/\CNx l.length i Pv (rE ++ [v]) (upd H5 D (.lst (rE ++ [v])))else CNx l.length i Pv rE H4)
  (hd:∀rE H',Pv l.length rE H'->Q (.ref D) H'):CompS (tx l) g tt te own ix σ H1 Q D:=by
 refine#[λi m rE H=>m=l.length - i/\i<=l.length/\Pv i rE H,#[l.length,by simp,aB _,h0],?_];rintro i m rE H' ⟨rfl,hi,p⟩;by_cases hlt:i<l.length
 ·refine .inr #[hlt,λv H2 y=>?_];obtain⟨e,c,hc,ev⟩:=y;subst e ev;exact hs i c rE _ hc p
 ·have e:i=l.length:=⋯;subst e;exact .inl #[rfl,hd rE H' p]
end
theorem yL{x:V}{r:St}:xv (rq::r) (rp x::r):=#[rfl,λi v h=>by
 cases i with
 | zero=>cases h
 | succ i=>exact h]
theorem zM{X:Cx}{scope sc:oB}{own caps:List nW}{ix:()}(h1:scope.kind=.function)(h2:scope.names.all (λy=>y.2 != .cell)=rz)(h3:scope.names.all (λy=>y.2 != .local || scope.names.lookup y.1 == rp .local)=rz)
  (h4:scope.names.all (λy=>y.2 != .free || sc.names.lookup y.1 == rp .cell)=rz) (hsc:X.env.scope=sc) (h5:own.all (λy=>scope.names.lookup y == rp .local)=rz) (h6:caps.all (λy=>scope.names.lookup y == rp .free)=rz) (h7:ix.map (λi=>X.N[i]?)=caps.map rp):qW X scope own caps ix:=by
 refine#[h1,λy hy=>?_,λy hy e=>?_,λy hy=>?_,λy hy=>?_,λy hy=>?_,h7]
 ·have:=rL.mp h2 y hy;simpa using this
 ·have:=rL.mp h3 y hy;rw[e]at this;simpa using this
 ·have:=rL.mp h4 _ hy;have:=by simpa using this
  refine .inl ?_;show X.env.scope.names.lookup y=rp .cell;rw[hsc];exact this
 ·have:=rL.mp h5 y hy;simpa using this
 ·have:=rL.mp h6 y hy;simpa using this
theorem ZF{α:Type}(l:List α){a b:Int}(h0:0<=a)(h1:a<=b)(h2:b<=l.length):cut l (rp a) (rp b)=(l.drop a.toNat).take (b - a).toNat:=by
 obtain⟨m,rfl⟩:=bw h0;obtain⟨n,rfl⟩:=bw (by lia:0<=b);unfold cut;rw[HT.sIx_nat,HT.sIx_nat,cU ⋯,cU ⋯];have:((n:Int) - (m:Int)).toNat=n - m:=⋯;rw[this];rfl
theorem Z3{k:Nat}{A:nX}(r:Room k A):A.units+100<cLine:=by have:=r.un;lia
theorem Kv{K:nO}{x y:V}{H:Hp}{Q:VK}{l m:List D}(h:(Is K H (.lst l) x/\Is K H (.lst m) y)\/(Is K H (.tup l) x/\Is K H (.tup m) y))(hd:wW l<50)(q:Q (.bl (w8 l m)) H):zdD K x y H Q:=#[l,m,h,hd,q]
theorem KQ{K:nO}{x y:V}{H:Hp}{Q:VK}{l m:List D}(h:(Is K H (.lst l) x/\Is K H (.lst m) y)\/(Is K H (.tup l) x/\Is K H (.tup m) y))(hd:wW l<50)(q:Q (.bl (!w8 l m)) H):zdG K x y H Q:=#[l,m,h,hd,q]
def zdm(t u:TS):TS:=λD σ H=>∃R:St->Hp->Prop,t { D with nx:=R } σ H/\∀σ' H',R σ' H'->u D σ' H'
theorem zi{X:Cx}{st:oj}{rest:List oj}{t u:TS}(h1:PS X st t)(h2:PSs X rest u):PSs X (st::rest) (zdm t u):=by
 intro rB s σ H D I h;obtain⟨R,h,hr⟩:=h;refine oP (thn (h1 rB s σ H { D with nx:=R } I h) λf s1 q=>?_)
 cases f with
 | next =>
  obtain⟨σ',H',I',q⟩:=q;exact h2 rB s1 σ' H' D I' (hr _ _ q)
 | ret v=>exact q
 | brk=>exact q
 | cont=>exact q
theorem zj{t u:TS}{D:va}{σ:St}{H:Hp}(R:St->Hp->Prop)(h:t { D with nx:=R } σ H)(hr:∀G:St->Hp->Prop,G=u D->∀σ' H',R σ' H'->G σ' H'):zdm t u D σ H:=#[R,h,hr _ rfl]
theorem nm4{α β γ δ:Type}{P R:α->β->γ->δ->Prop}{B:α->β->γ->δ->Prop}(h:∀G:α->β->γ->δ->Prop,G=B->∀a b c d,P a b c d->R a b c d->G a b c d):∀a b c d,P a b c d->R a b c d->B a b c d:=h _ rfl
theorem nm3{α β γ:Type}{P R:α->β->γ->Prop}{B:α->β->γ->Prop}(h:∀G:α->β->γ->Prop,G=B->∀a b c,P a b c->R a b c->G a b c):∀a b c,P a b c->R a b c->B a b c:=h _ rfl
theorem zy{H H':Hp}{a:nP}{o:HO}(h:Same H H')(e:H a=rq):Same H (upd H' a o):=λb u q=>by
 rw[zp (zG q e)];exact h b u q
theorem ForL.by{K:nO}{a:nP}{xs:List V}{g:TG}{tb:TS}{D:va}{σ:St}{H:Hp}(Pv:Nat->St->Hp->Prop)(h0:Pv 0 σ H)(hl:∀i σ H,i<=xs.length->Pv i σ H->SqL K H a xs)
  (hs:∀i x σ H,xs[i]? = rp x->Pv i σ H->g x σ H λσ2 H2=>tb { D with nx:=Pv (i+1),ct:=Pv (i+1),bk:=D.nx } σ2 H2) (hd:∀σ H,Pv xs.length σ H->D.nx σ H):ForL K a g tb D σ H:=UJ Pv h0 hl hs hd
theorem Uh{A B:Prop}(h:B):if rz=rA then A else B:=by rw[if_neg ∅];exact h
def CompV(K:nO)(a:nP)(n:Nat)(g:TG)(tt:TT)(te:TE)(own:Nat)(ix:())(σ:L2.St)(H1:Hp)(Q:VK)(D:nP):Prop:=Xn (Irv K a n) g tt te own ix σ H1 Q D
theorem zaS{K:nO}{ta:TA}{g:TG}{tt:TT}{te:TE}{own:Nat}{ix:()}{σ:L2.St}{H:Hp}{Q:VK}:j7 (zdv K ta) g tt te own ix σ H Q=ta σ H λvs H1=>∃a xs,vs=[.ref a]/\SqL K H1 a xs/\∀D,H1 D=rq->CompV K a xs.length g tt te own ix σ H1 Q D:=rfl
theorem CompV.by{K:nO}{a:nP}{xs:List V}{g:TG}{tt:TT}{te:TE}{own:Nat}{ix:()}{σ:L2.St}{H1:Hp}{Q:VK}{D:nP}(Pv:Nat->List V->Hp->Prop)(h0:Pv 0 [] (upd H1 D (.lst [])))(hl:∀i rE H',i<=xs.length->Pv i rE H'->SqL K H' a xs)
  (hs:∀i x rE H',xs.reverse[i]? = rp x->Pv i rE H'->g x (vU σ own ix) H' λσ3 H3=>xv (vU σ own ix) σ3/\tt σ3 H3 λb H4=>if b=rz then
   te σ3 H4 λv H5=>H5 D=rp (.lst rE)/\rE.length<nN/\CNx xs.length i Pv (rE ++ [v]) (upd H5 D (.lst (rE ++ [v])))else CNx xs.length i Pv rE H4)
  (hd:∀rE H',Pv xs.length rE H'->Q (.ref D) H'):CompV K a xs.length g tt te own ix σ H1 Q D:=by
 refine#[λi m rE H=>m=xs.length - i/\i<=xs.length/\Pv i rE H,#[xs.length,by simp,aB _,h0],?_];rintro i m rE H' ⟨rfl,hi,p⟩;have q:=hl i rE H' hi p;by_cases hlt:i<xs.length
 ·refine .inr #[#[xs,q,rfl,hlt],λx H2 y=>?_];obtain⟨e,y⟩:=y;subst e;refine hs i x rE _ ?_ p;rw[bt hlt];exact y xs q rfl
 ·have e:i=xs.length:=⋯;subst e;exact .inl #[rfl,hd rE H' p]
theorem zcB{v:V}{σ:L2.St}{H:Hp}{Q:VK}:z5 0 (rp v::σ) H Q=Q v H:=rfl
theorem zcG{a0:Option V}{v:V}{σ:L2.St}{H:Hp}{Q:VK}:z5 1 (a0::rp v::σ) H Q=Q v H:=rfl
theorem zci{a0 a1:Option V}{v:V}{σ:L2.St}{H:Hp}{Q:VK}:z5 2 (a0::a1::rp v::σ) H Q=Q v H:=rfl
theorem zcA{a0 a1 a2:Option V}{v:V}{σ:L2.St}{H:Hp}{Q:VK}:z5 3 (a0::a1::a2::rp v::σ) H Q=Q v H:=rfl
theorem zc0{a0 a1 a2 a3:Option V}{v:V}{σ:L2.St}{H:Hp}{Q:VK}:z5 4 (a0::a1::a2::a3::rp v::σ) H Q=Q v H:=rfl
theorem zcg{a0 a1 a2 a3 a4:Option V}{v:V}{σ:L2.St}{H:Hp}{Q:VK}:z5 5 (a0::a1::a2::a3::a4::rp v::σ) H Q=Q v H:=rfl
theorem zcr{a0 a1 a2 a3 a4 a5:Option V}{v:V}{σ:L2.St}{H:Hp}{Q:VK}:z5 6 (a0::a1::a2::a3::a4::a5::rp v::σ) H Q=Q v H:=rfl
theorem zcM{a0 a1 a2 a3 a4 a5 a6:Option V}{v:V}{σ:L2.St}{H:Hp}{Q:VK}:z5 7 (a0::a1::a2::a3::a4::a5::a6::rp v::σ) H Q=Q v H:=rfl
theorem zcl{a0 a1 a2 a3 a4 a5 a6 a7:Option V}{v:V}{σ:L2.St}{H:Hp}{Q:VK}:z5 8 (a0::a1::a2::a3::a4::a5::a6::a7::rp v::σ) H Q=Q v H:=rfl
theorem zcI{a0 a1 a2 a3 a4 a5 a6 a7 a8:Option V}{v:V}{σ:L2.St}{H:Hp}{Q:VK}:z5 9 (a0::a1::a2::a3::a4::a5::a6::a7::a8::rp v::σ) H Q=Q v H:=rfl
theorem Kp{a0 a1 a2 a3 a4 a5 a6 a7 a8 a9:Option V}{v:V}{σ:L2.St}{H:Hp}{Q:VK}:z5 10 (a0::a1::a2::a3::a4::a5::a6::a7::a8::a9::rp v::σ) H Q=Q v H:=rfl
theorem KM{a0 a1 a2 a3 a4 a5 a6 a7 a8 a9 a10:Option V}{v:V}{σ:L2.St}{H:Hp}{Q:VK}:z5 11 (a0::a1::a2::a3::a4::a5::a6::a7::a8::a9::a10::rp v::σ) H Q=Q v H:=rfl
theorem zbK{b:Bool}{p:Bool->Prop}:(∃k,V.bl b=V.bl k/\p k)=p b:=propext #[λ⟨_,h,q⟩=>by cases h;exact q,λq=>#[_,rfl,q]]
theorem Jt{b:Int}{p:Int->Prop}:(∃k,V.int b=V.int k/\p k)=p b:=propext #[λ⟨_,h,q⟩=>by cases h;exact q,λq=>#[_,rfl,q]]
theorem Jb{b:nW}{p:nW->Prop}:(∃k,V.str b=V.str k/\p k)=p b:=propext #[λ⟨_,h,q⟩=>by cases h;exact q,λq=>#[_,rfl,q]]
theorem Q7{b:nP}{p:nP->Prop}:(∃k,V.ref b=V.ref k/\p k)=p b:=propext #[λ⟨_,h,q⟩=>by cases h;exact q,λq=>#[_,rfl,q]]
theorem zcm{i:Int}{p:Int->Prop}:onInt (.int i) p=p i:=rfl
theorem zcx{i:nW}{p:nW->Prop}:onStr (.str i) p=p i:=rfl
theorem zdd{i:Bool}{p:Bool->Prop}:onBl (.bl i) p=p i:=rfl
theorem zdi{i:nP}{p:nP->Prop}:onRef (.ref i) p=p i:=rfl
theorem zcY{K:nO}{b:Bool}{H:Hp}{p:Bool->Prop}:zdc K (.bl b) H p=p b:=rfl
theorem Q8{x:V}{p:Int->Prop}:onInt x p=∃k,x=.int k/\p k:=propext #[onInt.of,onInt.to]
theorem Ji{x:V}{p:nW->Prop}:onStr x p=∃k,x=.str k/\p k:=propext #[onStr.of,onStr.to]
theorem Jd{x:V}{p:Bool->Prop}:onBl x p=∃k,x=.bl k/\p k:=propext #[onBl.of,onBl.to]
theorem Jw{x:V}{p:nP->Prop}:onRef x p=∃k,x=.ref k/\p k:=propext #[onRef.of,onRef.to]
theorem Vc{i:Nat}{σ:L2.St}{H:Hp}{Q:VK}:z5 i σ H Q=∃v,σ[i]? = rp (rp v)/\Q v H:=propext #[onSl.of,λ⟨v,h,q⟩=>by erw[z5,onSl,h];exact q]
theorem KP{a b:Int}{H:Hp}{Q:VK}:rEq (.int a) (.int b) H Q=Q (.bl (decide (a=b))) H:=rfl
theorem K5{a b:nW}{H:Hp}{Q:VK}:rEq (.str a) (.str b) H Q=Q (.bl (decide (a=b))) H:=rfl
theorem KY{a b:Int}{H:Hp}{Q:VK}:rNe (.int a) (.int b) H Q=Q (.bl (!decide (a=b))) H:=rfl
theorem K1{a b:nW}{H:Hp}{Q:VK}:rNe (.str a) (.str b) H Q=Q (.bl (!decide (a=b))) H:=rfl
theorem K6{a:Int}{y:V}{H:Hp}{Q:VK}:Xv (.int a) y H Q=onInt y λj=>Q (.int (a+j)) H:=rfl
theorem KB{a:nW}{y:V}{H:Hp}{Q:VK}:Xv (.str a) y H Q=onStr y λj=>a.length+j.length<=nN/\Q (.str (a ++ j)) H:=rfl
theorem J0{a:nP}{y:V}{H:Hp}{Q:VK}:Xv (.ref a) y H Q=zar (.ref a) y H Q:=rfl
theorem zad{a:Int}{y:V}{H:Hp}{Q:VK}:KF (.int a) y H Q=onInt y λj=>CMul a j/\Q (.int (a * j)) H:=rfl
theorem KG{z:nW}{y:V}{H:Hp}{Q:VK}:KF (.str z) y H Q=onInt y λn=>0<=n/\n<=1000/\z.length<=1000/\Q (.str (tx (aJ n.toNat (cs z)).flatten)) H:=rfl
theorem zc7{a:Int}{y:V}{H:Hp}{Q:VK}:zc6 (.int a) y H Q=onInt y λj=>Q (.bl (decide (a<j))) H:=rfl
theorem zc5{a:nW}{y:V}{H:Hp}{Q:VK}:zc6 (.str a) y H Q=onStr y λj=>Q (.bl (decide (cs a<cs j))) H:=rfl
theorem zck{a:Int}{y:V}{H:Hp}{Q:VK}:zdh (.int a) y H Q=onInt y λj=>Q (.bl (decide (a<=j))) H:=rfl
theorem zcp{a:nW}{y:V}{H:Hp}{Q:VK}:zdh (.str a) y H Q=onStr y λj=>Q (.bl (!(decide (cs j<cs a)))) H:=rfl
theorem zcF{a:Int}{y:V}{H:Hp}{Q:VK}:zb9 (.int a) y H Q=onInt y λj=>Q (.bl (decide (j<a))) H:=rfl
theorem zcy{a:nW}{y:V}{H:Hp}{Q:VK}:zb9 (.str a) y H Q=onStr y λj=>Q (.bl (decide (cs j<cs a))) H:=rfl
theorem zcV{K:nO}{a:nP}{y:V}{H:Hp}{Q:VK}:rIx K (.ref a) y H Q=onInt y λi=>(∃xs,SqL K H a xs/\∃v,atI xs i=rp v/\Q v H)\/∃xs,SqT K H a xs/\∃v,atI xs i=rp v/\Q v H:=rfl
theorem zdg{K:nO}{z:nW}{y:V}{H:Hp}{Q:VK}:rIx K (.str z) y H Q=Jm (.str z) y H Q:=rfl
theorem KT{K:nO}{z:nW}{lo hi:Option Int}{H:Hp}{Q:VK}:zcS K (.str z) lo hi H Q=(z.length<=nN/\Q (.str (tx (cut (cs z) lo hi))) H):=rfl
theorem J3{K:nO}{a:nP}{lo hi:Option Int}{H:Hp}{Q:VK}:zcS K (.ref a) lo hi H Q=(∃xs,SqL K H a xs/\∀p,H p=rq->Q (.ref p) (upd H p (.lst (QO xs lo hi)))):=rfl
theorem JA{K:nO}{z:nW}{H:Hp}{Q:VK}:X2 K [.str z] H Q=(z.length<=nN/\Q (.int z.length) H):=rfl
theorem Kr{K:nO}{a:nP}{H:Hp}{Q:VK}:X2 K [.ref a] H Q=(∃n:Nat,((∃xs,SqL K H a xs/\n=xs.length)\/∃xs,SqT K H a xs/\n=xs.length)/\Q (.int n) H):=rfl
theorem J6{x:V}{H:Hp}{Q:VK}:zds x .non H Q=Q (.bl (decide (x=.non))) H:=rfl
theorem Ku{x:V}{H:Hp}{Q:VK}:zaM x .non H Q=Q (.bl (!decide (x=.non))) H:=rfl
theorem JM{i j:Int}{H:Hp}{Q:VK}:U1 [.int i,.int j] H Q=Q (.int (if j > i then j else i)) H:=rfl
theorem K8{a:nP}{y:V}{H:Hp}{Q:VK}:VX (.ref a) [y] H Q=(∃xs,H a=rp (.lst xs)/\xs.length<nN/\Q .non (upd H a (.lst (xs ++ [y])))):=rfl
theorem zdq{K:nO}{z:nW}{H:Hp}{p:Prop}:(tyV K "str" (.str z) H/\p)=p:=propext #[λh=>h.2,λh=>#[rfl,h]]
section
variable{X:Cx}{a b e:nZ}{ta tb te:TE}{pos p:oJ}
theorem zD(i:Nat){x:nW}{pos':oJ}(hN:X.N.Nodup)(he:PE X e te)(hi:X.N[i]? = rp x:=by rfl)(hx:Loc X.env.scope x:=by exact .inl rfl)(hs:swapsWith e (rp (.Name x pos')) pos.line X.env=pure rA:=by rfl)(hf:X.fn x=rz\/X.env.scope.names.lookup x=rp .local:=by first | exact .inl rfl | exact .inr rfl | assumption) :
  PS X (.Assign [.Name x pos'] e pos) (zam te (yI i)):=xa hN hi hx he hs hf
theorem zm{r:R2}(hr:IxR X r)(ha:PE X a ta)(hb:PE X b tb)(hs:Wo b:=by exact λ_ _=>rfl):PE X (.Subscript a b pos) (tOp r ta tb):=zcZ hr ha hb hs
theorem zL(hm:X.mg "len" = rq)(he:PE X e te)(hg:Gl X "len":=by rfl)(h1:nM [e] X.env=(rA,eval e X.env)::nM [] X.env:=by rfl)(h2:(om pos (nM [] X.env)).any (·.1)=rA:=by rfl):PE X (.Call (.Name "len" p) [e] [] pos) (tCB (X2 X.K) (zK te xI)) :=
 yM zdk hg hm PySem.boot_len (za he ze h1) (he:=h1) (hpl:=h2)
end
section
variable{X:Cx}
theorem VW:∀{ys:List nW} {its:List nQ},Vals (ys.map V.str) its->∃l:List (nW × pX),its=strValues l/\l.map (·.1)=ys
 | [],_,.nil=>#[[],rfl,rfl]
 | y::ys,_,.cons r t=>by
  obtain⟨tk,rfl⟩:=r;obtain⟨l,e1,e2⟩:=VW t;exact#[(y,tk)::l,by rw[e1];rfl,by rw[aj,e2]]
def zcz(K:nO):V->List V->Hp->VK->Prop:=λx xs H Q=>∃z p ys,x=.str z/\xs=[.ref p]/\SqL K H p (ys.map V.str)/\JoinOk z ys=rz/\Q (.str (Txt.join z ys)) H
theorem Jc:MtR X "str.join" (zcz X.K):=by
 intro rB s σ H x xs v us Q I rx rv h;obtain⟨z,p,ys,rfl,rfl,hS,hok,q⟩:=h;obtain⟨t,rfl⟩:=rx;obtain⟨u,rfl,ru⟩:=xP rv;cases ru;obtain⟨its,r,pl,_⟩:=I.list hS;obtain⟨l,rfl,e⟩:=VW r;exact PySem.SC.join pl.isList e hok λt' k=>#[.str _,H,I.tok _,#[_,rfl],q]
theorem jM:∀{bs:List Bool} {its:List nQ} {i:Nat} {v:nQ},Vals (bs.map V.bl) its->its[i]? = rp v->v=.bool (bs.getD i rA)
 | [],_,_,_,.nil,h=>by cases h
 | b::bs,_,0,v,.cons r t,h=>by
  cases r;cases h;rfl
 | b::bs,_,i+1,v,.cons r t,h=>jM (bs:=bs) (i:=i) t h
theorem VF(bs:List Bool):(aQ bs.length).all (λi=>bs.getD i rA)=bs.all id:=by
 induction bs with
 | nil=>rfl
 | cons b bs ih =>
  rw[aE,dk,fj,ef,fj,<- ih];rfl
def zdQ(K:nO):List V->Hp->VK->Prop:=λxs H Q=>∃(p:nP) (bs:List Bool),xs=[.ref p]/\SqL K H p (bs.map V.bl)/\Q (.bl (bs.all id)) H
theorem zcN(hc:X.calm=rz):vz X (.builtin "all") (zdQ X.K):=by
 intro rB s σ H xs us Q I r h;obtain⟨p,bs,rfl,hS,q⟩:=h;obtain⟨u,rfl,ru⟩:=xP r;cases ru;obtain⟨its,rv,pl,hz⟩:=I.list hS
 have hlen:its.length=bs.length:=by
  have:=rv.length;rw[ac]at this;exact this.symm
 have hh:X.A.in1.handled=rq:=I.ok.hd hc
 have hne:p≠s⁻¹:=by
  obtain⟨o,n,e,_⟩:=pl;exact ax (au e)
 obtain⟨f0,f1,f2,f3,f4,f5⟩:=I.fpOk (H':=H) (ao _) (I.hok.fresh (ao _));have I1:=I.kept (t':=s.toks) (h':=s.heap.push { cls:=.type "list_iterator",data:=.fields (List.toArray [.ref p,.int 0 0]) }) λb o e=>af _ e;refine call_all_walk (oY pl.isList ?_);refine#[s⁻¹,_,_,_,_,_,λi=>bs.getD i rA,rfl,Walks.list hh s⁻¹ p hne its.toArray,#[#[_,aI _ rfl,rfl,rfl],?_],?_,?_]
 ·obtain⟨o,n,e,c,d,dt⟩:=pl;exact#[o,af _ e,c,n,dt]
 ·intro i v s' Q' E' hv hq;have:=jM rv (i:=i) (v:=v) (by simpa using hv);rw[this];exact oo hq
 ·intro h' tk hk
  have e:(aQ its.toArray.size).all (λi=>bs.getD i rA)=bs.all id:=by
   rw[ah,hlen,VF]
  rw[e];refine#[.bl _,H,?_,rfl,q];exact I1.turned (t':=tk) (it:=s⁻¹) (λb o hb q=>hk b o (by simpa using hb) q) f0 f1 f3 f4 f5
end
section
variable{M:pN}{A:nX}{E:nQ->nR->Prop}{s:nR}{base:oa}{env env0:pB}{outer:List pB}{L x t C:nP}{dx:Option nP}
theorem zbl{tb:nQ}{Q:Unit->nR->Prop}(hfr:A.frames=rp (env0::outer))(hl:s.heap.FunFrames base (env0::outer))(hf:env0.frame=rp L)(he:env.frame=rp L)
  (hx:s.heap.get? x=rp (xob C dx t tb)) (htb:Kz s.heap x tb)
  (h:∀h' T oT ts,h'.get? x=rp (xob C dx t (.ref T))->T≠x->(tb=.ref T\/s⁻¹<=T)->h'.get? T=rp oT->oT.data=.fields ts->3<ts.size ->
   (∀b o,b≠x->tb≠.ref b->b ∉ frs (env0::outer)->s.heap.get? b=rp o->h'.get? b=rp o)->(∀b o,b≠x->tb≠.ref b->s.heap.get? b=rp o->∃sl,h'.get? b=rp { o with slots:=sl })->Q Unit.unit { s with heap:=h' }) :
  nV M A (noteFrame (.ref x) env) Q E s:=by
 have land:∀(h1:oa) (T:nP) (oT:ou) (ts:Array nQ),h1.get? x=rp (xob C dx t (.ref T))->T≠x->(tb=.ref T\/s⁻¹<=T)->h1.get? T=rp oT->oT.data=.fields ts->3<ts.size ->
   (∀b o,b≠x->tb≠.ref b->b ∉ frs (env0::outer)->s.heap.get? b=rp o->h1.get? b=rp o)->(∀b o,b≠x->tb≠.ref b->s.heap.get? b=rp o->∃sl,h1.get? b=rp { o with slots:=sl }) ->
   Q Unit.unit { s with heap:=h1 }:=λh1 T oT ts e1 nT oldT e2 d2 z2 k1 k2=>h h1 T oT ts e1 nT oldT e2 d2 z2 k1 k2
 unfold noteFrame
 erw[he]
 refine nI (oN hx rfl (x:=tb) rfl ?_);rcases htb with rfl | ⟨T,oT,ts,rfl,nT,e2,d2,z2⟩
 ·rw[if_neg ∅];refine jh hfr hl hf he hx λh' oT ts e1 ne e2 d2 z2 k1 k2=>land h' _ oT ts e1 ne (.inr (ao _)) e2 d2 z2 (λb o hb _ hbf e=>k1 b o hb hbf e) λb o hb _ e=>k2 b o hb e
 ·rw[if_pos (show (Value.ref T != Value.none)=rz from by simp)];obtain⟨y,hy⟩:∃y,ts[3]? = rp y:=#[ts[3],by simp [z2]];refine nI (oN e2 d2 (x:=y) hy ?_);by_cases c:(y == rawInt L)=rz
  ·rw[if_pos c];exact nJ (land s.heap T oT ts hx nT (.inl rfl) e2 d2 z2 (λb o _ _ _ e=>e) λb o _ _ e=>#[o.slots,e])
  ·rw[if_neg c];refine nI (oM e2 d2 z2 ?_);have oth:∀b,b≠T->(s.heap.update T (Obj.mapFields (·.setIfInBounds 3 Value.none))).get? b=s.heap.get? b:=λb hb=>aG _ _ (Ne.symm hb);have hl1:(s.heap.update T (Obj.mapFields (·.setIfInBounds 3 Value.none))).FunFrames base (env0::outer):=hl.of_keeps λb o hb hnf=>#[o,(oth b λq=>by rw[q,e2]at hb;cases hb;exact hnf ts d2).trans hb,rfl];have hsz:(s.heap.update T (Obj.mapFields (·.setIfInBounds 3 Value.none))).objs.size=s⁻¹:=cG ..;refine jh (s:={ s with heap:=s.heap.update T (Obj.mapFields (·.setIfInBounds 3 Value.none)) }) hfr hl1 hf he ((oth x (Ne.symm nT)).trans hx) λh' oT' ts' e1 ne e2' d2' z2' k1 k2=>?_;refine land h' _ oT' ts' e1 ne (.inr (by rw[hsz];exact ao _)) e2' d2' z2' (λb o hb hbt hbf e=>k1 b o hb hbf ((oth b λq=>hbt (by rw[q])).trans e)) λb o hb hbt e=>k2 b o hb ((oth b λq=>hbt (by rw[q])).trans e)
end
section
variable{X:Cx}{rB:List (nP × ou)}{σ:St}{H1:Hp}{s1:nR}
theorem Inv.noted{h':oa}{x T:nP}{tb:nQ}(I1:Inv X rB σ H1 s1)(hst:X.stack=X.env::X.outer)(fx:xE X rB H1 x)(fT:∀T,tb=.ref T->xE X rB H1 T)(fT':xE X rB H1 T)
  (k1:∀b o,b≠x->tb≠.ref b->b ∉ frs (X.env::X.outer)->s1.heap.get? b=rp o->h'.get? b=rp o) (k2:∀b o,b≠x->tb≠.ref b->s1.heap.get? b=rp o->∃sl,h'.get? b=rp { o with slots:=sl }):Inv X rB σ H1 { s1 with heap:=h' }:=by
 have tbs:∀b,tb=.ref b->H1 b=rq:=λb hb=>(fT b hb).1
 have nch:∀b o,s1.heap.get? b=rp o->b ∉ (x::T::tbL tb)->b≠x/\tb≠.ref b:=λb o _ hb=>by
  refine#[λz=>hb (by simp [z]),λz=>hb ?_];rw[z];simp [tbL]
 have un:Un (frs X.stack) (x::T::tbL tb) H1 H1 s1.heap h':=by
  rw[hst];refine#[λb o e n hb hc=>?_,λb o e n hb hc=>?_,λb o e n _=>n,λb o e hc=>?_,λb xs e=>e,λb o u e=>e,λb ps e=>#[#[],by rw[e];simp]]
  ·obtain⟨a1,a2⟩:=nch b o e hc;exact k1 b o a1 a2 hb e
  ·obtain⟨a1,a2⟩:=nch b o e hc;exact k2 b o a1 a2 e
  ·obtain⟨a1,a2⟩:=nch b o e hc;obtain⟨sl,q⟩:=k2 b o a1 a2 e;exact#[_,q]
 have hok:HOk X.prog X.w H1 h':=λb u e=>by
  refine (I1.hok b u e).stay (λc v hc q=>k1 c v ?_ ?_ ?_ q) (λ_ q=>q) λ_ _ q=>q
  ·rintro rfl;rcases hc with rfl | hc
   ·rw[fx.1]at e;cases e
   ·rw[fx.1]at hc;cases hc
  ·intro z;have:=tbs c z;rcases hc with rfl | hc
   ·rw[this]at e;cases e
   ·rw[this]at hc;cases hc
  ·intro z;rw[<- hst]at z;have:=I1.stkFree c z;rcases hc with rfl | hc
   ·rw[this]at e;cases e
   ·rw[this]at hc;cases hc
 exact I1.call' (s':={ s1 with heap:=h' }) rfl un hok I1.bare λb hb=>by
  have fb:xE X rB H1 b:=by
   rcases rH.mp hb with z | z
   ·rw[z];exact fx
   ·rcases rH.mp z with z | z
    ·rw[z];exact fT'
    ·cases tb with
     | ref b' =>
      have:b=b':=by simpa [tbL] using z
      rw[this];exact fT b' rfl
     | _=>simp [tbL]at z
  obtain⟨_,a1,_,a3,a4,a5⟩:=fb;exact#[a3,a1,a4,a5]
end
section
variable{X:Cx}{scope:oB}{own caps:List nW}{ix:()}{cl:List (nW × nP)}
theorem Wc{N:List nW}{EX:XK}{rB:List (nP × ou)}{σ:St}{H3:Hp}{s3:nR}{fp:List nP}{xe:nQ->nR->Prop}{e:nQ}{s1:nR}{RE:nQ->nR->Prop}(hst:X.stack=X.env::X.outer/\X.env.frame=rp X.env.locals)(hxe:XE X EX)
  (hc1:∀y c,cl.lookup y=rp c->X.env.cells.lookup y=rp c) (I3:Inv X rB σ H3 s3) (f3:∀b ∈ fp,xE X rB H3 b) (fl:zbW (yb X scope cl s3⁻¹ N rB s3 H3 fp xe) EX e s1)
  (hRE:∀m s' x,s'.heap.Ns s3⁻¹ m->(∀h',Heap.SameBut s3⁻¹ s'.heap h'->∀cenv:pB,cenv.locals=s3⁻¹->nV (model X.prog X.w) X.A (fz "comprehension.variables-let-go" x cenv:rb nQ) (λ_ _=>False) X.xe { s' with heap:=h' })->RE x s') :
  notedBy (model X.prog X.w) X.A (compEnvC scope cl s3⁻¹ X.env) RE e s1:=by
 obtain⟨pins',σ',H1,x,C,t,dx,tb,rfl,I1,ob,tr,fx,fT,q⟩:=fl
 have IX:Inv X rB σ H1 s1:=I3.call' (s':=s1) I1.os I1.base I1.hok I1.bare λb hb=>by
  obtain⟨_,a1,a2,a3,a4,a5⟩:=f3 b hb;exact#[a3,a1,a4,a5]
 have up:∀b,xE (yb X scope cl s3⁻¹ N rB s3 H3 fp xe) pins' H1 b->xE X rB H1 b:=λb hb=>by
  obtain⟨a0,a1,a2,a3,a4,a5⟩:=hb;rcases a3 with a3 | a3
  ·exact#[a0,(f3 b a3).2]
  ·exact I3.fpOk a3 a0
 have fx':=up x fx;have fT':∀T,tb=.ref T->xE X rB H1 T:=λT h=>up T (fT T h);have fr:X.A.frames=rp (X.env::X.outer):=by rw[<- hst.1];exact IX.ok.frames
 have ff:s1.heap.FunFrames X.base (X.env::X.outer):=by rw[<- hst.1];exact IX.stack
 obtain⟨m,hm,_⟩:=I1.loc;have fC:xE X rB H1 s3⁻¹:=I3.fpOk (ao _) I1.free;refine zbl fr ff hst.2 hst.2 ob tr λh' T oT ts e1 nT oldT e2 d2 z2 k1 k2=>?_
 have fT2:xE X rB H1 T:=by
  rcases oldT with z | z
  ·exact fT' T z
  ·exact IX.fpOk z (IX.hok.fresh z)
 have I2:Inv X rB σ H1 { s1 with heap:=h' }:=Inv.noted IX hst.1 fx' fT' fT2 k1 k2;have hCx:s3⁻¹≠x:=λz=>fx.2.1 z.symm;have hCtb:tb≠.ref s3⁻¹:=λz=>(fT _ z).2.1 rfl;obtain⟨oC,es,ep,hoC,rC⟩:=hm
 have hCT:T≠s3⁻¹:=by
  rcases oldT with z | z
  ·exact (fT T z).2.1
  ·exact cr (av (au hoC) z)
 have hCf:s3⁻¹ ∉ frs (X.env::X.outer):=λz=>by
  rw[<- hst.1]at z;rcases rH.mp (IX.stkSub _ z)with y | y
  ·exact fC.2.1 y
  ·exact fC.2.2.1 y
 refine hRE m _ _ #[oC,es,ep,k1 _ _ hCx hCtb hCf hoC,rC] λh2 sb cenv hcenv=>?_;have I3':Inv X rB σ H1 { s1 with heap:=h2 }:=I2.turned (t':=s1.toks) (λb o hb e=>(sb.2 b hb).trans e) fC.1 fC.2.1 fC.2.2.2.1 fC.2.2.2.2.1 fC.2.2.2.2.2;have ob2:h2.get? x=rp (xob C dx t (.ref T)):=(sb.2 x (Ne.symm hCx)).trans e1;have oT2:h2.get? T=rp oT:=(sb.2 T hCT).trans e2;unfold fz;refine nI (oN (s:={ s1 with heap:=h2 }) ob2 rfl (x:=.ref T) rfl ?_);rw[if_neg (show ¬ (Value.ref T == Value.none)=rz from by simp)];unfold setFlight;refine nI (nI (oN (s:={ s1 with heap:=h2 }) ob2 rfl (x:=.ref T) rfl ?_));rw[if_pos (show (Value.ref T != Value.none)=rz from by simp)];refine oM (s:={ s1 with heap:=h2 }) oT2 d2 z2 (wpAny_throw (hxe _ _ ?_));have d3:=Obj.data_mapFields d2 (·.setIfInBounds 3 (cenv.frame.elim Value.none λf=>rawInt f))
 have I4:Inv X rB σ H1 { s1 with heap:=h2.update T (Obj.mapFields (·.setIfInBounds 3 (cenv.frame.elim Value.none λf=>rawInt f))) } :=
  I3'.turned (t':=s1.toks) (λb o hb e=>(aG _ _ (Ne.symm hb)).trans e) fT2.1 fT2.2.1 fT2.2.2.2.1 fT2.2.2.2.2.1 fT2.2.2.2.2.2
 exact#[rB,σ,H1,x,C,t,dx,.ref T,rfl,I4,(aG _ _ nT).trans ob2,.inr #[T,_,_,rfl,nT,ce _ oT2 (Obj.isFreed_of_fields d3),d3,by simpa using z2],fx',λT' z=>by cases z;exact fT2,q]
end
section
variable{X:Cx}{scope:oB}{own caps:List nW}{ix:()}{elt tg iter:nZ}{ifs:List nZ}{pos:oJ}{wi:TI}{g:TG}{tt:TT}{te:TE}
end
open PySem.AutoSeq1 (wpAny_loadPart')
open MeetsSeq MeetsSeq2 MeetsSeq3 SeqRoads2 SeqAt
def uX(op:pb)(A:nX)(s:nR)(y x:nQ)(b:Bool):Prop :=
 ∀(prog:nU) (w:nY) (E:nQ->nR->Prop) (Q:nQ->nR->Prop),Q (.bool b) s->nV (model prog w) A (richCompare op y x) Q E s
noncomputable abbrev LtAt:=uX .Lt
noncomputable def za6:pb->Nat->Nat->Bool
 | .Gt,m,n=>decide (n<m)
 | _,m,n=>decide (m<n)
noncomputable def zdK:pb->Int
 | .Gt=>4
 | _=>0
def LG(op:pb):Prop:=op=.Lt\/op=.Gt
def w4(op:pb)(e t r:Nat->Bool)(m n:Nat):Prop:=∀i,i<=m->i<=n->r i=if i<m/\i<n then (if e i=rz then r (i+1)else t i)else za6 op m n
noncomputable abbrev zcX:=w4 .Lt
variable{op:pb}
theorem Vu(ho:LG op)(l b:nP)(items rD:Array nQ)(n n2:Nat)(dd dd2:Option nP)(sl sl2:Array (Option nQ))(e t r:Nat->Bool)(hr:w4 op e t r items.size rD.size)(k:Nat) :
  ∀i:Nat,i<=items.size->i<=rD.size->items.size - i=k->Meets (Builtin.«list.__eq__.loop» #[[.ref l,.ref b,rawInt i,rawInt (zdK op)],[]])
   (λA R s=>s.heap.get? l=rp { cls:=.type "list",dict:=dd,data:=.seq items n,slots:=sl }/\s.heap.get? b=rp { cls:=.type "list",dict:=dd2,data:=.seq rD n2,slots:=sl2 } /\
    (∀j (h1:j<items.size) (h2:j<rD.size),EqAt A.in1 s items[j] rD[j] (e j))/\(∀j (h1:j<items.size) (h2:j<rD.size),e j=rA->uX op A.in1 s items[j] rD[j] (t j)) /\
    R (.ok (.ret (.bool (r i)))) s):=by
 rcases ho with rfl | rfl <;> erw[zdK] <;> erw[w4,za6]at hr
 all_goals
  induction k with
  | zero =>
   intro i b1 b2 hk prog w A R s h;obtain⟨hp,g,d,tk,os⟩:=s;obtain⟨hl,hb,he,ht,h⟩:=h;have hri:=hr i b1 b2;rw[if_neg ⋯]at hri;rw[hri]at h
   wp_walk using wpAny_loadPart' hl,wpAny_loadPart' hb
   have hi1:items[((i:Nat):Int).toNat]? = rq:=by simp;lia
   rw[hi1]
   wp_walk using wpAny_loadPart' hl,wpAny_loadPart' hb
   exact h
  | succ k ih =>
   intro i b1 b2 hk prog w A R s h;obtain⟨hp,g,d,tk,os⟩:=s;obtain⟨hl,hb,he,ht,h⟩:=h;have hlt:i<items.size:=⋯;have hi1:items[((i:Nat):Int).toNat]? = rp items[i]:=by simp [hlt]
   have hc:((i:Int)+1)=((i+1:Nat):Int):=by push_cast;rfl
   have hri:=hr i b1 b2;by_cases hlt2:i<rD.size
   ·rw[if_pos #[hlt,hlt2]]at hri;rw[hri]at h;have hi2:rD[((i:Nat):Int).toNat]? = rp rD[i]:=by simp [hlt2]
    wp_walk using wpAny_loadPart' hl,wpAny_loadPart' hb
    rw[hi1,hi2];refine nI (he i hlt hlt2 prog w _ _ ?_)
    cases hb':e i with
    | true =>
     rw[hb',if_pos rfl]at h
     wp_walk
     rw[hc]
     exact#[plainId_quiet plain_eq_loop _,oV entry_eq_loop (by
      rw[Around.under_plainId plain_eq_loop _]
      exact ih (i+1) ⋯ ⋯ ⋯ prog w A R _ #[hl,hb,he,ht,h])]
    | false =>
     rw[hb',if_neg aA]at h
     wp_walk using wpAny_loadPart' hl,wpAny_loadPart' hb
     rw[hi1,hi2];refine nI (ht i hlt hlt2 hb' prog w _ _ ?_)
     wp_walk
     exact h
   ·rw[if_neg ⋯]at hri;rw[hri]at h;have hi2:rD[((i:Nat):Int).toNat]? = rq:=by simp;lia
    wp_walk using wpAny_loadPart' hl,wpAny_loadPart' hb
    rw[hi1,hi2]
    wp_walk using wpAny_loadPart' hl,wpAny_loadPart' hb
    exact h
theorem kN(ho:LG op)(l b:nP)(items rD:Array nQ)(n n2:Nat)(dd dd2:Option nP)(sl sl2:Array (Option nQ))(e t r:Nat->Bool)(hr:w4 op e t r items.size rD.size) :
  Meets ((match op with | .Gt=>Builtin.«list.__gt__» | _=>Builtin.«list.__lt__») ⟨[.ref l,.ref b],[]⟩)
   (λA R s=>s.heap.get? l=rp { cls:=.type "list",dict:=dd,data:=.seq items n,slots:=sl }/\s.heap.get? b=rp { cls:=.type "list",dict:=dd2,data:=.seq rD n2,slots:=sl2 } /\
    (∀j (h1:j<items.size) (h2:j<rD.size),EqAt A.in1 s items[j] rD[j] (e j))/\(∀j (h1:j<items.size) (h2:j<rD.size),e j=rA->uX op A.in1 s items[j] rD[j] (t j)) /\
    R (.ok (.ret (.bool (r 0)))) s):=by
 rcases id ho with rfl | rfl
 all_goals
  intro prog w A R s h;obtain⟨hp,g,d,tk,os⟩:=s;obtain⟨hl,hb,he,ht,h⟩:=h;have f3:=AutoSeq1.sub_list_list
  wp_walk using wpAny_loadPart' hl,wpAny_loadPart' hb
  exact#[plainId_quiet plain_eq_loop _,oV entry_eq_loop (by
   rw[Around.under_plainId plain_eq_loop _]
   exact Vu ho l b items rD n n2 dd dd2 sl sl2 e t r hr _ 0 (aB _) (aB _) rfl prog w A R _ #[hl,hb,he,ht,h])]
theorem qZ(ho:LG op)(l b:nP)(items rD:Array nQ)(n n2:Nat)(dd dd2:Option nP)(sl sl2:Array (Option nQ))(e t r:Nat->Bool)(hr:w4 op e t r items.size rD.size) :
  Meets ((match op with | .Gt=>Builtin.«tuple.__gt__» | _=>Builtin.«tuple.__lt__») ⟨[.ref l,.ref b],[]⟩)
   (λA R s=>s.heap.get? l=rp { cls:=.type "tuple",dict:=dd,data:=.seq items n,slots:=sl }/\s.heap.get? b=rp { cls:=.type "tuple",dict:=dd2,data:=.seq rD n2,slots:=sl2 } /\
    (∀j (h1:j<items.size) (h2:j<rD.size),EqAt A.in1 s items[j] rD[j] (e j))/\(∀j (h1:j<items.size) (h2:j<rD.size),e j=rA->uX op A.in1 s items[j] rD[j] (t j)) /\
    R (.ok (.ret (.bool (r 0)))) s):=by
 rcases ho with rfl | rfl <;> erw[w4,za6]at hr
 all_goals
  refine .of_wp λprog w A R s h=>?_;obtain⟨hp,g,d,tk,os⟩:=s;obtain⟨hl,hb,he,ht,h⟩:=h;have f2:=AutoSeq1.sub_tuple_tuple;have hZ:(items.toList.zip rD.toList).length=min items.size rD.size:=by simp
  wp_walk using wpAny_loadPart' hl,wpAny_loadPart' hb,wpAny_forIn_list _ (λrest b s'=>b.1=rq/\s'=#[hp,g,d,tk,os]/\∃i,i<=min items.size rD.size/\rest=(items.toList.zip rD.toList).drop i /\
   R (.ok (.ret (.bool (r i)))) #[hp,g,d,tk,os]) _
  case turn =>
   rintro⟨y,x⟩ rest b s' ⟨hb',rfl,i,hi,hz,hR⟩
   have hlt:i<(items.toList.zip rD.toList).length:=by
    rcases eh i (items.toList.zip rD.toList).length with h' | h'
    ·exact h'
    ·rw[bc h']at hz;cases hz
   have hm:i<min items.size rD.size:=hZ ▸ hlt;have h1:i<items.size:=av hm (Nat.min_le_left _ _);have h2:i<rD.size:=av hm (Nat.min_le_right _ _);rw[aT hlt]at hz;injection hz with hyx hrest;have hy:y=items[i]:=by have:=congrArg Prod.fst hyx;simpa using this
   have hx:x=rD[i]:=by have:=congrArg Prod.snd hyx;simpa using this
   subst hy hx;have hri:=hr i ⋯ ⋯;rw[if_pos #[h1,h2]]at hri;rw[hri]at hR;refine nI (he i h1 h2 prog w _ _ ?_)
   cases hy:e i with
   | true =>
    rw[hy,if_pos rfl]at hR
    wp_walk
    exact#[rfl,rfl,i+1,⋯,hrest,hR]
   | false =>
    rw[hy,if_neg aA]at hR
    erw[eS,if_true]
    refine nI (re ?_);refine nI (ht i h1 h2 hy prog w _ _ ?_)
    wp_walk
    exact#[_,rfl,hR]
  case fin =>
   rintro⟨b1,b2⟩ s' ⟨hb',rfl,i,hi,hz,hR⟩;simp only at hb';subst hb'
   have hge:min items.size rD.size<=i:=by
    rcases eh i (items.toList.zip rD.toList).length with h' | h'
    ·rw[aT h']at hz;cases hz
    ·exact hZ ▸ h'
   have hri:=hr i ⋯ ⋯;rw[if_neg ⋯]at hri;rw[hri]at hR
   wp_walk
   exact#[_,rfl,hR]
  case h =>
   exact#[rfl,rfl,0,aB _,rfl,h]
theorem LtAt.lists(ho:LG op){A:nX}{s:nR}{l b:nP}{items rD:Array nQ}{e t r:Nat->Bool}(hl:s.heap.IsList l items)(hb:s.heap.IsList b rD)(hr:w4 op e t r items.size rD.size)(hu:A.units<cLine)
  (he:∀j (h1:j<items.size) (h2:j<rD.size),EqAt A.in1 s items[j] rD[j] (e j)) (ht:∀j (h1:j<items.size) (h2:j<rD.size),e j=rA->uX op A.in1 s items[j] rD[j] (t j)):uX op A s (.ref l) (.ref b) (r 0):=λprog w E Q h=>by
 obtain⟨⟨cls,dd,data,sl⟩,h1,hc,n,hd⟩:=id hl;obtain⟨⟨cls2,dd2,data2,sl2⟩,h2,hc2,n2,hd2⟩:=id hb;simp only at hc hd hc2 hd2;subst hc hd hc2 hd2;have z:Value.bool (r 0)≠Value.notImplemented/\Q (.bool (r 0)) s:=#[(λx=>nomatch x),h];rcases id ho with rfl | rfl
 ·exact richCompare_meets_room #[_,h1,rfl] #[_,h2,rfl] F.slot_list_lt F.entry_list_lt (F.args_list_lt_2 _ _) (kN ho l b items rD n n2 dd dd2 sl sl2 e t r hr) #[h1,h2,he,ht,z] hu
 ·exact richCompare_meets_room #[_,h1,rfl] #[_,h2,rfl] F.slot_list_gt F.entry_list_gt (F.args_list_gt_2 _ _) (kN ho l b items rD n n2 dd dd2 sl sl2 e t r hr) #[h1,h2,he,ht,z] hu
theorem LtAt.tuples(ho:LG op){A:nX}{s:nR}{l b:nP}{items rD:Array nQ}{e t r:Nat->Bool}(hl:s.heap.IsTuple l items)(hb:s.heap.IsTuple b rD)(hr:w4 op e t r items.size rD.size)(hu:A.units<cLine)
  (he:∀j (h1:j<items.size) (h2:j<rD.size),EqAt A.in1 s items[j] rD[j] (e j)) (ht:∀j (h1:j<items.size) (h2:j<rD.size),e j=rA->uX op A.in1 s items[j] rD[j] (t j)):uX op A s (.ref l) (.ref b) (r 0):=λprog w E Q h=>by
 obtain⟨⟨cls,dd,data,sl⟩,h1,hc,n,hd⟩:=id hl;obtain⟨⟨cls2,dd2,data2,sl2⟩,h2,hc2,n2,hd2⟩:=id hb;simp only at hc hd hc2 hd2;subst hc hd hc2 hd2;have z:Value.bool (r 0)≠Value.notImplemented/\Q (.bool (r 0)) s:=#[(λx=>nomatch x),h];rcases id ho with rfl | rfl
 ·exact richCompare_meets_room #[_,h1,rfl] #[_,h2,rfl] F.slot_tuple_lt F.entry_tuple_lt (F.args_tuple_lt_2 _ _) (qZ ho l b items rD n n2 dd dd2 sl sl2 e t r hr) #[h1,h2,he,ht,z] hu
 ·exact richCompare_meets_room #[_,h1,rfl] #[_,h2,rfl] F.slot_tuple_gt F.entry_tuple_gt (F.args_tuple_gt_2 _ _) (qZ ho l b items rD n n2 dd dd2 sl sl2 e t r hr) #[h1,h2,he,ht,z] hu
mutual
def okD:D->D->Prop
 | .int _,.int _=>True
 | .lst l,.lst m=>j4 l m
 | .tup l,.tup m=>j4 l m
 | _,_=>False
def j4:List D->List D->Prop
 | d::l,e::m=>okD d e/\j4 l m
 | _,_=>True
end
mutual
noncomputable def ltD:D->D->Bool
 | .int a,.int b=>decide (a<b)
 | .lst l,.lst m=>xo l m
 | .tup l,.tup m=>xo l m
 | _,_=>rA
noncomputable def xo:List D->List D->Bool
 | d::l,e::m=>if eqD d e=rz then xo l m else ltD d e
 | [],_::_=>rz
 | _,[]=>rA
end
theorem VN(l m:List D):zcX (λj=>eqD (l.getD j .non) (m.getD j .non)) (λj=>ltD (l.getD j .non) (m.getD j .non)) (λi=>xo (l.drop i) (m.drop i)) l.length m.length:=by
 intro i b1 b2
 erw[za6]
 by_cases h:i<l.length/\i<m.length
 ·rw[if_pos h,aT h.1,aT h.2,xo];rw[aa,aa,ae h.1,ae h.2];rfl
 ·rw[if_neg h];by_cases h1:i<l.length
  ·have h2:¬ i<m.length:=λz=>h #[h1,z];rw[aT h1,bc (cF h2),xo]
   ·simp;lia
   all_goals simp
  ·rw[bc (cF h1)];by_cases h2:i<m.length
   ·rw[aT h2,xo];simp;lia
   ·rw[bc (cF h2),xo]
    ·simp;lia
    all_goals simp
mutual
theorem YI:∀d e:D,eqD d e=eqD e d
 | .lst l,e=>by cases e <;> erw[eqD];exact uH l _
 | .tup l,e=>by cases e <;> erw[eqD];exact uH l _
 | .int _,e=>by cases e <;> erw[eqD] <;> exact fm
 | .str _,e=>by cases e <;> erw[eqD] <;> exact fm
 | .bl _,e=>by cases e <;> erw[eqD] <;> exact fm
 | .non,e=>by cases e <;> erw[eqD]
theorem uH:∀l m:List D,w8 l m=w8 m l
 | [],[]=>rfl
 | [],_::_=>by erw[w8]
 | _::_,[]=>by erw[w8]
 | d::l,e::m=>by erw[w8,YI d e,uH l m]
end
noncomputable def cm:pb->D->D->Bool
 | .Gt,d,e=>ltD e d
 | _,d,e=>ltD d e
noncomputable def cms:pb->List D->List D->Bool
 | .Gt,d,e=>xo e d
 | _,d,e=>xo d e
theorem V3{op:pb}(ho:LG op)(l m:List D):w4 op (λj=>eqD (l.getD j .non) (m.getD j .non)) (λj=>cm op (l.getD j .non) (m.getD j .non)) (λi=>cms op (l.drop i) (m.drop i)) l.length m.length:=by
 rcases ho with rfl | rfl
 ·exact VN l m
 ·intro i b1 b2;have h:=VN m l i b2 b1
  erw[za6,cm,cms]at h ⊢
  rw[h,YI (m.getD i .non)];by_cases q:i<l.length/\i<m.length
  ·rw[if_pos q,if_pos q.symm]
  ·rw[if_neg q,if_neg λz=>q z.symm]
theorem zaU:∀{l m:List D} {j:Nat} {d e:D},j4 l m->l[j]? = rp d->m[j]? = rp e->okD d e
 | d::l,e::m,0,_,_,h,q1,q2=>by
  cases q1;cases q2
  erw[j4]at h
  exact h.1
 | d::l,e::m,j+1,_,_,h,q1,q2=>by
  erw[j4]at h
  exact zaU (j:=j) h.2 q1 q2
section
variable{X:Cx}{rB:List (nP × ou)}{σ:St}{H:Hp}{s:nR}
theorem Yr{op:pb}{l m:List D}{xs ys:List V}{its its':List nQ}{A:nX}{n:Nat}(hl:Iss X.K H l xs)(hm:Iss X.K H m ys)(r:Vals xs its)(r':Vals ys its')(hn:wW l<n)(ok:j4 l m)
  (ih:∀(d e:D) (x y:V) (u v:nQ),dpD d<n->okD d e->Is X.K H d x->Is X.K H e y->RelV x u->RelV y v->uX op A s u v (cm op d e)) :
  ∀j (h1:j<its.toArray.size) (h2:j<its'.toArray.size),uX op A s its.toArray[j] its'.toArray[j] (cm op (l.getD j .non) (m.getD j .non)):=by
 intro j h1 h2;rw[ah]at h1 h2;have e1:=hl.len;have e2:=hm.len;have e3:=r.length;have e4:=r'.length;have g1:l[j]? = rp l[j]:=ae ⋯;have g2:m[j]? = rp m[j]:=ae ⋯;generalize l[j]=d at g1;generalize m[j]=e at g2;obtain⟨x,hx,ix⟩:=hl.at g1;obtain⟨y,hy,iy⟩:=hm.at g2;obtain⟨u,hu,ru⟩:=yx r hx;obtain⟨v,hv,rv⟩:=yx r' hy
 have q1:its.toArray[j]=u:=by
  have:=(rG.mp hu).2;simpa using this
 have q2:its'.toArray[j]=v:=by
  have:=(rG.mp hv).2;simpa using this
 rw[q1,q2,aa,aa,g1,g2];exact ih d e x y u v (bY (JQ g1) hn) (zaU ok g1 g2) ix iy ru rv
theorem KA{op:pb}(ho:LG op)(I:Inv X rB σ H s):∀(n:Nat) (A:nX) (d e:D) (x y:V) (u v:nQ),A.units+n<cLine->dpD d<n->okD d e->Is X.K H d x->Is X.K H e y->RelV x u->RelV y v->uX op A s u v (cm op d e):=by
 intro n
 induction n with
 | zero=>intro A d e x y u v _ h;exact absurd h (cX _)
 | succ n ih =>
  intro A d e x y u v hu hd ok hx hy rx ry;have hu1:A.units<cLine:=⋯;have huA:A.in1.units+n<cLine:=by show A.units+1+n<cLine;lia
  cases d with
  | int a =>
   cases e with
   | int b =>
    erw[Is]at hx hy
    subst hx hy;obtain⟨t,rfl⟩:=rx;obtain⟨t',rfl⟩:=ry;rcases ho with rfl | rfl
    ·exact λprog w E Q h=>lt_int h
    ·exact λprog w E Q h=>gt_int h
   | _=>erw[okD]at ok
  | lst l =>
   cases e with
   | lst m =>
    erw[Is]at hx hy
    obtain⟨a,xs,rfl,h1,h2⟩:=hx;obtain⟨b,ys,rfl,g1,g2⟩:=hy;cases rx;cases ry;obtain⟨its,r,p,_⟩:=I.list h1;obtain⟨its',r',p',_⟩:=I.list g1
    erw[dpD]at hd
    erw[okD]at ok
    have L1:=h2.len;have L2:=g2.len;have L3:=r.length;have L4:=r'.length;have st:=V3 ho l m;rw[show l.length=its.toArray.size by erw[ah];lia,show m.length=its'.toArray.size by erw[ah];lia]at st
    have r0:=LtAt.lists ho (A:=A) p.isList p'.isList st hu1 (y9 h2 g2 r r' (n:=n) ⋯ λd e x y u v q1 q2 q3 q4 q5=>ug I n A.in1 d e x y u v huA q1 q2 q3 q4 q5)
     (λj h1 h2 _=>Yr (n:=n) (A:=A.in1) ‹_› g2 r r' ⋯ ok (λd e x y u v q1 q2 q3 q4 q5 q6=>ih A.in1 d e x y u v huA q1 q2 q3 q4 q5 q6) j h1 h2)
    rcases id ho with rfl | rfl <;> exact r0
   | _=>erw[okD]at ok
  | tup l =>
   cases e with
   | tup m =>
    erw[Is]at hx hy
    obtain⟨a,xs,rfl,h1,h2⟩:=hx;obtain⟨b,ys,rfl,g1,g2⟩:=hy;cases rx;cases ry;obtain⟨its,r,p,_⟩:=I.tuple h1;obtain⟨its',r',p',_⟩:=I.tuple g1
    erw[dpD]at hd
    erw[okD]at ok
    have L1:=h2.len;have L2:=g2.len;have L3:=r.length;have L4:=r'.length;have st:=V3 ho l m;rw[show l.length=its.toArray.size by erw[ah];lia,show m.length=its'.toArray.size by erw[ah];lia]at st
    have r0:=LtAt.tuples ho (A:=A) p p' st hu1 (y9 h2 g2 r r' (n:=n) ⋯ λd e x y u v q1 q2 q3 q4 q5=>ug I n A.in1 d e x y u v huA q1 q2 q3 q4 q5)
     (λj h1 h2 _=>Yr (n:=n) (A:=A.in1) ‹_› g2 r r' ⋯ ok (λd e x y u v q1 q2 q3 q4 q5 q6=>ih A.in1 d e x y u v huA q1 q2 q3 q4 q5 q6) j h1 h2)
    rcases id ho with rfl | rfl <;> exact r0
   | _=>erw[okD]at ok
  | non=>cases e <;> erw[okD]at ok
  | bl _=>cases e <;> erw[okD]at ok
  | str _=>cases e <;> erw[okD]at ok
theorem Vs(I:Inv X rB σ H s):∀(n:Nat) (A:nX) (d e:D) (x y:V) (u v:nQ),A.units+n<cLine->dpD d<n->okD d e->Is X.K H d x->Is X.K H e y->RelV x u->RelV y v->LtAt A s u v (ltD d e):=KA (.inl rfl) I
def zdx(K:nO):R2:=λx y H Q=>∃d e,Is K H d x/\Is K H e y/\dpD d<50/\okD d e/\Q (.bl (ltD d e)) H
theorem zbs(hu:X.A.units+100<cLine):OpR X (og .Lt) (zdx X.K):=by
 intro rB s σ H x y v u Q I rx ry h;obtain⟨d,e,hx,hy,hd,ok,q⟩:=h;exact Vs I 50 X.A d e x y v u ⋯ hd ok hx hy rx ry X.prog X.w X.xe _ #[.bl _,H,I,rfl,q]
end
theorem Kt{K:nO}{x y:V}{H:Hp}{Q:VK}{d e:D}(h1:Is K H d x)(h2:Is K H e y)(h3:dpD d<50)(h4:okD d e)(q:Q (.bl (ltD d e)) H):zdx K x y H Q:=#[d,e,h1,h2,h3,h4,q]
noncomputable def ltI:List Int->List Int->Bool
 | a::l,b::m=>if a=b then ltI l m else decide (a<b)
 | [],_::_=>rz
 | _,[]=>rA
theorem vw:∀(l m:List Int),j4 (l.map D.int) (m.map D.int)
 | [],_=>by erw[aw,j4]
 | _::_,[]=>by erw[aw,aj,j4]
 | a::l,b::m=>by erw[aj,j4,okD,true_and];exact vw l m
theorem Zh:∀(l m:List Int),xo (l.map D.int) (m.map D.int)=ltI l m
 | [],[]=>by erw[aw,xo,ltI]
 | [],_::_=>by erw[aw,aj,xo,ltI]
 | _::_,[]=>by erw[aw,aj,xo,ltI]
 | a::l,b::m=>by
  erw[aj,xo,ltI,eqD,ltD,Zh l m,beq_iff_eq]
mutual
def xh:D->Prop
 | .lst _=>False
 | .tup l=>zV l
 | _=>True
def zV:List D->Prop
 | []=>True
 | d::l=>xh d/\zV l
end
theorem Xe{K:nO}{H:Hp}{a p:nP}{xs ys zs:List V}(hp:H p=rp (.lst ys))(h:SqT K H a xs):SqT K (upd H p (.lst zs)) a xs:=by
 rcases h with (h | ⟨o,h⟩) | h
 ·refine .inl (.inl ?_);rw[zp (λe=>by rw[e,hp]at h;cases h)];exact h
 ·refine .inl (.inr #[o,?_]);rw[zp (λe=>by rw[e,hp]at h;cases h)];exact h
 ·exact .inr h
mutual
theorem Is.updL{K:nO}{H:Hp}{p:nP}{ys zs:List V}(hp:H p=rp (.lst ys)):∀(d:D) (v:V),xh d->Is K H d v->Is K (upd H p (.lst zs)) d v
 | .non,v,_,h=>by erw[Is]at h ⊢;exact h
 | .bl b,v,_,h=>by erw[Is]at h ⊢;exact h
 | .int b,v,_,h=>by erw[Is]at h ⊢;exact h
 | .str b,v,_,h=>by erw[Is]at h ⊢;exact h
 | .lst l,v,f,h=>by erw[xh]at f
 | .tup l,v,f,h=>by
  erw[Is]at h ⊢
  erw[xh]at f
  obtain⟨a,xs,e1,e2,e3⟩:=h;exact#[a,xs,e1,Xe hp e2,Iss.updL hp l xs f e3]
theorem Iss.updL{K:nO}{H:Hp}{p:nP}{ys zs:List V}(hp:H p=rp (.lst ys)):∀(l:List D) (vs:List V),zV l->Iss K H l vs->Iss K (upd H p (.lst zs)) l vs
 | [],vs,_,h=>by erw[Iss]at h ⊢;exact h
 | d::l,vs,f,h=>by
  erw[Iss]at h ⊢
  erw[zV]at f
  obtain⟨v,r,e1,e2,e3⟩:=h;exact#[v,r,e1,Is.updL hp d v f.1 e2,Iss.updL hp l r f.2 e3]
end
theorem ww:∀{l:List D},(∀d ∈ l,xh d)->zV l
 | [],_=>by erw[zV]
 | d::l,h=>by erw[zV];exact#[h d (by simp),ww λe he=>h e (by simp [he])]
theorem W5{n:Nat}:∀{l:List D},(∀d ∈ l,dpD d<=n)->wW l<=n
 | [],_=>by erw[wW];lia
 | d::l,h=>by
  have h1:=h d (by simp);have h2:=W5 (n:=n) (l:=l) λe he=>h e (by simp [he])
  erw[wW]
  lia
def LsA(K:nO)(H:Hp)(a:nP)(ds:List D):Prop:=∃xs,H a=rp (.lst xs)/\Iss K H ds xs
theorem LsA.same{K:nO}{H H':Hp}{a:nP}{ds:List D}(h:LsA K H a ds)(e:Same H H'):LsA K H' a ds:=let #[xs,h1,h2]:=h; #[xs,e _ _ h1,Iss.same e _ _ h2]
theorem LsA.is{K:nO}{H:Hp}{a:nP}{ds:List D}(h:LsA K H a ds):Is K H (.lst ds) (.ref a):=by
 obtain⟨xs,h1,h2⟩:=h
 erw[Is]
 exact#[a,xs,rfl,SqL.of h1,h2]
theorem LsA.nil{K:nO}{H:Hp}{a:nP}:LsA K (upd H a (.lst [])) a []:=#[[],zc,by erw[Iss]]
theorem LsA.snoc{K:nO}{H:Hp}{a:nP}{ds:List D}{d:D}{xs:List V}{v:V}(h1:H a=rp (.lst xs))(h2:Iss K H ds xs)(f:zV ds)(fd:xh d)(hv:Is K H d v):LsA K (upd H a (.lst (xs ++ [v]))) a (ds ++ [d]) :=
 #[_,zc,Iss.append (Iss.updL h1 _ _ f h2) (by erw[Iss];exact#[v,[],rfl,Is.updL h1 _ _ fd hv,rfl])]
theorem Is.tup{K:nO}{H:Hp}{p:nP}{vs:List V}{ds:List D}(hp:H p=rq)(h:Iss K H ds vs):Is K (upd H p (.tup vs)) (.tup ds) (.ref p):=by
 erw[Is]
 exact#[p,vs,rfl,SqT.of zc,Iss.same (zd hp) _ _ h]
noncomputable abbrev dS(l:()):D:=.str (tx l)
noncomputable abbrev zk:=() × ()
noncomputable def dR(r:zk):D:=.tup [dS r.1,dS r.2]
theorem za9{K:nO}{H:Hp}{r:zk}{v:V}(h:Is K H (dR r) v):∃p,v=.ref p/\SqT K H p [.str (tx r.1),.str (tx r.2)]:=by
 erw[dR,Is,Iss]at h
 obtain⟨a,xs,e,hs,v1,r1,rfl,rfl,v2,r2,rfl,rfl,rfl⟩:=h;exact#[a,e,hs]
theorem wI{K:nO}{H:Hp}{p:nP}{l m:()}(h:SqT K H p [.str (tx l),.str (tx m)]):Is K H (dR (l,m)) (.ref p):=by
 erw[dR,Is,Iss]
 exact#[p,_,rfl,h,_,_,rfl,rfl,_,_,rfl,rfl,rfl]
theorem wN(r:zk):xh (dR r):=by erw[dR,xh,zV,and_self]
theorem zcL(r:zk):dpD (dR r)<=1:=by erw[dR,dpD,wW];lia
theorem xH(rs:List zk):zV (rs.map dR):=ww λd h=>by obtain⟨r,_,rfl⟩:=rF.mp h;exact wN r
theorem QG(rs:List zk):wW (rs.map dR)<=1:=W5 λd h=>by obtain⟨r,_,rfl⟩:=rF.mp h;exact zcL r
noncomputable abbrev N3:=Nat × Nat × Nat
noncomputable def d3(t:N3):D:=.tup [.int (t.1:Nat),.int (t.2.1:Nat),.int (t.2.2:Nat)]
theorem zcE{K:nO}{H:Hp}{t:N3}{v:V}(h:Is K H (d3 t) v):∃p,v=.ref p/\SqT K H p [.int (t.1:Nat),.int (t.2.1:Nat),.int (t.2.2:Nat)]:=by
 erw[d3,Is,Iss]at h
 obtain⟨a,xs,e,hs,v1,r1,rfl,rfl,v2,r2,rfl,rfl,v3,r3,rfl,rfl,rfl⟩:=h;exact#[a,e,hs]
theorem zbP{K:nO}{H:Hp}{i j k:Nat}:Iss K H [.int (i:Nat),.int (j:Nat),.int (k:Nat)] [.int (i:Nat),.int (j:Nat),.int (k:Nat)]:=by
 erw[Iss,Is]
 exact#[_,_,rfl,rfl,_,_,rfl,rfl,_,_,rfl,rfl,rfl]
theorem zai(t:N3):xh (d3 t):=by erw[d3,xh,zV,and_self]
theorem Y3(rs:List N3):zV (rs.map d3):=ww λd h=>by obtain⟨r,_,rfl⟩:=rF.mp h;exact zai r
theorem Iss.get{K:nO}{H:Hp}{l:List D}{vs:List V}{j:Nat}{v:V}(h:Iss K H l vs)(q:vs[j]? = rp v):∃d,l[j]? = rp d/\Is K H d v:=by
 have hj:=(rG.mp q).1;have hl:=h.len;have g1:l[j]? = rp l[j]:=ae ⋯;obtain⟨x,hx,ix⟩:=h.at g1;rw[q]at hx;cases hx;exact#[_,g1,ix]
theorem Iss.getR{K:nO}{H:Hp}{rs:List zk}{vs:List V}{j:Nat}{v:V}(h:Iss K H (rs.map dR) vs)(q:vs[j]? = rp v):∃r p,rs[j]? = rp r/\v=.ref p/\SqT K H p [.str (tx r.1),.str (tx r.2)]:=by
 obtain⟨d,e,i⟩:=h.get q;rw[ay]at e;obtain⟨r,hr,rfl⟩:=rO.mp e;obtain⟨p,e1,e2⟩:=za9 i;exact#[r,p,hr,e1,e2]
theorem Iss.get3{K:nO}{H:Hp}{rs:List N3}{vs:List V}{j:Nat}{v:V}(h:Iss K H (rs.map d3) vs)(q:vs[j]? = rp v):∃r p,rs[j]? = rp r/\v=.ref p/\SqT K H p [.int (r.1:Nat),.int (r.2.1:Nat),.int (r.2.2:Nat)]:=by
 obtain⟨d,e,i⟩:=h.get q;rw[ay]at e;obtain⟨r,hr,rfl⟩:=rO.mp e;obtain⟨p,e1,e2⟩:=zcE i;exact#[r,p,hr,e1,e2]
theorem zbC{α:Type}(l:List α){a b:Int}(h0:0<=a)(h1:a<=b):cut l (rp a) (rp b)=(l.drop a.toNat).take (b - a).toNat:=by
 by_cases h2:b<=l.length
 ·exact ZF l h0 h1 h2
 ·obtain⟨m,rfl⟩:=bw h0;obtain⟨n,rfl⟩:=bw (by lia:0<=b);unfold cut;rw[HT.sIx_nat,HT.sIx_nat,dw (by lia:l.length<=n)];have e:(((n:Nat):Int) - ((m:Nat):Int)).toNat=n - m:=⋯;have e2:((m:Nat):Int).toNat=m:=rfl;rw[e,e2,bv (l:=l.drop m) (by rw[aZ];lia)];by_cases hm:m<=l.length
  ·rw[cU hm,bv (by rw[aZ];lia)]
  ·rw[dw ⋯,bc (ao _),bc ⋯,List.take_nil]
open Classical in
section
variable{X:Cx}{rB:List (nP × ou)}{σ:L2.St}{H:Hp}{s:nR}
open Classical in
end
structure DM(P:nU)(w:nY)(K:nO)(mg:nW->Option nQ)(base:oa)(CX:CXT)(k:Nat)(C:nP)(m:nW)(ps:List nW)(sp:Sp):Prop where
 ex:∃f fd,zbm K C m f/\FnOk P w K mg base CX k f fd ps sp/\Binds K fd ps []
structure DMk(P:nU)(w:nY)(K:nO)(mg:nW->Option nQ)(base:oa)(CX:CXT)(k:Nat)(C:nP)(ps:List nW)(sp:Sp):Prop where
 ex:∃f fd,Mk K C f/\FnOk P w K mg base CX k f fd ps sp/\Binds K fd ps []
section
variable{X:Cx}{k j:Nat}{C:nP}{m:nW}{ps:List nW}{sp:Sp}{o e:nZ}{es:List nZ}{ta:TE}{t:TA}{apos pos p:oJ}{x:nW}{E:XK}
theorem me0(D:DM X.prog X.w X.K X.mg X.base CX0 k C m ps sp)(c:Cls X.K C)(hr:Room j X.A)(he:PE X o ta){pl:rb Bool}(ht:eval (.Call (.Attribute o m apos) [] [] pos) X.env=(do
      let ov <- eval o X.env
      standAt apos.atName
      let (f,first) <- holding [ov] (getMethod ov m pl)
      callWith pos f first (om pos (nM [] X.env)) (oy pos (ol [] X.env))):=by rfl) (hj:k<=j:=by decide):PE X (.Call (.Attribute o m apos) [] [] pos) (jl C m sp [] E0 ta xI):=by
  obtain⟨f,fd,hm,F,hb⟩:=D.ex;exact Uo he c hm F (hr.mono hj) hb .nil XD ht
theorem me1(D:DM X.prog X.w X.K X.mg X.base CX0 k C m ps sp)(c:Cls X.K C)(hr:Room j X.A)(he:PE X o ta)(ha:PA X (e::es) t){pl:rb Bool}
    (hst:nM (e::es) X.env=(rA,eval e X.env)::nM es X.env:=by rfl) (hpl:(om pos (nM es X.env)).any (·.1)=rA:=by rfl)
    (ht:eval (.Call (.Attribute o m apos) (e::es) [] pos) X.env=(do
      let ov <- eval o X.env
      standAt apos.atName
      let (f,first) <- holding [ov] (getMethod ov m pl)
      callWith pos f first (om pos (nM (e::es) X.env)) (oy pos (ol [] X.env))):=by rfl) (hj:k<=j:=by decide):PE X (.Call (.Attribute o m apos) (e::es) [] pos) (jl C m sp [] E0 ta t):=by
  obtain⟨f,fd,hm,F,hb⟩:=D.ex;exact Ki he c hm F (hr.mono hj) hb .nil XD ha hst hpl ht
theorem mkC(D:DMk X.prog X.w X.K X.mg X.base CX0 k C ps sp)(hr:Room j X.A)(hg:Gl X x)(hm:X.mg x=rp (.ref C))(ha:PA X (e::es) t)(hdb:(x ==("__debug__" : nW))=rA:=by decide)(he:nM (e::es) X.env=(rA,eval e X.env)::nM es X.env:=by rfl)
  (hpl:(om pos (nM es X.env)).any (·.1)=rA:=by rfl) (hj:k+1<=j:=by decide):PE X (.Call (.Name x p) (e::es) [] pos) (W9 C sp [] E0 t):=by
 obtain⟨f,fd,M,F,hb⟩:=D.ex;exact Vl M F (hr.mono hj) hg hm hb .nil XD ha hdb he hpl
end
section
variable{X:Cx}
end
section
variable{X:Cx}{k j:Nat}{C:nP}{m:nW}{ps:List nW}{sp:Sp}{o e:nZ}{es:List nZ}{ta:TE}{t:TA}{apos pos p:oJ}
end
def zv(Fam:nP->Prop)(m:nW)(sp:nP->Sp)(dvs:List V)(E:XK)(ta:TE)(t:TA):TE:=λσ H Q=>ta σ H λx H1=>∃C a dx fs,Fam C/\x=.ref a/\H1 a=rp (.ins C dx fs)/\fs.lookup m=rq /\
 t σ H1 λvs H2=>sp C (x::(vs ++ dvs)) H2 Q E
structure DMF(P:nU)(w:nY)(K:nO)(mg:nW->Option nQ)(base:oa)(CX:CXT)(k:Nat)(Fam:nP->Prop)(m:nW)(ps:List nW)(sp:nP->Sp):Prop where
 ex:∀C,Fam C->Cls K C/\DM P w K mg base CX k C m ps (sp C)
section
variable{X:Cx}{k j:Nat}{Fam:nP->Prop}{m:nW}{ps:List nW}{sp:nP->Sp}{o e:nZ}{es:List nZ}{ta:TE}{t:TA}{apos pos p:oJ}{x:nW}{E:XK}
theorem zea(D:DMF X.prog X.w X.K X.mg X.base CX0 k Fam m ps sp)(hr:Room j X.A)(he:PE X o ta){pl:rb Bool}(ht:eval (.Call (.Attribute o m apos) [] [] pos) X.env=(do
      let ov <- eval o X.env
      standAt apos.atName
      let (f,first) <- holding [ov] (getMethod ov m pl)
      callWith pos f first (om pos (nM [] X.env)) (oy pos (ol [] X.env))):=by rfl) (hj:k<=j:=by decide):PE X (.Call (.Attribute o m apos) [] [] pos) (zv Fam m sp [] E0 ta xI):=by
  intro rB s σ H Q I h;refine cb (pl:=pl) (thn (he rB s σ H _ I h) λu s1 ⟨x,H1,I1,rx,C,a,dx,fs,fam,ex,ea,l,q⟩=>?_) ht;subst ex;obtain rfl:u=Value.ref a:=rx;obtain⟨c,⟨f,fd,hm,F,hb⟩⟩:=D.ex C fam;refine xD I1 ea c hm l ?_;exact fq (first:=[.ref a]) I1.kIn hm.kp (kD (us:=[.ref a]) (vs:=[.ref a]) F (hr.mono hj) hb .nil XD I1 (.cons rfl .nil) q)
theorem zas(D:DMF X.prog X.w X.K X.mg X.base CX0 k Fam m ps sp)(hr:Room j X.A)(he:PE X o ta)(ha:PA X (e::es) t){pl:rb Bool}
    (hst:nM (e::es) X.env=(rA,eval e X.env)::nM es X.env:=by rfl) (hpl:(om pos (nM es X.env)).any (·.1)=rA:=by rfl)
    (ht:eval (.Call (.Attribute o m apos) (e::es) [] pos) X.env=(do
      let ov <- eval o X.env
      standAt apos.atName
      let (f,first) <- holding [ov] (getMethod ov m pl)
      callWith pos f first (om pos (nM (e::es) X.env)) (oy pos (ol [] X.env))):=by rfl) (hj:k<=j:=by decide):PE X (.Call (.Attribute o m apos) (e::es) [] pos) (zv Fam m sp [] E0 ta t):=by
  intro rB s σ H Q I h;refine cb (pl:=pl) (thn (he rB s σ H _ I h) λu s1 ⟨x,H1,I1,rx,C,a,dx,fs,fam,ex,ea,l,q⟩=>?_) ht;subst ex;obtain rfl:u=Value.ref a:=rx;obtain⟨c,⟨f,fd,hm,F,hb⟩⟩:=D.ex C fam;refine xD I1 ea c hm l ?_;refine bN (first:=[.ref a]) (h₀:=X.base) I.ok.mod.kin hm.kp (thn (ha pos rB s1 σ H1 _ I1 q) λus s2 ⟨vs,H2,I2,r,q2⟩=>#[I2.kIn,?_]) hst hpl;exact kD (us:=.ref a::us) (vs:=.ref a::vs) F (hr.mono hj) hb .nil XD I2 (.cons rfl r) q2
end
section
variable{X:Cx}
def yw(K:nO):List V->Hp->VK->Prop:=λxs H Q=>∃(p:nP) (ns:List Int),xs=[.ref p]/\SqL K H p (ns.map V.int)/\Q (.int ns.sum) H
end
theorem Xt(l:()):((Builtin.Str.strSliceIndices rq rq (-1) (tx l).length).filterMap ((tx l).cps[·]?))=l.reverse:=by
 rw[zS,picked_rev];have e:(tx l).cps=l.toArray:=rfl;rw[e];apply List.ext_getElem?;intro i
 have h:((aQ l.length).map λk=>l.length - 1 - k).filterMap (l.toArray[·]?)=(aQ l.length).map λk=>l.getD (l.length - 1 - k) 0:=by
  rw[filterMap_get,aV]
  ·refine aU λk _=>?_;show l.toArray.getD (l.length - 1 - k) 0=_;simp [fg,List.getD];split <;> simp_all
  ·intro i hi;obtain⟨k,hk,rfl⟩:=rF.mp hi;have:=rM.mp hk;show _<l.toArray.size;rw[ah];lia
 rw[h];by_cases hi:i<l.length
 ·rw[bt hi,ay,List.getElem?_range hi];show rp (l.getD (l.length - 1 - i) 0)=_;rw[aa,ae ⋯];rfl
 ·rw[bP (by simp;lia),bP (by simp;lia)]
def yt(te ts:TE):TE:=λσ H Q=>te σ H λx H1=>ts σ H1 λy H2=>y=.int (-1)/\∃l:(),x=.str (tx l)/\l.length<=nN/\Q (.str (tx l.reverse)) H2
section
variable{X:Cx}{e st:nZ}{te ts:TE}{pos p2:oJ}
theorem J8(he:PE X e te)(hs:PE X st ts):PE X (.Subscript e (.Slice rq rq (rp st) p2) pos) (yt te ts):=by
 intro rB s σ H Q I h;refine rg (thn (he rB s σ H _ I h) λv s1 ⟨x,H1,I1,r1,q1⟩=>?_);refine wpAny_Slice ?_;rw[evalPart_none];refine nJ (nJ ?_);rw[evalPart_some];refine thn (hs rB s1 σ H1 _ I1 q1) λu s2 ⟨y,H2,I2,r2,ey,l,ex,hl,q2⟩=>?_;subst ey ex;obtain⟨t,rfl⟩:=r1;obtain⟨tk,rfl⟩:=r2;have I4:Inv X rB σ H2 { s2 with heap:=s2.heap.push { cls:=.type "slice",data:=.fields (List.toArray [.none,.none,.int (-1) tk]) } }:=I2.kept (t':=s2.toks) λb ob q=>af _ q;show nV (model X.prog X.w) X.A (pM e (.Slice rq rq (rp st) p2) (.str (tx l) t) (.ref s2⁻¹)) (EP X rB σ Q) X.xe { s2 with heap:=s2.heap.push { cls:=.type "slice",data:=.fields (List.toArray [.none,.none,.int (-1) tk]) } };refine tail_any (ops:=[.ref s2⁻¹,.str (tx l) t]) (typeIs_str _ (tx l) t) slot_str_getitem.lookup ?_ (by with_unfolding_all rfl);refine pw (l:=rq) (u:=rq) (st:=rp (-1,tk)) (Heap.IsSliceOf.new ..) rfl ?_;unfold sliceMade slicePicked
 have hc':¬ (((rp ((-1:Int),tk)).map (·.1)).getD 1 == 1 && (Builtin.Str.strSliceIndices ((rq:Option (Int × pX)).map (·.1)) ((rq:Option (Int × pX)).map (·.1)) (((rp ((-1:Int),tk)).map (·.1)).getD 1) (tx l).length).length ==(tx l).length)=rz:=by
  have:(((rp ((-1:Int),tk)).map (·.1)).getD 1 == 1)=rA:=rfl;rw[this];simp
 rw[if_neg hc']
 have e:Str.mk ((Builtin.Str.strSliceIndices rq rq (-1) (tx l).length).filterMap ((tx l).cps[·]?)).toArray=tx l.reverse:=by
  rw[Xt]
 show (Str.mk ((Builtin.Str.strSliceIndices rq rq (-1) (tx l).length).filterMap ((tx l).cps[·]?)).toArray).length<=nN/\_;rw[e];refine#[by rw[zS,bB];exact hl,?_]
 exact#[.str (tx l.reverse),H2,I4.tok _,#[_,by
  show Value.str (Str.mk ((Builtin.Str.strSliceIndices rq rq (-1) (tx l).length).filterMap ((tx l).cps[·]?)).toArray) _=_
  rw[e]],q2]
end
section
variable{X:Cx}{k j:Nat}{C:nP}{m x:nW}{ps:List nW}{sp:Sp}{e:nZ}{es:List nZ}{t:TA}{apos pos p:oJ}
def zu:V->List V->Hp->VK->Prop:=λx xs H Q=>∃(z y:nW) (i:Nat),x=.str z/\xs=[.str y]/\PySem.Txt.find z y=(i:Int)/\Q (.int (i:Nat)) H
theorem Kj:MtR X "str.index" zu:=by
 intro rB s σ H x xs v us Q I rx rv h;obtain⟨z,y,i,rfl,rfl,hf,q⟩:=h;obtain⟨t,rfl⟩:=rx;obtain⟨u,rfl,t',rfl⟩:=xP rv;unfold PySem.Txt.find at hf
 cases ho:Builtin.Str.occurrences z y 0 z.length 1 with
 | nil=>rw[ho]at hf;dsimp only at hf;lia
 | cons a r =>
  rw[ho]at hf;have:a=i:=by dsimp only at hf;lia
  subst this;exact PySem.SC.index ho #[.int _,H,I.tok _,#[_,rfl],q]
end
section
variable{prog:nU}{w:nY}{A:nX}{E:nQ->nR->Prop}{s:nR}
end
noncomputable def Izs(K:nO)(l:())(b:nP):It:=#[λi H=>∃ys y,SqT K H b ys/\i<l.length/\ys[i]? = rp y,λi H v H'=>∃p c y,H p=rq/\l[i]? = rp c/\(∀ys,SqT K H b ys->ys[i]? = rp y)/\v=.ref p/\H'=upd H p (.tup [.str (tx [c]),y]),λi H=>i=l.length]
section
variable{X:Cx}
def iZs(K:nO)(ta:TA):TI:=λσ H R=>ta σ H λvs H1=>∃l b,vs=[.str (tx l),.ref b]/\(∃ys,SqT K H1 b ys)/\R (Izs K l b) H1
end
def zch(K:nO)(l:())(b:nP)(g:TG)(tt:TT)(te:TE)(own:Nat)(ix:())(σ:L2.St)(H1:Hp)(Q:VK)(D:nP):Prop:=Xn (Izs K l b) g tt te own ix σ H1 Q D
theorem zI{K:nO}{ta:TA}{g:TG}{tt:TT}{te:TE}{own:Nat}{ix:()}{σ:L2.St}{H:Hp}{Q:VK}:j7 (iZs K ta) g tt te own ix σ H Q=ta σ H λvs H1=>∃l b,vs=[.str (tx l),.ref b]/\(∃ys,SqT K H1 b ys)/\∀D,H1 D=rq->zch K l b g tt te own ix σ H1 Q D:=rfl
section
variable{g:TG}{tt:TT}{te:TE}{own:Nat}{ix:()}{σ:L2.St}{H1:Hp}{Q:VK}{D:nP}
end
section
variable{X:Cx}{k1 k2 k3 j:Nat}{C1 C2 C3:nP}{m:nW}{ps:List nW}{s1 s2 s3:Sp}{o e:nZ}{es:List nZ}{ta:TE}{t:TA}{apos pos p:oJ}{E:XK}
def yl(t1 t2:TE):TE:=λσ H Q=>t1 σ H Q\/t2 σ H Q
theorem QE{t1 t2:TE}(h1:PE X e t1)(h2:PE X e t2):PE X e (yl t1 t2):=by
 intro rB s σ H Q I h;rcases h with h | h
 ·exact h1 rB s σ H Q I h
 ·exact h2 rB s σ H Q I h
theorem zaW(D1:DM X.prog X.w X.K X.mg X.base CX0 k1 C1 m ps s1)(D2:DM X.prog X.w X.K X.mg X.base CX0 k2 C2 m ps s2)(D3:DM X.prog X.w X.K X.mg X.base CX0 k3 C3 m ps s3)(c1:Cls X.K C1)(c2:Cls X.K C2)(c3:Cls X.K C3)(hr:Room j X.A)(he:PE X o ta)(ha:PA X (e::es) t){pl:rb Bool}
    (hst:nM (e::es) X.env=(rA,eval e X.env)::nM es X.env:=by rfl) (hpl:(om pos (nM es X.env)).any (·.1)=rA:=by rfl)
    (ht:eval (.Call (.Attribute o m apos) (e::es) [] pos) X.env=(do
      let ov <- eval o X.env
      standAt apos.atName
      let (f,first) <- holding [ov] (getMethod ov m pl)
      callWith pos f first (om pos (nM (e::es) X.env)) (oy pos (ol [] X.env))):=by rfl) (h1:k1<=j:=by decide) (h2:k2<=j:=by decide) (h3:k3<=j:=by decide) :
    PE X (.Call (.Attribute o m apos) (e::es) [] pos) (yl (jl C1 m s1 [] E0 ta t) (yl (jl C2 m s2 [] E0 ta t) (jl C3 m s3 [] E0 ta t))) :=
  QE (me1 (pl:=pl) D1 c1 hr he ha hst hpl ht h1) (QE (me1 (pl:=pl) D2 c2 hr he ha hst hpl ht h2) (me1 (pl:=pl) D3 c3 hr he ha hst hpl ht h3))
end
section
variable{X:Cx}
end
open PySem PySem.Spec PyProof.Rows L2 PySem.W PySem.Calls
def qE(n:Int):Prop:=Builtin.Int.intBits n<=1048576
theorem QJ:∀(ns:List Int),WData.weightAll (ns.map WData.int)<=1048576->∀n ∈ ns,qE n
 | [],_,n,h=>nomatch h
 | m::ns,hw,n,h=>by
  rw[aj,WData.weightAll]at hw;rcases rH.mp h with rfl | h
  ·have e:WData.weight (.int n)=Builtin.Int.intBits n:=by
    rw[WData.weight];rfl
   unfold qE;lia
  ·exact QJ ns ⋯ n h
section
variable{X:Cx}
theorem Us{i j:Int}(hi:qE i)(hj:qE j):IntMulOk i j:=by
 unfold IntMulOk Builtin.Int.intTooBig;unfold qE at hi hj;have:(bitsLine:Nat)=134217728:=rfl;simp;intro _ _;lia
theorem U2:OpR X (binaryOp .Mult) (rI (λi j=>qE i/\qE j) λi j=>.int (i * j)):=opI λ_ _ _ _ _ _ _ hc q=>mul_int q (Us hc.1 hc.2)
end
theorem kT{l:rm}{n:Nat}{q:nU}{loose:List nW}{XP:(nW->Option nQ)->oa->Prop}{YP:nY->oa->Prop}{d:DefRec}
  (hn:l.most=rp n) (hdf:d.params.defaults=[])
  (call:∀(w:nY) (s₀ s₁:nR) (mg mb:nW->Option nQ) (fa:nP) (o:ou) (pm cd doc:nQ) (a:nP) (vs:List nQ) (ns:List Int),
   Ground q loose [] XP w s₀ mg mb s₁.heap->YP w s₁.heap ->
   s₁.heap.get? fa=rp o->o.data=.func (docDef d.name d.params d.body d.scope pm cd doc)->s₁.heap.CodeRec cd d.name->mg d.name=rp (.ref fa) ->
   s₁.heap.get? a=rp { cls:=.type "list",data:=.seq vs.toArray }->pV vs ns->ns.length<=n->(∀z ∈ ns,qE z)->s₁.gens=#[] ->
   oR (model l.prog w) callerA (.call (.ref fa) #[[.ref a],[]]) (λr s'=>r=.ok (.ret (.bool rz))/\OldK s₁.heap s'.heap/\s'.os=s₁.os/\pf s'.gens) s₁) :
  WalkO q loose XP YP l.row.toRowW d [] (λf vs=>e9 f vs):=by
 intro w s₀ s₁ mg mb G Y fa o pm cd doc dV kV ho hd hcd hD hmg hg args vals as hpre hlay hrd hwl hlo;obtain rfl:dV=.none:=Dflts.none hD hdf;obtain rfl:kV=.none:=Dflts.noKw hD;obtain⟨a,vs,ns,rfl,rfl,hobj,hints,hlen⟩:=Att.script_of hn hpre hwl
 have hb:∀z ∈ ns,qE z:=by
  refine QJ ns ?_
  have h1:WData.layable (WData.list (ns.map WData.int))=rz:=by
   have:=hlay;unfold WData.layableAll at this;simpa using this
  unfold WData.layable at h1
  erw[ba,decide_eq_true_eq]at h1
  have h2:=h1.2;rw[WData.weight]at h2;exact h2
 refine enter_call (oQ (call w s₀ s₁ mg mb fa o pm cd doc a vs ns G Y ho (fd_plain hd) hcd hmg hobj hints hlen hb hg) λr s' hq=>?_);obtain⟨rfl,h2,h3,h4⟩:=hq;exact#[.inl #[.bool rz,.bool rz,[],rfl,λ_=>rfl,.bool rz,Att.post_true l _,λ_=>#[List.Pairwise.nil,λ_ hm=>(nomatch hm)]],h2,h3,h4]
section
variable{X:Cx}{k j:Nat}{C:nP}{x f':nW}{ps:List nW}{sp:Sp}{e:nZ}{es:List nZ}{t:TA}{te:TX}{pos p:oJ}
end
section
variable{X:Cx}{k j:Nat}{C:nP}{m x:nW}{ps:List nW}{sp:Sp}{e:nZ}{es:List nZ}{t:TA}{apos pos p:oJ}{E:XK}
end
section
variable{prog:nU}{w:nY}{A:nX}{E:nQ->nR->Prop}{s:nR}{env:pB}
end
theorem XEg.xe{X:Cx}{E:XK}(h:XEg X E):XE X E:=λe s ⟨rB,σ,H,x,C,t,dx,tb,q⟩=>h e s #[.none,rA,rB,σ,H,x,C,t,dx,tb,q]
section
variable{X:Cx}{k:Nat}{ps:List nW}{sp:Sp}{ds:List nQ}{dvs:List V}{E:XK}{x:nW}{p pos:oJ}{e:nZ}{es:List nZ}{t:TA}
end
section
variable{X:Cx}{o e:nZ}{to:TE}{te:TX}{name:nW}{apos cpos:oJ}{T id:String}{r:V->List V->Hp->VK->Prop}
end
section
variable{X:Cx}
end
section
variable{X:Cx}{k j:Nat}{C:nP}{ps:List nW}{sp:Sp}{e:nZ}{es:List nZ}{t:TA}{pos p:oJ}{x:nW}
end
theorem Z5(x y:nW)(i j:Int)(t u v v':pX):Gives (Builtin.«str.find» #[[.str x t,.str y u,.int i v,.int j v'],[]]) (.int (match Builtin.Str.occurrences x y (fromIndex x.length i) (min (fromIndex x.length j) x.length) 1 with | k::_=>(k:Int) | []=>-1)):=by
 show Gives (match Builtin.Str.occurrences x y (fromIndex x.length i) (min (fromIndex x.length j) x.length) 1 with | k::_=>retInt k | []=>(do rule "str.find.not-found";retInt (-1))) _
 cases Builtin.Str.occurrences x y (fromIndex x.length i) (min (fromIndex x.length j) x.length) 1 with
 | nil=>exact .rule (.of_eq rfl)
 | cons k _=>exact .of_eq rfl
theorem ZK(x y:nW)(lo hi:Nat) :
  (Builtin.Str.occurrences x y lo hi 1=[]/\∀i,lo<=i->¬ StrLaws.At x y hi i) \/
  ∃i r,Builtin.Str.occurrences x y lo hi 1=i::r/\lo<=i/\StrLaws.At x y hi i/\∀k,lo<=k->k<i->¬ StrLaws.At x y hi k:=by
 rw[StrLaws.occ_eq];rcases StrLaws.occ_first x y hi 1 (ao 1) (List.range' lo (hi+1 - lo)) lo (λi hm=>(List.mem_range'_1.mp hm).1)with ⟨e,no⟩ | ⟨pre,a,post,e,e0,at_a,no⟩
 ·exact .inl #[by rw[e],λi h1 h2=>no i (by have:=h2.1;rw[List.mem_range'_1];lia) h2]
 ·have sp:=StrLaws.range'_split_from e;generalize (forIn (List.range' lo (hi+1 - lo)) ((#[]:Array Nat),lo) (StrLaws.occBody x y hi 1)).run.fst=z at e0 ⊢;obtain⟨zs⟩:=z
  cases zs with
  | nil=>simp at e0
  | cons b r =>
   have:b=a:=by simpa using e0
   subst this;exact .inr #[b,r,rfl,sp.1,at_a,λk h1 h2=>no k (sp.2 k h1 h2)]
theorem zcH(l p:())(hi i:Nat):StrLaws.At (tx l) (tx p) hi i ↔ i+p.length<=hi/\(l.drop i).take p.length=p:=by
 unfold StrLaws.At Builtin.Str.subAt;rw[zS,beq_iff_eq]
 have e1:((tx l).cps.extract i (i+p.length)).toList=(l.drop i).take p.length:=by
  show (l.toArray.extract i (i+p.length)).toList=_;simp [d8]
 have e2:((tx l).cps.extract i (i+p.length)=(tx p).cps) ↔ (l.drop i).take p.length=p:=by
  constructor
  ·intro h;rw[<- e1,h]
  ·intro h;apply Array.toList_inj.mp;rw[e1,h]
 rw[e2]
def QL:V->List V->Hp->VK->Prop:=λx xs H Q=>∃(l p:()) (lo hi:Int),x=.str (tx l)/\xs=[.str (tx p),.int lo,.int hi]/\0<=lo/\0<=hi/\∀r:Int,((r=-1/\∀q:Nat,lo<=q->(q:Int)+p.length<=hi->q+p.length<=l.length->(l.drop q).take p.length≠p)\/∃k:Nat,r=k/\lo<=k/\(k:Int)+p.length<=hi/\k+p.length<=l.length/\(l.drop k).take p.length=p/\∀q:Nat,lo<=q->q<k->(l.drop q).take p.length≠p)->Q (.int r) H
theorem JO{X:Cx}:MtR X "str.find" QL:=by
 intro rB s σ H x xs v us Q I rx rv h;obtain⟨l,p,lo,hi,rfl,rfl,h0,h1,q⟩:=h;obtain⟨t,rfl⟩:=rx
 cases rv with
 | cons r1 r2 =>
  cases r2 with
  | cons r2 r3 =>
   obtain⟨w3,rfl,t3,rfl⟩:=xP r3;obtain⟨t1,rfl⟩:=r1;obtain⟨t2,rfl⟩:=r2;have f0:fromIndex (tx l).length lo=lo.toNat:=by unfold fromIndex;rw[if_neg ⋯];lia
   have f1:fromIndex (tx l).length hi=hi.toNat:=by unfold fromIndex;rw[if_neg ⋯];lia
   refine call_gives F.slot_str_find (typeIs_str _ _ _) F.entry_str_find (F.args_str_find_4 _ _ _ _) (Z5 _ _ lo hi t t1 t2 t3) ?_;refine#[.int _,H,I.tok _,#[_,rfl],q _ ?_];rw[f0,f1];have hm:∀k:Nat,k+p.length<=min hi.toNat (tx l).length ↔ (k:Int)+p.length<=hi/\k+p.length<=l.length:=λk=>by rw[zS];lia
   rcases ZK (tx l) (tx p) lo.toNat (min hi.toNat (tx l).length)with ⟨e,no⟩ | ⟨i,r,e,hl,ha,no⟩
   ·rw[e];exact .inl #[rfl,λk k1 k2 k3 k4=>no k ⋯ ((zcH l p _ k).mpr #[(hm k).mpr #[k2,k3],k4])]
   ·rw[e];obtain⟨a1,a2⟩:=(zcH l p _ i).mp ha;obtain⟨b1,b2⟩:=(hm i).mp a1;exact .inr #[i,rfl,⋯,b1,b2,a2,λk k1 k2 k4=>no k ⋯ k2 ((zcH l p _ k).mpr #[(hm k).mpr #[⋯,⋯],k4])]
end L3
set_option linter.unusedVariables false
namespace L3
section
variable{X:Cx}
end
section
variable{prog:nU}{w:nY}{A:nX}{R:pJ->nR->Prop}{I l S:nP}
theorem Vi(hh:A.handled=rq)(hlI:l≠I)(hSI:S≠I)(hSl:S≠l)(xs:Array nQ)(val:Nat->Int)(hv:∀i v,xs[i]? = rp v->∃t,v=Value.int (val i) t)(d:nQ) :
  ∀(k j:Nat) (z:Int) (t:pX) (s:nR) (c:Nat),xs.size - j=k->j<=xs.size->(∀i,i<j->val i<=z)->s.heap.IsListIter I l j->s.heap.IsList l xs->s.heap.get? S=rp (oe "list" (List.toArray [.int z t,.int z t]) c) ->
   (∀z' t' h' tk,(∀i,i<xs.size->val i<=z')->(∀b o,b≠I->b≠S->s.heap.get? b=rp o->h'.get? b=rp o)->R (.ok (.ret (.int z' t'))) { s with heap:=h',toks:=tk }) ->
   oR (model prog w) A (.builtin "max.loop" #[[.ref I,.none,.ref S],[(bS "default",d)]]) R s:=by
 have nm:(toString "max" ++ toString ".loop" : String)="max.loop":=∅;have W:=Walks.list (prog:=prog) (w:=w) (A:=A.in1) hh I l hlI xs;intro k
 induction k with
 | zero =>
  intro j z t s c hk hj hz hit hl hS hR;have e:j=xs.size:=⋯;refine oV (b:=Builtin.«max.loop») dm ?_;rw[Around.under_plainId (id:="max.loop") bz _];show nV _ A.in1 (seqItems? (Value.ref S) >>= _) _ _ s;refine nI (pC (items:=(List.toArray [.int z t,.int z t])) hS rfl ?_);show nV _ A.in1 (tryCatch (pyNext (Value.ref I)) _ >>= _) _ _ s;refine nI (oX (W.done s _ _ #[e ▸ hit,hl] λh' tk kp=>?_));have hS':=kp S _ (by simpa using hSI) hS;show nV _ A.in1 (updateSeq S (λ_=>(#[]:Array nQ)) >>= _) _ _ _;refine nI (pA hS' rfl (nI (pj (nJ ?_))));exact hR z t _ tk (λi hi=>hz i ⋯) λb o hb hb' q=>(aG _ _ (Ne.symm hb')).trans (kp b o (by simpa using hb) q)
 | succ k ih =>
  intro j z t s c hk hj hz hit hl hS hR;refine oV (b:=Builtin.«max.loop») dm ?_;rw[Around.under_plainId (id:="max.loop") bz _];show nV _ A.in1 (seqItems? (Value.ref S) >>= _) _ _ s;refine nI (pC (items:=(List.toArray [.int z t,.int z t])) hS rfl ?_);show nV _ A.in1 (tryCatch (pyNext (Value.ref I)) _ >>= _) _ _ s;refine nI (oX (W.item j s _ _ ⋯ #[hit,hl] λv h' tk hP st kp=>?_));obtain⟨t2,rfl⟩:=hv j v hP;have hS':=kp S _ (by simpa using hSI) hS;show nV _ A.in1 (tryCatch (holding [Value.int (val j) t2,Value.int (val j) t2] (richCompare .Gt (.int (val j) t2) (.int z t) >>= _)) _ >>= _) _ _ _;refine nI (oX (ot (nI (CmpOf.ints_gt (prog:=prog) (w:=w) (A:=A.in1) (P:=λi v=>∃t,v=Value.int (if i=0 then val j else z) t) (λi=>if i=0 then val j else z) (λi v h=>h) 0 1 _ _ _ _ _ #[t2,rfl] #[t,rfl] ?_))));refine nI (ot (oo (nI (pj (nJ ?_)))));by_cases g:val j > z
  ·erw[if_true,Nat.one_ne_zero,if_false,g,decide_true]
   refine nI (pA hS' rfl (nI (pj ?_)));rw[nm];refine nJ #[plainId_quiet bz _,ih (j+1) (val j) t2 _ _ ⋯ ⋯ (λi hi=>?_) (W.frame _ _ _ st λb hb o q=>?_).1 (W.frame _ _ _ st λb hb o q=>?_).2 (get?_update_seq hS' _) λz' t' h'' tk'' a1 a2=>hR z' t' h'' tk'' a1 λb o hb hb' q=>a2 b o hb hb' ((aG _ _ (Ne.symm hb')).trans (kp b o (by simpa using hb) q))]
   ·by_cases e:i=j
    ·rw[e];exact Int.le_refl _
    ·have:=hz i ⋯;lia
   all_goals
    refine (aG _ _ (λe:S=b=>?_)).trans q;subst e;rcases rH.mp hb with e | e
    ·exact hSI e
    ·exact hSl (rK.mp e)
  ·erw[if_true,Nat.one_ne_zero,if_false,g,decide_false,aY]
   refine nI (pj ?_);rw[nm];refine nJ #[plainId_quiet bz _,ih (j+1) z t _ _ ⋯ ⋯ (λi hi=>?_) st.1 st.2 hS' λz' t' h'' tk'' a1 a2=>hR z' t' h'' tk'' a1 λb o hb hb' q=>a2 b o hb hb' (kp b o (by simpa using hb) q)];by_cases e:i=j
   ·rw[e];lia
   ·exact hz i ⋯
theorem W3(a v:nQ):argsOk "max" #[[a],[(bS "default",v)]]:=by unfold argsOk;kernel_rfl
theorem W7{E:nQ->nR->Prop}{s:nR}{Q:nQ->nR->Prop}(hh:A.handled=rq)(xs:Array nQ)(val:Nat->Int)(hv:∀i v,xs[i]? = rp v->∃t,v=Value.int (val i) t)(hl:s.heap.IsList l xs)(d:nQ)
  (h:∀v h' tk,(xs.size=0->v=d)->(0<xs.size->∃z t,v=Value.int z t/\∀i,i<xs.size->val i<=z)->(∀b o,s.heap.get? b=rp o->h'.get? b=rp o)->Q v { s with heap:=h',toks:=tk }) :
  nV (model prog w) A (call (.builtin "max") [.ref l] [(bS "default",d)]) Q E s:=by
 have nm:(toString "max" ++ toString ".loop" : String)="max.loop":=∅;have hlt:l<s⁻¹:=by obtain⟨_,e,_⟩:=hl;exact au e
 refine kmb_tree PySem.F.kind_max PySem.F.plain_max PySem.F.entry_max (W3 _ _) ?_;show nV _ A.in1 (Builtin.Builtins.bindParams "max" ["key","default"] 0 #[[],[(bS "default",d)]] >>= _) _ _ s;refine nI (wpAny_of_eq (show Builtin.Builtins.bindParams "max" ["key","default"] 0 #[[],[(bS "default",d)]]=pure [rq,rp d]from rfl) (nI (nJ ?_)));refine nI (oY hl (nI (pc ?_ (aB _))));rw[nm];refine nJ #[plainId_quiet bz _,?_];have gI:(s.heap.push { cls:=.type "list_iterator",data:=.fields (List.toArray [.ref l,.int 0 0]) }).IsListIter s⁻¹ l 0:=#[_,aI _ rfl,rfl,rfl];have gl:=hl.push { cls:=.type "list_iterator",data:=.fields (List.toArray [.ref l,.int 0 0]) };have kp0:∀b o,s.heap.get? b=rp o->(s.heap.push { cls:=.type "list_iterator",data:=.fields (List.toArray [.ref l,.int 0 0]) }).get? b=rp o:=λb o q=>af _ q;have hsz:(s.heap.push { cls:=.type "list_iterator",data:=.fields (List.toArray [.ref l,.int 0 0]) }).objs.size=s⁻¹+1:=dP _ _;have hold:∀b o,s.heap.get? b=rp o->b<s⁻¹:=λb o q=>au q;have hlI:l≠s⁻¹:=ax hlt;generalize s.heap.push { cls:=.type "list_iterator",data:=.fields (List.toArray [.ref l,.int 0 0]) }=h1 at *;generalize hIe:s⁻¹=I at *;have W:=Walks.list (prog:=prog) (w:=w) (A:=A.in1) hh I l hlI xs;have gS:(h1.push { cls:=.type "list",data:=.seq ([]:List nQ).toArray }).get? h1.objs.size=rp (oe "list" #[] 0):=aI _ rfl;have st0:=W.frame 0 _ (h1.push { cls:=.type "list",data:=.seq ([]:List nQ).toArray }) #[gI,gl] λb _ o q=>af _ q;have kp1:∀b o,s.heap.get? b=rp o->(h1.push { cls:=.type "list",data:=.seq ([]:List nQ).toArray }).get? b=rp o:=λb o q=>af _ (kp0 b o q);have hSI:h1.objs.size≠I:=by rw[hsz];exact Nat.succ_ne_self I
 have hSl:h1.objs.size≠l:=by rw[hsz];exact cr (cC hlt)
 have hSb:∀b o,s.heap.get? b=rp o->b≠I/\b≠h1.objs.size:=λb o q=>#[ax (hold b o q),by rw[hsz];exact ax (cC (hold b o q))];generalize h1.push { cls:=.type "list",data:=.seq ([]:List nQ).toArray }=h2 at *;generalize h1.objs.size=S at *;refine oV (b:=Builtin.«max.loop») dm ?_;rw[Around.under_plainId (id:="max.loop") bz _];show nV _ A.in1 (seqItems? (Value.ref S) >>= _) _ _ _;refine nI (pC (items:=#[]) gS rfl ?_);show nV _ A.in1 (tryCatch (pyNext (Value.ref I)) _ >>= _) _ _ _;by_cases hz:xs.size=0
 ·refine nI (oX (W.done _ _ _ (by rw[hz];exact st0) λh' tk kp=>?_));show nV _ A.in1 (rule _ >>= λ_=>_) _ _ _;refine nI (re (nJ ?_));exact h d h' tk (λ_=>rfl) (λq=>absurd q ⋯) λb o q=>kp b o (by simpa using (hSb b o q).1) (kp1 b o q)
 ·refine nI (oX (W.item 0 _ _ _ ⋯ st0 λv h' tk hP st kp=>?_));obtain⟨t,rfl⟩:=hv 0 v hP;have hS':=kp S _ (by simpa using hSI) gS;show nV _ A.in1 (updateSeq S (λ_=>(List.toArray [Value.int (val 0) t,Value.int (val 0) t])) >>= _) _ _ _;refine nI (pA hS' rfl ?_);rw[nm]
  have st':=W.frame _ _ (h'.update S (Obj.mapSeq λ_=>(List.toArray [Value.int (val 0) t,Value.int (val 0) t]))) st λb hb o q=>by
   refine (aG _ _ (λe:S=b=>?_)).trans q;subst e;rcases rH.mp hb with e | e
   ·exact hSI e
   ·exact hSl (rK.mp e)
  refine nJ #[plainId_quiet bz _,Vi hh hlI hSI hSl xs val hv d _ 1 (val 0) t _ _ rfl ⋯ (λi hi=>?_) st'.1 st'.2 (get?_update_seq hS' _) λz' t' h'' tk'' a1 a2=>?_]
  ·have:i=0:=⋯;rw[this];exact Int.le_refl _
  ·exact h _ h'' tk'' (λq=>absurd q hz) (λ_=>#[z',t',rfl,a1]) λb o q=>a2 b o (hSb b o q).1 (hSb b o q).2 ((aG _ _ (Ne.symm (hSb b o q).2)).trans (kp b o (by simpa using (hSb b o q).1) (kp1 b o q)))
end
section
variable{X:Cx}{id:String}{x:nW}{e:nZ}{es:List nZ}{kws:List rd}{ks:List nW}{p pos:oJ}{t tk:TA}
def Q9(X:Cx)(id:String)(ks:List nW)(r:List V->List V->Hp->VK->Prop):Prop :=
 ∀(rB:List (nP × ou)) (s:nR) (σ:L2.St) (H:Hp) (vs zs:List V) (us ws:List nQ) (Q:VK),Inv X rB σ H s->Vals vs us->Vals zs ws->r vs zs H Q->nV (model X.prog X.w) X.A (call (.builtin id) us (ks.zip ws)) (EP X rB σ Q) X.xe s
def zdw(r:List V->List V->Hp->VK->Prop)(t tk:TA):TE:=λσ H Q=>t σ H λvs H1=>tk σ H1 λzs H2=>r vs zs H2 Q
theorem Wx{r:List V->List V->Hp->VK->Prop}(hc:Q9 X id ks r)(hg:Gl X x)(hm:X.mg x=rq)(hv:ow x=rp (.builtin id))(ha:PA X (e::es) t)(hk:PK X kws tk)(hks:(oy pos (ol kws X.env)).filterMap (·.1)=ks:=by rfl)(hn:x≠"__name__":=by decide)(hdb:(x ==("__debug__" : nW))=rA:=by decide)
  (he:om pos (nM (e::es) X.env)=(rA,eval e X.env)::om pos (nM es X.env):=by rfl) (hpl:(om pos (nM (e::es) X.env)).any (·.1)=rA:=by rfl)
  (hall:(oy pos (ol kws X.env)).all (·.1.isSome)=rz:=by rfl) (hkw:(oy pos (ol kws X.env)).any (·.1.isNone)=rA:=by rfl):PE X (.Call (.Name x p) (e::es) kws pos) (zdw r t tk):=by
 intro rB s σ H Q I h;refine oq (vx I hg hm hv ?_ hn hdb);refine callWith_kw (thn (ha pos rB s σ H _ I h) λus s1 ⟨vs,H1,I1,r1,q1⟩=>thn (hk pos rB s1 σ H1 _ I1 q1) λws s2 ⟨zs,H2,I2,r2,q2⟩=>?_) he hpl hall hkw;rw[hks];exact hc rB s2 σ H2 vs zs us ws Q I2 r1 r2 q2
def zdj(K:nO):List V->List V->Hp->VK->Prop:=λvs zs H Q=>∃(a:nP) (ns:List Int) (d:Int),vs=[.ref a]/\zs=[.int d]/\SqL K H a (ns.map V.int)/\∀z:Int,(ns=[]->z=d)->(∀n ∈ ns,n<=z)->Q (.int z) H
theorem zay(hc:X.calm=rz):Q9 X "max" [bS "default"] (zdj X.K):=by
 intro rB s σ H vs zs us ws Q I r1 r2 h;obtain⟨a,ns,d,rfl,rfl,hS,q⟩:=h;obtain⟨u,rfl,ru⟩:=xP r1;cases ru;obtain⟨w',rfl,td,rfl⟩:=xP r2;obtain⟨its,rv,pl,hz⟩:=I.list hS;have hlen:=rv.length;rw[ac]at hlen
 have hat:∀(i:Nat) (v:nQ),its.toArray[i]? = rp v->∃t,v=Value.int (ns.getD i 0) t:=λi v hi=>by
  have hi':its[i]? = rp v:=by simpa using hi
  have hil:=(rG.mp hi').1;obtain⟨u,hu,t,rfl⟩:=yx rv (j:=i) (x:=.int (ns.getD i 0)) (by rw[ay,aa,ae ⋯];rfl);rw[hi']at hu;cases hu;exact#[t,rfl]
 refine W7 (I.ok.hd hc) its.toArray (λi=>ns.getD i 0) hat pl.isList (.int d td) λv h' tk h0 h1 kp=>?_;by_cases hn:ns=[]
 ·have:=h0 (by rw[ah,<- hlen,hn];rfl);subst this;exact#[.int d,H,I.kept kp,#[_,rfl],q d (λ_=>rfl) (λn hm=>by rw[hn]at hm;cases hm)]
 ·obtain⟨z,t,rfl,hzz⟩:=h1 (by rw[ah,<- hlen];exact rT.mpr hn);refine#[.int z,H,I.kept kp,#[_,rfl],q z (λe=>absurd e hn) λn hm=>?_];obtain⟨i,hi,rfl⟩:=List.getElem_of_mem hm;have:=hzz i (by rw[ah,<- hlen];exact hi);rw[aa,ae hi]at this;exact this
end
section
variable{prog:nU}{w:nY}{A:nX}{R:pJ->nR->Prop}{I l S:nP}
end
section
variable{X:Cx}
end
section
variable{prog:nU}{w:nY}{A:nX}{R:pJ->nR->Prop}{I S:nP}{fp wr:List nP}{P:Nat->nQ->Prop}{St:Nat->oa->Prop}
end
section
variable{X:Cx}
end
section
variable{X:Cx}{k j:Nat}{C:nP}{m:nW}{ps:List nW}{sp:Sp}{o e:nZ}{es:List nZ}{ta:TE}{t:TA}{apos pos p:oJ}{x:nW}{E:XK}
end
def zcT(y l:())(e:Nat):Prop:=e+y.length<=l.length/\(l.drop e).take y.length=y
noncomputable instance (y l:()) (e:Nat):Decidable (zcT y l e):=by unfold zcT;infer_instance
noncomputable def zd1(y l:()):Option (() × ()):=((aQ (l.length+1)).find? λe=>decide (zcT y l e)).map λe=>(l.take e,l.drop (e+y.length))
section
variable{X:Cx}
theorem qN{cn:nW}{np hpos:oJ}{b0:oj}{suite:List oj}{hs:List pO}{D:nP}{th:TS}(hg:Gl X cn)(hm:X.mg cn=rp (.ref D))(hdb:(cn ==("__debug__" : nW))=rA)(xc:Z6 X.K D=rz)(hsu:∀e,PSs (Cx.suite X e) (b0::suite) th)
  {rB:List (nP × ou)} {s:nR} {σ:St} {H:Hp} {Dd:va} {x C T:nP} {dx:Option nP} (I:Inv X rB σ H s) (hob:∃t cx kx,s.heap.get? x=rp (xog C dx t (.ref T) cx kx)) (hoT:∃oT ts,s.heap.get? T=rp oT/\oT.data=.fields ts/\3<ts.size) (fT:xE X rB H T)
  (hb:cJ X.K (.ref C) (.ref D)=rp rz) (q:th Dd σ H):nV (model X.prog X.w) X.A (handleBy (.ref x) X.env (.ExceptHandler (rp (.Name cn np)) rq (b0::suite) hpos::hs)) (SP X rB Dd) X.xe s:=by
 obtain⟨t,cx,kx,ob⟩:=hob;obtain⟨oT,ts,eT,dT,zT⟩:=hoT;have I':=Inv.suite I (.ref x);refine wpAny_handleBy_cons (codeAny_handlers_test (wQ (X:=Cx.suite X (.ref x)) I' hg hm (zaz I.kIn xc ob hb ?_) hdb)) (by intro q;cases q);refine codeAny_handlers_suite ?_;unfold setFlight;refine nI (oN ob rfl (x:=.ref T) rfl ?_);rw[if_pos (show (Value.ref T != Value.none)=rz from by simp)];refine oM eT dT zT ?_;obtain⟨f0,f1,f2,f3,f4,f5⟩:=fT
 have I2:Inv X rB σ H { s with heap:=s.heap.update T (Obj.mapFields (·.setIfInBounds 3 ((rq:Option nP).elim Value.none λf=>rawInt f))) } :=
  I.turned (t':=s.toks) (λb o hb e=>(aG _ _ (Ne.symm hb)).trans e) f0 f1 f3 f4 f5
 refine oG (thn (hsu _ rB _ σ H _ (Inv.suite I2 (.ref x)) q) λfl s4 q4=>?_)
 cases fl with
 | next =>
  obtain⟨σ4,H4,I4,n4⟩:=q4;exact#[_,_,Inv.unsuite I I4,n4]
 | brk =>
  obtain⟨σ4,H4,I4,n4⟩:=q4;exact#[_,_,Inv.unsuite I I4,n4]
 | cont =>
  obtain⟨σ4,H4,I4,n4⟩:=q4;exact#[_,_,Inv.unsuite I I4,n4]
 | ret v =>
  obtain⟨y,σ4,H4,I4,r4,n4⟩:=q4;exact#[y,_,_,Inv.unsuite I I4,r4,n4]
def QQ(K:nO)(i:Nat)(D:nP)(te:TX)(th:TS):TS:=λDd σ H=>te σ H (λv H1=>Dd.nx (σ.set i (rp v)) H1) λcls dx H1=>∃C,cls=.ref C/\cJ K (.ref C) (.ref D)=rp rz/\∀x,H1 x=rq->th Dd σ (upd H1 x (XT x C dx))
theorem Uq{i:Nat}{y:nW}{yp apos pos np hpos:oJ}{e:nZ}{te:TX}{cn:nW}{b0:oj}{suite:List oj}{hs:List pO}{D:nP}{th:TS}
  (hN:X.N.Nodup) (hy:X.N[i]? = rp y) (hly:Loc X.env.scope y) (hf:X.fn y=rz\/X.env.scope.names.lookup y=rp .local) (hst:X.stack=X.env::X.outer/\X.env.frame=rp X.env.locals) (he:PEX X e te) (hg:Gl X cn) (hm:X.mg cn=rp (.ref D)) (xc:Z6 X.K D=rz) (hsu:∀e,PSs (Cx.suite X e) (b0::suite) th) (hdb:(cn ==("__debug__" : nW))=rA:=by decide) (hsw:swapsWith e (rp (.Name y yp)) apos.line X.env=pure rA:=by rfl) :
  PS X (.Try [.Assign [.Name y yp] e apos] (.ExceptHandler (rp (.Name cn np)) rq (b0::suite) hpos::hs) [] [] pos) (QQ X.K i D te th):=by
 intro rB s σ H D I hq;refine pZ (oP (pT (oH (he rB s σ H _ _ I hq) (λv s1 ⟨z,H1,I1,r1,q1⟩=>?_) λe s1 fl=>?_) hsw))
 ·exact jj I1 hN hy hly r1 (λs2 I2=>oK (oK #[_,H1,I2,q1])) hf
 ·obtain⟨cx,kx,H1,x,C,t,dx,tb,rfl,I1,ob,tr,fx,fT,C',ec,hsb,q1⟩:=fl;cases ec;have fr:X.A.frames=rp (X.env::X.outer):=by rw[<- hst.1];exact I1.ok.frames
  have ff:s1.heap.FunFrames X.base (X.env::X.outer):=by rw[<- hst.1];exact I1.stack
  refine kh fr ff hst.2 hst.2 ob tr λh' T oT ts e1 nT oldT e2 d2 z2 k1 k2=>?_
  have fT':xE X rB H1 T:=by
   rcases oldT with z | z
   ·exact fT T z
   ·exact I1.fpOk z (I1.hok.fresh z)
  have tbs:∀b,tb=.ref b->H1 b=rq:=λb hb=>(fT b hb).1
  have nch:∀b o,s1.heap.get? b=rp o->b ∉ (x::T::tbL tb)->b≠x/\tb≠.ref b:=λb o _ hb=>by
   refine#[λz=>hb (by simp [z]),λz=>hb ?_];rw[z];simp [tbL]
  have un:Un (frs X.stack) (x::T::tbL tb) H1 H1 s1.heap h':=by
   rw[hst.1];refine#[λb o e n hb hc=>?_,λb o e n hb hc=>?_,λb o e n _=>n,λb o e hc=>?_,λb xs e=>e,λb o u e=>e,λb ps e=>#[#[],by rw[e];simp]]
   ·obtain⟨a1,a2⟩:=nch b o e hc;exact k1 b o a1 a2 hb e
   ·obtain⟨a1,a2⟩:=nch b o e hc;exact k2 b o a1 a2 e
   ·obtain⟨a1,a2⟩:=nch b o e hc;obtain⟨sl,q⟩:=k2 b o a1 a2 e;exact#[_,q]
  have hok:HOk X.prog X.w H1 h':=λb u e=>by
   refine (I1.hok b u e).stay (λc v hc q=>k1 c v ?_ ?_ ?_ q) (λ_ q=>q) λ_ _ q=>q
   ·rintro rfl;rcases hc with rfl | hc
    ·rw[fx.1]at e;cases e
    ·rw[fx.1]at hc;cases hc
   ·intro z;have:=tbs c z;rcases hc with rfl | hc
    ·rw[this]at e;cases e
    ·rw[this]at hc;cases hc
   ·intro z;rw[<- hst.1]at z;have:=I1.stkFree c z;rcases hc with rfl | hc
    ·rw[this]at e;cases e
    ·rw[this]at hc;cases hc
  have I2:Inv X rB σ H1 { s1 with heap:=h' }:=I1.call' (s':={ s1 with heap:=h' }) rfl un hok I1.bare λb hb=>by
   have fb:xE X rB H1 b:=by
    rcases rH.mp hb with z | z
    ·rw[z];exact fx
    ·rcases rH.mp z with z | z
     ·rw[z];exact fT'
     ·cases tb with
      | ref b' =>
       have:b=b':=by simpa [tbL] using z
       rw[this];exact fT b' rfl
      | _=>simp [tbL]at z
   obtain⟨_,a1,_,a3,a4,a5⟩:=fb;exact#[a3,a1,a4,a5]
  have I3:Inv X rB σ (upd H1 x (XT x C dx)) { s1 with heap:=h' }:=Inv.track I2 fx (zaT e1);exact qN hg hm hdb xc hsu I3 #[t,_,_,e1] #[oT,ts,e2,d2,z2] #[by rw[zp nT];exact fT'.1,fT'.2] hsb (q1 x fx.1)
def Jg(K:nO)(D:nP)(te:TX)(th:TS):TS:=λDd σ H=>te σ H (λz H1=>Dd.rt z H1) λcls dx H1=>∃C,cls=.ref C/\cJ K (.ref C) (.ref D)=rp rz/\∀x,H1 x=rq->th Dd σ (upd H1 x (XT x C dx))
theorem US{apos pos np hpos:oJ}{e:nZ}{te:TX}{cn:nW}{b0:oj}{suite:List oj}{hs:List pO}{D:nP}{th:TS}
  (hst:X.stack=X.env::X.outer/\X.env.frame=rp X.env.locals) (he:PEX X e te) (hg:Gl X cn) (hm:X.mg cn=rp (.ref D)) (xc:Z6 X.K D=rz) (hsu:∀e,PSs (Cx.suite X e) (b0::suite) th) (hdb:(cn ==("__debug__" : nW))=rA:=by decide) :
  PS X (.Try [.Return (rp e) apos] (.ExceptHandler (rp (.Name cn np)) rq (b0::suite) hpos::hs) [] [] pos) (Jg X.K D te th):=by
 intro rB s σ H D I hq;refine pZ (oP (pS (oH (he rB s σ H _ _ I hq) (λv s1 ⟨z,H1,I1,r1,q1⟩=>?_) λe s1 fl=>?_)))
 ·exact#[z,σ,H1,I1,r1,q1]
 ·obtain⟨cx,kx,H1,x,C,t,dx,tb,rfl,I1,ob,tr,fx,fT,C',ec,hsb,q1⟩:=fl;cases ec;have fr:X.A.frames=rp (X.env::X.outer):=by rw[<- hst.1];exact I1.ok.frames
  have ff:s1.heap.FunFrames X.base (X.env::X.outer):=by rw[<- hst.1];exact I1.stack
  refine kh fr ff hst.2 hst.2 ob tr λh' T oT ts e1 nT oldT e2 d2 z2 k1 k2=>?_
  have fT':xE X rB H1 T:=by
   rcases oldT with z | z
   ·exact fT T z
   ·exact I1.fpOk z (I1.hok.fresh z)
  have tbs:∀b,tb=.ref b->H1 b=rq:=λb hb=>(fT b hb).1
  have nch:∀b o,s1.heap.get? b=rp o->b ∉ (x::T::tbL tb)->b≠x/\tb≠.ref b:=λb o _ hb=>by
   refine#[λz=>hb (by simp [z]),λz=>hb ?_];rw[z];simp [tbL]
  have un:Un (frs X.stack) (x::T::tbL tb) H1 H1 s1.heap h':=by
   rw[hst.1];refine#[λb o e n hb hc=>?_,λb o e n hb hc=>?_,λb o e n _=>n,λb o e hc=>?_,λb xs e=>e,λb o u e=>e,λb ps e=>#[#[],by rw[e];simp]]
   ·obtain⟨a1,a2⟩:=nch b o e hc;exact k1 b o a1 a2 hb e
   ·obtain⟨a1,a2⟩:=nch b o e hc;exact k2 b o a1 a2 e
   ·obtain⟨a1,a2⟩:=nch b o e hc;obtain⟨sl,q⟩:=k2 b o a1 a2 e;exact#[_,q]
  have hok:HOk X.prog X.w H1 h':=λb u e=>by
   refine (I1.hok b u e).stay (λc v hc q=>k1 c v ?_ ?_ ?_ q) (λ_ q=>q) λ_ _ q=>q
   ·rintro rfl;rcases hc with rfl | hc
    ·rw[fx.1]at e;cases e
    ·rw[fx.1]at hc;cases hc
   ·intro z;have:=tbs c z;rcases hc with rfl | hc
    ·rw[this]at e;cases e
    ·rw[this]at hc;cases hc
   ·intro z;rw[<- hst.1]at z;have:=I1.stkFree c z;rcases hc with rfl | hc
    ·rw[this]at e;cases e
    ·rw[this]at hc;cases hc
  have I2:Inv X rB σ H1 { s1 with heap:=h' }:=I1.call' (s':={ s1 with heap:=h' }) rfl un hok I1.bare λb hb=>by
   have fb:xE X rB H1 b:=by
    rcases rH.mp hb with z | z
    ·rw[z];exact fx
    ·rcases rH.mp z with z | z
     ·rw[z];exact fT'
     ·cases tb with
      | ref b' =>
       have:b=b':=by simpa [tbL] using z
       rw[this];exact fT b' rfl
      | _=>simp [tbL]at z
   obtain⟨_,a1,_,a3,a4,a5⟩:=fb;exact#[a3,a1,a4,a5]
  have I3:Inv X rB σ (upd H1 x (XT x C dx)) { s1 with heap:=h' }:=Inv.track I2 fx (zaT e1);exact qN hg hm hdb xc hsu I3 #[t,_,_,e1] #[oT,ts,e2,d2,z2] #[by rw[zp nT];exact fT'.1,fT'.2] hsb (q1 x fx.1)
theorem Ww(bs:List Bool):(aQ bs.length).any (λi=>bs.getD i rA)=bs.any id:=by
 induction bs with
 | nil=>rfl
 | cons b bs ih =>
  rw[aE,dk,List.any_cons,em,List.any_cons,<- ih];rfl
def zdR(K:nO):List V->Hp->VK->Prop:=λxs H Q=>∃(p:nP) (bs:List Bool),xs=[.ref p]/\SqL K H p (bs.map V.bl)/\Q (.bl (bs.any id)) H
theorem zc8(hc:X.calm=rz):vz X (.builtin "any") (zdR X.K):=by
 intro rB s σ H xs us Q I r h;obtain⟨p,bs,rfl,hS,q⟩:=h;obtain⟨u,rfl,ru⟩:=xP r;cases ru;obtain⟨its,rv,pl,hz⟩:=I.list hS
 have hlen:its.length=bs.length:=by
  have:=rv.length;rw[ac]at this;exact this.symm
 have hh:X.A.in1.handled=rq:=I.ok.hd hc
 have hne:p≠s⁻¹:=by
  obtain⟨o,n,e,_⟩:=pl;exact ax (au e)
 obtain⟨f0,f1,f2,f3,f4,f5⟩:=I.fpOk (H':=H) (ao _) (I.hok.fresh (ao _));have I1:=I.kept (t':=s.toks) (h':=s.heap.push { cls:=.type "list_iterator",data:=.fields (List.toArray [.ref p,.int 0 0]) }) λb o e=>af _ e;refine call_any_walk (oY pl.isList ?_);refine#[s⁻¹,_,_,_,_,_,λi=>bs.getD i rA,rfl,Walks.list hh s⁻¹ p hne its.toArray,#[#[_,aI _ rfl,rfl,rfl],?_],?_,?_]
 ·obtain⟨o,n,e,c,d,dt⟩:=pl;exact#[o,af _ e,c,n,dt]
 ·intro i v s' Q' E' hv hq;have:=jM rv (i:=i) (v:=v) (by simpa using hv);rw[this];exact oo hq
 ·intro h' tk hk
  have e:(aQ its.toArray.size).any (λi=>bs.getD i rA)=bs.any id:=by
   rw[ah,hlen,Ww]
  rw[e];refine#[.bl _,H,?_,rfl,q];exact I1.turned (t':=tk) (it:=s⁻¹) (λb o hb q=>hk b o (by simpa using hb) q) f0 f1 f3 f4 f5
end
def CompEL(K:nO)(a:nP)(g:TG)(tt:TT)(te:TE)(own:Nat)(ix:())(σ:L2.St)(H1:Hp)(Q:VK)(D:nP):Prop:=Xn (Iel K a) g tt te own ix σ H1 Q D
theorem QK{K:nO}{ta:TA}{g:TG}{tt:TT}{te:TE}{own:Nat}{ix:()}{σ:L2.St}{H:Hp}{Q:VK}:j7 (WS K ta) g tt te own ix σ H Q=ta σ H λvs H1=>∃a,vs=[.ref a]/\(∃xs,SqL K H1 a xs)/\∀D,H1 D=rq->CompEL K a g tt te own ix σ H1 Q D:=rfl
section
variable{g:TG}{tt:TT}{te:TE}{own:Nat}{ix:()}{σ:L2.St}{H1:Hp}{Q:VK}{D:nP}
theorem CompEL.by{K:nO}{a:nP}{xs:List V}(Pv:Nat->List V->Hp->Prop)(h0:Pv 0 [] (upd H1 D (.lst [])))(hl:∀i rE H',i<=xs.length->Pv i rE H'->SqL K H' a xs)
  (hs:∀i x rE H' p,xs[i]? = rp x->Pv i rE H'->H' p=rq->g (.ref p) (vU σ own ix) (upd H' p (.tup [.int (i:Nat),x])) λσ3 H3=>xv (vU σ own ix) σ3/\tt σ3 H3 λb H4=>if b=rz then
   te σ3 H4 λv H5=>H5 D=rp (.lst rE)/\rE.length<nN/\CNx xs.length i Pv (rE ++ [v]) (upd H5 D (.lst (rE ++ [v])))else CNx xs.length i Pv rE H4)
  (hd:∀rE H',Pv xs.length rE H'->Q (.ref D) H'):CompEL K a g tt te own ix σ H1 Q D:=by
 refine#[λi m rE H=>m=xs.length - i/\i<=xs.length/\Pv i rE H,#[xs.length,by simp,aB _,h0],?_];rintro i m rE H' ⟨rfl,hi,p⟩;have q:=hl i rE H' hi p;by_cases hlt:i<xs.length
 ·refine .inr #[#[xs,xs[i],q,by simp [hlt]],λv H2 y=>?_];obtain⟨p',x,hp,hx,ev,eH⟩:=y;subst ev eH;exact hs i x rE H' p' (hx xs q) p hp
 ·have e:i=xs.length:=⋯;subst e;exact .inl #[#[xs,q,rfl],hd rE H' p]
end
section
variable{X:Cx}
end
open PySem PySem.W PyProof.Rows
noncomputable def Vf(lt:Nat->Nat->Bool){α:Type}:rn α->α
 | .ret a=>a
 | .ask i j k=>Vf lt (k (lt i j))
def Kok(lt:Nat->Nat->Bool)(n:Nat){α:Type}:rn α->(α->Prop)->Prop
 | .ret a,Q=>Q a
 | .ask i j k,Q=>i<n/\j<n/\Kok lt n (k (lt i j)) Q
section
variable{lt:Nat->Nat->Bool}{n:Nat}{α β:Type}
theorem Kok.mono{Q Q':α->Prop}(hq:∀a,Q a->Q' a):∀(t:rn α),Kok lt n t Q->Kok lt n t Q'
 | .ret a,h=>hq a h
 | .ask _ _ k,h=>#[h.1,h.2.1,Kok.mono hq (k _) h.2.2]
theorem Kok.bind{f:α->rn β}{Q:β->Prop}:∀(t:rn α),Kok lt n t (λa=>Kok lt n (f a) Q)->Kok lt n (t.bind f) Q
 | .ret _,h=>h
 | .ask _ _ k,h=>#[h.1,h.2.1,Kok.bind (k _) h.2.2]
theorem Kok.run{Q:α->Prop}:∀(t:rn α),Kok lt n t Q->Q (Vf lt t)
 | .ret _,h=>h
 | .ask _ _ k,h=>Kok.run (k _) h.2.2
theorem Kok.same{Q:α->Prop}:∀(t:rn α),Kok lt n t Q->Kok lt n t (λa=>a=Vf lt t)
 | .ret _,h=>rfl
 | .ask _ _ k,h=>#[h.1,h.2.1,Kok.same (k _) h.2.2]
theorem Kok.wp{cmp:Nat->Nat->(Bool->nR->Prop)->nR->Prop}{I:nR->Prop}(hc:∀i j C s,i<n->j<n->I s->(∀s',I s'->C (lt i j) s')->cmp i j C s){Q:α->Prop}{R:α->nR->Prop}
  (hR:∀a s,Q a->I s->R a s):∀(t:rn α) (s:nR),I s->Kok lt n t Q->t.kasWp cmp R s
 | .ret a,s,hI,h=>hR a s h hI
 | .ask i j k,s,hI,h=>hc i j _ s h.1 h.2.1 hI λs' hI'=>Kok.wp hc hR (k _) s' hI' h.2.2
end
structure Wk(lt:Nat->Nat->Bool):Prop where
 asym:∀a b,lt a b=rz->lt b a=rA
 ntr:∀a b c,lt b a=rA->lt c b=rA->lt c a=rA
section
variable{lt:Nat->Nat->Bool}{n:Nat}
abbrev Lq(lt:Nat->Nat->Bool)(a b:Nat):Prop:=lt b a=rA
theorem Wk.refl(W:Wk lt)(a:Nat):Lq lt a a:=by
 cases h:lt a a with
 | false=>exact h
 | true=>exact absurd h (by rw[W.asym a a h];decide)
noncomputable abbrev pg(p:Array Nat)(i:Nat):Nat:=p.getD i 0
theorem XJ(p:Array Nat)(i:Nat):pg p i=(p[i]?).getD 0:=by simp [pg,Array.getD_eq_getD_getElem?]
def Up(lt:Nat->Nat->Bool)(p:Array Nat)(m:Nat):Prop:=∀i j,i<j->j<m->Lq lt (pg p i) (pg p j)
def Dn(lt:Nat->Nat->Bool)(p:Array Nat)(m:Nat):Prop:=∀i j,i<j->j<m->Lq lt (pg p j) (pg p i)
def Rg(n:Nat)(p:Array Nat):Prop:=p.toList.Perm (aQ n)
theorem Rg.size{p:Array Nat}(h:Rg n p):p.size=n:=by have:=h.length_eq;simpa using this
theorem Rg.bd{p:Array Nat}(h:Rg n p){i:Nat}(hi:i<n):pg p i<n:=by
 have hs:=h.size;have hi':i<p.size:=⋯;have e:pg p i=p[i]:=by simp [pg,fg,hi']
 rw[e];have hm:p[i] ∈ p.toList:=Array.mem_toList_iff.mpr (Array.getElem_mem hi');exact rM.mp (h.mem_iff.mp hm)
theorem wK{p:Array Nat}{i j:Nat}(hj:j<=p.size)(k:Nat):pg (kas_rev p i j) k=if i<=k/\k<j then pg p (i+j - 1 - k)else pg p k:=by
 rw[XJ,kas_rev,getElem?_mirror_all hj];split <;> rw[XJ]
theorem Rg.rev{p:Array Nat}(h:Rg n p)(i j:Nat):Rg n (kas_rev p i j):=(Array.perm_iff_toList_perm.mp (mirror_perm p i j _)).trans h
theorem Rg.bub{p:Array Nat}(h:Rg n p)(i j:Nat):Rg n (bubble p i j):=(Array.perm_iff_toList_perm.mp (bubble_perm p i j)).trans h
theorem Va(W:Wk lt){p:Array Nat}(hp:Rg n p):∀(f k:Nat),1<=k->k+f<=n->Up lt p k->Kok lt n (kas_asc p f k) (λm=>k<=m/\m<=k+f/\Up lt p m/\(m=k+f\/lt (pg p m) (pg p (m - 1))=rz))
 | 0,k,h1,h2,hu=>#[⋯,⋯,hu,Or.inl ⋯]
 | f+1,k,h1,h2,hu=>by
  refine#[hp.bd ⋯,hp.bd ⋯,?_];rcases bT (lt (pg p k) (pg p (k - 1)))with hc | hc
  ·show Kok lt n (if lt (pg p k) (pg p (k - 1))=rz then .ret k else _) _;rw[if_pos hc];exact#[⋯,⋯,hu,Or.inr hc]
  ·show Kok lt n (if lt (pg p k) (pg p (k - 1))=rz then .ret k else _) _;rw[if_neg (by rw[hc];decide)];refine (Va W hp f (k+1) ⋯ ⋯ λi j hij hj=>?_).mono (λm hm=>#[⋯,⋯,hm.2.2.1,?_]) _
   ·by_cases e:j=k
    ·subst e;by_cases e2:i=j - 1
     ·subst e2;exact hc
     ·exact W.ntr _ _ _ (hu i (j - 1) ⋯ ⋯) hc
    ·exact hu i j hij ⋯
   ·rcases hm.2.2.2 with h | h
    ·exact Or.inl ⋯
    ·exact Or.inr h
def Ev(lt:Nat->Nat->Bool)(p:Array Nat)(a b:Nat):Prop:=∀i j,a<=i->i<b->a<=j->j<b->Lq lt (pg p i) (pg p j)
theorem QM{p:Array Nat}{m q:Nat}(hm:m<=p.size)(hq:q+1<=m)(hd:Dn lt p m)(he:Ev lt p (m - (q+1)) m):Dn lt (kas_rev p (m - (q+1)) m) m:=by
 intro i j hij hj;rw[wK hm,wK hm];by_cases h1:m - (q+1)<=i
 ·rw[if_pos (show m - (q+1)<=i/\i<m by lia),if_pos (show m - (q+1)<=j/\j<m by lia)];exact he _ _ ⋯ ⋯ ⋯ ⋯
 ·rw[if_neg (show ¬ (m - (q+1)<=i/\i<m) by lia)];split
  ·exact hd _ _ ⋯ ⋯
  ·exact hd _ _ ⋯ ⋯
theorem jk(W:Wk lt):∀(f:Nat) (p:Array Nat) (k q:Nat),Rg n p->1<=k->k+f<=n->q+1<=k->Dn lt p k->Ev lt p (k - (q+1)) k ->
  Kok lt n (kas_desc f p k q) (λr=>Rg n r.1/\k<=r.2.1/\r.2.1<=k+f/\r.2.2+1<=r.2.1/\Dn lt r.1 r.2.1/\Ev lt r.1 (r.2.1 - (r.2.2+1)) r.2.1)
 | 0,p,k,q,hp,h1,h2,hq,hd,he=>#[hp,ao _,Nat.le_add_right _ _,hq,hd,he]
 | f+1,p,k,q,hp,h1,h2,hq,hd,he=>by
  have hps:=hp.size;refine#[hp.bd ⋯,hp.bd ⋯,?_]
  have one:∀(p:Array Nat),Ev lt p (k+1 - (0+1)) (k+1):=λp i j a b c d=>by
   have:i=j:=⋯;subst this;exact W.refl _
  rcases bT (lt (pg p k) (pg p (k - 1)))with hc | hc
  ·show Kok lt n (if lt (pg p k) (pg p (k - 1))=rz then _ else _) _;rw[if_pos hc];have hle:Lq lt (pg p k) (pg p (k - 1)):=W.asym _ _ hc;split
   ·rename_i hq0;refine (jk W f _ (k+1) 0 (hp.rev _ _) ⋯ ⋯ ⋯ (λi j hij hj=>?_) (one _)).mono (λr hr=>#[hr.1,⋯,⋯,hr.2.2.2]) _;by_cases e:j=k
    ·subst e;rw[wK ⋯,wK ⋯,if_neg ⋯];split
     ·exact W.ntr _ _ _ hle (he _ _ ⋯ ⋯ ⋯ ⋯)
     ·exact W.ntr _ _ _ hle (hd _ _ ⋯ ⋯)
    ·exact QM ⋯ hq hd he i j hij ⋯
   ·refine (jk W f _ (k+1) 0 hp ⋯ ⋯ ⋯ (λi j hij hj=>?_) (one _)).mono (λr hr=>#[hr.1,⋯,⋯,hr.2.2.2]) _;by_cases e:j=k
    ·subst e;by_cases e2:i=j - 1
     ·subst e2;exact hle
     ·exact W.ntr _ _ _ hle (hd i (j - 1) ⋯ ⋯)
    ·exact hd i j hij ⋯
  ·show Kok lt n (if lt (pg p k) (pg p (k - 1))=rz then _ else _) _;rw[if_neg (by rw[hc];decide)];refine#[hp.bd ⋯,hp.bd ⋯,?_];rcases bT (lt (pg p (k - 1)) (pg p k))with hd2 | hd2
   ·show Kok lt n (if lt (pg p (k - 1)) (pg p k)=rz then _ else _) _;rw[if_pos hd2];exact#[hp,ao _,Nat.le_add_right _ _,hq,hd,he]
   ·show Kok lt n (if lt (pg p (k - 1)) (pg p k)=rz then _ else _) _;rw[if_neg (by rw[hd2];decide)];refine (jk W f _ (k+1) (q+1) hp ⋯ ⋯ ⋯ (λi j hij hj=>?_) (λi j a b c d=>?_)).mono (λr hr=>#[hr.1,⋯,⋯,hr.2.2.2]) _
    ·by_cases e:j=k
     ·subst e;by_cases e2:i=j - 1
      ·subst e2;exact hd2
      ·exact W.ntr _ _ _ hd2 (hd i (j - 1) ⋯ ⋯)
     ·exact hd i j hij ⋯
    ·have b1:∀i,k+1 - (q+1+1)<=i->i<k->Lq lt (pg p i) (pg p (k - 1))/\Lq lt (pg p (k - 1)) (pg p i):=λi a b=>#[he _ _ ⋯ ⋯ ⋯ ⋯,he _ _ ⋯ ⋯ ⋯ ⋯];by_cases e:j=k
     ·subst e;by_cases e3:i=j
      ·subst e3;exact W.refl _
      ·exact W.ntr _ _ _ (b1 i ⋯ ⋯).1 hc
     ·by_cases e3:i=k
      ·subst e3;exact W.ntr _ _ _ hd2 (b1 j ⋯ ⋯).2
      ·exact he _ _ ⋯ ⋯ ⋯ ⋯
theorem Yu(W:Wk lt){p:Array Nat}{m:Nat}(hp:Rg n p)(h1:1<=m)(hm:m<=n)(hd:Dn lt p m):Kok lt n (kas_tail3 m n p) (λr=>Rg n r.2/\1<=r.1/\r.1<=n/\Up lt r.2 r.1):=by
 have hps:=hp.size;unfold kas_tail3;refine Kok.bind _ ((Va W (hp.rev 0 m) (n - m) m h1 ⋯ λi j hij hj=>?_).mono (λk hk=>#[hp.rev 0 m,by show 1<=k;lia,by show k<=n;lia,hk.2.2.1]) _);rw[wK ⋯,wK ⋯,if_pos ⋯,if_pos ⋯];exact hd _ _ ⋯ ⋯
theorem qB(W:Wk lt){p:Array Nat}{m:Nat}(hp:Rg n p)(h1:1<=m)(hm:m+1<=n)(hd:Dn lt p (m+1)):Kok lt n (kas_descPart m n p) (λr=>Rg n r.2/\1<=r.1/\r.1<=n/\Up lt r.2 r.1):=by
 unfold kas_descPart;refine Kok.bind _ ((jk W (n - (m+1)) p (m+1) 0 hp ⋯ ⋯ ⋯ hd λi j a b c d=>?_).mono (λr hr=>?_) _)
 ·have:i=j:=⋯;subst this;exact W.refl _
 ·obtain⟨r1,r2,r3,r4,r5,r6⟩:=hr;have hs:=r1.size
  (try dsimp only)
  split
  ·exact Yu W (r1.rev _ _) ⋯ ⋯ (QM ⋯ r4 r5 r6)
  ·exact Yu W r1 ⋯ ⋯ r5
theorem Qj(W:Wk lt){p:Array Nat}(hp:Rg n p)(hn:1<=n):Kok lt n (kas_count n p) (λr=>Rg n r.2/\1<=r.1/\r.1<=n/\Up lt r.2 r.1):=by
 have hps:=hp.size;unfold kas_count;refine Kok.bind _ ((Va W hp (n - 1) 1 (ao _) ⋯ λi j hij hj=>by lia).mono (λm hm=>?_) _);obtain⟨m1,m2,mu,ms⟩:=hm;by_cases e:(m == n)=rz
 ·rw[if_pos e];exact#[hp,by show 1<=m;lia,by show m<=n;lia,mu]
 ·rw[if_neg e];have hne:m≠n:=λh=>e (by rw[h];exact beq_self_eq_true _)
  have hlt:lt (pg p m) (pg p (m - 1))=rz:=by
   rcases ms with h | h
   ·lia
   ·exact h
  have hle:Lq lt (pg p m) (pg p (m - 1)):=W.asym _ _ hlt;by_cases h1:m > 1
  ·rw[if_pos h1];refine#[hp.bd ⋯,hp.bd ⋯,?_];rcases bT (lt (pg p 0) (pg p (m - 1)))with hc | hc
   ·show Kok lt n (if lt (pg p 0) (pg p (m - 1))=rz then _ else _) _;rw[if_pos hc];exact#[hp,by show 1<=m;lia,by show m<=n;lia,mu]
   ·show Kok lt n (if lt (pg p 0) (pg p (m - 1))=rz then _ else _) _;rw[if_neg (by rw[hc];decide)]
    have u0:∀i,i<m->Lq lt (pg p 0) (pg p i):=λi hi=>by
     by_cases h:i=0
     ·subst h;exact W.refl _
     ·exact mu 0 i ⋯ hi
    have ul:∀i,i<m->Lq lt (pg p i) (pg p (m - 1)):=λi hi=>by
     by_cases h:i=m - 1
     ·subst h;exact W.refl _
     ·exact mu i (m - 1) ⋯ ⋯
    have ev:∀i j,i<m->j<m->Lq lt (pg p i) (pg p j):=λi j hi hj=>W.ntr _ _ _ (ul i hi) (W.ntr _ _ _ hc (u0 j hj));refine qB W (hp.rev 0 m) ⋯ ⋯ λi j hij hj=>?_;by_cases h:j=m
    ·subst h;rw[wK ⋯,wK ⋯,if_neg ⋯,if_pos ⋯];exact W.ntr _ _ _ hle (ev _ _ ⋯ ⋯)
    ·rw[wK ⋯,wK ⋯,if_pos ⋯,if_pos ⋯];exact ev _ _ ⋯ ⋯
  ·rw[if_neg h1];refine qB W hp ⋯ ⋯ λi j hij hj=>?_;have h0:i=m - 1:=⋯;have h1:j=m:=⋯;subst h0 h1;exact hle
theorem kg(W:Wk lt){p:Array Nat}(hp:Rg n p){k:Nat}(hk:k<n)(hu:Up lt p k):∀(f l r:Nat),l<=r->r<=k->r - l<=f->(∀i,i<l->Lq lt (pg p i) (pg p k))->(∀i,r<=i->i<k->Lq lt (pg p k) (pg p i)) ->
  Kok lt n (kas_place p k f l r) (λm=>m<=k/\(∀i,i<m->Lq lt (pg p i) (pg p k))/\(∀i,m<=i->i<k->Lq lt (pg p k) (pg p i)))
 | 0,l,r,hl,hr,hf,h1,h2=>by
  have:l=r:=⋯;subst this;exact#[hr,h1,h2]
 | f+1,l,r,hl,hr,hf,h1,h2=>by
  unfold kas_place;by_cases e:l ≥ r
  ·rw[if_pos e];have:l=r:=⋯;subst this;exact#[hr,h1,h2]
  ·rw[if_neg e];refine#[hp.bd hk,hp.bd ⋯,?_];rcases bT (lt (pg p k) (pg p ((l+r) / 2)))with hc | hc
   ·show Kok lt n (if lt (pg p k) (pg p ((l+r) / 2))=rz then _ else _) _;rw[if_pos hc];refine kg W hp hk hu f l ((l+r) / 2) ⋯ ⋯ ⋯ h1 λi hi hik=>?_;by_cases e2:i=(l+r) / 2
    ·subst e2;exact W.asym _ _ hc
    ·exact W.ntr _ _ _ (W.asym _ _ hc) (hu _ _ ⋯ hik)
   ·show Kok lt n (if lt (pg p k) (pg p ((l+r) / 2))=rz then _ else _) _;rw[if_neg (by rw[hc];decide)];refine kg W hp hk hu f ((l+r) / 2+1) r ⋯ hr ⋯ (λi hi=>?_) h2;by_cases e2:i=(l+r) / 2
    ·subst e2;exact hc
    ·exact W.ntr _ _ _ (hu i ((l+r) / 2) ⋯ ⋯) hc
theorem QR{p:Array Nat}{k l:Nat}(hk:k<p.size)(hl:l<=k)(i:Nat):pg (bubble p k (k - l)) i=if i=l then pg p k else if l<i/\i<=k then pg p (i - 1)else pg p i:=by
 have e:k - (k - l)=l:=⋯;rw[XJ,getElem?_bubble hk (k - l) ⋯,e];by_cases h:i=l
 ·rw[if_pos h,if_pos h];exact (XJ p k).symm
 ·rw[if_neg h,if_neg h];by_cases h':l<i/\i<=k
  ·rw[if_pos h',if_pos h'];exact (XJ p (i - 1)).symm
  ·rw[if_neg h',if_neg h'];exact (XJ p i).symm
theorem Jf(W:Wk lt):∀(f:Nat) (p:Array Nat) (k:Nat),Rg n p->k+f=n->Up lt p k->Kok lt n (kas_bin f p k) (λp'=>Rg n p'/\Up lt p' n)
 | 0,p,k,hp,hk,hu=>by
  have:k=n:=⋯;subst this;exact#[hp,hu]
 | f+1,p,k,hp,hk,hu=>by
  have hps:=hp.size;refine Kok.bind _ ((kg W hp ⋯ hu k 0 k ⋯ ⋯ ⋯ (λi hi=>by lia) (λi h1 h2=>by lia)).mono (λl hl=>?_) _);obtain⟨l1,l2,l3⟩:=hl;refine Jf W f _ (k+1) (hp.bub _ _) ⋯ λi j hij hj=>?_;rw[QR ⋯ l1,QR ⋯ l1];by_cases h1:i=l
  ·rw[if_pos h1,if_neg ⋯,if_pos ⋯];exact l3 _ ⋯ ⋯
  ·rw[if_neg h1];by_cases h2:j=l
   ·rw[if_pos h2,if_neg ⋯];exact l2 _ ⋯
   ·rw[if_neg h2];by_cases h3:l<i/\i<=k
    ·rw[if_pos h3,if_pos ⋯];exact hu _ _ ⋯ ⋯
    ·rw[if_neg h3];by_cases h4:l<j/\j<=k
     ·rw[if_pos h4];by_cases h5:i=j - 1
      ·lia
      ·exact hu _ _ ⋯ ⋯
     ·rw[if_neg h4];exact hu _ _ ⋯ ⋯
theorem jR(W:Wk lt)(hn:1<=n):Kok lt n (kas_sort n) (λp=>Rg n p/\Up lt p n):=by
 unfold kas_sort;refine Kok.bind _ ((Qj W (p:=aN (aQ n)) (by unfold Rg;exact List.Perm.refl _) hn).mono (λr hr=>?_) _);obtain⟨r1,r2,r3,r4⟩:=hr
 (try dsimp only)
 split
 ·have:max r.1 1=r.1:=⋯;rw[this];exact Jf W _ _ _ r1 ⋯ r4
 ·have:r.1=n:=⋯;rw[this]at r4;exact#[r1,r4]
end
noncomputable def srt{α:Type}(lt:α->α->Bool)(d:α)(xs:List α):List α :=
 if xs.length<2 then xs else (Vf (λi j=>lt (xs.getD i d) (xs.getD j d)) (kas_sort xs.length)).toList.map λi=>xs.getD i d
structure WkO{α:Type}(lt:α->α->Bool):Prop where
 asym:∀a b,lt a b=rz->lt b a=rA
 ntr:∀a b c,lt b a=rA->lt c b=rA->lt c a=rA
theorem YG{α:Type}{lt:α->α->Bool}(W:WkO lt)(d:α)(xs:List α):(srt lt d xs).Perm xs/\(srt lt d xs).Pairwise λa b=>lt b a=rA:=by
 unfold srt;split
 ·rename_i h;refine#[List.Perm.refl _,?_]
  match xs,h with
  | [],_=>exact List.Pairwise.nil
  | [a],_=>exact df _ _
  | _::_::_,h=>exact absurd h (by simp)
 ·rename_i h;have W':Wk (λi j=>lt (xs.getD i d) (xs.getD j d)):=#[λa b=>W.asym _ _,λa b c=>W.ntr _ _ _];obtain⟨h1,h2⟩:=Kok.run _ (jR (n:=xs.length) W' ⋯);generalize Vf (λi j=>lt (xs.getD i d) (xs.getD j d)) (kas_sort xs.length)=p at h1 h2
  have e:(aQ xs.length).map (λi=>xs.getD i d)=xs:=by
   refine List.ext_getElem (by simp) λi a b=>?_;have hb:i<xs.length:=by simpa using b
   simp [hb]
  refine#[(h1.map (λi=>xs.getD i d)).trans (by rw[e]),?_];rw[List.pairwise_map,List.pairwise_iff_getElem];intro i j hi hj hij;have hs:=h1.size;have hi':i<p.size:=by simpa using hi
  have hj':j<p.size:=by simpa using hj
  have q:=h2 i j hij ⋯;have ei:pg p i=p.toList[i]:=by simp [pg,fg,hi']
  have ej:pg p j=p.toList[j]:=by simp [pg,fg,hj']
  rw[ei,ej]at q;exact q
theorem Wb{lt lt':Nat->Nat->Bool}{n:Nat}{α:Type}{Q:α->Prop}(h:∀i j,i<n->j<n->lt i j=lt' i j):∀t:rn α,Kok lt n t Q->Vf lt t=Vf lt' t
 | .ret _,_=>rfl
 | .ask i j k,q=>by
  show Vf lt (k (lt i j))=Vf lt' (k (lt' i j));rw[<- h i j q.1 q.2.1];exact Wb h _ q.2.2
theorem Jr{α:Type}{lt lt':α->α->Bool}(W:WkO lt){d d':α}{xs:List α}(h:∀a ∈ xs,∀b ∈ xs,lt a b=lt' a b):srt lt d xs=srt lt' d' xs:=by
 have g:∀i,i<xs.length->∃a ∈ xs,xs.getD i d=a/\xs.getD i d'=a:=λi hi=>#[xs[i],List.getElem_mem hi,by rw[aa,ae hi];rfl,by rw[aa,ae hi];rfl];unfold srt;split
 ·rfl
 ·rename_i hl;have W':Wk (λi j=>lt (xs.getD i d) (xs.getD j d)):=#[λa b=>W.asym _ _,λa b c=>W.ntr _ _ _];have ok:=jR (n:=xs.length) W' ⋯
  have e:=Wb (lt':=λi j=>lt' (xs.getD i d') (xs.getD j d')) (λi j hi hj=>by
   obtain⟨a,ha,a1,a2⟩:=g i hi;obtain⟨b,hb,b1,b2⟩:=g j hj;show lt (xs.getD i d) (xs.getD j d)=lt' (xs.getD i d') (xs.getD j d');rw[a1,a2,b1,b2]
   exact h a ha b hb) _ ok
  rw[<- e];obtain⟨h1,_⟩:=Kok.run _ ok;refine aU λi hi=>?_;obtain⟨a,_,a1,a2⟩:=g i (rM.mp (h1.mem_iff.mp hi));rw[a1,a2]
theorem Wj{α β:Type}{lt:β->β->Bool}(f:α->β)(d:α)(xs:List α):srt lt (f d) (xs.map f)=(srt (λa b=>lt (f a) (f b)) d xs).map f:=by
 have e:∀i,(xs.map f).getD i (f d)=f (xs.getD i d):=λi=>by
  rw[aa,aa,ay];cases xs[i]? <;> rfl
 unfold srt;rw[ac];split
 ·rfl
 ·erw[e,aV]
  rfl
end L3
namespace L3
structure KeyFam(α:Type) where
 dec:α->List D
 lt:α->α->Bool
 fst:Bool
 d0:α
structure KeyFam.Ok{α:Type}(F:KeyFam α):Prop where
 w:WkO F.lt
 eq:∀a b,xo (F.dec a) (F.dec b)=F.lt a b
 ok:∀a b,j4 (F.dec a) (F.dec b)
 dp:∀a,wW (F.dec a)<40
 sh:∀a,∃d r,F.dec a=d::r/\((F.fst=rz/\∃n,d=.int n)\/(F.fst=rA/\∃l,d=.tup l))
section
variable{X:Cx}{rB:List (nP × ou)}{σ:L2.St}{H:Hp}{s:nR}
theorem Inv.repin{b:nP}{o o':ou}{h':oa}(I:Inv X (rB ++ [(b,o)]) σ H s)(hs:X.s₀.heap.objs.size<=b)(hn:∀p ∈ X.pn ++ rB,p.1≠b)(sb:Heap.SameBut b s.heap h')(ho:h'.get? b=rp o')(hd:∀v,o'.data≠.cell v) :
  Inv X (rB ++ [(b,o')]) σ H { s with heap:=h' }:=by
 have I1:Inv X rB σ H s:=I.unpinned;obtain⟨p1,p2,p3,p4,p5⟩:=I.pin (b,o) (aD _ (aD _ (rK.mpr rfl)))
 have I2:Inv X rB σ H { s with heap:=h' }:=Inv.turns I1 (fp:=[b]) (t':=s.toks) (λb' u hb e=>(sb.2 b' (by simpa using hb)).trans e) λb' hb=>by
  have e:b'=b:=by simpa using hb
  subst e;refine#[p2,p3,p4,.inr hs,λx c e z=>?_,hn];obtain⟨v,o1,ho1,hd1⟩:=I.cell x c e;subst z;rw[p1]at ho1;cases ho1;exact p5 v hd1
 exact I2.pins_of λp hp=>by
  rcases rJ.mp hp with z | z
  ·exact I2.pin p (aD _ z)
  ·have e:p=(b,o'):=by simpa using z
   subst e;exact#[ho,p2,p3,p4,hd]
theorem Inv.newpin{b:nP}{o:ou}(I:Inv X rB σ H s)(hf:xE X rB H b)(ho:s.heap.get? b=rp o)(hd:∀v,o.data≠.cell v):Inv X (rB ++ [(b,o)]) σ H s :=
 I.pins_of λp hp=>by
  rcases rJ.mp hp with z | z
  ·exact I.pin p (aD _ z)
  ·have e:p=(b,o):=by simpa using z
   subst e;exact#[ho,hf.1,hf.2.1,hf.2.2.1,hd]
theorem zaE(I:Inv X rB σ H s){A:nX}{b:Bool}{Q:Bool->nR->Prop}(hu:A.units+50<cLine):∀(l m:List D) (xs ys:List V) (its its':List nQ) (i:Nat),Iss X.K H l xs->Iss X.K H m ys->Vals xs its->Vals ys its'->j4 l m->wW l<40 ->
  (b=rz->i=0->(∃n r,l=.int n::r)/\∃n r,m=.int n::r)->Q (xo l m) s->PySem.W.KatLex X.prog X.w A b (decide (its.length<its'.length)) Q (its.zip its') i s
 | [],m,xs,ys,its,its',i,h1,h2,r1,r2,ok,hd,hb,q=>by
  erw[Iss]at h1
  subst h1;cases r1
  have e:xo [] m=decide (([]:List nQ).length<its'.length):=by
   have e1:=h2.len;have e2:=r2.length;have e3:m.length=its'.length:=⋯;rw[<- e3]
   cases m with
   | nil=>simp [xo]
   | cons _ _=>simp [xo]
  rw[e]at q;rw[List.zip_nil_left];exact dF q
 | d::l,[],xs,ys,its,its',i,h1,h2,r1,r2,ok,hd,hb,q=>by
  erw[Iss]at h2
  subst h2;cases r2
  erw[xo]at q
  rw[fA];exact dF (by simpa using q)
 | d::l,e::m,xs,ys,its,its',i,h1,h2,r1,r2,ok,hd,hb,q=>by
  erw[Iss]at h1 h2
  obtain⟨x,xr,rfl,hx,hxr⟩:=h1;obtain⟨y,yr,rfl,hy,hyr⟩:=h2
  cases r1 with | cons rx rxr =>
  cases r2 with | cons ry ryr =>
  erw[j4]at ok
  erw[wW]at hd
  rename_i u us v vs;rw[cy];refine fO (ug I 45 A d e x y u v ⋯ ⋯ hx hy rx ry X.prog X.w _ _ ?_)
  cases he:eqD d e with
  | true =>
   refine fX ?_;have:=zaE I (b:=b) hu l m xr yr us vs (i+1) hxr hyr rxr ryr ok.2 ⋯ (λ_ z=>absurd z ⋯) (by simpa only[xo,he,if_true] using q);simpa using this
  | false =>
   refine PySem.W.kat_no ?_;have q':Q (ltD d e) s:=by simpa only[xo,he,aY,if_false] using q
   by_cases hbi:(b && i == 0)=rz
   ·rw[hbi]
    erw[ba,beq_iff_eq]at hbi
    obtain⟨⟨n,r,e1⟩,n',r',e2⟩:=hb hbi.1 hbi.2;cases e1;cases e2
    erw[Is]at hx hy
    subst hx hy;obtain⟨t,rfl⟩:=rx;obtain⟨t',rfl⟩:=ry
    erw[ltD]at q'
    exact oneLt_int q'
   ·rw[show (b && i == 0)=rA by simpa using hbi];exact fY _ _ (Vs I 45 A d e x y u v ⋯ ⋯ ok.1 hx hy rx ry X.prog X.w _ _ q')
theorem Kb(I:Inv X rB σ H s){A:nX}{b:Bool}{Q:Bool->nR->Prop}{E:nQ->nR->Prop}(hu:A.units+50<cLine){l m:List D}{x y:V}{u v:nQ}(hx:Is X.K H (.tup l) x)(hy:Is X.K H (.tup m) y)(rx:RelV x u)(ry:RelV y v)
  (ok:j4 l m) (hd:wW l<40) (hb:b=rz->(∃n r,l=.int n::r)/\∃n r,m=.int n::r) (q:Q (xo l m) s):nV (model X.prog X.w) A (keyLt' (tuples' b) u v) Q E s:=by
 erw[Is]at hx hy
 obtain⟨a,xs,rfl,h1,h2⟩:=hx;obtain⟨c,ys,rfl,g1,g2⟩:=hy;cases rx;cases ry;obtain⟨its,r,⟨o,ho,hoc,n,hod⟩,_⟩:=I.tuple h1;obtain⟨its',r',⟨o',ho',hoc',n',hod'⟩,_⟩:=I.tuple g1;refine PySem.W.kat_lt ho hod ho' hod' ?_;have:=zaE I (A:=A) (b:=b) (Q:=Q) hu l m xs ys its its' 0 h2 g2 r r' ok hd (λz _=>hb z) q;simpa using this
theorem Je{α:Type}{F:KeyFam α}(FO:F.Ok)(I:Inv X rB σ H s){M:pN}:∀(rs:List α) (rE:List V) (ks:List nQ),Iss X.K H (rs.map λa=>.tup (F.dec a)) rE->Vals rE ks ->
  ∃fs,PySem.W.KatTups s.heap ks fs/\fs.length=rs.length/\∀v ∈ fs,PySem.W.Looks M s.heap (typeOf v) (.type (if F.fst=rz then "int" else "tuple"))
 | [],rE,ks,h,r=>by
  erw[aw,Iss]at h
  subst h;cases r;exact#[[],PySem.W.KatTups.nil,rfl,λv hv=>by cases hv]
 | a::rs,rE,ks,h,r=>by
  erw[aj,Iss]at h
  obtain⟨x,xr,rfl,hx,hxr⟩:=h
  cases r with | cons rx rxr =>
  rename_i u us;obtain⟨fs,t1,t2,t3⟩:=Je FO I (M:=M) rs xr us hxr rxr
  erw[Is]at hx
  obtain⟨c,xs,rfl,h1,h2⟩:=hx;cases rx;obtain⟨its,ri,⟨o,ho,hoc,n,hod⟩,_⟩:=I.tuple h1;obtain⟨d,dr,ed,hsh⟩:=FO.sh a;rw[ed]at h2
  erw[Iss]at h2
  obtain⟨y,yr,rfl,hy,_⟩:=h2
  cases ri with | cons ry rir =>
  rename_i v vs;refine#[v::fs,PySem.W.KatTups.cons ho hoc hod (by simp) t1,by simp [t2],λz hz=>?_];rcases rH.mp hz with e | hz
  ·subst e;rcases hsh with ⟨hf,n',rfl⟩ | ⟨hf,l,rfl⟩
   ·rw[if_pos hf]
    erw[Is]at hy
    subst hy;obtain⟨t,rfl⟩:=ry;exact PySem.W.Looks.of_pure rfl
   ·rw[if_neg (by rw[hf];decide)]
    erw[Is]at hy
    obtain⟨c',xs',rfl,g1,_⟩:=hy;cases ry;obtain⟨its',ri',⟨o',ho',hoc',n',hod'⟩,_⟩:=I.tuple g1;rw[<- hoc'];exact (PySem.W.Looks.ld ho').andThen .now
  ·exact t3 z hz
end
def XG{α:Type}(K:nO)(F:KeyFam α)(xs:List V)(Q:VK):List V->Hp->Prop:=λrE H'=>∃rs:List α,Iss K H' (rs.map λa=>.tup (F.dec a)) rE /\
 ∀ys:List (α × V),ys=srt (λp q=>F.lt p.1 q.1) (F.d0,.non) (rs.zip xs)->∀D,H' D=rq->Q (.ref D) (upd H' D (.lst (ys.map (·.2))))
section
variable{X:Cx}{rB:List (nP × ou)}{σ:L2.St}{H:Hp}{s:nR}
theorem Inv.fp_of_pin{b:nP}{o:ou}(I:Inv X (rB ++ [(b,o)]) σ H s)(hs:X.s₀.heap.objs.size<=b)(hn:∀p ∈ X.pn ++ rB,p.1≠b):xE X rB H b:=by
 obtain⟨p1,p2,p3,p4,p5⟩:=I.pin (b,o) (aD _ (aD _ (rK.mpr rfl)));refine#[p2,p3,p4,.inr hs,λx c e z=>?_,hn];obtain⟨v,o1,ho1,hd1⟩:=I.cell x c e;subst z;rw[p1]at ho1;cases ho1;exact p5 v hd1
theorem Inv.at_pin{b:nP}{o:ou}(I:Inv X (rB ++ [(b,o)]) σ H s):s.heap.get? b=rp o:=(I.pin (b,o) (aD _ (aD _ (rK.mpr rfl)))).1
theorem yz{c:String}{xs:Array nQ}{n:Nat}:∀v,(oe c xs n).data≠.cell v:=λv z=>by cases z
theorem QI{D kS:nP}{e e1:Nat}{st:SortSt}{ks out:List nQ}{A:nX}{E:nQ->nR->Prop}{P:PySem.Fin->nR->Prop}(I:Inv X ((rB ++ [(D,oe "list" #[] e1)]) ++ [(kS,oe "list" (aN ks) e)]) σ H s)
  (hD:X.s₀.heap.objs.size<=D) (hK:X.s₀.heap.objs.size<=kS) (nD:∀p ∈ X.pn ++ rB,p.1≠D) (nK:∀p ∈ X.pn ++ (rB ++ [(D,oe "list" #[] e1)]),p.1≠kS) (hkz:ks.length<64)
  (hout:(arrOf st).map (·.2)=aN out) (hoz:out.length<64) (hf:failedOf st=rq) (h:∀s' c,Inv X (rB ++ [(D,oe "list" (aN out) c)]) σ H s'->P (.done (.ret .none)) s') :
  nV (model X.prog X.w) A (ksk_tail D rA e1 (.ref kS) st) P E s:=by
 have pk:=Inv.at_pin I;have s1:=Heap.SameBut.update s.heap kS (Obj.mapSeq λ_=>(#[]:Array nQ));obtain⟨ck,hck⟩:∃ck,(s.heap.update kS (Obj.mapSeq λ_=>(#[]:Array nQ))).get? kS=rp (oe "list" #[] ck):=#[_,get?_update_seq pk λ_=>#[]];have I2:=(Inv.repin I hK nK s1 hck yz).unpinned;have pd:=Inv.at_pin I2;have s2:=Heap.SameBut.update (s.heap.update kS (Obj.mapSeq λ_=>(#[]:Array nQ))) D (Obj.mapSeq λ_=>aN out);obtain⟨c2,hc2⟩:∃c2,((s.heap.update kS (Obj.mapSeq λ_=>(#[]:Array nQ))).update D (Obj.mapSeq λ_=>aN out)).get? D=rp (oe "list" (aN out) c2):=#[_,get?_update_seq pd λ_=>aN out];have I3:=Inv.repin I2 hD nD s2 hc2 yz;unfold ksk_tail
 (try dsimp only)
 rw[hout];refine nI (listUpdate_at pk rfl ?_ (by rw[ah,oh];lia) (aB _));refine nI (pj ?_);refine nI (seqEpoch_at pd rfl ?_);refine nI (listUpdate_at pd rfl ?_ (aB _) (by erw[aY,if_false];rw[ah,oh];lia));rw[hf]
 erw[bne_self_eq_false,aY,if_false]
 exact nJ (h _ c2 I3)
theorem zdf{α:Type}{F:KeyFam α}(FO:F.Ok){D kS:nP}{e e1:Nat}{ks its:List nQ}{rE xs:List V}{rs:List α}{A:nX}{E:nQ->nR->Prop}{P:PySem.Fin->nR->Prop}(hu:A.units+50<cLine)
  (I:Inv X ((rB ++ [(D,oe "list" #[] e1)]) ++ [(kS,oe "list" (aN ks) e)]) σ H s)
  (hD:X.s₀.heap.objs.size<=D) (hK:X.s₀.heap.objs.size<=kS) (nD:∀p ∈ X.pn ++ rB,p.1≠D) (nK:∀p ∈ X.pn ++ (rB ++ [(D,oe "list" #[] e1)]),p.1≠kS)
  (rk:Vals rE ks) (rv:Vals xs its) (hl:ks.length=its.length) (hz:its.length<64) (hR:Iss X.K H (rs.map λa=>.tup (F.dec a)) rE)
  (h:∀s' (ys:List (α × V)) (out:List nQ) c,ys=srt (λp q=>F.lt p.1 q.1) (F.d0,.non) (rs.zip xs)->Vals (ys.map (·.2)) out->out.length<64->Inv X (rB ++ [(D,oe "list" (aN out) c)]) σ H s'->P (.done (.ret .none)) s') :
  nV (model X.prog X.w) A (ksk_end D rA its.toArray e1 (.ref kS) (aN ks)) P E s:=by
 have L1:=hR.len;have L2:=rk.length;have L3:=rv.length;rw[ac]at L1;have lz:(rs.zip xs).length=its.length:=by rw[List.length_zip];lia
 unfold ksk_end
 erw[aY,if_false]
 by_cases h2:its.toArray.size<2
 ·rw[if_pos h2,if_pos h2];refine nI (nJ ?_);rw[StateT.run_pure];refine nI (nJ ?_)
  (try dsimp only)
  refine QI (out:=its) I hD hK nD nK ⋯ ?_ hz rfl λs' c I'=>h s' (rs.zip xs) its c ?_ ?_ hz I'
  ·show ((aN ks).zip its.toArray).map (·.2)=_;apply Array.toList_inj.mp;rw[Array.toList_map,ksk_zip];exact dz (by simp;lia)
  ·rw[ah]at h2;unfold srt;rw[if_pos ⋯]
  ·rw[dz ⋯];exact rv
 ·rw[if_neg h2,if_neg h2];rw[ah]at h2;obtain⟨fs,t1,t2,t3⟩:=Je FO I (M:=model X.prog X.w) rs rE ks hR rk;refine nI (fP t1 ⋯ t3 (by simp) ?_)
  have hfst:((Value.type (if F.fst=rz then "int" else "tuple"):nQ) != Value.type "tuple")=F.fst:=by
   cases hF:F.fst with
   | true=>rfl
   | false=>rfl
  rw[hfst];have W:Wk (λi j=>F.lt (rs.getD i F.d0) (rs.getD j F.d0)):=#[λa b=>FO.w.asym _ _,λa b c=>FO.w.ntr _ _ _];have ok:=jR (n:=its.length) W ⋯
  have lt_eq:(λi j=>F.lt (rs.getD i F.d0) (rs.getD j F.d0))=(λi j=>(λ(p q:α × V)=>F.lt p.1 q.1) ((rs.zip xs).getD i (F.d0,.non)) ((rs.zip xs).getD j (F.d0,.non))):=by
   have one:∀i,((rs.zip xs).getD i (F.d0,V.non)).1=rs.getD i F.d0:=λi=>by
    by_cases hi:i<its.length
    ·have a1:i<rs.length:=⋯;have a2:i<xs.length:=⋯;rw[aa,aa,ae ⋯,ae a1];simp
    ·rw[aa,aa,bP ⋯,bP ⋯];rfl
   funext i j
   erw[one]
  have wp:=Kok.wp (n:=its.length) (cmp:=dH X.prog X.w A (tuples' F.fst) ks) (I:=λs'=>Inv X ((rB ++ [(D,oe "list" #[] e1)]) ++ [(kS,oe "list" (aN ks) e)]) σ H s')
   (R:=λp s'=>p=Vf (λi j=>F.lt (rs.getD i F.d0) (rs.getD j F.d0)) (fQ its.length)/\Inv X ((rB ++ [(D,oe "list" #[] e1)]) ++ [(kS,oe "list" (aN ks) e)]) σ H s')
   (λi j C s' hi hj I' hC=>?_) (λp s' hp I'=>#[hp,I']) _ s I (Kok.same _ ok)
  ·have run:=fZ (E:=E) (vs:=its) (ks:=ks) (Q:=λst' s'=>∃p:Array Nat,p.size=its.length/\arrOf st'=p.map (fR (ks.toArray.zip its.toArray))/\failedOf st'=rq/\_) hl ⋯ hz (λp' st' s' a1 a2 a3 a4=>#[p',a1,a2,a3,a4]) wp;refine nI (oH run ?_ λ_ _ e=>e);rintro⟨⟨⟩,st'⟩ s' ⟨p,hp,har,hf,hpk,I'⟩
   (try dsimp only)
   have hout:=fS (ks:=ks) (vs:=its) hl har;have hR1:Rg its.length p:=by rw[hpk];exact (Kok.run _ ok).1
   have g1:(p.toList.map λi=>(rs.zip xs).getD i (F.d0,.non))=srt (λp q=>F.lt p.1 q.1) (F.d0,.non) (rs.zip xs):=by
    unfold srt;rw[if_neg ⋯,lz,<- lt_eq,<- hpk]
   have olen:(p.toList.map λi=>its.getD i Value.none).length=its.length:=by rw[ac,cL,hp]
   refine QI (out:=p.toList.map λi=>its.getD i Value.none) I' hD hK nD nK ⋯ hout ⋯ hf λs2 c I2=>h s2 _ _ c g1 ?_ ⋯ I2;rw[aV]
   have all:∀(js:()),(∀j ∈ js,j<its.length)->Vals (js.map ((λx:α × V=>x.2) ∘ λi=>(rs.zip xs).getD i (F.d0,.non))) (js.map λi=>its.getD i Value.none):=by
    intro js
    induction js with
    | nil=>intro _;exact .nil
    | cons j js ih =>
     intro hj;refine .cons ?_ (ih λi hi=>hj i (ar _ hi));have hjl:=hj j az;have a1:j<xs.length:=⋯;obtain⟨u,hu1,ru⟩:=yx rv (j:=j) (x:=xs[j]) (ae a1)
     have e1:((rs.zip xs).getD j (F.d0,V.non)).2=xs[j]:=by
      rw[aa,ae ⋯];simp
     have e2:its.getD j Value.none=u:=by rw[aa,hu1];rfl
     show RelV ((rs.zip xs).getD j (F.d0,V.non)).2 (its.getD j Value.none);rw[e1,e2];exact ru
   exact all p.toList λj hj=>rM.mp (hR1.mem_iff.mp hj)
  ·have a1:i<rs.length:=⋯;have a2:j<rs.length:=⋯;have gi:(rs.map λa=>_root_.L3.D.tup (F.dec a))[i]? = rp (.tup (F.dec rs[i])):=by rw[ay,ae a1];rfl
   have gj:(rs.map λa=>_root_.L3.D.tup (F.dec a))[j]? = rp (.tup (F.dec rs[j])):=by rw[ay,ae a2];rfl
   obtain⟨x,hx,ix⟩:=hR.at gi;obtain⟨y,hy,iy⟩:=hR.at gj;obtain⟨u,hu1,ru⟩:=yx rk hx;obtain⟨v,hv1,rv1⟩:=yx rk hy;have e1:ks.getD i Value.none=u:=by rw[aa,hu1];rfl
   have e2:ks.getD j Value.none=v:=by rw[aa,hv1];rfl
   have e3:rs.getD i F.d0=rs[i]:=by rw[aa,ae a1];rfl
   have e4:rs.getD j F.d0=rs[j]:=by rw[aa,ae a2];rfl
   unfold dH;rw[e1,e2];refine Kb I' hu ix iy ru rv1 (FO.ok _ _) (FO.dp _) (λhb=>?_) ?_
   ·obtain⟨d,r,ed,hd⟩:=FO.sh rs[i];obtain⟨d',r',ed',hd'⟩:=FO.sh rs[j];rcases hd with ⟨_,n,rfl⟩ | ⟨z,_⟩
    ·rcases hd' with ⟨_,n',rfl⟩ | ⟨z,_⟩
     ·exact#[#[n,r,ed],n',r',ed']
     ·rw[hb]at z;cases z
    ·rw[hb]at z;cases z
   ·rw[FO.eq,<- e3,<- e4];exact hC s' I'
end
def uc(kc:V->Hp->VK->Prop):List V->List V->Hp->(List V->Hp->Prop)->Prop
 | [],rE,H,Q=>Q rE H
 | x::xs,rE,H,Q=>kc x H (λk H'=>uc kc xs (rE ++ [k]) H' Q)
section
variable{X:Cx}{rB:List (nP × ou)}{σ:L2.St}{H:Hp}{s:nR}
theorem JX{α:Type}{F:KeyFam α}(FO:F.Ok){k:Nat}{q:nP}{kc:V->Hp->VK->Prop}(hr:Room (k+2) X.A)
  (hkc:∀(pins':List (nP × ou)) (s:nR) (H:Hp) (x:V) (u:nQ) (Q:VK),Inv X pins' σ H s->RelV x u->kc x H Q->nV (model X.prog X.w) X.A.in1.in1 (call (.ref q) [u]) (EP X pins' σ Q) (λ_ _=>False) s)
  {D kS:nP} {e1:Nat} {its:List nQ} {xs:List V} {E:nQ->nR->Prop} {P:PySem.Fin->nR->Prop} {Q:VK}
  (I:Inv X ((rB ++ [(D,oe "list" #[] e1)]) ++ [(kS,oe "list" #[] 0)]) σ H s)
  (hD:X.s₀.heap.objs.size<=D) (hK:X.s₀.heap.objs.size<=kS) (nD:∀p ∈ X.pn ++ rB,p.1≠D) (nK:∀p ∈ X.pn ++ (rB ++ [(D,oe "list" #[] e1)]),p.1≠kS)
  (rv:Vals xs its) (hz:its.length<64)
  (ht:uc kc xs [] H (XG X.K F xs Q))
  (hP:∀s',EP X rB σ Q (.ref D) s'->P (.done (.ret .none)) s') :
  nV (model X.prog X.w) X.A.in1.in1 (ksk_rest D (.ref q) rA its.toArray e1 (.ref kS)) P E s:=by
 unfold ksk_rest;refine nI (re ?_);rw[List.forIn_toArray]
 refine nI (ksk_fold (λj s'=>∃rE ks e H',Inv X ((rB ++ [(D,oe "list" #[] e1)]) ++ [(kS,oe "list" (aN ks) e)]) σ H' s'/\Vals rE ks/\ks.length=j/\uc kc (xs.drop j) rE H' (XG X.K F xs Q))
  its 0 s #[[],[],0,H,I,.nil,rfl,ht] (λj x s1 hx hJ=>?_) λs1 hJ=>?_)
 ·obtain⟨rE,ks,e,H1,I1,rk,hkl,tk⟩:=hJ;rw[fB]at hkl tk;have hjl:j<its.length:=(rG.mp hx).1;have L3:=rv.length;obtain⟨u,hu,ru⟩:=yx rv (j:=j) (x:=xs[j]) (ae ⋯);rw[hx]at hu;cases hu;rw[aT ⋯]at tk;refine nI (pL (oH (hkc _ _ _ _ _ _ I1 ru tk) (λkv s2 hk=>?_) λ_ _ z=>z.elim));obtain⟨v,H2,I2,rv2,tk2⟩:=hk;have pk:=Inv.at_pin I2;have sb:=Heap.SameBut.update s2.heap kS (Obj.mapSeq (·.push kv));have ea:(aN ks).push kv=aN (ks ++ [kv]):=by simp
  obtain⟨c2,hc2⟩:∃c2,(s2.heap.update kS (Obj.mapSeq (·.push kv))).get? kS=rp (oe "list" (aN (ks ++ [kv])) c2):=#[_,by rw[<- ea];exact get?_update_seq pk (·.push kv)];have I3:=Inv.repin I2 hK nK sb hc2 yz
  (try dsimp only)
  refine nI (listUpdate_at pk rfl ?_ (by rw[ah,oh];lia) (by rw[Array.size_push,ah,oh];lia));refine nJ #[rfl,rE ++ [v],ks ++ [kv],c2,H2,I3,rk.append (.cons rv2 .nil),by rw[am,eR,hkl];lia,?_];rw[fB];exact tk2
 ·obtain⟨rE,ks,e,H1,I1,rk,hkl,tk⟩:=hJ;rw[fB]at hkl tk;have L3:=rv.length;rw[<- L3,ee]at tk;obtain⟨rs,hR,hq⟩:=tk
  (try dsimp only)
  refine nI (listItems_at (Inv.at_pin I1) rfl ?_);refine zdf FO (by have:=hr.in1.in1.un;lia) I1 hD hK nD nK rk rv hkl hz hR λs' ys out c p1 p3 p4 I'=>hP s' ?_;have fp:=Inv.fp_of_pin I' hD nD;refine#[.ref D,_,Inv.track I'.unpinned (a:=D) (o:=.lst (ys.map (·.2))) fp #[?_,out,c,p3,Inv.at_pin I'],rfl,hq ys p1 D fp.1];rw[p3.length,oh];lia
theorem Wg{α:Type}{F:KeyFam α}(FO:F.Ok){k:Nat}{q l:nP}{xs:List V}{kc:V->Hp->VK->Prop}{Q:VK}(hr:Room (k+2) X.A)
  (hkc:∀(pins':List (nP × ou)) (s:nR) (H:Hp) (x:V) (u:nQ) (Q:VK),Inv X pins' σ H s->RelV x u->kc x H Q->nV (model X.prog X.w) X.A.in1.in1 (call (.ref q) [u]) (EP X pins' σ Q) (λ_ _=>False) s)
  (I:Inv X rB σ H s) (hS:SqL X.K H l xs) (hz:xs.length<64) (ht:uc kc xs [] H (XG X.K F xs Q)) :
  nV (model X.prog X.w) X.A (call (.builtin "sorted") [.ref l] [(bS "key",.ref q)]) (EP X rB σ Q) X.xe s:=by
 obtain⟨its,rv,pl,_⟩:=I.list hS;have hlen:=rv.length;refine call_function_entry_kw kind_sorted plain_sorted entry_sorted (ksk_s1 _ _) ?_;unfold Builtin.«sorted»;refine nI (m:=checkCount "sorted" 1 1 _) (nJ ?_);refine nI (collect_list pl.isList ?_ (by rw[oh];lia));refine nI (pc ?_ (by rw[oh];lia));generalize hh1:((s.heap.push (oe "list" #[] 0)).update s⁻¹ (Obj.mapSeq (· ++ its.toArray)))=h1;have sz1:h1.objs.size=s⁻¹+1:=by rw[<- hh1,cG,size_push']
 have kp1:∀b o,s.heap.get? b=rp o->h1.get? b=rp o:=λb o e=>by
  have hlt:b<s⁻¹:=au e;rw[<- hh1,ft _ _ _ _ (ax hlt),Heap.get?_push_ne _ _ _ (ax hlt)];exact e
 have hoL:(h1.push (oe "list" its.toArray 0)).get? h1.objs.size=rp (oe "list" its.toArray 0):=aI _ rfl;show nV _ _ _ _ _ { s with heap:=h1.push (oe "list" its.toArray 0) };refine nI (ot (wpAny_call_entry_kw slot_list_sort #[_,hoL,rfl] entry_list_sort ?body (ksk_l1 _ _)));show nV _ _ (Builtin.«list.sort» #[[.ref h1.objs.size],[(bS "key",.ref q)]]) _ _ _;rw[ksk_t1];generalize hh2:h1.push (oe "list" its.toArray 0)=h2 at hoL;have sz2:h2.objs.size=h1.objs.size+1:=by rw[<- hh2,size_push']
 have kp2:∀b o,s.heap.get? b=rp o->h2.get? b=rp o:=λb o e=>by rw[<- hh2];exact af _ (kp1 b o e)
 generalize hDD:h1.objs.size=D at hoL;obtain⟨e1,ho1⟩:∃e1,(h2.update D (Obj.mapSeq λ_=>(#[]:Array nQ))).get? D=rp (oe "list" #[] e1):=#[_,get?_update_seq hoL λ_=>#[]];have hDs:s⁻¹<=D:=by rw[<- hDD,sz1];exact cq _
 have sb:=Heap.SameBut.update h2 D (Obj.mapSeq λ_=>(#[]:Array nQ));unfold ksk_tree;refine nI (listItems_at hoL rfl ?_);refine nI (listUpdate_at hoL rfl ?_ (by rw[ah,oh];lia) (aB _));refine nI (seqEpoch_at ho1 rfl ?_);refine nI (wpAny_newTuple ?_ (by show its.length<=_;rw[oh];lia));refine nI (pc ?_ (aB _));refine ot ?_;generalize hh3:(h2.update D (Obj.mapSeq λ_=>(#[]:Array nQ))).push (oe "tuple" its.toArray 0)=h3;have sz3:h3.objs.size=s⁻¹+3:=by rw[<- hh3,size_push',cG,sz2,sz1]
 have hoK:(h3.push (oe "list" #[] 0)).get? h3.objs.size=rp (oe "list" #[] 0):=aI _ rfl;have hoD:(h3.push (oe "list" #[] 0)).get? D=rp (oe "list" #[] e1):=af _ (by rw[<- hh3];exact af _ ho1)
 have kp3:∀b o,s.heap.get? b=rp o->(h3.push (oe "list" #[] 0)).get? b=rp o:=λb o e=>by
  have hlt:b<s⁻¹:=au e;refine af _ ?_;rw[<- hh3];exact af _ ((sb.2 b (ax (av hlt hDs))).trans (kp2 b o e))
 have I1:Inv X rB σ H { s with heap:=h3.push (oe "list" #[] 0) }:=I.kept (t':=s.toks) kp3;have fD:xE X rB H D:=I.fpOk ⋯ (I.hok.fresh ⋯);have fK:xE X rB H h3.objs.size:=I.fpOk ⋯ (I.hok.fresh ⋯);have I2:=Inv.newpin I1 fD hoD yz
 have nK:∀p ∈ X.pn ++ (rB ++ [(D,oe "list" #[] e1)]),p.1≠h3.objs.size:=λp hp=>by
  rcases rJ.mp hp with z | z
  ·exact fK.2.2.2.2.2 p (bu _ z)
  ·rcases rJ.mp z with z | z
   ·exact fK.2.2.2.2.2 p (aD _ z)
   ·have e:p=(D,oe "list" #[] e1):=by simpa using z
    subst e;show D≠_;lia
 have I3:=Inv.newpin I2 (b:=h3.objs.size) #[fK.1,fK.2.1,fK.2.2.1,fK.2.2.2.1,fK.2.2.2.2.1,nK] hoK yz;have hsz:=I.sz;have hK0:X.s₀.heap.objs.size<=h3.objs.size:=⋯;exact JX FO hr hkc I3 ⋯ hK0 fD.2.2.2.2.2 nK rv ⋯ ht λs' hE=>#[_,rfl,nJ #[_,rfl,hE]]
end
noncomputable def uI(D:nP)(before:Nat)(st:SortSt):rb PySem.Fin:=do
 let sorted:=(arrOf st).map (·.2)
 let touched:=(<- seqEpoch D) != before
 Builtin.List.listUpdate (.ref D) λ_=>sorted
 if let rp e:=failedOf st then rule "list.sort.comparison-raised";throw e
 if touched then rule "list.sort.modified";raiseError "ValueError" "list modified during sort"
 ret .none
def okF:List D->List D->Prop
 | d::l,e::m=>if eqD d e=rz then okF l m else okD d e
 | _,_=>True
structure KeyFam.OkF{α:Type}(F:KeyFam α):Prop where
 w:WkO F.lt
 eq:∀a b,xo (F.dec a) (F.dec b)=F.lt a b
 ok:∀a b,okF (F.dec a) (F.dec b)
 dp:∀a,wW (F.dec a)<40
 sh:∀a,∃d r,F.dec a=d::r/\((F.fst=rz/\∃n,d=.int n)\/(F.fst=rA/\∃l,d=.tup l))
def zaC(K:nO):List V->Hp->VK->Prop:=λvs H Q=>∃(l:nP) (xs:List V) (α:Type) (F:KeyFam α) (rs:List α),vs=[.ref l]/\SqL K H l xs/\xs.length<64/\F.OkF/\Iss K H (rs.map λa=>.tup (F.dec a)) xs /\
 ∀D,H D=rq->Q (.ref D) (upd H D (.lst ((srt (λp q=>F.lt p.1 q.1) (F.d0,V.non) (rs.zip xs)).map (·.2))))
section
variable{X:Cx}{rB:List (nP × ou)}{σ:L2.St}{H:Hp}{s:nR}
theorem zaX(I:Inv X rB σ H s){A:nX}{b:Bool}{Q:Bool->nR->Prop}(hu:A.units+50<cLine):∀(l m:List D) (xs ys:List V) (its its':List nQ) (i:Nat),Iss X.K H l xs->Iss X.K H m ys->Vals xs its->Vals ys its'->okF l m->wW l<40 ->
  (b=rz->i=0->(∃n r,l=.int n::r)/\∃n r,m=.int n::r)->Q (xo l m) s->PySem.W.KatLex X.prog X.w A b (decide (its.length<its'.length)) Q (its.zip its') i s
 | [],m,xs,ys,its,its',i,h1,h2,r1,r2,ok,hd,hb,q=>by
  erw[Iss]at h1
  subst h1;cases r1
  have e:xo [] m=decide (([]:List nQ).length<its'.length):=by
   have e1:=h2.len;have e2:=r2.length;have e3:m.length=its'.length:=⋯;rw[<- e3]
   cases m with
   | nil=>simp [xo]
   | cons _ _=>simp [xo]
  rw[e]at q;rw[List.zip_nil_left];exact dF q
 | d::l,[],xs,ys,its,its',i,h1,h2,r1,r2,ok,hd,hb,q=>by
  erw[Iss]at h2
  subst h2;cases r2
  erw[xo]at q
  rw[fA];exact dF (by simpa using q)
 | d::l,e::m,xs,ys,its,its',i,h1,h2,r1,r2,ok,hd,hb,q=>by
  erw[Iss]at h1 h2
  obtain⟨x,xr,rfl,hx,hxr⟩:=h1;obtain⟨y,yr,rfl,hy,hyr⟩:=h2
  cases r1 with | cons rx rxr =>
  cases r2 with | cons ry ryr =>
  erw[okF]at ok
  erw[wW]at hd
  rename_i u us v vs;rw[cy];refine fO (ug I 45 A d e x y u v ⋯ ⋯ hx hy rx ry X.prog X.w _ _ ?_)
  cases he:eqD d e with
  | true =>
   refine fX ?_;have:=zaX I (b:=b) hu l m xr yr us vs (i+1) hxr hyr rxr ryr (by rw[if_pos he]at ok;exact ok) ⋯ (λ_ z=>absurd z ⋯) (by simpa only[xo,he,if_true] using q);simpa using this
  | false =>
   refine PySem.W.kat_no ?_;have q':Q (ltD d e) s:=by simpa only[xo,he,aY,if_false] using q
   by_cases hbi:(b && i == 0)=rz
   ·rw[hbi]
    erw[ba,beq_iff_eq]at hbi
    obtain⟨⟨n,r,e1⟩,n',r',e2⟩:=hb hbi.1 hbi.2;cases e1;cases e2
    erw[Is]at hx hy
    subst hx hy;obtain⟨t,rfl⟩:=rx;obtain⟨t',rfl⟩:=ry
    erw[ltD]at q'
    exact oneLt_int q'
   ·rw[show (b && i == 0)=rA by simpa using hbi];exact fY _ _ (Vs I 45 A d e x y u v ⋯ ⋯ (by rw[if_neg (by rw[he];decide)]at ok;exact ok) hx hy rx ry X.prog X.w _ _ q')
theorem Ko(I:Inv X rB σ H s){A:nX}{b:Bool}{Q:Bool->nR->Prop}{E:nQ->nR->Prop}(hu:A.units+50<cLine){l m:List D}{x y:V}{u v:nQ}(hx:Is X.K H (.tup l) x)(hy:Is X.K H (.tup m) y)(rx:RelV x u)(ry:RelV y v)
  (ok:okF l m) (hd:wW l<40) (hb:b=rz->(∃n r,l=.int n::r)/\∃n r,m=.int n::r) (q:Q (xo l m) s):nV (model X.prog X.w) A (keyLt' (tuples' b) u v) Q E s:=by
 erw[Is]at hx hy
 obtain⟨a,xs,rfl,h1,h2⟩:=hx;obtain⟨c,ys,rfl,g1,g2⟩:=hy;cases rx;cases ry;obtain⟨its,r,⟨o,ho,hoc,n,hod⟩,_⟩:=I.tuple h1;obtain⟨its',r',⟨o',ho',hoc',n',hod'⟩,_⟩:=I.tuple g1;refine PySem.W.kat_lt ho hod ho' hod' ?_;have:=zaX I (A:=A) (b:=b) (Q:=Q) hu l m xs ys its its' 0 h2 g2 r r' ok hd (λz _=>hb z) q;simpa using this
theorem Js{α:Type}{F:KeyFam α}(FO:F.OkF)(I:Inv X rB σ H s){M:pN}:∀(rs:List α) (rE:List V) (ks:List nQ),Iss X.K H (rs.map λa=>.tup (F.dec a)) rE->Vals rE ks ->
  ∃fs,PySem.W.KatTups s.heap ks fs/\fs.length=rs.length/\∀v ∈ fs,PySem.W.Looks M s.heap (typeOf v) (.type (if F.fst=rz then "int" else "tuple"))
 | [],rE,ks,h,r=>by
  erw[aw,Iss]at h
  subst h;cases r;exact#[[],PySem.W.KatTups.nil,rfl,λv hv=>by cases hv]
 | a::rs,rE,ks,h,r=>by
  erw[aj,Iss]at h
  obtain⟨x,xr,rfl,hx,hxr⟩:=h
  cases r with | cons rx rxr =>
  rename_i u us;obtain⟨fs,t1,t2,t3⟩:=Js FO I (M:=M) rs xr us hxr rxr
  erw[Is]at hx
  obtain⟨c,xs,rfl,h1,h2⟩:=hx;cases rx;obtain⟨its,ri,⟨o,ho,hoc,n,hod⟩,_⟩:=I.tuple h1;obtain⟨d,dr,ed,hsh⟩:=FO.sh a;rw[ed]at h2
  erw[Iss]at h2
  obtain⟨y,yr,rfl,hy,_⟩:=h2
  cases ri with | cons ry rir =>
  rename_i v vs;refine#[v::fs,PySem.W.KatTups.cons ho hoc hod (by simp) t1,by simp [t2],λz hz=>?_];rcases rH.mp hz with e | hz
  ·subst e;rcases hsh with ⟨hf,n',rfl⟩ | ⟨hf,l,rfl⟩
   ·rw[if_pos hf]
    erw[Is]at hy
    subst hy;obtain⟨t,rfl⟩:=ry;exact PySem.W.Looks.of_pure rfl
   ·rw[if_neg (by rw[hf];decide)]
    erw[Is]at hy
    obtain⟨c',xs',rfl,g1,_⟩:=hy;cases ry;obtain⟨its',ri',⟨o',ho',hoc',n',hod'⟩,_⟩:=I.tuple g1;rw[<- hoc'];exact (PySem.W.Looks.ld ho').andThen .now
  ·exact t3 z hz
theorem Ud{D:nP}{e1:Nat}{st:SortSt}{out:List nQ}{A:nX}{E:nQ->nR->Prop}{P:PySem.Fin->nR->Prop}(I:Inv X (rB ++ [(D,oe "list" #[] e1)]) σ H s)
  (hD:X.s₀.heap.objs.size<=D) (nD:∀p ∈ X.pn ++ rB,p.1≠D)
  (hout:(arrOf st).map (·.2)=aN out) (hoz:out.length<64) (hf:failedOf st=rq) (h:∀s' c,Inv X (rB ++ [(D,oe "list" (aN out) c)]) σ H s'->P (.done (.ret .none)) s') :
  nV (model X.prog X.w) A (uI D e1 st) P E s:=by
 have pd:=Inv.at_pin I;have s2:=Heap.SameBut.update s.heap D (Obj.mapSeq λ_=>aN out);obtain⟨c2,hc2⟩:∃c2,(s.heap.update D (Obj.mapSeq λ_=>aN out)).get? D=rp (oe "list" (aN out) c2):=#[_,get?_update_seq pd λ_=>aN out];have I3:=Inv.repin I hD nD s2 hc2 yz;unfold uI
 (try dsimp only)
 rw[hout];refine nI (seqEpoch_at pd rfl ?_);refine nI (listUpdate_at pd rfl ?_ (aB _) (by rw[ah,oh];lia));rw[hf]
 erw[bne_self_eq_false,aY,if_false]
 exact nJ (h _ c2 I3)
theorem zbZ{α:Type}{F:KeyFam α}(FO:F.OkF){D:nP}{e1:Nat}{its:List nQ}{xs:List V}{rs:List α}{A:nX}{E:nQ->nR->Prop}{P:PySem.Fin->nR->Prop}(hu:A.units+50<cLine)
  (I:Inv X (rB ++ [(D,oe "list" #[] e1)]) σ H s) (hD:X.s₀.heap.objs.size<=D) (nD:∀p ∈ X.pn ++ rB,p.1≠D)
  (rv:Vals xs its) (hz:its.length<64) (hR:Iss X.K H (rs.map λa=>.tup (F.dec a)) xs)
  (h:∀s' (out:List nQ) c,Vals ((srt (λp q=>F.lt p.1 q.1) (F.d0,V.non) (rs.zip xs)).map (·.2)) out->out.length<64->Inv X (rB ++ [(D,oe "list" (aN out) c)]) σ H s'->P (.done (.ret .none)) s') :
  nV (model X.prog X.w) A (do
   let kind <- if its.toArray.size<2 then pure general' else keyKind' its.toArray
   let (Unit.unit,st) <- (if its.toArray.size<2 then pure Unit.unit else sortRuns').run (SortSt.mk' kind (its.toArray.zip its.toArray) #[] 7 rq)
   uI D e1 st) P E s:=by
 have L1:=hR.len;have L3:=rv.length;rw[ac]at L1;have lz:(rs.zip xs).length=its.length:=by rw[List.length_zip];lia
 by_cases h2:its.toArray.size<2
 ·rw[if_pos h2,if_pos h2];refine nI (nJ ?_);dsimp only;rw[StateT.run_pure];refine nI (nJ ?_)
  (try dsimp only)
  refine Ud (out:=its) I hD nD ?_ hz rfl λs' c I'=>h s' its c ?_ hz I'
  ·show ((aN its).zip its.toArray).map (·.2)=_;apply Array.toList_inj.mp;rw[Array.toList_map,ksk_zip];exact dz (by simp)
  ·rw[ah]at h2;unfold srt;rw[if_pos ⋯,dz ⋯];exact rv
 ·rw[if_neg h2,if_neg h2];rw[ah]at h2;obtain⟨fs,t1,t2,t3⟩:=Js FO I (M:=model X.prog X.w) rs xs its hR rv;refine nI (fP t1 ⋯ t3 (by simp) ?_)
  have hfst:((Value.type (if F.fst=rz then "int" else "tuple"):nQ) != Value.type "tuple")=F.fst:=by
   cases hF:F.fst with
   | true=>rfl
   | false=>rfl
  rw[hfst];have W:Wk (λi j=>F.lt (rs.getD i F.d0) (rs.getD j F.d0)):=#[λa b=>FO.w.asym _ _,λa b c=>FO.w.ntr _ _ _];have ok:=jR (n:=its.length) W ⋯
  have lt_eq:(λi j=>F.lt (rs.getD i F.d0) (rs.getD j F.d0))=(λi j=>(λ(p q:α × V)=>F.lt p.1 q.1) ((rs.zip xs).getD i (F.d0,.non)) ((rs.zip xs).getD j (F.d0,.non))):=by
   have one:∀i,((rs.zip xs).getD i (F.d0,V.non)).1=rs.getD i F.d0:=λi=>by
    by_cases hi:i<its.length
    ·have a1:i<rs.length:=⋯;have a2:i<xs.length:=⋯;rw[aa,aa,ae ⋯,ae a1];simp
    ·rw[aa,aa,bP ⋯,bP ⋯];rfl
   funext i j
   erw[one]
  have wp:=Kok.wp (n:=its.length) (cmp:=dH X.prog X.w A (tuples' F.fst) its) (I:=λs'=>Inv X (rB ++ [(D,oe "list" #[] e1)]) σ H s')
   (R:=λp s'=>p=Vf (λi j=>F.lt (rs.getD i F.d0) (rs.getD j F.d0)) (fQ its.length)/\Inv X (rB ++ [(D,oe "list" #[] e1)]) σ H s')
   (λi j C s' hi hj I' hC=>?_) (λp s' hp I'=>#[hp,I']) _ s I (Kok.same _ ok)
  ·have run:=fZ (E:=E) (vs:=its) (ks:=its) (Q:=λst' s'=>∃p:Array Nat,p.size=its.length/\arrOf st'=p.map (fR (its.toArray.zip its.toArray))/\failedOf st'=rq/\_) rfl ⋯ hz (λp' st' s' a1 a2 a3 a4=>#[p',a1,a2,a3,a4]) wp;refine nI (oH run ?_ λ_ _ e=>e);rintro⟨⟨⟩,st'⟩ s' ⟨p,hp,har,hf,hpk,I'⟩
   (try dsimp only)
   have hout:=fS (ks:=its) (vs:=its) rfl har;have hR1:Rg its.length p:=by rw[hpk];exact (Kok.run _ ok).1
   have g1:(p.toList.map λi=>(rs.zip xs).getD i (F.d0,.non))=srt (λp q=>F.lt p.1 q.1) (F.d0,.non) (rs.zip xs):=by
    unfold srt;rw[if_neg ⋯,lz,<- lt_eq,<- hpk]
   have olen:(p.toList.map λi=>its.getD i Value.none).length=its.length:=by rw[ac,cL,hp]
   refine Ud (out:=p.toList.map λi=>its.getD i Value.none) I' hD nD hout ⋯ hf λs2 c I2=>h s2 _ c ?_ ⋯ I2;rw[<- g1,aV]
   have all:∀(js:()),(∀j ∈ js,j<its.length)->Vals (js.map ((λx:α × V=>x.2) ∘ λi=>(rs.zip xs).getD i (F.d0,.non))) (js.map λi=>its.getD i Value.none):=by
    intro js
    induction js with
    | nil=>intro _;exact .nil
    | cons j js ih =>
     intro hj;refine .cons ?_ (ih λi hi=>hj i (ar _ hi));have hjl:=hj j az;have a1:j<xs.length:=⋯;obtain⟨u,hu1,ru⟩:=yx rv (j:=j) (x:=xs[j]) (ae a1)
     have e1:((rs.zip xs).getD j (F.d0,V.non)).2=xs[j]:=by
      rw[aa,ae ⋯];simp
     have e2:its.getD j Value.none=u:=by rw[aa,hu1];rfl
     show RelV ((rs.zip xs).getD j (F.d0,V.non)).2 (its.getD j Value.none);rw[e1,e2];exact ru
   exact all p.toList λj hj=>rM.mp (hR1.mem_iff.mp hj)
  ·have a1:i<rs.length:=⋯;have a2:j<rs.length:=⋯;have gi:(rs.map λa=>_root_.L3.D.tup (F.dec a))[i]? = rp (.tup (F.dec rs[i])):=by rw[ay,ae a1];rfl
   have gj:(rs.map λa=>_root_.L3.D.tup (F.dec a))[j]? = rp (.tup (F.dec rs[j])):=by rw[ay,ae a2];rfl
   obtain⟨x,hx,ix⟩:=hR.at gi;obtain⟨y,hy,iy⟩:=hR.at gj;obtain⟨u,hu1,ru⟩:=yx rv hx;obtain⟨v,hv1,rv1⟩:=yx rv hy;have e1:its.getD i Value.none=u:=by rw[aa,hu1];rfl
   have e2:its.getD j Value.none=v:=by rw[aa,hv1];rfl
   have e3:rs.getD i F.d0=rs[i]:=by rw[aa,ae a1];rfl
   have e4:rs.getD j F.d0=rs[j]:=by rw[aa,ae a2];rfl
   unfold dH;rw[e1,e2];refine Ko I' hu ix iy ru rv1 (FO.ok _ _) (FO.dp _) (λhb=>?_) ?_
   ·obtain⟨d,r,ed,hd⟩:=FO.sh rs[i];obtain⟨d',r',ed',hd'⟩:=FO.sh rs[j];rcases hd with ⟨_,n,rfl⟩ | ⟨z,_⟩
    ·rcases hd' with ⟨_,n',rfl⟩ | ⟨z,_⟩
     ·exact#[#[n,r,ed],n',r',ed']
     ·rw[hb]at z;cases z
    ·rw[hb]at z;cases z
   ·rw[FO.eq,<- e3,<- e4];exact hC s' I'
theorem KC{k:Nat}(hr:Room (k+2) X.A):vz X (.builtin "sorted") (zaC X.K):=by
 intro rB s σ H vs us Q I r1 h;obtain⟨l,xs,α,F,rs,rfl,hS,hz,FO,hR,q⟩:=h;obtain⟨u,rfl,ru⟩:=xP r1;cases ru;obtain⟨its,rv,pl,_⟩:=I.list hS;have hlen:=rv.length;refine Calls.call_function_entry kind_sorted plain_sorted entry_sorted (args_sorted1 _) ?_;unfold Builtin.«sorted»;refine nI (m:=checkCount "sorted" 1 1 _) (nJ ?_);refine nI (collect_list pl.isList ?_ (by rw[oh];lia));refine nI (pc ?_ (by rw[oh];lia));generalize hh1:((s.heap.push (oe "list" #[] 0)).update s⁻¹ (Obj.mapSeq (· ++ its.toArray)))=h1;have sz1:h1.objs.size=s⁻¹+1:=by rw[<- hh1,cG,size_push']
 have kp1:∀b o,s.heap.get? b=rp o->h1.get? b=rp o:=λb o e=>by
  have hlt:b<s⁻¹:=au e;rw[<- hh1,ft _ _ _ _ (ax hlt),Heap.get?_push_ne _ _ _ (ax hlt)];exact e
 have hoL:(h1.push (oe "list" its.toArray 0)).get? h1.objs.size=rp (oe "list" its.toArray 0):=aI _ rfl;show nV _ _ _ _ _ { s with heap:=h1.push (oe "list" its.toArray 0) };refine nI (ot (wpAny_call_entry slot_list_sort #[_,hoL,rfl] entry_list_sort ?body (args_list_sort _)));show nV _ _ (Builtin.«list.sort» #[[.ref h1.objs.size],[]]) _ _ _;rw[list_sort_plain];generalize hh2:h1.push (oe "list" its.toArray 0)=h2 at hoL;have sz2:h2.objs.size=h1.objs.size+1:=by rw[<- hh2,size_push']
 have kp2:∀b o,s.heap.get? b=rp o->h2.get? b=rp o:=λb o e=>by rw[<- hh2];exact af _ (kp1 b o e)
 generalize hDD:h1.objs.size=D at hoL;obtain⟨e1,ho1⟩:∃e1,(h2.update D (Obj.mapSeq λ_=>(#[]:Array nQ))).get? D=rp (oe "list" #[] e1):=#[_,get?_update_seq hoL λ_=>#[]];have hDs:s⁻¹<=D:=by rw[<- hDD,sz1];exact cq _
 have sb:=Heap.SameBut.update h2 D (Obj.mapSeq λ_=>(#[]:Array nQ));refine nI (listItems_at hoL rfl ?_);refine nI (listUpdate_at hoL rfl ?_ (by rw[ah,oh];lia) (aB _));refine nI (seqEpoch_at ho1 rfl ?_);refine nI (wpAny_newTuple ?_ (by show its.length<=_;rw[oh];lia));refine nI (pc ?_ (aB _));refine ot ?_;generalize hh3:(h2.update D (Obj.mapSeq λ_=>(#[]:Array nQ))).push (oe "tuple" its.toArray 0)=h3;have hoD:(h3.push (oe "list" #[] 0)).get? D=rp (oe "list" #[] e1):=af _ (by rw[<- hh3];exact af _ ho1)
 have kp3:∀b o,s.heap.get? b=rp o->(h3.push (oe "list" #[] 0)).get? b=rp o:=λb o e=>by
  have hlt:b<s⁻¹:=au e;refine af _ ?_;rw[<- hh3];exact af _ ((sb.2 b (ax (av hlt hDs))).trans (kp2 b o e))
 have I1:Inv X rB σ H { s with heap:=h3.push (oe "list" #[] 0) }:=I.kept (t':=s.toks) kp3;have fD:xE X rB H D:=I.fpOk ⋯ (I.hok.fresh ⋯);have I2:=Inv.newpin I1 fD hoD yz;have hsz:=I.sz;refine zbZ FO (by have:=hr.in1.in1.un;lia) I2 ⋯ fD.2.2.2.2.2 rv ⋯ hR λs' out c p3 p4 I'=>#[_,rfl,nJ #[_,rfl,?_]];have fp:=Inv.fp_of_pin I' ⋯ fD.2.2.2.2.2;refine#[.ref D,_,Inv.track I'.unpinned (a:=D) (o:=.lst _) fp #[?_,out,c,p3,Inv.at_pin I'],rfl,q D fp.1];rw[p3.length,oh];lia
end
noncomputable def WD(X:Cx)(N:List nW)(s:nR)(H:Hp)(qual:nW)(scope:oB)(f:nP)(cd:nQ)(cl:List (nW × nP)):Cx where
 prog:=X.prog
 w:=X.w
 K:=X.K
 mg:=X.mg
 base:=X.base
 A:=X.A.in1.in1.deeper (eC qual scope s⁻¹ f cd cl)
 N:=N
 s₀:=s
 H₀:=H
 env:=eC qual scope s⁻¹ f cd cl
 outer:=X.stack
 stack:=eC qual scope s⁻¹ f cd cl::X.stack
 ex:=[]
 calm:=rz
 fn:=λ_=>rA
 pn:=[]
 xe:=λ_ _=>False
structure Kq(p y:nW)(scope:oB):Prop where
 kind:scope.kind=.function
 co:scope.isCoroutine=rA
 gen:scope.isGenerator=rA
 nocell:∀z ∈ scope.names,z.2≠.cell
 par:scope.names.lookup p=rp .local
 fre:scope.names.lookup y=rp .free
 one:∀q ∈ scope.names,q.2=.free->q.1=y
 ne:p≠y
section
variable{X:Cx}{rB:List (nP × ou)}{σ:L2.St}{H:Hp}{s:nR}{p y name qual:nW}{scope:oB}{params:oW}{body:nZ}{f c' c:nP}{pm ctv cv:nQ}{k iy:Nat}{vy x:V}{u:nQ}{Q:VK}{t:TE}
theorem zab(S:Kq p y scope)(hd:X.A.in1.in1.handled=rq)(I:Inv X rB σ H s)(hy:X.N[iy]? = rp y)(hσ:σ[iy]? = rp (rp vy))(hvis:X.env.scope.names.lookup y=rp .cell)(hc:X.env.cells.lookup y=rp c)(rx:RelV x u){h₁:oa}{tk:Nat}
  (hns:h₁.Ns s⁻¹ (λz=>[(p,u)].reverse.lookup z)) (hk₁:∀b o,s.heap.get? b=rp o->h₁.get? b=rp o) :
  Inv (WD X [p,y] s H qual scope f cv [(y,c)]) [] [rp x,rp vy] H { s with heap:=h₁,toks:=tk }:=by
 obtain⟨m,hn,hl⟩:=I.loc;obtain⟨uy,ry,lk⟩:=hl iy y vy hy hσ (.inr (.inl hvis))
 have hcell:s.heap.IsCell c (rp uy):=by
  rcases lk with ⟨z,_⟩ | ⟨_,c2,e2,z⟩
  ·have z':X.env.scope.names.lookup y=rp .local:=z;rw[hvis]at z';cases z'
  ·rw[hc]at e2;cases e2;exact z
 have hcell':h₁.IsCell c (rp uy):=by
  obtain⟨o,e,d⟩:=hcell;exact#[o,hk₁ _ _ e,d]
 have e0:=I.env0;have noA:∀b:nP,b ∉ (WD X [p,y] s H qual scope f cv [(y,c)]).ex:=λb z=>absurd (show b ∈ ([]:List nP)from z) (by simp)
 have lkc:∀z d,bj z [(y,c)]=rp d->z=y/\d=c:=λz d h=>by
  rw[aW]at h;by_cases hz:(z == y)=rz
  ·rw[hz]at h;cases h;exact#[by simpa using hz,rfl]
  ·rw[show (z == y)=rA by simpa using hz]at h;cases h
 have lky:bj y [(y,c)]=rp c:=by rw[aW];simp
 refine#[#[e0.mod,S.kind,rfl,rfl,ao _,λz z' d h1 h2=>?_,λz hz=>?_,λz d h _=>?_,λ_=>hd,Around.frames_deeper e0.frames,.inr #[rfl,rfl],λb z=>absurd z (noA b),e0.bs,e0.bsz,λb _ _=>noA b,λb z=>absurd z (noA b),e0.funs,e0.frf],
  rfl,e0.bare,Un.kept hk₁,#[_,hns,λi z v h1 h2 h3=>?_],λz d h=>?_,e0.hok.fresh (ao _),λz d h=>?_,λq hq=>absurd (show q ∈ ([]:List (nP × ou))from hq) (by simp),e0.hok.kept hk₁,rfl]
 ·rw[(lkc _ _ h1).1,(lkc _ _ h2).1]
 ·have hz':scope.names.lookup z=rp .cell\/scope.names.lookup z=rp .free:=hz;rcases hz' with hz' | hz'
  ·exact absurd rfl (S.nocell _ (bK hz'))
  ·rw[show z=y from S.one _ (bK hz') rfl];exact#[c,lky]
 ·exact absurd (show (rA:Bool)=rz from h) ∅
 ·match i,h1,h2 with
  | 0,h1,h2 =>
   cases h1;cases h2;refine#[u,rx,.inl #[S.par,?_]];show bj p [(p,u)].reverse=rp u;simp [bj]
  | 1,h1,h2 =>
   cases h1;cases h2;exact#[uy,ry,.inr #[.inr S.fre,c,lky,hcell']]
  | i+2,h1,h2=>simp at h2
 ·obtain⟨_,rfl⟩:=lkc z d h;exact#[_,hcell']
 ·obtain⟨_,rfl⟩:=lkc z d h;exact I.freeC y _ hc
theorem UF(S:Kq p y scope)(hr:Room (k+3) X.A)(hbind:bindArgs (bQ name qual params body scope [(y,c)] pm cv ctv) #[[u],[]]=pure [(p,u)])(I:Inv X rB σ H s)
  (ho:s.heap.get? f=rp { cls:=.type "function",data:=.func (bQ name qual params body scope [(y,c)] pm cv ctv) }) (hcd:s.heap.CodeRec cv qual) (hy:X.N[iy]? = rp y) (hσ:σ[iy]? = rp (rp vy)) (hvis:X.env.scope.names.lookup y=rp .cell) (hc:X.env.cells.lookup y=rp c)
  (rx:RelV x u) (hb:PE (WD X [p,y] s H qual scope f cv [(y,c)]) body t) (h:t [rp x,rp vy] H Q) :
  nV (model X.prog X.w) X.A.in1.in1 (call (.ref f) [u]) (EP X rB σ Q) (λ_ _=>False) s:=by
 have hr2:Room (k+1) X.A.in1.in1:=hr.in1.in1;refine oO (PySem.W.kla_callFunE hr2.depth ho rfl S.co S.gen rfl hcd ?_);rw[hbind];refine nJ (pE S.nocell (λz hz=>?_) (λh₁ hns hsb=>?_) S.kind)
 ·have e:z=(p,u):=by simpa using hz
  subst e;exact S.par
 have hk₁:∀b o,s.heap.get? b=rp o->h₁.get? b=rp o:=λb o e=>hsb.extBut b o (ax (au e)) (af _ e);refine#[I.nolimit.keeps hk₁,?_];have I1:=zab (qual:=qual) (f:=f) (cv:=cv) (tk:=s.toks+1) S hr2.hd I hy hσ hvis hc rx hns hk₁;show oR _ _ (.expr body (eC qual scope s⁻¹ f cv [(y,c)])) _ _;refine PySem.W.kla_codeExpr (oH (hb [] _ _ H Q I1 h) (λv s' hv=>?_) λ_ _ z=>False.elim z);obtain⟨w',H',J,rw',q⟩:=hv;exact I.after #[w',H',J.os,J.bare,J.base,J.hok,rw',q]
end
noncomputable def cdE(c':nP)(q:nW):HO:=.ext λh=>h.CodeRec (.ref c') q
noncomputable def fnE(f:nP)(o:ou):HO:=.ext λh=>h.get? f=rp o
def TabOk(H:Hp)(P:nP)(pos:oJ)(q:nW):Prop :=
 ∃ps:Array nQ,H P=rp (.tbl ps)/\rh ps.toList/\(codeAmong pos ps.toList=rq\/∃c',codeAmong pos ps.toList=rp (.ref c')/\H c'=rp (cdE c' q))
def SamT(P:nP)(H H':Hp):Prop:=∀b o,b≠P->H b=rp o->H' b=rp o
def LamAt(H:Hp)(f:nP)(name qual:nW)(params:oW)(body:nZ)(scope:oB)(cl:List (nW × nP)):Prop :=
 ∃(c':nP) (pm ctv:nQ),H c'=rp (cdE c' qual)/\H f=rp (fnE f { cls:=.type "function",data:=.func (bQ name qual params body scope cl pm (.ref c') ctv) })
theorem zaw{P:nU}{w:nY}{H:Hp}{h:oa}{c':nP}{q:nW}(x:h.CodeRec (.ref c') q):ObjOk P w H h c' (cdE c' q):=by
 refine#[x,?_,λh1 h2 a k=>?_]
 ·obtain⟨c,o,vs,t,e,g,_⟩:=x;cases e;exact#[o,g]
 ·obtain⟨c,o,vs,t,e,g,r⟩:=a;cases e;exact#[_,o,vs,t,rfl,k o g,r]
theorem QW{P:nU}{w:nY}{H:Hp}{h:oa}{f:nP}{o:ou}(x:h.get? f=rp o):ObjOk P w H h f (fnE f o) :=
 #[x,#[o,x],λh1 h2 a k=>k o a]
section
variable{X:Cx}{rB:List (nP × ou)}{σ:L2.St}{H:Hp}{s:nR}
theorem Inv.grow{P c' f:nP}{ps more:Array nQ}{o:ou}{q:nW}{h':oa}{tk:Nat}(I:Inv X rB σ H s)(hP:H P=rp (.tbl ps))(hk:∀b u,b≠P->s.heap.get? b=rp u->h'.get? b=rp u)(hP':h'.get? P=rp { cls:=.none,data:=.fields (ps ++ more) })
  (hc:s⁻¹<=c') (hf:s⁻¹<=f) (hcf:c'≠f) (hcr:h'.CodeRec (.ref c') q) (hfo:h'.get? f=rp o) :
  Inv X rB σ (upd (upd (upd H P (.tbl (ps ++ more))) c' (cdE c' q)) f (fnE f o)) { s with heap:=h',toks:=tk }:=by
 have Pl:P<s⁻¹:=I.hok.lt hP;have hPc:P≠c':=ax (av Pl hc);have hPf:P≠f:=ax (av Pl hf)
 have old:∀b,b<s⁻¹->b≠P->(upd (upd (upd H P (.tbl (ps ++ more))) c' (cdE c' q)) f (fnE f o)) b=H b:=λb hb hbP=>by
  rw[zp (ax (av hb hf)),zp (ax (av hb hc)),zp hbP]
 have atP:(upd (upd (upd H P (.tbl (ps ++ more))) c' (cdE c' q)) f (fnE f o)) P=rp (.tbl (ps ++ more)):=by
  rw[zp hPf,zp hPc,zc]
 have neP:∀b,H b=rq->b≠P:=λb e z=>by rw[z,hP]at e;cases e
 refine I.un #[λb u e n _ _=>hk b u (neP b n) e,λb u e n _ _=>#[u.slots,hk b u (neP b n) e],λb u e n _=>?_,λb u e _=>?_,λb xs e=>?_,λb ob u e=>?_,λb qs e=>?_] λb u e=>?_
 ·rw[old b (au e) (neP b n)];exact n
 ·by_cases hb:b=P
  ·subst hb;exact#[_,hP']
  ·exact#[u,hk b u hb e]
 ·rw[old b (I.hok.lt e) (λz=>by rw[z,hP]at e;cases e)];exact e
 ·rw[old b (I.hok.lt e) (λz=>by rw[z,hP]at e;cases e)];exact e
 ·by_cases hb:b=P
  ·subst hb;rw[hP]at e;cases e;exact#[more,atP]
  ·rw[old b (I.hok.lt e) hb];exact#[#[],by rw[e];simp]
 ·by_cases hbf:b=f
  ·subst hbf;rw[zc]at e;cases e;exact QW hfo
  ·rw[zp hbf]at e;by_cases hbc:b=c'
   ·subst hbc;rw[zc]at e;cases e;exact zaw hcr
   ·rw[zp hbc]at e;by_cases hbP:b=P
    ·subst hbP;rw[zc]at e;cases e;exact hP'
    ·rw[zp hbP]at e;refine (I.hok b u e).stay (λd v hd g=>hk d v ?_ g) (λd g=>?_) λd xs g=>?_
     ·rcases hd with z | z
      ·rw[z];exact hbP
      ·intro z';rw[z',hP]at z;cases z
     ·rw[old d (I.hok.lt g) (λz=>by rw[z,hP]at g;cases g)];exact g
     ·rw[old d (I.hok.lt g) (λz=>by rw[z,hP]at g;cases g)];exact g
end
theorem ui{a b:Int}{v:nQ}:∀(l:List nQ),rh l->rh (l ++ [rawInt a,rawInt b,v])
 | [],_=>trivial
 | .int _ _::.int _ _::_::rest,h=>ui rest h
theorem kF{h h':oa}{mg:nW->Option nQ}{T:nP}(x:h.BuiltinsAt mg T)(k:∀b o,h.get? b=rp o->h'.get? b=rp o):h'.BuiltinsAt mg T:=by
 obtain⟨bm,o,b1,b2,b3,b4,b5,b6⟩:=x;exact#[bm,o,b1,b2,b3,b4,k _ _ b5,b6]
section
variable{X:Cx}{rB:List (nP × ou)}{σ:L2.St}{H:Hp}{s:nR}{cc P c:nP}{y:nW}{params:oW}{body:nZ}{scope:oB}{pos:oJ}{Q:VK}
theorem UA(hcode:X.env.code=.ref cc)(hC:PySem.W.CodeHd X.base cc P)(hB:X.base.BuiltinsAt X.mg P)(hgP:nL≠P)(hcl:closureFor scope X.env=pure [(y,c)])(hdef:defaultsOf params X.env=([],[]))(I:Inv X rB σ H s)
  (hT:TabOk H P pos (X.env.qual ++ "<lambda>"))
  (h:∀f H',H f=rq->LamAt H' f "<lambda>" (X.env.qual ++ "<lambda>") params body scope [(y,c)]->TabOk H' P pos (X.env.qual ++ "<lambda>")->SamT P H H'->Q (.ref f) H') :
  nV (model X.prog X.w) X.A (eval (.Lambda params body scope pos) X.env) (EP X rB σ Q) X.xe s:=by
 refine PySem.W.kla_eval hdef ?_;obtain⟨ps,hP,ht,hh⟩:=hT;have hPo:s.heap.get? P=rp (PySem.W.tabObj ps):=I.hok _ _ hP;have hg:=I.mod.glob.keeps I.bk;have Pl:P<s⁻¹:=I.hok.lt hP;rcases hh with hn | ⟨c',hit,hc'⟩
 ·refine PySem.W.kla_makeFunction (mg:=X.mg) hcl I.ok.glob hg hcode (hC.keeps I.bk) hPo ht hn hgP (kF hB I.bk) λc' ctv h' tk hx hge hlt hrec htb=>?_;have hsz:s⁻¹<=h'.objs.size:=da (bY hge hlt)
  have I1:=Inv.grow (P:=P) (c':=c') (f:=h'.objs.size) (more:=(List.toArray [rawInt pos.line,rawInt pos.col,.ref c'])) (tk:=tk) (o:={ cls:=.type "function",data:=.func (bQ "<lambda>" (X.env.qual ++ "<lambda>") params body scope [(y,c)] ((X.mg "__name__").getD .none) (.ref c') ctv) }) I hP
   (λb u hb e=>af _ (hx b u hb e)) (af _ htb) hge hsz (ax hlt) (hrec.push _) (aI _ rfl)
  have hPc:P≠c':=ax (av Pl hge);have hPf:P≠h'.objs.size:=ax (av Pl hsz)
  have atc:(upd (upd (upd H P (.tbl (ps ++ (List.toArray [rawInt pos.line,rawInt pos.col,.ref c'])))) c' (cdE c' (X.env.qual ++ "<lambda>"))) h'.objs.size (fnE h'.objs.size { cls:=.type "function",data:=.func (bQ "<lambda>" (X.env.qual ++ "<lambda>") params body scope [(y,c)] ((X.mg "__name__").getD .none) (.ref c') ctv) })) c'=rp (cdE c' (X.env.qual ++ "<lambda>")):=by
   rw[zp (ax hlt),zc]
  refine#[.ref h'.objs.size,_,I1,rfl,h _ _ (I.hok.fresh hsz) #[c',_,ctv,atc,zc] #[ps ++ (List.toArray [rawInt pos.line,rawInt pos.col,.ref c']),?_,?_,.inr #[c',?_,atc]] λb o hb e=>?_]
  ·rw[zp hPf,zp hPc,zc]
  ·rw[fu];exact ui _ ht
  ·rw[fu];exact codeAmong_snoc _ ht hn
  ·have hl:=I.hok.lt e;rw[zp (ax (av hl hsz)),zp (ax (av hl hge)),zp hb];exact e
 ·refine PySem.W.kla_makeFunctionHit (mg:=X.mg) hcl I.ok.glob hg hcode (hC.keeps I.bk) hPo ht hit (kF hB I.bk) λctv h' tk hk hsz=>?_;have hfr:H h'.objs.size=rq:=I.hok.fresh hsz
  have I1:=I.laid (a:=h'.objs.size) (t':=tk) (h':=h'.push { cls:=.type "function",data:=.func (bQ "<lambda>" (X.env.qual ++ "<lambda>") params body scope [(y,c)] ((X.mg "__name__").getD .none) (.ref c') ctv) })
   (o:=fnE h'.objs.size { cls:=.type "function",data:=.func (bQ "<lambda>" (X.env.qual ++ "<lambda>") params body scope [(y,c)] ((X.mg "__name__").getD .none) (.ref c') ctv) })
   (λb u e=>af _ (hk b u e)) hsz (QW (aI _ rfl))
  have sm:=zd (o:=fnE h'.objs.size { cls:=.type "function",data:=.func (bQ "<lambda>" (X.env.qual ++ "<lambda>") params body scope [(y,c)] ((X.mg "__name__").getD .none) (.ref c') ctv) }) hfr;exact#[.ref h'.objs.size,_,I1,rfl,h _ _ hfr #[c',_,ctv,sm _ _ hc',zc] #[ps,sm _ _ hP,ht,.inr #[c',hit,sm _ _ hc']] λb o _ e=>sm _ _ e]
end
def zcj(R:V->Hp->Prop):List V->Hp->Prop
 | [v],H=>R v H
 | _,_=>False
theorem Wh{R:V->Hp->Prop}:∀{vs:List V} {H:Hp},zcj R vs H->∃v,vs=[v]/\R v H
 | [v],_,h=>#[v,rfl,h]
def zdN(P:nP)(pos:oJ)(q:nW)(LA:Hp->nP->Prop):TE:=λσ H Q=>TabOk H P pos q/\∀f H',H f=rq->LA H' f->TabOk H' P pos q->SamT P H H'->Q (.ref f) H'
def Ju{α:Type}(K:nO)(F:KeyFam α)(P:nP)(pos:oJ)(q:nW)(LA:Hp->nP->Prop)(iy:Nat)(te tb:TE):TE:=λσ H Q=>te σ H λv H1=>TabOk H1 P pos q /\
 ∀f H2,H1 f=rq->LA H2 f->TabOk H2 P pos q->SamT P H1 H2->∃l xs vy,v=.ref l/\SqL K H2 l xs/\xs.length<64/\σ[iy]? = rp (rp vy)/\uc (λx H Q=>LA H f/\tb [rp x,rp vy] H Q) xs [] H2 (XG K F xs Q)
section
variable{X:Cx}{cc P c:nP}{x p y:nW}{params:oW}{body e:nZ}{scope:oB}{lpos kpos pos pp:oJ}{k iy:Nat}{te tb:TE}
theorem zaG(hcode:X.env.code=.ref cc)(hC:PySem.W.CodeHd X.base cc P)(hB:X.base.BuiltinsAt X.mg P)(hgP:nL≠P)(hcl:closureFor scope X.env=pure [(y,c)])(hdef:defaultsOf params X.env=([],[])) :
  PE X (.Lambda params body scope lpos) (zdN P lpos (X.env.qual ++ "<lambda>") λH f=>LamAt H f "<lambda>" (X.env.qual ++ "<lambda>") params body scope [(y,c)]):=by
 intro rB s σ H Q I h;exact UA hcode hC hB hgP hcl hdef I h.1 h.2
theorem Uy{α:Type}{F:KeyFam α}(FO:F.Ok)(S:Kq p y scope)(hr:Room (k+3) X.A)(hg:Gl X x)(hm:X.mg x=rq)(hv:ow x=rp (.builtin "sorted"))(ha:PA X [e] (zK te xI))
  (hcode:X.env.code=.ref cc) (hC:PySem.W.CodeHd X.base cc P) (hB:X.base.BuiltinsAt X.mg P) (hgP:nL≠P) (hcl:closureFor scope X.env=pure [(y,c)]) (hdef:defaultsOf params X.env=([],[]))
  (hbind:∀(cv pm ctv u:nQ),bindArgs (bQ "<lambda>" (X.env.qual ++ "<lambda>") params body scope [(y,c)] pm cv ctv) #[[u],[]]=pure [(p,u)]) (hy:X.N[iy]? = rp y) (hvis:X.env.scope.names.lookup y=rp .cell) (hc:X.env.cells.lookup y=rp c)
  (hb:∀(s:nR) (H:Hp) (f:nP) (cv:nQ),Room k (WD X [p,y] s H (X.env.qual ++ "<lambda>") scope f cv [(y,c)]).A->PE (WD X [p,y] s H (X.env.qual ++ "<lambda>") scope f cv [(y,c)]) body tb)
  (hn:x≠"__name__":=by decide) (hdb:(x ==("__debug__" : nW))=rA:=by decide)
  (hks:(oy pos (ol [#[rp "key",.Lambda params body scope lpos,kpos]] X.env)).filterMap (·.1)=[bS "key"]:=by rfl)
  (hst:om pos (nM [e] X.env)=(rA,eval e X.env)::om pos (nM [] X.env):=by rfl) (hpl:(om pos (nM [e] X.env)).any (·.1)=rA:=by rfl)
  (hall:(oy pos (ol [#[rp "key",.Lambda params body scope lpos,kpos]] X.env)).all (·.1.isSome)=rz:=by rfl) (hkw:(oy pos (ol [#[rp "key",.Lambda params body scope lpos,kpos]] X.env)).any (·.1.isNone)=rA:=by rfl) :
  PE X (.Call (.Name x pp) [e] [#[rp "key",.Lambda params body scope lpos,kpos]] pos) (Ju X.K F P lpos (X.env.qual ++ "<lambda>") (λH f=>LamAt H f "<lambda>" (X.env.qual ++ "<lambda>") params body scope [(y,c)]) iy te tb):=by
 intro rB s σ H Q I h;have hlam:PE X (.Lambda params body scope lpos) (zdN P lpos (X.env.qual ++ "<lambda>") λH f=>LamAt H f "<lambda>" (X.env.qual ++ "<lambda>") params body scope [(y,c)]):=zaG hcode hC hB hgP hcl hdef;refine oq (vx I hg hm hv ?_ hn hdb)
 have h':(zK te xI) σ H (zcj λv H1=>TabOk H1 P lpos (X.env.qual ++ "<lambda>")/\∀f H2,H1 f=rq->LamAt H2 f "<lambda>" (X.env.qual ++ "<lambda>") params body scope [(y,c)]->TabOk H2 P lpos (X.env.qual ++ "<lambda>")->SamT P H1 H2 ->
   ∃l xs vy,v=.ref l/\SqL X.K H2 l xs/\xs.length<64/\σ[iy]? = rp (rp vy)/\uc (λx H Q=>LamAt H f "<lambda>" (X.env.qual ++ "<lambda>") params body scope [(y,c)]/\tb [rp x,rp vy] H Q) xs [] H2 (XG X.K F xs Q)):=h
 refine callWith_kw (thn (ha pos rB s σ H _ I h') λus s1 ⟨vs,H1,I1,r1,q1⟩=>?_) hst hpl hall hkw;obtain⟨v,rfl,hT,q1⟩:=Wh q1;obtain⟨u,rfl,ru⟩:=xP r1
 refine thn ((Wa hlam Ja:PK X [#[rp "key",.Lambda params body scope lpos,kpos]] _) pos rB s1 σ H1 (zcj λkv H2=>∃f,kv=.ref f/\LamAt H2 f "<lambda>" (X.env.qual ++ "<lambda>") params body scope [(y,c)] /\
   ∃l xs vy,v=.ref l/\SqL X.K H2 l xs/\xs.length<64/\σ[iy]? = rp (rp vy)/\uc (λx H Q=>LamAt H f "<lambda>" (X.env.qual ++ "<lambda>") params body scope [(y,c)]/\tb [rp x,rp vy] H Q) xs [] H2 (XG X.K F xs Q)) I1 #[hT,λf H2 a1 a2 a3 a4=>#[f,rfl,a2,q1 f H2 a1 a2 a3 a4]]) λws s2 ⟨zs,H2,I2,r2,q2⟩=>?_
 obtain⟨kv,rfl,f,rfl,hLA,l,xs,vy,rfl,hS,hz,hσ,hk⟩:=Wh q2;obtain⟨w',rfl,rw'⟩:=xP r2;cases rw';cases ru;rw[hks];show nV _ _ (call (.builtin "sorted") [.ref l] [(bS "key",.ref f)]) _ _ _;refine Wg FO (k:=k+1) hr (λpins' s3 H3 x3 u3 Q3 I3 r3 h3=>?_) I2 hS hz hk;obtain⟨⟨c',pm,ctv,e1,e2⟩,h4⟩:=h3;have hcd:s3.heap.CodeRec (.ref c') (X.env.qual ++ "<lambda>"):=(I3.hok _ _ e1).1;have ho:=(I3.hok _ _ e2).1;exact UF (k:=k) S hr (hbind _ _ _ _) I3 ho hcd hy hσ hvis hc r3 (hb s3 H3 f (.ref c') (hr.in1.in1.deeper _)) h4
end
section
variable{K:nO}
theorem SamT.of{T:nP}{H H':Hp}(s:Same H H'):SamT T H H':=λb o _ e=>s b o e
theorem SamT.trans{T:nP}{H H' H'':Hp}(s:SamT T H H')(s':SamT T H' H''):SamT T H H'':=λb o n e=>s' b o n (s b o n e)
theorem SamT.at{T b:nP}{H H':Hp}{ps:Array nQ}{o:HO}(s:SamT T H H')(hT:H T=rp (.tbl ps))(e:H b=rp o)(ho:∀qs,o≠.tbl qs):H' b=rp o:=s b o (λz=>by rw[z,hT]at e;cases e;exact ho _ rfl) e
theorem SamT.free{T b:nP}{H H':Hp}{o:HO}(s:SamT T H H')(hT:H' T=rp o)(h:H' b=rq):H b=rq:=by
 cases e:H b with
 | none=>rfl
 | some u =>
  by_cases hb:b=T
  ·rw[hb,hT]at h;cases h
  ·rw[s b u hb e]at h;cases h
theorem SamT.seqL{T a:nP}{H H':Hp}{ps:Array nQ}{xs:List V}(s:SamT T H H')(hT:H T=rp (.tbl ps))(h:SqL K H a xs):SqL K H' a xs:=by
 rcases h with (h | ⟨o,h⟩) | h
 ·exact .inl (.inl (s.at hT h λ_ z=>by cases z))
 ·exact .inl (.inr #[o,s.at hT h λ_ z=>by cases z])
 ·exact .inr h
theorem SamT.seqT{T a:nP}{H H':Hp}{ps:Array nQ}{xs:List V}(s:SamT T H H')(hT:H T=rp (.tbl ps))(h:SqT K H a xs):SqT K H' a xs:=by
 rcases h with (h | ⟨o,h⟩) | h
 ·exact .inl (.inl (s.at hT h λ_ z=>by cases z))
 ·exact .inl (.inr #[o,s.at hT h λ_ z=>by cases z])
 ·exact .inr h
mutual
theorem Is.samT{T:nP}{H H':Hp}{ps:Array nQ}(s:SamT T H H')(hT:H T=rp (.tbl ps)):∀(d:D) (v:V),Is K H d v->Is K H' d v
 | .non,v,h=>by erw[Is]at h ⊢;exact h
 | .bl b,v,h=>by erw[Is]at h ⊢;exact h
 | .int b,v,h=>by erw[Is]at h ⊢;exact h
 | .str b,v,h=>by erw[Is]at h ⊢;exact h
 | .lst l,v,h=>by
  erw[Is]at h ⊢
  obtain⟨a,xs,e1,e2,e3⟩:=h;exact#[a,xs,e1,s.seqL hT e2,Iss.samT s hT l xs e3]
 | .tup l,v,h=>by
  erw[Is]at h ⊢
  obtain⟨a,xs,e1,e2,e3⟩:=h;exact#[a,xs,e1,s.seqT hT e2,Iss.samT s hT l xs e3]
theorem Iss.samT{T:nP}{H H':Hp}{ps:Array nQ}(s:SamT T H H')(hT:H T=rp (.tbl ps)):∀(l:List D) (vs:List V),Iss K H l vs->Iss K H' l vs
 | [],vs,h=>by erw[Iss]at h ⊢;exact h
 | d::l,vs,h=>by
  erw[Iss]at h ⊢
  obtain⟨v,r,e1,e2,e3⟩:=h;exact#[v,r,e1,Is.samT s hT d v e2,Iss.samT s hT l r e3]
end
theorem LsA.samT{T a:nP}{H H':Hp}{ps:Array nQ}{ds:List D}(h:LsA K H a ds)(s:SamT T H H')(hT:H T=rp (.tbl ps)):LsA K H' a ds:=by
 obtain⟨xs,h1,h2⟩:=h;exact#[xs,s.at hT h1 (λ_ z=>by cases z),Iss.samT s hT _ _ h2]
theorem TabOk.same{H H':Hp}{T:nP}{pos:oJ}{q:nW}(h:TabOk H T pos q)(s:Same H H'):TabOk H' T pos q:=by
 obtain⟨ps,h1,h2,h3⟩:=h;refine#[ps,s _ _ h1,h2,?_];rcases h3 with h3 | ⟨c',h4,h5⟩
 ·exact .inl h3
 ·exact .inr #[c',h4,s _ _ h5]
theorem LamAt.same{H H':Hp}{f:nP}{name qual:nW}{params:oW}{body:nZ}{scope:oB}{cl:List (nW × nP)}(h:LamAt H f name qual params body scope cl)(s:Same H H'):LamAt H' f name qual params body scope cl:=by
 obtain⟨c',pm,ctv,h1,h2⟩:=h;exact#[c',pm,ctv,s _ _ h1,s _ _ h2]
end
section
variable{P:nU}{w:nY}{K:nO}{mg mb:nW->Option nQ}{CX:CXT}{k:Nat}{fa a T cc:nP}{fd:nS}{x:nW}{sp:Sp}{s₁:nR}{vs:List nQ}{ns:List Int}{ps:Array nQ}
theorem Zq(KX:K.In s₁.heap)(hKT:K.lookup T=rq)(hT:s₁.heap.get? T=rp { cls:=.none,data:=.fields ps })(hTc:ra s₁.heap T)(hns:s₁.heap.Ns nL mg)(hb:s₁.heap.Ns builtinsNs mb)(hbb:∀x:nW,x≠"__name__"->mb x=ow x)(hlim:s₁.heap.NoLimit)(hg:s₁.gens=#[])
  (ha:s₁.heap.get? a=rp { cls:=.type "list",data:=.seq vs.toArray }) (hr:Room k callerA)
  (hbm:s₁.heap.BuiltinsAt mg T) (hcd:PySem.W.CodeHd s₁.heap cc T) (F:∀base:oa,K.In base->base.Ns nL mg->base.BuiltinsAt mg T->PySem.W.CodeHd base cc T->FnOk P w K mg base CX k fa fd [x] sp) (hbind:∀(s:nR) (u:nQ),pK s fd #[[u],[]] [(x,u)])
  (hCX:∀H e s',CX [] H s₁ (λ_ _ _=>False) e s'->False) (H:Hp) (h1:H T=rp (.tbl ps)) (h2:∀b u,H b=rp u->b=T\/(b=a/\K.lookup a=rq/\u=.frz { cls:=.type "list",data:=.seq vs.toArray } (.lst (ns.map V.int))))
  (hok:HOk P w H s₁.heap) (hsp:sp [.ref a] H (λv _=>v=.bl rz) λ_ _ _=>False) :
  oR (model P w) callerA (.call (.ref fa) #[[.ref a],[]]) (λr s'=>r=.ok (.ret (.bool rz))/\OldK s₁.heap s'.heap/\s'.os=s₁.os/\pf s'.gens) s₁:=by
 have stay:∀b o,s₁.heap.get? b=rp o->(b≠T)->(b≠a)->(W4 s₁.heap H).get? b=rp o:=λb o e n1 n2=>Yo e (by
  cases q:H b with
  | none=>rfl
  | some u =>
   rcases h2 b u q with z | z
   ·exact absurd z n1
   ·exact absurd z.1 n2)
 have nsStay:∀(b:nP) (m:nW->Option nQ),s₁.heap.Ns b m->(W4 s₁.heap H).Ns b m:=λb m hN=>by
  obtain⟨o,es,ep,e,d,rest⟩:=hN;refine#[o,es,ep,stay b o e (λz=>?_) (λz=>?_),d,rest]
  ·rw[z,hT]at e;cases e;cases d
  ·rw[z,ha]at e;cases e;cases d
 have kStay:K.In (W4 s₁.heap H):=λb o e=>by
  have g:=KX b o e;refine Yo g ?_
  cases q:H b with
  | none=>rfl
  | some u =>
   rcases h2 b u q with z | z
   ·rw[z,hKT]at e;cases e
   ·rw[z.1,z.2.1]at e;cases e
 have bStay:(W4 s₁.heap H).BuiltinsAt mg T:=by
  obtain⟨bm,o,b1,b2,b3,b4,b5,b6,b7,b8⟩:=hbm;refine#[bm,o,b1,b2,b3,b4,stay bm o b5 b4 (λz=>?_),b6,b7,b8];rw[z,ha]at b5;cases b5;simp at b6
 have cStay:PySem.W.CodeHd (W4 s₁.heap H) cc T:=by
  obtain⟨o,vs',file,tf,flags,tg,inF,text,tt,c1,c2,c3,c4,c5,c6,c7,c8,c9,c10⟩:=hcd;refine#[o,vs',file,tf,flags,tg,inF,text,tt,stay cc o c1 c10 (λz=>?_),c2,c3,c4,c5,c6,c7,c8,c9,c10];rw[z,ha]at c1;cases c1;simp at c2
 obtain⟨mc,l1,l2⟩:=hlim;have M0:Mod K mg (W4 s₁.heap H):={ kin:=kStay,glob:=nsStay _ _ hns,blt:=#[mb,nsStay _ _ hb,hbb],nolimit:=#[mc,nsStay _ _ l1,l2] };have E0:Env0 P w K mg (W4 s₁.heap H) callerA [] s₁ H:={ frames:=rfl,mod:=M0,bs:=λb o e=>KS e,bsz:=Nat.le_of_eq (Wu _ _),funs:=trivial,frf:=λb z=>(nomatch (show b ∈ ([]:List nP)from z)),hok:=hok,bare:=.of_eq hg };refine oQ ((F _ kStay (nsStay _ _ hns) bStay cStay).run callerA [] s₁ H #[[.ref a],[]] [.ref a] [.ref a] (λv _=>v=.bl rz) (λ_ _ _=>False) hr E0 (hbind s₁ (.ref a)) (.cons rfl .nil) hsp) λr s' hq=>?_;rcases r with e | fl
 ·exact (hCX H e s' hq).elim
 rcases fl with _ | _ | _ | u
 all_goals first | exact False.elim hq | skip
 obtain⟨v,H',e1,e2,un,hok',rv,ev⟩:=hq;have ev':v=V.bl rz:=ev;subst ev';have eu:u=Value.bool rz:=rv;subst eu;obtain⟨more,hT2⟩:=un.tbls T ps h1;have hT3:s'.heap.get? T=rp { cls:=.none,data:=.fields (ps ++ more) }:=hok' T _ hT2
 have each:∀b o,s₁.heap.get? b=rp o->b≠T->s'.heap.get? b=rp o:=λb o e n=>by
  cases q:H b with
  | none=>exact un.keep b o e q (λz=>(nomatch (show b ∈ ([]:List nP)from z))) (λz=>(nomatch z))
  | some ob =>
   rcases h2 b ob q with z | ⟨z,_,zz⟩
   ·exact absurd z n
   ·subst zz;have g:=(hok' b _ (un.frzs b _ _ q)).1;rw[z,ha]at e;cases e;exact g
 refine#[rfl,#[λb o e=>?_,λb o e=>?_],e1,e2]
 ·by_cases hbT:b=T
  ·subst hbT;rw[hT]at e;cases e;exact .inr (.inl #[hTc,rfl,ps,more,rfl,hT3])
  ·exact .inl (each b o e hbT)
 ·by_cases hbT:b=T
  ·subst hbT;exact#[_,hT3]
  ·exact#[o,each b o e hbT]
theorem Vp(KX:K.In s₁.heap)(hKT:K.lookup T=rq)(hT:s₁.heap.get? T=rp { cls:=.none,data:=.fields ps })(hTc:ra s₁.heap T)(hns:s₁.heap.Ns nL mg)(hb:s₁.heap.Ns builtinsNs mb)(hbb:∀x:nW,x≠"__name__"->mb x=ow x)(hlim:s₁.heap.NoLimit)(hg:s₁.gens=#[])
  (ha:s₁.heap.get? a=rp { cls:=.type "list",data:=.seq vs.toArray }) (hi:pV vs ns) (hl:ns.length<=nN) (hr:Room k callerA)
  (hbm:s₁.heap.BuiltinsAt mg T) (hcd:PySem.W.CodeHd s₁.heap cc T) (F:∀base:oa,K.In base->base.Ns nL mg->base.BuiltinsAt mg T->PySem.W.CodeHd base cc T->FnOk P w K mg base CX k fa fd [x] sp) (hbind:∀(s:nR) (u:nQ),pK s fd #[[u],[]] [(x,u)])
  (hCX:∀H e s',CX [] H s₁ (λ_ _ _=>False) e s'->False) (hsp:∀H:Hp,H T=rp (.tbl ps)->SqL K H a (ns.map V.int)->sp [.ref a] H (λv _=>v=.bl rz) λ_ _ _=>False) :
  oR (model P w) callerA (.call (.ref fa) #[[.ref a],[]]) (λr s'=>r=.ok (.ret (.bool rz))/\OldK s₁.heap s'.heap/\s'.os=s₁.os/\pf s'.gens) s₁:=by
 have rv:=kB hi;have hlv:=hi.length
 have hTa:a≠T:=λz=>by
  rw[z,hT]at ha;cases ha
 rcases hk:K.lookup a with _ | o
 ·refine Zq (ns:=ns) KX hKT hT hTc hns hb hbb hlim hg ha hr hbm hcd F hbind hCX (upd (upd (λ_=>rq) T (.tbl ps)) a (.frz { cls:=.type "list",data:=.seq vs.toArray } (.lst (ns.map V.int)))) ?_ (λb u e=>?_) (λb u e=>?_) ?_
  ·rw[zp (Ne.symm hTa),zc]
  ·by_cases hba:b=a
   ·subst hba;rw[zc]at e;cases e;exact .inr #[rfl,hk,rfl]
   ·rw[zp hba]at e;by_cases hbT:b=T
    ·exact .inl hbT
    ·rw[zp hbT]at e;cases e
  ·by_cases hba:b=a
   ·subst hba;rw[zc]at e;cases e;exact#[ha,by rw[ac];exact hl,vs,_,rv,ha]
   ·rw[zp hba]at e;by_cases hbT:b=T
    ·subst hbT;rw[zc]at e;cases e;exact hT
    ·rw[zp hbT]at e;cases e
  ·exact hsp _ (by rw[zp (Ne.symm hTa),zc]) (.inl (.inr #[_,zc]))
 ·have e:=KX a o hk;rw[ha]at e;cases e;refine Zq (ns:=ns) KX hKT hT hTc hns hb hbb hlim hg ha hr hbm hcd F hbind hCX (upd (λ_=>rq) T (.tbl ps)) zc (λb u e=>?_) (λb u e=>?_) (hsp _ zc (.inr #[_,vs.toArray,_,hk,rfl,rfl,rfl,by rw[ah,hlv];exact hl,by simpa using rv]))
  ·by_cases hbT:b=T
   ·exact .inl hbT
   ·rw[zp hbT]at e;cases e
  ·by_cases hbT:b=T
   ·subst hbT;rw[zc]at e;cases e;exact hT
   ·rw[zp hbT]at e;cases e
end
noncomputable def zaa(K:nO):Bool:=K.all λp=>match p.2 with
 | ⟨.none,_,.fields _,_⟩=>rA
 | _=>rz
theorem Yw{T:nP}{o:ou}:∀{K:nO},K.lookup T=rp o->(T,o) ∈ K
 | [],h=>by cases h
 | p::K,h=>by
  rw[aW]at h;by_cases hp:T=p.1
  ·rw[show (T == p.1)=rz by simpa using hp]at h;cases h;rw[hp];exact az
  ·rw[show (T == p.1)=rA by simpa using hp]at h;exact ar _ (Yw h)
theorem Ut{K:nO}{T:nP}{ps:Array nQ}{h:oa}(e:zaa K=rz)(X:K.In h)(hT:h.get? T=rp { cls:=.none,data:=.fields ps }):K.lookup T=rq:=by
 cases q:K.lookup T with
 | none=>rfl
 | some o =>
  have g:=X _ _ q;rw[hT]at g;cases g;have:=rL.mp e _ (Yw q);simp at this
theorem walk_ofT{l:PySem.W.OpenLaw}{n k:Nat}{q:nU}{loose:List nW}{XP:(nW->Option nQ)->oa->Prop}{YP:nY->oa->Prop}{d din:DefRec}{K:Params->nO}{CX:nY->CXT}{sp:nY->nP->Sp}{x:nW}
  (hn:l.most=rp n) (hn2:n<=nN) (hdf:d.params.defaults=[]) (hr:Room k callerA) (hdin:din ∈ recsOf q)
  (hY:∀(w:nY) (h:oa),YP w h->(K w.params).In h) (hno:∀w:nY,zaa (K w.params)=rz)
  (F:∀(w:nY) (mg:nW->Option nQ) (fa:nP) (h:oa) (cc T:nP),(K w.params).In h->h.Ns nL mg->mg d.name=rp (.ref fa)->(∃a o fd,mg din.name=rp (.ref a)/\h.get? a=rp o/\o.data=.func fd/\fd.code=.ref cc)->nL≠T ->
   ∃fd:nS,(∀(s:nR) (u:nQ),pK s fd #[[u],[]] [(x,u)]) /\
    ∀base:oa,(K w.params).In base->base.Ns nL mg->base.BuiltinsAt mg T->PySem.W.CodeHd base cc T->FnOk l.prog w (K w.params) mg base (CX w) k fa fd [x] (sp w T))
  (hsp:∀(w:nY) (H:Hp) (a:nP) (ns:List Int) (T:nP),ns.length<=n->(∀z ∈ ns,qE z)->H T=rp (.tbl #[])->SqL (K w.params) H a (ns.map V.int)->sp w T [.ref a] H (λv _=>v=.bl rz) λ_ _ _=>False)
  (hCX:∀(w:nY) (H:Hp) (s:nR) (e:nQ) (s':nR),CX w [] H s (λ_ _ _=>False) e s'->False) :
  PySem.W.WalkO q loose XP YP l.row.toRowW d [] (λf vs=>e9 f vs):=by
 refine kT hn hdf λw s₀ s₁ mg mb fa o pm cd doc a vs ns G Y ho hd hcd hmg hobj hints hlen hb' hg=>?_;have X0:=hY w _ Y;obtain⟨ai,oi,fdi,cc,T,m1,m2,m3,m4,m5,m6⟩:=G.T.tab din hdin;have hcd':PySem.W.CodeHd s₁.heap cc T:=PySem.W.CodeHd.of m5 m6;have hTo:s₁.heap.get? T=rp { cls:=.none,data:=.fields #[] }:=m6.2;have hTc:ra s₁.heap T:=m6.isCodeTable
 have hgT:nL≠T:=λz=>by
  obtain⟨o,es,ep,e,hd',_⟩:=G.T.g;rw[z,hTo]at e;cases e;cases hd'
 have hbm:s₁.heap.BuiltinsAt mg T:=by
  obtain⟨bm,ob,b1,b2,b3,b4,b5,b6⟩:=G.T.bmain;refine#[bm,ob,b1,b2,λz=>?_,λz=>?_,b3,b4,b5,b6]
  ·obtain⟨o,es,ep,e,hd',_⟩:=G.T.g;rw[z,e]at b3;cases b3;rw[hd']at b6;cases b6
  ·rw[z,hTo]at b3;cases b3;cases b4
 obtain⟨fd,hbd,hF⟩:=F w mg fa _ cc T X0 G.T.g hmg #[ai,oi,fdi,m1,m2,m3,m4] hgT;exact Vp (T:=T) (ps:=#[]) X0 (Ut (hno w) X0 hTo) hTo hTc G.T.g G.T.b G.T.builtins G.T.nolimit hg hobj hints (aL hlen hn2) hr hbm hcd' hF hbd (λH e s'=>hCX w H s₁ e s') λH h1 h2=>hsp w H a ns T hlen hb' h1 h2
theorem KJ{P:nU}{w:nY}{K:nO}{mg:nW->Option nQ}{base:oa}{x qual:nW}{st:oj}{f cc:nP}{fd:nS}{N ps:List nW}{k:Nat}{sp:Sp}(F:Fun K x qual st f fd)(hcc:fd.code=.ref cc)(S:zo N ps (zg st))(len:∀vs H Q E,sp vs H Q E->vs.length=ps.length)
  (hbody:∀(A:nX) (outer:List pB) (s:nR) (H:Hp) (vs:List V) (Q:VK) (E:XK),Room k (A.deeper (oU qual (zg st) s⁻¹ f (.ref cc)))->sp vs H Q E ->
   ∃t,PSs (ux CX0 P w K mg base N qual (zg st) f (.ref cc) A outer s H E).nox (zY st) t/\t { nx:=λ_ H'=>Q .non H',rt:=Q } (start N vs) H):FnOk P w K mg base CX0 (k+1) f fd ps sp:=by
 obtain⟨oc,od,kV,doc,pm,an,cdv,ct,osl,rfl,lk,hcd⟩:=F.ex;have e:cdv=.ref cc:=hcc;subst e;refine Qu lk hcd S len λA outer s H vs Q E hr hsp=>?_;obtain⟨t,h,q⟩:=hbody A outer s H vs Q E hr hsp;exact#[t,h.nox,q]
end L3
namespace L3
section
variable{X:Cx}{rB:List (nP × ou)}{σ:L2.St}{H:Hp}{s:nR}{cc P c:nP}{y:nW}{params:oW}{body:nZ}{scope:oB}{pos:oJ}{Q:VK}
end
section
variable{X:Cx}{cc P c:nP}{x p y:nW}{params:oW}{body e:nZ}{scope:oB}{lpos kpos pos pp:oJ}{k iy:Nat}{te tb:TE}
end
section
variable{P:nU}{w:nY}{K:nO}{mg mb:nW->Option nQ}{CX:CXT}{k:Nat}{fa a T cc T' cc':nP}{fd:nS}{x:nW}{sp:Sp}{s₁:nR}{vs:List nQ}{ns:List Int}
end
end L3
namespace PySem
namespace F
end F
section
variable{prog:nU}{w:nY}{A:nX}{E:nQ->nR->Prop}{s:nR}
def Heap.IsRevS(h:oa)(a:nP)(x:nW)(t:pX)(i:Int):Prop:=∃o,h.get? a=rp o/\o.cls=.type "reversed"/\o.data=.fields (List.toArray [.str x t,rawInt i])
theorem Heap.IsRevS.typeIs{a:nP}{x:nW}{t:pX}{i:Int}(z:s.heap.IsRevS a x t i):s.TypeIs (.ref a) "reversed":=let #[o,ho,hc,_]:=z; #[o,ho,hc]
theorem Heap.IsRevS.at{h h':oa}{a:nP}{x:nW}{t:pX}{i:Int}(z:h.IsRevS a x t i)(e:∀o,h.get? a=rp o->h'.get? a=rp o):h'.IsRevS a x t i:=let #[o,ho,r]:=z; #[o,e _ ho,r]
end
end PySem
namespace L3
section
variable{X:Cx}{o a:nZ}{to:TE}{ta:TA}{apos cpos p pos2:oJ}
end
end L3
namespace L2
section
variable{X:Cx}{tg:nZ}
end
end L2
namespace L3
open PySem L2
section
variable{g:TG}{tt:TT}{te:TE}{own:Nat}{ix:()}{σ:L2.St}{H1:Hp}{Q:VK}{D:nP}
end
end L3
namespace L3
open PySem.AutoSeq1 (wpAny_loadPart')
open MeetsSeq MeetsSeq2 MeetsSeq3 SeqRoads2 SeqAt
section
variable{X:Cx}{rB:List (nP × ou)}{σ:St}{H:Hp}{s:nR}
end
end L3
namespace L3
section
variable{prog:nU}{w:nY}{A:nX}{R:pJ->nR->Prop}{I:nP}{fp wr:List nP}{G:Array pW->Array pW->Prop}{n:Nat}{P:Nat->nQ->Prop}{St:Nat->nR->Prop}
end
section
variable{prog:nU}{w:nY}{A:nX}{E:nQ->nR->Prop}{s:nR}
end
section
variable{X:Cx}
end
section
variable{g:TG}{tt:TT}{te:TE}{own:Nat}{ix:()}{σ:L2.St}{H1:Hp}{Q:VK}{D:nP}
end
theorem Ym{α:Type}[DecidableEq α](k:α)(v:nQ)(x:α):∀kvs:List (α × nQ),(kvs.map λkv=>if kv.1=k then (kv.1,v)else kv).find? (λkv=>kv.1=x)=(kvs.find? λkv=>kv.1=x).map λkv=>if kv.1=k then (kv.1,v)else kv
 | []=>rfl
 | p::kvs=>by
  have e:(if p.1=k then (p.1,v)else p).1=p.1:=by split <;> rfl
  rw[aj,List.find?_cons,List.find?_cons,Ym k v x kvs]
  erw[e]
  by_cases h:p.1=x
  ·simp [h]
  ·simp [h]
theorem Xq{α:Type}[DecidableEq α](kvs:List (α × nQ))(k:α)(v:nQ)(x:α):valueAt (stored kvs k v) x=if x=k then rp v else valueAt kvs x:=by
 unfold stored valueAt;split
 ·rename_i h;rw[Ym];by_cases e:x=k
  ·subst e;rw[if_pos rfl];obtain⟨p,hp,hk⟩:=sf.mp h
   cases hf:kvs.find? λkv=>kv.1=x with
   | none =>
    have:=si.mp hf p hp;exact absurd hk this
   | some q =>
    have hq:=dI hf;have hq':q.1=x:=by simpa using hq
    simp [hq']
  ·rw[if_neg e]
   cases hf:kvs.find? λkv=>kv.1=x with
   | none=>rfl
   | some q =>
    have hq:=dI hf;have hq':q.1=x:=by simpa using hq
    have:¬ q.1=k:=λz=>e (hq'.symm.trans z);simp [this]
 ·rename_i h;rw[List.find?_append];by_cases e:x=k
  ·subst e;rw[if_pos rfl]
   have:kvs.find? (λkv=>kv.1=x)=rq:=by
    rw[List.find?_eq_none];intro p hp hk;exact h (sf.mpr #[p,hp,hk])
   rw[this];simp
  ·have e':¬ k=x:=λz=>e z.symm;rw[if_neg e];simp [e']
section
variable{X:Cx}{pos:oJ}
end
noncomputable def qD(P:nU)(w:nY)(a:nP)(m:nW->Option V)(n:Nat):HO:=.ext λh=>(a == sysModules)=rA/\∃kvs:List (nW × nQ),h.DictOf (cK P w) a kvs/\kvs.length<=n/\∀k,RelO (m k) (valueAt kvs k)
theorem WO{P:nU}{w:nY}{H:Hp}{h:oa}{a:nP}{m:nW->Option V}{n:Nat}{kvs:List (nW × nQ)}(hs:(a == sysModules)=rA)(d:h.DictOf (cK P w) a kvs)(hl:kvs.length<=n)(r:∀k,RelO (m k) (valueAt kvs k)):ObjOk P w H h a (qD P w a m n) :=
 #[#[hs,kvs,d,hl,r],(let #[o,es,ep,ho,_]:=d; #[o,ho]),λh1 h2 ⟨hs,kvs,⟨o,es,ep,ho,rest⟩,z⟩ k=>#[hs,kvs,#[o,es,ep,k _ ho,rest],z]]
section
variable{X:Cx}{pos:oJ}
theorem Inv.beyond{rB:List (nP × ou)}{σ:L2.St}{H:Hp}{s:nR}(I:Inv X rB σ H s):(s⁻¹ == sysModules)=rA:=by
 obtain⟨o,es,ep,e,_⟩:=I.ok.mod.glob;have h1:=au e;have h2:=I.ok.bsz;have h3:=I.sz;have h4:1<=nL:=∅;have h5:1<s⁻¹:=av (bY h4 h1) (aL h2 h3);rw[beq_eq_false_iff_ne];intro z;exact cr h5 z
def za3(P:nU)(w:nY):TE:=λ_ H Q=>∀p,H p=rq->Q (.ref p) (upd H p (qD P w p (λ_=>rq) 0))
theorem Jz:PE X (.Dict [] [] pos) (za3 X.prog X.w):=λrB s σ H Q I h =>
 wpAny_Dict_empty #[.ref s⁻¹,_,I.laid (a:=s⁻¹) (t':=s.toks) (λ_ _ q=>af _ q) (ao _) (WO (m:=λ_=>rq) (Inv.beyond I) (Heap.DictOf.new s.heap) (ao _) λ_=>trivial),rfl,h _ (I.hok.fresh (ao _))]
theorem Inv.tdic{rB:List (nP × ou)}{σ:L2.St}{H:Hp}{s:nR}{a:nP}{m:nW->Option V}{n:Nat}(I:Inv X rB σ H s)(h:H a=rp (qD X.prog X.w a m n)):(a == sysModules)=rA/\∃kvs:List (nW × nQ),s.heap.DictOf (cK X.prog X.w) a kvs/\kvs.length<=n/\∀k,RelO (m k) (valueAt kvs k):=(I.hok _ _ h).1
def zcK(P:nU)(w:nY):R2:=λx y H Q=>∃a m n k v,x=.ref a/\y=.str k/\H a=rp (qD P w a m n)/\m k=rp v/\Q v H
theorem JJ:IxR X (zcK X.prog X.w):=by
 intro value slice rB s σ H x y v u Q I rx ry h hs;obtain⟨a,m,n,k,z,rfl,rfl,ha,hk,q⟩:=h;cases rx;obtain⟨t,rfl⟩:=ry;obtain⟨_,kvs,dd,hl,r⟩:=Inv.tdic I ha;obtain⟨w',hw,rw'⟩:=RelO.some_of (v:=z) (o:=valueAt kvs k) (by rw[<- hk];exact r k);exact tail_any dd.typeIs slot_dict_getitem.lookup (wpAny_getItem_of (knd:=cK X.prog X.w) (strKind_is _ _ _ _) dd.mapOf hw #[z,H,I.tok _,rw',q]) hs
def zbL(P:nU)(w:nY):V->V->V->Hp->(Hp->Prop)->Prop:=λo i v H Q=>∃a m n k,o=.ref a/\i=.str k/\H a=rp (qD P w a m n)/\n<=100000/\Q (upd H a (qD P w a (λx=>if x=k then rp v else m x) (n+1)))
theorem U0:zdI X (zbL X.prog X.w):=by
 intro rB s σ H o i v ov iv u Q I ro ri rv h;obtain⟨a,m,n,k,rfl,rfl,ha,hn,q⟩:=h;cases ro;obtain⟨t,rfl⟩:=ri;obtain⟨hsm,kvs,dd,hl,r⟩:=Inv.tdic I ha;have s16:=ya;refine wpAny_setItem_pairs (knd:=cK X.prog X.w) (hsz:=by lia) (strKind_is _ _ _ _) dd λh' dd' hs=>#[_,?_,q];have he:∃q,h'.get? a=rp q:=let #[q,_,_,hq,_]:=dd'; #[q,hq];refine I.write (x:=a) (e:=a) (by rw[ha];exact True.intro) (.inl rfl) (λb q hb z=>(hs.2 b hb).trans z) he (WO hsm dd' (aL (stored_length_le _ _ _) ⋯) λx=>?_);rw[Xq];by_cases e:x=k
 ·rw[if_pos e,if_pos e];exact rv
 ·rw[if_neg e,if_neg e];exact r x
def zbk(P:nU)(w:nY):R2:=λx y H Q=>∃a m n k,x=.str k/\y=.ref a/\H a=rp (qD P w a m n)/\Q (.bl (m k).isNone) H
theorem UD:OpR X (og .NotIn) (zbk X.prog X.w):=by
 intro rB s σ H x y v u Q I rx ry h;obtain⟨a,m,n,k,rfl,rfl,ha,q⟩:=h;obtain⟨t,rfl⟩:=rx;cases ry;obtain⟨hsm,kvs,dd,hl,r⟩:=Inv.tdic I ha;refine wpAny_notIn_of (knd:=cK X.prog X.w) (strKind_is _ _ _ _) hsm dd.mapOf ?_
 have e:(!(valueAt kvs k).isSome)=(m k).isNone:=by
  have:=r k
  cases hm:m k with
  | none =>
   cases hv:valueAt kvs k with
   | none=>rfl
   | some z=>rw[hm,hv]at this;exact this.elim
  | some z0 =>
   cases hv:valueAt kvs k with
   | none=>rw[hm,hv]at this;exact this.elim
   | some z=>rfl
 rw[e];exact#[.bl _,H,I.tok _,rfl,q]
end
section
variable{X:Cx}{pos:oJ}
variable{o e:nZ}{es:List nZ}{to:TE}{t:TA}{name:nW}{apos cpos:oJ}{id:String}{r:V->List V->Hp->VK->Prop}
end
section
variable{X:Cx}{tg:nZ}
end
section
variable{g:TG}{tt:TT}{te:TE}{own:Nat}{ix:()}{σ:L2.St}{H1:Hp}{Q:VK}{D:nP}
end
section
variable{X:Cx}{scope:oB}{own caps:List nW}{ix:()}{elt tg iter:nZ}{ifs:List nZ}{pos:oJ}{wi:TI}{g:TG}{tt:TT}{te:TE}
theorem v8{EX:XK}(hc:X.calm=rz)(S:qW X scope own caps ix)
  (hg:∀cl C rB s3 H3 fp,PG (yb X scope cl C (own ++ caps) rB s3 H3 fp λ_ _=>False) tg g)
  (ht:∀cl C rB s3 H3 fp xe,XE (yb X scope cl C (own ++ caps) rB s3 H3 fp xe) EX->PTs (yb X scope cl C (own ++ caps) rB s3 H3 fp xe) ifs tt)
  (hst:X.stack=X.env::X.outer/\X.env.frame=rp X.env.locals) (hxe:XE X EX) (he:∀cl C rB s3 H3 fp xe,XE (yb X scope cl C (own ++ caps) rB s3 H3 fp xe) EX->PE (yb X scope cl C (own ++ caps) rB s3 H3 fp xe) elt te)
  {cl:List (nW × nP)} (hc1:∀y c,cl.lookup y=rp c->X.env.cells.lookup y=rp c) (hc2:∀y,(y,NameKind.free) ∈ scope.names->∃c,cl.lookup y=rp c)
  {rB:List (nP × ou)} {σ:St} {H2:Hp} {s2:nR} {Q:VK} {it:nP} {fp:List nP} {tn:Nat->oa->Prop} {J:It} (I2:Inv X rB σ H2 s2) (T:Kn X.prog X.w X.K tg J fp it tn) (st2:tn 0 s2.heap) (f2:∀b ∈ fp,xE X rB H2 b)
  (q:∀D,H2 D=rq->∃W:Nat->Nat->List V->Hp->Prop,(∃m,W 0 m [] (upd H2 D (.lst []))) /\
   ∀i m rE H',W i m rE H'->(J.stop i H'/\Q (.ref D) H')\/(J.go i H'/\∀x H2,J.yld i H' x H2->g x (vU σ own.length ix) H2 λσ3 H3=>xv (vU σ own.length ix) σ3/\tt σ3 H3 λb H4=>if b=rz then
    te σ3 H4 λv H5=>H5 D=rp (.lst rE)/\rE.length<nN/\∃m',m'<m/\W (i+1) m' (rE ++ [v]) (upd H5 D (.lst (rE ++ [v])))
    else ∃m',m'<m/\W (i+1) m' rE H4))
  {RR:nQ->nP->pJ->nR->Prop} {E:nQ->nR->Prop}
  (hRR:∀D C m s' H',H2 D=rq->s'.heap.Ns C m->xE X rB H' C->Inv X rB σ H' s'->Q (.ref D) H'->RR (.ref D) C (.ok .next) s')
  (hRE:∀D C m s' x,s'.heap.Ns C m->(∀h',Heap.SameBut C s'.heap h'->∀cenv:pB,cenv.locals=C->nV (model X.prog X.w) X.A (fz "comprehension.variables-let-go" x cenv:rb nQ) (λ_ _=>False) X.xe { s' with heap:=h' })->RR (.ref D) C (.error x) s') :
  nV (model X.prog X.w) X.A (newList []) (λrE s3=>nV (model X.prog X.w) X.A (newFunctionEnv scope X.env.globals cl [] X.env.qual rq .none (rp X.env)) (λcenv s4 =>
   oR (model X.prog X.w) X.A (.compStart (.ListComp elt [#[tg,iter,ifs,0]] scope pos) 0 (.ref it) rE { cenv with scope:=relabel scope X.env }) (RR rE cenv.locals) s4) E s3) E s2:=by
 have hD:H2 s2⁻¹=rq:=I2.hok.fresh (ao _);obtain⟨W,⟨m0,w0⟩,turn⟩:=q _ hD;refine pQ (pE S.nocell (by intro y hy;simp at hy) (λh1 hns1 hsb1=>?_) S.kind);dsimp only at hns1 hsb1 ⊢
 have I3:Inv X rB σ (upd H2 s2⁻¹ (.lst [])) { s2 with heap:=s2.heap.push { cls:=.type "list",dict:=rq,data:=.seq ([]:List nQ).toArray } } :=
  I2.lnew (its:=[]) (t':=s2.toks) .nil (aB _)
 generalize hs3:({ s2 with heap:=s2.heap.push { cls:=.type "list",dict:=rq,data:=.seq ([]:List nQ).toArray } }:nR)=s3 at I3;have e3:s2.heap.push { cls:=.type "list",dict:=rq,data:=.seq ([]:List nQ).toArray }=s3.heap:=by rw[<- hs3]
 rw[e3]at hns1 hsb1 ⊢;have k1:∀b o,s3.heap.get? b=rp o->h1.get? b=rp o:=λb o e=>(hsb1.2 b (ax (au e))).trans (af _ e);have k23:∀b o,s2.heap.get? b=rp o->s3.heap.get? b=rp o:=λb o e=>by rw[<- e3];exact af _ e
 have hz:s3⁻¹=s2⁻¹+1:=by rw[<- e3,dP]
 have fpObj:∀b ∈ fp,∃o,s2.heap.get? b=rp o:=λb hb=>let #[o,e,_]:=T.obj 0 _ st2 b hb; #[o,e];have fplt:∀b ∈ fp,b<s2⁻¹:=λb hb=>let #[o,e]:=fpObj b hb;au e;have f3:∀b ∈ fp,xE X rB (upd H2 s2⁻¹ (.lst [])) b:=λb hb=>#[by rw[zp (ax (fplt b hb))];exact (f2 b hb).1,(f2 b hb).2]
 have I4:Inv (yb X scope cl s3⁻¹ (own ++ caps) rB s3 (upd H2 s2⁻¹ (.lst [])) fp λ_ _=>False) [] (vU σ own.length ix) (upd H2 s2⁻¹ (.lst [])) { s3 with heap:=h1,toks:=s3.toks+([]:List (nW × nQ)).length } :=
  Xl S hc1 hc2 I3 f3 (λb hb=>by rw[hz];exact cC (fplt b hb)) hns1 k1
 have st4:tn 0 h1:=T.keep 0 _ _ st2 λb hb o e=>k1 b o (k23 b o e);generalize hs4:({ s3 with heap:=h1,toks:=s3.toks+([]:List (nW × nQ)).length }:nR)=s4 at I4;have es4:({ s2 with heap:=h1,toks:=s2.toks+([]:List (nW × nQ)).length }:nR)=s4:=by rw[<- hs4,<- hs3]
 have e4:h1=s4.heap:=by rw[<- hs4]
 have loop:oR (model X.prog X.w) X.A (.compLoop (.ListComp elt [#[tg,iter,ifs,0]] scope pos) 0 (.ref it) (.ref s2⁻¹) (compEnvC scope cl s3⁻¹ X.env)) (RR (.ref s2⁻¹) s3⁻¹) s4:=by
  let X':=yb X scope cl s3⁻¹ (own ++ caps) rB s3 (upd H2 s2⁻¹ (.lst [])) fp λ_ _=>False
  have fp':∀{H':Hp},(∀b ∈ fp,H' b=rq)->∀b ∈ fp,xE X' [] H' b:=λ{H'} hn b hb=>by
   obtain⟨_,a1,a2,a3,a4,a5⟩:=f3 b hb;refine#[hn b hb,ax (show b<s3⁻¹ from by rw[hz];exact cC (fplt b hb)),λz=>?_,.inl hb,λx c e=>a4 x c (hc1 x c e),λp hp=>?_]
   ·rcases rH.mp (I3.stkSub b z)with e | e
    ·exact a1 e
    ·exact a2 e
   ·have:p ∈ (X.pn ++ rB) ++ []:=hp;rw[aX]at this;exact a5 p this
  refine VT (λn s'=>∃i rE H',Inv X' [] (vU σ own.length ix) H' s'/\tn i s'.heap/\(∀b ∈ fp,H' b=rq)/\W i n rE H') rfl ?_ m0 #[0,[],_,I4,by rw[<- e4];exact st4,λb hb=>(f3 b hb).1,w0];rintro n s5 ⟨i,rE,H5,I5,st5,fr5,w5⟩;refine oG ?_;rcases turn i n rE H5 w5 with ⟨stop,qn⟩ | ⟨go,step⟩
  ·refine thn (T.done X' rfl rfl rfl hc i [] s5 _ H5 _ I5 (fp' fr5) st5 stop) λr s6 ⟨hr,I6⟩=>?_;subst hr;obtain⟨m,hm,_⟩:=I6.loc;refine hRR _ _ m s6 H5 hD hm (I3.fpOk (ao _) I6.free) (I3.call' (s':=s6) I6.os I6.base I6.hok I6.bare λb hb=>?_) qn;obtain⟨_,a1,a2,a3,a4,a5⟩:=f3 b hb;exact#[a3,a1,a4,a5]
  ·refine thn (T.item X' rfl rfl rfl hc i [] s5 _ H5 (λ_ _=>False) I5 (fp' fr5) st5 go) λr s6 ⟨u,hr,h6⟩=>?_;subst hr;refine oG (thn h6 λ_ s7 ⟨x,H7,I7,r7,y7,st7,fr7⟩=>?_);have I7':=I7.pinned (fp' fr7) (T.obj _ _ st7);refine oG (thn (hg _ _ _ _ _ _ _ s7 _ H7 x u _ I7' r7 (step x H7 y7)) λ_ s8 ⟨σ8,H8,I8,ks,q8⟩=>?_);refine thn (ht cl _ rB s3 (upd H2 s2⁻¹ (.lst [])) fp _ (λe s hfl=>Wc (RE:=λe s'=>RR (.ref s2⁻¹) s3⁻¹ (.error e) s') hst hxe hc1 I3 f3 hfl λm s' x a b=>hRE _ _ m s' x a b) _ s8 σ8 H8 _ (I8.wish _) q8) λb s9 ⟨H9,I9',q9⟩=>?_;have I9:=Inv.unwish (X:=X') I9'
   have back:∀{s':nR} {H':Hp} {acc':List V} {m':Nat},Inv X' ([] ++ Zg fp s7.heap) σ8 H' s'->m'<n->W (i+1) m' acc' H'->∃m,m<n/\∃i rE H',Inv X' [] (vU σ own.length ix) H' s'/\tn i s'.heap/\(∀b ∈ fp,H' b=rq)/\W i m rE H':=λ{s' H' acc' m'} J' hm w'=>by
    refine#[m',hm,i+1,acc',H',(J'.unpinned).weak ks.1 ks.2,T.keep _ _ _ st7 λb hb o e=>(J'.pin (b,o) (aD _ (aD _ (wD hb e)))).1,λb hb=>?_,w'];obtain⟨o,e,d⟩:=T.obj _ _ st7 b hb;exact (J'.pin (b,o) (aD _ (aD _ (wD hb e)))).2.1
   cases b with
   | false =>
    rw[if_neg aA]at q9 ⊢;obtain⟨m',hm,w'⟩:=q9;exact back I9 hm w'
   | true =>
    rw[if_pos rfl]at q9 ⊢;refine thn (he cl _ rB s3 (upd H2 s2⁻¹ (.lst [])) fp _ (λe s hfl=>Wc (RE:=λe s'=>RR (.ref s2⁻¹) s3⁻¹ (.error e) s') hst hxe hc1 I3 f3 hfl λm s' x a b=>hRE _ _ m s' x a b) _ s9 σ8 H9 _ (I9.wish _) q9) λv s10 ⟨y,H10,I10',r10,hD10,hsz,m',hm,w'⟩=>?_;have I10:=Inv.unwish (X:=X') I10';refine oG ?_;have:=yS (X:=X') _ s10 σ8 H10 (.ref s2⁻¹) [y] (.ref s2⁻¹) [v] (λ_ H'=>H'=upd H10 s2⁻¹ (.lst (rE ++ [y]))) I10 rfl (.cons r10 .nil) #[rE,hD10,hsz,rfl];refine thn this λ_ s11 ⟨_,H11,I11,_,eH⟩=>?_;subst eH;exact back I11 hm w'
 have goal:oR (model X.prog X.w) X.A (.compStart (.ListComp elt [#[tg,iter,ifs,0]] scope pos) 0 (.ref it) (.ref s2⁻¹) (compEnvC scope cl s3⁻¹ X.env)) (RR (.ref s2⁻¹) s3⁻¹) s4 :=
  codeAny_compStart_list loop (T.self _ 0 s4 _ _ (by rw[<- e4];exact st4) loop)
 rw[<- es4]at goal;exact goal
theorem kr{EX:XK}(hc:X.calm=rz)(S:qW X scope own caps ix)(hst:X.stack=X.env::X.outer/\X.env.frame=rp X.env.locals)(hxe:XE X EX)(hi:PI X tg iter wi)
  (hg:∀cl C rB s3 H3 fp,PG (yb X scope cl C (own ++ caps) rB s3 H3 fp λ_ _=>False) tg g)
  (ht:∀cl C rB s3 H3 fp xe,XE (yb X scope cl C (own ++ caps) rB s3 H3 fp xe) EX->PTs (yb X scope cl C (own ++ caps) rB s3 H3 fp xe) ifs tt)
  (he:∀cl C rB s3 H3 fp xe,XE (yb X scope cl C (own ++ caps) rB s3 H3 fp xe) EX->PE (yb X scope cl C (own ++ caps) rB s3 H3 fp xe) elt te)
  (hs:∀x,foldedSetIterable iter X.env x=pure x:=by intro _;rfl) :
  PE X (.ListComp elt [#[tg,iter,ifs,0]] scope pos) (j7 wi g tt te own.length ix):=by
 intro rB s σ H Q I h;obtain⟨cl,hclos,hc1,hc2⟩:=vj (scope:=scope) (env:=X.env) λy hy=>I.ok.has y (S.free y hy);rw[eval_ListComp];refine pq (use:=rq) rfl hs hclos S.kind S.names (thn (hi rB s σ H _ I h) λv s1 h1=>thn h1 λitv s2 h2=>?_);obtain⟨it,fp,tn,J,H2,e,I2,T,st2,f2,q⟩:=h2;subst e;refine v8 (RR:=λrE C=>compPost (model X.prog X.w) X.A X.xe rq (EP X rB σ Q) rE C) hc S hg ht hst hxe he hc1 hc2 I2 T st2 f2 q ?_ ?_
 ·intro D C m s' H' _ hn fc I' qn;obtain⟨a0,a1,a2,a3,a4,a5⟩:=fc;exact#[m,hn,λh' sb=>#[.ref D,H',I'.turned (t':=s'.toks) (λb o hb e=>(sb.2 b hb).trans e) a0 a1 a3 a4 a5,rfl,qn]]
 ·intro D C m s' x hn hp;exact#[m,hn,hp]
theorem xeN:XE X E0:=λe s h=>by
 obtain⟨_,_,_,_,_,_,_,_,_,_,_,_,_,_,h⟩:=h;exact h.elim
theorem zbu{e:nZ}{t:TE}(h:PE (X.wish λ_ _=>False) e t):PE X e t:=λrB s σ H Q I hq=>oG (thn (h rB s σ H Q (I.wish _) hq) λv s' ⟨x,H',I',r,q⟩=>#[x,H',I'.unwish,r,q])
theorem Jh{t:TT}(h:PTs (X.wish λ_ _=>False) ifs t):PTs X ifs t:=λrB s σ H Q I hq=>oG (thn (h rB s σ H Q (I.wish _) hq) λv s' ⟨H',I',q⟩=>#[H',I'.unwish,q])
theorem yC(hc:X.calm=rz)(S:qW X scope own caps ix)(hi:PI X tg iter wi)
  (hg:∀cl C rB s3 H3 fp,PG (yb X scope cl C (own ++ caps) rB s3 H3 fp λ_ _=>False) tg g)
  (ht:∀cl C rB s3 H3 fp,PTs (yb X scope cl C (own ++ caps) rB s3 H3 fp λ_ _=>False) ifs tt)
  (he:∀cl C rB s3 H3 fp,PE (yb X scope cl C (own ++ caps) rB s3 H3 fp λ_ _=>False) elt te)
  (hst:X.stack=X.env::X.outer/\X.env.frame=rp X.env.locals:=by exact#[rfl,rfl]) (hs:∀x,foldedSetIterable iter X.env x=pure x:=by intro _;rfl) :
  PE X (.ListComp elt [#[tg,iter,ifs,0]] scope pos) (j7 wi g tt te own.length ix) :=
 kr hc S hst xeN hi hg (λa b c d e f _ _=>Jh (ht a b c d e f)) (λa b c d e f _ _=>zbu (he a b c d e f)) hs
theorem JU{i:Nat}{y:nW}{py spos:oJ}(hN:X.N.Nodup)(hy:X.N[i]? = rp y)(hly:Loc X.env.scope y)(hf:X.fn y=rz\/X.env.scope.names.lookup y=rp .local)(hc:X.calm=rz)(S:qW X scope own caps ix)(hi:PI X tg iter wi)
  (hg:∀cl C rB s3 H3 fp,PG (yb X scope cl C (own ++ caps) rB s3 H3 fp λ_ _=>False) tg g)
  (ht:∀cl C rB s3 H3 fp,PTs (yb X scope cl C (own ++ caps) rB s3 H3 fp λ_ _=>False) ifs tt)
  (he:∀cl C rB s3 H3 fp,PE (yb X scope cl C (own ++ caps) rB s3 H3 fp λ_ _=>False) elt te)
  (hst:X.stack=X.env::X.outer/\X.env.frame=rp X.env.locals:=by exact#[rfl,rfl])
  (hsw:swapsWith (.ListComp elt [#[tg,iter,ifs,0]] scope pos) (rp (.Name y py)) spos.line X.env=pure rz:=by rfl)
  (hs:∀x,foldedSetIterable iter X.env x=pure x:=by intro _;rfl) :
  PS X (.Assign [.Name y py] (.ListComp elt [#[tg,iter,ifs,0]] scope pos) spos) (jB i (j7 wi g tt te own.length ix)):=by
 intro rB s σ H D I h;obtain⟨cl,hclos,hc1,hc2⟩:=vj (scope:=scope) (env:=X.env) λy hy=>I.ok.has y (S.free y hy);rw[exec_Assign_Name_used _ _ _ _ hsw];refine nI (oF (nI ?_));show nV _ X.A (do let _ <- comprehension (.ListComp elt [#[tg,iter,ifs,0]] scope pos) scope X.env _ (newList []) rA (eval iter X.env) (rp (assign (.Name y py) X.env))) _ _ s;refine nI (thn (pq (use:=rp (assign (.Name y py) X.env)) (Q:=λ_ s'=>SP X rB D .next s') rfl hs hclos S.kind S.names (thn (hi rB s σ H _ I h) λv s1 h1=>thn h1 λitv s2 h2=>?_)) λ_ s' hq=>nJ (nJ hq));obtain⟨it,fp,tn,J,H2,e,I2,T,st2,f2,q⟩:=h2;subst e;refine v8 (Q:=λx H1=>D.nx (σ.set i (rp x)) H1) (RR:=λrE C=>compPost (model X.prog X.w) X.A X.xe (rp (assign (.Name y py) X.env)) (λ_ s'=>SP X rB D .next s') rE C) hc S hg (λa b c d e f _ _=>Jh (ht a b c d e f)) hst xeN (λa b c d e f _ _=>zbu (he a b c d e f)) hc1 hc2 I2 T st2 f2 q ?_ λD C m s' x hn hp=>#[m,hn,hp];intro D' C m s' H1 hD' hn fc I1 nx;obtain⟨a0,a1,a2,a3,a4,a5⟩:=fc;show nV _ X.A (assign (.Name y py) X.env (.ref D')) _ _ s';refine pR (Zc I1 hN hy hly (v:=.ref D') rfl (λs'' I2' ⟨a,sb,ha⟩=>?_) hf)
 have hCa:C≠a:=by
  rcases ha with e | e
  ·rw[e];exact a1
  ·exact λz=>a4 _ _ e z.symm
 refine#[m,hn.sameBut sb hCa,λh' sb'=>#[_,H1,I2'.turned (t':=s''.toks) (λb o hb e=>(sb'.2 b hb).trans e) a0 a1 a3 a4 a5,nx]]
end
section
variable{X:Cx}{scope:oB}{own caps:List nW}{ix:()}{cl:List (nW × nP)}{rB:List (nP × ou)}{σ:St}{H:Hp}{s:nR}{fp:List nP}{E:nQ->nR->Prop}
end
section
variable{X:Cx}{scope:oB}{own caps:List nW}{ix:()}{elt tg iter:nZ}{ifs:List nZ}{pos:oJ}{wi:TI}{g:TG}{tt:TT}{te:TE}
end
section
variable{X:Cx}
end
section
variable{X:Cx}{rB:List (nP × ou)}{σ:L2.St}{H:Hp}{s:nR}
end
end L3
namespace LL
open PySem L2 L3
noncomputable def top(i:Nat):oj:=PySem.Challenge.pw_letterlaw_k60_rounds_needed.main.body.getD i (.Pass #[0,0,0,0])
noncomputable abbrev yk:oj:=xb (top 4) 0
noncomputable abbrev zR:oj:=xb (top 5) 0
noncomputable abbrev yy:oj:=top 9
noncomputable abbrev xU:oj:=top 10
noncomputable abbrev wP:oj:=top 11
noncomputable abbrev K9:oj:=top 12
noncomputable abbrev xm:oj:=top 15
noncomputable abbrev xV:oj:=top 16
noncomputable abbrev wJ:oj:=top 17
noncomputable abbrev xG:oj:=xb (top 18) 0
noncomputable abbrev yj:oj:=xb (top 18) 1
noncomputable abbrev Z0:oj:=top 20
noncomputable abbrev vQ:oj:=top 21
noncomputable abbrev VR:oj:=top 22
noncomputable abbrev uR:oj:=top 23
noncomputable abbrev jo:oj:=top 24
noncomputable abbrev xj:oj:=top 25
noncomputable abbrev YF:oj:=top 27
noncomputable abbrev jO:oj:=top 28
noncomputable abbrev vT:oj:=top 34
noncomputable abbrev wB:oj:=top 35
noncomputable abbrev wS:oj:=top 36
noncomputable abbrev uZ:oj:=top 37
noncomputable abbrev ym:oj:=top 38
noncomputable abbrev xf:oj:=top 39
noncomputable abbrev yV:oj:=top 40
noncomputable abbrev wl:oj:=top 41
noncomputable abbrev qv:oj:=top 42
noncomputable abbrev yu:oj:=top 48
noncomputable abbrev xF:oj:=top 49
noncomputable abbrev yJ:oj:=top 50
noncomputable abbrev xq:oj:=top 51
noncomputable abbrev vM:oj:=top 52
noncomputable abbrev xL:oj:=top 53
noncomputable abbrev wz:oj:=xb (top 55) 0
noncomputable abbrev xg:oj:=xb (top 55) 1
noncomputable abbrev wq:oj:=xb (top 55) 2
noncomputable abbrev y8:oj:=xb (top 55) 3
noncomputable abbrev xl:oj:=xb (top 55) 4
noncomputable abbrev yH:oj:=xb (top 56) 0
noncomputable abbrev V7:oj:=top 58
noncomputable abbrev ZG:oj:=top 59
noncomputable abbrev qd:oj:=top 60
noncomputable abbrev Yf:oj:=top 61
noncomputable abbrev Z7:oj:=top 62
noncomputable abbrev Vo:oj:=top 63
noncomputable abbrev Km:oj:=top 64
noncomputable abbrev uS:oj:=top 65
noncomputable abbrev Vq:oj:=top 66
noncomputable abbrev vt:oj:=top 67
noncomputable abbrev xK:oj:=top 68
noncomputable abbrev vR:oj:=top 69
noncomputable abbrev xt:oj:=top 70
noncomputable abbrev uo:oj:=top 71
section
variable{P:nU}{w:nY}{K:nO}{mg:nW->Option nQ}{base:oa}
seal L2.PE L2.PS L2.PA L2.PT L2.PSs L2.PI L2.PG L2.PW L2.PGs
local macro_rules | `($a<<<$b)=>`(Df $(Lean.mkIdent `P) $(Lean.mkIdent `w) $(Lean.mkIdent `K) $(Lean.mkIdent `mg) $(Lean.mkIdent `base) CX0 $a $b)
local macro_rules | `($a>>>$b)=>`(Df $(Lean.mkIdent `P) $(Lean.mkIdent `w) $(Lean.mkIdent `K) $(Lean.mkIdent `mg) $(Lean.mkIdent `base) (CXx $(Lean.mkIdent `P) $(Lean.mkIdent `w)) $a $b)
local macro_rules | `($a&&&$b)=>`(FnOk $(Lean.mkIdent `P) $(Lean.mkIdent `w) $(Lean.mkIdent `K) $(Lean.mkIdent `mg) $(Lean.mkIdent `base) CX0 $a $(Lean.mkIdent `f) $(Lean.mkIdent `fd) $b)
local macro_rules | `($a|||$b)=>`(FnOk $(Lean.mkIdent `P) $(Lean.mkIdent `w) $(Lean.mkIdent `K) $(Lean.mkIdent `mg) $(Lean.mkIdent `base) (CXx $(Lean.mkIdent `P) $(Lean.mkIdent `w)) $a $(Lean.mkIdent `f) $(Lean.mkIdent `fd) $b)
local macro_rules | `(!!$a)=>`(rp (.ref $a))
local macro_rules | `(~~~$a)=>`(rp (.str (tx $a)))
local macro_rules | `(-~~~$a)=>`(rp (.int (($a):Nat)))
local macro_rules | `(~~~!$a)=>`(rp (.int $a))
local macro_rules | `($a^^^$b)=>`(Fun $(Lean.mkIdent `K) $a $a $b $(Lean.mkIdent `f) $(Lean.mkIdent `fd))
noncomputable abbrev sQz(n:Nat)(a:List PySem.Str)(s:PySem.Stmt):=zo a (a.take n) (zg s)
local macro_rules | `(tactic| rfl')=>do
 let A0←("zcB zcG zci zcA zc0 zcg zcr zcM zcl zcI Kp KM zcm zcx zdd zdi zcY KP K5 KY K1 K6 KB J0 zad KG zc7 zc5 zck zcp zcF zcy zcV zdg KT J3 JA Kr J6 Ku JM K8".splitOn " ").toArray.mapM fun s=>`(Lean.Parser.Tactic.simpLemma| ↓$(Lean.mkIdent s.toName):ident)
 let A1←("zcd Qo zaj zb8 XR tOp tUn tC uN zK xI tCB zam yI Uu zao zca tOr Qx Wt kZ tIf rI rI0 rU rGe zak wV Jm zar zbY zb0 tSl jI Qi XY zbJ tBM JR zah L2.start zcW cxK cxP cxW aj aw aE bo bW dN Nat.reduceAdd Nat.reduceSub cu dg be bf bC br vU eD eE".splitOn " ").toArray.mapM fun s=>`(Lean.Parser.Tactic.simpLemma| $(Lean.mkIdent s.toName):ident)
 let A2←("zbK Jt Jb Q7 zdq zcB zcG zci zcA zc0 zcg zcr zcM zcl zcI Kp KM zcm zcx zdd zdi zcY KP K5 KY K1 K6 KB J0 zad KG zc7 zc5 zck zcp zcF zcy zcV zdg KT J3 JA Kr J6 Ku JM K8".splitOn " ").toArray.mapM fun s=>`(Lean.Parser.Tactic.simpLemma| ↓$(Lean.mkIdent s.toName):ident)
 let A3←("zcd vU eD eE rU jB QH zbc zbV Qo zaj zb8 XR tOp tUn Vc tC uN zK xI tCB zam yI Uu zao zca tOr Qx Wt kZ tIf rI rI0 rEq_is rNe_is zak wV Jm zbY zb0 zar tSl jI Qi rGe decide_false decide_true Prod.mk.injEq rLen_is zbz zcc Wl UB V4 tyV tBM if_true if_false aY decide_eq_true_eq decide_eq_false_iff_not cB fo eS lt1 XY zbJ Kk qI Kh ZX ZO zbt zb3 zbR za1 zaY zaJ Value.ref.injEq L2.start zb1 zaL zdz zdt zdo zbI zdu JR zah zdp Vn zaS zat zct jl W9 km xW ZB zS zcW Q2 za4 cxK cxP cxW aj aw aE bo bW dN Nat.reduceAdd Nat.reduceSub and_assoc zbB exists_eq exists_eq' exists_eq_left' exists_eq_left exists_eq_right exists_eq_right' exists_and_left exists_and_right V.int.injEq V.ref.injEq V.str.injEq V.bl.injEq V.ty.injEq reduceCtorEq false_and and_false true_and and_true or_false false_or exists_false exists_const cu dg Option.some.injEq be bf List.cons.injEq aX bC br Q8 Ji Jd Jw".splitOn " ").toArray.mapM fun s=>`(Lean.Parser.Tactic.simpLemma| $(Lean.mkIdent s.toName):ident)
 `(tactic| first | (dsimp only[$A0,*,$A1,*];try simp only[$A2,*,$A3,*]) | simp only[$A2,*,$A3,*])
local macro_rules | `(tactic| ac_rfl)=>do
 let A0←("yl zv zI yt yw zu".splitOn " ").toArray.mapM fun s=>`(Lean.Parser.Tactic.simpLemma| $(Lean.mkIdent s.toName):ident)
 `(tactic| repeat (first | rfl' | simp only[$A0,*]))
theorem xe0{X:Cx}:XE X E0:=λe s h=>by
 obtain⟨_,_,_,_,_,_,_,_,_,_,_,_,_,_,h⟩:=h;exact h.elim
def ZA(l:()):Prop:=∀c ∈ l,97<=c/\c<=122
noncomputable instance (l:()):Decidable (ZA l):=by unfold ZA;infer_instance
noncomputable def ZU(l:()):Bool:=decide (1<=l.length/\l.length<=6/\ZA l/\l.Nodup)
def j6:Sp:=λvs H Q _=>∃c:Nat,vs=[.str (tx [c])]/\Q (.bl (decide (97<=c/\c<=122))) H
theorem UG:sQz 1 ["sign"] yy:=by nofun
theorem Ux{f:nP}{fd:nS}(F:("is_small_letter"^^^yy)):(1&&&["sign"]) j6:=by
 exists F.ok UG
 ·obtain⟨c,rfl,q⟩:=h;refine#[_,(zh (zt (Qt jd jd yf (pv 0) yf))),?_];have ea:cs (("a" : nW))=[97]:=rfl;have ez:cs (("z" : nW))=[122]:=rfl
  rfl'
  erw[ea,ez,ZB,lt1]
  refine yG (λh=>?_) λh=>?_
  ·have e:decide (97<=c/\c<=122)=!decide (122<c):=by
    by_cases h2:122<c
    ·rw[decide_eq_true h2,decide_eq_false ⋯];rfl
    ·rw[decide_eq_false h2,decide_eq_true ⋯];rfl
   rw[e]at q;exact q
  ·rw[decide_eq_false ⋯]at q;exact q
structure zdJ(K:nO)(mg:nW->Option nQ)(C:nP):Prop where
 xi:XI K C
 ini:ak K (.ref C) "__init__" = rp (rp (.builtin "ValueError.__init__"))
 g:mg "NoLetters" = rp (.ref C)
 most:∃t,mg "MOST_LETTERS" = rp (.int 6 t)
def vm(C:nP):Sp:=λvs H Q E=>∃l:(),vs=[.str (tx l)]/\l.length<=1000/\(ZU l=rz->Q (.str (tx l)) H)/\(ZU l=rA->E (.ref C) rq H)
theorem lB:sQz 1 ["text","sign"] xU:=by nofun
theorem kd{f C:nP}{fd:nS}(B:Bt mg)(T:zdJ K mg C)(F:("letters_of"^^^xU))(Ds:(1<<<"is_small_letter") ["sign"] [] j6):(2|||["text"]) (vm C):=by
 exists Fun.okX F lB,0
 ·obtain⟨l,rfl,hl,q1,q2⟩:=h;obtain⟨t6,g6⟩:=T.most
  refine#[_,(zQ (zU (yn (YJ jd jd zf (zL B.len (pv 0)) (yU (v:=.int 6) rfl g6 #[t6,rfl])))
    (zh (yW hx rfl T.xi.toXC T.ini rfl T.g (za yf ze)))
    zw)
   (zQ (yK PassesOwn.leaving rfl (Ua (pv 0)) (zx (i:=1) lB.nd rfl (.inl rfl))
    (zQ (zU (yn (Y8 (cl0 Ds hr .nil rfl (za (pv 1) ze)) (λ_=>rfl)))
     (zh (yW hx rfl T.xi.toXC T.ini rfl T.g (za yf ze)))
     zw)
    (zh (zU (zB X5 (vG bL PySem.F.slot_str_count PySem.F.type_str_count Kg (pv 0) (za (pv 1) ze)) zf (zE _))
     (zh (yW hx rfl T.xi.toXC T.ini rfl T.g (za yf ze)))
     zw))))
   (zh (zt (pv 0))))),?_]
  have s16:=ya
  rfl'
  have bad:(¬ (1<=l.length/\l.length<=6/\ZA l/\l.Nodup))->∀H':Hp,H'=H->E (.ref C) rq H':=λh H' e=>by
   rw[e];exact q2 (decide_eq_false h)
  refine#[⋯,yG (λc=>yG (λc2=>#[⋯,bad (λh=>by have:=h.2.1;lia) H rfl]) (λc2=>?_)) (λc=>#[⋯,bad (λh=>by have:=h.1;lia) H rfl])];refine ForS.by (λi σ H'=>H'=H/\∃v,σ=[~~~l,v]/\ZA (l.take i)/\∀c ∈ l.take i,l.count c<=1) #[rfl,rq,rfl,λc h=>absurd h (by simp),λc h=>absurd h (by simp)] ?_ ?_
  ·refine nm4 ?_;rintro i c σ H' hg ⟨eH,v,rfl,hs,hn⟩:_;have hc:=ag hg;right
   rfl'
   erw[j6]
   rfl'
   refine yG (λh=>#[⋯,bad (λz=>by have:=z.2.2.1 c hc;lia) _ eH]) (λh=>yG (λh2=>#[⋯,bad (λz=>?_) _ eH]) (λh2=>#[eH,?_,?_]))
   ·have:=sj.mp z.2.2.2 c;lia
   ·rw[zH hg];intro x hx;rcases rJ.mp hx with q | q
    ·exact hs x q
    ·have:x=c:=by simpa using q
     subst this;lia
   ·rw[zH hg];intro x hx;rcases rJ.mp hx with q | q
    ·exact hn x q
    ·have:x=c:=by simpa using q
     subst this;lia
  ·rintro σ H' ⟨eH,v,rfl,hs,hn⟩;rw[aH]at hs hn
   rfl'
   rw[eH];refine q1 (decide_eq_true #[⋯,⋯,hs,sj.mpr λc=>?_]);by_cases hc:c ∈ l
   ·exact hn c hc
   ·rw[List.count_eq_zero.mpr hc];lia
noncomputable def zr(l:())(k:Int)(p:()):Bool:=decide (0<=k/\k+p.length<=l.length/\(l.drop k.toNat).take p.length=p)
def wn:Sp:=λvs H Q _=>∃(l p:()) (k:Int),vs=[.str (tx l),.int k,.str (tx p)]/\l.length<=10000/\p.length<=10000/\Q (.bl (zr l k p)) H
theorem jA{l p:()}{k:Int}{H:Hp}{Q:VK}{E:XK}(h1:l.length<=10000)(h2:p.length<=10000)(h:Q (.bl (zr l k p)) H):wn [.str (tx l),.int k,.str (tx p)] H Q E:=#[l,p,k,rfl,h1,h2,h]
theorem Zd:sQz 3 ["word","place","part"] wP:=by nofun
theorem Zj{f:nP}{fd:nS}(B:Bt mg)(F:("stands_at"^^^wP)):(1&&&["word","place","part"]) wn:=by
 exists F.ok Zd
 ·obtain⟨l,p,k,rfl,hl,hp,q⟩:=h
  refine#[_,(zQ (zU (yn (YJ jd jd zf (pv 1) (zC xO (zL B.len (pv 0)) (zL B.len (pv 2)))))
    (zh (zt xn))
    zw)
   (zh (zt (xZ wU (z6 wb (pv 0) (z9 (pv 1)) (z9 (zC yF (pv 1) (zL B.len (pv 2))))) (pv 2) (zE _))))),?_]
  have s16:=ya
  rfl'
  have no:¬ (0<=k/\k+p.length<=l.length/\(l.drop k.toNat).take p.length=p)->Q (.bl rA) H:=λh=>by
   have e:zr l k p=rA:=decide_eq_false h;rw[e]at q;exact q
  refine yG (λh0=>#[⋯,⋯,yG (λh1=>no λh=>absurd h.2.1 ⋯) λh1=>#[⋯,⋯,?_]]) λh0=>no λh=>h0 h.1;rw[ZF _ h0 ⋯ ⋯];have e:(k+(p.length:Int) - k).toNat=p.length:=⋯;rw[e]
  have e2:zr l k p=decide ((l.drop k.toNat).take p.length=p):=by
   unfold zr;exact decide_eq_decide.mpr #[λh=>h.2.2,λh=>#[h0,⋯,h]]
  rw[<- e2];exact q
noncomputable def yE(l:())(k:Int)(o n:()):():=l.take k.toNat ++ n ++ l.drop (k.toNat+o.length)
theorem yB{l o:()}{k:Int}(h:zr l k o=rz):l.take k.toNat ++ o ++ l.drop (k.toNat+o.length)=l/\(l.take k.toNat).length=k.toNat/\0<=k/\k+o.length<=l.length:=by
 unfold zr at h;rw[decide_eq_true_eq]at h;obtain⟨h0,h1,h2⟩:=h;refine#[?_,by rw[aF];lia,h0,h1]
 have e:l.drop k.toNat=o ++ l.drop (k.toNat+o.length):=by
  have:=bO o.length (l.drop k.toNat);rw[h2,eU]at this;exact this.symm
 rw[aR,<- e,bO]
theorem Yk{l o:()}{k:Int}(n:())(h:zr l k o=rz):zr (yE l k o n) k n=rz/\yE (yE l k o n) k n o=l:=by
 obtain⟨e,hl,h0,h1⟩:=yB h
 have e1:(yE l k o n).take k.toNat=l.take k.toNat:=by
  unfold yE;rw[aR,bi ⋯,bv ⋯]
 have e2:(yE l k o n).drop k.toNat=n ++ l.drop (k.toNat+o.length):=by
  unfold yE;rw[aR,bV ⋯,bc ⋯,bC]
 have e3:(yE l k o n).length=l.length - o.length+n.length:=by
  unfold yE
  erw[am,aZ,hl]
  lia
 refine#[?_,?_]
 ·unfold zr;refine decide_eq_true #[h0,⋯,?_];rw[e2,bi ⋯,bv ⋯]
 ·show (yE l k o n).take k.toNat ++ o ++ (yE l k o n).drop (k.toNat+n.length)=l;rw[e1,<- eU,e2,bV ⋯,bc ⋯,bC];exact e
theorem Kf{l o n:()}{k:Int}(h0:0<=k):cut l rq (rp k) ++ n ++ cut l (rp (k + ↑o.length)) rq=yE l k o n:=by
 rw[je _ h0,vd _ ⋯];have:(k+(o.length:Int)).toNat=k.toNat+o.length:=⋯;rw[this];rfl
structure TNU(K:nO)(mg:nW->Option nQ)(C:nP):Prop where
 xi:XI K C
 g:mg "NoUse" = rp (.ref C)
 na:NoAttr K C "at"
theorem jn:sQz 2 ["self","at"] yk:=by nofun
theorem jF{f C:nP}{fd:nS}(T:TNU K mg C)(F:Fun K "__init__" "NoUse.__init__" yk f fd):(1&&&["self","at"]) (vB C "at"):=by
 exists F.ok jn
 ·obtain⟨x,v,rfl,hx,q⟩:=h;refine#[_,(zh (WQ (pv 0) (pv 1) rfl)),?_]
  erw[J7]
  rfl'
  exact#[C,hx,T.xi.toXC,T.na,q]
structure DNU(P:nU)(w:nY)(K:nO)(mg:nW->Option nQ)(base:oa)(C:nP):Prop extends TNU K mg C where
 ini:∃f fd,ak K (.ref C) "__init__" = rp (rp (.ref f))/\bp K (.ref f)=rz/\(1&&&["self","at"]) (vB C "at")/\Binds K fd ["self","at"] []
def YD(C:nP):Sp:=λvs H Q E=>∃(l o n:()) (k:Int),vs=[.str (tx l),.int k,.str (tx o),.str (tx n)]/\l.length<=10000/\o.length<=10000/\n.length<=10000/\(zr l k o=rz->Q (.str (tx (yE l k o n))) H)/\(zr l k o=rA->∀d H',zdb H d "at" (.int 0) H'->E (.ref C) (rp d) H')
theorem zbU:sQz 4 ["word","place","old","new"] K9:=by nofun
theorem zbe{f C:nP}{fd:nS}(B:Bt mg)(T:DNU P w K mg base C)(F:("put"^^^K9))(mX:(1<<<"stands_at") ["word","place","part"] [] wn):(3|||["word","place","old","new"]) (YD C):=by
 obtain⟨fi,fdi,hi,hfn,Fi,Bi⟩:=T.ini
 exists Fun.okX F zbU,0
 ·obtain⟨l,o,n,k,rfl,hl,ho,hn,q1,q2⟩:=h
  refine#[_,(zQ (zU (yn (Y8 (cl0 mX hr .nil rfl (za (pv 0) (za (pv 1) (za (pv 2) ze)))) (λ_=>rfl)))
    (zh (Zo hx rfl T.xi.toXC hi hfn Fi hr Bi rfl T.g (za zf ze)))
    zw)
   (zh (zt (zC zJ (zC zJ (z6 wb (pv 0) yZ (z9 (pv 1))) (pv 3)) (z6 wb (pv 0) (z9 (zC yF (pv 1) (zL B.len (pv 2)))) yZ))))),?_]
  have s16:=ya
  rfl'
  refine jA hl ho ?_
  rfl'
  refine yG (λhb=>#[⋯,Uf (q2 hb)]) λhb=>?_;have hb':zr l k o=rz:=by simpa using hb
  obtain⟨_,_,h0,h1⟩:=yB hb';have c1:=wv l rq (rp k);have c2:=wv l (rp (k + ↑o.length)) rq;refine#[⋯,⋯,⋯,⋯,?_,?_]
  ·erw[am]
   lia
  ·have e:cut l rq (rp k) ++ n ++ cut l (rp (k + ↑o.length)) rq=yE l k o n:=by
    rw[je _ h0,vd _ ⋯];have:(k+(o.length:Int)).toNat=k.toNat+o.length:=⋯;rw[this];rfl
   rw[e];exact q1 hb'
structure TOrd(K:nO)(mg:nW->Option nQ)(CO CR CW:nP):Prop where
 cO:Cls K CO
 cR:Cls K CR
 cW:Cls K CW
 gO:mg "Order" = rp (.ref CO)
 gR:mg "FromRight" = rp (.ref CR)
 lO:NoAttr K CO "letters"
 lR:NoAttr K CR "letters"
 lW:NoAttr K CW "letters"
def OrdAt(CO CR CW:nP)(H:Hp)(o:nP)(k:Nat)(l:())(ns:List Int):Prop:=∃dx,(k=0/\H o=rp (.ins CO dx [("letters",.str (tx l))]))\/(k=1/\H o=rp (.ins CR dx [("letters",.str (tx l))]))
theorem OrdAt.same{CO CR CW:nP}{H H':Hp}{o:nP}{k:Nat}{l:()}{ns:List Int}(h:OrdAt CO CR CW H o k l ns)(e:Same H H'):OrdAt CO CR CW H' o k l ns:=by
 obtain⟨dx,⟨h1,h2⟩ | ⟨h1,h2⟩⟩:=h
 ·exact#[dx,.inl #[h1,e _ _ h2]]
 ·exact#[dx,.inr #[h1,e _ _ h2]]
noncomputable def Ui(l:())(ns:List Int)(w:()):Int:=((l.zip ns).map λp=>(w.count p.1:Int) * p.2).sum
noncomputable def zq(k:Nat)(l:())(ns:List Int)(w:()):Int:=if k=2 then Ui l ns w else (w.length:Int)
noncomputable def yc(k:Nat)(w:()):():=if k=1 then w.reverse else w
def jm(K:nO):Sp:=λvs H Q _=>∃(x C dx:nP) (l:()),vs=[.ref x,.str (tx l)]/\ZU l=rz/\Cls K C/\NoAttr K C "letters"/\H x=rp (.ins C dx [])/\Q .non (upd H x (.ins C dx [("letters",.str (tx l))]))
theorem jS:sQz 2 ["self","letters"] wz:=by nofun
theorem vq{f:nP}{fd:nS}(B:Bt mg)(F:Fun K "__init__" "Order.__init__" wz f fd)(mM:(2>>>"letters_of") ["text"] [] (vm C)):(3&&&["self","letters"]) (jm K):=by
 exists F.ok jS
 ·obtain⟨x,C,dx,l,rfl,hg,hC,hN,hx,q⟩:=h;refine#[_,(zh (WN (pv 0) (clP xe0 mM hr .nil rfl (za (pv 1) ze)) rfl)),?_];have s16:=ya
  rfl'
  exact#[l,rfl,by have:=of_decide_eq_true hg;lia,λ_=>#[_,_,_,hx,hC,hN,∅,q],λe=>by rw[hg]at e;cases e]
def jN:Sp:=λvs H Q _=>∃(o:nP) (w:()),vs=[.ref o,.str (tx w)]/\w.length<=1000/\Q (.int (w.length:Nat)) H
theorem qg:sQz 2 ["self","word"] xg:=by nofun
theorem wu{f:nP}{fd:nS}(B:Bt mg)(F:Fun K "weight" "Order.weight" xg f fd) :(1&&&["self","word"]) jN:=by
 exists F.ok qg
 ·obtain⟨o,w,rfl,hw,q⟩:=h;refine#[_,(zh (zt (zL B.len (pv 1)))),?_];have s16:=ya
  rfl'
  exact#[⋯,q]
def Wi:Sp:=λvs H Q _=>∃(o:nP) (w:()),vs=[.ref o,.str (tx w)]/\Q (.str (tx w)) H
theorem jH:sQz 2 ["self","word"] wq:=by nofun
theorem jq{f:nP}{fd:nS}(B:Bt mg)(F:Fun K "seen" "Order.seen" wq f fd) :(1&&&["self","word"]) Wi:=by
 exists F.ok jH
 ·obtain⟨o,w,rfl,q⟩:=h;refine#[_,(zh (zt (pv 1))),?_];have s16:=ya
  rfl'
  exact q
def Z1:Sp:=λvs H Q _=>∃(o:nP) (w:()),vs=[.ref o,.str (tx w)]/\w.length<=1000/\Q (.str (tx w.reverse)) H
theorem vP:sQz 2 ["self","word"] yH:=by nofun
theorem vF{f:nP}{fd:nS}(B:Bt mg)(F:Fun K "seen" "FromRight.seen" yH f fd) :(1&&&["self","word"]) Z1:=by
 exists F.ok vP
 ·obtain⟨o,w,rfl,hw,q⟩:=h;refine#[_,(zh (zt (J8 (pv 1) (zcQ zb5 zf)))),?_];have s16:=ya;ac_rfl;exact#[⋯,q]
theorem QN{x y:V}{r:L2.St}:xv (rq::rq::r) (rp x::rp y::r):=#[rfl,λi v h=>by
 cases i with
 | zero=>cases h
 | succ i =>
  cases i with
  | zero=>cases h
  | succ i=>exact h]
theorem zcs(l:())(c e:Nat):StrLaws.At (tx l) (tx [c]) (tx l).length e ↔ l[e]? = rp c:=by
 unfold StrLaws.At Builtin.Str.subAt;rw[zS,zS];have h1:[c].length=1:=rfl;rw[h1,beq_iff_eq]
 have e1:((tx l).cps.extract e (e+1)).toList=(l.drop e).take 1:=by
  show (l.toArray.extract e (e+1)).toList=_;simp [d8]
 have e2:((tx l).cps.extract e (e+1)=(tx [c]).cps) ↔ (l.drop e).take 1=[c]:=by
  constructor
  ·intro h;rw[<- e1,h]
  ·intro h;apply Array.toList_inj.mp;rw[e1,h]
 constructor
 ·rintro⟨h2,h3⟩;have:=e2.mp h3;rw[aT ⋯,cM,bn]at this;rw[ae ⋯];injection this with h _;rw[h]
 ·intro h;obtain⟨he,hx⟩:=rG.mp h;refine#[⋯,e2.mpr ?_];rw[aT he,cM,bn,hx]
theorem Jv{l:()}{c:Nat}(h:c ∈ l):Txt.find (tx l) (tx [c])=((l.idxOf c:Nat):Int):=by
 have hlt:=bZ h;have hg:l[l.idxOf c]? = rp c:=by rw[ae hlt,dW]
 rcases PyProof.Rows.find_whole (tx l) (tx [c])with ⟨h1,h2⟩ | ⟨e,h1,h2,h3⟩
 ·exact absurd ((zcs l c _).mpr hg) (h2 _)
 ·have he:=(zcs l c e).mp h2
  have:e=l.idxOf c:=by
   rcases d6 e (l.idxOf c)with q | q | q
   ·have:=List.not_of_lt_findIdx (p:=(· == c)) q;obtain⟨h4,h5⟩:=rG.mp he;simp [h5]at this
   ·exact q
   ·exact absurd ((zcs l c _).mpr hg) (h3 _ q)
  rw[h1,this]
abbrev MkO(P:nU)(w:nY)(K:nO)(mg:nW->Option nQ)(base:oa)(C:nP):Prop:=DMk P w K mg base CX0 3 C ["self","letters"] (jm K)
abbrev MW(P:nU)(w:nY)(K:nO)(mg:nW->Option nQ)(base:oa)(C:nP)(m:nW)(sp:Sp):Prop:=DM P w K mg base CX0 1 C m ["self","word"] sp
structure TWS(P:nU)(w:nY)(K:nO)(mg:nW->Option nQ)(base:oa)(CO CR CW:nP):Prop extends TOrd K mg CO CR CW where
 mO:MkO P w K mg base CO
 mR:MkO P w K mg base CR
 wO:MW P w K mg base CO "weight" jN
 wR:MW P w K mg base CR "weight" jN
 sO:MW P w K mg base CO "seen" Wi
 sR:MW P w K mg base CR "seen" Z1
structure OG(l:())(ns:List Int)(k:Nat):Prop where
 g:ZU l=rz
 k3:k<3
 nl:ns.length=l.length
 nb:∀n ∈ ns,1<=n/\n<=1000000
noncomputable def ue(l:())(w:()):List Int:=w.map λc=>((l.idxOf c:Nat):Int)
noncomputable def wk(k:Nat)(l:())(w:()):List Int:=ue l (yc k w)
def zaO(CO CR CW:nP):nP->Prop:=λC=>C=CO\/C=CR\/C=CW
theorem OrdAt.fam{CO CR CW:nP}{H:Hp}{o:nP}{k:Nat}{l:()}{ns:List Int}(h:OrdAt CO CR CW H o k l ns):∃C dx fs,zaO CO CR CW C/\H o=rp (.ins C dx fs)/\(∀m:nW,m≠"letters"->m≠"weights"->fs.lookup m=rq)/\fs.lookup ("letters" : nW)=rp (V.str (tx l)):=by
 have e1:∀m:nW,m≠"letters"->(m ==("letters" : nW))=rA:=λm hm=>by simpa using hm
 obtain⟨dx,⟨h1,h2⟩ | ⟨h1,h2⟩⟩:=h
 ·exact#[_,_,_,.inl rfl,h2,λm hm _=>by simp [bj,e1 m hm],rfl]
 ·exact#[_,_,_,.inr (.inl rfl),h2,λm hm _=>by simp [bj,e1 m hm],rfl]
def uO(CO CR CW:nP):Sp:=λvs H Q _=>∃(o:nP) (k:Nat) (l:()) (ns:List Int) (w:()),vs=[.ref o,.str (tx w)]/\OrdAt CO CR CW H o k l ns/\OG l ns k/\w.length<=1000/\(∀c ∈ w,c ∈ l)/\∀(p q:nP) (H':Hp),Same H H'->H' p=rp (.tup [.int (zq k l ns w),.ref q])->H' q=rp (.lst ((wk k l w).map V.int))->Q (.ref p) H'
theorem UC{H:Hp}{CO CR CW o D:nP}{k:Nat}{l:()}{ns:List Int}{v:()}{a1:Option V}{Q:VK}(T:TOrd K mg CO CR CW)(ho:OrdAt CO CR CW H o k l ns)(hl:v.length<=1000)(hm:∀c ∈ v,c ∈ l)(hD:H D=rq)(q:∀H',Same H H'->H' D=rp (.lst ((ue l v).map V.int))->Q (.ref D) H') :
  CompS (tx v) (yI 0) xQ (tBM K "str" zu (zat K (z5 1) "letters") (zK (z5 0) xI)) 1 [0] [!!o,a1] H Q D:=by
 have s16:=ya;refine CompS.by (λi rE H'=>Same H H'/\H' D=rp (.lst rE)/\rE=(ue l (v.take i)).map V.int) #[zd hD,zc,rfl] ?_ ?_
 ·refine nm4 ?_;rintro i c rE H' hc ⟨hs,hH,rfl⟩:_;have hci:=(rG.mp hc).1;have hcl:=hm c (ag hc);obtain⟨C,dx,fs,hf,ho',_,hlk⟩:=(ho.same hs).fam
  have hC:Cls K C/\NoAttr K C "letters":=by
   rcases hf with rfl | rfl | rfl
   ·exact#[T.cO,T.lO]
   ·exact#[T.cR,T.lR]
   ·exact#[T.cW,T.lW]
  right
  erw[xQ]
  ac_rfl;refine#[yL,_,_,_,ho',hC.1,hC.2,_,hlk,trivial,_,rfl,_,Jv hcl,hH,by rw[ac];unfold ue;rw[ac,aF];lia,CNx.mk hci #[zy hs hD,zc,?_]];unfold ue;rw[zH hc,aq,aq];rfl
 ·rintro rE H' ⟨hs,hH,rfl⟩;rw[aH]at hH;exact q H' hs hH
theorem j5:sQz 2 ["self","word"] y8:=by nofun
theorem vv{f CO CR CW:nP}{fd:nS}(B:Bt mg)(T:TWS P w K mg base CO CR CW)(F:Fun K "rank" "Order.rank" y8 f fd) :(2&&&["self","word"]) (uO CO CR CW):=by
 exists F.ok j5
 ·obtain⟨o,k,l,ns,w,rfl,ho,hG,hw,hm,q⟩:=h;refine#[_,(zh (zt (zN (za (zaW T.wO T.wR T.wO T.cO T.cR T.cO hr (pv 0) (za (pv 1) ze)) (za (yC (own:=["letter"]) (caps:=["self"]) (ix:=[0]) (tt:=xQ) (te:=(tBM K "str" zu (zat K (z5 1) "letters") (zK (z5 0) xI))) rfl (zM (sc:=zg y8) rfl (by symm) (by symm) (by symm) rfl (by symm) (by symm) rfl) (Ua (zaW T.sO T.sR T.sO T.cO T.cR T.cO hr (pv 0) (za (pv 1) ze))) (λ_ _ _ _ _ _=>zx (i:=0) (show List.Nodup [_,_] by decide) rfl (.inl rfl)) (λ_ _ _ _ _ _=>yd) (λ_ _ _ _ _ _=>(vG bL PySem.F.slot_str_index PySem.F.type_str_index Kj (Q5 (pv 1) rfl) (za (pv 0) ze)))) ze))))),?_];have s16:=ya
  have hsl:(yc k w).length<=1000:=by
   unfold yc;split
   ·rw[bB];exact hw
   ·exact hw
  have hsm:∀c ∈ yc k w,c ∈ l:=λc hc=>by
   unfold yc at hc;split at hc
   ·exact hm c (rP.mp hc)
   ·exact hm c hc
  have l6:l.length<=6:=(of_decide_eq_true hG.g).2.1;have fin:∀H1,Same H H1->∀D,H1 D=rq->CompS (tx (yc k w)) (yI 0) xQ (tBM K "str" zu (zat K (z5 1) "letters") (zK (z5 0) xI)) 1 [0] [!!o,~~~w] H1 (λx5 H1=>2<=nN/\∀p,H1 p=rq->Q (.ref p) (upd H1 p (.tup [.int (zq k l ns w),x5]))) D:=λH1 s1 D hD=>UC T.toTOrd (ho.same s1) hsl hsm hD λH' s' hH=>#[⋯,λp hp=>q p D _ (s1.trans (s'.trans (zd hp))) zc (zd hp _ _ hH)];ac_rfl;obtain⟨dx',⟨h1,h2⟩ | ⟨h1,h2⟩⟩:=id ho
  ·have e1:zq k l ns w=(w.length:Int):=by unfold zq;rw[if_neg ⋯]
   have e2:yc k w=w:=by unfold yc;rw[if_neg ⋯]
   rw[e1,e2]at fin;exact .inl #[_,_,h2,rfl,o,w,rfl,hw,.inl #[_,_,h2,rfl,o,w,rfl,_,rfl,fin H (Same.refl _)]]
  ·have e1:zq k l ns w=(w.length:Int):=by unfold zq;rw[if_neg ⋯]
   have e2:yc k w=w.reverse:=by unfold yc;rw[if_pos h1]
   rw[e1,e2]at fin;exact .inr (.inl #[_,_,h2,rfl,o,w,rfl,hw,.inr (.inl #[_,_,h2,rfl,o,w,rfl,hw,_,rfl,fin H (Same.refl _)])])
noncomputable def zF(k:Nat)(l:())(ns:List Int)(u v:()):Bool:=if zq k l ns u=zq k l ns v then ltI (wk k l u) (wk k l v)else decide (zq k l ns u<zq k l ns v)
abbrev DR(P:nU)(w:nY)(K:nO)(mg:nW->Option nQ)(base:oa)(CO CR CW:nP):Prop:=DMF P w K mg base CX0 2 (zaO CO CR CW) "rank" ["self","word"] (λ_=>uO CO CR CW)
theorem jt{H:Hp}{p q:nP}{z:Int}{ns:List Int}(hp:H p=rp (.tup [.int z,.ref q]))(hq:H q=rp (.lst (ns.map V.int))):Is K H (.tup [.int z,.lst (ns.map L3.D.int)]) (.ref p):=by
 erw[Is,Iss]
 exact#[p,_,rfl,SqT.of hp,_,_,rfl,rfl,_,_,rfl,#[q,_,rfl,SqL.of hq,Iss.ints ns],rfl]
theorem yP:∀x:List Int,ltI x x=rA
 | []=>rfl
 | a::x=>by
  rw[ltI,if_pos rfl];exact yP x
theorem Wy(a b:Int)(x y:List Int):ltD (.tup [.int a,.lst (x.map L3.D.int)]) (.tup [.int b,.lst (y.map L3.D.int)])=if a=b then ltI x y else decide (a<b):=by
 erw[ltD,xo,eqD,qy,Zh]
 by_cases h:a=b
 ·subst h;by_cases h2:x=y
  ·subst h2;simp [yP]
  ·simp [h2]
 ·simp [h]
def WY(CO CR CW:nP):Sp:=λvs H Q _=>∃(o:nP) (k:Nat) (l:()) (ns:List Int) (u v:()),vs=[.ref o,.str (tx u),.str (tx v)]/\OrdAt CO CR CW H o k l ns/\OG l ns k/\u.length<=1000/\v.length<=1000/\(∀c ∈ u,c ∈ l)/\(∀c ∈ v,c ∈ l)/\∀H':Hp,Same H H'->Q (.bl (zF k l ns u v)) H'
theorem uG:sQz 3 ["self","one","other"] xl:=by nofun
theorem xR{f CO CR CW:nP}{fd:nS}(B:Bt mg)(DRk:DR P w K mg base CO CR CW)(F:Fun K "before" "Order.before" xl f fd) :(3&&&["self","one","other"]) (WY CO CR CW):=by
 exists F.ok uG
 ·obtain⟨o,k,l,ns,u,v,rfl,ho,hG,hu,hv,hmu,hmv,q⟩:=h;refine#[_,(zh (zt (xZ (zbs (Z3 hr)) (zas DRk hr (pv 0) (za (pv 1) ze)) (zas DRk hr (pv 0) (za (pv 2) ze)) (zE _)))),?_];have s16:=ya;ac_rfl;obtain⟨C,dx,fs,hf,ho1,hn,_⟩:=ho.fam;have h1:fs.lookup ("rank" : nW)=rq:=hn _ ∅ ∅;refine#[C,hf,dx,fs,ho1,h1,o,k,l,ns,u,rfl,ho,hG,hu,hmu,λp x H1 s1 hp hx=>#[C,hf,dx,fs,s1 _ _ ho1,h1,o,k,l,ns,v,rfl,ho.same s1,hG,hv,hmv,λp' x' H2 s2 hp' hx'=>?_]];refine Kt (jt (s2 _ _ hp) (s2 _ _ hx)) (jt hp' hx') (by erw[dpD,wW,jD];decide) (by erw[okD,j4];exact#[trivial,vw _ _,trivial]) ?_;rw[Wy];exact q H2 (s1.trans s2)
abbrev DB(P:nU)(w:nY)(K:nO)(mg:nW->Option nQ)(base:oa)(CO CR CW:nP):Prop:=DMF P w K mg base CX0 3 (zaO CO CR CW) "before" ["self","one","other"] (λ_=>WY CO CR CW)
noncomputable def Jj(k:Int)(ls:())(ns:List Int)(w:()):Int:=(w.map λc=>if k=2 then ns.getD (ls.idxOf c) 0 else 1).sum
theorem U7{k:Int}{ls:()}{ns:List Int}{w:()}(h:k≠2):Jj k ls ns w=(w.length:Int):=by
 unfold Jj
 induction w with
 | nil=>rfl
 | cons c w ih =>
  rw[aj,bh,ih,if_neg h,aE];lia
theorem qh{ls:()}{ns:List Int}(f g:Nat->Int):((ls.zip ns).map λp=>(f p.1+g p.1) * p.2).sum=((ls.zip ns).map λp=>f p.1 * p.2).sum+((ls.zip ns).map λp=>g p.1 * p.2).sum:=by
 induction ls.zip ns with
 | nil=>rfl
 | cons p r ih =>
  rw[aj,aj,aj,bh,bh,bh,ih,Int.add_mul];lia
theorem WB:∀{ls:()} {ns:List Int} {c:Nat},ls.Nodup->ns.length=ls.length->c ∈ ls->((ls.zip ns).map λp=>(if p.1=c then (1:Int)else 0) * p.2).sum=ns.getD (ls.idxOf c) 0
 | [],ns,c,_,_,hc=>(nomatch hc)
 | d::ls,[],c,_,hl,_=>by cases hl
 | d::ls,n::ns,c,hn,hl,hc=>by
  rw[cy,aj,bh];have hnd:=rR.mp hn;by_cases h:d=c
  ·subst h
   have h0:∀(l:()) (m:List Int),d ∉ l->((l.zip m).map λp=>(if p.1=d then (1:Int)else 0) * p.2).sum=0:=by
    intro l
    induction l with
    | nil=>intro m _;rfl
    | cons x l ih =>
     intro m hx
     cases m with
     | nil=>rfl
     | cons y m =>
      rw[cy,aj,bh,ih m (λq=>hx (ar _ q)),if_neg (show ¬ x=d from λe=>hx (by rw[e];exact az))];lia
   rw[h0 ls ns hnd.1,if_pos rfl,List.idxOf_cons_self];simp
  ·have hc':c ∈ ls:=by
    rcases rH.mp hc with e | e
    ·exact absurd e.symm h
    ·exact e
   rw[WB hnd.2 (by simpa using hl) hc',if_neg h,eO,show (d == c)=rA by simpa using h];simp
theorem Yy{ls:()}{ns:List Int}(hn:ls.Nodup)(hl:ns.length=ls.length):∀{w:()},(∀x ∈ w,x ∈ ls)->Jj 2 ls ns w=Ui ls ns w
 | [],_=>by
  have h0:∀r:List (Nat × Int),(r.map λp=>((([]:()).count p.1:Nat):Int) * p.2).sum=0:=by
   intro r
   induction r with
   | nil=>rfl
   | cons p r ih=>rw[aj,bh,ih];simp
  exact (h0 _).symm
 | c::w,h=>by
  have ih:=Yy hn hl (w:=w) λx hx=>h x (ar _ hx)
  have e1:Jj 2 ls ns (c::w)=ns.getD (ls.idxOf c) 0+Jj 2 ls ns w:=by
   unfold Jj;rw[aj,bh,if_pos rfl]
  rw[e1,ih,<- WB hn hl (h c az)];unfold Ui;rw[<- qh (λx=>if x=c then 1 else 0) (λx=>(w.count x:Int))];refine congrArg List.sum (aU λp _=>?_);rw[List.count_cons];by_cases e:c=p.1
  ·rw[if_pos e.symm,if_pos (by simpa using e)];simp [Int.add_comm]
  ·rw[if_neg (λz=>e z.symm),if_neg (by simpa using e)];simp
noncomputable def wt(k:Nat)(ns:List Int)(i:Int):Int:=if k=2 then ns.getD i.toNat 0 else 1
theorem xy{g:Int->Int}:∀{x:List Int},(∀i ∈ x,0<g i)->0<=(x.map g).sum
 | [],_=>by simp
 | a::x,h=>by
  have h1:=h a az;have h2:=xy (x:=x) λi hi=>h i (ar _ hi);rw[aj,bh];lia
theorem xT:∀{x y:List Int},x≠y->ltI x y=!ltI y x
 | [],[],h=>absurd rfl h
 | [],_::_,_=>rfl
 | _::_,[],_=>rfl
 | a::x,b::y,h=>by
  rw[ltI,ltI];by_cases e:a=b
  ·rw[if_pos e,if_pos e.symm];exact xT λq=>h (by rw[e,q])
  ·rw[if_neg e,if_neg λq=>e q.symm];by_cases c:a<b
   ·rw[decide_eq_true c,decide_eq_false ⋯];rfl
   ·rw[decide_eq_false c,decide_eq_true ⋯];rfl
theorem uV:∀{x y z:List Int},ltI x y=rz->ltI y z=rz->ltI x z=rz
 | [],[],_,h,_=>by cases h
 | [],_::_,[],_,h=>by cases h
 | [],_::_,_::_,_,_=>rfl
 | _::_,[],_,h,_=>by cases h
 | _::_,_::_,[],_,h=>by cases h
 | a::x,b::y,c::z,h1,h2=>by
  rw[ltI]at h1 h2 ⊢;by_cases e:a=b
  ·subst e;rw[if_pos rfl]at h1;by_cases f:a=c
   ·rw[if_pos f]at h2 ⊢;exact uV h1 h2
   ·rw[if_neg f]at h2 ⊢;exact h2
  ·rw[if_neg e]at h1;have h1':=of_decide_eq_true h1;by_cases f:b=c
   ·subst f;rw[if_neg e];exact h1
   ·rw[if_neg f]at h2;have h2':=of_decide_eq_true h2;rw[if_neg ⋯];exact decide_eq_true ⋯
theorem Zz:∀(c x y:List Int),ltI (c ++ x) (c ++ y)=ltI x y
 | [],_,_=>rfl
 | a::c,x,y=>by
  rw[br,br,ltI,if_pos rfl];exact Zz c x y
theorem YU{g:Int->Int}{c:List Int}:∀{x y:List Int},(∀i ∈ x,0<g i)->(∀i ∈ y,0<g i)->(x.map g).sum=(y.map g).sum->ltI (x ++ c) (y ++ c)=ltI x y
 | [],[],_,_,_=>yP c
 | [],b::y,_,hy,h=>by
  have h1:=hy b az;have h2:=xy (x:=y) λi hi=>hy i (ar _ hi);rw[aj,bh,aw,List.sum_nil]at h;lia
 | a::x,[],hx,_,h=>by
  have h1:=hx a az;have h2:=xy (x:=x) λi hi=>hx i (ar _ hi);rw[aj,bh,aw,List.sum_nil]at h;lia
 | a::x,b::y,hx,hy,h=>by
  rw[br,br,ltI,ltI];by_cases e:a=b
  ·rw[if_pos e,if_pos e];rw[aj,bh,aj,bh,e]at h;exact YU (λi hi=>hx i (ar _ hi)) (λi hi=>hy i (ar _ hi)) ⋯
  ·rw[if_neg e,if_neg e]
section
variable{k:Nat}{l:()}{ns:List Int}{t u v:()}
theorem Uk(a b:()):Ui l ns (a ++ b)=Ui l ns a+Ui l ns b:=by
 unfold Ui;rw[<- qh (λx=>(a.count x:Int)) (λx=>(b.count x:Int))];refine congrArg List.sum (aU λp _=>?_);rw[List.count_append];simp
theorem yQ(a b:()):zq k l ns (a ++ b)=zq k l ns a+zq k l ns b:=by
 unfold zq;by_cases h:k=2
 ·rw[if_pos h,if_pos h,if_pos h,Uk]
 ·rw[if_neg h,if_neg h,if_neg h,am];lia
theorem yO(G:OG l ns k):∀{w:()},(∀c ∈ w,c ∈ l)->zq k l ns w=((ue l w).map (wt k ns)).sum:=by
 intro w hm;have hn:l.Nodup:=(of_decide_eq_true G.g).2.2.2
 have e:((ue l w).map (wt k ns)).sum=Jj (k:Int) l ns w:=by
  unfold ue Jj;rw[aV];refine congrArg List.sum (aU λc _=>?_);show wt k ns _=_;unfold wt;by_cases h:k=2
  ·rw[if_pos h,if_pos ⋯,aP]
  ·rw[if_neg h,if_neg ⋯]
 rw[e];unfold zq;by_cases h:k=2
 ·rw[if_pos h,h];exact (Yy hn G.nl hm).symm
 ·rw[if_neg h,U7 ⋯]
theorem kL(G:OG l ns k)(hm:∀c ∈ u,c ∈ l):∀i ∈ ue l u,0<wt k ns i:=by
 intro i hi;obtain⟨c,hc,rfl⟩:=rF.mp hi;have hlt:=bZ (hm c hc);have hl:=G.nl;unfold wt;split
 ·rw[aP,aa,ae ⋯];have:=(G.nb _ (List.getElem_mem (l:=ns) (n:=l.idxOf c) ⋯)).1;show 0<ns[l.idxOf c];lia
 ·decide
theorem vD(G:OG l ns k)(hm:∀c ∈ u,c ∈ l):0<=zq k l ns u:=by
 rw[yO G hm];exact xy (kL G hm)
theorem qS(G:OG l ns k)(hm:∀c ∈ u,c ∈ l)(h:u≠[]):0<zq k l ns u:=by
 cases u with
 | nil=>exact absurd rfl h
 | cons a u =>
  have h1:=kL G hm (l.idxOf a:Nat) (rF.mpr #[a,az,rfl]);have h2:0<=((ue l u).map (wt k ns)).sum:=xy (kL (u:=u) G λc hc=>hm c (ar _ hc));rw[yO G hm];show 0<((((l.idxOf a:Nat):Int)::ue l u).map (wt k ns)).sum;rw[aj,bh];lia
theorem jW:∀{u v:()},(∀c ∈ u,c ∈ l)->(∀c ∈ v,c ∈ l)->ue l u=ue l v->u=v
 | [],[],_,_,_=>rfl
 | [],_::_,_,_,h=>by cases h
 | _::_,[],_,_,h=>by cases h
 | a::u,b::v,hu,hv,h=>by
  unfold ue at h;rw[aj,aj]at h;injection h with h1 h2;have h3:l.idxOf a=l.idxOf b:=⋯;have ha:=dW (bZ (hu a az));have hb:=dW (bZ (hv b az))
  have:a=b:=by
   rw[<- ha,<- hb]
   erw[h3]
  rw[this,jW (λc hc=>hu c (ar _ hc)) (λc hc=>hv c (ar _ hc)) h2]
theorem y6:zF k l ns u u=rA:=by
 unfold zF;rw[if_pos rfl,yP]
theorem jx(hu:∀c ∈ u,c ∈ l)(hv:∀c ∈ v,c ∈ l)(h:wk k l u=wk k l v):u=v:=by
 unfold wk yc at h;by_cases e:k=1
 ·rw[if_pos e,if_pos e]at h;exact List.reverse_inj.mp (jW (λc hc=>hu c (rP.mp hc)) (λc hc=>hv c (rP.mp hc)) h)
 ·rw[if_neg e,if_neg e]at h;exact jW hu hv h
theorem qo(hu:∀c ∈ u,c ∈ l)(hv:∀c ∈ v,c ∈ l)(h:u≠v):zF k l ns u v=!zF k l ns v u:=by
 unfold zF;by_cases e:zq k l ns u=zq k l ns v
 ·rw[if_pos e,if_pos e.symm];exact xT λq=>h (jx hu hv q)
 ·rw[if_neg e,if_neg λq=>e q.symm];by_cases c:zq k l ns u<zq k l ns v
  ·rw[decide_eq_true c,decide_eq_false ⋯];rfl
  ·rw[decide_eq_false c,decide_eq_true ⋯];rfl
theorem qp(h1:zF k l ns t u=rz)(h2:zF k l ns u v=rz):zF k l ns t v=rz:=by
 unfold zF at h1 h2 ⊢;generalize zq k l ns t=a at *;generalize zq k l ns u=b at *;generalize zq k l ns v=c at *;by_cases e:a=b
 ·subst e;rw[if_pos rfl]at h1;by_cases f:a=c
  ·rw[if_pos f]at h2 ⊢;exact uV h1 h2
  ·rw[if_neg f]at h2 ⊢;exact h2
 ·rw[if_neg e]at h1;have h1':=of_decide_eq_true h1;by_cases f:b=c
  ·subst f;rw[if_neg e];exact h1
  ·rw[if_neg f]at h2;have h2':=of_decide_eq_true h2;rw[if_neg ⋯];exact decide_eq_true ⋯
theorem YV(a b:()):ue l (a ++ b)=ue l a ++ ue l b:=aq
theorem Ze(G:OG l ns k)(hu:∀c ∈ u,c ∈ l)(hv:∀c ∈ v,c ∈ l)(e:zq k l ns u=zq k l ns v)(c:List Int):ltI (ue l u ++ c) (ue l v ++ c)=ltI (ue l u) (ue l v):=by
 rw[yO G hu,yO G hv]at e;exact YU (kL G hu) (kL G hv) e
theorem qM(G:OG l ns k)(hu:∀c ∈ u,c ∈ l):zq k l ns u.reverse=zq k l ns u:=by
 rw[yO G hu,yO G λc hc=>hu c (rP.mp hc)];unfold ue;rw[dA,dA,List.sum_reverse]
theorem kq(G:OG l ns k)(ht:∀c ∈ t,c ∈ l)(hu:∀c ∈ u,c ∈ l)(hv:∀c ∈ v,c ∈ l):zF k l ns (t ++ u) (t ++ v)=zF k l ns u v/\zF k l ns (u ++ t) (v ++ t)=zF k l ns u v:=by
 have hur:∀c ∈ u.reverse,c ∈ l:=λc hc=>hu c (rP.mp hc);have hvr:∀c ∈ v.reverse,c ∈ l:=λc hc=>hv c (rP.mp hc);unfold zF;rw[yQ,yQ,yQ,yQ];by_cases e:zq k l ns u=zq k l ns v
 ·rw[if_pos ⋯,if_pos e,if_pos ⋯];unfold wk yc;by_cases f:k=1
  ·erw[if_pos f,List.reverse_append,YV]
   exact#[Ze G hur hvr (by rw[qM G hu,qM G hv,e]) _,Zz _ _ _]
  ·erw[if_neg f,YV]
   exact#[Zz _ _ _,Ze G hu hv e _]
 ·rw[if_neg ⋯,if_neg e,if_neg ⋯];exact#[by congr 1;exact propext ⋯,by congr 1;exact propext ⋯]
theorem UL(G:OG l ns k)(ht:∀c ∈ t,c ∈ l)(hu:∀c ∈ u,c ∈ l)(hv:∀c ∈ v,c ∈ l)(h:t ++ u ++ v≠u):zF k l ns u (t ++ u ++ v)=rz/\zF k l ns (t ++ u ++ v) u=rA:=by
 have h0:0<zq k l ns t+zq k l ns v:=by
  have h1:=vD G ht;have h2:=vD G hv;by_cases e:t=[]
  ·by_cases f:v=[]
   ·subst e f;simp at h
   ·have:=qS G hv f;lia
  ·have:=qS G ht e;lia
 unfold zF;rw[yQ,yQ,if_neg ⋯,if_neg ⋯];exact#[decide_eq_true ⋯,decide_eq_false ⋯]
end
theorem ku:∀x y:List Int,ltI x y=rz->ltI y x=rA
 | [],[],h=>by cases h
 | [],_::_,_=>rfl
 | _::_,[],h=>by cases h
 | a::x,b::y,h=>by
  rw[ltI]at h ⊢;by_cases e:a=b
  ·rw[if_pos e]at h;rw[if_pos e.symm];exact ku x y h
  ·rw[if_neg e]at h;rw[if_neg (λq=>e q.symm)];have:=of_decide_eq_true h;exact decide_eq_false ⋯
theorem ZM{k:Nat}{l:()}{ns:List Int}{u v:()}(h:zF k l ns u v=rz):zF k l ns v u=rA:=by
 unfold zF at h ⊢;by_cases e:zq k l ns u=zq k l ns v
 ·rw[if_pos e]at h;rw[if_pos e.symm];exact ku _ _ h
 ·rw[if_neg e]at h;rw[if_neg (λq=>e q.symm)];have:=of_decide_eq_true h;exact decide_eq_false ⋯
noncomputable def stJ(l:())(ps:List zk)(q j:Nat):Bool:=((ps[j]?).map λp=>zr l (q:Int) p.1).getD rA
theorem jf{l:()}{ps:List zk}{q j:Nat}{p:zk}(h:ps[j]? = rp p):stJ l ps q j=zr l (q:Int) p.1:=by
 unfold stJ;rw[h];rfl
theorem wL{l:()}{ps:List zk}{q j:Nat}(h:stJ l ps q j=rz):j<ps.length/\∃p,ps[j]? = rp p/\zr l (q:Int) p.1=rz:=by
 unfold stJ at h
 cases e:ps[j]? with
 | none=>rw[e]at h;cases h
 | some p =>
  rw[e]at h;exact#[(rG.mp e).1,p,rfl,h]
noncomputable def uq(l:())(ps:List zk)(q i:Nat):List (Nat × Nat):=((aQ i).filter (stJ l ps q)).map λj=>(j,q)
noncomputable def y0(l:())(ps:List zk)(k:Nat):List (Nat × Nat):=(aQ k).flatMap λq=>uq l ps q ps.length
theorem Xs(l:())(ps:List zk)(q i:Nat):uq l ps q (i+1)=uq l ps q i ++ (if stJ l ps q i=rz then [(i,q)]else []):=by
 unfold uq;rw[cf,cz,aq];congr 1;by_cases h:stJ l ps q i=rz
 ·rw[if_pos h,eK h];rfl
 ·rw[if_neg h,eL h];rfl
theorem qQ(l:())(ps:List zk)(k:Nat):y0 l ps (k+1)=y0 l ps k ++ uq l ps k ps.length:=by
 unfold y0;rw[cf,cN];simp
theorem VM(l:())(ps:List zk)(q i:Nat):(uq l ps q i).length<=i:=by
 unfold uq;rw[ac];have:=cE (stJ l ps q) (aQ i);rw[cD]at this;exact this
theorem Vk(l:())(ps:List zk):∀k,(y0 l ps k).length<=k * ps.length
 | 0=>by simp [y0]
 | k+1=>by
  rw[qQ,am,dC];have:=Vk l ps k;have:=VM l ps k ps.length;lia
theorem usesN_mem{l:()}{ps:List zk}{q i:Nat}{u:Nat × Nat}:u ∈ uq l ps q i ↔ u.2=q/\u.1<i/\stJ l ps q u.1=rz:=by
 unfold uq;rw[List.mem_map];constructor
 ·rintro⟨j,hj,rfl⟩;rw[List.mem_filter,eV]at hj;exact#[rfl,hj.1,hj.2]
 ·rintro⟨h1,h2,h3⟩;exact#[u.1,rN.mpr #[rM.mpr h2,h3],by rw[<- h1]]
theorem usesK_mem{l:()}{ps:List zk}{k:Nat}{u:Nat × Nat}:u ∈ y0 l ps k ↔ u.2<k/\stJ l ps u.2 u.1=rz:=by
 unfold y0;rw[List.mem_flatMap];constructor
 ·rintro⟨q,hq,hu⟩;obtain⟨h1,h2,h3⟩:=usesN_mem.mp hu;rw[eV]at hq;rw[h1];exact#[hq,h3]
 ·rintro⟨h1,h2⟩;exact#[u.2,rM.mpr h1,usesN_mem.mpr #[rfl,(wL h2).1,h2]]
def uLt(a b:Nat × Nat):Prop:=a.2<b.2\/(a.2=b.2/\a.1<b.1)
theorem ub(l:())(ps:List zk)(q:Nat):∀i,(uq l ps q i).Pairwise uLt
 | 0=>by simp [uq]
 | i+1=>by
  rw[Xs];refine sk.mpr #[ub l ps q i,?_,λa ha b hb=>?_]
  ·split
   ·exact df _ _
   ·exact List.Pairwise.nil
  ·obtain⟨h1,h2,_⟩:=usesN_mem.mp ha;split at hb
   ·rw[rK.mp hb];exact .inr #[h1,h2]
   ·cases hb
theorem wx(l:())(ps:List zk):∀k,(y0 l ps k).Pairwise uLt
 | 0=>by simp [y0]
 | k+1=>by
  rw[qQ];refine sk.mpr #[wx l ps k,ub l ps k _,λa ha b hb=>?_];have h1:=(usesK_mem.mp ha).1;have h2:=(usesN_mem.mp hb).1;exact .inl ⋯
def FirstN(l:())(ps:List zk)(lo hi n:Nat)(r:Option (Nat × Nat)):Prop :=
 (r=rq/\∀j q,j<n->lo<=q->q<hi->stJ l ps q j=rA) \/
 ∃n0 q0,r=rp (n0,q0)/\n0<n/\lo<=q0/\q0<hi/\stJ l ps q0 n0=rz/\∀j q,j<n->lo<=q->stJ l ps q j=rz->q0<q\/(q0=q/\n0<=j)
theorem FirstN.uniq{l:()}{ps:List zk}{lo hi n:Nat}{r r':Option (Nat × Nat)}(h:FirstN l ps lo hi n r)(h':FirstN l ps lo hi n r'):r=r':=by
 rcases h with ⟨rfl,h⟩ | ⟨n0,q0,rfl,a1,a2,a3,a4,a5⟩
 ·rcases h' with ⟨rfl,_⟩ | ⟨n0,q0,rfl,a1,a2,a3,a4,a5⟩
  ·rfl
  ·rw[h n0 q0 a1 a2 a3]at a4;cases a4
 ·rcases h' with ⟨rfl,h⟩ | ⟨n1,q1,rfl,b1,b2,b3,b4,b5⟩
  ·rw[h n0 q0 a1 a2 a3]at a4;cases a4
  ·have x1:=a5 n1 q1 b1 b2 b4;have x2:=b5 n0 q0 a1 a2 a4;have e1:q0=q1:=⋯;have e2:n0=n1:=⋯;rw[e1,e2]
theorem Xm{l:()}{ps:List zk}{r:Option (Nat × Nat)}(h:FirstN l ps 0 l.length ps.length r):r=(y0 l ps l.length).head?:=by
 have hs:=wx l ps l.length;refine h.uniq ?_
 cases e:y0 l ps l.length with
 | nil =>
  refine .inl #[rfl,λj q _ _ hq=>?_]
  cases hb:stJ l ps q j with
  | false=>rfl
  | true =>
   have:(j,q) ∈ y0 l ps l.length:=usesK_mem.mpr #[hq,hb];rw[e]at this;cases this
 | cons u us =>
  rw[e]at hs;have hu:u ∈ y0 l ps l.length:=by rw[e];exact az
  obtain⟨h1,h2⟩:=usesK_mem.mp hu;refine .inr #[u.1,u.2,rfl,(wL h2).1,aB _,h1,h2,λj q hj _ hb=>?_];by_cases hq:q<l.length
  ·have:(j,q) ∈ y0 l ps l.length:=usesK_mem.mpr #[hq,hb];rw[e]at this;rcases rH.mp this with e2 | e2
   ·rw[<- e2];exact .inr #[rfl,ao _]
   ·rcases (rW.mp hs).1 _ e2 with h | ⟨h,h'⟩
    ·exact .inl h
    ·exact .inr #[h,da h']
  ·exact .inl ⋯
theorem ql{l p:()}{q:Nat}(hp:p≠[])(h:zr l (q:Int) p=rz):q<l.length:=by
 obtain⟨h0,h1,_⟩:=of_decide_eq_true h;have:0<p.length:=rT.mpr hp;lia
theorem FirstN.keep{l:()}{ps:List zk}{lo hi n:Nat}{r:Option (Nat × Nat)}{p:zk}(h:FirstN l ps lo hi n r)(hp:ps[n]? = rp p)(hn:∀q:Nat,lo<=q->q<(r.map Prod.snd).getD hi->zr l (q:Int) p.1=rA):FirstN l ps lo hi (n+1) r:=by
 rcases h with ⟨rfl,h⟩ | ⟨n0,q0,rfl,a1,a2,a3,a4,a5⟩
 ·refine .inl #[rfl,λj q hj h1 h2=>?_];by_cases e:j<n
  ·exact h j q e h1 h2
  ·have:j=n:=⋯;subst this;rw[jf hp];exact hn q h1 h2
 ·refine .inr #[n0,q0,rfl,⋯,a2,a3,a4,λj q hj h1 h2=>?_];by_cases e:j<n
  ·exact a5 j q e h1 h2
  ·have:j=n:=⋯;subst this;rw[jf hp]at h2;by_cases hq:q<q0
   ·rw[hn q h1 hq]at h2;cases h2
   ·lia
theorem FirstN.take{l:()}{ps:List zk}{lo hi n k:Nat}{r:Option (Nat × Nat)}{p:zk}(h:FirstN l ps lo hi n r)(hp:ps[n]? = rp p)(h1:lo<=k)(h2:k<(r.map Prod.snd).getD hi)(h3:zr l (k:Int) p.1=rz)(hn:∀q:Nat,lo<=q->q<k->zr l (q:Int) p.1=rA):FirstN l ps lo hi (n+1) (rp (n,k)):=by
 have hk:k<hi/\∀j q,j<n->lo<=q->stJ l ps q j=rz->k<q:=by
  rcases h with ⟨rfl,h⟩ | ⟨n0,q0,rfl,a1,a2,a3,a4,a5⟩
  ·refine#[h2,λj q hj hl hb=>?_];by_cases hq:q<hi
   ·rw[h j q hj hl hq]at hb;cases hb
   ·have h2':k<hi:=h2;lia
  ·have h2':k<q0:=h2;refine#[⋯,λj q hj hl hb=>?_];have:=a5 j q hj hl hb;lia
 refine .inr #[n,k,rfl,⋯,h1,hk.1,by rw[jf hp];exact h3,λj q hj hl hb=>?_];by_cases e:j<n
 ·exact .inl (hk.2 j q e hl hb)
 ·have:j=n:=⋯;subst this;rw[jf hp]at hb;by_cases hq:q<k
  ·rw[hn q hl hq]at hb;cases hb
  ·lia
theorem FirstN.window{l:()}{ps:List zk}{lo mid hi n:Nat}{r:Option (Nat × Nat)}(h0:FirstN l ps lo mid n rq)(hm:lo<=mid)(h:FirstN l ps mid hi n r):FirstN l ps lo hi n r:=by
 have h0':∀j q,j<n->lo<=q->q<mid->stJ l ps q j=rA:=by
  rcases h0 with ⟨_,h⟩ | ⟨_,_,h,_⟩
  ·exact h
  ·cases h
 rcases h with ⟨rfl,h⟩ | ⟨n0,q0,rfl,a1,a2,a3,a4,a5⟩
 ·refine .inl #[rfl,λj q hj h1 h2=>?_];by_cases e:q<mid
  ·exact h0' j q hj h1 e
  ·exact h j q hj ⋯ h2
 ·refine .inr #[n0,q0,rfl,a1,⋯,a3,a4,λj q hj h1 h2=>?_];by_cases e:q<mid
  ·rw[h0' j q hj h1 e]at h2;cases h2
  ·exact a5 j q hj ⋯ h2
def NeL(ps:List zk):Prop:=∀p ∈ ps,p.1≠[]
theorem FirstN.toEnd{l:()}{ps:List zk}{lo hi n:Nat}{r:Option (Nat × Nat)}(hN:NeL ps)(h:FirstN l ps lo hi n r)(hl:r=rq->l.length<=hi):FirstN l ps lo l.length n r:=by
 have hlt:∀j q,stJ l ps q j=rz->q<l.length:=λj q hb=>by
  obtain⟨_,p,hp,hs⟩:=wL hb;exact ql (hN p (ag hp)) hs
 rcases h with ⟨rfl,h⟩ | ⟨n0,q0,rfl,a1,a2,a3,a4,a5⟩
 ·exact .inl #[rfl,λj q hj h1 h2=>h j q hj h1 (by have:=hl rfl;lia)]
 ·exact .inr #[n0,q0,rfl,a1,a2,hlt _ _ a4,a4,a5]
noncomputable def zA(l:())(ps:List zk):Option (Nat × Nat):=(y0 l ps l.length).head?
theorem YA{l:()}{ps:List zk}{r:Option (Nat × Nat)}(h:FirstN l ps 0 l.length ps.length r):r=zA l ps:=Xm h
theorem Xf(l:())(ps:List zk)(hN:NeL ps):FirstN l ps 0 l.length ps.length (zA l ps):=by
 have hs:=wx l ps l.length;unfold zA
 cases e:y0 l ps l.length with
 | nil =>
  refine .inl #[rfl,λj q _ _ hq=>?_]
  cases hb:stJ l ps q j with
  | false=>rfl
  | true =>
   have:(j,q) ∈ y0 l ps l.length:=usesK_mem.mpr #[hq,hb];rw[e]at this;cases this
 | cons u us =>
  rw[e]at hs;have hu:u ∈ y0 l ps l.length:=by rw[e];exact az
  obtain⟨h1,h2⟩:=usesK_mem.mp hu;refine .inr #[u.1,u.2,rfl,(wL h2).1,aB _,h1,h2,λj q hj _ hb=>?_]
  have hq:q<l.length:=by
   obtain⟨_,p,hp,hs⟩:=wL hb;exact ql (hN p (ag hp)) hs
  have:(j,q) ∈ y0 l ps l.length:=usesK_mem.mpr #[hq,hb];rw[e]at this;rcases rH.mp this with e2 | e2
  ·rw[<- e2];exact .inr #[rfl,ao _]
  ·rcases (rW.mp hs).1 _ e2 with h | ⟨h,h'⟩
   ·exact .inl h
   ·exact .inr #[h,da h']
noncomputable def k9(ps:List zk)(n:Nat):zk:=ps.getD n ([],[])
theorem xx{ps:List zk}{n:Nat}{p:zk}(h:ps[n]? = rp p):k9 ps n=p:=by
 unfold k9;rw[aa,h];rfl
noncomputable def kC(l:())(ps:List zk)(u:Nat × Nat):():=yE l (u.2:Int) (k9 ps u.1).1 (k9 ps u.1).2
noncomputable def ZS(ps:List zk)(l:()):():=((zA l ps).map (kC l ps)).getD l
noncomputable def wAt(ps:List zk)(l:()):Nat->()
 | 0=>l
 | j+1=>ZS ps (wAt ps l j)
noncomputable def sAt(ps:List zk)(l:())(j:Nat):List (Nat × Nat):=(aQ j).map λi=>(zA (wAt ps l i) ps).getD (0,0)
theorem YO(ps:List zk)(l:())(j:Nat):sAt ps l (j+1)=sAt ps l j ++ [(zA (wAt ps l j) ps).getD (0,0)]:=by
 unfold sAt;rw[cf,aq];rfl
theorem wX(ps:List zk)(l:())(j:Nat):(sAt ps l j).length=j:=by
 unfold sAt;rw[ac,cD]
theorem wA{ps:List zk}{l:()}{j:Nat}{u:Nat × Nat}(h:zA (wAt ps l j) ps=rp u):wAt ps l (j+1)=kC (wAt ps l j) ps u:=by
 show ZS ps (wAt ps l j)=_;unfold ZS;rw[h];rfl
def Xu(ps:List zk)(l:())(j:Nat):Prop:=∀i,i<j->zA (wAt ps l i) ps≠rq
theorem YN{ps:List zk}{l:()}{i j:Nat}(h1:Xu ps l i)(h2:zA (wAt ps l i) ps=rq)(h3:Xu ps l j)(h4:zA (wAt ps l j) ps=rq):i=j:=by
 rcases d6 i j with h | h | h
 ·exact absurd h2 (h3 i h)
 ·exact h
 ·exact absurd h4 (h1 j h)
theorem XV{l:()}{ps:List zk}{n q M lo:Nat}(h:FirstN l ps 0 l.length ps.length (rp (n,q)))(hN:NeL ps)(hM:∀p ∈ ps,p.1.length<=M)(hlo:lo=0\/lo+M<=q+1):FirstN (kC l ps (n,q)) ps 0 lo ps.length rq:=by
 refine .inl #[rfl,λj x hj _ hx=>?_];rcases h with ⟨h,_⟩ | ⟨n0,q0,e,a1,a2,a3,a4,a5⟩
 ·cases h
 ·injection e with e;injection e with e1 e2;subst e1 e2
  cases hb:stJ (kC l ps (n,q)) ps x j with
  | false=>rfl
  | true =>
   obtain⟨_,p,hp,hs⟩:=wL hb;have hpm:=hM p (ag hp);have hpn:=rT.mpr (hN p (ag hp));have hxq:x+p.1.length<=q:=⋯;obtain⟨s0,s1,s2⟩:=of_decide_eq_true hs;rw[aP]at s2;obtain⟨_,p2,hp2,hs2⟩:=wL a4;obtain⟨t0,t1,t2⟩:=of_decide_eq_true hs2
   have e4:(kC l ps (n,q)).take q=l.take q:=by
    unfold kC yE;rw[aP,aR,bi (by rw[aF];lia),eW,eg]
   have e5:∀z:(),((z.take q).drop x).take p.1.length=(z.drop x).take p.1.length:=λz=>by
    rw[List.drop_take,eW];congr 1;lia
   have s3:(l.drop x).take p.1.length=p.1:=by rw[<- e5,<- e4,e5,s2]
   have:stJ l ps x j=rz:=by
    rw[jf hp];exact decide_eq_true #[⋯,⋯,by rw[aP];exact s3]
   have:=a5 j x hj (aB _) this;lia
theorem FirstN.lower{l:()}{ps:List zk}{lo hi n:Nat}(h:FirstN l ps 0 hi n rq)(hl:lo<=hi):FirstN l ps 0 lo n rq:=by
 rcases h with ⟨_,h⟩ | ⟨_,_,h,_⟩
 ·exact .inl #[rfl,λj q hj h1 h2=>h j q hj h1 ⋯]
 ·cases h
theorem U5{l:()}{ps:List zk}{n q m:Nat}(h:FirstN l ps 0 l.length ps.length (rp (n,q)))(hm:∀p ∈ ps,p.2.length<=m):(kC l ps (n,q)).length<=l.length+m:=by
 rcases h with ⟨h,_⟩ | ⟨n0,q0,e,a1,a2,a3,a4,a5⟩
 ·cases h
 ·injection e with e;injection e with e1 e2;subst e1 e2;obtain⟨_,p,hp,hs⟩:=wL a4;have:=hm p (ag hp);have er:=xx hp;unfold kC yE
  erw[am,aF,aZ,er]
  lia
theorem qC{ps:List zk}{l:()}{m:Nat}(hN:NeL ps)(hm:∀p ∈ ps,p.2.length<=m):∀j,(wAt ps l j).length<=l.length+j * m
 | 0=>by simp [wAt]
 | j+1=>by
  have ih:=qC (l:=l) hN hm j;have hf:=Xf (wAt ps l j) ps hN;rw[dC]
  cases e:zA (wAt ps l j) ps with
  | none =>
   show (ZS ps (wAt ps l j)).length<=_;unfold ZS;rw[e];show (wAt ps l j).length<=_;lia
  | some u =>
   rw[wA e];rw[e]at hf;obtain⟨a,b⟩:=u;have:=U5 hf hm;lia
def UseAt(H:Hp)(r:Option (Nat × Nat))(v:V):Prop:=(r=rq/\v=.non)\/∃(n q:Nat) (p:nP),r=rp (n,q)/\v=.ref p/\H p=rp (.tup [.int (n:Nat),.int (q:Nat)])
theorem UseAt.same{H H':Hp}{r:Option (Nat × Nat)}{v:V}(h:UseAt H r v)(s:Same H H'):UseAt H' r v:=by
 rcases h with h | ⟨n,q,p,h1,h2,h3⟩
 ·exact .inl h
 ·exact .inr #[n,q,p,h1,h2,s _ _ h3]
theorem VL{l p:()}{lo hi:Int}{H:Hp}{Q:VK}(h0:0<=lo)(h1:0<=hi)(h:∀r:Int,((r=-1/\∀q:Nat,lo<=q->(q:Int)+p.length<=hi->zr l q p=rA)\/∃k:Nat,r=k/\lo<=k/\(k:Int)+p.length<=hi/\zr l k p=rz/\∀q:Nat,lo<=q->q<k->zr l q p=rA)->Q (.int r) H):QL (.str (tx l)) [.str (tx p),.int lo,.int hi] H Q:=by
 refine#[l,p,lo,hi,rfl,rfl,h0,h1,λr hr=>h r ?_]
 have no:∀q:Nat,((l.drop q).take p.length≠p\/¬ q+p.length<=l.length)->zr l q p=rA:=λq hq=>decide_eq_false λ⟨_,b,c⟩=>by
  rcases hq with hq | hq
  ·exact hq c
  ·lia
 rcases hr with ⟨rfl,hn⟩ | ⟨k,rfl,k1,k2,k3,k4,hn⟩
 ·refine .inl #[rfl,λq q1 q2=>no q ?_];by_cases e:q+p.length<=l.length
  ·exact .inl (hn q q1 q2 e)
  ·exact .inr e
 ·exact .inr #[k,rfl,k1,k2,decide_eq_true #[⋯,⋯,k4],λq q1 q2=>no q (.inl (hn q q1 q2))]
def vW(K:nO):Sp:=λvs H Q _=>∃(a:nP) (l:()) (ps:List zk) (st en:Nat),vs=[.ref a,.str (tx l),.int (st:Nat),.int (en:Nat)]/\LsA K H a (ps.map dR)/\NeL ps/\(∀p ∈ ps,p.1.length<=1000)/\∀(r:Option (Nat × Nat)) (v:V) (H':Hp),Same H H'->UseAt H' r v->FirstN l ps st en ps.length r->Q v H'
theorem Zv{a:nP}{l:()}{ps:List zk}{st en:Nat}{s e:Int}{H:Hp}{Q:VK}{E:XK}(hs:s=(st:Nat))(he:e=(en:Nat))(hA:LsA K H a (ps.map dR))(hN:NeL ps)(hP:∀p ∈ ps,p.1.length<=1000)(q:∀(r:Option (Nat × Nat)) (v:V) (H':Hp),Same H H'->UseAt H' r v->FirstN l ps st en ps.length r->Q v H'):vW K [.ref a,.str (tx l),.int s,.int e] H Q E:=by
 subst hs he;exact#[a,l,ps,st,en,rfl,hA,hN,hP,q]
theorem gh:sQz 4 ["rules","word","start","end","found","number","rule","place"] xm:=by nofun
theorem qm{f:nP}{fd:nS}(B:Bt mg)(F:("first_within"^^^xm)) :(1&&&["rules","word","start","end"]) (vW K):=by
 exists F.ok gh
 ·obtain⟨a,l,ps,st,en,rfl,hA,hN,hP,q⟩:=h
  refine#[_,(zi (zD 4 gh.nd xC)
   (zi (yK PassesOwn.never rfl (wC rfl B.enum (za (pv 0) ze)) (qU (n:=2) rfl (yh (zx (i:=5) gh.nd rfl (.inl rfl)) (yh (zx (i:=6) gh.nd rfl (.inl rfl)) vI)))
    (zQ (zD 7 gh.nd (vG bL eX eY JO (pv 1) (za (zm ix_tup (pv 6) zf) (za (pv 2) (za (zC yF (zC xO (pv 3) zf) (zL B.len (zm ix_tup (pv 6) zf))) ze)))))
    (zh (zU (zB op_ge' (pv 7) zf (zE _))
     (zQ (zD 4 gh.nd (zN (za (pv 5) (za (pv 7) ze))))
     (zh (zD 3 gh.nd (pv 7))))
     zw))))
   (zh (zt (pv 4))))),?_]
  have s16:=ya;obtain⟨xs,hX,hI⟩:=id hA;have hxl:=hI.len;rw[ac]at hxl;have s16:=ya;refine zj (λσ H'=>H'=H/\σ=[!!a,~~~l,-~~~st,-~~~en,rp (.non),rq,rq,rq]) ?_ ?_
  ·rfl'
  rintro σ H1 ⟨rfl,rfl⟩:_;right;refine zj (λσ H'=>Same H1 H'/\∃(r:Option (Nat × Nat)) (v:V) (v3 v5 v6 v7:Option V),UseAt H' r v/\FirstN l ps st en ps.length r/\σ=[!!a,~~~l,-~~~st,v3,rp (v),v5,v6,v7]) ?_ ?_
  ·rfl'
   refine#[#[_,SqL.of hX],ForEL.by (xs:=xs) (λi σ H'=>Same H1 H'/\∃(r:Option (Nat × Nat)) (v:V) (v5 v6 v7:Option V),UseAt H' r v/\FirstN l ps st en i r/\σ=[!!a,~~~l,-~~~st,rp (.int (((r.map Prod.snd).getD en:Nat):Int)),rp (v),v5,v6,v7]) #[Same.refl _,rq,.non,rq,rq,rq,.inl #[rfl,rfl],.inl #[rfl,λj q h=>absurd h (cX j)],rfl] (λi σ H' _ h=>SqL.of (h.1 _ _ hX)) ?_ ?_]
   ·rintro i y σ H' p hy ⟨hs,r,v,v5,v6,v7,hu,hF,rfl⟩ hpn;obtain⟨rl,pr,hri,rfl,hqr⟩:=hI.getR hy;have hm:=ag hri;have hne:=rT.mpr (hN rl hm);have hrl:=hP rl hm;have s2:=hs.trans (zd (o:=.tup [.int (i:Nat),.ref pr]) hpn);have hq2:=zl s2 hqr;have hu2:=hu.same (zd (o:=.tup [.int (i:Nat),.ref pr]) hpn)
    rfl'
    refine#[_,SqT.of zc,rfl,_,_,rfl,_,_,rfl,rfl,_,rfl,_,hq2,_,rfl,_,rfl,_,hq2,_,rfl,_,#[by rw[zS];lia,rfl],VL ⋯ (by rw[zS];lia) λz hz=>#[z,rfl,?_]];rw[zS]at hz;rcases hz with ⟨rfl,hn⟩ | ⟨k,rfl,k1,k2,k3,hn⟩
    ·rw[if_neg ∅];exact#[s2,r,v,hu2,hF.keep hri λq q1 q2=>hn q ⋯ ⋯,rfl,rfl]
    ·rw[if_pos ⋯];refine#[⋯,λp2 hp2=>#[s2.trans (zd hp2),rp (i,k),.ref p2,.inr #[i,k,p2,rfl,rfl,zc],hF.take hri ⋯ ⋯ k3 λq q1 q2=>hn q ⋯ q2,rfl,rfl]]
   ·rintro σ H' ⟨hs,r,v,v5,v6,v7,hu,hF,rfl⟩;rw[hxl]at hF;exact#[hs,r,v,hu,hF,_,_,_,_,rfl]
  rintro σ H2 ⟨s2,r,v,v3,v5,v6,v7,hu,hF,rfl⟩:_;right
  rfl'
  exact q r v H2 s2 hu hF
structure zdL(mg:nW->Option nQ):Prop where
 g:∃t,mg "WINDOW" = rp (.int 128 t)
def j2(K:nO):Sp:=λvs H Q _=>∃(a:nP) (l:()) (ps:List zk) (st:Nat),vs=[.ref a,.str (tx l),.int (st:Nat)]/\LsA K H a (ps.map dR)/\NeL ps/\(∀p ∈ ps,p.1.length<=1000)/\l.length<=100000/\∀(r:Option (Nat × Nat)) (v:V) (H':Hp),Same H H'->UseAt H' r v->FirstN l ps st l.length ps.length r->Q v H'
theorem ko{a:nP}{l:()}{ps:List zk}{st:Nat}{s:Int}{H:Hp}{Q:VK}{E:XK}(hs:s=(st:Nat))(hA:LsA K H a (ps.map dR))(hN:NeL ps)(hP:∀p ∈ ps,p.1.length<=1000)(hl:l.length<=100000)(q:∀(r:Option (Nat × Nat)) (v:V) (H':Hp),Same H H'->UseAt H' r v->FirstN l ps st l.length ps.length r->Q v H'):j2 K [.ref a,.str (tx l),.int s] H Q E:=by
 subst hs;exact#[a,l,ps,st,rfl,hA,hN,hP,hl,q]
theorem gD:sQz 3 ["rules","word","start","size","found"] xV:=by nofun
theorem jQ{f:nP}{fd:nS}(B:Bt mg)(T:zdL mg)(F:("first_from"^^^xV))(mx:(1<<<"first_within") ["rules","word","start","end"] [] (vW K)):(2&&&["rules","word","start"]) (j2 K):=by
 obtain⟨t8,g8⟩:=T.g
 exists F.ok gD
 ·obtain⟨a,l,ps,st,rfl,hA,hN,hP,hl,q⟩:=h
  refine#[_,(zi (zD 3 gD.nd (yU (v:=.int 128) rfl g8 #[t8,rfl]))
   (zi (YL PassesOwn.never (zB VH (pv 2) (zL B.len (pv 1)) (zE _))
    (zQ (zD 4 gD.nd (cl0 mx hr .nil rfl (za (pv 0) (za (pv 1) (za (pv 2) (za (zC yF (pv 2) (pv 3)) ze))))))
    (zQ (zU (zB op_notN' (pv 4) xC (zE _))
     (zh (zt (pv 4)))
     zw)
    (zQ (zD 2 gD.nd (zC yF (pv 2) (pv 3)))
    (zh (zD 3 gD.nd (zC jg (pv 3) zf)))))))
   (zh (zt xC)))),?_]
  have s16:=ya;have s16:=ya;refine zj (λσ H'=>H'=H/\σ=[!!a,~~~l,-~~~st,~~~!128,rq]) ?_ ?_
  ·rfl'
  rintro σ H1 ⟨rfl,rfl⟩:_;right;refine zj (λσ H'=>Same H1 H'/\FirstN l ps st l.length ps.length rq) ?_ ?_
  ·unfold Wd;refine#[λm σ H'=>∃(s z:Nat) (v4:Option V),m=l.length - s/\st<=s/\1<=z/\Same H1 H'/\FirstN l ps st s ps.length rq/\σ=[!!a,~~~l,-~~~s,-~~~z,v4],#[_,st,128,rq,rfl,ao _,∅,Same.refl _,.inl #[rfl,λj q _ h1 h2=>by lia],rfl],?_];rintro m σ H' ⟨s,z,v4,rfl,hs,hz,sm,hF,rfl⟩
   rfl'
   refine#[⋯,yG (λhlt=>?_) λhge=>#[sm,hF.toEnd hN λ_=>by lia]];refine#[λσ' H''=>∃v4:Option V,Same H1 H''/\FirstN l ps st (s+z) ps.length rq/\σ'=[!!a,~~~l,rp (.int ((s+z:Nat):Int)),rp (.int ((z * 2:Nat):Int)),v4],λσ' H'' ⟨v4,a1,a2,a3⟩=>#[l.length - (s+z),⋯,s+z,rfl,⋯,z * 2,⋯,a1,a2,v4,a3],?_];refine Zv (en:=s+z) rfl ⋯ (hA.same sm) hN hP λr v H2 s2 hu hF2=>?_;rcases hu with ⟨rfl,rfl⟩ | ⟨n,qq,p,rfl,rfl,hp⟩
   ·rw[if_neg (λh=>h rfl)];exact#[.inr #[∅,∅],rp .non,sm.trans s2,hF.window hs hF2,by push_cast;rfl]
   ·rw[if_pos (by intro h;cases h)];exact q _ _ H2 (sm.trans s2) (.inr #[n,qq,p,rfl,rfl,hp]) ((hF.window hs hF2).toEnd hN (λe=>by cases e))
  rintro σ H2 ⟨s2,hF⟩:_;right
  rfl'
  exact q rq .non H2 s2 (.inl #[rfl,rfl]) hF
theorem LsA.pushT{H:Hp}{D p:nP}{ds es:List L3.D}{xs vs:List V}(h1:H D=rp (.lst xs))(h2:Iss K H ds xs)(hp:H p=rq)(hv:Iss K H es vs)(f:zV ds)(fe:zV es):LsA K (upd (upd H p (.tup vs)) D (.lst (xs ++ [.ref p]))) D (ds ++ [.tup es]):=by
 have e:(upd H p (.tup vs)) D=rp (.lst xs):=zd hp _ _ h1;exact LsA.snoc e (Iss.same (zd hp) _ _ h2) f (by erw[xh];exact fe) (Is.tup hp hv)
structure zaq(K:nO)(mg:nW->Option nQ)(C:nP):Prop where
 xi:XI K C
 ini:ak K (.ref C) "__init__" = rp (rp (.builtin "ValueError.__init__"))
 g:mg "TooFar" = rp (.ref C)
noncomputable def dG(u:Nat × Nat):L3.D:=.tup [.int (u.1:Nat),.int (u.2:Nat),.bl rz]
theorem JB(u:Nat × Nat):xh (dG u):=by erw[dG,xh,zV,and_self]
theorem QA(us:List (Nat × Nat)):zV (us.map dG):=ww λd h=>by obtain⟨r,_,rfl⟩:=rF.mp h;exact JB r
theorem zcP{H:Hp}{n q:Nat}:Iss K H [.int (n:Nat),.int (q:Nat),.bl rz] [.int (n:Nat),.int (q:Nat),.bl rz]:=by
 erw[Iss,Is]
 exact#[_,_,rfl,rfl,_,_,rfl,rfl,_,_,rfl,rfl,rfl]
structure Rd(ps:List zk)(l:())(J:Nat):Prop where
 live:Xu ps l J
 len:∀j,j<=J->(wAt ps l j).length<=10000
 most:J<=10000
def wd(K:nO)(CF:nP):Sp:=λvs H Q E=>∃(a:nP) (l:()) (ps:List zk) (m:Int) (J:Nat),vs=[.ref a,.str (tx l),.int m]/\LsA K H a (ps.map dR)/\NeL ps/\ps.length<=100/\(∀p ∈ ps,p.1.length<=1000/\p.2.length<=1000)/\Rd ps l J /\
 ((zA (wAt ps l J) ps=rq/\(J:Int)<=m/\∀(p S:nP) (H':Hp),Same H H'->H' p=rp (.tup [.ref S,.str (tx (wAt ps l J))])->LsA K H' S ((sAt ps l J).map dG)->H S=rq->Q (.ref p) H') \/
  (zA (wAt ps l J) ps≠rq/\(J:Int)=m/\∀H',Same H H'->E (.ref CF) rq H'))
theorem VB{a:nP}{ps:List zk}{σ:L2.St}{H:Hp}{Q:VK}{D:nP}(hA:LsA K H a (ps.map dR))(hP:∀p ∈ ps,p.1.length<=1000)(hpl:ps.length<=100)(hD:H D=rq)(q:∀H',Same H H'->H' D=rp (.lst ((ps.map λp=>(p.1.length:Int)).map V.int))->Q (.ref D) H') :
  CompL K a (yI 0) xQ (tCB (X2 K) (zK (tOp (wV K) (z5 0) (tC (.int 0))) xI)) 1 [] σ H Q D:=by
 have s16:=ya;obtain⟨xs,hX,hI⟩:=hA;have hxl:=hI.len;rw[ac]at hxl;refine CompL.by (xs:=xs) (λi rE H'=>Same H H'/\H' D=rp (.lst rE)/\rE=((ps.take i).map λp=>(p.1.length:Int)).map V.int) #[zd hD,zc,rfl] (λi rE H' _ h=>SqL.of (h.1 _ _ hX)) ?_ ?_
 ·refine nm4 ?_;rintro i x rE H' hx ⟨hs,hH,rfl⟩:_;have hil:=(rG.mp hx).1;obtain⟨r,pr,hri,rfl,hqr⟩:=hI.getR hx;have hm:=hP r (ag hri);right
  erw[xQ]
  rfl'
  refine#[yL,_,zl hs hqr,_,rfl,_,#[by rw[zS];lia,rfl],hH,by rw[ac,ac,aF];lia,CNx.mk hil #[zy hs hD,zc,?_]];rw[zH hri,aq,aq,zS];rfl
 ·rintro rE H' ⟨hs,hH,rfl⟩;rw[hxl,aH]at hH;exact q H' hs hH
theorem zde{H:Hp}{rs:List zk}{xs:List V}{i:Nat}{r:zk}(hI:Iss K H (rs.map dR) xs)(hi:rs[i]? = rp r):∃p,atI xs (i:Int)=rp (.ref p)/\SqT K H p [.str (tx r.1),.str (tx r.2)]:=by
 have hl:=hI.len;rw[ac]at hl;have hil:=(rG.mp hi).1;obtain⟨v,a1,b1⟩:=ky (xs:=xs) (i:=(i:Int)) ⋯ ⋯;obtain⟨r',p,h1,rfl,h3⟩:=hI.getR (j:=i) b1;rw[hi]at h1;cases h1;exact#[p,a1,h3]
theorem ic:sQz 3 ["rules","word","most","longest","steps","use","number","place"] wJ:=by nofun
theorem JP{f CU CF:nP}{fd:nS}{dV:nQ}(B:Bt mg)(T:zaq K mg CF)(TU:DNU P w K mg base CU)(F:FunD K "gone" "gone" wJ dV f fd)(lG:(2<<<"first_from") ["rules","word","start"] [] (j2 K))(mL:(3>>>"put") ["word","place","old","new"] [] (YD CU)):(4|||["rules","word","most"]) (wd K CF):=by
 exists FunD.okX F ic,0
 ·obtain⟨a,l,ps,m,J,rfl,hA,hN,hpl,hP,hR,hq⟩:=h
  refine#[_,(zi (zD 3 ic.nd (Wx (zay rfl) rfl B.max vb (za (yC (own:=["rule"]) (caps:=[]) (ix:=[]) (tt:=xQ) (te:=(tCB (X2 K) (zK (tOp (wV K) (z5 0) (tC (.int 0))) xI))) rfl (zM (sc:=zg wJ) rfl (by symm) (by symm) (by symm) rfl (by symm) (by symm) rfl) (ye (pv 0)) (λ_ _ _ _ _ _=>zx (i:=0) (show List.Nodup [_] by decide) rfl (.inl rfl)) (λ_ _ _ _ _ _=>yd) (λ_ _ _ _ _ _=>(zL B.len (zm ix_tup (pv 0) zf)))) ze) (Wa zf Ja)))
   (zi (zD 4 ic.nd (xz ze))
   (zi (zD 5 ic.nd (cl0 lG hr .nil rfl (za (pv 0) (za (pv 1) (za zf ze)))))
   (zi (YL PassesOwn.leaving (zB op_notN' (pv 5) xC (zE _))
    (zi (zU (zB op_ge' (zL B.len (pv 4)) (pv 2) (zE _))
     (zh (yW hx rfl T.xi.toXC T.ini rfl T.g (za yf ze)))
     zw)
    (zi (zD 6 ic.nd (zm ix_tup (pv 5) zf))
    (zi (zD 7 ic.nd (zm ix_tup (pv 5) zf))
    (zi (zD 1 ic.nd (clP hx mL hr .nil rfl (za (pv 1) (za (pv 7) (za (zm ix_tup (zm ix_list (pv 0) (pv 6)) zf) (za (zm ix_tup (zm ix_list (pv 0) (pv 6)) zf) ze))))))
    (zi (wm (vG bx bF bG yS (pv 4) (za (zN (za (pv 6) (za (pv 7) (za xn ze)))) ze)))
    (zh (zD 5 ic.nd (cl0 lG hr .nil rfl (za (pv 0) (za (pv 1) (za (yM (YQ rfl) rfl B.max vb (za zf (za (zC yF (zC xO (pv 7) (pv 3)) zf) ze))) ze))))))))))))
   (zh (zt (zN (za (pv 4) (za (pv 1) ze))))))))),?_]
  have s16:=ya;have s16:=ya;refine zj (λσ H'=>Same H H'/\∃M:Int,(∀p ∈ ps,(p.1.length:Int)<=M)/\σ=[!!a,~~~l,~~~!m,~~~!M,rq,rq,rq,rq]) ?_ ?_
  ·rfl'
   erw[zdw]
   rfl'
   obtain⟨xs,hX,hI⟩:=id hA;exact#[#[_,SqL.of hX],λD hD=>VB hA (λp hp=>(hP p hp).1) hpl hD λH' s' hH=>#[D,_,0,rfl,rfl,SqL.of hH,λz _ hz=>#[s',z,λp hp=>hz _ (rF.mpr #[p,hp,rfl]),rfl]]]
  rintro σ H1 ⟨s1,M,hM,rfl⟩:_;right;refine zj (λσ H'=>Same H H'/\∃S:nP,H S=rq/\H' S=rp (.lst [])/\σ=[!!a,~~~l,~~~!m,~~~!M,!!S,rq,rq,rq]) ?_ ?_
  ·rfl'
   exact#[⋯,λp hp=>#[s1.trans (zd hp),p,s1.free hp,zc,rfl]]
  rintro σ H2 ⟨s2,S,hSn,hS,rfl⟩:_;right;refine zj (λσ H'=>Same H H'/\H' S=rp (.lst [])/\∃uv:V,UseAt H' (zA l ps) uv/\σ=[!!a,~~~l,~~~!m,~~~!M,!!S,rp (uv),rq,rq]) ?_ ?_
  ·rfl'
   exact ko (st:=0) rfl (hA.same s2) hN (λp hp=>(hP p hp).1) (by have:=hR.len 0 (aB _);exact aL this ∅) λr v H' s' hu hF=>#[s2.trans s',s' _ _ hS,(by rw[YA hF]at hu;exact hu)]
  rintro σ H3 ⟨s3,hS3,uv,hu,rfl⟩:_;right;refine zj (λσ H'=>Same H H'/\zA (wAt ps l J) ps=rq/\LsA K H' S ((sAt ps l J).map dG)/\∃v5 v6 v7,σ=[!!a,rp (.str (tx (wAt ps l J))),~~~!m,~~~!M,!!S,v5,v6,v7]) ?_ ?_
  ·unfold Wd;refine#[λk σ H'=>∃(j:Nat) (uv:V) (v6 v7:Option V),k=J - j/\j<=J/\Same H H'/\LsA K H' S ((sAt ps l j).map dG)/\UseAt H' (zA (wAt ps l j) ps) uv/\σ=[!!a,rp (.str (tx (wAt ps l j))),~~~!m,~~~!M,!!S,rp (uv),v6,v7],#[_,0,uv,rq,rq,rfl,aB _,s3,#[[],hS3,by erw[sAt,List.range_zero,aw,Iss]],hu,rfl],?_];rintro k σ H' ⟨j,uv,v6,v7,rfl,hj,hs,hL,hu,rfl⟩;have hlj:=hR.len j hj;have hRm:=hR.most;obtain⟨xs,hX,hI⟩:=id hA
   rfl'
   refine yG (λhne=>?_) λhne=>?_
   ·rcases hu with ⟨_,h⟩ | ⟨n,q0,p,hf,rfl,hp⟩
    ·exact absurd h hne
    have hF:=Xf (wAt ps l j) ps hN;rw[hf]at hF
    have hjJ:j<J\/(j=J/\(J:Int)=m/\∀H',Same H H'->E (.ref CF) rq H'):=by
     by_cases e:j=J
     ·subst e;rcases hq with ⟨h,_⟩ | ⟨_,h1,h2⟩
      ·rw[hf]at h;cases h
      ·exact .inr #[rfl,h1,h2]
     ·exact .inl ⋯
    have hJm:(J:Int)<=m:=by
     rcases hq with ⟨_,h,_⟩ | ⟨_,h,_⟩ <;> lia
    obtain⟨rl,hrl,hst⟩:∃rl,ps[n]? = rp rl/\zr (wAt ps l j) (q0:Int) rl.1=rz:=by
     rcases hF with ⟨h,_⟩ | ⟨n0,q1,e,_,_,_,a4,_⟩
     ·cases h
     ·cases e;exact (wL a4).2
    have hlp:=hP rl (ag hrl);have hw:=wA hf;obtain⟨pr,hai,hqr⟩:=zde hI hrl;refine#[λσ' H''=>∃(uv:V) (v6 v7:Option V),j<J/\Same H H''/\LsA K H'' S ((sAt ps l (j+1)).map dG)/\UseAt H'' (zA (wAt ps l (j+1)) ps) uv/\σ'=[!!a,rp (.str (tx (wAt ps l (j+1)))),~~~!m,~~~!M,!!S,rp (uv),v6,v7],λσ' H'' ⟨uv,v6,v7,a0,a1,a2,a3,a4⟩=>#[J - (j+1),⋯,j+1,rfl,⋯,a1,a2,uv,a3,v6,v7,a4],?_];obtain⟨ys,hY,hJ2⟩:=id hL;have hyl:=hJ2.len;rw[ac,wX]at hyl;refine zj (λσ' H''=>H''=H'/\j<J/\σ'=[!!a,rp (.str (tx (wAt ps l j))),~~~!m,~~~!M,!!S,!!p,v6,v7]) ?_ ?_
    ·rfl'
     refine#[_,.inl #[_,SqL.of hY,rfl],yG (λhge=>?_) λhge=>?_]
     ·rcases hjJ with h | ⟨_,_,h⟩
      ·lia
      ·exact#[⋯,h _ hs]
     ·rcases hjJ with h | ⟨e,h,_⟩
      ·exact h
      ·lia
    rintro σ' G1 ⟨rfl,hlt,rfl⟩:_;right;refine zj (λσ' H''=>H''=G1/\σ'=[!!a,rp (.str (tx (wAt ps l j))),~~~!m,~~~!M,!!S,!!p,-~~~n,v7]) ?_ ?_
    ·rfl'
     exact#[_,SqT.of hp,rfl]
    rintro σ' G2 ⟨rfl,rfl⟩:_;right;refine zj (λσ' H''=>H''=G2/\σ'=[!!a,rp (.str (tx (wAt ps l j))),~~~!m,~~~!M,!!S,!!p,-~~~n,-~~~q0]) ?_ ?_
    ·rfl'
     exact#[_,SqT.of hp,rfl]
    rintro σ' G3 ⟨rfl,rfl⟩:_;right;refine zj (λσ' H''=>H''=G3/\σ'=[!!a,rp (.str (tx (wAt ps l (j+1)))),~~~!m,~~~!M,!!S,!!p,-~~~n,-~~~q0]) ?_ ?_
    ·rfl'
     have hq2:=zl hs hqr;exact#[_,SqL.of (hs _ _ hX),_,hai,_,rfl,_,hq2,_,rfl,_,SqL.of (hs _ _ hX),_,hai,_,rfl,_,hq2,_,rfl,wAt ps l j,rl.1,rl.2,(q0:Nat),rfl,hlj,by have:=hlp.1;lia,by have:=hlp.2;lia,λ_=>#[rfl,by rw[hw];unfold kC;rw[xx hrl]],λh=>by rw[hst]at h;cases h]
    rintro σ' G4 ⟨rfl,rfl⟩:_;right;refine zj (λσ' H''=>Same H H''/\LsA K H'' S ((sAt ps l (j+1)).map dG)/\σ'=[!!a,rp (.str (tx (wAt ps l (j+1)))),~~~!m,~~~!M,!!S,!!p,-~~~n,-~~~q0]) ?_ ?_
    ·rfl'
     refine#[.inl #[_,SqL.of hY],⋯,λt ht=>#[_,zd ht _ _ hY,⋯,zy (hs.trans (zd ht)) hSn,?_]];rw[YO,hf,aq];exact LsA.pushT hY hJ2 ht zcP (QA _) (by erw[zV,xh,and_self])
    rintro σ' G5 ⟨s5,hL5,rfl⟩:_;have hl1:=hR.len (j+1) hlt;have hM0:=hM rl (ag hrl);right
    rfl'
    refine ko (st:=(if (q0:Int) - M+1 > 0 then (q0:Int) - M+1 else 0).toNat) (by split <;> lia) (hA.same s5) hN (λp hp=>(hP p hp).1) (aL hl1 ∅) λr v H' s' hu hF2=>#[hlt,s5.trans s',hL5.same s',?_];have hb:=XV (M:=M.toNat) (lo:=(if (q0:Int) - M+1 > 0 then (q0:Int) - M+1 else 0).toNat) hF hN (λp hp=>by have:=hM p hp;lia) (by split <;> lia);rw[<- hw]at hb;rw[YA (hb.window (aB _) hF2)]at hu;exact hu
   ·have hv:uv=.non:=Decidable.not_not.mp hne
    have hf:zA (wAt ps l j) ps=rq:=by
     rcases hu with ⟨h,_⟩ | ⟨_,_,_,_,h,_⟩
     ·exact h
     ·rw[hv]at h;cases h
    have e:j=J:=by
     rcases eh j J with h | h
     ·exact absurd hf (hR.live j h)
     ·lia
    subst e;exact#[hs,hf,hL,rfl]
  rintro σ H4 ⟨s4,hF,hL,v5,v6,v7,rfl⟩:_;right
  rfl'
  rcases hq with ⟨_,_,hq⟩ | ⟨h,_⟩
  ·exact#[⋯,λp hp=>hq p S _ (s4.trans (zd hp)) zc (hL.same (zd hp)) hSn]
  ·exact absurd hF h
noncomputable abbrev Stp:=Int × Int × Bool
noncomputable def dSt(t:Stp):D:=.tup [.int t.1,.int t.2.1,.bl t.2.2]
noncomputable def sdl(r:zk)(f:Bool):zk:=if f=rz then r else (r.2,r.1)
noncomputable def yg(ps:List zk)(w:())(t:Stp):Option (()) :=
 if 0<=t.1/\t.1<ps.length then (if zr w t.2.1 (sdl (ps.getD t.1.toNat ([],[])) t.2.2).1=rz then rp (yE w t.2.1 (sdl (ps.getD t.1.toNat ([],[])) t.2.2).1 (sdl (ps.getD t.1.toNat ([],[])) t.2.2).2)else rq)else rq
theorem UO{H:Hp}{D p:nP}{ds es:List L3.D}{xs vs:List V}(h1:H D=rp (.lst xs))(h2:Iss K H ds xs)(hp:H p=rq)(hv:Iss K H es vs)(f:zV ds)(fe:zV es):LsA K (upd (upd H p (.tup vs)) D (.lst (xs ++ [.ref p]))) D (ds ++ [.tup es]):=by
 have e:(upd H p (.tup vs)) D=rp (.lst xs):=zd hp _ _ h1;exact LsA.snoc e (Iss.same (zd hp) _ _ h2) f (by erw[xh];exact fe) (Is.tup hp hv)
theorem zcU{H:Hp}{l m:()}:Iss K H [dS l,dS m] [.str (tx l),.str (tx m)]:=by
 erw[Iss,Is]
 exact#[_,_,rfl,rfl,_,_,rfl,rfl,rfl]
def ju(rs:List zk):Prop:=rs.length<=30/\∀r ∈ rs,r.1.length<=100/\r.2.length<=100
theorem Q6{H:Hp}{t:Stp}{v:V}(h:Is K H (dSt t) v):∃p,v=.ref p/\SqT K H p [.int t.1,.int t.2.1,.bl t.2.2]:=by
 erw[dSt,Is,Iss]at h
 obtain⟨a,xs,e,hs,v1,r1,rfl,rfl,v2,r2,rfl,rfl,v3,r3,rfl,rfl,rfl⟩:=h;exact#[a,e,hs]
theorem YE{H:Hp}{p:nP}{t:Stp}(h:SqT K H p [.int t.1,.int t.2.1,.bl t.2.2]):Is K H (dSt t) (.ref p):=by
 erw[dSt,Is,Iss]
 exact#[p,_,rfl,h,_,_,rfl,rfl,_,_,rfl,rfl,_,_,rfl,rfl,rfl]
theorem Q0{H:Hp}{i j:Int}{b:Bool}:Iss K H [.int i,.int j,.bl b] [.int i,.int j,.bl b]:=by
 erw[Iss,Is]
 exact#[_,_,rfl,rfl,_,_,rfl,rfl,_,_,rfl,rfl,rfl]
theorem vA(rs:List Stp):zV (rs.map dSt):=ww λd h=>by obtain⟨r,_,rfl⟩:=rF.mp h;erw[dSt,xh,zV,and_self]
theorem vh{H:Hp}{rs:List Stp}{vs:List V}{j:Nat}{v:V}(h:Iss K H (rs.map dSt) vs)(q:vs[j]? = rp v):∃r p,rs[j]? = rp r/\v=.ref p/\SqT K H p [.int r.1,.int r.2.1,.bl r.2.2]:=by
 obtain⟨d,e,i⟩:=h.get q;rw[ay]at e;obtain⟨r,hr,rfl⟩:=rO.mp e;obtain⟨p,e1,e2⟩:=Q6 i;exact#[r,p,hr,e1,e2]
theorem zbN{H:Hp}{rs:List zk}{xs:List V}{i:Int}(hI:Iss K H (rs.map dR) xs)(h0:0<=i)(hi:i<rs.length):∃p,atI xs i=rp (.ref p)/\rs[i.toNat]? = rp (rs.getD i.toNat ([],[]))/\SqT K H p [.str (tx (rs.getD i.toNat ([],[])).1),.str (tx (rs.getD i.toNat ([],[])).2)]:=by
 have hl:=hI.len;rw[ac]at hl;obtain⟨v,a1,b1⟩:=ky (xs:=xs) (i:=i) h0 ⋯;obtain⟨r,p,h1,rfl,h3⟩:=hI.getR b1;have e:rs.getD i.toNat ([],[])=r:=by rw[aa,h1];rfl
 rw[e];exact#[p,a1,h1,h3]
theorem ZV{rs:List zk}(h:ju rs)(i:Nat):(rs.getD i ([],[])).1.length<=100/\(rs.getD i ([],[])).2.length<=100:=by
 rw[aa]
 cases e:rs[i]? with
 | none=>exact#[aB _,aB _]
 | some r=>exact h.2 r (ag e)
theorem yR{ps:List zk}{w:()}{t:Stp}(h:¬ (0<=t.1/\t.1<ps.length)):yg ps w t=rq:=if_neg h
theorem yA{ps:List zk}{w:()}{t:Stp}(h:0<=t.1/\t.1<ps.length):yg ps w t=if zr w t.2.1 (sdl (ps.getD t.1.toNat ([],[])) t.2.2).1=rz then rp (yE w t.2.1 (sdl (ps.getD t.1.toNat ([],[])) t.2.2).1 (sdl (ps.getD t.1.toNat ([],[])) t.2.2).2)else rq:=if_pos h
def Ch(rs:List zk)(ws:List (()))(ss:List Stp):Prop:=ws.length=ss.length+1/\∀i s,ss[i]? = rp s->∃w w',ws[i]? = rp w/\ws[i+1]? = rp w'/\yg rs w s=rp w'
noncomputable def bk(s:Stp):Stp:=(s.1,s.2.1,!s.2.2)
noncomputable def yo(ss:List Stp):List Stp:=ss.reverse.map bk
noncomputable def mvL(ss:List Stp)(z:Int):List Stp:=ss.map λs=>(s.1,s.2.1+z,s.2.2)
theorem JF(r:zk)(f:Bool):sdl r (!f)=((sdl r f).2,(sdl r f).1):=by cases f <;> rfl
theorem qO{rs:List zk}{w w':()}{s:Stp}(h:yg rs w s=rp w'):yg rs w' (bk s)=rp w:=by
 by_cases hb:0<=s.1/\s.1<rs.length
 ·rw[yA hb]at h;have hb':0<=(bk s).1/\(bk s).1<rs.length:=hb;rw[yA hb']
  erw[bk,JF]
  generalize sdl (rs.getD s.1.toNat ([],[])) s.2.2=r at *;by_cases hs:zr w s.2.1 r.1=rz
  ·rw[if_pos hs]at h;cases h;obtain⟨e1,e2⟩:=Yk r.2 hs;rw[if_pos e1,e2]
  ·rw[if_neg hs]at h;cases h
 ·rw[yR hb]at h;cases h
theorem Ch.back{rs:List zk}{ws:List (())}{ss:List Stp}(h:Ch rs ws ss):Ch rs ws.reverse (yo ss):=by
 obtain⟨hl,hs⟩:=h;refine#[by simp [yo,hl],λi s hi=>?_];have hil:i<ss.length:=by have:=(rG.mp hi).1;simpa [yo] using this
 unfold yo at hi;rw[ay,bt hil]at hi;obtain⟨s0,h0,rfl⟩:=rO.mp hi;obtain⟨w,w',e1,e2,e3⟩:=hs _ _ h0;refine#[w',w,?_,?_,qO e3]
 ·rw[bt ⋯,<- e2];congr 1;lia
 ·rw[bt ⋯,<- e1];congr 1;lia
theorem YX{a w b:()}{k:Nat}(h:k<=w.length):(a ++ w ++ b).drop (a.length+k)=w.drop k ++ b:=by
 rw[aR,<- eU,List.drop_left,bV h]
theorem jG{a w b o:()}{k:Int}(h:zr w k o=rz):zr (a ++ w ++ b) (k+(a.length:Int)) o=rz:=by
 obtain⟨_,_,h0,h1⟩:=yB h;unfold zr at h ⊢;rw[decide_eq_true_eq]at h ⊢;obtain⟨_,_,h2⟩:=h;refine#[⋯,by erw[am];lia,?_];rw[show (k+(a.length:Int)).toNat=a.length+k.toNat by lia,YX ⋯,bi (by rw[aZ];lia),h2]
theorem XX{a w b o n:()}{k:Int}(h:zr w k o=rz):yE (a ++ w ++ b) (k+(a.length:Int)) o n=a ++ yE w k o n ++ b:=by
 obtain⟨_,_,h0,h1⟩:=yB h;unfold yE;rw[show (k+(a.length:Int)).toNat=a.length+k.toNat by lia]
 have e1:(a ++ w ++ b).take (a.length+k.toNat)=a ++ w.take k.toNat:=by
  rw[aR,List.take_length_add_append,bi ⋯]
 have e2:(a ++ w ++ b).drop (a.length+k.toNat+o.length)=w.drop (k.toNat+o.length) ++ b:=by
  rw[Nat.add_assoc];exact YX ⋯
 rw[e1,e2];simp [aR]
theorem ud{rs:List zk}{w w':()}{s:Stp}(a b:())(h:yg rs w s=rp w'):yg rs (a ++ w ++ b) (s.1,s.2.1+(a.length:Int),s.2.2)=rp (a ++ w' ++ b):=by
 by_cases hb:0<=s.1/\s.1<rs.length
 ·rw[yA hb]at h;rw[yA (by exact hb)];simp only;generalize sdl (rs.getD s.1.toNat ([],[])) s.2.2=r at *;by_cases hs:zr w s.2.1 r.1=rz
  ·rw[if_pos hs]at h;cases h;rw[if_pos (jG hs),XX hs]
  ·rw[if_neg hs]at h;cases h
 ·rw[yR hb]at h;cases h
theorem Ch.within{rs:List zk}{ws:List (())}{ss:List Stp}(a b:())(h:Ch rs ws ss):Ch rs (ws.map λw=>a ++ w ++ b) (mvL ss (a.length:Int)):=by
 obtain⟨hl,hs⟩:=h;refine#[by simp [mvL,hl],λi s hi=>?_];unfold mvL at hi;rw[ay]at hi;obtain⟨s0,h0,rfl⟩:=rO.mp hi;obtain⟨w,w',e1,e2,e3⟩:=hs _ _ h0;exact#[a ++ w ++ b,a ++ w' ++ b,by rw[ay,e1];rfl,by rw[ay,e2];rfl,ud a b e3]
theorem Qc{w o n:()}{k:Int}(h:zr w k o=rz):(yE w k o n).length+o.length=w.length+n.length:=by
 obtain⟨e,hl,h0,h1⟩:=yB h;unfold yE
 erw[am,aZ,hl]
 lia
theorem j3{H:Hp}{D p:nP}{ds es:List L3.D}{xs vs:List V}(h1:H D=rp (.lst xs))(h2:Iss K H ds xs)(hp:H p=rq)(hv:Iss K H es vs)(f:zV ds)(fe:zV es):Iss K (upd (upd H p (.tup vs)) D (.lst (xs ++ [.ref p]))) (ds ++ [.tup es]) (xs ++ [.ref p]):=by
 obtain⟨ys,hy1,hy2⟩:=UO h1 h2 hp hv f fe;rw[zc]at hy1;cases hy1;exact hy2
def qu(K:nO):Sp:=λvs H Q _=>∃(t:nP) (ss:List Stp),vs=[.ref t]/\Is K H (.lst (ss.map dSt)) (.ref t)/\ss.length<=1000/\∀(D:nP) (H':Hp),H D=rq->Same H H'->LsA K H' D ((yo ss).map dSt)->Q (.ref D) H'
theorem kj{t:nP}{ss:List Stp}{H:Hp}{Q:VK}{E:XK}(h1:Is K H (.lst (ss.map dSt)) (.ref t))(h2:ss.length<=1000)(h:∀(D:nP) (H':Hp),H D=rq->Same H H'->LsA K H' D ((yo ss).map dSt)->Q (.ref D) H'):qu K [.ref t] H Q E:=#[t,ss,rfl,h1,h2,h]
theorem zae{ss:List Stp}{i:Nat}{s:Stp}(h:ss.reverse[i]? = rp s):(yo ss).take (i+1)=(yo ss).take i ++ [bk s]:=zH (by unfold yo;rw[ay,h];rfl)
theorem KH:sQz 1 ["steps"] YF:=by nofun
theorem KN{f:nP}{fd:nS}(B:Bt mg)(F:("back"^^^YF)) :(1&&&["steps"]) (qu K):=by
 exists F.ok KH
 ·obtain⟨t,ss,rfl,hT,hsl,q⟩:=h;refine#[_,(zh (zt (yC (own:=["step"]) (caps:=[]) (ix:=[]) (tt:=xQ) (te:=(XY (zK (tOp (wV K) (z5 0) (tC (.int 0))) (zK (tOp (wV K) (z5 0) (tC (.int 1))) (zK (Wt (tOp (wV K) (z5 0) (tC (.int 2)))) xI))))) rfl (zM (sc:=zg YF) rfl (by symm) (by symm) (by symm) rfl (by symm) (by symm) rfl) (zau rfl B.rev (za (pv 0) ze)) (λ_ _ _ _ _ _=>zx (i:=0) (show List.Nodup [_] by decide) rfl (.inl rfl)) (λ_ _ _ _ _ _=>yd) (λ_ _ _ _ _ _=>(zN (za (zm ix_tup (pv 0) zf) (za (zm ix_tup (pv 0) zf) (za (Jp (zm ix_tup (pv 0) zf)) ze)))))))),?_];have s16:=ya
  rfl'
  erw[Is]at hT
  obtain⟨_,ts,e,hTs,hJ⟩:=hT;cases e;have htl:=hJ.len;rw[ac]at htl;have hbl:(yo ss).length=ss.length:=by simp [yo]
  refine#[ts,hTs,λD hD=>CompV.by (xs:=ts) (λi rE H'=>Same H H'/\H' D=rp (.lst rE)/\Iss K H' (((yo ss).take i).map dSt) rE) #[zd hD,zc,by erw[bn,aw,Iss]] (λi rE H' _ h=>h.1.seq hTs) ?_ ?_]
  ·refine nm4 ?_;rintro i x rE H' hx ⟨hs,hH,hA⟩:_;have hi:i<ts.length:=by have:=(rG.mp hx).1;simpa using this
   rw[bt hi]at hx;obtain⟨s,ps,hsi,rfl,hqs⟩:=vh hJ hx;have hsr:ss.reverse[i]? = rp s:=by rw[bt ⋯,<- hsi,htl]
   have hal:=hA.len;rw[ac,aF]at hal;right
   erw[xQ]
   rfl'
   refine#[yL,_,zl hs hqs,_,rfl,_,zl hs hqs,_,rfl,_,zl hs hqs,_,rfl,_,rfl,⋯,λp hp=>#[zd hp _ _ hH,⋯,CNx.mk hi #[zy (hs.trans (zd hp)) hD,zc,?_]]];rw[zae hsr,aq];exact j3 hH hA hp Q0 (vA _) (by erw[zV,xh,and_self])
  ·rintro rE H' ⟨hs,hH,hA⟩;rw[htl,<- hbl,aH]at hA;exact q D H' hD hs #[rE,hH,hA]
def jy(K:nO):Sp:=λvs H Q _=>∃(t:nP) (ss:List Stp) (z:Int),vs=[.ref t,.int z]/\Is K H (.lst (ss.map dSt)) (.ref t)/\ss.length<=1000/\∀(D:nP) (H':Hp),H D=rq->Same H H'->LsA K H' D ((mvL ss z).map dSt)->Q (.ref D) H'
theorem kn{t:nP}{ss:List Stp}{z:Int}{H:Hp}{Q:VK}{E:XK}(h1:Is K H (.lst (ss.map dSt)) (.ref t))(h2:ss.length<=1000)(h:∀(D:nP) (H':Hp),H D=rq->Same H H'->LsA K H' D ((mvL ss z).map dSt)->Q (.ref D) H'):jy K [.ref t,.int z] H Q E:=#[t,ss,z,rfl,h1,h2,h]
theorem Qv:sQz 2 ["steps","size"] jO:=by nofun
theorem UY{f:nP}{fd:nS}(B:Bt mg)(F:("moved"^^^jO)) :(1&&&["steps","size"]) (jy K):=by
 exists F.ok Qv
 ·obtain⟨t,ss,z,rfl,hT,hsl,q⟩:=h;refine#[_,(zh (zt (yC (own:=["step"]) (caps:=["size"]) (ix:=[1]) (tt:=xQ) (te:=(XY (zK (tOp (wV K) (z5 0) (tC (.int 0))) (zK (tOp Xv (tOp (wV K) (z5 0) (tC (.int 1))) (z5 1)) (zK (tOp (wV K) (z5 0) (tC (.int 2))) xI))))) rfl (zM (sc:=zg jO) rfl (by symm) (by symm) (by symm) rfl (by symm) (by symm) rfl) (ye (pv 0)) (λ_ _ _ _ _ _=>zx (i:=0) (show List.Nodup [_,_] by decide) rfl (.inl rfl)) (λ_ _ _ _ _ _=>yd) (λ_ _ _ _ _ _=>(zN (za (zm ix_tup (pv 0) zf) (za (zC Z4 (zm ix_tup (pv 0) zf) (pv 1)) (za (zm ix_tup (pv 0) zf) ze)))))))),?_];have s16:=ya
  rfl'
  erw[Is]at hT
  obtain⟨_,ts,e,hTs,hJ⟩:=hT;cases e;have htl:=hJ.len;rw[ac]at htl;have hbl:(mvL ss z).length=ss.length:=by simp [mvL]
  refine#[#[ts,hTs],λD hD=>CompL.by (xs:=ts) (λi rE H'=>Same H H'/\H' D=rp (.lst rE)/\Iss K H' (((mvL ss z).take i).map dSt) rE) #[zd hD,zc,by erw[bn,aw,Iss]] (λi rE H' _ h=>h.1.seq hTs) ?_ ?_]
  ·refine nm4 ?_;rintro i x rE H' hx ⟨hs,hH,hA⟩:_;have hi:=(rG.mp hx).1;obtain⟨s,ps,hsi,rfl,hqs⟩:=vh hJ hx;have hm:(mvL ss z)[i]? = rp (s.1,s.2.1+z,s.2.2):=by unfold mvL;rw[ay,hsi];rfl
   have hal:=hA.len;rw[ac,aF]at hal;right
   erw[xQ]
   rfl'
   refine#[yL,_,zl hs hqs,_,rfl,_,zl hs hqs,_,rfl,_,zl hs hqs,_,rfl,⋯,λp hp=>#[zd hp _ _ hH,⋯,CNx.mk hi #[zy (hs.trans (zd hp)) hD,zc,?_]]];rw[zH hm,aq];exact j3 hH hA hp Q0 (vA _) (by erw[zV,xh,and_self])
  ·rintro rE H' ⟨hs,hH,hA⟩;rw[htl,<- hbl,aH]at hA;exact q D H' hD hs #[rE,hH,hA]
noncomputable abbrev Ent:=() × () × List Stp
variable{E:XK}{H:Hp}{Q:VK}{bs:List Ent}{e:Ent}{es:List Ent}{f:nP}{fd:nS}{k:Nat}{ns:List Int}{ps:List zk}{rs:List zk}{ss:List Stp}
noncomputable def dE(e:Ent):L3.D:=.tup [dS e.1,dS e.2.1,.lst (e.2.2.map dSt)]
noncomputable def Yh(es:List Ent)(u:Stp):List Stp:=mvL (if u.2.2=rz then (es.getD u.1.toNat ([],[],[])).2.2 else yo (es.getD u.1.toNat ([],[],[])).2.2) u.2.1
noncomputable def byL(es:List Ent)(us:List Stp):List Stp:=us.flatMap (Yh es)
theorem zbw{v:V}(h:Is K H (dE e) v):∃p s,v=.ref p/\SqT K H p [.str (tx e.1),.str (tx e.2.1),.ref s]/\Is K H (.lst (e.2.2.map dSt)) (.ref s):=by
 erw[dE,Is,Iss]at h
 obtain⟨a,xs,e0,hs,v1,r1,rfl,rfl,v2,r2,rfl,rfl,v3,r3,rfl,⟨s,zs,rfl,h1,h2⟩,rfl⟩:=h;refine#[a,s,e0,hs,?_]
 erw[Is]
 exact#[s,zs,rfl,h1,h2]
theorem zd0{xs:List V}{i:Int}(hI:Iss K H (es.map dE) xs)(h0:0<=i)(hi:i<es.length):∃p s,atI xs i=rp (.ref p)/\es[i.toNat]? = rp (es.getD i.toNat ([],[],[]))/\SqT K H p [.str (tx (es.getD i.toNat ([],[],[])).1),.str (tx (es.getD i.toNat ([],[],[])).2.1),.ref s]/\Is K H (.lst ((es.getD i.toNat ([],[],[])).2.2.map dSt)) (.ref s):=by
 have hl:=hI.len;rw[ac]at hl;obtain⟨v,a1,b1⟩:=ky (xs:=xs) (i:=i) h0 ⋯;obtain⟨d,e,ix⟩:=hI.get b1;rw[ay]at e;obtain⟨r,hr,rfl⟩:=rO.mp e;have e:es.getD i.toNat ([],[],[])=r:=by rw[aa,hr];rfl
 rw[e];obtain⟨p,s,rfl,h2,h3⟩:=zbw ix;exact#[p,s,a1,hr,h2,h3]
theorem kG(ss:List Stp)(z:Int):(mvL ss z).length=ss.length:=by simp [mvL]
theorem yi(ss:List Stp):(yo ss).length=ss.length:=by simp [yo]
def UU(K:nO):Sp:=λvs H Q _=>∃(a t:nP) (es:List Ent) (us:List Stp),vs=[.ref a,.ref t]/\Is K H (.lst (es.map dE)) (.ref a)/\Is K H (.lst (us.map dSt)) (.ref t)/\us.length<=100/\(∀e ∈ es,e.2.2.length<=600)/\(∀u ∈ us,0<=u.1/\u.1<es.length)/\∀(D:nP) (H':Hp),H D=rq->Same H H'->LsA K H' D ((byL es us).map dSt)->Q (.ref D) H'
theorem iu:sQz 2 ["entries","steps","chain","step","own"] vT:=by nofun
theorem Ya(B:Bt mg)(F:("by_pacts"^^^vT))(ny:(1<<<"moved") ["steps","size"] [] (jy K))(lH:(1<<<"back") ["steps"] [] (qu K)):(2&&&["entries","steps"]) (UU K):=by
 exists F.ok iu
 ·obtain⟨a,t,es,us,rfl,hE,hU,hul,hel,hub,q⟩:=h
  refine#[_,(zi (zD 2 iu.nd (xz ze))
   (zi (yK PassesOwn.never rfl (ye (pv 1)) (zx (i:=3) iu.nd rfl (.inl rfl))
    (zi (zD 4 iu.nd (zm ix_tup (zm ix_list (pv 0) (zm ix_tup (pv 3) zf)) zf))
    (zh (wm (vG bx PySem.F.slot_list_extend PySem.F.type_list_extend Vd (pv 2) (za (cl0 ny hr .nil rfl (za (uF (yT (zm ix_tup (pv 3) zf) (λ_=>rfl)) (pv 4) (cl0 lH hr .nil rfl (za (pv 4) ze))) (za (zm ix_tup (pv 3) zf) ze))) ze))))))
   (zh (zt (pv 2))))),?_]
  have s16:=ya;have hE':=hE;have hU':=hU
  erw[Is]at hE' hU'
  obtain⟨_,xs,e,hX,hI⟩:=hE';cases e;obtain⟨_,ts,e,hTs,hJ⟩:=hU';cases e;have htl:=hJ.len;rw[ac]at htl;refine zj (λσ H'=>∃D,H D=rq/\Same H H'/\H' D=rp (.lst [])/\σ=[!!a,!!t,!!D,rq,rq]) ?_ ?_
  ·rfl'
   exact#[⋯,λp hp=>#[p,hp,zd hp,zc,rfl]]
  rintro σ H1 ⟨D,hD,s1,hD1,rfl⟩:_;right;refine zj (λσ H'=>Same H H'/\LsA K H' D ((byL es us).map dSt)/\∃v3 v4,σ=[!!a,!!t,!!D,v3,v4]) ?_ ?_
  ·rfl'
   refine#[#[_,s1.seq hTs],ForL.by (xs:=ts) (λi σ H'=>Same H H'/\LsA K H' D ((byL es (us.take i)).map dSt)/\(byL es (us.take i)).length<=i * 600/\∃v3 v4,σ=[!!a,!!t,!!D,v3,v4]) #[s1,#[[],hD1,by erw[bn,byL,List.flatMap_nil,aw,Iss]],by simp [byL],_,_,rfl] (λi σ H' _ h=>h.1.seq hTs) ?_ ?_]
   ·refine nm4 ?_;rintro i x σ H' hx ⟨hs,hL,hl,v3,v4,rfl⟩:_;obtain⟨u,pu,hui,rfl,hqu⟩:=vh hJ hx;have hil:=(rG.mp hui).1;obtain⟨u0,u1⟩:=hub u (ag hui);obtain⟨pe,se,g1,g2,g3,g4⟩:=zd0 hI u0 u1;have hle:=hel _ (ag g2)
    have hby:byL es (us.take (i+1))=byL es (us.take i) ++ Yh es u:=by
     unfold byL;rw[zH hui,cN];simp
    right
    erw[yI,bf,be]
    refine zj (λσ H''=>H''=H'/\σ=[!!a,!!t,!!D,!!pu,!!se]) ?_ ?_
    ·rfl'
     exact#[_,zl hs hqu,_,rfl,_,rfl,_,hs.seq hX,_,g1,_,rfl,_,zl hs g3,rfl]
    rintro σ G ⟨rfl,rfl⟩:_;obtain⟨zs,hZ,hZI⟩:=id hL;have hzl:=hZI.len;rw[ac]at hzl;have hse:=Is.same hs _ _ g4
    have fin:∀(ws:List Stp) (M:nP) (G2:Hp),Yh es u=ws->ws.length<=600->Same G G2->LsA K G2 M (ws.map dSt)->Vv (V.ref D) [V.ref M] G2 λx H1=>Same H H1/\LsA K H1 D ((byL es (us.take (i+1))).map dSt)/\(byL es (us.take (i+1))).length<=(i+1) * 600:=λws M G2 ew hwl sg hM=>by
     obtain⟨ys,hY,hYI⟩:=hM;have hyl:=hYI.len;rw[ac]at hyl;have hZ2:=sg _ _ hZ;refine#[D,M,zs,ys,rfl,rfl,hZ2,hY,⋯,zy (hs.trans sg) hD,#[_,zc,?_],?_]
     ·rw[hby,ew,aq];exact Iss.append (Iss.updL hZ2 _ _ (vA _) (Iss.same sg _ _ hZI)) (Iss.updL hZ2 _ _ (vA _) hYI)
     ·rw[hby,ew,am];lia
    right
    rfl'
    refine#[.inl #[_,SqL.of hZ],_,zl hs hqu,_,rfl,_,rfl,yG (λhf=>#[_,zl hs hqu,_,rfl,kn hse ⋯ λM G2 _ sg hM=>fin _ M G2 (by unfold Yh;rw[if_pos hf]) (by rw[kG];lia) sg hM]) λhf=>kj hse ⋯ λM0 G1 _ sg0 hM0=>#[_,zl (hs.trans sg0) hqu,_,rfl,kn hM0.is (by rw[yi];lia) λM G2 _ sg hM=>fin _ M G2 (by unfold Yh;rw[if_neg hf]) (by rw[kG,yi];lia) (sg0.trans sg) hM]]
   ·rintro σ H' ⟨hs,hL,hl,v3,v4,rfl⟩;rw[htl,aH]at hL;exact#[hs,hL,_,_,rfl]
  rintro σ H2 ⟨s2,hL2,v3,v4,rfl⟩:_;right
  rfl'
  exact q D H2 hD s2 hL2
noncomputable def z7(rs:List zk):()->List Stp->Option (())
 | w,[]=>rp w
 | w,s::ss=>(yg rs w s).bind λw'=>z7 rs w' ss
theorem xJ(rs:List zk):∀(ss ts:List Stp) (w:()),z7 rs w (ss ++ ts)=(z7 rs w ss).bind λw'=>z7 rs w' ts
 | [],ts,w=>rfl
 | s::ss,ts,w=>by
  erw[br,z7]
  cases yg rs w s with
  | none=>rfl
  | some w1=>exact xJ rs ss ts w1
theorem uQ{s:Stp}{w w':()}(h:z7 rs w (s::ss)=rp w'):∃w1,yg rs w s=rp w1/\z7 rs w1 ss=rp w':=by
 erw[z7]at h
 obtain⟨w1,h1,h2⟩:=rX.mp h;exact#[w1,h1,h2]
theorem Zr{s:Stp}{w w1 w2:()}(h:z7 rs w ss=rp w1)(h2:yg rs w1 s=rp w2):z7 rs w (ss ++ [s])=rp w2:=by
 rw[xJ,h]
 erw[z7,bM]
 rw[h2];rfl
theorem WF(s:Stp)(ss:List Stp):yo (s::ss)=yo ss ++ [bk s]:=by simp [yo]
theorem vn:∀{ss:List Stp} {w w':()},z7 rs w ss=rp w'->z7 rs w' (yo ss)=rp w
 | [],w,w',h=>by cases h;rfl
 | s::ss,w,w',h=>by
  obtain⟨w1,h1,h2⟩:=uQ h;rw[WF];exact Zr (vn h2) (qO h1)
theorem qi(a b:()):∀{ss:List Stp} {w w':()},z7 rs w ss=rp w'->z7 rs (a ++ w ++ b) (mvL ss (a.length:Int))=rp (a ++ w' ++ b)
 | [],w,w',h=>by cases h;rfl
 | s::ss,w,w',h=>by
  obtain⟨w1,h1,h2⟩:=uQ h;have e:mvL (s::ss) (a.length:Int)=(s.1,s.2.1+(a.length:Int),s.2.2)::mvL ss (a.length:Int):=rfl;rw[e]
  erw[z7]
  rw[ud a b h1];exact qi a b h2
def EOk(rs:List zk)(e:Ent):Prop:=z7 rs e.1 e.2.2=rp e.2.1
noncomputable def zb(es:List Ent):List zk:=es.map λe=>(e.1,e.2.1)
theorem QC(hE:∀e ∈ es,EOk rs e){u:Stp}{w w':()}(h:yg (zb es) w u=rp w'):z7 rs w (Yh es u)=rp w':=by
 have hb:0<=u.1/\u.1<(zb es).length:=bD λhb=>by rw[yR hb]at h;cases h
 rw[yA hb]at h;have hl:(zb es).length=es.length:=by unfold zb;rw[ac]
 rw[hl]at hb
 have hg:es[u.1.toNat]? = rp (es.getD u.1.toNat ([],[],[])):=by
  rw[aa,ae ⋯];rfl
 have hp:(zb es).getD u.1.toNat ([],[])=((es.getD u.1.toNat ([],[],[])).1,(es.getD u.1.toNat ([],[],[])).2.1):=by
  unfold zb;rw[aa,ay,hg];rfl
 rw[hp]at h;have he:=hE _ (ag hg);unfold Yh;generalize es.getD u.1.toNat ([],[],[])=e at *
 have key:∀(o n:()) (ss:List Stp),sdl (e.1,e.2.1) u.2.2=(o,n)->z7 rs o ss=rp n->z7 rs w (mvL ss u.2.1)=rp w':=λo n ss hs hw=>by
  rw[hs]at h;by_cases hst:zr w u.2.1 o=rz
  ·rw[if_pos hst]at h;cases h;obtain⟨e1,e2,h0,h1⟩:=yB hst;have:=qi (w.take u.2.1.toNat) (w.drop (u.2.1.toNat+o.length)) hw;rw[e1,e2,show ((u.2.1.toNat:Nat):Int)=u.2.1 by lia]at this;exact this
  ·rw[if_neg hst]at h;cases h
 cases hf:u.2.2 with
 | true =>
  rw[if_pos rfl];exact key e.1 e.2.1 e.2.2 (by rw[hf];rfl) he
 | false =>
  rw[if_neg ∅];exact key e.2.1 e.1 (yo e.2.2) (by rw[hf];rfl) (vn he)
theorem j9(hE:∀e ∈ es,EOk rs e):∀{us:List Stp} {w w':()},z7 (zb es) w us=rp w'->z7 rs w (byL es us)=rp w'
 | [],w,w',h=>by cases h;rfl
 | u::us,w,w',h=>by
  obtain⟨w1,h1,h2⟩:=uQ h;have e:byL es (u::us)=Yh es u ++ byL es us:=by simp [byL]
  rw[e,xJ,QC hE h1];exact j9 hE h2
theorem Vx(ok:ju rs){w w':()}{s:Stp}(h:yg rs w s=rp w'):w'.length<=w.length+100:=by
 have hb:0<=s.1/\s.1<rs.length:=bD λhb=>by rw[yR hb]at h;cases h
 rw[yA hb]at h;have g:=ZV ok s.1.toNat;generalize rs.getD s.1.toNat ([],[])=r at *;by_cases hs:zr w s.2.1 (sdl r s.2.2).1=rz
 ·rw[if_pos hs]at h;cases h;have:=Qc (n:=(sdl r s.2.2).2) hs
  have h2:(sdl r s.2.2).2.length<=100:=by
   cases s.2.2
   ·exact g.1
   ·exact g.2
  lia
 ·rw[if_neg hs]at h;cases h
noncomputable def qJ(D:nP)(H:Hp):Hp:=λb=>if b=D then rq else H b
theorem wg{D b:nP}(h:b≠D):qJ D H b=H b:=by unfold qJ;rw[if_neg h]
theorem qb{D:nP}:qJ D H D=rq:=by unfold qJ;rw[if_pos rfl]
theorem xS{D:nP}:Same (qJ D H) H:=λb o e=>by
 by_cases hb:b=D
 ·rw[hb,qb]at e;cases e
 ·rw[wg hb]at e;exact e
theorem Vz{D:nP}{H H':Hp}(hD:H D=rq)(s:Same H H'):Same H (qJ D H'):=λb o e=>by
 have hb:b≠D:=λz=>by rw[z,hD]at e;cases e
 rw[wg hb];exact s _ _ e
theorem wj{D:nP}{H H':Hp}(s:Same H H'):Same (qJ D H) (qJ D H'):=λb o e=>by
 by_cases hb:b=D
 ·rw[hb,qb]at e;cases e
 ·rw[wg hb]at e ⊢;exact s _ _ e
theorem y4{D:nP}{o:HO}:Same (qJ D H) (qJ D (upd H D o)):=λb o' e=>by
 by_cases hb:b=D
 ·rw[hb,qb]at e;cases e
 ·rw[wg hb]at e ⊢;rw[zp hb];exact e
theorem VJ{D a:nP}{xs ys:List V}(hD:H D=rp (.lst ys))(h:SqT K H a xs):SqT K (qJ D H) a xs:=by
 rcases h with (h | ⟨o,h⟩) | h
 ·exact .inl (.inl (by rw[wg (λe=>by rw[e,hD]at h;cases h)];exact h))
 ·exact .inl (.inr #[o,by rw[wg (λe=>by rw[e,hD]at h;cases h)];exact h])
 ·exact .inr h
theorem Y7{D:nP}{ys:List V}(hD:H D=rp (.lst ys)):∀(ss:List Stp) (vs:List V),Iss K H (ss.map dSt) vs->Iss K (qJ D H) (ss.map dSt) vs
 | [],vs,h=>by erw[aw,Iss]at h ⊢;exact h
 | s::ss,vs,h=>by
  erw[aj,Iss]at h ⊢
  obtain⟨v,r,rfl,h1,h2⟩:=h;obtain⟨p,rfl,h3⟩:=Q6 h1;exact#[_,r,rfl,YE (VJ hD h3),Y7 hD ss r h2]
theorem zc3{p s:nP}(h1:SqT K H p [.str (tx e.1),.str (tx e.2.1),.ref s])(h2:Is K H (.lst (e.2.2.map dSt)) (.ref s)):Is K H (dE e) (.ref p):=by
 erw[dE,Is,Iss]
 erw[Is]at h2
 exact#[p,_,rfl,h1,_,_,rfl,rfl,_,_,rfl,rfl,_,_,rfl,h2,rfl]
theorem YM{vs:List V}{j:Nat}{v:V}(h:Iss K H (es.map dE) vs)(q:vs[j]? = rp v):∃e p s,es[j]? = rp e/\v=.ref p/\SqT K H p [.str (tx e.1),.str (tx e.2.1),.ref s]/\Is K H (.lst (e.2.2.map dSt)) (.ref s):=by
 obtain⟨d,e,i⟩:=h.get q;rw[ay]at e;obtain⟨r,hr,rfl⟩:=rO.mp e;obtain⟨p,s,e1,e2,e3⟩:=zbw i;exact#[r,p,s,hr,e1,e2,e3]
theorem KI{d:L3.D}{v:V}(h:Is K H d v):Iss K H [d] [v]:=by
 erw[Iss]
 exact#[v,[],rfl,h,rfl]
def EnA(K:nO)(H:Hp)(e:Ent)(v:V):Prop:=∃p s,v=.ref p/\SqT K H p [.str (tx e.1),.str (tx e.2.1),.ref s]/\LsA K H s (e.2.2.map dSt)
def EnsA(K:nO)(H:Hp):List Ent->List V->Prop
 | [],vs=>vs=[]
 | e::es,vs=>∃v r,vs=v::r/\EnA K H e v/\EnsA K H es r
def EnsL(K:nO)(H:Hp)(a:nP)(es:List Ent):Prop:=∃xs,SqL K H a xs/\EnsA K H es xs
def EnsM(K:nO)(H:Hp)(a:nP)(es:List Ent):Prop:=∃xs,H a=rp (.lst xs)/\EnsA K H es xs
theorem EnA.is{v:V}(h:EnA K H e v):Is K H (dE e) v:=by
 obtain⟨p,s,rfl,h1,h2⟩:=h;exact zc3 h1 h2.is
theorem EnA.same{H H':Hp}{v:V}(h:EnA K H e v)(q:Same H H'):EnA K H' e v:=by
 obtain⟨p,s,e0,h1,h2⟩:=h;exact#[p,s,e0,zl q h1,h2.same q]
theorem EnsA.iss:∀{es:List Ent} {vs:List V},EnsA K H es vs->Iss K H (es.map dE) vs
 | [],vs,h=>by erw[EnsA]at h;erw[aw,Iss];exact h
 | e::es,vs,h=>by
  erw[EnsA]at h
  obtain⟨v,r,rfl,h1,h2⟩:=h
  erw[aj,Iss]
  exact#[v,r,rfl,h1.is,h2.iss]
theorem EnsA.len{vs:List V}(h:EnsA K H es vs):vs.length=es.length:=by
 have:=h.iss.len;rw[ac]at this;exact this
theorem EnsA.same{H H':Hp}(q:Same H H'):∀{es:List Ent} {vs:List V},EnsA K H es vs->EnsA K H' es vs
 | [],vs,h=>by erw[EnsA]at h ⊢;exact h
 | e::es,vs,h=>by
  erw[EnsA]at h ⊢
  obtain⟨v,r,e0,h1,h2⟩:=h;exact#[v,r,e0,h1.same q,h2.same q]
theorem EnsA.snoc{v:V}(hv:EnA K H e v):∀{es:List Ent} {vs:List V},EnsA K H es vs->EnsA K H (es ++ [e]) (vs ++ [v])
 | [],vs,h=>by
  erw[EnsA]at h
  subst h
  erw[bC,EnsA]
  exact#[v,[],rfl,hv,rfl]
 | e'::es,vs,h=>by
  erw[EnsA]at h
  obtain⟨x,r,rfl,hx,hr⟩:=h
  erw[br,EnsA]
  exact#[x,r ++ [v],rfl,hx,hr.snoc hv]
theorem EnsA.get:∀{es:List Ent} {vs:List V} {j:Nat} {v:V},EnsA K H es vs->vs[j]? = rp v->∃e p s,es[j]? = rp e/\v=.ref p/\SqT K H p [.str (tx e.1),.str (tx e.2.1),.ref s]/\LsA K H s (e.2.2.map dSt)
 | [],vs,j,v,h,q=>by
  erw[EnsA]at h
  subst h;simp at q
 | e::es,vs,0,v,h,q=>by
  erw[EnsA]at h
  obtain⟨x,r,rfl,⟨p,s,rfl,h1,h2⟩,_⟩:=h;cases q;exact#[e,p,s,rfl,rfl,h1,h2]
 | e::es,vs,j+1,v,h,q=>by
  erw[EnsA]at h
  obtain⟨x,r,rfl,_,hr⟩:=h;exact hr.get (j:=j) (by simpa using q)
theorem EnsL.is{a:nP}(h:EnsL K H a es):Is K H (.lst (es.map dE)) (.ref a):=by
 obtain⟨xs,h1,h2⟩:=h
 erw[Is]
 exact#[a,xs,rfl,h1,h2.iss]
theorem EnsL.same{H H':Hp}{a:nP}(h:EnsL K H a es)(q:Same H H'):EnsL K H' a es:=by
 obtain⟨xs,h1,h2⟩:=h;exact#[xs,q.seq h1,h2.same q]
theorem EnsM.l{a:nP}(h:EnsM K H a es):EnsL K H a es:=by
 obtain⟨xs,h1,h2⟩:=h;exact#[xs,SqL.of h1,h2]
theorem EnsM.same{H H':Hp}{a:nP}(h:EnsM K H a es)(q:Same H H'):EnsM K H' a es:=by
 obtain⟨xs,h1,h2⟩:=h;exact#[xs,q _ _ h1,h2.same q]
theorem EnA.new{D p s:nP}{ys:List V}(hD:H D=rp (.lst ys))(hp:H p=rp (.tup [.str (tx e.1),.str (tx e.2.1),.ref s]))(hs:LsA K H s (e.2.2.map dSt))(hsD:s≠D):EnA K (qJ D H) e (.ref p):=by
 obtain⟨zs,hz,hi⟩:=hs;have hpD:p≠D:=λz=>by rw[z,hD]at hp;cases hp
 exact#[p,s,rfl,SqT.of (by rw[wg hpD];exact hp),zs,by rw[wg hsD];exact hz,Y7 hD _ _ hi]
theorem vc(es:List Ent):(zb es).length=es.length:=by unfold zb;rw[ac]
def wF(K:nO):Sp:=λvs H Q _=>∃(a:nP) (es:List Ent),vs=[.ref a]/\Is K H (.lst (es.map dE)) (.ref a)/\es.length<=1000/\∀(D:nP) (H':Hp),H D=rq->Same H H'->LsA K H' D ((zb es).map dR)->Q (.ref D) H'
theorem xX{a:nP}(h1:Is K H (.lst (es.map dE)) (.ref a))(h2:es.length<=1000)(h:∀(D:nP) (H':Hp),H D=rq->Same H H'->LsA K H' D ((zb es).map dR)->Q (.ref D) H'):wF K [.ref a] H Q E:=#[a,es,rfl,h1,h2,h]
theorem ZR:sQz 1 ["entries"] wB:=by nofun
theorem Zx(B:Bt mg)(F:("pairs_of"^^^wB)) :(1&&&["entries"]) (wF K):=by
 exists F.ok ZR
 ·obtain⟨a,es,rfl,hA,hl,q⟩:=h;refine#[_,(zh (zt (yC (own:=["entry"]) (caps:=[]) (ix:=[]) (tt:=xQ) (te:=(XY (zK (tOp (wV K) (z5 0) (tC (.int 0))) (zK (tOp (wV K) (z5 0) (tC (.int 1))) xI)))) rfl (zM (sc:=zg wB) rfl (by symm) (by symm) (by symm) rfl (by symm) (by symm) rfl) (ye (pv 0)) (λ_ _ _ _ _ _=>zx (i:=0) (show List.Nodup [_] by decide) rfl (.inl rfl)) (λ_ _ _ _ _ _=>yd) (λ_ _ _ _ _ _=>(zN (za (zm ix_tup (pv 0) zf) (za (zm ix_tup (pv 0) zf) ze))))))),?_];have s16:=ya
  rfl'
  erw[Is]at hA
  obtain⟨_,xs,e,hX,hI⟩:=hA;cases e;have hxl:=hI.len;rw[ac]at hxl;have hpl:=vc es;refine#[#[xs,hX],λD hD=>CompL.by (xs:=xs) (λi rE H'=>Same H H'/\H' D=rp (.lst rE)/\Iss K H' (((zb es).take i).map dR) rE) #[zd hD,zc,by erw[bn,aw,Iss]] (λi rE H' _ h=>h.1.seq hX) ?_ ?_]
  ·refine nm4 ?_;rintro i x rE H' hx ⟨hs,hH,hA⟩:_;have hi:=(rG.mp hx).1;obtain⟨e,pe,se,hei,rfl,hqe,_⟩:=YM hI hx;have hm:(zb es)[i]? = rp (e.1,e.2.1):=by unfold zb;rw[ay,hei];rfl
   have hal:=hA.len;rw[ac,aF]at hal;right
   erw[xQ]
   rfl'
   refine#[yL,_,zl hs hqe,_,rfl,_,zl hs hqe,_,rfl,⋯,λp hp=>#[zd hp _ _ hH,⋯,CNx.mk hi #[zy (hs.trans (zd hp)) hD,zc,?_]]];rw[zH hm,aq];exact j3 hH hA hp zcU (xH _) (by erw[zV,xh,and_self])
  ·rintro rE H' ⟨hs,hH,hA⟩;rw[hxl,<- hpl,aH]at hA;exact q D H' hD hs #[rE,hH,hA]
noncomputable def zX(k:Nat)(l:())(ns:List Int)(e:Ent):Ent:=if zF k l ns e.2.1 e.1=rz then e else (e.2.1,e.1,yo e.2.2)
structure EB(l:())(e:Ent):Prop where
 a:e.1.length<=60
 b:e.2.1.length<=60
 s:e.2.2.length<=600
 ma:∀c ∈ e.1,c ∈ l
 mb:∀c ∈ e.2.1,c ∈ l
theorem EB.rule{l:()}(h:EB l e):EB l (zX k l ns e):=by
 unfold zX;split
 ·exact h
 ·exact#[h.b,h.a,by rw[yi];exact h.s,h.mb,h.ma]
def wf(K:nO)(CO CR CW:nP):Sp:=λvs H Q _=>∃(o p s:nP) (k:Nat) (l:()) (ns:List Int) (e:Ent),vs=[.ref o,.ref p]/\OrdAt CO CR CW H o k l ns/\OG l ns k/\SqT K H p [.str (tx e.1),.str (tx e.2.1),.ref s]/\Is K H (.lst (e.2.2.map dSt)) (.ref s)/\EB l e /\
 (zX k l ns e=e->∀H',Same H H'->Q (.ref p) H') /\
 (∀(p' s':nP) (H':Hp),Same H H'->H s'=rq->H' p'=rp (.tup [.str (tx (zX k l ns e).1),.str (tx (zX k l ns e).2.1),.ref s'])->LsA K H' s' ((zX k l ns e).2.2.map dSt)->Q (.ref p') H')
theorem qT{CO CR CW o p s:nP}{l:()}(h1:OrdAt CO CR CW H o k l ns)(h2:OG l ns k)(h3:SqT K H p [.str (tx e.1),.str (tx e.2.1),.ref s])(h4:Is K H (.lst (e.2.2.map dSt)) (.ref s))(h5:EB l e)
  (h6:zX k l ns e=e->∀H',Same H H'->Q (.ref p) H') (h7:∀(p' s':nP) (H':Hp),Same H H'->H s'=rq->H' p'=rp (.tup [.str (tx (zX k l ns e).1),.str (tx (zX k l ns e).2.1),.ref s'])->LsA K H' s' ((zX k l ns e).2.2.map dSt)->Q (.ref p') H'):wf K CO CR CW [.ref o,.ref p] H Q E :=
 #[o,p,s,k,l,ns,e,rfl,h1,h2,h3,h4,h5,h6,h7]
theorem XO:sQz 2 ["order","entry"] uZ:=by nofun
theorem Xg{f CO CR CW:nP}(B:Bt mg)(DBk:DB P w K mg base CO CR CW)(F:("as_rule"^^^uZ))(lH:(1<<<"back") ["steps"] [] (qu K)):(4&&&["order","entry"]) (wf K CO CR CW):=by
 exists F.ok XO
 ·obtain⟨o,p,s,k,l,ns,e,rfl,ho,hG,hp,hs,hE,q1,q2⟩:=h
  refine#[_,(zQ (zU (yT (zas DBk hr (pv 0) (za (zm ix_tup (pv 1) zf) (za (zm ix_tup (pv 1) zf) ze))) (λ_=>rfl))
    (zh (zt (pv 1)))
    zw)
   (zh (zt (zN (za (zm ix_tup (pv 1) zf) (za (zm ix_tup (pv 1) zf) (za (cl0 lH hr .nil rfl (za (zm ix_tup (pv 1) zf) ze)) ze))))))),?_]
  have s16:=ya;ac_rfl;obtain⟨C,dx,fs,hf,ho1,hn,_⟩:=ho.fam;have h1:fs.lookup ("before" : nW)=rq:=hn _ ∅ ∅;refine#[C,hf,dx,fs,ho1,h1,_,hp,_,rfl,_,hp,_,rfl,o,k,l,ns,e.2.1,e.1,rfl,ho,hG,by have:=hE.b;lia,by have:=hE.a;lia,hE.mb,hE.ma,λH1 s1=>#[_,rfl,yG (λh=>?_) λh=>?_]]
  ·exact q1 (by unfold zX;rw[if_pos h]) H1 s1
  ·have er:zX k l ns e=(e.2.1,e.1,yo e.2.2):=by unfold zX;rw[if_neg h]
   rw[er]at q2;have hp1:=zl s1 hp;refine#[_,hp1,_,rfl,_,hp1,_,rfl,_,hp1,_,rfl,kj (Is.same s1 _ _ hs) (by have:=hE.s;lia) λD H2 hD s2 hL=>#[⋯,λt ht=>?_]];exact q2 t D _ (s1.trans (s2.trans (zd ht))) (s1.free hD) zc (hL.same (zd ht))
theorem ZY{l:()}{w:()}(hb:∀n ∈ ns,1<=n/\n<=1000000):0<=Ui l ns w:=by
 unfold Ui
 have key:∀xs:List Int,(∀x ∈ xs,0<=x)->0<=xs.sum:=by
  intro xs
  induction xs with
  | nil=>intro _;simp
  | cons x xs ih =>
   intro h;rw[bh];have h1:=h x az;have h2:=ih λy hy=>h y (ar _ hy);lia
 refine key _ λx hx=>?_;obtain⟨p,hp,rfl⟩:=rF.mp hx;have h1:=(hb p.2 (cS (show (p.1,p.2) ∈ l.zip ns from hp)).2).1;exact Int.mul_nonneg ⋯ ⋯
theorem V1{l:()}{u v:()}(hb:∀n ∈ ns,1<=n/\n<=1000000)(h:zF k l ns u v=rz):v≠[]:=by
 intro e;subst e
 have h0:zq k l ns []=0:=by
  unfold zq;split
  ·unfold Ui
   have z:∀xs:List (Nat × Int),(xs.map λp=>(([]:()).count p.1:Int) * p.2).sum=0:=by
    intro xs
    induction xs with
    | nil=>rfl
    | cons x xs ih=>rw[aj,bh,ih];simp
   exact z _
  ·rfl
 have h1:0<=zq k l ns u:=by
  unfold zq;split
  ·exact ZY hb
  ·lia
 have h2:wk k l []=[]:=by
  unfold wk yc;split <;> rfl
 unfold zF at h;rw[h0,h2]at h;split at h
 ·cases hr:wk k l u with
  | nil=>rw[hr]at h;cases h
  | cons a r=>rw[hr]at h;cases h
 ·have:=of_decide_eq_true h;lia
theorem uP{k:Nat}{l:()}{ns:List Int}(hE:EB l e)(hne:e.1≠e.2.1):zF k l ns (zX k l ns e).2.1 (zX k l ns e).1=rz:=by
 unfold zX;by_cases h:zF k l ns e.2.1 e.1=rz
 ·rw[if_pos h];exact h
 ·rw[if_neg h];have:=qo (k:=k) (ns:=ns) hE.ma hE.mb hne;show zF k l ns e.1 e.2.1=rz;rw[this];simpa using h
noncomputable def uu(k:Nat)(l:())(ns:List Int)(es:List Ent):List Ent:=(es.filter λe=>!decide (e.1=e.2.1)).map (zX k l ns)
theorem Ka(k:Nat)(l:())(ns:List Int)(es fs:List Ent):uu k l ns (es ++ fs)=uu k l ns es ++ uu k l ns fs:=by
 unfold uu;rw[cz,aq]
theorem Z9(k:Nat)(l:())(ns:List Int)(es:List Ent):(uu k l ns es).length<=es.length:=by
 unfold uu;rw[ac];exact cE _ _
noncomputable def ka(k:Nat)(l:())(ns:List Int)(a b:Ent):Bool:=if a.1=b.1 then zF k l ns a.2.1 b.2.1 else zF k l ns a.1 b.1
structure Lined(k:Nat)(l:())(ns:List Int)(es zs:List Ent):Prop where
 perm:zs.Perm (uu k l ns es)
 srt:zs.Pairwise λa b=>ka k l ns b a=rA
 is:zs=L3.srt (ka k l ns) ([],[],[]) (uu k l ns es)
structure zO(ps:List zk)(w:())(i:Nat):Prop where
 live:Xu ps w i
 end_:zA (wAt ps w i) ps=rq
 most:i<=40
theorem JD(ps:List zk)(w:()):(∃i,zO ps w i)\/(Xu ps w 40/\zA (wAt ps w 40) ps≠rq):=by
 have key:∀n,n<=41->(∃i,zO ps w i)\/Xu ps w n:=by
  intro n
  induction n with
  | zero=>intro _;exact .inr λi h=>absurd h (cX i)
  | succ n ih =>
   intro hn;rcases ih ⋯ with h | h
   ·exact .inl h
   ·cases e:zA (wAt ps w n) ps with
    | none=>exact .inl #[n,h,e,⋯]
    | some u =>
     refine .inr λi hi=>?_;by_cases hin:i=n
     ·rw[hin,e];intro z;cases z
     ·exact h i ⋯
 rcases key 41 (ao _)with h | h
 ·exact .inl h
 ·exact .inr #[λi hi=>h i ⋯,h 40 ∅]
noncomputable def stS(us:List (Nat × Nat)):List Stp:=us.map λu=>((u.1:Int),(u.2:Int),rz)
noncomputable def yq(bs:List Ent)(e:Ent)(i j:Nat):Ent:=(wAt (zb bs) e.1 i,wAt (zb bs) e.2.1 j,byL bs (yo (stS (sAt (zb bs) e.1 i))) ++ e.2.2 ++ byL bs (stS (sAt (zb bs) e.2.1 j)))
def uJ(e:Ent):Prop:=240<e.2.2.length\/60<e.1.length\/60<e.2.1.length
inductive yN(k:Nat)(l:())(ns:List Int):List Ent->List Ent->Option (List Ent)->Prop where
 | nil (bs:List Ent):yN k l ns bs [] (rp bs)
 | same {bs es:List Ent} {e:Ent} {i j:Nat} {r:Option (List Ent)} (h1:zO (zb bs) e.1 i) (h2:zO (zb bs) e.2.1 j) (h3:wAt (zb bs) e.1 i=wAt (zb bs) e.2.1 j) (h4:yN k l ns bs es r):yN k l ns bs (e::es) r
 | new {bs es:List Ent} {e:Ent} {i j:Nat} {r:Option (List Ent)} (h1:zO (zb bs) e.1 i) (h2:zO (zb bs) e.2.1 j) (h3:wAt (zb bs) e.1 i≠wAt (zb bs) e.2.1 j) (h4:¬ uJ (yq bs e i j)) (h5:yN k l ns (bs ++ [zX k l ns (yq bs e i j)]) es r):yN k l ns bs (e::es) r
 | far {bs es:List Ent} {e:Ent} {i j:Nat} (h1:zO (zb bs) e.1 i) (h2:zO (zb bs) e.2.1 j) (h3:wAt (zb bs) e.1 i≠wAt (zb bs) e.2.1 j) (h4:uJ (yq bs e i j)):yN k l ns bs (e::es) rq
 | stuck {bs es:List Ent} {e:Ent} (h:(∀i,¬ zO (zb bs) e.1 i)\/(∀j,¬ zO (zb bs) e.2.1 j)):yN k l ns bs (e::es) rq
inductive vV(k:Nat)(l:())(ns:List Int):Nat->List Ent->Option (List Ent)->Prop where
 | out (es:List Ent):vV k l ns 0 es rq
 | bad {n:Nat} {es zs:List Ent} (h1:Lined k l ns es zs) (h2:yN k l ns [] zs rq):vV k l ns (n+1) es rq
 | done {n:Nat} {es zs bs:List Ent} (h1:Lined k l ns es zs) (h2:yN k l ns [] zs (rp bs)) (h3:zb bs=zb zs):vV k l ns (n+1) es (rp bs)
 | more {n:Nat} {es zs bs:List Ent} {r:Option (List Ent)} (h1:Lined k l ns es zs) (h2:yN k l ns [] zs (rp bs)) (h3:zb bs≠zb zs) (h4:vV k l ns n bs r):vV k l ns (n+1) es r
theorem yD{w:()}{u:Nat × Nat}(h:zA w ps=rp u):∃p,ps[u.1]? = rp p/\zr w (u.2:Int) p.1=rz:=by
 have hm:u ∈ y0 w ps w.length:=List.mem_of_mem_head? (by unfold zA at h;rw[h];rfl);exact (wL (usesK_mem.mp hm).2).2
theorem vH{l w:()}(hw:∀c ∈ w,c ∈ l)(hp:∀p ∈ ps,∀c ∈ p.2,c ∈ l):∀j,∀c ∈ wAt ps w j,c ∈ l
 | 0=>hw
 | j+1=>by
  have ih:=vH hw hp j
  cases e:zA (wAt ps w j) ps with
  | none =>
   show ∀c ∈ ZS ps (wAt ps w j),c ∈ l;unfold ZS;rw[e];exact ih
  | some u =>
   obtain⟨p,h1,h2⟩:=yD e;rw[wA e];unfold kC yE;rw[xx h1];intro c hc;rcases rJ.mp hc with hc | hc
   ·rcases rJ.mp hc with hc | hc
    ·exact ih c (bI hc)
    ·exact hp p (ag h1) c hc
   ·exact ih c (cH hc)
structure zcb(R:()->()->Prop):Prop where
 refl:∀u,R u u
 symm:∀{u v},R u v->R v u
 trans:∀{u v w},R u v->R v w->R u w
 ctx:∀{u v} (a b:()),R u v->R (a ++ u ++ b) (a ++ v ++ b)
def Xx(R:()->()->Prop)(es:List Ent):Prop:=∀e ∈ es,R e.1 e.2.1
theorem JC{R:()->()->Prop}(hR:zcb R)(hk:∀p ∈ ps,R p.1 p.2)(w:()):∀j,R w (wAt ps w j)
 | 0=>hR.refl w
 | j+1=>by
  have ih:=JC hR hk w j
  cases e:zA (wAt ps w j) ps with
  | none =>
   show R w (ZS ps (wAt ps w j));unfold ZS;rw[e];exact ih
  | some u =>
   obtain⟨p,h1,h2⟩:=yD e;rw[wA e];refine hR.trans ih ?_;obtain⟨e1,_⟩:=yB h2;unfold kC yE;rw[xx h1];have:=hR.ctx ((wAt ps w j).take ((u.2:Int)).toNat) ((wAt ps w j).drop (((u.2:Int)).toNat+p.1.length)) (hk p (ag h1));rw[e1]at this;exact this
theorem uW{R:()->()->Prop}(h:Xx R bs):∀p ∈ zb bs,R p.1 p.2:=λp hp=>by
 unfold zb at hp;obtain⟨e,he,rfl⟩:=rF.mp hp;exact h e he
theorem ja{R:()->()->Prop}(hR:zcb R){l:()}:R (zX k l ns e).1 (zX k l ns e).2.1 ↔ R e.1 e.2.1:=by
 unfold zX;split
 ·exact Iff.rfl
 ·exact#[hR.symm,hR.symm]
theorem Wp{R:()->()->Prop}(hR:zcb R){i j:Nat}(h:Xx R bs):R (wAt (zb bs) e.1 i) (wAt (zb bs) e.2.1 j) ↔ R e.1 e.2.1:=by
 have h1:=JC hR (uW h) e.1 i;have h2:=JC hR (uW h) e.2.1 j;exact#[λx=>hR.trans h1 (hR.trans x (hR.symm h2)),λx=>hR.trans (hR.symm h1) (hR.trans x h2)]
theorem zcO{R:()->()->Prop}(hR:zcb R){l:()}{bs es:List Ent}{r:Option (List Ent)}(h:yN k l ns bs es r):∀fs,r=rp fs->(Xx R fs ↔ Xx R bs/\Xx R es):=by
 induction h with
 | nil bs =>
  intro fs e;cases e;exact#[λh=>#[h,λe he=>(nomatch he)],λh=>h.1]
 | @same bs es e i j r h1 h2 h3 h4 ih =>
  intro fs er;rw[ih fs er];refine#[λ⟨a,b⟩=>#[a,λx hx=>?_],λ⟨a,b⟩=>#[a,λx hx=>b x (ar _ hx)]];rcases rH.mp hx with rfl | hx
  ·refine (Wp hR a (i:=i) (j:=j)).mp ?_;rw[h3];exact hR.refl _
  ·exact b x hx
 | @new bs es e i j r h1 h2 h3 h4 h5 ih =>
  intro fs er;rw[ih fs er];constructor
  ·rintro⟨a,b⟩;have a':Xx R bs:=λx hx=>a x (bu _ hx);refine#[a',λx hx=>?_];rcases rH.mp hx with rfl | hx
   ·have:=a _ (aD bs (rK.mpr rfl));exact (Wp hR a' (i:=i) (j:=j)).mp ((ja hR).mp this)
   ·exact b x hx
  ·rintro⟨a,b⟩;refine#[λx hx=>?_,λx hx=>b x (ar _ hx)];rcases rJ.mp hx with hx | hx
   ·exact a x hx
   ·rw[rK.mp hx];exact (ja hR).mpr ((Wp hR a (i:=i) (j:=j)).mpr (b e az))
 | far=>intro fs e;cases e
 | stuck=>intro fs e;cases e
def Within(p w:()):Prop:=∃a b:(),w=a ++ p ++ b
theorem V5{w p:()}(h:Within p w):∃q:Nat,zr w (q:Int) p=rz:=by
 obtain⟨a,b,rfl⟩:=h;refine#[a.length,?_];unfold zr;refine decide_eq_true #[⋯,by erw[am];lia,?_];rw[aP,aR,List.drop_left,List.take_left]
theorem VI{w:()}(hN:NeL ps)(h:zA w ps=rq):∀p ∈ ps,¬ Within p.1 w:=λp hp hw=>by
 obtain⟨q,hq⟩:=V5 hw;obtain⟨j,hj⟩:=rY.mp hp;have hlt:=ql (hN p hp) hq;have hs:stJ w ps q j=rz:=by rw[jf hj];exact hq
 have:(j,q) ∈ y0 w ps w.length:=usesK_mem.mpr #[hlt,hs];unfold zA at h;rw[List.head?_eq_none_iff]at h;rw[h]at this;cases this
structure RL(k:Nat)(l:())(ns:List Int)(bs:List Ent):Prop where
 e:∀e ∈ bs,EB l e
 lt:∀e ∈ bs,zF k l ns e.2.1 e.1=rz
theorem Ql{l:()}{w:()}{u:Nat × Nat}(G:OG l ns k)(hp:∀p ∈ ps,zF k l ns p.2 p.1=rz/\(∀c ∈ p.1,c ∈ l)/\∀c ∈ p.2,c ∈ l)(hw:∀c ∈ w,c ∈ l)(h:zA w ps=rp u):zF k l ns (kC w ps u) w=rz:=by
 obtain⟨p,h1,h2⟩:=yD h;obtain⟨e1,_⟩:=yB h2;obtain⟨p1,p2,p3⟩:=hp p (ag h1);unfold kC yE;rw[xx h1];have ha:∀c ∈ w.take ((u.2:Int)).toNat,c ∈ l:=λc hc=>hw c (bI hc);have hb:∀c ∈ w.drop (((u.2:Int)).toNat+p.1.length),c ∈ l:=λc hc=>hw c (cH hc);generalize w.take ((u.2:Int)).toNat=a at *;generalize w.drop (((u.2:Int)).toNat+p.1.length)=b at *;rw[<- e1];have ap:∀x:(),(∀c ∈ x,c ∈ l)->∀c ∈ a ++ x,c ∈ l:=λx hx c hc=>(rJ.mp hc).elim (ha c) (hx c);rw[(kq G hb (ap p.2 p3) (ap p.1 p2)).2,(kq G ha p3 p2).1];exact p1
theorem Jl{l:()}{w:()}(G:OG l ns k)(hp:∀p ∈ ps,zF k l ns p.2 p.1=rz/\(∀c ∈ p.1,c ∈ l)/\∀c ∈ p.2,c ∈ l)(hw:∀c ∈ w,c ∈ l):∀j,wAt ps w j=w\/zF k l ns (wAt ps w j) w=rz
 | 0=>.inl rfl
 | j+1=>by
  have ih:=Jl G hp hw j;have hm:=vH hw (λp hp'=>(hp p hp').2.2) j
  cases e:zA (wAt ps w j) ps with
  | none =>
   show ZS ps (wAt ps w j)=w\/zF k l ns (ZS ps (wAt ps w j)) w=rz;unfold ZS;rw[e];exact ih
  | some u =>
   rw[wA e];have h:=Ql G hp hm e;rcases ih with h' | h'
   ·rw[h']at h ⊢;exact .inr h
   ·exact .inr (qp h h')
theorem RL.pairs{l:()}(h:RL k l ns bs):∀p ∈ zb bs,zF k l ns p.2 p.1=rz/\(∀c ∈ p.1,c ∈ l)/\∀c ∈ p.2,c ∈ l:=λp hp=>by
 unfold zb at hp;obtain⟨e,he,rfl⟩:=rF.mp hp;exact#[h.lt e he,(h.e e he).ma,(h.e e he).mb]
theorem RL.ne{l:()}(h:RL k l ns bs)(G:OG l ns k):NeL (zb bs):=λp hp=>V1 G.nb (h.pairs p hp).1
theorem RL.snoc{l:()}{d:Ent}(h:RL k l ns bs)(hd:EB l d)(hne:d.1≠d.2.1):RL k l ns (bs ++ [zX k l ns d]):=by
 refine#[λe he=>?_,λe he=>?_]
 ·rcases rJ.mp he with he | he
  ·exact h.e e he
  ·rw[rK.mp he];exact hd.rule
 ·rcases rJ.mp he with he | he
  ·exact h.lt e he
  ·rw[rK.mp he];exact uP hd hne
theorem JI{l:()}{i j:Nat}(hB:RL k l ns bs)(hE:EB l e)(hF:¬ uJ (yq bs e i j)):EB l (yq bs e i j):=by
 unfold uJ at hF;exact#[⋯,⋯,⋯,vH hE.ma (λp hp=>(hB.pairs p hp).2.2) i,vH hE.mb (λp hp=>(hB.pairs p hp).2.2) j]
theorem Xh{l:()}{i j:Nat}(G:OG l ns k)(hB:RL k l ns bs)(hE:EB l e)(hlt:zF k l ns e.2.1 e.1=rz)(h1:zO (zb bs) e.1 i)(h2:zO (zb bs) e.2.1 j)
  (hp1:(zX k l ns (yq bs e i j)).1=e.1) (hp2:(zX k l ns (yq bs e i j)).2.1=e.2.1):zA e.1 (zb bs)=rq/\zA e.2.1 (zb bs)=rq:=by
 unfold zX at hp1 hp2;by_cases h:zF k l ns (yq bs e i j).2.1 (yq bs e i j).1=rz
 ·rw[if_pos h]at hp1 hp2;have a1:wAt (zb bs) e.1 i=e.1:=hp1;have a2:wAt (zb bs) e.2.1 j=e.2.1:=hp2;have b1:=h1.end_;have b2:=h2.end_;rw[a1]at b1;rw[a2]at b2;exact#[b1,b2]
 ·rw[if_neg h]at hp1 hp2;have a1:wAt (zb bs) e.2.1 j=e.1:=hp1;rcases Jl G hB.pairs hE.mb j with h' | h'
  ·rw[a1]at h';rw[h',y6]at hlt;cases hlt
  ·rw[a1]at h';rw[ZM h']at hlt;cases hlt
theorem qP{l:()}(G:OG l ns k){bs es:List Ent}{r:Option (List Ent)}(h:yN k l ns bs es r):∀fs,r=rp fs->RL k l ns bs->RL k l ns es->∃gs,fs=bs ++ gs/\gs.length<=es.length/\RL k l ns fs /\
  (zb gs=zb es->∀i e,es[i]? = rp e->zA e.1 (zb (bs ++ gs.take i))=rq/\zA e.2.1 (zb (bs ++ gs.take i))=rq):=by
 induction h with
 | nil bs =>
  intro fs er hb he;cases er;exact#[[],by simp,ao _,hb,λ_ i e h=>by simp at h]
 | @same bs es e i j r h1 h2 h3 h4 ih =>
  intro fs er hb he;obtain⟨gs,g1,g2,g3,g4⟩:=ih fs er hb #[λx hx=>he.e x (ar _ hx),λx hx=>he.lt x (ar _ hx)];refine#[gs,g1,by rw[aE];lia,g3,λhp=>?_];have:=congrArg fL hp;unfold zb at this;rw[ac,ac,aE]at this;lia
 | @new bs es e i j r h1 h2 h3 h4 h5 ih =>
  intro fs er hb he;have hEe:=he.e e az;have hd:=JI hb hEe h4;obtain⟨gs,g1,g2,g3,g4⟩:=ih fs er (hb.snoc hd h3) #[λx hx=>he.e x (ar _ hx),λx hx=>he.lt x (ar _ hx)];refine#[zX k l ns (yq bs e i j)::gs,by rw[g1,aR];rfl,by rw[aE,aE];lia,g3,λhp n x hx=>?_];unfold zb at hp;rw[aj,aj]at hp;injection hp with hp1 hp2;have hp1a:=(Prod.ext_iff.mp hp1).1;have hp1b:=(Prod.ext_iff.mp hp1).2
  cases n with
  | zero =>
   have e0:e=x:=by simpa using hx
   subst e0;rw[bn,aX];exact Xh G hb hEe (he.lt _ az) h1 h2 hp1a hp1b
  | succ n =>
   have:=g4 hp2 n x (by simpa using hx);rw[aR]at this;rw[cM];exact this
 | far=>intro fs e;cases e
 | stuck=>intro fs e;cases e
theorem uf{l:()}(G:OG l ns k){p w:()}(hw:∀c ∈ w,c ∈ l)(h:Within p w):p=w\/zF k l ns p w=rz:=by
 obtain⟨a,b,rfl⟩:=h;by_cases e:a ++ p ++ b=p
 ·exact .inl e.symm
 ·refine .inr (UL G (λc hc=>hw c ?_) (λc hc=>hw c ?_) (λc hc=>hw c ?_) e).1
  ·exact bu _ (bu _ hc)
  ·exact bu _ (aD _ hc)
  ·exact aD _ hc
structure ThinL(k:Nat)(l:())(ns:List Int)(zs:List Ent):Prop where
 rl:RL k l ns zs
 up:∀(i j:Nat) (a b:Ent),zs[i]? = rp a->zs[j]? = rp b->i<j->zF k l ns a.1 b.1=rz
 no1:∀(i j:Nat) (a b:Ent),zs[i]? = rp a->zs[j]? = rp b->i≠j->¬ Within b.1 a.1
 no2:∀(i j:Nat) (a b:Ent),zs[i]? = rp a->zs[j]? = rp b->¬ Within b.1 a.2.1
theorem KL{k:Nat}{l:()}{ns:List Int}(G:OG l ns k){zs bs:List Ent}(hz:RL k l ns zs)(hs:zs.Pairwise λa b=>ka k l ns b a=rA)(h:yN k l ns [] zs (rp bs))(hp:zb bs=zb zs):ThinL k l ns zs:=by
 obtain⟨gs,g1,g2,g3,g4⟩:=qP G h bs rfl #[λe he=>(nomatch he),λe he=>(nomatch he)] hz;rw[bC]at g1;subst g1;have irr:=g4 hp
 erw[bC]at irr
 have early:∀(i j:Nat) (a b:Ent),zs[i]? = rp a->zs[j]? = rp b->j<i->¬ Within b.1 a.1/\¬ Within b.1 a.2.1:=λi j a b ha hb hj=>by
  have hm:(b.1,b.2.1) ∈ zb (bs.take i):=by
   have e1:zb (bs.take i)=(zb zs).take i:=by
    rw[<- hp];unfold zb;rw[dn]
   rw[e1];refine rY.mpr #[j,?_];rw[db hj];unfold zb;rw[ay,hb];rfl
  have hN:NeL (zb (bs.take i)):=λp hp'=>by
   refine (g3.ne G) p ?_;unfold zb at hp' ⊢;obtain⟨x,hx,rfl⟩:=rF.mp hp';exact rF.mpr #[x,bI hx,rfl]
  obtain⟨f1,f2⟩:=irr i a ha;exact#[VI hN f1 _ hm,VI hN f2 _ hm]
 have later:∀(i j:Nat) (a b:Ent),zs[i]? = rp a->zs[j]? = rp b->i<j->zF k l ns b.1 a.1=rA:=λi j a b ha hb hij=>by
  have hi:=(rG.mp ha);have hj:=(rG.mp hb);have:=List.pairwise_iff_getElem.mp hs i j hi.1 hj.1 hij;rw[hi.2,hj.2]at this;unfold ka at this;by_cases e:b.1=a.1
  ·rw[e,y6]
  ·rw[if_neg e]at this;exact this
 have memz:∀{i:Nat} {a:Ent},zs[i]? = rp a->EB l a/\zF k l ns a.2.1 a.1=rz:=λ{i a} ha=>#[hz.e _ (ag ha),hz.lt _ (ag ha)]
 have up:∀(i j:Nat) (a b:Ent),zs[i]? = rp a->zs[j]? = rp b->i<j->zF k l ns a.1 b.1=rz:=λi j a b ha hb hij=>by
  have hne:a.1≠b.1:=λe=>(early j i b a hb ha hij).1 #[[],[],by rw[e];simp];have t:=qo (k:=k) (ns:=ns) (memz ha).1.ma (memz hb).1.ma hne;rw[later i j a b ha hb hij]at t;simpa using t
 refine#[hz,up,λi j a b ha hb hij=>?_,λi j a b ha hb hw=>?_]
 ·rcases Nat.lt_or_gt_of_ne hij with h1 | h1
  ·intro hw;rcases uf G (memz ha).1.ma hw with e | e
   ·have:=up i j a b ha hb h1;rw[e,y6]at this;cases this
   ·rw[later i j a b ha hb h1]at e;cases e
  ·exact (early i j a b ha hb h1).1
 ·have hle:zF k l ns b.1 a.1=rz:=by
   rcases uf G (memz ha).1.mb hw with e | e
   ·rw[e];exact (memz ha).2
   ·exact qp e (memz ha).2
  rcases d6 i j with h1 | h1 | h1
  ·rw[later i j a b ha hb h1]at hle;cases hle
  ·subst h1;rw[ha]at hb;cases hb;rw[y6]at hle;cases hle
  ·exact (early i j a b ha hb h1).2 hw
theorem jU{w:()}:∀{i:Nat},Xu ps w i->z7 ps w (stS (sAt ps w i))=rp (wAt ps w i)
 | 0,_=>rfl
 | i+1,h=>by
  have ih:=jU (i:=i) λj hj=>h j ⋯;have hne:=h i ⋯
  cases e:zA (wAt ps w i) ps with
  | none=>exact absurd e hne
  | some u =>
   rw[YO,wA e,e];unfold stS at ih ⊢;rw[aq];refine Zr ih ?_;obtain⟨p,h1,h2⟩:=yD e;have hl:=(rG.mp h1).1;show yg ps (wAt ps w i) ((u.1:Int),(u.2:Int),rz)=_;rw[yA (by show (0:Int)<=(u.1:Int)/\(u.1:Int)<ps.length;lia)];have e2:ps.getD ((u.1:Int)).toNat ([],[])=p:=by rw[aP,aa,h1];rfl
   show (if zr (wAt ps w i) (u.2:Int) (sdl (ps.getD ((u.1:Int)).toNat ([],[])) rz).1=rz then _ else rq)=_;rw[e2,if_pos (show zr (wAt ps w i) (u.2:Int) (sdl p rz).1=rz from h2)];unfold kC;rw[xx h1];rfl
theorem V0{l:()}(h:EOk rs e):EOk rs (zX k l ns e):=by
 unfold zX;split
 ·exact h
 ·exact vn h
theorem J9{i j:Nat}(hb:∀e ∈ bs,EOk rs e)(he:EOk rs e)(h1:zO (zb bs) e.1 i)(h2:zO (zb bs) e.2.1 j):EOk rs (yq bs e i j):=by
 have w1:=j9 hb (vn (jU h1.live));have w2:=j9 hb (jU h2.live);have he':z7 rs e.1 e.2.2=rp e.2.1:=he;show z7 rs (wAt (zb bs) e.1 i) (byL bs (yo (stS (sAt (zb bs) e.1 i))) ++ e.2.2 ++ byL bs (stS (sAt (zb bs) e.2.1 j)))=rp (wAt (zb bs) e.2.1 j);rw[xJ,xJ,w1,bM,he',bM];exact w2
theorem YB{l:()}{bs es:List Ent}{r:Option (List Ent)}(h:yN k l ns bs es r):∀fs,r=rp fs->(∀e ∈ bs,EOk rs e)->(∀e ∈ es,EOk rs e)->∀e ∈ fs,EOk rs e:=by
 induction h with
 | nil bs=>intro fs er hb _;cases er;exact hb
 | @same bs es e i j r h1 h2 h3 h4 ih=>intro fs er hb he;exact ih fs er hb λx hx=>he x (ar _ hx)
 | @new bs es e i j r h1 h2 h3 h4 h5 ih =>
  intro fs er hb he;refine ih fs er (λx hx=>?_) λx hx=>he x (ar _ hx);rcases rJ.mp hx with hx | hx
  ·exact hb x hx
  ·rw[rK.mp hx];exact V0 (J9 hb (he e az) h1 h2)
 | far=>intro fs e;cases e
 | stuck=>intro fs e;cases e
theorem YH{l:()}{es zs:List Ent}(h:Lined k l ns es zs)(he:∀e ∈ es,EOk rs e):∀e ∈ zs,EOk rs e:=λe hz=>by
 have hm:=h.perm.mem_iff.mp hz;unfold uu at hm;obtain⟨y,hy,rfl⟩:=rF.mp hm;exact V0 (he y (rN.mp hy).1)
theorem Yq{l:()}{es zs:List Ent}(h:Lined k l ns es zs)(he:∀e ∈ es,EB l e):RL k l ns zs:=by
 have key:∀e ∈ zs,∃y,EB l y/\y.1≠y.2.1/\e=zX k l ns y:=λe hz=>by
  have hm:=h.perm.mem_iff.mp hz;unfold uu at hm;obtain⟨y,hy,rfl⟩:=rF.mp hm;obtain⟨h1,h2⟩:=rN.mp hy;exact#[y,he y h1,by simpa using h2,rfl]
 refine#[λe hz=>?_,λe hz=>?_]
 ·obtain⟨y,h1,_,rfl⟩:=key e hz;exact h1.rule
 ·obtain⟨y,h1,h2,rfl⟩:=key e hz;exact uP h1 h2
theorem UE{l:()}(G:OG l ns k){zs bs:List Ent}(hz:RL k l ns zs)(h:yN k l ns [] zs (rp bs)):RL k l ns bs:=by
 obtain⟨gs,g1,g2,g3,g4⟩:=qP G h bs rfl #[λe he=>(nomatch he),λe he=>(nomatch he)] hz;exact g3
theorem YY{k n:Nat}{l:()}(G:OG l ns k){r:Option (List Ent)}(h:vV k l ns n es r):∀fs,r=rp fs->(∀e ∈ es,EB l e)->(∀e ∈ es,EOk rs e)->(∀e ∈ fs,EOk rs e)/\∃zs,ThinL k l ns zs/\zb fs=zb zs:=by
 induction h with
 | out=>intro fs e;cases e
 | bad=>intro fs e;cases e
 | @done n es zs bs h1 h2 h3 =>
  intro fs er he ho;cases er;have hz:=Yq h1 he;exact#[YB h2 bs rfl (λe h=>(nomatch h)) (YH h1 ho),zs,KL G hz h1.srt h2 h3,h3]
 | @more n es zs bs r h1 h2 h3 h4 ih =>
  intro fs er he ho;have hz:=Yq h1 he;exact ih fs er (UE G hz h2).e (YB h2 bs rfl (λe h=>(nomatch h)) (YH h1 ho))
noncomputable def rankF:KeyFam (Int × List Int):=#[λr=>[.int r.1,.lst (r.2.map L3.D.int)],λa b=>if a.1=b.1 then ltI a.2 b.2 else decide (a.1<b.1),rz,(0,[])]
theorem Ur{x y:List Int}(h:ltI x y=rz):ltI y x=rA:=by
 by_cases e:x=y
 ·subst e;rw[yP]at h;cases h
 ·have:=xT e;rw[h]at this;simpa using this.symm
theorem J5{x y z:List Int}(h1:ltI y x=rA)(h2:ltI z y=rA):ltI z x=rA:=by
 cases h:ltI z x with
 | false=>rfl
 | true =>
  by_cases e:y=x
  ·subst e;rw[h2]at h;cases h
  ·have h3:=xT e;rw[h1]at h3;have h4:ltI x y=rz:=by simpa using h3.symm
   rw[uV h h4]at h2;cases h2
theorem rankF_ok:rankF.Ok where
 w:=#[λa b h=>by
   erw[rankF]at h ⊢
   by_cases e:a.1=b.1
   ·rw[if_pos e]at h;rw[if_pos e.symm];exact Ur h
   ·rw[if_neg e]at h;rw[if_neg (λz=>e z.symm)];have:=of_decide_eq_true h;exact decide_eq_false ⋯,
  λa b c h1 h2=>by
   erw[rankF]at h1 h2 ⊢
   by_cases e:b.1=a.1
   ·rw[if_pos e]at h1;rw[e]at h2;by_cases f:c.1=a.1
    ·rw[if_pos f]at h2 ⊢;exact J5 h1 h2
    ·rw[if_neg f]at h2 ⊢;exact h2
   ·rw[if_neg e]at h1;have h1':=of_decide_eq_false h1;by_cases f:c.1=b.1
    ·rw[if_neg ⋯];exact decide_eq_false ⋯
    ·rw[if_neg f]at h2;have h2':=of_decide_eq_false h2;rw[if_neg ⋯]
     exact decide_eq_false ⋯]
 eq:=λa b=>by
  have:=Wy a.1 b.1 a.2 b.2
  erw[ltD]at this
  exact this
 ok:=λa b=>by erw[rankF,j4,okD];exact#[trivial,vw _ _,trivial]
 dp:=λa=>by erw[rankF,dpD,wW,jD];decide
 sh:=λa=>#[_,_,rfl,.inl #[rfl,_,rfl]]
noncomputable def wY(k:Nat)(l:())(ns:List Int)(w:()):Int × List Int:=(zq k l ns w,wk k l w)
theorem Yz{d:L3.D}{v:V}:∀{ds:List L3.D} {vs:List V},Iss K H ds vs->Is K H d v->Iss K H (ds ++ [d]) (vs ++ [v])
 | [],vs,h,hv=>by
  erw[Iss]at h
  subst h
  erw[bC,Iss]
  exact#[v,[],rfl,hv,rfl]
 | e::ds,vs,h,hv=>by
  erw[Iss]at h
  obtain⟨x,r,rfl,hx,hr⟩:=h
  erw[br,Iss]
  exact#[x,r ++ [v],rfl,hx,Yz hr hv]
theorem OrdAt.samT{T CO CR CW:nP}{H H':Hp}{ps:Array nQ}{o:nP}{l:()}(h:OrdAt CO CR CW H o k l ns)(s:SamT T H H')(hT:H T=rp (.tbl ps)):OrdAt CO CR CW H' o k l ns:=by
 obtain⟨dx,⟨h1,h2⟩ | ⟨h1,h2⟩⟩:=h
 ·exact#[dx,.inl #[h1,s.at hT h2 λ_ z=>by cases z]]
 ·exact#[dx,.inr #[h1,s.at hT h2 λ_ z=>by cases z]]
theorem EnsA.samT{T:nP}{H H':Hp}{ps:Array nQ}(s:SamT T H H')(hT:H T=rp (.tbl ps)):∀{es:List Ent} {vs:List V},EnsA K H es vs->EnsA K H' es vs
 | [],vs,h=>by erw[EnsA]at h ⊢;exact h
 | e::es,vs,h=>by
  erw[EnsA]at h ⊢
  obtain⟨v,r,e0,⟨p,s',e1,h1,h2⟩,h3⟩:=h;exact#[v,r,e0,#[p,s',e1,s.seqT hT h1,h2.samT s hT],EnsA.samT s hT h3]
theorem qt{a b:Int × List Int}(h:a≠b):rankF.lt a b=!rankF.lt b a:=by
 erw[rankF]
 by_cases e:a.1=b.1
 ·rw[if_pos e,if_pos e.symm];exact xT λq=>h (Prod.ext e q)
 ·rw[if_neg e,if_neg λq=>e q.symm];by_cases c:a.1<b.1
  ·rw[decide_eq_true c,decide_eq_false ⋯];rfl
  ·rw[decide_eq_false c,decide_eq_true ⋯];rfl
theorem X8(a b:Int × List Int):eqD (.tup (rankF.dec a)) (.tup (rankF.dec b))=decide (a=b):=by
 obtain⟨a1,a2⟩:=a;obtain⟨b1,b2⟩:=b
 erw[rankF,eqD,w8,qy]
 by_cases h:a1=b1
 ·by_cases h2:a2=b2
  ·simp [h,h2]
  ·simp [h,h2]
 ·simp [h]
theorem Yt(a b:Int × List Int):ltD (.tup (rankF.dec a)) (.tup (rankF.dec b))=rankF.lt a b:=by
 erw[ltD]
 exact rankF_ok.eq a b
theorem kK(a:Int × List Int):rankF.lt a a=rA:=by
 erw[rankF]
 rw[if_pos trivial];exact yP _
noncomputable def pairF:KeyFam ((Int × List Int) × (Int × List Int)):=#[λr=>[.tup (rankF.dec r.1),.tup (rankF.dec r.2)],λa b=>if a.1=b.1 then rankF.lt a.2 b.2 else rankF.lt a.1 b.1,rA,((0,[]),(0,[]))]
theorem uE(a b:(Int × List Int) × (Int × List Int)):pairF.lt a b=if a.1=b.1 then rankF.lt a.2 b.2 else rankF.lt a.1 b.1:=rfl
theorem pairF_ok:pairF.Ok where
 w:=#[λa b h=>by
   rw[uE]at h ⊢;by_cases e:a.1=b.1
   ·rw[if_pos e]at h;rw[if_pos e.symm];exact rankF_ok.w.asym _ _ h
   ·rw[if_neg e]at h;rw[if_neg λq=>e q.symm];exact rankF_ok.w.asym _ _ h,
  λa b c h1 h2=>by
   rw[uE]at h1 h2 ⊢;by_cases e:b.1=a.1
   ·rw[if_pos e]at h1;rw[e]at h2;by_cases f:c.1=a.1
    ·rw[if_pos f]at h2 ⊢;exact rankF_ok.w.ntr _ _ _ h1 h2
    ·rw[if_neg f]at h2 ⊢;exact h2
   ·rw[if_neg e]at h1;by_cases g:c.1=b.1
    ·rw[g,if_neg e];exact h1
    ·rw[if_neg g]at h2;by_cases f:c.1=a.1
     ·rw[f]at h2;have:=qt (a:=b.1) (b:=a.1) e;rw[h1,h2]at this;cases this
     ·rw[if_neg f]
      exact rankF_ok.w.ntr _ _ _ h1 h2]
 eq:=λa b=>by
  show xo [.tup (rankF.dec a.1),.tup (rankF.dec a.2)] [.tup (rankF.dec b.1),.tup (rankF.dec b.2)]=_;rw[uE,xo,X8,xo,X8,Yt,Yt,xo];by_cases e:a.1=b.1
  ·rw[if_pos (decide_eq_true e),if_pos e];by_cases f:a.2=b.2
   ·rw[if_pos (decide_eq_true f),f,kK]
   ·rw[if_neg (by simpa using f)]
  ·rw[if_neg (by simpa using e),if_neg e]
 ok:=λa b=>by
  show j4 [.tup (rankF.dec a.1),.tup (rankF.dec a.2)] [.tup (rankF.dec b.1),.tup (rankF.dec b.2)]
  erw[j4,okD]
  exact#[rankF_ok.ok _ _,rankF_ok.ok _ _,trivial]
 dp:=λa=>by erw[pairF,rankF,dpD,wW,jD];decide
 sh:=λa=>#[_,_,rfl,.inr #[rfl,_,rfl]]
noncomputable def rkE(k:Nat)(l:())(ns:List Int)(e:Ent):(Int × List Int) × (Int × List Int):=(wY k l ns e.1,wY k l ns e.2.1)
theorem QP{l:()}{u v:()}(hu:∀c ∈ u,c ∈ l)(hv:∀c ∈ v,c ∈ l):wY k l ns u=wY k l ns v ↔ u=v :=
 #[λh=>jx hu hv (Prod.ext_iff.mp h).2,λh=>by rw[h]]
theorem VU{l:()}{a b:Ent}(ha:EB l a)(hb:EB l b):pairF.lt (rkE k l ns a) (rkE k l ns b)=ka k l ns a b:=by
 rw[uE];unfold ka;have h:(rkE k l ns a).1=(rkE k l ns b).1 ↔ a.1=b.1:=QP ha.ma hb.ma;by_cases e:a.1=b.1
 ·rw[if_pos (h.mpr e),if_pos e];rfl
 ·rw[if_neg λq=>e (h.mp q),if_neg e];rfl
theorem V9:∀{es:List Ent} {vs:List V},EnsA K H es vs->∀t ∈ es.zip vs,EnA K H t.1 t.2
 | [],_,_,t,ht=>by simp at ht
 | e::es,vs,h,t,ht=>by
  erw[EnsA]at h
  obtain⟨v,r,rfl,h1,h2⟩:=h;rw[cy]at ht;rcases rH.mp ht with rfl | ht
  ·exact h1
  ·exact V9 h2 t ht
theorem QD:∀{ts:List (Ent × V)},(∀t ∈ ts,EnA K H t.1 t.2)->EnsA K H (ts.map (·.1)) (ts.map (·.2))
 | [],_=>by erw[aw,EnsA]
 | t::ts,h=>by
  erw[aj,EnsA]
  exact#[_,_,rfl,h t az,QD λu hu=>h u (ar _ hu)]
theorem Ye{l:()}{vs:List V}{ys:List (((Int × List Int) × (Int × List Int)) × V)}{d:((Int × List Int) × (Int × List Int)) × V}(hI:EnsA K H es vs)(hE:∀e ∈ es,EB l e)(h1:ys=srt (λp q=>pairF.lt p.1 q.1) d ((es.map (rkE k l ns)).zip vs)) :
  ∃zs:List Ent,zs.Perm es/\zs.Pairwise (λa b=>ka k l ns b a=rA)/\zs=srt (ka k l ns) ([],[],[]) es/\EnsA K H zs (ys.map (·.2)):=by
 have hl:=hI.len
 have e0:(es.map (rkE k l ns)).zip vs=(es.zip vs).map λt=>(rkE k l ns t.1,t.2):=by
  rw[List.zip_map_left];rfl
 have W0:WkO λ(p q:((Int × List Int) × (Int × List Int)) × V)=>pairF.lt p.1 q.1:=#[λa b=>pairF_ok.w.asym _ _,λa b c=>pairF_ok.w.ntr _ _ _];have W1:WkO λ(p q:Ent × V)=>pairF.lt (rkE k l ns p.1) (rkE k l ns q.1):=#[λa b=>pairF_ok.w.asym _ _,λa b c=>pairF_ok.w.ntr _ _ _];have W2:WkO λ(p q:Ent)=>pairF.lt (rkE k l ns p) (rkE k l ns q):=#[λa b=>pairF_ok.w.asym _ _,λa b c=>pairF_ok.w.ntr _ _ _];rw[e0,Jr W0 (d':=(λt:Ent × V=>(rkE k l ns t.1,t.2)) (([],[],[]),.non)) (λ_ _ _ _=>rfl)]at h1
 replace h1:=h1.trans (Wj (lt:=λ(p q:((Int × List Int) × (Int × List Int)) × V)=>pairF.lt p.1 q.1) (λt:Ent × V=>(rkE k l ns t.1,t.2)) (([],[],[]),.non) (es.zip vs))
 obtain⟨p,h2⟩:=YG W1 (([],[],[]),.non) (es.zip vs)
 have e2:(srt (λ(p q:Ent × V)=>pairF.lt (rkE k l ns p.1) (rkE k l ns q.1)) (([],[],[]),.non) (es.zip vs)).map (·.1)=srt (ka k l ns) ([],[],[]) es:=by
  rw[<- Jr W2 (d:=([],[],[])) λa ha b hb=>VU (hE a ha) (hE b hb)];have:=Wj (lt:=λ(p q:Ent)=>pairF.lt (rkE k l ns p) (rkE k l ns q)) (λt:Ent × V=>t.1) (([],[],[]),.non) (es.zip vs);rw[eF ⋯]at this;exact this.symm
 generalize srt (λ(p q:Ent × V)=>pairF.lt (rkE k l ns p.1) (rkE k l ns q.1)) (([],[],[]),.non) (es.zip vs)=ts at h1 h2 p e2;have hm:∀t ∈ ts,t.1 ∈ es:=λt ht=>(cS (show (t.1,t.2) ∈ es.zip vs from p.mem_iff.mp ht)).1;refine#[ts.map (·.1),?_,?_,e2,?_]
 ·have:=p.map (·.1);rw[eF ⋯]at this;exact this
 ·rw[List.pairwise_map];refine h2.imp_of_mem λ{a b} ha hb h=>?_;rw[<- VU (hE _ (hm _ hb)) (hE _ (hm _ ha))];exact h
 ·rw[h1,aV];exact QD λt ht=>V9 hI t (p.mem_iff.mp ht)
def tbE(K:nO)(CO CR CW:nP):TE:=XY (zK (zv (zaO CO CR CW) "rank" (λ_=>uO CO CR CW) [] E0 (z5 1) (zK (tOp (wV K) (z5 0) (tC (.int 0))) xI)) (zK (zv (zaO CO CR CW) "rank" (λ_=>uO CO CR CW) [] E0 (z5 1) (zK (tOp (wV K) (z5 0) (tC (.int 1))) xI)) xI))
theorem zbp{CO CR CW o p s:nP}{l:()}(hG:OG l ns k)(ho:OrdAt CO CR CW H o k l ns)(hE:EB l e)(hp:SqT K H p [.str (tx e.1),.str (tx e.2.1),.ref s])(q:∀(t:nP) (H':Hp),Same H H'->Is K H' (.tup (pairF.dec (rkE k l ns e))) (.ref t)->Q (.ref t) H'):tbE K CO CR CW [!!p,!!o] H Q:=by
 have s16:=ya;obtain⟨C,dx,fs,hf,ho1,hn,_⟩:=ho.fam;have h1:fs.lookup ("rank" : nW)=rq:=hn _ ∅ ∅;unfold tbE;ac_rfl;refine#[C,hf,dx,fs,ho1,h1,_,hp,_,rfl,o,k,l,ns,e.1,rfl,ho,hG,by have:=hE.a;lia,hE.ma,λp1 q1 H1 s1 hp1 hq1=>#[C,hf,dx,fs,s1 _ _ ho1,h1,_,zl s1 hp,_,rfl,o,k,l,ns,e.2.1,rfl,ho.same s1,hG,by have:=hE.b;lia,hE.mb,λp2 q2 H2 s2 hp2 hq2=>#[⋯,λt ht=>?_]]];refine q t _ (s1.trans (s2.trans (zd (o:=.tup [.ref p1,.ref p2]) ht))) ?_;show Is K _ (.tup [.tup (rankF.dec (wY k l ns e.1)),.tup (rankF.dec (wY k l ns e.2.1))]) (.ref t);refine Is.tup ht ?_
 erw[Iss]
 exact#[_,_,rfl,jt (s2 _ _ hp1) (s2 _ _ hq1),_,_,rfl,jt hp2 hq2,rfl]
theorem QZ{CO CR CW o:nP}{l:()}{LA:Hp->Prop}{Qf:List V->Hp->Prop}(hG:OG l ns k)(hLA:∀H H',LA H->Same H H'->LA H'):∀(es:List Ent) (vs rE:List V) (rs:List ((Int × List Int) × (Int × List Int))) (H:Hp),LA H->OrdAt CO CR CW H o k l ns->(∀e ∈ es,EB l e)->EnsA K H es vs ->
  Iss K H (rs.map λa=>.tup (pairF.dec a)) rE->(∀acc' H',Same H H'->Iss K H' ((rs ++ es.map (rkE k l ns)).map λa=>.tup (pairF.dec a)) acc'->Qf acc' H')->uc (λx H Q=>LA H/\tbE K CO CR CW [rp x,!!o] H Q) vs rE H Qf
 | [],vs,rE,rs,H,hL,ho,hw,hV,hI,h=>by
  erw[EnsA]at hV
  subst hV;exact h rE H (Same.refl _) (by simpa using hI)
 | e::es,vs,rE,rs,H,hL,ho,hw,hV,hI,h=>by
  have s16:=ya
  erw[EnsA]at hV
  obtain⟨v,r,rfl,⟨p,s,rfl,hp,_⟩,hV⟩:=hV;refine#[hL,zbp hG ho (hw e az) hp λt H' s3 hIs=>?_];refine QZ hG hLA es r (rE ++ [.ref t]) (rs ++ [rkE k l ns e]) _ (hLA _ _ hL s3) (ho.same s3) (λx hx=>hw x (ar _ hx)) (hV.same s3) ?_ λacc' H' s' hI'=>h acc' H' (s3.trans s') (by simpa using hI');rw[aq];exact Yz (Iss.same s3 _ _ hI) hIs
noncomputable def zbh:nZ->oJ
 | .Lambda _ _ _ p=>p
 | _=>default
noncomputable def zdP:List oj->oJ
 | _::.Return (rp (.Call _ _ (k::_) _)) _::_=>zbh k.value
 | _=>default
noncomputable def lp:oJ:=zdP (zY ym)
noncomputable def lq:nW:="in_order.<locals>.<lambda>"
def j0(K:nO)(CO CR CW T:nP):Sp:=λvs H Q _=>∃(o a:nP) (k:Nat) (l:()) (ns:List Int) (es:List Ent),vs=[.ref o,.ref a]/\OrdAt CO CR CW H o k l ns/\OG l ns k/\EnsL K H a es/\es.length<64/\(∀e ∈ es,EB l e)/\TabOk H T lp lq /\
 ∀(D:nP) (zs:List Ent) (H':Hp),SamT T H H'->TabOk H' T lp lq->H D=rq->Lined k l ns es zs->EnsM K H' D zs->Q (.ref D) H'
theorem X4{CO CR CW T o a:nP}{l:()}(h1:OrdAt CO CR CW H o k l ns)(h2:OG l ns k)(h3:EnsL K H a es)(h4:es.length<64)(h5:∀e ∈ es,EB l e)(h6:TabOk H T lp lq)
  (h:∀(D:nP) (zs:List Ent) (H':Hp),SamT T H H'->TabOk H' T lp lq->H D=rq->Lined k l ns es zs->EnsM K H' D zs->Q (.ref D) H'):j0 K CO CR CW T [.ref o,.ref a] H Q E:=#[o,a,k,l,ns,es,rfl,h1,h2,h3,h4,h5,h6,h]
abbrev WJ(mg:nW->Option nQ):Prop:=mg "sorted" = rq
theorem mf:sQz 2 ["order","entries","unlike"] ym:=by nofun
theorem ZN{f CO CR CW CC TB:nP}(B:Bt mg)(DRk:DR P w K mg base CO CR CW)(hsorted:WJ mg)(hCd:PySem.W.CodeHd base CC TB)(hBt:base.BuiltinsAt mg TB)(hgT:nL≠TB)(F:("in_order"^^^ym))(HC:fd.code=.ref CC)(lJ:(4<<<"as_rule") ["order","entry"] [] (wf K CO CR CW)):(6&&&["order","entries"]) (j0 K CO CR CW TB):=by
 refine KJ F HC mf (λvs H Q E h=>?_) (λA outer s H vs Q E hr h=>?_)
 ·obtain⟨o,a,k,l,ns,es,rfl,_⟩:=h;rfl
 ·obtain⟨o,a,k,l,ns,es,rfl,ho,hG,hA,hz,hE,hTab,q⟩:=h
  refine#[_,(zi (JU (i:=2) mf.nd rfl (.inl rfl) (.inl rfl) (own:=["entry"]) (caps:=["order"]) (ix:=[0]) (tt:=(tBl (tOp rNe (tOp (wV K) (z5 0) (tC (.int 0))) (tOp (wV K) (z5 0) (tC (.int 1)))))) (te:=(uN (wf K CO CR CW) [] E0 (zK (z5 1) (zK (z5 0) xI)))) rfl (zM (sc:=zg ym) rfl (by symm) (by symm) (by symm) rfl (by symm) (by symm) rfl) (ye (pv 1)) (λ_ _ _ _ _ _=>zx (i:=0) (show List.Nodup [_,_] by decide) rfl (.inl rfl)) (λ_ _ _ _ _ _=>(VV (zB Xz (zm ix_tup (pv 0) zf) (zm ix_tup (pv 0) zf) (zE _)))) (λ_ _ _ _ _ _=>(cl0 lJ hr .nil rfl (za (pv 1) (za (pv 0) ze)))))
   (zh (zt (Uy (k:=2) (p:="entry") (y:="order") (iy:=0) (c:=s⁻¹+1) (tb:=tbE K CO CR CW) pairF_ok #[rfl,rfl,rfl,∅,rfl,rfl,∅,∅] (hr.mono ∅) rfl hsorted eG (za (pv 2) ze) rfl hCd hBt hgT rfl rfl (by intro _ _ _ _;exact rfl) rfl rfl rfl (λs H f cv hr'=>zN (za (zas DRk hr' (pv 1) (za (zm ix_tup (pv 0) zf) ze)) (za (zas DRk hr' (pv 1) (za (zm ix_tup (pv 0) zf) ze)) ze))))))),?_]
  have s16:=ya;obtain⟨xs,hX,hI⟩:=id hA;have hxl:=hI.len
  have hEr:∀e ∈ uu k l ns es,EB l e:=λe he=>by
   unfold uu at he;obtain⟨y,hy,rfl⟩:=rF.mp he;exact (hE y (rN.mp hy).1).rule
  have hrl:=Z9 k l ns es;refine zj (λσ H'=>Same H H'/\∃(D0:nP) (rE:List V),H D0=rq/\H' D0=rp (.lst rE)/\EnsA K (qJ D0 H') (uu k l ns es) rE/\σ=[!!o,!!a,!!D0]) ?_ ?_
  ·ac_rfl;refine#[#[xs,hX],λD hD=>CompL.by (xs:=xs) (λi rE H'=>Same H H'/\H' D=rp (.lst rE)/\EnsA K (qJ D H') (uu k l ns (es.take i)) rE) #[zd hD,zc,by erw[bn,uu,cY,aw,EnsA]] (λi rE H' _ h=>h.1.seq hX) ?_ ?_]
   ·refine nm4 ?_;rintro i x rE H' hx ⟨hs,hH,hA⟩:_;have hi:=(rG.mp hx).1;obtain⟨e,pe,se,hei,rfl,hqe,hse⟩:=hI.get hx;have hEe:=hE e (ag hei);have hal:=hA.len;have hal2:=Z9 k l ns (es.take i);rw[aF]at hal2;have hq1:=zl hs hqe
    have hraw:uu k l ns (es.take (i+1))=uu k l ns (es.take i) ++ if e.1=e.2.1 then []else [zX k l ns e]:=by
     rw[zH hei,Ka];congr 1;unfold uu;by_cases hne:e.1=e.2.1
     ·rw[if_pos hne,eL (by simp [hne])];rfl
     ·rw[if_neg hne,eK (by simp [hne])];rfl
    right;ac_rfl;refine#[yL,_,hq1,_,rfl,_,hq1,_,rfl,rfl,yG (λhne=>?_) λheq=>?_]
    ·have hne':¬ e.1=e.2.1:=λz=>hne (by rw[z]);rw[if_neg hne']at hraw
     have fin:∀(v:V) (H2:Hp),Same H' H2->EnA K (qJ D H2) (zX k l ns e) v->H2 D=rp (.lst rE)/\rE.length<nN/\CNx xs.length i (λi rE H'=>Same H H'/\H' D=rp (.lst rE)/\EnsA K (qJ D H') (uu k l ns (es.take i)) rE) (rE ++ [v]) (upd H2 D (.lst (rE ++ [v]))):=λv H2 s2 hv=>by
      refine#[s2 _ _ hH,⋯,CNx.mk hi #[zy (hs.trans s2) hD,zc,?_]];rw[hraw];exact (hA.same ((wj s2).trans y4)).snoc (hv.same y4)
     refine qT (ho.same hs) hG hq1 (hse.same hs).is hEe (λer H2 s2=>fin _ _ s2 ?_) λp' s' H2 s2 hsn hp' hL=>fin _ _ s2 ?_
     ·rw[er];exact EnA.same #[pe,se,rfl,hqe,hse] (Vz hD (hs.trans s2))
     ·exact EnA.new (s2 _ _ hH) hp' hL (λz=>by rw[z,hH]at hsn;cases hsn)
    ·have heq':e.1=e.2.1:=by
      have:=Classical.not_not.mp heq;injection this with this;exact qR this
     rw[if_pos heq',aX]at hraw;exact CNx.mk hi #[hs,hH,by rw[hraw];exact hA]
   ·rintro rE H' ⟨hs,hH,hA⟩;rw[hxl,aH]at hA;exact#[hs,D,hD,rE,hH,hA,rfl]
  rintro σ H1 ⟨s1,D0,rE,hD0,hH1,hI1,rfl⟩:_;have hal:=hI1.len;have hT1:=hTab.same s1;obtain⟨ps1,hps1,_⟩:=id hT1;right;ac_rfl;unfold Ju;refine#[hT1,λf H2 hf hLA hT2 sT=>?_];obtain⟨ps2,hps2,_⟩:=id hT2;have hI2:=EnsA.samT sT hps1 (hI1.same xS);refine#[D0,rE,.ref o,rfl,SqL.of (sT.at hps1 hH1 λ_ z=>by cases z),⋯,rfl,?_];refine QZ hG (λA A' h1 h2=>LamAt.same h1 h2) (uu k l ns es) rE [] [] H2 hLA ((ho.same s1).samT sT hps1) hEr hI2 (by erw[aw,Iss]) λacc' H3 s3 hI3=>#[(uu k l ns es).map (rkE k l ns),by simpa using hI3,λys p1 D hD=>?_];obtain⟨zs,z1,z2,z4,z3⟩:=Ye (hI2.same s3) hEr p1;have sD:=zd (o:=.lst (ys.map (·.2))) hD;refine q D zs _ ((SamT.of s1).trans (sT.trans (SamT.of (s3.trans sD)))) (hT2.same (s3.trans sD)) ?_ #[z1,z2,z4] #[_,zc,z3.same sD];exact ((SamT.of s1).trans (sT.trans (SamT.of s3))).free (s3 _ _ hps2) hD
structure TMo(mg:nW->Option nQ):Prop where
 u:∃t,mg "MOST_USES_thinning" = rp (.int 40 t)
 s:∃t,mg "MOST_STEPS" = rp (.int 240 t)
 d:∃t,mg "MOST_SIDE_thinning" = rp (.int 60 t)
 p:∃t,mg "MOST_PASSES" = rp (.int 20 t)
structure BG(k:Nat)(l:())(ns:List Int)(bs:List Ent):Prop where
 n:bs.length<64
 e:∀e ∈ bs,EB l e
 lt:∀e ∈ bs,zF k l ns e.2.1 e.1=rz
theorem BG.ne{l:()}(h:BG k l ns bs)(G:OG l ns k):NeL (zb bs):=λp hp=>by
 unfold zb at hp;obtain⟨e,he,rfl⟩:=rF.mp hp;exact V1 G.nb (h.lt e he)
theorem BG.le{l:()}(h:BG k l ns bs):∀p ∈ zb bs,p.1.length<=60/\p.2.length<=60:=λp hp=>by
 unfold zb at hp;obtain⟨e,he,rfl⟩:=rF.mp hp;exact#[(h.e e he).a,(h.e e he).b]
theorem BG.mem{l:()}(h:BG k l ns bs):∀p ∈ zb bs,∀c ∈ p.2,c ∈ l:=λp hp=>by
 unfold zb at hp;obtain⟨e,he,rfl⟩:=rF.mp hp;exact (h.e e he).mb
theorem qX{CF a:nP}{w:()}(hA:LsA K H a (ps.map dR))(hN:NeL ps)(hpl:ps.length<=100)(hP:∀p ∈ ps,p.1.length<=60/\p.2.length<=60)(hw:w.length<=60)
  (h1:∀(i:Nat) (p S:nP) (H':Hp),zO ps w i->Same H H'->H' p=rp (.tup [.ref S,.str (tx (wAt ps w i))])->LsA K H' S ((sAt ps w i).map dG)->H S=rq->Q (.ref p) H') (h2:(∀i,¬ zO ps w i)->∀H',Same H H'->E (.ref CF) rq H'):wd K CF [.ref a,.str (tx w),.int 40] H Q E:=by
 have hP':∀p ∈ ps,p.1.length<=1000/\p.2.length<=1000:=λp hp=>by
  have:=hP p hp;lia
 have len:∀j,j<=40->(wAt ps w j).length<=10000:=λj hj=>by
  have:=qC (l:=w) (m:=60) hN (λp hp=>(hP p hp).2) j;lia
 rcases JD ps w with ⟨i,hi⟩ | ⟨hL,hf⟩
 ·have hm:=hi.most;exact#[a,w,ps,40,i,rfl,hA,hN,hpl,hP',#[hi.live,λj hj=>len j ⋯,⋯],.inl #[hi.end_,⋯,λp S H' s' hp hL hS=>h1 i p S H' hi s' hp hL hS]]
 ·refine#[a,w,ps,40,40,rfl,hA,hN,hpl,hP',#[hL,λj hj=>len j hj,∅],.inr #[hf,rfl,h2 λi hi=>?_]];have hm:=hi.most;by_cases e:i=40
  ·subst e;exact hf hi.end_
  ·exact hL i ⋯ hi.end_
theorem Kx(us:List (Nat × Nat)):us.map dG=(stS us).map dSt:=by
 unfold stS;rw[aV];rfl
theorem vO(us:List (Nat × Nat)):(stS us).length=us.length:=by unfold stS;rw[ac]
theorem zbq{w:()}{i:Nat}(h:Xu ps w i):∀u ∈ sAt ps w i,u.1<ps.length:=λu hu=>by
 unfold sAt at hu;obtain⟨j,hj,rfl⟩:=rF.mp hu
 cases e:zA (wAt ps w j) ps with
 | none=>exact absurd e (h j (rM.mp hj))
 | some v =>
  obtain⟨p,h1,_⟩:=yD e;exact (rG.mp h1).1
theorem QS{w:()}{i:Nat}(h:Xu ps w i):∀u ∈ stS (sAt ps w i),0<=u.1/\u.1<ps.length:=λu hu=>by
 unfold stS at hu;obtain⟨v,hv,rfl⟩:=rF.mp hu;have:=zbq h v hv;show 0<=(v.1:Int)/\(v.1:Int)<ps.length;lia
theorem JL{n:Int}(h:∀u ∈ ss,0<=u.1/\u.1<n):∀u ∈ yo ss,0<=u.1/\u.1<n:=λu hu=>by
 unfold yo at hu;obtain⟨v,hv,rfl⟩:=rF.mp hu;exact h v (rP.mp hv)
theorem zbM(h:∀e ∈ es,e.2.2.length<=600)(u:Stp):(Yh es u).length<=600:=by
 have hg:(es.getD u.1.toNat ([],[],[])).2.2.length<=600:=by
  rw[aa]
  cases e:es[u.1.toNat]? with
  | none=>exact aB _
  | some r=>exact h r (ag e)
 unfold Yh;rw[kG];split
 ·exact hg
 ·rw[yi];exact hg
theorem JG(h:∀e ∈ es,e.2.2.length<=600):∀us:List Stp,(byL es us).length<=us.length * 600
 | []=>by simp [byL]
 | u::us=>by
  have e:byL es (u::us)=Yh es u ++ byL es us:=by simp [byL]
  have h1:=zbM h u;have h2:=JG h us;rw[e,am,aE,dC];lia
def ZJ(K:nO)(CF:nP):Sp:=λvs H Q E=>∃(a p s:nP) (k:Nat) (l:()) (ns:List Int) (bs:List Ent) (e:Ent),vs=[.ref a,.ref p]/\OG l ns k/\Is K H (.lst (bs.map dE)) (.ref a)/\BG k l ns bs/\SqT K H p [.str (tx e.1),.str (tx e.2.1),.ref s]/\LsA K H s (e.2.2.map dSt)/\EB l e /\
 (∀i j H',zO (zb bs) e.1 i->zO (zb bs) e.2.1 j->wAt (zb bs) e.1 i=wAt (zb bs) e.2.1 j->Same H H'->Q .non H') /\
 (∀i j p' s' H',zO (zb bs) e.1 i->zO (zb bs) e.2.1 j->wAt (zb bs) e.1 i≠wAt (zb bs) e.2.1 j->Same H H'->H s'=rq->H' p'=rp (.tup [.str (tx (yq bs e i j).1),.str (tx (yq bs e i j).2.1),.ref s'])->LsA K H' s' ((yq bs e i j).2.2.map dSt)->Q (.ref p') H') /\
 ((∀i,¬ zO (zb bs) e.1 i)\/(∀j,¬ zO (zb bs) e.2.1 j)->∀H',Same H H'->E (.ref CF) rq H')
theorem Wr{a t:nP}{us:List Stp}(h1:Is K H (.lst (es.map dE)) (.ref a))(h2:Is K H (.lst (us.map dSt)) (.ref t))(h3:us.length<=100)(h4:∀e ∈ es,e.2.2.length<=600)(h5:∀u ∈ us,0<=u.1/\u.1<es.length)(h:∀(D:nP) (H':Hp),H D=rq->Same H H'->LsA K H' D ((byL es us).map dSt)->Q (.ref D) H'):UU K [.ref a,.ref t] H Q E:=#[a,t,es,us,rfl,h1,h2,h3,h4,h5,h]
theorem gu:sQz 2 ["entries","entry","rules","one","other","steps"] xf:=by nofun
theorem qr{f CF:nP}{iL:pX}(B:Bt mg)(TM:TMo mg)(F:("brought_down"^^^xf))(gv:(1<<<"pairs_of") ["entries"] [] (wF K))(mm:(4>>>"gone") ["rules","word","most"] [] (wd K CF))(DD_gone:(4>>>"gone") ["rules","word","most"] [.int 4000 iL] (wd K CF))(iJ:(2<<<"by_pacts") ["entries","steps"] [] (UU K))(lH:(1<<<"back") ["steps"] [] (qu K)):(5|||["entries","entry"]) (ZJ K CF):=by
 obtain⟨t9,g9⟩:=TM.u
 exists Fun.okX F gu,0
 ·obtain⟨a,p,s,k,l,ns,bs,e,rfl,hG,hA,hB,hp,hs,hE,q1,q2,q3⟩:=h
  refine#[_,(zi (zD 2 gu.nd (cl0 gv hr .nil rfl (za (pv 0) ze)))
   (zi (zD 3 gu.nd (clP hx mm hr .nil rfl (za (pv 2) (za (zm ix_tup (pv 1) zf) (za (yU (v:=.int 40) rfl g9 #[t9,rfl]) ze)))))
   (zi (zD 4 gu.nd (clP hx mm hr .nil rfl (za (pv 2) (za (zm ix_tup (pv 1) zf) (za (yU (v:=.int 40) rfl g9 #[t9,rfl]) ze)))))
   (zi (zU (zB wU (zm ix_tup (pv 3) zf) (zm ix_tup (pv 4) zf) (zE _))
    (zh (zt xC))
    zw)
   (zi (zD 5 gu.nd (zC jc (zC jc (cl0 iJ hr .nil rfl (za (pv 0) (za (cl0 lH hr .nil rfl (za (zm ix_tup (pv 3) zf) ze)) ze))) (zm ix_tup (pv 1) zf)) (cl0 iJ hr .nil rfl (za (pv 0) (za (zm ix_tup (pv 4) zf) ze)))))
   (zh (zt (zN (za (zm ix_tup (pv 3) zf) (za (zm ix_tup (pv 4) zf) (za (pv 5) ze))))))))))),?_]
  have s16:=ya;have hbl:=hB.n;have hN:=hB.ne hG;have hpl:=vc bs;have hst:∀e ∈ bs,e.2.2.length<=600:=λe he=>(hB.e e he).s;have hst3:∀e ∈ bs,e.2.2.length<=600:=λe he=>by have:=hst e he;lia
  refine zj (λσ H'=>Same H H'/\∃R:nP,LsA K H' R ((zb bs).map dR)/\σ=[!!a,!!p,!!R,rq,rq,rq]) ?_ ?_
  ·ac_rfl;exact xX hA ⋯ λD H' _ s' hL=>#[s',D,hL,rfl]
  rintro σ H1 ⟨s1,R,hR,rfl⟩:_;right;refine zj (λσ H'=>Same H1 H'/\∃(i:Nat),zO (zb bs) e.1 i/\∃p1:nP,(∃S1:nP,H' p1=rp (.tup [.ref S1,.str (tx (wAt (zb bs) e.1 i))])/\LsA K H' S1 ((sAt (zb bs) e.1 i).map dG))/\σ=[!!a,!!p,!!R,!!p1,rq,rq]) ?_ ?_
  ·ac_rfl;refine#[_,zl s1 hp,_,rfl,qX hR hN ⋯ hB.le hE.a (λi p1 S1 H' hi s' hp1 hL _=>#[s',i,hi,p1,#[S1,hp1,hL],rfl]) λhno H' s'=>q3 (.inl hno) H' (s1.trans s')]
  rintro σ H2 ⟨s2,i,hi,p1,⟨S1,hp1,hS1⟩,rfl⟩:_;have s12:=s1.trans s2;right;refine zj (λσ H'=>Same H2 H'/\∃(j:Nat),zO (zb bs) e.2.1 j/\∃p2:nP,(∃S2:nP,H' p2=rp (.tup [.ref S2,.str (tx (wAt (zb bs) e.2.1 j))])/\LsA K H' S2 ((sAt (zb bs) e.2.1 j).map dG))/\σ=[!!a,!!p,!!R,!!p1,!!p2,rq]) ?_ ?_
  ·ac_rfl;refine#[_,zl s12 hp,_,rfl,qX (hR.same s2) hN ⋯ hB.le hE.b (λj p2 S2 H' hj s' hp2 hL _=>#[s',j,hj,p2,#[S2,hp2,hL],rfl]) λhno H' s'=>q3 (.inr hno) H' (s12.trans s')]
  rintro σ H3 ⟨s3,j,hj,p2,⟨S2,hp2,hS2⟩,rfl⟩:_;have s13:=s12.trans s3;have hp1':=s3 _ _ hp1;have hS1':=hS1.same s3;right;refine zj (λσ H'=>H'=H3/\wAt (zb bs) e.1 i≠wAt (zb bs) e.2.1 j/\σ=[!!a,!!p,!!R,!!p1,!!p2,rq]) ?_ ?_
  ·ac_rfl;refine#[_,SqT.of hp1',_,rfl,_,SqT.of hp2,_,rfl,rfl,yG (λh=>?_) λh=>?_]
   ·exact q1 i j H3 hi hj (qR (by injection h)) s13
   ·exact λz=>h (by rw[z])
  rintro σ H4 ⟨rfl,hne,rfl⟩:_;have him:=hi.most;have hjm:=hj.most;have hl1:(stS (sAt (zb bs) e.1 i)).length=i:=by rw[vO,wX]
  have hl2:(stS (sAt (zb bs) e.2.1 j)).length=j:=by rw[vO,wX]
  rw[Kx]at hS1' hS2;have hA4:=Is.same s13 _ _ hA;have hb1:=JG hst (yo (stS (sAt (zb bs) e.1 i)));have hb2:=JG hst (stS (sAt (zb bs) e.2.1 j));rw[yi,hl1]at hb1;rw[hl2]at hb2;have hes:=hE.s;right;refine zj (λσ H'=>Same H4 H'/\∃S:nP,H4 S=rq/\LsA K H' S ((yq bs e i j).2.2.map dSt)/\σ=[!!a,!!p,!!R,!!p1,!!p2,!!S]) ?_ ?_
  ·ac_rfl;refine#[_,SqT.of hp1',_,rfl,kj hS1'.is ⋯ λB1 G1 _ t1 hB1=>Wr (Is.same t1 _ _ hA4) hB1.is (by rw[yi];lia) hst3 (by rw[<- hpl];exact JL (QS hi.live)) λC1 G2 hC1n t2 hC1=>?_];have t12:=t1.trans t2;obtain⟨c1,hc1,ic1⟩:=id hC1;obtain⟨es0,hs0,is0⟩:=hs.same (s13.trans t12);have lc1:=ic1.len;have ls0:=is0.len;rw[ac]at lc1 ls0;refine#[_,zl (s13.trans t12) hp,_,rfl,C1,rfl,s,rfl,c1,hc1,es0,hs0,⋯,λM hM=>?_];have t3:=zd (o:=.lst (c1 ++ es0)) hM;have t13:=t12.trans t3;refine#[_,SqT.of (t13 _ _ hp2),_,rfl,Wr (Is.same t13 _ _ hA4) (hS2.same t13).is ⋯ hst3 (by rw[<- hpl];exact QS hj.live) λC2 G3 hC2n t4 hC2=>?_];obtain⟨c2,hc2,ic2⟩:=id hC2;have lc2:=ic2.len;rw[ac]at lc2;refine#[C2,rfl,c1 ++ es0,t4 _ _ zc,c2,hc2,by rw[am];lia,λS hS=>?_];have t5:=zd (o:=.lst (c1 ++ es0 ++ c2)) hS;refine#[t13.trans (t4.trans t5),S,(t13.trans t4).free hS,#[_,zc,?_],rfl];show Iss K _ ((byL bs (yo (stS (sAt (zb bs) e.1 i))) ++ e.2.2 ++ byL bs (stS (sAt (zb bs) e.2.1 j))).map dSt) _;rw[aq,aq];exact Iss.append (Iss.append (Iss.same (t3.trans (t4.trans t5)) _ _ ic1) (Iss.same (t3.trans (t4.trans t5)) _ _ is0)) (Iss.same t5 _ _ ic2)
  rintro σ H5 ⟨s5,S,hSn,hS,rfl⟩:_;right;ac_rfl;refine#[_,SqT.of (s5 _ _ hp1'),_,rfl,_,SqT.of (s5 _ _ hp2),_,rfl,⋯,λt ht=>?_];have st:=zd (o:=.tup [.str (tx (wAt (zb bs) e.1 i)),.str (tx (wAt (zb bs) e.2.1 j)),.ref S]) ht;exact q2 i j t S _ hi hj hne (s13.trans (s5.trans st)) (s13.free hSn) zc (hS.same st)
def uK(K:nO)(CF:nP):Sp:=λvs H Q E=>∃(p s:nP) (e:Ent),vs=[.ref p]/\SqT K H p [.str (tx e.1),.str (tx e.2.1),.ref s]/\Is K H (.lst (e.2.2.map dSt)) (.ref s)/\e.1.length<=10000/\e.2.1.length<=10000/\(¬ uJ e->Q .non H)/\(uJ e->E (.ref CF) rq H)
theorem XA{CF p s:nP}(h1:SqT K H p [.str (tx e.1),.str (tx e.2.1),.ref s])(h2:Is K H (.lst (e.2.2.map dSt)) (.ref s))(h3:e.1.length<=10000)(h4:e.2.1.length<=10000)(h5:¬ uJ e->Q .non H)(h6:uJ e->E (.ref CF) rq H):uK K CF [.ref p] H Q E:=#[p,s,e,rfl,h1,h2,h3,h4,h5,h6]
theorem uw:sQz 1 ["entry"] yV:=by nofun
theorem uk{f CF:nP}(B:Bt mg)(T:zaq K mg CF)(TM:TMo mg)(F:("refuse_beyond"^^^yV)) :(1|||["entry"]) (uK K CF):=by
 obtain⟨⟨t9,g9⟩,⟨t8,g8⟩⟩:=And.intro TM.s TM.d
 exists Fun.okX F uw,0
 ·obtain⟨p,s,e,rfl,hp,hs,ha,hb,q1,q2⟩:=h
  refine#[_,(zi (zU (zB UN (zL B.len (zm ix_tup (pv 0) zf)) (yU (v:=.int 240) rfl g9 #[t9,rfl]) (zE _))
    (zh (yW hx rfl T.xi.toXC T.ini rfl T.g (za yf ze)))
    zw)
   (zh (zU (zB UN (yM (YQ rfl) rfl B.max vb (za (zL B.len (zm ix_tup (pv 0) zf)) (za (zL B.len (zm ix_tup (pv 0) zf)) ze))) (yU (v:=.int 60) rfl g8 #[t8,rfl]) (zE _))
    (zh (yW hx rfl T.xi.toXC T.ini rfl T.g (za yf ze)))
    zw))),?_]
  have s16:=ya
  erw[Is]at hs
  obtain⟨_,zs,e0,hZ,hI⟩:=hs;cases e0;have hzl:=hI.len;rw[ac]at hzl;refine zj (λσ H'=>H'=H/\e.2.2.length<=240/\σ=[!!p]) ?_ ?_
  ·ac_rfl;refine#[_,hp,_,rfl,_,.inl #[_,hZ,rfl],yG (λh=>#[⋯,q2 (.inl ⋯)]) λh=>by lia]
  rintro σ H1 ⟨rfl,h1,rfl⟩:_;right;ac_rfl;refine#[_,hp,_,rfl,_,#[by rw[zS];lia,rfl],_,hp,_,rfl,_,#[by rw[zS];lia,rfl],?_];rw[zS,zS];refine yG (λh=>#[⋯,q2 ?_]) λh=>q1 ?_
  ·unfold uJ;split at h <;> lia
  ·unfold uJ;split at h <;> lia
theorem Qz{l:()}{i j:Nat}(hB:BG k l ns bs)(hE:EB l e)(hF:¬ uJ (yq bs e i j)):EB l (yq bs e i j):=by
 unfold uJ at hF;exact#[⋯,⋯,⋯,vH hE.ma hB.mem i,vH hE.mb hB.mem j]
theorem BG.snoc{l:()}{d:Ent}(h:BG k l ns bs)(hn:bs.length+1<64)(hd:EB l d)(hne:d.1≠d.2.1):BG k l ns (bs ++ [zX k l ns d]):=by
 refine#[by rw[am];exact hn,λe he=>?_,λe he=>?_]
 ·rcases rJ.mp he with he | he
  ·exact h.e e he
  ·rw[rK.mp he];exact hd.rule
 ·rcases rJ.mp he with he | he
  ·exact h.lt e he
  ·rw[rK.mp he];exact uP hd hne
theorem Ul{CF a p s:nP}{l:()}(h1:OG l ns k)(h2:Is K H (.lst (bs.map dE)) (.ref a))(h3:BG k l ns bs)(h4:SqT K H p [.str (tx e.1),.str (tx e.2.1),.ref s])(h5:LsA K H s (e.2.2.map dSt))(h6:EB l e)
  (q1:∀i j H',zO (zb bs) e.1 i->zO (zb bs) e.2.1 j->wAt (zb bs) e.1 i=wAt (zb bs) e.2.1 j->Same H H'->Q .non H')
  (q2:∀i j p' s' H',zO (zb bs) e.1 i->zO (zb bs) e.2.1 j->wAt (zb bs) e.1 i≠wAt (zb bs) e.2.1 j->Same H H'->H s'=rq->H' p'=rp (.tup [.str (tx (yq bs e i j).1),.str (tx (yq bs e i j).2.1),.ref s'])->LsA K H' s' ((yq bs e i j).2.2.map dSt)->Q (.ref p') H')
  (q3:(∀i,¬ zO (zb bs) e.1 i)\/(∀j,¬ zO (zb bs) e.2.1 j)->∀H',Same H H'->E (.ref CF) rq H'):ZJ K CF [.ref a,.ref p] H Q E:=#[a,p,s,k,l,ns,bs,e,rfl,h1,h2,h3,h4,h5,h6,q1,q2,q3]
theorem UM{l:()}{i j:Nat}(hB:BG k l ns bs)(hG:OG l ns k)(hE:EB l e)(hi:i<=40)(hj:j<=40):(yq bs e i j).1.length<=10000/\(yq bs e i j).2.1.length<=10000:=by
 have h1:=qC (l:=e.1) (m:=60) (hB.ne hG) (λp hp=>(hB.le p hp).2) i;have h2:=qC (l:=e.2.1) (m:=60) (hB.ne hG) (λp hp=>(hB.le p hp).2) j;have h3:=hE.a;have h4:=hE.b;show (wAt (zb bs) e.1 i).length<=10000/\(wAt (zb bs) e.2.1 j).length<=10000;lia
def jp(K:nO)(CO CR CW CF:nP):Sp:=λvs H Q E=>∃(o a:nP) (k:Nat) (l:()) (ns:List Int) (zs:List Ent),vs=[.ref o,.ref a]/\OrdAt CO CR CW H o k l ns/\OG l ns k/\EnsL K H a zs/\zs.length<64/\(∀e ∈ zs,EB l e) /\
 (∀(bs:List Ent) (D:nP) (H':Hp),yN k l ns [] zs (rp bs)->BG k l ns bs->Same H H'->H D=rq->EnsM K H' D bs->Q (.ref D) H')/\(yN k l ns [] zs rq->∀H',Same H H'->E (.ref CF) rq H')
theorem VP{CO CR CW CF o a:nP}{l:()}{zs:List Ent}(h1:OrdAt CO CR CW H o k l ns)(h2:OG l ns k)(h3:EnsL K H a zs)(h4:zs.length<64)(h5:∀e ∈ zs,EB l e)
  (q1:∀(bs:List Ent) (D:nP) (H':Hp),yN k l ns [] zs (rp bs)->BG k l ns bs->Same H H'->H D=rq->EnsM K H' D bs->Q (.ref D) H') (q2:yN k l ns [] zs rq->∀H',Same H H'->E (.ref CF) rq H'):jp K CO CR CW CF [.ref o,.ref a] H Q E:=#[o,a,k,l,ns,zs,rfl,h1,h2,h3,h4,h5,q1,q2]
def zcD(K:nO)(H1 H':Hp)(bs:List Ent)(e:Ent)(v:V):Prop:=∃i j,zO (zb bs) e.1 i/\zO (zb bs) e.2.1 j/\((wAt (zb bs) e.1 i=wAt (zb bs) e.2.1 j/\v=.non) \/
 (wAt (zb bs) e.1 i≠wAt (zb bs) e.2.1 j/\∃p s:nP,v=.ref p/\H1 s=rq/\H' p=rp (.tup [.str (tx (yq bs e i j).1),.str (tx (yq bs e i j).2.1),.ref s])/\LsA K H' s ((yq bs e i j).2.2.map dSt)))
def zcC(K:nO)(H:Hp)(D:nP)(k:Nat)(l:())(ns:List Int)(zs:List Ent)(i:Nat)(H':Hp):Prop:=∃(bs:List Ent) (rE:List V),Same H H'/\H' D=rp (.lst rE)/\EnsA K (qJ D H') bs rE/\BG k l ns bs/\bs.length<=i/\∀r,yN k l ns bs (zs.drop i) r->yN k l ns [] zs r
theorem gT:sQz 2 ["order","entries","built","entry","lower"] wl:=by nofun
theorem j1{f CO CR CW CF:nP}(B:Bt mg)(F:("built_anew"^^^wl))(my:(5>>>"brought_down") ["entries","entry"] [] (ZJ K CF))(mn:(1>>>"refuse_beyond") ["entry"] [] (uK K CF))(lJ:(4<<<"as_rule") ["order","entry"] [] (wf K CO CR CW)):(6|||["order","entries"]) (jp K CO CR CW CF):=by
 exists Fun.okX F gT,0
 ·obtain⟨o,a,k,l,ns,zs,rfl,ho,hG,hA,hz,hE,q1,q2⟩:=h
  refine#[_,(zi (zD 2 gT.nd (xz ze))
   (zi (yK PassesOwn.leaving rfl (ye (pv 1)) (zx (i:=3) gT.nd rfl (.inl rfl))
    (zi (zD 4 gT.nd (clP hx my hr .nil rfl (za (pv 2) (za (pv 3) ze))))
    (zh (zU (zB op_notN' (pv 4) xC (zE _))
     (zi (wm (clP hx mn hr .nil rfl (za (pv 4) ze)))
     (zh (wm (vG bx bF bG yS (pv 2) (za (cl0 lJ hr .nil rfl (za (pv 0) (za (pv 4) ze))) ze)))))
     zw))))
   (zh (zt (pv 2))))),?_]
  have s16:=ya;obtain⟨xs,hX,hI⟩:=id hA;have hxl:=hI.len;refine zj (λσ H'=>Same H H'/\∃D:nP,H D=rq/\H' D=rp (.lst [])/\σ=[!!o,!!a,!!D,rq,rq]) ?_ ?_
  ·ac_rfl;exact#[⋯,λp hp=>#[zd hp,p,hp,zc,rfl]]
  rintro σ H0 ⟨s0,D,hD,hD0,rfl⟩:_;right;refine zj (λσ H'=>zcC K H D k l ns zs zs.length H'/\∃(v3 v4:Option V),σ=[!!o,!!a,!!D,v3,v4]) ?_ ?_
  ·ac_rfl;refine#[#[_,s0.seq hX],ForL.by (xs:=xs) (λi σ H'=>zcC K H D k l ns zs i H'/\∃(v3 v4:Option V),σ=[!!o,!!a,!!D,v3,v4]) #[#[[],[],s0,hD0,by erw[EnsA],#[∅,λe he=>(nomatch he),λe he=>(nomatch he)],ao _,λr h=>h],rq,rq,rfl] (λi σ H' _ ⟨⟨_,_,h,_⟩,_⟩=>h.seq hX) ?_ ?_]
   ·refine nm4 ?_;rintro i x σ H1 hx ⟨⟨bs,rE,s1,hH1,hI1,hB,hbi,hr⟩,v3,v4,rfl⟩:_;have hix:=(rG.mp hx).1;obtain⟨e,pe,se,hei,rfl,hqe,hse⟩:=hI.get hx;have hEe:=hE e (ag hei)
    have hdrop:zs.drop i=e::zs.drop (i+1):=by
     obtain⟨h1,h2⟩:=rG.mp hei;rw[aT h1,h2]
    rw[hdrop]at hr;have hal:=hI1.len;have hbn:=hB.n
    have hIs:Is K H1 (.lst (bs.map dE)) (.ref D):=by
     erw[Is]
     exact#[D,rE,rfl,SqL.of hH1,(hI1.same xS).iss]
    right
    erw[yI,bf,be]
    refine zj (λσ H'=>Same H1 H'/\∃v:V,zcD K H1 H' bs e v/\σ=[!!o,!!a,!!D,!!pe,rp (v)]) ?_ ?_
    ·ac_rfl;exact Ul hG hIs hB (zl s1 hqe) (hse.same s1) hEe (λi' j' H' a1 a2 a3 s'=>#[s',i',j',a1,a2,.inl #[a3,rfl]]) (λi' j' p' s' H' a1 a2 a3 t' a4 a5 a6=>#[t',i',j',a1,a2,.inr #[a3,p',s',rfl,a4,a5,a6]]) λh H' s'=>q2 (hr _ (.stuck h)) H' (s1.trans s')
    rintro σ H2 ⟨s2,v,⟨i',j',hi',hj',hc⟩,rfl⟩:_;right;rcases hc with ⟨hw,rfl⟩ | ⟨hw,p',s',rfl,hsn,hp',hL'⟩
    ·ac_rfl;exact#[bs,rE,s1.trans s2,s2 _ _ hH1,hI1.same (wj s2),hB,⋯,λr h=>hr r (.same hi' hj' hw h)]
    ·ac_rfl
     try rw[if_pos not_false]
     have hdl:=UM hB hG hEe hi'.most hj'.most;refine zj (λσ H'=>H'=H2/\¬ uJ (yq bs e i' j')/\σ=[!!o,!!a,!!D,!!pe,!!p']) ?_ ?_
     ·ac_rfl;exact XA (SqT.of hp') hL'.is hdl.1 hdl.2 (λh=>#[rfl,h]) λh=>q2 (hr _ (.far hi' hj' hw h)) H2 (s1.trans s2)
     rintro σ H3 ⟨rfl,hF,rfl⟩:_;have hEd:=Qz hB hEe hF;have hH3:=s2 _ _ hH1
     have fin:∀(v:V) (H4:Hp),Same H3 H4->EnA K (qJ D H4) (zX k l ns (yq bs e i' j')) v->zcC K H D k l ns zs (i+1) (upd H4 D (.lst (rE ++ [v]))):=λv H4 s4 hv=>by
      refine#[bs ++ [zX k l ns (yq bs e i' j')],rE ++ [v],zy (s1.trans (s2.trans s4)) hD,zc,?_,hB.snoc ⋯ hEd hw,by rw[am];show bs.length+1<=i+1;lia,λr h=>hr r (.new hi' hj' hw hF h)];exact (hI1.same ((wj (s2.trans s4)).trans y4)).snoc (hv.same y4)
     right;ac_rfl;refine#[.inl #[_,SqL.of hH3],qT (ho.same (s1.trans s2)) hG (SqT.of hp') hL'.is hEd (λer H4 s4=>#[rE,s4 _ _ hH3,⋯,fin _ _ s4 ?_]) λp2 t2 H4 s4 htn hp2 hL2=>#[rE,s4 _ _ hH3,⋯,fin _ _ s4 ?_]]
     ·rw[er];exact EnA.new (s4 _ _ hH3) (s4 _ _ hp') (hL'.same s4) (λz=>by rw[z,hH1]at hsn;cases hsn)
     ·exact EnA.new (s4 _ _ hH3) hp2 hL2 (λz=>by rw[z,hH3]at htn;cases htn)
   ·rintro σ H' ⟨h,v3,v4,rfl⟩;rw[hxl]at h;exact#[h,_,_,rfl]
  rintro σ H2 ⟨⟨bs,rE,s2,hH2,hI2,hB,hbi,hr⟩,v3,v4,rfl⟩:_;rw[ee]at hr;right;ac_rfl;exact q1 bs D H2 (hr _ (.nil bs)) hB s2 hD #[rE,hH2,hI2.same xS]
theorem U9(rs ss:List zk):w8 (rs.map dR) (ss.map dR)=decide (rs=ss):=by
 induction rs generalizing ss with
 | nil=>cases ss with
  | nil=>simp [w8]
  | cons s ss=>simp [w8]
 | cons r rs ih=>cases ss with
  | nil=>simp [w8]
  | cons s ss =>
   rw[aj,aj,w8,ih]
   have h:eqD (dR r) (dR s)=decide (r=s):=by
    obtain⟨a,b⟩:=r;obtain⟨c,d⟩:=s
    have e1:∀x y:(),eqD (dS x) (dS y)=decide (x=y):=λx y=>by
     have:eqD (dS x) (dS y)=decide (tx x=tx y):=by erw[dS,eqD];rfl
     rw[this];exact decide_eq_decide.mpr #[qR,λh=>by rw[h]]
    erw[dR,eqD,w8,e1]
    by_cases h1:a=c <;> by_cases h2:b=d <;> simp [h1,h2]
   rw[h];by_cases h1:r=s <;> by_cases h2:rs=ss <;> simp [h1,h2]
theorem Lined.eb{l:()}{es zs:List Ent}(h:Lined k l ns es zs)(hE:∀e ∈ es,EB l e):∀e ∈ zs,EB l e:=λe he=>by
 have hm:=h.perm.mem_iff.mp he;unfold uu at hm;obtain⟨y,hy,rfl⟩:=rF.mp hm;exact (hE y (rN.mp hy).1).rule
theorem Lined.len{l:()}{es zs:List Ent}(h:Lined k l ns es zs):zs.length<=es.length:=by
 rw[h.perm.length_eq];exact Z9 k l ns es
def Wv(K:nO)(CO CR CW T CF:nP):Sp:=λvs H Q E=>∃(o a:nP) (k:Nat) (l:()) (ns:List Int) (es:List Ent),vs=[.ref o,.ref a]/\OrdAt CO CR CW H o k l ns/\OG l ns k/\EnsL K H a es/\es.length<64/\(∀e ∈ es,EB l e)/\TabOk H T lp lq /\
 (∀(bs:List Ent) (D:nP) (H':Hp),vV k l ns 20 es (rp bs)->BG k l ns bs->SamT T H H'->TabOk H' T lp lq->EnsM K H' D bs->Q (.ref D) H')/\(vV k l ns 20 es rq->∀H',SamT T H H'->TabOk H' T lp lq->E (.ref CF) rq H')
def zdA(K:nO)(T:nP)(H:Hp)(k:Nat)(l:())(ns:List Int)(es:List Ent)(n:Nat)(H':Hp)(b:nP):Prop:=∃fs:List Ent,SamT T H H'/\TabOk H' T lp lq/\(∀r,vV k l ns n fs r->vV k l ns 20 es r)/\EnsL K H' b fs/\fs.length<64/\∀e ∈ fs,EB l e
theorem iK:sQz 2 ["order","entries","turn","lined_up"] qv:=by nofun
theorem XU{f CO CR CW TB CF:nP}(B:Bt mg)(T:zaq K mg CF)(TM:TMo mg)(F:("thinned"^^^qv))(nh:(6<<<"in_order") ["order","entries"] [] (j0 K CO CR CW TB))(mN:(6>>>"built_anew") ["order","entries"] [] (jp K CO CR CW CF))(gv:(1<<<"pairs_of") ["entries"] [] (wF K)):(7|||["order","entries"]) (Wv K CO CR CW TB CF):=by
 obtain⟨t9,g9⟩:=TM.p
 exists Fun.okX F iK,0
 ·obtain⟨o,a,k,l,ns,es,rfl,ho,hG,hA,hz,hE,hTab,q1,q2⟩:=h
  refine#[_,(zi (yK PassesOwn.leaving rfl (yX rfl B.range (za (yU (v:=.int 20) rfl g9 #[t9,rfl]) ze)) (zx (i:=2) iK.nd rfl (.inl rfl))
    (zi (zD 3 iK.nd (cl0 nh hr .nil rfl (za (pv 0) (za (pv 1) ze))))
    (zi (zD 1 iK.nd (clP hx mN hr .nil rfl (za (pv 0) (za (pv 3) ze))))
    (zh (zU (zB (za8 (Z3 hr)) (cl0 gv hr .nil rfl (za (pv 1) ze)) (cl0 gv hr .nil rfl (za (pv 3) ze)) (zE _))
     (zh (zt (pv 1)))
     zw)))))
   (zh (yW hx rfl T.xi.toXC T.ini rfl T.g (za yf ze)))),?_]
  have s16:=ya;obtain⟨ps0,hps0,_⟩:=id hTab;refine zj (λσ H'=>∃b:nP,zdA K TB H k l ns es 0 H' b) ?_ ?_
  ·ac_rfl;refine#[⋯,⋯,ForR.by (λi σ H'=>∃(b:nP) (v2 v3:Option V),zdA K TB H k l ns es (20 - i) H' b/\σ=[!!o,!!b,v2,v3]) #[a,rq,rq,#[es,SamT.of (Same.refl _),hTab,λr h=>h,hA,hz,hE],rfl] ?_ ?_]
   ·refine nm3 ?_;rintro i σ H1 hi ⟨b,v2,v3,⟨fs,s1,hT1,hr,hF,hfl,hFE⟩,rfl⟩:_;have ho1:=ho.samT s1 hps0;have hi20:i<20:=hi;obtain⟨n,hn⟩:∃n,20 - i=n+1:=#[20 - i - 1,⋯];rw[hn]at hr;right
    erw[yI,bf,be]
    refine zj (λσ H'=>SamT TB H1 H'/\TabOk H' TB lp lq/\∃(z:nP),(∃zs:List Ent,Lined k l ns fs zs/\EnsM K H' z zs)/\∃v2,σ=[!!o,!!b,v2,!!z]) ?_ ?_
    ·ac_rfl;exact X4 ho1 hG hF hfl hFE hT1 λD zs H' s' hT' _ hLn hM=>#[s',hT',D,#[zs,hLn,hM],rfl]
    rintro σ H2 ⟨s2,hT2,z,⟨zs,hLn,hZ⟩,v2,rfl⟩:_;have s12:=s1.trans s2;have ho2:=ho.samT s12 hps0;have hzE:=hLn.eb hFE;have hzl:=hLn.len;right;refine zj (λσ H'=>Same H2 H'/\∃(c:nP),(∃bs:List Ent,yN k l ns [] zs (rp bs)/\BG k l ns bs/\EnsM K H' c bs)/\σ=[!!o,!!c,v2,!!z]) ?_ ?_
    ·ac_rfl;exact VP ho2 hG hZ.l ⋯ hzE (λbs D H' hb hB s' _ hM=>#[s',D,#[bs,hb,hB,hM],rfl]) λhb H' s'=>q2 (hr _ (.bad hLn hb)) H' (s12.trans (SamT.of s')) (hT2.same s')
    rintro σ H3 ⟨s3,c,⟨bs,hb,hB,hM⟩,rfl⟩:_;have hbn:=hB.n;right;ac_rfl;refine xX hM.l.is ⋯ λP1 H4 _ s4 hP1=>xX ((hZ.same s3).same s4).l.is ⋯ λP2 H5 _ s5 hP2=>Kv (.inl #[(hP1.same s5).is,hP2.is]) (bY (QG _) ∅) ?_;rw[U9];have s45:=s4.trans s5;have s15:=s12.trans (SamT.of (s3.trans s45));have hT5:=hT2.same (s3.trans s45);refine#[_,rfl,yG (λh=>?_) λh=>?_]
    ·exact q1 bs c H5 (hr _ (.done hLn hb (of_decide_eq_true h))) hB s15 hT5 (hM.same s45)
    ·have e:20 - (i+1)=n:=⋯;rw[e];exact#[bs,s15,hT5,λr h'=>hr r (.more hLn hb (λz=>h (decide_eq_true z)) h'),(hM.same s45).l,hbn,hB.e]
   ·rintro σ H' ⟨b,v2,v3,h,rfl⟩;exact#[b,h]
  rintro σ H2 ⟨b,fs,s2,hT2,hr,_⟩:_;right;ac_rfl;exact#[⋯,q2 (hr _ (.out fs)) H2 s2 hT2]
def Zy(K:nO):Sp:=λvs H Q _=>∃(a:nP) (ns:List Int) (k:Int),vs=[.ref a,.int k]/\SqL K H a (ns.map V.int)/\(∀z ∈ ns,qE z)/\0<=k/\∀c:Int,qE c->Q (.int c) H
theorem ke{a:nP}{k:Int}(hS:SqL K H a (ns.map V.int))(hB:∀z ∈ ns,qE z)(hk:0<=k)(h:∀c:Int,qE c->Q (.int c) H):Zy K [.ref a,.int k] H Q E:=#[a,ns,k,rfl,hS,hB,hk,h]
theorem K2:sQz 2 ["_law_script","_law_k"] V7:=by nofun
theorem JS(B:Bt mg)(F:("_law_cell"^^^V7)) :(1&&&["_law_script","_law_k"]) (Zy K):=by
 exists F.ok K2
 ·obtain⟨a,ns,k,rfl,hS,hB,hk,q⟩:=h
  refine#[_,(zQ (zU (zB VH (pv 1) (zL B.len (pv 0)) (zE _))
    (zh (zt (zm za0 (pv 0) (pv 1))))
    zw)
   (zh (zt zf))),?_]
  have s16:=ya
  rfl'
  refine#[_,.inl #[_,hS,rfl],yG (λc=>?_) (λc=>q 0 (by unfold qE;decide))];obtain⟨v,h1,h2⟩:=ky hk c;rw[ay]at h2;obtain⟨z,hz,rfl⟩:=rO.mp h2;exact .inl #[_,hS,_,h1,q z (hB z (ag hz))]
def vf:Sp:=λvs H Q _=>∃(c t:Int),vs=[.int c,.int t]/\qE c/\0<=t/\t<=100/\∀z:Int,0<=z->Q (.int z) H
theorem vg{c t:Int}(hc:qE c)(h0:0<=t)(h1:t<=100)(q:∀z:Int,0<=z->Q (.int z) H):vf [.int c,.int t] H Q E:=#[c,t,rfl,hc,h0,h1,q]
theorem mP:sQz 2 ["_law_cell_here","_law_turn","_law_number"] ZG:=by nofun
theorem Qs(B:Bt mg)(F:("_law_mixed"^^^ZG)) :(1&&&["_law_cell_here","_law_turn"]) vf:=by
 exists F.ok mP
 ·obtain⟨c,t,rfl,hc,h0,h1,q⟩:=h
  refine#[_,(zQ (zD 2 mP.nd (zC yF (zC jg (zC U2 (pv 0) (pv 0)) zf) (zC jg (zC jg (pv 0) zf) (zC yF (pv 1) zf))))
   (zh (zt (zC jT (zC wa (zC yF (pv 2) (zC jg (pv 1) zf)) zf) zf)))),?_]
  have s16:=ya
  rfl'
  exact#[hc,hc,.inr #[∅,∅],.inr #[∅,∅],.inr #[⋯,⋯],.inr #[∅,∅],∅,#[∅,∅],q _ (Int.ediv_nonneg (cZ _ ∅) ∅)]
def vL:Sp:=λvs H Q _=>∃c m:Int,vs=[.int c,.int m]/\qE c/\0<=m/\m<=26/\∀l:(),(l.length:Int)=m->l.Nodup->ZA l->Q (.str (tx l)) H
theorem Yc{c m:Int}(h:qE c)(h0:0<=m)(h1:m<=26)(q:∀l:(),(l.length:Int)=m->l.Nodup->ZA l->Q (.str (tx l)) H):vL [.int c,.int m] H Q E:=#[c,m,rfl,h,h0,h1,q]
def zdC(c m:Int)(i:Nat)(σ:L2.St):Prop:=∃(left found:()) (number:Int) (v5 v6:Option V),found.length=i/\(found ++ left).Perm alpha/\σ=[~~~!c,~~~!m,~~~left,~~~!number,~~~found,v5,v6]
theorem gn:sQz 2 ["_law_cell_here","_law_many","_law_left","_law_number","_law_letters_here","_law_k","_law_at"] qd:=by nofun
theorem Xo(B:Bt mg)(F:("_law_letters"^^^qd))(lc:(1<<<"_law_mixed") ["_law_cell_here","_law_turn"] [] vf):(2&&&["_law_cell_here","_law_many"]) vL:=by
 exists F.ok gn
 ·obtain⟨c,m,rfl,hc,h0,h1,q⟩:=h
  refine#[_,(zi (zD 2 gn.nd yf)
   (zi (zD 3 gn.nd (cl0 lc hr .nil rfl (za (pv 0) (za zf ze))))
   (zi (zD 4 gn.nd yf)
   (zi (yK PassesOwn.never rfl (yX rfl B.range (za (pv 1) ze)) (zx (i:=5) gn.nd rfl (.inl rfl))
    (zi (zD 6 gn.nd (zC wa (pv 3) (zL B.len (pv 2))))
    (zi (zD 3 gn.nd (zC jT (pv 3) (zL B.len (pv 2))))
    (zi (zD 4 gn.nd (zC zJ (pv 4) (zm xY (pv 2) (pv 6))))
    (zh (zD 2 gn.nd (zC zJ (z6 wb (pv 2) yZ (z9 (pv 6))) (z6 wb (pv 2) (z9 (zC yF (pv 6) zf)) yZ))))))))
   (zh (zt (pv 4))))))),?_]
  have s16:=ya;have ha:alpha.length=26:=rfl;refine zj (λσ H'=>H'=H/\σ=[~~~!c,~~~!m,~~~alpha,rq,rq,rq,rq]) ?_ ?_
  ·rfl'
   exact WR
  rintro σ H1 ⟨rfl,rfl⟩:_;right;refine zj (λσ H'=>H'=H1/\∃z:Int,σ=[~~~!c,~~~!m,~~~alpha,~~~!z,rq,rq,rq]) ?_ ?_
  ·rfl'
   exact vg hc ∅ ∅ λz _=>#[rfl,z,rfl]
  rintro σ H2 ⟨rfl,z,rfl⟩:_;right;refine zj (λσ H'=>H'=H2/\σ=[~~~!c,~~~!m,~~~alpha,~~~!z,rp (.str (tx [])),rq,rq]) ?_ ?_
  ·rfl'
   rfl
  rintro σ H3 ⟨rfl,rfl⟩:_;right;refine zj (λσ H'=>H'=H3/\zdC c m m.toNat σ) ?_ ?_
  ·rfl'
   refine#[⋯,⋯,ForR.by (λi σ H'=>H'=H3/\zdC c m i σ) #[rfl,alpha,[],z,rq,rq,rfl,.refl _,rfl] ?_ λσ H' h=>h];refine nm3 ?_;rintro i σ H' hi ⟨rfl,left,found,number,v5,v6,hf,hp,rfl⟩:_;have hpl:=hp.length_eq;rw[am]at hpl;have hl:left.length+i=26:=⋯;have hm0:=cZ number (b:=(left.length:Int)) ⋯;have hm1:=de number (b:=(left.length:Int)) ⋯;right;generalize hz:number % (left.length:Int)=at_ at hm0 hm1;obtain⟨v,e1,e2⟩:=ky hm0 hm1
   erw[yI,bf,be]
   refine zj (λσ H''=>H''=H'/\∃v5,σ=[~~~!c,~~~!m,~~~left,~~~!number,~~~found,v5,~~~!at_]) ?_ ?_
   ·rfl'
    exact#[⋯,⋯,hz]
   rintro σ G1 ⟨rfl,v5',rfl⟩:_;right;refine zj (λσ H''=>H''=G1/\∃n v5,σ=[~~~!c,~~~!m,~~~left,~~~!n,~~~found,v5,~~~!at_]) ?_ ?_
   ·rfl'
    exact#[⋯,#[⋯,⋯]]
   rintro σ G2 ⟨rfl,n,v5',rfl⟩:_;right;refine zj (λσ H''=>H''=G2/\∃v5,σ=[~~~!c,~~~!m,~~~left,~~~!n,rp (.str (tx (found ++ [v]))),v5,~~~!at_]) ?_ ?_
   ·rfl'
    exact#[⋯,v,e1,⋯,rfl]
   rintro σ G3 ⟨rfl,v5',rfl⟩:_;have hc1:=wv left rq (rp at_);have hc2:=wv left (rp (at_+1)) rq;right
   rfl'
   refine#[⋯,⋯,⋯,_,_,_,_,_,by rw[am,hf];rfl,?_,rfl];rw[je _ hm0,vd _ ⋯,aR];have e3:(at_+1).toNat=at_.toNat+1:=⋯;rw[e3];exact ((VQ e2).append_left found).trans hp
  rintro σ H4 ⟨rfl,left,found,number,v5,v6,hf,hp,rfl⟩:_;right
  rfl'
  have hnd:(found ++ left).Nodup:=hp.nodup_iff.mpr ∅;refine q found ⋯ (List.nodup_append.mp hnd).1 λc hc=>?_;have h:c ∈ alpha:=hp.mem_iff.mp (bu _ hc);exact (by decide:∀c ∈ alpha,97<=c/\c<=122) c h
structure zdY(K:nO):Prop where
 ii:aS K (.type "int") (.type "int")=rp rz
 ib:aS K (.type "int") (.type "bool")=rp rA
def jE:Sp:=λvs H Q _=>∃i:Int,vs=[.int i]/\Q (.bl rz) H
theorem Zf{i:Int}(h:Q (.bl rz) H):jE [.int i] H Q E:=#[i,rfl,h]
theorem Uv:sQz 1 ["_law_found"] Yf:=by nofun
theorem UT(B:Bt mg)(T:zdY K)(F:("_law_whole"^^^Yf)):(1&&&["_law_found"]) jE:=by
 exists F.ok Uv
 ·obtain⟨i,rfl,q⟩:=h;refine#[_,(zh (zt (zaR (yY rfl B.isi (pv 0) rfl B.int PySem.Pv.boot_int) (zaI (Jp (yY rfl B.isi (pv 0) rfl B.bool PySem.Pv.boot_bool)))))),?_]
  rfl'
  exact#[_,.inl (.int _),rz,T.ii,zdX #[_,.inl (.int _),rA,T.ib,q]]
structure TLs(K:nO):Prop where
 ll:aS K (.type "list") (.type "list")=rp rz
 tt:aS K (.type "tuple") (.type "tuple")=rp rz
 bb:aS K (.type "bool") (.type "bool")=rp rz
def Y6(K:nO):Sp:=λvs H Q _=>∃(t:nP) (ss:List Stp),vs=[.ref t]/\Is K H (.lst (ss.map dSt)) (.ref t)/\Q (.bl rz) H
theorem mQ:sQz 1 ["_law_found","_law_step"] Z7:=by nofun
theorem Qa(B:Bt mg)(T:TLs K)(F:("_law_steps"^^^Z7))(ng:(1<<<"_law_whole") ["_law_found"] [] jE):(2&&&["_law_found"]) (Y6 K):=by
 exists F.ok mQ
 ·obtain⟨t,ss,rfl,hT,q⟩:=h
  refine#[_,(zi (zU (yn (yT (yY rfl B.isi (pv 0) rfl B.list PySem.Pv.boot_list) (λ_=>rfl)))
    (zh (zt xn))
    zw)
   (zi (yK PassesOwn.never rfl (ye (pv 0)) (zx (i:=1) mQ.nd rfl (.inl rfl))
    (zi (zU (PW.pt (ut (yn (yT (yY rfl B.isi (pv 1) rfl B.tuple PySem.Pv.boot_tuple) (λ_=>rfl))) (ut (zB Xz (zL B.len (pv 1)) zf (zE _)) (vY (yn (yT (yY rfl B.isi (zm ix_tup (pv 1) zf) rfl B.bool PySem.Pv.boot_bool) (λ_=>rfl)))))))
     (zh (zt xn))
     zw)
    (zh (zU (PW.pt (ut (yn (yT (cl0 ng hr .nil rfl (za (zm ix_tup (pv 1) zf) ze)) (λ_=>rfl))) (vY (yn (yT (cl0 ng hr .nil rfl (za (zm ix_tup (pv 1) zf) ze)) (λ_=>rfl))))))
     (zh (zt xn))
     zw))))
   (zh (zt xn)))),?_]
  have s16:=ya
  erw[Is]at hT
  obtain⟨_,ts,e,hTs,hJ⟩:=hT;cases e;refine zj (λσ H'=>H'=H/\σ=[!!t,rq]) ?_ ?_
  ·rfl'
   exact#[_,.inr (.inr (.inl #[_,_,rfl,rfl,hTs])),rz,T.ll,Uh trivial]
  rintro σ H1 ⟨rfl,rfl⟩:_;right;refine zj (λσ H'=>H'=H1/\∃v1,σ=[!!t,v1]) ?_ ?_
  ·rfl'
   refine#[#[_,hTs],ForL.by (xs:=ts) (λi σ H'=>H'=H1/\∃v1,σ=[!!t,v1]) #[rfl,_,rfl] (λi σ H' _ h=>by rw[h.1];exact hTs) ?_ λσ H' h=>h];refine nm4 ?_;rintro i x σ H' hx ⟨rfl,v1,rfl⟩:_;obtain⟨u,pu,hui,rfl,hqu⟩:=vh hJ hx;right
   erw[yI,bf,be]
   refine zj (λσ H''=>H''=H'/\σ=[!!t,!!pu]) ?_ ?_
   ·rfl'
    exact#[_,.inr (.inr (.inr #[_,_,rfl,rfl,hqu])),rz,T.tt,Uh #[_,.inr #[_,hqu,rfl],yG (λh=>absurd rfl h) λ_=>#[_,hqu,_,rfl,_,.inl (.bl _),rz,T.bb,Uh trivial]]]
   rintro σ G ⟨rfl,rfl⟩:_;right
   rfl'
   exact#[_,hqu,_,rfl,Zf #[rz,rfl,Uh #[_,hqu,_,rfl,Zf #[rz,rfl,Uh rfl]]]]
  rintro σ H2 ⟨rfl,v1,rfl⟩:_;right
  rfl'
  exact q
def jC(K:nO):Sp:=λvs H Q _=>∃(a t:nP) (rs:List zk) (w w':()) (s:Stp),vs=[.ref a,.str (tx w),.ref t]/\Is K H (.lst (rs.map dR)) (.ref a)/\ju rs/\w.length<=300000/\SqT K H t [.int s.1,.int s.2.1,.bl s.2.2]/\yg rs w s=rp w'/\Q (.str (tx w')) H
theorem Vb{a t:nP}{w w':()}{s:Stp}(h1:Is K H (.lst (rs.map dR)) (.ref a))(h2:ju rs)(h3:w.length<=300000)(h4:SqT K H t [.int s.1,.int s.2.1,.bl s.2.2])(h5:yg rs w s=rp w')(q:Q (.str (tx w')) H):jC K [.ref a,.str (tx w),.ref t] H Q E:=#[a,t,rs,w,w',s,rfl,h1,h2,h3,h4,h5,q]
theorem lg:sQz 3 ["_law_pacts","_law_word","_law_step","_law_old","_law_new"] Vo:=by nofun
theorem K7(B:Bt mg)(F:("_law_used"^^^Vo)) :(1&&&["_law_pacts","_law_word","_law_step"]) (jC K):=by
 refine F.ok lg (λvs H Q E h=>?_) (λcdv A outer s H vs Q E hr h=>?_)
 ·obtain⟨a,t,rs,w,w',s,rfl,_⟩:=h;rfl
 ·obtain⟨a,t,rs,w,w',s,rfl,hR,ok,hw,ht,ha,q⟩:=h
  refine#[_,(zi (zD 3 lg.nd (zm ix_tup (zm ix_list (pv 0) (zm ix_tup (pv 2) zf)) zf))
   (zi (zD 4 lg.nd (zm ix_tup (zm ix_list (pv 0) (zm ix_tup (pv 2) zf)) zf))
   (zi (zU (yn (yT (zm ix_tup (pv 2) zf) (λ_=>rfl)))
    (zQ (zD 3 lg.nd (zm ix_tup (zm ix_list (pv 0) (zm ix_tup (pv 2) zf)) zf))
    (zh (zD 4 lg.nd (zm ix_tup (zm ix_list (pv 0) (zm ix_tup (pv 2) zf)) zf))))
    zw)
   (zh (zt (zC zJ (zC zJ (z6 wb (pv 1) yZ (z9 (zm ix_tup (pv 2) zf))) (pv 4)) (z6 wb (pv 1) (z9 (zC yF (zm ix_tup (pv 2) zf) (zL B.len (pv 3)))) yZ))))))),?_]
  have s16:=ya
  erw[Is]at hR
  obtain⟨_,xs,e,hX,hI⟩:=hR;cases e;have hb:0<=s.1/\s.1<rs.length:=bD λhb=>by rw[yR hb]at ha;cases ha
  obtain⟨p,a1,_,hp⟩:=zbN hI hb.1 hb.2;have gl:=ZV ok s.1.toNat;rw[yA hb]at ha;generalize rs.getD s.1.toNat ([],[])=r at *;refine zj (λσ H'=>H'=H/\σ=[!!a,~~~w,!!t,rp (.str (tx r.1)),rq]) ?_ ?_
  ·rfl'
   exact#[_,ht,_,rfl,_,rfl,_,hX,_,a1,_,rfl,_,hp,rfl]
  rintro σ H1 ⟨rfl,rfl⟩:_;right;refine zj (λσ H'=>H'=H1/\σ=[!!a,~~~w,!!t,rp (.str (tx r.1)),rp (.str (tx r.2))]) ?_ ?_
  ·rfl'
   exact#[_,ht,_,rfl,_,rfl,_,hX,_,a1,_,rfl,_,hp,rfl]
  rintro σ H2 ⟨rfl,rfl⟩:_;right;refine zj (λσ H'=>H'=H2/\σ=[!!a,~~~w,!!t,rp (.str (tx (sdl r s.2.2).1)),rp (.str (tx (sdl r s.2.2).2))]) ?_ ?_
  ·rfl'
   refine#[_,ht,_,rfl,_,rfl,yG (λh=>#[_,ht,_,rfl,_,rfl,_,hX,_,a1,_,rfl,_,hp,_,rfl,_,ht,_,rfl,_,rfl,_,hX,_,a1,_,rfl,_,hp,_,rfl,?_]) λh=>?_]
   ·rw[h];exact#[rfl,rfl]
   ·rw[Bool.not_eq_false]at h;rw[h];exact#[rfl,rfl]
  rintro σ H3 ⟨rfl,rfl⟩:_
  have hol:(sdl r s.2.2).1.length<=100:=by
   cases s.2.2
   ·exact gl.2
   ·exact gl.1
  have hnl:(sdl r s.2.2).2.length<=100:=by
   cases s.2.2
   ·exact gl.1
   ·exact gl.2
  right;generalize sdl r s.2.2=on at *;have hst:zr w s.2.1 on.1=rz:=bD λhst=>by rw[if_neg hst]at ha;cases ha
  rw[if_pos hst]at ha;obtain⟨_,_,h0,h1⟩:=yB hst;have c1:=wv w rq (rp s.2.1);have c2:=wv w (rp (s.2.1 + ↑on.1.length)) rq
  rfl'
  refine#[_,ht,_,rfl,_,rfl,⋯,⋯,_,ht,_,rfl,⋯,_,rfl,⋯,?_,?_]
  ·rw[am];lia
  ·rw[Kf h0];cases ha;exact q
theorem Xe{a p:nP}{xs:List V}{ys zs:List V}(hp:H p=rp (.lst ys))(h:SqT K H a xs):SqT K (upd H p (.lst zs)) a xs:=by
 rcases h with (h | ⟨o,h⟩) | h
 ·exact .inl (.inl (by rw[zp (λe=>by rw[e,hp]at h;cases h)];exact h))
 ·exact .inl (.inr #[o,by rw[zp (λe=>by rw[e,hp]at h;cases h)];exact h])
 ·exact .inr h
theorem WA{w w':()}{s:Stp}(h:yg rs w s=rp w'):0<=s.1/\s.1<rs.length:=bD λhb=>by rw[yR hb]at h;cases h
def YT(K:nO):Sp:=λvs H Q _=>∃(a t:nP) (rs:List zk) (w w':()) (ss:List Stp),vs=[.ref a,.str (tx w),.ref t]/\Is K H (.lst (rs.map dR)) (.ref a)/\ju rs/\w.length<=60/\Is K H (.lst (ss.map dSt)) (.ref t)/\ss.length<=2000/\z7 rs w ss=rp w'/\Q (.str (tx w')) H
theorem JN{a t:nP}{w w':()}(h1:Is K H (.lst (rs.map dR)) (.ref a))(h2:ju rs)(h3:w.length<=60)(h4:Is K H (.lst (ss.map dSt)) (.ref t))(h5:ss.length<=2000)(h6:z7 rs w ss=rp w')(q:Q (.str (tx w')) H):YT K [.ref a,.str (tx w),.ref t] H Q E:=#[a,t,rs,w,w',ss,rfl,h1,h2,h3,h4,h5,h6,q]
theorem Vr{w w':()}(h:z7 rs w ss=rp w'){i:Nat}{s:Stp}(hs:ss[i]? = rp s){w1:()}(h1:z7 rs w (ss.take i)=rp w1):∃w2,yg rs w1 s=rp w2/\z7 rs w (ss.take (i+1))=rp w2:=by
 have e:ss=ss.take (i+1) ++ ss.drop (i+1):=(bO _ _).symm;rw[e,xJ]at h;obtain⟨w2,h2,_⟩:=rX.mp h;refine#[w2,?_,h2];rw[zH hs,xJ,h1]at h2
 erw[z7,bM]at h2
 obtain⟨w3,h3,h4⟩:=rX.mp h2;cases h4;exact h3
theorem mq:sQz 3 ["_law_pacts","_law_word","_law_steps_here","_law_step","_law_old"] Km:=by nofun
theorem zbi(B:Bt mg)(F:("_law_end"^^^Km))(nF:(1<<<"_law_used") ["_law_pacts","_law_word","_law_step"] [] (jC K)):(2&&&["_law_pacts","_law_word","_law_steps_here"]) (YT K):=by
 refine F.ok mq (λvs H Q E h=>?_) (λcdv A outer s H vs Q E hr h=>?_)
 ·obtain⟨a,t,rs,w,w',ss,rfl,_⟩:=h;rfl
 ·obtain⟨a,t,rs,w,w',ss,rfl,hR,ok,hw,hT,hsl,hwk,q⟩:=h
  refine#[_,(zi (yK PassesOwn.never rfl (ye (pv 2)) (zx (i:=3) mq.nd rfl (.inl rfl))
    (zi (zU (PW.pt (ut (zB VH (zm ix_tup (pv 3) zf) zf (zE _)) (ut (zB op_ge' (zm ix_tup (pv 3) zf) (zL B.len (pv 0)) (zE _)) (vY (zB VH (zm ix_tup (pv 3) zf) zf (zE _))))))
     (zh (zt xC))
     zw)
    (zi (zD 4 mq.nd (zm ix_tup (zm ix_list (pv 0) (zm ix_tup (pv 3) zf)) (zC xO zf (vC X6 rfl B.int PySem.Pv.boot_int (za (zm ix_tup (pv 3) zf) ze)))))
    (zi (zU (PW.pt (ut (zB UN (zC yF (zm ix_tup (pv 3) zf) (zL B.len (pv 4))) (zL B.len (pv 1)) (zE _)) (vY (zB Xz (z6 wb (pv 1) (z9 (zm ix_tup (pv 3) zf)) (z9 (zC yF (zm ix_tup (pv 3) zf) (zL B.len (pv 4))))) (pv 4) (zE _)))))
     (zh (zt xC))
     zw)
    (zh (zD 1 mq.nd (cl0 nF hr .nil rfl (za (pv 0) (za (pv 1) (za (pv 3) ze))))))))))
   (zh (zt (pv 1)))),?_]
  have s16:=ya;have hR':=hR;have hT':=hT
  erw[Is]at hR' hT'
  obtain⟨_,xs,e,hX,hI⟩:=hR';cases e;obtain⟨_,ts,e,hTs,hJ⟩:=hT';cases e;have htl:=hJ.len;rw[ac]at htl;refine zj (λσ H'=>H'=H/\∃v3 v4,σ=[!!a,~~~w',!!t,v3,v4]) ?_ ?_
  ·rfl'
   refine#[#[_,hTs],ForL.by (xs:=ts) (λi σ H'=>H'=H/\∃w1 v3 v4,z7 rs w (ss.take i)=rp w1/\w1.length<=60+i * 100/\σ=[!!a,~~~w1,!!t,v3,v4]) #[rfl,w,_,_,rfl,⋯,rfl] (λi σ H' _ h=>by rw[h.1];exact hTs) ?_ ?_]
   ·refine nm4 ?_;rintro i x σ H' hx ⟨rfl,w1,v3,v4,hw1,hl1,rfl⟩:_;obtain⟨s,ps,hsi,rfl,hqs⟩:=vh hJ hx;have hil:=(rG.mp hsi).1;obtain⟨w2,haf,hw2⟩:=Vr hwk hsi hw1;have hl2:=Vx ok haf;have hb:=WA haf;obtain⟨p,a1,_,hp⟩:=zbN hI hb.1 hb.2;have gl:=ZV ok s.1.toNat;have ha:=haf;rw[yA hb]at ha;right;generalize rs.getD s.1.toNat ([],[])=r at *;have hst:zr w1 s.2.1 (sdl r s.2.2).1=rz:=bD λhst=>by rw[if_neg hst]at ha;cases ha
    obtain⟨_,_,h0,h1⟩:=yB hst
    erw[yI,bf,be]
    refine zj (λσ H''=>H''=H'/\σ=[!!a,~~~w1,!!t,!!ps,v4]) ?_ ?_
    ·rfl'
     exact#[_,hqs,_,rfl,_,rfl,yG (λh=>absurd hb.1 ⋯) λ_=>#[_,hqs,_,rfl,_,.inl #[_,hX,rfl],_,rfl,yG (λh=>absurd hb.2 (by have:=hI.len;rw[ac]at this;lia)) λ_=>#[_,hqs,_,rfl,_,rfl,yG (λh=>absurd h0 ⋯) λ_=>trivial]]]
    rintro σ G ⟨rfl,rfl⟩:_;right;refine zj (λσ H''=>H''=G/\σ=[!!a,~~~w1,!!t,!!ps,rp (.str (tx (sdl r s.2.2).1))]) ?_ ?_
    ·rfl'
     refine#[_,hqs,_,rfl,_,rfl,_,hX,_,a1,_,hqs,_,rfl,.inr #[_,rfl,_,rfl,_,hp,?_]];cases s.2.2 <;> rfl
    rintro σ G1 ⟨rfl,rfl⟩:_;right;refine zj (λσ H''=>H''=G1/\σ=[!!a,~~~w1,!!t,!!ps,rp (.str (tx (sdl r s.2.2).1))]) ?_ ?_
    ·rfl'
     have hol:(sdl r s.2.2).1.length<=100:=by
      cases s.2.2
      ·exact gl.2
      ·exact gl.1
     refine#[_,hqs,_,rfl,⋯,_,rfl,⋯,yG (λh=>absurd h1 ⋯) λ_=>#[_,hqs,_,rfl,_,rfl,_,hqs,_,rfl,⋯,_,rfl,⋯,yG (λh=>absurd ?_ h) λ_=>trivial]];have hst':=hst;unfold zr at hst';rw[decide_eq_true_eq]at hst';rw[ZF _ h0 ⋯ ⋯];have e:(s.2.1+((sdl r s.2.2).1.length:Int) - s.2.1).toNat=(sdl r s.2.2).1.length:=⋯;rw[e];exact hst'.2.2
    rintro σ G2 ⟨rfl,rfl⟩:_;right
    rfl'
    refine Vb hR ok ⋯ hqs haf #[rfl,w2,hw2,⋯,rfl]
   ·rintro σ H' ⟨rfl,w1,v3,v4,hw1,hl1,rfl⟩;rw[htl,aH,hwk]at hw1;cases hw1;exact#[rfl,_,_,rfl]
  rintro σ H2 ⟨rfl,v3,v4,rfl⟩:_;right
  rfl'
  exact q
theorem zd6{X:Cx}{k j:Nat}{C:nP}{ps:List nW}{sp:Sp}{e:nZ}{es:List nZ}{t:TA}{pos p:oJ}{x:nW}(hx:XE X E)(D:DMk X.prog X.w X.K X.mg X.base (CXx X.prog X.w) k C ps sp)(hr:Room j X.A)(hg:Gl X x)(hm:X.mg x=rp (.ref C))(ha:PA X (e::es) t)(hdb:(x ==("__debug__" : nW))=rA:=by decide)(he:nM (e::es) X.env=(rA,eval e X.env)::nM es X.env:=by rfl)
  (hpl:(om pos (nM es X.env)).any (·.1)=rA:=by rfl) (hj:k+1<=j:=by decide):PE X (.Call (.Name x p) (e::es) [] pos) (W9 C sp [] E t):=by
 obtain⟨f,fd,M,F,hb⟩:=D.ex;exact Vl M F (hr.mono hj) hg hm hb .nil (Y1 hx) ha hdb he hpl
abbrev zdZ(mg:nW->Option nQ):Prop:=mg "any" = rq
structure TNT(K:nO)(mg:nW->Option nQ)(C:nP):Prop where
 xi:XI K C
 g:mg "NotTurned" = rp (.ref C)
 na:NoAttr K C "number"
theorem vS:sQz 2 ["self","number"] zR:=by nofun
theorem vK{f C:nP}(T:TNT K mg C)(F:Fun K "__init__" "NotTurned.__init__" zR f fd):(1&&&["self","number"]) (vB C "number"):=by
 exists F.ok vS
 ·obtain⟨x,v,rfl,hx,q⟩:=h;refine#[_,(zh (WQ (pv 0) (pv 1) rfl)),?_]
  erw[J7]
  rfl'
  exact#[C,hx,T.xi.toXC,T.na,q]
structure DNT(P:nU)(w:nY)(K:nO)(mg:nW->Option nQ)(base:oa)(C:nP):Prop extends TNT K mg C where
 ini:∃f fd,ak K (.ref C) "__init__" = rp (rp (.ref f))/\bp K (.ref f)=rz/\(1&&&["self","number"]) (vB C "number")/\Binds K fd ["self","number"] []
structure zb2(K:nO)(mg:nW->Option nQ)(CH:nP):Prop where
 cl:Cls K CH
 g:mg "System" = rp (.ref CH)
 no:NoAttr K CH "order"
 nr:NoAttr K CH "rules"
noncomputable def we(k:Nat)(l:())(ns:List Int):List zk->Nat->Option Nat
 | [],_=>rq
 | r::rs,i=>if zF k l ns r.2 r.1=rz then we k l ns rs (i+1)else rp i
theorem Y5{l:()}:∀{ps:List zk} {j i:Nat} {r:zk},(∀(m:Nat) (p:zk),m<i->ps[m]? = rp p->zF k l ns p.2 p.1=rz)->ps[i]? = rp r->zF k l ns r.2 r.1=rA->we k l ns ps j=rp (j+i)
 | [],_,_,_,_,h,_=>by simp at h
 | p::ps,j,0,r,_,h,hl=>by
  cases h;rw[we,hl,if_neg aA];rfl
 | p::ps,j,i+1,r,hb,h,hl=>by
  rw[we,if_pos (hb 0 p (Nat.succ_pos _) rfl),Y5 (i:=i) (λm q hm e=>hb (m+1) q ⋯ e) h hl];congr 1;lia
theorem vX{l:()}:∀{ps:List zk} {j:Nat},(∀(m:Nat) (p:zk),ps[m]? = rp p->zF k l ns p.2 p.1=rz)->we k l ns ps j=rq
 | [],_,_=>rfl
 | p::ps,j,hb=>by
  rw[we,if_pos (hb 0 p rfl)];exact vX λm q e=>hb (m+1) q e
def InL(l:())(ps:List zk):Prop:=∀p ∈ ps,p.1.length<=1000/\p.2.length<=1000/\(∀c ∈ p.1,c ∈ l)/\∀c ∈ p.2,c ∈ l
def uA(K:nO)(CO CR CW CT CH:nP):Sp:=λvs H Q E=>∃(x dx o a:nP) (k:Nat) (l:()) (ns:List Int) (ps:List zk) (xs:List V),vs=[.ref x,.ref o,.ref a]/\H x=rp (.ins CH dx [])/\OrdAt CO CR CW H o k l ns/\OG l ns k/\H a=rp (.lst xs)/\Iss K H (ps.map dR) xs/\InL l ps /\
 (∀i,we k l ns ps 0=rp i->∀H1,Same H H1->∀d H',zdb H1 d "number" (.int (i:Nat)) H'->E (.ref CT) (rp d) H') /\
 (we k l ns ps 0=rq->∀(q:nP) (H':Hp),(∀b o',b≠x->H b=rp o'->H' b=rp o')->H' x=rp (.ins CH dx [("order",.ref o),("rules",.ref q)])->H' q=rp (.lst xs)->H q=rq->Q .non H')
theorem il:sQz 3 ["self","order","rules","number","rule"] xG:=by nofun
theorem qH{f CO CR CW CT CH:nP}(B:Bt mg)(T:DNT P w K mg base CT)(TS:zb2 K mg CH)(DBk:DB P w K mg base CO CR CW)(F:Fun K "__init__" "System.__init__" xG f fd) :(5|||["self","order","rules"]) (uA K CO CR CW CT CH):=by
 obtain⟨fi,fdi,hi,hfn,Fi,Bi⟩:=T.ini
 exists Fun.okX F il,0
 ·obtain⟨x,dx,o,a,k,l,ns,ps,xs,rfl,hx0,ho,hG,hA,hI,hP,q1,q2⟩:=h
  refine#[_,(zi (yK PassesOwn.leaving rfl (wC rfl B.enum (za (pv 2) ze)) (qU (n:=2) rfl (yh (zx (i:=3) il.nd rfl (.inl rfl)) (yh (zx (i:=4) il.nd rfl (.inl rfl)) vI)))
    (zh (zU (yn (yT (zas DBk hr (pv 1) (za (zm ix_tup (pv 4) zf) (za (zm ix_tup (pv 4) zf) ze))) (λ_=>rfl)))
     (zh (Zo hx rfl T.xi.toXC hi hfn Fi (hr.mono ∅) Bi rfl T.g (za (pv 3) ze)))
     zw)))
   (zi (WN (pv 0) (pv 1) rfl)
   (zh (WN (pv 0) (vC wc rfl B.list PySem.Pv.boot_list (za (pv 2) ze)) rfl)))),?_]
  have s16:=ya;refine zj (λσ H'=>Same H H'/\we k l ns ps 0=rq/\∃v3 v4,σ=[!!x,!!o,!!a,v3,v4]) ?_ ?_
  ·ac_rfl;refine#[#[_,SqL.of hA],ForEL.by (xs:=xs) (λi σ H'=>Same H H'/\(∀(j:Nat) (p:zk),j<i->ps[j]? = rp p->zF k l ns p.2 p.1=rz)/\∃v3 v4,σ=[!!x,!!o,!!a,v3,v4]) #[Same.refl _,λj p h=>absurd h (cX j),_,_,rfl] ?_ ?_ ?_]
   ·rintro i σ H' _ ⟨hs,_⟩;exact SqL.of (hs _ _ hA)
   ·rintro i y σ H' p hy ⟨hs,hb,v3,v4,rfl⟩ hpn;obtain⟨r,pr,hri,rfl,hqr⟩:=hI.getR hy;have hm:=hP r (ag hri);have s2:=hs.trans (zd (o:=.tup [.int (i:Nat),.ref pr]) hpn);have ho2:=ho.same s2;have hq2:=zl s2 hqr;obtain⟨C,dy,fs,hf,hoC,hn,_⟩:=ho2.fam;have hn1:fs.lookup ("before" : nW)=rq:=hn _ ∅ ∅;ac_rfl;refine#[_,SqT.of zc,rfl,_,_,rfl,_,_,rfl,rfl,C,hf,dy,fs,hoC,hn1,_,rfl,_,hq2,_,rfl,_,rfl,_,hq2,_,rfl,o,k,l,ns,r.2,r.1,rfl,ho2,hG,hm.2.1,hm.1,hm.2.2.2,hm.2.2.1,λH3 s3=>?_];have s16:=ya;refine#[_,rfl,yG (λe=>#[⋯,Uf (q1 i (by have:=Y5 (j:=0) hb hri e;simpa using this) H3 (s2.trans s3))]) λe=>#[s2.trans s3,λj p' hj hp'=>?_]];by_cases hj':j<i
    ·exact hb j p' hj' hp'
    ·have:j=i:=⋯;rw[this,hri]at hp';cases hp';simpa using e
   ·rintro σ H' ⟨hs,hb,v3,v4,rfl⟩;have hxl:=hI.len;rw[ac]at hxl;exact#[hs,vX λm p e=>hb m p (by have:=(rG.mp e).1;lia) e,v3,v4,rfl]
  rintro σ H1 ⟨s1,hf,v3,v4,rfl⟩:_;right;refine zj (λσ H'=>H'=upd H1 x (.ins CH dx [("order",.ref o)])/\σ=[!!x,!!o,!!a,v3,v4]) ?_ ?_
  ·ac_rfl;exact#[_,_,_,s1 _ _ hx0,TS.cl,TS.no,∅,rfl]
  rintro σ H2 ⟨rfl,rfl⟩:_;right;ac_rfl;have hax:a≠x:=λe=>by rw[e,hx0]at hA;cases hA
  refine#[xs,.inl (SqL.of (by rw[zp hax];exact s1 _ _ hA)),λq hq=>?_];have hqx:q≠x:=λe=>by rw[e,zc]at hq;cases hq
  rw[zp hqx]at hq
  have hqH:H q=rq:=by
   cases e:H q with
   | none=>rfl
   | some o'=>rw[s1 _ _ e]at hq;cases hq
  refine#[CH,dx,_,by rw[zp hqx.symm,zc],TS.cl,TS.nr,by show 1<1000;decide,q2 hf q _ (λb o' hb e=>?_) zc (by rw[zp hqx,zc]) hqH];rw[zp hb,zp (λz=>by rw[z,hqH]at e;cases e),zp hb];exact s1 _ _ e
def UZ(K:nO)(CH:nP)(H:Hp)(y o q:nP)(ps:List zk):Prop:=∃dx xs,H y=rp (.ins CH dx [("order",.ref o),("rules",.ref q)])/\H q=rp (.lst xs)/\Iss K H (ps.map dR) xs
noncomputable def y3(l m:())(k:Nat):Bool:=decide ((l.drop k).take m.length=m.take (l.length - k))
noncomputable def lf(rs:List zk)(i:Nat):():=(rs.getD i ([],[])).1
theorem vo{i:Nat}{r:zk}(h:rs[i]? = rp r):lf rs i=r.1:=by unfold lf;rw[aa,h];rfl
noncomputable def k8(rs:List zk)(i j n:Nat):List N3:=((aQ n).filter λk=>(decide (i≠j) || decide (k≠0)) && y3 (lf rs i) (lf rs j) k).map λk=>(i,j,k)
noncomputable def ovI(rs:List zk)(i m:Nat):List N3:=(aQ m).flatMap λj=>k8 rs i j (lf rs i).length
noncomputable def ovA(rs:List zk)(m:Nat):List N3:=(aQ m).flatMap λi=>ovI rs i rs.length
theorem qf(rs:List zk)(i j n:Nat):k8 rs i j (n+1)=k8 rs i j n ++ (if ((decide (i≠j) || decide (n≠0)) && y3 (lf rs i) (lf rs j) n)=rz then [(i,j,n)]else []):=by
 unfold k8;rw[cf,cz,aq];congr 1
 erw[eI,cY]
 split <;> rfl
theorem uz(rs:List zk)(i m:Nat):ovI rs i (m+1)=ovI rs i m ++ k8 rs i m (lf rs i).length:=by
 unfold ovI;rw[cf,cN];simp
theorem jJ(rs:List zk)(m:Nat):ovA rs (m+1)=ovA rs m ++ ovI rs m rs.length:=by
 unfold ovA;rw[cf,cN];simp
theorem uB(rs:List zk)(i j n:Nat):(k8 rs i j n).length<=n:=by
 unfold k8;rw[ac];have:=cE (λk=>(decide (i≠j) || decide (k≠0)) && y3 (lf rs i) (lf rs j) k) (aQ n);rw[cD]at this;exact this
theorem zbS(h:ju rs)(i:Nat):(lf rs i).length<=100:=by
 cases e:rs[i]? with
 | none=>unfold lf;rw[aa,e];exact aB _
 | some r=>rw[vo e];exact (h.2 r (ag e)).1
theorem ZH(h:ju rs)(i m:Nat):(ovI rs i m).length<=m * 100:=by
 induction m with
 | zero=>exact aB _
 | succ m ih =>
  rw[uz,am];have h1:=uB rs i m (lf rs i).length;have h2:=zbS h i;lia
theorem X3(h:ju rs)(m:Nat):(ovA rs m).length<=m * 3000:=by
 induction m with
 | zero=>exact aB _
 | succ m ih =>
  rw[jJ,am];have h1:=ZH h m rs.length;have h2:=h.1;lia
def ji:Sp:=λvs H Q _=>∃(l m:()) (k:Nat),vs=[.str (tx l),.str (tx m),.int (k:Nat)]/\l.length<=1000/\m.length<=1000/\k<=l.length/\Q (.bl (y3 l m k)) H
theorem Zm{l m:()}(h1:l.length<=1000)(h2:m.length<=1000)(h3:k<=l.length)(h:Q (.bl (y3 l m k)) H):ji [.str (tx l),.str (tx m),.int (k:Nat)] H Q E:=#[l,m,k,rfl,h1,h2,h3,h]
theorem Qd:sQz 3 ["one","other","place"] Z0:=by nofun
theorem UK(B:Bt mg)(F:("agree"^^^Z0)) :(1&&&["one","other","place"]) ji:=by
 exists F.ok Qd
 ·obtain⟨l,m,k,rfl,hl,hm,hk,q⟩:=h;refine#[_,(zh (zt (xZ wU (z6 wb (pv 0) (z9 (pv 2)) (z9 (zC yF (pv 2) (zL B.len (pv 1))))) (z6 wb (pv 1) yZ (z9 (zC xO (zL B.len (pv 0)) (pv 2)))) (zE _)))),?_];have s16:=ya
  rfl'
  refine#[⋯,⋯,⋯,⋯,?_];rw[zbC _ ⋯ ⋯,je _ ⋯];have e1:((k:Int)+(m.length:Int) - (k:Int)).toNat=m.length:=⋯;have e2:((l.length:Int) - (k:Int)).toNat=l.length - k:=⋯;rw[e1,e2];exact q
def wT(K:nO):Sp:=λvs H Q _=>∃(a:nP) (rs:List zk),vs=[.ref a]/\Is K H (.lst (rs.map dR)) (.ref a)/\ju rs/\∀D H',H D=rq->Same H H'->LsA K H' D ((ovA rs rs.length).map d3)->Q (.ref D) H'
theorem kW{a:nP}(h1:Is K H (.lst (rs.map dR)) (.ref a))(h2:ju rs)(h:∀D H',H D=rq->Same H H'->LsA K H' D ((ovA rs rs.length).map d3)->Q (.ref D) H'):wT K [.ref a] H Q E:=#[a,rs,rfl,h1,h2,h]
theorem gw:sQz 1 ["rules","found","i","one","j","other","place"] vQ:=by nofun
theorem Yb(B:Bt mg)(F:("overlaps"^^^vQ))(nz:(1<<<"agree") ["one","other","place"] [] ji):(2&&&["rules"]) (wT K):=by
 exists F.ok gw
 ·obtain⟨a,rs,rfl,hR,ok,q⟩:=h
  refine#[_,(zQ (zD 1 gw.nd (xz ze))
   (zQ (yK PassesOwn.never rfl (wC rfl B.enum (za (pv 0) ze)) (qU (n:=2) rfl (yh (zx (i:=2) gw.nd rfl (.inl rfl)) (yh (zx (i:=3) gw.nd rfl (.inl rfl)) vI)))
    (zh (yK PassesOwn.never rfl (wC rfl B.enum (za (pv 0) ze)) (qU (n:=2) rfl (yh (zx (i:=4) gw.nd rfl (.inl rfl)) (yh (zx (i:=5) gw.nd rfl (.inl rfl)) vI)))
     (zh (yK PassesOwn.never rfl (VA rfl B.range (za (uF (zB wU (pv 2) (pv 4) (zE _)) zf zf) (za (zL B.len (zm ix_tup (pv 3) zf)) ze))) (zx (i:=6) gw.nd rfl (.inl rfl))
      (zh (zU (yT (cl0 nz hr .nil rfl (za (zm ix_tup (pv 3) zf) (za (zm ix_tup (pv 5) zf) (za (pv 6) ze)))) (λ_=>rfl))
       (zh (wm (vG bx bF bG yS (pv 1) (za (zN (za (pv 2) (za (pv 4) (za (pv 6) ze)))) ze))))
       zw)))))))
   (zh (zt (pv 1))))),?_]
  have s16:=ya
  rfl'
  erw[Is]at hR
  obtain⟨_,xs,e,hX,hI⟩:=hR;cases e;refine#[⋯,λD hD=>#[#[_,(zd hD).seq hX],ForEL.by (xs:=xs) (λi σ H'=>∃v2 v3 v4 v5 v6,σ=[!!a,!!D,v2,v3,v4,v5,v6]/\Same H H'/\LsA K H' D ((ovA rs i).map d3)) #[rq,rq,rq,rq,rq,rfl,zd hD,LsA.nil] ?_ ?_ ?_]]
  ·rintro i σ H' hi ⟨v2,v3,v4,v5,v6,rfl,hs,_⟩;exact hs.seq hX
  ·rintro i x σ H' p hx ⟨v2,v3,v4,v5,v6,rfl,hs,hL⟩ hp;obtain⟨r,pr,hri,rfl,hqr⟩:=hI.getR hx;have er:=vo hri;have hr1:=(ok.2 r (ag hri)).1
   rfl'
   refine#[_,SqT.of zc,rfl,_,_,rfl,_,_,rfl,rfl,#[_,((hs.trans (zd hp)).seq hX)],ForEL.by (xs:=xs) (λj σ H''=>∃v4 v5 v6,σ=[!!a,!!D,-~~~i,!!pr,v4,v5,v6]/\Same H H''/\LsA K H'' D ((ovA rs i ++ ovI rs i j).map d3)) #[v4,v5,v6,rfl,hs.trans (zd hp),by rw[show ovI rs i 0=[]from rfl,aX];exact hL.same (zd hp)] ?_ ?_ ?_]
   ·rintro j σ H2 hj ⟨v4,v5,v6,rfl,hs2,_⟩;exact hs2.seq hX
   ·rintro j y σ H2 p2 hy ⟨v4,v5,v6,rfl,hs2,hL2⟩ hp2;obtain⟨r2,pr2,hri2,rfl,hqr2⟩:=hI.getR hy;have er2:=vo hri2;have hr2:=(ok.2 r2 (ag hri2)).1;have hs3:=hs2.trans (zd (o:=.tup [.int (j:Nat),.ref pr2]) hp2);have hq1:=zl hs3 hqr;have el:(tx r.1).length=r.1.length:=zS _
    rfl'
    refine#[_,SqT.of zc,rfl,_,_,rfl,_,_,rfl,rfl,rfl,yG (λh=>?_) λh=>?_]
    ·have hij:i=j:=by injection h with h;lia
     have z0:k8 rs i j (1+0)=[]:=by
      subst hij;rw[show 1+0=0+1 from rfl,qf];simp [k8]
     have zn:k8 rs i j (1+((r.1.length:Int) - 1).toNat)=k8 rs i j r.1.length:=by
      by_cases h0:r.1.length=0
      ·rw[h0];exact z0
      ·rw[show 1+((r.1.length:Int) - 1).toNat=r.1.length by lia]
     refine#[_,hq1,_,rfl,_,#[⋯,rfl],∅,∅,⋯,⋯,ForR.by (λt σ H3=>∃v6,σ=[!!a,!!D,-~~~i,!!pr,-~~~j,!!pr2,v6]/\Same H H3/\LsA K H3 D ((ovA rs i ++ ovI rs i j ++ k8 rs i j (1+t)).map d3)) #[v6,rfl,hs3,(by rw[z0,aX];exact hL2.same (zd hp2))] ?_ ?_]
     ·refine nm3 ?_;rintro n σ H3 hn ⟨v6,rfl,hs4,hL4⟩:_;have hn':1+n<r.1.length:=⋯;have en:((1:Int)+(n:Int))=((1+n:Nat):Int):=⋯;right;dsimp only;rw[en];obtain⟨ys,hY,hJ⟩:=hL4;have hlen:=hJ.len;have l1:=X3 ok i;have l2:=ZH ok i j;have l3:=uB rs i j (1+n);have i1:=(rG.mp hri).1;have i2:=(rG.mp hri2).1;have i3:=ok.1
      erw[ac,am]at hlen
      have es:=qf rs i j (1+n);have etest:(decide (i≠j) || decide (1+n≠0))=rz:=by rw[show decide (1+n≠0)=rz from decide_eq_true ⋯,dD]
      rw[etest,Bool.true_and,er,er2]at es
      rfl'
      refine#[_,zl hs4 hqr,_,rfl,_,zl hs4 hqr2,_,rfl,Zm ⋯ ⋯ ⋯ #[_,rfl,yG (λhb=>#[.inl #[_,SqL.of hY],⋯,λt ht=>#[_,zd ht _ _ hY,⋯,zy (hs4.trans (zd ht)) hD,?_]]) λhb=>#[hs4,ys,hY,?_]]]
      ·rw[hb,if_pos rfl]at es;rw[show 1+(n+1)=1+n+1 by lia,es,<- aR,aq];exact LsA.pushT hY hJ ht zbP (Y3 _) (by erw[zV,xh,and_self])
      ·have hb':y3 r.1 r2.1 (1+n)=rA:=by simpa using hb
       rw[hb',if_neg aA,aX]at es;rw[show 1+(n+1)=1+n+1 by lia,es];exact hJ
     ·rintro σ H3 ⟨v6,rfl,hs4,hL4⟩;refine#[#[_,_,_,rfl],hs4,?_];rw[uz,er,<- aR];rw[el,zn]at hL4;exact hL4
    ·have hij:i≠j:=λz=>h (by rw[z]);refine#[_,hq1,_,rfl,_,#[⋯,rfl],∅,∅,⋯,⋯,ForR.by (λt σ H3=>∃v6,σ=[!!a,!!D,-~~~i,!!pr,-~~~j,!!pr2,v6]/\Same H H3/\LsA K H3 D ((ovA rs i ++ ovI rs i j ++ k8 rs i j (0+t)).map d3)) #[v6,rfl,hs3,(by rw[show k8 rs i j (0+0)=[]from rfl,aX];exact hL2.same (zd hp2))] ?_ ?_]
     ·refine nm3 ?_;rintro n σ H3 hn ⟨v6,rfl,hs4,hL4⟩:_;have hn':0+n<r.1.length:=⋯;have en:((0:Int)+(n:Int))=((0+n:Nat):Int):=⋯;right;dsimp only;rw[en];obtain⟨ys,hY,hJ⟩:=hL4;have hlen:=hJ.len;have l1:=X3 ok i;have l2:=ZH ok i j;have l3:=uB rs i j (0+n);have i1:=(rG.mp hri).1;have i2:=(rG.mp hri2).1;have i3:=ok.1
      erw[ac,am]at hlen
      have es:=qf rs i j (0+n);have etest:(decide (i≠j) || decide (0+n≠0))=rz:=by rw[show decide (i≠j)=rz from decide_eq_true hij,Bool.true_or]
      rw[etest,Bool.true_and,er,er2]at es
      rfl'
      refine#[_,zl hs4 hqr,_,rfl,_,zl hs4 hqr2,_,rfl,Zm ⋯ ⋯ ⋯ #[_,rfl,yG (λhb=>#[.inl #[_,SqL.of hY],⋯,λt ht=>#[_,zd ht _ _ hY,⋯,zy (hs4.trans (zd ht)) hD,?_]]) λhb=>#[hs4,ys,hY,?_]]]
      ·rw[hb,if_pos rfl]at es;rw[show 0+(n+1)=0+n+1 by lia,es,<- aR,aq];exact LsA.pushT hY hJ ht zbP (Y3 _) (by erw[zV,xh,and_self])
      ·have hb':y3 r.1 r2.1 (0+n)=rA:=by simpa using hb
       rw[hb',if_neg aA,aX]at es;rw[show 0+(n+1)=0+n+1 by lia,es];exact hJ
     ·rintro σ H3 ⟨v6,rfl,hs4,hL4⟩;refine#[#[_,_,_,rfl],hs4,?_];rw[uz,er,<- aR];rw[el,show 0+((r.1.length:Int) - 0).toNat=r.1.length by lia]at hL4;exact hL4
   ·rintro σ H2 ⟨v4,v5,v6,rfl,hs2,hL2⟩;have e:=hI.len;rw[ac]at e;rw[e,<- jJ]at hL2;exact#[#[_,_,_,_,_,rfl],hs2,hL2]
  ·rintro σ H' ⟨v2,v3,v4,v5,v6,rfl,hs,hL⟩;have e:=hI.len;rw[ac]at e;rw[e]at hL
   rfl'
   exact q D H' hD hs hL
noncomputable def z8(l m:())(k:Nat):():=l ++ m.drop (l.length - k)
theorem wZ(l m:())(k:Nat)(hk:k<=l.length):(z8 l m k).length=max l.length (k+m.length):=by
 unfold z8;rw[am,aZ];lia
theorem jb(l m:())(k:Nat):zr (z8 l m k) 0 l=rz:=by
  unfold zr z8;refine decide_eq_true #[∅,by rw[am];lia,?_];rw[show (0:Int).toNat=0 from rfl,dU,bi (ao _),aH]
theorem u8{l m:()}(hk:k<=l.length)(h:y3 l m k=rz):zr (z8 l m k) (k:Nat) m=rz:=by
 unfold y3 at h;rw[decide_eq_true_eq]at h;have hl:=wZ l m k hk;unfold zr;refine decide_eq_true #[⋯,⋯,?_];rw[show ((k:Nat):Int).toNat=k from rfl];unfold z8;rw[bV hk];by_cases hm:m.length<=l.length - k
 ·rw[bi (by rw[aZ];lia),h,bv hm]
 ·rw[bv (by rw[aZ];lia)]at h;rw[h,bO,aH]
theorem UV{i j n:Nat}{t:N3}(h:t ∈ k8 rs i j n):t.1=i/\t.2.1=j/\t.2.2<n/\y3 (lf rs i) (lf rs j) t.2.2=rz:=by
 unfold k8 at h;obtain⟨k,hk,rfl⟩:=rF.mp h;rw[List.mem_filter,eV,ba]at hk;exact#[rfl,rfl,hk.1,hk.2.2]
theorem uY{t:N3}(h:t ∈ ovA rs rs.length):t.1<rs.length/\t.2.1<rs.length/\t.2.2<(lf rs t.1).length/\y3 (lf rs t.1) (lf rs t.2.1) t.2.2=rz:=by
 unfold ovA ovI at h;obtain⟨i,hi,h⟩:=so.mp h;obtain⟨j,hj,h⟩:=so.mp h;obtain⟨e1,e2,e3,e4⟩:=UV h;rw[e1,e2];exact#[rM.mp hi,rM.mp hj,e3,e4]
def jY(K:nO):Sp:=λvs H Q _=>∃(a t:nP) (rs:List zk) (i j k:Nat) (r r2:zk),vs=[.ref a,.ref t]/\Is K H (.lst (rs.map dR)) (.ref a)/\SqT K H t [.int (i:Nat),.int (j:Nat),.int (k:Nat)]/\ju rs/\rs[i]? = rp r/\rs[j]? = rp r2/\k<=r.1.length/\y3 r.1 r2.1 k=rz /\
 ∀p H',H p=rq->Same H H'->H' p=rp (.tup [.str (tx (z8 r.1 r2.1 k)),.str (tx (yE (z8 r.1 r2.1 k) 0 r.1 r.2)),.str (tx (yE (z8 r.1 r2.1 k) (k:Nat) r2.1 r2.2))])->Q (.ref p) H'
theorem Y2{a t:nP}{i j k:Nat}{r r2:zk}(h1:Is K H (.lst (rs.map dR)) (.ref a))(h2:SqT K H t [.int (i:Nat),.int (j:Nat),.int (k:Nat)])(h3:ju rs)(h4:rs[i]? = rp r)(h5:rs[j]? = rp r2)(h6:k<=r.1.length)(h7:y3 r.1 r2.1 k=rz)
 (h:∀p H',H p=rq->Same H H'->H' p=rp (.tup [.str (tx (z8 r.1 r2.1 k)),.str (tx (yE (z8 r.1 r2.1 k) 0 r.1 r.2)),.str (tx (yE (z8 r.1 r2.1 k) (k:Nat) r2.1 r2.2))])->Q (.ref p) H'):jY K [.ref a,.ref t] H Q E:=#[a,t,rs,i,j,k,r,r2,rfl,h1,h2,h3,h4,h5,h6,h7,h]
theorem WC{CU:nP}{l o n:()}{k:Int}(h1:l.length<=10000)(h2:o.length<=10000)(h3:n.length<=10000)(hs:zr l k o=rz)(q:Q (.str (tx (yE l k o n))) H):YD CU [.str (tx l),.int k,.str (tx o),.str (tx n)] H Q E:=#[l,o,n,k,rfl,h1,h2,h3,λ_=>q,λh=>by rw[hs]at h;cases h]
theorem lh:sQz 2 ["rules","overlap","one","other","place","word"] VR:=by nofun
theorem J4{f CU:nP}(B:Bt mg)(F:("peak"^^^VR))(mL:(3>>>"put") ["word","place","old","new"] [] (YD CU)):(4&&&["rules","overlap"]) (jY K):=by
 exists F.ok lh
 ·obtain⟨a,t,rs,i,j,k,r,r2,rfl,hR,ht,ok,hr1,hr2,hk,hag,q⟩:=h
  refine#[_,(zi (zD 2 lh.nd (zm ix_list (pv 0) (zm ix_tup (pv 1) zf)))
   (zi (zD 3 lh.nd (zm ix_list (pv 0) (zm ix_tup (pv 1) zf)))
   (zi (zD 4 lh.nd (zm ix_tup (pv 1) zf))
   (zi (zD 5 lh.nd (zC zJ (zm ix_tup (pv 2) zf) (z6 zaA (zm ix_tup (pv 3) zf) (z9 (zC xO (zL B.len (zm ix_tup (pv 2) zf)) (pv 4))) yZ)))
   (zh (zt (zN (za (pv 5) (za (clP xe0 mL hr .nil rfl (za (pv 5) (za zf (za (zm ix_tup (pv 2) zf) (za (zm ix_tup (pv 2) zf) ze))))) (za (clP xe0 mL hr .nil rfl (za (pv 5) (za (pv 4) (za (zm ix_tup (pv 3) zf) (za (zm ix_tup (pv 3) zf) ze))))) ze)))))))))),?_]
  have s16:=ya
  erw[Is]at hR
  obtain⟨_,xs,e,hX,hI⟩:=hR;cases e;obtain⟨p1,a1,q1⟩:=zde hI hr1;obtain⟨p2,a2,q2⟩:=zde hI hr2;have b1:=ok.2 r (ag hr1);have b2:=ok.2 r2 (ag hr2);refine zj (λσ H'=>H'=H/\σ=[!!a,!!t,!!p1,rq,rq,rq]) ?_ ?_
  ·rfl'
   exact#[_,ht,_,rfl,_,rfl,_,hX,a1]
  rintro σ H1 ⟨rfl,rfl⟩:_;right;refine zj (λσ H'=>H'=H1/\σ=[!!a,!!t,!!p1,!!p2,rq,rq]) ?_ ?_
  ·rfl'
   exact#[_,ht,_,rfl,_,rfl,_,hX,a2]
  rintro σ H2 ⟨rfl,rfl⟩:_;right;refine zj (λσ H'=>H'=H2/\σ=[!!a,!!t,!!p1,!!p2,-~~~k,rq]) ?_ ?_
  ·rfl'
   exact#[_,ht,rfl]
  rintro σ H3 ⟨rfl,rfl⟩:_;right;refine zj (λσ H'=>H'=H3/\σ=[!!a,!!t,!!p1,!!p2,-~~~k,rp (.str (tx (z8 r.1 r2.1 k)))]) ?_ ?_
  ·rfl'
   refine#[_,q1,_,rfl,_,q2,_,rfl,_,q1,_,rfl,_,#[by rw[zS];lia,rfl],#[by rw[zS];lia,_,rfl,_,rfl,?_,rfl,?_]]
   ·erw[zS,ZB]
    have:=wv r2.1 (rp ((r.1.length:Int) - (k:Int))) rq;lia
   ·rw[zS,ZB,xW,vd _ ⋯,show ((r.1.length:Int) - (k:Int)).toNat=r.1.length - k by lia];rfl
  rintro σ H4 ⟨rfl,rfl⟩:_;have hw:=wZ r.1 r2.1 k hk;right
  rfl'
  exact#[_,q1,_,rfl,_,q1,_,rfl,WC ⋯ ⋯ ⋯ (jb _ _ _) #[_,q2,_,rfl,_,q2,_,rfl,WC ⋯ ⋯ ⋯ (u8 hk hag) #[⋯,λp hp=>q p _ hp (zd hp) zc]]]
def FmOk(ps:List zk)(most:Int)(m:nW->Option V):Prop:=∀k v,m k=rp v->∃(w:()) (J:Nat),k=tx w/\v=.str (tx (wAt ps w J))/\Xu ps w J/\zA (wAt ps w J) ps=rq/\(J:Int)<=most
theorem FmOk.get{most:Int}{m:nW->Option V}(h:FmOk ps most m){w:()}{v:V}(e:m (tx w)=rp v){J:Nat}(hl:Xu ps w J)(hf:zA (wAt ps w J) ps=rq):v=.str (tx (wAt ps w J)):=by
 obtain⟨w',J',e1,e2,e3,e4,_⟩:=h _ _ e;have e5:=qR e1;subst e5;rw[e2,YN e3 e4 hl hf]
theorem FmOk.put{most:Int}{m:nW->Option V}(h:FmOk ps most m){w:()}{J:Nat}(hl:Xu ps w J)(hf:zA (wAt ps w J) ps=rq)(hJ:(J:Int)<=most):FmOk ps most (λx=>if x=tx w then rp (.str (tx (wAt ps w J)))else m x):=λk v e=>by
 by_cases hk:k=tx w
 ·erw[hk,if_true]at e
  cases e;exact#[w,J,hk,rfl,hl,hf,hJ]
 ·erw[hk,if_false]at e
  exact h k v e
def ZC(P:nU)(w:nY)(K:nO)(CF:nP):Sp:=λvs H Q E=>∃(a F:nP) (l:()) (ps:List zk) (m:Int) (J n:Nat) (mp:nW->Option V),vs=[.ref a,.str (tx l),.int m,.ref F]/\LsA K H a (ps.map dR)/\NeL ps/\ps.length<=100/\(∀p ∈ ps,p.1.length<=1000/\p.2.length<=1000)/\Rd ps l J/\H F=rp (qD P w F mp n)/\FmOk ps m mp/\n<=10000 /\
 ((zA (wAt ps l J) ps=rq/\(J:Int)<=m/\∀(mp':nW->Option V) (n':Nat) (H':Hp),SamT F H H'->H' F=rp (qD P w F mp' n')->FmOk ps m mp'->n'<=n+1->Q (.str (tx (wAt ps l J))) H') \/
  (zA (wAt ps l J) ps≠rq/\(J:Int)=m/\∀H',Same H H'->E (.ref CF) rq H'))
theorem XM:sQz 4 ["rules","word","most","forms"] uR:=by nofun
theorem Xk{f CF:nP}{iL:pX}(B:Bt mg)(F:("form_of"^^^uR))(mm:(4>>>"gone") ["rules","word","most"] [] (wd K CF))(DD_gone:(4>>>"gone") ["rules","word","most"] [.int 4000 iL] (wd K CF)):(5|||["rules","word","most","forms"]) (ZC P w K CF):=by
 exists Fun.okX F XM,0
 ·obtain⟨a,F0,l,ps,m,J,n,mp,rfl,hA,hN,hpl,hP,hR,hF,hM,hn,hq⟩:=h
  refine#[_,(zi (zU (zB UD (pv 1) (pv 3) (by with_unfolding_all rfl))
    (zh (zbG (zm ix_tup (clP hx mm hr .nil rfl (za (pv 0) (za (pv 1) (za (pv 2) ze)))) zf) (zaP (pv 3) (pv 1) U0 (by intro _;rfl))))
    zw)
   (zh (zt (zm JJ (pv 3) (pv 1))))),?_]
  have s16:=ya;have s16:=ya;refine zj (λσ H'=>SamT F0 H H'/\zA (wAt ps l J) ps=rq/\(J:Int)<=m/\(∃(mp':nW->Option V) (n':Nat),H' F0=rp (qD P w F0 mp' n')/\FmOk ps m mp'/\n'<=n+1/\mp' (tx l)=rp (.str (tx (wAt ps l J))))/\σ=[!!a,~~~l,~~~!m,!!F0]) ?_ ?_
  ·rfl'
   refine#[F0,mp,n,tx l,rfl,rfl,hF,_,rfl,yG (λhnone=>#[a,l,ps,m,J,rfl,hA,hN,hpl,hP,hR,?_]) λhsome=>?_]
   ·rcases hq with ⟨hf,hJ,_⟩ | h
    ·refine .inl #[hf,hJ,λp S H' s' hp _ _=>#[p,rfl,_,SqT.of hp,_,rfl,?_]]
     erw[zdH]
     rfl'
     exact#[F0,mp,n,tx l,rfl,rfl,s' _ _ hF,⋯,λb o hb e=>by rw[zp hb];exact s' _ _ e,hf,hJ,_,_,zc,hM.put hR.live hf hJ,ao _,if_pos rfl]
    ·exact .inr h
   ·cases hv:mp (tx l)with
    | none=>rw[hv]at hsome;exact absurd rfl hsome
    | some v =>
     obtain⟨w',J',e1,e2,e3,e4,e5⟩:=hM _ _ hv;have e6:=qR e1;subst e6;rcases hq with ⟨hf,hJ,_⟩ | ⟨hf,hJ,_⟩
     ·exact#[λb o _ e=>e,hf,hJ,mp,n,hF,hM,⋯,by rw[hM.get hv hR.live hf]at hv;exact hv]
     ·exfalso;rcases eh J' J with h | h
      ·exact hR.live J' h e4
      ·have:J'=J:=⋯;subst this;exact hf e4
  rintro σ H1 ⟨s1,hf,hJ,⟨mp',n',h1,h2,h3,h4⟩,rfl⟩:_;right
  rfl'
  refine#[F0,mp',n',tx l,_,rfl,rfl,h1,h4,?_];rcases hq with ⟨_,_,q⟩ | ⟨h,_⟩
  ·exact q mp' n' H1 s1 h1 h2 h3
  ·exact absurd hf h
noncomputable def pkA(ps:List zk)(t:N3):():=yE (z8 (lf ps t.1) (lf ps t.2.1) t.2.2) 0 (lf ps t.1) (ps.getD t.1 ([],[])).2
noncomputable def pkB(ps:List zk)(t:N3):():=yE (z8 (lf ps t.1) (lf ps t.2.1) t.2.2) (t.2.2:Nat) (lf ps t.2.1) (ps.getD t.2.1 ([],[])).2
inductive zan(ps:List zk)(m:Int)(l:()):Option Nat->Prop where
 | yes {J:Nat} (h:Rd ps l J) (h1:zA (wAt ps l J) ps=rq) (h2:(J:Int)<=m):zan ps m l (rp J)
 | no {J:Nat} (h:Rd ps l J) (h1:zA (wAt ps l J) ps≠rq) (h2:(J:Int)=m):zan ps m l rq
def jV(P:nU)(w:nY)(K:nO)(CF:nP):Sp:=λvs H Q E=>∃(a t F:nP) (ps:List zk) (tr:N3) (m:Int) (n:Nat) (mp:nW->Option V) (g1 g2:Option Nat),vs=[.ref a,.ref t,.int m,.ref F]/\LsA K H a (ps.map dR)/\NeL ps/\ju ps/\SqT K H t [.int (tr.1:Nat),.int (tr.2.1:Nat),.int (tr.2.2:Nat)]/\tr ∈ ovA ps ps.length/\H F=rp (qD P w F mp n)/\FmOk ps m mp/\n<=9000/\zan ps m (pkA ps tr) g1/\zan ps m (pkB ps tr) g2 /\
 (∀(J1 J2:Nat) (mp':nW->Option V) (n':Nat) (H':Hp),g1=rp J1->g2=rp J2->SamT F H H'->H' F=rp (qD P w F mp' n')->FmOk ps m mp'->n'<=n+2->Q (.bl (decide (wAt ps (pkA ps tr) J1=wAt ps (pkB ps tr) J2))) H') /\
 ((g1=rq\/g2=rq)->∀H',SamT F H H'->E (.ref CF) rq H')
theorem Yl{P:nU}{w:nY}{CF a F:nP}{l:()}{m:Int}{n:Nat}{mp:nW->Option V}{g:Option Nat}(hA:LsA K H a (ps.map dR))(hN:NeL ps)(hok:ju ps)(hF:H F=rp (qD P w F mp n))(hM:FmOk ps m mp)(hn:n<=10000)(hg:zan ps m l g)
  (h1:∀(J:Nat) (mp':nW->Option V) (n':Nat) (H':Hp),g=rp J->SamT F H H'->H' F=rp (qD P w F mp' n')->FmOk ps m mp'->n'<=n+1->Q (.str (tx (wAt ps l J))) H') (h2:g=rq->∀H',Same H H'->E (.ref CF) rq H'):ZC P w K CF [.ref a,.str (tx l),.int m,.ref F] H Q E:=by
 have hP:∀p ∈ ps,p.1.length<=1000/\p.2.length<=1000:=λp hp=>by have:=hok.2 p hp;lia
 have hl:ps.length<=100:=by have:=hok.1;lia
 cases hg with
 | yes h e1 e2=>exact#[a,F,l,ps,m,_,n,mp,rfl,hA,hN,hl,hP,h,hF,hM,hn,.inl #[e1,e2,λmp' n' H' a1 a2 a3 a4=>h1 _ mp' n' H' rfl a1 a2 a3 a4]]
 | no h e1 e2=>exact#[a,F,l,ps,m,_,n,mp,rfl,hA,hN,hl,hP,h,hF,hM,hn,.inr #[e1,e2,h2 rfl]]
theorem qA{F t:nP}{H H':Hp}{P:nU}{w:nY}{mp:nW->Option V}{n:Nat}{xs:List V}(s:SamT F H H')(hF:H F=rp (qD P w F mp n))(h:SqT K H t xs):SqT K H' t xs:=by
 rcases h with (h | ⟨o,h⟩) | h
 ·exact .inl (.inl (s _ _ (λz=>by rw[z,hF]at h;cases h) h))
 ·exact .inl (.inr #[o,s _ _ (λz=>by rw[z,hF]at h;cases h) h])
 ·exact .inr h
theorem YZ{F a:nP}{H H':Hp}{P:nU}{w:nY}{mp:nW->Option V}{n:Nat}(s:SamT F H H')(hF:H F=rp (qD P w F mp n))(h:LsA K H a (ps.map dR)):LsA K H' a (ps.map dR):=by
 obtain⟨xs,h1,h2⟩:=h;refine#[xs,s _ _ (λz=>by rw[z,hF]at h1;cases h1) h1,?_]
 have key:∀(qs:List zk) (vs:List V),Iss K H (qs.map dR) vs->Iss K H' (qs.map dR) vs:=by
  intro qs
  induction qs with
  | nil=>intro vs h;erw[aw,Iss]at h ⊢;exact h
  | cons q qs ih =>
   intro vs h
   erw[aj,Iss]at h ⊢
   obtain⟨v,r,e,h3,h4⟩:=h;obtain⟨p,rfl,h5⟩:=za9 h3;exact#[_,r,e,wI (qA s hF h5),ih r h4]
 exact key ps xs h2
theorem iU:sQz 4 ["rules","overlap","most","forms","sides","one","other"] jo:=by nofun
theorem VO{f CF:nP}(B:Bt mg)(F:("is_met"^^^jo))(mS:(4<<<"peak") ["rules","overlap"] [] (jY K))(mF:(5>>>"form_of") ["rules","word","most","forms"] [] (ZC P w K CF)):(6|||["rules","overlap","most","forms"]) (jV P w K CF):=by
 exists Fun.okX F iU,0
 ·obtain⟨a,t,F0,ps,tr,m,n,mp,g1,g2,rfl,hA,hN,hok,ht,htr,hF,hM,hn,hg1,hg2,q1,q2⟩:=h
  refine#[_,(zi (zD 4 iU.nd (cl0 mS hr .nil rfl (za (pv 0) (za (pv 1) ze))))
   (zi (zD 5 iU.nd (clP hx mF hr .nil rfl (za (pv 0) (za (zm ix_tup (pv 4) zf) (za (pv 2) (za (pv 3) ze))))))
   (zi (zD 6 iU.nd (clP hx mF hr .nil rfl (za (pv 0) (za (zm ix_tup (pv 4) zf) (za (pv 2) (za (pv 3) ze))))))
   (zh (zt (xZ wU (pv 5) (pv 6) (zE _))))))),?_]
  have s16:=ya;have s16:=ya;obtain⟨i1,i2,i3,i4⟩:=uY htr;obtain⟨r,hr⟩:∃r,ps[tr.1]? = rp r:=#[_,ae i1];obtain⟨r2,hr2⟩:∃r,ps[tr.2.1]? = rp r:=#[_,ae i2];have l1:=vo hr;have l2:=vo hr2;have d1:ps.getD tr.1 ([],[])=r:=by rw[aa,hr];rfl
  have d2:ps.getD tr.2.1 ([],[])=r2:=by rw[aa,hr2];rfl
  have eA:pkA ps tr=yE (z8 r.1 r2.1 tr.2.2) 0 r.1 r.2:=by unfold pkA;rw[l1,l2,d1]
  have eB:pkB ps tr=yE (z8 r.1 r2.1 tr.2.2) (tr.2.2:Nat) r2.1 r2.2:=by unfold pkB;rw[l1,l2,d2]
  rw[l1]at i3;rw[l1,l2]at i4;refine zj (λσ H'=>Same H H'/\∃p:nP,(∃x,H' p=rp (.tup [x,.str (tx (pkA ps tr)),.str (tx (pkB ps tr))]))/\σ=[!!a,!!t,~~~!m,!!F0,!!p,rq,rq]) ?_ ?_
  ·rfl'
   exact Y2 hA.is ht hok hr hr2 ⋯ i4 λp H' _ s' hp=>#[s',p,#[_,by rw[eA,eB];exact hp],rfl]
  rintro σ H1 ⟨s1,p,⟨x,hp⟩,rfl⟩:_;have hF1:=s1 _ _ hF;right;refine zj (λσ H'=>SamT F0 H1 H'/\∃(J1:Nat),g1=rp J1/\(∃mp' n',H' F0=rp (qD P w F0 mp' n')/\FmOk ps m mp'/\n'<=n+1)/\σ=[!!a,!!t,~~~!m,!!F0,!!p,rp (.str (tx (wAt ps (pkA ps tr) J1))),rq]) ?_ ?_
  ·rfl'
   refine#[_,SqT.of hp,_,rfl,Yl (hA.same s1) hN hok hF1 hM ⋯ hg1 (λJ mp' n' H' e a1 a2 a3 a4=>?_) λe H' s'=>q2 (.inl e) H' (SamT.of (s1.trans s'))];exact#[a1,J,e,#[mp',n',a2,a3,a4],rfl]
  rintro σ H2 ⟨s2,J1,e1,⟨mp1,n1,hF2,hM2,hn2⟩,rfl⟩:_;have s12:SamT F0 H H2:=(SamT.of s1).trans s2;have hpF:p≠F0:=λz=>by rw[z,hF1]at hp;cases hp
  right;refine zj (λσ H'=>SamT F0 H2 H'/\∃(J2:Nat),g2=rp J2/\(∃mp' n',H' F0=rp (qD P w F0 mp' n')/\FmOk ps m mp'/\n'<=n+2)/\σ=[!!a,!!t,~~~!m,!!F0,!!p,rp (.str (tx (wAt ps (pkA ps tr) J1))),rp (.str (tx (wAt ps (pkB ps tr) J2)))]) ?_ ?_
  ·rfl'
   exact#[_,SqT.of (s2 _ _ hpF hp),_,rfl,Yl (YZ s2 hF1 (hA.same s1)) hN hok hF2 hM2 ⋯ hg2 (λJ mp' n' H' e a1 a2 a3 a4=>#[a1,J,e,#[mp',n',a2,a3,⋯],rfl]) λe H' s'=>q2 (.inr e) H' (s12.trans (SamT.of s'))]
  rintro σ H3 ⟨s3,J2,e2,⟨mp2,n2,hF3,hM3,hn3⟩,rfl⟩:_;right
  rfl'
  exact q1 J1 J2 mp2 n2 H3 e1 e2 (s12.trans s3) hF3 hM3 hn3
def jP(K:nO)(CH:nP):Sp:=λvs H Q _=>∃(y o q:nP) (ps:List zk),vs=[.ref y]/\UZ K CH H y o q ps/\∀(r:nP) (H':Hp),Same H H'->LsA K H' r (ps.map dR)->H r=rq->Q (.ref r) H'
theorem wG:sQz 1 ["self"] yj:=by nofun
theorem wH{f CH:nP}(B:Bt mg)(TS:zb2 K mg CH)(F:Fun K "rules_told" "System.rules_told" yj f fd) :(1&&&["self"]) (jP K CH):=by
 exists F.ok wG
 ·obtain⟨y,o,q,ps,rfl,hy,k⟩:=h;refine#[_,(zh (zt (vC wc rfl B.list PySem.Pv.boot_list (za (Q5 (pv 0) rfl) ze)))),?_];have s16:=ya
  rfl'
  obtain⟨dx,xs,h1,h2,h3⟩:=hy;exact#[_,_,_,h1,TS.cl,TS.nr,_,rfl,_,rfl,_,.inl (SqL.of h2),λr hr'=>k r _ (zd hr') #[xs,zc,Iss.same (zd hr') _ _ h3] hr']
noncomputable def goJ(ps:List zk)(m:Nat)(v:()):Option Nat:=(aQ (m+1)).find? λj=>(zA (wAt ps v j) ps).isNone
theorem j8{m:Nat}{v:()}{i:Nat}(e:goJ ps m v=rp i):i<=m/\Xu ps v i/\zA (wAt ps v i) ps=rq:=by
 unfold goJ at e;have h1:=dI e;have h2:zA (wAt ps v i) ps=rq:=Option.isNone_iff_eq_none.mp h1;have hm:=rM.mp (d9 e);refine#[⋯,λn hn hno=>?_,h2];obtain⟨_,as,bs,e2,h3⟩:=List.find?_eq_some_iff_append.mp e
 have hlen:as.length=i:=by
  have:=congrArg (λl=>l[as.length]?) e2
  erw[ci (ao _),Nat.sub_self,cu]at this
  obtain⟨h7,h8⟩:=rG.mp this;rw[fF]at h8;exact h8
 have h9:(aQ (m+1))[n]? = as[n]?:=by rw[e2,cT ⋯]
 have h10:n<(aQ (m+1)).length:=by rw[cD];lia
 rw[ae h10,fF]at h9;have:=h3 n (ag h9.symm);rw[hno]at this;cases this
theorem Ys{m:Nat}{v:()}(e:goJ ps m v=rq):∀j,j<=m->zA (wAt ps v j) ps≠rq:=λj hj hno=>by
 unfold goJ at e;have:=si.mp e j (rM.mpr ⋯);rw[hno]at this;exact this rfl
theorem Vh{m:Nat}{v:()}(hl:∀j,j<=m->(wAt ps v j).length<=10000)(hm:m<=10000):zan ps (m:Int) v (goJ ps m v):=by
 cases e:goJ ps m v with
 | some i =>
  obtain⟨h1,h2,h3⟩:=j8 e;exact .yes #[h2,λj hj=>hl j ⋯,⋯] h3 ⋯
 | none =>
  have h:=Ys e;exact .no (J:=m) #[λi hi=>h i ⋯,λj hj=>hl j hj,hm] (h m (ao _)) rfl
noncomputable def zb7(ps:List zk)(m:Nat)(v:()):():=wAt ps v ((goJ ps m v).getD 0)
noncomputable def U4(ps:List zk)(m:Nat)(t:N3):Bool:=decide (zb7 ps m (pkA ps t)=zb7 ps m (pkB ps t))
def OkG(ps:List zk)(m:Nat)(t:N3):Prop:=(goJ ps m (pkA ps t)).isSome=rz/\(goJ ps m (pkB ps t)).isSome=rz
def zdE(ps:List zk)(m:Nat):Prop:=m<=10000/\∀t ∈ ovA ps ps.length,(∀j,j<=m->(wAt ps (pkA ps t) j).length<=10000)/\∀j,j<=m->(wAt ps (pkB ps t) j).length<=10000
theorem JE{t:N3}{m J1 J2:Nat}(e1:goJ ps m (pkA ps t)=rp J1)(e2:goJ ps m (pkB ps t)=rp J2):decide (wAt ps (pkA ps t) J1=wAt ps (pkB ps t) J2)=U4 ps m t:=by
 unfold U4 zb7;rw[e1,e2];rfl
theorem zaB{m:Nat}{t:N3}(h:goJ ps m (pkA ps t)=rq\/goJ ps m (pkB ps t)=rq):¬ OkG ps m t:=λho=>by
 obtain⟨h1,h2⟩:=ho;rcases h with h | h
 ·rw[h]at h1;cases h1
 ·rw[h]at h2;cases h2
theorem FmOk.nil{m:Int}:FmOk ps m λ_=>rq:=λk v e=>by cases e
theorem Zn{F:nP}{H H':Hp}{P:nU}{w:nY}{mp:nW->Option V}{n:Nat}(s:SamT F H H')(hF:H F=rp (qD P w F mp n)):∀{ts:List N3} {vs:List V},Iss K H (ts.map d3) vs->Iss K H' (ts.map d3) vs
 | [],vs,h=>by erw[aw,Iss]at h ⊢;exact h
 | t::ts,vs,h=>by
  erw[aj,Iss]at h ⊢
  obtain⟨v,r,e,h3,h4⟩:=h;refine#[v,r,e,?_,Zn s hF h4]
  erw[d3,Is]at h3 ⊢
  obtain⟨a,xs,e1,e2,e3⟩:=h3;refine#[a,xs,e1,qA s hF e2,?_]
  erw[Iss,Is]at e3 ⊢
  exact e3
noncomputable def unG(ps:List zk)(m:Nat):List N3:=(ovA ps ps.length).filter λt=>!U4 ps m t
def vk(K:nO)(CH CF:nP):Sp:=λvs H Q E=>∃(y o q:nP) (ps:List zk) (m:Nat),vs=[.ref y,.int (m:Nat)]/\UZ K CH H y o q ps/\NeL ps/\ju ps/\(ovA ps ps.length).length<=4000/\zdE ps m /\
 ((∀t ∈ ovA ps ps.length,OkG ps m t)->∀D H',Same H H'->H D=rq->LsA K H' D ((unG ps m).map d3)->Q (.ref D) H')/\(∀t ∈ ovA ps ps.length,¬ OkG ps m t->∀H',Same H H'->E (.ref CF) rq H')
theorem mh:sQz 2 ["system","most","rules","forms"] xj:=by nofun
theorem Qg{f CF CH:nP}{dV:nQ}(B:Bt mg)(TS:zb2 K mg CH)(F:FunD K "unmet" "unmet" xj dV f fd)(ni:(2<<<"overlaps") ["rules"] [] (wT K))(nv:(6>>>"is_met") ["rules","overlap","most","forms"] [] (jV P w K CF))(M_system_rules_told:DM P w K mg base CX0 1 CH "rules_told" ["self"] (jP K CH)):(7|||["system","most"]) (vk K CH CF):=by
 exists FunD.okX F mh,0
 ·obtain⟨y,o,q,ps,m,rfl,hy,hN,hok,hlen,hE,k1,k2⟩:=h
  refine#[_,(zi (xa (i:=2) mh.nd rfl (Or.inr rfl) (me0 M_system_rules_told TS.cl hr (pv 0)))
   (zi (xa (i:=3) mh.nd rfl (Or.inr rfl) Jz)
   (zh (zt (kr (EX:=E) (own:=["overlap"]) (caps:=["rules","most","forms"]) (ix:=[2,1,3]) (tt:=(zao (tBl (uN (jV P w K CF) [] E (zK (z5 1) (zK (z5 0) (zK (z5 2) (zK (z5 3) xI)))))))) (te:=(z5 0)) rfl (zM (sc:=zg xj) rfl (by symm) (by symm) (by symm) rfl (by symm) (by symm) rfl) #[rfl,rfl] hx (ye (cl0 ni hr .nil rfl (za (pv 2) ze))) (λ_ _ _ _ _ _=>zx (i:=0) (show List.Nodup [_,_,_,_] by decide) rfl (.inl rfl)) (λ_ _ _ _ _ _ _ hx'=>(VV (yn (yT (clP hx' nv hr .nil rfl (za (pv 1) (za (pv 0) (za (pv 2) (za (pv 3) ze))))) (λ_=>rfl))))) (λ_ _ _ _ _ _ _ _=>(pv 0))))))),?_]
  have s16:=ya;have s16:=ya;obtain⟨dx,xs0,h1,h2,h3⟩:=id hy;refine zj (λσ H'=>Same H H'/\∃r:nP,LsA K H' r (ps.map dR)/\σ=[!!y,-~~~m,!!r,rq]) ?_ ?_
  ·rfl'
   exact#[_,_,h1,rfl,y,o,q,ps,rfl,hy,λr H1 s1 hA hr'=>#[s1,r,hA,rfl]]
  rintro σ H1 ⟨s1,r,hA,rfl⟩:_;right;refine zj (λσ H'=>Same H H'/\LsA K H' r (ps.map dR)/\∃F:nP,H F=rq/\H' F=rp (qD P w F (λ_=>rq) 0)/\σ=[!!y,-~~~m,!!r,!!F]) ?_ ?_
  ·rfl'
   erw[za3]
   intro F hF;have s2:=zd (o:=qD P w F (λ_=>rq) 0) hF
   rfl'
   exact#[s1.trans s2,hA.same s2,F,s1.free hF,zc,rfl]
  rintro σ H2 ⟨s2,hA2,F,hF0,hF,rfl⟩:_;right
  rfl'
  refine kW hA2.is hok λO H3 hO s3 hL=>#[O,rfl,?_,λD hD=>?_]
  ·obtain⟨xs,hX,_⟩:=hL;exact#[_,SqL.of hX]
  obtain⟨xs,hX,hI⟩:=hL;have hxl:=hI.len;rw[ac]at hxl;have hF3:=s3 _ _ hF;have s03:=s2.trans s3;have hDF:D≠F:=λz=>by rw[z,hF3]at hD;cases hD
  have hOF:O≠F:=λz=>by rw[z,hF3]at hX;cases hX
  have back:∀{G:Hp},SamT F H3 G->Same H G:=λ{G} sT b o' e=>sT b o' (λz=>by rw[z,hF0]at e;cases e) (s03 b o' e);refine CompL.by (xs:=xs) (λi rE H'=>SamT F H3 H'/\H' D=rp (.lst rE)/\(∃(mp:nW->Option V) (n:Nat),H' F=rp (qD P w F mp n)/\FmOk ps (m:Nat) mp/\n<=2 * i)/\Iss K H3 ((((ovA ps ps.length).take i).filter λt=>!U4 ps m t).map d3) rE/\∀t ∈ (ovA ps ps.length).take i,OkG ps m t) #[SamT.of (zd hD),zc,#[_,0,by rw[zp (λz=>hDF z.symm)];exact hF3,FmOk.nil,⋯],by erw[bn,cY,aw,Iss],λt ht=>by simp at ht] (λi rE H' _ h=>SqL.of (h.1 _ _ hOF hX)) ?_ ?_
  ·refine nm4 ?_;rintro i x rE H' hx ⟨sT,hH,⟨mp,n,hFm,hM,hn⟩,hI',hle⟩:_;have hil:=(rG.mp hx).1;obtain⟨t,p,ht,rfl,hp⟩:=hI.get3 hx;have htm:=ag ht;have hE':=hE.2 t htm
   have hal:rE.length<=i:=by
    have:=hI'.len;rw[ac]at this;have h5:=cE (λt=>!U4 ps m t) ((ovA ps ps.length).take i);rw[aF]at h5;lia
   right
   erw[zao,tBl]
   rfl'
   refine#[yL,r,p,F,ps,t,(m:Nat),n,mp,_,_,rfl,YZ sT hF3 (hA2.same s3),hN,hok,qA sT hF3 hp,htm,hFm,hM,⋯,Vh hE'.1 hE.1,Vh hE'.2 hE.1,λJ1 J2 mp' n' H5 e1 e2 s5 hF5 hM5 hn5=>?_,λh H5 s5=>k2 t htm (zaB h) H5 (back (sT.trans s5))]
   have hle':∀t' ∈ (ovA ps ps.length).take (i+1),OkG ps m t':=λt' ht'=>by
    rw[zH ht]at ht';rcases rJ.mp ht' with h | h
    ·exact hle t' h
    ·rw[rK.mp h];exact#[by rw[e1];rfl,by rw[e2];rfl]
   rw[JE e1 e2]
   have hcase:∀b,U4 ps m t=b->(!b)=rz->Iss K H3 ((((ovA ps ps.length).take (i+1)).filter λt=>!U4 ps m t).map d3) (rE ++ [.ref p]):=λb hb hb'=>by
    rw[zH ht,cz,aq];refine Iss.append hI' ?_;rw[eI,hb,if_pos hb']
    erw[cY,aj,aw,Iss]
    refine#[_,[],rfl,?_,rfl]
    erw[d3,Is,Iss]
    exact#[p,_,rfl,hp,_,_,rfl,rfl,_,_,rfl,rfl,_,_,rfl,rfl,rfl]
   refine#[_,rfl,?_]
   cases hb:U4 ps m t with
   | false =>
    rw[if_pos rfl];refine#[s5 _ _ hDF hH,⋯,CNx.mk hil #[λb o' hbF e=>?_,zc,#[mp',n',by rw[zp (λz=>hDF z.symm)];exact hF5,hM5,⋯],hcase _ hb rfl,hle']];rw[zp (λz=>by rw[z,hD]at e;cases e)];exact s5 b o' hbF (sT b o' hbF e)
   | true =>
    rw[if_neg ∅];refine CNx.mk hil #[sT.trans s5,s5 _ _ hDF hH,#[mp',n',hF5,hM5,⋯],?_,hle'];rw[zH ht,cz,eI,hb]
    erw[fo,aY,if_false,cY,aX]
    exact hI'
  ·rintro rE H' ⟨sT,hH,_,hI',hle⟩;rw[hxl,aH]at hI' hle;exact k1 hle D H' (back sT) (s03.free hD) #[rE,hH,Zn sT hF3 hI']
theorem zbg{p:nP}{a b:V}{i j:Nat}{σ:L2.St}{R:L2.St->Hp->Prop}(h:SqT K H p [a,b])(k:R ((σ.set i (rp a)).set j (rp b)) H):Kk K 2 (qI (yI i) (qI (yI j) Kh)) (.ref p) σ H R:=by
 erw[Kk,qI,yI,Kh]
 first
 | exact⟨_,_,rfl,h,rfl,_,_,rfl,_,_,rfl,rfl,k⟩
 | exact⟨_,_,rfl,.inr h,rfl,_,_,rfl,_,_,rfl,rfl,k⟩
theorem EnsA.app{fs:List Ent}{us:List V}(hf:EnsA K H fs us):∀{es:List Ent} {vs:List V},EnsA K H es vs->EnsA K H (es ++ fs) (vs ++ us)
 | [],vs,h=>by
  erw[EnsA]at h
  subst h;exact hf
 | e::es,vs,h=>by
  erw[EnsA]at h
  obtain⟨x,r,rfl,hx,hr⟩:=h
  erw[br,EnsA]
  exact#[x,r ++ us,rfl,hx,hf.app hr]
abbrev MkS(P:nU)(w:nY)(K:nO)(mg:nW->Option nQ)(base:oa)(CO CR CW CT CH:nP):Prop:=DMk P w K mg base (CXx P w) 5 CH ["self","order","rules"] (uA K CO CR CW CT CH)
theorem KZ{Q:nP->Hp->Prop}{CO CR CW CT CH o a:nP}{l:()}(ho:OrdAt CO CR CW H o k l ns)(hG:OG l ns k)(hA:LsA K H a (ps.map dR))(hin:InL l ps)(hf:we k l ns ps 0=rq)(q:∀(y qa:nP) (H':Hp),Same H H'->UZ K CH H' y o qa ps->Q y H'):∀x dx,H x=rq->H dx=rq->dx≠x->uA K CO CR CW CT CH [.ref x,.ref o,.ref a] (upd (upd H dx (.own x)) x (.ins CH dx [])) (λv H'=>v=.non/\Q x H') E0:=by
 intro x dx hx hdx hne;obtain⟨xs,hX,hI⟩:=hA;have sd:=zd (o:=.own x) hdx
 have k1:Same H (upd (upd H dx (.own x)) x (.ins CH dx [])):=λb' o' e=>by
  rw[zp (zG e hx)];exact sd _ _ e
 refine#[x,dx,o,a,k,l,ns,ps,xs,rfl,zc,ho.same k1,hG,k1 _ _ hX,Iss.same k1 _ _ hI,hin,(λi e=>by rw[hf]at e;cases e),λ_ q1 H'' kp hx' hq' hqn=>#[rfl,?_]];have k3:Same H H'':=λb' o' e=>kp b' o' (λz=>by rw[z,hx]at e;cases e) (k1 _ _ e);exact q x q1 H'' k3 #[dx,xs,hx',hq',Iss.same k3 _ _ hI]
theorem BG.inL{l:()}(h:BG k l ns bs):InL l (zb bs):=λp hp=>by
 obtain⟨e,he,rfl⟩:=rF.mp hp;have b:=h.e e he;exact#[aL b.a ∅,aL b.b ∅,b.ma,b.mb]
theorem BG.fault{l:()}(h:BG k l ns bs):we k l ns (zb bs) 0=rq:=vX λm p e=>by
 obtain⟨e',he,rfl⟩:=rF.mp (ag e);exact h.lt e' he
def Yp(K:nO)(CO CR CW CH:nP):Sp:=λvs H Q _=>∃(o a:nP) (k:Nat) (l:()) (ns:List Int) (bs:List Ent),vs=[.ref o,.ref a]/\OrdAt CO CR CW H o k l ns/\OG l ns k/\EnsL K H a bs/\BG k l ns bs/\∀(y qa:nP) (H':Hp),Same H H'->UZ K CH H' y o qa (zb bs)->Q (.ref y) H'
theorem kR:sQz 2 ["order","entries"] wS:=by nofun
theorem kH{f CO CR CW CT CH:nP}(B:Bt mg)(TS:zb2 K mg CH)(MS:MkS P w K mg base CO CR CW CT CH)(F:("system_by"^^^wS))(gv:(1<<<"pairs_of") ["entries"] [] (wF K)):(7&&&["order","entries"]) (Yp K CO CR CW CH):=by
 exists F.ok kR
 ·obtain⟨o,a,k,l,ns,bs,rfl,ho,hG,hA,hB,q⟩:=h;refine#[_,(zh (zt (zd6 xe0 MS hr rfl TS.g (za (pv 0) (za (cl0 gv hr .nil rfl (za (pv 1) ze)) ze))))),?_];have s16:=ya;ac_rfl;refine xX hA.is (by have:=hB.n;lia) λD H' _ s' hL=>?_;exact KZ (ho.same s') hG hL hB.inL hB.fault λy qa H'' s'' hy=>q y qa H'' (s'.trans s'') hy
noncomputable def fE(i:Nat)(p:zk):Ent:=(p.1,p.2,[((i:Int),(0:Int),rz)])
noncomputable def fEs(rs:List zk):Nat->List Ent
 | 0=>[]
 | n+1=>fEs rs n ++ ((rs[n]?).map (fE n)).toList
theorem UQ{n:Nat}{p:zk}(h:rs[n]? = rp p):fEs rs (n+1)=fEs rs n ++ [fE n p]:=by
 show fEs rs n ++ ((rs[n]?).map (fE n)).toList=_;rw[h];rfl
theorem WI(rs:List zk):∀n,(fEs rs n).length<=n
 | 0=>ao _
 | n+1=>by
  have:=WI rs n;show (fEs rs n ++ ((rs[n]?).map (fE n)).toList).length<=_;rw[am]
  cases rs[n]? with
  | none=>simp;lia
  | some p=>simp;lia
theorem uM:∀{n:Nat} {e:Ent},e ∈ fEs rs n->∃i p,i<n/\rs[i]? = rp p/\e=fE i p
 | 0,e,h=>(nomatch h)
 | n+1,e,h=>by
  have h':e ∈ fEs rs n ++ ((rs[n]?).map (fE n)).toList:=h;rcases rJ.mp h' with h | h
  ·obtain⟨i,p,hi,hp,he⟩:=uM h;exact#[i,p,⋯,hp,he]
  ·cases hn:rs[n]? with
   | none=>rw[hn]at h;simp at h
   | some p =>
    rw[hn]at h;exact#[n,p,⋯,hn,by simpa using h]
def YS(K:nO):Sp:=λvs H Q _=>∃(a:nP) (rs:List zk),vs=[.ref a]/\LsA K H a (rs.map dR)/\rs.length<=20/\∀(D:nP) (H':Hp),Same H H'->H D=rq->EnsM K H' D (fEs rs rs.length)->Q (.ref D) H'
theorem uj:sQz 1 ["pacts"] yu:=by nofun
theorem ur(B:Bt mg)(F:("first_entries"^^^yu)) :(1&&&["pacts"]) (YS K):=by
 exists F.ok uj
 ·obtain⟨a,rs,rfl,hA,hrl,q⟩:=h;refine#[_,(zh (zt (yC (g:=Kk K 2 (qI (yI 0) (qI (yI 1) Kh))) (own:=["number","pact"]) (caps:=[]) (ix:=[]) (tt:=xQ) (te:=(XY (zK (tOp (wV K) (z5 1) (tC (.int 0))) (zK (tOp (wV K) (z5 1) (tC (.int 1))) (zK (zbJ (zK (XY (zK (z5 0) (zK (tC (.int 0)) (zK (tC (.bl rz)) xI)))) xI)) xI))))) rfl (zM (sc:=zg yu) rfl (by symm) (by symm) (by symm) rfl (by symm) (by symm) rfl) (wC rfl B.enum (za (pv 0) ze)) (λ_ _ _ _ _ _=>qU (n:=2) rfl (yh (zx (i:=0) (show List.Nodup [_,_] by decide) rfl (.inl rfl)) (yh (zx (i:=1) (show List.Nodup [_,_] by decide) rfl (.inl rfl)) vI))) (λ_ _ _ _ _ _=>yd) (λ_ _ _ _ _ _=>(zN (za (zm ix_tup (pv 1) zf) (za (zm ix_tup (pv 1) zf) (za (xz (za (zN (za (pv 0) (za zf (za xn ze)))) ze)) ze)))))))),?_];have s16:=ya;have s16:=ya;obtain⟨xs,hX,hI⟩:=id hA;have hxl:=hI.len;rw[ac]at hxl;ac_rfl;rw[QK];ac_rfl;refine#[#[_,SqL.of hX],λD hD=>CompEL.by (xs:=xs) (λi rE H'=>Same H H'/\H' D=rp (.lst rE)/\rE.length<=i/\EnsA K (qJ D H') (fEs rs i) rE) #[zd hD,zc,ao _,rfl] (λi rE H' _ h=>SqL.of (h.1 _ _ hX)) ?_ ?_]
  ·rintro i x rE H' p hx ⟨hs,hH,hal,hEn⟩ hp;have hil:=(rG.mp hx).1;obtain⟨r,pr,hri,rfl,hqr⟩:=hI.getR hx;have u1:=zd (o:=HO.tup [.int (i:Nat),.ref pr]) hp;have hq:=zl (hs.trans u1) hqr;refine zbg (SqT.of zc) ?_
   erw[xQ]
   rfl'
   refine#[QN,_,hq,_,rfl,_,hq,_,rfl,⋯,λp1 hp1=>#[⋯,λp2 hp2=>#[⋯,λp3 hp3=>?_]]];have u2:=zd (o:=HO.tup [.int (i:Nat),.int 0,.bl rz]) hp1;have u3:=zd (o:=HO.lst [.ref p1]) hp2;have u4:=zd (o:=HO.tup [.str (tx r.1),.str (tx r.2),.ref p2]) hp3;have u:=u1.trans (u2.trans (u3.trans u4));have hD4:=u _ _ hH;have hp2D:p2≠D:=λz=>by rw[z,u2 _ _ (u1 _ _ hH)]at hp2;cases hp2
   refine#[hD4,⋯,CNx.mk hil #[zy (hs.trans u) hD,zc,by rw[am];erw[aE,bo];lia,?_]];rw[UQ hri];refine (hEn.same ((wj u).trans y4)).snoc (EnA.same ?_ y4);refine EnA.new (e:=fE i r) hD4 zc #[_,u4 _ _ zc,?_] hp2D;show Iss K _ [dSt ((i:Int),(0:Int),rz)] _;exact KI (YE (SqT.of (u4 _ _ (u3 _ _ zc))))
  ·rintro rE H' ⟨hs,hH,hal,hEn⟩;rw[hxl]at hEn;exact q D H' hs hD #[rE,hH,hEn.same xS]
noncomputable def qG(es:List Ent):Bool:=decide (12<es.length) || es.any λe=>decide (10<max e.1.length e.2.1.length)
structure TMc(mg:nW->Option nQ):Prop where
 u:∃t,mg "MOST_USES_completing" = rp (.int 40 t)
 e:∃t,mg "MOST_ENTRIES" = rp (.int 12 t)
 d:∃t,mg "MOST_SIDE_completing" = rp (.int 10 t)
 p:∃t,mg "MOST_PEAKS" = rp (.int 8 t)
def kY(K:nO):Sp:=λvs H Q _=>∃(a:nP) (es:List Ent),vs=[.ref a]/\EnsL K H a es/\es.length<64/\(∀e ∈ es,e.1.length<=10000/\e.2.1.length<=10000)/\∀H',Same H H'->Q (.bl (qG es)) H'
theorem Zs:sQz 1 ["entries"] xF:=by nofun
theorem Zp(B:Bt mg)(hany:zdZ mg)(TM:TMc mg)(F:("is_beyond"^^^xF)) :(1&&&["entries"]) (kY K):=by
 obtain⟨⟨t9,g9⟩,⟨t8,g8⟩⟩:=And.intro TM.e TM.d
 exists F.ok Zs
 ·obtain⟨a,es,rfl,hA,hl,hE,q⟩:=h
  refine#[_,(zi (zU (zB X5 (zL B.len (pv 0)) (yU (v:=.int 12) rfl g9 #[t9,rfl]) (zE _))
    (zh (zt xn))
    zw)
   (zh (zt (yM (zc8 rfl) rfl hany PyProof.Rows.boot_any (za (yC (own:=["entry"]) (caps:=[]) (ix:=[]) (tt:=xQ) (te:=(tOp zb9 (tCB U1 (zK (tCB (X2 K) (zK (tOp (wV K) (z5 0) (tC (.int 0))) xI)) (zK (tCB (X2 K) (zK (tOp (wV K) (z5 0) (tC (.int 1))) xI)) xI))) (tC (.int 10)))) rfl (zM (sc:=zg xF) rfl (by symm) (by symm) (by symm) rfl (by symm) (by symm) rfl) (ye (pv 0)) (λ_ _ _ _ _ _=>zx (i:=0) (show List.Nodup [_] by decide) rfl (.inl rfl)) (λ_ _ _ _ _ _=>yd) (λ_ _ _ _ _ _=>(xZ X5 (yM (YQ rfl) rfl B.max vb (za (zL B.len (zm ix_tup (pv 0) zf)) (za (zL B.len (zm ix_tup (pv 0) zf)) ze))) (yU (v:=.int 10) rfl g8 #[t8,rfl]) (zE _)))) ze))))),?_]
  have s16:=ya;have s16:=ya;obtain⟨xs,hX,hEn⟩:=id hA;have hxl:=hEn.len;refine zj (λσ H'=>H'=H/\¬ 12<es.length/\σ=[!!a]) ?_ ?_
  ·ac_rfl;refine#[_,.inl #[_,hX,rfl],yG (λh=>?_) λh=>by lia]
   have e:qG es=rz:=by
    unfold qG;rw[decide_eq_true ⋯,Bool.true_or]
   rw[<- e];exact q H (Same.refl _)
  rintro σ H1 ⟨rfl,h12,rfl⟩:_;right;ac_rfl;refine#[#[_,hX],λD hD=>CompL.by (xs:=xs) (λi rE H'=>Same H1 H'/\H' D=rp (.lst rE)/\rE=((es.take i).map λe=>decide (10<max e.1.length e.2.1.length)).map V.bl) #[zd hD,zc,rfl] (λi rE H' _ h=>h.1.seq hX) ?_ ?_]
  ·refine nm4 ?_;rintro i x rE H' hx ⟨hs,hH,rfl⟩:_;have hil:=(rG.mp hx).1;obtain⟨e,p,s,he,rfl,hp,_⟩:=hEn.get hx;have hq:=zl hs hp;have hb:=hE e (ag he);right
   erw[xQ]
   rfl'
   refine#[yL,_,hq,_,rfl,_,#[by rw[zS];lia,rfl],_,hq,_,rfl,_,#[by rw[zS];lia,rfl],hH,by rw[ac,ac,aF];lia,CNx.mk hil #[zy hs hD,zc,?_]];rw[zH he,aq,aq,zS,zS];congr 1;show [V.bl _]=[V.bl _];congr 2;refine decide_eq_decide.mpr ?_;split <;> lia
  ·rintro rE H' ⟨hs,hH,rfl⟩;rw[hxl,aH]at hH;refine#[D,_,rfl,SqL.of hH,?_]
   have e:(es.map λe=>decide (10<max e.1.length e.2.1.length)).any id=qG es:=by
    unfold qG;rw[decide_eq_false h12,Bool.false_or,em];rfl
   rw[e];exact q H' hs
theorem u7(h:qG es=rA):es.length<=12/\∀e ∈ es,e.1.length<=10/\e.2.1.length<=10:=by
 unfold qG at h;rw[Bool.or_eq_false_iff]at h;refine#[by have:=of_decide_eq_false h.1;lia,λe he=>?_];have:=List.any_eq_false.mp h.2 e he;have h2:¬ 10<max e.1.length e.2.1.length:=λz=>this (decide_eq_true z);lia
def Jo(K:nO)(CO CR CW T:nP):Sp:=λvs H Q _=>∃(o a:nP) (k:Nat) (l:()) (ns:List Int) (es:List Ent),vs=[.ref o,.ref a]/\OrdAt CO CR CW H o k l ns/\OG l ns k/\EnsL K H a es/\es.length<64/\(∀e ∈ es,EB l e)/\TabOk H T lp lq /\
 (∀(bs:List Ent) (D:nP) (H':Hp),vV k l ns 20 es (rp bs)->BG k l ns bs->qG bs=rA->SamT T H H'->TabOk H' T lp lq->EnsM K H' D bs->Q (.ref D) H')/\((vV k l ns 20 es rq\/∃bs,vV k l ns 20 es (rp bs)/\qG bs=rz)->∀H',SamT T H H'->TabOk H' T lp lq->Q .non H')
structure zdF(K:nO)(CF:nP):Prop where
 s:cJ K (.ref CF) (.ref CF)=rp rz
theorem iI:sQz 2 ["order","entries","slim"] yJ:=by nofun
theorem vJ{f CO CR CW TB CF:nP}(B:Bt mg)(TFx:zaq K mg CF)(TSb:zdF K CF)(F:("thinned_within"^^^yJ))(nk:(7>>>"thinned") ["order","entries"] [] (Wv K CO CR CW TB CF))(mY:(1<<<"is_beyond") ["entries"] [] (kY K)):(8&&&["order","entries"]) (Jo K CO CR CW TB):=by
 exists F.ok iI
 ·obtain⟨o,a,k,l,ns,es,rfl,ho,hG,hA,hz,hE,hTab,q1,q2⟩:=h
  refine#[_,(zi (Uq (i:=2) (th:=(zaj (tC .non))) iI.nd rfl (.inl rfl) (.inl rfl) #[rfl,rfl] (clX nk hr .nil rfl (za (pv 0) (za (pv 1) ze))) rfl TFx.g TFx.xi.ok (λe=>(zh (zt xC))))
   (zh (zt (uF (yT (cl0 mY hr .nil rfl (za (pv 2) ze)) (λ_=>rfl)) xC (pv 2))))),?_]
  have s16:=ya;have s16:=ya;refine zj (λσ H'=>SamT TB H H'/\TabOk H' TB lp lq/\∃(bs:List Ent) (D:nP),vV k l ns 20 es (rp bs)/\BG k l ns bs/\EnsM K H' D bs/\σ=[!!o,!!a,!!D]) ?_ ?_
  ·erw[QQ]
   ac_rfl;exact#[o,a,k,l,ns,es,rfl,ho,hG,hA,hz,hE,hTab,λbs D H' h1 h2 h3 h4 h5=>#[h3,h4,bs,h1,h2,D,h5,rfl],λh H' h3 h4=>#[CF,rfl,TSb.s,λx hx=>q2 (.inl h) _ (h3.trans (SamT.of (zd hx))) (h4.same (zd hx))]]
  rintro σ H1 ⟨s1,hT1,bs,D,hTh,hB,hM,rfl⟩:_;right;ac_rfl;exact#[D,bs,rfl,hM.l,hB.n,λe he=>#[aL (hB.e e he).a ∅,aL (hB.e e he).b ∅],λH' s'=>#[_,rfl,yG (λh=>q2 (.inr #[bs,hTh,h]) H' (s1.trans (SamT.of s')) (hT1.same s')) λh=>q1 bs D H' hTh hB (by simpa using h) (s1.trans (SamT.of s')) (hT1.same s') (hM.same s')]]
theorem uC(w:())(k:Int)(o n:()):(yE w k o n).length<=w.length+n.length:=by
 unfold yE;rw[am,am,aF,aZ];lia
theorem BG.ok{l:()}(h:BG k l ns bs)(hl:bs.length<=30):ju (zb bs):=by
 refine#[by unfold zb;rw[ac];exact hl,λr hr=>?_];obtain⟨e,he,rfl⟩:=rF.mp hr;exact#[aL (h.e e he).a ∅,aL (h.e e he).b ∅]
theorem zav(hok:∀r ∈ ps,r.1.length<=60/\r.2.length<=60){t:N3}(ht:t ∈ ovA ps ps.length):(pkA ps t).length<=180/\(pkB ps t).length<=180:=by
 obtain⟨i1,i2,i3,i4⟩:=uY ht;obtain⟨r,hr⟩:∃r,ps[t.1]? = rp r:=#[_,ae i1];obtain⟨r2,hr2⟩:∃r,ps[t.2.1]? = rp r:=#[_,ae i2];have l1:=vo hr;have l2:=vo hr2;have d1:ps.getD t.1 ([],[])=r:=by rw[aa,hr];rfl
 have d2:ps.getD t.2.1 ([],[])=r2:=by rw[aa,hr2];rfl
 rw[l1]at i3;have b1:=hok r (ag hr);have b2:=hok r2 (ag hr2);have hp:=wZ r.1 r2.1 t.2.2 ⋯;have p1:=uC (z8 r.1 r2.1 t.2.2) 0 r.1 r.2;have p2:=uC (z8 r.1 r2.1 t.2.2) (t.2.2:Nat) r2.1 r2.2;unfold pkA pkB;rw[l1,l2,d1,d2];lia
theorem zba(hN:NeL ps)(hok:∀r ∈ ps,r.1.length<=60/\r.2.length<=60):zdE ps 40:=by
 refine#[∅,λt ht=>?_];obtain⟨h1,h2⟩:=zav hok ht
 have key:∀(v:()),v.length<=180->∀j,j<=40->(wAt ps v j).length<=10000:=λv hv j hj=>by
  have:=qC (l:=v) hN (λp hp=>(hok p hp).2) j;have h3:j * 60<=40 * 60:=Nat.mul_le_mul hj (ao _);lia
 exact#[key _ h1,key _ h2]
def Jn(K:nO)(CO CR CW:nP):Sp:=λvs H Q _=>∃(o a:nP) (k:Nat) (l:()) (ns:List Int) (bs:List Ent),vs=[.ref o,.ref a]/\OrdAt CO CR CW H o k l ns/\OG l ns k/\EnsL K H a bs/\BG k l ns bs/\bs.length<=30/\(ovA (zb bs) (zb bs).length).length<=4000 /\
 ((∀t ∈ ovA (zb bs) (zb bs).length,OkG (zb bs) 40 t)->∀D H',Same H H'->LsA K H' D ((unG (zb bs) 40).map d3)->Q (.ref D) H')/\(∀t ∈ ovA (zb bs) (zb bs).length,¬ OkG (zb bs) 40 t->∀H',Same H H'->Q .non H')
theorem uU:sQz 2 ["order","entries"] xq:=by nofun
theorem qx{f CO CR CW CF CH:nP}{li:pX}(B:Bt mg)(TFx:zaq K mg CF)(TSb:zdF K CF)(TM:TMc mg)(F:("unmet_within"^^^xq))(nA:(7>>>"unmet") ["system","most"] [] (vk K CH CF))(DD_unmet:(7>>>"unmet") ["system","most"] [.int 4000 li] (vk K CH CF))(mZ:(7<<<"system_by") ["order","entries"] [] (Yp K CO CR CW CH)):(9&&&["order","entries"]) (Jn K CO CR CW):=by
 obtain⟨t9,g9⟩:=TM.u
 exists F.ok uU
 ·obtain⟨o,a,k,l,ns,bs,rfl,ho,hG,hA,hB,hbl,hol,q1,q2⟩:=h;refine#[_,(zh (US (th:=(zaj (tC .non))) #[rfl,rfl] (clX nA hr .nil rfl (za (cl0 mZ hr .nil rfl (za (pv 0) (za (pv 1) ze))) (za (yU (v:=.int 40) rfl g9 #[t9,rfl]) ze))) rfl TFx.g TFx.xi.ok (λe=>(zh (zt xC))))),?_];have s16:=ya;have s16:=ya
  erw[Jg]
  ac_rfl
  have hsd:∀r ∈ zb bs,r.1.length<=60/\r.2.length<=60:=λr hr=>by
   obtain⟨e,he,rfl⟩:=rF.mp hr;exact#[(hB.e e he).a,(hB.e e he).b]
  exact#[o,a,k,l,ns,bs,rfl,ho,hG,hA,hB,λy qa H' s' hy=>#[y,o,qa,zb bs,40,rfl,hy,hB.ne hG,hB.ok hbl,hol,zba (hB.ne hG) hsd,λh D H'' s'' _ hL=>q1 h D H'' (s'.trans s'') hL,λt ht h H'' s''=>#[CF,rfl,TSb.s,λx hx=>q2 t ht h _ (s'.trans (s''.trans (zd hx)))]]]
noncomputable def qk(es:List Ent)(t:N3):Ent:=(pkA (zb es) t,pkB (zb es) t,byL es [((t.1:Int),(0:Int),rA),((t.2.1:Int),(t.2.2:Int),rz)])
def jK(K:nO):Sp:=λvs H Q _=>∃(a t:nP) (es:List Ent) (tr:N3),vs=[.ref a,.ref t]/\EnsL K H a es/\SqT K H t [.int (tr.1:Nat),.int (tr.2.1:Nat),.int (tr.2.2:Nat)]/\tr ∈ ovA (zb es) (zb es).length/\ju (zb es)/\(∀e ∈ es,e.2.2.length<=600)/\∀(p s:nP) (H':Hp),Same H H'->H' p=rp (.tup [.str (tx (qk es tr).1),.str (tx (qk es tr).2.1),.ref s])->LsA K H' s ((qk es tr).2.2.map dSt)->H s=rq->Q (.ref p) H'
theorem lb:sQz 2 ["entries","overlap","sides","steps"] vM:=by nofun
theorem ZL(B:Bt mg)(F:("entry_of"^^^vM))(mS:(4<<<"peak") ["rules","overlap"] [] (jY K))(iJ:(2<<<"by_pacts") ["entries","steps"] [] (UU K))(gv:(1<<<"pairs_of") ["entries"] [] (wF K)):(5&&&["entries","overlap"]) (jK K):=by
 exists F.ok lb
 ·obtain⟨a,t,es,tr,rfl,hA,ht,htr,hok,hst,q⟩:=h
  refine#[_,(zi (zD 2 lb.nd (cl0 mS hr .nil rfl (za (cl0 gv hr .nil rfl (za (pv 0) ze)) (za (pv 1) ze))))
   (zi (zD 3 lb.nd (cl0 iJ hr .nil rfl (za (pv 0) (za (xz (za (zN (za (zm ix_tup (pv 1) zf) (za zf (za xn ze)))) (za (zN (za (zm ix_tup (pv 1) zf) (za (zm ix_tup (pv 1) zf) (za xn ze)))) ze))) ze))))
   (zh (zt (zN (za (zm ix_tup (pv 2) zf) (za (zm ix_tup (pv 2) zf) (za (pv 3) ze)))))))),?_]
  have s16:=ya;have s16:=ya;have hlp:(zb es).length=es.length:=by unfold zb;rw[ac]
  obtain⟨i1,i2,i3,i4⟩:=uY htr;obtain⟨r,hr1⟩:∃r,(zb es)[tr.1]? = rp r:=#[_,ae i1];obtain⟨r2,hr2⟩:∃r,(zb es)[tr.2.1]? = rp r:=#[_,ae i2];have l1:=vo hr1;have l2:=vo hr2;have d1:(zb es).getD tr.1 ([],[])=r:=by rw[aa,hr1];rfl
  have d2:(zb es).getD tr.2.1 ([],[])=r2:=by rw[aa,hr2];rfl
  have eA:pkA (zb es) tr=yE (z8 r.1 r2.1 tr.2.2) 0 r.1 r.2:=by unfold pkA;rw[l1,l2,d1]
  have eB:pkB (zb es) tr=yE (z8 r.1 r2.1 tr.2.2) (tr.2.2:Nat) r2.1 r2.2:=by unfold pkB;rw[l1,l2,d2]
  rw[l1]at i3;rw[l1,l2]at i4;refine zj (λσ H'=>Same H H'/\∃p:nP,(∃x,H' p=rp (.tup [x,.str (tx (pkA (zb es) tr)),.str (tx (pkB (zb es) tr))]))/\σ=[!!a,!!t,!!p,rq]) ?_ ?_
  ·rfl'
   refine xX hA.is (by have:=hok.1;lia) λD H1 _ s1 hL=>?_;exact Y2 hL.is (zl s1 ht) hok hr1 hr2 ⋯ i4 λp H' _ s' hp=>#[s1.trans s',p,#[_,by rw[eA,eB];exact hp],rfl]
  rintro σ H1 ⟨s1,p,⟨x,hp⟩,rfl⟩:_;right;refine zj (λσ H'=>Same H1 H'/\∃S:nP,H S=rq/\LsA K H' S ((qk es tr).2.2.map dSt)/\σ=[!!a,!!t,!!p,!!S]) ?_ ?_
  ·have ht1:=zl s1 ht
   rfl'
   refine#[_,ht1,_,rfl,⋯,λp1 hp1=>?_];have u1:=zd (o:=HO.tup [.int (tr.1:Nat),.int 0,.bl rA]) hp1;refine#[_,zl u1 ht1,_,rfl,_,zl u1 ht1,_,rfl,⋯,λp2 hp2=>#[⋯,λp3 hp3=>?_]];have u2:=zd (o:=HO.tup [.int (tr.2.1:Nat),.int (tr.2.2:Nat),.bl rz]) hp2;have u3:=zd (o:=HO.lst [.ref p1,.ref p2]) hp3;have u:=u1.trans (u2.trans u3);refine Wr (us:=[((tr.1:Int),(0:Int),rA),((tr.2.1:Int),(tr.2.2:Int),rz)]) (hA.same (s1.trans u)).is (LsA.is #[_,zc,?_]) (by simp) hst (λv hv=>?_) λD H' hDn s' hL=>#[u.trans s',D,(s1.trans u).free hDn,hL,rfl]
   ·erw[aj,aw,Iss]
    exact#[_,_,rfl,YE (SqT.of (u3 _ _ (u2 _ _ zc))),_,_,rfl,YE (SqT.of (u3 _ _ zc)),rfl]
   ·erw[dq,cI,or_false]at hv
    rcases hv with rfl | rfl
    ·exact#[by simp,by show (tr.1:Int)<_;lia]
    ·exact#[by simp,by show (tr.2.1:Int)<_;lia]
  rintro σ H2 ⟨s2,S,hSn,hS,rfl⟩:_;right
  rfl'
  exact#[_,SqT.of (s2 _ _ hp),_,rfl,_,SqT.of (s2 _ _ hp),_,rfl,⋯,λp' hp'=>q p' S _ (s1.trans (s2.trans (zd hp'))) zc (hS.same (zd hp')) hSn]
theorem U6{l:()}(h:¬ uJ e):¬ uJ (zX k l ns e):=by
 unfold zX;split
 ·exact h
 ·unfold uJ at h ⊢;rw[yi];show ¬ (240<e.2.2.length\/60<e.2.1.length\/60<e.1.length);lia
theorem Xi{l:()}{bs es:List Ent}{r:Option (List Ent)}(h:yN k l ns bs es r):(∀e ∈ bs,¬ uJ e)->∀fs,r=rp fs->∀e ∈ fs,¬ uJ e:=by
 induction h with
 | nil bs=>exact λh fs e=>by cases e;exact h
 | same _ _ _ _ ih=>exact ih
 | new _ _ _ h4 _ ih =>
  intro h;refine ih λe he=>?_;rcases rJ.mp he with he | he
  ·exact h e he
  ·rw[rK.mp he];exact U6 h4
 | far _ _ _ _=>exact λ_ fs e=>by cases e
 | stuck _=>exact λ_ fs e=>by cases e
theorem qj{k n:Nat}{l:()}{r:Option (List Ent)}(h:vV k l ns n es r):∀fs,r=rp fs->∀e ∈ fs,¬ uJ e:=by
 induction h with
 | out es=>exact λfs e=>by cases e
 | bad _ _=>exact λfs e=>by cases e
 | done _ h2 _=>exact λfs e=>by cases e;exact Xi h2 (λe he=>(nomatch he)) _ rfl
 | more _ _ _ _ ih=>exact ih
theorem Ub{M:Nat}(h:∀e ∈ es,e.2.2.length<=M)(u:Stp):(Yh es u).length<=M:=by
 have hg:(es.getD u.1.toNat ([],[],[])).2.2.length<=M:=by
  rw[aa]
  cases e:es[u.1.toNat]? with
  | none=>exact aB _
  | some x=>exact h x (ag e)
 unfold Yh;rw[kG];split
 ·exact hg
 ·rw[yi];exact hg
inductive Cpl(k:Nat)(l:())(ns:List Int):Nat->List Ent->List Ent->Bool->List Ent->Prop where
 | out (kept fresh:List Ent):Cpl k l ns 0 kept fresh rA kept
 | slim {n:Nat} {kept fresh:List Ent} (h:vV k l ns 20 fresh rq\/∃bs,vV k l ns 20 fresh (rp bs)/\qG bs=rz):Cpl k l ns (n+1) kept fresh rA kept
 | far {n:Nat} {kept fresh bs:List Ent} {t:N3} (h:vV k l ns 20 fresh (rp bs)) (hb:qG bs=rA) (ht:t ∈ ovA (zb bs) (zb bs).length) (ho:¬ OkG (zb bs) 40 t):Cpl k l ns (n+1) kept fresh rA bs
 | whole {n:Nat} {kept fresh bs:List Ent} (h:vV k l ns 20 fresh (rp bs)) (hb:qG bs=rA) (ho:∀t ∈ ovA (zb bs) (zb bs).length,OkG (zb bs) 40 t) (hu:unG (zb bs) 40=[]):Cpl k l ns (n+1) kept fresh rz bs
 | more {n:Nat} {kept fresh bs es:List Ent} {w:Bool} (h:vV k l ns 20 fresh (rp bs)) (hb:qG bs=rA) (ho:∀t ∈ ovA (zb bs) (zb bs).length,OkG (zb bs) 40 t) (hu:unG (zb bs) 40≠[]) (r:Cpl k l ns n bs (bs ++ ((unG (zb bs) 40).take 8).map (qk bs)) w es):Cpl k l ns (n+1) kept fresh w es
theorem zbv(hl:ps.length<=12)(h:∀r ∈ ps,r.1.length<=10):(ovA ps ps.length).length<=4000:=by
 have lfl:∀i,(lf ps i).length<=10:=λi=>by
  cases e:ps[i]? with
  | none=>unfold lf;rw[aa,e];exact aB _
  | some r=>rw[vo e];exact h r (ag e)
 have oI:∀i m,(ovI ps i m).length<=m * 10:=λi m=>by
  induction m with
  | zero=>exact aB _
  | succ m ih =>
   rw[uz,am];have h1:=uB ps i m (lf ps i).length;have h2:=lfl i;lia
 have oA:∀m,(ovA ps m).length<=m * 120:=λm=>by
  induction m with
  | zero=>exact aB _
  | succ m ih =>
   rw[jJ,am];have h1:=oI m ps.length;lia
 have:=oA ps.length;lia
theorem zcJ{l:()}(hin:∀r ∈ ps,(∀c ∈ r.1,c ∈ l)/\∀c ∈ r.2,c ∈ l)(h10:∀r ∈ ps,r.1.length<=10/\r.2.length<=10){t:N3}(ht:t ∈ ovA ps ps.length):((pkA ps t).length<=40/\∀c ∈ pkA ps t,c ∈ l)/\(pkB ps t).length<=40/\∀c ∈ pkB ps t,c ∈ l:=by
 obtain⟨i1,i2,i3,i4⟩:=uY ht;obtain⟨r,hr⟩:∃r,ps[t.1]? = rp r:=#[_,ae i1];obtain⟨r2,hr2⟩:∃r,ps[t.2.1]? = rp r:=#[_,ae i2];have l1:=vo hr;have l2:=vo hr2;have d1:ps.getD t.1 ([],[])=r:=by rw[aa,hr];rfl
 have d2:ps.getD t.2.1 ([],[])=r2:=by rw[aa,hr2];rfl
 rw[l1]at i3;have b1:=h10 r (ag hr);have b2:=h10 r2 (ag hr2);have n1:=hin r (ag hr);have n2:=hin r2 (ag hr2);have hp:=wZ r.1 r2.1 t.2.2 ⋯;have p1:=uC (z8 r.1 r2.1 t.2.2) 0 r.1 r.2;have p2:=uC (z8 r.1 r2.1 t.2.2) (t.2.2:Nat) r2.1 r2.2
 have hw:∀c ∈ z8 r.1 r2.1 t.2.2,c ∈ l:=λc hc=>by
  unfold z8 at hc;rcases rJ.mp hc with h | h
  ·exact n1.1 c h
  ·exact n2.1 c (cH h)
 have put:∀(k:Int) (o n:()),(∀c ∈ n,c ∈ l)->∀c ∈ yE (z8 r.1 r2.1 t.2.2) k o n,c ∈ l:=λk o n hn c hc=>by
  unfold yE at hc;rcases rJ.mp hc with hc | hc
  ·rcases rJ.mp hc with hc | hc
   ·exact hw c (bI hc)
   ·exact hn c hc
  ·exact hw c (cH hc)
 unfold pkA pkB;rw[l1,l2,d1,d2];exact#[#[⋯,put _ _ _ n1.2],⋯,put _ _ _ n2.2]
theorem WW{l:()}(hB:BG k l ns bs)(hb:qG bs=rA)(hs:∀e ∈ bs,e.2.2.length<=240){t:N3}(ht:t ∈ ovA (zb bs) (zb bs).length):EB l (qk bs t):=by
 obtain⟨b1,b2⟩:=u7 hb
 obtain⟨h1,h2⟩:=zcJ (l:=l) (ps:=zb bs) (λr hr=>by
  obtain⟨e,he,rfl⟩:=rF.mp hr
  exact#[(hB.e e he).ma,(hB.e e he).mb]) (λr hr=>by
  obtain⟨e,he,rfl⟩:=rF.mp hr
  exact b2 e he) ht
 refine#[aL h1.1 ∅,aL h2.1 ∅,?_,h1.2,h2.2];show (byL bs [((t.1:Int),(0:Int),rA),((t.2.1:Int),(t.2.2:Int),rz)]).length<=600;unfold byL;rw[d7,d7,List.flatMap_nil,aX,am];have o1:=Ub hs ((t.1:Int),(0:Int),rA);have o2:=Ub hs ((t.2.1:Int),(t.2.2:Int),rz);lia
theorem EnsM.samT{T:nP}{H H':Hp}{ps:Array nQ}{a:nP}(h:EnsM K H a es)(s:SamT T H H')(hT:H T=rp (.tbl ps)):EnsM K H' a es:=by
 obtain⟨xs,h1,h2⟩:=h;exact#[xs,s.at hT h1 (λ_ z=>by cases z),EnsA.samT s hT h2]
def zcq(K:nO)(T:nP)(H:Hp)(k:Nat)(l:())(ns:List Int)(rs:List zk)(m n:Nat)(H':Hp)(Dk Df:nP):Prop:=∃kept fresh:List Ent,SamT T H H'/\TabOk H' T lp lq/\EnsM K H' Dk kept/\EnsL K H' Df fresh/\fresh.length<64/\(∀e ∈ fresh,EB l e)/\BG k l ns kept/\∀w es,Cpl k l ns n kept fresh w es->Cpl k l ns m [] (fEs rs rs.length) w es
def QT(K:nO)(CO CR CW T:nP):Sp:=λvs H Q _=>∃(o a:nP) (k:Nat) (l:()) (ns:List Int) (rs:List zk) (m:Nat),vs=[.ref o,.ref a,.int (m:Nat)]/\OrdAt CO CR CW H o k l ns/\OG l ns k/\LsA K H a (rs.map dR)/\rs.length<=20/\InL l rs/\(∀r ∈ rs,r.1.length<=60/\r.2.length<=60)/\m<=1000/\TabOk H T lp lq/\∀(w:Bool) (es:List Ent) (p D:nP) (H':Hp),Cpl k l ns (m+1) [] (fEs rs rs.length) w es->BG k l ns es->SamT T H H'->TabOk H' T lp lq->H' p=rp (.tup [.bl w,.ref D])->EnsM K H' D es->Q (.ref p) H'
theorem gk:sQz 3 ["order","pacts","rounds","kept","fresh","turn","slim","lacking"] xL:=by nofun
theorem k7{f CO CR CW TB:nP}(B:Bt mg)(TM:TMc mg)(F:("completed"^^^xL))(mr:(1<<<"first_entries") ["pacts"] [] (YS K))(mi:(8<<<"thinned_within") ["order","entries"] [] (Jo K CO CR CW TB))(mz:(9<<<"unmet_within") ["order","entries"] [] (Jn K CO CR CW))(nj:(5<<<"entry_of") ["entries","overlap"] [] (jK K)):(10&&&["order","pacts","rounds"]) (QT K CO CR CW TB):=by
 obtain⟨t9,g9⟩:=TM.p
 exists F.ok gk
 ·obtain⟨o,a,k,l,ns,rs,m,rfl,ho,hG,hA,hrl,hin,h60,hm,hTab,q⟩:=h
  refine#[_,(zi (xa (i:=3) gk.nd rfl (Or.inr rfl) (xz ze))
   (zi (zD 4 gk.nd (cl0 mr hr .nil rfl (za (pv 1) ze)))
   (zi (yK PassesOwn.never rfl (yX rfl B.range (za (zC yF (pv 2) zf) ze)) (zx (i:=5) gk.nd rfl (.inl rfl))
    (zi (zD 6 gk.nd (cl0 mi hr .nil rfl (za (pv 0) (za (pv 4) ze))))
    (zi (zU (zB op_isN' (pv 6) xC (zE _))
     (zh (zt (zN (za xn (za (pv 3) ze)))))
     zw)
    (zi (xa (i:=3) gk.nd rfl (Or.inr rfl) (pv 6))
    (zi (zD 7 gk.nd (cl0 mz hr .nil rfl (za (pv 0) (za (pv 3) ze))))
    (zi (zU (zB op_isN' (pv 7) xC (zE _))
     (zh (zt (zN (za xn (za (pv 3) ze)))))
     zw)
    (zi (zU (zB wU (zL B.len (pv 7)) zf (zE _))
     (zh (zt (zN (za xn (za (pv 3) ze)))))
     zw)
    (zh (zD 4 gk.nd (zC Z4 (pv 3) (yC (own:=["overlap"]) (caps:=["kept"]) (ix:=[3]) (tt:=xQ) (te:=(uN (jK K) [] E0 (zK (z5 1) (zK (z5 0) xI)))) rfl (zM (sc:=zg xL) rfl (by symm) (by symm) (by symm) rfl (by symm) (by symm) rfl) (ye (z6 jr (pv 7) yZ (z9 (yU (v:=.int 8) rfl g9 #[t9,rfl])))) (λ_ _ _ _ _ _=>zx (i:=0) (show List.Nodup [_,_] by decide) rfl (.inl rfl)) (λ_ _ _ _ _ _=>yd) (λ_ _ _ _ _ _=>(cl0 nj hr .nil rfl (za (pv 1) (za (pv 0) ze)))))))))))))))
   (zh (zt (zN (za xn (za (pv 3) ze)))))))),?_]
  have s16:=ya;have s16:=ya;have hTt:=hTab;obtain⟨tp,htp,_⟩:=hTt;refine zj (λσ H'=>Same H H'/\∃Dk:nP,H' Dk=rp (.lst [])/\σ=[!!o,!!a,-~~~m,!!Dk,rq,rq,rq,rq]) ?_ ?_
  ·ac_rfl;exact#[⋯,λp hp=>#[zd hp,zc]]
  rintro σ H1 ⟨s1,Dk0,hDk0,rfl⟩:_
  have hE0:∀e ∈ fEs rs rs.length,EB l e:=λe he=>by
   obtain⟨i,p,hi,hp,rfl⟩:=uM he;have h1:=h60 p (ag hp);have h2:=hin p (ag hp);exact#[h1.1,h1.2,by show ([((i:Int),(0:Int),rz)]:List Stp).length<=600;simp,h2.2.2.1,h2.2.2.2]
  right;refine zj (λσ H'=>∃Df:nP,zcq K TB H k l ns rs (m+1) (m+1) H' Dk0 Df/\σ=[!!o,!!a,-~~~m,!!Dk0,!!Df,rq,rq,rq]) ?_ ?_
  ·ac_rfl;exact#[a,rs,rfl,hA.same s1,hrl,λDf H' s' _ hM=>#[Df,#[[],fEs rs rs.length,SamT.of (s1.trans s'),hTab.same (s1.trans s'),#[[],s' _ _ hDk0,rfl],hM.l,by have:=WI rs rs.length;lia,hE0,#[by simp,λe he=>(nomatch he),λe he=>(nomatch he)],λw es h=>h],rfl]]
  rintro σ H2 ⟨Df0,hC0,rfl⟩:_;right;refine zj (λσ H'=>∃(Dk Df:nP) (v5 v6 v7:Option V),zcq K TB H k l ns rs (m+1) 0 H' Dk Df/\σ=[!!o,!!a,-~~~m,!!Dk,!!Df,v5,v6,v7]) ?_ ?_
  ·ac_rfl;refine#[⋯,⋯,ForR.by (λi σ H'=>∃(Dk Df:nP) (v5 v6 v7:Option V),zcq K TB H k l ns rs (m+1) (m+1 - i) H' Dk Df/\σ=[!!o,!!a,-~~~m,!!Dk,!!Df,v5,v6,v7]) #[Dk0,Df0,rq,rq,rq,hC0,rfl] ?_ ?_]
   ·refine nm3 ?_;rintro i σ H' hi ⟨Dk,Df,v5,v6,v7,⟨kept,fresh,sT,hT,hK,hF,hfl,hfE,hB,hcp⟩,rfl⟩:_;have hi':i<m+1:=⋯;have en:m+1 - i=(m+1 - (i+1))+1:=⋯;rw[en]at hcp;have hTt:=hT;obtain⟨tq,htq,_⟩:=hTt;have ho':=ho.samT sT htp;right
    erw[yI,bf,be]
    refine zj (λσ' G=>SamT TB H' G/\TabOk G TB lp lq/\(((vV k l ns 20 fresh rq\/∃bs,vV k l ns 20 fresh (rp bs)/\qG bs=rz)/\σ'=[!!o,!!a,-~~~m,!!Dk,!!Df,rp (.int (0+(i:Int))),rp (.non),v7])\/∃(bs:List Ent) (D:nP),vV k l ns 20 fresh (rp bs)/\BG k l ns bs/\qG bs=rA/\EnsM K G D bs/\σ'=[!!o,!!a,-~~~m,!!Dk,!!Df,rp (.int (0+(i:Int))),!!D,v7])) ?_ ?_
    ·ac_rfl;exact#[o,Df,k,l,ns,fresh,rfl,ho',hG,hF,hfl,hfE,hT,λbs D G h1 h2 h3 h4 h5 h6=>#[h4,h5,.inr #[bs,h1,h2,h3,D,h6,rfl]],λh G h4 h5=>#[h4,h5,.inl #[h,rfl]]]
    rintro σ' G1 ⟨g1,hT1,hcase⟩:_;have hK1:=hK.samT g1 htq;right;refine zj (λσ' G=>Same G1 G/\∃(bs:List Ent) (D:nP),vV k l ns 20 fresh (rp bs)/\BG k l ns bs/\qG bs=rA/\EnsM K G D bs/\σ'=[!!o,!!a,-~~~m,!!Dk,!!Df,rp (.int (0+(i:Int))),!!D,v7]) ?_ ?_
    ·rcases hcase with ⟨hno,rfl⟩ | ⟨bs,D,h1,h2,h3,h4,rfl⟩
     ·ac_rfl;exact#[⋯,λp hp=>q rA kept p Dk _ (hcp _ _ (.slim hno)) hB (sT.trans (g1.trans (SamT.of (zd hp)))) (hT1.same (zd hp)) zc (hK1.same (zd hp))]
     ·ac_rfl;exact#[Same.refl _,bs,h1,h2,h3,h4]
    rintro σ' G2 ⟨s2,bs,D,hTh,hBb,hbey,hD,rfl⟩:_;right;refine zj (λσ' G=>G=G2/\σ'=[!!o,!!a,-~~~m,!!D,!!Df,rp (.int (0+(i:Int))),!!D,v7]) ?_ ?_
    ·ac_rfl
    rintro σ' G3 ⟨rfl,rfl⟩:_;have sT3:SamT TB H G3:=sT.trans (g1.trans (SamT.of s2));have hT3:=hT1.same s2;have ho3:=ho.samT sT3 htp;obtain⟨b12,b10⟩:=u7 hbey;have hpl:(zb bs).length=bs.length:=by unfold zb;rw[ac]
    have hol:=zbv (ps:=zb bs) ⋯ λr hr=>by
     obtain⟨e,he,rfl⟩:=rF.mp hr;exact (b10 e he).1
    have hnear:∀e ∈ bs,e.2.2.length<=240:=λe he=>by
     have:=qj hTh bs rfl e he;unfold uJ at this;lia
    right;refine zj (λσ' G=>Same G3 G/\(((∃t ∈ ovA (zb bs) (zb bs).length,¬ OkG (zb bs) 40 t)/\σ'=[!!o,!!a,-~~~m,!!D,!!Df,rp (.int (0+(i:Int))),!!D,rp (.non)])\/∃L:nP,(∀t ∈ ovA (zb bs) (zb bs).length,OkG (zb bs) 40 t)/\LsA K G L ((unG (zb bs) 40).map d3)/\σ'=[!!o,!!a,-~~~m,!!D,!!Df,rp (.int (0+(i:Int))),!!D,!!L])) ?_ ?_
    ·ac_rfl;exact#[o,D,k,l,ns,bs,rfl,ho3,hG,hD.l,hBb,⋯,hol,λh L G s' hL=>#[s',.inr #[h,L,hL,rfl]],λt ht h G s'=>#[s',.inl #[#[t,ht,h],rfl]]]
    rintro σ' G4 ⟨s4,hcase⟩:_;right;refine zj (λσ' G=>Same G3 G/\∃L:nP,(∀t ∈ ovA (zb bs) (zb bs).length,OkG (zb bs) 40 t)/\LsA K G L ((unG (zb bs) 40).map d3)/\σ'=[!!o,!!a,-~~~m,!!D,!!Df,rp (.int (0+(i:Int))),!!D,!!L]) ?_ ?_
    ·rcases hcase with ⟨⟨t,ht,hno⟩,rfl⟩ | ⟨L,h1,h2,rfl⟩
     ·ac_rfl;exact#[⋯,λp hp=>q rA bs p D _ (hcp _ _ (.far hTh hbey ht hno)) hBb (sT3.trans (SamT.of (s4.trans (zd hp)))) (hT3.same (s4.trans (zd hp))) zc (hD.same (s4.trans (zd hp)))]
     ·ac_rfl;exact#[s4,h1,h2]
    rintro σ' G5 ⟨s5,L,hok,hL,rfl⟩:_;right;refine zj (λσ' G=>G=G5/\unG (zb bs) 40≠[]/\σ'=[!!o,!!a,-~~~m,!!D,!!Df,rp (.int (0+(i:Int))),!!D,!!L]) ?_ ?_
    ·ac_rfl;obtain⟨xs,hX,hI⟩:=id hL;have hxl:=hI.len;rw[ac]at hxl;refine#[_,.inl #[_,SqL.of hX,rfl],yG (λh=>#[⋯,λp hp=>q rz bs p D _ (hcp _ _ (.whole hTh hbey hok (List.length_eq_zero_iff.mp ⋯))) hBb (sT3.trans (SamT.of (s5.trans (zd hp)))) (hT3.same (s5.trans (zd hp))) zc (hD.same (s5.trans (zd hp)))]) λh z=>h ?_];rw[z]at hxl;show ((xs.length:Nat):Int)=0;rw[hxl];rfl
    rintro σ' G6 ⟨rfl,hne,rfl⟩:_;right;ac_rfl;obtain⟨xs,hX,hI⟩:=id hL;have hxl:=hI.len;rw[ac]at hxl;have hct:QO xs rq (rp 8)=xs.take 8:=je xs (k:=8) ∅;refine#[_,SqL.of hX,λp hp=>?_];rw[hct];have u1:=zd (o:=HO.lst (xs.take 8)) hp;have hS7:(upd G6 p (.lst (xs.take 8))) p=rp (.lst (xs.take 8)):=zc;have hX7:=Iss.same u1 _ _ hI;have hD7:=hD.same (s5.trans u1);refine#[#[_,SqL.of hS7],λE1 hE1=>?_];generalize upd G6 p (.lst (xs.take 8))=G7 at *;refine CompL.by (xs:=xs.take 8) (λj rE H'=>Same G7 H'/\H' E1=rp (.lst rE)/\rE.length<=j/\EnsA K (qJ E1 H') (((unG (zb bs) 40).take j).map (qk bs)) rE) #[zd hE1,zc,ao _,rfl] (λj rE H' _ h=>SqL.of (h.1 _ _ hS7)) ?_ ?_
    ·refine nm4 ?_;rintro j x rE H' hx ⟨hs,hH,hal,hEn⟩:_;have hjl:=(rG.mp hx).1;have hj8:j<8:=by rw[aF]at hjl;lia
     rw[db hj8]at hx;obtain⟨t,pt,ht,rfl,hpt⟩:=hX7.get3 hx;have htm:=(rN.mp (ag ht)).1;right
     erw[xQ]
     rfl'
     refine#[yL,D,pt,bs,t,rfl,(hD7.same hs).l,zl hs hpt,htm,hBb.ok ⋯,λe he=>(hBb.e e he).s,λp' s' H5 h1 h2 h3 h4=>?_];have hH5:=h1 _ _ hH;have hsE:s'≠E1:=λz=>by rw[z,hH]at h4;cases h4
     refine#[hH5,⋯,CNx.mk hjl #[zy (hs.trans h1) hE1,zc,by rw[am];erw[aE,bo];lia,?_]];rw[zH ht,aq];exact (hEn.same ((wj h1).trans y4)).snoc ((EnA.new (e:=qk bs t) hH5 h2 h3 hsE).same y4)
    ·rintro rE H' ⟨hs,hH,hal,hEn⟩
     have hEn':EnsA K H' (((unG (zb bs) 40).take 8).map (qk bs)) rE:=by
      have h1:=hEn.same xS;rw[aF,hxl]at h1
      have e:(unG (zb bs) 40).take (min 8 (unG (zb bs) 40).length)=(unG (zb bs) 40).take 8:=by
       rw[<- eW,aH]
      rw[e]at h1;exact h1
     have hal8:rE.length<=8:=by rw[aF]at hal;lia
     obtain⟨xk,hxk,hek⟩:=hD7.same hs;have hkl:=hek.len;refine#[E1,rfl,xk,hxk,rE,hH,⋯,λp2 hp2=>#[D,p2,#[bs,_,sT3.trans (SamT.of (s5.trans (u1.trans (hs.trans (zd hp2))))),hT3.same (s5.trans (u1.trans (hs.trans (zd hp2)))),#[xk,zd hp2 _ _ hxk,hek.same (zd hp2)],#[xk ++ rE,SqL.of zc,(hEn'.same (zd hp2)).app (hek.same (zd hp2))],?_,λe he=>?_,hBb,λw es h=>hcp w es (.more hTh hbey hok hne h)],rfl,rfl]]
     ·rw[am,ac,aF];lia
     ·rcases rJ.mp he with he | he
      ·exact hBb.e e he
      ·obtain⟨t,ht,rfl⟩:=rF.mp he;exact WW hBb hbey hnear (rN.mp (bI ht)).1
   ·rintro σ H' ⟨Dk,Df,v5,v6,v7,hC,rfl⟩;rw[show ((m:Int)+1).toNat=m+1 by lia,Nat.sub_self]at hC;exact#[Dk,Df,hC,_,_,_,rfl]
  rintro σ H3 ⟨Dk,Df,v5,v6,v7,⟨kept,fresh,sT,hT,hK,hF,hfl,hfE,hB,hcp⟩,rfl⟩:_;right;ac_rfl;exact#[⋯,λp hp=>q rA kept p Dk _ (hcp _ _ (.out kept fresh)) hB (sT.trans (SamT.of (zd hp))) (hT.same (zd hp)) zc (hK.same (zd hp))]
theorem ThinL.pairs{l:()}{zs bs:List Ent}(h:ThinL k l ns zs)(hp:zb bs=zb zs)(hE:∀e ∈ bs,EB l e):ThinL k l ns bs:=by
 have key:∀(i:Nat) (a:Ent),bs[i]? = rp a->∃z,zs[i]? = rp z/\z.1=a.1/\z.2.1=a.2.1:=λi a ha=>by
  have h1:(zb bs)[i]? = rp (a.1,a.2.1):=by unfold zb;rw[ay,ha];rfl
  rw[hp]at h1;unfold zb at h1;rw[ay]at h1;obtain⟨z,hz,e⟩:=rO.mp h1;exact#[z,hz,(Prod.ext_iff.mp e).1,(Prod.ext_iff.mp e).2]
 refine#[#[hE,λe he=>?_],λi j a b ha hb hij=>?_,λi j a b ha hb hij=>?_,λi j a b ha hb=>?_]
 ·obtain⟨i,hi⟩:=rY.mp he;obtain⟨z,hz,e1,e2⟩:=key i e hi;rw[<- e1,<- e2];exact h.rl.lt z (ag hz)
 all_goals
  obtain⟨x,hx,e1,e2⟩:=key i a ha;obtain⟨y,hy,f1,f2⟩:=key j b hb;rw[<- f1]
 ·rw[<- e1];exact h.up i j x y hx hy hij
 ·rw[<- e1];exact h.no1 i j x y hx hy hij
 ·rw[<- e2];exact h.no2 i j x y hx hy
structure KXs(K:nO):Prop where
 ss:aS K (.type "str") (.type "str")=rp rz
def Uc(K:nO):Sp:=λvs H Q _=>∃(a:nP) (es:List Ent),vs=[.ref a]/\Is K H (.lst (es.map dE)) (.ref a)/\Q (.bl rz) H
theorem mv:sQz 1 ["_law_found","_law_entry"] uS:=by nofun
theorem XB(B:Bt mg)(T:TLs K)(TX:KXs K)(F:("_law_entries"^^^uS))(nB:(2<<<"_law_steps") ["_law_found"] [] (Y6 K)):(3&&&["_law_found"]) (Uc K):=by
 exists F.ok mv
 ·obtain⟨a,es,rfl,hA,q⟩:=h
  refine#[_,(zi (zU (yn (yT (yY rfl B.isi (pv 0) rfl B.list PySem.Pv.boot_list) (λ_=>rfl)))
    (zh (zt xn))
    zw)
   (zi (yK PassesOwn.never rfl (ye (pv 0)) (zx (i:=1) mv.nd rfl (.inl rfl))
    (zi (zU (PW.pt (ut (yn (yT (yY rfl B.isi (pv 1) rfl B.tuple PySem.Pv.boot_tuple) (λ_=>rfl))) (ut (zB Xz (zL B.len (pv 1)) zf (zE _)) (vY (yn (yT (cl0 nB hr .nil rfl (za (zm ix_tup (pv 1) zf) ze)) (λ_=>rfl)))))))
     (zh (zt xn))
     zw)
    (zh (zU (PW.pt (ut (yn (yT (yY rfl B.isi (zm ix_tup (pv 1) zf) rfl B.str PySem.Pv.boot_str) (λ_=>rfl))) (vY (yn (yT (yY rfl B.isi (zm ix_tup (pv 1) zf) rfl B.str PySem.Pv.boot_str) (λ_=>rfl))))))
     (zh (zt xn))
     zw))))
   (zh (zt xn)))),?_]
  have s16:=ya
  erw[Is]at hA
  obtain⟨_,xs,e,hX,hI⟩:=hA;cases e;refine zj (λσ H'=>H'=H/\σ=[!!a,rq]) ?_ ?_
  ·rfl'
   exact#[_,.inr (.inr (.inl #[_,_,rfl,rfl,hX])),rz,T.ll,Uh trivial]
  rintro σ H1 ⟨rfl,rfl⟩:_;right;refine zj (λσ H'=>H'=H1/\∃v1,σ=[!!a,v1]) ?_ ?_
  ·rfl'
   refine#[#[_,hX],ForL.by (xs:=xs) (λi σ H'=>H'=H1/\∃v1,σ=[!!a,v1]) #[rfl,_,rfl] (λi σ H' _ h=>by rw[h.1];exact hX) ?_ λσ H' h=>h];refine nm4 ?_;rintro i x σ H' hx ⟨rfl,v1,rfl⟩:_;obtain⟨e,pe,se,hei,rfl,hqe,hse⟩:=YM hI hx;right
   erw[yI,bf,be]
   refine zj (λσ H''=>H''=H'/\σ=[!!a,!!pe]) ?_ ?_
   ·rfl'
    exact#[_,.inr (.inr (.inr #[_,_,rfl,rfl,hqe])),rz,T.tt,Uh #[_,.inr #[_,hqe,rfl],yG (λh=>absurd rfl h) λ_=>#[_,hqe,_,rfl,se,e.2.2,rfl,hse,rz,rfl,Uh rfl]]]
   rintro σ G ⟨rfl,rfl⟩:_;right
   rfl'
   exact#[_,hqe,_,rfl,_,.inl (.str _),rz,TX.ss,Uh #[_,hqe,_,rfl,_,.inl (.str _),rz,TX.ss,Uh trivial]]
  rintro σ H2 ⟨rfl,v1,rfl⟩:_;right
  rfl'
  exact q
theorem jw{w:()}{i:Nat}{q:Int}{f:Bool}{r:zk}(hr:ps[i]? = rp r)(h:zr w q (sdl r f).1=rz):yg ps w ((i:Int),q,f)=rp (yE w q (sdl r f).1 (sdl r f).2):=by
 have hi:=(rG.mp hr).1
 have e:ps.getD ((i:Int),q,f).1.toNat ([],[])=r:=by
  show ps.getD ((i:Int)).toNat ([],[])=r;rw[aP,aa,hr];rfl
 rw[yA (show 0<=((i:Int),q,f).1/\((i:Int),q,f).1<ps.length by constructor <;> simp <;> lia),e,if_pos h]
theorem UI{n:Nat}(h:e ∈ fEs rs n):EOk rs e:=by
 obtain⟨i,p,hi,hp,rfl⟩:=uM h;show z7 rs p.1 [((i:Int),(0:Int),rz)]=rp p.2
 have hs:zr p.1 0 (sdl p rz).1=rz:=by
  show zr p.1 0 p.1=rz;refine decide_eq_true #[⋯,⋯,?_];show (p.1.drop 0).take p.1.length=p.1;rw[dU,aH]
 erw[z7,jw hp hs,bM]
 show rp (yE p.1 0 p.1 p.2)=rp p.2;congr 1;unfold yE;show p.1.take 0 ++ p.2 ++ p.1.drop (0+p.1.length)=p.2;rw[bn,bC,bc ⋯,aX]
theorem K4(hb:∀e ∈ bs,EOk rs e){t:N3}(ht:t ∈ ovA (zb bs) (zb bs).length):EOk rs (qk bs t):=by
 obtain⟨i1,i2,i3,i4⟩:=uY ht;obtain⟨r,hr⟩:∃r,(zb bs)[t.1]? = rp r:=#[_,ae i1];obtain⟨r2,hr2⟩:∃r,(zb bs)[t.2.1]? = rp r:=#[_,ae i2];have l1:=vo hr;have l2:=vo hr2;have d1:(zb bs).getD t.1 ([],[])=r:=by rw[aa,hr];rfl
 have d2:(zb bs).getD t.2.1 ([],[])=r2:=by rw[aa,hr2];rfl
 rw[l1]at i3;rw[l1,l2]at i4;have eA:pkA (zb bs) t=yE (z8 r.1 r2.1 t.2.2) 0 r.1 r.2:=by unfold pkA;rw[l1,l2,d1]
 have eB:pkB (zb bs) t=yE (z8 r.1 r2.1 t.2.2) (t.2.2:Nat) r2.1 r2.2:=by unfold pkB;rw[l1,l2,d2]
 refine j9 hb ?_;show z7 (zb bs) (pkA (zb bs) t) [((t.1:Int),(0:Int),rA),((t.2.1:Int),(t.2.2:Int),rz)]=rp (pkB (zb bs) t);obtain⟨b1,b2⟩:=Yk r.2 (jb r.1 r2.1 t.2.2);rw[eA,eB];have h1:=jw (f:=rA) (q:=0) hr (w:=yE (z8 r.1 r2.1 t.2.2) 0 r.1 r.2) b1;have h2:=jw (f:=rz) (q:=(t.2.2:Int)) hr2 (w:=z8 r.1 r2.1 t.2.2) (u8 ⋯ i4)
 have h1':yg (zb bs) (yE (z8 r.1 r2.1 t.2.2) 0 r.1 r.2) ((t.1:Int),(0:Int),rA)=rp (z8 r.1 r2.1 t.2.2):=by
  rw[h1];congr 1
 have h2':yg (zb bs) (z8 r.1 r2.1 t.2.2) ((t.2.1:Int),(t.2.2:Int),rz)=rp (yE (z8 r.1 r2.1 t.2.2) (t.2.2:Nat) r2.1 r2.2):=h2
 erw[z7,h1',h2',bM]
theorem VC{l:()}{es bs zs:List Ent}(h:vV k l ns 20 es (rp bs))(hb:qG bs=rA)(hz:ThinL k l ns zs)(hp:zb bs=zb zs):BG k l ns bs:=by
 obtain⟨b1,_⟩:=u7 hb
 have key:∀e ∈ bs,∃z ∈ zs,z.1=e.1/\z.2.1=e.2.1:=λe he=>by
  have:(e.1,e.2.1) ∈ zb zs:=by rw[<- hp];exact rF.mpr #[e,he,rfl]
  obtain⟨z,hz,e2⟩:=rF.mp this;injection e2 with h1 h2;exact#[z,hz,h1,h2]
 refine#[⋯,λe he=>?_,λe he=>?_]
 ·obtain⟨z,hzm,h1,h2⟩:=key e he;have hE:=hz.rl.e z hzm;have hn:=qj h bs rfl e he;unfold uJ at hn;exact#[⋯,⋯,⋯,by rw[<- h1];exact hE.ma,by rw[<- h2];exact hE.mb]
 ·obtain⟨z,hzm,h1,h2⟩:=key e he;rw[<- h1,<- h2];exact hz.rl.lt z hzm
def Gd(rs:List zk)(k:Nat)(l:())(ns:List Int)(es:List Ent):Prop:=(∀e ∈ es,EOk rs e)/\(es=[]\/(ThinL k l ns es/\qG es=rA/\BG k l ns es))
theorem ZT{rs:List zk}{l:()}(G:OG l ns k){es bs:List Ent}(h:vV k l ns 20 es (rp bs))(hb:qG bs=rA)(he:∀e ∈ es,EB l e)(ho:∀e ∈ es,EOk rs e):Gd rs k l ns bs:=by
 obtain⟨h1,zs,hz,hp⟩:=YY (rs:=rs) G h bs rfl he ho;have hB:=VC h hb hz hp;exact#[h1,.inr #[hz.pairs hp hB.e,hb,hB]]
theorem zaV{rs:List zk}{k n:Nat}{l:()}(G:OG l ns k){kept fresh es:List Ent}{w:Bool}(h:Cpl k l ns n kept fresh w es):(∀e ∈ fresh,EB l e)->(∀e ∈ fresh,EOk rs e)->Gd rs k l ns kept->Gd rs k l ns es:=by
 induction h with
 | out kept fresh=>exact λ_ _ h=>h
 | slim _=>exact λ_ _ h=>h
 | far h hb _ _=>exact λhe ho _=>ZT G h hb he ho
 | whole h hb _ _=>exact λhe ho _=>ZT G h hb he ho
 | @more n kept fresh bs es w h hb ho' hu r ih =>
  intro he ho _;have hg:=ZT (rs:=rs) G h hb he ho
  have hB:BG k l ns bs:=by
   obtain⟨h1,zs,hz,hp⟩:=YY (rs:=rs) G h bs rfl he ho;exact VC h hb hz hp
  have hnear:∀e ∈ bs,e.2.2.length<=240:=λe hm=>by
   have:=qj h bs rfl e hm;unfold uJ at this;lia
  refine ih (λe hm=>?_) (λe hm=>?_) hg
  ·rcases rJ.mp hm with hm | hm
   ·exact hB.e e hm
   ·obtain⟨t,ht,rfl⟩:=rF.mp hm;exact WW hB hb hnear (rN.mp (bI ht)).1
  ·rcases rJ.mp hm with hm | hm
   ·exact hg.1 e hm
   ·obtain⟨t,ht,rfl⟩:=rF.mp hm;exact K4 hg.1 (rN.mp (bI ht)).1
structure TTl(K:nO):Prop where
 tt:aS K (.type "tuple") (.type "tuple")=rp rz
 bb:aS K (.type "bool") (.type "bool")=rp rz
def Xc(K:nO):Sp:=λvs H Q _=>∃(p D:nP) (w:Bool) (es:List Ent),vs=[.ref p]/\H p=rp (.tup [.bl w,.ref D])/\EnsL K H D es/\Q (.bl rz) H
theorem KW:sQz 1 ["_law_found"] Vq:=by nofun
theorem Ke(B:Bt mg)(TT':TTl K)(F:("_law_told"^^^Vq))(nq:(3<<<"_law_entries") ["_law_found"] [] (Uc K)):(4&&&["_law_found"]) (Xc K):=by
 exists F.ok KW
 ·obtain⟨p,D,w,es,rfl,hp,hE,q⟩:=h
  refine#[_,(zi (zU (PW.pt (ut (yn (yT (yY rfl B.isi (pv 0) rfl B.tuple PySem.Pv.boot_tuple) (λ_=>rfl))) (ut (zB Xz (zL B.len (pv 0)) zf (zE _)) (vY (yn (yT (yY rfl B.isi (zm ix_tup (pv 0) zf) rfl B.bool PySem.Pv.boot_bool) (λ_=>rfl)))))))
    (zh (zt xn))
    zw)
   (zh (zt (cl0 nq hr .nil rfl (za (zm ix_tup (pv 0) zf) ze))))),?_]
  have s16:=ya;refine zj (λσ H'=>H'=H/\σ=[!!p]) ?_ ?_
  ·ac_rfl;exact#[_,.inl (.tup hp),rz,TT'.tt,yG (λe=>by cases e) λ_=>#[_,.inr #[_,SqT.of hp,rfl],yG (λe=>absurd rfl e) λ_=>#[_,SqT.of hp,_,rfl,_,.inl (.bl _),rz,TT'.bb,yG (λe=>by cases e) λ_=>trivial]]]
  rintro σ H1 ⟨rfl,rfl⟩:_;right;ac_rfl;exact#[_,SqT.of hp,_,rfl,D,es,rfl,hE.is,q]
def Rw(ps:List zk)(u v:()):Prop:=∃p,p ∈ ps/\∃a b,u=a ++ p.1 ++ b/\v=a ++ p.2 ++ b
inductive Rws(ps:List zk):()->()->Prop where
 | nil {u:()}:Rws ps u u
 | cons {u v w:()} (h:Rw ps u v) (h2:Rws ps v w):Rws ps u w
theorem Rw.ctx{u v:()}(h:Rw ps u v)(c d:()):Rw ps (c ++ u ++ d) (c ++ v ++ d):=by
 obtain⟨p,hp,a,b,rfl,rfl⟩:=h;exact#[p,hp,c ++ a,b ++ d,by erw[aR],by erw[aR]]
theorem Rws.ctx{u v:()}(h:Rws ps u v)(c d:()):Rws ps (c ++ u ++ d) (c ++ v ++ d):=by
 induction h with
 | nil=>exact .nil
 | cons s _ ih=>exact .cons (s.ctx c d) ih
section
variable{k:Nat}{l:()}{ws:List Int}{ps:List zk}
noncomputable def mu(k:Nat)(l:())(ws:List Int)(Ws:List (()))(v:()):Nat:=Ws.countP λy=>zF k l ws y v
end
section
variable{k:Nat}{l:()}{ws:List Int}{es fs:List Ent}
end
noncomputable def lgR(p:zk):zk:=if p.1.length<p.2.length then (p.2,p.1)else p
theorem kE(rs:List zk):∀n,n<=rs.length->zb (fEs rs n)=rs.take n
 | 0,_=>by simp [fEs,zb]
 | n+1,h=>by
  have ih:=kE rs n ⋯;have e:rs[n]? = rp (rs[n]'⋯):=ae ⋯;rw[zH e,<- ih]
  erw[fEs,zb,aq]
  congr 1;rw[e];rfl
theorem wE{w:()}{i:Nat}(h:zO ps w i):goJ ps 40 w=rp i:=by
 cases e:goJ ps 40 w with
 | none=>exact absurd h.end_ (Ys e i h.most)
 | some j =>
  obtain⟨_,h2,h3⟩:=j8 e;rw[YN h2 h3 h.live h.end_]
def Alk(rs rs':List zk):Prop:=rs'.length=rs.length/\∀g:zk->zk,(∀p ∈ rs,g (p.2,p.1)=g p)->(rs'.map g).Perm (rs.map g)
theorem Alk.snoc{rs rs':List zk}{r r':zk}(h:Alk rs rs')(e:r'=r\/r'=(r.2,r.1)):Alk (rs ++ [r]) (rs' ++ [r']):=by
 refine#[by rw[am,am,h.1];rfl,λg hg=>?_];rw[aq,aq]
 have e':g r'=g r:=by
  rcases e with rfl | rfl
  ·rfl
  ·exact hg r (aD _ az)
 rw[aj,aj,e'];exact (h.2 g λp hp=>hg p (bu _ hp)).append_right _
theorem Alk.perm{rs rs1 rs2:List zk}(h:Alk rs rs1)(e:rs2.Perm rs1):Alk rs rs2:=#[e.length_eq.trans h.1,λg hg=>(e.map g).trans (h.2 g hg)]
theorem Iss.drop:∀(n:Nat) {l:List L3.D} {vs:List V},Iss K H l vs->Iss K H (l.drop n) (vs.drop n)
 | 0,_,_,h=>h
 | n+1,[],vs,h=>by
  erw[Iss]at h
  subst h
  erw[List.drop_nil,Iss]
 | n+1,d::l,vs,h=>by
  erw[Iss]at h
  obtain⟨v,r,rfl,_,h2⟩:=h;exact Iss.drop n h2
theorem Iss.take:∀(n:Nat) {l:List L3.D} {vs:List V},Iss K H l vs->Iss K H (l.take n) (vs.take n)
 | 0,_,_,_=>by erw[bn,Iss]
 | n+1,[],vs,h=>by
  erw[Iss]at h
  subst h
  erw[List.take_nil,Iss]
 | n+1,d::l,vs,h=>by
  erw[Iss]at h
  obtain⟨v,r,rfl,h1,h2⟩:=h
  erw[cM,Iss]
  exact#[v,_,rfl,h1,Iss.take n h2]
theorem Iss.rev:∀{l:List L3.D} {vs:List V},Iss K H l vs->Iss K H l.reverse vs.reverse
 | [],vs,h=>by
  erw[Iss]at h
  subst h
  erw[List.reverse_nil,Iss]
 | d::l,vs,h=>by
  erw[Iss]at h
  obtain⟨v,r,rfl,h1,h2⟩:=h;rw[di,di];exact Iss.append (Iss.rev h2) (by erw[Iss];exact#[v,[],rfl,h1,rfl])
def Zi(K:nO):Sp:=λvs H Q _=>∃(a:nP) (c:Int) (rs:List zk),vs=[.ref a,.int c]/\qE c/\LsA K H a (rs.map dR)/\rs.length<=20/\∀(D:nP) (H':Hp) (rs':List zk),Same H H'->LsA K H' D (rs'.map dR)->Alk rs rs'->Q (.ref D) H'
theorem iw:sQz 2 ["_law_pacts","_law_cell_here","_law_at"] vt:=by nofun
theorem X9(B:Bt mg)(F:("_law_turned"^^^vt))(lc:(1<<<"_law_mixed") ["_law_cell_here","_law_turn"] [] vf):(2&&&["_law_pacts","_law_cell_here"]) (Zi K):=by
 exists F.ok iw
 ·obtain⟨a,c,rs,rfl,hc,hA,hrl,q⟩:=h
  refine#[_,(zi (xa (i:=0) iw.nd rfl (Or.inr rfl) (yC (g:=Kk K 2 (qI (yI 0) (qI (yI 1) Kh))) (own:=["_law_k","_law_pact"]) (caps:=["_law_cell_here"]) (ix:=[1]) (tt:=xQ) (te:=(tIf (XR (tOp rEq (tOp (rI (λ_ j=>0<j) λi j=>.int (i % j)) (uN vf [] E0 (zK (z5 2) (zK (tOp Xv (tC (.int 11)) (z5 0)) xI))) (tC (.int 2))) (tC (.int 0)))) (z5 1) (XY (zK (tOp (wV K) (z5 1) (tC (.int 1))) (zK (tOp (wV K) (z5 1) (tC (.int 0))) xI))))) rfl (zM (sc:=zg vt) rfl (by symm) (by symm) (by symm) rfl (by symm) (by symm) rfl) (wC rfl B.enum (za (pv 0) ze)) (λ_ _ _ _ _ _=>qU (n:=2) rfl (yh (zx (i:=0) (show List.Nodup [_,_,_] by decide) rfl (.inl rfl)) (yh (zx (i:=1) (show List.Nodup [_,_,_] by decide) rfl (.inl rfl)) vI))) (λ_ _ _ _ _ _=>yd) (λ_ _ _ _ _ _=>(uF (zB wU (zC wa (cl0 lc hr .nil rfl (za (pv 2) (za (zC Z4 zf (pv 0)) ze))) zf) zf (zE _)) (pv 1) (zN (za (zm ix_tup (pv 1) zf) (za (zm ix_tup (pv 1) zf) ze)))))))
   (zi (zD 2 iw.nd (zC wa (cl0 lc hr .nil rfl (za (pv 1) (za zf ze))) (yM (YQ rfl) rfl B.max vb (za zf (za (zL B.len (pv 0)) ze)))))
   (zi (xa (i:=0) iw.nd rfl (Or.inr rfl) (zC jc (z6 jr (pv 0) (z9 (pv 2)) yZ) (z6 jr (pv 0) yZ (z9 (pv 2)))))
   (zi (zU (zB wU (zC wa (cl0 lc hr .nil rfl (za (pv 1) (za zf ze))) zf) zf (zE _))
    (zh (xa (i:=0) iw.nd rfl (Or.inr rfl) (yC (own:=["_law_k"]) (caps:=["_law_pacts"]) (ix:=[0]) (tt:=xQ) (te:=(tOp (zak K) (z5 1) (tOp (rI0 λi j=>.int (i - j)) (tOp (rI0 λi j=>.int (i - j)) (tCB (X2 K) (zK (z5 1) xI)) (tC (.int 1))) (z5 0)))) rfl (zM (sc:=zg vt) rfl (by symm) (by symm) (by symm) rfl (by symm) (by symm) rfl) (yX rfl B.range (za (zL B.len (pv 0)) ze)) (λ_ _ _ _ _ _=>zx (i:=0) (show List.Nodup [_,_] by decide) rfl (.inl rfl)) (λ_ _ _ _ _ _=>yd) (λ_ _ _ _ _ _=>(zm ix_list (pv 1) (zC xO (zC xO (zL B.len (pv 1)) zf) (pv 0)))))))
    zw)
   (zh (zt (pv 0))))))),?_]
  have s16:=ya;obtain⟨xs,hX,hI⟩:=id hA;have hxl:=hI.len;rw[ac]at hxl;refine zj (λσ H'=>Same H H'/\∃D:nP,(∃rs1:List zk,LsA K H' D (rs1.map dR)/\Alk rs rs1)/\σ=[!!D,~~~!c,rq]) ?_ ?_
  ·rfl'
   rw[QK]
   rfl'
   refine#[#[_,SqL.of hX],λD hD=>CompEL.by (xs:=xs) (λi rE H'=>Same H H'/\H' D=rp (.lst rE)/\∃rs1:List zk,Iss K H' (rs1.map dR) rE/\Alk (rs.take i) rs1) #[zd hD,zc,[],by erw[aw,Iss],rfl,λ_ _=>.refl _] (λi rE H' _ h=>SqL.of (h.1 _ _ hX)) ?_ ?_]
   ·rintro i x rE H' p hx ⟨hs,hH,rs1,hIs,hAk⟩ hp;have hil:=(rG.mp hx).1;obtain⟨r,pr,hri,rfl,hqr⟩:=hI.getR hx;have u1:=zd (o:=HO.tup [.int (i:Nat),.ref pr]) hp;have hq:=zl (hs.trans u1) hqr;have hal:=hIs.len;rw[ac,hAk.1,aF]at hal;have et:rs.take (i+1)=rs.take i ++ [r]:=zH hri;refine zbg (SqT.of zc) ?_
    erw[xQ]
    have hs1:=hs.trans u1;have hH1:=u1 _ _ hH;have hI1:=Iss.same u1 _ _ hIs;generalize upd H' p (.tup [.int (i:Nat),.ref pr])=H1 at hq hs1 hH1 hI1
    rfl'
    refine#[QN,vg hc ⋯ ⋯ λz _=>#[z,rfl,∅,yG (λ_=>#[hH1,⋯,CNx.mk hil #[zy hs1 hD,zc,rs1 ++ [r],?_,by rw[et];exact hAk.snoc (.inl rfl)]]) λ_=>#[_,hq,_,rfl,_,hq,_,rfl,⋯,λp2 hp2=>#[zd hp2 _ _ hH1,⋯,CNx.mk hil #[zy (hs1.trans (zd hp2)) hD,zc,rs1 ++ [(r.2,r.1)],?_,by rw[et];exact hAk.snoc (.inr rfl)]]]]]
    ·rw[aq];obtain⟨ys,hY,hJ⟩:=LsA.snoc hH1 hI1 (xH rs1) (wN r) (wI hq);rw[zc]at hY;cases hY;exact hJ
    ·rw[aq];have u2:=zd (o:=HO.tup [.str (tx r.2),.str (tx r.1)]) hp2;obtain⟨ys,hY,hJ⟩:=LsA.snoc (u2 _ _ hH1) (Iss.same u2 _ _ hI1) (xH rs1) (wN (r.2,r.1)) (wI (SqT.of zc));rw[zc]at hY;cases hY;exact hJ
   ·rintro rE H' ⟨hs,hH,rs1,hIs,hAk⟩;rw[hxl,aH]at hAk;exact#[hs,D,#[rs1,#[rE,hH,hIs],hAk],rfl]
  rintro σ H1 ⟨s1,D,⟨rs1,hL1,hAk⟩,rfl⟩:_;obtain⟨x1,hX1,hI1⟩:=id hL1;have hx1l:=hI1.len;have ha1:=hAk.1;rw[ac]at hx1l;right;refine zj (λσ H'=>H'=H1/\∃n:Nat,n<=x1.length/\σ=[!!D,~~~!c,-~~~n]) ?_ ?_
  ·rfl'
   refine vg hc ∅ ∅ λz hz=>#[_,.inl #[_,SqL.of hX1,rfl],z,rfl,by split <;> lia,rfl,?_];by_cases g:(x1.length:Int) > 1
   ·have m0:=cZ z (b:=(x1.length:Int)) ⋯;have m1:=de z (b:=(x1.length:Int)) ⋯;rw[if_pos g];exact#[(z % (x1.length:Int)).toNat,⋯,⋯]
   ·rw[if_neg g];exact#[0,aB _,⋯]
  rintro σ H1 ⟨rfl,n,hn,rfl⟩:_;right;refine zj (λσ H'=>Same H H'/\∃D:nP,(∃rs1:List zk,LsA K H' D (rs1.map dR)/\Alk rs rs1)/\σ=[!!D,~~~!c,-~~~n]) ?_ ?_
  ·rfl'
   have e1:QO x1 (rp (n:Int)) rq=x1.drop n:=vd x1 (Int.natCast_nonneg n);have e2:QO x1 rq (rp (n:Int))=x1.take n:=je x1 (Int.natCast_nonneg n);refine#[_,SqL.of hX1,?_]
   erw[e1]
   refine λp hp=>#[_,SqL.of (zd hp _ _ hX1),?_]
   erw[e2]
   intro p1 hp1;refine#[_,zd hp1 _ _ zc,_,zc,by rw[aZ,aF];lia,λp2 hp2=>?_];have ss:=(zd (o:=.lst (x1.drop n)) hp).trans ((zd (o:=.lst (x1.take n)) hp1).trans (zd (o:=.lst (x1.drop n ++ x1.take n)) hp2));refine#[s1.trans ss,rs1.drop n ++ rs1.take n,#[_,zc,?_],hAk.perm ?_]
   ·rw[aq,dv,dn];exact Iss.same ss _ _ (Iss.append (Iss.drop n hI1) (Iss.take n hI1))
   ·exact List.perm_append_comm.trans (.of_eq (bO n rs1))
  rintro σ H2 ⟨s2,D2,⟨rs2,hL2,hAk2⟩,rfl⟩:_;obtain⟨x2,hX2,hI2⟩:=id hL2;have hx2l:=hI2.len;have ha2:=hAk2.1;rw[ac]at hx2l;right;refine zj (λσ H'=>Same H H'/\∃D:nP,(∃rs1:List zk,LsA K H' D (rs1.map dR)/\Alk rs rs1)/\σ=[!!D,~~~!c,-~~~n]) ?_ ?_
  ·rfl'
   refine vg hc ∅ ∅ λz hz=>#[z,rfl,∅,yG (λ_=>#[_,.inl #[_,SqL.of hX2,rfl],⋯,⋯,λJ hJ=>CompR.by (λi rE H'=>Same H2 H'/\H' J=rp (.lst rE)/\rE=x2.reverse.take i) #[zd hJ,zc,rfl] ?_ ?_]) λ_=>#[s2,rs2,hL2,hAk2]]
   ·refine nm3 ?_;rintro i rE H' hi ⟨hs,hH,rfl⟩:_;rw[aP]at hi
    have hr:x2.reverse[i]? = rp (x2[x2.length - 1 - i]'⋯):=by
     rw[bt hi,ae ⋯]
    right
    erw[xQ]
    rfl'
    refine#[yL,_,.inl #[_,SqL.of (hs _ _ hX2),rfl],_,SqL.of (hs _ _ hX2),x2[x2.length - 1 - i]'⋯,?_,hH,by rw[aF,bB];lia,CNx.mk (by rw[aP];exact hi) #[zy hs hJ,zc,?_]]
    ·rw[show (x2.length:Int) - 1 - (0+(i:Int))=((x2.length - 1 - i:Nat):Int) by lia];exact ZW (ae ⋯)
    ·rw[zH hr]
   ·rintro rE H' ⟨hs,hH,rfl⟩;rw[aP,<- bB,aH]at hH;refine#[s2.trans hs,J,#[rs2.reverse,#[_,hH,?_],hAk2.perm (List.reverse_perm rs2)],rfl];rw[dA];exact Iss.same hs _ _ (Iss.rev hI2)
  rintro σ H3 ⟨s3,D3,⟨rs3,hL3,hAk3⟩,rfl⟩:_;right
  rfl'
  exact q D3 H3 rs3 s3 hL3 hAk3
theorem ZI:∀ws:List (()),Str.join (tx []) (ws.map tx)=tx ws.flatten
 | []=>rfl
 | [w]=>by
  show tx w=_;simp
 | w::v::r=>by
  have ih:=ZI (v::r);show tx w ++ tx [] ++ Str.join (tx []) ((v::r).map tx)=_;rw[ih,xW,xW];simp
theorem Yv{ws:List (())}(h:ws.flatten.length<=100000):JoinOk (tx []) (ws.map tx)=rz:=by
 have s16:=ya
 have hf:∀(l:List (())) (n:Nat),(l.map tx).foldl (λa y=>a+y.length+0) n=n+l.flatten.length:=λl=>by
  induction l with
  | nil=>intro n;rfl
  | cons c r ih =>
   intro n;rw[aj,List.foldl_cons,ih,zS,dj,am];lia
 have e:JoinOk (tx []) (ws.map tx)=!PySem.Builtin.Str.tooLong ((ws.map tx).foldl (λa y=>a+y.length+0) 0):=by
  unfold JoinOk;rw[List.foldl_toArray];rfl
 rw[e,hf];unfold PySem.Builtin.Str.tooLong;rw[cB,decide_eq_false_iff_not];lia
noncomputable def dK3(k:Nat)(l:())(r:zk):List L3.D:=[.int (r.1.length:Nat),.lst ((wk k l r.1).map L3.D.int),dR r]
noncomputable def xw(k:Nat)(l:())(rs:List zk)(d:{r // r ∈ rs}):KeyFam {r // r ∈ rs}:=#[λa=>dK3 k l a.1,λa b=>rankF.lt (wY k l [] a.1.1) (wY k l [] b.1.1),rz,d]
theorem Qn{x1 x2 y1 y2:L3.D}{r r':List L3.D}(h:eqD x1 y1=rz->eqD x2 y2=rA):xo (x1::x2::r) (y1::y2::r')=xo [x1,x2] [y1,y2]:=by
 cases e:eqD x1 y1 with
 | false=>erw[xo,e,aY,if_false]
 | true=>erw[xo,e,h e,aY,if_false]
theorem jX(h:(rs.map (·.1)).Nodup){a b:zk}(ha:a ∈ rs)(hb:b ∈ rs)(e:a.1=b.1):a=b:=by
 induction rs with
 | nil=>cases ha
 | cons c rs ih =>
  rw[aj,List.nodup_cons]at h;rcases rH.mp ha with e1 | ha'
  ·rcases rH.mp hb with e2 | hb'
   ·rw[e1,e2]
   ·exact absurd (rF.mpr #[b,hb',by rw[<- e1];exact e.symm]) h.1
  ·rcases rH.mp hb with e2 | hb'
   ·exact absurd (rF.mpr #[a,ha',by rw[<- e2];exact e]) h.1
   ·exact ih h.2 ha' hb'
theorem Xb{l:()}{u v:()}(hu:∀c ∈ u,c ∈ l)(hv:∀c ∈ v,c ∈ l)(h:u≠v):eqD (.lst ((wk k l u).map L3.D.int)) (.lst ((wk k l v).map L3.D.int))=rA:=by
 erw[eqD]
 rw[qy];exact decide_eq_false λe=>h (jx hu hv e)
theorem Yj{l:()}{d:{r // r ∈ rs}}(hk:k≠2)(hn:(rs.map (·.1)).Nodup)(hl:∀r ∈ rs,∀c ∈ r.1,c ∈ l):(xw k l rs d).OkF where
 w:=#[λa b h=>rankF_ok.w.asym _ _ h,λa b c h1 h2=>rankF_ok.w.ntr _ _ _ h1 h2]
 eq:=λa b=>by
  by_cases e:a.1.1=b.1.1
  ·obtain rfl:a=b:=Subtype.ext (jX hn a.2 b.2 e)
   have h1:(xw k l rs d).lt a a=rA:=by
    cases h:(xw k l rs d).lt a a with
    | false=>rfl
    | true=>exact (rankF_ok.w.asym _ _ h).symm.trans h |>.symm
   rw[h1]
   erw[xw,dK3,xo,ve,if_true]
  ·have h:=rankF_ok.eq (wY k l [] a.1.1) (wY k l [] b.1.1);have w1:∀u:(),zq k l [] u=(u.length:Int):=λu=>by unfold zq;rw[if_neg hk]
   erw[xw]
   rw[<- h];unfold dK3;rw[Qn λ_=>Xb (hl _ a.2) (hl _ b.2) e]
   erw[rankF,wY,w1]
 ok:=λa b=>by
  by_cases e:a.1.1=b.1.1
  ·obtain rfl:a=b:=Subtype.ext (jX hn a.2 b.2 e)
   erw[xw,dK3,okF,ve,if_true]
  ·erw[xw,dK3,okF,Xb (hl _ a.2) (hl _ b.2) e,aY,if_false,okD]
   split
   ·exact vw _ _
   ·trivial
 dp:=λa=>by erw[xw,dK3,dR,dpD,wW,jD];decide
 sh:=λa=>#[_,_,rfl,.inl #[rfl,_,rfl]]
theorem Wz{β:Type}{f:β->L3.D}{g:β->V}:∀{ys:List β},(∀y ∈ ys,Is K H (f y) (g y))->Iss K H (ys.map f) (ys.map g)
 | [],_=>by erw[aw,Iss]
 | y::ys,h=>by
  erw[aj,Iss]
  exact#[_,_,rfl,h y az,Wz λz hz=>h z (ar _ hz)]
theorem Vm{β:Type}{f:β->L3.D}:∀{bs:List β} {xs:List V},Iss K H (bs.map f) xs->∀y ∈ bs.zip xs,Is K H (f y.1) y.2
 | [],xs,_,y,hy=>by cases hy
 | b::bs,xs,h,y,hy=>by
  erw[aj,Iss]at h
  obtain⟨x,r,rfl,h1,h2⟩:=h;rcases rH.mp hy with rfl | hy
  ·exact h1
  ·exact Vm h2 y hy
def zaQ(k:Nat)(l:())(rs rs':List zk):Prop:=rs'.Perm rs/\rs'.Pairwise λa b=>rankF.lt (wY k l [] b.1) (wY k l [] a.1)=rA
theorem ZZ{l:()}{d:{r // r ∈ rs}}{xs:List V}(hk:k≠2)(hn:(rs.map (·.1)).Nodup)(hl:∀r ∈ rs,∀c ∈ r.1,c ∈ l)(hI:Iss K H (rs.attach.map λa=>.tup ((xw k l rs d).dec a)) xs) :
  ∃rs':List zk,zaQ k l rs rs'/\Iss K H (rs'.map λr=>.tup (dK3 k l r)) ((srt (λp q=>(xw k l rs d).lt p.1 q.1) ((xw k l rs d).d0,V.non) (rs.attach.zip xs)).map (·.2)):=by
 have W:=(Yj (d:=d) hk hn hl).w;obtain⟨p1,p2⟩:=YG (lt:=λ(p q:{r // r ∈ rs} × V)=>(xw k l rs d).lt p.1 q.1) #[λa b=>W.asym _ _,λa b c=>W.ntr _ _ _] ((xw k l rs d).d0,V.non) (rs.attach.zip xs);generalize srt (λ(p q:{r // r ∈ rs} × V)=>(xw k l rs d).lt p.1 q.1) ((xw k l rs d).d0,V.non) (rs.attach.zip xs)=ys at p1 p2;refine#[ys.map λy=>y.1.1,#[?_,?_],?_]
 ·have h1:=(p1.map (·.1)).map Subtype.val;have hlen:=hI.len;rw[ac]at hlen;rw[eF ⋯,List.attach_map_subtype_val,aV]at h1;exact h1
 ·exact rQ.mpr p2
 ·rw[aV];exact Wz λy hy=>Vm hI y (p1.mem_iff.mp hy)
noncomputable def hid(H:Hp)(R:nP):Hp:=λb=>if b=R then rq else H b
theorem uT{R b:nP}(h:b≠R):hid H R b=H b:=if_neg h
theorem Qp{R:nP}:Same (hid H R) H:=λb o h=>by
 by_cases e:b=R
 ·rw[e,hid,if_pos rfl]at h;cases h
 ·rw[uT e]at h;exact h
theorem K0{R:nP}{o:HO}:hid (upd H R o) R=hid H R:=funext λb=>by
 by_cases e:b=R
 ·rw[e,hid,hid,if_pos rfl,if_pos rfl]
 ·rw[uT e,uT e,zp e]
theorem Um{H H':Hp}{R:nP}(s:Same H H')(hR:H R=rq):Same H (hid H' R):=λb o h=>by
 rw[uT (zG h hR)];exact s b o h
theorem Qh{H H':Hp}{R:nP}(s:Same H H'):Same (hid H R) (hid H' R):=λb o h=>by
 by_cases e:b=R
 ·rw[e,hid,if_pos rfl]at h;cases h
 ·rw[uT e]at h ⊢;exact s b o h
def jL(K:nO):Sp:=λvs H Q _=>∃(a:nP) (rs:List zk) (b:Bool) (l:()),vs=[.ref a,.bl b,.str (tx l)]/\LsA K H a (rs.map dR)/\rs≠[]/\rs.length<=12/\(rs.map (·.1)).Nodup/\(∀r ∈ rs,r.1.length<=10/\∀c ∈ r.1,c ∈ l)/\ZU l=rz/\∀(D:nP) (H':Hp) (rs':List zk),Same H H'->LsA K H' D (rs'.map dR)->zaQ (if b=rz then 1 else 0) l rs rs'->Q (.ref D) H'
theorem iM:sQz 3 ["_law_pairs","_law_right","_law_letters_here","_law_ranks","_law_pair","_law_seen"] vR:=by nofun
theorem UX{f:nP}(B:Bt mg)(hsorted:WJ mg)(F:("_law_sided"^^^vR)) :(3&&&["_law_pairs","_law_right","_law_letters_here"]) (jL K):=by
 exists F.ok iM
 ·obtain⟨a,rs,b,l,rfl,hA,hne,hrl,hn,hl,hg,q⟩:=h
  refine#[_,(zi (zD 3 iM.nd (xz ze))
   (zi (yK PassesOwn.never rfl (ye (pv 0)) (zx (i:=4) iM.nd rfl (.inl rfl))
    (zi (xa (i:=5) iM.nd rfl (Or.inr rfl) (zm ix_tup (pv 4) zf))
    (zi (zU (yT (pv 1) (λ_=>rfl))
     (zh (xa (i:=5) iM.nd rfl (Or.inr rfl) (vG bL eZ e7 Jc yf (za (yC (own:=["_law_k"]) (caps:=["_law_seen"]) (ix:=[5]) (tt:=xQ) (te:=(tOp Jm (z5 1) (tOp (rI0 λi j=>.int (i - j)) (tOp (rI0 λi j=>.int (i - j)) (tCB (X2 K) (zK (z5 1) xI)) (tC (.int 1))) (z5 0)))) rfl (zM (sc:=zg vR) rfl (by symm) (by symm) (by symm) rfl (by symm) (by symm) rfl) (yX rfl B.range (za (zL B.len (pv 5)) ze)) (λ_ _ _ _ _ _=>zx (i:=0) (show List.Nodup [_,_] by decide) rfl (.inl rfl)) (λ_ _ _ _ _ _=>yd) (λ_ _ _ _ _ _=>(zm xY (pv 1) (zC xO (zC xO (zL B.len (pv 1)) zf) (pv 0))))) ze))))
     zw)
    (zh (wm (vG bx bF bG yS (pv 3) (za (zN (za (zL B.len (pv 5)) (za (yC (own:=["_law_sign"]) (caps:=["_law_letters_here"]) (ix:=[2]) (tt:=xQ) (te:=(tBM K "str" UB (z5 1) (zK (z5 0) xI))) rfl (zM (sc:=zg vR) rfl (by symm) (by symm) (by symm) rfl (by symm) (by symm) rfl) (Ua (pv 5)) (λ_ _ _ _ _ _=>zx (i:=0) (show List.Nodup [_,_] by decide) rfl (.inl rfl)) (λ_ _ _ _ _ _=>yd) (λ_ _ _ _ _ _=>(vG bL eX eY zbX (pv 1) (za (pv 0) ze)))) (za (pv 4) ze)))) ze)))))))
   (zh (zt (yC (own:=["_law_rank"]) (caps:=[]) (ix:=[]) (tt:=xQ) (te:=(tOp (wV K) (z5 0) (tC (.int 2)))) rfl (zM (sc:=zg vR) rfl (by symm) (by symm) (by symm) rfl (by symm) (by symm) rfl) (ye (yM (KC (k:=0) (hr.mono ∅)) rfl hsorted eG (za (pv 3) ze))) (λ_ _ _ _ _ _=>zx (i:=0) (show List.Nodup [_] by decide) rfl (.inl rfl)) (λ_ _ _ _ _ _=>yd) (λ_ _ _ _ _ _=>(zm ix_tup (pv 0) zf))))))),?_]
  have s16:=ya;obtain⟨xs,hX,hI⟩:=id hA;have hxl:=hI.len;rw[ac]at hxl;obtain⟨k,hk⟩:∃k:Nat,(if b=rz then 1 else 0)=k:=#[_,rfl];rw[hk]at q;refine zj (λσ H'=>Same H H'/\∃(R:nP),H R=rq/\H' R=rp (.lst [])/\σ=[!!a,rp (.bl b),~~~l,!!R,rq,rq]) ?_ ?_
  ·rfl'
   exact#[aB _,λR hR=>#[zd hR,R,hR,zc,rfl]]
  rintro σ H1 ⟨s1,R,hR,hR1,rfl⟩:_;right;refine zj (λσ H'=>Same H H'/\∃v4 v5:Option V,LsA K H' R (rs.map λr=>.tup (dK3 k l r))/\σ=[!!a,rp (.bl b),~~~l,!!R,v4,v5]) ?_ ?_
  ·rfl'
   refine#[#[_,SqL.of (s1 _ _ hX)],ForL.by (xs:=xs) (λi σ H'=>Same H H'/\∃(v4 v5:Option V) (ys:List V),H' R=rp (.lst ys)/\Iss K (hid H' R) ((rs.take i).map λr=>.tup (dK3 k l r)) ys/\σ=[!!a,rp (.bl b),~~~l,!!R,v4,v5]) #[s1,rq,rq,[],hR1,by erw[bn,aw,Iss],rfl] (λi σ H' _ h=>SqL.of (h.1 _ _ hX)) ?_ ?_]
   ·refine nm4 ?_;rintro i x σ H2 hx ⟨s2,v4,v5,ys,hY,hJ,rfl⟩:_;have hil:=(rG.mp hx).1;obtain⟨r,pr,hri,rfl,hqr⟩:=hI.getR hx;have hrm:=ag hri;obtain⟨hr10,hrc⟩:=hl r hrm;have hq2:=zl s2 hqr;have hyl:=hJ.len;rw[ac,aF]at hyl;right
    erw[yI,bf,be]
    refine zj (λσ H'=>H'=H2/\σ=[!!a,rp (.bl b),~~~l,!!R,!!pr,rp (.str (tx r.1))]) ?_ ?_
    ·rfl'
     exact#[_,hq2,rfl]
    rintro σ H3 ⟨rfl,rfl⟩:_;right;refine zj (λσ H'=>Same H3 H'/\σ=[!!a,rp (.bl b),~~~l,!!R,!!pr,rp (.str (tx (yc k r.1)))]) ?_ ?_
    ·rfl'
     refine yG (λhb=>#[⋯,⋯,⋯,λD hD=>CompR.by (λi rE H'=>Same H3 H'/\H' D=rp (.lst rE)/\rE=(((r.1.reverse.take i).map λc=>[c]).map tx).map V.str) #[zd hD,zc,rfl] ?_ ?_]) λhb=>#[Same.refl _,?_]
     ·refine nm3 ?_;rintro i rE H' hi ⟨hs,hH,rfl⟩:_;rw[aP]at hi
      have hr:r.1.reverse[i]? = rp (r.1[r.1.length - 1 - i]'⋯):=by
       rw[bt hi,ae ⋯]
      have ha:atI r.1 ((r.1.length:Int) - 1 - (0+(i:Int)))=rp (r.1[r.1.length - 1 - i]'⋯):=by
       rw[show (r.1.length:Int) - 1 - (0+(i:Int))=((r.1.length - 1 - i:Nat):Int) by lia];exact ZW (ae ⋯)
      right
      erw[xQ]
      rfl'
      refine#[yL,⋯,⋯,_,ha,hH,by erw[ac,aF,bB];lia,CNx.mk (by rw[aP];exact hi) #[zy hs hD,zc,?_]];rw[zH hr,aq,aq,aq];rfl
     ·rintro rE H' ⟨hs,hH,rfl⟩;rw[aP,<- bB,aH]at hH
      have hfl:(r.1.reverse.map λc=>[c]).flatten=r.1.reverse:=by
       induction r.1.reverse with
       | nil=>rfl
       | cons a r ih=>rw[aj,dj,ih];rfl
      refine#[tx [],D,(r.1.reverse.map λc=>[c]).map tx,rfl,rfl,SqL.of hH,Yv (by rw[hfl,bB];lia),?_];have e:Txt.join (tx []) ((r.1.reverse.map λc=>[c]).map tx)=Str.join (tx []) ((r.1.reverse.map λc=>[c]).map tx):=StrLaws.glued_eq_join _ _;rw[e,ZI,hfl];refine#[hs,?_];rw[<- hk,if_pos hb];rfl
     ·rw[<- hk,if_neg hb];rfl
    rintro σ H4 ⟨s4,rfl⟩:_;have hsl:(yc k r.1).length=r.1.length:=by unfold yc;split <;> erw[bB]
    have hsm:∀c ∈ yc k r.1,c ∈ l:=λc hc=>hrc c (by
     unfold yc at hc;split at hc
     ·exact rP.mp hc
     ·exact hc)
    right
    rfl'
    refine#[.inl #[_,SqL.of (s4 _ _ hY)],⋯,λD hD=>CompS.by (l:=yc k r.1) (λi rE H'=>Same H4 H'/\H' D=rp (.lst rE)/\rE=(ue l ((yc k r.1).take i)).map V.int) #[zd hD,zc,rfl] ?_ ?_]
    ·refine nm4 ?_;rintro i c rE H' hc ⟨hs,hH,rfl⟩:_;have hci:=(rG.mp hc).1;have hcl:=hsm c (ag hc);right
     erw[xQ]
     rfl'
     rw[Jv hcl];refine#[yL,hH,by rw[ac];unfold ue;rw[ac,aF];lia,CNx.mk hci #[zy hs hD,zc,?_]];unfold ue;rw[zH hc,aq,aq];rfl
    ·rintro rE H' ⟨hs,hH,rfl⟩;rw[aH]at hH;have hR':=hs _ _ (s4 _ _ hY);refine#[⋯,λp hp=>?_];have up:=zd (o:=HO.tup [.int ((yc k r.1).length:Nat),.ref D,.ref pr]) hp;have hDR:D≠R:=λe=>by rw[e,s4 _ _ hY]at hD;cases hD
     have hpR:p≠R:=λe=>by rw[e,hR']at hp;cases hp
     have s5:=(s2.trans s4).trans (hs.trans up);refine#[ys,up _ _ hR',⋯,zy s5 hR,_,_,ys ++ [.ref p],zc,?_,rfl,rfl];rw[K0,zH hri,aq];refine Iss.append (Iss.same (Qh (s4.trans (hs.trans up))) _ _ hJ) ?_
     erw[aj,aw,Iss,dK3,Is]
     refine#[_,_,rfl,#[p,_,rfl,SqT.of ((uT hpR).trans zc),_,_,rfl,by rw[hsl],_,_,rfl,#[D,_,rfl,SqL.of ((uT hDR).trans (up _ _ hH)),Iss.ints _],_,_,rfl,wI (zl (Um s5 hR) hqr),rfl],rfl]
   ·rintro σ H2 ⟨s2,v4,v5,ys,hY,hJ,rfl⟩;rw[hxl,aH]at hJ;exact#[s2,#[ys,hY,Iss.same Qp _ _ hJ],v4,v5,rfl]
  rintro σ H2 ⟨s2,v4,v5,⟨ys,hY,hJ⟩,rfl⟩:_;right
  rfl'
  obtain⟨r0,hr0⟩:∃r0,r0 ∈ rs:=by
   cases rs with
   | nil=>exact absurd rfl hne
   | cons r0 _=>exact#[r0,az]
  have hk2:k≠2:=by rw[<- hk];split <;> decide
  have hJ':Iss K H2 (rs.attach.map λa=>.tup ((xw k l rs #[r0,hr0]).dec a)) ys:=by
   rw[show (rs.attach.map λa=>L3.D.tup ((xw k l rs #[r0,hr0]).dec a))=rs.map λr=>.tup (dK3 k l r)from List.attach_map_val (f:=λr=>L3.D.tup (dK3 k l r))];exact hJ
  have hyl:=hJ.len;rw[ac]at hyl;obtain⟨rs',hS,hO⟩:=ZZ hk2 hn (λr hr=>(hl r hr).2) hJ';refine#[R,ys,_,xw k l rs #[r0,hr0],rs.attach,rfl,SqL.of hY,⋯,Yj hk2 hn λr hr=>(hl r hr).2,hJ',λD hD=>#[D,rfl,#[_,SqL.of zc],λJ hJn=>?_]];generalize (srt (λ(p q:{r // r ∈ rs} × V)=>(xw k l rs #[r0,hr0]).lt p.1 q.1) ((xw k l rs #[r0,hr0]).d0,V.non) (rs.attach.zip ys)).map (·.2)=zs at *;have uD:=zd (o:=HO.lst zs) hD;have hzl:=hO.len;have hpl:=hS.1.length_eq;rw[ac]at hzl;refine CompL.by (xs:=zs) (λi rE H'=>Same (upd H2 D (.lst zs)) H'/\H' J=rp (.lst rE)/\Iss K H' ((rs'.take i).map dR) rE) #[zd hJn,zc,by erw[bn,aw,Iss]] (λi rE H' _ h=>SqL.of (h.1 _ _ zc)) ?_ ?_
  ·refine nm4 ?_;rintro i x rE H' hx ⟨hs,hH,hIs⟩:_;have hil:=(rG.mp hx).1;obtain⟨dd,e,hi⟩:=hO.get hx;rw[ay,ae ⋯]at e;obtain rfl:=Option.some.inj e;have ht:rs'[i]? = rp (rs'[i]'⋯):=ae ⋯;right;generalize rs'[i]'⋯=r at *
   erw[dK3,Is,Iss]at hi
   obtain⟨p,us,rfl,hq,u1,t1,rfl,rfl,u2,t2,rfl,_,u3,t3,rfl,h3,rfl⟩:=hi;have hal:=hIs.len;rw[ac,aF]at hal;have hs2:=uD.trans hs
   erw[xQ]
   rfl'
   refine#[yL,_,zl hs2 hq,_,rfl,hH,⋯,CNx.mk hil #[zy hs hJn,zc,?_]];rw[zH ht,aq];obtain⟨ws,hW,hV⟩:=LsA.snoc hH hIs (xH _) (wN r) (Is.same hs2 _ _ h3);rw[zc]at hW;cases hW;exact hV
  ·rintro rE H' ⟨hs,hH,hIs⟩;rw[hzl,aH]at hIs;exact q J H' rs' (s2.trans (uD.trans hs)) #[rE,hH,hIs] hS
noncomputable def kP(k:Nat)(l:())(ns:List Int)(a b:zk):Bool:=if a.1=b.1 then zF k l ns a.2 b.2 else zF k l ns a.1 b.1
noncomputable def um(k:Nat)(l:())(ns:List Int)(p:zk):zk:=if zF k l ns p.2 p.1=rz then p else (p.2,p.1)
noncomputable def za2(k:Nat)(l:())(ns:List Int)(p:zk):List zk->List zk
 | []=>[p]
 | q::r=>if kP k l ns q p=rz then q::za2 k l ns p r else p::q::r
noncomputable def QU(k:Nat)(l:())(ns:List Int)(ps:List zk):List zk:=ps.foldr (za2 k l ns) []
noncomputable def Xw(k:Nat)(l:())(ns:List Int)(ps zs:List zk):Bool:=zs.isPerm ps && decide (zs.Pairwise λa b=>kP k l ns b a=rA) && zs.all λa=>zs.all λb=>kP k l ns a b || kP k l ns b a || decide (a=b)
noncomputable def qF(k:Nat)(l:())(ns:List Int)(ps:List zk):List zk:=(ps.filter λp=>!decide (p.1=p.2)).map (um k l ns)
noncomputable def xM(k:Nat)(l:())(ns:List Int)(B:Nat):List zk->Nat->List zk->Option (List zk × Nat)
 | bs,C,[]=>rp (bs,C)
 | bs,C,e::es=>match goJ bs 40 e.1,goJ bs 40 e.2 with
  | some i,rp j=>if wAt bs e.1 i=wAt bs e.2 j then xM k l ns B bs C es else
    if i * C+B+j * C<=240/\(wAt bs e.1 i).length<=60/\(wAt bs e.2 j).length<=60 then xM k l ns B (bs ++ [um k l ns (wAt bs e.1 i,wAt bs e.2 j)]) (max C (i * C+B+j * C)) es else rq
  | _,_=>rq
noncomputable def qK(k:Nat)(l:())(ns:List Int):Nat->List zk->Nat->Option (List zk × Nat)
 | 0,_,_=>rq
 | n+1,es,B =>
  if Xw k l ns (qF k l ns es) (QU k l ns (qF k l ns es))=rz then
   match xM k l ns B [] 0 (QU k l ns (qF k l ns es))with
   | none=>rq
   | some (bs,C)=>if bs=QU k l ns (qF k l ns es)then rp (bs,C)else qK k l ns n bs C
  else rq
noncomputable def zal(ps:List zk):Bool:=decide (12<ps.length) || ps.any λe=>decide (10<max e.1.length e.2.length)
noncomputable def okP(ps:List zk):Bool:=(ovA ps ps.length).all λt=>(goJ ps 40 (pkA ps t)).isSome && (goJ ps 40 (pkB ps t)).isSome
noncomputable def XZ(k:Nat)(l:())(ns:List Int):Nat->List zk->List zk->Nat->Option (Bool × List zk)
 | 0,kept,_,_=>rp (rA,kept)
 | n+1,_,fresh,B=>match qK k l ns 20 fresh B with
  | none=>rq
  | some (bs,C)=>if zal bs=rA/\okP bs=rz then
    if unG bs 40=[]then rp (rz,bs)else XZ k l ns n bs (bs ++ ((unG bs 40).take 8).map λt=>(pkA bs t,pkB bs t)) (2 * C+C)
   else rq
theorem jZ(k:Nat)(l:())(ns:List Int)(e:Ent):((zX k l ns e).1,(zX k l ns e).2.1)=um k l ns (e.1,e.2.1)/\(zX k l ns e).2.2.length=e.2.2.length:=by
 unfold zX um;split
 ·exact#[rfl,rfl]
 ·exact#[rfl,yi _]
theorem qY{C:Nat}(h:∀e ∈ es,e.2.2.length<=C):∀us:List Stp,(byL es us).length<=us.length * C
 | []=>aB _
 | u::us=>by
  have ih:=qY h us;unfold byL at ih ⊢;rw[d7,am,aE,dC]
  have h1:(es.getD u.1.toNat ([],[],[])).2.2.length<=C:=by
   rw[aa]
   cases e:es[u.1.toNat]? with
   | none=>exact aB _
   | some x=>exact h x (ag e)
  have h2:(Yh es u).length<=C:=by
   unfold Yh;rw[kG];split
   ·exact h1
   ·rw[yi];exact h1
  lia
theorem Jk{w:()}{i:Nat}(h:goJ ps 40 w=rp i):zO ps w i:=by
 obtain⟨h1,h2,h3⟩:=j8 h;exact#[h2,h3,h1]
theorem ZP{k B:Nat}{l:()}{bs es:List Ent}{r:Option (List Ent)}(h:yN k l ns bs es r):∀{C:Nat} {x:List zk × Nat},(∀e ∈ bs,e.2.2.length<=C)->(∀e ∈ es,e.2.2.length<=B)->xM k l ns B (zb bs) C (zb es)=rp x->∃zs,r=rp zs/\zb zs=x.1/\∀e ∈ zs,e.2.2.length<=x.2:=by
 induction h with
 | nil bs =>
  intro C x hC hB hx;cases hx;exact#[bs,rfl,rfl,hC]
 | @same bs es e i j r h1 h2 h3 h4 ih =>
  intro C x hC hB hx;have e1:=wE h1;have e2:=wE h2
  erw[zb,aj]at hx
  unfold xM at hx;rw[show (bs.map λe=>(e.1,e.2.1))=zb bs from rfl]at hx
  erw[e1,e2,h3,if_true]at hx
  exact ih hC (λy hy=>hB y (ar _ hy)) hx
 | @new bs es e i j r h1 h2 h3 h4 h5 ih =>
  intro C x hC hB hx;have e1:=wE h1;have e2:=wE h2
  erw[zb,aj]at hx
  unfold xM at hx;rw[show (bs.map λe=>(e.1,e.2.1))=zb bs from rfl]at hx
  erw[e1,e2,if_neg h3]at hx
  split at hx
  ·rename_i hg;refine ih (C:=max C (i * C+B+j * C)) (λy hy=>?_) (λy hy=>hB y (ar _ hy)) ?_
   ·rcases rJ.mp hy with hy | hy
    ·exact aL (hC y hy) (Nat.le_max_left _ _)
    ·rw[rK.mp hy,(jZ k l ns _).2];refine aL ?_ (Nat.le_max_right _ _);have g1:=qY hC (yo (stS (sAt (zb bs) e.1 i)));have g2:=qY hC (stS (sAt (zb bs) e.2.1 j));have g3:=hB e az;rw[yi,vO,wX]at g1;rw[vO,wX]at g2;unfold yq
     erw[am]
     lia
   ·rw[<- hx];congr 1;show (bs ++ [_]).map _=_;rw[aq];congr 1;exact congrArg (λp=>[p]) (jZ k l ns _).1
  ·cases hx
 | @far bs es e i j h1 h2 h3 h4 =>
  intro C x hC hB hx;have e1:=wE h1;have e2:=wE h2
  erw[zb,aj]at hx
  unfold xM at hx;rw[show (bs.map λe=>(e.1,e.2.1))=zb bs from rfl]at hx
  erw[e1,e2,if_neg h3]at hx
  split at hx
  ·rename_i hg;exfalso;have g1:=qY hC (yo (stS (sAt (zb bs) e.1 i)));have g2:=qY hC (stS (sAt (zb bs) e.2.1 j));have g3:=hB e az;rw[yi,vO,wX]at g1;rw[vO,wX]at g2;unfold uJ yq at h4
   erw[am]at h4
   lia
  ·cases hx
 | @stuck bs es e h =>
  intro C x hC hB hx
  erw[zb,aj]at hx
  unfold xM at hx;rw[show (bs.map λe=>(e.1,e.2.1))=zb bs from rfl]at hx;split at hx
  ·rename_i i j e1 e2;rcases h with h | h
   ·exact absurd (Jk e1) (h i)
   ·exact absurd (Jk e2) (h j)
  ·cases hx
theorem Zw{l:()}{es zs:List Ent}{fr ys:List zk}(hf:(qF k l ns (zb es)).Perm (qF k l ns fr))(h:Lined k l ns es zs)(hk:Xw k l ns (qF k l ns fr) ys=rz):zb zs=ys/\∀B,(∀e ∈ es,e.2.2.length<=B)->∀e ∈ zs,e.2.2.length<=B:=by
 have raw:zb (uu k l ns es)=qF k l ns (zb es):=by
  unfold uu qF zb;rw[aV,List.filter_map,aV];exact aU λe _=>(jZ k l ns e).1
 unfold Xw at hk;rw[ba,ba]at hk;obtain⟨⟨h1,h2⟩,h3⟩:=hk
 have hp:(zb zs).Perm ys:=by
  refine (h.perm.map λe:Ent=>(e.1,e.2.1)).trans ?_;show (zb (uu k l ns es)).Perm ys;rw[raw];exact hf.trans (rV.mp h1).symm
 refine#[List.Perm.eq_of_pairwise (le:=λa b:zk=>kP k l ns b a=rA) (λa b ha hb g1 g2=>?_) (rQ.mpr h.srt) (of_decide_eq_true h2) hp,λB hB e he=>?_]
 ·have:=rL.mp (rL.mp h3 a (hp.mem_iff.mp ha)) b hb;rw[g1,g2]at this;simpa using this
 ·obtain⟨y,hy,rfl⟩:=rF.mp (h.perm.mem_iff.mp he);rw[(jZ k l ns y).2];exact hB y (rN.mp hy).1
theorem kA{k n:Nat}{l:()}{r:Option (List Ent)}(h:vV k l ns n es r):∀{B:Nat} {fr:List zk} {x:List zk × Nat},(qF k l ns (zb es)).Perm (qF k l ns fr)->(∀e ∈ es,e.2.2.length<=B)->qK k l ns n fr B=rp x->∃zs,r=rp zs/\zb zs=x.1/\∀e ∈ zs,e.2.2.length<=x.2:=by
 induction h with
 | out es=>intro B fr x hf hB hx;cases hx
 | bad h1 h2 =>
  intro B fr x hf hB hx;unfold qK at hx;split at hx
  ·rename_i hk;obtain⟨e1,e2⟩:=Zw hf h1 hk;rw[<- e1]at hx;split at hx
   ·cases hx
   ·rename_i bs C hb;obtain⟨zs,e,_⟩:=ZP h2 (λe he=>nomatch he) (e2 B hB) hb;cases e
  ·cases hx
 | done h1 h2 h3 =>
  intro B fr x hf hB hx;unfold qK at hx;split at hx
  ·rename_i hk;obtain⟨e1,e2⟩:=Zw hf h1 hk;rw[<- e1]at hx;split at hx
   ·cases hx
   ·rename_i bs C hb;obtain⟨zs,e,g1,g2⟩:=ZP h2 (λe he=>nomatch he) (e2 B hB) hb;cases e;simp only at g1 g2;rw[<- g1,if_pos h3]at hx;cases hx;exact#[_,rfl,rfl,g2]
  ·cases hx
 | more h1 h2 h3 h4 ih =>
  intro B fr x hf hB hx;unfold qK at hx;split at hx
  ·rename_i hk;obtain⟨e1,e2⟩:=Zw hf h1 hk;rw[<- e1]at hx;split at hx
   ·cases hx
   ·rename_i bs C hb;obtain⟨zs,e,g1,g2⟩:=ZP h2 (λe he=>nomatch he) (e2 B hB) hb;cases e;simp only at g1 g2;rw[<- g1,if_neg h3]at hx;exact ih (.refl _) g2 hx
  ·cases hx
theorem zcv{k n:Nat}{l:()}{kept fresh es:List Ent}{w:Bool}(h:Cpl k l ns n kept fresh w es):∀{B:Nat} {fr:List zk} {x:Bool × List zk},(qF k l ns (zb fresh)).Perm (qF k l ns fr)->(∀e ∈ fresh,e.2.2.length<=B)->XZ k l ns n (zb kept) fr B=rp x->w=x.1/\zb es=x.2:=by
 have bey:∀bs:List Ent,zal (zb bs)=qG bs:=λbs=>by
  unfold zal qG;rw[vc];unfold zb;rw[em];rfl
 induction h with
 | out kept fresh=>intro B fr x hf hB hx;cases hx;exact#[rfl,rfl]
 | @slim n kept fresh h =>
  intro B fr x hf hB hx;unfold XZ at hx;split at hx
  ·cases hx
  ·rename_i bs C ht;rcases h with h | ⟨zs,h,hb⟩
   ·obtain⟨zs,e,_⟩:=kA h hf hB ht;cases e
   ·obtain⟨zs',e,g1,_⟩:=kA h hf hB ht;cases e;simp only at g1;rw[<- g1,bey,hb,if_neg (λz=>nomatch z.1)]at hx;cases hx
 | @far n kept fresh bs t h hb ht ho =>
  intro B fr x hf hB hx;unfold XZ at hx;split at hx
  ·cases hx
  ·rename_i bs' C hth;obtain⟨zs',e,g1,_⟩:=kA h hf hB hth;cases e;simp only at g1;rw[<- g1]at hx;split at hx
   ·rename_i hg;have:=rL.mp hg.2 t ht;rw[ba]at this;exact absurd this ho
   ·cases hx
 | @whole n kept fresh bs h hb ho hu =>
  intro B fr x hf hB hx;unfold XZ at hx;split at hx
  ·cases hx
  ·rename_i bs' C hth;obtain⟨zs',e,g1,_⟩:=kA h hf hB hth;cases e;simp only at g1;rw[<- g1,if_pos hu]at hx;split at hx
   ·cases hx;exact#[rfl,rfl]
   ·cases hx
 | @more n kept fresh bs es w h hb ho hu r ih =>
  intro B fr x hf hB hx;unfold XZ at hx;split at hx
  ·cases hx
  ·rename_i bs' C hth;obtain⟨zs',e,g1,g2⟩:=kA h hf hB hth;cases e;simp only at g1 g2;rw[<- g1,if_neg hu]at hx;split at hx
   ·refine ih (B:=2 * C+C) (.refl _) (λe he=>?_) ?_
    ·rcases rJ.mp he with he | he
     ·have:=g2 e he;lia
     ·obtain⟨t,ht,rfl⟩:=rF.mp he;have:=qY g2 [((t.1:Int),(0:Int),rA),((t.2.1:Int),(t.2.2:Int),rz)]
      erw[aE,bo]at this
      unfold qk;simp only;lia
    ·rw[<- hx];congr 1;unfold zb;rw[aq,aV];rfl
   ·cases hx
section
variable{f:Nat->Nat}
noncomputable def mp(f:Nat->Nat)(p:zk):zk:=(p.1.map f,p.2.map f)
theorem xN(hf:∀a b,f a=f b->a=b):∀{u v:()},u.map f=v.map f ↔ u=v
 | [],[]=>#[λ_=>rfl,λ_=>rfl]
 | [],b::v=>#[(nomatch ·),(nomatch ·)]
 | a::u,[]=>#[(nomatch ·),(nomatch ·)]
 | a::u,b::v=>by
  rw[aj,aj,List.cons.injEq,List.cons.injEq,xN hf];exact#[λh=>#[hf _ _ h.1,h.2],λh=>#[by rw[h.1],h.2]]
theorem QY(hf:∀a b,f a=f b->a=b){p q:zk}:mp f p=mp f q ↔ p=q:=by
 unfold mp;rw[Prod.mk.injEq,xN hf,xN hf];exact#[λh=>Prod.ext h.1 h.2,λh=>#[by rw[h],by rw[h]]]
theorem We(hf:∀a b,f a=f b->a=b):∀{u v:List zk},u.map (mp f)=v.map (mp f) ↔ u=v
 | [],[]=>#[λ_=>rfl,λ_=>rfl]
 | [],b::v=>#[(nomatch ·),(nomatch ·)]
 | a::u,[]=>#[(nomatch ·),(nomatch ·)]
 | a::u,b::v=>by
  rw[aj,aj,List.cons.injEq,List.cons.injEq,We hf,QY hf]
theorem JV(ps:List zk)(n:Nat):(ps.map (mp f)).getD n ([],[])=mp f (ps.getD n ([],[])):=by
 rw[aa,aa,ay];cases ps[n]? <;> rfl
theorem zd8(hf:∀a b,f a=f b->a=b)(w p:())(q:Int):zr (w.map f) q (p.map f)=zr w q p:=by
 unfold zr;rw[ac,ac,<- dv,<- dn];exact decide_eq_decide.mpr #[λh=>#[h.1,h.2.1,(xN hf).mp h.2.2],λh=>#[h.1,h.2.1,(xN hf).mpr h.2.2]]
theorem V8(hf:∀a b,f a=f b->a=b)(w:())(ps:List zk):zA (w.map f) (ps.map (mp f))=zA w ps:=by
 have e:∀q,stJ (w.map f) (ps.map (mp f)) q=stJ w ps q:=λq=>funext λj=>by
  unfold stJ;rw[ay]
  cases ps[j]? with
  | none=>rfl
  | some p=>exact zd8 hf _ _ _
 unfold zA y0 uq
 erw[e,ac]
theorem KU(w o n:())(k:Int):yE (w.map f) k (o.map f) (n.map f)=(yE w k o n).map f:=by
 unfold yE;rw[aq,aq,dn,dv,ac]
theorem Qq(hf:∀a b,f a=f b->a=b)(ps:List zk)(w:()):∀j,wAt (ps.map (mp f)) (w.map f) j=(wAt ps w j).map f
 | 0=>rfl
 | j+1=>by
  show ZS _ (wAt _ _ j)=(ZS _ _).map f;rw[Qq hf ps w j];unfold ZS;rw[V8 hf]
  cases zA (wAt ps w j) ps with
  | none=>rfl
  | some u =>
   show kC _ _ u=(kC _ _ u).map f;unfold kC k9;rw[JV];exact KU _ _ _ _
theorem Qe(hf:∀a b,f a=f b->a=b)(ps:List zk)(m:Nat)(w:()):goJ (ps.map (mp f)) m (w.map f)=goJ ps m w:=by
 unfold goJ
 erw[Qq hf,V8 hf]
theorem zdr(ps:List zk)(i:Nat):lf (ps.map (mp f)) i=(lf ps i).map f:=by
 unfold lf;rw[JV];rfl
theorem zdB(hf:∀a b,f a=f b->a=b)(ps:List zk)(m:Nat):ovA (ps.map (mp f)) m=ovA ps m:=by
 unfold ovA ovI k8 y3;simp only[zdr,ac,<- dv,<- dn,xN hf]
theorem zap(ps:List zk)(t:N3):pkA (ps.map (mp f)) t=(pkA ps t).map f/\pkB (ps.map (mp f)) t=(pkB ps t).map f:=by
 unfold pkA pkB z8;simp only[zdr,JV,ac,<- dv,<- aq];exact#[KU _ _ _ _,KU _ _ _ _]
theorem zco(hf:∀a b,f a=f b->a=b)(ps:List zk):unG (ps.map (mp f)) 40=unG ps 40/\okP (ps.map (mp f))=okP ps/\zal (ps.map (mp f))=zal ps:=by
 refine#[?_,?_,?_]
 ·unfold unG U4 zb7
  erw[zdB hf,ac,(zap ps _).1,(zap ps _).2,Qe hf,Qq hf,xN hf]
 ·unfold okP
  erw[zdB hf,ac,(zap ps _).1,(zap ps _).2,Qe hf]
 ·unfold zal mp;rw[ac,em]
  erw[Function.comp_def,ac]
theorem zaN(hf:∀a b,f a=f b->a=b)(l:())(c:Nat):(l.map f).idxOf (f c)=l.idxOf c:=by
 induction l with
 | nil=>rfl
 | cons a l ih =>
  rw[aj,eO,eO,ih];by_cases e:a=c
  ·subst e;simp
  ·rw[beq_eq_false_iff_ne.mpr λh=>e (hf _ _ h),beq_eq_false_iff_ne.mpr e]
theorem WL(hf:∀a b,f a=f b->a=b){l:()}{ns ns':List Int}(hk:k≠2)(u v:()):zF k (l.map f) ns (u.map f) (v.map f)=zF k l ns' u v:=by
 have r:∀w:(),wk k (l.map f) (w.map f)=wk k l w:=λw=>by
  unfold wk yc ue;split
  ·rw[<- dA,aV];exact aU λc _=>by erw[Function.comp_def,zaN hf]
  ·rw[aV];exact aU λc _=>by erw[Function.comp_def,zaN hf]
 unfold zF zq
 erw[if_neg hk,ac,r]
end
section
variable{f:Nat->Nat}{k:Nat}{l:()}{ns ns':List Int}
theorem ZE(hf:∀a b,f a=f b->a=b)(hk:k≠2)(p q:zk):kP k (l.map f) ns (mp f p) (mp f q)=kP k l ns' p q:=by
 unfold kP mp
 erw[xN hf,WL (ns':=ns') hf hk]
theorem VY(hf:∀a b,f a=f b->a=b)(hk:k≠2)(p:zk):um k (l.map f) ns (mp f p)=mp f (um k l ns' p):=by
 unfold um;rw[show zF k (l.map f) ns (mp f p).2 (mp f p).1=zF k l ns' p.2 p.1 from WL hf hk _ _];split <;> rfl
theorem zbA(hf:∀a b,f a=f b->a=b)(hk:k≠2)(ps:List zk):qF k (l.map f) ns (ps.map (mp f))=(qF k l ns' ps).map (mp f):=by
 unfold qF;rw[List.filter_map,aV,aV]
 have e:((λp:zk=>!decide (p.1=p.2)) ∘ mp f)=λp=>!decide (p.1=p.2):=funext λp=>by
  erw[Function.comp_def,mp,xN hf]
 rw[e];exact aU λp _=>VY hf hk p
theorem zbf(hf:∀a b,f a=f b->a=b)(hk:k≠2)(p:zk):∀r:List zk,za2 k (l.map f) ns (mp f p) (r.map (mp f))=(za2 k l ns' p r).map (mp f)
 | []=>rfl
 | q::r=>by
  rw[aj];unfold za2;rw[ZE (ns':=ns') hf hk,zbf hf hk p r];split <;> rfl
theorem zcR(hf:∀a b,f a=f b->a=b)(hk:k≠2)(ps:List zk):QU k (l.map f) ns (ps.map (mp f))=(QU k l ns' ps).map (mp f):=by
 unfold QU
 induction ps with
 | nil=>rfl
 | cons p ps ih=>rw[aj,List.foldr_cons,List.foldr_cons,ih,zbf hf hk]
theorem Ks(hf:∀a b,f a=f b->a=b)(hk:k≠2){ps zs:List zk}(h:Xw k l ns' ps zs=rz):Xw k (l.map f) ns (ps.map (mp f)) (zs.map (mp f))=rz:=by
 unfold Xw at h ⊢;rw[ba,ba]at h ⊢;obtain⟨⟨h1,h2⟩,h3⟩:=h;refine#[#[rV.mpr ((rV.mp h1).map _),decide_eq_true (rQ.mpr ((of_decide_eq_true h2).imp λ{a b} g=>?_))],?_]
 ·rw[ZE (ns':=ns') hf hk];exact g
 ·rw[ef];refine rL.mpr λa ha=>?_
  erw[Function.comp_def,ef]
  refine rL.mpr λb hb=>?_;have:=rL.mp (rL.mp h3 a ha) b hb
  erw[ZE (ns':=ns') hf hk,QY hf]
  exact this
theorem Yd(hf:∀a b,f a=f b->a=b)(hk:k≠2){B:Nat}:∀(es bs:List zk) (C:Nat),xM k (l.map f) ns B (bs.map (mp f)) C (es.map (mp f))=(xM k l ns' B bs C es).map λx=>(x.1.map (mp f),x.2)
 | [],bs,C=>rfl
 | e::es,bs,C=>by
  rw[aj];unfold xM;rw[show (mp f e).1=e.1.map f from rfl,show (mp f e).2=e.2.map f from rfl,Qe hf,Qe hf]
  cases goJ bs 40 e.1 with
  | none=>rfl
  | some i =>
   cases goJ bs 40 e.2 with
   | none=>rfl
   | some j =>
    erw[Qq hf,xN hf,ac]
    split
    ·exact Yd hf hk es bs C
    ·split
     ·have e1:um k (l.map f) ns ((wAt bs e.1 i).map f,(wAt bs e.2 j).map f)=mp f (um k l ns' (wAt bs e.1 i,wAt bs e.2 j)):=VY hf hk (wAt bs e.1 i,wAt bs e.2 j);rw[e1,show bs.map (mp f) ++ [mp f (um k l ns' (wAt bs e.1 i,wAt bs e.2 j))]=(bs ++ [um k l ns' (wAt bs e.1 i,wAt bs e.2 j)]).map (mp f) by rw[aq];rfl];exact Yd hf hk es _ _
     ·rfl
theorem QX(hf:∀a b,f a=f b->a=b)(hk:k≠2):∀(n:Nat) (es:List zk) (B:Nat) {x:List zk × Nat},qK k l ns' n es B=rp x->qK k (l.map f) ns n (es.map (mp f)) B=rp (x.1.map (mp f),x.2)
 | 0,es,B,x,h=>by cases h
 | n+1,es,B,x,h=>by
  unfold qK at h ⊢;rw[zbA (ns':=ns') hf hk,zcR (ns':=ns') hf hk];split at h
  ·rename_i hs;rw[if_pos (Ks hf hk hs)];have hb:=Yd (ns:=ns) (ns':=ns') (l:=l) (B:=B) hf hk (QU k l ns' (qF k l ns' es)) [] 0;rw[aw]at hb;rw[hb]
   cases e:xM k l ns' B [] 0 (QU k l ns' (qF k l ns' es))with
   | none=>rw[e]at h;cases h
   | some y =>
    rw[e]at h
    erw[Option.map_some]at h ⊢
    erw[We hf]
    split at h
    ·rename_i g;rw[if_pos g];cases h;rfl
    ·rename_i g;rw[if_neg g];exact QX hf hk n y.1 y.2 h
  ·cases h
theorem zbF(hf:∀a b,f a=f b->a=b)(hk:k≠2):∀(n:Nat) (kept es:List zk) (B:Nat) {x:Bool × List zk},XZ k l ns' n kept es B=rp x->XZ k (l.map f) ns n (kept.map (mp f)) (es.map (mp f)) B=rp (x.1,x.2.map (mp f))
 | 0,kept,es,B,x,h=>by cases h;rfl
 | n+1,kept,es,B,x,h=>by
  unfold XZ at h ⊢
  cases e:qK k l ns' 20 es B with
  | none=>rw[e]at h;cases h
  | some y =>
   rw[e]at h;rw[QX (ns:=ns) hf hk 20 es B e];simp only at h ⊢;rw[(zco hf y.1).1,(zco hf y.1).2.1,(zco hf y.1).2.2];split at h
   ·rename_i g;rw[if_pos g];split at h
    ·rename_i g2;rw[if_pos g2];cases h;rfl
    ·rename_i g2;rw[if_neg g2];have:=zbF hf hk n _ _ _ h;rw[aq,aV]at this
     erw[(zap y.1 _).1,(zap y.1 _).2]
     exact this
   ·cases h
end
noncomputable def xA(a b n:Nat):():=(aQ n).map λi=>if i % 2=0 then a else b
noncomputable def zW(t:Nat)(q:Bool):():=(aJ t (if q=rz then [1,0]else [0,1])).flatten
noncomputable def vp(t:Nat)(q:Bool):List zk:=[([0,0],[]),([1,1],[]),(zW t q,[])]
noncomputable def Zt(k t r:Nat)(q:Bool):List zk :=
 if r=0 then vp t q
 else if r<t then [([0,0],[]),([1,1],[]),(xA 0 1 (2 * t - r),xA 1 0 r),(xA 1 0 (2 * t - r),xA 0 1 r)]
 else if t=1 then [([1],[0]),([0,0],[])]
 else if k=1/\t % 2=0 then [([0,0],[]),([1,1],[]),(xA 0 1 t,xA 1 0 t)]
 else [([0,0],[]),([1,1],[]),(xA 1 0 t,xA 0 1 t)]
noncomputable def okI(k t r:Nat)(q:Bool):Bool:=match XZ k [0,1] [] (r+1) [] (vp t q) 1 with
 | none=>rA
 | some x=>x.1 == decide (t<=r) && x.2.isPerm (Zt k t r q) && decide (x.2.Pairwise λa b=>zF k [0,1] [] b.1 a.1=rA) && decide (((Zt k t r q).map Prod.fst).Nodup) && (Zt k t r q).all λp=>p.1.all λc=>decide (c<2)
theorem VG:∀t ∈ [1,2,3,4],∀r ∈ [0,1,2,3,4,5],∀k ∈ [0,1],∀q ∈ [rz,rA],okI k t r q=rz:=by symm
noncomputable def nm2(x y n:Nat):Nat:=if n=0 then x else if n=1 then y else n+x+y+1
theorem Vt{x y:Nat}(h:x≠y)(a b:Nat)(e:nm2 x y a=nm2 x y b):a=b:=by
  unfold nm2 at e;split at e <;> split at e <;> (try split at e) <;> (try split at e) <;> lia
theorem Yi{k:Nat}{l:()}{zs rs:List zk}(hl:∀r ∈ rs,∀c ∈ r.1,c ∈ l)(hn:(rs.map Prod.fst).Nodup)(hp:zs.Perm rs)(h1:zs.Pairwise λa b=>rankF.lt (wY k l [] b.1) (wY k l [] a.1)=rA)(h2:rs.Pairwise λa b=>rankF.lt (wY k l [] b.1) (wY k l [] a.1)=rA):zs=rs:=by
 refine List.Perm.eq_of_pairwise (le:=λa b:zk=>rankF.lt (wY k l [] b.1) (wY k l [] a.1)=rA) (λa b ha hb h1 h2=>?_) h1 h2 hp;have ha':=hp.mem_iff.mp ha;refine jX hn ha' hb ((QP (k:=k) (ns:=[]) (hl a ha') (hl b hb)).mp ?_);by_cases e:wY k l [] a.1=wY k l [] b.1
 ·exact e
 ·have:=qt e;rw[h1,h2]at this;cases this
theorem WK{l:()}(hk:k≠2)(u v:()):zF k l ns u v=rankF.lt (wY k l [] u) (wY k l [] v):=by
 unfold zF
 erw[rankF,wY,zq,if_neg hk]
theorem Q4{l:()}(hk:k≠2)(h:∀p ∈ rs,p.1.length≠p.2.length):qF k l ns rs=rs.map lgR:=by
 unfold qF
 rw[List.filter_eq_self.mpr λp hp=>by
  erw[cB,decide_eq_false_iff_not]
  exact λe=>h p hp (by rw[e])]
 refine aU λp hp=>?_;have:=h p hp;unfold um lgR zF zq
 erw[if_neg hk]
 by_cases g:p.1.length<p.2.length
 ·rw[if_pos g,if_neg];rw[if_neg ⋯]
  erw[decide_eq_true_eq]
  lia
 ·rw[if_neg g,if_pos];rw[if_neg ⋯]
  erw[decide_eq_true_eq]
  lia
theorem Q1{rs rs':List zk}(hs:∀p ∈ rs,p.2.length<p.1.length)(h:Alk rs rs'):(rs'.map lgR).Perm rs/\∀p ∈ rs',p.1.length≠p.2.length:=by
 have e:rs.map lgR=rs:=by
  refine (aU λp hp=>?_).trans (List.map_id _);unfold lgR;have:=hs p hp;rw[if_neg ⋯];rfl
 have hp:=h.2 lgR λp hp=>by
  unfold lgR;have:=hs p hp;simp only;rw[if_pos ⋯,if_neg ⋯]
 rw[e]at hp;refine#[hp,λp hm g=>?_];have:=hs _ (hp.mem_iff.mp (rF.mpr #[p,hm,rfl]));unfold lgR at this;rw[if_neg ⋯]at this;lia
theorem JY{k t r x y:Nat}{q w:Bool}{ns:List Int}{rs':List zk}(hxy:x≠y)(hk:k ∈ [0,1])(ht:t ∈ [1,2,3,4])(hr:r ∈ [0,1,2,3,4,5])(hA:Alk ((vp t q).map (mp (nm2 x y))) rs')(hC:Cpl k [x,y] ns (r+1) [] (fEs rs' rs'.length) w es):w=decide (t<=r)/\∀due,due.Perm ((Zt k t r q).map (mp (nm2 x y)))->(due.Pairwise λa b=>rankF.lt (wY k [x,y] [] b.1) (wY k [x,y] [] a.1)=rA)->zb es=due:=by
 have hf:=Vt hxy
 have hk2:k≠2:=by
  rcases rH.mp hk with rfl | hk
  ·decide
  ·rw[rK.mp hk];decide
 have hl:[x,y]=[0,1].map (nm2 x y):=rfl;have ok:=VG t ht r hr k hk q (by cases q <;> decide);unfold okI at ok
 cases e:XZ k [0,1] [] (r+1) [] (vp t q) 1 with
 | none=>rw[e]at ok;cases ok
 | some z =>
  rw[e]at ok
  erw[ba]at ok
  obtain⟨⟨⟨⟨o1,o2⟩,o3⟩,o4⟩,o5⟩:=ok
  have hb:∀p ∈ (vp t q).map (mp (nm2 x y)),p.2.length<p.1.length:=λp hp=>by
   obtain⟨p0,hp0,rfl⟩:=rF.mp hp;unfold mp
   erw[ac]
   have:∀t ∈ [1,2,3,4],∀q ∈ [rz,rA],∀p ∈ vp t q,p.2.length<p.1.length:=∅;exact this t ht q (by cases q <;> decide) p0 hp0
  obtain⟨hp,hne⟩:=Q1 hb hA;have e2:=zbF (ns:=ns) hf hk2 (r+1) [] (vp t q) 1 e;rw[aw,<- hl]at e2
  have raw:(qF k [x,y] ns (zb (fEs rs' rs'.length))).Perm (qF k [x,y] ns ((vp t q).map (mp (nm2 x y)))):=by
   rw[kE _ _ (ao _),aH,Q4 hk2 hne,Q4 hk2 λp hp=>cr (hb p hp)];refine hp.trans (.of_eq ?_);refine ((aU λp hp=>?_).trans (List.map_id _)).symm;unfold lgR;have:=hb p hp;rw[if_neg ⋯];rfl
  obtain⟨hw,hpe⟩:=zcv hC raw (λe he=>by
   obtain⟨i,p,hi,hp,rfl⟩:=uM he
   exact ao _) e2
  simp only at hw hpe;refine#[hw.trans (by simpa using o1),λdue hd hs=>hpe.trans ?_];have hperm:(z.2.map (mp (nm2 x y))).Perm due:=((rV.mp o2).map _).trans hd.symm;refine Yi (k:=k) (l:=[x,y]) (λp hp c hc=>?_) ?_ hperm ?_ hs
  ·obtain⟨p0,hp0,rfl⟩:=rF.mp (hd.mem_iff.mp hp);obtain⟨c0,hc0,rfl⟩:=rF.mp hc;have:=of_decide_eq_true (rL.mp (rL.mp o5 p0 hp0) c0 hc0);rw[hl];exact rF.mpr #[c0,by match c0,this with | 0,_=>decide | 1,_=>decide,rfl]
  ·refine ((hd.map Prod.fst).nodup_iff).mpr ?_;rw[aV];have:(Prod.fst ∘ mp (nm2 x y):zk->())=(List.map (nm2 x y)) ∘ Prod.fst:=rfl;rw[this,<- aV];exact rQ.mpr ((of_decide_eq_true o4).imp λ{a b} h g=>h ((xN hf).mp g))
  ·refine rQ.mpr ((of_decide_eq_true o3).imp λ{a b} h=>?_);rw[<- WK (ns:=[]) hk2,hl,show zF k ([0,1].map (nm2 x y)) [] (mp (nm2 x y) b).1 (mp (nm2 x y) a).1=zF k [0,1] [] b.1 a.1 from WL hf hk2 _ _];exact h
theorem Yx(a b n:Nat):xA a b (n+1)=xA a b n ++ [if n % 2=0 then a else b]:=by
 unfold xA;rw[cf,aq];rfl
theorem Ky(f:Nat->Nat)(a b n:Nat):(xA a b n).map f=xA (f a) (f b) n:=by
 unfold xA;rw[aV];refine aU λi _=>?_
 erw[Function.comp_def]
 split <;> rfl
def xp:Sp:=λvs H Q _=>∃a b n:Nat,vs=[.str (tx [a]),.str (tx [b]),.int (n:Nat)]/\n<=100/\Q (.str (tx (xA a b n))) H
theorem vE{a b n:Nat}(h:n<=100)(q:Q (.str (tx (xA a b n))) H):xp [.str (tx [a]),.str (tx [b]),.int (n:Nat)] H Q E:=#[a,b,n,rfl,h,q]
theorem gx:sQz 3 ["_law_one","_law_other","_law_size","_law_word","_law_k"] xK:=by nofun
theorem qL(B:Bt mg)(F:("_law_alternating"^^^xK)) :(1&&&["_law_one","_law_other","_law_size"]) xp:=by
 exists F.ok gx
 ·obtain⟨a,b,n,rfl,hn,q⟩:=h
  refine#[_,(zQ (zD 3 gx.nd yf)
   (zQ (yK PassesOwn.never rfl (yX rfl B.range (za (pv 2) ze)) (zx (i:=4) gx.nd rfl (.inl rfl))
    (zh (zU (zB wU (zC wa (pv 4) zf) zf (zE _))
     (zh (zD 3 gx.nd (zC zJ (pv 3) (pv 0))))
     (zh (zD 3 gx.nd (zC zJ (pv 3) (pv 1)))))))
   (zh (zt (pv 3))))),?_]
  have s16:=ya
  rfl'
  refine#[⋯,⋯,ForR.by (λi σ H'=>H'=H/\∃v4:Option V,σ=[rp (.str (tx [a])),rp (.str (tx [b])),-~~~n,rp (.str (tx (xA a b i))),v4]) #[rfl,rq,rfl] ?_ ?_]
  ·refine nm3 ?_;rintro i σ H' hi ⟨rfl,v4,rfl⟩:_;right
   rfl'
   have hlen:(xA a b i).length=i:=by unfold xA;rw[ac,cD]
   refine#[∅,yG (λh=>#[⋯,?_]) λh=>#[⋯,?_]]
   ·rw[Yx,if_pos ⋯]
   ·rw[Yx,if_neg ⋯]
  ·rintro σ H' ⟨rfl,v4,rfl⟩
   rfl'
   exact q
theorem Uw{k t r x y:Nat}{q:Bool}(hxy:x≠y)(hk:k ∈ [0,1])(ht:t ∈ [1,2,3,4])(hr:r ∈ [0,1,2,3,4,5]):let ds:=(Zt k t r q).map (mp (nm2 x y));ds≠[]/\ds.length<=12/\(ds.map Prod.fst).Nodup/\∀p ∈ ds,p.1.length<=10/\∀c ∈ p.1,c ∈ [x,y]:=by
 have hf:=Vt hxy;have ok:=VG t ht r hr k hk q (by cases q <;> decide);unfold okI at ok;have fin:∀t ∈ [1,2,3,4],∀r ∈ [0,1,2,3,4,5],∀k ∈ [0,1],∀q ∈ [rz,rA],(Zt k t r q).length<=12/\(Zt k t r q).length≠0/\∀p ∈ Zt k t r q,p.1.length<=10:=by symm
 obtain⟨g1,g2,g3⟩:=fin t ht r hr k hk q (by cases q <;> decide)
 cases e:XZ k [0,1] [] (r+1) [] (vp t q) 1 with
 | none=>rw[e]at ok;cases ok
 | some z =>
  rw[e]at ok
  erw[ba]at ok
  obtain⟨⟨_,o4⟩,o5⟩:=ok;refine#[λh=>g2 (by rw[List.map_eq_nil_iff]at h;rw[h];rfl),by rw[ac];exact g1,?_,λp hp=>?_]
  ·rw[aV];have:(Prod.fst ∘ mp (nm2 x y):zk->())=(List.map (nm2 x y)) ∘ Prod.fst:=rfl;rw[this,<- aV];exact rQ.mpr ((of_decide_eq_true o4).imp λ{a b} h g=>h ((xN hf).mp g))
  ·obtain⟨p0,hp0,rfl⟩:=rF.mp hp;refine#[by unfold mp;rw[ac];exact g3 p0 hp0,λc hc=>?_];obtain⟨c0,hc0,rfl⟩:=rF.mp hc;have:=of_decide_eq_true (rL.mp (rL.mp o5 p0 hp0) c0 hc0);exact show nm2 x y c0 ∈ [0,1].map (nm2 x y)from rF.mpr #[c0,by match c0,this with | 0,_=>decide | 1,_=>decide,rfl]
def wo(K:nO):Sp:=λvs H Q _=>∃(t r x y:Nat) (q b:Bool),vs=[.int (t:Nat),.int (r:Nat),.str (tx [x,y]),.bl b,.str (tx ((zW t q).map (nm2 x y)))]/\x≠y/\ZU [x,y]=rz/\t ∈ [1,2,3,4]/\r ∈ [0,1,2,3,4,5]/\∀(D:nP) (H':Hp) (rs:List zk),Same H H'->LsA K H' D (rs.map dR)->rs.Perm ((Zt (if b=rz then 1 else 0) t r q).map (mp (nm2 x y)))->(rs.Pairwise λa c=>rankF.lt (wY (if b=rz then 1 else 0) [x,y] [] c.1) (wY (if b=rz then 1 else 0) [x,y] [] a.1)=rA)->Q (.ref D) H'
theorem gm:sQz 5 ["_law_times","_law_rounds","_law_letters_here","_law_right","_law_third","_law_x","_law_y","_law_pairs","_law_last"] xt:=by nofun
theorem qw(B:Bt mg)(F:("_law_rules_behind"^^^xt))(mB:(3<<<"_law_sided") ["_law_pairs","_law_right","_law_letters_here"] [] (jL K))(gr:(1<<<"_law_alternating") ["_law_one","_law_other","_law_size"] [] xp):(4&&&["_law_times","_law_rounds","_law_letters_here","_law_right","_law_third"]) (wo K):=by
 exists F.ok gm
 ·obtain⟨t,r,x,y,q0,b,rfl,hxy,hg,ht,hr5,q⟩:=h
  refine#[_,(zi (zD 5 gm.nd (zm xY (pv 2) zf))
   (zi (zD 6 gm.nd (zm xY (pv 2) zf))
   (zi (zD 7 gm.nd (xz (za (zN (za (zC zJ (pv 5) (pv 5)) (za yf ze))) (za (zN (za (zC zJ (pv 6) (pv 6)) (za yf ze))) ze))))
   (zi (zU (zB wU (pv 1) zf (zE _))
    (zh (zt (cl0 mB hr .nil rfl (za (zC jc (pv 7) (xz (za (zN (za (pv 4) (za yf ze))) ze))) (za (pv 3) (za (pv 2) ze))))))
    zw)
   (zi (zU (zB zbb (pv 1) (pv 0) (zE _))
    (zi (wm (vG bx bF bG yS (pv 7) (za (zN (za (cl0 gr hr .nil rfl (za (pv 5) (za (pv 6) (za (zC xO (zC WE zf (pv 0)) (pv 1)) ze)))) (za (cl0 gr hr .nil rfl (za (pv 6) (za (pv 5) (za (pv 1) ze)))) ze))) ze)))
    (zi (wm (vG bx bF bG yS (pv 7) (za (zN (za (cl0 gr hr .nil rfl (za (pv 6) (za (pv 5) (za (zC xO (zC WE zf (pv 0)) (pv 1)) ze)))) (za (cl0 gr hr .nil rfl (za (pv 5) (za (pv 6) (za (pv 1) ze)))) ze))) ze)))
    (zh (zt (cl0 mB hr .nil rfl (za (pv 7) (za (pv 3) (za (pv 2) ze))))))))
    zw)
   (zi (zU (zB wU (pv 0) zf (zE _))
    (zh (zt (xz (za (zN (za (pv 6) (za (pv 5) ze))) (za (zN (za (zC zJ (pv 5) (pv 5)) (za yf ze))) ze)))))
    zw)
   (zi (zD 8 gm.nd (zN (za (cl0 gr hr .nil rfl (za (pv 6) (za (pv 5) (za (pv 0) ze)))) (za (cl0 gr hr .nil rfl (za (pv 5) (za (pv 6) (za (pv 0) ze)))) ze))))
   (zi (zU (PW.pt (zaK (yT (pv 3) (λ_=>rfl)) (JZ (zB wU (zC wa (pv 0) zf) zf (zE _)))))
    (zh (zD 8 gm.nd (zN (za (zm ix_tup (pv 8) zf) (za (zm ix_tup (pv 8) zf) ze)))))
    zw)
   (zh (zt (cl0 mB hr .nil rfl (za (zC jc (pv 7) (xz (za (pv 8) ze))) (za (pv 3) (za (pv 2) ze)))))))))))))),?_]
  have s16:=ya;have ht4:1<=t/\t<=4:=by erw[dq,cI,or_false]at ht;lia
  have hr4:r<=5:=by erw[dq,cI,or_false]at hr5;lia
  refine zj (λσ H'=>H'=H/\σ=[-~~~t,-~~~r,rp (.str (tx [x,y])),rp (.bl b),rp (.str (tx ((zW t q0).map (nm2 x y)))),rp (.str (tx [x])),rq,rq,rq]) ?_ ?_
  ·rfl'
   exact#[⋯,rfl]
  rintro σ H1 ⟨rfl,rfl⟩:_;right;refine zj (λσ H'=>H'=H1/\σ=[-~~~t,-~~~r,rp (.str (tx [x,y])),rp (.bl b),rp (.str (tx ((zW t q0).map (nm2 x y)))),rp (.str (tx [x])),rp (.str (tx [y])),rq,rq]) ?_ ?_
  ·rfl'
   exact#[⋯,rfl]
  rintro σ H1 ⟨rfl,rfl⟩:_;obtain⟨k,hk⟩:∃k:Nat,(if b=rz then 1 else 0)=k:=#[_,rfl];rw[hk]at q;have hkm:k ∈ [0,1]:=by rw[<- hk];split <;> decide
  obtain⟨d1,d2,d3,d4⟩:=Uw (q:=q0) hxy hkm ht hr5
  have fin:∀{a:nP} {H':Hp} {rs:List zk},Same H1 H'->LsA K H' a (rs.map dR)->rs=(Zt k t r q0).map (mp (nm2 x y))->jL K [.ref a,.bl b,.str (tx [x,y])] H' Q E0:=λ{a H' rs} s hL e=>by
   subst e;exact#[a,_,b,[x,y],rfl,hL,d1,d2,d3,d4,hg,λD H'' rs' s' hL' hS=>q D H'' rs' (s.trans s') hL' (by rw[hk]at hS;exact hS.1) (by rw[hk]at hS;exact hS.2)]
  right;refine zj (λσ H'=>Same H1 H'/\∃D:nP,H1 D=rq/\LsA K H' D ([([x,x],[]),([y,y],[])].map dR)/\σ=[-~~~t,-~~~r,rp (.str (tx [x,y])),rp (.bl b),rp (.str (tx ((zW t q0).map (nm2 x y)))),rp (.str (tx [x])),rp (.str (tx [y])),!!D,rq]) ?_ ?_
  ·rfl'
   refine#[⋯,⋯,λp hp=>#[⋯,⋯,λp1 hp1=>#[⋯,λD hD=>?_]]];have u1:=zd (o:=HO.tup [.str (tx [x,x]),.str (tx [])]) hp;have u2:=zd (o:=HO.tup [.str (tx [y,y]),.str (tx [])]) hp1;have u3:=zd (o:=HO.lst [.ref p,.ref p1]) hD;refine#[u1.trans (u2.trans u3),D,?_,#[_,zc,?_],rfl]
   ·cases e:H1 D with
    | none=>rfl
    | some o =>
     cases ((u1.trans u2) _ _ e).symm.trans hD
   ·erw[aj,aw,Iss]
    exact#[_,_,rfl,wI (SqT.of (u3 _ _ (u2 _ _ zc))),_,_,rfl,wI (SqT.of (u3 _ _ zc)),rfl]
  rintro σ H2 ⟨s2,D,hD,hL,rfl⟩:_;obtain⟨xs,hX,hI⟩:=id hL;have hxl:=hI.len;right;refine zj (λσ H'=>0<r/\H'=H2/\σ=[-~~~t,-~~~r,rp (.str (tx [x,y])),rp (.bl b),rp (.str (tx ((zW t q0).map (nm2 x y)))),rp (.str (tx [x])),rp (.str (tx [y])),!!D,rq]) ?_ ?_
  ·rfl'
   refine yG (λh0=>#[⋯,λp hp=>#[⋯,λp1 hp1=>?_]]) λh0=>by lia
   have u1:=zd (o:=HO.tup [.str (tx ((zW t q0).map (nm2 x y))),.str (tx [])]) hp;have u2:=zd (o:=HO.lst [.ref p]) hp1;refine#[xs,(u1.trans u2) _ _ hX,[.ref p],zc,?_,λp2 hp2=>?_]
   ·erw[aj,aw,aE,bo]at hxl ⊢
    lia
   ·have u3:=zd (o:=HO.lst (xs ++ [.ref p])) hp2;refine fin (rs:=[([x,x],[]),([y,y],[]),((zW t q0).map (nm2 x y),[])]) (s2.trans (u1.trans (u2.trans u3))) #[_,zc,?_] ?_
    ·have:=Iss.append (Iss.same (u1.trans (u2.trans u3)) _ _ hI) (show Iss K _ [dR ((zW t q0).map (nm2 x y),[])] [.ref p] by
      erw[Iss]
      exact#[_,_,rfl,wI (SqT.of (u3 _ _ (u2 _ _ zc))),rfl])
     exact this
    ·have:r=0:=⋯;unfold Zt;rw[if_pos this];rfl
  rintro σ H2 ⟨hr0,rfl,rfl⟩:_;have mul2:CMul 2 (t:Int):=by unfold CMul;lia
  have al:=λa b n=>Ky (nm2 x y) a b n;right;refine zj (λσ H'=>t<=r/\H'=H2/\σ=[-~~~t,-~~~r,rp (.str (tx [x,y])),rp (.bl b),rp (.str (tx ((zW t q0).map (nm2 x y)))),rp (.str (tx [x])),rp (.str (tx [y])),!!D,rq]) ?_ ?_
  ·rfl'
   refine yG (λhlt=>?_) λhlt=>by lia
   refine zj (λσ H'=>Same H1 H'/\LsA K H' D ([([x,x],[]),([y,y],[]),(xA x y (2 * t - r),xA y x r)].map dR)/\σ=[-~~~t,-~~~r,rp (.str (tx [x,y])),rp (.bl b),rp (.str (tx ((zW t q0).map (nm2 x y)))),rp (.str (tx [x])),rp (.str (tx [y])),!!D,rq]) ?_ ?_
   ·rfl'
    refine#[.inl #[_,SqL.of hX],mul2,?_];rw[show 2 * (t:Int) - (r:Int)=((2 * t - r:Nat):Int) by lia];refine vE ⋯ (vE ⋯ #[⋯,λp hp=>#[_,zd hp _ _ hX,by erw[aj,aw,aE,bo]at hxl;lia,zy (s2.trans (zd hp)) hD,?_]]);have u1:=zd (o:=HO.tup [.str (tx (xA x y (2 * t - r))),.str (tx (xA y x r))]) hp;exact LsA.snoc (u1 _ _ hX) (Iss.same u1 _ _ hI) (xH [([x,x],[]),([y,y],[])]) (wN _) (wI (SqT.of zc))
   rintro σ H3 ⟨s3,hL3,rfl⟩:_;right;refine zj (λσ H'=>Same H1 H'/\LsA K H' D ([([x,x],[]),([y,y],[]),(xA x y (2 * t - r),xA y x r),(xA y x (2 * t - r),xA x y r)].map dR)/\σ=[-~~~t,-~~~r,rp (.str (tx [x,y])),rp (.bl b),rp (.str (tx ((zW t q0).map (nm2 x y)))),rp (.str (tx [x])),rp (.str (tx [y])),!!D,rq]) ?_ ?_
   ·rfl'
    obtain⟨ys,hX3,hI3⟩:=id hL3;have hxl3:=hI3.len;refine#[.inl #[_,SqL.of hX3],mul2,?_];rw[show 2 * (t:Int) - (r:Int)=((2 * t - r:Nat):Int) by lia];refine vE ⋯ (vE ⋯ #[⋯,λp hp=>#[_,zd hp _ _ hX3,by erw[aj,aw,aE,bo]at hxl3;lia,zy (s3.trans (zd hp)) hD,?_]]);have u1:=zd (o:=HO.tup [.str (tx (xA y x (2 * t - r))),.str (tx (xA x y r))]) hp;exact LsA.snoc (u1 _ _ hX3) (Iss.same u1 _ _ hI3) (xH [([x,x],[]),([y,y],[]),(xA x y (2 * t - r),xA y x r)]) (wN _) (wI (SqT.of zc))
   rintro σ H4 ⟨s4,hL4,rfl⟩:_;right
   rfl'
   refine fin s4 hL4 ?_;unfold Zt;rw[if_neg ⋯,if_pos ⋯]
   erw[aj,aw,mp,al]
   rfl
  rintro σ H2 ⟨htr,rfl,rfl⟩:_;right;refine zj (λσ H'=>t≠1/\H'=H2/\σ=[-~~~t,-~~~r,rp (.str (tx [x,y])),rp (.bl b),rp (.str (tx ((zW t q0).map (nm2 x y)))),rp (.str (tx [x])),rp (.str (tx [y])),!!D,rq]) ?_ ?_
  ·rfl'
   refine yG (λh1=>?_) λh1=>by lia
   have t1:t=1:=⋯;subst t1;refine#[⋯,λp hp=>#[⋯,⋯,λp1 hp1=>#[⋯,λD' hD'=>?_]]];have u1:=zd (o:=HO.tup [.str (tx [y]),.str (tx [x])]) hp;have u2:=zd (o:=HO.tup [.str (tx [x,x]),.str (tx [])]) hp1;have u3:=zd (o:=HO.lst [.ref p,.ref p1]) hD';refine q D' _ [([y],[x]),([x,x],[])] (s2.trans (u1.trans (u2.trans u3))) #[_,zc,?_] ?_ ?_
   ·erw[aj,aw,Iss]
    exact#[_,_,rfl,wI (SqT.of (u3 _ _ (u2 _ _ zc))),_,_,rfl,wI (SqT.of (u3 _ _ zc)),rfl]
   ·unfold Zt;rw[if_neg ⋯,if_neg ⋯,if_pos rfl];exact .of_eq rfl
   ·refine rW.mpr #[λc hc=>?_,df _ _];have hk2:k≠2:=by rw[<- hk];split <;> decide
    rw[rK.mp hc,<- WK (ns:=[]) hk2];unfold zF zq
    erw[if_neg hk2,aE,bo]
    rw[if_neg ⋯];exact decide_eq_false ⋯
  rintro σ H2 ⟨ht1,rfl,rfl⟩:_;right;refine zj (λσ H'=>Same H2 H'/\∃p:nP,H' p=rp (.tup [.str (tx (xA y x t)),.str (tx (xA x y t))])/\σ=[-~~~t,-~~~r,rp (.str (tx [x,y])),rp (.bl b),rp (.str (tx ((zW t q0).map (nm2 x y)))),rp (.str (tx [x])),rp (.str (tx [y])),!!D,!!p]) ?_ ?_
  ·rfl'
   exact vE ⋯ (vE ⋯ #[⋯,λp hp=>#[zd hp,zc]])
  rintro σ H3 ⟨s3,p,hp3,rfl⟩:_;right;refine zj (λσ H'=>Same H2 H'/\∃p:nP,SqT K H' p (if k=1/\t % 2=0 then [.str (tx (xA x y t)),.str (tx (xA y x t))]else [.str (tx (xA y x t)),.str (tx (xA x y t))])/\σ=[-~~~t,-~~~r,rp (.str (tx [x,y])),rp (.bl b),rp (.str (tx ((zW t q0).map (nm2 x y)))),rp (.str (tx [x])),rp (.str (tx [y])),!!D,!!p]) ?_ ?_
  ·rfl'
   refine yG (λhb=>#[∅,yG (λh2=>#[_,SqT.of hp3,_,rfl,_,SqT.of hp3,_,rfl,⋯,λp' hp'=>#[s3.trans (zd hp'),?_]]) λh2=>#[s3,?_]]) λhb=>#[s3,?_]
   ·rw[if_pos #[by rw[<- hk,if_pos hb],⋯]];exact SqT.of zc
   ·rw[if_neg (λh=>by lia)];exact SqT.of hp3
   ·rw[if_neg (λh=>by rw[<- hk,if_neg hb]at h;lia)];exact SqT.of hp3
  rintro σ H4 ⟨s4,p4,hp4,rfl⟩:_;right
  rfl'
  obtain⟨la,hla,hdu⟩:∃la:zk,SqT K H4 p4 [.str (tx la.1),.str (tx la.2)]/\[([x,x],[]),([y,y],[]),la]=(Zt k t r q0).map (mp (nm2 x y)):=by
   unfold Zt;rw[if_neg ⋯,if_neg ⋯,if_neg ht1];by_cases g:k=1/\t % 2=0
   ·rw[if_pos g]at hp4 ⊢;refine#[(xA x y t,xA y x t),hp4,?_]
    erw[aj,aw,mp,al]
    rfl
   ·rw[if_neg g]at hp4 ⊢;refine#[(xA y x t,xA x y t),hp4,?_]
    erw[aj,aw,mp,al]
    rfl
  refine#[⋯,λp hp=>?_];have u1:=zd (o:=HO.lst [.ref p4]) hp;refine#[xs,u1 _ _ (s4 _ _ hX),[.ref p4],zc,?_,λp1 hp1=>?_]
  ·erw[aj,aw,aE,bo]at hxl ⊢
   lia
  ·have u2:=zd (o:=HO.lst (xs ++ [.ref p4])) hp1;refine fin (rs:=[([x,x],[]),([y,y],[]),la]) (s2.trans (s4.trans (u1.trans u2))) #[_,zc,?_] hdu
   exact Iss.append (Iss.same (s4.trans (u1.trans u2)) _ _ hI) (show Iss K _ [dR la] [.ref p4] by
    erw[Iss]
    exact#[_,_,rfl,wI (zl (u1.trans u2) hla),rfl])
theorem zbr{l:()}(h:∀p ∈ rs,p.1.length<=60/\p.2.length<=60/\(∀c ∈ p.1,c ∈ l)/\∀c ∈ p.2,c ∈ l):∀e ∈ fEs rs rs.length,EB l e:=λe he=>by
 obtain⟨i,p,hi,hp,rfl⟩:=uM he;obtain⟨g1,g2,g3,g4⟩:=h p (ag hp);exact#[g1,g2,by show ([((i:Int),(0:Int),rz)]:List Stp).length<=600;simp,g3,g4]
theorem WH{t x y:Nat}{q:Bool}:(zW t q).map (nm2 x y)=(aJ t (if q=rz then [y,x]else [x,y])).flatten:=by
 unfold zW;rw[List.map_flatten,fG];cases q <;> rfl
def Y4(K:nO)(T:nP):Sp:=λvs H Q _=>∃(a:nP) (ns:List Int),vs=[.ref a]/\SqL K H a (ns.map V.int)/\(∀z ∈ ns,qE z)/\H T=rp (.tbl #[])/\∀H',Q (.bl rz) H'
theorem gq:sQz 1 ["_law_script","_law_first","_law_letters_here","_law_right","_law_order","_law_times","_law_turn","_law_third","_law_pacts","_law_rounds","_law_found","_law_due"] uo:=by nofun
theorem zaF{f CO CR CW TB:nP}(B:Bt mg)(T:TWS P w K mg base CO CR CW)(F:("law"^^^uo))(mT:(1<<<"_law_cell") ["_law_script","_law_k"] [] (Zy K))(nt:(2<<<"_law_letters") ["_law_cell_here","_law_many"] [] vL)(nw:(2<<<"_law_turned") ["_law_pacts","_law_cell_here"] [] (Zi K))(nc:(10<<<"completed") ["order","pacts","rounds"] [] (QT K CO CR CW TB))(mC:(4<<<"_law_rules_behind") ["_law_times","_law_rounds","_law_letters_here","_law_right","_law_third"] [] (wo K))(nG:(4<<<"_law_told") ["_law_found"] [] (Xc K))(nH:(2<<<"_law_end") ["_law_pacts","_law_word","_law_steps_here"] [] (YT K)):(11&&&["_law_script"]) (Y4 K TB):=by
 exists F.ok gq
 ·obtain⟨a,ns,rfl,hS,hB,hT,q⟩:=h
  refine#[_,(zi (zD 1 gq.nd (cl0 mT hr .nil rfl (za (pv 0) (za zf ze))))
   (zi (zD 2 gq.nd (cl0 nt hr .nil rfl (za (pv 1) (za zf ze))))
   (zi (zD 3 gq.nd (xZ wU (zC wa (pv 1) zf) zf (zE _)))
   (zi (zD 4 gq.nd (mkC T.mO hr rfl T.gO (za (pv 2) ze)))
   (zi (zU (yT (pv 3) (λ_=>rfl))
    (zh (zD 4 gq.nd (mkC T.mR hr rfl T.gR (za (pv 2) ze))))
    zw)
   (zi (zD 5 gq.nd (zC yF zf (zC wa (zC jT (pv 1) zf) zf)))
   (zi (xa (i:=6) gq.nd rfl (Or.inr rfl) (pv 2))
   (zi (zU (zB wU (zC wa (zC jT (pv 1) zf) zf) zf (zE _))
    (zh (xa (i:=6) gq.nd rfl (Or.inr rfl) (zC zJ (zm xY (pv 2) zf) (zm xY (pv 2) zf))))
    zw)
   (zi (zD 7 gq.nd (vG bL eZ e7 Jc yf (za (yC (own:=["_law_k"]) (caps:=["_law_turn"]) (ix:=[6]) (tt:=xQ) (te:=(z5 1)) rfl (zM (sc:=zg uo) rfl (by symm) (by symm) (by symm) rfl (by symm) (by symm) rfl) (yX rfl B.range (za (pv 5) ze)) (λ_ _ _ _ _ _=>zx (i:=0) (show List.Nodup [_,_] by decide) rfl (.inl rfl)) (λ_ _ _ _ _ _=>yd) (λ_ _ _ _ _ _=>(pv 1))) ze)))
   (zi (xa (i:=8) gq.nd rfl (Or.inr rfl) (xz (za (zN (za (zC zJ (zm xY (pv 2) zf) (zm xY (pv 2) zf)) (za yf ze))) (za (zN (za (zC zJ (zm xY (pv 2) zf) (zm xY (pv 2) zf)) (za yf ze))) (za (zN (za (pv 7) (za yf ze))) ze)))))
   (zi (xa (i:=8) gq.nd rfl (Or.inr rfl) (cl0 nw hr .nil rfl (za (pv 8) (za (cl0 mT hr .nil rfl (za (pv 0) (za zf ze))) ze))))
   (zi (zD 9 gq.nd (zC wa (cl0 mT hr .nil rfl (za (pv 0) (za zf ze))) zf))
   (zi (zD 10 gq.nd (cl0 nc hr .nil rfl (za (pv 4) (za (vC wc rfl B.list PySem.Pv.boot_list (za (pv 8) ze)) (za (pv 9) ze)))))
   (zi (zU (PW.pt (ut (yn (yT (cl0 nG hr .nil rfl (za (pv 10) ze)) (λ_=>rfl))) (vY (zB Xz (zm ix_tup (pv 10) zf) (xZ op_ge' (pv 9) (pv 5) (zE _)) (zE _)))))
    (zh (zt xn))
    zw)
   (zi (zD 11 gq.nd (cl0 mC hr .nil rfl (za (pv 5) (za (pv 9) (za (pv 2) (za (pv 3) (za (pv 7) ze)))))))
   (zi (zU (zB (zaH (Z3 hr)) (yC (own:=["_law_entry"]) (caps:=[]) (ix:=[]) (tt:=xQ) (te:=(XY (zK (tOp (wV K) (z5 0) (tC (.int 0))) (zK (tOp (wV K) (z5 0) (tC (.int 1))) xI)))) rfl (zM (sc:=zg uo) rfl (by symm) (by symm) (by symm) rfl (by symm) (by symm) rfl) (ye (zm ix_tup (pv 10) zf)) (λ_ _ _ _ _ _=>zx (i:=0) (show List.Nodup [_] by decide) rfl (.inl rfl)) (λ_ _ _ _ _ _=>yd) (λ_ _ _ _ _ _=>(zN (za (zm ix_tup (pv 0) zf) (za (zm ix_tup (pv 0) zf) ze))))) (pv 11) (zE _))
    (zh (zt xn))
    zw)
   (zh (zt (yM (zcN rfl) rfl B.all PyProof.Rows.boot_all (za (yC (own:=["_law_entry"]) (caps:=["_law_pacts"]) (ix:=[8]) (tt:=xQ) (te:=(tOp rEq (uN (YT K) [] E0 (zK (z5 1) (zK (tOp (wV K) (z5 0) (tC (.int 0))) (zK (tOp (wV K) (z5 0) (tC (.int 2))) xI)))) (tOp (wV K) (z5 0) (tC (.int 1))))) rfl (zM (sc:=zg uo) rfl (by symm) (by symm) (by symm) rfl (by symm) (by symm) rfl) (ye (zm ix_tup (pv 10) zf)) (λ_ _ _ _ _ _=>zx (i:=0) (show List.Nodup [_,_] by decide) rfl (.inl rfl)) (λ_ _ _ _ _ _=>yd) (λ_ _ _ _ _ _=>(xZ wU (cl0 nH hr .nil rfl (za (pv 1) (za (zm ix_tup (pv 0) zf) (za (zm ix_tup (pv 0) zf) ze)))) (zm ix_tup (pv 0) zf) (zE _)))) ze)))))))))))))))))))),?_]
  have s16:=ya;have s16:=ya;have hTab:TabOk H TB lp lq:=#[#[],hT,trivial,.inl rfl];refine zj (λσ H'=>H'=H/\∃n:Int,qE n/\σ=[!!a,~~~!n,rq,rq,rq,rq,rq,rq,rq,rq,rq,rq]) ?_ ?_
  ·rfl'
   exact ke hS hB ∅ λc hc=>#[rfl,c,hc,rfl]
  rintro σ H0 ⟨rfl,n,hn,rfl⟩:_;right;refine zj (λσ H'=>H'=H0/\∃x y:Nat,ZU [x,y]=rz/\x≠y/\σ=[!!a,~~~!n,rp (.str (tx [x,y])),rq,rq,rq,rq,rq,rq,rq,rq,rq]) ?_ ?_
  ·rfl'
   refine Yc hn ⋯ ⋯ λl hl hnd hs=>?_
   match l,hl,hnd,hs with
   | [x,y],hl,hnd,hs=>exact#[rfl,x,y,decide_eq_true #[by simp,by simp,hs,hnd],λe=>by rw[e]at hnd;simp at hnd,rfl]
  rintro σ H1 ⟨rfl,x,y,hg,hxy,rfl⟩:_;right;refine zj (λσ H'=>H'=H1/\∃b:Bool,σ=[!!a,~~~!n,rp (.str (tx [x,y])),rp (.bl b),rq,rq,rq,rq,rq,rq,rq,rq]) ?_ ?_
  ·rfl'
   exact by decide
  rintro σ H1 ⟨rfl,b,rfl⟩:_
  have mk:∀{C x0 dx:nP} {H:Hp},H x0=rq->H dx=rq->Same H (upd (upd (upd H dx (.own x0)) x0 (.ins C dx [])) x0 (.ins C dx [("letters",.str (tx [x,y]))])):=λ{C x0 dx H} hx hdx b o' e=>by
   rw[zp (zG e hx),zp (zG e hx)];exact zd hdx _ _ e
  right;refine zj (λσ H'=>Same H1 H'/\∃o:nP,OrdAt CO CR CW H' o 0 [x,y] ([x,y].map λ_=>1)/\σ=[!!a,~~~!n,rp (.str (tx [x,y])),rp (.bl b),!!o,rq,rq,rq,rq,rq,rq,rq]) ?_ ?_
  ·rfl'
   intro x0 dx hx hdx hne;exact#[x0,CO,dx,[x,y],rfl,hg,T.cO,T.lO,zc,rfl,mk hx hdx,dx,.inl #[rfl,zc]]
  rintro σ H2 ⟨s2,o0,ho0,rfl⟩:_;obtain⟨k,hk⟩:∃k:Nat,(if b=rz then 1 else 0)=k:=#[_,rfl];right;refine zj (λσ H'=>Same H1 H'/\∃(o:nP),OrdAt CO CR CW H' o k [x,y] ([x,y].map λ_=>1)/\σ=[!!a,~~~!n,rp (.str (tx [x,y])),rp (.bl b),!!o,rq,rq,rq,rq,rq,rq,rq]) ?_ ?_
  ·rfl'
   refine yG (λhb=>?_) λhb=>#[s2,by rw[<- hk,if_neg hb];exact ho0];intro x0 dx hx hdx hne;exact#[x0,CR,dx,[x,y],rfl,hg,T.cR,T.lR,zc,rfl,s2.trans (mk hx hdx),by rw[<- hk,if_pos hb];exact#[dx,.inr #[rfl,zc]]]
  rintro σ H3 ⟨s3,o,ho,rfl⟩:_;have hkm:k ∈ [0,1]:=by rw[<- hk];split <;> decide
  have hG:OG [x,y] ([x,y].map λ_=>1) k:=#[hg,by rw[<- hk];split <;> decide,ac _,λz hz=>by obtain⟨_,_,rfl⟩:=rF.mp hz;decide];have hS3:=s3.seq hS;right;refine zj (λσ H'=>H'=H3/\∃t:Nat,(1<=t/\t<=4)/\σ=[!!a,~~~!n,rp (.str (tx [x,y])),rp (.bl b),!!o,-~~~t,rq,rq,rq,rq,rq,rq]) ?_ ?_
  ·rfl'
   have e0:=cZ (n / 2) (b:=4) ∅;have e1:=de (n / 2) (b:=4) ∅;exact#[#[∅,∅],∅,(1+n / 2 % 4).toNat,⋯,⋯]
  rintro σ H3 ⟨rfl,t,⟨t1,t4⟩,rfl⟩:_;have htm:t ∈ [1,2,3,4]:=by erw[dq,cI,or_false];lia
  right;refine zj (λσ H'=>H'=H3/\σ=[!!a,~~~!n,rp (.str (tx [x,y])),rp (.bl b),!!o,-~~~t,rp (.str (tx [x,y])),rq,rq,rq,rq,rq]) ?_ ?_
  ·rfl'
  rintro σ H3 ⟨rfl,rfl⟩:_;right;refine zj (λσ H'=>H'=H3/\∃q0:Bool,σ=[!!a,~~~!n,rp (.str (tx [x,y])),rp (.bl b),!!o,-~~~t,rp (.str (tx (if q0=rz then [y,x]else [x,y]))),rq,rq,rq,rq,rq]) ?_ ?_
  ·rfl'
   exact#[#[∅,∅],∅,yG (λ_=>#[⋯,y,rfl,⋯,x,rfl,⋯,rz,rfl]) λ_=>#[rA,rfl]]
  rintro σ H3 ⟨rfl,q0,rfl⟩:_;right;refine zj (λσ H'=>Same H3 H'/\σ=[!!a,~~~!n,rp (.str (tx [x,y])),rp (.bl b),!!o,-~~~t,rp (.str (tx (if q0=rz then [y,x]else [x,y]))),rp (.str (tx ((zW t q0).map (nm2 x y)))),rq,rq,rq,rq]) ?_ ?_
  ·rfl'
   refine#[⋯,⋯,λD hD=>CompR.by (λi rE H'=>Same H3 H'/\H' D=rp (.lst rE)/\rE=((aJ i (if q0=rz then [y,x]else [x,y])).map tx).map V.str) #[zd hD,zc,rfl] ?_ ?_]
   ·refine nm3 ?_;rintro i rE H' hi ⟨hs,hH,rfl⟩:_;rw[aP]at hi;right
    erw[xQ]
    rfl'
    refine#[yL,hH,by erw[ac,bE];lia,CNx.mk (by rw[aP];exact hi) #[zy hs hD,zc,?_]];rw[fh,aq,aq];rfl
   ·rintro rE H' ⟨hs,hH,rfl⟩;rw[aP]at hH
    have hfl:(aJ t (if q0=rz then [y,x]else [x,y])).flatten.length<=100000:=by
     rw[List.length_flatten,fG,List.sum_replicate_nat];have:(if q0=rz then [y,x]else [x,y]).length=2:=by split <;> rfl
     rw[this];lia
    refine#[tx [],D,(aJ t (if q0=rz then [y,x]else [x,y])).map tx,rfl,rfl,SqL.of hH,Yv hfl,?_];have e:Txt.join (tx []) ((aJ t (if q0=rz then [y,x]else [x,y])).map tx)=Str.join (tx []) ((aJ t (if q0=rz then [y,x]else [x,y])).map tx):=StrLaws.glued_eq_join _ _;rw[e,ZI,WH];exact#[hs,rfl]
  rintro σ H4 ⟨s4,rfl⟩:_;right;refine zj (λσ H'=>Same H4 H'/\∃D:nP,LsA K H' D (((vp t q0).map (mp (nm2 x y))).map dR)/\σ=[!!a,~~~!n,rp (.str (tx [x,y])),rp (.bl b),!!o,-~~~t,rp (.str (tx (if q0=rz then [y,x]else [x,y]))),rp (.str (tx ((zW t q0).map (nm2 x y)))),!!D,rq,rq,rq]) ?_ ?_
  ·rfl'
   refine#[⋯,x,rfl,⋯,x,rfl,⋯,⋯,λp hp=>#[⋯,y,rfl,⋯,y,rfl,⋯,⋯,λp1 hp1=>#[⋯,λp2 hp2=>#[⋯,λD hD=>?_]]]];have u1:=zd (o:=HO.tup [.str (tx [x,x]),.str (tx [])]) hp;have u2:=zd (o:=HO.tup [.str (tx [y,y]),.str (tx [])]) hp1;have u3:=zd (o:=HO.tup [.str (tx ((zW t q0).map (nm2 x y))),.str (tx [])]) hp2;have u4:=zd (o:=HO.lst [.ref p,.ref p1,.ref p2]) hD;refine#[u1.trans (u2.trans (u3.trans u4)),_,zc,?_];show Iss K _ [dR ([x,x],[]),dR ([y,y],[]),dR ((zW t q0).map (nm2 x y),[])] _
   erw[Iss]
   exact#[_,_,rfl,wI (SqT.of (u4 _ _ (u3 _ _ (u2 _ _ zc)))),_,_,rfl,wI (SqT.of (u4 _ _ (u3 _ _ zc))),_,_,rfl,wI (SqT.of (u4 _ _ zc)),rfl]
  rintro σ H5 ⟨s5,D0,hD0,rfl⟩:_;have sE:=s4.trans s5;right;refine zj (λσ H'=>Same H5 H'/\∃pa:nP,(∃rs',LsA K H' pa (rs'.map dR)/\Alk ((vp t q0).map (mp (nm2 x y))) rs')/\σ=[!!a,~~~!n,rp (.str (tx [x,y])),rp (.bl b),!!o,-~~~t,rp (.str (tx (if q0=rz then [y,x]else [x,y]))),rp (.str (tx ((zW t q0).map (nm2 x y)))),!!pa,rq,rq,rq]) ?_ ?_
  ·rfl'
   exact ke (sE.seq hS3) hB ∅ λc hc=>#[D0,c,_,rfl,hc,hD0,by simp [vp],λD H' rs' s' hL hA=>#[s',D,#[rs',hL,hA],rfl]]
  rintro σ H6 ⟨s6,pa,⟨rs',hPa,hA⟩,rfl⟩:_;have hb0:∀t ∈ [1,2,3,4],∀q ∈ [rz,rA],∀p ∈ vp t q,p.2.length<p.1.length/\p.1.length<=8/\(∀c ∈ p.1,c<2)/\p.2=[]:=∅
  have hb:∀p ∈ (vp t q0).map (mp (nm2 x y)),p.2.length<p.1.length/\p.1.length<=8/\(∀c ∈ p.1,c ∈ [x,y])/\p.2=[]:=λp hp=>by
   obtain⟨p0,hp0,rfl⟩:=rF.mp hp;obtain⟨g1,g2,g3,g4⟩:=hb0 t htm q0 (by cases q0 <;> decide) p0 hp0;unfold mp;refine#[by erw[ac];exact g1,by erw[ac];exact g2,λc hc=>?_,by erw[g4,aw]];obtain⟨c0,hc0,rfl⟩:=rF.mp hc;have:=g3 c0 hc0;exact show nm2 x y c0 ∈ [0,1].map (nm2 x y)from rF.mpr #[c0,by match c0,this with | 0,_=>decide | 1,_=>decide,rfl]
  have hAp:=(Q1 (λp hp=>(hb p hp).1) hA).1;have hrl:rs'.length=3:=by rw[hA.1,ac];rfl
  have hrs:∀p ∈ rs',p.1.length<=8/\p.2.length<=8/\(∀c ∈ p.1,c ∈ [x,y])/\∀c ∈ p.2,c ∈ [x,y]:=λp hp=>by
   have h:=hb _ (hAp.mem_iff.mp (rF.mpr #[p,hp,rfl]));unfold lgR at h;by_cases g:p.1.length<p.2.length
   ·rw[if_pos g]at h;simp only at h;exact#[⋯,h.2.1,by rw[h.2.2.2];exact λc hc=>(nomatch hc),h.2.2.1]
   ·rw[if_neg g]at h;exact#[h.2.1,⋯,h.2.2.1,by rw[h.2.2.2];exact λc hc=>(nomatch hc)]
  have hok:ju rs':=#[⋯,λr hr=>by have:=hrs r hr;lia];have sF:=sE.trans s6;right;refine zj (λσ H'=>H'=H6/\∃r:Nat,r<=5/\σ=[!!a,~~~!n,rp (.str (tx [x,y])),rp (.bl b),!!o,-~~~t,rp (.str (tx (if q0=rz then [y,x]else [x,y]))),rp (.str (tx ((zW t q0).map (nm2 x y)))),!!pa,-~~~r,rq,rq]) ?_ ?_
  ·rfl'
   refine ke (sF.seq hS3) hB ∅ λc hc=>?_;have c0:=cZ c (b:=6) ∅;have c1:=de c (b:=6) ∅;exact#[c,rfl,∅,rfl,(c % 6).toNat,⋯,⋯]
  rintro σ H6 ⟨rfl,r,hr5,rfl⟩:_;have hrm:r ∈ [0,1,2,3,4,5]:=by erw[dq,cI,or_false];lia
  have hTab6:=hTab.same (s3.trans sF);obtain⟨tp,htp,_⟩:=id hTab6;have ho6:=ho.same sF;obtain⟨px,hPx,hPi⟩:=id hPa;right;refine zj (λσ H'=>SamT TB H6 H'/\∃(fp D:nP) (es:List Ent),(∀due:List zk,due.Perm ((Zt k t r q0).map (mp (nm2 x y)))->(due.Pairwise λa b=>rankF.lt (wY k [x,y] [] b.1) (wY k [x,y] [] a.1)=rA)->zb es=due)/\Gd rs' k [x,y] ([x,y].map λ_=>1) es/\H' fp=rp (.tup [.bl (decide (t<=r)),.ref D])/\EnsM K H' D es/\σ=[!!a,~~~!n,rp (.str (tx [x,y])),rp (.bl b),!!o,-~~~t,rp (.str (tx (if q0=rz then [y,x]else [x,y]))),rp (.str (tx ((zW t q0).map (nm2 x y)))),!!pa,-~~~r,!!fp,rq]) ?_ ?_
  ·rfl'
   refine#[px,.inl (SqL.of hPx),λh hh=>#[o,h,k,[x,y],_,rs',r,rfl,OrdAt.same ho6 (zd hh),hG,#[px,zc,Iss.same (zd hh) _ _ hPi],⋯,(λp hp=>by have h1:=hrs p hp;exact#[⋯,⋯,h1.2.2.1,h1.2.2.2]),(λp hp=>by have h1:=hrs p hp;lia),⋯,hTab6.same (zd hh),λw es p D H' hC hBG hs hTk hp hM=>?_]];obtain⟨rfl,hpe⟩:=JY hxy hkm htm hrm hA hC;exact#[(SamT.of (zd hh)).trans hs,p,D,es,hpe,zaV hG hC (zbr λp hp=>#[by have:=hrs p hp;lia,by have:=hrs p hp;lia,(hrs p hp).2.2]) (λe he=>UI he) #[λe he=>(nomatch he),.inl rfl],hp,hM,rfl]
  rintro σ H7 ⟨s7,fp,D,es,hpe,⟨hAll,hor⟩,hfp,hM,rfl⟩:_
  have hsd:∀e ∈ es,EB [x,y] e/\e.1.length<=10/\e.2.1.length<=10:=λe he=>by
   rcases hor with rfl | ⟨_,h,hb⟩
   ·cases he
   ·exact#[hb.e e he,(u7 h).2 e he]
  have hlen:es.length<=12:=by
   rcases hor with rfl | ⟨_,h,_⟩
   ·exact aB _
   ·exact (u7 h).1
  obtain⟨xs,hX,hEn⟩:=id hM;have hxl:=hEn.len;have hPa7:=LsA.samT hPa s7 htp;right;refine zj (λσ H'=>H'=H7/\σ=[!!a,~~~!n,rp (.str (tx [x,y])),rp (.bl b),!!o,-~~~t,rp (.str (tx (if q0=rz then [y,x]else [x,y]))),rp (.str (tx ((zW t q0).map (nm2 x y)))),!!pa,-~~~r,!!fp,rq]) ?_ ?_
  ·ac_rfl;exact#[fp,D,decide (t<=r),es,rfl,hfp,hM.l,rz,rfl,yG (λe=>by cases e) λ_=>#[_,SqT.of hfp,_,rfl,rfl,yG (λe=>absurd (congrArg V.bl (decide_eq_decide.mpr ⋯)) e) λ_=>rfl]]
  rintro σ H7 ⟨rfl,rfl⟩:_;right;refine zj (λσ H'=>Same H7 H'/\∃du:nP,LsA K H' du ((zb es).map dR)/\σ=[!!a,~~~!n,rp (.str (tx [x,y])),rp (.bl b),!!o,-~~~t,rp (.str (tx (if q0=rz then [y,x]else [x,y]))),rp (.str (tx ((zW t q0).map (nm2 x y)))),!!pa,-~~~r,!!fp,!!du]) ?_ ?_
  ·rfl'
   refine#[t,r,x,y,q0,b,rfl,hxy,hg,htm,hrm,λD' H' rs s' hL hp hs=>?_];rw[hk]at hp hs;rw[hpe rs hp hs];exact#[s',D',hL,rfl]
  rintro σ H7' ⟨s7',du,hdu,rfl⟩:_;right;refine zj (λσ H'=>Same H7 H'/\σ=[!!a,~~~!n,rp (.str (tx [x,y])),rp (.bl b),!!o,-~~~t,rp (.str (tx (if q0=rz then [y,x]else [x,y]))),rp (.str (tx ((zW t q0).map (nm2 x y)))),!!pa,-~~~r,!!fp,!!du]) ?_ ?_
  ·ac_rfl;refine#[_,SqT.of (s7' _ _ hfp),_,rfl,D,rfl,#[_,SqL.of (s7' _ _ hX)],λJ hJ=>CompL.by (xs:=xs) (λi rE H'=>Same H7' H'/\H' J=rp (.lst rE)/\Iss K H' (((zb es).take i).map dR) rE) #[zd hJ,zc,by erw[bn,aw,Iss]] (λi rE H' _ h=>SqL.of (h.1 _ _ (s7' _ _ hX))) ?_ ?_]
   ·refine nm4 ?_;rintro i x0 rE H' hx ⟨hs,hH,hIs⟩:_;have hi:=(rG.mp hx).1;obtain⟨e,pe,se,hei,rfl,hqe,hse⟩:=hEn.get hx;have hm:(zb es)[i]? = rp (e.1,e.2.1):=by unfold zb;rw[ay,hei];rfl
    have hal:=hIs.len;rw[ac,aF]at hal;have hq2:=zl (s7'.trans hs) hqe;right
    erw[xQ]
    rfl'
    refine#[yL,_,hq2,_,rfl,_,hq2,_,rfl,⋯,λp hp=>#[zd hp _ _ hH,⋯,CNx.mk hi #[zy (hs.trans (zd hp)) hJ,zc,?_]]];rw[zH hm,aq];have u2:=zd (o:=HO.tup [.str (tx e.1),.str (tx e.2.1)]) hp;obtain⟨ys,hY,hV⟩:=LsA.snoc (u2 _ _ hH) (Iss.same u2 _ _ hIs) (xH _) (wN (e.1,e.2.1)) (wI (SqT.of zc));rw[zc]at hY;cases hY;exact hV
   ·rintro rE H' ⟨hs,hH,hIs⟩;have hpl:=vc es;rw[hxl,<- hpl,aH]at hIs;refine KQ (.inl #[LsA.is #[rE,hH,hIs],(hdu.same hs).is]) (bY (QG _) ∅) #[_,rfl,yG (λe=>by rw[w9]at e;cases e) λ_=>s7'.trans hs]
  rintro σ H8 ⟨s8,rfl⟩:_;obtain⟨xs2,hX2,hI2⟩:=hM.same s8;have hxl2:=hI2.len;have hP8:=hPa7.same s8;right
  rfl'
  refine#[_,SqT.of (s8 _ _ hfp),_,rfl,D,rfl,#[_,SqL.of hX2],λJ hJ=>CompL.by (xs:=xs2) (λi rE H'=>Same H8 H'/\H' J=rp (.lst rE)/\rE=(aJ i rz).map V.bl) #[zd hJ,zc,rfl] (λi rE H' _ h=>SqL.of (h.1 _ _ hX2)) ?_ ?_]
  ·refine nm4 ?_;rintro i x0 rE H' hx ⟨hs,hH,rfl⟩:_;have hi:=(rG.mp hx).1;obtain⟨e,pe,se,hei,rfl,hqe,hse⟩:=hI2.get hx;have hEe:=(hsd e (ag hei)).1;have hok':=hAll e (ag hei);have hq2:=zl hs hqe;right
   erw[xQ]
   rfl'
   refine#[yL,_,hq2,_,rfl,_,hq2,_,rfl,JN (hP8.same hs).is hok (by have:=hEe.a;lia) (hse.same hs).is (by have:=hEe.s;lia) hok' #[_,hq2,_,rfl,rfl,hH,by rw[ac,bE];lia,CNx.mk hi #[zy hs hJ,zc,?_]]];rw[fh,aq];simp
  ·rintro rE H' ⟨hs,hH,rfl⟩;refine#[J,aJ xs2.length rz,rfl,SqL.of hH,?_];have e:(aJ xs2.length rz).all id=rz:=by simp
   rw[e];exact q _
end
def FnE(K:nO)(x q:nW)(st:oj)(f:nP):Prop:=∃fd,Fun K x q st f fd
def FnA(K:nO)(x:nW)(st:oj)(f:nP):Prop:=aC K nL x=rp (rp (.ref f))/\FnE K x x st f
theorem FnA.mk{K:nO}{x:nW}{st:oj}{h:oa}{mg:nW->Option nQ}(q:FnA K x st f)(X:K.In h)(G:h.Ns nL mg):mg x=rp (.ref f)/\aM K (.ref f)=rz/\FnE K x x st f:=by
 obtain⟨a,fd,F⟩:=q;exact#[aO X G a,F.kp,fd,F]
theorem Zu{us:List nQ}(h:us.length=1):∃a,us=[a]:=List.length_eq_one_iff.mp h
theorem vZ{us:List nQ}(h:us.length=2):∃a0 a1,us=[a0,a1]:=by
 cases us with
 | nil=>cases h
 | cons a r =>
  obtain⟨a1,rfl⟩:=Zu (Nat.succ.inj h);exact#[a,a1,rfl]
theorem X1{us:List nQ}(h:us.length=3):∃a0 a1 a2,us=[a0,a1,a2]:=by
 cases us with
 | nil=>cases h
 | cons a r =>
  obtain⟨a1,a2,rfl⟩:=vZ (Nat.succ.inj h);exact#[a,a1,a2,rfl]
theorem zaD{us:List nQ}(h:us.length=4):∃a0 a1 a2 a3,us=[a0,a1,a2,a3]:=by
 cases us with
 | nil=>cases h
 | cons a r =>
  obtain⟨a1,a2,a3,rfl⟩:=X1 (Nat.succ.inj h);exact#[a,a1,a2,a3,rfl]
theorem zdn{us:List nQ}(h:us.length=5):∃a0 a1 a2 a3 a4,us=[a0,a1,a2,a3,a4]:=by
 cases us with
 | nil=>cases h
 | cons a r =>
  obtain⟨a1,a2,a3,a4,rfl⟩:=zaD (Nat.succ.inj h);exact#[a,a1,a2,a3,a4,rfl]
theorem zdS{us:List nQ}(h:us.length=6):∃a0 a1 a2 a3 a4 a5,us=[a0,a1,a2,a3,a4,a5]:=by
 cases us with
 | nil=>cases h
 | cons a r =>
  obtain⟨a1,a2,a3,a4,a5,rfl⟩:=zdn (Nat.succ.inj h);exact#[a,a1,a2,a3,a4,a5,rfl]
theorem zd9{us:List nQ}(h:us.length=7):∃a0 a1 a2 a3 a4 a5 a6,us=[a0,a1,a2,a3,a4,a5,a6]:=by
 cases us with
 | nil=>cases h
 | cons a r =>
  obtain⟨a1,a2,a3,a4,a5,a6,rfl⟩:=zdS (Nat.succ.inj h);exact#[a,a1,a2,a3,a4,a5,a6,rfl]
theorem dfm(P:nU)(w:nY){K:nO}{mg:nW->Option nQ}(base:oa){CX:CXT}{nm:nW}{ps:List nW}{sp:Sp}(h:FnOk P w K mg base CX k f fd ps sp)(m:mg nm=rp (.ref f))(p:aM K (.ref f)=rz)(b:Binds K fd ps []):Df P w K mg base CX k nm ps [] sp:=#[_,_,h,m,p,b]
local macro_rules | `(tactic| injections)=>`(tactic| (intro _ _ _ _ _ _ us hl;first | (obtain⟨_,e⟩:=Zu hl;subst e;rfl) | (obtain⟨_,_,e⟩:=vZ hl;subst e;rfl) | (obtain⟨_,_,_,e⟩:=X1 hl;subst e;rfl) | (obtain⟨_,_,_,_,e⟩:=zaD hl;subst e;rfl) | (obtain⟨_,_,_,_,_,e⟩:=zdn hl;subst e;rfl)))
local macro_rules | `(nofun)=>`(by injections)
theorem all_mk{l:PySem.W.OpenLaw}{w:nY}{K:nO}{h:oa}{mg:nW->Option nQ}{fa f0 f1 f2 f3 f4 f5 f6 f7 f8 f9 f10 f11 f12 f13 f14 f15 f16 f17 f18 f19 f20 f21 f22 f23 f24 f25 f26 f27 f28 f29 f30 f31 f32 f33 f34 f35 f36 f37 f38 f39 f40 f41 f42 f43 mG gg gc gb gd ge gp gf:nP}{cc TB:nP}(X:K.In h)(G:h.Ns nL mg)(hfa:mg "law" = rp (.ref fa))(hlam:∃a o fd,mg "in_order" = rp (.ref a)/\h.get? a=rp o/\o.data=.func fd/\fd.code=.ref cc)(hgT:nL≠TB)
{od6 an6 od12 an12 od29 an29 od43 an43:Option nP}{sl6 sl12 sl29 sl43:Array (Option nQ)}{oc6 kV6 dc6 pm6 cd6 ct6 oc12 kV12 dc12 pm12 cd12 ct12 oc29 kV29 dc29 pm29 cd29 ct29 oc43 kV43 dc43 pm43 cd43 ct43:nQ}
  {t6:pX}
  {fI:nP}
  {odI anI:Option nP}
  {slI:Array (Option nQ)}
  {ocI kVI dcI pmI cdI ctI:nQ}
  {t8:pX}
  {fU:nP}
  {odU anU:Option nP}
  {slU:Array (Option nQ)}
  {ocU kVU dcU pmU cdU ctU:nQ}
  {tmu tms tmd tmp:pX}
  {tcu tce tcd tcp:pX}
  {gU:nP}
  {gE:nP}
  {iz:nP}
  {gL:nP}
  {gW:nP}
  {gF:nP}
  {im:nP}
  {gy:nP}
  {lX:nP}
  {iL:pX}
  {d1_gone:nQ}
  {d2_gone:Option nP}
  {d3_gone:Nat}
  {d4_gone:Array (Option nQ)}
  {lj:nP}
  {li:pX}
  {d1_unmet:nQ}
  {d2_unmet:Option nP}
  {d3_unmet:Nat}
  {d4_unmet:Array (Option nQ)}
  (a0:FnA K "is_small_letter" yy f0)
  (a1:FnA K "letters_of" xU f1)
  (a2:FnA K "stands_at" wP f2)
  (a3:FnA K "put" K9 f3)
  (a4:FnA K "first_within" xm f4)
  (a5:FnA K "first_from" xV f5)
  (a6:aC K nL "gone" = rp (rp (.ref f6))) (l6:K.lookup f6=rp #[oc6,od6,.func (bq "gone" "gone" (yv wJ) (zY wJ) (zg wJ) (.ref lX) kV6 dc6 pm6 an6 cd6 ct6),sl6]) (k6:bH K cd6 "gone" = rz) (p6:aM K (.ref f6)=rz)
  (a7:FnA K "back" YF f7)
  (a8:FnA K "moved" jO f8)
  (a9:FnA K "by_pacts" vT f9)
  (a10:FnA K "pairs_of" wB f10)
  (a11:FnA K "as_rule" uZ f11)
  (a12:aC K nL "in_order" = rp (rp (.ref f12))) (l12:K.lookup f12=rp #[oc12,od12,.func (bq "in_order" "in_order" (yv ym) (zY ym) (zg ym) .none kV12 dc12 pm12 an12 cd12 ct12),sl12]) (k12:bH K cd12 "in_order" = rz) (p12:aM K (.ref f12)=rz)
  (a13:FnA K "brought_down" xf f13)
  (a14:FnA K "refuse_beyond" yV f14)
  (a15:FnA K "built_anew" wl f15)
  (a16:FnA K "thinned" qv f16)
  (a17:FnA K "_law_cell" V7 f17)
  (a18:FnA K "_law_mixed" ZG f18)
  (a19:FnA K "_law_letters" qd f19)
  (a20:FnA K "_law_whole" Yf f20)
  (a21:FnA K "_law_steps" Z7 f21)
  (a22:FnA K "_law_used" Vo f22)
  (a23:FnA K "_law_end" Km f23)
  (a24:FnA K "agree" Z0 f24)
  (a25:FnA K "overlaps" vQ f25)
  (a26:FnA K "peak" VR f26)
  (a27:FnA K "form_of" uR f27)
  (a28:FnA K "is_met" jo f28)
  (a29:aC K nL "unmet" = rp (rp (.ref f29))) (l29:K.lookup f29=rp #[oc29,od29,.func (bq "unmet" "unmet" (yv xj) (zY xj) (zg xj) (.ref lj) kV29 dc29 pm29 an29 cd29 ct29),sl29]) (k29:bH K cd29 "unmet" = rz) (p29:aM K (.ref f29)=rz)
  (a30:FnA K "system_by" wS f30)
  (a31:FnA K "first_entries" yu f31)
  (a32:FnA K "is_beyond" xF f32)
  (a33:FnA K "thinned_within" yJ f33)
  (a34:FnA K "unmet_within" xq f34)
  (a35:FnA K "entry_of" vM f35)
  (a36:FnA K "completed" xL f36)
  (a37:FnA K "_law_entries" uS f37)
  (a38:FnA K "_law_told" Vq f38)
  (a39:FnA K "_law_turned" vt f39)
  (a40:FnA K "_law_sided" vR f40)
  (a41:FnA K "_law_alternating" xK f41)
  (a42:FnA K "_law_rules_behind" xt f42)
  (a43:aC K nL "law" = rp (rp (.ref f43))) (l43:K.lookup f43=rp #[oc43,od43,.func (bq "law" "law" (yv uo) (zY uo) (zg uo) .none kV43 dc43 pm43 an43 cd43 ct43),sl43]) (k43:bH K cd43 "law" = rz) (p43:aM K (.ref f43)=rz)
  (g_LetterError:aC K nL "LetterError" = rp (rp (.ref mG)))
  (g_NoLetters:aC K nL "NoLetters" = rp (rp (.ref gg)))
  (g_Order:aC K nL "Order" = rp (rp (.ref gc)))
  (g_FromRight:aC K nL "FromRight" = rp (rp (.ref gb)))
  (g_NotTurned:aC K nL "NotTurned" = rp (rp (.ref gd)))
  (g_System:aC K nL "System" = rp (rp (.ref ge)))
  (g_NoUse:aC K nL "NoUse" = rp (rp (.ref gp)))
  (g_TooFar:aC K nL "TooFar" = rp (rp (.ref gf)))
  (kbb:aS K (.type "bool") (.type "bool")=rp rz)
  (kt:aS K (.type "tuple") (.type "tuple")=rp rz)
  (ki:aS K (.type "int") (.type "int")=rp rz)
  (kb:aS K (.type "int") (.type "bool")=rp rA)
  (kl:aS K (.type "list") (.type "list")=rp rz)
  (XIl:XI K gg)
  (xi:ak K (.ref gg) "__init__" = rp (rp (.builtin "ValueError.__init__")))
  (most:aC K nL "MOST_LETTERS" = rp (rp (.int 6 t6)))
  (lm:bX K gc fv=rz)
  (ln:cj K gc=rz)
  (lr:cA K gc=rz)
  (lu:ak K (.ref gc) "__setattr__" = rp (rp (.builtin "object.__setattr__")))
  (mj:cQ K gc=rz)
  (ml:aM K (.ref gc)=rz)
  (lv:ak K (.ref gc) "letters" = rp rq)
  (mU:aS K (.ref gc) (.ref gc)=rp rz)
  (mV:ak K (.ref gc) "__class__" = rp (rp (.builtin "object.__class__")))
  (mW:bU K gc (.type "object")=rp rz)
  (iN:bX K gb fv=rz)
  (iO:cj K gb=rz)
  (iP:cA K gb=rz)
  (iQ:ak K (.ref gb) "__setattr__" = rp (rp (.builtin "object.__setattr__")))
  (iR:cQ K gb=rz)
  (iS:aM K (.ref gb)=rz)
  (iT:ak K (.ref gb) "letters" = rp rq)
  (lK:aS K (.ref gb) (.ref gc)=rp rz)
  (lL:ak K (.ref gb) "__class__" = rp (rp (.builtin "object.__class__")))
  (lM:bU K gb (.type "object")=rp rz)
  (win:aC K nL "WINDOW" = rp (rp (.int 128 t8)))
  (XIt:XI K gd)
  (nn:ak K (.ref gd) "number" = rp rq)
  (ini:ak K (.ref gd) "__init__" = rp (rp (.ref fI)))
  (lI:K.lookup fI=rp #[ocI,odI,.func (bq "__init__" "NotTurned.__init__" (yv zR) (zY zR) (zg zR) .none kVI dcI pmI anI cdI ctI),slI])
  (kI:bH K cdI "NotTurned.__init__" = rz)
  (pI:aM K (.ref fI)=rz)
  (fnI:bp K (.ref fI)=rz)
  (lN:bX K ge fv=rz)
  (lP:cj K ge=rz)
  (lQ:cA K ge=rz)
  (lS:ak K (.ref ge) "__setattr__" = rp (rp (.builtin "object.__setattr__")))
  (lT:cQ K ge=rz)
  (lV:aM K (.ref ge)=rz)
  (no_System:ak K (.ref ge) "order" = rp rq)
  (nr_System:ak K (.ref ge) "rules" = rp rq)
  (XIu:XI K gp)
  (ua:ak K (.ref gp) "at" = rp rq)
  (iniU:ak K (.ref gp) "__init__" = rp (rp (.ref fU)))
  (lU:K.lookup fU=rp #[ocU,odU,.func (bq "__init__" "NoUse.__init__" (yv yk) (zY yk) (zg yk) .none kVU dcU pmU anU cdU ctU),slU])
  (kU:bH K cdU "NoUse.__init__" = rz)
  (pU:aM K (.ref fU)=rz)
  (fnU:bp K (.ref fU)=rz)
  (XIf:XI K gf)
  (vi:ak K (.ref gf) "__init__" = rp (rp (.builtin "ValueError.__init__")))
  (sFF:cJ K (.ref gf) (.ref gf)=rp rz)
  (ks:aS K (.type "str") (.type "str")=rp rz)
  (nany:aC K nL "any" = rp rq)
  (nsorted:aC K nL "sorted" = rp rq)
  (mou:aC K nL "MOST_USES_thinning" = rp (rp (.int 40 tmu)))
  (mos:aC K nL "MOST_STEPS" = rp (rp (.int 240 tms)))
  (mod_:aC K nL "MOST_SIDE_thinning" = rp (rp (.int 60 tmd)))
  (mop:aC K nL "MOST_PASSES" = rp (rp (.int 20 tmp)))
  (mcu:aC K nL "MOST_USES_completing" = rp (rp (.int 40 tcu)))
  (mce:aC K nL "MOST_ENTRIES" = rp (rp (.int 12 tce)))
  (mcd:aC K nL "MOST_SIDE_completing" = rp (rp (.int 10 tcd)))
  (mcp:aC K nL "MOST_PEAKS" = rp (rp (.int 8 tcp)))
  (iA:ak K (.ref gc) "__init__" = rp (rp (.ref gU)))
  (iB:FnE K "__init__" "Order.__init__" wz gU)
  (gX:bp K (.ref gU)=rz)
  (ie:ak K (.ref gc) "weight" = rp (rp (.ref gE)))
  (ig:FnE K "weight" "Order.weight" xg gE)
  (gG:bp K (.ref gE)=rz)
  (iC:ak K (.ref gc) "seen" = rp (rp (.ref iz)))
  (iD:FnE K "seen" "Order.seen" wq iz)
  (iE:bp K (.ref iz)=rz)
  (gM:ak K (.ref gb) "seen" = rp (rp (.ref gL)))
  (gN:FnE K "seen" "FromRight.seen" yH gL)
  (gP:bp K (.ref gL)=rz)
  (iF:ak K (.ref gc) "rank" = rp (rp (.ref gW)))
  (iG:FnE K "rank" "Order.rank" y8 gW)
  (gY:bp K (.ref gW)=rz)
  (ij:ak K (.ref gc) "before" = rp (rp (.ref gF)))
  (ik:FnE K "before" "Order.before" xl gF)
  (gH:bp K (.ref gF)=rz)
  (io:ak K (.ref ge) "__init__" = rp (rp (.ref im)))
  (ip:FnE K "__init__" "System.__init__" xG im)
  (iq:bp K (.ref im)=rz)
  (gz:ak K (.ref ge) "rules_told" = rp (rp (.ref gy)))
  (gA:FnE K "rules_told" "System.rules_told" yj gy)
  (gB:bp K (.ref gy)=rz)
  (lY:K.lookup lX=rp #[d1_gone,d2_gone,.seq #[.int 4000 iL] d3_gone,d4_gone])
  (lw:K.lookup lj=rp #[d1_unmet,d2_unmet,.seq #[.int 4000 li] d3_unmet,d4_unmet])
  (fiR_init:ak K (.ref gb) "__init__" = rp (rp (.ref gU)))
  (fiR_weight:ak K (.ref gb) "weight" = rp (rp (.ref gE)))
  (fiR_rank:ak K (.ref gb) "rank" = rp (rp (.ref gW)))
  (fiR_before:ak K (.ref gb) "before" = rp (rp (.ref gF)))
  (b0:aC K nL "len" = rp rq)
  (b1:aC K nL "range" = rp rq)
  (b2:aC K nL "isinstance" = rp rq)
  (b3:aC K nL "str" = rp rq)
  (b4:aC K nL "int" = rp rq)
  (b5:aC K nL "tuple" = rp rq)
  (b6:aC K nL "list" = rp rq)
  (b7:aC K nL "bool" = rp rq)
  (b8:aC K nL "enumerate" = rp rq)
  (b9:aC K nL "all" = rp rq)
  (b10:aC K nL "ValueError" = rp rq)
  (b11:aC K nL "max" = rp rq)
  (b12:aC K nL "reversed" = rp rq)
  (b13:aC K nL "zip" = rp rq)
  (b14:aC K nL "sum" = rp rq)
  (b15:aC K nL "sorted" = rp rq)
  : ∃fd:nS,(∀(s:nR) (v:nQ),pK s fd #[[v],[]] [("_law_script",v)])/\∀base:oa,K.In base->base.Ns nL mg->base.BuiltinsAt mg TB->PySem.W.CodeHd base cc TB->FnOk l.prog w K mg base CX0 11 fa fd ["_law_script"] (Y4 K TB):=by
 have e:=hfa.symm.trans (aO X G a43);cases e;have B:Bt mg:=#[aK X G b0,aK X G b1,aK X G b2,aK X G b3,aK X G b4,aK X G b5,aK X G b6,aK X G b7,aK X G b8,aK X G b9,aK X G b10,aK X G b11,aK X G b12,aK X G b13,aK X G b14,aK X G b15];obtain⟨M0,p0,_,F0⟩:=a0.mk X G;obtain⟨M1,p1,_,F1⟩:=a1.mk X G;obtain⟨M2,p2,_,F2⟩:=a2.mk X G;obtain⟨M3,p3,_,F3⟩:=a3.mk X G;obtain⟨M4,p4,_,F4⟩:=a4.mk X G;obtain⟨M5,p5,_,F5⟩:=a5.mk X G;have F6:FunD K "gone" "gone" wJ (.ref lX) f6 (bq "gone" "gone" (yv wJ) (zY wJ) (zg wJ) (.ref lX) kV6 dc6 pm6 an6 cd6 ct6):=⟨#[_,_,_,_,_,_,_,_,_,rfl,l6,k6]⟩;have M6:=aO X G a6;obtain⟨M7,p7,_,F7⟩:=a7.mk X G;obtain⟨M8,p8,_,F8⟩:=a8.mk X G;obtain⟨M9,p9,_,F9⟩:=a9.mk X G;obtain⟨M10,p10,_,F10⟩:=a10.mk X G;obtain⟨M11,p11,_,F11⟩:=a11.mk X G;have F12:=fun_mk (st:=ym) l12 k12 p12;have M12:=aO X G a12;obtain⟨M13,p13,_,F13⟩:=a13.mk X G;obtain⟨M14,p14,_,F14⟩:=a14.mk X G;obtain⟨M15,p15,_,F15⟩:=a15.mk X G;obtain⟨M16,p16,_,F16⟩:=a16.mk X G;obtain⟨M17,p17,_,F17⟩:=a17.mk X G;obtain⟨M18,p18,_,F18⟩:=a18.mk X G;obtain⟨M19,p19,_,F19⟩:=a19.mk X G;obtain⟨M20,p20,_,F20⟩:=a20.mk X G;obtain⟨M21,p21,_,F21⟩:=a21.mk X G;obtain⟨M22,p22,_,F22⟩:=a22.mk X G;obtain⟨M23,p23,_,F23⟩:=a23.mk X G;obtain⟨M24,p24,_,F24⟩:=a24.mk X G;obtain⟨M25,p25,_,F25⟩:=a25.mk X G;obtain⟨M26,p26,_,F26⟩:=a26.mk X G;obtain⟨M27,p27,_,F27⟩:=a27.mk X G;obtain⟨M28,p28,_,F28⟩:=a28.mk X G;have F29:FunD K "unmet" "unmet" xj (.ref lj) f29 (bq "unmet" "unmet" (yv xj) (zY xj) (zg xj) (.ref lj) kV29 dc29 pm29 an29 cd29 ct29):=⟨#[_,_,_,_,_,_,_,_,_,rfl,l29,k29]⟩;have M29:=aO X G a29;obtain⟨M30,p30,_,F30⟩:=a30.mk X G;obtain⟨M31,p31,_,F31⟩:=a31.mk X G;obtain⟨M32,p32,_,F32⟩:=a32.mk X G;obtain⟨M33,p33,_,F33⟩:=a33.mk X G;obtain⟨M34,p34,_,F34⟩:=a34.mk X G;obtain⟨M35,p35,_,F35⟩:=a35.mk X G;obtain⟨M36,p36,_,F36⟩:=a36.mk X G;obtain⟨M37,p37,_,F37⟩:=a37.mk X G;obtain⟨M38,p38,_,F38⟩:=a38.mk X G;obtain⟨M39,p39,_,F39⟩:=a39.mk X G;obtain⟨M40,p40,_,F40⟩:=a40.mk X G;obtain⟨M41,p41,_,F41⟩:=a41.mk X G;obtain⟨M42,p42,_,F42⟩:=a42.mk X G;have F43:=fun_mk (st:=uo) l43 k43 p43;have B43:=F43.binds (ps:=["_law_script"]) nofun;have M43:=aO X G a43
 have HCC:cd12=.ref cc:=by
  obtain⟨ai,oi,fdi,m1,m2,m3,m4⟩:=hlam;have e1:=m1.symm.trans (aO X G a12);cases e1;have e2:=m2.symm.trans (X _ _ l12);cases e2;cases m3;exact m4
 refine#[bq "law" "law" (yv uo) (zY uo) (zg uo) .none kV43 dc43 pm43 an43 cd43 ct43,λs v=>.of_eq rfl,λbase _ _ HBT HCH=>?_];have TL:zdJ K mg gg:=#[XIl,xi,aO X G g_NoLetters,t6,aO X G most];have TO:TOrd K mg gc gb gc:=#[#[lm,ln,lr,lu],#[iN,iO,iP,iQ],#[lm,ln,lr,lu],aO X G g_Order,aO X G g_FromRight,lv,iT,lv];have TNt:TNT K mg gd:=#[XIt,aO X G g_NotTurned,nn];have FI:=fun_mk (st:=zR) lI kI pI;have BI:=FI.binds (ps:=["self","number"]) nofun;have TD:DNT l.prog w K mg base gd:=#[TNt,_,_,ini,fnI,vK TNt FI,BI];have TS:zb2 K mg ge:=#[#[lN,lP,lQ,lS],aO X G g_System,no_System,nr_System];have TWi:zdL mg:=#[t8,aO X G win];have TNu:TNU K mg gp:=#[XIu,aO X G g_NoUse,ua];have FU:=fun_mk (st:=yk) lU kU pU;have BU:=FU.binds (ps:=["self","at"]) nofun;have TUd:DNU l.prog w K mg base gp:=#[TNu,_,_,iniU,fnU,jF TNu FU,BU];have TF:zaq K mg gf:=#[XIf,vi,aO X G g_TooFar];have TMk:TMo mg:=#[#[tmu,aO X G mou],#[tms,aO X G mos],#[tmd,aO X G mod_],#[tmp,aO X G mop]];have TMcc:TMc mg:=#[#[tcu,aO X G mcu],#[tce,aO X G mce],#[tcd,aO X G mcd],#[tcp,aO X G mcp]];have D0:=dfm l.prog w base (Ux F0) M0 p0 (F0.binds nofun);have D1:=dfm l.prog w base (kd B TL F1 D0) M1 p1 (F1.binds nofun);have D2:=dfm l.prog w base (Zj B F2) M2 p2 (F2.binds nofun);have D3:=dfm l.prog w base (zbe B TUd F3 D2) M3 p3 (F3.binds nofun);obtain⟨_,gZ⟩:=iB;have nE:=gZ.kp;have lC:=gZ.binds (ps:=["self","letters"]) nofun;have mH:DMk l.prog w K mg base CX0 3 gc ["self","letters"] (jm K):=#[_,_,#[mj,iA,gX,ml],vq B gZ D1,lC];obtain⟨_,gJ⟩:=ig;have iV:=gJ.kp;have iW:=gJ.binds (ps:=["self","word"]) nofun;have mw:DM l.prog w K mg base CX0 1 gc "weight" ["self","word"] jN:=#[_,_,#[ie,gG,iV],wu B gJ,iW];obtain⟨_,iH⟩:=iD;have mI:=iH.kp;have mJ:=iH.binds (ps:=["self","word"]) nofun;have mK:DM l.prog w K mg base CX0 1 gc "seen" ["self","word"] Wi:=#[_,_,#[iC,iE,mI],jq B iH,mJ];obtain⟨_,gQ⟩:=gN;have lZ:=gQ.kp;have md:=gQ.binds (ps:=["self","word"]) nofun;have me:DM l.prog w K mg base CX0 1 gb "seen" ["self","word"] Z1:=#[_,_,#[gM,gP,lZ],vF B gQ,md];have TT:TWS l.prog w K mg base gc gb gc:=#[TO,mH,#[_,_,#[iR,fiR_init,gX,iS],vq B gZ D1,lC],mw,#[_,_,#[fiR_weight,gG,iV],wu B gJ,iW],mK,me];obtain⟨_,ia⟩:=iG;have lD:=ia.kp;have lE:=ia.binds (ps:=["self","word"]) nofun;have lF:DM l.prog w K mg base CX0 2 gc "rank" ["self","word"] (uO gc gb gc):=#[_,_,#[iF,gY,lD],vv B TT ia,lE];have DRk:DR l.prog w K mg base gc gb gc:=⟨λC h=>by rcases h with e | e | e; (rw[e];exact#[TO.cO,lF]); (rw[e];exact#[TO.cR,#[_,_,#[fiR_rank,gY,lD],vv B TT ia,lE]]); (rw[e];exact#[TO.cO,lF])⟩;obtain⟨_,gK⟩:=ik;have iX:=gK.kp;have iY:=gK.binds (ps:=["self","one","other"]) nofun;have iZ:DM l.prog w K mg base CX0 3 gc "before" ["self","one","other"] (WY gc gb gc):=#[_,_,#[ij,gH,iX],xR B DRk gK,iY];have DBk:DB l.prog w K mg base gc gb gc:=⟨λC h=>by rcases h with e | e | e; (rw[e];exact#[TO.cO,iZ]); (rw[e];exact#[TO.cR,#[_,_,#[fiR_before,gH,iX],xR B DRk gK,iY]]); (rw[e];exact#[TO.cO,iZ])⟩;have D4:=dfm l.prog w base (qm B F4) M4 p4 (F4.binds nofun);have D5:=dfm l.prog w base (jQ B TWi F5 D4) M5 p5 (F5.binds nofun);have O6:=JP (P:=l.prog) (w:=w) (base:=base) B TF TUd F6 D5 D3;have D6:Df l.prog w K mg base (CXx l.prog w) 4 "gone" ["rules","word","most"] [] (wd K gf):=#[_,_,O6,M6,p6,λs us hK hl=>by obtain⟨_,_,_,rfl⟩:=X1 (us:=us) (by simpa using hl);exact BindsTo.of_defaults rfl (hK _ _ lY) rfl rfl rfl];have D6d:Df l.prog w K mg base (CXx l.prog w) 4 "gone" ["rules","word","most"] [.int 4000 iL] (wd K gf):=#[_,_,O6,M6,p6,λs us hK hl=>by obtain⟨_,_,rfl⟩:=vZ (us:=us) (by simpa using hl);exact BindsTo.of_defaults rfl (hK _ _ lY) rfl rfl rfl];have D7:=dfm l.prog w base (KN B F7) M7 p7 (F7.binds nofun);have D8:=dfm l.prog w base (UY B F8) M8 p8 (F8.binds nofun);have D9:=dfm l.prog w base (Ya B F9 D8 D7) M9 p9 (F9.binds nofun);have D10:=dfm l.prog w base (Zx B F10) M10 p10 (F10.binds nofun);have D11:=dfm l.prog w base (Xg B DBk F11 D7) M11 p11 (F11.binds nofun);have D12:=dfm l.prog w base (ZN B DRk (aK X G nsorted) HCH HBT hgT F12 HCC D11) M12 p12 (F12.binds nofun);have D13:=dfm l.prog w base (qr B TMk F13 D10 D6 D6d D9 D7) M13 p13 (F13.binds nofun);have D14:=dfm l.prog w base (uk B TF TMk F14) M14 p14 (F14.binds nofun);have D15:=dfm l.prog w base (j1 B F15 D13 D14 D11) M15 p15 (F15.binds nofun);have D16:=dfm l.prog w base (XU B TF TMk F16 D12 D15 D10) M16 p16 (F16.binds nofun);have D17:=dfm l.prog w base (JS B F17) M17 p17 (F17.binds nofun);have D18:=dfm l.prog w base (Qs B F18) M18 p18 (F18.binds nofun);have D19:=dfm l.prog w base (Xo B F19 D18) M19 p19 (F19.binds nofun);have D20:=dfm l.prog w base (UT B #[ki,kb] F20) M20 p20 (F20.binds nofun);have D21:=dfm l.prog w base (Qa B #[kl,kt,kbb] F21 D20) M21 p21 (F21.binds nofun);have D22:=dfm l.prog w base (K7 B F22) M22 p22 (F22.binds nofun);have D23:=dfm l.prog w base (zbi B F23 D22) M23 p23 (F23.binds nofun);obtain⟨_,ir⟩:=ip;have nC:=ir.kp;have mD:=ir.binds (ps:=["self","order","rules"]) nofun;have mE:DMk l.prog w K mg base (CXx l.prog w) 5 ge ["self","order","rules"] (uA K gc gb gc gd ge):=#[_,_,#[lT,io,iq,lV],qH B TD TS DBk ir,mD];have MS:MkS l.prog w K mg base gc gb gc gd ge:=mE;have D24:=dfm l.prog w base (UK B F24) M24 p24 (F24.binds nofun);have D25:=dfm l.prog w base (Yb B F25 D24) M25 p25 (F25.binds nofun);have D26:=dfm l.prog w base (J4 B F26 D3) M26 p26 (F26.binds nofun);have D27:=dfm l.prog w base (Xk B F27 D6 D6d) M27 p27 (F27.binds nofun);have D28:=dfm l.prog w base (VO B F28 D26 D27) M28 p28 (F28.binds nofun);obtain⟨_,gC⟩:=gA;have lx:=gC.kp;have ly:=gC.binds (ps:=["self"]) nofun;have lA:DM l.prog w K mg base CX0 1 ge "rules_told" ["self"] (jP K ge):=#[_,_,#[gz,gB,lx],wH B TS gC,ly];have O29:=Qg (P:=l.prog) (w:=w) (base:=base) B TS F29 D25 D28 lA;have D29:Df l.prog w K mg base (CXx l.prog w) 7 "unmet" ["system","most"] [] (vk K ge gf):=#[_,_,O29,M29,p29,λs us hK hl=>by obtain⟨_,_,rfl⟩:=vZ (us:=us) (by simpa using hl);exact BindsTo.of_defaults rfl (hK _ _ lw) rfl rfl rfl];have D29d:Df l.prog w K mg base (CXx l.prog w) 7 "unmet" ["system","most"] [.int 4000 li] (vk K ge gf):=#[_,_,O29,M29,p29,λs us hK hl=>by obtain⟨_,rfl⟩:=Zu (us:=us) (by simpa using hl);exact BindsTo.of_defaults rfl (hK _ _ lw) rfl rfl rfl];have D30:=dfm l.prog w base (kH B TS MS F30 D10) M30 p30 (F30.binds nofun);have D31:=dfm l.prog w base (ur B F31) M31 p31 (F31.binds nofun);have D32:=dfm l.prog w base (Zp B (aK X G nany) TMcc F32) M32 p32 (F32.binds nofun);have D33:=dfm l.prog w base (vJ B TF ⟨sFF⟩ F33 D16 D32) M33 p33 (F33.binds nofun);have D34:=dfm l.prog w base (qx B TF ⟨sFF⟩ TMcc F34 D29 D29d D30) M34 p34 (F34.binds nofun);have D35:=dfm l.prog w base (ZL B F35 D26 D9 D10) M35 p35 (F35.binds nofun);have D36:=dfm l.prog w base (k7 B TMcc F36 D31 D33 D34 D35) M36 p36 (F36.binds nofun);have D37:=dfm l.prog w base (XB B #[kl,kt,kbb] ⟨ks⟩ F37 D21) M37 p37 (F37.binds nofun);have D38:=dfm l.prog w base (Ke B #[kt,kbb] F38 D37) M38 p38 (F38.binds nofun);have D39:=dfm l.prog w base (X9 B F39 D18) M39 p39 (F39.binds nofun);have D40:=dfm l.prog w base (UX B (aK X G nsorted) F40) M40 p40 (F40.binds nofun);have D41:=dfm l.prog w base (qL B F41) M41 p41 (F41.binds nofun);have D42:=dfm l.prog w base (qw B F42 D40 D41) M42 p42 (F42.binds nofun);exact zaF B TT F43 D17 D19 D39 D36 D42 D38 D23
theorem walk{l:PySem.W.OpenLaw}{q:nU}{loose:List nW}{XP:(nW->Option nQ)->oa->Prop}{YP:nY->oa->Prop}{d:DefRec}{K:Params->nO}(hn:l.most=rp 63)(hdf:d.params.defaults=[])
  (hY:∀(w:nY) (h:oa),YP w h->(K w.params).In h) (hj:((PyProof.Rows.recsOf q).find? λr=>r.name ==("in_order" : nW)).isSome=rz) (hno:∀w:nY,zaa (K w.params)=rz)
  (F:∀(w:nY) (mg:nW->Option nQ) (fa:nP) (h:oa) (cc T:nP),(K w.params).In h->h.Ns nL mg->mg d.name=rp (.ref fa)->(∃a o fd,mg "in_order" = rp (.ref a)/\h.get? a=rp o/\o.data=.func fd/\fd.code=.ref cc)->nL≠T ->
   ∃fd:nS,(∀(s:nR) (u:nQ),pK s fd #[[u],[]] [("_law_script",u)])/\∀base:oa,(K w.params).In base->base.Ns nL mg->base.BuiltinsAt mg T->PySem.W.CodeHd base cc T->FnOk l.prog w (K w.params) mg base CX0 11 fa fd ["_law_script"] (Y4 (K w.params) T)) :
  PySem.W.WalkO q loose XP YP l.row.toRowW d [] (λf vs=>e9 f vs):=by
 obtain⟨din,hd⟩:=rS.mp hj;have hnm:din.name="in_order":=by simpa using dI hd
 exact L3.walk_ofT (n:=63) (k:=11) (x:="_law_script") (CX:=λ_=>CX0) (din:=din) (sp:=λw T=>Y4 (K w.params) T) hn ∅ hdf #[rfl,∅,∅] (d9 hd) hY hno (λw mg fa h cc T a b c e g=>F w mg fa h cc T a b c (by rw[hnm]at e;exact e) g) (λ_ _ a ns T hl hB hT hS=>#[a,ns,rfl,hS,hB,hT,λ_=>rfl]) λ_ _ _ _ _ z=>z
end LL
namespace PySem.W.Fast
def tw10326778490113492687:=Nat
def tw6745436569746253929:=Nat
def tw11800669771113183127:=Nat
def tw6903952991179293816:=Nat
def tw16160720554844159384:=Nat
def tw4723536930470968773:=Nat
def tw320351776463634884:=Nat
def tw11164066800864465972:=Nat
def tw13441397849231524949:=Nat
def tw11544887116573337581:=Nat
def tw7414759938075267938:=Nat
def tw9944903987808368003:=Nat
def tw12259008352296352801:=Nat
def tw12301993790265631547:=Nat
def tw5441484177708783651:=Nat
def tw17698739631059213023:=Nat
def tw17692295222119678942:=Nat
def tw16527587612607642366:=Nat
def tw8340201012857172507:=Nat
def tw8704268086431022783:=Nat
def tw5163259155610723957:=Nat
def tw560847513889400969:=Nat
def tw4676541725058631407:=Nat
def tw11072134609698191324:=Nat
def tw2232276548239806602:=Nat
def tw12536265204726509300:=Nat
def tw11977551479743686261:=Nat
def tw813933207988039849:=Nat
def tw245711371997086982:=Nat
def tw1556630315747356337:=Nat
def tw12509846634740870665:=Nat
def tw15698164876813388377:=Nat
def tw4183611590785005825:=Nat
def tw14717132499218598399:=Nat
def tw15476581852342698851:=Nat
def tw8294829546265570006:=Nat
def tw6369762463653797654:=Nat
def tw6601252092656654348:=Nat
def tw11302479363992136254:=Nat
def tw3910429257592345502:=Nat
def tw9060442054948079726:=Nat
def tw6864377815062052909:=Nat
def tw8072079201174496674:=Nat
def tw4131921406788564870:=Nat
def tw7447243382468694796:=Nat
def tw15125076352399874926:=Nat
def tw11494762351329361972:=Nat
def tw6538830118883490396:=Nat
def tw16474350912598794678:=Nat
def tw15073081478669468090:=Nat
def tw4275949083471081514:=Nat
def tw1619977547825738791:=Nat
def tw15112581085878229782:=Nat
def tw7356520152784270229:=Nat
def tw6952984013846087607:=Nat
def tw712361893802888975:=Nat
def tw14440593228629685413:=Nat
def tw49887852109415456:=Nat
def tw6435013539028151488:=Nat
def tw13251652518619316218:=Nat
def tw2349376500036844033:=Nat
def tw13044513978549829421:=Nat
def tw16543688067714325952:=Nat
def tw2858229690931074908:=Nat
def tw6841501169363345260:=Nat
def tw14147075020364022266:=Nat
def tw2202131816277226794:=Nat
def tw10728323217266473188:=Nat
def tw2152203083359472193:=Nat
def tw102391377292922091:=Nat
def tw14619362814777508665:=Nat
def tw9224441501660899127:=Nat
def tw10353422815192615773:=Nat
def tw9175344445198606949:=Nat
def tw15751295034814982234:=Nat
def tw8399358211967350574:=Nat
def tw2964104338474311989:=Nat
def tw9887229085869781170:=Nat
def tw1716522947890963170:=Nat
def tw5468434267719473509:=Nat
def tw14224738570821028330:=Nat
def tw3707024481447255959:=Nat
def tw17504408887067153534:=Nat
def tw2920985758666051338:=Nat
def tw3273138138040172788:=Nat
def tw9799678833803681012:=Nat
def tw10641840553171045203:=Nat
def tw9687824079661984487:=Nat
def tw17619792711969160139:=Nat
def tw4119795034768484864:=Nat
def tw11726717032204944095:=Nat
def tw18435347818198304469:=Nat
def tw7304113135267870038:=Nat
def tw15583466954091253398:=Nat
def tw18190684240535437268:=Nat
def tw4333572452902624811:=Nat
def tw8492144457728092020:=Nat
def tw14572957815710026681:=Nat
def tw2030209657852059533:=Nat
def tw3782720938144111959:=Nat
def tw16797916590431881256:=Nat
def tw18341142795012166529:=Nat
def tw10218363832733303269:=Nat
def tw6460026527756744111:=Nat
def tw11804365095727964517:=Nat
def tw11825303666811560323:=Nat
def tw12784872042994904049:=Nat
def tw15033636589723950412:=Nat
def tw5663470412374585942:=Nat
def tw1169520910920928693:=Nat
def tw11774889873051280674:=Nat
def tw2404954227801578354:=Nat
def tw6223149079727544269:=Nat
def tw17715978936987301149:=Nat
def tw255210444395975612:=Nat
def tw13222448569946960301:=Nat
def tw14315825464476423103:=Nat
def tw16961674140361072149:=Nat
def tw12164927368782221519:=Nat
def tw18324474169887661135:=Nat
def tw1792594238481436319:=Nat
def tw13821572471691607950:=Nat
def tw12087167361662817829:=Nat
def tw3243345559814329313:=Nat
def tw12542241721330676277:=Nat
def tw12772037678762969577:=Nat
def tw640116422223124766:=Nat
def tw3149471571506158502:=Nat
def tw11682218205832803759:=Nat
def tw7998089402659434454:=Nat
def tw14710260598823366498:=Nat
def tw8765507255279939445:=Nat
def tw17765309550314552047:=Nat
def tw3600381300533328945:=Nat
def tw8169783464231164907:=Nat
def tw16805479167324885893:=Nat
def tw7327843139298039892:=Nat
def tw6125200650017132794:=Nat
def tw12608204744526635551:=Nat
def tw1336831081460958802:=Nat
def tw12253112550477714155:=Nat
def tw11012683323827257855:=Nat
def tw16442503564703776117:=Nat
def tw14008574351781444286:=Nat
def tw8016764088092761081:=Nat
def tw1143769165967987660:=Nat
def tw3865291732695121821:=Nat
def tw4612558126425874525:=Nat
def tw4286198975723987141:=Nat
def tw3148618142193550706:=Nat
def tw11451464673628400661:=Nat
def tw13577349114687973245:=Nat
def tw12539636139124639172:=Nat
def tw365995187364951773:=Nat
def tw1335370131865683607:=Nat
def tw14219225098077044988:=Nat
def tw12626122944403696841:=Nat
def tw14757173034892476800:=Nat
def tw10134474012512847908:=Nat
def tw11298113496240547818:=Nat
def tw2779608508706417163:=Nat
def tw2207470213723604421:=Nat
def tw722748009087480639:=Nat
def tw2958229711972002603:=Nat
def tw12396299744384560698:=Nat
def tw17002388442416453840:=Nat
def tw16572866441053428057:=Nat
def tw16024427368128459001:=Nat
def tw5332351588251469881:=Nat
def tw9408582618568875643:=Nat
def tw12341064096964782041:=Nat
def tw15702286701886821421:=Nat
def tw3396166755575817589:=Nat
def tw1970245189898585052:=Nat
def tw9008527134060282759:=Nat
def tw5733482971184601277:=Nat
def tw13945327911451013710:=Nat
def tw5554944890527891786:=Nat
end PySem.W.Fast
open PySem PySem.W PyProof.Rows
set_option maxRecDepth 100000 in
set_option maxHeartbeats 0 in
theorem PySem.Challenge.cw_letterlaw_k60_rounds_needed_holds : PySem.Challenge.rw_letterlaw_k60_rounds_needed.Holds := by
 w_on;o_law;k_head; (case hw=>w_witness2)
 k_fill
 refine LL.walk (l:=PySem.Challenge.rw_letterlaw_k60_rounds_needed) rfl rfl (λw h Y=>PySem.W.km_in_of Y) ?hJJ ?hNN ?hFF
 case hJJ=>first | kernel_rfl | rfl | decide +kernel
 case hNN=>intro w;first | kernel_rfl | rfl
 case hFF =>
  intro w mg fa h cc T KX G hmg hlam hgT
  refine' LL.all_mk KX G hmg hlam hgT ?a0 ?a1 ?a2 ?a3 ?a4 ?a5 ?a6 ?l6 ?k6 ?p6 ?a7 ?a8 ?a9 ?a10 ?a11 ?a12 ?l12 ?k12 ?p12 ?a13 ?a14 ?a15 ?a16 ?a17 ?a18 ?a19 ?a20 ?a21 ?a22 ?a23 ?a24 ?a25 ?a26 ?a27 ?a28 ?a29 ?l29 ?k29 ?p29 ?a30 ?a31 ?a32 ?a33 ?a34 ?a35 ?a36 ?a37 ?a38 ?a39 ?a40 ?a41 ?a42 ?a43 ?l43 ?k43 ?p43 ?g_LetterError ?g_NoLetters ?g_Order ?g_FromRight ?g_NotTurned ?g_System ?g_NoUse ?g_TooFar ?kbb ?kt ?ki ?kb ?kl ?XIl ?xi ?most ?lm ?ln ?lr ?lu ?mj ?ml ?lv ?mU ?mV ?mW ?iN ?iO ?iP ?iQ ?iR ?iS ?iT ?lK ?lL ?lM ?win ?XIt ?nn ?ini ?lI ?kI ?pI ?fnI ?lN ?lP ?lQ ?lS ?lT ?lV ?no_System ?nr_System ?XIu ?ua ?iniU ?lU ?kU ?pU ?fnU ?XIf ?vi ?sFF ?ks ?nany ?nsorted ?mou ?mos ?mod_ ?mop ?mcu ?mce ?mcd ?mcp ?iA ?iB ?gX ?ie ?ig ?gG ?iC ?iD ?iE ?gM ?gN ?gP ?iF ?iG ?gY ?ij ?ik ?gH ?io ?ip ?iq ?gz ?gA ?gB ?lY ?lw ?fiR_init ?fiR_weight ?fiR_rank ?fiR_before ?b0 ?b1 ?b2 ?b3 ?b4 ?b5 ?b6 ?b7 ?b8 ?b9 ?b10 ?b11 ?b12 ?b13 ?b14 ?b15
  (case a0|a1|a2|a3|a4|a5=>exact#[by k_is,_,L2.fun_mk (by k_is) (by k_is) (by k_is)])
  case a6|l6|k6|p6=>k_is
  (case a7|a8|a9|a10|a11=>exact#[by k_is,_,L2.fun_mk (by k_is) (by k_is) (by k_is)])
  case a12|l12|k12|p12=>k_is
  (case a13|a14|a15|a16|a17|a18|a19|a20|a21|a22|a23|a24|a25|a26|a27|a28=>exact#[by k_is,_,L2.fun_mk (by k_is) (by k_is) (by k_is)])
  case a29|l29|k29|p29=>k_is
  (case a30|a31|a32|a33|a34|a35|a36|a37|a38|a39|a40|a41|a42=>exact#[by k_is,_,L2.fun_mk (by k_is) (by k_is) (by k_is)])
  case a43|l43|k43|p43|g_LetterError|g_NoLetters|g_Order|g_FromRight|g_NotTurned|g_System|g_NoUse|g_TooFar|xi|most|lu|ml|lv|mV|mW|iQ|iS|iT|lL|lM|win|nn|ini|lI|kI|pI|lS|lV|no_System|nr_System|ua|iniU|lU|kU|pU|vi|sFF|nany|nsorted|mou|mos|mod_|mop|mcu|mce|mcd|mcp|iA|ie|iC|gM|iF|ij|io|gz=>k_is
  (case XIl|XIt|XIu|XIf=>exact#[#[by first | kernel_rfl | rfl | k_is | decide +kernel,by k_is,by k_is,by k_is,by k_is],by k_is,by k_is,by k_is,by k_is])
  case lY|lw|fiR_init|fiR_weight|fiR_rank|fiR_before|b0|b1|b2|b3|b4|b5|b6|b7|b8|b9|b10|b11|b12|b13|b14|b15=>k_is
  (case iB|ig|iD|gN|iG|ik|ip|gA=>exact#[_,L2.fun_mk (by k_is) (by k_is) (by k_is)])
  (case kbb|kt|ki|kb|kl|mU|lK|ks=>first | kernel_rfl | rfl)
  (case lm|lr|mj|iN|iP|iR|lN|lQ|lT=>first | kernel_rfl | rfl | k_is | decide +kernel)
  (case ln|iO|fnI|lP|fnU|gX|gG|iE|gP|gY|gH|iq|gB=>first | kernel_rfl | rfl | k_is)
#print axioms PySem.Challenge.cw_letterlaw_k60_rounds_needed_holds
