import PyProof.Rows.All
import Wide.All
import OpenK.AllK
import Wide.FinOn
import PyProof.EqAt
import PyProof.EqKinds
import PyProof.NeKinds
import PyProof.TupleCall
import KE.KRevIter
import PyProof.ZipIter
import PyProof.Rows.SetFrom
import PyProof.StrWalks
import PyProof.DictStraight
import PyProof.StrLawsFrom
import PyProof.Rows.StrNews2
import KE.KMinBuiltin
import PyProof.Rows.CallKwBuiltin
import PyProof.Rows.SortShell
import KE.KSortTup
import KE.KBoundM
import KE.KLam
import Lean
import PySem.Challenge.RW_letterlaw_k84_whole_walked_never_apart
set_option compiler.extract_closed false
local macro_rules | `(tactic| exists $t)=>`(tactic| refine $t (λvs H Q E h=>by first | (obtain⟨_,e,_⟩:=h;subst e;rfl) | (obtain⟨_,_,e,_⟩:=h;subst e;rfl) | (obtain⟨_,_,_,e,_⟩:=h;subst e;rfl) | (obtain⟨_,_,_,_,e,_⟩:=h;subst e;rfl) | (obtain⟨_,_,_,_,_,e,_⟩:=h;subst e;rfl) | (obtain⟨_,_,_,_,_,_,e,_⟩:=h;subst e;rfl) | (obtain⟨_,_,_,_,_,_,_,e,_⟩:=h;subst e;rfl) | (obtain⟨_,_,_,_,_,_,_,_,e,_⟩:=h;subst e;rfl) | (obtain⟨_,_,_,_,_,_,_,_,_,e,_⟩:=h;subst e;rfl) | (obtain⟨_,_,_,_,_,_,_,_,_,_,e,_⟩:=h;subst e;rfl)) (λ$(Lean.mkIdent `cdv) $(Lean.mkIdent `A) $(Lean.mkIdent `outer) $(Lean.mkIdent `s) $(Lean.mkIdent `H) $(Lean.mkIdent `vs) $(Lean.mkIdent `Q) $(Lean.mkIdent `E) $(Lean.mkIdent `hr) $(Lean.mkIdent `h)=>?_))
local macro_rules | `(tactic| exists $t,0)=>`(tactic| refine $t (λvs H Q E h=>by first | (obtain⟨_,e,_⟩:=h;subst e;rfl) | (obtain⟨_,_,e,_⟩:=h;subst e;rfl) | (obtain⟨_,_,_,e,_⟩:=h;subst e;rfl) | (obtain⟨_,_,_,_,e,_⟩:=h;subst e;rfl) | (obtain⟨_,_,_,_,_,e,_⟩:=h;subst e;rfl) | (obtain⟨_,_,_,_,_,_,e,_⟩:=h;subst e;rfl) | (obtain⟨_,_,_,_,_,_,_,e,_⟩:=h;subst e;rfl) | (obtain⟨_,_,_,_,_,_,_,_,e,_⟩:=h;subst e;rfl) | (obtain⟨_,_,_,_,_,_,_,_,_,e,_⟩:=h;subst e;rfl) | (obtain⟨_,_,_,_,_,_,_,_,_,_,e,_⟩:=h;subst e;rfl)) (λ$(Lean.mkIdent `cdv) $(Lean.mkIdent `A) $(Lean.mkIdent `outer) $(Lean.mkIdent `s) $(Lean.mkIdent `H) $(Lean.mkIdent `vs) $(Lean.mkIdent `Q) $(Lean.mkIdent `E) $(Lean.mkIdent `hr) $(Lean.mkIdent `hx) $(Lean.mkIdent `h)=>?_))
local macro_rules | `(tactic| rintro $p* : _)=>`(tactic| rintro $(Lean.mkIdent `Gz):ident $(Lean.mkIdent `hGz):ident $p*)
local macro_rules | `(tactic| right)=>`(tactic| subst $(Lean.mkIdent `hGz))
local macro_rules | `($s⁻¹)=>`(($s).heap.objs.size)
local macro_rules | `(#[$a,*])=>if a.getElems.size>1 then `(⟨$a,*⟩) else Lean.Macro.throwUnsupported
open List renaming getElem?_eq_some_iff→AS,mem_map→AT,mem_append→AU,mem_cons→AV,mem_singleton→AW,mem_filter→AY,mem_range→AZ,mem_reverse→Ba,mem_iff_getElem?→Bb,all_eq_true→Bc,nodup_cons→Bd,mem_flatMap→Be,length_pos_iff→Bg,length_eq_zero_iff→Bj,mem_filterMap→Bk,any_eq_true→Bl,find?_eq_none→Bm,nodup_iff_count→Bn,pairwise_append→Bo,pairwise_cons→Bp
open Option renaming map_eq_some_iff→AX,isSome_iff_exists→Bf,bind_eq_some_iff→Bh
local macro_rules | `(tactic| symm)=>`(tactic| decide +kernel)
local macro_rules | `(tactic| nofun)=>`(tactic| exact⟨rfl,rfl,rfl,by decide +kernel,rfl,by decide +kernel,by decide +kernel⟩)
open PySem.Heap renaming get?_push_of_some→aa,lt_size→aq,get?_push_size→aB,get?_update_other→aF,size_push→bQ,get?_update_self→bY,size_update→dm
open PySem.W renaming findIn→ac,nsIn→av,mg_of→aE,keepIn→aH,mg_none_of→aM,kitOne→aQ,isFn→aR,kia_one→bc,fnOf→bt,mroIn→bA,hasDictIn→bH,emptyDict→bI,plainGet→bM,callWith_K→bN,codeIn→bR,methodCall_KW→bX,kla_fn→bZ,instObj→cb,plainOver→cp,makesIn→cy,specialIn→cC,looks_findIn→cD,subIn→cK,takesIn→dv,plainGet_of→dL,lookIn→dP,methodObj→d6,kitx_list→d7,envX→eE,takerIn→eP,cellsFrom_some→eS,callWith_K0→fv,kitx_tuple→fz,set_plain→fG,kitx_dict→fH,handedIn→fM,bind_fn→fO,findObj→fP,readsIn→fQ,findCls→fR,kat_nil→fV,kas_ask→fW
open List renaming getD_eq_getElem?_getD→ae,mem_of_getElem?→af,length_map→ag,getElem?_eq_getElem→ah,length_append→aj,size_toArray→ak,mem_cons_of_mem→am,append_assoc→ao,map_cons→ar,getElem?_map→au,mem_cons_self→ax,map_append→aA,mem_append_right→aC,length_take→aG,length_cons→aI,range→aK,map_nil→aL,take_length→aO,take_append_of_le_length→aP,drop_eq_getElem_cons→aS,append_nil→aT,lookup_cons→aU,drop_of_length_le→aV,set_cons_zero→aW,set_cons_succ→aX,replicate→aY,mem_of_mem_take→aZ,toArray→ba,getElem?_eq_none→be,lookup→bf,length_drop→bg,sum_cons→bh,mem_append_left→bi,take_of_length_le→bj,nil_append→bp,getElem?_take_of_lt→br,cons_append→bu,getElem?_append_right→bx,getElem?_append_left→bz,getElem?_reverse→bB,idxOf_lt_length_of_mem→bD,take_append_drop→bK,drop_append_of_le_length→bL,take_zero→bS,length_nil→bT,mem_of_mem_drop→cj,length_range→cq,replicate_succ→cr,length_replicate→cz,range_succ→cB,drop_left→cE,length_reverse→cF,map_congr_left→cG,getElem?_cons_zero→cH,countP_cons_of_pos→cI,filter_append→cM,length_filter_le→cQ,take_left→cS,flatMap_append→cX,of_mem_zip→cZ,forIn_cons→da,filter_nil→db,contains_cons→de,zip_cons_cons→df,getElem?_cons_succ→dg,append_cancel_left→dh,countP_cons_of_neg→di,mem_cons→dk,length_singleton→du,map_map→dA,find?_some→dC,eq_nil_of_length_eq_zero→dH,filterMap_cons→dI,getElem?_range→dM,replicate_zero→dN,take_succ_cons→dO,drop_zero→dQ,drop_drop→dU,find?_eq_none→dX,getElem_idxOf→dY,getElem?_drop→dZ,ext_getElem?→d9,extract_eq_drop_take→ef,mem_of_find?_eq_some→eg,drop_length→eC,mem_nil_iff→eD,map_reverse→eI,filter_cons→eJ,getElem?_replicate→eL,pairwise_singleton→eM,filter_cons_of_pos→eN,filter_cons_of_neg→eO,getElem?_set_self→eR,range_succ_eq_map→eU,forIn_nil→e8,mem_range→fg,take_take→fh,mem_of_mem_head?→fj,getElem?_set_ne→fk,getElem_range→fF,length→fJ
open Nat renaming le_refl→al,lt_of_lt_of_le→aw,ne_of_lt→az,zero_le→aD,le_trans→aN,ne_of_gt→ce,not_lt_zero→cf,le_add_right→cu,min_eq_left→cA,lt_irrefl→cJ,lt_of_le_of_lt→cL,le_succ→cN,lt_succ_of_lt→cP,le_of_not_lt→cT,le_of_lt→dc,min_eq_right→dn,lt_or_ge→dz,zero_add→dB,mul_le_mul_right→dF,lt_trichotomy→ee,lt_succ_self→eh,succ_mul→et,sub_self→eK,mul_le_mul→e7,min_self→fA
open Bool renaming false_ne_true→ay,false_eq_true→bC,and_eq_true→bV,eq_false_or_eq_true→ci,eq_iff_iff→cY,or_true→dw,not_eq_true'→d8,or_eq_true→eQ,and_false→eZ,not_false→e9,and_true→fo,beq_comm→fq,not_true→ft,true_and→fu
open Int renaming toNat_natCast→aJ,emod_lt_of_pos→bn,emod_nonneg→bq,eq_ofNat_of_zero_le→bE,natCast_mul→dD,le_refl→fL
open PyProof.Rows renaming callWith_type1→bv
open PySem.F renaming plainAttrs_list→bw,plain_max_loop→bG,slot_list_append→bO,type_list_append→bP,plainAttrs_str→cw,entry_max_loop→dj,excBase_ValueError→d5,slot_str_count→eV,type_str_count→eW,slot_str_index→eX,type_str_index→eY
open PySem.Str renaming ofString→bF,empty→dW
open Decidable renaming byContradiction→bJ
open PySem renaming mem_of_lookup→bU,strKind→cU,frameOf→d4,passOn→fB,call→fS
open Option renaming bind_some→bW,getD_some→dq,join_some→eF,join_none→eG,getD_none→fN
open Array renaming length_toList→dJ,getD→fm,toList_append→fw
open PySem renaming wpAny_bind→rO,wpAny_pure→rP,mainGlobals→rQ,starEach→rR,sizeLine→rS
open PySem.W renaming Frag→rT
open PySem renaming Addr→rV,Value→rW,Shared→rX,FuncData→rY,wpAny→rZ,Program→sf,Str→si,World→sj,Around→sk,Expr→so,Heap→sq,Stmt→sr,compareOp→su,keywordEach→sv,backTo→sw,wpAny_field→sy,strIterType→sB,wpAny_Call_Name_kw→sE,sizeLine_eq→sF,wpAny_truthy_bool→sH,Obj→sI,wpAny_holding→sJ,bootBuiltins→sK,backToKw→sL,wpAny_seqItems→sM,wpAny_loadPart_at→sN,Scope→sP,IsPair→sQ,wpAny_passesOwn→sS,wpAny_standAt→sU,wpAny_noRaise→sV,wpAny_setField→sX,Pos→sY,wpAny_setField_rec→sZ,wpAny_execs_nil→tj,wpAny_mono→tm,wpAny_call→tu,wpAny_execs_cons→tw,codeAny_mono→tz,codeAny→tB,wpAny_isSubtype_exc→tD,codeAny_builtin→tE,wpAny_letGo→tF,Arguments→tG,wpAny_tryCatch→tH,plainObj_wpAny_Assign_Attribute→tI,CmpOp→tJ,wpAny_attempt→tK,codeAny_call_builtin→tL,NameKind→tM,Tok→tP,IsZip→tQ,wpAny_pyIter_list→tR,wpAny_comprehension_free→tS,wpAny_getItem_str_slice→tT,wpAny_call_entry→tU,wpAny_rule→tV,wpAny_pyNext_range_end→tW,wpAny_pyIter_rangeiter→tX,wpAny_updateSeq→tZ,Env→Aa,wpAny_updateSeq_pair→Ab,wpAny_pyIter_revIter→Ac,wpAny_newFunctionEnv→Ad,wpAny_loadPart→Ae,recursionLimit→Af,excClassObj→Ag,Result→Ah,IsRangeIter→Ai,BindsTo→Aj,wpAny_onRaise→Ak,wpAny_newList→Al,ExceptHandler→An,wpAny_pyIter_tuple→Ao,wpAny_pyIter_range→Ap,wpAny_pyIter_enum→Aq,wpAny_newObj_type→Ar,wpAny_assign_Name→As,wpAny_Return_some→Au,wpAny_Assign_Name→Av,Model→Aw,GenState→Ay,wpAny_pyIter_zip→Az,wpAny_lookBehind→AA,wpAny_Try_except→AB,isCodeTable→AC,Sem→AD,Keyword→AE,wpAny_Name→AF,TriplesOk→AH,Paired→AI
open PyProof.Rows renaming seqObj→sC,envOfC→tN,AllBare→tO,subscriptTail_builtinR→tY,subscriptTail→Am,IntsAre→Ax,Subscript_→AG,Call_→AJ
open Option renaming some→AK,none→AL
open Bool renaming true→AM,false→AN
open PySem PySem.Spec PyProof.Rows
set_option Elab.async false
set_option linter.all false
set_option maxRecDepth 100000
set_option maxHeartbeats 4000000
namespace L2
noncomputable abbrev Key:=Sum Int si
noncomputable def zc9:Key->rW->Bool
 | .inl k,v=>Value.isInt k v
 | .inr x,v=>Value.isStrOf x v
noncomputable def zgn(w:sj):Key->Int
 | .inl k=>hashInt k
 | .inr x=>hashStr w x
theorem yh:∀{k:Key} {v:rW},zc9 k v=AM->(∃i t,k=Sum.inl i/\v=Value.int i t)\/(∃x t,k=Sum.inr x/\v=Value.str x t)
 | .inl i,v,h=>by
  obtain⟨t,e⟩:=Value.isInt_shape (k:=i) (v:=v) h;exact .inl #[i,t,rfl,e]
 | .inr x,v,h=>by
  obtain⟨t,e⟩:=Value.isStrOf_shape (x:=x) (v:=v) h;exact .inr #[x,t,rfl,e]
theorem zdW(a b:Int):decide ((Sum.inl a:Key)=Sum.inl b)=(a == b):=by
 by_cases e:a=b
 ·subst e;simp
 ·have h:¬ (Sum.inl a:Key)=Sum.inl b:=λq=>e (Sum.inl.inj q);rw[decide_eq_false h];exact (beq_eq_false_iff_ne.mpr e).symm
theorem zdR(a b:si):decide ((Sum.inr a:Key)=Sum.inr b)=decide (a=b):=by
 by_cases e:a=b
 ·subst e;simp
 ·have h:¬ (Sum.inr a:Key)=Sum.inr b:=λq=>e (Sum.inr.inj q);rw[decide_eq_false h,decide_eq_false e]
theorem zdq(a:Int)(b:si):decide ((Sum.inl a:Key)=Sum.inr b)=AN:=decide_eq_false (λq=>nomatch q)
theorem zee(a:si)(b:Int):decide ((Sum.inr a:Key)=Sum.inl b)=AN:=decide_eq_false (λq=>nomatch q)
noncomputable def Y6(prog:sf)(w:sj):PySem.KeyKind prog w Key where
 is:=zc9
 hash:=zgn w
 inj:=λv a b ha hb=>by
  rcases yh ha with ⟨i,t,rfl,rfl⟩ | ⟨x,t,rfl,rfl⟩
  ·rcases yh hb with ⟨j,u,rfl,e⟩ | ⟨y,u,rfl,e⟩
   ·injection e with e1 _;rw[e1]
   ·exact nomatch e
  ·rcases yh hb with ⟨j,u,rfl,e⟩ | ⟨y,u,rfl,e⟩
   ·exact nomatch e
   ·injection e with e1 _;rw[e1]
 byValue:=λk v h=>by
  rcases yh h with ⟨i,t,rfl,rfl⟩ | ⟨x,t,rfl,rfl⟩ <;> rfl
 pyHash:=λhv h=>by
  rcases yh hv with ⟨i,t,rfl,rfl⟩ | ⟨x,t,rfl,rfl⟩
  ·exact wpAny_pyHash_int h
  ·exact wpAny_pyHash_str h
 eqBool:=λhu hv h=>by
  rcases yh hu with ⟨i,t,rfl,rfl⟩ | ⟨x,t,rfl,rfl⟩
  ·rcases yh hv with ⟨j,u,rfl,rfl⟩ | ⟨y,u,rfl,rfl⟩
   ·rw[zdW]at h;exact wpAny_eqBool_int h
   ·rw[zdq]at h;exact SeqAt.EqAt.int_str i t y u _ _ _ _ h
  ·rcases yh hv with ⟨j,u,rfl,rfl⟩ | ⟨y,u,rfl,rfl⟩
   ·rw[zee]at h;exact SeqAt.EqAt.str_int x t j u _ _ _ _ h
   ·rw[zdR]at h;exact wpAny_eqBool_str h
 «strs»:=λk x t v h=>by
  rcases yh h with ⟨i,u,rfl,e⟩ | ⟨y,u,rfl,e⟩
  ·exact nomatch e
  ·injection e with e1 _;subst e1;cases v <;> rfl
end L2
namespace L2
inductive V where
 | non | bl (b:Bool) | int (i:Int) | str (x:si) | byt (b:Array UInt8) | flt (b:UInt64) | ref (a:rV) | ty (n:String)
 deriving DecidableEq
def RelV:V->rW->Prop
 | .non,u=>u=Value.none
 | .bl b,u=>u=Value.bool b
 | .int i,u=>∃t,u=Value.int i t
 | .str x,u=>∃t,u=Value.str x t
 | .byt b,u=>∃t,u=Value.bytes b t
 | .flt b,u=>∃t,u=Value.float b t
 | .ref a,u=>u=Value.ref a
 | .ty n,u=>u=Value.type n
abbrev Vals:List V->List rW->Prop:=AI RelV
theorem Vals.length{xs:List V}{us:List rW}(r:Vals xs us):xs.length=us.length:=Paired.length r
theorem Vals.get:∀{xs:List V} {us:List rW} {i:Nat} {x:V},Vals xs us->xs[i]? = AK x->∃u,us[i]? = AK u/\RelV x u
 | _,_,_,_,.nil,e=>by simp at e
 | _,_,0,_,.cons r _,e=>by simp at e;subst e;exact#[_,rfl,r]
 | _,_,i+1,x,.cons _ t,e=>by
  obtain⟨u,h1,h2⟩:=Vals.get (i:=i) (x:=x) t (by simpa using e);exact#[u,by simpa using h1,h2]
theorem Vals.set{x:V}{u:rW}(r:RelV x u):∀{xs:List V} {us:List rW} (i:Nat),Vals xs us->Vals (xs.set i x) (us.set i u)
 | _,_,_,.nil=>.nil
 | _,_,0,.cons _ t=>.cons r t
 | _,_,i+1,.cons q t=>.cons q (Vals.set r i t)
theorem Vals.append:∀{xs ys:List V} {us ws:List rW},Vals xs us->Vals ys ws->Vals (xs ++ ys) (us ++ ws)
 | _,_,_,_,.nil,s=>s
 | _,_,_,_,.cons r t,s=>.cons r (Vals.append t s)
theorem Vals.take:∀{xs:List V} {us:List rW} (n:Nat),Vals xs us->Vals (xs.take n) (us.take n)
 | _,_,0,_=>.nil
 | _,_,_+1,.nil=>.nil
 | _,_,n+1,.cons r t=>.cons r (Vals.take n t)
theorem Vals.drop:∀{xs:List V} {us:List rW} (n:Nat),Vals xs us->Vals (xs.drop n) (us.drop n)
 | _,_,0,r=>r
 | _,_,_+1,.nil=>.nil
 | _,_,n+1,.cons _ t=>Vals.drop n t
def RelO:Option V->Option rW->Prop
 | some v,AK u=>RelV v u
 | none,AL=>True
 | _,_=>False
def KV{κ:Type}:List (κ × V)->List (κ × rW)->Prop:=AI λ(p:κ × V) (q:κ × rW)=>p.1=q.1/\RelV p.2 q.2
noncomputable def kV:Key->V
 | .inl i=>.int i
 | .inr x=>.str x
inductive HO where
  | lst (xs:List V)
  | tup (xs:List V)
  | dK (kvs:List (Key × V)) | dT (kvs:List (List Key × V))
  | set (S:Int->Bool) (n:Nat)
  | ins (C dx:rV) (fs:List (si × V))
  | own (x:rV)
  | xd (fs:List (si × V))
  | met (f x:rV)
  | rng (lo hi:Int)
  | frz (o:sI) (u:HO)
  | tbl (ps:Array rW)
  | ext (φ:sq->Prop)
noncomputable abbrev Hp:=rV->Option HO
noncomputable def upd(H:Hp)(a:rV)(o:HO):Hp:=λb=>if b=a then AK o else H b
theorem ze{H:Hp}{a:rV}{o:HO}:upd H a o a=AK o:=by unfold upd;rw[if_pos rfl]
theorem zm{H:Hp}{a b:rV}{o:HO}(h:b≠a):upd H a o b=H b:=by unfold upd;rw[if_neg h]
theorem zF{H:Hp}{a b:rV}{o:HO}(h:H a=AK o)(h':H b=AL):a≠b:=by
 intro e;subst e;rw[h]at h';cases h'
section
variable(P:sf)(w:sj)
def ObjOk(H:Hp)(h:sq)(a:rV):HO->Prop
 | .lst xs=>xs.length<=rS/\∃(its:List rW) (n:Nat),Vals xs its/\h.get? a=AK { cls:=.type "list",data:=.seq its.toArray n }
 | .tup xs=>xs.length<=rS/\∃its:List rW,Vals xs its/\IsTup h a its.toArray
 | .dK kvs=>kvs.length<=rS/\(a == sysModules)=AN/\∃vs,KV kvs vs/\h.DictOf (Y6 P w) a vs
 | .dT kvs=>kvs.length<=rS/\(a == sysModules)=AN/\∃xs:List (List Key × rV × rW),
   AI (λ(p:List Key × V) (q:List Key × rV × rW)=>p.1=q.1/\H q.2.1=AK (.tup (p.1.map kV))/\RelV p.2 q.2.2) kvs xs /\
   ∃o es ep,h.get? a=AK o/\o.ExactDict/\o.data=.dict es ep/\es.toList=xs.map (entryOfKey (tupleKind (Y6 P w)))/\(xs.map (·.1)).Nodup
 | .set S n=>h.SetOf (intKind P w) a S n
 | .ins C dx fs=>H dx=AK (.own a)/\fs.length<=1000/\dx≠a/\h.get? a=AK (cb C dx) /\
   ∃mA,h.Ns1 dx mA/\(∀f,RelO (fs.lookup f) (mA f))/\PySem.Within mA (fs.map (·.1))
 | .own _=>∃o,h.get? a=AK o
 | .xd fs=>∃mA,h.Ns1 a mA/\∀f,RelO (fs.lookup f) (mA f)
 | .rng lo hi=>∃t u v,h.get? a=AK { cls:=.type "range",data:=.fields (List.toArray [.int lo t,.int hi u,.int 1 v]) }
 | .frz o u=>h.get? a=AK o/\ObjOk H h a u
 | .tbl ps=>h.get? a=AK { cls:=.none,data:=.fields ps }
 | .met f x=>h.get? a=AK (d6 (.ref f) (.ref x))
 | .ext φ=>φ h/\(∃o,h.get? a=AK o)/\∀h1 h2:sq,φ h1->(∀o,h1.get? a=AK o->h2.get? a=AK o)->φ h2
def HOk(H:Hp)(h:sq):Prop:=∀a o,H a=AK o->ObjOk P w H h a o
end
section
variable{P:sf}{w:sj}{H H':Hp}{h h':sq}{a:rV}{o:HO}
theorem ObjOk.lt(x:ObjOk P w H h a o):a<h.objs.size:=by
 cases o with
 | lst xs=>obtain⟨_,_,_,_,e⟩:=x;exact aq e
 | tup xs=>obtain⟨_,_,_,p⟩:=x;exact p.lt
 | dK kvs=>obtain⟨_,_,_,_,o,_,_,e,_⟩:=x;exact aq e
 | dT kvs=>obtain⟨_,_,_,_,o,_,_,e,_⟩:=x;exact aq e
 | set S n=>obtain⟨o,_,_,_,e,_⟩:=x;exact aq e
 | ins C dx fs=>obtain⟨_,_,_,e,_⟩:=x;exact aq e
 | own y=>obtain⟨_,e⟩:=x;exact aq e
 | xd fs=>obtain⟨_,⟨_,_,_,e,_⟩,_⟩:=x;exact aq e
 | rng lo hi=>obtain⟨_,_,_,e⟩:=x;exact aq e
 | frz ob u=>obtain⟨e,_⟩:=x;exact aq e
 | tbl ps=>exact aq (show h.get? a=AK _ from x)
 | met f y=>exact aq (show h.get? a=AK _ from x)
 | ext φ=>obtain⟨_,⟨_,e⟩,_⟩:=x;exact aq e
theorem Paired.mapP{α β:Type}{F G:α->β->Prop}:∀{l₁:List α} {l₂:List β},AI F l₁ l₂->(∀a b,F a b->G a b)->AI G l₁ l₂
 | _,_,.nil,_=>.nil
 | _,_,.cons r t,f=>.cons (f _ _ r) (Paired.mapP t f)
theorem ObjOk.stay(x:ObjOk P w H h a o)(k:∀b u,(b=a\/H b=AK (.own a))->h.get? b=AK u->h'.get? b=AK u)
  (ho:∀b,H b=AK (.own a)->H' b=AK (.own a)) (ht:∀b xs,H b=AK (.tup xs)->H' b=AK (.tup xs)):ObjOk P w H' h' a o:=by
 induction o with
 | lst xs=>obtain⟨z,its,n,r,e⟩:=x;exact#[z,its,n,r,k _ _ (.inl rfl) e]
 | tup xs=>obtain⟨z,its,r,ob,e,c⟩:=x;exact#[z,its,r,ob,k _ _ (.inl rfl) e,c]
 | dK kvs=>obtain⟨z,y,vs,r,ob,es,ep,e,c⟩:=x;exact#[z,y,vs,r,ob,es,ep,k _ _ (.inl rfl) e,c]
 | dT kvs =>
  obtain⟨z,y,xs,r,ob,es,ep,e,c⟩:=x;exact#[z,y,xs,Paired.mapP r λp q z=>#[z.1,ht _ _ z.2.1,z.2.2],ob,es,ep,k _ _ (.inl rfl) e,c]
 | set S n=>obtain⟨ob,es,ep,t,e,c⟩:=x;exact#[ob,es,ep,t,k _ _ (.inl rfl) e,c]
 | ins C dx fs =>
  obtain⟨d,z,ne,e,mA,⟨od,es,ep,e2,c⟩,r⟩:=x;exact#[ho _ d,z,ne,k _ _ (.inl rfl) e,mA,#[od,es,ep,k _ _ (.inr d) e2,c],r]
 | own y=>obtain⟨ob,e⟩:=x;exact#[ob,k _ _ (.inl rfl) e]
 | xd fs=>obtain⟨mA,⟨od,es,ep,e,c⟩,r⟩:=x;exact#[mA,#[od,es,ep,k _ _ (.inl rfl) e,c],r]
 | rng lo hi=>obtain⟨t,u,v,e⟩:=x;exact#[t,u,v,k _ _ (.inl rfl) e]
 | frz ob u ih=>obtain⟨e,q⟩:=x;exact#[k _ _ (.inl rfl) e,ih q]
 | tbl ps =>
  have e:h.get? a=AK { cls:=.none,data:=.fields ps }:=x;show h'.get? a=AK { cls:=.none,data:=.fields ps };exact k a _ (.inl rfl) e
 | met f y =>
  have e:h.get? a=AK (d6 (.ref f) (.ref y)):=x;show h'.get? a=AK (d6 (.ref f) (.ref y));exact k a _ (.inl rfl) e
 | ext φ=>obtain⟨p,⟨o,e⟩,st⟩:=x;exact#[st _ _ p λo q=>k _ _ (.inl rfl) q,#[o,k _ _ (.inl rfl) e],st]
theorem HOk.lt(x:HOk P w H h)(e:H a=AK o):a<h.objs.size:=(x a o e).lt
theorem HOk.fresh(x:HOk P w H h)(e:h.objs.size<=a):H a=AL:=by
 cases q:H a with
 | none=>rfl
 | some u=>exact absurd (aw (x.lt q) e) (cJ _)
theorem HOk.kept(x:HOk P w H h)(k:∀b u,h.get? b=AK u->h'.get? b=AK u):HOk P w H h':=λa o e =>
 (x a o e).stay (λb u _ q=>k b u q) (λ_ q=>q) λ_ _ q=>q
theorem HOk.laid(x:HOk P w H h)(k:∀b u,h.get? b=AK u->h'.get? b=AK u)(hp:h.objs.size<=a)(new:ObjOk P w (upd H a o) h' a o):HOk P w (upd H a o) h':=λb u e=>by
 have hn:=x.fresh hp;by_cases hb:b=a
 ·subst hb;rw[ze]at e;cases e;exact new
 ·rw[zm hb]at e;exact (x b u e).stay (λc v _ q=>k c v q) (λc q=>by rw[zm (zF q hn)];exact q) λc xs q=>by rw[zm (zF q hn)];exact q
end
def Rd(H:Hp)(a:rV)(u:HO):Prop:=H a=AK u\/∃o,H a=AK (.frz o u)
theorem Rd.ok{P:sf}{w:sj}{H:Hp}{h:sq}{a:rV}{u:HO}(r:Rd H a u)(x:HOk P w H h):ObjOk P w H h a u:=by
 rcases r with r | ⟨o,r⟩
 ·exact x a u r
 ·obtain⟨_,q⟩:=x a _ r;exact q
def Mut:Option HO->Prop
 | some (.lst _)=>True
 | some (.dK _)=>True
 | some (.dT _)=>True
 | some (.set _ _)=>True
 | some (.ins _ _ _)=>True
 | some (.ext _)=>True
 | _=>False
section
variable{P:sf}{w:sj}{H:Hp}{h h':sq}{x e:rV}{o':HO}
theorem HOk.write(ok:HOk P w H h)(mu:Mut (H x))(he:e=x\/H e=AK (.own x))(k:∀b u,b≠e->h.get? b=AK u->h'.get? b=AK u)(heo:∃u,h'.get? e=AK u)
  (new:ObjOk P w (upd H x o') h' x o'):HOk P w (upd H x o') h':=λb u q=>by
 have nown:∀c y,H c=AK (.own y)->c≠x:=λc y r z=>by subst z;rw[r]at mu;exact mu
 have ntup:∀c xs,H c=AK (.tup xs)->c≠x:=λc xs r z=>by subst z;rw[r]at mu;exact mu
 by_cases hb:b=x
 ·subst hb;rw[ze]at q;cases q;exact new
 ·rw[zm hb]at q;by_cases hbe:b=e
  ·have q':H b=AK (.own x):=by
    rcases he with z | z
    ·exact absurd (hbe.trans z) hb
    ·rw[hbe];exact z
   rw[q]at q';cases q';obtain⟨v,hv⟩:=heo;exact#[v,by rw[hbe];exact hv]
  ·refine (ok b u q).stay (λc v hc r=>k c v ?_ r) (λc r=>by rw[zm (nown c b r)];exact r) λc xs r=>by rw[zm (ntup c xs r)];exact r
   rcases hc with rfl | hc
   ·exact hbe
   ·rintro rfl;rcases he with z | z
    ·exact nown c b hc z
    ·rw[hc]at z;cases z;exact hb rfl
end
structure Un(fs ex:List rV)(H H':Hp)(h h':sq):Prop where
 keep:∀b o,h.get? b=AK o->H b=AL->b ∉ fs->b ∉ ex->h'.get? b=AK o
 slot:∀b o,h.get? b=AK o->H b=AL->b ∈ fs->b ∉ ex->∃sl,h'.get? b=AK { o with slots:=sl }
 free:∀b o,h.get? b=AK o->H b=AL->b ∉ ex->H' b=AL
 there:∀b o,h.get? b=AK o->b ∉ ex->∃o',h'.get? b=AK o'
 tups:∀b xs,H b=AK (.tup xs)->H' b=AK (.tup xs)
 frzs:∀b o u,H b=AK (.frz o u)->H' b=AK (.frz o u)
 tbls:∀b ps,H b=AK (.tbl ps)->∃more,H' b=AK (.tbl (ps ++ more))
section
variable{fs fs' ex ex':List rV}{H H1 H2:Hp}{h h1 h2 h':sq}{a x e:rV}{o:HO}
theorem Un.any(u:Un fs ex H H1 h h1){b:rV}{ob:sI}(q:h.get? b=AK ob)(n:H b=AL)(hx:b ∉ ex):∃sl,h1.get? b=AK { ob with slots:=sl }:=by
 by_cases hb:b ∈ fs
 ·exact u.slot b ob q n hb hx
 ·exact#[ob.slots,u.keep b ob q n hb hx]
theorem Un.kept(k:∀b u,h.get? b=AK u->h'.get? b=AK u):Un fs ex H H h h' :=
 #[λb ob q _ _ _=>k b ob q,λb ob q _ _ _=>#[ob.slots,k b ob q],λ_ _ _ n _=>n,λb ob q _=>#[ob,k b ob q],λ_ _ q=>q,λ_ _ _ q=>q,λ_ ps q=>#[#[],by rw[q];simp]]
theorem Un.refl:Un fs ex H H h h:=Un.kept λ_ _ q=>q
theorem Un.laid(k:∀b u,h.get? b=AK u->h'.get? b=AK u)(hp:h.objs.size<=a)(hn:H a=AL):Un fs ex H (upd H a o) h h' where
 keep:=λb u q _ _ _=>k b u q
 slot:=λb u q _ _ _=>#[u.slots,k b u q]
 free:=λb u q n _=>by rw[zm (az (aw (aq q) hp))];exact n
 there:=λb u q _=>#[u,k b u q]
 tups:=λb xs q=>by rw[zm (zF q hn)];exact q
 frzs:=λb u xs q=>by rw[zm (zF q hn)];exact q
 tbls:=λb ps q=>#[#[],by rw[zm (zF q hn),q];simp]
theorem Un.write(mu:Mut (H x))(he:e=x\/H e=AK (.own x))(k:∀b u,b≠e->h.get? b=AK u->h'.get? b=AK u)(heo:∃u,h'.get? e=AK u):Un fs ex H (upd H x o) h h':=by
 have hx:∀b,H b=AL->b≠x:=λb n z=>by subst z;rw[n]at mu;exact mu
 have hb:∀b,H b=AL->b≠e:=λb n z=>by
  subst z;rcases he with r | r
  ·exact hx b n r
  ·rw[n]at r;cases r
 have hm:∀b u,H b=AK u->¬ Mut (AK u)->b≠x:=λb u q nm z=>by subst z;rw[q]at mu;exact nm mu
 refine#[λb u q n _ _=>k b u (hb b n) q,λb u q n _ _=>#[u.slots,k b u (hb b n) q],λb u q n _=>by rw[zm (hx b n)];exact n,λb u q _=>?_,
  λb xs q=>by rw[zm (hm b _ q λz=>z)];exact q,λb u xs q=>by rw[zm (hm b _ q λz=>z)];exact q,λb ps q=>#[#[],by rw[zm (hm b _ q λz=>z),q];simp]]
 by_cases hbe:b=e
 ·subst hbe;exact heo
 ·exact#[u,k b u hbe q]
end
noncomputable def trk(h:sq)(H:Hp):List rV:=(aK h.objs.size).filter λa=>(H a).isSome
noncomputable def Qq(h:sq)(H:Hp):sq:=PySem.W.hideAll h (trk h H)
theorem Q0(h:sq)(H:Hp):(Qq h H).objs.size=h.objs.size:=PySem.W.hideAll_size _ _
theorem X4{h:sq}{H:Hp}{b:rV}{o:sI}(e:h.get? b=AK o)(n:H b=AL):(Qq h H).get? b=AK o :=
 PySem.W.hideAll_get _ e λhm=>by
  have q:(H b).isSome=AM:=(AY.mp hm).2;rw[n]at q;simp at q
theorem zb4{h:sq}{H:Hp}{b:rV}{o:sI}(e:(Qq h H).get? b=AK o):h.get? b=AK o/\H b=AL:=by
 have e':h.get? b=AK o:=PySem.W.of_hideAll (trk h H) e;refine#[e',?_]
 cases q:H b with
 | none=>rfl
 | some x =>
  have hm:b ∈ trk h H:=AY.mpr #[AZ.mpr (aq e'),by simp [q]];have z:(Qq h H).get? b=AL:=PySem.W.hideAll_none (trk h H) hm;rw[z]at e;cases e
noncomputable def zcr(g h:sq)(L:rV):List (rV × sI):=(aK h.objs.size).filterMap λa=>if a=L\/(g.get? a).isSome=AM then AL else (h.get? a).map λo=>(a,o)
noncomputable def rest(g h:sq)(L d:rV):List (rV × sI):=(zcr g h L).filter λp=>decide (p.1≠d)
end L2
namespace L2
structure Mod(K:rT)(mg:si->Option rW)(base:sq):Prop where
 kin:K.In base
 glob:base.Ns rQ mg
 blt:∃mb,base.Ns builtinsNs mb/\∀x:si,x≠"__name__"->mb x=sK x
 nolimit:base.NoLimit
structure Cx where
 prog:sf
 w:sj
 K:rT
 mg:si->Option rW
 base:sq
 A:sk
 N:List si
 s₀:rX
 H₀:Hp
 env:Aa
 outer:List Aa
 stack:List Aa
 ex:List rV
 fn:si->Bool
 calm:Bool
 pn:List (rV × sI)
 xe:rW->rX->Prop
noncomputable def frs(l:List Aa):List rV:=l.filterMap (·.frame)
noncomputable abbrev Cx.fs(X:Cx):List rV:=frs X.outer
def Vis(sc:sP)(x:si):Prop:=sc.names.lookup x=AK .local\/sc.names.lookup x=AK .cell\/sc.names.lookup x=AK .free
def Loc(sc:sP)(x:si):Prop:=sc.names.lookup x=AK .local\/sc.names.lookup x=AK .cell
def zgj(env:Aa)(h:sq)(m:si->Option rW)(x:si)(u:rW):Prop :=
 (env.kindOf x=AK .local/\m x=AK u)\/((env.kindOf x=AK .cell\/env.kindOf x=AK .free)/\∃c,env.cells.lookup x=AK c/\h.IsCell c (AK u))
structure Cx.Ok(X:Cx):Prop where
 mod:Mod X.K X.mg X.base
 kind:X.env.scope.kind=.function
 glob:X.env.globals=rQ
 blt:X.env.builtins=builtinsNs
 above:X.s₀.heap.objs.size<=X.env.locals
 inj:∀x y c,X.env.cells.lookup x=AK c->X.env.cells.lookup y=AK c->x=y
 has:∀x,(X.env.kindOf x=AK .cell\/X.env.kindOf x=AK .free)->∃c,X.env.cells.lookup x=AK c
 cab:∀x c,X.fn x=AM->X.env.cells.lookup x=AK c->X.s₀.heap.objs.size<=c
 hd:X.calm=AM->X.A.handled=AL
 frames:X.A.frames=AK X.stack
 stk:X.stack=X.outer\/(X.stack=X.env::X.outer/\X.env.frame=AK X.env.locals)
 exf:∀b ∈ X.ex,b≠X.env.locals/\∀x c,X.env.cells.lookup x=AK c->c≠b
 bs:∀b o,X.base.get? b=AK o->X.s₀.heap.get? b=AK o/\X.H₀ b=AL
 bsz:X.base.objs.size<=X.s₀.heap.objs.size
 noex:∀b o,X.base.get? b=AK o->b ∉ X.ex
 exfs:∀b ∈ X.ex,b ∉ X.fs
 funs:X.s₀.heap.FunFrames X.base X.outer
 frf:∀b ∈ X.fs,X.H₀ b=AL
structure Inv(X:Cx)(AO:List (rV × sI))(σ:List (Option V))(H:Hp)(s:rX):Prop where
 ok:X.Ok
 os:s.os=X.s₀.os
 bare:tO s.gens
 base:Un X.fs X.ex X.H₀ H X.s₀.heap s.heap
 loc:∃m,s.heap.Ns X.env.locals m/\∀(i:Nat) (x:si) (v:V),X.N[i]? = AK x->σ[i]? = AK (AK v)->Vis X.env.scope x->∃u,RelV v u/\zgj X.env s.heap m x u
 cell:∀x c,X.env.cells.lookup x=AK c->∃v,s.heap.IsCell c v
 free:H X.env.locals=AL
 freeC:∀x c,X.env.cells.lookup x=AK c->H c=AL
 pin:∀p ∈ X.pn ++ AO,s.heap.get? p.1=AK p.2/\H p.1=AL/\p.1≠X.env.locals/\p.1 ∉ X.fs/\∀v,p.2.data≠.cell v
 hok:HOk X.prog X.w H s.heap
 len:σ.length=X.N.length
section
variable{X:Cx}{AO:List (rV × sI)}{σ:List (Option V)}{H H':Hp}{s:rX}{h':sq}
theorem Cx.Ok.nofr(ok:X.Ok){b:rV}{o:sI}(e:X.base.get? b=AK o):b ∉ X.fs:=λhb=>by
 have:=(ok.funs.mem hb).1;rw[e]at this;cases this
theorem Inv.bs(I:Inv X AO σ H s):∀b o,X.base.get? b=AK o->s.heap.get? b=AK o/\H b=AL:=λb o e =>
 #[I.base.keep b o (I.ok.bs b o e).1 (I.ok.bs b o e).2 (I.ok.nofr e) (I.ok.noex b o e),I.base.free b o (I.ok.bs b o e).1 (I.ok.bs b o e).2 (I.ok.noex b o e)]
theorem Inv.bk(I:Inv X AO σ H s):∀b o,X.base.get? b=AK o->s.heap.get? b=AK o:=λb o e=>(I.bs b o e).1
theorem Inv.mod(I:Inv X AO σ H s):Mod X.K X.mg X.base:=I.ok.mod
theorem Inv.kIn(I:Inv X AO σ H s):X.K.In s.heap:=I.ok.mod.kin.keeps I.bk
theorem Inv.nolimit(I:Inv X AO σ H s):s.heap.NoLimit:=I.ok.mod.nolimit.keeps I.bk
theorem Inv.fr(I:Inv X AO σ H s):∃m,Fr X.base X.env.locals s.heap m :=
 let #[m,hn,_]:=I.loc
 #[m,hn,I.bk,aN I.ok.bsz I.ok.above]
theorem Inv.lt(I:Inv X AO σ H s):X.env.locals<s⁻¹:=let #[_,hn,_]:=I.loc;hn.lt
theorem Inv.sz(I:Inv X AO σ H s):X.s₀.heap.objs.size<=s⁻¹:=aN I.ok.above (dc I.lt)
theorem Inv.nofs(I:Inv X AO σ H s){a:rV}(h:s⁻¹<=a):a ∉ X.fs:=λhb=>by
 obtain⟨_,o,ho,_⟩:=I.ok.funs.mem hb;exact absurd (aw (aq ho) (aN I.sz h)) (cJ _)
theorem Inv.cne(I:Inv X AO σ H s):∀x c,X.env.cells.lookup x=AK c->c≠X.env.locals:=λx c e z=>by
 obtain⟨v,o,ho,hd⟩:=I.cell x c e;obtain⟨m,⟨o',es,ep,ho',hd',_⟩,_⟩:=I.loc;rw[z,ho']at ho;cases ho;rw[hd']at hd;cases hd
theorem Inv.funs(I:Inv X AO σ H s):s.heap.FunFrames X.base X.outer:=by
 have all:∀(l:List Aa),(∀b ∈ frs l,b ∈ X.fs)->X.s₀.heap.FunFrames X.base l->s.heap.FunFrames X.base l:=by
  intro l
  induction l with
  | nil=>intro _ _;trivial
  | cons env r ih =>
   intro hs hl;obtain⟨hk,⟨L,o,hf,hn,ho,hd⟩,hr⟩:=hl;have hL:L ∈ X.fs:=hs L (by unfold frs;rw[dI,hf];exact ax);obtain⟨sl,e⟩:=I.base.slot L o ho (I.ok.frf L hL) hL λz=>I.ok.exfs L z hL;exact#[hk,#[L,_,hf,hn,e,hd],ih (λb hb=>hs b (by unfold frs;rw[dI,hf];exact am _ hb)) hr]
 exact all X.outer (λ_ hb=>hb) I.ok.funs
theorem Inv.stack(I:Inv X AO σ H s):s.heap.FunFrames X.base X.stack:=by
 rcases I.ok.stk with e | ⟨e,hf⟩
 ·rw[e];exact I.funs
 ·rw[e];obtain⟨m,hn,_⟩:=I.loc;refine .cons (by rw[I.ok.kind];decide) hf hn ?_ I.funs;exact Heap.get?_none_of_le (aN I.ok.bsz I.ok.above)
theorem Inv.stkSub(I:Inv X AO σ H s):∀b ∈ frs X.stack,b ∈ X.env.locals::X.fs:=λb hb=>by
 rcases I.ok.stk with e | ⟨e,hf⟩
 ·rw[e]at hb;exact am _ hb
 ·rw[e]at hb;unfold frs at hb;rw[dI,hf]at hb;exact hb
theorem Inv.stkFree(I:Inv X AO σ H s):∀b ∈ frs X.stack,H b=AL:=λb hb=>by
 rcases AV.mp (I.stkSub b hb)with e | hb
 ·rw[e];exact I.free
 ·obtain⟨_,o,ho,_⟩:=I.ok.funs.mem hb;exact I.base.free b o ho (I.ok.frf b hb) λz=>I.ok.exfs b z hb
theorem Inv.step{g':Array Ay}{t':Nat}{d':Drawn}{ch:List rV}(I:Inv X AO σ H s)
  (hch:∀b ∈ ch,(b ∈ X.ex\/X.s₀.heap.objs.size<=b)/\b≠X.env.locals/\(∀x c,X.env.cells.lookup x=AK c->c≠b)/\∀p ∈ X.pn ++ AO,p.1≠b)
  (keep:∀b o,b≠X.env.locals->b ∉ X.fs->b ∉ ch->s.heap.get? b=AK o->H b=AL->h'.get? b=AK o)
  (slot:∀b o,b≠X.env.locals->b ∈ X.fs->b ∉ ch->s.heap.get? b=AK o->H b=AL->∃sl,h'.get? b=AK { o with slots:=sl }) (free:∀b o,b ∉ ch->s.heap.get? b=AK o->H b=AL->H' b=AL)
  (there:∀b o,b ∉ ch->s.heap.get? b=AK o->∃o',h'.get? b=AK o')
  (tups:∀b xs,H b=AK (.tup xs)->H' b=AK (.tup xs)) (frzs:∀b o u,H b=AK (.frz o u)->H' b=AK (.frz o u)) (tbls:∀b ps,H b=AK (.tbl ps)->∃more,H' b=AK (.tbl (ps ++ more)))
  (ns:∀m,s.heap.Ns X.env.locals m->h'.Ns X.env.locals m) (hok:HOk X.prog X.w H' h') (hg:tO g') :
  Inv X AO σ H' { s with heap:=h',gens:=g',drawn:=d',toks:=t' }:=by
 have neL:∀b o,X.s₀.heap.get? b=AK o->b≠X.env.locals:=λb o e=>az (aw (aq e) I.ok.above)
 have neC:∀b o,X.s₀.heap.get? b=AK o->b ∉ X.ex->b ∉ ch:=λb o e hx hb=>by
  rcases (hch b hb).1 with z | z
  ·exact hx z
  ·exact absurd (aw (aq e) z) (cJ _)
 have cellK:∀x c,X.env.cells.lookup x=AK c->∀v,s.heap.IsCell c v->h'.IsCell c v:=λx c e v ⟨o,ho,hd⟩=>by
  have nch:c ∉ ch:=λz=>(hch c z).2.2.1 x c e rfl;by_cases hc:c ∈ X.fs
  ·obtain⟨sl,q⟩:=slot c o (I.cne x c e) hc nch ho (I.freeC x c e);exact#[_,q,hd]
  ·exact#[o,keep c o (I.cne x c e) hc nch ho (I.freeC x c e),hd]
 refine#[I.ok,I.os,hg,#[λb o e n hb hx=>?_,λb o e n hb hx=>?_,λb o e n hx=>?_,λb o e hx=>?_,λb xs e=>tups b xs (I.base.tups b xs e),λb o xs e=>frzs b o xs (I.base.frzs b o xs e),λb ps e=>?_],?_,λx c e=>?_,?_,λx c e=>?_,λp hp=>?_,hok,I.len]
 ·exact keep b o (neL b o e) hb (neC b o e hx) (I.base.keep b o e n hb hx) (I.base.free b o e n hx)
 ·obtain⟨sl,e1⟩:=I.base.slot b o e n hb hx;obtain⟨sl',e2⟩:=slot b _ (neL b o e) hb (neC b o e hx) e1 (I.base.free b o e n hx);exact#[sl',e2]
 ·obtain⟨o',e1⟩:=I.base.there b o e hx;exact free b o' (neC b o e hx) e1 (I.base.free b o e n hx)
 ·obtain⟨o',e1⟩:=I.base.there b o e hx;exact there b o' (neC b o e hx) e1
 ·obtain⟨m1,e1⟩:=I.base.tbls b ps e;obtain⟨m2,e2⟩:=tbls b _ e1;exact#[m1 ++ m2,by rw[e2,Array.append_assoc]]
 ·obtain⟨m,hn,hl⟩:=I.loc;refine#[m,ns m hn,λi x v e1 e2 e3=>?_];obtain⟨u,r,l⟩:=hl i x v e1 e2 e3;refine#[u,r,?_];rcases l with l | ⟨k,c,e,z⟩
  ·exact .inl l
  ·exact .inr #[k,c,e,cellK x c e _ z]
 ·obtain⟨v,z⟩:=I.cell x c e;exact#[v,cellK x c e v z]
 ·obtain⟨m,⟨o,_,_,ho,_⟩,_⟩:=I.loc;exact free _ o (λz=>(hch _ z).2.1 rfl) ho I.free
 ·obtain⟨v,o,ho,hd⟩:=I.cell x c e;exact free c o (λz=>(hch c z).2.2.1 x c e rfl) ho (I.freeC x c e)
 ·obtain⟨e,n,ne,nf,d⟩:=I.pin p hp;have nch:p.1 ∉ ch:=λz=>(hch p.1 z).2.2.2 p hp rfl;exact#[keep p.1 p.2 ne nf nch e n,free p.1 p.2 nch e n,ne,nf,d]
theorem Inv.un{t':Nat}(I:Inv X AO σ H s)(u:Un X.fs [] H H' s.heap h')(hok:HOk X.prog X.w H' h'):Inv X AO σ H' { s with heap:=h',toks:=t' }:=by
 obtain⟨m,⟨o,es,ep,ho,r⟩,_⟩:=id I.loc;obtain⟨sl,hL⟩:=u.any ho I.free (by simp)
 exact I.step (g':=s.gens) (d':=s.drawn) (ch:=[]) (λ_ z=>nomatch z) (λb o _ hb _ e n=>u.keep b o e n hb (by simp)) (λb o _ hb _ e n=>u.slot b o e n hb (by simp)) (λb o _ e n=>u.free b o e n (by simp)) (λb o _ e=>u.there b o e (by simp)) u.tups u.frzs u.tbls (λm' hm=>by
  obtain⟨o',es',ep',ho',r'⟩:=hm;rw[ho]at ho';cases ho'
  exact#[_,es',ep',hL,r']) hok I.bare
theorem Inv.call{g':Array Ay}{t':Nat}{d':Drawn}{ch:List rV}(I:Inv X AO σ H s)(u:Un (frs X.stack) ch H H' s.heap h')(hok:HOk X.prog X.w H' h')(hg:tO g')
  (hch:∀b ∈ ch,(b ∈ X.ex\/X.s₀.heap.objs.size<=b)/\b≠X.env.locals/\(∀x c,X.env.cells.lookup x=AK c->c≠b)/\∀p ∈ X.pn ++ AO,p.1≠b) :
  Inv X AO σ H' { s with heap:=h',gens:=g',drawn:=d',toks:=t' }:=by
 obtain⟨m,⟨o,es,ep,ho,r⟩,_⟩:=id I.loc;obtain⟨sl,hL⟩:=u.any ho I.free λz=>(hch _ z).2.1 rfl
 exact I.step (ch:=ch) hch (λb o hL hb hc e n=>u.keep b o e n (λz=>(AV.mp (I.stkSub b z)).elim hL hb) hc) (λb o _ _ hc e n=>u.any e n hc) (λb o hc e n=>u.free b o e n hc) (λb o hc e=>u.there b o e hc) u.tups u.frzs u.tbls (λm' hm=>by
  obtain⟨o',es',ep',ho',r'⟩:=hm;rw[ho]at ho';cases ho'
  exact#[_,es',ep',hL,r']) hok hg
theorem Inv.turned{t':Nat}{it:rV}(I:Inv X AO σ H s)(k:∀b o,b≠it->s.heap.get? b=AK o->h'.get? b=AK o)(hn:H it=AL)(hL:it≠X.env.locals)
  (h1:it ∈ X.ex\/X.s₀.heap.objs.size<=it) (h2:∀x c,X.env.cells.lookup x=AK c->c≠it) (h3:∀p ∈ X.pn ++ AO,p.1≠it):Inv X AO σ H { s with heap:=h',toks:=t' }:=by
 have nit:∀b u,H b=AK u->b≠it:=λb u e z=>by rw[z,hn]at e;cases e
 refine I.step (g':=s.gens) (d':=s.drawn) (ch:=[it]) (λb hb=>?_) (λb o _ _ hc e _=>k b o (λz=>hc (by simp [z])) e) (λb o _ _ hc e _=>#[o.slots,k b o (λz=>hc (by simp [z])) e]) (λ_ _ _ _ n=>n)
  (λb o hc e=>#[o,k b o (λz=>hc (by simp [z])) e]) (λ_ _ e=>e) (λ_ _ _ e=>e) (λb ps e=>#[#[],by rw[e];simp]) (λm hm=>?_) (λb u e=>?_) I.bare
 ·have e:b=it:=by simpa using hb
  subst e;exact#[h1,hL,h2,h3]
 ·obtain⟨o,es,ep,ho,r⟩:=hm;exact#[o,es,ep,k _ o (Ne.symm hL) ho,r]
 ·refine (I.hok b u e).stay (λc v hc q=>k c v ?_ q) (λ_ q=>q) λ_ _ q=>q;rcases hc with z | z
  ·rw[z];exact nit b u e
  ·exact nit c _ z
theorem Inv.tok(I:Inv X AO σ H s)(t:Nat):Inv X AO σ H { s with toks:=t }:=I.un (h':=s.heap) (t':=t) Un.refl I.hok
theorem Inv.kept{t':Nat}(I:Inv X AO σ H s)(k:∀b u,s.heap.get? b=AK u->h'.get? b=AK u):Inv X AO σ H { s with heap:=h',toks:=t' }:=I.un (Un.kept k) (I.hok.kept k)
theorem Inv.laid{a:rV}{o:HO}{t':Nat}(I:Inv X AO σ H s)(k:∀b u,s.heap.get? b=AK u->h'.get? b=AK u)(hp:s⁻¹<=a)(new:ObjOk X.prog X.w (upd H a o) h' a o) :
  Inv X AO σ (upd H a o) { s with heap:=h',toks:=t' }:=I.un (Un.laid k hp (I.hok.fresh hp)) (I.hok.laid k hp new)
theorem Inv.write{x e:rV}{o:HO}{t':Nat}(I:Inv X AO σ H s)(mu:Mut (H x))(he:e=x\/H e=AK (.own x))(k:∀b u,b≠e->s.heap.get? b=AK u->h'.get? b=AK u)(heo:∃u,h'.get? e=AK u)
  (new:ObjOk X.prog X.w (upd H x o) h' x o):Inv X AO σ (upd H x o) { s with heap:=h',toks:=t' }:=I.un (Un.write mu he k heo) (I.hok.write mu he k heo new)
theorem Inv.weak{σ':List (Option V)}(I:Inv X AO σ H s)(hl:σ'.length=σ.length)(w:∀(i:Nat) v,σ'[i]? = AK (AK v)->σ[i]? = AK (AK v)):Inv X AO σ' H s :=
 #[I.ok,I.os,I.bare,I.base,let #[m,hn,hl']:=I.loc; #[m,hn,λi x v e1 e2 e3=>hl' i x v e1 (w i v e2) e3],I.cell,I.free,I.freeC,I.pin,I.hok,hl.trans I.len]
theorem Inv.pins_of{pins':List (rV × sI)}(I:Inv X AO σ H s)(h:∀p ∈ pins',s.heap.get? p.1=AK p.2/\H p.1=AL/\p.1≠X.env.locals/\p.1 ∉ X.fs/\∀v,p.2.data≠.cell v):Inv X pins' σ H s :=
 #[I.ok,I.os,I.bare,I.base,I.loc,I.cell,I.free,I.freeC,λp hp=>(AU.mp hp).elim (λz=>I.pin p (bi _ z)) (h p),I.hok,I.len]
theorem Wc{N:List si}(hN:N.Nodup){i j:Nat}{x:si}(a:N[i]? = AK x)(b:N[j]? = AK x):i=j:=by
 obtain⟨h1,e1⟩:=AS.mp a;obtain⟨h2,e2⟩:=AS.mp b;exact (List.getElem_inj hN).mp (e1.trans e2.symm)
theorem Z1{M:Aw}{A:sk}{E:rW->rX->Prop}{i:Nat}{x:si}{v:V}{u:rW}{Q:Unit->rX->Prop}(I:Inv X AO σ H s)(hN:X.N.Nodup)(hi:X.N[i]? = AK x)(hx:Loc X.env.scope x)(r:RelV v u)
  (h:∀s',Inv X AO (σ.set i (AK v)) H s'->(∃a,Heap.SameBut a s.heap s'.heap/\(a=X.env.locals\/X.env.cells.lookup x=AK a))->Q () s') (hf:X.fn x=AM\/X.env.scope.names.lookup x=AK .local:=by first | exact .inl rfl | exact .inr rfl | assumption):rZ M A (storeName X.env x u) Q E s:=by
 obtain⟨m,hn,hl⟩:=id I.loc;have hcls:(X.env.scope.kind == .class || (X.env.scope.kind == .module && X.env.locals != X.env.globals))=AN:=by rw[I.ok.kind];rfl
 have hiσ:i<σ.length:=by rw[I.len];exact (AS.mp hi).1
 have cne:=I.cne
 have tracked:∀{a:rV} {h':sq},(∃o,s.heap.get? a=AK o/\H a=AL)->Heap.SameBut a s.heap h'->HOk X.prog X.w H h':=λ{a h'} ha hs b ob e=>by
  obtain⟨_,_,hfree⟩:=ha;refine (I.hok b ob e).stay (λc w' hc q=>(hs.2 c ?_).trans q) (λ_ q=>q) λ_ _ q=>q;rintro rfl;rcases hc with rfl | hc
  ·rw[hfree]at e;cases e
  ·rw[hfree]at hc;cases hc
 rcases hx with hk | hk
 ·refine wpAny_storeName_local hk hn (λh' hn' hs=>?_) hcls;obtain⟨oL,_,_,hoL,_⟩:=id hn;refine h _ #[I.ok,I.os,I.bare,#[λb o e n hb hx=>?_,λb o e n hb hx=>?_,I.base.free,λb o e hx=>?_,I.base.tups,I.base.frzs,I.base.tbls],#[_,hn',λj y v' e1 e2 e3=>?_],λy c e=>?_,I.free,I.freeC,λp hp=>?_,tracked #[oL,hoL,I.free] hs,by simpa using I.len] #[_,hs,.inl rfl]
  ·exact (hs.2 b (az (aw (aq e) I.ok.above))).trans (I.base.keep b o e n hb hx)
  ·obtain⟨sl,e1⟩:=I.base.slot b o e n hb hx;exact#[sl,(hs.2 b (az (aw (aq e) I.ok.above))).trans e1]
  ·obtain⟨o',e1⟩:=I.base.there b o e hx;exact#[o',(hs.2 b (az (aw (aq e) I.ok.above))).trans e1]
  ·by_cases hj:j=i
   ·subst hj;rw[hi]at e1;cases e1;rw[eR hiσ]at e2;cases e2;exact#[u,r,.inl #[hk,by simp]]
   ·rw[fk (Ne.symm hj)]at e2;obtain⟨u',r',q⟩:=hl j y v' e1 e2 e3;refine#[u',r',?_];rcases q with ⟨k,e⟩ | ⟨k,c,e,z⟩
    ·refine .inl #[k,?_];have:y≠x:=λe=>hj (Wc hN e1 (e ▸ hi));simp [this,e]
    ·exact .inr #[k,c,e,z.sameBut hs (cne y c e)]
  ·obtain⟨w',z⟩:=I.cell y c e;exact#[w',z.sameBut hs (cne y c e)]
  ·obtain⟨e,n,ne,nf,d⟩:=I.pin p hp;exact#[(hs.2 p.1 ne).trans e,n,ne,nf,d]
 ·have hfn:X.fn x=AM:=by
   rcases hf with z | z
   ·exact z
   ·rw[z]at hk;cases hk
  obtain⟨c,hc⟩:=I.ok.has x (.inl hk);obtain⟨w',z⟩:=I.cell x c hc;refine wpAny_storeName_cell I.ok.kind hk hc z (λh' hc' hs=>?_);obtain⟨oc,hoc,hocd⟩:=id z;refine h { s with heap:=h' } #[I.ok,I.os,I.bare,#[λb o e n hb hx=>?_,λb o e n hb hx=>?_,I.base.free,λb o e hx=>?_,I.base.tups,I.base.frzs,I.base.tbls],#[m,hn.sameBut hs (Ne.symm (cne x c hc)),λj y v' e1 e2 e3=>?_],λy c' e=>?_,I.free,I.freeC,λp hp=>?_,tracked #[oc,hoc,I.freeC x c hc] hs,by simpa using I.len] #[c,hs,.inr hc]
  ·exact (hs.2 b (az (aw (aq e) (I.ok.cab x c hfn hc)))).trans (I.base.keep b o e n hb hx)
  ·obtain⟨sl,e1⟩:=I.base.slot b o e n hb hx;exact#[sl,(hs.2 b (az (aw (aq e) (I.ok.cab x c hfn hc)))).trans e1]
  ·obtain⟨o',e1⟩:=I.base.there b o e hx;exact#[o',(hs.2 b (az (aw (aq e) (I.ok.cab x c hfn hc)))).trans e1]
  ·by_cases hj:j=i
   ·subst hj;rw[hi]at e1;cases e1;rw[eR hiσ]at e2;cases e2;exact#[u,r,.inr #[.inl hk,c,hc,hc']]
   ·rw[fk (Ne.symm hj)]at e2;obtain⟨u',r',q⟩:=hl j y v' e1 e2 e3;refine#[u',r',?_];rcases q with q | ⟨k,c',e,z'⟩
    ·exact .inl q
    ·refine .inr #[k,c',e,z'.sameBut hs ?_];rintro rfl;exact hj (Wc hN e1 (I.ok.inj _ _ _ e hc ▸ hi))
  ·by_cases hcc:c'=c
   ·subst hcc;exact#[_,hc']
   ·obtain⟨w2,z2⟩:=I.cell y c' e;exact#[w2,z2.sameBut hs hcc]
  ·obtain⟨e,n,ne,nf,d⟩:=I.pin p hp;refine#[(hs.2 p.1 ?_).trans e,n,ne,nf,d];intro q;rw[q,hoc]at e;have q':oc=p.2:=Option.some.inj e;exact d w' (by rw[<- q'];exact hocd)
theorem Zn{M:Aw}{A:sk}{E:rW->rX->Prop}{i:Nat}{x:si}{v:V}{u:rW}{Q:Unit->rX->Prop}(I:Inv X AO σ H s)(hN:X.N.Nodup)(hi:X.N[i]? = AK x)(hx:Loc X.env.scope x)(r:RelV v u)
  (h:∀s',Inv X AO (σ.set i (AK v)) H s'->Q () s') (hf:X.fn x=AM\/X.env.scope.names.lookup x=AK .local:=by first | exact .inl rfl | exact .inr rfl | assumption):rZ M A (storeName X.env x u) Q E s :=
 Z1 I hN hi hx r (λs' I' _=>h s' I') hf
theorem Inv.call'{s':rX}{ch:List rV}(I:Inv X AO σ H s)(ho:s'.os=s.os)(u:Un (frs X.stack) ch H H' s.heap s'.heap)(hok:HOk X.prog X.w H' s'.heap)(hg:tO s'.gens)
  (hch:∀b ∈ ch,(b ∈ X.ex\/X.s₀.heap.objs.size<=b)/\b≠X.env.locals/\(∀x c,X.env.cells.lookup x=AK c->c≠b)/\∀p ∈ X.pn ++ AO,p.1≠b):Inv X AO σ H' s':=by
 obtain⟨h',g',d',t',o'⟩:=s';have e:o'=s.os:=ho;subst e;exact I.call (g':=g') (t':=t') (d':=d') u hok hg hch
end
noncomputable abbrev XK:=rW->Option rV->Hp->Prop
noncomputable abbrev St:=List (Option V)
noncomputable abbrev VK:=V->Hp->Prop
noncomputable abbrev TE:=St->Hp->VK->Prop
noncomputable abbrev TT:=St->Hp->(Bool->Hp->Prop)->Prop
noncomputable abbrev TA:=St->Hp->(List V->Hp->Prop)->Prop
structure vq where
 nx:St->Hp->Prop
 rt:VK
 bk:St->Hp->Prop:=λ_ _=>False
 ct:St->Hp->Prop:=λ_ _=>False
noncomputable abbrev TS:=vq->St->Hp->Prop
def EP(X:Cx)(AO:List (rV × sI))(σ:St)(Q:VK)(u:rW)(s':rX):Prop:=∃v H',Inv X AO σ H' s'/\RelV v u/\Q v H'
def TP(X:Cx)(AO:List (rV × sI))(σ:St)(Q:Bool->Hp->Prop)(b:Bool)(s':rX):Prop:=∃H',Inv X AO σ H' s'/\Q b H'
def AP(X:Cx)(AO:List (rV × sI))(σ:St)(Q:List V->Hp->Prop)(us:List rW)(s':rX):Prop:=∃vs H',Inv X AO σ H' s'/\Vals vs us/\Q vs H'
def SP(X:Cx)(AO:List (rV × sI))(D:vq)(f:Flow)(s':rX):Prop :=
 match f with
 | .next=>∃σ' H',Inv X AO σ' H' s'/\D.nx σ' H'
 | .brk=>∃σ' H',Inv X AO σ' H' s'/\D.bk σ' H'
 | .cont=>∃σ' H',Inv X AO σ' H' s'/\D.ct σ' H'
 | .ret u=>∃v σ' H',Inv X AO σ' H' s'/\RelV v u/\D.rt v H'
def PE(X:Cx)(e:so)(t:TE):Prop :=
 ∀(AO:List (rV × sI)) (s:rX) (σ:St) (H:Hp) (Q:VK),Inv X AO σ H s->t σ H Q->rZ (model X.prog X.w) X.A (eval e X.env) (EP X AO σ Q) X.xe s
def PT(X:Cx)(e:so)(t:TT):Prop :=
 ∀(AO:List (rV × sI)) (s:rX) (σ:St) (H:Hp) (Q:Bool->Hp->Prop),Inv X AO σ H s->t σ H Q->rZ (model X.prog X.w) X.A (isTrue e X.env (eval e X.env)) (TP X AO σ Q) X.xe s
def PW(X:Cx)(e:so)(t:TT):Prop :=
 ∀(whole:AD rW) (AO:List (rV × sI)) (s:rX) (σ:St) (H:Hp) (Q:Bool->Hp->Prop),Inv X AO σ H s->t σ H Q->rZ (model X.prog X.w) X.A (isTrue e X.env whole) (TP X AO σ Q) X.xe s
theorem PW.pt{X:Cx}{e:so}{t:TT}(h:PW X e t):PT X e t:=h _
def PA(X:Cx)(es:List so)(t:TA):Prop :=
 ∀(pos:sY) (AO:List (rV × sI)) (s:rX) (σ:St) (H:Hp) (Q:List V->Hp->Prop),Inv X AO σ H s->t σ H Q->rZ (model X.prog X.w) X.A (spliced (sw pos (rR es X.env))) (AP X AO σ Q) X.xe s
def PS(X:Cx)(st:sr)(t:TS):Prop :=
 ∀(AO:List (rV × sI)) (s:rX) (σ:St) (H:Hp) (D:vq),Inv X AO σ H s->t D σ H->rZ (model X.prog X.w) X.A (exec st X.env) (SP X AO D) X.xe s
def PSs(X:Cx)(st:List sr)(t:TS):Prop :=
 ∀(AO:List (rV × sI)) (s:rX) (σ:St) (H:Hp) (D:vq),Inv X AO σ H s->t D σ H->rZ (model X.prog X.w) X.A (execs st X.env) (SP X AO D) X.xe s
theorem thn{α:Type}{t:AD α}{Q Q':α->rX->Prop}{M:Aw}{A:sk}{E:rW->rX->Prop}{s:rX}(h:rZ M A t Q E s)(hQ:∀a s,Q a s->Q' a s):rZ M A t Q' E s:=tm h hQ λ_ _ x=>x
end L2
namespace L2
section
variable{X:Cx}
theorem bin{a b:so}{ta tb:TE}(ha:PE X a ta)(hb:PE X b tb){AO:List (rV × sI)}{s:rX}{σ:St}{H:Hp}{R:V->V->Hp->Prop}(I:Inv X AO σ H s)(h:ta σ H λx H1=>tb σ H1 λy H2=>R x y H2)
  {α:Type} {Q:α->rX->Prop} {f:rW->rW->AD α}
  (hf:∀v u s2 x y H2,Inv X AO σ H2 s2->RelV x v->RelV y u->R x y H2->rZ (model X.prog X.w) X.A (f v u) Q X.xe s2) :
  rZ (model X.prog X.w) X.A (eval a X.env) (λv s₁=>rZ (model X.prog X.w) X.A (eval b X.env) (λu s₂=>rZ (model X.prog X.w) X.A (f v u) Q X.xe s₂) X.xe s₁) X.xe s:=by
 refine thn (ha AO s σ H _ I h) λv s1 ⟨x,H1,I1,r1,q1⟩=>?_;refine thn (hb AO s1 σ H1 _ I1 q1) λu s2 ⟨y,H2,I2,r2,q2⟩=>?_;exact hf v u s2 x y H2 I2 r1 r2 q2
def onSl(σ:St)(i:Nat)(p:V->Prop):Prop:=match σ[i]? with | some (AK v)=>p v | _=>False
theorem onSl.of{σ:St}{i:Nat}{p:V->Prop}(h:onSl σ i p):∃v,σ[i]? = AK (AK v)/\p v:=by
 unfold onSl at h;split at h
 ·exact#[_,by assumption,h]
 ·exact h.elim
def onInt(x:V)(p:Int->Prop):Prop:=match x with | .int k=>p k | _=>False
theorem onInt.of{x:V}{p:Int->Prop}(h:onInt x p):∃k,x=.int k/\p k:=by
 cases x <;> first | exact#[_,rfl,h] | exact h.elim
theorem onInt.to{x:V}{p:Int->Prop}(h:∃k,x=.int k/\p k):onInt x p:=by
 obtain⟨k,rfl,h⟩:=h;exact h
def onStr(x:V)(p:si->Prop):Prop:=match x with | .str k=>p k | _=>False
theorem onStr.of{x:V}{p:si->Prop}(h:onStr x p):∃k,x=.str k/\p k:=by
 cases x <;> first | exact#[_,rfl,h] | exact h.elim
theorem onStr.to{x:V}{p:si->Prop}(h:∃k,x=.str k/\p k):onStr x p:=by
 obtain⟨k,rfl,h⟩:=h;exact h
def onBl(x:V)(p:Bool->Prop):Prop:=match x with | .bl k=>p k | _=>False
theorem onBl.of{x:V}{p:Bool->Prop}(h:onBl x p):∃k,x=.bl k/\p k:=by
 cases x <;> first | exact#[_,rfl,h] | exact h.elim
theorem onBl.to{x:V}{p:Bool->Prop}(h:∃k,x=.bl k/\p k):onBl x p:=by
 obtain⟨k,rfl,h⟩:=h;exact h
def onRef(x:V)(p:rV->Prop):Prop:=match x with | .ref k=>p k | _=>False
theorem onRef.of{x:V}{p:rV->Prop}(h:onRef x p):∃k,x=.ref k/\p k:=by
 cases x <;> first | exact#[_,rfl,h] | exact h.elim
theorem onRef.to{x:V}{p:rV->Prop}(h:∃k,x=.ref k/\p k):onRef x p:=by
 obtain⟨k,rfl,h⟩:=h;exact h
def yk(i:Nat):TE:=λσ H Q=>onSl σ i λv=>Q v H
def tC(v:V):TE:=λ_ H Q=>Q v H
theorem zdu{i:Nat}{x:si}{pos:sY}(hN:X.N[i]? = AK x)(hv:Vis X.env.scope x)(hd:(x ==("__debug__" : si))=AN:=by decide)(hcd:(x ==("__classdict__" : si))=AN:=by decide):PE X (.Name x pos) (yk i):=by
 intro AO s σ H Q I h;obtain⟨v,e,h⟩:=onSl.of h;obtain⟨m,hn,hl⟩:=I.loc;obtain⟨u,r,l⟩:=hl i x v hN e hv;have fin:EP X AO σ Q u s:=#[v,H,I,r,h];rcases l with ⟨hk,hm⟩ | ⟨hk,c,hc,hcell⟩
 ·exact AF (wpAny_loadName_local I.ok.kind hk hn hm fin) hd
 ·rcases hk with hk | hk
  ·exact AF (wpAny_loadName_cell I.ok.kind hk hc hcell fin) hd
  ·exact AF (wpAny_loadName_free I.ok.kind hk hc hcell fin hcd) hd
theorem zg{i j pos}:PE X (.Constant (.int i) j pos) (tC (.int i)):=λ_ _ _ H _ I h=>wpAny_Constant_int #[.int i,H,I.tok _,#[_,rfl],h]
theorem xS{b j pos}:PE X (.Constant (.bool b) j pos) (tC (.bl b)):=λ_ _ _ H _ I h=>Constant_bool #[.bl b,H,I,rfl,h]
theorem yd{j pos}:PE X (.Constant .none j pos) (tC .non):=λ_ _ _ H _ I h=>Constant_none #[.non,H,I,rfl,h]
theorem zY{x j pos}:PE X (.Constant (.str x) j pos) (tC (.str x)):=λ_ _ _ H _ I h=>Calls.Constant_str #[.str x,H,I.tok _,#[_,rfl],h]
def Gl(X:Cx)(x:si):Prop:=X.env.kindOf x=AK .globalImplicit
theorem vA{E:rW->rX->Prop}{AO:List (rV × sI)}{s:rX}{σ:St}{H:Hp}{x:si}{u:rW}{pos:sY}{Q:rW->rX->Prop}(I:Inv X AO σ H s)(hg:Gl X x)(hm:X.mg x=AK u)(h:Q u s)
  (hd:(x ==("__debug__" : si))=AN:=by decide):rZ (model X.prog X.w) X.A (eval (.Name x pos) X.env) Q E s :=
 Calls.Name_function_global I.ok.kind hg (Calls.loadGlobal_global (by rw[I.ok.glob];exact I.mod.glob.keeps I.bk) hm h) hd
theorem wH{E:rW->rX->Prop}{AO:List (rV × sI)}{s:rX}{σ:St}{H:Hp}{x:si}{u:rW}{pos:sY}{Q:rW->rX->Prop}(I:Inv X AO σ H s)(hg:Gl X x)(hm:X.mg x=AL)(hv:sK x=AK u)(h:Q u s)
  (hn:x≠"__name__":=by decide) (hd:(x ==("__debug__" : si))=AN:=by decide):rZ (model X.prog X.w) X.A (eval (.Name x pos) X.env) Q E s:=by
 obtain⟨mb,h1,h2⟩:=I.mod.blt;exact Calls.Name_function_global I.ok.kind hg (Calls.loadGlobal_builtin (by rw[I.ok.glob];exact I.mod.glob.keeps I.bk) hm (by rw[I.ok.blt];exact h1.keeps I.bk) ((h2 x hn).trans hv) h) hd
theorem yn{x:si}{v:V}{u:rW}{pos:sY}(hg:Gl X x)(hm:X.mg x=AK u)(r:RelV v u)(hd:(x ==("__debug__" : si))=AN:=by decide):PE X (.Name x pos) (tC v) :=
 λ_ _ _ H _ I h=>vA I hg hm #[v,H,I,r,h] hd
theorem zb3{x:si}{v:V}{u:rW}{pos:sY}(hg:Gl X x)(hm:X.mg x=AL)(hv:sK x=AK u)(r:RelV v u)(hn:x≠"__name__":=by decide)(hd:(x ==("__debug__" : si))=AN:=by decide):PE X (.Name x pos) (tC v) :=
 λ_ _ _ H _ I h=>wH I hg hm hv #[v,H,I,r,h] hn hd
variable{a b:so}{ta tb:TE}{pos:sY}
def PC(X:Cx)(op:tJ)(a b:so)(t:TE):Prop :=
 ∀(AO:List (rV × sI)) (s:rX) (σ:St) (H:Hp) (Q:VK),Inv X AO σ H s->t σ H Q ->
  rZ (model X.prog X.w) X.A (eval a X.env) (λv s₁=>rZ (model X.prog X.w) X.A (eval b X.env) (λu s₂=>rZ (model X.prog X.w) X.A (su op v u) (EP X AO σ Q) X.xe s₂) X.xe s₁) X.xe s
theorem Kp(b:so){op:tJ}(h:op≠.In)(h2:op≠.NotIn):behindInMarks op b=AN:=by
 have e1:(op == CmpOp.In)=AN:=by cases op <;> first | rfl | exact absurd rfl h
 have e2:(op == CmpOp.NotIn)=AN:=by cases op <;> first | rfl | exact absurd rfl h2
 cases b <;> simp [behindInMarks,e1,e2]
theorem wv{op:tJ}{t:TE}(h:PC X op a b t)(h1:behindInMarks op b=AN:=by first | exact Kp _ (by decide) (by decide) | rfl):PE X (.Compare a [op] [b] pos) t:=λAO s σ H Q I hw=>wpAny_Compare1 (h AO s σ H Q I hw) h1
variable{tA tB':TT}{rest:List so}
def zex(t u:TT):TT:=λσ H Q=>t σ H λc H1=>if c=AM then u σ H1 Q else Q AN H1
def tOr(t u:TT):TT:=λσ H Q=>t σ H λc H1=>if c=AM then Q AM H1 else u σ H1 Q
def zcJ(t:TT):TT:=λσ H Q=>t σ H λc H1=>Q (!c) H1
theorem U7(ha:PT X a tA):PW X (.BoolOp .And [a] pos) tA:=by
 intro wh AO s σ H Q I h;refine isTrue_and (thn (ha AO s σ H Q I h) λc s1 e=>?_)
 cases c with
 | true=>exact isTrue_and_nil e
 | false=>exact e
theorem qQ(ha:PT X a tA):PW X (.BoolOp .Or [a] pos) tA:=by
 intro wh AO s σ H Q I h;refine isTrue_or (thn (ha AO s σ H Q I h) λc s1 e=>?_)
 cases c with
 | false=>exact isTrue_or_nil e
 | true=>exact e
theorem zak(ha:PT X a tA)(hb:PW X (.BoolOp .And (b::rest) pos) tB'):PW X (.BoolOp .And (a::b::rest) pos) (zex tA tB'):=by
 intro wh AO s σ H Q I h;refine isTrue_and (thn (ha AO s σ H _ I h) λc s1 ⟨H1,I1,q1⟩=>?_)
 cases c with
 | true=>exact hb wh AO s1 σ H1 Q I1 q1
 | false=>exact#[H1,I1,q1]
theorem jR(ha:PT X a tA)(hb:PW X (.BoolOp .Or (b::rest) pos) tB'):PW X (.BoolOp .Or (a::b::rest) pos) (tOr tA tB'):=by
 intro wh AO s σ H Q I h;refine isTrue_or (thn (ha AO s σ H _ I h) λc s1 ⟨H1,I1,q1⟩=>?_)
 cases c with
 | true=>exact#[H1,I1,q1]
 | false=>exact hb wh AO s1 σ H1 Q I1 q1
theorem yv(ha:PT X a tA):PT X (.UnaryOp .Not a pos) (zcJ tA):=by
 intro AO s σ H Q I h;exact isTrue_not (ha AO s σ H (λc H1=>Q (!c) H1) I h)
def Jr(ta tb:TE):TE:=λσ H Q=>ta σ H λx H1=>onBl x λc=>if c=AM then tb σ H1 Q else Q (.bl AN) H1
def ze1(ta tb:TE):TE:=λσ H Q=>ta σ H λx H1=>onBl x λc=>if c=AM then Q (.bl AM) H1 else tb σ H1 Q
def Uo(ta:TE):TE:=λσ H Q=>ta σ H λx H1=>onBl x λc=>Q (.bl (!c)) H1
theorem WL{op}{t:TE}(h:PE X a t):PE X (.BoolOp op [a] pos) t:=λAO s σ H Q I hw=>BoolOp_one (h AO s σ H Q I hw)
theorem Wh(ha:PE X a ta)(hb:PE X (.BoolOp .And (b::rest) pos) tb):PE X (.BoolOp .And (a::b::rest) pos) (Jr ta tb):=by
 intro AO s σ H Q I h;refine BoolOp_and (thn (ha AO s σ H _ I h) λv s1 ⟨x,H1,I1,r1,q1⟩=>?_);obtain⟨c,rfl,q1⟩:=onBl.of q1;cases r1;refine sH ?_
 cases c with
 | true=>exact hb AO s1 σ H1 Q I1 q1
 | false=>exact#[.bl AN,H1,I1,rfl,q1]
theorem KQ(ha:PE X a ta):PE X (.UnaryOp .Not a pos) (Uo ta):=by
 intro AO s σ H Q I h;refine UnaryOp_ (thn (ha AO s σ H _ I h) λv s1 ⟨x,H1,I1,r1,q1⟩=>?_);obtain⟨c,rfl,q1⟩:=onBl.of q1;cases r1;exact not_of (sH #[.bl (!c),H1,I1,rfl,q1])
def tIf(t:TT)(ta tb:TE):TE:=λσ H Q=>t σ H λc H1=>if c=AM then ta σ H1 Q else tb σ H1 Q
theorem w8{c:so}(hc:PT X c tA)(ha:PE X a ta)(hb:PE X b tb):PE X (.IfExp c a b pos) (tIf tA ta tb):=by
 intro AO s σ H Q I h;refine wpAny_IfExp (thn (hc AO s σ H _ I h) λd s1 ⟨H1,I1,q1⟩=>?_)
 cases d with
 | true=>exact ha AO s1 σ H1 Q I1 q1
 | false=>exact hb AO s1 σ H1 Q I1 q1
end
end L2
namespace L2
def SqL(K:rT)(H:Hp)(a:rV)(xs:List V):Prop :=
 Rd H a (.lst xs) \/
  ∃(o:sI) (its:Array rW) (n:Nat),K.lookup a=AK o/\o.cls=.type "list"/\o.dict=AL/\o.data=.seq its n/\its.size<=rS/\Vals xs its.toList
def SqT(K:rT)(H:Hp)(a:rV)(xs:List V):Prop :=
 Rd H a (.tup xs) \/
  ∃(o:sI) (its:Array rW) (n:Nat),K.lookup a=AK o/\o.cls=.type "tuple"/\o.data=.seq its n/\its.size<=rS/\Vals xs its.toList
noncomputable def zgv:rW->Option V
 | .none=>AK .non
 | .bool b=>AK (.bl b)
 | .int i _=>AK (.int i)
 | .str x _=>AK (.str x)
 | .bytes b _=>AK (.byt b)
 | .float b _=>AK (.flt b)
 | .ref a=>AK (.ref a)
 | .type n=>AK (.ty n)
 | _=>AL
theorem RelV.abs{x:V}{u:rW}(r:RelV x u):zgv u=AK x:=by
 cases x with
 | non=>cases r;rfl
 | bl _=>cases r;rfl
 | int _=>obtain⟨t,rfl⟩:=r;rfl
 | str _=>obtain⟨t,rfl⟩:=r;rfl
 | byt _=>obtain⟨t,rfl⟩:=r;rfl
 | flt _=>obtain⟨t,rfl⟩:=r;rfl
 | ref _=>cases r;rfl
 | ty _=>cases r;rfl
theorem RelV.inj{x y:V}{u:rW}(r:RelV x u)(q:RelV y u):x=y:=Option.some.inj (r.abs.symm.trans q.abs)
theorem Vals.inj:∀{xs ys:List V} {us:List rW},Vals xs us->Vals ys us->xs=ys
 | _,_,_,.nil,.nil=>rfl
 | _,_,_,.cons r t,.cons r' t'=>by rw[r.inj r',Vals.inj t t']
section
variable{X:Cx}{AO:List (rV × sI)}{σ:St}{H:Hp}{s:rX}{a:rV}{xs ys:List V}
theorem SqL.of{K:rT}(h:H a=AK (.lst xs)):SqL K H a xs:=.inl (.inl h)
theorem SqT.of{K:rT}(h:H a=AK (.tup xs)):SqT K H a xs:=.inl (.inl h)
theorem Inv.list(I:Inv X AO σ H s)(h:SqL X.K H a xs):∃its:List rW,Vals xs its/\PlainL s.heap a its.toArray/\xs.length<=rS:=by
 rcases h with h | ⟨o,its,n,hk,hc,hd,hs,hz,r⟩
 ·obtain⟨z,its,n,r,e⟩:=h.ok I.hok;exact#[its,r,#[_,n,e,rfl,rfl,rfl],z]
 ·refine#[its.toList,r,#[o,n,I.kIn a o hk,hc,hd,by simpa using hs],?_];have e:=r.length;simp only[dJ]at e;lia
theorem Inv.tuple(I:Inv X AO σ H s)(h:SqT X.K H a xs):∃its:List rW,Vals xs its/\IsTup s.heap a its.toArray/\xs.length<=rS:=by
 rcases h with h | ⟨o,its,n,hk,hc,hs,hz,r⟩
 ·obtain⟨z,its,r,p⟩:=h.ok I.hok;exact#[its,r,p,z]
 ·refine#[its.toList,r,#[o,I.kIn a o hk,hc,n,by simpa using hs],?_];have e:=r.length;simp only[dJ]at e;lia
theorem Inv.list_inj(I:Inv X AO σ H s)(h:SqL X.K H a xs)(h':SqL X.K H a ys):xs=ys:=by
 obtain⟨its,r,⟨o,n,e,_,_,d⟩,_⟩:=I.list h;obtain⟨its',r',⟨o',n',e',_,_,d'⟩,_⟩:=I.list h';rw[e]at e';cases e';rw[d]at d';injection d' with d1 _;have:its=its':=by simpa using congrArg Array.toList d1
 subst this;exact r.inj r'
theorem Inv.tuple_inj(I:Inv X AO σ H s)(h:SqT X.K H a xs)(h':SqT X.K H a ys):xs=ys:=by
 obtain⟨its,r,⟨o,e,_,n,d⟩,_⟩:=I.tuple h;obtain⟨its',r',⟨o',e',_,n',d'⟩,_⟩:=I.tuple h';rw[e]at e';cases e';rw[d]at d';injection d' with d1 _;have:its=its':=by simpa using congrArg Array.toList d1
 subst this;exact r.inj r'
end
noncomputable abbrev Cx.wish(X:Cx)(E:rW->rX->Prop):Cx:={ X with xe:=E }
noncomputable abbrev Cx.nox(X:Cx):Cx:=X.wish λ_ _=>False
theorem Cx.Ok.wish{X:Cx}(ok:X.Ok)(E:rW->rX->Prop):(X.wish E).Ok :=
 #[ok.mod,ok.kind,ok.glob,ok.blt,ok.above,ok.inj,ok.has,ok.cab,ok.hd,ok.frames,ok.stk,ok.exf,ok.bs,ok.bsz,ok.noex,ok.exfs,ok.funs,ok.frf]
theorem Cx.Ok.unwish{X:Cx}{E:rW->rX->Prop}(ok:(X.wish E).Ok):X.Ok :=
 #[ok.mod,ok.kind,ok.glob,ok.blt,ok.above,ok.inj,ok.has,ok.cab,ok.hd,ok.frames,ok.stk,ok.exf,ok.bs,ok.bsz,ok.noex,ok.exfs,ok.funs,ok.frf]
section
variable{X:Cx}{AO:List (rV × sI)}{σ:St}{H:Hp}{s:rX}{E:rW->rX->Prop}
theorem Inv.wish(I:Inv X AO σ H s)(E:rW->rX->Prop):Inv (X.wish E) AO σ H s:=#[I.ok.wish E,I.os,I.bare,I.base,I.loc,I.cell,I.free,I.freeC,I.pin,I.hok,I.len]
theorem Inv.unwish(I:Inv (X.wish E) AO σ H s):Inv X AO σ H s:=#[I.ok.unwish,I.os,I.bare,I.base,I.loc,I.cell,I.free,I.freeC,I.pin,I.hok,I.len]
theorem SP.unwish{D:vq}{f:Flow}{s':rX}(h:SP (X.wish E) AO D f s'):SP X AO D f s':=by
 cases f with
 | next=>obtain⟨σ',H',I,q⟩:=h;exact#[σ',H',I.unwish,q]
 | brk=>obtain⟨σ',H',I,q⟩:=h;exact#[σ',H',I.unwish,q]
 | cont=>obtain⟨σ',H',I,q⟩:=h;exact#[σ',H',I.unwish,q]
 | ret u=>obtain⟨v,σ',H',I,r,q⟩:=h;exact#[v,σ',H',I.unwish,r,q]
theorem PSs.nox{st:List sr}{t:TS}(h:PSs X.nox st t):PSs X st t:=λAO s σ H D I hw =>
 tm (h AO s σ H D (I.wish _) hw) (λ_ _ q=>q.unwish) λ_ _ z=>False.elim z
end
section
variable{X:Cx}{st:sr}{rest:List sr}{t u:TS}{e:so}{te:TE}{pos:sY}
def Kh:TS:=λD σ H=>D.nx σ H
def zey(t u:TS):TS:=λD σ H=>t { D with nx:=u D } σ H
theorem zw:PSs X [] Kh:=λ_ _ σ H _ I h=>tj #[σ,H,I,h]
theorem zG(h1:PS X st t)(h2:PSs X rest u):PSs X (st::rest) (zey t u):=by
 intro AO s σ H D I h;refine tw (thn (h1 AO s σ H { D with nx:=u D } I h) λf s1 q=>?_)
 cases f with
 | next =>
  obtain⟨σ',H',I',q⟩:=q;exact h2 AO s1 σ' H' D I' q
 | ret v=>exact q
 | brk=>exact q
 | cont=>exact q
theorem zf(h1:PS X st t):PSs X [st] t:=by
 intro AO s σ H D I h;refine tw (thn (h1 AO s σ H D I h) λf s1 q=>?_)
 cases f with
 | next=>exact tj q
 | ret v=>exact q
 | brk=>exact q
 | cont=>exact q
def U8:TS:=λD σ H=>D.bk σ H
def zb7:TS:=λD σ H=>D.ct σ H
theorem Inv.quiet{AO:List (rV × sI)}{σ:St}{H:Hp}{s:rX}(I:Inv X AO σ H s):interactive X.env=AN:=by simp [interactive,I.ok.kind]
def Ki(te:TE):TS:=λD σ H=>te σ H λ_ H1=>D.nx σ H1
theorem xA(he:PE X e te)(hs:swapsWith e AL pos.line X.env=pure AN:=by rfl):PS X (.Expr e pos) (Ki te):=by
 intro AO s σ H D I h;exact wpAny_Expr_any (thn (he AO s σ H _ I h) λv s1 ⟨x,H1,I1,r1,q1⟩=>#[σ,H1,I1,q1]) I.quiet hs
def K0(te:TE):TS:=λD σ H=>te σ H D.rt
theorem zl(he:PE X e te):PS X (.Return (AK e) pos) (K0 te):=by
 intro AO s σ H D I h;exact Au (thn (he AO s σ H _ I h) λv s1 ⟨x,H1,I1,r1,q1⟩=>#[x,σ,H1,I1,r1,q1])
def zbc:TS:=λD _ H=>D.rt .non H
def zeu(c:TT)(t u:TS):TS:=λD σ H=>c σ H λb H1=>if b=AM then t D σ H1 else u D σ H1
theorem zM{c:so}{a b:List sr}{tc:TT}(hc:PT X c tc)(ha:PSs X a t)(hb:PSs X b u):PS X (.If c a b pos) (zeu tc t u):=by
 intro AO s σ H D I h;refine wpAny_If (thn (hc AO s σ H _ I h) λd s1 ⟨H1,I1,q1⟩=>?_)
 cases d with
 | true=>exact ha AO s1 σ H1 D I1 q1
 | false=>exact hb AO s1 σ H1 D I1 q1
end
noncomputable abbrev TG:=V->St->Hp->(St->Hp->Prop)->Prop
noncomputable abbrev TGs:=List V->St->Hp->(St->Hp->Prop)->Prop
def PG(X:Cx)(target:so)(t:TG):Prop :=
 ∀(AO:List (rV × sI)) (s:rX) (σ:St) (H:Hp) (v:V) (u:rW) (Q:St->Hp->Prop),Inv X AO σ H s->RelV v u->t v σ H Q ->
  rZ (model X.prog X.w) X.A (assign target X.env u) (λ_ s'=>∃σ' H',Inv X AO σ' H' s'/\Q σ' H') X.xe s
def PGs(X:Cx)(ts:List so)(t:TGs):Prop :=
 ∀(AO:List (rV × sI)) (s:rX) (σ:St) (H:Hp) (vs:List V) (us:List rW) (Q:St->Hp->Prop),Inv X AO σ H s->Vals vs us->t vs σ H Q ->
  rZ (model X.prog X.w) X.A (assignInOrder ((assignEach ts X.env).map (·.2)) us) (λ_ s'=>∃σ' H',Inv X AO σ' H' s'/\Q σ' H') X.xe s
noncomputable abbrev zfq:=V->V->V->Hp->(Hp->Prop)->Prop
def zfP(X:Cx)(t:zfq):Prop :=
 ∀(AO:List (rV × sI)) (s:rX) (σ:St) (H:Hp) (o i v:V) (ov iv u:rW) (Q:Hp->Prop),Inv X AO σ H s->RelV o ov->RelV i iv->RelV v u->t o i v H Q ->
  rZ (model X.prog X.w) X.A (setItem ov iv u) (λ_ s'=>∃H',Inv X AO σ H' s'/\Q H') X.xe s
section
variable{X:Cx}{pos:sY}
def yD(i:Nat):TG:=λv σ H Q=>Q (σ.set i (AK v)) H
theorem zx{i:Nat}{x:si}(hN:X.N.Nodup)(hi:X.N[i]? = AK x)(hx:Loc X.env.scope x)(hf:X.fn x=AM\/X.env.scope.names.lookup x=AK .local:=by first | exact .inl rfl | exact .inr rfl | assumption):PG X (.Name x pos) (yD i):=by
 intro AO s σ H v u Q I r h;exact As (Zn I hN hi hx r (λs' I'=>#[_,H,I',h]) hf)
def zbS:TGs:=λvs σ H Q=>vs=[]/\Q σ H
def jO(t:TG)(u:TGs):TGs:=λvs σ H Q=>∃v r,vs=v::r/\t v σ H λσ' H'=>u r σ' H' Q
theorem wo:PGs X [] zbS:=by
 intro AO s σ H vs us Q I r h;obtain⟨e,h⟩:=h;subst e;cases r;exact assignInOrder_nil #[σ,H,I,h]
theorem zO{e:so}{es:List so}{t:TG}{u:TGs}(h1:PG X e t)(h2:PGs X es u)
  (hs:(assignEach (e::es) X.env).map (·.2)=assign e X.env::(assignEach es X.env).map (·.2):=by rfl):PGs X (e::es) (jO t u):=by
 intro AO s σ H vs us Q I r h;obtain⟨v,vr,e1,h⟩:=h;subst e1
 cases r with
 | cons r rr =>
  rw[hs];refine assignInOrder_cons (thn (h1 AO s σ H _ _ _ I r h) λ_ s1 ⟨σ1,H1,I1,q1⟩=>?_);exact h2 AO s1 σ1 H1 _ _ Q I1 rr q1
def zbG(K:rT)(n:Nat)(t:TGs):TG:=λv σ H Q=>∃a xs,v=.ref a/\SqT K H a xs/\xs.length=n/\t xs σ H Q
theorem vU{es:List so}{k:Nat}{t:TGs}{n:Nat}(hc:X.calm=AM)(h:PGs X es t)
  (hn:(assignEach es X.env).length=n:=by rfl) (hst:(assignEach es X.env).findIdx? (·.1)=AL:=by rfl):PG X (.Tuple es k pos) (zbG X.K n t):=by
 intro AO s σ H v u Q I r hw;obtain⟨a,xs,e1,hq,hl,hw⟩:=hw;subst e1;cases r;obtain⟨its,rv,ht,hz⟩:=I.tuple hq;refine assign_Tuple_tuple (I.ok.hd hc) ht (by simp [hn,<- hl,rv.length]) hst λh' hx=>?_;have I1:Inv X AO σ H { s with heap:=h' }:=I.kept (t':=s.toks) λb o e=>hx b o (az (aq e)) e;exact h AO _ σ H xs _ Q I1 (by simpa using rv) hw
def zfL(to ti:TE)(t:zfq):TG:=λv σ H Q=>to σ H λo H1=>ti σ H1 λi H2=>t o i v H2 λH3=>Q σ H3
theorem zc5{o i:so}{to ti:TE}{t:zfq}(ho:PE X o to)(hi:PE X i ti)(hs:zfP X t)
  (ha:∀v,assign (.Subscript o i pos) X.env v=(do
   let ov <- holding [v] (eval o X.env)
   let iv <- holding [v,ov] (eval i X.env)
   standAt pos
   holding [v,ov,iv] (setItem ov iv v)
   release [v,ov,iv] []):=by intro _;rfl):PG X (.Subscript o i pos) (zfL to ti t):=by
 intro AO s σ H v u Q I r h;rw[ha];refine rO (sJ (thn (ho AO s σ H _ I h) λov s1 ⟨x,H1,I1,r1,q1⟩=>?_));refine rO (sJ (thn (hi AO s1 σ H1 _ I1 q1) λiv s2 ⟨y,H2,I2,r2,q2⟩=>?_));refine rO (sU (rO (sJ (thn (hs AO s2 σ H2 x y v ov iv u _ I2 r1 r2 r q2) λ_ s3 ⟨H3,I3,q3⟩=>?_))));exact wpAny_release #[σ,H3,I3,q3]
def zcN(te:TE)(g:TG):TS:=λD σ H=>te σ H λx H1=>g x σ H1 D.nx
theorem zab{tg e:so}{te:TE}{g:TG}(he:PE X e te)(hg:PG X tg g)(hs:swapsWithSole [tg] e pos.line X.env=pure AN:=by rfl)(hw:swappedStores [tg] e X.env=pure AL:=by rfl)
  (h1:(assignEach [tg] X.env).map (·.2)=[assign tg X.env]:=by rfl):PS X (.Assign [tg] e pos) (zcN te g):=by
 intro AO s σ H D I h;refine wpAny_Assign_stores (thn (he AO s σ H _ I h) λv s1 ⟨x,H1,I1,r1,q1⟩=>?_) hs hw;rw[h1];exact thn (hg AO s1 σ H1 x v _ I1 r1 q1) λ_ s2 q=>q
theorem ka{i:Nat}{x:si}{e:so}{te:TE}{pos':sY}(hN:X.N.Nodup)(hi:X.N[i]? = AK x)(hx:Loc X.env.scope x)(he:PE X e te)(hs:swapsWith e (AK (.Name x pos')) pos.line X.env=pure AN:=by rfl)(hf:X.fn x=AM\/X.env.scope.names.lookup x=AK .local:=by first | exact .inl rfl | exact .inr rfl | assumption) :
  PS X (.Assign [.Name x pos'] e pos) (zcN te (yD i)):=by
 intro AO s σ H D I h;refine Av (thn (he AO s σ H _ I h) λv s1 ⟨y,H1,I1,r1,q1⟩=>?_) hs;exact Zn I1 hN hi hx r1 (λs2 I2=>#[_,H1,I2,q1]) hf
def zf6(i j:Nat)(ta:TA):TS:=λD σ H=>ta σ H λvs H1=>∃v w,vs=[v,w]/\D.nx ((σ.set i (AK v)).set j (AK w)) H1
end
section
variable{X:Cx}{pos:sY}
def QT(c:TT)(tb:TS):TS:=λD σ H=>∃W:Nat->St->Hp->Prop,(∃m,W m σ H)/\∀m σ H,W m σ H ->
 c σ H λb H1=>if b=AM then ∃N:St->Hp->Prop,(∀σ' H',N σ' H'->∃m',m'<m/\W m' σ' H')/\tb { D with nx:=N,ct:=N,bk:=D.nx } σ H1 else D.nx σ H1
theorem Wm{c:so}{body:List sr}{tc:TT}{tb:TS}(hp:PassesOwn (model X.prog X.w) X.A X.env X.xe)(hc:PT X c tc)(hb:PSs X body tb):PS X (.While c body [] pos) (QT tc tb):=by
 intro AO s σ H D I h;obtain⟨W,⟨m0,w0⟩,turn⟩:=h;refine wpAny_While (codeAny_whileLoop (λn s'=>∃σ' H',Inv X AO σ' H' s'/\W n σ' H') ?_ m0 #[σ,H,I,w0]);rintro n s1 ⟨σ1,H1,I1,w1⟩;refine sS hp (thn (hc AO s1 σ1 H1 _ I1 (turn n σ1 H1 w1)) λb s2 ⟨H2,I2,q2⟩=>?_)
 cases b with
 | true =>
  obtain⟨N,hN,q2⟩:=q2;rw[if_pos rfl];refine sS hp (thn (hb AO s2 σ1 H2 _ I2 q2) λf s3 q3=>?_)
  cases f with
  | next =>
   obtain⟨σ3,H3,I3,n3⟩:=q3;obtain⟨m',hm,w3⟩:=hN σ3 H3 n3;exact#[m',hm,σ3,H3,I3,w3]
  | cont =>
   obtain⟨σ3,H3,I3,n3⟩:=q3;obtain⟨m',hm,w3⟩:=hN σ3 H3 n3;exact#[m',hm,σ3,H3,I3,w3]
  | brk=>exact q3
  | ret v=>exact q3
 | false =>
  rw[if_neg ay];exact tj #[σ1,H2,I2,q2]
end
structure It where
 go:Nat->Hp->Prop
 yld:Nat->Hp->V->Hp->Prop
 stop:Nat->Hp->Prop
def wg(X:Cx)(AO:List (rV × sI))(H:Hp)(b:rV):Prop :=
 H b=AL/\b≠X.env.locals/\b ∉ X.fs/\(b ∈ X.ex\/X.s₀.heap.objs.size<=b)/\(∀x c,X.env.cells.lookup x=AK c->c≠b)/\∀p ∈ X.pn ++ AO,p.1≠b
theorem Inv.fpOk{X:Cx}{AO:List (rV × sI)}{σ:St}{H H':Hp}{s:rX}{b:rV}(I:Inv X AO σ H s)(hb:s⁻¹<=b)(hn:H' b=AL):wg X AO H' b:=by
 refine#[hn,ce (aw I.lt hb),I.nofs hb,.inr (aN I.sz hb),λx c e z=>?_,λp hp z=>?_]
 ·obtain⟨v,q⟩:=I.cell x c e;exact absurd (aw q.lt (by rw[z];exact hb)) (cJ _)
 ·exact absurd (aw (aq (I.pin p hp).1) (by rw[z];exact hb)) (cJ _)
structure Jf(P:sf)(w:sj)(K:rT)(tg:so)(J:It)(fp:List rV)(it:rV)(tn:Nat->sq->Prop):Prop where
 mem:it ∈ fp
 obj:∀i h,tn i h->∀b ∈ fp,∃o,h.get? b=AK o/\∀v,o.data≠.cell v
 keep:∀i h h',tn i h->(∀b ∈ fp,∀o,h.get? b=AK o->h'.get? b=AK o)->tn i h'
 item:∀(X:Cx),X.prog=P->X.w=w->X.K=K->X.calm=AM->∀(i:Nat) (AO:List (rV × sI)) (s:rX) (σ:St) (H:Hp) (E:rW->rX->Prop),Inv X AO σ H s->(∀b ∈ fp,wg X AO H b)->tn i s.heap->J.go i H ->
  rZ (model P w) X.A (pyNext (.ref it)) (λr s1=>∃u,r=AK u /\
   rZ (model P w) X.A (letOwnedTupleGo tg (.ref it) u) (λ_ s2=>∃x H',Inv X AO σ H' s2/\RelV x u/\J.yld i H x H'/\tn (i+1) s2.heap/\∀b ∈ fp,H' b=AL) E s1) E s
 done:∀(X:Cx),X.prog=P->X.w=w->X.K=K->X.calm=AM->∀(i:Nat) (AO:List (rV × sI)) (s:rX) (σ:St) (H:Hp) (E:rW->rX->Prop),Inv X AO σ H s->(∀b ∈ fp,wg X AO H b)->tn i s.heap->J.stop i H ->
  rZ (model P w) X.A (pyNext (.ref it)) (λr s1=>r=AL/\Inv X AO σ H s1) E s
 self:∀(A:sk) (i:Nat) (s:rX) (Q:rW->rX->Prop) (E:rW->rX->Prop),tn i s.heap->Q (.ref it) s->rZ (model P w) A (pyIter (.ref it)) Q E s
noncomputable abbrev TI:=St->Hp->(It->Hp->Prop)->Prop
def PIE(X:Cx)(AO:List (rV × sI))(σ:St)(tg:so)(R:It->Hp->Prop)(itv:rW)(s2:rX):Prop :=
 ∃(it:rV) (fp:List rV) (tn:Nat->sq->Prop) (J:It) (H':Hp),itv=.ref it/\Inv X AO σ H' s2/\Jf X.prog X.w X.K tg J fp it tn/\tn 0 s2.heap/\(∀b ∈ fp,wg X AO H' b)/\R J H'
def PI(X:Cx)(tg iter:so)(wi:TI):Prop :=
 ∀(AO:List (rV × sI)) (s:rX) (σ:St) (H:Hp) (R:It->Hp->Prop),Inv X AO σ H s->wi σ H R ->
  rZ (model X.prog X.w) X.A (eval iter X.env) (λv s1=>rZ (model X.prog X.w) X.A (pyIter v) (PIE X AO σ tg R) X.xe s1) X.xe s
theorem WU{M:Aw}{A:sk}{E:rW->rX->Prop}{s:rX}{tg:so}{it:rV}{u:rW}{o:sI}{n:String}{vs:Array rW}{Q:Unit->rX->Prop}(ho:s.heap.get? it=AK o)(hc:o.cls=.type n)(hd:o.data=.fields vs)
    (hn:["enumerate","zip","dict_itemiterator","dict_reverseitemiterator","odict_iterator","itertools.zip_longest","itertools.pairwise"].contains n=AN) (hQ:Q () s):rZ M A (letOwnedTupleGo tg (.ref it) u) Q E s:=by
  unfold letOwnedTupleGo
  cases tg <;> first
    | exact rP hQ
    | (cases u <;> first
        | exact rP hQ
        | (refine rO (wpAny_load ho ?_)
           rw[hc,hd];show rZ M A (if (["enumerate","zip","dict_itemiterator","dict_reverseitemiterator","odict_iterator","itertools.zip_longest","itertools.pairwise"].contains n && vs[0]? == AK (rawInt _))=AM then _ else _) Q E s;rw[if_neg (by intro h;rw[hn,Bool.false_and]at h;cases h)]
           exact rP hQ))
noncomputable def Itl(K:rT)(a:rV):It :=
 #[λi H=>∃xs x,SqL K H a xs/\xs[i]? = AK x,λi H x H'=>H'=H/\∀xs,SqL K H a xs->xs[i]? = AK x,λi H=>∃xs,SqL K H a xs/\xs.length<=i]
noncomputable def Itt(K:rT)(a:rV):It :=
 #[λi H=>∃xs x,SqT K H a xs/\xs[i]? = AK x,λi H x H'=>H'=H/\∀xs,SqT K H a xs->xs[i]? = AK x,λi H=>∃xs,SqT K H a xs/\xs.length<=i]
noncomputable def Itr(lo:Int)(n:Nat):It:=#[λi _=>i<n,λi H x H'=>H'=H/\x=.int (lo+i),λi _=>n<=i]
theorem QB{P:sf}{w:sj}{K:rT}{tg:so}(a it:rV):Jf P w K tg (Itl K a) [it] it (λi h=>h.IsListIter it a i) where
 mem:=by simp
 obj:=λi h st b hb=>by
  have e:b=it:=by simpa using hb
  subst e;obtain⟨o,e,c,d⟩:=st;exact#[o,e,λv z=>by rw[d]at z;cases z]
 keep:=λi h h' st k=>st.at λo e=>k it (by simp) o e
 item:=by
  intro X hP hw hK hc i AO s σ H E I hf st hg;subst hP hw hK;obtain⟨xs,x,hq,hx⟩:=hg;obtain⟨its,rv,p,hz⟩:=I.list hq;obtain⟨u,hu,ru⟩:=rv.get hx;obtain⟨f0,f1,f2,f3,f4,f5⟩:=hf it (by simp);refine wpAny_pyNext_list_item st p.isList (x:=u) (by simpa using hu) λh' st' sb=>?_;have I1:Inv X AO σ H { s with heap:=h' }:=I.turned (t':=s.toks) (λb o hb e=>(sb.2 b hb).trans e) f0 f1 f3 f4 f5;obtain⟨o,e,c,d⟩:=id st';exact#[u,rfl,WU (s:={ s with heap:=h' }) e c d (by decide) #[x,H,I1,ru,#[rfl,λys hy=>by rw[I.list_inj hy hq];exact hx],st',λb hb=>(hf b hb).1]]
 done:=by
  intro X hP hw hK hc i AO s σ H E I hf st hg;subst hP hw hK;obtain⟨xs,hq,hx⟩:=hg;obtain⟨its,rv,p,hz⟩:=I.list hq;obtain⟨f0,f1,f2,f3,f4,f5⟩:=hf it (by simp);have hl:=rv.length;exact wpAny_pyNext_list_end (I.ok.hd hc) st p.isList (by simp;lia) λh' eb=>#[rfl,I.turned (t':=s.toks) (λb o hb e=>eb b o hb e) f0 f1 f3 f4 f5]
 self:=λ_ _ _ _ _ st h=>wpAny_pyIter_listiter st h
theorem Vq{P:sf}{w:sj}{K:rT}{tg:so}(a it:rV):Jf P w K tg (Itt K a) [it] it (λi h=>h.IsTupleIter it a i) where
 mem:=by simp
 obj:=λi h st b hb=>by
  have e:b=it:=by simpa using hb
  subst e;obtain⟨o,e,c,d⟩:=st;exact#[o,e,λv z=>by rw[d]at z;cases z]
 keep:=λi h h' st k=>st.at λo e=>k it (by simp) o e
 item:=by
  intro X hP hw hK hc i AO s σ H E I hf st hg;subst hP hw hK;obtain⟨xs,x,hq,hx⟩:=hg;obtain⟨its,rv,p,hz⟩:=I.tuple hq;obtain⟨u,hu,ru⟩:=rv.get hx;obtain⟨f0,f1,f2,f3,f4,f5⟩:=hf it (by simp);refine wpAny_pyNext_tuple_item st (show s.heap.IsTuple a its.toArray from p) (x:=u) (by simpa using hu) λh' st' sb=>?_;have I1:Inv X AO σ H { s with heap:=h' }:=I.turned (t':=s.toks) (λb o hb e=>(sb.2 b hb).trans e) f0 f1 f3 f4 f5;obtain⟨o,e,c,d⟩:=id st';exact#[u,rfl,WU (s:={ s with heap:=h' }) e c d (by decide) #[x,H,I1,ru,#[rfl,λys hy=>by rw[I.tuple_inj hy hq];exact hx],st',λb hb=>(hf b hb).1]]
 done:=by
  intro X hP hw hK hc i AO s σ H E I hf st hg;subst hP hw hK;obtain⟨xs,hq,hx⟩:=hg;obtain⟨its,rv,p,hz⟩:=I.tuple hq;obtain⟨f0,f1,f2,f3,f4,f5⟩:=hf it (by simp);have hl:=rv.length;exact wpAny_pyNext_tuple_end (I.ok.hd hc) st (show s.heap.IsTuple a its.toArray from p) (by simp;lia) λh' eb=>#[rfl,I.turned (t':=s.toks) (λb o hb e=>eb b o hb e) f0 f1 f3 f4 f5]
 self:=λ_ _ _ _ _ st h=>wpAny_pyIter_tupleiter st h
theorem Vi{P:sf}{w:sj}{K:rT}{tg:so}(it:rV)(lo:Int)(n:Nat):Jf P w K tg (Itr lo n) [it] it (λi h=>Ai h it (lo+(i:Nat) * 1) ((n:Int) - (i:Nat)) 1) where
 mem:=by simp
 obj:=λi h st b hb=>by
  have e:b=it:=by simpa using hb
  subst e
  exact#[_,st,λv z=>by
   have z':Data.fields _=Data.cell v:=z
   cases z']
 keep:=λi h h' st k=>k it (by simp) _ st
 item:=by
  intro X hP hw hK hc i AO s σ H E I hf st hg;subst hP hw hK;obtain⟨f0,f1,f2,f3,f4,f5⟩:=hf it (by simp);have W:=Walks.range (prog:=X.prog) (w:=X.w) (I.ok.hd hc) it lo 1 n;refine W.item i s _ _ hg st λv h' tk hv st' kk=>?_;obtain⟨t,rfl⟩:=hv;have I1:Inv X AO σ H { s with heap:=h',toks:=tk }:=I.turned (λb o hb e=>kk b o (by simpa using hb) e) f0 f1 f3 f4 f5;refine#[_,rfl,WU (s:={ s with heap:=h',toks:=tk }) (n:="range_iterator") st' rfl rfl (by decide) #[.int (lo+i),H,I1,#[t,?_],#[rfl,rfl],st',λb hb=>(hf b hb).1]];rw[Int.mul_one]
 done:=by
  intro X hP hw hK hc i AO s σ H E I hf st hg;subst hP hw hK;obtain⟨f0,f1,f2,f3,f4,f5⟩:=hf it (by simp);exact tW (I.ok.hd hc) st (by have:n<=i:=hg;lia) λh' eb=>#[rfl,I.turned (t':=s.toks) (λb o hb e=>eb b o hb e) f0 f1 f3 f4 f5]
 self:=λ_ _ _ _ _ st h=>tX st h
end L2
namespace L2
section
variable{X:Cx}{tg:so}
def zcu(K:rT)(tl:TE):TI:=λσ H R=>tl σ H λx H1=>∃a,x=.ref a/\(∃xs,SqL K H1 a xs)/\R (Itl K a) H1
def zfU(K:rT)(tl:TE):TI:=λσ H R=>tl σ H λx H1=>∃a,x=.ref a/\(∃xs,SqT K H1 a xs)/\R (Itt K a) H1
theorem yw{l:so}{tl:TE}(hl:PE X l tl):PI X tg l (zcu X.K tl):=by
 intro AO s σ H R I h;refine thn (hl AO s σ H _ I h) λv s1 ⟨x,H1,I1,r1,q1⟩=>?_;obtain⟨a,e,⟨xs,hq⟩,q⟩:=q1;subst e;cases r1;obtain⟨its,rv,p,hz⟩:=I1.list hq;refine tR p.isList ?_;refine#[s1⁻¹,[s1⁻¹],_,_,H1,rfl,I1.kept (t':=s1.toks) λb o e=>aa _ e,QB a _,#[_,aB _ rfl,rfl,rfl],λb hb=>?_,q];have e:b=s1⁻¹:=by simpa using hb
 subst e;exact I1.fpOk (al _) (I1.hok.fresh (al _))
theorem zed{l:so}{tl:TE}(hl:PE X l tl):PI X tg l (zfU X.K tl):=by
 intro AO s σ H R I h;refine thn (hl AO s σ H _ I h) λv s1 ⟨x,H1,I1,r1,q1⟩=>?_;obtain⟨a,e,⟨xs,hq⟩,q⟩:=q1;subst e;cases r1;obtain⟨its,rv,p,hz⟩:=I1.tuple hq;refine Ao (show s1.heap.IsTuple a its.toArray from p) ?_;refine#[s1⁻¹,[s1⁻¹],_,_,H1,rfl,I1.kept (t':=s1.toks) λb o e=>aa _ e,Vq a _,#[_,aB _ rfl,rfl,rfl],λb hb=>?_,q];have e:b=s1⁻¹:=by simpa using hb
 subst e;exact I1.fpOk (al _) (I1.hok.fresh (al _))
theorem Wy{AO:List (rV × sI)}{σ:St}{H:Hp}{s:rX}{R:It->Hp->Prop}{E:rW->rX->Prop}{lo hi:Int}{t u v:tP}{tk:Nat}(I:Inv X AO σ H s)(h1:-(2 ^ 62)<=lo)(h2:lo<2 ^ 62)(h3:-(2 ^ 62)<=hi)(h4:hi<2 ^ 62)
  (q:R (Itr lo (hi - lo).toNat) H):rZ (model X.prog X.w) X.A (pyIter (.ref s⁻¹)) (PIE X AO σ tg R) E { s with heap:=s.heap.push { cls:=.type "range",data:=.fields (List.toArray [.int lo t,.int hi u,.int 1 v]) },toks:=tk }:=by
 refine Ap (IsRange.new ..) (small_one h1 h2 h3 h4) ?_;have I1:Inv X AO σ H { s with heap:=s.heap.push { cls:=.type "range",data:=.fields (List.toArray [.int lo t,.int hi u,.int 1 v]) },toks:=tk }:=I.kept λb o e=>aa _ e
 refine#[(s.heap.push { cls:=.type "range",data:=.fields (List.toArray [.int lo t,.int hi u,.int 1 v]) }).objs.size,[(s.heap.push { cls:=.type "range",data:=.fields (List.toArray [.int lo t,.int hi u,.int 1 v]) }).objs.size],_,_,H,rfl,
  I1.kept (t':=tk) λb o e=>aa _ e,Vi _ lo (hi - lo).toNat,?_,λb hb=>?_,q]
 ·have e1:lo+((0:Nat):Int) * 1=lo:=by simp
  have e2:(((hi - lo).toNat:Nat):Int) - ((0:Nat):Int)=Builtin.Range.rangeSize lo hi 1:=by rw[rangeSize_one];split <;> lia
  show Ai _ _ (lo+((0:Nat):Int) * 1) ((((hi - lo).toNat:Nat):Int) - ((0:Nat):Int)) 1;rw[e1,e2];exact aB _ rfl
 ·have e:b=(s.heap.push { cls:=.type "range",data:=.fields (List.toArray [.int lo t,.int hi u,.int 1 v]) }).objs.size:=by simpa using hb
  subst e;exact I1.fpOk (al _) (I1.hok.fresh (al _))
def zaV(ta:TA):TI:=λσ H R=>ta σ H λvs H1=>∃j:Int,vs=[.int j]/\-(2 ^ 62)<=j/\j<2 ^ 62/\R (Itr 0 j.toNat) H1
def zda(ta:TA):TI:=λσ H R=>ta σ H λvs H1=>∃i j:Int,vs=[.int i,.int j]/\(-(2 ^ 62)<=i/\i<2 ^ 62/\-(2 ^ 62)<=j/\j<2 ^ 62)/\R (Itr i (j - i).toNat) H1
theorem yo{a:so}{ta:TA}{p pos:sY}(hg:Gl X "range")(hm:X.mg "range" = AL)(ha:PA X [a] ta)(hs:rR [a] X.env=[(AN,eval a X.env)]:=by rfl):PI X tg (.Call (.Name "range" p) [a] [] pos) (zaV ta):=by
 intro AO s σ H R I h;refine AJ (wH I hg hm boot_range (bv (thn (ha pos AO s σ H _ I h) λus s1 ⟨vs,H1,I1,r1,q1⟩=>?_) hs rfl));obtain⟨j,e,q1,q2,q⟩:=q1;subst e
 cases r1 with
 | cons r rr =>
  cases rr;obtain⟨t,rfl⟩:=r;exact call_range_1 (Wy I1 (by lia) (by lia) q1 q2 (by simpa using q))
theorem ZU{a b:so}{ta:TA}{p pos:sY}(hg:Gl X "range")(hm:X.mg "range" = AL)(ha:PA X [a,b] ta)(hs:rR [a,b] X.env=[(AN,eval a X.env),(AN,eval b X.env)]:=by rfl)(hs2:rR [b] X.env=[(AN,eval b X.env)]:=by rfl) :
  PI X tg (.Call (.Name "range" p) [a,b] [] pos) (zda ta):=by
 intro AO s σ H R I h;refine AJ (wH I hg hm boot_range (bv (thn (ha pos AO s σ H _ I h) λus s1 ⟨vs,H1,I1,r1,q1⟩=>?_) (by rw[hs,hs2]) (by rw[hs2];rfl)));obtain⟨i,j,e,⟨q1,q2,q3,q4⟩,q⟩:=q1;subst e
 cases r1 with
 | cons r rr =>
  cases rr with
  | cons r' rr =>
   cases rr;obtain⟨t,rfl⟩:=r;obtain⟨t',rfl⟩:=r';exact call_range_2 (Wy I1 q1 q2 q3 q4 q)
def KN(wi:TI)(g:TG)(tb:TS):TS:=λD σ H=>wi σ H λJ H1=>∃W:Nat->Nat->St->Hp->Prop,(∃m,W 0 m σ H1)/\∀i m σ H,W i m σ H ->
 (J.stop i H/\D.nx σ H)\/(J.go i H/\∃N:St->Hp->Prop,(∀σ' H',N σ' H'->∃m',m'<m/\W (i+1) m' σ' H')/\∀x H',J.yld i H x H'->g x σ H' λσ2 H2=>tb { D with nx:=N,ct:=N,bk:=D.nx } σ2 H2)
noncomputable def ZQ(fp:List rV)(h:sq):List (rV × sI):=fp.filterMap λb=>(h.get? b).map λo=>(b,o)
theorem vh{fp:List rV}{h:sq}{b:rV}{o:sI}(hb:b ∈ fp)(e:h.get? b=AK o):(b,o) ∈ ZQ fp h:=Bk.mpr #[b,hb,by rw[e];rfl]
theorem QS{fp:List rV}{h:sq}{p:rV × sI}(hp:p ∈ ZQ fp h):p.1 ∈ fp/\h.get? p.1=AK p.2:=by
 obtain⟨b,hb,e⟩:=Bk.mp hp
 cases q:h.get? b with
 | none=>rw[q]at e;cases e
 | some o =>
  rw[q]at e;have e':(b,o)=p:=Option.some.inj e;subst e';exact#[hb,q]
theorem Inv.pinned{AO:List (rV × sI)}{σ:St}{H:Hp}{s:rX}{fp:List rV}(I:Inv X AO σ H s)(hf:∀b ∈ fp,wg X AO H b)(ho:∀b ∈ fp,∃o,s.heap.get? b=AK o/\∀v,o.data≠.cell v):Inv X (AO ++ ZQ fp s.heap) σ H s :=
 I.pins_of λp hp=>(AU.mp hp).elim (λz=>I.pin p (aC _ z)) λz=>by
  obtain⟨hb,e⟩:=QS z;obtain⟨f0,f1,f2,_⟩:=hf p.1 hb;obtain⟨o,e',d⟩:=ho p.1 hb;rw[e]at e';cases e';exact#[e,f0,f1,f2,d]
theorem Inv.unpinned{AO pl:List (rV × sI)}{σ:St}{H:Hp}{s:rX}(I:Inv X (AO ++ pl) σ H s):Inv X AO σ H s:=I.pins_of λp hp=>I.pin p (aC _ (bi _ hp))
theorem zX{iter:so}{body:List sr}{wi:TI}{g:TG}{tb:TS}{pos:sY}(hp:PassesOwn (model X.prog X.w) X.A X.env X.xe)(hc:X.calm=AM)(hi:PI X tg iter wi)(hg:PG X tg g)(hb:PSs X body tb)
  (hs:∀x,foldedSetIterable iter X.env x=pure x:=by intro _;rfl):PS X (.For tg iter body [] pos) (KN wi g tb):=by
 intro AO s σ H D I h;refine wpAny_For (thn (hi AO s σ H _ I h) λv s1 h1=>thn h1 λitv s2 h2=>?_) hs;obtain⟨it,fp,tn,J,H2,e,I2,T,st2,f2,W,⟨m0,w0⟩,turn⟩:=h2;subst e;have stat:∀{H':Hp},(∀b ∈ fp,H' b=AL)->∀b ∈ fp,wg X AO H' b:=λhn b hb=>#[hn b hb,(f2 b hb).2];refine codeAny_forLoop_any (λn s'=>∃i σ' H',Inv X AO σ' H' s'/\tn i s'.heap/\(∀b ∈ fp,H' b=AL)/\W i n σ' H') ?_ m0 #[0,σ,H2,I2,st2,λb hb=>(f2 b hb).1,w0];rintro n s3 ⟨i,σ3,H3,I3,st3,fr3,w3⟩;rcases turn i n σ3 H3 w3 with ⟨stop,qn⟩ | ⟨go,N,hN,step⟩
 ·refine sS hp (thn (T.done X rfl rfl rfl hc i AO s3 σ3 H3 X.xe I3 (stat fr3) st3 stop) λr s4 ⟨hr,I4⟩=>?_);subst hr;exact tj #[σ3,H3,I4,qn]
 ·refine sS hp (thn (T.item X rfl rfl rfl hc i AO s3 σ3 H3 X.xe I3 (stat fr3) st3 go) λr s4 ⟨u,hr,h4⟩=>?_);subst hr;refine sS hp (thn h4 λ_ s5 ⟨x,H5,I5,r5,y5,st5,fr5⟩=>?_);have I5':=I5.pinned (stat fr5) (T.obj _ _ st5);refine sS hp (thn (hg _ s5 σ3 H5 x u _ I5' r5 (step x H5 y5)) λ_ s6 ⟨σ6,H6,I6,q6⟩=>?_);refine sS hp (thn (hb _ s6 σ6 H6 _ I6 q6) λf s7 q7=>?_)
  have again:∀{σ7:St} {H7:Hp},Inv X (AO ++ ZQ fp s5.heap) σ7 H7 s7->N σ7 H7->∃m,m<n/\∃i σ' H',Inv X AO σ' H' s7/\tn i s7.heap/\(∀b ∈ fp,H' b=AL)/\W i m σ' H':=λ{σ7 H7} I7 n7=>by
   obtain⟨m',hm,w7⟩:=hN σ7 H7 n7;refine#[m',hm,i+1,σ7,H7,I7.unpinned,T.keep _ _ _ st5 λb hb o e=>(I7.pin (b,o) (aC _ (aC _ (vh hb e)))).1,λb hb=>?_,w7];obtain⟨o,e,d⟩:=T.obj _ _ st5 b hb;exact (I7.pin (b,o) (aC _ (aC _ (vh hb e)))).2.1
  cases f with
  | next=>obtain⟨σ7,H7,I7,n7⟩:=q7;exact again I7 n7
  | cont=>obtain⟨σ7,H7,I7,n7⟩:=q7;exact again I7 n7
  | brk=>obtain⟨σ7,H7,I7,q7⟩:=q7;exact#[σ7,H7,I7.unpinned,q7]
  | ret v=>obtain⟨x7,σ7,H7,I7,r7,q7⟩:=q7;exact#[x7,σ7,H7,I7.unpinned,r7,q7]
end
theorem KH{K:rT}{a:rV}{xs:List V}{g:TG}{tb:TS}{D:vq}{σ:St}{H:Hp}(Pv:Nat->St->Hp->Prop)(h0:Pv 0 σ H)(hl:∀i σ H,i<=xs.length->Pv i σ H->SqL K H a xs)
  (hs:∀i x σ H,xs[i]? = AK x->Pv i σ H->g x σ H λσ2 H2=>tb { D with nx:=Pv (i+1),ct:=Pv (i+1),bk:=D.nx } σ2 H2) (hd:∀σ H,Pv xs.length σ H->D.nx σ H) :
  ∃W:Nat->Nat->St->Hp->Prop,(∃m,W 0 m σ H)/\∀i m σ H,W i m σ H ->
   ((Itl K a).stop i H/\D.nx σ H)\/((Itl K a).go i H/\∃N:St->Hp->Prop,(∀σ' H',N σ' H'->∃m',m'<m/\W (i+1) m' σ' H')/\∀x H',(Itl K a).yld i H x H'->g x σ H' λσ2 H2=>tb { D with nx:=N,ct:=N,bk:=D.nx } σ2 H2):=by
 refine#[λi m σ H=>m=xs.length - i/\i<=xs.length/\Pv i σ H,#[xs.length,by simp,aD _,h0],?_];rintro i m σ H ⟨rfl,hi,p⟩;have q:=hl i σ H hi p;by_cases hlt:i<xs.length
 ·refine .inr #[#[xs,xs[i],q,by simp [hlt]],Pv (i+1),λσ' H' p'=>#[xs.length - (i+1),by lia,rfl,hlt,p'],λx H' y=>?_];obtain⟨e,y⟩:=y;subst e;exact hs i x σ _ (y xs q) p
 ·have e:i=xs.length:=by lia
  subst e;exact .inl #[#[xs,q,al _],hd σ H p]
theorem zbx{K:rT}{a:rV}{xs:List V}{g:TG}{tb:TS}{D:vq}{σ:St}{H:Hp}(Pv:Nat->St->Hp->Prop)(h0:Pv 0 σ H)(hl:∀i σ H,i<=xs.length->Pv i σ H->SqT K H a xs)
  (hs:∀i x σ H,xs[i]? = AK x->Pv i σ H->g x σ H λσ2 H2=>tb { D with nx:=Pv (i+1),ct:=Pv (i+1),bk:=D.nx } σ2 H2) (hd:∀σ H,Pv xs.length σ H->D.nx σ H) :
  ∃W:Nat->Nat->St->Hp->Prop,(∃m,W 0 m σ H)/\∀i m σ H,W i m σ H ->
   ((Itt K a).stop i H/\D.nx σ H)\/((Itt K a).go i H/\∃N:St->Hp->Prop,(∀σ' H',N σ' H'->∃m',m'<m/\W (i+1) m' σ' H')/\∀x H',(Itt K a).yld i H x H'->g x σ H' λσ2 H2=>tb { D with nx:=N,ct:=N,bk:=D.nx } σ2 H2):=by
 refine#[λi m σ H=>m=xs.length - i/\i<=xs.length/\Pv i σ H,#[xs.length,by simp,aD _,h0],?_];rintro i m σ H ⟨rfl,hi,p⟩;have q:=hl i σ H hi p;by_cases hlt:i<xs.length
 ·refine .inr #[#[xs,xs[i],q,by simp [hlt]],Pv (i+1),λσ' H' p'=>#[xs.length - (i+1),by lia,rfl,hlt,p'],λx H' y=>?_];obtain⟨e,y⟩:=y;subst e;exact hs i x σ _ (y xs q) p
 ·have e:i=xs.length:=by lia
  subst e;exact .inl #[#[xs,q,al _],hd σ H p]
theorem V8{lo:Int}{n:Nat}{g:TG}{tb:TS}{D:vq}{σ:St}{H:Hp}(Pv:Nat->St->Hp->Prop)(h0:Pv 0 σ H)
  (hs:∀i σ H,i<n->Pv i σ H->g (.int (lo+i)) σ H λσ2 H2=>tb { D with nx:=Pv (i+1),ct:=Pv (i+1),bk:=D.nx } σ2 H2) (hd:∀σ H,Pv n σ H->D.nx σ H) :
  ∃W:Nat->Nat->St->Hp->Prop,(∃m,W 0 m σ H)/\∀i m σ H,W i m σ H ->
   ((Itr lo n).stop i H/\D.nx σ H)\/((Itr lo n).go i H/\∃N:St->Hp->Prop,(∀σ' H',N σ' H'->∃m',m'<m/\W (i+1) m' σ' H')/\∀x H',(Itr lo n).yld i H x H'->g x σ H' λσ2 H2=>tb { D with nx:=N,ct:=N,bk:=D.nx } σ2 H2):=by
 refine#[λi m σ H=>m=n - i/\i<=n/\Pv i σ H,#[n,by simp,aD _,h0],?_];rintro i m σ H ⟨rfl,hi,p⟩;by_cases hlt:i<n
 ·refine .inr #[hlt,Pv (i+1),λσ' H' p'=>#[n - (i+1),by lia,rfl,hlt,p'],λx H' y=>?_];obtain⟨e,y⟩:=y;subst e y;exact hs i σ _ hlt p
 ·have e:i=n:=by lia
  subst e;exact .inl #[al _,hd σ H p]
end L2
namespace L2
noncomputable abbrev R2:=V->V->Hp->VK->Prop
def OpR(X:Cx)(f:rW->rW->AD rW)(r:R2):Prop :=
 ∀(AO:List (rV × sI)) (s:rX) (σ:St) (H:Hp) (x y:V) (v u:rW) (Q:VK),Inv X AO σ H s->RelV x v->RelV y u->r x y H Q ->
  rZ (model X.prog X.w) X.A (f v u) (EP X AO σ Q) X.xe s
def UnR(X:Cx)(f:rW->AD rW)(r:V->Hp->VK->Prop):Prop :=
 ∀(AO:List (rV × sI)) (s:rX) (σ:St) (H:Hp) (x:V) (v:rW) (Q:VK),Inv X AO σ H s->RelV x v->r x H Q ->
  rZ (model X.prog X.w) X.A (f v) (EP X AO σ Q) X.xe s
def vP(X:Cx)(f:rW)(r:List V->Hp->VK->Prop):Prop :=
 ∀(AO:List (rV × sI)) (s:rX) (σ:St) (H:Hp) (xs:List V) (us:List rW) (Q:VK),Inv X AO σ H s->Vals xs us->r xs H Q ->
  rZ (model X.prog X.w) X.A (call f us) (EP X AO σ Q) X.xe s
def zgm(X:Cx)(r:V->Hp->(Bool->Hp->Prop)->Prop):Prop :=
 ∀(AO:List (rV × sI)) (s:rX) (σ:St) (H:Hp) (x:V) (v:rW) (Q:Bool->Hp->Prop),Inv X AO σ H s->RelV x v->r x H Q ->
  rZ (model X.prog X.w) X.A (truthy v) (TP X AO σ Q) X.xe s
def tOp(r:R2)(ta tb:TE):TE:=λσ H Q=>ta σ H λx H1=>tb σ H1 λy H2=>r x y H2 Q
def tUn(r:V->Hp->VK->Prop)(ta:TE):TE:=λσ H Q=>ta σ H λx H1=>r x H1 Q
def rI(C:Int->Int->Prop)(g:Int->Int->V):R2:=λx y H Q=>onInt x λi=>onInt y λj=>C i j/\Q (g i j) H
def rI0(g:Int->Int->V):R2:=λx y H Q=>onInt x λi=>onInt y λj=>Q (g i j) H
def rU(g:Int->V):V->Hp->VK->Prop:=λx H Q=>onInt x λi=>Q (g i) H
section
variable{X:Cx}{a b c:so}{ta tb tc:TE}{pos:sY}
theorem zfG(ha:PE X a ta)(hb:PE X b tb){AO:List (rV × sI)}{s:rX}{σ:St}{H:Hp}{R:V->V->Hp->Prop}(I:Inv X AO σ H s)
  (h:ta σ H λx H1=>tb σ H1 λy H2=>R x y H2) {Q:rW->rX->Prop} {f:rW->rW->AD rW}
  (hf:∀v u s2 x y H2,Inv X AO σ H2 s2->RelV x v->RelV y u->R x y H2->rZ (model X.prog X.w) X.A (f v u) Q X.xe s2) :
  rZ (model X.prog X.w) X.A (eval a X.env) (λv s₁=>rZ (model X.prog X.w) X.A (eval b X.env) (λu s₂=>rZ (model X.prog X.w) X.A (f v u) Q X.xe s₂) X.xe s₁) X.xe s:=by
 refine thn (ha AO s σ H _ I h) λv s1 ⟨x,H1,I1,r1,q1⟩=>?_;refine thn (hb AO s1 σ H1 _ I1 q1) λu s2 ⟨y,H2,I2,r2,q2⟩=>?_;exact hf v u s2 x y H2 I2 r1 r2 q2
theorem zA{op:Operator}{r:R2}(ho:OpR X (binaryOp op) r)(ha:PE X a ta)(hb:PE X b tb):PE X (.BinOp a op b pos) (tOp r ta tb):=by
 intro AO s σ H Q I h;exact wpAny_BinOp (zfG ha hb I h λv u s2 x y H2 I2 rx ry q=>ho AO s2 σ H2 x y v u Q I2 rx ry q)
theorem zeM{op:UnaryOp}{r:V->Hp->VK->Prop}(ho:UnR X (unaryOp op) r)(ha:PE X a ta):PE X (.UnaryOp op a pos) (tUn r ta):=by
 intro AO s σ H Q I h;exact UnaryOp_ (thn (ha AO s σ H _ I h) λv s1 ⟨x,H1,I1,r1,q1⟩=>ho AO s1 σ H1 x v Q I1 r1 q1)
theorem opI{f:rW->rW->AD rW}{C:Int->Int->Prop}{g:Int->Int->Int}
  (rule:∀(i j:Int) (t u:tP) (s:rX) (Q:rW->rX->Prop) (E:rW->rX->Prop),C i j->Q (.int (g i j) s.toks) { s with toks:=s.toks+1 }->rZ (model X.prog X.w) X.A (f (.int i t) (.int j u)) Q E s) :
  OpR X f (rI C λi j=>.int (g i j)):=by
 intro AO s σ H x y v u Q I rx ry h;obtain⟨i,rfl,h2⟩:=onInt.of h;obtain⟨j,rfl,hc,q⟩:=onInt.of h2;obtain⟨t,rfl⟩:=rx;obtain⟨t',rfl⟩:=ry;exact rule i j t t' s _ _ hc #[.int (g i j),H,I.tok _,#[_,rfl],q]
theorem zfQ{f:rW->rW->AD rW}{g:Int->Int->Int}
  (rule:∀(i j:Int) (t u:tP) (s:rX) (Q:rW->rX->Prop) (E:rW->rX->Prop),Q (.int (g i j) s.toks) { s with toks:=s.toks+1 }->rZ (model X.prog X.w) X.A (f (.int i t) (.int j u)) Q E s) :
  OpR X f (rI0 λi j=>.int (g i j)):=by
 intro AO s σ H x y v u Q I rx ry h;obtain⟨i,rfl,h2⟩:=onInt.of h;obtain⟨j,rfl,q⟩:=onInt.of h2;obtain⟨t,rfl⟩:=rx;obtain⟨t',rfl⟩:=ry;exact rule i j t t' s _ _ #[.int (g i j),H,I.tok _,#[_,rfl],q]
theorem zer{f:rW->rW->AD rW}{g:Int->Int->Bool}
  (rule:∀(i j:Int) (t u:tP) (s:rX) (Q:rW->rX->Prop) (E:rW->rX->Prop),Q (.bool (g i j)) s->rZ (model X.prog X.w) X.A (f (.int i t) (.int j u)) Q E s) :
  OpR X f (rI0 λi j=>.bl (g i j)):=by
 intro AO s σ H x y v u Q I rx ry h;obtain⟨i,rfl,h2⟩:=onInt.of h;obtain⟨j,rfl,q⟩:=onInt.of h2;obtain⟨t,rfl⟩:=rx;obtain⟨t',rfl⟩:=ry;exact rule i j t t' s _ _ #[.bl (g i j),H,I,rfl,q]
def zgl(i j:Int):Prop:=0<j/\j<1073741824
def ze9(i j:Int):Prop:=0<=j/\j<=1000000/\i.natAbs<2 ^ 64
def CMul(i j:Int):Prop:=(-(2 ^ 64)<i/\i<2 ^ 64)\/(-(2 ^ 64)<j/\j<2 ^ 64)
theorem CMul.ok{i j:Int}(h:CMul i j):IntMulOk i j:=by
 rcases h with ⟨h1,h2⟩ | ⟨h1,h2⟩
 ·exact .of_left (intBits_le_64 h1 h2)
 ·exact .of_right (intBits_le_64 h1 h2)
theorem yb:OpR X (binaryOp .Add) (rI0 λi j=>.int (i+j)):=zfQ λ_ _ _ _ _ _ _ q=>add_int q
theorem qA:OpR X (binaryOp .Sub) (rI0 λi j=>.int (i - j)):=zfQ λ_ _ _ _ _ _ _ q=>sub_int q
theorem qU:OpR X (binaryOp .Mult) (rI CMul λi j=>.int (i * j)):=opI λ_ _ _ _ _ _ _ hc q=>mul_int q hc.ok
theorem yV:OpR X (binaryOp .FloorDiv) (rI zgl λi j=>.int (i / j)):=opI λi j _ _ _ _ _ hc q=>by
 have h1:(0:Int)<j:=hc.1;have h2:j<1073741824:=hc.2;exact floordiv_int (by lia) (by rw[Int.fdiv_eq_ediv_of_nonneg i (by lia)];exact q) (.inl (PyProof.noPylong_small (by lia)))
theorem yK:OpR X (binaryOp .Mod) (rI (λ_ j=>0<j) λi j=>.int (i % j)):=opI λi j _ _ _ _ _ hc q=>by
 have h1:(0:Int)<j:=hc;exact mod_int' (by lia) (by rw[Int.fmod_eq_emod_of_nonneg i (by lia)];exact q)
theorem VZ:OpR X (binaryOp .Pow) (rI ze9 λi j=>.int (i ^ j.toNat)):=opI λ_ _ _ _ _ _ _ hc q=>pow_int_small hc.1 hc.2.1 hc.2.2 q
theorem unI{f:rW->AD rW}{g:Int->Int}
  (rule:∀(i:Int) (t:tP) (s:rX) (Q:rW->rX->Prop) (E:rW->rX->Prop),Q (.int (g i) s.toks) { s with toks:=s.toks+1 }->rZ (model X.prog X.w) X.A (f (.int i t)) Q E s) :
  UnR X f (rU λi=>.int (g i)):=by
 intro AO s σ H x v Q I rx h;obtain⟨i,rfl,q⟩:=onInt.of h;obtain⟨t,rfl⟩:=rx;exact rule i t s _ _ #[.int (g i),H,I.tok _,#[_,rfl],q]
theorem zc6:UnR X (unaryOp .USub) (rU λi=>.int (-i)):=unI λ_ _ _ _ _ q=>neg_int q
end
noncomputable def QK:V->V->Bool
 | .non,.non=>AM | .non,.int _=>AM | .int _,.non=>AM | .non,.bl _=>AM | .bl _,.non=>AM | .non,.str _=>AM | .str _,.non=>AM
 | .int _,.int _=>AM | .bl _,.bl _=>AM | .str _,.str _=>AM | .byt _,.byt _=>AM
 | .int _,.str _=>AM | .str _,.int _=>AM | .bl _,.str _=>AM | .str _,.bl _=>AM
 | _,_=>AN
def rEq:R2:=λx y H Q=>match x,y with | .int a,.int b=>Q (.bl (decide (a=b))) H | .str a,.str b=>Q (.bl (decide (a=b))) H | x,y=>QK x y=AM/\Q (.bl (decide (x=y))) H
theorem rEq_is{x y:V}{H:Hp}{Q:VK}:rEq x y H Q=(QK x y=AM/\Q (.bl (decide (x=y))) H):=by
 unfold rEq;split <;> simp [QK]
def rNe:R2:=λx y H Q=>match x,y with | .int a,.int b=>Q (.bl (!decide (a=b))) H | .str a,.str b=>Q (.bl (!decide (a=b))) H | x,y=>QK x y=AM/\Q (.bl (!decide (x=y))) H
theorem rNe_is{x y:V}{H:Hp}{Q:VK}:rNe x y H Q=(QK x y=AM/\Q (.bl (!decide (x=y))) H):=by
 unfold rNe;split <;> simp [QK]
theorem Qp{i j:Int}:decide (V.int i=V.int j)=(i == j):=by
 rw[cY];simp
theorem zau{i j:Bool}:decide (V.bl i=V.bl j)=(i == j):=by
 rw[cY];simp
theorem VV{i j:si}:decide (V.str i=V.str j)=(i == j):=by
 rw[cY];simp
theorem Uq{i j:Array UInt8}:decide (V.byt i=V.byt j)=(i.toList == j.toList):=by
 rw[cY];cases i;cases j;simp
section
variable{X:Cx}{a b c:so}{ta tb tc:TE}{pos:sY}
theorem zN{AO:List (rV × sI)}{σ:St}{H:Hp}{s:rX}{Q:VK}{k k':Bool}(I:Inv X AO σ H s)(q:Q (.bl k) H)(e:k=k'):EP X AO σ Q (.bool k') s:=by
 subst e;exact#[.bl k,H,I,rfl,q]
theorem xM:OpR X (su .Eq) rEq:=by
 intro AO s σ H x y v u Q I rx ry h;obtain⟨hs,q⟩:=rEq_is.mp h
 cases x with
 | non =>
  cases rx
  cases y with
  | non=>cases ry;exact PySem.EqNone.eq_none_none (zN I q (by simp))
  | bl j=>cases ry;exact PySem.EqNone.eq_none_bool (zN I q (by simp))
  | int j=>obtain⟨t',rfl⟩:=ry;exact PySem.EqNone.eq_none_int (zN I q (by simp))
  | str j=>obtain⟨t',rfl⟩:=ry;exact PySem.EqNone.eq_none_str (zN I q (by simp))
  | _=>exact absurd (show AN=AM from hs) ay
 | bl i =>
  cases rx
  cases y with
  | non=>cases ry;exact PySem.EqNone.eq_bool_none (zN I q (by simp))
  | bl j=>cases ry;exact eq_bool (zN I q zau)
  | str j=>obtain⟨t',rfl⟩:=ry;exact PySem.EqMixed.eq_bool_str (zN I q (by simp))
  | _=>exact absurd (show AN=AM from hs) ay
 | int i =>
  obtain⟨t,rfl⟩:=rx
  cases y with
  | non=>cases ry;exact PySem.EqNone.eq_int_none (zN I q (by simp))
  | int j=>obtain⟨t',rfl⟩:=ry;exact eq_int (zN I q Qp)
  | str j=>obtain⟨t',rfl⟩:=ry;exact PySem.EqMixed.eq_int_str (zN I q (by simp))
  | _=>exact absurd (show AN=AM from hs) ay
 | str i =>
  obtain⟨t,rfl⟩:=rx
  cases y with
  | non=>cases ry;exact PySem.EqNone.eq_str_none (zN I q (by simp))
  | bl j=>cases ry;exact PySem.EqMixed.eq_str_bool (zN I q (by simp))
  | int j=>obtain⟨t',rfl⟩:=ry;exact PySem.EqMixed.eq_str_int (zN I q (by simp))
  | str j=>obtain⟨t',rfl⟩:=ry;exact eq_str (zN I q VV)
  | _=>exact absurd (show AN=AM from hs) ay
 | byt i =>
  obtain⟨t,rfl⟩:=rx
  cases y with
  | byt j=>obtain⟨t',rfl⟩:=ry;exact PySem.W.eq_bytes (zN I q Uq)
  | _=>exact absurd (show AN=AM from hs) ay
 | _=>cases y <;> exact absurd (show AN=AM from hs) ay
theorem Yy:OpR X (su .NotEq) rNe:=by
 intro AO s σ H x y v u Q I rx ry h;obtain⟨hs,q⟩:=rNe_is.mp h
 cases x with
 | non =>
  cases rx
  cases y with
  | non=>cases ry;exact PySem.EqNone.ne_none_none (zN I q (by simp))
  | bl j=>cases ry;exact PySem.EqNone.ne_none_bool (zN I q (by simp))
  | int j=>obtain⟨t',rfl⟩:=ry;exact PySem.EqNone.ne_none_int (zN I q (by simp))
  | str j=>obtain⟨t',rfl⟩:=ry;exact PySem.EqNone.ne_none_str (zN I q (by simp))
  | _=>exact absurd (show AN=AM from hs) ay
 | bl i =>
  cases rx
  cases y with
  | non=>cases ry;exact PySem.EqNone.ne_bool_none (zN I q (by simp))
  | bl j=>cases ry;exact ne_bool (zN I q (congrArg not zau))
  | str j=>obtain⟨t',rfl⟩:=ry;exact PySem.EqMixed.ne_bool_str (zN I q (by simp))
  | _=>exact absurd (show AN=AM from hs) ay
 | int i =>
  obtain⟨t,rfl⟩:=rx
  cases y with
  | non=>cases ry;exact PySem.EqNone.ne_int_none (zN I q (by simp))
  | int j=>obtain⟨t',rfl⟩:=ry;exact ne_int (zN I q (congrArg not Qp))
  | str j=>obtain⟨t',rfl⟩:=ry;exact PySem.EqMixed.ne_int_str (zN I q (by simp))
  | _=>exact absurd (show AN=AM from hs) ay
 | str i =>
  obtain⟨t,rfl⟩:=rx
  cases y with
  | non=>cases ry;exact PySem.EqNone.ne_str_none (zN I q (by simp))
  | bl j=>cases ry;exact PySem.EqMixed.ne_str_bool (zN I q (by simp))
  | int j=>obtain⟨t',rfl⟩:=ry;exact PySem.EqMixed.ne_str_int (zN I q (by simp))
  | str j=>obtain⟨t',rfl⟩:=ry;exact ne_str (zN I q (congrArg not VV))
  | _=>exact absurd (show AN=AM from hs) ay
 | byt i =>
  obtain⟨t,rfl⟩:=rx
  cases y with
  | byt j=>obtain⟨t',rfl⟩:=ry;exact PySem.W.ne_bytes (zN I q (congrArg not Uq))
  | _=>exact absurd (show AN=AM from hs) ay
 | _=>cases y <;> exact absurd (show AN=AM from hs) ay
theorem QP:OpR X (su .Lt) (rI0 λi j=>.bl (decide (i<j))):=zer λ_ _ _ _ _ _ _ q=>lt_int q
theorem zd9:OpR X (su .LtE) (rI0 λi j=>.bl (decide (i<=j))):=zer λ_ _ _ _ _ _ _ q=>le_int q
theorem Kk:OpR X (su .Gt) (rI0 λi j=>.bl (decide (j<i))):=zer λ_ _ _ _ _ _ _ q=>gt_int q
theorem zfl:OpR X (su .GtE) (rI0 λi j=>.bl (decide (j<=i))):=zer λ_ _ _ _ _ _ _ q=>ge_int q
theorem UE:OpR X (su .Lt) (λx y H Q=>∃i j,x=.str i/\y=.str j/\Q (.bl (decide (i.cps.toList<j.cps.toList))) H):=by
 intro AO s σ H x y v u Q I rx ry h;obtain⟨i,j,rfl,rfl,q⟩:=h;obtain⟨t,rfl⟩:=rx;obtain⟨t',rfl⟩:=ry;exact lt_str (zN I q rfl)
theorem zdv:OpR X (su .Is) (λx y H Q=>y=.non/\Q (.bl (decide (x=.non))) H):=by
 intro AO s σ H x y v u Q I rx ry h;obtain⟨rfl,q⟩:=h;cases ry;refine is_none_gen (zN I q ?_)
 cases x <;> first
  | (cases rx;rfl)
  | (obtain⟨t,rfl⟩:=rx;rfl)
theorem zcv:OpR X (su .IsNot) (λx y H Q=>y=.non/\Q (.bl (!decide (x=.non))) H):=by
 intro AO s σ H x y v u Q I rx ry h;obtain⟨rfl,q⟩:=h;cases ry;refine isnot_none_gen (zN I q ?_)
 cases x <;> first
  | (cases rx;rfl)
  | (obtain⟨t,rfl⟩:=rx;rfl)
theorem zB(b:so){op:tJ}(h:op≠.In:=by decide)(h2:op≠.NotIn:=by decide):behindInMarks op b=AN:=by
 have e1:(op == CmpOp.In)=AN:=by cases op <;> first | rfl | exact absurd rfl h
 have e2:(op == CmpOp.NotIn)=AN:=by cases op <;> first | rfl | exact absurd rfl h2
 cases b <;> simp [behindInMarks,e1,e2]
theorem yX{op:tJ}{r:R2}(ho:OpR X (su op) r)(ha:PE X a ta)(hb:PE X b tb)(hm:behindInMarks op b=AN):PE X (.Compare a [op] [b] pos) (tOp r ta tb):=by
 intro AO s σ H Q I h;exact wpAny_Compare1 (zfG ha hb I h λv u s2 x y H2 I2 rx ry q=>ho AO s2 σ H2 x y v u Q I2 rx ry q) hm
def Ur(t:TE):TT:=λσ H Q=>t σ H λx H'=>onBl x λk=>Q k H'
theorem zy{op:tJ}{r:R2}(ho:OpR X (su op) r)(ha:PE X a ta)(hb:PE X b tb)(hm:behindInMarks op b=AN):PT X (.Compare a [op] [b] pos) (Ur (tOp r ta tb)):=by
 intro AO s σ H Q I h
 refine wpAny_isTrue_Compare1 (thn (ha AO s σ H _ I h) λv s1 ⟨x,H1,I1,r1,q1⟩=>thn (hb AO s1 σ H1 _ I1 q1) λu s2 ⟨y,H2,I2,r2,q2⟩ =>
  thn (ho AO s2 σ H2 x y v u _ I2 r1 r2 q2) λc s3 ⟨z,H3,I3,r3,q3⟩=>?_) hm
 obtain⟨k,rfl,q3⟩:=onBl.of q3;cases r3;exact sH #[H3,I3,q3]
def Z3(r r':R2)(ta tb tc:TE):TE:=λσ H Q=>ta σ H λx H1=>tb σ H1 λy H2=>r x y H2 λz H3=>onBl z λk =>
 (if k=AM then tc σ H3 λw' H4=>r' y w' H4 Q else Q (.bl AN) H3)
theorem Jz{op op':tJ}{r r':R2}(ho:OpR X (su op) r)(ho':OpR X (su op') r')(ha:PE X a ta)(hb:PE X b tb)(hc:PE X c tc)
  (hm:lastMarks [op,op'] [b,c]=AN:=by with_unfolding_all rfl):PE X (.Compare a [op,op'] [b,c] pos) (Z3 r r' ta tb tc):=by
 intro AO s σ H Q I h
 refine Compare_chain (thn (ha AO s σ H _ I h) λv s1 ⟨x,H1,I1,r1,q1⟩=>chain_link (thn (hb AO s1 σ H1 _ I1 q1) λu s2 ⟨y,H2,I2,r2,q2⟩ =>
  thn (ho AO s2 σ H2 x y v u _ I2 r1 r2 q2) λd s3 ⟨z,H3,I3,r3,q3⟩=>?_)) hm
 obtain⟨k,rfl,q3⟩:=onBl.of q3;cases r3;refine sH ?_
 cases k with
 | false=>exact ite_ff #[.bl AN,H3,I3,rfl,q3]
 | true=>exact ite_tt (chain_last (thn (hc AO s3 σ H3 _ I3 q3) λw' s4 ⟨z',H4,I4,r4,q4⟩=>ho' AO s4 σ H4 y z' u w' Q I4 r2 r4 q4))
theorem v0{op op':tJ}{r r':R2}(ho:OpR X (su op) r)(ho':OpR X (su op') r')(ha:PE X a ta)(hb:PE X b tb)(hc:PE X c tc)
  (hm:lastMarks [op,op'] [b,c]=AN:=by with_unfolding_all rfl):PT X (.Compare a [op,op'] [b,c] pos) (Ur (Z3 r r' ta tb tc)):=by
 intro AO s σ H Q I h
 refine isTrue_chain (thn (ha AO s σ H _ I h) λv s1 ⟨x,H1,I1,r1,q1⟩=>test_link (thn (hb AO s1 σ H1 _ I1 q1) λu s2 ⟨y,H2,I2,r2,q2⟩ =>
  thn (ho AO s2 σ H2 x y v u _ I2 r1 r2 q2) λd s3 ⟨z,H3,I3,r3,q3⟩=>?_)) hm
 obtain⟨k,rfl,q3⟩:=onBl.of q3;cases r3;refine sH ?_
 cases k with
 | false =>
  exact ite_ff #[H3,I3,q3]
 | true =>
  refine ite_tt (test_last (thn (hc AO s3 σ H3 _ I3 q3) λw' s4 ⟨z',H4,I4,r4,q4⟩=>thn (ho' AO s4 σ H4 y z' u w' _ I4 r2 r4 q4) λd' s5 ⟨z2,H5,I5,r5,q5⟩=>?_));obtain⟨k2,rfl,q5⟩:=onBl.of q5;cases r5;exact sH #[H5,I5,q5]
def zaf(K:rT)(x:V)(H:Hp)(k:Bool):Prop :=
 match x with
 | .non=>k=AN
 | .bl b=>k=b
 | .int i=>k=(i != 0)
 | .str y=>y.length<=rS/\k=((y.length:Int) != 0)
 | .byt y=>y.size<=rS/\k=((y.size:Int) != 0)
 | .ref p=>(∃xs,SqL K H p xs/\k=!xs.isEmpty)\/(∃xs,SqT K H p xs/\k=!xs.isEmpty)\/∃kvs,H p=AK (.dK kvs)/\k=!kvs.isEmpty
 | _=>False
theorem Vm{κ:Type}{kvs:List (κ × V)}{vs:List (κ × rW)}(r:KV kvs vs):(!vs.isEmpty)=!kvs.isEmpty:=by
 cases r <;> rfl
theorem ke{xs:List V}{its:List rW}(r:Vals xs its):(!its.toArray.isEmpty)=!xs.isEmpty:=by
 cases r <;> simp
theorem Yg:(rS:Nat)<2 ^ 63:=by rw[sF];decide
theorem K8:zgm X (λx H Q=>∃k,zaf X.K x H k/\Q k H):=by
 intro AO s σ H x v Q I rx h;obtain⟨k,e,q⟩:=h;have hl:=Yg;have hs:rS=16777216:=sF
 cases x with
 | non =>
  cases rx;have e':k=AN:=e;subst e';exact truthy_none #[H,I,q]
 | bl b =>
  cases rx;have e':k=b:=e;subst e';exact sH #[H,I,q]
 | int i =>
  obtain⟨t,rfl⟩:=rx;have e':k=(i != 0):=e;subst e';exact PySem.P.truthy_int #[H,I,q]
 | str y =>
  obtain⟨t,rfl⟩:=rx;obtain⟨hy,e'⟩:y.length<=rS/\k=((y.length:Int) != 0):=e;subst e';exact PySem.P.truthy_str (by lia) #[H,I.tok _,q]
 | byt y =>
  obtain⟨t,rfl⟩:=rx;obtain⟨hy,e'⟩:y.size<=rS/\k=((y.size:Int) != 0):=e;subst e';exact PySem.W.truthy_bytes (by lia) #[H,I.tok _,q]
 | ref p =>
  cases rx;have e':(∃xs,SqL X.K H p xs/\k=!xs.isEmpty)\/(∃xs,SqT X.K H p xs/\k=!xs.isEmpty)\/∃kvs,H p=AK (.dK kvs)/\k=!kvs.isEmpty:=e;rcases e' with ⟨xs,hx,e'⟩ | ⟨xs,hx,e'⟩ | ⟨kvs,hx,e'⟩
  ·subst e';obtain⟨its,r,pl,hz⟩:=I.list hx;have hlen:=r.length;exact wpAny_truthy_list pl.isList (by simp only[ak];lia) #[H,I.tok _,by rw[ke r];exact q]
  ·subst e';obtain⟨its,r,pl,hz⟩:=I.tuple hx;have hlen:=r.length;exact truthy_tuple pl (by simp only[ak];lia) #[H,I.tok _,by rw[ke r];exact q]
  ·subst e';obtain⟨hz,hS,vs,r,m⟩:kvs.length<=rS/\(p == sysModules)=AN/\∃vs,KV kvs vs/\s.heap.DictOf (Y6 X.prog X.w) p vs:=I.hok p _ hx;have hlen:kvs.length=vs.length:=Paired.length r;exact wpAny_truthy_dict hS m (by lia) #[H,I.tok _,by rw[Vm r];exact q]
 | _=>exact (show False from e).elim
theorem XA(ha:PE X a ta)(he:∀whole,isTrue a X.env whole=(do let v <- whole;standAt a.pos;holding [v] (truthy v))) :
  PT X a (λσ H Q=>ta σ H λx H'=>∃k,zaf X.K x H' k/\Q k H'):=by
 intro AO s σ H Q I h;exact isTrue_plain (thn (ha AO s σ H _ I h) λv s1 ⟨x,H1,I1,r1,q1⟩=>K8 AO s1 σ H1 x v Q I1 r1 q1) (he _)
theorem yt:OpR X (binaryOp .Add) (λx y H Q=>∃i j,x=.str i/\y=.str j/\i.length+j.length<=rS/\Q (.str (i ++ j)) H):=by
 intro AO s σ H x y v u Q I rx ry h;obtain⟨i,j,rfl,rfl,hz,q⟩:=h;obtain⟨t,rfl⟩:=rx;obtain⟨t',rfl⟩:=ry;exact add_str (λt' tk=>#[.str (i ++ j),H,I.tok _,#[_,rfl],q]) hz
theorem vn{x:V}{us:List rW}(r:Vals [x] us):∃u,us=[u]/\RelV x u:=by
 cases r with
 | cons r1 r2=>cases r2;exact#[_,rfl,r1]
theorem VR{x y:V}{us:List rW}(r:Vals [x,y] us):∃u w',us=[u,w']/\RelV x u/\RelV y w':=by
 cases r with
 | cons r1 r2 =>
  cases r2 with
  | cons r3 r4=>cases r4;exact#[_,_,rfl,r1,r3]
theorem Qg(hc:X.calm=AM):vP X (.builtin "max") (λxs H Q=>∃i j,xs=[.int i,.int j]/\Q (.int (if j > i then j else i)) H):=by
 intro AO s σ H xs us Q I r h;obtain⟨i,j,rfl,q⟩:=h;obtain⟨u,w',rfl,⟨t,rfl⟩,⟨t',rfl⟩⟩:=VR r;refine max_two_ints (I.ok.hd hc) λh' tk k=>#[_,H,I.kept k,?_,q];by_cases hj:j > i
 ·rw[if_pos hj,if_pos hj];exact#[_,rfl]
 ·rw[if_neg hj,if_neg hj];exact#[_,rfl]
theorem UR:vP X (.type "int") (λxs H Q=>(∃i,xs=[.int i]/\Q (.int i) H)\/∃k,xs=[.bl k]/\Q (.int (if k then 1 else 0)) H):=by
 intro AO s σ H xs us Q I r h;rcases h with ⟨i,rfl,q⟩ | ⟨k,rfl,q⟩
 ·obtain⟨u,rfl,t,rfl⟩:=vn r;exact call_int_int #[.int i,H,I,#[_,rfl],q]
 ·obtain⟨u,rfl,r1⟩:=vn r;cases r1;exact call_int_bool #[.int (if k then 1 else 0),H,I.tok _,#[_,rfl],q]
def zdN(K:rT)(x:V)(H:Hp)(n:Nat):Prop :=
 match x with
 | .str y=>y.length<=rS/\n=y.length
 | .byt y=>y.size<=rS/\n=y.size
 | .ref p=>(∃xs,SqL K H p xs/\n=xs.length)\/∃xs,SqT K H p xs/\n=xs.length
 | _=>False
theorem JY:vP X (.builtin "len") (λxs H Q=>∃x n,xs=[x]/\zdN X.K x H n/\Q (.int n) H):=by
 intro AO s σ H xs us Q I r h;obtain⟨x,n,rfl,e,q⟩:=h;obtain⟨u,rfl,rx⟩:=vn r;have hl:=Yg;have hs:rS=16777216:=sF
 cases x with
 | str y =>
  obtain⟨t,rfl⟩:=rx;obtain⟨hy,e'⟩:y.length<=rS/\n=y.length:=e;subst e';exact len_str (by lia) #[.int _,H,I.tok _,#[_,rfl],q]
 | byt y =>
  obtain⟨t,rfl⟩:=rx;obtain⟨hy,e'⟩:y.size<=rS/\n=y.size:=e;subst e';exact PySem.W.len_bytes (by lia) #[.int _,H,I.tok _,#[_,rfl],q]
 | ref p =>
  cases rx;have e':(∃xs,SqL X.K H p xs/\n=xs.length)\/∃xs,SqT X.K H p xs/\n=xs.length:=e;rcases e' with ⟨xs,hx,e'⟩ | ⟨xs,hx,e'⟩
  ·subst e';obtain⟨its,r',pl,hz⟩:=I.list hx;have hlen:=r'.length;exact Calls.call_len_list pl.isList (by simp only[ak];lia) #[.int xs.length,H,I.tok _,#[_,by simp only[ak];rw[hlen]],q]
  ·subst e';obtain⟨its,r',pl,hz⟩:=I.tuple hx;have hlen:=r'.length;exact len_tuple pl (by simp only[ak];lia) #[.int xs.length,H,I.tok _,#[_,by simp only[ak];rw[hlen]],q]
 | _=>exact (show False from e).elim
end
end L2
namespace L2
structure ObjM(h:sq)(x dx C:rV)(mA:si->Option rW):Prop where
 obj:h.get? x=AK (cb C dx)
 ns:h.Ns1 dx mA
 ne:dx≠x
theorem Uv{h:sq}{dx:rV}{mA:si->Option rW}(n:h.Ns1 dx mA):∃od,h.get? dx=AK od/\∀name,dP name od=AK (mA name):=by
 obtain⟨o,es,ep,ho,hd,hk,_,hm⟩:=n;refine#[o,ho,λname=>?_];have e:=hm name;unfold nsFind findBy at e;rw[<- Array.find?_toList]at e;unfold dP;rw[hd];dsimp only;split
 ·rename_i y q;rw[q]at e;exact congrArg AK e
 ·rename_i q;rw[q]at e
  have a:es.toList.any (·.refKey)=AN:=by
   rw[List.any_eq_false];intro y hy;obtain⟨z,t,hkey⟩:=hk y (Array.mem_toList_iff.mp hy);simp [DictEntry.refKey,hkey]
  have a':¬ es.toList.any (·.refKey)=AM:=by rw[a];exact ay
  rw[if_neg a'];exact congrArg AK e
theorem ObjM.look{h:sq}{x dx C:rV}{mA:si->Option rW}(I:ObjM h x dx C mA):∃od,PySem.W.InstAt h x (cb C dx) C (AK od)/\∀name,dP name od=AK (mA name) :=
 let #[od,ho,hl]:=Uv I.ns
 #[od,#[I.obj,rfl,rfl,ho],hl]
section
variable{prog:sf}{w:sj}{A:sk}{E:rW->rX->Prop}{s:rX}{K:rT}{x dx C f:rV}{mA:si->Option rW}{name:si}{v:rW}
theorem zb1{expr:Bool}{Q:rW->rX->Prop}(X:K.In s.heap)(I:ObjM s.heap x dx C mA)(hg:bM K C name=AM)(hh:bH K C=AM)
  (ha:ac K (.ref C) name=AK AL) (hv:mA name=AK v) (hv':fM v=AM) (h:Q v { s with toks:=s.toks+1 }) :
  rZ (model prog w) A (getAttr (.ref x) name expr) Q E s:=by
 obtain⟨od,J,hl⟩:=I.look;exact PySem.W.get_value X J (dL hg).1 (PySem.W.findObj_own hh ha rfl (by rw[hl,hv])) hv' h
theorem J5{pl:AD Bool}{Q:rW × List rW->rX->Prop}(X:K.In s.heap)(I:ObjM s.heap x dx C mA)(hg:bM K C name=AM)
  (hf:ac K (.ref C) name=AK (AK (.ref f))) (ht:aR K (.ref f)=AM) (hv:mA name=AL) (h:Q (.ref f,[.ref x]) s) :
  rZ (model prog w) A (getMethod (.ref x) name pl) Q E s:=by
 obtain⟨od,J,hl⟩:=I.look;exact PySem.W.method_fn X J (dL hg).1 (dL hg).2 hf (beq_iff_eq.mp ht) (by show (dP name od).map (·.isSome)=AK AN;rw[hl,hv];rfl) h
theorem zbP{ns:List si}{Q:Unit->rX->Prop}(X:K.In s.heap)(I:ObjM s.heap x dx C mA)
  (hs:ac K (.ref C) "__setattr__" = AK (AK (.builtin "object.__setattr__"))) (hp:cp K C=AM) (ht:eP K C name=AK AL) (hh:bH K C=AM)
  (hw:PySem.Within mA ns) (hsz:ns.length<=rS)
  (h:∀h',ObjM h' x dx C (λy=>if y=name then AK v else mA y)->Heap.SameBut dx s.heap h'->Q () { s with heap:=h',toks:=s.toks+2 }) :
  rZ (model prog w) A (setAttr (.ref x) name v) Q E s:=by
 obtain⟨od,J,hl⟩:=I.look;refine fG X J hs (PySem.W.osa_open (s:={ s with toks:=s.toks+1 }) (r:=AL) X J hp ht λb=>?_);obtain⟨cd,hc,hd'⟩:=PySem.W.any_some hh;have hx:s.heap.get? x=AK #[.ref C,AK dx,.plain,#[]]:=I.obj;refine rO (rP (rO (rO (Ae hx (rO (PySem.W.Looks.here (s:={ s with toks:=s.toks+1 }) (PySem.W.looks_clsIn X hc) ?_))))));rw[hd'];refine rP (a:=AK dx) (rO (rP (rO ?_)));refine wpAny_nsSet1 (s:={ s with toks:=s.toks+1 }) I.ns λh' hn2 hs2=>?_;obtain⟨oD,esD,epD,hoD,hdD,hcD⟩:=hn2.count (PySem.Within.cons name v hw);refine rO (AA hoD (by rw[hdD];exact pastItsLine_dict (aN hcD (by rw[aI];lia))) ?_);exact rP (h _ #[(hs2.2 _ (Ne.symm I.ne)).trans I.obj,hn2,I.ne] hs2)
theorem Kt{R:Ah->rX->Prop}{vs:List rW}{kw:List (si × rW)}(X:K.In s.heap)(hm:cy K C=AM)
  (hi:ac K (.ref C) "__init__" = AK (AK (.ref f))) (hf:PySem.W.typeIn K (.ref f)=AK (.type "function"))
  (h:tB (model prog w) (A.under (.builtin "type.__call__" #[.ref C::vs,kw])) (.call (.ref f) #[.ref (s⁻¹+1)::vs,kw]) (PySem.W.InitBack (s⁻¹+1) R)
   { s with heap:=(s.heap.push bI).push (cb C s⁻¹) }) :
  tB (model prog w) A (.call (.ref C) #[vs,kw]) R s:=by
 obtain⟨hh,g,d,t,os⟩:=s;exact PySem.W.make_core (PySem.W.makes_of X hm) (cD X hi) (λself=>fO X self hf) (.inl rfl) h
end
noncomputable def ZJ(f:si)(v:V):List (si × V)->List (si × V)
  | []=>[(f,v)]
  | (g,x)::r=>if g=f then (g,v)::r else (g,x)::ZJ f v r
theorem jA(f g:si)(v:V):∀fs:List (si × V),(ZJ f v fs).lookup g=if g=f then AK v else fs.lookup g
  | []=>by
    show bf g [(f,v)]=_;by_cases h:g=f
    . have hb:(g == f)=AM:=beq_iff_eq.mpr h
      simp only[bf,hb,if_pos h]
    . have hb:(g == f)=AN:=beq_eq_false_iff_ne.mpr h
      simp only[bf,hb,if_neg h]
  | (k,x)::r=>by
    have ih:=jA f g v r;rw[show ZJ f v ((k,x)::r)=(if k=f then (k,v)::r else (k,x)::ZJ f v r)from rfl];by_cases hk:k=f
    . rw[if_pos hk]
      by_cases h:g=k
      . have hb:(g == k)=AM:=beq_iff_eq.mpr h
        simp only[bf,hb,if_pos (h.trans hk)]
      . have hb:(g == k)=AN:=beq_eq_false_iff_ne.mpr h
        simp only[bf,hb,if_neg (λe:g=f=>h (e.trans hk.symm))]
    . rw[if_neg hk]
      by_cases h:g=k
      . have hb:(g == k)=AM:=beq_iff_eq.mpr h
        simp only[bf,hb,if_neg (λe:g=f=>hk (h.symm.trans e))]
      . have hb:(g == k)=AN:=beq_eq_false_iff_ne.mpr h
        simp only[bf,hb];exact ih
theorem qH(f:si)(v:V):∀fs:List (si × V),f ∈ (ZJ f v fs).map (·.1)/\∀g,g ∈ fs.map (·.1)->g ∈ (ZJ f v fs).map (·.1)
  | []=>#[by simp [ZJ],λg h=>by simp at h]
  | (k,x)::r=>by
    obtain⟨i1,i2⟩:=qH f v r;rw[show ZJ f v ((k,x)::r)=(if k=f then (k,v)::r else (k,x)::ZJ f v r)from rfl];by_cases hk:k=f
    . rw[if_pos hk]
      subst hk;exact#[by simp,λg h=>by simpa using h]
    . rw[if_neg hk]
      refine#[?_,λg h=>?_]
      . rw[ar]
        exact am _ i1
      . rw[ar]at h ⊢
        rcases AV.mp h with e | e
        . exact AV.mpr (.inl e)
        . exact am _ (i2 g e)
theorem qJ(f:si)(v:V):∀fs:List (si × V),(ZJ f v fs).length<=fs.length+1
  | []=>by simp [ZJ]
  | (k,x)::r=>by
    have ih:=qJ f v r;rw[show ZJ f v ((k,x)::r)=(if k=f then (k,v)::r else (k,x)::ZJ f v r)from rfl];by_cases hk:k=f
    . rw[if_pos hk,aI,aI];lia
    . rw[if_neg hk,aI,aI];lia
theorem RelO.some_of{v:V}{o:Option rW}(r:RelO (AK v) o):∃u,o=AK u/\RelV v u:=by
 cases o with
 | none=>exact (show False from r).elim
 | some u=>exact#[u,rfl,r]
theorem RelO.none_of{o:Option rW}(r:RelO AL o):o=AL:=by
 cases o with
 | none=>rfl
 | some u=>exact (show False from r).elim
theorem QZ{v:V}{u:rW}(r:RelV v u):fM u=AM:=by
 cases v with
 | non=>cases (show u=Value.none from r);rfl
 | bl b=>cases (show u=Value.bool b from r);rfl
 | int i=>obtain⟨t,e⟩:=(show ∃t,u=Value.int i t from r);cases e;rfl
 | str x=>obtain⟨t,e⟩:=(show ∃t,u=Value.str x t from r);cases e;rfl
 | byt b=>obtain⟨t,e⟩:=(show ∃t,u=Value.bytes b t from r);cases e;rfl
 | flt b=>obtain⟨t,e⟩:=(show ∃t,u=Value.float b t from r);cases e;rfl
 | ref a=>cases (show u=Value.ref a from r);rfl
 | ty n=>cases (show u=Value.type n from r);rfl
section
variable{P:sf}{w:sj}{H H':Hp}{h h':sq}{a C dx:rV}{fs fs':List (si × V)}
theorem Zv(hok:HOk P w H h)(e:H a=AK (.ins C dx fs)):∃mA,ObjM h a dx C mA/\(∀f,RelO (fs.lookup f) (mA f))/\PySem.Within mA (fs.map (·.1))/\fs.length<=1000/\H dx=AK (.own a):=by
 obtain⟨d,z,ne,ob,mA,n,r,q⟩:=(show ObjOk P w H h a (.ins C dx fs)from hok a _ e);exact#[mA,#[ob,n,ne],r,q,z,d]
end
structure Cls(K:rT)(C:rV):Prop where
 pg:bM K C dW=AM
 hd:bH K C=AM
 po:cp K C=AM
 sa:ac K (.ref C) "__setattr__" = AK (AK (.builtin "object.__setattr__"))
theorem Cls.get{K:rT}{C:rV}(c:Cls K C)(f:si):bM K C f=AM:=c.pg
def NoAttr(K:rT)(C:rV)(f:si):Prop:=ac K (.ref C) f=AK AL
theorem NoAttr.taker{K:rT}{C:rV}{f:si}(n:NoAttr K C f):eP K C f=AK AL:=by
 unfold eP;rw[show ac K (.ref C) f=AK AL from n];rfl
structure zdi(K:rT)(C:rV)(m:si)(f:rV):Prop where
 at_:ac K (.ref C) m=AK (AK (.ref f))
 fn:aR K (.ref f)=AM
 kp:aH K (.ref f)=AM
section
variable{X:Cx}{AO:List (rV × sI)}{σ:St}{H:Hp}{s:rX}{a C dx:rV}{fs:List (si × V)}{f:si}{v:V}{A:sk}{E:rW->rX->Prop}
theorem Vj{b:Bool}{Q:rW->rX->Prop}(I:Inv X AO σ H s)(e:H a=AK (.ins C dx fs))(c:Cls X.K C)(n:NoAttr X.K C f)(l:fs.lookup f=AK v)
  (h:∀u s',Inv X AO σ H s'->RelV v u->Q u s'):rZ (model X.prog X.w) A (getAttr (.ref a) f b) Q E s:=by
 obtain⟨mA,O,r,_,_,_⟩:=Zv I.hok e;obtain⟨u,hu,ru⟩:=RelO.some_of (v:=v) (o:=mA f) (by rw[<- l];exact r f);exact zb1 I.kIn O (c.get f) c.hd n hu (QZ ru) (h u _ (I.tok _) ru)
theorem xI{m:si}{g:rV}{pl:AD Bool}{Q:rW × List rW->rX->Prop}(I:Inv X AO σ H s)(e:H a=AK (.ins C dx fs))(c:Cls X.K C)(k:zdi X.K C m g)(l:fs.lookup m=AL)
  (h:Q (.ref g,[.ref a]) s):rZ (model X.prog X.w) A (getMethod (.ref a) m pl) Q E s:=by
 obtain⟨mA,O,r,_,_,_⟩:=Zv I.hok e;have hn:mA m=AL:=RelO.none_of (by rw[<- l];exact r m);exact J5 I.kIn O (c.get m) k.at_ k.fn hn h
theorem WV{y:V}{u:rW}{Q:Unit->rX->Prop}(I:Inv X AO σ H s)(e:H a=AK (.ins C dx fs))(c:Cls X.K C)(n:NoAttr X.K C f)(hl:fs.length<1000)(ry:RelV y u)
  (h:∀s',Inv X AO σ (upd H a (.ins C dx (ZJ f y fs))) s'->Q () s'):rZ (model X.prog X.w) A (setAttr (.ref a) f u) Q E s:=by
 obtain⟨mA,O,r,wi,_,ho⟩:=Zv I.hok e;have hz:(fs.map (·.1)).length<=rS:=by rw[ag,sF];lia
 refine zbP I.kIn O c.sa c.po n.taker c.hd wi hz λh' O' sb=>h _ ?_;have hd:∃o,h'.get? dx=AK o:=let #[o,_,_,e',_]:=O'.ns; #[o,e'];refine I.write (x:=a) (e:=dx) (by rw[e];exact True.intro) (.inr ho) (λb q hb z=>(sb.2 b hb).trans z) hd ?_;refine#[by rw[zm O.ne];exact ho,?_,O.ne,O'.obj,_,O'.ns,λg=>?_,λg hg=>?_]
 ·have:=qJ f y fs;lia
 ·show RelO ((ZJ f y fs).lookup g) (if g=f then AK u else mA g);rw[jA];by_cases q:g=f
  ·rw[if_pos q,if_pos q];exact ry
  ·rw[if_neg q,if_neg q];exact r g
 ·by_cases q:g=f
  ·rw[q];exact (qH f y fs).1
  ·refine (qH f y fs).2 g (wi g λz=>hg ?_);show (if g=f then AK u else mA g)=AL;rw[if_neg q];exact z
theorem Inv.made(I:Inv X AO σ H s):Inv X AO σ (upd (upd H s⁻¹ (.own (s⁻¹+1))) (s⁻¹+1) (.ins C s⁻¹ []))
  { s with heap:=(s.heap.push bI).push (cb C s⁻¹) }:=by
 have e1:(s.heap.push bI).get? s⁻¹=AK bI:=aB s.heap rfl
 have e2:((s.heap.push bI).push (cb C s⁻¹)).get? (s⁻¹+1)=AK (cb C s⁻¹):=by
  have:=aB (s.heap.push bI) (o:=cb C s⁻¹) rfl
  rwa [bQ]at this
 have e3:(s.heap.push bI).Ns s⁻¹ (λ_=>AL):=#[bI,#[],_,e1,rfl,(λe he=>absurd he (by simp)),λ_=>rfl];have I1:=I.laid (a:=s⁻¹) (o:=.own (s⁻¹+1)) (h':=s.heap.push bI) (t':=s.toks) (λb u q=>aa _ q) (al _) #[_,e1];refine I1.laid (a:=s⁻¹+1) (o:=.ins C s⁻¹ []) (t':=s.toks) (λb u q=>aa _ q) (Nat.le_of_eq (bQ _ _)) ?_;have ne:s⁻¹≠s⁻¹+1:=az (eh _);refine#[by rw[zm ne,ze],aD _,ne,e2,λ_=>AL,(Heap.Ns1.of_empty e3).at λo q=>aa _ q,λ_=>True.intro,λy hy=>absurd rfl hy]
theorem zaQ{prog:sf}{w:sj}{env:Aa}{e:so}{f:si}{pos:sY}{s:rX}{Q:rW->rX->Prop}(hb:attributeBase e f env (eval e env)=eval e env)
  (h:rZ (model prog w) A (eval e env) (λo s₁=>rZ (model prog w) A (getAttr o f AM) Q E s₁) E s):rZ (model prog w) A (eval (.Attribute e f pos) env) Q E s :=
 Attribute_any_ h (by rw[arm_eval_Attribute,hb])
end
def zcM(K:rT)(ta:TE)(f:si):TE:=λσ H Q=>ta σ H λx H1=>∃a C dx fs v,x=.ref a/\H1 a=AK (.ins C dx fs)/\Cls K C/\NoAttr K C f/\fs.lookup f=AK v/\Q v H1
def zfJ(K:rT)(ta tv:TE)(f:si):TS:=λD σ H=>tv σ H λy H1=>ta σ H1 λx H2=>∃a C dx fs,x=.ref a/\H2 a=AK (.ins C dx fs)/\Cls K C/\NoAttr K C f/\fs.length<1000 /\
 D.nx σ (upd H2 a (.ins C dx (ZJ f y fs)))
section
variable{X:Cx}{o e value:so}{f:si}{pos pos' tpos:sY}{ta tv:TE}
theorem vW(he:PE X e ta)(hb:attributeBase e f X.env (eval e X.env)=eval e X.env):PE X (.Attribute e f pos) (zcM X.K ta f):=by
 intro AO s σ H Q I h;refine zaQ hb (thn (he AO s σ H _ I h) λu s1 ⟨x,H1,I1,rx,a,C,dx,fs,v,ex,ea,c,n,l,q⟩=>?_);subst ex;obtain rfl:u=Value.ref a:=rx;exact Vj I1 ea c n l λu' s2 I2 ru=>#[v,H1,I2,ru,q]
theorem kg(ha:PE X o ta)(hv:PE X value tv)(hs:swapsWith value (AK (.Attribute o f pos')) pos.line X.env=pure AN):PS X (.Assign [.Attribute o f pos'] value pos) (zfJ X.K ta tv f):=by
 intro AO s σ H D I h;refine tI (thn (hv AO s σ H _ I h) λu s1 ⟨y,H1,I1,ry,q⟩=>thn (ha AO s1 σ H1 _ I1 q) λov s2 ⟨x,H2,I2,rx,a,C,dx,fs,ex,ea,c,n,l,q2⟩=>?_) hs;subst ex;obtain rfl:ov=Value.ref a:=rx;exact WV I2 ea c n l ry λs3 I3=>#[σ,_,I3,q2]
theorem zaP{pl:AD Bool}{m:si}{apos:sY}{args:List so}{AO:List (rV × sI)}{s:rX}{σ:St}{H:Hp}{Q:rW->rX->Prop}{te:TE}(he:PE X e te)(I:Inv X AO σ H s)
    (h:te σ H λx H1=>∃a C dx fs g,x=.ref a/\H1 a=AK (.ins C dx fs)/\Cls X.K C/\zdi X.K C m g/\fs.lookup m=AL /\
      ∀s1,Inv X AO σ H1 s1->rZ (model X.prog X.w) X.A (callWith pos (.ref g) [.ref a] (sw pos (rR args X.env)) (sL pos (sv [] X.env))) Q X.xe s1)
    (ht:eval (.Call (.Attribute e m apos) args [] pos) X.env=(do
      let ov <- eval e X.env
      standAt apos.atName
      let (f,first) <- holding [ov] (getMethod ov m pl)
      callWith pos f first (sw pos (rR args X.env)) (sL pos (sv [] X.env)))) :
    rZ (model X.prog X.w) X.A (eval (.Call (.Attribute e m apos) args [] pos) X.env) Q X.xe s:=by
  refine bX (pl:=pl) (thn (he AO s σ H _ I h) λu s1 ⟨x,H1,I1,rx,a,C,dx,fs,g,ex,ea,c,k,l,q⟩=>?_) ht;subst ex;obtain rfl:u=Value.ref a:=rx;exact xI I1 ea c k l (q s1 I1)
end
section
variable{X:Cx}{AO:List (rV × sI)}{σ:St}{H:Hp}{s:rX}{A:sk}{E:rW->rX->Prop}{Q:rW->rX->Prop}{c:rW}{b:Bool}
inductive Xz(K:rT)(H:Hp):V->rW->Prop where
 | non:Xz K H .non (.type "NoneType")
 | bl (x:Bool):Xz K H (.bl x) (.type "bool")
 | int (i:Int):Xz K H (.int i) (.type "int")
 | str (x:si):Xz K H (.str x) (.type "str")
 | flt (x:UInt64):Xz K H (.flt x) (.type "float")
 | lst {a:rV} {xs:List V} (e:H a=AK (.lst xs)):Xz K H (.ref a) (.type "list")
 | frz {a:rV} {o:sI} {xs:List V} (e:H a=AK (.frz o (.lst xs))):Xz K H (.ref a) (.type "list")
 | tup {a:rV} {xs:List V} (e:H a=AK (.tup xs)):Xz K H (.ref a) (.type "tuple")
 | dK {a:rV} {kvs:List (Key × V)} (e:H a=AK (.dK kvs)):Xz K H (.ref a) (.type "dict")
 | dT {a:rV} {kvs:List (List Key × V)} (e:H a=AK (.dT kvs)):Xz K H (.ref a) (.type "dict")
 | ins {a C dx:rV} {fs:List (si × V)} (e:H a=AK (.ins C dx fs)) (cl:Cls K C) (ha:ac K (.ref C) "__class__" = AK (AK (.builtin "object.__class__")))
   (hn:cC K (.builtin "object.__class__") "__get__" = AK (AK (.builtin "getset_descriptor.__get__"))) (htk:dv K (.builtin "object.__class__")=AK AM)
   (hm:bA K C (.type "object")=AK AM):Xz K H (.ref a) (.ref C)
theorem Qj{x:V}{u t:rW}(I:Inv X AO σ H s)(rx:RelV x u)(ty:Xz X.K H x t)(e:aQ X.K t c=AK b)(h:∀tk,Q (.bool b) { s with toks:=tk }) :
  rZ (model X.prog X.w) A (call (.builtin "isinstance") [u,c]) Q E s:=by
 cases ty with
 | non=>cases (show u=Value.none from rx);exact bc PySem.W.kitx_none I.kIn True.intro e (λz=>nomatch z) h
 | bl y=>cases (show u=Value.bool y from rx);exact bc PySem.W.kitx_bool I.kIn True.intro e (λz=>nomatch z) h
 | int i=>obtain⟨t,q⟩:=(show ∃t,u=Value.int i t from rx);cases q;exact bc PySem.W.kitx_int I.kIn True.intro e (λz=>nomatch z) h
 | str y=>obtain⟨t,q⟩:=(show ∃t,u=Value.str y t from rx);cases q;exact bc PySem.W.kitx_str I.kIn True.intro e (λz=>nomatch z) h
 | flt y=>obtain⟨t,q⟩:=(show ∃t,u=Value.float y t from rx);cases q;exact bc PySem.W.kitx_float I.kIn True.intro e (λz=>nomatch z) h
 | @lst a xs ea =>
  cases (show u=Value.ref a from rx);obtain⟨_,_,n,_,h1⟩:=(show ObjOk X.prog X.w H s.heap a (.lst xs)from I.hok a _ ea);exact bc d7 I.kIn #[_,h1,rfl] e (λz=>nomatch z) h
 | @frz a ob xs ea =>
  cases (show u=Value.ref a from rx);obtain⟨_,_,_,n,_,h1⟩:=(show ObjOk X.prog X.w H s.heap a (.frz ob (.lst xs))from I.hok a _ ea);exact bc d7 I.kIn #[_,h1,rfl] e (λz=>nomatch z) h
 | @tup a xs ea =>
  cases (show u=Value.ref a from rx);obtain⟨_,_,_,p⟩:=(show ObjOk X.prog X.w H s.heap a (.tup xs)from I.hok a _ ea);obtain⟨o,h1,h2,_⟩:=p;exact bc fz I.kIn #[o,h1,h2] e (λz=>nomatch z) h
 | @dK a kvs ea =>
  cases (show u=Value.ref a from rx);obtain⟨_,_,vs,_,p⟩:=(show ObjOk X.prog X.w H s.heap a (.dK kvs)from I.hok a _ ea);obtain⟨o,es,ep,h1,h2,_⟩:=p;exact bc fH I.kIn #[o,h1,h2.1] e (λz=>nomatch z) h
 | @dT a kvs ea =>
  cases (show u=Value.ref a from rx);obtain⟨_,_,xs,_,o,es,ep,h1,h2,_⟩:=(show ObjOk X.prog X.w H s.heap a (.dT kvs)from I.hok a _ ea);exact bc fH I.kIn #[o,h1,h2.1] e (λz=>nomatch z) h
 | @ins a C dx fs ea cl ha hn htk hm =>
  cases (show u=Value.ref a from rx);obtain⟨mA,O,_⟩:=Zv I.hok ea;obtain⟨od,J,_⟩:=O.look;exact bc (PySem.W.kitx_own (cl.get _) cl.hd ha hn htk hm) I.kIn J e (λz=>nomatch z) h
end
end L2
namespace L2
structure Room(k:Nat)(A:sk):Prop where
 hd:A.handled=AL
 dp:A.depth+3 * k+5<Af
 un:A.units+16 * k+200<cLine
theorem Room.mono{j k:Nat}{A:sk}(r:Room k A)(h:j<=k):Room j A:=#[r.hd,by have:=r.dp;lia,by have:=r.un;lia]
theorem Room.deeper{k:Nat}{A:sk}(r:Room (k+1) A)(env:Aa):Room k (A.deeper env) :=
 #[r.hd,by have:=r.dp;show A.depth+1+3 * k+5<_;lia,by have:=r.un;show A.units+3+16 * k+200<_;lia]
theorem Room.in1{k:Nat}{A:sk}(r:Room (k+1) A):Room k A.in1 :=
 #[r.hd,by have:=r.dp;show A.depth+3 * k+5<_;lia,by have:=r.un;show A.units+1+16 * k+200<_;lia]
theorem W2{A:sk}{C:rV}{us:List rW}{kw:List (si × rW)}:(A.under (.builtin "type.__call__" #[.ref C::us,kw])).depth=A.depth+1:=by
 first | rfl | simp [Around.under,Code.weight,Code.isCreation,Code.isGuard,Code.isCaller,Code.frames,Code.isFrame,guardIds]
theorem W8{A:sk}{C:rV}{us:List rW}{kw:List (si × rW)}:(A.under (.builtin "type.__call__" #[.ref C::us,kw])).units=A.units+1:=by
 first | rfl | simp [Around.under,Code.cUnits,Code.frames,Code.isFrame]
theorem Room.make{k:Nat}{A:sk}(r:Room (k+1) A)(C:rV)(us:List rW)(kw:List (si × rW)):Room k (A.under (.builtin "type.__call__" #[.ref C::us,kw])) :=
 #[r.hd,by have:=r.dp;rw[W2];lia,by have:=r.un;rw[W8];lia]
theorem Room.depth{k:Nat}{A:sk}(r:Room k A):A.depth<Af:=by have:=r.dp;lia
theorem Room.units{k:Nat}{A:sk}(r:Room k A):A.units+64<cLine:=by have:=r.un;lia
def xT:TA:=λ_ H Q=>Q [] H
def zL(ta:TE)(tr:TA):TA:=λσ H Q=>ta σ H λx H1=>tr σ H1 λxs H2=>Q (x::xs) H2
section
variable{X:Cx}{e:so}{es:List so}{te:TE}{t:TA}{pos:sY}
theorem zd:PA X [] xT:=λ_ _ _ _ H Q I h=>Calls.spliced_nil #[[],H,I,.nil,h]
theorem za(ha:PE X e te)(hr:PA X es t)(hs:rR (e::es) X.env=(AN,eval e X.env)::rR es X.env:=by rfl):PA X (e::es) (zL te t):=by
 intro pos AO s σ H Q I h;rw[hs];show rZ _ _ (spliced ((AN,eval e X.env)::sw pos (rR es X.env))) _ _ s;refine Calls.spliced_cons (thn (ha AO s σ H _ I h) λu s1 ⟨x,H1,I1,r1,q1⟩=>?_);exact thn (hr pos AO s1 σ H1 _ I1 q1) λus s2 ⟨xs,H2,I2,r2,q2⟩=>#[x::xs,H2,I2,.cons r1 r2,q2]
def Jg(t:TA):TE:=λσ H Q=>t σ H λxs H1=>xs.length<=rS/\∀p,H1 p=AL->Q (.ref p) (upd H1 p (.tup xs))
def zc1(t:TA):TE:=λσ H Q=>t σ H λxs H1=>xs.length<=rS/\∀p,H1 p=AL->Q (.ref p) (upd H1 p (.lst xs))
theorem zR{x1}(h:PA X es t):PE X (.Tuple es x1 pos) (Jg t):=by
 intro AO s σ H Q I hq;refine wpAny_Tuple_spliced (thn (h pos AO s σ H _ I hq) λus s1 ⟨xs,H1,I1,r,z,q⟩=>#[by rw[<- r.length];exact z,?_]);have hf:H1 s1⁻¹=AL:=I1.hok.fresh (al _);refine#[.ref s1⁻¹,upd H1 s1⁻¹ (.tup xs),I1.laid (t':=s1.toks) (λb u e=>aa _ e) (al _) ?_,rfl,q _ hf];exact#[z,us,r,#[_,aB _ rfl,rfl,_,rfl]]
theorem wZ(h:PA X es t):PE X (.List es pos) (zc1 t):=by
 intro AO s σ H Q I hq;refine wpAny_List_spliced (thn (h pos AO s σ H _ I hq) λus s1 ⟨xs,H1,I1,r,z,q⟩=>#[by rw[<- r.length];exact z,?_]);have hf:H1 s1⁻¹=AL:=I1.hok.fresh (al _);refine#[.ref s1⁻¹,upd H1 s1⁻¹ (.lst xs),I1.laid (t':=s1.toks) (λb u e=>aa _ e) (al _) ?_,rfl,q _ hf];exact#[z,us,0,r,aB _ rfl]
end
noncomputable abbrev Sp:=List V->Hp->VK->XK->Prop
noncomputable abbrev CXT:=List Aa->Hp->rX->XK->rW->rX->Prop
structure Env0(P:sf)(w:sj)(K:rT)(mg:si->Option rW)(base:sq)(A:sk)(outer:List Aa)(s:rX)(H:Hp):Prop where
 frames:A.frames=AK outer
 mod:Mod K mg base
 bs:∀b o,base.get? b=AK o->s.heap.get? b=AK o/\H b=AL
 bsz:base.objs.size<=s⁻¹
 funs:s.heap.FunFrames base outer
 frf:∀b ∈ frs outer,H b=AL
 hok:HOk P w H s.heap
 bare:tO s.gens
def CE(outer:List Aa)(P:sf)(w:sj)(H:Hp)(s:rX)(Q:VK)(u:rW)(s':rX):Prop :=
 ∃v H',s'.os=s.os/\tO s'.gens/\Un (frs outer) [] H H' s.heap s'.heap/\HOk P w H' s'.heap/\RelV v u/\Q v H'
def CR(CX:CXT)(outer:List Aa)(P:sf)(w:sj)(H:Hp)(s:rX)(Q:VK)(E:XK)(r:Ah)(s':rX):Prop :=
 match r with
 | .ok (.ret u)=>CE outer P w H s Q u s'
 | .ok _=>False
 | .error e=>CX outer H s E e s'
structure zP(P:sf)(w:sj)(K:rT)(mg:si->Option rW)(base:sq)(CX:CXT)(k:Nat)(f:rV)(fd:rY)(ps:List si)(sp:Sp):Prop where
 len:∀vs H Q E,sp vs H Q E->vs.length=ps.length
 run:∀(A:sk) (outer:List Aa) (s:rX) (H:Hp) (args:Args) (us:List rW) (vs:List V) (Q:VK) (E:XK),Room k A->Env0 P w K mg base A outer s H->Aj s fd args (ps.zip us)->Vals vs us->sp vs H Q E ->
  tB (model P w) A (.call (.ref f) args) (CR CX outer P w H s Q E) s
theorem Env0.make{P:sf}{w:sj}{K:rT}{mg:si->Option rW}{base:sq}{A:sk}{outer:List Aa}{s:rX}{H:Hp}(e:Env0 P w K mg base A outer s H)(C:rV)(us:List rW)(kw:List (si × rW)) :
  Env0 P w K mg base (A.under (.builtin "type.__call__" #[.ref C::us,kw])) outer s H:=#[by first | exact e.frames | (simpa [Around.under,Code.envs,Code.isFrame,pushEnvs] using e.frames),e.mod,e.bs,e.bsz,e.funs,e.frf,e.hok,e.bare]
section
variable{X:Cx}{AO:List (rV × sI)}{σ:St}{H:Hp}{s s':rX}
theorem Inv.env0(I:Inv X AO σ H s):Env0 X.prog X.w X.K X.mg X.base X.A X.stack s H :=
 #[I.ok.frames,I.ok.mod,I.bs,aN I.ok.bsz I.sz,I.stack,I.stkFree,I.hok,I.bare]
theorem Inv.after{Q:VK}{u:rW}(I:Inv X AO σ H s)(h:CE X.stack X.prog X.w H s Q u s'):EP X AO σ Q u s':=by
 obtain⟨v,H',os,bare,un,hok,r,q⟩:=h;obtain⟨hh,g,d,t,os'⟩:=s';obtain rfl:os'=s.os:=os;exact#[v,H',I.call (h':=hh) (g':=g) (d':=d) (t':=t) (ch:=[]) un hok bare (λb z=>absurd z (by simp)),r,q]
end
def u7(sp:Sp)(dvs:List V)(E:XK)(t:TA):TE:=λσ H Q=>t σ H λvs H1=>sp (vs ++ dvs) H1 Q E
def kB(C:rV)(m:si)(sp:Sp)(dvs:List V)(E:XK)(ta:TE)(t:TA):TE:=λσ H Q=>ta σ H λx H1=>∃a dx fs,x=.ref a/\H1 a=AK (.ins C dx fs)/\fs.lookup m=AL /\
 t σ H1 λvs H2=>sp (x::(vs ++ dvs)) H2 Q E
def U9(C:rV)(sp:Sp)(dvs:List V)(E:XK)(t:TA):TE:=λσ H Q=>t σ H λvs H1=>∀x dx,H1 x=AL->H1 dx=AL->dx≠x ->
 sp (.ref x::(vs ++ dvs)) (upd (upd H1 dx (.own x)) x (.ins C dx [])) (λv H2=>v=.non/\Q (.ref x) H2) E
def Binds(K:rT)(fd:rY)(ps:List si)(ds:List rW):Prop :=
 ∀(s:rX) (us:List rW),K.In s.heap->(us ++ ds).length=ps.length->Aj s fd #[us,[]] (ps.zip (us ++ ds))
theorem Binds.all{K:rT}{fd:rY}{ps:List si}(h:∀us:List rW,us.length=ps.length->bindArgs fd #[us,[]]=pure (ps.zip us)):Binds K fd ps []:=λs us _ hl=>by
 rw[aT]at hl ⊢;exact .of_eq (h us hl)
def uS(CX:CXT)(X:Cx)(E:XK):Prop:=∀(AO:List (rV × sI)) (σ:St) (H:Hp) (s:rX) (e:rW) (s':rX),Inv X AO σ H s->CX X.stack H s E e s'->X.xe e s'
section
variable{X:Cx}{CX:CXT}{k:Nat}{f C:rV}{fd:rY}{ps:List si}{sp:Sp}{dvs:List V}{ds:List rW}{E:XK}{x m:si}{p pos apos:sY}{e o:so}{es:List so}{ta:TE}{t:TA}
theorem kn{AO:List (rV × sI)}{σ:St}{H:Hp}{s:rX}{Q:VK}{us:List rW}{vs:List V}(F:zP X.prog X.w X.K X.mg X.base CX k f fd ps sp)(hr:Room k X.A)(hb:Binds X.K fd ps ds)(hd:Vals dvs ds)(hx:uS CX X E)
  (I:Inv X AO σ H s) (r:Vals vs us) (h:sp (vs ++ dvs) H Q E):rZ (model X.prog X.w) X.A (call (.ref f) us) (EP X AO σ Q) X.xe s:=by
 have r2:Vals (vs ++ dvs) (us ++ ds):=r.append hd;have hl:(us ++ ds).length=ps.length:=by rw[<- r2.length];exact F.len _ _ _ _ h
 refine tu (tz (F.run X.A X.stack s H #[us,[]] (us ++ ds) (vs ++ dvs) Q E hr I.env0 (hb s us I.kIn hl) r2 h) λr s' hq=>?_)
 cases r with
 | error e=>exact hx AO σ H s e s' I hq
 | ok fl =>
  cases fl with
  | ret u=>exact I.after hq
  | next=>exact False.elim hq
  | brk=>exact False.elim hq
  | cont=>exact False.elim hq
theorem V9(F:zP X.prog X.w X.K X.mg X.base CX k f fd ps sp)(hr:Room k X.A)(hg:Gl X x)(hm:X.mg x=AK (.ref f))(hk:aH X.K (.ref f)=AM)(hb:Binds X.K fd ps ds)(hd:Vals dvs ds)(hx:uS CX X E)
  (ha:PA X (e::es) t) (hdb:(x ==("__debug__" : si))=AN:=by decide) (he:rR (e::es) X.env=(AN,eval e X.env)::rR es X.env:=by rfl) (hpl:(sw pos (rR es X.env)).any (·.1)=AN:=by rfl) :
  PE X (.Call (.Name x p) (e::es) [] pos) (u7 sp dvs E t):=by
 intro AO s σ H Q I h;refine sE (vA I hg hm ?_ hdb);refine bN (h₀:=X.base) I.ok.mod.kin hk (thn (ha pos AO s σ H _ I h) λus s1 ⟨vs,H1,I1,r,q⟩=>#[I1.kIn,?_]) he hpl;exact kn F hr hb hd hx I1 r q
theorem zbp{pl:AD Bool}(he:PE X o ta)(c:Cls X.K C)(hm:zdi X.K C m f)(F:zP X.prog X.w X.K X.mg X.base CX k f fd ps sp)(hr:Room k X.A)(hb:Binds X.K fd ps ds)(hd:Vals dvs ds)(hx:uS CX X E)(ha:PA X (e::es) t)
    (hst:rR (e::es) X.env=(AN,eval e X.env)::rR es X.env:=by rfl) (hpl:(sw pos (rR es X.env)).any (·.1)=AN:=by rfl)
    (ht:eval (.Call (.Attribute o m apos) (e::es) [] pos) X.env=(do
      let ov <- eval o X.env
      standAt apos.atName
      let (f,first) <- holding [ov] (getMethod ov m pl)
      callWith pos f first (sw pos (rR (e::es) X.env)) (sL pos (sv [] X.env))):=by rfl) :
    PE X (.Call (.Attribute o m apos) (e::es) [] pos) (kB C m sp dvs E ta t):=by
  intro AO s σ H Q I h;refine bX (pl:=pl) (thn (he AO s σ H _ I h) λu s1 ⟨x,H1,I1,rx,a,dx,fs,ex,ea,l,q⟩=>?_) ht;subst ex;obtain rfl:u=Value.ref a:=rx;refine xI I1 ea c hm l ?_;refine bN (first:=[.ref a]) (h₀:=X.base) I.ok.mod.kin hm.kp (thn (ha pos AO s1 σ H1 _ I1 q) λus s2 ⟨vs,H2,I2,r,q2⟩=>#[I2.kIn,?_]) hst hpl;exact kn (us:=.ref a::us) (vs:=.ref a::vs) F hr hb hd hx I2 (.cons rfl r) q2
theorem Jo{pl:AD Bool}(he:PE X o ta)(c:Cls X.K C)(hm:zdi X.K C m f)(F:zP X.prog X.w X.K X.mg X.base CX k f fd ps sp)(hr:Room k X.A)(hb:Binds X.K fd ps ds)(hd:Vals dvs ds)(hx:uS CX X E)
    (ht:eval (.Call (.Attribute o m apos) [] [] pos) X.env=(do
      let ov <- eval o X.env
      standAt apos.atName
      let (f,first) <- holding [ov] (getMethod ov m pl)
      callWith pos f first (sw pos (rR [] X.env)) (sL pos (sv [] X.env))):=by rfl) :
    PE X (.Call (.Attribute o m apos) [] [] pos) (kB C m sp dvs E ta xT):=by
  intro AO s σ H Q I h;refine bX (pl:=pl) (thn (he AO s σ H _ I h) λu s1 ⟨x,H1,I1,rx,a,dx,fs,ex,ea,l,q⟩=>?_) ht;subst ex;obtain rfl:u=Value.ref a:=rx;refine xI I1 ea c hm l ?_;exact fv (first:=[.ref a]) I1.kIn hm.kp (kn (us:=[.ref a]) (vs:=[.ref a]) F hr hb hd hx I1 (.cons rfl .nil) q)
structure Mk(K:rT)(C f:rV):Prop where
 makes:cy K C=AM
 init:ac K (.ref C) "__init__" = AK (AK (.ref f))
 fn:aR K (.ref f)=AM
 kp:aH K (.ref C)=AM
theorem JU{AO:List (rV × sI)}{σ:St}{H:Hp}{s:rX}{Q:VK}{us:List rW}{vs:List V}(M:Mk X.K C f)(F:zP X.prog X.w X.K X.mg X.base CX k f fd ps sp)(hr:Room (k+1) X.A)(hb:Binds X.K fd ps ds)(hd:Vals dvs ds)
  (hx:uS CX X E) (I:Inv X AO σ H s) (r:Vals vs us)
  (h:∀x dx,H x=AL->H dx=AL->dx≠x->sp (.ref x::(vs ++ dvs)) (upd (upd H dx (.own x)) x (.ins C dx [])) (λv H2=>v=.non/\Q (.ref x) H2) E) :
  rZ (model X.prog X.w) X.A (call (.ref C) us) (EP X AO σ Q) X.xe s:=by
 have hq:=h (s⁻¹+1) s⁻¹ (I.hok.fresh (cN _)) (I.hok.fresh (al _)) (az (eh _));have I2:=Inv.made (C:=C) I;have r2:Vals (V.ref (s⁻¹+1)::(vs ++ dvs)) (Value.ref (s⁻¹+1)::(us ++ ds)):=.cons rfl (r.append hd)
 have hl:(Value.ref (s⁻¹+1)::us ++ ds).length=ps.length:=by
  have e:=r2.length;rw[F.len _ _ _ _ hq]at e;exact e.symm
 refine tu (Kt (f:=f) I.kIn M.makes M.init (beq_iff_eq.mp M.fn) (tz (F.run _ X.stack _ _ #[Value.ref (s⁻¹+1)::us,[]] (Value.ref (s⁻¹+1)::(us ++ ds)) _ _ E (hr.make C us [])
  (I2.env0.make C us []) (hb _ (Value.ref (s⁻¹+1)::us) I2.kIn hl) r2 hq) λr s' hq'=>?_))
 cases r with
 | error e=>exact hx AO σ _ _ e s' I2 hq'
 | ok fl =>
  cases fl with
  | ret u =>
   obtain⟨v,H',I3,rv,ev,q3⟩:=I2.after hq';subst ev;exact#[rv,#[V.ref (s⁻¹+1),H',I3,rfl,q3]]
  | next=>exact False.elim hq'
  | brk=>exact False.elim hq'
  | cont=>exact False.elim hq'
theorem QX(M:Mk X.K C f)(F:zP X.prog X.w X.K X.mg X.base CX k f fd ps sp)(hr:Room (k+1) X.A)(hg:Gl X x)(hm:X.mg x=AK (.ref C))(hb:Binds X.K fd ps ds)(hd:Vals dvs ds)(hx:uS CX X E)
  (ha:PA X (e::es) t) (hdb:(x ==("__debug__" : si))=AN:=by decide) (he:rR (e::es) X.env=(AN,eval e X.env)::rR es X.env:=by rfl) (hpl:(sw pos (rR es X.env)).any (·.1)=AN:=by rfl) :
  PE X (.Call (.Name x p) (e::es) [] pos) (U9 C sp dvs E t):=by
 intro AO s σ H Q I h;refine sE (vA I hg hm ?_ hdb);refine bN (h₀:=X.base) I.ok.mod.kin M.kp (thn (ha pos AO s σ H _ I h) λus s1 ⟨vs,H1,I1,r,q⟩=>#[I1.kIn,?_]) he hpl;exact JU M F hr hb hd hx I1 r q
end
def PK(X:Cx)(kws:List AE)(t:TA):Prop :=
 ∀(pos:sY) (AO:List (rV × sI)) (s:rX) (σ:St) (H:Hp) (Q:List V->Hp->Prop),Inv X AO σ H s->t σ H Q->rZ (model X.prog X.w) X.A (evalAll ((sL pos (sv kws X.env)).map (·.2))) (AP X AO σ Q) X.xe s
section
variable{X:Cx}{CX:CXT}{k:Nat}{f C:rV}{fd:rY}{ps ks:List si}{sp:Sp}{E:XK}{x m:si}{p pos apos kpos:sY}{e o:so}{es:List so}{kws:List AE}{te ta:TE}{t tk:TA}{nm:Option si}
theorem zac:PK X [] xT:=λ_ _ _ _ H Q I h=>wpAny_evalAll_nil #[[],H,I,.nil,h]
theorem VW(ha:PE X e te)(hr:PK X kws t):PK X (#[nm,e,kpos]::kws) (zL te t):=by
 intro pos AO s σ H Q I h;show rZ _ _ (evalAll ((do let v <- eval e X.env;standAt pos;pure v)::(sL pos (sv kws X.env)).map (·.2))) _ _ s;refine wpAny_evalAll_cons (rO (thn (ha AO s σ H _ I h) λu s1 ⟨x,H1,I1,r1,q1⟩=>rO (sU (rP ?_))));exact thn (hr pos AO s1 σ H1 _ I1 q1) λus s2 ⟨xs,H2,I2,r2,q2⟩=>#[x::xs,H2,I2,.cons r1 r2,q2]
variable{g:List rW->List rW->List rW}{gV:List V->List V->List V}
end
structure zk(N P:List si)(sc:sP):Prop where
 kind:sc.kind=.function
 co:sc.isCoroutine=AN
 gen:sc.isGenerator=AN
 nd:N.Nodup
 pre:N.take P.length=P
 par:∀x ∈ P,sc.names.lookup x=AK .local\/sc.names.lookup x=AK .cell
 nofree:∀y ∈ sc.names,y.2≠.free
theorem Yp{kindOf:si->Option tM}{x:si}:∀{binds:List (si × rW)} {m:si->Option rW},(∀v,(x,v) ∉ binds)->bindL kindOf binds m x=m x
  | [],_,_=>rfl
  | (n,v)::r,m,h=>by
    unfold bindL;rw[Yp λw hw=>h w (am _ hw)];split
    . have:x≠n:=by rintro rfl;exact h v ax
      simp [this]
    . rfl
theorem ZS{kindOf:si->Option tM}{x:si}:∀{binds:List (si × rW)} {m:si->Option rW},(∀v,(x,v) ∉ binds)->bindC kindOf binds m x=m x
  | [],_,_=>rfl
  | (n,v)::r,m,h=>by
    unfold bindC;rw[ZS λw hw=>h w (am _ hw)];split
    . rfl
    . have:x≠n:=by rintro rfl;exact h v ax
      simp [this]
theorem ZL{kindOf:si->Option tM}{x:si}{v:rW}:∀{P:List si} {vs:List rW} {i:Nat} {m:si->Option rW},P.Nodup->P[i]? = AK x->vs[i]? = AK v->kindOf x=AK .local ->
  bindL kindOf (P.zip vs) m x=AK v
 | [],_,_,_,_,h,_,_=>by simp at h
 | _::_,[],_,_,_,_,h,_=>by simp at h
 | p::P,w::vs,0,m,nd,h1,h2,hk=>by
  simp at h1 h2;subst h1;subst h2;show bindL kindOf ((p,w)::P.zip vs) m p=_;unfold bindL;rw[Yp λv hv=>(Bd.mp nd).1 (cZ hv).1,if_pos hk];simp
 | p::P,w::vs,i+1,m,nd,h1,h2,hk=>by
  show bindL kindOf ((p,w)::P.zip vs) m x=_;unfold bindL;exact ZL (i:=i) (Bd.mp nd).2 (by simpa using h1) (by simpa using h2) hk
theorem ZY{kindOf:si->Option tM}{x:si}{v:rW}:∀{P:List si} {vs:List rW} {i:Nat} {m:si->Option rW},P.Nodup->P[i]? = AK x->vs[i]? = AK v->kindOf x≠AK .local ->
  bindC kindOf (P.zip vs) m x=AK v
 | [],_,_,_,_,h,_,_=>by simp at h
 | _::_,[],_,_,_,_,h,_=>by simp at h
 | p::P,w::vs,0,m,nd,h1,h2,hk=>by
  simp at h1 h2;subst h1;subst h2;show bindC kindOf ((p,w)::P.zip vs) m p=_;unfold bindC;rw[ZS λv hv=>(Bd.mp nd).1 (cZ hv).1,if_neg hk];simp
 | p::P,w::vs,i+1,m,nd,h1,h2,hk=>by
  show bindC kindOf ((p,w)::P.zip vs) m x=_;unfold bindC;exact ZY (i:=i) (Bd.mp nd).2 (by simpa using h1) (by simpa using h2) hk
noncomputable def start(N:List si)(vs:List V):St:=vs.map AK ++ aY (N.length - vs.length) AL
noncomputable def qi(CX:CXT)(P:sf)(w:sj)(K:rT)(mg:si->Option rW)(base:sq)(N:List si)(qual:si)(scope:sP)(f:rV)(cd:rW)(A:sk)(outer:List Aa)(s:rX)(H:Hp)(E:XK):Cx where
 prog:=P
 w:=w
 K:=K
 mg:=mg
 base:=base
 A:=A.deeper (tN qual scope s⁻¹ f cd)
 N:=N
 s₀:=s
 H₀:=H
 env:=tN qual scope s⁻¹ f cd
 outer:=outer
 stack:=tN qual scope s⁻¹ f cd::outer
 ex:=[]
 calm:=AM
 fn:=λ_=>AM
 pn:=[]
 xe:=λe s'=>rZ (model P w) (A.deeper (tN qual scope s⁻¹ f cd)) (leaving (tN qual scope s⁻¹ f cd) e) (λ_ s''=>CX outer H s E e s'') (λe' s''=>CX outer H s E e' s'') s'
theorem WJ{sc:sP}{n:Nat}{x:si}(h:sc.names.lookup x=AK .cell):∃c,(cellsFrom n sc.names []).lookup x=AK c:=by
 have q:=eS sc.names n [] (.inl h);exact Bf.mp q
theorem Um{CX:CXT}{P:sf}{w:sj}{K:rT}{mg:si->Option rW}{base:sq}{N ps:List si}{qual:si}{scope:sP}{f:rV}{cd:rW}{A:sk}{outer:List Aa}{s s1:rX}{H:Hp}{E:XK}{us:List rW}{vs:List V}
  (S:zk N ps scope) (hd:A.handled=AL) (e0:Env0 P w K mg base A outer s H) (hl:vs.length=ps.length) (r:Vals vs us)
  (x:InCallC s s⁻¹ (bindL (tN qual scope s⁻¹ f cd).kindOf (ps.zip us) λ_=>AL) (cellsFrom (s⁻¹+1) scope.names []) (bindC (tN qual scope s⁻¹ f cd).kindOf (ps.zip us) λ_=>AL) s1) :
  Inv (qi CX P w K mg base N qual scope f cd A outer s H E) [] (start N vs) H s1:=by
 have hpl:ps.length<=N.length:=by have:=congrArg fJ S.pre;rw[aG]at this;lia
 obtain⟨h1,tk,rfl,hk⟩:=x.done;have noA:∀b:rV,b ∉ (qi CX P w K mg base N qual scope f cd A outer s H E).ex:=λb z=>absurd (show b ∈ ([]:List rV)from z) (by simp)
 refine#[#[e0.mod,S.kind,rfl,rfl,al _,λy z c h1 h2=>?_,λy hy=>?_,λy c _ h=>?_,λ_=>hd,Around.frames_deeper e0.frames,.inr #[rfl,rfl],λb z=>absurd z (noA b),e0.bs,e0.bsz,λb _ _=>noA b,λb z=>absurd z (noA b),e0.funs,e0.frf],
  rfl,e0.bare,Un.kept hk,#[_,x.toInCall.ns,λi y v h1 h2 h3=>?_],λy c h=>#[_,x.cell y c h],e0.hok.fresh (al _),λy c h=>?_,λp hp=>absurd (show p ∈ ([]:List (rV × sI))from hp) (by simp),e0.hok.kept hk,?_]
 ·exact name_of_addr x.apart (bU h1) (bU h2)
 ·have hy:scope.names.lookup y=AK .cell\/scope.names.lookup y=AK .free:=hy;rcases hy with hy | hy
  ·exact WJ hy
  ·exact absurd rfl (S.nofree _ (bU hy))
 ·exact dc (x.above y c (bU h))
 ·have hi:i<vs.length:=by
   unfold start at h2;by_cases hi:i<vs.length
   ·exact hi
   ·rw[bx (by simpa using hi)]at h2;rw[eL]at h2;split at h2 <;> cases h2
  have ha:vs[i]? = AK v:=by
   unfold start at h2;rw[bz (by simpa using hi),au]at h2
   cases e:vs[i]? with
   | none=>rw[e]at h2;cases h2
   | some a=>rw[e]at h2;cases h2;rfl
  obtain⟨u,hu,rv⟩:=r.get ha
  have hp:ps[i]? = AK y:=by
   rw[<- S.pre,br (by lia)];exact h1
  have ndP:ps.Nodup:=by rw[<- S.pre];exact S.nd.sublist (List.take_sublist _ _)
  refine#[u,rv,?_];rcases S.par y (af hp)with k | k
  ·exact .inl #[k,ZL ndP hp hu k]
  ·obtain⟨c,e⟩:=WJ (n:=s⁻¹+1) k;refine .inr #[.inl k,c,e,?_];have q:=x.cell y c e;rw[ZY ndP hp hu (by show scope.names.lookup y≠_;rw[k];decide)]at q;exact q
 ·exact e0.hok.fresh (dc (x.above y c (bU h)))
 ·unfold start;show _=N.length;rw[aj,ag,cz];lia
theorem JC{CX:CXT}{P:sf}{w:sj}{K:rT}{mg:si->Option rW}{base:sq}{k:Nat}{f:rV}{name qual:si}{params:tG}{body:List sr}{scope:sP}{dV kV doc pm cdv ct oc:rW}{an od:Option rV}
  {osl:Array (Option rW)} {N ps:List si} {sp:Sp} (lk:K.lookup f=AK #[oc,od,.func (bt name qual params body scope dV kV doc pm an cdv ct),osl]) (hcd:bR K cdv qual=AM) (S:zk N ps scope)
  (len:∀vs H Q E,sp vs H Q E->vs.length=ps.length)
  (hbody:∀(A:sk) (outer:List Aa) (s:rX) (H:Hp) (vs:List V) (Q:VK) (E:XK),Room k (A.deeper (tN qual scope s⁻¹ f cdv))->sp vs H Q E ->
   ∃t,PSs (qi CX P w K mg base N qual scope f cdv A outer s H E) body t/\t { nx:=λ_ H'=>Q .non H',rt:=Q } (start N vs) H) :
  zP P w K mg base CX (k+1) f (bt name qual params body scope dV kV doc pm an cdv ct) ps sp:=by
 refine#[len,λA outer s H args us vs Q E hr e0 hb r hsp=>?_];have hl:=len _ _ _ _ hsp;have KX:K.In s.heap:=e0.mod.kin.keeps λb o e=>(e0.bs b o e).1;have lim:s.heap.NoLimit:=e0.mod.nolimit.keeps λb o e=>(e0.bs b o e).1
 have hkind:∀y ∈ ps.zip us,scope.names.lookup y.1=AK .local\/(scope.names.lookup y.1=AK .cell/\((cellsFrom (s⁻¹+1) scope.names []).lookup y.1).isSome=AM):=λ⟨n,v⟩ hy=>by
  rcases S.par n (cZ hy).1 with q | q
  ·exact .inl q
  ·exact .inr #[q,eS _ _ _ (.inl q)]
 refine codeAny_call_function hr.depth (KX _ _ lk) rfl S.co S.gen rfl (PySem.W.codeRec_of KX hcd) (hb _ _ _ _ ?_);refine wpAny_newFunctionEnv_cells S.kind hkind λenv he s1 x=>?_;subst he;refine#[lim.keeps x.toInCall.keep,codeAny_func ?_];obtain⟨t,ht,hq⟩:=hbody A outer s H vs Q E (hr.deeper _) hsp;have I:Inv (qi CX P w K mg base N qual scope f cdv A outer s H E) [] (start N vs) H s1:=Um S hr.hd e0 hl r x;refine tm (ht [] s1 (start N vs) H _ I hq) (λfl s' hs=>?_) λe s' hs=>hs
 have fin:∀{σ':St} {H':Hp} {v:V} {u:rW},Inv (qi CX P w K mg base N qual scope f cdv A outer s H E) [] σ' H' s'->RelV v u->Q v H'->CE outer P w H s Q u s' :=
  λ{σ' H' v u} J rv q=>#[v,H',J.os,J.bare,J.base,J.hok,rv,q]
 cases fl with
 | ret u =>
  obtain⟨v,σ',H',J,rv,q⟩:=hs;exact fin J rv q
 | next =>
  obtain⟨σ',H',J,q⟩:=hs;exact fin (v:=V.non) (u:=Value.none) J rfl q
 | brk =>
  obtain⟨_,_,_,q⟩:=hs;exact False.elim q
 | cont =>
  obtain⟨_,_,_,q⟩:=hs;exact False.elim q
end L2
namespace L2
section
variable{X:Cx}{x:si}{p pos:sY}{e:so}{es:List so}{t:TA}{id T:String}{r:List V->Hp->VK->Prop}
def tCB(r:List V->Hp->VK->Prop)(t:TA):TE:=λσ H Q=>t σ H λvs H1=>r vs H1 Q
theorem we(hc:vP X (.builtin id) r)(hg:Gl X x)(hm:X.mg x=AL)(hv:sK x=AK (.builtin id))(ha:PA X (e::es) t)(hn:x≠"__name__":=by decide)(hdb:(x ==("__debug__" : si))=AN:=by decide)
  (he:rR (e::es) X.env=(AN,eval e X.env)::rR es X.env:=by rfl) (hpl:(sw pos (rR es X.env)).any (·.1)=AN:=by rfl):PE X (.Call (.Name x p) (e::es) [] pos) (tCB r t):=by
 intro AO s σ H Q I h;refine sE (wH I hg hm hv ?_ hn hdb);exact PyProof.Rows.callWith_builtin1 (thn (ha pos AO s σ H _ I h) λus s1 ⟨vs,H1,I1,r1,q1⟩=>hc AO s1 σ H1 vs us Q I1 r1 q1) he hpl
theorem xl(hc:vP X (.type T) r)(hg:Gl X x)(hm:X.mg x=AL)(hv:sK x=AK (.type T))(ha:PA X (e::es) t)(hn:x≠"__name__":=by decide)(hdb:(x ==("__debug__" : si))=AN:=by decide)
  (he:rR (e::es) X.env=(AN,eval e X.env)::rR es X.env:=by rfl) (hpl:(sw pos (rR es X.env)).any (·.1)=AN:=by rfl):PE X (.Call (.Name x p) (e::es) [] pos) (tCB r t):=by
 intro AO s σ H Q I h;refine sE (wH I hg hm hv ?_ hn hdb);exact bv (thn (ha pos AO s σ H _ I h) λus s1 ⟨vs,H1,I1,r1,q1⟩=>hc AO s1 σ H1 vs us Q I1 r1 q1) he hpl
end
end L2
namespace HT
open PySem PyProof.Rows
section
open PySem.SeqAt
open PySem.AutoSeq1 (wpAny_loadPart')
open PySem.MeetsSeq PySem.MeetsSeq2 PySem.MeetsSeq3
end
section
variable{prog:sf}{w:sj}{A:sk}{E:rW->rX->Prop}{s:rX}
noncomputable def sIx(n d:Nat):Option Int->Nat
 | none=>d
 | some v=>if v<0 then (v+(n:Int)).toNat else min v.toNat n
theorem sIx_none(n d:Nat):sIx n d AL=d:=rfl
theorem sIx_nat(n d k:Nat):sIx n d (AK (k:Int))=min k n:=by
 show (if (k:Int)<0 then ((k:Int)+(n:Int)).toNat else min (k:Int).toNat n)=min k n;rw[if_neg (by lia),aJ]
theorem sIx_le(n d:Nat)(hd:d<=n)(o:Option Int):sIx n d o<=n:=by
 cases o with
 | none=>exact hd
 | some v =>
  show (if v<0 then (v+(n:Int)).toNat else min v.toNat n)<=n;by_cases hv:v<0
  ·rw[if_pos hv];lia
  ·rw[if_neg hv];exact Nat.min_le_right _ _
end
end HT
namespace L2
noncomputable abbrev TO:=St->Hp->(Option Int->Hp->Prop)->Prop
def PO(X:Cx)(e:Option so)(t:TO):Prop :=
 ∀(AO:List (rV × sI)) (s:rX) (σ:St) (H:Hp) (Q:Option Int->Hp->Prop),Inv X AO σ H s->t σ H Q ->
  rZ (model X.prog X.w) X.A (evalPart e X.env) (λu s'=>∃o H',Inv X AO σ H' s'/\IsPart u o/\Q o H') X.xe s
def kq:TO:=λ_ H Q=>Q AL H
def Z4(t:TE):TO:=λσ H Q=>t σ H λx H1=>onInt x λi=>Q (AK i) H1
section
variable{X:Cx}{e:so}{te:TE}{lo hi:Option so}{tl th:TO}{pos p2:sY}
theorem xy:PO X AL kq:=by
 intro AO s σ H Q I h;rw[evalPart_none];exact rP #[AL,H,I,.none,h]
theorem zV(h:PE X e te):PO X (AK e) (Z4 te):=by
 intro AO s σ H Q I hw;rw[evalPart_some];refine thn (h AO s σ H _ I hw) λu s1 ⟨x,H1,I1,r1,q1⟩=>?_;obtain⟨i,rfl,q⟩:=onInt.of q1;obtain⟨t,rfl⟩:=r1;exact#[AK i,H1,I1,.int i t,q]
def SlR(X:Cx)(r:V->Option Int->Option Int->Hp->VK->Prop):Prop :=
 ∀(AO:List (rV × sI)) (s:rX) (σ:St) (H:Hp) (x:V) (v vl vu:rW) (lo hi:Option Int) (sl:rV) (Q:VK),Inv X AO σ H s->RelV x v->s.heap.IsSliceOf sl vl vu .none->IsPart vl lo->IsPart vu hi->r x lo hi H Q ->
  ∃T id,typeLookup (.type T) "__getitem__" = pure (AK (.builtin id))/\s.TypeIs v T/\rZ (model X.prog X.w) X.A (getItem v (.ref sl)) (EP X AO σ Q) X.xe s
def tSl(r:V->Option Int->Option Int->Hp->VK->Prop)(te:TE)(tl th:TO):TE:=λσ H Q=>te σ H λx H1=>tl σ H1 λl H2=>th σ H2 λu H3=>r x l u H3 Q
theorem ya{r:V->Option Int->Option Int->Hp->VK->Prop}(hr:SlR X r)(he:PE X e te)(hl:PO X lo tl)(hu:PO X hi th):PE X (.Subscript e (.Slice lo hi AL p2) pos) (tSl r te tl th):=by
 intro AO s σ H Q I h;refine AG (thn (he AO s σ H _ I h) λv s1 ⟨x,H1,I1,r1,q1⟩=>?_);refine wpAny_Slice (thn (hl AO s1 σ H1 _ I1 q1) λvl s2 ⟨l,H2,I2,pl,q2⟩=>thn (hu AO s2 σ H2 _ I2 q2) λvu s3 ⟨u,H3,I3,pu,q3⟩=>?_);rw[evalPart_none];refine rP ?_;have I4:Inv X AO σ H3 { s3 with heap:=s3.heap.push { cls:=.type "slice",data:=.fields (List.toArray [vl,vu,.none]) } }:=I3.kept (t':=s3.toks) λb ob q=>aa _ q;obtain⟨T,id,hT,ht,hg⟩:=hr AO { s3 with heap:=s3.heap.push { cls:=.type "slice",data:=.fields (List.toArray [vl,vu,.none]) } } σ H3 x v vl vu l u s3⁻¹ Q I4 r1 (Heap.IsSliceOf.new ..) pl pu q3;show rZ (model X.prog X.w) X.A (Am e (.Slice lo hi AL p2) v (.ref s3⁻¹)) (EP X AO σ Q) X.xe { s3 with heap:=s3.heap.push { cls:=.type "slice",data:=.fields (List.toArray [vl,vu,.none]) } };exact tail_any (ops:=[.ref s3⁻¹,v]) ht hT hg (by with_unfolding_all rfl)
noncomputable def Js(xs:List V)(lo hi:Option Int):List V:=(xs.drop (HT.sIx xs.length 0 lo)).take (HT.sIx xs.length xs.length hi - HT.sIx xs.length 0 lo)
theorem Y5(xs:List V)(lo hi:Option Int):(Js xs lo hi).length<=xs.length:=by
 unfold Js;rw[aG,bg];lia
end
end L2
namespace L2
noncomputable def ixN(n:Nat)(i:Int):Option Nat:=if 0<=i then (if i<n then AK i.toNat else AL)else if -(n:Int)<=i then AK (i+n).toNat else AL
noncomputable def atI{α:Type}(xs:List α)(i:Int):Option α:=(ixN xs.length i).bind λj=>xs[j]?
theorem zce{n:Nat}{i:Int}{j:Nat}(h:ixN n i=AK j):seqIndex? i n=AK j/\j<n/\-(n:Int)<=i/\i<n:=by
 unfold ixN at h;by_cases h0:0<=i
 ·rw[if_pos h0]at h;by_cases h1:i<n
  ·rw[if_pos h1]at h;have e:i.toNat=j:=Option.some.inj h;exact#[by rw[seqIndex_of h0 h1,e],by lia,by lia,h1]
  ·rw[if_neg h1]at h;cases h
 ·rw[if_neg h0]at h;by_cases h1:-(n:Int)<=i
  ·rw[if_pos h1]at h;have e:(i+n).toNat=j:=Option.some.inj h;exact#[by rw[seqIndex_neg (by lia) h1,e],by lia,h1,by lia]
  ·rw[if_neg h1]at h;cases h
theorem Xc{α:Type}{xs:List α}{i:Int}{v:α}(h:atI xs i=AK v):∃j,seqIndex? i xs.length=AK j/\xs[j]? = AK v/\j<xs.length/\-(xs.length:Int)<=i/\i<xs.length:=by
 unfold atI at h
 cases e:ixN xs.length i with
 | none=>rw[e]at h;cases h
 | some j =>
  rw[e]at h;obtain⟨h1,h2,h3,h4⟩:=zce e;exact#[j,h1,h,h2,h3,h4]
theorem Qb{α:Type}{xs:List α}{j:Nat}{v:α}(h:xs[j]? = AK v):atI xs (j:Int)=AK v:=by
 have hj:j<xs.length:=(AS.mp h).1
 have e:ixN xs.length (j:Int)=AK j:=by
  unfold ixN;rw[if_pos (by lia),if_pos (by lia)];simp
 unfold atI;rw[e];exact h
def Qo(b:so):Prop:=∀o i,subscripted b AN o i=operate [o,i] (getItem o i)
def IxR(X:Cx)(r:R2):Prop :=
 ∀(value slice:so) (AO:List (rV × sI)) (s:rX) (σ:St) (H:Hp) (x y:V) (v u:rW) (Q:VK),Inv X AO σ H s->RelV x v->RelV y u->r x y H Q ->
  subscripted slice AN v u=operate [v,u] (getItem v u)->rZ (model X.prog X.w) X.A (Am value slice v u) (EP X AO σ Q) X.xe s
def MtR(X:Cx)(id:String)(r:V->List V->Hp->VK->Prop):Prop :=
 ∀(AO:List (rV × sI)) (s:rX) (σ:St) (H:Hp) (x:V) (xs:List V) (v:rW) (us:List rW) (Q:VK),Inv X AO σ H s->RelV x v->Vals xs us->r x xs H Q ->
  rZ (model X.prog X.w) X.A (call (.builtin id) (v::us)) (EP X AO σ Q) X.xe s
section
variable{X:Cx}{a b:so}{ta tb:TE}{pos:sY}
theorem IxR.or{r r':R2}(h:IxR X r)(h':IxR X r'):IxR X (λx y H Q=>r x y H Q\/r' x y H Q):=by
 intro value slice AO s σ H x y v u Q I rx ry q hs;rcases q with q | q
 ·exact h value slice AO s σ H x y v u Q I rx ry q hs
 ·exact h' value slice AO s σ H x y v u Q I rx ry q hs
theorem zfg{r:R2}(hr:IxR X r)(ha:PE X a ta)(hb:PE X b tb)(hs:Qo b):PE X (.Subscript a b pos) (tOp r ta tb):=by
 intro AO s σ H Q I h;exact AG (zfG ha hb I h λv u s2 x y H2 I2 rx ry q=>hr a b AO s2 σ H2 x y v u Q I2 rx ry q (hs _ _))
def zcS(K:rT):R2:=λx y H Q=>onRef x λp=>onInt y λi=>∃xs,SqL K H p xs/\∃v,atI xs i=AK v/\Q v H
def qG(K:rT):R2:=λx y H Q=>onRef x λp=>onInt y λi=>∃xs,SqT K H p xs/\∃v,atI xs i=AK v/\Q v H
def zbg:R2:=λx y H Q=>onStr x λz=>onInt y λi=>z.length<=rS/\∃c,atI z.cps.toList i=AK c/\Q (.str ⟨#[c]⟩) H
theorem ix_list:IxR X (zcS X.K):=by
 intro value slice AO s σ H x y v u Q I rx ry h hs;obtain⟨p,rfl,h2⟩:=onRef.of h;obtain⟨i,rfl,xs,hq,z,he,q⟩:=onInt.of h2;cases rx;obtain⟨t,rfl⟩:=ry;obtain⟨its,r,pl,hz⟩:=I.list hq;obtain⟨j,h1,h2,h3,h4,h5⟩:=Xc he;obtain⟨w,ew,rw'⟩:=r.get h2;have hl:=r.length;have hn:=Yg;have fin:EP X AO σ Q w s:=#[z,H,I,rw',q];by_cases h0:0<=i
 ·have hj:i.toNat=j:=by
   rw[seqIndex_of h0 h5]at h1;exact Option.some.inj h1
  exact item_listR pl.isList h0 (by lia) (by rw[hj];simpa using ew) fin hs
 ·have hj:(i+(its.toArray.size:Int)).toNat=j:=by
   rw[seqIndex_neg (by lia) h4]at h1;rw[ak,<- hl];exact Option.some.inj h1
  exact tY (x:=w) pl.isList.typeIs slot_list_getitem.lookup
   (wpAny_getItem_list_neg (Q:=λr s'=>r=w/\EP X AO σ Q r s') pl.isList (by lia) (by rw[ak] <;> lia) (by lia) (by rw[hj];simpa using ew) #[rfl,fin]) hs
theorem ix_tup:IxR X (qG X.K):=by
 intro value slice AO s σ H x y v u Q I rx ry h hs;obtain⟨p,rfl,h2⟩:=onRef.of h;obtain⟨i,rfl,xs,hq,z,he,q⟩:=onInt.of h2;cases rx;obtain⟨t,rfl⟩:=ry;obtain⟨its,r,pl,hz⟩:=I.tuple hq;obtain⟨j,h1,h2,h3,h4,h5⟩:=Xc he;obtain⟨w,ew,rw'⟩:=r.get h2;have hl:=r.length;have hn:=Yg;have fin:EP X AO σ Q w s:=#[z,H,I,rw',q]
 exact tY (x:=w) pl.typeIs slot_tuple_getitem.lookup
  (getItem_tuple (j:=j) (Q:=λr s'=>r=w/\EP X AO σ Q r s') pl (by lia) (by lia) (by rw[ak,<- hl];exact h1) (by simpa using ew) #[rfl,fin]) hs
theorem VQ:IxR X zbg:=by
 intro value slice AO s σ H x y v u Q I rx ry h hs;obtain⟨z,rfl,h2⟩:=onStr.of h;obtain⟨i,rfl,hz,c,he,q⟩:=onInt.of h2;obtain⟨t,rfl⟩:=rx;obtain⟨t',rfl⟩:=ry;obtain⟨j,h1,h2,h3,h4,h5⟩:=Xc he;have hl:z.cps.toList.length=z.length:=by simp [Str.length]
 rw[hl]at h1 h4 h5;have hn:=Yg
 exact tail_any (typeIs_str s z t) slot_str_getitem.lookup (getItem_str (c:=c) (by
  have e1:decide (i < -(2 ^ 63:Int))=AN:=decide_eq_false (by lia);have e2:decide (i ≥ 2 ^ 63)=AN:=decide_eq_false (by lia)
  rw[e1,e2,Bool.or_false]) (by rw[h1];simpa using h2) #[.str ⟨#[c]⟩,H,I.tok _,#[_,rfl],q]) hs
def rIx(K:rT):R2:=λx y H Q=>match x with | .ref p=>onInt y λi=>(∃xs,SqL K H p xs/\∃v,atI xs i=AK v/\Q v H)\/∃xs,SqT K H p xs/\∃v,atI xs i=AK v/\Q v H | .str z=>zbg (.str z) y H Q | _=>False
theorem rIx.of{K:rT}{x y:V}{H:Hp}{Q:VK}(h:rIx K x y H Q):zcS K x y H Q\/qG K x y H Q\/zbg x y H Q:=by
 unfold rIx at h;cases x <;> first | exact .inr (.inr h) | (obtain⟨i,rfl,h⟩:=onInt.of h;exact h.elim .inl λh=>.inr (.inl h)) | exact h.elim
theorem zat:IxR X (rIx X.K):=λa b AO s σ H x y v u Q I rx ry h hs=>(ix_list.or (ix_tup.or VQ)) a b AO s σ H x y v u Q I rx ry h.of hs
theorem Inv.lst{AO:List (rV × sI)}{σ:St}{H:Hp}{s:rX}{p:rV}{xs:List V}(I:Inv X AO σ H s)(h:H p=AK (.lst xs)) :
  ∃(its:List rW) (n:Nat),Vals xs its/\s.heap.get? p=AK { cls:=.type "list",data:=.seq its.toArray n }/\xs.length<=rS:=by
 obtain⟨z,its,n,r,e⟩:=I.hok p _ h;exact#[its,n,r,e,z]
theorem ZR(lo hi:Option Int)(n:Nat):(sliceBounds lo hi AL n).1=((HT.sIx n 0 lo:Nat):Int)/\(sliceBounds lo hi AL n).2.1=((HT.sIx n n hi:Nat):Int)/\(sliceBounds lo hi AL n).2.2=1:=by
 refine#[?_,?_,rfl]
 ·cases lo with
  | none=>simp [sliceBounds,HT.sIx]
  | some i =>
   simp only[sliceBounds,HT.sIx,fN,show (1:Int) > 0 by decide,if_true];by_cases h:i<0
   ·simp only[h,if_true] <;> lia
   ·simp only[h,if_false] <;> lia
 ·cases hi with
  | none=>simp [sliceBounds,HT.sIx]
  | some i =>
   simp only[sliceBounds,HT.sIx,fN,show (1:Int) > 0 by decide,if_true];by_cases h:i<0
   ·simp only[h,if_true] <;> lia
   ·simp only[h,if_false] <;> lia
theorem kP(its:List rW)(lo hi:Option Int):slicePick its.toArray lo hi AL=((its.drop (HT.sIx its.length 0 lo)).take (HT.sIx its.length its.length hi - HT.sIx its.length 0 lo)).toArray:=by
 obtain⟨h1,h2,h3⟩:=ZR lo hi its.toArray.size;unfold slicePick;rw[h1,h2,h3];simp only[sliceRange_one,pick_run,ak] <;> rfl
def zcY(K:rT):V->Option Int->Option Int->Hp->VK->Prop:=λx lo hi H Q=>onRef x λa=>∃xs,SqL K H a xs/\∀p,H p=AL->Q (.ref p) (upd H p (.lst (Js xs lo hi)))
theorem kR:SlR X (zcY X.K):=by
 intro AO s σ H x v vl vu lo hi sl Q I rx hs pl pu h;obtain⟨a,rfl,xs,hx,q⟩:=onRef.of h;cases rx;obtain⟨its,r,ht,hz⟩:=I.list hx;have hlen:=r.length;refine#["list",_,slot_list_getitem.lookup,ht.isList.typeIs,?_];refine wpAny_getItem_list_slice ht.isList hs pl pu .none (by simp) ?_ (by rw[ak] <;> lia);rw[kP,<- hlen];refine#[.ref s⁻¹,_,I.laid (t':=s.toks) (o:=.lst (Js xs lo hi)) (λb ob q=>aa _ q) (al _) ?_,rfl,q _ (I.hok.fresh (al _))];exact#[aN (Y5 xs lo hi) hz,_,0,(r.drop (HT.sIx xs.length 0 lo)).take (HT.sIx xs.length xs.length hi - HT.sIx xs.length 0 lo),aB _ rfl]
noncomputable def zd4:V->Bool
 | .non=>AM
 | .bl _=>AM
 | .int _=>AM
 | .str _=>AM
 | _=>AN
noncomputable def eqV:V->V->Bool
 | .non,.non=>AM
 | .bl a,.bl b=>a == b
 | .bl a,.int b=>(if a then 1 else 0) == b
 | .int a,.bl b=>a ==(if b then 1 else 0)
 | .int a,.int b=>a == b
 | .str a,.str b=>a == b
 | _,_=>AN
theorem WD{A:sk}{s:rX}{y x:V}{u v:rW}(ry:RelV y u)(rx:RelV x v)(fy:zd4 y=AM)(fx:zd4 x=AM):SeqAt.EqAt A s u v (eqV y x):=by
 cases y with
 | non =>
  cases ry
  cases x with
  | non=>cases rx;exact SeqAt.EqAt.same _
  | bl b=>cases rx;exact SeqAt.EqAt.none_bool b
  | int b=>obtain⟨t,rfl⟩:=rx;exact SeqAt.EqAt.none_int b t
  | str b=>obtain⟨t,rfl⟩:=rx;exact SeqAt.EqAt.none_str b t
  | _=>exact absurd (show AN=AM from fx) ay
 | bl a =>
  cases ry
  cases x with
  | non=>cases rx;exact SeqAt.EqAt.bool_none a
  | bl b=>cases rx;exact SeqAt.EqAt.bool_bool a b
  | int b=>obtain⟨t,rfl⟩:=rx;exact SeqAt.EqAt.bool_int a b t
  | str b=>obtain⟨t,rfl⟩:=rx;exact SeqAt.EqAt.bool_str a b t
  | _=>exact absurd (show AN=AM from fx) ay
 | int a =>
  obtain⟨t',rfl⟩:=ry
  cases x with
  | non=>cases rx;exact SeqAt.EqAt.int_none a t'
  | bl b=>cases rx;exact SeqAt.EqAt.int_bool a t' b
  | int b=>obtain⟨t,rfl⟩:=rx;exact SeqAt.EqAt.int_int a t' b t
  | str b=>obtain⟨t,rfl⟩:=rx;exact SeqAt.EqAt.int_str a t' b t
  | _=>exact absurd (show AN=AM from fx) ay
 | str a =>
  obtain⟨t',rfl⟩:=ry
  cases x with
  | non=>cases rx;exact SeqAt.EqAt.str_none a t'
  | bl b=>cases rx;exact SeqAt.EqAt.str_bool a t' b
  | int b=>obtain⟨t,rfl⟩:=rx;exact SeqAt.EqAt.str_int a t' b t
  | str b=>obtain⟨t,rfl⟩:=rx;exact SeqAt.EqAt.str_str a t' b t
  | _=>exact absurd (show AN=AM from fx) ay
 | _=>exact absurd (show AN=AM from fy) ay
theorem yS:vP X (.type "list") (λxs H Q=>∃p ys,xs=[.ref p]/\(SqL X.K H p ys\/SqT X.K H p ys)/\∀l,H l=AL->Q (.ref l) (upd H l (.lst ys))):=by
 intro AO s σ H xs us Q I r h;obtain⟨p,ys,rfl,hq,q⟩:=h;obtain⟨u,rfl,rx⟩:=vn r;cases rx
 have fin:∀(its:List rW),Vals ys its->ys.length<=rS->∀(h':sq) (c':Nat),(∀b o',s.heap.get? b=AK o'->h'.get? b=AK o') ->
   h'.get? s⁻¹=AK { cls:=.type "list",dict:=AL,data:=.seq its.toArray c',slots:=#[] }->EP X AO σ Q (.ref s⁻¹) { s with heap:=h' }:=λits r' hz h' c' kp e =>
  #[.ref s⁻¹,_,I.laid (t':=s.toks) kp (al _) (show ObjOk X.prog X.w _ h' _ (.lst ys)from #[hz,its,c',r',e]),rfl,q _ (I.hok.fresh (al _))]
 rcases hq with hq | hq
 ·obtain⟨its,r',pl,hz⟩:=I.list hq;have hlen:=r'.length;obtain⟨o,ho,hc,n,hd⟩:=pl.isList;exact call_list_seq p (.inl rfl) ho hc hd (λh' c' kp e=>fin its r' hz h' c' kp e) (by simp only[ak] <;> lia)
 ·obtain⟨its,r',pl,hz⟩:=I.tuple hq;have hlen:=r'.length;obtain⟨o,ho,hc,n,hd⟩:=pl;exact call_list_seq p (.inr rfl) ho hc hd (λh' c' kp e=>fin its r' hz h' c' kp e) (by simp only[ak] <;> lia)
theorem ZI:vP X (.type "tuple") (λxs H Q=>∃p ys,xs=[.ref p]/\((SqL X.K H p ys/\∀l,H l=AL->Q (.ref l) (upd H l (.tup ys)))\/(SqT X.K H p ys/\Q (.ref p) H))):=by
 intro AO s σ H xs us Q I r h;obtain⟨p,ys,rfl,h⟩:=h;obtain⟨u,rfl,rx⟩:=vn r;cases rx;rcases h with ⟨hq,q⟩ | ⟨hq,q⟩
 ·obtain⟨its,r',pl,hz⟩:=I.list hq;have hlen:=r'.length;refine call_tuple_list pl.isList (λh' kp=>?_) (by simp only[ak] <;> lia);have I1:Inv X AO σ H { s with heap:=h' }:=I.kept (t':=s.toks) kp
  have I2:Inv X AO σ (upd H h'.objs.size (.tup ys)) { s with heap:=h'.push { cls:=.type "tuple",data:=.seq its.toArray } } :=
   I1.laid (t':=s.toks) (λb o e=>aa _ e) (al _) (show ObjOk X.prog X.w _ _ _ (.tup ys)from #[hz,its,r',IsTup.new _ _])
  exact#[.ref h'.objs.size,_,I2,rfl,q _ (I1.hok.fresh (al _))]
 ·obtain⟨its,r',pl,hz⟩:=I.tuple hq;exact call_tuple_same pl #[.ref p,H,I,rfl,q]
def tyV(K:rT)(T:String)(x:V)(H:Hp):Prop:=match x with
 | .str _=>T="str"
 | .int _=>T="int"
 | .ref p=>(T="list"/\∃xs,SqL K H p xs)\/(T="tuple"/\∃o,K.lookup p=AK o/\o.cls=.type "tuple"/\o.dict=AL) \/
   (T="dict"/\((∃kvs,H p=AK (.dK kvs))\/∃kvs,H p=AK (.dT kvs)))\/(T="set"/\∃S n,H p=AK (.set S n))
 | _=>False
theorem zad{AO:List (rV × sI)}{σ:St}{H:Hp}{s:rX}{T:String}{x:V}{v:rW}(I:Inv X AO σ H s)(r:RelV x v)(ty:tyV X.K T x H) :
  s.TypeIs v T/\∀a,v=.ref a->∃ob,s.heap.get? a=AK ob/\ob.dict=AL:=by
 cases x with
 | str z =>
  obtain⟨t,rfl⟩:=r;cases (show T="str" from ty);exact#[typeIs_str s z t,λ_ e=>nomatch e]
 | int i =>
  obtain⟨t,rfl⟩:=r;cases (show T="int" from ty);exact#[typeIs_int s i t,λ_ e=>nomatch e]
 | ref p =>
  cases r;rcases ty with ⟨rfl,xs,hq⟩ | ⟨rfl,o,hk,hc,hd⟩ | ⟨rfl,hk⟩ | ⟨rfl,S,n,hk⟩
  ·obtain⟨its,_,pl,_⟩:=I.list hq;refine#[pl.isList.typeIs,λa e=>?_];cases e;obtain⟨o,n,e,c,hd,_⟩:=pl;exact#[o,e,hd]
  ·refine#[#[o,I.kIn p o hk,hc],λa e=>?_];cases e;exact#[o,I.kIn _ o hk,hd]
  ·have z:∃o,s.heap.get? p=AK o/\o.ExactDict:=by
    rcases hk with ⟨kvs,hk⟩ | ⟨kvs,hk⟩
    ·obtain⟨_,_,_,_,o,_,_,e,ex,_⟩:=I.hok p _ hk;exact#[o,e,ex]
    ·obtain⟨_,_,_,_,o,_,_,e,ex,_⟩:=I.hok p _ hk;exact#[o,e,ex]
   obtain⟨o,e,ex⟩:=z;refine#[#[o,e,ex.1],λa e2=>?_];cases e2;exact#[o,e,ex.2.1]
  ·obtain⟨o,_,_,_,e,ex,_⟩:=I.hok p _ hk;refine#[#[o,e,ex.1],λa e2=>?_];cases e2;exact#[o,e,ex.2.1]
 | _=>exact False.elim ty
def zeB(K:rT)(T:String)(r:V->List V->Hp->VK->Prop)(to:TE):TE:=λσ H Q=>to σ H λx H1=>tyV K T x H1/\r x [] H1 Q
def tBM(K:rT)(T:String)(r:V->List V->Hp->VK->Prop)(to:TE)(t:TA):TE:=λσ H Q=>to σ H λx H1=>tyV K T x H1/\t σ H1 λxs H2=>r x xs H2 Q
variable{o e:so}{es:List so}{to:TE}{t:TA}{name:si}{apos cpos:sY}{T id:String}{r:V->List V->Hp->VK->Prop}
theorem zdM(pa:PlainAttrs T)(slot:Slot T name id)(hty:typeOf (.builtin id)=pure (.type "method_descriptor"))(hm:MtR X id r)(ho:PE X o to)
  (hbase:attributeBase o name X.env (eval o X.env)=eval o X.env:=by rfl) (hline:(apos.endLine == cpos.line)=AM:=by rfl):PE X (.Call (.Attribute o name apos) [] [] cpos) (zeB X.K T r to):=by
 intro AO s σ H Q I h;refine wpAny_Call_method0_late hbase hline (thn (ho AO s σ H _ I h) λv s1 ⟨x,H1,I1,r1,ty,q1⟩=>?_);obtain⟨h1,h2⟩:=zad I1 r1 ty;exact#[T,id,pa,slot,hty,h1,h2,Calls.callWith_builtin rfl (PySem.evalArgs_none (hm AO s1 σ H1 x [] v [] Q I1 r1 .nil q1))]
theorem uX(pa:PlainAttrs T)(slot:Slot T name id)(hty:typeOf (.builtin id)=pure (.type "method_descriptor"))(hm:MtR X id r)(ho:PE X o to)(ha:PA X (e::es) t)
  (hbase:attributeBase o name X.env (eval o X.env)=eval o X.env:=by rfl)
  (hfew:((sw cpos (rR (e::es) X.env)).all (λx=>!x.1) && (sL cpos (sv [] X.env)).all (λx=>x.1.isSome)
   && decide ((e::es).length+([]:List AE).length+(if ([]:List AE).isEmpty then 0 else 1)<30))=AM:=by rfl)
  (hline:(apos.endLine == cpos.line)=AM:=by rfl) (hs:rR (e::es) X.env=(AN,eval e X.env)::rR es X.env:=by rfl) (hplain:(sw cpos (rR es X.env)).any (·.1)=AN:=by rfl) :
  PE X (.Call (.Attribute o name apos) (e::es) [] cpos) (tBM X.K T r to t):=by
 intro AO s σ H Q I h;refine wpAny_Call_method_late hbase hfew hline rfl (thn (ho AO s σ H _ I h) λv s1 ⟨x,H1,I1,r1,ty,q1⟩=>?_);obtain⟨h1,h2⟩:=zad I1 r1 ty;refine#[T,id,pa,slot,hty,h1,h2,?_];have hA:=ha cpos AO s1 σ H1 _ I1 q1;rw[hs]at hA ⊢;refine Calls.callWith_builtin (by show (AN || (sw cpos (rR es X.env)).any (·.1))=AN;rw[hplain] <;> rfl) (Calls.evalArgs_plain ?_);exact thn hA λus s2 ⟨vs,H2,I2,r2,q2⟩=>hm AO s2 σ H2 x vs v us Q I2 r1 r2 q2
/- xs.append(e),list.index on a module's tuple .. are MtR facts of 06m -/
end
end L2
namespace L2
def MtM(X:Cx)(id:String)(r:V->List V->Hp->VK->Prop):Prop :=
 ∀(AO:List (rV × sI)) (s:rX) (σ:St) (H:Hp) (x:V) (xs:List V) (v:rW) (us:List rW) (Q:VK),Inv X AO σ H s->RelV x v->Vals xs us->r x xs H Q ->
  rZ (model X.prog X.w) X.A (call (.builtin id) (v::us)) (EP X AO σ Q) X.xe s
theorem Vals.one:∀{x:V} {us:List rW},Vals [x] us->∃u,us=[u]/\RelV x u
 | _,_,.cons r .nil=>#[_,rfl,r]
theorem Vals.two:∀{x y:V} {us:List rW},Vals [x,y] us->∃u v,us=[u,v]/\RelV x u/\RelV y v
 | _,_,_,.cons r (.cons q .nil)=>#[_,_,rfl,r,q]
theorem Vals.zero:∀{us:List rW},Vals [] us->us=[]
 | _,.nil=>rfl
theorem Vals.dropLast{xs:List V}{us:List rW}(h:Vals xs us):Vals xs.dropLast us.dropLast:=by
 induction h with
 | nil=>exact .nil
 | cons r t ih =>
  cases t with
  | nil=>exact .nil
  | cons q t'=>exact .cons r ih
theorem Vals.eraseIdx:∀{xs:List V} {us:List rW} (i:Nat),Vals xs us->Vals (xs.eraseIdx i) (us.eraseIdx i)
 | _,_,_,.nil=>.nil
 | _,_,0,.cons _ t=>t
 | _,_,i+1,.cons r t=>.cons r (Vals.eraseIdx i t)
theorem Vals.reverse{xs:List V}{us:List rW}(h:Vals xs us):Vals xs.reverse us.reverse:=by
 induction h with
 | nil=>exact .nil
 | cons r t ih=>rw[List.reverse_cons,List.reverse_cons];exact Vals.append ih (.cons r .nil)
theorem Vk{α:Type}(l:List α):l.eraseIdx (l.length - 1)=l.dropLast:=by
 induction l with
 | nil=>rfl
 | cons a r ih =>
  cases r with
  | nil=>rfl
  | cons b r =>
   have e:(a::b::r).length - 1=((b::r).length - 1)+1:=by
    have h1:(a::b::r).length=r.length+2:=rfl;have h2:(b::r).length=r.length+1:=rfl;lia
   rw[e,List.eraseIdx_cons_succ,ih]
   all_goals rfl
section
variable{X:Cx}{AO:List (rV × sI)}{σ:St}{H:Hp}{s:rX}{l b:rV}{xs ys zs:List V}
theorem Inv.lset{its its':List rW}{n:Nat}{f:Array rW->Array rW}{t':Nat}(I:Inv X AO σ H s)(hH:H l=AK (.lst xs))
  (e:s.heap.get? l=AK { cls:=.type "list",data:=.seq its.toArray n }) (hf:f its.toArray=its'.toArray) (hv:Vals ys its') (hz:ys.length<=rS) :
  Inv X AO σ (upd H l (.lst ys)) { s with heap:=s.heap.update l (Obj.mapSeq f),toks:=t' }:=by
 have q:=PySem.IsL.update e f;rw[hf]at q;refine I.write (x:=l) (e:=l) (by rw[hH];exact trivial) (.inl rfl) (λb' u hb hu=>(aF s.heap (Obj.mapSeq f) (Ne.symm hb)).trans hu) #[_,q] ?_;exact#[hz,its',_,hv,q]
theorem Inv.lnew{its:List rW}{t':Nat}(I:Inv X AO σ H s)(hv:Vals ys its)(hz:ys.length<=rS) :
  Inv X AO σ (upd H s⁻¹ (.lst ys)) { s with heap:=s.heap.push { cls:=.type "list",data:=.seq its.toArray },toks:=t' } :=
 I.laid (λ_ _ q=>aa _ q) (al _) #[hz,its,0,hv,aB _ rfl]
theorem Inv.fresh(I:Inv X AO σ H s):H s⁻¹=AL:=I.hok.fresh (al _)
theorem Inv.lstM(I:Inv X AO σ H s)(hH:H l=AK (.lst xs)):xs.length<=rS/\∃(its:List rW) (n:Nat),Vals xs its/\xs.length=its.length/\s.heap.get? l=AK { cls:=.type "list",data:=.seq its.toArray n }:=by
 obtain⟨z,its,n,r,e⟩:=I.hok l _ hH;exact#[z,its,n,r,r.length,e]
theorem Kw{n:Nat}(h:n<=rS):Builtin.List.listTooLong n=AN:=by
 unfold Builtin.List.listTooLong;exact decide_eq_false (by lia)
end
section
variable{X:Cx}
def UZ:V->List V->Hp->VK->Prop:=λx vs H Q=>onRef x λl=>match vs with | [y]=>∃xs,H l=AK (.lst xs)/\xs.length<rS/\Q .non (upd H l (.lst (xs ++ [y]))) | _=>False
theorem xf:MtM X "list.append" UZ:=by
 intro AO s σ H x vs v us Q I rx rv h;obtain⟨l,rfl,h2⟩:=onRef.of h
 obtain⟨y,rfl,xs,hH,hz,q⟩:∃y,vs=[y]/\∃xs,H l=AK (.lst xs)/\xs.length<rS/\Q .non (upd H l (.lst (xs ++ [y]))):=by
  split at h2
  ·exact#[_,rfl,h2]
  ·exact h2.elim
 cases rx;obtain⟨u,rfl,ru⟩:=rv.one;obtain⟨z,its,n,r,hl,e⟩:=I.lstM hH;refine call_meets F.slot_list_append #[_,e,rfl] F.entry_list_append (F.args_list_append_2 _ _) (PySem.list_append l its.toArray n u (by rw[ak];lia)) #[e,?_];refine#[.non,_,I.lset (its':=its ++ [u]) hH e (by simp) (r.append (.cons ru .nil)) ?_,rfl,q];rw[aj,du];lia
def Q1:V->List V->Hp->VK->Prop:=λx vs H Q=>∃l b xs zs,x=.ref l/\vs=[.ref b]/\H l=AK (.lst xs)/\H b=AK (.lst zs)/\xs.length+zs.length<=rS/\Q .non (upd H l (.lst (xs ++ zs)))
theorem VF:MtM X "list.extend" Q1:=by
 intro AO s σ H x vs v us Q I rx rv h;obtain⟨l,b,xs,zs,rfl,rfl,hH,hB,hz,q⟩:=h;cases rx;obtain⟨u,rfl,ru⟩:=rv.one;cases ru;obtain⟨z,its,n,r,hl,e⟩:=I.lstM hH;obtain⟨z2,its2,n2,r2,hl2,e2⟩:=I.lstM hB;have hsz:its.toArray.size+its2.toArray.size<=rS:=by rw[ak,ak];lia
 have hlong:¬ (!its.toArray.isEmpty && Builtin.List.listTooLong (its.toArray.size+its2.toArray.size))=AM:=by
  rw[Kw hsz,eZ];exact ay
 refine call_meets F.slot_list_extend #[_,e,rfl] F.entry_list_extend (F.args_list_extend_2 _ _)
  (AutoSeq1.list_extend_list_list_0 l its.toArray n b its2.toArray n2 hlong (by rw[ak];lia) (by lia)) #[e,e2,?_]
 refine#[.non,_,I.lset (its':=its ++ its2) hH e (by simp) (r.append r2) ?_,rfl,q];rw[aj];lia
def zgh:V->List V->Hp->VK->Prop:=λx vs H Q=>∃l xs y,x=.ref l/\vs=[]/\H l=AK (.lst xs)/\xs[xs.length - 1]? = AK y/\Q y (upd H l (.lst xs.dropLast))
theorem zgf:MtM X "list.pop" zgh:=by
 intro AO s σ H x vs v us Q I rx rv h;obtain⟨l,xs,y,rfl,rfl,hH,hy,q⟩:=h;cases rx;have hus:=rv.zero;subst hus;obtain⟨z,its,n,r,hl,e⟩:=I.lstM hH;obtain⟨u,hu,ru⟩:=r.get hy
 have hy':its.toArray[its.toArray.size - 1]? = AK u:=by
  show its.toArray[its.length - 1]? = AK u;rw[<- Array.getElem?_toList,<- hl];exact hu
 refine call_meets F.slot_list_pop #[_,e,rfl] F.entry_list_pop (F.args_list_pop_1 _) (MeetsSeq.list_pop_last l its.toArray n u hy' (by rw[ak];lia)) #[e,?_];refine#[y,_,I.lset (its':=its.dropLast) hH e ?_ r.dropLast ?_,ru,q]
 ·show its.toArray.eraseIdxIfInBounds (its.toArray.size - 1)=its.dropLast.toArray;rw[ak,List.eraseIdxIfInBounds_toArray,Vk]
 ·rw[List.length_dropLast];lia
def XV:V->List V->Hp->VK->Prop:=λx vs H Q=>∃l xs,x=.ref l/\vs=[]/\H l=AK (.lst xs)/\Q .non (upd H l (.lst xs.reverse))
theorem Vb:MtM X "list.reverse" XV:=by
 intro AO s σ H x vs v us Q I rx rv h;obtain⟨l,xs,rfl,rfl,hH,q⟩:=h;cases rx;have hus:=rv.zero;subst hus;obtain⟨z,its,n,r,hl,e⟩:=I.lstM hH;refine call_meets F.slot_list_reverse #[_,e,rfl] F.entry_list_reverse (F.args_list_reverse_1 _) (AutoSeq1.list_reverse_list_0 l its.toArray n (by rw[ak];lia)) #[e,?_];refine#[.non,_,I.lset (its':=its.reverse) hH e (by simp) r.reverse ?_,rfl,q];rw[cF];lia
def zcH:R2:=λx y H Q=>onRef x λl=>onRef y λb=>∃xs,H l=AK (.lst xs)/\∃zs,H b=AK (.lst zs)/\xs.length+zs.length<=rS/\∀p,H p=AL->Q (.ref p) (upd H p (.lst (xs ++ zs)))
theorem XR:OpR X (binaryOp .Add) zcH:=by
 intro AO s σ H x y v u Q I rx ry h;obtain⟨l,rfl,h2⟩:=onRef.of h;obtain⟨b,rfl,xs,hH,zs,hB,hz,q⟩:=onRef.of h2;cases rx;cases ry;obtain⟨z,its,n,r,hl,e⟩:=I.lstM hH;obtain⟨z2,its2,n2,r2,hl2,e2⟩:=I.lstM hB;refine PySem.P.add_list e e2 ?_ (by rw[ak,ak];lia);have ea:its.toArray ++ its2.toArray=(its ++ its2).toArray:=by simp
 rw[ea];exact#[.ref _,_,I.lnew (t':=s.toks) (r.append r2) (by rw[aj];lia),rfl,q _ I.fresh]
theorem len_rep{α:Type}(xs:List α)(k:Nat):(aY k xs).flatten.length=k * xs.length:=by
 induction k with
 | zero=>simp
 | succ k ih=>rw[cr,List.flatten_cons,aj,ih,et,Nat.add_comm]
end
section
variable{prog:sf}{w:sj}{A:sk}{E:rW->rX->Prop}{s:rX}
end
section
variable{X:Cx}
end
end L2
namespace Att
open PySem PySem.W PySem.Calls PyProof.Rows
theorem qP{P:Params}{h:sq}:∀(ns:List Int) (vs:List rW),WellAll P h vs (ns.map WData.int)->Ax vs ns:=by
 intro ns
 induction ns with
 | nil =>
  intro vs w;rw[aL]at w;cases w;exact .nil
 | cons n ns ih =>
  intro vs w;rw[ar]at w
  cases w with
  | cons a b =>
   cases a;exact .cons _ _ (ih _ b)
theorem script_of{l:OpenLaw}{n:Nat}(hn:l.most=AK n){P:Params}{h:sq}{args:List WData}{vals:List rW}
  (hpre:l.row.toRowW.claim.pre args=AM) (hwl:WellAll P h vals args) :
  ∃a vs ns,vals=[Value.ref a]/\args=[WData.list (ns.map WData.int)]/\h.get? a=AK { cls:=.type "list",data:=.seq vs.toArray }/\Ax vs ns/\ns.length<=n:=by
 have hsh:WShape.hasAll [] args [.list .int]=AM:=(pre_splitW hpre).1;have hc:l.pre.holds [] { args:=args }=AM:=(pre_splitW hpre).2;obtain⟨d,r,rfl,h1,h2⟩:=hasAllW_cons hsh;obtain rfl:=hasAllW_nil h2;obtain⟨xs,rfl,h3⟩:=hasW_list h1;obtain⟨ns,rfl⟩:=items_int h3
 have hlen:ns.length<=n:=by
  unfold OpenLaw.pre at hc
  have h4:(WTm.not (.lt (.lit (.int (n:Int))) (.len (.arg 0)))).holds [] { args:=[.list (ns.map .int)] }=AM:=by
   have h4:=(holds_andW hc).1;rw[hn]at h4;exact h4
  have h5:=condW_of h4 (w_not (w_lt w_lit (w_len_list (w_arg rfl))));rw[ag]at h5;refine cT λq=>?_;have q':(n:Int)<((ns.length:Nat):Int):=by lia
  first
   | (rw[decide_eq_true q']at h5;exact absurd h5 (by decide))
   | (simp at h5;lia)
 cases hwl with
 | cons w1 w2 =>
  cases w2
  cases w1 with
  | list ho hall=>exact#[_,_,ns,rfl,rfl,ho,qP ns _ hall,hlen]
theorem post_true(l:OpenLaw)(args:List WData):l.row.toRowW.claim.post args (.bool AM) args=AM :=
 postW_of (r:=l.row.toRowW) (X:=(AM == AM))
  (show WShape.has [] (.bool AM) .bool=AM by first | rfl | decide | simp [WShape.has,WShape.arms,WShape.armsAll])
  (show (WTm.eq .res (.lit (.bool AM))).value [] { args:=args,res:=AK (.bool AM),after:=args }=AK (.bool (AM == AM))from w_eq_bool (w_res rfl) w_lit) rfl
section
variable{prog:sf}{w:sj}{A:sk}{E:rW->rX->Prop}{s:rX}{K:Frag}
noncomputable def zfM(h:sq)(L d:rV):List (rV × sI):=(aK h.objs.size).filterMap λa=>if a=L\/a=d then AL else (h.get? a).map λo=>(a,o)
end
end Att
namespace L2
theorem Yk:∀{vs:List rW} {ns:List Int},Ax vs ns->Vals (ns.map V.int) vs
 | _,_,.nil=>.nil
 | _,_,.cons n t h=>.cons #[t,rfl] (Yk h)
end L2
namespace L2
end L2
namespace L2
noncomputable def yq(s:sr)(j:Nat):sr:=match s with
 | .ClassDef _ _ _ body _ _ _ _ _ _ _=>body.getD j (.Pass #[0,0,0,0])
 | _=>.Pass #[0,0,0,0]
noncomputable def yF(s:sr):tG:=match s with
 | .FunctionDef _ a _ _ _ _ _ _ _ _=>a
 | _=>{ posonlyargs:=[],args:=[],vararg:=AL,kwonlyargs:=[],kw_defaults:=[],kwarg:=AL,defaults:=[] }
noncomputable def yg(s:sr):List sr:=match s with
 | .FunctionDef _ _ b _ _ _ _ _ _ _=>b
 | _=>[]
noncomputable def zh(s:sr):sP:=match s with
 | .FunctionDef _ _ _ _ _ _ sc _ _ _=>sc
 | _=>{ kind:=.function,names:=[],isGenerator:=AN,isCoroutine:=AN }
abbrev CX0:CXT:=λ_ _ _ _ _ _=>False
noncomputable abbrev E0:XK:=λ_ _ _=>False
theorem YY{X:Cx}:uS CX0 X E0:=λ_ _ _ _ _ _ _ h=>h.elim
structure Fun(K:rT)(x qual:si)(st:sr)(f:rV)(fd:rY):Prop where
 ex:∃(oc:rW) (od:Option rV) (kV doc pm:rW) (an:Option rV) (cdv ct:rW) (osl:Array (Option rW)),
  fd=bt x qual (yF st) (yg st) (zh st) .none kV doc pm an cdv ct/\K.lookup f=AK #[oc,od,.func fd,osl]/\bR K cdv qual=AM
 kp:aH K (.ref f)=AM
section
variable{P:sf}{w:sj}{K:rT}{mg:si->Option rW}{base:sq}
theorem Fun.ok{x qual:si}{st:sr}{f:rV}{fd:rY}{N ps:List si}{k:Nat}{sp:Sp}(F:Fun K x qual st f fd)(S:zk N ps (zh st))(len:∀vs H Q E,sp vs H Q E->vs.length=ps.length)
  (hbody:∀(cdv:rW) (A:sk) (outer:List Aa) (s:rX) (H:Hp) (vs:List V) (Q:VK) (E:XK),Room k (A.deeper (tN qual (zh st) s⁻¹ f cdv))->sp vs H Q E ->
   ∃t,PSs (qi CX0 P w K mg base N qual (zh st) f cdv A outer s H E).nox (yg st) t/\t { nx:=λ_ H'=>Q .non H',rt:=Q } (start N vs) H):zP P w K mg base CX0 (k+1) f fd ps sp:=by
 obtain⟨oc,od,kV,doc,pm,an,cdv,ct,osl,rfl,lk,hcd⟩:=F.ex;refine JC lk hcd S len λA outer s H vs Q E hr hsp=>?_;obtain⟨t,h,q⟩:=hbody cdv A outer s H vs Q E hr hsp;exact#[t,h.nox,q]
theorem Fun.binds{x qual:si}{st:sr}{f:rV}{fd:rY}{ps:List si}(F:Fun K x qual st f fd)
  (h:∀(kV doc pm:rW) (an:Option rV) (cdv ct:rW) (us:List rW),us.length=ps.length->bindArgs (bt x qual (yF st) (yg st) (zh st) .none kV doc pm an cdv ct) #[us,[]]=pure (ps.zip us)):Binds K fd ps []:=by
 obtain⟨oc,od,kV,doc,pm,an,cdv,ct,osl,rfl,lk,hcd⟩:=F.ex;exact .all (h kV doc pm an cdv ct)
theorem fun_mk{x qual:si}{st:sr}{f:rV}{oc:rW}{od an:Option rV}{osl:Array (Option rW)}{kV doc pm cdv ct:rW}(l:K.lookup f=AK #[oc,od,.func (bt x qual (yF st) (yg st) (zh st) .none kV doc pm an cdv ct),osl])
  (c:bR K cdv qual=AM) (k:aH K (.ref f)=AM):Fun K x qual st f (bt x qual (yF st) (yg st) (zh st) .none kV doc pm an cdv ct):=#[#[oc,od,kV,doc,pm,an,cdv,ct,osl,rfl,l,c],k]
end
section
variable{X:Cx}
theorem pv(i:Nat){x:si}{pos:sY}(hN:X.N[i]? = AK x:=by rfl)(hv:Vis X.env.scope x:=by first | exact Or.inl rfl | exact Or.inr (.inl rfl) | exact Or.inr (Or.inr rfl))(hd:(x ==("__debug__" : si))=AN:=by decide)
  (hcd:(x ==("__classdict__" : si))=AN:=by decide):PE X (.Name x pos) (yk i):=zdu hN hv hd hcd
end
theorem zgx{A B:Prop}(h:A):if AM=AM then A else B:=by
 rw[if_pos rfl];exact h
theorem yx{c A B:Prop}[Decidable c](h1:c->A)(h2:¬ c->B):if c then A else B:=by
 by_cases h:c
 ·rw[if_pos h];exact h1 h
 ·rw[if_neg h];exact h2 h
def Same(H H':Hp):Prop:=∀b o,H b=AK o->H' b=AK o
theorem Same.refl(H:Hp):Same H H:=λ_ _ h=>h
theorem Same.trans{H H1 H2:Hp}(a:Same H H1)(b:Same H1 H2):Same H H2:=λc o h=>b c o (a c o h)
theorem Same.free{H H':Hp}(e:Same H H'){l:rV}(h:H' l=Option.none):H l=Option.none:=by
 cases q:H l with
 | none=>rfl
 | some o =>
  rw[e l o q]at h;cases h
theorem Same.seq{K:rT}{H H':Hp}{a:rV}{xs:List V}(e:Same H H')(h:SqL K H a xs):SqL K H' a xs:=by
 rcases h with (h | ⟨o,h⟩) | h
 ·exact .inl (.inl (e _ _ h))
 ·exact .inl (.inr #[o,e _ _ h])
 ·exact .inr h
end L2
open L2
namespace L3
noncomputable abbrev St:=L2.St
noncomputable abbrev cs(x:si):List Nat:=x.cps.toList
noncomputable abbrev tx(l:List Nat):si:=⟨l.toArray⟩
theorem zen(x:si):tx (cs x)=x:=by cases x;rfl
theorem Xh(l:List Nat):cs (tx l)=l:=rfl
theorem Wu(x:si):x.length=(cs x).length:=by simp [Str.length,cs]
theorem z9(l:List Nat):(tx l).length=l.length:=by simp [Str.length,tx]
theorem Yb{x y:si}(h:cs x=cs y):x=y:=by rw[<- zen x,<- zen y,h]
theorem qC{l m:List Nat}(h:tx l=tx m):l=m:=by rw[<- Xh l,<- Xh m,h]
theorem zdw{l m:List Nat}:tx l=tx m ↔ l=m:=#[qC,λh=>by rw[h]]
theorem jh(l m:List Nat):tx l ++ tx m=tx (l ++ m):=by
 apply Yb;show (tx l ++ tx m).cps.toList=l ++ m;rw[Str.cps_append];simp
noncomputable def cut{α:Type}(l:List α)(lo hi:Option Int):List α:=(l.drop (HT.sIx l.length 0 lo)).take (HT.sIx l.length l.length hi - HT.sIx l.length 0 lo)
theorem wV{α:Type}(l:List α)(lo hi:Option Int):(cut l lo hi).length<=l.length:=by
 unfold cut;rw[aG,bg];lia
theorem Qr(a b:Nat):sliceRange (a:Int) (b:Int) 1=(aK (b - a)).map (λk=>a+k):=by
 unfold sliceRange
 have e:(if (1:Int) > 0 then (if (a:Int)<b then ((b:Int) - a+1 - 1) / 1 else 0)else (if (a:Int) > b then ((a:Int) - b - 1 - 1) / (-1)else 0)).toNat=b - a:=by
  rw[if_pos (by decide)];by_cases h:(a:Int)<b
  ·rw[if_pos h,Int.ediv_one];lia
  ·rw[if_neg h];lia
 show (aK ((if (1:Int) > 0 then (if (a:Int)<b then ((b:Int) - a+1 - 1) / 1 else 0)else (if (a:Int) > b then ((a:Int) - b - 1 - 1) / (-1)else 0)).toNat)).map _=_;rw[e];refine cG λk _=>?_;lia
theorem zcb(lo hi:Option Int)(n:Nat):Builtin.Str.strSliceIndices lo hi 1 n=(aK (HT.sIx n n hi - HT.sIx n 0 lo)).map (λk=>HT.sIx n 0 lo+k):=by
 rw[<- Qr]
 have clip:∀(v:Int) (d:Nat),max 0 (min (if v<0 then v+(n:Int)else v) (n:Int))=((HT.sIx n d (AK v):Nat):Int):=λv d=>by
  show _=(((if v<0 then (v+(n:Int)).toNat else min v.toNat n):Nat):Int);by_cases hv:v<0
  ·simp only[if_pos hv];lia
  ·simp only[if_neg hv];lia
 have h1:((1:Int) > 0)=True:=by simp
 unfold Builtin.Str.strSliceIndices
 cases lo with
 | none =>
  cases hi with
  | none=>simp only[h1,if_true];rfl
  | some j=>simp only[h1,if_true,clip j n];rfl
 | some i =>
  cases hi with
  | none=>simp only[h1,if_true,clip i 0];rfl
  | some j=>simp only[h1,if_true,clip i 0,clip j n]
theorem VJ(x:si)(lo hi:Option Int):Txt.slice x lo hi=tx (cut (cs x) lo hi):=by
 have hn:x.length=x.cps.toList.length:=Wu x;have hj:HT.sIx x.length x.length hi<=x.length:=HT.sIx_le _ _ (al _) hi;have hi0:HT.sIx x.length 0 lo<=x.length:=HT.sIx_le _ _ (aD _) lo;unfold Txt.slice;rw[zcb];split
 ·rename_i h;have h':HT.sIx x.length x.length hi - HT.sIx x.length 0 lo=x.length:=by simpa using h
  apply Yb;show x.cps.toList=cut x.cps.toList lo hi;unfold cut;rw[<- hn];by_cases z:x.length=0
  ·have:x.cps.toList=[]:=dH (by lia);rw[this];simp
  ·have e0:HT.sIx x.length 0 lo=0:=by lia
   rw[e0]at h' ⊢;rw[h',dQ,hn,aO]
 ·apply Yb;have h:=StrLaws.picks x.cps.toList (HT.sIx x.length x.length hi - HT.sIx x.length 0 lo) (HT.sIx x.length 0 lo) (by lia);show (List.filterMap (λk=>x.cps[k]?) _).toArray.toList=cut x.cps.toList lo hi;unfold cut;rw[<- hn];simpa using h
section
variable{X:Cx}
theorem Qz{v:rW}{o:Option Int}(p:IsPart v o):∃l:Option (Int × tP),v=partValue l/\l.map (·.1)=o:=by
 cases p with
 | none=>exact#[AL,rfl,rfl]
 | int i t=>exact#[AK (i,t),rfl,rfl]
def zd1:V->Option Int->Option Int->Hp->VK->Prop:=λx lo hi H Q=>onStr x λz=>z.length<=rS/\Q (.str (tx (cut (cs z) lo hi))) H
theorem ww:SlR X zd1:=by
 intro AO s σ H x v vl vu lo hi sl Q I rx hs pl pu h;obtain⟨z,rfl,hz,q⟩:=onStr.of h;obtain⟨t,rfl⟩:=rx;obtain⟨l,rfl,el⟩:=Qz pl;obtain⟨u,rfl,eu⟩:=Qz pu;refine#["str",_,slot_str_getitem.lookup,typeIs_str s z t,?_];refine tT (l:=l) (u:=u) (st:=AL) hs rfl ?_;have e:Txt.slice z lo hi=tx (cut (cs z) lo hi):=VJ z lo hi;have hl:(tx (cut (cs z) lo hi)).length<=rS:=by rw[z9];have:=wV (cs z) lo hi;rw[<- Wu]at this;lia
 unfold sliceMade slicePicked;rw[el,eu];unfold Txt.slice at e;by_cases hc:((1:Int) == 1 && (Builtin.Str.strSliceIndices lo hi 1 z.length).length == z.length)=AM
 ·rw[if_pos hc]at e;have hc':(((AL:Option (Int × tP)).map (·.1)).getD 1 == 1 && (Builtin.Str.strSliceIndices lo hi (((AL:Option (Int × tP)).map (·.1)).getD 1) z.length).length == z.length)=AM:=hc;rw[if_pos hc'];exact#[.str (tx (cut (cs z) lo hi)),H,I,#[t,by rw[<- e]],q]
 ·rw[if_neg hc]at e;have hc':¬ (((AL:Option (Int × tP)).map (·.1)).getD 1 == 1 && (Builtin.Str.strSliceIndices lo hi (((AL:Option (Int × tP)).map (·.1)).getD 1) z.length).length == z.length)=AM:=hc;rw[if_neg hc'];show (Str.mk ((Builtin.Str.strSliceIndices lo hi 1 z.length).filterMap (z.cps[·]?)).toArray).length<=rS/\_;rw[e];refine#[hl,?_]
  exact#[.str (tx (cut (cs z) lo hi)),H,I.tok _,#[_,by
   show Value.str (Str.mk ((Builtin.Str.strSliceIndices lo hi 1 z.length).filterMap (z.cps[·]?)).toArray) _=_
   rw[e]],q]
theorem Ww(l:List Nat):∀(k:Nat) (AR:Array Nat),((aY k l.toArray).foldl (· ++ ·) AR).toList=AR.toList ++ (aY k l).flatten
 | 0,AR=>by simp
 | k+1,AR=>by
  rw[cr,List.foldl_cons,Ww l k,cr,List.flatten_cons];simp
theorem Vu:OpR X (binaryOp .Mult) (λx y H Q=>∃z n,x=.str z/\y=.int n/\0<=n/\n<=1000/\z.length<=1000/\Q (.str (tx (aY n.toNat (cs z)).flatten)) H):=by
 intro AO s σ H x y v u Q I rx ry h;obtain⟨z,n,rfl,rfl,h0,h1,hz,q⟩:=h;obtain⟨t,rfl⟩:=rx;obtain⟨t',rfl⟩:=ry;have hs:rS=16777216:=sF;have hmul:z.length * n.toNat<=1000 * 1000:=e7 hz (by lia);have fl:((aY n.toNat (cs z)).flatten).length=n.toNat * z.length:=by rw[L2.len_rep,<- Wu]
 refine PySem.P.mul_str ?_ (λ_ _=>?_) (λ_ _=>?_) ?_
 ·rw[decide_eq_false (by lia),decide_eq_false (by lia)];rfl
 ·have:(1000:Int)<=(2 ^ 63 - 1) / n:=by
   apply Int.le_ediv_of_mul_le (by lia);lia
  lia
 ·unfold Builtin.Str.tooLong;exact decide_eq_false (by lia)
 ·by_cases c1:n<1
  ·rw[if_pos c1];have e:n.toNat=0:=by lia
   rw[e]at q;exact#[by decide,.str (tx []),H,I.tok _,#[_,rfl],q]
  ·rw[if_neg c1];by_cases c2:(n == 1 || z.length == 0)=AM
   ·rw[if_pos c2]
    have e:tx (aY n.toNat (cs z)).flatten=z:=by
     rw[eQ]at c2;rcases c2 with c | c
     ·have:n.toNat=1:=by have:=eq_of_beq c;lia
      rw[this];simp only[List.replicate_one,List.flatten_singleton]
     ·have c0:z.length=0:=eq_of_beq c;have:cs z=[]:=dH (by rw[<- Wu];exact c0);apply Yb;rw[this];show (aY n.toNat ([]:List Nat)).flatten=[];simp only[List.flatten_replicate_nil]
    rw[e]at q;exact#[.str z,H,I,#[_,rfl],q]
   ·rw[if_neg c2]
    have e:(⟨(aY n.toNat z.cps).foldl (· ++ ·) #[]⟩:si)=tx (aY n.toNat (cs z)).flatten:=by
     apply Yb;have:=Ww (cs z) n.toNat #[];have e2:(cs z).toArray=z.cps:=by cases z;rfl
     rw[e2]at this;show (List.foldl (· ++ ·) #[] (aY n.toNat z.cps)).toList=(aY n.toNat (cs z)).flatten;rw[this];rfl
    rw[e];refine#[by rw[z9,fl,Nat.mul_comm];lia,.str _,H,I.tok _,#[_,rfl],q]
theorem Qh:OpR X (su .LtE) (λx y H Q=>∃i j,x=.str i/\y=.str j/\Q (.bl (!(decide (cs j<cs i)))) H):=by
 intro AO s σ H x y v u Q I rx ry h;obtain⟨i,j,rfl,rfl,q⟩:=h;obtain⟨t,rfl⟩:=rx;obtain⟨t',rfl⟩:=ry;exact PySem.P.le_str #[.bl _,H,I,rfl,q]
theorem op_lt_str':OpR X (su .Lt) (λx y H Q=>∃i j,x=.str i/\y=.str j/\Q (.bl (decide (cs i<cs j))) H):=UE
theorem Ks:MtR X "str.count" (λx xs H Q=>∃z y,x=.str z/\xs=[.str y]/\Q (.int (Txt.count z y)) H):=by
 intro AO s σ H x xs v us Q I rx rv h;obtain⟨z,y,rfl,rfl,q⟩:=h;obtain⟨t,rfl⟩:=rx;obtain⟨u,rfl,t',rfl⟩:=vn rv;exact PySem.SC.count #[.int _,H,I.tok _,#[_,rfl],q]
end
end L3
namespace L3
section
variable{X:Cx}{AO:List (rV × sI)}{σ:St}{H:Hp}{s:rX}{fp:List rV}{h':sq}{t':Nat}
theorem Inv.turns(I:Inv X AO σ H s)(k:∀b o,b ∉ fp->s.heap.get? b=AK o->h'.get? b=AK o)(hf:∀b ∈ fp,wg X AO H b):Inv X AO σ H { s with heap:=h',toks:=t' }:=by
 have nit:∀b u,H b=AK u->b ∉ fp:=λb u e z=>by rw[(hf b z).1]at e;cases e
 refine I.step (g':=s.gens) (d':=s.drawn) (ch:=fp) (λb hb=>?_) (λb o _ _ hc e _=>k b o hc e) (λb o _ _ hc e _=>#[o.slots,k b o hc e]) (λ_ _ _ _ n=>n)
  (λb o hc e=>#[o,k b o hc e]) (λ_ _ e=>e) (λ_ _ _ e=>e) (λb ps e=>#[#[],by rw[e];simp]) (λm hm=>?_) (λb u e=>?_) I.bare
 ·obtain⟨_,a1,_,a3,a4,a5⟩:=hf b hb;exact#[a3,a1,a4,a5]
 ·obtain⟨o,es,ep,ho,r⟩:=hm;exact#[o,es,ep,k _ o (λz=>(hf _ z).2.1 rfl) ho,r]
 ·refine (I.hok b u e).stay (λc v hc q=>k c v ?_ q) (λ_ q=>q) λ_ _ q=>q;rcases hc with z | z
  ·rw[z];exact nit b u e
  ·exact nit c _ z
theorem Inv.track{a:rV}{o:HO}(I:Inv X AO σ H s)(fa:wg X AO H a)(new:ObjOk X.prog X.w (upd H a o) s.heap a o):Inv X AO σ (upd H a o) s:=by
 obtain⟨a0,a1,a2,a3,a4,a5⟩:=fa;have e:s={ s with heap:=s.heap,gens:=s.gens,drawn:=s.drawn,toks:=s.toks }:=rfl;rw[e]
 refine I.step (g':=s.gens) (d':=s.drawn) (ch:=[a]) (λb hb=>?_) (λb o _ _ _ e _=>e) (λb o _ _ _ e _=>#[o.slots,e]) (λb o hc _ n=>?_)
  (λb o _ e=>#[o,e]) (λb xs e=>?_) (λb u xs e=>?_) (λb ps e=>?_) (λm hm=>hm) (λb u e=>?_) I.bare
 ·have eb:b=a:=by simpa using hb
  subst eb;exact#[a3,a1,a4,a5]
 ·rw[zm (by simpa using hc)];exact n
 ·rw[zm (zF e a0)];exact e
 ·rw[zm (zF e a0)];exact e
 ·exact#[#[],by rw[zm (zF e a0),e];simp]
 ·by_cases hb:b=a
  ·subst hb;rw[ze]at e;cases e;exact new
  ·rw[zm hb]at e;exact (I.hok b u e).stay (λc v _ q=>q) (λc q=>by rw[zm (zF q a0)];exact q) λc xs q=>by rw[zm (zF q a0)];exact q
end
noncomputable def Its(x:si):It:=#[λi _=>i<(cs x).length,λi H v H'=>H'=H/\∃c,(cs x)[i]? = AK c/\v=.str (tx [c]),λi _=>i=(cs x).length]
theorem JZ{P:sf}{w:sj}{K:rT}{tg:so}{ty:String}(hty:["enumerate","zip","dict_itemiterator","dict_reverseitemiterator","odict_iterator","itertools.zip_longest","itertools.pairwise"].contains ty=AN)(it:rV)(x:si)(t:tP)
  (W:∀A:sk,A.handled=AL->Walks P w A it [it] [it] x.cps.size (SignAt x) λi h=>h.IsStrIter it ty x t i)
  (S:∀(A:sk) (i:Nat) (s:rX) (Q:rW->rX->Prop) (E:rW->rX->Prop),s.heap.IsStrIter it ty x t i->Q (.ref it) s->rZ (model P w) A (pyIter (.ref it)) Q E s) :
  Jf P w K tg (Its x) [it] it (λi h=>h.IsStrIter it ty x t i) where
 mem:=by simp
 obj:=λi h st b hb=>by
  have e:b=it:=by simpa using hb
  subst e;obtain⟨o,e,c,d⟩:=st;exact#[o,e,λv z=>by rw[d]at z;cases z]
 keep:=λi h h' st k=>let #[o,e,r]:=st; #[o,k it (by simp) o e,r]
 item:=by
  intro X hP hw hK hc i AO s σ H E I hf st hg;subst hP hw hK;obtain⟨f0,f1,f2,f3,f4,f5⟩:=hf it (by simp);have hg':i<x.cps.size:=by have:i<x.cps.toList.length:=hg;simpa using this
  refine (W X.A (I.ok.hd hc)).item i s _ _ hg' st λv h' tk hv st' kk=>?_;obtain⟨c,u,hcc,rfl⟩:=hv;have I1:Inv X AO σ H { s with heap:=h',toks:=tk }:=I.turned (λb o hb e=>kk b o (by simpa using hb) e) f0 f1 f3 f4 f5;obtain⟨o,e,cl,d⟩:=id st';refine#[_,rfl,WU (s:={ s with heap:=h',toks:=tk }) e cl d hty #[.str (tx [c]),H,I1,#[u,rfl],#[rfl,c,?_,rfl],st',λb hb=>(hf b hb).1]];show x.cps.toList[i]? = AK c;simpa using hcc
 done:=by
  intro X hP hw hK hc i AO s σ H E I hf st hg;subst hP hw hK;obtain⟨f0,f1,f2,f3,f4,f5⟩:=hf it (by simp);have hi:i=x.cps.size:=by have:i=x.cps.toList.length:=hg;simpa using this
  rw[hi]at st;exact (W X.A (I.ok.hd hc)).done s _ _ st λh' tk kk=>#[rfl,I.turned (λb o hb e=>kk b o (by simpa using hb) e) f0 f1 f3 f4 f5]
 self:=λA i s Q E st h=>S A i s Q E st h
section
variable{X:Cx}{tg:so}
def zfx(tl:TE):TI:=λσ H R=>tl σ H λv H1=>∃x,v=.str x/\R (Its x) H1
theorem QE{l:so}{tl:TE}(hl:PE X l tl):PI X tg l (zfx tl):=by
 intro AO s σ H R I h;refine thn (hl AO s σ H _ I h) λv s1 ⟨y,H1,I1,r1,q1⟩=>?_;obtain⟨x,e,q⟩:=q1;subst e;obtain⟨t,rfl⟩:=r1
 have fin:∀(ty:String) (hty:["enumerate","zip","dict_itemiterator","dict_reverseitemiterator","odict_iterator","itertools.zip_longest","itertools.pairwise"].contains ty=AN)
   (W:∀A:sk,A.handled=AL->Walks X.prog X.w A s1⁻¹ [s1⁻¹] [s1⁻¹] x.cps.size (SignAt x) λi h=>h.IsStrIter s1⁻¹ ty x t i)
   (S:∀(A:sk) (i:Nat) (s:rX) (Q:rW->rX->Prop) (E:rW->rX->Prop),s.heap.IsStrIter s1⁻¹ ty x t i->Q (.ref s1⁻¹) s->rZ (model X.prog X.w) A (pyIter (.ref s1⁻¹)) Q E s),
   PIE X AO σ tg R (.ref s1⁻¹) { s1 with heap:=s1.heap.push { cls:=.type ty,data:=.fields (List.toArray [.str x t,.int 0 0]) } }:=λty hty W S=>by
  refine#[s1⁻¹,[s1⁻¹],_,_,H1,rfl,I1.kept (t':=s1.toks) λb o e=>aa _ e,JZ hty _ x t W S,#[_,aB _ rfl,rfl,rfl],λb hb=>?_,q];have e:b=s1⁻¹:=by simpa using hb
  subst e;exact I1.fpOk (al _) (I1.hok.fresh (al _))
 cases ha:x.cps.all (· < 128)
 ·exact wpAny_pyIter_wide ha (fin "str_iterator" (by decide) (λA hA=>Walks.strWide hA _ x t) λA i s Q E st h=>wpAny_pyIter_striter_wide st h)
 ·exact wpAny_pyIter_ascii ha (fin "str_ascii_iterator" (by decide) (λA hA=>Walks.strAscii hA _ x t) λA i s Q E st h=>wpAny_pyIter_striter_ascii st h)
end
theorem zcg{x:si}{g:TG}{tb:TS}{D:vq}{σ:St}{H:Hp}(Pv:Nat->St->Hp->Prop)(h0:Pv 0 σ H)
  (hs:∀i c σ H,(cs x)[i]? = AK c->Pv i σ H->g (.str (tx [c])) σ H λσ2 H2=>tb { D with nx:=Pv (i+1),ct:=Pv (i+1),bk:=D.nx } σ2 H2) (hd:∀σ H,Pv (cs x).length σ H->D.nx σ H) :
  ∃W:Nat->Nat->St->Hp->Prop,(∃m,W 0 m σ H)/\∀i m σ H,W i m σ H ->
   ((Its x).stop i H/\D.nx σ H)\/((Its x).go i H/\∃N:St->Hp->Prop,(∀σ' H',N σ' H'->∃m',m'<m/\W (i+1) m' σ' H')/\∀v H',(Its x).yld i H v H'->g v σ H' λσ2 H2=>tb { D with nx:=N,ct:=N,bk:=D.nx } σ2 H2):=by
 refine#[λi m σ H=>m=(cs x).length - i/\i<=(cs x).length/\Pv i σ H,#[(cs x).length,by simp,aD _,h0],?_];rintro i m σ H ⟨rfl,hi,p⟩;by_cases hlt:i<(cs x).length
 ·refine .inr #[hlt,Pv (i+1),λσ' H' p'=>#[(cs x).length - (i+1),by lia,rfl,hlt,p'],λv H' y=>?_];obtain⟨e,c,hc,ev⟩:=y;subst e ev;exact hs i c σ _ hc p
 ·have e:i=(cs x).length:=by lia
  subst e;exact .inl #[rfl,hd σ H p]
noncomputable def Ite(x:si):It:=#[λi _=>i<(cs x).length,λi H v H'=>∃p c,H p=AL/\(cs x)[i]? = AK c/\v=.ref p/\H'=upd H p (.tup [.int (i:Nat),.str (tx [c])]),λi _=>i=(cs x).length]
section
variable{X:Cx}
def ze6(ta:TA):TI:=λσ H R=>ta σ H λvs H1=>∃x,vs=[.str x]/\R (Ite x) H1
end
end L3
namespace L3
theorem uK{env:Aa}:∀(names:List (si × tM)) (AR:List (si × rV)),
    (∀y,(y,NameKind.free) ∈ names->∃c,env.cells.lookup y=AK c)->(∀y c,AR.lookup y=AK c->env.cells.lookup y=AK c) ->
    ∃cl,(forIn names AR λ(x:si × tM) (cs:List (si × rV))=>if (x.2 == NameKind.free)=AM then (do let a <- cellOf env x.1;pure (ForInStep.yield ((x.1,a)::cs)))else pure (ForInStep.yield cs):AD (List (si × rV)))=pure cl /\
      (∀y c,cl.lookup y=AK c->env.cells.lookup y=AK c)/\(∀y,(y,NameKind.free) ∈ names\/(AR.lookup y).isSome=AM->∃c,cl.lookup y=AK c)
  | [],AR,_,ha=>#[AR,rfl,ha,λy h=>by
      rcases h with h | h
      . cases h
      . exact Bf.mp h]
  | (n,k)::r,AR,hn,ha=>by
    by_cases hk:k=NameKind.free
    . subst hk
      obtain⟨c,hc⟩:=hn n (by simp)
      have ha':∀y d,((n,c)::AR).lookup y=AK d->env.cells.lookup y=AK d:=λy d e=>by
        rw[aU]at e;by_cases hy:(y == n)=AM
        . rw[hy]at e
          have:y=n:=eq_of_beq hy;subst this;cases e;exact hc
        . have hy':(y == n)=AN:=by simpa using hy
          rw[hy']at e;exact ha y d e
      obtain⟨cl,e,h1,h2⟩:=uK r ((n,c)::AR) (λy hy=>hn y (am _ hy)) ha';refine#[cl,?_,h1,λy hy=>h2 y ?_]
      . rw[da]
        have ec:cellOf env n=pure c:=by unfold cellOf;rw[hc]
        simp only[beq_self_eq_true,if_true,ec,pure_bind];exact e
      . rcases hy with hy | hy
        . rcases AV.mp hy with q | q
          . cases q
            exact .inr (by simp)
          . exact .inl q
        . refine .inr ?_
          rw[aU];by_cases hyn:(y == n)=AM
          . rw[hyn];rfl
          . have hy':(y == n)=AN:=by simpa using hyn
            rw[hy'];exact hy
    . obtain⟨cl,e,h1,h2⟩:=uK r AR (λy hy=>hn y (am _ hy)) ha
      refine#[cl,?_,h1,λy hy=>h2 y ?_]
      . rw[da]
        have ek:(k == NameKind.free)=AN:=by simpa using hk
        simp only[ek,bC,if_false,pure_bind];exact e
      . rcases hy with hy | hy
        . rcases AV.mp hy with q | q
          . cases q;exact absurd rfl hk
          . exact .inl q
        . exact .inr hy
theorem vL{scope:sP}{env:Aa}(hn:∀y,(y,NameKind.free) ∈ scope.names->∃c,env.cells.lookup y=AK c) :
  ∃cl,closureFor scope env=pure cl/\(∀y c,cl.lookup y=AK c->env.cells.lookup y=AK c)/\(∀y,(y,NameKind.free) ∈ scope.names->∃c,cl.lookup y=AK c):=by
 obtain⟨cl,e,h1,h2⟩:=uK scope.names [] hn (λy c h=>by cases h);refine#[cl,?_,h1,λy hy=>h2 y (.inl hy)];unfold closureFor;simp only[bind_pure];exact e
noncomputable abbrev U2(ifs:List so)(env:Aa):AD Bool :=
 forIn ifs AM λc r=>if r=AM then (do let ok <- isTrue c env (eval c env);pure (ForInStep.yield ok))else pure (ForInStep.yield r)
theorem VE{prog:sf}{w:sj}{A:sk}{R:Ah->rX->Prop}{s:rX}{elt tg iter:so}{ifs:List so}{scope:sP}{pos:sY}{it AR:rW}{env:Aa}
  (I:Nat->rX->Prop) {EE:rW->rX->Prop} (hEE:EE=notedBy (model prog w) A env λe s'=>R (.error e) s')
  (turn:∀n s,I n s->rZ (model prog w) A (pyNext it) (λr s1=>match r with
   | none=>R (.ok .next) s1
   | some v=>rZ (model prog w) A (letOwnedTupleGo tg it v) (λ_ s2=>rZ (model prog w) A (assign tg env v) (λ_ s3 =>
     rZ (model prog w) A (U2 ifs env) (λok s4=>if ok=AM then
      rZ (model prog w) A (eval elt env) (λx s5=>rZ (model prog w) A (call (.builtin "list.append") [AR,x]) (λ_ s6=>∃m,m<n/\I m s6) EE s5) EE s4
      else ∃m,m<n/\I m s4) EE s3) EE s2) EE s1) EE s) (n:Nat) (h:I n s) :
  tB (model prog w) A (.compLoop (.ListComp elt [#[tg,iter,ifs,0]] scope pos) 0 it AR env) R s:=by
 subst hEE;refine codeAny_loop rfl I (λn s hI=>?_) n h;show rZ _ A ((compTurn (.ListComp elt [#[tg,iter,ifs,0]] scope pos) 0 it AR env).onRaise (λx=>do noteFrame x env;theTreesLotGoes x)) _ _ s;refine wpAny_noted ?_;rw[compTurn_list];refine rO (sU (rO (thn (turn n s hI) λr s1 h1=>?_)))
 cases r with
 | none=>exact rP h1
 | some v =>
  refine rO (thn h1 λ_ s2 h2=>rO (thn h2 λ_ s3 h3=>rO (thn h3 λok s4 h4=>?_)))
  cases ok with
  | false=>exact rP #[rfl,h4]
  | true=>exact rO (rO (thn h4 λx s5 h5=>rO (thn h5 λ_ s6 h6=>rP (rP #[rfl,h6]))))
noncomputable def yu(X:Cx)(scope:sP)(cl:List (si × rV))(C:rV)(N:List si)(AO:List (rV × sI))(s3:rX)(H3:Hp)(fp:List rV)(E:rW->rX->Prop):Cx :=
 { X with N:=N,s₀:=s3,H₀:=H3,env:=compEnvC scope cl C X.env,outer:=X.stack,ex:=fp,fn:=λ_=>AN,pn:=X.pn ++ AO,xe:=E }
noncomputable def vt(σ:St)(own:Nat)(ix:List Nat):St:=aY own AL ++ ix.map λi=>(σ[i]?).join
structure j4(X:Cx)(scope:sP)(own caps:List si)(ix:List Nat):Prop where
 kind:scope.kind=.function
 nocell:∀y ∈ scope.names,y.2≠.cell
 names:∀y ∈ scope.names,y.2=.local->scope.names.lookup y.1=AK .local
 free:∀y,(y,NameKind.free) ∈ scope.names->X.env.kindOf y=AK .cell\/X.env.kindOf y=AK .free
 hown:∀y ∈ own,scope.names.lookup y=AK .local
 hcaps:∀y ∈ caps,scope.names.lookup y=AK .free
 hix:ix.map (λi=>X.N[i]?)=caps.map AK
theorem xL{α β:Type}[BEq α][LawfulBEq α]{l:List (α × β)}{a:α}{b:β}(h:l.lookup a=AK b):(a,b) ∈ l:=by
 induction l with
 | nil=>cases h
 | cons p r ih =>
  obtain⟨c,d⟩:=p;rw[aU]at h;by_cases e:(a == c)=AM
  ·rw[e]at h;cases h;rw[eq_of_beq e];exact ax
  ·have e':(a == c)=AN:=by simpa using e
   rw[e']at h;exact am _ (ih h)
theorem vx{scope:sP}{env:Aa}(hf:env.scope.kind=.function):∀{names:List (si × tM)} {x:si} {k:tM},names.lookup x=AK k ->
    (names.map λ(n,k)=>if (k == NameKind.free && env.scope.kind == .function && env.kindOf n == AK .cell)then (n,NameKind.cell)else (n,k)).lookup x=AK (if (k == NameKind.free && env.scope.kind == .function && env.kindOf x == AK .cell)=AM then .cell else k)
  | [],_,_,h=>by simp at h
  | (n,k')::r,x,k,h=>by
    have ih:=@vx scope env hf r x k;show bf x ((if (k' == NameKind.free && env.scope.kind == .function && env.kindOf n == AK .cell)=AM then (n,NameKind.cell)else (n,k'))::_)=_;by_cases hx:(x == n)=AM
    . have hxn:x=n:=eq_of_beq hx
      subst hxn;rw[aU,hx]at h;cases h;by_cases c:(k' == NameKind.free && env.scope.kind == .function && env.kindOf x == AK .cell)=AM
      . rw[if_pos c,if_pos c,aU,hx]
      . rw[if_neg c,if_neg c,aU,hx]
    . have hx':(x == n)=AN:=by simpa using hx
      rw[aU,hx']at h;by_cases c:(k' == NameKind.free && env.scope.kind == .function && env.kindOf n == AK .cell)=AM
      . rw[if_pos c,aU,hx'];exact ih h
      . rw[if_neg c,aU,hx'];exact ih h
theorem uQ{scope:sP}{env:Aa}:∀{names:List (si × tM)} {x:si},names.lookup x=AL ->
    (names.map λ(n,k)=>if (k == NameKind.free && env.scope.kind == .function && env.kindOf n == AK .cell)then (n,NameKind.cell)else (n,k)).lookup x=AL
  | [],_,_=>rfl
  | (n,k')::r,x,h=>by
    have ih:=@uQ scope env r x;show bf x ((if (k' == NameKind.free && env.scope.kind == .function && env.kindOf n == AK .cell)=AM then (n,NameKind.cell)else (n,k'))::_)=_;by_cases hx:(x == n)=AM
    . rw[aU,hx]at h;cases h
    . have hx':(x == n)=AN:=by simpa using hx
      rw[aU,hx']at h;by_cases c:(k' == NameKind.free && env.scope.kind == .function && env.kindOf n == AK .cell)=AM
      . rw[if_pos c,aU,hx'];exact ih h
      . rw[if_neg c,aU,hx'];exact ih h
section
variable{X:Cx}{scope:sP}{own caps:List si}{ix:List Nat}{cl:List (si × rV)}{AO:List (rV × sI)}{σ:St}{H:Hp}{s:rX}{fp:List rV}{E:rW->rX->Prop}
theorem Vl(S:j4 X scope own caps ix)(hcl1:∀y c,cl.lookup y=AK c->X.env.cells.lookup y=AK c)(hcl2:∀y,(y,NameKind.free) ∈ scope.names->∃c,cl.lookup y=AK c)
  (I:Inv X AO σ H s) (hfp:∀b ∈ fp,wg X AO H b) (hlt:∀b ∈ fp,b<s⁻¹) {h4:sq} {t4:Nat} (hn:h4.Ns s⁻¹ λ_=>AL) (hk:∀b o,s.heap.get? b=AK o->h4.get? b=AK o) :
  Inv (yu X scope cl s⁻¹ (own ++ caps) AO s H fp E) [] (vt σ own.length ix) H { s with heap:=h4,toks:=t4 }:=by
 have kf:X.env.scope.kind=.function:=I.ok.kind;have nofp:∀b ∈ fp,b≠s⁻¹:=λb hb=>az (hlt b hb)
 have cellLt:∀x c,X.env.cells.lookup x=AK c->c<s⁻¹:=λx c e=>by
  obtain⟨v,o,ho,_⟩:=I.cell x c e;exact aq ho
 have kinds:∀y k,scope.names.lookup y=AK k->(relabel scope X.env).names.lookup y=AK (if (k == NameKind.free && X.env.scope.kind == .function && X.env.kindOf y == AK .cell)=AM then .cell else k):=λy k e=>vx (scope:=scope) kf e
 have back:∀y k,(relabel scope X.env).names.lookup y=AK k->∃k',scope.names.lookup y=AK k'/\k=(if (k' == NameKind.free && X.env.scope.kind == .function && X.env.kindOf y == AK .cell)=AM then .cell else k'):=λy k e=>by
  cases q:scope.names.lookup y with
  | none =>
   have:=uQ (scope:=scope) (env:=X.env) q;have e':(scope.names.map λ(n,k)=>if (k == NameKind.free && X.env.scope.kind == .function && X.env.kindOf n == AK .cell)then (n,NameKind.cell)else (n,k)).lookup y=AK k:=e;rw[this]at e';cases e'
  | some k' =>
   refine#[k',rfl,?_];have:=kinds y k' q;rw[e]at this;exact Option.some.inj this
 have isCell:∀y,scope.names.lookup y=AK .free->(relabel scope X.env).names.lookup y=AK .cell\/(relabel scope X.env).names.lookup y=AK .free:=λy e=>by
  have:=kinds y _ e;rcases S.free y (xL e)with q | q
  ·refine .inl ?_;rw[this,if_pos];rw[q,kf];rfl
  ·refine .inr ?_;rw[this,if_neg];rw[q];simp
 refine#[#[I.ok.mod,?_,I.ok.glob,I.ok.blt,al _,?_,?_,?_,I.ok.hd,I.ok.frames,.inl rfl,?_,I.bs,aN I.ok.bsz I.sz,?_,?_,I.stack,I.stkFree],rfl,I.bare,Un.kept hk,#[_,hn,?_],?_,?_,?_,?_,I.hok.kept hk,?_]
 ·show (relabel scope X.env).kind=.function;exact S.kind
 ·intro x y c h1 h2;exact I.ok.inj x y c (hcl1 x c h1) (hcl1 y c h2)
 ·intro y hy;have hy':(relabel scope X.env).names.lookup y=AK .cell\/(relabel scope X.env).names.lookup y=AK .free:=hy
  have:scope.names.lookup y=AK .free:=by
   rcases hy' with q | q
   ·obtain⟨k',e,ek⟩:=back y _ q;by_cases c:(k' == NameKind.free && X.env.scope.kind == .function && X.env.kindOf y == AK .cell)=AM
    ·rw[bV,bV]at c;rw[e,eq_of_beq c.1.1]
    ·rw[if_neg c]at ek;exact absurd ek.symm (S.nocell _ (xL e))
   ·obtain⟨k',e,ek⟩:=back y _ q;by_cases c:(k' == NameKind.free && X.env.scope.kind == .function && X.env.kindOf y == AK .cell)=AM
    ·rw[if_pos c]at ek;cases ek
    ·rw[if_neg c]at ek;rw[e,<- ek]
  exact hcl2 y (xL this)
 ·intro x c h _;exact absurd h (by simp [yu])
 ·intro b hb;refine#[nofp b hb,λx c e=>?_];exact (hfp b hb).2.2.2.2.1 x c (hcl1 x c e)
 ·intro b o e hb;obtain⟨_,_,_,q,_⟩:=hfp b hb;rcases q with q | q
  ·exact I.ok.noex b o e q
  ·exact absurd (aw (aq e) (aN I.ok.bsz q)) (cJ _)
 ·intro b hb z;rcases AV.mp (I.stkSub b z)with e | e
  ·exact (hfp b hb).2.1 e
  ·exact (hfp b hb).2.2.1 e
 ·intro i y v h1 h2 h3
  have hi:own.length<=i:=by
   refine cT λhlt'=>?_;unfold vt at h2;rw[bz (by rw[cz];exact hlt'),eL,if_pos hlt']at h2;cases h2
  have h1':caps[i - own.length]? = AK y:=by
   have:(own ++ caps)[i]? = AK y:=h1;rw[bx hi]at this;exact this
  have h2':(ix.map λi=>(σ[i]?).join)[i - own.length]? = AK (AK v):=by
   unfold vt at h2;rw[bx (by rw[cz];exact hi),cz]at h2;exact h2
  rw[au]at h2';have hx:=congrArg (λl=>l[i - own.length]?) S.hix;simp only[au,h1',Option.map_some]at hx
  cases q:ix[i - own.length]? with
  | none=>rw[q]at h2';cases h2'
  | some j =>
   rw[q]at h2' hx;have hj:X.N[j]? = AK y:=Option.some.inj hx;have hv:(σ[j]?).join=AK v:=Option.some.inj h2'
   have hσ:σ[j]? = AK (AK v):=by
    cases r:σ[j]? with
    | none=>rw[r]at hv;cases hv
    | some z=>rw[r]at hv;cases z with
     | none=>cases hv
     | some z=>cases hv;rfl
   have hfree:scope.names.lookup y=AK .free:=S.hcaps y (af h1');have hkc:=S.free y (xL hfree);obtain⟨m,hm,hl⟩:=I.loc;obtain⟨u,ru,l⟩:=hl j y v hj hσ (.inr hkc);refine#[u,ru,.inr #[isCell y hfree,?_]];rcases l with ⟨k,_⟩ | ⟨_,c,e,z⟩
   ·have:X.env.kindOf y=AK .local:=k;rcases hkc with q' | q' <;> (rw[q']at this;cases this)
   ·obtain⟨c',e'⟩:=hcl2 y (xL hfree);have:=hcl1 y c' e';rw[e]at this;cases this;obtain⟨o,ho,hd⟩:=z;exact#[c,e',o,hk c o ho,hd]
 ·intro x c e;obtain⟨v,o,ho,hd⟩:=I.cell x c (hcl1 x c e);exact#[v,o,hk c o ho,hd]
 ·exact I.hok.fresh (al _)
 ·intro x c e;exact I.freeC x c (hcl1 x c e)
 ·intro p hp
  have hp':p ∈ X.pn ++ AO:=by
   have:p ∈ (X.pn ++ AO) ++ []:=hp
   rwa [aT]at this
  obtain⟨e,n,ne,nf,d⟩:=I.pin p hp';refine#[hk _ _ e,n,?_,λz=>?_,d]
  ·exact az (aq e)
  ·rcases AV.mp (I.stkSub p.1 z)with q | q
   ·exact ne q
   ·exact nf q
 ·show (vt σ own.length ix).length=(own ++ caps).length;have:=congrArg fJ S.hix;rw[ag,ag]at this;unfold vt;rw[aj,cz,ag,aj,this]
end
end L3
namespace L3
def yW(σ σ':St):Prop:=σ.length=σ'.length/\∀(i:Nat) v,σ[i]? = AK (AK v)->σ'[i]? = AK (AK v)
def PTs(X:Cx)(ifs:List so)(t:TT):Prop :=
 ∀(AO:List (rV × sI)) (s:rX) (σ:St) (H:Hp) (Q:Bool->Hp->Prop),Inv X AO σ H s->t σ H Q->rZ (model X.prog X.w) X.A (U2 ifs X.env) (TP X AO σ Q) X.xe s
def vG:TT:=λ_ H Q=>Q AM H
theorem yY{X:Cx}:PTs X [] vG:=λ_ _ _ H _ I h=>rP #[H,I,h]
theorem Uy{X:Cx}{c:so}{t:TT}(h:PT X c t):PTs X [c] t:=λAO s σ H Q I hq=>by
 show rZ _ _ (forIn [c] AM _) _ _ s;simp only[da,e8,if_true];exact rO (rO (thn (h AO s σ H Q I hq) λb s' hb=>rP (rP hb)))
def jU(wi:TI)(g:TG)(tt:TT)(te:TE)(own:Nat)(ix:List Nat):TE:=λσ H Q=>wi σ H λJ H1=>∀D,H1 D=AL->∃W:Nat->Nat->List V->Hp->Prop,(∃m,W 0 m [] (upd H1 D (.lst []))) /\
 ∀i m AR H',W i m AR H'->(J.stop i H'/\Q (.ref D) H')\/(J.go i H'/\∀x H2,J.yld i H' x H2->g x (vt σ own ix) H2 λσ3 H3=>yW (vt σ own ix) σ3/\tt σ3 H3 λb H4=>if b=AM then
  te σ3 H4 λv H5=>H5 D=AK (.lst AR)/\AR.length<rS/\∃m',m'<m/\W (i+1) m' (AR ++ [v]) (upd H5 D (.lst (AR ++ [v])))
  else ∃m',m'<m/\W (i+1) m' AR H4)
theorem Un.but{fs ex:List rV}{H H':Hp}{h h1 h2:sq}{a:rV}(u:Un fs ex H H' h h1)(sb:Heap.SameBut a h1 h2)(ha:h.get? a=AL):Un fs ex H H' h h2:=by
 have ne:∀b o,h.get? b=AK o->b≠a:=λb o e z=>by subst z;rw[ha]at e;cases e
 refine#[λb o e n hb hx=>(sb.2 b (ne b o e)).trans (u.keep b o e n hb hx),λb o e n hb hx=>?_,u.free,λb o e hx=>?_,u.tups,u.frzs,u.tbls]
 ·obtain⟨sl,q⟩:=u.slot b o e n hb hx;exact#[sl,(sb.2 b (ne b o e)).trans q]
 ·obtain⟨o',q⟩:=u.there b o e hx;exact#[o',(sb.2 b (ne b o e)).trans q]
theorem HOk.but{P:sf}{w:sj}{H:Hp}{h1 h2:sq}{a:rV}(ok:HOk P w H h1)(sb:Heap.SameBut a h1 h2)(ha:H a=AL):HOk P w H h2:=λb ob e=>by
 refine (ok b ob e).stay (λc u hc q=>(sb.2 c ?_).trans q) (λ_ q=>q) λ_ _ q=>q;rintro rfl;rcases hc with rfl | hc
 ·rw[ha]at e;cases e
 ·rw[ha]at hc;cases hc
section
variable{X:Cx}{scope:sP}{own caps:List si}{ix:List Nat}{elt tg iter:so}{ifs:List so}{pos:sY}{wi:TI}{g:TG}{tt:TT}{te:TE}
def Zz(i:Nat)(t:TE):TS:=λD σ H=>t σ H λx H1=>D.nx (σ.set i (AK x)) H1
end
end L3
namespace L3
section
variable{X:Cx}{a b:so}{ta tb:TE}{pos:sY}
def Ys:R2:=λx y H Q=>match x with | .int i=>onInt y λj=>Q (.int (i+j)) H | .str i=>onStr y λj=>i.length+j.length<=rS/\Q (.str (i ++ j)) H | .ref l=>zcH (.ref l) y H Q | _=>False
theorem qR:OpR X (binaryOp .Add) Ys:=by
 intro AO s σ H x y v u Q I rx ry h
 cases x with
 | int i=>exact yb AO s σ H (.int i) y v u Q I rx ry h
 | str i=>exact yt AO s σ H (.str i) y v u Q I rx ry (by obtain⟨j,rfl,q⟩:=onStr.of h;exact#[i,j,rfl,rfl,q])
 | ref l=>exact XR AO s σ H (.ref l) y v u Q I rx ry h
 | _=>exact h.elim
def JT:R2:=λx y H Q=>match x with | .int i=>onInt y λj=>CMul i j/\Q (.int (i * j)) H | .str z=>onInt y λn=>0<=n/\n<=1000/\z.length<=1000/\Q (.str (tx (aY n.toNat (cs z)).flatten)) H | _=>False
theorem Ze:OpR X (binaryOp .Mult) JT:=by
 intro AO s σ H x y v u Q I rx ry h
 cases x with
 | int i=>exact qU AO s σ H (.int i) y v u Q I rx ry h
 | str z=>exact Vu AO s σ H (.str z) y v u Q I rx ry (by obtain⟨n,rfl,q⟩:=onInt.of h;exact#[z,n,rfl,rfl,q])
 | _=>exact h.elim
def zeY:R2:=λx y H Q=>match x with | .int i=>onInt y λj=>Q (.bl (decide (i<j))) H | .str i=>onStr y λj=>Q (.bl (decide (cs i<cs j))) H | _=>False
theorem zaO:OpR X (su .Lt) zeY:=by
 intro AO s σ H x y v u Q I rx ry h
 cases x with
 | int i=>exact QP AO s σ H (.int i) y v u Q I rx ry h
 | str i=>exact op_lt_str' AO s σ H (.str i) y v u Q I rx ry (by obtain⟨j,rfl,q⟩:=onStr.of h;exact#[i,j,rfl,rfl,q])
 | _=>exact h.elim
def zfd:R2:=λx y H Q=>match x with | .int i=>onInt y λj=>Q (.bl (decide (i<=j))) H | .str i=>onStr y λj=>Q (.bl (!(decide (cs j<cs i)))) H | _=>False
theorem xP:OpR X (su .LtE) zfd:=by
 intro AO s σ H x y v u Q I rx ry h
 cases x with
 | int i=>exact zd9 AO s σ H (.int i) y v u Q I rx ry h
 | str i=>exact Qh AO s σ H (.str i) y v u Q I rx ry (by obtain⟨j,rfl,q⟩:=onStr.of h;exact#[i,j,rfl,rfl,q])
 | _=>exact h.elim
theorem U0:OpR X (su .Gt) (λx y H Q=>∃i j,x=.str i/\y=.str j/\Q (.bl (decide (cs j<cs i))) H):=by
 intro AO s σ H x y v u Q I rx ry h;obtain⟨i,j,rfl,rfl,q⟩:=h;obtain⟨t,rfl⟩:=rx;obtain⟨t',rfl⟩:=ry;exact PySem.P.gt_str #[.bl _,H,I,rfl,q]
def zeq:R2:=λx y H Q=>match x with | .int i=>onInt y λj=>Q (.bl (decide (j<i))) H | .str i=>onStr y λj=>Q (.bl (decide (cs j<cs i))) H | _=>False
theorem Wj:OpR X (su .Gt) zeq:=by
 intro AO s σ H x y v u Q I rx ry h
 cases x with
 | int i=>exact Kk AO s σ H (.int i) y v u Q I rx ry h
 | str i=>exact U0 AO s σ H (.str i) y v u Q I rx ry (by obtain⟨j,rfl,q⟩:=onStr.of h;exact#[i,j,rfl,rfl,q])
 | _=>exact h.elim
def zep(K:rT):V->Option Int->Option Int->Hp->VK->Prop:=λx lo hi H Q=>match x with | .ref a=>zcY K (.ref a) lo hi H Q | .str z=>zd1 (.str z) lo hi H Q | _=>False
theorem zaG:SlR X (zep X.K):=by
 intro AO s σ H x v vl vu lo hi sl Q I rx hs pl pu h
 cases x with
 | ref a=>exact kR AO s σ H (.ref a) v vl vu lo hi sl Q I rx hs pl pu h
 | str z=>exact ww AO s σ H (.str z) v vl vu lo hi sl Q I rx hs pl pu h
 | _=>exact h.elim
noncomputable def cV:V->Option rW
 | .ty n=>AK (.type n)
 | .ref a=>AK (.ref a)
 | _=>AL
theorem JR:vP X (.builtin "isinstance") (λxs H Q=>∃x c u t b,xs=[x,c]/\cV c=AK u/\Xz X.K H x t/\aQ X.K t u=AK b/\Q (.bl b) H):=by
 intro AO s σ H xs us Q I r h;obtain⟨x,c,u,t,b,rfl,hc,ty,e,q⟩:=h;obtain⟨v,w',rfl,rx,rc⟩:=VR r
 have:w'=u:=by
  cases c with
  | ty n=>cases hc;exact rc
  | ref a=>cases hc;exact rc
  | _=>cases hc
 subst this;exact Qj I rx ty e λtk=>#[.bl b,H,I.tok tk,rfl,q]
end
end L3
namespace L3
noncomputable def Iel(K:rT)(a:rV):It:=#[λi H=>∃xs x,SqL K H a xs/\xs[i]? = AK x,λi H v H'=>∃p x,H p=AL/\(∀xs,SqL K H a xs->xs[i]? = AK x)/\v=.ref p/\H'=upd H p (.tup [.int (i:Nat),x]),λi H=>∃xs,SqL K H a xs/\i=xs.length]
theorem Vc{P:sf}{w:sj}{K:rT}{elts:List so}{x1:Nat}{tpos:sY}(e it a:rV)(hei:e≠it) :
  Jf P w K (.Tuple elts x1 tpos) (Iel K a) [e,it] e (λi h=>(∃old,IsEnum h e it i old)/\h.IsListIter it a i) where
 mem:=by simp
 obj:=λi h st b hb=>by
  obtain⟨⟨old,he⟩,o,e2,c,d⟩:=st;rcases AV.mp hb with q | q
  ·subst q;exact#[_,he,λv z=>by have z':Data.fields _=Data.cell v:=z;cases z']
  ·have q':b=it:=by simpa using q
   subst q';exact#[o,e2,λv z=>by rw[d]at z;cases z]
 keep:=λi h h' st k=>by
  obtain⟨⟨old,he⟩,st⟩:=st;exact#[#[old,k e (by simp) _ he],st.at λo q=>k it (by simp) o q]
 item:=by
  intro X hP hw hK hc i AO s σ H E I hf st hg;subst hP hw hK;obtain⟨⟨old,he⟩,st⟩:=st;obtain⟨xs,x,hq,hx⟩:=hg;obtain⟨its,rv,p,hz⟩:=I.list hq;obtain⟨u,hu,ru⟩:=rv.get hx;have hA:X.A.in1.handled=AL:=I.ok.hd hc;have pl:=p.isList
  have hai:a≠it:=λz=>by
   subst z;obtain⟨o1,q1,c1,_⟩:=st;obtain⟨o2,q2,c2,_⟩:=pl;rw[q1]at q2;cases q2;rw[c1]at c2;exact absurd (Value.type.inj c2) (by decide)
  have hea:e≠a:=λz=>by
   subst z;obtain⟨o2,q2,c2,_⟩:=pl;rw[he]at q2;cases q2;exact absurd (Value.type.inj c2) (by decide)
  refine wpAny_pyNext_enum_itemD (Draws.list (A:=X.A.in1) hA it a hai its.toArray) he #[st,pl] (by rw[ak];exact (AS.mp hu).1) hei (by simp [hei,hea]) λv h' tk hv ho st' hT hsz kk=>?_
  have ev:v=u:=by
   have hv':its.toArray[i]? = AK v:=hv;rw[List.getElem?_toArray,hu]at hv';exact (Option.some.inj hv').symm
  subst ev;refine#[_,rfl,wpAny_letOwnedTupleGo_enum ho λh2 he2 sb=>?_];have elt:e<s⁻¹:=aq he;have ilt:it<s⁻¹:=by obtain⟨o,q,_⟩:=st;exact aq q
  have I1:Inv X AO σ H { s with heap:=h2,toks:=tk+1 }:=Inv.turns (fp:=[e,it]) I (λb o hb q=>by
   have hb':b≠e/\b≠it:=by simpa using hb
   exact (sb.2 b hb'.1).trans (kk b o hb'.1 hb'.2 q)) hf
  have hp:H s⁻¹=AL:=I.hok.fresh (al _);have hT2:h2.get? s⁻¹=AK { cls:=.type "tuple",data:=.seq (List.toArray [.int (i:Nat) tk,v]) }:=(sb.2 _ (ce elt)).trans hT
  have I2:Inv X AO σ (upd H s⁻¹ (.tup [.int (i:Nat),x])) { s with heap:=h2,toks:=tk+1 } :=
   Inv.track I1 (I.fpOk (al _) hp) #[by show 2<=rS;decide,[.int (i:Nat) tk,v],.cons #[_,rfl] (.cons ru .nil),#[_,hT2,rfl,_,rfl]]
  refine#[.ref s⁻¹,_,I2,rfl,#[s⁻¹,x,hp,λys hy=>by rw[I.list_inj hy hq];exact hx,rfl,rfl],#[#[_,by simpa using he2],?_],λb hb=>?_]
  ·exact st'.1.at λo q=>(sb.2 it (Ne.symm hei)).trans q
  ·rw[zm]
   ·exact (hf b hb).1
   ·rcases AV.mp hb with q | q
    ·rw[q];exact az elt
    ·have q':b=it:=by simpa using q
     rw[q'];exact az ilt
 done:=by
  intro X hP hw hK hc i AO s σ H E I hf st hg;subst hP hw hK;obtain⟨⟨old,he⟩,st⟩:=st;obtain⟨xs,hq,hi⟩:=hg;obtain⟨its,rv,p,hz⟩:=I.list hq;have pl:=p.isList
  have hai:a≠it:=λz=>by
   subst z;obtain⟨o1,q1,c1,_⟩:=st;obtain⟨o2,q2,c2,_⟩:=pl;rw[q1]at q2;cases q2;rw[c1]at c2;exact absurd (Value.type.inj c2) (by decide)
  have hA:X.A.in1.handled=AL:=I.ok.hd hc;have hi':i=its.toArray.size:=by rw[ak,<- rv.length];exact hi
  subst hi';refine wpAny_pyNext_enum_endD (Draws.list (A:=X.A.in1) hA it a hai its.toArray) he #[st,pl] λh' hx=>#[rfl,?_];exact Inv.turns (fp:=[e,it]) (t':=s.toks) I (λb o hb q=>hx b o (λz=>hb (by simp [z])) q) hf
 self:=λA i s Q E st h=>by
  obtain⟨⟨old,he⟩,_⟩:=st;exact Aq he h
section
variable{X:Cx}
def Uu(K:rT)(ta:TA):TI:=λσ H R=>ta σ H λvs H1=>∃a,vs=[.ref a]/\(∃xs,SqL K H1 a xs)/\R (Iel K a) H1
theorem xY{a:so}{ta:TA}{p pos tpos:sY}{elts:List so}{x1:Nat}(hg:Gl X "enumerate")(hm:X.mg "enumerate" = AL)(ha:PA X [a] ta)(hs:rR [a] X.env=[(AN,eval a X.env)]:=by rfl) :
  PI X (.Tuple elts x1 tpos) (.Call (.Name "enumerate" p) [a] [] pos) (Uu X.K ta):=by
 intro AO s σ H R I h;refine AJ (wH I hg hm PyProof.Rows.boot_enumerate (bv (thn (ha pos AO s σ H _ I h) λus s1 ⟨vs,H1,I1,r1,q1⟩=>?_) hs rfl));obtain⟨l,e,⟨xs,hq⟩,q⟩:=q1;subst e;obtain⟨u,rfl,ru⟩:=vn r1;cases ru;obtain⟨its,rv,pl,hz⟩:=I1.list hq;refine call_enumerate_list pl.isList λh' he hit hsz kk=>?_;have I2:Inv X AO σ H1 { s1 with heap:=h' }:=I1.kept (t':=s1.toks) kk;refine Aq (s:={ s1 with heap:=h' }) (i:=0) he ?_;refine#[s1⁻¹+1,[s1⁻¹+1,s1⁻¹],_,_,H1,rfl,I2,Vc _ _ l (Nat.succ_ne_self _),#[#[_,he],hit],λb hb=>?_,q]
 have hb':s1⁻¹<=b:=by
  rcases AV.mp hb with e | e
  ·rw[e];exact cN _
  ·have:b=s1⁻¹:=by simpa using e
   rw[this];exact al _
 exact I1.fpOk hb' (I1.hok.fresh hb')
end
def ForEL(K:rT)(a:rV)(g:TG)(tb:TS)(D:vq)(σ:St)(H:Hp):Prop:=∃W:Nat->Nat->St->Hp->Prop,(∃m,W 0 m σ H)/\∀i m σ H,W i m σ H ->
 ((Iel K a).stop i H/\D.nx σ H)\/((Iel K a).go i H/\∃N:St->Hp->Prop,(∀σ' H',N σ' H'->∃m',m'<m/\W (i+1) m' σ' H')/\∀x H',(Iel K a).yld i H x H'->g x σ H' λσ2 H2=>tb { D with nx:=N,ct:=N,bk:=D.nx } σ2 H2)
theorem zcT{K:rT}{ta:TA}{g:TG}{tb:TS}{D:vq}{σ:St}{H:Hp}:KN (Uu K ta) g tb D σ H=ta σ H λvs H1=>∃a,vs=[.ref a]/\(∃xs,SqL K H1 a xs)/\ForEL K a g tb D σ H1:=rfl
theorem ForEL.by{K:rT}{a:rV}{xs:List V}{g:TG}{tb:TS}{D:vq}{σ:St}{H:Hp}(Pv:Nat->St->Hp->Prop)(h0:Pv 0 σ H)(hl:∀i σ H,i<=xs.length->Pv i σ H->SqL K H a xs)
  (hs:∀i x σ H p,xs[i]? = AK x->Pv i σ H->H p=AL->g (.ref p) σ (upd H p (.tup [.int (i:Nat),x])) λσ2 H2=>tb { D with nx:=Pv (i+1),ct:=Pv (i+1),bk:=D.nx } σ2 H2) (hd:∀σ H,Pv xs.length σ H->D.nx σ H):ForEL K a g tb D σ H:=by
 refine#[λi m σ H=>m=xs.length - i/\i<=xs.length/\Pv i σ H,#[xs.length,by simp,aD _,h0],?_];rintro i m σ H ⟨rfl,hi,p⟩;have q:=hl i σ H hi p;by_cases hlt:i<xs.length
 ·refine .inr #[#[xs,xs[i],q,by simp [hlt]],Pv (i+1),λσ' H' p'=>#[xs.length - (i+1),by lia,rfl,hlt,p'],λv H' y=>?_];obtain⟨p',x,hp,hx,ev,eH⟩:=y;subst ev eH;exact hs i x σ H p' (hx xs q) p hp
 ·have e:i=xs.length:=by lia
  subst e;exact .inl #[#[xs,q,rfl],hd σ H p]
def ForT(K:rT)(a:rV)(g:TG)(tb:TS)(D:vq)(σ:St)(H:Hp):Prop:=∃W:Nat->Nat->St->Hp->Prop,(∃m,W 0 m σ H)/\∀i m σ H,W i m σ H ->
 ((Itt K a).stop i H/\D.nx σ H)\/((Itt K a).go i H/\∃N:St->Hp->Prop,(∀σ' H',N σ' H'->∃m',m'<m/\W (i+1) m' σ' H')/\∀x H',(Itt K a).yld i H x H'->g x σ H' λσ2 H2=>tb { D with nx:=N,ct:=N,bk:=D.nx } σ2 H2)
theorem zgd{K:rT}{tl:TE}{g:TG}{tb:TS}{D:vq}{σ:St}{H:Hp}:KN (zfU K tl) g tb D σ H=tl σ H λx H1=>∃a,x=.ref a/\(∃xs,SqT K H1 a xs)/\ForT K a g tb D σ H1:=rfl
theorem ForT.by{K:rT}{a:rV}{xs:List V}{g:TG}{tb:TS}{D:vq}{σ:St}{H:Hp}(Pv:Nat->St->Hp->Prop)(h0:Pv 0 σ H)(hl:∀i σ H,i<=xs.length->Pv i σ H->SqT K H a xs)
  (hs:∀i x σ H,xs[i]? = AK x->Pv i σ H->g x σ H λσ2 H2=>tb { D with nx:=Pv (i+1),ct:=Pv (i+1),bk:=D.nx } σ2 H2) (hd:∀σ H,Pv xs.length σ H->D.nx σ H):ForT K a g tb D σ H:=zbx Pv h0 hl hs hd
def zeA(K:rT)(x:V)(H:Hp)(p:Bool->Prop):Prop:=match x with | .bl b=>p b | x=>∃k,zaf K x H k/\p k
theorem Q2{K:rT}{x:V}{H:Hp}{p:Bool->Prop}:zeA K x H p=∃k,zaf K x H k/\p k:=by
 cases x <;> first | rfl | exact propext #[λq=>#[_,rfl,q],λ⟨_,h,q⟩=>by cases h;exact q]
def tTr(K:rT)(ta:TE):TT:=λσ H Q=>ta σ H λx H'=>zeA K x H' λk=>Q k H'
theorem zbT{K:rT}{ta:TE}{σ:L2.St}{H:Hp}{Q:Bool->Hp->Prop}:tTr K ta σ H Q=ta σ H λx H'=>zeA K x H' λk=>Q k H':=rfl
def tBl(ta:TE):TT:=λσ H Q=>ta σ H λx H'=>onBl x λk=>Q k H'
theorem zbe{ta:TE}{σ:L2.St}{H:Hp}{Q:Bool->Hp->Prop}:tBl ta σ H Q=ta σ H λx H'=>onBl x λk=>Q k H':=rfl
section
variable{X:Cx}{a:so}{ta:TE}
theorem xC(ha:PE X a ta)(he:∀whole,isTrue a X.env whole=(do let v <- whole;standAt a.pos;holding [v] (truthy v))):PT X a (tBl ta):=by
 intro AO s σ H Q I h;refine isTrue_plain (thn (ha AO s σ H _ I h) λv s1 ⟨x,H1,I1,r1,q1⟩=>?_) (he _);obtain⟨k,rfl,q1⟩:=onBl.of q1;exact K8 AO s1 σ H1 (.bl k) v Q I1 r1 #[k,rfl,q1]
end
end L3
namespace L3
noncomputable def Irv(K:rT)(a:rV)(n:Nat):It:=#[λi H=>∃xs,SqL K H a xs/\xs.length=n/\i<n,λi H v H'=>H'=H/\∀xs,SqL K H a xs->xs.length=n->xs[n - 1 - i]? = AK v,λi H=>i=n]
theorem Jt{P:sf}{w:sj}{K:rT}{tg:so}(a it:rV)(n:Nat):Jf P w K tg (Irv K a n) [it] it (λi h=>i<=n/\h.IsRevIter it a ((n:Int) - 1 - (i:Int))) where
 mem:=by simp
 obj:=λi h st b hb=>by
  have e:b=it:=by simpa using hb
  subst e;obtain⟨_,o,e,c,d⟩:=st;exact#[o,e,λv z=>by rw[d]at z;cases z]
 keep:=λi h h' st k=>#[st.1,st.2.at λo e=>k it (by simp) o e]
 item:=by
  intro X hP hw hK hc i AO s σ H E I hf st hg;subst hP hw hK;obtain⟨xs,hq,hn,hi⟩:=hg;obtain⟨its,rv,p,hz⟩:=I.list hq;obtain⟨f0,f1,f2,f3,f4,f5⟩:=hf it (by simp);have hx:xs[n - 1 - i]? = AK (xs[n - 1 - i]'(by lia)):=ah (by lia);generalize xs[n - 1 - i]'(by lia)=x at hx;obtain⟨u,hu,ru⟩:=rv.get hx;have st2:=st.2;have e:(n:Int) - 1 - (i:Int)=((n - 1 - i:Nat):Int):=by lia
  rw[e]at st2;refine wpAny_pyNext_rev_item st2 p.isList (x:=u) (by simpa using hu) λh' st' sb=>?_;have I1:Inv X AO σ H { s with heap:=h' }:=I.turned (t':=s.toks) (λb o hb e=>(sb.2 b hb).trans e) f0 f1 f3 f4 f5;have e2:((n - 1 - i:Nat):Int) - 1=(n:Int) - 1 - ((i+1:Nat):Int):=by lia
  rw[e2]at st';obtain⟨o,e,c,d⟩:=id st';exact#[u,rfl,WU (s:={ s with heap:=h' }) e c d (by decide) #[x,H,I1,ru,#[rfl,λys hy _=>by rw[I.list_inj hy hq];exact hx],#[hi,st'],λb hb=>(hf b hb).1]]
 done:=by
  intro X hP hw hK hc i AO s σ H E I hf st hg;subst hP hw hK;obtain⟨f0,f1,f2,f3,f4,f5⟩:=hf it (by simp);have hi:i=n:=hg;have st2:=st.2;rw[hi,show (n:Int) - 1 - (n:Int)=-1 by lia]at st2;exact wpAny_pyNext_rev_end (I.ok.hd hc) st2 λh' eb=>#[rfl,I.turned (t':=s.toks) (λb o hb e=>eb b o hb e) f0 f1 f3 f4 f5]
 self:=λ_ _ _ _ _ st h=>Ac st.2 h
theorem KM:sK "reversed" = AK (.type "reversed"):=PyProof.Rows.boot_reversed
section
variable{X:Cx}{tg:so}
def zge(K:rT)(ta:TA):TI:=λσ H R=>ta σ H λvs H1=>∃a xs,vs=[.ref a]/\SqL K H1 a xs/\R (Irv K a xs.length) H1
theorem zcR{a:so}{ta:TA}{p pos:sY}(hg:Gl X "reversed")(hm:X.mg "reversed" = AL)(ha:PA X [a] ta)(hs:rR [a] X.env=[(AN,eval a X.env)]:=by rfl) :
  PI X tg (.Call (.Name "reversed" p) [a] [] pos) (zge X.K ta):=by
 intro AO s σ H R I h;refine AJ (wH I hg hm KM (bv (thn (ha pos AO s σ H _ I h) λus s1 ⟨vs,H1,I1,r1,q1⟩=>?_) hs rfl));obtain⟨l,xs,e,hq,q⟩:=q1;subst e;obtain⟨u,rfl,ru⟩:=vn r1;cases ru;obtain⟨its,rv,pl,hz⟩:=I1.list hq;have hn:its.toArray.size=xs.length:=by rw[ak,<- rv.length]
 refine call_reversed_list pl.isList ?_
 have hit:(s1.heap.push (revObj l ((its.toArray.size:Int) - 1))).IsRevIter s1⁻¹ l ((xs.length:Int) - 1 - ((0:Nat):Int)):=by
  refine#[_,aB _ rfl,rfl,?_];rw[hn,show (xs.length:Int) - 1 - ((0:Nat):Int)=(xs.length:Int) - 1 by lia];rfl
 refine Ac (s:={ s1 with heap:=s1.heap.push (revObj l ((its.toArray.size:Int) - 1)) }) hit ?_;refine#[s1⁻¹,[s1⁻¹],_,_,H1,rfl,I1.kept (t':=s1.toks) λb o e=>aa _ e,Jt l _ xs.length,#[aD _,hit],λb hb=>?_,q];have e:b=s1⁻¹:=by simpa using hb
 subst e;exact I1.fpOk (al _) (I1.hok.fresh (al _))
end
section
variable{prog:sf}{w:sj}{A:sk}{E:rW->rX->Prop}{s:rX}
end
section
variable{X:Cx}
def zfh(K:rT)(ta:TA):TE:=λσ H Q=>ta σ H λvs H1=>∃a xs,vs=[.ref a]/\SqL K H1 a xs/\∀l,H1 l=AL->Q (.ref l) (upd H1 l (.lst xs.reverse))
theorem UV{K:rT}{ta:TA}{σ:L2.St}{H:Hp}{Q:VK}:zfh K ta σ H Q=ta σ H λvs H1=>∃a xs,vs=[.ref a]/\SqL K H1 a xs/\∀l,H1 l=AL->Q (.ref l) (upd H1 l (.lst xs.reverse)):=rfl
end
noncomputable def Izp(K:rT)(a b:rV):It:=#[λi H=>∃xs ys x y,SqL K H a xs/\SqL K H b ys/\xs[i]? = AK x/\ys[i]? = AK y,λi H v H'=>∃p x y,H p=AL/\(∀xs,SqL K H a xs->xs[i]? = AK x)/\(∀ys,SqL K H b ys->ys[i]? = AK y)/\v=.ref p/\H'=upd H p (.tup [x,y]),λi H=>∃xs ys,SqL K H a xs/\SqL K H b ys/\(xs.length=i\/ys.length=i)/\i<=xs.length/\i<=ys.length]
theorem wE{h:sq}{a b:rV}{o1 o2:sI}{t u:String}(h1:h.get? a=AK o1)(c1:o1.cls=.type t)(h2:h.get? b=AK o2)(c2:o2.cls=.type u)(hne:t≠u):a≠b:=λz=>by
 rw[z,h2]at h1;cases h1;rw[c2]at c1;exact hne (Value.type.inj c1).symm
structure zav(z TI TO i1 i2:rV):Prop where
 TIz:TI≠z
 TOz:TO≠z
 i1z:i1≠z
 i2z:i2≠z
 TITO:TI≠TO
 TIi1:TI≠i1
 TIi2:TI≠i2
 TOi1:TO≠i1
 TOi2:TO≠i2
 i12:i1≠i2
def ZipAt(z TI TO i1 i2 l1 l2:rV)(i:Nat)(h:sq):Prop:=tQ h z TI TO .none/\sQ h TI (.ref i1) (.ref i2)/\(∃a b,sQ h TO a b)/\h.IsListIter i1 l1 i/\h.IsListIter i2 l2 i
theorem ZipAt.apart{z TI TO i1 i2 l1 l2:rV}{i:Nat}{h:sq}{xs ys:Array rW}(D:zav z TI TO i1 i2)(st:ZipAt z TI TO i1 i2 l1 l2 i h)(h1:h.IsList l1 xs)(h2:h.IsList l2 ys):ZipApart z TI TO i1 i2 l1 l2:=by
 obtain⟨hz,hTI,⟨a,b,hTO⟩,⟨o1,e1,c1,_⟩,⟨o2,e2,c2,_⟩⟩:=st;obtain⟨p1,q1,k1,_⟩:=h1;obtain⟨p2,q2,k2,_⟩:=h2;exact#[D.TIz,D.TOz,D.i1z,D.i2z,D.TITO,D.TIi1,D.TIi2,D.TOi1,D.TOi2,D.i12,wE q1 k1 hz rfl (by decide),wE q1 k1 hTO rfl (by decide),wE q1 k1 e1 c1 (by decide),wE q1 k1 e2 c2 (by decide),wE q2 k2 hz rfl (by decide),wE q2 k2 hTO rfl (by decide),wE q2 k2 e1 c1 (by decide),wE q2 k2 e2 c2 (by decide)]
section
variable{X:Cx}
def zgw(K:rT)(ta:TA):TI:=λσ H R=>ta σ H λvs H1=>∃a b,vs=[.ref a,.ref b]/\(∃xs,SqL K H1 a xs)/\(∃ys,SqL K H1 b ys)/\R (Izp K a b) H1
end
def zgr(K:rT)(a b:rV)(g:TG)(tb:TS)(D:vq)(σ:L2.St)(H:Hp):Prop:=∃W:Nat->Nat->L2.St->Hp->Prop,(∃m,W 0 m σ H)/\∀i m σ H,W i m σ H ->
 ((Izp K a b).stop i H/\D.nx σ H)\/((Izp K a b).go i H/\∃N:L2.St->Hp->Prop,(∀σ' H',N σ' H'->∃m',m'<m/\W (i+1) m' σ' H')/\∀x H',(Izp K a b).yld i H x H'->g x σ H' λσ2 H2=>tb { D with nx:=N,ct:=N,bk:=D.nx } σ2 H2)
theorem zf3{K:rT}{ta:TA}{g:TG}{tb:TS}{D:vq}{σ:L2.St}{H:Hp}:KN (zgw K ta) g tb D σ H=ta σ H λvs H1=>∃a b,vs=[.ref a,.ref b]/\(∃xs,SqL K H1 a xs)/\(∃ys,SqL K H1 b ys)/\zgr K a b g tb D σ H1:=rfl
end L3
namespace L3
noncomputable abbrev xob(C:rV)(dx:Option rV)(t:rV)(tb:rW):sI:={ cls:=.ref C,dict:=dx,data:=.fields (List.toArray [.ref t,tb,.none,.none,.bool AN,.none]) }
noncomputable abbrev xog(C:rV)(dx:Option rV)(t:rV)(tb c:rW)(k:Bool):sI:={ cls:=.ref C,dict:=dx,data:=.fields (List.toArray [.ref t,tb,c,.none,.bool k,.none]) }
def zcq(h:sq)(x:rV)(tb:rW):Prop:=tb=.none\/∃T oT ts,tb=.ref T/\T≠x/\h.get? T=AK oT/\oT.data=.fields ts/\3<ts.size
section
variable{M:Aw}{A:sk}{E:rW->rX->Prop}{s:rX}{base:sq}{env env0:Aa}{outer:List Aa}{L x t C:rV}{dx:Option rV}{cx:rW}{kx:Bool}
theorem YC(h:env.frame=env0.frame):d4 env=d4 env0:=by unfold d4;rw[h]
theorem kN{tb head:rW}{hadNext:Bool}{Q:Unit->rX->Prop}(hfr:A.frames=AK (env0::outer))(hl:s.heap.FunFrames base (env0::outer))(hf:env0.frame=AK L)(he:env.frame=AK L)
  (hx:s.heap.get? x=AK (xog C dx t tb cx kx))
  (h:∀h' oT ts,h'.get? x=AK (xog C dx t (.ref s⁻¹) cx kx)->s⁻¹≠x->h'.get? s⁻¹=AK oT->oT.data=.fields ts->3<ts.size ->
   (∀b o,b≠x->b ∉ frs (env0::outer)->s.heap.get? b=AK o->h'.get? b=AK o)->(∀b o,b≠x->s.heap.get? b=AK o->∃sl,h'.get? b=AK { o with slots:=sl })->Q () { s with heap:=h' }) :
  rZ M A (do let a <- d4 env;let pl <- entryPlaceOf L hadNext;let b <- EntryCells.newEntry head a .none (rawInt L) .none pl;setField (.ref x) 1 b) Q E s:=by
 have hxf:x ∉ frs (env0::outer):=λhm=>by
  obtain⟨_,o,ho,hnf⟩:=hl.mem hm;rw[hx]at ho;cases ho;exact hnf _ rfl
 rw[YC (he.trans hf.symm)];refine rO (wpAny_frameOf_fun hfr hl hf λh1 hs1=>rO (wpAny_entryPlaceOf λpl hpl=>?_));unfold EntryCells.newEntry newFields;refine rO (Ar ?_ (hpl.sizeOk5 _ _ _ _ _));have hz:h1.objs.size=s⁻¹:=hs1.1;have hx1:h1.get? x=AK (xog C dx t tb cx kx):=(hs1.2.1 x hxf).trans hx;generalize ho:({ cls:=.type "traceback",dict:=AL,data:=.fields ([head,.ref L,.none,rawInt L,.none] ++ (if pl.isEmpty then aY 6 Value.none else pl)).toArray }:sI)=ob;have hx2:(h1.push ob).get? x=AK (xog C dx t tb cx kx):=aa _ hx1;refine sX hx2 rfl (by show 1<6;decide) ?_;have hne:h1.objs.size≠x:=ce (aq hx1)
 have hx3:((h1.push ob).update x (Obj.mapFields (·.setIfInBounds 1 (Value.ref h1.objs.size)))).get? x=AK (xog C dx t (.ref h1.objs.size) cx kx) :=
  bY (Obj.mapFields (·.setIfInBounds 1 (Value.ref h1.objs.size))) hx2 rfl
 have hT:((h1.push ob).update x (Obj.mapFields (·.setIfInBounds 1 (Value.ref h1.objs.size)))).get? h1.objs.size=AK ob :=
  (aF _ _ (Ne.symm hne)).trans (aB h1 (by rw[<- ho];rfl))
 rw[hz]at hx3 hT hne
 have kp:∀b o,b≠x->h1.get? b=AK o->((h1.push ob).update x (Obj.mapFields (·.setIfInBounds 1 (Value.ref h1.objs.size)))).get? b=AK o:=λb o hb e =>
  (aF _ _ (Ne.symm hb)).trans (aa _ e)
 rw[hz]at kp ⊢;refine h _ ob _ hx3 hne hT (by rw[<- ho]) (by simp only[ak,aj,aI,bT] <;> lia) (λb o hb hbf e=>kp b o hb ((hs1.2.1 b hbf).trans e)) λb o hb e=>?_;obtain⟨sl,q⟩:=hs1.2.2 b o e;exact#[sl,kp b _ hb q]
theorem ky{tb:rW}{Q:Unit->rX->Prop}(hfr:A.frames=AK (env0::outer))(hl:s.heap.FunFrames base (env0::outer))(hf:env0.frame=AK L)(he:env.frame=AK L)
  (hx:s.heap.get? x=AK (xog C dx t tb cx kx)) (htb:zcq s.heap x tb)
  (h:∀h' T oT ts,h'.get? x=AK (xog C dx t (.ref T) cx kx)->T≠x->(tb=.ref T\/s⁻¹<=T)->h'.get? T=AK oT->oT.data=.fields ts->3<ts.size ->
   (∀b o,b≠x->tb≠.ref b->b ∉ frs (env0::outer)->s.heap.get? b=AK o->h'.get? b=AK o)->(∀b o,b≠x->tb≠.ref b->s.heap.get? b=AK o->∃sl,h'.get? b=AK { o with slots:=sl })->Q () { s with heap:=h' }) :
  rZ M A (noteFrame (.ref x) env) (λ_ s1=>rZ M A (setFlight (.ref x) AL) Q E s1) E s:=by
 have land:∀(h1:sq) (T:rV) (oT:sI) (ts:Array rW),h1.get? x=AK (xog C dx t (.ref T) cx kx)->T≠x->(tb=.ref T\/s⁻¹<=T)->h1.get? T=AK oT->oT.data=.fields ts->3<ts.size ->
   (∀b o,b≠x->tb≠.ref b->b ∉ frs (env0::outer)->s.heap.get? b=AK o->h1.get? b=AK o)->(∀b o,b≠x->tb≠.ref b->s.heap.get? b=AK o->∃sl,h1.get? b=AK { o with slots:=sl }) ->
   rZ M A (setFlight (.ref x) AL) Q E { s with heap:=h1 }:=λh1 T oT ts e1 nT oldT e2 d2 z2 k1 k2=>by
  unfold setFlight;refine rO (sy (s:={ s with heap:=h1 }) e1 rfl (x:=.ref T) rfl ?_);rw[if_pos (show (Value.ref T != Value.none)=AM from by simp)];refine sX (s:={ s with heap:=h1 }) e2 d2 z2 ?_;have d3:=Obj.data_mapFields d2 (·.setIfInBounds 3 ((AL:Option rV).elim Value.none λf=>rawInt f))
  have nb:∀b,b≠x->tb≠.ref b->(∃o,s.heap.get? b=AK o)->b≠T:=λb hb hbt ⟨o,eo⟩ z=>by
   subst z;rcases oldT with q | q
   ·exact hbt q
   ·exact absurd (aq eo) (Nat.not_lt.mpr q)
  refine h _ T _ _ ((aF _ _ nT).trans e1) nT oldT (bY _ e2 (Obj.isFreed_of_fields d3)) d3 (by simpa using z2) (λb o hb hbt hbf e=>?_) λb o hb hbt e=>?_
  ·exact (aF _ _ (Ne.symm (nb b hb hbt #[o,e]))).trans (k1 b o hb hbt hbf e)
  ·obtain⟨sl,q⟩:=k2 b o hb hbt e;exact#[sl,(aF _ _ (Ne.symm (nb b hb hbt #[o,e]))).trans q]
 unfold noteFrame;simp only[he];refine rO (sy hx rfl (x:=tb) rfl ?_);rcases htb with rfl | ⟨T,oT,ts,rfl,nT,e2,d2,z2⟩
 ·rw[if_neg (by decide)];refine kN hfr hl hf he hx λh' oT ts e1 ne e2 d2 z2 k1 k2=>land h' _ oT ts e1 ne (.inr (al _)) e2 d2 z2 (λb o hb _ hbf e=>k1 b o hb hbf e) λb o hb _ e=>k2 b o hb e
 ·rw[if_pos (show (Value.ref T != Value.none)=AM from by simp)];obtain⟨y,hy⟩:∃y,ts[3]? = AK y:=#[ts[3],by simp [z2]];refine rO (sy e2 d2 (x:=y) hy ?_);by_cases c:(y == rawInt L)=AM
  ·rw[if_pos c];exact rP (land s.heap T oT ts hx nT (.inl rfl) e2 d2 z2 (λb o _ _ _ e=>e) λb o _ _ e=>#[o.slots,e])
  ·rw[if_neg c];refine rO (sX e2 d2 z2 ?_);have oth:∀b,b≠T->(s.heap.update T (Obj.mapFields (·.setIfInBounds 3 Value.none))).get? b=s.heap.get? b:=λb hb=>aF _ _ (Ne.symm hb);have hl1:(s.heap.update T (Obj.mapFields (·.setIfInBounds 3 Value.none))).FunFrames base (env0::outer):=hl.of_keeps λb o hb hnf=>#[o,(oth b λq=>by rw[q,e2]at hb;cases hb;exact hnf ts d2).trans hb,rfl];have hsz:(s.heap.update T (Obj.mapFields (·.setIfInBounds 3 Value.none))).objs.size=s⁻¹:=dm ..;refine kN (s:={ s with heap:=s.heap.update T (Obj.mapFields (·.setIfInBounds 3 Value.none)) }) hfr hl1 hf he ((oth x (Ne.symm nT)).trans hx) λh' oT' ts' e1 ne e2' d2' z2' k1 k2=>?_;refine land h' _ oT' ts' e1 ne (.inr (by rw[hsz];exact al _)) e2' d2' z2' (λb o hb hbt hbf e=>k1 b o hb hbf ((oth b λq=>hbt (by rw[q])).trans e)) λb o hb hbt e=>k2 b o hb ((oth b λq=>hbt (by rw[q])).trans e)
theorem zcC{tb:rW}{Q:Unit->rX->Prop}(hfr:A.frames=AK (env0::outer))(hl:s.heap.FunFrames base (env0::outer))(hf:env0.frame=AK L)(he:env.frame=AK L)
  (hx:s.heap.get? x=AK (xog C dx t tb cx kx)) (htb:zcq s.heap x tb)
  (h:∀h' T oT ts,h'.get? x=AK (xog C dx t (.ref T) cx kx)->T≠x->(tb=.ref T\/s⁻¹<=T)->h'.get? T=AK oT->oT.data=.fields ts->3<ts.size ->
   (∀b o,b≠x->tb≠.ref b->b ∉ frs (env0::outer)->s.heap.get? b=AK o->h'.get? b=AK o)->(∀b o,b≠x->tb≠.ref b->s.heap.get? b=AK o->∃sl,h'.get? b=AK { o with slots:=sl })->Q () { s with heap:=h' }) :
  rZ M A (leaving env (.ref x)) Q E s:=rO (ky hfr hl hf he hx htb h)
end
def CXx(P:sf)(w:sj):CXT:=λouter H s E e s'=>∃(x C t:rV) (dx:Option rV) (tb:rW) (H':Hp),e=.ref x/\s'.os=s.os/\tO s'.gens/\Un (frs outer) [] H H' s.heap s'.heap/\HOk P w H' s'.heap /\
 s'.heap.get? x=AK (xob C dx t tb)/\zcq s'.heap x tb/\H' x=AL/\s⁻¹<=x/\(∀T,tb=.ref T->H' T=AL/\s⁻¹<=T)/\E (.ref C) dx H'
def zeg(X:Cx)(E:XK)(e:rW)(s:rX):Prop:=∃(AO:List (rV × sI)) (σ:St) (H:Hp) (x C t:rV) (dx:Option rV) (tb:rW),e=.ref x/\Inv X AO σ H s /\
 s.heap.get? x=AK (xob C dx t tb)/\zcq s.heap x tb/\wg X AO H x/\(∀T,tb=.ref T->wg X AO H T)/\E (.ref C) dx H
def XE(X:Cx)(E:XK):Prop:=∀e s,zeg X E e s->X.xe e s
theorem Wb{X:Cx}{E:XK}(hx:XE X E):uS (CXx X.prog X.w) X E:=by
 intro AO σ H s e s' I h;obtain⟨x,C,t,dx,tb,H',rfl,os,bare,un,hok,ob,tr,hn,hsz,hT,q⟩:=h;have I':Inv X AO σ H' s':=I.call' os un hok bare λb z=>absurd z (by simp);exact hx _ _ #[AO,σ,H',x,C,t,dx,tb,rfl,I',ob,tr,I.fpOk hsz hn,λT e=>I.fpOk (hT T e).2 (hT T e).1,q]
theorem zdL{P:sf}{w:sj}{K:rT}{mg:si->Option rW}{base:sq}{N:List si}{qual:si}{scope:sP}{f:rV}{cd:rW}{A:sk}{outer:List Aa}{s:rX}{H:Hp}{E:XK} :
  XE (qi (CXx P w) P w K mg base N qual scope f cd A outer s H E) E:=by
 intro e s1 h;obtain⟨AO,σ,H1,x,C,t,dx,tb,rfl,I,ob,tr,fx,fT,q⟩:=h;show rZ _ _ (leaving _ (.ref x)) _ _ s1;have ff:=I.stack;refine zcC (A:=(qi (CXx P w) P w K mg base N qual scope f cd A outer s H E).A) (env0:=tN qual scope s⁻¹ f cd) (outer:=outer) I.ok.frames ff rfl rfl ob tr λh' T oT ts e1 nT oldT e2 d2 z2 k1 k2=>?_;have szs:s⁻¹<=s1⁻¹:=I.sz
 have hxs:s⁻¹<=x:=by
  rcases fx.2.2.2.1 with z | z
  ·exact absurd z (by simp [qi])
  ·exact z
 have hTs:s⁻¹<=T/\H1 T=AL:=by
  rcases oldT with z | z
  ·obtain⟨a0,_,_,a3,_⟩:=fT T z;rcases a3 with y | y
   ·exact absurd y (by simp [qi])
   ·exact#[y,a0]
  ·exact#[aN szs z,I.hok.fresh z]
 have tbs:∀b,tb=.ref b->s⁻¹<=b/\H1 b=AL:=λb hb=>by
  obtain⟨a0,_,_,a3,_⟩:=fT b hb;rcases a3 with y | y
  ·exact absurd y (by simp [qi])
  ·exact#[y,a0]
 have old:∀b o,s.heap.get? b=AK o->b≠x/\tb≠.ref b:=λb o e=>by
  have hb:=aq e;refine#[az (aw hb hxs),λz=>?_];exact absurd (aw hb (tbs b z).1) (cJ _)
 have un:Un (frs outer) [] H H1 s.heap h':=by
  have B:=I.base;refine#[λb o e n hb _=>?_,λb o e n hb _=>?_,λb o e n _=>B.free b o e n (by simp [qi]),λb o e _=>?_,B.tups,B.frzs,B.tbls]
  ·have e1:=B.keep b o e n hb (by simp [qi]);refine k1 b o (old b o e).1 (old b o e).2 (λz=>?_) e1;have z':=I.stkSub b z;rcases AV.mp z' with q | q
   ·exact absurd q (az (aw (aq e) I.ok.above))
   ·exact hb q
  ·obtain⟨sl,e1⟩:=B.slot b o e n hb (by simp [qi]);obtain⟨sl',e2⟩:=k2 b _ (old b o e).1 (old b o e).2 e1;exact#[sl',e2]
  ·obtain⟨o',e1⟩:=B.there b o e (by simp [qi]);obtain⟨sl',e2⟩:=k2 b _ (old b o e).1 (old b o e).2 e1;exact#[_,e2]
 have hok:HOk P w H1 h':=λb u e=>by
  refine (I.hok b u e).stay (λc v hc q=>k1 c v ?_ ?_ ?_ q) (λ_ q=>q) λ_ _ q=>q
  ·rintro rfl;rcases hc with rfl | hc
   ·rw[fx.1]at e;cases e
   ·rw[fx.1]at hc;cases hc
  ·intro z;have:=(tbs c z).2;rcases hc with rfl | hc
   ·rw[this]at e;cases e
   ·rw[this]at hc;cases hc
  ·intro z;have:=I.stkFree c z;rcases hc with rfl | hc
   ·rw[this]at e;cases e
   ·rw[this]at hc;cases hc
 exact#[x,C,t,dx,.ref T,H1,rfl,I.os,I.bare,un,hok,e1,.inr #[T,oT,ts,rfl,nT,e2,d2,z2],fx.1,hxs,λT' z=>by cases z;exact#[hTs.2,hTs.1],q]
theorem Fun.okX{P:sf}{w:sj}{K:rT}{mg:si->Option rW}{base:sq}{x qual:si}{st:sr}{f:rV}{fd:rY}{N ps:List si}{k:Nat}{sp:Sp}(F:Fun K x qual st f fd)(S:zk N ps (zh st))(len:∀vs H Q E,sp vs H Q E->vs.length=ps.length)
  (hbody:∀(cdv:rW) (A:sk) (outer:List Aa) (s:rX) (H:Hp) (vs:List V) (Q:VK) (E:XK),Room k (A.deeper (tN qual (zh st) s⁻¹ f cdv))->XE (qi (CXx P w) P w K mg base N qual (zh st) f cdv A outer s H E) E->sp vs H Q E ->
   ∃t,PSs (qi (CXx P w) P w K mg base N qual (zh st) f cdv A outer s H E) (yg st) t/\t { nx:=λ_ H'=>Q .non H',rt:=Q } (start N vs) H):zP P w K mg base (CXx P w) (k+1) f fd ps sp:=by
 obtain⟨oc,od,kV,doc,pm,an,cdv,ct,osl,rfl,lk,hcd⟩:=F.ex;exact JC lk hcd S len λA outer s H vs Q E hr hsp=>hbody cdv A outer s H vs Q E hr zdL hsp
def zd6(X:Cx)(E:XK)(e:rW)(s:rX):Prop:=∃(cx:rW) (kx:Bool) (AO:List (rV × sI)) (σ:St) (H:Hp) (x C t:rV) (dx:Option rV) (tb:rW),e=.ref x/\Inv X AO σ H s /\
 s.heap.get? x=AK (xog C dx t tb cx kx)/\zcq s.heap x tb/\wg X AO H x/\(∀T,tb=.ref T->wg X AO H T)/\E (.ref C) dx H
def XEg(X:Cx)(E:XK):Prop:=∀e s,zd6 X E e s->X.xe e s
end L3
namespace L3
structure RoomH(k:Nat)(A:sk):Prop where
 dp:A.depth+3 * k+5<Af
 un:A.units+16 * k+200<cLine
theorem RoomH.mark{k:Nat}{A:sk}(r:RoomH k A)(e:Option rW):RoomH k (A.mark e):=#[r.dp,r.un]
noncomputable def cxH(P:sf)(w:sj)(K:rT)(mg:si->Option rW)(base:sq)(N:List si)(qual:si)(scope:sP)(f:rV)(cd:rW)(A:sk)(outer:List Aa)(s:rX)(H:Hp):Cx :=
 { qi CX0 P w K mg base N qual scope f cd A outer s H E0 with calm:=AN,xe:=λ_ _=>False }
section
variable{X:Cx}{k:Nat}{f:rV}{fd:rY}{ps:List si}{sp:Sp}{x:si}{p pos:sY}{e:so}{es:List so}{t:TA}
end
end L3
namespace L3
noncomputable abbrev bmV:List rW:=[.type "ValueError",.type "Exception",.type "BaseException",.type "object"]
noncomputable def ZK(K:rT)(C:rV):Bool:=match K.lookup C with
 | some ⟨.type "type",_,.cls cd,sl⟩=>(match cd.mro,sl.toList with
  | .ref C'::bm,[_,_,_,_,AK (.builtin n),_]=>C' == C && (n == "ValueError.__new__" && (!cd.hasDel && (cd.hasDict && PySem.W.tailIn K bmV bm)))
  | _,_=>AN)
 | _=>AN
theorem ug{K:rT}{C:rV}(q:ZK K C=AM):∃bm N nm qn bs sn sub ab col dd k0 k1 k2 k3 k5,K.lookup C=AK (Ag nm qn C N bs bm AM sn sub ab col dd k0 k1 k2 k3 k5 "ValueError.__new__")/\∀h:sq,K.In h->OwnTail h bmV bm:=by
 unfold ZK at q;split at q
 ·rename_i dd cd sl ho;split at q
  ·rename_i C' bm k0 k1 k2 k3 n k5 hm hs;simp only[bV,beq_iff_eq,d8]at q;obtain⟨rfl,rfl,hdel,hdct,ht⟩:=q;obtain⟨nm,bs,mro,ns,qn,hd,sn,sub,ab,col,del⟩:=cd;dsimp only at hm hdel hdct;subst hm hdel hdct
   have hsl:sl=(List.toArray [k0,k1,k2,k3,AK (.builtin "ValueError.__new__"),k5]):=by
    obtain⟨l⟩:=sl;simp only at hs;rw[hs]
   subst hsl;exact#[bm,ns,nm,qn,bs,sn,sub,ab,col,dd,k0,k1,k2,k3,k5,ho,λh X=>PySem.W.tail_of_in X ht]
  ·cases q
 ·cases q
structure XC(K:rT)(C:rV):Prop where
 ok:ZK K C=AM
 sa:ac K (.ref C) "__setattr__" = AK (AK (.builtin "object.__setattr__"))
 ga:ac K (.ref C) "__getattribute__" = AK (AK (.builtin "BaseException.__getattribute__"))
 gt:ac K (.ref C) "__getattr__" = AK AL
 kp:aH K (.ref C)=AM
section
variable{prog:sf}{w:sj}{A:sk}{R:Ah->rX->Prop}{h:sq}{g:Array Ay}{d:Drawn}{t:Nat}{os:OsState}{K:rT}{C:rV}
theorem X8{init:rW}{rest:List rW}(X:K.In h)(q:ZK K C=AM)(hi:ac K (.ref C) "__init__" = AK (AK init))
  (hb:∀self,PySem.W.Looks (model prog w) h (bindSpecial init self) (init,[self])) (hrest:rest.length<=rS)
  (hq:tB (model prog w) (A.under (.builtin "type.__call__" #[.ref C::rest,[]])) (.call init #[.ref (h.objs.size+1)::rest,[]]) (PySem.W.InitBack (h.objs.size+1) R) #[(h.push { cls:=.type "tuple",data:=.seq rest.toArray }).push (xob C AL h.objs.size .none),g,d,t,os]) :
  tB (model prog w) A (.call (.ref C) #[rest,[]]) R #[h,g,d,t,os]:=by
 obtain⟨bm,N,nm,qn,bs,sn,sub,ab,col,dd,k0,k1,k2,k3,k5,lk,tl⟩:=ug q;have hC:=X _ _ lk;have T:=tl h X;have F:=d5;have f1:=tc_lookup;have f2:=tc_bind (.ref C);have hT:(#[h,g,d,t,os]:rX).TypeIs (.ref C) "type":=#[_,hC,rfl];refine codeAny_of_tree ?_;show rZ _ _ (callAny (.ref C) _) _ _ _
 repeat (any_goals (first | assumption | with_reducible refine sN hC ?_ | wp_step))
 refine#[rfl,?_];refine codeAny_call_builtin_at (Code.quiet_builtin _ (by symm)) entry_typeCall (wpAny_check_type_call_sub hC ?_)
 repeat (first | with_reducible refine sN hC ?_ | with_reducible refine wpAny_madeBy_exc hC ?_ | wp_step)
 refine codeAny_call_builtin_code (Code.quiet_builtin _ F.quiet) (wpAny_check_new_subT F T hC ?_);refine codeAny_exc_new_subT F T hC ?_ hrest;show rZ _ _ _ _ _ _;have k:∀b o,h.get? b=AK o->((h.push { cls:=.type "tuple",data:=.seq rest.toArray }).push (xob C AL h.objs.size .none)).get? b=AK o:=λb o e=>aa _ (aa _ e);have hC1:=k _ _ hC;have hget:((h.push { cls:=.type "tuple",data:=.seq rest.toArray }).push (xob C AL h.objs.size .none)).get? (h.objs.size+1)=AK (xob C AL h.objs.size .none):=by heap_get
 have hcC:(Value.ref C::bm).contains (.ref C)=AM:=by simp
 unfold isInstance
 repeat (first | with_reducible refine sN hget ?_ | wp_step)
 refine tD (C:=C) hC1 ?_;rw[hcC]
 repeat wp_step
 show rZ _ _ (typeLookup (.ref C) _) _ _ _;refine ((cD X hi).keeps k).at ?_;refine sJ (rO (((hb _).keeps k).at ?_));refine rO (tu (tz hq λr s' z=>?_));rcases r with e | (v | _ | _ | _) <;> first | exact z | exact z.elim | skip;obtain⟨rfl,z⟩:=z;exact rP (rP z)
end
end L3
namespace L3
noncomputable def XN(x C:rV)(dx:Option rV):HO:=.ext λh=>∃t,h.get? x=AK (xob C dx t .none)
noncomputable def XT(x C:rV)(dx:Option rV):HO:=.ext λh=>∃t tb c k,h.get? x=AK (xog C dx t tb c k)
noncomputable def XP(x C:rV)(dx:Option rV):HO:=.ext λh=>∃t tb,h.get? x=AK (xob C dx t tb)
theorem zdo{P:sf}{w:sj}{H:Hp}{h:sq}{x C t:rV}{dx:Option rV}(e:h.get? x=AK (xob C dx t .none)):ObjOk P w H h x (XN x C dx) :=
 #[#[t,e],#[_,e],λh1 h2 ⟨t,q⟩ k=>#[t,k _ q]]
theorem zeo{P:sf}{w:sj}{H:Hp}{h:sq}{x C t:rV}{dx:Option rV}{tb c:rW}{k:Bool}(e:h.get? x=AK (xog C dx t tb c k)):ObjOk P w H h x (XT x C dx) :=
 #[#[t,tb,c,k,e],#[_,e],λh1 h2 ⟨t,tb,c,k',q⟩ k=>#[t,tb,c,k',k _ q]]
theorem zde{P:sf}{w:sj}{H:Hp}{h:sq}{x C:rV}{dx:Option rV}(o:ObjOk P w H h x (XN x C dx)):∃t,h.get? x=AK (xob C dx t .none):=o.1
theorem zfk{P:sf}{w:sj}{H:Hp}{h:sq}{x C:rV}{dx:Option rV}(o:ObjOk P w H h x (XT x C dx)):∃t tb c k,h.get? x=AK (xog C dx t tb c k):=o.1
section
variable{nm q:si}{C N:rV}{bs bm:List rW}{hdct:Bool}{sn:List si}{sub:List rW}{ab:Bool}{col:Option Bool}{dd:Option rV}{k0 k1 k2 k3 k5:Option rW}{newId:String}{h:sq}{M:Aw}
theorem ZT(hC:h.get? C=AK (Ag nm q C N bs bm hdct sn sub ab col dd k0 k1 k2 k3 k5 newId))(base:rW):PySem.W.Looks M h (isSubtype (.ref C) base) ((Value.ref C::bm).contains base):=λA Q E s k z=>by
 obtain⟨hp,g,d,t,os⟩:=s;exact tD (k _ _ hC) z
theorem Je(hC:h.get? C=AK (Ag nm q C N bs bm hdct sn sub ab col dd k0 k1 k2 k3 k5 newId)):PySem.W.Looks M h (mroOf (.ref C)) (.ref C::bm):=λA Q E s k z=>by
 obtain⟨hp,g,d,t,os⟩:=s;exact wpAny_mroOf_exc (k _ _ hC) z
theorem VU(hC:h.get? C=AK (Ag nm q C N bs bm hdct sn sub ab col dd k0 k1 k2 k3 k5 newId)):PySem.W.Looks M h (classData C) { name:=nm,bases:=bs,mro:=.ref C::bm,ns:=N,qualname:=q,hasDict:=hdct,slotNames:=sn,subclasses:=sub,abstract:=ab,collection:=col,hasDel:=AN }:=λA Q E s k z=>by
 unfold classData;exact rO (wpAny_load (k _ _ hC) (rP z))
theorem YO{bmB bm:List rW}(T:OwnTail h bmB bm)(self:rW)(hp:refuseLoop self "__setattr__" bmB=pure ()):refuseLoop self "__setattr__" bm=pure ():=by
 induction T with
 | base=>exact hp
 | own _ _ _ _ ih=>rw[refuseLoop_ref];exact ih
end
section
variable{X:Cx}{AO:List (rV × sI)}{σ:St}{H:Hp}{s:rX}{A:sk}{E:rW->rX->Prop}{x C:rV}{f:si}{y:V}{u:rW}
theorem zbq{Q:Unit->rX->Prop}(I:Inv X AO σ H s)(e:H x=AK (XN x C AL))(xc:XC X.K C)(n:NoAttr X.K C f)(ry:RelV y u)
  (h:∀s' dx,H dx=AL->Inv X AO σ (upd (upd H dx (.xd [(f,y)])) x (XN x C (AK dx))) s'->Q () s'):rZ (model X.prog X.w) A (setAttr (.ref x) f u) Q E s:=by
 obtain⟨t,ob⟩:=zde (I.hok x _ e);obtain⟨bm,N,nm,qn,bs,sn,sub,ab,col,dd,k0,k1,k2,k3,k5,lk,tl⟩:=ug xc.ok;have hC:=I.kIn _ _ lk;have T:=tl _ I.kIn;have SF:=PySem.F.store_ValueError;have J:PySem.W.InstAt s.heap x (xob C AL t .none) C AL:=#[ob,rfl,rfl,trivial];have hob:(Value.ref C::bm).contains (.type "object")=AM:=by rw[de,T.hasType (show bmV.contains (.type "object")=AM by symm),dw]
 have isO:PySem.W.Looks (model X.prog X.w) s.heap (isInstance (.ref x) (.type "object")) AM:=J.type.andThen (by have:=ZT (M:=model X.prog X.w) hC (.type "object");rw[hob]at this;exact this);refine fG I.kIn J xc.sa ?_;refine tL SF.slot.plain SF.entry (@PySem.W.check_slot (model X.prog X.w) _ _ { s with toks:=s.toks+1 } "object.__setattr__" "object" "__setattr__" (.ref x) [.str f s.toks,u] [] _ SF.kind SF.split isO (SF.args _ _ _) ?_);rw[PySem.W.osa_eq,refuse_eq];refine rO (rO (J.type.here (s:={ s with toks:=s.toks+1 }) (rO ((Je hC).here (s:={ s with toks:=s.toks+1 }) ?_))));rw[refuseLoop_ref,YO T _ (SF.passes _)];refine rP (rO (J.type.here (s:={ s with toks:=s.toks+1 }) (rO ((cD I.kIn n).here (s:={ s with toks:=s.toks+1 }) (rO (rP ?_))))));show rZ _ _ (Builtin.ObjectAttr.storeInOwnDict (.ref x) (.ref C) (.str f s.toks) f u AN) _ _ _;have hx1:(s.heap.push { cls:=.type "dict",data:=.dict #[] }).get? x=AK (xob C AL t .none):=aa _ ob;have hxs:x≠s⁻¹:=az (aq ob);refine rO (rP (rO (rO (Ae ob (rO ((VU hC).here (s:={ s with toks:=s.toks+1 }) ?_))))));rw[if_neg (by simp)];show rZ _ _ (if (!AM || !typeHasDict (.ref C))=AM then _ else _) _ _ _;rw[if_neg (by simp [typeHasDict])]
 have hgd:((s.heap.push { cls:=.type "dict",data:=.dict #[] }).update x λo=>{ cls:=o.cls,dict:=AK s⁻¹,data:=o.data,slots:=o.slots }).get? s⁻¹=AK { cls:=.type "dict",data:=.dict #[] } :=
  (aF _ _ hxs).trans (Heap.get?_push_at rfl rfl)
 have hgx:((s.heap.push { cls:=.type "dict",data:=.dict #[] }).update x λo=>{ cls:=o.cls,dict:=AK s⁻¹,data:=o.data,slots:=o.slots }).get? x=AK (xob C (AK s⁻¹) t .none) :=
  bY _ hx1 rfl
 have hnd:((s.heap.push { cls:=.type "dict",data:=.dict #[] }).update x λo=>{ cls:=o.cls,dict:=AK s⁻¹,data:=o.data,slots:=o.slots }).Ns s⁻¹ (λ_=>AL) :=
  #[_,#[],_,hgd,rfl,λe he=>absurd he (by simp),λ_=>rfl]
 refine rO (wpAny_alloc' (rO (wpAny_update' hx1 (rP ?_))));show rZ _ _ (Builtin.ObjectAttr.storeInDict s⁻¹ (.str f s.toks) f u) _ _ _;unfold Builtin.ObjectAttr.storeInDict Builtin.ObjectAttr.newKeyGuard;refine rO (rP (rO (wpAny_nsSet1 (Heap.Ns1.of_empty hnd) λh' hn' hs=>?_)));obtain⟨oD,esD,epD,hoD,hdD,hcD⟩:=hn'.count (Within.cons f u Within.nil);refine rO (AA hoD (by rw[hdD];exact pastItsLine_dict (aN hcD (by rw[aI,bT,sF];lia))) ?_);refine rP ?_;have hx2:h'.get? x=AK (xob C (AK s⁻¹) t .none):=(hs.2 x hxs).trans hgx;have hfr:H s⁻¹=AL:=I.hok.fresh (al _);have hxe:x≠s⁻¹:=hxs;refine h _ s⁻¹ hfr ?_
 have k0:∀b o,b≠x->s.heap.get? b=AK o->h'.get? b=AK o:=λb o hb q =>
  (hs.2 b (az (aq q))).trans ((aF _ _ (Ne.symm hb)).trans (aa _ q))
 have I1:Inv X AO σ (upd H x (XN x C (AK s⁻¹))) { s with heap:=h',toks:=s.toks+1+1 } :=
  I.write (x:=x) (e:=x) (by rw[e];exact True.intro) (.inl rfl) k0 ⟨_,hx2⟩ (zdo hx2)
 have hd2:ObjOk X.prog X.w (upd (upd H x (XN x C (AK s⁻¹))) s⁻¹ (.xd [(f,y)])) h' s⁻¹ (.xd [(f,y)]):=by
  refine#[_,hn',λg=>?_];show RelO (bf g [(f,y)]) (if g=f then AK u else AL);by_cases q:g=f
  ·subst q;rw[if_pos rfl];simp [bf,RelO,ry]
  ·rw[if_neg q];have q':(g == f)=AN:=by simpa using q
   simp [bf,q',RelO]
 have fd:wg X AO (upd H x (XN x C (AK s⁻¹))) s⁻¹:=I.fpOk (al _) (by rw[zm (Ne.symm hxe)];exact hfr);have I2:=Inv.track I1 fd hd2
 have eH:upd (upd H x (XN x C (AK s⁻¹))) s⁻¹ (.xd [(f,y)])=upd (upd H s⁻¹ (.xd [(f,y)])) x (XN x C (AK s⁻¹)):=by
  funext b;unfold upd;by_cases b1:b=s⁻¹
  ·subst b1;rw[if_pos rfl,if_neg (Ne.symm hxe),if_pos rfl]
  ·by_cases b2:b=x
   ·subst b2;rw[if_neg b1,if_pos rfl,if_pos rfl]
   ·rw[if_neg b1,if_neg b2,if_neg b2,if_neg b1]
 rw[eH]at I2;exact I2
end
end L3
namespace L3
def zbt(K:rT)(ta tv:TE)(f:si):TS:=λD σ H=>tv σ H λy H1=>ta σ H1 λo H2=>∃x C,o=.ref x/\H2 x=AK (XN x C AL)/\XC K C/\NoAttr K C f/\∀dx,H2 dx=AL->D.nx σ (upd (upd H2 dx (.xd [(f,y)])) x (XN x C (AK dx)))
section
variable{X:Cx}{o value:so}{f:si}{pos pos':sY}{ta tv:TE}
theorem QQ(ha:PE X o ta)(hv:PE X value tv)(hs:swapsWith value (AK (.Attribute o f pos')) pos.line X.env=pure AN):PS X (.Assign [.Attribute o f pos'] value pos) (zbt X.K ta tv f):=by
 intro AO s σ H D I h;refine tI (thn (hv AO s σ H _ I h) λu s1 ⟨y,H1,I1,ry,q⟩=>thn (ha AO s1 σ H1 _ I1 q) λov s2 ⟨x',H2,I2,rx,x,C,ex,e,xc,n,q2⟩=>?_) hs;subst ex;obtain rfl:ov=Value.ref x:=rx;exact zbq I2 e xc n ry λs3 dx hdx I3=>#[σ,_,I3,q2 dx hdx]
end
section
variable{M:Aw}{A:sk}{E:rW->rX->Prop}{s:rX}{env:Aa}
theorem Uf{K:rT}{x:AD rW}{Q:Flow->rX->Prop}(hh:A.handled=AL)
  (h:rZ M A x (λv s1=>∃e C t dx,v=.ref e/\K.In s1.heap/\ZK K C=AM/\s1.heap.get? e=AK (xob C dx t .none)/\E (.ref e) s1) E s):rZ M A (raiseStmt env (AK x) AL) Q E s:=by
 unfold raiseStmt;refine rO (thn h λv s1 h1=>?_);obtain⟨e,C,t,dx,rfl,X,hC,he,hE⟩:=h1;obtain⟨bm,N,nm,qn,bs,sn,sub,ab,col,dd,k0,k1,k2,k3,k5,lk,tl⟩:=ug hC;have hCo:=X _ _ lk;have T:=tl _ X;have hcB:(Value.ref C::bm).contains (.type "BaseException")=AM:=by rw[de,T.hasType (show bmV.contains (.type "BaseException")=AM by symm),dw]
 obtain⟨hp,g,d,tk,os⟩:=s1
 repeat (first | with_reducible refine sN he ?_ | with_reducible refine sN hCo ?_ | (with_reducible refine tD hCo ?_;rw[hcB]) | wp_step)
 exact wpAny_raiseNew_none hh hE
theorem Qk{K:rT}{e:so}{pos:sY}{Q:Flow->rX->Prop}(hh:A.handled=AL)
  (h:rZ M A (eval e env) (λv s1=>∃a C t dx,v=.ref a/\K.In s1.heap/\ZK K C=AM/\s1.heap.get? a=AK (xob C dx t .none)/\E (.ref a) s1) E s):rZ M A (exec (.Raise (AK e) AL pos) env) Q E s:=by
 rw[arm_exec_Raise]
 first
  | exact rO (sU (Uf hh (rO (thn h λv s1 h1=>rO (sU (rP h1))))))
  | (simp only[evalOpt,Option.map];exact rO (sU (Uf hh (rO (thn h λv s1 h1=>rO (sU (rP h1)))))))
end
noncomputable def del(H:Hp)(x:rV):Hp:=λb=>if b=x then AL else H b
theorem U4{H:Hp}{x b:rV}(h:b≠x):del H x b=H b:=if_neg h
theorem WE{H:Hp}{x:rV}:del H x x=AL:=if_pos rfl
section
variable{X:Cx}{AO:List (rV × sI)}{σ:St}{H:Hp}{s:rX}
theorem Inv.untrack{x:rV}{φ:sq->Prop}(I:Inv X AO σ H s)(e:H x=AK (.ext φ))(hs:X.s₀.heap.objs.size<=x):Inv X AO σ (del H x) s:=by
 have nx:∀b u,H b=AK u->(∀ψ,u≠.ext ψ)->b≠x:=λb u q nu z=>by subst z;rw[e]at q;cases q;exact nu _ rfl
 have hn:∀b,b≠x->del H x b=H b:=λb hb=>U4 hb;have es:s={ s with heap:=s.heap,gens:=s.gens,drawn:=s.drawn,toks:=s.toks }:=rfl;rw[es]
 refine I.step (g':=s.gens) (d':=s.drawn) (ch:=[x]) (λb hb=>?_) (λb o _ _ _ q _=>q) (λb o _ _ _ q _=>#[o.slots,q]) (λb o hc _ n=>?_)
  (λb o _ q=>#[o,q]) (λb xs q=>?_) (λb u xs q=>?_) (λb ps q=>?_) (λm hm=>hm) (λb u q=>?_) I.bare
 ·have eb:b=x:=by simpa using hb
  subst eb;refine#[.inr hs,λz=>?_,λy c q z=>?_,λp hp z=>?_]
  ·rw[z,I.free]at e;cases e
  ·have:=I.freeC y c q;rw[z,e]at this;cases this
  ·have:=(I.pin p hp).2.1;rw[z,e]at this;cases this
 ·rw[hn b (by simpa using hc)];exact n
 ·rw[hn b (nx b _ q λ_ z=>by cases z)];exact q
 ·rw[hn b (nx b _ q λ_ z=>by cases z)];exact q
 ·exact#[#[],by rw[hn b (nx b _ q λ_ z=>by cases z),q];simp]
 ·by_cases hb:b=x
  ·subst hb;rw[WE]at q;cases q
  ·rw[hn b hb]at q;exact (I.hok b u q).stay (λc v _ z=>z) (λc z=>by rw[hn c (nx c _ z λ_ y=>by cases y)];exact z) λc xs z=>by rw[hn c (nx c _ z λ_ y=>by cases y)];exact z
theorem W6{C:rV}{us:List rW}{E:rW->rX->Prop}{Q:rW->rX->Prop}(I:Inv X AO σ H s)(xc:ZK X.K C=AM)(hi:ac X.K (.ref C) "__init__" = AK (AK (.builtin "ValueError.__init__")))(hl:us.length<=rS)
  (h:∀s' x t,s⁻¹<=x->Inv X AO σ H s'->s'.heap.get? x=AK (xob C AL t .none)->Q (.ref x) s'):rZ (model X.prog X.w) X.A (call (.ref C) us) Q E s:=by
 have F:=d5;obtain⟨bm,N,nm,qn,bs,sn,sub,ab,col,dd,k0,k1,k2,k3,k5,lk,tl⟩:=ug xc;have hC:=I.kIn _ _ lk;have T:=tl _ I.kIn;obtain⟨hp,g,d,t,os⟩:=s;have k:∀b o,hp.get? b=AK o->((hp.push { cls:=.type "tuple",data:=.seq us.toArray }).push (xob C AL hp.objs.size .none)).get? b=AK o:=λb o e=>aa _ (aa _ e);refine tu (X8 I.kIn xc hi (λself=>PySem.W.Looks.of_pure (F.init.bind self)) hl ?_);have hget:((hp.push { cls:=.type "tuple",data:=.seq us.toArray }).push (xob C AL hp.objs.size .none)).get? (hp.objs.size+1)=AK (xob C AL hp.objs.size .none):=by heap_get
 refine tL F.init.plain F.initEntry (wpAny_check_init_subT F (T.keeps k) (k _ _ hC) hget rfl ?_)
 wp_walk
 refine#[rfl,h _ (hp.objs.size+1) ((hp.push { cls:=.type "tuple",data:=.seq us.toArray }).push (xob C AL hp.objs.size .none)).objs.size (cN _) (I.kept (t':=t) λb o e=>?_) ?_]
 ·exact (aF _ _ (ce (cP (aq e)))).trans (aa _ (k b o e))
 ·exact bY (Obj.mapFields λx=>x.setIfInBounds 0 (Value.ref ((hp.push { cls:=.type "tuple",data:=.seq us.toArray }).push (xob C AL hp.objs.size .none)).objs.size)) (aa _ hget) rfl
def YQ(E:XK)(C:rV)(t:TA):TS:=λ_ σ H=>t σ H λvs H1=>vs.length<=rS/\E (.ref C) AL H1
theorem z6{E:XK}{C:rV}{cn:si}{np cpos pos:sY}{e:so}{es:List so}{t:TA}(hx:XE X E)(hc:X.calm=AM)(xc:XC X.K C)(hi:ac X.K (.ref C) "__init__" = AK (AK (.builtin "ValueError.__init__")))(hg:Gl X cn)(hm:X.mg cn=AK (.ref C))(ha:PA X (e::es) t)
  (hdb:(cn ==("__debug__" : si))=AN:=by decide) (he:rR (e::es) X.env=(AN,eval e X.env)::rR es X.env:=by rfl) (hpl:(sw cpos (rR es X.env)).any (·.1)=AN:=by rfl) :
  PS X (.Raise (AK (.Call (.Name cn np) (e::es) [] cpos)) AL pos) (YQ E C t):=by
 intro AO s σ H D I h;refine Qk (K:=X.K) (I.ok.hd hc) (sE (vA I hg hm ?_ hdb));refine bN (h₀:=X.base) I.ok.mod.kin xc.kp (thn (ha cpos AO s σ H _ I h) λus s1 ⟨vs,H1,I1,r,z,q⟩=>#[I1.kIn,?_]) he hpl;refine W6 (us:=[] ++ us) I1 xc.ok hi (by show us.length<=rS;rw[<- r.length];exact z) λs2 x t hz I2 ob=>#[x,C,t,AL,rfl,I2.kIn,xc.ok,ob,?_];exact hx _ _ #[AO,σ,H1,x,C,t,AL,.none,rfl,I2,ob,.inl rfl,I1.fpOk hz (I1.hok.fresh hz),λT z=>(by cases z),q]
theorem Ug{A:sk}{C:rV}{us:List rW}{k:Nat}(r:Room (k+1) A):Room k (A.under (.builtin "type.__call__" #[.ref C::us,[]])):=r.make C us []
def Xd(E:XK)(C:rV)(sp:Sp)(t:TA):TS:=λ_ σ H=>t σ H λvs H1=>vs.length<=rS/\∀x,H1 x=AL->sp (.ref x::vs) (upd H1 x (XN x C AL)) (λv H2=>v=.non/\∃dx,H2 x=AK (XN x C dx)/\E (.ref C) dx (del H2 x)) E0
theorem Z7{E:XK}{C f:rV}{fd:rY}{k:Nat}{ps:List si}{sp:Sp}{cn:si}{np cpos pos:sY}{e:so}{es:List so}{t:TA}(hx:XE X E)(hc:X.calm=AM)(xc:XC X.K C)(hi:ac X.K (.ref C) "__init__" = AK (AK (.ref f)))(hfn:aR X.K (.ref f)=AM)
  (F:zP X.prog X.w X.K X.mg X.base CX0 k f fd ps sp) (hr:Room (k+1) X.A) (hb:Binds X.K fd ps []) (hg:Gl X cn) (hm:X.mg cn=AK (.ref C)) (ha:PA X (e::es) t)
  (hdb:(cn ==("__debug__" : si))=AN:=by decide) (he:rR (e::es) X.env=(AN,eval e X.env)::rR es X.env:=by rfl) (hpl:(sw cpos (rR es X.env)).any (·.1)=AN:=by rfl) :
  PS X (.Raise (AK (.Call (.Name cn np) (e::es) [] cpos)) AL pos) (Xd E C sp t):=by
 intro AO s σ H D I h;refine Qk (K:=X.K) (I.ok.hd hc) (sE (vA I hg hm ?_ hdb));refine bN (h₀:=X.base) I.ok.mod.kin xc.kp (thn (ha cpos AO s σ H _ I h) λus s1 ⟨vs,H1,I1,r,z,q⟩=>#[I1.kIn,?_]) he hpl;have hl:us.length<=rS:=by rw[<- r.length];exact z
 have ob:((s1.heap.push { cls:=.type "tuple",data:=.seq us.toArray }).push (xob C AL s1⁻¹ .none)).get? (s1⁻¹+1)=AK (xob C AL s1⁻¹ .none):=by heap_get
 have hfr:H1 (s1⁻¹+1)=AL:=I1.hok.fresh (cN _)
 have I2:Inv X AO σ (upd H1 (s1⁻¹+1) (XN (s1⁻¹+1) C AL)) { s1 with heap:=(s1.heap.push { cls:=.type "tuple",data:=.seq us.toArray }).push (xob C AL s1⁻¹ .none) } :=
  I1.laid (t':=s1.toks) (λb o e=>aa _ (aa _ e)) (cN _) (zdo ob)
 have q1:=q _ hfr;have r2:Vals (V.ref (s1⁻¹+1)::vs) (Value.ref (s1⁻¹+1)::us):=.cons rfl r
 have hlen:(Value.ref (s1⁻¹+1)::us ++ ([]:List rW)).length=ps.length:=by
  rw[aT,<- r2.length];exact F.len _ _ _ _ q1
 have hb2:=hb { s1 with heap:=(s1.heap.push { cls:=.type "tuple",data:=.seq us.toArray }).push (xob C AL s1⁻¹ .none) } (Value.ref (s1⁻¹+1)::us) I2.kIn hlen;rw[aT]at hb2;have run:=F.run _ X.stack _ _ #[Value.ref (s1⁻¹+1)::us,[]] (Value.ref (s1⁻¹+1)::us) _ _ E0 (Ug (C:=C) (us:=us) hr) (I2.env0.make C us []) hb2 r2 q1;have sz0:X.s₀.heap.objs.size<=s1⁻¹+1:=aN I1.sz (cN _);show rZ (model X.prog X.w) X.A (call (.ref C) us) _ X.xe s1;refine tu ?_;refine X8 (h:=s1.heap) (g:=s1.gens) (d:=s1.drawn) (t:=s1.toks) (os:=s1.os) (rest:=us) I1.kIn xc.ok hi (λself=>fO I1.kIn self (beq_iff_eq.mp hfn)) hl (tz run λr s' hq=>?_)
 cases r with
 | error e=>exact False.elim hq
 | ok fl =>
  cases fl with
  | ret u =>
   obtain⟨v,H',I3,rv,ev,dx,hx3,q3⟩:=I2.after hq;subst ev;refine#[rv,?_];obtain⟨t,ob3⟩:=zde (I3.hok _ _ hx3);have I4:=Inv.untrack I3 hx3 sz0;refine#[_,C,t,dx,rfl,I3.kIn,xc.ok,ob3,hx _ _ #[AO,σ,_,_,C,t,dx,.none,rfl,I4,ob3,.inl rfl,?_,λT z=>(by cases z),q3]];exact I1.fpOk (cN _) WE
  | next=>exact False.elim hq
  | brk=>exact False.elim hq
  | cont=>exact False.elim hq
end
end L3
namespace L3
def zbb(X:Cx)(AO:List (rV × sI))(σ:St)(E:XK)(e:rW)(s:rX):Prop:=∃(cx:rW) (kx:Bool) (H:Hp) (x C t:rV) (dx:Option rV) (tb:rW),e=.ref x/\Inv X AO σ H s /\
 s.heap.get? x=AK (xog C dx t tb cx kx)/\zcq s.heap x tb/\wg X AO H x/\(∀T,tb=.ref T->wg X AO H T)/\E (.ref C) dx H
noncomputable abbrev TX:=St->Hp->VK->XK->Prop
def PEX(X:Cx)(e:so)(t:TX):Prop :=
 ∀(AO:List (rV × sI)) (s:rX) (σ:St) (H:Hp) (Q:VK) (E:XK),Inv X AO σ H s->t σ H Q E->rZ (model X.prog X.w) X.A (eval e X.env) (EP X AO σ Q) (zbb X AO σ E) s
section
variable{X:Cx}
variable{k:Nat}{f:rV}{fd:rY}{ps:List si}{sp:Sp}{dvs:List V}{ds:List rW}{x:si}{p pos:sY}{e:so}{es:List so}{t:TA}
theorem Jv(F:zP X.prog X.w X.K X.mg X.base (CXx X.prog X.w) k f fd ps sp)(hr:Room k X.A)(hg:Gl X x)(hm:X.mg x=AK (.ref f))(hk:aH X.K (.ref f)=AM)(hb:Binds X.K fd ps ds)(hd:Vals dvs ds)
  (ha:PA X.nox (e::es) t) (hdb:(x ==("__debug__" : si))=AN:=by decide) (he:rR (e::es) X.env=(AN,eval e X.env)::rR es X.env:=by rfl) (hpl:(sw pos (rR es X.env)).any (·.1)=AN:=by rfl) :
  PEX X (.Call (.Name x p) (e::es) [] pos) (λσ H Q E=>t σ H λvs H1=>sp (vs ++ dvs) H1 Q E):=by
 intro AO s σ H Q E I h;refine sE (vA I hg hm ?_ hdb);refine bN (h₀:=X.base) I.ok.mod.kin hk (sV (thn (ha pos AO s σ H _ (I.wish _) h) λus s1 ⟨vs,H1,I1,r,q⟩=>#[I1.kIn,?_])) he hpl;have I1':Inv X AO σ H1 s1:=I1.unwish;have r2:Vals (vs ++ dvs) (us ++ ds):=r.append hd;have hl:(us ++ ds).length=ps.length:=by rw[<- r2.length];exact F.len _ _ _ _ q
 refine tu (tz (F.run X.A X.stack s1 H1 #[us,[]] (us ++ ds) (vs ++ dvs) Q E hr I1'.env0 (hb s1 us I1'.kIn hl) r2 q) λr s' hq=>?_)
 cases r with
 | error e =>
  obtain⟨x,C,t,dx,tb,H',rfl,os,bare,un,hok,ob,tr,hn,hsz,hT,q⟩:=hq;exact#[.none,AN,H',x,C,t,dx,tb,rfl,I1'.call' os un hok bare (λb z=>absurd z (by simp)),ob,tr,I1'.fpOk hsz hn,λT e=>I1'.fpOk (hT T e).2 (hT T e).1,q]
 | ok fl =>
  cases fl with
  | ret u=>exact I1'.after hq
  | next=>exact False.elim hq
  | brk=>exact False.elim hq
  | cont=>exact False.elim hq
end
noncomputable abbrev Cx.suite(X:Cx)(e:rW):Cx:={ X with A:=X.A.mark (AK e),calm:=AN,xe:=λ_ _=>False }
theorem Inv.suite{X:Cx}{AO:List (rV × sI)}{σ:St}{H:Hp}{s:rX}(I:Inv X AO σ H s)(e:rW):Inv (Cx.suite X e) AO σ H s :=
 #[#[I.ok.mod,I.ok.kind,I.ok.glob,I.ok.blt,I.ok.above,I.ok.inj,I.ok.has,I.ok.cab,λz=>absurd z (by simp [Cx.suite]),I.ok.frames,I.ok.stk,I.ok.exf,I.ok.bs,I.ok.bsz,I.ok.noex,I.ok.exfs,I.ok.funs,I.ok.frf],
  I.os,I.bare,I.base,I.loc,I.cell,I.free,I.freeC,I.pin,I.hok,I.len]
theorem Inv.unsuite{X:Cx}{AO:List (rV × sI)}{σ σ':St}{H H':Hp}{s s':rX}{e:rW}(J:Inv X AO σ' H' s')(I:Inv (Cx.suite X e) AO σ H s):Inv X AO σ H s :=
 #[J.ok,I.os,I.bare,I.base,I.loc,I.cell,I.free,I.freeC,I.pin,I.hok,I.len]
structure Hd where
 D:rV
 i:Nat
 ts:TS
def tHs(K:rT)(C:rV)(dx:Option rV)(x:rV)(Dd:vq)(σ:St)(H:Hp):List Hd->Prop
 | []=>False
 | h::r=>∃b,cK K (.ref C) (.ref h.D)=AK b/\if b=AM then h.ts { Dd with nx:=λσ' H'=>Dd.nx (σ'.set h.i AL) H',bk:=λσ' H'=>Dd.bk (σ'.set h.i AL) H',ct:=λσ' H'=>Dd.ct (σ'.set h.i AL) H' } (σ.set h.i (AK (.ref x))) H else tHs K C dx x Dd σ H r
section
variable{X:Cx}{AO:List (rV × sI)}{σ:St}{H:Hp}{s:rX}
end
theorem zd5{M:Aw}{A:sk}{E:rW->rX->Prop}{K:rT}{s:rX}{x C D t:rV}{dx:Option rV}{tb cx:rW}{kx:Bool}{b:Bool}{Q:Bool->rX->Prop}(X:K.In s.heap)(hD:ZK K D=AM)(he:s.heap.get? x=AK (xog C dx t tb cx kx))
  (hs:cK K (.ref C) (.ref D)=AK b) (h:Q b s):rZ M A (excMatches (.ref x) (.ref D)) Q E s:=by
 obtain⟨bm,N,nm,qn,bs,sn,sub,ab,col,dd,k0,k1,k2,k3,k5,lk,tl⟩:=ug hD;have hDo:=X _ _ lk;have T:=tl _ X;have hcB:(Value.ref D::bm).contains (.type "BaseException")=AM:=by rw[de,T.hasType (show bmV.contains (.type "BaseException")=AM by symm),dw]
 have L:=PySem.W.looks_subIn (M:=M) X hs;have f:=tc_notTuple;obtain⟨hp,g,d,tk,os⟩:=s;unfold excMatches
 repeat (first | with_reducible refine sN he ?_ | with_reducible refine sN hDo ?_ | (with_reducible refine tD hDo ?_;rw[hcB]) | (with_reducible refine PySem.W.Looks.at L ?_) | wp_step)
 cases b with
 | false=>exact rP (rP (rP h))
 | true=>exact rP (rP (rP h))
section
variable{X:Cx}
noncomputable def tbL:rW->List rV
 | .ref b=>[b]
 | _=>[]
def zfV(K:rT)(i:Nat)(te:TX)(hds:List Hd):TS:=λD σ H=>te σ H (λv H1=>D.nx (σ.set i (AK v)) H1) λcls dx H1=>∃C,cls=.ref C/\∀x,H1 x=AL->tHs K C dx x D σ (upd H1 x (XT x C dx)) hds
end
end L3
namespace L3
section
variable{prog:sf}{w:sj}{A:sk}{E:rW->rX->Prop}{s:rX}{K:rT}{x C:rV}{ox:sI}{od:Option sI}{name:si}{tk:tP}
theorem zdb{fill expr:Bool}{Q:rW->rX->Prop}(X:K.In s.heap)(xc:XC K C)(J:PySem.W.InstAt s.heap x ox C od)
  (h:rZ (model prog w) A.in1 (Builtin.«object.__getattribute__» #[[.ref x,.str name tk],[]]) (λfin s'=>match fin with | .done (.ret v)=>rZ (model prog w) A (handedOut v) Q E s' | _=>False) (λ_ _=>False) s) :
  rZ (model prog w) A (getAttrBy (.ref x) (.str name tk) fill expr) Q E s:=by
 obtain⟨bm,N,nm,qn,bs,sn,sub,ab,col,dd,k0,k1,k2,k3,k5,lk,tl⟩:=ug xc.ok;have hC:=X _ _ lk;have T:=tl _ X;have FB:=PySem.F.attrBase_ValueError;have L0:=J.type (M:=model prog w);have L1:=cD (M:=model prog w) X xc.ga;have L2:=cD (M:=model prog w) X xc.gt;have hcB:(Value.ref C::bm).contains (.type "BaseException")=AM:=by rw[de,T.hasType (show bmV.contains (.type "BaseException")=AM by symm),dw]
 have isB:PySem.W.Looks (model prog w) s.heap (isInstance (.ref x) (.type "BaseException")) AM:=L0.andThen (by have:=ZT (M:=model prog w) hC (.type "BaseException");rw[hcB]at this;exact this);have f3:=FB.ga.bind (.ref x);have hx0:(expr && onTheHeap (Value.builtin "BaseException.__getattribute__"))=AN:=by cases expr <;> rfl
 have hx2:(Value.builtin "BaseException.__getattribute__" == Value.builtin "object.__getattribute__")=AN:=by symm
 have hx1:(onTheHeap (Value.ref C) && Value.builtin "BaseException.__getattribute__" == Value.builtin "object.__getattribute__")=AN:=by rw[hx2];rfl
 unfold getAttrBy;refine sJ (rO (L0.here (rO (L1.here ?_))));show rZ _ _ (if (onTheHeap (Value.ref C) && Value.builtin "BaseException.__getattribute__" == Value.builtin "object.__getattribute__")=AM then _ else _) _ _ _;rw[hx1,if_neg ay];unfold getAttrByItsOwn hookBefore;rw[if_pos (by rfl)];refine rO (L2.here (rO (tK (sJ ?_))));unfold callGetattribute;rw[hx0,if_neg ay];unfold boundAndCalled;rw[f3];refine rO (rP ?_);show rZ (model prog w) A (call (.builtin "BaseException.__getattribute__") [.ref x,.str name tk]) _ _ s;refine tu (tL FB.ga.plain PySem.F.entry_bexc_ga (@PySem.W.check_slot (model prog w) _ _ s "BaseException.__getattribute__" "BaseException" "__getattribute__" (.ref x) [.str name tk] [] _ (by symm) (by symm) isB (PySem.F.args_bexc_ga _ _) ?_));refine tm h (λfin s' z=>?_) λ_ _ z=>z.elim;rcases fin with (_ | _ | _ | v) | _ <;> first | exact z | exact z.elim
theorem zaN{Q:Option rW->rX->Prop}(X:K.In s.heap)(xc:XC K C)(J:PySem.W.InstAt s.heap x ox C od)(ha:ac K (.ref C) "__class__" = AK (AK (.builtin "object.__class__")))
  (hn:cC K (.builtin "object.__class__") "__get__" = AK (AK (.builtin "getset_descriptor.__get__"))) (htk:dv K (.builtin "object.__class__")=AK AM) (hm:bA K C (.type "object")=AK AM)
  (h:Q (AK (.ref C)) { s with toks:=s.toks+1 }):rZ (model prog w) A (getAttr? (.ref x) "__class__") Q E s:=by
 have hf:fP K C od "__class__" = AK (.bind (.builtin "getset_descriptor.__get__") (.builtin "object.__class__")):=by
  obtain⟨bm,N,nm,qn,bs,sn,sub,ab,col,dd,k0,k1,k2,k3,k5,lk,tl⟩:=ug xc.ok;have hcl:(PySem.W.clsIn K C).isSome=AM:=by unfold PySem.W.clsIn;rw[lk];rfl
  obtain⟨cd,hc⟩:=Bf.mp hcl;unfold fP;rw[hc,bW,ha,bW];simp [hn,htk]
 unfold getAttr? getAttrBy?;refine rO (wpAny_mkText (rO (tK (zdb (s:={ s with toks:=s.toks+1 }) X xc J ?_))));have L0:=J.type (M:=model prog w);have L1:=PySem.W.looks_find (M:=model prog w) X J hf;unfold Builtin.«object.__getattribute__»;refine rO (rP (rO (rP (rO (L0.here (s:={ s with toks:=s.toks+1 }) (rO (L1.here (s:={ s with toks:=s.toks+1 }) ?_)))))));show rZ _ _ (holding [.builtin "object.__class__"] (call (.builtin "getset_descriptor.__get__") [.builtin "object.__class__",.ref x,.ref C]) >>= ret) _ _ _;refine rO (sJ (tu (PySem.W.class_get (s:={ s with toks:=s.toks+1 }) X J hm ?_)));refine rP ?_;show rZ _ _ (handedOut (.ref C)) _ _ _;rw[PySem.W.handedOut_of rfl];exact rP (rP h)
end
structure XI(K:rT)(C:rV):Prop extends XC K C where
 ca:ac K (.ref C) "__class__" = AK (AK (.builtin "object.__class__"))
 cg:cC K (.builtin "object.__class__") "__get__" = AK (AK (.builtin "getset_descriptor.__get__"))
 ct:dv K (.builtin "object.__class__")=AK AM
 mo:bA K C (.type "object")=AK AM
theorem zdm{h:sq}{x C t:rV}{tb c:rW}{k:Bool}(ob:h.get? x=AK (xog C AL t tb c k)):PySem.W.InstAt h x (xog C AL t tb c k) C AL:=#[ob,rfl,rfl,trivial]
theorem zeF{K:rT}{x C:rV}{dx:Option rV}(xi:XI K C):PySem.W.KitX K (.ref x) (.ref C) (λh=>(∃t tb c k,h.get? x=AK (xog C dx t tb c k))/\∀d,dx=AK d->∃o,h.get? d=AK o) where
 ty:=λM h X ⟨⟨t,tb,c,k',ob⟩,_⟩=>(PySem.W.Looks.ld ob).andThen .now
 it:=λM h X _=>by
  obtain⟨bm,N,nm,qn,bs,sn,sub,ab,col,dd,k0,k1,k2,k3,k5,lk,tl⟩:=ug xi.ok;intro A' Q' E' s' k q;unfold isType loadHead;exact rO (Ae (k _ _ (X _ _ lk)) (rP q))
 ne:=λh tp dd its n sl X htp=>by
  obtain⟨bm,N,nm,qn,bs,sn,sub,ab,col,dd,k0,k1,k2,k3,k5,lk,tl⟩:=ug xi.ok;refine Bool.eq_false_iff.mpr λq=>?_;have e:C=tp:=Value.ref.inj (beq_iff_eq.mp q);subst e;have z:=congrArg (λo:Option sI=>o.map λo=>match o.data with | .cls _=>AM | _=>AN) ((X _ _ lk).symm.trans htp);exact absurd (show AM=AN from Option.some.inj z) (by decide)
 ca:=λ{prog w A E Q s} X ⟨⟨t,tb,c,k',ob⟩,hd⟩ k=>by
  cases dx with
  | none=>exact zaN X xi.toXC (zdm ob) xi.ca xi.cg xi.ct xi.mo k
  | some d =>
   obtain⟨o,e⟩:=hd d rfl;exact zaN (od:=AK o) X xi.toXC #[ob,rfl,rfl,e] xi.ca xi.cg xi.ct xi.mo k
section
variable{X:Cx}
def XAt(H:Hp)(x C:rV)(dx:Option rV)(fs:List (si × V)):Prop:=H x=AK (XT x C dx)/\((dx=AL/\fs=[])\/∃d,dx=AK d/\H d=AK (.xd fs))
theorem UC:vP X (.builtin "isinstance") (λxs H Q=>∃x C dx fs c u b,xs=[.ref x,c]/\cV c=AK u/\XAt H x C dx fs/\XI X.K C/\aQ X.K (.ref C) u=AK b/\Q (.bl b) H):=by
 intro AO s σ H xs us Q I r h;obtain⟨x,C,dx,fs,c,u,b,rfl,hc,⟨hx,hd⟩,xi,e,q⟩:=h;obtain⟨v,w',rfl,rx,rc⟩:=VR r;cases rx
 have:w'=u:=by
  cases c with
  | ty n=>cases hc;exact rc
  | ref a=>cases hc;exact rc
  | _=>cases hc
 subst this;refine bc (zeF (dx:=dx) xi) I.kIn #[zfk (I.hok _ _ hx),λd z=>?_] e (λz=>nomatch z) λtk=>#[.bl b,H,I.tok tk,rfl,q];rcases hd with ⟨z',_⟩ | ⟨d',z',hd'⟩
 ·rw[z']at z;cases z
 ·rw[z']at z;cases z;obtain⟨mA,⟨o,es,ep,ho,_⟩,_⟩:=I.hok _ _ hd';exact#[o,ho]
def zcQ(K:rT)(ta:TE)(f:si):TE:=λσ H Q=>ta σ H λy H1=>∃x C dx fs v,y=.ref x/\XAt H1 x C dx fs/\XC K C/\bH K C=AM/\NoAttr K C f/\fs.lookup f=AK v/\Q v H1
end
end L3
namespace L3
structure Df(P:sf)(w:sj)(K:rT)(mg:si->Option rW)(base:sq)(CX:CXT)(k:Nat)(nm:si)(ps:List si)(ds:List rW)(sp:Sp):Prop where
 ex:∃f fd,zP P w K mg base CX k f fd ps sp/\mg nm=AK (.ref f)/\aH K (.ref f)=AM/\Binds K fd ps ds
structure Bt(mg:si->Option rW):Prop where
 len:mg "len" = AL
 range:mg "range" = AL
 isi:mg "isinstance" = AL
 str:mg "str" = AL
 int:mg "int" = AL
 tuple:mg "tuple" = AL
 list:mg "list" = AL
 bool:mg "bool" = AL
 enum:mg "enumerate" = AL
 all:mg "all" = AL
 verr:mg "ValueError" = AL
 max:mg "max" = AL
 rev:mg "reversed" = AL
 zip:mg "zip" = AL
 sum:mg "sum" = AL
 sorted:mg "sorted" = AL
section
variable{X:Cx}{CX:CXT}{k:Nat}{ps:List si}{sp:Sp}{ds:List rW}{dvs:List V}{E:XK}{x:si}{p pos:sY}{e:so}{es:List so}{t:TA}
theorem cl0{j:Nat}(D:Df X.prog X.w X.K X.mg X.base CX0 k x ps ds sp)(hr:Room j X.A)(hd:Vals dvs ds)(hg:Gl X x)(ha:PA X (e::es) t)(hdb:(x ==("__debug__" : si))=AN:=by decide)(he:rR (e::es) X.env=(AN,eval e X.env)::rR es X.env:=by rfl)
  (hpl:(sw pos (rR es X.env)).any (·.1)=AN:=by rfl) (hj:k<=j:=by decide):PE X (.Call (.Name x p) (e::es) [] pos) (u7 sp dvs E0 t):=by
 obtain⟨f,fd,F,hm,hk,hb⟩:=D.ex;exact V9 F (hr.mono hj) hg hm hk hb hd YY ha hdb he hpl
theorem clX{j:Nat}(D:Df X.prog X.w X.K X.mg X.base (CXx X.prog X.w) k x ps ds sp)(hr:Room j X.A)(hd:Vals dvs ds)(hg:Gl X x)(ha:PA X.nox (e::es) t)(hdb:(x ==("__debug__" : si))=AN:=by decide)(he:rR (e::es) X.env=(AN,eval e X.env)::rR es X.env:=by rfl)
  (hpl:(sw pos (rR es X.env)).any (·.1)=AN:=by rfl) (hj:k<=j:=by decide):PEX X (.Call (.Name x p) (e::es) [] pos) (λσ H Q E=>t σ H λvs H1=>sp (vs ++ dvs) H1 Q E):=by
 obtain⟨f,fd,F,hm,hk,hb⟩:=D.ex;exact Jv F (hr.mono hj) hg hm hk hb hd ha hdb he hpl
theorem clP{j:Nat}(hx:XE X E)(D:Df X.prog X.w X.K X.mg X.base (CXx X.prog X.w) k x ps ds sp)(hr:Room j X.A)(hd:Vals dvs ds)(hg:Gl X x)(ha:PA X (e::es) t)(hdb:(x ==("__debug__" : si))=AN:=by decide)(he:rR (e::es) X.env=(AN,eval e X.env)::rR es X.env:=by rfl)
  (hpl:(sw pos (rR es X.env)).any (·.1)=AN:=by rfl) (hj:k<=j:=by decide):PE X (.Call (.Name x p) (e::es) [] pos) (u7 sp dvs E t):=by
 obtain⟨f,fd,F,hm,hk,hb⟩:=D.ex;exact V9 F (hr.mono hj) hg hm hk hb hd (Wb hx) ha hdb he hpl
end
def TyX(K:rT)(H:Hp)(x:V)(t:rW):Prop:=Xz K H x t\/(∃a C dx fs,x=.ref a/\t=.ref C/\XAt H a C dx fs/\XI K C)\/(∃a xs,x=.ref a/\t=.type "list"/\SqL K H a xs)\/∃a xs,x=.ref a/\t=.type "tuple"/\SqT K H a xs
def zew(K:rT):List V->Hp->VK->Prop:=λxs H Q=>∃x c u t b,xs=[x,c]/\cV c=AK u/\TyX K H x t/\aQ K t u=AK b/\Q (.bl b) H
theorem zeT{X:Cx}:vP X (.builtin "isinstance") (zew X.K):=by
 intro AO s σ H xs us Q I r h;obtain⟨x,c,u,t,b,rfl,hc,ty,e,q⟩:=h;rcases ty with ty | ⟨a,C,dx,fs,rfl,rfl,ha,xi⟩ | ⟨a,ys,rfl,rfl,hq⟩ | ⟨a,ys,rfl,rfl,hq⟩
 ·exact JR AO s σ H _ us Q I r #[x,c,u,t,b,rfl,hc,ty,e,q]
 ·exact UC AO s σ H _ us Q I r #[a,C,dx,fs,c,u,b,rfl,hc,ha,xi,e,q]
 all_goals
  obtain⟨v,w',rfl,rx,rc⟩:=VR r
  have:w'=u:=by
   cases c with
   | ty n=>cases hc;exact rc
   | ref a=>cases hc;exact rc
   | _=>cases hc
  subst this;cases rx
 ·obtain⟨its,_,p,_⟩:=I.list hq;obtain⟨o,h1,h2,_⟩:=p.isList;exact bc d7 I.kIn #[o,h1,h2] e (λz=>nomatch z) λtk=>#[.bl b,H,I.tok tk,rfl,q]
 ·obtain⟨its,_,p,_⟩:=I.tuple hq;obtain⟨o,h1,h2,_⟩:=p;exact bc fz I.kIn #[o,h1,h2] e (λz=>nomatch z) λtk=>#[.bl b,H,I.tok tk,rfl,q]
theorem xW{X:Cx}{e:so}{te:TE}{c:si}{n:String}{p q pos:sY}(h1:Gl X "isinstance")(h2:X.mg "isinstance" = AL)(he:PE X e te)(hg:Gl X c)(hm:X.mg c=AL)(hv:sK c=AK (.type n))(hn:c≠"__name__":=by decide)(hd:(c ==("__debug__" : si))=AN:=by decide)
  (hs1:rR [e,.Name c q] X.env=(AN,eval e X.env)::rR [.Name c q] X.env:=by rfl) (hs3:rR [.Name c q] X.env=(AN,eval (.Name c q) X.env)::rR [] X.env:=by rfl) (hs2:(sw pos (rR [.Name c q] X.env)).any (·.1)=AN:=by rfl):PE X (.Call (.Name "isinstance" p) [e,.Name c q] [] pos) (tCB (zew X.K) (zL te (zL (tC (.ty n)) xT))) :=
 we zeT h1 h2 boot_isinstance (za he (za (zb3 hg hm hv rfl hn hd) zd hs3) hs1) (he:=hs1) (hpl:=hs2)
theorem zaa{a:rV}:cV (.ref a)=AK (.ref a):=rfl
theorem zdB{n:String}:cV (.ty n)=AK (.type n):=rfl
theorem zeP{P w K mg base N q sc f cd A o s H}:(cxH P w K mg base N q sc f cd A o s H).K=K:=rfl
def X6:V->List V->Hp->VK->Prop:=λx xs H Q=>∃z y,x=.str z/\xs=[.str y]/\Q (.int (Txt.count z y)) H
theorem QG{X:Cx}:MtR X "str.count" X6:=Ks
def zdK:V->List V->Hp->VK->Prop:=λx xs H Q=>∃z y,x=.str z/\xs=[.str y]/\Q (.int (Txt.find z y)) H
theorem YZ(l:List Nat)(c:Nat):Txt.count (tx l) (tx [c])=(l.count c:Int):=by
 have h:∀l:List Nat,cnt c l=(l.count c:Int):=λl=>by
  induction l with
  | nil=>rfl
  | cons n r ih =>
   rw[cnt_cons,ih,List.count_cons];by_cases e:n=c
   ·subst e;simp;lia
   ·have:(n == c)=AN:=by simpa using e
    simp [e,this]
 exact (PyProof.Rows.count_is (tx l) c).trans (h l)
theorem lt1{a b:Nat}:([a]:List Nat) < [b] ↔ a<b:=by rw[List.cons_lt_cons_iff];exact#[λh=>h.elim id λ⟨_,q⟩=>absurd q (List.not_lt_nil _),.inl]
theorem Q6{l:List Nat}{k v:Nat}(h:l[k]? = AK v):(v::(l.take k ++ l.drop (k+1))).Perm l:=by
 obtain⟨hk,e⟩:=AS.mp h
 have e2:l.take k ++ (v::l.drop (k+1))=l:=by
  rw[<- e,<- aS hk,bK]
 exact (List.perm_middle.symm.trans (by rw[e2]))
def Vz(K:rT):List V->Hp->VK->Prop:=λxs H Q=>match xs with
 | [.str z]=>z.length<=rS/\Q (.int z.length) H
 | [.ref a]=>∃n:Nat,((∃xs,SqL K H a xs/\n=xs.length)\/∃xs,SqT K H a xs/\n=xs.length)/\Q (.int n) H
 | xs=>∃x n,xs=[x]/\zdN K x H n/\Q (.int n) H
theorem rLen_is{K:rT}{xs:List V}{H:Hp}{Q:VK}:Vz K xs H Q=∃x n,xs=[x]/\zdN K x H n/\Q (.int n) H:=by
 unfold Vz;split
 ·exact propext #[λh=>#[_,_,rfl,#[h.1,rfl],h.2],λ⟨_,_,e,h,q⟩=>by cases e;obtain⟨h,rfl⟩:=h;exact#[h,q]]
 ·exact propext #[λ⟨n,h,q⟩=>#[_,n,rfl,h,q],λ⟨_,n,e,h,q⟩=>by cases e;exact#[n,h,q]]
 ·rfl
theorem ze5{X:Cx}:vP X (.builtin "len") (Vz X.K):=λAO s σ H xs us Q I r h=>JY AO s σ H xs us Q I r (rLen_is.mp h)
def ForR(lo:Int)(n:Nat)(g:TG)(tb:TS)(D:vq)(σ:St)(H:Hp):Prop:=∃W:Nat->Nat->St->Hp->Prop,(∃m,W 0 m σ H)/\∀i m σ H,W i m σ H ->
 ((Itr lo n).stop i H/\D.nx σ H)\/((Itr lo n).go i H/\∃N:St->Hp->Prop,(∀σ' H',N σ' H'->∃m',m'<m/\W (i+1) m' σ' H')/\∀x H',(Itr lo n).yld i H x H'->g x σ H' λσ2 H2=>tb { D with nx:=N,ct:=N,bk:=D.nx } σ2 H2)
theorem zdF{ta:TA}{g:TG}{tb:TS}{D:vq}{σ:St}{H:Hp}:KN (zaV ta) g tb D σ H=ta σ H λvs H1=>∃j:Int,vs=[.int j]/\-(2 ^ 62)<=j/\j<2 ^ 62/\ForR 0 j.toNat g tb D σ H1:=rfl
theorem zc0{ta:TA}{g:TG}{tb:TS}{D:vq}{σ:St}{H:Hp}:KN (zda ta) g tb D σ H=ta σ H λvs H1=>∃i j:Int,vs=[.int i,.int j]/\(-(2 ^ 62)<=i/\i<2 ^ 62/\-(2 ^ 62)<=j/\j<2 ^ 62)/\ForR i (j - i).toNat g tb D σ H1:=rfl
theorem ForR.by{lo:Int}{n:Nat}{g:TG}{tb:TS}{D:vq}{σ:St}{H:Hp}(Pv:Nat->St->Hp->Prop)(h0:Pv 0 σ H)
  (hs:∀i σ H,i<n->Pv i σ H->g (.int (lo+i)) σ H λσ2 H2=>tb { D with nx:=Pv (i+1),ct:=Pv (i+1),bk:=D.nx } σ2 H2) (hd:∀σ H,Pv n σ H->D.nx σ H):ForR lo n g tb D σ H:=V8 Pv h0 hs hd
def ForL(K:rT)(a:rV)(g:TG)(tb:TS)(D:vq)(σ:St)(H:Hp):Prop:=∃W:Nat->Nat->St->Hp->Prop,(∃m,W 0 m σ H)/\∀i m σ H,W i m σ H ->
 ((Itl K a).stop i H/\D.nx σ H)\/((Itl K a).go i H/\∃N:St->Hp->Prop,(∀σ' H',N σ' H'->∃m',m'<m/\W (i+1) m' σ' H')/\∀x H',(Itl K a).yld i H x H'->g x σ H' λσ2 H2=>tb { D with nx:=N,ct:=N,bk:=D.nx } σ2 H2)
theorem zfZ{K:rT}{tl:TE}{g:TG}{tb:TS}{D:vq}{σ:St}{H:Hp}:KN (zcu K tl) g tb D σ H=tl σ H λx H1=>∃a,x=.ref a/\(∃xs,SqL K H1 a xs)/\ForL K a g tb D σ H1:=rfl
def ForS(x:si)(g:TG)(tb:TS)(D:vq)(σ:St)(H:Hp):Prop:=∃W:Nat->Nat->St->Hp->Prop,(∃m,W 0 m σ H)/\∀i m σ H,W i m σ H ->
 ((Its x).stop i H/\D.nx σ H)\/((Its x).go i H/\∃N:St->Hp->Prop,(∀σ' H',N σ' H'->∃m',m'<m/\W (i+1) m' σ' H')/\∀v H',(Its x).yld i H v H'->g v σ H' λσ2 H2=>tb { D with nx:=N,ct:=N,bk:=D.nx } σ2 H2)
theorem zf7{tl:TE}{g:TG}{tb:TS}{D:vq}{σ:St}{H:Hp}:KN (zfx tl) g tb D σ H=tl σ H λv H1=>∃x,v=.str x/\ForS x g tb D σ H1:=rfl
theorem ForS.by{l:List Nat}{g:TG}{tb:TS}{D:vq}{σ:St}{H:Hp}(Pv:Nat->St->Hp->Prop)(h0:Pv 0 σ H)
  (hs:∀i c σ H,l[i]? = AK c->Pv i σ H->g (.str (tx [c])) σ H λσ2 H2=>tb { D with nx:=Pv (i+1),ct:=Pv (i+1),bk:=D.nx } σ2 H2) (hd:∀σ H,Pv l.length σ H->D.nx σ H):ForS (tx l) g tb D σ H:=zcg Pv h0 hs hd
def zgs(x:si)(g:TG)(tb:TS)(D:vq)(σ:St)(H:Hp):Prop:=∃W:Nat->Nat->St->Hp->Prop,(∃m,W 0 m σ H)/\∀i m σ H,W i m σ H ->
 ((Ite x).stop i H/\D.nx σ H)\/((Ite x).go i H/\∃N:St->Hp->Prop,(∀σ' H',N σ' H'->∃m',m'<m/\W (i+1) m' σ' H')/\∀v H',(Ite x).yld i H v H'->g v σ H' λσ2 H2=>tb { D with nx:=N,ct:=N,bk:=D.nx } σ2 H2)
theorem zgc{ta:TA}{g:TG}{tb:TS}{D:vq}{σ:St}{H:Hp}:KN (ze6 ta) g tb D σ H=ta σ H λvs H1=>∃x,vs=[.str x]/\zgs x g tb D σ H1:=rfl
theorem Z8{α:Type}(l:List α){k:Int}(h:0<=k):cut l AL (AK k)=l.take k.toNat:=by
 obtain⟨n,rfl⟩:=bE h;unfold cut;rw[HT.sIx_none,HT.sIx_nat,dQ,Nat.sub_zero];by_cases q:n<=l.length
 ·rw[cA q];rfl
 ·rw[dn (by lia),aO,bj (by simp;lia)]
theorem qp{α:Type}(l:List α){k:Int}(h:0<=k):cut l (AK k) AL=l.drop k.toNat:=by
 obtain⟨n,rfl⟩:=bE h;unfold cut;rw[HT.sIx_none,HT.sIx_nat];by_cases q:n<=l.length
 ·rw[cA q];rw[bj (by rw[bg] <;> lia)];rfl
 ·rw[dn (by lia),eC,aV (by simp;lia)];simp
theorem uR{α:Type}{xs:List α}{i:Int}(h0:0<=i)(h1:i<xs.length):∃v,atI xs i=AK v/\xs[i.toNat]? = AK v:=by
 obtain⟨n,rfl⟩:=bE h0;have hn:n<xs.length:=by lia
 exact#[xs[n],Qb (ah hn),ah hn]
noncomputable def alpha:List Nat:=[97,98,99,100,101,102,103,104,105,106,107,108,109,110,111,112,113,114,115,116,117,118,119,120,121,122]
theorem UW:(("abcdefghijklmnopqrstuvwxyz" : si))=tx alpha:=by symm
theorem zQ:(rS:Nat)=16777216:=sF
theorem cxK{CX P w K mg base N q sc f cd A o s H E}:(qi CX P w K mg base N q sc f cd A o s H E).K=K:=rfl
theorem cxP{CX P w K mg base N q sc f cd A o s H E}:(qi CX P w K mg base N q sc f cd A o s H E).prog=P:=rfl
theorem cxW{CX P w K mg base N q sc f cd A o s H E}:(qi CX P w K mg base N q sc f cd A o s H E).w=w:=rfl
theorem zdg{a b:Int}:QK (.int a) (.int b)=AM:=rfl
theorem zdC{a b:si}:QK (.str a) (.str b)=AM:=rfl
theorem zdz{a b:Bool}:QK (.bl a) (.bl b)=AM:=rfl
theorem zdV{b:si}:QK .non (.str b)=AM:=rfl
theorem zeh{b:si}:QK (.str b) .non=AM:=rfl
theorem zc{H:Hp}{p:rV}{o:HO}(h:H p=AL):Same H (upd H p o):=λb u e=>by
 rw[zm (zF e h)];exact e
theorem z7{α:Type}{l:List α}{i:Nat}{c:α}(h:l[i]? = AK c):l.take (i+1)=l.take i ++ [c]:=by
 rw[List.take_add_one,h];rfl
end L3
namespace L3
structure FunD(K:rT)(x qual:si)(st:sr)(dV:rW)(f:rV)(fd:rY):Prop where
 ex:∃(oc:rW) (od:Option rV) (kV doc pm:rW) (an:Option rV) (cdv ct:rW) (osl:Array (Option rW)),
  fd=bt x qual (yF st) (yg st) (zh st) dV kV doc pm an cdv ct/\K.lookup f=AK #[oc,od,.func fd,osl]/\bR K cdv qual=AM
theorem FunD.okX{P:sf}{w:sj}{K:rT}{mg:si->Option rW}{base:sq}{x qual:si}{st:sr}{dV:rW}{f:rV}{fd:rY}{N ps:List si}{k:Nat}{sp:Sp}(F:FunD K x qual st dV f fd)(S:zk N ps (zh st))(len:∀vs H Q E,sp vs H Q E->vs.length=ps.length)
  (hbody:∀(cdv:rW) (A:sk) (outer:List Aa) (s:rX) (H:Hp) (vs:List V) (Q:VK) (E:XK),Room k (A.deeper (tN qual (zh st) s⁻¹ f cdv))->XE (qi (CXx P w) P w K mg base N qual (zh st) f cdv A outer s H E) E->sp vs H Q E ->
   ∃t,PSs (qi (CXx P w) P w K mg base N qual (zh st) f cdv A outer s H E) (yg st) t/\t { nx:=λ_ H'=>Q .non H',rt:=Q } (start N vs) H):zP P w K mg base (CXx P w) (k+1) f fd ps sp:=by
 obtain⟨oc,od,kV,doc,pm,an,cdv,ct,osl,rfl,lk,hcd⟩:=F.ex;exact JC lk hcd S len λA outer s H vs Q E hr hsp=>hbody cdv A outer s H vs Q E hr zdL hsp
def vQ(C:rV)(f:si):Sp:=λvs H Q _=>∃x v,vs=[.ref x,v]/\H x=AK (XN x C AL)/\∀dx,H dx=AL->Q .non (upd (upd H dx (.xd [(f,v)])) x (XN x C (AK dx)))
def ze4(H:Hp)(d:rV)(f:si)(v:V)(H':Hp):Prop:=H d=AL/\Same H H'/\H' d=AK (.xd [(f,v)])
theorem V3{E:XK}{C:rV}{f:si}{v:V}{H:Hp}(h:∀d H',ze4 H d f v H'->E (.ref C) (AK d) H'):∀x,H x=AL->vQ C f [.ref x,v] (upd H x (XN x C AL)) (λu H2=>u=.non/\∃dx,H2 x=AK (XN x C dx)/\E (.ref C) dx (del H2 x)) E0:=by
 intro x hx;refine#[x,v,rfl,ze,λdx hd=>#[rfl,AK dx,ze,h dx _ #[?_,?_,?_]]]
 ·by_cases e:dx=x
  ·rw[e];exact hx
  ·rw[zm e]at hd;exact hd
 ·have hne:dx≠x:=λe=>by rw[e,ze]at hd;cases hd
  rw[zm hne]at hd;intro b o q;have b1:b≠x:=zF q hx;have b2:b≠dx:=zF q hd;rw[U4 b1,zm b1,zm b2,zm b1];exact q
 ·have hne:dx≠x:=λe=>by rw[e,ze]at hd;cases hd
  rw[U4 hne,zm hne,ze]
section
variable{X:Cx}
def zf4:R2:=λx y H Q=>∃c l,x=.str (tx [c])/\y=.str (tx l)/\Q (.bl (!decide (c ∈ l))) H
def zfX:R2:=λx y H Q=>∃c l,x=.str (tx [c])/\y=.str (tx l)/\Q (.bl (decide (c ∈ l))) H
def zfS:R2:=λx y H Q=>match y with | .non=>Q (.bl (decide (x=.non))) H | _=>False
theorem op_isN':OpR X (su .Is) zfS:=λAO s σ H x y v u Q I rx ry h=>by
 cases y with
 | non=>exact zdv AO s σ H x .non v u Q I rx ry #[rfl,h]
 | _=>exact h.elim
def zdj:R2:=λx y H Q=>match y with | .non=>Q (.bl (!decide (x=.non))) H | _=>False
theorem op_notN':OpR X (su .IsNot) zdj:=λAO s σ H x y v u Q I rx ry h=>by
 cases y with
 | non=>exact zcv AO s σ H x .non v u Q I rx ry #[rfl,h]
 | _=>exact h.elim
def Kb:List V->Hp->VK->Prop:=λxs H Q=>match xs with | [.int i,.int j]=>Q (.int (if j > i then j else i)) H | _=>False
theorem V2(hc:X.calm=AM):vP X (.builtin "max") Kb:=λAO s σ H xs us Q I r h=>by
 unfold Kb at h;split at h
 ·exact Qg hc AO s σ H _ us Q I r #[_,_,rfl,h]
 ·exact h.elim
def rGe:R2:=λx y H Q=>onInt x λi=>onInt y λj=>Q (.bl (decide (j<=i))) H
theorem op_ge':OpR X (su .GtE) rGe:=zfl
def zfO(K:rT)(ta:TE):TT:=λσ H Q=>ta σ H λx H'=>∃k,zaf K x H' k/\Q k H'
end
theorem qj:sK "max" = AK (.builtin "max"):=by symm
def zbu(ls l:List Nat)(m:Int)(k:Nat):Prop:=∃c,l[k]? = AK c/\(m<=k\/c ∉ ls)
def FB(ls l:List Nat)(m:Int)(k:Nat):Prop:=zbu ls l m k/\∀j<k,¬ zbu ls l m j
def NB(ls l:List Nat)(m:Int):Prop:=∀j,¬ zbu ls l m j
theorem FB.nb{ls l:List Nat}{m:Int}{k:Nat}(h:FB ls l m k)(n:NB ls l m):False:=n k h.1
end L3
namespace L3
inductive D where
 | non | bl (b:Bool) | int (i:Int) | str (x:si) | lst (l:List D) | tup (l:List D)
mutual
def Is(K:rT)(H:Hp):D->V->Prop
 | .non,v=>v=.non
 | .bl b,v=>v=.bl b
 | .int i,v=>v=.int i
 | .str x,v=>v=.str x
 | .lst l,v=>∃a xs,v=.ref a/\SqL K H a xs/\Iss K H l xs
 | .tup l,v=>∃a xs,v=.ref a/\SqT K H a xs/\Iss K H l xs
def Iss(K:rT)(H:Hp):List D->List V->Prop
 | [],vs=>vs=[]
 | d::l,vs=>∃v r,vs=v::r/\Is K H d v/\Iss K H l r
end
mutual
noncomputable def eqD:D->D->Bool
 | .non,.non=>AM
 | .bl a,.bl b=>a == b
 | .bl a,.int b=>(if a then 1 else 0) == b
 | .int a,.bl b=>a ==(if b then 1 else 0)
 | .int a,.int b=>a == b
 | .str a,.str b=>a == b
 | .lst l,.lst m=>uA l m
 | .tup l,.tup m=>uA l m
 | _,_=>AN
noncomputable def uA:List D->List D->Bool
 | [],[]=>AM
 | d::l,e::m=>eqD d e && uA l m
 | _,_=>AN
end
mutual
noncomputable def dpD:D->Nat
 | .lst l=>qm l+1
 | .tup l=>qm l+1
 | _=>0
noncomputable def qm:List D->Nat
 | []=>0
 | d::l=>max (dpD d) (qm l)
end
theorem zca:∀{l:List D} {j:Nat} {d:D},l[j]? = AK d->dpD d<=qm l
 | d::l,0,_,h=>by
  cases h;simp only[qm];lia
 | d::l,j+1,e,h=>by
  have:=zca (l:=l) (j:=j) (d:=e) h;simp only[qm];lia
mutual
theorem k7:∀d:D,eqD d d=AM
 | .non=>rfl
 | .bl b=>by simp [eqD]
 | .int i=>by simp [eqD]
 | .str x=>by simp [eqD]
 | .lst l=>by simp only[eqD];exact vN l
 | .tup l=>by simp only[eqD];exact vN l
theorem vN:∀l:List D,uA l l=AM
 | []=>rfl
 | d::l=>by simp only[uA,k7 d,vN l,Bool.and_self]
end
theorem Iss.len{K:rT}{H:Hp}:∀{l:List D} {vs:List V},Iss K H l vs->vs.length=l.length
 | [],vs,h=>by simp only[Iss]at h;rw[h];rfl
 | d::l,vs,h=>by
  simp only[Iss]at h;obtain⟨v,r,rfl,_,h2⟩:=h;simp only[aI,Iss.len h2]
theorem Iss.at{K:rT}{H:Hp}:∀{l:List D} {vs:List V} {j:Nat} {d:D},Iss K H l vs->l[j]? = AK d->∃v,vs[j]? = AK v/\Is K H d v
 | d::l,vs,0,_,h,q=>by
  cases q;simp only[Iss]at h;obtain⟨v,r,rfl,h1,_⟩:=h;exact#[v,rfl,h1]
 | d::l,vs,j+1,e,h,q=>by
  simp only[Iss]at h;obtain⟨v,r,rfl,_,h2⟩:=h;exact Iss.at (j:=j) h2 q
theorem Iss.append{K:rT}{H:Hp}:∀{l m:List D} {vs us:List V},Iss K H l vs->Iss K H m us->Iss K H (l ++ m) (vs ++ us)
 | [],m,vs,us,h,g=>by simp only[Iss]at h;rw[h];exact g
 | d::l,m,vs,us,h,g=>by
  simp only[Iss]at h;obtain⟨v,r,rfl,h1,h2⟩:=h;simp only[bu,Iss];exact#[v,r ++ us,rfl,h1,Iss.append h2 g]
theorem Iss.ints{K:rT}{H:Hp}:∀(l:List Int),Iss K H (l.map D.int) (l.map V.int)
 | []=>by simp only[aL,Iss]
 | i::l=>by
  simp only[ar,Iss,Is];exact#[_,_,rfl,rfl,Iss.ints l]
theorem zv{K:rT}{H H':Hp}{a:rV}{xs:List V}(e:Same H H')(h:SqT K H a xs):SqT K H' a xs:=by
 rcases h with (h | ⟨o,h⟩) | h
 ·exact .inl (.inl (e _ _ h))
 ·exact .inl (.inr #[o,e _ _ h])
 ·exact .inr h
mutual
theorem Is.same{K:rT}{H H':Hp}(e:Same H H'):∀(d:D) (v:V),Is K H d v->Is K H' d v
 | .non,v,h=>by simp only[Is]at h ⊢;exact h
 | .bl b,v,h=>by simp only[Is]at h ⊢;exact h
 | .int b,v,h=>by simp only[Is]at h ⊢;exact h
 | .str b,v,h=>by simp only[Is]at h ⊢;exact h
 | .lst l,v,h=>by
  simp only[Is]at h ⊢;obtain⟨a,xs,e1,e2,e3⟩:=h;exact#[a,xs,e1,e.seq e2,Iss.same e l xs e3]
 | .tup l,v,h=>by
  simp only[Is]at h ⊢;obtain⟨a,xs,e1,e2,e3⟩:=h;exact#[a,xs,e1,zv e e2,Iss.same e l xs e3]
theorem Iss.same{K:rT}{H H':Hp}(e:Same H H'):∀(l:List D) (vs:List V),Iss K H l vs->Iss K H' l vs
 | [],vs,h=>by simp only[Iss]at h ⊢;exact h
 | d::l,vs,h=>by
  simp only[Iss]at h ⊢;obtain⟨v,r,e1,e2,e3⟩:=h;exact#[v,r,e1,Is.same e d v e2,Iss.same e l r e3]
end
theorem vI:∀(l m:List D),uA l m=((aK (min l.length m.length)).all (λj=>eqD (l.getD j .non) (m.getD j .non)) && l.length == m.length)
 | [],[]=>rfl
 | [],e::m=>by simp [uA]
 | d::l,[]=>by simp [uA]
 | d::l,e::m=>by
  simp only[uA,vI l m,aI];have h1:min (l.length+1) (m.length+1)=min l.length m.length+1:=by lia
  rw[h1,eU,List.all_cons,List.all_map]
  have h2:(l.length+1 == m.length+1)=(l.length == m.length):=by
   rw[cY,beq_iff_eq,beq_iff_eq];lia
  rw[h2];simp only[List.getD_cons_zero,Bool.and_assoc];rfl
section
variable{X:Cx}{AO:List (rV × sI)}{σ:St}{H:Hp}{s:rX}
theorem Yx{a:rV}{xs ys:List V}(I:Inv X AO σ H s)(h:SqL X.K H a xs)(g:SqT X.K H a ys):False:=by
 obtain⟨its,r,⟨o,n,e,c,_,d⟩,_⟩:=I.list h;obtain⟨its',r',⟨o',e',c',n',d'⟩,_⟩:=I.tuple g;rw[e]at e';cases e';rw[c]at c';exact absurd (Value.type.inj c') (by decide)
mutual
theorem Us(I:Inv X AO σ H s):∀(d e:D) (v:V),Is X.K H d v->Is X.K H e v->d=e
 | .lst l,.lst m,v,h,g=>by
  simp only[Is]at h g;obtain⟨a,xs,rfl,h1,h2⟩:=h;obtain⟨b,ys,e,g1,g2⟩:=g;cases e;have:=I.list_inj h1 g1;subst this;rw[YT I l m xs h2 g2]
 | .tup l,.tup m,v,h,g=>by
  simp only[Is]at h g;obtain⟨a,xs,rfl,h1,h2⟩:=h;obtain⟨b,ys,e,g1,g2⟩:=g;cases e;have:=I.tuple_inj h1 g1;subst this;rw[YT I l m xs h2 g2]
 | .lst l,.tup m,v,h,g=>by
  simp only[Is]at h g;obtain⟨a,xs,rfl,h1,h2⟩:=h;obtain⟨b,ys,e,g1,g2⟩:=g;cases e;exact (Yx I h1 g1).elim
 | .tup l,.lst m,v,h,g=>by
  simp only[Is]at h g;obtain⟨a,xs,rfl,h1,h2⟩:=h;obtain⟨b,ys,e,g1,g2⟩:=g;cases e;exact (Yx I g1 h1).elim
 | .lst l,.non,v,h,g=>by simp only[Is]at h g;obtain⟨a,xs,rfl,_⟩:=h;cases g
 | .lst l,.bl _,v,h,g=>by simp only[Is]at h g;obtain⟨a,xs,rfl,_⟩:=h;cases g
 | .lst l,.int _,v,h,g=>by simp only[Is]at h g;obtain⟨a,xs,rfl,_⟩:=h;cases g
 | .lst l,.str _,v,h,g=>by simp only[Is]at h g;obtain⟨a,xs,rfl,_⟩:=h;cases g
 | .tup l,.non,v,h,g=>by simp only[Is]at h g;obtain⟨a,xs,rfl,_⟩:=h;cases g
 | .tup l,.bl _,v,h,g=>by simp only[Is]at h g;obtain⟨a,xs,rfl,_⟩:=h;cases g
 | .tup l,.int _,v,h,g=>by simp only[Is]at h g;obtain⟨a,xs,rfl,_⟩:=h;cases g
 | .tup l,.str _,v,h,g=>by simp only[Is]at h g;obtain⟨a,xs,rfl,_⟩:=h;cases g
 | .non,e,v,h,g=>by
  simp only[Is]at h;subst h;cases e <;> simp only[Is]at g
  all_goals first | rfl | (obtain⟨a,xs,q,_⟩:=g;cases q) | cases g
 | .bl _,e,v,h,g=>by
  simp only[Is]at h;subst h;cases e <;> simp only[Is]at g
  all_goals first | (cases g;rfl) | (obtain⟨a,xs,q,_⟩:=g;cases q) | cases g
 | .int _,e,v,h,g=>by
  simp only[Is]at h;subst h;cases e <;> simp only[Is]at g
  all_goals first | (cases g;rfl) | (obtain⟨a,xs,q,_⟩:=g;cases q) | cases g
 | .str _,e,v,h,g=>by
  simp only[Is]at h;subst h;cases e <;> simp only[Is]at g
  all_goals first | (cases g;rfl) | (obtain⟨a,xs,q,_⟩:=g;cases q) | cases g
theorem YT(I:Inv X AO σ H s):∀(l m:List D) (vs:List V),Iss X.K H l vs->Iss X.K H m vs->l=m
 | [],[],_,_,_=>rfl
 | [],e::m,vs,h,g=>by
  simp only[Iss]at h g;subst h;obtain⟨_,_,q,_⟩:=g;cases q
 | d::l,[],vs,h,g=>by
  simp only[Iss]at h g;subst g;obtain⟨_,_,q,_⟩:=h;cases q
 | d::l,e::m,vs,h,g=>by
  simp only[Iss]at h g;obtain⟨v,r,rfl,h1,h2⟩:=h;obtain⟨v',r',q,g1,g2⟩:=g;cases q;rw[Us I d e v h1 g1,YT I l m r h2 g2]
end
theorem xD:∀{xs:List V} {us:List rW} {j:Nat} {x:V},Vals xs us->xs[j]? = AK x->∃u,us[j]? = AK u/\RelV x u
 | _,_,0,_,.cons r t,h=>by cases h;exact#[_,rfl,r]
 | _,_,j+1,_,.cons r t,h=>xD (j:=j) t h
theorem vb{l m:List D}{xs ys:List V}{its its':List rW}{A:sk}{n:Nat}(hl:Iss X.K H l xs)(hm:Iss X.K H m ys)(r:Vals xs its)(r':Vals ys its')(hn:qm l<n)
  (ih:∀(d e:D) (x y:V) (u v:rW),dpD d<n->Is X.K H d x->Is X.K H e y->RelV x u->RelV y v->SeqAt.EqAt A s u v (eqD d e)) :
  ∀j (h1:j<its.toArray.size) (h2:j<its'.toArray.size),SeqAt.EqAt A s its.toArray[j] its'.toArray[j] (eqD (l.getD j .non) (m.getD j .non)):=by
 intro j h1 h2;rw[ak]at h1 h2;have e1:=hl.len;have e2:=hm.len;have e3:=r.length;have e4:=r'.length;have g1:l[j]? = AK l[j]:=ah (by lia);have g2:m[j]? = AK m[j]:=ah (by lia);generalize l[j]=d at g1;generalize m[j]=e at g2;obtain⟨x,hx,ix⟩:=hl.at g1;obtain⟨y,hy,iy⟩:=hm.at g2;obtain⟨u,hu,ru⟩:=xD r hx;obtain⟨v,hv,rv⟩:=xD r' hy
 have q1:its.toArray[j]=u:=by
  have:=(AS.mp hu).2;simpa using this
 have q2:its'.toArray[j]=v:=by
  have:=(AS.mp hv).2;simpa using this
 rw[q1,q2,ae,ae,g1,g2];exact ih d e x y u v (cL (zca g1) hn) ix iy ru rv
theorem Z5(I:Inv X AO σ H s):∀(n:Nat) (A:sk) (d e:D) (x y:V) (u v:rW),A.units+n<cLine->dpD d<n->Is X.K H d x->Is X.K H e y->RelV x u->RelV y v->SeqAt.EqAt A s u v (eqD d e):=by
 intro n
 induction n with
 | zero=>intro A d e x y u v _ h;exact absurd h (cf _)
 | succ n ih =>
  intro A d e x y u v hu hd hx hy rx ry;have hu1:A.units<cLine:=by lia
  have huA:A.in1.units+n<cLine:=by show A.units+1+n<cLine;lia
  cases d with
  | lst l =>
   simp only[Is]at hx;obtain⟨a,xs,rfl,h1,h2⟩:=hx;cases rx;obtain⟨its,r,p,_⟩:=I.list h1
   cases e with
   | non=>simp only[Is]at hy;subst hy;cases ry;exact SeqAt.EqAt.list_none p.isList hu1
   | bl b=>simp only[Is]at hy;subst hy;cases ry;exact SeqAt.EqAt.list_bool b p.isList hu1
   | int b=>simp only[Is]at hy;subst hy;obtain⟨t,rfl⟩:=ry;exact SeqAt.EqAt.list_int b t p.isList hu1
   | str b=>simp only[Is]at hy;subst hy;obtain⟨t,rfl⟩:=ry;exact SeqAt.EqAt.list_str b t p.isList hu1
   | tup m =>
    simp only[Is]at hy;obtain⟨b,ys,rfl,g1,g2⟩:=hy;cases ry;obtain⟨its',r',p',_⟩:=I.tuple g1;exact SeqAt.EqAt.list_tuple p.isList p' hu1
   | lst m =>
    have hy':=hy;simp only[Is]at hy;obtain⟨b,ys,rfl,g1,g2⟩:=hy;cases ry;obtain⟨its',r',p',_⟩:=I.list g1;simp only[dpD]at hd;by_cases hab:a=b
    ·subst hab;have:=Us I (.lst l) (.lst m) (.ref a) (by simp only[Is];exact#[a,xs,rfl,h1,h2]) hy';rw[this,k7];exact SeqAt.EqAt.same _
    ·refine .of_refs hab ?_;simp only[eqD];have L1:=h2.len;have L2:=g2.len;have L3:=r.length;have L4:=r'.length;by_cases hl:l.length=m.length
     ·have:=SeqAt.RcAt.lists (A:=A) p.isList p'.isList (by simp only[ak];lia) hu1 (vb h2 g2 r r' (n:=n) (by lia) λd e x y u v q1 q2 q3 q4 q5=>ih A.in1 d e x y u v huA q1 q2 q3 q4 q5);rw[vI,hl,fA,beq_self_eq_true,fo];have e1:its.toArray.size=m.length:=by simp only[ak];lia
      rw[e1]at this;exact this
     ·rw[vI,beq_eq_false_iff_ne.mpr hl,eZ];exact SeqAt.RcAt.lists_lengths p.isList p'.isList (by rw[bne_iff_ne];simp only[ak];lia) hu1
  | tup l =>
   simp only[Is]at hx;obtain⟨a,xs,rfl,h1,h2⟩:=hx;cases rx;obtain⟨its,r,p,_⟩:=I.tuple h1
   cases e with
   | non=>simp only[Is]at hy;subst hy;cases ry;exact SeqAt.EqAt.tuple_none p hu1
   | bl b=>simp only[Is]at hy;subst hy;cases ry;exact SeqAt.EqAt.tuple_bool b p hu1
   | int b=>simp only[Is]at hy;subst hy;obtain⟨t,rfl⟩:=ry;exact SeqAt.EqAt.tuple_int b t p hu1
   | str b=>simp only[Is]at hy;subst hy;obtain⟨t,rfl⟩:=ry;exact SeqAt.EqAt.tuple_str b t p hu1
   | lst m =>
    simp only[Is]at hy;obtain⟨b,ys,rfl,g1,g2⟩:=hy;cases ry;obtain⟨its',r',p',_⟩:=I.list g1;exact SeqAt.EqAt.tuple_list p p'.isList hu1
   | tup m =>
    have hy':=hy;simp only[Is]at hy;obtain⟨b,ys,rfl,g1,g2⟩:=hy;cases ry;obtain⟨its',r',p',_⟩:=I.tuple g1;simp only[dpD]at hd;by_cases hab:a=b
    ·subst hab;have:=Us I (.tup l) (.tup m) (.ref a) (by simp only[Is];exact#[a,xs,rfl,h1,h2]) hy';rw[this,k7];exact SeqAt.EqAt.same _
    ·refine .of_refs hab ?_;simp only[eqD];have L1:=h2.len;have L2:=g2.len;have L3:=r.length;have L4:=r'.length;have:=SeqAt.RcAt.tuples (A:=A) p p' hu1 (vb h2 g2 r r' (n:=n) (by lia) λd e x y u v q1 q2 q3 q4 q5=>ih A.in1 d e x y u v huA q1 q2 q3 q4 q5);rw[vI];simp only[ak]at this;rw[<- L1,<- L2,L3,L4];exact this
  | non =>
   simp only[Is]at hx;subst hx
   cases e with
   | lst m =>
    simp only[Is]at hy;obtain⟨b,ys,rfl,g1,g2⟩:=hy;cases rx;cases ry;obtain⟨its',r',p',_⟩:=I.list g1;exact SeqAt.EqAt.none_list p'.isList hu1
   | tup m =>
    simp only[Is]at hy;obtain⟨b,ys,rfl,g1,g2⟩:=hy;cases rx;cases ry;obtain⟨its',r',p',_⟩:=I.tuple g1;exact SeqAt.EqAt.none_tuple p' hu1
   | _=>simp only[Is]at hy;subst hy;exact WD rx ry rfl rfl
  | bl c =>
   simp only[Is]at hx;subst hx
   cases e with
   | lst m =>
    simp only[Is]at hy;obtain⟨b,ys,rfl,g1,g2⟩:=hy;cases rx;cases ry;obtain⟨its',r',p',_⟩:=I.list g1;exact SeqAt.EqAt.bool_list _ p'.isList hu1
   | tup m =>
    simp only[Is]at hy;obtain⟨b,ys,rfl,g1,g2⟩:=hy;cases rx;cases ry;obtain⟨its',r',p',_⟩:=I.tuple g1;exact SeqAt.EqAt.bool_tuple _ p' hu1
   | _=>simp only[Is]at hy;subst hy;exact WD rx ry rfl rfl
  | int c =>
   simp only[Is]at hx;subst hx
   cases e with
   | lst m =>
    simp only[Is]at hy;obtain⟨b,ys,rfl,g1,g2⟩:=hy;obtain⟨t,rfl⟩:=rx;cases ry;obtain⟨its',r',p',_⟩:=I.list g1;exact SeqAt.EqAt.int_list _ _ p'.isList hu1
   | tup m =>
    simp only[Is]at hy;obtain⟨b,ys,rfl,g1,g2⟩:=hy;obtain⟨t,rfl⟩:=rx;cases ry;obtain⟨its',r',p',_⟩:=I.tuple g1;exact SeqAt.EqAt.int_tuple _ _ p' hu1
   | _=>simp only[Is]at hy;subst hy;exact WD rx ry rfl rfl
  | str c =>
   simp only[Is]at hx;subst hx
   cases e with
   | lst m =>
    simp only[Is]at hy;obtain⟨b,ys,rfl,g1,g2⟩:=hy;obtain⟨t,rfl⟩:=rx;cases ry;obtain⟨its',r',p',_⟩:=I.list g1;exact SeqAt.EqAt.str_list _ _ p'.isList hu1
   | tup m =>
    simp only[Is]at hy;obtain⟨b,ys,rfl,g1,g2⟩:=hy;obtain⟨t,rfl⟩:=rx;cases ry;obtain⟨its',r',p',_⟩:=I.tuple g1;exact SeqAt.EqAt.str_tuple _ _ p' hu1
   | _=>simp only[Is]at hy;subst hy;exact WD rx ry rfl rfl
def zf9(K:rT):R2:=λx y H Q=>∃l m,((Is K H (.lst l) x/\Is K H (.lst m) y)\/(Is K H (.tup l) x/\Is K H (.tup m) y))/\qm l<50/\Q (.bl (uA l m)) H
theorem zam(hu:X.A.units+100<cLine):OpR X (su .Eq) (zf9 X.K):=by
 intro AO s σ H x y v u Q I rx ry h;obtain⟨l,m,hh,hd,q⟩:=h;have hu1:X.A.units<cLine:=by lia
 have huA:X.A.in1.units+50<cLine:=by show X.A.units+1+50<cLine;lia
 rcases hh with ⟨hx,hy⟩ | ⟨hx,hy⟩
 ·simp only[Is]at hx hy;obtain⟨a,xs,rfl,h1,h2⟩:=hx;obtain⟨b,ys,rfl,g1,g2⟩:=hy;cases rx;cases ry;obtain⟨its,r,p,_⟩:=I.list h1;obtain⟨its',r',p',_⟩:=I.list g1;have L1:=h2.len;have L2:=g2.len;have L3:=r.length;have L4:=r'.length;by_cases hl:l.length=m.length
  ·have:=SeqAt.RcAt.lists (A:=X.A) p.isList p'.isList (by simp only[ak];lia) hu1 (vb h2 g2 r r' (n:=50) hd λd e x y u v q1 q2 q3 q4 q5=>Z5 I 50 X.A.in1 d e x y u v huA q1 q2 q3 q4 q5);have e1:its.toArray.size=m.length:=by simp only[ak];lia
   rw[e1]at this;rw[vI,hl,fA,beq_self_eq_true,fo]at q;exact this X.prog X.w X.xe _ #[.bl _,H,I,rfl,q]
  ·rw[vI,beq_eq_false_iff_ne.mpr hl,eZ]at q;exact SeqAt.RcAt.lists_lengths p.isList p'.isList (by rw[bne_iff_ne];simp only[ak];lia) hu1 X.prog X.w X.xe _ #[.bl _,H,I,rfl,q]
 ·simp only[Is]at hx hy;obtain⟨a,xs,rfl,h1,h2⟩:=hx;obtain⟨b,ys,rfl,g1,g2⟩:=hy;cases rx;cases ry;obtain⟨its,r,p,_⟩:=I.tuple h1;obtain⟨its',r',p',_⟩:=I.tuple g1;have L1:=h2.len;have L2:=g2.len;have L3:=r.length;have L4:=r'.length;have:=SeqAt.RcAt.tuples (A:=X.A) p p' hu1 (vb h2 g2 r r' (n:=50) hd λd e x y u v q1 q2 q3 q4 q5=>Z5 I 50 X.A.in1 d e x y u v huA q1 q2 q3 q4 q5);simp only[ak]at this;rw[vI,<- L1,<- L2,L3,L4]at q;exact this X.prog X.w X.xe _ #[.bl _,H,I,rfl,q]
end
theorem Yj(l m:List Int):uA (l.map D.int) (m.map D.int)=decide (l=m):=by
 induction l generalizing m with
 | nil=>cases m <;> simp [uA]
 | cons a l ih =>
  cases m with
  | nil=>simp [uA]
  | cons b m =>
   simp only[ar,uA,eqD,ih m];by_cases h1:a=b
   ·subst h1;by_cases h2:l=m
    ·simp [h2]
    ·simp [h2]
   ·simp [h1]
theorem YS(l:List Int):qm (l.map D.int)=0:=by
 induction l with
 | nil=>rfl
 | cons a l ih=>simp only[ar,qm,dpD,ih];rfl
abbrev CNx(n i:Nat)(Pv:Nat->List V->Hp->Prop)(AR:List V)(H:Hp):Prop:=∃m',m'<n - i/\(m'=n - (i+1)/\i+1<=n/\Pv (i+1) AR H)
theorem CNx.mk{n i:Nat}{Pv:Nat->List V->Hp->Prop}{AR:List V}{H:Hp}(hi:i<n)(h:Pv (i+1) AR H):CNx n i Pv AR H:=#[n - (i+1),by lia,rfl,hi,h]
def Xw(J:It)(g:TG)(tt:TT)(te:TE)(own:Nat)(ix:List Nat)(σ:St)(H1:Hp)(Q:VK)(D:rV):Prop:=∃W:Nat->Nat->List V->Hp->Prop,(∃m,W 0 m [] (upd H1 D (.lst []))) /\
 ∀i m AR H',W i m AR H'->(J.stop i H'/\Q (.ref D) H')\/(J.go i H'/\∀x H2,J.yld i H' x H2->g x (vt σ own ix) H2 λσ3 H3=>yW (vt σ own ix) σ3/\tt σ3 H3 λb H4=>if b=AM then
  te σ3 H4 λv H5=>H5 D=AK (.lst AR)/\AR.length<rS/\∃m',m'<m/\W (i+1) m' (AR ++ [v]) (upd H5 D (.lst (AR ++ [v])))
  else ∃m',m'<m/\W (i+1) m' AR H4)
def CompR(lo:Int)(n:Nat)(g:TG)(tt:TT)(te:TE)(own:Nat)(ix:List Nat)(σ:St)(H1:Hp)(Q:VK)(D:rV):Prop:=Xw (Itr lo n) g tt te own ix σ H1 Q D
def CompL(K:rT)(a:rV)(g:TG)(tt:TT)(te:TE)(own:Nat)(ix:List Nat)(σ:St)(H1:Hp)(Q:VK)(D:rV):Prop:=Xw (Itl K a) g tt te own ix σ H1 Q D
def CompS(x:si)(g:TG)(tt:TT)(te:TE)(own:Nat)(ix:List Nat)(σ:St)(H1:Hp)(Q:VK)(D:rV):Prop:=Xw (Its x) g tt te own ix σ H1 Q D
theorem K7{ta:TA}{g:TG}{tt:TT}{te:TE}{own:Nat}{ix:List Nat}{σ:St}{H:Hp}{Q:VK}:jU (zaV ta) g tt te own ix σ H Q=ta σ H λvs H1=>∃j:Int,vs=[.int j]/\-(2 ^ 62)<=j/\j<2 ^ 62/\∀D,H1 D=AL->CompR 0 j.toNat g tt te own ix σ H1 Q D:=rfl
theorem zdZ{K:rT}{tl:TE}{g:TG}{tt:TT}{te:TE}{own:Nat}{ix:List Nat}{σ:St}{H:Hp}{Q:VK}:jU (zcu K tl) g tt te own ix σ H Q=tl σ H λx H1=>∃a,x=.ref a/\(∃xs,SqL K H1 a xs)/\∀D,H1 D=AL->CompL K a g tt te own ix σ H1 Q D:=rfl
theorem zdd{tl:TE}{g:TG}{tt:TT}{te:TE}{own:Nat}{ix:List Nat}{σ:St}{H:Hp}{Q:VK}:jU (zfx tl) g tt te own ix σ H Q=tl σ H λv H1=>∃x,v=.str x/\∀D,H1 D=AL->CompS x g tt te own ix σ H1 Q D:=rfl
section
variable{g:TG}{tt:TT}{te:TE}{own:Nat}{ix:List Nat}{σ:St}{H1:Hp}{Q:VK}{D:rV}
theorem CompR.by{lo:Int}{n:Nat}(Pv:Nat->List V->Hp->Prop)(h0:Pv 0 [] (upd H1 D (.lst [])))
  (hs:∀i AR H',i<n->Pv i AR H'->g (.int (lo+i)) (vt σ own ix) H' λσ3 H3=>yW (vt σ own ix) σ3/\tt σ3 H3 λb H4=>if b=AM then
   te σ3 H4 λv H5=>H5 D=AK (.lst AR)/\AR.length<rS/\CNx n i Pv (AR ++ [v]) (upd H5 D (.lst (AR ++ [v])))else CNx n i Pv AR H4)
  (hd:∀AR H',Pv n AR H'->Q (.ref D) H'):CompR lo n g tt te own ix σ H1 Q D:=by
 refine#[λi m AR H=>m=n - i/\i<=n/\Pv i AR H,#[n,by simp,aD _,h0],?_];rintro i m AR H' ⟨rfl,hi,p⟩;by_cases hlt:i<n
 ·refine .inr #[hlt,λx H2 y=>?_];obtain⟨e,y⟩:=y;subst e y;exact hs i AR _ hlt p
 ·have e:i=n:=by lia
  subst e;exact .inl #[al _,hd AR H' p]
theorem CompL.by{K:rT}{a:rV}{xs:List V}(Pv:Nat->List V->Hp->Prop)(h0:Pv 0 [] (upd H1 D (.lst [])))(hl:∀i AR H',i<=xs.length->Pv i AR H'->SqL K H' a xs)
  (hs:∀i x AR H',xs[i]? = AK x->Pv i AR H'->g x (vt σ own ix) H' λσ3 H3=>yW (vt σ own ix) σ3/\tt σ3 H3 λb H4=>if b=AM then
   te σ3 H4 λv H5=>H5 D=AK (.lst AR)/\AR.length<rS/\CNx xs.length i Pv (AR ++ [v]) (upd H5 D (.lst (AR ++ [v])))else CNx xs.length i Pv AR H4)
  (hd:∀AR H',Pv xs.length AR H'->Q (.ref D) H'):CompL K a g tt te own ix σ H1 Q D:=by
 refine#[λi m AR H=>m=xs.length - i/\i<=xs.length/\Pv i AR H,#[xs.length,by simp,aD _,h0],?_];rintro i m AR H' ⟨rfl,hi,p⟩;have q:=hl i AR H' hi p;by_cases hlt:i<xs.length
 ·refine .inr #[#[xs,xs[i],q,by simp [hlt]],λx H2 y=>?_];obtain⟨e,y⟩:=y;subst e;exact hs i x AR _ (y xs q) p
 ·have e:i=xs.length:=by lia
  subst e;exact .inl #[#[xs,q,al _],hd AR H' p]
theorem CompS.by{l:List Nat}(Pv:Nat->List V->Hp->Prop)(h0:Pv 0 [] (upd H1 D (.lst [])))
  (hs:∀i c AR H',l[i]? = AK c->Pv i AR H'->g (.str (tx [c])) (vt σ own ix) H' λσ3 H3=>yW (vt σ own ix) σ3/\tt σ3 H3 λb H4=>if b=AM then
   te σ3 H4 λv H5=>H5 D=AK (.lst AR)/\AR.length<rS/\CNx l.length i Pv (AR ++ [v]) (upd H5 D (.lst (AR ++ [v])))else CNx l.length i Pv AR H4)
  (hd:∀AR H',Pv l.length AR H'->Q (.ref D) H'):CompS (tx l) g tt te own ix σ H1 Q D:=by
 refine#[λi m AR H=>m=l.length - i/\i<=l.length/\Pv i AR H,#[l.length,by simp,aD _,h0],?_];rintro i m AR H' ⟨rfl,hi,p⟩;by_cases hlt:i<l.length
 ·refine .inr #[hlt,λv H2 y=>?_];obtain⟨e,c,hc,ev⟩:=y;subst e ev;exact hs i c AR _ hc p
 ·have e:i=l.length:=by lia
  subst e;exact .inl #[rfl,hd AR H' p]
end
theorem wx{x:V}{r:St}:yW (AL::r) (AK x::r):=#[rfl,λi v h=>by
 cases i with
 | zero=>cases h
 | succ i=>exact h]
theorem zZ{X:Cx}{scope sc:sP}{own caps:List si}{ix:List Nat}(h1:scope.kind=.function)(h2:scope.names.all (λy=>y.2 != .cell)=AM)(h3:scope.names.all (λy=>y.2 != .local || scope.names.lookup y.1 == AK .local)=AM)
  (h4:scope.names.all (λy=>y.2 != .free || sc.names.lookup y.1 == AK .cell)=AM) (hsc:X.env.scope=sc) (h5:own.all (λy=>scope.names.lookup y == AK .local)=AM) (h6:caps.all (λy=>scope.names.lookup y == AK .free)=AM) (h7:ix.map (λi=>X.N[i]?)=caps.map AK):j4 X scope own caps ix:=by
 refine#[h1,λy hy=>?_,λy hy e=>?_,λy hy=>?_,λy hy=>?_,λy hy=>?_,h7]
 ·have:=Bc.mp h2 y hy;simpa using this
 ·have:=Bc.mp h3 y hy;rw[e]at this;simpa using this
 ·have:=Bc.mp h4 _ hy;have:=by simpa using this
  refine .inl ?_;show X.env.scope.names.lookup y=AK .cell;rw[hsc];exact this
 ·have:=Bc.mp h5 y hy;simpa using this
 ·have:=Bc.mp h6 y hy;simpa using this
theorem Zr{α:Type}(l:List α){a b:Int}(h0:0<=a)(h1:a<=b)(h2:b<=l.length):cut l (AK a) (AK b)=(l.drop a.toNat).take (b - a).toNat:=by
 obtain⟨m,rfl⟩:=bE h0;obtain⟨n,rfl⟩:=bE (by lia:0<=b);unfold cut;rw[HT.sIx_nat,HT.sIx_nat,cA (by lia),cA (by lia)];have:((n:Int) - (m:Int)).toNat=n - m:=by lia
 rw[this];rfl
theorem Xu{k:Nat}{A:sk}(r:Room k A):A.units+100<cLine:=by have:=r.un;lia
end L3
namespace L3
theorem VL{K:rT}{x y:V}{H:Hp}{Q:VK}{l m:List D}(h:(Is K H (.lst l) x/\Is K H (.lst m) y)\/(Is K H (.tup l) x/\Is K H (.tup m) y))(hd:qm l<50)(q:Q (.bl (uA l m)) H):zf9 K x y H Q:=#[l,m,h,hd,q]
def zfo(t u:TS):TS:=λD σ H=>∃R:St->Hp->Prop,t { D with nx:=R } σ H/\∀σ' H',R σ' H'->u D σ' H'
theorem zi{X:Cx}{st:sr}{rest:List sr}{t u:TS}(h1:PS X st t)(h2:PSs X rest u):PSs X (st::rest) (zfo t u):=by
 intro AO s σ H D I h;obtain⟨R,h,hr⟩:=h;refine tw (thn (h1 AO s σ H { D with nx:=R } I h) λf s1 q=>?_)
 cases f with
 | next =>
  obtain⟨σ',H',I',q⟩:=q;exact h2 AO s1 σ' H' D I' (hr _ _ q)
 | ret v=>exact q
 | brk=>exact q
 | cont=>exact q
theorem UB{t u:TS}{D:vq}{σ:St}{H:Hp}(R:St->Hp->Prop)(h:t { D with nx:=R } σ H)(hr:∀σ' H',R σ' H'->u D σ' H'):zfo t u D σ H:=#[R,h,hr]
theorem zj{t u:TS}{D:vq}{σ:St}{H:Hp}(R:St->Hp->Prop)(h:t { D with nx:=R } σ H)(hr:∀G:St->Hp->Prop,G=u D->∀σ' H',R σ' H'->G σ' H'):zfo t u D σ H:=#[R,h,hr _ rfl]
theorem zI{H H':Hp}{a:rV}{o:HO}(h:Same H H')(e:H a=AL):Same H (upd H' a o):=λb u q=>by
 rw[zm (zF q e)];exact h b u q
theorem ForL.by{K:rT}{a:rV}{xs:List V}{g:TG}{tb:TS}{D:vq}{σ:St}{H:Hp}(Pv:Nat->St->Hp->Prop)(h0:Pv 0 σ H)(hl:∀i σ H,i<=xs.length->Pv i σ H->SqL K H a xs)
  (hs:∀i x σ H,xs[i]? = AK x->Pv i σ H->g x σ H λσ2 H2=>tb { D with nx:=Pv (i+1),ct:=Pv (i+1),bk:=D.nx } σ2 H2) (hd:∀σ H,Pv xs.length σ H->D.nx σ H):ForL K a g tb D σ H:=KH Pv h0 hl hs hd
theorem U5{A B:Prop}(h:B):if AM=AN then A else B:=by rw[if_neg (by decide)];exact h
def CompV(K:rT)(a:rV)(n:Nat)(g:TG)(tt:TT)(te:TE)(own:Nat)(ix:List Nat)(σ:L2.St)(H1:Hp)(Q:VK)(D:rV):Prop:=Xw (Irv K a n) g tt te own ix σ H1 Q D
theorem zdO{K:rT}{ta:TA}{g:TG}{tt:TT}{te:TE}{own:Nat}{ix:List Nat}{σ:L2.St}{H:Hp}{Q:VK}:jU (zge K ta) g tt te own ix σ H Q=ta σ H λvs H1=>∃a xs,vs=[.ref a]/\SqL K H1 a xs/\∀D,H1 D=AL->CompV K a xs.length g tt te own ix σ H1 Q D:=rfl
theorem CompV.by{K:rT}{a:rV}{xs:List V}{g:TG}{tt:TT}{te:TE}{own:Nat}{ix:List Nat}{σ:L2.St}{H1:Hp}{Q:VK}{D:rV}(Pv:Nat->List V->Hp->Prop)(h0:Pv 0 [] (upd H1 D (.lst [])))(hl:∀i AR H',i<=xs.length->Pv i AR H'->SqL K H' a xs)
  (hs:∀i x AR H',xs.reverse[i]? = AK x->Pv i AR H'->g x (vt σ own ix) H' λσ3 H3=>yW (vt σ own ix) σ3/\tt σ3 H3 λb H4=>if b=AM then
   te σ3 H4 λv H5=>H5 D=AK (.lst AR)/\AR.length<rS/\CNx xs.length i Pv (AR ++ [v]) (upd H5 D (.lst (AR ++ [v])))else CNx xs.length i Pv AR H4)
  (hd:∀AR H',Pv xs.length AR H'->Q (.ref D) H'):CompV K a xs.length g tt te own ix σ H1 Q D:=by
 refine#[λi m AR H=>m=xs.length - i/\i<=xs.length/\Pv i AR H,#[xs.length,by simp,aD _,h0],?_];rintro i m AR H' ⟨rfl,hi,p⟩;have q:=hl i AR H' hi p;by_cases hlt:i<xs.length
 ·refine .inr #[#[xs,q,rfl,hlt],λx H2 y=>?_];obtain⟨e,y⟩:=y;subst e;refine hs i x AR _ ?_ p;rw[bB hlt];exact y xs q rfl
 ·have e:i=xs.length:=by lia
  subst e;exact .inl #[rfl,hd AR H' p]
theorem ze0{v:V}{σ:L2.St}{H:Hp}{Q:VK}:yk 0 (AK v::σ) H Q=Q v H:=rfl
theorem zeI{a0:Option V}{v:V}{σ:L2.St}{H:Hp}{Q:VK}:yk 1 (a0::AK v::σ) H Q=Q v H:=rfl
theorem zeK{a0 a1:Option V}{v:V}{σ:L2.St}{H:Hp}{Q:VK}:yk 2 (a0::a1::AK v::σ) H Q=Q v H:=rfl
theorem zeQ{a0 a1 a2:Option V}{v:V}{σ:L2.St}{H:Hp}{Q:VK}:yk 3 (a0::a1::a2::AK v::σ) H Q=Q v H:=rfl
theorem zfy{a0 a1 a2 a3:Option V}{v:V}{σ:L2.St}{H:Hp}{Q:VK}:yk 4 (a0::a1::a2::a3::AK v::σ) H Q=Q v H:=rfl
theorem ze3{a0 a1 a2 a3 a4:Option V}{v:V}{σ:L2.St}{H:Hp}{Q:VK}:yk 5 (a0::a1::a2::a3::a4::AK v::σ) H Q=Q v H:=rfl
theorem zeH{a0 a1 a2 a3 a4 a5:Option V}{v:V}{σ:L2.St}{H:Hp}{Q:VK}:yk 6 (a0::a1::a2::a3::a4::a5::AK v::σ) H Q=Q v H:=rfl
theorem zeO{a0 a1 a2 a3 a4 a5 a6:Option V}{v:V}{σ:L2.St}{H:Hp}{Q:VK}:yk 7 (a0::a1::a2::a3::a4::a5::a6::AK v::σ) H Q=Q v H:=rfl
theorem zeW{a0 a1 a2 a3 a4 a5 a6 a7:Option V}{v:V}{σ:L2.St}{H:Hp}{Q:VK}:yk 8 (a0::a1::a2::a3::a4::a5::a6::a7::AK v::σ) H Q=Q v H:=rfl
theorem zfc{a0 a1 a2 a3 a4 a5 a6 a7 a8:Option V}{v:V}{σ:L2.St}{H:Hp}{Q:VK}:yk 9 (a0::a1::a2::a3::a4::a5::a6::a7::a8::AK v::σ) H Q=Q v H:=rfl
theorem zbZ{a0 a1 a2 a3 a4 a5 a6 a7 a8 a9:Option V}{v:V}{σ:L2.St}{H:Hp}{Q:VK}:yk 10 (a0::a1::a2::a3::a4::a5::a6::a7::a8::a9::AK v::σ) H Q=Q v H:=rfl
theorem zaY{a0 a1 a2 a3 a4 a5 a6 a7 a8 a9 a10:Option V}{v:V}{σ:L2.St}{H:Hp}{Q:VK}:yk 11 (a0::a1::a2::a3::a4::a5::a6::a7::a8::a9::a10::AK v::σ) H Q=Q v H:=rfl
theorem zcl{a0 a1 a2 a3 a4 a5 a6 a7 a8 a9 a10 a11:Option V}{v:V}{σ:L2.St}{H:Hp}{Q:VK}:yk 12 (a0::a1::a2::a3::a4::a5::a6::a7::a8::a9::a10::a11::AK v::σ) H Q=Q v H:=rfl
theorem zbi{a0 a1 a2 a3 a4 a5 a6 a7 a8 a9 a10 a11 a12:Option V}{v:V}{σ:L2.St}{H:Hp}{Q:VK}:yk 13 (a0::a1::a2::a3::a4::a5::a6::a7::a8::a9::a10::a11::a12::AK v::σ) H Q=Q v H:=rfl
theorem zcB{a0 a1 a2 a3 a4 a5 a6 a7 a8 a9 a10 a11 a12 a13:Option V}{v:V}{σ:L2.St}{H:Hp}{Q:VK}:yk 14 (a0::a1::a2::a3::a4::a5::a6::a7::a8::a9::a10::a11::a12::a13::AK v::σ) H Q=Q v H:=rfl
theorem zaU{a0 a1 a2 a3 a4 a5 a6 a7 a8 a9 a10 a11 a12 a13 a14:Option V}{v:V}{σ:L2.St}{H:Hp}{Q:VK}:yk 15 (a0::a1::a2::a3::a4::a5::a6::a7::a8::a9::a10::a11::a12::a13::a14::AK v::σ) H Q=Q v H:=rfl
theorem zdQ{b:Bool}{p:Bool->Prop}:(∃k,V.bl b=V.bl k/\p k)=p b:=propext #[λ⟨_,h,q⟩=>by cases h;exact q,λq=>#[_,rfl,q]]
theorem zan{b:Int}{p:Int->Prop}:(∃k,V.int b=V.int k/\p k)=p b:=propext #[λ⟨_,h,q⟩=>by cases h;exact q,λq=>#[_,rfl,q]]
theorem zay{b:si}{p:si->Prop}:(∃k,V.str b=V.str k/\p k)=p b:=propext #[λ⟨_,h,q⟩=>by cases h;exact q,λq=>#[_,rfl,q]]
theorem zaC{b:rV}{p:rV->Prop}:(∃k,V.ref b=V.ref k/\p k)=p b:=propext #[λ⟨_,h,q⟩=>by cases h;exact q,λq=>#[_,rfl,q]]
theorem zfu{i:Int}{p:Int->Prop}:onInt (.int i) p=p i:=rfl
theorem zeL{i:si}{p:si->Prop}:onStr (.str i) p=p i:=rfl
theorem zeU{i:Bool}{p:Bool->Prop}:onBl (.bl i) p=p i:=rfl
theorem zfm{i:rV}{p:rV->Prop}:onRef (.ref i) p=p i:=rfl
theorem zfr{K:rT}{b:Bool}{H:Hp}{p:Bool->Prop}:zeA K (.bl b) H p=p b:=rfl
theorem KR{x:V}{p:Int->Prop}:onInt x p=∃k,x=.int k/\p k:=propext #[onInt.of,onInt.to]
theorem zaF{x:V}{p:si->Prop}:onStr x p=∃k,x=.str k/\p k:=propext #[onStr.of,onStr.to]
theorem zaB{x:V}{p:Bool->Prop}:onBl x p=∃k,x=.bl k/\p k:=propext #[onBl.of,onBl.to]
theorem zas{x:V}{p:rV->Prop}:onRef x p=∃k,x=.ref k/\p k:=propext #[onRef.of,onRef.to]
theorem Ud{i:Nat}{σ:L2.St}{H:Hp}{Q:VK}:yk i σ H Q=∃v,σ[i]? = AK (AK v)/\Q v H:=propext #[onSl.of,λ⟨v,h,q⟩=>by simp only[yk,onSl,h];exact q]
theorem zb9{a b:Int}{H:Hp}{Q:VK}:rEq (.int a) (.int b) H Q=Q (.bl (decide (a=b))) H:=rfl
theorem zcz{a b:si}{H:Hp}{Q:VK}:rEq (.str a) (.str b) H Q=Q (.bl (decide (a=b))) H:=rfl
theorem zct{a b:Int}{H:Hp}{Q:VK}:rNe (.int a) (.int b) H Q=Q (.bl (!decide (a=b))) H:=rfl
theorem za0{a b:si}{H:Hp}{Q:VK}:rNe (.str a) (.str b) H Q=Q (.bl (!decide (a=b))) H:=rfl
theorem zba{a:Int}{y:V}{H:Hp}{Q:VK}:Ys (.int a) y H Q=onInt y λj=>Q (.int (a+j)) H:=rfl
theorem zbC{a:si}{y:V}{H:Hp}{Q:VK}:Ys (.str a) y H Q=onStr y λj=>a.length+j.length<=rS/\Q (.str (a ++ j)) H:=rfl
theorem zbs{a:rV}{y:V}{H:Hp}{Q:VK}:Ys (.ref a) y H Q=zcH (.ref a) y H Q:=rfl
theorem zch{a:Int}{y:V}{H:Hp}{Q:VK}:JT (.int a) y H Q=onInt y λj=>CMul a j/\Q (.int (a * j)) H:=rfl
theorem zb8{z:si}{y:V}{H:Hp}{Q:VK}:JT (.str z) y H Q=onInt y λn=>0<=n/\n<=1000/\z.length<=1000/\Q (.str (tx (aY n.toNat (cs z)).flatten)) H:=rfl
theorem zeV{a:Int}{y:V}{H:Hp}{Q:VK}:zeY (.int a) y H Q=onInt y λj=>Q (.bl (decide (a<j))) H:=rfl
theorem zfE{a:si}{y:V}{H:Hp}{Q:VK}:zeY (.str a) y H Q=onStr y λj=>Q (.bl (decide (cs a<cs j))) H:=rfl
theorem zeZ{a:Int}{y:V}{H:Hp}{Q:VK}:zfd (.int a) y H Q=onInt y λj=>Q (.bl (decide (a<=j))) H:=rfl
theorem zfF{a:si}{y:V}{H:Hp}{Q:VK}:zfd (.str a) y H Q=onStr y λj=>Q (.bl (!(decide (cs j<cs a)))) H:=rfl
theorem zeR{a:Int}{y:V}{H:Hp}{Q:VK}:zeq (.int a) y H Q=onInt y λj=>Q (.bl (decide (j<a))) H:=rfl
theorem zfD{a:si}{y:V}{H:Hp}{Q:VK}:zeq (.str a) y H Q=onStr y λj=>Q (.bl (decide (cs j<cs a))) H:=rfl
theorem zfb{K:rT}{a:rV}{y:V}{H:Hp}{Q:VK}:rIx K (.ref a) y H Q=onInt y λi=>(∃xs,SqL K H a xs/\∃v,atI xs i=AK v/\Q v H)\/∃xs,SqT K H a xs/\∃v,atI xs i=AK v/\Q v H:=rfl
theorem zfB{K:rT}{z:si}{y:V}{H:Hp}{Q:VK}:rIx K (.str z) y H Q=zbg (.str z) y H Q:=rfl
theorem zbn{K:rT}{z:si}{lo hi:Option Int}{H:Hp}{Q:VK}:zep K (.str z) lo hi H Q=(z.length<=rS/\Q (.str (tx (cut (cs z) lo hi))) H):=rfl
theorem zbj{K:rT}{a:rV}{lo hi:Option Int}{H:Hp}{Q:VK}:zep K (.ref a) lo hi H Q=(∃xs,SqL K H a xs/\∀p,H p=AL->Q (.ref p) (upd H p (.lst (Js xs lo hi)))):=rfl
theorem zbd{K:rT}{z:si}{H:Hp}{Q:VK}:Vz K [.str z] H Q=(z.length<=rS/\Q (.int z.length) H):=rfl
theorem za1{K:rT}{a:rV}{H:Hp}{Q:VK}:Vz K [.ref a] H Q=(∃n:Nat,((∃xs,SqL K H a xs/\n=xs.length)\/∃xs,SqT K H a xs/\n=xs.length)/\Q (.int n) H):=rfl
theorem zbL{x:V}{H:Hp}{Q:VK}:zfS x .non H Q=Q (.bl (decide (x=.non))) H:=rfl
theorem zaW{x:V}{H:Hp}{Q:VK}:zdj x .non H Q=Q (.bl (!decide (x=.non))) H:=rfl
theorem zbf{i j:Int}{H:Hp}{Q:VK}:Kb [.int i,.int j] H Q=Q (.int (if j > i then j else i)) H:=rfl
theorem zb5{a:rV}{y:V}{H:Hp}{Q:VK}:UZ (.ref a) [y] H Q=(∃xs,H a=AK (.lst xs)/\xs.length<rS/\Q .non (upd H a (.lst (xs ++ [y])))):=rfl
theorem zec{K:rT}{b:Bool}{H:Hp}{p:Bool->Prop}:(∃k,zaf K (.bl b) H k/\p k)=p b:=propext #[λ⟨_,h,q⟩=>by cases h;exact q,λq=>#[_,rfl,q]]
theorem zf5{K:rT}{z:si}{H:Hp}{p:Prop}:(tyV K "str" (.str z) H/\p)=p:=propext #[λh=>h.2,λh=>#[rfl,h]]
end L3
namespace L3
section
variable{X:Cx}{a b e:so}{ta tb te:TE}{pos p:sY}
theorem zD(i:Nat){x:si}{pos':sY}(hN:X.N.Nodup)(he:PE X e te)(hi:X.N[i]? = AK x:=by rfl)(hx:Loc X.env.scope x:=by exact .inl rfl)(hs:swapsWith e (AK (.Name x pos')) pos.line X.env=pure AN:=by rfl)(hf:X.fn x=AM\/X.env.scope.names.lookup x=AK .local:=by first | exact .inl rfl | exact .inr rfl | assumption) :
  PS X (.Assign [.Name x pos'] e pos) (zcN te (yD i)):=ka hN hi hx he hs hf
theorem zo{r:R2}(hr:IxR X r)(ha:PE X a ta)(hb:PE X b tb)(hs:Qo b:=by exact λ_ _=>rfl):PE X (.Subscript a b pos) (tOp r ta tb):=zfg hr ha hb hs
theorem zC(hm:X.mg "len" = AL)(he:PE X e te)(hg:Gl X "len":=by rfl)(h1:rR [e] X.env=(AN,eval e X.env)::rR [] X.env:=by rfl)(h2:(sw pos (rR [] X.env)).any (·.1)=AN:=by rfl):PE X (.Call (.Name "len" p) [e] [] pos) (tCB (Vz X.K) (zL te xT)) :=
 we ze5 hg hm PySem.boot_len (za he zd h1) (he:=h1) (hpl:=h2)
end
end L3
namespace L3
section
variable{X:Cx}
theorem WC:∀{bs:List Bool} {its:List rW} {i:Nat} {v:rW},Vals (bs.map V.bl) its->its[i]? = AK v->v=.bool (bs.getD i AN)
 | [],_,_,_,.nil,h=>by cases h
 | b::bs,_,0,v,.cons r t,h=>by
  cases r;cases h;rfl
 | b::bs,_,i+1,v,.cons r t,h=>WC (bs:=bs) (i:=i) t h
end
end L3
namespace L3
section
variable{M:Aw}{A:sk}{E:rW->rX->Prop}{s:rX}{base:sq}{env env0:Aa}{outer:List Aa}{L x t C:rV}{dx:Option rV}
theorem zcZ{tb:rW}{Q:Unit->rX->Prop}(hfr:A.frames=AK (env0::outer))(hl:s.heap.FunFrames base (env0::outer))(hf:env0.frame=AK L)(he:env.frame=AK L)
  (hx:s.heap.get? x=AK (xob C dx t tb)) (htb:zcq s.heap x tb)
  (h:∀h' T oT ts,h'.get? x=AK (xob C dx t (.ref T))->T≠x->(tb=.ref T\/s⁻¹<=T)->h'.get? T=AK oT->oT.data=.fields ts->3<ts.size ->
   (∀b o,b≠x->tb≠.ref b->b ∉ frs (env0::outer)->s.heap.get? b=AK o->h'.get? b=AK o)->(∀b o,b≠x->tb≠.ref b->s.heap.get? b=AK o->∃sl,h'.get? b=AK { o with slots:=sl })->Q () { s with heap:=h' }) :
  rZ M A (noteFrame (.ref x) env) Q E s:=by
 have land:∀(h1:sq) (T:rV) (oT:sI) (ts:Array rW),h1.get? x=AK (xob C dx t (.ref T))->T≠x->(tb=.ref T\/s⁻¹<=T)->h1.get? T=AK oT->oT.data=.fields ts->3<ts.size ->
   (∀b o,b≠x->tb≠.ref b->b ∉ frs (env0::outer)->s.heap.get? b=AK o->h1.get? b=AK o)->(∀b o,b≠x->tb≠.ref b->s.heap.get? b=AK o->∃sl,h1.get? b=AK { o with slots:=sl }) ->
   Q () { s with heap:=h1 }:=λh1 T oT ts e1 nT oldT e2 d2 z2 k1 k2=>h h1 T oT ts e1 nT oldT e2 d2 z2 k1 k2
 unfold noteFrame;simp only[he];refine rO (sy hx rfl (x:=tb) rfl ?_);rcases htb with rfl | ⟨T,oT,ts,rfl,nT,e2,d2,z2⟩
 ·rw[if_neg (by decide)];refine kN hfr hl hf he hx λh' oT ts e1 ne e2 d2 z2 k1 k2=>land h' _ oT ts e1 ne (.inr (al _)) e2 d2 z2 (λb o hb _ hbf e=>k1 b o hb hbf e) λb o hb _ e=>k2 b o hb e
 ·rw[if_pos (show (Value.ref T != Value.none)=AM from by simp)];obtain⟨y,hy⟩:∃y,ts[3]? = AK y:=#[ts[3],by simp [z2]];refine rO (sy e2 d2 (x:=y) hy ?_);by_cases c:(y == rawInt L)=AM
  ·rw[if_pos c];exact rP (land s.heap T oT ts hx nT (.inl rfl) e2 d2 z2 (λb o _ _ _ e=>e) λb o _ _ e=>#[o.slots,e])
  ·rw[if_neg c];refine rO (sX e2 d2 z2 ?_);have oth:∀b,b≠T->(s.heap.update T (Obj.mapFields (·.setIfInBounds 3 Value.none))).get? b=s.heap.get? b:=λb hb=>aF _ _ (Ne.symm hb);have hl1:(s.heap.update T (Obj.mapFields (·.setIfInBounds 3 Value.none))).FunFrames base (env0::outer):=hl.of_keeps λb o hb hnf=>#[o,(oth b λq=>by rw[q,e2]at hb;cases hb;exact hnf ts d2).trans hb,rfl];have hsz:(s.heap.update T (Obj.mapFields (·.setIfInBounds 3 Value.none))).objs.size=s⁻¹:=dm ..;refine kN (s:={ s with heap:=s.heap.update T (Obj.mapFields (·.setIfInBounds 3 Value.none)) }) hfr hl1 hf he ((oth x (Ne.symm nT)).trans hx) λh' oT' ts' e1 ne e2' d2' z2' k1 k2=>?_;refine land h' _ oT' ts' e1 ne (.inr (by rw[hsz];exact al _)) e2' d2' z2' (λb o hb hbt hbf e=>k1 b o hb hbf ((oth b λq=>hbt (by rw[q])).trans e)) λb o hb hbt e=>k2 b o hb ((oth b λq=>hbt (by rw[q])).trans e)
end
section
variable{X:Cx}{AO:List (rV × sI)}{σ:St}{H1:Hp}{s1:rX}
theorem Inv.noted{h':sq}{x T:rV}{tb:rW}(I1:Inv X AO σ H1 s1)(hst:X.stack=X.env::X.outer)(fx:wg X AO H1 x)(fT:∀T,tb=.ref T->wg X AO H1 T)(fT':wg X AO H1 T)
  (k1:∀b o,b≠x->tb≠.ref b->b ∉ frs (X.env::X.outer)->s1.heap.get? b=AK o->h'.get? b=AK o) (k2:∀b o,b≠x->tb≠.ref b->s1.heap.get? b=AK o->∃sl,h'.get? b=AK { o with slots:=sl }):Inv X AO σ H1 { s1 with heap:=h' }:=by
 have tbs:∀b,tb=.ref b->H1 b=AL:=λb hb=>(fT b hb).1
 have nch:∀b o,s1.heap.get? b=AK o->b ∉ (x::T::tbL tb)->b≠x/\tb≠.ref b:=λb o _ hb=>by
  refine#[λz=>hb (by simp [z]),λz=>hb ?_];rw[z];simp [tbL]
 have un:Un (frs X.stack) (x::T::tbL tb) H1 H1 s1.heap h':=by
  rw[hst];refine#[λb o e n hb hc=>?_,λb o e n hb hc=>?_,λb o e n _=>n,λb o e hc=>?_,λb xs e=>e,λb o u e=>e,λb ps e=>#[#[],by rw[e];simp]]
  ·obtain⟨a1,a2⟩:=nch b o e hc;exact k1 b o a1 a2 hb e
  ·obtain⟨a1,a2⟩:=nch b o e hc;exact k2 b o a1 a2 e
  ·obtain⟨a1,a2⟩:=nch b o e hc;obtain⟨sl,q⟩:=k2 b o a1 a2 e;exact#[_,q]
 have hok:HOk X.prog X.w H1 h':=λb u e=>by
  refine (I1.hok b u e).stay (λc v hc q=>k1 c v ?_ ?_ ?_ q) (λ_ q=>q) λ_ _ q=>q
  ·rintro rfl;rcases hc with rfl | hc
   ·rw[fx.1]at e;cases e
   ·rw[fx.1]at hc;cases hc
  ·intro z;have:=tbs c z;rcases hc with rfl | hc
   ·rw[this]at e;cases e
   ·rw[this]at hc;cases hc
  ·intro z;rw[<- hst]at z;have:=I1.stkFree c z;rcases hc with rfl | hc
   ·rw[this]at e;cases e
   ·rw[this]at hc;cases hc
 exact I1.call' (s':={ s1 with heap:=h' }) rfl un hok I1.bare λb hb=>by
  have fb:wg X AO H1 b:=by
   rcases AV.mp hb with z | z
   ·rw[z];exact fx
   ·rcases AV.mp z with z | z
    ·rw[z];exact fT'
    ·cases tb with
     | ref b' =>
      have:b=b':=by simpa [tbL] using z
      rw[this];exact fT b' rfl
     | _=>simp [tbL]at z
  obtain⟨_,a1,_,a3,a4,a5⟩:=fb;exact#[a3,a1,a4,a5]
end
section
variable{X:Cx}{scope:sP}{own caps:List si}{ix:List Nat}{cl:List (si × rV)}
theorem Uj{N:List si}{EX:XK}{AO:List (rV × sI)}{σ:St}{H3:Hp}{s3:rX}{fp:List rV}{xe:rW->rX->Prop}{e:rW}{s1:rX}{RE:rW->rX->Prop}(hst:X.stack=X.env::X.outer/\X.env.frame=AK X.env.locals)(hxe:XE X EX)
  (hc1:∀y c,cl.lookup y=AK c->X.env.cells.lookup y=AK c) (I3:Inv X AO σ H3 s3) (f3:∀b ∈ fp,wg X AO H3 b) (fl:zeg (yu X scope cl s3⁻¹ N AO s3 H3 fp xe) EX e s1)
  (hRE:∀m s' x,s'.heap.Ns s3⁻¹ m->(∀h',Heap.SameBut s3⁻¹ s'.heap h'->∀cenv:Aa,cenv.locals=s3⁻¹->rZ (model X.prog X.w) X.A (fB "comprehension.variables-let-go" x cenv:AD rW) (λ_ _=>False) X.xe { s' with heap:=h' })->RE x s') :
  notedBy (model X.prog X.w) X.A (compEnvC scope cl s3⁻¹ X.env) RE e s1:=by
 obtain⟨pins',σ',H1,x,C,t,dx,tb,rfl,I1,ob,tr,fx,fT,q⟩:=fl
 have IX:Inv X AO σ H1 s1:=I3.call' (s':=s1) I1.os I1.base I1.hok I1.bare λb hb=>by
  obtain⟨_,a1,a2,a3,a4,a5⟩:=f3 b hb;exact#[a3,a1,a4,a5]
 have up:∀b,wg (yu X scope cl s3⁻¹ N AO s3 H3 fp xe) pins' H1 b->wg X AO H1 b:=λb hb=>by
  obtain⟨a0,a1,a2,a3,a4,a5⟩:=hb;rcases a3 with a3 | a3
  ·exact#[a0,(f3 b a3).2]
  ·exact I3.fpOk a3 a0
 have fx':=up x fx;have fT':∀T,tb=.ref T->wg X AO H1 T:=λT h=>up T (fT T h);have fr:X.A.frames=AK (X.env::X.outer):=by rw[<- hst.1];exact IX.ok.frames
 have ff:s1.heap.FunFrames X.base (X.env::X.outer):=by rw[<- hst.1];exact IX.stack
 obtain⟨m,hm,_⟩:=I1.loc;have fC:wg X AO H1 s3⁻¹:=I3.fpOk (al _) I1.free;refine zcZ fr ff hst.2 hst.2 ob tr λh' T oT ts e1 nT oldT e2 d2 z2 k1 k2=>?_
 have fT2:wg X AO H1 T:=by
  rcases oldT with z | z
  ·exact fT' T z
  ·exact IX.fpOk z (IX.hok.fresh z)
 have I2:Inv X AO σ H1 { s1 with heap:=h' }:=Inv.noted IX hst.1 fx' fT' fT2 k1 k2;have hCx:s3⁻¹≠x:=λz=>fx.2.1 z.symm;have hCtb:tb≠.ref s3⁻¹:=λz=>(fT _ z).2.1 rfl;obtain⟨oC,es,ep,hoC,rC⟩:=hm
 have hCT:T≠s3⁻¹:=by
  rcases oldT with z | z
  ·exact (fT T z).2.1
  ·exact ce (aw (aq hoC) z)
 have hCf:s3⁻¹ ∉ frs (X.env::X.outer):=λz=>by
  rw[<- hst.1]at z;rcases AV.mp (IX.stkSub _ z)with y | y
  ·exact fC.2.1 y
  ·exact fC.2.2.1 y
 refine hRE m _ _ #[oC,es,ep,k1 _ _ hCx hCtb hCf hoC,rC] λh2 sb cenv hcenv=>?_;have I3':Inv X AO σ H1 { s1 with heap:=h2 }:=I2.turned (t':=s1.toks) (λb o hb e=>(sb.2 b hb).trans e) fC.1 fC.2.1 fC.2.2.2.1 fC.2.2.2.2.1 fC.2.2.2.2.2;have ob2:h2.get? x=AK (xob C dx t (.ref T)):=(sb.2 x (Ne.symm hCx)).trans e1;have oT2:h2.get? T=AK oT:=(sb.2 T hCT).trans e2;unfold fB;refine rO (sy (s:={ s1 with heap:=h2 }) ob2 rfl (x:=.ref T) rfl ?_);rw[if_neg (show ¬ (Value.ref T == Value.none)=AM from by simp)];unfold setFlight;refine rO (rO (sy (s:={ s1 with heap:=h2 }) ob2 rfl (x:=.ref T) rfl ?_));rw[if_pos (show (Value.ref T != Value.none)=AM from by simp)];refine sX (s:={ s1 with heap:=h2 }) oT2 d2 z2 (wpAny_throw (hxe _ _ ?_));have d3:=Obj.data_mapFields d2 (·.setIfInBounds 3 (cenv.frame.elim Value.none λf=>rawInt f))
 have I4:Inv X AO σ H1 { s1 with heap:=h2.update T (Obj.mapFields (·.setIfInBounds 3 (cenv.frame.elim Value.none λf=>rawInt f))) } :=
  I3'.turned (t':=s1.toks) (λb o hb e=>(aF _ _ (Ne.symm hb)).trans e) fT2.1 fT2.2.1 fT2.2.2.2.1 fT2.2.2.2.2.1 fT2.2.2.2.2.2
 exact#[AO,σ,H1,x,C,t,dx,.ref T,rfl,I4,(aF _ _ nT).trans ob2,.inr #[T,_,_,rfl,nT,bY _ oT2 (Obj.isFreed_of_fields d3),d3,by simpa using z2],fx',λT' z=>by cases z;exact fT2,q]
end
section
variable{X:Cx}{scope:sP}{own caps:List si}{ix:List Nat}{elt tg iter:so}{ifs:List so}{pos:sY}{wi:TI}{g:TG}{tt:TT}{te:TE}
end
end L3
namespace L3
open PySem.AutoSeq1 (wpAny_loadPart')
open MeetsSeq MeetsSeq2 MeetsSeq3 SeqRoads2 SeqAt
def jd(op:tJ)(A:sk)(s:rX)(y x:rW)(b:Bool):Prop :=
 ∀(prog:sf) (w:sj) (E:rW->rX->Prop) (Q:rW->rX->Prop),Q (.bool b) s->rZ (model prog w) A (richCompare op y x) Q E s
noncomputable abbrev LtAt:=jd .Lt
noncomputable def zdT:tJ->Nat->Nat->Bool
 | .Gt,m,n=>decide (n<m)
 | _,m,n=>decide (m<n)
noncomputable def zfW:tJ->Int
 | .Gt=>4
 | _=>0
def LG(op:tJ):Prop:=op=.Lt\/op=.Gt
def uj(op:tJ)(e t r:Nat->Bool)(m n:Nat):Prop:=∀i,i<=m->i<=n->r i=if i<m/\i<n then (if e i=AM then r (i+1)else t i)else zdT op m n
noncomputable abbrev ze2:=uj .Lt
variable{op:tJ}
theorem VP(ho:LG op)(l b:rV)(items AQ:Array rW)(n n2:Nat)(dd dd2:Option rV)(sl sl2:Array (Option rW))(e t r:Nat->Bool)(hr:uj op e t r items.size AQ.size)(k:Nat) :
  ∀i:Nat,i<=items.size->i<=AQ.size->items.size - i=k->Meets (Builtin.«list.__eq__.loop» #[[.ref l,.ref b,rawInt i,rawInt (zfW op)],[]])
   (λA R s=>s.heap.get? l=AK { cls:=.type "list",dict:=dd,data:=.seq items n,slots:=sl }/\s.heap.get? b=AK { cls:=.type "list",dict:=dd2,data:=.seq AQ n2,slots:=sl2 } /\
    (∀j (h1:j<items.size) (h2:j<AQ.size),EqAt A.in1 s items[j] AQ[j] (e j))/\(∀j (h1:j<items.size) (h2:j<AQ.size),e j=AN->jd op A.in1 s items[j] AQ[j] (t j)) /\
    R (.ok (.ret (.bool (r i)))) s):=by
 rcases ho with rfl | rfl <;> simp only[zfW] <;> simp only[uj,zdT]at hr
 all_goals
  induction k with
  | zero =>
   intro i b1 b2 hk prog w A R s h;obtain⟨hp,g,d,tk,os⟩:=s;obtain⟨hl,hb,he,ht,h⟩:=h;have hri:=hr i b1 b2;rw[if_neg (by lia)]at hri;rw[hri]at h
   wp_walk using wpAny_loadPart' hl,wpAny_loadPart' hb
   have hi1:items[((i:Nat):Int).toNat]? = AL:=by simp;lia
   rw[hi1]
   wp_walk using wpAny_loadPart' hl,wpAny_loadPart' hb
   exact h
  | succ k ih =>
   intro i b1 b2 hk prog w A R s h;obtain⟨hp,g,d,tk,os⟩:=s;obtain⟨hl,hb,he,ht,h⟩:=h;have hlt:i<items.size:=by lia
   have hi1:items[((i:Nat):Int).toNat]? = AK items[i]:=by simp [hlt]
   have hc:((i:Int)+1)=((i+1:Nat):Int):=by push_cast;rfl
   have hri:=hr i b1 b2;by_cases hlt2:i<AQ.size
   ·rw[if_pos #[hlt,hlt2]]at hri;rw[hri]at h;have hi2:AQ[((i:Nat):Int).toNat]? = AK AQ[i]:=by simp [hlt2]
    wp_walk using wpAny_loadPart' hl,wpAny_loadPart' hb
    rw[hi1,hi2];refine rO (he i hlt hlt2 prog w _ _ ?_)
    cases hb':e i with
    | true =>
     rw[hb',if_pos rfl]at h
     wp_walk
     rw[hc]
     exact#[plainId_quiet plain_eq_loop _,tE entry_eq_loop (by
      rw[Around.under_plainId plain_eq_loop _]
      exact ih (i+1) (by lia) (by lia) (by lia) prog w A R _ #[hl,hb,he,ht,h])]
    | false =>
     rw[hb',if_neg ay]at h
     wp_walk using wpAny_loadPart' hl,wpAny_loadPart' hb
     rw[hi1,hi2];refine rO (ht i hlt hlt2 hb' prog w _ _ ?_)
     wp_walk
     exact h
   ·rw[if_neg (by lia)]at hri;rw[hri]at h;have hi2:AQ[((i:Nat):Int).toNat]? = AL:=by simp;lia
    wp_walk using wpAny_loadPart' hl,wpAny_loadPart' hb
    rw[hi1,hi2]
    wp_walk using wpAny_loadPart' hl,wpAny_loadPart' hb
    exact h
theorem ZM(ho:LG op)(l b:rV)(items AQ:Array rW)(n n2:Nat)(dd dd2:Option rV)(sl sl2:Array (Option rW))(e t r:Nat->Bool)(hr:uj op e t r items.size AQ.size) :
  Meets ((match op with | .Gt=>Builtin.«list.__gt__» | _=>Builtin.«list.__lt__») ⟨[.ref l,.ref b],[]⟩)
   (λA R s=>s.heap.get? l=AK { cls:=.type "list",dict:=dd,data:=.seq items n,slots:=sl }/\s.heap.get? b=AK { cls:=.type "list",dict:=dd2,data:=.seq AQ n2,slots:=sl2 } /\
    (∀j (h1:j<items.size) (h2:j<AQ.size),EqAt A.in1 s items[j] AQ[j] (e j))/\(∀j (h1:j<items.size) (h2:j<AQ.size),e j=AN->jd op A.in1 s items[j] AQ[j] (t j)) /\
    R (.ok (.ret (.bool (r 0)))) s):=by
 rcases id ho with rfl | rfl
 all_goals
  intro prog w A R s h;obtain⟨hp,g,d,tk,os⟩:=s;obtain⟨hl,hb,he,ht,h⟩:=h;have f3:=AutoSeq1.sub_list_list
  wp_walk using wpAny_loadPart' hl,wpAny_loadPart' hb
  exact#[plainId_quiet plain_eq_loop _,tE entry_eq_loop (by
   rw[Around.under_plainId plain_eq_loop _]
   exact VP ho l b items AQ n n2 dd dd2 sl sl2 e t r hr _ 0 (aD _) (aD _) rfl prog w A R _ #[hl,hb,he,ht,h])]
theorem j8(ho:LG op)(l b:rV)(items AQ:Array rW)(n n2:Nat)(dd dd2:Option rV)(sl sl2:Array (Option rW))(e t r:Nat->Bool)(hr:uj op e t r items.size AQ.size) :
  Meets ((match op with | .Gt=>Builtin.«tuple.__gt__» | _=>Builtin.«tuple.__lt__») ⟨[.ref l,.ref b],[]⟩)
   (λA R s=>s.heap.get? l=AK { cls:=.type "tuple",dict:=dd,data:=.seq items n,slots:=sl }/\s.heap.get? b=AK { cls:=.type "tuple",dict:=dd2,data:=.seq AQ n2,slots:=sl2 } /\
    (∀j (h1:j<items.size) (h2:j<AQ.size),EqAt A.in1 s items[j] AQ[j] (e j))/\(∀j (h1:j<items.size) (h2:j<AQ.size),e j=AN->jd op A.in1 s items[j] AQ[j] (t j)) /\
    R (.ok (.ret (.bool (r 0)))) s):=by
 rcases ho with rfl | rfl <;> simp only[uj,zdT]at hr
 all_goals
  refine .of_wp λprog w A R s h=>?_;obtain⟨hp,g,d,tk,os⟩:=s;obtain⟨hl,hb,he,ht,h⟩:=h;have f2:=AutoSeq1.sub_tuple_tuple;have hZ:(items.toList.zip AQ.toList).length=min items.size AQ.size:=by simp
  wp_walk using wpAny_loadPart' hl,wpAny_loadPart' hb,wpAny_forIn_list _ (λrest b s'=>b.1=AL/\s'=#[hp,g,d,tk,os]/\∃i,i<=min items.size AQ.size/\rest=(items.toList.zip AQ.toList).drop i /\
   R (.ok (.ret (.bool (r i)))) #[hp,g,d,tk,os]) _
  case turn =>
   rintro⟨y,x⟩ rest b s' ⟨hb',rfl,i,hi,hz,hR⟩
   have hlt:i<(items.toList.zip AQ.toList).length:=by
    rcases dz i (items.toList.zip AQ.toList).length with h' | h'
    ·exact h'
    ·rw[aV h']at hz;cases hz
   have hm:i<min items.size AQ.size:=hZ ▸ hlt;have h1:i<items.size:=aw hm (Nat.min_le_left _ _);have h2:i<AQ.size:=aw hm (Nat.min_le_right _ _);rw[aS hlt]at hz;injection hz with hyx hrest;have hy:y=items[i]:=by have:=congrArg Prod.fst hyx;simpa using this
   have hx:x=AQ[i]:=by have:=congrArg Prod.snd hyx;simpa using this
   subst hy hx;have hri:=hr i (by lia) (by lia);rw[if_pos #[h1,h2]]at hri;rw[hri]at hR;refine rO (he i h1 h2 prog w _ _ ?_)
   cases hy:e i with
   | true =>
    rw[hy,if_pos rfl]at hR
    wp_walk
    exact#[rfl,rfl,i+1,by lia,hrest,hR]
   | false =>
    rw[hy,if_neg ay]at hR;simp only[e9,if_true];refine rO (tV ?_);refine rO (ht i h1 h2 hy prog w _ _ ?_)
    wp_walk
    exact#[_,rfl,hR]
  case fin =>
   rintro⟨b1,b2⟩ s' ⟨hb',rfl,i,hi,hz,hR⟩;simp only at hb';subst hb'
   have hge:min items.size AQ.size<=i:=by
    rcases dz i (items.toList.zip AQ.toList).length with h' | h'
    ·rw[aS h']at hz;cases hz
    ·exact hZ ▸ h'
   have hri:=hr i (by lia) (by lia);rw[if_neg (by lia)]at hri;rw[hri]at hR
   wp_walk
   exact#[_,rfl,hR]
  case h =>
   exact#[rfl,rfl,0,aD _,rfl,h]
theorem LtAt.lists(ho:LG op){A:sk}{s:rX}{l b:rV}{items AQ:Array rW}{e t r:Nat->Bool}(hl:s.heap.IsList l items)(hb:s.heap.IsList b AQ)(hr:uj op e t r items.size AQ.size)(hu:A.units<cLine)
  (he:∀j (h1:j<items.size) (h2:j<AQ.size),EqAt A.in1 s items[j] AQ[j] (e j)) (ht:∀j (h1:j<items.size) (h2:j<AQ.size),e j=AN->jd op A.in1 s items[j] AQ[j] (t j)):jd op A s (.ref l) (.ref b) (r 0):=λprog w E Q h=>by
 obtain⟨⟨cls,dd,data,sl⟩,h1,hc,n,hd⟩:=id hl;obtain⟨⟨cls2,dd2,data2,sl2⟩,h2,hc2,n2,hd2⟩:=id hb;simp only at hc hd hc2 hd2;subst hc hd hc2 hd2;have z:Value.bool (r 0)≠Value.notImplemented/\Q (.bool (r 0)) s:=#[(λx=>nomatch x),h];rcases id ho with rfl | rfl
 ·exact richCompare_meets_room #[_,h1,rfl] #[_,h2,rfl] F.slot_list_lt F.entry_list_lt (F.args_list_lt_2 _ _) (ZM ho l b items AQ n n2 dd dd2 sl sl2 e t r hr) #[h1,h2,he,ht,z] hu
 ·exact richCompare_meets_room #[_,h1,rfl] #[_,h2,rfl] F.slot_list_gt F.entry_list_gt (F.args_list_gt_2 _ _) (ZM ho l b items AQ n n2 dd dd2 sl sl2 e t r hr) #[h1,h2,he,ht,z] hu
theorem LtAt.tuples(ho:LG op){A:sk}{s:rX}{l b:rV}{items AQ:Array rW}{e t r:Nat->Bool}(hl:s.heap.IsTuple l items)(hb:s.heap.IsTuple b AQ)(hr:uj op e t r items.size AQ.size)(hu:A.units<cLine)
  (he:∀j (h1:j<items.size) (h2:j<AQ.size),EqAt A.in1 s items[j] AQ[j] (e j)) (ht:∀j (h1:j<items.size) (h2:j<AQ.size),e j=AN->jd op A.in1 s items[j] AQ[j] (t j)):jd op A s (.ref l) (.ref b) (r 0):=λprog w E Q h=>by
 obtain⟨⟨cls,dd,data,sl⟩,h1,hc,n,hd⟩:=id hl;obtain⟨⟨cls2,dd2,data2,sl2⟩,h2,hc2,n2,hd2⟩:=id hb;simp only at hc hd hc2 hd2;subst hc hd hc2 hd2;have z:Value.bool (r 0)≠Value.notImplemented/\Q (.bool (r 0)) s:=#[(λx=>nomatch x),h];rcases id ho with rfl | rfl
 ·exact richCompare_meets_room #[_,h1,rfl] #[_,h2,rfl] F.slot_tuple_lt F.entry_tuple_lt (F.args_tuple_lt_2 _ _) (j8 ho l b items AQ n n2 dd dd2 sl sl2 e t r hr) #[h1,h2,he,ht,z] hu
 ·exact richCompare_meets_room #[_,h1,rfl] #[_,h2,rfl] F.slot_tuple_gt F.entry_tuple_gt (F.args_tuple_gt_2 _ _) (j8 ho l b items AQ n n2 dd dd2 sl sl2 e t r hr) #[h1,h2,he,ht,z] hu
end L3
namespace L3
mutual
def okD:D->D->Prop
 | .int _,.int _=>True
 | .lst l,.lst m=>ZC l m
 | .tup l,.tup m=>ZC l m
 | _,_=>False
def ZC:List D->List D->Prop
 | d::l,e::m=>okD d e/\ZC l m
 | _,_=>True
end
mutual
noncomputable def ltD:D->D->Bool
 | .int a,.int b=>decide (a<b)
 | .lst l,.lst m=>ue l m
 | .tup l,.tup m=>ue l m
 | _,_=>AN
noncomputable def ue:List D->List D->Bool
 | d::l,e::m=>if eqD d e=AM then ue l m else ltD d e
 | [],_::_=>AM
 | _,[]=>AN
end
theorem QD(l m:List D):ze2 (λj=>eqD (l.getD j .non) (m.getD j .non)) (λj=>ltD (l.getD j .non) (m.getD j .non)) (λi=>ue (l.drop i) (m.drop i)) l.length m.length:=by
 intro i b1 b2;simp only[zdT];by_cases h:i<l.length/\i<m.length
 ·rw[if_pos h,aS h.1,aS h.2,ue];rw[ae,ae,ah h.1,ah h.2];rfl
 ·rw[if_neg h];by_cases h1:i<l.length
  ·have h2:¬ i<m.length:=λz=>h #[h1,z];rw[aS h1,aV (cT h2),ue]
   ·simp;lia
   all_goals simp
  ·rw[aV (cT h1)];by_cases h2:i<m.length
   ·rw[aS h2,ue];simp;lia
   ·rw[aV (cT h2),ue]
    ·simp;lia
    all_goals simp
mutual
theorem WQ:∀d e:D,eqD d e=eqD e d
 | .lst l,e=>by cases e <;> simp only[eqD];exact jm l _
 | .tup l,e=>by cases e <;> simp only[eqD];exact jm l _
 | .int _,e=>by cases e <;> simp only[eqD] <;> exact fq
 | .str _,e=>by cases e <;> simp only[eqD] <;> exact fq
 | .bl _,e=>by cases e <;> simp only[eqD] <;> exact fq
 | .non,e=>by cases e <;> simp only[eqD]
theorem jm:∀l m:List D,uA l m=uA m l
 | [],[]=>rfl
 | [],_::_=>by simp only[uA]
 | _::_,[]=>by simp only[uA]
 | d::l,e::m=>by simp only[uA,WQ d e,jm l m]
end
noncomputable def cm:tJ->D->D->Bool
 | .Gt,d,e=>ltD e d
 | _,d,e=>ltD d e
noncomputable def cms:tJ->List D->List D->Bool
 | .Gt,d,e=>ue e d
 | _,d,e=>ue d e
theorem UU{op:tJ}(ho:LG op)(l m:List D):uj op (λj=>eqD (l.getD j .non) (m.getD j .non)) (λj=>cm op (l.getD j .non) (m.getD j .non)) (λi=>cms op (l.drop i) (m.drop i)) l.length m.length:=by
 rcases ho with rfl | rfl
 ·exact QD l m
 ·intro i b1 b2;have h:=QD m l i b2 b1;simp only[zdT,cm,cms]at h ⊢;rw[h,WQ (m.getD i .non)];by_cases q:i<l.length/\i<m.length
  ·rw[if_pos q,if_pos q.symm]
  ·rw[if_neg q,if_neg λz=>q z.symm]
theorem zcX:∀{l m:List D} {j:Nat} {d e:D},ZC l m->l[j]? = AK d->m[j]? = AK e->okD d e
 | d::l,e::m,0,_,_,h,q1,q2=>by
  cases q1;cases q2;simp only[ZC]at h;exact h.1
 | d::l,e::m,j+1,_,_,h,q1,q2=>by
  simp only[ZC]at h;exact zcX (j:=j) h.2 q1 q2
section
variable{X:Cx}{AO:List (rV × sI)}{σ:St}{H:Hp}{s:rX}
theorem Wo{op:tJ}{l m:List D}{xs ys:List V}{its its':List rW}{A:sk}{n:Nat}(hl:Iss X.K H l xs)(hm:Iss X.K H m ys)(r:Vals xs its)(r':Vals ys its')(hn:qm l<n)(ok:ZC l m)
  (ih:∀(d e:D) (x y:V) (u v:rW),dpD d<n->okD d e->Is X.K H d x->Is X.K H e y->RelV x u->RelV y v->jd op A s u v (cm op d e)) :
  ∀j (h1:j<its.toArray.size) (h2:j<its'.toArray.size),jd op A s its.toArray[j] its'.toArray[j] (cm op (l.getD j .non) (m.getD j .non)):=by
 intro j h1 h2;rw[ak]at h1 h2;have e1:=hl.len;have e2:=hm.len;have e3:=r.length;have e4:=r'.length;have g1:l[j]? = AK l[j]:=ah (by lia);have g2:m[j]? = AK m[j]:=ah (by lia);generalize l[j]=d at g1;generalize m[j]=e at g2;obtain⟨x,hx,ix⟩:=hl.at g1;obtain⟨y,hy,iy⟩:=hm.at g2;obtain⟨u,hu,ru⟩:=xD r hx;obtain⟨v,hv,rv⟩:=xD r' hy
 have q1:its.toArray[j]=u:=by
  have:=(AS.mp hu).2;simpa using this
 have q2:its'.toArray[j]=v:=by
  have:=(AS.mp hv).2;simpa using this
 rw[q1,q2,ae,ae,g1,g2];exact ih d e x y u v (cL (zca g1) hn) (zcX ok g1 g2) ix iy ru rv
theorem zcs{op:tJ}(ho:LG op)(I:Inv X AO σ H s):∀(n:Nat) (A:sk) (d e:D) (x y:V) (u v:rW),A.units+n<cLine->dpD d<n->okD d e->Is X.K H d x->Is X.K H e y->RelV x u->RelV y v->jd op A s u v (cm op d e):=by
 intro n
 induction n with
 | zero=>intro A d e x y u v _ h;exact absurd h (cf _)
 | succ n ih =>
  intro A d e x y u v hu hd ok hx hy rx ry;have hu1:A.units<cLine:=by lia
  have huA:A.in1.units+n<cLine:=by show A.units+1+n<cLine;lia
  cases d with
  | int a =>
   cases e with
   | int b =>
    simp only[Is]at hx hy;subst hx hy;obtain⟨t,rfl⟩:=rx;obtain⟨t',rfl⟩:=ry;rcases ho with rfl | rfl
    ·exact λprog w E Q h=>lt_int h
    ·exact λprog w E Q h=>gt_int h
   | _=>simp only[okD]at ok
  | lst l =>
   cases e with
   | lst m =>
    simp only[Is]at hx hy;obtain⟨a,xs,rfl,h1,h2⟩:=hx;obtain⟨b,ys,rfl,g1,g2⟩:=hy;cases rx;cases ry;obtain⟨its,r,p,_⟩:=I.list h1;obtain⟨its',r',p',_⟩:=I.list g1;simp only[dpD]at hd;simp only[okD]at ok;have L1:=h2.len;have L2:=g2.len;have L3:=r.length;have L4:=r'.length;have st:=UU ho l m;rw[show l.length=its.toArray.size by simp only[ak];lia,show m.length=its'.toArray.size by simp only[ak];lia]at st
    have r0:=LtAt.lists ho (A:=A) p.isList p'.isList st hu1 (vb h2 g2 r r' (n:=n) (by lia) λd e x y u v q1 q2 q3 q4 q5=>Z5 I n A.in1 d e x y u v huA q1 q2 q3 q4 q5)
     (λj h1 h2 _=>Wo (n:=n) (A:=A.in1) ‹_› g2 r r' (by lia) ok (λd e x y u v q1 q2 q3 q4 q5 q6=>ih A.in1 d e x y u v huA q1 q2 q3 q4 q5 q6) j h1 h2)
    rcases id ho with rfl | rfl <;> exact r0
   | _=>simp only[okD]at ok
  | tup l =>
   cases e with
   | tup m =>
    simp only[Is]at hx hy;obtain⟨a,xs,rfl,h1,h2⟩:=hx;obtain⟨b,ys,rfl,g1,g2⟩:=hy;cases rx;cases ry;obtain⟨its,r,p,_⟩:=I.tuple h1;obtain⟨its',r',p',_⟩:=I.tuple g1;simp only[dpD]at hd;simp only[okD]at ok;have L1:=h2.len;have L2:=g2.len;have L3:=r.length;have L4:=r'.length;have st:=UU ho l m;rw[show l.length=its.toArray.size by simp only[ak];lia,show m.length=its'.toArray.size by simp only[ak];lia]at st
    have r0:=LtAt.tuples ho (A:=A) p p' st hu1 (vb h2 g2 r r' (n:=n) (by lia) λd e x y u v q1 q2 q3 q4 q5=>Z5 I n A.in1 d e x y u v huA q1 q2 q3 q4 q5)
     (λj h1 h2 _=>Wo (n:=n) (A:=A.in1) ‹_› g2 r r' (by lia) ok (λd e x y u v q1 q2 q3 q4 q5 q6=>ih A.in1 d e x y u v huA q1 q2 q3 q4 q5 q6) j h1 h2)
    rcases id ho with rfl | rfl <;> exact r0
   | _=>simp only[okD]at ok
  | non=>cases e <;> simp only[okD]at ok
  | bl _=>cases e <;> simp only[okD]at ok
  | str _=>cases e <;> simp only[okD]at ok
theorem zaJ(I:Inv X AO σ H s):∀(n:Nat) (A:sk) (d e:D) (x y:V) (u v:rW),A.units+n<cLine->dpD d<n->okD d e->Is X.K H d x->Is X.K H e y->RelV x u->RelV y v->LtAt A s u v (ltD d e):=zcs (.inl rfl) I
def zf0(K:rT):R2:=λx y H Q=>∃d e,Is K H d x/\Is K H e y/\dpD d<50/\okD d e/\Q (.bl (ltD d e)) H
theorem zdX(hu:X.A.units+100<cLine):OpR X (su .Lt) (zf0 X.K):=by
 intro AO s σ H x y v u Q I rx ry h;obtain⟨d,e,hx,hy,hd,ok,q⟩:=h;exact zaJ I 50 X.A d e x y v u (by lia) hd ok hx hy rx ry X.prog X.w X.xe _ #[.bl _,H,I,rfl,q]
end
theorem zbI{K:rT}{x y:V}{H:Hp}{Q:VK}{d e:D}(h1:Is K H d x)(h2:Is K H e y)(h3:dpD d<50)(h4:okD d e)(q:Q (.bl (ltD d e)) H):zf0 K x y H Q:=#[d,e,h1,h2,h3,h4,q]
noncomputable def ltI:List Int->List Int->Bool
 | a::l,b::m=>if a=b then ltI l m else decide (a<b)
 | [],_::_=>AM
 | _,[]=>AN
theorem qx:∀(l m:List Int),ZC (l.map D.int) (m.map D.int)
 | [],_=>by simp only[aL,ZC]
 | _::_,[]=>by simp only[aL,ar,ZC]
 | a::l,b::m=>by simp only[ar,ZC,okD,true_and];exact qx l m
theorem Yt:∀(l m:List Int),ue (l.map D.int) (m.map D.int)=ltI l m
 | [],[]=>by simp only[aL,ue,ltI]
 | [],_::_=>by simp only[aL,ar,ue,ltI]
 | _::_,[]=>by simp only[aL,ar,ue,ltI]
 | a::l,b::m=>by
  simp only[ar,ue,ltI,eqD,ltD,Yt l m,beq_iff_eq]
end L3
namespace L3
mutual
def y8:D->Prop
 | .lst _=>False
 | .tup l=>zS l
 | _=>True
def zS:List D->Prop
 | []=>True
 | d::l=>y8 d/\zS l
end
theorem Zf{K:rT}{H:Hp}{a p:rV}{xs ys zs:List V}(hp:H p=AK (.lst ys))(h:SqT K H a xs):SqT K (upd H p (.lst zs)) a xs:=by
 rcases h with (h | ⟨o,h⟩) | h
 ·refine .inl (.inl ?_);rw[zm (λe=>by rw[e,hp]at h;cases h)];exact h
 ·refine .inl (.inr #[o,?_]);rw[zm (λe=>by rw[e,hp]at h;cases h)];exact h
 ·exact .inr h
mutual
theorem Is.updL{K:rT}{H:Hp}{p:rV}{ys zs:List V}(hp:H p=AK (.lst ys)):∀(d:D) (v:V),y8 d->Is K H d v->Is K (upd H p (.lst zs)) d v
 | .non,v,_,h=>by simp only[Is]at h ⊢;exact h
 | .bl b,v,_,h=>by simp only[Is]at h ⊢;exact h
 | .int b,v,_,h=>by simp only[Is]at h ⊢;exact h
 | .str b,v,_,h=>by simp only[Is]at h ⊢;exact h
 | .lst l,v,f,h=>by simp only[y8]at f
 | .tup l,v,f,h=>by
  simp only[Is]at h ⊢;simp only[y8]at f;obtain⟨a,xs,e1,e2,e3⟩:=h;exact#[a,xs,e1,Zf hp e2,Iss.updL hp l xs f e3]
theorem Iss.updL{K:rT}{H:Hp}{p:rV}{ys zs:List V}(hp:H p=AK (.lst ys)):∀(l:List D) (vs:List V),zS l->Iss K H l vs->Iss K (upd H p (.lst zs)) l vs
 | [],vs,_,h=>by simp only[Iss]at h ⊢;exact h
 | d::l,vs,f,h=>by
  simp only[Iss]at h ⊢;simp only[zS]at f;obtain⟨v,r,e1,e2,e3⟩:=h;exact#[v,r,e1,Is.updL hp d v f.1 e2,Iss.updL hp l r f.2 e3]
end
theorem wK:∀{l:List D},(∀d ∈ l,y8 d)->zS l
 | [],_=>by simp only[zS]
 | d::l,h=>by simp only[zS];exact#[h d (by simp),wK λe he=>h e (by simp [he])]
theorem UF{n:Nat}:∀{l:List D},(∀d ∈ l,dpD d<=n)->qm l<=n
 | [],_=>by simp only[qm];lia
 | d::l,h=>by
  have h1:=h d (by simp);have h2:=UF (n:=n) (l:=l) λe he=>h e (by simp [he]);simp only[qm];lia
def LsA(K:rT)(H:Hp)(a:rV)(ds:List D):Prop:=∃xs,H a=AK (.lst xs)/\Iss K H ds xs
theorem LsA.same{K:rT}{H H':Hp}{a:rV}{ds:List D}(h:LsA K H a ds)(e:Same H H'):LsA K H' a ds:=let #[xs,h1,h2]:=h; #[xs,e _ _ h1,Iss.same e _ _ h2]
theorem LsA.is{K:rT}{H:Hp}{a:rV}{ds:List D}(h:LsA K H a ds):Is K H (.lst ds) (.ref a):=by
 obtain⟨xs,h1,h2⟩:=h;simp only[Is];exact#[a,xs,rfl,SqL.of h1,h2]
theorem LsA.nil{K:rT}{H:Hp}{a:rV}:LsA K (upd H a (.lst [])) a []:=#[[],ze,by simp only[Iss]]
theorem LsA.snoc{K:rT}{H:Hp}{a:rV}{ds:List D}{d:D}{xs:List V}{v:V}(h1:H a=AK (.lst xs))(h2:Iss K H ds xs)(f:zS ds)(fd:y8 d)(hv:Is K H d v):LsA K (upd H a (.lst (xs ++ [v]))) a (ds ++ [d]) :=
 #[_,ze,Iss.append (Iss.updL h1 _ _ f h2) (by simp only[Iss];exact#[v,[],rfl,Is.updL h1 _ _ fd hv,rfl])]
theorem Is.tup{K:rT}{H:Hp}{p:rV}{vs:List V}{ds:List D}(hp:H p=AL)(h:Iss K H ds vs):Is K (upd H p (.tup vs)) (.tup ds) (.ref p):=by
 simp only[Is];exact#[p,vs,rfl,SqT.of ze,Iss.same (zc hp) _ _ h]
noncomputable abbrev dS(l:List Nat):D:=.str (tx l)
noncomputable abbrev zp:=List Nat × List Nat
noncomputable def dR(r:zp):D:=.tup [dS r.1,dS r.2]
theorem zc4{K:rT}{H:Hp}{r:zp}{v:V}(h:Is K H (dR r) v):∃p,v=.ref p/\SqT K H p [.str (tx r.1),.str (tx r.2)]:=by
 simp only[dR,Is,Iss]at h;obtain⟨a,xs,e,hs,v1,r1,rfl,rfl,v2,r2,rfl,rfl,rfl⟩:=h;exact#[a,e,hs]
theorem zfs{K:rT}{H:Hp}{p:rV}{l m:List Nat}(h:SqT K H p [.str (tx l),.str (tx m)]):Is K H (dR (l,m)) (.ref p):=by
 simp only[dR,Is,Iss];exact#[p,_,rfl,h,_,_,rfl,rfl,_,_,rfl,rfl,rfl]
theorem zcD(r:zp):y8 (dR r):=by simp only[dR,y8,zS,and_self]
theorem zfj(r:zp):dpD (dR r)<=1:=by simp only[dR,dpD,qm];lia
theorem XG(rs:List zp):zS (rs.map dR):=wK λd h=>by obtain⟨r,_,rfl⟩:=AT.mp h;exact zcD r
theorem zdH(rs:List zp):qm (rs.map dR)<=1:=UF λd h=>by obtain⟨r,_,rfl⟩:=AT.mp h;exact zfj r
noncomputable abbrev N3:=Nat × Nat × Nat
noncomputable def d3(t:N3):D:=.tup [.int (t.1:Nat),.int (t.2.1:Nat),.int (t.2.2:Nat)]
theorem zfC{K:rT}{H:Hp}{t:N3}{v:V}(h:Is K H (d3 t) v):∃p,v=.ref p/\SqT K H p [.int (t.1:Nat),.int (t.2.1:Nat),.int (t.2.2:Nat)]:=by
 simp only[d3,Is,Iss]at h;obtain⟨a,xs,e,hs,v1,r1,rfl,rfl,v2,r2,rfl,rfl,v3,r3,rfl,rfl,rfl⟩:=h;exact#[a,e,hs]
theorem zef{K:rT}{H:Hp}{i j k:Nat}:Iss K H [.int (i:Nat),.int (j:Nat),.int (k:Nat)] [.int (i:Nat),.int (j:Nat),.int (k:Nat)]:=by
 simp only[Iss,Is];exact#[_,_,rfl,rfl,_,_,rfl,rfl,_,_,rfl,rfl,rfl]
theorem zaZ(t:N3):y8 (d3 t):=by simp only[d3,y8,zS,and_self]
theorem WN(rs:List N3):zS (rs.map d3):=wK λd h=>by obtain⟨r,_,rfl⟩:=AT.mp h;exact zaZ r
theorem Iss.get{K:rT}{H:Hp}{l:List D}{vs:List V}{j:Nat}{v:V}(h:Iss K H l vs)(q:vs[j]? = AK v):∃d,l[j]? = AK d/\Is K H d v:=by
 have hj:=(AS.mp q).1;have hl:=h.len;have g1:l[j]? = AK l[j]:=ah (by lia);obtain⟨x,hx,ix⟩:=h.at g1;rw[q]at hx;cases hx;exact#[_,g1,ix]
theorem Iss.getR{K:rT}{H:Hp}{rs:List zp}{vs:List V}{j:Nat}{v:V}(h:Iss K H (rs.map dR) vs)(q:vs[j]? = AK v):∃r p,rs[j]? = AK r/\v=.ref p/\SqT K H p [.str (tx r.1),.str (tx r.2)]:=by
 obtain⟨d,e,i⟩:=h.get q;rw[au]at e;obtain⟨r,hr,rfl⟩:=AX.mp e;obtain⟨p,e1,e2⟩:=zc4 i;exact#[r,p,hr,e1,e2]
theorem Iss.get3{K:rT}{H:Hp}{rs:List N3}{vs:List V}{j:Nat}{v:V}(h:Iss K H (rs.map d3) vs)(q:vs[j]? = AK v):∃r p,rs[j]? = AK r/\v=.ref p/\SqT K H p [.int (r.1:Nat),.int (r.2.1:Nat),.int (r.2.2:Nat)]:=by
 obtain⟨d,e,i⟩:=h.get q;rw[au]at e;obtain⟨r,hr,rfl⟩:=AX.mp e;obtain⟨p,e1,e2⟩:=zfC i;exact#[r,p,hr,e1,e2]
theorem zap{α:Type}(l:List α){a b:Int}(h0:0<=a)(h1:a<=b):cut l (AK a) (AK b)=(l.drop a.toNat).take (b - a).toNat:=by
 by_cases h2:b<=l.length
 ·exact Zr l h0 h1 h2
 ·obtain⟨m,rfl⟩:=bE h0;obtain⟨n,rfl⟩:=bE (by lia:0<=b);unfold cut;rw[HT.sIx_nat,HT.sIx_nat,dn (by lia:l.length<=n)];have e:(((n:Nat):Int) - ((m:Nat):Int)).toNat=n - m:=by lia
  have e2:((m:Nat):Int).toNat=m:=rfl;rw[e,e2,bj (l:=l.drop m) (by rw[bg];lia)];by_cases hm:m<=l.length
  ·rw[cA hm,bj (by rw[bg];lia)]
  ·rw[dn (by lia),aV (al _),aV (by lia),List.take_nil]
theorem ZW(ns:List Int){a b:Int}(h0:0<=a)(h1:a<=b):Js (ns.map V.int) (AK a) (AK b)=((ns.drop a.toNat).take (b - a).toNat).map V.int:=by
 have e:Js (ns.map V.int) (AK a) (AK b)=cut (ns.map V.int) (AK a) (AK b):=rfl;rw[e,zap _ h0 h1,List.map_take,List.map_drop]
end L3
namespace L3
open Classical in
section
variable{X:Cx}{AO:List (rV × sI)}{σ:L2.St}{H:Hp}{s:rX}
open Classical in
end
end L3
namespace L3
structure DM(P:sf)(w:sj)(K:rT)(mg:si->Option rW)(base:sq)(CX:CXT)(k:Nat)(C:rV)(m:si)(ps:List si)(sp:Sp):Prop where
 ex:∃f fd,zdi K C m f/\zP P w K mg base CX k f fd ps sp/\Binds K fd ps []
structure DMk(P:sf)(w:sj)(K:rT)(mg:si->Option rW)(base:sq)(CX:CXT)(k:Nat)(C:rV)(ps:List si)(sp:Sp):Prop where
 ex:∃f fd,Mk K C f/\zP P w K mg base CX k f fd ps sp/\Binds K fd ps []
section
variable{X:Cx}{k j:Nat}{C:rV}{m:si}{ps:List si}{sp:Sp}{o e:so}{es:List so}{ta:TE}{t:TA}{apos pos p:sY}{x:si}{E:XK}
theorem me0(D:DM X.prog X.w X.K X.mg X.base CX0 k C m ps sp)(c:Cls X.K C)(hr:Room j X.A)(he:PE X o ta){pl:AD Bool}(ht:eval (.Call (.Attribute o m apos) [] [] pos) X.env=(do
      let ov <- eval o X.env
      standAt apos.atName
      let (f,first) <- holding [ov] (getMethod ov m pl)
      callWith pos f first (sw pos (rR [] X.env)) (sL pos (sv [] X.env))):=by rfl) (hj:k<=j:=by decide):PE X (.Call (.Attribute o m apos) [] [] pos) (kB C m sp [] E0 ta xT):=by
  obtain⟨f,fd,hm,F,hb⟩:=D.ex;exact Jo he c hm F (hr.mono hj) hb .nil YY ht
theorem me1(D:DM X.prog X.w X.K X.mg X.base CX0 k C m ps sp)(c:Cls X.K C)(hr:Room j X.A)(he:PE X o ta)(ha:PA X (e::es) t){pl:AD Bool}
    (hst:rR (e::es) X.env=(AN,eval e X.env)::rR es X.env:=by rfl) (hpl:(sw pos (rR es X.env)).any (·.1)=AN:=by rfl)
    (ht:eval (.Call (.Attribute o m apos) (e::es) [] pos) X.env=(do
      let ov <- eval o X.env
      standAt apos.atName
      let (f,first) <- holding [ov] (getMethod ov m pl)
      callWith pos f first (sw pos (rR (e::es) X.env)) (sL pos (sv [] X.env))):=by rfl) (hj:k<=j:=by decide):PE X (.Call (.Attribute o m apos) (e::es) [] pos) (kB C m sp [] E0 ta t):=by
  obtain⟨f,fd,hm,F,hb⟩:=D.ex;exact zbp he c hm F (hr.mono hj) hb .nil YY ha hst hpl ht
theorem mkC(D:DMk X.prog X.w X.K X.mg X.base CX0 k C ps sp)(hr:Room j X.A)(hg:Gl X x)(hm:X.mg x=AK (.ref C))(ha:PA X (e::es) t)(hdb:(x ==("__debug__" : si))=AN:=by decide)(he:rR (e::es) X.env=(AN,eval e X.env)::rR es X.env:=by rfl)
  (hpl:(sw pos (rR es X.env)).any (·.1)=AN:=by rfl) (hj:k+1<=j:=by decide):PE X (.Call (.Name x p) (e::es) [] pos) (U9 C sp [] E0 t):=by
 obtain⟨f,fd,M,F,hb⟩:=D.ex;exact QX M F (hr.mono hj) hg hm hb .nil YY ha hdb he hpl
end
end L3
namespace L3
section
variable{X:Cx}
end
section
variable{X:Cx}{k j:Nat}{C:rV}{m:si}{ps:List si}{sp:Sp}{o e:so}{es:List so}{ta:TE}{t:TA}{apos pos p:sY}
end
end L3
namespace L3
def zt(Fam:rV->Prop)(m:si)(sp:rV->Sp)(dvs:List V)(E:XK)(ta:TE)(t:TA):TE:=λσ H Q=>ta σ H λx H1=>∃C a dx fs,Fam C/\x=.ref a/\H1 a=AK (.ins C dx fs)/\fs.lookup m=AL /\
 t σ H1 λvs H2=>sp C (x::(vs ++ dvs)) H2 Q E
structure DMF(P:sf)(w:sj)(K:rT)(mg:si->Option rW)(base:sq)(CX:CXT)(k:Nat)(Fam:rV->Prop)(m:si)(ps:List si)(sp:rV->Sp):Prop where
 ex:∀C,Fam C->Cls K C/\DM P w K mg base CX k C m ps (sp C)
section
variable{X:Cx}{k j:Nat}{Fam:rV->Prop}{m:si}{ps:List si}{sp:rV->Sp}{o e:so}{es:List so}{ta:TE}{t:TA}{apos pos p:sY}{x:si}{E:XK}
theorem zgy(D:DMF X.prog X.w X.K X.mg X.base CX0 k Fam m ps sp)(hr:Room j X.A)(he:PE X o ta){pl:AD Bool}(ht:eval (.Call (.Attribute o m apos) [] [] pos) X.env=(do
      let ov <- eval o X.env
      standAt apos.atName
      let (f,first) <- holding [ov] (getMethod ov m pl)
      callWith pos f first (sw pos (rR [] X.env)) (sL pos (sv [] X.env))):=by rfl) (hj:k<=j:=by decide):PE X (.Call (.Attribute o m apos) [] [] pos) (zt Fam m sp [] E0 ta xT):=by
  intro AO s σ H Q I h;refine bX (pl:=pl) (thn (he AO s σ H _ I h) λu s1 ⟨x,H1,I1,rx,C,a,dx,fs,fam,ex,ea,l,q⟩=>?_) ht;subst ex;obtain rfl:u=Value.ref a:=rx;obtain⟨c,⟨f,fd,hm,F,hb⟩⟩:=D.ex C fam;refine xI I1 ea c hm l ?_;exact fv (first:=[.ref a]) I1.kIn hm.kp (kn (us:=[.ref a]) (vs:=[.ref a]) F (hr.mono hj) hb .nil YY I1 (.cons rfl .nil) q)
theorem zcF(D:DMF X.prog X.w X.K X.mg X.base CX0 k Fam m ps sp)(hr:Room j X.A)(he:PE X o ta)(ha:PA X (e::es) t){pl:AD Bool}
    (hst:rR (e::es) X.env=(AN,eval e X.env)::rR es X.env:=by rfl) (hpl:(sw pos (rR es X.env)).any (·.1)=AN:=by rfl)
    (ht:eval (.Call (.Attribute o m apos) (e::es) [] pos) X.env=(do
      let ov <- eval o X.env
      standAt apos.atName
      let (f,first) <- holding [ov] (getMethod ov m pl)
      callWith pos f first (sw pos (rR (e::es) X.env)) (sL pos (sv [] X.env))):=by rfl) (hj:k<=j:=by decide):PE X (.Call (.Attribute o m apos) (e::es) [] pos) (zt Fam m sp [] E0 ta t):=by
  intro AO s σ H Q I h;refine bX (pl:=pl) (thn (he AO s σ H _ I h) λu s1 ⟨x,H1,I1,rx,C,a,dx,fs,fam,ex,ea,l,q⟩=>?_) ht;subst ex;obtain rfl:u=Value.ref a:=rx;obtain⟨c,⟨f,fd,hm,F,hb⟩⟩:=D.ex C fam;refine xI I1 ea c hm l ?_;refine bN (first:=[.ref a]) (h₀:=X.base) I.ok.mod.kin hm.kp (thn (ha pos AO s1 σ H1 _ I1 q) λus s2 ⟨vs,H2,I2,r,q2⟩=>#[I2.kIn,?_]) hst hpl;exact kn (us:=.ref a::us) (vs:=.ref a::vs) F (hr.mono hj) hb .nil YY I2 (.cons rfl r) q2
end
section
variable{X:Cx}
theorem Wn:∀{ns:List Int} {its:List rW},Vals (ns.map V.int) its->Ax its ns
 | [],_,.nil=>.nil
 | n::ns,_,.cons r t=>by
  obtain⟨tk,rfl⟩:=r;exact .cons n tk (Wn t)
def ye(K:rT):List V->Hp->VK->Prop:=λxs H Q=>∃(p:rV) (ns:List Int),xs=[.ref p]/\SqL K H p (ns.map V.int)/\Q (.int ns.sum) H
theorem zff(hc:X.calm=AM):vP X (.builtin "sum") (ye X.K):=by
 intro AO s σ H xs us Q I r h;obtain⟨p,ns,rfl,hS,q⟩:=h;obtain⟨u,rfl,ru⟩:=vn r;cases ru;obtain⟨its,rv,pl,hz⟩:=I.list hS;have hh:X.A.handled=AL:=I.ok.hd hc;have ia:=Wn rv;obtain⟨ps,e⟩:=ia.allInts.items
 have en:ps.toList.map (·.1)=ns:=by
  rw[<- nums_intItems,<- e];exact ia.numsOf
 refine sum_intListG hh (by rw[<- e];exact pl.isList) λh' tk t' hk=>?_;rw[preSum_eq,bj (by simp),en];exact#[.int ns.sum,H,I.kept hk,#[_,rfl],q]
end
end L3
namespace L3
theorem W7(l:List Nat):((Builtin.Str.strSliceIndices AL AL (-1) (tx l).length).filterMap ((tx l).cps[·]?))=l.reverse:=by
 rw[z9,picked_rev];have e:(tx l).cps=l.toArray:=rfl;rw[e];apply d9;intro i
 have h:((aK l.length).map λk=>l.length - 1 - k).filterMap (l.toArray[·]?)=(aK l.length).map λk=>l.getD (l.length - 1 - k) 0:=by
  rw[filterMap_get,dA]
  ·refine cG λk _=>?_;show l.toArray.getD (l.length - 1 - k) 0=_;simp [fm,List.getD];split <;> simp_all
  ·intro i hi;obtain⟨k,hk,rfl⟩:=AT.mp hi;have:=AZ.mp hk;show _<l.toArray.size;rw[ak];lia
 rw[h];by_cases hi:i<l.length
 ·rw[bB hi,au,dM hi];show AK (l.getD (l.length - 1 - i) 0)=_;rw[ae,ah (by lia)];rfl
 ·rw[be (by simp;lia),be (by simp;lia)]
def yf(te ts:TE):TE:=λσ H Q=>te σ H λx H1=>ts σ H1 λy H2=>y=.int (-1)/\∃l:List Nat,x=.str (tx l)/\l.length<=rS/\Q (.str (tx l.reverse)) H2
section
variable{X:Cx}{e st:so}{te ts:TE}{pos p2:sY}
theorem zcf(he:PE X e te)(hs:PE X st ts):PE X (.Subscript e (.Slice AL AL (AK st) p2) pos) (yf te ts):=by
 intro AO s σ H Q I h;refine AG (thn (he AO s σ H _ I h) λv s1 ⟨x,H1,I1,r1,q1⟩=>?_);refine wpAny_Slice ?_;rw[evalPart_none];refine rP (rP ?_);rw[evalPart_some];refine thn (hs AO s1 σ H1 _ I1 q1) λu s2 ⟨y,H2,I2,r2,ey,l,ex,hl,q2⟩=>?_;subst ey ex;obtain⟨t,rfl⟩:=r1;obtain⟨tk,rfl⟩:=r2;have I4:Inv X AO σ H2 { s2 with heap:=s2.heap.push { cls:=.type "slice",data:=.fields (List.toArray [.none,.none,.int (-1) tk]) } }:=I2.kept (t':=s2.toks) λb ob q=>aa _ q;show rZ (model X.prog X.w) X.A (Am e (.Slice AL AL (AK st) p2) (.str (tx l) t) (.ref s2⁻¹)) (EP X AO σ Q) X.xe { s2 with heap:=s2.heap.push { cls:=.type "slice",data:=.fields (List.toArray [.none,.none,.int (-1) tk]) } };refine tail_any (ops:=[.ref s2⁻¹,.str (tx l) t]) (typeIs_str _ (tx l) t) slot_str_getitem.lookup ?_ (by with_unfolding_all rfl);refine tT (l:=AL) (u:=AL) (st:=AK (-1,tk)) (Heap.IsSliceOf.new ..) rfl ?_;unfold sliceMade slicePicked
 have hc':¬ (((AK ((-1:Int),tk)).map (·.1)).getD 1 == 1 && (Builtin.Str.strSliceIndices ((AL:Option (Int × tP)).map (·.1)) ((AL:Option (Int × tP)).map (·.1)) (((AK ((-1:Int),tk)).map (·.1)).getD 1) (tx l).length).length ==(tx l).length)=AM:=by
  have:(((AK ((-1:Int),tk)).map (·.1)).getD 1 == 1)=AN:=rfl;rw[this];simp
 rw[if_neg hc']
 have e:Str.mk ((Builtin.Str.strSliceIndices AL AL (-1) (tx l).length).filterMap ((tx l).cps[·]?)).toArray=tx l.reverse:=by
  rw[W7]
 show (Str.mk ((Builtin.Str.strSliceIndices AL AL (-1) (tx l).length).filterMap ((tx l).cps[·]?)).toArray).length<=rS/\_;rw[e];refine#[by rw[z9,cF];exact hl,?_]
 exact#[.str (tx l.reverse),H2,I4.tok _,#[_,by
  show Value.str (Str.mk ((Builtin.Str.strSliceIndices AL AL (-1) (tx l).length).filterMap ((tx l).cps[·]?)).toArray) _=_
  rw[e]],q2]
end
end L3
namespace L3
structure zgk(K:rT)(C:rV)(m:si)(f:rV):Prop where
 sg:cC K (.ref C) "__getattribute__" = AK (AK (.builtin "type.__getattribute__"))
 rd:fQ K C (.type "type")=AM
 fc:fR K (.ref C) (.type "type") m=AK (.val (.ref f))
 kp:aH K (.ref f)=AM
structure DC(P:sf)(w:sj)(K:rT)(mg:si->Option rW)(base:sq)(CX:CXT)(k:Nat)(C:rV)(m:si)(ps:List si)(sp:Sp):Prop where
 ex:∃f fd,zgk K C m f/\zP P w K mg base CX k f fd ps sp/\Binds K fd ps []
section
variable{X:Cx}{k j:Nat}{C:rV}{m x:si}{ps:List si}{sp:Sp}{e:so}{es:List so}{t:TA}{apos pos p:sY}
theorem zcj(D:DC X.prog X.w X.K X.mg X.base CX0 k C m ps sp)(hr:Room j X.A)(hg:Gl X x)(hm:X.mg x=AK (.ref C))(ha:PA X (e::es) t){pl:AD Bool}(hdb:(x ==("__debug__" : si))=AN:=by decide)
    (hst:rR (e::es) X.env=(AN,eval e X.env)::rR es X.env:=by rfl) (hpl:(sw pos (rR es X.env)).any (·.1)=AN:=by rfl)
    (ht:eval (.Call (.Attribute (.Name x p) m apos) (e::es) [] pos) X.env=(do
      let ov <- eval (.Name x p) X.env
      standAt apos.atName
      let (f,first) <- holding [ov] (getMethod ov m pl)
      callWith pos f first (sw pos (rR (e::es) X.env)) (sL pos (sv [] X.env))):=by rfl) (hj:k<=j:=by decide):PE X (.Call (.Attribute (.Name x p) m apos) (e::es) [] pos) (u7 sp [] E0 t):=by
  obtain⟨f,fd,cm,F,hb⟩:=D.ex;have hn:PE X (.Name x p) (tC (.ref C)):=yn hg hm rfl hdb;intro AO s σ H Q I h;refine bX (pl:=pl) (thn (hn AO s σ H (λy H1=>y=.ref C/\H1=H) I #[rfl,rfl]) λu s1 ⟨y,H1,I1,ry,ey,eH⟩=>?_) ht;subst ey eH;obtain rfl:u=Value.ref C:=ry;refine PySem.W.method_cls I1.kIn cm.sg (PySem.W.cls_value I1.kIn cm.rd cm.fc rfl ?_);refine bN (first:=[]) (h₀:=X.base) I.ok.mod.kin cm.kp (thn (ha pos AO _ σ H1 _ (I1.tok _) h) λus s2 ⟨vs,H2,I2,r,q2⟩=>#[I2.kIn,?_]) hst hpl;exact kn (us:=us) (vs:=vs) F (hr.mono hj) hb .nil YY I2 r q2
def zu:V->List V->Hp->VK->Prop:=λx xs H Q=>∃(z y:si) (i:Nat),x=.str z/\xs=[.str y]/\PySem.Txt.find z y=(i:Int)/\Q (.int (i:Nat)) H
theorem UX:MtR X "str.index" zu:=by
 intro AO s σ H x xs v us Q I rx rv h;obtain⟨z,y,i,rfl,rfl,hf,q⟩:=h;obtain⟨t,rfl⟩:=rx;obtain⟨u,rfl,t',rfl⟩:=vn rv;unfold PySem.Txt.find at hf
 cases ho:Builtin.Str.occurrences z y 0 z.length 1 with
 | nil=>rw[ho]at hf;dsimp only at hf;lia
 | cons a r =>
  rw[ho]at hf;have:a=i:=by dsimp only at hf;lia
  subst this;exact PySem.SC.index ho #[.int _,H,I.tok _,#[_,rfl],q]
end
end L3
namespace L3
section
variable{prog:sf}{w:sj}{A:sk}{E:rW->rX->Prop}{s:rX}
theorem vj{h h':sq}{a:rV}{ty:String}{x:si}{t:tP}{i:Nat}(y:h.IsStrIter a ty x t i)(e:∀o,h.get? a=AK o->h'.get? a=AK o):h'.IsStrIter a ty x t i:=let #[o,ho,r]:=y; #[o,e o ho,r]
theorem vM{h h':sq}{a t:rV}{i:Nat}(y:h.IsTupleIter a t i)(e:∀o,h.get? a=AK o->h'.get? a=AK o):h'.IsTupleIter a t i:=let #[o,ho,r]:=y; #[o,e o ho,r]
theorem zaw{h h':sq}{a:rV}{xs:Array rW}(y:h.IsTuple a xs)(e:∀o,h.get? a=AK o->h'.get? a=AK o):h'.IsTuple a xs:=let #[o,ho,r]:=y; #[o,e o ho,r]
theorem sit(x:si):sB x="str_ascii_iterator"\/sB x="str_iterator":=by
 unfold sB;split
 ·exact .inl rfl
 ·exact .inr rfl
theorem jg{it:rV}{x:si}{t:tP}{i c:Nat}{Q:rW->rX->Prop}(hit:s.heap.IsStrIter it (sB x) x t i)(hx:x.cps[i]? = AK c)
  (hQ:∀h',h'.IsStrIter it (sB x) x t (i+1)->Heap.SameBut it s.heap h'->Q (.str ⟨#[c]⟩ s.toks) { s with heap:=h',toks:=s.toks+1 }) :
  rZ (model prog w) A (Builtin.SmallTypes.nextOf (.ref it)) Q E s:=by
 rcases sit x with e | e
 ·rw[e]at hit hQ;exact wpAny_nextOf_ascii_item hit hx hQ
 ·rw[e]at hit hQ;exact wpAny_nextOf_wide_item hit hx hQ
theorem jK{it:rV}{x:si}{t:tP}{i:Nat}{Q:rW->rX->Prop}(hh:A.handled=AL)(hit:s.heap.IsStrIter it (sB x) x t i)(hx:x.cps[i]? = AL)
  (hE:∀h' e,Heap.ExtBut it s.heap h'->(∃o,h'.get? e=AK o/\o.cls=.type "StopIteration")->E (.ref e) { s with heap:=h' }) :
  rZ (model prog w) A (Builtin.SmallTypes.nextOf (.ref it)) Q E s:=by
 rcases sit x with e | e
 ·rw[e]at hit;exact wpAny_nextOf_ascii_end hh hit hx hE
 ·rw[e]at hit;exact wpAny_nextOf_wide_end hh hit hx hE
theorem qS{it t:rV}{i:Nat}{items:Array rW}{x:rW}{Q:rW->rX->Prop}(hit:s.heap.IsTupleIter it t i)(ht:s.heap.IsTuple t items)(hx:items[i]? = AK x)
  (hQ:∀h',h'.IsTupleIter it t (i+1)->Heap.SameBut it s.heap h'->Q x { s with heap:=h' }) :
  rZ (model prog w) A (Builtin.SmallTypes.nextOf (.ref it)) Q E s:=by
 obtain⟨o,ho,hc,hd⟩:=id hit;obtain⟨ol,hol,_,nl,hdl⟩:=ht;unfold Builtin.SmallTypes.nextOf
 refine rO (wpAny_callSpecial?_slot (name:=bF "__next__") hit.typeIs F.slot_tuple_iterator_next
  (tU F.slot_tuple_iterator_next hit.typeIs F.entry_tuple_iterator_next ?_ (F.args_tuple_iterator_next_1 _)))
 show rZ _ _ (field (.ref it) 0 >>= _) _ _ s;refine rO (sy ho hd (x:=.ref t) rfl ?_);show rZ _ _ (if (Value.ref t == Value.none)=AM then _ else _) _ _ s;rw[if_neg (show ¬ ((Value.ref t == Value.none)=AM)from ay)];show rZ _ _ (field (.ref it) 1 >>= _) _ _ s;refine rO (sy ho hd (x:=.int i 0) rfl ?_);show rZ _ _ (seqItems? (.ref t) >>= _) _ _ s;refine rO (sM hol hdl ?_);simp only[aJ,hx];refine rO (sX ho hd (by simp) (rP #[x,rfl,rP (hQ _ ?_ (Heap.SameBut.update ..))]))
 exact#[_,bY _ ho (Obj.isFreed_of_fields (Obj.data_mapFields hd _)),(Obj.cls_mapFields ..).trans hc,by
  rw[Obj.data_mapFields hd];simp [rawInt]]
structure zcW(z TI TO i1 i2 l2:rV):Prop extends zav z TI TO i1 i2 where
 l2z:l2≠z
 l2TO:l2≠TO
 l2i1:l2≠i1
 l2i2:l2≠i2
theorem Jm{z TI TO i1 i2 l2:rV}{k c:Nat}{X:si}{tx:tP}{ys:Array rW}{y a b:rW}{Q:rW->rX->Prop}(D:zcW z TI TO i1 i2 l2)
  (hz:tQ s.heap z TI TO .none) (hTI:sQ s.heap TI (.ref i1) (.ref i2)) (hTO:sQ s.heap TO a b)
  (h1:s.heap.IsStrIter i1 (sB X) X tx k) (h2:s.heap.IsTupleIter i2 l2 k) (hl2:s.heap.IsTuple l2 ys) (hx:X.cps[k]? = AK c) (hy:ys[k]? = AK y)
  (hQ:∀h' t',tQ h' z TI TO (rawInt s⁻¹)->sQ h' TO (.str ⟨#[c]⟩ t') y->h'.IsStrIter i1 (sB X) X tx (k+1)->h'.IsTupleIter i2 l2 (k+1)->sQ h' s⁻¹ (.str ⟨#[c]⟩ t') y->h'.objs.size=s⁻¹+1 ->
   (∀c o,c≠z->c≠TO->c≠i1->c≠i2->s.heap.get? c=AK o->h'.get? c=AK o)->Q (.ref s⁻¹) { s with heap:=h',toks:=s.toks+1 }) :
  rZ (model prog w) A (Builtin.«zip.__next__» #[[.ref z],[]]) (λfin s'=>∃v,fin=.done (.ret v)/\Q v s') E s:=by
 show rZ _ _ (field (.ref z) 2 >>= _) _ _ _;refine rO (sy hz rfl (x:=.bool AN) rfl ?_);show rZ _ _ (field (.ref z) 3 >>= _) _ _ _;refine rO (sy hz rfl (x:=.ref TI) rfl ?_);refine rO (sM hTI rfl ?_);show rZ _ _ (Builtin.SmallTypes.ownedTupleIsFree (.ref z) >>= _) _ _ _;refine rO ?_;unfold Builtin.SmallTypes.ownedTupleIsFree;refine rO (sy hz rfl (x:=.none) rfl (rP ?_));simp only[if_true];refine rO (tV ?_);refine rO (sy hz rfl (x:=.ref TO) rfl ?_);refine rO (sZ hz (by simp) λh₁ hz₁ hs₁=>?_)
 replace hz₁:tQ h₁ z TI TO .ellipsis:=hz₁
 refine rO ?_;simp only[List.zipIdx_cons,List.zipIdx_nil,da,e8];refine rO (rO (Ak ?_));show rZ _ _ (Builtin.SmallTypes.nextOf (.ref i1) >>= _) _ _ _;refine rO (jg (s:={ s with heap:=h₁ }) (vj h1 λo e=>hs₁.extBut _ _ D.i1z e) hx λh₂ h1₂ hs₂=>rP ?_);have hTO₂:sQ h₂ TO a b:=hs₂.extBut _ _ D.TOi1 (hs₁.extBut _ _ D.TOz hTO);refine rO (sM hTO₂ rfl ?_);refine rO (Ab hTO₂ λh₃ hTO₃ hs₃=>?_)
 replace hTO₃:sQ h₃ TO (.str ⟨#[c]⟩ s.toks) b:=hTO₃
 refine rO (tF (rP ?_));refine rO (rO (Ak ?_));show rZ _ _ (Builtin.SmallTypes.nextOf (.ref i2) >>= _) _ _ _;have up3:∀d o,d≠z->d≠i1->d≠TO->s.heap.get? d=AK o->h₃.get? d=AK o:=λd o d1 d2 d3 e=>hs₃.extBut _ _ d3 (hs₂.extBut _ _ d2 (hs₁.extBut _ _ d1 e));refine rO (qS (vM h2 λo e=>up3 _ o D.i2z D.i12.symm D.TOi2.symm e) (zaw hl2 λo e=>up3 _ o D.l2z D.l2i1 D.l2TO e) hy λh₄ h2₄ hs₄=>rP ?_);have hTO₄:sQ h₄ TO (.str ⟨#[c]⟩ s.toks) b:=hs₄.extBut _ _ D.TOi2 hTO₃;refine rO (sM hTO₄ rfl ?_);refine rO (Ab hTO₄ λh₅ hTO₅ hs₅=>?_)
 replace hTO₅:sQ h₅ TO (.str ⟨#[c]⟩ s.toks) y:=hTO₅
 refine rO (tF (rP (rP ?_)));refine rO (sM hTO₅ rfl ?_);refine rO (wpAny_newTuple ?_);have hsz:h₅.objs.size=s⁻¹:=by rw[hs₅.1,hs₄.1,hs₃.1,hs₂.1,hs₁.1]
 have hz₅:tQ h₅ z TI TO .ellipsis:=hs₅.extBut _ _ D.TOz.symm (hs₄.extBut _ _ D.i2z.symm (hs₃.extBut _ _ D.TOz.symm (hs₂.extBut _ _ D.i1z.symm hz₁)))
 have hk₅:∀c o,c≠z->c≠TO->c≠i1->c≠i2->s.heap.get? c=AK o->h₅.get? c=AK o:=λc o c1 c2 c3 c4 e =>
  hs₅.extBut _ _ c2 (hs₄.extBut _ _ c4 (up3 _ _ c1 c3 c2 e))
 have h1₅:h₅.IsStrIter i1 (sB X) X tx (k+1):=vj h1₂ λo e=>hs₅.extBut _ _ D.TOi1.symm (hs₄.extBut _ _ D.i12 (hs₃.extBut _ _ D.TOi1.symm e));have h2₅:h₅.IsTupleIter i2 l2 (k+1):=vM h2₄ λo e=>hs₅.extBut _ _ D.TOi2.symm e;have hzlt:z<h₅.objs.size:=aq hz₅;show rZ _ _ (Builtin.SmallTypes.ownedTupleHandOut (.ref z) (.ref h₅.objs.size) >>= _) _ _ _;refine rO ?_;unfold Builtin.SmallTypes.ownedTupleHandOut;have hz₆:tQ (h₅.push { cls:=.type "tuple",data:=.seq (List.toArray [.str ⟨#[c]⟩ s.toks,y]) }) z TI TO .ellipsis:=aa _ hz₅;refine rO (sZ hz₆ (by simp) λh₇ hz₇ hs₇=>?_)
 replace hz₇:tQ h₇ z TI TO (rawInt h₅.objs.size):=hz₇
 refine sZ hz₇ (by simp) λh₈ hz₈ hs₈=>?_
 replace hz₈:tQ h₈ z TI TO (rawInt h₅.objs.size):=hz₈
 have up:∀c o,c≠z->h₅.get? c=AK o->h₈.get? c=AK o:=λc o c1 e=>hs₈.extBut _ _ c1 (hs₇.extBut _ _ c1 (aa _ e));have hT₈:sQ h₈ h₅.objs.size (.str ⟨#[c]⟩ s.toks) y:=hs₈.extBut _ _ (ce hzlt) (hs₇.extBut _ _ (ce hzlt) (aB _ rfl));have hz8:h₈.objs.size=h₅.objs.size+1:=by rw[hs₈.1,hs₇.1,bQ]
 rw[hsz]at hz₈ hT₈ hz8;refine rP #[_,rfl,?_];show Q (.ref h₅.objs.size) _;rw[hsz];exact hQ h₈ s.toks hz₈ (up _ _ D.TOz hTO₅) (vj h1₅ λo e=>up _ o D.i1z e) (vM h2₅ λo e=>up _ o D.i2z e) hT₈ hz8 λc o c1 c2 c3 c4 e=>up c o c1 (hk₅ c o c1 c2 c3 c4 e)
theorem zb6{z TI TO i1 i2 l2:rV}{k:Nat}{X:si}{tx:tP}{a b:rW}{Q:Fin->rX->Prop}(hh:A.handled=AL)(D:zcW z TI TO i1 i2 l2)
  (hz:tQ s.heap z TI TO .none) (hTI:sQ s.heap TI (.ref i1) (.ref i2)) (hTO:sQ s.heap TO a b)
  (h1:s.heap.IsStrIter i1 (sB X) X tx k) (hx:X.cps[k]? = AL)
  (hE:∀h' e,(∀c o,c≠z->c≠TO->c≠i1->c≠i2->s.heap.get? c=AK o->h'.get? c=AK o)->(∃o,h'.get? e=AK o/\o.cls=.type "StopIteration")->E (.ref e) { s with heap:=h' }) :
  rZ (model prog w) A (Builtin.«zip.__next__» #[[.ref z],[]]) Q E s:=by
 show rZ _ _ (field (.ref z) 2 >>= _) _ _ _;refine rO (sy hz rfl (x:=.bool AN) rfl ?_);show rZ _ _ (field (.ref z) 3 >>= _) _ _ _;refine rO (sy hz rfl (x:=.ref TI) rfl ?_);refine rO (sM hTI rfl ?_);show rZ _ _ (Builtin.SmallTypes.ownedTupleIsFree (.ref z) >>= _) _ _ _;refine rO ?_;unfold Builtin.SmallTypes.ownedTupleIsFree;refine rO (sy hz rfl (x:=.none) rfl (rP ?_));simp only[if_true];refine rO (tV ?_);refine rO (sy hz rfl (x:=.ref TO) rfl ?_);refine rO (sZ hz (by simp) λh₁ hz₁ hs₁=>?_)
 replace hz₁:tQ h₁ z TI TO .ellipsis:=hz₁
 refine rO ?_;simp only[List.zipIdx_cons,List.zipIdx_nil,da,e8];refine rO (rO (Ak ?_));show rZ _ _ (Builtin.SmallTypes.nextOf (.ref i1) >>= _) _ _ _;refine rO (jK (s:={ s with heap:=h₁ }) hh (vj h1 λo e=>hs₁.extBut _ _ D.i1z e) hx λh₂ e hs₂ he=>?_);obtain⟨oe,hoe,hce⟩:=he;have hz₂:tQ h₂ z TI TO .ellipsis:=hs₂ _ _ D.i1z.symm hz₁;have hez:e≠z:=λx=>by subst x;rw[hz₂]at hoe;cases hoe;simp at hce
 refine sZ hz₂ (by simp) λh₃ _ hs₃=>hE h₃ e (λc o c1 _ c3 _ x=>hs₃.extBut _ _ c1 (hs₂ _ _ c3 (hs₁.extBut _ _ c1 x))) #[oe,hs₃.extBut _ _ hez hoe,hce]
end
end L3
namespace L3
section
variable{prog:sf}{w:sj}{A:sk}{E:rW->rX->Prop}{s:rX}
theorem qO{z TI TO i1 i2 l2:rV}{k c:Nat}{X:si}{tx:tP}{ys:Array rW}{y a b:rW}{Q:Option rW->rX->Prop}(D:zcW z TI TO i1 i2 l2)
  (hz:tQ s.heap z TI TO .none) (hTI:sQ s.heap TI (.ref i1) (.ref i2)) (hTO:sQ s.heap TO a b)
  (h1:s.heap.IsStrIter i1 (sB X) X tx k) (h2:s.heap.IsTupleIter i2 l2 k) (hl2:s.heap.IsTuple l2 ys) (hx:X.cps[k]? = AK c) (hy:ys[k]? = AK y)
  (hQ:∀h' t',tQ h' z TI TO (rawInt s⁻¹)->sQ h' TO (.str ⟨#[c]⟩ t') y->h'.IsStrIter i1 (sB X) X tx (k+1)->h'.IsTupleIter i2 l2 (k+1)->sQ h' s⁻¹ (.str ⟨#[c]⟩ t') y->h'.objs.size=s⁻¹+1 ->
   (∀c o,c≠z->c≠TO->c≠i1->c≠i2->s.heap.get? c=AK o->h'.get? c=AK o)->Q (AK (.ref s⁻¹)) { s with heap:=h',toks:=s.toks+1 }) :
  rZ (model prog w) A (pyNext (.ref z)) Q E s:=by
 have hT:s.TypeIs (.ref z) "zip":=#[_,hz,rfl];unfold pyNext
 exact rO (tK (wpAny_callSpecial?_slot (name:=bF "__next__") hT F.slot_zip_next
  (tU F.slot_zip_next hT F.entry_zip_next
   (Jm D hz hTI hTO h1 h2 hl2 hx hy λh' t' a1 a2 a3 a4 a5 a6 a7=>rP (hQ h' t' a1 a2 a3 a4 a5 a6 a7)) (F.args_zip_next_1 _))))
theorem jX{z TI TO i1 i2 l2:rV}{k:Nat}{X:si}{tx:tP}{a b:rW}{Q:Option rW->rX->Prop}(hh:A.handled=AL)(D:zcW z TI TO i1 i2 l2)
  (hz:tQ s.heap z TI TO .none) (hTI:sQ s.heap TI (.ref i1) (.ref i2)) (hTO:sQ s.heap TO a b)
  (h1:s.heap.IsStrIter i1 (sB X) X tx k) (hx:X.cps[k]? = AL)
  (hQ:∀h',(∀c o,c≠z->c≠TO->c≠i1->c≠i2->s.heap.get? c=AK o->h'.get? c=AK o)->Q AL { s with heap:=h' }):rZ (model prog w) A (pyNext (.ref z)) Q E s:=by
 have hT:s.TypeIs (.ref z) "zip":=#[_,hz,rfl];unfold pyNext
 refine rO (tK (wpAny_callSpecial?_slot (name:=bF "__next__") hT F.slot_zip_next
  (tU F.slot_zip_next hT F.entry_zip_next (zb6 hh D hz hTI hTO h1 hx λh' e hk he=>?_) (F.args_zip_next_1 _))))
 obtain⟨o,ho,hc⟩:=he;refine rO (wpAny_isInstance (T:="StopIteration") (b:=AM) #[o,ho,hc] isSubtype_stop ?_);exact rP (hQ _ hk)
end
noncomputable abbrev zes(h:sq)(x:si)(t:tP):sq:=h.push { cls:=.type (sB x),data:=.fields (List.toArray [.str x t,.int 0 0]) }
noncomputable abbrev zev(h:sq)(x:si)(t:tP)(l2:rV):sq:=(zes h x t).push { cls:=.type "tuple_iterator",data:=.fields (List.toArray [.ref l2,.int 0 0]) }
noncomputable abbrev zet(h:sq)(x:si)(t:tP)(l2:rV):sq:=(zev h x t l2).push { cls:=.type "tuple",data:=.seq (List.toArray [.ref h.objs.size,.ref (zes h x t).objs.size]) }
noncomputable abbrev zez(h:sq)(x:si)(t:tP)(l2:rV):sq:=(zet h x t l2).push { cls:=.type "tuple",data:=.seq (List.toArray [.none,.none]) }
noncomputable abbrev zbv(h:sq)(x:si)(t:tP)(l2:rV):sq:=(zez h x t l2).push { cls:=.type "zip",data:=.fields (List.toArray [.none,.bool AN,.bool AN,.ref (zev h x t l2).objs.size,.ref (zet h x t l2).objs.size]) }
theorem ZD(x:si)(t:tP)(l2:rV)(ys:Array rW) :
  Meets (Builtin.«zip.__new__» #[[.type "zip",.str x t,.ref l2],[]]) (λ_ R s=>s.heap.IsTuple l2 ys /\
   R (.ok (.ret (.ref (zez s.heap x t l2).objs.size))) { s with heap:=zbv s.heap x t l2 }) :=
 .of_wp λprog w A R s h=>by
  obtain⟨hp,g,d,tk,os⟩:=s;obtain⟨hl2,h⟩:=h;have hsub:=sub_zip;have hL2:Heap.IsTuple (Shared.heap #[hp.push { cls:=.type (sB x),data:=.fields (List.toArray [.str x t,.int 0 0]) },g,d,tk,os]) l2 ys:=zaw hl2 λo e=>aa _ e
  wp_walk using wpAny_pyIter_strU (s:=#[hp,g,d,tk,os]) (x:=x) (t:=t),Ao hL2
  exact#[_,rfl,h]
section
variable{prog:sf}{w:sj}{A:sk}{E:rW->rX->Prop}{s:rX}
theorem Ju{x:si}{t:tP}{l2:rV}{ys:Array rW}{Q:rW->rX->Prop}(hl2:s.heap.IsTuple l2 ys)
  (h:∀h',tQ h' (s⁻¹+4) (s⁻¹+2) (s⁻¹+3) .none->sQ h' (s⁻¹+2) (.ref s⁻¹) (.ref (s⁻¹+1)) ->
   sQ h' (s⁻¹+3) .none .none->h'.IsStrIter s⁻¹ (sB x) x t 0->h'.IsTupleIter (s⁻¹+1) l2 0->h'.objs.size=s⁻¹+5 ->
   (∀c o,s.heap.get? c=AK o->h'.get? c=AK o)->Q (.ref (s⁻¹+4)) { s with heap:=h' }) :
  rZ (model prog w) A (call (.type "zip") [.str x t,.ref l2]) Q E s:=by
 refine callType_new F.called_zip (by decide) (F.typeCall_zip_2 _ _) (F.newCall_zip_2 _ _) (λobj=>F.args_object_init_3 obj _ _) F.entry_zip_new
  (ZD x t l2 ys) #[hl2,?_]
 have z1:(zes s.heap x t).objs.size=s⁻¹+1:=bQ ..;have z2:(zev s.heap x t l2).objs.size=s⁻¹+2:=by rw[bQ,z1]
 have z3:(zet s.heap x t l2).objs.size=s⁻¹+3:=by rw[bQ,z2]
 have z4:(zez s.heap x t l2).objs.size=s⁻¹+4:=by rw[bQ,z3]
 have z5:(zbv s.heap x t l2).objs.size=s⁻¹+5:=by rw[bQ,z4]
 have g5:(zbv s.heap x t l2).get? (zez s.heap x t l2).objs.size=AK _:=aB _ rfl;have g4:(zbv s.heap x t l2).get? (zet s.heap x t l2).objs.size=AK _:=aa _ (aB _ rfl);have g3:(zbv s.heap x t l2).get? (zev s.heap x t l2).objs.size=AK _:=aa _ (aa _ (aB _ rfl));have g2:(zbv s.heap x t l2).get? (zes s.heap x t).objs.size=AK _:=aa _ (aa _ (aa _ (aB _ rfl)));have g1:(zbv s.heap x t l2).get? s⁻¹=AK _:=aa _ (aa _ (aa _ (aa _ (aB _ rfl))));show _/\_;rw[z2,z3,z4]at g5;rw[z1,z2]at g3;rw[z3]at g4;rw[z1]at g2;rw[z4]
 exact#[#[_,g5,rfl],h _ g5 g3 g4 #[_,g1,rfl,rfl] #[_,g2,rfl,rfl] z5 λc o x =>
  aa _ (aa _ (aa _ (aa _ (aa _ x))))]
end
end L3
namespace L3
noncomputable def Izs(K:rT)(l:List Nat)(b:rV):It:=#[λi H=>∃ys y,SqT K H b ys/\i<l.length/\ys[i]? = AK y,λi H v H'=>∃p c y,H p=AL/\l[i]? = AK c/\(∀ys,SqT K H b ys->ys[i]? = AK y)/\v=.ref p/\H'=upd H p (.tup [.str (tx [c]),y]),λi H=>i=l.length]
def ZSt(z TI TO i1 i2:rV)(X:si)(t:tP)(l2:rV)(i:Nat)(h:sq):Prop:=tQ h z TI TO .none/\sQ h TI (.ref i1) (.ref i2)/\(∃a b,sQ h TO a b)/\h.IsStrIter i1 (sB X) X t i/\h.IsTupleIter i2 l2 i
theorem KJ{P:sf}{w:sj}{K:rT}{elts:List so}{x1:Nat}{tpos:sY}(z TI TO i1 i2 l2:rV)(l:List Nat)(t:tP)(D:zcW z TI TO i1 i2 l2) :
  Jf P w K (.Tuple elts x1 tpos) (Izs K l l2) [z,TI,TO,i1,i2] z (λi h=>ZSt z TI TO i1 i2 (tx l) t l2 i h) where
 mem:=by simp
 obj:=λi h st b hb=>by
  obtain⟨hz,hTI,⟨a,c,hTO⟩,⟨o1,e1,c1,d1⟩,⟨o2,e2,c2,d2⟩⟩:=st;simp only[dk,eD,or_false]at hb;rcases hb with rfl | rfl | rfl | rfl | rfl
  ·exact#[_,hz,λv q=>by have q':Data.fields _=Data.cell v:=q;cases q']
  ·exact#[_,hTI,λv q=>by have q':Data.seq _ _=Data.cell v:=q;cases q']
  ·exact#[_,hTO,λv q=>by have q':Data.seq _ _=Data.cell v:=q;cases q']
  ·exact#[o1,e1,λv q=>by rw[d1]at q;cases q]
  ·exact#[o2,e2,λv q=>by rw[d2]at q;cases q]
 keep:=λi h h' st k=>by
  obtain⟨hz,hTI,⟨a,c,hTO⟩,h1,h2⟩:=st;exact#[k z (by simp) _ hz,k TI (by simp) _ hTI,#[a,c,k TO (by simp) _ hTO],vj h1 λo e=>k i1 (by simp) o e,vM h2 λo e=>k i2 (by simp) o e]
 item:=by
  intro X hP hw hK hc i AO s σ H E I hf st hg;subst hP hw hK;obtain⟨ys,y,hqy,hi,hy⟩:=hg;obtain⟨its2,rv2,p2,_⟩:=I.tuple hqy;obtain⟨u2,hu2,ru2⟩:=rv2.get hy;obtain⟨hz,hTI,⟨a,b,hTO⟩,h1,h2⟩:=st;have hl2:s.heap.IsTuple l2 its2.toArray:=p2
  have hx:(tx l).cps[i]? = AK l[i]:=by
   show l.toArray[i]? = _;simp [hi]
  refine qO D hz hTI hTO h1 h2 hl2 hx (y:=u2) (by simpa using hu2) λh' t' a1 a2 a3 a4 a5 a6 hk=>?_;refine#[_,rfl,wpAny_letOwnedTupleGo_zip (s:={ s with heap:=h',toks:=s.toks+1 }) a1 λh2' hz2 sb=>?_];have zlt:z<s⁻¹:=aq hz;have TIlt:TI<s⁻¹:=aq hTI;have TOlt:TO<s⁻¹:=aq hTO;have i1lt:i1<s⁻¹:=by obtain⟨o,e,_⟩:=h1;exact aq e
  have i2lt:i2<s⁻¹:=by obtain⟨o,e,_⟩:=h2;exact aq e
  have I1:Inv X AO σ H { s with heap:=h2',toks:=s.toks+1 }:=Inv.turns (fp:=[z,TI,TO,i1,i2]) I (λb o hb q=>by
   have hb':b≠z/\b≠TI/\b≠TO/\b≠i1/\b≠i2:=by simpa using hb
   exact (sb.2 b hb'.1).trans (hk b o hb'.1 hb'.2.2.1 hb'.2.2.2.1 hb'.2.2.2.2 q)) hf
  have hp:H s⁻¹=AL:=I.hok.fresh (al _);have hT2:h2'.get? s⁻¹=AK { cls:=.type "tuple",data:=.seq (List.toArray [.str ⟨#[l[i]]⟩ t',u2]) }:=(sb.2 _ (ce zlt)).trans a5;have ru1:RelV (.str (tx [l[i]])) (.str ⟨#[l[i]]⟩ t'):=#[t',rfl]
  have I2:Inv X AO σ (upd H s⁻¹ (.tup [.str (tx [l[i]]),y])) { s with heap:=h2',toks:=s.toks+1 } :=
   Inv.track I1 (I.fpOk (al _) hp) #[by show 2<=rS;decide,[.str ⟨#[l[i]]⟩ t',u2],.cons ru1 (.cons ru2 .nil),#[_,hT2,rfl,_,rfl]]
  refine#[.ref s⁻¹,_,I2,rfl,#[s⁻¹,l[i],y,hp,by simp [hi],λzs hz'=>by rw[I.tuple_inj hz' hqy];exact hy,rfl,rfl],#[hz2,(sb.2 _ D.TIz).trans (hk _ _ D.TIz D.TITO D.TIi1 D.TIi2 hTI),#[_,_,(sb.2 _ D.TOz).trans a2],vj a3 λo e=>(sb.2 _ D.i1z).trans e,vM a4 λo e=>(sb.2 _ D.i2z).trans e],λb hb=>?_];rw[zm]
  ·exact (hf b hb).1
  ·simp only[dk,eD,or_false]at hb;rcases hb with rfl | rfl | rfl | rfl | rfl <;> exact az (by assumption)
 done:=by
  intro X hP hw hK hc i AO s σ H E I hf st hg;subst hP hw hK;have hi:i=l.length:=hg;obtain⟨hz,hTI,⟨a,b,hTO⟩,h1,h2⟩:=st;refine jX (I.ok.hd hc) D hz hTI hTO h1 ?_ λh' hk=>#[rfl,?_]
  ·show l.toArray[i]? = AL;simp [hi]
  ·exact Inv.turns (fp:=[z,TI,TO,i1,i2]) (t':=s.toks) I (λb o hb q=>by
    have hb':b≠z/\b≠TI/\b≠TO/\b≠i1/\b≠i2:=by simpa using hb
    exact hk b o hb'.1 hb'.2.2.1 hb'.2.2.2.1 hb'.2.2.2.2 q) hf
 self:=λA i s Q E st h=>Az st.1 h
section
variable{X:Cx}
def iZs(K:rT)(ta:TA):TI:=λσ H R=>ta σ H λvs H1=>∃l b,vs=[.str (tx l),.ref b]/\(∃ys,SqT K H1 b ys)/\R (Izs K l b) H1
theorem zc7{a b:so}{ta:TA}{p pos tpos:sY}{elts:List so}{x1:Nat}(hg:Gl X "zip")(hm:X.mg "zip" = AL)(ha:PA X [a,b] ta)(hs:rR [a,b] X.env=(AN,eval a X.env)::rR [b] X.env:=by rfl)
  (hpl:(sw pos (rR [b] X.env)).any (·.1)=AN:=by rfl):PI X (.Tuple elts x1 tpos) (.Call (.Name "zip" p) [a,b] [] pos) (iZs X.K ta):=by
 intro AO s σ H R I h;refine AJ (wH I hg hm PyProof.Rows.boot_zip (bv (thn (ha pos AO s σ H _ I h) λus s1 ⟨vs,H1,I1,r1,q1⟩=>?_) hs hpl));obtain⟨l,l2,e,⟨ys,hqy⟩,q⟩:=q1;subst e;obtain⟨u1,u2,rfl,ru1,ru2⟩:=VR r1;obtain⟨t,rfl⟩:=ru1;cases ru2;obtain⟨its2,rv2,p2,_⟩:=I1.tuple hqy;have hl2:s1.heap.IsTuple l2 its2.toArray:=p2;have l2lt:l2<s1⁻¹:=by obtain⟨o,e,_⟩:=hl2;exact aq e
 have ne:∀a b:Nat,a≠b->s1⁻¹+a≠s1⁻¹+b:=λa b h e=>h (Nat.add_left_cancel e);have nl:∀a:Nat,l2≠s1⁻¹+a:=λa=>az (aw l2lt (cu _ _));refine Ju hl2 λh' hz hTI hTO h1 h2 hsz kk=>?_;have I2:Inv X AO σ H1 { s1 with heap:=h' }:=I1.kept (t':=s1.toks) kk;refine Az (s:={ s1 with heap:=h' }) hz ?_;refine#[s1⁻¹+4,[s1⁻¹+4,s1⁻¹+2,s1⁻¹+3,s1⁻¹,s1⁻¹+1],_,_,H1,rfl,I2,KJ (s1⁻¹+4) (s1⁻¹+2) (s1⁻¹+3) s1⁻¹ (s1⁻¹+1) l2 l t #[#[ne 2 4 (by decide),ne 3 4 (by decide),ne 0 4 (by decide),ne 1 4 (by decide),ne 2 3 (by decide),ne 2 0 (by decide),ne 2 1 (by decide),ne 3 0 (by decide),ne 3 1 (by decide),ne 0 1 (by decide)],nl 4,nl 3,nl 0,nl 1],#[hz,hTI,#[_,_,hTO],h1,h2],λb hb=>?_,q]
 have hb':s1⁻¹<=b:=by
  simp only[dk,eD,or_false]at hb;rcases hb with e | e | e | e | e
  ·rw[e];exact cu _ _
  ·rw[e];exact cu _ _
  ·rw[e];exact cu _ _
  ·rw[e];exact al _
  ·rw[e];exact cu _ _
 exact I1.fpOk hb' (I1.hok.fresh hb')
end
def CompZ(K:rT)(l:List Nat)(b:rV)(g:TG)(tt:TT)(te:TE)(own:Nat)(ix:List Nat)(σ:L2.St)(H1:Hp)(Q:VK)(D:rV):Prop:=Xw (Izs K l b) g tt te own ix σ H1 Q D
theorem zH{K:rT}{ta:TA}{g:TG}{tt:TT}{te:TE}{own:Nat}{ix:List Nat}{σ:L2.St}{H:Hp}{Q:VK}:jU (iZs K ta) g tt te own ix σ H Q=ta σ H λvs H1=>∃l b,vs=[.str (tx l),.ref b]/\(∃ys,SqT K H1 b ys)/\∀D,H1 D=AL->CompZ K l b g tt te own ix σ H1 Q D:=rfl
section
variable{g:TG}{tt:TT}{te:TE}{own:Nat}{ix:List Nat}{σ:L2.St}{H1:Hp}{Q:VK}{D:rV}
theorem CompZ.by{K:rT}{l:List Nat}{b:rV}{ys:List V}(Pv:Nat->List V->Hp->Prop)(hlen:l.length=ys.length)(h0:Pv 0 [] (upd H1 D (.lst [])))(hl:∀i AR H',i<=l.length->Pv i AR H'->SqT K H' b ys)
  (hs:∀i c y AR H' p,l[i]? = AK c->ys[i]? = AK y->Pv i AR H'->H' p=AL->g (.ref p) (vt σ own ix) (upd H' p (.tup [.str (tx [c]),y])) λσ3 H3=>yW (vt σ own ix) σ3/\tt σ3 H3 λb H4=>if b=AM then
   te σ3 H4 λv H5=>H5 D=AK (.lst AR)/\AR.length<rS/\CNx l.length i Pv (AR ++ [v]) (upd H5 D (.lst (AR ++ [v])))else CNx l.length i Pv AR H4)
  (hd:∀AR H',Pv l.length AR H'->Q (.ref D) H'):CompZ K l b g tt te own ix σ H1 Q D:=by
 refine#[λi m AR H=>m=l.length - i/\i<=l.length/\Pv i AR H,#[l.length,by simp,aD _,h0],?_];rintro i m AR H' ⟨rfl,hi,p⟩;have q:=hl i AR H' hi p;by_cases hlt:i<l.length
 ·refine .inr #[#[ys,ys[i],q,hlt,by simp [<- hlen,hlt]],λx H2 y=>?_];obtain⟨p',c,y,hp,hc,hy,ev,eH⟩:=y;subst ev eH;exact hs i c y AR H' p' hc (hy ys q) p hp
 ·have e:i=l.length:=by lia
  subst e;exact .inl #[rfl,hd AR H' p]
end
end L3
namespace L3
section
variable{X:Cx}{k1 k2 k3 j:Nat}{C1 C2 C3:rV}{m:si}{ps:List si}{s1 s2 s3:Sp}{o e:so}{es:List so}{ta:TE}{t:TA}{apos pos p:sY}{E:XK}
def yc(t1 t2:TE):TE:=λσ H Q=>t1 σ H Q\/t2 σ H Q
theorem zag{t1 t2:TE}(h1:PE X e t1)(h2:PE X e t2):PE X e (yc t1 t2):=by
 intro AO s σ H Q I h;rcases h with h | h
 ·exact h1 AO s σ H Q I h
 ·exact h2 AO s σ H Q I h
theorem zd7(D1:DM X.prog X.w X.K X.mg X.base CX0 k1 C1 m ps s1)(D2:DM X.prog X.w X.K X.mg X.base CX0 k2 C2 m ps s2)(D3:DM X.prog X.w X.K X.mg X.base CX0 k3 C3 m ps s3)(c1:Cls X.K C1)(c2:Cls X.K C2)(c3:Cls X.K C3)(hr:Room j X.A)(he:PE X o ta)(ha:PA X (e::es) t){pl:AD Bool}
    (hst:rR (e::es) X.env=(AN,eval e X.env)::rR es X.env:=by rfl) (hpl:(sw pos (rR es X.env)).any (·.1)=AN:=by rfl)
    (ht:eval (.Call (.Attribute o m apos) (e::es) [] pos) X.env=(do
      let ov <- eval o X.env
      standAt apos.atName
      let (f,first) <- holding [ov] (getMethod ov m pl)
      callWith pos f first (sw pos (rR (e::es) X.env)) (sL pos (sv [] X.env))):=by rfl) (h1:k1<=j:=by decide) (h2:k2<=j:=by decide) (h3:k3<=j:=by decide) :
    PE X (.Call (.Attribute o m apos) (e::es) [] pos) (yc (kB C1 m s1 [] E0 ta t) (yc (kB C2 m s2 [] E0 ta t) (kB C3 m s3 [] E0 ta t))) :=
  zag (me1 (pl:=pl) D1 c1 hr he ha hst hpl ht h1) (zag (me1 (pl:=pl) D2 c2 hr he ha hst hpl ht h2) (me1 (pl:=pl) D3 c3 hr he ha hst hpl ht h3))
end
end L3
namespace L3
section
variable{X:Cx}
end
end L3
namespace L3
section
variable{X:Cx}
end
end L3
namespace L3
open PySem PySem.Spec PyProof.Rows L2 PySem.W PySem.Calls
def uU(n:Int):Prop:=Builtin.Int.intBits n<=1048576
theorem zaL:∀(ns:List Int),WData.weightAll (ns.map WData.int)<=1048576->∀n ∈ ns,uU n
 | [],_,n,h=>nomatch h
 | m::ns,hw,n,h=>by
  rw[ar,WData.weightAll]at hw;rcases AV.mp h with rfl | h
  ·have e:WData.weight (.int n)=Builtin.Int.intBits n:=by
    rw[WData.weight];rfl
   unfold uU;lia
  ·exact zaL ns (by lia) n h
section
variable{X:Cx}
theorem KF{i j:Int}(hi:uU i)(hj:uU j):IntMulOk i j:=by
 unfold IntMulOk Builtin.Int.intTooBig;unfold uU at hi hj;have:(bitsLine:Nat)=134217728:=rfl;simp;intro _ _;lia
theorem Jy:OpR X (binaryOp .Mult) (rI (λi j=>uU i/\uU j) λi j=>.int (i * j)):=opI λ_ _ _ _ _ _ _ hc q=>mul_int q (KF hc.1 hc.2)
end
theorem Yh{l:OpenLaw}{n:Nat}{q:sf}{loose:List si}{XP:(si->Option rW)->sq->Prop}{YP:sj->sq->Prop}{d:DefRec}
  (hn:l.most=AK n) (hdf:d.params.defaults=[])
  (call:∀(w:sj) (s₀ s₁:rX) (mg mb:si->Option rW) (fa:rV) (o:sI) (pm cd doc:rW) (a:rV) (vs:List rW) (ns:List Int),
   Ground q loose [] XP w s₀ mg mb s₁.heap->YP w s₁.heap ->
   s₁.heap.get? fa=AK o->o.data=.func (docDef d.name d.params d.body d.scope pm cd doc)->s₁.heap.CodeRec cd d.name->mg d.name=AK (.ref fa) ->
   s₁.heap.get? a=AK { cls:=.type "list",data:=.seq vs.toArray }->Ax vs ns->ns.length<=n->(∀z ∈ ns,uU z)->s₁.gens=#[] ->
   tB (model l.prog w) callerA (.call (.ref fa) #[[.ref a],[]]) (λr s'=>r=.ok (.ret (.bool AM))/\OldK s₁.heap s'.heap/\s'.os=s₁.os/\tO s'.gens) s₁) :
  WalkO q loose XP YP l.row.toRowW d [] (λf vs=>fS f vs):=by
 intro w s₀ s₁ mg mb G Y fa o pm cd doc dV kV ho hd hcd hD hmg hg args vals as hpre hlay hrd hwl hlo;obtain rfl:dV=.none:=Dflts.none hD hdf;obtain rfl:kV=.none:=Dflts.noKw hD;obtain⟨a,vs,ns,rfl,rfl,hobj,hints,hlen⟩:=Att.script_of hn hpre hwl
 have hb:∀z ∈ ns,uU z:=by
  refine zaL ns ?_
  have h1:WData.layable (WData.list (ns.map WData.int))=AM:=by
   have:=hlay;unfold WData.layableAll at this;simpa using this
  unfold WData.layable at h1;simp only[bV,decide_eq_true_eq]at h1;have h2:=h1.2;rw[WData.weight]at h2;exact h2
 refine enter_call (tz (call w s₀ s₁ mg mb fa o pm cd doc a vs ns G Y ho (fd_plain hd) hcd hmg hobj hints hlen hb hg) λr s' hq=>?_);obtain⟨rfl,h2,h3,h4⟩:=hq;exact#[.inl #[.bool AM,.bool AM,[],rfl,λ_=>rfl,.bool AM,Att.post_true l _,λ_=>#[List.Pairwise.nil,λ_ hm=>(nomatch hm)]],h2,h3,h4]
end L3
namespace L3
section
variable{X:Cx}{k j:Nat}{C:rV}{x f':si}{ps:List si}{sp:Sp}{e:so}{es:List so}{t:TA}{te:TX}{pos p:sY}
end
section
variable{X:Cx}{k j:Nat}{C:rV}{m x:si}{ps:List si}{sp:Sp}{e:so}{es:List so}{t:TA}{apos pos p:sY}{E:XK}
end
end L3
namespace L3
section
variable{prog:sf}{w:sj}{A:sk}{E:rW->rX->Prop}{s:rX}{env:Aa}
end
end L3
namespace L3
theorem XEg.xe{X:Cx}{E:XK}(h:XEg X E):XE X E:=λe s ⟨AO,σ,H,x,C,t,dx,tb,q⟩=>h e s #[.none,AN,AO,σ,H,x,C,t,dx,tb,q]
section
variable{X:Cx}{k:Nat}{ps:List si}{sp:Sp}{ds:List rW}{dvs:List V}{E:XK}{x:si}{p pos:sY}{e:so}{es:List so}{t:TA}
end
section
variable{X:Cx}{o e:so}{to:TE}{te:TX}{name:si}{apos cpos:sY}{T id:String}{r:V->List V->Hp->VK->Prop}
end
section
variable{X:Cx}
end
section
variable{X:Cx}{k j:Nat}{C:rV}{ps:List si}{sp:Sp}{e:so}{es:List so}{t:TA}{pos p:sY}{x:si}
end
end L3
namespace L3
theorem Xr(x y:si)(i j:Int)(t u v v':tP):Gives (Builtin.«str.find» #[[.str x t,.str y u,.int i v,.int j v'],[]]) (.int (match Builtin.Str.occurrences x y (fromIndex x.length i) (min (fromIndex x.length j) x.length) 1 with | k::_=>(k:Int) | []=>-1)):=by
 show Gives (match Builtin.Str.occurrences x y (fromIndex x.length i) (min (fromIndex x.length j) x.length) 1 with | k::_=>retInt k | []=>(do rule "str.find.not-found";retInt (-1))) _
 cases Builtin.Str.occurrences x y (fromIndex x.length i) (min (fromIndex x.length j) x.length) 1 with
 | nil=>exact .rule (.of_eq rfl)
 | cons k _=>exact .of_eq rfl
theorem Y8(x y:si)(lo hi:Nat) :
  (Builtin.Str.occurrences x y lo hi 1=[]/\∀i,lo<=i->¬ StrLaws.At x y hi i) \/
  ∃i r,Builtin.Str.occurrences x y lo hi 1=i::r/\lo<=i/\StrLaws.At x y hi i/\∀k,lo<=k->k<i->¬ StrLaws.At x y hi k:=by
 rw[StrLaws.occ_eq];rcases StrLaws.occ_first x y hi 1 (al 1) (List.range' lo (hi+1 - lo)) lo (λi hm=>(List.mem_range'_1.mp hm).1)with ⟨e,no⟩ | ⟨pre,a,post,e,e0,at_a,no⟩
 ·exact .inl #[by rw[e],λi h1 h2=>no i (by have:=h2.1;rw[List.mem_range'_1];lia) h2]
 ·have sp:=StrLaws.range'_split_from e;generalize (forIn (List.range' lo (hi+1 - lo)) ((#[]:Array Nat),lo) (StrLaws.occBody x y hi 1)).run.fst=z at e0 ⊢;obtain⟨zs⟩:=z
  cases zs with
  | nil=>simp at e0
  | cons b r =>
   have:b=a:=by simpa using e0
   subst this;exact .inr #[b,r,rfl,sp.1,at_a,λk h1 h2=>no k (sp.2 k h1 h2)]
theorem zeJ(l p:List Nat)(hi i:Nat):StrLaws.At (tx l) (tx p) hi i ↔ i+p.length<=hi/\(l.drop i).take p.length=p:=by
 unfold StrLaws.At Builtin.Str.subAt;rw[z9,beq_iff_eq]
 have e1:((tx l).cps.extract i (i+p.length)).toList=(l.drop i).take p.length:=by
  show (l.toArray.extract i (i+p.length)).toList=_;simp [ef]
 have e2:((tx l).cps.extract i (i+p.length)=(tx p).cps) ↔ (l.drop i).take p.length=p:=by
  constructor
  ·intro h;rw[<- e1,h]
  ·intro h;apply Array.toList_inj.mp;rw[e1,h]
 rw[e2]
def K5:V->List V->Hp->VK->Prop:=λx xs H Q=>∃(l p:List Nat) (lo hi:Int),x=.str (tx l)/\xs=[.str (tx p),.int lo,.int hi]/\0<=lo/\0<=hi/\∀r:Int,((r=-1/\∀q:Nat,lo<=q->(q:Int)+p.length<=hi->q+p.length<=l.length->(l.drop q).take p.length≠p)\/∃k:Nat,r=k/\lo<=k/\(k:Int)+p.length<=hi/\k+p.length<=l.length/\(l.drop k).take p.length=p/\∀q:Nat,lo<=q->q<k->(l.drop q).take p.length≠p)->Q (.int r) H
theorem zby{X:Cx}:MtR X "str.find" K5:=by
 intro AO s σ H x xs v us Q I rx rv h;obtain⟨l,p,lo,hi,rfl,rfl,h0,h1,q⟩:=h;obtain⟨t,rfl⟩:=rx
 cases rv with
 | cons r1 r2 =>
  cases r2 with
  | cons r2 r3 =>
   obtain⟨w3,rfl,t3,rfl⟩:=vn r3;obtain⟨t1,rfl⟩:=r1;obtain⟨t2,rfl⟩:=r2;have f0:fromIndex (tx l).length lo=lo.toNat:=by unfold fromIndex;rw[if_neg (by lia)];lia
   have f1:fromIndex (tx l).length hi=hi.toNat:=by unfold fromIndex;rw[if_neg (by lia)];lia
   refine call_gives F.slot_str_find (typeIs_str _ _ _) F.entry_str_find (F.args_str_find_4 _ _ _ _) (Xr _ _ lo hi t t1 t2 t3) ?_;refine#[.int _,H,I.tok _,#[_,rfl],q _ ?_];rw[f0,f1];have hm:∀k:Nat,k+p.length<=min hi.toNat (tx l).length ↔ (k:Int)+p.length<=hi/\k+p.length<=l.length:=λk=>by rw[z9];lia
   rcases Y8 (tx l) (tx p) lo.toNat (min hi.toNat (tx l).length)with ⟨e,no⟩ | ⟨i,r,e,hl,ha,no⟩
   ·rw[e];exact .inl #[rfl,λk k1 k2 k3 k4=>no k (by lia) ((zeJ l p _ k).mpr #[(hm k).mpr #[k2,k3],k4])]
   ·rw[e];obtain⟨a1,a2⟩:=(zeJ l p _ i).mp ha;obtain⟨b1,b2⟩:=(hm i).mp a1;exact .inr #[i,rfl,by lia,b1,b2,a2,λk k1 k2 k4=>no k (by lia) k2 ((zeJ l p _ k).mpr #[(hm k).mpr #[by lia,by lia],k4])]
end L3
set_option linter.unusedVariables false
namespace L3
section
variable{X:Cx}
end
end L3
namespace L3
section
variable{prog:sf}{w:sj}{A:sk}{R:Ah->rX->Prop}{I l S:rV}
theorem UP(hh:A.handled=AL)(hlI:l≠I)(hSI:S≠I)(hSl:S≠l)(xs:Array rW)(val:Nat->Int)(hv:∀i v,xs[i]? = AK v->∃t,v=Value.int (val i) t)(d:rW) :
  ∀(k j:Nat) (z:Int) (t:tP) (s:rX) (c:Nat),xs.size - j=k->j<=xs.size->(∀i,i<j->val i<=z)->s.heap.IsListIter I l j->s.heap.IsList l xs->s.heap.get? S=AK (sC "list" (List.toArray [.int z t,.int z t]) c) ->
   (∀z' t' h' tk,(∀i,i<xs.size->val i<=z')->(∀b o,b≠I->b≠S->s.heap.get? b=AK o->h'.get? b=AK o)->R (.ok (.ret (.int z' t'))) { s with heap:=h',toks:=tk }) ->
   tB (model prog w) A (.builtin "max.loop" #[[.ref I,.none,.ref S],[(bF "default",d)]]) R s:=by
 have nm:(toString "max" ++ toString ".loop" : String)="max.loop":=by decide
 have W:=Walks.list (prog:=prog) (w:=w) (A:=A.in1) hh I l hlI xs;intro k
 induction k with
 | zero =>
  intro j z t s c hk hj hz hit hl hS hR;have e:j=xs.size:=by lia
  refine tE (b:=Builtin.«max.loop») dj ?_;rw[Around.under_plainId (id:="max.loop") bG _];show rZ _ A.in1 (seqItems? (Value.ref S) >>= _) _ _ s;refine rO (sM (items:=(List.toArray [.int z t,.int z t])) hS rfl ?_);show rZ _ A.in1 (tryCatch (pyNext (Value.ref I)) _ >>= _) _ _ s;refine rO (tH (W.done s _ _ #[e ▸ hit,hl] λh' tk kp=>?_));have hS':=kp S _ (by simpa using hSI) hS;show rZ _ A.in1 (updateSeq S (λ_=>(#[]:Array rW)) >>= _) _ _ _;refine rO (tZ hS' rfl (rO (tF (rP ?_))));exact hR z t _ tk (λi hi=>hz i (by lia)) λb o hb hb' q=>(aF _ _ (Ne.symm hb')).trans (kp b o (by simpa using hb) q)
 | succ k ih =>
  intro j z t s c hk hj hz hit hl hS hR;refine tE (b:=Builtin.«max.loop») dj ?_;rw[Around.under_plainId (id:="max.loop") bG _];show rZ _ A.in1 (seqItems? (Value.ref S) >>= _) _ _ s;refine rO (sM (items:=(List.toArray [.int z t,.int z t])) hS rfl ?_);show rZ _ A.in1 (tryCatch (pyNext (Value.ref I)) _ >>= _) _ _ s;refine rO (tH (W.item j s _ _ (by lia) #[hit,hl] λv h' tk hP st kp=>?_));obtain⟨t2,rfl⟩:=hv j v hP;have hS':=kp S _ (by simpa using hSI) hS;show rZ _ A.in1 (tryCatch (holding [Value.int (val j) t2,Value.int (val j) t2] (richCompare .Gt (.int (val j) t2) (.int z t) >>= _)) _ >>= _) _ _ _;refine rO (tH (sJ (rO (CmpOf.ints_gt (prog:=prog) (w:=w) (A:=A.in1) (P:=λi v=>∃t,v=Value.int (if i=0 then val j else z) t) (λi=>if i=0 then val j else z) (λi v h=>h) 0 1 _ _ _ _ _ #[t2,rfl] #[t,rfl] ?_))));refine rO (sJ (sH (rO (tF (rP ?_)))));by_cases g:val j > z
  ·simp only[if_true,Nat.one_ne_zero,if_false,g,decide_true];refine rO (tZ hS' rfl (rO (tF ?_)));rw[nm];refine rP #[plainId_quiet bG _,ih (j+1) (val j) t2 _ _ (by lia) (by lia) (λi hi=>?_) (W.frame _ _ _ st λb hb o q=>?_).1 (W.frame _ _ _ st λb hb o q=>?_).2 (get?_update_seq hS' _) λz' t' h'' tk'' a1 a2=>hR z' t' h'' tk'' a1 λb o hb hb' q=>a2 b o hb hb' ((aF _ _ (Ne.symm hb')).trans (kp b o (by simpa using hb) q))]
   ·by_cases e:i=j
    ·rw[e];exact fL _
    ·have:=hz i (by lia);lia
   all_goals
    refine (aF _ _ (λe:S=b=>?_)).trans q;subst e;rcases AV.mp hb with e | e
    ·exact hSI e
    ·exact hSl (AW.mp e)
  ·simp only[if_true,Nat.one_ne_zero,if_false,g,decide_false,bC];refine rO (tF ?_);rw[nm];refine rP #[plainId_quiet bG _,ih (j+1) z t _ _ (by lia) (by lia) (λi hi=>?_) st.1 st.2 hS' λz' t' h'' tk'' a1 a2=>hR z' t' h'' tk'' a1 λb o hb hb' q=>a2 b o hb hb' (kp b o (by simpa using hb) q)];by_cases e:i=j
   ·rw[e];lia
   ·exact hz i (by lia)
theorem Uh(a v:rW):argsOk "max" #[[a],[(bF "default",v)]]:=by unfold argsOk;kernel_rfl
theorem VS{E:rW->rX->Prop}{s:rX}{Q:rW->rX->Prop}(hh:A.handled=AL)(xs:Array rW)(val:Nat->Int)(hv:∀i v,xs[i]? = AK v->∃t,v=Value.int (val i) t)(hl:s.heap.IsList l xs)(d:rW)
  (h:∀v h' tk,(xs.size=0->v=d)->(0<xs.size->∃z t,v=Value.int z t/\∀i,i<xs.size->val i<=z)->(∀b o,s.heap.get? b=AK o->h'.get? b=AK o)->Q v { s with heap:=h',toks:=tk }) :
  rZ (model prog w) A (call (.builtin "max") [.ref l] [(bF "default",d)]) Q E s:=by
 have nm:(toString "max" ++ toString ".loop" : String)="max.loop":=by decide
 have hlt:l<s⁻¹:=by obtain⟨_,e,_⟩:=hl;exact aq e
 refine kmb_tree PySem.F.kind_max PySem.F.plain_max PySem.F.entry_max (Uh _ _) ?_;show rZ _ A.in1 (Builtin.Builtins.bindParams "max" ["key","default"] 0 #[[],[(bF "default",d)]] >>= _) _ _ s;refine rO (wpAny_of_eq (show Builtin.Builtins.bindParams "max" ["key","default"] 0 #[[],[(bF "default",d)]]=pure [AL,AK d]from rfl) (rO (rP ?_)));refine rO (tR hl (rO (Al ?_ (aD _))));rw[nm];refine rP #[plainId_quiet bG _,?_];have gI:(s.heap.push { cls:=.type "list_iterator",data:=.fields (List.toArray [.ref l,.int 0 0]) }).IsListIter s⁻¹ l 0:=#[_,aB _ rfl,rfl,rfl];have gl:=hl.push { cls:=.type "list_iterator",data:=.fields (List.toArray [.ref l,.int 0 0]) };have kp0:∀b o,s.heap.get? b=AK o->(s.heap.push { cls:=.type "list_iterator",data:=.fields (List.toArray [.ref l,.int 0 0]) }).get? b=AK o:=λb o q=>aa _ q;have hsz:(s.heap.push { cls:=.type "list_iterator",data:=.fields (List.toArray [.ref l,.int 0 0]) }).objs.size=s⁻¹+1:=bQ _ _;have hold:∀b o,s.heap.get? b=AK o->b<s⁻¹:=λb o q=>aq q;have hlI:l≠s⁻¹:=az hlt;generalize s.heap.push { cls:=.type "list_iterator",data:=.fields (List.toArray [.ref l,.int 0 0]) }=h1 at *;generalize hIe:s⁻¹=I at *;have W:=Walks.list (prog:=prog) (w:=w) (A:=A.in1) hh I l hlI xs;have gS:(h1.push { cls:=.type "list",data:=.seq ([]:List rW).toArray }).get? h1.objs.size=AK (sC "list" #[] 0):=aB _ rfl;have st0:=W.frame 0 _ (h1.push { cls:=.type "list",data:=.seq ([]:List rW).toArray }) #[gI,gl] λb _ o q=>aa _ q;have kp1:∀b o,s.heap.get? b=AK o->(h1.push { cls:=.type "list",data:=.seq ([]:List rW).toArray }).get? b=AK o:=λb o q=>aa _ (kp0 b o q);have hSI:h1.objs.size≠I:=by rw[hsz];exact Nat.succ_ne_self I
 have hSl:h1.objs.size≠l:=by rw[hsz];exact ce (cP hlt)
 have hSb:∀b o,s.heap.get? b=AK o->b≠I/\b≠h1.objs.size:=λb o q=>#[az (hold b o q),by rw[hsz];exact az (cP (hold b o q))];generalize h1.push { cls:=.type "list",data:=.seq ([]:List rW).toArray }=h2 at *;generalize h1.objs.size=S at *;refine tE (b:=Builtin.«max.loop») dj ?_;rw[Around.under_plainId (id:="max.loop") bG _];show rZ _ A.in1 (seqItems? (Value.ref S) >>= _) _ _ _;refine rO (sM (items:=#[]) gS rfl ?_);show rZ _ A.in1 (tryCatch (pyNext (Value.ref I)) _ >>= _) _ _ _;by_cases hz:xs.size=0
 ·refine rO (tH (W.done _ _ _ (by rw[hz];exact st0) λh' tk kp=>?_));show rZ _ A.in1 (rule _ >>= λ_=>_) _ _ _;refine rO (tV (rP ?_));exact h d h' tk (λ_=>rfl) (λq=>absurd q (by lia)) λb o q=>kp b o (by simpa using (hSb b o q).1) (kp1 b o q)
 ·refine rO (tH (W.item 0 _ _ _ (by lia) st0 λv h' tk hP st kp=>?_));obtain⟨t,rfl⟩:=hv 0 v hP;have hS':=kp S _ (by simpa using hSI) gS;show rZ _ A.in1 (updateSeq S (λ_=>(List.toArray [Value.int (val 0) t,Value.int (val 0) t])) >>= _) _ _ _;refine rO (tZ hS' rfl ?_);rw[nm]
  have st':=W.frame _ _ (h'.update S (Obj.mapSeq λ_=>(List.toArray [Value.int (val 0) t,Value.int (val 0) t]))) st λb hb o q=>by
   refine (aF _ _ (λe:S=b=>?_)).trans q;subst e;rcases AV.mp hb with e | e
   ·exact hSI e
   ·exact hSl (AW.mp e)
  refine rP #[plainId_quiet bG _,UP hh hlI hSI hSl xs val hv d _ 1 (val 0) t _ _ rfl (by lia) (λi hi=>?_) st'.1 st'.2 (get?_update_seq hS' _) λz' t' h'' tk'' a1 a2=>?_]
  ·have:i=0:=by lia
   rw[this];exact fL _
  ·exact h _ h'' tk'' (λq=>absurd q hz) (λ_=>#[z',t',rfl,a1]) λb o q=>a2 b o (hSb b o q).1 (hSb b o q).2 ((aF _ _ (Ne.symm (hSb b o q).2)).trans (kp b o (by simpa using (hSb b o q).1) (kp1 b o q)))
end
section
variable{X:Cx}{id:String}{x:si}{e:so}{es:List so}{kws:List AE}{ks:List si}{p pos:sY}{t tk:TA}
def K3(X:Cx)(id:String)(ks:List si)(r:List V->List V->Hp->VK->Prop):Prop :=
 ∀(AO:List (rV × sI)) (s:rX) (σ:L2.St) (H:Hp) (vs zs:List V) (us ws:List rW) (Q:VK),Inv X AO σ H s->Vals vs us->Vals zs ws->r vs zs H Q->rZ (model X.prog X.w) X.A (call (.builtin id) us (ks.zip ws)) (EP X AO σ Q) X.xe s
def zfR(r:List V->List V->Hp->VK->Prop)(t tk:TA):TE:=λσ H Q=>t σ H λvs H1=>tk σ H1 λzs H2=>r vs zs H2 Q
theorem V5{r:List V->List V->Hp->VK->Prop}(hc:K3 X id ks r)(hg:Gl X x)(hm:X.mg x=AL)(hv:sK x=AK (.builtin id))(ha:PA X (e::es) t)(hk:PK X kws tk)(hks:(sL pos (sv kws X.env)).filterMap (·.1)=ks:=by rfl)(hn:x≠"__name__":=by decide)(hdb:(x ==("__debug__" : si))=AN:=by decide)
  (he:sw pos (rR (e::es) X.env)=(AN,eval e X.env)::sw pos (rR es X.env):=by rfl) (hpl:(sw pos (rR (e::es) X.env)).any (·.1)=AN:=by rfl)
  (hall:(sL pos (sv kws X.env)).all (·.1.isSome)=AM:=by rfl) (hkw:(sL pos (sv kws X.env)).any (·.1.isNone)=AN:=by rfl):PE X (.Call (.Name x p) (e::es) kws pos) (zfR r t tk):=by
 intro AO s σ H Q I h;refine sE (wH I hg hm hv ?_ hn hdb);refine callWith_kw (thn (ha pos AO s σ H _ I h) λus s1 ⟨vs,H1,I1,r1,q1⟩=>thn (hk pos AO s1 σ H1 _ I1 q1) λws s2 ⟨zs,H2,I2,r2,q2⟩=>?_) he hpl hall hkw;rw[hks];exact hc AO s2 σ H2 vs zs us ws Q I2 r1 r2 q2
def zeE(K:rT):List V->List V->Hp->VK->Prop:=λvs zs H Q=>∃(a:rV) (ns:List Int) (d:Int),vs=[.ref a]/\zs=[.int d]/\SqL K H a (ns.map V.int)/\∀z:Int,(ns=[]->z=d)->(∀n ∈ ns,n<=z)->Q (.int z) H
theorem zd3(hc:X.calm=AM):K3 X "max" [bF "default"] (zeE X.K):=by
 intro AO s σ H vs zs us ws Q I r1 r2 h;obtain⟨a,ns,d,rfl,rfl,hS,q⟩:=h;obtain⟨u,rfl,ru⟩:=vn r1;cases ru;obtain⟨w',rfl,td,rfl⟩:=vn r2;obtain⟨its,rv,pl,hz⟩:=I.list hS;have hlen:=rv.length;rw[ag]at hlen
 have hat:∀(i:Nat) (v:rW),its.toArray[i]? = AK v->∃t,v=Value.int (ns.getD i 0) t:=λi v hi=>by
  have hi':its[i]? = AK v:=by simpa using hi
  have hil:=(AS.mp hi').1;obtain⟨u,hu,t,rfl⟩:=xD rv (j:=i) (x:=.int (ns.getD i 0)) (by rw[au,ae,ah (by lia)];rfl);rw[hi']at hu;cases hu;exact#[t,rfl]
 refine VS (I.ok.hd hc) its.toArray (λi=>ns.getD i 0) hat pl.isList (.int d td) λv h' tk h0 h1 kp=>?_;by_cases hn:ns=[]
 ·have:=h0 (by rw[ak,<- hlen,hn];rfl);subst this;exact#[.int d,H,I.kept kp,#[_,rfl],q d (λ_=>rfl) (λn hm=>by rw[hn]at hm;cases hm)]
 ·obtain⟨z,t,rfl,hzz⟩:=h1 (by rw[ak,<- hlen];exact Bg.mpr hn);refine#[.int z,H,I.kept kp,#[_,rfl],q z (λe=>absurd e hn) λn hm=>?_];obtain⟨i,hi,rfl⟩:=List.getElem_of_mem hm;have:=hzz i (by rw[ak,<- hlen];exact hi);rw[ae,ah hi]at this;exact this
end
end L3
namespace L3
section
variable{prog:sf}{w:sj}{A:sk}{R:Ah->rX->Prop}{I l S:rV}
end
section
variable{X:Cx}
end
end L3
namespace L3
section
variable{prog:sf}{w:sj}{A:sk}{R:Ah->rX->Prop}{I S:rV}{fp wr:List rV}{P:Nat->rW->Prop}{St:Nat->sq->Prop}
end
section
variable{X:Cx}
end
end L3
namespace L3
section
variable{X:Cx}{k j:Nat}{C:rV}{m:si}{ps:List si}{sp:Sp}{o e:so}{es:List so}{ta:TE}{t:TA}{apos pos p:sY}{x:si}{E:XK}
end
end L3
namespace L3
def zeN(y l:List Nat)(e:Nat):Prop:=e+y.length<=l.length/\(l.drop e).take y.length=y
noncomputable instance (y l:List Nat) (e:Nat):Decidable (zeN y l e):=by unfold zeN;infer_instance
noncomputable def zgu(y l:List Nat):Option (List Nat × List Nat):=((aK (l.length+1)).find? λe=>decide (zeN y l e)).map λe=>(l.take e,l.drop (e+y.length))
end L3
namespace L3
end L3
namespace L3
section
variable{X:Cx}
theorem kh{cn:si}{np hpos:sY}{b0:sr}{suite:List sr}{hs:List An}{D:rV}{th:TS}(hg:Gl X cn)(hm:X.mg cn=AK (.ref D))(hdb:(cn ==("__debug__" : si))=AN)(xc:ZK X.K D=AM)(hsu:∀e,PSs (Cx.suite X e) (b0::suite) th)
  {AO:List (rV × sI)} {s:rX} {σ:St} {H:Hp} {Dd:vq} {x C T:rV} {dx:Option rV} (I:Inv X AO σ H s) (hob:∃t cx kx,s.heap.get? x=AK (xog C dx t (.ref T) cx kx)) (hoT:∃oT ts,s.heap.get? T=AK oT/\oT.data=.fields ts/\3<ts.size) (fT:wg X AO H T)
  (hb:cK X.K (.ref C) (.ref D)=AK AM) (q:th Dd σ H):rZ (model X.prog X.w) X.A (handleBy (.ref x) X.env (.ExceptHandler (AK (.Name cn np)) AL (b0::suite) hpos::hs)) (SP X AO Dd) X.xe s:=by
 obtain⟨t,cx,kx,ob⟩:=hob;obtain⟨oT,ts,eT,dT,zT⟩:=hoT;have I':=Inv.suite I (.ref x);refine wpAny_handleBy_cons (codeAny_handlers_test (vA (X:=Cx.suite X (.ref x)) I' hg hm (zd5 I.kIn xc ob hb ?_) hdb)) (by intro q;cases q);refine codeAny_handlers_suite ?_;unfold setFlight;refine rO (sy ob rfl (x:=.ref T) rfl ?_);rw[if_pos (show (Value.ref T != Value.none)=AM from by simp)];refine sX eT dT zT ?_;obtain⟨f0,f1,f2,f3,f4,f5⟩:=fT
 have I2:Inv X AO σ H { s with heap:=s.heap.update T (Obj.mapFields (·.setIfInBounds 3 ((AL:Option rV).elim Value.none λf=>rawInt f))) } :=
  I.turned (t':=s.toks) (λb o hb e=>(aF _ _ (Ne.symm hb)).trans e) f0 f1 f3 f4 f5
 refine sV (thn (hsu _ AO _ σ H _ (Inv.suite I2 (.ref x)) q) λfl s4 q4=>?_)
 cases fl with
 | next =>
  obtain⟨σ4,H4,I4,n4⟩:=q4;exact#[_,_,Inv.unsuite I I4,n4]
 | brk =>
  obtain⟨σ4,H4,I4,n4⟩:=q4;exact#[_,_,Inv.unsuite I I4,n4]
 | cont =>
  obtain⟨σ4,H4,I4,n4⟩:=q4;exact#[_,_,Inv.unsuite I I4,n4]
 | ret v =>
  obtain⟨y,σ4,H4,I4,r4,n4⟩:=q4;exact#[y,_,_,Inv.unsuite I I4,r4,n4]
end
end L3
namespace L3
section
variable{X:Cx}
def zah(K:rT)(i:Nat)(D:rV)(te:TX)(th:TS):TS:=λDd σ H=>te σ H (λv H1=>Dd.nx (σ.set i (AK v)) H1) λcls dx H1=>∃C,cls=.ref C/\cK K (.ref C) (.ref D)=AK AM/\∀x,H1 x=AL->th Dd σ (upd H1 x (XT x C dx))
theorem KA{i:Nat}{y:si}{yp apos pos np hpos:sY}{e:so}{te:TX}{cn:si}{b0:sr}{suite:List sr}{hs:List An}{D:rV}{th:TS}
  (hN:X.N.Nodup) (hy:X.N[i]? = AK y) (hly:Loc X.env.scope y) (hf:X.fn y=AM\/X.env.scope.names.lookup y=AK .local) (hst:X.stack=X.env::X.outer/\X.env.frame=AK X.env.locals) (he:PEX X e te) (hg:Gl X cn) (hm:X.mg cn=AK (.ref D)) (xc:ZK X.K D=AM) (hsu:∀e,PSs (Cx.suite X e) (b0::suite) th) (hdb:(cn ==("__debug__" : si))=AN:=by decide) (hsw:swapsWith e (AK (.Name y yp)) apos.line X.env=pure AN:=by rfl) :
  PS X (.Try [.Assign [.Name y yp] e apos] (.ExceptHandler (AK (.Name cn np)) AL (b0::suite) hpos::hs) [] [] pos) (zah X.K i D te th):=by
 intro AO s σ H D I hq;refine AB (tw (Av (tm (he AO s σ H _ _ I hq) (λv s1 ⟨z,H1,I1,r1,q1⟩=>?_) λe s1 fl=>?_) hsw))
 ·exact Zn I1 hN hy hly r1 (λs2 I2=>tj (tj #[_,H1,I2,q1])) hf
 ·obtain⟨cx,kx,H1,x,C,t,dx,tb,rfl,I1,ob,tr,fx,fT,C',ec,hsb,q1⟩:=fl;cases ec;have fr:X.A.frames=AK (X.env::X.outer):=by rw[<- hst.1];exact I1.ok.frames
  have ff:s1.heap.FunFrames X.base (X.env::X.outer):=by rw[<- hst.1];exact I1.stack
  refine ky fr ff hst.2 hst.2 ob tr λh' T oT ts e1 nT oldT e2 d2 z2 k1 k2=>?_
  have fT':wg X AO H1 T:=by
   rcases oldT with z | z
   ·exact fT T z
   ·exact I1.fpOk z (I1.hok.fresh z)
  have tbs:∀b,tb=.ref b->H1 b=AL:=λb hb=>(fT b hb).1
  have nch:∀b o,s1.heap.get? b=AK o->b ∉ (x::T::tbL tb)->b≠x/\tb≠.ref b:=λb o _ hb=>by
   refine#[λz=>hb (by simp [z]),λz=>hb ?_];rw[z];simp [tbL]
  have un:Un (frs X.stack) (x::T::tbL tb) H1 H1 s1.heap h':=by
   rw[hst.1];refine#[λb o e n hb hc=>?_,λb o e n hb hc=>?_,λb o e n _=>n,λb o e hc=>?_,λb xs e=>e,λb o u e=>e,λb ps e=>#[#[],by rw[e];simp]]
   ·obtain⟨a1,a2⟩:=nch b o e hc;exact k1 b o a1 a2 hb e
   ·obtain⟨a1,a2⟩:=nch b o e hc;exact k2 b o a1 a2 e
   ·obtain⟨a1,a2⟩:=nch b o e hc;obtain⟨sl,q⟩:=k2 b o a1 a2 e;exact#[_,q]
  have hok:HOk X.prog X.w H1 h':=λb u e=>by
   refine (I1.hok b u e).stay (λc v hc q=>k1 c v ?_ ?_ ?_ q) (λ_ q=>q) λ_ _ q=>q
   ·rintro rfl;rcases hc with rfl | hc
    ·rw[fx.1]at e;cases e
    ·rw[fx.1]at hc;cases hc
   ·intro z;have:=tbs c z;rcases hc with rfl | hc
    ·rw[this]at e;cases e
    ·rw[this]at hc;cases hc
   ·intro z;rw[<- hst.1]at z;have:=I1.stkFree c z;rcases hc with rfl | hc
    ·rw[this]at e;cases e
    ·rw[this]at hc;cases hc
  have I2:Inv X AO σ H1 { s1 with heap:=h' }:=I1.call' (s':={ s1 with heap:=h' }) rfl un hok I1.bare λb hb=>by
   have fb:wg X AO H1 b:=by
    rcases AV.mp hb with z | z
    ·rw[z];exact fx
    ·rcases AV.mp z with z | z
     ·rw[z];exact fT'
     ·cases tb with
      | ref b' =>
       have:b=b':=by simpa [tbL] using z
       rw[this];exact fT b' rfl
      | _=>simp [tbL]at z
   obtain⟨_,a1,_,a3,a4,a5⟩:=fb;exact#[a3,a1,a4,a5]
  have I3:Inv X AO σ (upd H1 x (XT x C dx)) { s1 with heap:=h' }:=Inv.track I2 fx (zeo e1);exact kh hg hm hdb xc hsu I3 #[t,_,_,e1] #[oT,ts,e2,d2,z2] #[by rw[zm nT];exact fT'.1,fT'.2] hsb (q1 x fx.1)
end
end L3
namespace L3
section
variable{X:Cx}
def Qa(K:rT)(D:rV)(te:TX)(th:TS):TS:=λDd σ H=>te σ H (λz H1=>Dd.rt z H1) λcls dx H1=>∃C,cls=.ref C/\cK K (.ref C) (.ref D)=AK AM/\∀x,H1 x=AL->th Dd σ (upd H1 x (XT x C dx))
theorem WK{apos pos np hpos:sY}{e:so}{te:TX}{cn:si}{b0:sr}{suite:List sr}{hs:List An}{D:rV}{th:TS}
  (hst:X.stack=X.env::X.outer/\X.env.frame=AK X.env.locals) (he:PEX X e te) (hg:Gl X cn) (hm:X.mg cn=AK (.ref D)) (xc:ZK X.K D=AM) (hsu:∀e,PSs (Cx.suite X e) (b0::suite) th) (hdb:(cn ==("__debug__" : si))=AN:=by decide) :
  PS X (.Try [.Return (AK e) apos] (.ExceptHandler (AK (.Name cn np)) AL (b0::suite) hpos::hs) [] [] pos) (Qa X.K D te th):=by
 intro AO s σ H D I hq;refine AB (tw (Au (tm (he AO s σ H _ _ I hq) (λv s1 ⟨z,H1,I1,r1,q1⟩=>?_) λe s1 fl=>?_)))
 ·exact#[z,σ,H1,I1,r1,q1]
 ·obtain⟨cx,kx,H1,x,C,t,dx,tb,rfl,I1,ob,tr,fx,fT,C',ec,hsb,q1⟩:=fl;cases ec;have fr:X.A.frames=AK (X.env::X.outer):=by rw[<- hst.1];exact I1.ok.frames
  have ff:s1.heap.FunFrames X.base (X.env::X.outer):=by rw[<- hst.1];exact I1.stack
  refine ky fr ff hst.2 hst.2 ob tr λh' T oT ts e1 nT oldT e2 d2 z2 k1 k2=>?_
  have fT':wg X AO H1 T:=by
   rcases oldT with z | z
   ·exact fT T z
   ·exact I1.fpOk z (I1.hok.fresh z)
  have tbs:∀b,tb=.ref b->H1 b=AL:=λb hb=>(fT b hb).1
  have nch:∀b o,s1.heap.get? b=AK o->b ∉ (x::T::tbL tb)->b≠x/\tb≠.ref b:=λb o _ hb=>by
   refine#[λz=>hb (by simp [z]),λz=>hb ?_];rw[z];simp [tbL]
  have un:Un (frs X.stack) (x::T::tbL tb) H1 H1 s1.heap h':=by
   rw[hst.1];refine#[λb o e n hb hc=>?_,λb o e n hb hc=>?_,λb o e n _=>n,λb o e hc=>?_,λb xs e=>e,λb o u e=>e,λb ps e=>#[#[],by rw[e];simp]]
   ·obtain⟨a1,a2⟩:=nch b o e hc;exact k1 b o a1 a2 hb e
   ·obtain⟨a1,a2⟩:=nch b o e hc;exact k2 b o a1 a2 e
   ·obtain⟨a1,a2⟩:=nch b o e hc;obtain⟨sl,q⟩:=k2 b o a1 a2 e;exact#[_,q]
  have hok:HOk X.prog X.w H1 h':=λb u e=>by
   refine (I1.hok b u e).stay (λc v hc q=>k1 c v ?_ ?_ ?_ q) (λ_ q=>q) λ_ _ q=>q
   ·rintro rfl;rcases hc with rfl | hc
    ·rw[fx.1]at e;cases e
    ·rw[fx.1]at hc;cases hc
   ·intro z;have:=tbs c z;rcases hc with rfl | hc
    ·rw[this]at e;cases e
    ·rw[this]at hc;cases hc
   ·intro z;rw[<- hst.1]at z;have:=I1.stkFree c z;rcases hc with rfl | hc
    ·rw[this]at e;cases e
    ·rw[this]at hc;cases hc
  have I2:Inv X AO σ H1 { s1 with heap:=h' }:=I1.call' (s':={ s1 with heap:=h' }) rfl un hok I1.bare λb hb=>by
   have fb:wg X AO H1 b:=by
    rcases AV.mp hb with z | z
    ·rw[z];exact fx
    ·rcases AV.mp z with z | z
     ·rw[z];exact fT'
     ·cases tb with
      | ref b' =>
       have:b=b':=by simpa [tbL] using z
       rw[this];exact fT b' rfl
      | _=>simp [tbL]at z
   obtain⟨_,a1,_,a3,a4,a5⟩:=fb;exact#[a3,a1,a4,a5]
  have I3:Inv X AO σ (upd H1 x (XT x C dx)) { s1 with heap:=h' }:=Inv.track I2 fx (zeo e1);exact kh hg hm hdb xc hsu I3 #[t,_,_,e1] #[oT,ts,e2,d2,z2] #[by rw[zm nT];exact fT'.1,fT'.2] hsb (q1 x fx.1)
end
end L3
namespace L3
section
variable{X:Cx}
end
end L3
namespace L3
section
variable{X:Cx}
theorem UJ(bs:List Bool):(aK bs.length).any (λi=>bs.getD i AN)=bs.any id:=by
 induction bs with
 | nil=>rfl
 | cons b bs ih =>
  rw[aI,eU,List.any_cons,List.any_map,List.any_cons,<- ih];rfl
def zgi(K:rT):List V->Hp->VK->Prop:=λxs H Q=>∃(p:rV) (bs:List Bool),xs=[.ref p]/\SqL K H p (bs.map V.bl)/\Q (.bl (bs.any id)) H
theorem zeX(hc:X.calm=AM):vP X (.builtin "any") (zgi X.K):=by
 intro AO s σ H xs us Q I r h;obtain⟨p,bs,rfl,hS,q⟩:=h;obtain⟨u,rfl,ru⟩:=vn r;cases ru;obtain⟨its,rv,pl,hz⟩:=I.list hS
 have hlen:its.length=bs.length:=by
  have:=rv.length;rw[ag]at this;exact this.symm
 have hh:X.A.in1.handled=AL:=I.ok.hd hc
 have hne:p≠s⁻¹:=by
  obtain⟨o,n,e,_⟩:=pl;exact az (aq e)
 obtain⟨f0,f1,f2,f3,f4,f5⟩:=I.fpOk (H':=H) (al _) (I.hok.fresh (al _));have I1:=I.kept (t':=s.toks) (h':=s.heap.push { cls:=.type "list_iterator",data:=.fields (List.toArray [.ref p,.int 0 0]) }) λb o e=>aa _ e;refine call_any_walk (tR pl.isList ?_);refine#[s⁻¹,_,_,_,_,_,λi=>bs.getD i AN,rfl,Walks.list hh s⁻¹ p hne its.toArray,#[#[_,aB _ rfl,rfl,rfl],?_],?_,?_]
 ·obtain⟨o,n,e,c,d,dt⟩:=pl;exact#[o,aa _ e,c,n,dt]
 ·intro i v s' Q' E' hv hq;have:=WC rv (i:=i) (v:=v) (by simpa using hv);rw[this];exact sH hq
 ·intro h' tk hk
  have e:(aK its.toArray.size).any (λi=>bs.getD i AN)=bs.any id:=by
   rw[ak,hlen,UJ]
  rw[e];refine#[.bl _,H,?_,rfl,q];exact I1.turned (t':=tk) (it:=s⁻¹) (λb o hb q=>hk b o (by simpa using hb) q) f0 f1 f3 f4 f5
end
end L3
namespace L3
def CompEL(K:rT)(a:rV)(g:TG)(tt:TT)(te:TE)(own:Nat)(ix:List Nat)(σ:L2.St)(H1:Hp)(Q:VK)(D:rV):Prop:=Xw (Iel K a) g tt te own ix σ H1 Q D
theorem zc2{K:rT}{ta:TA}{g:TG}{tt:TT}{te:TE}{own:Nat}{ix:List Nat}{σ:L2.St}{H:Hp}{Q:VK}:jU (Uu K ta) g tt te own ix σ H Q=ta σ H λvs H1=>∃a,vs=[.ref a]/\(∃xs,SqL K H1 a xs)/\∀D,H1 D=AL->CompEL K a g tt te own ix σ H1 Q D:=rfl
section
variable{g:TG}{tt:TT}{te:TE}{own:Nat}{ix:List Nat}{σ:L2.St}{H1:Hp}{Q:VK}{D:rV}
theorem CompEL.by{K:rT}{a:rV}{xs:List V}(Pv:Nat->List V->Hp->Prop)(h0:Pv 0 [] (upd H1 D (.lst [])))(hl:∀i AR H',i<=xs.length->Pv i AR H'->SqL K H' a xs)
  (hs:∀i x AR H' p,xs[i]? = AK x->Pv i AR H'->H' p=AL->g (.ref p) (vt σ own ix) (upd H' p (.tup [.int (i:Nat),x])) λσ3 H3=>yW (vt σ own ix) σ3/\tt σ3 H3 λb H4=>if b=AM then
   te σ3 H4 λv H5=>H5 D=AK (.lst AR)/\AR.length<rS/\CNx xs.length i Pv (AR ++ [v]) (upd H5 D (.lst (AR ++ [v])))else CNx xs.length i Pv AR H4)
  (hd:∀AR H',Pv xs.length AR H'->Q (.ref D) H'):CompEL K a g tt te own ix σ H1 Q D:=by
 refine#[λi m AR H=>m=xs.length - i/\i<=xs.length/\Pv i AR H,#[xs.length,by simp,aD _,h0],?_];rintro i m AR H' ⟨rfl,hi,p⟩;have q:=hl i AR H' hi p;by_cases hlt:i<xs.length
 ·refine .inr #[#[xs,xs[i],q,by simp [hlt]],λv H2 y=>?_];obtain⟨p',x,hp,hx,ev,eH⟩:=y;subst ev eH;exact hs i x AR H' p' (hx xs q) p hp
 ·have e:i=xs.length:=by lia
  subst e;exact .inl #[#[xs,q,rfl],hd AR H' p]
end
end L3
namespace L3
section
variable{X:Cx}
end
end L3
namespace L3
open PySem PySem.W PyProof.Rows
noncomputable def zfK(lt:Nat->Nat->Bool){α:Type}:KasT α->α
 | .ret a=>a
 | .ask i j k=>zfK lt (k (lt i j))
def Kok(lt:Nat->Nat->Bool)(n:Nat){α:Type}:KasT α->(α->Prop)->Prop
 | .ret a,Q=>Q a
 | .ask i j k,Q=>i<n/\j<n/\Kok lt n (k (lt i j)) Q
section
variable{lt:Nat->Nat->Bool}{n:Nat}{α β:Type}
theorem Kok.mono{Q Q':α->Prop}(hq:∀a,Q a->Q' a):∀(t:KasT α),Kok lt n t Q->Kok lt n t Q'
 | .ret a,h=>hq a h
 | .ask _ _ k,h=>#[h.1,h.2.1,Kok.mono hq (k _) h.2.2]
theorem Kok.bind{f:α->KasT β}{Q:β->Prop}:∀(t:KasT α),Kok lt n t (λa=>Kok lt n (f a) Q)->Kok lt n (t.bind f) Q
 | .ret _,h=>h
 | .ask _ _ k,h=>#[h.1,h.2.1,Kok.bind (k _) h.2.2]
theorem Kok.run{Q:α->Prop}:∀(t:KasT α),Kok lt n t Q->Q (zfK lt t)
 | .ret _,h=>h
 | .ask _ _ k,h=>Kok.run (k _) h.2.2
theorem Kok.wp{cmp:Nat->Nat->(Bool->rX->Prop)->rX->Prop}{I:rX->Prop}(hc:∀i j C s,i<n->j<n->I s->(∀s',I s'->C (lt i j) s')->cmp i j C s){Q:α->Prop}{R:α->rX->Prop}
  (hR:∀a s,Q a->I s->R a s):∀(t:KasT α) (s:rX),I s->Kok lt n t Q->t.kasWp cmp R s
 | .ret a,s,hI,h=>hR a s h hI
 | .ask i j k,s,hI,h=>hc i j _ s h.1 h.2.1 hI λs' hI'=>Kok.wp hc hR (k _) s' hI' h.2.2
end
structure Wk(lt:Nat->Nat->Bool):Prop where
 asym:∀a b,lt a b=AM->lt b a=AN
 ntr:∀a b c,lt b a=AN->lt c b=AN->lt c a=AN
section
variable{lt:Nat->Nat->Bool}{n:Nat}
abbrev Lq(lt:Nat->Nat->Bool)(a b:Nat):Prop:=lt b a=AN
theorem Wk.refl(W:Wk lt)(a:Nat):Lq lt a a:=by
 cases h:lt a a with
 | false=>exact h
 | true=>exact absurd h (by rw[W.asym a a h];decide)
noncomputable abbrev pg(p:Array Nat)(i:Nat):Nat:=p.getD i 0
theorem W1(p:Array Nat)(i:Nat):pg p i=(p[i]?).getD 0:=by simp [pg,Array.getD_eq_getD_getElem?]
def Up(lt:Nat->Nat->Bool)(p:Array Nat)(m:Nat):Prop:=∀i j,i<j->j<m->Lq lt (pg p i) (pg p j)
def Dn(lt:Nat->Nat->Bool)(p:Array Nat)(m:Nat):Prop:=∀i j,i<j->j<m->Lq lt (pg p j) (pg p i)
def Rg(n:Nat)(p:Array Nat):Prop:=p.toList.Perm (aK n)
theorem Rg.size{p:Array Nat}(h:Rg n p):p.size=n:=by have:=h.length_eq;simpa using this
theorem Rg.bd{p:Array Nat}(h:Rg n p){i:Nat}(hi:i<n):pg p i<n:=by
 have hs:=h.size;have hi':i<p.size:=by lia
 have e:pg p i=p[i]:=by simp [pg,fm,hi']
 rw[e];have hm:p[i] ∈ p.toList:=Array.mem_toList_iff.mpr (Array.getElem_mem hi');exact AZ.mp (h.mem_iff.mp hm)
theorem vv{p:Array Nat}{i j:Nat}(hj:j<=p.size)(k:Nat):pg (kas_rev p i j) k=if i<=k/\k<j then pg p (i+j - 1 - k)else pg p k:=by
 rw[W1,kas_rev,getElem?_mirror_all hj];split <;> rw[W1]
theorem Rg.rev{p:Array Nat}(h:Rg n p)(i j:Nat):Rg n (kas_rev p i j):=(Array.perm_iff_toList_perm.mp (mirror_perm p i j _)).trans h
theorem Rg.bub{p:Array Nat}(h:Rg n p)(i j:Nat):Rg n (bubble p i j):=(Array.perm_iff_toList_perm.mp (bubble_perm p i j)).trans h
theorem US(W:Wk lt){p:Array Nat}(hp:Rg n p):∀(f k:Nat),1<=k->k+f<=n->Up lt p k->Kok lt n (kas_asc p f k) (λm=>k<=m/\m<=k+f/\Up lt p m/\(m=k+f\/lt (pg p m) (pg p (m - 1))=AM))
 | 0,k,h1,h2,hu=>#[by lia,by lia,hu,Or.inl (by lia)]
 | f+1,k,h1,h2,hu=>by
  refine#[hp.bd (by lia),hp.bd (by lia),?_];rcases ci (lt (pg p k) (pg p (k - 1)))with hc | hc
  ·show Kok lt n (if lt (pg p k) (pg p (k - 1))=AM then .ret k else _) _;rw[if_pos hc];exact#[by lia,by lia,hu,Or.inr hc]
  ·show Kok lt n (if lt (pg p k) (pg p (k - 1))=AM then .ret k else _) _;rw[if_neg (by rw[hc];decide)];refine (US W hp f (k+1) (by lia) (by lia) λi j hij hj=>?_).mono (λm hm=>#[by lia,by lia,hm.2.2.1,?_]) _
   ·by_cases e:j=k
    ·subst e;by_cases e2:i=j - 1
     ·subst e2;exact hc
     ·exact W.ntr _ _ _ (hu i (j - 1) (by lia) (by lia)) hc
    ·exact hu i j hij (by lia)
   ·rcases hm.2.2.2 with h | h
    ·exact Or.inl (by lia)
    ·exact Or.inr h
def Ev(lt:Nat->Nat->Bool)(p:Array Nat)(a b:Nat):Prop:=∀i j,a<=i->i<b->a<=j->j<b->Lq lt (pg p i) (pg p j)
theorem K6{p:Array Nat}{m q:Nat}(hm:m<=p.size)(hq:q+1<=m)(hd:Dn lt p m)(he:Ev lt p (m - (q+1)) m):Dn lt (kas_rev p (m - (q+1)) m) m:=by
 intro i j hij hj;rw[vv hm,vv hm];by_cases h1:m - (q+1)<=i
 ·rw[if_pos (show m - (q+1)<=i/\i<m by lia),if_pos (show m - (q+1)<=j/\j<m by lia)];exact he _ _ (by lia) (by lia) (by lia) (by lia)
 ·rw[if_neg (show ¬ (m - (q+1)<=i/\i<m) by lia)];split
  ·exact hd _ _ (by lia) (by lia)
  ·exact hd _ _ (by lia) (by lia)
theorem Zw(W:Wk lt):∀(f:Nat) (p:Array Nat) (k q:Nat),Rg n p->1<=k->k+f<=n->q+1<=k->Dn lt p k->Ev lt p (k - (q+1)) k ->
  Kok lt n (kas_desc f p k q) (λr=>Rg n r.1/\k<=r.2.1/\r.2.1<=k+f/\r.2.2+1<=r.2.1/\Dn lt r.1 r.2.1/\Ev lt r.1 (r.2.1 - (r.2.2+1)) r.2.1)
 | 0,p,k,q,hp,h1,h2,hq,hd,he=>#[hp,al _,cu _ _,hq,hd,he]
 | f+1,p,k,q,hp,h1,h2,hq,hd,he=>by
  have hps:=hp.size;refine#[hp.bd (by lia),hp.bd (by lia),?_]
  have one:∀(p:Array Nat),Ev lt p (k+1 - (0+1)) (k+1):=λp i j a b c d=>by
   have:i=j:=by lia
   subst this;exact W.refl _
  rcases ci (lt (pg p k) (pg p (k - 1)))with hc | hc
  ·show Kok lt n (if lt (pg p k) (pg p (k - 1))=AM then _ else _) _;rw[if_pos hc];have hle:Lq lt (pg p k) (pg p (k - 1)):=W.asym _ _ hc;split
   ·rename_i hq0;refine (Zw W f _ (k+1) 0 (hp.rev _ _) (by lia) (by lia) (by lia) (λi j hij hj=>?_) (one _)).mono (λr hr=>#[hr.1,by lia,by lia,hr.2.2.2]) _;by_cases e:j=k
    ·subst e;rw[vv (by lia),vv (by lia),if_neg (by lia)];split
     ·exact W.ntr _ _ _ hle (he _ _ (by lia) (by lia) (by lia) (by lia))
     ·exact W.ntr _ _ _ hle (hd _ _ (by lia) (by lia))
    ·exact K6 (by lia) hq hd he i j hij (by lia)
   ·refine (Zw W f _ (k+1) 0 hp (by lia) (by lia) (by lia) (λi j hij hj=>?_) (one _)).mono (λr hr=>#[hr.1,by lia,by lia,hr.2.2.2]) _;by_cases e:j=k
    ·subst e;by_cases e2:i=j - 1
     ·subst e2;exact hle
     ·exact W.ntr _ _ _ hle (hd i (j - 1) (by lia) (by lia))
    ·exact hd i j hij (by lia)
  ·show Kok lt n (if lt (pg p k) (pg p (k - 1))=AM then _ else _) _;rw[if_neg (by rw[hc];decide)];refine#[hp.bd (by lia),hp.bd (by lia),?_];rcases ci (lt (pg p (k - 1)) (pg p k))with hd2 | hd2
   ·show Kok lt n (if lt (pg p (k - 1)) (pg p k)=AM then _ else _) _;rw[if_pos hd2];exact#[hp,al _,cu _ _,hq,hd,he]
   ·show Kok lt n (if lt (pg p (k - 1)) (pg p k)=AM then _ else _) _;rw[if_neg (by rw[hd2];decide)];refine (Zw W f _ (k+1) (q+1) hp (by lia) (by lia) (by lia) (λi j hij hj=>?_) (λi j a b c d=>?_)).mono (λr hr=>#[hr.1,by lia,by lia,hr.2.2.2]) _
    ·by_cases e:j=k
     ·subst e;by_cases e2:i=j - 1
      ·subst e2;exact hd2
      ·exact W.ntr _ _ _ hd2 (hd i (j - 1) (by lia) (by lia))
     ·exact hd i j hij (by lia)
    ·have b1:∀i,k+1 - (q+1+1)<=i->i<k->Lq lt (pg p i) (pg p (k - 1))/\Lq lt (pg p (k - 1)) (pg p i):=λi a b=>#[he _ _ (by lia) (by lia) (by lia) (by lia),he _ _ (by lia) (by lia) (by lia) (by lia)];by_cases e:j=k
     ·subst e;by_cases e3:i=j
      ·subst e3;exact W.refl _
      ·exact W.ntr _ _ _ (b1 i (by lia) (by lia)).1 hc
     ·by_cases e3:i=k
      ·subst e3;exact W.ntr _ _ _ hd2 (b1 j (by lia) (by lia)).2
      ·exact he _ _ (by lia) (by lia) (by lia) (by lia)
theorem Xx(W:Wk lt){p:Array Nat}{m:Nat}(hp:Rg n p)(h1:1<=m)(hm:m<=n)(hd:Dn lt p m):Kok lt n (kas_tail3 m n p) (λr=>Rg n r.2/\1<=r.1/\r.1<=n/\Up lt r.2 r.1):=by
 have hps:=hp.size;unfold kas_tail3;refine Kok.bind _ ((US W (hp.rev 0 m) (n - m) m h1 (by lia) λi j hij hj=>?_).mono (λk hk=>#[hp.rev 0 m,by show 1<=k;lia,by show k<=n;lia,hk.2.2.1]) _);rw[vv (by lia),vv (by lia),if_pos (by lia),if_pos (by lia)];exact hd _ _ (by lia) (by lia)
theorem jw(W:Wk lt){p:Array Nat}{m:Nat}(hp:Rg n p)(h1:1<=m)(hm:m+1<=n)(hd:Dn lt p (m+1)):Kok lt n (kas_descPart m n p) (λr=>Rg n r.2/\1<=r.1/\r.1<=n/\Up lt r.2 r.1):=by
 unfold kas_descPart;refine Kok.bind _ ((Zw W (n - (m+1)) p (m+1) 0 hp (by lia) (by lia) (by lia) hd λi j a b c d=>?_).mono (λr hr=>?_) _)
 ·have:i=j:=by lia
  subst this;exact W.refl _
 ·obtain⟨r1,r2,r3,r4,r5,r6⟩:=hr;have hs:=r1.size
  (try dsimp only)
  split
  ·exact Xx W (r1.rev _ _) (by lia) (by lia) (K6 (by lia) r4 r5 r6)
  ·exact Xx W r1 (by lia) (by lia) r5
theorem Ku(W:Wk lt){p:Array Nat}(hp:Rg n p)(hn:1<=n):Kok lt n (kas_count n p) (λr=>Rg n r.2/\1<=r.1/\r.1<=n/\Up lt r.2 r.1):=by
 have hps:=hp.size;unfold kas_count;refine Kok.bind _ ((US W hp (n - 1) 1 (al _) (by lia) λi j hij hj=>by lia).mono (λm hm=>?_) _);obtain⟨m1,m2,mu,ms⟩:=hm;by_cases e:(m == n)=AM
 ·rw[if_pos e];exact#[hp,by show 1<=m;lia,by show m<=n;lia,mu]
 ·rw[if_neg e];have hne:m≠n:=λh=>e (by rw[h];exact beq_self_eq_true _)
  have hlt:lt (pg p m) (pg p (m - 1))=AM:=by
   rcases ms with h | h
   ·lia
   ·exact h
  have hle:Lq lt (pg p m) (pg p (m - 1)):=W.asym _ _ hlt;by_cases h1:m > 1
  ·rw[if_pos h1];refine#[hp.bd (by lia),hp.bd (by lia),?_];rcases ci (lt (pg p 0) (pg p (m - 1)))with hc | hc
   ·show Kok lt n (if lt (pg p 0) (pg p (m - 1))=AM then _ else _) _;rw[if_pos hc];exact#[hp,by show 1<=m;lia,by show m<=n;lia,mu]
   ·show Kok lt n (if lt (pg p 0) (pg p (m - 1))=AM then _ else _) _;rw[if_neg (by rw[hc];decide)]
    have u0:∀i,i<m->Lq lt (pg p 0) (pg p i):=λi hi=>by
     by_cases h:i=0
     ·subst h;exact W.refl _
     ·exact mu 0 i (by lia) hi
    have ul:∀i,i<m->Lq lt (pg p i) (pg p (m - 1)):=λi hi=>by
     by_cases h:i=m - 1
     ·subst h;exact W.refl _
     ·exact mu i (m - 1) (by lia) (by lia)
    have ev:∀i j,i<m->j<m->Lq lt (pg p i) (pg p j):=λi j hi hj=>W.ntr _ _ _ (ul i hi) (W.ntr _ _ _ hc (u0 j hj));refine jw W (hp.rev 0 m) (by lia) (by lia) λi j hij hj=>?_;by_cases h:j=m
    ·subst h;rw[vv (by lia),vv (by lia),if_neg (by lia),if_pos (by lia)];exact W.ntr _ _ _ hle (ev _ _ (by lia) (by lia))
    ·rw[vv (by lia),vv (by lia),if_pos (by lia),if_pos (by lia)];exact ev _ _ (by lia) (by lia)
  ·rw[if_neg h1];refine jw W hp (by lia) (by lia) λi j hij hj=>?_;have h0:i=m - 1:=by lia
   have h1:j=m:=by lia
   subst h0 h1;exact hle
theorem Zm(W:Wk lt){p:Array Nat}(hp:Rg n p){k:Nat}(hk:k<n)(hu:Up lt p k):∀(f l r:Nat),l<=r->r<=k->r - l<=f->(∀i,i<l->Lq lt (pg p i) (pg p k))->(∀i,r<=i->i<k->Lq lt (pg p k) (pg p i)) ->
  Kok lt n (kas_place p k f l r) (λm=>m<=k/\(∀i,i<m->Lq lt (pg p i) (pg p k))/\(∀i,m<=i->i<k->Lq lt (pg p k) (pg p i)))
 | 0,l,r,hl,hr,hf,h1,h2=>by
  have:l=r:=by lia
  subst this;exact#[hr,h1,h2]
 | f+1,l,r,hl,hr,hf,h1,h2=>by
  unfold kas_place;by_cases e:l ≥ r
  ·rw[if_pos e];have:l=r:=by lia
   subst this;exact#[hr,h1,h2]
  ·rw[if_neg e];refine#[hp.bd hk,hp.bd (by lia),?_];rcases ci (lt (pg p k) (pg p ((l+r) / 2)))with hc | hc
   ·show Kok lt n (if lt (pg p k) (pg p ((l+r) / 2))=AM then _ else _) _;rw[if_pos hc];refine Zm W hp hk hu f l ((l+r) / 2) (by lia) (by lia) (by lia) h1 λi hi hik=>?_;by_cases e2:i=(l+r) / 2
    ·subst e2;exact W.asym _ _ hc
    ·exact W.ntr _ _ _ (W.asym _ _ hc) (hu _ _ (by lia) hik)
   ·show Kok lt n (if lt (pg p k) (pg p ((l+r) / 2))=AM then _ else _) _;rw[if_neg (by rw[hc];decide)];refine Zm W hp hk hu f ((l+r) / 2+1) r (by lia) hr (by lia) (λi hi=>?_) h2;by_cases e2:i=(l+r) / 2
    ·subst e2;exact hc
    ·exact W.ntr _ _ _ (hu i ((l+r) / 2) (by lia) (by lia)) hc
theorem zax{p:Array Nat}{k l:Nat}(hk:k<p.size)(hl:l<=k)(i:Nat):pg (bubble p k (k - l)) i=if i=l then pg p k else if l<i/\i<=k then pg p (i - 1)else pg p i:=by
 have e:k - (k - l)=l:=by lia
 rw[W1,getElem?_bubble hk (k - l) (by lia),e];by_cases h:i=l
 ·rw[if_pos h,if_pos h];exact (W1 p k).symm
 ·rw[if_neg h,if_neg h];by_cases h':l<i/\i<=k
  ·rw[if_pos h',if_pos h'];exact (W1 p (i - 1)).symm
  ·rw[if_neg h',if_neg h'];exact (W1 p i).symm
theorem zaj(W:Wk lt):∀(f:Nat) (p:Array Nat) (k:Nat),Rg n p->k+f=n->Up lt p k->Kok lt n (kas_bin f p k) (λp'=>Rg n p'/\Up lt p' n)
 | 0,p,k,hp,hk,hu=>by
  have:k=n:=by lia
  subst this;exact#[hp,hu]
 | f+1,p,k,hp,hk,hu=>by
  have hps:=hp.size;refine Kok.bind _ ((Zm W hp (by lia) hu k 0 k (by lia) (by lia) (by lia) (λi hi=>by lia) (λi h1 h2=>by lia)).mono (λl hl=>?_) _);obtain⟨l1,l2,l3⟩:=hl;refine zaj W f _ (k+1) (hp.bub _ _) (by lia) λi j hij hj=>?_;rw[zax (by lia) l1,zax (by lia) l1];by_cases h1:i=l
  ·rw[if_pos h1,if_neg (by lia),if_pos (by lia)];exact l3 _ (by lia) (by lia)
  ·rw[if_neg h1];by_cases h2:j=l
   ·rw[if_pos h2,if_neg (by lia)];exact l2 _ (by lia)
   ·rw[if_neg h2];by_cases h3:l<i/\i<=k
    ·rw[if_pos h3,if_pos (by lia)];exact hu _ _ (by lia) (by lia)
    ·rw[if_neg h3];by_cases h4:l<j/\j<=k
     ·rw[if_pos h4];by_cases h5:i=j - 1
      ·lia
      ·exact hu _ _ (by lia) (by lia)
     ·rw[if_neg h4];exact hu _ _ (by lia) (by lia)
theorem za3(W:Wk lt)(hn:1<=n):Kok lt n (kas_sort n) (λp=>Rg n p/\Up lt p n):=by
 unfold kas_sort;refine Kok.bind _ ((Ku W (p:=ba (aK n)) (by unfold Rg;exact List.Perm.refl _) hn).mono (λr hr=>?_) _);obtain⟨r1,r2,r3,r4⟩:=hr
 (try dsimp only)
 split
 ·have:max r.1 1=r.1:=by lia
  rw[this];exact zaj W _ _ _ r1 (by lia) r4
 ·have:r.1=n:=by lia
  rw[this]at r4;exact#[r1,r4]
end
noncomputable def srt{α:Type}(lt:α->α->Bool)(d:α)(xs:List α):List α :=
 if xs.length<2 then xs else (zfK (λi j=>lt (xs.getD i d) (xs.getD j d)) (kas_sort xs.length)).toList.map λi=>xs.getD i d
structure WkO{α:Type}(lt:α->α->Bool):Prop where
 asym:∀a b,lt a b=AM->lt b a=AN
 ntr:∀a b c,lt b a=AN->lt c b=AN->lt c a=AN
end L3
namespace L3
structure KeyFam(α:Type) where
 dec:α->List D
 lt:α->α->Bool
 fst:Bool
 d0:α
structure KeyFam.Ok{α:Type}(F:KeyFam α):Prop where
 w:WkO F.lt
 eq:∀a b,ue (F.dec a) (F.dec b)=F.lt a b
 ok:∀a b,ZC (F.dec a) (F.dec b)
 dp:∀a,qm (F.dec a)<40
 sh:∀a,∃d r,F.dec a=d::r/\((F.fst=AM/\∃n,d=.int n)\/(F.fst=AN/\∃l,d=.tup l))
section
variable{X:Cx}{AO:List (rV × sI)}{σ:L2.St}{H:Hp}{s:rX}
theorem Inv.repin{b:rV}{o o':sI}{h':sq}(I:Inv X (AO ++ [(b,o)]) σ H s)(hs:X.s₀.heap.objs.size<=b)(hn:∀p ∈ X.pn ++ AO,p.1≠b)(sb:Heap.SameBut b s.heap h')(ho:h'.get? b=AK o')(hd:∀v,o'.data≠.cell v) :
  Inv X (AO ++ [(b,o')]) σ H { s with heap:=h' }:=by
 have I1:Inv X AO σ H s:=I.unpinned;obtain⟨p1,p2,p3,p4,p5⟩:=I.pin (b,o) (aC _ (aC _ (AW.mpr rfl)))
 have I2:Inv X AO σ H { s with heap:=h' }:=Inv.turns I1 (fp:=[b]) (t':=s.toks) (λb' u hb e=>(sb.2 b' (by simpa using hb)).trans e) λb' hb=>by
  have e:b'=b:=by simpa using hb
  subst e;refine#[p2,p3,p4,.inr hs,λx c e z=>?_,hn];obtain⟨v,o1,ho1,hd1⟩:=I.cell x c e;subst z;rw[p1]at ho1;cases ho1;exact p5 v hd1
 exact I2.pins_of λp hp=>by
  rcases AU.mp hp with z | z
  ·exact I2.pin p (aC _ z)
  ·have e:p=(b,o'):=by simpa using z
   subst e;exact#[ho,p2,p3,p4,hd]
theorem Inv.newpin{b:rV}{o:sI}(I:Inv X AO σ H s)(hf:wg X AO H b)(ho:s.heap.get? b=AK o)(hd:∀v,o.data≠.cell v):Inv X (AO ++ [(b,o)]) σ H s :=
 I.pins_of λp hp=>by
  rcases AU.mp hp with z | z
  ·exact I.pin p (aC _ z)
  ·have e:p=(b,o):=by simpa using z
   subst e;exact#[ho,hf.1,hf.2.1,hf.2.2.1,hd]
theorem zdc(I:Inv X AO σ H s){A:sk}{b:Bool}{Q:Bool->rX->Prop}(hu:A.units+50<cLine):∀(l m:List D) (xs ys:List V) (its its':List rW) (i:Nat),Iss X.K H l xs->Iss X.K H m ys->Vals xs its->Vals ys its'->ZC l m->qm l<40 ->
  (b=AM->i=0->(∃n r,l=.int n::r)/\∃n r,m=.int n::r)->Q (ue l m) s->PySem.W.KatLex X.prog X.w A b (decide (its.length<its'.length)) Q (its.zip its') i s
 | [],m,xs,ys,its,its',i,h1,h2,r1,r2,ok,hd,hb,q=>by
  simp only[Iss]at h1;subst h1;cases r1
  have e:ue [] m=decide (([]:List rW).length<its'.length):=by
   have e1:=h2.len;have e2:=r2.length;have e3:m.length=its'.length:=by lia
   rw[<- e3]
   cases m with
   | nil=>simp [ue]
   | cons _ _=>simp [ue]
  rw[e]at q;rw[List.zip_nil_left];exact fV q
 | d::l,[],xs,ys,its,its',i,h1,h2,r1,r2,ok,hd,hb,q=>by
  simp only[Iss]at h2;subst h2;cases r2;simp only[ue]at q;rw[List.zip_nil_right];exact fV (by simpa using q)
 | d::l,e::m,xs,ys,its,its',i,h1,h2,r1,r2,ok,hd,hb,q=>by
  simp only[Iss]at h1 h2;obtain⟨x,xr,rfl,hx,hxr⟩:=h1;obtain⟨y,yr,rfl,hy,hyr⟩:=h2
  cases r1 with | cons rx rxr =>
  cases r2 with | cons ry ryr =>
  simp only[ZC]at ok;simp only[qm]at hd;rename_i u us v vs;rw[df];refine PySem.W.kat_cons (Z5 I 45 A d e x y u v (by lia) (by lia) hx hy rx ry X.prog X.w _ _ ?_)
  cases he:eqD d e with
  | true =>
   refine PySem.W.kat_yes ?_;have:=zdc I (b:=b) hu l m xr yr us vs (i+1) hxr hyr rxr ryr ok.2 (by lia) (λ_ z=>absurd z (by lia)) (by simpa only[ue,he,if_true] using q);simpa using this
  | false =>
   refine PySem.W.kat_no ?_;have q':Q (ltD d e) s:=by simpa only[ue,he,bC,if_false] using q
   by_cases hbi:(b && i == 0)=AM
   ·rw[hbi];simp only[bV,beq_iff_eq]at hbi;obtain⟨⟨n,r,e1⟩,n',r',e2⟩:=hb hbi.1 hbi.2;cases e1;cases e2;simp only[Is]at hx hy;subst hx hy;obtain⟨t,rfl⟩:=rx;obtain⟨t',rfl⟩:=ry;simp only[ltD]at q';exact oneLt_int q'
   ·rw[show (b && i == 0)=AN by simpa using hbi];exact PySem.W.kat_one _ _ (zaJ I 45 A d e x y u v (by lia) (by lia) ok.1 hx hy rx ry X.prog X.w _ _ q')
theorem zbM(I:Inv X AO σ H s){A:sk}{b:Bool}{Q:Bool->rX->Prop}{E:rW->rX->Prop}(hu:A.units+50<cLine){l m:List D}{x y:V}{u v:rW}(hx:Is X.K H (.tup l) x)(hy:Is X.K H (.tup m) y)(rx:RelV x u)(ry:RelV y v)
  (ok:ZC l m) (hd:qm l<40) (hb:b=AM->(∃n r,l=.int n::r)/\∃n r,m=.int n::r) (q:Q (ue l m) s):rZ (model X.prog X.w) A (keyLt' (tuples' b) u v) Q E s:=by
 simp only[Is]at hx hy;obtain⟨a,xs,rfl,h1,h2⟩:=hx;obtain⟨c,ys,rfl,g1,g2⟩:=hy;cases rx;cases ry;obtain⟨its,r,⟨o,ho,hoc,n,hod⟩,_⟩:=I.tuple h1;obtain⟨its',r',⟨o',ho',hoc',n',hod'⟩,_⟩:=I.tuple g1;refine PySem.W.kat_lt ho hod ho' hod' ?_;have:=zdc I (A:=A) (b:=b) (Q:=Q) hu l m xs ys its its' 0 h2 g2 r r' ok hd (λz _=>hb z) q;simpa using this
theorem zaq{α:Type}{F:KeyFam α}(FO:F.Ok)(I:Inv X AO σ H s){M:Aw}:∀(rs:List α) (AR:List V) (ks:List rW),Iss X.K H (rs.map λa=>.tup (F.dec a)) AR->Vals AR ks ->
  ∃fs,PySem.W.KatTups s.heap ks fs/\fs.length=rs.length/\∀v ∈ fs,PySem.W.Looks M s.heap (typeOf v) (.type (if F.fst=AM then "int" else "tuple"))
 | [],AR,ks,h,r=>by
  simp only[aL,Iss]at h;subst h;cases r;exact#[[],PySem.W.KatTups.nil,rfl,λv hv=>by cases hv]
 | a::rs,AR,ks,h,r=>by
  simp only[ar,Iss]at h;obtain⟨x,xr,rfl,hx,hxr⟩:=h
  cases r with | cons rx rxr =>
  rename_i u us;obtain⟨fs,t1,t2,t3⟩:=zaq FO I (M:=M) rs xr us hxr rxr;simp only[Is]at hx;obtain⟨c,xs,rfl,h1,h2⟩:=hx;cases rx;obtain⟨its,ri,⟨o,ho,hoc,n,hod⟩,_⟩:=I.tuple h1;obtain⟨d,dr,ed,hsh⟩:=FO.sh a;rw[ed]at h2;simp only[Iss]at h2;obtain⟨y,yr,rfl,hy,_⟩:=h2
  cases ri with | cons ry rir =>
  rename_i v vs;refine#[v::fs,PySem.W.KatTups.cons ho hoc hod (by simp) t1,by simp [t2],λz hz=>?_];rcases AV.mp hz with e | hz
  ·subst e;rcases hsh with ⟨hf,n',rfl⟩ | ⟨hf,l,rfl⟩
   ·rw[if_pos hf];simp only[Is]at hy;subst hy;obtain⟨t,rfl⟩:=ry;exact PySem.W.Looks.of_pure rfl
   ·rw[if_neg (by rw[hf];decide)];simp only[Is]at hy;obtain⟨c',xs',rfl,g1,_⟩:=hy;cases ry;obtain⟨its',ri',⟨o',ho',hoc',n',hod'⟩,_⟩:=I.tuple g1;rw[<- hoc'];exact (PySem.W.Looks.ld ho').andThen .now
  ·exact t3 z hz
end
def WX{α:Type}(K:rT)(F:KeyFam α)(xs:List V)(Q:VK):List V->Hp->Prop:=λAR H'=>∃rs:List α,Iss K H' (rs.map λa=>.tup (F.dec a)) AR /\
 ∀ys:List (α × V),ys.Perm (rs.zip xs)->ys.Pairwise (λp q=>F.lt q.1 p.1=AN)->∀D,H' D=AL->Q (.ref D) (upd H' D (.lst (ys.map (·.2))))
theorem Jd{β:Type}{g:β->β->Bool}{d:β}{zs:List β}{p:Array Nat}(h1:Rg zs.length p)(h2:Up (λi j=>g (zs.getD i d) (zs.getD j d)) p zs.length) :
  (p.toList.map λi=>zs.getD i d).Perm zs/\(p.toList.map λi=>zs.getD i d).Pairwise λa b=>g b a=AN:=by
 have e:(aK zs.length).map (λi=>zs.getD i d)=zs:=by
  refine List.ext_getElem (by simp) λi a b=>?_;have hb:i<zs.length:=by simpa using b
  simp [hb]
 refine#[(h1.map (λi=>zs.getD i d)).trans (by rw[e]),?_];rw[List.pairwise_map,List.pairwise_iff_getElem];intro i j hi hj hij;have hs:=h1.size;have hi':i<p.size:=by simpa using hi
 have hj':j<p.size:=by simpa using hj
 have q:=h2 i j hij (by lia);have ei:pg p i=p.toList[i]:=by simp [pg,fm,hi']
 have ej:pg p j=p.toList[j]:=by simp [pg,fm,hj']
 rw[ei,ej]at q;exact q
end L3
namespace L3
section
variable{X:Cx}{AO:List (rV × sI)}{σ:L2.St}{H:Hp}{s:rX}
theorem Inv.fp_of_pin{b:rV}{o:sI}(I:Inv X (AO ++ [(b,o)]) σ H s)(hs:X.s₀.heap.objs.size<=b)(hn:∀p ∈ X.pn ++ AO,p.1≠b):wg X AO H b:=by
 obtain⟨p1,p2,p3,p4,p5⟩:=I.pin (b,o) (aC _ (aC _ (AW.mpr rfl)));refine#[p2,p3,p4,.inr hs,λx c e z=>?_,hn];obtain⟨v,o1,ho1,hd1⟩:=I.cell x c e;subst z;rw[p1]at ho1;cases ho1;exact p5 v hd1
theorem Inv.at_pin{b:rV}{o:sI}(I:Inv X (AO ++ [(b,o)]) σ H s):s.heap.get? b=AK o:=(I.pin (b,o) (aC _ (aC _ (AW.mpr rfl)))).1
theorem xQ{c:String}{xs:Array rW}{n:Nat}:∀v,(sC c xs n).data≠.cell v:=λv z=>by cases z
theorem zar{D kS:rV}{e e1:Nat}{st:SortSt}{ks out:List rW}{A:sk}{E:rW->rX->Prop}{P:PySem.Fin->rX->Prop}(I:Inv X ((AO ++ [(D,sC "list" #[] e1)]) ++ [(kS,sC "list" (ba ks) e)]) σ H s)
  (hD:X.s₀.heap.objs.size<=D) (hK:X.s₀.heap.objs.size<=kS) (nD:∀p ∈ X.pn ++ AO,p.1≠D) (nK:∀p ∈ X.pn ++ (AO ++ [(D,sC "list" #[] e1)]),p.1≠kS) (hkz:ks.length<64)
  (hout:(arrOf st).map (·.2)=ba out) (hoz:out.length<64) (hf:failedOf st=AL) (h:∀s' c,Inv X (AO ++ [(D,sC "list" (ba out) c)]) σ H s'->P (.done (.ret .none)) s') :
  rZ (model X.prog X.w) A (ksk_tail D AN e1 (.ref kS) st) P E s:=by
 have pk:=Inv.at_pin I;have s1:=Heap.SameBut.update s.heap kS (Obj.mapSeq λ_=>(#[]:Array rW));obtain⟨ck,hck⟩:∃ck,(s.heap.update kS (Obj.mapSeq λ_=>(#[]:Array rW))).get? kS=AK (sC "list" #[] ck):=#[_,get?_update_seq pk λ_=>#[]];have I2:=(Inv.repin I hK nK s1 hck xQ).unpinned;have pd:=Inv.at_pin I2;have s2:=Heap.SameBut.update (s.heap.update kS (Obj.mapSeq λ_=>(#[]:Array rW))) D (Obj.mapSeq λ_=>ba out);obtain⟨c2,hc2⟩:∃c2,((s.heap.update kS (Obj.mapSeq λ_=>(#[]:Array rW))).update D (Obj.mapSeq λ_=>ba out)).get? D=AK (sC "list" (ba out) c2):=#[_,get?_update_seq pd λ_=>ba out];have I3:=Inv.repin I2 hD nD s2 hc2 xQ;unfold ksk_tail
 (try dsimp only)
 rw[hout];refine rO (listUpdate_at pk rfl ?_ (by rw[ak,sF];lia) (aD _));refine rO (tF ?_);refine rO (seqEpoch_at pd rfl ?_);refine rO (listUpdate_at pd rfl ?_ (aD _) (by simp only[bC,if_false];rw[ak,sF];lia));rw[hf];simp only[bne_self_eq_false,bC,if_false];exact rP (h _ c2 I3)
theorem zeD{α:Type}{F:KeyFam α}(FO:F.Ok){D kS:rV}{e e1:Nat}{ks its:List rW}{AR xs:List V}{rs:List α}{A:sk}{E:rW->rX->Prop}{P:PySem.Fin->rX->Prop}(hu:A.units+50<cLine)
  (I:Inv X ((AO ++ [(D,sC "list" #[] e1)]) ++ [(kS,sC "list" (ba ks) e)]) σ H s)
  (hD:X.s₀.heap.objs.size<=D) (hK:X.s₀.heap.objs.size<=kS) (nD:∀p ∈ X.pn ++ AO,p.1≠D) (nK:∀p ∈ X.pn ++ (AO ++ [(D,sC "list" #[] e1)]),p.1≠kS)
  (rk:Vals AR ks) (rv:Vals xs its) (hl:ks.length=its.length) (hz:its.length<64) (hR:Iss X.K H (rs.map λa=>.tup (F.dec a)) AR)
  (h:∀s' (ys:List (α × V)) (out:List rW) c,ys.Perm (rs.zip xs)->ys.Pairwise (λp q=>F.lt q.1 p.1=AN)->Vals (ys.map (·.2)) out->out.length<64->Inv X (AO ++ [(D,sC "list" (ba out) c)]) σ H s'->P (.done (.ret .none)) s') :
  rZ (model X.prog X.w) A (ksk_end D AN its.toArray e1 (.ref kS) (ba ks)) P E s:=by
 have L1:=hR.len;have L2:=rk.length;have L3:=rv.length;rw[ag]at L1;have lz:(rs.zip xs).length=its.length:=by rw[List.length_zip];lia
 unfold ksk_end;simp only[bC,if_false];by_cases h2:its.toArray.size<2
 ·rw[if_pos h2,if_pos h2];refine rO (rP ?_);rw[StateT.run_pure];refine rO (rP ?_)
  (try dsimp only)
  refine zar (out:=its) I hD hK nD nK (by lia) ?_ hz rfl λs' c I'=>h s' (rs.zip xs) its c (List.Perm.refl _) ?_ ?_ hz I'
  ·show ((ba ks).zip its.toArray).map (·.2)=_;apply Array.toList_inj.mp;rw[Array.toList_map,ksk_zip];exact List.map_snd_zip (by simp;lia)
  ·rw[ak]at h2
   match rs.zip xs,lz with
   | [],_=>exact List.Pairwise.nil
   | [a],_=>exact eM _ _
   | _::_::_,lz=>exact absurd lz (by simp only[aI];lia)
  ·rw[List.map_snd_zip (by lia)];exact rv
 ·rw[if_neg h2,if_neg h2];rw[ak]at h2;obtain⟨fs,t1,t2,t3⟩:=zaq FO I (M:=model X.prog X.w) rs AR ks hR rk;refine rO (PySem.W.kat_kind t1 (by lia) t3 (by simp) ?_)
  have hfst:((Value.type (if F.fst=AM then "int" else "tuple"):rW) != Value.type "tuple")=F.fst:=by
   cases hF:F.fst with
   | true=>rfl
   | false=>rfl
  rw[hfst];have W:Wk (λi j=>F.lt (rs.getD i F.d0) (rs.getD j F.d0)):=#[λa b=>FO.w.asym _ _,λa b c=>FO.w.ntr _ _ _];have ok:=za3 (n:=its.length) W (by lia)
  have lt_eq:(λi j=>F.lt (rs.getD i F.d0) (rs.getD j F.d0))=(λi j=>(λ(p q:α × V)=>F.lt p.1 q.1) ((rs.zip xs).getD i (F.d0,.non)) ((rs.zip xs).getD j (F.d0,.non))):=by
   have one:∀i,((rs.zip xs).getD i (F.d0,V.non)).1=rs.getD i F.d0:=λi=>by
    by_cases hi:i<its.length
    ·have a1:i<rs.length:=by lia
     have a2:i<xs.length:=by lia
     rw[ae,ae,ah (by lia),ah a1];simp
    ·rw[ae,ae,be (by lia),be (by lia)];rfl
   funext i j;simp only[one]
  have wp:=Kok.wp (n:=its.length) (cmp:=fW X.prog X.w A (tuples' F.fst) ks) (I:=λs'=>Inv X ((AO ++ [(D,sC "list" #[] e1)]) ++ [(kS,sC "list" (ba ks) e)]) σ H s')
   (R:=λp s'=>(Rg its.length p/\Up (λi j=>F.lt (rs.getD i F.d0) (rs.getD j F.d0)) p its.length)/\Inv X ((AO ++ [(D,sC "list" #[] e1)]) ++ [(kS,sC "list" (ba ks) e)]) σ H s')
   (λi j C s' hi hj I' hC=>?_) (λp s' hp I'=>#[hp,I']) _ s I ok
  ·have run:=PySem.W.kat_run (E:=E) (vs:=its) (ks:=ks) (Q:=λst' s'=>∃p:Array Nat,p.size=its.length/\arrOf st'=p.map (PySem.W.kas_item (ks.toArray.zip its.toArray))/\failedOf st'=AL/\_) hl (by lia) hz (λp' st' s' a1 a2 a3 a4=>#[p',a1,a2,a3,a4]) wp;refine rO (tm run ?_ λ_ _ e=>e);rintro⟨⟨⟩,st'⟩ s' ⟨p,hp,har,hf,⟨hR1,hU⟩,I'⟩
   (try dsimp only)
   have hout:=PySem.W.kat_snds (ks:=ks) (vs:=its) hl har;have hR2:Rg (rs.zip xs).length p:=by rw[lz];exact hR1
   rw[lt_eq,<- lz]at hU;obtain⟨g1,g2⟩:=Jd (g:=λ(p q:α × V)=>F.lt p.1 q.1) hR2 hU;have olen:(p.toList.map λi=>its.getD i Value.none).length=its.length:=by rw[ag,dJ,hp]
   refine zar (out:=p.toList.map λi=>its.getD i Value.none) I' hD hK nD nK (by lia) hout (by lia) hf λs2 c I2=>h s2 _ _ c g1 g2 ?_ (by lia) I2;rw[dA]
   have all:∀(js:List Nat),(∀j ∈ js,j<its.length)->Vals (js.map ((λx:α × V=>x.2) ∘ λi=>(rs.zip xs).getD i (F.d0,.non))) (js.map λi=>its.getD i Value.none):=by
    intro js
    induction js with
    | nil=>intro _;exact .nil
    | cons j js ih =>
     intro hj;refine .cons ?_ (ih λi hi=>hj i (am _ hi));have hjl:=hj j ax;have a1:j<xs.length:=by lia
     obtain⟨u,hu1,ru⟩:=xD rv (j:=j) (x:=xs[j]) (ah a1)
     have e1:((rs.zip xs).getD j (F.d0,V.non)).2=xs[j]:=by
      rw[ae,ah (by lia)];simp
     have e2:its.getD j Value.none=u:=by rw[ae,hu1];rfl
     show RelV ((rs.zip xs).getD j (F.d0,V.non)).2 (its.getD j Value.none);rw[e1,e2];exact ru
   exact all p.toList λj hj=>AZ.mp (hR1.mem_iff.mp hj)
  ·have a1:i<rs.length:=by lia
   have a2:j<rs.length:=by lia
   have gi:(rs.map λa=>_root_.L3.D.tup (F.dec a))[i]? = AK (.tup (F.dec rs[i])):=by rw[au,ah a1];rfl
   have gj:(rs.map λa=>_root_.L3.D.tup (F.dec a))[j]? = AK (.tup (F.dec rs[j])):=by rw[au,ah a2];rfl
   obtain⟨x,hx,ix⟩:=hR.at gi;obtain⟨y,hy,iy⟩:=hR.at gj;obtain⟨u,hu1,ru⟩:=xD rk hx;obtain⟨v,hv1,rv1⟩:=xD rk hy;have e1:ks.getD i Value.none=u:=by rw[ae,hu1];rfl
   have e2:ks.getD j Value.none=v:=by rw[ae,hv1];rfl
   have e3:rs.getD i F.d0=rs[i]:=by rw[ae,ah a1];rfl
   have e4:rs.getD j F.d0=rs[j]:=by rw[ae,ah a2];rfl
   unfold fW;rw[e1,e2];refine zbM I' hu ix iy ru rv1 (FO.ok _ _) (FO.dp _) (λhb=>?_) ?_
   ·obtain⟨d,r,ed,hd⟩:=FO.sh rs[i];obtain⟨d',r',ed',hd'⟩:=FO.sh rs[j];rcases hd with ⟨_,n,rfl⟩ | ⟨z,_⟩
    ·rcases hd' with ⟨_,n',rfl⟩ | ⟨z,_⟩
     ·exact#[#[n,r,ed],n',r',ed']
     ·rw[hb]at z;cases z
    ·rw[hb]at z;cases z
   ·rw[FO.eq,<- e3,<- e4];exact hC s' I'
end
end L3
namespace L3
def uV(kc:V->Hp->VK->Prop):List V->List V->Hp->(List V->Hp->Prop)->Prop
 | [],AR,H,Q=>Q AR H
 | x::xs,AR,H,Q=>kc x H (λk H'=>uV kc xs (AR ++ [k]) H' Q)
section
variable{X:Cx}{AO:List (rV × sI)}{σ:L2.St}{H:Hp}{s:rX}
theorem zcm{α:Type}{F:KeyFam α}(FO:F.Ok){k:Nat}{q:rV}{kc:V->Hp->VK->Prop}(hr:Room (k+2) X.A)
  (hkc:∀(pins':List (rV × sI)) (s:rX) (H:Hp) (x:V) (u:rW) (Q:VK),Inv X pins' σ H s->RelV x u->kc x H Q->rZ (model X.prog X.w) X.A.in1.in1 (call (.ref q) [u]) (EP X pins' σ Q) (λ_ _=>False) s)
  {D kS:rV} {e1:Nat} {its:List rW} {xs:List V} {E:rW->rX->Prop} {P:PySem.Fin->rX->Prop} {Q:VK}
  (I:Inv X ((AO ++ [(D,sC "list" #[] e1)]) ++ [(kS,sC "list" #[] 0)]) σ H s)
  (hD:X.s₀.heap.objs.size<=D) (hK:X.s₀.heap.objs.size<=kS) (nD:∀p ∈ X.pn ++ AO,p.1≠D) (nK:∀p ∈ X.pn ++ (AO ++ [(D,sC "list" #[] e1)]),p.1≠kS)
  (rv:Vals xs its) (hz:its.length<64)
  (ht:uV kc xs [] H (WX X.K F xs Q))
  (hP:∀s',EP X AO σ Q (.ref D) s'->P (.done (.ret .none)) s') :
  rZ (model X.prog X.w) X.A.in1.in1 (ksk_rest D (.ref q) AN its.toArray e1 (.ref kS)) P E s:=by
 unfold ksk_rest;refine rO (tV ?_);rw[List.forIn_toArray]
 refine rO (ksk_fold (λj s'=>∃AR ks e H',Inv X ((AO ++ [(D,sC "list" #[] e1)]) ++ [(kS,sC "list" (ba ks) e)]) σ H' s'/\Vals AR ks/\ks.length=j/\uV kc (xs.drop j) AR H' (WX X.K F xs Q))
  its 0 s #[[],[],0,H,I,.nil,rfl,ht] (λj x s1 hx hJ=>?_) λs1 hJ=>?_)
 ·obtain⟨AR,ks,e,H1,I1,rk,hkl,tk⟩:=hJ;rw[dB]at hkl tk;have hjl:j<its.length:=(AS.mp hx).1;have L3:=rv.length;obtain⟨u,hu,ru⟩:=xD rv (j:=j) (x:=xs[j]) (ah (by lia));rw[hx]at hu;cases hu;rw[aS (by lia)]at tk;refine rO (tK (tm (hkc _ _ _ _ _ _ I1 ru tk) (λkv s2 hk=>?_) λ_ _ z=>z.elim));obtain⟨v,H2,I2,rv2,tk2⟩:=hk;have pk:=Inv.at_pin I2;have sb:=Heap.SameBut.update s2.heap kS (Obj.mapSeq (·.push kv));have ea:(ba ks).push kv=ba (ks ++ [kv]):=by simp
  obtain⟨c2,hc2⟩:∃c2,(s2.heap.update kS (Obj.mapSeq (·.push kv))).get? kS=AK (sC "list" (ba (ks ++ [kv])) c2):=#[_,by rw[<- ea];exact get?_update_seq pk (·.push kv)];have I3:=Inv.repin I2 hK nK sb hc2 xQ
  (try dsimp only)
  refine rO (listUpdate_at pk rfl ?_ (by rw[ak,sF];lia) (by rw[Array.size_push,ak,sF];lia));refine rP #[rfl,AR ++ [v],ks ++ [kv],c2,H2,I3,rk.append (.cons rv2 .nil),by rw[aj,du,hkl];lia,?_];rw[dB];exact tk2
 ·obtain⟨AR,ks,e,H1,I1,rk,hkl,tk⟩:=hJ;rw[dB]at hkl tk;have L3:=rv.length;rw[<- L3,eC]at tk;obtain⟨rs,hR,hq⟩:=tk
  (try dsimp only)
  refine rO (listItems_at (Inv.at_pin I1) rfl ?_);refine zeD FO (by have:=hr.in1.in1.un;lia) I1 hD hK nD nK rk rv hkl hz hR λs' ys out c p1 p2 p3 p4 I'=>hP s' ?_;have fp:=Inv.fp_of_pin I' hD nD;refine#[.ref D,_,Inv.track I'.unpinned (a:=D) (o:=.lst (ys.map (·.2))) fp #[?_,out,c,p3,Inv.at_pin I'],rfl,hq ys p1 p2 D fp.1];rw[p3.length,sF];lia
theorem Ql{α:Type}{F:KeyFam α}(FO:F.Ok){k:Nat}{q l:rV}{xs:List V}{kc:V->Hp->VK->Prop}{Q:VK}(hr:Room (k+2) X.A)
  (hkc:∀(pins':List (rV × sI)) (s:rX) (H:Hp) (x:V) (u:rW) (Q:VK),Inv X pins' σ H s->RelV x u->kc x H Q->rZ (model X.prog X.w) X.A.in1.in1 (call (.ref q) [u]) (EP X pins' σ Q) (λ_ _=>False) s)
  (I:Inv X AO σ H s) (hS:SqL X.K H l xs) (hz:xs.length<64) (ht:uV kc xs [] H (WX X.K F xs Q)) :
  rZ (model X.prog X.w) X.A (call (.builtin "sorted") [.ref l] [(bF "key",.ref q)]) (EP X AO σ Q) X.xe s:=by
 obtain⟨its,rv,pl,_⟩:=I.list hS;have hlen:=rv.length;refine call_function_entry_kw kind_sorted plain_sorted entry_sorted (ksk_s1 _ _) ?_;unfold Builtin.«sorted»;refine rO (m:=checkCount "sorted" 1 1 _) (rP ?_);refine rO (collect_list pl.isList ?_ (by rw[sF];lia));refine rO (Al ?_ (by rw[sF];lia));generalize hh1:((s.heap.push (sC "list" #[] 0)).update s⁻¹ (Obj.mapSeq (· ++ its.toArray)))=h1;have sz1:h1.objs.size=s⁻¹+1:=by rw[<- hh1,dm,size_push']
 have kp1:∀b o,s.heap.get? b=AK o->h1.get? b=AK o:=λb o e=>by
  have hlt:b<s⁻¹:=aq e;rw[<- hh1,Heap.get?_update_ne _ _ _ _ (az hlt),Heap.get?_push_ne _ _ _ (az hlt)];exact e
 have hoL:(h1.push (sC "list" its.toArray 0)).get? h1.objs.size=AK (sC "list" its.toArray 0):=aB _ rfl;show rZ _ _ _ _ _ { s with heap:=h1.push (sC "list" its.toArray 0) };refine rO (sJ (wpAny_call_entry_kw slot_list_sort #[_,hoL,rfl] entry_list_sort ?body (ksk_l1 _ _)));show rZ _ _ (Builtin.«list.sort» #[[.ref h1.objs.size],[(bF "key",.ref q)]]) _ _ _;rw[ksk_t1];generalize hh2:h1.push (sC "list" its.toArray 0)=h2 at hoL;have sz2:h2.objs.size=h1.objs.size+1:=by rw[<- hh2,size_push']
 have kp2:∀b o,s.heap.get? b=AK o->h2.get? b=AK o:=λb o e=>by rw[<- hh2];exact aa _ (kp1 b o e)
 generalize hDD:h1.objs.size=D at hoL;obtain⟨e1,ho1⟩:∃e1,(h2.update D (Obj.mapSeq λ_=>(#[]:Array rW))).get? D=AK (sC "list" #[] e1):=#[_,get?_update_seq hoL λ_=>#[]];have hDs:s⁻¹<=D:=by rw[<- hDD,sz1];exact cN _
 have sb:=Heap.SameBut.update h2 D (Obj.mapSeq λ_=>(#[]:Array rW));unfold ksk_tree;refine rO (listItems_at hoL rfl ?_);refine rO (listUpdate_at hoL rfl ?_ (by rw[ak,sF];lia) (aD _));refine rO (seqEpoch_at ho1 rfl ?_);refine rO (wpAny_newTuple ?_ (by show its.length<=_;rw[sF];lia));refine rO (Al ?_ (aD _));refine sJ ?_;generalize hh3:(h2.update D (Obj.mapSeq λ_=>(#[]:Array rW))).push (sC "tuple" its.toArray 0)=h3;have sz3:h3.objs.size=s⁻¹+3:=by rw[<- hh3,size_push',dm,sz2,sz1]
 have hoK:(h3.push (sC "list" #[] 0)).get? h3.objs.size=AK (sC "list" #[] 0):=aB _ rfl;have hoD:(h3.push (sC "list" #[] 0)).get? D=AK (sC "list" #[] e1):=aa _ (by rw[<- hh3];exact aa _ ho1)
 have kp3:∀b o,s.heap.get? b=AK o->(h3.push (sC "list" #[] 0)).get? b=AK o:=λb o e=>by
  have hlt:b<s⁻¹:=aq e;refine aa _ ?_;rw[<- hh3];exact aa _ ((sb.2 b (az (aw hlt hDs))).trans (kp2 b o e))
 have I1:Inv X AO σ H { s with heap:=h3.push (sC "list" #[] 0) }:=I.kept (t':=s.toks) kp3;have fD:wg X AO H D:=I.fpOk (by lia) (I.hok.fresh (by lia));have fK:wg X AO H h3.objs.size:=I.fpOk (by lia) (I.hok.fresh (by lia));have I2:=Inv.newpin I1 fD hoD xQ
 have nK:∀p ∈ X.pn ++ (AO ++ [(D,sC "list" #[] e1)]),p.1≠h3.objs.size:=λp hp=>by
  rcases AU.mp hp with z | z
  ·exact fK.2.2.2.2.2 p (bi _ z)
  ·rcases AU.mp z with z | z
   ·exact fK.2.2.2.2.2 p (aC _ z)
   ·have e:p=(D,sC "list" #[] e1):=by simpa using z
    subst e;show D≠_;lia
 have I3:=Inv.newpin I2 (b:=h3.objs.size) #[fK.1,fK.2.1,fK.2.2.1,fK.2.2.2.1,fK.2.2.2.2.1,nK] hoK xQ;have hsz:=I.sz;have hK0:X.s₀.heap.objs.size<=h3.objs.size:=by lia
 exact zcm FO hr hkc I3 (by lia) hK0 fD.2.2.2.2.2 nK rv (by lia) ht λs' hE=>#[_,rfl,rP #[_,rfl,hE]]
end
end L3
namespace L3
noncomputable def UL(X:Cx)(N:List si)(s:rX)(H:Hp)(qual:si)(scope:sP)(f:rV)(cd:rW)(cl:List (si × rV)):Cx where
 prog:=X.prog
 w:=X.w
 K:=X.K
 mg:=X.mg
 base:=X.base
 A:=X.A.in1.in1.deeper (eE qual scope s⁻¹ f cd cl)
 N:=N
 s₀:=s
 H₀:=H
 env:=eE qual scope s⁻¹ f cd cl
 outer:=X.stack
 stack:=eE qual scope s⁻¹ f cd cl::X.stack
 ex:=[]
 calm:=AM
 fn:=λ_=>AN
 pn:=[]
 xe:=λ_ _=>False
structure zbU(p y:si)(scope:sP):Prop where
 kind:scope.kind=.function
 co:scope.isCoroutine=AN
 gen:scope.isGenerator=AN
 nocell:∀z ∈ scope.names,z.2≠.cell
 par:scope.names.lookup p=AK .local
 fre:scope.names.lookup y=AK .free
 one:∀q ∈ scope.names,q.2=.free->q.1=y
 ne:p≠y
section
variable{X:Cx}{AO:List (rV × sI)}{σ:L2.St}{H:Hp}{s:rX}{p y name qual:si}{scope:sP}{params:tG}{body:so}{f c' c:rV}{pm ctv cv:rW}{k iy:Nat}{vy x:V}{u:rW}{Q:VK}{t:TE}
theorem zbA(S:zbU p y scope)(hd:X.A.in1.in1.handled=AL)(I:Inv X AO σ H s)(hy:X.N[iy]? = AK y)(hσ:σ[iy]? = AK (AK vy))(hvis:X.env.scope.names.lookup y=AK .cell)(hc:X.env.cells.lookup y=AK c)(rx:RelV x u){h₁:sq}{tk:Nat}
  (hns:h₁.Ns s⁻¹ (λz=>[(p,u)].reverse.lookup z)) (hk₁:∀b o,s.heap.get? b=AK o->h₁.get? b=AK o) :
  Inv (UL X [p,y] s H qual scope f cv [(y,c)]) [] [AK x,AK vy] H { s with heap:=h₁,toks:=tk }:=by
 obtain⟨m,hn,hl⟩:=I.loc;obtain⟨uy,ry,lk⟩:=hl iy y vy hy hσ (.inr (.inl hvis))
 have hcell:s.heap.IsCell c (AK uy):=by
  rcases lk with ⟨z,_⟩ | ⟨_,c2,e2,z⟩
  ·have z':X.env.scope.names.lookup y=AK .local:=z;rw[hvis]at z';cases z'
  ·rw[hc]at e2;cases e2;exact z
 have hcell':h₁.IsCell c (AK uy):=by
  obtain⟨o,e,d⟩:=hcell;exact#[o,hk₁ _ _ e,d]
 have e0:=I.env0;have noA:∀b:rV,b ∉ (UL X [p,y] s H qual scope f cv [(y,c)]).ex:=λb z=>absurd (show b ∈ ([]:List rV)from z) (by simp)
 have lkc:∀z d,bf z [(y,c)]=AK d->z=y/\d=c:=λz d h=>by
  rw[aU]at h;by_cases hz:(z == y)=AM
  ·rw[hz]at h;cases h;exact#[by simpa using hz,rfl]
  ·rw[show (z == y)=AN by simpa using hz]at h;cases h
 have lky:bf y [(y,c)]=AK c:=by rw[aU];simp
 refine#[#[e0.mod,S.kind,rfl,rfl,al _,λz z' d h1 h2=>?_,λz hz=>?_,λz d h _=>?_,λ_=>hd,Around.frames_deeper e0.frames,.inr #[rfl,rfl],λb z=>absurd z (noA b),e0.bs,e0.bsz,λb _ _=>noA b,λb z=>absurd z (noA b),e0.funs,e0.frf],
  rfl,e0.bare,Un.kept hk₁,#[_,hns,λi z v h1 h2 h3=>?_],λz d h=>?_,e0.hok.fresh (al _),λz d h=>?_,λq hq=>absurd (show q ∈ ([]:List (rV × sI))from hq) (by simp),e0.hok.kept hk₁,rfl]
 ·rw[(lkc _ _ h1).1,(lkc _ _ h2).1]
 ·have hz':scope.names.lookup z=AK .cell\/scope.names.lookup z=AK .free:=hz;rcases hz' with hz' | hz'
  ·exact absurd rfl (S.nocell _ (bU hz'))
  ·rw[show z=y from S.one _ (bU hz') rfl];exact#[c,lky]
 ·exact absurd (show (AN:Bool)=AM from h) (by decide)
 ·match i,h1,h2 with
  | 0,h1,h2 =>
   cases h1;cases h2;refine#[u,rx,.inl #[S.par,?_]];show bf p [(p,u)].reverse=AK u;simp [bf]
  | 1,h1,h2 =>
   cases h1;cases h2;exact#[uy,ry,.inr #[.inr S.fre,c,lky,hcell']]
  | i+2,h1,h2=>simp at h2
 ·obtain⟨_,rfl⟩:=lkc z d h;exact#[_,hcell']
 ·obtain⟨_,rfl⟩:=lkc z d h;exact I.freeC y _ hc
theorem JH(S:zbU p y scope)(hr:Room (k+3) X.A)(hbind:bindArgs (bZ name qual params body scope [(y,c)] pm cv ctv) #[[u],[]]=pure [(p,u)])(I:Inv X AO σ H s)
  (ho:s.heap.get? f=AK { cls:=.type "function",data:=.func (bZ name qual params body scope [(y,c)] pm cv ctv) }) (hcd:s.heap.CodeRec cv qual) (hy:X.N[iy]? = AK y) (hσ:σ[iy]? = AK (AK vy)) (hvis:X.env.scope.names.lookup y=AK .cell) (hc:X.env.cells.lookup y=AK c)
  (rx:RelV x u) (hb:PE (UL X [p,y] s H qual scope f cv [(y,c)]) body t) (h:t [AK x,AK vy] H Q) :
  rZ (model X.prog X.w) X.A.in1.in1 (call (.ref f) [u]) (EP X AO σ Q) (λ_ _=>False) s:=by
 have hr2:Room (k+1) X.A.in1.in1:=hr.in1.in1;refine tu (PySem.W.kla_callFunE hr2.depth ho rfl S.co S.gen rfl hcd ?_);rw[hbind];refine rP (Ad S.nocell (λz hz=>?_) (λh₁ hns hsb=>?_) S.kind)
 ·have e:z=(p,u):=by simpa using hz
  subst e;exact S.par
 have hk₁:∀b o,s.heap.get? b=AK o->h₁.get? b=AK o:=λb o e=>hsb.extBut b o (az (aq e)) (aa _ e);refine#[I.nolimit.keeps hk₁,?_];have I1:=zbA (qual:=qual) (f:=f) (cv:=cv) (tk:=s.toks+1) S hr2.hd I hy hσ hvis hc rx hns hk₁;show tB _ _ (.expr body (eE qual scope s⁻¹ f cv [(y,c)])) _ _;refine PySem.W.kla_codeExpr (tm (hb [] _ _ H Q I1 h) (λv s' hv=>?_) λ_ _ z=>False.elim z);obtain⟨w',H',J,rw',q⟩:=hv;exact I.after #[w',H',J.os,J.bare,J.base,J.hok,rw',q]
end
end L3
namespace L3
noncomputable def cdE(c':rV)(q:si):HO:=.ext λh=>h.CodeRec (.ref c') q
noncomputable def fnE(f:rV)(o:sI):HO:=.ext λh=>h.get? f=AK o
def TabOk(H:Hp)(P:rV)(pos:sY)(q:si):Prop :=
 ∃ps:Array rW,H P=AK (.tbl ps)/\AH ps.toList/\(codeAmong pos ps.toList=AL\/∃c',codeAmong pos ps.toList=AK (.ref c')/\H c'=AK (cdE c' q))
def SamT(P:rV)(H H':Hp):Prop:=∀b o,b≠P->H b=AK o->H' b=AK o
def LamAt(H:Hp)(f:rV)(name qual:si)(params:tG)(body:so)(scope:sP)(cl:List (si × rV)):Prop :=
 ∃(c':rV) (pm ctv:rW),H c'=AK (cdE c' qual)/\H f=AK (fnE f { cls:=.type "function",data:=.func (bZ name qual params body scope cl pm (.ref c') ctv) })
theorem zdI{P:sf}{w:sj}{H:Hp}{h:sq}{c':rV}{q:si}(x:h.CodeRec (.ref c') q):ObjOk P w H h c' (cdE c' q):=by
 refine#[x,?_,λh1 h2 a k=>?_]
 ·obtain⟨c,o,vs,t,e,g,_⟩:=x;cases e;exact#[o,g]
 ·obtain⟨c,o,vs,t,e,g,r⟩:=a;cases e;exact#[_,o,vs,t,rfl,k o g,r]
theorem K4{P:sf}{w:sj}{H:Hp}{h:sq}{f:rV}{o:sI}(x:h.get? f=AK o):ObjOk P w H h f (fnE f o) :=
 #[x,#[o,x],λh1 h2 a k=>k o a]
section
variable{X:Cx}{AO:List (rV × sI)}{σ:L2.St}{H:Hp}{s:rX}
theorem Inv.grow{P c' f:rV}{ps more:Array rW}{o:sI}{q:si}{h':sq}{tk:Nat}(I:Inv X AO σ H s)(hP:H P=AK (.tbl ps))(hk:∀b u,b≠P->s.heap.get? b=AK u->h'.get? b=AK u)(hP':h'.get? P=AK { cls:=.none,data:=.fields (ps ++ more) })
  (hc:s⁻¹<=c') (hf:s⁻¹<=f) (hcf:c'≠f) (hcr:h'.CodeRec (.ref c') q) (hfo:h'.get? f=AK o) :
  Inv X AO σ (upd (upd (upd H P (.tbl (ps ++ more))) c' (cdE c' q)) f (fnE f o)) { s with heap:=h',toks:=tk }:=by
 have Pl:P<s⁻¹:=I.hok.lt hP;have hPc:P≠c':=az (aw Pl hc);have hPf:P≠f:=az (aw Pl hf)
 have old:∀b,b<s⁻¹->b≠P->(upd (upd (upd H P (.tbl (ps ++ more))) c' (cdE c' q)) f (fnE f o)) b=H b:=λb hb hbP=>by
  rw[zm (az (aw hb hf)),zm (az (aw hb hc)),zm hbP]
 have atP:(upd (upd (upd H P (.tbl (ps ++ more))) c' (cdE c' q)) f (fnE f o)) P=AK (.tbl (ps ++ more)):=by
  rw[zm hPf,zm hPc,ze]
 have neP:∀b,H b=AL->b≠P:=λb e z=>by rw[z,hP]at e;cases e
 refine I.un #[λb u e n _ _=>hk b u (neP b n) e,λb u e n _ _=>#[u.slots,hk b u (neP b n) e],λb u e n _=>?_,λb u e _=>?_,λb xs e=>?_,λb ob u e=>?_,λb qs e=>?_] λb u e=>?_
 ·rw[old b (aq e) (neP b n)];exact n
 ·by_cases hb:b=P
  ·subst hb;exact#[_,hP']
  ·exact#[u,hk b u hb e]
 ·rw[old b (I.hok.lt e) (λz=>by rw[z,hP]at e;cases e)];exact e
 ·rw[old b (I.hok.lt e) (λz=>by rw[z,hP]at e;cases e)];exact e
 ·by_cases hb:b=P
  ·subst hb;rw[hP]at e;cases e;exact#[more,atP]
  ·rw[old b (I.hok.lt e) hb];exact#[#[],by rw[e];simp]
 ·by_cases hbf:b=f
  ·subst hbf;rw[ze]at e;cases e;exact K4 hfo
  ·rw[zm hbf]at e;by_cases hbc:b=c'
   ·subst hbc;rw[ze]at e;cases e;exact zdI hcr
   ·rw[zm hbc]at e;by_cases hbP:b=P
    ·subst hbP;rw[ze]at e;cases e;exact hP'
    ·rw[zm hbP]at e;refine (I.hok b u e).stay (λd v hd g=>hk d v ?_ g) (λd g=>?_) λd xs g=>?_
     ·rcases hd with z | z
      ·rw[z];exact hbP
      ·intro z';rw[z',hP]at z;cases z
     ·rw[old d (I.hok.lt g) (λz=>by rw[z,hP]at g;cases g)];exact g
     ·rw[old d (I.hok.lt g) (λz=>by rw[z,hP]at g;cases g)];exact g
end
end L3
namespace L3
theorem uT{a b:Int}{v:rW}:∀(l:List rW),AH l->AH (l ++ [rawInt a,rawInt b,v])
 | [],_=>trivial
 | .int _ _::.int _ _::_::rest,h=>uT rest h
theorem Ym{h h':sq}{mg:si->Option rW}{T:rV}(x:h.BuiltinsAt mg T)(k:∀b o,h.get? b=AK o->h'.get? b=AK o):h'.BuiltinsAt mg T:=by
 obtain⟨bm,o,b1,b2,b3,b4,b5,b6⟩:=x;exact#[bm,o,b1,b2,b3,b4,k _ _ b5,b6]
section
variable{X:Cx}{AO:List (rV × sI)}{σ:L2.St}{H:Hp}{s:rX}{cc P c:rV}{y:si}{params:tG}{body:so}{scope:sP}{pos:sY}{Q:VK}
theorem Jp(hcode:X.env.code=.ref cc)(hC:PySem.W.CodeHd X.base cc P)(hB:X.base.BuiltinsAt X.mg P)(hgP:rQ≠P)(hcl:closureFor scope X.env=pure [(y,c)])(hdef:defaultsOf params X.env=([],[]))(I:Inv X AO σ H s)
  (hT:TabOk H P pos (X.env.qual ++ "<lambda>"))
  (h:∀f H',H f=AL->LamAt H' f "<lambda>" (X.env.qual ++ "<lambda>") params body scope [(y,c)]->TabOk H' P pos (X.env.qual ++ "<lambda>")->SamT P H H'->Q (.ref f) H') :
  rZ (model X.prog X.w) X.A (eval (.Lambda params body scope pos) X.env) (EP X AO σ Q) X.xe s:=by
 refine PySem.W.kla_eval hdef ?_;obtain⟨ps,hP,ht,hh⟩:=hT;have hPo:s.heap.get? P=AK (PySem.W.tabObj ps):=I.hok _ _ hP;have hg:=I.mod.glob.keeps I.bk;have Pl:P<s⁻¹:=I.hok.lt hP;rcases hh with hn | ⟨c',hit,hc'⟩
 ·refine PySem.W.kla_makeFunction (mg:=X.mg) hcl I.ok.glob hg hcode (hC.keeps I.bk) hPo ht hn hgP (Ym hB I.bk) λc' ctv h' tk hx hge hlt hrec htb=>?_;have hsz:s⁻¹<=h'.objs.size:=dc (cL hge hlt)
  have I1:=Inv.grow (P:=P) (c':=c') (f:=h'.objs.size) (more:=(List.toArray [rawInt pos.line,rawInt pos.col,.ref c'])) (tk:=tk) (o:={ cls:=.type "function",data:=.func (bZ "<lambda>" (X.env.qual ++ "<lambda>") params body scope [(y,c)] ((X.mg "__name__").getD .none) (.ref c') ctv) }) I hP
   (λb u hb e=>aa _ (hx b u hb e)) (aa _ htb) hge hsz (az hlt) (hrec.push _) (aB _ rfl)
  have hPc:P≠c':=az (aw Pl hge);have hPf:P≠h'.objs.size:=az (aw Pl hsz)
  have atc:(upd (upd (upd H P (.tbl (ps ++ (List.toArray [rawInt pos.line,rawInt pos.col,.ref c'])))) c' (cdE c' (X.env.qual ++ "<lambda>"))) h'.objs.size (fnE h'.objs.size { cls:=.type "function",data:=.func (bZ "<lambda>" (X.env.qual ++ "<lambda>") params body scope [(y,c)] ((X.mg "__name__").getD .none) (.ref c') ctv) })) c'=AK (cdE c' (X.env.qual ++ "<lambda>")):=by
   rw[zm (az hlt),ze]
  refine#[.ref h'.objs.size,_,I1,rfl,h _ _ (I.hok.fresh hsz) #[c',_,ctv,atc,ze] #[ps ++ (List.toArray [rawInt pos.line,rawInt pos.col,.ref c']),?_,?_,.inr #[c',?_,atc]] λb o hb e=>?_]
  ·rw[zm hPf,zm hPc,ze]
  ·rw[fw];exact uT _ ht
  ·rw[fw];exact codeAmong_snoc _ ht hn
  ·have hl:=I.hok.lt e;rw[zm (az (aw hl hsz)),zm (az (aw hl hge)),zm hb];exact e
 ·refine PySem.W.kla_makeFunctionHit (mg:=X.mg) hcl I.ok.glob hg hcode (hC.keeps I.bk) hPo ht hit (Ym hB I.bk) λctv h' tk hk hsz=>?_;have hfr:H h'.objs.size=AL:=I.hok.fresh hsz
  have I1:=I.laid (a:=h'.objs.size) (t':=tk) (h':=h'.push { cls:=.type "function",data:=.func (bZ "<lambda>" (X.env.qual ++ "<lambda>") params body scope [(y,c)] ((X.mg "__name__").getD .none) (.ref c') ctv) })
   (o:=fnE h'.objs.size { cls:=.type "function",data:=.func (bZ "<lambda>" (X.env.qual ++ "<lambda>") params body scope [(y,c)] ((X.mg "__name__").getD .none) (.ref c') ctv) })
   (λb u e=>aa _ (hk b u e)) hsz (K4 (aB _ rfl))
  have sm:=zc (o:=fnE h'.objs.size { cls:=.type "function",data:=.func (bZ "<lambda>" (X.env.qual ++ "<lambda>") params body scope [(y,c)] ((X.mg "__name__").getD .none) (.ref c') ctv) }) hfr;exact#[.ref h'.objs.size,_,I1,rfl,h _ _ hfr #[c',_,ctv,sm _ _ hc',ze] #[ps,sm _ _ hP,ht,.inr #[c',hit,sm _ _ hc']] λb o _ e=>sm _ _ e]
end
end L3
namespace L3
def zfn(R:V->Hp->Prop):List V->Hp->Prop
 | [v],H=>R v H
 | _,_=>False
theorem Qi{R:V->Hp->Prop}:∀{vs:List V} {H:Hp},zfn R vs H->∃v,vs=[v]/\R v H
 | [v],_,h=>#[v,rfl,h]
def zgb(P:rV)(pos:sY)(q:si)(LA:Hp->rV->Prop):TE:=λσ H Q=>TabOk H P pos q/\∀f H',H f=AL->LA H' f->TabOk H' P pos q->SamT P H H'->Q (.ref f) H'
def K2{α:Type}(K:rT)(F:KeyFam α)(P:rV)(pos:sY)(q:si)(LA:Hp->rV->Prop)(iy:Nat)(te tb:TE):TE:=λσ H Q=>te σ H λv H1=>TabOk H1 P pos q /\
 ∀f H2,H1 f=AL->LA H2 f->TabOk H2 P pos q->SamT P H1 H2->∃l xs vy,v=.ref l/\SqL K H2 l xs/\xs.length<64/\σ[iy]? = AK (AK vy)/\uV (λx H Q=>LA H f/\tb [AK x,AK vy] H Q) xs [] H2 (WX K F xs Q)
section
variable{X:Cx}{cc P c:rV}{x p y:si}{params:tG}{body e:so}{scope:sP}{lpos kpos pos pp:sY}{k iy:Nat}{te tb:TE}
theorem zd8(hcode:X.env.code=.ref cc)(hC:PySem.W.CodeHd X.base cc P)(hB:X.base.BuiltinsAt X.mg P)(hgP:rQ≠P)(hcl:closureFor scope X.env=pure [(y,c)])(hdef:defaultsOf params X.env=([],[])) :
  PE X (.Lambda params body scope lpos) (zgb P lpos (X.env.qual ++ "<lambda>") λH f=>LamAt H f "<lambda>" (X.env.qual ++ "<lambda>") params body scope [(y,c)]):=by
 intro AO s σ H Q I h;exact Jp hcode hC hB hgP hcl hdef I h.1 h.2
theorem Kr{α:Type}{F:KeyFam α}(FO:F.Ok)(S:zbU p y scope)(hr:Room (k+3) X.A)(hg:Gl X x)(hm:X.mg x=AL)(hv:sK x=AK (.builtin "sorted"))(ha:PA X [e] (zL te xT))
  (hcode:X.env.code=.ref cc) (hC:PySem.W.CodeHd X.base cc P) (hB:X.base.BuiltinsAt X.mg P) (hgP:rQ≠P) (hcl:closureFor scope X.env=pure [(y,c)]) (hdef:defaultsOf params X.env=([],[]))
  (hbind:∀(cv pm ctv u:rW),bindArgs (bZ "<lambda>" (X.env.qual ++ "<lambda>") params body scope [(y,c)] pm cv ctv) #[[u],[]]=pure [(p,u)]) (hy:X.N[iy]? = AK y) (hvis:X.env.scope.names.lookup y=AK .cell) (hc:X.env.cells.lookup y=AK c)
  (hb:∀(s:rX) (H:Hp) (f:rV) (cv:rW),Room k (UL X [p,y] s H (X.env.qual ++ "<lambda>") scope f cv [(y,c)]).A->PE (UL X [p,y] s H (X.env.qual ++ "<lambda>") scope f cv [(y,c)]) body tb)
  (hn:x≠"__name__":=by decide) (hdb:(x ==("__debug__" : si))=AN:=by decide)
  (hks:(sL pos (sv [#[AK "key",.Lambda params body scope lpos,kpos]] X.env)).filterMap (·.1)=[bF "key"]:=by rfl)
  (hst:sw pos (rR [e] X.env)=(AN,eval e X.env)::sw pos (rR [] X.env):=by rfl) (hpl:(sw pos (rR [e] X.env)).any (·.1)=AN:=by rfl)
  (hall:(sL pos (sv [#[AK "key",.Lambda params body scope lpos,kpos]] X.env)).all (·.1.isSome)=AM:=by rfl) (hkw:(sL pos (sv [#[AK "key",.Lambda params body scope lpos,kpos]] X.env)).any (·.1.isNone)=AN:=by rfl) :
  PE X (.Call (.Name x pp) [e] [#[AK "key",.Lambda params body scope lpos,kpos]] pos) (K2 X.K F P lpos (X.env.qual ++ "<lambda>") (λH f=>LamAt H f "<lambda>" (X.env.qual ++ "<lambda>") params body scope [(y,c)]) iy te tb):=by
 intro AO s σ H Q I h;have hlam:PE X (.Lambda params body scope lpos) (zgb P lpos (X.env.qual ++ "<lambda>") λH f=>LamAt H f "<lambda>" (X.env.qual ++ "<lambda>") params body scope [(y,c)]):=zd8 hcode hC hB hgP hcl hdef;refine sE (wH I hg hm hv ?_ hn hdb)
 have h':(zL te xT) σ H (zfn λv H1=>TabOk H1 P lpos (X.env.qual ++ "<lambda>")/\∀f H2,H1 f=AL->LamAt H2 f "<lambda>" (X.env.qual ++ "<lambda>") params body scope [(y,c)]->TabOk H2 P lpos (X.env.qual ++ "<lambda>")->SamT P H1 H2 ->
   ∃l xs vy,v=.ref l/\SqL X.K H2 l xs/\xs.length<64/\σ[iy]? = AK (AK vy)/\uV (λx H Q=>LamAt H f "<lambda>" (X.env.qual ++ "<lambda>") params body scope [(y,c)]/\tb [AK x,AK vy] H Q) xs [] H2 (WX X.K F xs Q)):=h
 refine callWith_kw (thn (ha pos AO s σ H _ I h') λus s1 ⟨vs,H1,I1,r1,q1⟩=>?_) hst hpl hall hkw;obtain⟨v,rfl,hT,q1⟩:=Qi q1;obtain⟨u,rfl,ru⟩:=vn r1
 refine thn ((VW hlam zac:PK X [#[AK "key",.Lambda params body scope lpos,kpos]] _) pos AO s1 σ H1 (zfn λkv H2=>∃f,kv=.ref f/\LamAt H2 f "<lambda>" (X.env.qual ++ "<lambda>") params body scope [(y,c)] /\
   ∃l xs vy,v=.ref l/\SqL X.K H2 l xs/\xs.length<64/\σ[iy]? = AK (AK vy)/\uV (λx H Q=>LamAt H f "<lambda>" (X.env.qual ++ "<lambda>") params body scope [(y,c)]/\tb [AK x,AK vy] H Q) xs [] H2 (WX X.K F xs Q)) I1 #[hT,λf H2 a1 a2 a3 a4=>#[f,rfl,a2,q1 f H2 a1 a2 a3 a4]]) λws s2 ⟨zs,H2,I2,r2,q2⟩=>?_
 obtain⟨kv,rfl,f,rfl,hLA,l,xs,vy,rfl,hS,hz,hσ,hk⟩:=Qi q2;obtain⟨w',rfl,rw'⟩:=vn r2;cases rw';cases ru;rw[hks];show rZ _ _ (call (.builtin "sorted") [.ref l] [(bF "key",.ref f)]) _ _ _;refine Ql FO (k:=k+1) hr (λpins' s3 H3 x3 u3 Q3 I3 r3 h3=>?_) I2 hS hz hk;obtain⟨⟨c',pm,ctv,e1,e2⟩,h4⟩:=h3;have hcd:s3.heap.CodeRec (.ref c') (X.env.qual ++ "<lambda>"):=(I3.hok _ _ e1).1;have ho:=(I3.hok _ _ e2).1;exact JH (k:=k) S hr (hbind _ _ _ _) I3 ho hcd hy hσ hvis hc r3 (hb s3 H3 f (.ref c') (hr.in1.in1.deeper _)) h4
end
end L3
namespace L3
section
variable{K:rT}
theorem SamT.of{T:rV}{H H':Hp}(s:Same H H'):SamT T H H':=λb o _ e=>s b o e
theorem SamT.trans{T:rV}{H H' H'':Hp}(s:SamT T H H')(s':SamT T H' H''):SamT T H H'':=λb o n e=>s' b o n (s b o n e)
theorem SamT.at{T b:rV}{H H':Hp}{ps:Array rW}{o:HO}(s:SamT T H H')(hT:H T=AK (.tbl ps))(e:H b=AK o)(ho:∀qs,o≠.tbl qs):H' b=AK o:=s b o (λz=>by rw[z,hT]at e;cases e;exact ho _ rfl) e
theorem SamT.free{T b:rV}{H H':Hp}{o:HO}(s:SamT T H H')(hT:H' T=AK o)(h:H' b=AL):H b=AL:=by
 cases e:H b with
 | none=>rfl
 | some u =>
  by_cases hb:b=T
  ·rw[hb,hT]at h;cases h
  ·rw[s b u hb e]at h;cases h
theorem SamT.seqL{T a:rV}{H H':Hp}{ps:Array rW}{xs:List V}(s:SamT T H H')(hT:H T=AK (.tbl ps))(h:SqL K H a xs):SqL K H' a xs:=by
 rcases h with (h | ⟨o,h⟩) | h
 ·exact .inl (.inl (s.at hT h λ_ z=>by cases z))
 ·exact .inl (.inr #[o,s.at hT h λ_ z=>by cases z])
 ·exact .inr h
theorem SamT.seqT{T a:rV}{H H':Hp}{ps:Array rW}{xs:List V}(s:SamT T H H')(hT:H T=AK (.tbl ps))(h:SqT K H a xs):SqT K H' a xs:=by
 rcases h with (h | ⟨o,h⟩) | h
 ·exact .inl (.inl (s.at hT h λ_ z=>by cases z))
 ·exact .inl (.inr #[o,s.at hT h λ_ z=>by cases z])
 ·exact .inr h
mutual
theorem Is.samT{T:rV}{H H':Hp}{ps:Array rW}(s:SamT T H H')(hT:H T=AK (.tbl ps)):∀(d:D) (v:V),Is K H d v->Is K H' d v
 | .non,v,h=>by simp only[Is]at h ⊢;exact h
 | .bl b,v,h=>by simp only[Is]at h ⊢;exact h
 | .int b,v,h=>by simp only[Is]at h ⊢;exact h
 | .str b,v,h=>by simp only[Is]at h ⊢;exact h
 | .lst l,v,h=>by
  simp only[Is]at h ⊢;obtain⟨a,xs,e1,e2,e3⟩:=h;exact#[a,xs,e1,s.seqL hT e2,Iss.samT s hT l xs e3]
 | .tup l,v,h=>by
  simp only[Is]at h ⊢;obtain⟨a,xs,e1,e2,e3⟩:=h;exact#[a,xs,e1,s.seqT hT e2,Iss.samT s hT l xs e3]
theorem Iss.samT{T:rV}{H H':Hp}{ps:Array rW}(s:SamT T H H')(hT:H T=AK (.tbl ps)):∀(l:List D) (vs:List V),Iss K H l vs->Iss K H' l vs
 | [],vs,h=>by simp only[Iss]at h ⊢;exact h
 | d::l,vs,h=>by
  simp only[Iss]at h ⊢;obtain⟨v,r,e1,e2,e3⟩:=h;exact#[v,r,e1,Is.samT s hT d v e2,Iss.samT s hT l r e3]
end
theorem LsA.samT{T a:rV}{H H':Hp}{ps:Array rW}{ds:List D}(h:LsA K H a ds)(s:SamT T H H')(hT:H T=AK (.tbl ps)):LsA K H' a ds:=by
 obtain⟨xs,h1,h2⟩:=h;exact#[xs,s.at hT h1 (λ_ z=>by cases z),Iss.samT s hT _ _ h2]
theorem TabOk.same{H H':Hp}{T:rV}{pos:sY}{q:si}(h:TabOk H T pos q)(s:Same H H'):TabOk H' T pos q:=by
 obtain⟨ps,h1,h2,h3⟩:=h;refine#[ps,s _ _ h1,h2,?_];rcases h3 with h3 | ⟨c',h4,h5⟩
 ·exact .inl h3
 ·exact .inr #[c',h4,s _ _ h5]
theorem LamAt.same{H H':Hp}{f:rV}{name qual:si}{params:tG}{body:so}{scope:sP}{cl:List (si × rV)}(h:LamAt H f name qual params body scope cl)(s:Same H H'):LamAt H' f name qual params body scope cl:=by
 obtain⟨c',pm,ctv,h1,h2⟩:=h;exact#[c',pm,ctv,s _ _ h1,s _ _ h2]
end
end L3
namespace L3
section
variable{P:sf}{w:sj}{K:rT}{mg mb:si->Option rW}{CX:CXT}{k:Nat}{fa a T cc:rV}{fd:rY}{x:si}{sp:Sp}{s₁:rX}{vs:List rW}{ns:List Int}{ps:Array rW}
theorem Z6(KX:K.In s₁.heap)(hKT:K.lookup T=AL)(hT:s₁.heap.get? T=AK { cls:=.none,data:=.fields ps })(hTc:AC s₁.heap T)(hns:s₁.heap.Ns rQ mg)(hb:s₁.heap.Ns builtinsNs mb)(hbb:∀x:si,x≠"__name__"->mb x=sK x)(hlim:s₁.heap.NoLimit)(hg:s₁.gens=#[])
  (ha:s₁.heap.get? a=AK { cls:=.type "list",data:=.seq vs.toArray }) (hr:Room k callerA)
  (hbm:s₁.heap.BuiltinsAt mg T) (hcd:PySem.W.CodeHd s₁.heap cc T) (F:∀base:sq,K.In base->base.Ns rQ mg->base.BuiltinsAt mg T->PySem.W.CodeHd base cc T->zP P w K mg base CX k fa fd [x] sp) (hbind:∀(s:rX) (u:rW),Aj s fd #[[u],[]] [(x,u)])
  (hCX:∀H e s',CX [] H s₁ (λ_ _ _=>False) e s'->False) (H:Hp) (h1:H T=AK (.tbl ps)) (h2:∀b u,H b=AK u->b=T\/(b=a/\K.lookup a=AL/\u=.frz { cls:=.type "list",data:=.seq vs.toArray } (.lst (ns.map V.int))))
  (hok:HOk P w H s₁.heap) (hsp:sp [.ref a] H (λv _=>v=.bl AM) λ_ _ _=>False) :
  tB (model P w) callerA (.call (.ref fa) #[[.ref a],[]]) (λr s'=>r=.ok (.ret (.bool AM))/\OldK s₁.heap s'.heap/\s'.os=s₁.os/\tO s'.gens) s₁:=by
 have stay:∀b o,s₁.heap.get? b=AK o->(b≠T)->(b≠a)->(Qq s₁.heap H).get? b=AK o:=λb o e n1 n2=>X4 e (by
  cases q:H b with
  | none=>rfl
  | some u =>
   rcases h2 b u q with z | z
   ·exact absurd z n1
   ·exact absurd z.1 n2)
 have nsStay:∀(b:rV) (m:si->Option rW),s₁.heap.Ns b m->(Qq s₁.heap H).Ns b m:=λb m hN=>by
  obtain⟨o,es,ep,e,d,rest⟩:=hN;refine#[o,es,ep,stay b o e (λz=>?_) (λz=>?_),d,rest]
  ·rw[z,hT]at e;cases e;cases d
  ·rw[z,ha]at e;cases e;cases d
 have kStay:K.In (Qq s₁.heap H):=λb o e=>by
  have g:=KX b o e;refine X4 g ?_
  cases q:H b with
  | none=>rfl
  | some u =>
   rcases h2 b u q with z | z
   ·rw[z,hKT]at e;cases e
   ·rw[z.1,z.2.1]at e;cases e
 have bStay:(Qq s₁.heap H).BuiltinsAt mg T:=by
  obtain⟨bm,o,b1,b2,b3,b4,b5,b6,b7,b8⟩:=hbm;refine#[bm,o,b1,b2,b3,b4,stay bm o b5 b4 (λz=>?_),b6,b7,b8];rw[z,ha]at b5;cases b5;simp at b6
 have cStay:PySem.W.CodeHd (Qq s₁.heap H) cc T:=by
  obtain⟨o,vs',file,tf,flags,tg,inF,text,tt,c1,c2,c3,c4,c5,c6,c7,c8,c9,c10⟩:=hcd;refine#[o,vs',file,tf,flags,tg,inF,text,tt,stay cc o c1 c10 (λz=>?_),c2,c3,c4,c5,c6,c7,c8,c9,c10];rw[z,ha]at c1;cases c1;simp at c2
 obtain⟨mc,l1,l2⟩:=hlim;have M0:Mod K mg (Qq s₁.heap H):={ kin:=kStay,glob:=nsStay _ _ hns,blt:=#[mb,nsStay _ _ hb,hbb],nolimit:=#[mc,nsStay _ _ l1,l2] };have E0:Env0 P w K mg (Qq s₁.heap H) callerA [] s₁ H:={ frames:=rfl,mod:=M0,bs:=λb o e=>zb4 e,bsz:=Nat.le_of_eq (Q0 _ _),funs:=trivial,frf:=λb z=>(nomatch (show b ∈ ([]:List rV)from z)),hok:=hok,bare:=.of_eq hg };refine tz ((F _ kStay (nsStay _ _ hns) bStay cStay).run callerA [] s₁ H #[[.ref a],[]] [.ref a] [.ref a] (λv _=>v=.bl AM) (λ_ _ _=>False) hr E0 (hbind s₁ (.ref a)) (.cons rfl .nil) hsp) λr s' hq=>?_;rcases r with e | fl
 ·exact (hCX H e s' hq).elim
 rcases fl with _ | _ | _ | u
 all_goals first | exact False.elim hq | skip
 obtain⟨v,H',e1,e2,un,hok',rv,ev⟩:=hq;have ev':v=V.bl AM:=ev;subst ev';have eu:u=Value.bool AM:=rv;subst eu;obtain⟨more,hT2⟩:=un.tbls T ps h1;have hT3:s'.heap.get? T=AK { cls:=.none,data:=.fields (ps ++ more) }:=hok' T _ hT2
 have each:∀b o,s₁.heap.get? b=AK o->b≠T->s'.heap.get? b=AK o:=λb o e n=>by
  cases q:H b with
  | none=>exact un.keep b o e q (λz=>(nomatch (show b ∈ ([]:List rV)from z))) (λz=>(nomatch z))
  | some ob =>
   rcases h2 b ob q with z | ⟨z,_,zz⟩
   ·exact absurd z n
   ·subst zz;have g:=(hok' b _ (un.frzs b _ _ q)).1;rw[z,ha]at e;cases e;exact g
 refine#[rfl,#[λb o e=>?_,λb o e=>?_],e1,e2]
 ·by_cases hbT:b=T
  ·subst hbT;rw[hT]at e;cases e;exact .inr (.inl #[hTc,rfl,ps,more,rfl,hT3])
  ·exact .inl (each b o e hbT)
 ·by_cases hbT:b=T
  ·subst hbT;exact#[_,hT3]
  ·exact#[o,each b o e hbT]
theorem V1(KX:K.In s₁.heap)(hKT:K.lookup T=AL)(hT:s₁.heap.get? T=AK { cls:=.none,data:=.fields ps })(hTc:AC s₁.heap T)(hns:s₁.heap.Ns rQ mg)(hb:s₁.heap.Ns builtinsNs mb)(hbb:∀x:si,x≠"__name__"->mb x=sK x)(hlim:s₁.heap.NoLimit)(hg:s₁.gens=#[])
  (ha:s₁.heap.get? a=AK { cls:=.type "list",data:=.seq vs.toArray }) (hi:Ax vs ns) (hl:ns.length<=rS) (hr:Room k callerA)
  (hbm:s₁.heap.BuiltinsAt mg T) (hcd:PySem.W.CodeHd s₁.heap cc T) (F:∀base:sq,K.In base->base.Ns rQ mg->base.BuiltinsAt mg T->PySem.W.CodeHd base cc T->zP P w K mg base CX k fa fd [x] sp) (hbind:∀(s:rX) (u:rW),Aj s fd #[[u],[]] [(x,u)])
  (hCX:∀H e s',CX [] H s₁ (λ_ _ _=>False) e s'->False) (hsp:∀H:Hp,H T=AK (.tbl ps)->SqL K H a (ns.map V.int)->sp [.ref a] H (λv _=>v=.bl AM) λ_ _ _=>False) :
  tB (model P w) callerA (.call (.ref fa) #[[.ref a],[]]) (λr s'=>r=.ok (.ret (.bool AM))/\OldK s₁.heap s'.heap/\s'.os=s₁.os/\tO s'.gens) s₁:=by
 have rv:=Yk hi;have hlv:=hi.length
 have hTa:a≠T:=λz=>by
  rw[z,hT]at ha;cases ha
 rcases hk:K.lookup a with _ | o
 ·refine Z6 (ns:=ns) KX hKT hT hTc hns hb hbb hlim hg ha hr hbm hcd F hbind hCX (upd (upd (λ_=>AL) T (.tbl ps)) a (.frz { cls:=.type "list",data:=.seq vs.toArray } (.lst (ns.map V.int)))) ?_ (λb u e=>?_) (λb u e=>?_) ?_
  ·rw[zm (Ne.symm hTa),ze]
  ·by_cases hba:b=a
   ·subst hba;rw[ze]at e;cases e;exact .inr #[rfl,hk,rfl]
   ·rw[zm hba]at e;by_cases hbT:b=T
    ·exact .inl hbT
    ·rw[zm hbT]at e;cases e
  ·by_cases hba:b=a
   ·subst hba;rw[ze]at e;cases e;exact#[ha,by rw[ag];exact hl,vs,_,rv,ha]
   ·rw[zm hba]at e;by_cases hbT:b=T
    ·subst hbT;rw[ze]at e;cases e;exact hT
    ·rw[zm hbT]at e;cases e
  ·exact hsp _ (by rw[zm (Ne.symm hTa),ze]) (.inl (.inr #[_,ze]))
 ·have e:=KX a o hk;rw[ha]at e;cases e;refine Z6 (ns:=ns) KX hKT hT hTc hns hb hbb hlim hg ha hr hbm hcd F hbind hCX (upd (λ_=>AL) T (.tbl ps)) ze (λb u e=>?_) (λb u e=>?_) (hsp _ ze (.inr #[_,vs.toArray,_,hk,rfl,rfl,rfl,by rw[ak,hlv];exact hl,by simpa using rv]))
  ·by_cases hbT:b=T
   ·exact .inl hbT
   ·rw[zm hbT]at e;cases e
  ·by_cases hbT:b=T
   ·subst hbT;rw[ze]at e;cases e;exact hT
   ·rw[zm hbT]at e;cases e
end
noncomputable def zbl(K:rT):Bool:=K.all λp=>match p.2 with
 | ⟨.none,_,.fields _,_⟩=>AN
 | _=>AM
theorem Wr{T:rV}{o:sI}:∀{K:rT},K.lookup T=AK o->(T,o) ∈ K
 | [],h=>by cases h
 | p::K,h=>by
  rw[aU]at h;by_cases hp:T=p.1
  ·rw[show (T == p.1)=AM by simpa using hp]at h;cases h;rw[hp];exact ax
  ·rw[show (T == p.1)=AN by simpa using hp]at h;exact am _ (Wr h)
theorem Jn{K:rT}{T:rV}{ps:Array rW}{h:sq}(e:zbl K=AM)(X:K.In h)(hT:h.get? T=AK { cls:=.none,data:=.fields ps }):K.lookup T=AL:=by
 cases q:K.lookup T with
 | none=>rfl
 | some o =>
  have g:=X _ _ q;rw[hT]at g;cases g;have:=Bc.mp e _ (Wr q);simp at this
theorem walk_ofT{l:PySem.W.OpenLaw}{n k:Nat}{q:sf}{loose:List si}{XP:(si->Option rW)->sq->Prop}{YP:sj->sq->Prop}{d din:DefRec}{K:Params->rT}{CX:sj->CXT}{sp:sj->rV->Sp}{x:si}
  (hn:l.most=AK n) (hn2:n<=rS) (hdf:d.params.defaults=[]) (hr:Room k callerA) (hdin:din ∈ recsOf q)
  (hY:∀(w:sj) (h:sq),YP w h->(K w.params).In h) (hno:∀w:sj,zbl (K w.params)=AM)
  (F:∀(w:sj) (mg:si->Option rW) (fa:rV) (h:sq) (cc T:rV),(K w.params).In h->h.Ns rQ mg->mg d.name=AK (.ref fa)->(∃a o fd,mg din.name=AK (.ref a)/\h.get? a=AK o/\o.data=.func fd/\fd.code=.ref cc)->rQ≠T ->
   ∃fd:rY,(∀(s:rX) (u:rW),Aj s fd #[[u],[]] [(x,u)]) /\
    ∀base:sq,(K w.params).In base->base.Ns rQ mg->base.BuiltinsAt mg T->PySem.W.CodeHd base cc T->zP l.prog w (K w.params) mg base (CX w) k fa fd [x] (sp w T))
  (hsp:∀(w:sj) (H:Hp) (a:rV) (ns:List Int) (T:rV),ns.length<=n->(∀z ∈ ns,uU z)->H T=AK (.tbl #[])->SqL (K w.params) H a (ns.map V.int)->sp w T [.ref a] H (λv _=>v=.bl AM) λ_ _ _=>False)
  (hCX:∀(w:sj) (H:Hp) (s:rX) (e:rW) (s':rX),CX w [] H s (λ_ _ _=>False) e s'->False) :
  PySem.W.WalkO q loose XP YP l.row.toRowW d [] (λf vs=>fS f vs):=by
 refine Yh hn hdf λw s₀ s₁ mg mb fa o pm cd doc a vs ns G Y ho hd hcd hmg hobj hints hlen hb' hg=>?_;have X0:=hY w _ Y;obtain⟨ai,oi,fdi,cc,T,m1,m2,m3,m4,m5,m6⟩:=G.T.tab din hdin;have hcd':PySem.W.CodeHd s₁.heap cc T:=PySem.W.CodeHd.of m5 m6;have hTo:s₁.heap.get? T=AK { cls:=.none,data:=.fields #[] }:=m6.2;have hTc:AC s₁.heap T:=m6.isCodeTable
 have hgT:rQ≠T:=λz=>by
  obtain⟨o,es,ep,e,hd',_⟩:=G.T.g;rw[z,hTo]at e;cases e;cases hd'
 have hbm:s₁.heap.BuiltinsAt mg T:=by
  obtain⟨bm,ob,b1,b2,b3,b4,b5,b6⟩:=G.T.bmain;refine#[bm,ob,b1,b2,λz=>?_,λz=>?_,b3,b4,b5,b6]
  ·obtain⟨o,es,ep,e,hd',_⟩:=G.T.g;rw[z,e]at b3;cases b3;rw[hd']at b6;cases b6
  ·rw[z,hTo]at b3;cases b3;cases b4
 obtain⟨fd,hbd,hF⟩:=F w mg fa _ cc T X0 G.T.g hmg #[ai,oi,fdi,m1,m2,m3,m4] hgT;exact V1 (T:=T) (ps:=#[]) X0 (Jn (hno w) X0 hTo) hTo hTc G.T.g G.T.b G.T.builtins G.T.nolimit hg hobj hints (aN hlen hn2) hr hbm hcd' hF hbd (λH e s'=>hCX w H s₁ e s') λH h1 h2=>hsp w H a ns T hlen hb' h1 h2
theorem zbQ{P:sf}{w:sj}{K:rT}{mg:si->Option rW}{base:sq}{x qual:si}{st:sr}{f cc:rV}{fd:rY}{N ps:List si}{k:Nat}{sp:Sp}(F:Fun K x qual st f fd)(hcc:fd.code=.ref cc)(S:zk N ps (zh st))(len:∀vs H Q E,sp vs H Q E->vs.length=ps.length)
  (hbody:∀(A:sk) (outer:List Aa) (s:rX) (H:Hp) (vs:List V) (Q:VK) (E:XK),Room k (A.deeper (tN qual (zh st) s⁻¹ f (.ref cc)))->sp vs H Q E ->
   ∃t,PSs (qi CX0 P w K mg base N qual (zh st) f (.ref cc) A outer s H E).nox (yg st) t/\t { nx:=λ_ H'=>Q .non H',rt:=Q } (start N vs) H):zP P w K mg base CX0 (k+1) f fd ps sp:=by
 obtain⟨oc,od,kV,doc,pm,an,cdv,ct,osl,rfl,lk,hcd⟩:=F.ex;have e:cdv=.ref cc:=hcc;subst e;refine JC lk hcd S len λA outer s H vs Q E hr hsp=>?_;obtain⟨t,h,q⟩:=hbody A outer s H vs Q E hr hsp;exact#[t,h.nox,q]
end L3
namespace L3
section
variable{X:Cx}{AO:List (rV × sI)}{σ:L2.St}{H:Hp}{s:rX}{cc P c:rV}{y:si}{params:tG}{body:so}{scope:sP}{pos:sY}{Q:VK}
end
section
variable{X:Cx}{cc P c:rV}{x p y:si}{params:tG}{body e:so}{scope:sP}{lpos kpos pos pp:sY}{k iy:Nat}{te tb:TE}
end
end L3
namespace L3
section
variable{P:sf}{w:sj}{K:rT}{mg mb:si->Option rW}{CX:CXT}{k:Nat}{fa a T cc T' cc':rV}{fd:rY}{x:si}{sp:Sp}{s₁:rX}{vs:List rW}{ns:List Int}
end
end L3
namespace PySem
namespace F
end F
section
variable{prog:sf}{w:sj}{A:sk}{E:rW->rX->Prop}{s:rX}
def Heap.IsRevS(h:sq)(a:rV)(x:si)(t:tP)(i:Int):Prop:=∃o,h.get? a=AK o/\o.cls=.type "reversed"/\o.data=.fields (List.toArray [.str x t,rawInt i])
theorem Heap.IsRevS.typeIs{a:rV}{x:si}{t:tP}{i:Int}(z:s.heap.IsRevS a x t i):s.TypeIs (.ref a) "reversed":=let #[o,ho,hc,_]:=z; #[o,ho,hc]
theorem Heap.IsRevS.at{h h':sq}{a:rV}{x:si}{t:tP}{i:Int}(z:h.IsRevS a x t i)(e:∀o,h.get? a=AK o->h'.get? a=AK o):h'.IsRevS a x t i:=let #[o,ho,r]:=z; #[o,e _ ho,r]
end
section
variable{prog:sf}{w:sj}{A:sk}{E:rW->rX->Prop}{s:rX}
end
end PySem
namespace L3
section
variable{X:Cx}{o a:so}{to:TE}{ta:TA}{apos cpos p pos2:sY}
end
end L3
namespace L2
noncomputable def Itk(lo k:Int)(n:Nat):It:=#[λi _=>i<n,λi H x H'=>H'=H/\x=.int (lo+i * k),λi _=>n<=i]
theorem YJ{P:sf}{w:sj}{K:rT}{tg:so}(it:rV)(lo k:Int)(n:Nat):Jf P w K tg (Itk lo k n) [it] it (λi h=>Ai h it (lo+(i:Nat) * k) ((n:Int) - (i:Nat)) k) where
 mem:=by simp
 obj:=λi h st b hb=>by
  have e:b=it:=by simpa using hb
  subst e
  exact#[_,st,λv z=>by
   have z':Data.fields _=Data.cell v:=z
   cases z']
 keep:=λi h h' st k=>k it (by simp) _ st
 item:=by
  intro X hP hw hK hc i AO s σ H E I hf st hg;subst hP hw hK;obtain⟨f0,f1,f2,f3,f4,f5⟩:=hf it (by simp);have W:=Walks.range (prog:=X.prog) (w:=X.w) (I.ok.hd hc) it lo k n;refine W.item i s _ _ hg st λv h' tk hv st' kk=>?_;obtain⟨t,rfl⟩:=hv;have I1:Inv X AO σ H { s with heap:=h',toks:=tk }:=I.turned (λb o hb e=>kk b o (by simpa using hb) e) f0 f1 f3 f4 f5;exact#[_,rfl,WU (s:={ s with heap:=h',toks:=tk }) (n:="range_iterator") st' rfl rfl (by decide) #[.int (lo+i * k),H,I1,#[t,rfl],#[rfl,rfl],st',λb hb=>(hf b hb).1]]
 done:=by
  intro X hP hw hK hc i AO s σ H E I hf st hg;subst hP hw hK;obtain⟨f0,f1,f2,f3,f4,f5⟩:=hf it (by simp);exact tW (I.ok.hd hc) st (by have:n<=i:=hg;lia) λh' eb=>#[rfl,I.turned (t':=s.toks) (λb o hb e=>eb b o hb e) f0 f1 f3 f4 f5]
 self:=λ_ _ _ _ _ st h=>tX st h
section
variable{X:Cx}{tg:so}
theorem KW{i j k:Int}(h1:0<=i)(h2:i<=2 ^ 30)(h3:0<=j)(h4:j<=2 ^ 30)(h5:0<k)(h6:k<2 ^ 30):0<=Builtin.Range.rangeSize i j k/\Builtin.Range.rangeSize i j k<2 ^ 30+1:=by
 unfold Builtin.Range.rangeSize;rw[if_pos h5];split
 ·have a:=Int.ediv_nonneg (a:=j - i - 1) (b:=k) (by lia) (by lia);have b:=Int.ediv_le_self (a:=j - i - 1) k (by lia);lia
 ·lia
theorem zbF{i j k:Int}(h1:0<=i)(h2:i<=2 ^ 30)(h3:0<=j)(h4:j<=2 ^ 30)(h5:0<k)(h6:k<2 ^ 30):Builtin.Range.small i j k=AM:=by
 obtain⟨a,b⟩:=KW h1 h2 h3 h4 h5 h6;unfold Builtin.Range.small;simp only[Builtin.Range.rangeFitsLong,bV,eQ,decide_eq_true_eq,beq_iff_eq,h5,gt_iff_lt,if_true];lia
theorem Ui{AO:List (rV × sI)}{σ:St}{H:Hp}{s:rX}{R:It->Hp->Prop}{E:rW->rX->Prop}{lo hi k:Int}{t u v:tP}{tk:Nat}(I:Inv X AO σ H s)(h1:0<=lo)(h2:lo<=2 ^ 30)(h3:0<=hi)(h4:hi<=2 ^ 30)(h5:0<k)(h6:k<2 ^ 30)
  (q:R (Itk lo k (Builtin.Range.rangeSize lo hi k).toNat) H):rZ (model X.prog X.w) X.A (pyIter (.ref s⁻¹)) (PIE X AO σ tg R) E { s with heap:=s.heap.push { cls:=.type "range",data:=.fields (List.toArray [.int lo t,.int hi u,.int k v]) },toks:=tk }:=by
 refine Ap (IsRange.new ..) (zbF h1 h2 h3 h4 h5 h6) ?_;have I1:Inv X AO σ H { s with heap:=s.heap.push { cls:=.type "range",data:=.fields (List.toArray [.int lo t,.int hi u,.int k v]) },toks:=tk }:=I.kept λb o e=>aa _ e
 refine#[(s.heap.push { cls:=.type "range",data:=.fields (List.toArray [.int lo t,.int hi u,.int k v]) }).objs.size,[(s.heap.push { cls:=.type "range",data:=.fields (List.toArray [.int lo t,.int hi u,.int k v]) }).objs.size],_,_,H,rfl,
  I1.kept (t':=tk) λb o e=>aa _ e,YJ _ lo k (Builtin.Range.rangeSize lo hi k).toNat,?_,λb hb=>?_,q]
 ·have e1:lo+((0:Nat):Int) * k=lo:=by simp
  have e2:(((Builtin.Range.rangeSize lo hi k).toNat:Nat):Int) - ((0:Nat):Int)=Builtin.Range.rangeSize lo hi k:=by have:=(KW h1 h2 h3 h4 h5 h6).1;lia
  show Ai _ _ (lo+((0:Nat):Int) * k) ((((Builtin.Range.rangeSize lo hi k).toNat:Nat):Int) - ((0:Nat):Int)) k;rw[e1,e2];exact aB _ rfl
 ·have e:b=(s.heap.push { cls:=.type "range",data:=.fields (List.toArray [.int lo t,.int hi u,.int k v]) }).objs.size:=by simpa using hb
  subst e;exact I1.fpOk (al _) (I1.hok.fresh (al _))
def zdE(ta:TA):TI:=λσ H R=>ta σ H λvs H1=>∃i j k:Int,vs=[.int i,.int j,.int k]/\(0<=i/\i<=2 ^ 30/\0<=j/\j<=2 ^ 30/\0<k/\k<2 ^ 30)/\R (Itk i k (Builtin.Range.rangeSize i j k).toNat) H1
theorem Uc{a b c:so}{ta:TA}{p pos:sY}(hg:Gl X "range")(hm:X.mg "range" = AL)(ha:PA X [a,b,c] ta)(hs:rR [a,b,c] X.env=[(AN,eval a X.env),(AN,eval b X.env),(AN,eval c X.env)]:=by rfl)(hs2:rR [b,c] X.env=[(AN,eval b X.env),(AN,eval c X.env)]:=by rfl) :
  PI X tg (.Call (.Name "range" p) [a,b,c] [] pos) (zdE ta):=by
 intro AO s σ H R I h;refine AJ (wH I hg hm boot_range (bv (thn (ha pos AO s σ H _ I h) λus s1 ⟨vs,H1,I1,r1,q1⟩=>?_) (by rw[hs,hs2]) (by rw[hs2];rfl)));obtain⟨i,j,k,e,⟨q1,q2,q3,q4,q5,q6⟩,q⟩:=q1;subst e
 cases r1 with
 | cons r rr =>
  cases rr with
  | cons r' rr =>
   cases rr with
   | cons r'' rr =>
    cases rr;obtain⟨t,rfl⟩:=r;obtain⟨t',rfl⟩:=r';obtain⟨t'',rfl⟩:=r'';exact call_range_3 (by lia) (Ui I1 q1 q2 q3 q4 q5 q6 q) (Or.inl (PyProof.noPylong_small (by lia)))
end
end L2
namespace L3
open PySem L2
def CompK(lo k:Int)(n:Nat)(g:TG)(tt:TT)(te:TE)(own:Nat)(ix:List Nat)(σ:L2.St)(H1:Hp)(Q:VK)(D:rV):Prop:=Xw (Itk lo k n) g tt te own ix σ H1 Q D
theorem zel{ta:TA}{g:TG}{tt:TT}{te:TE}{own:Nat}{ix:List Nat}{σ:L2.St}{H:Hp}{Q:VK}:jU (zdE ta) g tt te own ix σ H Q=ta σ H λvs H1=>∃i j k:Int,vs=[.int i,.int j,.int k]/\(0<=i/\i<=2 ^ 30/\0<=j/\j<=2 ^ 30/\0<k/\k<2 ^ 30)/\∀D,H1 D=AL->CompK i k (Builtin.Range.rangeSize i j k).toNat g tt te own ix σ H1 Q D:=rfl
section
variable{g:TG}{tt:TT}{te:TE}{own:Nat}{ix:List Nat}{σ:L2.St}{H1:Hp}{Q:VK}{D:rV}
theorem CompK.by{lo k:Int}{n:Nat}(Pv:Nat->List V->Hp->Prop)(h0:Pv 0 [] (upd H1 D (.lst [])))
  (hs:∀i AR H',i<n->Pv i AR H'->g (.int (lo+i * k)) (vt σ own ix) H' λσ3 H3=>yW (vt σ own ix) σ3/\tt σ3 H3 λb H4=>if b=AM then
   te σ3 H4 λv H5=>H5 D=AK (.lst AR)/\AR.length<rS/\CNx n i Pv (AR ++ [v]) (upd H5 D (.lst (AR ++ [v])))else CNx n i Pv AR H4)
  (hd:∀AR H',Pv n AR H'->Q (.ref D) H'):CompK lo k n g tt te own ix σ H1 Q D:=by
 refine#[λi m AR H=>m=n - i/\i<=n/\Pv i AR H,#[n,by simp,aD _,h0],?_];rintro i m AR H' ⟨rfl,hi,p⟩;by_cases hlt:i<n
 ·refine .inr #[hlt,λx H2 y=>?_];obtain⟨e,y⟩:=y;subst e y;exact hs i AR _ hlt p
 ·have e:i=n:=by lia
  subst e;exact .inl #[al _,hd AR H' p]
end
end L3
namespace L3
open PySem.AutoSeq1 (wpAny_loadPart')
open MeetsSeq MeetsSeq2 MeetsSeq3 SeqRoads2 SeqAt
section
variable{X:Cx}{AO:List (rV × sI)}{σ:St}{H:Hp}{s:rX}
end
end L3
namespace L3
section
variable{prog:sf}{w:sj}{A:sk}{R:Ah->rX->Prop}{I:rV}{fp wr:List rV}{G:Array Ay->Array Ay->Prop}{n:Nat}{P:Nat->rW->Prop}{St:Nat->rX->Prop}
end
section
variable{prog:sf}{w:sj}{A:sk}{E:rW->rX->Prop}{s:rX}
end
end L3
namespace L3
section
variable{X:Cx}
end
end L3
namespace L3
section
variable{g:TG}{tt:TT}{te:TE}{own:Nat}{ix:List Nat}{σ:L2.St}{H1:Hp}{Q:VK}{D:rV}
end
end L3
namespace L3
theorem WH{α:Type}[DecidableEq α](k:α)(v:rW)(x:α):∀kvs:List (α × rW),(kvs.map λkv=>if kv.1=k then (kv.1,v)else kv).find? (λkv=>kv.1=x)=(kvs.find? λkv=>kv.1=x).map λkv=>if kv.1=k then (kv.1,v)else kv
 | []=>rfl
 | p::kvs=>by
  have e:(if p.1=k then (p.1,v)else p).1=p.1:=by split <;> rfl
  rw[ar,List.find?_cons,List.find?_cons,WH k v x kvs];simp only[e];by_cases h:p.1=x
  ·simp [h]
  ·simp [h]
theorem Vg{α:Type}[DecidableEq α](kvs:List (α × rW))(k:α)(v:rW)(x:α):valueAt (stored kvs k v) x=if x=k then AK v else valueAt kvs x:=by
 unfold stored valueAt;split
 ·rename_i h;rw[WH];by_cases e:x=k
  ·subst e;rw[if_pos rfl];obtain⟨p,hp,hk⟩:=Bl.mp h
   cases hf:kvs.find? λkv=>kv.1=x with
   | none =>
    have:=Bm.mp hf p hp;exact absurd hk this
   | some q =>
    have hq:=dC hf;have hq':q.1=x:=by simpa using hq
    simp [hq']
  ·rw[if_neg e]
   cases hf:kvs.find? λkv=>kv.1=x with
   | none=>rfl
   | some q =>
    have hq:=dC hf;have hq':q.1=x:=by simpa using hq
    have:¬ q.1=k:=λz=>e (hq'.symm.trans z);simp [this]
 ·rename_i h;rw[List.find?_append];by_cases e:x=k
  ·subst e;rw[if_pos rfl]
   have:kvs.find? (λkv=>kv.1=x)=AL:=by
    rw[dX];intro p hp hk;exact h (Bl.mpr #[p,hp,hk])
   rw[this];simp
  ·have e':¬ k=x:=λz=>e z.symm;rw[if_neg e];simp [e']
section
variable{X:Cx}{pos:sY}
end
end L3
namespace L3
noncomputable def jC(P:sf)(w:sj)(a:rV)(m:si->Option V)(n:Nat):HO:=.ext λh=>(a == sysModules)=AN/\∃kvs:List (si × rW),h.DictOf (cU P w) a kvs/\kvs.length<=n/\∀k,RelO (m k) (valueAt kvs k)
theorem UK{P:sf}{w:sj}{H:Hp}{h:sq}{a:rV}{m:si->Option V}{n:Nat}{kvs:List (si × rW)}(hs:(a == sysModules)=AN)(d:h.DictOf (cU P w) a kvs)(hl:kvs.length<=n)(r:∀k,RelO (m k) (valueAt kvs k)):ObjOk P w H h a (jC P w a m n) :=
 #[#[hs,kvs,d,hl,r],(let #[o,es,ep,ho,_]:=d; #[o,ho]),λh1 h2 ⟨hs,kvs,⟨o,es,ep,ho,rest⟩,z⟩ k=>#[hs,kvs,#[o,es,ep,k _ ho,rest],z]]
section
variable{X:Cx}{pos:sY}
theorem Inv.beyond{AO:List (rV × sI)}{σ:L2.St}{H:Hp}{s:rX}(I:Inv X AO σ H s):(s⁻¹ == sysModules)=AN:=by
 obtain⟨o,es,ep,e,_⟩:=I.ok.mod.glob;have h1:=aq e;have h2:=I.ok.bsz;have h3:=I.sz;have h4:1<=rQ:=by decide
 have h5:1<s⁻¹:=aw (cL h4 h1) (aN h2 h3);rw[beq_eq_false_iff_ne];intro z;exact ce h5 z
def zdG(P:sf)(w:sj):TE:=λ_ H Q=>∀p,H p=AL->Q (.ref p) (upd H p (jC P w p (λ_=>AL) 0))
theorem zbH:PE X (.Dict [] [] pos) (zdG X.prog X.w):=λAO s σ H Q I h =>
 wpAny_Dict_empty #[.ref s⁻¹,_,I.laid (a:=s⁻¹) (t':=s.toks) (λ_ _ q=>aa _ q) (al _) (UK (m:=λ_=>AL) (Inv.beyond I) (Heap.DictOf.new s.heap) (al _) λ_=>trivial),rfl,h _ (I.hok.fresh (al _))]
theorem Inv.tdic{AO:List (rV × sI)}{σ:L2.St}{H:Hp}{s:rX}{a:rV}{m:si->Option V}{n:Nat}(I:Inv X AO σ H s)(h:H a=AK (jC X.prog X.w a m n)):(a == sysModules)=AN/\∃kvs:List (si × rW),s.heap.DictOf (cU X.prog X.w) a kvs/\kvs.length<=n/\∀k,RelO (m k) (valueAt kvs k):=(I.hok _ _ h).1
def zeC(P:sf)(w:sj):R2:=λx y H Q=>∃a m n k v,x=.ref a/\y=.str k/\H a=AK (jC P w a m n)/\m k=AK v/\Q v H
theorem zbX:IxR X (zeC X.prog X.w):=by
 intro value slice AO s σ H x y v u Q I rx ry h hs;obtain⟨a,m,n,k,z,rfl,rfl,ha,hk,q⟩:=h;cases rx;obtain⟨t,rfl⟩:=ry;obtain⟨_,kvs,dd,hl,r⟩:=Inv.tdic I ha;obtain⟨w',hw,rw'⟩:=RelO.some_of (v:=z) (o:=valueAt kvs k) (by rw[<- hk];exact r k);exact tail_any dd.typeIs slot_dict_getitem.lookup (wpAny_getItem_of (knd:=cU X.prog X.w) (strKind_is _ _ _ _) dd.mapOf hw #[z,H,I.tok _,rw',q]) hs
def zcO(P:sf)(w:sj):V->V->V->Hp->(Hp->Prop)->Prop:=λo i v H Q=>∃a m n k,o=.ref a/\i=.str k/\H a=AK (jC P w a m n)/\n<=100000/\Q (upd H a (jC P w a (λx=>if x=k then AK v else m x) (n+1)))
theorem Kd:zfP X (zcO X.prog X.w):=by
 intro AO s σ H o i v ov iv u Q I ro ri rv h;obtain⟨a,m,n,k,rfl,rfl,ha,hn,q⟩:=h;cases ro;obtain⟨t,rfl⟩:=ri;obtain⟨hsm,kvs,dd,hl,r⟩:=Inv.tdic I ha;have s16:=zQ;refine wpAny_setItem_pairs (knd:=cU X.prog X.w) (hsz:=by lia) (strKind_is _ _ _ _) dd λh' dd' hs=>#[_,?_,q];have he:∃q,h'.get? a=AK q:=let #[q,_,_,hq,_]:=dd'; #[q,hq];refine I.write (x:=a) (e:=a) (by rw[ha];exact True.intro) (.inl rfl) (λb q hb z=>(hs.2 b hb).trans z) he (UK hsm dd' (aN (stored_length_le _ _ _) (by lia)) λx=>?_);rw[Vg];by_cases e:x=k
 ·rw[if_pos e,if_pos e];exact rv
 ·rw[if_neg e,if_neg e];exact r x
def zds(P:sf)(w:sj):R2:=λx y H Q=>∃a m n k,x=.str k/\y=.ref a/\H a=AK (jC P w a m n)/\Q (.bl (m k).isNone) H
theorem Kf:OpR X (su .NotIn) (zds X.prog X.w):=by
 intro AO s σ H x y v u Q I rx ry h;obtain⟨a,m,n,k,rfl,rfl,ha,q⟩:=h;obtain⟨t,rfl⟩:=rx;cases ry;obtain⟨hsm,kvs,dd,hl,r⟩:=Inv.tdic I ha;refine wpAny_notIn_of (knd:=cU X.prog X.w) (strKind_is _ _ _ _) hsm dd.mapOf ?_
 have e:(!(valueAt kvs k).isSome)=(m k).isNone:=by
  have:=r k
  cases hm:m k with
  | none =>
   cases hv:valueAt kvs k with
   | none=>rfl
   | some z=>rw[hm,hv]at this;exact this.elim
  | some z0 =>
   cases hv:valueAt kvs k with
   | none=>rw[hm,hv]at this;exact this.elim
   | some z=>rfl
 rw[e];exact#[.bl _,H,I.tok _,rfl,q]
end
end L3
namespace L3
section
variable{X:Cx}{scope:sP}{own caps:List si}{ix:List Nat}{elt tg iter:so}{ifs:List so}{pos:sY}{wi:TI}{g:TG}{tt:TT}{te:TE}
theorem uW{EX:XK}(hc:X.calm=AM)(S:j4 X scope own caps ix)
  (hg:∀cl C AO s3 H3 fp,PG (yu X scope cl C (own ++ caps) AO s3 H3 fp λ_ _=>False) tg g)
  (ht:∀cl C AO s3 H3 fp xe,XE (yu X scope cl C (own ++ caps) AO s3 H3 fp xe) EX->PTs (yu X scope cl C (own ++ caps) AO s3 H3 fp xe) ifs tt)
  (hst:X.stack=X.env::X.outer/\X.env.frame=AK X.env.locals) (hxe:XE X EX) (he:∀cl C AO s3 H3 fp xe,XE (yu X scope cl C (own ++ caps) AO s3 H3 fp xe) EX->PE (yu X scope cl C (own ++ caps) AO s3 H3 fp xe) elt te)
  {cl:List (si × rV)} (hc1:∀y c,cl.lookup y=AK c->X.env.cells.lookup y=AK c) (hc2:∀y,(y,NameKind.free) ∈ scope.names->∃c,cl.lookup y=AK c)
  {AO:List (rV × sI)} {σ:St} {H2:Hp} {s2:rX} {Q:VK} {it:rV} {fp:List rV} {tn:Nat->sq->Prop} {J:It} (I2:Inv X AO σ H2 s2) (T:Jf X.prog X.w X.K tg J fp it tn) (st2:tn 0 s2.heap) (f2:∀b ∈ fp,wg X AO H2 b)
  (q:∀D,H2 D=AL->∃W:Nat->Nat->List V->Hp->Prop,(∃m,W 0 m [] (upd H2 D (.lst []))) /\
   ∀i m AR H',W i m AR H'->(J.stop i H'/\Q (.ref D) H')\/(J.go i H'/\∀x H2,J.yld i H' x H2->g x (vt σ own.length ix) H2 λσ3 H3=>yW (vt σ own.length ix) σ3/\tt σ3 H3 λb H4=>if b=AM then
    te σ3 H4 λv H5=>H5 D=AK (.lst AR)/\AR.length<rS/\∃m',m'<m/\W (i+1) m' (AR ++ [v]) (upd H5 D (.lst (AR ++ [v])))
    else ∃m',m'<m/\W (i+1) m' AR H4))
  {RR:rW->rV->Ah->rX->Prop} {E:rW->rX->Prop}
  (hRR:∀D C m s' H',H2 D=AL->s'.heap.Ns C m->wg X AO H' C->Inv X AO σ H' s'->Q (.ref D) H'->RR (.ref D) C (.ok .next) s')
  (hRE:∀D C m s' x,s'.heap.Ns C m->(∀h',Heap.SameBut C s'.heap h'->∀cenv:Aa,cenv.locals=C->rZ (model X.prog X.w) X.A (fB "comprehension.variables-let-go" x cenv:AD rW) (λ_ _=>False) X.xe { s' with heap:=h' })->RR (.ref D) C (.error x) s') :
  rZ (model X.prog X.w) X.A (newList []) (λAR s3=>rZ (model X.prog X.w) X.A (newFunctionEnv scope X.env.globals cl [] X.env.qual AL .none (AK X.env)) (λcenv s4 =>
   tB (model X.prog X.w) X.A (.compStart (.ListComp elt [#[tg,iter,ifs,0]] scope pos) 0 (.ref it) AR { cenv with scope:=relabel scope X.env }) (RR AR cenv.locals) s4) E s3) E s2:=by
 have hD:H2 s2⁻¹=AL:=I2.hok.fresh (al _);obtain⟨W,⟨m0,w0⟩,turn⟩:=q _ hD;refine Ar (Ad S.nocell (by intro y hy;simp at hy) (λh1 hns1 hsb1=>?_) S.kind);dsimp only at hns1 hsb1 ⊢
 have I3:Inv X AO σ (upd H2 s2⁻¹ (.lst [])) { s2 with heap:=s2.heap.push { cls:=.type "list",dict:=AL,data:=.seq ([]:List rW).toArray } } :=
  I2.lnew (its:=[]) (t':=s2.toks) .nil (aD _)
 generalize hs3:({ s2 with heap:=s2.heap.push { cls:=.type "list",dict:=AL,data:=.seq ([]:List rW).toArray } }:rX)=s3 at I3;have e3:s2.heap.push { cls:=.type "list",dict:=AL,data:=.seq ([]:List rW).toArray }=s3.heap:=by rw[<- hs3]
 rw[e3]at hns1 hsb1 ⊢;have k1:∀b o,s3.heap.get? b=AK o->h1.get? b=AK o:=λb o e=>(hsb1.2 b (az (aq e))).trans (aa _ e);have k23:∀b o,s2.heap.get? b=AK o->s3.heap.get? b=AK o:=λb o e=>by rw[<- e3];exact aa _ e
 have hz:s3⁻¹=s2⁻¹+1:=by rw[<- e3,bQ]
 have fpObj:∀b ∈ fp,∃o,s2.heap.get? b=AK o:=λb hb=>let #[o,e,_]:=T.obj 0 _ st2 b hb; #[o,e];have fplt:∀b ∈ fp,b<s2⁻¹:=λb hb=>let #[o,e]:=fpObj b hb;aq e;have f3:∀b ∈ fp,wg X AO (upd H2 s2⁻¹ (.lst [])) b:=λb hb=>#[by rw[zm (az (fplt b hb))];exact (f2 b hb).1,(f2 b hb).2]
 have I4:Inv (yu X scope cl s3⁻¹ (own ++ caps) AO s3 (upd H2 s2⁻¹ (.lst [])) fp λ_ _=>False) [] (vt σ own.length ix) (upd H2 s2⁻¹ (.lst [])) { s3 with heap:=h1,toks:=s3.toks+([]:List (si × rW)).length } :=
  Vl S hc1 hc2 I3 f3 (λb hb=>by rw[hz];exact cP (fplt b hb)) hns1 k1
 have st4:tn 0 h1:=T.keep 0 _ _ st2 λb hb o e=>k1 b o (k23 b o e);generalize hs4:({ s3 with heap:=h1,toks:=s3.toks+([]:List (si × rW)).length }:rX)=s4 at I4;have es4:({ s2 with heap:=h1,toks:=s2.toks+([]:List (si × rW)).length }:rX)=s4:=by rw[<- hs4,<- hs3]
 have e4:h1=s4.heap:=by rw[<- hs4]
 have loop:tB (model X.prog X.w) X.A (.compLoop (.ListComp elt [#[tg,iter,ifs,0]] scope pos) 0 (.ref it) (.ref s2⁻¹) (compEnvC scope cl s3⁻¹ X.env)) (RR (.ref s2⁻¹) s3⁻¹) s4:=by
  let X':=yu X scope cl s3⁻¹ (own ++ caps) AO s3 (upd H2 s2⁻¹ (.lst [])) fp λ_ _=>False
  have fp':∀{H':Hp},(∀b ∈ fp,H' b=AL)->∀b ∈ fp,wg X' [] H' b:=λ{H'} hn b hb=>by
   obtain⟨_,a1,a2,a3,a4,a5⟩:=f3 b hb;refine#[hn b hb,az (show b<s3⁻¹ from by rw[hz];exact cP (fplt b hb)),λz=>?_,.inl hb,λx c e=>a4 x c (hc1 x c e),λp hp=>?_]
   ·rcases AV.mp (I3.stkSub b z)with e | e
    ·exact a1 e
    ·exact a2 e
   ·have:p ∈ (X.pn ++ AO) ++ []:=hp;rw[aT]at this;exact a5 p this
  refine VE (λn s'=>∃i AR H',Inv X' [] (vt σ own.length ix) H' s'/\tn i s'.heap/\(∀b ∈ fp,H' b=AL)/\W i n AR H') rfl ?_ m0 #[0,[],_,I4,by rw[<- e4];exact st4,λb hb=>(f3 b hb).1,w0];rintro n s5 ⟨i,AR,H5,I5,st5,fr5,w5⟩;refine sV ?_;rcases turn i n AR H5 w5 with ⟨stop,qn⟩ | ⟨go,step⟩
  ·refine thn (T.done X' rfl rfl rfl hc i [] s5 _ H5 _ I5 (fp' fr5) st5 stop) λr s6 ⟨hr,I6⟩=>?_;subst hr;obtain⟨m,hm,_⟩:=I6.loc;refine hRR _ _ m s6 H5 hD hm (I3.fpOk (al _) I6.free) (I3.call' (s':=s6) I6.os I6.base I6.hok I6.bare λb hb=>?_) qn;obtain⟨_,a1,a2,a3,a4,a5⟩:=f3 b hb;exact#[a3,a1,a4,a5]
  ·refine thn (T.item X' rfl rfl rfl hc i [] s5 _ H5 (λ_ _=>False) I5 (fp' fr5) st5 go) λr s6 ⟨u,hr,h6⟩=>?_;subst hr;refine sV (thn h6 λ_ s7 ⟨x,H7,I7,r7,y7,st7,fr7⟩=>?_);have I7':=I7.pinned (fp' fr7) (T.obj _ _ st7);refine sV (thn (hg _ _ _ _ _ _ _ s7 _ H7 x u _ I7' r7 (step x H7 y7)) λ_ s8 ⟨σ8,H8,I8,ks,q8⟩=>?_);refine thn (ht cl _ AO s3 (upd H2 s2⁻¹ (.lst [])) fp _ (λe s hfl=>Uj (RE:=λe s'=>RR (.ref s2⁻¹) s3⁻¹ (.error e) s') hst hxe hc1 I3 f3 hfl λm s' x a b=>hRE _ _ m s' x a b) _ s8 σ8 H8 _ (I8.wish _) q8) λb s9 ⟨H9,I9',q9⟩=>?_;have I9:=Inv.unwish (X:=X') I9'
   have back:∀{s':rX} {H':Hp} {acc':List V} {m':Nat},Inv X' ([] ++ ZQ fp s7.heap) σ8 H' s'->m'<n->W (i+1) m' acc' H'->∃m,m<n/\∃i AR H',Inv X' [] (vt σ own.length ix) H' s'/\tn i s'.heap/\(∀b ∈ fp,H' b=AL)/\W i m AR H':=λ{s' H' acc' m'} J' hm w'=>by
    refine#[m',hm,i+1,acc',H',(J'.unpinned).weak ks.1 ks.2,T.keep _ _ _ st7 λb hb o e=>(J'.pin (b,o) (aC _ (aC _ (vh hb e)))).1,λb hb=>?_,w'];obtain⟨o,e,d⟩:=T.obj _ _ st7 b hb;exact (J'.pin (b,o) (aC _ (aC _ (vh hb e)))).2.1
   cases b with
   | false =>
    rw[if_neg ay]at q9 ⊢;obtain⟨m',hm,w'⟩:=q9;exact back I9 hm w'
   | true =>
    rw[if_pos rfl]at q9 ⊢;refine thn (he cl _ AO s3 (upd H2 s2⁻¹ (.lst [])) fp _ (λe s hfl=>Uj (RE:=λe s'=>RR (.ref s2⁻¹) s3⁻¹ (.error e) s') hst hxe hc1 I3 f3 hfl λm s' x a b=>hRE _ _ m s' x a b) _ s9 σ8 H9 _ (I9.wish _) q9) λv s10 ⟨y,H10,I10',r10,hD10,hsz,m',hm,w'⟩=>?_;have I10:=Inv.unwish (X:=X') I10';refine sV ?_;have:=xf (X:=X') _ s10 σ8 H10 (.ref s2⁻¹) [y] (.ref s2⁻¹) [v] (λ_ H'=>H'=upd H10 s2⁻¹ (.lst (AR ++ [y]))) I10 rfl (.cons r10 .nil) #[AR,hD10,hsz,rfl];refine thn this λ_ s11 ⟨_,H11,I11,_,eH⟩=>?_;subst eH;exact back I11 hm w'
 have goal:tB (model X.prog X.w) X.A (.compStart (.ListComp elt [#[tg,iter,ifs,0]] scope pos) 0 (.ref it) (.ref s2⁻¹) (compEnvC scope cl s3⁻¹ X.env)) (RR (.ref s2⁻¹) s3⁻¹) s4 :=
  codeAny_compStart_list loop (T.self _ 0 s4 _ _ (by rw[<- e4];exact st4) loop)
 rw[<- es4]at goal;exact goal
theorem Yr{EX:XK}(hc:X.calm=AM)(S:j4 X scope own caps ix)(hst:X.stack=X.env::X.outer/\X.env.frame=AK X.env.locals)(hxe:XE X EX)(hi:PI X tg iter wi)
  (hg:∀cl C AO s3 H3 fp,PG (yu X scope cl C (own ++ caps) AO s3 H3 fp λ_ _=>False) tg g)
  (ht:∀cl C AO s3 H3 fp xe,XE (yu X scope cl C (own ++ caps) AO s3 H3 fp xe) EX->PTs (yu X scope cl C (own ++ caps) AO s3 H3 fp xe) ifs tt)
  (he:∀cl C AO s3 H3 fp xe,XE (yu X scope cl C (own ++ caps) AO s3 H3 fp xe) EX->PE (yu X scope cl C (own ++ caps) AO s3 H3 fp xe) elt te)
  (hs:∀x,foldedSetIterable iter X.env x=pure x:=by intro _;rfl) :
  PE X (.ListComp elt [#[tg,iter,ifs,0]] scope pos) (jU wi g tt te own.length ix):=by
 intro AO s σ H Q I h;obtain⟨cl,hclos,hc1,hc2⟩:=vL (scope:=scope) (env:=X.env) λy hy=>I.ok.has y (S.free y hy);rw[eval_ListComp];refine tS (use:=AL) rfl hs hclos S.kind S.names (thn (hi AO s σ H _ I h) λv s1 h1=>thn h1 λitv s2 h2=>?_);obtain⟨it,fp,tn,J,H2,e,I2,T,st2,f2,q⟩:=h2;subst e;refine uW (RR:=λAR C=>compPost (model X.prog X.w) X.A X.xe AL (EP X AO σ Q) AR C) hc S hg ht hst hxe he hc1 hc2 I2 T st2 f2 q ?_ ?_
 ·intro D C m s' H' _ hn fc I' qn;obtain⟨a0,a1,a2,a3,a4,a5⟩:=fc;exact#[m,hn,λh' sb=>#[.ref D,H',I'.turned (t':=s'.toks) (λb o hb e=>(sb.2 b hb).trans e) a0 a1 a3 a4 a5,rfl,qn]]
 ·intro D C m s' x hn hp;exact#[m,hn,hp]
end
end L3
namespace L3
section
variable{X:Cx}{scope:sP}{own caps:List si}{ix:List Nat}{elt tg iter:so}{ifs:List so}{pos:sY}{wi:TI}{g:TG}{tt:TT}{te:TE}
theorem xeN:XE X E0:=λe s h=>by
 obtain⟨_,_,_,_,_,_,_,_,_,_,_,_,_,_,h⟩:=h;exact h.elim
theorem zdy{e:so}{t:TE}(h:PE (X.wish λ_ _=>False) e t):PE X e t:=λAO s σ H Q I hq=>sV (thn (h AO s σ H Q (I.wish _) hq) λv s' ⟨x,H',I',r,q⟩=>#[x,H',I'.unwish,r,q])
theorem KS{t:TT}(h:PTs (X.wish λ_ _=>False) ifs t):PTs X ifs t:=λAO s σ H Q I hq=>sV (thn (h AO s σ H Q (I.wish _) hq) λv s' ⟨H',I',q⟩=>#[H',I'.unwish,q])
theorem wv(hc:X.calm=AM)(S:j4 X scope own caps ix)(hi:PI X tg iter wi)
  (hg:∀cl C AO s3 H3 fp,PG (yu X scope cl C (own ++ caps) AO s3 H3 fp λ_ _=>False) tg g)
  (ht:∀cl C AO s3 H3 fp,PTs (yu X scope cl C (own ++ caps) AO s3 H3 fp λ_ _=>False) ifs tt)
  (he:∀cl C AO s3 H3 fp,PE (yu X scope cl C (own ++ caps) AO s3 H3 fp λ_ _=>False) elt te)
  (hst:X.stack=X.env::X.outer/\X.env.frame=AK X.env.locals:=by exact#[rfl,rfl]) (hs:∀x,foldedSetIterable iter X.env x=pure x:=by intro _;rfl) :
  PE X (.ListComp elt [#[tg,iter,ifs,0]] scope pos) (jU wi g tt te own.length ix) :=
 Yr hc S hst xeN hi hg (λa b c d e f _ _=>KS (ht a b c d e f)) (λa b c d e f _ _=>zdy (he a b c d e f)) hs
theorem V6{i:Nat}{y:si}{py spos:sY}(hN:X.N.Nodup)(hy:X.N[i]? = AK y)(hly:Loc X.env.scope y)(hf:X.fn y=AM\/X.env.scope.names.lookup y=AK .local)(hc:X.calm=AM)(S:j4 X scope own caps ix)(hi:PI X tg iter wi)
  (hg:∀cl C AO s3 H3 fp,PG (yu X scope cl C (own ++ caps) AO s3 H3 fp λ_ _=>False) tg g)
  (ht:∀cl C AO s3 H3 fp,PTs (yu X scope cl C (own ++ caps) AO s3 H3 fp λ_ _=>False) ifs tt)
  (he:∀cl C AO s3 H3 fp,PE (yu X scope cl C (own ++ caps) AO s3 H3 fp λ_ _=>False) elt te)
  (hst:X.stack=X.env::X.outer/\X.env.frame=AK X.env.locals:=by exact#[rfl,rfl])
  (hsw:swapsWith (.ListComp elt [#[tg,iter,ifs,0]] scope pos) (AK (.Name y py)) spos.line X.env=pure AM:=by rfl)
  (hs:∀x,foldedSetIterable iter X.env x=pure x:=by intro _;rfl) :
  PS X (.Assign [.Name y py] (.ListComp elt [#[tg,iter,ifs,0]] scope pos) spos) (Zz i (jU wi g tt te own.length ix)):=by
 intro AO s σ H D I h;obtain⟨cl,hclos,hc1,hc2⟩:=vL (scope:=scope) (env:=X.env) λy hy=>I.ok.has y (S.free y hy);rw[exec_Assign_Name_used _ _ _ _ hsw];refine rO (sU (rO ?_));show rZ _ X.A (do let _ <- comprehension (.ListComp elt [#[tg,iter,ifs,0]] scope pos) scope X.env _ (newList []) AN (eval iter X.env) (AK (assign (.Name y py) X.env))) _ _ s;refine rO (thn (tS (use:=AK (assign (.Name y py) X.env)) (Q:=λ_ s'=>SP X AO D .next s') rfl hs hclos S.kind S.names (thn (hi AO s σ H _ I h) λv s1 h1=>thn h1 λitv s2 h2=>?_)) λ_ s' hq=>rP (rP hq));obtain⟨it,fp,tn,J,H2,e,I2,T,st2,f2,q⟩:=h2;subst e;refine uW (Q:=λx H1=>D.nx (σ.set i (AK x)) H1) (RR:=λAR C=>compPost (model X.prog X.w) X.A X.xe (AK (assign (.Name y py) X.env)) (λ_ s'=>SP X AO D .next s') AR C) hc S hg (λa b c d e f _ _=>KS (ht a b c d e f)) hst xeN (λa b c d e f _ _=>zdy (he a b c d e f)) hc1 hc2 I2 T st2 f2 q ?_ λD C m s' x hn hp=>#[m,hn,hp];intro D' C m s' H1 hD' hn fc I1 nx;obtain⟨a0,a1,a2,a3,a4,a5⟩:=fc;show rZ _ X.A (assign (.Name y py) X.env (.ref D')) _ _ s';refine As (Z1 I1 hN hy hly (v:=.ref D') rfl (λs'' I2' ⟨a,sb,ha⟩=>?_) hf)
 have hCa:C≠a:=by
  rcases ha with e | e
  ·rw[e];exact a1
  ·exact λz=>a4 _ _ e z.symm
 refine#[m,hn.sameBut sb hCa,λh' sb'=>#[_,H1,I2'.turned (t':=s''.toks) (λb o hb e=>(sb'.2 b hb).trans e) a0 a1 a3 a4 a5,nx]]
end
end L3
namespace L3
section
variable{X:Cx}{scope:sP}{own caps:List si}{ix:List Nat}{cl:List (si × rV)}{AO:List (rV × sI)}{σ:St}{H:Hp}{s:rX}{fp:List rV}{E:rW->rX->Prop}
end
section
variable{X:Cx}{scope:sP}{own caps:List si}{ix:List Nat}{elt tg iter:so}{ifs:List so}{pos:sY}{wi:TI}{g:TG}{tt:TT}{te:TE}
end
end L3
namespace L3
section
variable{X:Cx}
end
end L3
namespace L3
section
variable{X:Cx}{AO:List (rV × sI)}{σ:L2.St}{H:Hp}{s:rX}
end
end L3
namespace LL
open PySem L2 L3
noncomputable def top(i:Nat):sr:=PySem.Challenge.pw_letterlaw_k84_whole_walked_never_apart.main.body.getD i (.Pass #[0,0,0,0])
noncomputable abbrev yB:sr:=yq (top 5) 0
noncomputable abbrev zW:sr:=yq (top 6) 0
noncomputable abbrev yO:sr:=top 12
noncomputable abbrev wJ:sr:=top 13
noncomputable abbrev vF:sr:=top 14
noncomputable abbrev za5:sr:=top 15
noncomputable abbrev X2:sr:=top 17
noncomputable abbrev kE:sr:=top 18
noncomputable abbrev xG:sr:=top 21
noncomputable abbrev wB:sr:=top 22
noncomputable abbrev vw:sr:=top 23
noncomputable abbrev wc:sr:=yq (top 24) 0
noncomputable abbrev yz:sr:=yq (top 24) 1
noncomputable abbrev YK:sr:=top 26
noncomputable abbrev uz:sr:=top 27
noncomputable abbrev QV:sr:=top 28
noncomputable abbrev qY:sr:=top 29
noncomputable abbrev ZA:sr:=top 30
noncomputable abbrev xH:sr:=top 31
noncomputable abbrev um:sr:=top 37
noncomputable abbrev vc:sr:=top 38
noncomputable abbrev vJ:sr:=top 39
noncomputable abbrev qB:sr:=top 40
noncomputable abbrev yA:sr:=top 41
noncomputable abbrev xB:sr:=top 42
noncomputable abbrev xh:sr:=top 43
noncomputable abbrev wF:sr:=top 44
noncomputable abbrev ji:sr:=top 45
noncomputable abbrev yG:sr:=top 51
noncomputable abbrev xV:sr:=top 52
noncomputable abbrev yU:sr:=top 53
noncomputable abbrev xx:sr:=top 54
noncomputable abbrev ur:sr:=top 55
noncomputable abbrev wn:sr:=top 56
noncomputable abbrev vf:sr:=top 59
noncomputable abbrev wD:sr:=yq (top 60) 0
noncomputable abbrev wl:sr:=yq (top 60) 1
noncomputable abbrev vC:sr:=yq (top 60) 3
noncomputable abbrev xv:sr:=yq (top 60) 5
noncomputable abbrev xF:sr:=yq (top 60) 6
noncomputable abbrev x0:sr:=top 63
noncomputable abbrev xo:sr:=top 64
noncomputable abbrev ve:sr:=top 65
noncomputable abbrev wm:sr:=top 66
noncomputable abbrev wk:sr:=top 67
noncomputable abbrev wb:sr:=top 71
noncomputable abbrev yN:sr:=top 72
noncomputable abbrev yH:sr:=top 73
noncomputable abbrev kr:sr:=top 74
noncomputable abbrev wY:sr:=yq (top 77) 0
noncomputable abbrev xz:sr:=yq (top 77) 1
noncomputable abbrev wP:sr:=yq (top 77) 2
noncomputable abbrev xt:sr:=yq (top 77) 3
noncomputable abbrev xE:sr:=yq (top 77) 4
noncomputable abbrev y0:sr:=yq (top 78) 0
noncomputable abbrev yZ:sr:=yq (top 79) 0
noncomputable abbrev yl:sr:=yq (top 79) 1
noncomputable abbrev Q9:sr:=top 81
noncomputable abbrev Xo:sr:=top 82
noncomputable abbrev qT:sr:=top 83
noncomputable abbrev VM:sr:=top 84
noncomputable abbrev UN:sr:=top 85
noncomputable abbrev Uz:sr:=top 86
noncomputable abbrev YV:sr:=top 87
noncomputable abbrev Y3:sr:=top 88
noncomputable abbrev VH:sr:=top 89
noncomputable abbrev QL:sr:=top 90
noncomputable abbrev Y2:sr:=top 91
noncomputable abbrev zcd:sr:=top 92
noncomputable abbrev Xn:sr:=top 93
noncomputable abbrev Ya:sr:=top 94
noncomputable abbrev jZ:sr:=top 95
noncomputable abbrev kH:sr:=top 96
noncomputable abbrev jV:sr:=top 97
section
variable{P:sf}{w:sj}{K:rT}{mg:si->Option rW}{base:sq}
seal L2.PE L2.PS L2.PA L2.PT L2.PSs L2.PI L2.PG L2.PW L2.PGs
local macro_rules | `(tactic| rfl')=>do
 let A0←("ze0 zeI zeK zeQ zfy ze3 zeH zeO zeW zfc zbZ zaY zcl zbi zcB zaU zfu zeL zeU zfm zfr zb9 zcz zct za0 zba zbC zbs zch zb8 zeV zfE zeZ zfF zeR zfD zfb zfB zbn zbj zbd za1 zbL zaW zbf zb5".splitOn " ").toArray.mapM fun s=>`(Lean.Parser.Tactic.simpLemma| ↓$(Lean.mkIdent s.toName):ident)
 let A1←("zey Kh K0 zeu Ur tOp tUn tC u7 zL xT tCB zcN yD Ki zcJ zex tOr Jr ze1 Uo Z3 tIf rI rI0 rU rGe zcS qG zbg zcH zcY zd1 tSl kq Z4 Jg zc1 U8 zb7 zbc tBM zeB zbT zbe L2.start zeP cxK cxP cxW ar aL aI bT cr dN Nat.reduceAdd Nat.reduceSub cH dg aW aX bp bu vt eF eG".splitOn " ").toArray.mapM fun s=>`(Lean.Parser.Tactic.simpLemma| $(Lean.mkIdent s.toName):ident)
 let A2←("zdQ zan zay zaC zec zf5 ze0 zeI zeK zeQ zfy ze3 zeH zeO zeW zfc zbZ zaY zcl zbi zcB zaU zfu zeL zeU zfm zfr zb9 zcz zct za0 zba zbC zbs zch zb8 zeV zfE zeZ zfF zeR zfD zfb zfB zbn zbj zbd za1 zbL zaW zbf zb5".splitOn " ").toArray.mapM fun s=>`(Lean.Parser.Tactic.simpLemma| ↓$(Lean.mkIdent s.toName):ident)
 let A3←("zey zfO vt eF eG rU Zz K7 zdZ zdd Kh K0 zeu Ur tOp tUn Ud tC u7 zL xT tCB zcN yD Ki zcJ zex tOr Jr ze1 Uo Z3 tIf rI rI0 rEq_is rNe_is zcS qG zbg zcY zd1 zcH tSl kq Z4 zf4 zfX rGe zcQ decide_false decide_true Prod.mk.injEq rLen_is zdN zew X6 zdK YZ tyV tBM zeB if_true if_false bC decide_eq_true_eq decide_eq_false_iff_not d8 ft e9 lt1 Jg zc1 zbG jO zbS U8 zb7 zbc YQ Xd zfV tHs zaf zdg zdC zdz zdV zeh Value.ref.injEq L2.start zdF zc0 zfZ zf7 zgc zcT zgd zbT zbe zf6 zf3 UV zdO zcM zfJ kB U9 ZJ jh Xh z9 zeP zaa zdB cxK cxP cxW ar aL aI bT cr dN Nat.reduceAdd Nat.reduceSub and_assoc zdw exists_eq exists_eq' exists_eq_left' exists_eq_left exists_eq_right exists_eq_right' exists_and_left exists_and_right V.int.injEq V.ref.injEq V.str.injEq V.bl.injEq V.ty.injEq reduceCtorEq false_and and_false true_and and_true or_false false_or exists_false exists_const cH dg Option.some.injEq aW aX List.cons.injEq aT bp bu KR zaF zaB zas Q2".splitOn " ").toArray.mapM fun s=>`(Lean.Parser.Tactic.simpLemma| $(Lean.mkIdent s.toName):ident)
 `(tactic| first | (dsimp only[$A0,*,$A1,*];try simp only[$A2,*,$A3,*]) | simp only[$A2,*,$A3,*])
local macro_rules | `(tactic| ac_rfl)=>do
 let A0←("yc zt zH yf ye zu".splitOn " ").toArray.mapM fun s=>`(Lean.Parser.Tactic.simpLemma| $(Lean.mkIdent s.toName):ident)
 `(tactic| repeat (first | rfl' | simp only[$A0,*]))
theorem xe0{X:Cx}:XE X E0:=λe s h=>by
 obtain⟨_,_,_,_,_,_,_,_,_,_,_,_,_,_,h⟩:=h;exact h.elim
def small(l:List Nat):Prop:=∀c ∈ l,97<=c/\c<=122
noncomputable instance (l:List Nat):Decidable (small l):=by unfold small;infer_instance
noncomputable def uu(l:List Nat):Bool:=decide (1<=l.length/\l.length<=6/\small l/\l.Nodup)
def kY:Sp:=λvs H Q _=>∃c:Nat,vs=[.str (tx [c])]/\Q (.bl (decide (97<=c/\c<=122))) H
theorem Jl:zk ["sign"] ["sign"] (zh yO):=by nofun
theorem JG{f:rV}{fd:rY}(F:Fun K "is_small_letter" "is_small_letter" yO f fd):zP P w K mg base CX0 1 f fd ["sign"] kY:=by
 exists F.ok Jl
 ·obtain⟨c,rfl,q⟩:=h;refine#[_,(zf (zl (Jz xP xP zY (pv 0) zY))),?_];have ea:cs (("a" : si))=[97]:=rfl;have ez:cs (("z" : si))=[122]:=rfl
  rfl'
  simp only[ea,ez,Xh,lt1];refine yx (λh=>?_) λh=>?_
  ·have e:decide (97<=c/\c<=122)=!decide (122<c):=by
    by_cases h2:122<c
    ·rw[decide_eq_true h2,decide_eq_false (by lia)];rfl
    ·rw[decide_eq_false h2,decide_eq_true (by lia)];rfl
   rw[e]at q;exact q
  ·rw[decide_eq_false (by lia)]at q;exact q
structure zfT(K:rT)(mg:si->Option rW)(C:rV):Prop where
 xi:XI K C
 ini:ac K (.ref C) "__init__" = AK (AK (.builtin "ValueError.__init__"))
 g:mg "NoLetters" = AK (.ref C)
 most:∃t,mg "MOST_LETTERS" = AK (.int 6 t)
def wq(C:rV):Sp:=λvs H Q E=>∃l:List Nat,vs=[.str (tx l)]/\l.length<=1000/\(uu l=AM->Q (.str (tx l)) H)/\(uu l=AN->E (.ref C) AL H)
theorem ng:zk ["text","sign"] ["text"] (zh wJ):=by nofun
theorem kW{f C:rV}{fd:rY}(B:Bt mg)(T:zfT K mg C)(F:Fun K "letters_of" "letters_of" wJ f fd)(Ds:Df P w K mg base CX0 1 "is_small_letter" ["sign"] [] kY):zP P w K mg base (CXx P w) 2 f fd ["text"] (wq C):=by
 exists Fun.okX F ng,0
 ·obtain⟨l,rfl,hl,q1,q2⟩:=h;obtain⟨t6,g6⟩:=T.most
  refine#[_,(zG (zM (yv (v0 xP xP zg (zC B.len (pv 0)) (yn (v:=.int 6) rfl g6 #[t6,rfl])))
    (zf (z6 hx rfl T.xi.toXC T.ini rfl T.g (za zY zd)))
    zw)
   (zG (zX PassesOwn.leaving rfl (QE (pv 0)) (zx (i:=1) ng.nd rfl (.inl rfl))
    (zG (zM (yv (XA (cl0 Ds hr .nil rfl (za (pv 1) zd)) (λ_=>rfl)))
     (zf (z6 hx rfl T.xi.toXC T.ini rfl T.g (za zY zd)))
     zw)
    (zf (zM (zy Wj (uX cw eV eW QG (pv 0) (za (pv 1) zd)) zg (zB _))
     (zf (z6 hx rfl T.xi.toXC T.ini rfl T.g (za zY zd)))
     zw))))
   (zf (zl (pv 0))))),?_]
  have s16:=zQ
  rfl'
  have bad:(¬ (1<=l.length/\l.length<=6/\small l/\l.Nodup))->∀H':Hp,H'=H->E (.ref C) AL H':=λh H' e=>by
   rw[e];exact q2 (decide_eq_false h)
  refine#[by lia,yx (λc=>yx (λc2=>#[by lia,bad (λh=>by have:=h.2.1;lia) H rfl]) (λc2=>?_)) (λc=>#[by lia,bad (λh=>by have:=h.1;lia) H rfl])];refine ForS.by (λi σ H'=>H'=H/\∃v,σ=[AK (.str (tx l)),v]/\small (l.take i)/\∀c ∈ l.take i,l.count c<=1) #[rfl,AL,rfl,λc h=>absurd h (by simp),λc h=>absurd h (by simp)] ?_ ?_
  ·rintro i c σ H' hg ⟨eH,v,rfl,hs,hn⟩;have hc:=af hg
   rfl'
   simp only[kY]
   rfl'
   refine yx (λh=>#[by lia,bad (λz=>by have:=z.2.2.1 c hc;lia) _ eH]) (λh=>yx (λh2=>#[by lia,bad (λz=>?_) _ eH]) (λh2=>#[eH,?_,?_]))
   ·have:=Bn.mp z.2.2.2 c;lia
   ·rw[z7 hg];intro x hx;rcases AU.mp hx with q | q
    ·exact hs x q
    ·have:x=c:=by simpa using q
     subst this;lia
   ·rw[z7 hg];intro x hx;rcases AU.mp hx with q | q
    ·exact hn x q
    ·have:x=c:=by simpa using q
     subst this;lia
  ·rintro σ H' ⟨eH,v,rfl,hs,hn⟩;rw[aO]at hs hn
   rfl'
   rw[eH];refine q1 (decide_eq_true #[by lia,by lia,hs,Bn.mpr λc=>?_]);by_cases hc:c ∈ l
   ·exact hn c hc
   ·rw[List.count_eq_zero.mpr hc];lia
noncomputable def zq(l:List Nat)(k:Int)(p:List Nat):Bool:=decide (0<=k/\k+p.length<=l.length/\(l.drop k.toNat).take p.length=p)
def wN:Sp:=λvs H Q _=>∃(l p:List Nat) (k:Int),vs=[.str (tx l),.int k,.str (tx p)]/\l.length<=10000/\p.length<=10000/\Q (.bl (zq l k p)) H
theorem kG{l p:List Nat}{k:Int}{H:Hp}{Q:VK}{E:XK}(h1:l.length<=10000)(h2:p.length<=10000)(h:Q (.bl (zq l k p)) H):wN [.str (tx l),.int k,.str (tx p)] H Q E:=#[l,p,k,rfl,h1,h2,h]
theorem Z9:zk ["word","place","part"] ["word","place","part"] (zh vF):=by nofun
theorem Yn{f:rV}{fd:rY}(B:Bt mg)(F:Fun K "stands_at" "stands_at" vF f fd):zP P w K mg base CX0 1 f fd ["word","place","part"] wN:=by
 exists F.ok Z9
 ·obtain⟨l,p,k,rfl,hl,hp,q⟩:=h
  refine#[_,(zG (zM (yv (v0 xP xP zg (pv 1) (zA qA (zC B.len (pv 0)) (zC B.len (pv 2)))))
    (zf (zl xS))
    zw)
   (zf (zl (yX xM (ya ww (pv 0) (zV (pv 1)) (zV (zA yb (pv 1) (zC B.len (pv 2))))) (pv 2) (zB _))))),?_]
  have s16:=zQ
  rfl'
  have no:¬ (0<=k/\k+p.length<=l.length/\(l.drop k.toNat).take p.length=p)->Q (.bl AN) H:=λh=>by
   have e:zq l k p=AN:=decide_eq_false h;rw[e]at q;exact q
  refine yx (λh0=>#[by lia,by lia,yx (λh1=>no λh=>absurd h.2.1 (by lia)) λh1=>#[by lia,by lia,?_]]) λh0=>no λh=>h0 h.1;rw[Zr _ h0 (by lia) (by lia)];have e:(k+(p.length:Int) - k).toNat=p.length:=by lia
  rw[e]
  have e2:zq l k p=decide ((l.drop k.toNat).take p.length=p):=by
   unfold zq;exact decide_eq_decide.mpr #[λh=>h.2.2,λh=>#[h0,by lia,h]]
  rw[<- e2];exact q
noncomputable def yC(l:List Nat)(k:Int)(o n:List Nat):List Nat:=l.take k.toNat ++ n ++ l.drop (k.toNat+o.length)
theorem yP{l o:List Nat}{k:Int}(h:zq l k o=AM):l.take k.toNat ++ o ++ l.drop (k.toNat+o.length)=l/\(l.take k.toNat).length=k.toNat/\0<=k/\k+o.length<=l.length:=by
 unfold zq at h;rw[decide_eq_true_eq]at h;obtain⟨h0,h1,h2⟩:=h;refine#[?_,by rw[aG];lia,h0,h1]
 have e:l.drop k.toNat=o ++ l.drop (k.toNat+o.length):=by
  have:=bK o.length (l.drop k.toNat);rw[h2,dU]at this;exact this.symm
 rw[ao,<- e,bK]
theorem Wt{l o:List Nat}{k:Int}(n:List Nat)(h:zq l k o=AM):zq (yC l k o n) k n=AM/\yC (yC l k o n) k n o=l:=by
 obtain⟨e,hl,h0,h1⟩:=yP h
 have e1:(yC l k o n).take k.toNat=l.take k.toNat:=by
  unfold yC;rw[ao,aP (by lia),bj (by lia)]
 have e2:(yC l k o n).drop k.toNat=n ++ l.drop (k.toNat+o.length):=by
  unfold yC;rw[ao,bL (by lia),aV (by lia),bp]
 have e3:(yC l k o n).length=l.length - o.length+n.length:=by
  unfold yC;simp only[aj,bg,hl];lia
 refine#[?_,?_]
 ·unfold zq;refine decide_eq_true #[h0,by lia,?_];rw[e2,aP (by lia),bj (by lia)]
 ·show (yC l k o n).take k.toNat ++ o ++ (yC l k o n).drop (k.toNat+n.length)=l;rw[e1,<- dU,e2,bL (by lia),aV (by lia),bp];exact e
theorem zcp{l o n:List Nat}{k:Int}(h0:0<=k):cut l AL (AK k) ++ n ++ cut l (AK (k + ↑o.length)) AL=yC l k o n:=by
 rw[Z8 _ h0,qp _ (by lia)];have:(k+(o.length:Int)).toNat=k.toNat+o.length:=by lia
 rw[this];rfl
structure TNU(K:rT)(mg:si->Option rW)(C:rV):Prop where
 xi:XI K C
 g:mg "NoUse" = AK (.ref C)
 na:NoAttr K C "at"
theorem k9:zk ["self","at"] ["self","at"] (zh yB):=by nofun
theorem ZB{f C:rV}{fd:rY}(T:TNU K mg C)(F:Fun K "__init__" "NoUse.__init__" yB f fd):zP P w K mg base CX0 1 f fd ["self","at"] (vQ C "at"):=by
 exists F.ok k9
 ·obtain⟨x,v,rfl,hx,q⟩:=h;refine#[_,(zf (QQ (pv 0) (pv 1) rfl)),?_];simp only[zbt]
  rfl'
  exact#[C,hx,T.xi.toXC,T.na,q]
structure DNU(P:sf)(w:sj)(K:rT)(mg:si->Option rW)(base:sq)(C:rV):Prop extends TNU K mg C where
 ini:∃f fd,ac K (.ref C) "__init__" = AK (AK (.ref f))/\aR K (.ref f)=AM/\zP P w K mg base CX0 1 f fd ["self","at"] (vQ C "at")/\Binds K fd ["self","at"] []
def Xy(C:rV):Sp:=λvs H Q E=>∃(l o n:List Nat) (k:Int),vs=[.str (tx l),.int k,.str (tx o),.str (tx n)]/\l.length<=10000/\o.length<=10000/\n.length<=10000/\(zq l k o=AM->Q (.str (tx (yC l k o n))) H)/\(zq l k o=AN->∀d H',ze4 H d "at" (.int 0) H'->E (.ref C) (AK d) H')
theorem zea:zk ["word","place","old","new"] ["word","place","old","new"] (zh za5):=by nofun
theorem zdU{f C:rV}{fd:rY}(B:Bt mg)(T:DNU P w K mg base C)(F:Fun K "put" "put" za5 f fd)(pS:Df P w K mg base CX0 1 "stands_at" ["word","place","part"] [] wN):zP P w K mg base (CXx P w) 3 f fd ["word","place","old","new"] (Xy C):=by
 obtain⟨fi,fdi,hi,hfn,Fi,Bi⟩:=T.ini
 exists Fun.okX F zea,0
 ·obtain⟨l,o,n,k,rfl,hl,ho,hn,q1,q2⟩:=h
  refine#[_,(zG (zM (yv (XA (cl0 pS hr .nil rfl (za (pv 0) (za (pv 1) (za (pv 2) zd)))) (λ_=>rfl)))
    (zf (Z7 hx rfl T.xi.toXC hi hfn Fi hr Bi rfl T.g (za zg zd)))
    zw)
   (zf (zl (zA yt (zA yt (ya ww (pv 0) xy (zV (pv 1))) (pv 3)) (ya ww (pv 0) (zV (zA yb (pv 1) (zC B.len (pv 2)))) xy))))),?_]
  have s16:=zQ
  rfl'
  refine kG hl ho ?_
  rfl'
  refine yx (λhb=>#[by lia,V3 (q2 hb)]) λhb=>?_;have hb':zq l k o=AM:=by simpa using hb
  obtain⟨_,_,h0,h1⟩:=yP hb';have c1:=wV l AL (AK k);have c2:=wV l (AK (k + ↑o.length)) AL;refine#[by lia,by lia,by lia,by lia,?_,?_]
  ·simp only[aj];lia
  ·have e:cut l AL (AK k) ++ n ++ cut l (AK (k + ↑o.length)) AL=yC l k o n:=by
    rw[Z8 _ h0,qp _ (by lia)];have:(k+(o.length:Int)).toNat=k.toNat+o.length:=by lia
    rw[this];rfl
   rw[e];exact q1 hb'
structure TOrd(K:rT)(mg:si->Option rW)(CO CR CW:rV):Prop where
 cO:Cls K CO
 cR:Cls K CR
 cW:Cls K CW
 gO:mg "Order" = AK (.ref CO)
 gR:mg "FromRight" = AK (.ref CR)
 gW:mg "ByWeights" = AK (.ref CW)
 lO:NoAttr K CO "letters"
 lR:NoAttr K CR "letters"
 lW:NoAttr K CW "letters"
 wW:NoAttr K CW "weights"
def OrdAt(CO CR CW:rV)(H:Hp)(o:rV)(k:Nat)(l:List Nat)(ns:List Int):Prop:=∃dx,(k=0/\H o=AK (.ins CO dx [("letters",.str (tx l))]))\/(k=1/\H o=AK (.ins CR dx [("letters",.str (tx l))])) \/
 (k=2/\ns.length=l.length/\∃w,H o=AK (.ins CW dx [("letters",.str (tx l)),("weights",.ref w)])/\H w=AK (.tup (ns.map V.int)))
theorem OrdAt.same{CO CR CW:rV}{H H':Hp}{o:rV}{k:Nat}{l:List Nat}{ns:List Int}(h:OrdAt CO CR CW H o k l ns)(e:Same H H'):OrdAt CO CR CW H' o k l ns:=by
 obtain⟨dx,⟨h1,h2⟩ | ⟨h1,h2⟩ | ⟨h1,h2,w,h3,h4⟩⟩:=h
 ·exact#[dx,.inl #[h1,e _ _ h2]]
 ·exact#[dx,.inr (.inl #[h1,e _ _ h2])]
 ·exact#[dx,.inr (.inr #[h1,h2,w,e _ _ h3,e _ _ h4])]
noncomputable def Vy(l:List Nat)(ns:List Int)(w:List Nat):Int:=((l.zip ns).map λp=>(w.count p.1:Int) * p.2).sum
noncomputable def zr(k:Nat)(l:List Nat)(ns:List Int)(w:List Nat):Int:=if k=2 then Vy l ns w else (w.length:Int)
noncomputable def xn(k:Nat)(w:List Nat):List Nat:=if k=1 then w.reverse else w
def qv(K:rT):Sp:=λvs H Q _=>∃(x C dx:rV) (l:List Nat),vs=[.ref x,.str (tx l)]/\uu l=AM/\Cls K C/\NoAttr K C "letters"/\H x=AK (.ins C dx [])/\Q .non (upd H x (.ins C dx [("letters",.str (tx l))]))
theorem kA:zk ["self","letters"] ["self","letters"] (zh wY):=by nofun
theorem wf{f:rV}{fd:rY}(B:Bt mg)(F:Fun K "__init__" "Order.__init__" wY f fd)(md:Df P w K mg base (CXx P w) 2 "letters_of" ["text"] [] (wq C)):zP P w K mg base CX0 3 f fd ["self","letters"] (qv K):=by
 exists F.ok kA
 ·obtain⟨x,C,dx,l,rfl,hg,hC,hN,hx,q⟩:=h;refine#[_,(zf (kg (pv 0) (clP xe0 md hr .nil rfl (za (pv 1) zd)) rfl)),?_];have s16:=zQ
  rfl'
  exact#[l,rfl,by have:=of_decide_eq_true hg;lia,λ_=>#[_,_,_,hx,hC,hN,by decide,q],λe=>by rw[hg]at e;cases e]
def kC:Sp:=λvs H Q _=>∃(o:rV) (w:List Nat),vs=[.ref o,.str (tx w)]/\w.length<=1000/\Q (.int (w.length:Nat)) H
theorem qI:zk ["self","word"] ["self","word"] (zh xz):=by nofun
theorem wG{f:rV}{fd:rY}(B:Bt mg)(F:Fun K "weight" "Order.weight" xz f fd) : zP P w K mg base CX0 1 f fd ["self","word"] kC:=by
 exists F.ok qI
 ·obtain⟨o,w,rfl,hw,q⟩:=h;refine#[_,(zf (zl (zC B.len (pv 1)))),?_];have s16:=zQ
  rfl'
  exact#[by lia,q]
def WB:Sp:=λvs H Q _=>∃(o:rV) (w:List Nat),vs=[.ref o,.str (tx w)]/\Q (.str (tx w)) H
theorem Zh:zk ["self","word"] ["self","word"] (zh wP):=by nofun
theorem ud{f:rV}{fd:rY}(B:Bt mg)(F:Fun K "seen" "Order.seen" wP f fd) : zP P w K mg base CX0 1 f fd ["self","word"] WB:=by
 exists F.ok Zh
 ·obtain⟨o,w,rfl,q⟩:=h;refine#[_,(zf (zl (pv 1))),?_];have s16:=zQ
  rfl'
  exact q
def Xm:Sp:=λvs H Q _=>∃(o:rV) (w:List Nat),vs=[.ref o,.str (tx w)]/\w.length<=1000/\Q (.str (tx w.reverse)) H
theorem uJ:zk ["self","word"] ["self","word"] (zh y0):=by nofun
theorem uH{f:rV}{fd:rY}(B:Bt mg)(F:Fun K "seen" "FromRight.seen" y0 f fd) : zP P w K mg base CX0 1 f fd ["self","word"] Xm:=by
 exists F.ok uJ
 ·obtain⟨o,w,rfl,hw,q⟩:=h;refine#[_,(zf (zl (zcf (pv 1) (zeM zc6 zg)))),?_];have s16:=zQ;ac_rfl;exact#[by lia,q]
structure zf1(K:rT)(mg:si->Option rW)(C:rV):Prop where
 xi:XI K C
 ini:ac K (.ref C) "__init__" = AK (AK (.builtin "ValueError.__init__"))
 g:mg "NoOrder" = AK (.ref C)
 most:∃t,mg "MOST_WEIGHT" = AK (.int 1000000 t)
abbrev DOI(P:sf)(w:sj)(K:rT)(mg:si->Option rW)(base:sq)(CO:rV):Prop:=DC P w K mg base CX0 3 CO "__init__" ["self","letters"] (qv K)
def Zt(K:rT)(CW:rV):Sp:=λvs H Q _=>∃(x dx a:rV) (l:List Nat) (ns:List Int),vs=[.ref x,.str (tx l),.ref a]/\uu l=AM/\SqL K H a (ns.map V.int)/\ns.length=l.length/\(∀n ∈ ns,1<=n/\n<=1000000)/\H x=AK (.ins CW dx []) /\
 ∀w H',H w=AL->w≠x->(∀b o,b≠x->H b=AK o->H' b=AK o)->H' w=AK (.tup (ns.map V.int))->H' x=AK (.ins CW dx [("letters",.str (tx l)),("weights",.ref w)])->Q .non H'
theorem lX:zk ["self","letters","weights","weight"] ["self","letters","weights"] (zh yZ):=by nofun
theorem ut{f CO CR CW CN:rV}{fd:rY}(B:Bt mg)(T:TOrd K mg CO CR CW)(TN:zf1 K mg CN)(DI:DOI P w K mg base CO)(F:Fun K "__init__" "ByWeights.__init__" yZ f fd) : zP P w K mg base (CXx P w) 4 f fd ["self","letters","weights"] (Zt K CW):=by
 obtain⟨t6,g6⟩:=TN.most
 exists Fun.okX F lX,0
 ·obtain⟨x,dx,a,l,ns,rfl,hg,hS,hl,hb,hX,q⟩:=h
  refine#[_,(zi (xA (zcj DI hr rfl T.gO (za (pv 0) (za (pv 1) zd))))
   (zi (zM (zy Yy (zC B.len (pv 2)) (zC B.len (pv 1)) (zB _))
    (zf (z6 hx rfl TN.xi.toXC TN.ini rfl TN.g (za zY zd)))
    zw)
   (zi (zX PassesOwn.leaving rfl (yw (pv 2)) (zx (i:=3) lX.nd rfl (.inl rfl))
    (zf (zM (yv (v0 xP xP zg (pv 3) (yn (v:=.int 1000000) rfl g6 #[t6,rfl])))
     (zf (z6 hx rfl TN.xi.toXC TN.ini rfl TN.g (za zY zd)))
     zw)))
   (zf (kg (pv 0) (xl ZI rfl B.tuple PySem.Pv.boot_tuple (za (pv 2) zd)) rfl))))),?_]
  have s16:=zQ;have hbx:∀b o,b≠x->H b=AK o->upd H x (.ins CW dx [("letters",.str (tx l))]) b=AK o:=λb o hb e=>by rw[zm hb];exact e
  have hS1:SqL K (upd H x (.ins CW dx [("letters",.str (tx l))])) a (ns.map V.int):=by
   rcases hS with (h | ⟨o,h⟩) | h
   ·exact .inl (.inl (hbx _ _ (λe=>by rw[e,hX]at h;cases h) h))
   ·exact .inl (.inr #[o,hbx _ _ (λe=>by rw[e,hX]at h;cases h) h])
   ·exact .inr h
  refine zj (λσ H'=>H'=upd H x (.ins CW dx [("letters",.str (tx l))])/\σ=[AK (.ref x),AK (.str (tx l)),AK (.ref a),AL]) ?_ ?_
  ·ac_rfl;exact#[x,CW,dx,l,rfl,hg,T.cW,T.lW,hX,rfl]
  rintro σ H1 ⟨rfl,rfl⟩:_;right;refine zj (λσ H'=>H'=upd H x (.ins CW dx [("letters",.str (tx l))])/\σ=[AK (.ref x),AK (.str (tx l)),AK (.ref a),AL]) ?_ ?_
  ·have hl6:l.length<=6:=by have:=of_decide_eq_true hg;lia
   ac_rfl;refine#[ns.length,.inl #[_,hS1,by rw[ag]],by lia,yx (λh=>absurd (by lia) h) λ_=>trivial]
  rintro σ H1 ⟨rfl,rfl⟩:_;right;refine zj (λσ H'=>H'=upd H x (.ins CW dx [("letters",.str (tx l))])/\∃v3,σ=[AK (.ref x),AK (.str (tx l)),AK (.ref a),v3]) ?_ ?_
  ·ac_rfl;refine#[#[_,hS1],ForL.by (xs:=ns.map V.int) (λi σ H'=>H'=upd H x (.ins CW dx [("letters",.str (tx l))])/\∃v3,σ=[AK (.ref x),AK (.str (tx l)),AK (.ref a),v3]) #[rfl,AL,rfl] (λi σ H' _ h=>by rw[h.1];exact hS1) ?_ λσ H' h=>h];rintro i y σ H' hy ⟨rfl,v3,rfl⟩;rw[au]at hy;obtain⟨n,hn,rfl⟩:=AX.mp hy;obtain⟨n1,n2⟩:=hb n (af hn);ac_rfl;exact yx (λ_=>yx (λh=>absurd n2 h) λ_=>trivial) λh=>absurd n1 h
  rintro σ H1 ⟨rfl,v3,rfl⟩:_;right;ac_rfl;refine#[_,.inl #[hS1,λw hw=>?_]];have hwx:w≠x:=λe=>by rw[e,ze]at hw;cases hw
  have hwH:H w=AL:=by rw[zm hwx]at hw;exact hw
  have hX2:=zc (o:=.tup (ns.map V.int)) hw _ _ (ze (H:=H) (a:=x) (o:=.ins CW dx [("letters",.str (tx l))]));refine#[_,_,_,hX2,T.cW,T.wW,by show 1<1000;decide,q w _ hwH hwx (λb o hb' e=>?_) ?_ ze]
  ·rw[zm hb'];exact zc hw _ _ (hbx b o hb' e)
  ·rw[zm hwx];exact ze
theorem KY{x y:V}{r:L2.St}:yW (AL::AL::r) (AK x::AK y::r):=#[rfl,λi v h=>by
 cases i with
 | zero=>cases h
 | succ i =>
  cases i with
  | zero=>cases h
  | succ i=>exact h]
def Xp(CW:rV):Sp:=λvs H Q _=>∃(o dx t:rV) (w l:List Nat) (ns:List Int),vs=[.ref o,.str (tx w)]/\w.length<=1000/\l.length<=6/\ns.length=l.length/\(∀n ∈ ns,1<=n/\n<=1000000)/\H o=AK (.ins CW dx [("letters",.str (tx l)),("weights",.ref t)])/\H t=AK (.tup (ns.map V.int))/\∀H',Same H H'->Q (.int (Vy l ns w)) H'
theorem vH:zk ["self","word"] ["self","word"] (zh yl):=by nofun
theorem vE{f CO CR CW:rV}{fd:rY}(B:Bt mg)(T:TOrd K mg CO CR CW)(F:Fun K "weight" "ByWeights.weight" yl f fd) : zP P w K mg base CX0 1 f fd ["self","word"] (Xp CW):=by
 exists F.ok vH
 ·obtain⟨o,dx,t,w,l,ns,rfl,hw,hl,hn,hb,ho,ht,q⟩:=h;refine#[_,(zf (zl (we (zff rfl) rfl B.sum PyProof.Rows.boot_sum (za (wv (g:=zbG K 2 (jO (yD 0) (jO (yD 1) zbS))) (own:=["letter","weight"]) (caps:=["word"]) (ix:=[1]) (tt:=vG) (te:=(tOp JT (tBM K "str" X6 (yk 2) (zL (yk 0) xT)) (yk 1))) rfl (zZ (sc:=zh yl) rfl (by symm) (by symm) (by symm) rfl (by symm) (by symm) rfl) (zc7 rfl B.zip (za (vW (pv 0) rfl) (za (vW (pv 0) rfl) zd))) (λ_ _ _ _ _ _=>vU (n:=2) rfl (zO (zx (i:=0) (show List.Nodup [_,_,_] by decide) rfl (.inl rfl)) (zO (zx (i:=1) (show List.Nodup [_,_,_] by decide) rfl (.inl rfl)) wo))) (λ_ _ _ _ _ _=>yY) (λ_ _ _ _ _ _=>(zA Ze (uX cw eV eW QG (pv 2) (za (pv 0) zd)) (pv 1)))) zd)))),?_];have s16:=zQ;ac_rfl;refine#[_,_,_,ho,T.cW,T.lW,_,rfl,_,_,_,ho,T.cW,T.wW,_,rfl,l,rfl,t,rfl,#[_,SqT.of ht],λD hD=>CompZ.by (ys:=ns.map V.int) (λi AR H'=>Same H H'/\H' D=AK (.lst AR)/\AR=((((l.zip ns).map λp=>(w.count p.1:Int) * p.2).take i).map V.int)) (by rw[ag];lia) #[zc hD,ze,rfl] (λi AR H' _ h=>SqT.of (h.1 _ _ ht)) ?_ ?_]
  ·rintro i c y AR H' p hc hy ⟨hs,hH,rfl⟩ hp;have hi:=(AS.mp hc).1;rw[au]at hy;obtain⟨n,hn',rfl⟩:=AX.mp hy
   have hz:((l.zip ns).map λp=>(w.count p.1:Int) * p.2)[i]? = AK ((w.count c:Int) * n):=by
    rw[au,(List.getElem?_zip_eq_some (z:=(c,n))).mpr #[hc,hn']];rfl
   obtain⟨n1,n2⟩:=hb n (af hn');have hcl:w.count c<=w.length:=List.count_le_length;have hcn:(w.count c:Int) * n=(w.count c:Int) * n:=rfl;simp only[vG];ac_rfl;refine#[_,SqT.of ze,rfl,_,_,rfl,_,_,rfl,rfl,KY,_,rfl,_,rfl,?_,zc hp _ _ hH,by rw[ag,aG];lia,?_]
   ·exact .inr #[by lia,by lia]
   ·rw[YZ];refine CNx.mk hi #[zI (hs.trans (zc hp)) hD,ze,?_];rw[z7 hz,aA];rfl
  ·rintro AR H' ⟨hs,hH,rfl⟩;have e:l.length=((l.zip ns).map λp=>(w.count p.1:Int) * p.2).length:=by rw[ag,List.length_zip];lia
   refine#[D,rfl,_,SqL.of hH,?_];rw[e,aO];exact q _ hs
theorem ze7(l:List Nat)(c e:Nat):StrLaws.At (tx l) (tx [c]) (tx l).length e ↔ l[e]? = AK c:=by
 unfold StrLaws.At Builtin.Str.subAt;rw[z9,z9];have h1:[c].length=1:=rfl;rw[h1,beq_iff_eq]
 have e1:((tx l).cps.extract e (e+1)).toList=(l.drop e).take 1:=by
  show (l.toArray.extract e (e+1)).toList=_;simp [ef]
 have e2:((tx l).cps.extract e (e+1)=(tx [c]).cps) ↔ (l.drop e).take 1=[c]:=by
  constructor
  ·intro h;rw[<- e1,h]
  ·intro h;apply Array.toList_inj.mp;rw[e1,h]
 constructor
 ·rintro⟨h2,h3⟩;have:=e2.mp h3;rw[aS (by lia),dO,bS]at this;rw[ah (by lia)];injection this with h _;rw[h]
 ·intro h;obtain⟨he,hx⟩:=AS.mp h;refine#[by lia,e2.mpr ?_];rw[aS he,dO,bS,hx]
theorem zaK{l:List Nat}{c:Nat}(h:c ∈ l):Txt.find (tx l) (tx [c])=((l.idxOf c:Nat):Int):=by
 have hlt:=bD h;have hg:l[l.idxOf c]? = AK c:=by rw[ah hlt,dY]
 rcases PyProof.Rows.find_whole (tx l) (tx [c])with ⟨h1,h2⟩ | ⟨e,h1,h2,h3⟩
 ·exact absurd ((ze7 l c _).mpr hg) (h2 _)
 ·have he:=(ze7 l c e).mp h2
  have:e=l.idxOf c:=by
   rcases ee e (l.idxOf c)with q | q | q
   ·have:=List.not_of_lt_findIdx (p:=(· == c)) q;obtain⟨h4,h5⟩:=AS.mp he;simp [h5]at this
   ·exact q
   ·exact absurd ((ze7 l c _).mpr hg) (h3 _ q)
  rw[h1,this]
abbrev MkO(P:sf)(w:sj)(K:rT)(mg:si->Option rW)(base:sq)(C:rV):Prop:=DMk P w K mg base CX0 3 C ["self","letters"] (qv K)
abbrev MkW(P:sf)(w:sj)(K:rT)(mg:si->Option rW)(base:sq)(C:rV):Prop:=DMk P w K mg base (CXx P w) 4 C ["self","letters","weights"] (Zt K C)
abbrev MW(P:sf)(w:sj)(K:rT)(mg:si->Option rW)(base:sq)(C:rV)(m:si)(sp:Sp):Prop:=DM P w K mg base CX0 1 C m ["self","word"] sp
structure TWS(P:sf)(w:sj)(K:rT)(mg:si->Option rW)(base:sq)(CO CR CW:rV):Prop extends TOrd K mg CO CR CW where
 mO:MkO P w K mg base CO
 mR:MkO P w K mg base CR
 mW:MkW P w K mg base CW
 wO:MW P w K mg base CO "weight" kC
 wR:MW P w K mg base CR "weight" kC
 wW':MW P w K mg base CW "weight" (Xp CW)
 sO:MW P w K mg base CO "seen" WB
 sR:MW P w K mg base CR "seen" Xm
 sW:MW P w K mg base CW "seen" WB
structure OG(l:List Nat)(ns:List Int)(k:Nat):Prop where
 g:uu l=AM
 k3:k<3
 nl:ns.length=l.length
 nb:∀n ∈ ns,1<=n/\n<=1000000
noncomputable def jE(l:List Nat)(w:List Nat):List Int:=w.map λc=>((l.idxOf c:Nat):Int)
noncomputable def qL(k:Nat)(l:List Nat)(w:List Nat):List Int:=jE l (xn k w)
def zdn(CO CR CW:rV):rV->Prop:=λC=>C=CO\/C=CR\/C=CW
theorem OrdAt.fam{CO CR CW:rV}{H:Hp}{o:rV}{k:Nat}{l:List Nat}{ns:List Int}(h:OrdAt CO CR CW H o k l ns):∃C dx fs,zdn CO CR CW C/\H o=AK (.ins C dx fs)/\(∀m:si,m≠"letters"->m≠"weights"->fs.lookup m=AL)/\fs.lookup ("letters" : si)=AK (V.str (tx l)):=by
 have e1:∀m:si,m≠"letters"->(m ==("letters" : si))=AN:=λm hm=>by simpa using hm
 have e2:∀m:si,m≠"weights"->(m ==("weights" : si))=AN:=λm hm=>by simpa using hm
 obtain⟨dx,⟨h1,h2⟩ | ⟨h1,h2⟩ | ⟨h1,h2,w,h3,h4⟩⟩:=h
 ·exact#[_,_,_,.inl rfl,h2,λm hm _=>by simp [bf,e1 m hm],rfl]
 ·exact#[_,_,_,.inr (.inl rfl),h2,λm hm _=>by simp [bf,e1 m hm],rfl]
 ·exact#[_,_,_,.inr (.inr rfl),h3,λm hm hm2=>by simp [bf,e1 m hm,e2 m hm2],rfl]
def jy(CO CR CW:rV):Sp:=λvs H Q _=>∃(o:rV) (k:Nat) (l:List Nat) (ns:List Int) (w:List Nat),vs=[.ref o,.str (tx w)]/\OrdAt CO CR CW H o k l ns/\OG l ns k/\w.length<=1000/\(∀c ∈ w,c ∈ l)/\∀(p q:rV) (H':Hp),Same H H'->H' p=AK (.tup [.int (zr k l ns w),.ref q])->H' q=AK (.lst ((qL k l w).map V.int))->Q (.ref p) H'
theorem JV{H:Hp}{CO CR CW o D:rV}{k:Nat}{l:List Nat}{ns:List Int}{v:List Nat}{a1:Option V}{Q:VK}(T:TOrd K mg CO CR CW)(ho:OrdAt CO CR CW H o k l ns)(hl:v.length<=1000)(hm:∀c ∈ v,c ∈ l)(hD:H D=AL)(q:∀H',Same H H'->H' D=AK (.lst ((jE l v).map V.int))->Q (.ref D) H') :
  CompS (tx v) (yD 0) vG (tBM K "str" zu (zcM K (yk 1) "letters") (zL (yk 0) xT)) 1 [0] [AK (.ref o),a1] H Q D:=by
 have s16:=zQ;refine CompS.by (λi AR H'=>Same H H'/\H' D=AK (.lst AR)/\AR=(jE l (v.take i)).map V.int) #[zc hD,ze,rfl] ?_ ?_
 ·rintro i c AR H' hc ⟨hs,hH,rfl⟩;have hci:=(AS.mp hc).1;have hcl:=hm c (af hc);obtain⟨C,dx,fs,hf,ho',_,hlk⟩:=(ho.same hs).fam
  have hC:Cls K C/\NoAttr K C "letters":=by
   rcases hf with rfl | rfl | rfl
   ·exact#[T.cO,T.lO]
   ·exact#[T.cR,T.lR]
   ·exact#[T.cW,T.lW]
  simp only[vG];ac_rfl;refine#[wx,_,_,_,ho',hC.1,hC.2,_,hlk,trivial,_,rfl,_,zaK hcl,hH,by rw[ag];unfold jE;rw[ag,aG];lia,CNx.mk hci #[zI hs hD,ze,?_]];unfold jE;rw[z7 hc,aA,aA];rfl
 ·rintro AR H' ⟨hs,hH,rfl⟩;rw[aO]at hH;exact q H' hs hH
theorem Zo:zk ["self","word"] ["self","word"] (zh xt):=by nofun
theorem xZ{f CO CR CW:rV}{fd:rY}(B:Bt mg)(T:TWS P w K mg base CO CR CW)(F:Fun K "rank" "Order.rank" xt f fd) : zP P w K mg base CX0 2 f fd ["self","word"] (jy CO CR CW):=by
 exists F.ok Zo
 ·obtain⟨o,k,l,ns,w,rfl,ho,hG,hw,hm,q⟩:=h;refine#[_,(zf (zl (zR (za (zd7 T.wO T.wR T.wW' T.cO T.cR T.cW hr (pv 0) (za (pv 1) zd)) (za (wv (own:=["letter"]) (caps:=["self"]) (ix:=[0]) (tt:=vG) (te:=(tBM K "str" zu (zcM K (yk 1) "letters") (zL (yk 0) xT))) rfl (zZ (sc:=zh xt) rfl (by symm) (by symm) (by symm) rfl (by symm) (by symm) rfl) (QE (zd7 T.sO T.sR T.sW T.cO T.cR T.cW hr (pv 0) (za (pv 1) zd))) (λ_ _ _ _ _ _=>zx (i:=0) (show List.Nodup [_,_] by decide) rfl (.inl rfl)) (λ_ _ _ _ _ _=>yY) (λ_ _ _ _ _ _=>(uX cw eX eY UX (vW (pv 1) rfl) (za (pv 0) zd)))) zd))))),?_];have s16:=zQ
  have hsl:(xn k w).length<=1000:=by
   unfold xn;split
   ·rw[cF];exact hw
   ·exact hw
  have hsm:∀c ∈ xn k w,c ∈ l:=λc hc=>by
   unfold xn at hc;split at hc
   ·exact hm c (Ba.mp hc)
   ·exact hm c hc
  have l6:l.length<=6:=(of_decide_eq_true hG.g).2.1;have fin:∀H1,Same H H1->∀D,H1 D=AL->CompS (tx (xn k w)) (yD 0) vG (tBM K "str" zu (zcM K (yk 1) "letters") (zL (yk 0) xT)) 1 [0] [AK (.ref o),AK (.str (tx w))] H1 (λx5 H1=>2<=rS/\∀p,H1 p=AL->Q (.ref p) (upd H1 p (.tup [.int (zr k l ns w),x5]))) D:=λH1 s1 D hD=>JV T.toTOrd (ho.same s1) hsl hsm hD λH' s' hH=>#[by lia,λp hp=>q p D _ (s1.trans (s'.trans (zc hp))) ze (zc hp _ _ hH)];ac_rfl;obtain⟨dx',⟨h1,h2⟩ | ⟨h1,h2⟩ | ⟨h1,h2,t',h3,h4⟩⟩:=id ho
  ·have e1:zr k l ns w=(w.length:Int):=by unfold zr;rw[if_neg (by lia)]
   have e2:xn k w=w:=by unfold xn;rw[if_neg (by lia)]
   rw[e1,e2]at fin;exact .inl #[_,_,h2,rfl,o,w,rfl,hw,.inl #[_,_,h2,rfl,o,w,rfl,_,rfl,fin H (Same.refl _)]]
  ·have e1:zr k l ns w=(w.length:Int):=by unfold zr;rw[if_neg (by lia)]
   have e2:xn k w=w.reverse:=by unfold xn;rw[if_pos h1]
   rw[e1,e2]at fin;exact .inr (.inl #[_,_,h2,rfl,o,w,rfl,hw,.inr (.inl #[_,_,h2,rfl,o,w,rfl,hw,_,rfl,fin H (Same.refl _)])])
  ·have e1:zr k l ns w=Vy l ns w:=by unfold zr;rw[if_pos h1]
   have e2:xn k w=w:=by unfold xn;rw[if_neg (by lia)]
   rw[e1,e2]at fin;exact .inr (.inr #[_,_,h3,rfl,o,dx',t',w,l,ns,rfl,hw,l6,hG.nl,hG.nb,h3,h4,λH' s'=>.inr (.inr #[_,_,s' _ _ h3,rfl,o,w,rfl,_,rfl,fin H' s'])])
noncomputable def zK(k:Nat)(l:List Nat)(ns:List Int)(u v:List Nat):Bool:=if zr k l ns u=zr k l ns v then ltI (qL k l u) (qL k l v)else decide (zr k l ns u<zr k l ns v)
abbrev DR(P:sf)(w:sj)(K:rT)(mg:si->Option rW)(base:sq)(CO CR CW:rV):Prop:=DMF P w K mg base CX0 2 (zdn CO CR CW) "rank" ["self","word"] (λ_=>jy CO CR CW)
theorem Zc{H:Hp}{p q:rV}{z:Int}{ns:List Int}(hp:H p=AK (.tup [.int z,.ref q]))(hq:H q=AK (.lst (ns.map V.int))):Is K H (.tup [.int z,.lst (ns.map L3.D.int)]) (.ref p):=by
 simp only[Is,Iss];exact#[p,_,rfl,SqT.of hp,_,_,rfl,rfl,_,_,rfl,#[q,_,rfl,SqL.of hq,Iss.ints ns],rfl]
theorem xa:∀x:List Int,ltI x x=AN
 | []=>rfl
 | a::x=>by
  rw[ltI,if_pos rfl];exact xa x
theorem Qw(a b:Int)(x y:List Int):ltD (.tup [.int a,.lst (x.map L3.D.int)]) (.tup [.int b,.lst (y.map L3.D.int)])=if a=b then ltI x y else decide (a<b):=by
 simp only[ltD,ue,eqD,Yj,Yt];by_cases h:a=b
 ·subst h;by_cases h2:x=y
  ·subst h2;simp [xa]
  ·simp [h2]
 ·simp [h]
def QW(CO CR CW:rV):Sp:=λvs H Q _=>∃(o:rV) (k:Nat) (l:List Nat) (ns:List Int) (u v:List Nat),vs=[.ref o,.str (tx u),.str (tx v)]/\OrdAt CO CR CW H o k l ns/\OG l ns k/\u.length<=1000/\v.length<=1000/\(∀c ∈ u,c ∈ l)/\(∀c ∈ v,c ∈ l)/\∀H':Hp,Same H H'->Q (.bl (zK k l ns u v)) H'
theorem jo:zk ["self","one","other"] ["self","one","other"] (zh xE):=by nofun
theorem xm{f CO CR CW:rV}{fd:rY}(B:Bt mg)(DRk:DR P w K mg base CO CR CW)(F:Fun K "before" "Order.before" xE f fd) : zP P w K mg base CX0 3 f fd ["self","one","other"] (QW CO CR CW):=by
 exists F.ok jo
 ·obtain⟨o,k,l,ns,u,v,rfl,ho,hG,hu,hv,hmu,hmv,q⟩:=h;refine#[_,(zf (zl (yX (zdX (Xu hr)) (zcF DRk hr (pv 0) (za (pv 1) zd)) (zcF DRk hr (pv 0) (za (pv 2) zd)) (zB _)))),?_];have s16:=zQ;ac_rfl;obtain⟨C,dx,fs,hf,ho1,hn,_⟩:=ho.fam;have h1:fs.lookup ("rank" : si)=AL:=hn _ (by decide) (by decide);refine#[C,hf,dx,fs,ho1,h1,o,k,l,ns,u,rfl,ho,hG,hu,hmu,λp x H1 s1 hp hx=>#[C,hf,dx,fs,s1 _ _ ho1,h1,o,k,l,ns,v,rfl,ho.same s1,hG,hv,hmv,λp' x' H2 s2 hp' hx'=>?_]];refine zbI (Zc (s2 _ _ hp) (s2 _ _ hx)) (Zc hp' hx') (by simp only[dpD,qm,YS];decide) (by simp only[okD,ZC];exact#[trivial,qx _ _,trivial]) ?_;rw[Qw];exact q H2 (s1.trans s2)
abbrev DB(P:sf)(w:sj)(K:rT)(mg:si->Option rW)(base:sq)(CO CR CW:rV):Prop:=DMF P w K mg base CX0 3 (zdn CO CR CW) "before" ["self","one","other"] (λ_=>QW CO CR CW)
noncomputable def K9(k:Int)(ls:List Nat)(ns:List Int)(w:List Nat):Int:=(w.map λc=>if k=2 then ns.getD (ls.idxOf c) 0 else 1).sum
theorem J6{k:Int}{ls:List Nat}{ns:List Int}{w:List Nat}(h:k≠2):K9 k ls ns w=(w.length:Int):=by
 unfold K9
 induction w with
 | nil=>rfl
 | cons c w ih =>
  rw[ar,bh,ih,if_neg h,aI];lia
theorem qE{ls:List Nat}{ns:List Int}(f g:Nat->Int):((ls.zip ns).map λp=>(f p.1+g p.1) * p.2).sum=((ls.zip ns).map λp=>f p.1 * p.2).sum+((ls.zip ns).map λp=>g p.1 * p.2).sum:=by
 induction ls.zip ns with
 | nil=>rfl
 | cons p r ih =>
  rw[ar,ar,ar,bh,bh,bh,ih,Int.add_mul];lia
theorem QN:∀{ls:List Nat} {ns:List Int} {c:Nat},ls.Nodup->ns.length=ls.length->c ∈ ls->((ls.zip ns).map λp=>(if p.1=c then (1:Int)else 0) * p.2).sum=ns.getD (ls.idxOf c) 0
 | [],ns,c,_,_,hc=>(nomatch hc)
 | d::ls,[],c,_,hl,_=>by cases hl
 | d::ls,n::ns,c,hn,hl,hc=>by
  rw[df,ar,bh];have hnd:=Bd.mp hn;by_cases h:d=c
  ·subst h
   have h0:∀(l:List Nat) (m:List Int),d ∉ l->((l.zip m).map λp=>(if p.1=d then (1:Int)else 0) * p.2).sum=0:=by
    intro l
    induction l with
    | nil=>intro m _;rfl
    | cons x l ih =>
     intro m hx
     cases m with
     | nil=>rfl
     | cons y m =>
      rw[df,ar,bh,ih m (λq=>hx (am _ q)),if_neg (show ¬ x=d from λe=>hx (by rw[e];exact ax))];lia
   rw[h0 ls ns hnd.1,if_pos rfl,List.idxOf_cons_self];simp
  ·have hc':c ∈ ls:=by
    rcases AV.mp hc with e | e
    ·exact absurd e.symm h
    ·exact e
   rw[QN hnd.2 (by simpa using hl) hc',if_neg h,List.idxOf_cons,show (d == c)=AN by simpa using h];simp
theorem XX{ls:List Nat}{ns:List Int}(hn:ls.Nodup)(hl:ns.length=ls.length):∀{w:List Nat},(∀x ∈ w,x ∈ ls)->K9 2 ls ns w=Vy ls ns w
 | [],_=>by
  have h0:∀r:List (Nat × Int),(r.map λp=>((([]:List Nat).count p.1:Nat):Int) * p.2).sum=0:=by
   intro r
   induction r with
   | nil=>rfl
   | cons p r ih=>rw[ar,bh,ih];simp
  exact (h0 _).symm
 | c::w,h=>by
  have ih:=XX hn hl (w:=w) λx hx=>h x (am _ hx)
  have e1:K9 2 ls ns (c::w)=ns.getD (ls.idxOf c) 0+K9 2 ls ns w:=by
   unfold K9;rw[ar,bh,if_pos rfl]
  rw[e1,ih,<- QN hn hl (h c ax)];unfold Vy;rw[<- qE (λx=>if x=c then 1 else 0) (λx=>(w.count x:Int))];refine congrArg List.sum (cG λp _=>?_);rw[List.count_cons];by_cases e:c=p.1
  ·rw[if_pos e.symm,if_pos (by simpa using e)];simp [Int.add_comm]
  ·rw[if_neg (λz=>e z.symm),if_neg (by simpa using e)];simp
noncomputable def wt(k:Nat)(ns:List Int)(i:Int):Int:=if k=2 then ns.getD i.toNat 0 else 1
theorem xK{g:Int->Int}:∀{x:List Int},(∀i ∈ x,0<g i)->0<=(x.map g).sum
 | [],_=>by simp
 | a::x,h=>by
  have h1:=h a ax;have h2:=xK (x:=x) λi hi=>h i (am _ hi);rw[ar,bh];lia
theorem wC:∀{x y:List Int},x≠y->ltI x y=!ltI y x
 | [],[],h=>absurd rfl h
 | [],_::_,_=>rfl
 | _::_,[],_=>rfl
 | a::x,b::y,h=>by
  rw[ltI,ltI];by_cases e:a=b
  ·rw[if_pos e,if_pos e.symm];exact wC λq=>h (by rw[e,q])
  ·rw[if_neg e,if_neg λq=>e q.symm];by_cases c:a<b
   ·rw[decide_eq_true c,decide_eq_false (by lia)];rfl
   ·rw[decide_eq_false c,decide_eq_true (by lia)];rfl
theorem qz:∀{x y z:List Int},ltI x y=AM->ltI y z=AM->ltI x z=AM
 | [],[],_,h,_=>by cases h
 | [],_::_,[],_,h=>by cases h
 | [],_::_,_::_,_,_=>rfl
 | _::_,[],_,h,_=>by cases h
 | _::_,_::_,[],_,h=>by cases h
 | a::x,b::y,c::z,h1,h2=>by
  rw[ltI]at h1 h2 ⊢;by_cases e:a=b
  ·subst e;rw[if_pos rfl]at h1;by_cases f:a=c
   ·rw[if_pos f]at h2 ⊢;exact qz h1 h2
   ·rw[if_neg f]at h2 ⊢;exact h2
  ·rw[if_neg e]at h1;have h1':=of_decide_eq_true h1;by_cases f:b=c
   ·subst f;rw[if_neg e];exact h1
   ·rw[if_neg f]at h2;have h2':=of_decide_eq_true h2;rw[if_neg (by lia)];exact decide_eq_true (by lia)
theorem Xa:∀(c x y:List Int),ltI (c ++ x) (c ++ y)=ltI x y
 | [],_,_=>rfl
 | a::c,x,y=>by
  rw[bu,bu,ltI,if_pos rfl];exact Xa c x y
theorem Wa{g:Int->Int}{c:List Int}:∀{x y:List Int},(∀i ∈ x,0<g i)->(∀i ∈ y,0<g i)->(x.map g).sum=(y.map g).sum->ltI (x ++ c) (y ++ c)=ltI x y
 | [],[],_,_,_=>xa c
 | [],b::y,_,hy,h=>by
  have h1:=hy b ax;have h2:=xK (x:=y) λi hi=>hy i (am _ hi);rw[ar,bh,aL,List.sum_nil]at h;lia
 | a::x,[],hx,_,h=>by
  have h1:=hx a ax;have h2:=xK (x:=x) λi hi=>hx i (am _ hi);rw[ar,bh,aL,List.sum_nil]at h;lia
 | a::x,b::y,hx,hy,h=>by
  rw[bu,bu,ltI,ltI];by_cases e:a=b
  ·rw[if_pos e,if_pos e];rw[ar,bh,ar,bh,e]at h;exact Wa (λi hi=>hx i (am _ hi)) (λi hi=>hy i (am _ hi)) (by lia)
  ·rw[if_neg e,if_neg e]
section
variable{k:Nat}{l:List Nat}{ns:List Int}{t u v:List Nat}
theorem Kc(a b:List Nat):Vy l ns (a ++ b)=Vy l ns a+Vy l ns b:=by
 unfold Vy;rw[<- qE (λx=>(a.count x:Int)) (λx=>(b.count x:Int))];refine congrArg List.sum (cG λp _=>?_);rw[List.count_append];simp
theorem yM(a b:List Nat):zr k l ns (a ++ b)=zr k l ns a+zr k l ns b:=by
 unfold zr;by_cases h:k=2
 ·rw[if_pos h,if_pos h,if_pos h,Kc]
 ·rw[if_neg h,if_neg h,if_neg h,aj];lia
theorem xb(G:OG l ns k):∀{w:List Nat},(∀c ∈ w,c ∈ l)->zr k l ns w=((jE l w).map (wt k ns)).sum:=by
 intro w hm;have hn:l.Nodup:=(of_decide_eq_true G.g).2.2.2
 have e:((jE l w).map (wt k ns)).sum=K9 (k:Int) l ns w:=by
  unfold jE K9;rw[dA];refine congrArg List.sum (cG λc _=>?_);show wt k ns _=_;unfold wt;by_cases h:k=2
  ·rw[if_pos h,if_pos (by lia),aJ]
  ·rw[if_neg h,if_neg (by lia)]
 rw[e];unfold zr;by_cases h:k=2
 ·rw[if_pos h,h];exact (XX hn G.nl hm).symm
 ·rw[if_neg h,J6 (by lia)]
theorem Yo(G:OG l ns k)(hm:∀c ∈ u,c ∈ l):∀i ∈ jE l u,0<wt k ns i:=by
 intro i hi;obtain⟨c,hc,rfl⟩:=AT.mp hi;have hlt:=bD (hm c hc);have hl:=G.nl;unfold wt;split
 ·rw[aJ,ae,ah (by lia)];have:=(G.nb _ (List.getElem_mem (l:=ns) (n:=l.idxOf c) (by lia))).1;show 0<ns[l.idxOf c];lia
 ·decide
theorem xX(G:OG l ns k)(hm:∀c ∈ u,c ∈ l):0<=zr k l ns u:=by
 rw[xb G hm];exact xK (Yo G hm)
theorem uD(G:OG l ns k)(hm:∀c ∈ u,c ∈ l)(h:u≠[]):0<zr k l ns u:=by
 cases u with
 | nil=>exact absurd rfl h
 | cons a u =>
  have h1:=Yo G hm (l.idxOf a:Nat) (AT.mpr #[a,ax,rfl]);have h2:0<=((jE l u).map (wt k ns)).sum:=xK (Yo (u:=u) G λc hc=>hm c (am _ hc));rw[xb G hm];show 0<((((l.idxOf a:Nat):Int)::jE l u).map (wt k ns)).sum;rw[ar,bh];lia
theorem kD:∀{u v:List Nat},(∀c ∈ u,c ∈ l)->(∀c ∈ v,c ∈ l)->jE l u=jE l v->u=v
 | [],[],_,_,_=>rfl
 | [],_::_,_,_,h=>by cases h
 | _::_,[],_,_,h=>by cases h
 | a::u,b::v,hu,hv,h=>by
  unfold jE at h;rw[ar,ar]at h;injection h with h1 h2;have h3:l.idxOf a=l.idxOf b:=by lia
  have ha:=dY (bD (hu a ax));have hb:=dY (bD (hv b ax))
  have:a=b:=by
   rw[<- ha,<- hb];simp only[h3]
  rw[this,kD (λc hc=>hu c (am _ hc)) (λc hc=>hv c (am _ hc)) h2]
theorem yR:zK k l ns u u=AN:=by
 unfold zK;rw[if_pos rfl,xa]
theorem X9(hu:∀c ∈ u,c ∈ l)(hv:∀c ∈ v,c ∈ l)(h:qL k l u=qL k l v):u=v:=by
 unfold qL xn at h;by_cases e:k=1
 ·rw[if_pos e,if_pos e]at h;exact List.reverse_inj.mp (kD (λc hc=>hu c (Ba.mp hc)) (λc hc=>hv c (Ba.mp hc)) h)
 ·rw[if_neg e,if_neg e]at h;exact kD hu hv h
theorem jq(hu:∀c ∈ u,c ∈ l)(hv:∀c ∈ v,c ∈ l)(h:u≠v):zK k l ns u v=!zK k l ns v u:=by
 unfold zK;by_cases e:zr k l ns u=zr k l ns v
 ·rw[if_pos e,if_pos e.symm];exact wC λq=>h (X9 hu hv q)
 ·rw[if_neg e,if_neg λq=>e q.symm];by_cases c:zr k l ns u<zr k l ns v
  ·rw[decide_eq_true c,decide_eq_false (by lia)];rfl
  ·rw[decide_eq_false c,decide_eq_true (by lia)];rfl
theorem wu(h1:zK k l ns t u=AM)(h2:zK k l ns u v=AM):zK k l ns t v=AM:=by
 unfold zK at h1 h2 ⊢;generalize zr k l ns t=a at *;generalize zr k l ns u=b at *;generalize zr k l ns v=c at *;by_cases e:a=b
 ·subst e;rw[if_pos rfl]at h1;by_cases f:a=c
  ·rw[if_pos f]at h2 ⊢;exact qz h1 h2
  ·rw[if_neg f]at h2 ⊢;exact h2
 ·rw[if_neg e]at h1;have h1':=of_decide_eq_true h1;by_cases f:b=c
  ·subst f;rw[if_neg e];exact h1
  ·rw[if_neg f]at h2;have h2':=of_decide_eq_true h2;rw[if_neg (by lia)];exact decide_eq_true (by lia)
theorem Wv(a b:List Nat):jE l (a ++ b)=jE l a ++ jE l b:=aA
theorem ZO(G:OG l ns k)(hu:∀c ∈ u,c ∈ l)(hv:∀c ∈ v,c ∈ l)(e:zr k l ns u=zr k l ns v)(c:List Int):ltI (jE l u ++ c) (jE l v ++ c)=ltI (jE l u) (jE l v):=by
 rw[xb G hu,xb G hv]at e;exact Wa (Yo G hu) (Yo G hv) e
theorem j6(G:OG l ns k)(hu:∀c ∈ u,c ∈ l):zr k l ns u.reverse=zr k l ns u:=by
 rw[xb G hu,xb G λc hc=>hu c (Ba.mp hc)];unfold jE;rw[eI,eI,List.sum_reverse]
theorem vS(G:OG l ns k)(ht:∀c ∈ t,c ∈ l)(hu:∀c ∈ u,c ∈ l)(hv:∀c ∈ v,c ∈ l):zK k l ns (t ++ u) (t ++ v)=zK k l ns u v/\zK k l ns (u ++ t) (v ++ t)=zK k l ns u v:=by
 have hur:∀c ∈ u.reverse,c ∈ l:=λc hc=>hu c (Ba.mp hc);have hvr:∀c ∈ v.reverse,c ∈ l:=λc hc=>hv c (Ba.mp hc);unfold zK;rw[yM,yM,yM,yM];by_cases e:zr k l ns u=zr k l ns v
 ·rw[if_pos (by lia),if_pos e,if_pos (by lia)];unfold qL xn;by_cases f:k=1
  ·simp only[if_pos f,List.reverse_append,Wv];exact#[ZO G hur hvr (by rw[j6 G hu,j6 G hv,e]) _,Xa _ _ _]
  ·simp only[if_neg f,Wv];exact#[Xa _ _ _,ZO G hu hv e _]
 ·rw[if_neg (by lia),if_neg e,if_neg (by lia)];exact#[by congr 1;exact propext (by lia),by congr 1;exact propext (by lia)]
theorem KB(G:OG l ns k)(ht:∀c ∈ t,c ∈ l)(hu:∀c ∈ u,c ∈ l)(hv:∀c ∈ v,c ∈ l)(h:t ++ u ++ v≠u):zK k l ns u (t ++ u ++ v)=AM/\zK k l ns (t ++ u ++ v) u=AN:=by
 have h0:0<zr k l ns t+zr k l ns v:=by
  have h1:=xX G ht;have h2:=xX G hv;by_cases e:t=[]
  ·by_cases f:v=[]
   ·subst e f;simp at h
   ·have:=uD G hv f;lia
  ·have:=uD G ht e;lia
 unfold zK;rw[yM,yM,if_neg (by lia),if_neg (by lia)];exact#[decide_eq_true (by lia),decide_eq_false (by lia)]
end
theorem YB:∀x y:List Int,ltI x y=AM->ltI y x=AN
 | [],[],h=>by cases h
 | [],_::_,_=>rfl
 | _::_,[],h=>by cases h
 | a::x,b::y,h=>by
  rw[ltI]at h ⊢;by_cases e:a=b
  ·rw[if_pos e]at h;rw[if_pos e.symm];exact YB x y h
  ·rw[if_neg e]at h;rw[if_neg (λq=>e q.symm)];have:=of_decide_eq_true h;exact decide_eq_false (by lia)
theorem Xf{k:Nat}{l:List Nat}{ns:List Int}{u v:List Nat}(h:zK k l ns u v=AM):zK k l ns v u=AN:=by
 unfold zK at h ⊢;by_cases e:zr k l ns u=zr k l ns v
 ·rw[if_pos e]at h;rw[if_pos e.symm];exact YB _ _ h
 ·rw[if_neg e]at h;rw[if_neg (λq=>e q.symm)];have:=of_decide_eq_true h;exact decide_eq_false (by lia)
noncomputable def stJ(l:List Nat)(ps:List zp)(q j:Nat):Bool:=((ps[j]?).map λp=>zq l (q:Int) p.1).getD AN
theorem jp{l:List Nat}{ps:List zp}{q j:Nat}{p:zp}(h:ps[j]? = AK p):stJ l ps q j=zq l (q:Int) p.1:=by
 unfold stJ;rw[h];rfl
theorem wM{l:List Nat}{ps:List zp}{q j:Nat}(h:stJ l ps q j=AM):j<ps.length/\∃p,ps[j]? = AK p/\zq l (q:Int) p.1=AM:=by
 unfold stJ at h
 cases e:ps[j]? with
 | none=>rw[e]at h;cases h
 | some p =>
  rw[e]at h;exact#[(AS.mp e).1,p,rfl,h]
noncomputable def jB(l:List Nat)(ps:List zp)(q i:Nat):List (Nat × Nat):=((aK i).filter (stJ l ps q)).map λj=>(j,q)
noncomputable def xj(l:List Nat)(ps:List zp)(k:Nat):List (Nat × Nat):=(aK k).flatMap λq=>jB l ps q ps.length
theorem WZ(l:List Nat)(ps:List zp)(q i:Nat):jB l ps q (i+1)=jB l ps q i ++ (if stJ l ps q i=AM then [(i,q)]else []):=by
 unfold jB;rw[cB,cM,aA];congr 1;by_cases h:stJ l ps q i=AM
 ·rw[if_pos h,eN h];rfl
 ·rw[if_neg h,eO h];rfl
theorem kj(l:List Nat)(ps:List zp)(k:Nat):xj l ps (k+1)=xj l ps k ++ jB l ps k ps.length:=by
 unfold xj;rw[cB,cX];simp
theorem VD(l:List Nat)(ps:List zp)(q i:Nat):(jB l ps q i).length<=i:=by
 unfold jB;rw[ag];have:=cQ (stJ l ps q) (aK i);rw[cq]at this;exact this
theorem Ul(l:List Nat)(ps:List zp):∀k,(xj l ps k).length<=k * ps.length
 | 0=>by simp [xj]
 | k+1=>by
  rw[kj,aj,et];have:=Ul l ps k;have:=VD l ps k ps.length;lia
theorem usesN_mem{l:List Nat}{ps:List zp}{q i:Nat}{u:Nat × Nat}:u ∈ jB l ps q i ↔ u.2=q/\u.1<i/\stJ l ps q u.1=AM:=by
 unfold jB;rw[List.mem_map];constructor
 ·rintro⟨j,hj,rfl⟩;rw[List.mem_filter,fg]at hj;exact#[rfl,hj.1,hj.2]
 ·rintro⟨h1,h2,h3⟩;exact#[u.1,AY.mpr #[AZ.mpr h2,h3],by rw[<- h1]]
theorem usesK_mem{l:List Nat}{ps:List zp}{k:Nat}{u:Nat × Nat}:u ∈ xj l ps k ↔ u.2<k/\stJ l ps u.2 u.1=AM:=by
 unfold xj;rw[List.mem_flatMap];constructor
 ·rintro⟨q,hq,hu⟩;obtain⟨h1,h2,h3⟩:=usesN_mem.mp hu;rw[fg]at hq;rw[h1];exact#[hq,h3]
 ·rintro⟨h1,h2⟩;exact#[u.2,AZ.mpr h1,usesN_mem.mpr #[rfl,(wM h2).1,h2]]
def uLt(a b:Nat × Nat):Prop:=a.2<b.2\/(a.2=b.2/\a.1<b.1)
theorem uP(l:List Nat)(ps:List zp)(q:Nat):∀i,(jB l ps q i).Pairwise uLt
 | 0=>by simp [jB]
 | i+1=>by
  rw[WZ];refine Bo.mpr #[uP l ps q i,?_,λa ha b hb=>?_]
  ·split
   ·exact eM _ _
   ·exact List.Pairwise.nil
  ·obtain⟨h1,h2,_⟩:=usesN_mem.mp ha;split at hb
   ·rw[AW.mp hb];exact .inr #[h1,h2]
   ·cases hb
theorem wT(l:List Nat)(ps:List zp):∀k,(xj l ps k).Pairwise uLt
 | 0=>by simp [xj]
 | k+1=>by
  rw[kj];refine Bo.mpr #[wT l ps k,uP l ps k _,λa ha b hb=>?_];have h1:=(usesK_mem.mp ha).1;have h2:=(usesN_mem.mp hb).1;exact .inl (by lia)
def FirstN(l:List Nat)(ps:List zp)(lo hi n:Nat)(r:Option (Nat × Nat)):Prop :=
 (r=AL/\∀j q,j<n->lo<=q->q<hi->stJ l ps q j=AN) \/
 ∃n0 q0,r=AK (n0,q0)/\n0<n/\lo<=q0/\q0<hi/\stJ l ps q0 n0=AM/\∀j q,j<n->lo<=q->stJ l ps q j=AM->q0<q\/(q0=q/\n0<=j)
theorem FirstN.uniq{l:List Nat}{ps:List zp}{lo hi n:Nat}{r r':Option (Nat × Nat)}(h:FirstN l ps lo hi n r)(h':FirstN l ps lo hi n r'):r=r':=by
 rcases h with ⟨rfl,h⟩ | ⟨n0,q0,rfl,a1,a2,a3,a4,a5⟩
 ·rcases h' with ⟨rfl,_⟩ | ⟨n0,q0,rfl,a1,a2,a3,a4,a5⟩
  ·rfl
  ·rw[h n0 q0 a1 a2 a3]at a4;cases a4
 ·rcases h' with ⟨rfl,h⟩ | ⟨n1,q1,rfl,b1,b2,b3,b4,b5⟩
  ·rw[h n0 q0 a1 a2 a3]at a4;cases a4
  ·have x1:=a5 n1 q1 b1 b2 b4;have x2:=b5 n0 q0 a1 a2 a4;have e1:q0=q1:=by lia
   have e2:n0=n1:=by lia
   rw[e1,e2]
theorem Vo{l:List Nat}{ps:List zp}{r:Option (Nat × Nat)}(h:FirstN l ps 0 l.length ps.length r):r=(xj l ps l.length).head?:=by
 have hs:=wT l ps l.length;refine h.uniq ?_
 cases e:xj l ps l.length with
 | nil =>
  refine .inl #[rfl,λj q _ _ hq=>?_]
  cases hb:stJ l ps q j with
  | false=>rfl
  | true =>
   have:(j,q) ∈ xj l ps l.length:=usesK_mem.mpr #[hq,hb];rw[e]at this;cases this
 | cons u us =>
  rw[e]at hs;have hu:u ∈ xj l ps l.length:=by rw[e];exact ax
  obtain⟨h1,h2⟩:=usesK_mem.mp hu;refine .inr #[u.1,u.2,rfl,(wM h2).1,aD _,h1,h2,λj q hj _ hb=>?_];by_cases hq:q<l.length
  ·have:(j,q) ∈ xj l ps l.length:=usesK_mem.mpr #[hq,hb];rw[e]at this;rcases AV.mp this with e2 | e2
   ·rw[<- e2];exact .inr #[rfl,al _]
   ·rcases (Bp.mp hs).1 _ e2 with h | ⟨h,h'⟩
    ·exact .inl h
    ·exact .inr #[h,dc h']
  ·exact .inl (by lia)
theorem uh{l p:List Nat}{q:Nat}(hp:p≠[])(h:zq l (q:Int) p=AM):q<l.length:=by
 obtain⟨h0,h1,_⟩:=of_decide_eq_true h;have:0<p.length:=Bg.mpr hp;lia
theorem FirstN.keep{l:List Nat}{ps:List zp}{lo hi n:Nat}{r:Option (Nat × Nat)}{p:zp}(h:FirstN l ps lo hi n r)(hp:ps[n]? = AK p)(hn:∀q:Nat,lo<=q->q<(r.map Prod.snd).getD hi->zq l (q:Int) p.1=AN):FirstN l ps lo hi (n+1) r:=by
 rcases h with ⟨rfl,h⟩ | ⟨n0,q0,rfl,a1,a2,a3,a4,a5⟩
 ·refine .inl #[rfl,λj q hj h1 h2=>?_];by_cases e:j<n
  ·exact h j q e h1 h2
  ·have:j=n:=by lia
   subst this;rw[jp hp];exact hn q h1 h2
 ·refine .inr #[n0,q0,rfl,by lia,a2,a3,a4,λj q hj h1 h2=>?_];by_cases e:j<n
  ·exact a5 j q e h1 h2
  ·have:j=n:=by lia
   subst this;rw[jp hp]at h2;by_cases hq:q<q0
   ·rw[hn q h1 hq]at h2;cases h2
   ·lia
theorem FirstN.take{l:List Nat}{ps:List zp}{lo hi n k:Nat}{r:Option (Nat × Nat)}{p:zp}(h:FirstN l ps lo hi n r)(hp:ps[n]? = AK p)(h1:lo<=k)(h2:k<(r.map Prod.snd).getD hi)(h3:zq l (k:Int) p.1=AM)(hn:∀q:Nat,lo<=q->q<k->zq l (q:Int) p.1=AN):FirstN l ps lo hi (n+1) (AK (n,k)):=by
 have hk:k<hi/\∀j q,j<n->lo<=q->stJ l ps q j=AM->k<q:=by
  rcases h with ⟨rfl,h⟩ | ⟨n0,q0,rfl,a1,a2,a3,a4,a5⟩
  ·refine#[h2,λj q hj hl hb=>?_];by_cases hq:q<hi
   ·rw[h j q hj hl hq]at hb;cases hb
   ·have h2':k<hi:=h2;lia
  ·have h2':k<q0:=h2;refine#[by lia,λj q hj hl hb=>?_];have:=a5 j q hj hl hb;lia
 refine .inr #[n,k,rfl,by lia,h1,hk.1,by rw[jp hp];exact h3,λj q hj hl hb=>?_];by_cases e:j<n
 ·exact .inl (hk.2 j q e hl hb)
 ·have:j=n:=by lia
  subst this;rw[jp hp]at hb;by_cases hq:q<k
  ·rw[hn q hl hq]at hb;cases hb
  ·lia
theorem FirstN.window{l:List Nat}{ps:List zp}{lo mid hi n:Nat}{r:Option (Nat × Nat)}(h0:FirstN l ps lo mid n AL)(hm:lo<=mid)(h:FirstN l ps mid hi n r):FirstN l ps lo hi n r:=by
 have h0':∀j q,j<n->lo<=q->q<mid->stJ l ps q j=AN:=by
  rcases h0 with ⟨_,h⟩ | ⟨_,_,h,_⟩
  ·exact h
  ·cases h
 rcases h with ⟨rfl,h⟩ | ⟨n0,q0,rfl,a1,a2,a3,a4,a5⟩
 ·refine .inl #[rfl,λj q hj h1 h2=>?_];by_cases e:q<mid
  ·exact h0' j q hj h1 e
  ·exact h j q hj (by lia) h2
 ·refine .inr #[n0,q0,rfl,a1,by lia,a3,a4,λj q hj h1 h2=>?_];by_cases e:q<mid
  ·rw[h0' j q hj h1 e]at h2;cases h2
  ·exact a5 j q hj (by lia) h2
def NeL(ps:List zp):Prop:=∀p ∈ ps,p.1≠[]
theorem FirstN.toEnd{l:List Nat}{ps:List zp}{lo hi n:Nat}{r:Option (Nat × Nat)}(hN:NeL ps)(h:FirstN l ps lo hi n r)(hl:r=AL->l.length<=hi):FirstN l ps lo l.length n r:=by
 have hlt:∀j q,stJ l ps q j=AM->q<l.length:=λj q hb=>by
  obtain⟨_,p,hp,hs⟩:=wM hb;exact uh (hN p (af hp)) hs
 rcases h with ⟨rfl,h⟩ | ⟨n0,q0,rfl,a1,a2,a3,a4,a5⟩
 ·exact .inl #[rfl,λj q hj h1 h2=>h j q hj h1 (by have:=hl rfl;lia)]
 ·exact .inr #[n0,q0,rfl,a1,a2,hlt _ _ a4,a4,a5]
noncomputable def zE(l:List Nat)(ps:List zp):Option (Nat × Nat):=(xj l ps l.length).head?
theorem XJ{l:List Nat}{ps:List zp}{r:Option (Nat × Nat)}(h:FirstN l ps 0 l.length ps.length r):r=zE l ps:=Vo h
theorem X5(l:List Nat)(ps:List zp)(hN:NeL ps):FirstN l ps 0 l.length ps.length (zE l ps):=by
 have hs:=wT l ps l.length;unfold zE
 cases e:xj l ps l.length with
 | nil =>
  refine .inl #[rfl,λj q _ _ hq=>?_]
  cases hb:stJ l ps q j with
  | false=>rfl
  | true =>
   have:(j,q) ∈ xj l ps l.length:=usesK_mem.mpr #[hq,hb];rw[e]at this;cases this
 | cons u us =>
  rw[e]at hs;have hu:u ∈ xj l ps l.length:=by rw[e];exact ax
  obtain⟨h1,h2⟩:=usesK_mem.mp hu;refine .inr #[u.1,u.2,rfl,(wM h2).1,aD _,h1,h2,λj q hj _ hb=>?_]
  have hq:q<l.length:=by
   obtain⟨_,p,hp,hs⟩:=wM hb;exact uh (hN p (af hp)) hs
  have:(j,q) ∈ xj l ps l.length:=usesK_mem.mpr #[hq,hb];rw[e]at this;rcases AV.mp this with e2 | e2
  ·rw[<- e2];exact .inr #[rfl,al _]
  ·rcases (Bp.mp hs).1 _ e2 with h | ⟨h,h'⟩
   ·exact .inl h
   ·exact .inr #[h,dc h']
noncomputable def Wl(ps:List zp)(n:Nat):zp:=ps.getD n ([],[])
theorem xg{ps:List zp}{n:Nat}{p:zp}(h:ps[n]? = AK p):Wl ps n=p:=by
 unfold Wl;rw[ae,h];rfl
noncomputable def YH(l:List Nat)(ps:List zp)(u:Nat × Nat):List Nat:=yC l (u.2:Int) (Wl ps u.1).1 (Wl ps u.1).2
noncomputable def XQ(ps:List zp)(l:List Nat):List Nat:=((zE l ps).map (YH l ps)).getD l
noncomputable def wAt(ps:List zp)(l:List Nat):Nat->List Nat
 | 0=>l
 | j+1=>XQ ps (wAt ps l j)
noncomputable def sAt(ps:List zp)(l:List Nat)(j:Nat):List (Nat × Nat):=(aK j).map λi=>(zE (wAt ps l i) ps).getD (0,0)
theorem X3(ps:List zp)(l:List Nat)(j:Nat):sAt ps l (j+1)=sAt ps l j ++ [(zE (wAt ps l j) ps).getD (0,0)]:=by
 unfold sAt;rw[cB,aA];rfl
theorem qK(ps:List zp)(l:List Nat)(j:Nat):(sAt ps l j).length=j:=by
 unfold sAt;rw[ag,cq]
theorem wj{ps:List zp}{l:List Nat}{j:Nat}{u:Nat × Nat}(h:zE (wAt ps l j) ps=AK u):wAt ps l (j+1)=YH (wAt ps l j) ps u:=by
 show XQ ps (wAt ps l j)=_;unfold XQ;rw[h];rfl
def WW(ps:List zp)(l:List Nat)(j:Nat):Prop:=∀i,i<j->zE (wAt ps l i) ps≠AL
theorem Kj{ps:List zp}{l:List Nat}{i j:Nat}(h1:WW ps l i)(h2:zE (wAt ps l i) ps=AL)(h3:WW ps l j)(h4:zE (wAt ps l j) ps=AL):i=j:=by
 rcases ee i j with h | h | h
 ·exact absurd h2 (h3 i h)
 ·exact h
 ·exact absurd h4 (h1 j h)
theorem Vp{l:List Nat}{ps:List zp}{n q M lo:Nat}(h:FirstN l ps 0 l.length ps.length (AK (n,q)))(hN:NeL ps)(hM:∀p ∈ ps,p.1.length<=M)(hlo:lo=0\/lo+M<=q+1):FirstN (YH l ps (n,q)) ps 0 lo ps.length AL:=by
 refine .inl #[rfl,λj x hj _ hx=>?_];rcases h with ⟨h,_⟩ | ⟨n0,q0,e,a1,a2,a3,a4,a5⟩
 ·cases h
 ·injection e with e;injection e with e1 e2;subst e1 e2
  cases hb:stJ (YH l ps (n,q)) ps x j with
  | false=>rfl
  | true =>
   obtain⟨_,p,hp,hs⟩:=wM hb;have hpm:=hM p (af hp);have hpn:=Bg.mpr (hN p (af hp));have hxq:x+p.1.length<=q:=by lia
   obtain⟨s0,s1,s2⟩:=of_decide_eq_true hs;rw[aJ]at s2;obtain⟨_,p2,hp2,hs2⟩:=wM a4;obtain⟨t0,t1,t2⟩:=of_decide_eq_true hs2
   have e4:(YH l ps (n,q)).take q=l.take q:=by
    unfold YH yC;rw[aJ,ao,aP (by rw[aG];lia),fh,fA]
   have e5:∀z:List Nat,((z.take q).drop x).take p.1.length=(z.drop x).take p.1.length:=λz=>by
    rw[List.drop_take,fh];congr 1;lia
   have s3:(l.drop x).take p.1.length=p.1:=by rw[<- e5,<- e4,e5,s2]
   have:stJ l ps x j=AM:=by
    rw[jp hp];exact decide_eq_true #[by lia,by lia,by rw[aJ];exact s3]
   have:=a5 j x hj (aD _) this;lia
theorem FirstN.lower{l:List Nat}{ps:List zp}{lo hi n:Nat}(h:FirstN l ps 0 hi n AL)(hl:lo<=hi):FirstN l ps 0 lo n AL:=by
 rcases h with ⟨_,h⟩ | ⟨_,_,h,_⟩
 ·exact .inl #[rfl,λj q hj h1 h2=>h j q hj h1 (by lia)]
 ·cases h
theorem J4{l:List Nat}{ps:List zp}{n q m:Nat}(h:FirstN l ps 0 l.length ps.length (AK (n,q)))(hm:∀p ∈ ps,p.2.length<=m):(YH l ps (n,q)).length<=l.length+m:=by
 rcases h with ⟨h,_⟩ | ⟨n0,q0,e,a1,a2,a3,a4,a5⟩
 ·cases h
 ·injection e with e;injection e with e1 e2;subst e1 e2;obtain⟨_,p,hp,hs⟩:=wM a4;have:=hm p (af hp);have er:=xg hp;unfold YH yC;simp only[aj,aG,bg,er];lia
theorem qX{ps:List zp}{l:List Nat}{m:Nat}(hN:NeL ps)(hm:∀p ∈ ps,p.2.length<=m):∀j,(wAt ps l j).length<=l.length+j * m
 | 0=>by simp [wAt]
 | j+1=>by
  have ih:=qX (l:=l) hN hm j;have hf:=X5 (wAt ps l j) ps hN;rw[et]
  cases e:zE (wAt ps l j) ps with
  | none =>
   show (XQ ps (wAt ps l j)).length<=_;unfold XQ;rw[e];show (wAt ps l j).length<=_;lia
  | some u =>
   rw[wj e];rw[e]at hf;obtain⟨a,b⟩:=u;have:=J4 hf hm;lia
def UseAt(H:Hp)(r:Option (Nat × Nat))(v:V):Prop:=(r=AL/\v=.non)\/∃(n q:Nat) (p:rV),r=AK (n,q)/\v=.ref p/\H p=AK (.tup [.int (n:Nat),.int (q:Nat)])
theorem UseAt.same{H H':Hp}{r:Option (Nat × Nat)}{v:V}(h:UseAt H r v)(s:Same H H'):UseAt H' r v:=by
 rcases h with h | ⟨n,q,p,h1,h2,h3⟩
 ·exact .inl h
 ·exact .inr #[n,q,p,h1,h2,s _ _ h3]
theorem VO{l p:List Nat}{lo hi:Int}{H:Hp}{Q:VK}(h0:0<=lo)(h1:0<=hi)(h:∀r:Int,((r=-1/\∀q:Nat,lo<=q->(q:Int)+p.length<=hi->zq l q p=AN)\/∃k:Nat,r=k/\lo<=k/\(k:Int)+p.length<=hi/\zq l k p=AM/\∀q:Nat,lo<=q->q<k->zq l q p=AN)->Q (.int r) H):K5 (.str (tx l)) [.str (tx p),.int lo,.int hi] H Q:=by
 refine#[l,p,lo,hi,rfl,rfl,h0,h1,λr hr=>h r ?_]
 have no:∀q:Nat,((l.drop q).take p.length≠p\/¬ q+p.length<=l.length)->zq l q p=AN:=λq hq=>decide_eq_false λ⟨_,b,c⟩=>by
  rcases hq with hq | hq
  ·exact hq c
  ·lia
 rcases hr with ⟨rfl,hn⟩ | ⟨k,rfl,k1,k2,k3,k4,hn⟩
 ·refine .inl #[rfl,λq q1 q2=>no q ?_];by_cases e:q+p.length<=l.length
  ·exact .inl (hn q q1 q2 e)
  ·exact .inr e
 ·exact .inr #[k,rfl,k1,k2,decide_eq_true #[by lia,by lia,k4],λq q1 q2=>no q (.inl (hn q q1 q2))]
def uk(K:rT):Sp:=λvs H Q _=>∃(a:rV) (l:List Nat) (ps:List zp) (st en:Nat),vs=[.ref a,.str (tx l),.int (st:Nat),.int (en:Nat)]/\LsA K H a (ps.map dR)/\NeL ps/\(∀p ∈ ps,p.1.length<=1000)/\∀(r:Option (Nat × Nat)) (v:V) (H':Hp),Same H H'->UseAt H' r v->FirstN l ps st en ps.length r->Q v H'
theorem Xk{a:rV}{l:List Nat}{ps:List zp}{st en:Nat}{s e:Int}{H:Hp}{Q:VK}{E:XK}(hs:s=(st:Nat))(he:e=(en:Nat))(hA:LsA K H a (ps.map dR))(hN:NeL ps)(hP:∀p ∈ ps,p.1.length<=1000)(q:∀(r:Option (Nat × Nat)) (v:V) (H':Hp),Same H H'->UseAt H' r v->FirstN l ps st en ps.length r->Q v H'):uk K [.ref a,.str (tx l),.int s,.int e] H Q E:=by
 subst hs he;exact#[a,l,ps,st,en,rfl,hA,hN,hP,q]
theorem gg:zk ["rules","word","start","end","found","number","rule","place"] ["rules","word","start","end"] (zh xG):=by nofun
theorem ja{f:rV}{fd:rY}(B:Bt mg)(F:Fun K "first_within" "first_within" xG f fd) : zP P w K mg base CX0 1 f fd ["rules","word","start","end"] (uk K):=by
 exists F.ok gg
 ·obtain⟨a,l,ps,st,en,rfl,hA,hN,hP,q⟩:=h
  refine#[_,(zi (zD 4 gg.nd yd)
   (zi (zX PassesOwn.never rfl (xY rfl B.enum (za (pv 0) zd)) (vU (n:=2) rfl (zO (zx (i:=5) gg.nd rfl (.inl rfl)) (zO (zx (i:=6) gg.nd rfl (.inl rfl)) wo)))
    (zG (zD 7 gg.nd (uX cw PySem.F.slot_str_find PySem.F.type_str_find zby (pv 1) (za (zo ix_tup (pv 6) zg) (za (pv 2) (za (zA yb (zA qA (pv 3) zg) (zC B.len (zo ix_tup (pv 6) zg))) zd)))))
    (zf (zM (zy op_ge' (pv 7) zg (zB _))
     (zG (zD 4 gg.nd (zR (za (pv 5) (za (pv 7) zd))))
     (zf (zD 3 gg.nd (pv 7))))
     zw))))
   (zf (zl (pv 4))))),?_]
  have s16:=zQ;obtain⟨xs,hX,hI⟩:=id hA;have hxl:=hI.len;rw[ag]at hxl;have s16:=zQ;refine zj (λσ H'=>H'=H/\σ=[AK (.ref a),AK (.str (tx l)),AK (.int (st:Nat)),AK (.int (en:Nat)),AK (.non),AL,AL,AL]) ?_ ?_
  ·rfl'
  rintro σ H1 ⟨rfl,rfl⟩:_;right;refine zj (λσ H'=>Same H1 H'/\∃(r:Option (Nat × Nat)) (v:V) (v3 v5 v6 v7:Option V),UseAt H' r v/\FirstN l ps st en ps.length r/\σ=[AK (.ref a),AK (.str (tx l)),AK (.int (st:Nat)),v3,AK (v),v5,v6,v7]) ?_ ?_
  ·rfl'
   refine#[#[_,SqL.of hX],ForEL.by (xs:=xs) (λi σ H'=>Same H1 H'/\∃(r:Option (Nat × Nat)) (v:V) (v5 v6 v7:Option V),UseAt H' r v/\FirstN l ps st en i r/\σ=[AK (.ref a),AK (.str (tx l)),AK (.int (st:Nat)),AK (.int (((r.map Prod.snd).getD en:Nat):Int)),AK (v),v5,v6,v7]) #[Same.refl _,AL,.non,AL,AL,AL,.inl #[rfl,rfl],.inl #[rfl,λj q h=>absurd h (cf j)],rfl] (λi σ H' _ h=>SqL.of (h.1 _ _ hX)) ?_ ?_]
   ·rintro i y σ H' p hy ⟨hs,r,v,v5,v6,v7,hu,hF,rfl⟩ hpn;obtain⟨rl,pr,hri,rfl,hqr⟩:=hI.getR hy;have hm:=af hri;have hne:=Bg.mpr (hN rl hm);have hrl:=hP rl hm;have s2:=hs.trans (zc (o:=.tup [.int (i:Nat),.ref pr]) hpn);have hq2:=zv s2 hqr;have hu2:=hu.same (zc (o:=.tup [.int (i:Nat),.ref pr]) hpn)
    rfl'
    refine#[_,SqT.of ze,rfl,_,_,rfl,_,_,rfl,rfl,_,rfl,_,hq2,_,rfl,_,rfl,_,hq2,_,rfl,_,#[by rw[z9];lia,rfl],VO (by lia) (by rw[z9];lia) λz hz=>#[z,rfl,?_]];rw[z9]at hz;rcases hz with ⟨rfl,hn⟩ | ⟨k,rfl,k1,k2,k3,hn⟩
    ·rw[if_neg (by decide)];exact#[s2,r,v,hu2,hF.keep hri λq q1 q2=>hn q (by lia) (by lia),rfl,rfl]
    ·rw[if_pos (by lia)];refine#[by lia,λp2 hp2=>#[s2.trans (zc hp2),AK (i,k),.ref p2,.inr #[i,k,p2,rfl,rfl,ze],hF.take hri (by lia) (by lia) k3 λq q1 q2=>hn q (by lia) q2,rfl,rfl]]
   ·rintro σ H' ⟨hs,r,v,v5,v6,v7,hu,hF,rfl⟩;rw[hxl]at hF;exact#[hs,r,v,hu,hF,_,_,_,_,rfl]
  rintro σ H2 ⟨s2,r,v,v3,v5,v6,v7,hu,hF,rfl⟩:_;right
  rfl'
  exact q r v H2 s2 hu hF
structure zfY(mg:si->Option rW):Prop where
 g:∃t,mg "WINDOW" = AK (.int 128 t)
def kJ(K:rT):Sp:=λvs H Q _=>∃(a:rV) (l:List Nat) (ps:List zp) (st:Nat),vs=[.ref a,.str (tx l),.int (st:Nat)]/\LsA K H a (ps.map dR)/\NeL ps/\(∀p ∈ ps,p.1.length<=1000)/\l.length<=100000/\∀(r:Option (Nat × Nat)) (v:V) (H':Hp),Same H H'->UseAt H' r v->FirstN l ps st l.length ps.length r->Q v H'
theorem Yc{a:rV}{l:List Nat}{ps:List zp}{st:Nat}{s:Int}{H:Hp}{Q:VK}{E:XK}(hs:s=(st:Nat))(hA:LsA K H a (ps.map dR))(hN:NeL ps)(hP:∀p ∈ ps,p.1.length<=1000)(hl:l.length<=100000)(q:∀(r:Option (Nat × Nat)) (v:V) (H':Hp),Same H H'->UseAt H' r v->FirstN l ps st l.length ps.length r->Q v H'):kJ K [.ref a,.str (tx l),.int s] H Q E:=by
 subst hs;exact#[a,l,ps,st,rfl,hA,hN,hP,hl,q]
theorem gF:zk ["rules","word","start","size","found"] ["rules","word","start"] (zh wB):=by nofun
theorem ZH{f:rV}{fd:rY}(B:Bt mg)(T:zfY mg)(F:Fun K "first_from" "first_from" wB f fd)(oY:Df P w K mg base CX0 1 "first_within" ["rules","word","start","end"] [] (uk K)):zP P w K mg base CX0 2 f fd ["rules","word","start"] (kJ K):=by
 obtain⟨t8,g8⟩:=T.g
 exists F.ok gF
 ·obtain⟨a,l,ps,st,rfl,hA,hN,hP,hl,q⟩:=h
  refine#[_,(zi (zD 3 gF.nd (yn (v:=.int 128) rfl g8 #[t8,rfl]))
   (zi (Wm PassesOwn.never (zy QP (pv 2) (zC B.len (pv 1)) (zB _))
    (zG (zD 4 gF.nd (cl0 oY hr .nil rfl (za (pv 0) (za (pv 1) (za (pv 2) (za (zA yb (pv 2) (pv 3)) zd))))))
    (zG (zM (zy op_notN' (pv 4) yd (zB _))
     (zf (zl (pv 4)))
     zw)
    (zG (zD 2 gF.nd (zA yb (pv 2) (pv 3)))
    (zf (zD 3 gF.nd (zA qU (pv 3) zg)))))))
   (zf (zl yd)))),?_]
  have s16:=zQ;have s16:=zQ;refine zj (λσ H'=>H'=H/\σ=[AK (.ref a),AK (.str (tx l)),AK (.int (st:Nat)),AK (.int 128),AL]) ?_ ?_
  ·rfl'
  rintro σ H1 ⟨rfl,rfl⟩:_;right;refine zj (λσ H'=>Same H1 H'/\FirstN l ps st l.length ps.length AL) ?_ ?_
  ·unfold QT;refine#[λm σ H'=>∃(s z:Nat) (v4:Option V),m=l.length - s/\st<=s/\1<=z/\Same H1 H'/\FirstN l ps st s ps.length AL/\σ=[AK (.ref a),AK (.str (tx l)),AK (.int (s:Nat)),AK (.int (z:Nat)),v4],#[_,st,128,AL,rfl,al _,by decide,Same.refl _,.inl #[rfl,λj q _ h1 h2=>by lia],rfl],?_];rintro m σ H' ⟨s,z,v4,rfl,hs,hz,sm,hF,rfl⟩
   rfl'
   refine#[by lia,yx (λhlt=>?_) λhge=>#[sm,hF.toEnd hN λ_=>by lia]];refine#[λσ' H''=>∃v4:Option V,Same H1 H''/\FirstN l ps st (s+z) ps.length AL/\σ'=[AK (.ref a),AK (.str (tx l)),AK (.int ((s+z:Nat):Int)),AK (.int ((z * 2:Nat):Int)),v4],λσ' H'' ⟨v4,a1,a2,a3⟩=>#[l.length - (s+z),by lia,s+z,rfl,by lia,z * 2,by lia,a1,a2,v4,a3],?_];refine Xk (en:=s+z) rfl (by lia) (hA.same sm) hN hP λr v H2 s2 hu hF2=>?_;rcases hu with ⟨rfl,rfl⟩ | ⟨n,qq,p,rfl,rfl,hp⟩
   ·rw[if_neg (λh=>h rfl)];exact#[.inr #[by decide,by decide],AK .non,sm.trans s2,hF.window hs hF2,by push_cast;rfl]
   ·rw[if_pos (by intro h;cases h)];exact q _ _ H2 (sm.trans s2) (.inr #[n,qq,p,rfl,rfl,hp]) ((hF.window hs hF2).toEnd hN (λe=>by cases e))
  rintro σ H2 ⟨s2,hF⟩:_;right
  rfl'
  exact q AL .non H2 s2 (.inl #[rfl,rfl]) hF
theorem LsA.pushT{H:Hp}{D p:rV}{ds es:List L3.D}{xs vs:List V}(h1:H D=AK (.lst xs))(h2:Iss K H ds xs)(hp:H p=AL)(hv:Iss K H es vs)(f:zS ds)(fe:zS es):LsA K (upd (upd H p (.tup vs)) D (.lst (xs ++ [.ref p]))) D (ds ++ [.tup es]):=by
 have e:(upd H p (.tup vs)) D=AK (.lst xs):=zc hp _ _ h1;exact LsA.snoc e (Iss.same (zc hp) _ _ h2) f (by simp only[y8];exact fe) (Is.tup hp hv)
structure za6(K:rT)(mg:si->Option rW)(C:rV):Prop where
 xi:XI K C
 ini:ac K (.ref C) "__init__" = AK (AK (.builtin "ValueError.__init__"))
 g:mg "TooFar" = AK (.ref C)
noncomputable def dG(u:Nat × Nat):L3.D:=.tup [.int (u.1:Nat),.int (u.2:Nat),.bl AM]
theorem zaT(u:Nat × Nat):y8 (dG u):=by simp only[dG,y8,zS,and_self]
theorem Jj(us:List (Nat × Nat)):zS (us.map dG):=wK λd h=>by obtain⟨r,_,rfl⟩:=AT.mp h;exact zaT r
theorem zeG{H:Hp}{n q:Nat}:Iss K H [.int (n:Nat),.int (q:Nat),.bl AM] [.int (n:Nat),.int (q:Nat),.bl AM]:=by
 simp only[Iss,Is];exact#[_,_,rfl,rfl,_,_,rfl,rfl,_,_,rfl,rfl,rfl]
structure Rd(ps:List zp)(l:List Nat)(J:Nat):Prop where
 live:WW ps l J
 len:∀j,j<=J->(wAt ps l j).length<=10000
 most:J<=10000
def xw(K:rT)(CF:rV):Sp:=λvs H Q E=>∃(a:rV) (l:List Nat) (ps:List zp) (m:Int) (J:Nat),vs=[.ref a,.str (tx l),.int m]/\LsA K H a (ps.map dR)/\NeL ps/\ps.length<=100/\(∀p ∈ ps,p.1.length<=1000/\p.2.length<=1000)/\Rd ps l J /\
 ((zE (wAt ps l J) ps=AL/\(J:Int)<=m/\∀(p S:rV) (H':Hp),Same H H'->H' p=AK (.tup [.ref S,.str (tx (wAt ps l J))])->LsA K H' S ((sAt ps l J).map dG)->H S=AL->Q (.ref p) H') \/
  (zE (wAt ps l J) ps≠AL/\(J:Int)=m/\∀H',Same H H'->E (.ref CF) AL H'))
theorem QM{a:rV}{ps:List zp}{σ:L2.St}{H:Hp}{Q:VK}{D:rV}(hA:LsA K H a (ps.map dR))(hP:∀p ∈ ps,p.1.length<=1000)(hpl:ps.length<=100)(hD:H D=AL)(q:∀H',Same H H'->H' D=AK (.lst ((ps.map λp=>(p.1.length:Int)).map V.int))->Q (.ref D) H') :
  CompL K a (yD 0) vG (tCB (Vz K) (zL (tOp (qG K) (yk 0) (tC (.int 0))) xT)) 1 [] σ H Q D:=by
 have s16:=zQ;obtain⟨xs,hX,hI⟩:=hA;have hxl:=hI.len;rw[ag]at hxl;refine CompL.by (xs:=xs) (λi AR H'=>Same H H'/\H' D=AK (.lst AR)/\AR=((ps.take i).map λp=>(p.1.length:Int)).map V.int) #[zc hD,ze,rfl] (λi AR H' _ h=>SqL.of (h.1 _ _ hX)) ?_ ?_
 ·rintro i x AR H' hx ⟨hs,hH,rfl⟩;have hil:=(AS.mp hx).1;obtain⟨r,pr,hri,rfl,hqr⟩:=hI.getR hx;have hm:=hP r (af hri);simp only[vG]
  rfl'
  refine#[wx,_,zv hs hqr,_,rfl,_,#[by rw[z9];lia,rfl],hH,by rw[ag,ag,aG];lia,CNx.mk hil #[zI hs hD,ze,?_]];rw[z7 hri,aA,aA,z9];rfl
 ·rintro AR H' ⟨hs,hH,rfl⟩;rw[hxl,aO]at hH;exact q H' hs hH
theorem zfI{H:Hp}{rs:List zp}{xs:List V}{i:Nat}{r:zp}(hI:Iss K H (rs.map dR) xs)(hi:rs[i]? = AK r):∃p,atI xs (i:Int)=AK (.ref p)/\SqT K H p [.str (tx r.1),.str (tx r.2)]:=by
 have hl:=hI.len;rw[ag]at hl;have hil:=(AS.mp hi).1;obtain⟨v,a1,b1⟩:=uR (xs:=xs) (i:=(i:Int)) (by lia) (by lia);obtain⟨r',p,h1,rfl,h3⟩:=hI.getR (j:=i) b1;rw[hi]at h1;cases h1;exact#[p,a1,h3]
theorem iH:zk ["rules","word","most","longest","steps","use","number","place"] ["rules","word","most"] (zh vw):=by nofun
theorem zbh{f CU CF:rV}{fd:rY}{dV:rW}(B:Bt mg)(T:za6 K mg CF)(TU:DNU P w K mg base CU)(F:FunD K "gone" "gone" vw dV f fd)(nw:Df P w K mg base CX0 2 "first_from" ["rules","word","start"] [] (kJ K))(pJ:Df P w K mg base (CXx P w) 3 "put" ["word","place","old","new"] [] (Xy CU)):zP P w K mg base (CXx P w) 4 f fd ["rules","word","most"] (xw K CF):=by
 exists FunD.okX F iH,0
 ·obtain⟨a,l,ps,m,J,rfl,hA,hN,hpl,hP,hR,hq⟩:=h
  refine#[_,(zi (zD 3 iH.nd (V5 (zd3 rfl) rfl B.max qj (za (wv (own:=["rule"]) (caps:=[]) (ix:=[]) (tt:=vG) (te:=(tCB (Vz K) (zL (tOp (qG K) (yk 0) (tC (.int 0))) xT))) rfl (zZ (sc:=zh vw) rfl (by symm) (by symm) (by symm) rfl (by symm) (by symm) rfl) (yw (pv 0)) (λ_ _ _ _ _ _=>zx (i:=0) (show List.Nodup [_] by decide) rfl (.inl rfl)) (λ_ _ _ _ _ _=>yY) (λ_ _ _ _ _ _=>(zC B.len (zo ix_tup (pv 0) zg)))) zd) (VW zg zac)))
   (zi (zD 4 iH.nd (wZ zd))
   (zi (zD 5 iH.nd (cl0 nw hr .nil rfl (za (pv 0) (za (pv 1) (za zg zd)))))
   (zi (Wm PassesOwn.leaving (zy op_notN' (pv 5) yd (zB _))
    (zi (zM (zy op_ge' (zC B.len (pv 4)) (pv 2) (zB _))
     (zf (z6 hx rfl T.xi.toXC T.ini rfl T.g (za zY zd)))
     zw)
    (zi (zD 6 iH.nd (zo ix_tup (pv 5) zg))
    (zi (zD 7 iH.nd (zo ix_tup (pv 5) zg))
    (zi (zD 1 iH.nd (clP hx pJ hr .nil rfl (za (pv 1) (za (pv 7) (za (zo ix_tup (zo ix_list (pv 0) (pv 6)) zg) (za (zo ix_tup (zo ix_list (pv 0) (pv 6)) zg) zd))))))
    (zi (xA (uX bw bO bP xf (pv 4) (za (zR (za (pv 6) (za (pv 7) (za xS zd)))) zd)))
    (zf (zD 5 iH.nd (cl0 nw hr .nil rfl (za (pv 0) (za (pv 1) (za (we (V2 rfl) rfl B.max qj (za zg (za (zA yb (zA qA (pv 7) (pv 3)) zg) zd))) zd))))))))))))
   (zf (zl (zR (za (pv 4) (za (pv 1) zd))))))))),?_]
  have s16:=zQ;have s16:=zQ;refine zj (λσ H'=>Same H H'/\∃M:Int,(∀p ∈ ps,(p.1.length:Int)<=M)/\σ=[AK (.ref a),AK (.str (tx l)),AK (.int m),AK (.int M),AL,AL,AL,AL]) ?_ ?_
  ·rfl'
   simp only[zfR]
   rfl'
   obtain⟨xs,hX,hI⟩:=id hA;exact#[#[_,SqL.of hX],λD hD=>QM hA (λp hp=>(hP p hp).1) hpl hD λH' s' hH=>#[D,_,0,rfl,rfl,SqL.of hH,λz _ hz=>#[s',z,λp hp=>hz _ (AT.mpr #[p,hp,rfl]),rfl]]]
  rintro σ H1 ⟨s1,M,hM,rfl⟩:_;right;refine zj (λσ H'=>Same H H'/\∃S:rV,H S=AL/\H' S=AK (.lst [])/\σ=[AK (.ref a),AK (.str (tx l)),AK (.int m),AK (.int M),AK (.ref S),AL,AL,AL]) ?_ ?_
  ·rfl'
   exact#[by lia,λp hp=>#[s1.trans (zc hp),p,s1.free hp,ze,rfl]]
  rintro σ H2 ⟨s2,S,hSn,hS,rfl⟩:_;right;refine zj (λσ H'=>Same H H'/\H' S=AK (.lst [])/\∃uv:V,UseAt H' (zE l ps) uv/\σ=[AK (.ref a),AK (.str (tx l)),AK (.int m),AK (.int M),AK (.ref S),AK (uv),AL,AL]) ?_ ?_
  ·rfl'
   exact Yc (st:=0) rfl (hA.same s2) hN (λp hp=>(hP p hp).1) (by have:=hR.len 0 (aD _);exact aN this (by decide)) λr v H' s' hu hF=>#[s2.trans s',s' _ _ hS,(by rw[XJ hF]at hu;exact hu)]
  rintro σ H3 ⟨s3,hS3,uv,hu,rfl⟩:_;right;refine zj (λσ H'=>Same H H'/\zE (wAt ps l J) ps=AL/\LsA K H' S ((sAt ps l J).map dG)/\∃v5 v6 v7,σ=[AK (.ref a),AK (.str (tx (wAt ps l J))),AK (.int m),AK (.int M),AK (.ref S),v5,v6,v7]) ?_ ?_
  ·unfold QT;refine#[λk σ H'=>∃(j:Nat) (uv:V) (v6 v7:Option V),k=J - j/\j<=J/\Same H H'/\LsA K H' S ((sAt ps l j).map dG)/\UseAt H' (zE (wAt ps l j) ps) uv/\σ=[AK (.ref a),AK (.str (tx (wAt ps l j))),AK (.int m),AK (.int M),AK (.ref S),AK (uv),v6,v7],#[_,0,uv,AL,AL,rfl,aD _,s3,#[[],hS3,by simp only[sAt,List.range_zero,aL,Iss]],hu,rfl],?_];rintro k σ H' ⟨j,uv,v6,v7,rfl,hj,hs,hL,hu,rfl⟩;have hlj:=hR.len j hj;have hRm:=hR.most;obtain⟨xs,hX,hI⟩:=id hA
   rfl'
   refine yx (λhne=>?_) λhne=>?_
   ·rcases hu with ⟨_,h⟩ | ⟨n,q0,p,hf,rfl,hp⟩
    ·exact absurd h hne
    have hF:=X5 (wAt ps l j) ps hN;rw[hf]at hF
    have hjJ:j<J\/(j=J/\(J:Int)=m/\∀H',Same H H'->E (.ref CF) AL H'):=by
     by_cases e:j=J
     ·subst e;rcases hq with ⟨h,_⟩ | ⟨_,h1,h2⟩
      ·rw[hf]at h;cases h
      ·exact .inr #[rfl,h1,h2]
     ·exact .inl (by lia)
    have hJm:(J:Int)<=m:=by
     rcases hq with ⟨_,h,_⟩ | ⟨_,h,_⟩ <;> lia
    obtain⟨rl,hrl,hst⟩:∃rl,ps[n]? = AK rl/\zq (wAt ps l j) (q0:Int) rl.1=AM:=by
     rcases hF with ⟨h,_⟩ | ⟨n0,q1,e,_,_,_,a4,_⟩
     ·cases h
     ·cases e;exact (wM a4).2
    have hlp:=hP rl (af hrl);have hw:=wj hf;obtain⟨pr,hai,hqr⟩:=zfI hI hrl;refine#[λσ' H''=>∃(uv:V) (v6 v7:Option V),j<J/\Same H H''/\LsA K H'' S ((sAt ps l (j+1)).map dG)/\UseAt H'' (zE (wAt ps l (j+1)) ps) uv/\σ'=[AK (.ref a),AK (.str (tx (wAt ps l (j+1)))),AK (.int m),AK (.int M),AK (.ref S),AK (uv),v6,v7],λσ' H'' ⟨uv,v6,v7,a0,a1,a2,a3,a4⟩=>#[J - (j+1),by lia,j+1,rfl,by lia,a1,a2,uv,a3,v6,v7,a4],?_];obtain⟨ys,hY,hJ2⟩:=id hL;have hyl:=hJ2.len;rw[ag,qK]at hyl;refine zj (λσ' H''=>H''=H'/\j<J/\σ'=[AK (.ref a),AK (.str (tx (wAt ps l j))),AK (.int m),AK (.int M),AK (.ref S),AK (.ref p),v6,v7]) ?_ ?_
    ·rfl'
     refine#[_,.inl #[_,SqL.of hY,rfl],yx (λhge=>?_) λhge=>?_]
     ·rcases hjJ with h | ⟨_,_,h⟩
      ·lia
      ·exact#[by lia,h _ hs]
     ·rcases hjJ with h | ⟨e,h,_⟩
      ·exact h
      ·lia
    rintro σ' G1 ⟨rfl,hlt,rfl⟩:_;right;refine zj (λσ' H''=>H''=G1/\σ'=[AK (.ref a),AK (.str (tx (wAt ps l j))),AK (.int m),AK (.int M),AK (.ref S),AK (.ref p),AK (.int (n:Nat)),v7]) ?_ ?_
    ·rfl'
     exact#[_,SqT.of hp,rfl]
    rintro σ' G2 ⟨rfl,rfl⟩:_;right;refine zj (λσ' H''=>H''=G2/\σ'=[AK (.ref a),AK (.str (tx (wAt ps l j))),AK (.int m),AK (.int M),AK (.ref S),AK (.ref p),AK (.int (n:Nat)),AK (.int (q0:Nat))]) ?_ ?_
    ·rfl'
     exact#[_,SqT.of hp,rfl]
    rintro σ' G3 ⟨rfl,rfl⟩:_;right;refine zj (λσ' H''=>H''=G3/\σ'=[AK (.ref a),AK (.str (tx (wAt ps l (j+1)))),AK (.int m),AK (.int M),AK (.ref S),AK (.ref p),AK (.int (n:Nat)),AK (.int (q0:Nat))]) ?_ ?_
    ·rfl'
     have hq2:=zv hs hqr;exact#[_,SqL.of (hs _ _ hX),_,hai,_,rfl,_,hq2,_,rfl,_,SqL.of (hs _ _ hX),_,hai,_,rfl,_,hq2,_,rfl,wAt ps l j,rl.1,rl.2,(q0:Nat),rfl,hlj,by have:=hlp.1;lia,by have:=hlp.2;lia,λ_=>#[rfl,by rw[hw];unfold YH;rw[xg hrl]],λh=>by rw[hst]at h;cases h]
    rintro σ' G4 ⟨rfl,rfl⟩:_;right;refine zj (λσ' H''=>Same H H''/\LsA K H'' S ((sAt ps l (j+1)).map dG)/\σ'=[AK (.ref a),AK (.str (tx (wAt ps l (j+1)))),AK (.int m),AK (.int M),AK (.ref S),AK (.ref p),AK (.int (n:Nat)),AK (.int (q0:Nat))]) ?_ ?_
    ·rfl'
     refine#[.inl #[_,SqL.of hY],by lia,λt ht=>#[_,zc ht _ _ hY,by lia,zI (hs.trans (zc ht)) hSn,?_]];rw[X3,hf,aA];exact LsA.pushT hY hJ2 ht zeG (Jj _) (by simp only[zS,y8,and_self])
    rintro σ' G5 ⟨s5,hL5,rfl⟩:_;have hl1:=hR.len (j+1) hlt;have hM0:=hM rl (af hrl);right
    rfl'
    refine Yc (st:=(if (q0:Int) - M+1 > 0 then (q0:Int) - M+1 else 0).toNat) (by split <;> lia) (hA.same s5) hN (λp hp=>(hP p hp).1) (aN hl1 (by decide)) λr v H' s' hu hF2=>#[hlt,s5.trans s',hL5.same s',?_];have hb:=Vp (M:=M.toNat) (lo:=(if (q0:Int) - M+1 > 0 then (q0:Int) - M+1 else 0).toNat) hF hN (λp hp=>by have:=hM p hp;lia) (by split <;> lia);rw[<- hw]at hb;rw[XJ (hb.window (aD _) hF2)]at hu;exact hu
   ·have hv:uv=.non:=Decidable.not_not.mp hne
    have hf:zE (wAt ps l j) ps=AL:=by
     rcases hu with ⟨h,_⟩ | ⟨_,_,_,_,h,_⟩
     ·exact h
     ·rw[hv]at h;cases h
    have e:j=J:=by
     rcases dz j J with h | h
     ·exact absurd hf (hR.live j h)
     ·lia
    subst e;exact#[hs,hf,hL,rfl]
  rintro σ H4 ⟨s4,hF,hL,v5,v6,v7,rfl⟩:_;right
  rfl'
  rcases hq with ⟨_,_,hq⟩ | ⟨h,_⟩
  ·exact#[by lia,λp hp=>hq p S _ (s4.trans (zc hp)) ze (hL.same (zc hp)) hSn]
  ·exact absurd hF h
noncomputable abbrev Stp:=Int × Int × Bool
noncomputable def dSt(t:Stp):D:=.tup [.int t.1,.int t.2.1,.bl t.2.2]
noncomputable def sdl(r:zp)(f:Bool):zp:=if f=AM then r else (r.2,r.1)
noncomputable def yj(ps:List zp)(w:List Nat)(t:Stp):Option (List Nat) :=
 if 0<=t.1/\t.1<ps.length then (if zq w t.2.1 (sdl (ps.getD t.1.toNat ([],[])) t.2.2).1=AM then AK (yC w t.2.1 (sdl (ps.getD t.1.toNat ([],[])) t.2.2).1 (sdl (ps.getD t.1.toNat ([],[])) t.2.2).2)else AL)else AL
theorem Ka{H:Hp}{D p:rV}{ds es:List L3.D}{xs vs:List V}(h1:H D=AK (.lst xs))(h2:Iss K H ds xs)(hp:H p=AL)(hv:Iss K H es vs)(f:zS ds)(fe:zS es):LsA K (upd (upd H p (.tup vs)) D (.lst (xs ++ [.ref p]))) D (ds ++ [.tup es]):=by
 have e:(upd H p (.tup vs)) D=AK (.lst xs):=zc hp _ _ h1;exact LsA.snoc e (Iss.same (zc hp) _ _ h2) f (by simp only[y8];exact fe) (Is.tup hp hv)
theorem zdP{H:Hp}{l m:List Nat}:Iss K H [dS l,dS m] [.str (tx l),.str (tx m)]:=by
 simp only[Iss,Is];exact#[_,_,rfl,rfl,_,_,rfl,rfl,rfl]
def jn(rs:List zp):Prop:=rs.length<=30/\∀r ∈ rs,r.1.length<=100/\r.2.length<=100
theorem zaz{H:Hp}{t:Stp}{v:V}(h:Is K H (dSt t) v):∃p,v=.ref p/\SqT K H p [.int t.1,.int t.2.1,.bl t.2.2]:=by
 simp only[dSt,Is,Iss]at h;obtain⟨a,xs,e,hs,v1,r1,rfl,rfl,v2,r2,rfl,rfl,v3,r3,rfl,rfl,rfl⟩:=h;exact#[a,e,hs]
theorem kd{H:Hp}{p:rV}{t:Stp}(h:SqT K H p [.int t.1,.int t.2.1,.bl t.2.2]):Is K H (dSt t) (.ref p):=by
 simp only[dSt,Is,Iss];exact#[p,_,rfl,h,_,_,rfl,rfl,_,_,rfl,rfl,_,_,rfl,rfl,rfl]
theorem zae{H:Hp}{i j:Int}{b:Bool}:Iss K H [.int i,.int j,.bl b] [.int i,.int j,.bl b]:=by
 simp only[Iss,Is];exact#[_,_,rfl,rfl,_,_,rfl,rfl,_,_,rfl,rfl,rfl]
theorem xO(rs:List Stp):zS (rs.map dSt):=wK λd h=>by obtain⟨r,_,rfl⟩:=AT.mp h;simp only[dSt,y8,zS,and_self]
theorem va{H:Hp}{rs:List Stp}{vs:List V}{j:Nat}{v:V}(h:Iss K H (rs.map dSt) vs)(q:vs[j]? = AK v):∃r p,rs[j]? = AK r/\v=.ref p/\SqT K H p [.int r.1,.int r.2.1,.bl r.2.2]:=by
 obtain⟨d,e,i⟩:=h.get q;rw[au]at e;obtain⟨r,hr,rfl⟩:=AX.mp e;obtain⟨p,e1,e2⟩:=zaz i;exact#[r,p,hr,e1,e2]
theorem zcP{H:Hp}{rs:List zp}{xs:List V}{i:Int}(hI:Iss K H (rs.map dR) xs)(h0:0<=i)(hi:i<rs.length):∃p,atI xs i=AK (.ref p)/\rs[i.toNat]? = AK (rs.getD i.toNat ([],[]))/\SqT K H p [.str (tx (rs.getD i.toNat ([],[])).1),.str (tx (rs.getD i.toNat ([],[])).2)]:=by
 have hl:=hI.len;rw[ag]at hl;obtain⟨v,a1,b1⟩:=uR (xs:=xs) (i:=i) h0 (by lia);obtain⟨r,p,h1,rfl,h3⟩:=hI.getR b1;have e:rs.getD i.toNat ([],[])=r:=by rw[ae,h1];rfl
 rw[e];exact#[p,a1,h1,h3]
theorem YW{rs:List zp}(h:jn rs)(i:Nat):(rs.getD i ([],[])).1.length<=100/\(rs.getD i ([],[])).2.length<=100:=by
 rw[ae]
 cases e:rs[i]? with
 | none=>exact#[aD _,aD _]
 | some r=>exact h.2 r (af e)
theorem yL{ps:List zp}{w:List Nat}{t:Stp}(h:¬ (0<=t.1/\t.1<ps.length)):yj ps w t=AL:=if_neg h
theorem yy{ps:List zp}{w:List Nat}{t:Stp}(h:0<=t.1/\t.1<ps.length):yj ps w t=if zq w t.2.1 (sdl (ps.getD t.1.toNat ([],[])) t.2.2).1=AM then AK (yC w t.2.1 (sdl (ps.getD t.1.toNat ([],[])) t.2.2).1 (sdl (ps.getD t.1.toNat ([],[])) t.2.2).2)else AL:=if_pos h
def Ch(rs:List zp)(ws:List (List Nat))(ss:List Stp):Prop:=ws.length=ss.length+1/\∀i s,ss[i]? = AK s->∃w w',ws[i]? = AK w/\ws[i+1]? = AK w'/\yj rs w s=AK w'
noncomputable def bk(s:Stp):Stp:=(s.1,s.2.1,!s.2.2)
noncomputable def yE(ss:List Stp):List Stp:=ss.reverse.map bk
noncomputable def mvL(ss:List Stp)(z:Int):List Stp:=ss.map λs=>(s.1,s.2.1+z,s.2.2)
theorem zcA(r:zp)(f:Bool):sdl r (!f)=((sdl r f).2,(sdl r f).1):=by cases f <;> rfl
theorem ko{rs:List zp}{w w':List Nat}{s:Stp}(h:yj rs w s=AK w'):yj rs w' (bk s)=AK w:=by
 by_cases hb:0<=s.1/\s.1<rs.length
 ·rw[yy hb]at h;have hb':0<=(bk s).1/\(bk s).1<rs.length:=hb;rw[yy hb'];simp only[bk,zcA];generalize sdl (rs.getD s.1.toNat ([],[])) s.2.2=r at *;by_cases hs:zq w s.2.1 r.1=AM
  ·rw[if_pos hs]at h;cases h;obtain⟨e1,e2⟩:=Wt r.2 hs;rw[if_pos e1,e2]
  ·rw[if_neg hs]at h;cases h
 ·rw[yL hb]at h;cases h
theorem Ch.back{rs:List zp}{ws:List (List Nat)}{ss:List Stp}(h:Ch rs ws ss):Ch rs ws.reverse (yE ss):=by
 obtain⟨hl,hs⟩:=h;refine#[by simp [yE,hl],λi s hi=>?_];have hil:i<ss.length:=by have:=(AS.mp hi).1;simpa [yE] using this
 unfold yE at hi;rw[au,bB hil]at hi;obtain⟨s0,h0,rfl⟩:=AX.mp hi;obtain⟨w,w',e1,e2,e3⟩:=hs _ _ h0;refine#[w',w,?_,?_,ko e3]
 ·rw[bB (by lia),<- e2];congr 1;lia
 ·rw[bB (by lia),<- e1];congr 1;lia
theorem Wg{a w b:List Nat}{k:Nat}(h:k<=w.length):(a ++ w ++ b).drop (a.length+k)=w.drop k ++ b:=by
 rw[ao,<- dU,cE,bL h]
theorem Zl{a w b o:List Nat}{k:Int}(h:zq w k o=AM):zq (a ++ w ++ b) (k+(a.length:Int)) o=AM:=by
 obtain⟨_,_,h0,h1⟩:=yP h;unfold zq at h ⊢;rw[decide_eq_true_eq]at h ⊢;obtain⟨_,_,h2⟩:=h;refine#[by lia,by simp only[aj];lia,?_];rw[show (k+(a.length:Int)).toNat=a.length+k.toNat by lia,Wg (by lia),aP (by rw[bg];lia),h2]
theorem WY{a w b o n:List Nat}{k:Int}(h:zq w k o=AM):yC (a ++ w ++ b) (k+(a.length:Int)) o n=a ++ yC w k o n ++ b:=by
 obtain⟨_,_,h0,h1⟩:=yP h;unfold yC;rw[show (k+(a.length:Int)).toNat=a.length+k.toNat by lia]
 have e1:(a ++ w ++ b).take (a.length+k.toNat)=a ++ w.take k.toNat:=by
  rw[ao,List.take_length_add_append,aP (by lia)]
 have e2:(a ++ w ++ b).drop (a.length+k.toNat+o.length)=w.drop (k.toNat+o.length) ++ b:=by
  rw[Nat.add_assoc];exact Wg (by lia)
 rw[e1,e2];simp [ao]
theorem uO{rs:List zp}{w w':List Nat}{s:Stp}(a b:List Nat)(h:yj rs w s=AK w'):yj rs (a ++ w ++ b) (s.1,s.2.1+(a.length:Int),s.2.2)=AK (a ++ w' ++ b):=by
 by_cases hb:0<=s.1/\s.1<rs.length
 ·rw[yy hb]at h;rw[yy (by exact hb)];simp only;generalize sdl (rs.getD s.1.toNat ([],[])) s.2.2=r at *;by_cases hs:zq w s.2.1 r.1=AM
  ·rw[if_pos hs]at h;cases h;rw[if_pos (Zl hs),WY hs]
  ·rw[if_neg hs]at h;cases h
 ·rw[yL hb]at h;cases h
theorem Ch.within{rs:List zp}{ws:List (List Nat)}{ss:List Stp}(a b:List Nat)(h:Ch rs ws ss):Ch rs (ws.map λw=>a ++ w ++ b) (mvL ss (a.length:Int)):=by
 obtain⟨hl,hs⟩:=h;refine#[by simp [mvL,hl],λi s hi=>?_];unfold mvL at hi;rw[au]at hi;obtain⟨s0,h0,rfl⟩:=AX.mp hi;obtain⟨w,w',e1,e2,e3⟩:=hs _ _ h0;exact#[a ++ w ++ b,a ++ w' ++ b,by rw[au,e1];rfl,by rw[au,e2];rfl,uO a b e3]
def Fit(rs:List zp)(w:List Nat)(m:Int)(s:Stp):Prop:=∃w',yj rs w s=AK w'/\(w'.length:Int)<=m
theorem We{w o n:List Nat}{k:Int}(h:zq w k o=AM):(yC w k o n).length+o.length=w.length+n.length:=by
 obtain⟨e,hl,h0,h1⟩:=yP h;unfold yC;simp only[aj,bg,hl];lia
theorem qf{H:Hp}{D p:rV}{ds es:List L3.D}{xs vs:List V}(h1:H D=AK (.lst xs))(h2:Iss K H ds xs)(hp:H p=AL)(hv:Iss K H es vs)(f:zS ds)(fe:zS es):Iss K (upd (upd H p (.tup vs)) D (.lst (xs ++ [.ref p]))) (ds ++ [.tup es]) (xs ++ [.ref p]):=by
 obtain⟨ys,hy1,hy2⟩:=Ka h1 h2 hp hv f fe;rw[ze]at hy1;cases hy1;exact hy2
def uG(K:rT):Sp:=λvs H Q _=>∃(t:rV) (ss:List Stp),vs=[.ref t]/\Is K H (.lst (ss.map dSt)) (.ref t)/\ss.length<=1000/\∀(D:rV) (H':Hp),H D=AL->Same H H'->LsA K H' D ((yE ss).map dSt)->Q (.ref D) H'
theorem qu{t:rV}{ss:List Stp}{H:Hp}{Q:VK}{E:XK}(h1:Is K H (.lst (ss.map dSt)) (.ref t))(h2:ss.length<=1000)(h:∀(D:rV) (H':Hp),H D=AL->Same H H'->LsA K H' D ((yE ss).map dSt)->Q (.ref D) H'):uG K [.ref t] H Q E:=#[t,ss,rfl,h1,h2,h]
theorem zbD{ss:List Stp}{i:Nat}{s:Stp}(h:ss.reverse[i]? = AK s):(yE ss).take (i+1)=(yE ss).take i ++ [bk s]:=z7 (by unfold yE;rw[au,h];rfl)
theorem za9:zk ["steps"] ["steps"] (zh X2):=by nofun
theorem zbB{f:rV}{fd:rY}(B:Bt mg)(F:Fun K "back" "back" X2 f fd) : zP P w K mg base CX0 1 f fd ["steps"] (uG K):=by
 exists F.ok za9
 ·obtain⟨t,ss,rfl,hT,hsl,q⟩:=h;refine#[_,(zf (zl (wv (own:=["step"]) (caps:=[]) (ix:=[]) (tt:=vG) (te:=(Jg (zL (tOp (qG K) (yk 0) (tC (.int 0))) (zL (tOp (qG K) (yk 0) (tC (.int 1))) (zL (Uo (tOp (qG K) (yk 0) (tC (.int 2)))) xT))))) rfl (zZ (sc:=zh X2) rfl (by symm) (by symm) (by symm) rfl (by symm) (by symm) rfl) (zcR rfl B.rev (za (pv 0) zd)) (λ_ _ _ _ _ _=>zx (i:=0) (show List.Nodup [_] by decide) rfl (.inl rfl)) (λ_ _ _ _ _ _=>yY) (λ_ _ _ _ _ _=>(zR (za (zo ix_tup (pv 0) zg) (za (zo ix_tup (pv 0) zg) (za (KQ (zo ix_tup (pv 0) zg)) zd)))))))),?_];have s16:=zQ
  rfl'
  simp only[Is]at hT;obtain⟨_,ts,e,hTs,hJ⟩:=hT;cases e;have htl:=hJ.len;rw[ag]at htl;have hbl:(yE ss).length=ss.length:=by simp [yE]
  refine#[ts,hTs,λD hD=>CompV.by (xs:=ts) (λi AR H'=>Same H H'/\H' D=AK (.lst AR)/\Iss K H' (((yE ss).take i).map dSt) AR) #[zc hD,ze,by simp only[bS,aL,Iss]] (λi AR H' _ h=>h.1.seq hTs) ?_ ?_]
  ·rintro i x AR H' hx ⟨hs,hH,hA⟩;have hi:i<ts.length:=by have:=(AS.mp hx).1;simpa using this
   rw[bB hi]at hx;obtain⟨s,ps,hsi,rfl,hqs⟩:=va hJ hx;have hsr:ss.reverse[i]? = AK s:=by rw[bB (by lia),<- hsi,htl]
   have hal:=hA.len;rw[ag,aG]at hal;simp only[vG]
   rfl'
   refine#[wx,_,zv hs hqs,_,rfl,_,zv hs hqs,_,rfl,_,zv hs hqs,_,rfl,_,rfl,by lia,λp hp=>#[zc hp _ _ hH,by lia,CNx.mk hi #[zI (hs.trans (zc hp)) hD,ze,?_]]];rw[zbD hsr,aA];exact qf hH hA hp zae (xO _) (by simp only[zS,y8,and_self])
  ·rintro AR H' ⟨hs,hH,hA⟩;rw[htl,<- hbl,aO]at hA;exact q D H' hD hs #[AR,hH,hA]
def Zu(K:rT):Sp:=λvs H Q _=>∃(t:rV) (ss:List Stp) (z:Int),vs=[.ref t,.int z]/\Is K H (.lst (ss.map dSt)) (.ref t)/\ss.length<=1000/\∀(D:rV) (H':Hp),H D=AL->Same H H'->LsA K H' D ((mvL ss z).map dSt)->Q (.ref D) H'
theorem Yd{t:rV}{ss:List Stp}{z:Int}{H:Hp}{Q:VK}{E:XK}(h1:Is K H (.lst (ss.map dSt)) (.ref t))(h2:ss.length<=1000)(h:∀(D:rV) (H':Hp),H D=AL->Same H H'->LsA K H' D ((mvL ss z).map dSt)->Q (.ref D) H'):Zu K [.ref t,.int z] H Q E:=#[t,ss,z,rfl,h1,h2,h]
theorem J8:zk ["steps","size"] ["steps","size"] (zh kE):=by nofun
theorem JF{f:rV}{fd:rY}(B:Bt mg)(F:Fun K "moved" "moved" kE f fd) : zP P w K mg base CX0 1 f fd ["steps","size"] (Zu K):=by
 exists F.ok J8
 ·obtain⟨t,ss,z,rfl,hT,hsl,q⟩:=h;refine#[_,(zf (zl (wv (own:=["step"]) (caps:=["size"]) (ix:=[1]) (tt:=vG) (te:=(Jg (zL (tOp (qG K) (yk 0) (tC (.int 0))) (zL (tOp Ys (tOp (qG K) (yk 0) (tC (.int 1))) (yk 1)) (zL (tOp (qG K) (yk 0) (tC (.int 2))) xT))))) rfl (zZ (sc:=zh kE) rfl (by symm) (by symm) (by symm) rfl (by symm) (by symm) rfl) (yw (pv 0)) (λ_ _ _ _ _ _=>zx (i:=0) (show List.Nodup [_,_] by decide) rfl (.inl rfl)) (λ_ _ _ _ _ _=>yY) (λ_ _ _ _ _ _=>(zR (za (zo ix_tup (pv 0) zg) (za (zA qR (zo ix_tup (pv 0) zg) (pv 1)) (za (zo ix_tup (pv 0) zg) zd)))))))),?_];have s16:=zQ
  rfl'
  simp only[Is]at hT;obtain⟨_,ts,e,hTs,hJ⟩:=hT;cases e;have htl:=hJ.len;rw[ag]at htl;have hbl:(mvL ss z).length=ss.length:=by simp [mvL]
  refine#[#[ts,hTs],λD hD=>CompL.by (xs:=ts) (λi AR H'=>Same H H'/\H' D=AK (.lst AR)/\Iss K H' (((mvL ss z).take i).map dSt) AR) #[zc hD,ze,by simp only[bS,aL,Iss]] (λi AR H' _ h=>h.1.seq hTs) ?_ ?_]
  ·rintro i x AR H' hx ⟨hs,hH,hA⟩;have hi:=(AS.mp hx).1;obtain⟨s,ps,hsi,rfl,hqs⟩:=va hJ hx;have hm:(mvL ss z)[i]? = AK (s.1,s.2.1+z,s.2.2):=by unfold mvL;rw[au,hsi];rfl
   have hal:=hA.len;rw[ag,aG]at hal;simp only[vG]
   rfl'
   refine#[wx,_,zv hs hqs,_,rfl,_,zv hs hqs,_,rfl,_,zv hs hqs,_,rfl,by lia,λp hp=>#[zc hp _ _ hH,by lia,CNx.mk hi #[zI (hs.trans (zc hp)) hD,ze,?_]]];rw[z7 hm,aA];exact qf hH hA hp zae (xO _) (by simp only[zS,y8,and_self])
  ·rintro AR H' ⟨hs,hH,hA⟩;rw[htl,<- hbl,aO]at hA;exact q D H' hD hs #[AR,hH,hA]
noncomputable abbrev Ent:=List Nat × List Nat × List Stp
variable{E:XK}{H:Hp}{Q:VK}{bs:List Ent}{e:Ent}{es:List Ent}{f:rV}{fd:rY}{k:Nat}{n:Nat}{ns:List Int}{ps:List zp}{rs:List zp}{ss:List Stp}
noncomputable def dE(e:Ent):L3.D:=.tup [dS e.1,dS e.2.1,.lst (e.2.2.map dSt)]
noncomputable def Vd(es:List Ent)(u:Stp):List Stp:=mvL (if u.2.2=AM then (es.getD u.1.toNat ([],[],[])).2.2 else yE (es.getD u.1.toNat ([],[],[])).2.2) u.2.1
noncomputable def byL(es:List Ent)(us:List Stp):List Stp:=us.flatMap (Vd es)
theorem zdY{v:V}(h:Is K H (dE e) v):∃p s,v=.ref p/\SqT K H p [.str (tx e.1),.str (tx e.2.1),.ref s]/\Is K H (.lst (e.2.2.map dSt)) (.ref s):=by
 simp only[dE,Is,Iss]at h;obtain⟨a,xs,e0,hs,v1,r1,rfl,rfl,v2,r2,rfl,rfl,v3,r3,rfl,⟨s,zs,rfl,h1,h2⟩,rfl⟩:=h;refine#[a,s,e0,hs,?_];simp only[Is];exact#[s,zs,rfl,h1,h2]
theorem zgo{xs:List V}{i:Int}(hI:Iss K H (es.map dE) xs)(h0:0<=i)(hi:i<es.length):∃p s,atI xs i=AK (.ref p)/\es[i.toNat]? = AK (es.getD i.toNat ([],[],[]))/\SqT K H p [.str (tx (es.getD i.toNat ([],[],[])).1),.str (tx (es.getD i.toNat ([],[],[])).2.1),.ref s]/\Is K H (.lst ((es.getD i.toNat ([],[],[])).2.2.map dSt)) (.ref s):=by
 have hl:=hI.len;rw[ag]at hl;obtain⟨v,a1,b1⟩:=uR (xs:=xs) (i:=i) h0 (by lia);obtain⟨d,e,ix⟩:=hI.get b1;rw[au]at e;obtain⟨r,hr,rfl⟩:=AX.mp e;have e:es.getD i.toNat ([],[],[])=r:=by rw[ae,hr];rfl
 rw[e];obtain⟨p,s,rfl,h2,h3⟩:=zdY ix;exact#[p,s,a1,hr,h2,h3]
theorem XD(ss:List Stp)(z:Int):(mvL ss z).length=ss.length:=by simp [mvL]
theorem yQ(ss:List Stp):(yE ss).length=ss.length:=by simp [yE]
def VX(K:rT):Sp:=λvs H Q _=>∃(a t:rV) (es:List Ent) (us:List Stp),vs=[.ref a,.ref t]/\Is K H (.lst (es.map dE)) (.ref a)/\Is K H (.lst (us.map dSt)) (.ref t)/\us.length<=100/\(∀e ∈ es,e.2.2.length<=600)/\(∀u ∈ us,0<=u.1/\u.1<es.length)/\∀(D:rV) (H':Hp),H D=AL->Same H H'->LsA K H' D ((byL es us).map dSt)->Q (.ref D) H'
theorem lB:zk ["entries","steps","chain","step","own"] ["entries","steps"] (zh um):=by nofun
theorem Xj(B:Bt mg)(F:Fun K "by_pacts" "by_pacts" um f fd)(rB:Df P w K mg base CX0 1 "moved" ["steps","size"] [] (Zu K))(me:Df P w K mg base CX0 1 "back" ["steps"] [] (uG K)):zP P w K mg base CX0 2 f fd ["entries","steps"] (VX K):=by
 exists F.ok lB
 ·obtain⟨a,t,es,us,rfl,hE,hU,hul,hel,hub,q⟩:=h
  refine#[_,(zi (zD 2 lB.nd (wZ zd))
   (zi (zX PassesOwn.never rfl (yw (pv 1)) (zx (i:=3) lB.nd rfl (.inl rfl))
    (zi (zD 4 lB.nd (zo ix_tup (zo ix_list (pv 0) (zo ix_tup (pv 3) zg)) zg))
    (zf (xA (uX bw PySem.F.slot_list_extend PySem.F.type_list_extend VF (pv 2) (za (cl0 rB hr .nil rfl (za (w8 (xC (zo ix_tup (pv 3) zg) (λ_=>rfl)) (pv 4) (cl0 me hr .nil rfl (za (pv 4) zd))) (za (zo ix_tup (pv 3) zg) zd))) zd))))))
   (zf (zl (pv 2))))),?_]
  have s16:=zQ;have hE':=hE;have hU':=hU;simp only[Is]at hE' hU';obtain⟨_,xs,e,hX,hI⟩:=hE';cases e;obtain⟨_,ts,e,hTs,hJ⟩:=hU';cases e;have htl:=hJ.len;rw[ag]at htl;refine zj (λσ H'=>∃D,H D=AL/\Same H H'/\H' D=AK (.lst [])/\σ=[AK (.ref a),AK (.ref t),AK (.ref D),AL,AL]) ?_ ?_
  ·rfl'
   exact#[by lia,λp hp=>#[p,hp,zc hp,ze,rfl]]
  rintro σ H1 ⟨D,hD,s1,hD1,rfl⟩:_;right;refine zj (λσ H'=>Same H H'/\LsA K H' D ((byL es us).map dSt)/\∃v3 v4,σ=[AK (.ref a),AK (.ref t),AK (.ref D),v3,v4]) ?_ ?_
  ·rfl'
   refine#[#[_,s1.seq hTs],ForL.by (xs:=ts) (λi σ H'=>Same H H'/\LsA K H' D ((byL es (us.take i)).map dSt)/\(byL es (us.take i)).length<=i * 600/\∃v3 v4,σ=[AK (.ref a),AK (.ref t),AK (.ref D),v3,v4]) #[s1,#[[],hD1,by simp only[bS,byL,List.flatMap_nil,aL,Iss]],by simp [byL],_,_,rfl] (λi σ H' _ h=>h.1.seq hTs) ?_ ?_]
   ·rintro i x σ H' hx ⟨hs,hL,hl,v3,v4,rfl⟩;obtain⟨u,pu,hui,rfl,hqu⟩:=va hJ hx;have hil:=(AS.mp hui).1;obtain⟨u0,u1⟩:=hub u (af hui);obtain⟨pe,se,g1,g2,g3,g4⟩:=zgo hI u0 u1;have hle:=hel _ (af g2)
    have hby:byL es (us.take (i+1))=byL es (us.take i) ++ Vd es u:=by
     unfold byL;rw[z7 hui,cX];simp
    simp only[yD,aX,aW];refine zj (λσ H''=>H''=H'/\σ=[AK (.ref a),AK (.ref t),AK (.ref D),AK (.ref pu),AK (.ref se)]) ?_ ?_
    ·rfl'
     exact#[_,zv hs hqu,_,rfl,_,rfl,_,hs.seq hX,_,g1,_,rfl,_,zv hs g3,rfl]
    rintro σ G ⟨rfl,rfl⟩:_;obtain⟨zs,hZ,hZI⟩:=id hL;have hzl:=hZI.len;rw[ag]at hzl;have hse:=Is.same hs _ _ g4
    have fin:∀(ws:List Stp) (M:rV) (G2:Hp),Vd es u=ws->ws.length<=600->Same G G2->LsA K G2 M (ws.map dSt)->Q1 (V.ref D) [V.ref M] G2 λx H1=>Same H H1/\LsA K H1 D ((byL es (us.take (i+1))).map dSt)/\(byL es (us.take (i+1))).length<=(i+1) * 600:=λws M G2 ew hwl sg hM=>by
     obtain⟨ys,hY,hYI⟩:=hM;have hyl:=hYI.len;rw[ag]at hyl;have hZ2:=sg _ _ hZ;refine#[D,M,zs,ys,rfl,rfl,hZ2,hY,by lia,zI (hs.trans sg) hD,#[_,ze,?_],?_]
     ·rw[hby,ew,aA];exact Iss.append (Iss.updL hZ2 _ _ (xO _) (Iss.same sg _ _ hZI)) (Iss.updL hZ2 _ _ (xO _) hYI)
     ·rw[hby,ew,aj];lia
    right
    rfl'
    refine#[.inl #[_,SqL.of hZ],_,zv hs hqu,_,rfl,_,rfl,yx (λhf=>#[_,zv hs hqu,_,rfl,Yd hse (by lia) λM G2 _ sg hM=>fin _ M G2 (by unfold Vd;rw[if_pos hf]) (by rw[XD];lia) sg hM]) λhf=>qu hse (by lia) λM0 G1 _ sg0 hM0=>#[_,zv (hs.trans sg0) hqu,_,rfl,Yd hM0.is (by rw[yQ];lia) λM G2 _ sg hM=>fin _ M G2 (by unfold Vd;rw[if_neg hf]) (by rw[XD,yQ];lia) (sg0.trans sg) hM]]
   ·rintro σ H' ⟨hs,hL,hl,v3,v4,rfl⟩;rw[htl,aO]at hL;exact#[hs,hL,_,_,rfl]
  rintro σ H2 ⟨s2,hL2,v3,v4,rfl⟩:_;right
  rfl'
  exact q D H2 hD s2 hL2
noncomputable def zU(rs:List zp):List Nat->List Stp->Option (List Nat)
 | w,[]=>AK w
 | w,s::ss=>(yj rs w s).bind λw'=>zU rs w' ss
theorem xq(rs:List zp):∀(ss ts:List Stp) (w:List Nat),zU rs w (ss ++ ts)=(zU rs w ss).bind λw'=>zU rs w' ts
 | [],ts,w=>rfl
 | s::ss,ts,w=>by
  simp only[bu,zU]
  cases yj rs w s with
  | none=>rfl
  | some w1=>exact xq rs ss ts w1
theorem vZ{s:Stp}{w w':List Nat}(h:zU rs w (s::ss)=AK w'):∃w1,yj rs w s=AK w1/\zU rs w1 ss=AK w':=by
 simp only[zU]at h;obtain⟨w1,h1,h2⟩:=Bh.mp h;exact#[w1,h1,h2]
theorem qV{s:Stp}{w w1 w2:List Nat}(h:zU rs w ss=AK w1)(h2:yj rs w1 s=AK w2):zU rs w (ss ++ [s])=AK w2:=by
 rw[xq,h];simp only[zU,bW];rw[h2];rfl
theorem Ut(s:Stp)(ss:List Stp):yE (s::ss)=yE ss ++ [bk s]:=by simp [yE]
theorem wX:∀{ss:List Stp} {w w':List Nat},zU rs w ss=AK w'->zU rs w' (yE ss)=AK w
 | [],w,w',h=>by cases h;rfl
 | s::ss,w,w',h=>by
  obtain⟨w1,h1,h2⟩:=vZ h;rw[Ut];exact qV (wX h2) (ko h1)
theorem qW(a b:List Nat):∀{ss:List Stp} {w w':List Nat},zU rs w ss=AK w'->zU rs (a ++ w ++ b) (mvL ss (a.length:Int))=AK (a ++ w' ++ b)
 | [],w,w',h=>by cases h;rfl
 | s::ss,w,w',h=>by
  obtain⟨w1,h1,h2⟩:=vZ h;have e:mvL (s::ss) (a.length:Int)=(s.1,s.2.1+(a.length:Int),s.2.2)::mvL ss (a.length:Int):=rfl;rw[e];simp only[zU];rw[uO a b h1];exact qW a b h2
def EOk(rs:List zp)(e:Ent):Prop:=zU rs e.1 e.2.2=AK e.2.1
noncomputable def zb(es:List Ent):List zp:=es.map λe=>(e.1,e.2.1)
theorem J0(hE:∀e ∈ es,EOk rs e){u:Stp}{w w':List Nat}(h:yj (zb es) w u=AK w'):zU rs w (Vd es u)=AK w':=by
 have hb:0<=u.1/\u.1<(zb es).length:=bJ λhb=>by rw[yL hb]at h;cases h
 rw[yy hb]at h;have hl:(zb es).length=es.length:=by unfold zb;rw[ag]
 rw[hl]at hb
 have hg:es[u.1.toNat]? = AK (es.getD u.1.toNat ([],[],[])):=by
  rw[ae,ah (by lia)];rfl
 have hp:(zb es).getD u.1.toNat ([],[])=((es.getD u.1.toNat ([],[],[])).1,(es.getD u.1.toNat ([],[],[])).2.1):=by
  unfold zb;rw[ae,au,hg];rfl
 rw[hp]at h;have he:=hE _ (af hg);unfold Vd;generalize es.getD u.1.toNat ([],[],[])=e at *
 have key:∀(o n:List Nat) (ss:List Stp),sdl (e.1,e.2.1) u.2.2=(o,n)->zU rs o ss=AK n->zU rs w (mvL ss u.2.1)=AK w':=λo n ss hs hw=>by
  rw[hs]at h;by_cases hst:zq w u.2.1 o=AM
  ·rw[if_pos hst]at h;cases h;obtain⟨e1,e2,h0,h1⟩:=yP hst;have:=qW (w.take u.2.1.toNat) (w.drop (u.2.1.toNat+o.length)) hw;rw[e1,e2,show ((u.2.1.toNat:Nat):Int)=u.2.1 by lia]at this;exact this
  ·rw[if_neg hst]at h;cases h
 cases hf:u.2.2 with
 | true =>
  rw[if_pos rfl];exact key e.1 e.2.1 e.2.2 (by rw[hf];rfl) he
 | false =>
  rw[if_neg (by decide)];exact key e.2.1 e.1 (yE e.2.2) (by rw[hf];rfl) (wX he)
theorem ju(hE:∀e ∈ es,EOk rs e):∀{us:List Stp} {w w':List Nat},zU (zb es) w us=AK w'->zU rs w (byL es us)=AK w'
 | [],w,w',h=>by cases h;rfl
 | u::us,w,w',h=>by
  obtain⟨w1,h1,h2⟩:=vZ h;have e:byL es (u::us)=Vd es u ++ byL es us:=by simp [byL]
  rw[e,xq,J0 hE h1];exact ju hE h2
theorem QF(ok:jn rs){w w':List Nat}{s:Stp}(h:yj rs w s=AK w'):w'.length<=w.length+100:=by
 have hb:0<=s.1/\s.1<rs.length:=bJ λhb=>by rw[yL hb]at h;cases h
 rw[yy hb]at h;have g:=YW ok s.1.toNat;generalize rs.getD s.1.toNat ([],[])=r at *;by_cases hs:zq w s.2.1 (sdl r s.2.2).1=AM
 ·rw[if_pos hs]at h;cases h;have:=We (n:=(sdl r s.2.2).2) hs
  have h2:(sdl r s.2.2).2.length<=100:=by
   cases s.2.2
   ·exact g.1
   ·exact g.2
  lia
 ·rw[if_neg hs]at h;cases h
noncomputable def jW(D:rV)(H:Hp):Hp:=λb=>if b=D then AL else H b
theorem wU{D b:rV}(h:b≠D):jW D H b=H b:=by unfold jW;rw[if_neg h]
theorem jf{D:rV}:jW D H D=AL:=by unfold jW;rw[if_pos rfl]
theorem wS{D:rV}:Same (jW D H) H:=λb o e=>by
 by_cases hb:b=D
 ·rw[hb,jf]at e;cases e
 ·rw[wU hb]at e;exact e
theorem Qv{D:rV}{H H':Hp}(hD:H D=AL)(s:Same H H'):Same H (jW D H'):=λb o e=>by
 have hb:b≠D:=λz=>by rw[z,hD]at e;cases e
 rw[wU hb];exact s _ _ e
theorem wI{D:rV}{H H':Hp}(s:Same H H'):Same (jW D H) (jW D H'):=λb o e=>by
 by_cases hb:b=D
 ·rw[hb,jf]at e;cases e
 ·rw[wU hb]at e ⊢;exact s _ _ e
theorem xu{D:rV}{o:HO}:Same (jW D H) (jW D (upd H D o)):=λb o' e=>by
 by_cases hb:b=D
 ·rw[hb,jf]at e;cases e
 ·rw[wU hb]at e ⊢;rw[zm hb];exact e
theorem QU{D a:rV}{xs ys:List V}(hD:H D=AK (.lst ys))(h:SqT K H a xs):SqT K (jW D H) a xs:=by
 rcases h with (h | ⟨o,h⟩) | h
 ·exact .inl (.inl (by rw[wU (λe=>by rw[e,hD]at h;cases h)];exact h))
 ·exact .inl (.inr #[o,by rw[wU (λe=>by rw[e,hD]at h;cases h)];exact h])
 ·exact .inr h
theorem Wi{D:rV}{ys:List V}(hD:H D=AK (.lst ys)):∀(ss:List Stp) (vs:List V),Iss K H (ss.map dSt) vs->Iss K (jW D H) (ss.map dSt) vs
 | [],vs,h=>by simp only[aL,Iss]at h ⊢;exact h
 | s::ss,vs,h=>by
  simp only[ar,Iss]at h ⊢;obtain⟨v,r,rfl,h1,h2⟩:=h;obtain⟨p,rfl,h3⟩:=zaz h1;exact#[_,r,rfl,kd (QU hD h3),Wi hD ss r h2]
theorem zfH{p s:rV}(h1:SqT K H p [.str (tx e.1),.str (tx e.2.1),.ref s])(h2:Is K H (.lst (e.2.2.map dSt)) (.ref s)):Is K H (dE e) (.ref p):=by
 simp only[dE,Is,Iss];simp only[Is]at h2;exact#[p,_,rfl,h1,_,_,rfl,rfl,_,_,rfl,rfl,_,_,rfl,h2,rfl]
theorem Jx{vs:List V}{j:Nat}{v:V}(h:Iss K H (es.map dE) vs)(q:vs[j]? = AK v):∃e p s,es[j]? = AK e/\v=.ref p/\SqT K H p [.str (tx e.1),.str (tx e.2.1),.ref s]/\Is K H (.lst (e.2.2.map dSt)) (.ref s):=by
 obtain⟨d,e,i⟩:=h.get q;rw[au]at e;obtain⟨r,hr,rfl⟩:=AX.mp e;obtain⟨p,s,e1,e2,e3⟩:=zdY i;exact#[r,p,s,hr,e1,e2,e3]
theorem zbY{d:L3.D}{v:V}(h:Is K H d v):Iss K H [d] [v]:=by
 simp only[Iss];exact#[v,[],rfl,h,rfl]
def EnA(K:rT)(H:Hp)(e:Ent)(v:V):Prop:=∃p s,v=.ref p/\SqT K H p [.str (tx e.1),.str (tx e.2.1),.ref s]/\LsA K H s (e.2.2.map dSt)
def EnsA(K:rT)(H:Hp):List Ent->List V->Prop
 | [],vs=>vs=[]
 | e::es,vs=>∃v r,vs=v::r/\EnA K H e v/\EnsA K H es r
def EnsL(K:rT)(H:Hp)(a:rV)(es:List Ent):Prop:=∃xs,SqL K H a xs/\EnsA K H es xs
def EnsM(K:rT)(H:Hp)(a:rV)(es:List Ent):Prop:=∃xs,H a=AK (.lst xs)/\EnsA K H es xs
theorem EnA.is{v:V}(h:EnA K H e v):Is K H (dE e) v:=by
 obtain⟨p,s,rfl,h1,h2⟩:=h;exact zfH h1 h2.is
theorem EnA.same{H H':Hp}{v:V}(h:EnA K H e v)(q:Same H H'):EnA K H' e v:=by
 obtain⟨p,s,e0,h1,h2⟩:=h;exact#[p,s,e0,zv q h1,h2.same q]
theorem EnsA.iss:∀{es:List Ent} {vs:List V},EnsA K H es vs->Iss K H (es.map dE) vs
 | [],vs,h=>by simp only[EnsA]at h;simp only[aL,Iss];exact h
 | e::es,vs,h=>by
  simp only[EnsA]at h;obtain⟨v,r,rfl,h1,h2⟩:=h;simp only[ar,Iss];exact#[v,r,rfl,h1.is,h2.iss]
theorem EnsA.len{vs:List V}(h:EnsA K H es vs):vs.length=es.length:=by
 have:=h.iss.len;rw[ag]at this;exact this
theorem EnsA.same{H H':Hp}(q:Same H H'):∀{es:List Ent} {vs:List V},EnsA K H es vs->EnsA K H' es vs
 | [],vs,h=>by simp only[EnsA]at h ⊢;exact h
 | e::es,vs,h=>by
  simp only[EnsA]at h ⊢;obtain⟨v,r,e0,h1,h2⟩:=h;exact#[v,r,e0,h1.same q,h2.same q]
theorem EnsA.snoc{v:V}(hv:EnA K H e v):∀{es:List Ent} {vs:List V},EnsA K H es vs->EnsA K H (es ++ [e]) (vs ++ [v])
 | [],vs,h=>by
  simp only[EnsA]at h;subst h;simp only[bp,EnsA];exact#[v,[],rfl,hv,rfl]
 | e'::es,vs,h=>by
  simp only[EnsA]at h;obtain⟨x,r,rfl,hx,hr⟩:=h;simp only[bu,EnsA];exact#[x,r ++ [v],rfl,hx,hr.snoc hv]
theorem EnsA.get:∀{es:List Ent} {vs:List V} {j:Nat} {v:V},EnsA K H es vs->vs[j]? = AK v->∃e p s,es[j]? = AK e/\v=.ref p/\SqT K H p [.str (tx e.1),.str (tx e.2.1),.ref s]/\LsA K H s (e.2.2.map dSt)
 | [],vs,j,v,h,q=>by
  simp only[EnsA]at h;subst h;simp at q
 | e::es,vs,0,v,h,q=>by
  simp only[EnsA]at h;obtain⟨x,r,rfl,⟨p,s,rfl,h1,h2⟩,_⟩:=h;cases q;exact#[e,p,s,rfl,rfl,h1,h2]
 | e::es,vs,j+1,v,h,q=>by
  simp only[EnsA]at h;obtain⟨x,r,rfl,_,hr⟩:=h;exact hr.get (j:=j) (by simpa using q)
theorem EnsL.is{a:rV}(h:EnsL K H a es):Is K H (.lst (es.map dE)) (.ref a):=by
 obtain⟨xs,h1,h2⟩:=h;simp only[Is];exact#[a,xs,rfl,h1,h2.iss]
theorem EnsL.same{H H':Hp}{a:rV}(h:EnsL K H a es)(q:Same H H'):EnsL K H' a es:=by
 obtain⟨xs,h1,h2⟩:=h;exact#[xs,q.seq h1,h2.same q]
theorem EnsM.l{a:rV}(h:EnsM K H a es):EnsL K H a es:=by
 obtain⟨xs,h1,h2⟩:=h;exact#[xs,SqL.of h1,h2]
theorem EnsM.same{H H':Hp}{a:rV}(h:EnsM K H a es)(q:Same H H'):EnsM K H' a es:=by
 obtain⟨xs,h1,h2⟩:=h;exact#[xs,q _ _ h1,h2.same q]
theorem EnA.new{D p s:rV}{ys:List V}(hD:H D=AK (.lst ys))(hp:H p=AK (.tup [.str (tx e.1),.str (tx e.2.1),.ref s]))(hs:LsA K H s (e.2.2.map dSt))(hsD:s≠D):EnA K (jW D H) e (.ref p):=by
 obtain⟨zs,hz,hi⟩:=hs;have hpD:p≠D:=λz=>by rw[z,hD]at hp;cases hp
 exact#[p,s,rfl,SqT.of (by rw[wU hpD];exact hp),zs,by rw[wU hsD];exact hz,Wi hD _ _ hi]
theorem vV(es:List Ent):(zb es).length=es.length:=by unfold zb;rw[ag]
def wa(K:rT):Sp:=λvs H Q _=>∃(a:rV) (es:List Ent),vs=[.ref a]/\Is K H (.lst (es.map dE)) (.ref a)/\es.length<=1000/\∀(D:rV) (H':Hp),H D=AL->Same H H'->LsA K H' D ((zb es).map dR)->Q (.ref D) H'
theorem xJ{a:rV}(h1:Is K H (.lst (es.map dE)) (.ref a))(h2:es.length<=1000)(h:∀(D:rV) (H':Hp),H D=AL->Same H H'->LsA K H' D ((zb es).map dR)->Q (.ref D) H'):wa K [.ref a] H Q E:=#[a,es,rfl,h1,h2,h]
theorem YM:zk ["entries"] ["entries"] (zh vc):=by nofun
theorem Y9(B:Bt mg)(F:Fun K "pairs_of" "pairs_of" vc f fd) : zP P w K mg base CX0 1 f fd ["entries"] (wa K):=by
 exists F.ok YM
 ·obtain⟨a,es,rfl,hA,hl,q⟩:=h;refine#[_,(zf (zl (wv (own:=["entry"]) (caps:=[]) (ix:=[]) (tt:=vG) (te:=(Jg (zL (tOp (qG K) (yk 0) (tC (.int 0))) (zL (tOp (qG K) (yk 0) (tC (.int 1))) xT)))) rfl (zZ (sc:=zh vc) rfl (by symm) (by symm) (by symm) rfl (by symm) (by symm) rfl) (yw (pv 0)) (λ_ _ _ _ _ _=>zx (i:=0) (show List.Nodup [_] by decide) rfl (.inl rfl)) (λ_ _ _ _ _ _=>yY) (λ_ _ _ _ _ _=>(zR (za (zo ix_tup (pv 0) zg) (za (zo ix_tup (pv 0) zg) zd))))))),?_];have s16:=zQ
  rfl'
  simp only[Is]at hA;obtain⟨_,xs,e,hX,hI⟩:=hA;cases e;have hxl:=hI.len;rw[ag]at hxl;have hpl:=vV es;refine#[#[xs,hX],λD hD=>CompL.by (xs:=xs) (λi AR H'=>Same H H'/\H' D=AK (.lst AR)/\Iss K H' (((zb es).take i).map dR) AR) #[zc hD,ze,by simp only[bS,aL,Iss]] (λi AR H' _ h=>h.1.seq hX) ?_ ?_]
  ·rintro i x AR H' hx ⟨hs,hH,hA⟩;have hi:=(AS.mp hx).1;obtain⟨e,pe,se,hei,rfl,hqe,_⟩:=Jx hI hx;have hm:(zb es)[i]? = AK (e.1,e.2.1):=by unfold zb;rw[au,hei];rfl
   have hal:=hA.len;rw[ag,aG]at hal;simp only[vG]
   rfl'
   refine#[wx,_,zv hs hqe,_,rfl,_,zv hs hqe,_,rfl,by lia,λp hp=>#[zc hp _ _ hH,by lia,CNx.mk hi #[zI (hs.trans (zc hp)) hD,ze,?_]]];rw[z7 hm,aA];exact qf hH hA hp zdP (XG _) (by simp only[zS,y8,and_self])
  ·rintro AR H' ⟨hs,hH,hA⟩;rw[hxl,<- hpl,aO]at hA;exact q D H' hD hs #[AR,hH,hA]
noncomputable def ym(k:Nat)(l:List Nat)(ns:List Int)(e:Ent):Ent:=if zK k l ns e.2.1 e.1=AM then e else (e.2.1,e.1,yE e.2.2)
structure EB(l:List Nat)(e:Ent):Prop where
 a:e.1.length<=60
 b:e.2.1.length<=60
 s:e.2.2.length<=600
 ma:∀c ∈ e.1,c ∈ l
 mb:∀c ∈ e.2.1,c ∈ l
theorem EB.rule{l:List Nat}(h:EB l e):EB l (ym k l ns e):=by
 unfold ym;split
 ·exact h
 ·exact#[h.b,h.a,by rw[yQ];exact h.s,h.mb,h.ma]
def wQ(K:rT)(CO CR CW:rV):Sp:=λvs H Q _=>∃(o p s:rV) (k:Nat) (l:List Nat) (ns:List Int) (e:Ent),vs=[.ref o,.ref p]/\OrdAt CO CR CW H o k l ns/\OG l ns k/\SqT K H p [.str (tx e.1),.str (tx e.2.1),.ref s]/\Is K H (.lst (e.2.2.map dSt)) (.ref s)/\EB l e /\
 (ym k l ns e=e->∀H',Same H H'->Q (.ref p) H') /\
 (∀(p' s':rV) (H':Hp),Same H H'->H s'=AL->H' p'=AK (.tup [.str (tx (ym k l ns e).1),.str (tx (ym k l ns e).2.1),.ref s'])->LsA K H' s' ((ym k l ns e).2.2.map dSt)->Q (.ref p') H')
theorem j7{CO CR CW o p s:rV}{l:List Nat}(h1:OrdAt CO CR CW H o k l ns)(h2:OG l ns k)(h3:SqT K H p [.str (tx e.1),.str (tx e.2.1),.ref s])(h4:Is K H (.lst (e.2.2.map dSt)) (.ref s))(h5:EB l e)
  (h6:ym k l ns e=e->∀H',Same H H'->Q (.ref p) H') (h7:∀(p' s':rV) (H':Hp),Same H H'->H s'=AL->H' p'=AK (.tup [.str (tx (ym k l ns e).1),.str (tx (ym k l ns e).2.1),.ref s'])->LsA K H' s' ((ym k l ns e).2.2.map dSt)->Q (.ref p') H'):wQ K CO CR CW [.ref o,.ref p] H Q E :=
 #[o,p,s,k,l,ns,e,rfl,h1,h2,h3,h4,h5,h6,h7]
theorem W3:zk ["order","entry"] ["order","entry"] (zh qB):=by nofun
theorem Vf{f CO CR CW:rV}(B:Bt mg)(DBk:DB P w K mg base CO CR CW)(F:Fun K "as_rule" "as_rule" qB f fd)(me:Df P w K mg base CX0 1 "back" ["steps"] [] (uG K)):zP P w K mg base CX0 4 f fd ["order","entry"] (wQ K CO CR CW):=by
 exists F.ok W3
 ·obtain⟨o,p,s,k,l,ns,e,rfl,ho,hG,hp,hs,hE,q1,q2⟩:=h
  refine#[_,(zG (zM (xC (zcF DBk hr (pv 0) (za (zo ix_tup (pv 1) zg) (za (zo ix_tup (pv 1) zg) zd))) (λ_=>rfl))
    (zf (zl (pv 1)))
    zw)
   (zf (zl (zR (za (zo ix_tup (pv 1) zg) (za (zo ix_tup (pv 1) zg) (za (cl0 me hr .nil rfl (za (zo ix_tup (pv 1) zg) zd)) zd))))))),?_]
  have s16:=zQ;ac_rfl;obtain⟨C,dx,fs,hf,ho1,hn,_⟩:=ho.fam;have h1:fs.lookup ("before" : si)=AL:=hn _ (by decide) (by decide);refine#[C,hf,dx,fs,ho1,h1,_,hp,_,rfl,_,hp,_,rfl,o,k,l,ns,e.2.1,e.1,rfl,ho,hG,by have:=hE.b;lia,by have:=hE.a;lia,hE.mb,hE.ma,λH1 s1=>#[_,rfl,yx (λh=>?_) λh=>?_]]
  ·exact q1 (by unfold ym;rw[if_pos h]) H1 s1
  ·have er:ym k l ns e=(e.2.1,e.1,yE e.2.2):=by unfold ym;rw[if_neg h]
   rw[er]at q2;have hp1:=zv s1 hp;refine#[_,hp1,_,rfl,_,hp1,_,rfl,_,hp1,_,rfl,qu (Is.same s1 _ _ hs) (by have:=hE.s;lia) λD H2 hD s2 hL=>#[by lia,λt ht=>?_]];exact q2 t D _ (s1.trans (s2.trans (zc ht))) (s1.free hD) ze (hL.same (zc ht))
theorem Xl{l:List Nat}{w:List Nat}(hb:∀n ∈ ns,1<=n/\n<=1000000):0<=Vy l ns w:=by
 unfold Vy
 have key:∀xs:List Int,(∀x ∈ xs,0<=x)->0<=xs.sum:=by
  intro xs
  induction xs with
  | nil=>intro _;simp
  | cons x xs ih =>
   intro h;rw[bh];have h1:=h x ax;have h2:=ih λy hy=>h y (am _ hy);lia
 refine key _ λx hx=>?_;obtain⟨p,hp,rfl⟩:=AT.mp hx;have h1:=(hb p.2 (cZ (show (p.1,p.2) ∈ l.zip ns from hp)).2).1;exact Int.mul_nonneg (by lia) (by lia)
theorem U3{l:List Nat}{u v:List Nat}(hb:∀n ∈ ns,1<=n/\n<=1000000)(h:zK k l ns u v=AM):v≠[]:=by
 intro e;subst e
 have h0:zr k l ns []=0:=by
  unfold zr;split
  ·unfold Vy
   have z:∀xs:List (Nat × Int),(xs.map λp=>(([]:List Nat).count p.1:Int) * p.2).sum=0:=by
    intro xs
    induction xs with
    | nil=>rfl
    | cons x xs ih=>rw[ar,bh,ih];simp
   exact z _
  ·rfl
 have h1:0<=zr k l ns u:=by
  unfold zr;split
  ·exact Xl hb
  ·lia
 have h2:qL k l []=[]:=by
  unfold qL xn;split <;> rfl
 unfold zK at h;rw[h0,h2]at h;split at h
 ·cases hr:qL k l u with
  | nil=>rw[hr]at h;cases h
  | cons a r=>rw[hr]at h;cases h
 ·have:=of_decide_eq_true h;lia
theorem jc{k:Nat}{l:List Nat}{ns:List Int}(hE:EB l e)(hne:e.1≠e.2.1):zK k l ns (ym k l ns e).2.1 (ym k l ns e).1=AM:=by
 unfold ym;by_cases h:zK k l ns e.2.1 e.1=AM
 ·rw[if_pos h];exact h
 ·rw[if_neg h];have:=jq (k:=k) (ns:=ns) hE.ma hE.mb hne;show zK k l ns e.1 e.2.1=AM;rw[this];simpa using h
noncomputable def jb(k:Nat)(l:List Nat)(ns:List Int)(es:List Ent):List Ent:=(es.filter λe=>!decide (e.1=e.2.1)).map (ym k l ns)
theorem zbK(k:Nat)(l:List Nat)(ns:List Int)(es fs:List Ent):jb k l ns (es ++ fs)=jb k l ns es ++ jb k l ns fs:=by
 unfold jb;rw[cM,aA]
theorem Xi(k:Nat)(l:List Nat)(ns:List Int)(es:List Ent):(jb k l ns es).length<=es.length:=by
 unfold jb;rw[ag];exact cQ _ _
noncomputable def W4(k:Nat)(l:List Nat)(ns:List Int)(a b:Ent):Bool:=if a.1=b.1 then zK k l ns a.2.1 b.2.1 else zK k l ns a.1 b.1
structure Lined(k:Nat)(l:List Nat)(ns:List Int)(es zs:List Ent):Prop where
 perm:zs.Perm (jb k l ns es)
 srt:zs.Pairwise λa b=>W4 k l ns b a=AN
structure zJ(ps:List zp)(w:List Nat)(i:Nat):Prop where
 live:WW ps w i
 end_:zE (wAt ps w i) ps=AL
 most:i<=40
theorem zcx(ps:List zp)(w:List Nat):(∃i,zJ ps w i)\/(WW ps w 40/\zE (wAt ps w 40) ps≠AL):=by
 have key:∀n,n<=41->(∃i,zJ ps w i)\/WW ps w n:=by
  intro n
  induction n with
  | zero=>intro _;exact .inr λi h=>absurd h (cf i)
  | succ n ih =>
   intro hn;rcases ih (by lia)with h | h
   ·exact .inl h
   ·cases e:zE (wAt ps w n) ps with
    | none=>exact .inl #[n,h,e,by lia]
    | some u =>
     refine .inr λi hi=>?_;by_cases hin:i=n
     ·rw[hin,e];intro z;cases z
     ·exact h i (by lia)
 rcases key 41 (al _)with h | h
 ·exact .inl h
 ·exact .inr #[λi hi=>h i (by lia),h 40 (by decide)]
noncomputable def stS(us:List (Nat × Nat)):List Stp:=us.map λu=>((u.1:Int),(u.2:Int),AM)
noncomputable def yI(bs:List Ent)(e:Ent)(i j:Nat):Ent:=(wAt (zb bs) e.1 i,wAt (zb bs) e.2.1 j,byL bs (yE (stS (sAt (zb bs) e.1 i))) ++ e.2.2 ++ byL bs (stS (sAt (zb bs) e.2.1 j)))
def jD(e:Ent):Prop:=240<e.2.2.length\/60<e.1.length\/60<e.2.1.length
inductive xp(k:Nat)(l:List Nat)(ns:List Int):List Ent->List Ent->Option (List Ent)->Prop where
 | nil (bs:List Ent):xp k l ns bs [] (AK bs)
 | same {bs es:List Ent} {e:Ent} {i j:Nat} {r:Option (List Ent)} (h1:zJ (zb bs) e.1 i) (h2:zJ (zb bs) e.2.1 j) (h3:wAt (zb bs) e.1 i=wAt (zb bs) e.2.1 j) (h4:xp k l ns bs es r):xp k l ns bs (e::es) r
 | new {bs es:List Ent} {e:Ent} {i j:Nat} {r:Option (List Ent)} (h1:zJ (zb bs) e.1 i) (h2:zJ (zb bs) e.2.1 j) (h3:wAt (zb bs) e.1 i≠wAt (zb bs) e.2.1 j) (h4:¬ jD (yI bs e i j)) (h5:xp k l ns (bs ++ [ym k l ns (yI bs e i j)]) es r):xp k l ns bs (e::es) r
 | far {bs es:List Ent} {e:Ent} {i j:Nat} (h1:zJ (zb bs) e.1 i) (h2:zJ (zb bs) e.2.1 j) (h3:wAt (zb bs) e.1 i≠wAt (zb bs) e.2.1 j) (h4:jD (yI bs e i j)):xp k l ns bs (e::es) AL
 | stuck {bs es:List Ent} {e:Ent} (h:(∀i,¬ zJ (zb bs) e.1 i)\/(∀j,¬ zJ (zb bs) e.2.1 j)):xp k l ns bs (e::es) AL
inductive uq(k:Nat)(l:List Nat)(ns:List Int):Nat->List Ent->Option (List Ent)->Prop where
 | out (es:List Ent):uq k l ns 0 es AL
 | bad {n:Nat} {es zs:List Ent} (h1:Lined k l ns es zs) (h2:xp k l ns [] zs AL):uq k l ns (n+1) es AL
 | done {n:Nat} {es zs bs:List Ent} (h1:Lined k l ns es zs) (h2:xp k l ns [] zs (AK bs)) (h3:zb bs=zb zs):uq k l ns (n+1) es (AK bs)
 | more {n:Nat} {es zs bs:List Ent} {r:Option (List Ent)} (h1:Lined k l ns es zs) (h2:xp k l ns [] zs (AK bs)) (h3:zb bs≠zb zs) (h4:uq k l ns n bs r):uq k l ns (n+1) es r
theorem yT{w:List Nat}{u:Nat × Nat}(h:zE w ps=AK u):∃p,ps[u.1]? = AK p/\zq w (u.2:Int) p.1=AM:=by
 have hm:u ∈ xj w ps w.length:=fj (by unfold zE at h;rw[h];rfl);exact (wM (usesK_mem.mp hm).2).2
theorem ux{l w:List Nat}(hw:∀c ∈ w,c ∈ l)(hp:∀p ∈ ps,∀c ∈ p.2,c ∈ l):∀j,∀c ∈ wAt ps w j,c ∈ l
 | 0=>hw
 | j+1=>by
  have ih:=ux hw hp j
  cases e:zE (wAt ps w j) ps with
  | none =>
   show ∀c ∈ XQ ps (wAt ps w j),c ∈ l;unfold XQ;rw[e];exact ih
  | some u =>
   obtain⟨p,h1,h2⟩:=yT e;rw[wj e];unfold YH yC;rw[xg h1];intro c hc;rcases AU.mp hc with hc | hc
   ·rcases AU.mp hc with hc | hc
    ·exact ih c (aZ hc)
    ·exact hp p (af h1) c hc
   ·exact ih c (cj hc)
structure W0(R:List Nat->List Nat->Prop):Prop where
 refl:∀u,R u u
 symm:∀{u v},R u v->R v u
 trans:∀{u v w},R u v->R v w->R u w
 ctx:∀{u v} (a b:List Nat),R u v->R (a ++ u ++ b) (a ++ v ++ b)
def vz(R:List Nat->List Nat->Prop)(es:List Ent):Prop:=∀e ∈ es,R e.1 e.2.1
theorem zb2{R:List Nat->List Nat->Prop}(hR:W0 R)(hk:∀p ∈ ps,R p.1 p.2)(w:List Nat):∀j,R w (wAt ps w j)
 | 0=>hR.refl w
 | j+1=>by
  have ih:=zb2 hR hk w j
  cases e:zE (wAt ps w j) ps with
  | none =>
   show R w (XQ ps (wAt ps w j));unfold XQ;rw[e];exact ih
  | some u =>
   obtain⟨p,h1,h2⟩:=yT e;rw[wj e];refine hR.trans ih ?_;obtain⟨e1,_⟩:=yP h2;unfold YH yC;rw[xg h1];have:=hR.ctx ((wAt ps w j).take ((u.2:Int)).toNat) ((wAt ps w j).drop (((u.2:Int)).toNat+p.1.length)) (hk p (af h1));rw[e1]at this;exact this
theorem qF{R:List Nat->List Nat->Prop}(h:vz R bs):∀p ∈ zb bs,R p.1 p.2:=λp hp=>by
 unfold zb at hp;obtain⟨e,he,rfl⟩:=AT.mp hp;exact h e he
theorem vg{R:List Nat->List Nat->Prop}(hR:W0 R){l:List Nat}:R (ym k l ns e).1 (ym k l ns e).2.1 ↔ R e.1 e.2.1:=by
 unfold ym;split
 ·exact Iff.rfl
 ·exact#[hR.symm,hR.symm]
theorem Qu{R:List Nat->List Nat->Prop}(hR:W0 R){i j:Nat}(h:vz R bs):R (wAt (zb bs) e.1 i) (wAt (zb bs) e.2.1 j) ↔ R e.1 e.2.1:=by
 have h1:=zb2 hR (qF h) e.1 i;have h2:=zb2 hR (qF h) e.2.1 j;exact#[λx=>hR.trans h1 (hR.trans x (hR.symm h2)),λx=>hR.trans (hR.symm h1) (hR.trans x h2)]
theorem Qx{R:List Nat->List Nat->Prop}(hR:W0 R){l:List Nat}{bs es:List Ent}{r:Option (List Ent)}(h:xp k l ns bs es r):∀fs,r=AK fs->(vz R fs ↔ vz R bs/\vz R es):=by
 induction h with
 | nil bs =>
  intro fs e;cases e;exact#[λh=>#[h,λe he=>(nomatch he)],λh=>h.1]
 | @same bs es e i j r h1 h2 h3 h4 ih =>
  intro fs er;rw[ih fs er];refine#[λ⟨a,b⟩=>#[a,λx hx=>?_],λ⟨a,b⟩=>#[a,λx hx=>b x (am _ hx)]];rcases AV.mp hx with rfl | hx
  ·refine (Qu hR a (i:=i) (j:=j)).mp ?_;rw[h3];exact hR.refl _
  ·exact b x hx
 | @new bs es e i j r h1 h2 h3 h4 h5 ih =>
  intro fs er;rw[ih fs er];constructor
  ·rintro⟨a,b⟩;have a':vz R bs:=λx hx=>a x (bi _ hx);refine#[a',λx hx=>?_];rcases AV.mp hx with rfl | hx
   ·have:=a _ (aC bs (AW.mpr rfl));exact (Qu hR a' (i:=i) (j:=j)).mp ((vg hR).mp this)
   ·exact b x hx
  ·rintro⟨a,b⟩;refine#[λx hx=>?_,λx hx=>b x (am _ hx)];rcases AU.mp hx with hx | hx
   ·exact a x hx
   ·rw[AW.mp hx];exact (vg hR).mpr ((Qu hR a (i:=i) (j:=j)).mpr (b e ax))
 | far=>intro fs e;cases e
 | stuck=>intro fs e;cases e
theorem UA{R:List Nat->List Nat->Prop}(hR:W0 R){l:List Nat}{es zs:List Ent}(h:Lined k l ns es zs):vz R zs ↔ vz R es:=by
 have h1:vz R zs ↔ vz R (jb k l ns es):=#[λa x hx=>a x (h.perm.mem_iff.mpr hx),λa x hx=>a x (h.perm.mem_iff.mp hx)];rw[h1];unfold jb;constructor
 ·intro a x hx;by_cases e:x.1=x.2.1
  ·rw[e];exact hR.refl _
  ·exact (vg hR).mp (a _ (AT.mpr #[x,AY.mpr #[hx,by simpa using e],rfl]))
 ·intro a x hx;obtain⟨y,hy,rfl⟩:=AT.mp hx;exact (vg hR).mpr (a y ((AY.mp hy).1))
theorem zaD{R:List Nat->List Nat->Prop}(hR:W0 R){k n:Nat}{l:List Nat}{r:Option (List Ent)}(h:uq k l ns n es r):∀fs,r=AK fs->(vz R fs ↔ vz R es):=by
 have nilk:vz R []:=λe he=>(nomatch he)
 induction h with
 | out=>intro fs e;cases e
 | bad=>intro fs e;cases e
 | done h1 h2 h3 =>
  intro fs e;rw[Qx hR h2 fs e,UA hR h1];exact#[λh=>h.2,λh=>#[nilk,h]]
 | more h1 h2 h3 h4 ih =>
  intro fs e;rw[ih fs e,Qx hR h2 _ rfl,UA hR h1];exact#[λh=>h.2,λh=>#[nilk,h]]
def Within(p w:List Nat):Prop:=∃a b:List Nat,w=a ++ p ++ b
theorem QH{w p:List Nat}(h:Within p w):∃q:Nat,zq w (q:Int) p=AM:=by
 obtain⟨a,b,rfl⟩:=h;refine#[a.length,?_];unfold zq;refine decide_eq_true #[by lia,by simp only[aj];lia,?_];rw[aJ,ao,cE,cS]
theorem QR{w:List Nat}(hN:NeL ps)(h:zE w ps=AL):∀p ∈ ps,¬ Within p.1 w:=λp hp hw=>by
 obtain⟨q,hq⟩:=QH hw;obtain⟨j,hj⟩:=Bb.mp hp;have hlt:=uh (hN p hp) hq;have hs:stJ w ps q j=AM:=by rw[jp hj];exact hq
 have:(j,q) ∈ xj w ps w.length:=usesK_mem.mpr #[hlt,hs];unfold zE at h;rw[List.head?_eq_none_iff]at h;rw[h]at this;cases this
structure RL(k:Nat)(l:List Nat)(ns:List Int)(bs:List Ent):Prop where
 e:∀e ∈ bs,EB l e
 lt:∀e ∈ bs,zK k l ns e.2.1 e.1=AM
theorem Ko{l:List Nat}{w:List Nat}{u:Nat × Nat}(G:OG l ns k)(hp:∀p ∈ ps,zK k l ns p.2 p.1=AM/\(∀c ∈ p.1,c ∈ l)/\∀c ∈ p.2,c ∈ l)(hw:∀c ∈ w,c ∈ l)(h:zE w ps=AK u):zK k l ns (YH w ps u) w=AM:=by
 obtain⟨p,h1,h2⟩:=yT h;obtain⟨e1,_⟩:=yP h2;obtain⟨p1,p2,p3⟩:=hp p (af h1);unfold YH yC;rw[xg h1];have ha:∀c ∈ w.take ((u.2:Int)).toNat,c ∈ l:=λc hc=>hw c (aZ hc);have hb:∀c ∈ w.drop (((u.2:Int)).toNat+p.1.length),c ∈ l:=λc hc=>hw c (cj hc);generalize w.take ((u.2:Int)).toNat=a at *;generalize w.drop (((u.2:Int)).toNat+p.1.length)=b at *;rw[<- e1];have ap:∀x:List Nat,(∀c ∈ x,c ∈ l)->∀c ∈ a ++ x,c ∈ l:=λx hx c hc=>(AU.mp hc).elim (ha c) (hx c);rw[(vS G hb (ap p.2 p3) (ap p.1 p2)).2,(vS G ha p3 p2).1];exact p1
theorem KU{l:List Nat}{w:List Nat}(G:OG l ns k)(hp:∀p ∈ ps,zK k l ns p.2 p.1=AM/\(∀c ∈ p.1,c ∈ l)/\∀c ∈ p.2,c ∈ l)(hw:∀c ∈ w,c ∈ l):∀j,wAt ps w j=w\/zK k l ns (wAt ps w j) w=AM
 | 0=>.inl rfl
 | j+1=>by
  have ih:=KU G hp hw j;have hm:=ux hw (λp hp'=>(hp p hp').2.2) j
  cases e:zE (wAt ps w j) ps with
  | none =>
   show XQ ps (wAt ps w j)=w\/zK k l ns (XQ ps (wAt ps w j)) w=AM;unfold XQ;rw[e];exact ih
  | some u =>
   rw[wj e];have h:=Ko G hp hm e;rcases ih with h' | h'
   ·rw[h']at h ⊢;exact .inr h
   ·exact .inr (wu h h')
theorem RL.pairs{l:List Nat}(h:RL k l ns bs):∀p ∈ zb bs,zK k l ns p.2 p.1=AM/\(∀c ∈ p.1,c ∈ l)/\∀c ∈ p.2,c ∈ l:=λp hp=>by
 unfold zb at hp;obtain⟨e,he,rfl⟩:=AT.mp hp;exact#[h.lt e he,(h.e e he).ma,(h.e e he).mb]
theorem RL.ne{l:List Nat}(h:RL k l ns bs)(G:OG l ns k):NeL (zb bs):=λp hp=>U3 G.nb (h.pairs p hp).1
theorem RL.snoc{l:List Nat}{d:Ent}(h:RL k l ns bs)(hd:EB l d)(hne:d.1≠d.2.1):RL k l ns (bs ++ [ym k l ns d]):=by
 refine#[λe he=>?_,λe he=>?_]
 ·rcases AU.mp he with he | he
  ·exact h.e e he
  ·rw[AW.mp he];exact hd.rule
 ·rcases AU.mp he with he | he
  ·exact h.lt e he
  ·rw[AW.mp he];exact jc hd hne
theorem zcc{l:List Nat}{i j:Nat}(hB:RL k l ns bs)(hE:EB l e)(hF:¬ jD (yI bs e i j)):EB l (yI bs e i j):=by
 unfold jD at hF;exact#[by lia,by lia,by lia,ux hE.ma (λp hp=>(hB.pairs p hp).2.2) i,ux hE.mb (λp hp=>(hB.pairs p hp).2.2) j]
theorem W9{l:List Nat}{i j:Nat}(G:OG l ns k)(hB:RL k l ns bs)(hE:EB l e)(hlt:zK k l ns e.2.1 e.1=AM)(h1:zJ (zb bs) e.1 i)(h2:zJ (zb bs) e.2.1 j)
  (hp1:(ym k l ns (yI bs e i j)).1=e.1) (hp2:(ym k l ns (yI bs e i j)).2.1=e.2.1):zE e.1 (zb bs)=AL/\zE e.2.1 (zb bs)=AL:=by
 unfold ym at hp1 hp2;by_cases h:zK k l ns (yI bs e i j).2.1 (yI bs e i j).1=AM
 ·rw[if_pos h]at hp1 hp2;have a1:wAt (zb bs) e.1 i=e.1:=hp1;have a2:wAt (zb bs) e.2.1 j=e.2.1:=hp2;have b1:=h1.end_;have b2:=h2.end_;rw[a1]at b1;rw[a2]at b2;exact#[b1,b2]
 ·rw[if_neg h]at hp1 hp2;have a1:wAt (zb bs) e.2.1 j=e.1:=hp1;rcases KU G hB.pairs hE.mb j with h' | h'
  ·rw[a1]at h';rw[h',yR]at hlt;cases hlt
  ·rw[a1]at h';rw[Xf h']at hlt;cases hlt
theorem j5{l:List Nat}(G:OG l ns k){bs es:List Ent}{r:Option (List Ent)}(h:xp k l ns bs es r):∀fs,r=AK fs->RL k l ns bs->RL k l ns es->∃gs,fs=bs ++ gs/\gs.length<=es.length/\RL k l ns fs /\
  (zb gs=zb es->∀i e,es[i]? = AK e->zE e.1 (zb (bs ++ gs.take i))=AL/\zE e.2.1 (zb (bs ++ gs.take i))=AL):=by
 induction h with
 | nil bs =>
  intro fs er hb he;cases er;exact#[[],by simp,al _,hb,λ_ i e h=>by simp at h]
 | @same bs es e i j r h1 h2 h3 h4 ih =>
  intro fs er hb he;obtain⟨gs,g1,g2,g3,g4⟩:=ih fs er hb #[λx hx=>he.e x (am _ hx),λx hx=>he.lt x (am _ hx)];refine#[gs,g1,by rw[aI];lia,g3,λhp=>?_];have:=congrArg fJ hp;unfold zb at this;rw[ag,ag,aI]at this;lia
 | @new bs es e i j r h1 h2 h3 h4 h5 ih =>
  intro fs er hb he;have hEe:=he.e e ax;have hd:=zcc hb hEe h4;obtain⟨gs,g1,g2,g3,g4⟩:=ih fs er (hb.snoc hd h3) #[λx hx=>he.e x (am _ hx),λx hx=>he.lt x (am _ hx)];refine#[ym k l ns (yI bs e i j)::gs,by rw[g1,ao];rfl,by rw[aI,aI];lia,g3,λhp n x hx=>?_];unfold zb at hp;rw[ar,ar]at hp;injection hp with hp1 hp2;have hp1a:=(Prod.ext_iff.mp hp1).1;have hp1b:=(Prod.ext_iff.mp hp1).2
  cases n with
  | zero =>
   have e0:e=x:=by simpa using hx
   subst e0;rw[bS,aT];exact W9 G hb hEe (he.lt _ ax) h1 h2 hp1a hp1b
  | succ n =>
   have:=g4 hp2 n x (by simpa using hx);rw[ao]at this;rw[dO];exact this
 | far=>intro fs e;cases e
 | stuck=>intro fs e;cases e
theorem uN{l:List Nat}(G:OG l ns k){p w:List Nat}(hw:∀c ∈ w,c ∈ l)(h:Within p w):p=w\/zK k l ns p w=AM:=by
 obtain⟨a,b,rfl⟩:=h;by_cases e:a ++ p ++ b=p
 ·exact .inl e.symm
 ·refine .inr (KB G (λc hc=>hw c ?_) (λc hc=>hw c ?_) (λc hc=>hw c ?_) e).1
  ·exact bi _ (bi _ hc)
  ·exact bi _ (aC _ hc)
  ·exact aC _ hc
structure ThinL(k:Nat)(l:List Nat)(ns:List Int)(zs:List Ent):Prop where
 rl:RL k l ns zs
 up:∀(i j:Nat) (a b:Ent),zs[i]? = AK a->zs[j]? = AK b->i<j->zK k l ns a.1 b.1=AM
 no1:∀(i j:Nat) (a b:Ent),zs[i]? = AK a->zs[j]? = AK b->i≠j->¬ Within b.1 a.1
 no2:∀(i j:Nat) (a b:Ent),zs[i]? = AK a->zs[j]? = AK b->¬ Within b.1 a.2.1
theorem zbJ{k:Nat}{l:List Nat}{ns:List Int}(G:OG l ns k){zs bs:List Ent}(hz:RL k l ns zs)(hs:zs.Pairwise λa b=>W4 k l ns b a=AN)(h:xp k l ns [] zs (AK bs))(hp:zb bs=zb zs):ThinL k l ns zs:=by
 obtain⟨gs,g1,g2,g3,g4⟩:=j5 G h bs rfl #[λe he=>(nomatch he),λe he=>(nomatch he)] hz;rw[bp]at g1;subst g1;have irr:=g4 hp;simp only[bp]at irr
 have early:∀(i j:Nat) (a b:Ent),zs[i]? = AK a->zs[j]? = AK b->j<i->¬ Within b.1 a.1/\¬ Within b.1 a.2.1:=λi j a b ha hb hj=>by
  have hm:(b.1,b.2.1) ∈ zb (bs.take i):=by
   have e1:zb (bs.take i)=(zb zs).take i:=by
    rw[<- hp];unfold zb;rw[List.map_take]
   rw[e1];refine Bb.mpr #[j,?_];rw[br hj];unfold zb;rw[au,hb];rfl
  have hN:NeL (zb (bs.take i)):=λp hp'=>by
   refine (g3.ne G) p ?_;unfold zb at hp' ⊢;obtain⟨x,hx,rfl⟩:=AT.mp hp';exact AT.mpr #[x,aZ hx,rfl]
  obtain⟨f1,f2⟩:=irr i a ha;exact#[QR hN f1 _ hm,QR hN f2 _ hm]
 have later:∀(i j:Nat) (a b:Ent),zs[i]? = AK a->zs[j]? = AK b->i<j->zK k l ns b.1 a.1=AN:=λi j a b ha hb hij=>by
  have hi:=(AS.mp ha);have hj:=(AS.mp hb);have:=List.pairwise_iff_getElem.mp hs i j hi.1 hj.1 hij;rw[hi.2,hj.2]at this;unfold W4 at this;by_cases e:b.1=a.1
  ·rw[e,yR]
  ·rw[if_neg e]at this;exact this
 have memz:∀{i:Nat} {a:Ent},zs[i]? = AK a->EB l a/\zK k l ns a.2.1 a.1=AM:=λ{i a} ha=>#[hz.e _ (af ha),hz.lt _ (af ha)]
 have up:∀(i j:Nat) (a b:Ent),zs[i]? = AK a->zs[j]? = AK b->i<j->zK k l ns a.1 b.1=AM:=λi j a b ha hb hij=>by
  have hne:a.1≠b.1:=λe=>(early j i b a hb ha hij).1 #[[],[],by rw[e];simp];have t:=jq (k:=k) (ns:=ns) (memz ha).1.ma (memz hb).1.ma hne;rw[later i j a b ha hb hij]at t;simpa using t
 refine#[hz,up,λi j a b ha hb hij=>?_,λi j a b ha hb hw=>?_]
 ·rcases Nat.lt_or_gt_of_ne hij with h1 | h1
  ·intro hw;rcases uN G (memz ha).1.ma hw with e | e
   ·have:=up i j a b ha hb h1;rw[e,yR]at this;cases this
   ·rw[later i j a b ha hb h1]at e;cases e
  ·exact (early i j a b ha hb h1).1
 ·have hle:zK k l ns b.1 a.1=AM:=by
   rcases uN G (memz ha).1.mb hw with e | e
   ·rw[e];exact (memz ha).2
   ·exact wu e (memz ha).2
  rcases ee i j with h1 | h1 | h1
  ·rw[later i j a b ha hb h1]at hle;cases hle
  ·subst h1;rw[ha]at hb;cases hb;rw[yR]at hle;cases hle
  ·exact (early i j a b ha hb h1).2 hw
theorem vX{w:List Nat}:∀{i:Nat},WW ps w i->zU ps w (stS (sAt ps w i))=AK (wAt ps w i)
 | 0,_=>rfl
 | i+1,h=>by
  have ih:=vX (i:=i) λj hj=>h j (by lia);have hne:=h i (by lia)
  cases e:zE (wAt ps w i) ps with
  | none=>exact absurd e hne
  | some u =>
   rw[X3,wj e,e];unfold stS at ih ⊢;rw[aA];refine qV ih ?_;obtain⟨p,h1,h2⟩:=yT e;have hl:=(AS.mp h1).1;show yj ps (wAt ps w i) ((u.1:Int),(u.2:Int),AM)=_;rw[yy (by show (0:Int)<=(u.1:Int)/\(u.1:Int)<ps.length;lia)];have e2:ps.getD ((u.1:Int)).toNat ([],[])=p:=by rw[aJ,ae,h1];rfl
   show (if zq (wAt ps w i) (u.2:Int) (sdl (ps.getD ((u.1:Int)).toNat ([],[])) AM).1=AM then _ else AL)=_;rw[e2,if_pos (show zq (wAt ps w i) (u.2:Int) (sdl p AM).1=AM from h2)];unfold YH;rw[xg h1];rfl
theorem Qd{l:List Nat}(h:EOk rs e):EOk rs (ym k l ns e):=by
 unfold ym;split
 ·exact h
 ·exact wX h
theorem za8{i j:Nat}(hb:∀e ∈ bs,EOk rs e)(he:EOk rs e)(h1:zJ (zb bs) e.1 i)(h2:zJ (zb bs) e.2.1 j):EOk rs (yI bs e i j):=by
 have w1:=ju hb (wX (vX h1.live));have w2:=ju hb (vX h2.live);have he':zU rs e.1 e.2.2=AK e.2.1:=he;show zU rs (wAt (zb bs) e.1 i) (byL bs (yE (stS (sAt (zb bs) e.1 i))) ++ e.2.2 ++ byL bs (stS (sAt (zb bs) e.2.1 j)))=AK (wAt (zb bs) e.2.1 j);rw[xq,xq,w1,bW,he',bW];exact w2
theorem XF{l:List Nat}{bs es:List Ent}{r:Option (List Ent)}(h:xp k l ns bs es r):∀fs,r=AK fs->(∀e ∈ bs,EOk rs e)->(∀e ∈ es,EOk rs e)->∀e ∈ fs,EOk rs e:=by
 induction h with
 | nil bs=>intro fs er hb _;cases er;exact hb
 | @same bs es e i j r h1 h2 h3 h4 ih=>intro fs er hb he;exact ih fs er hb λx hx=>he x (am _ hx)
 | @new bs es e i j r h1 h2 h3 h4 h5 ih =>
  intro fs er hb he;refine ih fs er (λx hx=>?_) λx hx=>he x (am _ hx);rcases AU.mp hx with hx | hx
  ·exact hb x hx
  ·rw[AW.mp hx];exact Qd (za8 hb (he e ax) h1 h2)
 | far=>intro fs e;cases e
 | stuck=>intro fs e;cases e
theorem Wx{l:List Nat}{es zs:List Ent}(h:Lined k l ns es zs)(he:∀e ∈ es,EOk rs e):∀e ∈ zs,EOk rs e:=λe hz=>by
 have hm:=h.perm.mem_iff.mp hz;unfold jb at hm;obtain⟨y,hy,rfl⟩:=AT.mp hm;exact Qd (he y (AY.mp hy).1)
theorem XH{l:List Nat}{es zs:List Ent}(h:Lined k l ns es zs)(he:∀e ∈ es,EB l e):RL k l ns zs:=by
 have key:∀e ∈ zs,∃y,EB l y/\y.1≠y.2.1/\e=ym k l ns y:=λe hz=>by
  have hm:=h.perm.mem_iff.mp hz;unfold jb at hm;obtain⟨y,hy,rfl⟩:=AT.mp hm;obtain⟨h1,h2⟩:=AY.mp hy;exact#[y,he y h1,by simpa using h2,rfl]
 refine#[λe hz=>?_,λe hz=>?_]
 ·obtain⟨y,h1,_,rfl⟩:=key e hz;exact h1.rule
 ·obtain⟨y,h1,h2,rfl⟩:=key e hz;exact jc h1 h2
theorem KI{l:List Nat}(G:OG l ns k){zs bs:List Ent}(hz:RL k l ns zs)(h:xp k l ns [] zs (AK bs)):RL k l ns bs:=by
 obtain⟨gs,g1,g2,g3,g4⟩:=j5 G h bs rfl #[λe he=>(nomatch he),λe he=>(nomatch he)] hz;exact g3
theorem XO{k n:Nat}{l:List Nat}(G:OG l ns k){r:Option (List Ent)}(h:uq k l ns n es r):∀fs,r=AK fs->(∀e ∈ es,EB l e)->(∀e ∈ es,EOk rs e)->(∀e ∈ fs,EOk rs e)/\∃zs,ThinL k l ns zs/\zb fs=zb zs:=by
 induction h with
 | out=>intro fs e;cases e
 | bad=>intro fs e;cases e
 | @done n es zs bs h1 h2 h3 =>
  intro fs er he ho;cases er;have hz:=XH h1 he;exact#[XF h2 bs rfl (λe h=>(nomatch h)) (Wx h1 ho),zs,zbJ G hz h1.srt h2 h3,h3]
 | @more n es zs bs r h1 h2 h3 h4 ih =>
  intro fs er he ho;have hz:=XH h1 he;exact ih fs er (KI G hz h2).e (XF h2 bs rfl (λe h=>(nomatch h)) (Wx h1 ho))
noncomputable def rankF:KeyFam (Int × List Int):=#[λr=>[.int r.1,.lst (r.2.map L3.D.int)],λa b=>if a.1=b.1 then ltI a.2 b.2 else decide (a.1<b.1),AM,(0,[])]
theorem J3{x y:List Int}(h:ltI x y=AM):ltI y x=AN:=by
 by_cases e:x=y
 ·subst e;rw[xa]at h;cases h
 ·have:=wC e;rw[h]at this;simpa using this.symm
theorem zco{x y z:List Int}(h1:ltI y x=AN)(h2:ltI z y=AN):ltI z x=AN:=by
 cases h:ltI z x with
 | false=>rfl
 | true =>
  by_cases e:y=x
  ·subst e;rw[h2]at h;cases h
  ·have h3:=wC e;rw[h1]at h3;have h4:ltI x y=AM:=by simpa using h3.symm
   rw[qz h h4]at h2;cases h2
theorem rankF_ok:rankF.Ok where
 w:=#[λa b h=>by
   simp only[rankF]at h ⊢;by_cases e:a.1=b.1
   ·rw[if_pos e]at h;rw[if_pos e.symm];exact J3 h
   ·rw[if_neg e]at h;rw[if_neg (λz=>e z.symm)];have:=of_decide_eq_true h;exact decide_eq_false (by lia),
  λa b c h1 h2=>by
   simp only[rankF]at h1 h2 ⊢;by_cases e:b.1=a.1
   ·rw[if_pos e]at h1;rw[e]at h2;by_cases f:c.1=a.1
    ·rw[if_pos f]at h2 ⊢;exact zco h1 h2
    ·rw[if_neg f]at h2 ⊢;exact h2
   ·rw[if_neg e]at h1;have h1':=of_decide_eq_false h1;by_cases f:c.1=b.1
    ·rw[if_neg (by lia)];exact decide_eq_false (by lia)
    ·rw[if_neg f]at h2;have h2':=of_decide_eq_false h2;rw[if_neg (by lia)]
     exact decide_eq_false (by lia)]
 eq:=λa b=>by
  have:=Qw a.1 b.1 a.2 b.2;simp only[ltD]at this;exact this
 ok:=λa b=>by simp only[rankF,ZC,okD];exact#[trivial,qx _ _,trivial]
 dp:=λa=>by simp only[rankF,dpD,qm,YS];decide
 sh:=λa=>#[_,_,rfl,.inl #[rfl,_,rfl]]
noncomputable def zcK(k:Nat)(l:List Nat)(ns:List Int)(w:List Nat):Int × List Int:=(zr k l ns w,qL k l w)
theorem XW{d:L3.D}{v:V}:∀{ds:List L3.D} {vs:List V},Iss K H ds vs->Is K H d v->Iss K H (ds ++ [d]) (vs ++ [v])
 | [],vs,h,hv=>by
  simp only[Iss]at h;subst h;simp only[bp,Iss];exact#[v,[],rfl,hv,rfl]
 | e::ds,vs,h,hv=>by
  simp only[Iss]at h;obtain⟨x,r,rfl,hx,hr⟩:=h;simp only[bu,Iss];exact#[x,r ++ [v],rfl,hx,XW hr hv]
theorem OrdAt.samT{T CO CR CW:rV}{H H':Hp}{ps:Array rW}{o:rV}{l:List Nat}(h:OrdAt CO CR CW H o k l ns)(s:SamT T H H')(hT:H T=AK (.tbl ps)):OrdAt CO CR CW H' o k l ns:=by
 obtain⟨dx,⟨h1,h2⟩ | ⟨h1,h2⟩ | ⟨h1,h2,w,h3,h4⟩⟩:=h
 ·exact#[dx,.inl #[h1,s.at hT h2 λ_ z=>by cases z]]
 ·exact#[dx,.inr (.inl #[h1,s.at hT h2 λ_ z=>by cases z])]
 ·exact#[dx,.inr (.inr #[h1,h2,w,s.at hT h3 (λ_ z=>by cases z),s.at hT h4 λ_ z=>by cases z])]
theorem EnsA.samT{T:rV}{H H':Hp}{ps:Array rW}(s:SamT T H H')(hT:H T=AK (.tbl ps)):∀{es:List Ent} {vs:List V},EnsA K H es vs->EnsA K H' es vs
 | [],vs,h=>by simp only[EnsA]at h ⊢;exact h
 | e::es,vs,h=>by
  simp only[EnsA]at h ⊢;obtain⟨v,r,e0,⟨p,s',e1,h1,h2⟩,h3⟩:=h;exact#[v,r,e0,#[p,s',e1,s.seqT hT h1,h2.samT s hT],EnsA.samT s hT h3]
theorem Xg{a b:Int × List Int}(h:a≠b):rankF.lt a b=!rankF.lt b a:=by
 simp only[rankF];by_cases e:a.1=b.1
 ·rw[if_pos e,if_pos e.symm];exact wC λq=>h (Prod.ext e q)
 ·rw[if_neg e,if_neg λq=>e q.symm];by_cases c:a.1<b.1
  ·rw[decide_eq_true c,decide_eq_false (by lia)];rfl
  ·rw[decide_eq_false c,decide_eq_true (by lia)];rfl
theorem U1(a b:Int × List Int):eqD (.tup (rankF.dec a)) (.tup (rankF.dec b))=decide (a=b):=by
 obtain⟨a1,a2⟩:=a;obtain⟨b1,b2⟩:=b;simp only[rankF,eqD,uA,Yj];by_cases h:a1=b1
 ·by_cases h2:a2=b2
  ·simp [h,h2]
  ·simp [h,h2]
 ·simp [h]
theorem XZ(a b:Int × List Int):ltD (.tup (rankF.dec a)) (.tup (rankF.dec b))=rankF.lt a b:=by
 simp only[ltD];exact rankF_ok.eq a b
theorem ZP(a:Int × List Int):rankF.lt a a=AN:=by
 simp only[rankF];rw[if_pos trivial];exact xa _
noncomputable def pairF:KeyFam ((Int × List Int) × (Int × List Int)):=#[λr=>[.tup (rankF.dec r.1),.tup (rankF.dec r.2)],λa b=>if a.1=b.1 then rankF.lt a.2 b.2 else rankF.lt a.1 b.1,AN,((0,[]),(0,[]))]
theorem ql(a b:(Int × List Int) × (Int × List Int)):pairF.lt a b=if a.1=b.1 then rankF.lt a.2 b.2 else rankF.lt a.1 b.1:=rfl
theorem Jw:pairF.Ok where
 w:=#[λa b h=>by
   rw[ql]at h ⊢;by_cases e:a.1=b.1
   ·rw[if_pos e]at h;rw[if_pos e.symm];exact rankF_ok.w.asym _ _ h
   ·rw[if_neg e]at h;rw[if_neg λq=>e q.symm];exact rankF_ok.w.asym _ _ h,
  λa b c h1 h2=>by
   rw[ql]at h1 h2 ⊢;by_cases e:b.1=a.1
   ·rw[if_pos e]at h1;rw[e]at h2;by_cases f:c.1=a.1
    ·rw[if_pos f]at h2 ⊢;exact rankF_ok.w.ntr _ _ _ h1 h2
    ·rw[if_neg f]at h2 ⊢;exact h2
   ·rw[if_neg e]at h1;by_cases g:c.1=b.1
    ·rw[g,if_neg e];exact h1
    ·rw[if_neg g]at h2;by_cases f:c.1=a.1
     ·rw[f]at h2;have:=Xg (a:=b.1) (b:=a.1) e;rw[h1,h2]at this;cases this
     ·rw[if_neg f]
      exact rankF_ok.w.ntr _ _ _ h1 h2]
 eq:=λa b=>by
  show ue [.tup (rankF.dec a.1),.tup (rankF.dec a.2)] [.tup (rankF.dec b.1),.tup (rankF.dec b.2)]=_;rw[ql,ue,U1,ue,U1,XZ,XZ,ue];by_cases e:a.1=b.1
  ·rw[if_pos (decide_eq_true e),if_pos e];by_cases f:a.2=b.2
   ·rw[if_pos (decide_eq_true f),f,ZP]
   ·rw[if_neg (by simpa using f)]
  ·rw[if_neg (by simpa using e),if_neg e]
 ok:=λa b=>by
  show ZC [.tup (rankF.dec a.1),.tup (rankF.dec a.2)] [.tup (rankF.dec b.1),.tup (rankF.dec b.2)];simp only[ZC,okD];exact#[rankF_ok.ok _ _,rankF_ok.ok _ _,trivial]
 dp:=λa=>by simp only[pairF,rankF,dpD,qm,YS];decide
 sh:=λa=>#[_,_,rfl,.inr #[rfl,_,rfl]]
noncomputable def rkE(k:Nat)(l:List Nat)(ns:List Int)(e:Ent):(Int × List Int) × (Int × List Int):=(zcK k l ns e.1,zcK k l ns e.2.1)
theorem zdr{l:List Nat}{u v:List Nat}(hu:∀c ∈ u,c ∈ l)(hv:∀c ∈ v,c ∈ l):zcK k l ns u=zcK k l ns v ↔ u=v :=
 #[λh=>X9 hu hv (Prod.ext_iff.mp h).2,λh=>by rw[h]]
theorem zbz{l:List Nat}{a b:Ent}(ha:EB l a)(hb:EB l b):pairF.lt (rkE k l ns a) (rkE k l ns b)=W4 k l ns a b:=by
 rw[ql];unfold W4;have h:(rkE k l ns a).1=(rkE k l ns b).1 ↔ a.1=b.1:=zdr ha.ma hb.ma;by_cases e:a.1=b.1
 ·rw[if_pos (h.mpr e),if_pos e];rfl
 ·rw[if_neg λq=>e (h.mp q),if_neg e];rfl
theorem YA{α β:Type}(g:α->β){us ys:List β}(h:us.Perm ys):∀ts:List α,us=ts.map g->∃ts':List α,ts'.Perm ts/\ys=ts'.map g:=by
 induction h with
 | nil =>
  intro ts e;exact#[ts,List.Perm.refl _,e]
 | @cons x us ys _ ih =>
  intro ts e
  match ts,e with
  | t::ts,e =>
   rw[ar]at e;injection e with e1 e2;obtain⟨ts',p,rfl⟩:=ih ts e2;exact#[t::ts',p.cons t,by rw[e1];rfl]
 | swap x y us =>
  intro ts e
  match ts,e with
  | t::t2::ts,e =>
   rw[ar,ar]at e;injection e with e1 e2;injection e2 with e2 e3;exact#[t2::t::ts,List.Perm.swap t t2 ts,by rw[e1,e2,e3];rfl]
 | trans _ _ ih1 ih2 =>
  intro ts e;obtain⟨ts',p1,e1⟩:=ih1 ts e;obtain⟨ts'',p2,e2⟩:=ih2 ts' e1;exact#[ts'',p2.trans p1,e2]
theorem VG:∀{es:List Ent} {vs:List V},EnsA K H es vs->∀t ∈ es.zip vs,EnA K H t.1 t.2
 | [],_,_,t,ht=>by simp at ht
 | e::es,vs,h,t,ht=>by
  simp only[EnsA]at h;obtain⟨v,r,rfl,h1,h2⟩:=h;rw[df]at ht;rcases AV.mp ht with rfl | ht
  ·exact h1
  ·exact VG h2 t ht
theorem zaH:∀{ts:List (Ent × V)},(∀t ∈ ts,EnA K H t.1 t.2)->EnsA K H (ts.map (·.1)) (ts.map (·.2))
 | [],_=>by simp only[aL,EnsA]
 | t::ts,h=>by
  simp only[ar,EnsA];exact#[_,_,rfl,h t ax,zaH λu hu=>h u (am _ hu)]
theorem Xt{l:List Nat}{vs:List V}{ys:List (((Int × List Int) × (Int × List Int)) × V)}(hI:EnsA K H es vs)(hE:∀e ∈ es,EB l e)(h1:ys.Perm ((es.map (rkE k l ns)).zip vs))(h2:ys.Pairwise λp q=>pairF.lt q.1 p.1=AN) :
  ∃zs:List Ent,zs.Perm es/\zs.Pairwise (λa b=>W4 k l ns b a=AN)/\EnsA K H zs (ys.map (·.2)):=by
 have hl:=hI.len
 have e0:(es.map (rkE k l ns)).zip vs=(es.zip vs).map λt=>(rkE k l ns t.1,t.2):=by
  rw[List.zip_map_left];rfl
 obtain⟨ts,p,rfl⟩:=YA (λt:Ent × V=>(rkE k l ns t.1,t.2)) h1.symm (es.zip vs) e0;have hm:∀t ∈ ts,t.1 ∈ es:=λt ht=>(cZ (show (t.1,t.2) ∈ es.zip vs from p.mem_iff.mp ht)).1;refine#[ts.map (·.1),?_,?_,?_]
 ·have:=p.map (·.1);rw[List.map_fst_zip (by lia)]at this;exact this
 ·rw[List.pairwise_map]at h2 ⊢;refine h2.imp_of_mem λ{a b} ha hb h=>?_;rw[<- zbz (hE _ (hm _ hb)) (hE _ (hm _ ha))];exact h
 ·have e1:(ts.map λt=>(rkE k l ns t.1,t.2)).map (·.2)=ts.map (·.2):=by
   rw[dA];rfl
  rw[e1];exact zaH λt ht=>VG hI t (p.mem_iff.mp ht)
def tbE(K:rT)(CO CR CW:rV):TE:=Jg (zL (zt (zdn CO CR CW) "rank" (λ_=>jy CO CR CW) [] E0 (yk 1) (zL (tOp (qG K) (yk 0) (tC (.int 0))) xT)) (zL (zt (zdn CO CR CW) "rank" (λ_=>jy CO CR CW) [] E0 (yk 1) (zL (tOp (qG K) (yk 0) (tC (.int 1))) xT)) xT))
theorem zdt{CO CR CW o p s:rV}{l:List Nat}(hG:OG l ns k)(ho:OrdAt CO CR CW H o k l ns)(hE:EB l e)(hp:SqT K H p [.str (tx e.1),.str (tx e.2.1),.ref s])(q:∀(t:rV) (H':Hp),Same H H'->Is K H' (.tup (pairF.dec (rkE k l ns e))) (.ref t)->Q (.ref t) H'):tbE K CO CR CW [AK (.ref p),AK (.ref o)] H Q:=by
 have s16:=zQ;obtain⟨C,dx,fs,hf,ho1,hn,_⟩:=ho.fam;have h1:fs.lookup ("rank" : si)=AL:=hn _ (by decide) (by decide);unfold tbE;ac_rfl;refine#[C,hf,dx,fs,ho1,h1,_,hp,_,rfl,o,k,l,ns,e.1,rfl,ho,hG,by have:=hE.a;lia,hE.ma,λp1 q1 H1 s1 hp1 hq1=>#[C,hf,dx,fs,s1 _ _ ho1,h1,_,zv s1 hp,_,rfl,o,k,l,ns,e.2.1,rfl,ho.same s1,hG,by have:=hE.b;lia,hE.mb,λp2 q2 H2 s2 hp2 hq2=>#[by lia,λt ht=>?_]]];refine q t _ (s1.trans (s2.trans (zc (o:=.tup [.ref p1,.ref p2]) ht))) ?_;show Is K _ (.tup [.tup (rankF.dec (zcK k l ns e.1)),.tup (rankF.dec (zcK k l ns e.2.1))]) (.ref t);refine Is.tup ht ?_;simp only[Iss];exact#[_,_,rfl,Zc (s2 _ _ hp1) (s2 _ _ hq1),_,_,rfl,Zc hp2 hq2,rfl]
theorem zai{CO CR CW o:rV}{l:List Nat}{LA:Hp->Prop}{Qf:List V->Hp->Prop}(hG:OG l ns k)(hLA:∀H H',LA H->Same H H'->LA H'):∀(es:List Ent) (vs AR:List V) (rs:List ((Int × List Int) × (Int × List Int))) (H:Hp),LA H->OrdAt CO CR CW H o k l ns->(∀e ∈ es,EB l e)->EnsA K H es vs ->
  Iss K H (rs.map λa=>.tup (pairF.dec a)) AR->(∀acc' H',Same H H'->Iss K H' ((rs ++ es.map (rkE k l ns)).map λa=>.tup (pairF.dec a)) acc'->Qf acc' H')->uV (λx H Q=>LA H/\tbE K CO CR CW [AK x,AK (.ref o)] H Q) vs AR H Qf
 | [],vs,AR,rs,H,hL,ho,hw,hV,hI,h=>by
  simp only[EnsA]at hV;subst hV;exact h AR H (Same.refl _) (by simpa using hI)
 | e::es,vs,AR,rs,H,hL,ho,hw,hV,hI,h=>by
  have s16:=zQ;simp only[EnsA]at hV;obtain⟨v,r,rfl,⟨p,s,rfl,hp,_⟩,hV⟩:=hV;refine#[hL,zdt hG ho (hw e ax) hp λt H' s3 hIs=>?_];refine zai hG hLA es r (AR ++ [.ref t]) (rs ++ [rkE k l ns e]) _ (hLA _ _ hL s3) (ho.same s3) (λx hx=>hw x (am _ hx)) (hV.same s3) ?_ λacc' H' s' hI'=>h acc' H' (s3.trans s') (by simpa using hI');rw[aA];exact XW (Iss.same s3 _ _ hI) hIs
noncomputable def zcU:so->sY
 | .Lambda _ _ _ p=>p
 | _=>default
noncomputable def zgt:List sr->sY
 | _::.Return (AK (.Call _ _ (k::_) _)) _::_=>zcU k.value
 | _=>default
noncomputable def lp:sY:=zgt (yg yA)
noncomputable def lq:si:="in_order.<locals>.<lambda>"
def kM(K:rT)(CO CR CW T:rV):Sp:=λvs H Q _=>∃(o a:rV) (k:Nat) (l:List Nat) (ns:List Int) (es:List Ent),vs=[.ref o,.ref a]/\OrdAt CO CR CW H o k l ns/\OG l ns k/\EnsL K H a es/\es.length<64/\(∀e ∈ es,EB l e)/\TabOk H T lp lq /\
 ∀(D:rV) (zs:List Ent) (H':Hp),SamT T H H'->TabOk H' T lp lq->H D=AL->Lined k l ns es zs->EnsM K H' D zs->Q (.ref D) H'
theorem Ua{CO CR CW T o a:rV}{l:List Nat}(h1:OrdAt CO CR CW H o k l ns)(h2:OG l ns k)(h3:EnsL K H a es)(h4:es.length<64)(h5:∀e ∈ es,EB l e)(h6:TabOk H T lp lq)
  (h:∀(D:rV) (zs:List Ent) (H':Hp),SamT T H H'->TabOk H' T lp lq->H D=AL->Lined k l ns es zs->EnsM K H' D zs->Q (.ref D) H'):kM K CO CR CW T [.ref o,.ref a] H Q E:=#[o,a,k,l,ns,es,rfl,h1,h2,h3,h4,h5,h6,h]
abbrev zbm(mg:si->Option rW):Prop:=mg "sorted" = AL
theorem oa:zk ["order","entries","unlike"] ["order","entries"] (zh yA):=by nofun
theorem YR{f CO CR CW CC TB:rV}(B:Bt mg)(DRk:DR P w K mg base CO CR CW)(hsorted:zbm mg)(hCd:PySem.W.CodeHd base CC TB)(hBt:base.BuiltinsAt mg TB)(hgT:rQ≠TB)(F:Fun K "in_order" "in_order" yA f fd)(HC:fd.code=.ref CC)(ny:Df P w K mg base CX0 4 "as_rule" ["order","entry"] [] (wQ K CO CR CW)):zP P w K mg base CX0 6 f fd ["order","entries"] (kM K CO CR CW TB):=by
 refine zbQ F HC oa (λvs H Q E h=>?_) (λA outer s H vs Q E hr h=>?_)
 ·obtain⟨o,a,k,l,ns,es,rfl,_⟩:=h;rfl
 ·obtain⟨o,a,k,l,ns,es,rfl,ho,hG,hA,hz,hE,hTab,q⟩:=h
  refine#[_,(zi (V6 (i:=2) oa.nd rfl (.inl rfl) (.inl rfl) (own:=["entry"]) (caps:=["order"]) (ix:=[0]) (tt:=(tBl (tOp rNe (tOp (qG K) (yk 0) (tC (.int 0))) (tOp (qG K) (yk 0) (tC (.int 1)))))) (te:=(u7 (wQ K CO CR CW) [] E0 (zL (yk 1) (zL (yk 0) xT)))) rfl (zZ (sc:=zh yA) rfl (by symm) (by symm) (by symm) rfl (by symm) (by symm) rfl) (yw (pv 1)) (λ_ _ _ _ _ _=>zx (i:=0) (show List.Nodup [_,_] by decide) rfl (.inl rfl)) (λ_ _ _ _ _ _=>(Uy (zy Yy (zo ix_tup (pv 0) zg) (zo ix_tup (pv 0) zg) (zB _)))) (λ_ _ _ _ _ _=>(cl0 ny hr .nil rfl (za (pv 1) (za (pv 0) zd)))))
   (zf (zl (Kr (k:=2) (p:="entry") (y:="order") (iy:=0) (c:=s⁻¹+1) (tb:=tbE K CO CR CW) Jw #[rfl,rfl,rfl,by decide,rfl,rfl,by decide,by decide] (hr.mono (by decide)) rfl hsorted PyProof.Rows.boot_sorted (za (pv 2) zd) rfl hCd hBt hgT rfl rfl (by intro _ _ _ _;exact rfl) rfl rfl rfl (λs H f cv hr'=>zR (za (zcF DRk hr' (pv 1) (za (zo ix_tup (pv 0) zg) zd)) (za (zcF DRk hr' (pv 1) (za (zo ix_tup (pv 0) zg) zd)) zd))))))),?_]
  have s16:=zQ;obtain⟨xs,hX,hI⟩:=id hA;have hxl:=hI.len
  have hEr:∀e ∈ jb k l ns es,EB l e:=λe he=>by
   unfold jb at he;obtain⟨y,hy,rfl⟩:=AT.mp he;exact (hE y (AY.mp hy).1).rule
  have hrl:=Xi k l ns es;refine zj (λσ H'=>Same H H'/\∃(D0:rV) (AR:List V),H D0=AL/\H' D0=AK (.lst AR)/\EnsA K (jW D0 H') (jb k l ns es) AR/\σ=[AK (.ref o),AK (.ref a),AK (.ref D0)]) ?_ ?_
  ·ac_rfl;refine#[#[xs,hX],λD hD=>CompL.by (xs:=xs) (λi AR H'=>Same H H'/\H' D=AK (.lst AR)/\EnsA K (jW D H') (jb k l ns (es.take i)) AR) #[zc hD,ze,by simp only[bS,jb,db,aL,EnsA]] (λi AR H' _ h=>h.1.seq hX) ?_ ?_]
   ·rintro i x AR H' hx ⟨hs,hH,hA⟩;have hi:=(AS.mp hx).1;obtain⟨e,pe,se,hei,rfl,hqe,hse⟩:=hI.get hx;have hEe:=hE e (af hei);have hal:=hA.len;have hal2:=Xi k l ns (es.take i);rw[aG]at hal2;have hq1:=zv hs hqe
    have hraw:jb k l ns (es.take (i+1))=jb k l ns (es.take i) ++ if e.1=e.2.1 then []else [ym k l ns e]:=by
     rw[z7 hei,zbK];congr 1;unfold jb;by_cases hne:e.1=e.2.1
     ·rw[if_pos hne,eO (by simp [hne])];rfl
     ·rw[if_neg hne,eN (by simp [hne])];rfl
    ac_rfl;refine#[wx,_,hq1,_,rfl,_,hq1,_,rfl,rfl,yx (λhne=>?_) λheq=>?_]
    ·have hne':¬ e.1=e.2.1:=λz=>hne (by rw[z]);rw[if_neg hne']at hraw
     have fin:∀(v:V) (H2:Hp),Same H' H2->EnA K (jW D H2) (ym k l ns e) v->H2 D=AK (.lst AR)/\AR.length<rS/\CNx xs.length i (λi AR H'=>Same H H'/\H' D=AK (.lst AR)/\EnsA K (jW D H') (jb k l ns (es.take i)) AR) (AR ++ [v]) (upd H2 D (.lst (AR ++ [v]))):=λv H2 s2 hv=>by
      refine#[s2 _ _ hH,by lia,CNx.mk hi #[zI (hs.trans s2) hD,ze,?_]];rw[hraw];exact (hA.same ((wI s2).trans xu)).snoc (hv.same xu)
     refine j7 (ho.same hs) hG hq1 (hse.same hs).is hEe (λer H2 s2=>fin _ _ s2 ?_) λp' s' H2 s2 hsn hp' hL=>fin _ _ s2 ?_
     ·rw[er];exact EnA.same #[pe,se,rfl,hqe,hse] (Qv hD (hs.trans s2))
     ·exact EnA.new (s2 _ _ hH) hp' hL (λz=>by rw[z,hH]at hsn;cases hsn)
    ·have heq':e.1=e.2.1:=by
      have:=Classical.not_not.mp heq;injection this with this;exact qC this
     rw[if_pos heq',aT]at hraw;exact CNx.mk hi #[hs,hH,by rw[hraw];exact hA]
   ·rintro AR H' ⟨hs,hH,hA⟩;rw[hxl,aO]at hA;exact#[hs,D,hD,AR,hH,hA,rfl]
  rintro σ H1 ⟨s1,D0,AR,hD0,hH1,hI1,rfl⟩:_;have hal:=hI1.len;have hT1:=hTab.same s1;obtain⟨ps1,hps1,_⟩:=id hT1;right;ac_rfl;unfold K2;refine#[hT1,λf H2 hf hLA hT2 sT=>?_];obtain⟨ps2,hps2,_⟩:=id hT2;have hI2:=EnsA.samT sT hps1 (hI1.same wS);refine#[D0,AR,.ref o,rfl,SqL.of (sT.at hps1 hH1 λ_ z=>by cases z),by lia,rfl,?_];refine zai hG (λA A' h1 h2=>LamAt.same h1 h2) (jb k l ns es) AR [] [] H2 hLA ((ho.same s1).samT sT hps1) hEr hI2 (by simp only[aL,Iss]) λacc' H3 s3 hI3=>#[(jb k l ns es).map (rkE k l ns),by simpa using hI3,λys p1 p2 D hD=>?_];obtain⟨zs,z1,z2,z3⟩:=Xt (hI2.same s3) hEr p1 p2;have sD:=zc (o:=.lst (ys.map (·.2))) hD;refine q D zs _ ((SamT.of s1).trans (sT.trans (SamT.of (s3.trans sD)))) (hT2.same (s3.trans sD)) ?_ #[z1,z2] #[_,ze,z3.same sD];exact ((SamT.of s1).trans (sT.trans (SamT.of s3))).free (s3 _ _ hps2) hD
structure TMo(mg:si->Option rW):Prop where
 u:∃t,mg "MOST_USES_thinning" = AK (.int 40 t)
 s:∃t,mg "MOST_STEPS_thinning" = AK (.int 240 t)
 d:∃t,mg "MOST_SIDE_thinning" = AK (.int 60 t)
 p:∃t,mg "MOST_PASSES" = AK (.int 20 t)
structure BG(k:Nat)(l:List Nat)(ns:List Int)(bs:List Ent):Prop where
 n:bs.length<64
 e:∀e ∈ bs,EB l e
 lt:∀e ∈ bs,zK k l ns e.2.1 e.1=AM
theorem BG.ne{l:List Nat}(h:BG k l ns bs)(G:OG l ns k):NeL (zb bs):=λp hp=>by
 unfold zb at hp;obtain⟨e,he,rfl⟩:=AT.mp hp;exact U3 G.nb (h.lt e he)
theorem BG.le{l:List Nat}(h:BG k l ns bs):∀p ∈ zb bs,p.1.length<=60/\p.2.length<=60:=λp hp=>by
 unfold zb at hp;obtain⟨e,he,rfl⟩:=AT.mp hp;exact#[(h.e e he).a,(h.e e he).b]
theorem BG.mem{l:List Nat}(h:BG k l ns bs):∀p ∈ zb bs,∀c ∈ p.2,c ∈ l:=λp hp=>by
 unfold zb at hp;obtain⟨e,he,rfl⟩:=AT.mp hp;exact (h.e e he).mb
theorem uC{CF a:rV}{w:List Nat}(hA:LsA K H a (ps.map dR))(hN:NeL ps)(hpl:ps.length<=100)(hP:∀p ∈ ps,p.1.length<=60/\p.2.length<=60)(hw:w.length<=60)
  (h1:∀(i:Nat) (p S:rV) (H':Hp),zJ ps w i->Same H H'->H' p=AK (.tup [.ref S,.str (tx (wAt ps w i))])->LsA K H' S ((sAt ps w i).map dG)->H S=AL->Q (.ref p) H') (h2:(∀i,¬ zJ ps w i)->∀H',Same H H'->E (.ref CF) AL H'):xw K CF [.ref a,.str (tx w),.int 40] H Q E:=by
 have hP':∀p ∈ ps,p.1.length<=1000/\p.2.length<=1000:=λp hp=>by
  have:=hP p hp;lia
 have len:∀j,j<=40->(wAt ps w j).length<=10000:=λj hj=>by
  have:=qX (l:=w) (m:=60) hN (λp hp=>(hP p hp).2) j;lia
 rcases zcx ps w with ⟨i,hi⟩ | ⟨hL,hf⟩
 ·have hm:=hi.most;exact#[a,w,ps,40,i,rfl,hA,hN,hpl,hP',#[hi.live,λj hj=>len j (by lia),by lia],.inl #[hi.end_,by lia,λp S H' s' hp hL hS=>h1 i p S H' hi s' hp hL hS]]
 ·refine#[a,w,ps,40,40,rfl,hA,hN,hpl,hP',#[hL,λj hj=>len j hj,by decide],.inr #[hf,rfl,h2 λi hi=>?_]];have hm:=hi.most;by_cases e:i=40
  ·subst e;exact hf hi.end_
  ·exact hL i (by lia) hi.end_
theorem UI(us:List (Nat × Nat)):us.map dG=(stS us).map dSt:=by
 unfold stS;rw[dA];rfl
theorem ku(us:List (Nat × Nat)):(stS us).length=us.length:=by unfold stS;rw[ag]
theorem zdp{w:List Nat}{i:Nat}(h:WW ps w i):∀u ∈ sAt ps w i,u.1<ps.length:=λu hu=>by
 unfold sAt at hu;obtain⟨j,hj,rfl⟩:=AT.mp hu
 cases e:zE (wAt ps w j) ps with
 | none=>exact absurd e (h j (AZ.mp hj))
 | some v =>
  obtain⟨p,h1,_⟩:=yT e;exact (AS.mp h1).1
theorem WF{w:List Nat}{i:Nat}(h:WW ps w i):∀u ∈ stS (sAt ps w i),0<=u.1/\u.1<ps.length:=λu hu=>by
 unfold stS at hu;obtain⟨v,hv,rfl⟩:=AT.mp hu;have:=zdp h v hv;show 0<=(v.1:Int)/\(v.1:Int)<ps.length;lia
theorem VN{n:Int}(h:∀u ∈ ss,0<=u.1/\u.1<n):∀u ∈ yE ss,0<=u.1/\u.1<n:=λu hu=>by
 unfold yE at hu;obtain⟨v,hv,rfl⟩:=AT.mp hu;exact h v (Ba.mp hv)
theorem zdS(h:∀e ∈ es,e.2.2.length<=600)(u:Stp):(Vd es u).length<=600:=by
 have hg:(es.getD u.1.toNat ([],[],[])).2.2.length<=600:=by
  rw[ae]
  cases e:es[u.1.toNat]? with
  | none=>exact aD _
  | some r=>exact h r (af e)
 unfold Vd;rw[XD];split
 ·exact hg
 ·rw[yQ];exact hg
theorem zck(h:∀e ∈ es,e.2.2.length<=600):∀us:List Stp,(byL es us).length<=us.length * 600
 | []=>by simp [byL]
 | u::us=>by
  have e:byL es (u::us)=Vd es u ++ byL es us:=by simp [byL]
  have h1:=zdS h u;have h2:=zck h us;rw[e,aj,aI,et];lia
def Xq(K:rT)(CF:rV):Sp:=λvs H Q E=>∃(a p s:rV) (k:Nat) (l:List Nat) (ns:List Int) (bs:List Ent) (e:Ent),vs=[.ref a,.ref p]/\OG l ns k/\Is K H (.lst (bs.map dE)) (.ref a)/\BG k l ns bs/\SqT K H p [.str (tx e.1),.str (tx e.2.1),.ref s]/\LsA K H s (e.2.2.map dSt)/\EB l e /\
 (∀i j H',zJ (zb bs) e.1 i->zJ (zb bs) e.2.1 j->wAt (zb bs) e.1 i=wAt (zb bs) e.2.1 j->Same H H'->Q .non H') /\
 (∀i j p' s' H',zJ (zb bs) e.1 i->zJ (zb bs) e.2.1 j->wAt (zb bs) e.1 i≠wAt (zb bs) e.2.1 j->Same H H'->H s'=AL->H' p'=AK (.tup [.str (tx (yI bs e i j).1),.str (tx (yI bs e i j).2.1),.ref s'])->LsA K H' s' ((yI bs e i j).2.2.map dSt)->Q (.ref p') H') /\
 ((∀i,¬ zJ (zb bs) e.1 i)\/(∀j,¬ zJ (zb bs) e.2.1 j)->∀H',Same H H'->E (.ref CF) AL H')
theorem WO{a t:rV}{us:List Stp}(h1:Is K H (.lst (es.map dE)) (.ref a))(h2:Is K H (.lst (us.map dSt)) (.ref t))(h3:us.length<=100)(h4:∀e ∈ es,e.2.2.length<=600)(h5:∀u ∈ us,0<=u.1/\u.1<es.length)(h:∀(D:rV) (H':Hp),H D=AL->Same H H'->LsA K H' D ((byL es us).map dSt)->Q (.ref D) H'):VX K [.ref a,.ref t] H Q E:=#[a,t,es,us,rfl,h1,h2,h3,h4,h5,h]
theorem gu:zk ["entries","entry","rules","one","other","steps"] ["entries","entry"] (zh xB):=by nofun
theorem qD{f CF:rV}{iI:tP}(B:Bt mg)(TM:TMo mg)(F:Fun K "brought_down" "brought_down" xB f fd)(gh:Df P w K mg base CX0 1 "pairs_of" ["entries"] [] (wa K))(mP:Df P w K mg base (CXx P w) 4 "gone" ["rules","word","most"] [] (xw K CF))(DD_gone:Df P w K mg base (CXx P w) 4 "gone" ["rules","word","most"] [.int 4000 iI] (xw K CF))(ig:Df P w K mg base CX0 2 "by_pacts" ["entries","steps"] [] (VX K))(me:Df P w K mg base CX0 1 "back" ["steps"] [] (uG K)):zP P w K mg base (CXx P w) 5 f fd ["entries","entry"] (Xq K CF):=by
 obtain⟨t9,g9⟩:=TM.u
 exists Fun.okX F gu,0
 ·obtain⟨a,p,s,k,l,ns,bs,e,rfl,hG,hA,hB,hp,hs,hE,q1,q2,q3⟩:=h
  refine#[_,(zi (zD 2 gu.nd (cl0 gh hr .nil rfl (za (pv 0) zd)))
   (zi (zD 3 gu.nd (clP hx mP hr .nil rfl (za (pv 2) (za (zo ix_tup (pv 1) zg) (za (yn (v:=.int 40) rfl g9 #[t9,rfl]) zd)))))
   (zi (zD 4 gu.nd (clP hx mP hr .nil rfl (za (pv 2) (za (zo ix_tup (pv 1) zg) (za (yn (v:=.int 40) rfl g9 #[t9,rfl]) zd)))))
   (zi (zM (zy xM (zo ix_tup (pv 3) zg) (zo ix_tup (pv 4) zg) (zB _))
    (zf (zl yd))
    zw)
   (zi (zD 5 gu.nd (zA XR (zA XR (cl0 ig hr .nil rfl (za (pv 0) (za (cl0 me hr .nil rfl (za (zo ix_tup (pv 3) zg) zd)) zd))) (zo ix_tup (pv 1) zg)) (cl0 ig hr .nil rfl (za (pv 0) (za (zo ix_tup (pv 4) zg) zd)))))
   (zf (zl (zR (za (zo ix_tup (pv 3) zg) (za (zo ix_tup (pv 4) zg) (za (pv 5) zd))))))))))),?_]
  have s16:=zQ;have hbl:=hB.n;have hN:=hB.ne hG;have hpl:=vV bs;have hst:∀e ∈ bs,e.2.2.length<=600:=λe he=>(hB.e e he).s;have hst3:∀e ∈ bs,e.2.2.length<=600:=λe he=>by have:=hst e he;lia
  refine zj (λσ H'=>Same H H'/\∃R:rV,LsA K H' R ((zb bs).map dR)/\σ=[AK (.ref a),AK (.ref p),AK (.ref R),AL,AL,AL]) ?_ ?_
  ·ac_rfl;exact xJ hA (by lia) λD H' _ s' hL=>#[s',D,hL,rfl]
  rintro σ H1 ⟨s1,R,hR,rfl⟩:_;right;refine zj (λσ H'=>Same H1 H'/\∃(i:Nat),zJ (zb bs) e.1 i/\∃p1:rV,(∃S1:rV,H' p1=AK (.tup [.ref S1,.str (tx (wAt (zb bs) e.1 i))])/\LsA K H' S1 ((sAt (zb bs) e.1 i).map dG))/\σ=[AK (.ref a),AK (.ref p),AK (.ref R),AK (.ref p1),AL,AL]) ?_ ?_
  ·ac_rfl;refine#[_,zv s1 hp,_,rfl,uC hR hN (by lia) hB.le hE.a (λi p1 S1 H' hi s' hp1 hL _=>#[s',i,hi,p1,#[S1,hp1,hL],rfl]) λhno H' s'=>q3 (.inl hno) H' (s1.trans s')]
  rintro σ H2 ⟨s2,i,hi,p1,⟨S1,hp1,hS1⟩,rfl⟩:_;have s12:=s1.trans s2;right;refine zj (λσ H'=>Same H2 H'/\∃(j:Nat),zJ (zb bs) e.2.1 j/\∃p2:rV,(∃S2:rV,H' p2=AK (.tup [.ref S2,.str (tx (wAt (zb bs) e.2.1 j))])/\LsA K H' S2 ((sAt (zb bs) e.2.1 j).map dG))/\σ=[AK (.ref a),AK (.ref p),AK (.ref R),AK (.ref p1),AK (.ref p2),AL]) ?_ ?_
  ·ac_rfl;refine#[_,zv s12 hp,_,rfl,uC (hR.same s2) hN (by lia) hB.le hE.b (λj p2 S2 H' hj s' hp2 hL _=>#[s',j,hj,p2,#[S2,hp2,hL],rfl]) λhno H' s'=>q3 (.inr hno) H' (s12.trans s')]
  rintro σ H3 ⟨s3,j,hj,p2,⟨S2,hp2,hS2⟩,rfl⟩:_;have s13:=s12.trans s3;have hp1':=s3 _ _ hp1;have hS1':=hS1.same s3;right;refine zj (λσ H'=>H'=H3/\wAt (zb bs) e.1 i≠wAt (zb bs) e.2.1 j/\σ=[AK (.ref a),AK (.ref p),AK (.ref R),AK (.ref p1),AK (.ref p2),AL]) ?_ ?_
  ·ac_rfl;refine#[_,SqT.of hp1',_,rfl,_,SqT.of hp2,_,rfl,rfl,yx (λh=>?_) λh=>?_]
   ·exact q1 i j H3 hi hj (qC (by injection h)) s13
   ·exact λz=>h (by rw[z])
  rintro σ H4 ⟨rfl,hne,rfl⟩:_;have him:=hi.most;have hjm:=hj.most;have hl1:(stS (sAt (zb bs) e.1 i)).length=i:=by rw[ku,qK]
  have hl2:(stS (sAt (zb bs) e.2.1 j)).length=j:=by rw[ku,qK]
  rw[UI]at hS1' hS2;have hA4:=Is.same s13 _ _ hA;have hb1:=zck hst (yE (stS (sAt (zb bs) e.1 i)));have hb2:=zck hst (stS (sAt (zb bs) e.2.1 j));rw[yQ,hl1]at hb1;rw[hl2]at hb2;have hes:=hE.s;right;refine zj (λσ H'=>Same H4 H'/\∃S:rV,H4 S=AL/\LsA K H' S ((yI bs e i j).2.2.map dSt)/\σ=[AK (.ref a),AK (.ref p),AK (.ref R),AK (.ref p1),AK (.ref p2),AK (.ref S)]) ?_ ?_
  ·ac_rfl;refine#[_,SqT.of hp1',_,rfl,qu hS1'.is (by lia) λB1 G1 _ t1 hB1=>WO (Is.same t1 _ _ hA4) hB1.is (by rw[yQ];lia) hst3 (by rw[<- hpl];exact VN (WF hi.live)) λC1 G2 hC1n t2 hC1=>?_];have t12:=t1.trans t2;obtain⟨c1,hc1,ic1⟩:=id hC1;obtain⟨es0,hs0,is0⟩:=hs.same (s13.trans t12);have lc1:=ic1.len;have ls0:=is0.len;rw[ag]at lc1 ls0;refine#[_,zv (s13.trans t12) hp,_,rfl,C1,rfl,s,rfl,c1,hc1,es0,hs0,by lia,λM hM=>?_];have t3:=zc (o:=.lst (c1 ++ es0)) hM;have t13:=t12.trans t3;refine#[_,SqT.of (t13 _ _ hp2),_,rfl,WO (Is.same t13 _ _ hA4) (hS2.same t13).is (by lia) hst3 (by rw[<- hpl];exact WF hj.live) λC2 G3 hC2n t4 hC2=>?_];obtain⟨c2,hc2,ic2⟩:=id hC2;have lc2:=ic2.len;rw[ag]at lc2;refine#[C2,rfl,c1 ++ es0,t4 _ _ ze,c2,hc2,by rw[aj];lia,λS hS=>?_];have t5:=zc (o:=.lst (c1 ++ es0 ++ c2)) hS;refine#[t13.trans (t4.trans t5),S,(t13.trans t4).free hS,#[_,ze,?_],rfl];show Iss K _ ((byL bs (yE (stS (sAt (zb bs) e.1 i))) ++ e.2.2 ++ byL bs (stS (sAt (zb bs) e.2.1 j))).map dSt) _;rw[aA,aA];exact Iss.append (Iss.append (Iss.same (t3.trans (t4.trans t5)) _ _ ic1) (Iss.same (t3.trans (t4.trans t5)) _ _ is0)) (Iss.same t5 _ _ ic2)
  rintro σ H5 ⟨s5,S,hSn,hS,rfl⟩:_;right;ac_rfl;refine#[_,SqT.of (s5 _ _ hp1'),_,rfl,_,SqT.of (s5 _ _ hp2),_,rfl,by lia,λt ht=>?_];have st:=zc (o:=.tup [.str (tx (wAt (zb bs) e.1 i)),.str (tx (wAt (zb bs) e.2.1 j)),.ref S]) ht;exact q2 i j t S _ hi hj hne (s13.trans (s5.trans st)) (s13.free hSn) ze (hS.same st)
def jr(K:rT)(CF:rV):Sp:=λvs H Q E=>∃(p s:rV) (e:Ent),vs=[.ref p]/\SqT K H p [.str (tx e.1),.str (tx e.2.1),.ref s]/\Is K H (.lst (e.2.2.map dSt)) (.ref s)/\e.1.length<=10000/\e.2.1.length<=10000/\(¬ jD e->Q .non H)/\(jD e->E (.ref CF) AL H)
theorem Vr{CF p s:rV}(h1:SqT K H p [.str (tx e.1),.str (tx e.2.1),.ref s])(h2:Is K H (.lst (e.2.2.map dSt)) (.ref s))(h3:e.1.length<=10000)(h4:e.2.1.length<=10000)(h5:¬ jD e->Q .non H)(h6:jD e->E (.ref CF) AL H):jr K CF [.ref p] H Q E:=#[p,s,e,rfl,h1,h2,h3,h4,h5,h6]
theorem qb:zk ["entry"] ["entry"] (zh xh):=by nofun
theorem uY{f CF:rV}(B:Bt mg)(T:za6 K mg CF)(TM:TMo mg)(F:Fun K "refuse_beyond" "refuse_beyond" xh f fd) : zP P w K mg base (CXx P w) 1 f fd ["entry"] (jr K CF):=by
 obtain⟨⟨t9,g9⟩,⟨t8,g8⟩⟩:=And.intro TM.s TM.d
 exists Fun.okX F qb,0
 ·obtain⟨p,s,e,rfl,hp,hs,ha,hb,q1,q2⟩:=h
  refine#[_,(zi (zM (zy Kk (zC B.len (zo ix_tup (pv 0) zg)) (yn (v:=.int 240) rfl g9 #[t9,rfl]) (zB _))
    (zf (z6 hx rfl T.xi.toXC T.ini rfl T.g (za zY zd)))
    zw)
   (zf (zM (zy Kk (we (V2 rfl) rfl B.max qj (za (zC B.len (zo ix_tup (pv 0) zg)) (za (zC B.len (zo ix_tup (pv 0) zg)) zd))) (yn (v:=.int 60) rfl g8 #[t8,rfl]) (zB _))
    (zf (z6 hx rfl T.xi.toXC T.ini rfl T.g (za zY zd)))
    zw))),?_]
  have s16:=zQ;simp only[Is]at hs;obtain⟨_,zs,e0,hZ,hI⟩:=hs;cases e0;have hzl:=hI.len;rw[ag]at hzl;refine zj (λσ H'=>H'=H/\e.2.2.length<=240/\σ=[AK (.ref p)]) ?_ ?_
  ·ac_rfl;refine#[_,hp,_,rfl,_,.inl #[_,hZ,rfl],yx (λh=>#[by lia,q2 (.inl (by lia))]) λh=>by lia]
  rintro σ H1 ⟨rfl,h1,rfl⟩:_;right;ac_rfl;refine#[_,hp,_,rfl,_,#[by rw[z9];lia,rfl],_,hp,_,rfl,_,#[by rw[z9];lia,rfl],?_];rw[z9,z9];refine yx (λh=>#[by lia,q2 ?_]) λh=>q1 ?_
  ·unfold jD;split at h <;> lia
  ·unfold jD;split at h <;> lia
theorem JI{l:List Nat}{i j:Nat}(hB:BG k l ns bs)(hE:EB l e)(hF:¬ jD (yI bs e i j)):EB l (yI bs e i j):=by
 unfold jD at hF;exact#[by lia,by lia,by lia,ux hE.ma hB.mem i,ux hE.mb hB.mem j]
theorem BG.snoc{l:List Nat}{d:Ent}(h:BG k l ns bs)(hn:bs.length+1<64)(hd:EB l d)(hne:d.1≠d.2.1):BG k l ns (bs ++ [ym k l ns d]):=by
 refine#[by rw[aj];exact hn,λe he=>?_,λe he=>?_]
 ·rcases AU.mp he with he | he
  ·exact h.e e he
  ·rw[AW.mp he];exact hd.rule
 ·rcases AU.mp he with he | he
  ·exact h.lt e he
  ·rw[AW.mp he];exact jc hd hne
theorem Jq{CF a p s:rV}{l:List Nat}(h1:OG l ns k)(h2:Is K H (.lst (bs.map dE)) (.ref a))(h3:BG k l ns bs)(h4:SqT K H p [.str (tx e.1),.str (tx e.2.1),.ref s])(h5:LsA K H s (e.2.2.map dSt))(h6:EB l e)
  (q1:∀i j H',zJ (zb bs) e.1 i->zJ (zb bs) e.2.1 j->wAt (zb bs) e.1 i=wAt (zb bs) e.2.1 j->Same H H'->Q .non H')
  (q2:∀i j p' s' H',zJ (zb bs) e.1 i->zJ (zb bs) e.2.1 j->wAt (zb bs) e.1 i≠wAt (zb bs) e.2.1 j->Same H H'->H s'=AL->H' p'=AK (.tup [.str (tx (yI bs e i j).1),.str (tx (yI bs e i j).2.1),.ref s'])->LsA K H' s' ((yI bs e i j).2.2.map dSt)->Q (.ref p') H')
  (q3:(∀i,¬ zJ (zb bs) e.1 i)\/(∀j,¬ zJ (zb bs) e.2.1 j)->∀H',Same H H'->E (.ref CF) AL H'):Xq K CF [.ref a,.ref p] H Q E:=#[a,p,s,k,l,ns,bs,e,rfl,h1,h2,h3,h4,h5,h6,q1,q2,q3]
theorem JL{l:List Nat}{i j:Nat}(hB:BG k l ns bs)(hG:OG l ns k)(hE:EB l e)(hi:i<=40)(hj:j<=40):(yI bs e i j).1.length<=10000/\(yI bs e i j).2.1.length<=10000:=by
 have h1:=qX (l:=e.1) (m:=60) (hB.ne hG) (λp hp=>(hB.le p hp).2) i;have h2:=qX (l:=e.2.1) (m:=60) (hB.ne hG) (λp hp=>(hB.le p hp).2) j;have h3:=hE.a;have h4:=hE.b;show (wAt (zb bs) e.1 i).length<=10000/\(wAt (zb bs) e.2.1 j).length<=10000;lia
def kQ(K:rT)(CO CR CW CF:rV):Sp:=λvs H Q E=>∃(o a:rV) (k:Nat) (l:List Nat) (ns:List Int) (zs:List Ent),vs=[.ref o,.ref a]/\OrdAt CO CR CW H o k l ns/\OG l ns k/\EnsL K H a zs/\zs.length<64/\(∀e ∈ zs,EB l e) /\
 (∀(bs:List Ent) (D:rV) (H':Hp),xp k l ns [] zs (AK bs)->BG k l ns bs->Same H H'->H D=AL->EnsM K H' D bs->Q (.ref D) H')/\(xp k l ns [] zs AL->∀H',Same H H'->E (.ref CF) AL H')
theorem UO{CO CR CW CF o a:rV}{l:List Nat}{zs:List Ent}(h1:OrdAt CO CR CW H o k l ns)(h2:OG l ns k)(h3:EnsL K H a zs)(h4:zs.length<64)(h5:∀e ∈ zs,EB l e)
  (q1:∀(bs:List Ent) (D:rV) (H':Hp),xp k l ns [] zs (AK bs)->BG k l ns bs->Same H H'->H D=AL->EnsM K H' D bs->Q (.ref D) H') (q2:xp k l ns [] zs AL->∀H',Same H H'->E (.ref CF) AL H'):kQ K CO CR CW CF [.ref o,.ref a] H Q E:=#[o,a,k,l,ns,zs,rfl,h1,h2,h3,h4,h5,q1,q2]
def zfA(K:rT)(H1 H':Hp)(bs:List Ent)(e:Ent)(v:V):Prop:=∃i j,zJ (zb bs) e.1 i/\zJ (zb bs) e.2.1 j/\((wAt (zb bs) e.1 i=wAt (zb bs) e.2.1 j/\v=.non) \/
 (wAt (zb bs) e.1 i≠wAt (zb bs) e.2.1 j/\∃p s:rV,v=.ref p/\H1 s=AL/\H' p=AK (.tup [.str (tx (yI bs e i j).1),.str (tx (yI bs e i j).2.1),.ref s])/\LsA K H' s ((yI bs e i j).2.2.map dSt)))
def ze8(K:rT)(H:Hp)(D:rV)(k:Nat)(l:List Nat)(ns:List Int)(zs:List Ent)(i:Nat)(H':Hp):Prop:=∃(bs:List Ent) (AR:List V),Same H H'/\H' D=AK (.lst AR)/\EnsA K (jW D H') bs AR/\BG k l ns bs/\bs.length<=i/\∀r,xp k l ns bs (zs.drop i) r->xp k l ns [] zs r
theorem iC:zk ["order","entries","built","entry","lower"] ["order","entries"] (zh wF):=by nofun
theorem kF{f CO CR CW CF:rV}(B:Bt mg)(F:Fun K "built_anew" "built_anew" wF f fd)(oZ:Df P w K mg base (CXx P w) 5 "brought_down" ["entries","entry"] [] (Xq K CF))(oJ:Df P w K mg base (CXx P w) 1 "refuse_beyond" ["entry"] [] (jr K CF))(ny:Df P w K mg base CX0 4 "as_rule" ["order","entry"] [] (wQ K CO CR CW)):zP P w K mg base (CXx P w) 6 f fd ["order","entries"] (kQ K CO CR CW CF):=by
 exists Fun.okX F iC,0
 ·obtain⟨o,a,k,l,ns,zs,rfl,ho,hG,hA,hz,hE,q1,q2⟩:=h
  refine#[_,(zi (zD 2 iC.nd (wZ zd))
   (zi (zX PassesOwn.leaving rfl (yw (pv 1)) (zx (i:=3) iC.nd rfl (.inl rfl))
    (zi (zD 4 iC.nd (clP hx oZ hr .nil rfl (za (pv 2) (za (pv 3) zd))))
    (zf (zM (zy op_notN' (pv 4) yd (zB _))
     (zi (xA (clP hx oJ hr .nil rfl (za (pv 4) zd)))
     (zf (xA (uX bw bO bP xf (pv 2) (za (cl0 ny hr .nil rfl (za (pv 0) (za (pv 4) zd))) zd)))))
     zw))))
   (zf (zl (pv 2))))),?_]
  have s16:=zQ;obtain⟨xs,hX,hI⟩:=id hA;have hxl:=hI.len;refine zj (λσ H'=>Same H H'/\∃D:rV,H D=AL/\H' D=AK (.lst [])/\σ=[AK (.ref o),AK (.ref a),AK (.ref D),AL,AL]) ?_ ?_
  ·ac_rfl;exact#[by lia,λp hp=>#[zc hp,p,hp,ze,rfl]]
  rintro σ H0 ⟨s0,D,hD,hD0,rfl⟩:_;right;refine zj (λσ H'=>ze8 K H D k l ns zs zs.length H'/\∃(v3 v4:Option V),σ=[AK (.ref o),AK (.ref a),AK (.ref D),v3,v4]) ?_ ?_
  ·ac_rfl;refine#[#[_,s0.seq hX],ForL.by (xs:=xs) (λi σ H'=>ze8 K H D k l ns zs i H'/\∃(v3 v4:Option V),σ=[AK (.ref o),AK (.ref a),AK (.ref D),v3,v4]) #[#[[],[],s0,hD0,by simp only[EnsA],#[by decide,λe he=>(nomatch he),λe he=>(nomatch he)],al _,λr h=>h],AL,AL,rfl] (λi σ H' _ ⟨⟨_,_,h,_⟩,_⟩=>h.seq hX) ?_ ?_]
   ·rintro i x σ H1 hx ⟨⟨bs,AR,s1,hH1,hI1,hB,hbi,hr⟩,v3,v4,rfl⟩;have hix:=(AS.mp hx).1;obtain⟨e,pe,se,hei,rfl,hqe,hse⟩:=hI.get hx;have hEe:=hE e (af hei)
    have hdrop:zs.drop i=e::zs.drop (i+1):=by
     obtain⟨h1,h2⟩:=AS.mp hei;rw[aS h1,h2]
    rw[hdrop]at hr;have hal:=hI1.len;have hbn:=hB.n
    have hIs:Is K H1 (.lst (bs.map dE)) (.ref D):=by
     simp only[Is];exact#[D,AR,rfl,SqL.of hH1,(hI1.same wS).iss]
    simp only[yD,aX,aW];refine zj (λσ H'=>Same H1 H'/\∃v:V,zfA K H1 H' bs e v/\σ=[AK (.ref o),AK (.ref a),AK (.ref D),AK (.ref pe),AK (v)]) ?_ ?_
    ·ac_rfl;exact Jq hG hIs hB (zv s1 hqe) (hse.same s1) hEe (λi' j' H' a1 a2 a3 s'=>#[s',i',j',a1,a2,.inl #[a3,rfl]]) (λi' j' p' s' H' a1 a2 a3 t' a4 a5 a6=>#[t',i',j',a1,a2,.inr #[a3,p',s',rfl,a4,a5,a6]]) λh H' s'=>q2 (hr _ (.stuck h)) H' (s1.trans s')
    rintro σ H2 ⟨s2,v,⟨i',j',hi',hj',hc⟩,rfl⟩:_;right;rcases hc with ⟨hw,rfl⟩ | ⟨hw,p',s',rfl,hsn,hp',hL'⟩
    ·ac_rfl;exact#[bs,AR,s1.trans s2,s2 _ _ hH1,hI1.same (wI s2),hB,by lia,λr h=>hr r (.same hi' hj' hw h)]
    ·ac_rfl
     try rw[if_pos not_false]
     have hdl:=JL hB hG hEe hi'.most hj'.most;refine zj (λσ H'=>H'=H2/\¬ jD (yI bs e i' j')/\σ=[AK (.ref o),AK (.ref a),AK (.ref D),AK (.ref pe),AK (.ref p')]) ?_ ?_
     ·ac_rfl;exact Vr (SqT.of hp') hL'.is hdl.1 hdl.2 (λh=>#[rfl,h]) λh=>q2 (hr _ (.far hi' hj' hw h)) H2 (s1.trans s2)
     rintro σ H3 ⟨rfl,hF,rfl⟩:_;have hEd:=JI hB hEe hF;have hH3:=s2 _ _ hH1
     have fin:∀(v:V) (H4:Hp),Same H3 H4->EnA K (jW D H4) (ym k l ns (yI bs e i' j')) v->ze8 K H D k l ns zs (i+1) (upd H4 D (.lst (AR ++ [v]))):=λv H4 s4 hv=>by
      refine#[bs ++ [ym k l ns (yI bs e i' j')],AR ++ [v],zI (s1.trans (s2.trans s4)) hD,ze,?_,hB.snoc (by lia) hEd hw,by rw[aj];show bs.length+1<=i+1;lia,λr h=>hr r (.new hi' hj' hw hF h)];exact (hI1.same ((wI (s2.trans s4)).trans xu)).snoc (hv.same xu)
     right;ac_rfl;refine#[.inl #[_,SqL.of hH3],j7 (ho.same (s1.trans s2)) hG (SqT.of hp') hL'.is hEd (λer H4 s4=>#[AR,s4 _ _ hH3,by lia,fin _ _ s4 ?_]) λp2 t2 H4 s4 htn hp2 hL2=>#[AR,s4 _ _ hH3,by lia,fin _ _ s4 ?_]]
     ·rw[er];exact EnA.new (s4 _ _ hH3) (s4 _ _ hp') (hL'.same s4) (λz=>by rw[z,hH1]at hsn;cases hsn)
     ·exact EnA.new (s4 _ _ hH3) hp2 hL2 (λz=>by rw[z,hH3]at htn;cases htn)
   ·rintro σ H' ⟨h,v3,v4,rfl⟩;rw[hxl]at h;exact#[h,_,_,rfl]
  rintro σ H2 ⟨⟨bs,AR,s2,hH2,hI2,hB,hbi,hr⟩,v3,v4,rfl⟩:_;rw[eC]at hr;right;ac_rfl;exact q1 bs D H2 (hr _ (.nil bs)) hB s2 hD #[AR,hH2,hI2.same wS]
theorem J9(rs ss:List zp):uA (rs.map dR) (ss.map dR)=decide (rs=ss):=by
 induction rs generalizing ss with
 | nil=>cases ss with
  | nil=>simp [uA]
  | cons s ss=>simp [uA]
 | cons r rs ih=>cases ss with
  | nil=>simp [uA]
  | cons s ss =>
   rw[ar,ar,uA,ih]
   have h:eqD (dR r) (dR s)=decide (r=s):=by
    obtain⟨a,b⟩:=r;obtain⟨c,d⟩:=s
    have e1:∀x y:List Nat,eqD (dS x) (dS y)=decide (x=y):=λx y=>by
     have:eqD (dS x) (dS y)=decide (tx x=tx y):=by simp only[dS,eqD];rfl
     rw[this];exact decide_eq_decide.mpr #[qC,λh=>by rw[h]]
    simp only[dR,eqD,uA,e1];by_cases h1:a=c <;> by_cases h2:b=d <;> simp [h1,h2]
   rw[h];by_cases h1:r=s <;> by_cases h2:rs=ss <;> simp [h1,h2]
theorem Lined.eb{l:List Nat}{es zs:List Ent}(h:Lined k l ns es zs)(hE:∀e ∈ es,EB l e):∀e ∈ zs,EB l e:=λe he=>by
 have hm:=h.perm.mem_iff.mp he;unfold jb at hm;obtain⟨y,hy,rfl⟩:=AT.mp hm;exact (hE y (AY.mp hy).1).rule
theorem Lined.len{l:List Nat}{es zs:List Ent}(h:Lined k l ns es zs):zs.length<=es.length:=by
 rw[h.perm.length_eq];exact Xi k l ns es
def Ub(K:rT)(CO CR CW T CF:rV):Sp:=λvs H Q E=>∃(o a:rV) (k:Nat) (l:List Nat) (ns:List Int) (es:List Ent),vs=[.ref o,.ref a]/\OrdAt CO CR CW H o k l ns/\OG l ns k/\EnsL K H a es/\es.length<64/\(∀e ∈ es,EB l e)/\TabOk H T lp lq /\
 (∀(bs:List Ent) (D:rV) (H':Hp),uq k l ns 20 es (AK bs)->BG k l ns bs->SamT T H H'->TabOk H' T lp lq->EnsM K H' D bs->Q (.ref D) H')/\(uq k l ns 20 es AL->∀H',SamT T H H'->TabOk H' T lp lq->E (.ref CF) AL H')
def zf2(K:rT)(T:rV)(H:Hp)(k:Nat)(l:List Nat)(ns:List Int)(es:List Ent)(n:Nat)(H':Hp)(b:rV):Prop:=∃fs:List Ent,SamT T H H'/\TabOk H' T lp lq/\(∀r,uq k l ns n fs r->uq k l ns 20 es r)/\EnsL K H' b fs/\fs.length<64/\∀e ∈ fs,EB l e
theorem lZ:zk ["order","entries","turn","lined_up"] ["order","entries"] (zh ji):=by nofun
theorem WT{f CO CR CW TB CF:rV}(B:Bt mg)(T:za6 K mg CF)(TM:TMo mg)(F:Fun K "thinned" "thinned" ji f fd)(pY:Df P w K mg base CX0 6 "in_order" ["order","entries"] [] (kM K CO CR CW TB))(pK:Df P w K mg base (CXx P w) 6 "built_anew" ["order","entries"] [] (kQ K CO CR CW CF))(gh:Df P w K mg base CX0 1 "pairs_of" ["entries"] [] (wa K)):zP P w K mg base (CXx P w) 7 f fd ["order","entries"] (Ub K CO CR CW TB CF):=by
 obtain⟨t9,g9⟩:=TM.p
 exists Fun.okX F lZ,0
 ·obtain⟨o,a,k,l,ns,es,rfl,ho,hG,hA,hz,hE,hTab,q1,q2⟩:=h
  refine#[_,(zi (zX PassesOwn.leaving rfl (yo rfl B.range (za (yn (v:=.int 20) rfl g9 #[t9,rfl]) zd)) (zx (i:=2) lZ.nd rfl (.inl rfl))
    (zi (zD 3 lZ.nd (cl0 pY hr .nil rfl (za (pv 0) (za (pv 1) zd))))
    (zi (zD 1 lZ.nd (clP hx pK hr .nil rfl (za (pv 0) (za (pv 3) zd))))
    (zf (zM (zy (zam (Xu hr)) (cl0 gh hr .nil rfl (za (pv 1) zd)) (cl0 gh hr .nil rfl (za (pv 3) zd)) (zB _))
     (zf (zl (pv 1)))
     zw)))))
   (zf (z6 hx rfl T.xi.toXC T.ini rfl T.g (za zY zd)))),?_]
  have s16:=zQ;obtain⟨ps0,hps0,_⟩:=id hTab;refine zj (λσ H'=>∃b:rV,zf2 K TB H k l ns es 0 H' b) ?_ ?_
  ·ac_rfl;refine#[by lia,by lia,ForR.by (λi σ H'=>∃(b:rV) (v2 v3:Option V),zf2 K TB H k l ns es (20 - i) H' b/\σ=[AK (.ref o),AK (.ref b),v2,v3]) #[a,AL,AL,#[es,SamT.of (Same.refl _),hTab,λr h=>h,hA,hz,hE],rfl] ?_ ?_]
   ·rintro i σ H1 hi ⟨b,v2,v3,⟨fs,s1,hT1,hr,hF,hfl,hFE⟩,rfl⟩;have ho1:=ho.samT s1 hps0;have hi20:i<20:=hi;obtain⟨n,hn⟩:∃n,20 - i=n+1:=#[20 - i - 1,by lia];rw[hn]at hr;simp only[yD,aX,aW];refine zj (λσ H'=>SamT TB H1 H'/\TabOk H' TB lp lq/\∃(z:rV),(∃zs:List Ent,Lined k l ns fs zs/\EnsM K H' z zs)/\∃v2,σ=[AK (.ref o),AK (.ref b),v2,AK (.ref z)]) ?_ ?_
    ·ac_rfl;exact Ua ho1 hG hF hfl hFE hT1 λD zs H' s' hT' _ hLn hM=>#[s',hT',D,#[zs,hLn,hM],rfl]
    rintro σ H2 ⟨s2,hT2,z,⟨zs,hLn,hZ⟩,v2,rfl⟩:_;have s12:=s1.trans s2;have ho2:=ho.samT s12 hps0;have hzE:=hLn.eb hFE;have hzl:=hLn.len;right;refine zj (λσ H'=>Same H2 H'/\∃(c:rV),(∃bs:List Ent,xp k l ns [] zs (AK bs)/\BG k l ns bs/\EnsM K H' c bs)/\σ=[AK (.ref o),AK (.ref c),v2,AK (.ref z)]) ?_ ?_
    ·ac_rfl;exact UO ho2 hG hZ.l (by lia) hzE (λbs D H' hb hB s' _ hM=>#[s',D,#[bs,hb,hB,hM],rfl]) λhb H' s'=>q2 (hr _ (.bad hLn hb)) H' (s12.trans (SamT.of s')) (hT2.same s')
    rintro σ H3 ⟨s3,c,⟨bs,hb,hB,hM⟩,rfl⟩:_;have hbn:=hB.n;right;ac_rfl;refine xJ hM.l.is (by lia) λP1 H4 _ s4 hP1=>xJ ((hZ.same s3).same s4).l.is (by lia) λP2 H5 _ s5 hP2=>VL (.inl #[(hP1.same s5).is,hP2.is]) (cL (zdH _) (by decide)) ?_;rw[J9];have s45:=s4.trans s5;have s15:=s12.trans (SamT.of (s3.trans s45));have hT5:=hT2.same (s3.trans s45);refine#[_,rfl,yx (λh=>?_) λh=>?_]
    ·exact q1 bs c H5 (hr _ (.done hLn hb (of_decide_eq_true h))) hB s15 hT5 (hM.same s45)
    ·have e:20 - (i+1)=n:=by lia
     rw[e];exact#[bs,s15,hT5,λr h'=>hr r (.more hLn hb (λz=>h (decide_eq_true z)) h'),(hM.same s45).l,hbn,hB.e]
   ·rintro σ H' ⟨b,v2,v3,h,rfl⟩;exact#[b,h]
  rintro σ H2 ⟨b,fs,s2,hT2,hr,_⟩:_;right;ac_rfl;exact#[by lia,q2 (hr _ (.out fs)) H2 s2 hT2]
def Zd(K:rT):Sp:=λvs H Q _=>∃(a:rV) (ns:List Int) (k:Int),vs=[.ref a,.int k]/\SqL K H a (ns.map V.int)/\(∀z ∈ ns,uU z)/\0<=k/\∀c:Int,uU c->Q (.int c) H
theorem qt{a:rV}{k:Int}(hS:SqL K H a (ns.map V.int))(hB:∀z ∈ ns,uU z)(hk:0<=k)(h:∀c:Int,uU c->Q (.int c) H):Zd K [.ref a,.int k] H Q E:=#[a,ns,k,rfl,hS,hB,hk,h]
theorem za4:zk ["_law_script","_law_k"] ["_law_script","_law_k"] (zh Q9):=by nofun
theorem zbE(B:Bt mg)(F:Fun K "_law_cell" "_law_cell" Q9 f fd) : zP P w K mg base CX0 1 f fd ["_law_script","_law_k"] (Zd K):=by
 exists F.ok za4
 ·obtain⟨a,ns,k,rfl,hS,hB,hk,q⟩:=h
  refine#[_,(zG (zM (zy QP (pv 1) (zC B.len (pv 0)) (zB _))
    (zf (zl (zo zat (pv 0) (pv 1))))
    zw)
   (zf (zl zg))),?_]
  have s16:=zQ
  rfl'
  refine#[_,.inl #[_,hS,rfl],yx (λc=>?_) (λc=>q 0 (by unfold uU;decide))];obtain⟨v,h1,h2⟩:=uR hk c;rw[au]at h2;obtain⟨z,hz,rfl⟩:=AX.mp h2;exact .inl #[_,hS,_,h1,q z (hB z (af hz))]
def xU:Sp:=λvs H Q _=>∃(c t:Int),vs=[.int c,.int t]/\uU c/\0<=t/\t<=100/\∀z:Int,0<=z->Q (.int z) H
theorem xR{c t:Int}(hc:uU c)(h0:0<=t)(h1:t<=100)(q:∀z:Int,0<=z->Q (.int z) H):xU [.int c,.int t] H Q E:=#[c,t,rfl,hc,h0,h1,q]
theorem mT:zk ["_law_cell_here","_law_turn","_law_step","_law_number"] ["_law_cell_here","_law_turn"] (zh Xo):=by nofun
theorem Km(B:Bt mg)(F:Fun K "_law_mixed" "_law_mixed" Xo f fd) : zP P w K mg base CX0 1 f fd ["_law_cell_here","_law_turn"] xU:=by
 exists F.ok mT
 ·obtain⟨c,t,rfl,hc,h0,h1,q⟩:=h
  refine#[_,(zi (zM (zy op_ge' (pv 0) (zA VZ zg zg) (zB _))
    (zi (zX PassesOwn.never rfl (yo rfl B.range (za (zA yb zg (zA yK (pv 1) zg)) zd)) (zx (i:=2) mT.nd rfl (.inl rfl))
     (zf (zD 0 mT.nd (zA yV (pv 0) (zA VZ zg zg)))))
    (zf (zl (zA yK (pv 0) (zA VZ zg zg)))))
    zw)
   (zi (zD 3 mT.nd (zA yb (zA qU (zA Jy (pv 0) (pv 0)) zg) (zA qU (zA qU (pv 0) zg) (zA yb (pv 1) zg))))
   (zf (zl (zA yV (zA yK (zA qU (zA yK (zA yb (pv 3) (zA qU (pv 1) zg)) zg) zg) zg) zg))))),?_]
  have s16:=zQ;have c6:ze9 10 6:=#[by decide,by decide,by decide];have c12:ze9 10 12:=#[by decide,by decide,by decide];have p6:(0:Int)<10 ^ Int.toNat 6/\(10:Int) ^ Int.toNat 6<1073741824:=by decide
  refine zj (λσ H'=>H'=H/\σ=[AK (.int c),AK (.int t),AL,AL]) ?_ ?_
  ·rfl'
   refine#[c12,yx (λ_=>?_) (λ_=>trivial)];refine zj (λσ H'=>H'=H/\∃(z:Int) (v:Option V),σ=[AK (.int z),AK (.int t),v,AL]) ?_ ?_
   ·rfl'
    have e1:=bq t (b:=9) (by decide);have e2:=bn t (b:=9) (by decide);refine#[by decide,by lia,by lia,ForR.by (λi σ H'=>H'=H/\∃(z:Int) (v:Option V),σ=[AK (.int z),AK (.int t),v,AL]) #[rfl,_,_,rfl] ?_ λσ H' h=>h];rintro i σ H' hi ⟨rfl,z,v,rfl⟩
    rfl'
    exact#[c6,p6.1,p6.2]
   rintro σ H1 ⟨rfl,z,v,rfl⟩:_;right
   rfl'
   exact#[c6,p6.1,q _ (bq _ (by have:=p6.1;lia))]
  rintro σ H1 ⟨rfl,rfl⟩:_;right;refine zj (λσ H'=>H'=H1/\∃z:Int,σ=[AK (.int c),AK (.int t),AL,AK (.int z)]) ?_ ?_
  ·rfl'
   exact#[hc,hc,.inr #[by decide,by decide],.inr #[by decide,by decide],.inr #[by lia,by lia]]
  rintro σ H2 ⟨rfl,z,rfl⟩:_;right
  rfl'
  exact#[.inr #[by decide,by decide],by decide,.inr #[by decide,by decide],by decide,#[by decide,by decide],q _ (Int.ediv_nonneg (bq _ (by decide)) (by decide))]
def uF:Sp:=λvs H Q _=>∃c m:Int,vs=[.int c,.int m]/\uU c/\0<=m/\m<=26/\∀l:List Nat,(l.length:Int)=m->l.Nodup->small l->Q (.str (tx l)) H
theorem Xe{c m:Int}(h:uU c)(h0:0<=m)(h1:m<=26)(q:∀l:List Nat,(l.length:Int)=m->l.Nodup->small l->Q (.str (tx l)) H):uF [.int c,.int m] H Q E:=#[c,m,rfl,h,h0,h1,q]
def zf8(c m:Int)(i:Nat)(σ:L2.St):Prop:=∃(left found:List Nat) (number:Int) (v5 v6:Option V),found.length=i/\(found ++ left).Perm alpha/\σ=[AK (.int c),AK (.int m),AK (.str (tx left)),AK (.int number),AK (.str (tx found)),v5,v6]
theorem gq:zk ["_law_cell_here","_law_many","_law_left","_law_number","_law_letters_here","_law_k","_law_at"] ["_law_cell_here","_law_many"] (zh qT):=by nofun
theorem Va(B:Bt mg)(F:Fun K "_law_letters" "_law_letters" qT f fd)(gM:Df P w K mg base CX0 1 "_law_mixed" ["_law_cell_here","_law_turn"] [] xU):zP P w K mg base CX0 2 f fd ["_law_cell_here","_law_many"] uF:=by
 exists F.ok gq
 ·obtain⟨c,m,rfl,hc,h0,h1,q⟩:=h
  refine#[_,(zi (zD 2 gq.nd zY)
   (zi (zD 3 gq.nd (cl0 gM hr .nil rfl (za (pv 0) (za zg zd))))
   (zi (zD 4 gq.nd zY)
   (zi (zX PassesOwn.never rfl (yo rfl B.range (za (pv 1) zd)) (zx (i:=5) gq.nd rfl (.inl rfl))
    (zi (zD 6 gq.nd (zA yK (pv 3) (zC B.len (pv 2))))
    (zi (zD 3 gq.nd (zA yV (pv 3) (zC B.len (pv 2))))
    (zi (zD 4 gq.nd (zA yt (pv 4) (zo VQ (pv 2) (pv 6))))
    (zf (zD 2 gq.nd (zA yt (ya ww (pv 2) xy (zV (pv 6))) (ya ww (pv 2) (zV (zA yb (pv 6) zg)) xy))))))))
   (zf (zl (pv 4))))))),?_]
  have s16:=zQ;have ha:alpha.length=26:=rfl;refine zj (λσ H'=>H'=H/\σ=[AK (.int c),AK (.int m),AK (.str (tx alpha)),AL,AL,AL,AL]) ?_ ?_
  ·rfl'
   exact UW
  rintro σ H1 ⟨rfl,rfl⟩:_;right;refine zj (λσ H'=>H'=H1/\∃z:Int,σ=[AK (.int c),AK (.int m),AK (.str (tx alpha)),AK (.int z),AL,AL,AL]) ?_ ?_
  ·rfl'
   exact xR hc (by decide) (by decide) λz _=>#[rfl,z,rfl]
  rintro σ H2 ⟨rfl,z,rfl⟩:_;right;refine zj (λσ H'=>H'=H2/\σ=[AK (.int c),AK (.int m),AK (.str (tx alpha)),AK (.int z),AK (.str (tx [])),AL,AL]) ?_ ?_
  ·rfl'
   rfl
  rintro σ H3 ⟨rfl,rfl⟩:_;right;refine zj (λσ H'=>H'=H3/\zf8 c m m.toNat σ) ?_ ?_
  ·rfl'
   refine#[by lia,by lia,ForR.by (λi σ H'=>H'=H3/\zf8 c m i σ) #[rfl,alpha,[],z,AL,AL,rfl,.refl _,rfl] ?_ λσ H' h=>h];rintro i σ H' hi ⟨rfl,left,found,number,v5,v6,hf,hp,rfl⟩;have hpl:=hp.length_eq;rw[aj]at hpl;have hl:left.length+i=26:=by lia
   have hm0:=bq number (b:=(left.length:Int)) (by lia);have hm1:=bn number (b:=(left.length:Int)) (by lia);generalize hz:number % (left.length:Int)=at_ at hm0 hm1;obtain⟨v,e1,e2⟩:=uR hm0 hm1;simp only[yD,aX,aW];refine zj (λσ H''=>H''=H'/\∃v5,σ=[AK (.int c),AK (.int m),AK (.str (tx left)),AK (.int number),AK (.str (tx found)),v5,AK (.int at_)]) ?_ ?_
   ·rfl'
    exact#[by lia,by lia,hz]
   rintro σ G1 ⟨rfl,v5',rfl⟩:_;right;refine zj (λσ H''=>H''=G1/\∃n v5,σ=[AK (.int c),AK (.int m),AK (.str (tx left)),AK (.int n),AK (.str (tx found)),v5,AK (.int at_)]) ?_ ?_
   ·rfl'
    exact#[by lia,#[by lia,by lia]]
   rintro σ G2 ⟨rfl,n,v5',rfl⟩:_;right;refine zj (λσ H''=>H''=G2/\∃v5,σ=[AK (.int c),AK (.int m),AK (.str (tx left)),AK (.int n),AK (.str (tx (found ++ [v]))),v5,AK (.int at_)]) ?_ ?_
   ·rfl'
    exact#[by lia,v,e1,by lia,rfl]
   rintro σ G3 ⟨rfl,v5',rfl⟩:_;have hc1:=wV left AL (AK at_);have hc2:=wV left (AK (at_+1)) AL;right
   rfl'
   refine#[by lia,by lia,by lia,_,_,_,_,_,by rw[aj,hf];rfl,?_,rfl];rw[Z8 _ hm0,qp _ (by lia),ao];have e3:(at_+1).toNat=at_.toNat+1:=by lia
   rw[e3];exact ((Q6 e2).append_left found).trans hp
  rintro σ H4 ⟨rfl,left,found,number,v5,v6,hf,hp,rfl⟩:_;right
  rfl'
  have hnd:(found ++ left).Nodup:=hp.nodup_iff.mpr (by decide);refine q found (by lia) (List.nodup_append.mp hnd).1 λc hc=>?_;have h:c ∈ alpha:=hp.mem_iff.mp (bi _ hc);exact (by decide:∀c ∈ alpha,97<=c/\c<=122) c h
def kZ:Sp:=λvs H Q _=>∃(ls:List Nat) (c m:Int),vs=[.int c,.str (tx ls),.int m]/\0<=c/\1<=ls.length/\ls.length<=26/\0<=m/\m<=100/\∀l:List Nat,(l.length:Int)<=m->(∀x ∈ l,x ∈ ls)->Q (.str (tx l)) H
theorem ZE{ls:List Nat}{c m:Int}(h0:0<=c)(h1:1<=ls.length)(h2:ls.length<=26)(h3:0<=m)(h4:m<=100)(h:∀l:List Nat,(l.length:Int)<=m->(∀x ∈ l,x ∈ ls)->Q (.str (tx l)) H):kZ [.int c,.str (tx ls),.int m] H Q E :=
 #[ls,c,m,rfl,h0,h1,h2,h3,h4,h]
theorem lb:zk ["_law_number","_law_letters_here","_law_most","_law_size","_law_word_here","_law_k"] ["_law_number","_law_letters_here","_law_most"] (zh UN):=by nofun
theorem zbO(B:Bt mg)(F:Fun K "_law_word" "_law_word" UN f fd) : zP P w K mg base CX0 1 f fd ["_law_number","_law_letters_here","_law_most"] kZ:=by
 exists F.ok lb
 ·obtain⟨ls,c,m,rfl,h0,h1,h2,h3,h4,q⟩:=h
  refine#[_,(zG (zD 3 lb.nd (zA yK (pv 0) (zA yb (pv 2) zg)))
   (zG (zD 0 lb.nd (zA yV (pv 0) (zA yb (pv 2) zg)))
   (zG (zD 4 lb.nd zY)
   (zG (zX PassesOwn.never rfl (yo rfl B.range (za (pv 3) zd)) (zx (i:=5) lb.nd rfl (.inl rfl))
    (zG (zD 4 lb.nd (zA yt (pv 4) (zo VQ (pv 1) (zA yK (pv 0) (zC B.len (pv 1))))))
    (zf (zD 0 lb.nd (zA yV (pv 0) (zC B.len (pv 1)))))))
   (zf (zl (pv 4))))))),?_]
  have s16:=zQ
  rfl'
  have m0:=bq c (b:=m+1) (by lia);have m1:=bn c (b:=m+1) (by lia)
  refine#[by lia,#[by lia,by lia],by lia,by lia,ForR.by (λi σ H'=>H'=H/\∃(found:List Nat) (number:Int) (v5:Option V),σ=[AK (.int number),AK (.str (tx ls)),AK (.int m),AK (.int (c % (m+1))),AK (.str (tx found)),v5]/\found.length=i/\∀x ∈ found,x ∈ ls)
   #[rfl,[],_,AL,rfl,rfl,λx h=>(nomatch h)] ?_ ?_]
  ·rintro i σ H' hi ⟨rfl,found,number,v5,rfl,hf,hm⟩
   rfl'
   have hm0:=bq number (b:=(ls.length:Int)) (by lia);have hm1:=bn number (b:=(ls.length:Int)) (by lia);obtain⟨v,e1,e2⟩:=uR hm0 hm1
   repeat (refine And.intro (by first | lia | decide | exact#[by lia,by lia] | assumption) ?_)
   refine#[v,e1,?_]
   repeat (refine And.intro (by first | lia | decide | exact#[by lia,by lia] | assumption) ?_)
   refine#[by rw[aj,hf];rfl,λx hx=>?_];rcases AU.mp hx with h | h
   ·exact hm x h
   ·rw[AW.mp h];exact af e2
  ·rintro σ H' ⟨rfl,found,number,v5,rfl,hf,hm⟩
   rfl'
   exact q found (by lia) hm
def Zy:Sp:=λvs H Q _=>∃(ls:List Nat) (c m:Int),vs=[.int c,.str (tx ls),.int m]/\uU c/\1<=ls.length/\ls.length<=26/\0<=m/\m<=100/\∀(o n:List Nat) (p:rV),(o.length:Int)<=m->(n.length:Int)<=m->(∀x ∈ o,x ∈ ls)->(∀x ∈ n,x ∈ ls)->H p=AL->Q (.ref p) (upd H p (.tup [.str (tx o),.str (tx n)]))
theorem KP{ls:List Nat}{c m:Int}(h0:uU c)(h1:1<=ls.length)(h2:ls.length<=26)(h3:0<=m)(h4:m<=100)(h:∀(o n:List Nat) (p:rV),(o.length:Int)<=m->(n.length:Int)<=m->(∀x ∈ o,x ∈ ls)->(∀x ∈ n,x ∈ ls)->H p=AL->Q (.ref p) (upd H p (.tup [.str (tx o),.str (tx n)]))):Zy [.int c,.str (tx ls),.int m] H Q E:=#[ls,c,m,rfl,h0,h1,h2,h3,h4,h]
theorem zbW:zk ["_law_cell_here","_law_letters_here","_law_most"] ["_law_cell_here","_law_letters_here","_law_most"] (zh Uz):=by nofun
theorem zbR(B:Bt mg)(F:Fun K "_law_pair" "_law_pair" Uz f fd)(oK:Df P w K mg base CX0 1 "_law_word" ["_law_number","_law_letters_here","_law_most"] [] kZ)(gM:Df P w K mg base CX0 1 "_law_mixed" ["_law_cell_here","_law_turn"] [] xU):zP P w K mg base CX0 2 f fd ["_law_cell_here","_law_letters_here","_law_most"] Zy:=by
 exists F.ok zbW
 ·obtain⟨ls,c,m,rfl,hc,h1,h2,h3,h4,q⟩:=h;refine#[_,(zf (zl (zR (za (cl0 oK hr .nil rfl (za (cl0 gM hr .nil rfl (za (pv 0) (za zg zd))) (za (pv 1) (za (pv 2) zd)))) (za (cl0 oK hr .nil rfl (za (cl0 gM hr .nil rfl (za (pv 0) (za zg zd))) (za (pv 1) (za (pv 2) zd)))) zd))))),?_];have s16:=zQ
  rfl'
  exact xR hc (by decide) (by decide) λz hz=>ZE hz h1 h2 h3 h4 λo ho mo=>xR hc (by decide) (by decide) λz hz=>ZE hz h1 h2 h3 h4 λn hn mn=>#[by lia,λp hp=>q o n p ho hn mo mn hp]
structure zgg(K:rT):Prop where
 ii:aQ K (.type "int") (.type "int")=AK AM
 ib:aQ K (.type "int") (.type "bool")=AK AN
def Zb:Sp:=λvs H Q _=>∃i:Int,vs=[.int i]/\Q (.bl AM) H
theorem YF{i:Int}(h:Q (.bl AM) H):Zb [.int i] H Q E:=#[i,rfl,h]
theorem JJ:zk ["_law_found"] ["_law_found"] (zh YV):=by nofun
theorem Kl(B:Bt mg)(T:zgg K)(F:Fun K "_law_whole" "_law_whole" YV f fd):zP P w K mg base CX0 1 f fd ["_law_found"] Zb:=by
 exists F.ok JJ
 ·obtain⟨i,rfl,q⟩:=h;refine#[_,(zf (zl (Wh (xW rfl B.isi (pv 0) rfl B.int PySem.Pv.boot_int) (WL (KQ (xW rfl B.isi (pv 0) rfl B.bool PySem.Pv.boot_bool)))))),?_]
  rfl'
  exact#[_,.inl (.int _),AM,T.ii,zgx #[_,.inl (.int _),AN,T.ib,q]]
structure TLs(K:rT):Prop where
 ll:aQ K (.type "list") (.type "list")=AK AM
 tt:aQ K (.type "tuple") (.type "tuple")=AK AM
 bb:aQ K (.type "bool") (.type "bool")=AK AM
def XB(K:rT):Sp:=λvs H Q _=>∃(t:rV) (ss:List Stp),vs=[.ref t]/\Is K H (.lst (ss.map dSt)) (.ref t)/\Q (.bl AM) H
theorem pL:zk ["_law_found","_law_step"] ["_law_found"] (zh Y3):=by nofun
theorem JQ(B:Bt mg)(T:TLs K)(F:Fun K "_law_steps" "_law_steps" Y3 f fd)(pX:Df P w K mg base CX0 1 "_law_whole" ["_law_found"] [] Zb):zP P w K mg base CX0 2 f fd ["_law_found"] (XB K):=by
 exists F.ok pL
 ·obtain⟨t,ss,rfl,hT,q⟩:=h
  refine#[_,(zi (zM (yv (xC (xW rfl B.isi (pv 0) rfl B.list PySem.Pv.boot_list) (λ_=>rfl)))
    (zf (zl xS))
    zw)
   (zi (zX PassesOwn.never rfl (yw (pv 0)) (zx (i:=1) pL.nd rfl (.inl rfl))
    (zi (zM (PW.pt (jR (yv (xC (xW rfl B.isi (pv 1) rfl B.tuple PySem.Pv.boot_tuple) (λ_=>rfl))) (jR (zy Yy (zC B.len (pv 1)) zg (zB _)) (qQ (yv (xC (xW rfl B.isi (zo ix_tup (pv 1) zg) rfl B.bool PySem.Pv.boot_bool) (λ_=>rfl)))))))
     (zf (zl xS))
     zw)
    (zf (zM (PW.pt (jR (yv (xC (cl0 pX hr .nil rfl (za (zo ix_tup (pv 1) zg) zd)) (λ_=>rfl))) (qQ (yv (xC (cl0 pX hr .nil rfl (za (zo ix_tup (pv 1) zg) zd)) (λ_=>rfl))))))
     (zf (zl xS))
     zw))))
   (zf (zl xS)))),?_]
  have s16:=zQ;simp only[Is]at hT;obtain⟨_,ts,e,hTs,hJ⟩:=hT;cases e;refine zj (λσ H'=>H'=H/\σ=[AK (.ref t),AL]) ?_ ?_
  ·rfl'
   exact#[_,.inr (.inr (.inl #[_,_,rfl,rfl,hTs])),AM,T.ll,U5 trivial]
  rintro σ H1 ⟨rfl,rfl⟩:_;right;refine zj (λσ H'=>H'=H1/\∃v1,σ=[AK (.ref t),v1]) ?_ ?_
  ·rfl'
   refine#[#[_,hTs],ForL.by (xs:=ts) (λi σ H'=>H'=H1/\∃v1,σ=[AK (.ref t),v1]) #[rfl,_,rfl] (λi σ H' _ h=>by rw[h.1];exact hTs) ?_ λσ H' h=>h];rintro i x σ H' hx ⟨rfl,v1,rfl⟩;obtain⟨u,pu,hui,rfl,hqu⟩:=va hJ hx;simp only[yD,aX,aW];refine zj (λσ H''=>H''=H'/\σ=[AK (.ref t),AK (.ref pu)]) ?_ ?_
   ·rfl'
    exact#[_,.inr (.inr (.inr #[_,_,rfl,rfl,hqu])),AM,T.tt,U5 #[_,.inr #[_,hqu,rfl],yx (λh=>absurd rfl h) λ_=>#[_,hqu,_,rfl,_,.inl (.bl _),AM,T.bb,U5 trivial]]]
   rintro σ G ⟨rfl,rfl⟩:_;right
   rfl'
   exact#[_,hqu,_,rfl,YF #[AM,rfl,U5 #[_,hqu,_,rfl,YF #[AM,rfl,U5 rfl]]]]
  rintro σ H2 ⟨rfl,v1,rfl⟩:_;right
  rfl'
  exact q
def vR(K:rT):Sp:=λvs H Q _=>∃(a t:rV) (rs:List zp) (w w':List Nat) (s:Stp),vs=[.ref a,.str (tx w),.ref t]/\Is K H (.lst (rs.map dR)) (.ref a)/\jn rs/\w.length<=300000/\SqT K H t [.int s.1,.int s.2.1,.bl s.2.2]/\yj rs w s=AK w'/\Q (.str (tx w')) H
theorem qM{a t:rV}{w w':List Nat}{s:Stp}(h1:Is K H (.lst (rs.map dR)) (.ref a))(h2:jn rs)(h3:w.length<=300000)(h4:SqT K H t [.int s.1,.int s.2.1,.bl s.2.2])(h5:yj rs w s=AK w')(q:Q (.str (tx w')) H):vR K [.ref a,.str (tx w),.ref t] H Q E:=#[a,t,rs,w,w',s,rfl,h1,h2,h3,h4,h5,q]
theorem mQ:zk ["_law_pacts","_law_word_here","_law_step","_law_old","_law_new"] ["_law_pacts","_law_word_here","_law_step"] (zh VH):=by nofun
theorem zbo(B:Bt mg)(F:Fun K "_law_used" "_law_used" VH f fd) : zP P w K mg base CX0 1 f fd ["_law_pacts","_law_word_here","_law_step"] (vR K):=by
 refine F.ok mQ (λvs H Q E h=>?_) (λcdv A outer s H vs Q E hr h=>?_)
 ·obtain⟨a,t,rs,w,w',s,rfl,_⟩:=h;rfl
 ·obtain⟨a,t,rs,w,w',s,rfl,hR,ok,hw,ht,ha,q⟩:=h
  refine#[_,(zi (zD 3 mQ.nd (zo ix_tup (zo ix_list (pv 0) (zo ix_tup (pv 2) zg)) zg))
   (zi (zD 4 mQ.nd (zo ix_tup (zo ix_list (pv 0) (zo ix_tup (pv 2) zg)) zg))
   (zi (zM (yv (xC (zo ix_tup (pv 2) zg) (λ_=>rfl)))
    (zG (zD 3 mQ.nd (zo ix_tup (zo ix_list (pv 0) (zo ix_tup (pv 2) zg)) zg))
    (zf (zD 4 mQ.nd (zo ix_tup (zo ix_list (pv 0) (zo ix_tup (pv 2) zg)) zg))))
    zw)
   (zf (zl (zA yt (zA yt (ya ww (pv 1) xy (zV (zo ix_tup (pv 2) zg))) (pv 4)) (ya ww (pv 1) (zV (zA yb (zo ix_tup (pv 2) zg) (zC B.len (pv 3)))) xy))))))),?_]
  have s16:=zQ;simp only[Is]at hR;obtain⟨_,xs,e,hX,hI⟩:=hR;cases e;have hb:0<=s.1/\s.1<rs.length:=bJ λhb=>by rw[yL hb]at ha;cases ha
  obtain⟨p,a1,_,hp⟩:=zcP hI hb.1 hb.2;have gl:=YW ok s.1.toNat;rw[yy hb]at ha;generalize rs.getD s.1.toNat ([],[])=r at *;refine zj (λσ H'=>H'=H/\σ=[AK (.ref a),AK (.str (tx w)),AK (.ref t),AK (.str (tx r.1)),AL]) ?_ ?_
  ·rfl'
   exact#[_,ht,_,rfl,_,rfl,_,hX,_,a1,_,rfl,_,hp,rfl]
  rintro σ H1 ⟨rfl,rfl⟩:_;right;refine zj (λσ H'=>H'=H1/\σ=[AK (.ref a),AK (.str (tx w)),AK (.ref t),AK (.str (tx r.1)),AK (.str (tx r.2))]) ?_ ?_
  ·rfl'
   exact#[_,ht,_,rfl,_,rfl,_,hX,_,a1,_,rfl,_,hp,rfl]
  rintro σ H2 ⟨rfl,rfl⟩:_;right;refine zj (λσ H'=>H'=H2/\σ=[AK (.ref a),AK (.str (tx w)),AK (.ref t),AK (.str (tx (sdl r s.2.2).1)),AK (.str (tx (sdl r s.2.2).2))]) ?_ ?_
  ·rfl'
   refine#[_,ht,_,rfl,_,rfl,yx (λh=>#[_,ht,_,rfl,_,rfl,_,hX,_,a1,_,rfl,_,hp,_,rfl,_,ht,_,rfl,_,rfl,_,hX,_,a1,_,rfl,_,hp,_,rfl,?_]) λh=>?_]
   ·rw[h];exact#[rfl,rfl]
   ·rw[Bool.not_eq_false]at h;rw[h];exact#[rfl,rfl]
  rintro σ H3 ⟨rfl,rfl⟩:_
  have hol:(sdl r s.2.2).1.length<=100:=by
   cases s.2.2
   ·exact gl.2
   ·exact gl.1
  have hnl:(sdl r s.2.2).2.length<=100:=by
   cases s.2.2
   ·exact gl.1
   ·exact gl.2
  right;generalize sdl r s.2.2=on at *;have hst:zq w s.2.1 on.1=AM:=bJ λhst=>by rw[if_neg hst]at ha;cases ha
  rw[if_pos hst]at ha;obtain⟨_,_,h0,h1⟩:=yP hst;have c1:=wV w AL (AK s.2.1);have c2:=wV w (AK (s.2.1 + ↑on.1.length)) AL
  rfl'
  refine#[_,ht,_,rfl,_,rfl,by lia,by lia,_,ht,_,rfl,by lia,_,rfl,by lia,?_,?_]
  ·rw[aj];lia
  ·rw[zcp h0];cases ha;exact q
theorem W5{w o:List Nat}(h:(n:Int)+o.length<=w.length):zq w (n:Int) o=decide (cut w (AK (n:Int)) (AK ((n:Int)+(o.length:Int)))=o):=by
 unfold zq;rw[Zr _ (by lia) (by lia) (by lia)];have e:((n:Int)+(o.length:Int) - (n:Int)).toNat=o.length:=by lia
 rw[e];exact decide_eq_decide.mpr #[λh=>h.2.2,λh'=>#[by lia,by lia,h']]
theorem Zf{a p:rV}{xs:List V}{ys zs:List V}(hp:H p=AK (.lst ys))(h:SqT K H a xs):SqT K (upd H p (.lst zs)) a xs:=by
 rcases h with (h | ⟨o,h⟩) | h
 ·exact .inl (.inl (by rw[zm (λe=>by rw[e,hp]at h;cases h)];exact h))
 ·exact .inl (.inr #[o,by rw[zm (λe=>by rw[e,hp]at h;cases h)];exact h])
 ·exact .inr h
def YN(K:rT):Sp:=λvs H Q _=>∃(a:rV) (rs:List zp) (w:List Nat) (m:Int),vs=[.ref a,.str (tx w),.int m]/\Is K H (.lst (rs.map dR)) (.ref a)/\jn rs/\w.length<=900/\∀(D:rV) (H':Hp) (us:List Stp),H D=AL->Same H H'->LsA K H' D (us.map dSt)->us.length<=300000->(∀s ∈ us,Fit rs w m s)->Q (.ref D) H'
theorem JK{a:rV}{w:List Nat}{m:Int}(h1:Is K H (.lst (rs.map dR)) (.ref a))(h2:jn rs)(h3:w.length<=900)(h:∀(D:rV) (H':Hp) (us:List Stp),H D=AL->Same H H'->LsA K H' D (us.map dSt)->us.length<=300000->(∀s ∈ us,Fit rs w m s)->Q (.ref D) H'):YN K [.ref a,.str (tx w),.int m] H Q E:=#[a,rs,w,m,rfl,h1,h2,h3,h]
theorem ij:zk ["_law_pacts","_law_word_here","_law_most","_law_found","_law_number","_law_pact","_law_forth","_law_old","_law_place","_law_step"] ["_law_pacts","_law_word_here","_law_most"] (zh QL):=by nofun
theorem zb0(B:Bt mg)(F:Fun K "_law_uses" "_law_uses" QL f fd)(nz:Df P w K mg base CX0 1 "_law_used" ["_law_pacts","_law_word_here","_law_step"] [] (vR K)):zP P w K mg base CX0 2 f fd ["_law_pacts","_law_word_here","_law_most"] (YN K):=by
 exists F.ok ij
 ·obtain⟨a,rs,w,m,rfl,hR,ok,hw,q⟩:=h
  refine#[_,(zi (zD 3 ij.nd (wZ zd))
   (zi (zX PassesOwn.never rfl (xY rfl B.enum (za (pv 0) zd)) (vU (n:=2) rfl (zO (zx (i:=4) ij.nd rfl (.inl rfl)) (zO (zx (i:=5) ij.nd rfl (.inl rfl)) wo)))
    (zf (zX PassesOwn.never rfl (zed (zR (za xS (za xS zd)))) (zx (i:=6) ij.nd rfl (.inl rfl))
     (zi (zD 7 ij.nd (zo ix_tup (pv 5) zg))
     (zi (zM (yv (xC (pv 6) (λ_=>rfl)))
      (zf (zD 7 ij.nd (zo ix_tup (pv 5) zg)))
      zw)
     (zf (zX PassesOwn.never rfl (yo rfl B.range (za (zA yb (zA qA (zC B.len (pv 1)) (zC B.len (pv 7))) zg) zd)) (zx (i:=8) ij.nd rfl (.inl rfl))
      (zi (zD 9 ij.nd (zR (za (pv 4) (za (pv 8) (za (pv 6) zd)))))
      (zf (zM (PW.pt (zak (zy xM (ya ww (pv 1) (zV (pv 8)) (zV (zA yb (pv 8) (zC B.len (pv 7))))) (pv 7) (zB _)) (U7 (zy zd9 (zC B.len (cl0 nz hr .nil rfl (za (pv 0) (za (pv 1) (za (pv 9) zd))))) (pv 2) (zB _)))))
       (zf (xA (uX bw bO bP xf (pv 3) (za (pv 9) zd))))
       zw))))))))))
   (zf (zl (pv 3))))),?_]
  have s16:=zQ;have hR':=hR;simp only[Is]at hR';obtain⟨_,xs,e,hX,hI⟩:=hR';cases e;have hxl:=hI.len;rw[ag]at hxl;have okl:=ok.1;refine zj (λσ H'=>∃D:rV,H D=AL/\Same H H'/\LsA K H' D []/\σ=[AK (.ref a),AK (.str (tx w)),AK (.int m),AK (.ref D),AL,AL,AL,AL,AL,AL]) ?_ ?_
  ·rfl'
   exact#[by lia,λD hD=>#[D,hD,zc hD,LsA.nil,rfl]]
  rintro σ H1 ⟨D,hD,s1,hL1,rfl⟩:_;right;refine zj (λσ H'=>∃us:List Stp,Same H H'/\LsA K H' D (us.map dSt)/\us.length<=300000/\(∀s ∈ us,Fit rs w m s)/\∃v4 v5 v6 v7 v8 v9,σ=[AK (.ref a),AK (.str (tx w)),AK (.int m),AK (.ref D),v4,v5,v6,v7,v8,v9]) ?_ ?_
  ·rfl'
   refine#[#[_,s1.seq hX],ForEL.by (xs:=xs) (λi σ H'=>∃us:List Stp,Same H H'/\LsA K H' D (us.map dSt)/\us.length<=i * 2002/\(∀s ∈ us,Fit rs w m s)/\∃v4 v5 v6 v7 v8 v9,σ=[AK (.ref a),AK (.str (tx w)),AK (.int m),AK (.ref D),v4,v5,v6,v7,v8,v9]) #[[],s1,hL1,aD _,λs h=>(nomatch h),_,_,_,_,_,_,rfl] ?_ ?_ ?_]
   ·rintro i σ H' _ ⟨us,hs,_⟩;exact hs.seq hX
   ·rintro i x σ H' p hx ⟨us,hs,hL,hl,hf,v4,v5,v6,v7,v8,v9,rfl⟩ hp;obtain⟨r,pr,hri,rfl,hqr⟩:=hI.getR hx;have hi:=(AS.mp hri).1;have b:=ok.2 r (af hri);have er:rs.getD i ([],[])=r:=by rw[ae,hri];rfl
    rfl'
    refine#[_,SqT.of ze,rfl,_,_,rfl,_,_,rfl,rfl,?_];refine#[by lia,λp2 hp2=>?_];have hs3:Same H' (upd (upd H' p (.tup [.int (i:Nat),.ref pr])) p2 (.tup [.bl AM,.bl AN])):=(zc hp).trans (zc hp2);have hp3:(upd (upd H' p (.tup [.int (i:Nat),.ref pr])) p2 (.tup [.bl AM,.bl AN])) p2=AK (.tup [.bl AM,.bl AN]):=ze;generalize upd (upd H' p (.tup [.int (i:Nat),.ref pr])) p2 (.tup [.bl AM,.bl AN])=H3 at *
    have hD3:p2≠D:=λe=>by
     obtain⟨ys,hY,_⟩:=hL.same hs3;rw[e,hY]at hp3;cases hp3
    refine#[#[_,SqT.of hp3],ForT.by (xs:=[.bl AM,.bl AN]) (λj σ H4=>H4 p2=AK (.tup [.bl AM,.bl AN])/\Same H H4/\∃us:List Stp,LsA K H4 D (us.map dSt)/\us.length<=i * 2002+j * 1001/\(∀s ∈ us,Fit rs w m s)/\∃v6 v7 v8 v9,σ=[AK (.ref a),AK (.str (tx w)),AK (.int m),AK (.ref D),AK (.int (i:Nat)),AK (.ref pr),v6,v7,v8,v9]) #[hp3,hs.trans hs3,us,hL.same hs3,by lia,hf,_,_,_,_,rfl] (λj σ H4 _ h=>SqT.of h.1) ?_ ?_]
    ·rintro j y σ H4 hy ⟨hp4,hs4,us,hL4,hl4,hf4,v6,v7,v8,v9,rfl⟩
     obtain⟨f,rfl⟩:∃f:Bool,y=.bl f:=by
      match j,hy with
      | 0,hy=>exact#[_,(Option.some.inj hy).symm]
      | 1,hy=>exact#[_,(Option.some.inj hy).symm]
      | j+2,hy=>simp at hy
     rfl'
     refine zj (λσ H'=>H'=H4/\σ=[AK (.ref a),AK (.str (tx w)),AK (.int m),AK (.ref D),AK (.int (i:Nat)),AK (.ref pr),AK (.bl f),AK (.str (tx r.1)),v8,v9]) ?_ ?_
     ·rfl'
      exact#[_,zv hs4 hqr,rfl]
     rintro σ H5 ⟨rfl,rfl⟩:_;right;refine zj (λσ H'=>H'=H5/\σ=[AK (.ref a),AK (.str (tx w)),AK (.int m),AK (.ref D),AK (.int (i:Nat)),AK (.ref pr),AK (.bl f),AK (.str (tx (sdl r f).1)),v8,v9]) ?_ ?_
     ·rfl'
      refine yx (λh=>#[_,zv hs4 hqr,?_]) λh=>?_
      ·rw[h];rfl
      ·rw[Bool.not_eq_false]at h;rw[h];rfl
     rintro σ H6 ⟨rfl,rfl⟩:_
     have bo:(sdl r f).1.length<=100/\(sdl r f).2.length<=100:=by
      unfold sdl;split
      ·exact b
      ·exact#[b.2,b.1]
     have aft:∀n:Nat,(n:Int)+(sdl r f).1.length<=w.length->cut w (AK (n:Int)) (AK ((n:Int)+((sdl r f).1.length:Int)))=(sdl r f).1->∃w',yj rs w (((i:Nat):Int),((n:Nat):Int),f)=AK w'/\w'.length<=1000:=λn hn hc=>by
      have hst:zq w (n:Int) (sdl r f).1=AM:=by
       rw[W5 hn];exact decide_eq_true hc
      refine#[yC w (n:Int) (sdl r f).1 (sdl r f).2,?_,?_]
      ·rw[yy (by show (0:Int)<=(i:Int)/\(i:Int)<rs.length;lia)];simp only;rw[show ((i:Nat):Int).toNat=i from rfl,er,if_pos hst]
      ·have:=We (n:=(sdl r f).2) hst;lia
     right;generalize sdl r f=o at *
     rfl'
     refine#[by lia,by lia,by lia,by lia,ForR.by (λn σ H4=>H4 p2=AK (.tup [.bl AM,.bl AN])/\Same H H4/\∃us:List Stp,LsA K H4 D (us.map dSt)/\us.length<=i * 2002+j * 1001+n/\(∀s ∈ us,Fit rs w m s)/\∃v8 v9,σ=[AK (.ref a),AK (.str (tx w)),AK (.int m),AK (.ref D),AK (.int (i:Nat)),AK (.ref pr),AK (.bl f),AK (.str (tx o.1)),v8,v9]) #[hp4,hs4,us,hL4,hl4,hf4,_,_,rfl] ?_ ?_]
     ·rintro n σ H7 hn ⟨hp7,hs7,us,hL7,hl7,hf7,v8,v9,rfl⟩;rw[show (0:Int)+(n:Int)=(n:Int) by lia];obtain⟨ys,hY,hJ⟩:=hL7;have hyl:=hJ.len;rw[ag]at hyl;have hj2:j<2:=(AS.mp hy).1;simp only[yD,aX,aW];refine zj (λσ H''=>∃t:rV,Same H7 H''/\H'' t=AK (.tup [.int (i:Nat),.int (n:Nat),.bl f])/\σ=[AK (.ref a),AK (.str (tx w)),AK (.int m),AK (.ref D),AK (.int (i:Nat)),AK (.ref pr),AK (.bl f),AK (.str (tx o.1)),AK (.int (n:Nat)),AK (.ref t)]) ?_ ?_
      ·rfl'
       exact#[by lia,λt ht=>#[zc ht,ze]]
      rintro σ H8 ⟨t,s8,ht8,rfl⟩:_;have hY8:=s8 _ _ hY;have hJ8:=Iss.same s8 _ _ hJ;right
      rfl'
      refine#[by lia,by lia,yx (λhc=>?_) λ_=>#[s8 _ _ hp7,hs7.trans s8,us,#[ys,hY8,hJ8],by lia,hf7]];obtain⟨w',ha,hwl⟩:=aft n (by lia) hc;refine qM (s:=(((i:Nat):Int),((n:Nat):Int),f)) (Is.same (hs7.trans s8) _ _ hR) ok (by lia) (SqT.of ht8) ha ?_
      rfl'
      refine#[by lia,yx (λhm=>#[.inl #[_,SqL.of hY8],ys,hY8,by lia,?_,zI (hs7.trans s8) hD,us ++ [(((i:Nat):Int),((n:Nat):Int),f)],?_,by rw[aj];simp only[aI,bT];lia,λs hs'=>?_]) λ_=>#[s8 _ _ hp7,hs7.trans s8,us,#[ys,hY8,hJ8],by lia,hf7]]
      ·rw[zm hD3];exact s8 _ _ hp7
      ·rw[aA];exact LsA.snoc hY8 hJ8 (xO _) (by simp only[dSt,y8,zS,and_self]) (kd (SqT.of ht8))
      ·rcases AU.mp hs' with h | h
       ·exact hf7 s h
       ·rw[AW.mp h];exact#[w',ha,hm]
     ·rintro σ H7 ⟨hp7,hs7,us,hL7,hl7,hf7,v8,v9,rfl⟩;exact#[hp7,hs7,us,hL7,by lia,hf7,_,_,_,_,rfl]
    ·rintro σ H4 ⟨_,hs4,us,hL4,hl4,hf4,v6,v7,v8,v9,rfl⟩;exact#[hs4,us,hL4,by simp only[aI,bT]at hl4;lia,hf4,_,_,_,_,_,_,rfl]
   ·rintro σ H' ⟨us,hs,hL,hl,hf,v4,v5,v6,v7,v8,v9,rfl⟩;exact#[hs,us,hL,by lia,hf,_,_,_,_,_,_,rfl]
  rintro σ H2 ⟨us,s2,hL,hl,hf,v4,v5,v6,v7,v8,v9,rfl⟩:_;right
  rfl'
  exact q D H2 us hD s2 hL hl hf
def kz(K:rT):Sp:=λvs H Q _=>∃(a c:rV) (rs:List zp) (w:List Nat) (ns:List Int) (m:Int),vs=[.ref a,.str (tx w),.ref c,.int m]/\Is K H (.lst (rs.map dR)) (.ref a)/\jn rs/\w.length<=60/\m<=60/\SqL K H c (ns.map V.int)/\(∀z ∈ ns,uU z)/\ns.length<=63 /\
 ∀(D:rV) (H':Hp) (ss:List Stp) (w':List Nat),H D=AL->Same H H'->LsA K H' D (ss.map dSt)->zU rs w ss=AK w'->w'.length<=60->ss.length<=ns.length->(∀s ∈ ss,0<=s.1/\s.1<rs.length)->Q (.ref D) H'
theorem Qc{a c:rV}{w:List Nat}{m:Int}(h1:Is K H (.lst (rs.map dR)) (.ref a))(h2:jn rs)(h3:w.length<=60)(h4:m<=60)(h5:SqL K H c (ns.map V.int))(h5':∀z ∈ ns,uU z)(h6:ns.length<=63)
 (h:∀(D:rV) (H':Hp) (ss:List Stp) (w':List Nat),H D=AL->Same H H'->LsA K H' D (ss.map dSt)->zU rs w ss=AK w'->w'.length<=60->ss.length<=ns.length->(∀s ∈ ss,0<=s.1/\s.1<rs.length)->Q (.ref D) H'):kz K [.ref a,.str (tx w),.ref c,.int m] H Q E:=#[a,c,rs,w,ns,m,rfl,h1,h2,h3,h4,h5,h5',h6,h]
theorem Ye{w w':List Nat}{s:Stp}(h:yj rs w s=AK w'):0<=s.1/\s.1<rs.length:=bJ λhb=>by rw[yL hb]at h;cases h
theorem lc:zk ["_law_pacts","_law_word_here","_law_cells","_law_most","_law_steps_here","_law_cell_here","_law_some","_law_step"] ["_law_pacts","_law_word_here","_law_cells","_law_most"] (zh Y2):=by nofun
theorem KD(B:Bt mg)(F:Fun K "_law_chain" "_law_chain" Y2 f fd)(rL:Df P w K mg base CX0 2 "_law_uses" ["_law_pacts","_law_word_here","_law_most"] [] (YN K))(nz:Df P w K mg base CX0 1 "_law_used" ["_law_pacts","_law_word_here","_law_step"] [] (vR K))(gM:Df P w K mg base CX0 1 "_law_mixed" ["_law_cell_here","_law_turn"] [] xU):zP P w K mg base CX0 3 f fd ["_law_pacts","_law_word_here","_law_cells","_law_most"] (kz K):=by
 exists F.ok lc
 ·obtain⟨a,c,rs,w,ns,m,rfl,hR,ok,hw,hm,hS,hB,hn,q⟩:=h
  refine#[_,(zi (zD 4 lc.nd (wZ zd))
   (zi (zX PassesOwn.never rfl (yw (pv 2)) (zx (i:=5) lc.nd rfl (.inl rfl))
    (zi (zD 6 lc.nd (cl0 rL hr .nil rfl (za (pv 0) (za (pv 1) (za (pv 3) zd)))))
    (zf (zM (zy Wj (zC B.len (pv 6)) zg (zB _))
     (zi (zD 7 lc.nd (zo ix_list (pv 6) (zA yK (cl0 gM hr .nil rfl (za (pv 5) (za zg zd))) (zC B.len (pv 6)))))
     (zi (xA (uX bw bO bP xf (pv 4) (za (pv 7) zd)))
     (zf (zD 1 lc.nd (cl0 nz hr .nil rfl (za (pv 0) (za (pv 1) (za (pv 7) zd))))))))
     zw))))
   (zf (zl (pv 4))))),?_]
  have s16:=zQ;refine zj (λσ H'=>∃D:rV,H D=AL/\Same H H'/\LsA K H' D []/\σ=[AK (.ref a),AK (.str (tx w)),AK (.ref c),AK (.int m),AK (.ref D),AL,AL,AL]) ?_ ?_
  ·rfl'
   exact#[by lia,λD hD=>#[D,hD,zc hD,LsA.nil,rfl]]
  rintro σ H1 ⟨D,hD,s1,hL1,rfl⟩:_;right;refine zj (λσ H'=>∃(ss:List Stp) (w2:List Nat),Same H H'/\LsA K H' D (ss.map dSt)/\zU rs w ss=AK w2/\w2.length<=60/\ss.length<=ns.length/\(∀s ∈ ss,0<=s.1/\s.1<rs.length)/\∃v5 v6 v7,σ=[AK (.ref a),AK (.str (tx w2)),AK (.ref c),AK (.int m),AK (.ref D),v5,v6,v7]) ?_ ?_
  ·rfl'
   refine#[#[_,s1.seq hS],ForL.by (xs:=ns.map V.int) (λi σ H'=>∃(ss:List Stp) (w2:List Nat),Same H H'/\LsA K H' D (ss.map dSt)/\zU rs w ss=AK w2/\w2.length<=60/\ss.length<=i/\(∀s ∈ ss,0<=s.1/\s.1<rs.length)/\∃v5 v6 v7,σ=[AK (.ref a),AK (.str (tx w2)),AK (.ref c),AK (.int m),AK (.ref D),v5,v6,v7]) #[[],w,s1,hL1,rfl,hw,al _,λs h=>(nomatch h),_,_,_,rfl] (λi σ H' _ h=>by obtain⟨ss,w2,hs,_⟩:=h;exact hs.seq hS) ?_ ?_]
   ·rintro i x σ H3 hx ⟨ss,w2,s3,hL3,hwk,hw2,hsl,hnum,v5,v6,v7,rfl⟩;have hi:=(AS.mp hx).1;rw[ag]at hi;rw[au]at hx;obtain⟨z,hz,rfl⟩:=AX.mp hx;have hzB:=hB z (af hz);simp only[yD,aX,aW];refine zj (λσ H'=>∃(U:rV) (us:List Stp),Same H3 H'/\LsA K H' U (us.map dSt)/\us.length<=300000/\(∀s ∈ us,Fit rs w2 m s)/\σ=[AK (.ref a),AK (.str (tx w2)),AK (.ref c),AK (.int m),AK (.ref D),AK (.int z),AK (.ref U),v7]) ?_ ?_
    ·rfl'
     exact JK (Is.same s3 _ _ hR) ok (by lia) λU H' us _ s' hU hul hf=>#[s',U,us,hU,hul,hf,rfl]
    rintro σ H4 ⟨U,us,s4,hU,hul,hf,rfl⟩:_;obtain⟨ys,hY,hJ⟩:=hU;right
    rfl'
    refine#[_,.inl #[_,SqL.of hY,rfl],yx (λhpos=>?_) λ_=>?_]
    ·refine zj (λσ H'=>∃(st:Stp) (pst:rV) (w3:List Nat),H'=H4/\SqT K H4 pst [.int st.1,.int st.2.1,.bl st.2.2]/\yj rs w2 st=AK w3/\w3.length<=60/\σ=[AK (.ref a),AK (.str (tx w2)),AK (.ref c),AK (.int m),AK (.ref D),AK (.int z),AK (.ref U),AK (.ref pst)]) ?_ ?_
     ·rfl'
      refine xR hzB (by decide) (by decide) λy hy=>#[_,.inl #[_,SqL.of hY,rfl],?_];have m0:=bq y (b:=(ys.length:Int)) (by lia);have m1:=bn y (b:=(ys.length:Int)) (by lia);obtain⟨v,a1,b1⟩:=uR (xs:=ys) m0 m1;obtain⟨st,pst,hst,rfl,hqs⟩:=va hJ b1;obtain⟨w3,haf,hw3⟩:=hf st (af hst);exact#[_,rfl,by lia,_,SqL.of hY,_,a1,rfl,st,pst,hqs,w3,haf,by lia,rfl]
     rintro σ H5 ⟨st,pst,w3,rfl,hqs,haf,hw3,rfl⟩:_;obtain⟨xs3,hX3,hI3⟩:=hL3.same s4;have hil:=hI3.len;rw[ag]at hil;right;refine zj (λσ H'=>Same H H'/\LsA K H' D ((ss ++ [st]).map dSt)/\SqT K H' pst [.int st.1,.int st.2.1,.bl st.2.2]/\σ=[AK (.ref a),AK (.str (tx w2)),AK (.ref c),AK (.int m),AK (.ref D),AK (.int z),AK (.ref U),AK (.ref pst)]) ?_ ?_
     ·rfl'
      refine#[.inl #[_,SqL.of hX3],xs3,hX3,by lia,zI (s3.trans s4) hD,?_,Zf hX3 hqs];rw[aA];exact LsA.snoc hX3 hI3 (xO _) (by simp only[dSt,y8,zS,and_self]) (kd hqs)
     rintro σ H6 ⟨s6,hL6,hq6,rfl⟩:_;right
     rfl'
     refine qM (Is.same s6 _ _ hR) ok (by lia) hq6 haf ?_;refine#[s6,ss ++ [st],hL6,w3,qV hwk haf,hw3,by rw[aj];exact Nat.succ_le_succ hsl,λs hs=>?_,rfl];rcases AU.mp hs with h | h
     ·exact hnum s h
     ·rw[AW.mp h];exact Ye haf
    ·exact#[s3.trans s4,ss,hL3.same s4,w2,hwk,hw2,by lia,hnum,rfl]
   ·rintro σ H' ⟨ss,w2,hs,hL,hwk,hw2,hsl,hnum,v5,v6,v7,rfl⟩;rw[ag]at hsl;exact#[hs,ss,hL,w2,hwk,hw2,hsl,hnum,_,_,_,rfl]
  rintro σ H2 ⟨ss,w2,hs,hL,hwk,hw2,hsl,hnum,v5,v6,v7,rfl⟩:_;right
  rfl'
  exact q D H2 ss w2 hD hs hL hwk hw2 hsl hnum
def V0(K:rT):Sp:=λvs H Q _=>∃(a t:rV) (rs:List zp) (w w':List Nat) (ss:List Stp),vs=[.ref a,.str (tx w),.ref t]/\Is K H (.lst (rs.map dR)) (.ref a)/\jn rs/\w.length<=60/\Is K H (.lst (ss.map dSt)) (.ref t)/\ss.length<=2000/\zU rs w ss=AK w'/\Q (.str (tx w')) H
theorem Ue{a t:rV}{w w':List Nat}(h1:Is K H (.lst (rs.map dR)) (.ref a))(h2:jn rs)(h3:w.length<=60)(h4:Is K H (.lst (ss.map dSt)) (.ref t))(h5:ss.length<=2000)(h6:zU rs w ss=AK w')(q:Q (.str (tx w')) H):V0 K [.ref a,.str (tx w),.ref t] H Q E:=#[a,t,rs,w,w',ss,rfl,h1,h2,h3,h4,h5,h6,q]
theorem Q5{w w':List Nat}(h:zU rs w ss=AK w'){i:Nat}{s:Stp}(hs:ss[i]? = AK s){w1:List Nat}(h1:zU rs w (ss.take i)=AK w1):∃w2,yj rs w1 s=AK w2/\zU rs w (ss.take (i+1))=AK w2:=by
 have e:ss=ss.take (i+1) ++ ss.drop (i+1):=(bK _ _).symm;rw[e,xq]at h;obtain⟨w2,h2,_⟩:=Bh.mp h;refine#[w2,?_,h2];rw[z7 hs,xq,h1]at h2;simp only[zU,bW]at h2;obtain⟨w3,h3,h4⟩:=Bh.mp h2;cases h4;exact h3
theorem oM:zk ["_law_pacts","_law_word_here","_law_steps_here","_law_step","_law_old"] ["_law_pacts","_law_word_here","_law_steps_here"] (zh zcd):=by nofun
theorem zdJ(B:Bt mg)(F:Fun K "_law_end" "_law_end" zcd f fd)(nz:Df P w K mg base CX0 1 "_law_used" ["_law_pacts","_law_word_here","_law_step"] [] (vR K)):zP P w K mg base CX0 2 f fd ["_law_pacts","_law_word_here","_law_steps_here"] (V0 K):=by
 refine F.ok oM (λvs H Q E h=>?_) (λcdv A outer s H vs Q E hr h=>?_)
 ·obtain⟨a,t,rs,w,w',ss,rfl,_⟩:=h;rfl
 ·obtain⟨a,t,rs,w,w',ss,rfl,hR,ok,hw,hT,hsl,hwk,q⟩:=h
  refine#[_,(zi (zX PassesOwn.never rfl (yw (pv 2)) (zx (i:=3) oM.nd rfl (.inl rfl))
    (zi (zM (PW.pt (jR (zy QP (zo ix_tup (pv 3) zg) zg (zB _)) (jR (zy op_ge' (zo ix_tup (pv 3) zg) (zC B.len (pv 0)) (zB _)) (qQ (zy QP (zo ix_tup (pv 3) zg) zg (zB _))))))
     (zf (zl yd))
     zw)
    (zi (zD 4 oM.nd (zo ix_tup (zo ix_list (pv 0) (zo ix_tup (pv 3) zg)) (zA qA zg (xl UR rfl B.int PySem.Pv.boot_int (za (zo ix_tup (pv 3) zg) zd)))))
    (zi (zM (PW.pt (jR (zy Kk (zA yb (zo ix_tup (pv 3) zg) (zC B.len (pv 4))) (zC B.len (pv 1)) (zB _)) (qQ (zy Yy (ya ww (pv 1) (zV (zo ix_tup (pv 3) zg)) (zV (zA yb (zo ix_tup (pv 3) zg) (zC B.len (pv 4))))) (pv 4) (zB _)))))
     (zf (zl yd))
     zw)
    (zf (zD 1 oM.nd (cl0 nz hr .nil rfl (za (pv 0) (za (pv 1) (za (pv 3) zd))))))))))
   (zf (zl (pv 1)))),?_]
  have s16:=zQ;have hR':=hR;have hT':=hT;simp only[Is]at hR' hT';obtain⟨_,xs,e,hX,hI⟩:=hR';cases e;obtain⟨_,ts,e,hTs,hJ⟩:=hT';cases e;have htl:=hJ.len;rw[ag]at htl;refine zj (λσ H'=>H'=H/\∃v3 v4,σ=[AK (.ref a),AK (.str (tx w')),AK (.ref t),v3,v4]) ?_ ?_
  ·rfl'
   refine#[#[_,hTs],ForL.by (xs:=ts) (λi σ H'=>H'=H/\∃w1 v3 v4,zU rs w (ss.take i)=AK w1/\w1.length<=60+i * 100/\σ=[AK (.ref a),AK (.str (tx w1)),AK (.ref t),v3,v4]) #[rfl,w,_,_,rfl,by lia,rfl] (λi σ H' _ h=>by rw[h.1];exact hTs) ?_ ?_]
   ·rintro i x σ H' hx ⟨rfl,w1,v3,v4,hw1,hl1,rfl⟩;obtain⟨s,ps,hsi,rfl,hqs⟩:=va hJ hx;have hil:=(AS.mp hsi).1;obtain⟨w2,haf,hw2⟩:=Q5 hwk hsi hw1;have hl2:=QF ok haf;have hb:=Ye haf;obtain⟨p,a1,_,hp⟩:=zcP hI hb.1 hb.2;have gl:=YW ok s.1.toNat;have ha:=haf;rw[yy hb]at ha;generalize rs.getD s.1.toNat ([],[])=r at *;have hst:zq w1 s.2.1 (sdl r s.2.2).1=AM:=bJ λhst=>by rw[if_neg hst]at ha;cases ha
    obtain⟨_,_,h0,h1⟩:=yP hst;simp only[yD,aX,aW];refine zj (λσ H''=>H''=H'/\σ=[AK (.ref a),AK (.str (tx w1)),AK (.ref t),AK (.ref ps),v4]) ?_ ?_
    ·rfl'
     exact#[_,hqs,_,rfl,_,rfl,yx (λh=>absurd hb.1 (by lia)) λ_=>#[_,hqs,_,rfl,_,.inl #[_,hX,rfl],_,rfl,yx (λh=>absurd hb.2 (by have:=hI.len;rw[ag]at this;lia)) λ_=>#[_,hqs,_,rfl,_,rfl,yx (λh=>absurd h0 (by lia)) λ_=>trivial]]]
    rintro σ G ⟨rfl,rfl⟩:_;right;refine zj (λσ H''=>H''=G/\σ=[AK (.ref a),AK (.str (tx w1)),AK (.ref t),AK (.ref ps),AK (.str (tx (sdl r s.2.2).1))]) ?_ ?_
    ·rfl'
     refine#[_,hqs,_,rfl,_,rfl,_,hX,_,a1,_,hqs,_,rfl,.inr #[_,rfl,_,rfl,_,hp,?_]];cases s.2.2 <;> rfl
    rintro σ G1 ⟨rfl,rfl⟩:_;right;refine zj (λσ H''=>H''=G1/\σ=[AK (.ref a),AK (.str (tx w1)),AK (.ref t),AK (.ref ps),AK (.str (tx (sdl r s.2.2).1))]) ?_ ?_
    ·rfl'
     have hol:(sdl r s.2.2).1.length<=100:=by
      cases s.2.2
      ·exact gl.2
      ·exact gl.1
     refine#[_,hqs,_,rfl,by lia,_,rfl,by lia,yx (λh=>absurd h1 (by lia)) λ_=>#[_,hqs,_,rfl,_,rfl,_,hqs,_,rfl,by lia,_,rfl,by lia,yx (λh=>absurd ?_ h) λ_=>trivial]];have hst':=hst;unfold zq at hst';rw[decide_eq_true_eq]at hst';rw[Zr _ h0 (by lia) (by lia)];have e:(s.2.1+((sdl r s.2.2).1.length:Int) - s.2.1).toNat=(sdl r s.2.2).1.length:=by lia
     rw[e];exact hst'.2.2
    rintro σ G2 ⟨rfl,rfl⟩:_;right
    rfl'
    refine qM hR ok (by lia) hqs haf #[rfl,w2,hw2,by lia,rfl]
   ·rintro σ H' ⟨rfl,w1,v3,v4,hw1,hl1,rfl⟩;rw[htl,aO,hwk]at hw1;cases hw1;exact#[rfl,_,_,rfl]
  rintro σ H2 ⟨rfl,v3,v4,rfl⟩:_;right
  rfl'
  exact q
theorem zfw{X:Cx}{k j:Nat}{C:rV}{ps:List si}{sp:Sp}{e:so}{es:List so}{t:TA}{pos p:sY}{x:si}(hx:XE X E)(D:DMk X.prog X.w X.K X.mg X.base (CXx X.prog X.w) k C ps sp)(hr:Room j X.A)(hg:Gl X x)(hm:X.mg x=AK (.ref C))(ha:PA X (e::es) t)(hdb:(x ==("__debug__" : si))=AN:=by decide)(he:rR (e::es) X.env=(AN,eval e X.env)::rR es X.env:=by rfl)
  (hpl:(sw pos (rR es X.env)).any (·.1)=AN:=by rfl) (hj:k+1<=j:=by decide):PE X (.Call (.Name x p) (e::es) [] pos) (U9 C sp [] E t):=by
 obtain⟨f,fd,M,F,hb⟩:=D.ex;exact QX M F (hr.mono hj) hg hm hb .nil (Wb hx) ha hdb he hpl
def Wf(K:rT)(CO CR CW:rV):Sp:=λvs H Q _=>∃(z:Int) (l:List Nat) (D:rV) (ws:List Int),vs=[.int z,.str (tx l),.ref D]/\0<=z/\z<3/\uu l=AM/\H D=AK (.lst (ws.map V.int))/\ws.length=l.length/\(∀n ∈ ws,1<=n/\n<=1000000)/\∀(o:rV) (H':Hp),Same H H'->OrdAt CO CR CW H' o z.toNat l ws->Q (.ref o) H'
theorem KO:zk ["_law_kind","_law_letters_here","_law_weights"] ["_law_kind","_law_letters_here","_law_weights"] (zh Xn):=by nofun
theorem Kg{f CO CR CW:rV}(B:Bt mg)(T:TWS P w K mg base CO CR CW)(F:Fun K "_law_order" "_law_order" Xn f fd) : zP P w K mg base CX0 6 f fd ["_law_kind","_law_letters_here","_law_weights"] (Wf K CO CR CW):=by
 exists F.ok KO
 ·obtain⟨z,l,D,ws,rfl,z0,z3,hg,hD,hwl,hwb,q⟩:=h
  refine#[_,(zG (zM (zy xM (pv 0) zg (zB _))
    (zf (zl (mkC T.mR hr rfl T.gR (za (pv 1) zd))))
    zw)
   (zG (zM (zy xM (pv 0) zg (zB _))
    (zf (zl (zfw xe0 T.mW hr rfl T.gW (za (pv 1) (za (xl yS rfl B.list PySem.Pv.boot_list (za (pv 2) zd)) zd)))))
    zw)
   (zf (zl (mkC T.mO hr rfl T.gO (za (pv 1) zd)))))),?_]
  have s16:=zQ;ac_rfl;refine yx (λh1=>?_) λh1=>yx (λh2=>?_) λh2=>?_
  ·intro x dx hx hdx hne;have sd:=zc (o:=.own x) hdx;refine#[x,CR,dx,l,rfl,hg,T.cR,T.lR,ze,rfl,q x _ (λb o' e=>?_) #[dx,.inr (.inl #[by rw[h1];rfl,ze])]];rw[zm (zF e hx),zm (zF e hx)];exact sd _ _ e
  ·refine#[_,.inl (SqL.of hD),λE1 hE=>?_];have se:=zc (o:=.lst (ws.map V.int)) hE;intro x dx hx hdx hne;have sd:=zc (o:=.own x) hdx
   have k1:∀b o',(upd H E1 (.lst (ws.map V.int))) b=AK o'->(upd (upd (upd H E1 (.lst (ws.map V.int))) dx (.own x)) x (.ins CW dx [])) b=AK o':=λb o' e=>by
    rw[zm (zF e hx)];exact sd _ _ e
   exact#[x,dx,E1,l,ws,rfl,hg,SqL.of (k1 _ _ ze),hwl,hwb,ze,λw H' hw hwx kp ht hx'=>#[rfl,q x _ (λb o' e=>kp b o' (zF (se _ _ e) hx) (k1 b o' (se _ _ e))) #[dx,.inr (.inr #[by lia,hwl,w,hx',ht])]]]
  ·intro x dx hx hdx hne;have sd:=zc (o:=.own x) hdx;refine#[x,CO,dx,l,rfl,hg,T.cO,T.lO,ze,rfl,q x _ (λb o' e=>?_) #[dx,.inl #[by lia,ze]]];rw[zm (zF e hx),zm (zF e hx)];exact sd _ _ e
def Q7:Sp:=λvs H Q _=>∃(c:Int),vs=[.int c]/\uU c/\∀(k:Int) (l:List Nat) (ws:List Int) (p W:rV) (H':Hp),0<=k->k<3->uu l=AM->l.length<=3->ws.length=l.length->(∀n ∈ ws,1<=n/\n<=1000000)->Same H H'->H' p=AK (.tup [.int k,.str (tx l),.ref W])->H' W=AK (.lst (ws.map V.int))->Q (.ref p) H'
theorem pb:zk ["_law_cell_here","_law_letters_here","_law_number"] ["_law_cell_here"] (zh VM):=by nofun
theorem za2(B:Bt mg)(F:Fun K "_law_draw" "_law_draw" VM f fd)(rg:Df P w K mg base CX0 2 "_law_letters" ["_law_cell_here","_law_many"] [] uF)(gM:Df P w K mg base CX0 1 "_law_mixed" ["_law_cell_here","_law_turn"] [] xU):zP P w K mg base CX0 3 f fd ["_law_cell_here"] Q7:=by
 exists F.ok pb
 ·obtain⟨c,rfl,hc,q⟩:=h
  refine#[_,(zi (zD 1 pb.nd (cl0 rg hr .nil rfl (za (pv 0) (za (zA yb zg (zA yK (zA yV (pv 0) zg) zg)) zd))))
   (zi (zD 2 pb.nd (cl0 gM hr .nil rfl (za (pv 0) (za zg zd))))
   (zf (zl (zR (za (zA yK (pv 0) zg) (za (pv 1) (za (ya kR (wZ (za (zA yb zg (zA yK (pv 2) zg)) (za (zA yb zg (zA yK (zA yV (pv 2) zg) zg)) (za (zA yb zg (zA yK (zA yV (pv 2) zg) zg)) zd)))) xy (zV (zC B.len (pv 1)))) zd)))))))),?_]
  have s16:=zQ;have s16:=zQ;refine zj (λσ H'=>H'=H/\∃l:List Nat,l.length<=3/\uu l=AM/\σ=[AK (.int c),AK (.str (tx l)),AL]) ?_ ?_
  ·rfl'
   have e0:=bq (c / 3) (b:=2) (by decide);have e1:=bn (c / 3) (b:=2) (by decide);exact#[#[by decide,by decide],by decide,Xe hc (by lia) (by lia) λl h1 h2 h3=>#[rfl,l,by lia,decide_eq_true #[by lia,by lia,h3,h2],rfl]]
  rintro σ H1 ⟨rfl,l,l3,hg,rfl⟩:_;right;refine zj (λσ H'=>H'=H1/\∃z:Int,σ=[AK (.int c),AK (.str (tx l)),AK (.int z)]) ?_ ?_
  ·rfl'
   exact xR hc (by decide) (by decide) λz _=>#[rfl,z,rfl]
  rintro σ H2 ⟨rfl,z,rfl⟩:_;right
  rfl'
  refine#[by decide,by decide,#[by decide,by decide],by decide,#[by decide,by decide],by decide,by lia,λp hp=>#[by lia,_,SqL.of ze,λp1 hp1=>#[by lia,λp2 hp2=>?_]]];have l1:=(of_decide_eq_true hg).1
  have e:Js [V.int (1+z % 3),V.int (1+z / 3 % 3),V.int (1+z / 9 % 3)] AL (AK (l.length:Int))=([1+z % 3,1+z / 3 % 3,1+z / 9 % 3].take l.length).map V.int:=by
   rcases (show l.length=1\/l.length=2\/l.length=3 by lia)with h | h | h <;> rw[h] <;> rfl
  refine q (c % 3) l ([1+z % 3,1+z / 3 % 3,1+z / 9 % 3].take l.length) p2 p1 _ (bq _ (by decide)) (bn _ (by decide)) hg l3 ?_ (λn hn=>?_) ((zc hp).trans ((zc hp1).trans (zc hp2))) ze ?_
  ·rw[aG];show min l.length 3=l.length;lia
  ·have hn':=aZ hn;have m:∀y:Int,0<=y % 3/\y % 3<3:=λy=>#[bq _ (by decide),bn _ (by decide)];have m0:=m z;have m1:=m (z / 3);have m2:=m (z / 9);simp only[dk,List.not_mem_nil,or_false]at hn';rcases hn' with rfl | rfl | rfl <;> lia
  ·rw[zc hp2 _ _ ze,e]
theorem ThinL.pairs{l:List Nat}{zs bs:List Ent}(h:ThinL k l ns zs)(hp:zb bs=zb zs)(hE:∀e ∈ bs,EB l e):ThinL k l ns bs:=by
 have key:∀(i:Nat) (a:Ent),bs[i]? = AK a->∃z,zs[i]? = AK z/\z.1=a.1/\z.2.1=a.2.1:=λi a ha=>by
  have h1:(zb bs)[i]? = AK (a.1,a.2.1):=by unfold zb;rw[au,ha];rfl
  rw[hp]at h1;unfold zb at h1;rw[au]at h1;obtain⟨z,hz,e⟩:=AX.mp h1;exact#[z,hz,(Prod.ext_iff.mp e).1,(Prod.ext_iff.mp e).2]
 refine#[#[hE,λe he=>?_],λi j a b ha hb hij=>?_,λi j a b ha hb hij=>?_,λi j a b ha hb=>?_]
 ·obtain⟨i,hi⟩:=Bb.mp he;obtain⟨z,hz,e1,e2⟩:=key i e hi;rw[<- e1,<- e2];exact h.rl.lt z (af hz)
 all_goals
  obtain⟨x,hx,e1,e2⟩:=key i a ha;obtain⟨y,hy,f1,f2⟩:=key j b hb;rw[<- f1]
 ·rw[<- e1];exact h.up i j x y hx hy hij
 ·rw[<- e1];exact h.no1 i j x y hx hy hij
 ·rw[<- e2];exact h.no2 i j x y hx hy
abbrev zgq(mg:si->Option rW):Prop:=mg "any" = AL
structure TNT(K:rT)(mg:si->Option rW)(C:rV):Prop where
 xi:XI K C
 g:mg "NotTurned" = AK (.ref C)
 na:NoAttr K C "number"
theorem uE:zk ["self","number"] ["self","number"] (zh zW):=by nofun
theorem uB{f C:rV}(T:TNT K mg C)(F:Fun K "__init__" "NotTurned.__init__" zW f fd):zP P w K mg base CX0 1 f fd ["self","number"] (vQ C "number"):=by
 exists F.ok uE
 ·obtain⟨x,v,rfl,hx,q⟩:=h;refine#[_,(zf (QQ (pv 0) (pv 1) rfl)),?_];simp only[zbt]
  rfl'
  exact#[C,hx,T.xi.toXC,T.na,q]
structure DNT(P:sf)(w:sj)(K:rT)(mg:si->Option rW)(base:sq)(C:rV):Prop extends TNT K mg C where
 ini:∃f fd,ac K (.ref C) "__init__" = AK (AK (.ref f))/\aR K (.ref f)=AM/\zP P w K mg base CX0 1 f fd ["self","number"] (vQ C "number")/\Binds K fd ["self","number"] []
structure zeb(K:rT)(mg:si->Option rW)(CH:rV):Prop where
 cl:Cls K CH
 g:mg "System" = AK (.ref CH)
 no:NoAttr K CH "order"
 nr:NoAttr K CH "rules"
noncomputable def wL(k:Nat)(l:List Nat)(ns:List Int):List zp->Nat->Option Nat
 | [],_=>AL
 | r::rs,i=>if zK k l ns r.2 r.1=AM then wL k l ns rs (i+1)else AK i
theorem WA{l:List Nat}:∀{ps:List zp} {j i:Nat} {r:zp},(∀(m:Nat) (p:zp),m<i->ps[m]? = AK p->zK k l ns p.2 p.1=AM)->ps[i]? = AK r->zK k l ns r.2 r.1=AN->wL k l ns ps j=AK (j+i)
 | [],_,_,_,_,h,_=>by simp at h
 | p::ps,j,0,r,_,h,hl=>by
  cases h;rw[wL,hl,if_neg ay];rfl
 | p::ps,j,i+1,r,hb,h,hl=>by
  rw[wL,if_pos (hb 0 p (Nat.succ_pos _) rfl),WA (i:=i) (λm q hm e=>hb (m+1) q (by lia) e) h hl];congr 1;lia
theorem uM{l:List Nat}:∀{ps:List zp} {j:Nat},(∀(m:Nat) (p:zp),ps[m]? = AK p->zK k l ns p.2 p.1=AM)->wL k l ns ps j=AL
 | [],_,_=>rfl
 | p::ps,j,hb=>by
  rw[wL,if_pos (hb 0 p rfl)];exact uM λm q e=>hb (m+1) q e
def InL(l:List Nat)(ps:List zp):Prop:=∀p ∈ ps,p.1.length<=1000/\p.2.length<=1000/\(∀c ∈ p.1,c ∈ l)/\∀c ∈ p.2,c ∈ l
def qe(K:rT)(CO CR CW CT CH:rV):Sp:=λvs H Q E=>∃(x dx o a:rV) (k:Nat) (l:List Nat) (ns:List Int) (ps:List zp) (xs:List V),vs=[.ref x,.ref o,.ref a]/\H x=AK (.ins CH dx [])/\OrdAt CO CR CW H o k l ns/\OG l ns k/\H a=AK (.lst xs)/\Iss K H (ps.map dR) xs/\InL l ps /\
 (∀i,wL k l ns ps 0=AK i->∀H1,Same H H1->∀d H',ze4 H1 d "number" (.int (i:Nat)) H'->E (.ref CT) (AK d) H') /\
 (wL k l ns ps 0=AL->∀(q:rV) (H':Hp),(∀b o',b≠x->H b=AK o'->H' b=AK o')->H' x=AK (.ins CH dx [("order",.ref o),("rules",.ref q)])->H' q=AK (.lst xs)->H q=AL->Q .non H')
theorem lg:zk ["self","order","rules","number","rule"] ["self","order","rules"] (zh wc):=by nofun
theorem jP{f CO CR CW CT CH:rV}(B:Bt mg)(T:DNT P w K mg base CT)(TS:zeb K mg CH)(DBk:DB P w K mg base CO CR CW)(F:Fun K "__init__" "System.__init__" wc f fd) : zP P w K mg base (CXx P w) 5 f fd ["self","order","rules"] (qe K CO CR CW CT CH):=by
 obtain⟨fi,fdi,hi,hfn,Fi,Bi⟩:=T.ini
 exists Fun.okX F lg,0
 ·obtain⟨x,dx,o,a,k,l,ns,ps,xs,rfl,hx0,ho,hG,hA,hI,hP,q1,q2⟩:=h
  refine#[_,(zi (zX PassesOwn.leaving rfl (xY rfl B.enum (za (pv 2) zd)) (vU (n:=2) rfl (zO (zx (i:=3) lg.nd rfl (.inl rfl)) (zO (zx (i:=4) lg.nd rfl (.inl rfl)) wo)))
    (zf (zM (yv (xC (zcF DBk hr (pv 1) (za (zo ix_tup (pv 4) zg) (za (zo ix_tup (pv 4) zg) zd))) (λ_=>rfl)))
     (zf (Z7 hx rfl T.xi.toXC hi hfn Fi (hr.mono (by decide)) Bi rfl T.g (za (pv 3) zd)))
     zw)))
   (zi (kg (pv 0) (pv 1) rfl)
   (zf (kg (pv 0) (xl yS rfl B.list PySem.Pv.boot_list (za (pv 2) zd)) rfl)))),?_]
  have s16:=zQ;refine zj (λσ H'=>Same H H'/\wL k l ns ps 0=AL/\∃v3 v4,σ=[AK (.ref x),AK (.ref o),AK (.ref a),v3,v4]) ?_ ?_
  ·ac_rfl;refine#[#[_,SqL.of hA],ForEL.by (xs:=xs) (λi σ H'=>Same H H'/\(∀(j:Nat) (p:zp),j<i->ps[j]? = AK p->zK k l ns p.2 p.1=AM)/\∃v3 v4,σ=[AK (.ref x),AK (.ref o),AK (.ref a),v3,v4]) #[Same.refl _,λj p h=>absurd h (cf j),_,_,rfl] ?_ ?_ ?_]
   ·rintro i σ H' _ ⟨hs,_⟩;exact SqL.of (hs _ _ hA)
   ·rintro i y σ H' p hy ⟨hs,hb,v3,v4,rfl⟩ hpn;obtain⟨r,pr,hri,rfl,hqr⟩:=hI.getR hy;have hm:=hP r (af hri);have s2:=hs.trans (zc (o:=.tup [.int (i:Nat),.ref pr]) hpn);have ho2:=ho.same s2;have hq2:=zv s2 hqr;obtain⟨C,dy,fs,hf,hoC,hn,_⟩:=ho2.fam;have hn1:fs.lookup ("before" : si)=AL:=hn _ (by decide) (by decide);ac_rfl;refine#[_,SqT.of ze,rfl,_,_,rfl,_,_,rfl,rfl,C,hf,dy,fs,hoC,hn1,_,rfl,_,hq2,_,rfl,_,rfl,_,hq2,_,rfl,o,k,l,ns,r.2,r.1,rfl,ho2,hG,hm.2.1,hm.1,hm.2.2.2,hm.2.2.1,λH3 s3=>?_];have s16:=zQ;refine#[_,rfl,yx (λe=>#[by lia,V3 (q1 i (by have:=WA (j:=0) hb hri e;simpa using this) H3 (s2.trans s3))]) λe=>#[s2.trans s3,λj p' hj hp'=>?_]];by_cases hj':j<i
    ·exact hb j p' hj' hp'
    ·have:j=i:=by lia
     rw[this,hri]at hp';cases hp';simpa using e
   ·rintro σ H' ⟨hs,hb,v3,v4,rfl⟩;have hxl:=hI.len;rw[ag]at hxl;exact#[hs,uM λm p e=>hb m p (by have:=(AS.mp e).1;lia) e,v3,v4,rfl]
  rintro σ H1 ⟨s1,hf,v3,v4,rfl⟩:_;right;refine zj (λσ H'=>H'=upd H1 x (.ins CH dx [("order",.ref o)])/\σ=[AK (.ref x),AK (.ref o),AK (.ref a),v3,v4]) ?_ ?_
  ·ac_rfl;exact#[_,_,_,s1 _ _ hx0,TS.cl,TS.no,by decide,rfl]
  rintro σ H2 ⟨rfl,rfl⟩:_;right;ac_rfl;have hax:a≠x:=λe=>by rw[e,hx0]at hA;cases hA
  refine#[xs,.inl (SqL.of (by rw[zm hax];exact s1 _ _ hA)),λq hq=>?_];have hqx:q≠x:=λe=>by rw[e,ze]at hq;cases hq
  rw[zm hqx]at hq
  have hqH:H q=AL:=by
   cases e:H q with
   | none=>rfl
   | some o'=>rw[s1 _ _ e]at hq;cases hq
  refine#[CH,dx,_,by rw[zm hqx.symm,ze],TS.cl,TS.nr,by show 1<1000;decide,q2 hf q _ (λb o' hb e=>?_) ze (by rw[zm hqx,ze]) hqH];rw[zm hb,zm (λz=>by rw[z,hqH]at e;cases e),zm hb];exact s1 _ _ e
def JO(K:rT)(CH:rV)(H:Hp)(y o q:rV)(ps:List zp):Prop:=∃dx xs,H y=AK (.ins CH dx [("order",.ref o),("rules",.ref q)])/\H q=AK (.lst xs)/\Iss K H (ps.map dR) xs
noncomputable def yJ(l m:List Nat)(k:Nat):Bool:=decide ((l.drop k).take m.length=m.take (l.length - k))
noncomputable def lf(rs:List zp)(i:Nat):List Nat:=(rs.getD i ([],[])).1
theorem wz{i:Nat}{r:zp}(h:rs[i]? = AK r):lf rs i=r.1:=by unfold lf;rw[ae,h];rfl
noncomputable def YE(rs:List zp)(i j n:Nat):List N3:=((aK n).filter λk=>(decide (i≠j) || decide (k≠0)) && yJ (lf rs i) (lf rs j) k).map λk=>(i,j,k)
noncomputable def ovI(rs:List zp)(i m:Nat):List N3:=(aK m).flatMap λj=>YE rs i j (lf rs i).length
noncomputable def ovA(rs:List zp)(m:Nat):List N3:=(aK m).flatMap λi=>ovI rs i rs.length
theorem jt(rs:List zp)(i j n:Nat):YE rs i j (n+1)=YE rs i j n ++ (if ((decide (i≠j) || decide (n≠0)) && yJ (lf rs i) (lf rs j) n)=AM then [(i,j,n)]else []):=by
 unfold YE;rw[cB,cM,aA];congr 1;simp only[eJ,db];split <;> rfl
theorem qk(rs:List zp)(i m:Nat):ovI rs i (m+1)=ovI rs i m ++ YE rs i m (lf rs i).length:=by
 unfold ovI;rw[cB,cX];simp
theorem Zk(rs:List zp)(m:Nat):ovA rs (m+1)=ovA rs m ++ ovI rs m rs.length:=by
 unfold ovA;rw[cB,cX];simp
theorem qw(rs:List zp)(i j n:Nat):(YE rs i j n).length<=n:=by
 unfold YE;rw[ag];have:=cQ (λk=>(decide (i≠j) || decide (k≠0)) && yJ (lf rs i) (lf rs j) k) (aK n);rw[cq]at this;exact this
theorem zek(h:jn rs)(i:Nat):(lf rs i).length<=100:=by
 cases e:rs[i]? with
 | none=>unfold lf;rw[ae,e];exact aD _
 | some r=>rw[wz e];exact (h.2 r (af e)).1
theorem YX(h:jn rs)(i m:Nat):(ovI rs i m).length<=m * 100:=by
 induction m with
 | zero=>exact aD _
 | succ m ih =>
  rw[qk,aj];have h1:=qw rs i m (lf rs i).length;have h2:=zek h i;lia
theorem Qn(h:jn rs)(m:Nat):(ovA rs m).length<=m * 3000:=by
 induction m with
 | zero=>exact aD _
 | succ m ih =>
  rw[Zk,aj];have h1:=YX h m rs.length;have h2:=h.1;lia
theorem Vw(l m:List Nat)(k:Nat):yJ l m k=AM ↔ ∀j,j<m.length->k+j<l.length->l[k+j]? = m[j]?:=by
 unfold yJ;rw[decide_eq_true_eq];constructor
 ·intro h j hj hk;have h1:((l.drop k).take m.length)[j]? =(m.take (l.length - k))[j]?:=by rw[h]
  rw[br hj,dZ,br (by lia)]at h1;exact h1
 ·intro h;refine d9 λj=>?_;by_cases hj:j<m.length
  ·rw[br hj,dZ];by_cases hk:k+j<l.length
   ·rw[br (by lia)];exact h j hj hk
   ·rw[be (by lia),be (by rw[aG];lia)]
  ·rw[be (by rw[aG];lia),be (by rw[aG];lia)]
def Zg:Sp:=λvs H Q _=>∃(l m:List Nat) (k:Nat),vs=[.str (tx l),.str (tx m),.int (k:Nat)]/\l.length<=1000/\m.length<=1000/\k<=l.length/\Q (.bl (yJ l m k)) H
theorem Yu{l m:List Nat}(h1:l.length<=1000)(h2:m.length<=1000)(h3:k<=l.length)(h:Q (.bl (yJ l m k)) H):Zg [.str (tx l),.str (tx m),.int (k:Nat)] H Q E:=#[l,m,k,rfl,h1,h2,h3,h]
theorem Kq:zk ["one","other","place"] ["one","other","place"] (zh YK):=by nofun
theorem JX(B:Bt mg)(F:Fun K "agree" "agree" YK f fd) : zP P w K mg base CX0 1 f fd ["one","other","place"] Zg:=by
 exists F.ok Kq
 ·obtain⟨l,m,k,rfl,hl,hm,hk,q⟩:=h;refine#[_,(zf (zl (yX xM (ya ww (pv 0) (zV (pv 2)) (zV (zA yb (pv 2) (zC B.len (pv 1))))) (ya ww (pv 1) xy (zV (zA qA (zC B.len (pv 0)) (pv 2)))) (zB _)))),?_];have s16:=zQ
  rfl'
  refine#[by lia,by lia,by lia,by lia,?_];rw[zap _ (by lia) (by lia),Z8 _ (by lia)];have e1:((k:Int)+(m.length:Int) - (k:Int)).toNat=m.length:=by lia
  have e2:((l.length:Int) - (k:Int)).toNat=l.length - k:=by lia
  rw[e1,e2];exact q
def vK(K:rT):Sp:=λvs H Q _=>∃(a:rV) (rs:List zp),vs=[.ref a]/\Is K H (.lst (rs.map dR)) (.ref a)/\jn rs/\∀D H',H D=AL->Same H H'->LsA K H' D ((ovA rs rs.length).map d3)->Q (.ref D) H'
theorem ZZ{a:rV}(h1:Is K H (.lst (rs.map dR)) (.ref a))(h2:jn rs)(h:∀D H',H D=AL->Same H H'->LsA K H' D ((ovA rs rs.length).map d3)->Q (.ref D) H'):vK K [.ref a] H Q E:=#[a,rs,rfl,h1,h2,h]
theorem gz:zk ["rules","found","i","one","j","other","place"] ["rules"] (zh uz):=by nofun
theorem Y0(B:Bt mg)(F:Fun K "overlaps" "overlaps" uz f fd)(rD:Df P w K mg base CX0 1 "agree" ["one","other","place"] [] Zg):zP P w K mg base CX0 2 f fd ["rules"] (vK K):=by
 exists F.ok gz
 ·obtain⟨a,rs,rfl,hR,ok,q⟩:=h
  refine#[_,(zG (zD 1 gz.nd (wZ zd))
   (zG (zX PassesOwn.never rfl (xY rfl B.enum (za (pv 0) zd)) (vU (n:=2) rfl (zO (zx (i:=2) gz.nd rfl (.inl rfl)) (zO (zx (i:=3) gz.nd rfl (.inl rfl)) wo)))
    (zf (zX PassesOwn.never rfl (xY rfl B.enum (za (pv 0) zd)) (vU (n:=2) rfl (zO (zx (i:=4) gz.nd rfl (.inl rfl)) (zO (zx (i:=5) gz.nd rfl (.inl rfl)) wo)))
     (zf (zX PassesOwn.never rfl (ZU rfl B.range (za (w8 (zy xM (pv 2) (pv 4) (zB _)) zg zg) (za (zC B.len (zo ix_tup (pv 3) zg)) zd))) (zx (i:=6) gz.nd rfl (.inl rfl))
      (zf (zM (xC (cl0 rD hr .nil rfl (za (zo ix_tup (pv 3) zg) (za (zo ix_tup (pv 5) zg) (za (pv 6) zd)))) (λ_=>rfl))
       (zf (xA (uX bw bO bP xf (pv 1) (za (zR (za (pv 2) (za (pv 4) (za (pv 6) zd)))) zd))))
       zw)))))))
   (zf (zl (pv 1))))),?_]
  have s16:=zQ
  rfl'
  simp only[Is]at hR;obtain⟨_,xs,e,hX,hI⟩:=hR;cases e;refine#[by lia,λD hD=>#[#[_,(zc hD).seq hX],ForEL.by (xs:=xs) (λi σ H'=>∃v2 v3 v4 v5 v6,σ=[AK (.ref a),AK (.ref D),v2,v3,v4,v5,v6]/\Same H H'/\LsA K H' D ((ovA rs i).map d3)) #[AL,AL,AL,AL,AL,rfl,zc hD,LsA.nil] ?_ ?_ ?_]]
  ·rintro i σ H' hi ⟨v2,v3,v4,v5,v6,rfl,hs,_⟩;exact hs.seq hX
  ·rintro i x σ H' p hx ⟨v2,v3,v4,v5,v6,rfl,hs,hL⟩ hp;obtain⟨r,pr,hri,rfl,hqr⟩:=hI.getR hx;have er:=wz hri;have hr1:=(ok.2 r (af hri)).1
   rfl'
   refine#[_,SqT.of ze,rfl,_,_,rfl,_,_,rfl,rfl,#[_,((hs.trans (zc hp)).seq hX)],ForEL.by (xs:=xs) (λj σ H''=>∃v4 v5 v6,σ=[AK (.ref a),AK (.ref D),AK (.int (i:Nat)),AK (.ref pr),v4,v5,v6]/\Same H H''/\LsA K H'' D ((ovA rs i ++ ovI rs i j).map d3)) #[v4,v5,v6,rfl,hs.trans (zc hp),by rw[show ovI rs i 0=[]from rfl,aT];exact hL.same (zc hp)] ?_ ?_ ?_]
   ·rintro j σ H2 hj ⟨v4,v5,v6,rfl,hs2,_⟩;exact hs2.seq hX
   ·rintro j y σ H2 p2 hy ⟨v4,v5,v6,rfl,hs2,hL2⟩ hp2;obtain⟨r2,pr2,hri2,rfl,hqr2⟩:=hI.getR hy;have er2:=wz hri2;have hr2:=(ok.2 r2 (af hri2)).1;have hs3:=hs2.trans (zc (o:=.tup [.int (j:Nat),.ref pr2]) hp2);have hq1:=zv hs3 hqr;have el:(tx r.1).length=r.1.length:=z9 _
    rfl'
    refine#[_,SqT.of ze,rfl,_,_,rfl,_,_,rfl,rfl,rfl,yx (λh=>?_) λh=>?_]
    ·have hij:i=j:=by injection h with h;lia
     have z0:YE rs i j (1+0)=[]:=by
      subst hij;rw[show 1+0=0+1 from rfl,jt];simp [YE]
     have zn:YE rs i j (1+((r.1.length:Int) - 1).toNat)=YE rs i j r.1.length:=by
      by_cases h0:r.1.length=0
      ·rw[h0];exact z0
      ·rw[show 1+((r.1.length:Int) - 1).toNat=r.1.length by lia]
     refine#[_,hq1,_,rfl,_,#[by lia,rfl],by decide,by decide,by lia,by lia,ForR.by (λt σ H3=>∃v6,σ=[AK (.ref a),AK (.ref D),AK (.int (i:Nat)),AK (.ref pr),AK (.int (j:Nat)),AK (.ref pr2),v6]/\Same H H3/\LsA K H3 D ((ovA rs i ++ ovI rs i j ++ YE rs i j (1+t)).map d3)) #[v6,rfl,hs3,(by rw[z0,aT];exact hL2.same (zc hp2))] ?_ ?_]
     ·rintro n σ H3 hn ⟨v6,rfl,hs4,hL4⟩;have hn':1+n<r.1.length:=by lia
      have en:((1:Int)+(n:Int))=((1+n:Nat):Int):=by lia
      rw[en];obtain⟨ys,hY,hJ⟩:=hL4;have hlen:=hJ.len;have l1:=Qn ok i;have l2:=YX ok i j;have l3:=qw rs i j (1+n);have i1:=(AS.mp hri).1;have i2:=(AS.mp hri2).1;have i3:=ok.1;simp only[ag,aj]at hlen;have es:=jt rs i j (1+n);have etest:(decide (i≠j) || decide (1+n≠0))=AM:=by rw[show decide (1+n≠0)=AM from decide_eq_true (by lia),dw]
      rw[etest,fu,er,er2]at es
      rfl'
      refine#[_,zv hs4 hqr,_,rfl,_,zv hs4 hqr2,_,rfl,Yu (by lia) (by lia) (by lia) #[_,rfl,yx (λhb=>#[.inl #[_,SqL.of hY],by lia,λt ht=>#[_,zc ht _ _ hY,by lia,zI (hs4.trans (zc ht)) hD,?_]]) λhb=>#[hs4,ys,hY,?_]]]
      ·rw[hb,if_pos rfl]at es;rw[show 1+(n+1)=1+n+1 by lia,es,<- ao,aA];exact LsA.pushT hY hJ ht zef (WN _) (by simp only[zS,y8,and_self])
      ·have hb':yJ r.1 r2.1 (1+n)=AN:=by simpa using hb
       rw[hb',if_neg ay,aT]at es;rw[show 1+(n+1)=1+n+1 by lia,es];exact hJ
     ·rintro σ H3 ⟨v6,rfl,hs4,hL4⟩;refine#[#[_,_,_,rfl],hs4,?_];rw[qk,er,<- ao];rw[el,zn]at hL4;exact hL4
    ·have hij:i≠j:=λz=>h (by rw[z]);refine#[_,hq1,_,rfl,_,#[by lia,rfl],by decide,by decide,by lia,by lia,ForR.by (λt σ H3=>∃v6,σ=[AK (.ref a),AK (.ref D),AK (.int (i:Nat)),AK (.ref pr),AK (.int (j:Nat)),AK (.ref pr2),v6]/\Same H H3/\LsA K H3 D ((ovA rs i ++ ovI rs i j ++ YE rs i j (0+t)).map d3)) #[v6,rfl,hs3,(by rw[show YE rs i j (0+0)=[]from rfl,aT];exact hL2.same (zc hp2))] ?_ ?_]
     ·rintro n σ H3 hn ⟨v6,rfl,hs4,hL4⟩;have hn':0+n<r.1.length:=by lia
      have en:((0:Int)+(n:Int))=((0+n:Nat):Int):=by lia
      rw[en];obtain⟨ys,hY,hJ⟩:=hL4;have hlen:=hJ.len;have l1:=Qn ok i;have l2:=YX ok i j;have l3:=qw rs i j (0+n);have i1:=(AS.mp hri).1;have i2:=(AS.mp hri2).1;have i3:=ok.1;simp only[ag,aj]at hlen;have es:=jt rs i j (0+n);have etest:(decide (i≠j) || decide (0+n≠0))=AM:=by rw[show decide (i≠j)=AM from decide_eq_true hij,Bool.true_or]
      rw[etest,fu,er,er2]at es
      rfl'
      refine#[_,zv hs4 hqr,_,rfl,_,zv hs4 hqr2,_,rfl,Yu (by lia) (by lia) (by lia) #[_,rfl,yx (λhb=>#[.inl #[_,SqL.of hY],by lia,λt ht=>#[_,zc ht _ _ hY,by lia,zI (hs4.trans (zc ht)) hD,?_]]) λhb=>#[hs4,ys,hY,?_]]]
      ·rw[hb,if_pos rfl]at es;rw[show 0+(n+1)=0+n+1 by lia,es,<- ao,aA];exact LsA.pushT hY hJ ht zef (WN _) (by simp only[zS,y8,and_self])
      ·have hb':yJ r.1 r2.1 (0+n)=AN:=by simpa using hb
       rw[hb',if_neg ay,aT]at es;rw[show 0+(n+1)=0+n+1 by lia,es];exact hJ
     ·rintro σ H3 ⟨v6,rfl,hs4,hL4⟩;refine#[#[_,_,_,rfl],hs4,?_];rw[qk,er,<- ao];rw[el,show 0+((r.1.length:Int) - 0).toNat=r.1.length by lia]at hL4;exact hL4
   ·rintro σ H2 ⟨v4,v5,v6,rfl,hs2,hL2⟩;have e:=hI.len;rw[ag]at e;rw[e,<- Zk]at hL2;exact#[#[_,_,_,_,_,rfl],hs2,hL2]
  ·rintro σ H' ⟨v2,v3,v4,v5,v6,rfl,hs,hL⟩;have e:=hI.len;rw[ag]at e;rw[e]at hL
   rfl'
   exact q D H' hD hs hL
noncomputable def z8(l m:List Nat)(k:Nat):List Nat:=l ++ m.drop (l.length - k)
theorem wA(l m:List Nat)(k:Nat)(hk:k<=l.length):(z8 l m k).length=max l.length (k+m.length):=by
 unfold z8;rw[aj,bg];lia
theorem j0(l m:List Nat)(k:Nat):zq (z8 l m k) 0 l=AM:=by
  unfold zq z8;refine decide_eq_true #[by decide,by rw[aj];lia,?_];rw[show (0:Int).toNat=0 from rfl,dQ,aP (al _),aO]
theorem jz{l m:List Nat}(hk:k<=l.length)(h:yJ l m k=AM):zq (z8 l m k) (k:Nat) m=AM:=by
 unfold yJ at h;rw[decide_eq_true_eq]at h;have hl:=wA l m k hk;unfold zq;refine decide_eq_true #[by lia,by lia,?_];rw[show ((k:Nat):Int).toNat=k from rfl];unfold z8;rw[bL hk];by_cases hm:m.length<=l.length - k
 ·rw[aP (by rw[bg];lia),h,bj hm]
 ·rw[bj (by rw[bg];lia)]at h;rw[h,bK,aO]
theorem JE{i j n:Nat}{t:N3}(h:t ∈ YE rs i j n):t.1=i/\t.2.1=j/\t.2.2<n/\yJ (lf rs i) (lf rs j) t.2.2=AM:=by
 unfold YE at h;obtain⟨k,hk,rfl⟩:=AT.mp h;rw[List.mem_filter,fg,bV]at hk;exact#[rfl,rfl,hk.1,hk.2.2]
theorem uw{t:N3}(h:t ∈ ovA rs rs.length):t.1<rs.length/\t.2.1<rs.length/\t.2.2<(lf rs t.1).length/\yJ (lf rs t.1) (lf rs t.2.1) t.2.2=AM:=by
 unfold ovA ovI at h;obtain⟨i,hi,h⟩:=Be.mp h;obtain⟨j,hj,h⟩:=Be.mp h;obtain⟨e1,e2,e3,e4⟩:=JE h;rw[e1,e2];exact#[AZ.mp hi,AZ.mp hj,e3,e4]
def Zp(K:rT):Sp:=λvs H Q _=>∃(a t:rV) (rs:List zp) (i j k:Nat) (r r2:zp),vs=[.ref a,.ref t]/\Is K H (.lst (rs.map dR)) (.ref a)/\SqT K H t [.int (i:Nat),.int (j:Nat),.int (k:Nat)]/\jn rs/\rs[i]? = AK r/\rs[j]? = AK r2/\k<=r.1.length/\yJ r.1 r2.1 k=AM /\
 ∀p H',H p=AL->Same H H'->H' p=AK (.tup [.str (tx (z8 r.1 r2.1 k)),.str (tx (yC (z8 r.1 r2.1 k) 0 r.1 r.2)),.str (tx (yC (z8 r.1 r2.1 k) (k:Nat) r2.1 r2.2))])->Q (.ref p) H'
theorem WI{a t:rV}{i j k:Nat}{r r2:zp}(h1:Is K H (.lst (rs.map dR)) (.ref a))(h2:SqT K H t [.int (i:Nat),.int (j:Nat),.int (k:Nat)])(h3:jn rs)(h4:rs[i]? = AK r)(h5:rs[j]? = AK r2)(h6:k<=r.1.length)(h7:yJ r.1 r2.1 k=AM)
 (h:∀p H',H p=AL->Same H H'->H' p=AK (.tup [.str (tx (z8 r.1 r2.1 k)),.str (tx (yC (z8 r.1 r2.1 k) 0 r.1 r.2)),.str (tx (yC (z8 r.1 r2.1 k) (k:Nat) r2.1 r2.2))])->Q (.ref p) H'):Zp K [.ref a,.ref t] H Q E:=#[a,t,rs,i,j,k,r,r2,rfl,h1,h2,h3,h4,h5,h6,h7,h]
theorem U6{CU:rV}{l o n:List Nat}{k:Int}(h1:l.length<=10000)(h2:o.length<=10000)(h3:n.length<=10000)(hs:zq l k o=AM)(q:Q (.str (tx (yC l k o n))) H):Xy CU [.str (tx l),.int k,.str (tx o),.str (tx n)] H Q E:=#[l,o,n,k,rfl,h1,h2,h3,λ_=>q,λh=>by rw[hs]at h;cases h]
theorem mS:zk ["rules","overlap","one","other","place","word"] ["rules","overlap"] (zh QV):=by nofun
theorem zbV{f CU:rV}(B:Bt mg)(F:Fun K "peak" "peak" QV f fd)(pJ:Df P w K mg base (CXx P w) 3 "put" ["word","place","old","new"] [] (Xy CU)):zP P w K mg base CX0 4 f fd ["rules","overlap"] (Zp K):=by
 exists F.ok mS
 ·obtain⟨a,t,rs,i,j,k,r,r2,rfl,hR,ht,ok,hr1,hr2,hk,hag,q⟩:=h
  refine#[_,(zi (zD 2 mS.nd (zo ix_list (pv 0) (zo ix_tup (pv 1) zg)))
   (zi (zD 3 mS.nd (zo ix_list (pv 0) (zo ix_tup (pv 1) zg)))
   (zi (zD 4 mS.nd (zo ix_tup (pv 1) zg))
   (zi (zD 5 mS.nd (zA yt (zo ix_tup (pv 2) zg) (ya zaG (zo ix_tup (pv 3) zg) (zV (zA qA (zC B.len (zo ix_tup (pv 2) zg)) (pv 4))) xy)))
   (zf (zl (zR (za (pv 5) (za (clP xe0 pJ hr .nil rfl (za (pv 5) (za zg (za (zo ix_tup (pv 2) zg) (za (zo ix_tup (pv 2) zg) zd))))) (za (clP xe0 pJ hr .nil rfl (za (pv 5) (za (pv 4) (za (zo ix_tup (pv 3) zg) (za (zo ix_tup (pv 3) zg) zd))))) zd)))))))))),?_]
  have s16:=zQ;simp only[Is]at hR;obtain⟨_,xs,e,hX,hI⟩:=hR;cases e;obtain⟨p1,a1,q1⟩:=zfI hI hr1;obtain⟨p2,a2,q2⟩:=zfI hI hr2;have b1:=ok.2 r (af hr1);have b2:=ok.2 r2 (af hr2);refine zj (λσ H'=>H'=H/\σ=[AK (.ref a),AK (.ref t),AK (.ref p1),AL,AL,AL]) ?_ ?_
  ·rfl'
   exact#[_,ht,_,rfl,_,rfl,_,hX,a1]
  rintro σ H1 ⟨rfl,rfl⟩:_;right;refine zj (λσ H'=>H'=H1/\σ=[AK (.ref a),AK (.ref t),AK (.ref p1),AK (.ref p2),AL,AL]) ?_ ?_
  ·rfl'
   exact#[_,ht,_,rfl,_,rfl,_,hX,a2]
  rintro σ H2 ⟨rfl,rfl⟩:_;right;refine zj (λσ H'=>H'=H2/\σ=[AK (.ref a),AK (.ref t),AK (.ref p1),AK (.ref p2),AK (.int (k:Nat)),AL]) ?_ ?_
  ·rfl'
   exact#[_,ht,rfl]
  rintro σ H3 ⟨rfl,rfl⟩:_;right;refine zj (λσ H'=>H'=H3/\σ=[AK (.ref a),AK (.ref t),AK (.ref p1),AK (.ref p2),AK (.int (k:Nat)),AK (.str (tx (z8 r.1 r2.1 k)))]) ?_ ?_
  ·rfl'
   refine#[_,q1,_,rfl,_,q2,_,rfl,_,q1,_,rfl,_,#[by rw[z9];lia,rfl],#[by rw[z9];lia,_,rfl,_,rfl,?_,rfl,?_]]
   ·simp only[z9,Xh];have:=wV r2.1 (AK ((r.1.length:Int) - (k:Int))) AL;lia
   ·rw[z9,Xh,jh,qp _ (by lia),show ((r.1.length:Int) - (k:Int)).toNat=r.1.length - k by lia];rfl
  rintro σ H4 ⟨rfl,rfl⟩:_;have hw:=wA r.1 r2.1 k hk;right
  rfl'
  exact#[_,q1,_,rfl,_,q1,_,rfl,U6 (by lia) (by lia) (by lia) (j0 _ _ _) #[_,q2,_,rfl,_,q2,_,rfl,U6 (by lia) (by lia) (by lia) (jz hk hag) #[by lia,λp hp=>q p _ hp (zc hp) ze]]]
def FmOk(ps:List zp)(most:Int)(m:si->Option V):Prop:=∀k v,m k=AK v->∃(w:List Nat) (J:Nat),k=tx w/\v=.str (tx (wAt ps w J))/\WW ps w J/\zE (wAt ps w J) ps=AL/\(J:Int)<=most
theorem FmOk.get{most:Int}{m:si->Option V}(h:FmOk ps most m){w:List Nat}{v:V}(e:m (tx w)=AK v){J:Nat}(hl:WW ps w J)(hf:zE (wAt ps w J) ps=AL):v=.str (tx (wAt ps w J)):=by
 obtain⟨w',J',e1,e2,e3,e4,_⟩:=h _ _ e;have e5:=qC e1;subst e5;rw[e2,Kj e3 e4 hl hf]
theorem FmOk.put{most:Int}{m:si->Option V}(h:FmOk ps most m){w:List Nat}{J:Nat}(hl:WW ps w J)(hf:zE (wAt ps w J) ps=AL)(hJ:(J:Int)<=most):FmOk ps most (λx=>if x=tx w then AK (.str (tx (wAt ps w J)))else m x):=λk v e=>by
 by_cases hk:k=tx w
 ·simp only[hk,if_true]at e;cases e;exact#[w,J,hk,rfl,hl,hf,hJ]
 ·simp only[hk,if_false]at e;exact h k v e
def YI(P:sf)(w:sj)(K:rT)(CF:rV):Sp:=λvs H Q E=>∃(a F:rV) (l:List Nat) (ps:List zp) (m:Int) (J n:Nat) (mp:si->Option V),vs=[.ref a,.str (tx l),.int m,.ref F]/\LsA K H a (ps.map dR)/\NeL ps/\ps.length<=100/\(∀p ∈ ps,p.1.length<=1000/\p.2.length<=1000)/\Rd ps l J/\H F=AK (jC P w F mp n)/\FmOk ps m mp/\n<=10000 /\
 ((zE (wAt ps l J) ps=AL/\(J:Int)<=m/\∀(mp':si->Option V) (n':Nat) (H':Hp),SamT F H H'->H' F=AK (jC P w F mp' n')->FmOk ps m mp'->n'<=n+1->Q (.str (tx (wAt ps l J))) H') \/
  (zE (wAt ps l J) ps≠AL/\(J:Int)=m/\∀H',Same H H'->E (.ref CF) AL H'))
theorem WR:zk ["rules","word","most","forms"] ["rules","word","most","forms"] (zh qY):=by nofun
theorem Vs{f CF:rV}{iI:tP}(B:Bt mg)(F:Fun K "form_of" "form_of" qY f fd)(mP:Df P w K mg base (CXx P w) 4 "gone" ["rules","word","most"] [] (xw K CF))(DD_gone:Df P w K mg base (CXx P w) 4 "gone" ["rules","word","most"] [.int 4000 iI] (xw K CF)):zP P w K mg base (CXx P w) 5 f fd ["rules","word","most","forms"] (YI P w K CF):=by
 exists Fun.okX F WR,0
 ·obtain⟨a,F0,l,ps,m,J,n,mp,rfl,hA,hN,hpl,hP,hR,hF,hM,hn,hq⟩:=h
  refine#[_,(zi (zM (zy Kf (pv 1) (pv 3) (by with_unfolding_all rfl))
    (zf (zab (zo ix_tup (clP hx mP hr .nil rfl (za (pv 0) (za (pv 1) (za (pv 2) zd)))) zg) (zc5 (pv 3) (pv 1) Kd (by intro _;rfl))))
    zw)
   (zf (zl (zo zbX (pv 3) (pv 1))))),?_]
  have s16:=zQ;have s16:=zQ;refine zj (λσ H'=>SamT F0 H H'/\zE (wAt ps l J) ps=AL/\(J:Int)<=m/\(∃(mp':si->Option V) (n':Nat),H' F0=AK (jC P w F0 mp' n')/\FmOk ps m mp'/\n'<=n+1/\mp' (tx l)=AK (.str (tx (wAt ps l J))))/\σ=[AK (.ref a),AK (.str (tx l)),AK (.int m),AK (.ref F0)]) ?_ ?_
  ·rfl'
   refine#[F0,mp,n,tx l,rfl,rfl,hF,_,rfl,yx (λhnone=>#[a,l,ps,m,J,rfl,hA,hN,hpl,hP,hR,?_]) λhsome=>?_]
   ·rcases hq with ⟨hf,hJ,_⟩ | h
    ·refine .inl #[hf,hJ,λp S H' s' hp _ _=>#[p,rfl,_,SqT.of hp,_,rfl,?_]];simp only[zfL]
     rfl'
     exact#[F0,mp,n,tx l,rfl,rfl,s' _ _ hF,by lia,λb o hb e=>by rw[zm hb];exact s' _ _ e,hf,hJ,_,_,ze,hM.put hR.live hf hJ,al _,if_pos rfl]
    ·exact .inr h
   ·cases hv:mp (tx l)with
    | none=>rw[hv]at hsome;exact absurd rfl hsome
    | some v =>
     obtain⟨w',J',e1,e2,e3,e4,e5⟩:=hM _ _ hv;have e6:=qC e1;subst e6;rcases hq with ⟨hf,hJ,_⟩ | ⟨hf,hJ,_⟩
     ·exact#[λb o _ e=>e,hf,hJ,mp,n,hF,hM,by lia,by rw[hM.get hv hR.live hf]at hv;exact hv]
     ·exfalso;rcases dz J' J with h | h
      ·exact hR.live J' h e4
      ·have:J'=J:=by lia
       subst this;exact hf e4
  rintro σ H1 ⟨s1,hf,hJ,⟨mp',n',h1,h2,h3,h4⟩,rfl⟩:_;right
  rfl'
  refine#[F0,mp',n',tx l,_,rfl,rfl,h1,h4,?_];rcases hq with ⟨_,_,q⟩ | ⟨h,_⟩
  ·exact q mp' n' H1 s1 h1 h2 h3
  ·exact absurd hf h
noncomputable def pkA(ps:List zp)(t:N3):List Nat:=yC (z8 (lf ps t.1) (lf ps t.2.1) t.2.2) 0 (lf ps t.1) (ps.getD t.1 ([],[])).2
noncomputable def pkB(ps:List zp)(t:N3):List Nat:=yC (z8 (lf ps t.1) (lf ps t.2.1) t.2.2) (t.2.2:Nat) (lf ps t.2.1) (ps.getD t.2.1 ([],[])).2
inductive zcE(ps:List zp)(m:Int)(l:List Nat):Option Nat->Prop where
 | yes {J:Nat} (h:Rd ps l J) (h1:zE (wAt ps l J) ps=AL) (h2:(J:Int)<=m):zcE ps m l (AK J)
 | no {J:Nat} (h:Rd ps l J) (h1:zE (wAt ps l J) ps≠AL) (h2:(J:Int)=m):zcE ps m l AL
def Zs(P:sf)(w:sj)(K:rT)(CF:rV):Sp:=λvs H Q E=>∃(a t F:rV) (ps:List zp) (tr:N3) (m:Int) (n:Nat) (mp:si->Option V) (g1 g2:Option Nat),vs=[.ref a,.ref t,.int m,.ref F]/\LsA K H a (ps.map dR)/\NeL ps/\jn ps/\SqT K H t [.int (tr.1:Nat),.int (tr.2.1:Nat),.int (tr.2.2:Nat)]/\tr ∈ ovA ps ps.length/\H F=AK (jC P w F mp n)/\FmOk ps m mp/\n<=9000/\zcE ps m (pkA ps tr) g1/\zcE ps m (pkB ps tr) g2 /\
 (∀(J1 J2:Nat) (mp':si->Option V) (n':Nat) (H':Hp),g1=AK J1->g2=AK J2->SamT F H H'->H' F=AK (jC P w F mp' n')->FmOk ps m mp'->n'<=n+2->Q (.bl (decide (wAt ps (pkA ps tr) J1=wAt ps (pkB ps tr) J2))) H') /\
 ((g1=AL\/g2=AL)->∀H',SamT F H H'->E (.ref CF) AL H')
theorem X7{P:sf}{w:sj}{CF a F:rV}{l:List Nat}{m:Int}{mp:si->Option V}{g:Option Nat}(hA:LsA K H a (ps.map dR))(hN:NeL ps)(hok:jn ps)(hF:H F=AK (jC P w F mp n))(hM:FmOk ps m mp)(hn:n<=10000)(hg:zcE ps m l g)
  (h1:∀(J:Nat) (mp':si->Option V) (n':Nat) (H':Hp),g=AK J->SamT F H H'->H' F=AK (jC P w F mp' n')->FmOk ps m mp'->n'<=n+1->Q (.str (tx (wAt ps l J))) H') (h2:g=AL->∀H',Same H H'->E (.ref CF) AL H'):YI P w K CF [.ref a,.str (tx l),.int m,.ref F] H Q E:=by
 have hP:∀p ∈ ps,p.1.length<=1000/\p.2.length<=1000:=λp hp=>by have:=hok.2 p hp;lia
 have hl:ps.length<=100:=by have:=hok.1;lia
 cases hg with
 | yes h e1 e2=>exact#[a,F,l,ps,m,_,n,mp,rfl,hA,hN,hl,hP,h,hF,hM,hn,.inl #[e1,e2,λmp' n' H' a1 a2 a3 a4=>h1 _ mp' n' H' rfl a1 a2 a3 a4]]
 | no h e1 e2=>exact#[a,F,l,ps,m,_,n,mp,rfl,hA,hN,hl,hP,h,hF,hM,hn,.inr #[e1,e2,h2 rfl]]
theorem jj{F t:rV}{H H':Hp}{P:sf}{w:sj}{mp:si->Option V}{xs:List V}(s:SamT F H H')(hF:H F=AK (jC P w F mp n))(h:SqT K H t xs):SqT K H' t xs:=by
 rcases h with (h | ⟨o,h⟩) | h
 ·exact .inl (.inl (s _ _ (λz=>by rw[z,hF]at h;cases h) h))
 ·exact .inl (.inr #[o,s _ _ (λz=>by rw[z,hF]at h;cases h) h])
 ·exact .inr h
theorem Wq{F a:rV}{H H':Hp}{P:sf}{w:sj}{mp:si->Option V}(s:SamT F H H')(hF:H F=AK (jC P w F mp n))(h:LsA K H a (ps.map dR)):LsA K H' a (ps.map dR):=by
 obtain⟨xs,h1,h2⟩:=h;refine#[xs,s _ _ (λz=>by rw[z,hF]at h1;cases h1) h1,?_]
 have key:∀(qs:List zp) (vs:List V),Iss K H (qs.map dR) vs->Iss K H' (qs.map dR) vs:=by
  intro qs
  induction qs with
  | nil=>intro vs h;simp only[aL,Iss]at h ⊢;exact h
  | cons q qs ih =>
   intro vs h;simp only[ar,Iss]at h ⊢;obtain⟨v,r,e,h3,h4⟩:=h;obtain⟨p,rfl,h5⟩:=zc4 h3;exact#[_,r,e,zfs (jj s hF h5),ih r h4]
 exact key ps xs h2
theorem mI:zk ["rules","overlap","most","forms","sides","one","other"] ["rules","overlap","most","forms"] (zh ZA):=by nofun
theorem Qy{f CF:rV}(B:Bt mg)(F:Fun K "is_met" "is_met" ZA f fd)(pM:Df P w K mg base CX0 4 "peak" ["rules","overlap"] [] (Zp K))(pw:Df P w K mg base (CXx P w) 5 "form_of" ["rules","word","most","forms"] [] (YI P w K CF)):zP P w K mg base (CXx P w) 6 f fd ["rules","overlap","most","forms"] (Zs P w K CF):=by
 exists Fun.okX F mI,0
 ·obtain⟨a,t,F0,ps,tr,m,n,mp,g1,g2,rfl,hA,hN,hok,ht,htr,hF,hM,hn,hg1,hg2,q1,q2⟩:=h
  refine#[_,(zi (zD 4 mI.nd (cl0 pM hr .nil rfl (za (pv 0) (za (pv 1) zd))))
   (zi (zD 5 mI.nd (clP hx pw hr .nil rfl (za (pv 0) (za (zo ix_tup (pv 4) zg) (za (pv 2) (za (pv 3) zd))))))
   (zi (zD 6 mI.nd (clP hx pw hr .nil rfl (za (pv 0) (za (zo ix_tup (pv 4) zg) (za (pv 2) (za (pv 3) zd))))))
   (zf (zl (yX xM (pv 5) (pv 6) (zB _))))))),?_]
  have s16:=zQ;have s16:=zQ;obtain⟨i1,i2,i3,i4⟩:=uw htr;obtain⟨r,hr⟩:∃r,ps[tr.1]? = AK r:=#[_,ah i1];obtain⟨r2,hr2⟩:∃r,ps[tr.2.1]? = AK r:=#[_,ah i2];have l1:=wz hr;have l2:=wz hr2;have d1:ps.getD tr.1 ([],[])=r:=by rw[ae,hr];rfl
  have d2:ps.getD tr.2.1 ([],[])=r2:=by rw[ae,hr2];rfl
  have eA:pkA ps tr=yC (z8 r.1 r2.1 tr.2.2) 0 r.1 r.2:=by unfold pkA;rw[l1,l2,d1]
  have eB:pkB ps tr=yC (z8 r.1 r2.1 tr.2.2) (tr.2.2:Nat) r2.1 r2.2:=by unfold pkB;rw[l1,l2,d2]
  rw[l1]at i3;rw[l1,l2]at i4;refine zj (λσ H'=>Same H H'/\∃p:rV,(∃x,H' p=AK (.tup [x,.str (tx (pkA ps tr)),.str (tx (pkB ps tr))]))/\σ=[AK (.ref a),AK (.ref t),AK (.int m),AK (.ref F0),AK (.ref p),AL,AL]) ?_ ?_
  ·rfl'
   exact WI hA.is ht hok hr hr2 (by lia) i4 λp H' _ s' hp=>#[s',p,#[_,by rw[eA,eB];exact hp],rfl]
  rintro σ H1 ⟨s1,p,⟨x,hp⟩,rfl⟩:_;have hF1:=s1 _ _ hF;right;refine zj (λσ H'=>SamT F0 H1 H'/\∃(J1:Nat),g1=AK J1/\(∃mp' n',H' F0=AK (jC P w F0 mp' n')/\FmOk ps m mp'/\n'<=n+1)/\σ=[AK (.ref a),AK (.ref t),AK (.int m),AK (.ref F0),AK (.ref p),AK (.str (tx (wAt ps (pkA ps tr) J1))),AL]) ?_ ?_
  ·rfl'
   refine#[_,SqT.of hp,_,rfl,X7 (hA.same s1) hN hok hF1 hM (by lia) hg1 (λJ mp' n' H' e a1 a2 a3 a4=>?_) λe H' s'=>q2 (.inl e) H' (SamT.of (s1.trans s'))];exact#[a1,J,e,#[mp',n',a2,a3,a4],rfl]
  rintro σ H2 ⟨s2,J1,e1,⟨mp1,n1,hF2,hM2,hn2⟩,rfl⟩:_;have s12:SamT F0 H H2:=(SamT.of s1).trans s2;have hpF:p≠F0:=λz=>by rw[z,hF1]at hp;cases hp
  right;refine zj (λσ H'=>SamT F0 H2 H'/\∃(J2:Nat),g2=AK J2/\(∃mp' n',H' F0=AK (jC P w F0 mp' n')/\FmOk ps m mp'/\n'<=n+2)/\σ=[AK (.ref a),AK (.ref t),AK (.int m),AK (.ref F0),AK (.ref p),AK (.str (tx (wAt ps (pkA ps tr) J1))),AK (.str (tx (wAt ps (pkB ps tr) J2)))]) ?_ ?_
  ·rfl'
   exact#[_,SqT.of (s2 _ _ hpF hp),_,rfl,X7 (Wq s2 hF1 (hA.same s1)) hN hok hF2 hM2 (by lia) hg2 (λJ mp' n' H' e a1 a2 a3 a4=>#[a1,J,e,#[mp',n',a2,a3,by lia],rfl]) λe H' s'=>q2 (.inr e) H' (s12.trans (SamT.of s'))]
  rintro σ H3 ⟨s3,J2,e2,⟨mp2,n2,hF3,hM3,hn3⟩,rfl⟩:_;right
  rfl'
  exact q1 J1 J2 mp2 n2 H3 e1 e2 (s12.trans s3) hF3 hM3 hn3
def kO(K:rT)(CH:rV):Sp:=λvs H Q _=>∃(y o q:rV) (ps:List zp),vs=[.ref y]/\JO K CH H y o q ps/\∀(r:rV) (H':Hp),Same H H'->LsA K H' r (ps.map dR)->H r=AL->Q (.ref r) H'
theorem vp:zk ["self"] ["self"] (zh yz):=by nofun
theorem vm{f CH:rV}(B:Bt mg)(TS:zeb K mg CH)(F:Fun K "rules_told" "System.rules_told" yz f fd) : zP P w K mg base CX0 1 f fd ["self"] (kO K CH):=by
 exists F.ok vp
 ·obtain⟨y,o,q,ps,rfl,hy,k⟩:=h;refine#[_,(zf (zl (xl yS rfl B.list PySem.Pv.boot_list (za (vW (pv 0) rfl) zd)))),?_];have s16:=zQ
  rfl'
  obtain⟨dx,xs,h1,h2,h3⟩:=hy;exact#[_,_,_,h1,TS.cl,TS.nr,_,rfl,_,rfl,_,.inl (SqL.of h2),λr hr'=>k r _ (zc hr') #[xs,ze,Iss.same (zc hr') _ _ h3] hr']
noncomputable def goJ(ps:List zp)(m:Nat)(v:List Nat):Option Nat:=(aK (m+1)).find? λj=>(zE (wAt ps v j) ps).isNone
theorem JN{m:Nat}{v:List Nat}{i:Nat}(e:goJ ps m v=AK i):i<=m/\WW ps v i/\zE (wAt ps v i) ps=AL:=by
 unfold goJ at e;have h1:=dC e;have h2:zE (wAt ps v i) ps=AL:=Option.isNone_iff_eq_none.mp h1;have hm:=AZ.mp (eg e);refine#[by lia,λn hn hno=>?_,h2];obtain⟨_,as,bs,e2,h3⟩:=List.find?_eq_some_iff_append.mp e
 have hlen:as.length=i:=by
  have:=congrArg (λl=>l[as.length]?) e2;simp only[bx (al _),eK,cH]at this;obtain⟨h7,h8⟩:=AS.mp this;rw[fF]at h8;exact h8
 have h9:(aK (m+1))[n]? = as[n]?:=by rw[e2,bz (by lia)]
 have h10:n<(aK (m+1)).length:=by rw[cq];lia
 rw[ah h10,fF]at h9;have:=h3 n (af h9.symm);rw[hno]at this;cases this
theorem Ky{m:Nat}{v:List Nat}(e:goJ ps m v=AL):∀j,j<=m->zE (wAt ps v j) ps≠AL:=λj hj hno=>by
 unfold goJ at e;have:=Bm.mp e j (AZ.mpr (by lia));rw[hno]at this;exact this rfl
theorem Uk{m:Nat}{v:List Nat}(hl:∀j,j<=m->(wAt ps v j).length<=10000)(hm:m<=10000):zcE ps (m:Int) v (goJ ps m v):=by
 cases e:goJ ps m v with
 | some i =>
  obtain⟨h1,h2,h3⟩:=JN e;exact .yes #[h2,λj hj=>hl j (by lia),by lia] h3 (by lia)
 | none =>
  have h:=Ky e;exact .no (J:=m) #[λi hi=>h i (by lia),λj hj=>hl j hj,hm] (h m (al _)) rfl
noncomputable def zcL(ps:List zp)(m:Nat)(v:List Nat):List Nat:=wAt ps v ((goJ ps m v).getD 0)
noncomputable def Jh(ps:List zp)(m:Nat)(t:N3):Bool:=decide (zcL ps m (pkA ps t)=zcL ps m (pkB ps t))
def OkG(ps:List zp)(m:Nat)(t:N3):Prop:=(goJ ps m (pkA ps t)).isSome=AM/\(goJ ps m (pkB ps t)).isSome=AM
def zga(ps:List zp)(m:Nat):Prop:=m<=10000/\∀t ∈ ovA ps ps.length,(∀j,j<=m->(wAt ps (pkA ps t) j).length<=10000)/\∀j,j<=m->(wAt ps (pkB ps t) j).length<=10000
theorem zaR{t:N3}{m J1 J2:Nat}(e1:goJ ps m (pkA ps t)=AK J1)(e2:goJ ps m (pkB ps t)=AK J2):decide (wAt ps (pkA ps t) J1=wAt ps (pkB ps t) J2)=Jh ps m t:=by
 unfold Jh zcL;rw[e1,e2];rfl
theorem zdD{m:Nat}{t:N3}(h:goJ ps m (pkA ps t)=AL\/goJ ps m (pkB ps t)=AL):¬ OkG ps m t:=λho=>by
 obtain⟨h1,h2⟩:=ho;rcases h with h | h
 ·rw[h]at h1;cases h1
 ·rw[h]at h2;cases h2
theorem FmOk.nil{m:Int}:FmOk ps m λ_=>AL:=λk v e=>by cases e
theorem Yi{F:rV}{H H':Hp}{P:sf}{w:sj}{mp:si->Option V}(s:SamT F H H')(hF:H F=AK (jC P w F mp n)):∀{ts:List N3} {vs:List V},Iss K H (ts.map d3) vs->Iss K H' (ts.map d3) vs
 | [],vs,h=>by simp only[aL,Iss]at h ⊢;exact h
 | t::ts,vs,h=>by
  simp only[ar,Iss]at h ⊢;obtain⟨v,r,e,h3,h4⟩:=h;refine#[v,r,e,?_,Yi s hF h4];simp only[d3,Is]at h3 ⊢;obtain⟨a,xs,e1,e2,e3⟩:=h3;refine#[a,xs,e1,jj s hF e2,?_];simp only[Iss,Is]at e3 ⊢;exact e3
noncomputable def unG(ps:List zp)(m:Nat):List N3:=(ovA ps ps.length).filter λt=>!Jh ps m t
def uf(K:rT)(CH CF:rV):Sp:=λvs H Q E=>∃(y o q:rV) (ps:List zp) (m:Nat),vs=[.ref y,.int (m:Nat)]/\JO K CH H y o q ps/\NeL ps/\jn ps/\(ovA ps ps.length).length<=4000/\zga ps m /\
 ((∀t ∈ ovA ps ps.length,OkG ps m t)->∀D H',Same H H'->H D=AL->LsA K H' D ((unG ps m).map d3)->Q (.ref D) H')/\(∀t ∈ ovA ps ps.length,¬ OkG ps m t->∀H',Same H H'->E (.ref CF) AL H')
theorem og:zk ["system","most","rules","forms"] ["system","most"] (zh xH):=by nofun
theorem JS{f CF CH:rV}{dV:rW}(B:Bt mg)(TS:zeb K mg CH)(F:FunD K "unmet" "unmet" xH dV f fd)(pZ:Df P w K mg base CX0 2 "overlaps" ["rules"] [] (vK K))(rp:Df P w K mg base (CXx P w) 6 "is_met" ["rules","overlap","most","forms"] [] (Zs P w K CF))(M_system_rules_told:DM P w K mg base CX0 1 CH "rules_told" ["self"] (kO K CH)):zP P w K mg base (CXx P w) 7 f fd ["system","most"] (uf K CH CF):=by
 exists FunD.okX F og,0
 ·obtain⟨y,o,q,ps,m,rfl,hy,hN,hok,hlen,hE,k1,k2⟩:=h
  refine#[_,(zi (ka (i:=2) og.nd rfl (Or.inr rfl) (me0 M_system_rules_told TS.cl hr (pv 0)))
   (zi (ka (i:=3) og.nd rfl (Or.inr rfl) zbH)
   (zf (zl (Yr (EX:=E) (own:=["overlap"]) (caps:=["rules","most","forms"]) (ix:=[2,1,3]) (tt:=(zcJ (tBl (u7 (Zs P w K CF) [] E (zL (yk 1) (zL (yk 0) (zL (yk 2) (zL (yk 3) xT)))))))) (te:=(yk 0)) rfl (zZ (sc:=zh xH) rfl (by symm) (by symm) (by symm) rfl (by symm) (by symm) rfl) #[rfl,rfl] hx (yw (cl0 pZ hr .nil rfl (za (pv 2) zd))) (λ_ _ _ _ _ _=>zx (i:=0) (show List.Nodup [_,_,_,_] by decide) rfl (.inl rfl)) (λ_ _ _ _ _ _ _ hx'=>(Uy (yv (xC (clP hx' rp hr .nil rfl (za (pv 1) (za (pv 0) (za (pv 2) (za (pv 3) zd))))) (λ_=>rfl))))) (λ_ _ _ _ _ _ _ _=>(pv 0))))))),?_]
  have s16:=zQ;have s16:=zQ;obtain⟨dx,xs0,h1,h2,h3⟩:=id hy;refine zj (λσ H'=>Same H H'/\∃r:rV,LsA K H' r (ps.map dR)/\σ=[AK (.ref y),AK (.int (m:Nat)),AK (.ref r),AL]) ?_ ?_
  ·rfl'
   exact#[_,_,h1,rfl,y,o,q,ps,rfl,hy,λr H1 s1 hA hr'=>#[s1,r,hA,rfl]]
  rintro σ H1 ⟨s1,r,hA,rfl⟩:_;right;refine zj (λσ H'=>Same H H'/\LsA K H' r (ps.map dR)/\∃F:rV,H F=AL/\H' F=AK (jC P w F (λ_=>AL) 0)/\σ=[AK (.ref y),AK (.int (m:Nat)),AK (.ref r),AK (.ref F)]) ?_ ?_
  ·rfl'
   simp only[zdG];intro F hF;have s2:=zc (o:=jC P w F (λ_=>AL) 0) hF
   rfl'
   exact#[s1.trans s2,hA.same s2,F,s1.free hF,ze,rfl]
  rintro σ H2 ⟨s2,hA2,F,hF0,hF,rfl⟩:_;right
  rfl'
  refine ZZ hA2.is hok λO H3 hO s3 hL=>#[O,rfl,?_,λD hD=>?_]
  ·obtain⟨xs,hX,_⟩:=hL;exact#[_,SqL.of hX]
  obtain⟨xs,hX,hI⟩:=hL;have hxl:=hI.len;rw[ag]at hxl;have hF3:=s3 _ _ hF;have s03:=s2.trans s3;have hDF:D≠F:=λz=>by rw[z,hF3]at hD;cases hD
  have hOF:O≠F:=λz=>by rw[z,hF3]at hX;cases hX
  have back:∀{G:Hp},SamT F H3 G->Same H G:=λ{G} sT b o' e=>sT b o' (λz=>by rw[z,hF0]at e;cases e) (s03 b o' e);refine CompL.by (xs:=xs) (λi AR H'=>SamT F H3 H'/\H' D=AK (.lst AR)/\(∃(mp:si->Option V) (n:Nat),H' F=AK (jC P w F mp n)/\FmOk ps (m:Nat) mp/\n<=2 * i)/\Iss K H3 ((((ovA ps ps.length).take i).filter λt=>!Jh ps m t).map d3) AR/\∀t ∈ (ovA ps ps.length).take i,OkG ps m t) #[SamT.of (zc hD),ze,#[_,0,by rw[zm (λz=>hDF z.symm)];exact hF3,FmOk.nil,by lia],by simp only[bS,db,aL,Iss],λt ht=>by simp at ht] (λi AR H' _ h=>SqL.of (h.1 _ _ hOF hX)) ?_ ?_
  ·rintro i x AR H' hx ⟨sT,hH,⟨mp,n,hFm,hM,hn⟩,hI',hle⟩;have hil:=(AS.mp hx).1;obtain⟨t,p,ht,rfl,hp⟩:=hI.get3 hx;have htm:=af ht;have hE':=hE.2 t htm
   have hal:AR.length<=i:=by
    have:=hI'.len;rw[ag]at this;have h5:=cQ (λt=>!Jh ps m t) ((ovA ps ps.length).take i);rw[aG]at h5;lia
   simp only[zcJ,tBl]
   rfl'
   refine#[wx,r,p,F,ps,t,(m:Nat),n,mp,_,_,rfl,Wq sT hF3 (hA2.same s3),hN,hok,jj sT hF3 hp,htm,hFm,hM,by lia,Uk hE'.1 hE.1,Uk hE'.2 hE.1,λJ1 J2 mp' n' H5 e1 e2 s5 hF5 hM5 hn5=>?_,λh H5 s5=>k2 t htm (zdD h) H5 (back (sT.trans s5))]
   have hle':∀t' ∈ (ovA ps ps.length).take (i+1),OkG ps m t':=λt' ht'=>by
    rw[z7 ht]at ht';rcases AU.mp ht' with h | h
    ·exact hle t' h
    ·rw[AW.mp h];exact#[by rw[e1];rfl,by rw[e2];rfl]
   rw[zaR e1 e2]
   have hcase:∀b,Jh ps m t=b->(!b)=AM->Iss K H3 ((((ovA ps ps.length).take (i+1)).filter λt=>!Jh ps m t).map d3) (AR ++ [.ref p]):=λb hb hb'=>by
    rw[z7 ht,cM,aA];refine Iss.append hI' ?_;rw[eJ,hb,if_pos hb'];simp only[db,ar,aL,Iss];refine#[_,[],rfl,?_,rfl];simp only[d3,Is,Iss];exact#[p,_,rfl,hp,_,_,rfl,rfl,_,_,rfl,rfl,_,_,rfl,rfl,rfl]
   refine#[_,rfl,?_]
   cases hb:Jh ps m t with
   | false =>
    rw[if_pos rfl];refine#[s5 _ _ hDF hH,by lia,CNx.mk hil #[λb o' hbF e=>?_,ze,#[mp',n',by rw[zm (λz=>hDF z.symm)];exact hF5,hM5,by lia],hcase _ hb rfl,hle']];rw[zm (λz=>by rw[z,hD]at e;cases e)];exact s5 b o' hbF (sT b o' hbF e)
   | true =>
    rw[if_neg (by decide)];refine CNx.mk hil #[sT.trans s5,s5 _ _ hDF hH,#[mp',n',hF5,hM5,by lia],?_,hle'];rw[z7 ht,cM,eJ,hb];simp only[ft,bC,if_false,db,aT];exact hI'
  ·rintro AR H' ⟨sT,hH,_,hI',hle⟩;rw[hxl,aO]at hI' hle;exact k1 hle D H' (back sT) (s03.free hD) #[AR,hH,Yi sT hF3 hI']
theorem zfa{p:rV}{a b:V}{i j:Nat}{σ:L2.St}{R:L2.St->Hp->Prop}(h:SqT K H p [a,b])(k:R ((σ.set i (AK a)).set j (AK b)) H):zbG K 2 (jO (yD i) (jO (yD j) zbS)) (.ref p) σ H R:=by
 simp only[zbG,jO,yD,zbS]
 first
 | exact⟨_,_,rfl,h,rfl,_,_,rfl,_,_,rfl,rfl,k⟩
 | exact⟨_,_,rfl,.inr h,rfl,_,_,rfl,_,_,rfl,rfl,k⟩
theorem EnsA.app{fs:List Ent}{us:List V}(hf:EnsA K H fs us):∀{es:List Ent} {vs:List V},EnsA K H es vs->EnsA K H (es ++ fs) (vs ++ us)
 | [],vs,h=>by
  simp only[EnsA]at h;subst h;exact hf
 | e::es,vs,h=>by
  simp only[EnsA]at h;obtain⟨x,r,rfl,hx,hr⟩:=h;simp only[bu,EnsA];exact#[x,r ++ us,rfl,hx,hf.app hr]
abbrev MkS(P:sf)(w:sj)(K:rT)(mg:si->Option rW)(base:sq)(CO CR CW CT CH:rV):Prop:=DMk P w K mg base (CXx P w) 5 CH ["self","order","rules"] (qe K CO CR CW CT CH)
theorem zaS{Q:rV->Hp->Prop}{CO CR CW CT CH o a:rV}{l:List Nat}(ho:OrdAt CO CR CW H o k l ns)(hG:OG l ns k)(hA:LsA K H a (ps.map dR))(hin:InL l ps)(hf:wL k l ns ps 0=AL)(q:∀(y qa:rV) (H':Hp),Same H H'->JO K CH H' y o qa ps->Q y H'):∀x dx,H x=AL->H dx=AL->dx≠x->qe K CO CR CW CT CH [.ref x,.ref o,.ref a] (upd (upd H dx (.own x)) x (.ins CH dx [])) (λv H'=>v=.non/\Q x H') E0:=by
 intro x dx hx hdx hne;obtain⟨xs,hX,hI⟩:=hA;have sd:=zc (o:=.own x) hdx
 have k1:Same H (upd (upd H dx (.own x)) x (.ins CH dx [])):=λb' o' e=>by
  rw[zm (zF e hx)];exact sd _ _ e
 refine#[x,dx,o,a,k,l,ns,ps,xs,rfl,ze,ho.same k1,hG,k1 _ _ hX,Iss.same k1 _ _ hI,hin,(λi e=>by rw[hf]at e;cases e),λ_ q1 H'' kp hx' hq' hqn=>#[rfl,?_]];have k3:Same H H'':=λb' o' e=>kp b' o' (λz=>by rw[z,hx]at e;cases e) (k1 _ _ e);exact q x q1 H'' k3 #[dx,xs,hx',hq',Iss.same k3 _ _ hI]
theorem BG.inL{l:List Nat}(h:BG k l ns bs):InL l (zb bs):=λp hp=>by
 obtain⟨e,he,rfl⟩:=AT.mp hp;have b:=h.e e he;exact#[aN b.a (by decide),aN b.b (by decide),b.ma,b.mb]
theorem BG.fault{l:List Nat}(h:BG k l ns bs):wL k l ns (zb bs) 0=AL:=uM λm p e=>by
 obtain⟨e',he,rfl⟩:=AT.mp (af e);exact h.lt e' he
def XM(K:rT)(CO CR CW CH:rV):Sp:=λvs H Q _=>∃(o a:rV) (k:Nat) (l:List Nat) (ns:List Int) (bs:List Ent),vs=[.ref o,.ref a]/\OrdAt CO CR CW H o k l ns/\OG l ns k/\EnsL K H a bs/\BG k l ns bs/\∀(y qa:rV) (H':Hp),Same H H'->JO K CH H' y o qa (zb bs)->Q (.ref y) H'
theorem YD:zk ["order","entries"] ["order","entries"] (zh vJ):=by nofun
theorem Yv{f CO CR CW CT CH:rV}(B:Bt mg)(TS:zeb K mg CH)(MS:MkS P w K mg base CO CR CW CT CH)(F:Fun K "system_by" "system_by" vJ f fd)(gh:Df P w K mg base CX0 1 "pairs_of" ["entries"] [] (wa K)):zP P w K mg base CX0 7 f fd ["order","entries"] (XM K CO CR CW CH):=by
 exists F.ok YD
 ·obtain⟨o,a,k,l,ns,bs,rfl,ho,hG,hA,hB,q⟩:=h;refine#[_,(zf (zl (zfw xe0 MS hr rfl TS.g (za (pv 0) (za (cl0 gh hr .nil rfl (za (pv 1) zd)) zd))))),?_];have s16:=zQ;ac_rfl;refine xJ hA.is (by have:=hB.n;lia) λD H' _ s' hL=>?_;exact zaS (ho.same s') hG hL hB.inL hB.fault λy qa H'' s'' hy=>q y qa H'' (s'.trans s'') hy
noncomputable def fE(i:Nat)(p:zp):Ent:=(p.1,p.2,[((i:Int),(0:Int),AM)])
noncomputable def fEs(rs:List zp):Nat->List Ent
 | 0=>[]
 | n+1=>fEs rs n ++ ((rs[n]?).map (fE n)).toList
theorem JA{p:zp}(h:rs[n]? = AK p):fEs rs (n+1)=fEs rs n ++ [fE n p]:=by
 show fEs rs n ++ ((rs[n]?).map (fE n)).toList=_;rw[h];rfl
theorem QO(rs:List zp):∀n,(fEs rs n).length<=n
 | 0=>al _
 | n+1=>by
  have:=QO rs n;show (fEs rs n ++ ((rs[n]?).map (fE n)).toList).length<=_;rw[aj]
  cases rs[n]? with
  | none=>simp;lia
  | some p=>simp;lia
theorem ZG:∀{n:Nat} {e:Ent},e ∈ fEs rs n->∃i p,i<n/\rs[i]? = AK p/\e=fE i p
 | 0,e,h=>(nomatch h)
 | n+1,e,h=>by
  have h':e ∈ fEs rs n ++ ((rs[n]?).map (fE n)).toList:=h;rcases AU.mp h' with h | h
  ·obtain⟨i,p,hi,hp,he⟩:=ZG h;exact#[i,p,by lia,hp,he]
  ·cases hn:rs[n]? with
   | none=>rw[hn]at h;simp at h
   | some p =>
    rw[hn]at h;exact#[n,p,by lia,hn,by simpa using h]
def XS(K:rT):Sp:=λvs H Q _=>∃(a:rV) (rs:List zp),vs=[.ref a]/\LsA K H a (rs.map dR)/\rs.length<=20/\∀(D:rV) (H':Hp),Same H H'->H D=AL->EnsM K H' D (fEs rs rs.length)->Q (.ref D) H'
theorem qc:zk ["pacts"] ["pacts"] (zh yG):=by nofun
theorem uZ(B:Bt mg)(F:Fun K "first_entries" "first_entries" yG f fd) : zP P w K mg base CX0 1 f fd ["pacts"] (XS K):=by
 exists F.ok qc
 ·obtain⟨a,rs,rfl,hA,hrl,q⟩:=h;refine#[_,(zf (zl (wv (g:=zbG K 2 (jO (yD 0) (jO (yD 1) zbS))) (own:=["number","pact"]) (caps:=[]) (ix:=[]) (tt:=vG) (te:=(Jg (zL (tOp (qG K) (yk 1) (tC (.int 0))) (zL (tOp (qG K) (yk 1) (tC (.int 1))) (zL (zc1 (zL (Jg (zL (yk 0) (zL (tC (.int 0)) (zL (tC (.bl AM)) xT)))) xT)) xT))))) rfl (zZ (sc:=zh yG) rfl (by symm) (by symm) (by symm) rfl (by symm) (by symm) rfl) (xY rfl B.enum (za (pv 0) zd)) (λ_ _ _ _ _ _=>vU (n:=2) rfl (zO (zx (i:=0) (show List.Nodup [_,_] by decide) rfl (.inl rfl)) (zO (zx (i:=1) (show List.Nodup [_,_] by decide) rfl (.inl rfl)) wo))) (λ_ _ _ _ _ _=>yY) (λ_ _ _ _ _ _=>(zR (za (zo ix_tup (pv 1) zg) (za (zo ix_tup (pv 1) zg) (za (wZ (za (zR (za (pv 0) (za zg (za xS zd)))) zd)) zd)))))))),?_];have s16:=zQ;have s16:=zQ;obtain⟨xs,hX,hI⟩:=id hA;have hxl:=hI.len;rw[ag]at hxl;ac_rfl;rw[zc2];ac_rfl;refine#[#[_,SqL.of hX],λD hD=>CompEL.by (xs:=xs) (λi AR H'=>Same H H'/\H' D=AK (.lst AR)/\AR.length<=i/\EnsA K (jW D H') (fEs rs i) AR) #[zc hD,ze,al _,rfl] (λi AR H' _ h=>SqL.of (h.1 _ _ hX)) ?_ ?_]
  ·rintro i x AR H' p hx ⟨hs,hH,hal,hEn⟩ hp;have hil:=(AS.mp hx).1;obtain⟨r,pr,hri,rfl,hqr⟩:=hI.getR hx;have u1:=zc (o:=HO.tup [.int (i:Nat),.ref pr]) hp;have hq:=zv (hs.trans u1) hqr;refine zfa (SqT.of ze) ?_;simp only[vG]
   rfl'
   refine#[KY,_,hq,_,rfl,_,hq,_,rfl,by lia,λp1 hp1=>#[by lia,λp2 hp2=>#[by lia,λp3 hp3=>?_]]];have u2:=zc (o:=HO.tup [.int (i:Nat),.int 0,.bl AM]) hp1;have u3:=zc (o:=HO.lst [.ref p1]) hp2;have u4:=zc (o:=HO.tup [.str (tx r.1),.str (tx r.2),.ref p2]) hp3;have u:=u1.trans (u2.trans (u3.trans u4));have hD4:=u _ _ hH;have hp2D:p2≠D:=λz=>by rw[z,u2 _ _ (u1 _ _ hH)]at hp2;cases hp2
   refine#[hD4,by lia,CNx.mk hil #[zI (hs.trans u) hD,ze,by rw[aj];simp only[aI,bT];lia,?_]];rw[JA hri];refine (hEn.same ((wI u).trans xu)).snoc (EnA.same ?_ xu);refine EnA.new (e:=fE i r) hD4 ze #[_,u4 _ _ ze,?_] hp2D;show Iss K _ [dSt ((i:Int),(0:Int),AM)] _;exact zbY (kd (SqT.of (u4 _ _ (u3 _ _ ze))))
  ·rintro AR H' ⟨hs,hH,hal,hEn⟩;rw[hxl]at hEn;exact q D H' hs hD #[AR,hH,hEn.same wS]
noncomputable def km(es:List Ent):Bool:=decide (12<es.length) || es.any λe=>decide (10<max e.1.length e.2.1.length)
structure TMc(mg:si->Option rW):Prop where
 u:∃t,mg "MOST_USES_completing" = AK (.int 40 t)
 e:∃t,mg "MOST_ENTRIES" = AK (.int 12 t)
 d:∃t,mg "MOST_SIDE_completing" = AK (.int 10 t)
 p:∃t,mg "MOST_PEAKS" = AK (.int 8 t)
def ZV(K:rT):Sp:=λvs H Q _=>∃(a:rV) (es:List Ent),vs=[.ref a]/\EnsL K H a es/\es.length<64/\(∀e ∈ es,e.1.length<=10000/\e.2.1.length<=10000)/\∀H',Same H H'->Q (.bl (km es)) H'
theorem Yq:zk ["entries"] ["entries"] (zh xV):=by nofun
theorem Yf(B:Bt mg)(hany:zgq mg)(TM:TMc mg)(F:Fun K "is_beyond" "is_beyond" xV f fd) : zP P w K mg base CX0 1 f fd ["entries"] (ZV K):=by
 obtain⟨⟨t9,g9⟩,⟨t8,g8⟩⟩:=And.intro TM.e TM.d
 exists F.ok Yq
 ·obtain⟨a,es,rfl,hA,hl,hE,q⟩:=h
  refine#[_,(zi (zM (zy Wj (zC B.len (pv 0)) (yn (v:=.int 12) rfl g9 #[t9,rfl]) (zB _))
    (zf (zl xS))
    zw)
   (zf (zl (we (zeX rfl) rfl hany PyProof.Rows.boot_any (za (wv (own:=["entry"]) (caps:=[]) (ix:=[]) (tt:=vG) (te:=(tOp zeq (tCB Kb (zL (tCB (Vz K) (zL (tOp (qG K) (yk 0) (tC (.int 0))) xT)) (zL (tCB (Vz K) (zL (tOp (qG K) (yk 0) (tC (.int 1))) xT)) xT))) (tC (.int 10)))) rfl (zZ (sc:=zh xV) rfl (by symm) (by symm) (by symm) rfl (by symm) (by symm) rfl) (yw (pv 0)) (λ_ _ _ _ _ _=>zx (i:=0) (show List.Nodup [_] by decide) rfl (.inl rfl)) (λ_ _ _ _ _ _=>yY) (λ_ _ _ _ _ _=>(yX Wj (we (V2 rfl) rfl B.max qj (za (zC B.len (zo ix_tup (pv 0) zg)) (za (zC B.len (zo ix_tup (pv 0) zg)) zd))) (yn (v:=.int 10) rfl g8 #[t8,rfl]) (zB _)))) zd))))),?_]
  have s16:=zQ;have s16:=zQ;obtain⟨xs,hX,hEn⟩:=id hA;have hxl:=hEn.len;refine zj (λσ H'=>H'=H/\¬ 12<es.length/\σ=[AK (.ref a)]) ?_ ?_
  ·ac_rfl;refine#[_,.inl #[_,hX,rfl],yx (λh=>?_) λh=>by lia]
   have e:km es=AM:=by
    unfold km;rw[decide_eq_true (by lia),Bool.true_or]
   rw[<- e];exact q H (Same.refl _)
  rintro σ H1 ⟨rfl,h12,rfl⟩:_;right;ac_rfl;refine#[#[_,hX],λD hD=>CompL.by (xs:=xs) (λi AR H'=>Same H1 H'/\H' D=AK (.lst AR)/\AR=((es.take i).map λe=>decide (10<max e.1.length e.2.1.length)).map V.bl) #[zc hD,ze,rfl] (λi AR H' _ h=>h.1.seq hX) ?_ ?_]
  ·rintro i x AR H' hx ⟨hs,hH,rfl⟩;have hil:=(AS.mp hx).1;obtain⟨e,p,s,he,rfl,hp,_⟩:=hEn.get hx;have hq:=zv hs hp;have hb:=hE e (af he);simp only[vG]
   rfl'
   refine#[wx,_,hq,_,rfl,_,#[by rw[z9];lia,rfl],_,hq,_,rfl,_,#[by rw[z9];lia,rfl],hH,by rw[ag,ag,aG];lia,CNx.mk hil #[zI hs hD,ze,?_]];rw[z7 he,aA,aA,z9,z9];congr 1;show [V.bl _]=[V.bl _];congr 2;refine decide_eq_decide.mpr ?_;split <;> lia
  ·rintro AR H' ⟨hs,hH,rfl⟩;rw[hxl,aO]at hH;refine#[D,_,rfl,SqL.of hH,?_]
   have e:(es.map λe=>decide (10<max e.1.length e.2.1.length)).any id=km es:=by
    unfold km;rw[decide_eq_false h12,Bool.false_or,List.any_map];rfl
   rw[e];exact q H' hs
theorem Y7(h:km es=AN):es.length<=12/\∀e ∈ es,e.1.length<=10/\e.2.1.length<=10:=by
 unfold km at h;rw[Bool.or_eq_false_iff]at h;refine#[by have:=of_decide_eq_false h.1;lia,λe he=>?_];have:=List.any_eq_false.mp h.2 e he;have h2:¬ 10<max e.1.length e.2.1.length:=λz=>this (decide_eq_true z);lia
def zal(K:rT)(CO CR CW T:rV):Sp:=λvs H Q _=>∃(o a:rV) (k:Nat) (l:List Nat) (ns:List Int) (es:List Ent),vs=[.ref o,.ref a]/\OrdAt CO CR CW H o k l ns/\OG l ns k/\EnsL K H a es/\es.length<64/\(∀e ∈ es,EB l e)/\TabOk H T lp lq /\
 (∀(bs:List Ent) (D:rV) (H':Hp),uq k l ns 20 es (AK bs)->BG k l ns bs->km bs=AN->SamT T H H'->TabOk H' T lp lq->EnsM K H' D bs->Q (.ref D) H')/\((uq k l ns 20 es AL\/∃bs,uq k l ns 20 es (AK bs)/\km bs=AM)->∀H',SamT T H H'->TabOk H' T lp lq->Q .non H')
structure zfe(K:rT)(CF:rV):Prop where
 s:cK K (.ref CF) (.ref CF)=AK AM
theorem lY:zk ["order","entries","slim"] ["order","entries"] (zh yU):=by nofun
theorem uL{f CO CR CW TB CF:rV}(B:Bt mg)(TFx:za6 K mg CF)(TSb:zfe K CF)(F:Fun K "thinned_within" "thinned_within" yU f fd)(rh:Df P w K mg base (CXx P w) 7 "thinned" ["order","entries"] [] (Ub K CO CR CW TB CF))(pT:Df P w K mg base CX0 1 "is_beyond" ["entries"] [] (ZV K)):zP P w K mg base CX0 8 f fd ["order","entries"] (zal K CO CR CW TB):=by
 exists F.ok lY
 ·obtain⟨o,a,k,l,ns,es,rfl,ho,hG,hA,hz,hE,hTab,q1,q2⟩:=h
  refine#[_,(zi (KA (i:=2) (th:=(K0 (tC .non))) lY.nd rfl (.inl rfl) (.inl rfl) #[rfl,rfl] (clX rh hr .nil rfl (za (pv 0) (za (pv 1) zd))) rfl TFx.g TFx.xi.ok (λe=>(zf (zl yd))))
   (zf (zl (w8 (xC (cl0 pT hr .nil rfl (za (pv 2) zd)) (λ_=>rfl)) yd (pv 2))))),?_]
  have s16:=zQ;have s16:=zQ;refine zj (λσ H'=>SamT TB H H'/\TabOk H' TB lp lq/\∃(bs:List Ent) (D:rV),uq k l ns 20 es (AK bs)/\BG k l ns bs/\EnsM K H' D bs/\σ=[AK (.ref o),AK (.ref a),AK (.ref D)]) ?_ ?_
  ·simp only[zah];ac_rfl;exact#[o,a,k,l,ns,es,rfl,ho,hG,hA,hz,hE,hTab,λbs D H' h1 h2 h3 h4 h5=>#[h3,h4,bs,h1,h2,D,h5,rfl],λh H' h3 h4=>#[CF,rfl,TSb.s,λx hx=>q2 (.inl h) _ (h3.trans (SamT.of (zc hx))) (h4.same (zc hx))]]
  rintro σ H1 ⟨s1,hT1,bs,D,hTh,hB,hM,rfl⟩:_;right;ac_rfl;exact#[D,bs,rfl,hM.l,hB.n,λe he=>#[aN (hB.e e he).a (by decide),aN (hB.e e he).b (by decide)],λH' s'=>#[_,rfl,yx (λh=>q2 (.inr #[bs,hTh,h]) H' (s1.trans (SamT.of s')) (hT1.same s')) λh=>q1 bs D H' hTh hB (by simpa using h) (s1.trans (SamT.of s')) (hT1.same s') (hM.same s')]]
theorem qr(w:List Nat)(k:Int)(o n:List Nat):(yC w k o n).length<=w.length+n.length:=by
 unfold yC;rw[aj,aj,aG,bg];lia
theorem BG.ok{l:List Nat}(h:BG k l ns bs)(hl:bs.length<=30):jn (zb bs):=by
 refine#[by unfold zb;rw[ag];exact hl,λr hr=>?_];obtain⟨e,he,rfl⟩:=AT.mp hr;exact#[aN (h.e e he).a (by decide),aN (h.e e he).b (by decide)]
theorem zej(hok:∀r ∈ ps,r.1.length<=60/\r.2.length<=60){t:N3}(ht:t ∈ ovA ps ps.length):(pkA ps t).length<=180/\(pkB ps t).length<=180:=by
 obtain⟨i1,i2,i3,i4⟩:=uw ht;obtain⟨r,hr⟩:∃r,ps[t.1]? = AK r:=#[_,ah i1];obtain⟨r2,hr2⟩:∃r,ps[t.2.1]? = AK r:=#[_,ah i2];have l1:=wz hr;have l2:=wz hr2;have d1:ps.getD t.1 ([],[])=r:=by rw[ae,hr];rfl
 have d2:ps.getD t.2.1 ([],[])=r2:=by rw[ae,hr2];rfl
 rw[l1]at i3;have b1:=hok r (af hr);have b2:=hok r2 (af hr2);have hp:=wA r.1 r2.1 t.2.2 (by lia);have p1:=qr (z8 r.1 r2.1 t.2.2) 0 r.1 r.2;have p2:=qr (z8 r.1 r2.1 t.2.2) (t.2.2:Nat) r2.1 r2.2;unfold pkA pkB;rw[l1,l2,d1,d2];lia
theorem zem(hN:NeL ps)(hok:∀r ∈ ps,r.1.length<=60/\r.2.length<=60):zga ps 40:=by
 refine#[by decide,λt ht=>?_];obtain⟨h1,h2⟩:=zej hok ht
 have key:∀(v:List Nat),v.length<=180->∀j,j<=40->(wAt ps v j).length<=10000:=λv hv j hj=>by
  have:=qX (l:=v) hN (λp hp=>(hok p hp).2) j;have h3:j * 60<=40 * 60:=e7 hj (al _);lia
 exact#[key _ h1,key _ h2]
def zaI(K:rT)(CO CR CW:rV):Sp:=λvs H Q _=>∃(o a:rV) (k:Nat) (l:List Nat) (ns:List Int) (bs:List Ent),vs=[.ref o,.ref a]/\OrdAt CO CR CW H o k l ns/\OG l ns k/\EnsL K H a bs/\BG k l ns bs/\bs.length<=30/\(ovA (zb bs) (zb bs).length).length<=4000 /\
 ((∀t ∈ ovA (zb bs) (zb bs).length,OkG (zb bs) 40 t)->∀D H',Same H H'->LsA K H' D ((unG (zb bs) 40).map d3)->Q (.ref D) H')/\(∀t ∈ ovA (zb bs) (zb bs).length,¬ OkG (zb bs) 40 t->∀H',Same H H'->Q .non H')
theorem jv:zk ["order","entries"] ["order","entries"] (zh xx):=by nofun
theorem je{f CO CR CW CF CH:rV}{mU:tP}(B:Bt mg)(TFx:za6 K mg CF)(TSb:zfe K CF)(TM:TMc mg)(F:Fun K "unmet_within" "unmet_within" xx f fd)(rE:Df P w K mg base (CXx P w) 7 "unmet" ["system","most"] [] (uf K CH CF))(DD_unmet:Df P w K mg base (CXx P w) 7 "unmet" ["system","most"] [.int 4000 mU] (uf K CH CF))(pV:Df P w K mg base CX0 7 "system_by" ["order","entries"] [] (XM K CO CR CW CH)):zP P w K mg base CX0 9 f fd ["order","entries"] (zaI K CO CR CW):=by
 obtain⟨t9,g9⟩:=TM.u
 exists F.ok jv
 ·obtain⟨o,a,k,l,ns,bs,rfl,ho,hG,hA,hB,hbl,hol,q1,q2⟩:=h;refine#[_,(zf (WK (th:=(K0 (tC .non))) #[rfl,rfl] (clX rE hr .nil rfl (za (cl0 pV hr .nil rfl (za (pv 0) (za (pv 1) zd))) (za (yn (v:=.int 40) rfl g9 #[t9,rfl]) zd))) rfl TFx.g TFx.xi.ok (λe=>(zf (zl yd))))),?_];have s16:=zQ;have s16:=zQ;simp only[Qa];ac_rfl
  have hsd:∀r ∈ zb bs,r.1.length<=60/\r.2.length<=60:=λr hr=>by
   obtain⟨e,he,rfl⟩:=AT.mp hr;exact#[(hB.e e he).a,(hB.e e he).b]
  exact#[o,a,k,l,ns,bs,rfl,ho,hG,hA,hB,λy qa H' s' hy=>#[y,o,qa,zb bs,40,rfl,hy,hB.ne hG,hB.ok hbl,hol,zem (hB.ne hG) hsd,λh D H'' s'' _ hL=>q1 h D H'' (s'.trans s'') hL,λt ht h H'' s''=>#[CF,rfl,TSb.s,λx hx=>q2 t ht h _ (s'.trans (s''.trans (zc hx)))]]]
noncomputable def jN(es:List Ent)(t:N3):Ent:=(pkA (zb es) t,pkB (zb es) t,byL es [((t.1:Int),(0:Int),AN),((t.2.1:Int),(t.2.2:Int),AM)])
def ZF(K:rT):Sp:=λvs H Q _=>∃(a t:rV) (es:List Ent) (tr:N3),vs=[.ref a,.ref t]/\EnsL K H a es/\SqT K H t [.int (tr.1:Nat),.int (tr.2.1:Nat),.int (tr.2.2:Nat)]/\tr ∈ ovA (zb es) (zb es).length/\jn (zb es)/\(∀e ∈ es,e.2.2.length<=600)/\∀(p s:rV) (H':Hp),Same H H'->H' p=AK (.tup [.str (tx (jN es tr).1),.str (tx (jN es tr).2.1),.ref s])->LsA K H' s ((jN es tr).2.2.map dSt)->H s=AL->Q (.ref p) H'
theorem mM:zk ["entries","overlap","sides","steps"] ["entries","overlap"] (zh ur):=by nofun
theorem Y4(B:Bt mg)(F:Fun K "entry_of" "entry_of" ur f fd)(pM:Df P w K mg base CX0 4 "peak" ["rules","overlap"] [] (Zp K))(ig:Df P w K mg base CX0 2 "by_pacts" ["entries","steps"] [] (VX K))(gh:Df P w K mg base CX0 1 "pairs_of" ["entries"] [] (wa K)):zP P w K mg base CX0 5 f fd ["entries","overlap"] (ZF K):=by
 exists F.ok mM
 ·obtain⟨a,t,es,tr,rfl,hA,ht,htr,hok,hst,q⟩:=h
  refine#[_,(zi (zD 2 mM.nd (cl0 pM hr .nil rfl (za (cl0 gh hr .nil rfl (za (pv 0) zd)) (za (pv 1) zd))))
   (zi (zD 3 mM.nd (cl0 ig hr .nil rfl (za (pv 0) (za (wZ (za (zR (za (zo ix_tup (pv 1) zg) (za zg (za xS zd)))) (za (zR (za (zo ix_tup (pv 1) zg) (za (zo ix_tup (pv 1) zg) (za xS zd)))) zd))) zd))))
   (zf (zl (zR (za (zo ix_tup (pv 2) zg) (za (zo ix_tup (pv 2) zg) (za (pv 3) zd)))))))),?_]
  have s16:=zQ;have s16:=zQ;have hlp:(zb es).length=es.length:=by unfold zb;rw[ag]
  obtain⟨i1,i2,i3,i4⟩:=uw htr;obtain⟨r,hr1⟩:∃r,(zb es)[tr.1]? = AK r:=#[_,ah i1];obtain⟨r2,hr2⟩:∃r,(zb es)[tr.2.1]? = AK r:=#[_,ah i2];have l1:=wz hr1;have l2:=wz hr2;have d1:(zb es).getD tr.1 ([],[])=r:=by rw[ae,hr1];rfl
  have d2:(zb es).getD tr.2.1 ([],[])=r2:=by rw[ae,hr2];rfl
  have eA:pkA (zb es) tr=yC (z8 r.1 r2.1 tr.2.2) 0 r.1 r.2:=by unfold pkA;rw[l1,l2,d1]
  have eB:pkB (zb es) tr=yC (z8 r.1 r2.1 tr.2.2) (tr.2.2:Nat) r2.1 r2.2:=by unfold pkB;rw[l1,l2,d2]
  rw[l1]at i3;rw[l1,l2]at i4;refine zj (λσ H'=>Same H H'/\∃p:rV,(∃x,H' p=AK (.tup [x,.str (tx (pkA (zb es) tr)),.str (tx (pkB (zb es) tr))]))/\σ=[AK (.ref a),AK (.ref t),AK (.ref p),AL]) ?_ ?_
  ·rfl'
   refine xJ hA.is (by have:=hok.1;lia) λD H1 _ s1 hL=>?_;exact WI hL.is (zv s1 ht) hok hr1 hr2 (by lia) i4 λp H' _ s' hp=>#[s1.trans s',p,#[_,by rw[eA,eB];exact hp],rfl]
  rintro σ H1 ⟨s1,p,⟨x,hp⟩,rfl⟩:_;right;refine zj (λσ H'=>Same H1 H'/\∃S:rV,H S=AL/\LsA K H' S ((jN es tr).2.2.map dSt)/\σ=[AK (.ref a),AK (.ref t),AK (.ref p),AK (.ref S)]) ?_ ?_
  ·have ht1:=zv s1 ht
   rfl'
   refine#[_,ht1,_,rfl,by lia,λp1 hp1=>?_];have u1:=zc (o:=HO.tup [.int (tr.1:Nat),.int 0,.bl AN]) hp1;refine#[_,zv u1 ht1,_,rfl,_,zv u1 ht1,_,rfl,by lia,λp2 hp2=>#[by lia,λp3 hp3=>?_]];have u2:=zc (o:=HO.tup [.int (tr.2.1:Nat),.int (tr.2.2:Nat),.bl AM]) hp2;have u3:=zc (o:=HO.lst [.ref p1,.ref p2]) hp3;have u:=u1.trans (u2.trans u3);refine WO (us:=[((tr.1:Int),(0:Int),AN),((tr.2.1:Int),(tr.2.2:Int),AM)]) (hA.same (s1.trans u)).is (LsA.is #[_,ze,?_]) (by simp) hst (λv hv=>?_) λD H' hDn s' hL=>#[u.trans s',D,(s1.trans u).free hDn,hL,rfl]
   ·simp only[ar,aL,Iss];exact#[_,_,rfl,kd (SqT.of (u3 _ _ (u2 _ _ ze))),_,_,rfl,kd (SqT.of (u3 _ _ ze)),rfl]
   ·simp only[dk,List.not_mem_nil,or_false]at hv;rcases hv with rfl | rfl
    ·exact#[by simp,by show (tr.1:Int)<_;lia]
    ·exact#[by simp,by show (tr.2.1:Int)<_;lia]
  rintro σ H2 ⟨s2,S,hSn,hS,rfl⟩:_;right
  rfl'
  exact#[_,SqT.of (s2 _ _ hp),_,rfl,_,SqT.of (s2 _ _ hp),_,rfl,by lia,λp' hp'=>q p' S _ (s1.trans (s2.trans (zc hp'))) ze (hS.same (zc hp')) hSn]
theorem KL{l:List Nat}(h:¬ jD e):¬ jD (ym k l ns e):=by
 unfold ym;split
 ·exact h
 ·unfold jD at h ⊢;rw[yQ];show ¬ (240<e.2.2.length\/60<e.2.1.length\/60<e.1.length);lia
theorem Vt{l:List Nat}{bs es:List Ent}{r:Option (List Ent)}(h:xp k l ns bs es r):(∀e ∈ bs,¬ jD e)->∀fs,r=AK fs->∀e ∈ fs,¬ jD e:=by
 induction h with
 | nil bs=>exact λh fs e=>by cases e;exact h
 | same _ _ _ _ ih=>exact ih
 | new _ _ _ h4 _ ih =>
  intro h;refine ih λe he=>?_;rcases AU.mp he with he | he
  ·exact h e he
  ·rw[AW.mp he];exact KL h4
 | far _ _ _ _=>exact λ_ fs e=>by cases e
 | stuck _=>exact λ_ fs e=>by cases e
theorem jx{k n:Nat}{l:List Nat}{r:Option (List Ent)}(h:uq k l ns n es r):∀fs,r=AK fs->∀e ∈ fs,¬ jD e:=by
 induction h with
 | out es=>exact λfs e=>by cases e
 | bad _ _=>exact λfs e=>by cases e
 | done _ h2 _=>exact λfs e=>by cases e;exact Vt h2 (λe he=>(nomatch he)) _ rfl
 | more _ _ _ _ ih=>exact ih
theorem UD{M:Nat}(h:∀e ∈ es,e.2.2.length<=M)(u:Stp):(Vd es u).length<=M:=by
 have hg:(es.getD u.1.toNat ([],[],[])).2.2.length<=M:=by
  rw[ae]
  cases e:es[u.1.toNat]? with
  | none=>exact aD _
  | some x=>exact h x (af e)
 unfold Vd;rw[XD];split
 ·exact hg
 ·rw[yQ];exact hg
inductive Cpl(k:Nat)(l:List Nat)(ns:List Int):Nat->List Ent->List Ent->Bool->List Ent->Prop where
 | out (kept fresh:List Ent):Cpl k l ns 0 kept fresh AN kept
 | slim {n:Nat} {kept fresh:List Ent} (h:uq k l ns 20 fresh AL\/∃bs,uq k l ns 20 fresh (AK bs)/\km bs=AM):Cpl k l ns (n+1) kept fresh AN kept
 | far {n:Nat} {kept fresh bs:List Ent} {t:N3} (h:uq k l ns 20 fresh (AK bs)) (hb:km bs=AN) (ht:t ∈ ovA (zb bs) (zb bs).length) (ho:¬ OkG (zb bs) 40 t):Cpl k l ns (n+1) kept fresh AN bs
 | whole {n:Nat} {kept fresh bs:List Ent} (h:uq k l ns 20 fresh (AK bs)) (hb:km bs=AN) (ho:∀t ∈ ovA (zb bs) (zb bs).length,OkG (zb bs) 40 t) (hu:unG (zb bs) 40=[]):Cpl k l ns (n+1) kept fresh AM bs
 | more {n:Nat} {kept fresh bs es:List Ent} {w:Bool} (h:uq k l ns 20 fresh (AK bs)) (hb:km bs=AN) (ho:∀t ∈ ovA (zb bs) (zb bs).length,OkG (zb bs) 40 t) (hu:unG (zb bs) 40≠[]) (r:Cpl k l ns n bs (bs ++ ((unG (zb bs) 40).take 8).map (jN bs)) w es):Cpl k l ns (n+1) kept fresh w es
theorem zc8(hl:ps.length<=12)(h:∀r ∈ ps,r.1.length<=10):(ovA ps ps.length).length<=4000:=by
 have lfl:∀i,(lf ps i).length<=10:=λi=>by
  cases e:ps[i]? with
  | none=>unfold lf;rw[ae,e];exact aD _
  | some r=>rw[wz e];exact h r (af e)
 have oI:∀i m,(ovI ps i m).length<=m * 10:=λi m=>by
  induction m with
  | zero=>exact aD _
  | succ m ih =>
   rw[qk,aj];have h1:=qw ps i m (lf ps i).length;have h2:=lfl i;lia
 have oA:∀m,(ovA ps m).length<=m * 120:=λm=>by
  induction m with
  | zero=>exact aD _
  | succ m ih =>
   rw[Zk,aj];have h1:=oI m ps.length;lia
 have:=oA ps.length;lia
theorem zfz{l:List Nat}(hin:∀r ∈ ps,(∀c ∈ r.1,c ∈ l)/\∀c ∈ r.2,c ∈ l)(h10:∀r ∈ ps,r.1.length<=10/\r.2.length<=10){t:N3}(ht:t ∈ ovA ps ps.length):((pkA ps t).length<=60/\∀c ∈ pkA ps t,c ∈ l)/\(pkB ps t).length<=60/\∀c ∈ pkB ps t,c ∈ l:=by
 obtain⟨i1,i2,i3,i4⟩:=uw ht;obtain⟨r,hr⟩:∃r,ps[t.1]? = AK r:=#[_,ah i1];obtain⟨r2,hr2⟩:∃r,ps[t.2.1]? = AK r:=#[_,ah i2];have l1:=wz hr;have l2:=wz hr2;have d1:ps.getD t.1 ([],[])=r:=by rw[ae,hr];rfl
 have d2:ps.getD t.2.1 ([],[])=r2:=by rw[ae,hr2];rfl
 rw[l1]at i3;have b1:=h10 r (af hr);have b2:=h10 r2 (af hr2);have n1:=hin r (af hr);have n2:=hin r2 (af hr2);have hp:=wA r.1 r2.1 t.2.2 (by lia);have p1:=qr (z8 r.1 r2.1 t.2.2) 0 r.1 r.2;have p2:=qr (z8 r.1 r2.1 t.2.2) (t.2.2:Nat) r2.1 r2.2
 have hw:∀c ∈ z8 r.1 r2.1 t.2.2,c ∈ l:=λc hc=>by
  unfold z8 at hc;rcases AU.mp hc with h | h
  ·exact n1.1 c h
  ·exact n2.1 c (cj h)
 have put:∀(k:Int) (o n:List Nat),(∀c ∈ n,c ∈ l)->∀c ∈ yC (z8 r.1 r2.1 t.2.2) k o n,c ∈ l:=λk o n hn c hc=>by
  unfold yC at hc;rcases AU.mp hc with hc | hc
  ·rcases AU.mp hc with hc | hc
   ·exact hw c (aZ hc)
   ·exact hn c hc
  ·exact hw c (cj hc)
 unfold pkA pkB;rw[l1,l2,d1,d2];exact#[#[by lia,put _ _ _ n1.2],by lia,put _ _ _ n2.2]
theorem Uw{l:List Nat}(hB:BG k l ns bs)(hb:km bs=AN)(hs:∀e ∈ bs,e.2.2.length<=240){t:N3}(ht:t ∈ ovA (zb bs) (zb bs).length):EB l (jN bs t):=by
 obtain⟨b1,b2⟩:=Y7 hb
 obtain⟨h1,h2⟩:=zfz (l:=l) (ps:=zb bs) (λr hr=>by
  obtain⟨e,he,rfl⟩:=AT.mp hr
  exact#[(hB.e e he).ma,(hB.e e he).mb]) (λr hr=>by
  obtain⟨e,he,rfl⟩:=AT.mp hr
  exact b2 e he) ht
 refine#[h1.1,h2.1,?_,h1.2,h2.2];show (byL bs [((t.1:Int),(0:Int),AN),((t.2.1:Int),(t.2.2:Int),AM)]).length<=600;unfold byL;rw[List.flatMap_cons,List.flatMap_cons,List.flatMap_nil,aT,aj];have o1:=UD hs ((t.1:Int),(0:Int),AN);have o2:=UD hs ((t.2.1:Int),(t.2.2:Int),AM);lia
theorem EnsM.samT{T:rV}{H H':Hp}{ps:Array rW}{a:rV}(h:EnsM K H a es)(s:SamT T H H')(hT:H T=AK (.tbl ps)):EnsM K H' a es:=by
 obtain⟨xs,h1,h2⟩:=h;exact#[xs,s.at hT h1 (λ_ z=>by cases z),EnsA.samT s hT h2]
def zfv(K:rT)(T:rV)(H:Hp)(k:Nat)(l:List Nat)(ns:List Int)(rs:List zp)(m n:Nat)(H':Hp)(Dk Df:rV):Prop:=∃kept fresh:List Ent,SamT T H H'/\TabOk H' T lp lq/\EnsM K H' Dk kept/\EnsL K H' Df fresh/\fresh.length<64/\(∀e ∈ fresh,EB l e)/\BG k l ns kept/\∀w es,Cpl k l ns n kept fresh w es->Cpl k l ns m [] (fEs rs rs.length) w es
def zao(K:rT)(CO CR CW T:rV):Sp:=λvs H Q _=>∃(o a:rV) (k:Nat) (l:List Nat) (ns:List Int) (rs:List zp) (m:Nat),vs=[.ref o,.ref a,.int (m:Nat)]/\OrdAt CO CR CW H o k l ns/\OG l ns k/\LsA K H a (rs.map dR)/\rs.length<=20/\InL l rs/\(∀r ∈ rs,r.1.length<=60/\r.2.length<=60)/\m<=1000/\TabOk H T lp lq/\∀(w:Bool) (es:List Ent) (p D:rV) (H':Hp),Cpl k l ns (m+1) [] (fEs rs rs.length) w es->BG k l ns es->SamT T H H'->TabOk H' T lp lq->H' p=AK (.tup [.bl w,.ref D])->EnsM K H' D es->Q (.ref p) H'
theorem gk:zk ["order","pacts","rounds","kept","fresh","turn","slim","lacking"] ["order","pacts","rounds"] (zh wn):=by nofun
theorem YG{f CO CR CW TB:rV}(B:Bt mg)(TM:TMc mg)(F:Fun K "completed" "completed" wn f fd)(oN:Df P w K mg base CX0 1 "first_entries" ["pacts"] [] (XS K))(oh:Df P w K mg base CX0 8 "thinned_within" ["order","entries"] [] (zal K CO CR CW TB))(pc:Df P w K mg base CX0 9 "unmet_within" ["order","entries"] [] (zaI K CO CR CW))(ra:Df P w K mg base CX0 5 "entry_of" ["entries","overlap"] [] (ZF K)):zP P w K mg base CX0 10 f fd ["order","pacts","rounds"] (zao K CO CR CW TB):=by
 obtain⟨t9,g9⟩:=TM.p
 exists F.ok gk
 ·obtain⟨o,a,k,l,ns,rs,m,rfl,ho,hG,hA,hrl,hin,h60,hm,hTab,q⟩:=h
  refine#[_,(zi (ka (i:=3) gk.nd rfl (Or.inr rfl) (wZ zd))
   (zi (zD 4 gk.nd (cl0 oN hr .nil rfl (za (pv 1) zd)))
   (zi (zX PassesOwn.never rfl (yo rfl B.range (za (zA yb (pv 2) zg) zd)) (zx (i:=5) gk.nd rfl (.inl rfl))
    (zi (zD 6 gk.nd (cl0 oh hr .nil rfl (za (pv 0) (za (pv 4) zd))))
    (zi (zM (zy op_isN' (pv 6) yd (zB _))
     (zf (zl (zR (za xS (za (pv 3) zd)))))
     zw)
    (zi (ka (i:=3) gk.nd rfl (Or.inr rfl) (pv 6))
    (zi (zD 7 gk.nd (cl0 pc hr .nil rfl (za (pv 0) (za (pv 3) zd))))
    (zi (zM (zy op_isN' (pv 7) yd (zB _))
     (zf (zl (zR (za xS (za (pv 3) zd)))))
     zw)
    (zi (zM (zy xM (zC B.len (pv 7)) zg (zB _))
     (zf (zl (zR (za xS (za (pv 3) zd)))))
     zw)
    (zf (zD 4 gk.nd (zA qR (pv 3) (wv (own:=["overlap"]) (caps:=["kept"]) (ix:=[3]) (tt:=vG) (te:=(u7 (ZF K) [] E0 (zL (yk 1) (zL (yk 0) xT)))) rfl (zZ (sc:=zh wn) rfl (by symm) (by symm) (by symm) rfl (by symm) (by symm) rfl) (yw (ya kR (pv 7) xy (zV (yn (v:=.int 8) rfl g9 #[t9,rfl])))) (λ_ _ _ _ _ _=>zx (i:=0) (show List.Nodup [_,_] by decide) rfl (.inl rfl)) (λ_ _ _ _ _ _=>yY) (λ_ _ _ _ _ _=>(cl0 ra hr .nil rfl (za (pv 1) (za (pv 0) zd)))))))))))))))
   (zf (zl (zR (za xS (za (pv 3) zd)))))))),?_]
  have s16:=zQ;have s16:=zQ;have hTt:=hTab;obtain⟨tp,htp,_⟩:=hTt;refine zj (λσ H'=>Same H H'/\∃Dk:rV,H' Dk=AK (.lst [])/\σ=[AK (.ref o),AK (.ref a),AK (.int (m:Nat)),AK (.ref Dk),AL,AL,AL,AL]) ?_ ?_
  ·ac_rfl;exact#[by lia,λp hp=>#[zc hp,ze]]
  rintro σ H1 ⟨s1,Dk0,hDk0,rfl⟩:_
  have hE0:∀e ∈ fEs rs rs.length,EB l e:=λe he=>by
   obtain⟨i,p,hi,hp,rfl⟩:=ZG he;have h1:=h60 p (af hp);have h2:=hin p (af hp);exact#[h1.1,h1.2,by show ([((i:Int),(0:Int),AM)]:List Stp).length<=600;simp,h2.2.2.1,h2.2.2.2]
  right;refine zj (λσ H'=>∃Df:rV,zfv K TB H k l ns rs (m+1) (m+1) H' Dk0 Df/\σ=[AK (.ref o),AK (.ref a),AK (.int (m:Nat)),AK (.ref Dk0),AK (.ref Df),AL,AL,AL]) ?_ ?_
  ·ac_rfl;exact#[a,rs,rfl,hA.same s1,hrl,λDf H' s' _ hM=>#[Df,#[[],fEs rs rs.length,SamT.of (s1.trans s'),hTab.same (s1.trans s'),#[[],s' _ _ hDk0,rfl],hM.l,by have:=QO rs rs.length;lia,hE0,#[by simp,λe he=>(nomatch he),λe he=>(nomatch he)],λw es h=>h],rfl]]
  rintro σ H2 ⟨Df0,hC0,rfl⟩:_;right;refine zj (λσ H'=>∃(Dk Df:rV) (v5 v6 v7:Option V),zfv K TB H k l ns rs (m+1) 0 H' Dk Df/\σ=[AK (.ref o),AK (.ref a),AK (.int (m:Nat)),AK (.ref Dk),AK (.ref Df),v5,v6,v7]) ?_ ?_
  ·ac_rfl;refine#[by lia,by lia,ForR.by (λi σ H'=>∃(Dk Df:rV) (v5 v6 v7:Option V),zfv K TB H k l ns rs (m+1) (m+1 - i) H' Dk Df/\σ=[AK (.ref o),AK (.ref a),AK (.int (m:Nat)),AK (.ref Dk),AK (.ref Df),v5,v6,v7]) #[Dk0,Df0,AL,AL,AL,hC0,rfl] ?_ ?_]
   ·rintro i σ H' hi ⟨Dk,Df,v5,v6,v7,⟨kept,fresh,sT,hT,hK,hF,hfl,hfE,hB,hcp⟩,rfl⟩;have hi':i<m+1:=by lia
    have en:m+1 - i=(m+1 - (i+1))+1:=by lia
    rw[en]at hcp;have hTt:=hT;obtain⟨tq,htq,_⟩:=hTt;have ho':=ho.samT sT htp;simp only[yD,aX,aW];refine zj (λσ' G=>SamT TB H' G/\TabOk G TB lp lq/\(((uq k l ns 20 fresh AL\/∃bs,uq k l ns 20 fresh (AK bs)/\km bs=AM)/\σ'=[AK (.ref o),AK (.ref a),AK (.int (m:Nat)),AK (.ref Dk),AK (.ref Df),AK (.int (0+(i:Int))),AK (.non),v7])\/∃(bs:List Ent) (D:rV),uq k l ns 20 fresh (AK bs)/\BG k l ns bs/\km bs=AN/\EnsM K G D bs/\σ'=[AK (.ref o),AK (.ref a),AK (.int (m:Nat)),AK (.ref Dk),AK (.ref Df),AK (.int (0+(i:Int))),AK (.ref D),v7])) ?_ ?_
    ·ac_rfl;exact#[o,Df,k,l,ns,fresh,rfl,ho',hG,hF,hfl,hfE,hT,λbs D G h1 h2 h3 h4 h5 h6=>#[h4,h5,.inr #[bs,h1,h2,h3,D,h6,rfl]],λh G h4 h5=>#[h4,h5,.inl #[h,rfl]]]
    rintro σ' G1 ⟨g1,hT1,hcase⟩:_;have hK1:=hK.samT g1 htq;right;refine zj (λσ' G=>Same G1 G/\∃(bs:List Ent) (D:rV),uq k l ns 20 fresh (AK bs)/\BG k l ns bs/\km bs=AN/\EnsM K G D bs/\σ'=[AK (.ref o),AK (.ref a),AK (.int (m:Nat)),AK (.ref Dk),AK (.ref Df),AK (.int (0+(i:Int))),AK (.ref D),v7]) ?_ ?_
    ·rcases hcase with ⟨hno,rfl⟩ | ⟨bs,D,h1,h2,h3,h4,rfl⟩
     ·ac_rfl;exact#[by lia,λp hp=>q AN kept p Dk _ (hcp _ _ (.slim hno)) hB (sT.trans (g1.trans (SamT.of (zc hp)))) (hT1.same (zc hp)) ze (hK1.same (zc hp))]
     ·ac_rfl;exact#[Same.refl _,bs,h1,h2,h3,h4]
    rintro σ' G2 ⟨s2,bs,D,hTh,hBb,hbey,hD,rfl⟩:_;right;refine zj (λσ' G=>G=G2/\σ'=[AK (.ref o),AK (.ref a),AK (.int (m:Nat)),AK (.ref D),AK (.ref Df),AK (.int (0+(i:Int))),AK (.ref D),v7]) ?_ ?_
    ·ac_rfl
    rintro σ' G3 ⟨rfl,rfl⟩:_;have sT3:SamT TB H G3:=sT.trans (g1.trans (SamT.of s2));have hT3:=hT1.same s2;have ho3:=ho.samT sT3 htp;obtain⟨b12,b10⟩:=Y7 hbey;have hpl:(zb bs).length=bs.length:=by unfold zb;rw[ag]
    have hol:=zc8 (ps:=zb bs) (by lia) λr hr=>by
     obtain⟨e,he,rfl⟩:=AT.mp hr;exact (b10 e he).1
    have hnear:∀e ∈ bs,e.2.2.length<=240:=λe he=>by
     have:=jx hTh bs rfl e he;unfold jD at this;lia
    right;refine zj (λσ' G=>Same G3 G/\(((∃t ∈ ovA (zb bs) (zb bs).length,¬ OkG (zb bs) 40 t)/\σ'=[AK (.ref o),AK (.ref a),AK (.int (m:Nat)),AK (.ref D),AK (.ref Df),AK (.int (0+(i:Int))),AK (.ref D),AK (.non)])\/∃L:rV,(∀t ∈ ovA (zb bs) (zb bs).length,OkG (zb bs) 40 t)/\LsA K G L ((unG (zb bs) 40).map d3)/\σ'=[AK (.ref o),AK (.ref a),AK (.int (m:Nat)),AK (.ref D),AK (.ref Df),AK (.int (0+(i:Int))),AK (.ref D),AK (.ref L)])) ?_ ?_
    ·ac_rfl;exact#[o,D,k,l,ns,bs,rfl,ho3,hG,hD.l,hBb,by lia,hol,λh L G s' hL=>#[s',.inr #[h,L,hL,rfl]],λt ht h G s'=>#[s',.inl #[#[t,ht,h],rfl]]]
    rintro σ' G4 ⟨s4,hcase⟩:_;right;refine zj (λσ' G=>Same G3 G/\∃L:rV,(∀t ∈ ovA (zb bs) (zb bs).length,OkG (zb bs) 40 t)/\LsA K G L ((unG (zb bs) 40).map d3)/\σ'=[AK (.ref o),AK (.ref a),AK (.int (m:Nat)),AK (.ref D),AK (.ref Df),AK (.int (0+(i:Int))),AK (.ref D),AK (.ref L)]) ?_ ?_
    ·rcases hcase with ⟨⟨t,ht,hno⟩,rfl⟩ | ⟨L,h1,h2,rfl⟩
     ·ac_rfl;exact#[by lia,λp hp=>q AN bs p D _ (hcp _ _ (.far hTh hbey ht hno)) hBb (sT3.trans (SamT.of (s4.trans (zc hp)))) (hT3.same (s4.trans (zc hp))) ze (hD.same (s4.trans (zc hp)))]
     ·ac_rfl;exact#[s4,h1,h2]
    rintro σ' G5 ⟨s5,L,hok,hL,rfl⟩:_;right;refine zj (λσ' G=>G=G5/\unG (zb bs) 40≠[]/\σ'=[AK (.ref o),AK (.ref a),AK (.int (m:Nat)),AK (.ref D),AK (.ref Df),AK (.int (0+(i:Int))),AK (.ref D),AK (.ref L)]) ?_ ?_
    ·ac_rfl;obtain⟨xs,hX,hI⟩:=id hL;have hxl:=hI.len;rw[ag]at hxl;refine#[_,.inl #[_,SqL.of hX,rfl],yx (λh=>#[by lia,λp hp=>q AM bs p D _ (hcp _ _ (.whole hTh hbey hok (Bj.mp (by lia)))) hBb (sT3.trans (SamT.of (s5.trans (zc hp)))) (hT3.same (s5.trans (zc hp))) ze (hD.same (s5.trans (zc hp)))]) λh z=>h ?_];rw[z]at hxl;show ((xs.length:Nat):Int)=0;rw[hxl];rfl
    rintro σ' G6 ⟨rfl,hne,rfl⟩:_;right;ac_rfl;obtain⟨xs,hX,hI⟩:=id hL;have hxl:=hI.len;rw[ag]at hxl;have hct:Js xs AL (AK 8)=xs.take 8:=Z8 xs (k:=8) (by decide);refine#[_,SqL.of hX,λp hp=>?_];rw[hct];have u1:=zc (o:=HO.lst (xs.take 8)) hp;have hS7:(upd G6 p (.lst (xs.take 8))) p=AK (.lst (xs.take 8)):=ze;have hX7:=Iss.same u1 _ _ hI;have hD7:=hD.same (s5.trans u1);refine#[#[_,SqL.of hS7],λE1 hE1=>?_];generalize upd G6 p (.lst (xs.take 8))=G7 at *;refine CompL.by (xs:=xs.take 8) (λj AR H'=>Same G7 H'/\H' E1=AK (.lst AR)/\AR.length<=j/\EnsA K (jW E1 H') (((unG (zb bs) 40).take j).map (jN bs)) AR) #[zc hE1,ze,al _,rfl] (λj AR H' _ h=>SqL.of (h.1 _ _ hS7)) ?_ ?_
    ·rintro j x AR H' hx ⟨hs,hH,hal,hEn⟩;have hjl:=(AS.mp hx).1;have hj8:j<8:=by rw[aG]at hjl;lia
     rw[br hj8]at hx;obtain⟨t,pt,ht,rfl,hpt⟩:=hX7.get3 hx;have htm:=(AY.mp (af ht)).1;simp only[vG]
     rfl'
     refine#[wx,D,pt,bs,t,rfl,(hD7.same hs).l,zv hs hpt,htm,hBb.ok (by lia),λe he=>(hBb.e e he).s,λp' s' H5 h1 h2 h3 h4=>?_];have hH5:=h1 _ _ hH;have hsE:s'≠E1:=λz=>by rw[z,hH]at h4;cases h4
     refine#[hH5,by lia,CNx.mk hjl #[zI (hs.trans h1) hE1,ze,by rw[aj];simp only[aI,bT];lia,?_]];rw[z7 ht,aA];exact (hEn.same ((wI h1).trans xu)).snoc ((EnA.new (e:=jN bs t) hH5 h2 h3 hsE).same xu)
    ·rintro AR H' ⟨hs,hH,hal,hEn⟩
     have hEn':EnsA K H' (((unG (zb bs) 40).take 8).map (jN bs)) AR:=by
      have h1:=hEn.same wS;rw[aG,hxl]at h1
      have e:(unG (zb bs) 40).take (min 8 (unG (zb bs) 40).length)=(unG (zb bs) 40).take 8:=by
       rw[<- fh,aO]
      rw[e]at h1;exact h1
     have hal8:AR.length<=8:=by rw[aG]at hal;lia
     obtain⟨xk,hxk,hek⟩:=hD7.same hs;have hkl:=hek.len;refine#[E1,rfl,xk,hxk,AR,hH,by lia,λp2 hp2=>#[D,p2,#[bs,_,sT3.trans (SamT.of (s5.trans (u1.trans (hs.trans (zc hp2))))),hT3.same (s5.trans (u1.trans (hs.trans (zc hp2)))),#[xk,zc hp2 _ _ hxk,hek.same (zc hp2)],#[xk ++ AR,SqL.of ze,(hEn'.same (zc hp2)).app (hek.same (zc hp2))],?_,λe he=>?_,hBb,λw es h=>hcp w es (.more hTh hbey hok hne h)],rfl,rfl]]
     ·rw[aj,ag,aG];lia
     ·rcases AU.mp he with he | he
      ·exact hBb.e e he
      ·obtain⟨t,ht,rfl⟩:=AT.mp he;exact Uw hBb hbey hnear (AY.mp (aZ ht)).1
   ·rintro σ H' ⟨Dk,Df,v5,v6,v7,hC,rfl⟩;rw[show ((m:Int)+1).toNat=m+1 by lia,eK]at hC;exact#[Dk,Df,hC,_,_,_,rfl]
  rintro σ H3 ⟨Dk,Df,v5,v6,v7,⟨kept,fresh,sT,hT,hK,hF,hfl,hfE,hB,hcp⟩,rfl⟩:_;right;ac_rfl;exact#[by lia,λp hp=>q AN kept p Dk _ (hcp _ _ (.out kept fresh)) hB (sT.trans (SamT.of (zc hp))) (hT.same (zc hp)) ze (hK.same (zc hp))]
theorem k8{w:List Nat}{i:Nat}{q:Int}{f:Bool}{r:zp}(hr:ps[i]? = AK r)(h:zq w q (sdl r f).1=AM):yj ps w ((i:Int),q,f)=AK (yC w q (sdl r f).1 (sdl r f).2):=by
 have hi:=(AS.mp hr).1
 have e:ps.getD ((i:Int),q,f).1.toNat ([],[])=r:=by
  show ps.getD ((i:Int)).toNat ([],[])=r;rw[aJ,ae,hr];rfl
 rw[yy (show 0<=((i:Int),q,f).1/\((i:Int),q,f).1<ps.length by constructor <;> simp <;> lia),e,if_pos h]
theorem Ke(h:e ∈ fEs rs n):EOk rs e:=by
 obtain⟨i,p,hi,hp,rfl⟩:=ZG h;show zU rs p.1 [((i:Int),(0:Int),AM)]=AK p.2
 have hs:zq p.1 0 (sdl p AM).1=AM:=by
  show zq p.1 0 p.1=AM;refine decide_eq_true #[by lia,by lia,?_];show (p.1.drop 0).take p.1.length=p.1;rw[dQ,aO]
 simp only[zU,k8 hp hs,bW];show AK (yC p.1 0 p.1 p.2)=AK p.2;congr 1;unfold yC;show p.1.take 0 ++ p.2 ++ p.1.drop (0+p.1.length)=p.2;rw[bS,bp,aV (by lia),aT]
theorem zcw(hb:∀e ∈ bs,EOk rs e){t:N3}(ht:t ∈ ovA (zb bs) (zb bs).length):EOk rs (jN bs t):=by
 obtain⟨i1,i2,i3,i4⟩:=uw ht;obtain⟨r,hr⟩:∃r,(zb bs)[t.1]? = AK r:=#[_,ah i1];obtain⟨r2,hr2⟩:∃r,(zb bs)[t.2.1]? = AK r:=#[_,ah i2];have l1:=wz hr;have l2:=wz hr2;have d1:(zb bs).getD t.1 ([],[])=r:=by rw[ae,hr];rfl
 have d2:(zb bs).getD t.2.1 ([],[])=r2:=by rw[ae,hr2];rfl
 rw[l1]at i3;rw[l1,l2]at i4;have eA:pkA (zb bs) t=yC (z8 r.1 r2.1 t.2.2) 0 r.1 r.2:=by unfold pkA;rw[l1,l2,d1]
 have eB:pkB (zb bs) t=yC (z8 r.1 r2.1 t.2.2) (t.2.2:Nat) r2.1 r2.2:=by unfold pkB;rw[l1,l2,d2]
 refine ju hb ?_;show zU (zb bs) (pkA (zb bs) t) [((t.1:Int),(0:Int),AN),((t.2.1:Int),(t.2.2:Int),AM)]=AK (pkB (zb bs) t);obtain⟨b1,b2⟩:=Wt r.2 (j0 r.1 r2.1 t.2.2);rw[eA,eB];have h1:=k8 (f:=AN) (q:=0) hr (w:=yC (z8 r.1 r2.1 t.2.2) 0 r.1 r.2) b1;have h2:=k8 (f:=AM) (q:=(t.2.2:Int)) hr2 (w:=z8 r.1 r2.1 t.2.2) (jz (by lia) i4)
 have h1':yj (zb bs) (yC (z8 r.1 r2.1 t.2.2) 0 r.1 r.2) ((t.1:Int),(0:Int),AN)=AK (z8 r.1 r2.1 t.2.2):=by
  rw[h1];congr 1
 have h2':yj (zb bs) (z8 r.1 r2.1 t.2.2) ((t.2.1:Int),(t.2.2:Int),AM)=AK (yC (z8 r.1 r2.1 t.2.2) (t.2.2:Nat) r2.1 r2.2):=h2;simp only[zU,h1',h2',bW]
theorem VI{l:List Nat}{es bs zs:List Ent}(h:uq k l ns 20 es (AK bs))(hb:km bs=AN)(hz:ThinL k l ns zs)(hp:zb bs=zb zs):BG k l ns bs:=by
 obtain⟨b1,_⟩:=Y7 hb
 have key:∀e ∈ bs,∃z ∈ zs,z.1=e.1/\z.2.1=e.2.1:=λe he=>by
  have:(e.1,e.2.1) ∈ zb zs:=by rw[<- hp];exact AT.mpr #[e,he,rfl]
  obtain⟨z,hz,e2⟩:=AT.mp this;injection e2 with h1 h2;exact#[z,hz,h1,h2]
 refine#[by lia,λe he=>?_,λe he=>?_]
 ·obtain⟨z,hzm,h1,h2⟩:=key e he;have hE:=hz.rl.e z hzm;have hn:=jx h bs rfl e he;unfold jD at hn;exact#[by lia,by lia,by lia,by rw[<- h1];exact hE.ma,by rw[<- h2];exact hE.mb]
 ·obtain⟨z,hzm,h1,h2⟩:=key e he;rw[<- h1,<- h2];exact hz.rl.lt z hzm
def Gd(rs:List zp)(k:Nat)(l:List Nat)(ns:List Int)(es:List Ent):Prop:=(∀e ∈ es,EOk rs e)/\(es=[]\/(ThinL k l ns es/\km es=AN/\BG k l ns es))
theorem Xb{rs:List zp}{l:List Nat}(G:OG l ns k){es bs:List Ent}(h:uq k l ns 20 es (AK bs))(hb:km bs=AN)(he:∀e ∈ es,EB l e)(ho:∀e ∈ es,EOk rs e):Gd rs k l ns bs:=by
 obtain⟨h1,zs,hz,hp⟩:=XO (rs:=rs) G h bs rfl he ho;have hB:=VI h hb hz hp;exact#[h1,.inr #[hz.pairs hp hB.e,hb,hB]]
theorem zc3{rs:List zp}{k n:Nat}{l:List Nat}(G:OG l ns k){kept fresh es:List Ent}{w:Bool}(h:Cpl k l ns n kept fresh w es):(∀e ∈ fresh,EB l e)->(∀e ∈ fresh,EOk rs e)->Gd rs k l ns kept->Gd rs k l ns es:=by
 induction h with
 | out kept fresh=>exact λ_ _ h=>h
 | slim _=>exact λ_ _ h=>h
 | far h hb _ _=>exact λhe ho _=>Xb G h hb he ho
 | whole h hb _ _=>exact λhe ho _=>Xb G h hb he ho
 | @more n kept fresh bs es w h hb ho' hu r ih =>
  intro he ho _;have hg:=Xb (rs:=rs) G h hb he ho
  have hB:BG k l ns bs:=by
   obtain⟨h1,zs,hz,hp⟩:=XO (rs:=rs) G h bs rfl he ho;exact VI h hb hz hp
  have hnear:∀e ∈ bs,e.2.2.length<=240:=λe hm=>by
   have:=jx h bs rfl e hm;unfold jD at this;lia
  refine ih (λe hm=>?_) (λe hm=>?_) hg
  ·rcases AU.mp hm with hm | hm
   ·exact hB.e e hm
   ·obtain⟨t,ht,rfl⟩:=AT.mp hm;exact Uw hB hb hnear (AY.mp (aZ ht)).1
  ·rcases AU.mp hm with hm | hm
   ·exact hg.1 e hm
   ·obtain⟨t,ht,rfl⟩:=AT.mp hm;exact zcw hg.1 (AY.mp (aZ ht)).1
theorem WG{w o:List Nat}{q:Nat}(h:zq w (q:Int) o=AM):w.take q ++ o ++ w.drop (q+o.length)=w:=by
 unfold zq at h;obtain⟨_,_,e⟩:=of_decide_eq_true h;rw[aJ]at e
 calc w.take q ++ o ++ w.drop (q+o.length)=w.take q ++ ((w.drop q).take o.length ++ (w.drop q).drop o.length):=by rw[e,dU,ao]
  _=w.take q ++ w.drop q:=by rw[bK]
  _=w:=bK q w
theorem KG{w:List Nat}{u:Nat × Nat}(h:zE w ps=AK u):∃p,ps[u.1]? = AK p/\zq w (u.2:Int) p.1=AM:=by
 unfold zE at h;have hm:u ∈ xj w ps w.length:=fj h;obtain⟨_,h2⟩:=usesK_mem.mp hm;obtain⟨_,p,hp,hs⟩:=wM h2;exact#[p,hp,hs]
theorem KC{l:List Nat}{u v:List Nat}(h:zK k l ns u v=AM):zr k l ns u<=zr k l ns v:=by
 unfold zK at h;by_cases e:zr k l ns u=zr k l ns v
 ·lia
 ·rw[if_neg e]at h;have:=of_decide_eq_true h;lia
theorem Jk{l:List Nat}{w:List Nat}{p:zp}{q:Nat}(G:OG l ns k)(hp:zK k l ns p.2 p.1=AM/\(∀c ∈ p.1,c ∈ l)/\∀c ∈ p.2,c ∈ l)(hw:∀c ∈ w,c ∈ l)(h2:zq w (q:Int) p.1=AM):zK k l ns (yC w (q:Int) p.1 p.2) w=AM/\∀c ∈ yC w (q:Int) p.1 p.2,c ∈ l:=by
 have e1:=WG h2;obtain⟨p1,p2,p3⟩:=hp;unfold yC;rw[aJ];have ha:∀c ∈ w.take q,c ∈ l:=λc hc=>hw c (aZ hc);have hb:∀c ∈ w.drop (q+p.1.length),c ∈ l:=λc hc=>hw c (cj hc);generalize w.take q=a at *;generalize w.drop (q+p.1.length)=b at *;rw[<- e1];have ap:∀x:List Nat,(∀c ∈ x,c ∈ l)->∀c ∈ a ++ x,c ∈ l:=λx hx c hc=>(AU.mp hc).elim (ha c) (hx c);refine#[?_,λc hc=>(AU.mp hc).elim (ap p.2 p3 c) (hb c)];rw[(vS G hb (ap p.2 p3) (ap p.1 p2)).2,(vS G ha p3 p2).1];exact p1
theorem Kx{t:N3}(ht:t ∈ ovA ps ps.length):∃r r2,ps[t.1]? = AK r/\ps[t.2.1]? = AK r2/\t.2.2<r.1.length/\yJ r.1 r2.1 t.2.2=AM/\pkA ps t=yC (z8 r.1 r2.1 t.2.2) 0 r.1 r.2/\pkB ps t=yC (z8 r.1 r2.1 t.2.2) (t.2.2:Nat) r2.1 r2.2:=by
 obtain⟨i1,i2,i3,i4⟩:=uw ht;obtain⟨r,hr⟩:∃r,ps[t.1]? = AK r:=#[_,ah i1];obtain⟨r2,hr2⟩:∃r,ps[t.2.1]? = AK r:=#[_,ah i2];have l1:=wz hr;have l2:=wz hr2;have d1:ps.getD t.1 ([],[])=r:=by rw[ae,hr];rfl
 have d2:ps.getD t.2.1 ([],[])=r2:=by rw[ae,hr2];rfl
 rw[l1]at i3;rw[l1,l2]at i4;exact#[r,r2,hr,hr2,i3,i4,by unfold pkA;rw[l1,l2,d1],by unfold pkB;rw[l1,l2,d2]]
theorem X1{v:List Nat}{J:Nat}(h:zE (wAt ps v J) ps=AL):∀d,wAt ps v (J+d)=wAt ps v J
 | 0=>rfl
 | d+1=>by
  show XQ ps (wAt ps v (J+d))=_;rw[X1 h d];unfold XQ;rw[h];rfl
def Rw(ps:List zp)(u v:List Nat):Prop:=∃p,p ∈ ps/\∃a b,u=a ++ p.1 ++ b/\v=a ++ p.2 ++ b
inductive Rws(ps:List zp):List Nat->List Nat->Prop where
 | nil {u:List Nat}:Rws ps u u
 | cons {u v w:List Nat} (h:Rw ps u v) (h2:Rws ps v w):Rws ps u w
theorem Rws.trans{u v w:List Nat}(h:Rws ps u v)(h2:Rws ps v w):Rws ps u w:=by
 induction h with
 | nil=>exact h2
 | cons s _ ih=>exact .cons s (ih h2)
theorem Rws.one{u v:List Nat}(h:Rw ps u v):Rws ps u v:=.cons h .nil
theorem Rw.ctx{u v:List Nat}(h:Rw ps u v)(c d:List Nat):Rw ps (c ++ u ++ d) (c ++ v ++ d):=by
 obtain⟨p,hp,a,b,rfl,rfl⟩:=h;exact#[p,hp,c ++ a,b ++ d,by simp only[ao],by simp only[ao]]
theorem Rws.ctx{u v:List Nat}(h:Rws ps u v)(c d:List Nat):Rws ps (c ++ u ++ d) (c ++ v ++ d):=by
 induction h with
 | nil=>exact .nil
 | cons s _ ih=>exact .cons (s.ctx c d) ih
theorem vY{w:List Nat}{p:zp}{q:Nat}(h:zq w (q:Int) p.1=AM):w=w.take q ++ p.1 ++ w.drop (q+p.1.length)/\yC w (q:Int) p.1 p.2=w.take q ++ p.2 ++ w.drop (q+p.1.length):=by
 refine#[(WG h).symm,?_];unfold yC;rw[aJ]
theorem zcn{w:List Nat}{p:zp}{q:Nat}(hp:p ∈ ps)(h:zq w (q:Int) p.1=AM):Rw ps w (yC w (q:Int) p.1 p.2) :=
 #[p,hp,_,_,(vY h).1,(vY h).2]
theorem Q8{w:List Nat}{u:Nat × Nat}(h:zE w ps=AK u):Rw ps w (YH w ps u):=by
 obtain⟨p,h1,h2⟩:=KG h;unfold YH;rw[xg h1];exact zcn (af h1) h2
theorem qy{ps:List zp}{w:List Nat}:∀j,Rws ps w (wAt ps w j)
 | 0=>.nil
 | j+1=>by
  have ih:=qy (ps:=ps) (w:=w) j
  cases e:zE (wAt ps w j) ps with
  | none =>
   have:=X1 e 1;rw[this];exact ih
  | some u =>
   rw[wj e];exact ih.trans (.one (Q8 e))
theorem Wz{a o b:List Nat}:zq (a ++ o ++ b) (a.length:Int) o=AM:=by
 refine decide_eq_true #[by lia,by simp only[aj];lia,?_];rw[aJ,ao,cE,cS]
theorem zbk{u v:List Nat}(hN:NeL ps)(h:Rw ps u v):zE u ps≠AL:=λe=>by
 obtain⟨p,hp,a,b,rfl,_⟩:=h;obtain⟨j,hj⟩:=Bb.mp hp;have hm:(j,a.length) ∈ xj (a ++ p.1 ++ b) ps (a ++ p.1 ++ b).length:=usesK_mem.mpr #[uh (hN p hp) Wz,by rw[jp hj];exact Wz];unfold zE at e;rw[List.head?_eq_none_iff.mp e]at hm;cases hm
theorem zdA{i j k:Nat}(hi:i<ps.length)(hj:j<ps.length)(hk:k<(lf ps i).length)(hne:i≠j\/k≠0)(ha:yJ (lf ps i) (lf ps j) k=AM):((i,j,k):N3) ∈ ovA ps ps.length:=by
 unfold ovA ovI YE;refine Be.mpr #[i,AZ.mpr hi,Be.mpr #[j,AZ.mpr hj,AT.mpr #[k,AY.mpr #[AZ.mpr hk,?_],rfl]]];rw[ha,fo,eQ,decide_eq_true_iff,decide_eq_true_iff];exact hne
theorem ZX(hmet:∀t ∈ ovA ps ps.length,∃f,Rws ps (pkA ps t) f/\Rws ps (pkB ps t) f){p p':zp}(hp:p ∈ ps)(hp':p' ∈ ps){a b a' b':List Nat}(e:a ++ p.1 ++ b=a' ++ p'.1 ++ b')(hle:a.length<=a'.length):∃t,Rws ps (a ++ p.2 ++ b) t/\Rws ps (a' ++ p'.2 ++ b') t:=by
 obtain⟨m,rfl⟩:∃m,a'=a ++ m:=by
  have h1:a=(a' ++ p'.1 ++ b').take a.length:=by rw[<- e,ao,cS]
  rw[ao,aP hle]at h1;exact#[a'.drop a.length,by conv=>rhs;rw[h1];simp [cA hle]]
 have e1:p.1 ++ b=m ++ p'.1 ++ b':=by
  simp only[ao]at e;have:=dh e;rw[this,ao]
 by_cases hk:p.1.length<=m.length
 ·obtain⟨m',rfl⟩:∃m',m=p.1 ++ m':=by
   have h1:p.1=(m ++ p'.1 ++ b').take p.1.length:=by rw[<- e1,cS]
   rw[ao,aP hk]at h1;exact#[m.drop p.1.length,by conv=>rhs;rw[h1];simp [cA hk]]
  have e2:b=m' ++ p'.1 ++ b':=by
   simp only[ao]at e1;have:=dh e1;rw[this,ao]
  refine#[a ++ p.2 ++ (m' ++ p'.2 ++ b'),.one #[p',hp',a ++ p.2 ++ m',b',by rw[e2];simp only[ao],by simp only[ao]],.one #[p,hp,a,m' ++ p'.2 ++ b',by simp only[ao],rfl]]
 ·have hk':m.length<p.1.length:=Nat.lt_of_not_le hk;by_cases hsame:p=p'/\m=[]
  ·obtain⟨rfl,rfl⟩:=hsame;rw[bp]at e1;have:b=b':=dh e1;rw[this,aT];exact#[_,.nil,.nil]
  ·obtain⟨i,hi⟩:=Bb.mp hp;obtain⟨j,hj⟩:=Bb.mp hp';have li:=wz hi;have lj:=wz hj
   have hne:i≠j\/m.length≠0:=by
    by_cases hij:i=j
    ·refine .inr λh0=>hsame #[?_,Bj.mp h0];rw[hij,hj]at hi;exact (Option.some.inj hi).symm
    ·exact .inl hij
   have hag:yJ p.1 p'.1 m.length=AM:=(Vw _ _ _).mpr λn hn hkn=>by
    have h1:(p.1 ++ b)[m.length+n]? =(m ++ (p'.1 ++ b'))[m.length+n]?:=by rw[e1,ao]
    rw[bz hkn,bx (by lia),Nat.add_sub_cancel_left,bz hn]at h1;exact h1
   have hov:((i,j,m.length):N3) ∈ ovA ps ps.length:=zdA (AS.mp hi).1 (AS.mp hj).1 (by rw[li];exact hk') hne (by rw[li,lj];exact hag);obtain⟨f,f1,f2⟩:=hmet _ hov;obtain⟨r,r2,hr,hr2,_,_,eA,eB⟩:=Kx hov
   have er:r=p:=by
    have h:ps[i]? = AK r:=hr;rw[hi]at h;exact (Option.some.inj h).symm
   have er2:r2=p':=by
    have h:ps[j]? = AK r2:=hr2;rw[hj]at h;exact (Option.some.inj h).symm
   subst er er2
   have eb:b=r2.1.drop (r.1.length - m.length) ++ b'.drop (r.1.length - m.length - r2.1.length):=by
    have h1:(r.1 ++ b).drop r.1.length=(m ++ (r2.1 ++ b')).drop r.1.length:=by rw[e1,ao]
    rw[cE,List.drop_append,aV (by lia),bp,List.drop_append]at h1;exact h1
   generalize hc:b'.drop (r.1.length - m.length - r2.1.length)=c at eb
   have hpw:z8 r.1 r2.1 m.length ++ c=m ++ r2.1 ++ b':=by
    unfold z8;rw[ao,<- eb,e1]
   have hpl:=wA r.1 r2.1 m.length (by lia)
   have hA:pkA ps (i,j,m.length)=r.2 ++ r2.1.drop (r.1.length - m.length):=by
    rw[eA];unfold yC z8;show [] ++ r.2 ++ List.drop (0+r.1.length) _=_;rw[dB,cE,bp]
   have hB:pkB ps (i,j,m.length) ++ c=m ++ r2.2 ++ b':=by
    rw[eB];unfold yC;rw[aJ]
    have t1:(z8 r.1 r2.1 m.length).take m.length=m:=by
     have:=congrArg (List.take m.length) hpw;rw[aP (by lia),ao,cS]at this;exact this
    have t2:(z8 r.1 r2.1 m.length).drop (m.length+r2.1.length) ++ c=b':=by
     have:=congrArg (List.drop (m.length+r2.1.length)) hpw;rw[bL (by lia),show m.length+r2.1.length=(m ++ r2.1).length by rw[aj],cE]at this;rw[aj]at this;exact this
    show (z8 r.1 r2.1 m.length).take m.length ++ r2.2 ++ (z8 r.1 r2.1 m.length).drop (m.length+r2.1.length) ++ c=_;rw[t1,ao,t2]
   refine#[a ++ f ++ c,?_,?_]
   ·have:=f1.ctx a c;rw[hA]at this;rw[eb];simp only[ao]at this ⊢;exact this
   ·have:=f2.ctx a c;rw[ao a,hB]at this;simp only[ao]at this ⊢;exact this
theorem WS(hmet:∀t ∈ ovA ps ps.length,∃f,Rws ps (pkA ps t) f/\Rws ps (pkB ps t) f){u v1 v2:List Nat}(h1:Rw ps u v1)(h2:Rw ps u v2):∃t,Rws ps v1 t/\Rws ps v2 t:=by
 obtain⟨p,hp,a,b,e1,rfl⟩:=h1;obtain⟨p',hp',a',b',e2,rfl⟩:=h2;rcases Nat.le_total a.length a'.length with h | h
 ·exact ZX hmet hp hp' (e1.symm.trans e2) h
 ·obtain⟨t,t1,t2⟩:=ZX hmet hp' hp (e2.symm.trans e1) h;exact#[t,t2,t1]
section
variable{k:Nat}{l:List Nat}{ws:List Int}{ps:List zp}
def Below(k:Nat)(l:List Nat)(ws:List Int)(w v:List Nat):Prop:=(∀c ∈ v,c ∈ l)/\(v=w\/zK k l ws v w=AM)
theorem Zx(G:OG l ws k)(hp:∀p ∈ ps,zK k l ws p.2 p.1=AM/\(∀c ∈ p.1,c ∈ l)/\∀c ∈ p.2,c ∈ l){u v:List Nat}(hu:∀c ∈ u,c ∈ l)(h:Rw ps u v):zK k l ws v u=AM/\∀c ∈ v,c ∈ l:=by
 obtain⟨p,hpm,a,b,rfl,rfl⟩:=h;have:=Jk (q:=a.length) G (hp p hpm) hu Wz;rw[(vY Wz).2]at this;rw[ao a,cS,show a.length+p.1.length=(a ++ p.1).length by rw[aj],<- ao,cE]at this;exact this
theorem Below.step(G:OG l ws k)(hp:∀p ∈ ps,zK k l ws p.2 p.1=AM/\(∀c ∈ p.1,c ∈ l)/\∀c ∈ p.2,c ∈ l){w u v:List Nat}(hu:Below k l ws w u)(h:Rw ps u v):Below k l ws w v:=by
 obtain⟨h1,h2⟩:=Zx G hp hu.1 h;refine#[h2,.inr ?_];rcases hu.2 with rfl | h3
 ·exact h1
 ·exact wu h1 h3
noncomputable def mu(k:Nat)(l:List Nat)(ws:List Int)(Ws:List (List Nat))(v:List Nat):Nat:=Ws.countP λy=>zK k l ws y v
theorem Yw{α:Type}{p q:α->Bool}:∀{xs:List α} {x:α},(∀z ∈ xs,p z=AM->q z=AM)->x ∈ xs->q x=AM->p x=AN->xs.countP p<xs.countP q
 | y::xs,x,h,hx,hq,hp=>by
  have mono:xs.countP p<=xs.countP q:=List.countP_mono_left λz hz=>h z (am _ hz);rcases AV.mp hx with rfl | hx
  ·rw[cI hq,di (by rw[hp];decide)];lia
  ·have ih:=Yw (λz hz=>h z (am _ hz)) hx hq hp;by_cases hy:p y=AM
   ·rw[cI hy,cI (h y ax hy)];lia
   ·rw[di hy];by_cases hy2:q y=AM
    ·rw[cI hy2];lia
    ·rw[di hy2];exact ih
theorem zdh{Ws:List (List Nat)}{x y:List Nat}(hx:x ∈ Ws)(h:zK k l ws x y=AM):mu k l ws Ws x<mu k l ws Ws y :=
 Yw (λz _ hz=>wu hz h) hx h yR
end
inductive EqR(ps:List zp):List Nat->List Nat->Prop where
 | refl (u:List Nat):EqR ps u u
 | symm {u v:List Nat} (h:EqR ps u v):EqR ps v u
 | trans {u v w:List Nat} (h:EqR ps u v) (h2:EqR ps v w):EqR ps u w
 | one {u v:List Nat} (h:Rw ps u v):EqR ps u v
theorem kK(ps:List zp):W0 (EqR ps):=#[.refl,.symm,.trans,λ{u v} a b h=>by
 induction h with
 | refl u=>exact .refl _
 | symm _ ih=>exact .symm ih
 | trans _ _ i1 i2=>exact .trans i1 i2
 | one h=>exact .one (h.ctx a b)]
theorem VY{p:zp}(h:p ∈ ps):EqR ps p.1 p.2:=.one #[p,h,[],[],by simp,by simp]
theorem Jb{R:List Nat->List Nat->Prop}(hR:W0 R)(hp:∀p ∈ ps,R p.1 p.2){u v:List Nat}(h:EqR ps u v):R u v:=by
 induction h with
 | refl u=>exact hR.refl _
 | symm _ ih=>exact hR.symm ih
 | trans _ _ i1 i2=>exact hR.trans i1 i2
 | one h =>
  obtain⟨p,hm,a,b,rfl,rfl⟩:=h;exact hR.ctx a b (hp p hm)
theorem zcy{R:List Nat->List Nat->Prop}(hR:W0 R)(hp:∀p ∈ rs,R p.1 p.2){u v:List Nat}{s:Stp}(h:yj rs u s=AK v):R u v:=by
 by_cases hb:0<=s.1/\s.1<rs.length
 ·rw[yy hb]at h
  have hm:rs.getD s.1.toNat ([],[]) ∈ rs:=by
   rw[ae,ah (by lia)];exact List.getElem_mem _
  generalize rs.getD s.1.toNat ([],[])=r at *;by_cases hs:zq u s.2.1 (sdl r s.2.2).1=AM
  ·rw[if_pos hs]at h;have h0:0<=s.2.1:=(of_decide_eq_true hs).1;obtain⟨q,hq⟩:∃q:Nat,s.2.1=(q:Int):=#[s.2.1.toNat,by lia];rw[hq]at h hs;obtain⟨e1,e2⟩:=vY (p:=sdl r s.2.2) hs;rw[e2]at h;cases h
   conv=>arg 1;rw[e1]
   refine hR.ctx _ _ ?_;unfold sdl;split
   ·exact hp r hm
   ·exact hR.symm (hp r hm)
  ·rw[if_neg hs]at h;cases h
 ·rw[yL hb]at h;cases h
theorem QJ{R:List Nat->List Nat->Prop}(hR:W0 R)(hp:∀p ∈ rs,R p.1 p.2):∀{ss:List Stp} {u v:List Nat},zU rs u ss=AK v->R u v
 | [],u,v,h=>by cases h;exact hR.refl _
 | s::ss,u,v,h=>by
  obtain⟨w1,h1,h2⟩:=vZ h;exact hR.trans (zcy hR hp h1) (QJ hR hp h2)
section
variable{k:Nat}{l:List Nat}{ws:List Int}{ps:List zp}
def Dwn(k:Nat)(l:List Nat)(ws:List Int)(ps:List zp):Prop:=∀p ∈ ps,zK k l ws p.2 p.1=AM/\(∀c ∈ p.1,c ∈ l)/\∀c ∈ p.2,c ∈ l
theorem zeS(hp:Dwn k l ws ps){u v:List Nat}(h:Rw ps u v):(∀c ∈ u,c ∈ l) ↔ ∀c ∈ v,c ∈ l:=by
 obtain⟨p,hm,a,b,rfl,rfl⟩:=h;obtain⟨_,h1,h2⟩:=hp p hm;simp only[List.mem_append];exact#[λh c hc=>hc.elim (λhc=>hc.elim (λhc=>h c (.inl (.inl hc))) (h2 c)) (λhc=>h c (.inr hc)),λh c hc=>hc.elim (λhc=>hc.elim (λhc=>h c (.inl (.inl hc))) (h1 c)) (λhc=>h c (.inr hc))]
theorem Qs(hp:Dwn k l ws ps){u v:List Nat}(h:EqR ps u v):(∀c ∈ u,c ∈ l) ↔ ∀c ∈ v,c ∈ l:=by
 induction h with
 | refl u=>exact .rfl
 | symm _ ih=>exact ih.symm
 | trans _ _ i1 i2=>exact i1.trans i2
 | one h=>exact zeS hp h
noncomputable def zfi(l:List Nat):Nat->List (List Nat)
 | 0=>[[]]
 | n+1=>[]::(zfi l n).flatMap λw=>l.map (·::w)
theorem Wp:∀(n:Nat) (v:List Nat),v.length<=n->(∀c ∈ v,c ∈ l)->v ∈ zfi l n
 | 0,v,h,_=>by rw[Bj.mp (Nat.le_zero.mp h)];exact ax
 | n+1,[],_,_=>ax
 | n+1,c::v,h,hm=>am _ (Be.mpr #[v,Wp n v (Nat.le_of_succ_le_succ h) λx hx=>hm x (am _ hx),AT.mpr #[c,hm c ax,rfl]])
theorem KT(G:OG l ws k):∀{v:List Nat},(∀c ∈ v,c ∈ l)->(v.length:Int)<=zr k l ws v
 | [],_=>xX G λc hc=>(nomatch hc)
 | c::v,hm=>by
  have h1:=KT G (v:=v) λx hx=>hm x (am _ hx);have h2:=uD (u:=[c]) G (λx hx=>hm x (by rw[AW.mp hx];exact ax)) (by simp);have h3:=yM (k:=k) (l:=l) (ns:=ws) [c] v;rw[show c::v=[c] ++ v from rfl,h3,aj];simp only[du];lia
theorem VC(G:OG l ws k)(w:List Nat):∃Ws:List (List Nat),∀v,Below k l ws w v->v ∈ Ws:=by
 refine#[zfi l (zr k l ws w).toNat,λv hv=>Wp _ v ?_ hv.1];have h1:=KT G hv.1
 have h2:zr k l ws v<=zr k l ws w:=by
  rcases hv.2 with rfl | h
  ·exact fL _
  ·exact KC h
 lia
theorem Y1(G:OG l ws k)(hp:Dwn k l ws ps)(hmet:∀t ∈ ovA ps ps.length,∃f,Rws ps (pkA ps t) f/\Rws ps (pkB ps t) f){w:List Nat}{Ws:List (List Nat)}(hin:∀v,Below k l ws w v->v ∈ Ws):∀(n:Nat) (x:List Nat),mu k l ws Ws x<n->Below k l ws w x->∀v1 v2,Rws ps x v1->Rws ps x v2->∃t,Rws ps v1 t/\Rws ps v2 t
 | 0,x,h,_=>absurd h (cf _)
 | n+1,x,hn,hx=>λv1 v2 h1 h2=>by
  cases h1 with
  | nil=>exact#[v2,h2,.nil]
  | @cons _ y1 _ s1 r1 =>
   cases h2 with
   | nil=>exact#[v1,.nil,.cons s1 r1]
   | @cons _ y2 _ s2 r2 =>
    have b1:=hx.step G hp s1;have b2:=hx.step G hp s2;have m1:=zdh (Ws:=Ws) (hin _ b1) (Zx G hp hx.1 s1).1;have m2:=zdh (Ws:=Ws) (hin _ b2) (Zx G hp hx.1 s2).1;obtain⟨s,j1,j2⟩:=WS hmet s1 s2;obtain⟨t1,a1,a2⟩:=Y1 G hp hmet hin n y1 (by lia) b1 v1 s r1 j1;obtain⟨t,c1,c2⟩:=Y1 G hp hmet hin n y2 (by lia) b2 t1 v2 (j2.trans a2) r2;exact#[t,a1.trans c1,c2]
def Met(ps:List zp):Prop:=∀t ∈ ovA ps ps.length,∃f,Rws ps (pkA ps t) f/\Rws ps (pkB ps t) f
theorem zbr(G:OG l ws k)(hp:Dwn k l ws ps)(hmet:Met ps){x v1 v2:List Nat}(hx:∀c ∈ x,c ∈ l)(h1:Rws ps x v1)(h2:Rws ps x v2):∃t,Rws ps v1 t/\Rws ps v2 t:=by
 obtain⟨Ws,hin⟩:=VC G x;exact Y1 G hp hmet hin _ x (eh _) #[hx,.inl rfl] v1 v2 h1 h2
theorem zcV(G:OG l ws k)(hp:Dwn k l ws ps)(hmet:Met ps){u v:List Nat}(h:EqR ps u v):(∀c ∈ u,c ∈ l)->∃t,Rws ps u t/\Rws ps v t:=by
 induction h with
 | refl u=>exact λ_=>#[u,.nil,.nil]
 | symm h ih =>
  intro hu;obtain⟨t,h1,h2⟩:=ih ((Qs hp h).mpr hu);exact#[t,h2,h1]
 | trans h _ i1 i2 =>
  intro hu;have hv:=(Qs hp h).mp hu;obtain⟨t1,a1,a2⟩:=i1 hu;obtain⟨t2,b1,b2⟩:=i2 hv;obtain⟨t,c1,c2⟩:=zbr G hp hmet hv a2 b1;exact#[t,a1.trans c1,b2.trans c2]
 | one h=>exact λ_=>#[_,.one h,.nil]
end
section
variable{k:Nat}{l:List Nat}{ws:List Int}{es fs:List Ent}
end
theorem zd2(h:unG ps 40=[]):Met ps:=λt ht=>by
 have hm:Jh ps 40 t=AM:=by
  cases e:Jh ps 40 t with
  | true=>rfl
  | false =>
   have:t ∈ unG ps 40:=AY.mpr #[ht,by rw[e];rfl];rw[h]at this;cases this
 have e:zcL ps 40 (pkA ps t)=zcL ps 40 (pkB ps t):=of_decide_eq_true hm;refine#[zcL ps 40 (pkA ps t),qy _,?_];rw[e];exact qy _
theorem zbN{k n:Nat}{l:List Nat}{kept fresh es:List Ent}{w:Bool}(h:Cpl k l ns n kept fresh w es):w=AM->Met (zb es):=by
 induction h with
 | out kept fresh=>exact λe=>by cases e
 | slim _=>exact λe=>by cases e
 | far _ _ _ _=>exact λe=>by cases e
 | whole _ _ _ hu=>exact λ_=>zd2 hu
 | more _ _ _ _ _ ih=>exact ih
theorem UM{R:List Nat->List Nat->Prop}(hR:W0 R){k n:Nat}{l:List Nat}{kept fresh es:List Ent}{w:Bool}(h:Cpl k l ns n kept fresh w es):w=AM->vz R es->vz R fresh:=by
 induction h with
 | out kept fresh=>exact λe=>by cases e
 | slim _=>exact λe=>by cases e
 | far _ _ _ _=>exact λe=>by cases e
 | whole h _ _ _=>exact λ_ hk=>(zaD hR h _ rfl).mp hk
 | more h _ _ _ _ ih=>exact λe hk=>(zaD hR h _ rfl).mp λx hx=>ih e hk x (bi _ hx)
theorem V7{i:Nat}{p:zp}(h:rs[i]? = AK p):∀{n:Nat},i<n->fE i p ∈ fEs rs n
 | n+1,hi=>by
  show _ ∈ fEs rs n ++ ((rs[n]?).map (fE n)).toList;rcases Nat.lt_succ_iff_lt_or_eq.mp hi with hi | rfl
  ·exact bi _ (V7 h hi)
  ·rw[h];exact aC _ ax
def WP(K:rT):List V->Hp->VK->Prop:=λxs H Q=>∃p ys,xs=[.ref p]/\(SqL K H p ys\/SqT K H p ys)/\∀l,H l=AL->Q (.ref l) (upd H l (.lst ys))
structure TabAt(H:Hp)(t:rV)(rs:List rV)(tab:List (List Int)):Prop where
 top:H t=AK (.lst (rs.map V.ref))
 len:rs.length=tab.length
 row:∀(i:Nat) (r:rV) (x:List Int),rs[i]? = AK r->tab[i]? = AK x->H r=AK (.lst (x.map V.int))
theorem TabAt.same{H H':Hp}{t:rV}{rs:List rV}{tab:List (List Int)}(h:TabAt H t rs tab)(e:Same H H'):TabAt H' t rs tab:=#[e _ _ h.top,h.len,λi r x h1 h2=>e _ _ (h.row i r x h1 h2)]
structure wy(l:List Nat)(tab:List (List Int)):Prop where
 lo:1<=tab.length
 hi:tab.length<=8
 wd:∀x ∈ tab,x.length=l.length
 rm:∀x ∈ tab,∀n ∈ x,0<=n/\n<(tab.length:Int)
theorem TabAt.get{t:rV}{rs:List rV}{tab:List (List Int)}(h:TabAt H t rs tab){i:Int}(h0:0<=i)(h1:i<(tab.length:Int)):∃r x,atI (rs.map V.ref) i=AK (.ref r)/\tab[i.toNat]? = AK x/\H r=AK (.lst (x.map V.int)):=by
 have hl:=h.len;obtain⟨v,e1,e2⟩:=uR (xs:=rs.map V.ref) h0 (by rw[ag];lia);rw[au]at e2;obtain⟨r,hr,rfl⟩:=AX.mp e2;have hx:tab[i.toNat]? = AK (tab[i.toNat]'(by lia)):=ah (by lia);exact#[r,_,e1,hx,h.row _ _ _ hr hx]
theorem Vx{t:rV}{rs:List rV}{tab:List (List Int)}{σ:L2.St}{D:rV}{g:TG}(hg:g=yD 0)(h:TabAt H t rs tab)(hb:tab.length<=1000)(hD:H D=AL)(q:∀(rs':List rV) (H':Hp),Same H H'->TabAt H' D rs' tab->(∀r ∈ D::rs',H r=AL)->D ∉ rs'->Q (.ref D) H') :
  CompL K t g vG (tCB (WP K) (zL (yk 0) xT)) 1 [] σ H Q D:=by
 have s16:=zQ;have hl:=h.len;subst hg;refine CompL.by (xs:=rs.map V.ref) (λi AR H'=>∃rs':List rV,AR=rs'.map V.ref/\rs'.length=i/\Same H H'/\H' D=AK (.lst AR)/\(∀r ∈ rs',H r=AL/\r≠D)/\∀(j:Nat) (r:rV) (x:List Int),rs'[j]? = AK r->tab[j]? = AK x->H' r=AK (.lst (x.map V.int))) #[[],rfl,rfl,zc hD,ze,λr h=>(nomatch h),λj r x h=>by simp at h] (λi AR H' _ h'=>by obtain⟨_,_,_,hs,_⟩:=h';exact SqL.of (hs _ _ h.top)) ?_ ?_
 ·rintro i v AR H' hv ⟨rs',rfl,hi,hs,hH,hf,hr⟩;rw[au]at hv;obtain⟨r,hr0,rfl⟩:=AX.mp hv;have hil:=(AS.mp hr0).1;have hx:tab[i]? = AK (tab[i]'(by lia)):=ah (by lia);generalize tab[i]'(by lia)=x at hx;have hrow:=hs _ _ (h.row i r x hr0 hx);simp only[vG]
  rfl'
  simp only[WP]
  rfl'
  refine#[wx,_,.inl (SqL.of hrow),λp hp=>#[zc hp _ _ hH,by rw[ag];lia,CNx.mk (by rw[ag];lia) #[rs' ++ [p],by rw[aA];rfl,by rw[aj,hi];rfl,zI (hs.trans (zc hp)) hD,ze,?_,?_]]]
  ·intro r' hr';rcases AU.mp hr' with h' | h'
   ·exact hf r' h'
   ·rw[AW.mp h'];refine#[?_,λe=>by rw[e]at hp;rw[hp]at hH;cases hH]
    cases e:H p with
    | none=>rfl
    | some o=>have:=hs _ _ e;rw[hp]at this;cases this
  ·intro j r' x' h1 h2;by_cases hj:j<i
   ·rw[bz (by lia)]at h1;have hm:=hf r' (af h1);rw[zm hm.2];exact zc hp _ _ (hr j r' x' h1 h2)
   ·rw[bx (by lia)]at h1
    have hj0:j=i:=by
     have:=(AS.mp h1).1;simp at this;lia
    subst hj0;rw[hi,eK]at h1;cases h1;rw[hx]at h2;cases h2;rw[zm (λe=>by rw[e]at hp;rw[hp]at hH;cases hH)];exact ze
 ·rintro AR H' ⟨rs',rfl,hi,hs,hH,hf,hr⟩;rw[ag]at hi
  exact q rs' H' hs #[hH,by lia,hr] (λr hr'=>by
   rcases AV.mp hr' with rfl | h'
   ·exact hD
   ·exact (hf r h').1) λh'=>(hf D h').2 rfl
theorem UH{t:rV}{rs:List rV}{tab:List (List Int)}{σ:L2.St}{D:rV}{g:TG}(hg:g=yD 0)(h:TabAt H t rs tab)(hb:tab.length<=1000)(hD:H D=AL)(q:∀(rs':List rV) (H':Hp),Same H H'->TabAt H' D rs' tab->(∀r ∈ D::rs',H r=AL)->Q (.ref D) H') :
  CompL K t g vG (tCB (WP K) (zL (yk 0) xT)) 1 [] σ H Q D :=
 Vx hg h hb hD λrs' H' s' t' f' _=>q rs' H' s' t' f'
structure zdl(K:rT)(mg:si->Option rW)(C:rV):Prop where
 xi:XI K C
 ini:ac K (.ref C) "__init__" = AK (AK (.builtin "ValueError.__init__"))
 g:mg "NoWorld" = AK (.ref C)
 most:∃t,mg "MOST_ROOMS" = AK (.int 8 t)
def qN:Sp:=λvs H Q _=>∃(l:List Nat) (a:rV) (rs:List rV) (tab:List (List Int)),vs=[.str (tx l),.ref a]/\l.length<=6/\TabAt H a rs tab/\wy l tab/\∀(t:rV) (rs':List rV) (H':Hp),Same H H'->TabAt H' t rs' tab->(∀r ∈ t::rs',H r=AL)->Q (.ref t) H'
theorem mN:zk ["letters","table","row","room"] ["letters","table"] (zh vf):=by nofun
theorem Xs{f CQ:rV}(B:Bt mg)(TNw:zdl K mg CQ)(F:Fun K "table_of" "table_of" vf f fd) : zP P w K mg base (CXx P w) 1 f fd ["letters","table"] qN:=by
 obtain⟨t6,g6⟩:=TNw.most
 exists Fun.okX F mN,0
 ·obtain⟨l,a,rs,tab,rfl,hl6,hT,hG,q⟩:=h
  refine#[_,(zi (zM (yv (v0 xP xP zg (zC B.len (pv 1)) (yn (v:=.int 8) rfl g6 #[t6,rfl])))
    (zf (z6 hx rfl TNw.xi.toXC TNw.ini rfl TNw.g (za zY zd)))
    zw)
   (zi (zX PassesOwn.leaving rfl (yw (pv 1)) (zx (i:=2) mN.nd rfl (.inl rfl))
    (zG (zM (zy Yy (zC B.len (pv 2)) (zC B.len (pv 0)) (zB _))
     (zf (z6 hx rfl TNw.xi.toXC TNw.ini rfl TNw.g (za zY zd)))
     zw)
    (zf (zX PassesOwn.leaving rfl (yw (pv 2)) (zx (i:=3) mN.nd rfl (.inl rfl))
     (zf (zM (yv (v0 xP zaO zg (pv 3) (zC B.len (pv 1))))
      (zf (z6 hx rfl TNw.xi.toXC TNw.ini rfl TNw.g (za zY zd)))
      zw))))))
   (zf (zl (wv (own:=["row"]) (caps:=[]) (ix:=[]) (tt:=vG) (te:=(tCB (WP K) (zL (yk 0) xT))) rfl (zZ (sc:=zh vf) rfl (by symm) (by symm) (by symm) rfl (by symm) (by symm) rfl) (yw (pv 1)) (λ_ _ _ _ _ _=>zx (i:=0) (show List.Nodup [_] by decide) rfl (.inl rfl)) (λ_ _ _ _ _ _=>yY) (λ_ _ _ _ _ _=>(xl yS rfl B.list PySem.Pv.boot_list (za (pv 0) zd)))))))),?_]
  have s16:=zQ;have hlen:=hT.len;have hlo:=hG.lo;have hhi:=hG.hi;refine zj (λσ H'=>H'=H/\σ=[AK (.str (tx l)),AK (.ref a),AL,AL]) ?_ ?_
  ·ac_rfl;exact#[_,.inl #[_,SqL.of hT.top,rfl],yx (λ_=>yx (λh=>absurd (by rw[ag];lia) h) λ_=>trivial) λh=>absurd (by rw[ag];lia) h]
  rintro σ H1 ⟨rfl,rfl⟩:_;right;refine zj (λσ H'=>H'=H1/\∃v2 v3,σ=[AK (.str (tx l)),AK (.ref a),v2,v3]) ?_ ?_
  ·ac_rfl;refine#[#[_,SqL.of hT.top],ForL.by (xs:=rs.map V.ref) (λi σ H'=>H'=H1/\∃v2 v3,σ=[AK (.str (tx l)),AK (.ref a),v2,v3]) #[rfl,AL,AL,rfl] (λi σ H' _ h=>by rw[h.1];exact SqL.of hT.top) ?_ λσ H' h=>h];rintro i y σ H' hy ⟨rfl,v2,v3,rfl⟩;rw[au]at hy;obtain⟨r,hr,rfl⟩:=AX.mp hy;have hil:=(AS.mp hr).1;have hx:tab[i]? = AK (tab[i]'(by lia)):=ah (by lia);generalize tab[i]'(by lia)=x at hx;have hrow:=hT.row i r x hr hx;have hmx:=af hx;have hw:=hG.wd x hmx;ac_rfl;refine#[_,.inl #[_,SqL.of hrow,rfl],by lia,yx (λh=>absurd (by rw[ag];lia) h) λ_=>#[#[_,SqL.of hrow],ForL.by (xs:=x.map V.int) (λi σ H''=>H''=H'/\∃v2 v3,σ=[AK (.str (tx l)),AK (.ref a),v2,v3]) #[rfl,_,_,rfl] (λi σ H'' _ h=>by rw[h.1];exact SqL.of hrow) ?_ λσ H' h=>h]];rintro j y σ H'' hy ⟨rfl,v2,v3,rfl⟩;rw[au]at hy;obtain⟨n,hn,rfl⟩:=AX.mp hy;obtain⟨n1,n2⟩:=hG.rm x hmx n (af hn);ac_rfl;exact yx (λ_=>#[_,.inl #[_,SqL.of hT.top,rfl],yx (λh=>absurd (by rw[ag];lia) h) λ_=>trivial]) λh=>absurd n1 h
  rintro σ H2 ⟨rfl,v2,v3,rfl⟩:_;right;ac_rfl;exact#[#[_,SqL.of hT.top],λD hD=>UH rfl hT (by lia) hD λrs' H' s' t' f'=>q D rs' H' s' t' f']
structure KZ(K:rT)(mg:si->Option rW)(CV:rV):Prop where
 cl:Cls K CV
 g:mg "World" = AK (.ref CV)
 nl:NoAttr K CV "letters"
 nt:NoAttr K CV "table"
def WorAt(CV:rV)(H:Hp)(o:rV)(l:List Nat)(t:rV)(rs:List rV)(tab:List (List Int)):Prop:=∃dx,H o=AK (.ins CV dx [("letters",.str (tx l)),("table",.ref t)])/\TabAt H t rs tab
theorem WorAt.same{CV:rV}{H H':Hp}{o t:rV}{l:List Nat}{rs:List rV}{tab:List (List Int)}(h:WorAt CV H o l t rs tab)(e:Same H H'):WorAt CV H' o l t rs tab:=by
 obtain⟨dx,h1,h2⟩:=h;exact#[dx,e _ _ h1,h2.same e]
theorem TabAt.updI{p C dx t:rV}{fs gs:List (si × V)}{rs:List rV}{tab:List (List Int)}(hp:H p=AK (.ins C dx fs))(h:TabAt H t rs tab):TabAt (upd H p (.ins C dx gs)) t rs tab:=by
 refine#[?_,h.len,λi r x h1 h2=>?_]
 ·rw[zm (λe=>by have:=h.top;rw[e,hp]at this;cases this)];exact h.top
 ·have h3:=h.row i r x h1 h2;rw[zm (λe=>by rw[e,hp]at h3;cases h3)];exact h3
def ub(CV:rV):Sp:=λvs H Q _=>∃(x dx a:rV) (l:List Nat) (rs:List rV) (tab:List (List Int)),vs=[.ref x,.str (tx l),.ref a]/\uu l=AM/\TabAt H a rs tab/\wy l tab/\H x=AK (.ins CV dx []) /\
 ∀(t:rV) (rs':List rV) (H':Hp),(∀b o,b≠x->H b=AK o->H' b=AK o)->(∀r ∈ t::rs',H r=AL)->WorAt CV H' x l t rs' tab->Q .non H'
theorem Zq:zk ["self","letters","table"] ["self","letters","table"] (zh wD):=by nofun
theorem Zj{f C CV:rV}(B:Bt mg)(CLw:KZ K mg CV)(F:Fun K "__init__" "World.__init__" wD f fd)(md:Df P w K mg base (CXx P w) 2 "letters_of" ["text"] [] (wq C))(rb:Df P w K mg base (CXx P w) 1 "table_of" ["letters","table"] [] qN):zP P w K mg base (CXx P w) 4 f fd ["self","letters","table"] (ub CV):=by
 exists Fun.okX F Zq,0
 ·obtain⟨x,dx,a,l,rs,tab,rfl,hg,hT,hG,hX,q⟩:=h
  refine#[_,(zi (kg (pv 0) (clP hx md hr .nil rfl (za (pv 1) zd)) rfl)
   (zf (kg (pv 0) (clP hx rb hr .nil rfl (za (pv 1) (za (pv 2) zd))) rfl))),?_]
  have s16:=zQ;have hg':=of_decide_eq_true hg;refine zj (λσ H'=>H'=upd H x (.ins CV dx [("letters",.str (tx l))])/\σ=[AK (.ref x),AK (.str (tx l)),AK (.ref a)]) ?_ ?_
  ·ac_rfl;exact#[l,rfl,by lia,λ_=>#[_,_,_,hX,CLw.cl,CLw.nl,by decide,rfl],λe=>by rw[hg]at e;cases e]
  rintro σ H1 ⟨rfl,rfl⟩:_;right;ac_rfl;refine#[l,a,rs,tab,rfl,by lia,hT.updI hX,hG,λt rs' H' s' t' f'=>?_];have hX2:=s' _ _ (ze (H:=H) (a:=x) (o:=.ins CV dx [("letters",.str (tx l))]))
  have fr:∀r ∈ t::rs',H r=AL/\r≠x:=λr hr'=>by
   have h1:=f' r hr';have h2:r≠x:=λe=>by rw[e,ze]at h1;cases h1
   rw[zm h2]at h1;exact#[h1,h2]
  exact#[_,_,_,hX2,CLw.cl,CLw.nt,by show 1<1000;decide,q t rs' _ (λb o hb e=>by rw[zm hb];exact s' _ _ (by rw[zm hb];exact e)) (λr hr'=>(fr r hr').1) #[dx,ze,t'.updI hX2]]
theorem QA{CV a:rV}{l:List Nat}{rs:List rV}{tab:List (List Int)}{R:rV->Hp->Prop}(hg:uu l=AM)(hT:TabAt H a rs tab)(hG:wy l tab)(q:∀(x t:rV) (rs':List rV) (H':Hp),Same H H'->H x=AL->(∀r ∈ t::rs',H r=AL)->WorAt CV H' x l t rs' tab->R x H') :
  ∀x dx,H x=AL->H dx=AL->dx≠x->ub CV [.ref x,.str (tx l),.ref a] (upd (upd H dx (.own x)) x (.ins CV dx [])) (λv H2=>v=.non/\R x H2) E:=by
 intro x dx hx hdx hne;have sd:=zc (o:=.own x) hdx;have hx1:(upd H dx (.own x)) x=AL:=by rw[zm hne.symm];exact hx
 have sx:=sd.trans (zc (o:=.ins CV dx []) hx1);refine#[x,dx,a,l,rs,tab,rfl,hg,hT.same sx,hG,ze,λt rs' H' k f hc=>#[rfl,q x t rs' H' (λb o e=>k b o (zF e hx) (sx b o e)) hx (λr hr=>?_) hc]]
 cases e:H r with
 | none=>rfl
 | some o=>have:=sx _ _ e;rw[f r hr]at this;cases this
def qh(CV:rV):Sp:=λvs H Q _=>∃(o t:rV) (l:List Nat) (rs:List rV) (tab:List (List Int)),vs=[.ref o]/\WorAt CV H o l t rs tab/\Q (.int (tab.length:Nat)) H
theorem jT:zk ["self"] ["self"] (zh wl):=by nofun
theorem jQ{f CV:rV}(B:Bt mg)(CLw:KZ K mg CV)(F:Fun K "rooms" "World.rooms" wl f fd) : zP P w K mg base CX0 1 f fd ["self"] (qh CV):=by
 exists F.ok jT
 ·obtain⟨o,t,l,rs,tab,rfl,hW,q⟩:=h;refine#[_,(zf (zl (zC B.len (vW (pv 0) rfl)))),?_];have s16:=zQ
  rfl'
  obtain⟨dx,ho,hT⟩:=hW;exact#[_,_,_,ho,CLw.cl,CLw.nt,_,rfl,_,.inl #[_,SqL.of hT.top,rfl],by rw[ag,hT.len];exact q]
theorem Qm{CV o t:rV}{l:List Nat}{rs:List rV}{tab:List (List Int)}(h:WorAt CV H o l t rs tab)(q:Q (.int (tab.length:Nat)) H):qh CV [.ref o] H Q E:=#[o,t,l,rs,tab,rfl,h,q]
noncomputable def jS(l:List Nat)(tab:List (List Int))(r:Int)(c:Nat):Int:=(tab.getD r.toNat []).getD (l.idxOf c) 0
noncomputable def ui(l:List Nat)(tab:List (List Int))(r:Int)(w:List Nat):Int:=w.foldl (jS l tab) r
theorem JM{l:List Nat}{tab:List (List Int)}(hG:wy l tab){r:Int}(h0:0<=r)(h1:r<(tab.length:Int)){c:Nat}(hc:c ∈ l):0<=jS l tab r c/\jS l tab r c<(tab.length:Int):=by
 have hx:tab[r.toNat]? = AK (tab[r.toNat]'(by lia)):=ah (by lia);generalize tab[r.toNat]'(by lia)=x at hx;have hm:=af hx;have hi:=bD hc;rw[<- hG.wd x hm]at hi;have hn:x[l.idxOf c]? = AK x[l.idxOf c]:=ah hi;unfold jS;rw[ae (l:=tab),hx,dq,ae,hn,dq];exact hG.rm x hm _ (af hn)
theorem Q4{l:List Nat}{tab:List (List Int)}(hG:wy l tab):∀{w:List Nat} {r:Int},0<=r->r<(tab.length:Int)->(∀c ∈ w,c ∈ l)->0<=ui l tab r w/\ui l tab r w<(tab.length:Int)
 | [],r,h0,h1,_=>#[h0,h1]
 | c::w,r,h0,h1,hw=>by
  obtain⟨a,b⟩:=JM hG h0 h1 (hw c (by simp));exact Q4 hG (w:=w) a b λx hx=>hw x (by simp [hx])
theorem QI{l:List Nat}{tab:List (List Int)}{r:Int}{w:List Nat}{i c:Nat}(h:w[i]? = AK c):ui l tab r (w.take (i+1))=jS l tab (ui l tab r (w.take i)) c:=by
 unfold ui;rw[z7 h,List.foldl_append];rfl
theorem zdf{l:List Nat}{tab:List (List Int)}(hG:wy l tab){r:Int}{x:List Int}(hx:tab[r.toNat]? = AK x){c:Nat}(hc:c ∈ l):atI (x.map V.int) ((l.idxOf c:Nat):Int)=AK (.int (jS l tab r c)):=by
 have hm:=af hx;have hi:=bD hc;rw[<- hG.wd x hm]at hi;have hn:x[l.idxOf c]? = AK x[l.idxOf c]:=ah hi;refine Qb ?_;unfold jS;rw[au,hn,ae (l:=tab),hx,dq,ae,hn];rfl
def jk(CV:rV):Sp:=λvs H Q _=>∃(o t:rV) (l:List Nat) (rs:List rV) (tab:List (List Int)) (r:Int) (w:List Nat),vs=[.ref o,.int r,.str (tx w)]/\WorAt CV H o l t rs tab/\wy l tab/\0<=r/\r<(tab.length:Int)/\(∀c ∈ w,c ∈ l)/\Q (.int (ui l tab r w)) H
theorem mf:zk ["self","room","word","letter"] ["self","room","word"] (zh vC):=by nofun
theorem Yl{f CV:rV}(B:Bt mg)(CLw:KZ K mg CV)(F:Fun K "led" "World.led" vC f fd) : zP P w K mg base CX0 1 f fd ["self","room","word"] (jk CV):=by
 exists F.ok mf
 ·obtain⟨o,t,l,rs,tab,r,w,rfl,hW,hG,h0,h1,hw,q⟩:=h
  refine#[_,(zG (zX PassesOwn.never rfl (QE (pv 2)) (zx (i:=3) mf.nd rfl (.inl rfl))
    (zf (zD 1 mf.nd (zo ix_list (zo ix_list (vW (pv 0) rfl) (pv 1)) (uX cw eX eY UX (vW (pv 0) rfl) (za (pv 3) zd))))))
   (zf (zl (pv 1)))),?_]
  have s16:=zQ
  rfl'
  obtain⟨dx,ho,hT⟩:=hW;refine ForS.by (λi σ H'=>H'=H/\∃v3,σ=[AK (.ref o),AK (.int (ui l tab r (w.take i))),AK (.str (tx w)),v3]) #[rfl,AL,rfl] ?_ ?_
  ·rintro i c σ H' hc ⟨rfl,v3,rfl⟩;have hcl:=hw c (af hc);obtain⟨a,b⟩:=Q4 hG (w:=w.take i) h0 h1 λx hx=>hw x (aZ hx);obtain⟨r',x,e1,e2,e3⟩:=hT.get a b;ac_rfl;exact#[_,_,_,ho,CLw.cl,CLw.nt,_,rfl,_,rfl,_,SqL.of hT.top,_,e1,_,_,_,ho,CLw.cl,CLw.nl,_,rfl,trivial,_,rfl,_,zaK hcl,_,rfl,_,SqL.of e3,by rw[QI hc];exact zdf hG e2 hcl]
  ·rintro σ H' ⟨rfl,v3,rfl⟩
   rfl'
   rw[aO];exact q
theorem qg{CV o t:rV}{l:List Nat}{rs:List rV}{tab:List (List Int)}{r:Int}{w:List Nat}(h:WorAt CV H o l t rs tab)(hG:wy l tab)(h0:0<=r)(h1:r<(tab.length:Int))(hw:∀c ∈ w,c ∈ l)(q:Q (.int (ui l tab r w)) H):jk CV [.ref o,.int r,.str (tx w)] H Q E:=#[o,t,l,rs,tab,r,w,rfl,h,hG,h0,h1,hw,q]
noncomputable def vk(l:List Nat)(tab:List (List Int))(u v:List Nat):Option Nat:=(aK tab.length).find? λr=>decide (ui l tab (r:Int) u≠ui l tab (r:Int) v)
noncomputable def vO:Option Nat->V
 | none=>.non
 | some r=>.int (r:Nat)
theorem QC{l:List Nat}{tab:List (List Int)}{u v:List Nat}{r:Nat}(h1:r<tab.length)(h2:ui l tab (r:Int) u≠ui l tab (r:Int) v)(h3:∀j:Nat,j<r->ui l tab (j:Int) u=ui l tab (j:Int) v):vk l tab u v=AK r:=by
 unfold vk;rw[List.find?_eq_some_iff_getElem];refine#[by simpa using h2,r,by simpa using h1,by simp,λj hj=>?_];simpa using h3 j hj
theorem V4{l:List Nat}{tab:List (List Int)}{u v:List Nat}(h:∀j:Nat,j<tab.length->ui l tab (j:Int) u=ui l tab (j:Int) v):vk l tab u v=AL:=by
 unfold vk;rw[dX];intro j hj;simpa using h j (by simpa using hj)
def vd(CV:rV):Sp:=λvs H Q _=>∃(o t:rV) (l:List Nat) (rs:List rV) (tab:List (List Int)) (u v:List Nat),vs=[.ref o,.str (tx u),.str (tx v)]/\WorAt CV H o l t rs tab/\wy l tab/\(∀c ∈ u,c ∈ l)/\(∀c ∈ v,c ∈ l)/\Q (vO (vk l tab u v)) H
theorem YU{CV o t:rV}{l:List Nat}{rs:List rV}{tab:List (List Int)}{u v:List Nat}(h:WorAt CV H o l t rs tab)(hG:wy l tab)(hu:∀c ∈ u,c ∈ l)(hv:∀c ∈ v,c ∈ l)(q:Q (vO (vk l tab u v)) H):vd CV [.ref o,.str (tx u),.str (tx v)] H Q E:=#[o,t,l,rs,tab,u,v,rfl,h,hG,hu,hv,q]
theorem mJ:zk ["self","one","other","room"] ["self","one","other"] (zh xF):=by nofun
theorem jl{f CV:rV}(B:Bt mg)(CL:KZ K mg CV)(F:Fun K "parted" "World.parted" xF f fd)(M_world_rooms:DM P w K mg base CX0 1 CV "rooms" ["self"] (qh CV))(M_world_led:DM P w K mg base CX0 1 CV "led" ["self","room","word"] (jk CV)):zP P w K mg base CX0 2 f fd ["self","one","other"] (vd CV):=by
 exists F.ok mJ
 ·obtain⟨o,t,l,rs,tab,u,v,rfl,hW,hG,hu,hv,q⟩:=h
  refine#[_,(zG (zX PassesOwn.never rfl (yo rfl B.range (za (me0 M_world_rooms CL.cl hr (pv 0)) zd)) (zx (i:=3) mJ.nd rfl (.inl rfl))
    (zf (zM (zy Yy (me1 M_world_led CL.cl hr (pv 0) (za (pv 3) (za (pv 1) zd))) (me1 M_world_led CL.cl hr (pv 0) (za (pv 3) (za (pv 2) zd))) (zB _))
     (zf (zl (pv 3)))
     zw)))
   (zf (zl yd))),?_]
  have s16:=zQ
  rfl'
  obtain⟨dx,ho,hT⟩:=id hW;have hhi:=hG.hi;refine#[_,_,ho,rfl,Qm hW ?_];refine#[_,rfl,by lia,by lia,ForR.by (λi σ H'=>H'=H/\(∀j:Nat,j<i->ui l tab (j:Int) u=ui l tab (j:Int) v)/\∃v3,σ=[AK (.ref o),AK (.str (tx u)),AK (.str (tx v)),v3]) #[rfl,λj h=>absurd h (cf j),AL,rfl] ?_ ?_]
  ·rintro i σ H' hi ⟨rfl,hb,v3,rfl⟩;have hi':i<tab.length:=by lia
   have e0:(0:Int)+(i:Int)=(i:Int):=by lia
   ac_rfl;refine#[_,_,ho,rfl,qg hW hG (by lia) (by lia) hu #[_,_,ho,rfl,qg hW hG (by lia) (by lia) hv ?_]];rw[e0];ac_rfl;refine yx (λh=>?_) λh j hj=>?_
   ·rw[QC hi' h hb]at q;exact q
   ·by_cases hj':j<i
    ·exact hb j hj'
    ·have:j=i:=by lia
     rw[this];exact Decidable.not_not.mp h
  ·rintro σ H' ⟨rfl,hb,v3,rfl⟩;ac_rfl;rw[V4 λj hj=>hb j (by lia)]at q;exact q
noncomputable def xN(l:List Nat)(tab:List (List Int)):List zp->Nat->Option (Nat × Nat)
 | [],_=>AL
 | p::ps,i=>match vk l tab p.1 p.2 with
  | some r=>AK (i,r)
  | none=>xN l tab ps (i+1)
theorem jY{l:List Nat}{tab:List (List Int)}:∀{ps:List zp} {i k:Nat} {p:zp},ps[i]? = AK p->(∀(j:Nat) (q:zp),j<i->ps[j]? = AK q->vk l tab q.1 q.2=AL)->∀r,vk l tab p.1 p.2=AK r->xN l tab ps k=AK (k+i,r)
 | q::ps,0,k,p,h,_,r,hr=>by
  cases h;simp only[xN,hr,Nat.add_zero]
 | q::ps,i+1,k,p,h,hb,r,hr=>by
  have h0:=hb 0 q (by lia) rfl;simp only[xN,h0];rw[jY (ps:=ps) (i:=i) (k:=k+1) h (λj q' hj e=>hb (j+1) q' (by lia) e) r hr];congr 2;lia
theorem j9{l:List Nat}{tab:List (List Int)}:∀{ps:List zp} {k:Nat},(∀(j:Nat) (q:zp),ps[j]? = AK q->vk l tab q.1 q.2=AL)->xN l tab ps k=AL
 | [],_,_=>rfl
 | q::ps,k,hb=>by
  simp only[xN,hb 0 q rfl];exact j9 λj q' e=>hb (j+1) q' e
def uo(K:rT)(CV:rV):Sp:=λvs H Q _=>∃(o t a:rV) (l:List Nat) (rs:List rV) (tab:List (List Int)) (ps:List zp),vs=[.ref o,.ref a]/\LsA K H a (ps.map dR)/\WorAt CV H o l t rs tab/\wy l tab/\(∀p ∈ ps,(∀c ∈ p.1,c ∈ l)/\∀c ∈ p.2,c ∈ l) /\
 (xN l tab ps 0=AL->∀H',Same H H'->Q .non H')/\∀i r,xN l tab ps 0=AK (i,r)->∀p H',Same H H'->H' p=AK (.tup [.int (i:Nat),.int (r:Nat)])->Q (.ref p) H'
theorem gX:zk ["self","pacts","number","pact","room"] ["self","pacts"] (zh xv):=by nofun
theorem qZ{f CV:rV}(B:Bt mg)(CL:KZ K mg CV)(F:Fun K "broken" "World.broken" xv f fd)(M_world_parted:DM P w K mg base CX0 2 CV "parted" ["self","one","other"] (vd CV)):zP P w K mg base CX0 3 f fd ["self","pacts"] (uo K CV):=by
 exists F.ok gX
 ·obtain⟨o,t,a,l,rs,tab,ps,rfl,hA,hW,hG,hp,q1,q2⟩:=h
  refine#[_,(zG (zX PassesOwn.never rfl (xY rfl B.enum (za (pv 1) zd)) (vU (n:=2) rfl (zO (zx (i:=2) gX.nd rfl (.inl rfl)) (zO (zx (i:=3) gX.nd rfl (.inl rfl)) wo)))
    (zG (zD 4 gX.nd (me1 M_world_parted CL.cl hr (pv 0) (za (zo ix_tup (pv 3) zg) (za (zo ix_tup (pv 3) zg) zd))))
    (zf (zM (zy op_notN' (pv 4) yd (zB _))
     (zf (zl (zR (za (pv 2) (za (pv 4) zd)))))
     zw))))
   (zf (zl yd))),?_]
  have s16:=zQ
  rfl'
  obtain⟨xs,hX,hI⟩:=id hA;have hXL:=hI.len;rw[ag]at hXL;refine#[#[_,SqL.of hX],ForEL.by (xs:=xs) (λi σ H'=>Same H H'/\(∀(j:Nat) (p:zp),j<i->ps[j]? = AK p->vk l tab p.1 p.2=AL)/\∃v2 v3 v4,σ=[AK (.ref o),AK (.ref a),v2,v3,v4]) #[Same.refl _,λj p h=>absurd h (cf j),_,_,_,rfl] ?_ ?_ ?_]
  ·rintro i σ H' _ ⟨hs,_⟩;exact SqL.of (hs _ _ hX)
  ·rintro i x σ H' p hx ⟨hs,hb,v2,v3,v4,rfl⟩ hpn;obtain⟨r,pr,hri,rfl,hqr⟩:=hI.getR hx;have hm:=hp r (af hri);have s2:=hs.trans (zc (o:=.tup [.int (i:Nat),.ref pr]) hpn);have hW2:=hW.same s2;obtain⟨dx,ho,_⟩:=id hW2;have hq2:=zv s2 hqr;ac_rfl;refine#[_,SqT.of ze,rfl,_,_,rfl,_,_,rfl,rfl,_,_,ho,rfl,_,rfl,_,hq2,_,rfl,_,rfl,_,hq2,_,rfl,YU hW2 hG hm.1 hm.2 ?_]
   cases e:vk l tab r.1 r.2 with
   | none =>
    simp only[vO];ac_rfl;refine#[s2,λj p' hj hp'=>?_];by_cases hj':j<i
    ·exact hb j p' hj' hp'
    ·have:j=i:=by lia
     rw[this,hri]at hp';cases hp';exact e
   | some z =>
    simp only[vO];ac_rfl;have hbr:=jY (k:=0) hri hb z e;rw[dB]at hbr;exact#[by lia,λp3 hp3=>q2 i z hbr p3 _ (s2.trans (zc hp3)) ze]
  ·rintro σ H' ⟨hs,hb,v2,v3,v4,rfl⟩;ac_rfl;exact q1 (j9 λj p' e=>hb j p' (by have:=(AS.mp e).1;lia) e) H' hs
structure J7(K:rT)(mg:si->Option rW)(CM:rV):Prop where
 xi:XI K CM
 ini:ac K (.ref CM) "__init__" = AK (AK (.builtin "ValueError.__init__"))
 g:mg "TooMany" = AK (.ref CM)
 most:∃t,mg "MOST_TABLES" = AK (.int 1000 t)
theorem zft{n k:Nat}(h1:n<=8)(h2:k<=6):n * k<=48:=e7 h1 h2
def qo:Sp:=λvs H Q _=>∃(l:List Nat) (n:Nat),vs=[.str (tx l),.int (n:Nat)]/\l.length<=6/\n<=8/\Q (.int ((n ^ (n * l.length):Nat):Int)) H
theorem Z0{l:List Nat}(h1:l.length<=6)(h2:n<=8)(q:Q (.int ((n ^ (n * l.length):Nat):Int)) H):qo [.str (tx l),.int (n:Nat)] H Q E:=#[l,n,rfl,h1,h2,q]
theorem Ji(n i:Nat):((n ^ i:Nat):Int) * (n:Int)=((n ^ (i+1):Nat):Int):=by rw[Nat.pow_succ,dD]
theorem ik:zk ["letters","rooms","count","cell"] ["letters","rooms"] (zh x0):=by nofun
theorem jI(B:Bt mg)(F:Fun K "table_count" "table_count" x0 f fd) : zP P w K mg base CX0 1 f fd ["letters","rooms"] qo:=by
 exists F.ok ik
 ·obtain⟨l,n,rfl,h1,h2,q⟩:=h
  refine#[_,(zG (zD 2 ik.nd zg)
   (zG (zX PassesOwn.never rfl (yo rfl B.range (za (zA Ze (pv 1) (zC B.len (pv 0))) zd)) (zx (i:=3) ik.nd rfl (.inl rfl))
    (zf (zD 2 ik.nd (zA Ze (pv 2) (pv 1)))))
   (zf (zl (pv 2))))),?_]
  have s16:=zQ
  rfl'
  have hm:=zft h2 h1;have em:((n:Int) * (l.length:Int))=((n * l.length:Nat):Int):=by rw[dD]
  refine#[by lia,.inl #[by lia,by lia],?_];rw[em];refine#[by lia,by lia,ForR.by (λi σ H'=>H'=H/\∃v3,σ=[AK (.str (tx l)),AK (.int (n:Nat)),AK (.int ((n ^ i:Nat):Int)),v3]) #[rfl,_,rfl] ?_ ?_]
  ·rintro i σ H' hi ⟨rfl,v3,rfl⟩
   rfl'
   exact#[.inr #[by lia,by lia],Ji n i]
  ·rintro σ H' ⟨rfl,v3,rfl⟩
   rfl'
   rw[aJ];exact q
def vT:Sp:=λvs H Q _=>∃(l:List Nat) (n:Nat),vs=[.str (tx l),.int (n:Nat)]/\l.length<=6/\n<=8/\Q (.bl (decide (n ^ (n * l.length)<=1000))) H
theorem j3{l:List Nat}(h1:l.length<=6)(h2:n<=8)(q:Q (.bl (decide (n ^ (n * l.length)<=1000))) H):vT [.str (tx l),.int (n:Nat)] H Q E:=#[l,n,rfl,h1,h2,q]
theorem JW(a:Nat):decide ((a:Int)<=1000)=decide (a<=1000):=by
 by_cases h:a<=1000
 ·rw[decide_eq_true h,decide_eq_true (by lia)]
 ·rw[decide_eq_false h,decide_eq_false (by lia)]
theorem u8:zk ["letters","rooms"] ["letters","rooms"] (zh xo):=by nofun
theorem qd{f CM:rV}(B:Bt mg)(TM:J7 K mg CM)(F:Fun K "tables_within" "tables_within" xo f fd)(lD:Df P w K mg base CX0 1 "table_count" ["letters","rooms"] [] qo):zP P w K mg base CX0 2 f fd ["letters","rooms"] vT:=by
 obtain⟨t9,g9⟩:=TM.most
 exists F.ok u8
 ·obtain⟨l,n,rfl,h1,h2,q⟩:=h;refine#[_,(zf (zl (yX xP (cl0 lD hr .nil rfl (za (pv 0) (za (pv 1) zd))) (yn (v:=.int 1000) rfl g9 #[t9,rfl]) (zB _)))),?_];have s16:=zQ
  rfl'
  refine Z0 h1 h2 ?_
  rfl'
  rw[JW];exact q
noncomputable def jG(n N i:Nat):Int:=((N / n ^ i % n:Nat):Int)
noncomputable def zcG(n k N r:Nat):List Int:=(aK k).map λj=>jG n N (n * k - 1 - (r * k+j))
noncomputable def Vv(n k N:Nat):List (List Int):=(aK n).map λr=>zcG n k N r
theorem zbw{n N i:Nat}(h:1<=n):0<=jG n N i/\jG n N i<(n:Int):=by
 have:=Nat.mod_lt (N / n ^ i) (show 0<n by lia);unfold jG;lia
theorem Zi(n k N:Nat):(Vv n k N).length=n:=by simp [Vv]
theorem XU{l:List Nat}(N:Nat)(h1:1<=n)(h8:n<=8):wy l (Vv n l.length N):=by
 refine#[by rw[Zi];exact h1,by rw[Zi];exact h8,λx hx=>?_,λx hx z hz=>?_]
 ·obtain⟨r,_,rfl⟩:=AT.mp hx;simp [zcG]
 ·obtain⟨r,_,rfl⟩:=AT.mp hx;obtain⟨j,_,rfl⟩:=AT.mp hz;rw[Zi];exact zbw h1
theorem za7{n k N r:Nat}(hr:r<n):((((aK (n * k)).map (jG n N)).reverse).drop (r * k)).take k=zcG n k N r:=by
 have hb:r * k+k<=n * k:=by
  have:=dF k (show r+1<=n by lia);rw[Nat.add_mul,Nat.one_mul]at this;exact this
 apply d9;intro j;by_cases hj:j<k
 ·rw[br hj,dZ,bB (by simp;lia),au,dM (by simp;lia),zcG,au,dM hj];simp
 ·rw[be (by simp [aG];lia),be (by simp [zcG];lia)]
theorem Ja(n N i:Nat):N / n ^ i / n=N / n ^ (i+1):=by rw[Nat.div_div_eq_div_mul,Nat.pow_succ]
def vB:Sp:=λvs H Q _=>∃(l:List Nat) (n N:Nat),vs=[.str (tx l),.int (n:Nat),.int (N:Nat)]/\1<=l.length/\l.length<=6/\1<=n/\n<=8/\∀(t:rV) (rs:List rV) (H':Hp),Same H H'->TabAt H' t rs (Vv n l.length N)->(∀r ∈ t::rs,H r=AL)->Q (.ref t) H'
theorem ZN{l:List Nat}{n N:Nat}(h1:1<=l.length)(h2:l.length<=6)(h3:1<=n)(h4:n<=8)(q:∀(t:rV) (rs:List rV) (H':Hp),Same H H'->TabAt H' t rs (Vv n l.length N)->(∀r ∈ t::rs,H r=AL)->Q (.ref t) H'):vB [.str (tx l),.int (n:Nat),.int (N:Nat)] H Q E:=#[l,n,N,rfl,h1,h2,h3,h4,q]
theorem zaX{n k:Nat}(h1:1<=n)(h2:1<=k):(Builtin.Range.rangeSize 0 ((n * k:Nat):Int) (k:Int)).toNat=n:=by
 have hp:0<n * k:=Nat.mul_pos h1 h2;unfold Builtin.Range.rangeSize;rw[if_pos (by lia),if_pos (by lia)];have e:(((n * k:Nat):Int) - 0 - 1)=((n * k - 1:Nat):Int):=by lia
 have e2:(n * k - 1) / k=n - 1:=by
  obtain⟨m,rfl⟩:∃m,n=m+1:=#[n - 1,by lia];rw[Nat.add_mul,Nat.one_mul,show m * k+k - 1=(k - 1)+m * k by lia,Nat.add_mul_div_right _ _ (by lia),Nat.div_eq_of_lt (by lia)];lia
 rw[e,<- Int.natCast_ediv,e2];lia
theorem Jc{c:rV}{l:List Nat}{n N:Nat}{σ:L2.St}{D:rV}{g:TG}{ix:List Nat}{te:TE}(hg:g=yD 0)(hte:te=tSl (zep K) (yk 1) (Z4 (yk 0)) (Z4 (tOp Ys (yk 0) (tCB (Vz K) (zL (yk 2) xT)))))(hi:vt σ 1 ix=[AL,AK (.ref c),AK (.str (tx l))])
  (hc:H c=AK (.lst ((((aK (n * l.length)).map (jG n N)).reverse).map V.int))) (h1:1<=l.length) (h2:l.length<=6) (h3:1<=n) (h4:n<=8) (hD:H D=AL)
  (q:∀(rs:List rV) (H':Hp),Same H H'->TabAt H' D rs (Vv n l.length N)->(∀r ∈ D::rs,H r=AL)->Q (.ref D) H'):CompK 0 (l.length:Nat) n g vG te 1 ix σ H Q D:=by
 have s16:=zQ;have hmm:=zft h4 h2;subst hg hte;refine CompK.by (λi AR H'=>∃rs:List rV,AR=rs.map V.ref/\rs.length=i/\Same H H'/\H' D=AK (.lst AR)/\(∀r ∈ rs,H r=AL/\r≠D)/\∀(j:Nat) (r:rV),rs[j]? = AK r->H' r=AK (.lst ((zcG n l.length N j).map V.int))) #[[],rfl,rfl,zc hD,ze,λr h=>(nomatch h),λj r h=>by simp at h] ?_ ?_
 ·rintro i AR H' hin ⟨rs,rfl,hrl,hs,hH,hf,hr⟩;have hc':=hs _ _ hc;have ei:(0:Int)+(i:Int) * (l.length:Int)=((i * l.length:Nat):Int):=by rw[Int.zero_add,dD]
  rw[ei];have hil:i * l.length<=48:=aN (dF _ (by lia:i<=n)) hmm;simp only[vG,yD,hi]
  rfl'
  refine#[wx,by lia,_,SqL.of hc',λp hp=>?_];rw[ZW _ (by lia) (by lia)];have e1:(((i * l.length:Nat):Int)).toNat=i * l.length:=aJ _;have e2:(((i * l.length:Nat):Int)+(l.length:Int) - ((i * l.length:Nat):Int)).toNat=l.length:=by lia
  rw[e1,e2,za7 hin];have hpD:p≠D:=λe=>by rw[e]at hp;rw[hp]at hH;cases hH
  refine#[zc hp _ _ hH,by rw[ag];lia,CNx.mk hin #[rs ++ [p],by rw[aA];rfl,by rw[aj,hrl];rfl,zI (hs.trans (zc hp)) hD,ze,λr' hr'=>?_,λj r' h1=>?_]]
  ·rcases AU.mp hr' with h' | h'
   ·exact hf r' h'
   ·rw[AW.mp h'];refine#[?_,hpD]
    cases e:H p with
    | none=>rfl
    | some o=>have:=hs _ _ e;rw[hp]at this;cases this
  ·by_cases hj:j<i
   ·rw[bz (by lia)]at h1;rw[zm (hf r' (af h1)).2];exact zc hp _ _ (hr j r' h1)
   ·rw[bx (by lia)]at h1
    have hj0:j=i:=by
     have:=(AS.mp h1).1;simp at this;lia
    subst hj0;rw[hrl,eK]at h1;cases h1;rw[zm hpD];exact ze
 ·rintro AR H' ⟨rs,rfl,hrl,hs,hH,hf,hr⟩
  refine q rs H' hs #[hH,by rw[Zi,hrl],λi r x h1 h2=>?_] λr hr'=>by
   rcases AV.mp hr' with rfl | h'
   ·exact hD
   ·exact (hf r h').1
  rw[hr i r h1];unfold Vv at h2;rw[au]at h2;obtain⟨z,hz,rfl⟩:=AX.mp h2;have:=(AS.mp hz).2;simp at this;rw[this]
theorem lC:zk ["letters","rooms","number","cells","cell"] ["letters","rooms","number"] (zh ve):=by nofun
theorem Xv(B:Bt mg)(F:Fun K "table_at" "table_at" ve f fd) : zP P w K mg base CX0 1 f fd ["letters","rooms","number"] vB:=by
 exists F.ok lC
 ·obtain⟨l,n,N,rfl,h1,h2,h3,h4,q⟩:=h
  refine#[_,(zi (ka (i:=3) lC.nd rfl (Or.inr rfl) (wZ zd))
   (zi (zX PassesOwn.never rfl (yo rfl B.range (za (zA Ze (pv 1) (zC B.len (pv 0))) zd)) (zx (i:=4) lC.nd rfl (.inl rfl))
    (zG (xA (uX bw bO bP xf (pv 3) (za (zA yK (pv 2) (pv 1)) zd)))
    (zf (zD 2 lC.nd (zA yV (pv 2) (pv 1))))))
   (zi (xA (zdM bw PySem.F.slot_list_reverse PySem.F.type_list_reverse Vb (pv 3)))
   (zf (zl (wv (own:=["start"]) (caps:=["cells","letters"]) (ix:=[3,0]) (tt:=vG) (te:=(tSl (zep K) (yk 1) (Z4 (yk 0)) (Z4 (tOp Ys (yk 0) (tCB (Vz K) (zL (yk 2) xT)))))) rfl (zZ (sc:=zh ve) rfl (by symm) (by symm) (by symm) rfl (by symm) (by symm) rfl) (Uc rfl B.range (za zg (za (zC B.len (pv 3)) (za (zC B.len (pv 0)) zd)))) (λ_ _ _ _ _ _=>zx (i:=0) (show List.Nodup [_,_,_] by decide) rfl (.inl rfl)) (λ_ _ _ _ _ _=>yY) (λ_ _ _ _ _ _=>(ya zaG (pv 1) (zV (pv 0)) (zV (zA qR (pv 0) (zC B.len (pv 2)))))))))))),?_]
  have s16:=zQ;have hm:=zft h4 h2;have em:((n:Int) * (l.length:Int))=((n * l.length:Nat):Int):=by rw[dD]
  refine zj (λσ H'=>∃c,H c=AL/\Same H H'/\H' c=AK (.lst [])/\σ=[AK (.str (tx l)),AK (.int (n:Nat)),AK (.int (N:Nat)),AK (.ref c),AL]) ?_ ?_
  ·rfl'
   exact#[by lia,λc hc=>#[c,hc,zc hc,ze,rfl]]
  rintro σ H1 ⟨c,hcn,s1,hc,rfl⟩:_;right;refine zj (λσ H'=>∃v2 v4,Same H H'/\H' c=AK (.lst (((aK (n * l.length)).map (jG n N)).map V.int))/\σ=[AK (.str (tx l)),AK (.int (n:Nat)),v2,AK (.ref c),v4]) ?_ ?_
  ·rfl'
   refine#[by lia,.inl #[by lia,by lia],?_];rw[em];refine#[by lia,by lia,ForR.by (λi σ H'=>∃v4,Same H H'/\H' c=AK (.lst (((aK i).map (jG n N)).map V.int))/\σ=[AK (.str (tx l)),AK (.int (n:Nat)),AK (.int ((N / n ^ i:Nat):Int)),AK (.ref c),v4]) #[_,s1,hc,by rw[Nat.pow_zero,Nat.div_one]] ?_ ?_]
   ·rintro i σ H' hi ⟨v4,hs,hc',rfl⟩;rw[aJ]at hi
    rfl'
    refine#[.inl #[_,SqL.of hc'],by lia,_,hc',by simp only[ag,cq];lia,#[by lia,by lia],?_];refine#[zI hs hcn,?_,?_]
    ·rw[ze,cB,aA,aA,<- Int.natCast_emod];rfl
    ·rw[<- Int.natCast_ediv,Ja]
   ·rintro σ H' ⟨v4,hs,hc',rfl⟩;rw[aJ]at hc';exact#[hs,hc',_,_,rfl]
  rintro σ H2 ⟨v2,v4,s2,hc2,rfl⟩:_;right;refine zj (λσ H'=>Same H H'/\H' c=AK (.lst ((((aK (n * l.length)).map (jG n N)).reverse).map V.int))/\σ=[AK (.str (tx l)),AK (.int (n:Nat)),v2,AK (.ref c),v4]) ?_ ?_
  ·rfl'
   simp only[XV]
   rfl'
   refine#[.inl #[_,SqL.of hc2],_,hc2,zI s2 hcn,?_];rw[ze,eI]
  rintro σ H3 ⟨s3,hc3,rfl⟩:_;right;simp only[K0,zel]
  rfl'
  refine#[_,.inl #[_,SqL.of hc3,rfl],by lia,by decide,by decide,by lia,by simp only[ag,cF,cq];lia,by lia,by lia,λD hD=>?_]
  have en:(Builtin.Range.rangeSize 0 (((List.map V.int ((List.map (jG n N) (aK (n * l.length))).reverse)).length:Nat):Int) (l.length:Nat)).toNat=n:=by
   rw[ag,cF,ag,cq];exact zaX h3 h1
  rw[en]
  exact Jc rfl rfl rfl hc3 h1 h2 h3 h4 hD λrs H' s' hT hf=>q D rs H' (s3.trans s') hT λr hr'=>by
   cases e:H r with
   | none=>rfl
   | some o=>have:=s3 _ _ e;rw[hf r hr']at this;cases this
noncomputable def uI(l:List Nat)(tab:List (List Int))(ps:List zp)(u v:List Nat):Bool:=decide (ui l tab 0 u≠ui l tab 0 v) && (xN l tab ps 0).isNone
abbrev zcI(l:List Nat)(u:List Nat):Prop:=∀c ∈ u,c ∈ l
abbrev InP(l:List Nat)(ps:List zp):Prop:=∀p ∈ ps,(∀c ∈ p.1,c ∈ l)/\∀c ∈ p.2,c ∈ l
def kX(K:rT)(CV:rV):Sp:=λvs H Q _=>∃(o t a:rV) (l:List Nat) (rs:List rV) (tab:List (List Int)) (ps:List zp) (u v:List Nat),vs=[.ref o,.ref a,.str (tx u),.str (tx v)]/\LsA K H a (ps.map dR)/\WorAt CV H o l t rs tab/\wy l tab/\InP l ps/\zcI l u/\zcI l v/\∀H',Same H H'->Q (.bl (uI l tab ps u v)) H'
theorem UT{CV o t a:rV}{l:List Nat}{rs:List rV}{tab:List (List Int)}{u v:List Nat}(h1:LsA K H a (ps.map dR))(h2:WorAt CV H o l t rs tab)(h3:wy l tab)(h4:InP l ps)(h5:zcI l u)(h6:zcI l v)(q:∀H',Same H H'->Q (.bl (uI l tab ps u v)) H'):kX K CV [.ref o,.ref a,.str (tx u),.str (tx v)] H Q E:=#[o,t,a,l,rs,tab,ps,u,v,rfl,h1,h2,h3,h4,h5,h6,q]
theorem jL:zk ["world","pacts","one","other"] ["world","pacts","one","other"] (zh wm):=by nofun
theorem jM{f CV:rV}(B:Bt mg)(CL:KZ K mg CV)(F:Fun K "tells_apart" "tells_apart" wm f fd)(M_world_led:DM P w K mg base CX0 1 CV "led" ["self","room","word"] (jk CV))(M_world_broken:DM P w K mg base CX0 3 CV "broken" ["self","pacts"] (uo K CV)):zP P w K mg base CX0 4 f fd ["world","pacts","one","other"] (kX K CV):=by
 exists F.ok jL
 ·obtain⟨o,t,a,l,rs,tab,ps,u,v,rfl,hA,hW,hG,hp,hu,hv,q⟩:=h
  refine#[_,(zG (zM (zy xM (me1 M_world_led CL.cl hr (pv 0) (za zg (za (pv 2) zd))) (me1 M_world_led CL.cl hr (pv 0) (za zg (za (pv 3) zd))) (zB _))
    (zf (zl xS))
    zw)
   (zf (zl (yX op_isN' (me1 M_world_broken CL.cl hr (pv 0) (za (pv 1) zd)) yd (zB _))))),?_]
  have s16:=zQ
  rfl'
  obtain⟨dx,ho,hT⟩:=id hW;have hlo:=hG.lo;refine#[_,_,ho,rfl,qg hW hG (by lia) (by lia) hu #[_,_,ho,rfl,qg hW hG (by lia) (by lia) hv ?_]]
  rfl'
  refine yx (λh=>?_) λh=>?_
  ·have e:uI l tab ps u v=AN:=by
    unfold uI;rw[decide_eq_false (λg=>g h)];rfl
   rw[e]at q;exact q _ (Same.refl _)
  ·have e:uI l tab ps u v=(xN l tab ps 0).isNone:=by
    unfold uI;rw[decide_eq_true h,fu]
   rw[e]at q;refine#[_,_,ho,rfl,o,t,a,l,rs,tab,ps,rfl,hA,hW,hG,hp,λhb H' s'=>?_,λi r hb p H' s' hp'=>?_]
   ·rw[hb]at q;exact q H' s'
   ·rw[hb]at q;exact q H' s'
def Ear(l:List Nat)(ps:List zp)(u v:List Nat)(n N:Nat):Prop:=∀n' N':Nat,1<=n'->N'<n' ^ (n' * l.length)->(n'<n\/n'=n/\N'<N)->uI l (Vv n' l.length N') ps u v=AN
theorem JD{l:List Nat}{u v:List Nat}:Ear l ps u v 1 0:=λn' N' h1 _ h=>by lia
theorem Kz{l:List Nat}{u v:List Nat}{n N:Nat}(h:Ear l ps u v n N)(hf:uI l (Vv n l.length N) ps u v=AN):Ear l ps u v n (N+1):=λn' N' h1 h2 h3=>by
 rcases h3 with h3 | ⟨rfl,h3⟩
 ·exact h n' N' h1 h2 (.inl h3)
 ·by_cases e:N'=N
  ·rw[e];exact hf
  ·exact h n' N' h1 h2 (.inr #[rfl,by lia])
theorem zci{l:List Nat}{u v:List Nat}(h:Ear l ps u v n (n ^ (n * l.length))):Ear l ps u v (n+1) 0:=λn' N' h1 h2 h3=>by
 rcases dz n' n with h4 | h4
 ·exact h n' N' h1 h2 (.inl h4)
 ·have e:n'=n:=by lia
  subst e;exact h n' N' h1 h2 (.inr #[rfl,h2])
theorem Kn{n m k:Nat}(h1:1<=n)(h:n<=m):n ^ (n * k)<=m ^ (m * k):=aN (Nat.pow_le_pow_left h _) (Nat.pow_le_pow_right (by lia) (dF k h))
def WM(K:rT)(CM:rV):Sp:=λvs H Q E=>∃(a:rV) (l:List Nat) (ps:List zp) (u v:List Nat) (m:Nat),vs=[.str (tx l),.ref a,.str (tx u),.str (tx v),.int (m:Nat)]/\uu l=AM/\LsA K H a (ps.map dR)/\InP l ps/\zcI l u/\zcI l v/\m<=8/\(1000<m ^ (m * l.length)->E (.ref CM) AL H) /\
 (m ^ (m * l.length)<=1000->Ear l ps u v (m+1) 0->∀H',Same H H'->Q .non H') /\
 (m ^ (m * l.length)<=1000->∀n N:Nat,1<=n->n<=m->N<n ^ (n * l.length)->uI l (Vv n l.length N) ps u v=AM->Ear l ps u v n N->∀(t:rV) (rs:List rV) (H':Hp),Same H H'->TabAt H' t rs (Vv n l.length N)->(∀r ∈ t::rs,H r=AL)->Q (.ref t) H')
theorem il:zk ["letters","pacts","one","other","most","rooms","number","table"] ["letters","pacts","one","other","most"] (zh wk):=by nofun
theorem jH{f CM CV:rV}(B:Bt mg)(TM:J7 K mg CM)(CL:KZ K mg CV)(F:Fun K "world_apart" "world_apart" wk f fd)(iJ:Df P w K mg base CX0 2 "tables_within" ["letters","rooms"] [] vT)(lD:Df P w K mg base CX0 1 "table_count" ["letters","rooms"] [] qo)(re:Df P w K mg base CX0 1 "table_at" ["letters","rooms","number"] [] vB)(pz:Df P w K mg base CX0 4 "tells_apart" ["world","pacts","one","other"] [] (kX K CV))(M_world_init:DMk P w K mg base (CXx P w) 4 CV ["self","letters","table"] (ub CV)):zP P w K mg base (CXx P w) 6 f fd ["letters","pacts","one","other","most"] (WM K CM):=by
 exists Fun.okX F il,0
 ·obtain⟨a,l,ps,u,v,m,rfl,hg,hA,hp,hu,hv,m8,q1,q2,q3⟩:=h
  refine#[_,(zi (zM (yv (xC (cl0 iJ hr .nil rfl (za (pv 0) (za (pv 4) zd))) (λ_=>rfl)))
    (zf (z6 hx rfl TM.xi.toXC TM.ini rfl TM.g (za zY zd)))
    zw)
   (zi (zX PassesOwn.leaving rfl (ZU rfl B.range (za zg (za (zA qR (pv 4) zg) zd))) (zx (i:=5) il.nd rfl (.inl rfl))
    (zf (zX PassesOwn.leaving rfl (yo rfl B.range (za (cl0 lD hr .nil rfl (za (pv 0) (za (pv 5) zd))) zd)) (zx (i:=6) il.nd rfl (.inl rfl))
     (zi (zD 7 il.nd (cl0 re hr .nil rfl (za (pv 0) (za (pv 5) (za (pv 6) zd)))))
     (zf (zM (xC (cl0 pz hr .nil rfl (za (zfw hx M_world_init hr rfl CL.g (za (pv 0) (za (pv 7) zd))) (za (pv 1) (za (pv 2) (za (pv 3) zd))))) (λ_=>rfl))
      (zf (zl (pv 7)))
      zw))))))
   (zf (zl yd)))),?_]
  have s16:=zQ;obtain⟨l1,l6,_,_⟩:=of_decide_eq_true hg;refine zj (λσ H'=>H'=H/\m ^ (m * l.length)<=1000/\σ=[AK (.str (tx l)),AK (.ref a),AK (.str (tx u)),AK (.str (tx v)),AK (.int (m:Nat)),AL,AL,AL]) ?_ ?_
  ·rfl'
   refine j3 (by lia) m8 #[_,rfl,?_];by_cases hw:m ^ (m * l.length)<=1000
   ·rw[decide_eq_true hw]
    rfl'
    exact hw
   ·rw[decide_eq_false hw]
    rfl'
    exact#[by lia,q1 (by lia)]
  rintro σ H1 ⟨rfl,hw,rfl⟩:_;right;refine zj (λσ H'=>Same H1 H'/\Ear l ps u v (m+1) 0/\∃v5 v6 v7,σ=[AK (.str (tx l)),AK (.ref a),AK (.str (tx u)),AK (.str (tx v)),AK (.int (m:Nat)),v5,v6,v7]) ?_ ?_
  ·rfl'
   refine#[by lia,by lia,by lia,by lia,ForR.by (λi σ H'=>Same H1 H'/\Ear l ps u v (i+1) 0/\∃v5 v6 v7,σ=[AK (.str (tx l)),AK (.ref a),AK (.str (tx u)),AK (.str (tx v)),AK (.int (m:Nat)),v5,v6,v7]) #[Same.refl _,JD,_,_,_,rfl] ?_ ?_]
   ·rintro i σ H' hi ⟨hs,hE,v5,v6,v7,rfl⟩;have him:i+1<=m:=by lia
    have e0:(1:Int)+(i:Int)=((i+1:Nat):Int):=by lia
    have hpw:=Kn (k:=l.length) (by lia) him;rw[e0]
    rfl'
    refine Z0 (by lia) (by lia) ?_;refine#[_,rfl,by lia,by lia,ForR.by (λj σ H'=>Same H1 H'/\Ear l ps u v (i+1) j/\∃v6 v7,σ=[AK (.str (tx l)),AK (.ref a),AK (.str (tx u)),AK (.str (tx v)),AK (.int (m:Nat)),AK (.int ((i+1:Nat):Int)),v6,v7]) #[hs,hE,_,_,rfl] ?_ ?_]
    ·rintro j σ H'' hj ⟨hs2,hE2,v6,v7,rfl⟩;rw[aJ]at hj;have e1:(0:Int)+(j:Int)=(j:Int):=by lia
     rw[e1];simp only[yD,aX,aW];refine zj (λσ G=>∃(t:rV) (rs:List rV),Same H1 G/\TabAt G t rs (Vv (i+1) l.length j)/\(∀r ∈ t::rs,H1 r=AL)/\σ=[AK (.str (tx l)),AK (.ref a),AK (.str (tx u)),AK (.str (tx v)),AK (.int (m:Nat)),AK (.int ((i+1:Nat):Int)),AK (.int (j:Int)),AK (.ref t)]) ?_ ?_
     ·rfl'
      exact ZN l1 (by lia) (by lia) (by lia) λt rs G sG hT hf=>#[hs2.trans sG,t,rs,hT,(λr hr=>by
       cases e:H1 r with
       | none=>rfl
       | some o=>have:=hs2 _ _ e;rw[hf r hr]at this;cases this),rfl]
     rintro σ G ⟨t,rs,sG,hT,hf,rfl⟩:_;have hG:=XU (l:=l) j (show 1<=i+1 by lia) (by lia);right
     rfl'
     refine QA hg hT hG λx t' rs' H' s' _ _ hW=>UT ((hA.same sG).same s') hW hG hp hu hv λH'' s''=>#[_,rfl,?_];have sA:=sG.trans (s'.trans s'')
     cases hfit:uI l (Vv (i+1) l.length j) ps u v with
     | true =>
      rfl'
      exact q3 hw (i+1) j (by lia) him hj hfit hE2 t rs H'' sA (hT.same (s'.trans s'')) hf
     | false =>
      rfl'
      exact#[sA,Kz hE2 hfit]
    ·rintro σ H'' ⟨hs2,hE2,v6,v7,rfl⟩;rw[aJ]at hE2;exact#[hs2,zci hE2,_,_,_,rfl]
   ·rintro σ H' ⟨hs,hE,v5,v6,v7,rfl⟩;exact#[hs,by rw[show (((m:Nat):Int)+1 - 1).toNat=m by lia]at hE;exact hE,_,_,_,rfl]
  rintro σ H2 ⟨s2,hE,v5,v6,v7,rfl⟩:_;right
  rfl'
  exact q2 hw hE H2 s2
structure TMj(mg:si->Option rW):Prop where
 u:∃t,mg "MOST_USES_judging" = AK (.int 40 t)
 s:∃t,mg "MOST_STEPS_judging" = AK (.int 2000 t)
def zei(K:rT):Sp:=λvs H Q _=>∃(a:rV) (k:Nat) (l:List Nat) (ns:List Int) (bs:List Ent) (w:List Nat),vs=[.ref a,.str (tx w)]/\OG l ns k/\EnsL K H a bs/\BG k l ns bs/\w.length<=60 /\
 (∀(i:Nat) (p S:rV) (H':Hp),zJ (zb bs) w i->Same H H'->H' p=AK (.tup [.ref S,.str (tx (wAt (zb bs) w i))])->LsA K H' S ((stS (sAt (zb bs) w i)).map dSt)->Q (.ref p) H')/\∀H',Same H H'->Q .non H'
theorem jJ:zk ["entries","word"] ["entries","word"] (zh wb):=by nofun
theorem jF{f CF:rV}{iI:tP}(B:Bt mg)(TFx:za6 K mg CF)(TSb:zfe K CF)(TM:TMj mg)(F:Fun K "gone_within" "gone_within" wb f fd)(mP:Df P w K mg base (CXx P w) 4 "gone" ["rules","word","most"] [] (xw K CF))(DD_gone:Df P w K mg base (CXx P w) 4 "gone" ["rules","word","most"] [.int 4000 iI] (xw K CF))(gh:Df P w K mg base CX0 1 "pairs_of" ["entries"] [] (wa K)):zP P w K mg base CX0 5 f fd ["entries","word"] (zei K):=by
 obtain⟨t9,g9⟩:=TM.u
 exists F.ok jJ
 ·obtain⟨a,k,l,ns,bs,w,rfl,hG,hA,hB,hw,q1,q2⟩:=h;refine#[_,(zf (WK (th:=(K0 (tC .non))) #[rfl,rfl] (clX mP hr .nil rfl (za (cl0 gh hr .nil rfl (za (pv 0) zd)) (za (pv 1) (za (yn (v:=.int 40) rfl g9 #[t9,rfl]) zd)))) rfl TFx.g TFx.xi.ok (λe=>(zf (zl yd))))),?_];have s16:=zQ;have s16:=zQ;have hpl:=vV bs;have hbl:=hB.n;simp only[Qa];ac_rfl;exact xJ hA.is (by lia) λD H1 _ s1 hL=>uC hL (hB.ne hG) (by lia) hB.le hw (λi p S H' hi s' hp hS _=>q1 i p S H' hi (s1.trans s') hp (by rw[UI]at hS;exact hS)) λhno H' s'=>#[CF,rfl,TSb.s,λx hx=>q2 _ ((s1.trans s').trans (zc hx))]
def GwV(K:rT)(ps:List zp)(w:List Nat)(H:Hp)(v:V):Prop:=v=.non\/∃(i:Nat) (p S:rV),v=.ref p/\zJ ps w i/\H p=AK (.tup [.ref S,.str (tx (wAt ps w i))])/\LsA K H S ((stS (sAt ps w i)).map dSt)
theorem GwV.same{w:List Nat}{H H':Hp}{v:V}(h:GwV K ps w H v)(s:Same H H'):GwV K ps w H' v:=by
 rcases h with h | ⟨i,p,S,h1,h2,h3,h4⟩
 ·exact .inl h
 ·exact .inr #[i,p,S,h1,h2,s _ _ h3,h4.same s]
noncomputable abbrev JP(bs:List Ent)(u v:List Nat)(i j:Nat):List Stp:=byL bs (stS (sAt (zb bs) u i) ++ yE (stS (sAt (zb bs) v j)))
def zaA(K:rT):Sp:=λvs H Q _=>∃(a:rV) (k:Nat) (l:List Nat) (ns:List Int) (bs:List Ent) (b:Bool) (u v:List Nat),vs=[.bl b,.ref a,.str (tx u),.str (tx v)]/\OG l ns k/\EnsL K H a bs/\BG k l ns bs/\u.length<=60/\v.length<=60/\(b=AM->∀i j,zJ (zb bs) u i->zJ (zb bs) v j->wAt (zb bs) u i=wAt (zb bs) v j)/\(∀H',Same H H'->Q .non H') /\
 ∀(i j:Nat) (p S:rV) (H':Hp),zJ (zb bs) u i->zJ (zb bs) v j->wAt (zb bs) u i=wAt (zb bs) v j->Same H H'->H' p=AK (.tup [.str "alike",.ref S])->LsA K H' S ((JP bs u v i j).map dSt)->(JP bs u v i j).length<=2000->Q (.ref p) H'
theorem gv:zk ["whole","kept","one","other","ahead","behind","steps"] ["whole","kept","one","other"] (zh yN):=by nofun
theorem uc(B:Bt mg)(TM:TMj mg)(F:Fun K "judged_by_roads" "judged_by_roads" yN f fd)(nh:Df P w K mg base CX0 5 "gone_within" ["entries","word"] [] (zei K))(ig:Df P w K mg base CX0 2 "by_pacts" ["entries","steps"] [] (VX K))(me:Df P w K mg base CX0 1 "back" ["steps"] [] (uG K)):zP P w K mg base CX0 6 f fd ["whole","kept","one","other"] (zaA K):=by
 obtain⟨t9,g9⟩:=TM.s
 exists F.ok gv
 ·obtain⟨a,k,l,ns,bs,b,u,v,rfl,hG,hA,hB,hu,hv,hb,q1,q2⟩:=h
  refine#[_,(zi (zD 4 gv.nd (cl0 nh hr .nil rfl (za (pv 1) (za (pv 2) zd))))
   (zi (zD 5 gv.nd (cl0 nh hr .nil rfl (za (pv 1) (za (pv 3) zd))))
   (zi (zM (PW.pt (jR (zy op_isN' (pv 4) yd (zB _)) (qQ (zy op_isN' (pv 5) yd (zB _)))))
    (zf (zl yd))
    zw)
   (zi (zM (zy Yy (zo ix_tup (pv 4) zg) (zo ix_tup (pv 5) zg) (zB _))
    (zf (zl (w8 (xC (pv 0) (λ_=>rfl)) (zR (za zY (za (pv 1) (za (zo ix_tup (pv 4) zg) (za (zo ix_tup (pv 5) zg) zd))))) yd)))
    zw)
   (zi (zD 6 gv.nd (cl0 ig hr .nil rfl (za (pv 1) (za (zA XR (zo ix_tup (pv 4) zg) (cl0 me hr .nil rfl (za (zo ix_tup (pv 5) zg) zd))) zd))))
   (zf (zl (w8 (zy xP (zC B.len (pv 6)) (yn (v:=.int 2000) rfl g9 #[t9,rfl]) (zB _)) (zR (za zY (za (pv 6) zd))) yd)))))))),?_]
  have s16:=zQ;have s16:=zQ;have hbl:=hB.n;have hpl:=vV bs;have hst:∀e ∈ bs,e.2.2.length<=600:=λe he=>(hB.e e he).s;refine zj (λσ H'=>Same H H'/\∃v4,GwV K (zb bs) u H' v4/\σ=[AK (.bl b),AK (.ref a),AK (.str (tx u)),AK (.str (tx v)),AK (v4),AL,AL]) ?_ ?_
  ·rfl'
   exact#[a,k,l,ns,bs,u,rfl,hG,hA,hB,hu,λi p S H' h1 s' h2 h3=>#[s',.inr #[i,p,S,rfl,h1,h2,h3]],λH' s'=>#[s',.inl rfl]]
  rintro σ H1 ⟨s1,v4,hv4,rfl⟩:_;right;refine zj (λσ H'=>Same H1 H'/\∃v5,GwV K (zb bs) v H' v5/\σ=[AK (.bl b),AK (.ref a),AK (.str (tx u)),AK (.str (tx v)),AK (v4),AK (v5),AL]) ?_ ?_
  ·rfl'
   exact#[a,k,l,ns,bs,v,rfl,hG,hA.same s1,hB,hv,λi p S H' h1 s' h2 h3=>#[s',.inr #[i,p,S,rfl,h1,h2,h3]],λH' s'=>#[s',.inl rfl]]
  rintro σ H2 ⟨s2,v5,hv5,rfl⟩:_;have s12:=s1.trans s2;have hv4':=hv4.same s2;right;refine zj (λσ H'=>H'=H2/\v4≠.non/\v5≠.non/\σ=[AK (.bl b),AK (.ref a),AK (.str (tx u)),AK (.str (tx v)),AK (v4),AK (v5),AL]) ?_ ?_
  ·rfl'
   exact yx (λ_=>q1 _ s12) λh=>yx (λ_=>q1 _ s12) λh'=>#[h,h']
  rintro σ H3 ⟨rfl,n4,n5,rfl⟩:_;obtain⟨i,p1,S1,rfl,hi,hp1,hS1⟩:=hv4'.resolve_left n4;obtain⟨j,p2,S2,rfl,hj,hp2,hS2⟩:=hv5.resolve_left n5;right;refine zj (λσ H'=>H'=H3/\wAt (zb bs) u i=wAt (zb bs) v j/\σ=[AK (.bl b),AK (.ref a),AK (.str (tx u)),AK (.str (tx v)),AK (.ref p1),AK (.ref p2),AL]) ?_ ?_
  ·rfl'
   refine#[_,SqT.of hp1,_,rfl,_,SqT.of hp2,_,rfl,rfl,yx (λh=>yx (λhb'=>absurd (hb hb' i j hi hj) λz=>h (by rw[z])) λ_=>q1 _ s12) λh=>?_];have:=Classical.not_not.mp h;injection this with this;exact qC this
  rintro σ H4 ⟨rfl,he,rfl⟩:_;have him:=hi.most;have hjm:=hj.most;have hl1:(stS (sAt (zb bs) u i)).length=i:=by rw[ku,qK]
  have hl2:(stS (sAt (zb bs) v j)).length=j:=by rw[ku,qK]
  right;refine zj (λσ H'=>Same H4 H'/\∃S:rV,LsA K H' S ((JP bs u v i j).map dSt)/\σ=[AK (.bl b),AK (.ref a),AK (.str (tx u)),AK (.str (tx v)),AK (.ref p1),AK (.ref p2),AK (.ref S)]) ?_ ?_
  ·rfl'
   refine#[_,SqT.of hp1,_,rfl,_,SqT.of hp2,_,rfl,qu hS2.is (by lia) λB1 G1 _ t1 hB1=>?_];obtain⟨c1,hc1,ic1⟩:=hS1.same t1;obtain⟨c2,hc2,ic2⟩:=id hB1;have n1:=ic1.len;have n2:=ic2.len;rw[ag]at n1 n2;rw[yQ]at n2;refine#[S1,rfl,B1,rfl,c1,hc1,c2,hc2,by lia,λp hp=>?_];have sp:=zc (o:=.lst (c1 ++ c2)) hp;refine WO (Is.same (s12.trans (t1.trans sp)) _ _ hA.is) (LsA.is #[_,ze,by rw[aA];exact Iss.append (Iss.same sp _ _ ic1) (Iss.same sp _ _ ic2)]) (by rw[aj,yQ];lia) hst (λx hx=>?_) λD H' _ s' hL=>#[t1.trans (sp.trans s'),D,hL,rfl];rw[<- hpl];rcases AU.mp hx with h | h
   ·exact WF hi.live x h
   ·exact VN (WF hj.live) x h
  rintro σ H5 ⟨s5,S,hS,rfl⟩:_;obtain⟨xs,hX,hI⟩:=id hS;have hxl:=hI.len;rw[ag]at hxl;right
  rfl'
  exact#[_,.inl #[_,SqL.of hX,rfl],yx (λhn=>#[by lia,λp hp=>q2 i j p S _ hi hj he ((s12.trans s5).trans (zc hp)) ze (hS.same (zc hp)) (by lia)]) λ_=>q1 _ (s12.trans s5)]
theorem Z2{l:List Nat}{tab:List (List Int)}:∀{ps:List zp} {i:Nat},(xN l tab ps i).isNone=AM->∀p ∈ ps,vk l tab p.1 p.2=AL
 | [],_,_,p,hp=>(nomatch hp)
 | q::ps,i,h,p,hp=>by
  cases e:vk l tab q.1 q.2 with
  | none =>
   simp only[xN,e]at h;rcases AV.mp hp with rfl | hp
   ·exact e
   ·exact Z2 h p hp
  | some r =>
   simp only[xN,e]at h;cases h
theorem Kv{l:List Nat}{tab:List (List Int)}{u v:List Nat}(h:vk l tab u v=AL){r:Int}(h0:0<=r)(h1:r<(tab.length:Int)):ui l tab r u=ui l tab r v:=by
 unfold vk at h;rw[dX]at h;have:=h r.toNat (AZ.mpr (by lia));rw[show ((r.toNat:Nat):Int)=r by lia]at this;simpa using this
theorem Qe{l:List Nat}{tab:List (List Int)}(hG:wy l tab){r:Int}{c:Nat}:0<=jS l tab r c/\jS l tab r c<(tab.length:Int):=by
 have hlo:=hG.lo;unfold jS;rw[ae (l:=tab)]
 cases e:tab[r.toNat]? with
 | none=>simp;lia
 | some x =>
  rw[dq,ae]
  cases e2:x[l.idxOf c]? with
  | none=>simp;lia
  | some n=>exact hG.rm x (af e) n (af e2)
theorem UG{l:List Nat}{tab:List (List Int)}(hG:wy l tab):∀{w:List Nat} {r:Int},0<=r->r<(tab.length:Int)->0<=ui l tab r w/\ui l tab r w<(tab.length:Int)
 | [],r,h0,h1=>#[h0,h1]
 | c::w,r,h0,h1=>UG hG (w:=w) (Qe hG).1 (Qe hG).2
theorem kL(l:List Nat)(tab:List (List Int))(r:Int)(u v:List Nat):ui l tab r (u ++ v)=ui l tab (ui l tab r u) v:=List.foldl_append
theorem Vn{l:List Nat}{tab:List (List Int)}(hG:wy l tab):W0 λu v=>∀r:Int,0<=r->r<(tab.length:Int)->ui l tab r u=ui l tab r v :=
 #[λ_ _ _ _=>rfl,λh r a b=>(h r a b).symm,λh g r a b=>(h r a b).trans (g r a b),λ{u v} a b h r h0 h1=>by
  rw[kL,kL,kL,kL,h _ (UG hG h0 h1).1 (UG hG h0 h1).2]]
theorem JB{l:List Nat}{tab:List (List Int)}(hG:wy l tab){u v:List Nat}(h:EqR rs u v):uI l tab rs u v=AN:=by
 cases e:uI l tab rs u v with
 | false=>rfl
 | true =>
  unfold uI at e;rw[bV]at e;have hlo:=hG.lo;have:=Jb (Vn hG) (λp hp r h0 h1=>Kv (Z2 e.2 p hp) h0 h1) h 0 (by lia) (by lia);exact absurd this (of_decide_eq_true e.1)
theorem BG.dwn{l:List Nat}(h:BG k l ns bs):Dwn k l ns (zb bs):=λp hp=>by
 unfold zb at hp;obtain⟨e,he,rfl⟩:=AT.mp hp;exact#[h.lt e he,(h.e e he).ma,(h.e e he).mb]
theorem XY{u t:List Nat}(hN:NeL ps)(h:zE u ps=AL)(hr:Rws ps u t):t=u:=by
 cases hr with
 | nil=>rfl
 | cons s _=>exact absurd h (zbk hN s)
theorem UY{u v:List Nat}(h:Rws ps u v):EqR ps u v:=by
 induction h with
 | nil=>exact .refl _
 | cons s _ ih=>exact .trans (.one s) ih
theorem Qt{l:List Nat}(G:OG l ns k)(hB:BG k l ns bs)(hm:Met (zb bs)){u v:List Nat}(hu:∀c ∈ u,c ∈ l)(h:EqR (zb bs) u v){i j:Nat}(hi:zJ (zb bs) u i)(hj:zJ (zb bs) v j):wAt (zb bs) u i=wAt (zb bs) v j:=by
 have e1:=UY (qy (ps:=zb bs) (w:=u) i);have e2:=UY (qy (ps:=zb bs) (w:=v) j);have hw:∀c ∈ wAt (zb bs) u i,c ∈ l:=(Qs hB.dwn e1).mp hu;obtain⟨t,t1,t2⟩:=zcV G hB.dwn hm (.trans (.symm e1) (.trans h e2)) hw;rw[<- XY (hB.ne G) hi.end_ t1,<- XY (hB.ne G) hj.end_ t2]
theorem VA(hE:∀e ∈ bs,EOk rs e){u v:List Nat}{i j:Nat}(hi:zJ (zb bs) u i)(hj:zJ (zb bs) v j)(he:wAt (zb bs) u i=wAt (zb bs) v j):zU rs u (JP bs u v i j)=AK v:=by
 refine ju hE ?_;rw[xq,vX hi.live,he];exact wX (vX hj.live)
theorem zd0{l:List Nat}(h:∀p ∈ rs,p.1.length<=60/\p.2.length<=60/\(∀c ∈ p.1,c ∈ l)/\∀c ∈ p.2,c ∈ l):∀e ∈ fEs rs rs.length,EB l e:=λe he=>by
 obtain⟨i,p,hi,hp,rfl⟩:=ZG he;obtain⟨g1,g2,g3,g4⟩:=h p (af hp);exact#[g1,g2,by show ([((i:Int),(0:Int),AM)]:List Stp).length<=600;simp,g3,g4]
theorem QY{k n:Nat}{l:List Nat}{k1 es:List Ent}(h:Cpl k l ns n k1 (fEs rs rs.length) AM es){u v:List Nat}(hu:EqR rs u v):EqR (zb es) u v:=by
 refine Jb (kK _) (λp hp=>?_) hu;obtain⟨i,hi⟩:=Bb.mp hp;exact UM (kK _) h rfl (λe he=>VY (p:=(e.1,e.2.1)) (AT.mpr #[e,he,rfl])) (fE i p) (V7 hi (AS.mp hi).1)
def zaM(K:rT):Sp:=λvs H Q _=>∃(a:rV) (l:List Nat) (ps:List zp) (u v:List Nat) (m:Nat),vs=[.str (tx l),.ref a,.str (tx u),.str (tx v),.int (m:Nat)]/\uu l=AM/\LsA K H a (ps.map dR)/\InP l ps/\(∀c ∈ u,c ∈ l)/\(∀c ∈ v,c ∈ l)/\m<=8/\m ^ (m * l.length)<=1000/\EqR ps u v/\∀(p:rV) (H':Hp),Same H H'->H' p=AK (.tup [.str "open"])->Q (.ref p) H'
theorem la:zk ["letters","pacts","one","other","most","table"] ["letters","pacts","one","other","most"] (zh yH):=by nofun
theorem vD{f CM:rV}(B:Bt mg)(F:Fun K "judged_by_worlds" "judged_by_worlds" yH f fd)(pA:Df P w K mg base (CXx P w) 6 "world_apart" ["letters","pacts","one","other","most"] [] (WM K CM)):zP P w K mg base CX0 7 f fd ["letters","pacts","one","other","most"] (zaM K):=by
 exists F.ok la
 ·obtain⟨a,l,ps,u,v,m,rfl,hg,hA,hp,hu,hv,m8,hm,he,q⟩:=h
  refine#[_,(zi (zD 5 la.nd (clP xe0 pA hr .nil rfl (za (pv 0) (za (pv 1) (za (pv 2) (za (pv 3) (za (pv 4) zd)))))))
   (zf (zl (w8 (zy op_isN' (pv 5) yd (zB _)) (zR (za zY zd)) (zR (za zY (za (pv 5) zd))))))),?_]
  have s16:=zQ;have s16:=zQ;refine zj (λσ H'=>Same H H'/\σ=[AK (.str (tx l)),AK (.ref a),AK (.str (tx u)),AK (.str (tx v)),AK (.int (m:Nat)),AK (.non)]) ?_ ?_
  ·rfl'
   refine#[a,l,ps,u,v,m,rfl,hg,hA,hp,hu,hv,m8,λh=>by lia,λ_ _ H' s'=>#[s',rfl],λ_ n N h1 h2 h3 h4=>?_];rw[JB (XU N h1 (by lia)) he]at h4;cases h4
  rintro σ H1 ⟨s1,rfl⟩:_;right
  rfl'
  exact#[by lia,λp hp=>q p _ (s1.trans (zc hp)) ze]
def zdx(K:rT)(CO CR CW TB:rV):Sp:=λvs H Q _=>∃(o a:rV) (k:Nat) (l:List Nat) (ns:List Int) (rs:List zp) (u v:List Nat) (r m:Nat),vs=[.ref o,.ref a,.str (tx u),.str (tx v),.int (r:Nat),.int (m:Nat)]/\OrdAt CO CR CW H o k l ns/\OG l ns k/\LsA K H a (rs.map dR)/\rs.length<=20/\(∀p ∈ rs,p.1.length<=60/\p.2.length<=60/\(∀c ∈ p.1,c ∈ l)/\∀c ∈ p.2,c ∈ l)/\u.length<=60/\v.length<=60/\(∀c ∈ u,c ∈ l)/\(∀c ∈ v,c ∈ l)/\r<=1000/\m<=8/\m ^ (m * l.length)<=1000/\EqR rs u v/\TabOk H TB lp lq /\
 (∀(p:rV) (H':Hp),SamT TB H H'->H' p=AK (.tup [.str "open"])->Q (.ref p) H') /\
 ∀(p S:rV) (ss:List Stp) (H':Hp),SamT TB H H'->H' p=AK (.tup [.str "alike",.ref S])->LsA K H' S (ss.map dSt)->ss.length<=2000->zU rs u ss=AK v->Q (.ref p) H'
theorem nA:zk ["order","pacts","one","other","rounds","most","outcome","answer"] ["order","pacts","one","other","rounds","most"] (zh kr):=by nofun
theorem UQ{f CO CR CW TB CM:rV}(B:Bt mg)(TO:TOrd K mg CO CR CW)(TM:J7 K mg CM)(F:Fun K "judged" "judged" kr f fd)(pW:Df P w K mg base CX0 10 "completed" ["order","pacts","rounds"] [] (zao K CO CR CW TB))(nU:Df P w K mg base CX0 6 "judged_by_roads" ["whole","kept","one","other"] [] (zaA K))(iJ:Df P w K mg base CX0 2 "tables_within" ["letters","rooms"] [] vT)(nB:Df P w K mg base CX0 7 "judged_by_worlds" ["letters","pacts","one","other","most"] [] (zaM K)):zP P w K mg base (CXx P w) 11 f fd ["order","pacts","one","other","rounds","most"] (zdx K CO CR CW TB):=by
 exists Fun.okX F nA,0
 ·obtain⟨o,a,k,l,ns,rs,u,v,r,m,rfl,ho,hG,hA,hrl,hrs,hul,hvl,hu,hv,hr',hm8,hm,he,hTab,q1,q2⟩:=h
  refine#[_,(zi (zM (yv (xC (cl0 iJ hr .nil rfl (za (vW (pv 0) rfl) (za (pv 5) zd))) (λ_=>rfl)))
    (zf (z6 hx rfl TM.xi.toXC TM.ini rfl TM.g (za zY zd)))
    zw)
   (zi (zD 6 nA.nd (cl0 pW hr .nil rfl (za (pv 0) (za (pv 1) (za (pv 4) zd)))))
   (zi (zD 7 nA.nd (cl0 nU hr .nil rfl (za (zo ix_tup (pv 6) zg) (za (zo ix_tup (pv 6) zg) (za (pv 2) (za (pv 3) zd))))))
   (zi (zM (zy op_isN' (pv 7) yd (zB _))
    (zf (zl (cl0 nB hr .nil rfl (za (vW (pv 0) rfl) (za (pv 1) (za (pv 2) (za (pv 3) (za (pv 5) zd))))))))
    zw)
   (zf (zl (pv 7))))))),?_]
  have s16:=zQ;have s16:=zQ;obtain⟨l1,l6,lsm,lnd⟩:=of_decide_eq_true hG.g;obtain⟨C,dy,fs,hf,ho1,_,hlk⟩:=ho.fam
  have hC:Cls K C/\NoAttr K C "letters":=by
   rcases hf with rfl | rfl | rfl
   ·exact#[TO.cO,TO.lO]
   ·exact#[TO.cR,TO.lR]
   ·exact#[TO.cW,TO.lW]
  refine zj (λσ H'=>H'=H/\σ=[AK (.ref o),AK (.ref a),AK (.str (tx u)),AK (.str (tx v)),AK (.int (r:Nat)),AK (.int (m:Nat)),AL,AL]) ?_ ?_
  ·rfl'
   refine#[_,_,_,ho1,hC.1,hC.2,_,hlk,j3 l6 hm8 ?_];rw[decide_eq_true hm];exact#[AM,rfl,U5 rfl]
  rintro σ H1 ⟨rfl,rfl⟩:_;right;refine zj (λσ H'=>SamT TB H1 H'/\∃(w:Bool) (es:List Ent) (p D:rV),Cpl k l ns (r+1) [] (fEs rs rs.length) w es/\BG k l ns es/\H' p=AK (.tup [.bl w,.ref D])/\EnsM K H' D es/\σ=[AK (.ref o),AK (.ref a),AK (.str (tx u)),AK (.str (tx v)),AK (.int (r:Nat)),AK (.int (m:Nat)),AK (.ref p),AL]) ?_ ?_
  ·rfl'
   exact#[o,a,k,l,ns,rs,r,rfl,ho,hG,hA,hrl,λp hp=>#[by have:=hrs p hp;lia,by have:=hrs p hp;lia,(hrs p hp).2.2],λp hp=>#[(hrs p hp).1,(hrs p hp).2.1],hr',hTab,λw es p D H' h1 h2 h3 _ h4 h5=>#[h3,w,es,h1,h2,p,D,h4,h5,rfl]]
  rintro σ H2 ⟨s2,w,es,p,D,hCp,hB,hp,hD,rfl⟩:_;obtain⟨tbl,htb,_⟩:=id hTab;have hGd:Gd rs k l ns es:=zc3 hG hCp (zd0 hrs) (λe he=>Ke he) #[λe he=>(nomatch he),.inl rfl];right;refine zj (λσ H'=>SamT TB H1 H'/\∃v7,(v7=V.non\/∃(p S:rV) (ss:List Stp),v7=.ref p/\H' p=AK (.tup [.str "alike",.ref S])/\LsA K H' S (ss.map dSt)/\ss.length<=2000/\zU rs u ss=AK v)/\σ=[AK (.ref o),AK (.ref a),AK (.str (tx u)),AK (.str (tx v)),AK (.int (r:Nat)),AK (.int (m:Nat)),AK (.ref p),AK (v7)]) ?_ ?_
  ·rfl'
   exact#[_,SqT.of hp,_,rfl,_,SqT.of hp,_,rfl,D,k,l,ns,es,w,u,v,rfl,hG,hD.l,hB,hul,hvl,λhw i j hi hj=>Qt hG hB (zbN hCp hw) hu (by subst hw;exact QY hCp he) hi hj,λH' s'=>#[s2.trans (SamT.of s'),.inl rfl],λi j p S H' hi hj hij s' h1 h2 h3=>#[s2.trans (SamT.of s'),.inr #[p,rfl,S,h1,_,h2,h3,VA hGd.1 hi hj hij]]]
  rintro σ H3 ⟨s3,v7,hv7,rfl⟩:_;have hA3:=hA.samT s3 htb;right;rcases hv7 with rfl | ⟨p',S,ss,rfl,h1,h2,h3,h4⟩
  ·refine UB (λ_ _=>False) ?_ λ_ _ h=>h.elim
   rfl'
   exact#[_,_,_,s3.at htb ho1 (λ_ z=>by cases z),hC.1,hC.2,_,hlk,a,l,rs,u,v,m,rfl,hG.g,hA3,λp hp=>(hrs p hp).2.2,hu,hv,hm8,hm,he,λp H' s' h=>q1 p H' (s3.trans (SamT.of s')) h]
  ·refine zj (λσ H'=>H'=H3/\σ=[AK (.ref o),AK (.ref a),AK (.str (tx u)),AK (.str (tx v)),AK (.int (r:Nat)),AK (.int (m:Nat)),AK (.ref p),AK (.ref p')]) ?_ ?_
   ·rfl'
   rintro σ H4 ⟨rfl,rfl⟩:_;right
   rfl'
   exact q2 p' S ss _ s3 h1 h2 h3 h4
def kT:Sp:=λ_ _ _ _=>False
structure TAn(K:rT):Prop where
 tt:aQ K (.type "tuple") (.type "tuple")=AK AM
 ss:aQ K (.type "str") (.type "str")=AK AM
def zgp(K:rT)(H:Hp)(p:rV):Prop:=H p=AK (.tup [.str "open"])\/∃(S:rV) (ss:List Stp),H p=AK (.tup [.str "alike",.ref S])/\LsA K H S (ss.map dSt)
def K1(K:rT):Sp:=λvs H Q _=>∃(p:rV) (m:Int),vs=[.ref p,.int m]/\zgp K H p/\∀H',Same H H'->Q (.bl AM) H'
theorem Ve(B:Bt mg)(F:Fun K "_law_entries" "_law_entries" Ya f fd):zP P w K mg base CX0 1 f fd ["_law_found"] kT:=#[λ_ _ _ _ h=>h.elim,λ_ _ _ _ _ _ _ _ _ _ _ _ _ h=>h.elim]
theorem YL(B:Bt mg)(F:Fun K "_law_table_ok" "_law_table_ok" jZ f fd):zP P w K mg base CX0 1 f fd ["_law_table","_law_many"] kT:=#[λ_ _ _ _ h=>h.elim,λ_ _ _ _ _ _ _ _ _ _ _ _ _ h=>h.elim]
theorem VT:zk ["_law_found","_law_many"] ["_law_found","_law_many"] (zh kH):=by nofun
theorem Ux(B:Bt mg)(T:TAn K)(F:Fun K "_law_answer" "_law_answer" kH f fd)(rF:Df P w K mg base CX0 2 "_law_steps" ["_law_found"] [] (XB K))(rf:Df P w K mg base CX0 1 "_law_table_ok" ["_law_table","_law_many"] [] kT)(rj:Df P w K mg base CX0 1 "_law_entries" ["_law_found"] [] kT):zP P w K mg base CX0 3 f fd ["_law_found","_law_many"] (K1 K):=by
 exists F.ok VT
 ·obtain⟨p,m,rfl,hA,q⟩:=h
  refine#[_,(zi (zM (PW.pt (jR (yv (xC (xW rfl B.isi (pv 0) rfl B.tuple PySem.Pv.boot_tuple) (λ_=>rfl))) (jR (zy zaO (zC B.len (pv 0)) zg (zB _)) (qQ (yv (xC (xW rfl B.isi (zo ix_tup (pv 0) zg) rfl B.str PySem.Pv.boot_str) (λ_=>rfl)))))))
    (zf (zl xS))
    zw)
   (zi (zM (zy xM (zo ix_tup (pv 0) zg) zY (zB _))
    (zf (zl (Wh (yX xM (zC B.len (pv 0)) zg (zB _)) (WL (cl0 rF hr .nil rfl (za (zo ix_tup (pv 0) zg) zd))))))
    zw)
   (zi (zM (zy xM (zo ix_tup (pv 0) zg) zY (zB _))
    (zi (zM (PW.pt (jR (zy Yy (zC B.len (pv 0)) zg (zB _)) (qQ (yv (xC (cl0 rj hr .nil rfl (za (zo ix_tup (pv 0) zg) zd)) (λ_=>rfl))))))
     (zf (zl xS))
     zw)
    (zf (zl (Wh (xW rfl B.isi (zo ix_tup (pv 0) zg) rfl B.str PySem.Pv.boot_str) (WL (xW rfl B.isi (zo ix_tup (pv 0) zg) rfl B.str PySem.Pv.boot_str))))))
    zw)
   (zi (zM (zy xM (zo ix_tup (pv 0) zg) zY (zB _))
    (zf (zl (Wh (yX xM (zC B.len (pv 0)) zg (zB _)) (WL (cl0 rf hr .nil rfl (za (zo zat (pv 0) zg) (za (pv 1) zd)))))))
    zw)
   (zf (zl (yX (zam (Xu hr)) (pv 0) (zR (za zY zd)) (zB _)))))))),?_]
  have s16:=zQ;have s16:=zQ;refine zj (λσ H'=>H'=H/\σ=[AK (.ref p),AK (.int m)]) ?_ ?_
  ·rcases hA with h | ⟨S,ss,h,_⟩
   ·rfl'
    exact#[_,.inr (.inr (.inr #[_,_,rfl,rfl,SqT.of h])),AM,T.tt,U5 #[_,.inr #[_,SqT.of h,rfl],yx (λz=>by simp at z) λ_=>#[_,SqT.of h,_,rfl,_,.inl (.str _),AM,T.ss,U5 trivial]]]
   ·rfl'
    exact#[_,.inr (.inr (.inr #[_,_,rfl,rfl,SqT.of h])),AM,T.tt,U5 #[_,.inr #[_,SqT.of h,rfl],yx (λz=>by simp at z) λ_=>#[_,SqT.of h,_,rfl,_,.inl (.str _),AM,T.ss,U5 trivial]]]
  rintro σ H1 ⟨rfl,rfl⟩:_;right;rcases hA with h | ⟨S,ss,h,hS⟩
  ·refine zj (λσ H'=>H'=H1/\σ=[AK (.ref p),AK (.int m)]) ?_ ?_
   ·rfl'
    exact#[_,SqT.of h,_,rfl,rfl,yx (λz=>absurd z (by decide)) λ_=>trivial]
   rintro σ H2 ⟨rfl,rfl⟩:_;right;refine zj (λσ H'=>H'=H2/\σ=[AK (.ref p),AK (.int m)]) ?_ ?_
   ·rfl'
    exact#[_,SqT.of h,_,rfl,rfl,yx (λz=>absurd z (by decide)) λ_=>trivial]
   rintro σ H3 ⟨rfl,rfl⟩:_;right;refine zj (λσ H'=>H'=H3/\σ=[AK (.ref p),AK (.int m)]) ?_ ?_
   ·rfl'
    exact#[_,SqT.of h,_,rfl,rfl,yx (λz=>absurd z (by decide)) λ_=>trivial]
   rintro σ H4 ⟨rfl,rfl⟩:_;right
   rfl'
   refine#[by lia,λp1 hp1=>VL (l:=[.str "open"]) (m:=[.str "open"]) (.inr #[?_,?_]) (by decide) ?_]
   ·simp only[Is,Iss];exact#[_,_,rfl,SqT.of (zc hp1 _ _ h),_,_,rfl,rfl,rfl]
   ·simp only[Is,Iss];exact#[_,_,rfl,SqT.of ze,_,_,rfl,rfl,rfl]
   ·rw[vN];exact q _ (zc hp1)
  ·refine UB (λ_ _=>False) ?_ λ_ _ h=>h.elim
   rfl'
   exact#[_,SqT.of h,_,rfl,rfl,yx (λ_=>#[_,.inr #[_,SqT.of h,rfl],yx (λ_=>#[_,SqT.of h,_,rfl,S,ss,rfl,hS.is,q _ (Same.refl _)]) λz=>absurd rfl z]) λz=>absurd rfl z]
structure Drw(H:Hp)(k:Int)(l:List Nat)(ws:List Int)(W:rV):Prop where
 k0:0<=k
 k3:k<3
 g:uu l=AM
 l3:l.length<=3
 n:ws.length=l.length
 b:∀n ∈ ws,1<=n/\n<=1000000
 w:H W=AK (.lst (ws.map V.int))
structure PG(l:List Nat)(rs:List zp):Prop where
 n:rs.length<=6
 s:∀r ∈ rs,r.1.length<=3/\r.2.length<=3/\(∀x ∈ r.1,x ∈ l)/\∀x ∈ r.2,x ∈ l
theorem PG.ok{l:List Nat}(h:PG l rs):jn rs:=#[by have:=h.n;lia,λr hr=>by have:=h.s r hr;lia]
theorem VB(l:List Nat):W0 λu v:List Nat=>(∀c ∈ u,c ∈ l) ↔ ∀c ∈ v,c ∈ l :=
 #[λ_=>.rfl,.symm,.trans,λ{u v} a b h=>by
  simp only[List.mem_append]
  exact#[λg c hc=>hc.elim (λhc=>hc.elim (λhc=>g c (.inl (.inl hc))) (h.mp (λc hc=>g c (.inl (.inr hc))) c)) (λhc=>g c (.inr hc)),λg c hc=>hc.elim (λhc=>hc.elim (λhc=>g c (.inl (.inl hc))) (h.mpr (λc hc=>g c (.inl (.inr hc))) c)) (λhc=>g c (.inr hc))]]
theorem Vh{m n:Nat}(h:n<=3)(hm:(1<=m/\m<=2)\/(m=3/\n=2)):m ^ (m * n)<=1000:=by
 rcases hm with ⟨h1,h2⟩ | ⟨rfl,rfl⟩
 ·have:m=1\/m=2:=by lia
  rcases this with rfl | rfl
  ·simp
  ·have:n=0\/n=1\/n=2\/n=3:=by lia
   rcases this with rfl | rfl | rfl | rfl <;> decide
 ·decide
def Wd(K:rT)(T:rV):Sp:=λvs H Q _=>∃(a:rV) (ns:List Int),vs=[.ref a]/\SqL K H a (ns.map V.int)/\(∀z ∈ ns,uU z)/\H T=AK (.tbl #[])/\∀H',Q (.bl AM) H'
theorem ie:zk ["_law_script","_law_kind","_law_letters_here","_law_weights","_law_count","_law_pacts","_law_one","_law_other","_law_most","_law_found"] ["_law_script"] (zh jV):=by nofun
theorem zdk{f CO CR CW TB:rV}(B:Bt mg)(F:Fun K "law" "law" jV f fd)(rM:Df P w K mg base CX0 3 "_law_draw" ["_law_cell_here"] [] Q7)(oO:Df P w K mg base CX0 1 "_law_cell" ["_law_script","_law_k"] [] (Zd K))(oK:Df P w K mg base CX0 1 "_law_word" ["_law_number","_law_letters_here","_law_most"] [] kZ)(rA:Df P w K mg base CX0 2 "_law_end" ["_law_pacts","_law_word_here","_law_steps_here"] [] (V0 K))(rq:Df P w K mg base (CXx P w) 11 "judged" ["order","pacts","one","other","rounds","most"] [] (zdx K CO CR CW TB))(rN:Df P w K mg base CX0 2 "_law_pair" ["_law_cell_here","_law_letters_here","_law_most"] [] Zy)(gM:Df P w K mg base CX0 1 "_law_mixed" ["_law_cell_here","_law_turn"] [] xU)(rG:Df P w K mg base CX0 3 "_law_chain" ["_law_pacts","_law_word_here","_law_cells","_law_most"] [] (kz K))(rH:Df P w K mg base CX0 6 "_law_order" ["_law_kind","_law_letters_here","_law_weights"] [] (Wf K CO CR CW))(rz:Df P w K mg base CX0 3 "_law_answer" ["_law_found","_law_many"] [] (K1 K)):zP P w K mg base CX0 12 f fd ["_law_script"] (Wd K TB):=by
 exists F.ok ie
 ·obtain⟨a,ns,rfl,hS,hB,hT,q⟩:=h
  refine#[_,(zi (zab (cl0 rM hr .nil rfl (za (cl0 oO hr .nil rfl (za (pv 0) (za zg zd))) zd)) (vU (n:=3) rfl (zO (zx (i:=1) ie.nd rfl (.inl rfl)) (zO (zx (i:=2) ie.nd rfl (Or.inr rfl)) (zO (zx (i:=3) ie.nd rfl (.inl rfl)) wo)))))
   (zi (zD 4 ie.nd (cl0 oO hr .nil rfl (za (pv 0) (za zg zd))))
   (zi (V6 (i:=5) ie.nd rfl (.inl rfl) (.inl rfl) (own:=["_law_k"]) (caps:=["_law_script","_law_letters_here"]) (ix:=[0,2]) (tt:=vG) (te:=(u7 Zy [] E0 (zL (u7 (Zd K) [] E0 (zL (yk 1) (zL (tOp Ys (tC (.int 2)) (yk 0)) xT))) (zL (yk 2) (zL (tC (.int 3)) xT))))) rfl (zZ (sc:=zh jV) rfl (by symm) (by symm) (by symm) rfl (by symm) (by symm) rfl) (yo rfl B.range (za (zA yb zg (zA yK (pv 4) zg)) zd)) (λ_ _ _ _ _ _=>zx (i:=0) (show List.Nodup [_,_,_] by decide) rfl (.inl rfl)) (λ_ _ _ _ _ _=>yY) (λ_ _ _ _ _ _=>(cl0 rN hr .nil rfl (za (cl0 oO hr .nil rfl (za (pv 1) (za (zA qR zg (pv 0)) zd))) (za (pv 2) (za zg zd))))))
   (zi (zD 6 ie.nd (cl0 oK hr .nil rfl (za (cl0 gM hr .nil rfl (za (cl0 oO hr .nil rfl (za (pv 0) (za zg zd))) (za zg zd))) (za (pv 2) (za zg zd)))))
   (zi (zD 7 ie.nd (cl0 rA hr .nil rfl (za (pv 5) (za (pv 6) (za (cl0 rG hr .nil rfl (za (pv 5) (za (pv 6) (za (ya kR (pv 0) (zV zg) (zV zg)) (za zg zd))))) zd)))))
   (zi (zD 8 ie.nd (zA yb zg (zA yK (zA yV (pv 4) zg) zg)))
   (zi (zM (PW.pt (zak (zy xM (zC B.len (pv 2)) zg (zB _)) (U7 (zy xM (zA yK (zA yV (pv 4) zg) zg) zg (zB _)))))
    (zf (zD 8 ie.nd zg))
    zw)
   (zi (zD 9 ie.nd (clP xe0 rq hr .nil rfl (za (cl0 rH hr .nil rfl (za (pv 1) (za (pv 2) (za (pv 3) zd)))) (za (xl yS rfl B.list PySem.Pv.boot_list (za (pv 5) zd)) (za (pv 6) (za (pv 7) (za (zA yK (zA yV (pv 4) zg) zg) (za (pv 8) zd))))))))
   (zi (zM (yv (xC (cl0 rz hr .nil rfl (za (pv 9) (za (zC B.len (pv 2)) zd))) (λ_=>rfl)))
    (zf (zl xS))
    zw)
   (zi (zM (zy xM (zo ix_tup (pv 9) zg) zY (zB _))
    (zf (zl (yX xM (cl0 rA hr .nil rfl (za (pv 5) (za (pv 6) (za (zo ix_tup (pv 9) zg) zd)))) (pv 7) (zB _))))
    zw)
   (zf (zl (yX xM (zo ix_tup (pv 9) zg) zY (zB _)))))))))))))),?_]
  have s16:=zQ;have s16:=zQ;have hTab:TabOk H TB lp lq:=#[#[],hT,trivial,.inl rfl];refine zj (λσ H'=>Same H H'/\∃(k:Int) (l:List Nat) (W:rV),(∃ws,Drw H' k l ws W)/\σ=[AK (.ref a),AK (.int k),AK (.str (tx l)),AK (.ref W),AL,AL,AL,AL,AL,AL]) ?_ ?_
  ·rfl'
   refine qt hS hB (by decide) λc hc=>#[c,rfl,hc,λk l ws p W H' a1 a2 a3 a3' a4 a5 s' hp hW=>?_];exact#[p,rfl,_,SqT.of hp,rfl,_,_,rfl,_,_,rfl,_,_,rfl,rfl,s',k,l,W,#[ws,a1,a2,a3,a3',a4,a5,hW],rfl,rfl,rfl]
  rintro σ H1 ⟨s1,k,l,W,⟨ws,hw⟩,rfl⟩:_;obtain⟨l1,l6,lsm,lnd⟩:=of_decide_eq_true hw.g;have hl3:=hw.l3;have hG:OG l ws k.toNat:=#[hw.g,by have:=hw.k0;have:=hw.k3;lia,hw.n,hw.b];have hS1:=s1.seq hS;right;refine zj (λσ H'=>H'=H1/\∃n:Int,σ=[AK (.ref a),AK (.int k),AK (.str (tx l)),AK (.ref W),AK (.int n),AL,AL,AL,AL,AL]) ?_ ?_
  ·rfl'
   exact qt hS1 hB (by decide) λn _=>#[rfl,n,rfl]
  rintro σ H1 ⟨rfl,n,rfl⟩:_;right;refine zj (λσ H'=>Same H1 H'/\∃pa:rV,(∃rs,LsA K H' pa (rs.map dR)/\PG l rs)/\σ=[AK (.ref a),AK (.int k),AK (.str (tx l)),AK (.ref W),AK (.int n),AK (.ref pa),AL,AL,AL,AL]) ?_ ?_
  ·rfl'
   have e0:=bq n (b:=4) (by decide);have e1:=bn n (b:=4) (by decide);refine#[by decide,by lia,by lia,λD hD=>CompR.by (λi AR H'=>Same H1 H'/\H' D=AK (.lst AR)/\∃rs:List zp,Iss K H' (rs.map dR) AR/\rs.length=i/\∀r ∈ rs,r.1.length<=3/\r.2.length<=3/\(∀x ∈ r.1,x ∈ l)/\∀x ∈ r.2,x ∈ l) #[zc hD,ze,[],by simp only[aL,Iss],rfl,λr h=>(nomatch h)] ?_ ?_]
   ·rintro i AR H' hi ⟨hs,hH,rs,hI,hrl,hrb⟩;have hal:=hI.len;rw[ag]at hal;have hi4:i<5:=by lia
    simp only[vG]
    rfl'
    refine#[wx,qt (hs.seq hS1) hB (by lia) λc3 hc3=>KP hc3 (by lia) (by lia) (by decide) (by decide) λo n p ho hn mo mn hp=>#[zc hp _ _ hH,by lia,CNx.mk hi #[zI (hs.trans (zc hp)) hD,ze,rs ++ [(o,n)],?_,by rw[aj,hrl];rfl,λr hr'=>?_]]]
    ·rw[aA];exact qf hH hI hp zdP (XG rs) (by simp only[zS,y8,and_self])
    ·rcases AU.mp hr' with h | h
     ·exact hrb r h
     ·rw[AW.mp h];exact#[by show o.length<=3;lia,by show n.length<=3;lia,mo,mn]
   ·rintro AR H' ⟨hs,hH,rs,hI,hrl,hrb⟩;exact#[hs,D,#[rs,#[AR,hH,hI],by lia,hrb],rfl]
  rintro σ H2 ⟨s2,pa,⟨rs,hP,hPG⟩,rfl⟩:_;have hpn:=hPG.n;have hS2:=s2.seq hS1;right;refine zj (λσ H'=>H'=H2/\∃w:List Nat,w.length<=5/\(∀c ∈ w,c ∈ l)/\σ=[AK (.ref a),AK (.int k),AK (.str (tx l)),AK (.ref W),AK (.int n),AK (.ref pa),AK (.str (tx w)),AL,AL,AL]) ?_ ?_
  ·rfl'
   exact qt hS2 hB (by decide) λc hc=>xR hc (by decide) (by decide) λz hz=>ZE hz (by lia) (by lia) (by decide) (by decide) λw hw1 hw2=>#[rfl,w,by lia,hw2,rfl]
  rintro σ H3 ⟨rfl,u,hul,hui,rfl⟩:_;right;refine zj (λσ H'=>Same H3 H'/\∃(v:List Nat),(∃ss,zU rs u ss=AK v)/\v.length<=60/\σ=[AK (.ref a),AK (.int k),AK (.str (tx l)),AK (.ref W),AK (.int n),AK (.ref pa),AK (.str (tx u)),AK (.str (tx v)),AL,AL]) ?_ ?_
  ·rfl'
   refine#[_,hS2,λp hp=>?_];rw[ZW ns (by decide) (by decide)];have hcb:∀z ∈ (ns.drop (7:Int).toNat).take ((63:Int) - 7).toNat,uU z:=λz hz=>hB z (cj (aZ hz));have hcl:((ns.drop (7:Int).toNat).take ((63:Int) - 7).toNat).length<=56:=by rw[aG];exact Nat.min_le_left _ _
   generalize (ns.drop (7:Int).toNat).take ((63:Int) - 7).toNat=cs at hcb hcl ⊢;have sp:=zc (o:=.lst (cs.map V.int)) hp;exact Qc (hP.same sp).is hPG.ok (by lia) (by decide) (SqL.of ze) hcb (by lia) λT H6 ss w' hT s6 hL6 hwk hw' hsl _=>Ue (hP.same (sp.trans s6)).is hPG.ok (by lia) hL6.is (by lia) hwk #[sp.trans s6,w',#[ss,hwk],hw',rfl]
  rintro σ H4 ⟨s4,v,⟨ss,hwk⟩,hvl,rfl⟩:_;have hvi:∀c ∈ v,c ∈ l:=(QJ (VB l) (λp hp=>#[λ_=>(hPG.s p hp).2.2.2,λ_=>(hPG.s p hp).2.2.1]) hwk).mp hui;have hEq:EqR rs u v:=QJ (kK _) (λp hp=>VY hp) hwk;right;refine zj (λσ H'=>H'=H4/\∃m:Nat,1<=m/\m<=2/\σ=[AK (.ref a),AK (.int k),AK (.str (tx l)),AK (.ref W),AK (.int n),AK (.ref pa),AK (.str (tx u)),AK (.str (tx v)),AK (.int (m:Nat)),AL]) ?_ ?_
  ·rfl'
   have b0:=bq (n / 16) (b:=2) (by decide);have b1:=bn (n / 16) (b:=2) (by decide);exact#[#[by decide,by decide],by decide,(1+n / 16 % 2).toNat,by lia,by lia,by lia]
  rintro σ H5 ⟨rfl,m0,m1,m2,rfl⟩:_;right;refine zj (λσ H'=>H'=H5/\∃m:Nat,((1<=m/\m<=2)\/(m=3/\l.length=2))/\σ=[AK (.ref a),AK (.int k),AK (.str (tx l)),AK (.ref W),AK (.int n),AK (.ref pa),AK (.str (tx u)),AK (.str (tx v)),AK (.int (m:Nat)),AL]) ?_ ?_
  ·rfl'
   exact#[by lia,yx (λh2=>#[#[by decide,by decide],by decide,yx (λ_=>#[3,.inr #[rfl,by lia],rfl]) λ_=>#[m0,.inl #[m1,m2],rfl]]) λ_=>#[m0,.inl #[m1,m2],rfl]]
  rintro σ H6 ⟨rfl,m,hm,rfl⟩:_;have hTb:=Vh hl3 hm;right;refine zj (λσ H'=>∃fp:rV,LsA K H' pa (rs.map dR)/\(H' fp=AK (.tup [.str "open"])\/∃(S:rV) (ss:List Stp),H' fp=AK (.tup [.str "alike",.ref S])/\LsA K H' S (ss.map dSt)/\ss.length<=2000/\zU rs u ss=AK v)/\σ=[AK (.ref a),AK (.int k),AK (.str (tx l)),AK (.ref W),AK (.int n),AK (.ref pa),AK (.str (tx u)),AK (.str (tx v)),AK (.int (m:Nat)),AK (.ref fp)]) ?_ ?_
  ·rfl'
   have c0:=bq (n / 4) (b:=4) (by decide);have c1:=bn (n / 4) (b:=4) (by decide);refine#[k,l,W,ws,rfl,hw.k0,hw.k3,hw.g,(s2.trans s4) _ _ hw.w,hw.n,hw.b,λo H' s' ho=>?_];have hP':=hP.same (s4.trans s');obtain⟨px,hPx,hPi⟩:=id hP';refine#[_,.inl (SqL.of hPx),λhd hh=>#[#[by decide,by decide],by decide,?_]];have sh:=zc (o:=.lst px) hh;have hTb':=hTab.same ((s1.trans (s2.trans (s4.trans s'))).trans sh);obtain⟨tp,htp,_⟩:=id hTb';rw[show n / 4 % 4=((n / 4 % 4).toNat:Int) by lia];exact#[o,hd,k.toNat,l,ws,rs,u,v,_,m,rfl,ho.same sh,hG,#[px,ze,Iss.same sh _ _ hPi],by lia,λp hp=>#[by have:=hPG.s p hp;lia,by have:=hPG.s p hp;lia,(hPG.s p hp).2.2],by lia,hvl,hui,hvi,by lia,by lia,hTb,hEq,hTb',λp H'' sT h=>#[(hP'.same sh).samT sT htp,p,.inl h,rfl],λp S ss H'' sT h1 h2 h3 h4=>#[(hP'.same sh).samT sT htp,p,.inr #[S,h1,ss,h2,h3,h4],rfl]]
  rintro σ H7 ⟨fp,hP7,hc,rfl⟩:_;right;refine zj (λσ H'=>Same H7 H'/\σ=[AK (.ref a),AK (.int k),AK (.str (tx l)),AK (.ref W),AK (.int n),AK (.ref pa),AK (.str (tx u)),AK (.str (tx v)),AK (.int (m:Nat)),AK (.ref fp)]) ?_ ?_
  ·rfl'
   exact#[by lia,fp,_,rfl,hc.elim .inl (λ⟨S,ss,h1,h2,_⟩=>.inr #[S,ss,h1,h2]),λH' s'=>#[AM,rfl,U5 s']]
  rintro σ H8 ⟨s8,rfl⟩:_;right;rcases hc with h | ⟨S,ss,h1,h2,h3,h4⟩
  ·refine zj (λσ H'=>H'=H8/\σ=[AK (.ref a),AK (.int k),AK (.str (tx l)),AK (.ref W),AK (.int n),AK (.ref pa),AK (.str (tx u)),AK (.str (tx v)),AK (.int (m:Nat)),AK (.ref fp)]) ?_ ?_
   ·rfl'
    exact#[_,SqT.of (s8 _ _ h),_,rfl,rfl,yx (λz=>absurd z (by decide)) λ_=>trivial]
   rintro σ H9 ⟨rfl,rfl⟩:_;right
   rfl'
   exact#[_,SqT.of (s8 _ _ h),_,rfl,rfl,q _]
  ·refine UB (λ_ _=>False) ?_ λ_ _ h=>h.elim
   rfl'
   exact#[_,SqT.of (s8 _ _ h1),_,rfl,rfl,yx (λ_=>#[_,SqT.of (s8 _ _ h1),_,rfl,Ue (hP7.same s8).is hPG.ok (by lia) (h2.same s8).is (by lia) h4 #[rfl,by rw[decide_eq_true rfl];exact q _]]) λz=>absurd rfl z]
end
def FnE(K:rT)(x q:si)(st:sr)(f:rV):Prop:=∃fd,Fun K x q st f fd
def FnA(K:rT)(x:si)(st:sr)(f:rV):Prop:=av K rQ x=AK (AK (.ref f))/\FnE K x x st f
theorem FnA.mk{K:rT}{x:si}{st:sr}{h:sq}{mg:si->Option rW}(q:FnA K x st f)(X:K.In h)(G:h.Ns rQ mg):mg x=AK (.ref f)/\aH K (.ref f)=AM/\FnE K x x st f:=by
 obtain⟨a,fd,F⟩:=q;exact#[aE X G a,F.kp,fd,F]
theorem Yz{us:List rW}(h:us.length=1):∃a,us=[a]:=List.length_eq_one_iff.mp h
theorem vo{us:List rW}(h:us.length=2):∃a0 a1,us=[a0,a1]:=by
 cases us with
 | nil=>cases h
 | cons a r =>
  obtain⟨a1,rfl⟩:=Yz (Nat.succ.inj h);exact#[a,a1,rfl]
theorem Za{us:List rW}(h:us.length=3):∃a0 a1 a2,us=[a0,a1,a2]:=by
 cases us with
 | nil=>cases h
 | cons a r =>
  obtain⟨a1,a2,rfl⟩:=vo (Nat.succ.inj h);exact#[a,a1,a2,rfl]
theorem zaE{us:List rW}(h:us.length=4):∃a0 a1 a2 a3,us=[a0,a1,a2,a3]:=by
 cases us with
 | nil=>cases h
 | cons a r =>
  obtain⟨a1,a2,a3,rfl⟩:=Za (Nat.succ.inj h);exact#[a,a1,a2,a3,rfl]
theorem zfp{us:List rW}(h:us.length=5):∃a0 a1 a2 a3 a4,us=[a0,a1,a2,a3,a4]:=by
 cases us with
 | nil=>cases h
 | cons a r =>
  obtain⟨a1,a2,a3,a4,rfl⟩:=zaE (Nat.succ.inj h);exact#[a,a1,a2,a3,a4,rfl]
theorem zfN{us:List rW}(h:us.length=6):∃a0 a1 a2 a3 a4 a5,us=[a0,a1,a2,a3,a4,a5]:=by
 cases us with
 | nil=>cases h
 | cons a r =>
  obtain⟨a1,a2,a3,a4,a5,rfl⟩:=zfp (Nat.succ.inj h);exact#[a,a1,a2,a3,a4,a5,rfl]
theorem zgz{us:List rW}(h:us.length=7):∃a0 a1 a2 a3 a4 a5 a6,us=[a0,a1,a2,a3,a4,a5,a6]:=by
 cases us with
 | nil=>cases h
 | cons a r =>
  obtain⟨a1,a2,a3,a4,a5,a6,rfl⟩:=zfN (Nat.succ.inj h);exact#[a,a1,a2,a3,a4,a5,a6,rfl]
theorem dfm(P:sf)(w:sj){K:rT}{mg:si->Option rW}(base:sq){CX:CXT}{nm:si}{ps:List si}{sp:Sp}(h:zP P w K mg base CX k f fd ps sp)(m:mg nm=AK (.ref f))(p:aH K (.ref f)=AM)(b:Binds K fd ps []):Df P w K mg base CX k nm ps [] sp:=#[_,_,h,m,p,b]
local macro_rules | `(tactic| injections)=>`(tactic| (intro _ _ _ _ _ _ us hl;first | (obtain⟨_,e⟩:=Yz hl;subst e;rfl) | (obtain⟨_,_,e⟩:=vo hl;subst e;rfl) | (obtain⟨_,_,_,e⟩:=Za hl;subst e;rfl) | (obtain⟨_,_,_,_,e⟩:=zaE hl;subst e;rfl) | (obtain⟨_,_,_,_,_,e⟩:=zfp hl;subst e;rfl) | (obtain⟨_,_,_,_,_,_,e⟩:=zfN hl;subst e;rfl)))
theorem all_mk{l:PySem.W.OpenLaw}{w:sj}{K:rT}{h:sq}{mg:si->Option rW}{fa f0 f1 f2 f3 f4 f5 f6 f7 f8 f9 f10 f11 f12 f13 f14 f15 f16 f17 f18 f19 f20 f21 f22 f23 f24 f25 f26 f27 f28 f29 f30 f31 f32 f33 f34 f35 f36 f37 f38 f39 f40 f41 f42 f43 f44 f45 f46 f47 f48 f49 f50 f51 f52 f53 f54 f55 f56 pB gf gm fZ fY fX gc gd gr ge gn gb gp:rV}{cc TB:rV}(X:K.In h)(G:h.Ns rQ mg)(hfa:mg "law" = AK (.ref fa))(hlam:∃a o fd,mg "in_order" = AK (.ref a)/\h.get? a=AK o/\o.data=.func fd/\fd.code=.ref cc)(hgT:rQ≠TB)
{od6 an6 od12 an12 od35 an35 od56 an56:Option rV}{sl6 sl12 sl35 sl56:Array (Option rW)}{oc6 kV6 dc6 pm6 cd6 ct6 oc12 kV12 dc12 pm12 cd12 ct12 oc35 kV35 dc35 pm35 cd35 ct35 oc56 kV56 dc56 pm56 cd56 ct56:rW}
  {t6 t7:tP}
  {fI:rV}
  {odI anI:Option rV}
  {slI:Array (Option rW)}
  {ocI kVI dcI pmI cdI ctI:rW}
  {t8:tP}
  {fU:rV}
  {odU anU:Option rV}
  {slU:Array (Option rW)}
  {ocU kVU dcU pmU cdU ctU:rW}
  {t9:tP}
  {tmt:tP}
  {tmu tms tmd tmp:tP}
  {tcu tce tcd tcp:tP}
  {tju tjs:tP}
  {gG:rV}
  {gY:rV}
  {iD:rV}
  {im:rV}
  {io:rV}
  {gN:rV}
  {gH:rV}
  {gw:rV}
  {lh:rV}
  {gA:rV}
  {lE:rV}
  {lm:rV}
  {mh:rV}
  {iK:rV}
  {iL:rV}
  {nR:rV}
  {iI:tP}
  {d1_gone:rW}
  {d2_gone:Option rV}
  {d3_gone:Nat}
  {d4_gone:Array (Option rW)}
  {mV:rV}
  {mU:tP}
  {d1_unmet:rW}
  {d2_unmet:Option rV}
  {d3_unmet:Nat}
  {d4_unmet:Array (Option rW)}
  (a0:FnA K "is_small_letter" yO f0)
  (a1:FnA K "letters_of" wJ f1)
  (a2:FnA K "stands_at" vF f2)
  (a3:FnA K "put" za5 f3)
  (a4:FnA K "first_within" xG f4)
  (a5:FnA K "first_from" wB f5)
  (a6:av K rQ "gone" = AK (AK (.ref f6))) (l6:K.lookup f6=AK #[oc6,od6,.func (bt "gone" "gone" (yF vw) (yg vw) (zh vw) (.ref nR) kV6 dc6 pm6 an6 cd6 ct6),sl6]) (k6:bR K cd6 "gone" = AM) (p6:aH K (.ref f6)=AM)
  (a7:FnA K "back" X2 f7)
  (a8:FnA K "moved" kE f8)
  (a9:FnA K "by_pacts" um f9)
  (a10:FnA K "pairs_of" vc f10)
  (a11:FnA K "as_rule" qB f11)
  (a12:av K rQ "in_order" = AK (AK (.ref f12))) (l12:K.lookup f12=AK #[oc12,od12,.func (bt "in_order" "in_order" (yF yA) (yg yA) (zh yA) .none kV12 dc12 pm12 an12 cd12 ct12),sl12]) (k12:bR K cd12 "in_order" = AM) (p12:aH K (.ref f12)=AM)
  (a13:FnA K "brought_down" xB f13)
  (a14:FnA K "refuse_beyond" xh f14)
  (a15:FnA K "built_anew" wF f15)
  (a16:FnA K "thinned" ji f16)
  (a17:FnA K "_law_cell" Q9 f17)
  (a18:FnA K "_law_mixed" Xo f18)
  (a19:FnA K "_law_letters" qT f19)
  (a20:FnA K "_law_word" UN f20)
  (a21:FnA K "_law_pair" Uz f21)
  (a22:FnA K "_law_whole" YV f22)
  (a23:FnA K "_law_steps" Y3 f23)
  (a24:FnA K "_law_used" VH f24)
  (a25:FnA K "_law_uses" QL f25)
  (a26:FnA K "_law_chain" Y2 f26)
  (a27:FnA K "_law_end" zcd f27)
  (a28:FnA K "_law_order" Xn f28)
  (a29:FnA K "_law_draw" VM f29)
  (a30:FnA K "agree" YK f30)
  (a31:FnA K "overlaps" uz f31)
  (a32:FnA K "peak" QV f32)
  (a33:FnA K "form_of" qY f33)
  (a34:FnA K "is_met" ZA f34)
  (a35:av K rQ "unmet" = AK (AK (.ref f35))) (l35:K.lookup f35=AK #[oc35,od35,.func (bt "unmet" "unmet" (yF xH) (yg xH) (zh xH) (.ref mV) kV35 dc35 pm35 an35 cd35 ct35),sl35]) (k35:bR K cd35 "unmet" = AM) (p35:aH K (.ref f35)=AM)
  (a36:FnA K "system_by" vJ f36)
  (a37:FnA K "first_entries" yG f37)
  (a38:FnA K "is_beyond" xV f38)
  (a39:FnA K "thinned_within" yU f39)
  (a40:FnA K "unmet_within" xx f40)
  (a41:FnA K "entry_of" ur f41)
  (a42:FnA K "completed" wn f42)
  (a43:FnA K "table_of" vf f43)
  (a44:FnA K "table_count" x0 f44)
  (a45:FnA K "tables_within" xo f45)
  (a46:FnA K "table_at" ve f46)
  (a47:FnA K "tells_apart" wm f47)
  (a48:FnA K "world_apart" wk f48)
  (a49:FnA K "gone_within" wb f49)
  (a50:FnA K "judged_by_roads" yN f50)
  (a51:FnA K "judged_by_worlds" yH f51)
  (a52:FnA K "judged" kr f52)
  (a53:FnA K "_law_entries" Ya f53)
  (a54:FnA K "_law_table_ok" jZ f54)
  (a55:FnA K "_law_answer" kH f55)
  (a56:av K rQ "law" = AK (AK (.ref f56))) (l56:K.lookup f56=AK #[oc56,od56,.func (bt "law" "law" (yF jV) (yg jV) (zh jV) .none kV56 dc56 pm56 an56 cd56 ct56),sl56]) (k56:bR K cd56 "law" = AM) (p56:aH K (.ref f56)=AM)
  (g_LetterError:av K rQ "LetterError" = AK (AK (.ref pB)))
  (g_NoLetters:av K rQ "NoLetters" = AK (AK (.ref gf)))
  (g_NoOrder:av K rQ "NoOrder" = AK (AK (.ref gm)))
  (g_Order:av K rQ "Order" = AK (AK (.ref fZ)))
  (g_FromRight:av K rQ "FromRight" = AK (AK (.ref fY)))
  (g_ByWeights:av K rQ "ByWeights" = AK (AK (.ref fX)))
  (g_NotTurned:av K rQ "NotTurned" = AK (AK (.ref gc)))
  (g_System:av K rQ "System" = AK (AK (.ref gd)))
  (g_NoUse:av K rQ "NoUse" = AK (AK (.ref gr)))
  (g_TooFar:av K rQ "TooFar" = AK (AK (.ref ge)))
  (g_NoWorld:av K rQ "NoWorld" = AK (AK (.ref gn)))
  (g_World:av K rQ "World" = AK (AK (.ref gb)))
  (g_TooMany:av K rQ "TooMany" = AK (AK (.ref gp)))
  (kbb:aQ K (.type "bool") (.type "bool")=AK AM)
  (kt:aQ K (.type "tuple") (.type "tuple")=AK AM)
  (ki:aQ K (.type "int") (.type "int")=AK AM)
  (kb:aQ K (.type "int") (.type "bool")=AK AN)
  (kl:aQ K (.type "list") (.type "list")=AK AM)
  (x7:cC K (.builtin "object.__class__") "__get__" = AK (AK (.builtin "getset_descriptor.__get__")))
  (x8:dv K (.builtin "object.__class__")=AK AM)
  (x1:ZK K gf=AM)
  (x2:ac K (.ref gf) "__setattr__" = AK (AK (.builtin "object.__setattr__")))
  (x3:ac K (.ref gf) "__getattribute__" = AK (AK (.builtin "BaseException.__getattribute__")))
  (x4:ac K (.ref gf) "__getattr__" = AK AL)
  (x5:aH K (.ref gf)=AM)
  (x6:ac K (.ref gf) "__class__" = AK (AK (.builtin "object.__class__")))
  (x9:bA K gf (.type "object")=AK AM)
  (xi:ac K (.ref gf) "__init__" = AK (AK (.builtin "ValueError.__init__")))
  (y1:ZK K gm=AM)
  (y2:ac K (.ref gm) "__setattr__" = AK (AK (.builtin "object.__setattr__")))
  (y3:ac K (.ref gm) "__getattribute__" = AK (AK (.builtin "BaseException.__getattribute__")))
  (y4:ac K (.ref gm) "__getattr__" = AK AL)
  (y5:aH K (.ref gm)=AM)
  (y6:ac K (.ref gm) "__class__" = AK (AK (.builtin "object.__class__")))
  (y9:bA K gm (.type "object")=AK AM)
  (yi:ac K (.ref gm) "__init__" = AK (AK (.builtin "ValueError.__init__")))
  (most:av K rQ "MOST_LETTERS" = AK (AK (.int 6 t6)))
  (mostw:av K rQ "MOST_WEIGHT" = AK (AK (.int 1000000 t7)))
  (oj:bM K fZ dW=AM)
  (om:bH K fZ=AM)
  (oo:cp K fZ=AM)
  (oq:ac K (.ref fZ) "__setattr__" = AK (AK (.builtin "object.__setattr__")))
  (ot:cy K fZ=AM)
  (ou:aH K (.ref fZ)=AM)
  (ow:ac K (.ref fZ) "letters" = AK AL)
  (pN:aQ K (.ref fZ) (.ref fZ)=AK AM)
  (pO:ac K (.ref fZ) "__class__" = AK (AK (.builtin "object.__class__")))
  (pP:bA K fZ (.type "object")=AK AM)
  (mi:bM K fY dW=AM)
  (mj:bH K fY=AM)
  (ml:cp K fY=AM)
  (mm:ac K (.ref fY) "__setattr__" = AK (AK (.builtin "object.__setattr__")))
  (mq:cy K fY=AM)
  (mr:aH K (.ref fY)=AM)
  (mv:ac K (.ref fY) "letters" = AK AL)
  (nC:aQ K (.ref fY) (.ref fZ)=AK AM)
  (nE:ac K (.ref fY) "__class__" = AK (AK (.builtin "object.__class__")))
  (nF:bA K fY (.type "object")=AK AM)
  (mw:bM K fX dW=AM)
  (mx:bH K fX=AM)
  (my:cp K fX=AM)
  (mz:ac K (.ref fX) "__setattr__" = AK (AK (.builtin "object.__setattr__")))
  (mB:cy K fX=AM)
  (mC:aH K (.ref fX)=AM)
  (mD:ac K (.ref fX) "letters" = AK AL)
  (nG:aQ K (.ref fX) (.ref fZ)=AK AM)
  (nH:ac K (.ref fX) "__class__" = AK (AK (.builtin "object.__class__")))
  (nI:bA K fX (.type "object")=AK AM)
  (nw_ByWeights:ac K (.ref fX) "weights" = AK AL)
  (sgO:cC K (.ref fZ) "__getattribute__" = AK (AK (.builtin "type.__getattribute__")))
  (rdO:fQ K fZ (.type "type")=AM)
  (win:av K rQ "WINDOW" = AK (AK (.int 128 t8)))
  (tt1:ZK K gc=AM)
  (tt2:ac K (.ref gc) "__setattr__" = AK (AK (.builtin "object.__setattr__")))
  (tt3:ac K (.ref gc) "__getattribute__" = AK (AK (.builtin "BaseException.__getattribute__")))
  (tt4:ac K (.ref gc) "__getattr__" = AK AL)
  (tt5:aH K (.ref gc)=AM)
  (tt6:ac K (.ref gc) "__class__" = AK (AK (.builtin "object.__class__")))
  (tt9:bA K gc (.type "object")=AK AM)
  (nn:ac K (.ref gc) "number" = AK AL)
  (ini:ac K (.ref gc) "__init__" = AK (AK (.ref fI)))
  (lI:K.lookup fI=AK #[ocI,odI,.func (bt "__init__" "NotTurned.__init__" (yF zW) (yg zW) (zh zW) .none kVI dcI pmI anI cdI ctI),slI])
  (kI:bR K cdI "NotTurned.__init__" = AM)
  (pI:aH K (.ref fI)=AM)
  (fnI:aR K (.ref fI)=AM)
  (nJ:bM K gd dW=AM)
  (nL:bH K gd=AM)
  (nM:cp K gd=AM)
  (nN:ac K (.ref gd) "__setattr__" = AK (AK (.builtin "object.__setattr__")))
  (nO:cy K gd=AM)
  (nP:aH K (.ref gd)=AM)
  (no_System:ac K (.ref gd) "order" = AK AL)
  (nr_System:ac K (.ref gd) "rules" = AK AL)
  (u1:ZK K gr=AM)
  (u2:ac K (.ref gr) "__setattr__" = AK (AK (.builtin "object.__setattr__")))
  (u3:ac K (.ref gr) "__getattribute__" = AK (AK (.builtin "BaseException.__getattribute__")))
  (u4:ac K (.ref gr) "__getattr__" = AK AL)
  (u5:aH K (.ref gr)=AM)
  (u6:ac K (.ref gr) "__class__" = AK (AK (.builtin "object.__class__")))
  (u9:bA K gr (.type "object")=AK AM)
  (ua:ac K (.ref gr) "at" = AK AL)
  (iniU:ac K (.ref gr) "__init__" = AK (AK (.ref fU)))
  (lU:K.lookup fU=AK #[ocU,odU,.func (bt "__init__" "NoUse.__init__" (yF yB) (yg yB) (zh yB) .none kVU dcU pmU anU cdU ctU),slU])
  (kU:bR K cdU "NoUse.__init__" = AM)
  (pU:aH K (.ref fU)=AM)
  (fnU:aR K (.ref fU)=AM)
  (v1:ZK K ge=AM)
  (v2:ac K (.ref ge) "__setattr__" = AK (AK (.builtin "object.__setattr__")))
  (v3:ac K (.ref ge) "__getattribute__" = AK (AK (.builtin "BaseException.__getattribute__")))
  (v4:ac K (.ref ge) "__getattr__" = AK AL)
  (v5:aH K (.ref ge)=AM)
  (v6:ac K (.ref ge) "__class__" = AK (AK (.builtin "object.__class__")))
  (v9:bA K ge (.type "object")=AK AM)
  (vi:ac K (.ref ge) "__init__" = AK (AK (.builtin "ValueError.__init__")))
  (sFF:cK K (.ref ge) (.ref ge)=AK AM)
  (nw1:ZK K gn=AM)
  (nw2:ac K (.ref gn) "__setattr__" = AK (AK (.builtin "object.__setattr__")))
  (nw3:ac K (.ref gn) "__getattribute__" = AK (AK (.builtin "BaseException.__getattribute__")))
  (nw4:ac K (.ref gn) "__getattr__" = AK AL)
  (nw5:aH K (.ref gn)=AM)
  (nw6:ac K (.ref gn) "__class__" = AK (AK (.builtin "object.__class__")))
  (nw9:bA K gn (.type "object")=AK AM)
  (nwi:ac K (.ref gn) "__init__" = AK (AK (.builtin "ValueError.__init__")))
  (mostr:av K rQ "MOST_ROOMS" = AK (AK (.int 8 t9)))
  (oy:bM K gb dW=AM)
  (oz:bH K gb=AM)
  (oB:cp K gb=AM)
  (oE:ac K (.ref gb) "__setattr__" = AK (AK (.builtin "object.__setattr__")))
  (oF:cy K gb=AM)
  (oG:aH K (.ref gb)=AM)
  (oH:ac K (.ref gb) "letters" = AK AL)
  (nt_World:ac K (.ref gb) "table" = AK AL)
  (w1:ZK K gp=AM)
  (w2:ac K (.ref gp) "__setattr__" = AK (AK (.builtin "object.__setattr__")))
  (w3:ac K (.ref gp) "__getattribute__" = AK (AK (.builtin "BaseException.__getattribute__")))
  (w4:ac K (.ref gp) "__getattr__" = AK AL)
  (w5:aH K (.ref gp)=AM)
  (w6:ac K (.ref gp) "__class__" = AK (AK (.builtin "object.__class__")))
  (w9:bA K gp (.type "object")=AK AM)
  (wi:ac K (.ref gp) "__init__" = AK (AK (.builtin "ValueError.__init__")))
  (mostt:av K rQ "MOST_TABLES" = AK (AK (.int 1000 tmt)))
  (ks:aQ K (.type "str") (.type "str")=AK AM)
  (nany:av K rQ "any" = AK AL)
  (nsorted:av K rQ "sorted" = AK AL)
  (mou:av K rQ "MOST_USES_thinning" = AK (AK (.int 40 tmu)))
  (mos:av K rQ "MOST_STEPS_thinning" = AK (AK (.int 240 tms)))
  (mod_:av K rQ "MOST_SIDE_thinning" = AK (AK (.int 60 tmd)))
  (mop:av K rQ "MOST_PASSES" = AK (AK (.int 20 tmp)))
  (mcu:av K rQ "MOST_USES_completing" = AK (AK (.int 40 tcu)))
  (mce:av K rQ "MOST_ENTRIES" = AK (AK (.int 12 tce)))
  (mcd:av K rQ "MOST_SIDE_completing" = AK (AK (.int 10 tcd)))
  (mcp:av K rQ "MOST_PEAKS" = AK (AK (.int 8 tcp)))
  (mju:av K rQ "MOST_USES_judging" = AK (AK (.int 40 tju)))
  (mjs:av K rQ "MOST_STEPS_judging" = AK (AK (.int 2000 tjs)))
  (lF:ac K (.ref fZ) "__init__" = AK (AK (.ref gG)))
  (lG:FnE K "__init__" "Order.__init__" wY gG)
  (iE:aR K (.ref gG)=AM)
  (iM:ac K (.ref fZ) "weight" = AK (AK (.ref gY)))
  (iN:FnE K "weight" "Order.weight" xz gY)
  (gZ:aR K (.ref gY)=AM)
  (lH:ac K (.ref fZ) "seen" = AK (AK (.ref iD)))
  (lJ:FnE K "seen" "Order.seen" wP iD)
  (iF:aR K (.ref iD)=AM)
  (ip:ac K (.ref fY) "seen" = AK (AK (.ref im)))
  (iq:FnE K "seen" "FromRight.seen" y0 im)
  (ir:aR K (.ref im)=AM)
  (iu:ac K (.ref fX) "__init__" = AK (AK (.ref io)))
  (iw:FnE K "__init__" "ByWeights.__init__" yZ io)
  (iz:aR K (.ref io)=AM)
  (gP:ac K (.ref fX) "weight" = AK (AK (.ref gN)))
  (gQ:FnE K "weight" "ByWeights.weight" yl gN)
  (gT:aR K (.ref gN)=AM)
  (lK:ac K (.ref fZ) "rank" = AK (AK (.ref gH)))
  (lL:FnE K "rank" "Order.rank" xt gH)
  (gJ:aR K (.ref gH)=AM)
  (iO:ac K (.ref fZ) "before" = AK (AK (.ref gw)))
  (iP:FnE K "before" "Order.before" xE gw)
  (gx:aR K (.ref gw)=AM)
  (ln:ac K (.ref gd) "__init__" = AK (AK (.ref lh)))
  (lr:FnE K "__init__" "System.__init__" wc lh)
  (lu:aR K (.ref lh)=AM)
  (gB:ac K (.ref gd) "rules_told" = AK (AK (.ref gA)))
  (gC:FnE K "rules_told" "System.rules_told" yz gA)
  (gD:aR K (.ref gA)=AM)
  (lM:ac K (.ref gb) "__init__" = AK (AK (.ref lE)))
  (lN:FnE K "__init__" "World.__init__" wD lE)
  (lP:aR K (.ref lE)=AM)
  (lv:ac K (.ref gb) "rooms" = AK (AK (.ref lm)))
  (lw:FnE K "rooms" "World.rooms" wl lm)
  (lx:aR K (.ref lm)=AM)
  (mE:ac K (.ref gb) "led" = AK (AK (.ref mh)))
  (mF:FnE K "led" "World.led" vC mh)
  (mG:aR K (.ref mh)=AM)
  (iQ:ac K (.ref gb) "parted" = AK (AK (.ref iK)))
  (iR:FnE K "parted" "World.parted" xF iK)
  (iS:aR K (.ref iK)=AM)
  (iT:ac K (.ref gb) "broken" = AK (AK (.ref iL)))
  (iU:FnE K "broken" "World.broken" xv iL)
  (iV:aR K (.ref iL)=AM)
  (nS:K.lookup nR=AK #[d1_gone,d2_gone,.seq #[.int 4000 iI] d3_gone,d4_gone])
  (mX:K.lookup mV=AK #[d1_unmet,d2_unmet,.seq #[.int 4000 mU] d3_unmet,d4_unmet])
  (fcO:fR K (.ref fZ) (.type "type") "__init__" = AK (.val (.ref gG)))
  (fiR_init:ac K (.ref fY) "__init__" = AK (AK (.ref gG)))
  (fiR_weight:ac K (.ref fY) "weight" = AK (AK (.ref gY)))
  (fiW_seen:ac K (.ref fX) "seen" = AK (AK (.ref iD)))
  (fiR_rank:ac K (.ref fY) "rank" = AK (AK (.ref gH)))
  (fiW_rank:ac K (.ref fX) "rank" = AK (AK (.ref gH)))
  (fiR_before:ac K (.ref fY) "before" = AK (AK (.ref gw)))
  (fiW_before:ac K (.ref fX) "before" = AK (AK (.ref gw)))
  (b0:av K rQ "len" = AK AL)
  (b1:av K rQ "range" = AK AL)
  (b2:av K rQ "isinstance" = AK AL)
  (b3:av K rQ "str" = AK AL)
  (b4:av K rQ "int" = AK AL)
  (b5:av K rQ "tuple" = AK AL)
  (b6:av K rQ "list" = AK AL)
  (b7:av K rQ "bool" = AK AL)
  (b8:av K rQ "enumerate" = AK AL)
  (b9:av K rQ "all" = AK AL)
  (b10:av K rQ "ValueError" = AK AL)
  (b11:av K rQ "max" = AK AL)
  (b12:av K rQ "reversed" = AK AL)
  (b13:av K rQ "zip" = AK AL)
  (b14:av K rQ "sum" = AK AL)
  (b15:av K rQ "sorted" = AK AL)
  : ∃fd:rY,(∀(s:rX) (v:rW),Aj s fd #[[v],[]] [("_law_script",v)])/\∀base:sq,K.In base->base.Ns rQ mg->base.BuiltinsAt mg TB->PySem.W.CodeHd base cc TB->zP l.prog w K mg base CX0 12 fa fd ["_law_script"] (Wd K TB):=by
 have e:=hfa.symm.trans (aE X G a56);cases e;have B:Bt mg:=#[aM X G b0,aM X G b1,aM X G b2,aM X G b3,aM X G b4,aM X G b5,aM X G b6,aM X G b7,aM X G b8,aM X G b9,aM X G b10,aM X G b11,aM X G b12,aM X G b13,aM X G b14,aM X G b15];obtain⟨M0,p0,_,F0⟩:=a0.mk X G;have B0:=F0.binds (ps:=["sign"]) (by injections);obtain⟨M1,p1,_,F1⟩:=a1.mk X G;have B1:=F1.binds (ps:=["text"]) (by injections);obtain⟨M2,p2,_,F2⟩:=a2.mk X G;have B2:=F2.binds (ps:=["word","place","part"]) (by injections);obtain⟨M3,p3,_,F3⟩:=a3.mk X G;have B3:=F3.binds (ps:=["word","place","old","new"]) (by injections);obtain⟨M4,p4,_,F4⟩:=a4.mk X G;have B4:=F4.binds (ps:=["rules","word","start","end"]) (by injections);obtain⟨M5,p5,_,F5⟩:=a5.mk X G;have B5:=F5.binds (ps:=["rules","word","start"]) (by injections);have F6:FunD K "gone" "gone" vw (.ref nR) f6 (bt "gone" "gone" (yF vw) (yg vw) (zh vw) (.ref nR) kV6 dc6 pm6 an6 cd6 ct6):=⟨#[_,_,_,_,_,_,_,_,_,rfl,l6,k6]⟩;have M6:=aE X G a6;obtain⟨M7,p7,_,F7⟩:=a7.mk X G;have B7:=F7.binds (ps:=["steps"]) (by injections);obtain⟨M8,p8,_,F8⟩:=a8.mk X G;have B8:=F8.binds (ps:=["steps","size"]) (by injections);obtain⟨M9,p9,_,F9⟩:=a9.mk X G;have B9:=F9.binds (ps:=["entries","steps"]) (by injections);obtain⟨M10,p10,_,F10⟩:=a10.mk X G;have B10:=F10.binds (ps:=["entries"]) (by injections);obtain⟨M11,p11,_,F11⟩:=a11.mk X G;have B11:=F11.binds (ps:=["order","entry"]) (by injections);have F12:=fun_mk (st:=yA) l12 k12 p12;have B12:=F12.binds (ps:=["order","entries"]) (by injections);have M12:=aE X G a12;obtain⟨M13,p13,_,F13⟩:=a13.mk X G;have B13:=F13.binds (ps:=["entries","entry"]) (by injections);obtain⟨M14,p14,_,F14⟩:=a14.mk X G;have B14:=F14.binds (ps:=["entry"]) (by injections);obtain⟨M15,p15,_,F15⟩:=a15.mk X G;have B15:=F15.binds (ps:=["order","entries"]) (by injections);obtain⟨M16,p16,_,F16⟩:=a16.mk X G;have B16:=F16.binds (ps:=["order","entries"]) (by injections);obtain⟨M17,p17,_,F17⟩:=a17.mk X G;have B17:=F17.binds (ps:=["_law_script","_law_k"]) (by injections);obtain⟨M18,p18,_,F18⟩:=a18.mk X G;have B18:=F18.binds (ps:=["_law_cell_here","_law_turn"]) (by injections);obtain⟨M19,p19,_,F19⟩:=a19.mk X G;have B19:=F19.binds (ps:=["_law_cell_here","_law_many"]) (by injections);obtain⟨M20,p20,_,F20⟩:=a20.mk X G;have B20:=F20.binds (ps:=["_law_number","_law_letters_here","_law_most"]) (by injections);obtain⟨M21,p21,_,F21⟩:=a21.mk X G;have B21:=F21.binds (ps:=["_law_cell_here","_law_letters_here","_law_most"]) (by injections);obtain⟨M22,p22,_,F22⟩:=a22.mk X G;have B22:=F22.binds (ps:=["_law_found"]) (by injections);obtain⟨M23,p23,_,F23⟩:=a23.mk X G;have B23:=F23.binds (ps:=["_law_found"]) (by injections);obtain⟨M24,p24,_,F24⟩:=a24.mk X G;have B24:=F24.binds (ps:=["_law_pacts","_law_word_here","_law_step"]) (by injections);obtain⟨M25,p25,_,F25⟩:=a25.mk X G;have B25:=F25.binds (ps:=["_law_pacts","_law_word_here","_law_most"]) (by injections);obtain⟨M26,p26,_,F26⟩:=a26.mk X G;have B26:=F26.binds (ps:=["_law_pacts","_law_word_here","_law_cells","_law_most"]) (by injections);obtain⟨M27,p27,_,F27⟩:=a27.mk X G;have B27:=F27.binds (ps:=["_law_pacts","_law_word_here","_law_steps_here"]) (by injections);obtain⟨M28,p28,_,F28⟩:=a28.mk X G;have B28:=F28.binds (ps:=["_law_kind","_law_letters_here","_law_weights"]) (by injections);obtain⟨M29,p29,_,F29⟩:=a29.mk X G;have B29:=F29.binds (ps:=["_law_cell_here"]) (by injections);obtain⟨M30,p30,_,F30⟩:=a30.mk X G;have B30:=F30.binds (ps:=["one","other","place"]) (by injections);obtain⟨M31,p31,_,F31⟩:=a31.mk X G;have B31:=F31.binds (ps:=["rules"]) (by injections);obtain⟨M32,p32,_,F32⟩:=a32.mk X G;have B32:=F32.binds (ps:=["rules","overlap"]) (by injections);obtain⟨M33,p33,_,F33⟩:=a33.mk X G;have B33:=F33.binds (ps:=["rules","word","most","forms"]) (by injections);obtain⟨M34,p34,_,F34⟩:=a34.mk X G;have B34:=F34.binds (ps:=["rules","overlap","most","forms"]) (by injections);have F35:FunD K "unmet" "unmet" xH (.ref mV) f35 (bt "unmet" "unmet" (yF xH) (yg xH) (zh xH) (.ref mV) kV35 dc35 pm35 an35 cd35 ct35):=⟨#[_,_,_,_,_,_,_,_,_,rfl,l35,k35]⟩;have M35:=aE X G a35;obtain⟨M36,p36,_,F36⟩:=a36.mk X G;have B36:=F36.binds (ps:=["order","entries"]) (by injections);obtain⟨M37,p37,_,F37⟩:=a37.mk X G;have B37:=F37.binds (ps:=["pacts"]) (by injections);obtain⟨M38,p38,_,F38⟩:=a38.mk X G;have B38:=F38.binds (ps:=["entries"]) (by injections);obtain⟨M39,p39,_,F39⟩:=a39.mk X G;have B39:=F39.binds (ps:=["order","entries"]) (by injections);obtain⟨M40,p40,_,F40⟩:=a40.mk X G;have B40:=F40.binds (ps:=["order","entries"]) (by injections);obtain⟨M41,p41,_,F41⟩:=a41.mk X G;have B41:=F41.binds (ps:=["entries","overlap"]) (by injections);obtain⟨M42,p42,_,F42⟩:=a42.mk X G;have B42:=F42.binds (ps:=["order","pacts","rounds"]) (by injections);obtain⟨M43,p43,_,F43⟩:=a43.mk X G;have B43:=F43.binds (ps:=["letters","table"]) (by injections);obtain⟨M44,p44,_,F44⟩:=a44.mk X G;have B44:=F44.binds (ps:=["letters","rooms"]) (by injections);obtain⟨M45,p45,_,F45⟩:=a45.mk X G;have B45:=F45.binds (ps:=["letters","rooms"]) (by injections);obtain⟨M46,p46,_,F46⟩:=a46.mk X G;have B46:=F46.binds (ps:=["letters","rooms","number"]) (by injections);obtain⟨M47,p47,_,F47⟩:=a47.mk X G;have B47:=F47.binds (ps:=["world","pacts","one","other"]) (by injections);obtain⟨M48,p48,_,F48⟩:=a48.mk X G;have B48:=F48.binds (ps:=["letters","pacts","one","other","most"]) (by injections);obtain⟨M49,p49,_,F49⟩:=a49.mk X G;have B49:=F49.binds (ps:=["entries","word"]) (by injections);obtain⟨M50,p50,_,F50⟩:=a50.mk X G;have B50:=F50.binds (ps:=["whole","kept","one","other"]) (by injections);obtain⟨M51,p51,_,F51⟩:=a51.mk X G;have B51:=F51.binds (ps:=["letters","pacts","one","other","most"]) (by injections);obtain⟨M52,p52,_,F52⟩:=a52.mk X G;have B52:=F52.binds (ps:=["order","pacts","one","other","rounds","most"]) (by injections);obtain⟨M53,p53,_,F53⟩:=a53.mk X G;have B53:=F53.binds (ps:=["_law_found"]) (by injections);obtain⟨M54,p54,_,F54⟩:=a54.mk X G;have B54:=F54.binds (ps:=["_law_table","_law_many"]) (by injections);obtain⟨M55,p55,_,F55⟩:=a55.mk X G;have B55:=F55.binds (ps:=["_law_found","_law_many"]) (by injections);have F56:=fun_mk (st:=jV) l56 k56 p56;have B56:=F56.binds (ps:=["_law_script"]) (by injections);have M56:=aE X G a56
 have HCC:cd12=.ref cc:=by
  obtain⟨ai,oi,fdi,m1,m2,m3,m4⟩:=hlam;have e1:=m1.symm.trans (aE X G a12);cases e1;have e2:=m2.symm.trans (X _ _ l12);cases e2;cases m3;exact m4
 refine#[bt "law" "law" (yF jV) (yg jV) (zh jV) .none kV56 dc56 pm56 an56 cd56 ct56,λs v=>.of_eq rfl,λbase _ _ HBT HCH=>?_];have XIl:XI K gf:=#[#[x1,x2,x3,x4,x5],x6,x7,x8,x9];have XIo:XI K gm:=#[#[y1,y2,y3,y4,y5],y6,x7,x8,y9];have TL:zfT K mg gf:=#[XIl,xi,aE X G g_NoLetters,t6,aE X G most];have TN:zf1 K mg gm:=#[XIo,yi,aE X G g_NoOrder,t7,aE X G mostw];have TO:TOrd K mg fZ fY fX:=#[#[oj,om,oo,oq],#[mi,mj,ml,mm],#[mw,mx,my,mz],aE X G g_Order,aE X G g_FromRight,aE X G g_ByWeights,ow,mv,mD,nw_ByWeights];have XIt:XI K gc:=#[#[tt1,tt2,tt3,tt4,tt5],tt6,x7,x8,tt9];have TNt:TNT K mg gc:=#[XIt,aE X G g_NotTurned,nn];have FI:=fun_mk (st:=zW) lI kI pI;have BI:=FI.binds (ps:=["self","number"]) (by injections);have TD:DNT l.prog w K mg base gc:=#[TNt,_,_,ini,fnI,uB TNt FI,BI];have TS:zeb K mg gd:=#[#[nJ,nL,nM,nN],aE X G g_System,no_System,nr_System];have TWi:zfY mg:=#[t8,aE X G win];have XIu:XI K gr:=#[#[u1,u2,u3,u4,u5],u6,x7,x8,u9];have TNu:TNU K mg gr:=#[XIu,aE X G g_NoUse,ua];have FU:=fun_mk (st:=yB) lU kU pU;have BU:=FU.binds (ps:=["self","at"]) (by injections);have TUd:DNU l.prog w K mg base gr:=#[TNu,_,_,iniU,fnU,ZB TNu FU,BU];have XIf:XI K ge:=#[#[v1,v2,v3,v4,v5],v6,x7,x8,v9];have TF:za6 K mg ge:=#[XIf,vi,aE X G g_TooFar];have XIq:XI K gn:=#[#[nw1,nw2,nw3,nw4,nw5],nw6,x7,x8,nw9];have TNw:zdl K mg gn:=#[XIq,nwi,aE X G g_NoWorld,t9,aE X G mostr];have CLw:KZ K mg gb:=#[#[oy,oz,oB,oE],aE X G g_World,oH,nt_World];have XIm:XI K gp:=#[#[w1,w2,w3,w4,w5],w6,x7,x8,w9];have TM:J7 K mg gp:=#[XIm,wi,aE X G g_TooMany,tmt,aE X G mostt];have TMk:TMo mg:=#[#[tmu,aE X G mou],#[tms,aE X G mos],#[tmd,aE X G mod_],#[tmp,aE X G mop]];have TMcc:TMc mg:=#[#[tcu,aE X G mcu],#[tce,aE X G mce],#[tcd,aE X G mcd],#[tcp,aE X G mcp]];have TMjj:TMj mg:=#[#[tju,aE X G mju],#[tjs,aE X G mjs]];have D0:=dfm l.prog w base (JG F0) M0 p0 B0;have D1:=dfm l.prog w base (kW B TL F1 D0) M1 p1 B1;have D2:=dfm l.prog w base (Yn B F2) M2 p2 B2;have D3:=dfm l.prog w base (zdU B TUd F3 D2) M3 p3 B3;obtain⟨_,gK⟩:=lG;have pC:=gK.kp;have lQ:=gK.binds (ps:=["self","letters"]) (by injections);have pD:DMk l.prog w K mg base CX0 3 fZ ["self","letters"] (qv K):=#[_,_,#[ot,lF,iE,ou],wf B gK D1,lQ];have DI:DOI l.prog w K mg base fZ:=#[_,_,#[sgO,rdO,fcO,pC],wf B gK D1,lQ];obtain⟨_,ic⟩:=iN;have mK:=ic.kp;have mL:=ic.binds (ps:=["self","word"]) (by injections);have oP:DM l.prog w K mg base CX0 1 fZ "weight" ["self","word"] kC:=#[_,_,#[iM,gZ,mK],wG B ic,mL];obtain⟨_,iG⟩:=lJ;have ni:=iG.kp;have nj:=iG.binds (ps:=["self","word"]) (by injections);have pE:DM l.prog w K mg base CX0 1 fZ "seen" ["self","word"] WB:=#[_,_,#[lH,iF,ni],ud B iG,nj];obtain⟨_,iA⟩:=iq;have nV:=iA.kp;have nW:=iA.binds (ps:=["self","word"]) (by injections);have nX:DM l.prog w K mg base CX0 1 fY "seen" ["self","word"] Xm:=#[_,_,#[ip,ir,nV],uH B iA,nW];obtain⟨_,iB⟩:=iw;have rn:=iB.kp;have nY:=iB.binds (ps:=["self","letters","weights"]) (by injections);have nZ:DMk l.prog w K mg base (CXx l.prog w) 4 fX ["self","letters","weights"] (Zt K fX):=#[_,_,#[mB,iu,iz,mC],ut B TO TN DI iB,nY];obtain⟨_,gU⟩:=gQ;have nk:=gU.kp;have nq:=gU.binds (ps:=["self","word"]) (by injections);have nv:DM l.prog w K mg base CX0 1 fX "weight" ["self","word"] (Xp fX):=#[_,_,#[gP,gT,nk],vE B TO gU,nq];have TT:TWS l.prog w K mg base fZ fY fX:=#[TO,pD,#[_,_,#[mq,fiR_init,iE,mr],wf B gK D1,lQ],nZ,oP,#[_,_,#[fiR_weight,gZ,mK],wG B ic,mL],nv,pE,nX,#[_,_,#[fiW_seen,iF,ni],ud B iG,nj]];obtain⟨_,gL⟩:=lL;have lS:=gL.kp;have lT:=gL.binds (ps:=["self","word"]) (by injections);have pF:DM l.prog w K mg base CX0 2 fZ "rank" ["self","word"] (jy fZ fY fX):=#[_,_,#[lK,gJ,lS],xZ B TT gL,lT];have DRk:DR l.prog w K mg base fZ fY fX:=⟨λC h=>by rcases h with e | e | e; (rw[e];exact#[TO.cO,pF]); (rw[e];exact#[TO.cR,#[_,_,#[fiR_rank,gJ,lS],xZ B TT gL,lT]]); (rw[e];exact#[TO.cW,#[_,_,#[fiW_rank,gJ,lS],xZ B TT gL,lT]])⟩;obtain⟨_,gy⟩:=iP;have iW:=gy.kp;have iX:=gy.binds (ps:=["self","one","other"]) (by injections);have oQ:DM l.prog w K mg base CX0 3 fZ "before" ["self","one","other"] (QW fZ fY fX):=#[_,_,#[iO,gx,iW],xm B DRk gy,iX];have DBk:DB l.prog w K mg base fZ fY fX:=⟨λC h=>by rcases h with e | e | e; (rw[e];exact#[TO.cO,oQ]); (rw[e];exact#[TO.cR,#[_,_,#[fiR_before,gx,iW],xm B DRk gy,iX]]); (rw[e];exact#[TO.cW,#[_,_,#[fiW_before,gx,iW],xm B DRk gy,iX]])⟩;have D4:=dfm l.prog w base (ja B F4) M4 p4 B4;have D5:=dfm l.prog w base (ZH B TWi F5 D4) M5 p5 B5;have O6:=zbh (P:=l.prog) (w:=w) (base:=base) B TF TUd F6 D5 D3;have D6:Df l.prog w K mg base (CXx l.prog w) 4 "gone" ["rules","word","most"] [] (xw K ge):=#[_,_,O6,M6,p6,λs us hK hl=>by obtain⟨_,_,_,rfl⟩:=Za (us:=us) (by simpa using hl);exact BindsTo.of_defaults rfl (hK _ _ nS) rfl rfl rfl];have D6d:Df l.prog w K mg base (CXx l.prog w) 4 "gone" ["rules","word","most"] [.int 4000 iI] (xw K ge):=#[_,_,O6,M6,p6,λs us hK hl=>by obtain⟨_,_,rfl⟩:=vo (us:=us) (by simpa using hl);exact BindsTo.of_defaults rfl (hK _ _ nS) rfl rfl rfl];have D7:=dfm l.prog w base (zbB B F7) M7 p7 B7;have D8:=dfm l.prog w base (JF B F8) M8 p8 B8;have D9:=dfm l.prog w base (Xj B F9 D8 D7) M9 p9 B9;have D10:=dfm l.prog w base (Y9 B F10) M10 p10 B10;have D11:=dfm l.prog w base (Vf B DBk F11 D7) M11 p11 B11;have D12:=dfm l.prog w base (YR B DRk (aM X G nsorted) HCH HBT hgT F12 HCC D11) M12 p12 B12;have D13:=dfm l.prog w base (qD B TMk F13 D10 D6 D6d D9 D7) M13 p13 B13;have D14:=dfm l.prog w base (uY B TF TMk F14) M14 p14 B14;have D15:=dfm l.prog w base (kF B F15 D13 D14 D11) M15 p15 B15;have D16:=dfm l.prog w base (WT B TF TMk F16 D12 D15 D10) M16 p16 B16;have D17:=dfm l.prog w base (zbE B F17) M17 p17 B17;have D18:=dfm l.prog w base (Km B F18) M18 p18 B18;have D19:=dfm l.prog w base (Va B F19 D18) M19 p19 B19;have D20:=dfm l.prog w base (zbO B F20) M20 p20 B20;have D21:=dfm l.prog w base (zbR B F21 D20 D18) M21 p21 B21;have D22:=dfm l.prog w base (Kl B #[ki,kb] F22) M22 p22 B22;have D23:=dfm l.prog w base (JQ B #[kl,kt,kbb] F23 D22) M23 p23 B23;have D24:=dfm l.prog w base (zbo B F24) M24 p24 B24;have D25:=dfm l.prog w base (zb0 B F25 D24) M25 p25 B25;have D26:=dfm l.prog w base (KD B F26 D25 D24 D18) M26 p26 B26;have D27:=dfm l.prog w base (zdJ B F27 D24) M27 p27 B27;have D28:=dfm l.prog w base (Kg B TT F28) M28 p28 B28;have D29:=dfm l.prog w base (za2 B F29 D19 D18) M29 p29 B29;obtain⟨_,ly⟩:=lr;have rJ:=ly.kp;have pf:=ly.binds (ps:=["self","order","rules"]) (by injections);have ph:DMk l.prog w K mg base (CXx l.prog w) 5 gd ["self","order","rules"] (qe K fZ fY fX gc gd):=#[_,_,#[nO,ln,lu,nP],jP B TD TS DBk ly,pf];have MS:MkS l.prog w K mg base fZ fY fX gc gd:=ph;have D30:=dfm l.prog w base (JX B F30) M30 p30 B30;have D31:=dfm l.prog w base (Y0 B F31 D30) M31 p31 B31;have D32:=dfm l.prog w base (zbV B F32 D3) M32 p32 B32;have D33:=dfm l.prog w base (Vs B F33 D6 D6d) M33 p33 B33;have D34:=dfm l.prog w base (Qy B F34 D32 D33) M34 p34 B34;obtain⟨_,gE⟩:=gC;have mY:=gE.kp;have mZ:=gE.binds (ps:=["self"]) (by injections);have nc:DM l.prog w K mg base CX0 1 gd "rules_told" ["self"] (kO K gd):=#[_,_,#[gB,gD,mY],vm B TS gE,mZ];have O35:=JS (P:=l.prog) (w:=w) (base:=base) B TS F35 D31 D34 nc;have D35:Df l.prog w K mg base (CXx l.prog w) 7 "unmet" ["system","most"] [] (uf K gd ge):=#[_,_,O35,M35,p35,λs us hK hl=>by obtain⟨_,_,rfl⟩:=vo (us:=us) (by simpa using hl);exact BindsTo.of_defaults rfl (hK _ _ mX) rfl rfl rfl];have D35d:Df l.prog w K mg base (CXx l.prog w) 7 "unmet" ["system","most"] [.int 4000 mU] (uf K gd ge):=#[_,_,O35,M35,p35,λs us hK hl=>by obtain⟨_,rfl⟩:=Yz (us:=us) (by simpa using hl);exact BindsTo.of_defaults rfl (hK _ _ mX) rfl rfl rfl];have D36:=dfm l.prog w base (Yv B TS MS F36 D10) M36 p36 B36;have D37:=dfm l.prog w base (uZ B F37) M37 p37 B37;have D38:=dfm l.prog w base (Yf B (aM X G nany) TMcc F38) M38 p38 B38;have D39:=dfm l.prog w base (uL B TF ⟨sFF⟩ F39 D16 D38) M39 p39 B39;have D40:=dfm l.prog w base (je B TF ⟨sFF⟩ TMcc F40 D35 D35d D36) M40 p40 B40;have D41:=dfm l.prog w base (Y4 B F41 D32 D9 D10) M41 p41 B41;have D42:=dfm l.prog w base (YG B TMcc F42 D37 D39 D40 D41) M42 p42 B42;have D43:=dfm l.prog w base (Xs B TNw F43) M43 p43 B43;obtain⟨_,lV⟩:=lN;have rK:=lV.kp;have pG:=lV.binds (ps:=["self","letters","table"]) (by injections);have pH:DMk l.prog w K mg base (CXx l.prog w) 4 gb ["self","letters","table"] (ub gb):=#[_,_,#[oF,lM,lP,oG],Zj B CLw lV D1 D43,pG];obtain⟨_,lA⟩:=lw;have pi:=lA.kp;have pj:=lA.binds (ps:=["self"]) (by injections);have pq:DM l.prog w K mg base CX0 1 gb "rooms" ["self"] (qh gb):=#[_,_,#[lv,lx,pi],jQ B CLw lA,pj];obtain⟨_,mH⟩:=mF;have pQ:=mH.kp;have pR:=mH.binds (ps:=["self","room","word"]) (by injections);have nQ:DM l.prog w K mg base CX0 1 gb "led" ["self","room","word"] (jk gb):=#[_,_,#[mE,mG,pQ],Yl B CLw mH,pR];obtain⟨_,iY⟩:=iR;have oR:=iY.kp;have oS:=iY.binds (ps:=["self","one","other"]) (by injections);have oU:DM l.prog w K mg base CX0 2 gb "parted" ["self","one","other"] (vd gb):=#[_,_,#[iQ,iS,oR],jl B CLw iY pq nQ,oS];obtain⟨_,iZ⟩:=iU;have oV:=iZ.kp;have oW:=iZ.binds (ps:=["self","pacts"]) (by injections);have oX:DM l.prog w K mg base CX0 3 gb "broken" ["self","pacts"] (uo K gb):=#[_,_,#[iT,iV,oV],qZ B CLw iZ oU,oW];have D44:=dfm l.prog w base (jI B F44) M44 p44 B44;have D45:=dfm l.prog w base (qd B TM F45 D44) M45 p45 B45;have D46:=dfm l.prog w base (Xv B F46) M46 p46 B46;have D47:=dfm l.prog w base (jM B CLw F47 nQ oX) M47 p47 B47;have D48:=dfm l.prog w base (jH B TM CLw F48 D45 D44 D46 D47 pH) M48 p48 B48;have D49:=dfm l.prog w base (jF B TF ⟨sFF⟩ TMjj F49 D6 D6d D10) M49 p49 B49;have D50:=dfm l.prog w base (uc B TMjj F50 D49 D9 D7) M50 p50 B50;have D51:=dfm l.prog w base (vD B F51 D48) M51 p51 B51;have D52:=dfm l.prog w base (UQ B TO TM F52 D42 D50 D45 D51) M52 p52 B52;have D53:=dfm l.prog w base (Ve B F53) M53 p53 B53;have D54:=dfm l.prog w base (YL B F54) M54 p54 B54;have D55:=dfm l.prog w base (Ux B #[kt,ks] F55 D23 D54 D53) M55 p55 B55;exact zdk B F56 D29 D17 D20 D27 D52 D21 D18 D26 D28 D55
theorem walk{l:PySem.W.OpenLaw}{q:sf}{loose:List si}{XP:(si->Option rW)->sq->Prop}{YP:sj->sq->Prop}{d:DefRec}{K:Params->rT}(hn:l.most=AK 63)(hdf:d.params.defaults=[])
  (hY:∀(w:sj) (h:sq),YP w h->(K w.params).In h) (hj:((PyProof.Rows.recsOf q).find? λr=>r.name ==("in_order" : si)).isSome=AM) (hno:∀w:sj,zbl (K w.params)=AM)
  (F:∀(w:sj) (mg:si->Option rW) (fa:rV) (h:sq) (cc T:rV),(K w.params).In h->h.Ns rQ mg->mg d.name=AK (.ref fa)->(∃a o fd,mg "in_order" = AK (.ref a)/\h.get? a=AK o/\o.data=.func fd/\fd.code=.ref cc)->rQ≠T ->
   ∃fd:rY,(∀(s:rX) (u:rW),Aj s fd #[[u],[]] [("_law_script",u)])/\∀base:sq,(K w.params).In base->base.Ns rQ mg->base.BuiltinsAt mg T->PySem.W.CodeHd base cc T->zP l.prog w (K w.params) mg base CX0 12 fa fd ["_law_script"] (Wd (K w.params) T)) :
  PySem.W.WalkO q loose XP YP l.row.toRowW d [] (λf vs=>fS f vs):=by
 obtain⟨din,hd⟩:=Bf.mp hj;have hnm:din.name="in_order":=by simpa using dC hd
 exact L3.walk_ofT (n:=63) (k:=12) (x:="_law_script") (CX:=λ_=>CX0) (din:=din) (sp:=λw T=>Wd (K w.params) T) hn (by decide) hdf #[rfl,by decide,by decide] (eg hd) hY hno (λw mg fa h cc T a b c e g=>F w mg fa h cc T a b c (by rw[hnm]at e;exact e) g) (λ_ _ a ns T hl hB hT hS=>#[a,ns,rfl,hS,hB,hT,λ_=>rfl]) λ_ _ _ _ _ z=>z
end LL
namespace PySem.W.Fast
def tw14438179407376750111:=Nat
def tw10160634158963973199:=Nat
def tw9853307749728939203:=Nat
def tw14332275618732400887:=Nat
def tw12493742622823965584:=Nat
def tw15861435785805531820:=Nat
def tw1562798255261445379:=Nat
def tw10156946830041965985:=Nat
def tw11754211904913141310:=Nat
def tw4379762142784238045:=Nat
def tw7616346539280996389:=Nat
def tw8976235284710115845:=Nat
def tw12363093063407596845:=Nat
def tw13711767858031078098:=Nat
def tw8139776332199926782:=Nat
def tw14057177914005928628:=Nat
def tw15625577690489085539:=Nat
def tw13424169112403845727:=Nat
def tw10107828066197136537:=Nat
def tw3007833312431224599:=Nat
def tw7084583235018716275:=Nat
def tw11834464497857941469:=Nat
def tw1151851093390869638:=Nat
def tw14375422339011183938:=Nat
def tw5573979581401075361:=Nat
def tw11451932380677646736:=Nat
def tw16314200992757991285:=Nat
def tw8204233565236678728:=Nat
def tw710685089363315872:=Nat
def tw15553397222833025131:=Nat
def tw15063373614216706346:=Nat
def tw14820431016287074210:=Nat
def tw8061020320725920552:=Nat
def tw5251819844182036511:=Nat
def tw17220772956817249393:=Nat
def tw2714918353172842360:=Nat
def tw130273399743546532:=Nat
def tw3942640344810301883:=Nat
def tw15210858452319650572:=Nat
def tw2861462268824010870:=Nat
def tw17672096044660887017:=Nat
def tw1600982124561374603:=Nat
def tw16720280358182618216:=Nat
def tw7714834371776561809:=Nat
def tw11170649594691583130:=Nat
def tw17070837004075946237:=Nat
def tw879832383881782719:=Nat
def tw13472272566557151817:=Nat
def tw9188886223462723881:=Nat
def tw4531302169548020992:=Nat
def tw16264852255906991940:=Nat
def tw6446288454791917146:=Nat
def tw2866343834305559817:=Nat
def tw7976320860063928004:=Nat
def tw15670322904774250986:=Nat
def tw11081456162876400509:=Nat
def tw11112041229855855452:=Nat
def tw2211482867840090368:=Nat
def tw11400748075487261678:=Nat
def tw1654304799143719756:=Nat
def tw966337343490038683:=Nat
def tw10713684206986157154:=Nat
def tw14437703298338020093:=Nat
def tw11271239964859758366:=Nat
def tw2070787174760300186:=Nat
def tw16712010383125721887:=Nat
def tw3514819881991231947:=Nat
def tw9607460779743988794:=Nat
def tw11262050073548754050:=Nat
def tw1326841352635771395:=Nat
def tw7807809952804384940:=Nat
def tw4053221818525333789:=Nat
def tw17520197326329705543:=Nat
def tw52706721996540821:=Nat
def tw14040872180212143160:=Nat
def tw11364289389737225505:=Nat
def tw4235178799355220293:=Nat
def tw6746011514067357149:=Nat
def tw194976222553447891:=Nat
def tw6845352100065663223:=Nat
def tw1448509125025596439:=Nat
def tw8489667734024483108:=Nat
def tw11121144964084165:=Nat
def tw3636312490764817385:=Nat
def tw2897338682404593421:=Nat
def tw15822192874294336131:=Nat
def tw13796119026923841178:=Nat
def tw12445464379285058467:=Nat
def tw2674015682404364038:=Nat
def tw9765329473773317707:=Nat
def tw2673349565175630427:=Nat
def tw10316854144107765774:=Nat
def tw289649252974424238:=Nat
def tw3441832936007711366:=Nat
def tw11476736923656057944:=Nat
def tw5117006978079378962:=Nat
def tw12960243214983082516:=Nat
def tw13352364616616260972:=Nat
def tw13952803735531680461:=Nat
def tw14057835560680428115:=Nat
def tw15669579717243758668:=Nat
def tw14615395116887485340:=Nat
def tw5689502366962837292:=Nat
def tw8354490628233338224:=Nat
def tw18279946038087603351:=Nat
def tw4956103022101285072:=Nat
def tw14009582692971515966:=Nat
def tw8433969509455347308:=Nat
def tw12402564259993445604:=Nat
def tw11246326304840540368:=Nat
def tw335371289056174276:=Nat
def tw17420698556100172605:=Nat
def tw6647999094101105017:=Nat
def tw14069704698699659374:=Nat
def tw6336526874179124272:=Nat
def tw17621263121754039097:=Nat
def tw5758993003008541982:=Nat
def tw15982532639939599768:=Nat
def tw6712677228788330185:=Nat
def tw1456058089537746079:=Nat
def tw15706798048861377724:=Nat
def tw2120039410516378791:=Nat
def tw14378854501693304584:=Nat
def tw18407759952318996653:=Nat
def tw10035865444080329816:=Nat
def tw15425950384179786165:=Nat
def tw8176780835610764303:=Nat
def tw5660574131396175483:=Nat
def tw12132695854828427846:=Nat
def tw17672884164189490569:=Nat
def tw9492768987451357455:=Nat
def tw13833853601578746031:=Nat
def tw5800734619397340129:=Nat
def tw17126187465121295113:=Nat
def tw14675349080512623457:=Nat
def tw949296376812314448:=Nat
def tw2982024024133895183:=Nat
def tw3607068333200558133:=Nat
def tw16958540984977556526:=Nat
def tw11309859508229363057:=Nat
def tw8372246906457941463:=Nat
def tw12126040181231931913:=Nat
def tw15511278650560171310:=Nat
def tw4358033059497381424:=Nat
def tw6113158736681651300:=Nat
def tw17901562367618909001:=Nat
def tw6205048606709626398:=Nat
def tw3560410782295080445:=Nat
def tw11719573032813610286:=Nat
def tw9938120514989224941:=Nat
def tw2929908400394376095:=Nat
def tw14608521170109423127:=Nat
def tw6162487845930012406:=Nat
def tw740879723280002038:=Nat
def tw7423752096456600779:=Nat
def tw14936654024306629874:=Nat
def tw16516387215253852113:=Nat
def tw9982389968176458919:=Nat
def tw13420442607863436422:=Nat
def tw15423503916786166991:=Nat
def tw12019116286096668723:=Nat
def tw4839688133347907844:=Nat
def tw9952641982905952188:=Nat
def tw11889760612470348768:=Nat
def tw13801732788560579057:=Nat
def tw4407702495151731412:=Nat
def tw4747571358703822460:=Nat
def tw16379113053431814262:=Nat
def tw498792171869285435:=Nat
def tw7528587630327166721:=Nat
def tw4573480824925292469:=Nat
def tw1688049549460611388:=Nat
def tw2615812606325730120:=Nat
def tw8007160480764993272:=Nat
def tw235258336090017309:=Nat
def tw5515839910040734196:=Nat
def tw9997815695909216574:=Nat
def tw12898026055339392796:=Nat
def tw4937777413946598911:=Nat
def tw14834090672175575837:=Nat
def tw7094462521413109424:=Nat
def tw8125239027635776488:=Nat
def tw1685390667933156296:=Nat
def tw4047455854140157436:=Nat
def tw5824782344683804960:=Nat
def tw9250230140931699508:=Nat
def tw16799956053873511516:=Nat
def tw13321936647426473134:=Nat
def tw9885548723698262241:=Nat
def tw7709268202785100445:=Nat
def tw11094102522644921152:=Nat
def tw16874393906632463382:=Nat
def tw9229016113572048357:=Nat
def tw16931054093775494423:=Nat
def tw8862792556737661105:=Nat
def tw1416181722416756140:=Nat
def tw14805656274807800153:=Nat
def tw12290174332641774998:=Nat
def tw4999466848216127360:=Nat
def tw2350179645311868255:=Nat
def tw2018864771697941545:=Nat
def tw3638821533449059285:=Nat
def tw8245444932960374483:=Nat
def tw6828498049105167433:=Nat
def tw6825884322391174918:=Nat
def tw885751624307592801:=Nat
def tw6344759258633886513:=Nat
def tw6870534812526313025:=Nat
def tw928761625582722833:=Nat
def tw9503028682525908001:=Nat
def tw13382185153754066785:=Nat
def tw10911701026145200627:=Nat
def tw15899146461595963664:=Nat
def tw1809072531763944077:=Nat
def tw15069730551190924519:=Nat
def tw17039579119073964432:=Nat
def tw17340523392757439020:=Nat
def tw16135230359309261684:=Nat
def tw16181449399498548224:=Nat
def tw2855717041156490714:=Nat
def tw3775802141708351362:=Nat
def tw12317669934812739194:=Nat
def tw8609775205479094750:=Nat
def tw1020736338528975728:=Nat
def tw14832942734748536038:=Nat
def tw14706235607883769679:=Nat
def tw10457344737449378961:=Nat
def tw8534155898943955287:=Nat
def tw1626234351388928650:=Nat
def tw8057454058683571636:=Nat
def tw5289956529659586102:=Nat
def tw2840390474233789554:=Nat
def tw4250411206602024873:=Nat
def tw289802877038542158:=Nat
def tw13205581468810420447:=Nat
def tw12955520834572740672:=Nat
def tw1471066734821042806:=Nat
def tw1080293612923753887:=Nat
def tw955555665339803:=Nat
def tw14791358097004496830:=Nat
def tw15314651031533772289:=Nat
def tw11438197807726996889:=Nat
def tw6452745145968606776:=Nat
def tw4814815364890289038:=Nat
def tw7922986487333590929:=Nat
def tw17052832336487683127:=Nat
def tw175463640158312019:=Nat
def tw17071406910242216988:=Nat
def tw4595306749941812683:=Nat
def tw9792343702151267804:=Nat
def tw17569461625546782534:=Nat
def tw9708725320686439398:=Nat
def tw7376005347392986841:=Nat
def tw10136515487835650576:=Nat
def tw11636193174965277488:=Nat
end PySem.W.Fast
open PySem PySem.W PyProof.Rows
set_option maxRecDepth 100000 in
set_option maxHeartbeats 0 in
theorem PySem.Challenge.cw_letterlaw_k84_whole_walked_never_apart_holds : PySem.Challenge.rw_letterlaw_k84_whole_walked_never_apart.Holds := by
 w_on;o_law;k_head; (case hw=>w_witness2)
 k_fill
 refine LL.walk (l:=PySem.Challenge.rw_letterlaw_k84_whole_walked_never_apart) rfl rfl (λw h Y=>PySem.W.km_in_of Y) ?hJJ ?hNN ?hFF
 case hJJ=>first | kernel_rfl | rfl | decide +kernel
 case hNN=>intro w;first | kernel_rfl | rfl
 case hFF =>
  intro w mg fa h cc T KX G hmg hlam hgT
  refine' LL.all_mk KX G hmg hlam hgT ?a0 ?a1 ?a2 ?a3 ?a4 ?a5 ?a6 ?l6 ?k6 ?p6 ?a7 ?a8 ?a9 ?a10 ?a11 ?a12 ?l12 ?k12 ?p12 ?a13 ?a14 ?a15 ?a16 ?a17 ?a18 ?a19 ?a20 ?a21 ?a22 ?a23 ?a24 ?a25 ?a26 ?a27 ?a28 ?a29 ?a30 ?a31 ?a32 ?a33 ?a34 ?a35 ?l35 ?k35 ?p35 ?a36 ?a37 ?a38 ?a39 ?a40 ?a41 ?a42 ?a43 ?a44 ?a45 ?a46 ?a47 ?a48 ?a49 ?a50 ?a51 ?a52 ?a53 ?a54 ?a55 ?a56 ?l56 ?k56 ?p56 ?g_LetterError ?g_NoLetters ?g_NoOrder ?g_Order ?g_FromRight ?g_ByWeights ?g_NotTurned ?g_System ?g_NoUse ?g_TooFar ?g_NoWorld ?g_World ?g_TooMany ?kbb ?kt ?ki ?kb ?kl ?x7 ?x8 ?x1 ?x2 ?x3 ?x4 ?x5 ?x6 ?x9 ?xi ?y1 ?y2 ?y3 ?y4 ?y5 ?y6 ?y9 ?yi ?most ?mostw ?oj ?om ?oo ?oq ?ot ?ou ?ow ?pN ?pO ?pP ?mi ?mj ?ml ?mm ?mq ?mr ?mv ?nC ?nE ?nF ?mw ?mx ?my ?mz ?mB ?mC ?mD ?nG ?nH ?nI ?nw_ByWeights ?sgO ?rdO ?win ?tt1 ?tt2 ?tt3 ?tt4 ?tt5 ?tt6 ?tt9 ?nn ?ini ?lI ?kI ?pI ?fnI ?nJ ?nL ?nM ?nN ?nO ?nP ?no_System ?nr_System ?u1 ?u2 ?u3 ?u4 ?u5 ?u6 ?u9 ?ua ?iniU ?lU ?kU ?pU ?fnU ?v1 ?v2 ?v3 ?v4 ?v5 ?v6 ?v9 ?vi ?sFF ?nw1 ?nw2 ?nw3 ?nw4 ?nw5 ?nw6 ?nw9 ?nwi ?mostr ?oy ?oz ?oB ?oE ?oF ?oG ?oH ?nt_World ?w1 ?w2 ?w3 ?w4 ?w5 ?w6 ?w9 ?wi ?mostt ?ks ?nany ?nsorted ?mou ?mos ?mod_ ?mop ?mcu ?mce ?mcd ?mcp ?mju ?mjs ?lF ?lG ?iE ?iM ?iN ?gZ ?lH ?lJ ?iF ?ip ?iq ?ir ?iu ?iw ?iz ?gP ?gQ ?gT ?lK ?lL ?gJ ?iO ?iP ?gx ?ln ?lr ?lu ?gB ?gC ?gD ?lM ?lN ?lP ?lv ?lw ?lx ?mE ?mF ?mG ?iQ ?iR ?iS ?iT ?iU ?iV ?nS ?mX ?fcO ?fiR_init ?fiR_weight ?fiW_seen ?fiR_rank ?fiW_rank ?fiR_before ?fiW_before ?b0 ?b1 ?b2 ?b3 ?b4 ?b5 ?b6 ?b7 ?b8 ?b9 ?b10 ?b11 ?b12 ?b13 ?b14 ?b15
  (case a0|a1|a2|a3|a4|a5=>exact#[by k_is,_,L2.fun_mk (by k_is) (by k_is) (by k_is)])
  case a6|l6|k6|p6=>k_is
  (case a7|a8|a9|a10|a11=>exact#[by k_is,_,L2.fun_mk (by k_is) (by k_is) (by k_is)])
  case a12|l12|k12|p12=>k_is
  (case a13|a14|a15|a16|a17|a18|a19|a20|a21|a22|a23|a24|a25|a26|a27|a28|a29|a30|a31|a32|a33|a34=>exact#[by k_is,_,L2.fun_mk (by k_is) (by k_is) (by k_is)])
  case a35|l35|k35|p35=>k_is
  (case a36|a37|a38|a39|a40|a41|a42|a43|a44|a45|a46|a47|a48|a49|a50|a51|a52|a53|a54|a55=>exact#[by k_is,_,L2.fun_mk (by k_is) (by k_is) (by k_is)])
  case a56|l56|k56|p56|g_LetterError|g_NoLetters|g_NoOrder|g_Order|g_FromRight|g_ByWeights|g_NotTurned|g_System|g_NoUse|g_TooFar|g_NoWorld|g_World|g_TooMany|x7|x8|x2|x3|x4|x5|x6|x9|xi|y2|y3|y4|y5|y6|y9|yi|most|mostw|oq|ou|ow|pO|pP|mm|mr|mv|nE|nF|mz|mC|mD|nH|nI|nw_ByWeights|sgO|win|tt2|tt3|tt4|tt5|tt6|tt9|nn|ini|lI|kI|pI|nN|nP|no_System|nr_System|u2|u3|u4|u5|u6|u9|ua|iniU|lU|kU|pU|v2|v3|v4|v5|v6|v9|vi|sFF|nw2|nw3|nw4|nw5|nw6|nw9|nwi|mostr|oE|oG|oH|nt_World|w2|w3|w4|w5|w6|w9|wi|mostt|nany|nsorted|mou|mos|mod_|mop|mcu|mce|mcd|mcp|mju|mjs|lF|iM|lH|ip|iu|gP|lK|iO|ln|gB|lM|lv|mE|iQ|iT|nS|mX|fcO|fiR_init|fiR_weight|fiW_seen|fiR_rank|fiW_rank|fiR_before|fiW_before|b0|b1|b2|b3|b4|b5|b6|b7|b8|b9|b10|b11|b12|b13|b14|b15=>k_is
  (case lG|iN|lJ|iq|iw|gQ|lL|iP|lr|gC|lN|lw|mF|iR|iU=>exact#[_,L2.fun_mk (by k_is) (by k_is) (by k_is)])
  (case kbb|kt|ki|kb|kl|pN|nC|nG|ks=>first | kernel_rfl | rfl)
  (case x1|y1|tt1|u1|v1|nw1|w1=>first | kernel_rfl | rfl | decide +kernel)
  (case oj|oo|ot|mi|ml|mq|mw|my|mB|rdO|nJ|nM|nO|oy|oB|oF=>first | kernel_rfl | rfl | k_is | decide +kernel)
  (case om|mj|mx|fnI|nL|fnU|oz|iE|gZ|iF|ir|iz|gT|gJ|gx|lu|gD|lP|lx|mG|iS|iV=>first | kernel_rfl | rfl | k_is)
#print axioms PySem.Challenge.cw_letterlaw_k84_whole_walked_never_apart_holds
