import PyProof.Rows.All
import Wide.All
import OpenK.AllK
import Wide.FinOn
import PyProof.EqAt
import PyProof.EqKinds
import PyProof.NeKinds
import PyProof.TupleCall
import KE.KRevIter
import PyProof.ZipIter
import PyProof.Rows.SetFrom
import PyProof.StrWalks
import PyProof.DictStraight
import PyProof.StrLawsFrom
import PyProof.Rows.StrNews2
import KE.KMinBuiltin
import PyProof.Rows.CallKwBuiltin
import PyProof.Rows.SortShell
import KE.KSortTup
import KE.KBoundM
import KE.KLam
import Lean
import PySem.Challenge.RW_letterlaw_k88_whole_world_first
set_option compiler.extract_closed false
local macro_rules | `(tactic| exists $t)=>`(tactic| refine $t (λvs H Q E h=>by first | (obtain⟨_,e,_⟩:=h;subst e;rfl) | (obtain⟨_,_,e,_⟩:=h;subst e;rfl) | (obtain⟨_,_,_,e,_⟩:=h;subst e;rfl) | (obtain⟨_,_,_,_,e,_⟩:=h;subst e;rfl) | (obtain⟨_,_,_,_,_,e,_⟩:=h;subst e;rfl) | (obtain⟨_,_,_,_,_,_,e,_⟩:=h;subst e;rfl) | (obtain⟨_,_,_,_,_,_,_,e,_⟩:=h;subst e;rfl) | (obtain⟨_,_,_,_,_,_,_,_,e,_⟩:=h;subst e;rfl) | (obtain⟨_,_,_,_,_,_,_,_,_,e,_⟩:=h;subst e;rfl) | (obtain⟨_,_,_,_,_,_,_,_,_,_,e,_⟩:=h;subst e;rfl)) (λ$(Lean.mkIdent `cdv) $(Lean.mkIdent `A) $(Lean.mkIdent `outer) $(Lean.mkIdent `s) $(Lean.mkIdent `H) $(Lean.mkIdent `vs) $(Lean.mkIdent `Q) $(Lean.mkIdent `E) $(Lean.mkIdent `hr) $(Lean.mkIdent `h)=>?_))
local macro_rules | `(tactic| exists $t,0)=>`(tactic| refine $t (λvs H Q E h=>by first | (obtain⟨_,e,_⟩:=h;subst e;rfl) | (obtain⟨_,_,e,_⟩:=h;subst e;rfl) | (obtain⟨_,_,_,e,_⟩:=h;subst e;rfl) | (obtain⟨_,_,_,_,e,_⟩:=h;subst e;rfl) | (obtain⟨_,_,_,_,_,e,_⟩:=h;subst e;rfl) | (obtain⟨_,_,_,_,_,_,e,_⟩:=h;subst e;rfl) | (obtain⟨_,_,_,_,_,_,_,e,_⟩:=h;subst e;rfl) | (obtain⟨_,_,_,_,_,_,_,_,e,_⟩:=h;subst e;rfl) | (obtain⟨_,_,_,_,_,_,_,_,_,e,_⟩:=h;subst e;rfl) | (obtain⟨_,_,_,_,_,_,_,_,_,_,e,_⟩:=h;subst e;rfl)) (λ$(Lean.mkIdent `cdv) $(Lean.mkIdent `A) $(Lean.mkIdent `outer) $(Lean.mkIdent `s) $(Lean.mkIdent `H) $(Lean.mkIdent `vs) $(Lean.mkIdent `Q) $(Lean.mkIdent `E) $(Lean.mkIdent `hr) $(Lean.mkIdent `hx) $(Lean.mkIdent `h)=>?_))
local macro_rules | `(tactic| rintro $p* : _)=>`(tactic| rintro $(Lean.mkIdent `Gz):ident $(Lean.mkIdent `hGz):ident $p*)
local macro_rules | `(tactic| right)=>`(tactic| subst $(Lean.mkIdent `hGz))
local macro_rules | `($s⁻¹)=>`(($s).heap.objs.size)
local macro_rules | `(⋯)=>`(by lia)
local macro_rules | `(∅)=>`(by decide)
local macro_rules | `(tactic| erw [$[$a:term],*] $[$l:location]?)=>`(tactic| simp only [$[$a:term],*] $[$l:location]?)
local macro_rules | `(#[$a,*])=>if a.getElems.size>1 then `(⟨$a,*⟩) else Lean.Macro.throwUnsupported
open List renaming getElem?_eq_some_iff→AU,mem_map→AV,mem_append→AW,mem_cons→AX,mem_singleton→AY,mem_range→Ba,mem_filter→Bb,mem_reverse→Bc,all_eq_true→Bd,nodup_cons→Be,mem_iff_getElem?→Bf,length_pos_iff→Bh,mem_filterMap→Bk,any_eq_true→Bl,find?_eq_none→Bm,nodup_iff_count→Bn,pairwise_append→Bo,pairwise_cons→Bp,pairwise_iff_getElem→Bq,mem_flatMap→Br
open Option renaming map_eq_some_iff→AZ,isSome_iff_exists→Bg,isNone_iff_eq_none→Bj
local macro_rules | `(tactic| symm)=>`(tactic| decide +kernel)
local macro_rules | `(tactic| nofun)=>`(tactic| exact⟨rfl,rfl,rfl,by decide +kernel,rfl,by decide +kernel,by decide +kernel⟩)
open List renaming mem_of_getElem?→aa,length_map→ac,getElem?_eq_getElem→ag,getD_eq_getElem?_getD→ah,size_toArray→aj,length_append→ak,getElem?_map→am,map_cons→ao,mem_cons_of_mem→ar,map_append→ax,mem_append_right→aA,mem_cons_self→aB,length_cons→aG,range→aH,map_nil→aI,length_take→aJ,append_assoc→aO,take_length→aP,set_cons_zero→aQ,set_cons_succ→aR,drop_eq_getElem_cons→aT,replicate→aU,lookup_cons→aV,append_nil→aW,take_of_length_le→aX,drop_of_length_le→aY,toArray→aZ,lookup→bc,getElem?_append_right→be,sum_cons→bf,take_append_of_le_length→bh,mem_of_mem_take→bi,length_drop→bn,cons_append→bo,idxOf_lt_length_of_mem→bq,getElem?_append_left→br,getElem?_reverse→bu,getElem?_eq_none→bv,mem_append_left→bD,nil_append→bI,take_zero→bO,range_succ→bR,length_replicate→bV,take_append_drop→bW,getElem?_take_of_lt→cb,flatten_cons→ci,length_range→cj,drop_append_of_le_length→cp,replicate_succ→cq,map_congr_left→cr,getElem?_set_self→cy,length_nil→cA,mem_of_mem_drop→cD,length_reverse→cI,getElem?_range→cJ,getElem?_cons_zero→cK,filter_append→cN,eq_nil_of_length_eq_zero→cQ,length_filter_le→cU,getElem?_set_ne→cX,flatMap_append→da,of_mem_zip→dc,forIn_cons→de,filter_nil→dg,contains_cons→dh,zip_cons_cons→di,getElem_idxOf→dj,getElem?_cons_succ→dk,range_succ_eq_map→dm,length_singleton→dz,length_set→dB,map_map→dD,find?_some→dF,filterMap_cons→dL,replicate_zero→dO,take_succ_cons→dP,drop_zero→dW,drop_drop→dX,find?_eq_none→dZ,mem_cons→d6,ext_getElem?→ee,extract_eq_drop_take→eg,mem_of_find?_eq_some→eh,mem_or_eq_of_mem_set→et,drop_length→eE,mem_nil_iff→eF,map_reverse→eL,filter_cons→eM,getElem?_replicate→eN,pairwise_singleton→eO,filter_cons_of_pos→eP,filter_cons_of_neg→eQ,flatten_singleton→eU,forIn_nil→e8,mem_range→fg,take_take→fh,length_dropLast→fm,all_cons→fq,getElem_range→fG,getElem?_drop→fH,length→fM
open PySem.Heap renaming get?_push_of_some→ae,lt_size→aq,get?_push_size→az,get?_update_other→aD,get?_update_self→bJ,size_push→bM,size_update→dv
open PySem.W renaming findIn→af,nsIn→au,mg_of→aC,keepIn→aF,mg_none_of→aK,kitOne→aL,isFn→aS,kia_one→ba,fnOf→bj,mroIn→bt,emptyDict→bH,plainGet→bK,callWith_K→bL,codeIn→bN,hasDictIn→bP,methodCall_KW→bU,kla_fn→bX,instObj→bY,plainOver→cf,makesIn→cz,specialIn→cB,looks_findIn→cC,subIn→cY,takesIn→dA,plainGet_of→dN,lookIn→dQ,methodObj→d7,kitx_list→d8,envX→eI,takerIn→eR,cellsFrom_some→eS,callWith_K0→fw,kitx_tuple→fA,set_plain→fJ,kitx_dict→fL,handedIn→fN,bind_fn→fP,findObj→fQ,readsIn→fR,findCls→fS,kat_nil→fW,kas_ask→fX
open Nat renaming le_refl→al,lt_of_lt_of_le→av,ne_of_lt→ay,zero_le→aE,le_trans→aM,not_lt_zero→bQ,ne_of_gt→bZ,le_add_right→cw,mul_le_mul_right→cE,le_of_not_lt→cF,lt_or_ge→cG,lt_irrefl→cL,lt_of_le_of_lt→cM,le_succ→cP,lt_succ_of_lt→cS,le_of_lt→cT,min_eq_left→df,add_mul→dq,one_mul→du,min_eq_right→dw,sub_self→dH,pow_succ→dI,lt_trichotomy→ef,succ_mul→eC,mul_comm→eD,zero_add→eG,div_div_eq_div_mul→eZ,mul_le_mul→e7,min_self→fB
open Bool renaming false_ne_true→aw,false_eq_true→bA,and_eq_true→bE,eq_false_or_eq_true→ce,eq_iff_iff→db,or_true→dC,and_false→dU,not_eq_true'→d9,not_false→e9,beq_comm→ft,not_true→fu,true_and→fv
open Int renaming toNat_natCast→aN,emod_nonneg→bz,emod_lt_of_pos→bB,eq_ofNat_of_zero_le→bC,natCast_mul→dJ
open PySem.F renaming plainAttrs_list→bg,slot_list_append→bw,type_list_append→bx,plain_max_loop→bG,plainAttrs_str→bT,entry_max_loop→dn,excBase_ValueError→d5,slot_str_count→eV,type_str_count→eW,slot_str_index→eX,type_str_index→eY,slot_str_find→fj,type_str_find→fk
open PyProof.Rows renaming callWith_type1→bp
open PySem.Str renaming ofString→bF,empty→dY
open PySem renaming mem_of_lookup→bS,strKind→cZ,frameOf→d4,passOn→fF,call→fV
open Option renaming bind_some→cu,getD_some→cH,join_some→eJ,join_none→eK,getD_none→fO
open Array renaming length_toList→dM,getD→fo,toList_append→fz
open PySem renaming wpAny_bind→rQ,wpAny_pure→rR,mainGlobals→rS,starEach→rT,sizeLine→rV
open PySem.W renaming Frag→rW
open PySem renaming Addr→rX,Value→rY,Shared→rZ,FuncData→sf,wpAny→si,Program→sj,Str→sk,World→so,Around→sq,Expr→sr,Heap→su,Stmt→sv,compareOp→sw,keywordEach→sy,backTo→sB,wpAny_field→sC,strIterType→sE,wpAny_truthy_bool→sI,wpAny_Call_Name_kw→sJ,sizeLine_eq→sK,Obj→sL,wpAny_holding→sM,bootBuiltins→sN,backToKw→sP,wpAny_seqItems→sQ,wpAny_loadPart_at→sS,Scope→sU,IsPair→sV,wpAny_passesOwn→sX,wpAny_standAt→sY,wpAny_noRaise→sZ,wpAny_setField→tj,Pos→tm,wpAny_setField_rec→tu,wpAny_execs_nil→tw,wpAny_mono→tz,wpAny_call→tB,wpAny_execs_cons→tD,codeAny_mono→tE,codeAny→tF,wpAny_isSubtype_exc→tG,codeAny_builtin→tH,wpAny_letGo→tI,Arguments→tJ,wpAny_tryCatch→tK,wpAny_pyIter_list→tL,plainObj_wpAny_Assign_Attribute→tM,CmpOp→tN,wpAny_attempt→tO,codeAny_call_builtin→tP,NameKind→tQ,Tok→tT,IsZip→tU,wpAny_comprehension_free→tV,wpAny_getItem_str_slice→tW,wpAny_call_entry→tX,wpAny_rule→tY,wpAny_pyNext_range_end→tZ,wpAny_pyIter_rangeiter→Aa,wpAny_updateSeq→Ac,Env→Ad,wpAny_updateSeq_pair→Ae,wpAny_pyIter_revIter→Af,wpAny_newFunctionEnv→Ag,wpAny_loadPart→Ah,recursionLimit→Ai,excClassObj→Aj,Result→Ak,IsRangeIter→Al,BindsTo→Am,wpAny_onRaise→An,wpAny_newList→Ao,ExceptHandler→Aq,wpAny_pyIter_range→Ar,wpAny_pyIter_enum→As,wpAny_newObj_type→Au,wpAny_assign_Name→Av,wpAny_Return_some→Aw,wpAny_Assign_Name→Ax,Model→Ay,GenState→AA,wpAny_pyIter_zip→AB,wpAny_lookBehind→AC,wpAny_Try_except→AD,isCodeTable→AE,Sem→AF,Keyword→AG,wpAny_Name→AH,TriplesOk→AJ,Paired→AK
open PyProof.Rows renaming seqObj→sF,envOfC→tR,AllBare→tS,subscriptTail_builtinR→Ab,subscriptTail→Ap,IntsAre→Az,Subscript_→AI,Call_→AL
open Option renaming some→AM,none→AN
open Bool renaming true→AO,false→AQ
open PySem PySem.Spec PyProof.Rows
set_option Elab.async false
set_option linter.all false
set_option maxRecDepth 100000
set_option maxHeartbeats 4000000
namespace L2
noncomputable abbrev Key:=Sum Int sk
noncomputable def zcS:Key->rY->Bool
 | .inl k,v=>Value.isInt k v
 | .inr x,v=>Value.isStrOf x v
noncomputable def zf5(w:so):Key->Int
 | .inl k=>hashInt k
 | .inr x=>hashStr w x
theorem ye:∀{k:Key} {v:rY},zcS k v=AO->(∃i t,k=Sum.inl i/\v=Value.int i t)\/(∃x t,k=Sum.inr x/\v=Value.str x t)
 | .inl i,v,h=>by
  obtain⟨t,e⟩:=Value.isInt_shape (k:=i) (v:=v) h;exact .inl #[i,t,rfl,e]
 | .inr x,v,h=>by
  obtain⟨t,e⟩:=Value.isStrOf_shape (x:=x) (v:=v) h;exact .inr #[x,t,rfl,e]
theorem zdM(a b:Int):decide ((Sum.inl a:Key)=Sum.inl b)=(a == b):=by
 by_cases e:a=b
 ·subst e;simp
 ·have h:¬ (Sum.inl a:Key)=Sum.inl b:=λq=>e (Sum.inl.inj q);rw[decide_eq_false h];exact (beq_eq_false_iff_ne.mpr e).symm
theorem zcw(a b:sk):decide ((Sum.inr a:Key)=Sum.inr b)=decide (a=b):=by
 by_cases e:a=b
 ·subst e;simp
 ·have h:¬ (Sum.inr a:Key)=Sum.inr b:=λq=>e (Sum.inr.inj q);rw[decide_eq_false h,decide_eq_false e]
theorem zc8(a:Int)(b:sk):decide ((Sum.inl a:Key)=Sum.inr b)=AQ:=decide_eq_false (λq=>nomatch q)
theorem zdx(a:sk)(b:Int):decide ((Sum.inr a:Key)=Sum.inl b)=AQ:=decide_eq_false (λq=>nomatch q)
noncomputable def Y8(prog:sj)(w:so):PySem.KeyKind prog w Key where
 is:=zcS
 hash:=zf5 w
 inj:=λv a b ha hb=>by
  rcases ye ha with ⟨i,t,rfl,rfl⟩ | ⟨x,t,rfl,rfl⟩
  ·rcases ye hb with ⟨j,u,rfl,e⟩ | ⟨y,u,rfl,e⟩
   ·injection e with e1 _;rw[e1]
   ·exact nomatch e
  ·rcases ye hb with ⟨j,u,rfl,e⟩ | ⟨y,u,rfl,e⟩
   ·exact nomatch e
   ·injection e with e1 _;rw[e1]
 byValue:=λk v h=>by
  rcases ye h with ⟨i,t,rfl,rfl⟩ | ⟨x,t,rfl,rfl⟩ <;> rfl
 pyHash:=λhv h=>by
  rcases ye hv with ⟨i,t,rfl,rfl⟩ | ⟨x,t,rfl,rfl⟩
  ·exact wpAny_pyHash_int h
  ·exact wpAny_pyHash_str h
 eqBool:=λhu hv h=>by
  rcases ye hu with ⟨i,t,rfl,rfl⟩ | ⟨x,t,rfl,rfl⟩
  ·rcases ye hv with ⟨j,u,rfl,rfl⟩ | ⟨y,u,rfl,rfl⟩
   ·rw[zdM]at h;exact wpAny_eqBool_int h
   ·rw[zc8]at h;exact SeqAt.EqAt.int_str i t y u _ _ _ _ h
  ·rcases ye hv with ⟨j,u,rfl,rfl⟩ | ⟨y,u,rfl,rfl⟩
   ·rw[zdx]at h;exact SeqAt.EqAt.str_int x t j u _ _ _ _ h
   ·rw[zcw]at h;exact wpAny_eqBool_str h
 «strs»:=λk x t v h=>by
  rcases ye h with ⟨i,u,rfl,e⟩ | ⟨y,u,rfl,e⟩
  ·exact nomatch e
  ·injection e with e1 _;subst e1;cases v <;> rfl
end L2
namespace L2
inductive V where
 | non | bl (b:Bool) | int (i:Int) | str (x:sk) | byt (b:Array UInt8) | flt (b:UInt64) | ref (a:rX) | ty (n:String)
 deriving DecidableEq
def RelV:V->rY->Prop
 | .non,u=>u=Value.none
 | .bl b,u=>u=Value.bool b
 | .int i,u=>∃t,u=Value.int i t
 | .str x,u=>∃t,u=Value.str x t
 | .byt b,u=>∃t,u=Value.bytes b t
 | .flt b,u=>∃t,u=Value.float b t
 | .ref a,u=>u=Value.ref a
 | .ty n,u=>u=Value.type n
abbrev Vals:List V->List rY->Prop:=AK RelV
theorem Vals.length{xs:List V}{us:List rY}(r:Vals xs us):xs.length=us.length:=Paired.length r
theorem Vals.get:∀{xs:List V} {us:List rY} {i:Nat} {x:V},Vals xs us->xs[i]? = AM x->∃u,us[i]? = AM u/\RelV x u
 | _,_,_,_,.nil,e=>by simp at e
 | _,_,0,_,.cons r _,e=>by simp at e;subst e;exact#[_,rfl,r]
 | _,_,i+1,x,.cons _ t,e=>by
  obtain⟨u,h1,h2⟩:=Vals.get (i:=i) (x:=x) t (by simpa using e);exact#[u,by simpa using h1,h2]
theorem Vals.set{x:V}{u:rY}(r:RelV x u):∀{xs:List V} {us:List rY} (i:Nat),Vals xs us->Vals (xs.set i x) (us.set i u)
 | _,_,_,.nil=>.nil
 | _,_,0,.cons _ t=>.cons r t
 | _,_,i+1,.cons q t=>.cons q (Vals.set r i t)
theorem Vals.append:∀{xs ys:List V} {us ws:List rY},Vals xs us->Vals ys ws->Vals (xs ++ ys) (us ++ ws)
 | _,_,_,_,.nil,s=>s
 | _,_,_,_,.cons r t,s=>.cons r (Vals.append t s)
theorem Vals.take:∀{xs:List V} {us:List rY} (n:Nat),Vals xs us->Vals (xs.take n) (us.take n)
 | _,_,0,_=>.nil
 | _,_,_+1,.nil=>.nil
 | _,_,n+1,.cons r t=>.cons r (Vals.take n t)
theorem Vals.drop:∀{xs:List V} {us:List rY} (n:Nat),Vals xs us->Vals (xs.drop n) (us.drop n)
 | _,_,0,r=>r
 | _,_,_+1,.nil=>.nil
 | _,_,n+1,.cons _ t=>Vals.drop n t
def RelO:Option V->Option rY->Prop
 | some v,AM u=>RelV v u
 | none,AN=>True
 | _,_=>False
def KV{κ:Type}:List (κ × V)->List (κ × rY)->Prop:=AK λ(p:κ × V) (q:κ × rY)=>p.1=q.1/\RelV p.2 q.2
noncomputable def kV:Key->V
 | .inl i=>.int i
 | .inr x=>.str x
inductive HO where
  | lst (xs:List V)
  | tup (xs:List V)
  | dK (kvs:List (Key × V)) | dT (kvs:List (List Key × V))
  | set (S:Int->Bool) (n:Nat)
  | ins (C dx:rX) (fs:List (sk × V))
  | own (x:rX)
  | xd (fs:List (sk × V))
  | met (f x:rX)
  | rng (lo hi:Int)
  | frz (o:sL) (u:HO)
  | tbl (ps:Array rY)
  | ext (φ:su->Prop)
noncomputable abbrev Hp:=rX->Option HO
noncomputable def upd(H:Hp)(a:rX)(o:HO):Hp:=λb=>if b=a then AM o else H b
theorem ze{H:Hp}{a:rX}{o:HO}:upd H a o a=AM o:=by unfold upd;rw[if_pos rfl]
theorem zm{H:Hp}{a b:rX}{o:HO}(h:b≠a):upd H a o b=H b:=by unfold upd;rw[if_neg h]
theorem zF{H:Hp}{a b:rX}{o:HO}(h:H a=AM o)(h':H b=AN):a≠b:=by
 intro e;subst e;rw[h]at h';cases h'
section
variable(P:sj)(w:so)
def ObjOk(H:Hp)(h:su)(a:rX):HO->Prop
 | .lst xs=>xs.length<=rV/\∃(its:List rY) (n:Nat),Vals xs its/\h.get? a=AM { cls:=.type "list",data:=.seq its.toArray n }
 | .tup xs=>xs.length<=rV/\∃its:List rY,Vals xs its/\IsTup h a its.toArray
 | .dK kvs=>kvs.length<=rV/\(a == sysModules)=AQ/\∃vs,KV kvs vs/\h.DictOf (Y8 P w) a vs
 | .dT kvs=>kvs.length<=rV/\(a == sysModules)=AQ/\∃xs:List (List Key × rX × rY),
   AK (λ(p:List Key × V) (q:List Key × rX × rY)=>p.1=q.1/\H q.2.1=AM (.tup (p.1.map kV))/\RelV p.2 q.2.2) kvs xs /\
   ∃o es ep,h.get? a=AM o/\o.ExactDict/\o.data=.dict es ep/\es.toList=xs.map (entryOfKey (tupleKind (Y8 P w)))/\(xs.map (·.1)).Nodup
 | .set S n=>h.SetOf (intKind P w) a S n
 | .ins C dx fs=>H dx=AM (.own a)/\fs.length<=1000/\dx≠a/\h.get? a=AM (bY C dx) /\
   ∃mA,h.Ns1 dx mA/\(∀f,RelO (fs.lookup f) (mA f))/\PySem.Within mA (fs.map (·.1))
 | .own _=>∃o,h.get? a=AM o
 | .xd fs=>∃mA,h.Ns1 a mA/\∀f,RelO (fs.lookup f) (mA f)
 | .rng lo hi=>∃t u v,h.get? a=AM { cls:=.type "range",data:=.fields (List.toArray [.int lo t,.int hi u,.int 1 v]) }
 | .frz o u=>h.get? a=AM o/\ObjOk H h a u
 | .tbl ps=>h.get? a=AM { cls:=.none,data:=.fields ps }
 | .met f x=>h.get? a=AM (d7 (.ref f) (.ref x))
 | .ext φ=>φ h/\(∃o,h.get? a=AM o)/\∀h1 h2:su,φ h1->(∀o,h1.get? a=AM o->h2.get? a=AM o)->φ h2
def HOk(H:Hp)(h:su):Prop:=∀a o,H a=AM o->ObjOk P w H h a o
end
section
variable{P:sj}{w:so}{H H':Hp}{h h':su}{a:rX}{o:HO}
theorem ObjOk.lt(x:ObjOk P w H h a o):a<h.objs.size:=by
 cases o with
 | lst xs=>obtain⟨_,_,_,_,e⟩:=x;exact aq e
 | tup xs=>obtain⟨_,_,_,p⟩:=x;exact p.lt
 | dK kvs=>obtain⟨_,_,_,_,o,_,_,e,_⟩:=x;exact aq e
 | dT kvs=>obtain⟨_,_,_,_,o,_,_,e,_⟩:=x;exact aq e
 | set S n=>obtain⟨o,_,_,_,e,_⟩:=x;exact aq e
 | ins C dx fs=>obtain⟨_,_,_,e,_⟩:=x;exact aq e
 | own y=>obtain⟨_,e⟩:=x;exact aq e
 | xd fs=>obtain⟨_,⟨_,_,_,e,_⟩,_⟩:=x;exact aq e
 | rng lo hi=>obtain⟨_,_,_,e⟩:=x;exact aq e
 | frz ob u=>obtain⟨e,_⟩:=x;exact aq e
 | tbl ps=>exact aq (show h.get? a=AM _ from x)
 | met f y=>exact aq (show h.get? a=AM _ from x)
 | ext φ=>obtain⟨_,⟨_,e⟩,_⟩:=x;exact aq e
theorem Paired.mapP{α β:Type}{F G:α->β->Prop}:∀{l₁:List α} {l₂:List β},AK F l₁ l₂->(∀a b,F a b->G a b)->AK G l₁ l₂
 | _,_,.nil,_=>.nil
 | _,_,.cons r t,f=>.cons (f _ _ r) (Paired.mapP t f)
theorem ObjOk.stay(x:ObjOk P w H h a o)(k:∀b u,(b=a\/H b=AM (.own a))->h.get? b=AM u->h'.get? b=AM u)
  (ho:∀b,H b=AM (.own a)->H' b=AM (.own a)) (ht:∀b xs,H b=AM (.tup xs)->H' b=AM (.tup xs)):ObjOk P w H' h' a o:=by
 induction o with
 | lst xs=>obtain⟨z,its,n,r,e⟩:=x;exact#[z,its,n,r,k _ _ (.inl rfl) e]
 | tup xs=>obtain⟨z,its,r,ob,e,c⟩:=x;exact#[z,its,r,ob,k _ _ (.inl rfl) e,c]
 | dK kvs=>obtain⟨z,y,vs,r,ob,es,ep,e,c⟩:=x;exact#[z,y,vs,r,ob,es,ep,k _ _ (.inl rfl) e,c]
 | dT kvs =>
  obtain⟨z,y,xs,r,ob,es,ep,e,c⟩:=x;exact#[z,y,xs,Paired.mapP r λp q z=>#[z.1,ht _ _ z.2.1,z.2.2],ob,es,ep,k _ _ (.inl rfl) e,c]
 | set S n=>obtain⟨ob,es,ep,t,e,c⟩:=x;exact#[ob,es,ep,t,k _ _ (.inl rfl) e,c]
 | ins C dx fs =>
  obtain⟨d,z,ne,e,mA,⟨od,es,ep,e2,c⟩,r⟩:=x;exact#[ho _ d,z,ne,k _ _ (.inl rfl) e,mA,#[od,es,ep,k _ _ (.inr d) e2,c],r]
 | own y=>obtain⟨ob,e⟩:=x;exact#[ob,k _ _ (.inl rfl) e]
 | xd fs=>obtain⟨mA,⟨od,es,ep,e,c⟩,r⟩:=x;exact#[mA,#[od,es,ep,k _ _ (.inl rfl) e,c],r]
 | rng lo hi=>obtain⟨t,u,v,e⟩:=x;exact#[t,u,v,k _ _ (.inl rfl) e]
 | frz ob u ih=>obtain⟨e,q⟩:=x;exact#[k _ _ (.inl rfl) e,ih q]
 | tbl ps =>
  have e:h.get? a=AM { cls:=.none,data:=.fields ps }:=x;show h'.get? a=AM { cls:=.none,data:=.fields ps };exact k a _ (.inl rfl) e
 | met f y =>
  have e:h.get? a=AM (d7 (.ref f) (.ref y)):=x;show h'.get? a=AM (d7 (.ref f) (.ref y));exact k a _ (.inl rfl) e
 | ext φ=>obtain⟨p,⟨o,e⟩,st⟩:=x;exact#[st _ _ p λo q=>k _ _ (.inl rfl) q,#[o,k _ _ (.inl rfl) e],st]
theorem HOk.lt(x:HOk P w H h)(e:H a=AM o):a<h.objs.size:=(x a o e).lt
theorem HOk.fresh(x:HOk P w H h)(e:h.objs.size<=a):H a=AN:=by
 cases q:H a with
 | none=>rfl
 | some u=>exact absurd (av (x.lt q) e) (cL _)
theorem HOk.kept(x:HOk P w H h)(k:∀b u,h.get? b=AM u->h'.get? b=AM u):HOk P w H h':=λa o e =>
 (x a o e).stay (λb u _ q=>k b u q) (λ_ q=>q) λ_ _ q=>q
theorem HOk.laid(x:HOk P w H h)(k:∀b u,h.get? b=AM u->h'.get? b=AM u)(hp:h.objs.size<=a)(new:ObjOk P w (upd H a o) h' a o):HOk P w (upd H a o) h':=λb u e=>by
 have hn:=x.fresh hp;by_cases hb:b=a
 ·subst hb;rw[ze]at e;cases e;exact new
 ·rw[zm hb]at e;exact (x b u e).stay (λc v _ q=>k c v q) (λc q=>by rw[zm (zF q hn)];exact q) λc xs q=>by rw[zm (zF q hn)];exact q
end
def Rd(H:Hp)(a:rX)(u:HO):Prop:=H a=AM u\/∃o,H a=AM (.frz o u)
theorem Rd.ok{P:sj}{w:so}{H:Hp}{h:su}{a:rX}{u:HO}(r:Rd H a u)(x:HOk P w H h):ObjOk P w H h a u:=by
 rcases r with r | ⟨o,r⟩
 ·exact x a u r
 ·obtain⟨_,q⟩:=x a _ r;exact q
def Mut:Option HO->Prop
 | some (.lst _)=>True
 | some (.dK _)=>True
 | some (.dT _)=>True
 | some (.set _ _)=>True
 | some (.ins _ _ _)=>True
 | some (.ext _)=>True
 | _=>False
section
variable{P:sj}{w:so}{H:Hp}{h h':su}{x e:rX}{o':HO}
theorem HOk.write(ok:HOk P w H h)(mu:Mut (H x))(he:e=x\/H e=AM (.own x))(k:∀b u,b≠e->h.get? b=AM u->h'.get? b=AM u)(heo:∃u,h'.get? e=AM u)
  (new:ObjOk P w (upd H x o') h' x o'):HOk P w (upd H x o') h':=λb u q=>by
 have nown:∀c y,H c=AM (.own y)->c≠x:=λc y r z=>by subst z;rw[r]at mu;exact mu
 have ntup:∀c xs,H c=AM (.tup xs)->c≠x:=λc xs r z=>by subst z;rw[r]at mu;exact mu
 by_cases hb:b=x
 ·subst hb;rw[ze]at q;cases q;exact new
 ·rw[zm hb]at q;by_cases hbe:b=e
  ·have q':H b=AM (.own x):=by
    rcases he with z | z
    ·exact absurd (hbe.trans z) hb
    ·rw[hbe];exact z
   rw[q]at q';cases q';obtain⟨v,hv⟩:=heo;exact#[v,by rw[hbe];exact hv]
  ·refine (ok b u q).stay (λc v hc r=>k c v ?_ r) (λc r=>by rw[zm (nown c b r)];exact r) λc xs r=>by rw[zm (ntup c xs r)];exact r
   rcases hc with rfl | hc
   ·exact hbe
   ·rintro rfl;rcases he with z | z
    ·exact nown c b hc z
    ·rw[hc]at z;cases z;exact hb rfl
end
structure Un(fs ex:List rX)(H H':Hp)(h h':su):Prop where
 keep:∀b o,h.get? b=AM o->H b=AN->b ∉ fs->b ∉ ex->h'.get? b=AM o
 slot:∀b o,h.get? b=AM o->H b=AN->b ∈ fs->b ∉ ex->∃sl,h'.get? b=AM { o with slots:=sl }
 free:∀b o,h.get? b=AM o->H b=AN->b ∉ ex->H' b=AN
 there:∀b o,h.get? b=AM o->b ∉ ex->∃o',h'.get? b=AM o'
 tups:∀b xs,H b=AM (.tup xs)->H' b=AM (.tup xs)
 frzs:∀b o u,H b=AM (.frz o u)->H' b=AM (.frz o u)
 tbls:∀b ps,H b=AM (.tbl ps)->∃more,H' b=AM (.tbl (ps ++ more))
section
variable{fs fs' ex ex':List rX}{H H1 H2:Hp}{h h1 h2 h':su}{a x e:rX}{o:HO}
theorem Un.any(u:Un fs ex H H1 h h1){b:rX}{ob:sL}(q:h.get? b=AM ob)(n:H b=AN)(hx:b ∉ ex):∃sl,h1.get? b=AM { ob with slots:=sl }:=by
 by_cases hb:b ∈ fs
 ·exact u.slot b ob q n hb hx
 ·exact#[ob.slots,u.keep b ob q n hb hx]
theorem Un.kept(k:∀b u,h.get? b=AM u->h'.get? b=AM u):Un fs ex H H h h' :=
 #[λb ob q _ _ _=>k b ob q,λb ob q _ _ _=>#[ob.slots,k b ob q],λ_ _ _ n _=>n,λb ob q _=>#[ob,k b ob q],λ_ _ q=>q,λ_ _ _ q=>q,λ_ ps q=>#[#[],by rw[q];simp]]
theorem Un.refl:Un fs ex H H h h:=Un.kept λ_ _ q=>q
theorem Un.laid(k:∀b u,h.get? b=AM u->h'.get? b=AM u)(hp:h.objs.size<=a)(hn:H a=AN):Un fs ex H (upd H a o) h h' where
 keep:=λb u q _ _ _=>k b u q
 slot:=λb u q _ _ _=>#[u.slots,k b u q]
 free:=λb u q n _=>by rw[zm (ay (av (aq q) hp))];exact n
 there:=λb u q _=>#[u,k b u q]
 tups:=λb xs q=>by rw[zm (zF q hn)];exact q
 frzs:=λb u xs q=>by rw[zm (zF q hn)];exact q
 tbls:=λb ps q=>#[#[],by rw[zm (zF q hn),q];simp]
theorem Un.write(mu:Mut (H x))(he:e=x\/H e=AM (.own x))(k:∀b u,b≠e->h.get? b=AM u->h'.get? b=AM u)(heo:∃u,h'.get? e=AM u):Un fs ex H (upd H x o) h h':=by
 have hx:∀b,H b=AN->b≠x:=λb n z=>by subst z;rw[n]at mu;exact mu
 have hb:∀b,H b=AN->b≠e:=λb n z=>by
  subst z;rcases he with r | r
  ·exact hx b n r
  ·rw[n]at r;cases r
 have hm:∀b u,H b=AM u->¬ Mut (AM u)->b≠x:=λb u q nm z=>by subst z;rw[q]at mu;exact nm mu
 refine#[λb u q n _ _=>k b u (hb b n) q,λb u q n _ _=>#[u.slots,k b u (hb b n) q],λb u q n _=>by rw[zm (hx b n)];exact n,λb u q _=>?_,
  λb xs q=>by rw[zm (hm b _ q λz=>z)];exact q,λb u xs q=>by rw[zm (hm b _ q λz=>z)];exact q,λb ps q=>#[#[],by rw[zm (hm b _ q λz=>z),q];simp]]
 by_cases hbe:b=e
 ·subst hbe;exact heo
 ·exact#[u,k b u hbe q]
end
noncomputable def trk(h:su)(H:Hp):List rX:=(aH h.objs.size).filter λa=>(H a).isSome
noncomputable def QP(h:su)(H:Hp):su:=PySem.W.hideAll h (trk h H)
theorem QR(h:su)(H:Hp):(QP h H).objs.size=h.objs.size:=PySem.W.hideAll_size _ _
theorem WD{h:su}{H:Hp}{b:rX}{o:sL}(e:h.get? b=AM o)(n:H b=AN):(QP h H).get? b=AM o :=
 PySem.W.hideAll_get _ e λhm=>by
  have q:(H b).isSome=AO:=(Bb.mp hm).2;rw[n]at q;simp at q
theorem za3{h:su}{H:Hp}{b:rX}{o:sL}(e:(QP h H).get? b=AM o):h.get? b=AM o/\H b=AN:=by
 have e':h.get? b=AM o:=PySem.W.of_hideAll (trk h H) e;refine#[e',?_]
 cases q:H b with
 | none=>rfl
 | some x =>
  have hm:b ∈ trk h H:=Bb.mpr #[Ba.mpr (aq e'),by simp [q]];have z:(QP h H).get? b=AN:=PySem.W.hideAll_none (trk h H) hm;rw[z]at e;cases e
noncomputable def zbn(g h:su)(L:rX):List (rX × sL):=(aH h.objs.size).filterMap λa=>if a=L\/(g.get? a).isSome=AO then AN else (h.get? a).map λo=>(a,o)
noncomputable def rest(g h:su)(L d:rX):List (rX × sL):=(zbn g h L).filter λp=>decide (p.1≠d)
end L2
namespace L2
structure Mod(K:rW)(mg:sk->Option rY)(base:su):Prop where
 kin:K.In base
 glob:base.Ns rS mg
 blt:∃mb,base.Ns builtinsNs mb/\∀x:sk,x≠"__name__"->mb x=sN x
 nolimit:base.NoLimit
structure Cx where
 prog:sj
 w:so
 K:rW
 mg:sk->Option rY
 base:su
 A:sq
 N:List sk
 s₀:rZ
 H₀:Hp
 env:Ad
 outer:List Ad
 stack:List Ad
 ex:List rX
 fn:sk->Bool
 calm:Bool
 pn:List (rX × sL)
 xe:rY->rZ->Prop
noncomputable def frs(l:List Ad):List rX:=l.filterMap (·.frame)
noncomputable abbrev Cx.fs(X:Cx):List rX:=frs X.outer
def Vis(sc:sU)(x:sk):Prop:=sc.names.lookup x=AM .local\/sc.names.lookup x=AM .cell\/sc.names.lookup x=AM .free
def Loc(sc:sU)(x:sk):Prop:=sc.names.lookup x=AM .local\/sc.names.lookup x=AM .cell
def zf8(env:Ad)(h:su)(m:sk->Option rY)(x:sk)(u:rY):Prop :=
 (env.kindOf x=AM .local/\m x=AM u)\/((env.kindOf x=AM .cell\/env.kindOf x=AM .free)/\∃c,env.cells.lookup x=AM c/\h.IsCell c (AM u))
structure Cx.Ok(X:Cx):Prop where
 mod:Mod X.K X.mg X.base
 kind:X.env.scope.kind=.function
 glob:X.env.globals=rS
 blt:X.env.builtins=builtinsNs
 above:X.s₀.heap.objs.size<=X.env.locals
 inj:∀x y c,X.env.cells.lookup x=AM c->X.env.cells.lookup y=AM c->x=y
 has:∀x,(X.env.kindOf x=AM .cell\/X.env.kindOf x=AM .free)->∃c,X.env.cells.lookup x=AM c
 cab:∀x c,X.fn x=AO->X.env.cells.lookup x=AM c->X.s₀.heap.objs.size<=c
 hd:X.calm=AO->X.A.handled=AN
 frames:X.A.frames=AM X.stack
 stk:X.stack=X.outer\/(X.stack=X.env::X.outer/\X.env.frame=AM X.env.locals)
 exf:∀b ∈ X.ex,b≠X.env.locals/\∀x c,X.env.cells.lookup x=AM c->c≠b
 bs:∀b o,X.base.get? b=AM o->X.s₀.heap.get? b=AM o/\X.H₀ b=AN
 bsz:X.base.objs.size<=X.s₀.heap.objs.size
 noex:∀b o,X.base.get? b=AM o->b ∉ X.ex
 exfs:∀b ∈ X.ex,b ∉ X.fs
 funs:X.s₀.heap.FunFrames X.base X.outer
 frf:∀b ∈ X.fs,X.H₀ b=AN
structure Inv(X:Cx)(AR:List (rX × sL))(σ:List (Option V))(H:Hp)(s:rZ):Prop where
 ok:X.Ok
 os:s.os=X.s₀.os
 bare:tS s.gens
 base:Un X.fs X.ex X.H₀ H X.s₀.heap s.heap
 loc:∃m,s.heap.Ns X.env.locals m/\∀(i:Nat) (x:sk) (v:V),X.N[i]? = AM x->σ[i]? = AM (AM v)->Vis X.env.scope x->∃u,RelV v u/\zf8 X.env s.heap m x u
 cell:∀x c,X.env.cells.lookup x=AM c->∃v,s.heap.IsCell c v
 free:H X.env.locals=AN
 freeC:∀x c,X.env.cells.lookup x=AM c->H c=AN
 pin:∀p ∈ X.pn ++ AR,s.heap.get? p.1=AM p.2/\H p.1=AN/\p.1≠X.env.locals/\p.1 ∉ X.fs/\∀v,p.2.data≠.cell v
 hok:HOk X.prog X.w H s.heap
 len:σ.length=X.N.length
section
variable{X:Cx}{AR:List (rX × sL)}{σ:List (Option V)}{H H':Hp}{s:rZ}{h':su}
theorem Cx.Ok.nofr(ok:X.Ok){b:rX}{o:sL}(e:X.base.get? b=AM o):b ∉ X.fs:=λhb=>by
 have:=(ok.funs.mem hb).1;rw[e]at this;cases this
theorem Inv.bs(I:Inv X AR σ H s):∀b o,X.base.get? b=AM o->s.heap.get? b=AM o/\H b=AN:=λb o e =>
 #[I.base.keep b o (I.ok.bs b o e).1 (I.ok.bs b o e).2 (I.ok.nofr e) (I.ok.noex b o e),I.base.free b o (I.ok.bs b o e).1 (I.ok.bs b o e).2 (I.ok.noex b o e)]
theorem Inv.bk(I:Inv X AR σ H s):∀b o,X.base.get? b=AM o->s.heap.get? b=AM o:=λb o e=>(I.bs b o e).1
theorem Inv.mod(I:Inv X AR σ H s):Mod X.K X.mg X.base:=I.ok.mod
theorem Inv.kIn(I:Inv X AR σ H s):X.K.In s.heap:=I.ok.mod.kin.keeps I.bk
theorem Inv.nolimit(I:Inv X AR σ H s):s.heap.NoLimit:=I.ok.mod.nolimit.keeps I.bk
theorem Inv.fr(I:Inv X AR σ H s):∃m,Fr X.base X.env.locals s.heap m :=
 let #[m,hn,_]:=I.loc
 #[m,hn,I.bk,aM I.ok.bsz I.ok.above]
theorem Inv.lt(I:Inv X AR σ H s):X.env.locals<s⁻¹:=let #[_,hn,_]:=I.loc;hn.lt
theorem Inv.sz(I:Inv X AR σ H s):X.s₀.heap.objs.size<=s⁻¹:=aM I.ok.above (cT I.lt)
theorem Inv.nofs(I:Inv X AR σ H s){a:rX}(h:s⁻¹<=a):a ∉ X.fs:=λhb=>by
 obtain⟨_,o,ho,_⟩:=I.ok.funs.mem hb;exact absurd (av (aq ho) (aM I.sz h)) (cL _)
theorem Inv.cne(I:Inv X AR σ H s):∀x c,X.env.cells.lookup x=AM c->c≠X.env.locals:=λx c e z=>by
 obtain⟨v,o,ho,hd⟩:=I.cell x c e;obtain⟨m,⟨o',es,ep,ho',hd',_⟩,_⟩:=I.loc;rw[z,ho']at ho;cases ho;rw[hd']at hd;cases hd
theorem Inv.funs(I:Inv X AR σ H s):s.heap.FunFrames X.base X.outer:=by
 have all:∀(l:List Ad),(∀b ∈ frs l,b ∈ X.fs)->X.s₀.heap.FunFrames X.base l->s.heap.FunFrames X.base l:=by
  intro l
  induction l with
  | nil=>intro _ _;trivial
  | cons env r ih =>
   intro hs hl;obtain⟨hk,⟨L,o,hf,hn,ho,hd⟩,hr⟩:=hl;have hL:L ∈ X.fs:=hs L (by unfold frs;rw[dL,hf];exact aB);obtain⟨sl,e⟩:=I.base.slot L o ho (I.ok.frf L hL) hL λz=>I.ok.exfs L z hL;exact#[hk,#[L,_,hf,hn,e,hd],ih (λb hb=>hs b (by unfold frs;rw[dL,hf];exact ar _ hb)) hr]
 exact all X.outer (λ_ hb=>hb) I.ok.funs
theorem Inv.stack(I:Inv X AR σ H s):s.heap.FunFrames X.base X.stack:=by
 rcases I.ok.stk with e | ⟨e,hf⟩
 ·rw[e];exact I.funs
 ·rw[e];obtain⟨m,hn,_⟩:=I.loc;refine .cons (by rw[I.ok.kind];decide) hf hn ?_ I.funs;exact Heap.get?_none_of_le (aM I.ok.bsz I.ok.above)
theorem Inv.stkSub(I:Inv X AR σ H s):∀b ∈ frs X.stack,b ∈ X.env.locals::X.fs:=λb hb=>by
 rcases I.ok.stk with e | ⟨e,hf⟩
 ·rw[e]at hb;exact ar _ hb
 ·rw[e]at hb;unfold frs at hb;rw[dL,hf]at hb;exact hb
theorem Inv.stkFree(I:Inv X AR σ H s):∀b ∈ frs X.stack,H b=AN:=λb hb=>by
 rcases AX.mp (I.stkSub b hb)with e | hb
 ·rw[e];exact I.free
 ·obtain⟨_,o,ho,_⟩:=I.ok.funs.mem hb;exact I.base.free b o ho (I.ok.frf b hb) λz=>I.ok.exfs b z hb
theorem Inv.step{g':Array AA}{t':Nat}{d':Drawn}{ch:List rX}(I:Inv X AR σ H s)
  (hch:∀b ∈ ch,(b ∈ X.ex\/X.s₀.heap.objs.size<=b)/\b≠X.env.locals/\(∀x c,X.env.cells.lookup x=AM c->c≠b)/\∀p ∈ X.pn ++ AR,p.1≠b)
  (keep:∀b o,b≠X.env.locals->b ∉ X.fs->b ∉ ch->s.heap.get? b=AM o->H b=AN->h'.get? b=AM o)
  (slot:∀b o,b≠X.env.locals->b ∈ X.fs->b ∉ ch->s.heap.get? b=AM o->H b=AN->∃sl,h'.get? b=AM { o with slots:=sl }) (free:∀b o,b ∉ ch->s.heap.get? b=AM o->H b=AN->H' b=AN)
  (there:∀b o,b ∉ ch->s.heap.get? b=AM o->∃o',h'.get? b=AM o')
  (tups:∀b xs,H b=AM (.tup xs)->H' b=AM (.tup xs)) (frzs:∀b o u,H b=AM (.frz o u)->H' b=AM (.frz o u)) (tbls:∀b ps,H b=AM (.tbl ps)->∃more,H' b=AM (.tbl (ps ++ more)))
  (ns:∀m,s.heap.Ns X.env.locals m->h'.Ns X.env.locals m) (hok:HOk X.prog X.w H' h') (hg:tS g') :
  Inv X AR σ H' { s with heap:=h',gens:=g',drawn:=d',toks:=t' }:=by
 have neL:∀b o,X.s₀.heap.get? b=AM o->b≠X.env.locals:=λb o e=>ay (av (aq e) I.ok.above)
 have neC:∀b o,X.s₀.heap.get? b=AM o->b ∉ X.ex->b ∉ ch:=λb o e hx hb=>by
  rcases (hch b hb).1 with z | z
  ·exact hx z
  ·exact absurd (av (aq e) z) (cL _)
 have cellK:∀x c,X.env.cells.lookup x=AM c->∀v,s.heap.IsCell c v->h'.IsCell c v:=λx c e v ⟨o,ho,hd⟩=>by
  have nch:c ∉ ch:=λz=>(hch c z).2.2.1 x c e rfl;by_cases hc:c ∈ X.fs
  ·obtain⟨sl,q⟩:=slot c o (I.cne x c e) hc nch ho (I.freeC x c e);exact#[_,q,hd]
  ·exact#[o,keep c o (I.cne x c e) hc nch ho (I.freeC x c e),hd]
 refine#[I.ok,I.os,hg,#[λb o e n hb hx=>?_,λb o e n hb hx=>?_,λb o e n hx=>?_,λb o e hx=>?_,λb xs e=>tups b xs (I.base.tups b xs e),λb o xs e=>frzs b o xs (I.base.frzs b o xs e),λb ps e=>?_],?_,λx c e=>?_,?_,λx c e=>?_,λp hp=>?_,hok,I.len]
 ·exact keep b o (neL b o e) hb (neC b o e hx) (I.base.keep b o e n hb hx) (I.base.free b o e n hx)
 ·obtain⟨sl,e1⟩:=I.base.slot b o e n hb hx;obtain⟨sl',e2⟩:=slot b _ (neL b o e) hb (neC b o e hx) e1 (I.base.free b o e n hx);exact#[sl',e2]
 ·obtain⟨o',e1⟩:=I.base.there b o e hx;exact free b o' (neC b o e hx) e1 (I.base.free b o e n hx)
 ·obtain⟨o',e1⟩:=I.base.there b o e hx;exact there b o' (neC b o e hx) e1
 ·obtain⟨m1,e1⟩:=I.base.tbls b ps e;obtain⟨m2,e2⟩:=tbls b _ e1;exact#[m1 ++ m2,by rw[e2,Array.append_assoc]]
 ·obtain⟨m,hn,hl⟩:=I.loc;refine#[m,ns m hn,λi x v e1 e2 e3=>?_];obtain⟨u,r,l⟩:=hl i x v e1 e2 e3;refine#[u,r,?_];rcases l with l | ⟨k,c,e,z⟩
  ·exact .inl l
  ·exact .inr #[k,c,e,cellK x c e _ z]
 ·obtain⟨v,z⟩:=I.cell x c e;exact#[v,cellK x c e v z]
 ·obtain⟨m,⟨o,_,_,ho,_⟩,_⟩:=I.loc;exact free _ o (λz=>(hch _ z).2.1 rfl) ho I.free
 ·obtain⟨v,o,ho,hd⟩:=I.cell x c e;exact free c o (λz=>(hch c z).2.2.1 x c e rfl) ho (I.freeC x c e)
 ·obtain⟨e,n,ne,nf,d⟩:=I.pin p hp;have nch:p.1 ∉ ch:=λz=>(hch p.1 z).2.2.2 p hp rfl;exact#[keep p.1 p.2 ne nf nch e n,free p.1 p.2 nch e n,ne,nf,d]
theorem Inv.un{t':Nat}(I:Inv X AR σ H s)(u:Un X.fs [] H H' s.heap h')(hok:HOk X.prog X.w H' h'):Inv X AR σ H' { s with heap:=h',toks:=t' }:=by
 obtain⟨m,⟨o,es,ep,ho,r⟩,_⟩:=id I.loc;obtain⟨sl,hL⟩:=u.any ho I.free (by simp)
 exact I.step (g':=s.gens) (d':=s.drawn) (ch:=[]) (λ_ z=>nomatch z) (λb o _ hb _ e n=>u.keep b o e n hb (by simp)) (λb o _ hb _ e n=>u.slot b o e n hb (by simp)) (λb o _ e n=>u.free b o e n (by simp)) (λb o _ e=>u.there b o e (by simp)) u.tups u.frzs u.tbls (λm' hm=>by
  obtain⟨o',es',ep',ho',r'⟩:=hm;rw[ho]at ho';cases ho'
  exact#[_,es',ep',hL,r']) hok I.bare
theorem Inv.call{g':Array AA}{t':Nat}{d':Drawn}{ch:List rX}(I:Inv X AR σ H s)(u:Un (frs X.stack) ch H H' s.heap h')(hok:HOk X.prog X.w H' h')(hg:tS g')
  (hch:∀b ∈ ch,(b ∈ X.ex\/X.s₀.heap.objs.size<=b)/\b≠X.env.locals/\(∀x c,X.env.cells.lookup x=AM c->c≠b)/\∀p ∈ X.pn ++ AR,p.1≠b) :
  Inv X AR σ H' { s with heap:=h',gens:=g',drawn:=d',toks:=t' }:=by
 obtain⟨m,⟨o,es,ep,ho,r⟩,_⟩:=id I.loc;obtain⟨sl,hL⟩:=u.any ho I.free λz=>(hch _ z).2.1 rfl
 exact I.step (ch:=ch) hch (λb o hL hb hc e n=>u.keep b o e n (λz=>(AX.mp (I.stkSub b z)).elim hL hb) hc) (λb o _ _ hc e n=>u.any e n hc) (λb o hc e n=>u.free b o e n hc) (λb o hc e=>u.there b o e hc) u.tups u.frzs u.tbls (λm' hm=>by
  obtain⟨o',es',ep',ho',r'⟩:=hm;rw[ho]at ho';cases ho'
  exact#[_,es',ep',hL,r']) hok hg
theorem Inv.turned{t':Nat}{it:rX}(I:Inv X AR σ H s)(k:∀b o,b≠it->s.heap.get? b=AM o->h'.get? b=AM o)(hn:H it=AN)(hL:it≠X.env.locals)
  (h1:it ∈ X.ex\/X.s₀.heap.objs.size<=it) (h2:∀x c,X.env.cells.lookup x=AM c->c≠it) (h3:∀p ∈ X.pn ++ AR,p.1≠it):Inv X AR σ H { s with heap:=h',toks:=t' }:=by
 have nit:∀b u,H b=AM u->b≠it:=λb u e z=>by rw[z,hn]at e;cases e
 refine I.step (g':=s.gens) (d':=s.drawn) (ch:=[it]) (λb hb=>?_) (λb o _ _ hc e _=>k b o (λz=>hc (by simp [z])) e) (λb o _ _ hc e _=>#[o.slots,k b o (λz=>hc (by simp [z])) e]) (λ_ _ _ _ n=>n)
  (λb o hc e=>#[o,k b o (λz=>hc (by simp [z])) e]) (λ_ _ e=>e) (λ_ _ _ e=>e) (λb ps e=>#[#[],by rw[e];simp]) (λm hm=>?_) (λb u e=>?_) I.bare
 ·have e:b=it:=by simpa using hb
  subst e;exact#[h1,hL,h2,h3]
 ·obtain⟨o,es,ep,ho,r⟩:=hm;exact#[o,es,ep,k _ o (Ne.symm hL) ho,r]
 ·refine (I.hok b u e).stay (λc v hc q=>k c v ?_ q) (λ_ q=>q) λ_ _ q=>q;rcases hc with z | z
  ·rw[z];exact nit b u e
  ·exact nit c _ z
theorem Inv.tok(I:Inv X AR σ H s)(t:Nat):Inv X AR σ H { s with toks:=t }:=I.un (h':=s.heap) (t':=t) Un.refl I.hok
theorem Inv.kept{t':Nat}(I:Inv X AR σ H s)(k:∀b u,s.heap.get? b=AM u->h'.get? b=AM u):Inv X AR σ H { s with heap:=h',toks:=t' }:=I.un (Un.kept k) (I.hok.kept k)
theorem Inv.laid{a:rX}{o:HO}{t':Nat}(I:Inv X AR σ H s)(k:∀b u,s.heap.get? b=AM u->h'.get? b=AM u)(hp:s⁻¹<=a)(new:ObjOk X.prog X.w (upd H a o) h' a o) :
  Inv X AR σ (upd H a o) { s with heap:=h',toks:=t' }:=I.un (Un.laid k hp (I.hok.fresh hp)) (I.hok.laid k hp new)
theorem Inv.write{x e:rX}{o:HO}{t':Nat}(I:Inv X AR σ H s)(mu:Mut (H x))(he:e=x\/H e=AM (.own x))(k:∀b u,b≠e->s.heap.get? b=AM u->h'.get? b=AM u)(heo:∃u,h'.get? e=AM u)
  (new:ObjOk X.prog X.w (upd H x o) h' x o):Inv X AR σ (upd H x o) { s with heap:=h',toks:=t' }:=I.un (Un.write mu he k heo) (I.hok.write mu he k heo new)
theorem Inv.weak{σ':List (Option V)}(I:Inv X AR σ H s)(hl:σ'.length=σ.length)(w:∀(i:Nat) v,σ'[i]? = AM (AM v)->σ[i]? = AM (AM v)):Inv X AR σ' H s :=
 #[I.ok,I.os,I.bare,I.base,let #[m,hn,hl']:=I.loc; #[m,hn,λi x v e1 e2 e3=>hl' i x v e1 (w i v e2) e3],I.cell,I.free,I.freeC,I.pin,I.hok,hl.trans I.len]
theorem Inv.pins_of{pins':List (rX × sL)}(I:Inv X AR σ H s)(h:∀p ∈ pins',s.heap.get? p.1=AM p.2/\H p.1=AN/\p.1≠X.env.locals/\p.1 ∉ X.fs/\∀v,p.2.data≠.cell v):Inv X pins' σ H s :=
 #[I.ok,I.os,I.bare,I.base,I.loc,I.cell,I.free,I.freeC,λp hp=>(AW.mp hp).elim (λz=>I.pin p (bD _ z)) (h p),I.hok,I.len]
theorem Wd{N:List sk}(hN:N.Nodup){i j:Nat}{x:sk}(a:N[i]? = AM x)(b:N[j]? = AM x):i=j:=by
 obtain⟨h1,e1⟩:=AU.mp a;obtain⟨h2,e2⟩:=AU.mp b;exact (List.getElem_inj hN).mp (e1.trans e2.symm)
theorem Yk{M:Ay}{A:sq}{E:rY->rZ->Prop}{i:Nat}{x:sk}{v:V}{u:rY}{Q:Unit->rZ->Prop}(I:Inv X AR σ H s)(hN:X.N.Nodup)(hi:X.N[i]? = AM x)(hx:Loc X.env.scope x)(r:RelV v u)
  (h:∀s',Inv X AR (σ.set i (AM v)) H s'->(∃a,Heap.SameBut a s.heap s'.heap/\(a=X.env.locals\/X.env.cells.lookup x=AM a))->Q () s') (hf:X.fn x=AO\/X.env.scope.names.lookup x=AM .local:=by first | exact .inl rfl | exact .inr rfl | assumption):si M A (storeName X.env x u) Q E s:=by
 obtain⟨m,hn,hl⟩:=id I.loc;have hcls:(X.env.scope.kind == .class || (X.env.scope.kind == .module && X.env.locals != X.env.globals))=AQ:=by rw[I.ok.kind];rfl
 have hiσ:i<σ.length:=by rw[I.len];exact (AU.mp hi).1
 have cne:=I.cne
 have tracked:∀{a:rX} {h':su},(∃o,s.heap.get? a=AM o/\H a=AN)->Heap.SameBut a s.heap h'->HOk X.prog X.w H h':=λ{a h'} ha hs b ob e=>by
  obtain⟨_,_,hfree⟩:=ha;refine (I.hok b ob e).stay (λc w' hc q=>(hs.2 c ?_).trans q) (λ_ q=>q) λ_ _ q=>q;rintro rfl;rcases hc with rfl | hc
  ·rw[hfree]at e;cases e
  ·rw[hfree]at hc;cases hc
 rcases hx with hk | hk
 ·refine wpAny_storeName_local hk hn (λh' hn' hs=>?_) hcls;obtain⟨oL,_,_,hoL,_⟩:=id hn;refine h _ #[I.ok,I.os,I.bare,#[λb o e n hb hx=>?_,λb o e n hb hx=>?_,I.base.free,λb o e hx=>?_,I.base.tups,I.base.frzs,I.base.tbls],#[_,hn',λj y v' e1 e2 e3=>?_],λy c e=>?_,I.free,I.freeC,λp hp=>?_,tracked #[oL,hoL,I.free] hs,by simpa using I.len] #[_,hs,.inl rfl]
  ·exact (hs.2 b (ay (av (aq e) I.ok.above))).trans (I.base.keep b o e n hb hx)
  ·obtain⟨sl,e1⟩:=I.base.slot b o e n hb hx;exact#[sl,(hs.2 b (ay (av (aq e) I.ok.above))).trans e1]
  ·obtain⟨o',e1⟩:=I.base.there b o e hx;exact#[o',(hs.2 b (ay (av (aq e) I.ok.above))).trans e1]
  ·by_cases hj:j=i
   ·subst hj;rw[hi]at e1;cases e1;rw[cy hiσ]at e2;cases e2;exact#[u,r,.inl #[hk,by simp]]
   ·rw[cX (Ne.symm hj)]at e2;obtain⟨u',r',q⟩:=hl j y v' e1 e2 e3;refine#[u',r',?_];rcases q with ⟨k,e⟩ | ⟨k,c,e,z⟩
    ·refine .inl #[k,?_];have:y≠x:=λe=>hj (Wd hN e1 (e ▸ hi));simp [this,e]
    ·exact .inr #[k,c,e,z.sameBut hs (cne y c e)]
  ·obtain⟨w',z⟩:=I.cell y c e;exact#[w',z.sameBut hs (cne y c e)]
  ·obtain⟨e,n,ne,nf,d⟩:=I.pin p hp;exact#[(hs.2 p.1 ne).trans e,n,ne,nf,d]
 ·have hfn:X.fn x=AO:=by
   rcases hf with z | z
   ·exact z
   ·rw[z]at hk;cases hk
  obtain⟨c,hc⟩:=I.ok.has x (.inl hk);obtain⟨w',z⟩:=I.cell x c hc;refine wpAny_storeName_cell I.ok.kind hk hc z (λh' hc' hs=>?_);obtain⟨oc,hoc,hocd⟩:=id z;refine h { s with heap:=h' } #[I.ok,I.os,I.bare,#[λb o e n hb hx=>?_,λb o e n hb hx=>?_,I.base.free,λb o e hx=>?_,I.base.tups,I.base.frzs,I.base.tbls],#[m,hn.sameBut hs (Ne.symm (cne x c hc)),λj y v' e1 e2 e3=>?_],λy c' e=>?_,I.free,I.freeC,λp hp=>?_,tracked #[oc,hoc,I.freeC x c hc] hs,by simpa using I.len] #[c,hs,.inr hc]
  ·exact (hs.2 b (ay (av (aq e) (I.ok.cab x c hfn hc)))).trans (I.base.keep b o e n hb hx)
  ·obtain⟨sl,e1⟩:=I.base.slot b o e n hb hx;exact#[sl,(hs.2 b (ay (av (aq e) (I.ok.cab x c hfn hc)))).trans e1]
  ·obtain⟨o',e1⟩:=I.base.there b o e hx;exact#[o',(hs.2 b (ay (av (aq e) (I.ok.cab x c hfn hc)))).trans e1]
  ·by_cases hj:j=i
   ·subst hj;rw[hi]at e1;cases e1;rw[cy hiσ]at e2;cases e2;exact#[u,r,.inr #[.inl hk,c,hc,hc']]
   ·rw[cX (Ne.symm hj)]at e2;obtain⟨u',r',q⟩:=hl j y v' e1 e2 e3;refine#[u',r',?_];rcases q with q | ⟨k,c',e,z'⟩
    ·exact .inl q
    ·refine .inr #[k,c',e,z'.sameBut hs ?_];rintro rfl;exact hj (Wd hN e1 (I.ok.inj _ _ _ e hc ▸ hi))
  ·by_cases hcc:c'=c
   ·subst hcc;exact#[_,hc']
   ·obtain⟨w2,z2⟩:=I.cell y c' e;exact#[w2,z2.sameBut hs hcc]
  ·obtain⟨e,n,ne,nf,d⟩:=I.pin p hp;refine#[(hs.2 p.1 ?_).trans e,n,ne,nf,d];intro q;rw[q,hoc]at e;have q':oc=p.2:=Option.some.inj e;exact d w' (by rw[<- q'];exact hocd)
theorem kM{M:Ay}{A:sq}{E:rY->rZ->Prop}{i:Nat}{x:sk}{v:V}{u:rY}{Q:Unit->rZ->Prop}(I:Inv X AR σ H s)(hN:X.N.Nodup)(hi:X.N[i]? = AM x)(hx:Loc X.env.scope x)(r:RelV v u)
  (h:∀s',Inv X AR (σ.set i (AM v)) H s'->Q () s') (hf:X.fn x=AO\/X.env.scope.names.lookup x=AM .local:=by first | exact .inl rfl | exact .inr rfl | assumption):si M A (storeName X.env x u) Q E s :=
 Yk I hN hi hx r (λs' I' _=>h s' I') hf
theorem Inv.call'{s':rZ}{ch:List rX}(I:Inv X AR σ H s)(ho:s'.os=s.os)(u:Un (frs X.stack) ch H H' s.heap s'.heap)(hok:HOk X.prog X.w H' s'.heap)(hg:tS s'.gens)
  (hch:∀b ∈ ch,(b ∈ X.ex\/X.s₀.heap.objs.size<=b)/\b≠X.env.locals/\(∀x c,X.env.cells.lookup x=AM c->c≠b)/\∀p ∈ X.pn ++ AR,p.1≠b):Inv X AR σ H' s':=by
 obtain⟨h',g',d',t',o'⟩:=s';have e:o'=s.os:=ho;subst e;exact I.call (g':=g') (t':=t') (d':=d') u hok hg hch
end
noncomputable abbrev XK:=rY->Option rX->Hp->Prop
noncomputable abbrev St:=List (Option V)
noncomputable abbrev VK:=V->Hp->Prop
noncomputable abbrev TE:=St->Hp->VK->Prop
noncomputable abbrev TT:=St->Hp->(Bool->Hp->Prop)->Prop
noncomputable abbrev TA:=St->Hp->(List V->Hp->Prop)->Prop
structure vN where
 nx:St->Hp->Prop
 rt:VK
 bk:St->Hp->Prop:=λ_ _=>False
 ct:St->Hp->Prop:=λ_ _=>False
noncomputable abbrev TS:=vN->St->Hp->Prop
def EP(X:Cx)(AR:List (rX × sL))(σ:St)(Q:VK)(u:rY)(s':rZ):Prop:=∃v H',Inv X AR σ H' s'/\RelV v u/\Q v H'
def TP(X:Cx)(AR:List (rX × sL))(σ:St)(Q:Bool->Hp->Prop)(b:Bool)(s':rZ):Prop:=∃H',Inv X AR σ H' s'/\Q b H'
def AP(X:Cx)(AR:List (rX × sL))(σ:St)(Q:List V->Hp->Prop)(us:List rY)(s':rZ):Prop:=∃vs H',Inv X AR σ H' s'/\Vals vs us/\Q vs H'
def SP(X:Cx)(AR:List (rX × sL))(D:vN)(f:Flow)(s':rZ):Prop :=
 match f with
 | .next=>∃σ' H',Inv X AR σ' H' s'/\D.nx σ' H'
 | .brk=>∃σ' H',Inv X AR σ' H' s'/\D.bk σ' H'
 | .cont=>∃σ' H',Inv X AR σ' H' s'/\D.ct σ' H'
 | .ret u=>∃v σ' H',Inv X AR σ' H' s'/\RelV v u/\D.rt v H'
def PE(X:Cx)(e:sr)(t:TE):Prop :=
 ∀(AR:List (rX × sL)) (s:rZ) (σ:St) (H:Hp) (Q:VK),Inv X AR σ H s->t σ H Q->si (model X.prog X.w) X.A (eval e X.env) (EP X AR σ Q) X.xe s
def PT(X:Cx)(e:sr)(t:TT):Prop :=
 ∀(AR:List (rX × sL)) (s:rZ) (σ:St) (H:Hp) (Q:Bool->Hp->Prop),Inv X AR σ H s->t σ H Q->si (model X.prog X.w) X.A (isTrue e X.env (eval e X.env)) (TP X AR σ Q) X.xe s
def PW(X:Cx)(e:sr)(t:TT):Prop :=
 ∀(whole:AF rY) (AR:List (rX × sL)) (s:rZ) (σ:St) (H:Hp) (Q:Bool->Hp->Prop),Inv X AR σ H s->t σ H Q->si (model X.prog X.w) X.A (isTrue e X.env whole) (TP X AR σ Q) X.xe s
theorem PW.pt{X:Cx}{e:sr}{t:TT}(h:PW X e t):PT X e t:=h _
def PA(X:Cx)(es:List sr)(t:TA):Prop :=
 ∀(pos:tm) (AR:List (rX × sL)) (s:rZ) (σ:St) (H:Hp) (Q:List V->Hp->Prop),Inv X AR σ H s->t σ H Q->si (model X.prog X.w) X.A (spliced (sB pos (rT es X.env))) (AP X AR σ Q) X.xe s
def PS(X:Cx)(st:sv)(t:TS):Prop :=
 ∀(AR:List (rX × sL)) (s:rZ) (σ:St) (H:Hp) (D:vN),Inv X AR σ H s->t D σ H->si (model X.prog X.w) X.A (exec st X.env) (SP X AR D) X.xe s
def PSs(X:Cx)(st:List sv)(t:TS):Prop :=
 ∀(AR:List (rX × sL)) (s:rZ) (σ:St) (H:Hp) (D:vN),Inv X AR σ H s->t D σ H->si (model X.prog X.w) X.A (execs st X.env) (SP X AR D) X.xe s
theorem thn{α:Type}{t:AF α}{Q Q':α->rZ->Prop}{M:Ay}{A:sq}{E:rY->rZ->Prop}{s:rZ}(h:si M A t Q E s)(hQ:∀a s,Q a s->Q' a s):si M A t Q' E s:=tz h hQ λ_ _ x=>x
end L2
namespace L2
section
variable{X:Cx}
theorem bin{a b:sr}{ta tb:TE}(ha:PE X a ta)(hb:PE X b tb){AR:List (rX × sL)}{s:rZ}{σ:St}{H:Hp}{R:V->V->Hp->Prop}(I:Inv X AR σ H s)(h:ta σ H λx H1=>tb σ H1 λy H2=>R x y H2)
  {α:Type} {Q:α->rZ->Prop} {f:rY->rY->AF α}
  (hf:∀v u s2 x y H2,Inv X AR σ H2 s2->RelV x v->RelV y u->R x y H2->si (model X.prog X.w) X.A (f v u) Q X.xe s2) :
  si (model X.prog X.w) X.A (eval a X.env) (λv s₁=>si (model X.prog X.w) X.A (eval b X.env) (λu s₂=>si (model X.prog X.w) X.A (f v u) Q X.xe s₂) X.xe s₁) X.xe s:=by
 refine thn (ha AR s σ H _ I h) λv s1 ⟨x,H1,I1,r1,q1⟩=>?_;refine thn (hb AR s1 σ H1 _ I1 q1) λu s2 ⟨y,H2,I2,r2,q2⟩=>?_;exact hf v u s2 x y H2 I2 r1 r2 q2
def onSl(σ:St)(i:Nat)(p:V->Prop):Prop:=match σ[i]? with | some (AM v)=>p v | _=>False
theorem onSl.of{σ:St}{i:Nat}{p:V->Prop}(h:onSl σ i p):∃v,σ[i]? = AM (AM v)/\p v:=by
 unfold onSl at h;split at h
 ·exact#[_,by assumption,h]
 ·exact h.elim
def onInt(x:V)(p:Int->Prop):Prop:=match x with | .int k=>p k | _=>False
theorem onInt.of{x:V}{p:Int->Prop}(h:onInt x p):∃k,x=.int k/\p k:=by
 cases x <;> first | exact#[_,rfl,h] | exact h.elim
theorem onInt.to{x:V}{p:Int->Prop}(h:∃k,x=.int k/\p k):onInt x p:=by
 obtain⟨k,rfl,h⟩:=h;exact h
def onStr(x:V)(p:sk->Prop):Prop:=match x with | .str k=>p k | _=>False
theorem onStr.of{x:V}{p:sk->Prop}(h:onStr x p):∃k,x=.str k/\p k:=by
 cases x <;> first | exact#[_,rfl,h] | exact h.elim
theorem onStr.to{x:V}{p:sk->Prop}(h:∃k,x=.str k/\p k):onStr x p:=by
 obtain⟨k,rfl,h⟩:=h;exact h
def onBl(x:V)(p:Bool->Prop):Prop:=match x with | .bl k=>p k | _=>False
theorem onBl.of{x:V}{p:Bool->Prop}(h:onBl x p):∃k,x=.bl k/\p k:=by
 cases x <;> first | exact#[_,rfl,h] | exact h.elim
theorem onBl.to{x:V}{p:Bool->Prop}(h:∃k,x=.bl k/\p k):onBl x p:=by
 obtain⟨k,rfl,h⟩:=h;exact h
def onRef(x:V)(p:rX->Prop):Prop:=match x with | .ref k=>p k | _=>False
theorem onRef.of{x:V}{p:rX->Prop}(h:onRef x p):∃k,x=.ref k/\p k:=by
 cases x <;> first | exact#[_,rfl,h] | exact h.elim
theorem onRef.to{x:V}{p:rX->Prop}(h:∃k,x=.ref k/\p k):onRef x p:=by
 obtain⟨k,rfl,h⟩:=h;exact h
def yj(i:Nat):TE:=λσ H Q=>onSl σ i λv=>Q v H
def tC(v:V):TE:=λ_ H Q=>Q v H
theorem zdZ{i:Nat}{x:sk}{pos:tm}(hN:X.N[i]? = AM x)(hv:Vis X.env.scope x)(hd:(x ==("__debug__" : sk))=AQ:=by decide)(hcd:(x ==("__classdict__" : sk))=AQ:=by decide):PE X (.Name x pos) (yj i):=by
 intro AR s σ H Q I h;obtain⟨v,e,h⟩:=onSl.of h;obtain⟨m,hn,hl⟩:=I.loc;obtain⟨u,r,l⟩:=hl i x v hN e hv;have fin:EP X AR σ Q u s:=#[v,H,I,r,h];rcases l with ⟨hk,hm⟩ | ⟨hk,c,hc,hcell⟩
 ·exact AH (wpAny_loadName_local I.ok.kind hk hn hm fin) hd
 ·rcases hk with hk | hk
  ·exact AH (wpAny_loadName_cell I.ok.kind hk hc hcell fin) hd
  ·exact AH (wpAny_loadName_free I.ok.kind hk hc hcell fin hcd) hd
theorem zg{i j pos}:PE X (.Constant (.int i) j pos) (tC (.int i)):=λ_ _ _ H _ I h=>wpAny_Constant_int #[.int i,H,I.tok _,#[_,rfl],h]
theorem yE{b j pos}:PE X (.Constant (.bool b) j pos) (tC (.bl b)):=λ_ _ _ H _ I h=>Constant_bool #[.bl b,H,I,rfl,h]
theorem yf{j pos}:PE X (.Constant .none j pos) (tC .non):=λ_ _ _ H _ I h=>Constant_none #[.non,H,I,rfl,h]
theorem zU{x j pos}:PE X (.Constant (.str x) j pos) (tC (.str x)):=λ_ _ _ H _ I h=>Calls.Constant_str #[.str x,H,I.tok _,#[_,rfl],h]
def Gl(X:Cx)(x:sk):Prop:=X.env.kindOf x=AM .globalImplicit
theorem vE{E:rY->rZ->Prop}{AR:List (rX × sL)}{s:rZ}{σ:St}{H:Hp}{x:sk}{u:rY}{pos:tm}{Q:rY->rZ->Prop}(I:Inv X AR σ H s)(hg:Gl X x)(hm:X.mg x=AM u)(h:Q u s)
  (hd:(x ==("__debug__" : sk))=AQ:=by decide):si (model X.prog X.w) X.A (eval (.Name x pos) X.env) Q E s :=
 Calls.Name_function_global I.ok.kind hg (Calls.loadGlobal_global (by rw[I.ok.glob];exact I.mod.glob.keeps I.bk) hm h) hd
theorem wD{E:rY->rZ->Prop}{AR:List (rX × sL)}{s:rZ}{σ:St}{H:Hp}{x:sk}{u:rY}{pos:tm}{Q:rY->rZ->Prop}(I:Inv X AR σ H s)(hg:Gl X x)(hm:X.mg x=AN)(hv:sN x=AM u)(h:Q u s)
  (hn:x≠"__name__":=by decide) (hd:(x ==("__debug__" : sk))=AQ:=by decide):si (model X.prog X.w) X.A (eval (.Name x pos) X.env) Q E s:=by
 obtain⟨mb,h1,h2⟩:=I.mod.blt;exact Calls.Name_function_global I.ok.kind hg (Calls.loadGlobal_builtin (by rw[I.ok.glob];exact I.mod.glob.keeps I.bk) hm (by rw[I.ok.blt];exact h1.keeps I.bk) ((h2 x hn).trans hv) h) hd
theorem yk{x:sk}{v:V}{u:rY}{pos:tm}(hg:Gl X x)(hm:X.mg x=AM u)(r:RelV v u)(hd:(x ==("__debug__" : sk))=AQ:=by decide):PE X (.Name x pos) (tC v) :=
 λ_ _ _ H _ I h=>vE I hg hm #[v,H,I,r,h] hd
theorem zbT{x:sk}{v:V}{u:rY}{pos:tm}(hg:Gl X x)(hm:X.mg x=AN)(hv:sN x=AM u)(r:RelV v u)(hn:x≠"__name__":=by decide)(hd:(x ==("__debug__" : sk))=AQ:=by decide):PE X (.Name x pos) (tC v) :=
 λ_ _ _ H _ I h=>wD I hg hm hv #[v,H,I,r,h] hn hd
variable{a b:sr}{ta tb:TE}{pos:tm}
def PC(X:Cx)(op:tN)(a b:sr)(t:TE):Prop :=
 ∀(AR:List (rX × sL)) (s:rZ) (σ:St) (H:Hp) (Q:VK),Inv X AR σ H s->t σ H Q ->
  si (model X.prog X.w) X.A (eval a X.env) (λv s₁=>si (model X.prog X.w) X.A (eval b X.env) (λu s₂=>si (model X.prog X.w) X.A (sw op v u) (EP X AR σ Q) X.xe s₂) X.xe s₁) X.xe s
theorem Kk(b:sr){op:tN}(h:op≠.In)(h2:op≠.NotIn):behindInMarks op b=AQ:=by
 have e1:(op == CmpOp.In)=AQ:=by cases op <;> first | rfl | exact absurd rfl h
 have e2:(op == CmpOp.NotIn)=AQ:=by cases op <;> first | rfl | exact absurd rfl h2
 cases b <;> simp [behindInMarks,e1,e2]
theorem xP{op:tN}{t:TE}(h:PC X op a b t)(h1:behindInMarks op b=AQ:=by first | exact Kk _ ∅ ∅ | rfl):PE X (.Compare a [op] [b] pos) t:=λAR s σ H Q I hw=>wpAny_Compare1 (h AR s σ H Q I hw) h1
variable{tA tB':TT}{rest:List sr}
def zd3(t u:TT):TT:=λσ H Q=>t σ H λc H1=>if c=AO then u σ H1 Q else Q AQ H1
def tOr(t u:TT):TT:=λσ H Q=>t σ H λc H1=>if c=AO then Q AO H1 else u σ H1 Q
def zcp(t:TT):TT:=λσ H Q=>t σ H λc H1=>Q (!c) H1
theorem VM(ha:PT X a tA):PW X (.BoolOp .And [a] pos) tA:=by
 intro wh AR s σ H Q I h;refine isTrue_and (thn (ha AR s σ H Q I h) λc s1 e=>?_)
 cases c with
 | true=>exact isTrue_and_nil e
 | false=>exact e
theorem wB(ha:PT X a tA):PW X (.BoolOp .Or [a] pos) tA:=by
 intro wh AR s σ H Q I h;refine isTrue_or (thn (ha AR s σ H Q I h) λc s1 e=>?_)
 cases c with
 | false=>exact isTrue_or_nil e
 | true=>exact e
theorem KR(ha:PT X a tA)(hb:PW X (.BoolOp .And (b::rest) pos) tB'):PW X (.BoolOp .And (a::b::rest) pos) (zd3 tA tB'):=by
 intro wh AR s σ H Q I h;refine isTrue_and (thn (ha AR s σ H _ I h) λc s1 ⟨H1,I1,q1⟩=>?_)
 cases c with
 | true=>exact hb wh AR s1 σ H1 Q I1 q1
 | false=>exact#[H1,I1,q1]
theorem uo(ha:PT X a tA)(hb:PW X (.BoolOp .Or (b::rest) pos) tB'):PW X (.BoolOp .Or (a::b::rest) pos) (tOr tA tB'):=by
 intro wh AR s σ H Q I h;refine isTrue_or (thn (ha AR s σ H _ I h) λc s1 ⟨H1,I1,q1⟩=>?_)
 cases c with
 | true=>exact#[H1,I1,q1]
 | false=>exact hb wh AR s1 σ H1 Q I1 q1
theorem zW(ha:PT X a tA):PT X (.UnaryOp .Not a pos) (zcp tA):=by
 intro AR s σ H Q I h;exact isTrue_not (ha AR s σ H (λc H1=>Q (!c) H1) I h)
def VH(ta tb:TE):TE:=λσ H Q=>ta σ H λx H1=>onBl x λc=>if c=AO then tb σ H1 Q else Q (.bl AQ) H1
def Qo(ta:TE):TE:=λσ H Q=>ta σ H λx H1=>onBl x λc=>Q (.bl (!c)) H1
theorem Z1{op}{t:TE}(h:PE X a t):PE X (.BoolOp op [a] pos) t:=λAR s σ H Q I hw=>BoolOp_one (h AR s σ H Q I hw)
theorem YA(ha:PE X a ta)(hb:PE X (.BoolOp .And (b::rest) pos) tb):PE X (.BoolOp .And (a::b::rest) pos) (VH ta tb):=by
 intro AR s σ H Q I h;refine BoolOp_and (thn (ha AR s σ H _ I h) λv s1 ⟨x,H1,I1,r1,q1⟩=>?_);obtain⟨c,rfl,q1⟩:=onBl.of q1;cases r1;refine sI ?_
 cases c with
 | true=>exact hb AR s1 σ H1 Q I1 q1
 | false=>exact#[.bl AQ,H1,I1,rfl,q1]
theorem zax(ha:PE X a ta):PE X (.UnaryOp .Not a pos) (Qo ta):=by
 intro AR s σ H Q I h;refine UnaryOp_ (thn (ha AR s σ H _ I h) λv s1 ⟨x,H1,I1,r1,q1⟩=>?_);obtain⟨c,rfl,q1⟩:=onBl.of q1;cases r1;exact not_of (sI #[.bl (!c),H1,I1,rfl,q1])
def tIf(t:TT)(ta tb:TE):TE:=λσ H Q=>t σ H λc H1=>if c=AO then ta σ H1 Q else tb σ H1 Q
theorem vj{c:sr}(hc:PT X c tA)(ha:PE X a ta)(hb:PE X b tb):PE X (.IfExp c a b pos) (tIf tA ta tb):=by
 intro AR s σ H Q I h;refine wpAny_IfExp (thn (hc AR s σ H _ I h) λd s1 ⟨H1,I1,q1⟩=>?_)
 cases d with
 | true=>exact ha AR s1 σ H1 Q I1 q1
 | false=>exact hb AR s1 σ H1 Q I1 q1
end
end L2
namespace L2
def SqL(K:rW)(H:Hp)(a:rX)(xs:List V):Prop :=
 Rd H a (.lst xs) \/
  ∃(o:sL) (its:Array rY) (n:Nat),K.lookup a=AM o/\o.cls=.type "list"/\o.dict=AN/\o.data=.seq its n/\its.size<=rV/\Vals xs its.toList
def SqT(K:rW)(H:Hp)(a:rX)(xs:List V):Prop :=
 Rd H a (.tup xs) \/
  ∃(o:sL) (its:Array rY) (n:Nat),K.lookup a=AM o/\o.cls=.type "tuple"/\o.data=.seq its n/\its.size<=rV/\Vals xs its.toList
noncomputable def zf1:rY->Option V
 | .none=>AM .non
 | .bool b=>AM (.bl b)
 | .int i _=>AM (.int i)
 | .str x _=>AM (.str x)
 | .bytes b _=>AM (.byt b)
 | .float b _=>AM (.flt b)
 | .ref a=>AM (.ref a)
 | .type n=>AM (.ty n)
 | _=>AN
theorem RelV.abs{x:V}{u:rY}(r:RelV x u):zf1 u=AM x:=by
 cases x with
 | non=>cases r;rfl
 | bl _=>cases r;rfl
 | int _=>obtain⟨t,rfl⟩:=r;rfl
 | str _=>obtain⟨t,rfl⟩:=r;rfl
 | byt _=>obtain⟨t,rfl⟩:=r;rfl
 | flt _=>obtain⟨t,rfl⟩:=r;rfl
 | ref _=>cases r;rfl
 | ty _=>cases r;rfl
theorem RelV.inj{x y:V}{u:rY}(r:RelV x u)(q:RelV y u):x=y:=Option.some.inj (r.abs.symm.trans q.abs)
theorem Vals.inj:∀{xs ys:List V} {us:List rY},Vals xs us->Vals ys us->xs=ys
 | _,_,_,.nil,.nil=>rfl
 | _,_,_,.cons r t,.cons r' t'=>by rw[r.inj r',Vals.inj t t']
section
variable{X:Cx}{AR:List (rX × sL)}{σ:St}{H:Hp}{s:rZ}{a:rX}{xs ys:List V}
theorem SqL.of{K:rW}(h:H a=AM (.lst xs)):SqL K H a xs:=.inl (.inl h)
theorem SqT.of{K:rW}(h:H a=AM (.tup xs)):SqT K H a xs:=.inl (.inl h)
theorem Inv.list(I:Inv X AR σ H s)(h:SqL X.K H a xs):∃its:List rY,Vals xs its/\PlainL s.heap a its.toArray/\xs.length<=rV:=by
 rcases h with h | ⟨o,its,n,hk,hc,hd,hs,hz,r⟩
 ·obtain⟨z,its,n,r,e⟩:=h.ok I.hok;exact#[its,r,#[_,n,e,rfl,rfl,rfl],z]
 ·refine#[its.toList,r,#[o,n,I.kIn a o hk,hc,hd,by simpa using hs],?_];have e:=r.length
  erw[dM]at e
  lia
theorem Inv.tuple(I:Inv X AR σ H s)(h:SqT X.K H a xs):∃its:List rY,Vals xs its/\IsTup s.heap a its.toArray/\xs.length<=rV:=by
 rcases h with h | ⟨o,its,n,hk,hc,hs,hz,r⟩
 ·obtain⟨z,its,r,p⟩:=h.ok I.hok;exact#[its,r,p,z]
 ·refine#[its.toList,r,#[o,I.kIn a o hk,hc,n,by simpa using hs],?_];have e:=r.length
  erw[dM]at e
  lia
theorem Inv.list_inj(I:Inv X AR σ H s)(h:SqL X.K H a xs)(h':SqL X.K H a ys):xs=ys:=by
 obtain⟨its,r,⟨o,n,e,_,_,d⟩,_⟩:=I.list h;obtain⟨its',r',⟨o',n',e',_,_,d'⟩,_⟩:=I.list h';rw[e]at e';cases e';rw[d]at d';injection d' with d1 _;have:its=its':=by simpa using congrArg Array.toList d1
 subst this;exact r.inj r'
theorem Inv.tuple_inj(I:Inv X AR σ H s)(h:SqT X.K H a xs)(h':SqT X.K H a ys):xs=ys:=by
 obtain⟨its,r,⟨o,e,_,n,d⟩,_⟩:=I.tuple h;obtain⟨its',r',⟨o',e',_,n',d'⟩,_⟩:=I.tuple h';rw[e]at e';cases e';rw[d]at d';injection d' with d1 _;have:its=its':=by simpa using congrArg Array.toList d1
 subst this;exact r.inj r'
end
noncomputable abbrev Cx.wish(X:Cx)(E:rY->rZ->Prop):Cx:={ X with xe:=E }
noncomputable abbrev Cx.nox(X:Cx):Cx:=X.wish λ_ _=>False
theorem Cx.Ok.wish{X:Cx}(ok:X.Ok)(E:rY->rZ->Prop):(X.wish E).Ok :=
 #[ok.mod,ok.kind,ok.glob,ok.blt,ok.above,ok.inj,ok.has,ok.cab,ok.hd,ok.frames,ok.stk,ok.exf,ok.bs,ok.bsz,ok.noex,ok.exfs,ok.funs,ok.frf]
theorem Cx.Ok.unwish{X:Cx}{E:rY->rZ->Prop}(ok:(X.wish E).Ok):X.Ok :=
 #[ok.mod,ok.kind,ok.glob,ok.blt,ok.above,ok.inj,ok.has,ok.cab,ok.hd,ok.frames,ok.stk,ok.exf,ok.bs,ok.bsz,ok.noex,ok.exfs,ok.funs,ok.frf]
section
variable{X:Cx}{AR:List (rX × sL)}{σ:St}{H:Hp}{s:rZ}{E:rY->rZ->Prop}
theorem Inv.wish(I:Inv X AR σ H s)(E:rY->rZ->Prop):Inv (X.wish E) AR σ H s:=#[I.ok.wish E,I.os,I.bare,I.base,I.loc,I.cell,I.free,I.freeC,I.pin,I.hok,I.len]
theorem Inv.unwish(I:Inv (X.wish E) AR σ H s):Inv X AR σ H s:=#[I.ok.unwish,I.os,I.bare,I.base,I.loc,I.cell,I.free,I.freeC,I.pin,I.hok,I.len]
theorem SP.unwish{D:vN}{f:Flow}{s':rZ}(h:SP (X.wish E) AR D f s'):SP X AR D f s':=by
 cases f with
 | next=>obtain⟨σ',H',I,q⟩:=h;exact#[σ',H',I.unwish,q]
 | brk=>obtain⟨σ',H',I,q⟩:=h;exact#[σ',H',I.unwish,q]
 | cont=>obtain⟨σ',H',I,q⟩:=h;exact#[σ',H',I.unwish,q]
 | ret u=>obtain⟨v,σ',H',I,r,q⟩:=h;exact#[v,σ',H',I.unwish,r,q]
theorem PSs.nox{st:List sv}{t:TS}(h:PSs X.nox st t):PSs X st t:=λAR s σ H D I hw =>
 tz (h AR s σ H D (I.wish _) hw) (λ_ _ q=>q.unwish) λ_ _ z=>False.elim z
end
section
variable{X:Cx}{st:sv}{rest:List sv}{t u:TS}{e:sr}{te:TE}{pos:tm}
def Kg:TS:=λD σ H=>D.nx σ H
def zed(t u:TS):TS:=λD σ H=>t { D with nx:=u D } σ H
theorem zr:PSs X [] Kg:=λ_ _ σ H _ I h=>tw #[σ,H,I,h]
theorem zB(h1:PS X st t)(h2:PSs X rest u):PSs X (st::rest) (zed t u):=by
 intro AR s σ H D I h;refine tD (thn (h1 AR s σ H { D with nx:=u D } I h) λf s1 q=>?_)
 cases f with
 | next =>
  obtain⟨σ',H',I',q⟩:=q;exact h2 AR s1 σ' H' D I' q
 | ret v=>exact q
 | brk=>exact q
 | cont=>exact q
theorem zf(h1:PS X st t):PSs X [st] t:=by
 intro AR s σ H D I h;refine tD (thn (h1 AR s σ H D I h) λf s1 q=>?_)
 cases f with
 | next=>exact tw q
 | ret v=>exact q
 | brk=>exact q
 | cont=>exact q
theorem Inv.quiet{AR:List (rX × sL)}{σ:St}{H:Hp}{s:rZ}(I:Inv X AR σ H s):interactive X.env=AQ:=by simp [interactive,I.ok.kind]
def JH(te:TE):TS:=λD σ H=>te σ H λ_ H1=>D.nx σ H1
theorem xh(he:PE X e te)(hs:swapsWith e AN pos.line X.env=pure AQ:=by rfl):PS X (.Expr e pos) (JH te):=by
 intro AR s σ H D I h;exact wpAny_Expr_any (thn (he AR s σ H _ I h) λv s1 ⟨x,H1,I1,r1,q1⟩=>#[σ,H1,I1,q1]) I.quiet hs
def zar(te:TE):TS:=λD σ H=>te σ H D.rt
theorem zl(he:PE X e te):PS X (.Return (AM e) pos) (zar te):=by
 intro AR s σ H D I h;exact Aw (thn (he AR s σ H _ I h) λv s1 ⟨x,H1,I1,r1,q1⟩=>#[x,σ,H1,I1,r1,q1])
def zea(c:TT)(t u:TS):TS:=λD σ H=>c σ H λb H1=>if b=AO then t D σ H1 else u D σ H1
theorem zK{c:sr}{a b:List sv}{tc:TT}(hc:PT X c tc)(ha:PSs X a t)(hb:PSs X b u):PS X (.If c a b pos) (zea tc t u):=by
 intro AR s σ H D I h;refine wpAny_If (thn (hc AR s σ H _ I h) λd s1 ⟨H1,I1,q1⟩=>?_)
 cases d with
 | true=>exact ha AR s1 σ H1 D I1 q1
 | false=>exact hb AR s1 σ H1 D I1 q1
end
noncomputable abbrev TG:=V->St->Hp->(St->Hp->Prop)->Prop
noncomputable abbrev TGs:=List V->St->Hp->(St->Hp->Prop)->Prop
def PG(X:Cx)(target:sr)(t:TG):Prop :=
 ∀(AR:List (rX × sL)) (s:rZ) (σ:St) (H:Hp) (v:V) (u:rY) (Q:St->Hp->Prop),Inv X AR σ H s->RelV v u->t v σ H Q ->
  si (model X.prog X.w) X.A (assign target X.env u) (λ_ s'=>∃σ' H',Inv X AR σ' H' s'/\Q σ' H') X.xe s
def PGs(X:Cx)(ts:List sr)(t:TGs):Prop :=
 ∀(AR:List (rX × sL)) (s:rZ) (σ:St) (H:Hp) (vs:List V) (us:List rY) (Q:St->Hp->Prop),Inv X AR σ H s->Vals vs us->t vs σ H Q ->
  si (model X.prog X.w) X.A (assignInOrder ((assignEach ts X.env).map (·.2)) us) (λ_ s'=>∃σ' H',Inv X AR σ' H' s'/\Q σ' H') X.xe s
noncomputable abbrev zfr:=V->V->V->Hp->(Hp->Prop)->Prop
def ze2(X:Cx)(t:zfr):Prop :=
 ∀(AR:List (rX × sL)) (s:rZ) (σ:St) (H:Hp) (o i v:V) (ov iv u:rY) (Q:Hp->Prop),Inv X AR σ H s->RelV o ov->RelV i iv->RelV v u->t o i v H Q ->
  si (model X.prog X.w) X.A (setItem ov iv u) (λ_ s'=>∃H',Inv X AR σ H' s'/\Q H') X.xe s
section
variable{X:Cx}{pos:tm}
def yn(i:Nat):TG:=λv σ H Q=>Q (σ.set i (AM v)) H
theorem zu{i:Nat}{x:sk}(hN:X.N.Nodup)(hi:X.N[i]? = AM x)(hx:Loc X.env.scope x)(hf:X.fn x=AO\/X.env.scope.names.lookup x=AM .local:=by first | exact .inl rfl | exact .inr rfl | assumption):PG X (.Name x pos) (yn i):=by
 intro AR s σ H v u Q I r h;exact Av (kM I hN hi hx r (λs' I'=>#[_,H,I',h]) hf)
def zaH:TGs:=λvs σ H Q=>vs=[]/\Q σ H
def jK(t:TG)(u:TGs):TGs:=λvs σ H Q=>∃v r,vs=v::r/\t v σ H λσ' H'=>u r σ' H' Q
theorem wy:PGs X [] zaH:=by
 intro AR s σ H vs us Q I r h;obtain⟨e,h⟩:=h;subst e;cases r;exact assignInOrder_nil #[σ,H,I,h]
theorem z8{e:sr}{es:List sr}{t:TG}{u:TGs}(h1:PG X e t)(h2:PGs X es u)
  (hs:(assignEach (e::es) X.env).map (·.2)=assign e X.env::(assignEach es X.env).map (·.2):=by rfl):PGs X (e::es) (jK t u):=by
 intro AR s σ H vs us Q I r h;obtain⟨v,vr,e1,h⟩:=h;subst e1
 cases r with
 | cons r rr =>
  rw[hs];refine assignInOrder_cons (thn (h1 AR s σ H _ _ _ I r h) λ_ s1 ⟨σ1,H1,I1,q1⟩=>?_);exact h2 AR s1 σ1 H1 _ _ Q I1 rr q1
def zbl(K:rW)(n:Nat)(t:TGs):TG:=λv σ H Q=>∃a xs,v=.ref a/\SqT K H a xs/\xs.length=n/\t xs σ H Q
theorem uQ{es:List sr}{k:Nat}{t:TGs}{n:Nat}(hc:X.calm=AO)(h:PGs X es t)
  (hn:(assignEach es X.env).length=n:=by rfl) (hst:(assignEach es X.env).findIdx? (·.1)=AN:=by rfl):PG X (.Tuple es k pos) (zbl X.K n t):=by
 intro AR s σ H v u Q I r hw;obtain⟨a,xs,e1,hq,hl,hw⟩:=hw;subst e1;cases r;obtain⟨its,rv,ht,hz⟩:=I.tuple hq;refine assign_Tuple_tuple (I.ok.hd hc) ht (by simp [hn,<- hl,rv.length]) hst λh' hx=>?_;have I1:Inv X AR σ H { s with heap:=h' }:=I.kept (t':=s.toks) λb o e=>hx b o (ay (aq e)) e;exact h AR _ σ H xs _ Q I1 (by simpa using rv) hw
def zfd(to ti:TE)(t:zfr):TG:=λv σ H Q=>to σ H λo H1=>ti σ H1 λi H2=>t o i v H2 λH3=>Q σ H3
theorem zat{o i:sr}{to ti:TE}{t:zfr}(ho:PE X o to)(hi:PE X i ti)(hs:ze2 X t)
  (ha:∀v,assign (.Subscript o i pos) X.env v=(do
   let ov <- holding [v] (eval o X.env)
   let iv <- holding [v,ov] (eval i X.env)
   standAt pos
   holding [v,ov,iv] (setItem ov iv v)
   release [v,ov,iv] []):=by intro _;rfl):PG X (.Subscript o i pos) (zfd to ti t):=by
 intro AR s σ H v u Q I r h;rw[ha];refine rQ (sM (thn (ho AR s σ H _ I h) λov s1 ⟨x,H1,I1,r1,q1⟩=>?_));refine rQ (sM (thn (hi AR s1 σ H1 _ I1 q1) λiv s2 ⟨y,H2,I2,r2,q2⟩=>?_));refine rQ (sY (rQ (sM (thn (hs AR s2 σ H2 x y v ov iv u _ I2 r1 r2 r q2) λ_ s3 ⟨H3,I3,q3⟩=>?_))));exact wpAny_release #[σ,H3,I3,q3]
def zco(te:TE)(g:TG):TS:=λD σ H=>te σ H λx H1=>g x σ H1 D.nx
theorem UR{tg e:sr}{te:TE}{g:TG}(he:PE X e te)(hg:PG X tg g)(hs:swapsWithSole [tg] e pos.line X.env=pure AQ:=by rfl)(hw:swappedStores [tg] e X.env=pure AN:=by rfl)
  (h1:(assignEach [tg] X.env).map (·.2)=[assign tg X.env]:=by rfl):PS X (.Assign [tg] e pos) (zco te g):=by
 intro AR s σ H D I h;refine wpAny_Assign_stores (thn (he AR s σ H _ I h) λv s1 ⟨x,H1,I1,r1,q1⟩=>?_) hs hw;rw[h1];exact thn (hg AR s1 σ H1 x v _ I1 r1 q1) λ_ s2 q=>q
theorem kh{i:Nat}{x:sk}{e:sr}{te:TE}{pos':tm}(hN:X.N.Nodup)(hi:X.N[i]? = AM x)(hx:Loc X.env.scope x)(he:PE X e te)(hs:swapsWith e (AM (.Name x pos')) pos.line X.env=pure AQ:=by rfl)(hf:X.fn x=AO\/X.env.scope.names.lookup x=AM .local:=by first | exact .inl rfl | exact .inr rfl | assumption) :
  PS X (.Assign [.Name x pos'] e pos) (zco te (yn i)):=by
 intro AR s σ H D I h;refine Ax (thn (he AR s σ H _ I h) λv s1 ⟨y,H1,I1,r1,q1⟩=>?_) hs;exact kM I1 hN hi hx r1 (λs2 I2=>#[_,H1,I2,q1]) hf
end
section
variable{X:Cx}{pos:tm}
def VI(c:TT)(tb:TS):TS:=λD σ H=>∃W:Nat->St->Hp->Prop,(∃m,W m σ H)/\∀m σ H,W m σ H ->
 c σ H λb H1=>if b=AO then ∃N:St->Hp->Prop,(∀σ' H',N σ' H'->∃m',m'<m/\W m' σ' H')/\tb { D with nx:=N,ct:=N,bk:=D.nx } σ H1 else D.nx σ H1
theorem WI{c:sr}{body:List sv}{tc:TT}{tb:TS}(hp:PassesOwn (model X.prog X.w) X.A X.env X.xe)(hc:PT X c tc)(hb:PSs X body tb):PS X (.While c body [] pos) (VI tc tb):=by
 intro AR s σ H D I h;obtain⟨W,⟨m0,w0⟩,turn⟩:=h;refine wpAny_While (codeAny_whileLoop (λn s'=>∃σ' H',Inv X AR σ' H' s'/\W n σ' H') ?_ m0 #[σ,H,I,w0]);rintro n s1 ⟨σ1,H1,I1,w1⟩;refine sX hp (thn (hc AR s1 σ1 H1 _ I1 (turn n σ1 H1 w1)) λb s2 ⟨H2,I2,q2⟩=>?_)
 cases b with
 | true =>
  obtain⟨N,hN,q2⟩:=q2;rw[if_pos rfl];refine sX hp (thn (hb AR s2 σ1 H2 _ I2 q2) λf s3 q3=>?_)
  cases f with
  | next =>
   obtain⟨σ3,H3,I3,n3⟩:=q3;obtain⟨m',hm,w3⟩:=hN σ3 H3 n3;exact#[m',hm,σ3,H3,I3,w3]
  | cont =>
   obtain⟨σ3,H3,I3,n3⟩:=q3;obtain⟨m',hm,w3⟩:=hN σ3 H3 n3;exact#[m',hm,σ3,H3,I3,w3]
  | brk=>exact q3
  | ret v=>exact q3
 | false =>
  rw[if_neg aw];exact tw #[σ1,H2,I2,q2]
end
structure It where
 go:Nat->Hp->Prop
 yld:Nat->Hp->V->Hp->Prop
 stop:Nat->Hp->Prop
def wj(X:Cx)(AR:List (rX × sL))(H:Hp)(b:rX):Prop :=
 H b=AN/\b≠X.env.locals/\b ∉ X.fs/\(b ∈ X.ex\/X.s₀.heap.objs.size<=b)/\(∀x c,X.env.cells.lookup x=AM c->c≠b)/\∀p ∈ X.pn ++ AR,p.1≠b
theorem Inv.fpOk{X:Cx}{AR:List (rX × sL)}{σ:St}{H H':Hp}{s:rZ}{b:rX}(I:Inv X AR σ H s)(hb:s⁻¹<=b)(hn:H' b=AN):wj X AR H' b:=by
 refine#[hn,bZ (av I.lt hb),I.nofs hb,.inr (aM I.sz hb),λx c e z=>?_,λp hp z=>?_]
 ·obtain⟨v,q⟩:=I.cell x c e;exact absurd (av q.lt (by rw[z];exact hb)) (cL _)
 ·exact absurd (av (aq (I.pin p hp).1) (by rw[z];exact hb)) (cL _)
structure JP(P:sj)(w:so)(K:rW)(tg:sr)(J:It)(fp:List rX)(it:rX)(tn:Nat->su->Prop):Prop where
 mem:it ∈ fp
 obj:∀i h,tn i h->∀b ∈ fp,∃o,h.get? b=AM o/\∀v,o.data≠.cell v
 keep:∀i h h',tn i h->(∀b ∈ fp,∀o,h.get? b=AM o->h'.get? b=AM o)->tn i h'
 item:∀(X:Cx),X.prog=P->X.w=w->X.K=K->X.calm=AO->∀(i:Nat) (AR:List (rX × sL)) (s:rZ) (σ:St) (H:Hp) (E:rY->rZ->Prop),Inv X AR σ H s->(∀b ∈ fp,wj X AR H b)->tn i s.heap->J.go i H ->
  si (model P w) X.A (pyNext (.ref it)) (λr s1=>∃u,r=AM u /\
   si (model P w) X.A (letOwnedTupleGo tg (.ref it) u) (λ_ s2=>∃x H',Inv X AR σ H' s2/\RelV x u/\J.yld i H x H'/\tn (i+1) s2.heap/\∀b ∈ fp,H' b=AN) E s1) E s
 done:∀(X:Cx),X.prog=P->X.w=w->X.K=K->X.calm=AO->∀(i:Nat) (AR:List (rX × sL)) (s:rZ) (σ:St) (H:Hp) (E:rY->rZ->Prop),Inv X AR σ H s->(∀b ∈ fp,wj X AR H b)->tn i s.heap->J.stop i H ->
  si (model P w) X.A (pyNext (.ref it)) (λr s1=>r=AN/\Inv X AR σ H s1) E s
 self:∀(A:sq) (i:Nat) (s:rZ) (Q:rY->rZ->Prop) (E:rY->rZ->Prop),tn i s.heap->Q (.ref it) s->si (model P w) A (pyIter (.ref it)) Q E s
noncomputable abbrev TI:=St->Hp->(It->Hp->Prop)->Prop
def PIE(X:Cx)(AR:List (rX × sL))(σ:St)(tg:sr)(R:It->Hp->Prop)(itv:rY)(s2:rZ):Prop :=
 ∃(it:rX) (fp:List rX) (tn:Nat->su->Prop) (J:It) (H':Hp),itv=.ref it/\Inv X AR σ H' s2/\JP X.prog X.w X.K tg J fp it tn/\tn 0 s2.heap/\(∀b ∈ fp,wj X AR H' b)/\R J H'
def PI(X:Cx)(tg iter:sr)(wi:TI):Prop :=
 ∀(AR:List (rX × sL)) (s:rZ) (σ:St) (H:Hp) (R:It->Hp->Prop),Inv X AR σ H s->wi σ H R ->
  si (model X.prog X.w) X.A (eval iter X.env) (λv s1=>si (model X.prog X.w) X.A (pyIter v) (PIE X AR σ tg R) X.xe s1) X.xe s
theorem QT{M:Ay}{A:sq}{E:rY->rZ->Prop}{s:rZ}{tg:sr}{it:rX}{u:rY}{o:sL}{n:String}{vs:Array rY}{Q:Unit->rZ->Prop}(ho:s.heap.get? it=AM o)(hc:o.cls=.type n)(hd:o.data=.fields vs)
    (hn:["enumerate","zip","dict_itemiterator","dict_reverseitemiterator","odict_iterator","itertools.zip_longest","itertools.pairwise"].contains n=AQ) (hQ:Q () s):si M A (letOwnedTupleGo tg (.ref it) u) Q E s:=by
  unfold letOwnedTupleGo
  cases tg <;> first
    | exact rR hQ
    | (cases u <;> first
        | exact rR hQ
        | (refine rQ (wpAny_load ho ?_)
           rw[hc,hd];show si M A (if (["enumerate","zip","dict_itemiterator","dict_reverseitemiterator","odict_iterator","itertools.zip_longest","itertools.pairwise"].contains n && vs[0]? == AM (rawInt _))=AO then _ else _) Q E s;rw[if_neg (by intro h;rw[hn,Bool.false_and]at h;cases h)]
           exact rR hQ))
noncomputable def Itl(K:rW)(a:rX):It :=
 #[λi H=>∃xs x,SqL K H a xs/\xs[i]? = AM x,λi H x H'=>H'=H/\∀xs,SqL K H a xs->xs[i]? = AM x,λi H=>∃xs,SqL K H a xs/\xs.length<=i]
noncomputable def Itt(K:rW)(a:rX):It :=
 #[λi H=>∃xs x,SqT K H a xs/\xs[i]? = AM x,λi H x H'=>H'=H/\∀xs,SqT K H a xs->xs[i]? = AM x,λi H=>∃xs,SqT K H a xs/\xs.length<=i]
noncomputable def Itr(lo:Int)(n:Nat):It:=#[λi _=>i<n,λi H x H'=>H'=H/\x=.int (lo+i),λi _=>n<=i]
theorem UN{P:sj}{w:so}{K:rW}{tg:sr}(a it:rX):JP P w K tg (Itl K a) [it] it (λi h=>h.IsListIter it a i) where
 mem:=by simp
 obj:=λi h st b hb=>by
  have e:b=it:=by simpa using hb
  subst e;obtain⟨o,e,c,d⟩:=st;exact#[o,e,λv z=>by rw[d]at z;cases z]
 keep:=λi h h' st k=>st.at λo e=>k it (by simp) o e
 item:=by
  intro X hP hw hK hc i AR s σ H E I hf st hg;subst hP hw hK;obtain⟨xs,x,hq,hx⟩:=hg;obtain⟨its,rv,p,hz⟩:=I.list hq;obtain⟨u,hu,ru⟩:=rv.get hx;obtain⟨f0,f1,f2,f3,f4,f5⟩:=hf it (by simp);refine wpAny_pyNext_list_item st p.isList (x:=u) (by simpa using hu) λh' st' sb=>?_;have I1:Inv X AR σ H { s with heap:=h' }:=I.turned (t':=s.toks) (λb o hb e=>(sb.2 b hb).trans e) f0 f1 f3 f4 f5;obtain⟨o,e,c,d⟩:=id st';exact#[u,rfl,QT (s:={ s with heap:=h' }) e c d ∅ #[x,H,I1,ru,#[rfl,λys hy=>by rw[I.list_inj hy hq];exact hx],st',λb hb=>(hf b hb).1]]
 done:=by
  intro X hP hw hK hc i AR s σ H E I hf st hg;subst hP hw hK;obtain⟨xs,hq,hx⟩:=hg;obtain⟨its,rv,p,hz⟩:=I.list hq;obtain⟨f0,f1,f2,f3,f4,f5⟩:=hf it (by simp);have hl:=rv.length;exact wpAny_pyNext_list_end (I.ok.hd hc) st p.isList (by simp;lia) λh' eb=>#[rfl,I.turned (t':=s.toks) (λb o hb e=>eb b o hb e) f0 f1 f3 f4 f5]
 self:=λ_ _ _ _ _ st h=>wpAny_pyIter_listiter st h
theorem Vj{P:sj}{w:so}{K:rW}{tg:sr}(it:rX)(lo:Int)(n:Nat):JP P w K tg (Itr lo n) [it] it (λi h=>Al h it (lo+(i:Nat) * 1) ((n:Int) - (i:Nat)) 1) where
 mem:=by simp
 obj:=λi h st b hb=>by
  have e:b=it:=by simpa using hb
  subst e
  exact#[_,st,λv z=>by
   have z':Data.fields _=Data.cell v:=z
   cases z']
 keep:=λi h h' st k=>k it (by simp) _ st
 item:=by
  intro X hP hw hK hc i AR s σ H E I hf st hg;subst hP hw hK;obtain⟨f0,f1,f2,f3,f4,f5⟩:=hf it (by simp);have W:=Walks.range (prog:=X.prog) (w:=X.w) (I.ok.hd hc) it lo 1 n;refine W.item i s _ _ hg st λv h' tk hv st' kk=>?_;obtain⟨t,rfl⟩:=hv;have I1:Inv X AR σ H { s with heap:=h',toks:=tk }:=I.turned (λb o hb e=>kk b o (by simpa using hb) e) f0 f1 f3 f4 f5;refine#[_,rfl,QT (s:={ s with heap:=h',toks:=tk }) (n:="range_iterator") st' rfl rfl ∅ #[.int (lo+i),H,I1,#[t,?_],#[rfl,rfl],st',λb hb=>(hf b hb).1]];rw[Int.mul_one]
 done:=by
  intro X hP hw hK hc i AR s σ H E I hf st hg;subst hP hw hK;obtain⟨f0,f1,f2,f3,f4,f5⟩:=hf it (by simp);exact tZ (I.ok.hd hc) st (by have:n<=i:=hg;lia) λh' eb=>#[rfl,I.turned (t':=s.toks) (λb o hb e=>eb b o hb e) f0 f1 f3 f4 f5]
 self:=λ_ _ _ _ _ st h=>Aa st h
end L2
namespace L2
section
variable{X:Cx}{tg:sr}
def za1(K:rW)(tl:TE):TI:=λσ H R=>tl σ H λx H1=>∃a,x=.ref a/\(∃xs,SqL K H1 a xs)/\R (Itl K a) H1
def zfW(K:rW)(tl:TE):TI:=λσ H R=>tl σ H λx H1=>∃a,x=.ref a/\(∃xs,SqT K H1 a xs)/\R (Itt K a) H1
theorem yd{l:sr}{tl:TE}(hl:PE X l tl):PI X tg l (za1 X.K tl):=by
 intro AR s σ H R I h;refine thn (hl AR s σ H _ I h) λv s1 ⟨x,H1,I1,r1,q1⟩=>?_;obtain⟨a,e,⟨xs,hq⟩,q⟩:=q1;subst e;cases r1;obtain⟨its,rv,p,hz⟩:=I1.list hq;refine tL p.isList ?_;refine#[s1⁻¹,[s1⁻¹],_,_,H1,rfl,I1.kept (t':=s1.toks) λb o e=>ae _ e,UN a _,#[_,az _ rfl,rfl,rfl],λb hb=>?_,q];have e:b=s1⁻¹:=by simpa using hb
 subst e;exact I1.fpOk (al _) (I1.hok.fresh (al _))
theorem XV{AR:List (rX × sL)}{σ:St}{H:Hp}{s:rZ}{R:It->Hp->Prop}{E:rY->rZ->Prop}{lo hi:Int}{t u v:tT}{tk:Nat}(I:Inv X AR σ H s)(h1:-(2 ^ 62)<=lo)(h2:lo<2 ^ 62)(h3:-(2 ^ 62)<=hi)(h4:hi<2 ^ 62)
  (q:R (Itr lo (hi - lo).toNat) H):si (model X.prog X.w) X.A (pyIter (.ref s⁻¹)) (PIE X AR σ tg R) E { s with heap:=s.heap.push { cls:=.type "range",data:=.fields (List.toArray [.int lo t,.int hi u,.int 1 v]) },toks:=tk }:=by
 refine Ar (IsRange.new ..) (small_one h1 h2 h3 h4) ?_;have I1:Inv X AR σ H { s with heap:=s.heap.push { cls:=.type "range",data:=.fields (List.toArray [.int lo t,.int hi u,.int 1 v]) },toks:=tk }:=I.kept λb o e=>ae _ e
 refine#[(s.heap.push { cls:=.type "range",data:=.fields (List.toArray [.int lo t,.int hi u,.int 1 v]) }).objs.size,[(s.heap.push { cls:=.type "range",data:=.fields (List.toArray [.int lo t,.int hi u,.int 1 v]) }).objs.size],_,_,H,rfl,
  I1.kept (t':=tk) λb o e=>ae _ e,Vj _ lo (hi - lo).toNat,?_,λb hb=>?_,q]
 ·have e1:lo+((0:Nat):Int) * 1=lo:=by simp
  have e2:(((hi - lo).toNat:Nat):Int) - ((0:Nat):Int)=Builtin.Range.rangeSize lo hi 1:=by rw[rangeSize_one];split <;> lia
  show Al _ _ (lo+((0:Nat):Int) * 1) ((((hi - lo).toNat:Nat):Int) - ((0:Nat):Int)) 1;rw[e1,e2];exact az _ rfl
 ·have e:b=(s.heap.push { cls:=.type "range",data:=.fields (List.toArray [.int lo t,.int hi u,.int 1 v]) }).objs.size:=by simpa using hb
  subst e;exact I1.fpOk (al _) (I1.hok.fresh (al _))
def zbP(ta:TA):TI:=λσ H R=>ta σ H λvs H1=>∃j:Int,vs=[.int j]/\-(2 ^ 62)<=j/\j<2 ^ 62/\R (Itr 0 j.toNat) H1
def zc3(ta:TA):TI:=λσ H R=>ta σ H λvs H1=>∃i j:Int,vs=[.int i,.int j]/\(-(2 ^ 62)<=i/\i<2 ^ 62/\-(2 ^ 62)<=j/\j<2 ^ 62)/\R (Itr i (j - i).toNat) H1
theorem zX{a:sr}{ta:TA}{p pos:tm}(hg:Gl X "range")(hm:X.mg "range" = AN)(ha:PA X [a] ta)(hs:rT [a] X.env=[(AQ,eval a X.env)]:=by rfl):PI X tg (.Call (.Name "range" p) [a] [] pos) (zbP ta):=by
 intro AR s σ H R I h;refine AL (wD I hg hm boot_range (bp (thn (ha pos AR s σ H _ I h) λus s1 ⟨vs,H1,I1,r1,q1⟩=>?_) hs rfl));obtain⟨j,e,q1,q2,q⟩:=q1;subst e
 cases r1 with
 | cons r rr =>
  cases rr;obtain⟨t,rfl⟩:=r;exact call_range_1 (XV I1 ⋯ ⋯ q1 q2 (by simpa using q))
theorem Z0{a b:sr}{ta:TA}{p pos:tm}(hg:Gl X "range")(hm:X.mg "range" = AN)(ha:PA X [a,b] ta)(hs:rT [a,b] X.env=[(AQ,eval a X.env),(AQ,eval b X.env)]:=by rfl)(hs2:rT [b] X.env=[(AQ,eval b X.env)]:=by rfl) :
  PI X tg (.Call (.Name "range" p) [a,b] [] pos) (zc3 ta):=by
 intro AR s σ H R I h;refine AL (wD I hg hm boot_range (bp (thn (ha pos AR s σ H _ I h) λus s1 ⟨vs,H1,I1,r1,q1⟩=>?_) (by rw[hs,hs2]) (by rw[hs2];rfl)));obtain⟨i,j,e,⟨q1,q2,q3,q4⟩,q⟩:=q1;subst e
 cases r1 with
 | cons r rr =>
  cases rr with
  | cons r' rr =>
   cases rr;obtain⟨t,rfl⟩:=r;obtain⟨t',rfl⟩:=r';exact call_range_2 (XV I1 q1 q2 q3 q4 q)
def Ju(wi:TI)(g:TG)(tb:TS):TS:=λD σ H=>wi σ H λJ H1=>∃W:Nat->Nat->St->Hp->Prop,(∃m,W 0 m σ H1)/\∀i m σ H,W i m σ H ->
 (J.stop i H/\D.nx σ H)\/(J.go i H/\∃N:St->Hp->Prop,(∀σ' H',N σ' H'->∃m',m'<m/\W (i+1) m' σ' H')/\∀x H',J.yld i H x H'->g x σ H' λσ2 H2=>tb { D with nx:=N,ct:=N,bk:=D.nx } σ2 H2)
noncomputable def Yt(fp:List rX)(h:su):List (rX × sL):=fp.filterMap λb=>(h.get? b).map λo=>(b,o)
theorem wV{fp:List rX}{h:su}{b:rX}{o:sL}(hb:b ∈ fp)(e:h.get? b=AM o):(b,o) ∈ Yt fp h:=Bk.mpr #[b,hb,by rw[e];rfl]
theorem VT{fp:List rX}{h:su}{p:rX × sL}(hp:p ∈ Yt fp h):p.1 ∈ fp/\h.get? p.1=AM p.2:=by
 obtain⟨b,hb,e⟩:=Bk.mp hp
 cases q:h.get? b with
 | none=>rw[q]at e;cases e
 | some o =>
  rw[q]at e;have e':(b,o)=p:=Option.some.inj e;subst e';exact#[hb,q]
theorem Inv.pinned{AR:List (rX × sL)}{σ:St}{H:Hp}{s:rZ}{fp:List rX}(I:Inv X AR σ H s)(hf:∀b ∈ fp,wj X AR H b)(ho:∀b ∈ fp,∃o,s.heap.get? b=AM o/\∀v,o.data≠.cell v):Inv X (AR ++ Yt fp s.heap) σ H s :=
 I.pins_of λp hp=>(AW.mp hp).elim (λz=>I.pin p (aA _ z)) λz=>by
  obtain⟨hb,e⟩:=VT z;obtain⟨f0,f1,f2,_⟩:=hf p.1 hb;obtain⟨o,e',d⟩:=ho p.1 hb;rw[e]at e';cases e';exact#[e,f0,f1,f2,d]
theorem Inv.unpinned{AR pl:List (rX × sL)}{σ:St}{H:Hp}{s:rZ}(I:Inv X (AR ++ pl) σ H s):Inv X AR σ H s:=I.pins_of λp hp=>I.pin p (aA _ (bD _ hp))
theorem zN{iter:sr}{body:List sv}{wi:TI}{g:TG}{tb:TS}{pos:tm}(hp:PassesOwn (model X.prog X.w) X.A X.env X.xe)(hc:X.calm=AO)(hi:PI X tg iter wi)(hg:PG X tg g)(hb:PSs X body tb)
  (hs:∀x,foldedSetIterable iter X.env x=pure x:=by intro _;rfl):PS X (.For tg iter body [] pos) (Ju wi g tb):=by
 intro AR s σ H D I h;refine wpAny_For (thn (hi AR s σ H _ I h) λv s1 h1=>thn h1 λitv s2 h2=>?_) hs;obtain⟨it,fp,tn,J,H2,e,I2,T,st2,f2,W,⟨m0,w0⟩,turn⟩:=h2;subst e;have stat:∀{H':Hp},(∀b ∈ fp,H' b=AN)->∀b ∈ fp,wj X AR H' b:=λhn b hb=>#[hn b hb,(f2 b hb).2];refine codeAny_forLoop_any (λn s'=>∃i σ' H',Inv X AR σ' H' s'/\tn i s'.heap/\(∀b ∈ fp,H' b=AN)/\W i n σ' H') ?_ m0 #[0,σ,H2,I2,st2,λb hb=>(f2 b hb).1,w0];rintro n s3 ⟨i,σ3,H3,I3,st3,fr3,w3⟩;rcases turn i n σ3 H3 w3 with ⟨stop,qn⟩ | ⟨go,N,hN,step⟩
 ·refine sX hp (thn (T.done X rfl rfl rfl hc i AR s3 σ3 H3 X.xe I3 (stat fr3) st3 stop) λr s4 ⟨hr,I4⟩=>?_);subst hr;exact tw #[σ3,H3,I4,qn]
 ·refine sX hp (thn (T.item X rfl rfl rfl hc i AR s3 σ3 H3 X.xe I3 (stat fr3) st3 go) λr s4 ⟨u,hr,h4⟩=>?_);subst hr;refine sX hp (thn h4 λ_ s5 ⟨x,H5,I5,r5,y5,st5,fr5⟩=>?_);have I5':=I5.pinned (stat fr5) (T.obj _ _ st5);refine sX hp (thn (hg _ s5 σ3 H5 x u _ I5' r5 (step x H5 y5)) λ_ s6 ⟨σ6,H6,I6,q6⟩=>?_);refine sX hp (thn (hb _ s6 σ6 H6 _ I6 q6) λf s7 q7=>?_)
  have again:∀{σ7:St} {H7:Hp},Inv X (AR ++ Yt fp s5.heap) σ7 H7 s7->N σ7 H7->∃m,m<n/\∃i σ' H',Inv X AR σ' H' s7/\tn i s7.heap/\(∀b ∈ fp,H' b=AN)/\W i m σ' H':=λ{σ7 H7} I7 n7=>by
   obtain⟨m',hm,w7⟩:=hN σ7 H7 n7;refine#[m',hm,i+1,σ7,H7,I7.unpinned,T.keep _ _ _ st5 λb hb o e=>(I7.pin (b,o) (aA _ (aA _ (wV hb e)))).1,λb hb=>?_,w7];obtain⟨o,e,d⟩:=T.obj _ _ st5 b hb;exact (I7.pin (b,o) (aA _ (aA _ (wV hb e)))).2.1
  cases f with
  | next=>obtain⟨σ7,H7,I7,n7⟩:=q7;exact again I7 n7
  | cont=>obtain⟨σ7,H7,I7,n7⟩:=q7;exact again I7 n7
  | brk=>obtain⟨σ7,H7,I7,q7⟩:=q7;exact#[σ7,H7,I7.unpinned,q7]
  | ret v=>obtain⟨x7,σ7,H7,I7,r7,q7⟩:=q7;exact#[x7,σ7,H7,I7.unpinned,r7,q7]
end
theorem JW{K:rW}{a:rX}{xs:List V}{g:TG}{tb:TS}{D:vN}{σ:St}{H:Hp}(Pv:Nat->St->Hp->Prop)(h0:Pv 0 σ H)(hl:∀i σ H,i<=xs.length->Pv i σ H->SqL K H a xs)
  (hs:∀i x σ H,xs[i]? = AM x->Pv i σ H->g x σ H λσ2 H2=>tb { D with nx:=Pv (i+1),ct:=Pv (i+1),bk:=D.nx } σ2 H2) (hd:∀σ H,Pv xs.length σ H->D.nx σ H) :
  ∃W:Nat->Nat->St->Hp->Prop,(∃m,W 0 m σ H)/\∀i m σ H,W i m σ H ->
   ((Itl K a).stop i H/\D.nx σ H)\/((Itl K a).go i H/\∃N:St->Hp->Prop,(∀σ' H',N σ' H'->∃m',m'<m/\W (i+1) m' σ' H')/\∀x H',(Itl K a).yld i H x H'->g x σ H' λσ2 H2=>tb { D with nx:=N,ct:=N,bk:=D.nx } σ2 H2):=by
 refine#[λi m σ H=>m=xs.length - i/\i<=xs.length/\Pv i σ H,#[xs.length,by simp,aE _,h0],?_];rintro i m σ H ⟨rfl,hi,p⟩;have q:=hl i σ H hi p;by_cases hlt:i<xs.length
 ·refine .inr #[#[xs,xs[i],q,by simp [hlt]],Pv (i+1),λσ' H' p'=>#[xs.length - (i+1),⋯,rfl,hlt,p'],λx H' y=>?_];obtain⟨e,y⟩:=y;subst e;exact hs i x σ _ (y xs q) p
 ·have e:i=xs.length:=⋯;subst e;exact .inl #[#[xs,q,al _],hd σ H p]
theorem QQ{lo:Int}{n:Nat}{g:TG}{tb:TS}{D:vN}{σ:St}{H:Hp}(Pv:Nat->St->Hp->Prop)(h0:Pv 0 σ H)
  (hs:∀i σ H,i<n->Pv i σ H->g (.int (lo+i)) σ H λσ2 H2=>tb { D with nx:=Pv (i+1),ct:=Pv (i+1),bk:=D.nx } σ2 H2) (hd:∀σ H,Pv n σ H->D.nx σ H) :
  ∃W:Nat->Nat->St->Hp->Prop,(∃m,W 0 m σ H)/\∀i m σ H,W i m σ H ->
   ((Itr lo n).stop i H/\D.nx σ H)\/((Itr lo n).go i H/\∃N:St->Hp->Prop,(∀σ' H',N σ' H'->∃m',m'<m/\W (i+1) m' σ' H')/\∀x H',(Itr lo n).yld i H x H'->g x σ H' λσ2 H2=>tb { D with nx:=N,ct:=N,bk:=D.nx } σ2 H2):=by
 refine#[λi m σ H=>m=n - i/\i<=n/\Pv i σ H,#[n,by simp,aE _,h0],?_];rintro i m σ H ⟨rfl,hi,p⟩;by_cases hlt:i<n
 ·refine .inr #[hlt,Pv (i+1),λσ' H' p'=>#[n - (i+1),⋯,rfl,hlt,p'],λx H' y=>?_];obtain⟨e,y⟩:=y;subst e y;exact hs i σ _ hlt p
 ·have e:i=n:=⋯;subst e;exact .inl #[al _,hd σ H p]
end L2
namespace L2
noncomputable abbrev R2:=V->V->Hp->VK->Prop
def OpR(X:Cx)(f:rY->rY->AF rY)(r:R2):Prop :=
 ∀(AR:List (rX × sL)) (s:rZ) (σ:St) (H:Hp) (x y:V) (v u:rY) (Q:VK),Inv X AR σ H s->RelV x v->RelV y u->r x y H Q ->
  si (model X.prog X.w) X.A (f v u) (EP X AR σ Q) X.xe s
def UnR(X:Cx)(f:rY->AF rY)(r:V->Hp->VK->Prop):Prop :=
 ∀(AR:List (rX × sL)) (s:rZ) (σ:St) (H:Hp) (x:V) (v:rY) (Q:VK),Inv X AR σ H s->RelV x v->r x H Q ->
  si (model X.prog X.w) X.A (f v) (EP X AR σ Q) X.xe s
def vo(X:Cx)(f:rY)(r:List V->Hp->VK->Prop):Prop :=
 ∀(AR:List (rX × sL)) (s:rZ) (σ:St) (H:Hp) (xs:List V) (us:List rY) (Q:VK),Inv X AR σ H s->Vals xs us->r xs H Q ->
  si (model X.prog X.w) X.A (call f us) (EP X AR σ Q) X.xe s
def zfS(X:Cx)(r:V->Hp->(Bool->Hp->Prop)->Prop):Prop :=
 ∀(AR:List (rX × sL)) (s:rZ) (σ:St) (H:Hp) (x:V) (v:rY) (Q:Bool->Hp->Prop),Inv X AR σ H s->RelV x v->r x H Q ->
  si (model X.prog X.w) X.A (truthy v) (TP X AR σ Q) X.xe s
def tOp(r:R2)(ta tb:TE):TE:=λσ H Q=>ta σ H λx H1=>tb σ H1 λy H2=>r x y H2 Q
def tUn(r:V->Hp->VK->Prop)(ta:TE):TE:=λσ H Q=>ta σ H λx H1=>r x H1 Q
def rI(C:Int->Int->Prop)(g:Int->Int->V):R2:=λx y H Q=>onInt x λi=>onInt y λj=>C i j/\Q (g i j) H
def rI0(g:Int->Int->V):R2:=λx y H Q=>onInt x λi=>onInt y λj=>Q (g i j) H
def rU(g:Int->V):V->Hp->VK->Prop:=λx H Q=>onInt x λi=>Q (g i) H
section
variable{X:Cx}{a b c:sr}{ta tb tc:TE}{pos:tm}
theorem zey(ha:PE X a ta)(hb:PE X b tb){AR:List (rX × sL)}{s:rZ}{σ:St}{H:Hp}{R:V->V->Hp->Prop}(I:Inv X AR σ H s)
  (h:ta σ H λx H1=>tb σ H1 λy H2=>R x y H2) {Q:rY->rZ->Prop} {f:rY->rY->AF rY}
  (hf:∀v u s2 x y H2,Inv X AR σ H2 s2->RelV x v->RelV y u->R x y H2->si (model X.prog X.w) X.A (f v u) Q X.xe s2) :
  si (model X.prog X.w) X.A (eval a X.env) (λv s₁=>si (model X.prog X.w) X.A (eval b X.env) (λu s₂=>si (model X.prog X.w) X.A (f v u) Q X.xe s₂) X.xe s₁) X.xe s:=by
 refine thn (ha AR s σ H _ I h) λv s1 ⟨x,H1,I1,r1,q1⟩=>?_;refine thn (hb AR s1 σ H1 _ I1 q1) λu s2 ⟨y,H2,I2,r2,q2⟩=>?_;exact hf v u s2 x y H2 I2 r1 r2 q2
theorem zG{op:Operator}{r:R2}(ho:OpR X (binaryOp op) r)(ha:PE X a ta)(hb:PE X b tb):PE X (.BinOp a op b pos) (tOp r ta tb):=by
 intro AR s σ H Q I h;exact wpAny_BinOp (zey ha hb I h λv u s2 x y H2 I2 rx ry q=>ho AR s2 σ H2 x y v u Q I2 rx ry q)
theorem zfh{op:UnaryOp}{r:V->Hp->VK->Prop}(ho:UnR X (unaryOp op) r)(ha:PE X a ta):PE X (.UnaryOp op a pos) (tUn r ta):=by
 intro AR s σ H Q I h;exact UnaryOp_ (thn (ha AR s σ H _ I h) λv s1 ⟨x,H1,I1,r1,q1⟩=>ho AR s1 σ H1 x v Q I1 r1 q1)
theorem opI{f:rY->rY->AF rY}{C:Int->Int->Prop}{g:Int->Int->Int}
  (rule:∀(i j:Int) (t u:tT) (s:rZ) (Q:rY->rZ->Prop) (E:rY->rZ->Prop),C i j->Q (.int (g i j) s.toks) { s with toks:=s.toks+1 }->si (model X.prog X.w) X.A (f (.int i t) (.int j u)) Q E s) :
  OpR X f (rI C λi j=>.int (g i j)):=by
 intro AR s σ H x y v u Q I rx ry h;obtain⟨i,rfl,h2⟩:=onInt.of h;obtain⟨j,rfl,hc,q⟩:=onInt.of h2;obtain⟨t,rfl⟩:=rx;obtain⟨t',rfl⟩:=ry;exact rule i j t t' s _ _ hc #[.int (g i j),H,I.tok _,#[_,rfl],q]
theorem zfs{f:rY->rY->AF rY}{g:Int->Int->Int}
  (rule:∀(i j:Int) (t u:tT) (s:rZ) (Q:rY->rZ->Prop) (E:rY->rZ->Prop),Q (.int (g i j) s.toks) { s with toks:=s.toks+1 }->si (model X.prog X.w) X.A (f (.int i t) (.int j u)) Q E s) :
  OpR X f (rI0 λi j=>.int (g i j)):=by
 intro AR s σ H x y v u Q I rx ry h;obtain⟨i,rfl,h2⟩:=onInt.of h;obtain⟨j,rfl,q⟩:=onInt.of h2;obtain⟨t,rfl⟩:=rx;obtain⟨t',rfl⟩:=ry;exact rule i j t t' s _ _ #[.int (g i j),H,I.tok _,#[_,rfl],q]
theorem zd4{f:rY->rY->AF rY}{g:Int->Int->Bool}
  (rule:∀(i j:Int) (t u:tT) (s:rZ) (Q:rY->rZ->Prop) (E:rY->rZ->Prop),Q (.bool (g i j)) s->si (model X.prog X.w) X.A (f (.int i t) (.int j u)) Q E s) :
  OpR X f (rI0 λi j=>.bl (g i j)):=by
 intro AR s σ H x y v u Q I rx ry h;obtain⟨i,rfl,h2⟩:=onInt.of h;obtain⟨j,rfl,q⟩:=onInt.of h2;obtain⟨t,rfl⟩:=rx;obtain⟨t',rfl⟩:=ry;exact rule i j t t' s _ _ #[.bl (g i j),H,I,rfl,q]
def zf0(i j:Int):Prop:=0<j/\j<1073741824
def zeN(i j:Int):Prop:=0<=j/\j<=1000000/\i.natAbs<2 ^ 64
def CMul(i j:Int):Prop:=(-(2 ^ 64)<i/\i<2 ^ 64)\/(-(2 ^ 64)<j/\j<2 ^ 64)
theorem CMul.ok{i j:Int}(h:CMul i j):IntMulOk i j:=by
 rcases h with ⟨h1,h2⟩ | ⟨h1,h2⟩
 ·exact .of_left (intBits_le_64 h1 h2)
 ·exact .of_right (intBits_le_64 h1 h2)
theorem yY:OpR X (binaryOp .Add) (rI0 λi j=>.int (i+j)):=zfs λ_ _ _ _ _ _ _ q=>add_int q
theorem j1:OpR X (binaryOp .Sub) (rI0 λi j=>.int (i - j)):=zfs λ_ _ _ _ _ _ _ q=>sub_int q
theorem jc:OpR X (binaryOp .Mult) (rI CMul λi j=>.int (i * j)):=opI λ_ _ _ _ _ _ _ hc q=>mul_int q hc.ok
theorem ww:OpR X (binaryOp .FloorDiv) (rI zf0 λi j=>.int (i / j)):=opI λi j _ _ _ _ _ hc q=>by
 have h1:(0:Int)<j:=hc.1;have h2:j<1073741824:=hc.2;exact floordiv_int ⋯ (by rw[Int.fdiv_eq_ediv_of_nonneg i ⋯];exact q) (.inl (PyProof.noPylong_small ⋯))
theorem yZ:OpR X (binaryOp .Mod) (rI (λ_ j=>0<j) λi j=>.int (i % j)):=opI λi j _ _ _ _ _ hc q=>by
 have h1:(0:Int)<j:=hc;exact mod_int' ⋯ (by rw[Int.fmod_eq_emod_of_nonneg i ⋯];exact q)
theorem VE:OpR X (binaryOp .Pow) (rI zeN λi j=>.int (i ^ j.toNat)):=opI λ_ _ _ _ _ _ _ hc q=>pow_int_small hc.1 hc.2.1 hc.2.2 q
theorem unI{f:rY->AF rY}{g:Int->Int}
  (rule:∀(i:Int) (t:tT) (s:rZ) (Q:rY->rZ->Prop) (E:rY->rZ->Prop),Q (.int (g i) s.toks) { s with toks:=s.toks+1 }->si (model X.prog X.w) X.A (f (.int i t)) Q E s) :
  UnR X f (rU λi=>.int (g i)):=by
 intro AR s σ H x v Q I rx h;obtain⟨i,rfl,q⟩:=onInt.of h;obtain⟨t,rfl⟩:=rx;exact rule i t s _ _ #[.int (g i),H,I.tok _,#[_,rfl],q]
theorem zdO:UnR X (unaryOp .USub) (rU λi=>.int (-i)):=unI λ_ _ _ _ _ q=>neg_int q
end
noncomputable def VB:V->V->Bool
 | .non,.non=>AO | .non,.int _=>AO | .int _,.non=>AO | .non,.bl _=>AO | .bl _,.non=>AO | .non,.str _=>AO | .str _,.non=>AO
 | .int _,.int _=>AO | .bl _,.bl _=>AO | .str _,.str _=>AO | .byt _,.byt _=>AO
 | .int _,.str _=>AO | .str _,.int _=>AO | .bl _,.str _=>AO | .str _,.bl _=>AO
 | _,_=>AQ
def rEq:R2:=λx y H Q=>match x,y with | .int a,.int b=>Q (.bl (decide (a=b))) H | .str a,.str b=>Q (.bl (decide (a=b))) H | x,y=>VB x y=AO/\Q (.bl (decide (x=y))) H
theorem rEq_is{x y:V}{H:Hp}{Q:VK}:rEq x y H Q=(VB x y=AO/\Q (.bl (decide (x=y))) H):=by
 unfold rEq;split <;> simp [VB]
def rNe:R2:=λx y H Q=>match x,y with | .int a,.int b=>Q (.bl (!decide (a=b))) H | .str a,.str b=>Q (.bl (!decide (a=b))) H | x,y=>VB x y=AO/\Q (.bl (!decide (x=y))) H
theorem rNe_is{x y:V}{H:Hp}{Q:VK}:rNe x y H Q=(VB x y=AO/\Q (.bl (!decide (x=y))) H):=by
 unfold rNe;split <;> simp [VB]
theorem VU{i j:Int}:decide (V.int i=V.int j)=(i == j):=by
 rw[db];simp
theorem KO{i j:Bool}:decide (V.bl i=V.bl j)=(i == j):=by
 rw[db];simp
theorem Q5{i j:sk}:decide (V.str i=V.str j)=(i == j):=by
 rw[db];simp
theorem Qi{i j:Array UInt8}:decide (V.byt i=V.byt j)=(i.toList == j.toList):=by
 rw[db];cases i;cases j;simp
section
variable{X:Cx}{a b c:sr}{ta tb tc:TE}{pos:tm}
theorem zP{AR:List (rX × sL)}{σ:St}{H:Hp}{s:rZ}{Q:VK}{k k':Bool}(I:Inv X AR σ H s)(q:Q (.bl k) H)(e:k=k'):EP X AR σ Q (.bool k') s:=by
 subst e;exact#[.bl k,H,I,rfl,q]
theorem wu:OpR X (sw .Eq) rEq:=by
 intro AR s σ H x y v u Q I rx ry h;obtain⟨hs,q⟩:=rEq_is.mp h
 cases x with
 | non =>
  cases rx
  cases y with
  | non=>cases ry;exact PySem.EqNone.eq_none_none (zP I q (by simp))
  | bl j=>cases ry;exact PySem.EqNone.eq_none_bool (zP I q (by simp))
  | int j=>obtain⟨t',rfl⟩:=ry;exact PySem.EqNone.eq_none_int (zP I q (by simp))
  | str j=>obtain⟨t',rfl⟩:=ry;exact PySem.EqNone.eq_none_str (zP I q (by simp))
  | _=>exact absurd (show AQ=AO from hs) aw
 | bl i =>
  cases rx
  cases y with
  | non=>cases ry;exact PySem.EqNone.eq_bool_none (zP I q (by simp))
  | bl j=>cases ry;exact eq_bool (zP I q KO)
  | str j=>obtain⟨t',rfl⟩:=ry;exact PySem.EqMixed.eq_bool_str (zP I q (by simp))
  | _=>exact absurd (show AQ=AO from hs) aw
 | int i =>
  obtain⟨t,rfl⟩:=rx
  cases y with
  | non=>cases ry;exact PySem.EqNone.eq_int_none (zP I q (by simp))
  | int j=>obtain⟨t',rfl⟩:=ry;exact eq_int (zP I q VU)
  | str j=>obtain⟨t',rfl⟩:=ry;exact PySem.EqMixed.eq_int_str (zP I q (by simp))
  | _=>exact absurd (show AQ=AO from hs) aw
 | str i =>
  obtain⟨t,rfl⟩:=rx
  cases y with
  | non=>cases ry;exact PySem.EqNone.eq_str_none (zP I q (by simp))
  | bl j=>cases ry;exact PySem.EqMixed.eq_str_bool (zP I q (by simp))
  | int j=>obtain⟨t',rfl⟩:=ry;exact PySem.EqMixed.eq_str_int (zP I q (by simp))
  | str j=>obtain⟨t',rfl⟩:=ry;exact eq_str (zP I q Q5)
  | _=>exact absurd (show AQ=AO from hs) aw
 | byt i =>
  obtain⟨t,rfl⟩:=rx
  cases y with
  | byt j=>obtain⟨t',rfl⟩:=ry;exact PySem.W.eq_bytes (zP I q Qi)
  | _=>exact absurd (show AQ=AO from hs) aw
 | _=>cases y <;> exact absurd (show AQ=AO from hs) aw
theorem vJ:OpR X (sw .NotEq) rNe:=by
 intro AR s σ H x y v u Q I rx ry h;obtain⟨hs,q⟩:=rNe_is.mp h
 cases x with
 | non =>
  cases rx
  cases y with
  | non=>cases ry;exact PySem.EqNone.ne_none_none (zP I q (by simp))
  | bl j=>cases ry;exact PySem.EqNone.ne_none_bool (zP I q (by simp))
  | int j=>obtain⟨t',rfl⟩:=ry;exact PySem.EqNone.ne_none_int (zP I q (by simp))
  | str j=>obtain⟨t',rfl⟩:=ry;exact PySem.EqNone.ne_none_str (zP I q (by simp))
  | _=>exact absurd (show AQ=AO from hs) aw
 | bl i =>
  cases rx
  cases y with
  | non=>cases ry;exact PySem.EqNone.ne_bool_none (zP I q (by simp))
  | bl j=>cases ry;exact ne_bool (zP I q (congrArg not KO))
  | str j=>obtain⟨t',rfl⟩:=ry;exact PySem.EqMixed.ne_bool_str (zP I q (by simp))
  | _=>exact absurd (show AQ=AO from hs) aw
 | int i =>
  obtain⟨t,rfl⟩:=rx
  cases y with
  | non=>cases ry;exact PySem.EqNone.ne_int_none (zP I q (by simp))
  | int j=>obtain⟨t',rfl⟩:=ry;exact ne_int (zP I q (congrArg not VU))
  | str j=>obtain⟨t',rfl⟩:=ry;exact PySem.EqMixed.ne_int_str (zP I q (by simp))
  | _=>exact absurd (show AQ=AO from hs) aw
 | str i =>
  obtain⟨t,rfl⟩:=rx
  cases y with
  | non=>cases ry;exact PySem.EqNone.ne_str_none (zP I q (by simp))
  | bl j=>cases ry;exact PySem.EqMixed.ne_str_bool (zP I q (by simp))
  | int j=>obtain⟨t',rfl⟩:=ry;exact PySem.EqMixed.ne_str_int (zP I q (by simp))
  | str j=>obtain⟨t',rfl⟩:=ry;exact ne_str (zP I q (congrArg not Q5))
  | _=>exact absurd (show AQ=AO from hs) aw
 | byt i =>
  obtain⟨t,rfl⟩:=rx
  cases y with
  | byt j=>obtain⟨t',rfl⟩:=ry;exact PySem.W.ne_bytes (zP I q (congrArg not Qi))
  | _=>exact absurd (show AQ=AO from hs) aw
 | _=>cases y <;> exact absurd (show AQ=AO from hs) aw
theorem JS:OpR X (sw .Lt) (rI0 λi j=>.bl (decide (i<j))):=zd4 λ_ _ _ _ _ _ _ q=>lt_int q
theorem zfm:OpR X (sw .LtE) (rI0 λi j=>.bl (decide (i<=j))):=zd4 λ_ _ _ _ _ _ _ q=>le_int q
theorem zb2:OpR X (sw .Gt) (rI0 λi j=>.bl (decide (j<i))):=zd4 λ_ _ _ _ _ _ _ q=>gt_int q
theorem zfl:OpR X (sw .GtE) (rI0 λi j=>.bl (decide (j<=i))):=zd4 λ_ _ _ _ _ _ _ q=>ge_int q
theorem V2:OpR X (sw .Lt) (λx y H Q=>∃i j,x=.str i/\y=.str j/\Q (.bl (decide (i.cps.toList<j.cps.toList))) H):=by
 intro AR s σ H x y v u Q I rx ry h;obtain⟨i,j,rfl,rfl,q⟩:=h;obtain⟨t,rfl⟩:=rx;obtain⟨t',rfl⟩:=ry;exact lt_str (zP I q rfl)
theorem zcv:OpR X (sw .Is) (λx y H Q=>y=.non/\Q (.bl (decide (x=.non))) H):=by
 intro AR s σ H x y v u Q I rx ry h;obtain⟨rfl,q⟩:=h;cases ry;refine is_none_gen (zP I q ?_)
 cases x <;> first
  | (cases rx;rfl)
  | (obtain⟨t,rfl⟩:=rx;rfl)
theorem zbr:OpR X (sw .IsNot) (λx y H Q=>y=.non/\Q (.bl (!decide (x=.non))) H):=by
 intro AR s σ H x y v u Q I rx ry h;obtain⟨rfl,q⟩:=h;cases ry;refine isnot_none_gen (zP I q ?_)
 cases x <;> first
  | (cases rx;rfl)
  | (obtain⟨t,rfl⟩:=rx;rfl)
theorem zA(b:sr){op:tN}(h:op≠.In:=by decide)(h2:op≠.NotIn:=by decide):behindInMarks op b=AQ:=by
 have e1:(op == CmpOp.In)=AQ:=by cases op <;> first | rfl | exact absurd rfl h
 have e2:(op == CmpOp.NotIn)=AQ:=by cases op <;> first | rfl | exact absurd rfl h2
 cases b <;> simp [behindInMarks,e1,e2]
theorem yN{op:tN}{r:R2}(ho:OpR X (sw op) r)(ha:PE X a ta)(hb:PE X b tb)(hm:behindInMarks op b=AQ):PE X (.Compare a [op] [b] pos) (tOp r ta tb):=by
 intro AR s σ H Q I h;exact wpAny_Compare1 (zey ha hb I h λv u s2 x y H2 I2 rx ry q=>ho AR s2 σ H2 x y v u Q I2 rx ry q) hm
def QS(t:TE):TT:=λσ H Q=>t σ H λx H'=>onBl x λk=>Q k H'
theorem zy{op:tN}{r:R2}(ho:OpR X (sw op) r)(ha:PE X a ta)(hb:PE X b tb)(hm:behindInMarks op b=AQ):PT X (.Compare a [op] [b] pos) (QS (tOp r ta tb)):=by
 intro AR s σ H Q I h
 refine wpAny_isTrue_Compare1 (thn (ha AR s σ H _ I h) λv s1 ⟨x,H1,I1,r1,q1⟩=>thn (hb AR s1 σ H1 _ I1 q1) λu s2 ⟨y,H2,I2,r2,q2⟩ =>
  thn (ho AR s2 σ H2 x y v u _ I2 r1 r2 q2) λc s3 ⟨z,H3,I3,r3,q3⟩=>?_) hm
 obtain⟨k,rfl,q3⟩:=onBl.of q3;cases r3;exact sI #[H3,I3,q3]
def kq(r r':R2)(ta tb tc:TE):TE:=λσ H Q=>ta σ H λx H1=>tb σ H1 λy H2=>r x y H2 λz H3=>onBl z λk =>
 (if k=AO then tc σ H3 λw' H4=>r' y w' H4 Q else Q (.bl AQ) H3)
theorem Wl{op op':tN}{r r':R2}(ho:OpR X (sw op) r)(ho':OpR X (sw op') r')(ha:PE X a ta)(hb:PE X b tb)(hc:PE X c tc)
  (hm:lastMarks [op,op'] [b,c]=AQ:=by with_unfolding_all rfl):PE X (.Compare a [op,op'] [b,c] pos) (kq r r' ta tb tc):=by
 intro AR s σ H Q I h
 refine Compare_chain (thn (ha AR s σ H _ I h) λv s1 ⟨x,H1,I1,r1,q1⟩=>chain_link (thn (hb AR s1 σ H1 _ I1 q1) λu s2 ⟨y,H2,I2,r2,q2⟩ =>
  thn (ho AR s2 σ H2 x y v u _ I2 r1 r2 q2) λd s3 ⟨z,H3,I3,r3,q3⟩=>?_)) hm
 obtain⟨k,rfl,q3⟩:=onBl.of q3;cases r3;refine sI ?_
 cases k with
 | false=>exact ite_ff #[.bl AQ,H3,I3,rfl,q3]
 | true=>exact ite_tt (chain_last (thn (hc AR s3 σ H3 _ I3 q3) λw' s4 ⟨z',H4,I4,r4,q4⟩=>ho' AR s4 σ H4 y z' u w' Q I4 r2 r4 q4))
theorem vU{op op':tN}{r r':R2}(ho:OpR X (sw op) r)(ho':OpR X (sw op') r')(ha:PE X a ta)(hb:PE X b tb)(hc:PE X c tc)
  (hm:lastMarks [op,op'] [b,c]=AQ:=by with_unfolding_all rfl):PT X (.Compare a [op,op'] [b,c] pos) (QS (kq r r' ta tb tc)):=by
 intro AR s σ H Q I h
 refine isTrue_chain (thn (ha AR s σ H _ I h) λv s1 ⟨x,H1,I1,r1,q1⟩=>test_link (thn (hb AR s1 σ H1 _ I1 q1) λu s2 ⟨y,H2,I2,r2,q2⟩ =>
  thn (ho AR s2 σ H2 x y v u _ I2 r1 r2 q2) λd s3 ⟨z,H3,I3,r3,q3⟩=>?_)) hm
 obtain⟨k,rfl,q3⟩:=onBl.of q3;cases r3;refine sI ?_
 cases k with
 | false =>
  exact ite_ff #[H3,I3,q3]
 | true =>
  refine ite_tt (test_last (thn (hc AR s3 σ H3 _ I3 q3) λw' s4 ⟨z',H4,I4,r4,q4⟩=>thn (ho' AR s4 σ H4 y z' u w' _ I4 r2 r4 q4) λd' s5 ⟨z2,H5,I5,r5,q5⟩=>?_));obtain⟨k2,rfl,q5⟩:=onBl.of q5;cases r5;exact sI #[H5,I5,q5]
def zdH(K:rW)(x:V)(H:Hp)(k:Bool):Prop :=
 match x with
 | .non=>k=AQ
 | .bl b=>k=b
 | .int i=>k=(i != 0)
 | .str y=>y.length<=rV/\k=((y.length:Int) != 0)
 | .byt y=>y.size<=rV/\k=((y.size:Int) != 0)
 | .ref p=>(∃xs,SqL K H p xs/\k=!xs.isEmpty)\/(∃xs,SqT K H p xs/\k=!xs.isEmpty)\/∃kvs,H p=AM (.dK kvs)/\k=!kvs.isEmpty
 | _=>False
theorem WW{κ:Type}{kvs:List (κ × V)}{vs:List (κ × rY)}(r:KV kvs vs):(!vs.isEmpty)=!kvs.isEmpty:=by
 cases r <;> rfl
theorem kn{xs:List V}{its:List rY}(r:Vals xs its):(!its.toArray.isEmpty)=!xs.isEmpty:=by
 cases r <;> simp
theorem ky:(rV:Nat)<2 ^ 63:=by rw[sK];decide
theorem KJ:zfS X (λx H Q=>∃k,zdH X.K x H k/\Q k H):=by
 intro AR s σ H x v Q I rx h;obtain⟨k,e,q⟩:=h;have hl:=ky;have hs:rV=16777216:=sK
 cases x with
 | non =>
  cases rx;have e':k=AQ:=e;subst e';exact truthy_none #[H,I,q]
 | bl b =>
  cases rx;have e':k=b:=e;subst e';exact sI #[H,I,q]
 | int i =>
  obtain⟨t,rfl⟩:=rx;have e':k=(i != 0):=e;subst e';exact PySem.P.truthy_int #[H,I,q]
 | str y =>
  obtain⟨t,rfl⟩:=rx;obtain⟨hy,e'⟩:y.length<=rV/\k=((y.length:Int) != 0):=e;subst e';exact PySem.P.truthy_str ⋯ #[H,I.tok _,q]
 | byt y =>
  obtain⟨t,rfl⟩:=rx;obtain⟨hy,e'⟩:y.size<=rV/\k=((y.size:Int) != 0):=e;subst e';exact PySem.W.truthy_bytes ⋯ #[H,I.tok _,q]
 | ref p =>
  cases rx;have e':(∃xs,SqL X.K H p xs/\k=!xs.isEmpty)\/(∃xs,SqT X.K H p xs/\k=!xs.isEmpty)\/∃kvs,H p=AM (.dK kvs)/\k=!kvs.isEmpty:=e;rcases e' with ⟨xs,hx,e'⟩ | ⟨xs,hx,e'⟩ | ⟨kvs,hx,e'⟩
  ·subst e';obtain⟨its,r,pl,hz⟩:=I.list hx;have hlen:=r.length;exact wpAny_truthy_list pl.isList (by erw[aj];lia) #[H,I.tok _,by rw[kn r];exact q]
  ·subst e';obtain⟨its,r,pl,hz⟩:=I.tuple hx;have hlen:=r.length;exact truthy_tuple pl (by erw[aj];lia) #[H,I.tok _,by rw[kn r];exact q]
  ·subst e';obtain⟨hz,hS,vs,r,m⟩:kvs.length<=rV/\(p == sysModules)=AQ/\∃vs,KV kvs vs/\s.heap.DictOf (Y8 X.prog X.w) p vs:=I.hok p _ hx;have hlen:kvs.length=vs.length:=Paired.length r;exact wpAny_truthy_dict hS m ⋯ #[H,I.tok _,by rw[WW r];exact q]
 | _=>exact (show False from e).elim
theorem Wf(ha:PE X a ta)(he:∀whole,isTrue a X.env whole=(do let v <- whole;standAt a.pos;holding [v] (truthy v))) :
  PT X a (λσ H Q=>ta σ H λx H'=>∃k,zdH X.K x H' k/\Q k H'):=by
 intro AR s σ H Q I h;exact isTrue_plain (thn (ha AR s σ H _ I h) λv s1 ⟨x,H1,I1,r1,q1⟩=>KJ AR s1 σ H1 x v Q I1 r1 q1) (he _)
theorem yL:OpR X (binaryOp .Add) (λx y H Q=>∃i j,x=.str i/\y=.str j/\i.length+j.length<=rV/\Q (.str (i ++ j)) H):=by
 intro AR s σ H x y v u Q I rx ry h;obtain⟨i,j,rfl,rfl,hz,q⟩:=h;obtain⟨t,rfl⟩:=rx;obtain⟨t',rfl⟩:=ry;exact add_str (λt' tk=>#[.str (i ++ j),H,I.tok _,#[_,rfl],q]) hz
theorem wq{x:V}{us:List rY}(r:Vals [x] us):∃u,us=[u]/\RelV x u:=by
 cases r with
 | cons r1 r2=>cases r2;exact#[_,rfl,r1]
theorem VG{x y:V}{us:List rY}(r:Vals [x,y] us):∃u w',us=[u,w']/\RelV x u/\RelV y w':=by
 cases r with
 | cons r1 r2 =>
  cases r2 with
  | cons r3 r4=>cases r4;exact#[_,_,rfl,r1,r3]
theorem Ub(hc:X.calm=AO):vo X (.builtin "max") (λxs H Q=>∃i j,xs=[.int i,.int j]/\Q (.int (if j > i then j else i)) H):=by
 intro AR s σ H xs us Q I r h;obtain⟨i,j,rfl,q⟩:=h;obtain⟨u,w',rfl,⟨t,rfl⟩,⟨t',rfl⟩⟩:=VG r;refine max_two_ints (I.ok.hd hc) λh' tk k=>#[_,H,I.kept k,?_,q];by_cases hj:j > i
 ·rw[if_pos hj,if_pos hj];exact#[_,rfl]
 ·rw[if_neg hj,if_neg hj];exact#[_,rfl]
theorem QJ:vo X (.type "int") (λxs H Q=>(∃i,xs=[.int i]/\Q (.int i) H)\/∃k,xs=[.bl k]/\Q (.int (if k then 1 else 0)) H):=by
 intro AR s σ H xs us Q I r h;rcases h with ⟨i,rfl,q⟩ | ⟨k,rfl,q⟩
 ·obtain⟨u,rfl,t,rfl⟩:=wq r;exact call_int_int #[.int i,H,I,#[_,rfl],q]
 ·obtain⟨u,rfl,r1⟩:=wq r;cases r1;exact call_int_bool #[.int (if k then 1 else 0),H,I.tok _,#[_,rfl],q]
def zde(K:rW)(x:V)(H:Hp)(n:Nat):Prop :=
 match x with
 | .str y=>y.length<=rV/\n=y.length
 | .byt y=>y.size<=rV/\n=y.size
 | .ref p=>(∃xs,SqL K H p xs/\n=xs.length)\/∃xs,SqT K H p xs/\n=xs.length
 | _=>False
theorem Kn:vo X (.builtin "len") (λxs H Q=>∃x n,xs=[x]/\zde X.K x H n/\Q (.int n) H):=by
 intro AR s σ H xs us Q I r h;obtain⟨x,n,rfl,e,q⟩:=h;obtain⟨u,rfl,rx⟩:=wq r;have hl:=ky;have hs:rV=16777216:=sK
 cases x with
 | str y =>
  obtain⟨t,rfl⟩:=rx;obtain⟨hy,e'⟩:y.length<=rV/\n=y.length:=e;subst e';exact len_str ⋯ #[.int _,H,I.tok _,#[_,rfl],q]
 | byt y =>
  obtain⟨t,rfl⟩:=rx;obtain⟨hy,e'⟩:y.size<=rV/\n=y.size:=e;subst e';exact PySem.W.len_bytes ⋯ #[.int _,H,I.tok _,#[_,rfl],q]
 | ref p =>
  cases rx;have e':(∃xs,SqL X.K H p xs/\n=xs.length)\/∃xs,SqT X.K H p xs/\n=xs.length:=e;rcases e' with ⟨xs,hx,e'⟩ | ⟨xs,hx,e'⟩
  ·subst e';obtain⟨its,r',pl,hz⟩:=I.list hx;have hlen:=r'.length;exact Calls.call_len_list pl.isList (by erw[aj];lia) #[.int xs.length,H,I.tok _,#[_,by erw[aj];rw[hlen]],q]
  ·subst e';obtain⟨its,r',pl,hz⟩:=I.tuple hx;have hlen:=r'.length;exact len_tuple pl (by erw[aj];lia) #[.int xs.length,H,I.tok _,#[_,by erw[aj];rw[hlen]],q]
 | _=>exact (show False from e).elim
end
end L2
namespace L2
structure ObjM(h:su)(x dx C:rX)(mA:sk->Option rY):Prop where
 obj:h.get? x=AM (bY C dx)
 ns:h.Ns1 dx mA
 ne:dx≠x
theorem UG{h:su}{dx:rX}{mA:sk->Option rY}(n:h.Ns1 dx mA):∃od,h.get? dx=AM od/\∀name,dQ name od=AM (mA name):=by
 obtain⟨o,es,ep,ho,hd,hk,_,hm⟩:=n;refine#[o,ho,λname=>?_];have e:=hm name;unfold nsFind findBy at e;rw[<- Array.find?_toList]at e;unfold dQ;rw[hd];dsimp only;split
 ·rename_i y q;rw[q]at e;exact congrArg AM e
 ·rename_i q;rw[q]at e
  have a:es.toList.any (·.refKey)=AQ:=by
   rw[List.any_eq_false];intro y hy;obtain⟨z,t,hkey⟩:=hk y (Array.mem_toList_iff.mp hy);simp [DictEntry.refKey,hkey]
  have a':¬ es.toList.any (·.refKey)=AO:=by rw[a];exact aw
  rw[if_neg a'];exact congrArg AM e
theorem ObjM.look{h:su}{x dx C:rX}{mA:sk->Option rY}(I:ObjM h x dx C mA):∃od,PySem.W.InstAt h x (bY C dx) C (AM od)/\∀name,dQ name od=AM (mA name) :=
 let #[od,ho,hl]:=UG I.ns
 #[od,#[I.obj,rfl,rfl,ho],hl]
section
variable{prog:sj}{w:so}{A:sq}{E:rY->rZ->Prop}{s:rZ}{K:rW}{x dx C f:rX}{mA:sk->Option rY}{name:sk}{v:rY}
theorem zbE{expr:Bool}{Q:rY->rZ->Prop}(X:K.In s.heap)(I:ObjM s.heap x dx C mA)(hg:bK K C name=AO)(hh:bP K C=AO)
  (ha:af K (.ref C) name=AM AN) (hv:mA name=AM v) (hv':fN v=AO) (h:Q v { s with toks:=s.toks+1 }) :
  si (model prog w) A (getAttr (.ref x) name expr) Q E s:=by
 obtain⟨od,J,hl⟩:=I.look;exact PySem.W.get_value X J (dN hg).1 (PySem.W.findObj_own hh ha rfl (by rw[hl,hv])) hv' h
theorem KF{pl:AF Bool}{Q:rY × List rY->rZ->Prop}(X:K.In s.heap)(I:ObjM s.heap x dx C mA)(hg:bK K C name=AO)
  (hf:af K (.ref C) name=AM (AM (.ref f))) (ht:aS K (.ref f)=AO) (hv:mA name=AN) (h:Q (.ref f,[.ref x]) s) :
  si (model prog w) A (getMethod (.ref x) name pl) Q E s:=by
 obtain⟨od,J,hl⟩:=I.look;exact PySem.W.method_fn X J (dN hg).1 (dN hg).2 hf (beq_iff_eq.mp ht) (by show (dQ name od).map (·.isSome)=AM AQ;rw[hl,hv];rfl) h
theorem zbe{ns:List sk}{Q:Unit->rZ->Prop}(X:K.In s.heap)(I:ObjM s.heap x dx C mA)
  (hs:af K (.ref C) "__setattr__" = AM (AM (.builtin "object.__setattr__"))) (hp:cf K C=AO) (ht:eR K C name=AM AN) (hh:bP K C=AO)
  (hw:PySem.Within mA ns) (hsz:ns.length<=rV)
  (h:∀h',ObjM h' x dx C (λy=>if y=name then AM v else mA y)->Heap.SameBut dx s.heap h'->Q () { s with heap:=h',toks:=s.toks+2 }) :
  si (model prog w) A (setAttr (.ref x) name v) Q E s:=by
 obtain⟨od,J,hl⟩:=I.look;refine fJ X J hs (PySem.W.osa_open (s:={ s with toks:=s.toks+1 }) (r:=AN) X J hp ht λb=>?_);obtain⟨cd,hc,hd'⟩:=PySem.W.any_some hh;have hx:s.heap.get? x=AM #[.ref C,AM dx,.plain,#[]]:=I.obj;refine rQ (rR (rQ (rQ (Ah hx (rQ (PySem.W.Looks.here (s:={ s with toks:=s.toks+1 }) (PySem.W.looks_clsIn X hc) ?_))))));rw[hd'];refine rR (a:=AM dx) (rQ (rR (rQ ?_)));refine wpAny_nsSet1 (s:={ s with toks:=s.toks+1 }) I.ns λh' hn2 hs2=>?_;obtain⟨oD,esD,epD,hoD,hdD,hcD⟩:=hn2.count (PySem.Within.cons name v hw);refine rQ (AC hoD (by rw[hdD];exact pastItsLine_dict (aM hcD (by rw[aG];lia))) ?_);exact rR (h _ #[(hs2.2 _ (Ne.symm I.ne)).trans I.obj,hn2,I.ne] hs2)
theorem Kq{R:Ak->rZ->Prop}{vs:List rY}{kw:List (sk × rY)}(X:K.In s.heap)(hm:cz K C=AO)
  (hi:af K (.ref C) "__init__" = AM (AM (.ref f))) (hf:PySem.W.typeIn K (.ref f)=AM (.type "function"))
  (h:tF (model prog w) (A.under (.builtin "type.__call__" #[.ref C::vs,kw])) (.call (.ref f) #[.ref (s⁻¹+1)::vs,kw]) (PySem.W.InitBack (s⁻¹+1) R)
   { s with heap:=(s.heap.push bH).push (bY C s⁻¹) }) :
  tF (model prog w) A (.call (.ref C) #[vs,kw]) R s:=by
 obtain⟨hh,g,d,t,os⟩:=s;exact PySem.W.make_core (PySem.W.makes_of X hm) (cC X hi) (λself=>fP X self hf) (.inl rfl) h
end
noncomputable def ZQ(f:sk)(v:V):List (sk × V)->List (sk × V)
  | []=>[(f,v)]
  | (g,x)::r=>if g=f then (g,v)::r else (g,x)::ZQ f v r
theorem jb(f g:sk)(v:V):∀fs:List (sk × V),(ZQ f v fs).lookup g=if g=f then AM v else fs.lookup g
  | []=>by
    show bc g [(f,v)]=_;by_cases h:g=f
    . have hb:(g == f)=AO:=beq_iff_eq.mpr h
      erw[bc,hb,if_pos h]
    . have hb:(g == f)=AQ:=beq_eq_false_iff_ne.mpr h
      erw[bc,hb,if_neg h]
  | (k,x)::r=>by
    have ih:=jb f g v r;rw[show ZQ f v ((k,x)::r)=(if k=f then (k,v)::r else (k,x)::ZQ f v r)from rfl];by_cases hk:k=f
    . rw[if_pos hk]
      by_cases h:g=k
      . have hb:(g == k)=AO:=beq_iff_eq.mpr h
        erw[bc,hb,if_pos (h.trans hk)]
      . have hb:(g == k)=AQ:=beq_eq_false_iff_ne.mpr h
        erw[bc,hb,if_neg (λe:g=f=>h (e.trans hk.symm))]
    . rw[if_neg hk]
      by_cases h:g=k
      . have hb:(g == k)=AO:=beq_iff_eq.mpr h
        erw[bc,hb,if_neg (λe:g=f=>hk (h.symm.trans e))]
      . have hb:(g == k)=AQ:=beq_eq_false_iff_ne.mpr h
        erw[bc,hb]
        exact ih
theorem jd(f:sk)(v:V):∀fs:List (sk × V),f ∈ (ZQ f v fs).map (·.1)/\∀g,g ∈ fs.map (·.1)->g ∈ (ZQ f v fs).map (·.1)
  | []=>#[by simp [ZQ],λg h=>by simp at h]
  | (k,x)::r=>by
    obtain⟨i1,i2⟩:=jd f v r;rw[show ZQ f v ((k,x)::r)=(if k=f then (k,v)::r else (k,x)::ZQ f v r)from rfl];by_cases hk:k=f
    . rw[if_pos hk]
      subst hk;exact#[by simp,λg h=>by simpa using h]
    . rw[if_neg hk]
      refine#[?_,λg h=>?_]
      . rw[ao]
        exact ar _ i1
      . rw[ao]at h ⊢
        rcases AX.mp h with e | e
        . exact AX.mpr (.inl e)
        . exact ar _ (i2 g e)
theorem jh(f:sk)(v:V):∀fs:List (sk × V),(ZQ f v fs).length<=fs.length+1
  | []=>by simp [ZQ]
  | (k,x)::r=>by
    have ih:=jh f v r;rw[show ZQ f v ((k,x)::r)=(if k=f then (k,v)::r else (k,x)::ZQ f v r)from rfl];by_cases hk:k=f
    . rw[if_pos hk,aG,aG];lia
    . rw[if_neg hk,aG,aG];lia
theorem RelO.some_of{v:V}{o:Option rY}(r:RelO (AM v) o):∃u,o=AM u/\RelV v u:=by
 cases o with
 | none=>exact (show False from r).elim
 | some u=>exact#[u,rfl,r]
theorem RelO.none_of{o:Option rY}(r:RelO AN o):o=AN:=by
 cases o with
 | none=>rfl
 | some u=>exact (show False from r).elim
theorem V4{v:V}{u:rY}(r:RelV v u):fN u=AO:=by
 cases v with
 | non=>cases (show u=Value.none from r);rfl
 | bl b=>cases (show u=Value.bool b from r);rfl
 | int i=>obtain⟨t,e⟩:=(show ∃t,u=Value.int i t from r);cases e;rfl
 | str x=>obtain⟨t,e⟩:=(show ∃t,u=Value.str x t from r);cases e;rfl
 | byt b=>obtain⟨t,e⟩:=(show ∃t,u=Value.bytes b t from r);cases e;rfl
 | flt b=>obtain⟨t,e⟩:=(show ∃t,u=Value.float b t from r);cases e;rfl
 | ref a=>cases (show u=Value.ref a from r);rfl
 | ty n=>cases (show u=Value.type n from r);rfl
section
variable{P:sj}{w:so}{H H':Hp}{h h':su}{a C dx:rX}{fs fs':List (sk × V)}
theorem ZJ(hok:HOk P w H h)(e:H a=AM (.ins C dx fs)):∃mA,ObjM h a dx C mA/\(∀f,RelO (fs.lookup f) (mA f))/\PySem.Within mA (fs.map (·.1))/\fs.length<=1000/\H dx=AM (.own a):=by
 obtain⟨d,z,ne,ob,mA,n,r,q⟩:=(show ObjOk P w H h a (.ins C dx fs)from hok a _ e);exact#[mA,#[ob,n,ne],r,q,z,d]
end
structure Cls(K:rW)(C:rX):Prop where
 pg:bK K C dY=AO
 hd:bP K C=AO
 po:cf K C=AO
 sa:af K (.ref C) "__setattr__" = AM (AM (.builtin "object.__setattr__"))
theorem Cls.get{K:rW}{C:rX}(c:Cls K C)(f:sk):bK K C f=AO:=c.pg
def NoAttr(K:rW)(C:rX)(f:sk):Prop:=af K (.ref C) f=AM AN
theorem NoAttr.taker{K:rW}{C:rX}{f:sk}(n:NoAttr K C f):eR K C f=AM AN:=by
 unfold eR;rw[show af K (.ref C) f=AM AN from n];rfl
structure zcQ(K:rW)(C:rX)(m:sk)(f:rX):Prop where
 at_:af K (.ref C) m=AM (AM (.ref f))
 fn:aS K (.ref f)=AO
 kp:aF K (.ref f)=AO
section
variable{X:Cx}{AR:List (rX × sL)}{σ:St}{H:Hp}{s:rZ}{a C dx:rX}{fs:List (sk × V)}{f:sk}{v:V}{A:sq}{E:rY->rZ->Prop}
theorem WX{b:Bool}{Q:rY->rZ->Prop}(I:Inv X AR σ H s)(e:H a=AM (.ins C dx fs))(c:Cls X.K C)(n:NoAttr X.K C f)(l:fs.lookup f=AM v)
  (h:∀u s',Inv X AR σ H s'->RelV v u->Q u s'):si (model X.prog X.w) A (getAttr (.ref a) f b) Q E s:=by
 obtain⟨mA,O,r,_,_,_⟩:=ZJ I.hok e;obtain⟨u,hu,ru⟩:=RelO.some_of (v:=v) (o:=mA f) (by rw[<- l];exact r f);exact zbE I.kIn O (c.get f) c.hd n hu (V4 ru) (h u _ (I.tok _) ru)
theorem xT{m:sk}{g:rX}{pl:AF Bool}{Q:rY × List rY->rZ->Prop}(I:Inv X AR σ H s)(e:H a=AM (.ins C dx fs))(c:Cls X.K C)(k:zcQ X.K C m g)(l:fs.lookup m=AN)
  (h:Q (.ref g,[.ref a]) s):si (model X.prog X.w) A (getMethod (.ref a) m pl) Q E s:=by
 obtain⟨mA,O,r,_,_,_⟩:=ZJ I.hok e;have hn:mA m=AN:=RelO.none_of (by rw[<- l];exact r m);exact KF I.kIn O (c.get m) k.at_ k.fn hn h
theorem W3{y:V}{u:rY}{Q:Unit->rZ->Prop}(I:Inv X AR σ H s)(e:H a=AM (.ins C dx fs))(c:Cls X.K C)(n:NoAttr X.K C f)(hl:fs.length<1000)(ry:RelV y u)
  (h:∀s',Inv X AR σ (upd H a (.ins C dx (ZQ f y fs))) s'->Q () s'):si (model X.prog X.w) A (setAttr (.ref a) f u) Q E s:=by
 obtain⟨mA,O,r,wi,_,ho⟩:=ZJ I.hok e;have hz:(fs.map (·.1)).length<=rV:=by rw[ac,sK];lia
 refine zbe I.kIn O c.sa c.po n.taker c.hd wi hz λh' O' sb=>h _ ?_;have hd:∃o,h'.get? dx=AM o:=let #[o,_,_,e',_]:=O'.ns; #[o,e'];refine I.write (x:=a) (e:=dx) (by rw[e];exact True.intro) (.inr ho) (λb q hb z=>(sb.2 b hb).trans z) hd ?_;refine#[by rw[zm O.ne];exact ho,?_,O.ne,O'.obj,_,O'.ns,λg=>?_,λg hg=>?_]
 ·have:=jh f y fs;lia
 ·show RelO ((ZQ f y fs).lookup g) (if g=f then AM u else mA g);rw[jb];by_cases q:g=f
  ·rw[if_pos q,if_pos q];exact ry
  ·rw[if_neg q,if_neg q];exact r g
 ·by_cases q:g=f
  ·rw[q];exact (jd f y fs).1
  ·refine (jd f y fs).2 g (wi g λz=>hg ?_);show (if g=f then AM u else mA g)=AN;rw[if_neg q];exact z
theorem Inv.made(I:Inv X AR σ H s):Inv X AR σ (upd (upd H s⁻¹ (.own (s⁻¹+1))) (s⁻¹+1) (.ins C s⁻¹ []))
  { s with heap:=(s.heap.push bH).push (bY C s⁻¹) }:=by
 have e1:(s.heap.push bH).get? s⁻¹=AM bH:=az s.heap rfl
 have e2:((s.heap.push bH).push (bY C s⁻¹)).get? (s⁻¹+1)=AM (bY C s⁻¹):=by
  have:=az (s.heap.push bH) (o:=bY C s⁻¹) rfl
  rwa [bM]at this
 have e3:(s.heap.push bH).Ns s⁻¹ (λ_=>AN):=#[bH,#[],_,e1,rfl,(λe he=>absurd he (by simp)),λ_=>rfl];have I1:=I.laid (a:=s⁻¹) (o:=.own (s⁻¹+1)) (h':=s.heap.push bH) (t':=s.toks) (λb u q=>ae _ q) (al _) #[_,e1];refine I1.laid (a:=s⁻¹+1) (o:=.ins C s⁻¹ []) (t':=s.toks) (λb u q=>ae _ q) (Nat.le_of_eq (bM _ _)) ?_;have ne:s⁻¹≠s⁻¹+1:=ay (Nat.lt_succ_self _);refine#[by rw[zm ne,ze],aE _,ne,e2,λ_=>AN,(Heap.Ns1.of_empty e3).at λo q=>ae _ q,λ_=>True.intro,λy hy=>absurd rfl hy]
theorem zbV{prog:sj}{w:so}{env:Ad}{e:sr}{f:sk}{pos:tm}{s:rZ}{Q:rY->rZ->Prop}(hb:attributeBase e f env (eval e env)=eval e env)
  (h:si (model prog w) A (eval e env) (λo s₁=>si (model prog w) A (getAttr o f AO) Q E s₁) E s):si (model prog w) A (eval (.Attribute e f pos) env) Q E s :=
 Attribute_any_ h (by rw[arm_eval_Attribute,hb])
end
def zct(K:rW)(ta:TE)(f:sk):TE:=λσ H Q=>ta σ H λx H1=>∃a C dx fs v,x=.ref a/\H1 a=AM (.ins C dx fs)/\Cls K C/\NoAttr K C f/\fs.lookup f=AM v/\Q v H1
def zeM(K:rW)(ta tv:TE)(f:sk):TS:=λD σ H=>tv σ H λy H1=>ta σ H1 λx H2=>∃a C dx fs,x=.ref a/\H2 a=AM (.ins C dx fs)/\Cls K C/\NoAttr K C f/\fs.length<1000 /\
 D.nx σ (upd H2 a (.ins C dx (ZQ f y fs)))
section
variable{X:Cx}{o e value:sr}{f:sk}{pos pos' tpos:tm}{ta tv:TE}
theorem ui(he:PE X e ta)(hb:attributeBase e f X.env (eval e X.env)=eval e X.env):PE X (.Attribute e f pos) (zct X.K ta f):=by
 intro AR s σ H Q I h;refine zbV hb (thn (he AR s σ H _ I h) λu s1 ⟨x,H1,I1,rx,a,C,dx,fs,v,ex,ea,c,n,l,q⟩=>?_);subst ex;obtain rfl:u=Value.ref a:=rx;exact WX I1 ea c n l λu' s2 I2 ru=>#[v,H1,I2,ru,q]
theorem j8(ha:PE X o ta)(hv:PE X value tv)(hs:swapsWith value (AM (.Attribute o f pos')) pos.line X.env=pure AQ):PS X (.Assign [.Attribute o f pos'] value pos) (zeM X.K ta tv f):=by
 intro AR s σ H D I h;refine tM (thn (hv AR s σ H _ I h) λu s1 ⟨y,H1,I1,ry,q⟩=>thn (ha AR s1 σ H1 _ I1 q) λov s2 ⟨x,H2,I2,rx,a,C,dx,fs,ex,ea,c,n,l,q2⟩=>?_) hs;subst ex;obtain rfl:ov=Value.ref a:=rx;exact W3 I2 ea c n l ry λs3 I3=>#[σ,_,I3,q2]
theorem za4{pl:AF Bool}{m:sk}{apos:tm}{args:List sr}{AR:List (rX × sL)}{s:rZ}{σ:St}{H:Hp}{Q:rY->rZ->Prop}{te:TE}(he:PE X e te)(I:Inv X AR σ H s)
    (h:te σ H λx H1=>∃a C dx fs g,x=.ref a/\H1 a=AM (.ins C dx fs)/\Cls X.K C/\zcQ X.K C m g/\fs.lookup m=AN /\
      ∀s1,Inv X AR σ H1 s1->si (model X.prog X.w) X.A (callWith pos (.ref g) [.ref a] (sB pos (rT args X.env)) (sP pos (sy [] X.env))) Q X.xe s1)
    (ht:eval (.Call (.Attribute e m apos) args [] pos) X.env=(do
      let ov <- eval e X.env
      standAt apos.atName
      let (f,first) <- holding [ov] (getMethod ov m pl)
      callWith pos f first (sB pos (rT args X.env)) (sP pos (sy [] X.env)))) :
    si (model X.prog X.w) X.A (eval (.Call (.Attribute e m apos) args [] pos) X.env) Q X.xe s:=by
  refine bU (pl:=pl) (thn (he AR s σ H _ I h) λu s1 ⟨x,H1,I1,rx,a,C,dx,fs,g,ex,ea,c,k,l,q⟩=>?_) ht;subst ex;obtain rfl:u=Value.ref a:=rx;exact xT I1 ea c k l (q s1 I1)
end
section
variable{X:Cx}{AR:List (rX × sL)}{σ:St}{H:Hp}{s:rZ}{A:sq}{E:rY->rZ->Prop}{Q:rY->rZ->Prop}{c:rY}{b:Bool}
inductive XW(K:rW)(H:Hp):V->rY->Prop where
 | non:XW K H .non (.type "NoneType")
 | bl (x:Bool):XW K H (.bl x) (.type "bool")
 | int (i:Int):XW K H (.int i) (.type "int")
 | str (x:sk):XW K H (.str x) (.type "str")
 | flt (x:UInt64):XW K H (.flt x) (.type "float")
 | lst {a:rX} {xs:List V} (e:H a=AM (.lst xs)):XW K H (.ref a) (.type "list")
 | frz {a:rX} {o:sL} {xs:List V} (e:H a=AM (.frz o (.lst xs))):XW K H (.ref a) (.type "list")
 | tup {a:rX} {xs:List V} (e:H a=AM (.tup xs)):XW K H (.ref a) (.type "tuple")
 | dK {a:rX} {kvs:List (Key × V)} (e:H a=AM (.dK kvs)):XW K H (.ref a) (.type "dict")
 | dT {a:rX} {kvs:List (List Key × V)} (e:H a=AM (.dT kvs)):XW K H (.ref a) (.type "dict")
 | ins {a C dx:rX} {fs:List (sk × V)} (e:H a=AM (.ins C dx fs)) (cl:Cls K C) (ha:af K (.ref C) "__class__" = AM (AM (.builtin "object.__class__")))
   (hn:cB K (.builtin "object.__class__") "__get__" = AM (AM (.builtin "getset_descriptor.__get__"))) (htk:dA K (.builtin "object.__class__")=AM AO)
   (hm:bt K C (.type "object")=AM AO):XW K H (.ref a) (.ref C)
theorem UU{x:V}{u t:rY}(I:Inv X AR σ H s)(rx:RelV x u)(ty:XW X.K H x t)(e:aL X.K t c=AM b)(h:∀tk,Q (.bool b) { s with toks:=tk }) :
  si (model X.prog X.w) A (call (.builtin "isinstance") [u,c]) Q E s:=by
 cases ty with
 | non=>cases (show u=Value.none from rx);exact ba PySem.W.kitx_none I.kIn True.intro e (λz=>nomatch z) h
 | bl y=>cases (show u=Value.bool y from rx);exact ba PySem.W.kitx_bool I.kIn True.intro e (λz=>nomatch z) h
 | int i=>obtain⟨t,q⟩:=(show ∃t,u=Value.int i t from rx);cases q;exact ba PySem.W.kitx_int I.kIn True.intro e (λz=>nomatch z) h
 | str y=>obtain⟨t,q⟩:=(show ∃t,u=Value.str y t from rx);cases q;exact ba PySem.W.kitx_str I.kIn True.intro e (λz=>nomatch z) h
 | flt y=>obtain⟨t,q⟩:=(show ∃t,u=Value.float y t from rx);cases q;exact ba PySem.W.kitx_float I.kIn True.intro e (λz=>nomatch z) h
 | @lst a xs ea =>
  cases (show u=Value.ref a from rx);obtain⟨_,_,n,_,h1⟩:=(show ObjOk X.prog X.w H s.heap a (.lst xs)from I.hok a _ ea);exact ba d8 I.kIn #[_,h1,rfl] e (λz=>nomatch z) h
 | @frz a ob xs ea =>
  cases (show u=Value.ref a from rx);obtain⟨_,_,_,n,_,h1⟩:=(show ObjOk X.prog X.w H s.heap a (.frz ob (.lst xs))from I.hok a _ ea);exact ba d8 I.kIn #[_,h1,rfl] e (λz=>nomatch z) h
 | @tup a xs ea =>
  cases (show u=Value.ref a from rx);obtain⟨_,_,_,p⟩:=(show ObjOk X.prog X.w H s.heap a (.tup xs)from I.hok a _ ea);obtain⟨o,h1,h2,_⟩:=p;exact ba fA I.kIn #[o,h1,h2] e (λz=>nomatch z) h
 | @dK a kvs ea =>
  cases (show u=Value.ref a from rx);obtain⟨_,_,vs,_,p⟩:=(show ObjOk X.prog X.w H s.heap a (.dK kvs)from I.hok a _ ea);obtain⟨o,es,ep,h1,h2,_⟩:=p;exact ba fL I.kIn #[o,h1,h2.1] e (λz=>nomatch z) h
 | @dT a kvs ea =>
  cases (show u=Value.ref a from rx);obtain⟨_,_,xs,_,o,es,ep,h1,h2,_⟩:=(show ObjOk X.prog X.w H s.heap a (.dT kvs)from I.hok a _ ea);exact ba fL I.kIn #[o,h1,h2.1] e (λz=>nomatch z) h
 | @ins a C dx fs ea cl ha hn htk hm =>
  cases (show u=Value.ref a from rx);obtain⟨mA,O,_⟩:=ZJ I.hok ea;obtain⟨od,J,_⟩:=O.look;exact ba (PySem.W.kitx_own (cl.get _) cl.hd ha hn htk hm) I.kIn J e (λz=>nomatch z) h
end
end L2
namespace L2
structure Room(k:Nat)(A:sq):Prop where
 hd:A.handled=AN
 dp:A.depth+3 * k+5<Ai
 un:A.units+16 * k+200<cLine
theorem Room.mono{j k:Nat}{A:sq}(r:Room k A)(h:j<=k):Room j A:=#[r.hd,by have:=r.dp;lia,by have:=r.un;lia]
theorem Room.deeper{k:Nat}{A:sq}(r:Room (k+1) A)(env:Ad):Room k (A.deeper env) :=
 #[r.hd,by have:=r.dp;show A.depth+1+3 * k+5<_;lia,by have:=r.un;show A.units+3+16 * k+200<_;lia]
theorem Room.in1{k:Nat}{A:sq}(r:Room (k+1) A):Room k A.in1 :=
 #[r.hd,by have:=r.dp;show A.depth+3 * k+5<_;lia,by have:=r.un;show A.units+1+16 * k+200<_;lia]
theorem Vn{A:sq}{C:rX}{us:List rY}{kw:List (sk × rY)}:(A.under (.builtin "type.__call__" #[.ref C::us,kw])).depth=A.depth+1:=by
 first | rfl | simp [Around.under,Code.weight,Code.isCreation,Code.isGuard,Code.isCaller,Code.frames,Code.isFrame,guardIds]
theorem Vv{A:sq}{C:rX}{us:List rY}{kw:List (sk × rY)}:(A.under (.builtin "type.__call__" #[.ref C::us,kw])).units=A.units+1:=by
 first | rfl | simp [Around.under,Code.cUnits,Code.frames,Code.isFrame]
theorem Room.make{k:Nat}{A:sq}(r:Room (k+1) A)(C:rX)(us:List rY)(kw:List (sk × rY)):Room k (A.under (.builtin "type.__call__" #[.ref C::us,kw])) :=
 #[r.hd,by have:=r.dp;rw[Vn];lia,by have:=r.un;rw[Vv];lia]
theorem Room.depth{k:Nat}{A:sq}(r:Room k A):A.depth<Ai:=by have:=r.dp;lia
theorem Room.units{k:Nat}{A:sq}(r:Room k A):A.units+64<cLine:=by have:=r.un;lia
def xR:TA:=λ_ H Q=>Q [] H
def zL(ta:TE)(tr:TA):TA:=λσ H Q=>ta σ H λx H1=>tr σ H1 λxs H2=>Q (x::xs) H2
section
variable{X:Cx}{e:sr}{es:List sr}{te:TE}{t:TA}{pos:tm}
theorem zd:PA X [] xR:=λ_ _ _ _ H Q I h=>Calls.spliced_nil #[[],H,I,.nil,h]
theorem za(ha:PE X e te)(hr:PA X es t)(hs:rT (e::es) X.env=(AQ,eval e X.env)::rT es X.env:=by rfl):PA X (e::es) (zL te t):=by
 intro pos AR s σ H Q I h;rw[hs];show si _ _ (spliced ((AQ,eval e X.env)::sB pos (rT es X.env))) _ _ s;refine Calls.spliced_cons (thn (ha AR s σ H _ I h) λu s1 ⟨x,H1,I1,r1,q1⟩=>?_);exact thn (hr pos AR s1 σ H1 _ I1 q1) λus s2 ⟨xs,H2,I2,r2,q2⟩=>#[x::xs,H2,I2,.cons r1 r2,q2]
def Q8(t:TA):TE:=λσ H Q=>t σ H λxs H1=>xs.length<=rV/\∀p,H1 p=AN->Q (.ref p) (upd H1 p (.tup xs))
def zdm(t:TA):TE:=λσ H Q=>t σ H λxs H1=>xs.length<=rV/\∀p,H1 p=AN->Q (.ref p) (upd H1 p (.lst xs))
theorem zR{x1}(h:PA X es t):PE X (.Tuple es x1 pos) (Q8 t):=by
 intro AR s σ H Q I hq;refine wpAny_Tuple_spliced (thn (h pos AR s σ H _ I hq) λus s1 ⟨xs,H1,I1,r,z,q⟩=>#[by rw[<- r.length];exact z,?_]);have hf:H1 s1⁻¹=AN:=I1.hok.fresh (al _);refine#[.ref s1⁻¹,upd H1 s1⁻¹ (.tup xs),I1.laid (t':=s1.toks) (λb u e=>ae _ e) (al _) ?_,rfl,q _ hf];exact#[z,us,r,#[_,az _ rfl,rfl,_,rfl]]
theorem wo(h:PA X es t):PE X (.List es pos) (zdm t):=by
 intro AR s σ H Q I hq;refine wpAny_List_spliced (thn (h pos AR s σ H _ I hq) λus s1 ⟨xs,H1,I1,r,z,q⟩=>#[by rw[<- r.length];exact z,?_]);have hf:H1 s1⁻¹=AN:=I1.hok.fresh (al _);refine#[.ref s1⁻¹,upd H1 s1⁻¹ (.lst xs),I1.laid (t':=s1.toks) (λb u e=>ae _ e) (al _) ?_,rfl,q _ hf];exact#[z,us,0,r,az _ rfl]
end
noncomputable abbrev Sp:=List V->Hp->VK->XK->Prop
noncomputable abbrev CXT:=List Ad->Hp->rZ->XK->rY->rZ->Prop
structure Env0(P:sj)(w:so)(K:rW)(mg:sk->Option rY)(base:su)(A:sq)(outer:List Ad)(s:rZ)(H:Hp):Prop where
 frames:A.frames=AM outer
 mod:Mod K mg base
 bs:∀b o,base.get? b=AM o->s.heap.get? b=AM o/\H b=AN
 bsz:base.objs.size<=s⁻¹
 funs:s.heap.FunFrames base outer
 frf:∀b ∈ frs outer,H b=AN
 hok:HOk P w H s.heap
 bare:tS s.gens
def CE(outer:List Ad)(P:sj)(w:so)(H:Hp)(s:rZ)(Q:VK)(u:rY)(s':rZ):Prop :=
 ∃v H',s'.os=s.os/\tS s'.gens/\Un (frs outer) [] H H' s.heap s'.heap/\HOk P w H' s'.heap/\RelV v u/\Q v H'
def CR(CX:CXT)(outer:List Ad)(P:sj)(w:so)(H:Hp)(s:rZ)(Q:VK)(E:XK)(r:Ak)(s':rZ):Prop :=
 match r with
 | .ok (.ret u)=>CE outer P w H s Q u s'
 | .ok _=>False
 | .error e=>CX outer H s E e s'
structure zQ(P:sj)(w:so)(K:rW)(mg:sk->Option rY)(base:su)(CX:CXT)(k:Nat)(f:rX)(fd:sf)(ps:List sk)(sp:Sp):Prop where
 len:∀vs H Q E,sp vs H Q E->vs.length=ps.length
 run:∀(A:sq) (outer:List Ad) (s:rZ) (H:Hp) (args:Args) (us:List rY) (vs:List V) (Q:VK) (E:XK),Room k A->Env0 P w K mg base A outer s H->Am s fd args (ps.zip us)->Vals vs us->sp vs H Q E ->
  tF (model P w) A (.call (.ref f) args) (CR CX outer P w H s Q E) s
theorem Env0.make{P:sj}{w:so}{K:rW}{mg:sk->Option rY}{base:su}{A:sq}{outer:List Ad}{s:rZ}{H:Hp}(e:Env0 P w K mg base A outer s H)(C:rX)(us:List rY)(kw:List (sk × rY)) :
  Env0 P w K mg base (A.under (.builtin "type.__call__" #[.ref C::us,kw])) outer s H:=#[by first | exact e.frames | (simpa [Around.under,Code.envs,Code.isFrame,pushEnvs] using e.frames),e.mod,e.bs,e.bsz,e.funs,e.frf,e.hok,e.bare]
section
variable{X:Cx}{AR:List (rX × sL)}{σ:St}{H:Hp}{s s':rZ}
theorem Inv.env0(I:Inv X AR σ H s):Env0 X.prog X.w X.K X.mg X.base X.A X.stack s H :=
 #[I.ok.frames,I.ok.mod,I.bs,aM I.ok.bsz I.sz,I.stack,I.stkFree,I.hok,I.bare]
theorem Inv.after{Q:VK}{u:rY}(I:Inv X AR σ H s)(h:CE X.stack X.prog X.w H s Q u s'):EP X AR σ Q u s':=by
 obtain⟨v,H',os,bare,un,hok,r,q⟩:=h;obtain⟨hh,g,d,t,os'⟩:=s';obtain rfl:os'=s.os:=os;exact#[v,H',I.call (h':=hh) (g':=g) (d':=d) (t':=t) (ch:=[]) un hok bare (λb z=>absurd z (by simp)),r,q]
end
def qb(sp:Sp)(dvs:List V)(E:XK)(t:TA):TE:=λσ H Q=>t σ H λvs H1=>sp (vs ++ dvs) H1 Q E
def ZM(C:rX)(m:sk)(sp:Sp)(dvs:List V)(E:XK)(ta:TE)(t:TA):TE:=λσ H Q=>ta σ H λx H1=>∃a dx fs,x=.ref a/\H1 a=AM (.ins C dx fs)/\fs.lookup m=AN /\
 t σ H1 λvs H2=>sp (x::(vs ++ dvs)) H2 Q E
def VP(C:rX)(sp:Sp)(dvs:List V)(E:XK)(t:TA):TE:=λσ H Q=>t σ H λvs H1=>∀x dx,H1 x=AN->H1 dx=AN->dx≠x ->
 sp (.ref x::(vs ++ dvs)) (upd (upd H1 dx (.own x)) x (.ins C dx [])) (λv H2=>v=.non/\Q (.ref x) H2) E
def Binds(K:rW)(fd:sf)(ps:List sk)(ds:List rY):Prop :=
 ∀(s:rZ) (us:List rY),K.In s.heap->(us ++ ds).length=ps.length->Am s fd #[us,[]] (ps.zip (us ++ ds))
theorem Binds.all{K:rW}{fd:sf}{ps:List sk}(h:∀us:List rY,us.length=ps.length->bindArgs fd #[us,[]]=pure (ps.zip us)):Binds K fd ps []:=λs us _ hl=>by
 rw[aW]at hl ⊢;exact .of_eq (h us hl)
def uY(CX:CXT)(X:Cx)(E:XK):Prop:=∀(AR:List (rX × sL)) (σ:St) (H:Hp) (s:rZ) (e:rY) (s':rZ),Inv X AR σ H s->CX X.stack H s E e s'->X.xe e s'
section
variable{X:Cx}{CX:CXT}{k:Nat}{f C:rX}{fd:sf}{ps:List sk}{sp:Sp}{dvs:List V}{ds:List rY}{E:XK}{x m:sk}{p pos apos:tm}{e o:sr}{es:List sr}{ta:TE}{t:TA}
theorem ko{AR:List (rX × sL)}{σ:St}{H:Hp}{s:rZ}{Q:VK}{us:List rY}{vs:List V}(F:zQ X.prog X.w X.K X.mg X.base CX k f fd ps sp)(hr:Room k X.A)(hb:Binds X.K fd ps ds)(hd:Vals dvs ds)(hx:uY CX X E)
  (I:Inv X AR σ H s) (r:Vals vs us) (h:sp (vs ++ dvs) H Q E):si (model X.prog X.w) X.A (call (.ref f) us) (EP X AR σ Q) X.xe s:=by
 have r2:Vals (vs ++ dvs) (us ++ ds):=r.append hd;have hl:(us ++ ds).length=ps.length:=by rw[<- r2.length];exact F.len _ _ _ _ h
 refine tB (tE (F.run X.A X.stack s H #[us,[]] (us ++ ds) (vs ++ dvs) Q E hr I.env0 (hb s us I.kIn hl) r2 h) λr s' hq=>?_)
 cases r with
 | error e=>exact hx AR σ H s e s' I hq
 | ok fl =>
  cases fl with
  | ret u=>exact I.after hq
  | next=>exact False.elim hq
  | brk=>exact False.elim hq
  | cont=>exact False.elim hq
theorem UD(F:zQ X.prog X.w X.K X.mg X.base CX k f fd ps sp)(hr:Room k X.A)(hg:Gl X x)(hm:X.mg x=AM (.ref f))(hk:aF X.K (.ref f)=AO)(hb:Binds X.K fd ps ds)(hd:Vals dvs ds)(hx:uY CX X E)
  (ha:PA X (e::es) t) (hdb:(x ==("__debug__" : sk))=AQ:=by decide) (he:rT (e::es) X.env=(AQ,eval e X.env)::rT es X.env:=by rfl) (hpl:(sB pos (rT es X.env)).any (·.1)=AQ:=by rfl) :
  PE X (.Call (.Name x p) (e::es) [] pos) (qb sp dvs E t):=by
 intro AR s σ H Q I h;refine sJ (vE I hg hm ?_ hdb);refine bL (h₀:=X.base) I.ok.mod.kin hk (thn (ha pos AR s σ H _ I h) λus s1 ⟨vs,H1,I1,r,q⟩=>#[I1.kIn,?_]) he hpl;exact ko F hr hb hd hx I1 r q
theorem zbm{pl:AF Bool}(he:PE X o ta)(c:Cls X.K C)(hm:zcQ X.K C m f)(F:zQ X.prog X.w X.K X.mg X.base CX k f fd ps sp)(hr:Room k X.A)(hb:Binds X.K fd ps ds)(hd:Vals dvs ds)(hx:uY CX X E)(ha:PA X (e::es) t)
    (hst:rT (e::es) X.env=(AQ,eval e X.env)::rT es X.env:=by rfl) (hpl:(sB pos (rT es X.env)).any (·.1)=AQ:=by rfl)
    (ht:eval (.Call (.Attribute o m apos) (e::es) [] pos) X.env=(do
      let ov <- eval o X.env
      standAt apos.atName
      let (f,first) <- holding [ov] (getMethod ov m pl)
      callWith pos f first (sB pos (rT (e::es) X.env)) (sP pos (sy [] X.env))):=by rfl) :
    PE X (.Call (.Attribute o m apos) (e::es) [] pos) (ZM C m sp dvs E ta t):=by
  intro AR s σ H Q I h;refine bU (pl:=pl) (thn (he AR s σ H _ I h) λu s1 ⟨x,H1,I1,rx,a,dx,fs,ex,ea,l,q⟩=>?_) ht;subst ex;obtain rfl:u=Value.ref a:=rx;refine xT I1 ea c hm l ?_;refine bL (first:=[.ref a]) (h₀:=X.base) I.ok.mod.kin hm.kp (thn (ha pos AR s1 σ H1 _ I1 q) λus s2 ⟨vs,H2,I2,r,q2⟩=>#[I2.kIn,?_]) hst hpl;exact ko (us:=.ref a::us) (vs:=.ref a::vs) F hr hb hd hx I2 (.cons rfl r) q2
theorem Ks{pl:AF Bool}(he:PE X o ta)(c:Cls X.K C)(hm:zcQ X.K C m f)(F:zQ X.prog X.w X.K X.mg X.base CX k f fd ps sp)(hr:Room k X.A)(hb:Binds X.K fd ps ds)(hd:Vals dvs ds)(hx:uY CX X E)
    (ht:eval (.Call (.Attribute o m apos) [] [] pos) X.env=(do
      let ov <- eval o X.env
      standAt apos.atName
      let (f,first) <- holding [ov] (getMethod ov m pl)
      callWith pos f first (sB pos (rT [] X.env)) (sP pos (sy [] X.env))):=by rfl) :
    PE X (.Call (.Attribute o m apos) [] [] pos) (ZM C m sp dvs E ta xR):=by
  intro AR s σ H Q I h;refine bU (pl:=pl) (thn (he AR s σ H _ I h) λu s1 ⟨x,H1,I1,rx,a,dx,fs,ex,ea,l,q⟩=>?_) ht;subst ex;obtain rfl:u=Value.ref a:=rx;refine xT I1 ea c hm l ?_;exact fw (first:=[.ref a]) I1.kIn hm.kp (ko (us:=[.ref a]) (vs:=[.ref a]) F hr hb hd hx I1 (.cons rfl .nil) q)
structure Mk(K:rW)(C f:rX):Prop where
 makes:cz K C=AO
 init:af K (.ref C) "__init__" = AM (AM (.ref f))
 fn:aS K (.ref f)=AO
 kp:aF K (.ref C)=AO
theorem Ji{AR:List (rX × sL)}{σ:St}{H:Hp}{s:rZ}{Q:VK}{us:List rY}{vs:List V}(M:Mk X.K C f)(F:zQ X.prog X.w X.K X.mg X.base CX k f fd ps sp)(hr:Room (k+1) X.A)(hb:Binds X.K fd ps ds)(hd:Vals dvs ds)
  (hx:uY CX X E) (I:Inv X AR σ H s) (r:Vals vs us)
  (h:∀x dx,H x=AN->H dx=AN->dx≠x->sp (.ref x::(vs ++ dvs)) (upd (upd H dx (.own x)) x (.ins C dx [])) (λv H2=>v=.non/\Q (.ref x) H2) E) :
  si (model X.prog X.w) X.A (call (.ref C) us) (EP X AR σ Q) X.xe s:=by
 have hq:=h (s⁻¹+1) s⁻¹ (I.hok.fresh (cP _)) (I.hok.fresh (al _)) (ay (Nat.lt_succ_self _));have I2:=Inv.made (C:=C) I;have r2:Vals (V.ref (s⁻¹+1)::(vs ++ dvs)) (Value.ref (s⁻¹+1)::(us ++ ds)):=.cons rfl (r.append hd)
 have hl:(Value.ref (s⁻¹+1)::us ++ ds).length=ps.length:=by
  have e:=r2.length;rw[F.len _ _ _ _ hq]at e;exact e.symm
 refine tB (Kq (f:=f) I.kIn M.makes M.init (beq_iff_eq.mp M.fn) (tE (F.run _ X.stack _ _ #[Value.ref (s⁻¹+1)::us,[]] (Value.ref (s⁻¹+1)::(us ++ ds)) _ _ E (hr.make C us [])
  (I2.env0.make C us []) (hb _ (Value.ref (s⁻¹+1)::us) I2.kIn hl) r2 hq) λr s' hq'=>?_))
 cases r with
 | error e=>exact hx AR σ _ _ e s' I2 hq'
 | ok fl =>
  cases fl with
  | ret u =>
   obtain⟨v,H',I3,rv,ev,q3⟩:=I2.after hq';subst ev;exact#[rv,#[V.ref (s⁻¹+1),H',I3,rfl,q3]]
  | next=>exact False.elim hq'
  | brk=>exact False.elim hq'
  | cont=>exact False.elim hq'
theorem U5(M:Mk X.K C f)(F:zQ X.prog X.w X.K X.mg X.base CX k f fd ps sp)(hr:Room (k+1) X.A)(hg:Gl X x)(hm:X.mg x=AM (.ref C))(hb:Binds X.K fd ps ds)(hd:Vals dvs ds)(hx:uY CX X E)
  (ha:PA X (e::es) t) (hdb:(x ==("__debug__" : sk))=AQ:=by decide) (he:rT (e::es) X.env=(AQ,eval e X.env)::rT es X.env:=by rfl) (hpl:(sB pos (rT es X.env)).any (·.1)=AQ:=by rfl) :
  PE X (.Call (.Name x p) (e::es) [] pos) (VP C sp dvs E t):=by
 intro AR s σ H Q I h;refine sJ (vE I hg hm ?_ hdb);refine bL (h₀:=X.base) I.ok.mod.kin M.kp (thn (ha pos AR s σ H _ I h) λus s1 ⟨vs,H1,I1,r,q⟩=>#[I1.kIn,?_]) he hpl;exact Ji M F hr hb hd hx I1 r q
end
def PK(X:Cx)(kws:List AG)(t:TA):Prop :=
 ∀(pos:tm) (AR:List (rX × sL)) (s:rZ) (σ:St) (H:Hp) (Q:List V->Hp->Prop),Inv X AR σ H s->t σ H Q->si (model X.prog X.w) X.A (evalAll ((sP pos (sy kws X.env)).map (·.2))) (AP X AR σ Q) X.xe s
section
variable{X:Cx}{CX:CXT}{k:Nat}{f C:rX}{fd:sf}{ps ks:List sk}{sp:Sp}{E:XK}{x m:sk}{p pos apos kpos:tm}{e o:sr}{es:List sr}{kws:List AG}{te ta:TE}{t tk:TA}{nm:Option sk}
theorem KN:PK X [] xR:=λ_ _ _ _ H Q I h=>wpAny_evalAll_nil #[[],H,I,.nil,h]
theorem Ui(ha:PE X e te)(hr:PK X kws t):PK X (#[nm,e,kpos]::kws) (zL te t):=by
 intro pos AR s σ H Q I h;show si _ _ (evalAll ((do let v <- eval e X.env;standAt pos;pure v)::(sP pos (sy kws X.env)).map (·.2))) _ _ s;refine wpAny_evalAll_cons (rQ (thn (ha AR s σ H _ I h) λu s1 ⟨x,H1,I1,r1,q1⟩=>rQ (sY (rR ?_))));exact thn (hr pos AR s1 σ H1 _ I1 q1) λus s2 ⟨xs,H2,I2,r2,q2⟩=>#[x::xs,H2,I2,.cons r1 r2,q2]
variable{g:List rY->List rY->List rY}{gV:List V->List V->List V}
end
structure zk(N P:List sk)(sc:sU):Prop where
 kind:sc.kind=.function
 co:sc.isCoroutine=AQ
 gen:sc.isGenerator=AQ
 nd:N.Nodup
 pre:N.take P.length=P
 par:∀x ∈ P,sc.names.lookup x=AM .local\/sc.names.lookup x=AM .cell
 nofree:∀y ∈ sc.names,y.2≠.free
theorem Ye{kindOf:sk->Option tQ}{x:sk}:∀{binds:List (sk × rY)} {m:sk->Option rY},(∀v,(x,v) ∉ binds)->bindL kindOf binds m x=m x
  | [],_,_=>rfl
  | (n,v)::r,m,h=>by
    unfold bindL;rw[Ye λw hw=>h w (ar _ hw)];split
    . have:x≠n:=by rintro rfl;exact h v aB
      simp [this]
    . rfl
theorem YD{kindOf:sk->Option tQ}{x:sk}:∀{binds:List (sk × rY)} {m:sk->Option rY},(∀v,(x,v) ∉ binds)->bindC kindOf binds m x=m x
  | [],_,_=>rfl
  | (n,v)::r,m,h=>by
    unfold bindC;rw[YD λw hw=>h w (ar _ hw)];split
    . rfl
    . have:x≠n:=by rintro rfl;exact h v aB
      simp [this]
theorem ZT{kindOf:sk->Option tQ}{x:sk}{v:rY}:∀{P:List sk} {vs:List rY} {i:Nat} {m:sk->Option rY},P.Nodup->P[i]? = AM x->vs[i]? = AM v->kindOf x=AM .local ->
  bindL kindOf (P.zip vs) m x=AM v
 | [],_,_,_,_,h,_,_=>by simp at h
 | _::_,[],_,_,_,_,h,_=>by simp at h
 | p::P,w::vs,0,m,nd,h1,h2,hk=>by
  simp at h1 h2;subst h1;subst h2;show bindL kindOf ((p,w)::P.zip vs) m p=_;unfold bindL;rw[Ye λv hv=>(Be.mp nd).1 (dc hv).1,if_pos hk];simp
 | p::P,w::vs,i+1,m,nd,h1,h2,hk=>by
  show bindL kindOf ((p,w)::P.zip vs) m x=_;unfold bindL;exact ZT (i:=i) (Be.mp nd).2 (by simpa using h1) (by simpa using h2) hk
theorem Z8{kindOf:sk->Option tQ}{x:sk}{v:rY}:∀{P:List sk} {vs:List rY} {i:Nat} {m:sk->Option rY},P.Nodup->P[i]? = AM x->vs[i]? = AM v->kindOf x≠AM .local ->
  bindC kindOf (P.zip vs) m x=AM v
 | [],_,_,_,_,h,_,_=>by simp at h
 | _::_,[],_,_,_,_,h,_=>by simp at h
 | p::P,w::vs,0,m,nd,h1,h2,hk=>by
  simp at h1 h2;subst h1;subst h2;show bindC kindOf ((p,w)::P.zip vs) m p=_;unfold bindC;rw[YD λv hv=>(Be.mp nd).1 (dc hv).1,if_neg hk];simp
 | p::P,w::vs,i+1,m,nd,h1,h2,hk=>by
  show bindC kindOf ((p,w)::P.zip vs) m x=_;unfold bindC;exact Z8 (i:=i) (Be.mp nd).2 (by simpa using h1) (by simpa using h2) hk
noncomputable def start(N:List sk)(vs:List V):St:=vs.map AM ++ aU (N.length - vs.length) AN
noncomputable def qt(CX:CXT)(P:sj)(w:so)(K:rW)(mg:sk->Option rY)(base:su)(N:List sk)(qual:sk)(scope:sU)(f:rX)(cd:rY)(A:sq)(outer:List Ad)(s:rZ)(H:Hp)(E:XK):Cx where
 prog:=P
 w:=w
 K:=K
 mg:=mg
 base:=base
 A:=A.deeper (tR qual scope s⁻¹ f cd)
 N:=N
 s₀:=s
 H₀:=H
 env:=tR qual scope s⁻¹ f cd
 outer:=outer
 stack:=tR qual scope s⁻¹ f cd::outer
 ex:=[]
 calm:=AO
 fn:=λ_=>AO
 pn:=[]
 xe:=λe s'=>si (model P w) (A.deeper (tR qual scope s⁻¹ f cd)) (leaving (tR qual scope s⁻¹ f cd) e) (λ_ s''=>CX outer H s E e s'') (λe' s''=>CX outer H s E e' s'') s'
theorem XY{sc:sU}{n:Nat}{x:sk}(h:sc.names.lookup x=AM .cell):∃c,(cellsFrom n sc.names []).lookup x=AM c:=by
 have q:=eS sc.names n [] (.inl h);exact Bg.mp q
theorem VY{CX:CXT}{P:sj}{w:so}{K:rW}{mg:sk->Option rY}{base:su}{N ps:List sk}{qual:sk}{scope:sU}{f:rX}{cd:rY}{A:sq}{outer:List Ad}{s s1:rZ}{H:Hp}{E:XK}{us:List rY}{vs:List V}
  (S:zk N ps scope) (hd:A.handled=AN) (e0:Env0 P w K mg base A outer s H) (hl:vs.length=ps.length) (r:Vals vs us)
  (x:InCallC s s⁻¹ (bindL (tR qual scope s⁻¹ f cd).kindOf (ps.zip us) λ_=>AN) (cellsFrom (s⁻¹+1) scope.names []) (bindC (tR qual scope s⁻¹ f cd).kindOf (ps.zip us) λ_=>AN) s1) :
  Inv (qt CX P w K mg base N qual scope f cd A outer s H E) [] (start N vs) H s1:=by
 have hpl:ps.length<=N.length:=by have:=congrArg fM S.pre;rw[aJ]at this;lia
 obtain⟨h1,tk,rfl,hk⟩:=x.done;have noA:∀b:rX,b ∉ (qt CX P w K mg base N qual scope f cd A outer s H E).ex:=λb z=>absurd (show b ∈ ([]:List rX)from z) (by simp)
 refine#[#[e0.mod,S.kind,rfl,rfl,al _,λy z c h1 h2=>?_,λy hy=>?_,λy c _ h=>?_,λ_=>hd,Around.frames_deeper e0.frames,.inr #[rfl,rfl],λb z=>absurd z (noA b),e0.bs,e0.bsz,λb _ _=>noA b,λb z=>absurd z (noA b),e0.funs,e0.frf],
  rfl,e0.bare,Un.kept hk,#[_,x.toInCall.ns,λi y v h1 h2 h3=>?_],λy c h=>#[_,x.cell y c h],e0.hok.fresh (al _),λy c h=>?_,λp hp=>absurd (show p ∈ ([]:List (rX × sL))from hp) (by simp),e0.hok.kept hk,?_]
 ·exact name_of_addr x.apart (bS h1) (bS h2)
 ·have hy:scope.names.lookup y=AM .cell\/scope.names.lookup y=AM .free:=hy;rcases hy with hy | hy
  ·exact XY hy
  ·exact absurd rfl (S.nofree _ (bS hy))
 ·exact cT (x.above y c (bS h))
 ·have hi:i<vs.length:=by
   unfold start at h2;by_cases hi:i<vs.length
   ·exact hi
   ·rw[be (by simpa using hi)]at h2;rw[eN]at h2;split at h2 <;> cases h2
  have ha:vs[i]? = AM v:=by
   unfold start at h2;rw[br (by simpa using hi),am]at h2
   cases e:vs[i]? with
   | none=>rw[e]at h2;cases h2
   | some a=>rw[e]at h2;cases h2;rfl
  obtain⟨u,hu,rv⟩:=r.get ha
  have hp:ps[i]? = AM y:=by
   rw[<- S.pre,cb ⋯];exact h1
  have ndP:ps.Nodup:=by rw[<- S.pre];exact S.nd.sublist (List.take_sublist _ _)
  refine#[u,rv,?_];rcases S.par y (aa hp)with k | k
  ·exact .inl #[k,ZT ndP hp hu k]
  ·obtain⟨c,e⟩:=XY (n:=s⁻¹+1) k;refine .inr #[.inl k,c,e,?_];have q:=x.cell y c e;rw[Z8 ndP hp hu (by show scope.names.lookup y≠_;rw[k];decide)]at q;exact q
 ·exact e0.hok.fresh (cT (x.above y c (bS h)))
 ·unfold start;show _=N.length;rw[ak,ac,bV];lia
theorem JV{CX:CXT}{P:sj}{w:so}{K:rW}{mg:sk->Option rY}{base:su}{k:Nat}{f:rX}{name qual:sk}{params:tJ}{body:List sv}{scope:sU}{dV kV doc pm cdv ct oc:rY}{an od:Option rX}
  {osl:Array (Option rY)} {N ps:List sk} {sp:Sp} (lk:K.lookup f=AM #[oc,od,.func (bj name qual params body scope dV kV doc pm an cdv ct),osl]) (hcd:bN K cdv qual=AO) (S:zk N ps scope)
  (len:∀vs H Q E,sp vs H Q E->vs.length=ps.length)
  (hbody:∀(A:sq) (outer:List Ad) (s:rZ) (H:Hp) (vs:List V) (Q:VK) (E:XK),Room k (A.deeper (tR qual scope s⁻¹ f cdv))->sp vs H Q E ->
   ∃t,PSs (qt CX P w K mg base N qual scope f cdv A outer s H E) body t/\t { nx:=λ_ H'=>Q .non H',rt:=Q } (start N vs) H) :
  zQ P w K mg base CX (k+1) f (bj name qual params body scope dV kV doc pm an cdv ct) ps sp:=by
 refine#[len,λA outer s H args us vs Q E hr e0 hb r hsp=>?_];have hl:=len _ _ _ _ hsp;have KX:K.In s.heap:=e0.mod.kin.keeps λb o e=>(e0.bs b o e).1;have lim:s.heap.NoLimit:=e0.mod.nolimit.keeps λb o e=>(e0.bs b o e).1
 have hkind:∀y ∈ ps.zip us,scope.names.lookup y.1=AM .local\/(scope.names.lookup y.1=AM .cell/\((cellsFrom (s⁻¹+1) scope.names []).lookup y.1).isSome=AO):=λ⟨n,v⟩ hy=>by
  rcases S.par n (dc hy).1 with q | q
  ·exact .inl q
  ·exact .inr #[q,eS _ _ _ (.inl q)]
 refine codeAny_call_function hr.depth (KX _ _ lk) rfl S.co S.gen rfl (PySem.W.codeRec_of KX hcd) (hb _ _ _ _ ?_);refine wpAny_newFunctionEnv_cells S.kind hkind λenv he s1 x=>?_;subst he;refine#[lim.keeps x.toInCall.keep,codeAny_func ?_];obtain⟨t,ht,hq⟩:=hbody A outer s H vs Q E (hr.deeper _) hsp;have I:Inv (qt CX P w K mg base N qual scope f cdv A outer s H E) [] (start N vs) H s1:=VY S hr.hd e0 hl r x;refine tz (ht [] s1 (start N vs) H _ I hq) (λfl s' hs=>?_) λe s' hs=>hs
 have fin:∀{σ':St} {H':Hp} {v:V} {u:rY},Inv (qt CX P w K mg base N qual scope f cdv A outer s H E) [] σ' H' s'->RelV v u->Q v H'->CE outer P w H s Q u s' :=
  λ{σ' H' v u} J rv q=>#[v,H',J.os,J.bare,J.base,J.hok,rv,q]
 cases fl with
 | ret u =>
  obtain⟨v,σ',H',J,rv,q⟩:=hs;exact fin J rv q
 | next =>
  obtain⟨σ',H',J,q⟩:=hs;exact fin (v:=V.non) (u:=Value.none) J rfl q
 | brk =>
  obtain⟨_,_,_,q⟩:=hs;exact False.elim q
 | cont =>
  obtain⟨_,_,_,q⟩:=hs;exact False.elim q
end L2
namespace L2
section
variable{X:Cx}{x:sk}{p pos:tm}{e:sr}{es:List sr}{t:TA}{id T:String}{r:List V->Hp->VK->Prop}
def tCB(r:List V->Hp->VK->Prop)(t:TA):TE:=λσ H Q=>t σ H λvs H1=>r vs H1 Q
theorem xx(hc:vo X (.builtin id) r)(hg:Gl X x)(hm:X.mg x=AN)(hv:sN x=AM (.builtin id))(ha:PA X (e::es) t)(hn:x≠"__name__":=by decide)(hdb:(x ==("__debug__" : sk))=AQ:=by decide)
  (he:rT (e::es) X.env=(AQ,eval e X.env)::rT es X.env:=by rfl) (hpl:(sB pos (rT es X.env)).any (·.1)=AQ:=by rfl):PE X (.Call (.Name x p) (e::es) [] pos) (tCB r t):=by
 intro AR s σ H Q I h;refine sJ (wD I hg hm hv ?_ hn hdb);exact PyProof.Rows.callWith_builtin1 (thn (ha pos AR s σ H _ I h) λus s1 ⟨vs,H1,I1,r1,q1⟩=>hc AR s1 σ H1 vs us Q I1 r1 q1) he hpl
theorem xp(hc:vo X (.type T) r)(hg:Gl X x)(hm:X.mg x=AN)(hv:sN x=AM (.type T))(ha:PA X (e::es) t)(hn:x≠"__name__":=by decide)(hdb:(x ==("__debug__" : sk))=AQ:=by decide)
  (he:rT (e::es) X.env=(AQ,eval e X.env)::rT es X.env:=by rfl) (hpl:(sB pos (rT es X.env)).any (·.1)=AQ:=by rfl):PE X (.Call (.Name x p) (e::es) [] pos) (tCB r t):=by
 intro AR s σ H Q I h;refine sJ (wD I hg hm hv ?_ hn hdb);exact bp (thn (ha pos AR s σ H _ I h) λus s1 ⟨vs,H1,I1,r1,q1⟩=>hc AR s1 σ H1 vs us Q I1 r1 q1) he hpl
end
end L2
namespace HT
open PySem PyProof.Rows
section
open PySem.SeqAt
open PySem.AutoSeq1 (wpAny_loadPart')
open PySem.MeetsSeq PySem.MeetsSeq2 PySem.MeetsSeq3
end
section
variable{prog:sj}{w:so}{A:sq}{E:rY->rZ->Prop}{s:rZ}
noncomputable def sIx(n d:Nat):Option Int->Nat
 | none=>d
 | some v=>if v<0 then (v+(n:Int)).toNat else min v.toNat n
theorem sIx_none(n d:Nat):sIx n d AN=d:=rfl
theorem sIx_nat(n d k:Nat):sIx n d (AM (k:Int))=min k n:=by
 show (if (k:Int)<0 then ((k:Int)+(n:Int)).toNat else min (k:Int).toNat n)=min k n;rw[if_neg ⋯,aN]
theorem sIx_le(n d:Nat)(hd:d<=n)(o:Option Int):sIx n d o<=n:=by
 cases o with
 | none=>exact hd
 | some v =>
  show (if v<0 then (v+(n:Int)).toNat else min v.toNat n)<=n;by_cases hv:v<0
  ·rw[if_pos hv];lia
  ·rw[if_neg hv];exact Nat.min_le_right _ _
end
end HT
namespace L2
noncomputable abbrev TO:=St->Hp->(Option Int->Hp->Prop)->Prop
def PO(X:Cx)(e:Option sr)(t:TO):Prop :=
 ∀(AR:List (rX × sL)) (s:rZ) (σ:St) (H:Hp) (Q:Option Int->Hp->Prop),Inv X AR σ H s->t σ H Q ->
  si (model X.prog X.w) X.A (evalPart e X.env) (λu s'=>∃o H',Inv X AR σ H' s'/\IsPart u o/\Q o H') X.xe s
def kG:TO:=λ_ H Q=>Q AN H
def YC(t:TE):TO:=λσ H Q=>t σ H λx H1=>onInt x λi=>Q (AM i) H1
section
variable{X:Cx}{e:sr}{te:TE}{lo hi:Option sr}{tl th:TO}{pos p2:tm}
theorem vL:PO X AN kG:=by
 intro AR s σ H Q I h;rw[evalPart_none];exact rR #[AN,H,I,.none,h]
theorem yx(h:PE X e te):PO X (AM e) (YC te):=by
 intro AR s σ H Q I hw;rw[evalPart_some];refine thn (h AR s σ H _ I hw) λu s1 ⟨x,H1,I1,r1,q1⟩=>?_;obtain⟨i,rfl,q⟩:=onInt.of q1;obtain⟨t,rfl⟩:=r1;exact#[AM i,H1,I1,.int i t,q]
def SlR(X:Cx)(r:V->Option Int->Option Int->Hp->VK->Prop):Prop :=
 ∀(AR:List (rX × sL)) (s:rZ) (σ:St) (H:Hp) (x:V) (v vl vu:rY) (lo hi:Option Int) (sl:rX) (Q:VK),Inv X AR σ H s->RelV x v->s.heap.IsSliceOf sl vl vu .none->IsPart vl lo->IsPart vu hi->r x lo hi H Q ->
  ∃T id,typeLookup (.type T) "__getitem__" = pure (AM (.builtin id))/\s.TypeIs v T/\si (model X.prog X.w) X.A (getItem v (.ref sl)) (EP X AR σ Q) X.xe s
def tSl(r:V->Option Int->Option Int->Hp->VK->Prop)(te:TE)(tl th:TO):TE:=λσ H Q=>te σ H λx H1=>tl σ H1 λl H2=>th σ H2 λu H3=>r x l u H3 Q
theorem yH{r:V->Option Int->Option Int->Hp->VK->Prop}(hr:SlR X r)(he:PE X e te)(hl:PO X lo tl)(hu:PO X hi th):PE X (.Subscript e (.Slice lo hi AN p2) pos) (tSl r te tl th):=by
 intro AR s σ H Q I h;refine AI (thn (he AR s σ H _ I h) λv s1 ⟨x,H1,I1,r1,q1⟩=>?_);refine wpAny_Slice (thn (hl AR s1 σ H1 _ I1 q1) λvl s2 ⟨l,H2,I2,pl,q2⟩=>thn (hu AR s2 σ H2 _ I2 q2) λvu s3 ⟨u,H3,I3,pu,q3⟩=>?_);rw[evalPart_none];refine rR ?_;have I4:Inv X AR σ H3 { s3 with heap:=s3.heap.push { cls:=.type "slice",data:=.fields (List.toArray [vl,vu,.none]) } }:=I3.kept (t':=s3.toks) λb ob q=>ae _ q;obtain⟨T,id,hT,ht,hg⟩:=hr AR { s3 with heap:=s3.heap.push { cls:=.type "slice",data:=.fields (List.toArray [vl,vu,.none]) } } σ H3 x v vl vu l u s3⁻¹ Q I4 r1 (Heap.IsSliceOf.new ..) pl pu q3;show si (model X.prog X.w) X.A (Ap e (.Slice lo hi AN p2) v (.ref s3⁻¹)) (EP X AR σ Q) X.xe { s3 with heap:=s3.heap.push { cls:=.type "slice",data:=.fields (List.toArray [vl,vu,.none]) } };exact tail_any (ops:=[.ref s3⁻¹,v]) ht hT hg (by with_unfolding_all rfl)
noncomputable def K9(xs:List V)(lo hi:Option Int):List V:=(xs.drop (HT.sIx xs.length 0 lo)).take (HT.sIx xs.length xs.length hi - HT.sIx xs.length 0 lo)
theorem YX(xs:List V)(lo hi:Option Int):(K9 xs lo hi).length<=xs.length:=by
 unfold K9;rw[aJ,bn];lia
end
end L2
namespace L2
noncomputable def ixN(n:Nat)(i:Int):Option Nat:=if 0<=i then (if i<n then AM i.toNat else AN)else if -(n:Int)<=i then AM (i+n).toNat else AN
noncomputable def atI{α:Type}(xs:List α)(i:Int):Option α:=(ixN xs.length i).bind λj=>xs[j]?
theorem Qm{n:Nat}{i:Int}{j:Nat}(h:ixN n i=AM j):seqIndex? i n=AM j/\j<n/\-(n:Int)<=i/\i<n:=by
 unfold ixN at h;by_cases h0:0<=i
 ·rw[if_pos h0]at h;by_cases h1:i<n
  ·rw[if_pos h1]at h;have e:i.toNat=j:=Option.some.inj h;exact#[by rw[seqIndex_of h0 h1,e],⋯,⋯,h1]
  ·rw[if_neg h1]at h;cases h
 ·rw[if_neg h0]at h;by_cases h1:-(n:Int)<=i
  ·rw[if_pos h1]at h;have e:(i+n).toNat=j:=Option.some.inj h;exact#[by rw[seqIndex_neg ⋯ h1,e],⋯,h1,⋯]
  ·rw[if_neg h1]at h;cases h
theorem XF{α:Type}{xs:List α}{i:Int}{v:α}(h:atI xs i=AM v):∃j,seqIndex? i xs.length=AM j/\xs[j]? = AM v/\j<xs.length/\-(xs.length:Int)<=i/\i<xs.length:=by
 unfold atI at h
 cases e:ixN xs.length i with
 | none=>rw[e]at h;cases h
 | some j =>
  rw[e]at h;obtain⟨h1,h2,h3,h4⟩:=Qm e;exact#[j,h1,h,h2,h3,h4]
theorem wf{α:Type}{xs:List α}{j:Nat}{v:α}(h:xs[j]? = AM v):atI xs (j:Int)=AM v:=by
 have hj:j<xs.length:=(AU.mp h).1
 have e:ixN xs.length (j:Int)=AM j:=by
  unfold ixN;rw[if_pos ⋯,if_pos ⋯];simp
 unfold atI;rw[e];exact h
def Qj(b:sr):Prop:=∀o i,subscripted b AQ o i=operate [o,i] (getItem o i)
def IxR(X:Cx)(r:R2):Prop :=
 ∀(value slice:sr) (AR:List (rX × sL)) (s:rZ) (σ:St) (H:Hp) (x y:V) (v u:rY) (Q:VK),Inv X AR σ H s->RelV x v->RelV y u->r x y H Q ->
  subscripted slice AQ v u=operate [v,u] (getItem v u)->si (model X.prog X.w) X.A (Ap value slice v u) (EP X AR σ Q) X.xe s
def MtR(X:Cx)(id:String)(r:V->List V->Hp->VK->Prop):Prop :=
 ∀(AR:List (rX × sL)) (s:rZ) (σ:St) (H:Hp) (x:V) (xs:List V) (v:rY) (us:List rY) (Q:VK),Inv X AR σ H s->RelV x v->Vals xs us->r x xs H Q ->
  si (model X.prog X.w) X.A (call (.builtin id) (v::us)) (EP X AR σ Q) X.xe s
section
variable{X:Cx}{a b:sr}{ta tb:TE}{pos:tm}
theorem IxR.or{r r':R2}(h:IxR X r)(h':IxR X r'):IxR X (λx y H Q=>r x y H Q\/r' x y H Q):=by
 intro value slice AR s σ H x y v u Q I rx ry q hs;rcases q with q | q
 ·exact h value slice AR s σ H x y v u Q I rx ry q hs
 ·exact h' value slice AR s σ H x y v u Q I rx ry q hs
theorem ze1{r:R2}(hr:IxR X r)(ha:PE X a ta)(hb:PE X b tb)(hs:Qj b):PE X (.Subscript a b pos) (tOp r ta tb):=by
 intro AR s σ H Q I h;exact AI (zey ha hb I h λv u s2 x y H2 I2 rx ry q=>hr a b AR s2 σ H2 x y v u Q I2 rx ry q (hs _ _))
def zcT(K:rW):R2:=λx y H Q=>onRef x λp=>onInt y λi=>∃xs,SqL K H p xs/\∃v,atI xs i=AM v/\Q v H
def jn(K:rW):R2:=λx y H Q=>onRef x λp=>onInt y λi=>∃xs,SqT K H p xs/\∃v,atI xs i=AM v/\Q v H
def zck:R2:=λx y H Q=>onStr x λz=>onInt y λi=>z.length<=rV/\∃c,atI z.cps.toList i=AM c/\Q (.str ⟨#[c]⟩) H
theorem ix_list:IxR X (zcT X.K):=by
 intro value slice AR s σ H x y v u Q I rx ry h hs;obtain⟨p,rfl,h2⟩:=onRef.of h;obtain⟨i,rfl,xs,hq,z,he,q⟩:=onInt.of h2;cases rx;obtain⟨t,rfl⟩:=ry;obtain⟨its,r,pl,hz⟩:=I.list hq;obtain⟨j,h1,h2,h3,h4,h5⟩:=XF he;obtain⟨w,ew,rw'⟩:=r.get h2;have hl:=r.length;have hn:=ky;have fin:EP X AR σ Q w s:=#[z,H,I,rw',q];by_cases h0:0<=i
 ·have hj:i.toNat=j:=by
   rw[seqIndex_of h0 h5]at h1;exact Option.some.inj h1
  exact item_listR pl.isList h0 ⋯ (by rw[hj];simpa using ew) fin hs
 ·have hj:(i+(its.toArray.size:Int)).toNat=j:=by
   rw[seqIndex_neg ⋯ h4]at h1;rw[aj,<- hl];exact Option.some.inj h1
  exact Ab (x:=w) pl.isList.typeIs slot_list_getitem.lookup
   (wpAny_getItem_list_neg (Q:=λr s'=>r=w/\EP X AR σ Q r s') pl.isList ⋯ (by rw[aj] <;> lia) ⋯ (by rw[hj];simpa using ew) #[rfl,fin]) hs
theorem ix_tup:IxR X (jn X.K):=by
 intro value slice AR s σ H x y v u Q I rx ry h hs;obtain⟨p,rfl,h2⟩:=onRef.of h;obtain⟨i,rfl,xs,hq,z,he,q⟩:=onInt.of h2;cases rx;obtain⟨t,rfl⟩:=ry;obtain⟨its,r,pl,hz⟩:=I.tuple hq;obtain⟨j,h1,h2,h3,h4,h5⟩:=XF he;obtain⟨w,ew,rw'⟩:=r.get h2;have hl:=r.length;have hn:=ky;have fin:EP X AR σ Q w s:=#[z,H,I,rw',q]
 exact Ab (x:=w) pl.typeIs slot_tuple_getitem.lookup
  (getItem_tuple (j:=j) (Q:=λr s'=>r=w/\EP X AR σ Q r s') pl ⋯ ⋯ (by rw[aj,<- hl];exact h1) (by simpa using ew) #[rfl,fin]) hs
theorem ZY:IxR X zck:=by
 intro value slice AR s σ H x y v u Q I rx ry h hs;obtain⟨z,rfl,h2⟩:=onStr.of h;obtain⟨i,rfl,hz,c,he,q⟩:=onInt.of h2;obtain⟨t,rfl⟩:=rx;obtain⟨t',rfl⟩:=ry;obtain⟨j,h1,h2,h3,h4,h5⟩:=XF he;have hl:z.cps.toList.length=z.length:=by simp [Str.length]
 rw[hl]at h1 h4 h5;have hn:=ky
 exact tail_any (typeIs_str s z t) slot_str_getitem.lookup (getItem_str (c:=c) (by
  have e1:decide (i < -(2 ^ 63:Int))=AQ:=decide_eq_false ⋯;have e2:decide (i ≥ 2 ^ 63)=AQ:=decide_eq_false ⋯
  rw[e1,e2,Bool.or_false]) (by rw[h1];simpa using h2) #[.str ⟨#[c]⟩,H,I.tok _,#[_,rfl],q]) hs
def rIx(K:rW):R2:=λx y H Q=>match x with | .ref p=>onInt y λi=>(∃xs,SqL K H p xs/\∃v,atI xs i=AM v/\Q v H)\/∃xs,SqT K H p xs/\∃v,atI xs i=AM v/\Q v H | .str z=>zck (.str z) y H Q | _=>False
theorem rIx.of{K:rW}{x y:V}{H:Hp}{Q:VK}(h:rIx K x y H Q):zcT K x y H Q\/jn K x y H Q\/zck x y H Q:=by
 unfold rIx at h;cases x <;> first | exact .inr (.inr h) | (obtain⟨i,rfl,h⟩:=onInt.of h;exact h.elim .inl λh=>.inr (.inl h)) | exact h.elim
theorem zdC:IxR X (rIx X.K):=λa b AR s σ H x y v u Q I rx ry h hs=>(ix_list.or (ix_tup.or ZY)) a b AR s σ H x y v u Q I rx ry h.of hs
theorem Vx(its:List rY)(n j:Nat)(u:rY):Obj.mapSeq (·.setIfInBounds j u) { cls:=.type "list",data:=.seq its.toArray n }={ cls:=.type "list",data:=.seq (its.set j u).toArray n }:=by
 simp [Obj.mapSeq]
theorem Inv.lst{AR:List (rX × sL)}{σ:St}{H:Hp}{s:rZ}{p:rX}{xs:List V}(I:Inv X AR σ H s)(h:H p=AM (.lst xs)) :
  ∃(its:List rY) (n:Nat),Vals xs its/\s.heap.get? p=AM { cls:=.type "list",data:=.seq its.toArray n }/\xs.length<=rV:=by
 obtain⟨z,its,n,r,e⟩:=I.hok p _ h;exact#[its,n,r,e,z]
theorem Inv.lstUpd{AR:List (rX × sL)}{σ:St}{H:Hp}{s:rZ}{p:rX}{xs ys:List V}{its its':List rY}{n n':Nat}{f:sL->sL}(I:Inv X AR σ H s)(h:H p=AM (.lst xs))
  (ho:s.heap.get? p=AM { cls:=.type "list",data:=.seq its.toArray n }) (hf:f { cls:=.type "list",data:=.seq its.toArray n }={ cls:=.type "list",data:=.seq its'.toArray n' }) (r:Vals ys its') (hz:ys.length<=rV) (t:Nat) :
  Inv X AR σ (upd H p (.lst ys)) { s with heap:=s.heap.update p f,toks:=t }:=by
 have e:(s.heap.update p f).get? p=AM { cls:=.type "list",data:=.seq its'.toArray n' }:=by
  rw[bJ f ho (by rw[hf] <;> rfl),hf]
 refine I.write (x:=p) (e:=p) (by rw[h];trivial) (.inl rfl) (λb u hb q=>(aD _ _ (Ne.symm hb)).trans q) #[_,e] ?_;exact#[hz,its',n',r,e]
def zcB:V->V->V->Hp->(Hp->Prop)->Prop:=λo i v H Q=>∃p xs k j,o=.ref p/\i=.int k/\H p=AM (.lst xs)/\ixN xs.length k=AM j/\Q (upd H p (.lst (xs.set j v)))
theorem Kd:ze2 X zcB:=by
 intro AR s σ H o i v ov iv u Q I ro ri rv h;obtain⟨p,xs,k,j,rfl,rfl,hp,hj,q⟩:=h;cases ro;obtain⟨t,rfl⟩:=ri;obtain⟨its,n,r,ho,hz⟩:=I.lst hp;obtain⟨h1,h2,h3,h4⟩:=Qm hj;have hl:=r.length;have hn:=ky
 have I':Inv X AR σ (upd H p (.lst (xs.set j v))) { s with heap:=s.heap.update p (Obj.mapSeq (·.setIfInBounds j u)) } :=
  I.lstUpd hp ho (Vx its n j u) (r.set rv j) (by rw[dB];exact hz) s.toks
 by_cases h0:0<=k
 ·have hk:k.toNat=j:=by
   rw[seqIndex_of h0 h4]at h1;exact Option.some.inj h1
  exact PySem.W.ki_setAt ho h0 ⋯ (by rw[aj,<- hl];exact h4) (by rw[hk];exact#[_,I',q])
 ·have hk:(k+(its.toArray.size:Int)).toNat=j:=by
   rw[seqIndex_neg ⋯ h3]at h1;rw[aj,<- hl];exact Option.some.inj h1
  exact PySem.W.ki_setBack ho ⋯ (by rw[aj,<- hl];exact h3) ⋯ (by rw[hk];exact#[_,I',q])
theorem Yc(lo hi:Option Int)(n:Nat):(sliceBounds lo hi AN n).1=((HT.sIx n 0 lo:Nat):Int)/\(sliceBounds lo hi AN n).2.1=((HT.sIx n n hi:Nat):Int)/\(sliceBounds lo hi AN n).2.2=1:=by
 refine#[?_,?_,rfl]
 ·cases lo with
  | none=>simp [sliceBounds,HT.sIx]
  | some i =>
   erw[sliceBounds,HT.sIx,fO,show (1:Int) > 0 by decide,if_true]
   by_cases h:i<0
   ·erw[h,if_true] <;> lia
   ·erw[h,if_false] <;> lia
 ·cases hi with
  | none=>simp [sliceBounds,HT.sIx]
  | some i =>
   erw[sliceBounds,HT.sIx,fO,show (1:Int) > 0 by decide,if_true]
   by_cases h:i<0
   ·erw[h,if_true] <;> lia
   ·erw[h,if_false] <;> lia
theorem Zw(its:List rY)(lo hi:Option Int):slicePick its.toArray lo hi AN=((its.drop (HT.sIx its.length 0 lo)).take (HT.sIx its.length its.length hi - HT.sIx its.length 0 lo)).toArray:=by
 obtain⟨h1,h2,h3⟩:=Yc lo hi its.toArray.size;unfold slicePick;rw[h1,h2,h3]
 erw[sliceRange_one,pick_run,aj] <;> rfl
def zcz(K:rW):V->Option Int->Option Int->Hp->VK->Prop:=λx lo hi H Q=>onRef x λa=>∃xs,SqL K H a xs/\∀p,H p=AN->Q (.ref p) (upd H p (.lst (K9 xs lo hi)))
theorem Xh:SlR X (zcz X.K):=by
 intro AR s σ H x v vl vu lo hi sl Q I rx hs pl pu h;obtain⟨a,rfl,xs,hx,q⟩:=onRef.of h;cases rx;obtain⟨its,r,ht,hz⟩:=I.list hx;have hlen:=r.length;refine#["list",_,slot_list_getitem.lookup,ht.isList.typeIs,?_];refine wpAny_getItem_list_slice ht.isList hs pl pu .none (by simp) ?_ (by rw[aj] <;> lia);rw[Zw,<- hlen];refine#[.ref s⁻¹,_,I.laid (t':=s.toks) (o:=.lst (K9 xs lo hi)) (λb ob q=>ae _ q) (al _) ?_,rfl,q _ (I.hok.fresh (al _))];exact#[aM (YX xs lo hi) hz,_,0,(r.drop (HT.sIx xs.length 0 lo)).take (HT.sIx xs.length xs.length hi - HT.sIx xs.length 0 lo),az _ rfl]
noncomputable def zcX:V->Bool
 | .non=>AO
 | .bl _=>AO
 | .int _=>AO
 | .str _=>AO
 | _=>AQ
noncomputable def eqV:V->V->Bool
 | .non,.non=>AO
 | .bl a,.bl b=>a == b
 | .bl a,.int b=>(if a then 1 else 0) == b
 | .int a,.bl b=>a ==(if b then 1 else 0)
 | .int a,.int b=>a == b
 | .str a,.str b=>a == b
 | _,_=>AQ
theorem XG{A:sq}{s:rZ}{y x:V}{u v:rY}(ry:RelV y u)(rx:RelV x v)(fy:zcX y=AO)(fx:zcX x=AO):SeqAt.EqAt A s u v (eqV y x):=by
 cases y with
 | non =>
  cases ry
  cases x with
  | non=>cases rx;exact SeqAt.EqAt.same _
  | bl b=>cases rx;exact SeqAt.EqAt.none_bool b
  | int b=>obtain⟨t,rfl⟩:=rx;exact SeqAt.EqAt.none_int b t
  | str b=>obtain⟨t,rfl⟩:=rx;exact SeqAt.EqAt.none_str b t
  | _=>exact absurd (show AQ=AO from fx) aw
 | bl a =>
  cases ry
  cases x with
  | non=>cases rx;exact SeqAt.EqAt.bool_none a
  | bl b=>cases rx;exact SeqAt.EqAt.bool_bool a b
  | int b=>obtain⟨t,rfl⟩:=rx;exact SeqAt.EqAt.bool_int a b t
  | str b=>obtain⟨t,rfl⟩:=rx;exact SeqAt.EqAt.bool_str a b t
  | _=>exact absurd (show AQ=AO from fx) aw
 | int a =>
  obtain⟨t',rfl⟩:=ry
  cases x with
  | non=>cases rx;exact SeqAt.EqAt.int_none a t'
  | bl b=>cases rx;exact SeqAt.EqAt.int_bool a t' b
  | int b=>obtain⟨t,rfl⟩:=rx;exact SeqAt.EqAt.int_int a t' b t
  | str b=>obtain⟨t,rfl⟩:=rx;exact SeqAt.EqAt.int_str a t' b t
  | _=>exact absurd (show AQ=AO from fx) aw
 | str a =>
  obtain⟨t',rfl⟩:=ry
  cases x with
  | non=>cases rx;exact SeqAt.EqAt.str_none a t'
  | bl b=>cases rx;exact SeqAt.EqAt.str_bool a t' b
  | int b=>obtain⟨t,rfl⟩:=rx;exact SeqAt.EqAt.str_int a t' b t
  | str b=>obtain⟨t,rfl⟩:=rx;exact SeqAt.EqAt.str_str a t' b t
  | _=>exact absurd (show AQ=AO from fx) aw
 | _=>exact absurd (show AQ=AO from fy) aw
theorem yS:vo X (.type "list") (λxs H Q=>∃p ys,xs=[.ref p]/\(SqL X.K H p ys\/SqT X.K H p ys)/\∀l,H l=AN->Q (.ref l) (upd H l (.lst ys))):=by
 intro AR s σ H xs us Q I r h;obtain⟨p,ys,rfl,hq,q⟩:=h;obtain⟨u,rfl,rx⟩:=wq r;cases rx
 have fin:∀(its:List rY),Vals ys its->ys.length<=rV->∀(h':su) (c':Nat),(∀b o',s.heap.get? b=AM o'->h'.get? b=AM o') ->
   h'.get? s⁻¹=AM { cls:=.type "list",dict:=AN,data:=.seq its.toArray c',slots:=#[] }->EP X AR σ Q (.ref s⁻¹) { s with heap:=h' }:=λits r' hz h' c' kp e =>
  #[.ref s⁻¹,_,I.laid (t':=s.toks) kp (al _) (show ObjOk X.prog X.w _ h' _ (.lst ys)from #[hz,its,c',r',e]),rfl,q _ (I.hok.fresh (al _))]
 rcases hq with hq | hq
 ·obtain⟨its,r',pl,hz⟩:=I.list hq;have hlen:=r'.length;obtain⟨o,ho,hc,n,hd⟩:=pl.isList;exact call_list_seq p (.inl rfl) ho hc hd (λh' c' kp e=>fin its r' hz h' c' kp e) (by erw[aj] <;> lia)
 ·obtain⟨its,r',pl,hz⟩:=I.tuple hq;have hlen:=r'.length;obtain⟨o,ho,hc,n,hd⟩:=pl;exact call_list_seq p (.inr rfl) ho hc hd (λh' c' kp e=>fin its r' hz h' c' kp e) (by erw[aj] <;> lia)
theorem Zr:vo X (.type "tuple") (λxs H Q=>∃p ys,xs=[.ref p]/\((SqL X.K H p ys/\∀l,H l=AN->Q (.ref l) (upd H l (.tup ys)))\/(SqT X.K H p ys/\Q (.ref p) H))):=by
 intro AR s σ H xs us Q I r h;obtain⟨p,ys,rfl,h⟩:=h;obtain⟨u,rfl,rx⟩:=wq r;cases rx;rcases h with ⟨hq,q⟩ | ⟨hq,q⟩
 ·obtain⟨its,r',pl,hz⟩:=I.list hq;have hlen:=r'.length;refine call_tuple_list pl.isList (λh' kp=>?_) (by erw[aj] <;> lia);have I1:Inv X AR σ H { s with heap:=h' }:=I.kept (t':=s.toks) kp
  have I2:Inv X AR σ (upd H h'.objs.size (.tup ys)) { s with heap:=h'.push { cls:=.type "tuple",data:=.seq its.toArray } } :=
   I1.laid (t':=s.toks) (λb o e=>ae _ e) (al _) (show ObjOk X.prog X.w _ _ _ (.tup ys)from #[hz,its,r',IsTup.new _ _])
  exact#[.ref h'.objs.size,_,I2,rfl,q _ (I1.hok.fresh (al _))]
 ·obtain⟨its,r',pl,hz⟩:=I.tuple hq;exact call_tuple_same pl #[.ref p,H,I,rfl,q]
def tyV(K:rW)(T:String)(x:V)(H:Hp):Prop:=match x with
 | .str _=>T="str"
 | .int _=>T="int"
 | .ref p=>(T="list"/\∃xs,SqL K H p xs)\/(T="tuple"/\∃o,K.lookup p=AM o/\o.cls=.type "tuple"/\o.dict=AN) \/
   (T="dict"/\((∃kvs,H p=AM (.dK kvs))\/∃kvs,H p=AM (.dT kvs)))\/(T="set"/\∃S n,H p=AM (.set S n))
 | _=>False
theorem zaa{AR:List (rX × sL)}{σ:St}{H:Hp}{s:rZ}{T:String}{x:V}{v:rY}(I:Inv X AR σ H s)(r:RelV x v)(ty:tyV X.K T x H) :
  s.TypeIs v T/\∀a,v=.ref a->∃ob,s.heap.get? a=AM ob/\ob.dict=AN:=by
 cases x with
 | str z =>
  obtain⟨t,rfl⟩:=r;cases (show T="str" from ty);exact#[typeIs_str s z t,λ_ e=>nomatch e]
 | int i =>
  obtain⟨t,rfl⟩:=r;cases (show T="int" from ty);exact#[typeIs_int s i t,λ_ e=>nomatch e]
 | ref p =>
  cases r;rcases ty with ⟨rfl,xs,hq⟩ | ⟨rfl,o,hk,hc,hd⟩ | ⟨rfl,hk⟩ | ⟨rfl,S,n,hk⟩
  ·obtain⟨its,_,pl,_⟩:=I.list hq;refine#[pl.isList.typeIs,λa e=>?_];cases e;obtain⟨o,n,e,c,hd,_⟩:=pl;exact#[o,e,hd]
  ·refine#[#[o,I.kIn p o hk,hc],λa e=>?_];cases e;exact#[o,I.kIn _ o hk,hd]
  ·have z:∃o,s.heap.get? p=AM o/\o.ExactDict:=by
    rcases hk with ⟨kvs,hk⟩ | ⟨kvs,hk⟩
    ·obtain⟨_,_,_,_,o,_,_,e,ex,_⟩:=I.hok p _ hk;exact#[o,e,ex]
    ·obtain⟨_,_,_,_,o,_,_,e,ex,_⟩:=I.hok p _ hk;exact#[o,e,ex]
   obtain⟨o,e,ex⟩:=z;refine#[#[o,e,ex.1],λa e2=>?_];cases e2;exact#[o,e,ex.2.1]
  ·obtain⟨o,_,_,_,e,ex,_⟩:=I.hok p _ hk;refine#[#[o,e,ex.1],λa e2=>?_];cases e2;exact#[o,e,ex.2.1]
 | _=>exact False.elim ty
def zd5(K:rW)(T:String)(r:V->List V->Hp->VK->Prop)(to:TE):TE:=λσ H Q=>to σ H λx H1=>tyV K T x H1/\r x [] H1 Q
def tBM(K:rW)(T:String)(r:V->List V->Hp->VK->Prop)(to:TE)(t:TA):TE:=λσ H Q=>to σ H λx H1=>tyV K T x H1/\t σ H1 λxs H2=>r x xs H2 Q
variable{o e:sr}{es:List sr}{to:TE}{t:TA}{name:sk}{apos cpos:tm}{T id:String}{r:V->List V->Hp->VK->Prop}
theorem zdt(pa:PlainAttrs T)(slot:Slot T name id)(hty:typeOf (.builtin id)=pure (.type "method_descriptor"))(hm:MtR X id r)(ho:PE X o to)
  (hbase:attributeBase o name X.env (eval o X.env)=eval o X.env:=by rfl) (hline:(apos.endLine == cpos.line)=AO:=by rfl):PE X (.Call (.Attribute o name apos) [] [] cpos) (zd5 X.K T r to):=by
 intro AR s σ H Q I h;refine wpAny_Call_method0_late hbase hline (thn (ho AR s σ H _ I h) λv s1 ⟨x,H1,I1,r1,ty,q1⟩=>?_);obtain⟨h1,h2⟩:=zaa I1 r1 ty;exact#[T,id,pa,slot,hty,h1,h2,Calls.callWith_builtin rfl (PySem.evalArgs_none (hm AR s1 σ H1 x [] v [] Q I1 r1 .nil q1))]
theorem vP(pa:PlainAttrs T)(slot:Slot T name id)(hty:typeOf (.builtin id)=pure (.type "method_descriptor"))(hm:MtR X id r)(ho:PE X o to)(ha:PA X (e::es) t)
  (hbase:attributeBase o name X.env (eval o X.env)=eval o X.env:=by rfl)
  (hfew:((sB cpos (rT (e::es) X.env)).all (λx=>!x.1) && (sP cpos (sy [] X.env)).all (λx=>x.1.isSome)
   && decide ((e::es).length+([]:List AG).length+(if ([]:List AG).isEmpty then 0 else 1)<30))=AO:=by rfl)
  (hline:(apos.endLine == cpos.line)=AO:=by rfl) (hs:rT (e::es) X.env=(AQ,eval e X.env)::rT es X.env:=by rfl) (hplain:(sB cpos (rT es X.env)).any (·.1)=AQ:=by rfl) :
  PE X (.Call (.Attribute o name apos) (e::es) [] cpos) (tBM X.K T r to t):=by
 intro AR s σ H Q I h;refine wpAny_Call_method_late hbase hfew hline rfl (thn (ho AR s σ H _ I h) λv s1 ⟨x,H1,I1,r1,ty,q1⟩=>?_);obtain⟨h1,h2⟩:=zaa I1 r1 ty;refine#[T,id,pa,slot,hty,h1,h2,?_];have hA:=ha cpos AR s1 σ H1 _ I1 q1;rw[hs]at hA ⊢;refine Calls.callWith_builtin (by show (AQ || (sB cpos (rT es X.env)).any (·.1))=AQ;rw[hplain] <;> rfl) (Calls.evalArgs_plain ?_);exact thn hA λus s2 ⟨vs,H2,I2,r2,q2⟩=>hm AR s2 σ H2 x vs v us Q I2 r1 r2 q2
/- xs.append(e),list.index on a module's tuple .. are MtR facts of 06m -/
end
end L2
namespace L2
def MtM(X:Cx)(id:String)(r:V->List V->Hp->VK->Prop):Prop :=
 ∀(AR:List (rX × sL)) (s:rZ) (σ:St) (H:Hp) (x:V) (xs:List V) (v:rY) (us:List rY) (Q:VK),Inv X AR σ H s->RelV x v->Vals xs us->r x xs H Q ->
  si (model X.prog X.w) X.A (call (.builtin id) (v::us)) (EP X AR σ Q) X.xe s
theorem Vals.one:∀{x:V} {us:List rY},Vals [x] us->∃u,us=[u]/\RelV x u
 | _,_,.cons r .nil=>#[_,rfl,r]
theorem Vals.two:∀{x y:V} {us:List rY},Vals [x,y] us->∃u v,us=[u,v]/\RelV x u/\RelV y v
 | _,_,_,.cons r (.cons q .nil)=>#[_,_,rfl,r,q]
theorem Vals.zero:∀{us:List rY},Vals [] us->us=[]
 | _,.nil=>rfl
theorem Vals.dropLast{xs:List V}{us:List rY}(h:Vals xs us):Vals xs.dropLast us.dropLast:=by
 induction h with
 | nil=>exact .nil
 | cons r t ih =>
  cases t with
  | nil=>exact .nil
  | cons q t'=>exact .cons r ih
theorem Vals.eraseIdx:∀{xs:List V} {us:List rY} (i:Nat),Vals xs us->Vals (xs.eraseIdx i) (us.eraseIdx i)
 | _,_,_,.nil=>.nil
 | _,_,0,.cons _ t=>t
 | _,_,i+1,.cons r t=>.cons r (Vals.eraseIdx i t)
theorem Vals.reverse{xs:List V}{us:List rY}(h:Vals xs us):Vals xs.reverse us.reverse:=by
 induction h with
 | nil=>exact .nil
 | cons r t ih=>rw[List.reverse_cons,List.reverse_cons];exact Vals.append ih (.cons r .nil)
theorem W7{α:Type}(l:List α):l.eraseIdx (l.length - 1)=l.dropLast:=by
 induction l with
 | nil=>rfl
 | cons a r ih =>
  cases r with
  | nil=>rfl
  | cons b r =>
   have e:(a::b::r).length - 1=((b::r).length - 1)+1:=by
    have h1:(a::b::r).length=r.length+2:=rfl;have h2:(b::r).length=r.length+1:=rfl;lia
   rw[e,List.eraseIdx_cons_succ,ih]
   all_goals rfl
section
variable{X:Cx}{AR:List (rX × sL)}{σ:St}{H:Hp}{s:rZ}{l b:rX}{xs ys zs:List V}
theorem Inv.lset{its its':List rY}{n:Nat}{f:Array rY->Array rY}{t':Nat}(I:Inv X AR σ H s)(hH:H l=AM (.lst xs))
  (e:s.heap.get? l=AM { cls:=.type "list",data:=.seq its.toArray n }) (hf:f its.toArray=its'.toArray) (hv:Vals ys its') (hz:ys.length<=rV) :
  Inv X AR σ (upd H l (.lst ys)) { s with heap:=s.heap.update l (Obj.mapSeq f),toks:=t' }:=by
 have q:=PySem.IsL.update e f;rw[hf]at q;refine I.write (x:=l) (e:=l) (by rw[hH];exact trivial) (.inl rfl) (λb' u hb hu=>(aD s.heap (Obj.mapSeq f) (Ne.symm hb)).trans hu) #[_,q] ?_;exact#[hz,its',_,hv,q]
theorem Inv.lnew{its:List rY}{t':Nat}(I:Inv X AR σ H s)(hv:Vals ys its)(hz:ys.length<=rV) :
  Inv X AR σ (upd H s⁻¹ (.lst ys)) { s with heap:=s.heap.push { cls:=.type "list",data:=.seq its.toArray },toks:=t' } :=
 I.laid (λ_ _ q=>ae _ q) (al _) #[hz,its,0,hv,az _ rfl]
theorem Inv.fresh(I:Inv X AR σ H s):H s⁻¹=AN:=I.hok.fresh (al _)
theorem Inv.lstM(I:Inv X AR σ H s)(hH:H l=AM (.lst xs)):xs.length<=rV/\∃(its:List rY) (n:Nat),Vals xs its/\xs.length=its.length/\s.heap.get? l=AM { cls:=.type "list",data:=.seq its.toArray n }:=by
 obtain⟨z,its,n,r,e⟩:=I.hok l _ hH;exact#[z,its,n,r,r.length,e]
theorem Jf{n:Nat}(h:n<=rV):Builtin.List.listTooLong n=AQ:=by
 unfold Builtin.List.listTooLong;exact decide_eq_false ⋯
end
section
variable{X:Cx}
def Q4:V->List V->Hp->VK->Prop:=λx vs H Q=>onRef x λl=>match vs with | [y]=>∃xs,H l=AM (.lst xs)/\xs.length<rV/\Q .non (upd H l (.lst (xs ++ [y]))) | _=>False
theorem yP:MtM X "list.append" Q4:=by
 intro AR s σ H x vs v us Q I rx rv h;obtain⟨l,rfl,h2⟩:=onRef.of h
 obtain⟨y,rfl,xs,hH,hz,q⟩:∃y,vs=[y]/\∃xs,H l=AM (.lst xs)/\xs.length<rV/\Q .non (upd H l (.lst (xs ++ [y]))):=by
  split at h2
  ·exact#[_,rfl,h2]
  ·exact h2.elim
 cases rx;obtain⟨u,rfl,ru⟩:=rv.one;obtain⟨z,its,n,r,hl,e⟩:=I.lstM hH;refine call_meets F.slot_list_append #[_,e,rfl] F.entry_list_append (F.args_list_append_2 _ _) (PySem.list_append l its.toArray n u (by rw[aj];lia)) #[e,?_];refine#[.non,_,I.lset (its':=its ++ [u]) hH e (by simp) (r.append (.cons ru .nil)) ?_,rfl,q];rw[ak,dz];lia
def UQ:V->List V->Hp->VK->Prop:=λx vs H Q=>∃l b xs zs,x=.ref l/\vs=[.ref b]/\H l=AM (.lst xs)/\H b=AM (.lst zs)/\xs.length+zs.length<=rV/\Q .non (upd H l (.lst (xs ++ zs)))
theorem Qx:MtM X "list.extend" UQ:=by
 intro AR s σ H x vs v us Q I rx rv h;obtain⟨l,b,xs,zs,rfl,rfl,hH,hB,hz,q⟩:=h;cases rx;obtain⟨u,rfl,ru⟩:=rv.one;cases ru;obtain⟨z,its,n,r,hl,e⟩:=I.lstM hH;obtain⟨z2,its2,n2,r2,hl2,e2⟩:=I.lstM hB;have hsz:its.toArray.size+its2.toArray.size<=rV:=by rw[aj,aj];lia
 have hlong:¬ (!its.toArray.isEmpty && Builtin.List.listTooLong (its.toArray.size+its2.toArray.size))=AO:=by
  rw[Jf hsz,dU];exact aw
 refine call_meets F.slot_list_extend #[_,e,rfl] F.entry_list_extend (F.args_list_extend_2 _ _)
  (AutoSeq1.list_extend_list_list_0 l its.toArray n b its2.toArray n2 hlong (by rw[aj];lia) ⋯) #[e,e2,?_]
 refine#[.non,_,I.lset (its':=its ++ its2) hH e (by simp) (r.append r2) ?_,rfl,q];rw[ak];lia
def zfV:V->List V->Hp->VK->Prop:=λx vs H Q=>∃l xs y,x=.ref l/\vs=[]/\H l=AM (.lst xs)/\xs[xs.length - 1]? = AM y/\Q y (upd H l (.lst xs.dropLast))
theorem zfz:MtM X "list.pop" zfV:=by
 intro AR s σ H x vs v us Q I rx rv h;obtain⟨l,xs,y,rfl,rfl,hH,hy,q⟩:=h;cases rx;have hus:=rv.zero;subst hus;obtain⟨z,its,n,r,hl,e⟩:=I.lstM hH;obtain⟨u,hu,ru⟩:=r.get hy
 have hy':its.toArray[its.toArray.size - 1]? = AM u:=by
  show its.toArray[its.length - 1]? = AM u;rw[<- Array.getElem?_toList,<- hl];exact hu
 refine call_meets F.slot_list_pop #[_,e,rfl] F.entry_list_pop (F.args_list_pop_1 _) (MeetsSeq.list_pop_last l its.toArray n u hy' (by rw[aj];lia)) #[e,?_];refine#[y,_,I.lset (its':=its.dropLast) hH e ?_ r.dropLast ?_,ru,q]
 ·show its.toArray.eraseIdxIfInBounds (its.toArray.size - 1)=its.dropLast.toArray;rw[aj,List.eraseIdxIfInBounds_toArray,W7]
 ·rw[fm];lia
def XQ:V->List V->Hp->VK->Prop:=λx vs H Q=>∃l xs,x=.ref l/\vs=[]/\H l=AM (.lst xs)/\Q .non (upd H l (.lst xs.reverse))
theorem Vp:MtM X "list.reverse" XQ:=by
 intro AR s σ H x vs v us Q I rx rv h;obtain⟨l,xs,rfl,rfl,hH,q⟩:=h;cases rx;have hus:=rv.zero;subst hus;obtain⟨z,its,n,r,hl,e⟩:=I.lstM hH;refine call_meets F.slot_list_reverse #[_,e,rfl] F.entry_list_reverse (F.args_list_reverse_1 _) (AutoSeq1.list_reverse_list_0 l its.toArray n (by rw[aj];lia)) #[e,?_];refine#[.non,_,I.lset (its':=its.reverse) hH e (by simp) r.reverse ?_,rfl,q];rw[cI];lia
def zcu:R2:=λx y H Q=>onRef x λl=>onRef y λb=>∃xs,H l=AM (.lst xs)/\∃zs,H b=AM (.lst zs)/\xs.length+zs.length<=rV/\∀p,H p=AN->Q (.ref p) (upd H p (.lst (xs ++ zs)))
theorem XR:OpR X (binaryOp .Add) zcu:=by
 intro AR s σ H x y v u Q I rx ry h;obtain⟨l,rfl,h2⟩:=onRef.of h;obtain⟨b,rfl,xs,hH,zs,hB,hz,q⟩:=onRef.of h2;cases rx;cases ry;obtain⟨z,its,n,r,hl,e⟩:=I.lstM hH;obtain⟨z2,its2,n2,r2,hl2,e2⟩:=I.lstM hB;refine PySem.P.add_list e e2 ?_ (by rw[aj,aj];lia);have ea:its.toArray ++ its2.toArray=(its ++ its2).toArray:=by simp
 rw[ea];exact#[.ref _,_,I.lnew (t':=s.toks) (r.append r2) (by rw[ak];lia),rfl,q _ I.fresh]
theorem len_rep{α:Type}(xs:List α)(k:Nat):(aU k xs).flatten.length=k * xs.length:=by
 induction k with
 | zero=>simp
 | succ k ih=>rw[cq,ci,ak,ih,eC,Nat.add_comm]
end
section
variable{prog:sj}{w:so}{A:sq}{E:rY->rZ->Prop}{s:rZ}
end
section
variable{X:Cx}
end
end L2
namespace Att
open PySem PySem.W PySem.Calls PyProof.Rows
theorem ji{P:Params}{h:su}:∀(ns:List Int) (vs:List rY),WellAll P h vs (ns.map WData.int)->Az vs ns:=by
 intro ns
 induction ns with
 | nil =>
  intro vs w;rw[aI]at w;cases w;exact .nil
 | cons n ns ih =>
  intro vs w;rw[ao]at w
  cases w with
  | cons a b =>
   cases a;exact .cons _ _ (ih _ b)
theorem script_of{l:OpenLaw}{n:Nat}(hn:l.most=AM n){P:Params}{h:su}{args:List WData}{vals:List rY}
  (hpre:l.row.toRowW.claim.pre args=AO) (hwl:WellAll P h vals args) :
  ∃a vs ns,vals=[Value.ref a]/\args=[WData.list (ns.map WData.int)]/\h.get? a=AM { cls:=.type "list",data:=.seq vs.toArray }/\Az vs ns/\ns.length<=n:=by
 have hsh:WShape.hasAll [] args [.list .int]=AO:=(pre_splitW hpre).1;have hc:l.pre.holds [] { args:=args }=AO:=(pre_splitW hpre).2;obtain⟨d,r,rfl,h1,h2⟩:=hasAllW_cons hsh;obtain rfl:=hasAllW_nil h2;obtain⟨xs,rfl,h3⟩:=hasW_list h1;obtain⟨ns,rfl⟩:=items_int h3
 have hlen:ns.length<=n:=by
  unfold OpenLaw.pre at hc
  have h4:(WTm.not (.lt (.lit (.int (n:Int))) (.len (.arg 0)))).holds [] { args:=[.list (ns.map .int)] }=AO:=by
   have h4:=(holds_andW hc).1;rw[hn]at h4;exact h4
  have h5:=condW_of h4 (w_not (w_lt w_lit (w_len_list (w_arg rfl))));rw[ac]at h5;refine cF λq=>?_;have q':(n:Int)<((ns.length:Nat):Int):=⋯
  first
   | (rw[decide_eq_true q']at h5;exact absurd h5 ∅)
   | (simp at h5;lia)
 cases hwl with
 | cons w1 w2 =>
  cases w2
  cases w1 with
  | list ho hall=>exact#[_,_,ns,rfl,rfl,ho,ji ns _ hall,hlen]
theorem post_true(l:OpenLaw)(args:List WData):l.row.toRowW.claim.post args (.bool AO) args=AO :=
 postW_of (r:=l.row.toRowW) (X:=(AO == AO))
  (show WShape.has [] (.bool AO) .bool=AO by first | rfl | decide | simp [WShape.has,WShape.arms,WShape.armsAll])
  (show (WTm.eq .res (.lit (.bool AO))).value [] { args:=args,res:=AM (.bool AO),after:=args }=AM (.bool (AO == AO))from w_eq_bool (w_res rfl) w_lit) rfl
section
variable{prog:sj}{w:so}{A:sq}{E:rY->rZ->Prop}{s:rZ}{K:Frag}
noncomputable def zfI(h:su)(L d:rX):List (rX × sL):=(aH h.objs.size).filterMap λa=>if a=L\/a=d then AN else (h.get? a).map λo=>(a,o)
end
end Att
namespace L2
theorem YE:∀{vs:List rY} {ns:List Int},Az vs ns->Vals (ns.map V.int) vs
 | _,_,.nil=>.nil
 | _,_,.cons n t h=>.cons #[t,rfl] (YE h)
end L2
namespace L2
end L2
namespace L2
noncomputable def yl(s:sv)(j:Nat):sv:=match s with
 | .ClassDef _ _ _ body _ _ _ _ _ _ _=>body.getD j (.Pass #[0,0,0,0])
 | _=>.Pass #[0,0,0,0]
noncomputable def yA(s:sv):tJ:=match s with
 | .FunctionDef _ a _ _ _ _ _ _ _ _=>a
 | _=>{ posonlyargs:=[],args:=[],vararg:=AN,kwonlyargs:=[],kw_defaults:=[],kwarg:=AN,defaults:=[] }
noncomputable def yc(s:sv):List sv:=match s with
 | .FunctionDef _ _ b _ _ _ _ _ _ _=>b
 | _=>[]
noncomputable def zh(s:sv):sU:=match s with
 | .FunctionDef _ _ _ _ _ _ sc _ _ _=>sc
 | _=>{ kind:=.function,names:=[],isGenerator:=AQ,isCoroutine:=AQ }
abbrev CX0:CXT:=λ_ _ _ _ _ _=>False
noncomputable abbrev E0:XK:=λ_ _ _=>False
theorem Xe{X:Cx}:uY CX0 X E0:=λ_ _ _ _ _ _ _ h=>h.elim
structure Fun(K:rW)(x qual:sk)(st:sv)(f:rX)(fd:sf):Prop where
 ex:∃(oc:rY) (od:Option rX) (kV doc pm:rY) (an:Option rX) (cdv ct:rY) (osl:Array (Option rY)),
  fd=bj x qual (yA st) (yc st) (zh st) .none kV doc pm an cdv ct/\K.lookup f=AM #[oc,od,.func fd,osl]/\bN K cdv qual=AO
 kp:aF K (.ref f)=AO
section
variable{P:sj}{w:so}{K:rW}{mg:sk->Option rY}{base:su}
theorem Fun.ok{x qual:sk}{st:sv}{f:rX}{fd:sf}{N ps:List sk}{k:Nat}{sp:Sp}(F:Fun K x qual st f fd)(S:zk N ps (zh st))(len:∀vs H Q E,sp vs H Q E->vs.length=ps.length)
  (hbody:∀(cdv:rY) (A:sq) (outer:List Ad) (s:rZ) (H:Hp) (vs:List V) (Q:VK) (E:XK),Room k (A.deeper (tR qual (zh st) s⁻¹ f cdv))->sp vs H Q E ->
   ∃t,PSs (qt CX0 P w K mg base N qual (zh st) f cdv A outer s H E).nox (yc st) t/\t { nx:=λ_ H'=>Q .non H',rt:=Q } (start N vs) H):zQ P w K mg base CX0 (k+1) f fd ps sp:=by
 obtain⟨oc,od,kV,doc,pm,an,cdv,ct,osl,rfl,lk,hcd⟩:=F.ex;refine JV lk hcd S len λA outer s H vs Q E hr hsp=>?_;obtain⟨t,h,q⟩:=hbody cdv A outer s H vs Q E hr hsp;exact#[t,h.nox,q]
theorem Fun.binds{x qual:sk}{st:sv}{f:rX}{fd:sf}{ps:List sk}(F:Fun K x qual st f fd)
  (h:∀(kV doc pm:rY) (an:Option rX) (cdv ct:rY) (us:List rY),us.length=ps.length->bindArgs (bj x qual (yA st) (yc st) (zh st) .none kV doc pm an cdv ct) #[us,[]]=pure (ps.zip us)):Binds K fd ps []:=by
 obtain⟨oc,od,kV,doc,pm,an,cdv,ct,osl,rfl,lk,hcd⟩:=F.ex;exact .all (h kV doc pm an cdv ct)
theorem fun_mk{x qual:sk}{st:sv}{f:rX}{oc:rY}{od an:Option rX}{osl:Array (Option rY)}{kV doc pm cdv ct:rY}(l:K.lookup f=AM #[oc,od,.func (bj x qual (yA st) (yc st) (zh st) .none kV doc pm an cdv ct),osl])
  (c:bN K cdv qual=AO) (k:aF K (.ref f)=AO):Fun K x qual st f (bj x qual (yA st) (yc st) (zh st) .none kV doc pm an cdv ct):=#[#[oc,od,kV,doc,pm,an,cdv,ct,osl,rfl,l,c],k]
end
section
variable{X:Cx}
theorem pv(i:Nat){x:sk}{pos:tm}(hN:X.N[i]? = AM x:=by rfl)(hv:Vis X.env.scope x:=by first | exact Or.inl rfl | exact Or.inr (.inl rfl) | exact Or.inr (Or.inr rfl))(hd:(x ==("__debug__" : sk))=AQ:=by decide)
  (hcd:(x ==("__classdict__" : sk))=AQ:=by decide):PE X (.Name x pos) (yj i):=zdZ hN hv hd hcd
end
theorem zeX{A B:Prop}(h:A):if AO=AO then A else B:=by
 rw[if_pos rfl];exact h
theorem yo{c A B:Prop}[Decidable c](h1:c->A)(h2:¬ c->B):if c then A else B:=by
 by_cases h:c
 ·rw[if_pos h];exact h1 h
 ·rw[if_neg h];exact h2 h
def Same(H H':Hp):Prop:=∀b o,H b=AM o->H' b=AM o
theorem Same.refl(H:Hp):Same H H:=λ_ _ h=>h
theorem Same.trans{H H1 H2:Hp}(a:Same H H1)(b:Same H1 H2):Same H H2:=λc o h=>b c o (a c o h)
theorem Same.free{H H':Hp}(e:Same H H'){l:rX}(h:H' l=Option.none):H l=Option.none:=by
 cases q:H l with
 | none=>rfl
 | some o =>
  rw[e l o q]at h;cases h
theorem Same.seq{K:rW}{H H':Hp}{a:rX}{xs:List V}(e:Same H H')(h:SqL K H a xs):SqL K H' a xs:=by
 rcases h with (h | ⟨o,h⟩) | h
 ·exact .inl (.inl (e _ _ h))
 ·exact .inl (.inr #[o,e _ _ h])
 ·exact .inr h
end L2
open L2
namespace L3
noncomputable abbrev St:=L2.St
noncomputable abbrev cs(x:sk):List Nat:=x.cps.toList
noncomputable abbrev tx(l:List Nat):sk:=⟨l.toArray⟩
theorem zdq(x:sk):tx (cs x)=x:=by cases x;rfl
theorem Xs(l:List Nat):cs (tx l)=l:=rfl
theorem Wz(x:sk):x.length=(cs x).length:=by simp [Str.length,cs]
theorem z6(l:List Nat):(tx l).length=l.length:=by simp [Str.length,tx]
theorem Yd{x y:sk}(h:cs x=cs y):x=y:=by rw[<- zdq x,<- zdq y,h]
theorem uT{l m:List Nat}(h:tx l=tx m):l=m:=by rw[<- Xs l,<- Xs m,h]
theorem zdK{l m:List Nat}:tx l=tx m ↔ l=m:=#[uT,λh=>by rw[h]]
theorem ju(l m:List Nat):tx l ++ tx m=tx (l ++ m):=by
 apply Yd;show (tx l ++ tx m).cps.toList=l ++ m;rw[Str.cps_append];simp
noncomputable def cut{α:Type}(l:List α)(lo hi:Option Int):List α:=(l.drop (HT.sIx l.length 0 lo)).take (HT.sIx l.length l.length hi - HT.sIx l.length 0 lo)
theorem uK{α:Type}(l:List α)(lo hi:Option Int):(cut l lo hi).length<=l.length:=by
 unfold cut;rw[aJ,bn];lia
theorem Uf(a b:Nat):sliceRange (a:Int) (b:Int) 1=(aH (b - a)).map (λk=>a+k):=by
 unfold sliceRange
 have e:(if (1:Int) > 0 then (if (a:Int)<b then ((b:Int) - a+1 - 1) / 1 else 0)else (if (a:Int) > b then ((a:Int) - b - 1 - 1) / (-1)else 0)).toNat=b - a:=by
  rw[if_pos ∅];by_cases h:(a:Int)<b
  ·rw[if_pos h,Int.ediv_one];lia
  ·rw[if_neg h];lia
 show (aH ((if (1:Int) > 0 then (if (a:Int)<b then ((b:Int) - a+1 - 1) / 1 else 0)else (if (a:Int) > b then ((a:Int) - b - 1 - 1) / (-1)else 0)).toNat)).map _=_;rw[e];refine cr λk _=>?_;lia
theorem zaU(lo hi:Option Int)(n:Nat):Builtin.Str.strSliceIndices lo hi 1 n=(aH (HT.sIx n n hi - HT.sIx n 0 lo)).map (λk=>HT.sIx n 0 lo+k):=by
 rw[<- Uf]
 have clip:∀(v:Int) (d:Nat),max 0 (min (if v<0 then v+(n:Int)else v) (n:Int))=((HT.sIx n d (AM v):Nat):Int):=λv d=>by
  show _=(((if v<0 then (v+(n:Int)).toNat else min v.toNat n):Nat):Int);by_cases hv:v<0
  ·erw[if_pos hv];lia
  ·erw[if_neg hv];lia
 have h1:((1:Int) > 0)=True:=by simp
 unfold Builtin.Str.strSliceIndices
 cases lo with
 | none =>
  cases hi with
  | none=>erw[h1,if_true];rfl
  | some j=>erw[h1,if_true,clip j n];rfl
 | some i =>
  cases hi with
  | none=>erw[h1,if_true,clip i 0];rfl
  | some j=>erw[h1,if_true,clip i 0,clip j n]
theorem UZ(x:sk)(lo hi:Option Int):Txt.slice x lo hi=tx (cut (cs x) lo hi):=by
 have hn:x.length=x.cps.toList.length:=Wz x;have hj:HT.sIx x.length x.length hi<=x.length:=HT.sIx_le _ _ (al _) hi;have hi0:HT.sIx x.length 0 lo<=x.length:=HT.sIx_le _ _ (aE _) lo;unfold Txt.slice;rw[zaU];split
 ·rename_i h;have h':HT.sIx x.length x.length hi - HT.sIx x.length 0 lo=x.length:=by simpa using h
  apply Yd;show x.cps.toList=cut x.cps.toList lo hi;unfold cut;rw[<- hn];by_cases z:x.length=0
  ·have:x.cps.toList=[]:=cQ ⋯;rw[this];simp
  ·have e0:HT.sIx x.length 0 lo=0:=⋯;rw[e0]at h' ⊢;rw[h',dW,hn,aP]
 ·apply Yd;have h:=StrLaws.picks x.cps.toList (HT.sIx x.length x.length hi - HT.sIx x.length 0 lo) (HT.sIx x.length 0 lo) ⋯;show (List.filterMap (λk=>x.cps[k]?) _).toArray.toList=cut x.cps.toList lo hi;unfold cut;rw[<- hn];simpa using h
section
variable{X:Cx}
theorem Qn{v:rY}{o:Option Int}(p:IsPart v o):∃l:Option (Int × tT),v=partValue l/\l.map (·.1)=o:=by
 cases p with
 | none=>exact#[AN,rfl,rfl]
 | int i t=>exact#[AM (i,t),rfl,rfl]
def zc9:V->Option Int->Option Int->Hp->VK->Prop:=λx lo hi H Q=>onStr x λz=>z.length<=rV/\Q (.str (tx (cut (cs z) lo hi))) H
theorem u8:SlR X zc9:=by
 intro AR s σ H x v vl vu lo hi sl Q I rx hs pl pu h;obtain⟨z,rfl,hz,q⟩:=onStr.of h;obtain⟨t,rfl⟩:=rx;obtain⟨l,rfl,el⟩:=Qn pl;obtain⟨u,rfl,eu⟩:=Qn pu;refine#["str",_,slot_str_getitem.lookup,typeIs_str s z t,?_];refine tW (l:=l) (u:=u) (st:=AN) hs rfl ?_;have e:Txt.slice z lo hi=tx (cut (cs z) lo hi):=UZ z lo hi;have hl:(tx (cut (cs z) lo hi)).length<=rV:=by rw[z6];have:=uK (cs z) lo hi;rw[<- Wz]at this;lia
 unfold sliceMade slicePicked;rw[el,eu];unfold Txt.slice at e;by_cases hc:((1:Int) == 1 && (Builtin.Str.strSliceIndices lo hi 1 z.length).length == z.length)=AO
 ·rw[if_pos hc]at e;have hc':(((AN:Option (Int × tT)).map (·.1)).getD 1 == 1 && (Builtin.Str.strSliceIndices lo hi (((AN:Option (Int × tT)).map (·.1)).getD 1) z.length).length == z.length)=AO:=hc;rw[if_pos hc'];exact#[.str (tx (cut (cs z) lo hi)),H,I,#[t,by rw[<- e]],q]
 ·rw[if_neg hc]at e;have hc':¬ (((AN:Option (Int × tT)).map (·.1)).getD 1 == 1 && (Builtin.Str.strSliceIndices lo hi (((AN:Option (Int × tT)).map (·.1)).getD 1) z.length).length == z.length)=AO:=hc;rw[if_neg hc'];show (Str.mk ((Builtin.Str.strSliceIndices lo hi 1 z.length).filterMap (z.cps[·]?)).toArray).length<=rV/\_;rw[e];refine#[hl,?_]
  exact#[.str (tx (cut (cs z) lo hi)),H,I.tok _,#[_,by
   show Value.str (Str.mk ((Builtin.Str.strSliceIndices lo hi 1 z.length).filterMap (z.cps[·]?)).toArray) _=_
   rw[e]],q]
theorem Wr(l:List Nat):∀(k:Nat) (AT:Array Nat),((aU k l.toArray).foldl (· ++ ·) AT).toList=AT.toList ++ (aU k l).flatten
 | 0,AT=>by simp
 | k+1,AT=>by
  rw[cq,List.foldl_cons,Wr l k,cq,ci];simp
theorem WZ:OpR X (binaryOp .Mult) (λx y H Q=>∃z n,x=.str z/\y=.int n/\0<=n/\n<=1000/\z.length<=1000/\Q (.str (tx (aU n.toNat (cs z)).flatten)) H):=by
 intro AR s σ H x y v u Q I rx ry h;obtain⟨z,n,rfl,rfl,h0,h1,hz,q⟩:=h;obtain⟨t,rfl⟩:=rx;obtain⟨t',rfl⟩:=ry;have hs:rV=16777216:=sK;have hmul:z.length * n.toNat<=1000 * 1000:=e7 hz ⋯;have fl:((aU n.toNat (cs z)).flatten).length=n.toNat * z.length:=by rw[L2.len_rep,<- Wz]
 refine PySem.P.mul_str ?_ (λ_ _=>?_) (λ_ _=>?_) ?_
 ·rw[decide_eq_false ⋯,decide_eq_false ⋯];rfl
 ·have:(1000:Int)<=(2 ^ 63 - 1) / n:=by
   apply Int.le_ediv_of_mul_le ⋯;lia
  lia
 ·unfold Builtin.Str.tooLong;exact decide_eq_false ⋯
 ·by_cases c1:n<1
  ·rw[if_pos c1];have e:n.toNat=0:=⋯;rw[e]at q;exact#[∅,.str (tx []),H,I.tok _,#[_,rfl],q]
  ·rw[if_neg c1];by_cases c2:(n == 1 || z.length == 0)=AO
   ·rw[if_pos c2]
    have e:tx (aU n.toNat (cs z)).flatten=z:=by
     rw[Bool.or_eq_true]at c2;rcases c2 with c | c
     ·have:n.toNat=1:=by have:=eq_of_beq c;lia
      rw[this]
      erw[List.replicate_one,eU]
     ·have c0:z.length=0:=eq_of_beq c;have:cs z=[]:=cQ (by rw[<- Wz];exact c0);apply Yd;rw[this];show (aU n.toNat ([]:List Nat)).flatten=[]
      erw[List.flatten_replicate_nil]
    rw[e]at q;exact#[.str z,H,I,#[_,rfl],q]
   ·rw[if_neg c2]
    have e:(⟨(aU n.toNat z.cps).foldl (· ++ ·) #[]⟩:sk)=tx (aU n.toNat (cs z)).flatten:=by
     apply Yd;have:=Wr (cs z) n.toNat #[];have e2:(cs z).toArray=z.cps:=by cases z;rfl
     rw[e2]at this;show (List.foldl (· ++ ·) #[] (aU n.toNat z.cps)).toList=(aU n.toNat (cs z)).flatten;rw[this];rfl
    rw[e];refine#[by rw[z6,fl,eD];lia,.str _,H,I.tok _,#[_,rfl],q]
theorem Q0:OpR X (sw .LtE) (λx y H Q=>∃i j,x=.str i/\y=.str j/\Q (.bl (!(decide (cs j<cs i)))) H):=by
 intro AR s σ H x y v u Q I rx ry h;obtain⟨i,j,rfl,rfl,q⟩:=h;obtain⟨t,rfl⟩:=rx;obtain⟨t',rfl⟩:=ry;exact PySem.P.le_str #[.bl _,H,I,rfl,q]
theorem op_lt_str':OpR X (sw .Lt) (λx y H Q=>∃i j,x=.str i/\y=.str j/\Q (.bl (decide (cs i<cs j))) H):=V2
theorem J0:MtR X "str.count" (λx xs H Q=>∃z y,x=.str z/\xs=[.str y]/\Q (.int (Txt.count z y)) H):=by
 intro AR s σ H x xs v us Q I rx rv h;obtain⟨z,y,rfl,rfl,q⟩:=h;obtain⟨t,rfl⟩:=rx;obtain⟨u,rfl,t',rfl⟩:=wq rv;exact PySem.SC.count #[.int _,H,I.tok _,#[_,rfl],q]
theorem zbH:MtR X "str.find" (λx xs H Q=>∃z y,x=.str z/\xs=[.str y]/\Q (.int (Txt.find z y)) H):=by
 intro AR s σ H x xs v us Q I rx rv h;obtain⟨z,y,rfl,rfl,q⟩:=h;obtain⟨t,rfl⟩:=rx;obtain⟨u,rfl,t',rfl⟩:=wq rv;exact PySem.SC.find #[.int _,H,I.tok _,#[_,rfl],q]
end
end L3
namespace L3
section
variable{X:Cx}{AR:List (rX × sL)}{σ:St}{H:Hp}{s:rZ}{fp:List rX}{h':su}{t':Nat}
theorem Inv.turns(I:Inv X AR σ H s)(k:∀b o,b ∉ fp->s.heap.get? b=AM o->h'.get? b=AM o)(hf:∀b ∈ fp,wj X AR H b):Inv X AR σ H { s with heap:=h',toks:=t' }:=by
 have nit:∀b u,H b=AM u->b ∉ fp:=λb u e z=>by rw[(hf b z).1]at e;cases e
 refine I.step (g':=s.gens) (d':=s.drawn) (ch:=fp) (λb hb=>?_) (λb o _ _ hc e _=>k b o hc e) (λb o _ _ hc e _=>#[o.slots,k b o hc e]) (λ_ _ _ _ n=>n)
  (λb o hc e=>#[o,k b o hc e]) (λ_ _ e=>e) (λ_ _ _ e=>e) (λb ps e=>#[#[],by rw[e];simp]) (λm hm=>?_) (λb u e=>?_) I.bare
 ·obtain⟨_,a1,_,a3,a4,a5⟩:=hf b hb;exact#[a3,a1,a4,a5]
 ·obtain⟨o,es,ep,ho,r⟩:=hm;exact#[o,es,ep,k _ o (λz=>(hf _ z).2.1 rfl) ho,r]
 ·refine (I.hok b u e).stay (λc v hc q=>k c v ?_ q) (λ_ q=>q) λ_ _ q=>q;rcases hc with z | z
  ·rw[z];exact nit b u e
  ·exact nit c _ z
theorem Inv.track{a:rX}{o:HO}(I:Inv X AR σ H s)(fa:wj X AR H a)(new:ObjOk X.prog X.w (upd H a o) s.heap a o):Inv X AR σ (upd H a o) s:=by
 obtain⟨a0,a1,a2,a3,a4,a5⟩:=fa;have e:s={ s with heap:=s.heap,gens:=s.gens,drawn:=s.drawn,toks:=s.toks }:=rfl;rw[e]
 refine I.step (g':=s.gens) (d':=s.drawn) (ch:=[a]) (λb hb=>?_) (λb o _ _ _ e _=>e) (λb o _ _ _ e _=>#[o.slots,e]) (λb o hc _ n=>?_)
  (λb o _ e=>#[o,e]) (λb xs e=>?_) (λb u xs e=>?_) (λb ps e=>?_) (λm hm=>hm) (λb u e=>?_) I.bare
 ·have eb:b=a:=by simpa using hb
  subst eb;exact#[a3,a1,a4,a5]
 ·rw[zm (by simpa using hc)];exact n
 ·rw[zm (zF e a0)];exact e
 ·rw[zm (zF e a0)];exact e
 ·exact#[#[],by rw[zm (zF e a0),e];simp]
 ·by_cases hb:b=a
  ·subst hb;rw[ze]at e;cases e;exact new
  ·rw[zm hb]at e;exact (I.hok b u e).stay (λc v _ q=>q) (λc q=>by rw[zm (zF q a0)];exact q) λc xs q=>by rw[zm (zF q a0)];exact q
end
noncomputable def Its(x:sk):It:=#[λi _=>i<(cs x).length,λi H v H'=>H'=H/\∃c,(cs x)[i]? = AM c/\v=.str (tx [c]),λi _=>i=(cs x).length]
theorem JG{P:sj}{w:so}{K:rW}{tg:sr}{ty:String}(hty:["enumerate","zip","dict_itemiterator","dict_reverseitemiterator","odict_iterator","itertools.zip_longest","itertools.pairwise"].contains ty=AQ)(it:rX)(x:sk)(t:tT)
  (W:∀A:sq,A.handled=AN->Walks P w A it [it] [it] x.cps.size (SignAt x) λi h=>h.IsStrIter it ty x t i)
  (S:∀(A:sq) (i:Nat) (s:rZ) (Q:rY->rZ->Prop) (E:rY->rZ->Prop),s.heap.IsStrIter it ty x t i->Q (.ref it) s->si (model P w) A (pyIter (.ref it)) Q E s) :
  JP P w K tg (Its x) [it] it (λi h=>h.IsStrIter it ty x t i) where
 mem:=by simp
 obj:=λi h st b hb=>by
  have e:b=it:=by simpa using hb
  subst e;obtain⟨o,e,c,d⟩:=st;exact#[o,e,λv z=>by rw[d]at z;cases z]
 keep:=λi h h' st k=>let #[o,e,r]:=st; #[o,k it (by simp) o e,r]
 item:=by
  intro X hP hw hK hc i AR s σ H E I hf st hg;subst hP hw hK;obtain⟨f0,f1,f2,f3,f4,f5⟩:=hf it (by simp);have hg':i<x.cps.size:=by have:i<x.cps.toList.length:=hg;simpa using this
  refine (W X.A (I.ok.hd hc)).item i s _ _ hg' st λv h' tk hv st' kk=>?_;obtain⟨c,u,hcc,rfl⟩:=hv;have I1:Inv X AR σ H { s with heap:=h',toks:=tk }:=I.turned (λb o hb e=>kk b o (by simpa using hb) e) f0 f1 f3 f4 f5;obtain⟨o,e,cl,d⟩:=id st';refine#[_,rfl,QT (s:={ s with heap:=h',toks:=tk }) e cl d hty #[.str (tx [c]),H,I1,#[u,rfl],#[rfl,c,?_,rfl],st',λb hb=>(hf b hb).1]];show x.cps.toList[i]? = AM c;simpa using hcc
 done:=by
  intro X hP hw hK hc i AR s σ H E I hf st hg;subst hP hw hK;obtain⟨f0,f1,f2,f3,f4,f5⟩:=hf it (by simp);have hi:i=x.cps.size:=by have:i=x.cps.toList.length:=hg;simpa using this
  rw[hi]at st;exact (W X.A (I.ok.hd hc)).done s _ _ st λh' tk kk=>#[rfl,I.turned (λb o hb e=>kk b o (by simpa using hb) e) f0 f1 f3 f4 f5]
 self:=λA i s Q E st h=>S A i s Q E st h
section
variable{X:Cx}{tg:sr}
def zeC(tl:TE):TI:=λσ H R=>tl σ H λv H1=>∃x,v=.str x/\R (Its x) H1
theorem WM{l:sr}{tl:TE}(hl:PE X l tl):PI X tg l (zeC tl):=by
 intro AR s σ H R I h;refine thn (hl AR s σ H _ I h) λv s1 ⟨y,H1,I1,r1,q1⟩=>?_;obtain⟨x,e,q⟩:=q1;subst e;obtain⟨t,rfl⟩:=r1
 have fin:∀(ty:String) (hty:["enumerate","zip","dict_itemiterator","dict_reverseitemiterator","odict_iterator","itertools.zip_longest","itertools.pairwise"].contains ty=AQ)
   (W:∀A:sq,A.handled=AN->Walks X.prog X.w A s1⁻¹ [s1⁻¹] [s1⁻¹] x.cps.size (SignAt x) λi h=>h.IsStrIter s1⁻¹ ty x t i)
   (S:∀(A:sq) (i:Nat) (s:rZ) (Q:rY->rZ->Prop) (E:rY->rZ->Prop),s.heap.IsStrIter s1⁻¹ ty x t i->Q (.ref s1⁻¹) s->si (model X.prog X.w) A (pyIter (.ref s1⁻¹)) Q E s),
   PIE X AR σ tg R (.ref s1⁻¹) { s1 with heap:=s1.heap.push { cls:=.type ty,data:=.fields (List.toArray [.str x t,.int 0 0]) } }:=λty hty W S=>by
  refine#[s1⁻¹,[s1⁻¹],_,_,H1,rfl,I1.kept (t':=s1.toks) λb o e=>ae _ e,JG hty _ x t W S,#[_,az _ rfl,rfl,rfl],λb hb=>?_,q];have e:b=s1⁻¹:=by simpa using hb
  subst e;exact I1.fpOk (al _) (I1.hok.fresh (al _))
 cases ha:x.cps.all (· < 128)
 ·exact wpAny_pyIter_wide ha (fin "str_iterator" ∅ (λA hA=>Walks.strWide hA _ x t) λA i s Q E st h=>wpAny_pyIter_striter_wide st h)
 ·exact wpAny_pyIter_ascii ha (fin "str_ascii_iterator" ∅ (λA hA=>Walks.strAscii hA _ x t) λA i s Q E st h=>wpAny_pyIter_striter_ascii st h)
end
theorem zbW{x:sk}{g:TG}{tb:TS}{D:vN}{σ:St}{H:Hp}(Pv:Nat->St->Hp->Prop)(h0:Pv 0 σ H)
  (hs:∀i c σ H,(cs x)[i]? = AM c->Pv i σ H->g (.str (tx [c])) σ H λσ2 H2=>tb { D with nx:=Pv (i+1),ct:=Pv (i+1),bk:=D.nx } σ2 H2) (hd:∀σ H,Pv (cs x).length σ H->D.nx σ H) :
  ∃W:Nat->Nat->St->Hp->Prop,(∃m,W 0 m σ H)/\∀i m σ H,W i m σ H ->
   ((Its x).stop i H/\D.nx σ H)\/((Its x).go i H/\∃N:St->Hp->Prop,(∀σ' H',N σ' H'->∃m',m'<m/\W (i+1) m' σ' H')/\∀v H',(Its x).yld i H v H'->g v σ H' λσ2 H2=>tb { D with nx:=N,ct:=N,bk:=D.nx } σ2 H2):=by
 refine#[λi m σ H=>m=(cs x).length - i/\i<=(cs x).length/\Pv i σ H,#[(cs x).length,by simp,aE _,h0],?_];rintro i m σ H ⟨rfl,hi,p⟩;by_cases hlt:i<(cs x).length
 ·refine .inr #[hlt,Pv (i+1),λσ' H' p'=>#[(cs x).length - (i+1),⋯,rfl,hlt,p'],λv H' y=>?_];obtain⟨e,c,hc,ev⟩:=y;subst e ev;exact hs i c σ _ hc p
 ·have e:i=(cs x).length:=⋯;subst e;exact .inl #[rfl,hd σ H p]
noncomputable def Ite(x:sk):It:=#[λi _=>i<(cs x).length,λi H v H'=>∃p c,H p=AN/\(cs x)[i]? = AM c/\v=.ref p/\H'=upd H p (.tup [.int (i:Nat),.str (tx [c])]),λi _=>i=(cs x).length]
section
variable{X:Cx}
def zfg(ta:TA):TI:=λσ H R=>ta σ H λvs H1=>∃x,vs=[.str x]/\R (Ite x) H1
end
end L3
namespace L3
theorem uw{env:Ad}:∀(names:List (sk × tQ)) (AT:List (sk × rX)),
    (∀y,(y,NameKind.free) ∈ names->∃c,env.cells.lookup y=AM c)->(∀y c,AT.lookup y=AM c->env.cells.lookup y=AM c) ->
    ∃cl,(forIn names AT λ(x:sk × tQ) (cs:List (sk × rX))=>if (x.2 == NameKind.free)=AO then (do let a <- cellOf env x.1;pure (ForInStep.yield ((x.1,a)::cs)))else pure (ForInStep.yield cs):AF (List (sk × rX)))=pure cl /\
      (∀y c,cl.lookup y=AM c->env.cells.lookup y=AM c)/\(∀y,(y,NameKind.free) ∈ names\/(AT.lookup y).isSome=AO->∃c,cl.lookup y=AM c)
  | [],AT,_,ha=>#[AT,rfl,ha,λy h=>by
      rcases h with h | h
      . cases h
      . exact Bg.mp h]
  | (n,k)::r,AT,hn,ha=>by
    by_cases hk:k=NameKind.free
    . subst hk
      obtain⟨c,hc⟩:=hn n (by simp)
      have ha':∀y d,((n,c)::AT).lookup y=AM d->env.cells.lookup y=AM d:=λy d e=>by
        rw[aV]at e;by_cases hy:(y == n)=AO
        . rw[hy]at e
          have:y=n:=eq_of_beq hy;subst this;cases e;exact hc
        . have hy':(y == n)=AQ:=by simpa using hy
          rw[hy']at e;exact ha y d e
      obtain⟨cl,e,h1,h2⟩:=uw r ((n,c)::AT) (λy hy=>hn y (ar _ hy)) ha';refine#[cl,?_,h1,λy hy=>h2 y ?_]
      . rw[de]
        have ec:cellOf env n=pure c:=by unfold cellOf;rw[hc]
        erw[beq_self_eq_true,if_true,ec,pure_bind]
        exact e
      . rcases hy with hy | hy
        . rcases AX.mp hy with q | q
          . cases q
            exact .inr (by simp)
          . exact .inl q
        . refine .inr ?_
          rw[aV];by_cases hyn:(y == n)=AO
          . rw[hyn];rfl
          . have hy':(y == n)=AQ:=by simpa using hyn
            rw[hy'];exact hy
    . obtain⟨cl,e,h1,h2⟩:=uw r AT (λy hy=>hn y (ar _ hy)) ha
      refine#[cl,?_,h1,λy hy=>h2 y ?_]
      . rw[de]
        have ek:(k == NameKind.free)=AQ:=by simpa using hk
        erw[ek,bA,if_false,pure_bind]
        exact e
      . rcases hy with hy | hy
        . rcases AX.mp hy with q | q
          . cases q;exact absurd rfl hk
          . exact .inl q
        . exact .inr hy
theorem ug{scope:sU}{env:Ad}(hn:∀y,(y,NameKind.free) ∈ scope.names->∃c,env.cells.lookup y=AM c) :
  ∃cl,closureFor scope env=pure cl/\(∀y c,cl.lookup y=AM c->env.cells.lookup y=AM c)/\(∀y,(y,NameKind.free) ∈ scope.names->∃c,cl.lookup y=AM c):=by
 obtain⟨cl,e,h1,h2⟩:=uw scope.names [] hn (λy c h=>by cases h);refine#[cl,?_,h1,λy hy=>h2 y (.inl hy)];unfold closureFor
 erw[bind_pure]
 exact e
noncomputable abbrev Qt(ifs:List sr)(env:Ad):AF Bool :=
 forIn ifs AO λc r=>if r=AO then (do let ok <- isTrue c env (eval c env);pure (ForInStep.yield ok))else pure (ForInStep.yield r)
theorem Qg{prog:sj}{w:so}{A:sq}{R:Ak->rZ->Prop}{s:rZ}{elt tg iter:sr}{ifs:List sr}{scope:sU}{pos:tm}{it AT:rY}{env:Ad}
  (I:Nat->rZ->Prop) {EE:rY->rZ->Prop} (hEE:EE=notedBy (model prog w) A env λe s'=>R (.error e) s')
  (turn:∀n s,I n s->si (model prog w) A (pyNext it) (λr s1=>match r with
   | none=>R (.ok .next) s1
   | some v=>si (model prog w) A (letOwnedTupleGo tg it v) (λ_ s2=>si (model prog w) A (assign tg env v) (λ_ s3 =>
     si (model prog w) A (Qt ifs env) (λok s4=>if ok=AO then
      si (model prog w) A (eval elt env) (λx s5=>si (model prog w) A (call (.builtin "list.append") [AT,x]) (λ_ s6=>∃m,m<n/\I m s6) EE s5) EE s4
      else ∃m,m<n/\I m s4) EE s3) EE s2) EE s1) EE s) (n:Nat) (h:I n s) :
  tF (model prog w) A (.compLoop (.ListComp elt [#[tg,iter,ifs,0]] scope pos) 0 it AT env) R s:=by
 subst hEE;refine codeAny_loop rfl I (λn s hI=>?_) n h;show si _ A ((compTurn (.ListComp elt [#[tg,iter,ifs,0]] scope pos) 0 it AT env).onRaise (λx=>do noteFrame x env;theTreesLotGoes x)) _ _ s;refine wpAny_noted ?_;rw[compTurn_list];refine rQ (sY (rQ (thn (turn n s hI) λr s1 h1=>?_)))
 cases r with
 | none=>exact rR h1
 | some v =>
  refine rQ (thn h1 λ_ s2 h2=>rQ (thn h2 λ_ s3 h3=>rQ (thn h3 λok s4 h4=>?_)))
  cases ok with
  | false=>exact rR #[rfl,h4]
  | true=>exact rQ (rQ (thn h4 λx s5 h5=>rQ (thn h5 λ_ s6 h6=>rR (rR #[rfl,h6]))))
noncomputable def yt(X:Cx)(scope:sU)(cl:List (sk × rX))(C:rX)(N:List sk)(AR:List (rX × sL))(s3:rZ)(H3:Hp)(fp:List rX)(E:rY->rZ->Prop):Cx :=
 { X with N:=N,s₀:=s3,H₀:=H3,env:=compEnvC scope cl C X.env,outer:=X.stack,ex:=fp,fn:=λ_=>AQ,pn:=X.pn ++ AR,xe:=E }
noncomputable def vt(σ:St)(own:Nat)(ix:List Nat):St:=aU own AN ++ ix.map λi=>(σ[i]?).join
structure j7(X:Cx)(scope:sU)(own caps:List sk)(ix:List Nat):Prop where
 kind:scope.kind=.function
 nocell:∀y ∈ scope.names,y.2≠.cell
 names:∀y ∈ scope.names,y.2=.local->scope.names.lookup y.1=AM .local
 free:∀y,(y,NameKind.free) ∈ scope.names->X.env.kindOf y=AM .cell\/X.env.kindOf y=AM .free
 hown:∀y ∈ own,scope.names.lookup y=AM .local
 hcaps:∀y ∈ caps,scope.names.lookup y=AM .free
 hix:ix.map (λi=>X.N[i]?)=caps.map AM
theorem xV{α β:Type}[BEq α][LawfulBEq α]{l:List (α × β)}{a:α}{b:β}(h:l.lookup a=AM b):(a,b) ∈ l:=by
 induction l with
 | nil=>cases h
 | cons p r ih =>
  obtain⟨c,d⟩:=p;rw[aV]at h;by_cases e:(a == c)=AO
  ·rw[e]at h;cases h;rw[eq_of_beq e];exact aB
  ·have e':(a == c)=AQ:=by simpa using e
   rw[e']at h;exact ar _ (ih h)
theorem vz{scope:sU}{env:Ad}(hf:env.scope.kind=.function):∀{names:List (sk × tQ)} {x:sk} {k:tQ},names.lookup x=AM k ->
    (names.map λ(n,k)=>if (k == NameKind.free && env.scope.kind == .function && env.kindOf n == AM .cell)then (n,NameKind.cell)else (n,k)).lookup x=AM (if (k == NameKind.free && env.scope.kind == .function && env.kindOf x == AM .cell)=AO then .cell else k)
  | [],_,_,h=>by simp at h
  | (n,k')::r,x,k,h=>by
    have ih:=@vz scope env hf r x k;show bc x ((if (k' == NameKind.free && env.scope.kind == .function && env.kindOf n == AM .cell)=AO then (n,NameKind.cell)else (n,k'))::_)=_;by_cases hx:(x == n)=AO
    . have hxn:x=n:=eq_of_beq hx
      subst hxn;rw[aV,hx]at h;cases h;by_cases c:(k' == NameKind.free && env.scope.kind == .function && env.kindOf x == AM .cell)=AO
      . rw[if_pos c,if_pos c,aV,hx]
      . rw[if_neg c,if_neg c,aV,hx]
    . have hx':(x == n)=AQ:=by simpa using hx
      rw[aV,hx']at h;by_cases c:(k' == NameKind.free && env.scope.kind == .function && env.kindOf n == AM .cell)=AO
      . rw[if_pos c,aV,hx'];exact ih h
      . rw[if_neg c,aV,hx'];exact ih h
theorem uS{scope:sU}{env:Ad}:∀{names:List (sk × tQ)} {x:sk},names.lookup x=AN ->
    (names.map λ(n,k)=>if (k == NameKind.free && env.scope.kind == .function && env.kindOf n == AM .cell)then (n,NameKind.cell)else (n,k)).lookup x=AN
  | [],_,_=>rfl
  | (n,k')::r,x,h=>by
    have ih:=@uS scope env r x;show bc x ((if (k' == NameKind.free && env.scope.kind == .function && env.kindOf n == AM .cell)=AO then (n,NameKind.cell)else (n,k'))::_)=_;by_cases hx:(x == n)=AO
    . rw[aV,hx]at h;cases h
    . have hx':(x == n)=AQ:=by simpa using hx
      rw[aV,hx']at h;by_cases c:(k' == NameKind.free && env.scope.kind == .function && env.kindOf n == AM .cell)=AO
      . rw[if_pos c,aV,hx'];exact ih h
      . rw[if_neg c,aV,hx'];exact ih h
section
variable{X:Cx}{scope:sU}{own caps:List sk}{ix:List Nat}{cl:List (sk × rX)}{AR:List (rX × sL)}{σ:St}{H:Hp}{s:rZ}{fp:List rX}{E:rY->rZ->Prop}
theorem W6(S:j7 X scope own caps ix)(hcl1:∀y c,cl.lookup y=AM c->X.env.cells.lookup y=AM c)(hcl2:∀y,(y,NameKind.free) ∈ scope.names->∃c,cl.lookup y=AM c)
  (I:Inv X AR σ H s) (hfp:∀b ∈ fp,wj X AR H b) (hlt:∀b ∈ fp,b<s⁻¹) {h4:su} {t4:Nat} (hn:h4.Ns s⁻¹ λ_=>AN) (hk:∀b o,s.heap.get? b=AM o->h4.get? b=AM o) :
  Inv (yt X scope cl s⁻¹ (own ++ caps) AR s H fp E) [] (vt σ own.length ix) H { s with heap:=h4,toks:=t4 }:=by
 have kf:X.env.scope.kind=.function:=I.ok.kind;have nofp:∀b ∈ fp,b≠s⁻¹:=λb hb=>ay (hlt b hb)
 have cellLt:∀x c,X.env.cells.lookup x=AM c->c<s⁻¹:=λx c e=>by
  obtain⟨v,o,ho,_⟩:=I.cell x c e;exact aq ho
 have kinds:∀y k,scope.names.lookup y=AM k->(relabel scope X.env).names.lookup y=AM (if (k == NameKind.free && X.env.scope.kind == .function && X.env.kindOf y == AM .cell)=AO then .cell else k):=λy k e=>vz (scope:=scope) kf e
 have back:∀y k,(relabel scope X.env).names.lookup y=AM k->∃k',scope.names.lookup y=AM k'/\k=(if (k' == NameKind.free && X.env.scope.kind == .function && X.env.kindOf y == AM .cell)=AO then .cell else k'):=λy k e=>by
  cases q:scope.names.lookup y with
  | none =>
   have:=uS (scope:=scope) (env:=X.env) q;have e':(scope.names.map λ(n,k)=>if (k == NameKind.free && X.env.scope.kind == .function && X.env.kindOf n == AM .cell)then (n,NameKind.cell)else (n,k)).lookup y=AM k:=e;rw[this]at e';cases e'
  | some k' =>
   refine#[k',rfl,?_];have:=kinds y k' q;rw[e]at this;exact Option.some.inj this
 have isCell:∀y,scope.names.lookup y=AM .free->(relabel scope X.env).names.lookup y=AM .cell\/(relabel scope X.env).names.lookup y=AM .free:=λy e=>by
  have:=kinds y _ e;rcases S.free y (xV e)with q | q
  ·refine .inl ?_;rw[this,if_pos];rw[q,kf];rfl
  ·refine .inr ?_;rw[this,if_neg];rw[q];simp
 refine#[#[I.ok.mod,?_,I.ok.glob,I.ok.blt,al _,?_,?_,?_,I.ok.hd,I.ok.frames,.inl rfl,?_,I.bs,aM I.ok.bsz I.sz,?_,?_,I.stack,I.stkFree],rfl,I.bare,Un.kept hk,#[_,hn,?_],?_,?_,?_,?_,I.hok.kept hk,?_]
 ·show (relabel scope X.env).kind=.function;exact S.kind
 ·intro x y c h1 h2;exact I.ok.inj x y c (hcl1 x c h1) (hcl1 y c h2)
 ·intro y hy;have hy':(relabel scope X.env).names.lookup y=AM .cell\/(relabel scope X.env).names.lookup y=AM .free:=hy
  have:scope.names.lookup y=AM .free:=by
   rcases hy' with q | q
   ·obtain⟨k',e,ek⟩:=back y _ q;by_cases c:(k' == NameKind.free && X.env.scope.kind == .function && X.env.kindOf y == AM .cell)=AO
    ·rw[bE,bE]at c;rw[e,eq_of_beq c.1.1]
    ·rw[if_neg c]at ek;exact absurd ek.symm (S.nocell _ (xV e))
   ·obtain⟨k',e,ek⟩:=back y _ q;by_cases c:(k' == NameKind.free && X.env.scope.kind == .function && X.env.kindOf y == AM .cell)=AO
    ·rw[if_pos c]at ek;cases ek
    ·rw[if_neg c]at ek;rw[e,<- ek]
  exact hcl2 y (xV this)
 ·intro x c h _;exact absurd h (by simp [yt])
 ·intro b hb;refine#[nofp b hb,λx c e=>?_];exact (hfp b hb).2.2.2.2.1 x c (hcl1 x c e)
 ·intro b o e hb;obtain⟨_,_,_,q,_⟩:=hfp b hb;rcases q with q | q
  ·exact I.ok.noex b o e q
  ·exact absurd (av (aq e) (aM I.ok.bsz q)) (cL _)
 ·intro b hb z;rcases AX.mp (I.stkSub b z)with e | e
  ·exact (hfp b hb).2.1 e
  ·exact (hfp b hb).2.2.1 e
 ·intro i y v h1 h2 h3
  have hi:own.length<=i:=by
   refine cF λhlt'=>?_;unfold vt at h2;rw[br (by rw[bV];exact hlt'),eN,if_pos hlt']at h2;cases h2
  have h1':caps[i - own.length]? = AM y:=by
   have:(own ++ caps)[i]? = AM y:=h1;rw[be hi]at this;exact this
  have h2':(ix.map λi=>(σ[i]?).join)[i - own.length]? = AM (AM v):=by
   unfold vt at h2;rw[be (by rw[bV];exact hi),bV]at h2;exact h2
  rw[am]at h2';have hx:=congrArg (λl=>l[i - own.length]?) S.hix
  erw[am,h1',Option.map_some]at hx
  cases q:ix[i - own.length]? with
  | none=>rw[q]at h2';cases h2'
  | some j =>
   rw[q]at h2' hx;have hj:X.N[j]? = AM y:=Option.some.inj hx;have hv:(σ[j]?).join=AM v:=Option.some.inj h2'
   have hσ:σ[j]? = AM (AM v):=by
    cases r:σ[j]? with
    | none=>rw[r]at hv;cases hv
    | some z=>rw[r]at hv;cases z with
     | none=>cases hv
     | some z=>cases hv;rfl
   have hfree:scope.names.lookup y=AM .free:=S.hcaps y (aa h1');have hkc:=S.free y (xV hfree);obtain⟨m,hm,hl⟩:=I.loc;obtain⟨u,ru,l⟩:=hl j y v hj hσ (.inr hkc);refine#[u,ru,.inr #[isCell y hfree,?_]];rcases l with ⟨k,_⟩ | ⟨_,c,e,z⟩
   ·have:X.env.kindOf y=AM .local:=k;rcases hkc with q' | q' <;> (rw[q']at this;cases this)
   ·obtain⟨c',e'⟩:=hcl2 y (xV hfree);have:=hcl1 y c' e';rw[e]at this;cases this;obtain⟨o,ho,hd⟩:=z;exact#[c,e',o,hk c o ho,hd]
 ·intro x c e;obtain⟨v,o,ho,hd⟩:=I.cell x c (hcl1 x c e);exact#[v,o,hk c o ho,hd]
 ·exact I.hok.fresh (al _)
 ·intro x c e;exact I.freeC x c (hcl1 x c e)
 ·intro p hp
  have hp':p ∈ X.pn ++ AR:=by
   have:p ∈ (X.pn ++ AR) ++ []:=hp
   rwa [aW]at this
  obtain⟨e,n,ne,nf,d⟩:=I.pin p hp';refine#[hk _ _ e,n,?_,λz=>?_,d]
  ·exact ay (aq e)
  ·rcases AX.mp (I.stkSub p.1 z)with q | q
   ·exact ne q
   ·exact nf q
 ·show (vt σ own.length ix).length=(own ++ caps).length;have:=congrArg fM S.hix;rw[ac,ac]at this;unfold vt;rw[ak,bV,ac,ak,this]
end
end L3
namespace L3
def yU(σ σ':St):Prop:=σ.length=σ'.length/\∀(i:Nat) v,σ[i]? = AM (AM v)->σ'[i]? = AM (AM v)
def PTs(X:Cx)(ifs:List sr)(t:TT):Prop :=
 ∀(AR:List (rX × sL)) (s:rZ) (σ:St) (H:Hp) (Q:Bool->Hp->Prop),Inv X AR σ H s->t σ H Q->si (model X.prog X.w) X.A (Qt ifs X.env) (TP X AR σ Q) X.xe s
def vm:TT:=λ_ H Q=>Q AO H
theorem yM{X:Cx}:PTs X [] vm:=λ_ _ _ H _ I h=>rR #[H,I,h]
theorem VS{X:Cx}{c:sr}{t:TT}(h:PT X c t):PTs X [c] t:=λAR s σ H Q I hq=>by
 show si _ _ (forIn [c] AO _) _ _ s
 erw[de,e8,if_true]
 exact rQ (rQ (thn (h AR s σ H Q I hq) λb s' hb=>rR (rR hb)))
def jY(wi:TI)(g:TG)(tt:TT)(te:TE)(own:Nat)(ix:List Nat):TE:=λσ H Q=>wi σ H λJ H1=>∀D,H1 D=AN->∃W:Nat->Nat->List V->Hp->Prop,(∃m,W 0 m [] (upd H1 D (.lst []))) /\
 ∀i m AT H',W i m AT H'->(J.stop i H'/\Q (.ref D) H')\/(J.go i H'/\∀x H2,J.yld i H' x H2->g x (vt σ own ix) H2 λσ3 H3=>yU (vt σ own ix) σ3/\tt σ3 H3 λb H4=>if b=AO then
  te σ3 H4 λv H5=>H5 D=AM (.lst AT)/\AT.length<rV/\∃m',m'<m/\W (i+1) m' (AT ++ [v]) (upd H5 D (.lst (AT ++ [v])))
  else ∃m',m'<m/\W (i+1) m' AT H4)
theorem Un.but{fs ex:List rX}{H H':Hp}{h h1 h2:su}{a:rX}(u:Un fs ex H H' h h1)(sb:Heap.SameBut a h1 h2)(ha:h.get? a=AN):Un fs ex H H' h h2:=by
 have ne:∀b o,h.get? b=AM o->b≠a:=λb o e z=>by subst z;rw[ha]at e;cases e
 refine#[λb o e n hb hx=>(sb.2 b (ne b o e)).trans (u.keep b o e n hb hx),λb o e n hb hx=>?_,u.free,λb o e hx=>?_,u.tups,u.frzs,u.tbls]
 ·obtain⟨sl,q⟩:=u.slot b o e n hb hx;exact#[sl,(sb.2 b (ne b o e)).trans q]
 ·obtain⟨o',q⟩:=u.there b o e hx;exact#[o',(sb.2 b (ne b o e)).trans q]
theorem HOk.but{P:sj}{w:so}{H:Hp}{h1 h2:su}{a:rX}(ok:HOk P w H h1)(sb:Heap.SameBut a h1 h2)(ha:H a=AN):HOk P w H h2:=λb ob e=>by
 refine (ok b ob e).stay (λc u hc q=>(sb.2 c ?_).trans q) (λ_ q=>q) λ_ _ q=>q;rintro rfl;rcases hc with rfl | hc
 ·rw[ha]at e;cases e
 ·rw[ha]at hc;cases hc
section
variable{X:Cx}{scope:sU}{own caps:List sk}{ix:List Nat}{elt tg iter:sr}{ifs:List sr}{pos:tm}{wi:TI}{g:TG}{tt:TT}{te:TE}
def kL(i:Nat)(t:TE):TS:=λD σ H=>t σ H λx H1=>D.nx (σ.set i (AM x)) H1
end
end L3
namespace L3
section
variable{X:Cx}{a b:sr}{ta tb:TE}{pos:tm}
def Zt:R2:=λx y H Q=>match x with | .int i=>onInt y λj=>Q (.int (i+j)) H | .str i=>onStr y λj=>i.length+j.length<=rV/\Q (.str (i ++ j)) H | .ref l=>zcu (.ref l) y H Q | _=>False
theorem xg:OpR X (binaryOp .Add) Zt:=by
 intro AR s σ H x y v u Q I rx ry h
 cases x with
 | int i=>exact yY AR s σ H (.int i) y v u Q I rx ry h
 | str i=>exact yL AR s σ H (.str i) y v u Q I rx ry (by obtain⟨j,rfl,q⟩:=onStr.of h;exact#[i,j,rfl,rfl,q])
 | ref l=>exact XR AR s σ H (.ref l) y v u Q I rx ry h
 | _=>exact h.elim
def Jq:R2:=λx y H Q=>match x with | .int i=>onInt y λj=>CMul i j/\Q (.int (i * j)) H | .str z=>onInt y λn=>0<=n/\n<=1000/\z.length<=1000/\Q (.str (tx (aU n.toNat (cs z)).flatten)) H | _=>False
theorem Zu:OpR X (binaryOp .Mult) Jq:=by
 intro AR s σ H x y v u Q I rx ry h
 cases x with
 | int i=>exact jc AR s σ H (.int i) y v u Q I rx ry h
 | str z=>exact WZ AR s σ H (.str z) y v u Q I rx ry (by obtain⟨n,rfl,q⟩:=onInt.of h;exact#[z,n,rfl,rfl,q])
 | _=>exact h.elim
def zd9:R2:=λx y H Q=>match x with | .int i=>onInt y λj=>Q (.bl (decide (i<j))) H | .str i=>onStr y λj=>Q (.bl (decide (cs i<cs j))) H | _=>False
theorem WV:OpR X (sw .Lt) zd9:=by
 intro AR s σ H x y v u Q I rx ry h
 cases x with
 | int i=>exact JS AR s σ H (.int i) y v u Q I rx ry h
 | str i=>exact op_lt_str' AR s σ H (.str i) y v u Q I rx ry (by obtain⟨j,rfl,q⟩:=onStr.of h;exact#[i,j,rfl,rfl,q])
 | _=>exact h.elim
def zeb:R2:=λx y H Q=>match x with | .int i=>onInt y λj=>Q (.bl (decide (i<=j))) H | .str i=>onStr y λj=>Q (.bl (!(decide (cs j<cs i)))) H | _=>False
theorem xy:OpR X (sw .LtE) zeb:=by
 intro AR s σ H x y v u Q I rx ry h
 cases x with
 | int i=>exact zfm AR s σ H (.int i) y v u Q I rx ry h
 | str i=>exact Q0 AR s σ H (.str i) y v u Q I rx ry (by obtain⟨j,rfl,q⟩:=onStr.of h;exact#[i,j,rfl,rfl,q])
 | _=>exact h.elim
theorem QA:OpR X (sw .Gt) (λx y H Q=>∃i j,x=.str i/\y=.str j/\Q (.bl (decide (cs j<cs i))) H):=by
 intro AR s σ H x y v u Q I rx ry h;obtain⟨i,j,rfl,rfl,q⟩:=h;obtain⟨t,rfl⟩:=rx;obtain⟨t',rfl⟩:=ry;exact PySem.P.gt_str #[.bl _,H,I,rfl,q]
def zd1:R2:=λx y H Q=>match x with | .int i=>onInt y λj=>Q (.bl (decide (j<i))) H | .str i=>onStr y λj=>Q (.bl (decide (cs j<cs i))) H | _=>False
theorem US:OpR X (sw .Gt) zd1:=by
 intro AR s σ H x y v u Q I rx ry h
 cases x with
 | int i=>exact zb2 AR s σ H (.int i) y v u Q I rx ry h
 | str i=>exact QA AR s σ H (.str i) y v u Q I rx ry (by obtain⟨j,rfl,q⟩:=onStr.of h;exact#[i,j,rfl,rfl,q])
 | _=>exact h.elim
def zdj(K:rW):V->Option Int->Option Int->Hp->VK->Prop:=λx lo hi H Q=>match x with | .ref a=>zcz K (.ref a) lo hi H Q | .str z=>zc9 (.str z) lo hi H Q | _=>False
theorem KW:SlR X (zdj X.K):=by
 intro AR s σ H x v vl vu lo hi sl Q I rx hs pl pu h
 cases x with
 | ref a=>exact Xh AR s σ H (.ref a) v vl vu lo hi sl Q I rx hs pl pu h
 | str z=>exact u8 AR s σ H (.str z) v vl vu lo hi sl Q I rx hs pl pu h
 | _=>exact h.elim
noncomputable def cV:V->Option rY
 | .ty n=>AM (.type n)
 | .ref a=>AM (.ref a)
 | _=>AN
theorem Kl:vo X (.builtin "isinstance") (λxs H Q=>∃x c u t b,xs=[x,c]/\cV c=AM u/\XW X.K H x t/\aL X.K t u=AM b/\Q (.bl b) H):=by
 intro AR s σ H xs us Q I r h;obtain⟨x,c,u,t,b,rfl,hc,ty,e,q⟩:=h;obtain⟨v,w',rfl,rx,rc⟩:=VG r
 have:w'=u:=by
  cases c with
  | ty n=>cases hc;exact rc
  | ref a=>cases hc;exact rc
  | _=>cases hc
 subst this;exact UU I rx ty e λtk=>#[.bl b,H,I.tok tk,rfl,q]
end
end L3
namespace L3
noncomputable def Iel(K:rW)(a:rX):It:=#[λi H=>∃xs x,SqL K H a xs/\xs[i]? = AM x,λi H v H'=>∃p x,H p=AN/\(∀xs,SqL K H a xs->xs[i]? = AM x)/\v=.ref p/\H'=upd H p (.tup [.int (i:Nat),x]),λi H=>∃xs,SqL K H a xs/\i=xs.length]
theorem Vo{P:sj}{w:so}{K:rW}{elts:List sr}{x1:Nat}{tpos:tm}(e it a:rX)(hei:e≠it) :
  JP P w K (.Tuple elts x1 tpos) (Iel K a) [e,it] e (λi h=>(∃old,IsEnum h e it i old)/\h.IsListIter it a i) where
 mem:=by simp
 obj:=λi h st b hb=>by
  obtain⟨⟨old,he⟩,o,e2,c,d⟩:=st;rcases AX.mp hb with q | q
  ·subst q;exact#[_,he,λv z=>by have z':Data.fields _=Data.cell v:=z;cases z']
  ·have q':b=it:=by simpa using q
   subst q';exact#[o,e2,λv z=>by rw[d]at z;cases z]
 keep:=λi h h' st k=>by
  obtain⟨⟨old,he⟩,st⟩:=st;exact#[#[old,k e (by simp) _ he],st.at λo q=>k it (by simp) o q]
 item:=by
  intro X hP hw hK hc i AR s σ H E I hf st hg;subst hP hw hK;obtain⟨⟨old,he⟩,st⟩:=st;obtain⟨xs,x,hq,hx⟩:=hg;obtain⟨its,rv,p,hz⟩:=I.list hq;obtain⟨u,hu,ru⟩:=rv.get hx;have hA:X.A.in1.handled=AN:=I.ok.hd hc;have pl:=p.isList
  have hai:a≠it:=λz=>by
   subst z;obtain⟨o1,q1,c1,_⟩:=st;obtain⟨o2,q2,c2,_⟩:=pl;rw[q1]at q2;cases q2;rw[c1]at c2;exact absurd (Value.type.inj c2) ∅
  have hea:e≠a:=λz=>by
   subst z;obtain⟨o2,q2,c2,_⟩:=pl;rw[he]at q2;cases q2;exact absurd (Value.type.inj c2) ∅
  refine wpAny_pyNext_enum_itemD (Draws.list (A:=X.A.in1) hA it a hai its.toArray) he #[st,pl] (by rw[aj];exact (AU.mp hu).1) hei (by simp [hei,hea]) λv h' tk hv ho st' hT hsz kk=>?_
  have ev:v=u:=by
   have hv':its.toArray[i]? = AM v:=hv;rw[List.getElem?_toArray,hu]at hv';exact (Option.some.inj hv').symm
  subst ev;refine#[_,rfl,wpAny_letOwnedTupleGo_enum ho λh2 he2 sb=>?_];have elt:e<s⁻¹:=aq he;have ilt:it<s⁻¹:=by obtain⟨o,q,_⟩:=st;exact aq q
  have I1:Inv X AR σ H { s with heap:=h2,toks:=tk+1 }:=Inv.turns (fp:=[e,it]) I (λb o hb q=>by
   have hb':b≠e/\b≠it:=by simpa using hb
   exact (sb.2 b hb'.1).trans (kk b o hb'.1 hb'.2 q)) hf
  have hp:H s⁻¹=AN:=I.hok.fresh (al _);have hT2:h2.get? s⁻¹=AM { cls:=.type "tuple",data:=.seq (List.toArray [.int (i:Nat) tk,v]) }:=(sb.2 _ (bZ elt)).trans hT
  have I2:Inv X AR σ (upd H s⁻¹ (.tup [.int (i:Nat),x])) { s with heap:=h2,toks:=tk+1 } :=
   Inv.track I1 (I.fpOk (al _) hp) #[by show 2<=rV;decide,[.int (i:Nat) tk,v],.cons #[_,rfl] (.cons ru .nil),#[_,hT2,rfl,_,rfl]]
  refine#[.ref s⁻¹,_,I2,rfl,#[s⁻¹,x,hp,λys hy=>by rw[I.list_inj hy hq];exact hx,rfl,rfl],#[#[_,by simpa using he2],?_],λb hb=>?_]
  ·exact st'.1.at λo q=>(sb.2 it (Ne.symm hei)).trans q
  ·rw[zm]
   ·exact (hf b hb).1
   ·rcases AX.mp hb with q | q
    ·rw[q];exact ay elt
    ·have q':b=it:=by simpa using q
     rw[q'];exact ay ilt
 done:=by
  intro X hP hw hK hc i AR s σ H E I hf st hg;subst hP hw hK;obtain⟨⟨old,he⟩,st⟩:=st;obtain⟨xs,hq,hi⟩:=hg;obtain⟨its,rv,p,hz⟩:=I.list hq;have pl:=p.isList
  have hai:a≠it:=λz=>by
   subst z;obtain⟨o1,q1,c1,_⟩:=st;obtain⟨o2,q2,c2,_⟩:=pl;rw[q1]at q2;cases q2;rw[c1]at c2;exact absurd (Value.type.inj c2) ∅
  have hA:X.A.in1.handled=AN:=I.ok.hd hc;have hi':i=its.toArray.size:=by rw[aj,<- rv.length];exact hi
  subst hi';refine wpAny_pyNext_enum_endD (Draws.list (A:=X.A.in1) hA it a hai its.toArray) he #[st,pl] λh' hx=>#[rfl,?_];exact Inv.turns (fp:=[e,it]) (t':=s.toks) I (λb o hb q=>hx b o (λz=>hb (by simp [z])) q) hf
 self:=λA i s Q E st h=>by
  obtain⟨⟨old,he⟩,_⟩:=st;exact As he h
section
variable{X:Cx}
def Ud(K:rW)(ta:TA):TI:=λσ H R=>ta σ H λvs H1=>∃a,vs=[.ref a]/\(∃xs,SqL K H1 a xs)/\R (Iel K a) H1
theorem ve{a:sr}{ta:TA}{p pos tpos:tm}{elts:List sr}{x1:Nat}(hg:Gl X "enumerate")(hm:X.mg "enumerate" = AN)(ha:PA X [a] ta)(hs:rT [a] X.env=[(AQ,eval a X.env)]:=by rfl) :
  PI X (.Tuple elts x1 tpos) (.Call (.Name "enumerate" p) [a] [] pos) (Ud X.K ta):=by
 intro AR s σ H R I h;refine AL (wD I hg hm PyProof.Rows.boot_enumerate (bp (thn (ha pos AR s σ H _ I h) λus s1 ⟨vs,H1,I1,r1,q1⟩=>?_) hs rfl));obtain⟨l,e,⟨xs,hq⟩,q⟩:=q1;subst e;obtain⟨u,rfl,ru⟩:=wq r1;cases ru;obtain⟨its,rv,pl,hz⟩:=I1.list hq;refine call_enumerate_list pl.isList λh' he hit hsz kk=>?_;have I2:Inv X AR σ H1 { s1 with heap:=h' }:=I1.kept (t':=s1.toks) kk;refine As (s:={ s1 with heap:=h' }) (i:=0) he ?_;refine#[s1⁻¹+1,[s1⁻¹+1,s1⁻¹],_,_,H1,rfl,I2,Vo _ _ l (Nat.succ_ne_self _),#[#[_,he],hit],λb hb=>?_,q]
 have hb':s1⁻¹<=b:=by
  rcases AX.mp hb with e | e
  ·rw[e];exact cP _
  ·have:b=s1⁻¹:=by simpa using e
   rw[this];exact al _
 exact I1.fpOk hb' (I1.hok.fresh hb')
end
def ForEL(K:rW)(a:rX)(g:TG)(tb:TS)(D:vN)(σ:St)(H:Hp):Prop:=∃W:Nat->Nat->St->Hp->Prop,(∃m,W 0 m σ H)/\∀i m σ H,W i m σ H ->
 ((Iel K a).stop i H/\D.nx σ H)\/((Iel K a).go i H/\∃N:St->Hp->Prop,(∀σ' H',N σ' H'->∃m',m'<m/\W (i+1) m' σ' H')/\∀x H',(Iel K a).yld i H x H'->g x σ H' λσ2 H2=>tb { D with nx:=N,ct:=N,bk:=D.nx } σ2 H2)
theorem zdB{K:rW}{ta:TA}{g:TG}{tb:TS}{D:vN}{σ:St}{H:Hp}:Ju (Ud K ta) g tb D σ H=ta σ H λvs H1=>∃a,vs=[.ref a]/\(∃xs,SqL K H1 a xs)/\ForEL K a g tb D σ H1:=rfl
theorem ForEL.by{K:rW}{a:rX}{xs:List V}{g:TG}{tb:TS}{D:vN}{σ:St}{H:Hp}(Pv:Nat->St->Hp->Prop)(h0:Pv 0 σ H)(hl:∀i σ H,i<=xs.length->Pv i σ H->SqL K H a xs)
  (hs:∀i x σ H p,xs[i]? = AM x->Pv i σ H->H p=AN->g (.ref p) σ (upd H p (.tup [.int (i:Nat),x])) λσ2 H2=>tb { D with nx:=Pv (i+1),ct:=Pv (i+1),bk:=D.nx } σ2 H2) (hd:∀σ H,Pv xs.length σ H->D.nx σ H):ForEL K a g tb D σ H:=by
 refine#[λi m σ H=>m=xs.length - i/\i<=xs.length/\Pv i σ H,#[xs.length,by simp,aE _,h0],?_];rintro i m σ H ⟨rfl,hi,p⟩;have q:=hl i σ H hi p;by_cases hlt:i<xs.length
 ·refine .inr #[#[xs,xs[i],q,by simp [hlt]],Pv (i+1),λσ' H' p'=>#[xs.length - (i+1),⋯,rfl,hlt,p'],λv H' y=>?_];obtain⟨p',x,hp,hx,ev,eH⟩:=y;subst ev eH;exact hs i x σ H p' (hx xs q) p hp
 ·have e:i=xs.length:=⋯;subst e;exact .inl #[#[xs,q,rfl],hd σ H p]
def zfU(K:rW)(a:rX)(g:TG)(tb:TS)(D:vN)(σ:St)(H:Hp):Prop:=∃W:Nat->Nat->St->Hp->Prop,(∃m,W 0 m σ H)/\∀i m σ H,W i m σ H ->
 ((Itt K a).stop i H/\D.nx σ H)\/((Itt K a).go i H/\∃N:St->Hp->Prop,(∀σ' H',N σ' H'->∃m',m'<m/\W (i+1) m' σ' H')/\∀x H',(Itt K a).yld i H x H'->g x σ H' λσ2 H2=>tb { D with nx:=N,ct:=N,bk:=D.nx } σ2 H2)
theorem zfL{K:rW}{tl:TE}{g:TG}{tb:TS}{D:vN}{σ:St}{H:Hp}:Ju (zfW K tl) g tb D σ H=tl σ H λx H1=>∃a,x=.ref a/\(∃xs,SqT K H1 a xs)/\zfU K a g tb D σ H1:=rfl
def zew(K:rW)(x:V)(H:Hp)(p:Bool->Prop):Prop:=match x with | .bl b=>p b | x=>∃k,zdH K x H k/\p k
def tTr(K:rW)(ta:TE):TT:=λσ H Q=>ta σ H λx H'=>zew K x H' λk=>Q k H'
theorem zbK{K:rW}{ta:TE}{σ:L2.St}{H:Hp}{Q:Bool->Hp->Prop}:tTr K ta σ H Q=ta σ H λx H'=>zew K x H' λk=>Q k H':=rfl
def tBl(ta:TE):TT:=λσ H Q=>ta σ H λx H'=>onBl x λk=>Q k H'
theorem zcb{ta:TE}{σ:L2.St}{H:Hp}{Q:Bool->Hp->Prop}:tBl ta σ H Q=ta σ H λx H'=>onBl x λk=>Q k H':=rfl
section
variable{X:Cx}{a:sr}{ta:TE}
theorem yC(ha:PE X a ta)(he:∀whole,isTrue a X.env whole=(do let v <- whole;standAt a.pos;holding [v] (truthy v))):PT X a (tBl ta):=by
 intro AR s σ H Q I h;refine isTrue_plain (thn (ha AR s σ H _ I h) λv s1 ⟨x,H1,I1,r1,q1⟩=>?_) (he _);obtain⟨k,rfl,q1⟩:=onBl.of q1;exact KJ AR s1 σ H1 (.bl k) v Q I1 r1 #[k,rfl,q1]
end
end L3
namespace L3
noncomputable def Irv(K:rW)(a:rX)(n:Nat):It:=#[λi H=>∃xs,SqL K H a xs/\xs.length=n/\i<n,λi H v H'=>H'=H/\∀xs,SqL K H a xs->xs.length=n->xs[n - 1 - i]? = AM v,λi H=>i=n]
theorem JA{P:sj}{w:so}{K:rW}{tg:sr}(a it:rX)(n:Nat):JP P w K tg (Irv K a n) [it] it (λi h=>i<=n/\h.IsRevIter it a ((n:Int) - 1 - (i:Int))) where
 mem:=by simp
 obj:=λi h st b hb=>by
  have e:b=it:=by simpa using hb
  subst e;obtain⟨_,o,e,c,d⟩:=st;exact#[o,e,λv z=>by rw[d]at z;cases z]
 keep:=λi h h' st k=>#[st.1,st.2.at λo e=>k it (by simp) o e]
 item:=by
  intro X hP hw hK hc i AR s σ H E I hf st hg;subst hP hw hK;obtain⟨xs,hq,hn,hi⟩:=hg;obtain⟨its,rv,p,hz⟩:=I.list hq;obtain⟨f0,f1,f2,f3,f4,f5⟩:=hf it (by simp);have hx:xs[n - 1 - i]? = AM (xs[n - 1 - i]'⋯):=ag ⋯;generalize xs[n - 1 - i]'⋯=x at hx;obtain⟨u,hu,ru⟩:=rv.get hx;have st2:=st.2;have e:(n:Int) - 1 - (i:Int)=((n - 1 - i:Nat):Int):=⋯;rw[e]at st2;refine wpAny_pyNext_rev_item st2 p.isList (x:=u) (by simpa using hu) λh' st' sb=>?_;have I1:Inv X AR σ H { s with heap:=h' }:=I.turned (t':=s.toks) (λb o hb e=>(sb.2 b hb).trans e) f0 f1 f3 f4 f5;have e2:((n - 1 - i:Nat):Int) - 1=(n:Int) - 1 - ((i+1:Nat):Int):=⋯;rw[e2]at st';obtain⟨o,e,c,d⟩:=id st';exact#[u,rfl,QT (s:={ s with heap:=h' }) e c d ∅ #[x,H,I1,ru,#[rfl,λys hy _=>by rw[I.list_inj hy hq];exact hx],#[hi,st'],λb hb=>(hf b hb).1]]
 done:=by
  intro X hP hw hK hc i AR s σ H E I hf st hg;subst hP hw hK;obtain⟨f0,f1,f2,f3,f4,f5⟩:=hf it (by simp);have hi:i=n:=hg;have st2:=st.2;rw[hi,show (n:Int) - 1 - (n:Int)=-1 by lia]at st2;exact wpAny_pyNext_rev_end (I.ok.hd hc) st2 λh' eb=>#[rfl,I.turned (t':=s.toks) (λb o hb e=>eb b o hb e) f0 f1 f3 f4 f5]
 self:=λ_ _ _ _ _ st h=>Af st.2 h
theorem Kt:sN "reversed" = AM (.type "reversed"):=PyProof.Rows.boot_reversed
section
variable{X:Cx}{tg:sr}
def zfy(K:rW)(ta:TA):TI:=λσ H R=>ta σ H λvs H1=>∃a xs,vs=[.ref a]/\SqL K H1 a xs/\R (Irv K a xs.length) H1
theorem zdA{a:sr}{ta:TA}{p pos:tm}(hg:Gl X "reversed")(hm:X.mg "reversed" = AN)(ha:PA X [a] ta)(hs:rT [a] X.env=[(AQ,eval a X.env)]:=by rfl) :
  PI X tg (.Call (.Name "reversed" p) [a] [] pos) (zfy X.K ta):=by
 intro AR s σ H R I h;refine AL (wD I hg hm Kt (bp (thn (ha pos AR s σ H _ I h) λus s1 ⟨vs,H1,I1,r1,q1⟩=>?_) hs rfl));obtain⟨l,xs,e,hq,q⟩:=q1;subst e;obtain⟨u,rfl,ru⟩:=wq r1;cases ru;obtain⟨its,rv,pl,hz⟩:=I1.list hq;have hn:its.toArray.size=xs.length:=by rw[aj,<- rv.length]
 refine call_reversed_list pl.isList ?_
 have hit:(s1.heap.push (revObj l ((its.toArray.size:Int) - 1))).IsRevIter s1⁻¹ l ((xs.length:Int) - 1 - ((0:Nat):Int)):=by
  refine#[_,az _ rfl,rfl,?_];rw[hn,show (xs.length:Int) - 1 - ((0:Nat):Int)=(xs.length:Int) - 1 by lia];rfl
 refine Af (s:={ s1 with heap:=s1.heap.push (revObj l ((its.toArray.size:Int) - 1)) }) hit ?_;refine#[s1⁻¹,[s1⁻¹],_,_,H1,rfl,I1.kept (t':=s1.toks) λb o e=>ae _ e,JA l _ xs.length,#[aE _,hit],λb hb=>?_,q];have e:b=s1⁻¹:=by simpa using hb
 subst e;exact I1.fpOk (al _) (I1.hok.fresh (al _))
end
section
variable{prog:sj}{w:so}{A:sq}{E:rY->rZ->Prop}{s:rZ}
end
section
variable{X:Cx}
def zff(K:rW)(ta:TA):TE:=λσ H Q=>ta σ H λvs H1=>∃a xs,vs=[.ref a]/\SqL K H1 a xs/\∀l,H1 l=AN->Q (.ref l) (upd H1 l (.lst xs.reverse))
theorem UV{K:rW}{ta:TA}{σ:L2.St}{H:Hp}{Q:VK}:zff K ta σ H Q=ta σ H λvs H1=>∃a xs,vs=[.ref a]/\SqL K H1 a xs/\∀l,H1 l=AN->Q (.ref l) (upd H1 l (.lst xs.reverse)):=rfl
end
noncomputable def Izp(K:rW)(a b:rX):It:=#[λi H=>∃xs ys x y,SqL K H a xs/\SqL K H b ys/\xs[i]? = AM x/\ys[i]? = AM y,λi H v H'=>∃p x y,H p=AN/\(∀xs,SqL K H a xs->xs[i]? = AM x)/\(∀ys,SqL K H b ys->ys[i]? = AM y)/\v=.ref p/\H'=upd H p (.tup [x,y]),λi H=>∃xs ys,SqL K H a xs/\SqL K H b ys/\(xs.length=i\/ys.length=i)/\i<=xs.length/\i<=ys.length]
theorem wN{h:su}{a b:rX}{o1 o2:sL}{t u:String}(h1:h.get? a=AM o1)(c1:o1.cls=.type t)(h2:h.get? b=AM o2)(c2:o2.cls=.type u)(hne:t≠u):a≠b:=λz=>by
 rw[z,h2]at h1;cases h1;rw[c2]at c1;exact hne (Value.type.inj c1).symm
structure K8(z TI TO i1 i2:rX):Prop where
 TIz:TI≠z
 TOz:TO≠z
 i1z:i1≠z
 i2z:i2≠z
 TITO:TI≠TO
 TIi1:TI≠i1
 TIi2:TI≠i2
 TOi1:TO≠i1
 TOi2:TO≠i2
 i12:i1≠i2
def ZipAt(z TI TO i1 i2 l1 l2:rX)(i:Nat)(h:su):Prop:=tU h z TI TO .none/\sV h TI (.ref i1) (.ref i2)/\(∃a b,sV h TO a b)/\h.IsListIter i1 l1 i/\h.IsListIter i2 l2 i
theorem ZipAt.apart{z TI TO i1 i2 l1 l2:rX}{i:Nat}{h:su}{xs ys:Array rY}(D:K8 z TI TO i1 i2)(st:ZipAt z TI TO i1 i2 l1 l2 i h)(h1:h.IsList l1 xs)(h2:h.IsList l2 ys):ZipApart z TI TO i1 i2 l1 l2:=by
 obtain⟨hz,hTI,⟨a,b,hTO⟩,⟨o1,e1,c1,_⟩,⟨o2,e2,c2,_⟩⟩:=st;obtain⟨p1,q1,k1,_⟩:=h1;obtain⟨p2,q2,k2,_⟩:=h2;exact#[D.TIz,D.TOz,D.i1z,D.i2z,D.TITO,D.TIi1,D.TIi2,D.TOi1,D.TOi2,D.i12,wN q1 k1 hz rfl ∅,wN q1 k1 hTO rfl ∅,wN q1 k1 e1 c1 ∅,wN q1 k1 e2 c2 ∅,wN q2 k2 hz rfl ∅,wN q2 k2 hTO rfl ∅,wN q2 k2 e1 c1 ∅,wN q2 k2 e2 c2 ∅]
section
variable{X:Cx}
def zf6(K:rW)(ta:TA):TI:=λσ H R=>ta σ H λvs H1=>∃a b,vs=[.ref a,.ref b]/\(∃xs,SqL K H1 a xs)/\(∃ys,SqL K H1 b ys)/\R (Izp K a b) H1
end
def zfP(K:rW)(a b:rX)(g:TG)(tb:TS)(D:vN)(σ:L2.St)(H:Hp):Prop:=∃W:Nat->Nat->L2.St->Hp->Prop,(∃m,W 0 m σ H)/\∀i m σ H,W i m σ H ->
 ((Izp K a b).stop i H/\D.nx σ H)\/((Izp K a b).go i H/\∃N:L2.St->Hp->Prop,(∀σ' H',N σ' H'->∃m',m'<m/\W (i+1) m' σ' H')/\∀x H',(Izp K a b).yld i H x H'->g x σ H' λσ2 H2=>tb { D with nx:=N,ct:=N,bk:=D.nx } σ2 H2)
theorem zfD{K:rW}{ta:TA}{g:TG}{tb:TS}{D:vN}{σ:L2.St}{H:Hp}:Ju (zf6 K ta) g tb D σ H=ta σ H λvs H1=>∃a b,vs=[.ref a,.ref b]/\(∃xs,SqL K H1 a xs)/\(∃ys,SqL K H1 b ys)/\zfP K a b g tb D σ H1:=rfl
end L3
namespace L3
noncomputable abbrev xob(C:rX)(dx:Option rX)(t:rX)(tb:rY):sL:={ cls:=.ref C,dict:=dx,data:=.fields (List.toArray [.ref t,tb,.none,.none,.bool AQ,.none]) }
noncomputable abbrev xog(C:rX)(dx:Option rX)(t:rX)(tb c:rY)(k:Bool):sL:={ cls:=.ref C,dict:=dx,data:=.fields (List.toArray [.ref t,tb,c,.none,.bool k,.none]) }
def za9(h:su)(x:rX)(tb:rY):Prop:=tb=.none\/∃T oT ts,tb=.ref T/\T≠x/\h.get? T=AM oT/\oT.data=.fields ts/\3<ts.size
section
variable{M:Ay}{A:sq}{E:rY->rZ->Prop}{s:rZ}{base:su}{env env0:Ad}{outer:List Ad}{L x t C:rX}{dx:Option rX}{cx:rY}{kx:Bool}
theorem Z3(h:env.frame=env0.frame):d4 env=d4 env0:=by unfold d4;rw[h]
theorem Zq{tb head:rY}{hadNext:Bool}{Q:Unit->rZ->Prop}(hfr:A.frames=AM (env0::outer))(hl:s.heap.FunFrames base (env0::outer))(hf:env0.frame=AM L)(he:env.frame=AM L)
  (hx:s.heap.get? x=AM (xog C dx t tb cx kx))
  (h:∀h' oT ts,h'.get? x=AM (xog C dx t (.ref s⁻¹) cx kx)->s⁻¹≠x->h'.get? s⁻¹=AM oT->oT.data=.fields ts->3<ts.size ->
   (∀b o,b≠x->b ∉ frs (env0::outer)->s.heap.get? b=AM o->h'.get? b=AM o)->(∀b o,b≠x->s.heap.get? b=AM o->∃sl,h'.get? b=AM { o with slots:=sl })->Q () { s with heap:=h' }) :
  si M A (do let a <- d4 env;let pl <- entryPlaceOf L hadNext;let b <- EntryCells.newEntry head a .none (rawInt L) .none pl;setField (.ref x) 1 b) Q E s:=by
 have hxf:x ∉ frs (env0::outer):=λhm=>by
  obtain⟨_,o,ho,hnf⟩:=hl.mem hm;rw[hx]at ho;cases ho;exact hnf _ rfl
 rw[Z3 (he.trans hf.symm)];refine rQ (wpAny_frameOf_fun hfr hl hf λh1 hs1=>rQ (wpAny_entryPlaceOf λpl hpl=>?_));unfold EntryCells.newEntry newFields;refine rQ (Au ?_ (hpl.sizeOk5 _ _ _ _ _));have hz:h1.objs.size=s⁻¹:=hs1.1;have hx1:h1.get? x=AM (xog C dx t tb cx kx):=(hs1.2.1 x hxf).trans hx;generalize ho:({ cls:=.type "traceback",dict:=AN,data:=.fields ([head,.ref L,.none,rawInt L,.none] ++ (if pl.isEmpty then aU 6 Value.none else pl)).toArray }:sL)=ob;have hx2:(h1.push ob).get? x=AM (xog C dx t tb cx kx):=ae _ hx1;refine tj hx2 rfl (by show 1<6;decide) ?_;have hne:h1.objs.size≠x:=bZ (aq hx1)
 have hx3:((h1.push ob).update x (Obj.mapFields (·.setIfInBounds 1 (Value.ref h1.objs.size)))).get? x=AM (xog C dx t (.ref h1.objs.size) cx kx) :=
  bJ (Obj.mapFields (·.setIfInBounds 1 (Value.ref h1.objs.size))) hx2 rfl
 have hT:((h1.push ob).update x (Obj.mapFields (·.setIfInBounds 1 (Value.ref h1.objs.size)))).get? h1.objs.size=AM ob :=
  (aD _ _ (Ne.symm hne)).trans (az h1 (by rw[<- ho];rfl))
 rw[hz]at hx3 hT hne
 have kp:∀b o,b≠x->h1.get? b=AM o->((h1.push ob).update x (Obj.mapFields (·.setIfInBounds 1 (Value.ref h1.objs.size)))).get? b=AM o:=λb o hb e =>
  (aD _ _ (Ne.symm hb)).trans (ae _ e)
 rw[hz]at kp ⊢;refine h _ ob _ hx3 hne hT (by rw[<- ho]) (by erw[aj,ak,aG,cA] <;> lia) (λb o hb hbf e=>kp b o hb ((hs1.2.1 b hbf).trans e)) λb o hb e=>?_;obtain⟨sl,q⟩:=hs1.2.2 b o e;exact#[sl,kp b _ hb q]
theorem ZK{tb:rY}{Q:Unit->rZ->Prop}(hfr:A.frames=AM (env0::outer))(hl:s.heap.FunFrames base (env0::outer))(hf:env0.frame=AM L)(he:env.frame=AM L)
  (hx:s.heap.get? x=AM (xog C dx t tb cx kx)) (htb:za9 s.heap x tb)
  (h:∀h' T oT ts,h'.get? x=AM (xog C dx t (.ref T) cx kx)->T≠x->(tb=.ref T\/s⁻¹<=T)->h'.get? T=AM oT->oT.data=.fields ts->3<ts.size ->
   (∀b o,b≠x->tb≠.ref b->b ∉ frs (env0::outer)->s.heap.get? b=AM o->h'.get? b=AM o)->(∀b o,b≠x->tb≠.ref b->s.heap.get? b=AM o->∃sl,h'.get? b=AM { o with slots:=sl })->Q () { s with heap:=h' }) :
  si M A (noteFrame (.ref x) env) (λ_ s1=>si M A (setFlight (.ref x) AN) Q E s1) E s:=by
 have land:∀(h1:su) (T:rX) (oT:sL) (ts:Array rY),h1.get? x=AM (xog C dx t (.ref T) cx kx)->T≠x->(tb=.ref T\/s⁻¹<=T)->h1.get? T=AM oT->oT.data=.fields ts->3<ts.size ->
   (∀b o,b≠x->tb≠.ref b->b ∉ frs (env0::outer)->s.heap.get? b=AM o->h1.get? b=AM o)->(∀b o,b≠x->tb≠.ref b->s.heap.get? b=AM o->∃sl,h1.get? b=AM { o with slots:=sl }) ->
   si M A (setFlight (.ref x) AN) Q E { s with heap:=h1 }:=λh1 T oT ts e1 nT oldT e2 d2 z2 k1 k2=>by
  unfold setFlight;refine rQ (sC (s:={ s with heap:=h1 }) e1 rfl (x:=.ref T) rfl ?_);rw[if_pos (show (Value.ref T != Value.none)=AO from by simp)];refine tj (s:={ s with heap:=h1 }) e2 d2 z2 ?_;have d3:=Obj.data_mapFields d2 (·.setIfInBounds 3 ((AN:Option rX).elim Value.none λf=>rawInt f))
  have nb:∀b,b≠x->tb≠.ref b->(∃o,s.heap.get? b=AM o)->b≠T:=λb hb hbt ⟨o,eo⟩ z=>by
   subst z;rcases oldT with q | q
   ·exact hbt q
   ·exact absurd (aq eo) (Nat.not_lt.mpr q)
  refine h _ T _ _ ((aD _ _ nT).trans e1) nT oldT (bJ _ e2 (Obj.isFreed_of_fields d3)) d3 (by simpa using z2) (λb o hb hbt hbf e=>?_) λb o hb hbt e=>?_
  ·exact (aD _ _ (Ne.symm (nb b hb hbt #[o,e]))).trans (k1 b o hb hbt hbf e)
  ·obtain⟨sl,q⟩:=k2 b o hb hbt e;exact#[sl,(aD _ _ (Ne.symm (nb b hb hbt #[o,e]))).trans q]
 unfold noteFrame
 erw[he]
 refine rQ (sC hx rfl (x:=tb) rfl ?_);rcases htb with rfl | ⟨T,oT,ts,rfl,nT,e2,d2,z2⟩
 ·rw[if_neg ∅];refine Zq hfr hl hf he hx λh' oT ts e1 ne e2 d2 z2 k1 k2=>land h' _ oT ts e1 ne (.inr (al _)) e2 d2 z2 (λb o hb _ hbf e=>k1 b o hb hbf e) λb o hb _ e=>k2 b o hb e
 ·rw[if_pos (show (Value.ref T != Value.none)=AO from by simp)];obtain⟨y,hy⟩:∃y,ts[3]? = AM y:=#[ts[3],by simp [z2]];refine rQ (sC e2 d2 (x:=y) hy ?_);by_cases c:(y == rawInt L)=AO
  ·rw[if_pos c];exact rR (land s.heap T oT ts hx nT (.inl rfl) e2 d2 z2 (λb o _ _ _ e=>e) λb o _ _ e=>#[o.slots,e])
  ·rw[if_neg c];refine rQ (tj e2 d2 z2 ?_);have oth:∀b,b≠T->(s.heap.update T (Obj.mapFields (·.setIfInBounds 3 Value.none))).get? b=s.heap.get? b:=λb hb=>aD _ _ (Ne.symm hb);have hl1:(s.heap.update T (Obj.mapFields (·.setIfInBounds 3 Value.none))).FunFrames base (env0::outer):=hl.of_keeps λb o hb hnf=>#[o,(oth b λq=>by rw[q,e2]at hb;cases hb;exact hnf ts d2).trans hb,rfl];have hsz:(s.heap.update T (Obj.mapFields (·.setIfInBounds 3 Value.none))).objs.size=s⁻¹:=dv ..;refine Zq (s:={ s with heap:=s.heap.update T (Obj.mapFields (·.setIfInBounds 3 Value.none)) }) hfr hl1 hf he ((oth x (Ne.symm nT)).trans hx) λh' oT' ts' e1 ne e2' d2' z2' k1 k2=>?_;refine land h' _ oT' ts' e1 ne (.inr (by rw[hsz];exact al _)) e2' d2' z2' (λb o hb hbt hbf e=>k1 b o hb hbf ((oth b λq=>hbt (by rw[q])).trans e)) λb o hb hbt e=>k2 b o hb ((oth b λq=>hbt (by rw[q])).trans e)
theorem zaX{tb:rY}{Q:Unit->rZ->Prop}(hfr:A.frames=AM (env0::outer))(hl:s.heap.FunFrames base (env0::outer))(hf:env0.frame=AM L)(he:env.frame=AM L)
  (hx:s.heap.get? x=AM (xog C dx t tb cx kx)) (htb:za9 s.heap x tb)
  (h:∀h' T oT ts,h'.get? x=AM (xog C dx t (.ref T) cx kx)->T≠x->(tb=.ref T\/s⁻¹<=T)->h'.get? T=AM oT->oT.data=.fields ts->3<ts.size ->
   (∀b o,b≠x->tb≠.ref b->b ∉ frs (env0::outer)->s.heap.get? b=AM o->h'.get? b=AM o)->(∀b o,b≠x->tb≠.ref b->s.heap.get? b=AM o->∃sl,h'.get? b=AM { o with slots:=sl })->Q () { s with heap:=h' }) :
  si M A (leaving env (.ref x)) Q E s:=rQ (ZK hfr hl hf he hx htb h)
end
def CXx(P:sj)(w:so):CXT:=λouter H s E e s'=>∃(x C t:rX) (dx:Option rX) (tb:rY) (H':Hp),e=.ref x/\s'.os=s.os/\tS s'.gens/\Un (frs outer) [] H H' s.heap s'.heap/\HOk P w H' s'.heap /\
 s'.heap.get? x=AM (xob C dx t tb)/\za9 s'.heap x tb/\H' x=AN/\s⁻¹<=x/\(∀T,tb=.ref T->H' T=AN/\s⁻¹<=T)/\E (.ref C) dx H'
def zcK(X:Cx)(E:XK)(e:rY)(s:rZ):Prop:=∃(AR:List (rX × sL)) (σ:St) (H:Hp) (x C t:rX) (dx:Option rX) (tb:rY),e=.ref x/\Inv X AR σ H s /\
 s.heap.get? x=AM (xob C dx t tb)/\za9 s.heap x tb/\wj X AR H x/\(∀T,tb=.ref T->wj X AR H T)/\E (.ref C) dx H
def XE(X:Cx)(E:XK):Prop:=∀e s,zcK X E e s->X.xe e s
theorem XJ{X:Cx}{E:XK}(hx:XE X E):uY (CXx X.prog X.w) X E:=by
 intro AR σ H s e s' I h;obtain⟨x,C,t,dx,tb,H',rfl,os,bare,un,hok,ob,tr,hn,hsz,hT,q⟩:=h;have I':Inv X AR σ H' s':=I.call' os un hok bare λb z=>absurd z (by simp);exact hx _ _ #[AR,σ,H',x,C,t,dx,tb,rfl,I',ob,tr,I.fpOk hsz hn,λT e=>I.fpOk (hT T e).2 (hT T e).1,q]
theorem zc2{P:sj}{w:so}{K:rW}{mg:sk->Option rY}{base:su}{N:List sk}{qual:sk}{scope:sU}{f:rX}{cd:rY}{A:sq}{outer:List Ad}{s:rZ}{H:Hp}{E:XK} :
  XE (qt (CXx P w) P w K mg base N qual scope f cd A outer s H E) E:=by
 intro e s1 h;obtain⟨AR,σ,H1,x,C,t,dx,tb,rfl,I,ob,tr,fx,fT,q⟩:=h;show si _ _ (leaving _ (.ref x)) _ _ s1;have ff:=I.stack;refine zaX (A:=(qt (CXx P w) P w K mg base N qual scope f cd A outer s H E).A) (env0:=tR qual scope s⁻¹ f cd) (outer:=outer) I.ok.frames ff rfl rfl ob tr λh' T oT ts e1 nT oldT e2 d2 z2 k1 k2=>?_;have szs:s⁻¹<=s1⁻¹:=I.sz
 have hxs:s⁻¹<=x:=by
  rcases fx.2.2.2.1 with z | z
  ·exact absurd z (by simp [qt])
  ·exact z
 have hTs:s⁻¹<=T/\H1 T=AN:=by
  rcases oldT with z | z
  ·obtain⟨a0,_,_,a3,_⟩:=fT T z;rcases a3 with y | y
   ·exact absurd y (by simp [qt])
   ·exact#[y,a0]
  ·exact#[aM szs z,I.hok.fresh z]
 have tbs:∀b,tb=.ref b->s⁻¹<=b/\H1 b=AN:=λb hb=>by
  obtain⟨a0,_,_,a3,_⟩:=fT b hb;rcases a3 with y | y
  ·exact absurd y (by simp [qt])
  ·exact#[y,a0]
 have old:∀b o,s.heap.get? b=AM o->b≠x/\tb≠.ref b:=λb o e=>by
  have hb:=aq e;refine#[ay (av hb hxs),λz=>?_];exact absurd (av hb (tbs b z).1) (cL _)
 have un:Un (frs outer) [] H H1 s.heap h':=by
  have B:=I.base;refine#[λb o e n hb _=>?_,λb o e n hb _=>?_,λb o e n _=>B.free b o e n (by simp [qt]),λb o e _=>?_,B.tups,B.frzs,B.tbls]
  ·have e1:=B.keep b o e n hb (by simp [qt]);refine k1 b o (old b o e).1 (old b o e).2 (λz=>?_) e1;have z':=I.stkSub b z;rcases AX.mp z' with q | q
   ·exact absurd q (ay (av (aq e) I.ok.above))
   ·exact hb q
  ·obtain⟨sl,e1⟩:=B.slot b o e n hb (by simp [qt]);obtain⟨sl',e2⟩:=k2 b _ (old b o e).1 (old b o e).2 e1;exact#[sl',e2]
  ·obtain⟨o',e1⟩:=B.there b o e (by simp [qt]);obtain⟨sl',e2⟩:=k2 b _ (old b o e).1 (old b o e).2 e1;exact#[_,e2]
 have hok:HOk P w H1 h':=λb u e=>by
  refine (I.hok b u e).stay (λc v hc q=>k1 c v ?_ ?_ ?_ q) (λ_ q=>q) λ_ _ q=>q
  ·rintro rfl;rcases hc with rfl | hc
   ·rw[fx.1]at e;cases e
   ·rw[fx.1]at hc;cases hc
  ·intro z;have:=(tbs c z).2;rcases hc with rfl | hc
   ·rw[this]at e;cases e
   ·rw[this]at hc;cases hc
  ·intro z;have:=I.stkFree c z;rcases hc with rfl | hc
   ·rw[this]at e;cases e
   ·rw[this]at hc;cases hc
 exact#[x,C,t,dx,.ref T,H1,rfl,I.os,I.bare,un,hok,e1,.inr #[T,oT,ts,rfl,nT,e2,d2,z2],fx.1,hxs,λT' z=>by cases z;exact#[hTs.2,hTs.1],q]
theorem Fun.okX{P:sj}{w:so}{K:rW}{mg:sk->Option rY}{base:su}{x qual:sk}{st:sv}{f:rX}{fd:sf}{N ps:List sk}{k:Nat}{sp:Sp}(F:Fun K x qual st f fd)(S:zk N ps (zh st))(len:∀vs H Q E,sp vs H Q E->vs.length=ps.length)
  (hbody:∀(cdv:rY) (A:sq) (outer:List Ad) (s:rZ) (H:Hp) (vs:List V) (Q:VK) (E:XK),Room k (A.deeper (tR qual (zh st) s⁻¹ f cdv))->XE (qt (CXx P w) P w K mg base N qual (zh st) f cdv A outer s H E) E->sp vs H Q E ->
   ∃t,PSs (qt (CXx P w) P w K mg base N qual (zh st) f cdv A outer s H E) (yc st) t/\t { nx:=λ_ H'=>Q .non H',rt:=Q } (start N vs) H):zQ P w K mg base (CXx P w) (k+1) f fd ps sp:=by
 obtain⟨oc,od,kV,doc,pm,an,cdv,ct,osl,rfl,lk,hcd⟩:=F.ex;exact JV lk hcd S len λA outer s H vs Q E hr hsp=>hbody cdv A outer s H vs Q E hr zc2 hsp
def zda(X:Cx)(E:XK)(e:rY)(s:rZ):Prop:=∃(cx:rY) (kx:Bool) (AR:List (rX × sL)) (σ:St) (H:Hp) (x C t:rX) (dx:Option rX) (tb:rY),e=.ref x/\Inv X AR σ H s /\
 s.heap.get? x=AM (xog C dx t tb cx kx)/\za9 s.heap x tb/\wj X AR H x/\(∀T,tb=.ref T->wj X AR H T)/\E (.ref C) dx H
def XEg(X:Cx)(E:XK):Prop:=∀e s,zda X E e s->X.xe e s
end L3
namespace L3
structure RoomH(k:Nat)(A:sq):Prop where
 dp:A.depth+3 * k+5<Ai
 un:A.units+16 * k+200<cLine
theorem RoomH.mark{k:Nat}{A:sq}(r:RoomH k A)(e:Option rY):RoomH k (A.mark e):=#[r.dp,r.un]
noncomputable def cxH(P:sj)(w:so)(K:rW)(mg:sk->Option rY)(base:su)(N:List sk)(qual:sk)(scope:sU)(f:rX)(cd:rY)(A:sq)(outer:List Ad)(s:rZ)(H:Hp):Cx :=
 { qt CX0 P w K mg base N qual scope f cd A outer s H E0 with calm:=AQ,xe:=λ_ _=>False }
section
variable{X:Cx}{k:Nat}{f:rX}{fd:sf}{ps:List sk}{sp:Sp}{x:sk}{p pos:tm}{e:sr}{es:List sr}{t:TA}
end
end L3
namespace L3
noncomputable abbrev bmV:List rY:=[.type "ValueError",.type "Exception",.type "BaseException",.type "object"]
noncomputable def ZP(K:rW)(C:rX):Bool:=match K.lookup C with
 | some ⟨.type "type",_,.cls cd,sl⟩=>(match cd.mro,sl.toList with
  | .ref C'::bm,[_,_,_,_,AM (.builtin n),_]=>C' == C && (n == "ValueError.__new__" && (!cd.hasDel && (cd.hasDict && PySem.W.tailIn K bmV bm)))
  | _,_=>AQ)
 | _=>AQ
theorem uj{K:rW}{C:rX}(q:ZP K C=AO):∃bm N nm qn bs sn sub ab col dd k0 k1 k2 k3 k5,K.lookup C=AM (Aj nm qn C N bs bm AO sn sub ab col dd k0 k1 k2 k3 k5 "ValueError.__new__")/\∀h:su,K.In h->OwnTail h bmV bm:=by
 unfold ZP at q;split at q
 ·rename_i dd cd sl ho;split at q
  ·rename_i C' bm k0 k1 k2 k3 n k5 hm hs
   erw[bE,beq_iff_eq,d9]at q
   obtain⟨rfl,rfl,hdel,hdct,ht⟩:=q;obtain⟨nm,bs,mro,ns,qn,hd,sn,sub,ab,col,del⟩:=cd;dsimp only at hm hdel hdct;subst hm hdel hdct
   have hsl:sl=(List.toArray [k0,k1,k2,k3,AM (.builtin "ValueError.__new__"),k5]):=by
    obtain⟨l⟩:=sl;simp only at hs;rw[hs]
   subst hsl;exact#[bm,ns,nm,qn,bs,sn,sub,ab,col,dd,k0,k1,k2,k3,k5,ho,λh X=>PySem.W.tail_of_in X ht]
  ·cases q
 ·cases q
structure XC(K:rW)(C:rX):Prop where
 ok:ZP K C=AO
 sa:af K (.ref C) "__setattr__" = AM (AM (.builtin "object.__setattr__"))
 ga:af K (.ref C) "__getattribute__" = AM (AM (.builtin "BaseException.__getattribute__"))
 gt:af K (.ref C) "__getattr__" = AM AN
 kp:aF K (.ref C)=AO
section
variable{prog:sj}{w:so}{A:sq}{R:Ak->rZ->Prop}{h:su}{g:Array AA}{d:Drawn}{t:Nat}{os:OsState}{K:rW}{C:rX}
theorem We{init:rY}{rest:List rY}(X:K.In h)(q:ZP K C=AO)(hi:af K (.ref C) "__init__" = AM (AM init))
  (hb:∀self,PySem.W.Looks (model prog w) h (bindSpecial init self) (init,[self])) (hrest:rest.length<=rV)
  (hq:tF (model prog w) (A.under (.builtin "type.__call__" #[.ref C::rest,[]])) (.call init #[.ref (h.objs.size+1)::rest,[]]) (PySem.W.InitBack (h.objs.size+1) R) #[(h.push { cls:=.type "tuple",data:=.seq rest.toArray }).push (xob C AN h.objs.size .none),g,d,t,os]) :
  tF (model prog w) A (.call (.ref C) #[rest,[]]) R #[h,g,d,t,os]:=by
 obtain⟨bm,N,nm,qn,bs,sn,sub,ab,col,dd,k0,k1,k2,k3,k5,lk,tl⟩:=uj q;have hC:=X _ _ lk;have T:=tl h X;have F:=d5;have f1:=tc_lookup;have f2:=tc_bind (.ref C);have hT:(#[h,g,d,t,os]:rZ).TypeIs (.ref C) "type":=#[_,hC,rfl];refine codeAny_of_tree ?_;show si _ _ (callAny (.ref C) _) _ _ _
 repeat (any_goals (first | assumption | with_reducible refine sS hC ?_ | wp_step))
 refine#[rfl,?_];refine codeAny_call_builtin_at (Code.quiet_builtin _ (by symm)) entry_typeCall (wpAny_check_type_call_sub hC ?_)
 repeat (first | with_reducible refine sS hC ?_ | with_reducible refine wpAny_madeBy_exc hC ?_ | wp_step)
 refine codeAny_call_builtin_code (Code.quiet_builtin _ F.quiet) (wpAny_check_new_subT F T hC ?_);refine codeAny_exc_new_subT F T hC ?_ hrest;show si _ _ _ _ _ _;have k:∀b o,h.get? b=AM o->((h.push { cls:=.type "tuple",data:=.seq rest.toArray }).push (xob C AN h.objs.size .none)).get? b=AM o:=λb o e=>ae _ (ae _ e);have hC1:=k _ _ hC;have hget:((h.push { cls:=.type "tuple",data:=.seq rest.toArray }).push (xob C AN h.objs.size .none)).get? (h.objs.size+1)=AM (xob C AN h.objs.size .none):=by heap_get
 have hcC:(Value.ref C::bm).contains (.ref C)=AO:=by simp
 unfold isInstance
 repeat (first | with_reducible refine sS hget ?_ | wp_step)
 refine tG (C:=C) hC1 ?_;rw[hcC]
 repeat wp_step
 show si _ _ (typeLookup (.ref C) _) _ _ _;refine ((cC X hi).keeps k).at ?_;refine sM (rQ (((hb _).keeps k).at ?_));refine rQ (tB (tE hq λr s' z=>?_));rcases r with e | (v | _ | _ | _) <;> first | exact z | exact z.elim | skip;obtain⟨rfl,z⟩:=z;exact rR (rR z)
end
end L3
namespace L3
noncomputable def XN(x C:rX)(dx:Option rX):HO:=.ext λh=>∃t,h.get? x=AM (xob C dx t .none)
noncomputable def XT(x C:rX)(dx:Option rX):HO:=.ext λh=>∃t tb c k,h.get? x=AM (xog C dx t tb c k)
noncomputable def XP(x C:rX)(dx:Option rX):HO:=.ext λh=>∃t tb,h.get? x=AM (xob C dx t tb)
theorem zdU{P:sj}{w:so}{H:Hp}{h:su}{x C t:rX}{dx:Option rX}(e:h.get? x=AM (xob C dx t .none)):ObjOk P w H h x (XN x C dx) :=
 #[#[t,e],#[_,e],λh1 h2 ⟨t,q⟩ k=>#[t,k _ q]]
theorem zdv{P:sj}{w:so}{H:Hp}{h:su}{x C t:rX}{dx:Option rX}{tb c:rY}{k:Bool}(e:h.get? x=AM (xog C dx t tb c k)):ObjOk P w H h x (XT x C dx) :=
 #[#[t,tb,c,k,e],#[_,e],λh1 h2 ⟨t,tb,c,k',q⟩ k=>#[t,tb,c,k',k _ q]]
theorem zdk{P:sj}{w:so}{H:Hp}{h:su}{x C:rX}{dx:Option rX}(o:ObjOk P w H h x (XN x C dx)):∃t,h.get? x=AM (xob C dx t .none):=o.1
theorem zeV{P:sj}{w:so}{H:Hp}{h:su}{x C:rX}{dx:Option rX}(o:ObjOk P w H h x (XT x C dx)):∃t tb c k,h.get? x=AM (xog C dx t tb c k):=o.1
section
variable{nm q:sk}{C N:rX}{bs bm:List rY}{hdct:Bool}{sn:List sk}{sub:List rY}{ab:Bool}{col:Option Bool}{dd:Option rX}{k0 k1 k2 k3 k5:Option rY}{newId:String}{h:su}{M:Ay}
theorem Yr(hC:h.get? C=AM (Aj nm q C N bs bm hdct sn sub ab col dd k0 k1 k2 k3 k5 newId))(base:rY):PySem.W.Looks M h (isSubtype (.ref C) base) ((Value.ref C::bm).contains base):=λA Q E s k z=>by
 obtain⟨hp,g,d,t,os⟩:=s;exact tG (k _ _ hC) z
theorem UC(hC:h.get? C=AM (Aj nm q C N bs bm hdct sn sub ab col dd k0 k1 k2 k3 k5 newId)):PySem.W.Looks M h (mroOf (.ref C)) (.ref C::bm):=λA Q E s k z=>by
 obtain⟨hp,g,d,t,os⟩:=s;exact wpAny_mroOf_exc (k _ _ hC) z
theorem Qh(hC:h.get? C=AM (Aj nm q C N bs bm hdct sn sub ab col dd k0 k1 k2 k3 k5 newId)):PySem.W.Looks M h (classData C) { name:=nm,bases:=bs,mro:=.ref C::bm,ns:=N,qualname:=q,hasDict:=hdct,slotNames:=sn,subclasses:=sub,abstract:=ab,collection:=col,hasDel:=AQ }:=λA Q E s k z=>by
 unfold classData;exact rQ (wpAny_load (k _ _ hC) (rR z))
theorem YY{bmB bm:List rY}(T:OwnTail h bmB bm)(self:rY)(hp:refuseLoop self "__setattr__" bmB=pure ()):refuseLoop self "__setattr__" bm=pure ():=by
 induction T with
 | base=>exact hp
 | own _ _ _ _ ih=>rw[refuseLoop_ref];exact ih
end
section
variable{X:Cx}{AR:List (rX × sL)}{σ:St}{H:Hp}{s:rZ}{A:sq}{E:rY->rZ->Prop}{x C:rX}{f:sk}{y:V}{u:rY}
theorem zby{Q:Unit->rZ->Prop}(I:Inv X AR σ H s)(e:H x=AM (XN x C AN))(xc:XC X.K C)(n:NoAttr X.K C f)(ry:RelV y u)
  (h:∀s' dx,H dx=AN->Inv X AR σ (upd (upd H dx (.xd [(f,y)])) x (XN x C (AM dx))) s'->Q () s'):si (model X.prog X.w) A (setAttr (.ref x) f u) Q E s:=by
 obtain⟨t,ob⟩:=zdk (I.hok x _ e);obtain⟨bm,N,nm,qn,bs,sn,sub,ab,col,dd,k0,k1,k2,k3,k5,lk,tl⟩:=uj xc.ok;have hC:=I.kIn _ _ lk;have T:=tl _ I.kIn;have SF:=PySem.F.store_ValueError;have J:PySem.W.InstAt s.heap x (xob C AN t .none) C AN:=#[ob,rfl,rfl,trivial];have hob:(Value.ref C::bm).contains (.type "object")=AO:=by rw[dh,T.hasType (show bmV.contains (.type "object")=AO by symm),dC]
 have isO:PySem.W.Looks (model X.prog X.w) s.heap (isInstance (.ref x) (.type "object")) AO:=J.type.andThen (by have:=Yr (M:=model X.prog X.w) hC (.type "object");rw[hob]at this;exact this);refine fJ I.kIn J xc.sa ?_;refine tP SF.slot.plain SF.entry (@PySem.W.check_slot (model X.prog X.w) _ _ { s with toks:=s.toks+1 } "object.__setattr__" "object" "__setattr__" (.ref x) [.str f s.toks,u] [] _ SF.kind SF.split isO (SF.args _ _ _) ?_);rw[PySem.W.osa_eq,refuse_eq];refine rQ (rQ (J.type.here (s:={ s with toks:=s.toks+1 }) (rQ ((UC hC).here (s:={ s with toks:=s.toks+1 }) ?_))));rw[refuseLoop_ref,YY T _ (SF.passes _)];refine rR (rQ (J.type.here (s:={ s with toks:=s.toks+1 }) (rQ ((cC I.kIn n).here (s:={ s with toks:=s.toks+1 }) (rQ (rR ?_))))));show si _ _ (Builtin.ObjectAttr.storeInOwnDict (.ref x) (.ref C) (.str f s.toks) f u AQ) _ _ _;have hx1:(s.heap.push { cls:=.type "dict",data:=.dict #[] }).get? x=AM (xob C AN t .none):=ae _ ob;have hxs:x≠s⁻¹:=ay (aq ob);refine rQ (rR (rQ (rQ (Ah ob (rQ ((Qh hC).here (s:={ s with toks:=s.toks+1 }) ?_))))));rw[if_neg (by simp)];show si _ _ (if (!AO || !typeHasDict (.ref C))=AO then _ else _) _ _ _;rw[if_neg (by simp [typeHasDict])]
 have hgd:((s.heap.push { cls:=.type "dict",data:=.dict #[] }).update x λo=>{ cls:=o.cls,dict:=AM s⁻¹,data:=o.data,slots:=o.slots }).get? s⁻¹=AM { cls:=.type "dict",data:=.dict #[] } :=
  (aD _ _ hxs).trans (Heap.get?_push_at rfl rfl)
 have hgx:((s.heap.push { cls:=.type "dict",data:=.dict #[] }).update x λo=>{ cls:=o.cls,dict:=AM s⁻¹,data:=o.data,slots:=o.slots }).get? x=AM (xob C (AM s⁻¹) t .none) :=
  bJ _ hx1 rfl
 have hnd:((s.heap.push { cls:=.type "dict",data:=.dict #[] }).update x λo=>{ cls:=o.cls,dict:=AM s⁻¹,data:=o.data,slots:=o.slots }).Ns s⁻¹ (λ_=>AN) :=
  #[_,#[],_,hgd,rfl,λe he=>absurd he (by simp),λ_=>rfl]
 refine rQ (wpAny_alloc' (rQ (wpAny_update' hx1 (rR ?_))));show si _ _ (Builtin.ObjectAttr.storeInDict s⁻¹ (.str f s.toks) f u) _ _ _;unfold Builtin.ObjectAttr.storeInDict Builtin.ObjectAttr.newKeyGuard;refine rQ (rR (rQ (wpAny_nsSet1 (Heap.Ns1.of_empty hnd) λh' hn' hs=>?_)));obtain⟨oD,esD,epD,hoD,hdD,hcD⟩:=hn'.count (Within.cons f u Within.nil);refine rQ (AC hoD (by rw[hdD];exact pastItsLine_dict (aM hcD (by rw[aG,cA,sK];lia))) ?_);refine rR ?_;have hx2:h'.get? x=AM (xob C (AM s⁻¹) t .none):=(hs.2 x hxs).trans hgx;have hfr:H s⁻¹=AN:=I.hok.fresh (al _);have hxe:x≠s⁻¹:=hxs;refine h _ s⁻¹ hfr ?_
 have k0:∀b o,b≠x->s.heap.get? b=AM o->h'.get? b=AM o:=λb o hb q =>
  (hs.2 b (ay (aq q))).trans ((aD _ _ (Ne.symm hb)).trans (ae _ q))
 have I1:Inv X AR σ (upd H x (XN x C (AM s⁻¹))) { s with heap:=h',toks:=s.toks+1+1 } :=
  I.write (x:=x) (e:=x) (by rw[e];exact True.intro) (.inl rfl) k0 ⟨_,hx2⟩ (zdU hx2)
 have hd2:ObjOk X.prog X.w (upd (upd H x (XN x C (AM s⁻¹))) s⁻¹ (.xd [(f,y)])) h' s⁻¹ (.xd [(f,y)]):=by
  refine#[_,hn',λg=>?_];show RelO (bc g [(f,y)]) (if g=f then AM u else AN);by_cases q:g=f
  ·subst q;rw[if_pos rfl];simp [bc,RelO,ry]
  ·rw[if_neg q];have q':(g == f)=AQ:=by simpa using q
   simp [bc,q',RelO]
 have fd:wj X AR (upd H x (XN x C (AM s⁻¹))) s⁻¹:=I.fpOk (al _) (by rw[zm (Ne.symm hxe)];exact hfr);have I2:=Inv.track I1 fd hd2
 have eH:upd (upd H x (XN x C (AM s⁻¹))) s⁻¹ (.xd [(f,y)])=upd (upd H s⁻¹ (.xd [(f,y)])) x (XN x C (AM s⁻¹)):=by
  funext b;unfold upd;by_cases b1:b=s⁻¹
  ·subst b1;rw[if_pos rfl,if_neg (Ne.symm hxe),if_pos rfl]
  ·by_cases b2:b=x
   ·subst b2;rw[if_neg b1,if_pos rfl,if_pos rfl]
   ·rw[if_neg b1,if_neg b2,if_neg b2,if_neg b1]
 rw[eH]at I2;exact I2
end
end L3
namespace L3
def zb4(K:rW)(ta tv:TE)(f:sk):TS:=λD σ H=>tv σ H λy H1=>ta σ H1 λo H2=>∃x C,o=.ref x/\H2 x=AM (XN x C AN)/\XC K C/\NoAttr K C f/\∀dx,H2 dx=AN->D.nx σ (upd (upd H2 dx (.xd [(f,y)])) x (XN x C (AM dx)))
section
variable{X:Cx}{o value:sr}{f:sk}{pos pos':tm}{ta tv:TE}
theorem VD(ha:PE X o ta)(hv:PE X value tv)(hs:swapsWith value (AM (.Attribute o f pos')) pos.line X.env=pure AQ):PS X (.Assign [.Attribute o f pos'] value pos) (zb4 X.K ta tv f):=by
 intro AR s σ H D I h;refine tM (thn (hv AR s σ H _ I h) λu s1 ⟨y,H1,I1,ry,q⟩=>thn (ha AR s1 σ H1 _ I1 q) λov s2 ⟨x',H2,I2,rx,x,C,ex,e,xc,n,q2⟩=>?_) hs;subst ex;obtain rfl:ov=Value.ref x:=rx;exact zby I2 e xc n ry λs3 dx hdx I3=>#[σ,_,I3,q2 dx hdx]
end
section
variable{M:Ay}{A:sq}{E:rY->rZ->Prop}{s:rZ}{env:Ad}
theorem QB{K:rW}{x:AF rY}{Q:Flow->rZ->Prop}(hh:A.handled=AN)
  (h:si M A x (λv s1=>∃e C t dx,v=.ref e/\K.In s1.heap/\ZP K C=AO/\s1.heap.get? e=AM (xob C dx t .none)/\E (.ref e) s1) E s):si M A (raiseStmt env (AM x) AN) Q E s:=by
 unfold raiseStmt;refine rQ (thn h λv s1 h1=>?_);obtain⟨e,C,t,dx,rfl,X,hC,he,hE⟩:=h1;obtain⟨bm,N,nm,qn,bs,sn,sub,ab,col,dd,k0,k1,k2,k3,k5,lk,tl⟩:=uj hC;have hCo:=X _ _ lk;have T:=tl _ X;have hcB:(Value.ref C::bm).contains (.type "BaseException")=AO:=by rw[dh,T.hasType (show bmV.contains (.type "BaseException")=AO by symm),dC]
 obtain⟨hp,g,d,tk,os⟩:=s1
 repeat (first | with_reducible refine sS he ?_ | with_reducible refine sS hCo ?_ | (with_reducible refine tG hCo ?_;rw[hcB]) | wp_step)
 exact wpAny_raiseNew_none hh hE
theorem QF{K:rW}{e:sr}{pos:tm}{Q:Flow->rZ->Prop}(hh:A.handled=AN)
  (h:si M A (eval e env) (λv s1=>∃a C t dx,v=.ref a/\K.In s1.heap/\ZP K C=AO/\s1.heap.get? a=AM (xob C dx t .none)/\E (.ref a) s1) E s):si M A (exec (.Raise (AM e) AN pos) env) Q E s:=by
 rw[arm_exec_Raise]
 first
  | exact rQ (sY (QB hh (rQ (thn h λv s1 h1=>rQ (sY (rR h1))))))
  | (erw[evalOpt,Option.map];exact rQ (sY (QB hh (rQ (thn h λv s1 h1=>rQ (sY (rR h1)))))))
end
noncomputable def del(H:Hp)(x:rX):Hp:=λb=>if b=x then AN else H b
theorem QC{H:Hp}{x b:rX}(h:b≠x):del H x b=H b:=if_neg h
theorem XO{H:Hp}{x:rX}:del H x x=AN:=if_pos rfl
section
variable{X:Cx}{AR:List (rX × sL)}{σ:St}{H:Hp}{s:rZ}
theorem Inv.untrack{x:rX}{φ:su->Prop}(I:Inv X AR σ H s)(e:H x=AM (.ext φ))(hs:X.s₀.heap.objs.size<=x):Inv X AR σ (del H x) s:=by
 have nx:∀b u,H b=AM u->(∀ψ,u≠.ext ψ)->b≠x:=λb u q nu z=>by subst z;rw[e]at q;cases q;exact nu _ rfl
 have hn:∀b,b≠x->del H x b=H b:=λb hb=>QC hb;have es:s={ s with heap:=s.heap,gens:=s.gens,drawn:=s.drawn,toks:=s.toks }:=rfl;rw[es]
 refine I.step (g':=s.gens) (d':=s.drawn) (ch:=[x]) (λb hb=>?_) (λb o _ _ _ q _=>q) (λb o _ _ _ q _=>#[o.slots,q]) (λb o hc _ n=>?_)
  (λb o _ q=>#[o,q]) (λb xs q=>?_) (λb u xs q=>?_) (λb ps q=>?_) (λm hm=>hm) (λb u q=>?_) I.bare
 ·have eb:b=x:=by simpa using hb
  subst eb;refine#[.inr hs,λz=>?_,λy c q z=>?_,λp hp z=>?_]
  ·rw[z,I.free]at e;cases e
  ·have:=I.freeC y c q;rw[z,e]at this;cases this
  ·have:=(I.pin p hp).2.1;rw[z,e]at this;cases this
 ·rw[hn b (by simpa using hc)];exact n
 ·rw[hn b (nx b _ q λ_ z=>by cases z)];exact q
 ·rw[hn b (nx b _ q λ_ z=>by cases z)];exact q
 ·exact#[#[],by rw[hn b (nx b _ q λ_ z=>by cases z),q];simp]
 ·by_cases hb:b=x
  ·subst hb;rw[XO]at q;cases q
  ·rw[hn b hb]at q;exact (I.hok b u q).stay (λc v _ z=>z) (λc z=>by rw[hn c (nx c _ z λ_ y=>by cases y)];exact z) λc xs z=>by rw[hn c (nx c _ z λ_ y=>by cases y)];exact z
theorem Vt{C:rX}{us:List rY}{E:rY->rZ->Prop}{Q:rY->rZ->Prop}(I:Inv X AR σ H s)(xc:ZP X.K C=AO)(hi:af X.K (.ref C) "__init__" = AM (AM (.builtin "ValueError.__init__")))(hl:us.length<=rV)
  (h:∀s' x t,s⁻¹<=x->Inv X AR σ H s'->s'.heap.get? x=AM (xob C AN t .none)->Q (.ref x) s'):si (model X.prog X.w) X.A (call (.ref C) us) Q E s:=by
 have F:=d5;obtain⟨bm,N,nm,qn,bs,sn,sub,ab,col,dd,k0,k1,k2,k3,k5,lk,tl⟩:=uj xc;have hC:=I.kIn _ _ lk;have T:=tl _ I.kIn;obtain⟨hp,g,d,t,os⟩:=s;have k:∀b o,hp.get? b=AM o->((hp.push { cls:=.type "tuple",data:=.seq us.toArray }).push (xob C AN hp.objs.size .none)).get? b=AM o:=λb o e=>ae _ (ae _ e);refine tB (We I.kIn xc hi (λself=>PySem.W.Looks.of_pure (F.init.bind self)) hl ?_);have hget:((hp.push { cls:=.type "tuple",data:=.seq us.toArray }).push (xob C AN hp.objs.size .none)).get? (hp.objs.size+1)=AM (xob C AN hp.objs.size .none):=by heap_get
 refine tP F.init.plain F.initEntry (wpAny_check_init_subT F (T.keeps k) (k _ _ hC) hget rfl ?_)
 wp_walk
 refine#[rfl,h _ (hp.objs.size+1) ((hp.push { cls:=.type "tuple",data:=.seq us.toArray }).push (xob C AN hp.objs.size .none)).objs.size (cP _) (I.kept (t':=t) λb o e=>?_) ?_]
 ·exact (aD _ _ (bZ (cS (aq e)))).trans (ae _ (k b o e))
 ·exact bJ (Obj.mapFields λx=>x.setIfInBounds 0 (Value.ref ((hp.push { cls:=.type "tuple",data:=.seq us.toArray }).push (xob C AN hp.objs.size .none)).objs.size)) (ae _ hget) rfl
def YZ(E:XK)(C:rX)(t:TA):TS:=λ_ σ H=>t σ H λvs H1=>vs.length<=rV/\E (.ref C) AN H1
theorem zY{E:XK}{C:rX}{cn:sk}{np cpos pos:tm}{e:sr}{es:List sr}{t:TA}(hx:XE X E)(hc:X.calm=AO)(xc:XC X.K C)(hi:af X.K (.ref C) "__init__" = AM (AM (.builtin "ValueError.__init__")))(hg:Gl X cn)(hm:X.mg cn=AM (.ref C))(ha:PA X (e::es) t)
  (hdb:(cn ==("__debug__" : sk))=AQ:=by decide) (he:rT (e::es) X.env=(AQ,eval e X.env)::rT es X.env:=by rfl) (hpl:(sB cpos (rT es X.env)).any (·.1)=AQ:=by rfl) :
  PS X (.Raise (AM (.Call (.Name cn np) (e::es) [] cpos)) AN pos) (YZ E C t):=by
 intro AR s σ H D I h;refine QF (K:=X.K) (I.ok.hd hc) (sJ (vE I hg hm ?_ hdb));refine bL (h₀:=X.base) I.ok.mod.kin xc.kp (thn (ha cpos AR s σ H _ I h) λus s1 ⟨vs,H1,I1,r,z,q⟩=>#[I1.kIn,?_]) he hpl;refine Vt (us:=[] ++ us) I1 xc.ok hi (by show us.length<=rV;rw[<- r.length];exact z) λs2 x t hz I2 ob=>#[x,C,t,AN,rfl,I2.kIn,xc.ok,ob,?_];exact hx _ _ #[AR,σ,H1,x,C,t,AN,.none,rfl,I2,ob,.inl rfl,I1.fpOk hz (I1.hok.fresh hz),λT z=>(by cases z),q]
theorem Uc{A:sq}{C:rX}{us:List rY}{k:Nat}(r:Room (k+1) A):Room k (A.under (.builtin "type.__call__" #[.ref C::us,[]])):=r.make C us []
def Xz(E:XK)(C:rX)(sp:Sp)(t:TA):TS:=λ_ σ H=>t σ H λvs H1=>vs.length<=rV/\∀x,H1 x=AN->sp (.ref x::vs) (upd H1 x (XN x C AN)) (λv H2=>v=.non/\∃dx,H2 x=AM (XN x C dx)/\E (.ref C) dx (del H2 x)) E0
theorem Yl{E:XK}{C f:rX}{fd:sf}{k:Nat}{ps:List sk}{sp:Sp}{cn:sk}{np cpos pos:tm}{e:sr}{es:List sr}{t:TA}(hx:XE X E)(hc:X.calm=AO)(xc:XC X.K C)(hi:af X.K (.ref C) "__init__" = AM (AM (.ref f)))(hfn:aS X.K (.ref f)=AO)
  (F:zQ X.prog X.w X.K X.mg X.base CX0 k f fd ps sp) (hr:Room (k+1) X.A) (hb:Binds X.K fd ps []) (hg:Gl X cn) (hm:X.mg cn=AM (.ref C)) (ha:PA X (e::es) t)
  (hdb:(cn ==("__debug__" : sk))=AQ:=by decide) (he:rT (e::es) X.env=(AQ,eval e X.env)::rT es X.env:=by rfl) (hpl:(sB cpos (rT es X.env)).any (·.1)=AQ:=by rfl) :
  PS X (.Raise (AM (.Call (.Name cn np) (e::es) [] cpos)) AN pos) (Xz E C sp t):=by
 intro AR s σ H D I h;refine QF (K:=X.K) (I.ok.hd hc) (sJ (vE I hg hm ?_ hdb));refine bL (h₀:=X.base) I.ok.mod.kin xc.kp (thn (ha cpos AR s σ H _ I h) λus s1 ⟨vs,H1,I1,r,z,q⟩=>#[I1.kIn,?_]) he hpl;have hl:us.length<=rV:=by rw[<- r.length];exact z
 have ob:((s1.heap.push { cls:=.type "tuple",data:=.seq us.toArray }).push (xob C AN s1⁻¹ .none)).get? (s1⁻¹+1)=AM (xob C AN s1⁻¹ .none):=by heap_get
 have hfr:H1 (s1⁻¹+1)=AN:=I1.hok.fresh (cP _)
 have I2:Inv X AR σ (upd H1 (s1⁻¹+1) (XN (s1⁻¹+1) C AN)) { s1 with heap:=(s1.heap.push { cls:=.type "tuple",data:=.seq us.toArray }).push (xob C AN s1⁻¹ .none) } :=
  I1.laid (t':=s1.toks) (λb o e=>ae _ (ae _ e)) (cP _) (zdU ob)
 have q1:=q _ hfr;have r2:Vals (V.ref (s1⁻¹+1)::vs) (Value.ref (s1⁻¹+1)::us):=.cons rfl r
 have hlen:(Value.ref (s1⁻¹+1)::us ++ ([]:List rY)).length=ps.length:=by
  rw[aW,<- r2.length];exact F.len _ _ _ _ q1
 have hb2:=hb { s1 with heap:=(s1.heap.push { cls:=.type "tuple",data:=.seq us.toArray }).push (xob C AN s1⁻¹ .none) } (Value.ref (s1⁻¹+1)::us) I2.kIn hlen;rw[aW]at hb2;have run:=F.run _ X.stack _ _ #[Value.ref (s1⁻¹+1)::us,[]] (Value.ref (s1⁻¹+1)::us) _ _ E0 (Uc (C:=C) (us:=us) hr) (I2.env0.make C us []) hb2 r2 q1;have sz0:X.s₀.heap.objs.size<=s1⁻¹+1:=aM I1.sz (cP _);show si (model X.prog X.w) X.A (call (.ref C) us) _ X.xe s1;refine tB ?_;refine We (h:=s1.heap) (g:=s1.gens) (d:=s1.drawn) (t:=s1.toks) (os:=s1.os) (rest:=us) I1.kIn xc.ok hi (λself=>fP I1.kIn self (beq_iff_eq.mp hfn)) hl (tE run λr s' hq=>?_)
 cases r with
 | error e=>exact False.elim hq
 | ok fl =>
  cases fl with
  | ret u =>
   obtain⟨v,H',I3,rv,ev,dx,hx3,q3⟩:=I2.after hq;subst ev;refine#[rv,?_];obtain⟨t,ob3⟩:=zdk (I3.hok _ _ hx3);have I4:=Inv.untrack I3 hx3 sz0;refine#[_,C,t,dx,rfl,I3.kIn,xc.ok,ob3,hx _ _ #[AR,σ,_,_,C,t,dx,.none,rfl,I4,ob3,.inl rfl,?_,λT z=>(by cases z),q3]];exact I1.fpOk (cP _) XO
  | next=>exact False.elim hq
  | brk=>exact False.elim hq
  | cont=>exact False.elim hq
end
end L3
namespace L3
def zbM(X:Cx)(AR:List (rX × sL))(σ:St)(E:XK)(e:rY)(s:rZ):Prop:=∃(cx:rY) (kx:Bool) (H:Hp) (x C t:rX) (dx:Option rX) (tb:rY),e=.ref x/\Inv X AR σ H s /\
 s.heap.get? x=AM (xog C dx t tb cx kx)/\za9 s.heap x tb/\wj X AR H x/\(∀T,tb=.ref T->wj X AR H T)/\E (.ref C) dx H
noncomputable abbrev TX:=St->Hp->VK->XK->Prop
def PEX(X:Cx)(e:sr)(t:TX):Prop :=
 ∀(AR:List (rX × sL)) (s:rZ) (σ:St) (H:Hp) (Q:VK) (E:XK),Inv X AR σ H s->t σ H Q E->si (model X.prog X.w) X.A (eval e X.env) (EP X AR σ Q) (zbM X AR σ E) s
section
variable{X:Cx}
variable{k:Nat}{f:rX}{fd:sf}{ps:List sk}{sp:Sp}{dvs:List V}{ds:List rY}{x:sk}{p pos:tm}{e:sr}{es:List sr}{t:TA}
theorem Jd(F:zQ X.prog X.w X.K X.mg X.base (CXx X.prog X.w) k f fd ps sp)(hr:Room k X.A)(hg:Gl X x)(hm:X.mg x=AM (.ref f))(hk:aF X.K (.ref f)=AO)(hb:Binds X.K fd ps ds)(hd:Vals dvs ds)
  (ha:PA X.nox (e::es) t) (hdb:(x ==("__debug__" : sk))=AQ:=by decide) (he:rT (e::es) X.env=(AQ,eval e X.env)::rT es X.env:=by rfl) (hpl:(sB pos (rT es X.env)).any (·.1)=AQ:=by rfl) :
  PEX X (.Call (.Name x p) (e::es) [] pos) (λσ H Q E=>t σ H λvs H1=>sp (vs ++ dvs) H1 Q E):=by
 intro AR s σ H Q E I h;refine sJ (vE I hg hm ?_ hdb);refine bL (h₀:=X.base) I.ok.mod.kin hk (sZ (thn (ha pos AR s σ H _ (I.wish _) h) λus s1 ⟨vs,H1,I1,r,q⟩=>#[I1.kIn,?_])) he hpl;have I1':Inv X AR σ H1 s1:=I1.unwish;have r2:Vals (vs ++ dvs) (us ++ ds):=r.append hd;have hl:(us ++ ds).length=ps.length:=by rw[<- r2.length];exact F.len _ _ _ _ q
 refine tB (tE (F.run X.A X.stack s1 H1 #[us,[]] (us ++ ds) (vs ++ dvs) Q E hr I1'.env0 (hb s1 us I1'.kIn hl) r2 q) λr s' hq=>?_)
 cases r with
 | error e =>
  obtain⟨x,C,t,dx,tb,H',rfl,os,bare,un,hok,ob,tr,hn,hsz,hT,q⟩:=hq;exact#[.none,AQ,H',x,C,t,dx,tb,rfl,I1'.call' os un hok bare (λb z=>absurd z (by simp)),ob,tr,I1'.fpOk hsz hn,λT e=>I1'.fpOk (hT T e).2 (hT T e).1,q]
 | ok fl =>
  cases fl with
  | ret u=>exact I1'.after hq
  | next=>exact False.elim hq
  | brk=>exact False.elim hq
  | cont=>exact False.elim hq
end
noncomputable abbrev Cx.suite(X:Cx)(e:rY):Cx:={ X with A:=X.A.mark (AM e),calm:=AQ,xe:=λ_ _=>False }
theorem Inv.suite{X:Cx}{AR:List (rX × sL)}{σ:St}{H:Hp}{s:rZ}(I:Inv X AR σ H s)(e:rY):Inv (Cx.suite X e) AR σ H s :=
 #[#[I.ok.mod,I.ok.kind,I.ok.glob,I.ok.blt,I.ok.above,I.ok.inj,I.ok.has,I.ok.cab,λz=>absurd z (by simp [Cx.suite]),I.ok.frames,I.ok.stk,I.ok.exf,I.ok.bs,I.ok.bsz,I.ok.noex,I.ok.exfs,I.ok.funs,I.ok.frf],
  I.os,I.bare,I.base,I.loc,I.cell,I.free,I.freeC,I.pin,I.hok,I.len]
theorem Inv.unsuite{X:Cx}{AR:List (rX × sL)}{σ σ':St}{H H':Hp}{s s':rZ}{e:rY}(J:Inv X AR σ' H' s')(I:Inv (Cx.suite X e) AR σ H s):Inv X AR σ H s :=
 #[J.ok,I.os,I.bare,I.base,I.loc,I.cell,I.free,I.freeC,I.pin,I.hok,I.len]
section
variable{X:Cx}{AR:List (rX × sL)}{σ:St}{H:Hp}{s:rZ}
end
theorem zdy{M:Ay}{A:sq}{E:rY->rZ->Prop}{K:rW}{s:rZ}{x C D t:rX}{dx:Option rX}{tb cx:rY}{kx:Bool}{b:Bool}{Q:Bool->rZ->Prop}(X:K.In s.heap)(hD:ZP K D=AO)(he:s.heap.get? x=AM (xog C dx t tb cx kx))
  (hs:cY K (.ref C) (.ref D)=AM b) (h:Q b s):si M A (excMatches (.ref x) (.ref D)) Q E s:=by
 obtain⟨bm,N,nm,qn,bs,sn,sub,ab,col,dd,k0,k1,k2,k3,k5,lk,tl⟩:=uj hD;have hDo:=X _ _ lk;have T:=tl _ X;have hcB:(Value.ref D::bm).contains (.type "BaseException")=AO:=by rw[dh,T.hasType (show bmV.contains (.type "BaseException")=AO by symm),dC]
 have L:=PySem.W.looks_subIn (M:=M) X hs;have f:=tc_notTuple;obtain⟨hp,g,d,tk,os⟩:=s;unfold excMatches
 repeat (first | with_reducible refine sS he ?_ | with_reducible refine sS hDo ?_ | (with_reducible refine tG hDo ?_;rw[hcB]) | (with_reducible refine PySem.W.Looks.at L ?_) | wp_step)
 cases b with
 | false=>exact rR (rR (rR h))
 | true=>exact rR (rR (rR h))
section
variable{X:Cx}
noncomputable def tbL:rY->List rX
 | .ref b=>[b]
 | _=>[]
end
end L3
namespace L3
section
variable{prog:sj}{w:so}{A:sq}{E:rY->rZ->Prop}{s:rZ}{K:rW}{x C:rX}{ox:sL}{od:Option sL}{name:sk}{tk:tT}
theorem zcL{fill expr:Bool}{Q:rY->rZ->Prop}(X:K.In s.heap)(xc:XC K C)(J:PySem.W.InstAt s.heap x ox C od)
  (h:si (model prog w) A.in1 (Builtin.«object.__getattribute__» #[[.ref x,.str name tk],[]]) (λfin s'=>match fin with | .done (.ret v)=>si (model prog w) A (handedOut v) Q E s' | _=>False) (λ_ _=>False) s) :
  si (model prog w) A (getAttrBy (.ref x) (.str name tk) fill expr) Q E s:=by
 obtain⟨bm,N,nm,qn,bs,sn,sub,ab,col,dd,k0,k1,k2,k3,k5,lk,tl⟩:=uj xc.ok;have hC:=X _ _ lk;have T:=tl _ X;have FB:=PySem.F.attrBase_ValueError;have L0:=J.type (M:=model prog w);have L1:=cC (M:=model prog w) X xc.ga;have L2:=cC (M:=model prog w) X xc.gt;have hcB:(Value.ref C::bm).contains (.type "BaseException")=AO:=by rw[dh,T.hasType (show bmV.contains (.type "BaseException")=AO by symm),dC]
 have isB:PySem.W.Looks (model prog w) s.heap (isInstance (.ref x) (.type "BaseException")) AO:=L0.andThen (by have:=Yr (M:=model prog w) hC (.type "BaseException");rw[hcB]at this;exact this);have f3:=FB.ga.bind (.ref x);have hx0:(expr && onTheHeap (Value.builtin "BaseException.__getattribute__"))=AQ:=by cases expr <;> rfl
 have hx2:(Value.builtin "BaseException.__getattribute__" == Value.builtin "object.__getattribute__")=AQ:=by symm
 have hx1:(onTheHeap (Value.ref C) && Value.builtin "BaseException.__getattribute__" == Value.builtin "object.__getattribute__")=AQ:=by rw[hx2];rfl
 unfold getAttrBy;refine sM (rQ (L0.here (rQ (L1.here ?_))));show si _ _ (if (onTheHeap (Value.ref C) && Value.builtin "BaseException.__getattribute__" == Value.builtin "object.__getattribute__")=AO then _ else _) _ _ _;rw[hx1,if_neg aw];unfold getAttrByItsOwn hookBefore;rw[if_pos (by rfl)];refine rQ (L2.here (rQ (tO (sM ?_))));unfold callGetattribute;rw[hx0,if_neg aw];unfold boundAndCalled;rw[f3];refine rQ (rR ?_);show si (model prog w) A (call (.builtin "BaseException.__getattribute__") [.ref x,.str name tk]) _ _ s;refine tB (tP FB.ga.plain PySem.F.entry_bexc_ga (@PySem.W.check_slot (model prog w) _ _ s "BaseException.__getattribute__" "BaseException" "__getattribute__" (.ref x) [.str name tk] [] _ (by symm) (by symm) isB (PySem.F.args_bexc_ga _ _) ?_));refine tz h (λfin s' z=>?_) λ_ _ z=>z.elim;rcases fin with (_ | _ | _ | v) | _ <;> first | exact z | exact z.elim
theorem KY{Q:Option rY->rZ->Prop}(X:K.In s.heap)(xc:XC K C)(J:PySem.W.InstAt s.heap x ox C od)(ha:af K (.ref C) "__class__" = AM (AM (.builtin "object.__class__")))
  (hn:cB K (.builtin "object.__class__") "__get__" = AM (AM (.builtin "getset_descriptor.__get__"))) (htk:dA K (.builtin "object.__class__")=AM AO) (hm:bt K C (.type "object")=AM AO)
  (h:Q (AM (.ref C)) { s with toks:=s.toks+1 }):si (model prog w) A (getAttr? (.ref x) "__class__") Q E s:=by
 have hf:fQ K C od "__class__" = AM (.bind (.builtin "getset_descriptor.__get__") (.builtin "object.__class__")):=by
  obtain⟨bm,N,nm,qn,bs,sn,sub,ab,col,dd,k0,k1,k2,k3,k5,lk,tl⟩:=uj xc.ok;have hcl:(PySem.W.clsIn K C).isSome=AO:=by unfold PySem.W.clsIn;rw[lk];rfl
  obtain⟨cd,hc⟩:=Bg.mp hcl;unfold fQ;rw[hc,cu,ha,cu];simp [hn,htk]
 unfold getAttr? getAttrBy?;refine rQ (wpAny_mkText (rQ (tO (zcL (s:={ s with toks:=s.toks+1 }) X xc J ?_))));have L0:=J.type (M:=model prog w);have L1:=PySem.W.looks_find (M:=model prog w) X J hf;unfold Builtin.«object.__getattribute__»;refine rQ (rR (rQ (rR (rQ (L0.here (s:={ s with toks:=s.toks+1 }) (rQ (L1.here (s:={ s with toks:=s.toks+1 }) ?_)))))));show si _ _ (holding [.builtin "object.__class__"] (call (.builtin "getset_descriptor.__get__") [.builtin "object.__class__",.ref x,.ref C]) >>= ret) _ _ _;refine rQ (sM (tB (PySem.W.class_get (s:={ s with toks:=s.toks+1 }) X J hm ?_)));refine rR ?_;show si _ _ (handedOut (.ref C)) _ _ _;rw[PySem.W.handedOut_of rfl];exact rR (rR h)
end
structure XI(K:rW)(C:rX):Prop extends XC K C where
 ca:af K (.ref C) "__class__" = AM (AM (.builtin "object.__class__"))
 cg:cB K (.builtin "object.__class__") "__get__" = AM (AM (.builtin "getset_descriptor.__get__"))
 ct:dA K (.builtin "object.__class__")=AM AO
 mo:bt K C (.type "object")=AM AO
theorem zdn{h:su}{x C t:rX}{tb c:rY}{k:Bool}(ob:h.get? x=AM (xog C AN t tb c k)):PySem.W.InstAt h x (xog C AN t tb c k) C AN:=#[ob,rfl,rfl,trivial]
theorem zeF{K:rW}{x C:rX}{dx:Option rX}(xi:XI K C):PySem.W.KitX K (.ref x) (.ref C) (λh=>(∃t tb c k,h.get? x=AM (xog C dx t tb c k))/\∀d,dx=AM d->∃o,h.get? d=AM o) where
 ty:=λM h X ⟨⟨t,tb,c,k',ob⟩,_⟩=>(PySem.W.Looks.ld ob).andThen .now
 it:=λM h X _=>by
  obtain⟨bm,N,nm,qn,bs,sn,sub,ab,col,dd,k0,k1,k2,k3,k5,lk,tl⟩:=uj xi.ok;intro A' Q' E' s' k q;unfold isType loadHead;exact rQ (Ah (k _ _ (X _ _ lk)) (rR q))
 ne:=λh tp dd its n sl X htp=>by
  obtain⟨bm,N,nm,qn,bs,sn,sub,ab,col,dd,k0,k1,k2,k3,k5,lk,tl⟩:=uj xi.ok;refine Bool.eq_false_iff.mpr λq=>?_;have e:C=tp:=Value.ref.inj (beq_iff_eq.mp q);subst e;have z:=congrArg (λo:Option sL=>o.map λo=>match o.data with | .cls _=>AO | _=>AQ) ((X _ _ lk).symm.trans htp);exact absurd (show AO=AQ from Option.some.inj z) ∅
 ca:=λ{prog w A E Q s} X ⟨⟨t,tb,c,k',ob⟩,hd⟩ k=>by
  cases dx with
  | none=>exact KY X xi.toXC (zdn ob) xi.ca xi.cg xi.ct xi.mo k
  | some d =>
   obtain⟨o,e⟩:=hd d rfl;exact KY (od:=AM o) X xi.toXC #[ob,rfl,rfl,e] xi.ca xi.cg xi.ct xi.mo k
section
variable{X:Cx}
def XAt(H:Hp)(x C:rX)(dx:Option rX)(fs:List (sk × V)):Prop:=H x=AM (XT x C dx)/\((dx=AN/\fs=[])\/∃d,dx=AM d/\H d=AM (.xd fs))
theorem Ue:vo X (.builtin "isinstance") (λxs H Q=>∃x C dx fs c u b,xs=[.ref x,c]/\cV c=AM u/\XAt H x C dx fs/\XI X.K C/\aL X.K (.ref C) u=AM b/\Q (.bl b) H):=by
 intro AR s σ H xs us Q I r h;obtain⟨x,C,dx,fs,c,u,b,rfl,hc,⟨hx,hd⟩,xi,e,q⟩:=h;obtain⟨v,w',rfl,rx,rc⟩:=VG r;cases rx
 have:w'=u:=by
  cases c with
  | ty n=>cases hc;exact rc
  | ref a=>cases hc;exact rc
  | _=>cases hc
 subst this;refine ba (zeF (dx:=dx) xi) I.kIn #[zeV (I.hok _ _ hx),λd z=>?_] e (λz=>nomatch z) λtk=>#[.bl b,H,I.tok tk,rfl,q];rcases hd with ⟨z',_⟩ | ⟨d',z',hd'⟩
 ·rw[z']at z;cases z
 ·rw[z']at z;cases z;obtain⟨mA,⟨o,es,ep,ho,_⟩,_⟩:=I.hok _ _ hd';exact#[o,ho]
end
end L3
namespace L3
structure Df(P:sj)(w:so)(K:rW)(mg:sk->Option rY)(base:su)(CX:CXT)(k:Nat)(nm:sk)(ps:List sk)(ds:List rY)(sp:Sp):Prop where
 ex:∃f fd,zQ P w K mg base CX k f fd ps sp/\mg nm=AM (.ref f)/\aF K (.ref f)=AO/\Binds K fd ps ds
structure Bt(mg:sk->Option rY):Prop where
 len:mg "len" = AN
 range:mg "range" = AN
 isi:mg "isinstance" = AN
 str:mg "str" = AN
 int:mg "int" = AN
 tuple:mg "tuple" = AN
 list:mg "list" = AN
 bool:mg "bool" = AN
 enum:mg "enumerate" = AN
 all:mg "all" = AN
 verr:mg "ValueError" = AN
 max:mg "max" = AN
 rev:mg "reversed" = AN
 zip:mg "zip" = AN
 sum:mg "sum" = AN
 sorted:mg "sorted" = AN
section
variable{X:Cx}{CX:CXT}{k:Nat}{ps:List sk}{sp:Sp}{ds:List rY}{dvs:List V}{E:XK}{x:sk}{p pos:tm}{e:sr}{es:List sr}{t:TA}
theorem cl0{j:Nat}(D:Df X.prog X.w X.K X.mg X.base CX0 k x ps ds sp)(hr:Room j X.A)(hd:Vals dvs ds)(hg:Gl X x)(ha:PA X (e::es) t)(hdb:(x ==("__debug__" : sk))=AQ:=by decide)(he:rT (e::es) X.env=(AQ,eval e X.env)::rT es X.env:=by rfl)
  (hpl:(sB pos (rT es X.env)).any (·.1)=AQ:=by rfl) (hj:k<=j:=by decide):PE X (.Call (.Name x p) (e::es) [] pos) (qb sp dvs E0 t):=by
 obtain⟨f,fd,F,hm,hk,hb⟩:=D.ex;exact UD F (hr.mono hj) hg hm hk hb hd Xe ha hdb he hpl
theorem clX{j:Nat}(D:Df X.prog X.w X.K X.mg X.base (CXx X.prog X.w) k x ps ds sp)(hr:Room j X.A)(hd:Vals dvs ds)(hg:Gl X x)(ha:PA X.nox (e::es) t)(hdb:(x ==("__debug__" : sk))=AQ:=by decide)(he:rT (e::es) X.env=(AQ,eval e X.env)::rT es X.env:=by rfl)
  (hpl:(sB pos (rT es X.env)).any (·.1)=AQ:=by rfl) (hj:k<=j:=by decide):PEX X (.Call (.Name x p) (e::es) [] pos) (λσ H Q E=>t σ H λvs H1=>sp (vs ++ dvs) H1 Q E):=by
 obtain⟨f,fd,F,hm,hk,hb⟩:=D.ex;exact Jd F (hr.mono hj) hg hm hk hb hd ha hdb he hpl
theorem clP{j:Nat}(hx:XE X E)(D:Df X.prog X.w X.K X.mg X.base (CXx X.prog X.w) k x ps ds sp)(hr:Room j X.A)(hd:Vals dvs ds)(hg:Gl X x)(ha:PA X (e::es) t)(hdb:(x ==("__debug__" : sk))=AQ:=by decide)(he:rT (e::es) X.env=(AQ,eval e X.env)::rT es X.env:=by rfl)
  (hpl:(sB pos (rT es X.env)).any (·.1)=AQ:=by rfl) (hj:k<=j:=by decide):PE X (.Call (.Name x p) (e::es) [] pos) (qb sp dvs E t):=by
 obtain⟨f,fd,F,hm,hk,hb⟩:=D.ex;exact UD F (hr.mono hj) hg hm hk hb hd (XJ hx) ha hdb he hpl
end
def TyX(K:rW)(H:Hp)(x:V)(t:rY):Prop:=XW K H x t\/(∃a C dx fs,x=.ref a/\t=.ref C/\XAt H a C dx fs/\XI K C)\/(∃a xs,x=.ref a/\t=.type "list"/\SqL K H a xs)\/∃a xs,x=.ref a/\t=.type "tuple"/\SqT K H a xs
def zec(K:rW):List V->Hp->VK->Prop:=λxs H Q=>∃x c u t b,xs=[x,c]/\cV c=AM u/\TyX K H x t/\aL K t u=AM b/\Q (.bl b) H
theorem ze8{X:Cx}:vo X (.builtin "isinstance") (zec X.K):=by
 intro AR s σ H xs us Q I r h;obtain⟨x,c,u,t,b,rfl,hc,ty,e,q⟩:=h;rcases ty with ty | ⟨a,C,dx,fs,rfl,rfl,ha,xi⟩ | ⟨a,ys,rfl,rfl,hq⟩ | ⟨a,ys,rfl,rfl,hq⟩
 ·exact Kl AR s σ H _ us Q I r #[x,c,u,t,b,rfl,hc,ty,e,q]
 ·exact Ue AR s σ H _ us Q I r #[a,C,dx,fs,c,u,b,rfl,hc,ha,xi,e,q]
 all_goals
  obtain⟨v,w',rfl,rx,rc⟩:=VG r
  have:w'=u:=by
   cases c with
   | ty n=>cases hc;exact rc
   | ref a=>cases hc;exact rc
   | _=>cases hc
  subst this;cases rx
 ·obtain⟨its,_,p,_⟩:=I.list hq;obtain⟨o,h1,h2,_⟩:=p.isList;exact ba d8 I.kIn #[o,h1,h2] e (λz=>nomatch z) λtk=>#[.bl b,H,I.tok tk,rfl,q]
 ·obtain⟨its,_,p,_⟩:=I.tuple hq;obtain⟨o,h1,h2,_⟩:=p;exact ba fA I.kIn #[o,h1,h2] e (λz=>nomatch z) λtk=>#[.bl b,H,I.tok tk,rfl,q]
theorem yu{X:Cx}{e:sr}{te:TE}{c:sk}{n:String}{p q pos:tm}(h1:Gl X "isinstance")(h2:X.mg "isinstance" = AN)(he:PE X e te)(hg:Gl X c)(hm:X.mg c=AN)(hv:sN c=AM (.type n))(hn:c≠"__name__":=by decide)(hd:(c ==("__debug__" : sk))=AQ:=by decide)
  (hs1:rT [e,.Name c q] X.env=(AQ,eval e X.env)::rT [.Name c q] X.env:=by rfl) (hs3:rT [.Name c q] X.env=(AQ,eval (.Name c q) X.env)::rT [] X.env:=by rfl) (hs2:(sB pos (rT [.Name c q] X.env)).any (·.1)=AQ:=by rfl):PE X (.Call (.Name "isinstance" p) [e,.Name c q] [] pos) (tCB (zec X.K) (zL te (zL (tC (.ty n)) xR))) :=
 xx ze8 h1 h2 boot_isinstance (za he (za (zbT hg hm hv rfl hn hd) zd hs3) hs1) (he:=hs1) (hpl:=hs2)
theorem KS{a:rX}:cV (.ref a)=AM (.ref a):=rfl
theorem zcR{n:String}:cV (.ty n)=AM (.type n):=rfl
theorem zer{P w K mg base N q sc f cd A o s H}:(cxH P w K mg base N q sc f cd A o s H).K=K:=rfl
def Wv:V->List V->Hp->VK->Prop:=λx xs H Q=>∃z y,x=.str z/\xs=[.str y]/\Q (.int (Txt.count z y)) H
theorem Uo{X:Cx}:MtR X "str.count" Wv:=J0
def zbg:V->List V->Hp->VK->Prop:=λx xs H Q=>∃z y,x=.str z/\xs=[.str y]/\Q (.int (Txt.find z y)) H
theorem zc1{X:Cx}:MtR X "str.find" zbg:=zbH
theorem Y5(l:List Nat)(c:Nat):Txt.count (tx l) (tx [c])=(l.count c:Int):=by
 have h:∀l:List Nat,cnt c l=(l.count c:Int):=λl=>by
  induction l with
  | nil=>rfl
  | cons n r ih =>
   rw[cnt_cons,ih,List.count_cons];by_cases e:n=c
   ·subst e;simp;lia
   ·have:(n == c)=AQ:=by simpa using e
    simp [e,this]
 exact (PyProof.Rows.count_is (tx l) c).trans (h l)
theorem lt1{a b:Nat}:([a]:List Nat) < [b] ↔ a<b:=by rw[List.cons_lt_cons_iff];exact#[λh=>h.elim id λ⟨_,q⟩=>absurd q (List.not_lt_nil _),.inl]
theorem Qq{l:List Nat}{k v:Nat}(h:l[k]? = AM v):(v::(l.take k ++ l.drop (k+1))).Perm l:=by
 obtain⟨hk,e⟩:=AU.mp h
 have e2:l.take k ++ (v::l.drop (k+1))=l:=by
  rw[<- e,<- aT hk,bW]
 exact (List.perm_middle.symm.trans (by rw[e2]))
def Vc(K:rW):List V->Hp->VK->Prop:=λxs H Q=>match xs with
 | [.str z]=>z.length<=rV/\Q (.int z.length) H
 | [.ref a]=>∃n:Nat,((∃xs,SqL K H a xs/\n=xs.length)\/∃xs,SqT K H a xs/\n=xs.length)/\Q (.int n) H
 | xs=>∃x n,xs=[x]/\zde K x H n/\Q (.int n) H
theorem rLen_is{K:rW}{xs:List V}{H:Hp}{Q:VK}:Vc K xs H Q=∃x n,xs=[x]/\zde K x H n/\Q (.int n) H:=by
 unfold Vc;split
 ·exact propext #[λh=>#[_,_,rfl,#[h.1,rfl],h.2],λ⟨_,_,e,h,q⟩=>by cases e;obtain⟨h,rfl⟩:=h;exact#[h,q]]
 ·exact propext #[λ⟨n,h,q⟩=>#[_,n,rfl,h,q],λ⟨_,n,e,h,q⟩=>by cases e;exact#[n,h,q]]
 ·rfl
theorem zep{X:Cx}:vo X (.builtin "len") (Vc X.K):=λAR s σ H xs us Q I r h=>Kn AR s σ H xs us Q I r (rLen_is.mp h)
def ForR(lo:Int)(n:Nat)(g:TG)(tb:TS)(D:vN)(σ:St)(H:Hp):Prop:=∃W:Nat->Nat->St->Hp->Prop,(∃m,W 0 m σ H)/\∀i m σ H,W i m σ H ->
 ((Itr lo n).stop i H/\D.nx σ H)\/((Itr lo n).go i H/\∃N:St->Hp->Prop,(∀σ' H',N σ' H'->∃m',m'<m/\W (i+1) m' σ' H')/\∀x H',(Itr lo n).yld i H x H'->g x σ H' λσ2 H2=>tb { D with nx:=N,ct:=N,bk:=D.nx } σ2 H2)
theorem zcE{ta:TA}{g:TG}{tb:TS}{D:vN}{σ:St}{H:Hp}:Ju (zbP ta) g tb D σ H=ta σ H λvs H1=>∃j:Int,vs=[.int j]/\-(2 ^ 62)<=j/\j<2 ^ 62/\ForR 0 j.toNat g tb D σ H1:=rfl
theorem zds{ta:TA}{g:TG}{tb:TS}{D:vN}{σ:St}{H:Hp}:Ju (zc3 ta) g tb D σ H=ta σ H λvs H1=>∃i j:Int,vs=[.int i,.int j]/\(-(2 ^ 62)<=i/\i<2 ^ 62/\-(2 ^ 62)<=j/\j<2 ^ 62)/\ForR i (j - i).toNat g tb D σ H1:=rfl
theorem ForR.by{lo:Int}{n:Nat}{g:TG}{tb:TS}{D:vN}{σ:St}{H:Hp}(Pv:Nat->St->Hp->Prop)(h0:Pv 0 σ H)
  (hs:∀i σ H,i<n->Pv i σ H->g (.int (lo+i)) σ H λσ2 H2=>tb { D with nx:=Pv (i+1),ct:=Pv (i+1),bk:=D.nx } σ2 H2) (hd:∀σ H,Pv n σ H->D.nx σ H):ForR lo n g tb D σ H:=QQ Pv h0 hs hd
def ForL(K:rW)(a:rX)(g:TG)(tb:TS)(D:vN)(σ:St)(H:Hp):Prop:=∃W:Nat->Nat->St->Hp->Prop,(∃m,W 0 m σ H)/\∀i m σ H,W i m σ H ->
 ((Itl K a).stop i H/\D.nx σ H)\/((Itl K a).go i H/\∃N:St->Hp->Prop,(∀σ' H',N σ' H'->∃m',m'<m/\W (i+1) m' σ' H')/\∀x H',(Itl K a).yld i H x H'->g x σ H' λσ2 H2=>tb { D with nx:=N,ct:=N,bk:=D.nx } σ2 H2)
theorem zfu{K:rW}{tl:TE}{g:TG}{tb:TS}{D:vN}{σ:St}{H:Hp}:Ju (za1 K tl) g tb D σ H=tl σ H λx H1=>∃a,x=.ref a/\(∃xs,SqL K H1 a xs)/\ForL K a g tb D σ H1:=rfl
def ForS(x:sk)(g:TG)(tb:TS)(D:vN)(σ:St)(H:Hp):Prop:=∃W:Nat->Nat->St->Hp->Prop,(∃m,W 0 m σ H)/\∀i m σ H,W i m σ H ->
 ((Its x).stop i H/\D.nx σ H)\/((Its x).go i H/\∃N:St->Hp->Prop,(∀σ' H',N σ' H'->∃m',m'<m/\W (i+1) m' σ' H')/\∀v H',(Its x).yld i H v H'->g v σ H' λσ2 H2=>tb { D with nx:=N,ct:=N,bk:=D.nx } σ2 H2)
theorem zfx{tl:TE}{g:TG}{tb:TS}{D:vN}{σ:St}{H:Hp}:Ju (zeC tl) g tb D σ H=tl σ H λv H1=>∃x,v=.str x/\ForS x g tb D σ H1:=rfl
theorem ForS.by{l:List Nat}{g:TG}{tb:TS}{D:vN}{σ:St}{H:Hp}(Pv:Nat->St->Hp->Prop)(h0:Pv 0 σ H)
  (hs:∀i c σ H,l[i]? = AM c->Pv i σ H->g (.str (tx [c])) σ H λσ2 H2=>tb { D with nx:=Pv (i+1),ct:=Pv (i+1),bk:=D.nx } σ2 H2) (hd:∀σ H,Pv l.length σ H->D.nx σ H):ForS (tx l) g tb D σ H:=zbW Pv h0 hs hd
def zfX(x:sk)(g:TG)(tb:TS)(D:vN)(σ:St)(H:Hp):Prop:=∃W:Nat->Nat->St->Hp->Prop,(∃m,W 0 m σ H)/\∀i m σ H,W i m σ H ->
 ((Ite x).stop i H/\D.nx σ H)\/((Ite x).go i H/\∃N:St->Hp->Prop,(∀σ' H',N σ' H'->∃m',m'<m/\W (i+1) m' σ' H')/\∀v H',(Ite x).yld i H v H'->g v σ H' λσ2 H2=>tb { D with nx:=N,ct:=N,bk:=D.nx } σ2 H2)
theorem zfF{ta:TA}{g:TG}{tb:TS}{D:vN}{σ:St}{H:Hp}:Ju (zfg ta) g tb D σ H=ta σ H λvs H1=>∃x,vs=[.str x]/\zfX x g tb D σ H1:=rfl
theorem X1{α:Type}(l:List α){k:Int}(h:0<=k):cut l AN (AM k)=l.take k.toNat:=by
 obtain⟨n,rfl⟩:=bC h;unfold cut;rw[HT.sIx_none,HT.sIx_nat,dW,Nat.sub_zero];by_cases q:n<=l.length
 ·rw[df q];rfl
 ·rw[dw ⋯,aP,aX (by simp;lia)]
theorem k9{α:Type}(l:List α){k:Int}(h:0<=k):cut l (AM k) AN=l.drop k.toNat:=by
 obtain⟨n,rfl⟩:=bC h;unfold cut;rw[HT.sIx_none,HT.sIx_nat];by_cases q:n<=l.length
 ·rw[df q];rw[aX (by rw[bn] <;> lia)];rfl
 ·rw[dw ⋯,eE,aY (by simp;lia)];simp
theorem ke{α:Type}{xs:List α}{i:Int}(h0:0<=i)(h1:i<xs.length):∃v,atI xs i=AM v/\xs[i.toNat]? = AM v:=by
 obtain⟨n,rfl⟩:=bC h0;have hn:n<xs.length:=⋯;exact#[xs[n],wf (ag hn),ag hn]
noncomputable def alpha:List Nat:=[97,98,99,100,101,102,103,104,105,106,107,108,109,110,111,112,113,114,115,116,117,118,119,120,121,122]
theorem Q1:(("abcdefghijklmnopqrstuvwxyz" : sk))=tx alpha:=by symm
theorem zO:(rV:Nat)=16777216:=sK
theorem cxK{CX P w K mg base N q sc f cd A o s H E}:(qt CX P w K mg base N q sc f cd A o s H E).K=K:=rfl
theorem cxP{CX P w K mg base N q sc f cd A o s H E}:(qt CX P w K mg base N q sc f cd A o s H E).prog=P:=rfl
theorem cxW{CX P w K mg base N q sc f cd A o s H E}:(qt CX P w K mg base N q sc f cd A o s H E).w=w:=rfl
theorem zcY{a b:Int}:VB (.int a) (.int b)=AO:=rfl
theorem zcC{a b:sk}:VB (.str a) (.str b)=AO:=rfl
theorem zc7{a b:Bool}:VB (.bl a) (.bl b)=AO:=rfl
theorem zcG{b:sk}:VB .non (.str b)=AO:=rfl
theorem zdd{b:sk}:VB (.str b) .non=AO:=rfl
theorem zc{H:Hp}{p:rX}{o:HO}(h:H p=AN):Same H (upd H p o):=λb u e=>by
 rw[zm (zF e h)];exact e
theorem z7{α:Type}{l:List α}{i:Nat}{c:α}(h:l[i]? = AM c):l.take (i+1)=l.take i ++ [c]:=by
 rw[List.take_add_one,h];rfl
theorem JM{α:Type}{l:List α}{i j:Nat}{c:α}(nd:l.Nodup)(hi:l[i]? = AM c)(hj:l[j]? = AM c):i=j :=
 (List.getElem?_inj (AU.mp hi).1 nd).mp (hi.trans hj.symm)
end L3
namespace L3
structure FunD(K:rW)(x qual:sk)(st:sv)(dV:rY)(f:rX)(fd:sf):Prop where
 ex:∃(oc:rY) (od:Option rX) (kV doc pm:rY) (an:Option rX) (cdv ct:rY) (osl:Array (Option rY)),
  fd=bj x qual (yA st) (yc st) (zh st) dV kV doc pm an cdv ct/\K.lookup f=AM #[oc,od,.func fd,osl]/\bN K cdv qual=AO
theorem FunD.okX{P:sj}{w:so}{K:rW}{mg:sk->Option rY}{base:su}{x qual:sk}{st:sv}{dV:rY}{f:rX}{fd:sf}{N ps:List sk}{k:Nat}{sp:Sp}(F:FunD K x qual st dV f fd)(S:zk N ps (zh st))(len:∀vs H Q E,sp vs H Q E->vs.length=ps.length)
  (hbody:∀(cdv:rY) (A:sq) (outer:List Ad) (s:rZ) (H:Hp) (vs:List V) (Q:VK) (E:XK),Room k (A.deeper (tR qual (zh st) s⁻¹ f cdv))->XE (qt (CXx P w) P w K mg base N qual (zh st) f cdv A outer s H E) E->sp vs H Q E ->
   ∃t,PSs (qt (CXx P w) P w K mg base N qual (zh st) f cdv A outer s H E) (yc st) t/\t { nx:=λ_ H'=>Q .non H',rt:=Q } (start N vs) H):zQ P w K mg base (CXx P w) (k+1) f fd ps sp:=by
 obtain⟨oc,od,kV,doc,pm,an,cdv,ct,osl,rfl,lk,hcd⟩:=F.ex;exact JV lk hcd S len λA outer s H vs Q E hr hsp=>hbody cdv A outer s H vs Q E hr zc2 hsp
def uq(C:rX)(f:sk):Sp:=λvs H Q _=>∃x v,vs=[.ref x,v]/\H x=AM (XN x C AN)/\∀dx,H dx=AN->Q .non (upd (upd H dx (.xd [(f,v)])) x (XN x C (AM dx)))
def zes(H:Hp)(d:rX)(f:sk)(v:V)(H':Hp):Prop:=H d=AN/\Same H H'/\H' d=AM (.xd [(f,v)])
theorem UL{E:XK}{C:rX}{f:sk}{v:V}{H:Hp}(h:∀d H',zes H d f v H'->E (.ref C) (AM d) H'):∀x,H x=AN->uq C f [.ref x,v] (upd H x (XN x C AN)) (λu H2=>u=.non/\∃dx,H2 x=AM (XN x C dx)/\E (.ref C) dx (del H2 x)) E0:=by
 intro x hx;refine#[x,v,rfl,ze,λdx hd=>#[rfl,AM dx,ze,h dx _ #[?_,?_,?_]]]
 ·by_cases e:dx=x
  ·rw[e];exact hx
  ·rw[zm e]at hd;exact hd
 ·have hne:dx≠x:=λe=>by rw[e,ze]at hd;cases hd
  rw[zm hne]at hd;intro b o q;have b1:b≠x:=zF q hx;have b2:b≠dx:=zF q hd;rw[QC b1,zm b1,zm b2,zm b1];exact q
 ·have hne:dx≠x:=λe=>by rw[e,ze]at hd;cases hd
  rw[QC hne,zm hne,ze]
section
variable{X:Cx}
def zft:R2:=λx y H Q=>match y with | .non=>Q (.bl (decide (x=.non))) H | _=>False
theorem op_isN':OpR X (sw .Is) zft:=λAR s σ H x y v u Q I rx ry h=>by
 cases y with
 | non=>exact zcv AR s σ H x .non v u Q I rx ry #[rfl,h]
 | _=>exact h.elim
def zdS:R2:=λx y H Q=>match y with | .non=>Q (.bl (!decide (x=.non))) H | _=>False
theorem op_notN':OpR X (sw .IsNot) zdS:=λAR s σ H x y v u Q I rx ry h=>by
 cases y with
 | non=>exact zbr AR s σ H x .non v u Q I rx ry #[rfl,h]
 | _=>exact h.elim
def KG:List V->Hp->VK->Prop:=λxs H Q=>match xs with | [.int i,.int j]=>Q (.int (if j > i then j else i)) H | _=>False
theorem Q6(hc:X.calm=AO):vo X (.builtin "max") KG:=λAR s σ H xs us Q I r h=>by
 unfold KG at h;split at h
 ·exact Ub hc AR s σ H _ us Q I r #[_,_,rfl,h]
 ·exact h.elim
def rGe:R2:=λx y H Q=>onInt x λi=>onInt y λj=>Q (.bl (decide (j<=i))) H
theorem op_ge':OpR X (sw .GtE) rGe:=zfl
end
theorem qu:sN "max" = AM (.builtin "max"):=by symm
def za6(ls l:List Nat)(m:Int)(k:Nat):Prop:=∃c,l[k]? = AM c/\(m<=k\/c ∉ ls)
def FB(ls l:List Nat)(m:Int)(k:Nat):Prop:=za6 ls l m k/\∀j<k,¬ za6 ls l m j
def NB(ls l:List Nat)(m:Int):Prop:=∀j,¬ za6 ls l m j
theorem FB.nb{ls l:List Nat}{m:Int}{k:Nat}(h:FB ls l m k)(n:NB ls l m):False:=n k h.1
end L3
namespace L3
inductive D where
 | non | bl (b:Bool) | int (i:Int) | str (x:sk) | lst (l:List D) | tup (l:List D)
mutual
def Is(K:rW)(H:Hp):D->V->Prop
 | .non,v=>v=.non
 | .bl b,v=>v=.bl b
 | .int i,v=>v=.int i
 | .str x,v=>v=.str x
 | .lst l,v=>∃a xs,v=.ref a/\SqL K H a xs/\Iss K H l xs
 | .tup l,v=>∃a xs,v=.ref a/\SqT K H a xs/\Iss K H l xs
def Iss(K:rW)(H:Hp):List D->List V->Prop
 | [],vs=>vs=[]
 | d::l,vs=>∃v r,vs=v::r/\Is K H d v/\Iss K H l r
end
mutual
noncomputable def eqD:D->D->Bool
 | .non,.non=>AO
 | .bl a,.bl b=>a == b
 | .bl a,.int b=>(if a then 1 else 0) == b
 | .int a,.bl b=>a ==(if b then 1 else 0)
 | .int a,.int b=>a == b
 | .str a,.str b=>a == b
 | .lst l,.lst m=>v0 l m
 | .tup l,.tup m=>v0 l m
 | _,_=>AQ
noncomputable def v0:List D->List D->Bool
 | [],[]=>AO
 | d::l,e::m=>eqD d e && v0 l m
 | _,_=>AQ
end
mutual
noncomputable def dpD:D->Nat
 | .lst l=>uP l+1
 | .tup l=>uP l+1
 | _=>0
noncomputable def uP:List D->Nat
 | []=>0
 | d::l=>max (dpD d) (uP l)
end
theorem zbR:∀{l:List D} {j:Nat} {d:D},l[j]? = AM d->dpD d<=uP l
 | d::l,0,_,h=>by
  cases h
  erw[uP]
  lia
 | d::l,j+1,e,h=>by
  have:=zbR (l:=l) (j:=j) (d:=e) h
  erw[uP]
  lia
mutual
theorem vZ:∀d:D,eqD d d=AO
 | .non=>rfl
 | .bl b=>by simp [eqD]
 | .int i=>by simp [eqD]
 | .str x=>by simp [eqD]
 | .lst l=>by erw[eqD];exact ub l
 | .tup l=>by erw[eqD];exact ub l
theorem ub:∀l:List D,v0 l l=AO
 | []=>rfl
 | d::l=>by erw[v0,vZ d,ub l,Bool.and_self]
end
theorem Iss.len{K:rW}{H:Hp}:∀{l:List D} {vs:List V},Iss K H l vs->vs.length=l.length
 | [],vs,h=>by erw[Iss]at h;rw[h];rfl
 | d::l,vs,h=>by
  erw[Iss]at h
  obtain⟨v,r,rfl,_,h2⟩:=h
  erw[aG,Iss.len h2]
theorem Iss.at{K:rW}{H:Hp}:∀{l:List D} {vs:List V} {j:Nat} {d:D},Iss K H l vs->l[j]? = AM d->∃v,vs[j]? = AM v/\Is K H d v
 | d::l,vs,0,_,h,q=>by
  cases q
  erw[Iss]at h
  obtain⟨v,r,rfl,h1,_⟩:=h;exact#[v,rfl,h1]
 | d::l,vs,j+1,e,h,q=>by
  erw[Iss]at h
  obtain⟨v,r,rfl,_,h2⟩:=h;exact Iss.at (j:=j) h2 q
theorem Iss.append{K:rW}{H:Hp}:∀{l m:List D} {vs us:List V},Iss K H l vs->Iss K H m us->Iss K H (l ++ m) (vs ++ us)
 | [],m,vs,us,h,g=>by erw[Iss]at h;rw[h];exact g
 | d::l,m,vs,us,h,g=>by
  erw[Iss]at h
  obtain⟨v,r,rfl,h1,h2⟩:=h
  erw[bo,Iss]
  exact#[v,r ++ us,rfl,h1,Iss.append h2 g]
theorem Iss.ints{K:rW}{H:Hp}:∀(l:List Int),Iss K H (l.map D.int) (l.map V.int)
 | []=>by erw[aI,Iss]
 | i::l=>by
  erw[ao,Iss,Is]
  exact#[_,_,rfl,rfl,Iss.ints l]
theorem zt{K:rW}{H H':Hp}{a:rX}{xs:List V}(e:Same H H')(h:SqT K H a xs):SqT K H' a xs:=by
 rcases h with (h | ⟨o,h⟩) | h
 ·exact .inl (.inl (e _ _ h))
 ·exact .inl (.inr #[o,e _ _ h])
 ·exact .inr h
mutual
theorem Is.same{K:rW}{H H':Hp}(e:Same H H'):∀(d:D) (v:V),Is K H d v->Is K H' d v
 | .non,v,h=>by erw[Is]at h ⊢;exact h
 | .bl b,v,h=>by erw[Is]at h ⊢;exact h
 | .int b,v,h=>by erw[Is]at h ⊢;exact h
 | .str b,v,h=>by erw[Is]at h ⊢;exact h
 | .lst l,v,h=>by
  erw[Is]at h ⊢
  obtain⟨a,xs,e1,e2,e3⟩:=h;exact#[a,xs,e1,e.seq e2,Iss.same e l xs e3]
 | .tup l,v,h=>by
  erw[Is]at h ⊢
  obtain⟨a,xs,e1,e2,e3⟩:=h;exact#[a,xs,e1,zt e e2,Iss.same e l xs e3]
theorem Iss.same{K:rW}{H H':Hp}(e:Same H H'):∀(l:List D) (vs:List V),Iss K H l vs->Iss K H' l vs
 | [],vs,h=>by erw[Iss]at h ⊢;exact h
 | d::l,vs,h=>by
  erw[Iss]at h ⊢
  obtain⟨v,r,e1,e2,e3⟩:=h;exact#[v,r,e1,Is.same e d v e2,Iss.same e l r e3]
end
theorem vI:∀(l m:List D),v0 l m=((aH (min l.length m.length)).all (λj=>eqD (l.getD j .non) (m.getD j .non)) && l.length == m.length)
 | [],[]=>rfl
 | [],e::m=>by simp [v0]
 | d::l,[]=>by simp [v0]
 | d::l,e::m=>by
  erw[v0,vI l m,aG]
  have h1:min (l.length+1) (m.length+1)=min l.length m.length+1:=⋯;rw[h1,dm,fq,List.all_map]
  have h2:(l.length+1 == m.length+1)=(l.length == m.length):=by
   rw[db,beq_iff_eq,beq_iff_eq];lia
  rw[h2]
  erw[List.getD_cons_zero,Bool.and_assoc]
  rfl
section
variable{X:Cx}{AR:List (rX × sL)}{σ:St}{H:Hp}{s:rZ}
theorem Yx{a:rX}{xs ys:List V}(I:Inv X AR σ H s)(h:SqL X.K H a xs)(g:SqT X.K H a ys):False:=by
 obtain⟨its,r,⟨o,n,e,c,_,d⟩,_⟩:=I.list h;obtain⟨its',r',⟨o',e',c',n',d'⟩,_⟩:=I.tuple g;rw[e]at e';cases e';rw[c]at c';exact absurd (Value.type.inj c') ∅
mutual
theorem VZ(I:Inv X AR σ H s):∀(d e:D) (v:V),Is X.K H d v->Is X.K H e v->d=e
 | .lst l,.lst m,v,h,g=>by
  erw[Is]at h g
  obtain⟨a,xs,rfl,h1,h2⟩:=h;obtain⟨b,ys,e,g1,g2⟩:=g;cases e;have:=I.list_inj h1 g1;subst this;rw[Xl I l m xs h2 g2]
 | .tup l,.tup m,v,h,g=>by
  erw[Is]at h g
  obtain⟨a,xs,rfl,h1,h2⟩:=h;obtain⟨b,ys,e,g1,g2⟩:=g;cases e;have:=I.tuple_inj h1 g1;subst this;rw[Xl I l m xs h2 g2]
 | .lst l,.tup m,v,h,g=>by
  erw[Is]at h g
  obtain⟨a,xs,rfl,h1,h2⟩:=h;obtain⟨b,ys,e,g1,g2⟩:=g;cases e;exact (Yx I h1 g1).elim
 | .tup l,.lst m,v,h,g=>by
  erw[Is]at h g
  obtain⟨a,xs,rfl,h1,h2⟩:=h;obtain⟨b,ys,e,g1,g2⟩:=g;cases e;exact (Yx I g1 h1).elim
 | .lst l,.non,v,h,g=>by erw[Is]at h g;obtain⟨a,xs,rfl,_⟩:=h;cases g
 | .lst l,.bl _,v,h,g=>by erw[Is]at h g;obtain⟨a,xs,rfl,_⟩:=h;cases g
 | .lst l,.int _,v,h,g=>by erw[Is]at h g;obtain⟨a,xs,rfl,_⟩:=h;cases g
 | .lst l,.str _,v,h,g=>by erw[Is]at h g;obtain⟨a,xs,rfl,_⟩:=h;cases g
 | .tup l,.non,v,h,g=>by erw[Is]at h g;obtain⟨a,xs,rfl,_⟩:=h;cases g
 | .tup l,.bl _,v,h,g=>by erw[Is]at h g;obtain⟨a,xs,rfl,_⟩:=h;cases g
 | .tup l,.int _,v,h,g=>by erw[Is]at h g;obtain⟨a,xs,rfl,_⟩:=h;cases g
 | .tup l,.str _,v,h,g=>by erw[Is]at h g;obtain⟨a,xs,rfl,_⟩:=h;cases g
 | .non,e,v,h,g=>by
  erw[Is]at h
  subst h;cases e <;> erw[Is]at g
  all_goals first | rfl | (obtain⟨a,xs,q,_⟩:=g;cases q) | cases g
 | .bl _,e,v,h,g=>by
  erw[Is]at h
  subst h;cases e <;> erw[Is]at g
  all_goals first | (cases g;rfl) | (obtain⟨a,xs,q,_⟩:=g;cases q) | cases g
 | .int _,e,v,h,g=>by
  erw[Is]at h
  subst h;cases e <;> erw[Is]at g
  all_goals first | (cases g;rfl) | (obtain⟨a,xs,q,_⟩:=g;cases q) | cases g
 | .str _,e,v,h,g=>by
  erw[Is]at h
  subst h;cases e <;> erw[Is]at g
  all_goals first | (cases g;rfl) | (obtain⟨a,xs,q,_⟩:=g;cases q) | cases g
theorem Xl(I:Inv X AR σ H s):∀(l m:List D) (vs:List V),Iss X.K H l vs->Iss X.K H m vs->l=m
 | [],[],_,_,_=>rfl
 | [],e::m,vs,h,g=>by
  erw[Iss]at h g
  subst h;obtain⟨_,_,q,_⟩:=g;cases q
 | d::l,[],vs,h,g=>by
  erw[Iss]at h g
  subst g;obtain⟨_,_,q,_⟩:=h;cases q
 | d::l,e::m,vs,h,g=>by
  erw[Iss]at h g
  obtain⟨v,r,rfl,h1,h2⟩:=h;obtain⟨v',r',q,g1,g2⟩:=g;cases q;rw[VZ I d e v h1 g1,Xl I l m r h2 g2]
end
theorem xJ:∀{xs:List V} {us:List rY} {j:Nat} {x:V},Vals xs us->xs[j]? = AM x->∃u,us[j]? = AM u/\RelV x u
 | _,_,0,_,.cons r t,h=>by cases h;exact#[_,rfl,r]
 | _,_,j+1,_,.cons r t,h=>xJ (j:=j) t h
theorem vc{l m:List D}{xs ys:List V}{its its':List rY}{A:sq}{n:Nat}(hl:Iss X.K H l xs)(hm:Iss X.K H m ys)(r:Vals xs its)(r':Vals ys its')(hn:uP l<n)
  (ih:∀(d e:D) (x y:V) (u v:rY),dpD d<n->Is X.K H d x->Is X.K H e y->RelV x u->RelV y v->SeqAt.EqAt A s u v (eqD d e)) :
  ∀j (h1:j<its.toArray.size) (h2:j<its'.toArray.size),SeqAt.EqAt A s its.toArray[j] its'.toArray[j] (eqD (l.getD j .non) (m.getD j .non)):=by
 intro j h1 h2;rw[aj]at h1 h2;have e1:=hl.len;have e2:=hm.len;have e3:=r.length;have e4:=r'.length;have g1:l[j]? = AM l[j]:=ag ⋯;have g2:m[j]? = AM m[j]:=ag ⋯;generalize l[j]=d at g1;generalize m[j]=e at g2;obtain⟨x,hx,ix⟩:=hl.at g1;obtain⟨y,hy,iy⟩:=hm.at g2;obtain⟨u,hu,ru⟩:=xJ r hx;obtain⟨v,hv,rv⟩:=xJ r' hy
 have q1:its.toArray[j]=u:=by
  have:=(AU.mp hu).2;simpa using this
 have q2:its'.toArray[j]=v:=by
  have:=(AU.mp hv).2;simpa using this
 rw[q1,q2,ah,ah,g1,g2];exact ih d e x y u v (cM (zbR g1) hn) ix iy ru rv
theorem Yj(I:Inv X AR σ H s):∀(n:Nat) (A:sq) (d e:D) (x y:V) (u v:rY),A.units+n<cLine->dpD d<n->Is X.K H d x->Is X.K H e y->RelV x u->RelV y v->SeqAt.EqAt A s u v (eqD d e):=by
 intro n
 induction n with
 | zero=>intro A d e x y u v _ h;exact absurd h (bQ _)
 | succ n ih =>
  intro A d e x y u v hu hd hx hy rx ry;have hu1:A.units<cLine:=⋯;have huA:A.in1.units+n<cLine:=by show A.units+1+n<cLine;lia
  cases d with
  | lst l =>
   erw[Is]at hx
   obtain⟨a,xs,rfl,h1,h2⟩:=hx;cases rx;obtain⟨its,r,p,_⟩:=I.list h1
   cases e with
   | non=>erw[Is]at hy;subst hy;cases ry;exact SeqAt.EqAt.list_none p.isList hu1
   | bl b=>erw[Is]at hy;subst hy;cases ry;exact SeqAt.EqAt.list_bool b p.isList hu1
   | int b=>erw[Is]at hy;subst hy;obtain⟨t,rfl⟩:=ry;exact SeqAt.EqAt.list_int b t p.isList hu1
   | str b=>erw[Is]at hy;subst hy;obtain⟨t,rfl⟩:=ry;exact SeqAt.EqAt.list_str b t p.isList hu1
   | tup m =>
    erw[Is]at hy
    obtain⟨b,ys,rfl,g1,g2⟩:=hy;cases ry;obtain⟨its',r',p',_⟩:=I.tuple g1;exact SeqAt.EqAt.list_tuple p.isList p' hu1
   | lst m =>
    have hy':=hy
    erw[Is]at hy
    obtain⟨b,ys,rfl,g1,g2⟩:=hy;cases ry;obtain⟨its',r',p',_⟩:=I.list g1
    erw[dpD]at hd
    by_cases hab:a=b
    ·subst hab;have:=VZ I (.lst l) (.lst m) (.ref a) (by erw[Is];exact#[a,xs,rfl,h1,h2]) hy';rw[this,vZ];exact SeqAt.EqAt.same _
    ·refine .of_refs hab ?_
     erw[eqD]
     have L1:=h2.len;have L2:=g2.len;have L3:=r.length;have L4:=r'.length;by_cases hl:l.length=m.length
     ·have:=SeqAt.RcAt.lists (A:=A) p.isList p'.isList (by erw[aj];lia) hu1 (vc h2 g2 r r' (n:=n) ⋯ λd e x y u v q1 q2 q3 q4 q5=>ih A.in1 d e x y u v huA q1 q2 q3 q4 q5);rw[vI,hl,fB,beq_self_eq_true,Bool.and_true];have e1:its.toArray.size=m.length:=by erw[aj];lia
      rw[e1]at this;exact this
     ·rw[vI,beq_eq_false_iff_ne.mpr hl,dU];exact SeqAt.RcAt.lists_lengths p.isList p'.isList (by rw[bne_iff_ne];erw[aj];lia) hu1
  | tup l =>
   erw[Is]at hx
   obtain⟨a,xs,rfl,h1,h2⟩:=hx;cases rx;obtain⟨its,r,p,_⟩:=I.tuple h1
   cases e with
   | non=>erw[Is]at hy;subst hy;cases ry;exact SeqAt.EqAt.tuple_none p hu1
   | bl b=>erw[Is]at hy;subst hy;cases ry;exact SeqAt.EqAt.tuple_bool b p hu1
   | int b=>erw[Is]at hy;subst hy;obtain⟨t,rfl⟩:=ry;exact SeqAt.EqAt.tuple_int b t p hu1
   | str b=>erw[Is]at hy;subst hy;obtain⟨t,rfl⟩:=ry;exact SeqAt.EqAt.tuple_str b t p hu1
   | lst m =>
    erw[Is]at hy
    obtain⟨b,ys,rfl,g1,g2⟩:=hy;cases ry;obtain⟨its',r',p',_⟩:=I.list g1;exact SeqAt.EqAt.tuple_list p p'.isList hu1
   | tup m =>
    have hy':=hy
    erw[Is]at hy
    obtain⟨b,ys,rfl,g1,g2⟩:=hy;cases ry;obtain⟨its',r',p',_⟩:=I.tuple g1
    erw[dpD]at hd
    by_cases hab:a=b
    ·subst hab;have:=VZ I (.tup l) (.tup m) (.ref a) (by erw[Is];exact#[a,xs,rfl,h1,h2]) hy';rw[this,vZ];exact SeqAt.EqAt.same _
    ·refine .of_refs hab ?_
     erw[eqD]
     have L1:=h2.len;have L2:=g2.len;have L3:=r.length;have L4:=r'.length;have:=SeqAt.RcAt.tuples (A:=A) p p' hu1 (vc h2 g2 r r' (n:=n) ⋯ λd e x y u v q1 q2 q3 q4 q5=>ih A.in1 d e x y u v huA q1 q2 q3 q4 q5);rw[vI]
     erw[aj]at this
     rw[<- L1,<- L2,L3,L4];exact this
  | non =>
   erw[Is]at hx
   subst hx
   cases e with
   | lst m =>
    erw[Is]at hy
    obtain⟨b,ys,rfl,g1,g2⟩:=hy;cases rx;cases ry;obtain⟨its',r',p',_⟩:=I.list g1;exact SeqAt.EqAt.none_list p'.isList hu1
   | tup m =>
    erw[Is]at hy
    obtain⟨b,ys,rfl,g1,g2⟩:=hy;cases rx;cases ry;obtain⟨its',r',p',_⟩:=I.tuple g1;exact SeqAt.EqAt.none_tuple p' hu1
   | _=>erw[Is]at hy;subst hy;exact XG rx ry rfl rfl
  | bl c =>
   erw[Is]at hx
   subst hx
   cases e with
   | lst m =>
    erw[Is]at hy
    obtain⟨b,ys,rfl,g1,g2⟩:=hy;cases rx;cases ry;obtain⟨its',r',p',_⟩:=I.list g1;exact SeqAt.EqAt.bool_list _ p'.isList hu1
   | tup m =>
    erw[Is]at hy
    obtain⟨b,ys,rfl,g1,g2⟩:=hy;cases rx;cases ry;obtain⟨its',r',p',_⟩:=I.tuple g1;exact SeqAt.EqAt.bool_tuple _ p' hu1
   | _=>erw[Is]at hy;subst hy;exact XG rx ry rfl rfl
  | int c =>
   erw[Is]at hx
   subst hx
   cases e with
   | lst m =>
    erw[Is]at hy
    obtain⟨b,ys,rfl,g1,g2⟩:=hy;obtain⟨t,rfl⟩:=rx;cases ry;obtain⟨its',r',p',_⟩:=I.list g1;exact SeqAt.EqAt.int_list _ _ p'.isList hu1
   | tup m =>
    erw[Is]at hy
    obtain⟨b,ys,rfl,g1,g2⟩:=hy;obtain⟨t,rfl⟩:=rx;cases ry;obtain⟨its',r',p',_⟩:=I.tuple g1;exact SeqAt.EqAt.int_tuple _ _ p' hu1
   | _=>erw[Is]at hy;subst hy;exact XG rx ry rfl rfl
  | str c =>
   erw[Is]at hx
   subst hx
   cases e with
   | lst m =>
    erw[Is]at hy
    obtain⟨b,ys,rfl,g1,g2⟩:=hy;obtain⟨t,rfl⟩:=rx;cases ry;obtain⟨its',r',p',_⟩:=I.list g1;exact SeqAt.EqAt.str_list _ _ p'.isList hu1
   | tup m =>
    erw[Is]at hy
    obtain⟨b,ys,rfl,g1,g2⟩:=hy;obtain⟨t,rfl⟩:=rx;cases ry;obtain⟨its',r',p',_⟩:=I.tuple g1;exact SeqAt.EqAt.str_tuple _ _ p' hu1
   | _=>erw[Is]at hy;subst hy;exact XG rx ry rfl rfl
def zfO(K:rW):R2:=λx y H Q=>∃l m,((Is K H (.lst l) x/\Is K H (.lst m) y)\/(Is K H (.tup l) x/\Is K H (.tup m) y))/\uP l<50/\Q (.bl (v0 l m)) H
theorem KQ(hu:X.A.units+100<cLine):OpR X (sw .Eq) (zfO X.K):=by
 intro AR s σ H x y v u Q I rx ry h;obtain⟨l,m,hh,hd,q⟩:=h;have hu1:X.A.units<cLine:=⋯;have huA:X.A.in1.units+50<cLine:=by show X.A.units+1+50<cLine;lia
 rcases hh with ⟨hx,hy⟩ | ⟨hx,hy⟩
 ·erw[Is]at hx hy
  obtain⟨a,xs,rfl,h1,h2⟩:=hx;obtain⟨b,ys,rfl,g1,g2⟩:=hy;cases rx;cases ry;obtain⟨its,r,p,_⟩:=I.list h1;obtain⟨its',r',p',_⟩:=I.list g1;have L1:=h2.len;have L2:=g2.len;have L3:=r.length;have L4:=r'.length;by_cases hl:l.length=m.length
  ·have:=SeqAt.RcAt.lists (A:=X.A) p.isList p'.isList (by erw[aj];lia) hu1 (vc h2 g2 r r' (n:=50) hd λd e x y u v q1 q2 q3 q4 q5=>Yj I 50 X.A.in1 d e x y u v huA q1 q2 q3 q4 q5);have e1:its.toArray.size=m.length:=by erw[aj];lia
   rw[e1]at this;rw[vI,hl,fB,beq_self_eq_true,Bool.and_true]at q;exact this X.prog X.w X.xe _ #[.bl _,H,I,rfl,q]
  ·rw[vI,beq_eq_false_iff_ne.mpr hl,dU]at q;exact SeqAt.RcAt.lists_lengths p.isList p'.isList (by rw[bne_iff_ne];erw[aj];lia) hu1 X.prog X.w X.xe _ #[.bl _,H,I,rfl,q]
 ·erw[Is]at hx hy
  obtain⟨a,xs,rfl,h1,h2⟩:=hx;obtain⟨b,ys,rfl,g1,g2⟩:=hy;cases rx;cases ry;obtain⟨its,r,p,_⟩:=I.tuple h1;obtain⟨its',r',p',_⟩:=I.tuple g1;have L1:=h2.len;have L2:=g2.len;have L3:=r.length;have L4:=r'.length;have:=SeqAt.RcAt.tuples (A:=X.A) p p' hu1 (vc h2 g2 r r' (n:=50) hd λd e x y u v q1 q2 q3 q4 q5=>Yj I 50 X.A.in1 d e x y u v huA q1 q2 q3 q4 q5)
  erw[aj]at this
  rw[vI,<- L1,<- L2,L3,L4]at q;exact this X.prog X.w X.xe _ #[.bl _,H,I,rfl,q]
end
theorem Ya(l m:List Int):v0 (l.map D.int) (m.map D.int)=decide (l=m):=by
 induction l generalizing m with
 | nil=>cases m <;> simp [v0]
 | cons a l ih =>
  cases m with
  | nil=>simp [v0]
  | cons b m =>
   erw[ao,v0,eqD,ih m]
   by_cases h1:a=b
   ·subst h1;by_cases h2:l=m
    ·simp [h2]
    ·simp [h2]
   ·simp [h1]
theorem ZA(l:List Int):uP (l.map D.int)=0:=by
 induction l with
 | nil=>rfl
 | cons a l ih=>erw[ao,uP,dpD,ih];rfl
abbrev CNx(n i:Nat)(Pv:Nat->List V->Hp->Prop)(AT:List V)(H:Hp):Prop:=∃m',m'<n - i/\(m'=n - (i+1)/\i+1<=n/\Pv (i+1) AT H)
theorem CNx.mk{n i:Nat}{Pv:Nat->List V->Hp->Prop}{AT:List V}{H:Hp}(hi:i<n)(h:Pv (i+1) AT H):CNx n i Pv AT H:=#[n - (i+1),⋯,rfl,hi,h]
def XD(J:It)(g:TG)(tt:TT)(te:TE)(own:Nat)(ix:List Nat)(σ:St)(H1:Hp)(Q:VK)(D:rX):Prop:=∃W:Nat->Nat->List V->Hp->Prop,(∃m,W 0 m [] (upd H1 D (.lst []))) /\
 ∀i m AT H',W i m AT H'->(J.stop i H'/\Q (.ref D) H')\/(J.go i H'/\∀x H2,J.yld i H' x H2->g x (vt σ own ix) H2 λσ3 H3=>yU (vt σ own ix) σ3/\tt σ3 H3 λb H4=>if b=AO then
  te σ3 H4 λv H5=>H5 D=AM (.lst AT)/\AT.length<rV/\∃m',m'<m/\W (i+1) m' (AT ++ [v]) (upd H5 D (.lst (AT ++ [v])))
  else ∃m',m'<m/\W (i+1) m' AT H4)
def CompR(lo:Int)(n:Nat)(g:TG)(tt:TT)(te:TE)(own:Nat)(ix:List Nat)(σ:St)(H1:Hp)(Q:VK)(D:rX):Prop:=XD (Itr lo n) g tt te own ix σ H1 Q D
def CompL(K:rW)(a:rX)(g:TG)(tt:TT)(te:TE)(own:Nat)(ix:List Nat)(σ:St)(H1:Hp)(Q:VK)(D:rX):Prop:=XD (Itl K a) g tt te own ix σ H1 Q D
def CompS(x:sk)(g:TG)(tt:TT)(te:TE)(own:Nat)(ix:List Nat)(σ:St)(H1:Hp)(Q:VK)(D:rX):Prop:=XD (Its x) g tt te own ix σ H1 Q D
theorem zam{ta:TA}{g:TG}{tt:TT}{te:TE}{own:Nat}{ix:List Nat}{σ:St}{H:Hp}{Q:VK}:jY (zbP ta) g tt te own ix σ H Q=ta σ H λvs H1=>∃j:Int,vs=[.int j]/\-(2 ^ 62)<=j/\j<2 ^ 62/\∀D,H1 D=AN->CompR 0 j.toNat g tt te own ix σ H1 Q D:=rfl
theorem zdi{K:rW}{tl:TE}{g:TG}{tt:TT}{te:TE}{own:Nat}{ix:List Nat}{σ:St}{H:Hp}{Q:VK}:jY (za1 K tl) g tt te own ix σ H Q=tl σ H λx H1=>∃a,x=.ref a/\(∃xs,SqL K H1 a xs)/\∀D,H1 D=AN->CompL K a g tt te own ix σ H1 Q D:=rfl
theorem zc0{tl:TE}{g:TG}{tt:TT}{te:TE}{own:Nat}{ix:List Nat}{σ:St}{H:Hp}{Q:VK}:jY (zeC tl) g tt te own ix σ H Q=tl σ H λv H1=>∃x,v=.str x/\∀D,H1 D=AN->CompS x g tt te own ix σ H1 Q D:=rfl
section
variable{g:TG}{tt:TT}{te:TE}{own:Nat}{ix:List Nat}{σ:St}{H1:Hp}{Q:VK}{D:rX}
theorem CompR.by{lo:Int}{n:Nat}(Pv:Nat->List V->Hp->Prop)(h0:Pv 0 [] (upd H1 D (.lst [])))
  (hs:∀i AT H',i<n->Pv i AT H'->g (.int (lo+i)) (vt σ own ix) H' λσ3 H3=>yU (vt σ own ix) σ3/\tt σ3 H3 λb H4=>if b=AO then
   te σ3 H4 λv H5=>H5 D=AM (.lst AT)/\AT.length<rV/\CNx n i Pv (AT ++ [v]) (upd H5 D (.lst (AT ++ [v])))else CNx n i Pv AT H4)
  (hd:∀AT H',Pv n AT H'->Q (.ref D) H'):CompR lo n g tt te own ix σ H1 Q D:=by
 refine#[λi m AT H=>m=n - i/\i<=n/\Pv i AT H,#[n,by simp,aE _,h0],?_];rintro i m AT H' ⟨rfl,hi,p⟩;by_cases hlt:i<n
 ·refine .inr #[hlt,λx H2 y=>?_];obtain⟨e,y⟩:=y;subst e y;exact hs i AT _ hlt p
 ·have e:i=n:=⋯;subst e;exact .inl #[al _,hd AT H' p]
theorem CompL.by{K:rW}{a:rX}{xs:List V}(Pv:Nat->List V->Hp->Prop)(h0:Pv 0 [] (upd H1 D (.lst [])))(hl:∀i AT H',i<=xs.length->Pv i AT H'->SqL K H' a xs)
  (hs:∀i x AT H',xs[i]? = AM x->Pv i AT H'->g x (vt σ own ix) H' λσ3 H3=>yU (vt σ own ix) σ3/\tt σ3 H3 λb H4=>if b=AO then
   te σ3 H4 λv H5=>H5 D=AM (.lst AT)/\AT.length<rV/\CNx xs.length i Pv (AT ++ [v]) (upd H5 D (.lst (AT ++ [v])))else CNx xs.length i Pv AT H4)
  (hd:∀AT H',Pv xs.length AT H'->Q (.ref D) H'):CompL K a g tt te own ix σ H1 Q D:=by
 refine#[λi m AT H=>m=xs.length - i/\i<=xs.length/\Pv i AT H,#[xs.length,by simp,aE _,h0],?_];rintro i m AT H' ⟨rfl,hi,p⟩;have q:=hl i AT H' hi p;by_cases hlt:i<xs.length
 ·refine .inr #[#[xs,xs[i],q,by simp [hlt]],λx H2 y=>?_];obtain⟨e,y⟩:=y;subst e;exact hs i x AT _ (y xs q) p
 ·have e:i=xs.length:=⋯;subst e;exact .inl #[#[xs,q,al _],hd AT H' p]
theorem CompS.by{l:List Nat}(Pv:Nat->List V->Hp->Prop)(h0:Pv 0 [] (upd H1 D (.lst [])))
  (hs:∀i c AT H',l[i]? = AM c->Pv i AT H'->g (.str (tx [c])) (vt σ own ix) H' λσ3 H3=>yU (vt σ own ix) σ3/\tt σ3 H3 λb H4=>if b=AO then
   te σ3 H4 λv H5=>H5 D=AM (.lst AT)/\AT.length<rV/\CNx l.length i Pv (AT ++ [v]) (upd H5 D (.lst (AT ++ [v])))else CNx l.length i Pv AT H4)
  (hd:∀AT H',Pv l.length AT H'->Q (.ref D) H'):CompS (tx l) g tt te own ix σ H1 Q D:=by
 refine#[λi m AT H=>m=l.length - i/\i<=l.length/\Pv i AT H,#[l.length,by simp,aE _,h0],?_];rintro i m AT H' ⟨rfl,hi,p⟩;by_cases hlt:i<l.length
 ·refine .inr #[hlt,λv H2 y=>?_];obtain⟨e,c,hc,ev⟩:=y;subst e ev;exact hs i c AT _ hc p
 ·have e:i=l.length:=⋯;subst e;exact .inl #[rfl,hd AT H' p]
end
theorem xN{x:V}{r:St}:yU (AN::r) (AM x::r):=#[rfl,λi v h=>by
 cases i with
 | zero=>cases h
 | succ i=>exact h]
theorem zS{X:Cx}{scope sc:sU}{own caps:List sk}{ix:List Nat}(h1:scope.kind=.function)(h2:scope.names.all (λy=>y.2 != .cell)=AO)(h3:scope.names.all (λy=>y.2 != .local || scope.names.lookup y.1 == AM .local)=AO)
  (h4:scope.names.all (λy=>y.2 != .free || sc.names.lookup y.1 == AM .cell)=AO) (hsc:X.env.scope=sc) (h5:own.all (λy=>scope.names.lookup y == AM .local)=AO) (h6:caps.all (λy=>scope.names.lookup y == AM .free)=AO) (h7:ix.map (λi=>X.N[i]?)=caps.map AM):j7 X scope own caps ix:=by
 refine#[h1,λy hy=>?_,λy hy e=>?_,λy hy=>?_,λy hy=>?_,λy hy=>?_,h7]
 ·have:=Bd.mp h2 y hy;simpa using this
 ·have:=Bd.mp h3 y hy;rw[e]at this;simpa using this
 ·have:=Bd.mp h4 _ hy;have:=by simpa using this
  refine .inl ?_;show X.env.scope.names.lookup y=AM .cell;rw[hsc];exact this
 ·have:=Bd.mp h5 y hy;simpa using this
 ·have:=Bd.mp h6 y hy;simpa using this
theorem UI{α:Type}(l:List α){a b:Int}(h0:0<=a)(h1:a<=b)(h2:b<=l.length):cut l (AM a) (AM b)=(l.drop a.toNat).take (b - a).toNat:=by
 obtain⟨m,rfl⟩:=bC h0;obtain⟨n,rfl⟩:=bC (by lia:0<=b);unfold cut;rw[HT.sIx_nat,HT.sIx_nat,df ⋯,df ⋯];have:((n:Int) - (m:Int)).toNat=n - m:=⋯;rw[this];rfl
theorem kO{k:Nat}{A:sq}(r:Room k A):A.units+100<cLine:=by have:=r.un;lia
end L3
namespace L3
theorem U2{K:rW}{x y:V}{H:Hp}{Q:VK}{l m:List D}(h:(Is K H (.lst l) x/\Is K H (.lst m) y)\/(Is K H (.tup l) x/\Is K H (.tup m) y))(hd:uP l<50)(q:Q (.bl (v0 l m)) H):zfO K x y H Q:=#[l,m,h,hd,q]
def zei(t u:TS):TS:=λD σ H=>∃R:St->Hp->Prop,t { D with nx:=R } σ H/\∀σ' H',R σ' H'->u D σ' H'
theorem zi{X:Cx}{st:sv}{rest:List sv}{t u:TS}(h1:PS X st t)(h2:PSs X rest u):PSs X (st::rest) (zei t u):=by
 intro AR s σ H D I h;obtain⟨R,h,hr⟩:=h;refine tD (thn (h1 AR s σ H { D with nx:=R } I h) λf s1 q=>?_)
 cases f with
 | next =>
  obtain⟨σ',H',I',q⟩:=q;exact h2 AR s1 σ' H' D I' (hr _ _ q)
 | ret v=>exact q
 | brk=>exact q
 | cont=>exact q
theorem ZW{t u:TS}{D:vN}{σ:St}{H:Hp}(R:St->Hp->Prop)(h:t { D with nx:=R } σ H)(hr:∀σ' H',R σ' H'->u D σ' H'):zei t u D σ H:=#[R,h,hr]
theorem zj{t u:TS}{D:vN}{σ:St}{H:Hp}(R:St->Hp->Prop)(h:t { D with nx:=R } σ H)(hr:∀G:St->Hp->Prop,G=u D->∀σ' H',R σ' H'->G σ' H'):zei t u D σ H:=#[R,h,hr _ rfl]
theorem nm4{α β γ δ:Type}{P R:α->β->γ->δ->Prop}{B:α->β->γ->δ->Prop}(h:∀G:α->β->γ->δ->Prop,G=B->∀a b c d,P a b c d->R a b c d->G a b c d):∀a b c d,P a b c d->R a b c d->B a b c d:=h _ rfl
theorem nm3{α β γ:Type}{P R:α->β->γ->Prop}{B:α->β->γ->Prop}(h:∀G:α->β->γ->Prop,G=B->∀a b c,P a b c->R a b c->G a b c):∀a b c,P a b c->R a b c->B a b c:=h _ rfl
theorem zI{H H':Hp}{a:rX}{o:HO}(h:Same H H')(e:H a=AN):Same H (upd H' a o):=λb u q=>by
 rw[zm (zF q e)];exact h b u q
theorem ForL.by{K:rW}{a:rX}{xs:List V}{g:TG}{tb:TS}{D:vN}{σ:St}{H:Hp}(Pv:Nat->St->Hp->Prop)(h0:Pv 0 σ H)(hl:∀i σ H,i<=xs.length->Pv i σ H->SqL K H a xs)
  (hs:∀i x σ H,xs[i]? = AM x->Pv i σ H->g x σ H λσ2 H2=>tb { D with nx:=Pv (i+1),ct:=Pv (i+1),bk:=D.nx } σ2 H2) (hd:∀σ H,Pv xs.length σ H->D.nx σ H):ForL K a g tb D σ H:=JW Pv h0 hl hs hd
theorem Zy{A B:Prop}(h:B):if AO=AQ then A else B:=by rw[if_neg ∅];exact h
def CompV(K:rW)(a:rX)(n:Nat)(g:TG)(tt:TT)(te:TE)(own:Nat)(ix:List Nat)(σ:L2.St)(H1:Hp)(Q:VK)(D:rX):Prop:=XD (Irv K a n) g tt te own ix σ H1 Q D
theorem zcH{K:rW}{ta:TA}{g:TG}{tt:TT}{te:TE}{own:Nat}{ix:List Nat}{σ:L2.St}{H:Hp}{Q:VK}:jY (zfy K ta) g tt te own ix σ H Q=ta σ H λvs H1=>∃a xs,vs=[.ref a]/\SqL K H1 a xs/\∀D,H1 D=AN->CompV K a xs.length g tt te own ix σ H1 Q D:=rfl
theorem CompV.by{K:rW}{a:rX}{xs:List V}{g:TG}{tt:TT}{te:TE}{own:Nat}{ix:List Nat}{σ:L2.St}{H1:Hp}{Q:VK}{D:rX}(Pv:Nat->List V->Hp->Prop)(h0:Pv 0 [] (upd H1 D (.lst [])))(hl:∀i AT H',i<=xs.length->Pv i AT H'->SqL K H' a xs)
  (hs:∀i x AT H',xs.reverse[i]? = AM x->Pv i AT H'->g x (vt σ own ix) H' λσ3 H3=>yU (vt σ own ix) σ3/\tt σ3 H3 λb H4=>if b=AO then
   te σ3 H4 λv H5=>H5 D=AM (.lst AT)/\AT.length<rV/\CNx xs.length i Pv (AT ++ [v]) (upd H5 D (.lst (AT ++ [v])))else CNx xs.length i Pv AT H4)
  (hd:∀AT H',Pv xs.length AT H'->Q (.ref D) H'):CompV K a xs.length g tt te own ix σ H1 Q D:=by
 refine#[λi m AT H=>m=xs.length - i/\i<=xs.length/\Pv i AT H,#[xs.length,by simp,aE _,h0],?_];rintro i m AT H' ⟨rfl,hi,p⟩;have q:=hl i AT H' hi p;by_cases hlt:i<xs.length
 ·refine .inr #[#[xs,q,rfl,hlt],λx H2 y=>?_];obtain⟨e,y⟩:=y;subst e;refine hs i x AT _ ?_ p;rw[bu hlt];exact y xs q rfl
 ·have e:i=xs.length:=⋯;subst e;exact .inl #[rfl,hd AT H' p]
theorem zeQ{v:V}{σ:L2.St}{H:Hp}{Q:VK}:yj 0 (AM v::σ) H Q=Q v H:=rfl
theorem zee{a0:Option V}{v:V}{σ:L2.St}{H:Hp}{Q:VK}:yj 1 (a0::AM v::σ) H Q=Q v H:=rfl
theorem zeH{a0 a1:Option V}{v:V}{σ:L2.St}{H:Hp}{Q:VK}:yj 2 (a0::a1::AM v::σ) H Q=Q v H:=rfl
theorem zeR{a0 a1 a2:Option V}{v:V}{σ:L2.St}{H:Hp}{Q:VK}:yj 3 (a0::a1::a2::AM v::σ) H Q=Q v H:=rfl
theorem zeD{a0 a1 a2 a3:Option V}{v:V}{σ:L2.St}{H:Hp}{Q:VK}:yj 4 (a0::a1::a2::a3::AM v::σ) H Q=Q v H:=rfl
theorem zev{a0 a1 a2 a3 a4:Option V}{v:V}{σ:L2.St}{H:Hp}{Q:VK}:yj 5 (a0::a1::a2::a3::a4::AM v::σ) H Q=Q v H:=rfl
theorem zeB{a0 a1 a2 a3 a4 a5:Option V}{v:V}{σ:L2.St}{H:Hp}{Q:VK}:yj 6 (a0::a1::a2::a3::a4::a5::AM v::σ) H Q=Q v H:=rfl
theorem zeg{a0 a1 a2 a3 a4 a5 a6:Option V}{v:V}{σ:L2.St}{H:Hp}{Q:VK}:yj 7 (a0::a1::a2::a3::a4::a5::a6::AM v::σ) H Q=Q v H:=rfl
theorem zfn{a0 a1 a2 a3 a4 a5 a6 a7:Option V}{v:V}{σ:L2.St}{H:Hp}{Q:VK}:yj 8 (a0::a1::a2::a3::a4::a5::a6::a7::AM v::σ) H Q=Q v H:=rfl
theorem zeE{a0 a1 a2 a3 a4 a5 a6 a7 a8:Option V}{v:V}{σ:L2.St}{H:Hp}{Q:VK}:yj 9 (a0::a1::a2::a3::a4::a5::a6::a7::a8::AM v::σ) H Q=Q v H:=rfl
theorem zbZ{a0 a1 a2 a3 a4 a5 a6 a7 a8 a9:Option V}{v:V}{σ:L2.St}{H:Hp}{Q:VK}:yj 10 (a0::a1::a2::a3::a4::a5::a6::a7::a8::a9::AM v::σ) H Q=Q v H:=rfl
theorem zdX{b:Bool}{p:Bool->Prop}:(∃k,V.bl b=V.bl k/\p k)=p b:=propext #[λ⟨_,h,q⟩=>by cases h;exact q,λq=>#[_,rfl,q]]
theorem zao{b:Int}{p:Int->Prop}:(∃k,V.int b=V.int k/\p k)=p b:=propext #[λ⟨_,h,q⟩=>by cases h;exact q,λq=>#[_,rfl,q]]
theorem KU{b:sk}{p:sk->Prop}:(∃k,V.str b=V.str k/\p k)=p b:=propext #[λ⟨_,h,q⟩=>by cases h;exact q,λq=>#[_,rfl,q]]
theorem KL{b:rX}{p:rX->Prop}:(∃k,V.ref b=V.ref k/\p k)=p b:=propext #[λ⟨_,h,q⟩=>by cases h;exact q,λq=>#[_,rfl,q]]
theorem ze7{i:Int}{p:Int->Prop}:onInt (.int i) p=p i:=rfl
theorem zeL{i:sk}{p:sk->Prop}:onStr (.str i) p=p i:=rfl
theorem ze3{i:Bool}{p:Bool->Prop}:onBl (.bl i) p=p i:=rfl
theorem zfa{i:rX}{p:rX->Prop}:onRef (.ref i) p=p i:=rfl
theorem zfc{K:rW}{b:Bool}{H:Hp}{p:Bool->Prop}:zew K (.bl b) H p=p b:=rfl
theorem K4{x:V}{p:Int->Prop}:onInt x p=∃k,x=.int k/\p k:=propext #[onInt.of,onInt.to]
theorem zak{x:V}{p:sk->Prop}:onStr x p=∃k,x=.str k/\p k:=propext #[onStr.of,onStr.to]
theorem zav{x:V}{p:Bool->Prop}:onBl x p=∃k,x=.bl k/\p k:=propext #[onBl.of,onBl.to]
theorem zaD{x:V}{p:rX->Prop}:onRef x p=∃k,x=.ref k/\p k:=propext #[onRef.of,onRef.to]
theorem Qz{i:Nat}{σ:L2.St}{H:Hp}{Q:VK}:yj i σ H Q=∃v,σ[i]? = AM (AM v)/\Q v H:=propext #[onSl.of,λ⟨v,h,q⟩=>by erw[yj,onSl,h];exact q]
theorem zbQ{a b:Int}{H:Hp}{Q:VK}:rEq (.int a) (.int b) H Q=Q (.bl (decide (a=b))) H:=rfl
theorem zbA{a b:sk}{H:Hp}{Q:VK}:rEq (.str a) (.str b) H Q=Q (.bl (decide (a=b))) H:=rfl
theorem za8{a b:Int}{H:Hp}{Q:VK}:rNe (.int a) (.int b) H Q=Q (.bl (!decide (a=b))) H:=rfl
theorem zbs{a b:sk}{H:Hp}{Q:VK}:rNe (.str a) (.str b) H Q=Q (.bl (!decide (a=b))) H:=rfl
theorem zb1{a:Int}{y:V}{H:Hp}{Q:VK}:Zt (.int a) y H Q=onInt y λj=>Q (.int (a+j)) H:=rfl
theorem zbx{a:sk}{y:V}{H:Hp}{Q:VK}:Zt (.str a) y H Q=onStr y λj=>a.length+j.length<=rV/\Q (.str (a ++ j)) H:=rfl
theorem zaQ{a:rX}{y:V}{H:Hp}{Q:VK}:Zt (.ref a) y H Q=zcu (.ref a) y H Q:=rfl
theorem zbb{a:Int}{y:V}{H:Hp}{Q:VK}:Jq (.int a) y H Q=onInt y λj=>CMul a j/\Q (.int (a * j)) H:=rfl
theorem zaS{z:sk}{y:V}{H:Hp}{Q:VK}:Jq (.str z) y H Q=onInt y λn=>0<=n/\n<=1000/\z.length<=1000/\Q (.str (tx (aU n.toNat (cs z)).flatten)) H:=rfl
theorem ze4{a:Int}{y:V}{H:Hp}{Q:VK}:zd9 (.int a) y H Q=onInt y λj=>Q (.bl (decide (a<j))) H:=rfl
theorem zen{a:sk}{y:V}{H:Hp}{Q:VK}:zd9 (.str a) y H Q=onStr y λj=>Q (.bl (decide (cs a<cs j))) H:=rfl
theorem zeY{a:Int}{y:V}{H:Hp}{Q:VK}:zeb (.int a) y H Q=onInt y λj=>Q (.bl (decide (a<=j))) H:=rfl
theorem zeO{a:sk}{y:V}{H:Hp}{Q:VK}:zeb (.str a) y H Q=onStr y λj=>Q (.bl (!(decide (cs j<cs a)))) H:=rfl
theorem zeG{a:Int}{y:V}{H:Hp}{Q:VK}:zd1 (.int a) y H Q=onInt y λj=>Q (.bl (decide (j<a))) H:=rfl
theorem zeu{a:sk}{y:V}{H:Hp}{Q:VK}:zd1 (.str a) y H Q=onStr y λj=>Q (.bl (decide (cs j<cs a))) H:=rfl
theorem zeI{K:rW}{a:rX}{y:V}{H:Hp}{Q:VK}:rIx K (.ref a) y H Q=onInt y λi=>(∃xs,SqL K H a xs/\∃v,atI xs i=AM v/\Q v H)\/∃xs,SqT K H a xs/\∃v,atI xs i=AM v/\Q v H:=rfl
theorem zfj{K:rW}{z:sk}{y:V}{H:Hp}{Q:VK}:rIx K (.str z) y H Q=zck (.str z) y H Q:=rfl
theorem zbC{K:rW}{z:sk}{lo hi:Option Int}{H:Hp}{Q:VK}:zdj K (.str z) lo hi H Q=(z.length<=rV/\Q (.str (tx (cut (cs z) lo hi))) H):=rfl
theorem zaR{K:rW}{a:rX}{lo hi:Option Int}{H:Hp}{Q:VK}:zdj K (.ref a) lo hi H Q=(∃xs,SqL K H a xs/\∀p,H p=AN->Q (.ref p) (upd H p (.lst (K9 xs lo hi)))):=rfl
theorem zaW{K:rW}{z:sk}{H:Hp}{Q:VK}:Vc K [.str z] H Q=(z.length<=rV/\Q (.int z.length) H):=rfl
theorem zbJ{K:rW}{a:rX}{H:Hp}{Q:VK}:Vc K [.ref a] H Q=(∃n:Nat,((∃xs,SqL K H a xs/\n=xs.length)\/∃xs,SqT K H a xs/\n=xs.length)/\Q (.int n) H):=rfl
theorem zbv{x:V}{H:Hp}{Q:VK}:zft x .non H Q=Q (.bl (decide (x=.non))) H:=rfl
theorem zbF{x:V}{H:Hp}{Q:VK}:zdS x .non H Q=Q (.bl (!decide (x=.non))) H:=rfl
theorem zb9{i j:Int}{H:Hp}{Q:VK}:KG [.int i,.int j] H Q=Q (.int (if j > i then j else i)) H:=rfl
theorem zbU{a:rX}{y:V}{H:Hp}{Q:VK}:Q4 (.ref a) [y] H Q=(∃xs,H a=AM (.lst xs)/\xs.length<rV/\Q .non (upd H a (.lst (xs ++ [y])))):=rfl
theorem zfw{K:rW}{z:sk}{H:Hp}{p:Prop}:(tyV K "str" (.str z) H/\p)=p:=propext #[λh=>h.2,λh=>#[rfl,h]]
end L3
namespace L3
section
variable{X:Cx}{a b e:sr}{ta tb te:TE}{pos p:tm}
theorem zD(i:Nat){x:sk}{pos':tm}(hN:X.N.Nodup)(he:PE X e te)(hi:X.N[i]? = AM x:=by rfl)(hx:Loc X.env.scope x:=by exact .inl rfl)(hs:swapsWith e (AM (.Name x pos')) pos.line X.env=pure AQ:=by rfl)(hf:X.fn x=AO\/X.env.scope.names.lookup x=AM .local:=by first | exact .inl rfl | exact .inr rfl | assumption) :
  PS X (.Assign [.Name x pos'] e pos) (zco te (yn i)):=kh hN hi hx he hs hf
theorem zo{r:R2}(hr:IxR X r)(ha:PE X a ta)(hb:PE X b tb)(hs:Qj b:=by exact λ_ _=>rfl):PE X (.Subscript a b pos) (tOp r ta tb):=ze1 hr ha hb hs
theorem zC(hm:X.mg "len" = AN)(he:PE X e te)(hg:Gl X "len":=by rfl)(h1:rT [e] X.env=(AQ,eval e X.env)::rT [] X.env:=by rfl)(h2:(sB pos (rT [] X.env)).any (·.1)=AQ:=by rfl):PE X (.Call (.Name "len" p) [e] [] pos) (tCB (Vc X.K) (zL te xR)) :=
 xx zep hg hm PySem.boot_len (za he zd h1) (he:=h1) (hpl:=h2)
end
end L3
namespace L3
section
variable{X:Cx}
theorem kN:∀{bs:List Bool} {its:List rY} {i:Nat} {v:rY},Vals (bs.map V.bl) its->its[i]? = AM v->v=.bool (bs.getD i AQ)
 | [],_,_,_,.nil,h=>by cases h
 | b::bs,_,0,v,.cons r t,h=>by
  cases r;cases h;rfl
 | b::bs,_,i+1,v,.cons r t,h=>kN (bs:=bs) (i:=i) t h
theorem VO(bs:List Bool):(aH bs.length).all (λi=>bs.getD i AQ)=bs.all id:=by
 induction bs with
 | nil=>rfl
 | cons b bs ih =>
  rw[aG,dm,fq,List.all_map,fq,<- ih];rfl
def zf7(K:rW):List V->Hp->VK->Prop:=λxs H Q=>∃(p:rX) (bs:List Bool),xs=[.ref p]/\SqL K H p (bs.map V.bl)/\Q (.bl (bs.all id)) H
theorem zfe(hc:X.calm=AO):vo X (.builtin "all") (zf7 X.K):=by
 intro AR s σ H xs us Q I r h;obtain⟨p,bs,rfl,hS,q⟩:=h;obtain⟨u,rfl,ru⟩:=wq r;cases ru;obtain⟨its,rv,pl,hz⟩:=I.list hS
 have hlen:its.length=bs.length:=by
  have:=rv.length;rw[ac]at this;exact this.symm
 have hh:X.A.in1.handled=AN:=I.ok.hd hc
 have hne:p≠s⁻¹:=by
  obtain⟨o,n,e,_⟩:=pl;exact ay (aq e)
 obtain⟨f0,f1,f2,f3,f4,f5⟩:=I.fpOk (H':=H) (al _) (I.hok.fresh (al _));have I1:=I.kept (t':=s.toks) (h':=s.heap.push { cls:=.type "list_iterator",data:=.fields (List.toArray [.ref p,.int 0 0]) }) λb o e=>ae _ e;refine call_all_walk (tL pl.isList ?_);refine#[s⁻¹,_,_,_,_,_,λi=>bs.getD i AQ,rfl,Walks.list hh s⁻¹ p hne its.toArray,#[#[_,az _ rfl,rfl,rfl],?_],?_,?_]
 ·obtain⟨o,n,e,c,d,dt⟩:=pl;exact#[o,ae _ e,c,n,dt]
 ·intro i v s' Q' E' hv hq;have:=kN rv (i:=i) (v:=v) (by simpa using hv);rw[this];exact sI hq
 ·intro h' tk hk
  have e:(aH its.toArray.size).all (λi=>bs.getD i AQ)=bs.all id:=by
   rw[aj,hlen,VO]
  rw[e];refine#[.bl _,H,?_,rfl,q];exact I1.turned (t':=tk) (it:=s⁻¹) (λb o hb q=>hk b o (by simpa using hb) q) f0 f1 f3 f4 f5
end
end L3
namespace L3
section
variable{M:Ay}{A:sq}{E:rY->rZ->Prop}{s:rZ}{base:su}{env env0:Ad}{outer:List Ad}{L x t C:rX}{dx:Option rX}
theorem zcV{tb:rY}{Q:Unit->rZ->Prop}(hfr:A.frames=AM (env0::outer))(hl:s.heap.FunFrames base (env0::outer))(hf:env0.frame=AM L)(he:env.frame=AM L)
  (hx:s.heap.get? x=AM (xob C dx t tb)) (htb:za9 s.heap x tb)
  (h:∀h' T oT ts,h'.get? x=AM (xob C dx t (.ref T))->T≠x->(tb=.ref T\/s⁻¹<=T)->h'.get? T=AM oT->oT.data=.fields ts->3<ts.size ->
   (∀b o,b≠x->tb≠.ref b->b ∉ frs (env0::outer)->s.heap.get? b=AM o->h'.get? b=AM o)->(∀b o,b≠x->tb≠.ref b->s.heap.get? b=AM o->∃sl,h'.get? b=AM { o with slots:=sl })->Q () { s with heap:=h' }) :
  si M A (noteFrame (.ref x) env) Q E s:=by
 have land:∀(h1:su) (T:rX) (oT:sL) (ts:Array rY),h1.get? x=AM (xob C dx t (.ref T))->T≠x->(tb=.ref T\/s⁻¹<=T)->h1.get? T=AM oT->oT.data=.fields ts->3<ts.size ->
   (∀b o,b≠x->tb≠.ref b->b ∉ frs (env0::outer)->s.heap.get? b=AM o->h1.get? b=AM o)->(∀b o,b≠x->tb≠.ref b->s.heap.get? b=AM o->∃sl,h1.get? b=AM { o with slots:=sl }) ->
   Q () { s with heap:=h1 }:=λh1 T oT ts e1 nT oldT e2 d2 z2 k1 k2=>h h1 T oT ts e1 nT oldT e2 d2 z2 k1 k2
 unfold noteFrame
 erw[he]
 refine rQ (sC hx rfl (x:=tb) rfl ?_);rcases htb with rfl | ⟨T,oT,ts,rfl,nT,e2,d2,z2⟩
 ·rw[if_neg ∅];refine Zq hfr hl hf he hx λh' oT ts e1 ne e2 d2 z2 k1 k2=>land h' _ oT ts e1 ne (.inr (al _)) e2 d2 z2 (λb o hb _ hbf e=>k1 b o hb hbf e) λb o hb _ e=>k2 b o hb e
 ·rw[if_pos (show (Value.ref T != Value.none)=AO from by simp)];obtain⟨y,hy⟩:∃y,ts[3]? = AM y:=#[ts[3],by simp [z2]];refine rQ (sC e2 d2 (x:=y) hy ?_);by_cases c:(y == rawInt L)=AO
  ·rw[if_pos c];exact rR (land s.heap T oT ts hx nT (.inl rfl) e2 d2 z2 (λb o _ _ _ e=>e) λb o _ _ e=>#[o.slots,e])
  ·rw[if_neg c];refine rQ (tj e2 d2 z2 ?_);have oth:∀b,b≠T->(s.heap.update T (Obj.mapFields (·.setIfInBounds 3 Value.none))).get? b=s.heap.get? b:=λb hb=>aD _ _ (Ne.symm hb);have hl1:(s.heap.update T (Obj.mapFields (·.setIfInBounds 3 Value.none))).FunFrames base (env0::outer):=hl.of_keeps λb o hb hnf=>#[o,(oth b λq=>by rw[q,e2]at hb;cases hb;exact hnf ts d2).trans hb,rfl];have hsz:(s.heap.update T (Obj.mapFields (·.setIfInBounds 3 Value.none))).objs.size=s⁻¹:=dv ..;refine Zq (s:={ s with heap:=s.heap.update T (Obj.mapFields (·.setIfInBounds 3 Value.none)) }) hfr hl1 hf he ((oth x (Ne.symm nT)).trans hx) λh' oT' ts' e1 ne e2' d2' z2' k1 k2=>?_;refine land h' _ oT' ts' e1 ne (.inr (by rw[hsz];exact al _)) e2' d2' z2' (λb o hb hbt hbf e=>k1 b o hb hbf ((oth b λq=>hbt (by rw[q])).trans e)) λb o hb hbt e=>k2 b o hb ((oth b λq=>hbt (by rw[q])).trans e)
end
section
variable{X:Cx}{AR:List (rX × sL)}{σ:St}{H1:Hp}{s1:rZ}
theorem Inv.noted{h':su}{x T:rX}{tb:rY}(I1:Inv X AR σ H1 s1)(hst:X.stack=X.env::X.outer)(fx:wj X AR H1 x)(fT:∀T,tb=.ref T->wj X AR H1 T)(fT':wj X AR H1 T)
  (k1:∀b o,b≠x->tb≠.ref b->b ∉ frs (X.env::X.outer)->s1.heap.get? b=AM o->h'.get? b=AM o) (k2:∀b o,b≠x->tb≠.ref b->s1.heap.get? b=AM o->∃sl,h'.get? b=AM { o with slots:=sl }):Inv X AR σ H1 { s1 with heap:=h' }:=by
 have tbs:∀b,tb=.ref b->H1 b=AN:=λb hb=>(fT b hb).1
 have nch:∀b o,s1.heap.get? b=AM o->b ∉ (x::T::tbL tb)->b≠x/\tb≠.ref b:=λb o _ hb=>by
  refine#[λz=>hb (by simp [z]),λz=>hb ?_];rw[z];simp [tbL]
 have un:Un (frs X.stack) (x::T::tbL tb) H1 H1 s1.heap h':=by
  rw[hst];refine#[λb o e n hb hc=>?_,λb o e n hb hc=>?_,λb o e n _=>n,λb o e hc=>?_,λb xs e=>e,λb o u e=>e,λb ps e=>#[#[],by rw[e];simp]]
  ·obtain⟨a1,a2⟩:=nch b o e hc;exact k1 b o a1 a2 hb e
  ·obtain⟨a1,a2⟩:=nch b o e hc;exact k2 b o a1 a2 e
  ·obtain⟨a1,a2⟩:=nch b o e hc;obtain⟨sl,q⟩:=k2 b o a1 a2 e;exact#[_,q]
 have hok:HOk X.prog X.w H1 h':=λb u e=>by
  refine (I1.hok b u e).stay (λc v hc q=>k1 c v ?_ ?_ ?_ q) (λ_ q=>q) λ_ _ q=>q
  ·rintro rfl;rcases hc with rfl | hc
   ·rw[fx.1]at e;cases e
   ·rw[fx.1]at hc;cases hc
  ·intro z;have:=tbs c z;rcases hc with rfl | hc
   ·rw[this]at e;cases e
   ·rw[this]at hc;cases hc
  ·intro z;rw[<- hst]at z;have:=I1.stkFree c z;rcases hc with rfl | hc
   ·rw[this]at e;cases e
   ·rw[this]at hc;cases hc
 exact I1.call' (s':={ s1 with heap:=h' }) rfl un hok I1.bare λb hb=>by
  have fb:wj X AR H1 b:=by
   rcases AX.mp hb with z | z
   ·rw[z];exact fx
   ·rcases AX.mp z with z | z
    ·rw[z];exact fT'
    ·cases tb with
     | ref b' =>
      have:b=b':=by simpa [tbL] using z
      rw[this];exact fT b' rfl
     | _=>simp [tbL]at z
  obtain⟨_,a1,_,a3,a4,a5⟩:=fb;exact#[a3,a1,a4,a5]
end
section
variable{X:Cx}{scope:sU}{own caps:List sk}{ix:List Nat}{cl:List (sk × rX)}
theorem V8{N:List sk}{EX:XK}{AR:List (rX × sL)}{σ:St}{H3:Hp}{s3:rZ}{fp:List rX}{xe:rY->rZ->Prop}{e:rY}{s1:rZ}{RE:rY->rZ->Prop}(hst:X.stack=X.env::X.outer/\X.env.frame=AM X.env.locals)(hxe:XE X EX)
  (hc1:∀y c,cl.lookup y=AM c->X.env.cells.lookup y=AM c) (I3:Inv X AR σ H3 s3) (f3:∀b ∈ fp,wj X AR H3 b) (fl:zcK (yt X scope cl s3⁻¹ N AR s3 H3 fp xe) EX e s1)
  (hRE:∀m s' x,s'.heap.Ns s3⁻¹ m->(∀h',Heap.SameBut s3⁻¹ s'.heap h'->∀cenv:Ad,cenv.locals=s3⁻¹->si (model X.prog X.w) X.A (fF "comprehension.variables-let-go" x cenv:AF rY) (λ_ _=>False) X.xe { s' with heap:=h' })->RE x s') :
  notedBy (model X.prog X.w) X.A (compEnvC scope cl s3⁻¹ X.env) RE e s1:=by
 obtain⟨pins',σ',H1,x,C,t,dx,tb,rfl,I1,ob,tr,fx,fT,q⟩:=fl
 have IX:Inv X AR σ H1 s1:=I3.call' (s':=s1) I1.os I1.base I1.hok I1.bare λb hb=>by
  obtain⟨_,a1,a2,a3,a4,a5⟩:=f3 b hb;exact#[a3,a1,a4,a5]
 have up:∀b,wj (yt X scope cl s3⁻¹ N AR s3 H3 fp xe) pins' H1 b->wj X AR H1 b:=λb hb=>by
  obtain⟨a0,a1,a2,a3,a4,a5⟩:=hb;rcases a3 with a3 | a3
  ·exact#[a0,(f3 b a3).2]
  ·exact I3.fpOk a3 a0
 have fx':=up x fx;have fT':∀T,tb=.ref T->wj X AR H1 T:=λT h=>up T (fT T h);have fr:X.A.frames=AM (X.env::X.outer):=by rw[<- hst.1];exact IX.ok.frames
 have ff:s1.heap.FunFrames X.base (X.env::X.outer):=by rw[<- hst.1];exact IX.stack
 obtain⟨m,hm,_⟩:=I1.loc;have fC:wj X AR H1 s3⁻¹:=I3.fpOk (al _) I1.free;refine zcV fr ff hst.2 hst.2 ob tr λh' T oT ts e1 nT oldT e2 d2 z2 k1 k2=>?_
 have fT2:wj X AR H1 T:=by
  rcases oldT with z | z
  ·exact fT' T z
  ·exact IX.fpOk z (IX.hok.fresh z)
 have I2:Inv X AR σ H1 { s1 with heap:=h' }:=Inv.noted IX hst.1 fx' fT' fT2 k1 k2;have hCx:s3⁻¹≠x:=λz=>fx.2.1 z.symm;have hCtb:tb≠.ref s3⁻¹:=λz=>(fT _ z).2.1 rfl;obtain⟨oC,es,ep,hoC,rC⟩:=hm
 have hCT:T≠s3⁻¹:=by
  rcases oldT with z | z
  ·exact (fT T z).2.1
  ·exact bZ (av (aq hoC) z)
 have hCf:s3⁻¹ ∉ frs (X.env::X.outer):=λz=>by
  rw[<- hst.1]at z;rcases AX.mp (IX.stkSub _ z)with y | y
  ·exact fC.2.1 y
  ·exact fC.2.2.1 y
 refine hRE m _ _ #[oC,es,ep,k1 _ _ hCx hCtb hCf hoC,rC] λh2 sb cenv hcenv=>?_;have I3':Inv X AR σ H1 { s1 with heap:=h2 }:=I2.turned (t':=s1.toks) (λb o hb e=>(sb.2 b hb).trans e) fC.1 fC.2.1 fC.2.2.2.1 fC.2.2.2.2.1 fC.2.2.2.2.2;have ob2:h2.get? x=AM (xob C dx t (.ref T)):=(sb.2 x (Ne.symm hCx)).trans e1;have oT2:h2.get? T=AM oT:=(sb.2 T hCT).trans e2;unfold fF;refine rQ (sC (s:={ s1 with heap:=h2 }) ob2 rfl (x:=.ref T) rfl ?_);rw[if_neg (show ¬ (Value.ref T == Value.none)=AO from by simp)];unfold setFlight;refine rQ (rQ (sC (s:={ s1 with heap:=h2 }) ob2 rfl (x:=.ref T) rfl ?_));rw[if_pos (show (Value.ref T != Value.none)=AO from by simp)];refine tj (s:={ s1 with heap:=h2 }) oT2 d2 z2 (wpAny_throw (hxe _ _ ?_));have d3:=Obj.data_mapFields d2 (·.setIfInBounds 3 (cenv.frame.elim Value.none λf=>rawInt f))
 have I4:Inv X AR σ H1 { s1 with heap:=h2.update T (Obj.mapFields (·.setIfInBounds 3 (cenv.frame.elim Value.none λf=>rawInt f))) } :=
  I3'.turned (t':=s1.toks) (λb o hb e=>(aD _ _ (Ne.symm hb)).trans e) fT2.1 fT2.2.1 fT2.2.2.2.1 fT2.2.2.2.2.1 fT2.2.2.2.2.2
 exact#[AR,σ,H1,x,C,t,dx,.ref T,rfl,I4,(aD _ _ nT).trans ob2,.inr #[T,_,_,rfl,nT,bJ _ oT2 (Obj.isFreed_of_fields d3),d3,by simpa using z2],fx',λT' z=>by cases z;exact fT2,q]
end
section
variable{X:Cx}{scope:sU}{own caps:List sk}{ix:List Nat}{elt tg iter:sr}{ifs:List sr}{pos:tm}{wi:TI}{g:TG}{tt:TT}{te:TE}
end
end L3
namespace L3
open PySem.AutoSeq1 (wpAny_loadPart')
open MeetsSeq MeetsSeq2 MeetsSeq3 SeqRoads2 SeqAt
def jf(op:tN)(A:sq)(s:rZ)(y x:rY)(b:Bool):Prop :=
 ∀(prog:sj) (w:so) (E:rY->rZ->Prop) (Q:rY->rZ->Prop),Q (.bool b) s->si (model prog w) A (richCompare op y x) Q E s
noncomputable abbrev LtAt:=jf .Lt
noncomputable def zdN:tN->Nat->Nat->Bool
 | .Gt,m,n=>decide (n<m)
 | _,m,n=>decide (m<n)
noncomputable def zfE:tN->Int
 | .Gt=>4
 | _=>0
def LG(op:tN):Prop:=op=.Lt\/op=.Gt
def vR(op:tN)(e t r:Nat->Bool)(m n:Nat):Prop:=∀i,i<=m->i<=n->r i=if i<m/\i<n then (if e i=AO then r (i+1)else t i)else zdN op m n
noncomputable abbrev zeT:=vR .Lt
variable{op:tN}
theorem VL(ho:LG op)(l b:rX)(items AS:Array rY)(n n2:Nat)(dd dd2:Option rX)(sl sl2:Array (Option rY))(e t r:Nat->Bool)(hr:vR op e t r items.size AS.size)(k:Nat) :
  ∀i:Nat,i<=items.size->i<=AS.size->items.size - i=k->Meets (Builtin.«list.__eq__.loop» #[[.ref l,.ref b,rawInt i,rawInt (zfE op)],[]])
   (λA R s=>s.heap.get? l=AM { cls:=.type "list",dict:=dd,data:=.seq items n,slots:=sl }/\s.heap.get? b=AM { cls:=.type "list",dict:=dd2,data:=.seq AS n2,slots:=sl2 } /\
    (∀j (h1:j<items.size) (h2:j<AS.size),EqAt A.in1 s items[j] AS[j] (e j))/\(∀j (h1:j<items.size) (h2:j<AS.size),e j=AQ->jf op A.in1 s items[j] AS[j] (t j)) /\
    R (.ok (.ret (.bool (r i)))) s):=by
 rcases ho with rfl | rfl <;> erw[zfE] <;> erw[vR,zdN]at hr
 all_goals
  induction k with
  | zero =>
   intro i b1 b2 hk prog w A R s h;obtain⟨hp,g,d,tk,os⟩:=s;obtain⟨hl,hb,he,ht,h⟩:=h;have hri:=hr i b1 b2;rw[if_neg ⋯]at hri;rw[hri]at h
   wp_walk using wpAny_loadPart' hl,wpAny_loadPart' hb
   have hi1:items[((i:Nat):Int).toNat]? = AN:=by simp;lia
   rw[hi1]
   wp_walk using wpAny_loadPart' hl,wpAny_loadPart' hb
   exact h
  | succ k ih =>
   intro i b1 b2 hk prog w A R s h;obtain⟨hp,g,d,tk,os⟩:=s;obtain⟨hl,hb,he,ht,h⟩:=h;have hlt:i<items.size:=⋯;have hi1:items[((i:Nat):Int).toNat]? = AM items[i]:=by simp [hlt]
   have hc:((i:Int)+1)=((i+1:Nat):Int):=by push_cast;rfl
   have hri:=hr i b1 b2;by_cases hlt2:i<AS.size
   ·rw[if_pos #[hlt,hlt2]]at hri;rw[hri]at h;have hi2:AS[((i:Nat):Int).toNat]? = AM AS[i]:=by simp [hlt2]
    wp_walk using wpAny_loadPart' hl,wpAny_loadPart' hb
    rw[hi1,hi2];refine rQ (he i hlt hlt2 prog w _ _ ?_)
    cases hb':e i with
    | true =>
     rw[hb',if_pos rfl]at h
     wp_walk
     rw[hc]
     exact#[plainId_quiet plain_eq_loop _,tH entry_eq_loop (by
      rw[Around.under_plainId plain_eq_loop _]
      exact ih (i+1) ⋯ ⋯ ⋯ prog w A R _ #[hl,hb,he,ht,h])]
    | false =>
     rw[hb',if_neg aw]at h
     wp_walk using wpAny_loadPart' hl,wpAny_loadPart' hb
     rw[hi1,hi2];refine rQ (ht i hlt hlt2 hb' prog w _ _ ?_)
     wp_walk
     exact h
   ·rw[if_neg ⋯]at hri;rw[hri]at h;have hi2:AS[((i:Nat):Int).toNat]? = AN:=by simp;lia
    wp_walk using wpAny_loadPart' hl,wpAny_loadPart' hb
    rw[hi1,hi2]
    wp_walk using wpAny_loadPart' hl,wpAny_loadPart' hb
    exact h
theorem Z6(ho:LG op)(l b:rX)(items AS:Array rY)(n n2:Nat)(dd dd2:Option rX)(sl sl2:Array (Option rY))(e t r:Nat->Bool)(hr:vR op e t r items.size AS.size) :
  Meets ((match op with | .Gt=>Builtin.«list.__gt__» | _=>Builtin.«list.__lt__») ⟨[.ref l,.ref b],[]⟩)
   (λA R s=>s.heap.get? l=AM { cls:=.type "list",dict:=dd,data:=.seq items n,slots:=sl }/\s.heap.get? b=AM { cls:=.type "list",dict:=dd2,data:=.seq AS n2,slots:=sl2 } /\
    (∀j (h1:j<items.size) (h2:j<AS.size),EqAt A.in1 s items[j] AS[j] (e j))/\(∀j (h1:j<items.size) (h2:j<AS.size),e j=AQ->jf op A.in1 s items[j] AS[j] (t j)) /\
    R (.ok (.ret (.bool (r 0)))) s):=by
 rcases id ho with rfl | rfl
 all_goals
  intro prog w A R s h;obtain⟨hp,g,d,tk,os⟩:=s;obtain⟨hl,hb,he,ht,h⟩:=h;have f3:=AutoSeq1.sub_list_list
  wp_walk using wpAny_loadPart' hl,wpAny_loadPart' hb
  exact#[plainId_quiet plain_eq_loop _,tH entry_eq_loop (by
   rw[Around.under_plainId plain_eq_loop _]
   exact VL ho l b items AS n n2 dd dd2 sl sl2 e t r hr _ 0 (aE _) (aE _) rfl prog w A R _ #[hl,hb,he,ht,h])]
theorem kA(ho:LG op)(l b:rX)(items AS:Array rY)(n n2:Nat)(dd dd2:Option rX)(sl sl2:Array (Option rY))(e t r:Nat->Bool)(hr:vR op e t r items.size AS.size) :
  Meets ((match op with | .Gt=>Builtin.«tuple.__gt__» | _=>Builtin.«tuple.__lt__») ⟨[.ref l,.ref b],[]⟩)
   (λA R s=>s.heap.get? l=AM { cls:=.type "tuple",dict:=dd,data:=.seq items n,slots:=sl }/\s.heap.get? b=AM { cls:=.type "tuple",dict:=dd2,data:=.seq AS n2,slots:=sl2 } /\
    (∀j (h1:j<items.size) (h2:j<AS.size),EqAt A.in1 s items[j] AS[j] (e j))/\(∀j (h1:j<items.size) (h2:j<AS.size),e j=AQ->jf op A.in1 s items[j] AS[j] (t j)) /\
    R (.ok (.ret (.bool (r 0)))) s):=by
 rcases ho with rfl | rfl <;> erw[vR,zdN]at hr
 all_goals
  refine .of_wp λprog w A R s h=>?_;obtain⟨hp,g,d,tk,os⟩:=s;obtain⟨hl,hb,he,ht,h⟩:=h;have f2:=AutoSeq1.sub_tuple_tuple;have hZ:(items.toList.zip AS.toList).length=min items.size AS.size:=by simp
  wp_walk using wpAny_loadPart' hl,wpAny_loadPart' hb,wpAny_forIn_list _ (λrest b s'=>b.1=AN/\s'=#[hp,g,d,tk,os]/\∃i,i<=min items.size AS.size/\rest=(items.toList.zip AS.toList).drop i /\
   R (.ok (.ret (.bool (r i)))) #[hp,g,d,tk,os]) _
  case turn =>
   rintro⟨y,x⟩ rest b s' ⟨hb',rfl,i,hi,hz,hR⟩
   have hlt:i<(items.toList.zip AS.toList).length:=by
    rcases cG i (items.toList.zip AS.toList).length with h' | h'
    ·exact h'
    ·rw[aY h']at hz;cases hz
   have hm:i<min items.size AS.size:=hZ ▸ hlt;have h1:i<items.size:=av hm (Nat.min_le_left _ _);have h2:i<AS.size:=av hm (Nat.min_le_right _ _);rw[aT hlt]at hz;injection hz with hyx hrest;have hy:y=items[i]:=by have:=congrArg Prod.fst hyx;simpa using this
   have hx:x=AS[i]:=by have:=congrArg Prod.snd hyx;simpa using this
   subst hy hx;have hri:=hr i ⋯ ⋯;rw[if_pos #[h1,h2]]at hri;rw[hri]at hR;refine rQ (he i h1 h2 prog w _ _ ?_)
   cases hy:e i with
   | true =>
    rw[hy,if_pos rfl]at hR
    wp_walk
    exact#[rfl,rfl,i+1,⋯,hrest,hR]
   | false =>
    rw[hy,if_neg aw]at hR
    erw[e9,if_true]
    refine rQ (tY ?_);refine rQ (ht i h1 h2 hy prog w _ _ ?_)
    wp_walk
    exact#[_,rfl,hR]
  case fin =>
   rintro⟨b1,b2⟩ s' ⟨hb',rfl,i,hi,hz,hR⟩;simp only at hb';subst hb'
   have hge:min items.size AS.size<=i:=by
    rcases cG i (items.toList.zip AS.toList).length with h' | h'
    ·rw[aT h']at hz;cases hz
    ·exact hZ ▸ h'
   have hri:=hr i ⋯ ⋯;rw[if_neg ⋯]at hri;rw[hri]at hR
   wp_walk
   exact#[_,rfl,hR]
  case h =>
   exact#[rfl,rfl,0,aE _,rfl,h]
theorem LtAt.lists(ho:LG op){A:sq}{s:rZ}{l b:rX}{items AS:Array rY}{e t r:Nat->Bool}(hl:s.heap.IsList l items)(hb:s.heap.IsList b AS)(hr:vR op e t r items.size AS.size)(hu:A.units<cLine)
  (he:∀j (h1:j<items.size) (h2:j<AS.size),EqAt A.in1 s items[j] AS[j] (e j)) (ht:∀j (h1:j<items.size) (h2:j<AS.size),e j=AQ->jf op A.in1 s items[j] AS[j] (t j)):jf op A s (.ref l) (.ref b) (r 0):=λprog w E Q h=>by
 obtain⟨⟨cls,dd,data,sl⟩,h1,hc,n,hd⟩:=id hl;obtain⟨⟨cls2,dd2,data2,sl2⟩,h2,hc2,n2,hd2⟩:=id hb;simp only at hc hd hc2 hd2;subst hc hd hc2 hd2;have z:Value.bool (r 0)≠Value.notImplemented/\Q (.bool (r 0)) s:=#[(λx=>nomatch x),h];rcases id ho with rfl | rfl
 ·exact richCompare_meets_room #[_,h1,rfl] #[_,h2,rfl] F.slot_list_lt F.entry_list_lt (F.args_list_lt_2 _ _) (Z6 ho l b items AS n n2 dd dd2 sl sl2 e t r hr) #[h1,h2,he,ht,z] hu
 ·exact richCompare_meets_room #[_,h1,rfl] #[_,h2,rfl] F.slot_list_gt F.entry_list_gt (F.args_list_gt_2 _ _) (Z6 ho l b items AS n n2 dd dd2 sl sl2 e t r hr) #[h1,h2,he,ht,z] hu
theorem LtAt.tuples(ho:LG op){A:sq}{s:rZ}{l b:rX}{items AS:Array rY}{e t r:Nat->Bool}(hl:s.heap.IsTuple l items)(hb:s.heap.IsTuple b AS)(hr:vR op e t r items.size AS.size)(hu:A.units<cLine)
  (he:∀j (h1:j<items.size) (h2:j<AS.size),EqAt A.in1 s items[j] AS[j] (e j)) (ht:∀j (h1:j<items.size) (h2:j<AS.size),e j=AQ->jf op A.in1 s items[j] AS[j] (t j)):jf op A s (.ref l) (.ref b) (r 0):=λprog w E Q h=>by
 obtain⟨⟨cls,dd,data,sl⟩,h1,hc,n,hd⟩:=id hl;obtain⟨⟨cls2,dd2,data2,sl2⟩,h2,hc2,n2,hd2⟩:=id hb;simp only at hc hd hc2 hd2;subst hc hd hc2 hd2;have z:Value.bool (r 0)≠Value.notImplemented/\Q (.bool (r 0)) s:=#[(λx=>nomatch x),h];rcases id ho with rfl | rfl
 ·exact richCompare_meets_room #[_,h1,rfl] #[_,h2,rfl] F.slot_tuple_lt F.entry_tuple_lt (F.args_tuple_lt_2 _ _) (kA ho l b items AS n n2 dd dd2 sl sl2 e t r hr) #[h1,h2,he,ht,z] hu
 ·exact richCompare_meets_room #[_,h1,rfl] #[_,h2,rfl] F.slot_tuple_gt F.entry_tuple_gt (F.args_tuple_gt_2 _ _) (kA ho l b items AS n n2 dd dd2 sl sl2 e t r hr) #[h1,h2,he,ht,z] hu
end L3
namespace L3
mutual
def okD:D->D->Prop
 | .int _,.int _=>True
 | .lst l,.lst m=>ql l m
 | .tup l,.tup m=>ql l m
 | _,_=>False
def ql:List D->List D->Prop
 | d::l,e::m=>okD d e/\ql l m
 | _,_=>True
end
mutual
noncomputable def ltD:D->D->Bool
 | .int a,.int b=>decide (a<b)
 | .lst l,.lst m=>wv l m
 | .tup l,.tup m=>wv l m
 | _,_=>AQ
noncomputable def wv:List D->List D->Bool
 | d::l,e::m=>if eqD d e=AO then wv l m else ltD d e
 | [],_::_=>AO
 | _,[]=>AQ
end
theorem Qc(l m:List D):zeT (λj=>eqD (l.getD j .non) (m.getD j .non)) (λj=>ltD (l.getD j .non) (m.getD j .non)) (λi=>wv (l.drop i) (m.drop i)) l.length m.length:=by
 intro i b1 b2
 erw[zdN]
 by_cases h:i<l.length/\i<m.length
 ·rw[if_pos h,aT h.1,aT h.2,wv];rw[ah,ah,ag h.1,ag h.2];rfl
 ·rw[if_neg h];by_cases h1:i<l.length
  ·have h2:¬ i<m.length:=λz=>h #[h1,z];rw[aT h1,aY (cF h2),wv]
   ·simp;lia
   all_goals simp
  ·rw[aY (cF h1)];by_cases h2:i<m.length
   ·rw[aT h2,wv];simp;lia
   ·rw[aY (cF h2),wv]
    ·simp;lia
    all_goals simp
mutual
theorem Wt:∀d e:D,eqD d e=eqD e d
 | .lst l,e=>by cases e <;> erw[eqD];exact jt l _
 | .tup l,e=>by cases e <;> erw[eqD];exact jt l _
 | .int _,e=>by cases e <;> erw[eqD] <;> exact ft
 | .str _,e=>by cases e <;> erw[eqD] <;> exact ft
 | .bl _,e=>by cases e <;> erw[eqD] <;> exact ft
 | .non,e=>by cases e <;> erw[eqD]
theorem jt:∀l m:List D,v0 l m=v0 m l
 | [],[]=>rfl
 | [],_::_=>by erw[v0]
 | _::_,[]=>by erw[v0]
 | d::l,e::m=>by erw[v0,Wt d e,jt l m]
end
noncomputable def cm:tN->D->D->Bool
 | .Gt,d,e=>ltD e d
 | _,d,e=>ltD d e
noncomputable def cms:tN->List D->List D->Bool
 | .Gt,d,e=>wv e d
 | _,d,e=>wv d e
theorem Uw{op:tN}(ho:LG op)(l m:List D):vR op (λj=>eqD (l.getD j .non) (m.getD j .non)) (λj=>cm op (l.getD j .non) (m.getD j .non)) (λi=>cms op (l.drop i) (m.drop i)) l.length m.length:=by
 rcases ho with rfl | rfl
 ·exact Qc l m
 ·intro i b1 b2;have h:=Qc m l i b2 b1
  erw[zdN,cm,cms]at h ⊢
  rw[h,Wt (m.getD i .non)];by_cases q:i<l.length/\i<m.length
  ·rw[if_pos q,if_pos q.symm]
  ·rw[if_neg q,if_neg λz=>q z.symm]
theorem zcx:∀{l m:List D} {j:Nat} {d e:D},ql l m->l[j]? = AM d->m[j]? = AM e->okD d e
 | d::l,e::m,0,_,_,h,q1,q2=>by
  cases q1;cases q2
  erw[ql]at h
  exact h.1
 | d::l,e::m,j+1,_,_,h,q1,q2=>by
  erw[ql]at h
  exact zcx (j:=j) h.2 q1 q2
section
variable{X:Cx}{AR:List (rX × sL)}{σ:St}{H:Hp}{s:rZ}
theorem WN{op:tN}{l m:List D}{xs ys:List V}{its its':List rY}{A:sq}{n:Nat}(hl:Iss X.K H l xs)(hm:Iss X.K H m ys)(r:Vals xs its)(r':Vals ys its')(hn:uP l<n)(ok:ql l m)
  (ih:∀(d e:D) (x y:V) (u v:rY),dpD d<n->okD d e->Is X.K H d x->Is X.K H e y->RelV x u->RelV y v->jf op A s u v (cm op d e)) :
  ∀j (h1:j<its.toArray.size) (h2:j<its'.toArray.size),jf op A s its.toArray[j] its'.toArray[j] (cm op (l.getD j .non) (m.getD j .non)):=by
 intro j h1 h2;rw[aj]at h1 h2;have e1:=hl.len;have e2:=hm.len;have e3:=r.length;have e4:=r'.length;have g1:l[j]? = AM l[j]:=ag ⋯;have g2:m[j]? = AM m[j]:=ag ⋯;generalize l[j]=d at g1;generalize m[j]=e at g2;obtain⟨x,hx,ix⟩:=hl.at g1;obtain⟨y,hy,iy⟩:=hm.at g2;obtain⟨u,hu,ru⟩:=xJ r hx;obtain⟨v,hv,rv⟩:=xJ r' hy
 have q1:its.toArray[j]=u:=by
  have:=(AU.mp hu).2;simpa using this
 have q2:its'.toArray[j]=v:=by
  have:=(AU.mp hv).2;simpa using this
 rw[q1,q2,ah,ah,g1,g2];exact ih d e x y u v (cM (zbR g1) hn) (zcx ok g1 g2) ix iy ru rv
theorem Qr{op:tN}(ho:LG op)(I:Inv X AR σ H s):∀(n:Nat) (A:sq) (d e:D) (x y:V) (u v:rY),A.units+n<cLine->dpD d<n->okD d e->Is X.K H d x->Is X.K H e y->RelV x u->RelV y v->jf op A s u v (cm op d e):=by
 intro n
 induction n with
 | zero=>intro A d e x y u v _ h;exact absurd h (bQ _)
 | succ n ih =>
  intro A d e x y u v hu hd ok hx hy rx ry;have hu1:A.units<cLine:=⋯;have huA:A.in1.units+n<cLine:=by show A.units+1+n<cLine;lia
  cases d with
  | int a =>
   cases e with
   | int b =>
    erw[Is]at hx hy
    subst hx hy;obtain⟨t,rfl⟩:=rx;obtain⟨t',rfl⟩:=ry;rcases ho with rfl | rfl
    ·exact λprog w E Q h=>lt_int h
    ·exact λprog w E Q h=>gt_int h
   | _=>erw[okD]at ok
  | lst l =>
   cases e with
   | lst m =>
    erw[Is]at hx hy
    obtain⟨a,xs,rfl,h1,h2⟩:=hx;obtain⟨b,ys,rfl,g1,g2⟩:=hy;cases rx;cases ry;obtain⟨its,r,p,_⟩:=I.list h1;obtain⟨its',r',p',_⟩:=I.list g1
    erw[dpD]at hd
    erw[okD]at ok
    have L1:=h2.len;have L2:=g2.len;have L3:=r.length;have L4:=r'.length;have st:=Uw ho l m;rw[show l.length=its.toArray.size by erw[aj];lia,show m.length=its'.toArray.size by erw[aj];lia]at st
    have r0:=LtAt.lists ho (A:=A) p.isList p'.isList st hu1 (vc h2 g2 r r' (n:=n) ⋯ λd e x y u v q1 q2 q3 q4 q5=>Yj I n A.in1 d e x y u v huA q1 q2 q3 q4 q5)
     (λj h1 h2 _=>WN (n:=n) (A:=A.in1) ‹_› g2 r r' ⋯ ok (λd e x y u v q1 q2 q3 q4 q5 q6=>ih A.in1 d e x y u v huA q1 q2 q3 q4 q5 q6) j h1 h2)
    rcases id ho with rfl | rfl <;> exact r0
   | _=>erw[okD]at ok
  | tup l =>
   cases e with
   | tup m =>
    erw[Is]at hx hy
    obtain⟨a,xs,rfl,h1,h2⟩:=hx;obtain⟨b,ys,rfl,g1,g2⟩:=hy;cases rx;cases ry;obtain⟨its,r,p,_⟩:=I.tuple h1;obtain⟨its',r',p',_⟩:=I.tuple g1
    erw[dpD]at hd
    erw[okD]at ok
    have L1:=h2.len;have L2:=g2.len;have L3:=r.length;have L4:=r'.length;have st:=Uw ho l m;rw[show l.length=its.toArray.size by erw[aj];lia,show m.length=its'.toArray.size by erw[aj];lia]at st
    have r0:=LtAt.tuples ho (A:=A) p p' st hu1 (vc h2 g2 r r' (n:=n) ⋯ λd e x y u v q1 q2 q3 q4 q5=>Yj I n A.in1 d e x y u v huA q1 q2 q3 q4 q5)
     (λj h1 h2 _=>WN (n:=n) (A:=A.in1) ‹_› g2 r r' ⋯ ok (λd e x y u v q1 q2 q3 q4 q5 q6=>ih A.in1 d e x y u v huA q1 q2 q3 q4 q5 q6) j h1 h2)
    rcases id ho with rfl | rfl <;> exact r0
   | _=>erw[okD]at ok
  | non=>cases e <;> erw[okD]at ok
  | bl _=>cases e <;> erw[okD]at ok
  | str _=>cases e <;> erw[okD]at ok
theorem K3(I:Inv X AR σ H s):∀(n:Nat) (A:sq) (d e:D) (x y:V) (u v:rY),A.units+n<cLine->dpD d<n->okD d e->Is X.K H d x->Is X.K H e y->RelV x u->RelV y v->LtAt A s u v (ltD d e):=Qr (.inl rfl) I
def zfG(K:rW):R2:=λx y H Q=>∃d e,Is K H d x/\Is K H e y/\dpD d<50/\okD d e/\Q (.bl (ltD d e)) H
theorem zcO(hu:X.A.units+100<cLine):OpR X (sw .Lt) (zfG X.K):=by
 intro AR s σ H x y v u Q I rx ry h;obtain⟨d,e,hx,hy,hd,ok,q⟩:=h;exact K3 I 50 X.A d e x y v u ⋯ hd ok hx hy rx ry X.prog X.w X.xe _ #[.bl _,H,I,rfl,q]
def zfT(K:rW):R2:=λx y H Q=>∃d e,Is K H d x/\Is K H e y/\dpD d<50/\okD d e/\Q (.bl (ltD e d)) H
theorem zdY(hu:X.A.units+100<cLine):OpR X (sw .Gt) (zfT X.K):=by
 intro AR s σ H x y v u Q I rx ry h;obtain⟨d,e,hx,hy,hd,ok,q⟩:=h;exact Qr (op:=.Gt) (.inr rfl) I 50 X.A d e x y v u ⋯ hd ok hx hy rx ry X.prog X.w X.xe _ #[.bl _,H,I,rfl,q]
end
theorem zbk{K:rW}{x y:V}{H:Hp}{Q:VK}{d e:D}(h1:Is K H d x)(h2:Is K H e y)(h3:dpD d<50)(h4:okD d e)(q:Q (.bl (ltD d e)) H):zfG K x y H Q:=#[d,e,h1,h2,h3,h4,q]
noncomputable def ltI:List Int->List Int->Bool
 | a::l,b::m=>if a=b then ltI l m else decide (a<b)
 | [],_::_=>AO
 | _,[]=>AQ
theorem v8:∀(l m:List Int),ql (l.map D.int) (m.map D.int)
 | [],_=>by erw[aI,ql]
 | _::_,[]=>by erw[aI,ao,ql]
 | a::l,b::m=>by erw[ao,ql,okD,true_and];exact v8 l m
theorem qH:∀(l m:List Int),wv (l.map D.int) (m.map D.int)=ltI l m
 | [],[]=>by erw[aI,wv,ltI]
 | [],_::_=>by erw[aI,ao,wv,ltI]
 | _::_,[]=>by erw[aI,ao,wv,ltI]
 | a::l,b::m=>by
  erw[ao,wv,ltI,eqD,ltD,qH l m,beq_iff_eq]
end L3
namespace L3
mutual
def xA:D->Prop
 | .lst _=>False
 | .tup l=>zZ l
 | _=>True
def zZ:List D->Prop
 | []=>True
 | d::l=>xA d/\zZ l
end
theorem Jo{K:rW}{H:Hp}{a p:rX}{xs ys zs:List V}(hp:H p=AM (.lst ys))(h:SqT K H a xs):SqT K (upd H p (.lst zs)) a xs:=by
 rcases h with (h | ⟨o,h⟩) | h
 ·refine .inl (.inl ?_);rw[zm (λe=>by rw[e,hp]at h;cases h)];exact h
 ·refine .inl (.inr #[o,?_]);rw[zm (λe=>by rw[e,hp]at h;cases h)];exact h
 ·exact .inr h
mutual
theorem Is.updL{K:rW}{H:Hp}{p:rX}{ys zs:List V}(hp:H p=AM (.lst ys)):∀(d:D) (v:V),xA d->Is K H d v->Is K (upd H p (.lst zs)) d v
 | .non,v,_,h=>by erw[Is]at h ⊢;exact h
 | .bl b,v,_,h=>by erw[Is]at h ⊢;exact h
 | .int b,v,_,h=>by erw[Is]at h ⊢;exact h
 | .str b,v,_,h=>by erw[Is]at h ⊢;exact h
 | .lst l,v,f,h=>by erw[xA]at f
 | .tup l,v,f,h=>by
  erw[Is]at h ⊢
  erw[xA]at f
  obtain⟨a,xs,e1,e2,e3⟩:=h;exact#[a,xs,e1,Jo hp e2,Iss.updL hp l xs f e3]
theorem Iss.updL{K:rW}{H:Hp}{p:rX}{ys zs:List V}(hp:H p=AM (.lst ys)):∀(l:List D) (vs:List V),zZ l->Iss K H l vs->Iss K (upd H p (.lst zs)) l vs
 | [],vs,_,h=>by erw[Iss]at h ⊢;exact h
 | d::l,vs,f,h=>by
  erw[Iss]at h ⊢
  erw[zZ]at f
  obtain⟨v,r,e1,e2,e3⟩:=h;exact#[v,r,e1,Is.updL hp d v f.1 e2,Iss.updL hp l r f.2 e3]
end
theorem wM:∀{l:List D},(∀d ∈ l,xA d)->zZ l
 | [],_=>by erw[zZ]
 | d::l,h=>by erw[zZ];exact#[h d (by simp),wM λe he=>h e (by simp [he])]
theorem XB{n:Nat}:∀{l:List D},(∀d ∈ l,dpD d<=n)->uP l<=n
 | [],_=>by erw[uP];lia
 | d::l,h=>by
  have h1:=h d (by simp);have h2:=XB (n:=n) (l:=l) λe he=>h e (by simp [he])
  erw[uP]
  lia
def LsA(K:rW)(H:Hp)(a:rX)(ds:List D):Prop:=∃xs,H a=AM (.lst xs)/\Iss K H ds xs
theorem LsA.same{K:rW}{H H':Hp}{a:rX}{ds:List D}(h:LsA K H a ds)(e:Same H H'):LsA K H' a ds:=let #[xs,h1,h2]:=h; #[xs,e _ _ h1,Iss.same e _ _ h2]
theorem LsA.is{K:rW}{H:Hp}{a:rX}{ds:List D}(h:LsA K H a ds):Is K H (.lst ds) (.ref a):=by
 obtain⟨xs,h1,h2⟩:=h
 erw[Is]
 exact#[a,xs,rfl,SqL.of h1,h2]
theorem LsA.nil{K:rW}{H:Hp}{a:rX}:LsA K (upd H a (.lst [])) a []:=#[[],ze,by erw[Iss]]
theorem LsA.snoc{K:rW}{H:Hp}{a:rX}{ds:List D}{d:D}{xs:List V}{v:V}(h1:H a=AM (.lst xs))(h2:Iss K H ds xs)(f:zZ ds)(fd:xA d)(hv:Is K H d v):LsA K (upd H a (.lst (xs ++ [v]))) a (ds ++ [d]) :=
 #[_,ze,Iss.append (Iss.updL h1 _ _ f h2) (by erw[Iss];exact#[v,[],rfl,Is.updL h1 _ _ fd hv,rfl])]
theorem Is.tup{K:rW}{H:Hp}{p:rX}{vs:List V}{ds:List D}(hp:H p=AN)(h:Iss K H ds vs):Is K (upd H p (.tup vs)) (.tup ds) (.ref p):=by
 erw[Is]
 exact#[p,vs,rfl,SqT.of ze,Iss.same (zc hp) _ _ h]
noncomputable abbrev dS(l:List Nat):D:=.str (tx l)
noncomputable abbrev zv:=List Nat × List Nat
noncomputable def dR(r:zv):D:=.tup [dS r.1,dS r.2]
theorem zdW{K:rW}{H:Hp}{r:zv}{v:V}(h:Is K H (dR r) v):∃p,v=.ref p/\SqT K H p [.str (tx r.1),.str (tx r.2)]:=by
 erw[dR,Is,Iss]at h
 obtain⟨a,xs,e,hs,v1,r1,rfl,rfl,v2,r2,rfl,rfl,rfl⟩:=h;exact#[a,e,hs]
theorem zaP{K:rW}{H:Hp}{p:rX}{l m:List Nat}(h:SqT K H p [.str (tx l),.str (tx m)]):Is K H (dR (l,m)) (.ref p):=by
 erw[dR,Is,Iss]
 exact#[p,_,rfl,h,_,_,rfl,rfl,_,_,rfl,rfl,rfl]
theorem QD(r:zv):xA (dR r):=by erw[dR,xA,zZ,and_self]
theorem zek(r:zv):dpD (dR r)<=1:=by erw[dR,dpD,uP];lia
theorem WE(rs:List zv):zZ (rs.map dR):=wM λd h=>by obtain⟨r,_,rfl⟩:=AV.mp h;exact QD r
theorem zcI(rs:List zv):uP (rs.map dR)<=1:=XB λd h=>by obtain⟨r,_,rfl⟩:=AV.mp h;exact zek r
noncomputable abbrev N3:=Nat × Nat × Nat
noncomputable def d3(t:N3):D:=.tup [.int (t.1:Nat),.int (t.2.1:Nat),.int (t.2.2:Nat)]
theorem ze9{K:rW}{H:Hp}{t:N3}{v:V}(h:Is K H (d3 t) v):∃p,v=.ref p/\SqT K H p [.int (t.1:Nat),.int (t.2.1:Nat),.int (t.2.2:Nat)]:=by
 erw[d3,Is,Iss]at h
 obtain⟨a,xs,e,hs,v1,r1,rfl,rfl,v2,r2,rfl,rfl,v3,r3,rfl,rfl,rfl⟩:=h;exact#[a,e,hs]
theorem zcN{K:rW}{H:Hp}{i j k:Nat}:Iss K H [.int (i:Nat),.int (j:Nat),.int (k:Nat)] [.int (i:Nat),.int (j:Nat),.int (k:Nat)]:=by
 erw[Iss,Is]
 exact#[_,_,rfl,rfl,_,_,rfl,rfl,_,_,rfl,rfl,rfl]
theorem zbc(t:N3):xA (d3 t):=by erw[d3,xA,zZ,and_self]
theorem WB(rs:List N3):zZ (rs.map d3):=wM λd h=>by obtain⟨r,_,rfl⟩:=AV.mp h;exact zbc r
theorem Iss.get{K:rW}{H:Hp}{l:List D}{vs:List V}{j:Nat}{v:V}(h:Iss K H l vs)(q:vs[j]? = AM v):∃d,l[j]? = AM d/\Is K H d v:=by
 have hj:=(AU.mp q).1;have hl:=h.len;have g1:l[j]? = AM l[j]:=ag ⋯;obtain⟨x,hx,ix⟩:=h.at g1;rw[q]at hx;cases hx;exact#[_,g1,ix]
theorem Iss.getR{K:rW}{H:Hp}{rs:List zv}{vs:List V}{j:Nat}{v:V}(h:Iss K H (rs.map dR) vs)(q:vs[j]? = AM v):∃r p,rs[j]? = AM r/\v=.ref p/\SqT K H p [.str (tx r.1),.str (tx r.2)]:=by
 obtain⟨d,e,i⟩:=h.get q;rw[am]at e;obtain⟨r,hr,rfl⟩:=AZ.mp e;obtain⟨p,e1,e2⟩:=zdW i;exact#[r,p,hr,e1,e2]
theorem Iss.get3{K:rW}{H:Hp}{rs:List N3}{vs:List V}{j:Nat}{v:V}(h:Iss K H (rs.map d3) vs)(q:vs[j]? = AM v):∃r p,rs[j]? = AM r/\v=.ref p/\SqT K H p [.int (r.1:Nat),.int (r.2.1:Nat),.int (r.2.2:Nat)]:=by
 obtain⟨d,e,i⟩:=h.get q;rw[am]at e;obtain⟨r,hr,rfl⟩:=AZ.mp e;obtain⟨p,e1,e2⟩:=ze9 i;exact#[r,p,hr,e1,e2]
theorem zan{α:Type}(l:List α){a b:Int}(h0:0<=a)(h1:a<=b):cut l (AM a) (AM b)=(l.drop a.toNat).take (b - a).toNat:=by
 by_cases h2:b<=l.length
 ·exact UI l h0 h1 h2
 ·obtain⟨m,rfl⟩:=bC h0;obtain⟨n,rfl⟩:=bC (by lia:0<=b);unfold cut;rw[HT.sIx_nat,HT.sIx_nat,dw (by lia:l.length<=n)];have e:(((n:Nat):Int) - ((m:Nat):Int)).toNat=n - m:=⋯;have e2:((m:Nat):Int).toNat=m:=rfl;rw[e,e2,aX (l:=l.drop m) (by rw[bn];lia)];by_cases hm:m<=l.length
  ·rw[df hm,aX (by rw[bn];lia)]
  ·rw[dw ⋯,aY (al _),aY ⋯,List.take_nil]
theorem YH(ns:List Int){a b:Int}(h0:0<=a)(h1:a<=b):K9 (ns.map V.int) (AM a) (AM b)=((ns.drop a.toNat).take (b - a).toNat).map V.int:=by
 have e:K9 (ns.map V.int) (AM a) (AM b)=cut (ns.map V.int) (AM a) (AM b):=rfl;rw[e,zan _ h0 h1,List.map_take,List.map_drop]
end L3
namespace L3
open Classical in
section
variable{X:Cx}{AR:List (rX × sL)}{σ:L2.St}{H:Hp}{s:rZ}
open Classical in
end
end L3
namespace L3
structure DM(P:sj)(w:so)(K:rW)(mg:sk->Option rY)(base:su)(CX:CXT)(k:Nat)(C:rX)(m:sk)(ps:List sk)(sp:Sp):Prop where
 ex:∃f fd,zcQ K C m f/\zQ P w K mg base CX k f fd ps sp/\Binds K fd ps []
structure DMk(P:sj)(w:so)(K:rW)(mg:sk->Option rY)(base:su)(CX:CXT)(k:Nat)(C:rX)(ps:List sk)(sp:Sp):Prop where
 ex:∃f fd,Mk K C f/\zQ P w K mg base CX k f fd ps sp/\Binds K fd ps []
section
variable{X:Cx}{k j:Nat}{C:rX}{m:sk}{ps:List sk}{sp:Sp}{o e:sr}{es:List sr}{ta:TE}{t:TA}{apos pos p:tm}{x:sk}{E:XK}
theorem me0(D:DM X.prog X.w X.K X.mg X.base CX0 k C m ps sp)(c:Cls X.K C)(hr:Room j X.A)(he:PE X o ta){pl:AF Bool}(ht:eval (.Call (.Attribute o m apos) [] [] pos) X.env=(do
      let ov <- eval o X.env
      standAt apos.atName
      let (f,first) <- holding [ov] (getMethod ov m pl)
      callWith pos f first (sB pos (rT [] X.env)) (sP pos (sy [] X.env))):=by rfl) (hj:k<=j:=by decide):PE X (.Call (.Attribute o m apos) [] [] pos) (ZM C m sp [] E0 ta xR):=by
  obtain⟨f,fd,hm,F,hb⟩:=D.ex;exact Ks he c hm F (hr.mono hj) hb .nil Xe ht
theorem me1(D:DM X.prog X.w X.K X.mg X.base CX0 k C m ps sp)(c:Cls X.K C)(hr:Room j X.A)(he:PE X o ta)(ha:PA X (e::es) t){pl:AF Bool}
    (hst:rT (e::es) X.env=(AQ,eval e X.env)::rT es X.env:=by rfl) (hpl:(sB pos (rT es X.env)).any (·.1)=AQ:=by rfl)
    (ht:eval (.Call (.Attribute o m apos) (e::es) [] pos) X.env=(do
      let ov <- eval o X.env
      standAt apos.atName
      let (f,first) <- holding [ov] (getMethod ov m pl)
      callWith pos f first (sB pos (rT (e::es) X.env)) (sP pos (sy [] X.env))):=by rfl) (hj:k<=j:=by decide):PE X (.Call (.Attribute o m apos) (e::es) [] pos) (ZM C m sp [] E0 ta t):=by
  obtain⟨f,fd,hm,F,hb⟩:=D.ex;exact zbm he c hm F (hr.mono hj) hb .nil Xe ha hst hpl ht
theorem mkC(D:DMk X.prog X.w X.K X.mg X.base CX0 k C ps sp)(hr:Room j X.A)(hg:Gl X x)(hm:X.mg x=AM (.ref C))(ha:PA X (e::es) t)(hdb:(x ==("__debug__" : sk))=AQ:=by decide)(he:rT (e::es) X.env=(AQ,eval e X.env)::rT es X.env:=by rfl)
  (hpl:(sB pos (rT es X.env)).any (·.1)=AQ:=by rfl) (hj:k+1<=j:=by decide):PE X (.Call (.Name x p) (e::es) [] pos) (VP C sp [] E0 t):=by
 obtain⟨f,fd,M,F,hb⟩:=D.ex;exact U5 M F (hr.mono hj) hg hm hb .nil Xe ha hdb he hpl
end
end L3
namespace L3
section
variable{X:Cx}
end
section
variable{X:Cx}{k j:Nat}{C:rX}{m:sk}{ps:List sk}{sp:Sp}{o e:sr}{es:List sr}{ta:TE}{t:TA}{apos pos p:tm}
end
end L3
namespace L3
def zq(Fam:rX->Prop)(m:sk)(sp:rX->Sp)(dvs:List V)(E:XK)(ta:TE)(t:TA):TE:=λσ H Q=>ta σ H λx H1=>∃C a dx fs,Fam C/\x=.ref a/\H1 a=AM (.ins C dx fs)/\fs.lookup m=AN /\
 t σ H1 λvs H2=>sp C (x::(vs ++ dvs)) H2 Q E
structure DMF(P:sj)(w:so)(K:rW)(mg:sk->Option rY)(base:su)(CX:CXT)(k:Nat)(Fam:rX->Prop)(m:sk)(ps:List sk)(sp:rX->Sp):Prop where
 ex:∀C,Fam C->Cls K C/\DM P w K mg base CX k C m ps (sp C)
section
variable{X:Cx}{k j:Nat}{Fam:rX->Prop}{m:sk}{ps:List sk}{sp:rX->Sp}{o e:sr}{es:List sr}{ta:TE}{t:TA}{apos pos p:tm}{x:sk}{E:XK}
theorem zga(D:DMF X.prog X.w X.K X.mg X.base CX0 k Fam m ps sp)(hr:Room j X.A)(he:PE X o ta){pl:AF Bool}(ht:eval (.Call (.Attribute o m apos) [] [] pos) X.env=(do
      let ov <- eval o X.env
      standAt apos.atName
      let (f,first) <- holding [ov] (getMethod ov m pl)
      callWith pos f first (sB pos (rT [] X.env)) (sP pos (sy [] X.env))):=by rfl) (hj:k<=j:=by decide):PE X (.Call (.Attribute o m apos) [] [] pos) (zq Fam m sp [] E0 ta xR):=by
  intro AR s σ H Q I h;refine bU (pl:=pl) (thn (he AR s σ H _ I h) λu s1 ⟨x,H1,I1,rx,C,a,dx,fs,fam,ex,ea,l,q⟩=>?_) ht;subst ex;obtain rfl:u=Value.ref a:=rx;obtain⟨c,⟨f,fd,hm,F,hb⟩⟩:=D.ex C fam;refine xT I1 ea c hm l ?_;exact fw (first:=[.ref a]) I1.kIn hm.kp (ko (us:=[.ref a]) (vs:=[.ref a]) F (hr.mono hj) hb .nil Xe I1 (.cons rfl .nil) q)
theorem zcs(D:DMF X.prog X.w X.K X.mg X.base CX0 k Fam m ps sp)(hr:Room j X.A)(he:PE X o ta)(ha:PA X (e::es) t){pl:AF Bool}
    (hst:rT (e::es) X.env=(AQ,eval e X.env)::rT es X.env:=by rfl) (hpl:(sB pos (rT es X.env)).any (·.1)=AQ:=by rfl)
    (ht:eval (.Call (.Attribute o m apos) (e::es) [] pos) X.env=(do
      let ov <- eval o X.env
      standAt apos.atName
      let (f,first) <- holding [ov] (getMethod ov m pl)
      callWith pos f first (sB pos (rT (e::es) X.env)) (sP pos (sy [] X.env))):=by rfl) (hj:k<=j:=by decide):PE X (.Call (.Attribute o m apos) (e::es) [] pos) (zq Fam m sp [] E0 ta t):=by
  intro AR s σ H Q I h;refine bU (pl:=pl) (thn (he AR s σ H _ I h) λu s1 ⟨x,H1,I1,rx,C,a,dx,fs,fam,ex,ea,l,q⟩=>?_) ht;subst ex;obtain rfl:u=Value.ref a:=rx;obtain⟨c,⟨f,fd,hm,F,hb⟩⟩:=D.ex C fam;refine xT I1 ea c hm l ?_;refine bL (first:=[.ref a]) (h₀:=X.base) I.ok.mod.kin hm.kp (thn (ha pos AR s1 σ H1 _ I1 q) λus s2 ⟨vs,H2,I2,r,q2⟩=>#[I2.kIn,?_]) hst hpl;exact ko (us:=.ref a::us) (vs:=.ref a::vs) F (hr.mono hj) hb .nil Xe I2 (.cons rfl r) q2
end
section
variable{X:Cx}
theorem WH:∀{ns:List Int} {its:List rY},Vals (ns.map V.int) its->Az its ns
 | [],_,.nil=>.nil
 | n::ns,_,.cons r t=>by
  obtain⟨tk,rfl⟩:=r;exact .cons n tk (WH t)
def ya(K:rW):List V->Hp->VK->Prop:=λxs H Q=>∃(p:rX) (ns:List Int),xs=[.ref p]/\SqL K H p (ns.map V.int)/\Q (.int ns.sum) H
theorem zex(hc:X.calm=AO):vo X (.builtin "sum") (ya X.K):=by
 intro AR s σ H xs us Q I r h;obtain⟨p,ns,rfl,hS,q⟩:=h;obtain⟨u,rfl,ru⟩:=wq r;cases ru;obtain⟨its,rv,pl,hz⟩:=I.list hS;have hh:X.A.handled=AN:=I.ok.hd hc;have ia:=WH rv;obtain⟨ps,e⟩:=ia.allInts.items
 have en:ps.toList.map (·.1)=ns:=by
  rw[<- nums_intItems,<- e];exact ia.numsOf
 refine sum_intListG hh (by rw[<- e];exact pl.isList) λh' tk t' hk=>?_;rw[preSum_eq,aX (by simp),en];exact#[.int ns.sum,H,I.kept hk,#[_,rfl],q]
end
end L3
namespace L3
theorem Va(l:List Nat):((Builtin.Str.strSliceIndices AN AN (-1) (tx l).length).filterMap ((tx l).cps[·]?))=l.reverse:=by
 rw[z6,picked_rev];have e:(tx l).cps=l.toArray:=rfl;rw[e];apply ee;intro i
 have h:((aH l.length).map λk=>l.length - 1 - k).filterMap (l.toArray[·]?)=(aH l.length).map λk=>l.getD (l.length - 1 - k) 0:=by
  rw[filterMap_get,dD]
  ·refine cr λk _=>?_;show l.toArray.getD (l.length - 1 - k) 0=_;simp [fo,List.getD];split <;> simp_all
  ·intro i hi;obtain⟨k,hk,rfl⟩:=AV.mp hi;have:=Ba.mp hk;show _<l.toArray.size;rw[aj];lia
 rw[h];by_cases hi:i<l.length
 ·rw[bu hi,am,cJ hi];show AM (l.getD (l.length - 1 - i) 0)=_;rw[ah,ag ⋯];rfl
 ·rw[bv (by simp;lia),bv (by simp;lia)]
def yb(te ts:TE):TE:=λσ H Q=>te σ H λx H1=>ts σ H1 λy H2=>y=.int (-1)/\∃l:List Nat,x=.str (tx l)/\l.length<=rV/\Q (.str (tx l.reverse)) H2
section
variable{X:Cx}{e st:sr}{te ts:TE}{pos p2:tm}
theorem zaF(he:PE X e te)(hs:PE X st ts):PE X (.Subscript e (.Slice AN AN (AM st) p2) pos) (yb te ts):=by
 intro AR s σ H Q I h;refine AI (thn (he AR s σ H _ I h) λv s1 ⟨x,H1,I1,r1,q1⟩=>?_);refine wpAny_Slice ?_;rw[evalPart_none];refine rR (rR ?_);rw[evalPart_some];refine thn (hs AR s1 σ H1 _ I1 q1) λu s2 ⟨y,H2,I2,r2,ey,l,ex,hl,q2⟩=>?_;subst ey ex;obtain⟨t,rfl⟩:=r1;obtain⟨tk,rfl⟩:=r2;have I4:Inv X AR σ H2 { s2 with heap:=s2.heap.push { cls:=.type "slice",data:=.fields (List.toArray [.none,.none,.int (-1) tk]) } }:=I2.kept (t':=s2.toks) λb ob q=>ae _ q;show si (model X.prog X.w) X.A (Ap e (.Slice AN AN (AM st) p2) (.str (tx l) t) (.ref s2⁻¹)) (EP X AR σ Q) X.xe { s2 with heap:=s2.heap.push { cls:=.type "slice",data:=.fields (List.toArray [.none,.none,.int (-1) tk]) } };refine tail_any (ops:=[.ref s2⁻¹,.str (tx l) t]) (typeIs_str _ (tx l) t) slot_str_getitem.lookup ?_ (by with_unfolding_all rfl);refine tW (l:=AN) (u:=AN) (st:=AM (-1,tk)) (Heap.IsSliceOf.new ..) rfl ?_;unfold sliceMade slicePicked
 have hc':¬ (((AM ((-1:Int),tk)).map (·.1)).getD 1 == 1 && (Builtin.Str.strSliceIndices ((AN:Option (Int × tT)).map (·.1)) ((AN:Option (Int × tT)).map (·.1)) (((AM ((-1:Int),tk)).map (·.1)).getD 1) (tx l).length).length ==(tx l).length)=AO:=by
  have:(((AM ((-1:Int),tk)).map (·.1)).getD 1 == 1)=AQ:=rfl;rw[this];simp
 rw[if_neg hc']
 have e:Str.mk ((Builtin.Str.strSliceIndices AN AN (-1) (tx l).length).filterMap ((tx l).cps[·]?)).toArray=tx l.reverse:=by
  rw[Va]
 show (Str.mk ((Builtin.Str.strSliceIndices AN AN (-1) (tx l).length).filterMap ((tx l).cps[·]?)).toArray).length<=rV/\_;rw[e];refine#[by rw[z6,cI];exact hl,?_]
 exact#[.str (tx l.reverse),H2,I4.tok _,#[_,by
  show Value.str (Str.mk ((Builtin.Str.strSliceIndices AN AN (-1) (tx l).length).filterMap ((tx l).cps[·]?)).toArray) _=_
  rw[e]],q2]
end
end L3
namespace L3
structure zfZ(K:rW)(C:rX)(m:sk)(f:rX):Prop where
 sg:cB K (.ref C) "__getattribute__" = AM (AM (.builtin "type.__getattribute__"))
 rd:fR K C (.type "type")=AO
 fc:fS K (.ref C) (.type "type") m=AM (.val (.ref f))
 kp:aF K (.ref f)=AO
structure DC(P:sj)(w:so)(K:rW)(mg:sk->Option rY)(base:su)(CX:CXT)(k:Nat)(C:rX)(m:sk)(ps:List sk)(sp:Sp):Prop where
 ex:∃f fd,zfZ K C m f/\zQ P w K mg base CX k f fd ps sp/\Binds K fd ps []
section
variable{X:Cx}{k j:Nat}{C:rX}{m x:sk}{ps:List sk}{sp:Sp}{e:sr}{es:List sr}{t:TA}{apos pos p:tm}
theorem za7(D:DC X.prog X.w X.K X.mg X.base CX0 k C m ps sp)(hr:Room j X.A)(hg:Gl X x)(hm:X.mg x=AM (.ref C))(ha:PA X (e::es) t){pl:AF Bool}(hdb:(x ==("__debug__" : sk))=AQ:=by decide)
    (hst:rT (e::es) X.env=(AQ,eval e X.env)::rT es X.env:=by rfl) (hpl:(sB pos (rT es X.env)).any (·.1)=AQ:=by rfl)
    (ht:eval (.Call (.Attribute (.Name x p) m apos) (e::es) [] pos) X.env=(do
      let ov <- eval (.Name x p) X.env
      standAt apos.atName
      let (f,first) <- holding [ov] (getMethod ov m pl)
      callWith pos f first (sB pos (rT (e::es) X.env)) (sP pos (sy [] X.env))):=by rfl) (hj:k<=j:=by decide):PE X (.Call (.Attribute (.Name x p) m apos) (e::es) [] pos) (qb sp [] E0 t):=by
  obtain⟨f,fd,cm,F,hb⟩:=D.ex;have hn:PE X (.Name x p) (tC (.ref C)):=yk hg hm rfl hdb;intro AR s σ H Q I h;refine bU (pl:=pl) (thn (hn AR s σ H (λy H1=>y=.ref C/\H1=H) I #[rfl,rfl]) λu s1 ⟨y,H1,I1,ry,ey,eH⟩=>?_) ht;subst ey eH;obtain rfl:u=Value.ref C:=ry;refine PySem.W.method_cls I1.kIn cm.sg (PySem.W.cls_value I1.kIn cm.rd cm.fc rfl ?_);refine bL (first:=[]) (h₀:=X.base) I.ok.mod.kin cm.kp (thn (ha pos AR _ σ H1 _ (I1.tok _) h) λus s2 ⟨vs,H2,I2,r,q2⟩=>#[I2.kIn,?_]) hst hpl;exact ko (us:=us) (vs:=vs) F (hr.mono hj) hb .nil Xe I2 r q2
def zp:V->List V->Hp->VK->Prop:=λx xs H Q=>∃(z y:sk) (i:Nat),x=.str z/\xs=[.str y]/\PySem.Txt.find z y=(i:Int)/\Q (.int (i:Nat)) H
theorem V5:MtR X "str.index" zp:=by
 intro AR s σ H x xs v us Q I rx rv h;obtain⟨z,y,i,rfl,rfl,hf,q⟩:=h;obtain⟨t,rfl⟩:=rx;obtain⟨u,rfl,t',rfl⟩:=wq rv;unfold PySem.Txt.find at hf
 cases ho:Builtin.Str.occurrences z y 0 z.length 1 with
 | nil=>rw[ho]at hf;dsimp only at hf;lia
 | cons a r =>
  rw[ho]at hf;have:a=i:=by dsimp only at hf;lia
  subst this;exact PySem.SC.index ho #[.int _,H,I.tok _,#[_,rfl],q]
end
end L3
namespace L3
section
variable{prog:sj}{w:so}{A:sq}{E:rY->rZ->Prop}{s:rZ}
theorem vd{h h':su}{a:rX}{ty:String}{x:sk}{t:tT}{i:Nat}(y:h.IsStrIter a ty x t i)(e:∀o,h.get? a=AM o->h'.get? a=AM o):h'.IsStrIter a ty x t i:=let #[o,ho,r]:=y; #[o,e o ho,r]
theorem uk{h h':su}{a t:rX}{i:Nat}(y:h.IsTupleIter a t i)(e:∀o,h.get? a=AM o->h'.get? a=AM o):h'.IsTupleIter a t i:=let #[o,ho,r]:=y; #[o,e o ho,r]
theorem zaj{h h':su}{a:rX}{xs:Array rY}(y:h.IsTuple a xs)(e:∀o,h.get? a=AM o->h'.get? a=AM o):h'.IsTuple a xs:=let #[o,ho,r]:=y; #[o,e o ho,r]
theorem sit(x:sk):sE x="str_ascii_iterator"\/sE x="str_iterator":=by
 unfold sE;split
 ·exact .inl rfl
 ·exact .inr rfl
theorem qO{it:rX}{x:sk}{t:tT}{i c:Nat}{Q:rY->rZ->Prop}(hit:s.heap.IsStrIter it (sE x) x t i)(hx:x.cps[i]? = AM c)
  (hQ:∀h',h'.IsStrIter it (sE x) x t (i+1)->Heap.SameBut it s.heap h'->Q (.str ⟨#[c]⟩ s.toks) { s with heap:=h',toks:=s.toks+1 }) :
  si (model prog w) A (Builtin.SmallTypes.nextOf (.ref it)) Q E s:=by
 rcases sit x with e | e
 ·rw[e]at hit hQ;exact wpAny_nextOf_ascii_item hit hx hQ
 ·rw[e]at hit hQ;exact wpAny_nextOf_wide_item hit hx hQ
theorem jO{it:rX}{x:sk}{t:tT}{i:Nat}{Q:rY->rZ->Prop}(hh:A.handled=AN)(hit:s.heap.IsStrIter it (sE x) x t i)(hx:x.cps[i]? = AN)
  (hE:∀h' e,Heap.ExtBut it s.heap h'->(∃o,h'.get? e=AM o/\o.cls=.type "StopIteration")->E (.ref e) { s with heap:=h' }) :
  si (model prog w) A (Builtin.SmallTypes.nextOf (.ref it)) Q E s:=by
 rcases sit x with e | e
 ·rw[e]at hit;exact wpAny_nextOf_ascii_end hh hit hx hE
 ·rw[e]at hit;exact wpAny_nextOf_wide_end hh hit hx hE
theorem jw{it t:rX}{i:Nat}{items:Array rY}{x:rY}{Q:rY->rZ->Prop}(hit:s.heap.IsTupleIter it t i)(ht:s.heap.IsTuple t items)(hx:items[i]? = AM x)
  (hQ:∀h',h'.IsTupleIter it t (i+1)->Heap.SameBut it s.heap h'->Q x { s with heap:=h' }) :
  si (model prog w) A (Builtin.SmallTypes.nextOf (.ref it)) Q E s:=by
 obtain⟨o,ho,hc,hd⟩:=id hit;obtain⟨ol,hol,_,nl,hdl⟩:=ht;unfold Builtin.SmallTypes.nextOf
 refine rQ (wpAny_callSpecial?_slot (name:=bF "__next__") hit.typeIs F.slot_tuple_iterator_next
  (tX F.slot_tuple_iterator_next hit.typeIs F.entry_tuple_iterator_next ?_ (F.args_tuple_iterator_next_1 _)))
 show si _ _ (field (.ref it) 0 >>= _) _ _ s;refine rQ (sC ho hd (x:=.ref t) rfl ?_);show si _ _ (if (Value.ref t == Value.none)=AO then _ else _) _ _ s;rw[if_neg (show ¬ ((Value.ref t == Value.none)=AO)from aw)];show si _ _ (field (.ref it) 1 >>= _) _ _ s;refine rQ (sC ho hd (x:=.int i 0) rfl ?_);show si _ _ (seqItems? (.ref t) >>= _) _ _ s;refine rQ (sQ hol hdl ?_)
 erw[aN,hx]
 refine rQ (tj ho hd (by simp) (rR #[x,rfl,rR (hQ _ ?_ (Heap.SameBut.update ..))]))
 exact#[_,bJ _ ho (Obj.isFreed_of_fields (Obj.data_mapFields hd _)),(Obj.cls_mapFields ..).trans hc,by
  rw[Obj.data_mapFields hd];simp [rawInt]]
structure zd0(z TI TO i1 i2 l2:rX):Prop extends K8 z TI TO i1 i2 where
 l2z:l2≠z
 l2TO:l2≠TO
 l2i1:l2≠i1
 l2i2:l2≠i2
theorem Q9{z TI TO i1 i2 l2:rX}{k c:Nat}{X:sk}{tx:tT}{ys:Array rY}{y a b:rY}{Q:rY->rZ->Prop}(D:zd0 z TI TO i1 i2 l2)
  (hz:tU s.heap z TI TO .none) (hTI:sV s.heap TI (.ref i1) (.ref i2)) (hTO:sV s.heap TO a b)
  (h1:s.heap.IsStrIter i1 (sE X) X tx k) (h2:s.heap.IsTupleIter i2 l2 k) (hl2:s.heap.IsTuple l2 ys) (hx:X.cps[k]? = AM c) (hy:ys[k]? = AM y)
  (hQ:∀h' t',tU h' z TI TO (rawInt s⁻¹)->sV h' TO (.str ⟨#[c]⟩ t') y->h'.IsStrIter i1 (sE X) X tx (k+1)->h'.IsTupleIter i2 l2 (k+1)->sV h' s⁻¹ (.str ⟨#[c]⟩ t') y->h'.objs.size=s⁻¹+1 ->
   (∀c o,c≠z->c≠TO->c≠i1->c≠i2->s.heap.get? c=AM o->h'.get? c=AM o)->Q (.ref s⁻¹) { s with heap:=h',toks:=s.toks+1 }) :
  si (model prog w) A (Builtin.«zip.__next__» #[[.ref z],[]]) (λfin s'=>∃v,fin=.done (.ret v)/\Q v s') E s:=by
 show si _ _ (field (.ref z) 2 >>= _) _ _ _;refine rQ (sC hz rfl (x:=.bool AQ) rfl ?_);show si _ _ (field (.ref z) 3 >>= _) _ _ _;refine rQ (sC hz rfl (x:=.ref TI) rfl ?_);refine rQ (sQ hTI rfl ?_);show si _ _ (Builtin.SmallTypes.ownedTupleIsFree (.ref z) >>= _) _ _ _;refine rQ ?_;unfold Builtin.SmallTypes.ownedTupleIsFree;refine rQ (sC hz rfl (x:=.none) rfl (rR ?_))
 erw[if_true]
 refine rQ (tY ?_);refine rQ (sC hz rfl (x:=.ref TO) rfl ?_);refine rQ (tu hz (by simp) λh₁ hz₁ hs₁=>?_)
 replace hz₁:tU h₁ z TI TO .ellipsis:=hz₁
 refine rQ ?_
 erw[List.zipIdx_cons,List.zipIdx_nil,de,e8]
 refine rQ (rQ (An ?_));show si _ _ (Builtin.SmallTypes.nextOf (.ref i1) >>= _) _ _ _;refine rQ (qO (s:={ s with heap:=h₁ }) (vd h1 λo e=>hs₁.extBut _ _ D.i1z e) hx λh₂ h1₂ hs₂=>rR ?_);have hTO₂:sV h₂ TO a b:=hs₂.extBut _ _ D.TOi1 (hs₁.extBut _ _ D.TOz hTO);refine rQ (sQ hTO₂ rfl ?_);refine rQ (Ae hTO₂ λh₃ hTO₃ hs₃=>?_)
 replace hTO₃:sV h₃ TO (.str ⟨#[c]⟩ s.toks) b:=hTO₃
 refine rQ (tI (rR ?_));refine rQ (rQ (An ?_));show si _ _ (Builtin.SmallTypes.nextOf (.ref i2) >>= _) _ _ _;have up3:∀d o,d≠z->d≠i1->d≠TO->s.heap.get? d=AM o->h₃.get? d=AM o:=λd o d1 d2 d3 e=>hs₃.extBut _ _ d3 (hs₂.extBut _ _ d2 (hs₁.extBut _ _ d1 e));refine rQ (jw (uk h2 λo e=>up3 _ o D.i2z D.i12.symm D.TOi2.symm e) (zaj hl2 λo e=>up3 _ o D.l2z D.l2i1 D.l2TO e) hy λh₄ h2₄ hs₄=>rR ?_);have hTO₄:sV h₄ TO (.str ⟨#[c]⟩ s.toks) b:=hs₄.extBut _ _ D.TOi2 hTO₃;refine rQ (sQ hTO₄ rfl ?_);refine rQ (Ae hTO₄ λh₅ hTO₅ hs₅=>?_)
 replace hTO₅:sV h₅ TO (.str ⟨#[c]⟩ s.toks) y:=hTO₅
 refine rQ (tI (rR (rR ?_)));refine rQ (sQ hTO₅ rfl ?_);refine rQ (wpAny_newTuple ?_);have hsz:h₅.objs.size=s⁻¹:=by rw[hs₅.1,hs₄.1,hs₃.1,hs₂.1,hs₁.1]
 have hz₅:tU h₅ z TI TO .ellipsis:=hs₅.extBut _ _ D.TOz.symm (hs₄.extBut _ _ D.i2z.symm (hs₃.extBut _ _ D.TOz.symm (hs₂.extBut _ _ D.i1z.symm hz₁)))
 have hk₅:∀c o,c≠z->c≠TO->c≠i1->c≠i2->s.heap.get? c=AM o->h₅.get? c=AM o:=λc o c1 c2 c3 c4 e =>
  hs₅.extBut _ _ c2 (hs₄.extBut _ _ c4 (up3 _ _ c1 c3 c2 e))
 have h1₅:h₅.IsStrIter i1 (sE X) X tx (k+1):=vd h1₂ λo e=>hs₅.extBut _ _ D.TOi1.symm (hs₄.extBut _ _ D.i12 (hs₃.extBut _ _ D.TOi1.symm e));have h2₅:h₅.IsTupleIter i2 l2 (k+1):=uk h2₄ λo e=>hs₅.extBut _ _ D.TOi2.symm e;have hzlt:z<h₅.objs.size:=aq hz₅;show si _ _ (Builtin.SmallTypes.ownedTupleHandOut (.ref z) (.ref h₅.objs.size) >>= _) _ _ _;refine rQ ?_;unfold Builtin.SmallTypes.ownedTupleHandOut;have hz₆:tU (h₅.push { cls:=.type "tuple",data:=.seq (List.toArray [.str ⟨#[c]⟩ s.toks,y]) }) z TI TO .ellipsis:=ae _ hz₅;refine rQ (tu hz₆ (by simp) λh₇ hz₇ hs₇=>?_)
 replace hz₇:tU h₇ z TI TO (rawInt h₅.objs.size):=hz₇
 refine tu hz₇ (by simp) λh₈ hz₈ hs₈=>?_
 replace hz₈:tU h₈ z TI TO (rawInt h₅.objs.size):=hz₈
 have up:∀c o,c≠z->h₅.get? c=AM o->h₈.get? c=AM o:=λc o c1 e=>hs₈.extBut _ _ c1 (hs₇.extBut _ _ c1 (ae _ e));have hT₈:sV h₈ h₅.objs.size (.str ⟨#[c]⟩ s.toks) y:=hs₈.extBut _ _ (bZ hzlt) (hs₇.extBut _ _ (bZ hzlt) (az _ rfl));have hz8:h₈.objs.size=h₅.objs.size+1:=by rw[hs₈.1,hs₇.1,bM]
 rw[hsz]at hz₈ hT₈ hz8;refine rR #[_,rfl,?_];show Q (.ref h₅.objs.size) _;rw[hsz];exact hQ h₈ s.toks hz₈ (up _ _ D.TOz hTO₅) (vd h1₅ λo e=>up _ o D.i1z e) (uk h2₅ λo e=>up _ o D.i2z e) hT₈ hz8 λc o c1 c2 c3 c4 e=>up c o c1 (hk₅ c o c1 c2 c3 c4 e)
theorem zcd{z TI TO i1 i2 l2:rX}{k:Nat}{X:sk}{tx:tT}{a b:rY}{Q:Fin->rZ->Prop}(hh:A.handled=AN)(D:zd0 z TI TO i1 i2 l2)
  (hz:tU s.heap z TI TO .none) (hTI:sV s.heap TI (.ref i1) (.ref i2)) (hTO:sV s.heap TO a b)
  (h1:s.heap.IsStrIter i1 (sE X) X tx k) (hx:X.cps[k]? = AN)
  (hE:∀h' e,(∀c o,c≠z->c≠TO->c≠i1->c≠i2->s.heap.get? c=AM o->h'.get? c=AM o)->(∃o,h'.get? e=AM o/\o.cls=.type "StopIteration")->E (.ref e) { s with heap:=h' }) :
  si (model prog w) A (Builtin.«zip.__next__» #[[.ref z],[]]) Q E s:=by
 show si _ _ (field (.ref z) 2 >>= _) _ _ _;refine rQ (sC hz rfl (x:=.bool AQ) rfl ?_);show si _ _ (field (.ref z) 3 >>= _) _ _ _;refine rQ (sC hz rfl (x:=.ref TI) rfl ?_);refine rQ (sQ hTI rfl ?_);show si _ _ (Builtin.SmallTypes.ownedTupleIsFree (.ref z) >>= _) _ _ _;refine rQ ?_;unfold Builtin.SmallTypes.ownedTupleIsFree;refine rQ (sC hz rfl (x:=.none) rfl (rR ?_))
 erw[if_true]
 refine rQ (tY ?_);refine rQ (sC hz rfl (x:=.ref TO) rfl ?_);refine rQ (tu hz (by simp) λh₁ hz₁ hs₁=>?_)
 replace hz₁:tU h₁ z TI TO .ellipsis:=hz₁
 refine rQ ?_
 erw[List.zipIdx_cons,List.zipIdx_nil,de,e8]
 refine rQ (rQ (An ?_));show si _ _ (Builtin.SmallTypes.nextOf (.ref i1) >>= _) _ _ _;refine rQ (jO (s:={ s with heap:=h₁ }) hh (vd h1 λo e=>hs₁.extBut _ _ D.i1z e) hx λh₂ e hs₂ he=>?_);obtain⟨oe,hoe,hce⟩:=he;have hz₂:tU h₂ z TI TO .ellipsis:=hs₂ _ _ D.i1z.symm hz₁;have hez:e≠z:=λx=>by subst x;rw[hz₂]at hoe;cases hoe;simp at hce
 refine tu hz₂ (by simp) λh₃ _ hs₃=>hE h₃ e (λc o c1 _ c3 _ x=>hs₃.extBut _ _ c1 (hs₂ _ _ c3 (hs₁.extBut _ _ c1 x))) #[oe,hs₃.extBut _ _ hez hoe,hce]
end
end L3
namespace L3
section
variable{prog:sj}{w:so}{A:sq}{E:rY->rZ->Prop}{s:rZ}
theorem jz{z TI TO i1 i2 l2:rX}{k c:Nat}{X:sk}{tx:tT}{ys:Array rY}{y a b:rY}{Q:Option rY->rZ->Prop}(D:zd0 z TI TO i1 i2 l2)
  (hz:tU s.heap z TI TO .none) (hTI:sV s.heap TI (.ref i1) (.ref i2)) (hTO:sV s.heap TO a b)
  (h1:s.heap.IsStrIter i1 (sE X) X tx k) (h2:s.heap.IsTupleIter i2 l2 k) (hl2:s.heap.IsTuple l2 ys) (hx:X.cps[k]? = AM c) (hy:ys[k]? = AM y)
  (hQ:∀h' t',tU h' z TI TO (rawInt s⁻¹)->sV h' TO (.str ⟨#[c]⟩ t') y->h'.IsStrIter i1 (sE X) X tx (k+1)->h'.IsTupleIter i2 l2 (k+1)->sV h' s⁻¹ (.str ⟨#[c]⟩ t') y->h'.objs.size=s⁻¹+1 ->
   (∀c o,c≠z->c≠TO->c≠i1->c≠i2->s.heap.get? c=AM o->h'.get? c=AM o)->Q (AM (.ref s⁻¹)) { s with heap:=h',toks:=s.toks+1 }) :
  si (model prog w) A (pyNext (.ref z)) Q E s:=by
 have hT:s.TypeIs (.ref z) "zip":=#[_,hz,rfl];unfold pyNext
 exact rQ (tO (wpAny_callSpecial?_slot (name:=bF "__next__") hT F.slot_zip_next
  (tX F.slot_zip_next hT F.entry_zip_next
   (Q9 D hz hTI hTO h1 h2 hl2 hx hy λh' t' a1 a2 a3 a4 a5 a6 a7=>rR (hQ h' t' a1 a2 a3 a4 a5 a6 a7)) (F.args_zip_next_1 _))))
theorem jU{z TI TO i1 i2 l2:rX}{k:Nat}{X:sk}{tx:tT}{a b:rY}{Q:Option rY->rZ->Prop}(hh:A.handled=AN)(D:zd0 z TI TO i1 i2 l2)
  (hz:tU s.heap z TI TO .none) (hTI:sV s.heap TI (.ref i1) (.ref i2)) (hTO:sV s.heap TO a b)
  (h1:s.heap.IsStrIter i1 (sE X) X tx k) (hx:X.cps[k]? = AN)
  (hQ:∀h',(∀c o,c≠z->c≠TO->c≠i1->c≠i2->s.heap.get? c=AM o->h'.get? c=AM o)->Q AN { s with heap:=h' }):si (model prog w) A (pyNext (.ref z)) Q E s:=by
 have hT:s.TypeIs (.ref z) "zip":=#[_,hz,rfl];unfold pyNext
 refine rQ (tO (wpAny_callSpecial?_slot (name:=bF "__next__") hT F.slot_zip_next
  (tX F.slot_zip_next hT F.entry_zip_next (zcd hh D hz hTI hTO h1 hx λh' e hk he=>?_) (F.args_zip_next_1 _))))
 obtain⟨o,ho,hc⟩:=he;refine rQ (wpAny_isInstance (T:="StopIteration") (b:=AO) #[o,ho,hc] isSubtype_stop ?_);exact rR (hQ _ hk)
end
noncomputable abbrev zd2(h:su)(x:sk)(t:tT):su:=h.push { cls:=.type (sE x),data:=.fields (List.toArray [.str x t,.int 0 0]) }
noncomputable abbrev zd6(h:su)(x:sk)(t:tT)(l2:rX):su:=(zd2 h x t).push { cls:=.type "tuple_iterator",data:=.fields (List.toArray [.ref l2,.int 0 0]) }
noncomputable abbrev zd7(h:su)(x:sk)(t:tT)(l2:rX):su:=(zd6 h x t l2).push { cls:=.type "tuple",data:=.seq (List.toArray [.ref h.objs.size,.ref (zd2 h x t).objs.size]) }
noncomputable abbrev zd8(h:su)(x:sk)(t:tT)(l2:rX):su:=(zd7 h x t l2).push { cls:=.type "tuple",data:=.seq (List.toArray [.none,.none]) }
noncomputable abbrev zbS(h:su)(x:sk)(t:tT)(l2:rX):su:=(zd8 h x t l2).push { cls:=.type "zip",data:=.fields (List.toArray [.none,.bool AQ,.bool AQ,.ref (zd6 h x t l2).objs.size,.ref (zd7 h x t l2).objs.size]) }
theorem ZF(x:sk)(t:tT)(l2:rX)(ys:Array rY) :
  Meets (Builtin.«zip.__new__» #[[.type "zip",.str x t,.ref l2],[]]) (λ_ R s=>s.heap.IsTuple l2 ys /\
   R (.ok (.ret (.ref (zd8 s.heap x t l2).objs.size))) { s with heap:=zbS s.heap x t l2 }) :=
 .of_wp λprog w A R s h=>by
  obtain⟨hp,g,d,tk,os⟩:=s;obtain⟨hl2,h⟩:=h;have hsub:=sub_zip;have hL2:Heap.IsTuple (Shared.heap #[hp.push { cls:=.type (sE x),data:=.fields (List.toArray [.str x t,.int 0 0]) },g,d,tk,os]) l2 ys:=zaj hl2 λo e=>ae _ e
  wp_walk using wpAny_pyIter_strU (s:=#[hp,g,d,tk,os]) (x:=x) (t:=t),wpAny_pyIter_tuple hL2
  exact#[_,rfl,h]
section
variable{prog:sj}{w:so}{A:sq}{E:rY->rZ->Prop}{s:rZ}
theorem Jk{x:sk}{t:tT}{l2:rX}{ys:Array rY}{Q:rY->rZ->Prop}(hl2:s.heap.IsTuple l2 ys)
  (h:∀h',tU h' (s⁻¹+4) (s⁻¹+2) (s⁻¹+3) .none->sV h' (s⁻¹+2) (.ref s⁻¹) (.ref (s⁻¹+1)) ->
   sV h' (s⁻¹+3) .none .none->h'.IsStrIter s⁻¹ (sE x) x t 0->h'.IsTupleIter (s⁻¹+1) l2 0->h'.objs.size=s⁻¹+5 ->
   (∀c o,s.heap.get? c=AM o->h'.get? c=AM o)->Q (.ref (s⁻¹+4)) { s with heap:=h' }) :
  si (model prog w) A (call (.type "zip") [.str x t,.ref l2]) Q E s:=by
 refine callType_new F.called_zip ∅ (F.typeCall_zip_2 _ _) (F.newCall_zip_2 _ _) (λobj=>F.args_object_init_3 obj _ _) F.entry_zip_new
  (ZF x t l2 ys) #[hl2,?_]
 have z1:(zd2 s.heap x t).objs.size=s⁻¹+1:=bM ..;have z2:(zd6 s.heap x t l2).objs.size=s⁻¹+2:=by rw[bM,z1]
 have z3:(zd7 s.heap x t l2).objs.size=s⁻¹+3:=by rw[bM,z2]
 have z4:(zd8 s.heap x t l2).objs.size=s⁻¹+4:=by rw[bM,z3]
 have z5:(zbS s.heap x t l2).objs.size=s⁻¹+5:=by rw[bM,z4]
 have g5:(zbS s.heap x t l2).get? (zd8 s.heap x t l2).objs.size=AM _:=az _ rfl;have g4:(zbS s.heap x t l2).get? (zd7 s.heap x t l2).objs.size=AM _:=ae _ (az _ rfl);have g3:(zbS s.heap x t l2).get? (zd6 s.heap x t l2).objs.size=AM _:=ae _ (ae _ (az _ rfl));have g2:(zbS s.heap x t l2).get? (zd2 s.heap x t).objs.size=AM _:=ae _ (ae _ (ae _ (az _ rfl)));have g1:(zbS s.heap x t l2).get? s⁻¹=AM _:=ae _ (ae _ (ae _ (ae _ (az _ rfl))));show _/\_;rw[z2,z3,z4]at g5;rw[z1,z2]at g3;rw[z3]at g4;rw[z1]at g2;rw[z4]
 exact#[#[_,g5,rfl],h _ g5 g3 g4 #[_,g1,rfl,rfl] #[_,g2,rfl,rfl] z5 λc o x =>
  ae _ (ae _ (ae _ (ae _ (ae _ x))))]
end
end L3
namespace L3
noncomputable def Izs(K:rW)(l:List Nat)(b:rX):It:=#[λi H=>∃ys y,SqT K H b ys/\i<l.length/\ys[i]? = AM y,λi H v H'=>∃p c y,H p=AN/\l[i]? = AM c/\(∀ys,SqT K H b ys->ys[i]? = AM y)/\v=.ref p/\H'=upd H p (.tup [.str (tx [c]),y]),λi H=>i=l.length]
def ZSt(z TI TO i1 i2:rX)(X:sk)(t:tT)(l2:rX)(i:Nat)(h:su):Prop:=tU h z TI TO .none/\sV h TI (.ref i1) (.ref i2)/\(∃a b,sV h TO a b)/\h.IsStrIter i1 (sE X) X t i/\h.IsTupleIter i2 l2 i
theorem Kj{P:sj}{w:so}{K:rW}{elts:List sr}{x1:Nat}{tpos:tm}(z TI TO i1 i2 l2:rX)(l:List Nat)(t:tT)(D:zd0 z TI TO i1 i2 l2) :
  JP P w K (.Tuple elts x1 tpos) (Izs K l l2) [z,TI,TO,i1,i2] z (λi h=>ZSt z TI TO i1 i2 (tx l) t l2 i h) where
 mem:=by simp
 obj:=λi h st b hb=>by
  obtain⟨hz,hTI,⟨a,c,hTO⟩,⟨o1,e1,c1,d1⟩,⟨o2,e2,c2,d2⟩⟩:=st
  erw[d6,eF,or_false]at hb
  rcases hb with rfl | rfl | rfl | rfl | rfl
  ·exact#[_,hz,λv q=>by have q':Data.fields _=Data.cell v:=q;cases q']
  ·exact#[_,hTI,λv q=>by have q':Data.seq _ _=Data.cell v:=q;cases q']
  ·exact#[_,hTO,λv q=>by have q':Data.seq _ _=Data.cell v:=q;cases q']
  ·exact#[o1,e1,λv q=>by rw[d1]at q;cases q]
  ·exact#[o2,e2,λv q=>by rw[d2]at q;cases q]
 keep:=λi h h' st k=>by
  obtain⟨hz,hTI,⟨a,c,hTO⟩,h1,h2⟩:=st;exact#[k z (by simp) _ hz,k TI (by simp) _ hTI,#[a,c,k TO (by simp) _ hTO],vd h1 λo e=>k i1 (by simp) o e,uk h2 λo e=>k i2 (by simp) o e]
 item:=by
  intro X hP hw hK hc i AR s σ H E I hf st hg;subst hP hw hK;obtain⟨ys,y,hqy,hi,hy⟩:=hg;obtain⟨its2,rv2,p2,_⟩:=I.tuple hqy;obtain⟨u2,hu2,ru2⟩:=rv2.get hy;obtain⟨hz,hTI,⟨a,b,hTO⟩,h1,h2⟩:=st;have hl2:s.heap.IsTuple l2 its2.toArray:=p2
  have hx:(tx l).cps[i]? = AM l[i]:=by
   show l.toArray[i]? = _;simp [hi]
  refine jz D hz hTI hTO h1 h2 hl2 hx (y:=u2) (by simpa using hu2) λh' t' a1 a2 a3 a4 a5 a6 hk=>?_;refine#[_,rfl,wpAny_letOwnedTupleGo_zip (s:={ s with heap:=h',toks:=s.toks+1 }) a1 λh2' hz2 sb=>?_];have zlt:z<s⁻¹:=aq hz;have TIlt:TI<s⁻¹:=aq hTI;have TOlt:TO<s⁻¹:=aq hTO;have i1lt:i1<s⁻¹:=by obtain⟨o,e,_⟩:=h1;exact aq e
  have i2lt:i2<s⁻¹:=by obtain⟨o,e,_⟩:=h2;exact aq e
  have I1:Inv X AR σ H { s with heap:=h2',toks:=s.toks+1 }:=Inv.turns (fp:=[z,TI,TO,i1,i2]) I (λb o hb q=>by
   have hb':b≠z/\b≠TI/\b≠TO/\b≠i1/\b≠i2:=by simpa using hb
   exact (sb.2 b hb'.1).trans (hk b o hb'.1 hb'.2.2.1 hb'.2.2.2.1 hb'.2.2.2.2 q)) hf
  have hp:H s⁻¹=AN:=I.hok.fresh (al _);have hT2:h2'.get? s⁻¹=AM { cls:=.type "tuple",data:=.seq (List.toArray [.str ⟨#[l[i]]⟩ t',u2]) }:=(sb.2 _ (bZ zlt)).trans a5;have ru1:RelV (.str (tx [l[i]])) (.str ⟨#[l[i]]⟩ t'):=#[t',rfl]
  have I2:Inv X AR σ (upd H s⁻¹ (.tup [.str (tx [l[i]]),y])) { s with heap:=h2',toks:=s.toks+1 } :=
   Inv.track I1 (I.fpOk (al _) hp) #[by show 2<=rV;decide,[.str ⟨#[l[i]]⟩ t',u2],.cons ru1 (.cons ru2 .nil),#[_,hT2,rfl,_,rfl]]
  refine#[.ref s⁻¹,_,I2,rfl,#[s⁻¹,l[i],y,hp,by simp [hi],λzs hz'=>by rw[I.tuple_inj hz' hqy];exact hy,rfl,rfl],#[hz2,(sb.2 _ D.TIz).trans (hk _ _ D.TIz D.TITO D.TIi1 D.TIi2 hTI),#[_,_,(sb.2 _ D.TOz).trans a2],vd a3 λo e=>(sb.2 _ D.i1z).trans e,uk a4 λo e=>(sb.2 _ D.i2z).trans e],λb hb=>?_];rw[zm]
  ·exact (hf b hb).1
  ·erw[d6,eF,or_false]at hb
   rcases hb with rfl | rfl | rfl | rfl | rfl <;> exact ay (by assumption)
 done:=by
  intro X hP hw hK hc i AR s σ H E I hf st hg;subst hP hw hK;have hi:i=l.length:=hg;obtain⟨hz,hTI,⟨a,b,hTO⟩,h1,h2⟩:=st;refine jU (I.ok.hd hc) D hz hTI hTO h1 ?_ λh' hk=>#[rfl,?_]
  ·show l.toArray[i]? = AN;simp [hi]
  ·exact Inv.turns (fp:=[z,TI,TO,i1,i2]) (t':=s.toks) I (λb o hb q=>by
    have hb':b≠z/\b≠TI/\b≠TO/\b≠i1/\b≠i2:=by simpa using hb
    exact hk b o hb'.1 hb'.2.2.1 hb'.2.2.2.1 hb'.2.2.2.2 q) hf
 self:=λA i s Q E st h=>AB st.1 h
section
variable{X:Cx}
def iZs(K:rW)(ta:TA):TI:=λσ H R=>ta σ H λvs H1=>∃l b,vs=[.str (tx l),.ref b]/\(∃ys,SqT K H1 b ys)/\R (Izs K l b) H1
theorem zdI{a b:sr}{ta:TA}{p pos tpos:tm}{elts:List sr}{x1:Nat}(hg:Gl X "zip")(hm:X.mg "zip" = AN)(ha:PA X [a,b] ta)(hs:rT [a,b] X.env=(AQ,eval a X.env)::rT [b] X.env:=by rfl)
  (hpl:(sB pos (rT [b] X.env)).any (·.1)=AQ:=by rfl):PI X (.Tuple elts x1 tpos) (.Call (.Name "zip" p) [a,b] [] pos) (iZs X.K ta):=by
 intro AR s σ H R I h;refine AL (wD I hg hm PyProof.Rows.boot_zip (bp (thn (ha pos AR s σ H _ I h) λus s1 ⟨vs,H1,I1,r1,q1⟩=>?_) hs hpl));obtain⟨l,l2,e,⟨ys,hqy⟩,q⟩:=q1;subst e;obtain⟨u1,u2,rfl,ru1,ru2⟩:=VG r1;obtain⟨t,rfl⟩:=ru1;cases ru2;obtain⟨its2,rv2,p2,_⟩:=I1.tuple hqy;have hl2:s1.heap.IsTuple l2 its2.toArray:=p2;have l2lt:l2<s1⁻¹:=by obtain⟨o,e,_⟩:=hl2;exact aq e
 have ne:∀a b:Nat,a≠b->s1⁻¹+a≠s1⁻¹+b:=λa b h e=>h (Nat.add_left_cancel e);have nl:∀a:Nat,l2≠s1⁻¹+a:=λa=>ay (av l2lt (cw _ _));refine Jk hl2 λh' hz hTI hTO h1 h2 hsz kk=>?_;have I2:Inv X AR σ H1 { s1 with heap:=h' }:=I1.kept (t':=s1.toks) kk;refine AB (s:={ s1 with heap:=h' }) hz ?_;refine#[s1⁻¹+4,[s1⁻¹+4,s1⁻¹+2,s1⁻¹+3,s1⁻¹,s1⁻¹+1],_,_,H1,rfl,I2,Kj (s1⁻¹+4) (s1⁻¹+2) (s1⁻¹+3) s1⁻¹ (s1⁻¹+1) l2 l t #[#[ne 2 4 ∅,ne 3 4 ∅,ne 0 4 ∅,ne 1 4 ∅,ne 2 3 ∅,ne 2 0 ∅,ne 2 1 ∅,ne 3 0 ∅,ne 3 1 ∅,ne 0 1 ∅],nl 4,nl 3,nl 0,nl 1],#[hz,hTI,#[_,_,hTO],h1,h2],λb hb=>?_,q]
 have hb':s1⁻¹<=b:=by
  erw[d6,eF,or_false]at hb
  rcases hb with e | e | e | e | e
  ·rw[e];exact cw _ _
  ·rw[e];exact cw _ _
  ·rw[e];exact cw _ _
  ·rw[e];exact al _
  ·rw[e];exact cw _ _
 exact I1.fpOk hb' (I1.hok.fresh hb')
end
def CompZ(K:rW)(l:List Nat)(b:rX)(g:TG)(tt:TT)(te:TE)(own:Nat)(ix:List Nat)(σ:L2.St)(H1:Hp)(Q:VK)(D:rX):Prop:=XD (Izs K l b) g tt te own ix σ H1 Q D
theorem zH{K:rW}{ta:TA}{g:TG}{tt:TT}{te:TE}{own:Nat}{ix:List Nat}{σ:L2.St}{H:Hp}{Q:VK}:jY (iZs K ta) g tt te own ix σ H Q=ta σ H λvs H1=>∃l b,vs=[.str (tx l),.ref b]/\(∃ys,SqT K H1 b ys)/\∀D,H1 D=AN->CompZ K l b g tt te own ix σ H1 Q D:=rfl
section
variable{g:TG}{tt:TT}{te:TE}{own:Nat}{ix:List Nat}{σ:L2.St}{H1:Hp}{Q:VK}{D:rX}
theorem CompZ.by{K:rW}{l:List Nat}{b:rX}{ys:List V}(Pv:Nat->List V->Hp->Prop)(hlen:l.length=ys.length)(h0:Pv 0 [] (upd H1 D (.lst [])))(hl:∀i AT H',i<=l.length->Pv i AT H'->SqT K H' b ys)
  (hs:∀i c y AT H' p,l[i]? = AM c->ys[i]? = AM y->Pv i AT H'->H' p=AN->g (.ref p) (vt σ own ix) (upd H' p (.tup [.str (tx [c]),y])) λσ3 H3=>yU (vt σ own ix) σ3/\tt σ3 H3 λb H4=>if b=AO then
   te σ3 H4 λv H5=>H5 D=AM (.lst AT)/\AT.length<rV/\CNx l.length i Pv (AT ++ [v]) (upd H5 D (.lst (AT ++ [v])))else CNx l.length i Pv AT H4)
  (hd:∀AT H',Pv l.length AT H'->Q (.ref D) H'):CompZ K l b g tt te own ix σ H1 Q D:=by
 refine#[λi m AT H=>m=l.length - i/\i<=l.length/\Pv i AT H,#[l.length,by simp,aE _,h0],?_];rintro i m AT H' ⟨rfl,hi,p⟩;have q:=hl i AT H' hi p;by_cases hlt:i<l.length
 ·refine .inr #[#[ys,ys[i],q,hlt,by simp [<- hlen,hlt]],λx H2 y=>?_];obtain⟨p',c,y,hp,hc,hy,ev,eH⟩:=y;subst ev eH;exact hs i c y AT H' p' hc (hy ys q) p hp
 ·have e:i=l.length:=⋯;subst e;exact .inl #[rfl,hd AT H' p]
end
end L3
namespace L3
section
variable{X:Cx}{k1 k2 k3 j:Nat}{C1 C2 C3:rX}{m:sk}{ps:List sk}{s1 s2 s3:Sp}{o e:sr}{es:List sr}{ta:TE}{t:TA}{apos pos p:tm}{E:XK}
def z9(t1 t2:TE):TE:=λσ H Q=>t1 σ H Q\/t2 σ H Q
theorem zac{t1 t2:TE}(h1:PE X e t1)(h2:PE X e t2):PE X e (z9 t1 t2):=by
 intro AR s σ H Q I h;rcases h with h | h
 ·exact h1 AR s σ H Q I h
 ·exact h2 AR s σ H Q I h
theorem zdE(D1:DM X.prog X.w X.K X.mg X.base CX0 k1 C1 m ps s1)(D2:DM X.prog X.w X.K X.mg X.base CX0 k2 C2 m ps s2)(D3:DM X.prog X.w X.K X.mg X.base CX0 k3 C3 m ps s3)(c1:Cls X.K C1)(c2:Cls X.K C2)(c3:Cls X.K C3)(hr:Room j X.A)(he:PE X o ta)(ha:PA X (e::es) t){pl:AF Bool}
    (hst:rT (e::es) X.env=(AQ,eval e X.env)::rT es X.env:=by rfl) (hpl:(sB pos (rT es X.env)).any (·.1)=AQ:=by rfl)
    (ht:eval (.Call (.Attribute o m apos) (e::es) [] pos) X.env=(do
      let ov <- eval o X.env
      standAt apos.atName
      let (f,first) <- holding [ov] (getMethod ov m pl)
      callWith pos f first (sB pos (rT (e::es) X.env)) (sP pos (sy [] X.env))):=by rfl) (h1:k1<=j:=by decide) (h2:k2<=j:=by decide) (h3:k3<=j:=by decide) :
    PE X (.Call (.Attribute o m apos) (e::es) [] pos) (z9 (ZM C1 m s1 [] E0 ta t) (z9 (ZM C2 m s2 [] E0 ta t) (ZM C3 m s3 [] E0 ta t))) :=
  zac (me1 (pl:=pl) D1 c1 hr he ha hst hpl ht h1) (zac (me1 (pl:=pl) D2 c2 hr he ha hst hpl ht h2) (me1 (pl:=pl) D3 c3 hr he ha hst hpl ht h3))
end
end L3
namespace L3
section
variable{X:Cx}
end
end L3
namespace L3
section
variable{X:Cx}
end
end L3
namespace L3
open PySem PySem.Spec PyProof.Rows L2 PySem.W PySem.Calls
def uB(n:Int):Prop:=Builtin.Int.intBits n<=1048576
theorem KT:∀(ns:List Int),WData.weightAll (ns.map WData.int)<=1048576->∀n ∈ ns,uB n
 | [],_,n,h=>nomatch h
 | m::ns,hw,n,h=>by
  rw[ao,WData.weightAll]at hw;rcases AX.mp h with rfl | h
  ·have e:WData.weight (.int n)=Builtin.Int.intBits n:=by
    rw[WData.weight];rfl
   unfold uB;lia
  ·exact KT ns ⋯ n h
section
variable{X:Cx}
theorem Je{i j:Int}(hi:uB i)(hj:uB j):IntMulOk i j:=by
 unfold IntMulOk Builtin.Int.intTooBig;unfold uB at hi hj;have:(bitsLine:Nat)=134217728:=rfl;simp;intro _ _;lia
theorem Ku:OpR X (binaryOp .Mult) (rI (λi j=>uB i/\uB j) λi j=>.int (i * j)):=opI λ_ _ _ _ _ _ _ hc q=>mul_int q (Je hc.1 hc.2)
end
theorem Yw{l:OpenLaw}{n:Nat}{q:sj}{loose:List sk}{XP:(sk->Option rY)->su->Prop}{YP:so->su->Prop}{d:DefRec}
  (hn:l.most=AM n) (hdf:d.params.defaults=[])
  (call:∀(w:so) (s₀ s₁:rZ) (mg mb:sk->Option rY) (fa:rX) (o:sL) (pm cd doc:rY) (a:rX) (vs:List rY) (ns:List Int),
   Ground q loose [] XP w s₀ mg mb s₁.heap->YP w s₁.heap ->
   s₁.heap.get? fa=AM o->o.data=.func (docDef d.name d.params d.body d.scope pm cd doc)->s₁.heap.CodeRec cd d.name->mg d.name=AM (.ref fa) ->
   s₁.heap.get? a=AM { cls:=.type "list",data:=.seq vs.toArray }->Az vs ns->ns.length<=n->(∀z ∈ ns,uB z)->s₁.gens=#[] ->
   tF (model l.prog w) callerA (.call (.ref fa) #[[.ref a],[]]) (λr s'=>r=.ok (.ret (.bool AO))/\OldK s₁.heap s'.heap/\s'.os=s₁.os/\tS s'.gens) s₁) :
  WalkO q loose XP YP l.row.toRowW d [] (λf vs=>fV f vs):=by
 intro w s₀ s₁ mg mb G Y fa o pm cd doc dV kV ho hd hcd hD hmg hg args vals as hpre hlay hrd hwl hlo;obtain rfl:dV=.none:=Dflts.none hD hdf;obtain rfl:kV=.none:=Dflts.noKw hD;obtain⟨a,vs,ns,rfl,rfl,hobj,hints,hlen⟩:=Att.script_of hn hpre hwl
 have hb:∀z ∈ ns,uB z:=by
  refine KT ns ?_
  have h1:WData.layable (WData.list (ns.map WData.int))=AO:=by
   have:=hlay;unfold WData.layableAll at this;simpa using this
  unfold WData.layable at h1
  erw[bE,decide_eq_true_eq]at h1
  have h2:=h1.2;rw[WData.weight]at h2;exact h2
 refine enter_call (tE (call w s₀ s₁ mg mb fa o pm cd doc a vs ns G Y ho (fd_plain hd) hcd hmg hobj hints hlen hb hg) λr s' hq=>?_);obtain⟨rfl,h2,h3,h4⟩:=hq;exact#[.inl #[.bool AO,.bool AO,[],rfl,λ_=>rfl,.bool AO,Att.post_true l _,λ_=>#[List.Pairwise.nil,λ_ hm=>(nomatch hm)]],h2,h3,h4]
end L3
namespace L3
section
variable{X:Cx}{k j:Nat}{C:rX}{x f':sk}{ps:List sk}{sp:Sp}{e:sr}{es:List sr}{t:TA}{te:TX}{pos p:tm}
end
def zeA:List V->Hp->VK->Prop:=λxs H Q=>(∃i,xs=[.int i]/\Q (.int i) H)\/∃k,xs=[.bl k]/\Q (.int (if k then 1 else 0)) H
theorem zcM{X:Cx}:vo X (.type "int") zeA:=QJ
section
variable{X:Cx}{k j:Nat}{C:rX}{m x:sk}{ps:List sk}{sp:Sp}{e:sr}{es:List sr}{t:TA}{apos pos p:tm}{E:XK}
end
end L3
namespace L3
section
variable{prog:sj}{w:so}{A:sq}{E:rY->rZ->Prop}{s:rZ}{env:Ad}
end
end L3
namespace L3
theorem XEg.xe{X:Cx}{E:XK}(h:XEg X E):XE X E:=λe s ⟨AR,σ,H,x,C,t,dx,tb,q⟩=>h e s #[.none,AQ,AR,σ,H,x,C,t,dx,tb,q]
section
variable{X:Cx}{k:Nat}{ps:List sk}{sp:Sp}{ds:List rY}{dvs:List V}{E:XK}{x:sk}{p pos:tm}{e:sr}{es:List sr}{t:TA}
end
section
variable{X:Cx}{o e:sr}{to:TE}{te:TX}{name:sk}{apos cpos:tm}{T id:String}{r:V->List V->Hp->VK->Prop}
end
section
variable{X:Cx}
end
section
variable{X:Cx}{k j:Nat}{C:rX}{ps:List sk}{sp:Sp}{e:sr}{es:List sr}{t:TA}{pos p:tm}{x:sk}
end
end L3
namespace L3
theorem Xt(x y:sk)(i j:Int)(t u v v':tT):Gives (Builtin.«str.find» #[[.str x t,.str y u,.int i v,.int j v'],[]]) (.int (match Builtin.Str.occurrences x y (fromIndex x.length i) (min (fromIndex x.length j) x.length) 1 with | k::_=>(k:Int) | []=>-1)):=by
 show Gives (match Builtin.Str.occurrences x y (fromIndex x.length i) (min (fromIndex x.length j) x.length) 1 with | k::_=>retInt k | []=>(do rule "str.find.not-found";retInt (-1))) _
 cases Builtin.Str.occurrences x y (fromIndex x.length i) (min (fromIndex x.length j) x.length) 1 with
 | nil=>exact .rule (.of_eq rfl)
 | cons k _=>exact .of_eq rfl
theorem Xb(x y:sk)(lo hi:Nat) :
  (Builtin.Str.occurrences x y lo hi 1=[]/\∀i,lo<=i->¬ StrLaws.At x y hi i) \/
  ∃i r,Builtin.Str.occurrences x y lo hi 1=i::r/\lo<=i/\StrLaws.At x y hi i/\∀k,lo<=k->k<i->¬ StrLaws.At x y hi k:=by
 rw[StrLaws.occ_eq];rcases StrLaws.occ_first x y hi 1 (al 1) (List.range' lo (hi+1 - lo)) lo (λi hm=>(List.mem_range'_1.mp hm).1)with ⟨e,no⟩ | ⟨pre,a,post,e,e0,at_a,no⟩
 ·exact .inl #[by rw[e],λi h1 h2=>no i (by have:=h2.1;rw[List.mem_range'_1];lia) h2]
 ·have sp:=StrLaws.range'_split_from e;generalize (forIn (List.range' lo (hi+1 - lo)) ((#[]:Array Nat),lo) (StrLaws.occBody x y hi 1)).run.fst=z at e0 ⊢;obtain⟨zs⟩:=z
  cases zs with
  | nil=>simp at e0
  | cons b r =>
   have:b=a:=by simpa using e0
   subst this;exact .inr #[b,r,rfl,sp.1,at_a,λk h1 h2=>no k (sp.2 k h1 h2)]
theorem zef(l p:List Nat)(hi i:Nat):StrLaws.At (tx l) (tx p) hi i ↔ i+p.length<=hi/\(l.drop i).take p.length=p:=by
 unfold StrLaws.At Builtin.Str.subAt;rw[z6,beq_iff_eq]
 have e1:((tx l).cps.extract i (i+p.length)).toList=(l.drop i).take p.length:=by
  show (l.toArray.extract i (i+p.length)).toList=_;simp [eg]
 have e2:((tx l).cps.extract i (i+p.length)=(tx p).cps) ↔ (l.drop i).take p.length=p:=by
  constructor
  ·intro h;rw[<- e1,h]
  ·intro h;apply Array.toList_inj.mp;rw[e1,h]
 rw[e2]
def K7:V->List V->Hp->VK->Prop:=λx xs H Q=>∃(l p:List Nat) (lo hi:Int),x=.str (tx l)/\xs=[.str (tx p),.int lo,.int hi]/\0<=lo/\0<=hi/\∀r:Int,((r=-1/\∀q:Nat,lo<=q->(q:Int)+p.length<=hi->q+p.length<=l.length->(l.drop q).take p.length≠p)\/∃k:Nat,r=k/\lo<=k/\(k:Int)+p.length<=hi/\k+p.length<=l.length/\(l.drop k).take p.length=p/\∀q:Nat,lo<=q->q<k->(l.drop q).take p.length≠p)->Q (.int r) H
theorem zca{X:Cx}:MtR X "str.find" K7:=by
 intro AR s σ H x xs v us Q I rx rv h;obtain⟨l,p,lo,hi,rfl,rfl,h0,h1,q⟩:=h;obtain⟨t,rfl⟩:=rx
 cases rv with
 | cons r1 r2 =>
  cases r2 with
  | cons r2 r3 =>
   obtain⟨w3,rfl,t3,rfl⟩:=wq r3;obtain⟨t1,rfl⟩:=r1;obtain⟨t2,rfl⟩:=r2;have f0:fromIndex (tx l).length lo=lo.toNat:=by unfold fromIndex;rw[if_neg ⋯];lia
   have f1:fromIndex (tx l).length hi=hi.toNat:=by unfold fromIndex;rw[if_neg ⋯];lia
   refine call_gives F.slot_str_find (typeIs_str _ _ _) F.entry_str_find (F.args_str_find_4 _ _ _ _) (Xt _ _ lo hi t t1 t2 t3) ?_;refine#[.int _,H,I.tok _,#[_,rfl],q _ ?_];rw[f0,f1];have hm:∀k:Nat,k+p.length<=min hi.toNat (tx l).length ↔ (k:Int)+p.length<=hi/\k+p.length<=l.length:=λk=>by rw[z6];lia
   rcases Xb (tx l) (tx p) lo.toNat (min hi.toNat (tx l).length)with ⟨e,no⟩ | ⟨i,r,e,hl,ha,no⟩
   ·rw[e];exact .inl #[rfl,λk k1 k2 k3 k4=>no k ⋯ ((zef l p _ k).mpr #[(hm k).mpr #[k2,k3],k4])]
   ·rw[e];obtain⟨a1,a2⟩:=(zef l p _ i).mp ha;obtain⟨b1,b2⟩:=(hm i).mp a1;exact .inr #[i,rfl,⋯,b1,b2,a2,λk k1 k2 k4=>no k ⋯ k2 ((zef l p _ k).mpr #[(hm k).mpr #[⋯,⋯],k4])]
end L3
set_option linter.unusedVariables false
namespace L3
section
variable{X:Cx}
end
end L3
namespace L3
section
variable{prog:sj}{w:so}{A:sq}{R:Ak->rZ->Prop}{I l S:rX}
theorem QO(hh:A.handled=AN)(hlI:l≠I)(hSI:S≠I)(hSl:S≠l)(xs:Array rY)(val:Nat->Int)(hv:∀i v,xs[i]? = AM v->∃t,v=Value.int (val i) t)(d:rY) :
  ∀(k j:Nat) (z:Int) (t:tT) (s:rZ) (c:Nat),xs.size - j=k->j<=xs.size->(∀i,i<j->val i<=z)->s.heap.IsListIter I l j->s.heap.IsList l xs->s.heap.get? S=AM (sF "list" (List.toArray [.int z t,.int z t]) c) ->
   (∀z' t' h' tk,(∀i,i<xs.size->val i<=z')->(∀b o,b≠I->b≠S->s.heap.get? b=AM o->h'.get? b=AM o)->R (.ok (.ret (.int z' t'))) { s with heap:=h',toks:=tk }) ->
   tF (model prog w) A (.builtin "max.loop" #[[.ref I,.none,.ref S],[(bF "default",d)]]) R s:=by
 have nm:(toString "max" ++ toString ".loop" : String)="max.loop":=∅;have W:=Walks.list (prog:=prog) (w:=w) (A:=A.in1) hh I l hlI xs;intro k
 induction k with
 | zero =>
  intro j z t s c hk hj hz hit hl hS hR;have e:j=xs.size:=⋯;refine tH (b:=Builtin.«max.loop») dn ?_;rw[Around.under_plainId (id:="max.loop") bG _];show si _ A.in1 (seqItems? (Value.ref S) >>= _) _ _ s;refine rQ (sQ (items:=(List.toArray [.int z t,.int z t])) hS rfl ?_);show si _ A.in1 (tryCatch (pyNext (Value.ref I)) _ >>= _) _ _ s;refine rQ (tK (W.done s _ _ #[e ▸ hit,hl] λh' tk kp=>?_));have hS':=kp S _ (by simpa using hSI) hS;show si _ A.in1 (updateSeq S (λ_=>(#[]:Array rY)) >>= _) _ _ _;refine rQ (Ac hS' rfl (rQ (tI (rR ?_))));exact hR z t _ tk (λi hi=>hz i ⋯) λb o hb hb' q=>(aD _ _ (Ne.symm hb')).trans (kp b o (by simpa using hb) q)
 | succ k ih =>
  intro j z t s c hk hj hz hit hl hS hR;refine tH (b:=Builtin.«max.loop») dn ?_;rw[Around.under_plainId (id:="max.loop") bG _];show si _ A.in1 (seqItems? (Value.ref S) >>= _) _ _ s;refine rQ (sQ (items:=(List.toArray [.int z t,.int z t])) hS rfl ?_);show si _ A.in1 (tryCatch (pyNext (Value.ref I)) _ >>= _) _ _ s;refine rQ (tK (W.item j s _ _ ⋯ #[hit,hl] λv h' tk hP st kp=>?_));obtain⟨t2,rfl⟩:=hv j v hP;have hS':=kp S _ (by simpa using hSI) hS;show si _ A.in1 (tryCatch (holding [Value.int (val j) t2,Value.int (val j) t2] (richCompare .Gt (.int (val j) t2) (.int z t) >>= _)) _ >>= _) _ _ _;refine rQ (tK (sM (rQ (CmpOf.ints_gt (prog:=prog) (w:=w) (A:=A.in1) (P:=λi v=>∃t,v=Value.int (if i=0 then val j else z) t) (λi=>if i=0 then val j else z) (λi v h=>h) 0 1 _ _ _ _ _ #[t2,rfl] #[t,rfl] ?_))));refine rQ (sM (sI (rQ (tI (rR ?_)))));by_cases g:val j > z
  ·erw[if_true,Nat.one_ne_zero,if_false,g,decide_true]
   refine rQ (Ac hS' rfl (rQ (tI ?_)));rw[nm];refine rR #[plainId_quiet bG _,ih (j+1) (val j) t2 _ _ ⋯ ⋯ (λi hi=>?_) (W.frame _ _ _ st λb hb o q=>?_).1 (W.frame _ _ _ st λb hb o q=>?_).2 (get?_update_seq hS' _) λz' t' h'' tk'' a1 a2=>hR z' t' h'' tk'' a1 λb o hb hb' q=>a2 b o hb hb' ((aD _ _ (Ne.symm hb')).trans (kp b o (by simpa using hb) q))]
   ·by_cases e:i=j
    ·rw[e];exact Int.le_refl _
    ·have:=hz i ⋯;lia
   all_goals
    refine (aD _ _ (λe:S=b=>?_)).trans q;subst e;rcases AX.mp hb with e | e
    ·exact hSI e
    ·exact hSl (AY.mp e)
  ·erw[if_true,Nat.one_ne_zero,if_false,g,decide_false,bA]
   refine rQ (tI ?_);rw[nm];refine rR #[plainId_quiet bG _,ih (j+1) z t _ _ ⋯ ⋯ (λi hi=>?_) st.1 st.2 hS' λz' t' h'' tk'' a1 a2=>hR z' t' h'' tk'' a1 λb o hb hb' q=>a2 b o hb hb' (kp b o (by simpa using hb) q)];by_cases e:i=j
   ·rw[e];lia
   ·exact hz i ⋯
theorem Uh(a v:rY):argsOk "max" #[[a],[(bF "default",v)]]:=by unfold argsOk;kernel_rfl
theorem Uq{E:rY->rZ->Prop}{s:rZ}{Q:rY->rZ->Prop}(hh:A.handled=AN)(xs:Array rY)(val:Nat->Int)(hv:∀i v,xs[i]? = AM v->∃t,v=Value.int (val i) t)(hl:s.heap.IsList l xs)(d:rY)
  (h:∀v h' tk,(xs.size=0->v=d)->(0<xs.size->∃z t,v=Value.int z t/\∀i,i<xs.size->val i<=z)->(∀b o,s.heap.get? b=AM o->h'.get? b=AM o)->Q v { s with heap:=h',toks:=tk }) :
  si (model prog w) A (call (.builtin "max") [.ref l] [(bF "default",d)]) Q E s:=by
 have nm:(toString "max" ++ toString ".loop" : String)="max.loop":=∅;have hlt:l<s⁻¹:=by obtain⟨_,e,_⟩:=hl;exact aq e
 refine kmb_tree PySem.F.kind_max PySem.F.plain_max PySem.F.entry_max (Uh _ _) ?_;show si _ A.in1 (Builtin.Builtins.bindParams "max" ["key","default"] 0 #[[],[(bF "default",d)]] >>= _) _ _ s;refine rQ (wpAny_of_eq (show Builtin.Builtins.bindParams "max" ["key","default"] 0 #[[],[(bF "default",d)]]=pure [AN,AM d]from rfl) (rQ (rR ?_)));refine rQ (tL hl (rQ (Ao ?_ (aE _))));rw[nm];refine rR #[plainId_quiet bG _,?_];have gI:(s.heap.push { cls:=.type "list_iterator",data:=.fields (List.toArray [.ref l,.int 0 0]) }).IsListIter s⁻¹ l 0:=#[_,az _ rfl,rfl,rfl];have gl:=hl.push { cls:=.type "list_iterator",data:=.fields (List.toArray [.ref l,.int 0 0]) };have kp0:∀b o,s.heap.get? b=AM o->(s.heap.push { cls:=.type "list_iterator",data:=.fields (List.toArray [.ref l,.int 0 0]) }).get? b=AM o:=λb o q=>ae _ q;have hsz:(s.heap.push { cls:=.type "list_iterator",data:=.fields (List.toArray [.ref l,.int 0 0]) }).objs.size=s⁻¹+1:=bM _ _;have hold:∀b o,s.heap.get? b=AM o->b<s⁻¹:=λb o q=>aq q;have hlI:l≠s⁻¹:=ay hlt;generalize s.heap.push { cls:=.type "list_iterator",data:=.fields (List.toArray [.ref l,.int 0 0]) }=h1 at *;generalize hIe:s⁻¹=I at *;have W:=Walks.list (prog:=prog) (w:=w) (A:=A.in1) hh I l hlI xs;have gS:(h1.push { cls:=.type "list",data:=.seq ([]:List rY).toArray }).get? h1.objs.size=AM (sF "list" #[] 0):=az _ rfl;have st0:=W.frame 0 _ (h1.push { cls:=.type "list",data:=.seq ([]:List rY).toArray }) #[gI,gl] λb _ o q=>ae _ q;have kp1:∀b o,s.heap.get? b=AM o->(h1.push { cls:=.type "list",data:=.seq ([]:List rY).toArray }).get? b=AM o:=λb o q=>ae _ (kp0 b o q);have hSI:h1.objs.size≠I:=by rw[hsz];exact Nat.succ_ne_self I
 have hSl:h1.objs.size≠l:=by rw[hsz];exact bZ (cS hlt)
 have hSb:∀b o,s.heap.get? b=AM o->b≠I/\b≠h1.objs.size:=λb o q=>#[ay (hold b o q),by rw[hsz];exact ay (cS (hold b o q))];generalize h1.push { cls:=.type "list",data:=.seq ([]:List rY).toArray }=h2 at *;generalize h1.objs.size=S at *;refine tH (b:=Builtin.«max.loop») dn ?_;rw[Around.under_plainId (id:="max.loop") bG _];show si _ A.in1 (seqItems? (Value.ref S) >>= _) _ _ _;refine rQ (sQ (items:=#[]) gS rfl ?_);show si _ A.in1 (tryCatch (pyNext (Value.ref I)) _ >>= _) _ _ _;by_cases hz:xs.size=0
 ·refine rQ (tK (W.done _ _ _ (by rw[hz];exact st0) λh' tk kp=>?_));show si _ A.in1 (rule _ >>= λ_=>_) _ _ _;refine rQ (tY (rR ?_));exact h d h' tk (λ_=>rfl) (λq=>absurd q ⋯) λb o q=>kp b o (by simpa using (hSb b o q).1) (kp1 b o q)
 ·refine rQ (tK (W.item 0 _ _ _ ⋯ st0 λv h' tk hP st kp=>?_));obtain⟨t,rfl⟩:=hv 0 v hP;have hS':=kp S _ (by simpa using hSI) gS;show si _ A.in1 (updateSeq S (λ_=>(List.toArray [Value.int (val 0) t,Value.int (val 0) t])) >>= _) _ _ _;refine rQ (Ac hS' rfl ?_);rw[nm]
  have st':=W.frame _ _ (h'.update S (Obj.mapSeq λ_=>(List.toArray [Value.int (val 0) t,Value.int (val 0) t]))) st λb hb o q=>by
   refine (aD _ _ (λe:S=b=>?_)).trans q;subst e;rcases AX.mp hb with e | e
   ·exact hSI e
   ·exact hSl (AY.mp e)
  refine rR #[plainId_quiet bG _,QO hh hlI hSI hSl xs val hv d _ 1 (val 0) t _ _ rfl ⋯ (λi hi=>?_) st'.1 st'.2 (get?_update_seq hS' _) λz' t' h'' tk'' a1 a2=>?_]
  ·have:i=0:=⋯;rw[this];exact Int.le_refl _
  ·exact h _ h'' tk'' (λq=>absurd q hz) (λ_=>#[z',t',rfl,a1]) λb o q=>a2 b o (hSb b o q).1 (hSb b o q).2 ((aD _ _ (Ne.symm (hSb b o q).2)).trans (kp b o (by simpa using (hSb b o q).1) (kp1 b o q)))
end
section
variable{X:Cx}{id:String}{x:sk}{e:sr}{es:List sr}{kws:List AG}{ks:List sk}{p pos:tm}{t tk:TA}
def zab(X:Cx)(id:String)(ks:List sk)(r:List V->List V->Hp->VK->Prop):Prop :=
 ∀(AR:List (rX × sL)) (s:rZ) (σ:L2.St) (H:Hp) (vs zs:List V) (us ws:List rY) (Q:VK),Inv X AR σ H s->Vals vs us->Vals zs ws->r vs zs H Q->si (model X.prog X.w) X.A (call (.builtin id) us (ks.zip ws)) (EP X AR σ Q) X.xe s
def zfN(r:List V->List V->Hp->VK->Prop)(t tk:TA):TE:=λσ H Q=>t σ H λvs H1=>tk σ H1 λzs H2=>r vs zs H2 Q
theorem UW{r:List V->List V->Hp->VK->Prop}(hc:zab X id ks r)(hg:Gl X x)(hm:X.mg x=AN)(hv:sN x=AM (.builtin id))(ha:PA X (e::es) t)(hk:PK X kws tk)(hks:(sP pos (sy kws X.env)).filterMap (·.1)=ks:=by rfl)(hn:x≠"__name__":=by decide)(hdb:(x ==("__debug__" : sk))=AQ:=by decide)
  (he:sB pos (rT (e::es) X.env)=(AQ,eval e X.env)::sB pos (rT es X.env):=by rfl) (hpl:(sB pos (rT (e::es) X.env)).any (·.1)=AQ:=by rfl)
  (hall:(sP pos (sy kws X.env)).all (·.1.isSome)=AO:=by rfl) (hkw:(sP pos (sy kws X.env)).any (·.1.isNone)=AQ:=by rfl):PE X (.Call (.Name x p) (e::es) kws pos) (zfN r t tk):=by
 intro AR s σ H Q I h;refine sJ (wD I hg hm hv ?_ hn hdb);refine callWith_kw (thn (ha pos AR s σ H _ I h) λus s1 ⟨vs,H1,I1,r1,q1⟩=>thn (hk pos AR s1 σ H1 _ I1 q1) λws s2 ⟨zs,H2,I2,r2,q2⟩=>?_) he hpl hall hkw;rw[hks];exact hc AR s2 σ H2 vs zs us ws Q I2 r1 r2 q2
def zej(K:rW):List V->List V->Hp->VK->Prop:=λvs zs H Q=>∃(a:rX) (ns:List Int) (d:Int),vs=[.ref a]/\zs=[.int d]/\SqL K H a (ns.map V.int)/\∀z:Int,(ns=[]->z=d)->(∀n ∈ ns,n<=z)->Q (.int z) H
theorem zdz(hc:X.calm=AO):zab X "max" [bF "default"] (zej X.K):=by
 intro AR s σ H vs zs us ws Q I r1 r2 h;obtain⟨a,ns,d,rfl,rfl,hS,q⟩:=h;obtain⟨u,rfl,ru⟩:=wq r1;cases ru;obtain⟨w',rfl,td,rfl⟩:=wq r2;obtain⟨its,rv,pl,hz⟩:=I.list hS;have hlen:=rv.length;rw[ac]at hlen
 have hat:∀(i:Nat) (v:rY),its.toArray[i]? = AM v->∃t,v=Value.int (ns.getD i 0) t:=λi v hi=>by
  have hi':its[i]? = AM v:=by simpa using hi
  have hil:=(AU.mp hi').1;obtain⟨u,hu,t,rfl⟩:=xJ rv (j:=i) (x:=.int (ns.getD i 0)) (by rw[am,ah,ag ⋯];rfl);rw[hi']at hu;cases hu;exact#[t,rfl]
 refine Uq (I.ok.hd hc) its.toArray (λi=>ns.getD i 0) hat pl.isList (.int d td) λv h' tk h0 h1 kp=>?_;by_cases hn:ns=[]
 ·have:=h0 (by rw[aj,<- hlen,hn];rfl);subst this;exact#[.int d,H,I.kept kp,#[_,rfl],q d (λ_=>rfl) (λn hm=>by rw[hn]at hm;cases hm)]
 ·obtain⟨z,t,rfl,hzz⟩:=h1 (by rw[aj,<- hlen];exact Bh.mpr hn);refine#[.int z,H,I.kept kp,#[_,rfl],q z (λe=>absurd e hn) λn hm=>?_];obtain⟨i,hi,rfl⟩:=List.getElem_of_mem hm;have:=hzz i (by rw[aj,<- hlen];exact hi);rw[ah,ag hi]at this;exact this
end
end L3
namespace L3
section
variable{prog:sj}{w:so}{A:sq}{R:Ak->rZ->Prop}{I l S:rX}
end
section
variable{X:Cx}
end
end L3
namespace L3
section
variable{prog:sj}{w:so}{A:sq}{R:Ak->rZ->Prop}{I S:rX}{fp wr:List rX}{P:Nat->rY->Prop}{St:Nat->su->Prop}
end
section
variable{X:Cx}
end
end L3
namespace L3
section
variable{X:Cx}{k j:Nat}{C:rX}{m:sk}{ps:List sk}{sp:Sp}{o e:sr}{es:List sr}{ta:TE}{t:TA}{apos pos p:tm}{x:sk}{E:XK}
end
end L3
namespace L3
def zez(y l:List Nat)(e:Nat):Prop:=e+y.length<=l.length/\(l.drop e).take y.length=y
noncomputable instance (y l:List Nat) (e:Nat):Decidable (zez y l e):=by unfold zez;infer_instance
noncomputable def zf4(y l:List Nat):Option (List Nat × List Nat):=((aH (l.length+1)).find? λe=>decide (zez y l e)).map λe=>(l.take e,l.drop (e+y.length))
end L3
namespace L3
end L3
namespace L3
section
variable{X:Cx}
theorem kj{cn:sk}{np hpos:tm}{b0:sv}{suite:List sv}{hs:List Aq}{D:rX}{th:TS}(hg:Gl X cn)(hm:X.mg cn=AM (.ref D))(hdb:(cn ==("__debug__" : sk))=AQ)(xc:ZP X.K D=AO)(hsu:∀e,PSs (Cx.suite X e) (b0::suite) th)
  {AR:List (rX × sL)} {s:rZ} {σ:St} {H:Hp} {Dd:vN} {x C T:rX} {dx:Option rX} (I:Inv X AR σ H s) (hob:∃t cx kx,s.heap.get? x=AM (xog C dx t (.ref T) cx kx)) (hoT:∃oT ts,s.heap.get? T=AM oT/\oT.data=.fields ts/\3<ts.size) (fT:wj X AR H T)
  (hb:cY X.K (.ref C) (.ref D)=AM AO) (q:th Dd σ H):si (model X.prog X.w) X.A (handleBy (.ref x) X.env (.ExceptHandler (AM (.Name cn np)) AN (b0::suite) hpos::hs)) (SP X AR Dd) X.xe s:=by
 obtain⟨t,cx,kx,ob⟩:=hob;obtain⟨oT,ts,eT,dT,zT⟩:=hoT;have I':=Inv.suite I (.ref x);refine wpAny_handleBy_cons (codeAny_handlers_test (vE (X:=Cx.suite X (.ref x)) I' hg hm (zdy I.kIn xc ob hb ?_) hdb)) (by intro q;cases q);refine codeAny_handlers_suite ?_;unfold setFlight;refine rQ (sC ob rfl (x:=.ref T) rfl ?_);rw[if_pos (show (Value.ref T != Value.none)=AO from by simp)];refine tj eT dT zT ?_;obtain⟨f0,f1,f2,f3,f4,f5⟩:=fT
 have I2:Inv X AR σ H { s with heap:=s.heap.update T (Obj.mapFields (·.setIfInBounds 3 ((AN:Option rX).elim Value.none λf=>rawInt f))) } :=
  I.turned (t':=s.toks) (λb o hb e=>(aD _ _ (Ne.symm hb)).trans e) f0 f1 f3 f4 f5
 refine sZ (thn (hsu _ AR _ σ H _ (Inv.suite I2 (.ref x)) q) λfl s4 q4=>?_)
 cases fl with
 | next =>
  obtain⟨σ4,H4,I4,n4⟩:=q4;exact#[_,_,Inv.unsuite I I4,n4]
 | brk =>
  obtain⟨σ4,H4,I4,n4⟩:=q4;exact#[_,_,Inv.unsuite I I4,n4]
 | cont =>
  obtain⟨σ4,H4,I4,n4⟩:=q4;exact#[_,_,Inv.unsuite I I4,n4]
 | ret v =>
  obtain⟨y,σ4,H4,I4,r4,n4⟩:=q4;exact#[y,_,_,Inv.unsuite I I4,r4,n4]
end
end L3
namespace L3
section
variable{X:Cx}
def K1(K:rW)(i:Nat)(D:rX)(te:TX)(th:TS):TS:=λDd σ H=>te σ H (λv H1=>Dd.nx (σ.set i (AM v)) H1) λcls dx H1=>∃C,cls=.ref C/\cY K (.ref C) (.ref D)=AM AO/\∀x,H1 x=AN->th Dd σ (upd H1 x (XT x C dx))
theorem Jj{i:Nat}{y:sk}{yp apos pos np hpos:tm}{e:sr}{te:TX}{cn:sk}{b0:sv}{suite:List sv}{hs:List Aq}{D:rX}{th:TS}
  (hN:X.N.Nodup) (hy:X.N[i]? = AM y) (hly:Loc X.env.scope y) (hf:X.fn y=AO\/X.env.scope.names.lookup y=AM .local) (hst:X.stack=X.env::X.outer/\X.env.frame=AM X.env.locals) (he:PEX X e te) (hg:Gl X cn) (hm:X.mg cn=AM (.ref D)) (xc:ZP X.K D=AO) (hsu:∀e,PSs (Cx.suite X e) (b0::suite) th) (hdb:(cn ==("__debug__" : sk))=AQ:=by decide) (hsw:swapsWith e (AM (.Name y yp)) apos.line X.env=pure AQ:=by rfl) :
  PS X (.Try [.Assign [.Name y yp] e apos] (.ExceptHandler (AM (.Name cn np)) AN (b0::suite) hpos::hs) [] [] pos) (K1 X.K i D te th):=by
 intro AR s σ H D I hq;refine AD (tD (Ax (tz (he AR s σ H _ _ I hq) (λv s1 ⟨z,H1,I1,r1,q1⟩=>?_) λe s1 fl=>?_) hsw))
 ·exact kM I1 hN hy hly r1 (λs2 I2=>tw (tw #[_,H1,I2,q1])) hf
 ·obtain⟨cx,kx,H1,x,C,t,dx,tb,rfl,I1,ob,tr,fx,fT,C',ec,hsb,q1⟩:=fl;cases ec;have fr:X.A.frames=AM (X.env::X.outer):=by rw[<- hst.1];exact I1.ok.frames
  have ff:s1.heap.FunFrames X.base (X.env::X.outer):=by rw[<- hst.1];exact I1.stack
  refine ZK fr ff hst.2 hst.2 ob tr λh' T oT ts e1 nT oldT e2 d2 z2 k1 k2=>?_
  have fT':wj X AR H1 T:=by
   rcases oldT with z | z
   ·exact fT T z
   ·exact I1.fpOk z (I1.hok.fresh z)
  have tbs:∀b,tb=.ref b->H1 b=AN:=λb hb=>(fT b hb).1
  have nch:∀b o,s1.heap.get? b=AM o->b ∉ (x::T::tbL tb)->b≠x/\tb≠.ref b:=λb o _ hb=>by
   refine#[λz=>hb (by simp [z]),λz=>hb ?_];rw[z];simp [tbL]
  have un:Un (frs X.stack) (x::T::tbL tb) H1 H1 s1.heap h':=by
   rw[hst.1];refine#[λb o e n hb hc=>?_,λb o e n hb hc=>?_,λb o e n _=>n,λb o e hc=>?_,λb xs e=>e,λb o u e=>e,λb ps e=>#[#[],by rw[e];simp]]
   ·obtain⟨a1,a2⟩:=nch b o e hc;exact k1 b o a1 a2 hb e
   ·obtain⟨a1,a2⟩:=nch b o e hc;exact k2 b o a1 a2 e
   ·obtain⟨a1,a2⟩:=nch b o e hc;obtain⟨sl,q⟩:=k2 b o a1 a2 e;exact#[_,q]
  have hok:HOk X.prog X.w H1 h':=λb u e=>by
   refine (I1.hok b u e).stay (λc v hc q=>k1 c v ?_ ?_ ?_ q) (λ_ q=>q) λ_ _ q=>q
   ·rintro rfl;rcases hc with rfl | hc
    ·rw[fx.1]at e;cases e
    ·rw[fx.1]at hc;cases hc
   ·intro z;have:=tbs c z;rcases hc with rfl | hc
    ·rw[this]at e;cases e
    ·rw[this]at hc;cases hc
   ·intro z;rw[<- hst.1]at z;have:=I1.stkFree c z;rcases hc with rfl | hc
    ·rw[this]at e;cases e
    ·rw[this]at hc;cases hc
  have I2:Inv X AR σ H1 { s1 with heap:=h' }:=I1.call' (s':={ s1 with heap:=h' }) rfl un hok I1.bare λb hb=>by
   have fb:wj X AR H1 b:=by
    rcases AX.mp hb with z | z
    ·rw[z];exact fx
    ·rcases AX.mp z with z | z
     ·rw[z];exact fT'
     ·cases tb with
      | ref b' =>
       have:b=b':=by simpa [tbL] using z
       rw[this];exact fT b' rfl
      | _=>simp [tbL]at z
   obtain⟨_,a1,_,a3,a4,a5⟩:=fb;exact#[a3,a1,a4,a5]
  have I3:Inv X AR σ (upd H1 x (XT x C dx)) { s1 with heap:=h' }:=Inv.track I2 fx (zdv e1);exact kj hg hm hdb xc hsu I3 #[t,_,_,e1] #[oT,ts,e2,d2,z2] #[by rw[zm nT];exact fT'.1,fT'.2] hsb (q1 x fx.1)
end
end L3
namespace L3
section
variable{X:Cx}
def VV(K:rW)(D:rX)(te:TX)(th:TS):TS:=λDd σ H=>te σ H (λz H1=>Dd.rt z H1) λcls dx H1=>∃C,cls=.ref C/\cY K (.ref C) (.ref D)=AM AO/\∀x,H1 x=AN->th Dd σ (upd H1 x (XT x C dx))
theorem X4{apos pos np hpos:tm}{e:sr}{te:TX}{cn:sk}{b0:sv}{suite:List sv}{hs:List Aq}{D:rX}{th:TS}
  (hst:X.stack=X.env::X.outer/\X.env.frame=AM X.env.locals) (he:PEX X e te) (hg:Gl X cn) (hm:X.mg cn=AM (.ref D)) (xc:ZP X.K D=AO) (hsu:∀e,PSs (Cx.suite X e) (b0::suite) th) (hdb:(cn ==("__debug__" : sk))=AQ:=by decide) :
  PS X (.Try [.Return (AM e) apos] (.ExceptHandler (AM (.Name cn np)) AN (b0::suite) hpos::hs) [] [] pos) (VV X.K D te th):=by
 intro AR s σ H D I hq;refine AD (tD (Aw (tz (he AR s σ H _ _ I hq) (λv s1 ⟨z,H1,I1,r1,q1⟩=>?_) λe s1 fl=>?_)))
 ·exact#[z,σ,H1,I1,r1,q1]
 ·obtain⟨cx,kx,H1,x,C,t,dx,tb,rfl,I1,ob,tr,fx,fT,C',ec,hsb,q1⟩:=fl;cases ec;have fr:X.A.frames=AM (X.env::X.outer):=by rw[<- hst.1];exact I1.ok.frames
  have ff:s1.heap.FunFrames X.base (X.env::X.outer):=by rw[<- hst.1];exact I1.stack
  refine ZK fr ff hst.2 hst.2 ob tr λh' T oT ts e1 nT oldT e2 d2 z2 k1 k2=>?_
  have fT':wj X AR H1 T:=by
   rcases oldT with z | z
   ·exact fT T z
   ·exact I1.fpOk z (I1.hok.fresh z)
  have tbs:∀b,tb=.ref b->H1 b=AN:=λb hb=>(fT b hb).1
  have nch:∀b o,s1.heap.get? b=AM o->b ∉ (x::T::tbL tb)->b≠x/\tb≠.ref b:=λb o _ hb=>by
   refine#[λz=>hb (by simp [z]),λz=>hb ?_];rw[z];simp [tbL]
  have un:Un (frs X.stack) (x::T::tbL tb) H1 H1 s1.heap h':=by
   rw[hst.1];refine#[λb o e n hb hc=>?_,λb o e n hb hc=>?_,λb o e n _=>n,λb o e hc=>?_,λb xs e=>e,λb o u e=>e,λb ps e=>#[#[],by rw[e];simp]]
   ·obtain⟨a1,a2⟩:=nch b o e hc;exact k1 b o a1 a2 hb e
   ·obtain⟨a1,a2⟩:=nch b o e hc;exact k2 b o a1 a2 e
   ·obtain⟨a1,a2⟩:=nch b o e hc;obtain⟨sl,q⟩:=k2 b o a1 a2 e;exact#[_,q]
  have hok:HOk X.prog X.w H1 h':=λb u e=>by
   refine (I1.hok b u e).stay (λc v hc q=>k1 c v ?_ ?_ ?_ q) (λ_ q=>q) λ_ _ q=>q
   ·rintro rfl;rcases hc with rfl | hc
    ·rw[fx.1]at e;cases e
    ·rw[fx.1]at hc;cases hc
   ·intro z;have:=tbs c z;rcases hc with rfl | hc
    ·rw[this]at e;cases e
    ·rw[this]at hc;cases hc
   ·intro z;rw[<- hst.1]at z;have:=I1.stkFree c z;rcases hc with rfl | hc
    ·rw[this]at e;cases e
    ·rw[this]at hc;cases hc
  have I2:Inv X AR σ H1 { s1 with heap:=h' }:=I1.call' (s':={ s1 with heap:=h' }) rfl un hok I1.bare λb hb=>by
   have fb:wj X AR H1 b:=by
    rcases AX.mp hb with z | z
    ·rw[z];exact fx
    ·rcases AX.mp z with z | z
     ·rw[z];exact fT'
     ·cases tb with
      | ref b' =>
       have:b=b':=by simpa [tbL] using z
       rw[this];exact fT b' rfl
      | _=>simp [tbL]at z
   obtain⟨_,a1,_,a3,a4,a5⟩:=fb;exact#[a3,a1,a4,a5]
  have I3:Inv X AR σ (upd H1 x (XT x C dx)) { s1 with heap:=h' }:=Inv.track I2 fx (zdv e1);exact kj hg hm hdb xc hsu I3 #[t,_,_,e1] #[oT,ts,e2,d2,z2] #[by rw[zm nT];exact fT'.1,fT'.2] hsb (q1 x fx.1)
end
end L3
namespace L3
section
variable{X:Cx}
end
end L3
namespace L3
section
variable{X:Cx}
theorem V3(bs:List Bool):(aH bs.length).any (λi=>bs.getD i AQ)=bs.any id:=by
 induction bs with
 | nil=>rfl
 | cons b bs ih =>
  rw[aG,dm,List.any_cons,List.any_map,List.any_cons,<- ih];rfl
def zfQ(K:rW):List V->Hp->VK->Prop:=λxs H Q=>∃(p:rX) (bs:List Bool),xs=[.ref p]/\SqL K H p (bs.map V.bl)/\Q (.bl (bs.any id)) H
theorem zeo(hc:X.calm=AO):vo X (.builtin "any") (zfQ X.K):=by
 intro AR s σ H xs us Q I r h;obtain⟨p,bs,rfl,hS,q⟩:=h;obtain⟨u,rfl,ru⟩:=wq r;cases ru;obtain⟨its,rv,pl,hz⟩:=I.list hS
 have hlen:its.length=bs.length:=by
  have:=rv.length;rw[ac]at this;exact this.symm
 have hh:X.A.in1.handled=AN:=I.ok.hd hc
 have hne:p≠s⁻¹:=by
  obtain⟨o,n,e,_⟩:=pl;exact ay (aq e)
 obtain⟨f0,f1,f2,f3,f4,f5⟩:=I.fpOk (H':=H) (al _) (I.hok.fresh (al _));have I1:=I.kept (t':=s.toks) (h':=s.heap.push { cls:=.type "list_iterator",data:=.fields (List.toArray [.ref p,.int 0 0]) }) λb o e=>ae _ e;refine call_any_walk (tL pl.isList ?_);refine#[s⁻¹,_,_,_,_,_,λi=>bs.getD i AQ,rfl,Walks.list hh s⁻¹ p hne its.toArray,#[#[_,az _ rfl,rfl,rfl],?_],?_,?_]
 ·obtain⟨o,n,e,c,d,dt⟩:=pl;exact#[o,ae _ e,c,n,dt]
 ·intro i v s' Q' E' hv hq;have:=kN rv (i:=i) (v:=v) (by simpa using hv);rw[this];exact sI hq
 ·intro h' tk hk
  have e:(aH its.toArray.size).any (λi=>bs.getD i AQ)=bs.any id:=by
   rw[aj,hlen,V3]
  rw[e];refine#[.bl _,H,?_,rfl,q];exact I1.turned (t':=tk) (it:=s⁻¹) (λb o hb q=>hk b o (by simpa using hb) q) f0 f1 f3 f4 f5
end
end L3
namespace L3
def CompEL(K:rW)(a:rX)(g:TG)(tt:TT)(te:TE)(own:Nat)(ix:List Nat)(σ:L2.St)(H1:Hp)(Q:VK)(D:rX):Prop:=XD (Iel K a) g tt te own ix σ H1 Q D
theorem zcJ{K:rW}{ta:TA}{g:TG}{tt:TT}{te:TE}{own:Nat}{ix:List Nat}{σ:L2.St}{H:Hp}{Q:VK}:jY (Ud K ta) g tt te own ix σ H Q=ta σ H λvs H1=>∃a,vs=[.ref a]/\(∃xs,SqL K H1 a xs)/\∀D,H1 D=AN->CompEL K a g tt te own ix σ H1 Q D:=rfl
section
variable{g:TG}{tt:TT}{te:TE}{own:Nat}{ix:List Nat}{σ:L2.St}{H1:Hp}{Q:VK}{D:rX}
theorem CompEL.by{K:rW}{a:rX}{xs:List V}(Pv:Nat->List V->Hp->Prop)(h0:Pv 0 [] (upd H1 D (.lst [])))(hl:∀i AT H',i<=xs.length->Pv i AT H'->SqL K H' a xs)
  (hs:∀i x AT H' p,xs[i]? = AM x->Pv i AT H'->H' p=AN->g (.ref p) (vt σ own ix) (upd H' p (.tup [.int (i:Nat),x])) λσ3 H3=>yU (vt σ own ix) σ3/\tt σ3 H3 λb H4=>if b=AO then
   te σ3 H4 λv H5=>H5 D=AM (.lst AT)/\AT.length<rV/\CNx xs.length i Pv (AT ++ [v]) (upd H5 D (.lst (AT ++ [v])))else CNx xs.length i Pv AT H4)
  (hd:∀AT H',Pv xs.length AT H'->Q (.ref D) H'):CompEL K a g tt te own ix σ H1 Q D:=by
 refine#[λi m AT H=>m=xs.length - i/\i<=xs.length/\Pv i AT H,#[xs.length,by simp,aE _,h0],?_];rintro i m AT H' ⟨rfl,hi,p⟩;have q:=hl i AT H' hi p;by_cases hlt:i<xs.length
 ·refine .inr #[#[xs,xs[i],q,by simp [hlt]],λv H2 y=>?_];obtain⟨p',x,hp,hx,ev,eH⟩:=y;subst ev eH;exact hs i x AT H' p' (hx xs q) p hp
 ·have e:i=xs.length:=⋯;subst e;exact .inl #[#[xs,q,rfl],hd AT H' p]
end
end L3
namespace L3
section
variable{X:Cx}
end
end L3
namespace L3
open PySem PySem.W PyProof.Rows
noncomputable def zfo(lt:Nat->Nat->Bool){α:Type}:KasT α->α
 | .ret a=>a
 | .ask i j k=>zfo lt (k (lt i j))
def Kok(lt:Nat->Nat->Bool)(n:Nat){α:Type}:KasT α->(α->Prop)->Prop
 | .ret a,Q=>Q a
 | .ask i j k,Q=>i<n/\j<n/\Kok lt n (k (lt i j)) Q
section
variable{lt:Nat->Nat->Bool}{n:Nat}{α β:Type}
theorem Kok.mono{Q Q':α->Prop}(hq:∀a,Q a->Q' a):∀(t:KasT α),Kok lt n t Q->Kok lt n t Q'
 | .ret a,h=>hq a h
 | .ask _ _ k,h=>#[h.1,h.2.1,Kok.mono hq (k _) h.2.2]
theorem Kok.bind{f:α->KasT β}{Q:β->Prop}:∀(t:KasT α),Kok lt n t (λa=>Kok lt n (f a) Q)->Kok lt n (t.bind f) Q
 | .ret _,h=>h
 | .ask _ _ k,h=>#[h.1,h.2.1,Kok.bind (k _) h.2.2]
theorem Kok.run{Q:α->Prop}:∀(t:KasT α),Kok lt n t Q->Q (zfo lt t)
 | .ret _,h=>h
 | .ask _ _ k,h=>Kok.run (k _) h.2.2
theorem Kok.wp{cmp:Nat->Nat->(Bool->rZ->Prop)->rZ->Prop}{I:rZ->Prop}(hc:∀i j C s,i<n->j<n->I s->(∀s',I s'->C (lt i j) s')->cmp i j C s){Q:α->Prop}{R:α->rZ->Prop}
  (hR:∀a s,Q a->I s->R a s):∀(t:KasT α) (s:rZ),I s->Kok lt n t Q->t.kasWp cmp R s
 | .ret a,s,hI,h=>hR a s h hI
 | .ask i j k,s,hI,h=>hc i j _ s h.1 h.2.1 hI λs' hI'=>Kok.wp hc hR (k _) s' hI' h.2.2
end
structure Wk(lt:Nat->Nat->Bool):Prop where
 asym:∀a b,lt a b=AO->lt b a=AQ
 ntr:∀a b c,lt b a=AQ->lt c b=AQ->lt c a=AQ
section
variable{lt:Nat->Nat->Bool}{n:Nat}
abbrev Lq(lt:Nat->Nat->Bool)(a b:Nat):Prop:=lt b a=AQ
theorem Wk.refl(W:Wk lt)(a:Nat):Lq lt a a:=by
 cases h:lt a a with
 | false=>exact h
 | true=>exact absurd h (by rw[W.asym a a h];decide)
noncomputable abbrev pg(p:Array Nat)(i:Nat):Nat:=p.getD i 0
theorem W5(p:Array Nat)(i:Nat):pg p i=(p[i]?).getD 0:=by simp [pg,Array.getD_eq_getD_getElem?]
def Up(lt:Nat->Nat->Bool)(p:Array Nat)(m:Nat):Prop:=∀i j,i<j->j<m->Lq lt (pg p i) (pg p j)
def Dn(lt:Nat->Nat->Bool)(p:Array Nat)(m:Nat):Prop:=∀i j,i<j->j<m->Lq lt (pg p j) (pg p i)
def Rg(n:Nat)(p:Array Nat):Prop:=p.toList.Perm (aH n)
theorem Rg.size{p:Array Nat}(h:Rg n p):p.size=n:=by have:=h.length_eq;simpa using this
theorem Rg.bd{p:Array Nat}(h:Rg n p){i:Nat}(hi:i<n):pg p i<n:=by
 have hs:=h.size;have hi':i<p.size:=⋯;have e:pg p i=p[i]:=by simp [pg,fo,hi']
 rw[e];have hm:p[i] ∈ p.toList:=Array.mem_toList_iff.mpr (Array.getElem_mem hi');exact Ba.mp (h.mem_iff.mp hm)
theorem vA{p:Array Nat}{i j:Nat}(hj:j<=p.size)(k:Nat):pg (kas_rev p i j) k=if i<=k/\k<j then pg p (i+j - 1 - k)else pg p k:=by
 rw[W5,kas_rev,getElem?_mirror_all hj];split <;> rw[W5]
theorem Rg.rev{p:Array Nat}(h:Rg n p)(i j:Nat):Rg n (kas_rev p i j):=(Array.perm_iff_toList_perm.mp (mirror_perm p i j _)).trans h
theorem Rg.bub{p:Array Nat}(h:Rg n p)(i j:Nat):Rg n (bubble p i j):=(Array.perm_iff_toList_perm.mp (bubble_perm p i j)).trans h
theorem VR(W:Wk lt){p:Array Nat}(hp:Rg n p):∀(f k:Nat),1<=k->k+f<=n->Up lt p k->Kok lt n (kas_asc p f k) (λm=>k<=m/\m<=k+f/\Up lt p m/\(m=k+f\/lt (pg p m) (pg p (m - 1))=AO))
 | 0,k,h1,h2,hu=>#[⋯,⋯,hu,Or.inl ⋯]
 | f+1,k,h1,h2,hu=>by
  refine#[hp.bd ⋯,hp.bd ⋯,?_];rcases ce (lt (pg p k) (pg p (k - 1)))with hc | hc
  ·show Kok lt n (if lt (pg p k) (pg p (k - 1))=AO then .ret k else _) _;rw[if_pos hc];exact#[⋯,⋯,hu,Or.inr hc]
  ·show Kok lt n (if lt (pg p k) (pg p (k - 1))=AO then .ret k else _) _;rw[if_neg (by rw[hc];decide)];refine (VR W hp f (k+1) ⋯ ⋯ λi j hij hj=>?_).mono (λm hm=>#[⋯,⋯,hm.2.2.1,?_]) _
   ·by_cases e:j=k
    ·subst e;by_cases e2:i=j - 1
     ·subst e2;exact hc
     ·exact W.ntr _ _ _ (hu i (j - 1) ⋯ ⋯) hc
    ·exact hu i j hij ⋯
   ·rcases hm.2.2.2 with h | h
    ·exact Or.inl ⋯
    ·exact Or.inr h
def Ev(lt:Nat->Nat->Bool)(p:Array Nat)(a b:Nat):Prop:=∀i j,a<=i->i<b->a<=j->j<b->Lq lt (pg p i) (pg p j)
theorem K5{p:Array Nat}{m q:Nat}(hm:m<=p.size)(hq:q+1<=m)(hd:Dn lt p m)(he:Ev lt p (m - (q+1)) m):Dn lt (kas_rev p (m - (q+1)) m) m:=by
 intro i j hij hj;rw[vA hm,vA hm];by_cases h1:m - (q+1)<=i
 ·rw[if_pos (show m - (q+1)<=i/\i<m by lia),if_pos (show m - (q+1)<=j/\j<m by lia)];exact he _ _ ⋯ ⋯ ⋯ ⋯
 ·rw[if_neg (show ¬ (m - (q+1)<=i/\i<m) by lia)];split
  ·exact hd _ _ ⋯ ⋯
  ·exact hd _ _ ⋯ ⋯
theorem Zz(W:Wk lt):∀(f:Nat) (p:Array Nat) (k q:Nat),Rg n p->1<=k->k+f<=n->q+1<=k->Dn lt p k->Ev lt p (k - (q+1)) k ->
  Kok lt n (kas_desc f p k q) (λr=>Rg n r.1/\k<=r.2.1/\r.2.1<=k+f/\r.2.2+1<=r.2.1/\Dn lt r.1 r.2.1/\Ev lt r.1 (r.2.1 - (r.2.2+1)) r.2.1)
 | 0,p,k,q,hp,h1,h2,hq,hd,he=>#[hp,al _,cw _ _,hq,hd,he]
 | f+1,p,k,q,hp,h1,h2,hq,hd,he=>by
  have hps:=hp.size;refine#[hp.bd ⋯,hp.bd ⋯,?_]
  have one:∀(p:Array Nat),Ev lt p (k+1 - (0+1)) (k+1):=λp i j a b c d=>by
   have:i=j:=⋯;subst this;exact W.refl _
  rcases ce (lt (pg p k) (pg p (k - 1)))with hc | hc
  ·show Kok lt n (if lt (pg p k) (pg p (k - 1))=AO then _ else _) _;rw[if_pos hc];have hle:Lq lt (pg p k) (pg p (k - 1)):=W.asym _ _ hc;split
   ·rename_i hq0;refine (Zz W f _ (k+1) 0 (hp.rev _ _) ⋯ ⋯ ⋯ (λi j hij hj=>?_) (one _)).mono (λr hr=>#[hr.1,⋯,⋯,hr.2.2.2]) _;by_cases e:j=k
    ·subst e;rw[vA ⋯,vA ⋯,if_neg ⋯];split
     ·exact W.ntr _ _ _ hle (he _ _ ⋯ ⋯ ⋯ ⋯)
     ·exact W.ntr _ _ _ hle (hd _ _ ⋯ ⋯)
    ·exact K5 ⋯ hq hd he i j hij ⋯
   ·refine (Zz W f _ (k+1) 0 hp ⋯ ⋯ ⋯ (λi j hij hj=>?_) (one _)).mono (λr hr=>#[hr.1,⋯,⋯,hr.2.2.2]) _;by_cases e:j=k
    ·subst e;by_cases e2:i=j - 1
     ·subst e2;exact hle
     ·exact W.ntr _ _ _ hle (hd i (j - 1) ⋯ ⋯)
    ·exact hd i j hij ⋯
  ·show Kok lt n (if lt (pg p k) (pg p (k - 1))=AO then _ else _) _;rw[if_neg (by rw[hc];decide)];refine#[hp.bd ⋯,hp.bd ⋯,?_];rcases ce (lt (pg p (k - 1)) (pg p k))with hd2 | hd2
   ·show Kok lt n (if lt (pg p (k - 1)) (pg p k)=AO then _ else _) _;rw[if_pos hd2];exact#[hp,al _,cw _ _,hq,hd,he]
   ·show Kok lt n (if lt (pg p (k - 1)) (pg p k)=AO then _ else _) _;rw[if_neg (by rw[hd2];decide)];refine (Zz W f _ (k+1) (q+1) hp ⋯ ⋯ ⋯ (λi j hij hj=>?_) (λi j a b c d=>?_)).mono (λr hr=>#[hr.1,⋯,⋯,hr.2.2.2]) _
    ·by_cases e:j=k
     ·subst e;by_cases e2:i=j - 1
      ·subst e2;exact hd2
      ·exact W.ntr _ _ _ hd2 (hd i (j - 1) ⋯ ⋯)
     ·exact hd i j hij ⋯
    ·have b1:∀i,k+1 - (q+1+1)<=i->i<k->Lq lt (pg p i) (pg p (k - 1))/\Lq lt (pg p (k - 1)) (pg p i):=λi a b=>#[he _ _ ⋯ ⋯ ⋯ ⋯,he _ _ ⋯ ⋯ ⋯ ⋯];by_cases e:j=k
     ·subst e;by_cases e3:i=j
      ·subst e3;exact W.refl _
      ·exact W.ntr _ _ _ (b1 i ⋯ ⋯).1 hc
     ·by_cases e3:i=k
      ·subst e3;exact W.ntr _ _ _ hd2 (b1 j ⋯ ⋯).2
      ·exact he _ _ ⋯ ⋯ ⋯ ⋯
theorem Wg(W:Wk lt){p:Array Nat}{m:Nat}(hp:Rg n p)(h1:1<=m)(hm:m<=n)(hd:Dn lt p m):Kok lt n (kas_tail3 m n p) (λr=>Rg n r.2/\1<=r.1/\r.1<=n/\Up lt r.2 r.1):=by
 have hps:=hp.size;unfold kas_tail3;refine Kok.bind _ ((VR W (hp.rev 0 m) (n - m) m h1 ⋯ λi j hij hj=>?_).mono (λk hk=>#[hp.rev 0 m,by show 1<=k;lia,by show k<=n;lia,hk.2.2.1]) _);rw[vA ⋯,vA ⋯,if_pos ⋯,if_pos ⋯];exact hd _ _ ⋯ ⋯
theorem qE(W:Wk lt){p:Array Nat}{m:Nat}(hp:Rg n p)(h1:1<=m)(hm:m+1<=n)(hd:Dn lt p (m+1)):Kok lt n (kas_descPart m n p) (λr=>Rg n r.2/\1<=r.1/\r.1<=n/\Up lt r.2 r.1):=by
 unfold kas_descPart;refine Kok.bind _ ((Zz W (n - (m+1)) p (m+1) 0 hp ⋯ ⋯ ⋯ hd λi j a b c d=>?_).mono (λr hr=>?_) _)
 ·have:i=j:=⋯;subst this;exact W.refl _
 ·obtain⟨r1,r2,r3,r4,r5,r6⟩:=hr;have hs:=r1.size
  (try dsimp only)
  split
  ·exact Wg W (r1.rev _ _) ⋯ ⋯ (K5 ⋯ r4 r5 r6)
  ·exact Wg W r1 ⋯ ⋯ r5
theorem Kp(W:Wk lt){p:Array Nat}(hp:Rg n p)(hn:1<=n):Kok lt n (kas_count n p) (λr=>Rg n r.2/\1<=r.1/\r.1<=n/\Up lt r.2 r.1):=by
 have hps:=hp.size;unfold kas_count;refine Kok.bind _ ((VR W hp (n - 1) 1 (al _) ⋯ λi j hij hj=>by lia).mono (λm hm=>?_) _);obtain⟨m1,m2,mu,ms⟩:=hm;by_cases e:(m == n)=AO
 ·rw[if_pos e];exact#[hp,by show 1<=m;lia,by show m<=n;lia,mu]
 ·rw[if_neg e];have hne:m≠n:=λh=>e (by rw[h];exact beq_self_eq_true _)
  have hlt:lt (pg p m) (pg p (m - 1))=AO:=by
   rcases ms with h | h
   ·lia
   ·exact h
  have hle:Lq lt (pg p m) (pg p (m - 1)):=W.asym _ _ hlt;by_cases h1:m > 1
  ·rw[if_pos h1];refine#[hp.bd ⋯,hp.bd ⋯,?_];rcases ce (lt (pg p 0) (pg p (m - 1)))with hc | hc
   ·show Kok lt n (if lt (pg p 0) (pg p (m - 1))=AO then _ else _) _;rw[if_pos hc];exact#[hp,by show 1<=m;lia,by show m<=n;lia,mu]
   ·show Kok lt n (if lt (pg p 0) (pg p (m - 1))=AO then _ else _) _;rw[if_neg (by rw[hc];decide)]
    have u0:∀i,i<m->Lq lt (pg p 0) (pg p i):=λi hi=>by
     by_cases h:i=0
     ·subst h;exact W.refl _
     ·exact mu 0 i ⋯ hi
    have ul:∀i,i<m->Lq lt (pg p i) (pg p (m - 1)):=λi hi=>by
     by_cases h:i=m - 1
     ·subst h;exact W.refl _
     ·exact mu i (m - 1) ⋯ ⋯
    have ev:∀i j,i<m->j<m->Lq lt (pg p i) (pg p j):=λi j hi hj=>W.ntr _ _ _ (ul i hi) (W.ntr _ _ _ hc (u0 j hj));refine qE W (hp.rev 0 m) ⋯ ⋯ λi j hij hj=>?_;by_cases h:j=m
    ·subst h;rw[vA ⋯,vA ⋯,if_neg ⋯,if_pos ⋯];exact W.ntr _ _ _ hle (ev _ _ ⋯ ⋯)
    ·rw[vA ⋯,vA ⋯,if_pos ⋯,if_pos ⋯];exact ev _ _ ⋯ ⋯
  ·rw[if_neg h1];refine qE W hp ⋯ ⋯ λi j hij hj=>?_;have h0:i=m - 1:=⋯;have h1:j=m:=⋯;subst h0 h1;exact hle
theorem ZE(W:Wk lt){p:Array Nat}(hp:Rg n p){k:Nat}(hk:k<n)(hu:Up lt p k):∀(f l r:Nat),l<=r->r<=k->r - l<=f->(∀i,i<l->Lq lt (pg p i) (pg p k))->(∀i,r<=i->i<k->Lq lt (pg p k) (pg p i)) ->
  Kok lt n (kas_place p k f l r) (λm=>m<=k/\(∀i,i<m->Lq lt (pg p i) (pg p k))/\(∀i,m<=i->i<k->Lq lt (pg p k) (pg p i)))
 | 0,l,r,hl,hr,hf,h1,h2=>by
  have:l=r:=⋯;subst this;exact#[hr,h1,h2]
 | f+1,l,r,hl,hr,hf,h1,h2=>by
  unfold kas_place;by_cases e:l ≥ r
  ·rw[if_pos e];have:l=r:=⋯;subst this;exact#[hr,h1,h2]
  ·rw[if_neg e];refine#[hp.bd hk,hp.bd ⋯,?_];rcases ce (lt (pg p k) (pg p ((l+r) / 2)))with hc | hc
   ·show Kok lt n (if lt (pg p k) (pg p ((l+r) / 2))=AO then _ else _) _;rw[if_pos hc];refine ZE W hp hk hu f l ((l+r) / 2) ⋯ ⋯ ⋯ h1 λi hi hik=>?_;by_cases e2:i=(l+r) / 2
    ·subst e2;exact W.asym _ _ hc
    ·exact W.ntr _ _ _ (W.asym _ _ hc) (hu _ _ ⋯ hik)
   ·show Kok lt n (if lt (pg p k) (pg p ((l+r) / 2))=AO then _ else _) _;rw[if_neg (by rw[hc];decide)];refine ZE W hp hk hu f ((l+r) / 2+1) r ⋯ hr ⋯ (λi hi=>?_) h2;by_cases e2:i=(l+r) / 2
    ·subst e2;exact hc
    ·exact W.ntr _ _ _ (hu i ((l+r) / 2) ⋯ ⋯) hc
theorem KM{p:Array Nat}{k l:Nat}(hk:k<p.size)(hl:l<=k)(i:Nat):pg (bubble p k (k - l)) i=if i=l then pg p k else if l<i/\i<=k then pg p (i - 1)else pg p i:=by
 have e:k - (k - l)=l:=⋯;rw[W5,getElem?_bubble hk (k - l) ⋯,e];by_cases h:i=l
 ·rw[if_pos h,if_pos h];exact (W5 p k).symm
 ·rw[if_neg h,if_neg h];by_cases h':l<i/\i<=k
  ·rw[if_pos h',if_pos h'];exact (W5 p (i - 1)).symm
  ·rw[if_neg h',if_neg h'];exact (W5 p i).symm
theorem zaA(W:Wk lt):∀(f:Nat) (p:Array Nat) (k:Nat),Rg n p->k+f=n->Up lt p k->Kok lt n (kas_bin f p k) (λp'=>Rg n p'/\Up lt p' n)
 | 0,p,k,hp,hk,hu=>by
  have:k=n:=⋯;subst this;exact#[hp,hu]
 | f+1,p,k,hp,hk,hu=>by
  have hps:=hp.size;refine Kok.bind _ ((ZE W hp ⋯ hu k 0 k ⋯ ⋯ ⋯ (λi hi=>by lia) (λi h1 h2=>by lia)).mono (λl hl=>?_) _);obtain⟨l1,l2,l3⟩:=hl;refine zaA W f _ (k+1) (hp.bub _ _) ⋯ λi j hij hj=>?_;rw[KM ⋯ l1,KM ⋯ l1];by_cases h1:i=l
  ·rw[if_pos h1,if_neg ⋯,if_pos ⋯];exact l3 _ ⋯ ⋯
  ·rw[if_neg h1];by_cases h2:j=l
   ·rw[if_pos h2,if_neg ⋯];exact l2 _ ⋯
   ·rw[if_neg h2];by_cases h3:l<i/\i<=k
    ·rw[if_pos h3,if_pos ⋯];exact hu _ _ ⋯ ⋯
    ·rw[if_neg h3];by_cases h4:l<j/\j<=k
     ·rw[if_pos h4];by_cases h5:i=j - 1
      ·lia
      ·exact hu _ _ ⋯ ⋯
     ·rw[if_neg h4];exact hu _ _ ⋯ ⋯
theorem zbI(W:Wk lt)(hn:1<=n):Kok lt n (kas_sort n) (λp=>Rg n p/\Up lt p n):=by
 unfold kas_sort;refine Kok.bind _ ((Kp W (p:=aZ (aH n)) (by unfold Rg;exact List.Perm.refl _) hn).mono (λr hr=>?_) _);obtain⟨r1,r2,r3,r4⟩:=hr
 (try dsimp only)
 split
 ·have:max r.1 1=r.1:=⋯;rw[this];exact zaA W _ _ _ r1 ⋯ r4
 ·have:r.1=n:=⋯;rw[this]at r4;exact#[r1,r4]
end
noncomputable def srt{α:Type}(lt:α->α->Bool)(d:α)(xs:List α):List α :=
 if xs.length<2 then xs else (zfo (λi j=>lt (xs.getD i d) (xs.getD j d)) (kas_sort xs.length)).toList.map λi=>xs.getD i d
structure WkO{α:Type}(lt:α->α->Bool):Prop where
 asym:∀a b,lt a b=AO->lt b a=AQ
 ntr:∀a b c,lt b a=AQ->lt c b=AQ->lt c a=AQ
end L3
namespace L3
structure KeyFam(α:Type) where
 dec:α->List D
 lt:α->α->Bool
 fst:Bool
 d0:α
structure KeyFam.Ok{α:Type}(F:KeyFam α):Prop where
 w:WkO F.lt
 eq:∀a b,wv (F.dec a) (F.dec b)=F.lt a b
 ok:∀a b,ql (F.dec a) (F.dec b)
 dp:∀a,uP (F.dec a)<40
 sh:∀a,∃d r,F.dec a=d::r/\((F.fst=AO/\∃n,d=.int n)\/(F.fst=AQ/\∃l,d=.tup l))
section
variable{X:Cx}{AR:List (rX × sL)}{σ:L2.St}{H:Hp}{s:rZ}
theorem Inv.repin{b:rX}{o o':sL}{h':su}(I:Inv X (AR ++ [(b,o)]) σ H s)(hs:X.s₀.heap.objs.size<=b)(hn:∀p ∈ X.pn ++ AR,p.1≠b)(sb:Heap.SameBut b s.heap h')(ho:h'.get? b=AM o')(hd:∀v,o'.data≠.cell v) :
  Inv X (AR ++ [(b,o')]) σ H { s with heap:=h' }:=by
 have I1:Inv X AR σ H s:=I.unpinned;obtain⟨p1,p2,p3,p4,p5⟩:=I.pin (b,o) (aA _ (aA _ (AY.mpr rfl)))
 have I2:Inv X AR σ H { s with heap:=h' }:=Inv.turns I1 (fp:=[b]) (t':=s.toks) (λb' u hb e=>(sb.2 b' (by simpa using hb)).trans e) λb' hb=>by
  have e:b'=b:=by simpa using hb
  subst e;refine#[p2,p3,p4,.inr hs,λx c e z=>?_,hn];obtain⟨v,o1,ho1,hd1⟩:=I.cell x c e;subst z;rw[p1]at ho1;cases ho1;exact p5 v hd1
 exact I2.pins_of λp hp=>by
  rcases AW.mp hp with z | z
  ·exact I2.pin p (aA _ z)
  ·have e:p=(b,o'):=by simpa using z
   subst e;exact#[ho,p2,p3,p4,hd]
theorem Inv.newpin{b:rX}{o:sL}(I:Inv X AR σ H s)(hf:wj X AR H b)(ho:s.heap.get? b=AM o)(hd:∀v,o.data≠.cell v):Inv X (AR ++ [(b,o)]) σ H s :=
 I.pins_of λp hp=>by
  rcases AW.mp hp with z | z
  ·exact I.pin p (aA _ z)
  ·have e:p=(b,o):=by simpa using z
   subst e;exact#[ho,hf.1,hf.2.1,hf.2.2.1,hd]
theorem zdG(I:Inv X AR σ H s){A:sq}{b:Bool}{Q:Bool->rZ->Prop}(hu:A.units+50<cLine):∀(l m:List D) (xs ys:List V) (its its':List rY) (i:Nat),Iss X.K H l xs->Iss X.K H m ys->Vals xs its->Vals ys its'->ql l m->uP l<40 ->
  (b=AO->i=0->(∃n r,l=.int n::r)/\∃n r,m=.int n::r)->Q (wv l m) s->PySem.W.KatLex X.prog X.w A b (decide (its.length<its'.length)) Q (its.zip its') i s
 | [],m,xs,ys,its,its',i,h1,h2,r1,r2,ok,hd,hb,q=>by
  erw[Iss]at h1
  subst h1;cases r1
  have e:wv [] m=decide (([]:List rY).length<its'.length):=by
   have e1:=h2.len;have e2:=r2.length;have e3:m.length=its'.length:=⋯;rw[<- e3]
   cases m with
   | nil=>simp [wv]
   | cons _ _=>simp [wv]
  rw[e]at q;rw[List.zip_nil_left];exact fW q
 | d::l,[],xs,ys,its,its',i,h1,h2,r1,r2,ok,hd,hb,q=>by
  erw[Iss]at h2
  subst h2;cases r2
  erw[wv]at q
  rw[List.zip_nil_right];exact fW (by simpa using q)
 | d::l,e::m,xs,ys,its,its',i,h1,h2,r1,r2,ok,hd,hb,q=>by
  erw[Iss]at h1 h2
  obtain⟨x,xr,rfl,hx,hxr⟩:=h1;obtain⟨y,yr,rfl,hy,hyr⟩:=h2
  cases r1 with | cons rx rxr =>
  cases r2 with | cons ry ryr =>
  erw[ql]at ok
  erw[uP]at hd
  rename_i u us v vs;rw[di];refine PySem.W.kat_cons (Yj I 45 A d e x y u v ⋯ ⋯ hx hy rx ry X.prog X.w _ _ ?_)
  cases he:eqD d e with
  | true =>
   refine PySem.W.kat_yes ?_;have:=zdG I (b:=b) hu l m xr yr us vs (i+1) hxr hyr rxr ryr ok.2 ⋯ (λ_ z=>absurd z ⋯) (by simpa only[wv,he,if_true] using q);simpa using this
  | false =>
   refine PySem.W.kat_no ?_;have q':Q (ltD d e) s:=by simpa only[wv,he,bA,if_false] using q
   by_cases hbi:(b && i == 0)=AO
   ·rw[hbi]
    erw[bE,beq_iff_eq]at hbi
    obtain⟨⟨n,r,e1⟩,n',r',e2⟩:=hb hbi.1 hbi.2;cases e1;cases e2
    erw[Is]at hx hy
    subst hx hy;obtain⟨t,rfl⟩:=rx;obtain⟨t',rfl⟩:=ry
    erw[ltD]at q'
    exact oneLt_int q'
   ·rw[show (b && i == 0)=AQ by simpa using hbi];exact PySem.W.kat_one _ _ (K3 I 45 A d e x y u v ⋯ ⋯ ok.1 hx hy rx ry X.prog X.w _ _ q')
theorem zbX(I:Inv X AR σ H s){A:sq}{b:Bool}{Q:Bool->rZ->Prop}{E:rY->rZ->Prop}(hu:A.units+50<cLine){l m:List D}{x y:V}{u v:rY}(hx:Is X.K H (.tup l) x)(hy:Is X.K H (.tup m) y)(rx:RelV x u)(ry:RelV y v)
  (ok:ql l m) (hd:uP l<40) (hb:b=AO->(∃n r,l=.int n::r)/\∃n r,m=.int n::r) (q:Q (wv l m) s):si (model X.prog X.w) A (keyLt' (tuples' b) u v) Q E s:=by
 erw[Is]at hx hy
 obtain⟨a,xs,rfl,h1,h2⟩:=hx;obtain⟨c,ys,rfl,g1,g2⟩:=hy;cases rx;cases ry;obtain⟨its,r,⟨o,ho,hoc,n,hod⟩,_⟩:=I.tuple h1;obtain⟨its',r',⟨o',ho',hoc',n',hod'⟩,_⟩:=I.tuple g1;refine PySem.W.kat_lt ho hod ho' hod' ?_;have:=zdG I (A:=A) (b:=b) (Q:=Q) hu l m xs ys its its' 0 h2 g2 r r' ok hd (λz _=>hb z) q;simpa using this
theorem zah{α:Type}{F:KeyFam α}(FO:F.Ok)(I:Inv X AR σ H s){M:Ay}:∀(rs:List α) (AT:List V) (ks:List rY),Iss X.K H (rs.map λa=>.tup (F.dec a)) AT->Vals AT ks ->
  ∃fs,PySem.W.KatTups s.heap ks fs/\fs.length=rs.length/\∀v ∈ fs,PySem.W.Looks M s.heap (typeOf v) (.type (if F.fst=AO then "int" else "tuple"))
 | [],AT,ks,h,r=>by
  erw[aI,Iss]at h
  subst h;cases r;exact#[[],PySem.W.KatTups.nil,rfl,λv hv=>by cases hv]
 | a::rs,AT,ks,h,r=>by
  erw[ao,Iss]at h
  obtain⟨x,xr,rfl,hx,hxr⟩:=h
  cases r with | cons rx rxr =>
  rename_i u us;obtain⟨fs,t1,t2,t3⟩:=zah FO I (M:=M) rs xr us hxr rxr
  erw[Is]at hx
  obtain⟨c,xs,rfl,h1,h2⟩:=hx;cases rx;obtain⟨its,ri,⟨o,ho,hoc,n,hod⟩,_⟩:=I.tuple h1;obtain⟨d,dr,ed,hsh⟩:=FO.sh a;rw[ed]at h2
  erw[Iss]at h2
  obtain⟨y,yr,rfl,hy,_⟩:=h2
  cases ri with | cons ry rir =>
  rename_i v vs;refine#[v::fs,PySem.W.KatTups.cons ho hoc hod (by simp) t1,by simp [t2],λz hz=>?_];rcases AX.mp hz with e | hz
  ·subst e;rcases hsh with ⟨hf,n',rfl⟩ | ⟨hf,l,rfl⟩
   ·rw[if_pos hf]
    erw[Is]at hy
    subst hy;obtain⟨t,rfl⟩:=ry;exact PySem.W.Looks.of_pure rfl
   ·rw[if_neg (by rw[hf];decide)]
    erw[Is]at hy
    obtain⟨c',xs',rfl,g1,_⟩:=hy;cases ry;obtain⟨its',ri',⟨o',ho',hoc',n',hod'⟩,_⟩:=I.tuple g1;rw[<- hoc'];exact (PySem.W.Looks.ld ho').andThen .now
  ·exact t3 z hz
end
def Vg{α:Type}(K:rW)(F:KeyFam α)(xs:List V)(Q:VK):List V->Hp->Prop:=λAT H'=>∃rs:List α,Iss K H' (rs.map λa=>.tup (F.dec a)) AT /\
 ∀ys:List (α × V),ys.Perm (rs.zip xs)->ys.Pairwise (λp q=>F.lt q.1 p.1=AQ)->∀D,H' D=AN->Q (.ref D) (upd H' D (.lst (ys.map (·.2))))
theorem UK{β:Type}{g:β->β->Bool}{d:β}{zs:List β}{p:Array Nat}(h1:Rg zs.length p)(h2:Up (λi j=>g (zs.getD i d) (zs.getD j d)) p zs.length) :
  (p.toList.map λi=>zs.getD i d).Perm zs/\(p.toList.map λi=>zs.getD i d).Pairwise λa b=>g b a=AQ:=by
 have e:(aH zs.length).map (λi=>zs.getD i d)=zs:=by
  refine List.ext_getElem (by simp) λi a b=>?_;have hb:i<zs.length:=by simpa using b
  simp [hb]
 refine#[(h1.map (λi=>zs.getD i d)).trans (by rw[e]),?_];rw[List.pairwise_map,List.pairwise_iff_getElem];intro i j hi hj hij;have hs:=h1.size;have hi':i<p.size:=by simpa using hi
 have hj':j<p.size:=by simpa using hj
 have q:=h2 i j hij ⋯;have ei:pg p i=p.toList[i]:=by simp [pg,fo,hi']
 have ej:pg p j=p.toList[j]:=by simp [pg,fo,hj']
 rw[ei,ej]at q;exact q
end L3
namespace L3
section
variable{X:Cx}{AR:List (rX × sL)}{σ:L2.St}{H:Hp}{s:rZ}
theorem Inv.fp_of_pin{b:rX}{o:sL}(I:Inv X (AR ++ [(b,o)]) σ H s)(hs:X.s₀.heap.objs.size<=b)(hn:∀p ∈ X.pn ++ AR,p.1≠b):wj X AR H b:=by
 obtain⟨p1,p2,p3,p4,p5⟩:=I.pin (b,o) (aA _ (aA _ (AY.mpr rfl)));refine#[p2,p3,p4,.inr hs,λx c e z=>?_,hn];obtain⟨v,o1,ho1,hd1⟩:=I.cell x c e;subst z;rw[p1]at ho1;cases ho1;exact p5 v hd1
theorem Inv.at_pin{b:rX}{o:sL}(I:Inv X (AR ++ [(b,o)]) σ H s):s.heap.get? b=AM o:=(I.pin (b,o) (aA _ (aA _ (AY.mpr rfl)))).1
theorem xM{c:String}{xs:Array rY}{n:Nat}:∀v,(sF c xs n).data≠.cell v:=λv z=>by cases z
theorem zaw{D kS:rX}{e e1:Nat}{st:SortSt}{ks out:List rY}{A:sq}{E:rY->rZ->Prop}{P:PySem.Fin->rZ->Prop}(I:Inv X ((AR ++ [(D,sF "list" #[] e1)]) ++ [(kS,sF "list" (aZ ks) e)]) σ H s)
  (hD:X.s₀.heap.objs.size<=D) (hK:X.s₀.heap.objs.size<=kS) (nD:∀p ∈ X.pn ++ AR,p.1≠D) (nK:∀p ∈ X.pn ++ (AR ++ [(D,sF "list" #[] e1)]),p.1≠kS) (hkz:ks.length<64)
  (hout:(arrOf st).map (·.2)=aZ out) (hoz:out.length<64) (hf:failedOf st=AN) (h:∀s' c,Inv X (AR ++ [(D,sF "list" (aZ out) c)]) σ H s'->P (.done (.ret .none)) s') :
  si (model X.prog X.w) A (ksk_tail D AQ e1 (.ref kS) st) P E s:=by
 have pk:=Inv.at_pin I;have s1:=Heap.SameBut.update s.heap kS (Obj.mapSeq λ_=>(#[]:Array rY));obtain⟨ck,hck⟩:∃ck,(s.heap.update kS (Obj.mapSeq λ_=>(#[]:Array rY))).get? kS=AM (sF "list" #[] ck):=#[_,get?_update_seq pk λ_=>#[]];have I2:=(Inv.repin I hK nK s1 hck xM).unpinned;have pd:=Inv.at_pin I2;have s2:=Heap.SameBut.update (s.heap.update kS (Obj.mapSeq λ_=>(#[]:Array rY))) D (Obj.mapSeq λ_=>aZ out);obtain⟨c2,hc2⟩:∃c2,((s.heap.update kS (Obj.mapSeq λ_=>(#[]:Array rY))).update D (Obj.mapSeq λ_=>aZ out)).get? D=AM (sF "list" (aZ out) c2):=#[_,get?_update_seq pd λ_=>aZ out];have I3:=Inv.repin I2 hD nD s2 hc2 xM;unfold ksk_tail
 (try dsimp only)
 rw[hout];refine rQ (listUpdate_at pk rfl ?_ (by rw[aj,sK];lia) (aE _));refine rQ (tI ?_);refine rQ (seqEpoch_at pd rfl ?_);refine rQ (listUpdate_at pd rfl ?_ (aE _) (by erw[bA,if_false];rw[aj,sK];lia));rw[hf]
 erw[bne_self_eq_false,bA,if_false]
 exact rR (h _ c2 I3)
theorem ze0{α:Type}{F:KeyFam α}(FO:F.Ok){D kS:rX}{e e1:Nat}{ks its:List rY}{AT xs:List V}{rs:List α}{A:sq}{E:rY->rZ->Prop}{P:PySem.Fin->rZ->Prop}(hu:A.units+50<cLine)
  (I:Inv X ((AR ++ [(D,sF "list" #[] e1)]) ++ [(kS,sF "list" (aZ ks) e)]) σ H s)
  (hD:X.s₀.heap.objs.size<=D) (hK:X.s₀.heap.objs.size<=kS) (nD:∀p ∈ X.pn ++ AR,p.1≠D) (nK:∀p ∈ X.pn ++ (AR ++ [(D,sF "list" #[] e1)]),p.1≠kS)
  (rk:Vals AT ks) (rv:Vals xs its) (hl:ks.length=its.length) (hz:its.length<64) (hR:Iss X.K H (rs.map λa=>.tup (F.dec a)) AT)
  (h:∀s' (ys:List (α × V)) (out:List rY) c,ys.Perm (rs.zip xs)->ys.Pairwise (λp q=>F.lt q.1 p.1=AQ)->Vals (ys.map (·.2)) out->out.length<64->Inv X (AR ++ [(D,sF "list" (aZ out) c)]) σ H s'->P (.done (.ret .none)) s') :
  si (model X.prog X.w) A (ksk_end D AQ its.toArray e1 (.ref kS) (aZ ks)) P E s:=by
 have L1:=hR.len;have L2:=rk.length;have L3:=rv.length;rw[ac]at L1;have lz:(rs.zip xs).length=its.length:=by rw[List.length_zip];lia
 unfold ksk_end
 erw[bA,if_false]
 by_cases h2:its.toArray.size<2
 ·rw[if_pos h2,if_pos h2];refine rQ (rR ?_);rw[StateT.run_pure];refine rQ (rR ?_)
  (try dsimp only)
  refine zaw (out:=its) I hD hK nD nK ⋯ ?_ hz rfl λs' c I'=>h s' (rs.zip xs) its c (List.Perm.refl _) ?_ ?_ hz I'
  ·show ((aZ ks).zip its.toArray).map (·.2)=_;apply Array.toList_inj.mp;rw[Array.toList_map,ksk_zip];exact List.map_snd_zip (by simp;lia)
  ·rw[aj]at h2
   match rs.zip xs,lz with
   | [],_=>exact List.Pairwise.nil
   | [a],_=>exact eO _ _
   | _::_::_,lz=>exact absurd lz (by erw[aG];lia)
  ·rw[List.map_snd_zip ⋯];exact rv
 ·rw[if_neg h2,if_neg h2];rw[aj]at h2;obtain⟨fs,t1,t2,t3⟩:=zah FO I (M:=model X.prog X.w) rs AT ks hR rk;refine rQ (PySem.W.kat_kind t1 ⋯ t3 (by simp) ?_)
  have hfst:((Value.type (if F.fst=AO then "int" else "tuple"):rY) != Value.type "tuple")=F.fst:=by
   cases hF:F.fst with
   | true=>rfl
   | false=>rfl
  rw[hfst];have W:Wk (λi j=>F.lt (rs.getD i F.d0) (rs.getD j F.d0)):=#[λa b=>FO.w.asym _ _,λa b c=>FO.w.ntr _ _ _];have ok:=zbI (n:=its.length) W ⋯
  have lt_eq:(λi j=>F.lt (rs.getD i F.d0) (rs.getD j F.d0))=(λi j=>(λ(p q:α × V)=>F.lt p.1 q.1) ((rs.zip xs).getD i (F.d0,.non)) ((rs.zip xs).getD j (F.d0,.non))):=by
   have one:∀i,((rs.zip xs).getD i (F.d0,V.non)).1=rs.getD i F.d0:=λi=>by
    by_cases hi:i<its.length
    ·have a1:i<rs.length:=⋯;have a2:i<xs.length:=⋯;rw[ah,ah,ag ⋯,ag a1];simp
    ·rw[ah,ah,bv ⋯,bv ⋯];rfl
   funext i j
   erw[one]
  have wp:=Kok.wp (n:=its.length) (cmp:=fX X.prog X.w A (tuples' F.fst) ks) (I:=λs'=>Inv X ((AR ++ [(D,sF "list" #[] e1)]) ++ [(kS,sF "list" (aZ ks) e)]) σ H s')
   (R:=λp s'=>(Rg its.length p/\Up (λi j=>F.lt (rs.getD i F.d0) (rs.getD j F.d0)) p its.length)/\Inv X ((AR ++ [(D,sF "list" #[] e1)]) ++ [(kS,sF "list" (aZ ks) e)]) σ H s')
   (λi j C s' hi hj I' hC=>?_) (λp s' hp I'=>#[hp,I']) _ s I ok
  ·have run:=PySem.W.kat_run (E:=E) (vs:=its) (ks:=ks) (Q:=λst' s'=>∃p:Array Nat,p.size=its.length/\arrOf st'=p.map (PySem.W.kas_item (ks.toArray.zip its.toArray))/\failedOf st'=AN/\_) hl ⋯ hz (λp' st' s' a1 a2 a3 a4=>#[p',a1,a2,a3,a4]) wp;refine rQ (tz run ?_ λ_ _ e=>e);rintro⟨⟨⟩,st'⟩ s' ⟨p,hp,har,hf,⟨hR1,hU⟩,I'⟩
   (try dsimp only)
   have hout:=PySem.W.kat_snds (ks:=ks) (vs:=its) hl har;have hR2:Rg (rs.zip xs).length p:=by rw[lz];exact hR1
   rw[lt_eq,<- lz]at hU;obtain⟨g1,g2⟩:=UK (g:=λ(p q:α × V)=>F.lt p.1 q.1) hR2 hU;have olen:(p.toList.map λi=>its.getD i Value.none).length=its.length:=by rw[ac,dM,hp]
   refine zaw (out:=p.toList.map λi=>its.getD i Value.none) I' hD hK nD nK ⋯ hout ⋯ hf λs2 c I2=>h s2 _ _ c g1 g2 ?_ ⋯ I2;rw[dD]
   have all:∀(js:List Nat),(∀j ∈ js,j<its.length)->Vals (js.map ((λx:α × V=>x.2) ∘ λi=>(rs.zip xs).getD i (F.d0,.non))) (js.map λi=>its.getD i Value.none):=by
    intro js
    induction js with
    | nil=>intro _;exact .nil
    | cons j js ih =>
     intro hj;refine .cons ?_ (ih λi hi=>hj i (ar _ hi));have hjl:=hj j aB;have a1:j<xs.length:=⋯;obtain⟨u,hu1,ru⟩:=xJ rv (j:=j) (x:=xs[j]) (ag a1)
     have e1:((rs.zip xs).getD j (F.d0,V.non)).2=xs[j]:=by
      rw[ah,ag ⋯];simp
     have e2:its.getD j Value.none=u:=by rw[ah,hu1];rfl
     show RelV ((rs.zip xs).getD j (F.d0,V.non)).2 (its.getD j Value.none);rw[e1,e2];exact ru
   exact all p.toList λj hj=>Ba.mp (hR1.mem_iff.mp hj)
  ·have a1:i<rs.length:=⋯;have a2:j<rs.length:=⋯;have gi:(rs.map λa=>_root_.L3.D.tup (F.dec a))[i]? = AM (.tup (F.dec rs[i])):=by rw[am,ag a1];rfl
   have gj:(rs.map λa=>_root_.L3.D.tup (F.dec a))[j]? = AM (.tup (F.dec rs[j])):=by rw[am,ag a2];rfl
   obtain⟨x,hx,ix⟩:=hR.at gi;obtain⟨y,hy,iy⟩:=hR.at gj;obtain⟨u,hu1,ru⟩:=xJ rk hx;obtain⟨v,hv1,rv1⟩:=xJ rk hy;have e1:ks.getD i Value.none=u:=by rw[ah,hu1];rfl
   have e2:ks.getD j Value.none=v:=by rw[ah,hv1];rfl
   have e3:rs.getD i F.d0=rs[i]:=by rw[ah,ag a1];rfl
   have e4:rs.getD j F.d0=rs[j]:=by rw[ah,ag a2];rfl
   unfold fX;rw[e1,e2];refine zbX I' hu ix iy ru rv1 (FO.ok _ _) (FO.dp _) (λhb=>?_) ?_
   ·obtain⟨d,r,ed,hd⟩:=FO.sh rs[i];obtain⟨d',r',ed',hd'⟩:=FO.sh rs[j];rcases hd with ⟨_,n,rfl⟩ | ⟨z,_⟩
    ·rcases hd' with ⟨_,n',rfl⟩ | ⟨z,_⟩
     ·exact#[#[n,r,ed],n',r',ed']
     ·rw[hb]at z;cases z
    ·rw[hb]at z;cases z
   ·rw[FO.eq,<- e3,<- e4];exact hC s' I'
end
end L3
namespace L3
def uU(kc:V->Hp->VK->Prop):List V->List V->Hp->(List V->Hp->Prop)->Prop
 | [],AT,H,Q=>Q AT H
 | x::xs,AT,H,Q=>kc x H (λk H'=>uU kc xs (AT ++ [k]) H' Q)
section
variable{X:Cx}{AR:List (rX × sL)}{σ:L2.St}{H:Hp}{s:rZ}
theorem zcj{α:Type}{F:KeyFam α}(FO:F.Ok){k:Nat}{q:rX}{kc:V->Hp->VK->Prop}(hr:Room (k+2) X.A)
  (hkc:∀(pins':List (rX × sL)) (s:rZ) (H:Hp) (x:V) (u:rY) (Q:VK),Inv X pins' σ H s->RelV x u->kc x H Q->si (model X.prog X.w) X.A.in1.in1 (call (.ref q) [u]) (EP X pins' σ Q) (λ_ _=>False) s)
  {D kS:rX} {e1:Nat} {its:List rY} {xs:List V} {E:rY->rZ->Prop} {P:PySem.Fin->rZ->Prop} {Q:VK}
  (I:Inv X ((AR ++ [(D,sF "list" #[] e1)]) ++ [(kS,sF "list" #[] 0)]) σ H s)
  (hD:X.s₀.heap.objs.size<=D) (hK:X.s₀.heap.objs.size<=kS) (nD:∀p ∈ X.pn ++ AR,p.1≠D) (nK:∀p ∈ X.pn ++ (AR ++ [(D,sF "list" #[] e1)]),p.1≠kS)
  (rv:Vals xs its) (hz:its.length<64)
  (ht:uU kc xs [] H (Vg X.K F xs Q))
  (hP:∀s',EP X AR σ Q (.ref D) s'->P (.done (.ret .none)) s') :
  si (model X.prog X.w) X.A.in1.in1 (ksk_rest D (.ref q) AQ its.toArray e1 (.ref kS)) P E s:=by
 unfold ksk_rest;refine rQ (tY ?_);rw[List.forIn_toArray]
 refine rQ (ksk_fold (λj s'=>∃AT ks e H',Inv X ((AR ++ [(D,sF "list" #[] e1)]) ++ [(kS,sF "list" (aZ ks) e)]) σ H' s'/\Vals AT ks/\ks.length=j/\uU kc (xs.drop j) AT H' (Vg X.K F xs Q))
  its 0 s #[[],[],0,H,I,.nil,rfl,ht] (λj x s1 hx hJ=>?_) λs1 hJ=>?_)
 ·obtain⟨AT,ks,e,H1,I1,rk,hkl,tk⟩:=hJ;rw[eG]at hkl tk;have hjl:j<its.length:=(AU.mp hx).1;have L3:=rv.length;obtain⟨u,hu,ru⟩:=xJ rv (j:=j) (x:=xs[j]) (ag ⋯);rw[hx]at hu;cases hu;rw[aT ⋯]at tk;refine rQ (tO (tz (hkc _ _ _ _ _ _ I1 ru tk) (λkv s2 hk=>?_) λ_ _ z=>z.elim));obtain⟨v,H2,I2,rv2,tk2⟩:=hk;have pk:=Inv.at_pin I2;have sb:=Heap.SameBut.update s2.heap kS (Obj.mapSeq (·.push kv));have ea:(aZ ks).push kv=aZ (ks ++ [kv]):=by simp
  obtain⟨c2,hc2⟩:∃c2,(s2.heap.update kS (Obj.mapSeq (·.push kv))).get? kS=AM (sF "list" (aZ (ks ++ [kv])) c2):=#[_,by rw[<- ea];exact get?_update_seq pk (·.push kv)];have I3:=Inv.repin I2 hK nK sb hc2 xM
  (try dsimp only)
  refine rQ (listUpdate_at pk rfl ?_ (by rw[aj,sK];lia) (by rw[Array.size_push,aj,sK];lia));refine rR #[rfl,AT ++ [v],ks ++ [kv],c2,H2,I3,rk.append (.cons rv2 .nil),by rw[ak,dz,hkl];lia,?_];rw[eG];exact tk2
 ·obtain⟨AT,ks,e,H1,I1,rk,hkl,tk⟩:=hJ;rw[eG]at hkl tk;have L3:=rv.length;rw[<- L3,eE]at tk;obtain⟨rs,hR,hq⟩:=tk
  (try dsimp only)
  refine rQ (listItems_at (Inv.at_pin I1) rfl ?_);refine ze0 FO (by have:=hr.in1.in1.un;lia) I1 hD hK nD nK rk rv hkl hz hR λs' ys out c p1 p2 p3 p4 I'=>hP s' ?_;have fp:=Inv.fp_of_pin I' hD nD;refine#[.ref D,_,Inv.track I'.unpinned (a:=D) (o:=.lst (ys.map (·.2))) fp #[?_,out,c,p3,Inv.at_pin I'],rfl,hq ys p1 p2 D fp.1];rw[p3.length,sK];lia
theorem Uu{α:Type}{F:KeyFam α}(FO:F.Ok){k:Nat}{q l:rX}{xs:List V}{kc:V->Hp->VK->Prop}{Q:VK}(hr:Room (k+2) X.A)
  (hkc:∀(pins':List (rX × sL)) (s:rZ) (H:Hp) (x:V) (u:rY) (Q:VK),Inv X pins' σ H s->RelV x u->kc x H Q->si (model X.prog X.w) X.A.in1.in1 (call (.ref q) [u]) (EP X pins' σ Q) (λ_ _=>False) s)
  (I:Inv X AR σ H s) (hS:SqL X.K H l xs) (hz:xs.length<64) (ht:uU kc xs [] H (Vg X.K F xs Q)) :
  si (model X.prog X.w) X.A (call (.builtin "sorted") [.ref l] [(bF "key",.ref q)]) (EP X AR σ Q) X.xe s:=by
 obtain⟨its,rv,pl,_⟩:=I.list hS;have hlen:=rv.length;refine call_function_entry_kw kind_sorted plain_sorted entry_sorted (ksk_s1 _ _) ?_;unfold Builtin.«sorted»;refine rQ (m:=checkCount "sorted" 1 1 _) (rR ?_);refine rQ (collect_list pl.isList ?_ (by rw[sK];lia));refine rQ (Ao ?_ (by rw[sK];lia));generalize hh1:((s.heap.push (sF "list" #[] 0)).update s⁻¹ (Obj.mapSeq (· ++ its.toArray)))=h1;have sz1:h1.objs.size=s⁻¹+1:=by rw[<- hh1,dv,size_push']
 have kp1:∀b o,s.heap.get? b=AM o->h1.get? b=AM o:=λb o e=>by
  have hlt:b<s⁻¹:=aq e;rw[<- hh1,Heap.get?_update_ne _ _ _ _ (ay hlt),Heap.get?_push_ne _ _ _ (ay hlt)];exact e
 have hoL:(h1.push (sF "list" its.toArray 0)).get? h1.objs.size=AM (sF "list" its.toArray 0):=az _ rfl;show si _ _ _ _ _ { s with heap:=h1.push (sF "list" its.toArray 0) };refine rQ (sM (wpAny_call_entry_kw slot_list_sort #[_,hoL,rfl] entry_list_sort ?body (ksk_l1 _ _)));show si _ _ (Builtin.«list.sort» #[[.ref h1.objs.size],[(bF "key",.ref q)]]) _ _ _;rw[ksk_t1];generalize hh2:h1.push (sF "list" its.toArray 0)=h2 at hoL;have sz2:h2.objs.size=h1.objs.size+1:=by rw[<- hh2,size_push']
 have kp2:∀b o,s.heap.get? b=AM o->h2.get? b=AM o:=λb o e=>by rw[<- hh2];exact ae _ (kp1 b o e)
 generalize hDD:h1.objs.size=D at hoL;obtain⟨e1,ho1⟩:∃e1,(h2.update D (Obj.mapSeq λ_=>(#[]:Array rY))).get? D=AM (sF "list" #[] e1):=#[_,get?_update_seq hoL λ_=>#[]];have hDs:s⁻¹<=D:=by rw[<- hDD,sz1];exact cP _
 have sb:=Heap.SameBut.update h2 D (Obj.mapSeq λ_=>(#[]:Array rY));unfold ksk_tree;refine rQ (listItems_at hoL rfl ?_);refine rQ (listUpdate_at hoL rfl ?_ (by rw[aj,sK];lia) (aE _));refine rQ (seqEpoch_at ho1 rfl ?_);refine rQ (wpAny_newTuple ?_ (by show its.length<=_;rw[sK];lia));refine rQ (Ao ?_ (aE _));refine sM ?_;generalize hh3:(h2.update D (Obj.mapSeq λ_=>(#[]:Array rY))).push (sF "tuple" its.toArray 0)=h3;have sz3:h3.objs.size=s⁻¹+3:=by rw[<- hh3,size_push',dv,sz2,sz1]
 have hoK:(h3.push (sF "list" #[] 0)).get? h3.objs.size=AM (sF "list" #[] 0):=az _ rfl;have hoD:(h3.push (sF "list" #[] 0)).get? D=AM (sF "list" #[] e1):=ae _ (by rw[<- hh3];exact ae _ ho1)
 have kp3:∀b o,s.heap.get? b=AM o->(h3.push (sF "list" #[] 0)).get? b=AM o:=λb o e=>by
  have hlt:b<s⁻¹:=aq e;refine ae _ ?_;rw[<- hh3];exact ae _ ((sb.2 b (ay (av hlt hDs))).trans (kp2 b o e))
 have I1:Inv X AR σ H { s with heap:=h3.push (sF "list" #[] 0) }:=I.kept (t':=s.toks) kp3;have fD:wj X AR H D:=I.fpOk ⋯ (I.hok.fresh ⋯);have fK:wj X AR H h3.objs.size:=I.fpOk ⋯ (I.hok.fresh ⋯);have I2:=Inv.newpin I1 fD hoD xM
 have nK:∀p ∈ X.pn ++ (AR ++ [(D,sF "list" #[] e1)]),p.1≠h3.objs.size:=λp hp=>by
  rcases AW.mp hp with z | z
  ·exact fK.2.2.2.2.2 p (bD _ z)
  ·rcases AW.mp z with z | z
   ·exact fK.2.2.2.2.2 p (aA _ z)
   ·have e:p=(D,sF "list" #[] e1):=by simpa using z
    subst e;show D≠_;lia
 have I3:=Inv.newpin I2 (b:=h3.objs.size) #[fK.1,fK.2.1,fK.2.2.1,fK.2.2.2.1,fK.2.2.2.2.1,nK] hoK xM;have hsz:=I.sz;have hK0:X.s₀.heap.objs.size<=h3.objs.size:=⋯;exact zcj FO hr hkc I3 ⋯ hK0 fD.2.2.2.2.2 nK rv ⋯ ht λs' hE=>#[_,rfl,rR #[_,rfl,hE]]
end
end L3
namespace L3
noncomputable def V0(X:Cx)(N:List sk)(s:rZ)(H:Hp)(qual:sk)(scope:sU)(f:rX)(cd:rY)(cl:List (sk × rX)):Cx where
 prog:=X.prog
 w:=X.w
 K:=X.K
 mg:=X.mg
 base:=X.base
 A:=X.A.in1.in1.deeper (eI qual scope s⁻¹ f cd cl)
 N:=N
 s₀:=s
 H₀:=H
 env:=eI qual scope s⁻¹ f cd cl
 outer:=X.stack
 stack:=eI qual scope s⁻¹ f cd cl::X.stack
 ex:=[]
 calm:=AO
 fn:=λ_=>AQ
 pn:=[]
 xe:=λ_ _=>False
structure zbh(p y:sk)(scope:sU):Prop where
 kind:scope.kind=.function
 co:scope.isCoroutine=AQ
 gen:scope.isGenerator=AQ
 nocell:∀z ∈ scope.names,z.2≠.cell
 par:scope.names.lookup p=AM .local
 fre:scope.names.lookup y=AM .free
 one:∀q ∈ scope.names,q.2=.free->q.1=y
 ne:p≠y
section
variable{X:Cx}{AR:List (rX × sL)}{σ:L2.St}{H:Hp}{s:rZ}{p y name qual:sk}{scope:sU}{params:tJ}{body:sr}{f c' c:rX}{pm ctv cv:rY}{k iy:Nat}{vy x:V}{u:rY}{Q:VK}{t:TE}
theorem zb3(S:zbh p y scope)(hd:X.A.in1.in1.handled=AN)(I:Inv X AR σ H s)(hy:X.N[iy]? = AM y)(hσ:σ[iy]? = AM (AM vy))(hvis:X.env.scope.names.lookup y=AM .cell)(hc:X.env.cells.lookup y=AM c)(rx:RelV x u){h₁:su}{tk:Nat}
  (hns:h₁.Ns s⁻¹ (λz=>[(p,u)].reverse.lookup z)) (hk₁:∀b o,s.heap.get? b=AM o->h₁.get? b=AM o) :
  Inv (V0 X [p,y] s H qual scope f cv [(y,c)]) [] [AM x,AM vy] H { s with heap:=h₁,toks:=tk }:=by
 obtain⟨m,hn,hl⟩:=I.loc;obtain⟨uy,ry,lk⟩:=hl iy y vy hy hσ (.inr (.inl hvis))
 have hcell:s.heap.IsCell c (AM uy):=by
  rcases lk with ⟨z,_⟩ | ⟨_,c2,e2,z⟩
  ·have z':X.env.scope.names.lookup y=AM .local:=z;rw[hvis]at z';cases z'
  ·rw[hc]at e2;cases e2;exact z
 have hcell':h₁.IsCell c (AM uy):=by
  obtain⟨o,e,d⟩:=hcell;exact#[o,hk₁ _ _ e,d]
 have e0:=I.env0;have noA:∀b:rX,b ∉ (V0 X [p,y] s H qual scope f cv [(y,c)]).ex:=λb z=>absurd (show b ∈ ([]:List rX)from z) (by simp)
 have lkc:∀z d,bc z [(y,c)]=AM d->z=y/\d=c:=λz d h=>by
  rw[aV]at h;by_cases hz:(z == y)=AO
  ·rw[hz]at h;cases h;exact#[by simpa using hz,rfl]
  ·rw[show (z == y)=AQ by simpa using hz]at h;cases h
 have lky:bc y [(y,c)]=AM c:=by rw[aV];simp
 refine#[#[e0.mod,S.kind,rfl,rfl,al _,λz z' d h1 h2=>?_,λz hz=>?_,λz d h _=>?_,λ_=>hd,Around.frames_deeper e0.frames,.inr #[rfl,rfl],λb z=>absurd z (noA b),e0.bs,e0.bsz,λb _ _=>noA b,λb z=>absurd z (noA b),e0.funs,e0.frf],
  rfl,e0.bare,Un.kept hk₁,#[_,hns,λi z v h1 h2 h3=>?_],λz d h=>?_,e0.hok.fresh (al _),λz d h=>?_,λq hq=>absurd (show q ∈ ([]:List (rX × sL))from hq) (by simp),e0.hok.kept hk₁,rfl]
 ·rw[(lkc _ _ h1).1,(lkc _ _ h2).1]
 ·have hz':scope.names.lookup z=AM .cell\/scope.names.lookup z=AM .free:=hz;rcases hz' with hz' | hz'
  ·exact absurd rfl (S.nocell _ (bS hz'))
  ·rw[show z=y from S.one _ (bS hz') rfl];exact#[c,lky]
 ·exact absurd (show (AQ:Bool)=AO from h) ∅
 ·match i,h1,h2 with
  | 0,h1,h2 =>
   cases h1;cases h2;refine#[u,rx,.inl #[S.par,?_]];show bc p [(p,u)].reverse=AM u;simp [bc]
  | 1,h1,h2 =>
   cases h1;cases h2;exact#[uy,ry,.inr #[.inr S.fre,c,lky,hcell']]
  | i+2,h1,h2=>simp at h2
 ·obtain⟨_,rfl⟩:=lkc z d h;exact#[_,hcell']
 ·obtain⟨_,rfl⟩:=lkc z d h;exact I.freeC y _ hc
theorem JJ(S:zbh p y scope)(hr:Room (k+3) X.A)(hbind:bindArgs (bX name qual params body scope [(y,c)] pm cv ctv) #[[u],[]]=pure [(p,u)])(I:Inv X AR σ H s)
  (ho:s.heap.get? f=AM { cls:=.type "function",data:=.func (bX name qual params body scope [(y,c)] pm cv ctv) }) (hcd:s.heap.CodeRec cv qual) (hy:X.N[iy]? = AM y) (hσ:σ[iy]? = AM (AM vy)) (hvis:X.env.scope.names.lookup y=AM .cell) (hc:X.env.cells.lookup y=AM c)
  (rx:RelV x u) (hb:PE (V0 X [p,y] s H qual scope f cv [(y,c)]) body t) (h:t [AM x,AM vy] H Q) :
  si (model X.prog X.w) X.A.in1.in1 (call (.ref f) [u]) (EP X AR σ Q) (λ_ _=>False) s:=by
 have hr2:Room (k+1) X.A.in1.in1:=hr.in1.in1;refine tB (PySem.W.kla_callFunE hr2.depth ho rfl S.co S.gen rfl hcd ?_);rw[hbind];refine rR (Ag S.nocell (λz hz=>?_) (λh₁ hns hsb=>?_) S.kind)
 ·have e:z=(p,u):=by simpa using hz
  subst e;exact S.par
 have hk₁:∀b o,s.heap.get? b=AM o->h₁.get? b=AM o:=λb o e=>hsb.extBut b o (ay (aq e)) (ae _ e);refine#[I.nolimit.keeps hk₁,?_];have I1:=zb3 (qual:=qual) (f:=f) (cv:=cv) (tk:=s.toks+1) S hr2.hd I hy hσ hvis hc rx hns hk₁;show tF _ _ (.expr body (eI qual scope s⁻¹ f cv [(y,c)])) _ _;refine PySem.W.kla_codeExpr (tz (hb [] _ _ H Q I1 h) (λv s' hv=>?_) λ_ _ z=>False.elim z);obtain⟨w',H',J,rw',q⟩:=hv;exact I.after #[w',H',J.os,J.bare,J.base,J.hok,rw',q]
end
end L3
namespace L3
noncomputable def cdE(c':rX)(q:sk):HO:=.ext λh=>h.CodeRec (.ref c') q
noncomputable def fnE(f:rX)(o:sL):HO:=.ext λh=>h.get? f=AM o
def TabOk(H:Hp)(P:rX)(pos:tm)(q:sk):Prop :=
 ∃ps:Array rY,H P=AM (.tbl ps)/\AJ ps.toList/\(codeAmong pos ps.toList=AN\/∃c',codeAmong pos ps.toList=AM (.ref c')/\H c'=AM (cdE c' q))
def SamT(P:rX)(H H':Hp):Prop:=∀b o,b≠P->H b=AM o->H' b=AM o
def LamAt(H:Hp)(f:rX)(name qual:sk)(params:tJ)(body:sr)(scope:sU)(cl:List (sk × rX)):Prop :=
 ∃(c':rX) (pm ctv:rY),H c'=AM (cdE c' qual)/\H f=AM (fnE f { cls:=.type "function",data:=.func (bX name qual params body scope cl pm (.ref c') ctv) })
theorem zdJ{P:sj}{w:so}{H:Hp}{h:su}{c':rX}{q:sk}(x:h.CodeRec (.ref c') q):ObjOk P w H h c' (cdE c' q):=by
 refine#[x,?_,λh1 h2 a k=>?_]
 ·obtain⟨c,o,vs,t,e,g,_⟩:=x;cases e;exact#[o,g]
 ·obtain⟨c,o,vs,t,e,g,r⟩:=a;cases e;exact#[_,o,vs,t,rfl,k o g,r]
theorem zal{P:sj}{w:so}{H:Hp}{h:su}{f:rX}{o:sL}(x:h.get? f=AM o):ObjOk P w H h f (fnE f o) :=
 #[x,#[o,x],λh1 h2 a k=>k o a]
section
variable{X:Cx}{AR:List (rX × sL)}{σ:L2.St}{H:Hp}{s:rZ}
theorem Inv.grow{P c' f:rX}{ps more:Array rY}{o:sL}{q:sk}{h':su}{tk:Nat}(I:Inv X AR σ H s)(hP:H P=AM (.tbl ps))(hk:∀b u,b≠P->s.heap.get? b=AM u->h'.get? b=AM u)(hP':h'.get? P=AM { cls:=.none,data:=.fields (ps ++ more) })
  (hc:s⁻¹<=c') (hf:s⁻¹<=f) (hcf:c'≠f) (hcr:h'.CodeRec (.ref c') q) (hfo:h'.get? f=AM o) :
  Inv X AR σ (upd (upd (upd H P (.tbl (ps ++ more))) c' (cdE c' q)) f (fnE f o)) { s with heap:=h',toks:=tk }:=by
 have Pl:P<s⁻¹:=I.hok.lt hP;have hPc:P≠c':=ay (av Pl hc);have hPf:P≠f:=ay (av Pl hf)
 have old:∀b,b<s⁻¹->b≠P->(upd (upd (upd H P (.tbl (ps ++ more))) c' (cdE c' q)) f (fnE f o)) b=H b:=λb hb hbP=>by
  rw[zm (ay (av hb hf)),zm (ay (av hb hc)),zm hbP]
 have atP:(upd (upd (upd H P (.tbl (ps ++ more))) c' (cdE c' q)) f (fnE f o)) P=AM (.tbl (ps ++ more)):=by
  rw[zm hPf,zm hPc,ze]
 have neP:∀b,H b=AN->b≠P:=λb e z=>by rw[z,hP]at e;cases e
 refine I.un #[λb u e n _ _=>hk b u (neP b n) e,λb u e n _ _=>#[u.slots,hk b u (neP b n) e],λb u e n _=>?_,λb u e _=>?_,λb xs e=>?_,λb ob u e=>?_,λb qs e=>?_] λb u e=>?_
 ·rw[old b (aq e) (neP b n)];exact n
 ·by_cases hb:b=P
  ·subst hb;exact#[_,hP']
  ·exact#[u,hk b u hb e]
 ·rw[old b (I.hok.lt e) (λz=>by rw[z,hP]at e;cases e)];exact e
 ·rw[old b (I.hok.lt e) (λz=>by rw[z,hP]at e;cases e)];exact e
 ·by_cases hb:b=P
  ·subst hb;rw[hP]at e;cases e;exact#[more,atP]
  ·rw[old b (I.hok.lt e) hb];exact#[#[],by rw[e];simp]
 ·by_cases hbf:b=f
  ·subst hbf;rw[ze]at e;cases e;exact zal hfo
  ·rw[zm hbf]at e;by_cases hbc:b=c'
   ·subst hbc;rw[ze]at e;cases e;exact zdJ hcr
   ·rw[zm hbc]at e;by_cases hbP:b=P
    ·subst hbP;rw[ze]at e;cases e;exact hP'
    ·rw[zm hbP]at e;refine (I.hok b u e).stay (λd v hd g=>hk d v ?_ g) (λd g=>?_) λd xs g=>?_
     ·rcases hd with z | z
      ·rw[z];exact hbP
      ·intro z';rw[z',hP]at z;cases z
     ·rw[old d (I.hok.lt g) (λz=>by rw[z,hP]at g;cases g)];exact g
     ·rw[old d (I.hok.lt g) (λz=>by rw[z,hP]at g;cases g)];exact g
end
end L3
namespace L3
theorem uX{a b:Int}{v:rY}:∀(l:List rY),AJ l->AJ (l ++ [rawInt a,rawInt b,v])
 | [],_=>trivial
 | .int _ _::.int _ _::_::rest,h=>uX rest h
theorem Yb{h h':su}{mg:sk->Option rY}{T:rX}(x:h.BuiltinsAt mg T)(k:∀b o,h.get? b=AM o->h'.get? b=AM o):h'.BuiltinsAt mg T:=by
 obtain⟨bm,o,b1,b2,b3,b4,b5,b6⟩:=x;exact#[bm,o,b1,b2,b3,b4,k _ _ b5,b6]
section
variable{X:Cx}{AR:List (rX × sL)}{σ:L2.St}{H:Hp}{s:rZ}{cc P c:rX}{y:sk}{params:tJ}{body:sr}{scope:sU}{pos:tm}{Q:VK}
theorem JT(hcode:X.env.code=.ref cc)(hC:PySem.W.CodeHd X.base cc P)(hB:X.base.BuiltinsAt X.mg P)(hgP:rS≠P)(hcl:closureFor scope X.env=pure [(y,c)])(hdef:defaultsOf params X.env=([],[]))(I:Inv X AR σ H s)
  (hT:TabOk H P pos (X.env.qual ++ "<lambda>"))
  (h:∀f H',H f=AN->LamAt H' f "<lambda>" (X.env.qual ++ "<lambda>") params body scope [(y,c)]->TabOk H' P pos (X.env.qual ++ "<lambda>")->SamT P H H'->Q (.ref f) H') :
  si (model X.prog X.w) X.A (eval (.Lambda params body scope pos) X.env) (EP X AR σ Q) X.xe s:=by
 refine PySem.W.kla_eval hdef ?_;obtain⟨ps,hP,ht,hh⟩:=hT;have hPo:s.heap.get? P=AM (PySem.W.tabObj ps):=I.hok _ _ hP;have hg:=I.mod.glob.keeps I.bk;have Pl:P<s⁻¹:=I.hok.lt hP;rcases hh with hn | ⟨c',hit,hc'⟩
 ·refine PySem.W.kla_makeFunction (mg:=X.mg) hcl I.ok.glob hg hcode (hC.keeps I.bk) hPo ht hn hgP (Yb hB I.bk) λc' ctv h' tk hx hge hlt hrec htb=>?_;have hsz:s⁻¹<=h'.objs.size:=cT (cM hge hlt)
  have I1:=Inv.grow (P:=P) (c':=c') (f:=h'.objs.size) (more:=(List.toArray [rawInt pos.line,rawInt pos.col,.ref c'])) (tk:=tk) (o:={ cls:=.type "function",data:=.func (bX "<lambda>" (X.env.qual ++ "<lambda>") params body scope [(y,c)] ((X.mg "__name__").getD .none) (.ref c') ctv) }) I hP
   (λb u hb e=>ae _ (hx b u hb e)) (ae _ htb) hge hsz (ay hlt) (hrec.push _) (az _ rfl)
  have hPc:P≠c':=ay (av Pl hge);have hPf:P≠h'.objs.size:=ay (av Pl hsz)
  have atc:(upd (upd (upd H P (.tbl (ps ++ (List.toArray [rawInt pos.line,rawInt pos.col,.ref c'])))) c' (cdE c' (X.env.qual ++ "<lambda>"))) h'.objs.size (fnE h'.objs.size { cls:=.type "function",data:=.func (bX "<lambda>" (X.env.qual ++ "<lambda>") params body scope [(y,c)] ((X.mg "__name__").getD .none) (.ref c') ctv) })) c'=AM (cdE c' (X.env.qual ++ "<lambda>")):=by
   rw[zm (ay hlt),ze]
  refine#[.ref h'.objs.size,_,I1,rfl,h _ _ (I.hok.fresh hsz) #[c',_,ctv,atc,ze] #[ps ++ (List.toArray [rawInt pos.line,rawInt pos.col,.ref c']),?_,?_,.inr #[c',?_,atc]] λb o hb e=>?_]
  ·rw[zm hPf,zm hPc,ze]
  ·rw[fz];exact uX _ ht
  ·rw[fz];exact codeAmong_snoc _ ht hn
  ·have hl:=I.hok.lt e;rw[zm (ay (av hl hsz)),zm (ay (av hl hge)),zm hb];exact e
 ·refine PySem.W.kla_makeFunctionHit (mg:=X.mg) hcl I.ok.glob hg hcode (hC.keeps I.bk) hPo ht hit (Yb hB I.bk) λctv h' tk hk hsz=>?_;have hfr:H h'.objs.size=AN:=I.hok.fresh hsz
  have I1:=I.laid (a:=h'.objs.size) (t':=tk) (h':=h'.push { cls:=.type "function",data:=.func (bX "<lambda>" (X.env.qual ++ "<lambda>") params body scope [(y,c)] ((X.mg "__name__").getD .none) (.ref c') ctv) })
   (o:=fnE h'.objs.size { cls:=.type "function",data:=.func (bX "<lambda>" (X.env.qual ++ "<lambda>") params body scope [(y,c)] ((X.mg "__name__").getD .none) (.ref c') ctv) })
   (λb u e=>ae _ (hk b u e)) hsz (zal (az _ rfl))
  have sm:=zc (o:=fnE h'.objs.size { cls:=.type "function",data:=.func (bX "<lambda>" (X.env.qual ++ "<lambda>") params body scope [(y,c)] ((X.mg "__name__").getD .none) (.ref c') ctv) }) hfr;exact#[.ref h'.objs.size,_,I1,rfl,h _ _ hfr #[c',_,ctv,sm _ _ hc',ze] #[ps,sm _ _ hP,ht,.inr #[c',hit,sm _ _ hc']] λb o _ e=>sm _ _ e]
end
end L3
namespace L3
def zeP(R:V->Hp->Prop):List V->Hp->Prop
 | [v],H=>R v H
 | _,_=>False
theorem UF{R:V->Hp->Prop}:∀{vs:List V} {H:Hp},zeP R vs H->∃v,vs=[v]/\R v H
 | [v],_,h=>#[v,rfl,h]
def zfC(P:rX)(pos:tm)(q:sk)(LA:Hp->rX->Prop):TE:=λσ H Q=>TabOk H P pos q/\∀f H',H f=AN->LA H' f->TabOk H' P pos q->SamT P H H'->Q (.ref f) H'
def KH{α:Type}(K:rW)(F:KeyFam α)(P:rX)(pos:tm)(q:sk)(LA:Hp->rX->Prop)(iy:Nat)(te tb:TE):TE:=λσ H Q=>te σ H λv H1=>TabOk H1 P pos q /\
 ∀f H2,H1 f=AN->LA H2 f->TabOk H2 P pos q->SamT P H1 H2->∃l xs vy,v=.ref l/\SqL K H2 l xs/\xs.length<64/\σ[iy]? = AM (AM vy)/\uU (λx H Q=>LA H f/\tb [AM x,AM vy] H Q) xs [] H2 (Vg K F xs Q)
section
variable{X:Cx}{cc P c:rX}{x p y:sk}{params:tJ}{body e:sr}{scope:sU}{lpos kpos pos pp:tm}{k iy:Nat}{te tb:TE}
theorem zdh(hcode:X.env.code=.ref cc)(hC:PySem.W.CodeHd X.base cc P)(hB:X.base.BuiltinsAt X.mg P)(hgP:rS≠P)(hcl:closureFor scope X.env=pure [(y,c)])(hdef:defaultsOf params X.env=([],[])) :
  PE X (.Lambda params body scope lpos) (zfC P lpos (X.env.qual ++ "<lambda>") λH f=>LamAt H f "<lambda>" (X.env.qual ++ "<lambda>") params body scope [(y,c)]):=by
 intro AR s σ H Q I h;exact JT hcode hC hB hgP hcl hdef I h.1 h.2
theorem Km{α:Type}{F:KeyFam α}(FO:F.Ok)(S:zbh p y scope)(hr:Room (k+3) X.A)(hg:Gl X x)(hm:X.mg x=AN)(hv:sN x=AM (.builtin "sorted"))(ha:PA X [e] (zL te xR))
  (hcode:X.env.code=.ref cc) (hC:PySem.W.CodeHd X.base cc P) (hB:X.base.BuiltinsAt X.mg P) (hgP:rS≠P) (hcl:closureFor scope X.env=pure [(y,c)]) (hdef:defaultsOf params X.env=([],[]))
  (hbind:∀(cv pm ctv u:rY),bindArgs (bX "<lambda>" (X.env.qual ++ "<lambda>") params body scope [(y,c)] pm cv ctv) #[[u],[]]=pure [(p,u)]) (hy:X.N[iy]? = AM y) (hvis:X.env.scope.names.lookup y=AM .cell) (hc:X.env.cells.lookup y=AM c)
  (hb:∀(s:rZ) (H:Hp) (f:rX) (cv:rY),Room k (V0 X [p,y] s H (X.env.qual ++ "<lambda>") scope f cv [(y,c)]).A->PE (V0 X [p,y] s H (X.env.qual ++ "<lambda>") scope f cv [(y,c)]) body tb)
  (hn:x≠"__name__":=by decide) (hdb:(x ==("__debug__" : sk))=AQ:=by decide)
  (hks:(sP pos (sy [#[AM "key",.Lambda params body scope lpos,kpos]] X.env)).filterMap (·.1)=[bF "key"]:=by rfl)
  (hst:sB pos (rT [e] X.env)=(AQ,eval e X.env)::sB pos (rT [] X.env):=by rfl) (hpl:(sB pos (rT [e] X.env)).any (·.1)=AQ:=by rfl)
  (hall:(sP pos (sy [#[AM "key",.Lambda params body scope lpos,kpos]] X.env)).all (·.1.isSome)=AO:=by rfl) (hkw:(sP pos (sy [#[AM "key",.Lambda params body scope lpos,kpos]] X.env)).any (·.1.isNone)=AQ:=by rfl) :
  PE X (.Call (.Name x pp) [e] [#[AM "key",.Lambda params body scope lpos,kpos]] pos) (KH X.K F P lpos (X.env.qual ++ "<lambda>") (λH f=>LamAt H f "<lambda>" (X.env.qual ++ "<lambda>") params body scope [(y,c)]) iy te tb):=by
 intro AR s σ H Q I h;have hlam:PE X (.Lambda params body scope lpos) (zfC P lpos (X.env.qual ++ "<lambda>") λH f=>LamAt H f "<lambda>" (X.env.qual ++ "<lambda>") params body scope [(y,c)]):=zdh hcode hC hB hgP hcl hdef;refine sJ (wD I hg hm hv ?_ hn hdb)
 have h':(zL te xR) σ H (zeP λv H1=>TabOk H1 P lpos (X.env.qual ++ "<lambda>")/\∀f H2,H1 f=AN->LamAt H2 f "<lambda>" (X.env.qual ++ "<lambda>") params body scope [(y,c)]->TabOk H2 P lpos (X.env.qual ++ "<lambda>")->SamT P H1 H2 ->
   ∃l xs vy,v=.ref l/\SqL X.K H2 l xs/\xs.length<64/\σ[iy]? = AM (AM vy)/\uU (λx H Q=>LamAt H f "<lambda>" (X.env.qual ++ "<lambda>") params body scope [(y,c)]/\tb [AM x,AM vy] H Q) xs [] H2 (Vg X.K F xs Q)):=h
 refine callWith_kw (thn (ha pos AR s σ H _ I h') λus s1 ⟨vs,H1,I1,r1,q1⟩=>?_) hst hpl hall hkw;obtain⟨v,rfl,hT,q1⟩:=UF q1;obtain⟨u,rfl,ru⟩:=wq r1
 refine thn ((Ui hlam KN:PK X [#[AM "key",.Lambda params body scope lpos,kpos]] _) pos AR s1 σ H1 (zeP λkv H2=>∃f,kv=.ref f/\LamAt H2 f "<lambda>" (X.env.qual ++ "<lambda>") params body scope [(y,c)] /\
   ∃l xs vy,v=.ref l/\SqL X.K H2 l xs/\xs.length<64/\σ[iy]? = AM (AM vy)/\uU (λx H Q=>LamAt H f "<lambda>" (X.env.qual ++ "<lambda>") params body scope [(y,c)]/\tb [AM x,AM vy] H Q) xs [] H2 (Vg X.K F xs Q)) I1 #[hT,λf H2 a1 a2 a3 a4=>#[f,rfl,a2,q1 f H2 a1 a2 a3 a4]]) λws s2 ⟨zs,H2,I2,r2,q2⟩=>?_
 obtain⟨kv,rfl,f,rfl,hLA,l,xs,vy,rfl,hS,hz,hσ,hk⟩:=UF q2;obtain⟨w',rfl,rw'⟩:=wq r2;cases rw';cases ru;rw[hks];show si _ _ (call (.builtin "sorted") [.ref l] [(bF "key",.ref f)]) _ _ _;refine Uu FO (k:=k+1) hr (λpins' s3 H3 x3 u3 Q3 I3 r3 h3=>?_) I2 hS hz hk;obtain⟨⟨c',pm,ctv,e1,e2⟩,h4⟩:=h3;have hcd:s3.heap.CodeRec (.ref c') (X.env.qual ++ "<lambda>"):=(I3.hok _ _ e1).1;have ho:=(I3.hok _ _ e2).1;exact JJ (k:=k) S hr (hbind _ _ _ _) I3 ho hcd hy hσ hvis hc r3 (hb s3 H3 f (.ref c') (hr.in1.in1.deeper _)) h4
end
end L3
namespace L3
section
variable{K:rW}
theorem SamT.of{T:rX}{H H':Hp}(s:Same H H'):SamT T H H':=λb o _ e=>s b o e
theorem SamT.trans{T:rX}{H H' H'':Hp}(s:SamT T H H')(s':SamT T H' H''):SamT T H H'':=λb o n e=>s' b o n (s b o n e)
theorem SamT.at{T b:rX}{H H':Hp}{ps:Array rY}{o:HO}(s:SamT T H H')(hT:H T=AM (.tbl ps))(e:H b=AM o)(ho:∀qs,o≠.tbl qs):H' b=AM o:=s b o (λz=>by rw[z,hT]at e;cases e;exact ho _ rfl) e
theorem SamT.free{T b:rX}{H H':Hp}{o:HO}(s:SamT T H H')(hT:H' T=AM o)(h:H' b=AN):H b=AN:=by
 cases e:H b with
 | none=>rfl
 | some u =>
  by_cases hb:b=T
  ·rw[hb,hT]at h;cases h
  ·rw[s b u hb e]at h;cases h
theorem SamT.seqL{T a:rX}{H H':Hp}{ps:Array rY}{xs:List V}(s:SamT T H H')(hT:H T=AM (.tbl ps))(h:SqL K H a xs):SqL K H' a xs:=by
 rcases h with (h | ⟨o,h⟩) | h
 ·exact .inl (.inl (s.at hT h λ_ z=>by cases z))
 ·exact .inl (.inr #[o,s.at hT h λ_ z=>by cases z])
 ·exact .inr h
theorem SamT.seqT{T a:rX}{H H':Hp}{ps:Array rY}{xs:List V}(s:SamT T H H')(hT:H T=AM (.tbl ps))(h:SqT K H a xs):SqT K H' a xs:=by
 rcases h with (h | ⟨o,h⟩) | h
 ·exact .inl (.inl (s.at hT h λ_ z=>by cases z))
 ·exact .inl (.inr #[o,s.at hT h λ_ z=>by cases z])
 ·exact .inr h
mutual
theorem Is.samT{T:rX}{H H':Hp}{ps:Array rY}(s:SamT T H H')(hT:H T=AM (.tbl ps)):∀(d:D) (v:V),Is K H d v->Is K H' d v
 | .non,v,h=>by erw[Is]at h ⊢;exact h
 | .bl b,v,h=>by erw[Is]at h ⊢;exact h
 | .int b,v,h=>by erw[Is]at h ⊢;exact h
 | .str b,v,h=>by erw[Is]at h ⊢;exact h
 | .lst l,v,h=>by
  erw[Is]at h ⊢
  obtain⟨a,xs,e1,e2,e3⟩:=h;exact#[a,xs,e1,s.seqL hT e2,Iss.samT s hT l xs e3]
 | .tup l,v,h=>by
  erw[Is]at h ⊢
  obtain⟨a,xs,e1,e2,e3⟩:=h;exact#[a,xs,e1,s.seqT hT e2,Iss.samT s hT l xs e3]
theorem Iss.samT{T:rX}{H H':Hp}{ps:Array rY}(s:SamT T H H')(hT:H T=AM (.tbl ps)):∀(l:List D) (vs:List V),Iss K H l vs->Iss K H' l vs
 | [],vs,h=>by erw[Iss]at h ⊢;exact h
 | d::l,vs,h=>by
  erw[Iss]at h ⊢
  obtain⟨v,r,e1,e2,e3⟩:=h;exact#[v,r,e1,Is.samT s hT d v e2,Iss.samT s hT l r e3]
end
theorem LsA.samT{T a:rX}{H H':Hp}{ps:Array rY}{ds:List D}(h:LsA K H a ds)(s:SamT T H H')(hT:H T=AM (.tbl ps)):LsA K H' a ds:=by
 obtain⟨xs,h1,h2⟩:=h;exact#[xs,s.at hT h1 (λ_ z=>by cases z),Iss.samT s hT _ _ h2]
theorem TabOk.same{H H':Hp}{T:rX}{pos:tm}{q:sk}(h:TabOk H T pos q)(s:Same H H'):TabOk H' T pos q:=by
 obtain⟨ps,h1,h2,h3⟩:=h;refine#[ps,s _ _ h1,h2,?_];rcases h3 with h3 | ⟨c',h4,h5⟩
 ·exact .inl h3
 ·exact .inr #[c',h4,s _ _ h5]
theorem LamAt.same{H H':Hp}{f:rX}{name qual:sk}{params:tJ}{body:sr}{scope:sU}{cl:List (sk × rX)}(h:LamAt H f name qual params body scope cl)(s:Same H H'):LamAt H' f name qual params body scope cl:=by
 obtain⟨c',pm,ctv,h1,h2⟩:=h;exact#[c',pm,ctv,s _ _ h1,s _ _ h2]
end
end L3
namespace L3
section
variable{P:sj}{w:so}{K:rW}{mg mb:sk->Option rY}{CX:CXT}{k:Nat}{fa a T cc:rX}{fd:sf}{x:sk}{sp:Sp}{s₁:rZ}{vs:List rY}{ns:List Int}{ps:Array rY}
theorem YJ(KX:K.In s₁.heap)(hKT:K.lookup T=AN)(hT:s₁.heap.get? T=AM { cls:=.none,data:=.fields ps })(hTc:AE s₁.heap T)(hns:s₁.heap.Ns rS mg)(hb:s₁.heap.Ns builtinsNs mb)(hbb:∀x:sk,x≠"__name__"->mb x=sN x)(hlim:s₁.heap.NoLimit)(hg:s₁.gens=#[])
  (ha:s₁.heap.get? a=AM { cls:=.type "list",data:=.seq vs.toArray }) (hr:Room k callerA)
  (hbm:s₁.heap.BuiltinsAt mg T) (hcd:PySem.W.CodeHd s₁.heap cc T) (F:∀base:su,K.In base->base.Ns rS mg->base.BuiltinsAt mg T->PySem.W.CodeHd base cc T->zQ P w K mg base CX k fa fd [x] sp) (hbind:∀(s:rZ) (u:rY),Am s fd #[[u],[]] [(x,u)])
  (hCX:∀H e s',CX [] H s₁ (λ_ _ _=>False) e s'->False) (H:Hp) (h1:H T=AM (.tbl ps)) (h2:∀b u,H b=AM u->b=T\/(b=a/\K.lookup a=AN/\u=.frz { cls:=.type "list",data:=.seq vs.toArray } (.lst (ns.map V.int))))
  (hok:HOk P w H s₁.heap) (hsp:sp [.ref a] H (λv _=>v=.bl AO) λ_ _ _=>False) :
  tF (model P w) callerA (.call (.ref fa) #[[.ref a],[]]) (λr s'=>r=.ok (.ret (.bool AO))/\OldK s₁.heap s'.heap/\s'.os=s₁.os/\tS s'.gens) s₁:=by
 have stay:∀b o,s₁.heap.get? b=AM o->(b≠T)->(b≠a)->(QP s₁.heap H).get? b=AM o:=λb o e n1 n2=>WD e (by
  cases q:H b with
  | none=>rfl
  | some u =>
   rcases h2 b u q with z | z
   ·exact absurd z n1
   ·exact absurd z.1 n2)
 have nsStay:∀(b:rX) (m:sk->Option rY),s₁.heap.Ns b m->(QP s₁.heap H).Ns b m:=λb m hN=>by
  obtain⟨o,es,ep,e,d,rest⟩:=hN;refine#[o,es,ep,stay b o e (λz=>?_) (λz=>?_),d,rest]
  ·rw[z,hT]at e;cases e;cases d
  ·rw[z,ha]at e;cases e;cases d
 have kStay:K.In (QP s₁.heap H):=λb o e=>by
  have g:=KX b o e;refine WD g ?_
  cases q:H b with
  | none=>rfl
  | some u =>
   rcases h2 b u q with z | z
   ·rw[z,hKT]at e;cases e
   ·rw[z.1,z.2.1]at e;cases e
 have bStay:(QP s₁.heap H).BuiltinsAt mg T:=by
  obtain⟨bm,o,b1,b2,b3,b4,b5,b6,b7,b8⟩:=hbm;refine#[bm,o,b1,b2,b3,b4,stay bm o b5 b4 (λz=>?_),b6,b7,b8];rw[z,ha]at b5;cases b5;simp at b6
 have cStay:PySem.W.CodeHd (QP s₁.heap H) cc T:=by
  obtain⟨o,vs',file,tf,flags,tg,inF,text,tt,c1,c2,c3,c4,c5,c6,c7,c8,c9,c10⟩:=hcd;refine#[o,vs',file,tf,flags,tg,inF,text,tt,stay cc o c1 c10 (λz=>?_),c2,c3,c4,c5,c6,c7,c8,c9,c10];rw[z,ha]at c1;cases c1;simp at c2
 obtain⟨mc,l1,l2⟩:=hlim;have M0:Mod K mg (QP s₁.heap H):={ kin:=kStay,glob:=nsStay _ _ hns,blt:=#[mb,nsStay _ _ hb,hbb],nolimit:=#[mc,nsStay _ _ l1,l2] };have E0:Env0 P w K mg (QP s₁.heap H) callerA [] s₁ H:={ frames:=rfl,mod:=M0,bs:=λb o e=>za3 e,bsz:=Nat.le_of_eq (QR _ _),funs:=trivial,frf:=λb z=>(nomatch (show b ∈ ([]:List rX)from z)),hok:=hok,bare:=.of_eq hg };refine tE ((F _ kStay (nsStay _ _ hns) bStay cStay).run callerA [] s₁ H #[[.ref a],[]] [.ref a] [.ref a] (λv _=>v=.bl AO) (λ_ _ _=>False) hr E0 (hbind s₁ (.ref a)) (.cons rfl .nil) hsp) λr s' hq=>?_;rcases r with e | fl
 ·exact (hCX H e s' hq).elim
 rcases fl with _ | _ | _ | u
 all_goals first | exact False.elim hq | skip
 obtain⟨v,H',e1,e2,un,hok',rv,ev⟩:=hq;have ev':v=V.bl AO:=ev;subst ev';have eu:u=Value.bool AO:=rv;subst eu;obtain⟨more,hT2⟩:=un.tbls T ps h1;have hT3:s'.heap.get? T=AM { cls:=.none,data:=.fields (ps ++ more) }:=hok' T _ hT2
 have each:∀b o,s₁.heap.get? b=AM o->b≠T->s'.heap.get? b=AM o:=λb o e n=>by
  cases q:H b with
  | none=>exact un.keep b o e q (λz=>(nomatch (show b ∈ ([]:List rX)from z))) (λz=>(nomatch z))
  | some ob =>
   rcases h2 b ob q with z | ⟨z,_,zz⟩
   ·exact absurd z n
   ·subst zz;have g:=(hok' b _ (un.frzs b _ _ q)).1;rw[z,ha]at e;cases e;exact g
 refine#[rfl,#[λb o e=>?_,λb o e=>?_],e1,e2]
 ·by_cases hbT:b=T
  ·subst hbT;rw[hT]at e;cases e;exact .inr (.inl #[hTc,rfl,ps,more,rfl,hT3])
  ·exact .inl (each b o e hbT)
 ·by_cases hbT:b=T
  ·subst hbT;exact#[_,hT3]
  ·exact#[o,each b o e hbT]
theorem QE(KX:K.In s₁.heap)(hKT:K.lookup T=AN)(hT:s₁.heap.get? T=AM { cls:=.none,data:=.fields ps })(hTc:AE s₁.heap T)(hns:s₁.heap.Ns rS mg)(hb:s₁.heap.Ns builtinsNs mb)(hbb:∀x:sk,x≠"__name__"->mb x=sN x)(hlim:s₁.heap.NoLimit)(hg:s₁.gens=#[])
  (ha:s₁.heap.get? a=AM { cls:=.type "list",data:=.seq vs.toArray }) (hi:Az vs ns) (hl:ns.length<=rV) (hr:Room k callerA)
  (hbm:s₁.heap.BuiltinsAt mg T) (hcd:PySem.W.CodeHd s₁.heap cc T) (F:∀base:su,K.In base->base.Ns rS mg->base.BuiltinsAt mg T->PySem.W.CodeHd base cc T->zQ P w K mg base CX k fa fd [x] sp) (hbind:∀(s:rZ) (u:rY),Am s fd #[[u],[]] [(x,u)])
  (hCX:∀H e s',CX [] H s₁ (λ_ _ _=>False) e s'->False) (hsp:∀H:Hp,H T=AM (.tbl ps)->SqL K H a (ns.map V.int)->sp [.ref a] H (λv _=>v=.bl AO) λ_ _ _=>False) :
  tF (model P w) callerA (.call (.ref fa) #[[.ref a],[]]) (λr s'=>r=.ok (.ret (.bool AO))/\OldK s₁.heap s'.heap/\s'.os=s₁.os/\tS s'.gens) s₁:=by
 have rv:=YE hi;have hlv:=hi.length
 have hTa:a≠T:=λz=>by
  rw[z,hT]at ha;cases ha
 rcases hk:K.lookup a with _ | o
 ·refine YJ (ns:=ns) KX hKT hT hTc hns hb hbb hlim hg ha hr hbm hcd F hbind hCX (upd (upd (λ_=>AN) T (.tbl ps)) a (.frz { cls:=.type "list",data:=.seq vs.toArray } (.lst (ns.map V.int)))) ?_ (λb u e=>?_) (λb u e=>?_) ?_
  ·rw[zm (Ne.symm hTa),ze]
  ·by_cases hba:b=a
   ·subst hba;rw[ze]at e;cases e;exact .inr #[rfl,hk,rfl]
   ·rw[zm hba]at e;by_cases hbT:b=T
    ·exact .inl hbT
    ·rw[zm hbT]at e;cases e
  ·by_cases hba:b=a
   ·subst hba;rw[ze]at e;cases e;exact#[ha,by rw[ac];exact hl,vs,_,rv,ha]
   ·rw[zm hba]at e;by_cases hbT:b=T
    ·subst hbT;rw[ze]at e;cases e;exact hT
    ·rw[zm hbT]at e;cases e
  ·exact hsp _ (by rw[zm (Ne.symm hTa),ze]) (.inl (.inr #[_,ze]))
 ·have e:=KX a o hk;rw[ha]at e;cases e;refine YJ (ns:=ns) KX hKT hT hTc hns hb hbb hlim hg ha hr hbm hcd F hbind hCX (upd (λ_=>AN) T (.tbl ps)) ze (λb u e=>?_) (λb u e=>?_) (hsp _ ze (.inr #[_,vs.toArray,_,hk,rfl,rfl,rfl,by rw[aj,hlv];exact hl,by simpa using rv]))
  ·by_cases hbT:b=T
   ·exact .inl hbT
   ·rw[zm hbT]at e;cases e
  ·by_cases hbT:b=T
   ·subst hbT;rw[ze]at e;cases e;exact hT
   ·rw[zm hbT]at e;cases e
end
noncomputable def zb6(K:rW):Bool:=K.all λp=>match p.2 with
 | ⟨.none,_,.fields _,_⟩=>AQ
 | _=>AO
theorem Wp{T:rX}{o:sL}:∀{K:rW},K.lookup T=AM o->(T,o) ∈ K
 | [],h=>by cases h
 | p::K,h=>by
  rw[aV]at h;by_cases hp:T=p.1
  ·rw[show (T == p.1)=AO by simpa using hp]at h;cases h;rw[hp];exact aB
  ·rw[show (T == p.1)=AQ by simpa using hp]at h;exact ar _ (Wp h)
theorem Kc{K:rW}{T:rX}{ps:Array rY}{h:su}(e:zb6 K=AO)(X:K.In h)(hT:h.get? T=AM { cls:=.none,data:=.fields ps }):K.lookup T=AN:=by
 cases q:K.lookup T with
 | none=>rfl
 | some o =>
  have g:=X _ _ q;rw[hT]at g;cases g;have:=Bd.mp e _ (Wp q);simp at this
theorem walk_ofT{l:PySem.W.OpenLaw}{n k:Nat}{q:sj}{loose:List sk}{XP:(sk->Option rY)->su->Prop}{YP:so->su->Prop}{d din:DefRec}{K:Params->rW}{CX:so->CXT}{sp:so->rX->Sp}{x:sk}
  (hn:l.most=AM n) (hn2:n<=rV) (hdf:d.params.defaults=[]) (hr:Room k callerA) (hdin:din ∈ recsOf q)
  (hY:∀(w:so) (h:su),YP w h->(K w.params).In h) (hno:∀w:so,zb6 (K w.params)=AO)
  (F:∀(w:so) (mg:sk->Option rY) (fa:rX) (h:su) (cc T:rX),(K w.params).In h->h.Ns rS mg->mg d.name=AM (.ref fa)->(∃a o fd,mg din.name=AM (.ref a)/\h.get? a=AM o/\o.data=.func fd/\fd.code=.ref cc)->rS≠T ->
   ∃fd:sf,(∀(s:rZ) (u:rY),Am s fd #[[u],[]] [(x,u)]) /\
    ∀base:su,(K w.params).In base->base.Ns rS mg->base.BuiltinsAt mg T->PySem.W.CodeHd base cc T->zQ l.prog w (K w.params) mg base (CX w) k fa fd [x] (sp w T))
  (hsp:∀(w:so) (H:Hp) (a:rX) (ns:List Int) (T:rX),ns.length<=n->(∀z ∈ ns,uB z)->H T=AM (.tbl #[])->SqL (K w.params) H a (ns.map V.int)->sp w T [.ref a] H (λv _=>v=.bl AO) λ_ _ _=>False)
  (hCX:∀(w:so) (H:Hp) (s:rZ) (e:rY) (s':rZ),CX w [] H s (λ_ _ _=>False) e s'->False) :
  PySem.W.WalkO q loose XP YP l.row.toRowW d [] (λf vs=>fV f vs):=by
 refine Yw hn hdf λw s₀ s₁ mg mb fa o pm cd doc a vs ns G Y ho hd hcd hmg hobj hints hlen hb' hg=>?_;have X0:=hY w _ Y;obtain⟨ai,oi,fdi,cc,T,m1,m2,m3,m4,m5,m6⟩:=G.T.tab din hdin;have hcd':PySem.W.CodeHd s₁.heap cc T:=PySem.W.CodeHd.of m5 m6;have hTo:s₁.heap.get? T=AM { cls:=.none,data:=.fields #[] }:=m6.2;have hTc:AE s₁.heap T:=m6.isCodeTable
 have hgT:rS≠T:=λz=>by
  obtain⟨o,es,ep,e,hd',_⟩:=G.T.g;rw[z,hTo]at e;cases e;cases hd'
 have hbm:s₁.heap.BuiltinsAt mg T:=by
  obtain⟨bm,ob,b1,b2,b3,b4,b5,b6⟩:=G.T.bmain;refine#[bm,ob,b1,b2,λz=>?_,λz=>?_,b3,b4,b5,b6]
  ·obtain⟨o,es,ep,e,hd',_⟩:=G.T.g;rw[z,e]at b3;cases b3;rw[hd']at b6;cases b6
  ·rw[z,hTo]at b3;cases b3;cases b4
 obtain⟨fd,hbd,hF⟩:=F w mg fa _ cc T X0 G.T.g hmg #[ai,oi,fdi,m1,m2,m3,m4] hgT;exact QE (T:=T) (ps:=#[]) X0 (Kc (hno w) X0 hTo) hTo hTc G.T.g G.T.b G.T.builtins G.T.nolimit hg hobj hints (aM hlen hn2) hr hbm hcd' hF hbd (λH e s'=>hCX w H s₁ e s') λH h1 h2=>hsp w H a ns T hlen hb' h1 h2
theorem zaL{P:sj}{w:so}{K:rW}{mg:sk->Option rY}{base:su}{x qual:sk}{st:sv}{f cc:rX}{fd:sf}{N ps:List sk}{k:Nat}{sp:Sp}(F:Fun K x qual st f fd)(hcc:fd.code=.ref cc)(S:zk N ps (zh st))(len:∀vs H Q E,sp vs H Q E->vs.length=ps.length)
  (hbody:∀(A:sq) (outer:List Ad) (s:rZ) (H:Hp) (vs:List V) (Q:VK) (E:XK),Room k (A.deeper (tR qual (zh st) s⁻¹ f (.ref cc)))->sp vs H Q E ->
   ∃t,PSs (qt CX0 P w K mg base N qual (zh st) f (.ref cc) A outer s H E).nox (yc st) t/\t { nx:=λ_ H'=>Q .non H',rt:=Q } (start N vs) H):zQ P w K mg base CX0 (k+1) f fd ps sp:=by
 obtain⟨oc,od,kV,doc,pm,an,cdv,ct,osl,rfl,lk,hcd⟩:=F.ex;have e:cdv=.ref cc:=hcc;subst e;refine JV lk hcd S len λA outer s H vs Q E hr hsp=>?_;obtain⟨t,h,q⟩:=hbody A outer s H vs Q E hr hsp;exact#[t,h.nox,q]
end L3
namespace L3
section
variable{X:Cx}{AR:List (rX × sL)}{σ:L2.St}{H:Hp}{s:rZ}{cc P c:rX}{y:sk}{params:tJ}{body:sr}{scope:sU}{pos:tm}{Q:VK}
end
section
variable{X:Cx}{cc P c:rX}{x p y:sk}{params:tJ}{body e:sr}{scope:sU}{lpos kpos pos pp:tm}{k iy:Nat}{te tb:TE}
end
end L3
namespace L3
section
variable{P:sj}{w:so}{K:rW}{mg mb:sk->Option rY}{CX:CXT}{k:Nat}{fa a T cc T' cc':rX}{fd:sf}{x:sk}{sp:Sp}{s₁:rZ}{vs:List rY}{ns:List Int}
end
end L3
namespace PySem
namespace F
end F
section
variable{prog:sj}{w:so}{A:sq}{E:rY->rZ->Prop}{s:rZ}
def Heap.IsRevS(h:su)(a:rX)(x:sk)(t:tT)(i:Int):Prop:=∃o,h.get? a=AM o/\o.cls=.type "reversed"/\o.data=.fields (List.toArray [.str x t,rawInt i])
theorem Heap.IsRevS.typeIs{a:rX}{x:sk}{t:tT}{i:Int}(z:s.heap.IsRevS a x t i):s.TypeIs (.ref a) "reversed":=let #[o,ho,hc,_]:=z; #[o,ho,hc]
theorem Heap.IsRevS.at{h h':su}{a:rX}{x:sk}{t:tT}{i:Int}(z:h.IsRevS a x t i)(e:∀o,h.get? a=AM o->h'.get? a=AM o):h'.IsRevS a x t i:=let #[o,ho,r]:=z; #[o,e _ ho,r]
end
section
variable{prog:sj}{w:so}{A:sq}{E:rY->rZ->Prop}{s:rZ}
end
end PySem
namespace L3
section
variable{X:Cx}{o a:sr}{to:TE}{ta:TA}{apos cpos p pos2:tm}
end
end L3
namespace L2
noncomputable def Itk(lo k:Int)(n:Nat):It:=#[λi _=>i<n,λi H x H'=>H'=H/\x=.int (lo+i * k),λi _=>n<=i]
theorem Xk{P:sj}{w:so}{K:rW}{tg:sr}(it:rX)(lo k:Int)(n:Nat):JP P w K tg (Itk lo k n) [it] it (λi h=>Al h it (lo+(i:Nat) * k) ((n:Int) - (i:Nat)) k) where
 mem:=by simp
 obj:=λi h st b hb=>by
  have e:b=it:=by simpa using hb
  subst e
  exact#[_,st,λv z=>by
   have z':Data.fields _=Data.cell v:=z
   cases z']
 keep:=λi h h' st k=>k it (by simp) _ st
 item:=by
  intro X hP hw hK hc i AR s σ H E I hf st hg;subst hP hw hK;obtain⟨f0,f1,f2,f3,f4,f5⟩:=hf it (by simp);have W:=Walks.range (prog:=X.prog) (w:=X.w) (I.ok.hd hc) it lo k n;refine W.item i s _ _ hg st λv h' tk hv st' kk=>?_;obtain⟨t,rfl⟩:=hv;have I1:Inv X AR σ H { s with heap:=h',toks:=tk }:=I.turned (λb o hb e=>kk b o (by simpa using hb) e) f0 f1 f3 f4 f5;exact#[_,rfl,QT (s:={ s with heap:=h',toks:=tk }) (n:="range_iterator") st' rfl rfl ∅ #[.int (lo+i * k),H,I1,#[t,rfl],#[rfl,rfl],st',λb hb=>(hf b hb).1]]
 done:=by
  intro X hP hw hK hc i AR s σ H E I hf st hg;subst hP hw hK;obtain⟨f0,f1,f2,f3,f4,f5⟩:=hf it (by simp);exact tZ (I.ok.hd hc) st (by have:n<=i:=hg;lia) λh' eb=>#[rfl,I.turned (t':=s.toks) (λb o hb e=>eb b o hb e) f0 f1 f3 f4 f5]
 self:=λ_ _ _ _ _ st h=>Aa st h
section
variable{X:Cx}{tg:sr}
theorem zaf{i j k:Int}(h1:0<=i)(h2:i<=2 ^ 30)(h3:0<=j)(h4:j<=2 ^ 30)(h5:0<k)(h6:k<2 ^ 30):0<=Builtin.Range.rangeSize i j k/\Builtin.Range.rangeSize i j k<2 ^ 30+1:=by
 unfold Builtin.Range.rangeSize;rw[if_pos h5];split
 ·have a:=Int.ediv_nonneg (a:=j - i - 1) (b:=k) ⋯ ⋯;have b:=Int.ediv_le_self (a:=j - i - 1) k ⋯;lia
 ·lia
theorem zaI{i j k:Int}(h1:0<=i)(h2:i<=2 ^ 30)(h3:0<=j)(h4:j<=2 ^ 30)(h5:0<k)(h6:k<2 ^ 30):Builtin.Range.small i j k=AO:=by
 obtain⟨a,b⟩:=zaf h1 h2 h3 h4 h5 h6;unfold Builtin.Range.small
 erw[Builtin.Range.rangeFitsLong,bE,Bool.or_eq_true,decide_eq_true_eq,beq_iff_eq,h5,gt_iff_lt,if_true]
 lia
theorem QK{AR:List (rX × sL)}{σ:St}{H:Hp}{s:rZ}{R:It->Hp->Prop}{E:rY->rZ->Prop}{lo hi k:Int}{t u v:tT}{tk:Nat}(I:Inv X AR σ H s)(h1:0<=lo)(h2:lo<=2 ^ 30)(h3:0<=hi)(h4:hi<=2 ^ 30)(h5:0<k)(h6:k<2 ^ 30)
  (q:R (Itk lo k (Builtin.Range.rangeSize lo hi k).toNat) H):si (model X.prog X.w) X.A (pyIter (.ref s⁻¹)) (PIE X AR σ tg R) E { s with heap:=s.heap.push { cls:=.type "range",data:=.fields (List.toArray [.int lo t,.int hi u,.int k v]) },toks:=tk }:=by
 refine Ar (IsRange.new ..) (zaI h1 h2 h3 h4 h5 h6) ?_;have I1:Inv X AR σ H { s with heap:=s.heap.push { cls:=.type "range",data:=.fields (List.toArray [.int lo t,.int hi u,.int k v]) },toks:=tk }:=I.kept λb o e=>ae _ e
 refine#[(s.heap.push { cls:=.type "range",data:=.fields (List.toArray [.int lo t,.int hi u,.int k v]) }).objs.size,[(s.heap.push { cls:=.type "range",data:=.fields (List.toArray [.int lo t,.int hi u,.int k v]) }).objs.size],_,_,H,rfl,
  I1.kept (t':=tk) λb o e=>ae _ e,Xk _ lo k (Builtin.Range.rangeSize lo hi k).toNat,?_,λb hb=>?_,q]
 ·have e1:lo+((0:Nat):Int) * k=lo:=by simp
  have e2:(((Builtin.Range.rangeSize lo hi k).toNat:Nat):Int) - ((0:Nat):Int)=Builtin.Range.rangeSize lo hi k:=by have:=(zaf h1 h2 h3 h4 h5 h6).1;lia
  show Al _ _ (lo+((0:Nat):Int) * k) ((((Builtin.Range.rangeSize lo hi k).toNat:Nat):Int) - ((0:Nat):Int)) k;rw[e1,e2];exact az _ rfl
 ·have e:b=(s.heap.push { cls:=.type "range",data:=.fields (List.toArray [.int lo t,.int hi u,.int k v]) }).objs.size:=by simpa using hb
  subst e;exact I1.fpOk (al _) (I1.hok.fresh (al _))
def zc4(ta:TA):TI:=λσ H R=>ta σ H λvs H1=>∃i j k:Int,vs=[.int i,.int j,.int k]/\(0<=i/\i<=2 ^ 30/\0<=j/\j<=2 ^ 30/\0<k/\k<2 ^ 30)/\R (Itk i k (Builtin.Range.rangeSize i j k).toNat) H1
theorem U1{a b c:sr}{ta:TA}{p pos:tm}(hg:Gl X "range")(hm:X.mg "range" = AN)(ha:PA X [a,b,c] ta)(hs:rT [a,b,c] X.env=[(AQ,eval a X.env),(AQ,eval b X.env),(AQ,eval c X.env)]:=by rfl)(hs2:rT [b,c] X.env=[(AQ,eval b X.env),(AQ,eval c X.env)]:=by rfl) :
  PI X tg (.Call (.Name "range" p) [a,b,c] [] pos) (zc4 ta):=by
 intro AR s σ H R I h;refine AL (wD I hg hm boot_range (bp (thn (ha pos AR s σ H _ I h) λus s1 ⟨vs,H1,I1,r1,q1⟩=>?_) (by rw[hs,hs2]) (by rw[hs2];rfl)));obtain⟨i,j,k,e,⟨q1,q2,q3,q4,q5,q6⟩,q⟩:=q1;subst e
 cases r1 with
 | cons r rr =>
  cases rr with
  | cons r' rr =>
   cases rr with
   | cons r'' rr =>
    cases rr;obtain⟨t,rfl⟩:=r;obtain⟨t',rfl⟩:=r';obtain⟨t'',rfl⟩:=r'';exact call_range_3 ⋯ (QK I1 q1 q2 q3 q4 q5 q6 q) (Or.inl (PyProof.noPylong_small ⋯))
end
end L2
namespace L3
open PySem L2
def CompK(lo k:Int)(n:Nat)(g:TG)(tt:TT)(te:TE)(own:Nat)(ix:List Nat)(σ:L2.St)(H1:Hp)(Q:VK)(D:rX):Prop:=XD (Itk lo k n) g tt te own ix σ H1 Q D
theorem zdg{ta:TA}{g:TG}{tt:TT}{te:TE}{own:Nat}{ix:List Nat}{σ:L2.St}{H:Hp}{Q:VK}:jY (zc4 ta) g tt te own ix σ H Q=ta σ H λvs H1=>∃i j k:Int,vs=[.int i,.int j,.int k]/\(0<=i/\i<=2 ^ 30/\0<=j/\j<=2 ^ 30/\0<k/\k<2 ^ 30)/\∀D,H1 D=AN->CompK i k (Builtin.Range.rangeSize i j k).toNat g tt te own ix σ H1 Q D:=rfl
section
variable{g:TG}{tt:TT}{te:TE}{own:Nat}{ix:List Nat}{σ:L2.St}{H1:Hp}{Q:VK}{D:rX}
theorem CompK.by{lo k:Int}{n:Nat}(Pv:Nat->List V->Hp->Prop)(h0:Pv 0 [] (upd H1 D (.lst [])))
  (hs:∀i AT H',i<n->Pv i AT H'->g (.int (lo+i * k)) (vt σ own ix) H' λσ3 H3=>yU (vt σ own ix) σ3/\tt σ3 H3 λb H4=>if b=AO then
   te σ3 H4 λv H5=>H5 D=AM (.lst AT)/\AT.length<rV/\CNx n i Pv (AT ++ [v]) (upd H5 D (.lst (AT ++ [v])))else CNx n i Pv AT H4)
  (hd:∀AT H',Pv n AT H'->Q (.ref D) H'):CompK lo k n g tt te own ix σ H1 Q D:=by
 refine#[λi m AT H=>m=n - i/\i<=n/\Pv i AT H,#[n,by simp,aE _,h0],?_];rintro i m AT H' ⟨rfl,hi,p⟩;by_cases hlt:i<n
 ·refine .inr #[hlt,λx H2 y=>?_];obtain⟨e,y⟩:=y;subst e y;exact hs i AT _ hlt p
 ·have e:i=n:=⋯;subst e;exact .inl #[al _,hd AT H' p]
end
end L3
namespace L3
open PySem.AutoSeq1 (wpAny_loadPart')
open MeetsSeq MeetsSeq2 MeetsSeq3 SeqRoads2 SeqAt
section
variable{X:Cx}{AR:List (rX × sL)}{σ:St}{H:Hp}{s:rZ}
end
end L3
namespace L3
section
variable{prog:sj}{w:so}{A:sq}{R:Ak->rZ->Prop}{I:rX}{fp wr:List rX}{G:Array AA->Array AA->Prop}{n:Nat}{P:Nat->rY->Prop}{St:Nat->rZ->Prop}
end
section
variable{prog:sj}{w:so}{A:sq}{E:rY->rZ->Prop}{s:rZ}
end
end L3
namespace L3
section
variable{X:Cx}
end
end L3
namespace L3
section
variable{g:TG}{tt:TT}{te:TE}{own:Nat}{ix:List Nat}{σ:L2.St}{H1:Hp}{Q:VK}{D:rX}
end
end L3
namespace L3
theorem XH{α:Type}[DecidableEq α](k:α)(v:rY)(x:α):∀kvs:List (α × rY),(kvs.map λkv=>if kv.1=k then (kv.1,v)else kv).find? (λkv=>kv.1=x)=(kvs.find? λkv=>kv.1=x).map λkv=>if kv.1=k then (kv.1,v)else kv
 | []=>rfl
 | p::kvs=>by
  have e:(if p.1=k then (p.1,v)else p).1=p.1:=by split <;> rfl
  rw[ao,List.find?_cons,List.find?_cons,XH k v x kvs]
  erw[e]
  by_cases h:p.1=x
  ·simp [h]
  ·simp [h]
theorem W4{α:Type}[DecidableEq α](kvs:List (α × rY))(k:α)(v:rY)(x:α):valueAt (stored kvs k v) x=if x=k then AM v else valueAt kvs x:=by
 unfold stored valueAt;split
 ·rename_i h;rw[XH];by_cases e:x=k
  ·subst e;rw[if_pos rfl];obtain⟨p,hp,hk⟩:=Bl.mp h
   cases hf:kvs.find? λkv=>kv.1=x with
   | none =>
    have:=Bm.mp hf p hp;exact absurd hk this
   | some q =>
    have hq:=dF hf;have hq':q.1=x:=by simpa using hq
    simp [hq']
  ·rw[if_neg e]
   cases hf:kvs.find? λkv=>kv.1=x with
   | none=>rfl
   | some q =>
    have hq:=dF hf;have hq':q.1=x:=by simpa using hq
    have:¬ q.1=k:=λz=>e (hq'.symm.trans z);simp [this]
 ·rename_i h;rw[List.find?_append];by_cases e:x=k
  ·subst e;rw[if_pos rfl]
   have:kvs.find? (λkv=>kv.1=x)=AN:=by
    rw[dZ];intro p hp hk;exact h (Bl.mpr #[p,hp,hk])
   rw[this];simp
  ·have e':¬ k=x:=λz=>e z.symm;rw[if_neg e];simp [e']
section
variable{X:Cx}{pos:tm}
end
end L3
namespace L3
noncomputable def jH(P:sj)(w:so)(a:rX)(m:sk->Option V)(n:Nat):HO:=.ext λh=>(a == sysModules)=AQ/\∃kvs:List (sk × rY),h.DictOf (cZ P w) a kvs/\kvs.length<=n/\∀k,RelO (m k) (valueAt kvs k)
theorem Q7{P:sj}{w:so}{H:Hp}{h:su}{a:rX}{m:sk->Option V}{n:Nat}{kvs:List (sk × rY)}(hs:(a == sysModules)=AQ)(d:h.DictOf (cZ P w) a kvs)(hl:kvs.length<=n)(r:∀k,RelO (m k) (valueAt kvs k)):ObjOk P w H h a (jH P w a m n) :=
 #[#[hs,kvs,d,hl,r],(let #[o,es,ep,ho,_]:=d; #[o,ho]),λh1 h2 ⟨hs,kvs,⟨o,es,ep,ho,rest⟩,z⟩ k=>#[hs,kvs,#[o,es,ep,k _ ho,rest],z]]
section
variable{X:Cx}{pos:tm}
theorem Inv.beyond{AR:List (rX × sL)}{σ:L2.St}{H:Hp}{s:rZ}(I:Inv X AR σ H s):(s⁻¹ == sysModules)=AQ:=by
 obtain⟨o,es,ep,e,_⟩:=I.ok.mod.glob;have h1:=aq e;have h2:=I.ok.bsz;have h3:=I.sz;have h4:1<=rS:=∅;have h5:1<s⁻¹:=av (cM h4 h1) (aM h2 h3);rw[beq_eq_false_iff_ne];intro z;exact bZ h5 z
def zdQ(P:sj)(w:so):TE:=λ_ H Q=>∀p,H p=AN->Q (.ref p) (upd H p (jH P w p (λ_=>AN) 0))
theorem zbq:PE X (.Dict [] [] pos) (zdQ X.prog X.w):=λAR s σ H Q I h =>
 wpAny_Dict_empty #[.ref s⁻¹,_,I.laid (a:=s⁻¹) (t':=s.toks) (λ_ _ q=>ae _ q) (al _) (Q7 (m:=λ_=>AN) (Inv.beyond I) (Heap.DictOf.new s.heap) (al _) λ_=>trivial),rfl,h _ (I.hok.fresh (al _))]
theorem Inv.tdic{AR:List (rX × sL)}{σ:L2.St}{H:Hp}{s:rZ}{a:rX}{m:sk->Option V}{n:Nat}(I:Inv X AR σ H s)(h:H a=AM (jH X.prog X.w a m n)):(a == sysModules)=AQ/\∃kvs:List (sk × rY),s.heap.DictOf (cZ X.prog X.w) a kvs/\kvs.length<=n/\∀k,RelO (m k) (valueAt kvs k):=(I.hok _ _ h).1
def zeh(P:sj)(w:so):R2:=λx y H Q=>∃a m n k v,x=.ref a/\y=.str k/\H a=AM (jH P w a m n)/\m k=AM v/\Q v H
theorem zbG:IxR X (zeh X.prog X.w):=by
 intro value slice AR s σ H x y v u Q I rx ry h hs;obtain⟨a,m,n,k,z,rfl,rfl,ha,hk,q⟩:=h;cases rx;obtain⟨t,rfl⟩:=ry;obtain⟨_,kvs,dd,hl,r⟩:=Inv.tdic I ha;obtain⟨w',hw,rw'⟩:=RelO.some_of (v:=z) (o:=valueAt kvs k) (by rw[<- hk];exact r k);exact tail_any dd.typeIs slot_dict_getitem.lookup (wpAny_getItem_of (knd:=cZ X.prog X.w) (strKind_is _ _ _ _) dd.mapOf hw #[z,H,I.tok _,rw',q]) hs
def zdu(P:sj)(w:so):V->V->V->Hp->(Hp->Prop)->Prop:=λo i v H Q=>∃a m n k,o=.ref a/\i=.str k/\H a=AM (jH P w a m n)/\n<=100000/\Q (upd H a (jH P w a (λx=>if x=k then AM v else m x) (n+1)))
theorem Kw:ze2 X (zdu X.prog X.w):=by
 intro AR s σ H o i v ov iv u Q I ro ri rv h;obtain⟨a,m,n,k,rfl,rfl,ha,hn,q⟩:=h;cases ro;obtain⟨t,rfl⟩:=ri;obtain⟨hsm,kvs,dd,hl,r⟩:=Inv.tdic I ha;have s16:=zO;refine wpAny_setItem_pairs (knd:=cZ X.prog X.w) (hsz:=by lia) (strKind_is _ _ _ _) dd λh' dd' hs=>#[_,?_,q];have he:∃q,h'.get? a=AM q:=let #[q,_,_,hq,_]:=dd'; #[q,hq];refine I.write (x:=a) (e:=a) (by rw[ha];exact True.intro) (.inl rfl) (λb q hb z=>(hs.2 b hb).trans z) he (Q7 hsm dd' (aM (stored_length_le _ _ _) ⋯) λx=>?_);rw[W4];by_cases e:x=k
 ·rw[if_pos e,if_pos e];exact rv
 ·rw[if_neg e,if_neg e];exact r x
def zcZ(P:sj)(w:so):R2:=λx y H Q=>∃a m n k,x=.str k/\y=.ref a/\H a=AM (jH P w a m n)/\Q (.bl (m k).isNone) H
theorem Jm:OpR X (sw .NotIn) (zcZ X.prog X.w):=by
 intro AR s σ H x y v u Q I rx ry h;obtain⟨a,m,n,k,rfl,rfl,ha,q⟩:=h;obtain⟨t,rfl⟩:=rx;cases ry;obtain⟨hsm,kvs,dd,hl,r⟩:=Inv.tdic I ha;refine wpAny_notIn_of (knd:=cZ X.prog X.w) (strKind_is _ _ _ _) hsm dd.mapOf ?_
 have e:(!(valueAt kvs k).isSome)=(m k).isNone:=by
  have:=r k
  cases hm:m k with
  | none =>
   cases hv:valueAt kvs k with
   | none=>rfl
   | some z=>rw[hm,hv]at this;exact this.elim
  | some z0 =>
   cases hv:valueAt kvs k with
   | none=>rw[hm,hv]at this;exact this.elim
   | some z=>rfl
 rw[e];exact#[.bl _,H,I.tok _,rfl,q]
end
end L3
namespace L3
section
variable{X:Cx}{scope:sU}{own caps:List sk}{ix:List Nat}{elt tg iter:sr}{ifs:List sr}{pos:tm}{wi:TI}{g:TG}{tt:TT}{te:TE}
theorem uW{EX:XK}(hc:X.calm=AO)(S:j7 X scope own caps ix)
  (hg:∀cl C AR s3 H3 fp,PG (yt X scope cl C (own ++ caps) AR s3 H3 fp λ_ _=>False) tg g)
  (ht:∀cl C AR s3 H3 fp xe,XE (yt X scope cl C (own ++ caps) AR s3 H3 fp xe) EX->PTs (yt X scope cl C (own ++ caps) AR s3 H3 fp xe) ifs tt)
  (hst:X.stack=X.env::X.outer/\X.env.frame=AM X.env.locals) (hxe:XE X EX) (he:∀cl C AR s3 H3 fp xe,XE (yt X scope cl C (own ++ caps) AR s3 H3 fp xe) EX->PE (yt X scope cl C (own ++ caps) AR s3 H3 fp xe) elt te)
  {cl:List (sk × rX)} (hc1:∀y c,cl.lookup y=AM c->X.env.cells.lookup y=AM c) (hc2:∀y,(y,NameKind.free) ∈ scope.names->∃c,cl.lookup y=AM c)
  {AR:List (rX × sL)} {σ:St} {H2:Hp} {s2:rZ} {Q:VK} {it:rX} {fp:List rX} {tn:Nat->su->Prop} {J:It} (I2:Inv X AR σ H2 s2) (T:JP X.prog X.w X.K tg J fp it tn) (st2:tn 0 s2.heap) (f2:∀b ∈ fp,wj X AR H2 b)
  (q:∀D,H2 D=AN->∃W:Nat->Nat->List V->Hp->Prop,(∃m,W 0 m [] (upd H2 D (.lst []))) /\
   ∀i m AT H',W i m AT H'->(J.stop i H'/\Q (.ref D) H')\/(J.go i H'/\∀x H2,J.yld i H' x H2->g x (vt σ own.length ix) H2 λσ3 H3=>yU (vt σ own.length ix) σ3/\tt σ3 H3 λb H4=>if b=AO then
    te σ3 H4 λv H5=>H5 D=AM (.lst AT)/\AT.length<rV/\∃m',m'<m/\W (i+1) m' (AT ++ [v]) (upd H5 D (.lst (AT ++ [v])))
    else ∃m',m'<m/\W (i+1) m' AT H4))
  {RR:rY->rX->Ak->rZ->Prop} {E:rY->rZ->Prop}
  (hRR:∀D C m s' H',H2 D=AN->s'.heap.Ns C m->wj X AR H' C->Inv X AR σ H' s'->Q (.ref D) H'->RR (.ref D) C (.ok .next) s')
  (hRE:∀D C m s' x,s'.heap.Ns C m->(∀h',Heap.SameBut C s'.heap h'->∀cenv:Ad,cenv.locals=C->si (model X.prog X.w) X.A (fF "comprehension.variables-let-go" x cenv:AF rY) (λ_ _=>False) X.xe { s' with heap:=h' })->RR (.ref D) C (.error x) s') :
  si (model X.prog X.w) X.A (newList []) (λAT s3=>si (model X.prog X.w) X.A (newFunctionEnv scope X.env.globals cl [] X.env.qual AN .none (AM X.env)) (λcenv s4 =>
   tF (model X.prog X.w) X.A (.compStart (.ListComp elt [#[tg,iter,ifs,0]] scope pos) 0 (.ref it) AT { cenv with scope:=relabel scope X.env }) (RR AT cenv.locals) s4) E s3) E s2:=by
 have hD:H2 s2⁻¹=AN:=I2.hok.fresh (al _);obtain⟨W,⟨m0,w0⟩,turn⟩:=q _ hD;refine Au (Ag S.nocell (by intro y hy;simp at hy) (λh1 hns1 hsb1=>?_) S.kind);dsimp only at hns1 hsb1 ⊢
 have I3:Inv X AR σ (upd H2 s2⁻¹ (.lst [])) { s2 with heap:=s2.heap.push { cls:=.type "list",dict:=AN,data:=.seq ([]:List rY).toArray } } :=
  I2.lnew (its:=[]) (t':=s2.toks) .nil (aE _)
 generalize hs3:({ s2 with heap:=s2.heap.push { cls:=.type "list",dict:=AN,data:=.seq ([]:List rY).toArray } }:rZ)=s3 at I3;have e3:s2.heap.push { cls:=.type "list",dict:=AN,data:=.seq ([]:List rY).toArray }=s3.heap:=by rw[<- hs3]
 rw[e3]at hns1 hsb1 ⊢;have k1:∀b o,s3.heap.get? b=AM o->h1.get? b=AM o:=λb o e=>(hsb1.2 b (ay (aq e))).trans (ae _ e);have k23:∀b o,s2.heap.get? b=AM o->s3.heap.get? b=AM o:=λb o e=>by rw[<- e3];exact ae _ e
 have hz:s3⁻¹=s2⁻¹+1:=by rw[<- e3,bM]
 have fpObj:∀b ∈ fp,∃o,s2.heap.get? b=AM o:=λb hb=>let #[o,e,_]:=T.obj 0 _ st2 b hb; #[o,e];have fplt:∀b ∈ fp,b<s2⁻¹:=λb hb=>let #[o,e]:=fpObj b hb;aq e;have f3:∀b ∈ fp,wj X AR (upd H2 s2⁻¹ (.lst [])) b:=λb hb=>#[by rw[zm (ay (fplt b hb))];exact (f2 b hb).1,(f2 b hb).2]
 have I4:Inv (yt X scope cl s3⁻¹ (own ++ caps) AR s3 (upd H2 s2⁻¹ (.lst [])) fp λ_ _=>False) [] (vt σ own.length ix) (upd H2 s2⁻¹ (.lst [])) { s3 with heap:=h1,toks:=s3.toks+([]:List (sk × rY)).length } :=
  W6 S hc1 hc2 I3 f3 (λb hb=>by rw[hz];exact cS (fplt b hb)) hns1 k1
 have st4:tn 0 h1:=T.keep 0 _ _ st2 λb hb o e=>k1 b o (k23 b o e);generalize hs4:({ s3 with heap:=h1,toks:=s3.toks+([]:List (sk × rY)).length }:rZ)=s4 at I4;have es4:({ s2 with heap:=h1,toks:=s2.toks+([]:List (sk × rY)).length }:rZ)=s4:=by rw[<- hs4,<- hs3]
 have e4:h1=s4.heap:=by rw[<- hs4]
 have loop:tF (model X.prog X.w) X.A (.compLoop (.ListComp elt [#[tg,iter,ifs,0]] scope pos) 0 (.ref it) (.ref s2⁻¹) (compEnvC scope cl s3⁻¹ X.env)) (RR (.ref s2⁻¹) s3⁻¹) s4:=by
  let X':=yt X scope cl s3⁻¹ (own ++ caps) AR s3 (upd H2 s2⁻¹ (.lst [])) fp λ_ _=>False
  have fp':∀{H':Hp},(∀b ∈ fp,H' b=AN)->∀b ∈ fp,wj X' [] H' b:=λ{H'} hn b hb=>by
   obtain⟨_,a1,a2,a3,a4,a5⟩:=f3 b hb;refine#[hn b hb,ay (show b<s3⁻¹ from by rw[hz];exact cS (fplt b hb)),λz=>?_,.inl hb,λx c e=>a4 x c (hc1 x c e),λp hp=>?_]
   ·rcases AX.mp (I3.stkSub b z)with e | e
    ·exact a1 e
    ·exact a2 e
   ·have:p ∈ (X.pn ++ AR) ++ []:=hp;rw[aW]at this;exact a5 p this
  refine Qg (λn s'=>∃i AT H',Inv X' [] (vt σ own.length ix) H' s'/\tn i s'.heap/\(∀b ∈ fp,H' b=AN)/\W i n AT H') rfl ?_ m0 #[0,[],_,I4,by rw[<- e4];exact st4,λb hb=>(f3 b hb).1,w0];rintro n s5 ⟨i,AT,H5,I5,st5,fr5,w5⟩;refine sZ ?_;rcases turn i n AT H5 w5 with ⟨stop,qn⟩ | ⟨go,step⟩
  ·refine thn (T.done X' rfl rfl rfl hc i [] s5 _ H5 _ I5 (fp' fr5) st5 stop) λr s6 ⟨hr,I6⟩=>?_;subst hr;obtain⟨m,hm,_⟩:=I6.loc;refine hRR _ _ m s6 H5 hD hm (I3.fpOk (al _) I6.free) (I3.call' (s':=s6) I6.os I6.base I6.hok I6.bare λb hb=>?_) qn;obtain⟨_,a1,a2,a3,a4,a5⟩:=f3 b hb;exact#[a3,a1,a4,a5]
  ·refine thn (T.item X' rfl rfl rfl hc i [] s5 _ H5 (λ_ _=>False) I5 (fp' fr5) st5 go) λr s6 ⟨u,hr,h6⟩=>?_;subst hr;refine sZ (thn h6 λ_ s7 ⟨x,H7,I7,r7,y7,st7,fr7⟩=>?_);have I7':=I7.pinned (fp' fr7) (T.obj _ _ st7);refine sZ (thn (hg _ _ _ _ _ _ _ s7 _ H7 x u _ I7' r7 (step x H7 y7)) λ_ s8 ⟨σ8,H8,I8,ks,q8⟩=>?_);refine thn (ht cl _ AR s3 (upd H2 s2⁻¹ (.lst [])) fp _ (λe s hfl=>V8 (RE:=λe s'=>RR (.ref s2⁻¹) s3⁻¹ (.error e) s') hst hxe hc1 I3 f3 hfl λm s' x a b=>hRE _ _ m s' x a b) _ s8 σ8 H8 _ (I8.wish _) q8) λb s9 ⟨H9,I9',q9⟩=>?_;have I9:=Inv.unwish (X:=X') I9'
   have back:∀{s':rZ} {H':Hp} {acc':List V} {m':Nat},Inv X' ([] ++ Yt fp s7.heap) σ8 H' s'->m'<n->W (i+1) m' acc' H'->∃m,m<n/\∃i AT H',Inv X' [] (vt σ own.length ix) H' s'/\tn i s'.heap/\(∀b ∈ fp,H' b=AN)/\W i m AT H':=λ{s' H' acc' m'} J' hm w'=>by
    refine#[m',hm,i+1,acc',H',(J'.unpinned).weak ks.1 ks.2,T.keep _ _ _ st7 λb hb o e=>(J'.pin (b,o) (aA _ (aA _ (wV hb e)))).1,λb hb=>?_,w'];obtain⟨o,e,d⟩:=T.obj _ _ st7 b hb;exact (J'.pin (b,o) (aA _ (aA _ (wV hb e)))).2.1
   cases b with
   | false =>
    rw[if_neg aw]at q9 ⊢;obtain⟨m',hm,w'⟩:=q9;exact back I9 hm w'
   | true =>
    rw[if_pos rfl]at q9 ⊢;refine thn (he cl _ AR s3 (upd H2 s2⁻¹ (.lst [])) fp _ (λe s hfl=>V8 (RE:=λe s'=>RR (.ref s2⁻¹) s3⁻¹ (.error e) s') hst hxe hc1 I3 f3 hfl λm s' x a b=>hRE _ _ m s' x a b) _ s9 σ8 H9 _ (I9.wish _) q9) λv s10 ⟨y,H10,I10',r10,hD10,hsz,m',hm,w'⟩=>?_;have I10:=Inv.unwish (X:=X') I10';refine sZ ?_;have:=yP (X:=X') _ s10 σ8 H10 (.ref s2⁻¹) [y] (.ref s2⁻¹) [v] (λ_ H'=>H'=upd H10 s2⁻¹ (.lst (AT ++ [y]))) I10 rfl (.cons r10 .nil) #[AT,hD10,hsz,rfl];refine thn this λ_ s11 ⟨_,H11,I11,_,eH⟩=>?_;subst eH;exact back I11 hm w'
 have goal:tF (model X.prog X.w) X.A (.compStart (.ListComp elt [#[tg,iter,ifs,0]] scope pos) 0 (.ref it) (.ref s2⁻¹) (compEnvC scope cl s3⁻¹ X.env)) (RR (.ref s2⁻¹) s3⁻¹) s4 :=
  codeAny_compStart_list loop (T.self _ 0 s4 _ _ (by rw[<- e4];exact st4) loop)
 rw[<- es4]at goal;exact goal
theorem Yu{EX:XK}(hc:X.calm=AO)(S:j7 X scope own caps ix)(hst:X.stack=X.env::X.outer/\X.env.frame=AM X.env.locals)(hxe:XE X EX)(hi:PI X tg iter wi)
  (hg:∀cl C AR s3 H3 fp,PG (yt X scope cl C (own ++ caps) AR s3 H3 fp λ_ _=>False) tg g)
  (ht:∀cl C AR s3 H3 fp xe,XE (yt X scope cl C (own ++ caps) AR s3 H3 fp xe) EX->PTs (yt X scope cl C (own ++ caps) AR s3 H3 fp xe) ifs tt)
  (he:∀cl C AR s3 H3 fp xe,XE (yt X scope cl C (own ++ caps) AR s3 H3 fp xe) EX->PE (yt X scope cl C (own ++ caps) AR s3 H3 fp xe) elt te)
  (hs:∀x,foldedSetIterable iter X.env x=pure x:=by intro _;rfl) :
  PE X (.ListComp elt [#[tg,iter,ifs,0]] scope pos) (jY wi g tt te own.length ix):=by
 intro AR s σ H Q I h;obtain⟨cl,hclos,hc1,hc2⟩:=ug (scope:=scope) (env:=X.env) λy hy=>I.ok.has y (S.free y hy);rw[eval_ListComp];refine tV (use:=AN) rfl hs hclos S.kind S.names (thn (hi AR s σ H _ I h) λv s1 h1=>thn h1 λitv s2 h2=>?_);obtain⟨it,fp,tn,J,H2,e,I2,T,st2,f2,q⟩:=h2;subst e;refine uW (RR:=λAT C=>compPost (model X.prog X.w) X.A X.xe AN (EP X AR σ Q) AT C) hc S hg ht hst hxe he hc1 hc2 I2 T st2 f2 q ?_ ?_
 ·intro D C m s' H' _ hn fc I' qn;obtain⟨a0,a1,a2,a3,a4,a5⟩:=fc;exact#[m,hn,λh' sb=>#[.ref D,H',I'.turned (t':=s'.toks) (λb o hb e=>(sb.2 b hb).trans e) a0 a1 a3 a4 a5,rfl,qn]]
 ·intro D C m s' x hn hp;exact#[m,hn,hp]
end
end L3
namespace L3
section
variable{X:Cx}{scope:sU}{own caps:List sk}{ix:List Nat}{elt tg iter:sr}{ifs:List sr}{pos:tm}{wi:TI}{g:TG}{tt:TT}{te:TE}
theorem xeN:XE X E0:=λe s h=>by
 obtain⟨_,_,_,_,_,_,_,_,_,_,_,_,_,_,h⟩:=h;exact h.elim
theorem zdT{e:sr}{t:TE}(h:PE (X.wish λ_ _=>False) e t):PE X e t:=λAR s σ H Q I hq=>sZ (thn (h AR s σ H Q (I.wish _) hq) λv s' ⟨x,H',I',r,q⟩=>#[x,H',I'.unwish,r,q])
theorem zaB{t:TT}(h:PTs (X.wish λ_ _=>False) ifs t):PTs X ifs t:=λAR s σ H Q I hq=>sZ (thn (h AR s σ H Q (I.wish _) hq) λv s' ⟨H',I',q⟩=>#[H',I'.unwish,q])
theorem xP(hc:X.calm=AO)(S:j7 X scope own caps ix)(hi:PI X tg iter wi)
  (hg:∀cl C AR s3 H3 fp,PG (yt X scope cl C (own ++ caps) AR s3 H3 fp λ_ _=>False) tg g)
  (ht:∀cl C AR s3 H3 fp,PTs (yt X scope cl C (own ++ caps) AR s3 H3 fp λ_ _=>False) ifs tt)
  (he:∀cl C AR s3 H3 fp,PE (yt X scope cl C (own ++ caps) AR s3 H3 fp λ_ _=>False) elt te)
  (hst:X.stack=X.env::X.outer/\X.env.frame=AM X.env.locals:=by exact#[rfl,rfl]) (hs:∀x,foldedSetIterable iter X.env x=pure x:=by intro _;rfl) :
  PE X (.ListComp elt [#[tg,iter,ifs,0]] scope pos) (jY wi g tt te own.length ix) :=
 Yu hc S hst xeN hi hg (λa b c d e f _ _=>zaB (ht a b c d e f)) (λa b c d e f _ _=>zdT (he a b c d e f)) hs
theorem UJ{i:Nat}{y:sk}{py spos:tm}(hN:X.N.Nodup)(hy:X.N[i]? = AM y)(hly:Loc X.env.scope y)(hf:X.fn y=AO\/X.env.scope.names.lookup y=AM .local)(hc:X.calm=AO)(S:j7 X scope own caps ix)(hi:PI X tg iter wi)
  (hg:∀cl C AR s3 H3 fp,PG (yt X scope cl C (own ++ caps) AR s3 H3 fp λ_ _=>False) tg g)
  (ht:∀cl C AR s3 H3 fp,PTs (yt X scope cl C (own ++ caps) AR s3 H3 fp λ_ _=>False) ifs tt)
  (he:∀cl C AR s3 H3 fp,PE (yt X scope cl C (own ++ caps) AR s3 H3 fp λ_ _=>False) elt te)
  (hst:X.stack=X.env::X.outer/\X.env.frame=AM X.env.locals:=by exact#[rfl,rfl])
  (hsw:swapsWith (.ListComp elt [#[tg,iter,ifs,0]] scope pos) (AM (.Name y py)) spos.line X.env=pure AO:=by rfl)
  (hs:∀x,foldedSetIterable iter X.env x=pure x:=by intro _;rfl) :
  PS X (.Assign [.Name y py] (.ListComp elt [#[tg,iter,ifs,0]] scope pos) spos) (kL i (jY wi g tt te own.length ix)):=by
 intro AR s σ H D I h;obtain⟨cl,hclos,hc1,hc2⟩:=ug (scope:=scope) (env:=X.env) λy hy=>I.ok.has y (S.free y hy);rw[exec_Assign_Name_used _ _ _ _ hsw];refine rQ (sY (rQ ?_));show si _ X.A (do let _ <- comprehension (.ListComp elt [#[tg,iter,ifs,0]] scope pos) scope X.env _ (newList []) AQ (eval iter X.env) (AM (assign (.Name y py) X.env))) _ _ s;refine rQ (thn (tV (use:=AM (assign (.Name y py) X.env)) (Q:=λ_ s'=>SP X AR D .next s') rfl hs hclos S.kind S.names (thn (hi AR s σ H _ I h) λv s1 h1=>thn h1 λitv s2 h2=>?_)) λ_ s' hq=>rR (rR hq));obtain⟨it,fp,tn,J,H2,e,I2,T,st2,f2,q⟩:=h2;subst e;refine uW (Q:=λx H1=>D.nx (σ.set i (AM x)) H1) (RR:=λAT C=>compPost (model X.prog X.w) X.A X.xe (AM (assign (.Name y py) X.env)) (λ_ s'=>SP X AR D .next s') AT C) hc S hg (λa b c d e f _ _=>zaB (ht a b c d e f)) hst xeN (λa b c d e f _ _=>zdT (he a b c d e f)) hc1 hc2 I2 T st2 f2 q ?_ λD C m s' x hn hp=>#[m,hn,hp];intro D' C m s' H1 hD' hn fc I1 nx;obtain⟨a0,a1,a2,a3,a4,a5⟩:=fc;show si _ X.A (assign (.Name y py) X.env (.ref D')) _ _ s';refine Av (Yk I1 hN hy hly (v:=.ref D') rfl (λs'' I2' ⟨a,sb,ha⟩=>?_) hf)
 have hCa:C≠a:=by
  rcases ha with e | e
  ·rw[e];exact a1
  ·exact λz=>a4 _ _ e z.symm
 refine#[m,hn.sameBut sb hCa,λh' sb'=>#[_,H1,I2'.turned (t':=s''.toks) (λb o hb e=>(sb'.2 b hb).trans e) a0 a1 a3 a4 a5,nx]]
end
end L3
namespace L3
section
variable{X:Cx}{scope:sU}{own caps:List sk}{ix:List Nat}{cl:List (sk × rX)}{AR:List (rX × sL)}{σ:St}{H:Hp}{s:rZ}{fp:List rX}{E:rY->rZ->Prop}
end
section
variable{X:Cx}{scope:sU}{own caps:List sk}{ix:List Nat}{elt tg iter:sr}{ifs:List sr}{pos:tm}{wi:TI}{g:TG}{tt:TT}{te:TE}
end
end L3
namespace L3
section
variable{X:Cx}
end
end L3
namespace L3
section
variable{X:Cx}{AR:List (rX × sL)}{σ:L2.St}{H:Hp}{s:rZ}
end
end L3
namespace LL
open PySem L2 L3
noncomputable def top(i:Nat):sv:=PySem.Challenge.pw_letterlaw_k88_whole_world_first.main.body.getD i (.Pass #[0,0,0,0])
noncomputable abbrev yy:sv:=yl (top 5) 0
noncomputable abbrev zV:sv:=yl (top 6) 0
noncomputable abbrev yK:sv:=top 12
noncomputable abbrev wG:sv:=top 13
noncomputable abbrev vB:sv:=top 14
noncomputable abbrev zaV:sv:=top 15
noncomputable abbrev Wy:sv:=top 17
noncomputable abbrev Zx:sv:=top 18
noncomputable abbrev xC:sv:=top 21
noncomputable abbrev wA:sv:=top 22
noncomputable abbrev vw:sv:=top 23
noncomputable abbrev x0:sv:=yl (top 24) 0
noncomputable abbrev yw:sv:=yl (top 24) 1
noncomputable abbrev YN:sv:=top 26
noncomputable abbrev uH:sv:=top 27
noncomputable abbrev UP:sv:=top 28
noncomputable abbrev qN:sv:=top 29
noncomputable abbrev Zm:sv:=top 30
noncomputable abbrev xI:sv:=top 31
noncomputable abbrev uA:sv:=top 37
noncomputable abbrev vk:sv:=top 38
noncomputable abbrev vF:sv:=top 39
noncomputable abbrev qL:sv:=top 40
noncomputable abbrev yz:sv:=top 41
noncomputable abbrev xH:sv:=top 42
noncomputable abbrev xf:sv:=top 43
noncomputable abbrev wx:sv:=top 44
noncomputable abbrev jF:sv:=top 45
noncomputable abbrev yB:sv:=top 51
noncomputable abbrev wl:sv:=top 52
noncomputable abbrev yT:sv:=top 53
noncomputable abbrev xF:sv:=top 54
noncomputable abbrev uE:sv:=top 55
noncomputable abbrev wa:sv:=top 56
noncomputable abbrev wX:sv:=top 59
noncomputable abbrev wK:sv:=yl (top 60) 0
noncomputable abbrev xY:sv:=yl (top 60) 1
noncomputable abbrev vH:sv:=yl (top 60) 3
noncomputable abbrev xD:sv:=yl (top 60) 5
noncomputable abbrev xE:sv:=yl (top 60) 6
noncomputable abbrev xZ:sv:=top 63
noncomputable abbrev xo:sv:=top 64
noncomputable abbrev vh:sv:=top 65
noncomputable abbrev wg:sv:=top 66
noncomputable abbrev wc:sv:=top 67
noncomputable abbrev xX:sv:=top 71
noncomputable abbrev yJ:sv:=top 72
noncomputable abbrev yD:sv:=top 73
noncomputable abbrev kJ:sv:=top 74
noncomputable abbrev wF:sv:=yl (top 77) 0
noncomputable abbrev xG:sv:=yl (top 77) 1
noncomputable abbrev wz:sv:=yl (top 77) 2
noncomputable abbrev xz:sv:=yl (top 77) 3
noncomputable abbrev xL:sv:=yl (top 77) 4
noncomputable abbrev yV:sv:=yl (top 78) 0
noncomputable abbrev yX:sv:=yl (top 79) 0
noncomputable abbrev yg:sv:=yl (top 79) 1
noncomputable abbrev Q2:sv:=top 81
noncomputable abbrev Xq:sv:=top 82
noncomputable abbrev qB:sv:=top 83
noncomputable abbrev V6:sv:=top 84
noncomputable abbrev Qk:sv:=top 85
noncomputable abbrev Xi:sv:=top 86
noncomputable abbrev YR:sv:=top 87
noncomputable abbrev XA:sv:=top 88
noncomputable abbrev qR:sv:=top 89
noncomputable abbrev wZ:sv:=top 90
noncomputable abbrev kE:sv:=top 91
noncomputable abbrev zb5:sv:=top 92
noncomputable abbrev YT:sv:=top 93
noncomputable abbrev YU:sv:=top 94
noncomputable abbrev zbL:sv:=top 95
noncomputable abbrev V7:sv:=top 96
noncomputable abbrev jN:sv:=top 97
section
variable{P:sj}{w:so}{K:rW}{mg:sk->Option rY}{base:su}
seal L2.PE L2.PS L2.PA L2.PT L2.PSs L2.PI L2.PG L2.PW L2.PGs
local macro_rules | `(tactic| rfl')=>do
 let A0←("zeQ zee zeH zeR zeD zev zeB zeg zfn zeE zbZ ze7 zeL ze3 zfa zfc zbQ zbA za8 zbs zb1 zbx zaQ zbb zaS ze4 zen zeY zeO zeG zeu zeI zfj zbC zaR zaW zbJ zbv zbF zb9 zbU".splitOn " ").toArray.mapM fun s=>`(Lean.Parser.Tactic.simpLemma| ↓$(Lean.mkIdent s.toName):ident)
 let A1←("zed Kg zar zea QS tOp tUn tC qb zL xR tCB zco yn JH zcp zd3 tOr VH Qo kq tIf rI rI0 rU rGe zcT jn zck zcu zcz zc9 tSl kG YC Q8 zdm tBM zd5 zbK zcb L2.start zer cxK cxP cxW ao aI aG cA cq dO Nat.reduceAdd Nat.reduceSub cK dk aQ aR bI bo vt eJ eK".splitOn " ").toArray.mapM fun s=>`(Lean.Parser.Tactic.simpLemma| $(Lean.mkIdent s.toName):ident)
 let A2←("zdX zao KU KL zfw zeQ zee zeH zeR zeD zev zeB zeg zfn zeE zbZ ze7 zeL ze3 zfa zfc zbQ zbA za8 zbs zb1 zbx zaQ zbb zaS ze4 zen zeY zeO zeG zeu zeI zfj zbC zaR zaW zbJ zbv zbF zb9 zbU".splitOn " ").toArray.mapM fun s=>`(Lean.Parser.Tactic.simpLemma| ↓$(Lean.mkIdent s.toName):ident)
 let A3←("zed vt eJ eK rU kL zam zdi zc0 Kg zar zea QS tOp tUn Qz tC qb zL xR tCB zco yn JH zcp zd3 tOr VH Qo kq tIf rI rI0 rEq_is rNe_is zcT jn zck zcz zc9 zcu tSl kG YC rGe decide_false decide_true Prod.mk.injEq rLen_is zde zec Wv zbg Y5 tyV tBM zd5 if_true if_false bA decide_eq_true_eq decide_eq_false_iff_not d9 fu e9 lt1 Q8 zdm zbl jK zaH YZ Xz zdH zcY zcC zc7 zcG zdd Value.ref.injEq L2.start zcE zds zfu zfx zfF zdB zfL zbK zcb zfD UV zcH zct zeM ZM VP ZQ ju Xs z6 zer KS zcR cxK cxP cxW ao aI aG cA cq dO Nat.reduceAdd Nat.reduceSub and_assoc zdK exists_eq exists_eq' exists_eq_left' exists_eq_left exists_eq_right exists_eq_right' exists_and_left exists_and_right V.int.injEq V.ref.injEq V.str.injEq V.bl.injEq V.ty.injEq reduceCtorEq false_and and_false true_and and_true or_false false_or exists_false exists_const cK dk Option.some.injEq aQ aR List.cons.injEq aW bI bo K4 zak zav zaD".splitOn " ").toArray.mapM fun s=>`(Lean.Parser.Tactic.simpLemma| $(Lean.mkIdent s.toName):ident)
 `(tactic| first | (dsimp only[$A0,*,$A1,*];try simp only[$A2,*,$A3,*]) | simp only[$A2,*,$A3,*])
local macro_rules | `(tactic| ac_rfl)=>do
 let A0←("z9 zq zH yb ya zp".splitOn " ").toArray.mapM fun s=>`(Lean.Parser.Tactic.simpLemma| $(Lean.mkIdent s.toName):ident)
 `(tactic| repeat (first | rfl' | simp only[$A0,*]))
theorem xe0{X:Cx}:XE X E0:=λe s h=>by
 obtain⟨_,_,_,_,_,_,_,_,_,_,_,_,_,_,h⟩:=h;exact h.elim
def small(l:List Nat):Prop:=∀c ∈ l,97<=c/\c<=122
noncomputable instance (l:List Nat):Decidable (small l):=by unfold small;infer_instance
noncomputable def qG(l:List Nat):Bool:=decide (1<=l.length/\l.length<=6/\small l/\l.Nodup)
def kQ:Sp:=λvs H Q _=>∃c:Nat,vs=[.str (tx [c])]/\Q (.bl (decide (97<=c/\c<=122))) H
theorem Js:zk ["sign"] ["sign"] (zh yK):=by nofun
theorem J5{f:rX}{fd:sf}(F:Fun K "is_small_letter" "is_small_letter" yK f fd):zQ P w K mg base CX0 1 f fd ["sign"] kQ:=by
 exists F.ok Js
 ·obtain⟨c,rfl,q⟩:=h;refine#[_,(zf (zl (Wl xy xy zU (pv 0) zU))),?_];have ea:cs (("a" : sk))=[97]:=rfl;have ez:cs (("z" : sk))=[122]:=rfl
  rfl'
  erw[ea,ez,Xs,lt1]
  refine yo (λh=>?_) λh=>?_
  ·have e:decide (97<=c/\c<=122)=!decide (122<c):=by
    by_cases h2:122<c
    ·rw[decide_eq_true h2,decide_eq_false ⋯];rfl
    ·rw[decide_eq_false h2,decide_eq_true ⋯];rfl
   rw[e]at q;exact q
  ·rw[decide_eq_false ⋯]at q;exact q
structure zfB(K:rW)(mg:sk->Option rY)(C:rX):Prop where
 xi:XI K C
 ini:af K (.ref C) "__init__" = AM (AM (.builtin "ValueError.__init__"))
 g:mg "NoLetters" = AM (.ref C)
 most:∃t,mg "MOST_LETTERS" = AM (.int 6 t)
def wb(C:rX):Sp:=λvs H Q E=>∃l:List Nat,vs=[.str (tx l)]/\l.length<=1000/\(qG l=AO->Q (.str (tx l)) H)/\(qG l=AQ->E (.ref C) AN H)
theorem ng:zk ["text","sign"] ["text"] (zh wG):=by nofun
theorem Zp{f C:rX}{fd:sf}(B:Bt mg)(T:zfB K mg C)(F:Fun K "letters_of" "letters_of" wG f fd)(Ds:Df P w K mg base CX0 1 "is_small_letter" ["sign"] [] kQ):zQ P w K mg base (CXx P w) 2 f fd ["text"] (wb C):=by
 exists Fun.okX F ng,0
 ·obtain⟨l,rfl,hl,q1,q2⟩:=h;obtain⟨t6,g6⟩:=T.most
  refine#[_,(zB (zK (zW (vU xy xy zg (zC B.len (pv 0)) (yk (v:=.int 6) rfl g6 #[t6,rfl])))
    (zf (zY hx rfl T.xi.toXC T.ini rfl T.g (za zU zd)))
    zr)
   (zB (zN PassesOwn.leaving rfl (WM (pv 0)) (zu (i:=1) ng.nd rfl (.inl rfl))
    (zB (zK (zW (Wf (cl0 Ds hr .nil rfl (za (pv 1) zd)) (λ_=>rfl)))
     (zf (zY hx rfl T.xi.toXC T.ini rfl T.g (za zU zd)))
     zr)
    (zf (zK (zy US (vP bT eV eW Uo (pv 0) (za (pv 1) zd)) zg (zA _))
     (zf (zY hx rfl T.xi.toXC T.ini rfl T.g (za zU zd)))
     zr))))
   (zf (zl (pv 0))))),?_]
  have s16:=zO
  rfl'
  have bad:(¬ (1<=l.length/\l.length<=6/\small l/\l.Nodup))->∀H':Hp,H'=H->E (.ref C) AN H':=λh H' e=>by
   rw[e];exact q2 (decide_eq_false h)
  refine#[⋯,yo (λc=>yo (λc2=>#[⋯,bad (λh=>by have:=h.2.1;lia) H rfl]) (λc2=>?_)) (λc=>#[⋯,bad (λh=>by have:=h.1;lia) H rfl])];refine ForS.by (λi σ H'=>H'=H/\∃v,σ=[AM (.str (tx l)),v]/\small (l.take i)/\∀c ∈ l.take i,l.count c<=1) #[rfl,AN,rfl,λc h=>absurd h (by simp),λc h=>absurd h (by simp)] ?_ ?_
  ·refine nm4 ?_;rintro i c σ H' hg ⟨eH,v,rfl,hs,hn⟩:_;have hc:=aa hg;right
   rfl'
   erw[kQ]
   rfl'
   refine yo (λh=>#[⋯,bad (λz=>by have:=z.2.2.1 c hc;lia) _ eH]) (λh=>yo (λh2=>#[⋯,bad (λz=>?_) _ eH]) (λh2=>#[eH,?_,?_]))
   ·have:=Bn.mp z.2.2.2 c;lia
   ·rw[z7 hg];intro x hx;rcases AW.mp hx with q | q
    ·exact hs x q
    ·have:x=c:=by simpa using q
     subst this;lia
   ·rw[z7 hg];intro x hx;rcases AW.mp hx with q | q
    ·exact hn x q
    ·have:x=c:=by simpa using q
     subst this;lia
  ·rintro σ H' ⟨eH,v,rfl,hs,hn⟩;rw[aP]at hs hn
   rfl'
   rw[eH];refine q1 (decide_eq_true #[⋯,⋯,hs,Bn.mpr λc=>?_]);by_cases hc:c ∈ l
   ·exact hn c hc
   ·rw[List.count_eq_zero.mpr hc];lia
noncomputable def zx(l:List Nat)(k:Int)(p:List Nat):Bool:=decide (0<=k/\k+p.length<=l.length/\(l.drop k.toNat).take p.length=p)
def wH:Sp:=λvs H Q _=>∃(l p:List Nat) (k:Int),vs=[.str (tx l),.int k,.str (tx p)]/\l.length<=10000/\p.length<=10000/\Q (.bl (zx l k p)) H
theorem Zv{l p:List Nat}{k:Int}{H:Hp}{Q:VK}{E:XK}(h1:l.length<=10000)(h2:p.length<=10000)(h:Q (.bl (zx l k p)) H):wH [.str (tx l),.int k,.str (tx p)] H Q E:=#[l,p,k,rfl,h1,h2,h]
theorem YI:zk ["word","place","part"] ["word","place","part"] (zh vB):=by nofun
theorem ZV{f:rX}{fd:sf}(B:Bt mg)(F:Fun K "stands_at" "stands_at" vB f fd):zQ P w K mg base CX0 1 f fd ["word","place","part"] wH:=by
 exists F.ok YI
 ·obtain⟨l,p,k,rfl,hl,hp,q⟩:=h
  refine#[_,(zB (zK (zW (vU xy xy zg (pv 1) (zG j1 (zC B.len (pv 0)) (zC B.len (pv 2)))))
    (zf (zl yE))
    zr)
   (zf (zl (yN wu (yH u8 (pv 0) (yx (pv 1)) (yx (zG yY (pv 1) (zC B.len (pv 2))))) (pv 2) (zA _))))),?_]
  have s16:=zO
  rfl'
  have no:¬ (0<=k/\k+p.length<=l.length/\(l.drop k.toNat).take p.length=p)->Q (.bl AQ) H:=λh=>by
   have e:zx l k p=AQ:=decide_eq_false h;rw[e]at q;exact q
  refine yo (λh0=>#[⋯,⋯,yo (λh1=>no λh=>absurd h.2.1 ⋯) λh1=>#[⋯,⋯,?_]]) λh0=>no λh=>h0 h.1;rw[UI _ h0 ⋯ ⋯];have e:(k+(p.length:Int) - k).toNat=p.length:=⋯;rw[e]
  have e2:zx l k p=decide ((l.drop k.toNat).take p.length=p):=by
   unfold zx;exact decide_eq_decide.mpr #[λh=>h.2.2,λh=>#[h0,⋯,h]]
  rw[<- e2];exact q
noncomputable def y0(l:List Nat)(k:Int)(o n:List Nat):List Nat:=l.take k.toNat ++ n ++ l.drop (k.toNat+o.length)
theorem wk{l o:List Nat}{k:Int}(h:zx l k o=AO):l.take k.toNat ++ o ++ l.drop (k.toNat+o.length)=l/\(l.take k.toNat).length=k.toNat/\0<=k/\k+o.length<=l.length:=by
 unfold zx at h;rw[decide_eq_true_eq]at h;obtain⟨h0,h1,h2⟩:=h;refine#[?_,by rw[aJ];lia,h0,h1]
 have e:l.drop k.toNat=o ++ l.drop (k.toNat+o.length):=by
  have:=bW o.length (l.drop k.toNat);rw[h2,dX]at this;exact this.symm
 rw[aO,<- e,bW]
theorem X7{l o:List Nat}{k:Int}(n:List Nat)(h:zx l k o=AO):zx (y0 l k o n) k n=AO/\y0 (y0 l k o n) k n o=l:=by
 obtain⟨e,hl,h0,h1⟩:=wk h
 have e1:(y0 l k o n).take k.toNat=l.take k.toNat:=by
  unfold y0;rw[aO,bh ⋯,aX ⋯]
 have e2:(y0 l k o n).drop k.toNat=n ++ l.drop (k.toNat+o.length):=by
  unfold y0;rw[aO,cp ⋯,aY ⋯,bI]
 have e3:(y0 l k o n).length=l.length - o.length+n.length:=by
  unfold y0
  erw[ak,bn,hl]
  lia
 refine#[?_,?_]
 ·unfold zx;refine decide_eq_true #[h0,⋯,?_];rw[e2,bh ⋯,aX ⋯]
 ·show (y0 l k o n).take k.toNat ++ o ++ (y0 l k o n).drop (k.toNat+n.length)=l;rw[e1,<- dX,e2,cp ⋯,aY ⋯,bI];exact e
structure TNU(K:rW)(mg:sk->Option rY)(C:rX):Prop where
 xi:XI K C
 g:mg "NoUse" = AM (.ref C)
 na:NoAttr K C "at"
theorem kD:zk ["self","at"] ["self","at"] (zh yy):=by nofun
theorem kX{f C:rX}{fd:sf}(T:TNU K mg C)(F:Fun K "__init__" "NoUse.__init__" yy f fd):zQ P w K mg base CX0 1 f fd ["self","at"] (uq C "at"):=by
 exists F.ok kD
 ·obtain⟨x,v,rfl,hx,q⟩:=h;refine#[_,(zf (VD (pv 0) (pv 1) rfl)),?_]
  erw[zb4]
  rfl'
  exact#[C,hx,T.xi.toXC,T.na,q]
structure DNU(P:sj)(w:so)(K:rW)(mg:sk->Option rY)(base:su)(C:rX):Prop extends TNU K mg C where
 ini:∃f fd,af K (.ref C) "__init__" = AM (AM (.ref f))/\aS K (.ref f)=AO/\zQ P w K mg base CX0 1 f fd ["self","at"] (uq C "at")/\Binds K fd ["self","at"] []
def Wb(C:rX):Sp:=λvs H Q E=>∃(l o n:List Nat) (k:Int),vs=[.str (tx l),.int k,.str (tx o),.str (tx n)]/\l.length<=10000/\o.length<=10000/\n.length<=10000/\(zx l k o=AO->Q (.str (tx (y0 l k o n))) H)/\(zx l k o=AQ->∀d H',zes H d "at" (.int 0) H'->E (.ref C) (AM d) H')
theorem zc5:zk ["word","place","old","new"] ["word","place","old","new"] (zh zaV):=by nofun
theorem zdw{f C:rX}{fd:sf}(B:Bt mg)(T:DNU P w K mg base C)(F:Fun K "put" "put" zaV f fd)(pY:Df P w K mg base CX0 1 "stands_at" ["word","place","part"] [] wH):zQ P w K mg base (CXx P w) 3 f fd ["word","place","old","new"] (Wb C):=by
 obtain⟨fi,fdi,hi,hfn,Fi,Bi⟩:=T.ini
 exists Fun.okX F zc5,0
 ·obtain⟨l,o,n,k,rfl,hl,ho,hn,q1,q2⟩:=h
  refine#[_,(zB (zK (zW (Wf (cl0 pY hr .nil rfl (za (pv 0) (za (pv 1) (za (pv 2) zd)))) (λ_=>rfl)))
    (zf (Yl hx rfl T.xi.toXC hi hfn Fi hr Bi rfl T.g (za zg zd)))
    zr)
   (zf (zl (zG yL (zG yL (yH u8 (pv 0) vL (yx (pv 1))) (pv 3)) (yH u8 (pv 0) (yx (zG yY (pv 1) (zC B.len (pv 2)))) vL))))),?_]
  have s16:=zO
  rfl'
  refine Zv hl ho ?_
  rfl'
  refine yo (λhb=>#[⋯,UL (q2 hb)]) λhb=>?_;have hb':zx l k o=AO:=by simpa using hb
  obtain⟨_,_,h0,h1⟩:=wk hb';have c1:=uK l AN (AM k);have c2:=uK l (AM (k + ↑o.length)) AN;refine#[⋯,⋯,⋯,⋯,?_,?_]
  ·erw[ak]
   lia
  ·have e:cut l AN (AM k) ++ n ++ cut l (AM (k + ↑o.length)) AN=y0 l k o n:=by
    rw[X1 _ h0,k9 _ ⋯];have:(k+(o.length:Int)).toNat=k.toNat+o.length:=⋯;rw[this];rfl
   rw[e];exact q1 hb'
structure TOrd(K:rW)(mg:sk->Option rY)(CO CR CW:rX):Prop where
 cO:Cls K CO
 cR:Cls K CR
 cW:Cls K CW
 gO:mg "Order" = AM (.ref CO)
 gR:mg "FromRight" = AM (.ref CR)
 gW:mg "ByWeights" = AM (.ref CW)
 lO:NoAttr K CO "letters"
 lR:NoAttr K CR "letters"
 lW:NoAttr K CW "letters"
 wW:NoAttr K CW "weights"
def OrdAt(CO CR CW:rX)(H:Hp)(o:rX)(k:Nat)(l:List Nat)(ns:List Int):Prop:=∃dx,(k=0/\H o=AM (.ins CO dx [("letters",.str (tx l))]))\/(k=1/\H o=AM (.ins CR dx [("letters",.str (tx l))])) \/
 (k=2/\ns.length=l.length/\∃w,H o=AM (.ins CW dx [("letters",.str (tx l)),("weights",.ref w)])/\H w=AM (.tup (ns.map V.int)))
theorem OrdAt.same{CO CR CW:rX}{H H':Hp}{o:rX}{k:Nat}{l:List Nat}{ns:List Int}(h:OrdAt CO CR CW H o k l ns)(e:Same H H'):OrdAt CO CR CW H' o k l ns:=by
 obtain⟨dx,⟨h1,h2⟩ | ⟨h1,h2⟩ | ⟨h1,h2,w,h3,h4⟩⟩:=h
 ·exact#[dx,.inl #[h1,e _ _ h2]]
 ·exact#[dx,.inr (.inl #[h1,e _ _ h2])]
 ·exact#[dx,.inr (.inr #[h1,h2,w,e _ _ h3,e _ _ h4])]
noncomputable def Vz(l:List Nat)(ns:List Int)(w:List Nat):Int:=((l.zip ns).map λp=>(w.count p.1:Int) * p.2).sum
noncomputable def zw(k:Nat)(l:List Nat)(ns:List Int)(w:List Nat):Int:=if k=2 then Vz l ns w else (w.length:Int)
noncomputable def xl(k:Nat)(w:List Nat):List Nat:=if k=1 then w.reverse else w
def qv(K:rW):Sp:=λvs H Q _=>∃(x C dx:rX) (l:List Nat),vs=[.ref x,.str (tx l)]/\qG l=AO/\Cls K C/\NoAttr K C "letters"/\H x=AM (.ins C dx [])/\Q .non (upd H x (.ins C dx [("letters",.str (tx l))]))
theorem kR:zk ["self","letters"] ["self","letters"] (zh wF):=by nofun
theorem wm{f:rX}{fd:sf}(B:Bt mg)(F:Fun K "__init__" "Order.__init__" wF f fd)(lY:Df P w K mg base (CXx P w) 2 "letters_of" ["text"] [] (wb C)):zQ P w K mg base CX0 3 f fd ["self","letters"] (qv K):=by
 exists F.ok kR
 ·obtain⟨x,C,dx,l,rfl,hg,hC,hN,hx,q⟩:=h;refine#[_,(zf (j8 (pv 0) (clP xe0 lY hr .nil rfl (za (pv 1) zd)) rfl)),?_];have s16:=zO
  rfl'
  exact#[l,rfl,by have:=of_decide_eq_true hg;lia,λ_=>#[_,_,_,hx,hC,hN,∅,q],λe=>by rw[hg]at e;cases e]
def Zo:Sp:=λvs H Q _=>∃(o:rX) (w:List Nat),vs=[.ref o,.str (tx w)]/\w.length<=1000/\Q (.int (w.length:Nat)) H
theorem jk:zk ["self","word"] ["self","word"] (zh xG):=by nofun
theorem wQ{f:rX}{fd:sf}(B:Bt mg)(F:Fun K "weight" "Order.weight" xG f fd) : zQ P w K mg base CX0 1 f fd ["self","word"] Zo:=by
 exists F.ok jk
 ·obtain⟨o,w,rfl,hw,q⟩:=h;refine#[_,(zf (zl (zC B.len (pv 1)))),?_];have s16:=zO
  rfl'
  exact#[⋯,q]
def Wn:Sp:=λvs H Q _=>∃(o:rX) (w:List Nat),vs=[.ref o,.str (tx w)]/\Q (.str (tx w)) H
theorem ZC:zk ["self","word"] ["self","word"] (zh wz):=by nofun
theorem vW{f:rX}{fd:sf}(B:Bt mg)(F:Fun K "seen" "Order.seen" wz f fd) : zQ P w K mg base CX0 1 f fd ["self","word"] Wn:=by
 exists F.ok ZC
 ·obtain⟨o,w,rfl,q⟩:=h;refine#[_,(zf (zl (pv 1))),?_];have s16:=zO
  rfl'
  exact q
def Xm:Sp:=λvs H Q _=>∃(o:rX) (w:List Nat),vs=[.ref o,.str (tx w)]/\w.length<=1000/\Q (.str (tx w.reverse)) H
theorem ut:zk ["self","word"] ["self","word"] (zh yV):=by nofun
theorem uG{f:rX}{fd:sf}(B:Bt mg)(F:Fun K "seen" "FromRight.seen" yV f fd) : zQ P w K mg base CX0 1 f fd ["self","word"] Xm:=by
 exists F.ok ut
 ·obtain⟨o,w,rfl,hw,q⟩:=h;refine#[_,(zf (zl (zaF (pv 1) (zfh zdO zg)))),?_];have s16:=zO;ac_rfl;exact#[⋯,q]
structure zfK(K:rW)(mg:sk->Option rY)(C:rX):Prop where
 xi:XI K C
 ini:af K (.ref C) "__init__" = AM (AM (.builtin "ValueError.__init__"))
 g:mg "NoOrder" = AM (.ref C)
 most:∃t,mg "MOST_WEIGHT" = AM (.int 1000000 t)
abbrev DOI(P:sj)(w:so)(K:rW)(mg:sk->Option rY)(base:su)(CO:rX):Prop:=DC P w K mg base CX0 3 CO "__init__" ["self","letters"] (qv K)
def k8(K:rW)(CW:rX):Sp:=λvs H Q _=>∃(x dx a:rX) (l:List Nat) (ns:List Int),vs=[.ref x,.str (tx l),.ref a]/\qG l=AO/\SqL K H a (ns.map V.int)/\ns.length=l.length/\(∀n ∈ ns,1<=n/\n<=1000000)/\H x=AM (.ins CW dx []) /\
 ∀w H',H w=AN->w≠x->(∀b o,b≠x->H b=AM o->H' b=AM o)->H' w=AM (.tup (ns.map V.int))->H' x=AM (.ins CW dx [("letters",.str (tx l)),("weights",.ref w)])->Q .non H'
theorem lT:zk ["self","letters","weights","weight"] ["self","letters","weights"] (zh yX):=by nofun
theorem uC{f CO CR CW CN:rX}{fd:sf}(B:Bt mg)(T:TOrd K mg CO CR CW)(TN:zfK K mg CN)(DI:DOI P w K mg base CO)(F:Fun K "__init__" "ByWeights.__init__" yX f fd) : zQ P w K mg base (CXx P w) 4 f fd ["self","letters","weights"] (k8 K CW):=by
 obtain⟨t6,g6⟩:=TN.most
 exists Fun.okX F lT,0
 ·obtain⟨x,dx,a,l,ns,rfl,hg,hS,hl,hb,hX,q⟩:=h
  refine#[_,(zi (xh (za7 DI hr rfl T.gO (za (pv 0) (za (pv 1) zd))))
   (zi (zK (zy vJ (zC B.len (pv 2)) (zC B.len (pv 1)) (zA _))
    (zf (zY hx rfl TN.xi.toXC TN.ini rfl TN.g (za zU zd)))
    zr)
   (zi (zN PassesOwn.leaving rfl (yd (pv 2)) (zu (i:=3) lT.nd rfl (.inl rfl))
    (zf (zK (zW (vU xy xy zg (pv 3) (yk (v:=.int 1000000) rfl g6 #[t6,rfl])))
     (zf (zY hx rfl TN.xi.toXC TN.ini rfl TN.g (za zU zd)))
     zr)))
   (zf (j8 (pv 0) (xp Zr rfl B.tuple PySem.Pv.boot_tuple (za (pv 2) zd)) rfl))))),?_]
  have s16:=zO;have hbx:∀b o,b≠x->H b=AM o->upd H x (.ins CW dx [("letters",.str (tx l))]) b=AM o:=λb o hb e=>by rw[zm hb];exact e
  have hS1:SqL K (upd H x (.ins CW dx [("letters",.str (tx l))])) a (ns.map V.int):=by
   rcases hS with (h | ⟨o,h⟩) | h
   ·exact .inl (.inl (hbx _ _ (λe=>by rw[e,hX]at h;cases h) h))
   ·exact .inl (.inr #[o,hbx _ _ (λe=>by rw[e,hX]at h;cases h) h])
   ·exact .inr h
  refine zj (λσ H'=>H'=upd H x (.ins CW dx [("letters",.str (tx l))])/\σ=[AM (.ref x),AM (.str (tx l)),AM (.ref a),AN]) ?_ ?_
  ·ac_rfl;exact#[x,CW,dx,l,rfl,hg,T.cW,T.lW,hX,rfl]
  rintro σ H1 ⟨rfl,rfl⟩:_;right;refine zj (λσ H'=>H'=upd H x (.ins CW dx [("letters",.str (tx l))])/\σ=[AM (.ref x),AM (.str (tx l)),AM (.ref a),AN]) ?_ ?_
  ·have hl6:l.length<=6:=by have:=of_decide_eq_true hg;lia
   ac_rfl;refine#[ns.length,.inl #[_,hS1,by rw[ac]],⋯,yo (λh=>absurd ⋯ h) λ_=>trivial]
  rintro σ H1 ⟨rfl,rfl⟩:_;right;refine zj (λσ H'=>H'=upd H x (.ins CW dx [("letters",.str (tx l))])/\∃v3,σ=[AM (.ref x),AM (.str (tx l)),AM (.ref a),v3]) ?_ ?_
  ·ac_rfl;refine#[#[_,hS1],ForL.by (xs:=ns.map V.int) (λi σ H'=>H'=upd H x (.ins CW dx [("letters",.str (tx l))])/\∃v3,σ=[AM (.ref x),AM (.str (tx l)),AM (.ref a),v3]) #[rfl,AN,rfl] (λi σ H' _ h=>by rw[h.1];exact hS1) ?_ λσ H' h=>h];refine nm4 ?_;rintro i y σ H' hy ⟨rfl,v3,rfl⟩:_;rw[am]at hy;obtain⟨n,hn,rfl⟩:=AZ.mp hy;obtain⟨n1,n2⟩:=hb n (aa hn);right;ac_rfl;exact yo (λ_=>yo (λh=>absurd n2 h) λ_=>trivial) λh=>absurd n1 h
  rintro σ H1 ⟨rfl,v3,rfl⟩:_;right;ac_rfl;refine#[_,.inl #[hS1,λw hw=>?_]];have hwx:w≠x:=λe=>by rw[e,ze]at hw;cases hw
  have hwH:H w=AN:=by rw[zm hwx]at hw;exact hw
  have hX2:=zc (o:=.tup (ns.map V.int)) hw _ _ (ze (H:=H) (a:=x) (o:=.ins CW dx [("letters",.str (tx l))]));refine#[_,_,_,hX2,T.cW,T.wW,by show 1<1000;decide,q w _ hwH hwx (λb o hb' e=>?_) ?_ ze]
  ·rw[zm hb'];exact zc hw _ _ (hbx b o hb' e)
  ·rw[zm hwx];exact ze
theorem K6{x y:V}{r:L2.St}:yU (AN::AN::r) (AM x::AM y::r):=#[rfl,λi v h=>by
 cases i with
 | zero=>cases h
 | succ i =>
  cases i with
  | zero=>cases h
  | succ i=>exact h]
def Y3(CW:rX):Sp:=λvs H Q _=>∃(o dx t:rX) (w l:List Nat) (ns:List Int),vs=[.ref o,.str (tx w)]/\w.length<=1000/\l.length<=6/\ns.length=l.length/\(∀n ∈ ns,1<=n/\n<=1000000)/\H o=AM (.ins CW dx [("letters",.str (tx l)),("weights",.ref t)])/\H t=AM (.tup (ns.map V.int))/\∀H',Same H H'->Q (.int (Vz l ns w)) H'
theorem vK:zk ["self","word"] ["self","word"] (zh yg):=by nofun
theorem vC{f CO CR CW:rX}{fd:sf}(B:Bt mg)(T:TOrd K mg CO CR CW)(F:Fun K "weight" "ByWeights.weight" yg f fd) : zQ P w K mg base CX0 1 f fd ["self","word"] (Y3 CW):=by
 exists F.ok vK
 ·obtain⟨o,dx,t,w,l,ns,rfl,hw,hl,hn,hb,ho,ht,q⟩:=h;refine#[_,(zf (zl (xx (zex rfl) rfl B.sum PyProof.Rows.boot_sum (za (xP (g:=zbl K 2 (jK (yn 0) (jK (yn 1) zaH))) (own:=["letter","weight"]) (caps:=["word"]) (ix:=[1]) (tt:=vm) (te:=(tOp Jq (tBM K "str" Wv (yj 2) (zL (yj 0) xR)) (yj 1))) rfl (zS (sc:=zh yg) rfl (by symm) (by symm) (by symm) rfl (by symm) (by symm) rfl) (zdI rfl B.zip (za (ui (pv 0) rfl) (za (ui (pv 0) rfl) zd))) (λ_ _ _ _ _ _=>uQ (n:=2) rfl (z8 (zu (i:=0) (show List.Nodup [_,_,_] by decide) rfl (.inl rfl)) (z8 (zu (i:=1) (show List.Nodup [_,_,_] by decide) rfl (.inl rfl)) wy))) (λ_ _ _ _ _ _=>yM) (λ_ _ _ _ _ _=>(zG Zu (vP bT eV eW Uo (pv 2) (za (pv 0) zd)) (pv 1)))) zd)))),?_];have s16:=zO;ac_rfl;refine#[_,_,_,ho,T.cW,T.lW,_,rfl,_,_,_,ho,T.cW,T.wW,_,rfl,l,rfl,t,rfl,#[_,SqT.of ht],λD hD=>CompZ.by (ys:=ns.map V.int) (λi AT H'=>Same H H'/\H' D=AM (.lst AT)/\AT=((((l.zip ns).map λp=>(w.count p.1:Int) * p.2).take i).map V.int)) (by rw[ac];lia) #[zc hD,ze,rfl] (λi AT H' _ h=>SqT.of (h.1 _ _ ht)) ?_ ?_]
  ·rintro i c y AT H' p hc hy ⟨hs,hH,rfl⟩ hp;have hi:=(AU.mp hc).1;rw[am]at hy;obtain⟨n,hn',rfl⟩:=AZ.mp hy
   have hz:((l.zip ns).map λp=>(w.count p.1:Int) * p.2)[i]? = AM ((w.count c:Int) * n):=by
    rw[am,(List.getElem?_zip_eq_some (z:=(c,n))).mpr #[hc,hn']];rfl
   obtain⟨n1,n2⟩:=hb n (aa hn');have hcl:w.count c<=w.length:=List.count_le_length;have hcn:(w.count c:Int) * n=(w.count c:Int) * n:=rfl
   erw[vm]
   ac_rfl;refine#[_,SqT.of ze,rfl,_,_,rfl,_,_,rfl,rfl,K6,_,rfl,_,rfl,?_,zc hp _ _ hH,by rw[ac,aJ];lia,?_]
   ·exact .inr #[⋯,⋯]
   ·rw[Y5];refine CNx.mk hi #[zI (hs.trans (zc hp)) hD,ze,?_];rw[z7 hz,ax];rfl
  ·rintro AT H' ⟨hs,hH,rfl⟩;have e:l.length=((l.zip ns).map λp=>(w.count p.1:Int) * p.2).length:=by rw[ac,List.length_zip];lia
   refine#[D,rfl,_,SqL.of hH,?_];rw[e,aP];exact q _ hs
theorem zfi(l:List Nat)(c e:Nat):StrLaws.At (tx l) (tx [c]) (tx l).length e ↔ l[e]? = AM c:=by
 unfold StrLaws.At Builtin.Str.subAt;rw[z6,z6];have h1:[c].length=1:=rfl;rw[h1,beq_iff_eq]
 have e1:((tx l).cps.extract e (e+1)).toList=(l.drop e).take 1:=by
  show (l.toArray.extract e (e+1)).toList=_;simp [eg]
 have e2:((tx l).cps.extract e (e+1)=(tx [c]).cps) ↔ (l.drop e).take 1=[c]:=by
  constructor
  ·intro h;rw[<- e1,h]
  ·intro h;apply Array.toList_inj.mp;rw[e1,h]
 constructor
 ·rintro⟨h2,h3⟩;have:=e2.mp h3;rw[aT ⋯,dP,bO]at this;rw[ag ⋯];injection this with h _;rw[h]
 ·intro h;obtain⟨he,hx⟩:=AU.mp h;refine#[⋯,e2.mpr ?_];rw[aT he,dP,bO,hx]
theorem UT{l:List Nat}{c:Nat}(h:c ∈ l):Txt.find (tx l) (tx [c])=((l.idxOf c:Nat):Int):=by
 have hlt:=bq h;have hg:l[l.idxOf c]? = AM c:=by rw[ag hlt,dj]
 rcases PyProof.Rows.find_whole (tx l) (tx [c])with ⟨h1,h2⟩ | ⟨e,h1,h2,h3⟩
 ·exact absurd ((zfi l c _).mpr hg) (h2 _)
 ·have he:=(zfi l c e).mp h2
  have:e=l.idxOf c:=by
   rcases ef e (l.idxOf c)with q | q | q
   ·have:=List.not_of_lt_findIdx (p:=(· == c)) q;obtain⟨h4,h5⟩:=AU.mp he;simp [h5]at this
   ·exact q
   ·exact absurd ((zfi l c _).mpr hg) (h3 _ q)
  rw[h1,this]
abbrev MkO(P:sj)(w:so)(K:rW)(mg:sk->Option rY)(base:su)(C:rX):Prop:=DMk P w K mg base CX0 3 C ["self","letters"] (qv K)
abbrev MkW(P:sj)(w:so)(K:rW)(mg:sk->Option rY)(base:su)(C:rX):Prop:=DMk P w K mg base (CXx P w) 4 C ["self","letters","weights"] (k8 K C)
abbrev MW(P:sj)(w:so)(K:rW)(mg:sk->Option rY)(base:su)(C:rX)(m:sk)(sp:Sp):Prop:=DM P w K mg base CX0 1 C m ["self","word"] sp
structure TWS(P:sj)(w:so)(K:rW)(mg:sk->Option rY)(base:su)(CO CR CW:rX):Prop extends TOrd K mg CO CR CW where
 mO:MkO P w K mg base CO
 mR:MkO P w K mg base CR
 mW:MkW P w K mg base CW
 wO:MW P w K mg base CO "weight" Zo
 wR:MW P w K mg base CR "weight" Zo
 wW':MW P w K mg base CW "weight" (Y3 CW)
 sO:MW P w K mg base CO "seen" Wn
 sR:MW P w K mg base CR "seen" Xm
 sW:MW P w K mg base CW "seen" Wn
structure OG(l:List Nat)(ns:List Int)(k:Nat):Prop where
 g:qG l=AO
 k3:k<3
 nl:ns.length=l.length
 nb:∀n ∈ ns,1<=n/\n<=1000000
noncomputable def jG(l:List Nat)(w:List Nat):List Int:=w.map λc=>((l.idxOf c:Nat):Int)
noncomputable def qJ(k:Nat)(l:List Nat)(w:List Nat):List Int:=jG l (xl k w)
def zcU(CO CR CW:rX):rX->Prop:=λC=>C=CO\/C=CR\/C=CW
theorem OrdAt.fam{CO CR CW:rX}{H:Hp}{o:rX}{k:Nat}{l:List Nat}{ns:List Int}(h:OrdAt CO CR CW H o k l ns):∃C dx fs,zcU CO CR CW C/\H o=AM (.ins C dx fs)/\(∀m:sk,m≠"letters"->m≠"weights"->fs.lookup m=AN)/\fs.lookup ("letters" : sk)=AM (V.str (tx l)):=by
 have e1:∀m:sk,m≠"letters"->(m ==("letters" : sk))=AQ:=λm hm=>by simpa using hm
 have e2:∀m:sk,m≠"weights"->(m ==("weights" : sk))=AQ:=λm hm=>by simpa using hm
 obtain⟨dx,⟨h1,h2⟩ | ⟨h1,h2⟩ | ⟨h1,h2,w,h3,h4⟩⟩:=h
 ·exact#[_,_,_,.inl rfl,h2,λm hm _=>by simp [bc,e1 m hm],rfl]
 ·exact#[_,_,_,.inr (.inl rfl),h2,λm hm _=>by simp [bc,e1 m hm],rfl]
 ·exact#[_,_,_,.inr (.inr rfl),h3,λm hm hm2=>by simp [bc,e1 m hm,e2 m hm2],rfl]
def qT(CO CR CW:rX):Sp:=λvs H Q _=>∃(o:rX) (k:Nat) (l:List Nat) (ns:List Int) (w:List Nat),vs=[.ref o,.str (tx w)]/\OrdAt CO CR CW H o k l ns/\OG l ns k/\w.length<=1000/\(∀c ∈ w,c ∈ l)/\∀(p q:rX) (H':Hp),Same H H'->H' p=AM (.tup [.int (zw k l ns w),.ref q])->H' q=AM (.lst ((qJ k l w).map V.int))->Q (.ref p) H'
theorem J9{H:Hp}{CO CR CW o D:rX}{k:Nat}{l:List Nat}{ns:List Int}{v:List Nat}{a1:Option V}{Q:VK}(T:TOrd K mg CO CR CW)(ho:OrdAt CO CR CW H o k l ns)(hl:v.length<=1000)(hm:∀c ∈ v,c ∈ l)(hD:H D=AN)(q:∀H',Same H H'->H' D=AM (.lst ((jG l v).map V.int))->Q (.ref D) H') :
  CompS (tx v) (yn 0) vm (tBM K "str" zp (zct K (yj 1) "letters") (zL (yj 0) xR)) 1 [0] [AM (.ref o),a1] H Q D:=by
 have s16:=zO;refine CompS.by (λi AT H'=>Same H H'/\H' D=AM (.lst AT)/\AT=(jG l (v.take i)).map V.int) #[zc hD,ze,rfl] ?_ ?_
 ·refine nm4 ?_;rintro i c AT H' hc ⟨hs,hH,rfl⟩:_;have hci:=(AU.mp hc).1;have hcl:=hm c (aa hc);obtain⟨C,dx,fs,hf,ho',_,hlk⟩:=(ho.same hs).fam
  have hC:Cls K C/\NoAttr K C "letters":=by
   rcases hf with rfl | rfl | rfl
   ·exact#[T.cO,T.lO]
   ·exact#[T.cR,T.lR]
   ·exact#[T.cW,T.lW]
  right
  erw[vm]
  ac_rfl;refine#[xN,_,_,_,ho',hC.1,hC.2,_,hlk,trivial,_,rfl,_,UT hcl,hH,by rw[ac];unfold jG;rw[ac,aJ];lia,CNx.mk hci #[zI hs hD,ze,?_]];unfold jG;rw[z7 hc,ax,ax];rfl
 ·rintro AT H' ⟨hs,hH,rfl⟩;rw[aP]at hH;exact q H' hs hH
theorem ZB:zk ["self","word"] ["self","word"] (zh xz):=by nofun
theorem we{f CO CR CW:rX}{fd:sf}(B:Bt mg)(T:TWS P w K mg base CO CR CW)(F:Fun K "rank" "Order.rank" xz f fd) : zQ P w K mg base CX0 2 f fd ["self","word"] (qT CO CR CW):=by
 exists F.ok ZB
 ·obtain⟨o,k,l,ns,w,rfl,ho,hG,hw,hm,q⟩:=h;refine#[_,(zf (zl (zR (za (zdE T.wO T.wR T.wW' T.cO T.cR T.cW hr (pv 0) (za (pv 1) zd)) (za (xP (own:=["letter"]) (caps:=["self"]) (ix:=[0]) (tt:=vm) (te:=(tBM K "str" zp (zct K (yj 1) "letters") (zL (yj 0) xR))) rfl (zS (sc:=zh xz) rfl (by symm) (by symm) (by symm) rfl (by symm) (by symm) rfl) (WM (zdE T.sO T.sR T.sW T.cO T.cR T.cW hr (pv 0) (za (pv 1) zd))) (λ_ _ _ _ _ _=>zu (i:=0) (show List.Nodup [_,_] by decide) rfl (.inl rfl)) (λ_ _ _ _ _ _=>yM) (λ_ _ _ _ _ _=>(vP bT eX eY V5 (ui (pv 1) rfl) (za (pv 0) zd)))) zd))))),?_];have s16:=zO
  have hsl:(xl k w).length<=1000:=by
   unfold xl;split
   ·rw[cI];exact hw
   ·exact hw
  have hsm:∀c ∈ xl k w,c ∈ l:=λc hc=>by
   unfold xl at hc;split at hc
   ·exact hm c (Bc.mp hc)
   ·exact hm c hc
  have l6:l.length<=6:=(of_decide_eq_true hG.g).2.1;have fin:∀H1,Same H H1->∀D,H1 D=AN->CompS (tx (xl k w)) (yn 0) vm (tBM K "str" zp (zct K (yj 1) "letters") (zL (yj 0) xR)) 1 [0] [AM (.ref o),AM (.str (tx w))] H1 (λx5 H1=>2<=rV/\∀p,H1 p=AN->Q (.ref p) (upd H1 p (.tup [.int (zw k l ns w),x5]))) D:=λH1 s1 D hD=>J9 T.toTOrd (ho.same s1) hsl hsm hD λH' s' hH=>#[⋯,λp hp=>q p D _ (s1.trans (s'.trans (zc hp))) ze (zc hp _ _ hH)];ac_rfl;obtain⟨dx',⟨h1,h2⟩ | ⟨h1,h2⟩ | ⟨h1,h2,t',h3,h4⟩⟩:=id ho
  ·have e1:zw k l ns w=(w.length:Int):=by unfold zw;rw[if_neg ⋯]
   have e2:xl k w=w:=by unfold xl;rw[if_neg ⋯]
   rw[e1,e2]at fin;exact .inl #[_,_,h2,rfl,o,w,rfl,hw,.inl #[_,_,h2,rfl,o,w,rfl,_,rfl,fin H (Same.refl _)]]
  ·have e1:zw k l ns w=(w.length:Int):=by unfold zw;rw[if_neg ⋯]
   have e2:xl k w=w.reverse:=by unfold xl;rw[if_pos h1]
   rw[e1,e2]at fin;exact .inr (.inl #[_,_,h2,rfl,o,w,rfl,hw,.inr (.inl #[_,_,h2,rfl,o,w,rfl,hw,_,rfl,fin H (Same.refl _)])])
  ·have e1:zw k l ns w=Vz l ns w:=by unfold zw;rw[if_pos h1]
   have e2:xl k w=w:=by unfold xl;rw[if_neg ⋯]
   rw[e1,e2]at fin;exact .inr (.inr #[_,_,h3,rfl,o,dx',t',w,l,ns,rfl,hw,l6,hG.nl,hG.nb,h3,h4,λH' s'=>.inr (.inr #[_,_,s' _ _ h3,rfl,o,w,rfl,_,rfl,fin H' s'])])
noncomputable def zM(k:Nat)(l:List Nat)(ns:List Int)(u v:List Nat):Bool:=if zw k l ns u=zw k l ns v then ltI (qJ k l u) (qJ k l v)else decide (zw k l ns u<zw k l ns v)
abbrev DR(P:sj)(w:so)(K:rW)(mg:sk->Option rY)(base:su)(CO CR CW:rX):Prop:=DMF P w K mg base CX0 2 (zcU CO CR CW) "rank" ["self","word"] (λ_=>qT CO CR CW)
theorem kT{H:Hp}{p q:rX}{z:Int}{ns:List Int}(hp:H p=AM (.tup [.int z,.ref q]))(hq:H q=AM (.lst (ns.map V.int))):Is K H (.tup [.int z,.lst (ns.map L3.D.int)]) (.ref p):=by
 erw[Is,Iss]
 exact#[p,_,rfl,SqT.of hp,_,_,rfl,rfl,_,_,rfl,#[q,_,rfl,SqL.of hq,Iss.ints ns],rfl]
theorem xa:∀x:List Int,ltI x x=AQ
 | []=>rfl
 | a::x=>by
  rw[ltI,if_pos rfl];exact xa x
theorem QU(a b:Int)(x y:List Int):ltD (.tup [.int a,.lst (x.map L3.D.int)]) (.tup [.int b,.lst (y.map L3.D.int)])=if a=b then ltI x y else decide (a<b):=by
 erw[ltD,wv,eqD,Ya,qH]
 by_cases h:a=b
 ·subst h;by_cases h2:x=y
  ·subst h2;simp [xa]
  ·simp [h2]
 ·simp [h]
def Qv(CO CR CW:rX):Sp:=λvs H Q _=>∃(o:rX) (k:Nat) (l:List Nat) (ns:List Int) (u v:List Nat),vs=[.ref o,.str (tx u),.str (tx v)]/\OrdAt CO CR CW H o k l ns/\OG l ns k/\u.length<=1000/\v.length<=1000/\(∀c ∈ u,c ∈ l)/\(∀c ∈ v,c ∈ l)/\∀H':Hp,Same H H'->Q (.bl (zM k l ns u v)) H'
theorem jy:zk ["self","one","other"] ["self","one","other"] (zh xL):=by nofun
theorem xm{f CO CR CW:rX}{fd:sf}(B:Bt mg)(DRk:DR P w K mg base CO CR CW)(F:Fun K "before" "Order.before" xL f fd) : zQ P w K mg base CX0 3 f fd ["self","one","other"] (Qv CO CR CW):=by
 exists F.ok jy
 ·obtain⟨o,k,l,ns,u,v,rfl,ho,hG,hu,hv,hmu,hmv,q⟩:=h;refine#[_,(zf (zl (yN (zcO (kO hr)) (zcs DRk hr (pv 0) (za (pv 1) zd)) (zcs DRk hr (pv 0) (za (pv 2) zd)) (zA _)))),?_];have s16:=zO;ac_rfl;obtain⟨C,dx,fs,hf,ho1,hn,_⟩:=ho.fam;have h1:fs.lookup ("rank" : sk)=AN:=hn _ ∅ ∅;refine#[C,hf,dx,fs,ho1,h1,o,k,l,ns,u,rfl,ho,hG,hu,hmu,λp x H1 s1 hp hx=>#[C,hf,dx,fs,s1 _ _ ho1,h1,o,k,l,ns,v,rfl,ho.same s1,hG,hv,hmv,λp' x' H2 s2 hp' hx'=>?_]];refine zbk (kT (s2 _ _ hp) (s2 _ _ hx)) (kT hp' hx') (by erw[dpD,uP,ZA];decide) (by erw[okD,ql];exact#[trivial,v8 _ _,trivial]) ?_;rw[QU];exact q H2 (s1.trans s2)
abbrev DB(P:sj)(w:so)(K:rW)(mg:sk->Option rY)(base:su)(CO CR CW:rX):Prop:=DMF P w K mg base CX0 3 (zcU CO CR CW) "before" ["self","one","other"] (λ_=>Qv CO CR CW)
noncomputable def zas(k:Int)(ls:List Nat)(ns:List Int)(w:List Nat):Int:=(w.map λc=>if k=2 then ns.getD (ls.idxOf c) 0 else 1).sum
theorem Kb{k:Int}{ls:List Nat}{ns:List Int}{w:List Nat}(h:k≠2):zas k ls ns w=(w.length:Int):=by
 unfold zas
 induction w with
 | nil=>rfl
 | cons c w ih =>
  rw[ao,bf,ih,if_neg h,aG];lia
theorem jA{ls:List Nat}{ns:List Int}(f g:Nat->Int):((ls.zip ns).map λp=>(f p.1+g p.1) * p.2).sum=((ls.zip ns).map λp=>f p.1 * p.2).sum+((ls.zip ns).map λp=>g p.1 * p.2).sum:=by
 induction ls.zip ns with
 | nil=>rfl
 | cons p r ih =>
  rw[ao,ao,ao,bf,bf,bf,ih,Int.add_mul];lia
theorem Qs:∀{ls:List Nat} {ns:List Int} {c:Nat},ls.Nodup->ns.length=ls.length->c ∈ ls->((ls.zip ns).map λp=>(if p.1=c then (1:Int)else 0) * p.2).sum=ns.getD (ls.idxOf c) 0
 | [],ns,c,_,_,hc=>(nomatch hc)
 | d::ls,[],c,_,hl,_=>by cases hl
 | d::ls,n::ns,c,hn,hl,hc=>by
  rw[di,ao,bf];have hnd:=Be.mp hn;by_cases h:d=c
  ·subst h
   have h0:∀(l:List Nat) (m:List Int),d ∉ l->((l.zip m).map λp=>(if p.1=d then (1:Int)else 0) * p.2).sum=0:=by
    intro l
    induction l with
    | nil=>intro m _;rfl
    | cons x l ih =>
     intro m hx
     cases m with
     | nil=>rfl
     | cons y m =>
      rw[di,ao,bf,ih m (λq=>hx (ar _ q)),if_neg (show ¬ x=d from λe=>hx (by rw[e];exact aB))];lia
   rw[h0 ls ns hnd.1,if_pos rfl,List.idxOf_cons_self];simp
  ·have hc':c ∈ ls:=by
    rcases AX.mp hc with e | e
    ·exact absurd e.symm h
    ·exact e
   rw[Qs hnd.2 (by simpa using hl) hc',if_neg h,List.idxOf_cons,show (d == c)=AQ by simpa using h];simp
theorem Wq{ls:List Nat}{ns:List Int}(hn:ls.Nodup)(hl:ns.length=ls.length):∀{w:List Nat},(∀x ∈ w,x ∈ ls)->zas 2 ls ns w=Vz ls ns w
 | [],_=>by
  have h0:∀r:List (Nat × Int),(r.map λp=>((([]:List Nat).count p.1:Nat):Int) * p.2).sum=0:=by
   intro r
   induction r with
   | nil=>rfl
   | cons p r ih=>rw[ao,bf,ih];simp
  exact (h0 _).symm
 | c::w,h=>by
  have ih:=Wq hn hl (w:=w) λx hx=>h x (ar _ hx)
  have e1:zas 2 ls ns (c::w)=ns.getD (ls.idxOf c) 0+zas 2 ls ns w:=by
   unfold zas;rw[ao,bf,if_pos rfl]
  rw[e1,ih,<- Qs hn hl (h c aB)];unfold Vz;rw[<- jA (λx=>if x=c then 1 else 0) (λx=>(w.count x:Int))];refine congrArg List.sum (cr λp _=>?_);rw[List.count_cons];by_cases e:c=p.1
  ·rw[if_pos e.symm,if_pos (by simpa using e)];simp [Int.add_comm]
  ·rw[if_neg (λz=>e z.symm),if_neg (by simpa using e)];simp
noncomputable def wt(k:Nat)(ns:List Int)(i:Int):Int:=if k=2 then ns.getD i.toNat 0 else 1
theorem xQ{g:Int->Int}:∀{x:List Int},(∀i ∈ x,0<g i)->0<=(x.map g).sum
 | [],_=>by simp
 | a::x,h=>by
  have h1:=h a aB;have h2:=xQ (x:=x) λi hi=>h i (ar _ hi);rw[ao,bf];lia
theorem wL:∀{x y:List Int},x≠y->ltI x y=!ltI y x
 | [],[],h=>absurd rfl h
 | [],_::_,_=>rfl
 | _::_,[],_=>rfl
 | a::x,b::y,h=>by
  rw[ltI,ltI];by_cases e:a=b
  ·rw[if_pos e,if_pos e.symm];exact wL λq=>h (by rw[e,q])
  ·rw[if_neg e,if_neg λq=>e q.symm];by_cases c:a<b
   ·rw[decide_eq_true c,decide_eq_false ⋯];rfl
   ·rw[decide_eq_false c,decide_eq_true ⋯];rfl
theorem jC:∀{x y z:List Int},ltI x y=AO->ltI y z=AO->ltI x z=AO
 | [],[],_,h,_=>by cases h
 | [],_::_,[],_,h=>by cases h
 | [],_::_,_::_,_,_=>rfl
 | _::_,[],_,h,_=>by cases h
 | _::_,_::_,[],_,h=>by cases h
 | a::x,b::y,c::z,h1,h2=>by
  rw[ltI]at h1 h2 ⊢;by_cases e:a=b
  ·subst e;rw[if_pos rfl]at h1;by_cases f:a=c
   ·rw[if_pos f]at h2 ⊢;exact jC h1 h2
   ·rw[if_neg f]at h2 ⊢;exact h2
  ·rw[if_neg e]at h1;have h1':=of_decide_eq_true h1;by_cases f:b=c
   ·subst f;rw[if_neg e];exact h1
   ·rw[if_neg f]at h2;have h2':=of_decide_eq_true h2;rw[if_neg ⋯];exact decide_eq_true ⋯
theorem Xj:∀(c x y:List Int),ltI (c ++ x) (c ++ y)=ltI x y
 | [],_,_=>rfl
 | a::c,x,y=>by
  rw[bo,bo,ltI,if_pos rfl];exact Xj c x y
theorem Wo{g:Int->Int}{c:List Int}:∀{x y:List Int},(∀i ∈ x,0<g i)->(∀i ∈ y,0<g i)->(x.map g).sum=(y.map g).sum->ltI (x ++ c) (y ++ c)=ltI x y
 | [],[],_,_,_=>xa c
 | [],b::y,_,hy,h=>by
  have h1:=hy b aB;have h2:=xQ (x:=y) λi hi=>hy i (ar _ hi);rw[ao,bf,aI,List.sum_nil]at h;lia
 | a::x,[],hx,_,h=>by
  have h1:=hx a aB;have h2:=xQ (x:=x) λi hi=>hx i (ar _ hi);rw[ao,bf,aI,List.sum_nil]at h;lia
 | a::x,b::y,hx,hy,h=>by
  rw[bo,bo,ltI,ltI];by_cases e:a=b
  ·rw[if_pos e,if_pos e];rw[ao,bf,ao,bf,e]at h;exact Wo (λi hi=>hx i (ar _ hi)) (λi hi=>hy i (ar _ hi)) ⋯
  ·rw[if_neg e,if_neg e]
section
variable{k:Nat}{l:List Nat}{ns:List Int}{t u v:List Nat}
theorem Jh(a b:List Nat):Vz l ns (a ++ b)=Vz l ns a+Vz l ns b:=by
 unfold Vz;rw[<- jA (λx=>(a.count x:Int)) (λx=>(b.count x:Int))];refine congrArg List.sum (cr λp _=>?_);rw[List.count_append];simp
theorem y8(a b:List Nat):zw k l ns (a ++ b)=zw k l ns a+zw k l ns b:=by
 unfold zw;by_cases h:k=2
 ·rw[if_pos h,if_pos h,if_pos h,Jh]
 ·rw[if_neg h,if_neg h,if_neg h,ak];lia
theorem xb(G:OG l ns k):∀{w:List Nat},(∀c ∈ w,c ∈ l)->zw k l ns w=((jG l w).map (wt k ns)).sum:=by
 intro w hm;have hn:l.Nodup:=(of_decide_eq_true G.g).2.2.2
 have e:((jG l w).map (wt k ns)).sum=zas (k:Int) l ns w:=by
  unfold jG zas;rw[dD];refine congrArg List.sum (cr λc _=>?_);show wt k ns _=_;unfold wt;by_cases h:k=2
  ·rw[if_pos h,if_pos ⋯,aN]
  ·rw[if_neg h,if_neg ⋯]
 rw[e];unfold zw;by_cases h:k=2
 ·rw[if_pos h,h];exact (Wq hn G.nl hm).symm
 ·rw[if_neg h,Kb ⋯]
theorem YB(G:OG l ns k)(hm:∀c ∈ u,c ∈ l):∀i ∈ jG l u,0<wt k ns i:=by
 intro i hi;obtain⟨c,hc,rfl⟩:=AV.mp hi;have hlt:=bq (hm c hc);have hl:=G.nl;unfold wt;split
 ·rw[aN,ah,ag ⋯];have:=(G.nb _ (List.getElem_mem (l:=ns) (n:=l.idxOf c) ⋯)).1;show 0<ns[l.idxOf c];lia
 ·decide
theorem um(G:OG l ns k)(hm:∀c ∈ u,c ∈ l):0<=zw k l ns u:=by
 rw[xb G hm];exact xQ (YB G hm)
theorem j2(G:OG l ns k)(hm:∀c ∈ u,c ∈ l)(h:u≠[]):0<zw k l ns u:=by
 cases u with
 | nil=>exact absurd rfl h
 | cons a u =>
  have h1:=YB G hm (l.idxOf a:Nat) (AV.mpr #[a,aB,rfl]);have h2:0<=((jG l u).map (wt k ns)).sum:=xQ (YB (u:=u) G λc hc=>hm c (ar _ hc));rw[xb G hm];show 0<((((l.idxOf a:Nat):Int)::jG l u).map (wt k ns)).sum;rw[ao,bf];lia
theorem Zl:∀{u v:List Nat},(∀c ∈ u,c ∈ l)->(∀c ∈ v,c ∈ l)->jG l u=jG l v->u=v
 | [],[],_,_,_=>rfl
 | [],_::_,_,_,h=>by cases h
 | _::_,[],_,_,h=>by cases h
 | a::u,b::v,hu,hv,h=>by
  unfold jG at h;rw[ao,ao]at h;injection h with h1 h2;have h3:l.idxOf a=l.idxOf b:=⋯;have ha:=dj (bq (hu a aB));have hb:=dj (bq (hv b aB))
  have:a=b:=by
   rw[<- ha,<- hb]
   erw[h3]
  rw[this,Zl (λc hc=>hu c (ar _ hc)) (λc hc=>hv c (ar _ hc)) h2]
theorem xu:zM k l ns u u=AQ:=by
 unfold zM;rw[if_pos rfl,xa]
theorem WJ(hu:∀c ∈ u,c ∈ l)(hv:∀c ∈ v,c ∈ l)(h:qJ k l u=qJ k l v):u=v:=by
 unfold qJ xl at h;by_cases e:k=1
 ·rw[if_pos e,if_pos e]at h;exact List.reverse_inj.mp (Zl (λc hc=>hu c (Bc.mp hc)) (λc hc=>hv c (Bc.mp hc)) h)
 ·rw[if_neg e,if_neg e]at h;exact Zl hu hv h
theorem jj(hu:∀c ∈ u,c ∈ l)(hv:∀c ∈ v,c ∈ l)(h:u≠v):zM k l ns u v=!zM k l ns v u:=by
 unfold zM;by_cases e:zw k l ns u=zw k l ns v
 ·rw[if_pos e,if_pos e.symm];exact wL λq=>h (WJ hu hv q)
 ·rw[if_neg e,if_neg λq=>e q.symm];by_cases c:zw k l ns u<zw k l ns v
  ·rw[decide_eq_true c,decide_eq_false ⋯];rfl
  ·rw[decide_eq_false c,decide_eq_true ⋯];rfl
theorem jl(h1:zM k l ns t u=AO)(h2:zM k l ns u v=AO):zM k l ns t v=AO:=by
 unfold zM at h1 h2 ⊢;generalize zw k l ns t=a at *;generalize zw k l ns u=b at *;generalize zw k l ns v=c at *;by_cases e:a=b
 ·subst e;rw[if_pos rfl]at h1;by_cases f:a=c
  ·rw[if_pos f]at h2 ⊢;exact jC h1 h2
  ·rw[if_neg f]at h2 ⊢;exact h2
 ·rw[if_neg e]at h1;have h1':=of_decide_eq_true h1;by_cases f:b=c
  ·subst f;rw[if_neg e];exact h1
  ·rw[if_neg f]at h2;have h2':=of_decide_eq_true h2;rw[if_neg ⋯];exact decide_eq_true ⋯
theorem XS(a b:List Nat):jG l (a ++ b)=jG l a ++ jG l b:=ax
theorem ZS(G:OG l ns k)(hu:∀c ∈ u,c ∈ l)(hv:∀c ∈ v,c ∈ l)(e:zw k l ns u=zw k l ns v)(c:List Int):ltI (jG l u ++ c) (jG l v ++ c)=ltI (jG l u) (jG l v):=by
 rw[xb G hu,xb G hv]at e;exact Wo (YB G hu) (YB G hv) e
theorem kC(G:OG l ns k)(hu:∀c ∈ u,c ∈ l):zw k l ns u.reverse=zw k l ns u:=by
 rw[xb G hu,xb G λc hc=>hu c (Bc.mp hc)];unfold jG;rw[eL,eL,List.sum_reverse]
theorem Z7(G:OG l ns k)(ht:∀c ∈ t,c ∈ l)(hu:∀c ∈ u,c ∈ l)(hv:∀c ∈ v,c ∈ l):zM k l ns (t ++ u) (t ++ v)=zM k l ns u v/\zM k l ns (u ++ t) (v ++ t)=zM k l ns u v:=by
 have hur:∀c ∈ u.reverse,c ∈ l:=λc hc=>hu c (Bc.mp hc);have hvr:∀c ∈ v.reverse,c ∈ l:=λc hc=>hv c (Bc.mp hc);unfold zM;rw[y8,y8,y8,y8];by_cases e:zw k l ns u=zw k l ns v
 ·rw[if_pos ⋯,if_pos e,if_pos ⋯];unfold qJ xl;by_cases f:k=1
  ·erw[if_pos f,List.reverse_append,XS]
   exact#[ZS G hur hvr (by rw[kC G hu,kC G hv,e]) _,Xj _ _ _]
  ·erw[if_neg f,XS]
   exact#[Xj _ _ _,ZS G hu hv e _]
 ·rw[if_neg ⋯,if_neg e,if_neg ⋯];exact#[by congr 1;exact propext ⋯,by congr 1;exact propext ⋯]
theorem JY(G:OG l ns k)(ht:∀c ∈ t,c ∈ l)(hu:∀c ∈ u,c ∈ l)(hv:∀c ∈ v,c ∈ l)(h:t ++ u ++ v≠u):zM k l ns u (t ++ u ++ v)=AO/\zM k l ns (t ++ u ++ v) u=AQ:=by
 have h0:0<zw k l ns t+zw k l ns v:=by
  have h1:=um G ht;have h2:=um G hv;by_cases e:t=[]
  ·by_cases f:v=[]
   ·subst e f;simp at h
   ·have:=j2 G hv f;lia
  ·have:=j2 G ht e;lia
 unfold zM;rw[y8,y8,if_neg ⋯,if_neg ⋯];exact#[decide_eq_true ⋯,decide_eq_false ⋯]
end
theorem Yo:∀x y:List Int,ltI x y=AO->ltI y x=AQ
 | [],[],h=>by cases h
 | [],_::_,_=>rfl
 | _::_,[],h=>by cases h
 | a::x,b::y,h=>by
  rw[ltI]at h ⊢;by_cases e:a=b
  ·rw[if_pos e]at h;rw[if_pos e.symm];exact Yo x y h
  ·rw[if_neg e]at h;rw[if_neg (λq=>e q.symm)];have:=of_decide_eq_true h;exact decide_eq_false ⋯
theorem Xg{k:Nat}{l:List Nat}{ns:List Int}{u v:List Nat}(h:zM k l ns u v=AO):zM k l ns v u=AQ:=by
 unfold zM at h ⊢;by_cases e:zw k l ns u=zw k l ns v
 ·rw[if_pos e]at h;rw[if_pos e.symm];exact Yo _ _ h
 ·rw[if_neg e]at h;rw[if_neg (λq=>e q.symm)];have:=of_decide_eq_true h;exact decide_eq_false ⋯
noncomputable def stJ(l:List Nat)(ps:List zv)(q j:Nat):Bool:=((ps[j]?).map λp=>zx l (q:Int) p.1).getD AQ
theorem j4{l:List Nat}{ps:List zv}{q j:Nat}{p:zv}(h:ps[j]? = AM p):stJ l ps q j=zx l (q:Int) p.1:=by
 unfold stJ;rw[h];rfl
theorem vv{l:List Nat}{ps:List zv}{q j:Nat}(h:stJ l ps q j=AO):j<ps.length/\∃p,ps[j]? = AM p/\zx l (q:Int) p.1=AO:=by
 unfold stJ at h
 cases e:ps[j]? with
 | none=>rw[e]at h;cases h
 | some p =>
  rw[e]at h;exact#[(AU.mp e).1,p,rfl,h]
noncomputable def qZ(l:List Nat)(ps:List zv)(q i:Nat):List (Nat × Nat):=((aH i).filter (stJ l ps q)).map λj=>(j,q)
noncomputable def xB(l:List Nat)(ps:List zv)(k:Nat):List (Nat × Nat):=(aH k).flatMap λq=>qZ l ps q ps.length
theorem W2(l:List Nat)(ps:List zv)(q i:Nat):qZ l ps q (i+1)=qZ l ps q i ++ (if stJ l ps q i=AO then [(i,q)]else []):=by
 unfold qZ;rw[bR,cN,ax];congr 1;by_cases h:stJ l ps q i=AO
 ·rw[if_pos h,eP h];rfl
 ·rw[if_neg h,eQ h];rfl
theorem j3(l:List Nat)(ps:List zv)(k:Nat):xB l ps (k+1)=xB l ps k ++ qZ l ps k ps.length:=by
 unfold xB;rw[bR,da];simp
theorem U4(l:List Nat)(ps:List zv)(q i:Nat):(qZ l ps q i).length<=i:=by
 unfold qZ;rw[ac];have:=cU (stJ l ps q) (aH i);rw[cj]at this;exact this
theorem QH(l:List Nat)(ps:List zv):∀k,(xB l ps k).length<=k * ps.length
 | 0=>by simp [xB]
 | k+1=>by
  rw[j3,ak,eC];have:=QH l ps k;have:=U4 l ps k ps.length;lia
theorem usesN_mem{l:List Nat}{ps:List zv}{q i:Nat}{u:Nat × Nat}:u ∈ qZ l ps q i ↔ u.2=q/\u.1<i/\stJ l ps q u.1=AO:=by
 unfold qZ;rw[List.mem_map];constructor
 ·rintro⟨j,hj,rfl⟩;rw[List.mem_filter,fg]at hj;exact#[rfl,hj.1,hj.2]
 ·rintro⟨h1,h2,h3⟩;exact#[u.1,Bb.mpr #[Ba.mpr h2,h3],by rw[<- h1]]
theorem usesK_mem{l:List Nat}{ps:List zv}{k:Nat}{u:Nat × Nat}:u ∈ xB l ps k ↔ u.2<k/\stJ l ps u.2 u.1=AO:=by
 unfold xB;rw[List.mem_flatMap];constructor
 ·rintro⟨q,hq,hu⟩;obtain⟨h1,h2,h3⟩:=usesN_mem.mp hu;rw[fg]at hq;rw[h1];exact#[hq,h3]
 ·rintro⟨h1,h2⟩;exact#[u.2,Ba.mpr h1,usesN_mem.mpr #[rfl,(vv h2).1,h2]]
def uLt(a b:Nat × Nat):Prop:=a.2<b.2\/(a.2=b.2/\a.1<b.1)
theorem u7(l:List Nat)(ps:List zv)(q:Nat):∀i,(qZ l ps q i).Pairwise uLt
 | 0=>by simp [qZ]
 | i+1=>by
  rw[W2];refine Bo.mpr #[u7 l ps q i,?_,λa ha b hb=>?_]
  ·split
   ·exact eO _ _
   ·exact List.Pairwise.nil
  ·obtain⟨h1,h2,_⟩:=usesN_mem.mp ha;split at hb
   ·rw[AY.mp hb];exact .inr #[h1,h2]
   ·cases hb
theorem wE(l:List Nat)(ps:List zv):∀k,(xB l ps k).Pairwise uLt
 | 0=>by simp [xB]
 | k+1=>by
  rw[j3];refine Bo.mpr #[wE l ps k,u7 l ps k _,λa ha b hb=>?_];have h1:=(usesK_mem.mp ha).1;have h2:=(usesN_mem.mp hb).1;exact .inl ⋯
def FirstN(l:List Nat)(ps:List zv)(lo hi n:Nat)(r:Option (Nat × Nat)):Prop :=
 (r=AN/\∀j q,j<n->lo<=q->q<hi->stJ l ps q j=AQ) \/
 ∃n0 q0,r=AM (n0,q0)/\n0<n/\lo<=q0/\q0<hi/\stJ l ps q0 n0=AO/\∀j q,j<n->lo<=q->stJ l ps q j=AO->q0<q\/(q0=q/\n0<=j)
theorem FirstN.uniq{l:List Nat}{ps:List zv}{lo hi n:Nat}{r r':Option (Nat × Nat)}(h:FirstN l ps lo hi n r)(h':FirstN l ps lo hi n r'):r=r':=by
 rcases h with ⟨rfl,h⟩ | ⟨n0,q0,rfl,a1,a2,a3,a4,a5⟩
 ·rcases h' with ⟨rfl,_⟩ | ⟨n0,q0,rfl,a1,a2,a3,a4,a5⟩
  ·rfl
  ·rw[h n0 q0 a1 a2 a3]at a4;cases a4
 ·rcases h' with ⟨rfl,h⟩ | ⟨n1,q1,rfl,b1,b2,b3,b4,b5⟩
  ·rw[h n0 q0 a1 a2 a3]at a4;cases a4
  ·have x1:=a5 n1 q1 b1 b2 b4;have x2:=b5 n0 q0 a1 a2 a4;have e1:q0=q1:=⋯;have e2:n0=n1:=⋯;rw[e1,e2]
theorem Vk{l:List Nat}{ps:List zv}{r:Option (Nat × Nat)}(h:FirstN l ps 0 l.length ps.length r):r=(xB l ps l.length).head?:=by
 have hs:=wE l ps l.length;refine h.uniq ?_
 cases e:xB l ps l.length with
 | nil =>
  refine .inl #[rfl,λj q _ _ hq=>?_]
  cases hb:stJ l ps q j with
  | false=>rfl
  | true =>
   have:(j,q) ∈ xB l ps l.length:=usesK_mem.mpr #[hq,hb];rw[e]at this;cases this
 | cons u us =>
  rw[e]at hs;have hu:u ∈ xB l ps l.length:=by rw[e];exact aB
  obtain⟨h1,h2⟩:=usesK_mem.mp hu;refine .inr #[u.1,u.2,rfl,(vv h2).1,aE _,h1,h2,λj q hj _ hb=>?_];by_cases hq:q<l.length
  ·have:(j,q) ∈ xB l ps l.length:=usesK_mem.mpr #[hq,hb];rw[e]at this;rcases AX.mp this with e2 | e2
   ·rw[<- e2];exact .inr #[rfl,al _]
   ·rcases (Bp.mp hs).1 _ e2 with h | ⟨h,h'⟩
    ·exact .inl h
    ·exact .inr #[h,cT h']
  ·exact .inl ⋯
theorem jo{l p:List Nat}{q:Nat}(hp:p≠[])(h:zx l (q:Int) p=AO):q<l.length:=by
 obtain⟨h0,h1,_⟩:=of_decide_eq_true h;have:0<p.length:=Bh.mpr hp;lia
theorem FirstN.keep{l:List Nat}{ps:List zv}{lo hi n:Nat}{r:Option (Nat × Nat)}{p:zv}(h:FirstN l ps lo hi n r)(hp:ps[n]? = AM p)(hn:∀q:Nat,lo<=q->q<(r.map Prod.snd).getD hi->zx l (q:Int) p.1=AQ):FirstN l ps lo hi (n+1) r:=by
 rcases h with ⟨rfl,h⟩ | ⟨n0,q0,rfl,a1,a2,a3,a4,a5⟩
 ·refine .inl #[rfl,λj q hj h1 h2=>?_];by_cases e:j<n
  ·exact h j q e h1 h2
  ·have:j=n:=⋯;subst this;rw[j4 hp];exact hn q h1 h2
 ·refine .inr #[n0,q0,rfl,⋯,a2,a3,a4,λj q hj h1 h2=>?_];by_cases e:j<n
  ·exact a5 j q e h1 h2
  ·have:j=n:=⋯;subst this;rw[j4 hp]at h2;by_cases hq:q<q0
   ·rw[hn q h1 hq]at h2;cases h2
   ·lia
theorem FirstN.take{l:List Nat}{ps:List zv}{lo hi n k:Nat}{r:Option (Nat × Nat)}{p:zv}(h:FirstN l ps lo hi n r)(hp:ps[n]? = AM p)(h1:lo<=k)(h2:k<(r.map Prod.snd).getD hi)(h3:zx l (k:Int) p.1=AO)(hn:∀q:Nat,lo<=q->q<k->zx l (q:Int) p.1=AQ):FirstN l ps lo hi (n+1) (AM (n,k)):=by
 have hk:k<hi/\∀j q,j<n->lo<=q->stJ l ps q j=AO->k<q:=by
  rcases h with ⟨rfl,h⟩ | ⟨n0,q0,rfl,a1,a2,a3,a4,a5⟩
  ·refine#[h2,λj q hj hl hb=>?_];by_cases hq:q<hi
   ·rw[h j q hj hl hq]at hb;cases hb
   ·have h2':k<hi:=h2;lia
  ·have h2':k<q0:=h2;refine#[⋯,λj q hj hl hb=>?_];have:=a5 j q hj hl hb;lia
 refine .inr #[n,k,rfl,⋯,h1,hk.1,by rw[j4 hp];exact h3,λj q hj hl hb=>?_];by_cases e:j<n
 ·exact .inl (hk.2 j q e hl hb)
 ·have:j=n:=⋯;subst this;rw[j4 hp]at hb;by_cases hq:q<k
  ·rw[hn q hl hq]at hb;cases hb
  ·lia
theorem FirstN.window{l:List Nat}{ps:List zv}{lo mid hi n:Nat}{r:Option (Nat × Nat)}(h0:FirstN l ps lo mid n AN)(hm:lo<=mid)(h:FirstN l ps mid hi n r):FirstN l ps lo hi n r:=by
 have h0':∀j q,j<n->lo<=q->q<mid->stJ l ps q j=AQ:=by
  rcases h0 with ⟨_,h⟩ | ⟨_,_,h,_⟩
  ·exact h
  ·cases h
 rcases h with ⟨rfl,h⟩ | ⟨n0,q0,rfl,a1,a2,a3,a4,a5⟩
 ·refine .inl #[rfl,λj q hj h1 h2=>?_];by_cases e:q<mid
  ·exact h0' j q hj h1 e
  ·exact h j q hj ⋯ h2
 ·refine .inr #[n0,q0,rfl,a1,⋯,a3,a4,λj q hj h1 h2=>?_];by_cases e:q<mid
  ·rw[h0' j q hj h1 e]at h2;cases h2
  ·exact a5 j q hj ⋯ h2
def NeL(ps:List zv):Prop:=∀p ∈ ps,p.1≠[]
theorem FirstN.toEnd{l:List Nat}{ps:List zv}{lo hi n:Nat}{r:Option (Nat × Nat)}(hN:NeL ps)(h:FirstN l ps lo hi n r)(hl:r=AN->l.length<=hi):FirstN l ps lo l.length n r:=by
 have hlt:∀j q,stJ l ps q j=AO->q<l.length:=λj q hb=>by
  obtain⟨_,p,hp,hs⟩:=vv hb;exact jo (hN p (aa hp)) hs
 rcases h with ⟨rfl,h⟩ | ⟨n0,q0,rfl,a1,a2,a3,a4,a5⟩
 ·exact .inl #[rfl,λj q hj h1 h2=>h j q hj h1 (by have:=hl rfl;lia)]
 ·exact .inr #[n0,q0,rfl,a1,a2,hlt _ _ a4,a4,a5]
noncomputable def zJ(l:List Nat)(ps:List zv):Option (Nat × Nat):=(xB l ps l.length).head?
theorem WG{l:List Nat}{ps:List zv}{r:Option (Nat × Nat)}(h:FirstN l ps 0 l.length ps.length r):r=zJ l ps:=Vk h
theorem WR(l:List Nat)(ps:List zv)(hN:NeL ps):FirstN l ps 0 l.length ps.length (zJ l ps):=by
 have hs:=wE l ps l.length;unfold zJ
 cases e:xB l ps l.length with
 | nil =>
  refine .inl #[rfl,λj q _ _ hq=>?_]
  cases hb:stJ l ps q j with
  | false=>rfl
  | true =>
   have:(j,q) ∈ xB l ps l.length:=usesK_mem.mpr #[hq,hb];rw[e]at this;cases this
 | cons u us =>
  rw[e]at hs;have hu:u ∈ xB l ps l.length:=by rw[e];exact aB
  obtain⟨h1,h2⟩:=usesK_mem.mp hu;refine .inr #[u.1,u.2,rfl,(vv h2).1,aE _,h1,h2,λj q hj _ hb=>?_]
  have hq:q<l.length:=by
   obtain⟨_,p,hp,hs⟩:=vv hb;exact jo (hN p (aa hp)) hs
  have:(j,q) ∈ xB l ps l.length:=usesK_mem.mpr #[hq,hb];rw[e]at this;rcases AX.mp this with e2 | e2
  ·rw[<- e2];exact .inr #[rfl,al _]
  ·rcases (Bp.mp hs).1 _ e2 with h | ⟨h,h'⟩
   ·exact .inl h
   ·exact .inr #[h,cT h']
noncomputable def X5(ps:List zv)(n:Nat):zv:=ps.getD n ([],[])
theorem xU{ps:List zv}{n:Nat}{p:zv}(h:ps[n]? = AM p):X5 ps n=p:=by
 unfold X5;rw[ah,h];rfl
noncomputable def WC(l:List Nat)(ps:List zv)(u:Nat × Nat):List Nat:=y0 l (u.2:Int) (X5 ps u.1).1 (X5 ps u.1).2
noncomputable def VC(ps:List zv)(l:List Nat):List Nat:=((zJ l ps).map (WC l ps)).getD l
noncomputable def wAt(ps:List zv)(l:List Nat):Nat->List Nat
 | 0=>l
 | j+1=>VC ps (wAt ps l j)
noncomputable def sAt(ps:List zv)(l:List Nat)(j:Nat):List (Nat × Nat):=(aH j).map λi=>(zJ (wAt ps l i) ps).getD (0,0)
theorem Wu(ps:List zv)(l:List Nat)(j:Nat):sAt ps l (j+1)=sAt ps l j ++ [(zJ (wAt ps l j) ps).getD (0,0)]:=by
 unfold sAt;rw[bR,ax];rfl
theorem qW(ps:List zv)(l:List Nat)(j:Nat):(sAt ps l j).length=j:=by
 unfold sAt;rw[ac,cj]
theorem vb{ps:List zv}{l:List Nat}{j:Nat}{u:Nat × Nat}(h:zJ (wAt ps l j) ps=AM u):wAt ps l (j+1)=WC (wAt ps l j) ps u:=by
 show VC ps (wAt ps l j)=_;unfold VC;rw[h];rfl
def Vf(ps:List zv)(l:List Nat)(j:Nat):Prop:=∀i,i<j->zJ (wAt ps l i) ps≠AN
theorem Jg{ps:List zv}{l:List Nat}{i j:Nat}(h1:Vf ps l i)(h2:zJ (wAt ps l i) ps=AN)(h3:Vf ps l j)(h4:zJ (wAt ps l j) ps=AN):i=j:=by
 rcases ef i j with h | h | h
 ·exact absurd h2 (h3 i h)
 ·exact h
 ·exact absurd h4 (h1 j h)
theorem Vw{l:List Nat}{ps:List zv}{n q M lo:Nat}(h:FirstN l ps 0 l.length ps.length (AM (n,q)))(hN:NeL ps)(hM:∀p ∈ ps,p.1.length<=M)(hlo:lo=0\/lo+M<=q+1):FirstN (WC l ps (n,q)) ps 0 lo ps.length AN:=by
 refine .inl #[rfl,λj x hj _ hx=>?_];rcases h with ⟨h,_⟩ | ⟨n0,q0,e,a1,a2,a3,a4,a5⟩
 ·cases h
 ·injection e with e;injection e with e1 e2;subst e1 e2
  cases hb:stJ (WC l ps (n,q)) ps x j with
  | false=>rfl
  | true =>
   obtain⟨_,p,hp,hs⟩:=vv hb;have hpm:=hM p (aa hp);have hpn:=Bh.mpr (hN p (aa hp));have hxq:x+p.1.length<=q:=⋯;obtain⟨s0,s1,s2⟩:=of_decide_eq_true hs;rw[aN]at s2;obtain⟨_,p2,hp2,hs2⟩:=vv a4;obtain⟨t0,t1,t2⟩:=of_decide_eq_true hs2
   have e4:(WC l ps (n,q)).take q=l.take q:=by
    unfold WC y0;rw[aN,aO,bh (by rw[aJ];lia),fh,fB]
   have e5:∀z:List Nat,((z.take q).drop x).take p.1.length=(z.drop x).take p.1.length:=λz=>by
    rw[List.drop_take,fh];congr 1;lia
   have s3:(l.drop x).take p.1.length=p.1:=by rw[<- e5,<- e4,e5,s2]
   have:stJ l ps x j=AO:=by
    rw[j4 hp];exact decide_eq_true #[⋯,⋯,by rw[aN];exact s3]
   have:=a5 j x hj (aE _) this;lia
theorem FirstN.lower{l:List Nat}{ps:List zv}{lo hi n:Nat}(h:FirstN l ps 0 hi n AN)(hl:lo<=hi):FirstN l ps 0 lo n AN:=by
 rcases h with ⟨_,h⟩ | ⟨_,_,h,_⟩
 ·exact .inl #[rfl,λj q hj h1 h2=>h j q hj h1 ⋯]
 ·cases h
theorem JU{l:List Nat}{ps:List zv}{n q m:Nat}(h:FirstN l ps 0 l.length ps.length (AM (n,q)))(hm:∀p ∈ ps,p.2.length<=m):(WC l ps (n,q)).length<=l.length+m:=by
 rcases h with ⟨h,_⟩ | ⟨n0,q0,e,a1,a2,a3,a4,a5⟩
 ·cases h
 ·injection e with e;injection e with e1 e2;subst e1 e2;obtain⟨_,p,hp,hs⟩:=vv a4;have:=hm p (aa hp);have er:=xU hp;unfold WC y0
  erw[ak,aJ,bn,er]
  lia
theorem qS{ps:List zv}{l:List Nat}{m:Nat}(hN:NeL ps)(hm:∀p ∈ ps,p.2.length<=m):∀j,(wAt ps l j).length<=l.length+j * m
 | 0=>by simp [wAt]
 | j+1=>by
  have ih:=qS (l:=l) hN hm j;have hf:=WR (wAt ps l j) ps hN;rw[eC]
  cases e:zJ (wAt ps l j) ps with
  | none =>
   show (VC ps (wAt ps l j)).length<=_;unfold VC;rw[e];show (wAt ps l j).length<=_;lia
  | some u =>
   rw[vb e];rw[e]at hf;obtain⟨a,b⟩:=u;have:=JU hf hm;lia
def UseAt(H:Hp)(r:Option (Nat × Nat))(v:V):Prop:=(r=AN/\v=.non)\/∃(n q:Nat) (p:rX),r=AM (n,q)/\v=.ref p/\H p=AM (.tup [.int (n:Nat),.int (q:Nat)])
theorem UseAt.same{H H':Hp}{r:Option (Nat × Nat)}{v:V}(h:UseAt H r v)(s:Same H H'):UseAt H' r v:=by
 rcases h with h | ⟨n,q,p,h1,h2,h3⟩
 ·exact .inl h
 ·exact .inr #[n,q,p,h1,h2,s _ _ h3]
theorem Qp{l p:List Nat}{lo hi:Int}{H:Hp}{Q:VK}(h0:0<=lo)(h1:0<=hi)(h:∀r:Int,((r=-1/\∀q:Nat,lo<=q->(q:Int)+p.length<=hi->zx l q p=AQ)\/∃k:Nat,r=k/\lo<=k/\(k:Int)+p.length<=hi/\zx l k p=AO/\∀q:Nat,lo<=q->q<k->zx l q p=AQ)->Q (.int r) H):K7 (.str (tx l)) [.str (tx p),.int lo,.int hi] H Q:=by
 refine#[l,p,lo,hi,rfl,rfl,h0,h1,λr hr=>h r ?_]
 have no:∀q:Nat,((l.drop q).take p.length≠p\/¬ q+p.length<=l.length)->zx l q p=AQ:=λq hq=>decide_eq_false λ⟨_,b,c⟩=>by
  rcases hq with hq | hq
  ·exact hq c
  ·lia
 rcases hr with ⟨rfl,hn⟩ | ⟨k,rfl,k1,k2,k3,k4,hn⟩
 ·refine .inl #[rfl,λq q1 q2=>no q ?_];by_cases e:q+p.length<=l.length
  ·exact .inl (hn q q1 q2 e)
  ·exact .inr e
 ·exact .inr #[k,rfl,k1,k2,decide_eq_true #[⋯,⋯,k4],λq q1 q2=>no q (.inl (hn q q1 q2))]
def uJ(K:rW):Sp:=λvs H Q _=>∃(a:rX) (l:List Nat) (ps:List zv) (st en:Nat),vs=[.ref a,.str (tx l),.int (st:Nat),.int (en:Nat)]/\LsA K H a (ps.map dR)/\NeL ps/\(∀p ∈ ps,p.1.length<=1000)/\∀(r:Option (Nat × Nat)) (v:V) (H':Hp),Same H H'->UseAt H' r v->FirstN l ps st en ps.length r->Q v H'
theorem Y1{a:rX}{l:List Nat}{ps:List zv}{st en:Nat}{s e:Int}{H:Hp}{Q:VK}{E:XK}(hs:s=(st:Nat))(he:e=(en:Nat))(hA:LsA K H a (ps.map dR))(hN:NeL ps)(hP:∀p ∈ ps,p.1.length<=1000)(q:∀(r:Option (Nat × Nat)) (v:V) (H':Hp),Same H H'->UseAt H' r v->FirstN l ps st en ps.length r->Q v H'):uJ K [.ref a,.str (tx l),.int s,.int e] H Q E:=by
 subst hs he;exact#[a,l,ps,st,en,rfl,hA,hN,hP,q]
theorem gh:zk ["rules","word","start","end","found","number","rule","place"] ["rules","word","start","end"] (zh xC):=by nofun
theorem jp{f:rX}{fd:sf}(B:Bt mg)(F:Fun K "first_within" "first_within" xC f fd) : zQ P w K mg base CX0 1 f fd ["rules","word","start","end"] (uJ K):=by
 exists F.ok gh
 ·obtain⟨a,l,ps,st,en,rfl,hA,hN,hP,q⟩:=h
  refine#[_,(zi (zD 4 gh.nd yf)
   (zi (zN PassesOwn.never rfl (ve rfl B.enum (za (pv 0) zd)) (uQ (n:=2) rfl (z8 (zu (i:=5) gh.nd rfl (.inl rfl)) (z8 (zu (i:=6) gh.nd rfl (.inl rfl)) wy)))
    (zB (zD 7 gh.nd (vP bT fj fk zca (pv 1) (za (zo ix_tup (pv 6) zg) (za (pv 2) (za (zG yY (zG j1 (pv 3) zg) (zC B.len (zo ix_tup (pv 6) zg))) zd)))))
    (zf (zK (zy op_ge' (pv 7) zg (zA _))
     (zB (zD 4 gh.nd (zR (za (pv 5) (za (pv 7) zd))))
     (zf (zD 3 gh.nd (pv 7))))
     zr))))
   (zf (zl (pv 4))))),?_]
  have s16:=zO;obtain⟨xs,hX,hI⟩:=id hA;have hxl:=hI.len;rw[ac]at hxl;have s16:=zO;refine zj (λσ H'=>H'=H/\σ=[AM (.ref a),AM (.str (tx l)),AM (.int (st:Nat)),AM (.int (en:Nat)),AM (.non),AN,AN,AN]) ?_ ?_
  ·rfl'
  rintro σ H1 ⟨rfl,rfl⟩:_;right;refine zj (λσ H'=>Same H1 H'/\∃(r:Option (Nat × Nat)) (v:V) (v3 v5 v6 v7:Option V),UseAt H' r v/\FirstN l ps st en ps.length r/\σ=[AM (.ref a),AM (.str (tx l)),AM (.int (st:Nat)),v3,AM (v),v5,v6,v7]) ?_ ?_
  ·rfl'
   refine#[#[_,SqL.of hX],ForEL.by (xs:=xs) (λi σ H'=>Same H1 H'/\∃(r:Option (Nat × Nat)) (v:V) (v5 v6 v7:Option V),UseAt H' r v/\FirstN l ps st en i r/\σ=[AM (.ref a),AM (.str (tx l)),AM (.int (st:Nat)),AM (.int (((r.map Prod.snd).getD en:Nat):Int)),AM (v),v5,v6,v7]) #[Same.refl _,AN,.non,AN,AN,AN,.inl #[rfl,rfl],.inl #[rfl,λj q h=>absurd h (bQ j)],rfl] (λi σ H' _ h=>SqL.of (h.1 _ _ hX)) ?_ ?_]
   ·rintro i y σ H' p hy ⟨hs,r,v,v5,v6,v7,hu,hF,rfl⟩ hpn;obtain⟨rl,pr,hri,rfl,hqr⟩:=hI.getR hy;have hm:=aa hri;have hne:=Bh.mpr (hN rl hm);have hrl:=hP rl hm;have s2:=hs.trans (zc (o:=.tup [.int (i:Nat),.ref pr]) hpn);have hq2:=zt s2 hqr;have hu2:=hu.same (zc (o:=.tup [.int (i:Nat),.ref pr]) hpn)
    rfl'
    refine#[_,SqT.of ze,rfl,_,_,rfl,_,_,rfl,rfl,_,rfl,_,hq2,_,rfl,_,rfl,_,hq2,_,rfl,_,#[by rw[z6];lia,rfl],Qp ⋯ (by rw[z6];lia) λz hz=>#[z,rfl,?_]];rw[z6]at hz;rcases hz with ⟨rfl,hn⟩ | ⟨k,rfl,k1,k2,k3,hn⟩
    ·rw[if_neg ∅];exact#[s2,r,v,hu2,hF.keep hri λq q1 q2=>hn q ⋯ ⋯,rfl,rfl]
    ·rw[if_pos ⋯];refine#[⋯,λp2 hp2=>#[s2.trans (zc hp2),AM (i,k),.ref p2,.inr #[i,k,p2,rfl,rfl,ze],hF.take hri ⋯ ⋯ k3 λq q1 q2=>hn q ⋯ q2,rfl,rfl]]
   ·rintro σ H' ⟨hs,r,v,v5,v6,v7,hu,hF,rfl⟩;rw[hxl]at hF;exact#[hs,r,v,hu,hF,_,_,_,_,rfl]
  rintro σ H2 ⟨s2,r,v,v3,v5,v6,v7,hu,hF,rfl⟩:_;right
  rfl'
  exact q r v H2 s2 hu hF
structure zfA(mg:sk->Option rY):Prop where
 g:∃t,mg "WINDOW" = AM (.int 128 t)
def kY(K:rW):Sp:=λvs H Q _=>∃(a:rX) (l:List Nat) (ps:List zv) (st:Nat),vs=[.ref a,.str (tx l),.int (st:Nat)]/\LsA K H a (ps.map dR)/\NeL ps/\(∀p ∈ ps,p.1.length<=1000)/\l.length<=100000/\∀(r:Option (Nat × Nat)) (v:V) (H':Hp),Same H H'->UseAt H' r v->FirstN l ps st l.length ps.length r->Q v H'
theorem Ym{a:rX}{l:List Nat}{ps:List zv}{st:Nat}{s:Int}{H:Hp}{Q:VK}{E:XK}(hs:s=(st:Nat))(hA:LsA K H a (ps.map dR))(hN:NeL ps)(hP:∀p ∈ ps,p.1.length<=1000)(hl:l.length<=100000)(q:∀(r:Option (Nat × Nat)) (v:V) (H':Hp),Same H H'->UseAt H' r v->FirstN l ps st l.length ps.length r->Q v H'):kY K [.ref a,.str (tx l),.int s] H Q E:=by
 subst hs;exact#[a,l,ps,st,rfl,hA,hN,hP,hl,q]
theorem gG:zk ["rules","word","start","size","found"] ["rules","word","start"] (zh wA):=by nofun
theorem ZH{f:rX}{fd:sf}(B:Bt mg)(T:zfA mg)(F:Fun K "first_from" "first_from" wA f fd)(pc:Df P w K mg base CX0 1 "first_within" ["rules","word","start","end"] [] (uJ K)):zQ P w K mg base CX0 2 f fd ["rules","word","start"] (kY K):=by
 obtain⟨t8,g8⟩:=T.g
 exists F.ok gG
 ·obtain⟨a,l,ps,st,rfl,hA,hN,hP,hl,q⟩:=h
  refine#[_,(zi (zD 3 gG.nd (yk (v:=.int 128) rfl g8 #[t8,rfl]))
   (zi (WI PassesOwn.never (zy JS (pv 2) (zC B.len (pv 1)) (zA _))
    (zB (zD 4 gG.nd (cl0 pc hr .nil rfl (za (pv 0) (za (pv 1) (za (pv 2) (za (zG yY (pv 2) (pv 3)) zd))))))
    (zB (zK (zy op_notN' (pv 4) yf (zA _))
     (zf (zl (pv 4)))
     zr)
    (zB (zD 2 gG.nd (zG yY (pv 2) (pv 3)))
    (zf (zD 3 gG.nd (zG jc (pv 3) zg)))))))
   (zf (zl yf)))),?_]
  have s16:=zO;have s16:=zO;refine zj (λσ H'=>H'=H/\σ=[AM (.ref a),AM (.str (tx l)),AM (.int (st:Nat)),AM (.int 128),AN]) ?_ ?_
  ·rfl'
  rintro σ H1 ⟨rfl,rfl⟩:_;right;refine zj (λσ H'=>Same H1 H'/\FirstN l ps st l.length ps.length AN) ?_ ?_
  ·unfold VI;refine#[λm σ H'=>∃(s z:Nat) (v4:Option V),m=l.length - s/\st<=s/\1<=z/\Same H1 H'/\FirstN l ps st s ps.length AN/\σ=[AM (.ref a),AM (.str (tx l)),AM (.int (s:Nat)),AM (.int (z:Nat)),v4],#[_,st,128,AN,rfl,al _,∅,Same.refl _,.inl #[rfl,λj q _ h1 h2=>by lia],rfl],?_];rintro m σ H' ⟨s,z,v4,rfl,hs,hz,sm,hF,rfl⟩
   rfl'
   refine#[⋯,yo (λhlt=>?_) λhge=>#[sm,hF.toEnd hN λ_=>by lia]];refine#[λσ' H''=>∃v4:Option V,Same H1 H''/\FirstN l ps st (s+z) ps.length AN/\σ'=[AM (.ref a),AM (.str (tx l)),AM (.int ((s+z:Nat):Int)),AM (.int ((z * 2:Nat):Int)),v4],λσ' H'' ⟨v4,a1,a2,a3⟩=>#[l.length - (s+z),⋯,s+z,rfl,⋯,z * 2,⋯,a1,a2,v4,a3],?_];refine Y1 (en:=s+z) rfl ⋯ (hA.same sm) hN hP λr v H2 s2 hu hF2=>?_;rcases hu with ⟨rfl,rfl⟩ | ⟨n,qq,p,rfl,rfl,hp⟩
   ·rw[if_neg (λh=>h rfl)];exact#[.inr #[∅,∅],AM .non,sm.trans s2,hF.window hs hF2,by push_cast;rfl]
   ·rw[if_pos (by intro h;cases h)];exact q _ _ H2 (sm.trans s2) (.inr #[n,qq,p,rfl,rfl,hp]) ((hF.window hs hF2).toEnd hN (λe=>by cases e))
  rintro σ H2 ⟨s2,hF⟩:_;right
  rfl'
  exact q AN .non H2 s2 (.inl #[rfl,rfl]) hF
theorem LsA.pushT{H:Hp}{D p:rX}{ds es:List L3.D}{xs vs:List V}(h1:H D=AM (.lst xs))(h2:Iss K H ds xs)(hp:H p=AN)(hv:Iss K H es vs)(f:zZ ds)(fe:zZ es):LsA K (upd (upd H p (.tup vs)) D (.lst (xs ++ [.ref p]))) D (ds ++ [.tup es]):=by
 have e:(upd H p (.tup vs)) D=AM (.lst xs):=zc hp _ _ h1;exact LsA.snoc e (Iss.same (zc hp) _ _ h2) f (by erw[xA];exact fe) (Is.tup hp hv)
structure zb7(K:rW)(mg:sk->Option rY)(C:rX):Prop where
 xi:XI K C
 ini:af K (.ref C) "__init__" = AM (AM (.builtin "ValueError.__init__"))
 g:mg "TooFar" = AM (.ref C)
noncomputable def dG(u:Nat × Nat):L3.D:=.tup [.int (u.1:Nat),.int (u.2:Nat),.bl AO]
theorem zbp(u:Nat × Nat):xA (dG u):=by erw[dG,xA,zZ,and_self]
theorem Kx(us:List (Nat × Nat)):zZ (us.map dG):=wM λd h=>by obtain⟨r,_,rfl⟩:=AV.mp h;exact zbp r
theorem zeU{H:Hp}{n q:Nat}:Iss K H [.int (n:Nat),.int (q:Nat),.bl AO] [.int (n:Nat),.int (q:Nat),.bl AO]:=by
 erw[Iss,Is]
 exact#[_,_,rfl,rfl,_,_,rfl,rfl,_,_,rfl,rfl,rfl]
structure Rd(ps:List zv)(l:List Nat)(J:Nat):Prop where
 live:Vf ps l J
 len:∀j,j<=J->(wAt ps l j).length<=10000
 most:J<=10000
def xK(K:rW)(CF:rX):Sp:=λvs H Q E=>∃(a:rX) (l:List Nat) (ps:List zv) (m:Int) (J:Nat),vs=[.ref a,.str (tx l),.int m]/\LsA K H a (ps.map dR)/\NeL ps/\ps.length<=100/\(∀p ∈ ps,p.1.length<=1000/\p.2.length<=1000)/\Rd ps l J /\
 ((zJ (wAt ps l J) ps=AN/\(J:Int)<=m/\∀(p S:rX) (H':Hp),Same H H'->H' p=AM (.tup [.ref S,.str (tx (wAt ps l J))])->LsA K H' S ((sAt ps l J).map dG)->H S=AN->Q (.ref p) H') \/
  (zJ (wAt ps l J) ps≠AN/\(J:Int)=m/\∀H',Same H H'->E (.ref CF) AN H'))
theorem Qd{a:rX}{ps:List zv}{σ:L2.St}{H:Hp}{Q:VK}{D:rX}(hA:LsA K H a (ps.map dR))(hP:∀p ∈ ps,p.1.length<=1000)(hpl:ps.length<=100)(hD:H D=AN)(q:∀H',Same H H'->H' D=AM (.lst ((ps.map λp=>(p.1.length:Int)).map V.int))->Q (.ref D) H') :
  CompL K a (yn 0) vm (tCB (Vc K) (zL (tOp (jn K) (yj 0) (tC (.int 0))) xR)) 1 [] σ H Q D:=by
 have s16:=zO;obtain⟨xs,hX,hI⟩:=hA;have hxl:=hI.len;rw[ac]at hxl;refine CompL.by (xs:=xs) (λi AT H'=>Same H H'/\H' D=AM (.lst AT)/\AT=((ps.take i).map λp=>(p.1.length:Int)).map V.int) #[zc hD,ze,rfl] (λi AT H' _ h=>SqL.of (h.1 _ _ hX)) ?_ ?_
 ·refine nm4 ?_;rintro i x AT H' hx ⟨hs,hH,rfl⟩:_;have hil:=(AU.mp hx).1;obtain⟨r,pr,hri,rfl,hqr⟩:=hI.getR hx;have hm:=hP r (aa hri);right
  erw[vm]
  rfl'
  refine#[xN,_,zt hs hqr,_,rfl,_,#[by rw[z6];lia,rfl],hH,by rw[ac,ac,aJ];lia,CNx.mk hil #[zI hs hD,ze,?_]];rw[z7 hri,ax,ax,z6];rfl
 ·rintro AT H' ⟨hs,hH,rfl⟩;rw[hxl,aP]at hH;exact q H' hs hH
theorem zeJ{H:Hp}{rs:List zv}{xs:List V}{i:Nat}{r:zv}(hI:Iss K H (rs.map dR) xs)(hi:rs[i]? = AM r):∃p,atI xs (i:Int)=AM (.ref p)/\SqT K H p [.str (tx r.1),.str (tx r.2)]:=by
 have hl:=hI.len;rw[ac]at hl;have hil:=(AU.mp hi).1;obtain⟨v,a1,b1⟩:=ke (xs:=xs) (i:=(i:Int)) ⋯ ⋯;obtain⟨r',p,h1,rfl,h3⟩:=hI.getR (j:=i) b1;rw[hi]at h1;cases h1;exact#[p,a1,h3]
theorem iI:zk ["rules","word","most","longest","steps","use","number","place"] ["rules","word","most"] (zh vw):=by nofun
theorem zbf{f CU CF:rX}{fd:sf}{dV:rY}(B:Bt mg)(T:zb7 K mg CF)(TU:DNU P w K mg base CU)(F:FunD K "gone" "gone" vw dV f fd)(nw:Df P w K mg base CX0 2 "first_from" ["rules","word","start"] [] (kY K))(pN:Df P w K mg base (CXx P w) 3 "put" ["word","place","old","new"] [] (Wb CU)):zQ P w K mg base (CXx P w) 4 f fd ["rules","word","most"] (xK K CF):=by
 exists FunD.okX F iI,0
 ·obtain⟨a,l,ps,m,J,rfl,hA,hN,hpl,hP,hR,hq⟩:=h
  refine#[_,(zi (zD 3 iI.nd (UW (zdz rfl) rfl B.max qu (za (xP (own:=["rule"]) (caps:=[]) (ix:=[]) (tt:=vm) (te:=(tCB (Vc K) (zL (tOp (jn K) (yj 0) (tC (.int 0))) xR))) rfl (zS (sc:=zh vw) rfl (by symm) (by symm) (by symm) rfl (by symm) (by symm) rfl) (yd (pv 0)) (λ_ _ _ _ _ _=>zu (i:=0) (show List.Nodup [_] by decide) rfl (.inl rfl)) (λ_ _ _ _ _ _=>yM) (λ_ _ _ _ _ _=>(zC B.len (zo ix_tup (pv 0) zg)))) zd) (Ui zg KN)))
   (zi (zD 4 iI.nd (wo zd))
   (zi (zD 5 iI.nd (cl0 nw hr .nil rfl (za (pv 0) (za (pv 1) (za zg zd)))))
   (zi (WI PassesOwn.leaving (zy op_notN' (pv 5) yf (zA _))
    (zi (zK (zy op_ge' (zC B.len (pv 4)) (pv 2) (zA _))
     (zf (zY hx rfl T.xi.toXC T.ini rfl T.g (za zU zd)))
     zr)
    (zi (zD 6 iI.nd (zo ix_tup (pv 5) zg))
    (zi (zD 7 iI.nd (zo ix_tup (pv 5) zg))
    (zi (zD 1 iI.nd (clP hx pN hr .nil rfl (za (pv 1) (za (pv 7) (za (zo ix_tup (zo ix_list (pv 0) (pv 6)) zg) (za (zo ix_tup (zo ix_list (pv 0) (pv 6)) zg) zd))))))
    (zi (xh (vP bg bw bx yP (pv 4) (za (zR (za (pv 6) (za (pv 7) (za yE zd)))) zd)))
    (zf (zD 5 iI.nd (cl0 nw hr .nil rfl (za (pv 0) (za (pv 1) (za (xx (Q6 rfl) rfl B.max qu (za zg (za (zG yY (zG j1 (pv 7) (pv 3)) zg) zd))) zd))))))))))))
   (zf (zl (zR (za (pv 4) (za (pv 1) zd))))))))),?_]
  have s16:=zO;have s16:=zO;refine zj (λσ H'=>Same H H'/\∃M:Int,(∀p ∈ ps,(p.1.length:Int)<=M)/\σ=[AM (.ref a),AM (.str (tx l)),AM (.int m),AM (.int M),AN,AN,AN,AN]) ?_ ?_
  ·rfl'
   erw[zfN]
   rfl'
   obtain⟨xs,hX,hI⟩:=id hA;exact#[#[_,SqL.of hX],λD hD=>Qd hA (λp hp=>(hP p hp).1) hpl hD λH' s' hH=>#[D,_,0,rfl,rfl,SqL.of hH,λz _ hz=>#[s',z,λp hp=>hz _ (AV.mpr #[p,hp,rfl]),rfl]]]
  rintro σ H1 ⟨s1,M,hM,rfl⟩:_;right;refine zj (λσ H'=>Same H H'/\∃S:rX,H S=AN/\H' S=AM (.lst [])/\σ=[AM (.ref a),AM (.str (tx l)),AM (.int m),AM (.int M),AM (.ref S),AN,AN,AN]) ?_ ?_
  ·rfl'
   exact#[⋯,λp hp=>#[s1.trans (zc hp),p,s1.free hp,ze,rfl]]
  rintro σ H2 ⟨s2,S,hSn,hS,rfl⟩:_;right;refine zj (λσ H'=>Same H H'/\H' S=AM (.lst [])/\∃uv:V,UseAt H' (zJ l ps) uv/\σ=[AM (.ref a),AM (.str (tx l)),AM (.int m),AM (.int M),AM (.ref S),AM (uv),AN,AN]) ?_ ?_
  ·rfl'
   exact Ym (st:=0) rfl (hA.same s2) hN (λp hp=>(hP p hp).1) (by have:=hR.len 0 (aE _);exact aM this ∅) λr v H' s' hu hF=>#[s2.trans s',s' _ _ hS,(by rw[WG hF]at hu;exact hu)]
  rintro σ H3 ⟨s3,hS3,uv,hu,rfl⟩:_;right;refine zj (λσ H'=>Same H H'/\zJ (wAt ps l J) ps=AN/\LsA K H' S ((sAt ps l J).map dG)/\∃v5 v6 v7,σ=[AM (.ref a),AM (.str (tx (wAt ps l J))),AM (.int m),AM (.int M),AM (.ref S),v5,v6,v7]) ?_ ?_
  ·unfold VI;refine#[λk σ H'=>∃(j:Nat) (uv:V) (v6 v7:Option V),k=J - j/\j<=J/\Same H H'/\LsA K H' S ((sAt ps l j).map dG)/\UseAt H' (zJ (wAt ps l j) ps) uv/\σ=[AM (.ref a),AM (.str (tx (wAt ps l j))),AM (.int m),AM (.int M),AM (.ref S),AM (uv),v6,v7],#[_,0,uv,AN,AN,rfl,aE _,s3,#[[],hS3,by erw[sAt,List.range_zero,aI,Iss]],hu,rfl],?_];rintro k σ H' ⟨j,uv,v6,v7,rfl,hj,hs,hL,hu,rfl⟩;have hlj:=hR.len j hj;have hRm:=hR.most;obtain⟨xs,hX,hI⟩:=id hA
   rfl'
   refine yo (λhne=>?_) λhne=>?_
   ·rcases hu with ⟨_,h⟩ | ⟨n,q0,p,hf,rfl,hp⟩
    ·exact absurd h hne
    have hF:=WR (wAt ps l j) ps hN;rw[hf]at hF
    have hjJ:j<J\/(j=J/\(J:Int)=m/\∀H',Same H H'->E (.ref CF) AN H'):=by
     by_cases e:j=J
     ·subst e;rcases hq with ⟨h,_⟩ | ⟨_,h1,h2⟩
      ·rw[hf]at h;cases h
      ·exact .inr #[rfl,h1,h2]
     ·exact .inl ⋯
    have hJm:(J:Int)<=m:=by
     rcases hq with ⟨_,h,_⟩ | ⟨_,h,_⟩ <;> lia
    obtain⟨rl,hrl,hst⟩:∃rl,ps[n]? = AM rl/\zx (wAt ps l j) (q0:Int) rl.1=AO:=by
     rcases hF with ⟨h,_⟩ | ⟨n0,q1,e,_,_,_,a4,_⟩
     ·cases h
     ·cases e;exact (vv a4).2
    have hlp:=hP rl (aa hrl);have hw:=vb hf;obtain⟨pr,hai,hqr⟩:=zeJ hI hrl;refine#[λσ' H''=>∃(uv:V) (v6 v7:Option V),j<J/\Same H H''/\LsA K H'' S ((sAt ps l (j+1)).map dG)/\UseAt H'' (zJ (wAt ps l (j+1)) ps) uv/\σ'=[AM (.ref a),AM (.str (tx (wAt ps l (j+1)))),AM (.int m),AM (.int M),AM (.ref S),AM (uv),v6,v7],λσ' H'' ⟨uv,v6,v7,a0,a1,a2,a3,a4⟩=>#[J - (j+1),⋯,j+1,rfl,⋯,a1,a2,uv,a3,v6,v7,a4],?_];obtain⟨ys,hY,hJ2⟩:=id hL;have hyl:=hJ2.len;rw[ac,qW]at hyl;refine zj (λσ' H''=>H''=H'/\j<J/\σ'=[AM (.ref a),AM (.str (tx (wAt ps l j))),AM (.int m),AM (.int M),AM (.ref S),AM (.ref p),v6,v7]) ?_ ?_
    ·rfl'
     refine#[_,.inl #[_,SqL.of hY,rfl],yo (λhge=>?_) λhge=>?_]
     ·rcases hjJ with h | ⟨_,_,h⟩
      ·lia
      ·exact#[⋯,h _ hs]
     ·rcases hjJ with h | ⟨e,h,_⟩
      ·exact h
      ·lia
    rintro σ' G1 ⟨rfl,hlt,rfl⟩:_;right;refine zj (λσ' H''=>H''=G1/\σ'=[AM (.ref a),AM (.str (tx (wAt ps l j))),AM (.int m),AM (.int M),AM (.ref S),AM (.ref p),AM (.int (n:Nat)),v7]) ?_ ?_
    ·rfl'
     exact#[_,SqT.of hp,rfl]
    rintro σ' G2 ⟨rfl,rfl⟩:_;right;refine zj (λσ' H''=>H''=G2/\σ'=[AM (.ref a),AM (.str (tx (wAt ps l j))),AM (.int m),AM (.int M),AM (.ref S),AM (.ref p),AM (.int (n:Nat)),AM (.int (q0:Nat))]) ?_ ?_
    ·rfl'
     exact#[_,SqT.of hp,rfl]
    rintro σ' G3 ⟨rfl,rfl⟩:_;right;refine zj (λσ' H''=>H''=G3/\σ'=[AM (.ref a),AM (.str (tx (wAt ps l (j+1)))),AM (.int m),AM (.int M),AM (.ref S),AM (.ref p),AM (.int (n:Nat)),AM (.int (q0:Nat))]) ?_ ?_
    ·rfl'
     have hq2:=zt hs hqr;exact#[_,SqL.of (hs _ _ hX),_,hai,_,rfl,_,hq2,_,rfl,_,SqL.of (hs _ _ hX),_,hai,_,rfl,_,hq2,_,rfl,wAt ps l j,rl.1,rl.2,(q0:Nat),rfl,hlj,by have:=hlp.1;lia,by have:=hlp.2;lia,λ_=>#[rfl,by rw[hw];unfold WC;rw[xU hrl]],λh=>by rw[hst]at h;cases h]
    rintro σ' G4 ⟨rfl,rfl⟩:_;right;refine zj (λσ' H''=>Same H H''/\LsA K H'' S ((sAt ps l (j+1)).map dG)/\σ'=[AM (.ref a),AM (.str (tx (wAt ps l (j+1)))),AM (.int m),AM (.int M),AM (.ref S),AM (.ref p),AM (.int (n:Nat)),AM (.int (q0:Nat))]) ?_ ?_
    ·rfl'
     refine#[.inl #[_,SqL.of hY],⋯,λt ht=>#[_,zc ht _ _ hY,⋯,zI (hs.trans (zc ht)) hSn,?_]];rw[Wu,hf,ax];exact LsA.pushT hY hJ2 ht zeU (Kx _) (by erw[zZ,xA,and_self])
    rintro σ' G5 ⟨s5,hL5,rfl⟩:_;have hl1:=hR.len (j+1) hlt;have hM0:=hM rl (aa hrl);right
    rfl'
    refine Ym (st:=(if (q0:Int) - M+1 > 0 then (q0:Int) - M+1 else 0).toNat) (by split <;> lia) (hA.same s5) hN (λp hp=>(hP p hp).1) (aM hl1 ∅) λr v H' s' hu hF2=>#[hlt,s5.trans s',hL5.same s',?_];have hb:=Vw (M:=M.toNat) (lo:=(if (q0:Int) - M+1 > 0 then (q0:Int) - M+1 else 0).toNat) hF hN (λp hp=>by have:=hM p hp;lia) (by split <;> lia);rw[<- hw]at hb;rw[WG (hb.window (aE _) hF2)]at hu;exact hu
   ·have hv:uv=.non:=Decidable.not_not.mp hne
    have hf:zJ (wAt ps l j) ps=AN:=by
     rcases hu with ⟨h,_⟩ | ⟨_,_,_,_,h,_⟩
     ·exact h
     ·rw[hv]at h;cases h
    have e:j=J:=by
     rcases cG j J with h | h
     ·exact absurd hf (hR.live j h)
     ·lia
    subst e;exact#[hs,hf,hL,rfl]
  rintro σ H4 ⟨s4,hF,hL,v5,v6,v7,rfl⟩:_;right
  rfl'
  rcases hq with ⟨_,_,hq⟩ | ⟨h,_⟩
  ·exact#[⋯,λp hp=>hq p S _ (s4.trans (zc hp)) ze (hL.same (zc hp)) hSn]
  ·exact absurd hF h
noncomputable abbrev Stp:=Int × Int × Bool
noncomputable def dSt(t:Stp):D:=.tup [.int t.1,.int t.2.1,.bl t.2.2]
noncomputable def sdl(r:zv)(f:Bool):zv:=if f=AO then r else (r.2,r.1)
noncomputable def yQ(ps:List zv)(w:List Nat)(t:Stp):Option (List Nat) :=
 if 0<=t.1/\t.1<ps.length then (if zx w t.2.1 (sdl (ps.getD t.1.toNat ([],[])) t.2.2).1=AO then AM (y0 w t.2.1 (sdl (ps.getD t.1.toNat ([],[])) t.2.2).1 (sdl (ps.getD t.1.toNat ([],[])) t.2.2).2)else AN)else AN
theorem J4{H:Hp}{D p:rX}{ds es:List L3.D}{xs vs:List V}(h1:H D=AM (.lst xs))(h2:Iss K H ds xs)(hp:H p=AN)(hv:Iss K H es vs)(f:zZ ds)(fe:zZ es):LsA K (upd (upd H p (.tup vs)) D (.lst (xs ++ [.ref p]))) D (ds ++ [.tup es]):=by
 have e:(upd H p (.tup vs)) D=AM (.lst xs):=zc hp _ _ h1;exact LsA.snoc e (Iss.same (zc hp) _ _ h2) f (by erw[xA];exact fe) (Is.tup hp hv)
theorem zeS{H:Hp}{l m:List Nat}:Iss K H [dS l,dS m] [.str (tx l),.str (tx m)]:=by
 erw[Iss,Is]
 exact#[_,_,rfl,rfl,_,_,rfl,rfl,rfl]
def Vy(rs:List zv):Prop:=rs.length<=30/\∀r ∈ rs,r.1.length<=100/\r.2.length<=100
theorem KP{H:Hp}{t:Stp}{v:V}(h:Is K H (dSt t) v):∃p,v=.ref p/\SqT K H p [.int t.1,.int t.2.1,.bl t.2.2]:=by
 erw[dSt,Is,Iss]at h
 obtain⟨a,xs,e,hs,v1,r1,rfl,rfl,v2,r2,rfl,rfl,v3,r3,rfl,rfl,rfl⟩:=h;exact#[a,e,hs]
theorem WO{H:Hp}{p:rX}{t:Stp}(h:SqT K H p [.int t.1,.int t.2.1,.bl t.2.2]):Is K H (dSt t) (.ref p):=by
 erw[dSt,Is,Iss]
 exact#[p,_,rfl,h,_,_,rfl,rfl,_,_,rfl,rfl,_,_,rfl,rfl,rfl]
theorem K2{H:Hp}{i j:Int}{b:Bool}:Iss K H [.int i,.int j,.bl b] [.int i,.int j,.bl b]:=by
 erw[Iss,Is]
 exact#[_,_,rfl,rfl,_,_,rfl,rfl,_,_,rfl,rfl,rfl]
theorem ue(rs:List Stp):zZ (rs.map dSt):=wM λd h=>by obtain⟨r,_,rfl⟩:=AV.mp h;erw[dSt,xA,zZ,and_self]
theorem qz{H:Hp}{rs:List Stp}{vs:List V}{j:Nat}{v:V}(h:Iss K H (rs.map dSt) vs)(q:vs[j]? = AM v):∃r p,rs[j]? = AM r/\v=.ref p/\SqT K H p [.int r.1,.int r.2.1,.bl r.2.2]:=by
 obtain⟨d,e,i⟩:=h.get q;rw[am]at e;obtain⟨r,hr,rfl⟩:=AZ.mp e;obtain⟨p,e1,e2⟩:=KP i;exact#[r,p,hr,e1,e2]
theorem wY{ps:List zv}{w:List Nat}{t:Stp}(h:¬ (0<=t.1/\t.1<ps.length)):yQ ps w t=AN:=if_neg h
theorem xv{ps:List zv}{w:List Nat}{t:Stp}(h:0<=t.1/\t.1<ps.length):yQ ps w t=if zx w t.2.1 (sdl (ps.getD t.1.toNat ([],[])) t.2.2).1=AO then AM (y0 w t.2.1 (sdl (ps.getD t.1.toNat ([],[])) t.2.2).1 (sdl (ps.getD t.1.toNat ([],[])) t.2.2).2)else AN:=if_pos h
def Ch(rs:List zv)(ws:List (List Nat))(ss:List Stp):Prop:=ws.length=ss.length+1/\∀i s,ss[i]? = AM s->∃w w',ws[i]? = AM w/\ws[i+1]? = AM w'/\yQ rs w s=AM w'
noncomputable def bk(s:Stp):Stp:=(s.1,s.2.1,!s.2.2)
noncomputable def yF(ss:List Stp):List Stp:=ss.reverse.map bk
noncomputable def mvL(ss:List Stp)(z:Int):List Stp:=ss.map λs=>(s.1,s.2.1+z,s.2.2)
theorem zaN(r:zv)(f:Bool):sdl r (!f)=((sdl r f).2,(sdl r f).1):=by cases f <;> rfl
theorem kr{rs:List zv}{w w':List Nat}{s:Stp}(h:yQ rs w s=AM w'):yQ rs w' (bk s)=AM w:=by
 by_cases hb:0<=s.1/\s.1<rs.length
 ·rw[xv hb]at h;have hb':0<=(bk s).1/\(bk s).1<rs.length:=hb;rw[xv hb']
  erw[bk,zaN]
  generalize sdl (rs.getD s.1.toNat ([],[])) s.2.2=r at *;by_cases hs:zx w s.2.1 r.1=AO
  ·rw[if_pos hs]at h;cases h;obtain⟨e1,e2⟩:=X7 r.2 hs;rw[if_pos e1,e2]
  ·rw[if_neg hs]at h;cases h
 ·rw[wY hb]at h;cases h
theorem Ch.back{rs:List zv}{ws:List (List Nat)}{ss:List Stp}(h:Ch rs ws ss):Ch rs ws.reverse (yF ss):=by
 obtain⟨hl,hs⟩:=h;refine#[by simp [yF,hl],λi s hi=>?_];have hil:i<ss.length:=by have:=(AU.mp hi).1;simpa [yF] using this
 unfold yF at hi;rw[am,bu hil]at hi;obtain⟨s0,h0,rfl⟩:=AZ.mp hi;obtain⟨w,w',e1,e2,e3⟩:=hs _ _ h0;refine#[w',w,?_,?_,kr e3]
 ·rw[bu ⋯,<- e2];congr 1;lia
 ·rw[bu ⋯,<- e1];congr 1;lia
theorem WP{a w b:List Nat}{k:Nat}(h:k<=w.length):(a ++ w ++ b).drop (a.length+k)=w.drop k ++ b:=by
 rw[aO,<- dX,List.drop_left,cp h]
theorem kK{a w b o:List Nat}{k:Int}(h:zx w k o=AO):zx (a ++ w ++ b) (k+(a.length:Int)) o=AO:=by
 obtain⟨_,_,h0,h1⟩:=wk h;unfold zx at h ⊢;rw[decide_eq_true_eq]at h ⊢;obtain⟨_,_,h2⟩:=h;refine#[⋯,by erw[ak];lia,?_];rw[show (k+(a.length:Int)).toNat=a.length+k.toNat by lia,WP ⋯,bh (by rw[bn];lia),h2]
theorem Vl{a w b o n:List Nat}{k:Int}(h:zx w k o=AO):y0 (a ++ w ++ b) (k+(a.length:Int)) o n=a ++ y0 w k o n ++ b:=by
 obtain⟨_,_,h0,h1⟩:=wk h;unfold y0;rw[show (k+(a.length:Int)).toNat=a.length+k.toNat by lia]
 have e1:(a ++ w ++ b).take (a.length+k.toNat)=a ++ w.take k.toNat:=by
  rw[aO,List.take_length_add_append,bh ⋯]
 have e2:(a ++ w ++ b).drop (a.length+k.toNat+o.length)=w.drop (k.toNat+o.length) ++ b:=by
  rw[Nat.add_assoc];exact WP ⋯
 rw[e1,e2];simp [aO]
theorem uV{rs:List zv}{w w':List Nat}{s:Stp}(a b:List Nat)(h:yQ rs w s=AM w'):yQ rs (a ++ w ++ b) (s.1,s.2.1+(a.length:Int),s.2.2)=AM (a ++ w' ++ b):=by
 by_cases hb:0<=s.1/\s.1<rs.length
 ·rw[xv hb]at h;rw[xv (by exact hb)];simp only;generalize sdl (rs.getD s.1.toNat ([],[])) s.2.2=r at *;by_cases hs:zx w s.2.1 r.1=AO
  ·rw[if_pos hs]at h;cases h;rw[if_pos (kK hs),Vl hs]
  ·rw[if_neg hs]at h;cases h
 ·rw[wY hb]at h;cases h
theorem Ch.within{rs:List zv}{ws:List (List Nat)}{ss:List Stp}(a b:List Nat)(h:Ch rs ws ss):Ch rs (ws.map λw=>a ++ w ++ b) (mvL ss (a.length:Int)):=by
 obtain⟨hl,hs⟩:=h;refine#[by simp [mvL,hl],λi s hi=>?_];unfold mvL at hi;rw[am]at hi;obtain⟨s0,h0,rfl⟩:=AZ.mp hi;obtain⟨w,w',e1,e2,e3⟩:=hs _ _ h0;exact#[a ++ w ++ b,a ++ w' ++ b,by rw[am,e1];rfl,by rw[am,e2];rfl,uV a b e3]
theorem Zi{H:Hp}{D p:rX}{ds es:List L3.D}{xs vs:List V}(h1:H D=AM (.lst xs))(h2:Iss K H ds xs)(hp:H p=AN)(hv:Iss K H es vs)(f:zZ ds)(fe:zZ es):Iss K (upd (upd H p (.tup vs)) D (.lst (xs ++ [.ref p]))) (ds ++ [.tup es]) (xs ++ [.ref p]):=by
 obtain⟨ys,hy1,hy2⟩:=J4 h1 h2 hp hv f fe;rw[ze]at hy1;cases hy1;exact hy2
def ux(K:rW):Sp:=λvs H Q _=>∃(t:rX) (ss:List Stp),vs=[.ref t]/\Is K H (.lst (ss.map dSt)) (.ref t)/\ss.length<=1000/\∀(D:rX) (H':Hp),H D=AN->Same H H'->LsA K H' D ((yF ss).map dSt)->Q (.ref D) H'
theorem qj{t:rX}{ss:List Stp}{H:Hp}{Q:VK}{E:XK}(h1:Is K H (.lst (ss.map dSt)) (.ref t))(h2:ss.length<=1000)(h:∀(D:rX) (H':Hp),H D=AN->Same H H'->LsA K H' D ((yF ss).map dSt)->Q (.ref D) H'):ux K [.ref t] H Q E:=#[t,ss,rfl,h1,h2,h]
theorem zcl{ss:List Stp}{i:Nat}{s:Stp}(h:ss.reverse[i]? = AM s):(yF ss).take (i+1)=(yF ss).take i ++ [bk s]:=z7 (by unfold yF;rw[am,h];rfl)
theorem zbD:zk ["steps"] ["steps"] (zh Wy):=by nofun
theorem zci{f:rX}{fd:sf}(B:Bt mg)(F:Fun K "back" "back" Wy f fd) : zQ P w K mg base CX0 1 f fd ["steps"] (ux K):=by
 exists F.ok zbD
 ·obtain⟨t,ss,rfl,hT,hsl,q⟩:=h;refine#[_,(zf (zl (xP (own:=["step"]) (caps:=[]) (ix:=[]) (tt:=vm) (te:=(Q8 (zL (tOp (jn K) (yj 0) (tC (.int 0))) (zL (tOp (jn K) (yj 0) (tC (.int 1))) (zL (Qo (tOp (jn K) (yj 0) (tC (.int 2)))) xR))))) rfl (zS (sc:=zh Wy) rfl (by symm) (by symm) (by symm) rfl (by symm) (by symm) rfl) (zdA rfl B.rev (za (pv 0) zd)) (λ_ _ _ _ _ _=>zu (i:=0) (show List.Nodup [_] by decide) rfl (.inl rfl)) (λ_ _ _ _ _ _=>yM) (λ_ _ _ _ _ _=>(zR (za (zo ix_tup (pv 0) zg) (za (zo ix_tup (pv 0) zg) (za (zax (zo ix_tup (pv 0) zg)) zd)))))))),?_];have s16:=zO
  rfl'
  erw[Is]at hT
  obtain⟨_,ts,e,hTs,hJ⟩:=hT;cases e;have htl:=hJ.len;rw[ac]at htl;have hbl:(yF ss).length=ss.length:=by simp [yF]
  refine#[ts,hTs,λD hD=>CompV.by (xs:=ts) (λi AT H'=>Same H H'/\H' D=AM (.lst AT)/\Iss K H' (((yF ss).take i).map dSt) AT) #[zc hD,ze,by erw[bO,aI,Iss]] (λi AT H' _ h=>h.1.seq hTs) ?_ ?_]
  ·refine nm4 ?_;rintro i x AT H' hx ⟨hs,hH,hA⟩:_;have hi:i<ts.length:=by have:=(AU.mp hx).1;simpa using this
   rw[bu hi]at hx;obtain⟨s,ps,hsi,rfl,hqs⟩:=qz hJ hx;have hsr:ss.reverse[i]? = AM s:=by rw[bu ⋯,<- hsi,htl]
   have hal:=hA.len;rw[ac,aJ]at hal;right
   erw[vm]
   rfl'
   refine#[xN,_,zt hs hqs,_,rfl,_,zt hs hqs,_,rfl,_,zt hs hqs,_,rfl,_,rfl,⋯,λp hp=>#[zc hp _ _ hH,⋯,CNx.mk hi #[zI (hs.trans (zc hp)) hD,ze,?_]]];rw[zcl hsr,ax];exact Zi hH hA hp K2 (ue _) (by erw[zZ,xA,and_self])
  ·rintro AT H' ⟨hs,hH,hA⟩;rw[htl,<- hbl,aP]at hA;exact q D H' hD hs #[AT,hH,hA]
def Zn(K:rW):Sp:=λvs H Q _=>∃(t:rX) (ss:List Stp) (z:Int),vs=[.ref t,.int z]/\Is K H (.lst (ss.map dSt)) (.ref t)/\ss.length<=1000/\∀(D:rX) (H':Hp),H D=AN->Same H H'->LsA K H' D ((mvL ss z).map dSt)->Q (.ref D) H'
theorem Yi{t:rX}{ss:List Stp}{z:Int}{H:Hp}{Q:VK}{E:XK}(h1:Is K H (.lst (ss.map dSt)) (.ref t))(h2:ss.length<=1000)(h:∀(D:rX) (H':Hp),H D=AN->Same H H'->LsA K H' D ((mvL ss z).map dSt)->Q (.ref D) H'):Zn K [.ref t,.int z] H Q E:=#[t,ss,z,rfl,h1,h2,h]
theorem Jy:zk ["steps","size"] ["steps","size"] (zh Zx):=by nofun
theorem Jx{f:rX}{fd:sf}(B:Bt mg)(F:Fun K "moved" "moved" Zx f fd) : zQ P w K mg base CX0 1 f fd ["steps","size"] (Zn K):=by
 exists F.ok Jy
 ·obtain⟨t,ss,z,rfl,hT,hsl,q⟩:=h;refine#[_,(zf (zl (xP (own:=["step"]) (caps:=["size"]) (ix:=[1]) (tt:=vm) (te:=(Q8 (zL (tOp (jn K) (yj 0) (tC (.int 0))) (zL (tOp Zt (tOp (jn K) (yj 0) (tC (.int 1))) (yj 1)) (zL (tOp (jn K) (yj 0) (tC (.int 2))) xR))))) rfl (zS (sc:=zh Zx) rfl (by symm) (by symm) (by symm) rfl (by symm) (by symm) rfl) (yd (pv 0)) (λ_ _ _ _ _ _=>zu (i:=0) (show List.Nodup [_,_] by decide) rfl (.inl rfl)) (λ_ _ _ _ _ _=>yM) (λ_ _ _ _ _ _=>(zR (za (zo ix_tup (pv 0) zg) (za (zG xg (zo ix_tup (pv 0) zg) (pv 1)) (za (zo ix_tup (pv 0) zg) zd)))))))),?_];have s16:=zO
  rfl'
  erw[Is]at hT
  obtain⟨_,ts,e,hTs,hJ⟩:=hT;cases e;have htl:=hJ.len;rw[ac]at htl;have hbl:(mvL ss z).length=ss.length:=by simp [mvL]
  refine#[#[ts,hTs],λD hD=>CompL.by (xs:=ts) (λi AT H'=>Same H H'/\H' D=AM (.lst AT)/\Iss K H' (((mvL ss z).take i).map dSt) AT) #[zc hD,ze,by erw[bO,aI,Iss]] (λi AT H' _ h=>h.1.seq hTs) ?_ ?_]
  ·refine nm4 ?_;rintro i x AT H' hx ⟨hs,hH,hA⟩:_;have hi:=(AU.mp hx).1;obtain⟨s,ps,hsi,rfl,hqs⟩:=qz hJ hx;have hm:(mvL ss z)[i]? = AM (s.1,s.2.1+z,s.2.2):=by unfold mvL;rw[am,hsi];rfl
   have hal:=hA.len;rw[ac,aJ]at hal;right
   erw[vm]
   rfl'
   refine#[xN,_,zt hs hqs,_,rfl,_,zt hs hqs,_,rfl,_,zt hs hqs,_,rfl,⋯,λp hp=>#[zc hp _ _ hH,⋯,CNx.mk hi #[zI (hs.trans (zc hp)) hD,ze,?_]]];rw[z7 hm,ax];exact Zi hH hA hp K2 (ue _) (by erw[zZ,xA,and_self])
  ·rintro AT H' ⟨hs,hH,hA⟩;rw[htl,<- hbl,aP]at hA;exact q D H' hD hs #[AT,hH,hA]
noncomputable abbrev Ent:=List Nat × List Nat × List Stp
variable{E:XK}{H:Hp}{Q:VK}{bs:List Ent}{e:Ent}{es:List Ent}{f:rX}{fd:sf}{k:Nat}{n:Nat}{ns:List Int}{ps:List zv}{rs:List zv}{ss:List Stp}
noncomputable def dE(e:Ent):L3.D:=.tup [dS e.1,dS e.2.1,.lst (e.2.2.map dSt)]
noncomputable def Vb(es:List Ent)(u:Stp):List Stp:=mvL (if u.2.2=AO then (es.getD u.1.toNat ([],[],[])).2.2 else yF (es.getD u.1.toNat ([],[],[])).2.2) u.2.1
noncomputable def byL(es:List Ent)(us:List Stp):List Stp:=us.flatMap (Vb es)
theorem zdb{v:V}(h:Is K H (dE e) v):∃p s,v=.ref p/\SqT K H p [.str (tx e.1),.str (tx e.2.1),.ref s]/\Is K H (.lst (e.2.2.map dSt)) (.ref s):=by
 erw[dE,Is,Iss]at h
 obtain⟨a,xs,e0,hs,v1,r1,rfl,rfl,v2,r2,rfl,rfl,v3,r3,rfl,⟨s,zs,rfl,h1,h2⟩,rfl⟩:=h;refine#[a,s,e0,hs,?_]
 erw[Is]
 exact#[s,zs,rfl,h1,h2]
theorem zf2{xs:List V}{i:Int}(hI:Iss K H (es.map dE) xs)(h0:0<=i)(hi:i<es.length):∃p s,atI xs i=AM (.ref p)/\es[i.toNat]? = AM (es.getD i.toNat ([],[],[]))/\SqT K H p [.str (tx (es.getD i.toNat ([],[],[])).1),.str (tx (es.getD i.toNat ([],[],[])).2.1),.ref s]/\Is K H (.lst ((es.getD i.toNat ([],[],[])).2.2.map dSt)) (.ref s):=by
 have hl:=hI.len;rw[ac]at hl;obtain⟨v,a1,b1⟩:=ke (xs:=xs) (i:=i) h0 ⋯;obtain⟨d,e,ix⟩:=hI.get b1;rw[am]at e;obtain⟨r,hr,rfl⟩:=AZ.mp e;have e:es.getD i.toNat ([],[],[])=r:=by rw[ah,hr];rfl
 rw[e];obtain⟨p,s,rfl,h2,h3⟩:=zdb ix;exact#[p,s,a1,hr,h2,h3]
theorem XX(ss:List Stp)(z:Int):(mvL ss z).length=ss.length:=by simp [mvL]
theorem yO(ss:List Stp):(yF ss).length=ss.length:=by simp [yF]
def UB(K:rW):Sp:=λvs H Q _=>∃(a t:rX) (es:List Ent) (us:List Stp),vs=[.ref a,.ref t]/\Is K H (.lst (es.map dE)) (.ref a)/\Is K H (.lst (us.map dSt)) (.ref t)/\us.length<=100/\(∀e ∈ es,e.2.2.length<=600)/\(∀u ∈ us,0<=u.1/\u.1<es.length)/\∀(D:rX) (H':Hp),H D=AN->Same H H'->LsA K H' D ((byL es us).map dSt)->Q (.ref D) H'
theorem ly:zk ["entries","steps","chain","step","own"] ["entries","steps"] (zh uA):=by nofun
theorem Y9(B:Bt mg)(F:Fun K "by_pacts" "by_pacts" uA f fd)(rF:Df P w K mg base CX0 1 "moved" ["steps","size"] [] (Zn K))(lZ:Df P w K mg base CX0 1 "back" ["steps"] [] (ux K)):zQ P w K mg base CX0 2 f fd ["entries","steps"] (UB K):=by
 exists F.ok ly
 ·obtain⟨a,t,es,us,rfl,hE,hU,hul,hel,hub,q⟩:=h
  refine#[_,(zi (zD 2 ly.nd (wo zd))
   (zi (zN PassesOwn.never rfl (yd (pv 1)) (zu (i:=3) ly.nd rfl (.inl rfl))
    (zi (zD 4 ly.nd (zo ix_tup (zo ix_list (pv 0) (zo ix_tup (pv 3) zg)) zg))
    (zf (xh (vP bg PySem.F.slot_list_extend PySem.F.type_list_extend Qx (pv 2) (za (cl0 rF hr .nil rfl (za (vj (yC (zo ix_tup (pv 3) zg) (λ_=>rfl)) (pv 4) (cl0 lZ hr .nil rfl (za (pv 4) zd))) (za (zo ix_tup (pv 3) zg) zd))) zd))))))
   (zf (zl (pv 2))))),?_]
  have s16:=zO;have hE':=hE;have hU':=hU
  erw[Is]at hE' hU'
  obtain⟨_,xs,e,hX,hI⟩:=hE';cases e;obtain⟨_,ts,e,hTs,hJ⟩:=hU';cases e;have htl:=hJ.len;rw[ac]at htl;refine zj (λσ H'=>∃D,H D=AN/\Same H H'/\H' D=AM (.lst [])/\σ=[AM (.ref a),AM (.ref t),AM (.ref D),AN,AN]) ?_ ?_
  ·rfl'
   exact#[⋯,λp hp=>#[p,hp,zc hp,ze,rfl]]
  rintro σ H1 ⟨D,hD,s1,hD1,rfl⟩:_;right;refine zj (λσ H'=>Same H H'/\LsA K H' D ((byL es us).map dSt)/\∃v3 v4,σ=[AM (.ref a),AM (.ref t),AM (.ref D),v3,v4]) ?_ ?_
  ·rfl'
   refine#[#[_,s1.seq hTs],ForL.by (xs:=ts) (λi σ H'=>Same H H'/\LsA K H' D ((byL es (us.take i)).map dSt)/\(byL es (us.take i)).length<=i * 600/\∃v3 v4,σ=[AM (.ref a),AM (.ref t),AM (.ref D),v3,v4]) #[s1,#[[],hD1,by erw[bO,byL,List.flatMap_nil,aI,Iss]],by simp [byL],_,_,rfl] (λi σ H' _ h=>h.1.seq hTs) ?_ ?_]
   ·refine nm4 ?_;rintro i x σ H' hx ⟨hs,hL,hl,v3,v4,rfl⟩:_;obtain⟨u,pu,hui,rfl,hqu⟩:=qz hJ hx;have hil:=(AU.mp hui).1;obtain⟨u0,u1⟩:=hub u (aa hui);obtain⟨pe,se,g1,g2,g3,g4⟩:=zf2 hI u0 u1;have hle:=hel _ (aa g2)
    have hby:byL es (us.take (i+1))=byL es (us.take i) ++ Vb es u:=by
     unfold byL;rw[z7 hui,da];simp
    right
    erw[yn,aR,aQ]
    refine zj (λσ H''=>H''=H'/\σ=[AM (.ref a),AM (.ref t),AM (.ref D),AM (.ref pu),AM (.ref se)]) ?_ ?_
    ·rfl'
     exact#[_,zt hs hqu,_,rfl,_,rfl,_,hs.seq hX,_,g1,_,rfl,_,zt hs g3,rfl]
    rintro σ G ⟨rfl,rfl⟩:_;obtain⟨zs,hZ,hZI⟩:=id hL;have hzl:=hZI.len;rw[ac]at hzl;have hse:=Is.same hs _ _ g4
    have fin:∀(ws:List Stp) (M:rX) (G2:Hp),Vb es u=ws->ws.length<=600->Same G G2->LsA K G2 M (ws.map dSt)->UQ (V.ref D) [V.ref M] G2 λx H1=>Same H H1/\LsA K H1 D ((byL es (us.take (i+1))).map dSt)/\(byL es (us.take (i+1))).length<=(i+1) * 600:=λws M G2 ew hwl sg hM=>by
     obtain⟨ys,hY,hYI⟩:=hM;have hyl:=hYI.len;rw[ac]at hyl;have hZ2:=sg _ _ hZ;refine#[D,M,zs,ys,rfl,rfl,hZ2,hY,⋯,zI (hs.trans sg) hD,#[_,ze,?_],?_]
     ·rw[hby,ew,ax];exact Iss.append (Iss.updL hZ2 _ _ (ue _) (Iss.same sg _ _ hZI)) (Iss.updL hZ2 _ _ (ue _) hYI)
     ·rw[hby,ew,ak];lia
    right
    rfl'
    refine#[.inl #[_,SqL.of hZ],_,zt hs hqu,_,rfl,_,rfl,yo (λhf=>#[_,zt hs hqu,_,rfl,Yi hse ⋯ λM G2 _ sg hM=>fin _ M G2 (by unfold Vb;rw[if_pos hf]) (by rw[XX];lia) sg hM]) λhf=>qj hse ⋯ λM0 G1 _ sg0 hM0=>#[_,zt (hs.trans sg0) hqu,_,rfl,Yi hM0.is (by rw[yO];lia) λM G2 _ sg hM=>fin _ M G2 (by unfold Vb;rw[if_neg hf]) (by rw[XX,yO];lia) (sg0.trans sg) hM]]
   ·rintro σ H' ⟨hs,hL,hl,v3,v4,rfl⟩;rw[htl,aP]at hL;exact#[hs,hL,_,_,rfl]
  rintro σ H2 ⟨s2,hL2,v3,v4,rfl⟩:_;right
  rfl'
  exact q D H2 hD s2 hL2
noncomputable def yv(rs:List zv):List Nat->List Stp->Option (List Nat)
 | w,[]=>AM w
 | w,s::ss=>(yQ rs w s).bind λw'=>yv rs w' ss
theorem vg(rs:List zv):∀(ss ts:List Stp) (w:List Nat),yv rs w (ss ++ ts)=(yv rs w ss).bind λw'=>yv rs w' ts
 | [],ts,w=>rfl
 | s::ss,ts,w=>by
  erw[bo,yv]
  cases yQ rs w s with
  | none=>rfl
  | some w1=>exact vg rs ss ts w1
theorem vQ{s:Stp}{w w':List Nat}(h:yv rs w (s::ss)=AM w'):∃w1,yQ rs w s=AM w1/\yv rs w1 ss=AM w':=by
 erw[yv]at h
 obtain⟨w1,h1,h2⟩:=Option.bind_eq_some_iff.mp h;exact#[w1,h1,h2]
theorem Z9{s:Stp}{w w1 w2:List Nat}(h:yv rs w ss=AM w1)(h2:yQ rs w1 s=AM w2):yv rs w (ss ++ [s])=AM w2:=by
 rw[vg,h]
 erw[yv,cu]
 rw[h2];rfl
theorem Uj(s:Stp)(ss:List Stp):yF (s::ss)=yF ss ++ [bk s]:=by simp [yF]
theorem wS:∀{ss:List Stp} {w w':List Nat},yv rs w ss=AM w'->yv rs w' (yF ss)=AM w
 | [],w,w',h=>by cases h;rfl
 | s::ss,w,w',h=>by
  obtain⟨w1,h1,h2⟩:=vQ h;rw[Uj];exact Z9 (wS h2) (kr h1)
theorem qU(a b:List Nat):∀{ss:List Stp} {w w':List Nat},yv rs w ss=AM w'->yv rs (a ++ w ++ b) (mvL ss (a.length:Int))=AM (a ++ w' ++ b)
 | [],w,w',h=>by cases h;rfl
 | s::ss,w,w',h=>by
  obtain⟨w1,h1,h2⟩:=vQ h;have e:mvL (s::ss) (a.length:Int)=(s.1,s.2.1+(a.length:Int),s.2.2)::mvL ss (a.length:Int):=rfl;rw[e]
  erw[yv]
  rw[uV a b h1];exact qU a b h2
def EOk(rs:List zv)(e:Ent):Prop:=yv rs e.1 e.2.2=AM e.2.1
noncomputable def zb(es:List Ent):List zv:=es.map λe=>(e.1,e.2.1)
theorem JD(hE:∀e ∈ es,EOk rs e){u:Stp}{w w':List Nat}(h:yQ (zb es) w u=AM w'):yv rs w (Vb es u)=AM w':=by
 have hb:0<=u.1/\u.1<(zb es).length:=Decidable.byContradiction λhb=>by rw[wY hb]at h;cases h
 rw[xv hb]at h;have hl:(zb es).length=es.length:=by unfold zb;rw[ac]
 rw[hl]at hb
 have hg:es[u.1.toNat]? = AM (es.getD u.1.toNat ([],[],[])):=by
  rw[ah,ag ⋯];rfl
 have hp:(zb es).getD u.1.toNat ([],[])=((es.getD u.1.toNat ([],[],[])).1,(es.getD u.1.toNat ([],[],[])).2.1):=by
  unfold zb;rw[ah,am,hg];rfl
 rw[hp]at h;have he:=hE _ (aa hg);unfold Vb;generalize es.getD u.1.toNat ([],[],[])=e at *
 have key:∀(o n:List Nat) (ss:List Stp),sdl (e.1,e.2.1) u.2.2=(o,n)->yv rs o ss=AM n->yv rs w (mvL ss u.2.1)=AM w':=λo n ss hs hw=>by
  rw[hs]at h;by_cases hst:zx w u.2.1 o=AO
  ·rw[if_pos hst]at h;cases h;obtain⟨e1,e2,h0,h1⟩:=wk hst;have:=qU (w.take u.2.1.toNat) (w.drop (u.2.1.toNat+o.length)) hw;rw[e1,e2,show ((u.2.1.toNat:Nat):Int)=u.2.1 by lia]at this;exact this
  ·rw[if_neg hst]at h;cases h
 cases hf:u.2.2 with
 | true =>
  rw[if_pos rfl];exact key e.1 e.2.1 e.2.2 (by rw[hf];rfl) he
 | false =>
  rw[if_neg ∅];exact key e.2.1 e.1 (yF e.2.2) (by rw[hf];rfl) (wS he)
theorem qX(hE:∀e ∈ es,EOk rs e):∀{us:List Stp} {w w':List Nat},yv (zb es) w us=AM w'->yv rs w (byL es us)=AM w'
 | [],w,w',h=>by cases h;rfl
 | u::us,w,w',h=>by
  obtain⟨w1,h1,h2⟩:=vQ h;have e:byL es (u::us)=Vb es u ++ byL es us:=by simp [byL]
  rw[e,vg,JD hE h1];exact qX hE h2
noncomputable def jS(D:rX)(H:Hp):Hp:=λb=>if b=D then AN else H b
theorem wI{D b:rX}(h:b≠D):jS D H b=H b:=by unfold jS;rw[if_neg h]
theorem qY{D:rX}:jS D H D=AN:=by unfold jS;rw[if_pos rfl]
theorem wC{D:rX}:Same (jS D H) H:=λb o e=>by
 by_cases hb:b=D
 ·rw[hb,qY]at e;cases e
 ·rw[wI hb]at e;exact e
theorem UM{D:rX}{H H':Hp}(hD:H D=AN)(s:Same H H'):Same H (jS D H'):=λb o e=>by
 have hb:b≠D:=λz=>by rw[z,hD]at e;cases e
 rw[wI hb];exact s _ _ e
theorem wP{D:rX}{H H':Hp}(s:Same H H'):Same (jS D H) (jS D H'):=λb o e=>by
 by_cases hb:b=D
 ·rw[hb,qY]at e;cases e
 ·rw[wI hb]at e ⊢;exact s _ _ e
theorem xw{D:rX}{o:HO}:Same (jS D H) (jS D (upd H D o)):=λb o' e=>by
 by_cases hb:b=D
 ·rw[hb,qY]at e;cases e
 ·rw[wI hb]at e ⊢;rw[zm hb];exact e
theorem Qy{D a:rX}{xs ys:List V}(hD:H D=AM (.lst ys))(h:SqT K H a xs):SqT K (jS D H) a xs:=by
 rcases h with (h | ⟨o,h⟩) | h
 ·exact .inl (.inl (by rw[wI (λe=>by rw[e,hD]at h;cases h)];exact h))
 ·exact .inl (.inr #[o,by rw[wI (λe=>by rw[e,hD]at h;cases h)];exact h])
 ·exact .inr h
theorem WU{D:rX}{ys:List V}(hD:H D=AM (.lst ys)):∀(ss:List Stp) (vs:List V),Iss K H (ss.map dSt) vs->Iss K (jS D H) (ss.map dSt) vs
 | [],vs,h=>by erw[aI,Iss]at h ⊢;exact h
 | s::ss,vs,h=>by
  erw[ao,Iss]at h ⊢
  obtain⟨v,r,rfl,h1,h2⟩:=h;obtain⟨p,rfl,h3⟩:=KP h1;exact#[_,r,rfl,WO (Qy hD h3),WU hD ss r h2]
theorem zeW{p s:rX}(h1:SqT K H p [.str (tx e.1),.str (tx e.2.1),.ref s])(h2:Is K H (.lst (e.2.2.map dSt)) (.ref s)):Is K H (dE e) (.ref p):=by
 erw[dE,Is,Iss]
 erw[Is]at h2
 exact#[p,_,rfl,h1,_,_,rfl,rfl,_,_,rfl,rfl,_,_,rfl,h2,rfl]
theorem WK{vs:List V}{j:Nat}{v:V}(h:Iss K H (es.map dE) vs)(q:vs[j]? = AM v):∃e p s,es[j]? = AM e/\v=.ref p/\SqT K H p [.str (tx e.1),.str (tx e.2.1),.ref s]/\Is K H (.lst (e.2.2.map dSt)) (.ref s):=by
 obtain⟨d,e,i⟩:=h.get q;rw[am]at e;obtain⟨r,hr,rfl⟩:=AZ.mp e;obtain⟨p,s,e1,e2,e3⟩:=zdb i;exact#[r,p,s,hr,e1,e2,e3]
theorem zbi{d:L3.D}{v:V}(h:Is K H d v):Iss K H [d] [v]:=by
 erw[Iss]
 exact#[v,[],rfl,h,rfl]
def EnA(K:rW)(H:Hp)(e:Ent)(v:V):Prop:=∃p s,v=.ref p/\SqT K H p [.str (tx e.1),.str (tx e.2.1),.ref s]/\LsA K H s (e.2.2.map dSt)
def EnsA(K:rW)(H:Hp):List Ent->List V->Prop
 | [],vs=>vs=[]
 | e::es,vs=>∃v r,vs=v::r/\EnA K H e v/\EnsA K H es r
def EnsL(K:rW)(H:Hp)(a:rX)(es:List Ent):Prop:=∃xs,SqL K H a xs/\EnsA K H es xs
def EnsM(K:rW)(H:Hp)(a:rX)(es:List Ent):Prop:=∃xs,H a=AM (.lst xs)/\EnsA K H es xs
theorem EnA.is{v:V}(h:EnA K H e v):Is K H (dE e) v:=by
 obtain⟨p,s,rfl,h1,h2⟩:=h;exact zeW h1 h2.is
theorem EnA.same{H H':Hp}{v:V}(h:EnA K H e v)(q:Same H H'):EnA K H' e v:=by
 obtain⟨p,s,e0,h1,h2⟩:=h;exact#[p,s,e0,zt q h1,h2.same q]
theorem EnsA.iss:∀{es:List Ent} {vs:List V},EnsA K H es vs->Iss K H (es.map dE) vs
 | [],vs,h=>by erw[EnsA]at h;erw[aI,Iss];exact h
 | e::es,vs,h=>by
  erw[EnsA]at h
  obtain⟨v,r,rfl,h1,h2⟩:=h
  erw[ao,Iss]
  exact#[v,r,rfl,h1.is,h2.iss]
theorem EnsA.len{vs:List V}(h:EnsA K H es vs):vs.length=es.length:=by
 have:=h.iss.len;rw[ac]at this;exact this
theorem EnsA.same{H H':Hp}(q:Same H H'):∀{es:List Ent} {vs:List V},EnsA K H es vs->EnsA K H' es vs
 | [],vs,h=>by erw[EnsA]at h ⊢;exact h
 | e::es,vs,h=>by
  erw[EnsA]at h ⊢
  obtain⟨v,r,e0,h1,h2⟩:=h;exact#[v,r,e0,h1.same q,h2.same q]
theorem EnsA.snoc{v:V}(hv:EnA K H e v):∀{es:List Ent} {vs:List V},EnsA K H es vs->EnsA K H (es ++ [e]) (vs ++ [v])
 | [],vs,h=>by
  erw[EnsA]at h
  subst h
  erw[bI,EnsA]
  exact#[v,[],rfl,hv,rfl]
 | e'::es,vs,h=>by
  erw[EnsA]at h
  obtain⟨x,r,rfl,hx,hr⟩:=h
  erw[bo,EnsA]
  exact#[x,r ++ [v],rfl,hx,hr.snoc hv]
theorem EnsA.get:∀{es:List Ent} {vs:List V} {j:Nat} {v:V},EnsA K H es vs->vs[j]? = AM v->∃e p s,es[j]? = AM e/\v=.ref p/\SqT K H p [.str (tx e.1),.str (tx e.2.1),.ref s]/\LsA K H s (e.2.2.map dSt)
 | [],vs,j,v,h,q=>by
  erw[EnsA]at h
  subst h;simp at q
 | e::es,vs,0,v,h,q=>by
  erw[EnsA]at h
  obtain⟨x,r,rfl,⟨p,s,rfl,h1,h2⟩,_⟩:=h;cases q;exact#[e,p,s,rfl,rfl,h1,h2]
 | e::es,vs,j+1,v,h,q=>by
  erw[EnsA]at h
  obtain⟨x,r,rfl,_,hr⟩:=h;exact hr.get (j:=j) (by simpa using q)
theorem EnsL.is{a:rX}(h:EnsL K H a es):Is K H (.lst (es.map dE)) (.ref a):=by
 obtain⟨xs,h1,h2⟩:=h
 erw[Is]
 exact#[a,xs,rfl,h1,h2.iss]
theorem EnsL.same{H H':Hp}{a:rX}(h:EnsL K H a es)(q:Same H H'):EnsL K H' a es:=by
 obtain⟨xs,h1,h2⟩:=h;exact#[xs,q.seq h1,h2.same q]
theorem EnsM.l{a:rX}(h:EnsM K H a es):EnsL K H a es:=by
 obtain⟨xs,h1,h2⟩:=h;exact#[xs,SqL.of h1,h2]
theorem EnsM.same{H H':Hp}{a:rX}(h:EnsM K H a es)(q:Same H H'):EnsM K H' a es:=by
 obtain⟨xs,h1,h2⟩:=h;exact#[xs,q _ _ h1,h2.same q]
theorem EnA.new{D p s:rX}{ys:List V}(hD:H D=AM (.lst ys))(hp:H p=AM (.tup [.str (tx e.1),.str (tx e.2.1),.ref s]))(hs:LsA K H s (e.2.2.map dSt))(hsD:s≠D):EnA K (jS D H) e (.ref p):=by
 obtain⟨zs,hz,hi⟩:=hs;have hpD:p≠D:=λz=>by rw[z,hD]at hp;cases hp
 exact#[p,s,rfl,SqT.of (by rw[wI hpD];exact hp),zs,by rw[wI hsD];exact hz,WU hD _ _ hi]
theorem vY(es:List Ent):(zb es).length=es.length:=by unfold zb;rw[ac]
def wn(K:rW):Sp:=λvs H Q _=>∃(a:rX) (es:List Ent),vs=[.ref a]/\Is K H (.lst (es.map dE)) (.ref a)/\es.length<=1000/\∀(D:rX) (H':Hp),H D=AN->Same H H'->LsA K H' D ((zb es).map dR)->Q (.ref D) H'
theorem xW{a:rX}(h1:Is K H (.lst (es.map dE)) (.ref a))(h2:es.length<=1000)(h:∀(D:rX) (H':Hp),H D=AN->Same H H'->LsA K H' D ((zb es).map dR)->Q (.ref D) H'):wn K [.ref a] H Q E:=#[a,es,rfl,h1,h2,h]
theorem Y7:zk ["entries"] ["entries"] (zh vk):=by nofun
theorem Xr(B:Bt mg)(F:Fun K "pairs_of" "pairs_of" vk f fd) : zQ P w K mg base CX0 1 f fd ["entries"] (wn K):=by
 exists F.ok Y7
 ·obtain⟨a,es,rfl,hA,hl,q⟩:=h;refine#[_,(zf (zl (xP (own:=["entry"]) (caps:=[]) (ix:=[]) (tt:=vm) (te:=(Q8 (zL (tOp (jn K) (yj 0) (tC (.int 0))) (zL (tOp (jn K) (yj 0) (tC (.int 1))) xR)))) rfl (zS (sc:=zh vk) rfl (by symm) (by symm) (by symm) rfl (by symm) (by symm) rfl) (yd (pv 0)) (λ_ _ _ _ _ _=>zu (i:=0) (show List.Nodup [_] by decide) rfl (.inl rfl)) (λ_ _ _ _ _ _=>yM) (λ_ _ _ _ _ _=>(zR (za (zo ix_tup (pv 0) zg) (za (zo ix_tup (pv 0) zg) zd))))))),?_];have s16:=zO
  rfl'
  erw[Is]at hA
  obtain⟨_,xs,e,hX,hI⟩:=hA;cases e;have hxl:=hI.len;rw[ac]at hxl;have hpl:=vY es;refine#[#[xs,hX],λD hD=>CompL.by (xs:=xs) (λi AT H'=>Same H H'/\H' D=AM (.lst AT)/\Iss K H' (((zb es).take i).map dR) AT) #[zc hD,ze,by erw[bO,aI,Iss]] (λi AT H' _ h=>h.1.seq hX) ?_ ?_]
  ·refine nm4 ?_;rintro i x AT H' hx ⟨hs,hH,hA⟩:_;have hi:=(AU.mp hx).1;obtain⟨e,pe,se,hei,rfl,hqe,_⟩:=WK hI hx;have hm:(zb es)[i]? = AM (e.1,e.2.1):=by unfold zb;rw[am,hei];rfl
   have hal:=hA.len;rw[ac,aJ]at hal;right
   erw[vm]
   rfl'
   refine#[xN,_,zt hs hqe,_,rfl,_,zt hs hqe,_,rfl,⋯,λp hp=>#[zc hp _ _ hH,⋯,CNx.mk hi #[zI (hs.trans (zc hp)) hD,ze,?_]]];rw[z7 hm,ax];exact Zi hH hA hp zeS (WE _) (by erw[zZ,xA,and_self])
  ·rintro AT H' ⟨hs,hH,hA⟩;rw[hxl,<- hpl,aP]at hA;exact q D H' hD hs #[AT,hH,hA]
noncomputable def yh(k:Nat)(l:List Nat)(ns:List Int)(e:Ent):Ent:=if zM k l ns e.2.1 e.1=AO then e else (e.2.1,e.1,yF e.2.2)
structure EB(l:List Nat)(e:Ent):Prop where
 a:e.1.length<=60
 b:e.2.1.length<=60
 s:e.2.2.length<=600
 ma:∀c ∈ e.1,c ∈ l
 mb:∀c ∈ e.2.1,c ∈ l
theorem EB.rule{l:List Nat}(h:EB l e):EB l (yh k l ns e):=by
 unfold yh;split
 ·exact h
 ·exact#[h.b,h.a,by rw[yO];exact h.s,h.mb,h.ma]
def wT(K:rW)(CO CR CW:rX):Sp:=λvs H Q _=>∃(o p s:rX) (k:Nat) (l:List Nat) (ns:List Int) (e:Ent),vs=[.ref o,.ref p]/\OrdAt CO CR CW H o k l ns/\OG l ns k/\SqT K H p [.str (tx e.1),.str (tx e.2.1),.ref s]/\Is K H (.lst (e.2.2.map dSt)) (.ref s)/\EB l e /\
 (yh k l ns e=e->∀H',Same H H'->Q (.ref p) H') /\
 (∀(p' s':rX) (H':Hp),Same H H'->H s'=AN->H' p'=AM (.tup [.str (tx (yh k l ns e).1),.str (tx (yh k l ns e).2.1),.ref s'])->LsA K H' s' ((yh k l ns e).2.2.map dSt)->Q (.ref p') H')
theorem ku{CO CR CW o p s:rX}{l:List Nat}(h1:OrdAt CO CR CW H o k l ns)(h2:OG l ns k)(h3:SqT K H p [.str (tx e.1),.str (tx e.2.1),.ref s])(h4:Is K H (.lst (e.2.2.map dSt)) (.ref s))(h5:EB l e)
  (h6:yh k l ns e=e->∀H',Same H H'->Q (.ref p) H') (h7:∀(p' s':rX) (H':Hp),Same H H'->H s'=AN->H' p'=AM (.tup [.str (tx (yh k l ns e).1),.str (tx (yh k l ns e).2.1),.ref s'])->LsA K H' s' ((yh k l ns e).2.2.map dSt)->Q (.ref p') H'):wT K CO CR CW [.ref o,.ref p] H Q E :=
 #[o,p,s,k,l,ns,e,rfl,h1,h2,h3,h4,h5,h6,h7]
theorem W9:zk ["order","entry"] ["order","entry"] (zh qL):=by nofun
theorem Vq{f CO CR CW:rX}(B:Bt mg)(DBk:DB P w K mg base CO CR CW)(F:Fun K "as_rule" "as_rule" qL f fd)(lZ:Df P w K mg base CX0 1 "back" ["steps"] [] (ux K)):zQ P w K mg base CX0 4 f fd ["order","entry"] (wT K CO CR CW):=by
 exists F.ok W9
 ·obtain⟨o,p,s,k,l,ns,e,rfl,ho,hG,hp,hs,hE,q1,q2⟩:=h
  refine#[_,(zB (zK (yC (zcs DBk hr (pv 0) (za (zo ix_tup (pv 1) zg) (za (zo ix_tup (pv 1) zg) zd))) (λ_=>rfl))
    (zf (zl (pv 1)))
    zr)
   (zf (zl (zR (za (zo ix_tup (pv 1) zg) (za (zo ix_tup (pv 1) zg) (za (cl0 lZ hr .nil rfl (za (zo ix_tup (pv 1) zg) zd)) zd))))))),?_]
  have s16:=zO;ac_rfl;obtain⟨C,dx,fs,hf,ho1,hn,_⟩:=ho.fam;have h1:fs.lookup ("before" : sk)=AN:=hn _ ∅ ∅;refine#[C,hf,dx,fs,ho1,h1,_,hp,_,rfl,_,hp,_,rfl,o,k,l,ns,e.2.1,e.1,rfl,ho,hG,by have:=hE.b;lia,by have:=hE.a;lia,hE.mb,hE.ma,λH1 s1=>#[_,rfl,yo (λh=>?_) λh=>?_]]
  ·exact q1 (by unfold yh;rw[if_pos h]) H1 s1
  ·have er:yh k l ns e=(e.2.1,e.1,yF e.2.2):=by unfold yh;rw[if_neg h]
   rw[er]at q2;have hp1:=zt s1 hp;refine#[_,hp1,_,rfl,_,hp1,_,rfl,_,hp1,_,rfl,qj (Is.same s1 _ _ hs) (by have:=hE.s;lia) λD H2 hD s2 hL=>#[⋯,λt ht=>?_]];exact q2 t D _ (s1.trans (s2.trans (zc ht))) (s1.free hD) ze (hL.same (zc ht))
theorem YW{l:List Nat}{w:List Nat}(hb:∀n ∈ ns,1<=n/\n<=1000000):0<=Vz l ns w:=by
 unfold Vz
 have key:∀xs:List Int,(∀x ∈ xs,0<=x)->0<=xs.sum:=by
  intro xs
  induction xs with
  | nil=>intro _;simp
  | cons x xs ih =>
   intro h;rw[bf];have h1:=h x aB;have h2:=ih λy hy=>h y (ar _ hy);lia
 refine key _ λx hx=>?_;obtain⟨p,hp,rfl⟩:=AV.mp hx;have h1:=(hb p.2 (dc (show (p.1,p.2) ∈ l.zip ns from hp)).2).1;exact Int.mul_nonneg ⋯ ⋯
theorem V9{l:List Nat}{u v:List Nat}(hb:∀n ∈ ns,1<=n/\n<=1000000)(h:zM k l ns u v=AO):v≠[]:=by
 intro e;subst e
 have h0:zw k l ns []=0:=by
  unfold zw;split
  ·unfold Vz
   have z:∀xs:List (Nat × Int),(xs.map λp=>(([]:List Nat).count p.1:Int) * p.2).sum=0:=by
    intro xs
    induction xs with
    | nil=>rfl
    | cons x xs ih=>rw[ao,bf,ih];simp
   exact z _
  ·rfl
 have h1:0<=zw k l ns u:=by
  unfold zw;split
  ·exact YW hb
  ·lia
 have h2:qJ k l []=[]:=by
  unfold qJ xl;split <;> rfl
 unfold zM at h;rw[h0,h2]at h;split at h
 ·cases hr:qJ k l u with
  | nil=>rw[hr]at h;cases h
  | cons a r=>rw[hr]at h;cases h
 ·have:=of_decide_eq_true h;lia
theorem jr{k:Nat}{l:List Nat}{ns:List Int}(hE:EB l e)(hne:e.1≠e.2.1):zM k l ns (yh k l ns e).2.1 (yh k l ns e).1=AO:=by
 unfold yh;by_cases h:zM k l ns e.2.1 e.1=AO
 ·rw[if_pos h];exact h
 ·rw[if_neg h];have:=jj (k:=k) (ns:=ns) hE.ma hE.mb hne;show zM k l ns e.1 e.2.1=AO;rw[this];simpa using h
noncomputable def jX(k:Nat)(l:List Nat)(ns:List Int)(es:List Ent):List Ent:=(es.filter λe=>!decide (e.1=e.2.1)).map (yh k l ns)
theorem zaE(k:Nat)(l:List Nat)(ns:List Int)(es fs:List Ent):jX k l ns (es ++ fs)=jX k l ns es ++ jX k l ns fs:=by
 unfold jX;rw[cN,ax]
theorem Y2(k:Nat)(l:List Nat)(ns:List Int)(es:List Ent):(jX k l ns es).length<=es.length:=by
 unfold jX;rw[ac];exact cU _ _
noncomputable def Vr(k:Nat)(l:List Nat)(ns:List Int)(a b:Ent):Bool:=if a.1=b.1 then zM k l ns a.2.1 b.2.1 else zM k l ns a.1 b.1
structure Lined(k:Nat)(l:List Nat)(ns:List Int)(es zs:List Ent):Prop where
 perm:zs.Perm (jX k l ns es)
 srt:zs.Pairwise λa b=>Vr k l ns b a=AQ
structure zE(ps:List zv)(w:List Nat)(i:Nat):Prop where
 live:Vf ps w i
 end_:zJ (wAt ps w i) ps=AN
 most:i<=40
theorem zb8(ps:List zv)(w:List Nat):(∃i,zE ps w i)\/(Vf ps w 40/\zJ (wAt ps w 40) ps≠AN):=by
 have key:∀n,n<=41->(∃i,zE ps w i)\/Vf ps w n:=by
  intro n
  induction n with
  | zero=>intro _;exact .inr λi h=>absurd h (bQ i)
  | succ n ih =>
   intro hn;rcases ih ⋯ with h | h
   ·exact .inl h
   ·cases e:zJ (wAt ps w n) ps with
    | none=>exact .inl #[n,h,e,⋯]
    | some u =>
     refine .inr λi hi=>?_;by_cases hin:i=n
     ·rw[hin,e];intro z;cases z
     ·exact h i ⋯
 rcases key 41 (al _)with h | h
 ·exact .inl h
 ·exact .inr #[λi hi=>h i ⋯,h 40 ∅]
noncomputable def stS(us:List (Nat × Nat)):List Stp:=us.map λu=>((u.1:Int),(u.2:Int),AO)
noncomputable def yI(bs:List Ent)(e:Ent)(i j:Nat):Ent:=(wAt (zb bs) e.1 i,wAt (zb bs) e.2.1 j,byL bs (yF (stS (sAt (zb bs) e.1 i))) ++ e.2.2 ++ byL bs (stS (sAt (zb bs) e.2.1 j)))
def jI(e:Ent):Prop:=240<e.2.2.length\/60<e.1.length\/60<e.2.1.length
inductive xn(k:Nat)(l:List Nat)(ns:List Int):List Ent->List Ent->Option (List Ent)->Prop where
 | nil (bs:List Ent):xn k l ns bs [] (AM bs)
 | same {bs es:List Ent} {e:Ent} {i j:Nat} {r:Option (List Ent)} (h1:zE (zb bs) e.1 i) (h2:zE (zb bs) e.2.1 j) (h3:wAt (zb bs) e.1 i=wAt (zb bs) e.2.1 j) (h4:xn k l ns bs es r):xn k l ns bs (e::es) r
 | new {bs es:List Ent} {e:Ent} {i j:Nat} {r:Option (List Ent)} (h1:zE (zb bs) e.1 i) (h2:zE (zb bs) e.2.1 j) (h3:wAt (zb bs) e.1 i≠wAt (zb bs) e.2.1 j) (h4:¬ jI (yI bs e i j)) (h5:xn k l ns (bs ++ [yh k l ns (yI bs e i j)]) es r):xn k l ns bs (e::es) r
 | far {bs es:List Ent} {e:Ent} {i j:Nat} (h1:zE (zb bs) e.1 i) (h2:zE (zb bs) e.2.1 j) (h3:wAt (zb bs) e.1 i≠wAt (zb bs) e.2.1 j) (h4:jI (yI bs e i j)):xn k l ns bs (e::es) AN
 | stuck {bs es:List Ent} {e:Ent} (h:(∀i,¬ zE (zb bs) e.1 i)\/(∀j,¬ zE (zb bs) e.2.1 j)):xn k l ns bs (e::es) AN
inductive uR(k:Nat)(l:List Nat)(ns:List Int):Nat->List Ent->Option (List Ent)->Prop where
 | out (es:List Ent):uR k l ns 0 es AN
 | bad {n:Nat} {es zs:List Ent} (h1:Lined k l ns es zs) (h2:xn k l ns [] zs AN):uR k l ns (n+1) es AN
 | done {n:Nat} {es zs bs:List Ent} (h1:Lined k l ns es zs) (h2:xn k l ns [] zs (AM bs)) (h3:zb bs=zb zs):uR k l ns (n+1) es (AM bs)
 | more {n:Nat} {es zs bs:List Ent} {r:Option (List Ent)} (h1:Lined k l ns es zs) (h2:xn k l ns [] zs (AM bs)) (h3:zb bs≠zb zs) (h4:uR k l ns n bs r):uR k l ns (n+1) es r
theorem yR{w:List Nat}{u:Nat × Nat}(h:zJ w ps=AM u):∃p,ps[u.1]? = AM p/\zx w (u.2:Int) p.1=AO:=by
 have hm:u ∈ xB w ps w.length:=List.mem_of_mem_head? (by unfold zJ at h;rw[h];rfl);exact (vv (usesK_mem.mp hm).2).2
theorem uO{l w:List Nat}(hw:∀c ∈ w,c ∈ l)(hp:∀p ∈ ps,∀c ∈ p.2,c ∈ l):∀j,∀c ∈ wAt ps w j,c ∈ l
 | 0=>hw
 | j+1=>by
  have ih:=uO hw hp j
  cases e:zJ (wAt ps w j) ps with
  | none =>
   show ∀c ∈ VC ps (wAt ps w j),c ∈ l;unfold VC;rw[e];exact ih
  | some u =>
   obtain⟨p,h1,h2⟩:=yR e;rw[vb e];unfold WC y0;rw[xU h1];intro c hc;rcases AW.mp hc with hc | hc
   ·rcases AW.mp hc with hc | hc
    ·exact ih c (bi hc)
    ·exact hp p (aa h1) c hc
   ·exact ih c (cD hc)
structure JE(R:List Nat->List Nat->Prop):Prop where
 refl:∀u,R u u
 symm:∀{u v},R u v->R v u
 trans:∀{u v w},R u v->R v w->R u w
 ctx:∀{u v} (a b:List Nat),R u v->R (a ++ u ++ b) (a ++ v ++ b)
def W8(R:List Nat->List Nat->Prop)(es:List Ent):Prop:=∀e ∈ es,R e.1 e.2.1
theorem zbN{R:List Nat->List Nat->Prop}(hR:JE R)(hk:∀p ∈ ps,R p.1 p.2)(w:List Nat):∀j,R w (wAt ps w j)
 | 0=>hR.refl w
 | j+1=>by
  have ih:=zbN hR hk w j
  cases e:zJ (wAt ps w j) ps with
  | none =>
   show R w (VC ps (wAt ps w j));unfold VC;rw[e];exact ih
  | some u =>
   obtain⟨p,h1,h2⟩:=yR e;rw[vb e];refine hR.trans ih ?_;obtain⟨e1,_⟩:=wk h2;unfold WC y0;rw[xU h1];have:=hR.ctx ((wAt ps w j).take ((u.2:Int)).toNat) ((wAt ps w j).drop (((u.2:Int)).toNat+p.1.length)) (hk p (aa h1));rw[e1]at this;exact this
theorem jE{R:List Nat->List Nat->Prop}(h:W8 R bs):∀p ∈ zb bs,R p.1 p.2:=λp hp=>by
 unfold zb at hp;obtain⟨e,he,rfl⟩:=AV.mp hp;exact h e he
theorem kd{R:List Nat->List Nat->Prop}(hR:JE R){l:List Nat}:R (yh k l ns e).1 (yh k l ns e).2.1 ↔ R e.1 e.2.1:=by
 unfold yh;split
 ·exact Iff.rfl
 ·exact#[hR.symm,hR.symm]
theorem Ug{R:List Nat->List Nat->Prop}(hR:JE R){i j:Nat}(h:W8 R bs):R (wAt (zb bs) e.1 i) (wAt (zb bs) e.2.1 j) ↔ R e.1 e.2.1:=by
 have h1:=zbN hR (jE h) e.1 i;have h2:=zbN hR (jE h) e.2.1 j;exact#[λx=>hR.trans h1 (hR.trans x (hR.symm h2)),λx=>hR.trans (hR.symm h1) (hR.trans x h2)]
theorem zeq{R:List Nat->List Nat->Prop}(hR:JE R){l:List Nat}{bs es:List Ent}{r:Option (List Ent)}(h:xn k l ns bs es r):∀fs,r=AM fs->(W8 R fs ↔ W8 R bs/\W8 R es):=by
 induction h with
 | nil bs =>
  intro fs e;cases e;exact#[λh=>#[h,λe he=>(nomatch he)],λh=>h.1]
 | @same bs es e i j r h1 h2 h3 h4 ih =>
  intro fs er;rw[ih fs er];refine#[λ⟨a,b⟩=>#[a,λx hx=>?_],λ⟨a,b⟩=>#[a,λx hx=>b x (ar _ hx)]];rcases AX.mp hx with rfl | hx
  ·refine (Ug hR a (i:=i) (j:=j)).mp ?_;rw[h3];exact hR.refl _
  ·exact b x hx
 | @new bs es e i j r h1 h2 h3 h4 h5 ih =>
  intro fs er;rw[ih fs er];constructor
  ·rintro⟨a,b⟩;have a':W8 R bs:=λx hx=>a x (bD _ hx);refine#[a',λx hx=>?_];rcases AX.mp hx with rfl | hx
   ·have:=a _ (aA bs (AY.mpr rfl));exact (Ug hR a' (i:=i) (j:=j)).mp ((kd hR).mp this)
   ·exact b x hx
  ·rintro⟨a,b⟩;refine#[λx hx=>?_,λx hx=>b x (ar _ hx)];rcases AW.mp hx with hx | hx
   ·exact a x hx
   ·rw[AY.mp hx];exact (kd hR).mpr ((Ug hR a (i:=i) (j:=j)).mpr (b e aB))
 | far=>intro fs e;cases e
 | stuck=>intro fs e;cases e
def Within(p w:List Nat):Prop:=∃a b:List Nat,w=a ++ p ++ b
theorem Us{w p:List Nat}(h:Within p w):∃q:Nat,zx w (q:Int) p=AO:=by
 obtain⟨a,b,rfl⟩:=h;refine#[a.length,?_];unfold zx;refine decide_eq_true #[⋯,by erw[ak];lia,?_];rw[aN,aO,List.drop_left,List.take_left]
theorem U3{w:List Nat}(hN:NeL ps)(h:zJ w ps=AN):∀p ∈ ps,¬ Within p.1 w:=λp hp hw=>by
 obtain⟨q,hq⟩:=Us hw;obtain⟨j,hj⟩:=Bf.mp hp;have hlt:=jo (hN p hp) hq;have hs:stJ w ps q j=AO:=by rw[j4 hj];exact hq
 have:(j,q) ∈ xB w ps w.length:=usesK_mem.mpr #[hlt,hs];unfold zJ at h;rw[List.head?_eq_none_iff]at h;rw[h]at this;cases this
structure RL(k:Nat)(l:List Nat)(ns:List Int)(bs:List Ent):Prop where
 e:∀e ∈ bs,EB l e
 lt:∀e ∈ bs,zM k l ns e.2.1 e.1=AO
theorem Jc{l:List Nat}{w:List Nat}{u:Nat × Nat}(G:OG l ns k)(hp:∀p ∈ ps,zM k l ns p.2 p.1=AO/\(∀c ∈ p.1,c ∈ l)/\∀c ∈ p.2,c ∈ l)(hw:∀c ∈ w,c ∈ l)(h:zJ w ps=AM u):zM k l ns (WC w ps u) w=AO:=by
 obtain⟨p,h1,h2⟩:=yR h;obtain⟨e1,_⟩:=wk h2;obtain⟨p1,p2,p3⟩:=hp p (aa h1);unfold WC y0;rw[xU h1];have ha:∀c ∈ w.take ((u.2:Int)).toNat,c ∈ l:=λc hc=>hw c (bi hc);have hb:∀c ∈ w.drop (((u.2:Int)).toNat+p.1.length),c ∈ l:=λc hc=>hw c (cD hc);generalize w.take ((u.2:Int)).toNat=a at *;generalize w.drop (((u.2:Int)).toNat+p.1.length)=b at *;rw[<- e1];have ap:∀x:List Nat,(∀c ∈ x,c ∈ l)->∀c ∈ a ++ x,c ∈ l:=λx hx c hc=>(AW.mp hc).elim (ha c) (hx c);rw[(Z7 G hb (ap p.2 p3) (ap p.1 p2)).2,(Z7 G ha p3 p2).1];exact p1
theorem KI{l:List Nat}{w:List Nat}(G:OG l ns k)(hp:∀p ∈ ps,zM k l ns p.2 p.1=AO/\(∀c ∈ p.1,c ∈ l)/\∀c ∈ p.2,c ∈ l)(hw:∀c ∈ w,c ∈ l):∀j,wAt ps w j=w\/zM k l ns (wAt ps w j) w=AO
 | 0=>.inl rfl
 | j+1=>by
  have ih:=KI G hp hw j;have hm:=uO hw (λp hp'=>(hp p hp').2.2) j
  cases e:zJ (wAt ps w j) ps with
  | none =>
   show VC ps (wAt ps w j)=w\/zM k l ns (VC ps (wAt ps w j)) w=AO;unfold VC;rw[e];exact ih
  | some u =>
   rw[vb e];have h:=Jc G hp hm e;rcases ih with h' | h'
   ·rw[h']at h ⊢;exact .inr h
   ·exact .inr (jl h h')
theorem RL.pairs{l:List Nat}(h:RL k l ns bs):∀p ∈ zb bs,zM k l ns p.2 p.1=AO/\(∀c ∈ p.1,c ∈ l)/\∀c ∈ p.2,c ∈ l:=λp hp=>by
 unfold zb at hp;obtain⟨e,he,rfl⟩:=AV.mp hp;exact#[h.lt e he,(h.e e he).ma,(h.e e he).mb]
theorem RL.ne{l:List Nat}(h:RL k l ns bs)(G:OG l ns k):NeL (zb bs):=λp hp=>V9 G.nb (h.pairs p hp).1
theorem RL.snoc{l:List Nat}{d:Ent}(h:RL k l ns bs)(hd:EB l d)(hne:d.1≠d.2.1):RL k l ns (bs ++ [yh k l ns d]):=by
 refine#[λe he=>?_,λe he=>?_]
 ·rcases AW.mp he with he | he
  ·exact h.e e he
  ·rw[AY.mp he];exact hd.rule
 ·rcases AW.mp he with he | he
  ·exact h.lt e he
  ·rw[AY.mp he];exact jr hd hne
theorem zbt{l:List Nat}{i j:Nat}(hB:RL k l ns bs)(hE:EB l e)(hF:¬ jI (yI bs e i j)):EB l (yI bs e i j):=by
 unfold jI at hF;exact#[⋯,⋯,⋯,uO hE.ma (λp hp=>(hB.pairs p hp).2.2) i,uO hE.mb (λp hp=>(hB.pairs p hp).2.2) j]
theorem Vi{l:List Nat}{i j:Nat}(G:OG l ns k)(hB:RL k l ns bs)(hE:EB l e)(hlt:zM k l ns e.2.1 e.1=AO)(h1:zE (zb bs) e.1 i)(h2:zE (zb bs) e.2.1 j)
  (hp1:(yh k l ns (yI bs e i j)).1=e.1) (hp2:(yh k l ns (yI bs e i j)).2.1=e.2.1):zJ e.1 (zb bs)=AN/\zJ e.2.1 (zb bs)=AN:=by
 unfold yh at hp1 hp2;by_cases h:zM k l ns (yI bs e i j).2.1 (yI bs e i j).1=AO
 ·rw[if_pos h]at hp1 hp2;have a1:wAt (zb bs) e.1 i=e.1:=hp1;have a2:wAt (zb bs) e.2.1 j=e.2.1:=hp2;have b1:=h1.end_;have b2:=h2.end_;rw[a1]at b1;rw[a2]at b2;exact#[b1,b2]
 ·rw[if_neg h]at hp1 hp2;have a1:wAt (zb bs) e.2.1 j=e.1:=hp1;rcases KI G hB.pairs hE.mb j with h' | h'
  ·rw[a1]at h';rw[h',xu]at hlt;cases hlt
  ·rw[a1]at h';rw[Xg h']at hlt;cases hlt
theorem j9{l:List Nat}(G:OG l ns k){bs es:List Ent}{r:Option (List Ent)}(h:xn k l ns bs es r):∀fs,r=AM fs->RL k l ns bs->RL k l ns es->∃gs,fs=bs ++ gs/\gs.length<=es.length/\RL k l ns fs /\
  (zb gs=zb es->∀i e,es[i]? = AM e->zJ e.1 (zb (bs ++ gs.take i))=AN/\zJ e.2.1 (zb (bs ++ gs.take i))=AN):=by
 induction h with
 | nil bs =>
  intro fs er hb he;cases er;exact#[[],by simp,al _,hb,λ_ i e h=>by simp at h]
 | @same bs es e i j r h1 h2 h3 h4 ih =>
  intro fs er hb he;obtain⟨gs,g1,g2,g3,g4⟩:=ih fs er hb #[λx hx=>he.e x (ar _ hx),λx hx=>he.lt x (ar _ hx)];refine#[gs,g1,by rw[aG];lia,g3,λhp=>?_];have:=congrArg fM hp;unfold zb at this;rw[ac,ac,aG]at this;lia
 | @new bs es e i j r h1 h2 h3 h4 h5 ih =>
  intro fs er hb he;have hEe:=he.e e aB;have hd:=zbt hb hEe h4;obtain⟨gs,g1,g2,g3,g4⟩:=ih fs er (hb.snoc hd h3) #[λx hx=>he.e x (ar _ hx),λx hx=>he.lt x (ar _ hx)];refine#[yh k l ns (yI bs e i j)::gs,by rw[g1,aO];rfl,by rw[aG,aG];lia,g3,λhp n x hx=>?_];unfold zb at hp;rw[ao,ao]at hp;injection hp with hp1 hp2;have hp1a:=(Prod.ext_iff.mp hp1).1;have hp1b:=(Prod.ext_iff.mp hp1).2
  cases n with
  | zero =>
   have e0:e=x:=by simpa using hx
   subst e0;rw[bO,aW];exact Vi G hb hEe (he.lt _ aB) h1 h2 hp1a hp1b
  | succ n =>
   have:=g4 hp2 n x (by simpa using hx);rw[aO]at this;rw[dP];exact this
 | far=>intro fs e;cases e
 | stuck=>intro fs e;cases e
theorem uZ{l:List Nat}(G:OG l ns k){p w:List Nat}(hw:∀c ∈ w,c ∈ l)(h:Within p w):p=w\/zM k l ns p w=AO:=by
 obtain⟨a,b,rfl⟩:=h;by_cases e:a ++ p ++ b=p
 ·exact .inl e.symm
 ·refine .inr (JY G (λc hc=>hw c ?_) (λc hc=>hw c ?_) (λc hc=>hw c ?_) e).1
  ·exact bD _ (bD _ hc)
  ·exact bD _ (aA _ hc)
  ·exact aA _ hc
structure ThinL(k:Nat)(l:List Nat)(ns:List Int)(zs:List Ent):Prop where
 rl:RL k l ns zs
 up:∀(i j:Nat) (a b:Ent),zs[i]? = AM a->zs[j]? = AM b->i<j->zM k l ns a.1 b.1=AO
 no1:∀(i j:Nat) (a b:Ent),zs[i]? = AM a->zs[j]? = AM b->i≠j->¬ Within b.1 a.1
 no2:∀(i j:Nat) (a b:Ent),zs[i]? = AM a->zs[j]? = AM b->¬ Within b.1 a.2.1
theorem zb0{k:Nat}{l:List Nat}{ns:List Int}(G:OG l ns k){zs bs:List Ent}(hz:RL k l ns zs)(hs:zs.Pairwise λa b=>Vr k l ns b a=AQ)(h:xn k l ns [] zs (AM bs))(hp:zb bs=zb zs):ThinL k l ns zs:=by
 obtain⟨gs,g1,g2,g3,g4⟩:=j9 G h bs rfl #[λe he=>(nomatch he),λe he=>(nomatch he)] hz;rw[bI]at g1;subst g1;have irr:=g4 hp
 erw[bI]at irr
 have early:∀(i j:Nat) (a b:Ent),zs[i]? = AM a->zs[j]? = AM b->j<i->¬ Within b.1 a.1/\¬ Within b.1 a.2.1:=λi j a b ha hb hj=>by
  have hm:(b.1,b.2.1) ∈ zb (bs.take i):=by
   have e1:zb (bs.take i)=(zb zs).take i:=by
    rw[<- hp];unfold zb;rw[List.map_take]
   rw[e1];refine Bf.mpr #[j,?_];rw[cb hj];unfold zb;rw[am,hb];rfl
  have hN:NeL (zb (bs.take i)):=λp hp'=>by
   refine (g3.ne G) p ?_;unfold zb at hp' ⊢;obtain⟨x,hx,rfl⟩:=AV.mp hp';exact AV.mpr #[x,bi hx,rfl]
  obtain⟨f1,f2⟩:=irr i a ha;exact#[U3 hN f1 _ hm,U3 hN f2 _ hm]
 have later:∀(i j:Nat) (a b:Ent),zs[i]? = AM a->zs[j]? = AM b->i<j->zM k l ns b.1 a.1=AQ:=λi j a b ha hb hij=>by
  have hi:=(AU.mp ha);have hj:=(AU.mp hb);have:=Bq.mp hs i j hi.1 hj.1 hij;rw[hi.2,hj.2]at this;unfold Vr at this;by_cases e:b.1=a.1
  ·rw[e,xu]
  ·rw[if_neg e]at this;exact this
 have memz:∀{i:Nat} {a:Ent},zs[i]? = AM a->EB l a/\zM k l ns a.2.1 a.1=AO:=λ{i a} ha=>#[hz.e _ (aa ha),hz.lt _ (aa ha)]
 have up:∀(i j:Nat) (a b:Ent),zs[i]? = AM a->zs[j]? = AM b->i<j->zM k l ns a.1 b.1=AO:=λi j a b ha hb hij=>by
  have hne:a.1≠b.1:=λe=>(early j i b a hb ha hij).1 #[[],[],by rw[e];simp];have t:=jj (k:=k) (ns:=ns) (memz ha).1.ma (memz hb).1.ma hne;rw[later i j a b ha hb hij]at t;simpa using t
 refine#[hz,up,λi j a b ha hb hij=>?_,λi j a b ha hb hw=>?_]
 ·rcases Nat.lt_or_gt_of_ne hij with h1 | h1
  ·intro hw;rcases uZ G (memz ha).1.ma hw with e | e
   ·have:=up i j a b ha hb h1;rw[e,xu]at this;cases this
   ·rw[later i j a b ha hb h1]at e;cases e
  ·exact (early i j a b ha hb h1).1
 ·have hle:zM k l ns b.1 a.1=AO:=by
   rcases uZ G (memz ha).1.mb hw with e | e
   ·rw[e];exact (memz ha).2
   ·exact jl e (memz ha).2
  rcases ef i j with h1 | h1 | h1
  ·rw[later i j a b ha hb h1]at hle;cases hle
  ·subst h1;rw[ha]at hb;cases hb;rw[xu]at hle;cases hle
  ·exact (early i j a b ha hb h1).2 hw
theorem ur{w:List Nat}:∀{i:Nat},Vf ps w i->yv ps w (stS (sAt ps w i))=AM (wAt ps w i)
 | 0,_=>rfl
 | i+1,h=>by
  have ih:=ur (i:=i) λj hj=>h j ⋯;have hne:=h i ⋯
  cases e:zJ (wAt ps w i) ps with
  | none=>exact absurd e hne
  | some u =>
   rw[Wu,vb e,e];unfold stS at ih ⊢;rw[ax];refine Z9 ih ?_;obtain⟨p,h1,h2⟩:=yR e;have hl:=(AU.mp h1).1;show yQ ps (wAt ps w i) ((u.1:Int),(u.2:Int),AO)=_;rw[xv (by show (0:Int)<=(u.1:Int)/\(u.1:Int)<ps.length;lia)];have e2:ps.getD ((u.1:Int)).toNat ([],[])=p:=by rw[aN,ah,h1];rfl
   show (if zx (wAt ps w i) (u.2:Int) (sdl (ps.getD ((u.1:Int)).toNat ([],[])) AO).1=AO then _ else AN)=_;rw[e2,if_pos (show zx (wAt ps w i) (u.2:Int) (sdl p AO).1=AO from h2)];unfold WC;rw[xU h1];rfl
theorem Uv{l:List Nat}(h:EOk rs e):EOk rs (yh k l ns e):=by
 unfold yh;split
 ·exact h
 ·exact wS h
theorem za5{i j:Nat}(hb:∀e ∈ bs,EOk rs e)(he:EOk rs e)(h1:zE (zb bs) e.1 i)(h2:zE (zb bs) e.2.1 j):EOk rs (yI bs e i j):=by
 have w1:=qX hb (wS (ur h1.live));have w2:=qX hb (ur h2.live);have he':yv rs e.1 e.2.2=AM e.2.1:=he;show yv rs (wAt (zb bs) e.1 i) (byL bs (yF (stS (sAt (zb bs) e.1 i))) ++ e.2.2 ++ byL bs (stS (sAt (zb bs) e.2.1 j)))=AM (wAt (zb bs) e.2.1 j);rw[vg,vg,w1,cu,he',cu];exact w2
theorem WQ{l:List Nat}{bs es:List Ent}{r:Option (List Ent)}(h:xn k l ns bs es r):∀fs,r=AM fs->(∀e ∈ bs,EOk rs e)->(∀e ∈ es,EOk rs e)->∀e ∈ fs,EOk rs e:=by
 induction h with
 | nil bs=>intro fs er hb _;cases er;exact hb
 | @same bs es e i j r h1 h2 h3 h4 ih=>intro fs er hb he;exact ih fs er hb λx hx=>he x (ar _ hx)
 | @new bs es e i j r h1 h2 h3 h4 h5 ih =>
  intro fs er hb he;refine ih fs er (λx hx=>?_) λx hx=>he x (ar _ hx);rcases AW.mp hx with hx | hx
  ·exact hb x hx
  ·rw[AY.mp hx];exact Uv (za5 hb (he e aB) h1 h2)
 | far=>intro fs e;cases e
 | stuck=>intro fs e;cases e
theorem XZ{l:List Nat}{es zs:List Ent}(h:Lined k l ns es zs)(he:∀e ∈ es,EOk rs e):∀e ∈ zs,EOk rs e:=λe hz=>by
 have hm:=h.perm.mem_iff.mp hz;unfold jX at hm;obtain⟨y,hy,rfl⟩:=AV.mp hm;exact Uv (he y (Bb.mp hy).1)
theorem Wj{l:List Nat}{es zs:List Ent}(h:Lined k l ns es zs)(he:∀e ∈ es,EB l e):RL k l ns zs:=by
 have key:∀e ∈ zs,∃y,EB l y/\y.1≠y.2.1/\e=yh k l ns y:=λe hz=>by
  have hm:=h.perm.mem_iff.mp hz;unfold jX at hm;obtain⟨y,hy,rfl⟩:=AV.mp hm;obtain⟨h1,h2⟩:=Bb.mp hy;exact#[y,he y h1,by simpa using h2,rfl]
 refine#[λe hz=>?_,λe hz=>?_]
 ·obtain⟨y,h1,_,rfl⟩:=key e hz;exact h1.rule
 ·obtain⟨y,h1,h2,rfl⟩:=key e hz;exact jr h1 h2
theorem KB{l:List Nat}(G:OG l ns k){zs bs:List Ent}(hz:RL k l ns zs)(h:xn k l ns [] zs (AM bs)):RL k l ns bs:=by
 obtain⟨gs,g1,g2,g3,g4⟩:=j9 G h bs rfl #[λe he=>(nomatch he),λe he=>(nomatch he)] hz;exact g3
theorem WA{k n:Nat}{l:List Nat}(G:OG l ns k){r:Option (List Ent)}(h:uR k l ns n es r):∀fs,r=AM fs->(∀e ∈ es,EB l e)->(∀e ∈ es,EOk rs e)->(∀e ∈ fs,EOk rs e)/\∃zs,ThinL k l ns zs/\zb fs=zb zs:=by
 induction h with
 | out=>intro fs e;cases e
 | bad=>intro fs e;cases e
 | @done n es zs bs h1 h2 h3 =>
  intro fs er he ho;cases er;have hz:=Wj h1 he;exact#[WQ h2 bs rfl (λe h=>(nomatch h)) (XZ h1 ho),zs,zb0 G hz h1.srt h2 h3,h3]
 | @more n es zs bs r h1 h2 h3 h4 ih =>
  intro fs er he ho;have hz:=Wj h1 he;exact ih fs er (KB G hz h2).e (WQ h2 bs rfl (λe h=>(nomatch h)) (XZ h1 ho))
noncomputable def rankF:KeyFam (Int × List Int):=#[λr=>[.int r.1,.lst (r.2.map L3.D.int)],λa b=>if a.1=b.1 then ltI a.2 b.2 else decide (a.1<b.1),AO,(0,[])]
theorem J6{x y:List Int}(h:ltI x y=AO):ltI y x=AQ:=by
 by_cases e:x=y
 ·subst e;rw[xa]at h;cases h
 ·have:=wL e;rw[h]at this;simpa using this.symm
theorem zaM{x y z:List Int}(h1:ltI y x=AQ)(h2:ltI z y=AQ):ltI z x=AQ:=by
 cases h:ltI z x with
 | false=>rfl
 | true =>
  by_cases e:y=x
  ·subst e;rw[h2]at h;cases h
  ·have h3:=wL e;rw[h1]at h3;have h4:ltI x y=AO:=by simpa using h3.symm
   rw[jC h h4]at h2;cases h2
theorem rankF_ok:rankF.Ok where
 w:=#[λa b h=>by
   erw[rankF]at h ⊢
   by_cases e:a.1=b.1
   ·rw[if_pos e]at h;rw[if_pos e.symm];exact J6 h
   ·rw[if_neg e]at h;rw[if_neg (λz=>e z.symm)];have:=of_decide_eq_true h;exact decide_eq_false ⋯,
  λa b c h1 h2=>by
   erw[rankF]at h1 h2 ⊢
   by_cases e:b.1=a.1
   ·rw[if_pos e]at h1;rw[e]at h2;by_cases f:c.1=a.1
    ·rw[if_pos f]at h2 ⊢;exact zaM h1 h2
    ·rw[if_neg f]at h2 ⊢;exact h2
   ·rw[if_neg e]at h1;have h1':=of_decide_eq_false h1;by_cases f:c.1=b.1
    ·rw[if_neg ⋯];exact decide_eq_false ⋯
    ·rw[if_neg f]at h2;have h2':=of_decide_eq_false h2;rw[if_neg ⋯]
     exact decide_eq_false ⋯]
 eq:=λa b=>by
  have:=QU a.1 b.1 a.2 b.2
  erw[ltD]at this
  exact this
 ok:=λa b=>by erw[rankF,ql,okD];exact#[trivial,v8 _ _,trivial]
 dp:=λa=>by erw[rankF,dpD,uP,ZA];decide
 sh:=λa=>#[_,_,rfl,.inl #[rfl,_,rfl]]
noncomputable def zcq(k:Nat)(l:List Nat)(ns:List Int)(w:List Nat):Int × List Int:=(zw k l ns w,qJ k l w)
theorem Wm{d:L3.D}{v:V}:∀{ds:List L3.D} {vs:List V},Iss K H ds vs->Is K H d v->Iss K H (ds ++ [d]) (vs ++ [v])
 | [],vs,h,hv=>by
  erw[Iss]at h
  subst h
  erw[bI,Iss]
  exact#[v,[],rfl,hv,rfl]
 | e::ds,vs,h,hv=>by
  erw[Iss]at h
  obtain⟨x,r,rfl,hx,hr⟩:=h
  erw[bo,Iss]
  exact#[x,r ++ [v],rfl,hx,Wm hr hv]
theorem OrdAt.samT{T CO CR CW:rX}{H H':Hp}{ps:Array rY}{o:rX}{l:List Nat}(h:OrdAt CO CR CW H o k l ns)(s:SamT T H H')(hT:H T=AM (.tbl ps)):OrdAt CO CR CW H' o k l ns:=by
 obtain⟨dx,⟨h1,h2⟩ | ⟨h1,h2⟩ | ⟨h1,h2,w,h3,h4⟩⟩:=h
 ·exact#[dx,.inl #[h1,s.at hT h2 λ_ z=>by cases z]]
 ·exact#[dx,.inr (.inl #[h1,s.at hT h2 λ_ z=>by cases z])]
 ·exact#[dx,.inr (.inr #[h1,h2,w,s.at hT h3 (λ_ z=>by cases z),s.at hT h4 λ_ z=>by cases z])]
theorem EnsA.samT{T:rX}{H H':Hp}{ps:Array rY}(s:SamT T H H')(hT:H T=AM (.tbl ps)):∀{es:List Ent} {vs:List V},EnsA K H es vs->EnsA K H' es vs
 | [],vs,h=>by erw[EnsA]at h ⊢;exact h
 | e::es,vs,h=>by
  erw[EnsA]at h ⊢
  obtain⟨v,r,e0,⟨p,s',e1,h1,h2⟩,h3⟩:=h;exact#[v,r,e0,#[p,s',e1,s.seqT hT h1,h2.samT s hT],EnsA.samT s hT h3]
theorem Xo{a b:Int × List Int}(h:a≠b):rankF.lt a b=!rankF.lt b a:=by
 erw[rankF]
 by_cases e:a.1=b.1
 ·rw[if_pos e,if_pos e.symm];exact wL λq=>h (Prod.ext e q)
 ·rw[if_neg e,if_neg λq=>e q.symm];by_cases c:a.1<b.1
  ·rw[decide_eq_true c,decide_eq_false ⋯];rfl
  ·rw[decide_eq_false c,decide_eq_true ⋯];rfl
theorem UX(a b:Int × List Int):eqD (.tup (rankF.dec a)) (.tup (rankF.dec b))=decide (a=b):=by
 obtain⟨a1,a2⟩:=a;obtain⟨b1,b2⟩:=b
 erw[rankF,eqD,v0,Ya]
 by_cases h:a1=b1
 ·by_cases h2:a2=b2
  ·simp [h,h2]
  ·simp [h,h2]
 ·simp [h]
theorem WS(a b:Int × List Int):ltD (.tup (rankF.dec a)) (.tup (rankF.dec b))=rankF.lt a b:=by
 erw[ltD]
 exact rankF_ok.eq a b
theorem Z5(a:Int × List Int):rankF.lt a a=AQ:=by
 erw[rankF]
 rw[if_pos trivial];exact xa _
noncomputable def pairF:KeyFam ((Int × List Int) × (Int × List Int)):=#[λr=>[.tup (rankF.dec r.1),.tup (rankF.dec r.2)],λa b=>if a.1=b.1 then rankF.lt a.2 b.2 else rankF.lt a.1 b.1,AQ,((0,[]),(0,[]))]
theorem qr(a b:(Int × List Int) × (Int × List Int)):pairF.lt a b=if a.1=b.1 then rankF.lt a.2 b.2 else rankF.lt a.1 b.1:=rfl
theorem JB:pairF.Ok where
 w:=#[λa b h=>by
   rw[qr]at h ⊢;by_cases e:a.1=b.1
   ·rw[if_pos e]at h;rw[if_pos e.symm];exact rankF_ok.w.asym _ _ h
   ·rw[if_neg e]at h;rw[if_neg λq=>e q.symm];exact rankF_ok.w.asym _ _ h,
  λa b c h1 h2=>by
   rw[qr]at h1 h2 ⊢;by_cases e:b.1=a.1
   ·rw[if_pos e]at h1;rw[e]at h2;by_cases f:c.1=a.1
    ·rw[if_pos f]at h2 ⊢;exact rankF_ok.w.ntr _ _ _ h1 h2
    ·rw[if_neg f]at h2 ⊢;exact h2
   ·rw[if_neg e]at h1;by_cases g:c.1=b.1
    ·rw[g,if_neg e];exact h1
    ·rw[if_neg g]at h2;by_cases f:c.1=a.1
     ·rw[f]at h2;have:=Xo (a:=b.1) (b:=a.1) e;rw[h1,h2]at this;cases this
     ·rw[if_neg f]
      exact rankF_ok.w.ntr _ _ _ h1 h2]
 eq:=λa b=>by
  show wv [.tup (rankF.dec a.1),.tup (rankF.dec a.2)] [.tup (rankF.dec b.1),.tup (rankF.dec b.2)]=_;rw[qr,wv,UX,wv,UX,WS,WS,wv];by_cases e:a.1=b.1
  ·rw[if_pos (decide_eq_true e),if_pos e];by_cases f:a.2=b.2
   ·rw[if_pos (decide_eq_true f),f,Z5]
   ·rw[if_neg (by simpa using f)]
  ·rw[if_neg (by simpa using e),if_neg e]
 ok:=λa b=>by
  show ql [.tup (rankF.dec a.1),.tup (rankF.dec a.2)] [.tup (rankF.dec b.1),.tup (rankF.dec b.2)]
  erw[ql,okD]
  exact#[rankF_ok.ok _ _,rankF_ok.ok _ _,trivial]
 dp:=λa=>by erw[pairF,rankF,dpD,uP,ZA];decide
 sh:=λa=>#[_,_,rfl,.inr #[rfl,_,rfl]]
noncomputable def rkE(k:Nat)(l:List Nat)(ns:List Int)(e:Ent):(Int × List Int) × (Int × List Int):=(zcq k l ns e.1,zcq k l ns e.2.1)
theorem zdo{l:List Nat}{u v:List Nat}(hu:∀c ∈ u,c ∈ l)(hv:∀c ∈ v,c ∈ l):zcq k l ns u=zcq k l ns v ↔ u=v :=
 #[λh=>WJ hu hv (Prod.ext_iff.mp h).2,λh=>by rw[h]]
theorem zbB{l:List Nat}{a b:Ent}(ha:EB l a)(hb:EB l b):pairF.lt (rkE k l ns a) (rkE k l ns b)=Vr k l ns a b:=by
 rw[qr];unfold Vr;have h:(rkE k l ns a).1=(rkE k l ns b).1 ↔ a.1=b.1:=zdo ha.ma hb.ma;by_cases e:a.1=b.1
 ·rw[if_pos (h.mpr e),if_pos e];rfl
 ·rw[if_neg λq=>e (h.mp q),if_neg e];rfl
theorem Yz{α β:Type}(g:α->β){us ys:List β}(h:us.Perm ys):∀ts:List α,us=ts.map g->∃ts':List α,ts'.Perm ts/\ys=ts'.map g:=by
 induction h with
 | nil =>
  intro ts e;exact#[ts,List.Perm.refl _,e]
 | @cons x us ys _ ih =>
  intro ts e
  match ts,e with
  | t::ts,e =>
   rw[ao]at e;injection e with e1 e2;obtain⟨ts',p,rfl⟩:=ih ts e2;exact#[t::ts',p.cons t,by rw[e1];rfl]
 | swap x y us =>
  intro ts e
  match ts,e with
  | t::t2::ts,e =>
   rw[ao,ao]at e;injection e with e1 e2;injection e2 with e2 e3;exact#[t2::t::ts,List.Perm.swap t t2 ts,by rw[e1,e2,e3];rfl]
 | trans _ _ ih1 ih2 =>
  intro ts e;obtain⟨ts',p1,e1⟩:=ih1 ts e;obtain⟨ts'',p2,e2⟩:=ih2 ts' e1;exact#[ts'',p2.trans p1,e2]
theorem VQ:∀{es:List Ent} {vs:List V},EnsA K H es vs->∀t ∈ es.zip vs,EnA K H t.1 t.2
 | [],_,_,t,ht=>by simp at ht
 | e::es,vs,h,t,ht=>by
  erw[EnsA]at h
  obtain⟨v,r,rfl,h1,h2⟩:=h;rw[di]at ht;rcases AX.mp ht with rfl | ht
  ·exact h1
  ·exact VQ h2 t ht
theorem KZ:∀{ts:List (Ent × V)},(∀t ∈ ts,EnA K H t.1 t.2)->EnsA K H (ts.map (·.1)) (ts.map (·.2))
 | [],_=>by erw[aI,EnsA]
 | t::ts,h=>by
  erw[ao,EnsA]
  exact#[_,_,rfl,h t aB,KZ λu hu=>h u (ar _ hu)]
theorem Xc{l:List Nat}{vs:List V}{ys:List (((Int × List Int) × (Int × List Int)) × V)}(hI:EnsA K H es vs)(hE:∀e ∈ es,EB l e)(h1:ys.Perm ((es.map (rkE k l ns)).zip vs))(h2:ys.Pairwise λp q=>pairF.lt q.1 p.1=AQ) :
  ∃zs:List Ent,zs.Perm es/\zs.Pairwise (λa b=>Vr k l ns b a=AQ)/\EnsA K H zs (ys.map (·.2)):=by
 have hl:=hI.len
 have e0:(es.map (rkE k l ns)).zip vs=(es.zip vs).map λt=>(rkE k l ns t.1,t.2):=by
  rw[List.zip_map_left];rfl
 obtain⟨ts,p,rfl⟩:=Yz (λt:Ent × V=>(rkE k l ns t.1,t.2)) h1.symm (es.zip vs) e0;have hm:∀t ∈ ts,t.1 ∈ es:=λt ht=>(dc (show (t.1,t.2) ∈ es.zip vs from p.mem_iff.mp ht)).1;refine#[ts.map (·.1),?_,?_,?_]
 ·have:=p.map (·.1);rw[List.map_fst_zip ⋯]at this;exact this
 ·rw[List.pairwise_map]at h2 ⊢;refine h2.imp_of_mem λ{a b} ha hb h=>?_;rw[<- zbB (hE _ (hm _ hb)) (hE _ (hm _ ha))];exact h
 ·have e1:(ts.map λt=>(rkE k l ns t.1,t.2)).map (·.2)=ts.map (·.2):=by
   rw[dD];rfl
  rw[e1];exact KZ λt ht=>VQ hI t (p.mem_iff.mp ht)
def tbE(K:rW)(CO CR CW:rX):TE:=Q8 (zL (zq (zcU CO CR CW) "rank" (λ_=>qT CO CR CW) [] E0 (yj 1) (zL (tOp (jn K) (yj 0) (tC (.int 0))) xR)) (zL (zq (zcU CO CR CW) "rank" (λ_=>qT CO CR CW) [] E0 (yj 1) (zL (tOp (jn K) (yj 0) (tC (.int 1))) xR)) xR))
theorem zcD{CO CR CW o p s:rX}{l:List Nat}(hG:OG l ns k)(ho:OrdAt CO CR CW H o k l ns)(hE:EB l e)(hp:SqT K H p [.str (tx e.1),.str (tx e.2.1),.ref s])(q:∀(t:rX) (H':Hp),Same H H'->Is K H' (.tup (pairF.dec (rkE k l ns e))) (.ref t)->Q (.ref t) H'):tbE K CO CR CW [AM (.ref p),AM (.ref o)] H Q:=by
 have s16:=zO;obtain⟨C,dx,fs,hf,ho1,hn,_⟩:=ho.fam;have h1:fs.lookup ("rank" : sk)=AN:=hn _ ∅ ∅;unfold tbE;ac_rfl;refine#[C,hf,dx,fs,ho1,h1,_,hp,_,rfl,o,k,l,ns,e.1,rfl,ho,hG,by have:=hE.a;lia,hE.ma,λp1 q1 H1 s1 hp1 hq1=>#[C,hf,dx,fs,s1 _ _ ho1,h1,_,zt s1 hp,_,rfl,o,k,l,ns,e.2.1,rfl,ho.same s1,hG,by have:=hE.b;lia,hE.mb,λp2 q2 H2 s2 hp2 hq2=>#[⋯,λt ht=>?_]]];refine q t _ (s1.trans (s2.trans (zc (o:=.tup [.ref p1,.ref p2]) ht))) ?_;show Is K _ (.tup [.tup (rankF.dec (zcq k l ns e.1)),.tup (rankF.dec (zcq k l ns e.2.1))]) (.ref t);refine Is.tup ht ?_
 erw[Iss]
 exact#[_,_,rfl,kT (s2 _ _ hp1) (s2 _ _ hq1),_,_,rfl,kT hp2 hq2,rfl]
theorem zay{CO CR CW o:rX}{l:List Nat}{LA:Hp->Prop}{Qf:List V->Hp->Prop}(hG:OG l ns k)(hLA:∀H H',LA H->Same H H'->LA H'):∀(es:List Ent) (vs AT:List V) (rs:List ((Int × List Int) × (Int × List Int))) (H:Hp),LA H->OrdAt CO CR CW H o k l ns->(∀e ∈ es,EB l e)->EnsA K H es vs ->
  Iss K H (rs.map λa=>.tup (pairF.dec a)) AT->(∀acc' H',Same H H'->Iss K H' ((rs ++ es.map (rkE k l ns)).map λa=>.tup (pairF.dec a)) acc'->Qf acc' H')->uU (λx H Q=>LA H/\tbE K CO CR CW [AM x,AM (.ref o)] H Q) vs AT H Qf
 | [],vs,AT,rs,H,hL,ho,hw,hV,hI,h=>by
  erw[EnsA]at hV
  subst hV;exact h AT H (Same.refl _) (by simpa using hI)
 | e::es,vs,AT,rs,H,hL,ho,hw,hV,hI,h=>by
  have s16:=zO
  erw[EnsA]at hV
  obtain⟨v,r,rfl,⟨p,s,rfl,hp,_⟩,hV⟩:=hV;refine#[hL,zcD hG ho (hw e aB) hp λt H' s3 hIs=>?_];refine zay hG hLA es r (AT ++ [.ref t]) (rs ++ [rkE k l ns e]) _ (hLA _ _ hL s3) (ho.same s3) (λx hx=>hw x (ar _ hx)) (hV.same s3) ?_ λacc' H' s' hI'=>h acc' H' (s3.trans s') (by simpa using hI');rw[ax];exact Wm (Iss.same s3 _ _ hI) hIs
noncomputable def zdF:sr->tm
 | .Lambda _ _ _ p=>p
 | _=>default
noncomputable def zfR:List sv->tm
 | _::.Return (AM (.Call _ _ (k::_) _)) _::_=>zdF k.value
 | _=>default
noncomputable def lp:tm:=zfR (yc yz)
noncomputable def lq:sk:="in_order.<locals>.<lambda>"
def Zh(K:rW)(CO CR CW T:rX):Sp:=λvs H Q _=>∃(o a:rX) (k:Nat) (l:List Nat) (ns:List Int) (es:List Ent),vs=[.ref o,.ref a]/\OrdAt CO CR CW H o k l ns/\OG l ns k/\EnsL K H a es/\es.length<64/\(∀e ∈ es,EB l e)/\TabOk H T lp lq /\
 ∀(D:rX) (zs:List Ent) (H':Hp),SamT T H H'->TabOk H' T lp lq->H D=AN->Lined k l ns es zs->EnsM K H' D zs->Q (.ref D) H'
theorem QV{CO CR CW T o a:rX}{l:List Nat}(h1:OrdAt CO CR CW H o k l ns)(h2:OG l ns k)(h3:EnsL K H a es)(h4:es.length<64)(h5:∀e ∈ es,EB l e)(h6:TabOk H T lp lq)
  (h:∀(D:rX) (zs:List Ent) (H':Hp),SamT T H H'->TabOk H' T lp lq->H D=AN->Lined k l ns es zs->EnsM K H' D zs->Q (.ref D) H'):Zh K CO CR CW T [.ref o,.ref a] H Q E:=#[o,a,k,l,ns,es,rfl,h1,h2,h3,h4,h5,h6,h]
abbrev zaG(mg:sk->Option rY):Prop:=mg "sorted" = AN
theorem oh:zk ["order","entries","unlike"] ["order","entries"] (zh yz):=by nofun
theorem Xp{f CO CR CW CC TB:rX}(B:Bt mg)(DRk:DR P w K mg base CO CR CW)(hsorted:zaG mg)(hCd:PySem.W.CodeHd base CC TB)(hBt:base.BuiltinsAt mg TB)(hgT:rS≠TB)(F:Fun K "in_order" "in_order" yz f fd)(HC:fd.code=.ref CC)(ny:Df P w K mg base CX0 4 "as_rule" ["order","entry"] [] (wT K CO CR CW)):zQ P w K mg base CX0 6 f fd ["order","entries"] (Zh K CO CR CW TB):=by
 refine zaL F HC oh (λvs H Q E h=>?_) (λA outer s H vs Q E hr h=>?_)
 ·obtain⟨o,a,k,l,ns,es,rfl,_⟩:=h;rfl
 ·obtain⟨o,a,k,l,ns,es,rfl,ho,hG,hA,hz,hE,hTab,q⟩:=h
  refine#[_,(zi (UJ (i:=2) oh.nd rfl (.inl rfl) (.inl rfl) (own:=["entry"]) (caps:=["order"]) (ix:=[0]) (tt:=(tBl (tOp rNe (tOp (jn K) (yj 0) (tC (.int 0))) (tOp (jn K) (yj 0) (tC (.int 1)))))) (te:=(qb (wT K CO CR CW) [] E0 (zL (yj 1) (zL (yj 0) xR)))) rfl (zS (sc:=zh yz) rfl (by symm) (by symm) (by symm) rfl (by symm) (by symm) rfl) (yd (pv 1)) (λ_ _ _ _ _ _=>zu (i:=0) (show List.Nodup [_,_] by decide) rfl (.inl rfl)) (λ_ _ _ _ _ _=>(VS (zy vJ (zo ix_tup (pv 0) zg) (zo ix_tup (pv 0) zg) (zA _)))) (λ_ _ _ _ _ _=>(cl0 ny hr .nil rfl (za (pv 1) (za (pv 0) zd)))))
   (zf (zl (Km (k:=2) (p:="entry") (y:="order") (iy:=0) (c:=s⁻¹+1) (tb:=tbE K CO CR CW) JB #[rfl,rfl,rfl,∅,rfl,rfl,∅,∅] (hr.mono ∅) rfl hsorted PyProof.Rows.boot_sorted (za (pv 2) zd) rfl hCd hBt hgT rfl rfl (by intro _ _ _ _;exact rfl) rfl rfl rfl (λs H f cv hr'=>zR (za (zcs DRk hr' (pv 1) (za (zo ix_tup (pv 0) zg) zd)) (za (zcs DRk hr' (pv 1) (za (zo ix_tup (pv 0) zg) zd)) zd))))))),?_]
  have s16:=zO;obtain⟨xs,hX,hI⟩:=id hA;have hxl:=hI.len
  have hEr:∀e ∈ jX k l ns es,EB l e:=λe he=>by
   unfold jX at he;obtain⟨y,hy,rfl⟩:=AV.mp he;exact (hE y (Bb.mp hy).1).rule
  have hrl:=Y2 k l ns es;refine zj (λσ H'=>Same H H'/\∃(D0:rX) (AT:List V),H D0=AN/\H' D0=AM (.lst AT)/\EnsA K (jS D0 H') (jX k l ns es) AT/\σ=[AM (.ref o),AM (.ref a),AM (.ref D0)]) ?_ ?_
  ·ac_rfl;refine#[#[xs,hX],λD hD=>CompL.by (xs:=xs) (λi AT H'=>Same H H'/\H' D=AM (.lst AT)/\EnsA K (jS D H') (jX k l ns (es.take i)) AT) #[zc hD,ze,by erw[bO,jX,dg,aI,EnsA]] (λi AT H' _ h=>h.1.seq hX) ?_ ?_]
   ·refine nm4 ?_;rintro i x AT H' hx ⟨hs,hH,hA⟩:_;have hi:=(AU.mp hx).1;obtain⟨e,pe,se,hei,rfl,hqe,hse⟩:=hI.get hx;have hEe:=hE e (aa hei);have hal:=hA.len;have hal2:=Y2 k l ns (es.take i);rw[aJ]at hal2;have hq1:=zt hs hqe
    have hraw:jX k l ns (es.take (i+1))=jX k l ns (es.take i) ++ if e.1=e.2.1 then []else [yh k l ns e]:=by
     rw[z7 hei,zaE];congr 1;unfold jX;by_cases hne:e.1=e.2.1
     ·rw[if_pos hne,eQ (by simp [hne])];rfl
     ·rw[if_neg hne,eP (by simp [hne])];rfl
    right;ac_rfl;refine#[xN,_,hq1,_,rfl,_,hq1,_,rfl,rfl,yo (λhne=>?_) λheq=>?_]
    ·have hne':¬ e.1=e.2.1:=λz=>hne (by rw[z]);rw[if_neg hne']at hraw
     have fin:∀(v:V) (H2:Hp),Same H' H2->EnA K (jS D H2) (yh k l ns e) v->H2 D=AM (.lst AT)/\AT.length<rV/\CNx xs.length i (λi AT H'=>Same H H'/\H' D=AM (.lst AT)/\EnsA K (jS D H') (jX k l ns (es.take i)) AT) (AT ++ [v]) (upd H2 D (.lst (AT ++ [v]))):=λv H2 s2 hv=>by
      refine#[s2 _ _ hH,⋯,CNx.mk hi #[zI (hs.trans s2) hD,ze,?_]];rw[hraw];exact (hA.same ((wP s2).trans xw)).snoc (hv.same xw)
     refine ku (ho.same hs) hG hq1 (hse.same hs).is hEe (λer H2 s2=>fin _ _ s2 ?_) λp' s' H2 s2 hsn hp' hL=>fin _ _ s2 ?_
     ·rw[er];exact EnA.same #[pe,se,rfl,hqe,hse] (UM hD (hs.trans s2))
     ·exact EnA.new (s2 _ _ hH) hp' hL (λz=>by rw[z,hH]at hsn;cases hsn)
    ·have heq':e.1=e.2.1:=by
      have:=Classical.not_not.mp heq;injection this with this;exact uT this
     rw[if_pos heq',aW]at hraw;exact CNx.mk hi #[hs,hH,by rw[hraw];exact hA]
   ·rintro AT H' ⟨hs,hH,hA⟩;rw[hxl,aP]at hA;exact#[hs,D,hD,AT,hH,hA,rfl]
  rintro σ H1 ⟨s1,D0,AT,hD0,hH1,hI1,rfl⟩:_;have hal:=hI1.len;have hT1:=hTab.same s1;obtain⟨ps1,hps1,_⟩:=id hT1;right;ac_rfl;unfold KH;refine#[hT1,λf H2 hf hLA hT2 sT=>?_];obtain⟨ps2,hps2,_⟩:=id hT2;have hI2:=EnsA.samT sT hps1 (hI1.same wC);refine#[D0,AT,.ref o,rfl,SqL.of (sT.at hps1 hH1 λ_ z=>by cases z),⋯,rfl,?_];refine zay hG (λA A' h1 h2=>LamAt.same h1 h2) (jX k l ns es) AT [] [] H2 hLA ((ho.same s1).samT sT hps1) hEr hI2 (by erw[aI,Iss]) λacc' H3 s3 hI3=>#[(jX k l ns es).map (rkE k l ns),by simpa using hI3,λys p1 p2 D hD=>?_];obtain⟨zs,z1,z2,z3⟩:=Xc (hI2.same s3) hEr p1 p2;have sD:=zc (o:=.lst (ys.map (·.2))) hD;refine q D zs _ ((SamT.of s1).trans (sT.trans (SamT.of (s3.trans sD)))) (hT2.same (s3.trans sD)) ?_ #[z1,z2] #[_,ze,z3.same sD];exact ((SamT.of s1).trans (sT.trans (SamT.of s3))).free (s3 _ _ hps2) hD
structure TMo(mg:sk->Option rY):Prop where
 u:∃t,mg "MOST_USES_thinning" = AM (.int 40 t)
 s:∃t,mg "MOST_STEPS_thinning" = AM (.int 240 t)
 d:∃t,mg "MOST_SIDE_thinning" = AM (.int 60 t)
 p:∃t,mg "MOST_PASSES" = AM (.int 20 t)
structure BG(k:Nat)(l:List Nat)(ns:List Int)(bs:List Ent):Prop where
 n:bs.length<64
 e:∀e ∈ bs,EB l e
 lt:∀e ∈ bs,zM k l ns e.2.1 e.1=AO
theorem BG.ne{l:List Nat}(h:BG k l ns bs)(G:OG l ns k):NeL (zb bs):=λp hp=>by
 unfold zb at hp;obtain⟨e,he,rfl⟩:=AV.mp hp;exact V9 G.nb (h.lt e he)
theorem BG.le{l:List Nat}(h:BG k l ns bs):∀p ∈ zb bs,p.1.length<=60/\p.2.length<=60:=λp hp=>by
 unfold zb at hp;obtain⟨e,he,rfl⟩:=AV.mp hp;exact#[(h.e e he).a,(h.e e he).b]
theorem BG.mem{l:List Nat}(h:BG k l ns bs):∀p ∈ zb bs,∀c ∈ p.2,c ∈ l:=λp hp=>by
 unfold zb at hp;obtain⟨e,he,rfl⟩:=AV.mp hp;exact (h.e e he).mb
theorem uM{CF a:rX}{w:List Nat}(hA:LsA K H a (ps.map dR))(hN:NeL ps)(hpl:ps.length<=100)(hP:∀p ∈ ps,p.1.length<=60/\p.2.length<=60)(hw:w.length<=60)
  (h1:∀(i:Nat) (p S:rX) (H':Hp),zE ps w i->Same H H'->H' p=AM (.tup [.ref S,.str (tx (wAt ps w i))])->LsA K H' S ((sAt ps w i).map dG)->H S=AN->Q (.ref p) H') (h2:(∀i,¬ zE ps w i)->∀H',Same H H'->E (.ref CF) AN H'):xK K CF [.ref a,.str (tx w),.int 40] H Q E:=by
 have hP':∀p ∈ ps,p.1.length<=1000/\p.2.length<=1000:=λp hp=>by
  have:=hP p hp;lia
 have len:∀j,j<=40->(wAt ps w j).length<=10000:=λj hj=>by
  have:=qS (l:=w) (m:=60) hN (λp hp=>(hP p hp).2) j;lia
 rcases zb8 ps w with ⟨i,hi⟩ | ⟨hL,hf⟩
 ·have hm:=hi.most;exact#[a,w,ps,40,i,rfl,hA,hN,hpl,hP',#[hi.live,λj hj=>len j ⋯,⋯],.inl #[hi.end_,⋯,λp S H' s' hp hL hS=>h1 i p S H' hi s' hp hL hS]]
 ·refine#[a,w,ps,40,40,rfl,hA,hN,hpl,hP',#[hL,λj hj=>len j hj,∅],.inr #[hf,rfl,h2 λi hi=>?_]];have hm:=hi.most;by_cases e:i=40
  ·subst e;exact hf hi.end_
  ·exact hL i ⋯ hi.end_
theorem U8(us:List (Nat × Nat)):us.map dG=(stS us).map dSt:=by
 unfold stS;rw[dD];rfl
theorem Zd(us:List (Nat × Nat)):(stS us).length=us.length:=by unfold stS;rw[ac]
theorem zc6{w:List Nat}{i:Nat}(h:Vf ps w i):∀u ∈ sAt ps w i,u.1<ps.length:=λu hu=>by
 unfold sAt at hu;obtain⟨j,hj,rfl⟩:=AV.mp hu
 cases e:zJ (wAt ps w j) ps with
 | none=>exact absurd e (h j (Ba.mp hj))
 | some v =>
  obtain⟨p,h1,_⟩:=yR e;exact (AU.mp h1).1
theorem Wh{w:List Nat}{i:Nat}(h:Vf ps w i):∀u ∈ stS (sAt ps w i),0<=u.1/\u.1<ps.length:=λu hu=>by
 unfold stS at hu;obtain⟨v,hv,rfl⟩:=AV.mp hu;have:=zc6 h v hv;show 0<=(v.1:Int)/\(v.1:Int)<ps.length;lia
theorem UO{n:Int}(h:∀u ∈ ss,0<=u.1/\u.1<n):∀u ∈ yF ss,0<=u.1/\u.1<n:=λu hu=>by
 unfold yF at hu;obtain⟨v,hv,rfl⟩:=AV.mp hu;exact h v (Bc.mp hv)
theorem zdl(h:∀e ∈ es,e.2.2.length<=600)(u:Stp):(Vb es u).length<=600:=by
 have hg:(es.getD u.1.toNat ([],[],[])).2.2.length<=600:=by
  rw[ah]
  cases e:es[u.1.toNat]? with
  | none=>exact aE _
  | some r=>exact h r (aa e)
 unfold Vb;rw[XX];split
 ·exact hg
 ·rw[yO];exact hg
theorem zbw(h:∀e ∈ es,e.2.2.length<=600):∀us:List Stp,(byL es us).length<=us.length * 600
 | []=>by simp [byL]
 | u::us=>by
  have e:byL es (u::us)=Vb es u ++ byL es us:=by simp [byL]
  have h1:=zdl h u;have h2:=zbw h us;rw[e,ak,aG,eC];lia
def Xy(K:rW)(CF:rX):Sp:=λvs H Q E=>∃(a p s:rX) (k:Nat) (l:List Nat) (ns:List Int) (bs:List Ent) (e:Ent),vs=[.ref a,.ref p]/\OG l ns k/\Is K H (.lst (bs.map dE)) (.ref a)/\BG k l ns bs/\SqT K H p [.str (tx e.1),.str (tx e.2.1),.ref s]/\LsA K H s (e.2.2.map dSt)/\EB l e /\
 (∀i j H',zE (zb bs) e.1 i->zE (zb bs) e.2.1 j->wAt (zb bs) e.1 i=wAt (zb bs) e.2.1 j->Same H H'->Q .non H') /\
 (∀i j p' s' H',zE (zb bs) e.1 i->zE (zb bs) e.2.1 j->wAt (zb bs) e.1 i≠wAt (zb bs) e.2.1 j->Same H H'->H s'=AN->H' p'=AM (.tup [.str (tx (yI bs e i j).1),.str (tx (yI bs e i j).2.1),.ref s'])->LsA K H' s' ((yI bs e i j).2.2.map dSt)->Q (.ref p') H') /\
 ((∀i,¬ zE (zb bs) e.1 i)\/(∀j,¬ zE (zb bs) e.2.1 j)->∀H',Same H H'->E (.ref CF) AN H')
theorem Wa{a t:rX}{us:List Stp}(h1:Is K H (.lst (es.map dE)) (.ref a))(h2:Is K H (.lst (us.map dSt)) (.ref t))(h3:us.length<=100)(h4:∀e ∈ es,e.2.2.length<=600)(h5:∀u ∈ us,0<=u.1/\u.1<es.length)(h:∀(D:rX) (H':Hp),H D=AN->Same H H'->LsA K H' D ((byL es us).map dSt)->Q (.ref D) H'):UB K [.ref a,.ref t] H Q E:=#[a,t,es,us,rfl,h1,h2,h3,h4,h5,h]
theorem gv:zk ["entries","entry","rules","one","other","steps"] ["entries","entry"] (zh xH):=by nofun
theorem jB{f CF:rX}{iJ:tT}(B:Bt mg)(TM:TMo mg)(F:Fun K "brought_down" "brought_down" xH f fd)(gk:Df P w K mg base CX0 1 "pairs_of" ["entries"] [] (wn K))(mP:Df P w K mg base (CXx P w) 4 "gone" ["rules","word","most"] [] (xK K CF))(DD_gone:Df P w K mg base (CXx P w) 4 "gone" ["rules","word","most"] [.int 4000 iJ] (xK K CF))(ig:Df P w K mg base CX0 2 "by_pacts" ["entries","steps"] [] (UB K))(lZ:Df P w K mg base CX0 1 "back" ["steps"] [] (ux K)):zQ P w K mg base (CXx P w) 5 f fd ["entries","entry"] (Xy K CF):=by
 obtain⟨t9,g9⟩:=TM.u
 exists Fun.okX F gv,0
 ·obtain⟨a,p,s,k,l,ns,bs,e,rfl,hG,hA,hB,hp,hs,hE,q1,q2,q3⟩:=h
  refine#[_,(zi (zD 2 gv.nd (cl0 gk hr .nil rfl (za (pv 0) zd)))
   (zi (zD 3 gv.nd (clP hx mP hr .nil rfl (za (pv 2) (za (zo ix_tup (pv 1) zg) (za (yk (v:=.int 40) rfl g9 #[t9,rfl]) zd)))))
   (zi (zD 4 gv.nd (clP hx mP hr .nil rfl (za (pv 2) (za (zo ix_tup (pv 1) zg) (za (yk (v:=.int 40) rfl g9 #[t9,rfl]) zd)))))
   (zi (zK (zy wu (zo ix_tup (pv 3) zg) (zo ix_tup (pv 4) zg) (zA _))
    (zf (zl yf))
    zr)
   (zi (zD 5 gv.nd (zG XR (zG XR (cl0 ig hr .nil rfl (za (pv 0) (za (cl0 lZ hr .nil rfl (za (zo ix_tup (pv 3) zg) zd)) zd))) (zo ix_tup (pv 1) zg)) (cl0 ig hr .nil rfl (za (pv 0) (za (zo ix_tup (pv 4) zg) zd)))))
   (zf (zl (zR (za (zo ix_tup (pv 3) zg) (za (zo ix_tup (pv 4) zg) (za (pv 5) zd))))))))))),?_]
  have s16:=zO;have hbl:=hB.n;have hN:=hB.ne hG;have hpl:=vY bs;have hst:∀e ∈ bs,e.2.2.length<=600:=λe he=>(hB.e e he).s;have hst3:∀e ∈ bs,e.2.2.length<=600:=λe he=>by have:=hst e he;lia
  refine zj (λσ H'=>Same H H'/\∃R:rX,LsA K H' R ((zb bs).map dR)/\σ=[AM (.ref a),AM (.ref p),AM (.ref R),AN,AN,AN]) ?_ ?_
  ·ac_rfl;exact xW hA ⋯ λD H' _ s' hL=>#[s',D,hL,rfl]
  rintro σ H1 ⟨s1,R,hR,rfl⟩:_;right;refine zj (λσ H'=>Same H1 H'/\∃(i:Nat),zE (zb bs) e.1 i/\∃p1:rX,(∃S1:rX,H' p1=AM (.tup [.ref S1,.str (tx (wAt (zb bs) e.1 i))])/\LsA K H' S1 ((sAt (zb bs) e.1 i).map dG))/\σ=[AM (.ref a),AM (.ref p),AM (.ref R),AM (.ref p1),AN,AN]) ?_ ?_
  ·ac_rfl;refine#[_,zt s1 hp,_,rfl,uM hR hN ⋯ hB.le hE.a (λi p1 S1 H' hi s' hp1 hL _=>#[s',i,hi,p1,#[S1,hp1,hL],rfl]) λhno H' s'=>q3 (.inl hno) H' (s1.trans s')]
  rintro σ H2 ⟨s2,i,hi,p1,⟨S1,hp1,hS1⟩,rfl⟩:_;have s12:=s1.trans s2;right;refine zj (λσ H'=>Same H2 H'/\∃(j:Nat),zE (zb bs) e.2.1 j/\∃p2:rX,(∃S2:rX,H' p2=AM (.tup [.ref S2,.str (tx (wAt (zb bs) e.2.1 j))])/\LsA K H' S2 ((sAt (zb bs) e.2.1 j).map dG))/\σ=[AM (.ref a),AM (.ref p),AM (.ref R),AM (.ref p1),AM (.ref p2),AN]) ?_ ?_
  ·ac_rfl;refine#[_,zt s12 hp,_,rfl,uM (hR.same s2) hN ⋯ hB.le hE.b (λj p2 S2 H' hj s' hp2 hL _=>#[s',j,hj,p2,#[S2,hp2,hL],rfl]) λhno H' s'=>q3 (.inr hno) H' (s12.trans s')]
  rintro σ H3 ⟨s3,j,hj,p2,⟨S2,hp2,hS2⟩,rfl⟩:_;have s13:=s12.trans s3;have hp1':=s3 _ _ hp1;have hS1':=hS1.same s3;right;refine zj (λσ H'=>H'=H3/\wAt (zb bs) e.1 i≠wAt (zb bs) e.2.1 j/\σ=[AM (.ref a),AM (.ref p),AM (.ref R),AM (.ref p1),AM (.ref p2),AN]) ?_ ?_
  ·ac_rfl;refine#[_,SqT.of hp1',_,rfl,_,SqT.of hp2,_,rfl,rfl,yo (λh=>?_) λh=>?_]
   ·exact q1 i j H3 hi hj (uT (by injection h)) s13
   ·exact λz=>h (by rw[z])
  rintro σ H4 ⟨rfl,hne,rfl⟩:_;have him:=hi.most;have hjm:=hj.most;have hl1:(stS (sAt (zb bs) e.1 i)).length=i:=by rw[Zd,qW]
  have hl2:(stS (sAt (zb bs) e.2.1 j)).length=j:=by rw[Zd,qW]
  rw[U8]at hS1' hS2;have hA4:=Is.same s13 _ _ hA;have hb1:=zbw hst (yF (stS (sAt (zb bs) e.1 i)));have hb2:=zbw hst (stS (sAt (zb bs) e.2.1 j));rw[yO,hl1]at hb1;rw[hl2]at hb2;have hes:=hE.s;right;refine zj (λσ H'=>Same H4 H'/\∃S:rX,H4 S=AN/\LsA K H' S ((yI bs e i j).2.2.map dSt)/\σ=[AM (.ref a),AM (.ref p),AM (.ref R),AM (.ref p1),AM (.ref p2),AM (.ref S)]) ?_ ?_
  ·ac_rfl;refine#[_,SqT.of hp1',_,rfl,qj hS1'.is ⋯ λB1 G1 _ t1 hB1=>Wa (Is.same t1 _ _ hA4) hB1.is (by rw[yO];lia) hst3 (by rw[<- hpl];exact UO (Wh hi.live)) λC1 G2 hC1n t2 hC1=>?_];have t12:=t1.trans t2;obtain⟨c1,hc1,ic1⟩:=id hC1;obtain⟨es0,hs0,is0⟩:=hs.same (s13.trans t12);have lc1:=ic1.len;have ls0:=is0.len;rw[ac]at lc1 ls0;refine#[_,zt (s13.trans t12) hp,_,rfl,C1,rfl,s,rfl,c1,hc1,es0,hs0,⋯,λM hM=>?_];have t3:=zc (o:=.lst (c1 ++ es0)) hM;have t13:=t12.trans t3;refine#[_,SqT.of (t13 _ _ hp2),_,rfl,Wa (Is.same t13 _ _ hA4) (hS2.same t13).is ⋯ hst3 (by rw[<- hpl];exact Wh hj.live) λC2 G3 hC2n t4 hC2=>?_];obtain⟨c2,hc2,ic2⟩:=id hC2;have lc2:=ic2.len;rw[ac]at lc2;refine#[C2,rfl,c1 ++ es0,t4 _ _ ze,c2,hc2,by rw[ak];lia,λS hS=>?_];have t5:=zc (o:=.lst (c1 ++ es0 ++ c2)) hS;refine#[t13.trans (t4.trans t5),S,(t13.trans t4).free hS,#[_,ze,?_],rfl];show Iss K _ ((byL bs (yF (stS (sAt (zb bs) e.1 i))) ++ e.2.2 ++ byL bs (stS (sAt (zb bs) e.2.1 j))).map dSt) _;rw[ax,ax];exact Iss.append (Iss.append (Iss.same (t3.trans (t4.trans t5)) _ _ ic1) (Iss.same (t3.trans (t4.trans t5)) _ _ is0)) (Iss.same t5 _ _ ic2)
  rintro σ H5 ⟨s5,S,hSn,hS,rfl⟩:_;right;ac_rfl;refine#[_,SqT.of (s5 _ _ hp1'),_,rfl,_,SqT.of (s5 _ _ hp2),_,rfl,⋯,λt ht=>?_];have st:=zc (o:=.tup [.str (tx (wAt (zb bs) e.1 i)),.str (tx (wAt (zb bs) e.2.1 j)),.ref S]) ht;exact q2 i j t S _ hi hj hne (s13.trans (s5.trans st)) (s13.free hSn) ze (hS.same st)
def jq(K:rW)(CF:rX):Sp:=λvs H Q E=>∃(p s:rX) (e:Ent),vs=[.ref p]/\SqT K H p [.str (tx e.1),.str (tx e.2.1),.ref s]/\Is K H (.lst (e.2.2.map dSt)) (.ref s)/\e.1.length<=10000/\e.2.1.length<=10000/\(¬ jI e->Q .non H)/\(jI e->E (.ref CF) AN H)
theorem WY{CF p s:rX}(h1:SqT K H p [.str (tx e.1),.str (tx e.2.1),.ref s])(h2:Is K H (.lst (e.2.2.map dSt)) (.ref s))(h3:e.1.length<=10000)(h4:e.2.1.length<=10000)(h5:¬ jI e->Q .non H)(h6:jI e->E (.ref CF) AN H):jq K CF [.ref p] H Q E:=#[p,s,e,rfl,h1,h2,h3,h4,h5,h6]
theorem qd:zk ["entry"] ["entry"] (zh xf):=by nofun
theorem qe{f CF:rX}(B:Bt mg)(T:zb7 K mg CF)(TM:TMo mg)(F:Fun K "refuse_beyond" "refuse_beyond" xf f fd) : zQ P w K mg base (CXx P w) 1 f fd ["entry"] (jq K CF):=by
 obtain⟨⟨t9,g9⟩,⟨t8,g8⟩⟩:=And.intro TM.s TM.d
 exists Fun.okX F qd,0
 ·obtain⟨p,s,e,rfl,hp,hs,ha,hb,q1,q2⟩:=h
  refine#[_,(zi (zK (zy zb2 (zC B.len (zo ix_tup (pv 0) zg)) (yk (v:=.int 240) rfl g9 #[t9,rfl]) (zA _))
    (zf (zY hx rfl T.xi.toXC T.ini rfl T.g (za zU zd)))
    zr)
   (zf (zK (zy zb2 (xx (Q6 rfl) rfl B.max qu (za (zC B.len (zo ix_tup (pv 0) zg)) (za (zC B.len (zo ix_tup (pv 0) zg)) zd))) (yk (v:=.int 60) rfl g8 #[t8,rfl]) (zA _))
    (zf (zY hx rfl T.xi.toXC T.ini rfl T.g (za zU zd)))
    zr))),?_]
  have s16:=zO
  erw[Is]at hs
  obtain⟨_,zs,e0,hZ,hI⟩:=hs;cases e0;have hzl:=hI.len;rw[ac]at hzl;refine zj (λσ H'=>H'=H/\e.2.2.length<=240/\σ=[AM (.ref p)]) ?_ ?_
  ·ac_rfl;refine#[_,hp,_,rfl,_,.inl #[_,hZ,rfl],yo (λh=>#[⋯,q2 (.inl ⋯)]) λh=>by lia]
  rintro σ H1 ⟨rfl,h1,rfl⟩:_;right;ac_rfl;refine#[_,hp,_,rfl,_,#[by rw[z6];lia,rfl],_,hp,_,rfl,_,#[by rw[z6];lia,rfl],?_];rw[z6,z6];refine yo (λh=>#[⋯,q2 ?_]) λh=>q1 ?_
  ·unfold jI;split at h <;> lia
  ·unfold jI;split at h <;> lia
theorem JZ{l:List Nat}{i j:Nat}(hB:BG k l ns bs)(hE:EB l e)(hF:¬ jI (yI bs e i j)):EB l (yI bs e i j):=by
 unfold jI at hF;exact#[⋯,⋯,⋯,uO hE.ma hB.mem i,uO hE.mb hB.mem j]
theorem BG.snoc{l:List Nat}{d:Ent}(h:BG k l ns bs)(hn:bs.length+1<64)(hd:EB l d)(hne:d.1≠d.2.1):BG k l ns (bs ++ [yh k l ns d]):=by
 refine#[by rw[ak];exact hn,λe he=>?_,λe he=>?_]
 ·rcases AW.mp he with he | he
  ·exact h.e e he
  ·rw[AY.mp he];exact hd.rule
 ·rcases AW.mp he with he | he
  ·exact h.lt e he
  ·rw[AY.mp he];exact jr hd hne
theorem KD{CF a p s:rX}{l:List Nat}(h1:OG l ns k)(h2:Is K H (.lst (bs.map dE)) (.ref a))(h3:BG k l ns bs)(h4:SqT K H p [.str (tx e.1),.str (tx e.2.1),.ref s])(h5:LsA K H s (e.2.2.map dSt))(h6:EB l e)
  (q1:∀i j H',zE (zb bs) e.1 i->zE (zb bs) e.2.1 j->wAt (zb bs) e.1 i=wAt (zb bs) e.2.1 j->Same H H'->Q .non H')
  (q2:∀i j p' s' H',zE (zb bs) e.1 i->zE (zb bs) e.2.1 j->wAt (zb bs) e.1 i≠wAt (zb bs) e.2.1 j->Same H H'->H s'=AN->H' p'=AM (.tup [.str (tx (yI bs e i j).1),.str (tx (yI bs e i j).2.1),.ref s'])->LsA K H' s' ((yI bs e i j).2.2.map dSt)->Q (.ref p') H')
  (q3:(∀i,¬ zE (zb bs) e.1 i)\/(∀j,¬ zE (zb bs) e.2.1 j)->∀H',Same H H'->E (.ref CF) AN H'):Xy K CF [.ref a,.ref p] H Q E:=#[a,p,s,k,l,ns,bs,e,rfl,h1,h2,h3,h4,h5,h6,q1,q2,q3]
theorem KA{l:List Nat}{i j:Nat}(hB:BG k l ns bs)(hG:OG l ns k)(hE:EB l e)(hi:i<=40)(hj:j<=40):(yI bs e i j).1.length<=10000/\(yI bs e i j).2.1.length<=10000:=by
 have h1:=qS (l:=e.1) (m:=60) (hB.ne hG) (λp hp=>(hB.le p hp).2) i;have h2:=qS (l:=e.2.1) (m:=60) (hB.ne hG) (λp hp=>(hB.le p hp).2) j;have h3:=hE.a;have h4:=hE.b;show (wAt (zb bs) e.1 i).length<=10000/\(wAt (zb bs) e.2.1 j).length<=10000;lia
def Zf(K:rW)(CO CR CW CF:rX):Sp:=λvs H Q E=>∃(o a:rX) (k:Nat) (l:List Nat) (ns:List Int) (zs:List Ent),vs=[.ref o,.ref a]/\OrdAt CO CR CW H o k l ns/\OG l ns k/\EnsL K H a zs/\zs.length<64/\(∀e ∈ zs,EB l e) /\
 (∀(bs:List Ent) (D:rX) (H':Hp),xn k l ns [] zs (AM bs)->BG k l ns bs->Same H H'->H D=AN->EnsM K H' D bs->Q (.ref D) H')/\(xn k l ns [] zs AN->∀H',Same H H'->E (.ref CF) AN H')
theorem Ua{CO CR CW CF o a:rX}{l:List Nat}{zs:List Ent}(h1:OrdAt CO CR CW H o k l ns)(h2:OG l ns k)(h3:EnsL K H a zs)(h4:zs.length<64)(h5:∀e ∈ zs,EB l e)
  (q1:∀(bs:List Ent) (D:rX) (H':Hp),xn k l ns [] zs (AM bs)->BG k l ns bs->Same H H'->H D=AN->EnsM K H' D bs->Q (.ref D) H') (q2:xn k l ns [] zs AN->∀H',Same H H'->E (.ref CF) AN H'):Zf K CO CR CW CF [.ref o,.ref a] H Q E:=#[o,a,k,l,ns,zs,rfl,h1,h2,h3,h4,h5,q1,q2]
def zem(K:rW)(H1 H':Hp)(bs:List Ent)(e:Ent)(v:V):Prop:=∃i j,zE (zb bs) e.1 i/\zE (zb bs) e.2.1 j/\((wAt (zb bs) e.1 i=wAt (zb bs) e.2.1 j/\v=.non) \/
 (wAt (zb bs) e.1 i≠wAt (zb bs) e.2.1 j/\∃p s:rX,v=.ref p/\H1 s=AN/\H' p=AM (.tup [.str (tx (yI bs e i j).1),.str (tx (yI bs e i j).2.1),.ref s])/\LsA K H' s ((yI bs e i j).2.2.map dSt)))
def zel(K:rW)(H:Hp)(D:rX)(k:Nat)(l:List Nat)(ns:List Int)(zs:List Ent)(i:Nat)(H':Hp):Prop:=∃(bs:List Ent) (AT:List V),Same H H'/\H' D=AM (.lst AT)/\EnsA K (jS D H') bs AT/\BG k l ns bs/\bs.length<=i/\∀r,xn k l ns bs (zs.drop i) r->xn k l ns [] zs r
theorem iC:zk ["order","entries","built","entry","lower"] ["order","entries"] (zh wx):=by nofun
theorem ZI{f CO CR CW CF:rX}(B:Bt mg)(F:Fun K "built_anew" "built_anew" wx f fd)(pf:Df P w K mg base (CXx P w) 5 "brought_down" ["entries","entry"] [] (Xy K CF))(oO:Df P w K mg base (CXx P w) 1 "refuse_beyond" ["entry"] [] (jq K CF))(ny:Df P w K mg base CX0 4 "as_rule" ["order","entry"] [] (wT K CO CR CW)):zQ P w K mg base (CXx P w) 6 f fd ["order","entries"] (Zf K CO CR CW CF):=by
 exists Fun.okX F iC,0
 ·obtain⟨o,a,k,l,ns,zs,rfl,ho,hG,hA,hz,hE,q1,q2⟩:=h
  refine#[_,(zi (zD 2 iC.nd (wo zd))
   (zi (zN PassesOwn.leaving rfl (yd (pv 1)) (zu (i:=3) iC.nd rfl (.inl rfl))
    (zi (zD 4 iC.nd (clP hx pf hr .nil rfl (za (pv 2) (za (pv 3) zd))))
    (zf (zK (zy op_notN' (pv 4) yf (zA _))
     (zi (xh (clP hx oO hr .nil rfl (za (pv 4) zd)))
     (zf (xh (vP bg bw bx yP (pv 2) (za (cl0 ny hr .nil rfl (za (pv 0) (za (pv 4) zd))) zd)))))
     zr))))
   (zf (zl (pv 2))))),?_]
  have s16:=zO;obtain⟨xs,hX,hI⟩:=id hA;have hxl:=hI.len;refine zj (λσ H'=>Same H H'/\∃D:rX,H D=AN/\H' D=AM (.lst [])/\σ=[AM (.ref o),AM (.ref a),AM (.ref D),AN,AN]) ?_ ?_
  ·ac_rfl;exact#[⋯,λp hp=>#[zc hp,p,hp,ze,rfl]]
  rintro σ H0 ⟨s0,D,hD,hD0,rfl⟩:_;right;refine zj (λσ H'=>zel K H D k l ns zs zs.length H'/\∃(v3 v4:Option V),σ=[AM (.ref o),AM (.ref a),AM (.ref D),v3,v4]) ?_ ?_
  ·ac_rfl;refine#[#[_,s0.seq hX],ForL.by (xs:=xs) (λi σ H'=>zel K H D k l ns zs i H'/\∃(v3 v4:Option V),σ=[AM (.ref o),AM (.ref a),AM (.ref D),v3,v4]) #[#[[],[],s0,hD0,by erw[EnsA],#[∅,λe he=>(nomatch he),λe he=>(nomatch he)],al _,λr h=>h],AN,AN,rfl] (λi σ H' _ ⟨⟨_,_,h,_⟩,_⟩=>h.seq hX) ?_ ?_]
   ·refine nm4 ?_;rintro i x σ H1 hx ⟨⟨bs,AT,s1,hH1,hI1,hB,hbi,hr⟩,v3,v4,rfl⟩:_;have hix:=(AU.mp hx).1;obtain⟨e,pe,se,hei,rfl,hqe,hse⟩:=hI.get hx;have hEe:=hE e (aa hei)
    have hdrop:zs.drop i=e::zs.drop (i+1):=by
     obtain⟨h1,h2⟩:=AU.mp hei;rw[aT h1,h2]
    rw[hdrop]at hr;have hal:=hI1.len;have hbn:=hB.n
    have hIs:Is K H1 (.lst (bs.map dE)) (.ref D):=by
     erw[Is]
     exact#[D,AT,rfl,SqL.of hH1,(hI1.same wC).iss]
    right
    erw[yn,aR,aQ]
    refine zj (λσ H'=>Same H1 H'/\∃v:V,zem K H1 H' bs e v/\σ=[AM (.ref o),AM (.ref a),AM (.ref D),AM (.ref pe),AM (v)]) ?_ ?_
    ·ac_rfl;exact KD hG hIs hB (zt s1 hqe) (hse.same s1) hEe (λi' j' H' a1 a2 a3 s'=>#[s',i',j',a1,a2,.inl #[a3,rfl]]) (λi' j' p' s' H' a1 a2 a3 t' a4 a5 a6=>#[t',i',j',a1,a2,.inr #[a3,p',s',rfl,a4,a5,a6]]) λh H' s'=>q2 (hr _ (.stuck h)) H' (s1.trans s')
    rintro σ H2 ⟨s2,v,⟨i',j',hi',hj',hc⟩,rfl⟩:_;right;rcases hc with ⟨hw,rfl⟩ | ⟨hw,p',s',rfl,hsn,hp',hL'⟩
    ·ac_rfl;exact#[bs,AT,s1.trans s2,s2 _ _ hH1,hI1.same (wP s2),hB,⋯,λr h=>hr r (.same hi' hj' hw h)]
    ·ac_rfl
     try rw[if_pos not_false]
     have hdl:=KA hB hG hEe hi'.most hj'.most;refine zj (λσ H'=>H'=H2/\¬ jI (yI bs e i' j')/\σ=[AM (.ref o),AM (.ref a),AM (.ref D),AM (.ref pe),AM (.ref p')]) ?_ ?_
     ·ac_rfl;exact WY (SqT.of hp') hL'.is hdl.1 hdl.2 (λh=>#[rfl,h]) λh=>q2 (hr _ (.far hi' hj' hw h)) H2 (s1.trans s2)
     rintro σ H3 ⟨rfl,hF,rfl⟩:_;have hEd:=JZ hB hEe hF;have hH3:=s2 _ _ hH1
     have fin:∀(v:V) (H4:Hp),Same H3 H4->EnA K (jS D H4) (yh k l ns (yI bs e i' j')) v->zel K H D k l ns zs (i+1) (upd H4 D (.lst (AT ++ [v]))):=λv H4 s4 hv=>by
      refine#[bs ++ [yh k l ns (yI bs e i' j')],AT ++ [v],zI (s1.trans (s2.trans s4)) hD,ze,?_,hB.snoc ⋯ hEd hw,by rw[ak];show bs.length+1<=i+1;lia,λr h=>hr r (.new hi' hj' hw hF h)];exact (hI1.same ((wP (s2.trans s4)).trans xw)).snoc (hv.same xw)
     right;ac_rfl;refine#[.inl #[_,SqL.of hH3],ku (ho.same (s1.trans s2)) hG (SqT.of hp') hL'.is hEd (λer H4 s4=>#[AT,s4 _ _ hH3,⋯,fin _ _ s4 ?_]) λp2 t2 H4 s4 htn hp2 hL2=>#[AT,s4 _ _ hH3,⋯,fin _ _ s4 ?_]]
     ·rw[er];exact EnA.new (s4 _ _ hH3) (s4 _ _ hp') (hL'.same s4) (λz=>by rw[z,hH1]at hsn;cases hsn)
     ·exact EnA.new (s4 _ _ hH3) hp2 hL2 (λz=>by rw[z,hH3]at htn;cases htn)
   ·rintro σ H' ⟨h,v3,v4,rfl⟩;rw[hxl]at h;exact#[h,_,_,rfl]
  rintro σ H2 ⟨⟨bs,AT,s2,hH2,hI2,hB,hbi,hr⟩,v3,v4,rfl⟩:_;rw[eE]at hr;right;ac_rfl;exact q1 bs D H2 (hr _ (.nil bs)) hB s2 hD #[AT,hH2,hI2.same wC]
theorem JQ(rs ss:List zv):v0 (rs.map dR) (ss.map dR)=decide (rs=ss):=by
 induction rs generalizing ss with
 | nil=>cases ss with
  | nil=>simp [v0]
  | cons s ss=>simp [v0]
 | cons r rs ih=>cases ss with
  | nil=>simp [v0]
  | cons s ss =>
   rw[ao,ao,v0,ih]
   have h:eqD (dR r) (dR s)=decide (r=s):=by
    obtain⟨a,b⟩:=r;obtain⟨c,d⟩:=s
    have e1:∀x y:List Nat,eqD (dS x) (dS y)=decide (x=y):=λx y=>by
     have:eqD (dS x) (dS y)=decide (tx x=tx y):=by erw[dS,eqD];rfl
     rw[this];exact decide_eq_decide.mpr #[uT,λh=>by rw[h]]
    erw[dR,eqD,v0,e1]
    by_cases h1:a=c <;> by_cases h2:b=d <;> simp [h1,h2]
   rw[h];by_cases h1:r=s <;> by_cases h2:rs=ss <;> simp [h1,h2]
theorem Lined.eb{l:List Nat}{es zs:List Ent}(h:Lined k l ns es zs)(hE:∀e ∈ es,EB l e):∀e ∈ zs,EB l e:=λe he=>by
 have hm:=h.perm.mem_iff.mp he;unfold jX at hm;obtain⟨y,hy,rfl⟩:=AV.mp hm;exact (hE y (Bb.mp hy).1).rule
theorem Lined.len{l:List Nat}{es zs:List Ent}(h:Lined k l ns es zs):zs.length<=es.length:=by
 rw[h.perm.length_eq];exact Y2 k l ns es
def VX(K:rW)(CO CR CW T CF:rX):Sp:=λvs H Q E=>∃(o a:rX) (k:Nat) (l:List Nat) (ns:List Int) (es:List Ent),vs=[.ref o,.ref a]/\OrdAt CO CR CW H o k l ns/\OG l ns k/\EnsL K H a es/\es.length<64/\(∀e ∈ es,EB l e)/\TabOk H T lp lq /\
 (∀(bs:List Ent) (D:rX) (H':Hp),uR k l ns 20 es (AM bs)->BG k l ns bs->SamT T H H'->TabOk H' T lp lq->EnsM K H' D bs->Q (.ref D) H')/\(uR k l ns 20 es AN->∀H',SamT T H H'->TabOk H' T lp lq->E (.ref CF) AN H')
def zfJ(K:rW)(T:rX)(H:Hp)(k:Nat)(l:List Nat)(ns:List Int)(es:List Ent)(n:Nat)(H':Hp)(b:rX):Prop:=∃fs:List Ent,SamT T H H'/\TabOk H' T lp lq/\(∀r,uR k l ns n fs r->uR k l ns 20 es r)/\EnsL K H' b fs/\fs.length<64/\∀e ∈ fs,EB l e
theorem lX:zk ["order","entries","turn","lined_up"] ["order","entries"] (zh jF):=by nofun
theorem Vs{f CO CR CW TB CF:rX}(B:Bt mg)(T:zb7 K mg CF)(TM:TMo mg)(F:Fun K "thinned" "thinned" jF f fd)(re:Df P w K mg base CX0 6 "in_order" ["order","entries"] [] (Zh K CO CR CW TB))(pO:Df P w K mg base (CXx P w) 6 "built_anew" ["order","entries"] [] (Zf K CO CR CW CF))(gk:Df P w K mg base CX0 1 "pairs_of" ["entries"] [] (wn K)):zQ P w K mg base (CXx P w) 7 f fd ["order","entries"] (VX K CO CR CW TB CF):=by
 obtain⟨t9,g9⟩:=TM.p
 exists Fun.okX F lX,0
 ·obtain⟨o,a,k,l,ns,es,rfl,ho,hG,hA,hz,hE,hTab,q1,q2⟩:=h
  refine#[_,(zi (zN PassesOwn.leaving rfl (zX rfl B.range (za (yk (v:=.int 20) rfl g9 #[t9,rfl]) zd)) (zu (i:=2) lX.nd rfl (.inl rfl))
    (zi (zD 3 lX.nd (cl0 re hr .nil rfl (za (pv 0) (za (pv 1) zd))))
    (zi (zD 1 lX.nd (clP hx pO hr .nil rfl (za (pv 0) (za (pv 3) zd))))
    (zf (zK (zy (KQ (kO hr)) (cl0 gk hr .nil rfl (za (pv 1) zd)) (cl0 gk hr .nil rfl (za (pv 3) zd)) (zA _))
     (zf (zl (pv 1)))
     zr)))))
   (zf (zY hx rfl T.xi.toXC T.ini rfl T.g (za zU zd)))),?_]
  have s16:=zO;obtain⟨ps0,hps0,_⟩:=id hTab;refine zj (λσ H'=>∃b:rX,zfJ K TB H k l ns es 0 H' b) ?_ ?_
  ·ac_rfl;refine#[⋯,⋯,ForR.by (λi σ H'=>∃(b:rX) (v2 v3:Option V),zfJ K TB H k l ns es (20 - i) H' b/\σ=[AM (.ref o),AM (.ref b),v2,v3]) #[a,AN,AN,#[es,SamT.of (Same.refl _),hTab,λr h=>h,hA,hz,hE],rfl] ?_ ?_]
   ·refine nm3 ?_;rintro i σ H1 hi ⟨b,v2,v3,⟨fs,s1,hT1,hr,hF,hfl,hFE⟩,rfl⟩:_;have ho1:=ho.samT s1 hps0;have hi20:i<20:=hi;obtain⟨n,hn⟩:∃n,20 - i=n+1:=#[20 - i - 1,⋯];rw[hn]at hr;right
    erw[yn,aR,aQ]
    refine zj (λσ H'=>SamT TB H1 H'/\TabOk H' TB lp lq/\∃(z:rX),(∃zs:List Ent,Lined k l ns fs zs/\EnsM K H' z zs)/\∃v2,σ=[AM (.ref o),AM (.ref b),v2,AM (.ref z)]) ?_ ?_
    ·ac_rfl;exact QV ho1 hG hF hfl hFE hT1 λD zs H' s' hT' _ hLn hM=>#[s',hT',D,#[zs,hLn,hM],rfl]
    rintro σ H2 ⟨s2,hT2,z,⟨zs,hLn,hZ⟩,v2,rfl⟩:_;have s12:=s1.trans s2;have ho2:=ho.samT s12 hps0;have hzE:=hLn.eb hFE;have hzl:=hLn.len;right;refine zj (λσ H'=>Same H2 H'/\∃(c:rX),(∃bs:List Ent,xn k l ns [] zs (AM bs)/\BG k l ns bs/\EnsM K H' c bs)/\σ=[AM (.ref o),AM (.ref c),v2,AM (.ref z)]) ?_ ?_
    ·ac_rfl;exact Ua ho2 hG hZ.l ⋯ hzE (λbs D H' hb hB s' _ hM=>#[s',D,#[bs,hb,hB,hM],rfl]) λhb H' s'=>q2 (hr _ (.bad hLn hb)) H' (s12.trans (SamT.of s')) (hT2.same s')
    rintro σ H3 ⟨s3,c,⟨bs,hb,hB,hM⟩,rfl⟩:_;have hbn:=hB.n;right;ac_rfl;refine xW hM.l.is ⋯ λP1 H4 _ s4 hP1=>xW ((hZ.same s3).same s4).l.is ⋯ λP2 H5 _ s5 hP2=>U2 (.inl #[(hP1.same s5).is,hP2.is]) (cM (zcI _) ∅) ?_;rw[JQ];have s45:=s4.trans s5;have s15:=s12.trans (SamT.of (s3.trans s45));have hT5:=hT2.same (s3.trans s45);refine#[_,rfl,yo (λh=>?_) λh=>?_]
    ·exact q1 bs c H5 (hr _ (.done hLn hb (of_decide_eq_true h))) hB s15 hT5 (hM.same s45)
    ·have e:20 - (i+1)=n:=⋯;rw[e];exact#[bs,s15,hT5,λr h'=>hr r (.more hLn hb (λz=>h (decide_eq_true z)) h'),(hM.same s45).l,hbn,hB.e]
   ·rintro σ H' ⟨b,v2,v3,h,rfl⟩;exact#[b,h]
  rintro σ H2 ⟨b,fs,s2,hT2,hr,_⟩:_;right;ac_rfl;exact#[⋯,q2 (hr _ (.out fs)) H2 s2 hT2]
def ZN(K:rW):Sp:=λvs H Q _=>∃(a:rX) (ns:List Int) (k:Int),vs=[.ref a,.int k]/\SqL K H a (ns.map V.int)/\(∀z ∈ ns,uB z)/\0<=k/\∀c:Int,uB c->Q (.int c) H
theorem va{a:rX}{k:Int}(hS:SqL K H a (ns.map V.int))(hB:∀z ∈ ns,uB z)(hk:0<=k)(h:∀c:Int,uB c->Q (.int c) H):ZN K [.ref a,.int k] H Q E:=#[a,ns,k,rfl,hS,hB,hk,h]
theorem zaZ:zk ["_law_script","_law_k"] ["_law_script","_law_k"] (zh Q2):=by nofun
theorem zcf(B:Bt mg)(F:Fun K "_law_cell" "_law_cell" Q2 f fd) : zQ P w K mg base CX0 1 f fd ["_law_script","_law_k"] (ZN K):=by
 exists F.ok zaZ
 ·obtain⟨a,ns,k,rfl,hS,hB,hk,q⟩:=h
  refine#[_,(zB (zK (zy JS (pv 1) (zC B.len (pv 0)) (zA _))
    (zf (zl (zo zdC (pv 0) (pv 1))))
    zr)
   (zf (zl zg))),?_]
  have s16:=zO
  rfl'
  refine#[_,.inl #[_,hS,rfl],yo (λc=>?_) (λc=>q 0 (by unfold uB;decide))];obtain⟨v,h1,h2⟩:=ke hk c;rw[am]at h2;obtain⟨z,hz,rfl⟩:=AZ.mp h2;exact .inl #[_,hS,_,h1,q z (hB z (aa hz))]
def wU:Sp:=λvs H Q _=>∃(c t:Int),vs=[.int c,.int t]/\uB c/\0<=t/\t<=100/\∀z:Int,0<=z->Q (.int z) H
theorem xO{c t:Int}(hc:uB c)(h0:0<=t)(h1:t<=100)(q:∀z:Int,0<=z->Q (.int z) H):wU [.int c,.int t] H Q E:=#[c,t,rfl,hc,h0,h1,q]
theorem mT:zk ["_law_cell_here","_law_turn","_law_step","_law_number"] ["_law_cell_here","_law_turn"] (zh Xq):=by nofun
theorem Ko(B:Bt mg)(F:Fun K "_law_mixed" "_law_mixed" Xq f fd) : zQ P w K mg base CX0 1 f fd ["_law_cell_here","_law_turn"] wU:=by
 exists F.ok mT
 ·obtain⟨c,t,rfl,hc,h0,h1,q⟩:=h
  refine#[_,(zi (zK (zy op_ge' (pv 0) (zG VE zg zg) (zA _))
    (zi (zN PassesOwn.never rfl (zX rfl B.range (za (zG yY zg (zG yZ (pv 1) zg)) zd)) (zu (i:=2) mT.nd rfl (.inl rfl))
     (zf (zD 0 mT.nd (zG ww (pv 0) (zG VE zg zg)))))
    (zf (zl (zG yZ (pv 0) (zG VE zg zg)))))
    zr)
   (zi (zD 3 mT.nd (zG yY (zG jc (zG Ku (pv 0) (pv 0)) zg) (zG jc (zG jc (pv 0) zg) (zG yY (pv 1) zg))))
   (zf (zl (zG ww (zG yZ (zG jc (zG yZ (zG yY (pv 3) (zG jc (pv 1) zg)) zg) zg) zg) zg))))),?_]
  have s16:=zO;have c6:zeN 10 6:=#[∅,∅,∅];have c12:zeN 10 12:=#[∅,∅,∅];have p6:(0:Int)<10 ^ Int.toNat 6/\(10:Int) ^ Int.toNat 6<1073741824:=∅;refine zj (λσ H'=>H'=H/\σ=[AM (.int c),AM (.int t),AN,AN]) ?_ ?_
  ·rfl'
   refine#[c12,yo (λ_=>?_) (λ_=>trivial)];refine zj (λσ H'=>H'=H/\∃(z:Int) (v:Option V),σ=[AM (.int z),AM (.int t),v,AN]) ?_ ?_
   ·rfl'
    have e1:=bz t (b:=9) ∅;have e2:=bB t (b:=9) ∅;refine#[∅,⋯,⋯,ForR.by (λi σ H'=>H'=H/\∃(z:Int) (v:Option V),σ=[AM (.int z),AM (.int t),v,AN]) #[rfl,_,_,rfl] ?_ λσ H' h=>h];refine nm3 ?_;rintro i σ H' hi ⟨rfl,z,v,rfl⟩:_;right
    rfl'
    exact#[c6,p6.1,p6.2]
   rintro σ H1 ⟨rfl,z,v,rfl⟩:_;right
   rfl'
   exact#[c6,p6.1,q _ (bz _ (by have:=p6.1;lia))]
  rintro σ H1 ⟨rfl,rfl⟩:_;right;refine zj (λσ H'=>H'=H1/\∃z:Int,σ=[AM (.int c),AM (.int t),AN,AM (.int z)]) ?_ ?_
  ·rfl'
   exact#[hc,hc,.inr #[∅,∅],.inr #[∅,∅],.inr #[⋯,⋯]]
  rintro σ H2 ⟨rfl,z,rfl⟩:_;right
  rfl'
  exact#[.inr #[∅,∅],∅,.inr #[∅,∅],∅,#[∅,∅],q _ (Int.ediv_nonneg (bz _ ∅) ∅)]
def uz:Sp:=λvs H Q _=>∃c m:Int,vs=[.int c,.int m]/\uB c/\0<=m/\m<=26/\∀l:List Nat,(l.length:Int)=m->l.Nodup->small l->Q (.str (tx l)) H
theorem Y6{c m:Int}(h:uB c)(h0:0<=m)(h1:m<=26)(q:∀l:List Nat,(l.length:Int)=m->l.Nodup->small l->Q (.str (tx l)) H):uz [.int c,.int m] H Q E:=#[c,m,rfl,h,h0,h1,q]
def zfH(c m:Int)(i:Nat)(σ:L2.St):Prop:=∃(left found:List Nat) (number:Int) (v5 v6:Option V),found.length=i/\(found ++ left).Perm alpha/\σ=[AM (.int c),AM (.int m),AM (.str (tx left)),AM (.int number),AM (.str (tx found)),v5,v6]
theorem gr:zk ["_law_cell_here","_law_many","_law_left","_law_number","_law_letters_here","_law_k","_law_at"] ["_law_cell_here","_law_many"] (zh qB):=by nofun
theorem Vm(B:Bt mg)(F:Fun K "_law_letters" "_law_letters" qB f fd)(ij:Df P w K mg base CX0 1 "_law_mixed" ["_law_cell_here","_law_turn"] [] wU):zQ P w K mg base CX0 2 f fd ["_law_cell_here","_law_many"] uz:=by
 exists F.ok gr
 ·obtain⟨c,m,rfl,hc,h0,h1,q⟩:=h
  refine#[_,(zi (zD 2 gr.nd zU)
   (zi (zD 3 gr.nd (cl0 ij hr .nil rfl (za (pv 0) (za zg zd))))
   (zi (zD 4 gr.nd zU)
   (zi (zN PassesOwn.never rfl (zX rfl B.range (za (pv 1) zd)) (zu (i:=5) gr.nd rfl (.inl rfl))
    (zi (zD 6 gr.nd (zG yZ (pv 3) (zC B.len (pv 2))))
    (zi (zD 3 gr.nd (zG ww (pv 3) (zC B.len (pv 2))))
    (zi (zD 4 gr.nd (zG yL (pv 4) (zo ZY (pv 2) (pv 6))))
    (zf (zD 2 gr.nd (zG yL (yH u8 (pv 2) vL (yx (pv 6))) (yH u8 (pv 2) (yx (zG yY (pv 6) zg)) vL))))))))
   (zf (zl (pv 4))))))),?_]
  have s16:=zO;have ha:alpha.length=26:=rfl;refine zj (λσ H'=>H'=H/\σ=[AM (.int c),AM (.int m),AM (.str (tx alpha)),AN,AN,AN,AN]) ?_ ?_
  ·rfl'
   exact Q1
  rintro σ H1 ⟨rfl,rfl⟩:_;right;refine zj (λσ H'=>H'=H1/\∃z:Int,σ=[AM (.int c),AM (.int m),AM (.str (tx alpha)),AM (.int z),AN,AN,AN]) ?_ ?_
  ·rfl'
   exact xO hc ∅ ∅ λz _=>#[rfl,z,rfl]
  rintro σ H2 ⟨rfl,z,rfl⟩:_;right;refine zj (λσ H'=>H'=H2/\σ=[AM (.int c),AM (.int m),AM (.str (tx alpha)),AM (.int z),AM (.str (tx [])),AN,AN]) ?_ ?_
  ·rfl'
   rfl
  rintro σ H3 ⟨rfl,rfl⟩:_;right;refine zj (λσ H'=>H'=H3/\zfH c m m.toNat σ) ?_ ?_
  ·rfl'
   refine#[⋯,⋯,ForR.by (λi σ H'=>H'=H3/\zfH c m i σ) #[rfl,alpha,[],z,AN,AN,rfl,.refl _,rfl] ?_ λσ H' h=>h];refine nm3 ?_;rintro i σ H' hi ⟨rfl,left,found,number,v5,v6,hf,hp,rfl⟩:_;have hpl:=hp.length_eq;rw[ak]at hpl;have hl:left.length+i=26:=⋯;have hm0:=bz number (b:=(left.length:Int)) ⋯;have hm1:=bB number (b:=(left.length:Int)) ⋯;right;generalize hz:number % (left.length:Int)=at_ at hm0 hm1;obtain⟨v,e1,e2⟩:=ke hm0 hm1
   erw[yn,aR,aQ]
   refine zj (λσ H''=>H''=H'/\∃v5,σ=[AM (.int c),AM (.int m),AM (.str (tx left)),AM (.int number),AM (.str (tx found)),v5,AM (.int at_)]) ?_ ?_
   ·rfl'
    exact#[⋯,⋯,hz]
   rintro σ G1 ⟨rfl,v5',rfl⟩:_;right;refine zj (λσ H''=>H''=G1/\∃n v5,σ=[AM (.int c),AM (.int m),AM (.str (tx left)),AM (.int n),AM (.str (tx found)),v5,AM (.int at_)]) ?_ ?_
   ·rfl'
    exact#[⋯,#[⋯,⋯]]
   rintro σ G2 ⟨rfl,n,v5',rfl⟩:_;right;refine zj (λσ H''=>H''=G2/\∃v5,σ=[AM (.int c),AM (.int m),AM (.str (tx left)),AM (.int n),AM (.str (tx (found ++ [v]))),v5,AM (.int at_)]) ?_ ?_
   ·rfl'
    exact#[⋯,v,e1,⋯,rfl]
   rintro σ G3 ⟨rfl,v5',rfl⟩:_;have hc1:=uK left AN (AM at_);have hc2:=uK left (AM (at_+1)) AN;right
   rfl'
   refine#[⋯,⋯,⋯,_,_,_,_,_,by rw[ak,hf];rfl,?_,rfl];rw[X1 _ hm0,k9 _ ⋯,aO];have e3:(at_+1).toNat=at_.toNat+1:=⋯;rw[e3];exact ((Qq e2).append_left found).trans hp
  rintro σ H4 ⟨rfl,left,found,number,v5,v6,hf,hp,rfl⟩:_;right
  rfl'
  have hnd:(found ++ left).Nodup:=hp.nodup_iff.mpr ∅;refine q found ⋯ (List.nodup_append.mp hnd).1 λc hc=>?_;have h:c ∈ alpha:=hp.mem_iff.mp (bD _ hc);exact (by decide:∀c ∈ alpha,97<=c/\c<=122) c h
def Zs:Sp:=λvs H Q _=>∃(ls:List Nat) (c m:Int),vs=[.int c,.str (tx ls),.int m]/\0<=c/\1<=ls.length/\ls.length<=26/\0<=m/\m<=100/\∀l:List Nat,(l.length:Int)<=m->(∀x ∈ l,x ∈ ls)->Q (.str (tx l)) H
theorem qp{ls:List Nat}{c m:Int}(h0:0<=c)(h1:1<=ls.length)(h2:ls.length<=26)(h3:0<=m)(h4:m<=100)(h:∀l:List Nat,(l.length:Int)<=m->(∀x ∈ l,x ∈ ls)->Q (.str (tx l)) H):Zs [.int c,.str (tx ls),.int m] H Q E :=
 #[ls,c,m,rfl,h0,h1,h2,h3,h4,h]
theorem lc:zk ["_law_number","_law_letters_here","_law_most","_law_size","_law_word_here","_law_k"] ["_law_number","_law_letters_here","_law_most"] (zh V6):=by nofun
theorem zbd(B:Bt mg)(F:Fun K "_law_word" "_law_word" V6 f fd) : zQ P w K mg base CX0 1 f fd ["_law_number","_law_letters_here","_law_most"] Zs:=by
 exists F.ok lc
 ·obtain⟨ls,c,m,rfl,h0,h1,h2,h3,h4,q⟩:=h
  refine#[_,(zB (zD 3 lc.nd (zG yZ (pv 0) (zG yY (pv 2) zg)))
   (zB (zD 0 lc.nd (zG ww (pv 0) (zG yY (pv 2) zg)))
   (zB (zD 4 lc.nd zU)
   (zB (zN PassesOwn.never rfl (zX rfl B.range (za (pv 3) zd)) (zu (i:=5) lc.nd rfl (.inl rfl))
    (zB (zD 4 lc.nd (zG yL (pv 4) (zo ZY (pv 1) (zG yZ (pv 0) (zC B.len (pv 1))))))
    (zf (zD 0 lc.nd (zG ww (pv 0) (zC B.len (pv 1)))))))
   (zf (zl (pv 4))))))),?_]
  have s16:=zO
  rfl'
  have m0:=bz c (b:=m+1) ⋯;have m1:=bB c (b:=m+1) ⋯
  refine#[⋯,#[⋯,⋯],⋯,⋯,ForR.by (λi σ H'=>H'=H/\∃(found:List Nat) (number:Int) (v5:Option V),σ=[AM (.int number),AM (.str (tx ls)),AM (.int m),AM (.int (c % (m+1))),AM (.str (tx found)),v5]/\found.length=i/\∀x ∈ found,x ∈ ls)
   #[rfl,[],_,AN,rfl,rfl,λx h=>(nomatch h)] ?_ ?_]
  ·rintro i σ H' hi ⟨rfl,found,number,v5,rfl,hf,hm⟩
   rfl'
   have hm0:=bz number (b:=(ls.length:Int)) ⋯;have hm1:=bB number (b:=(ls.length:Int)) ⋯;obtain⟨v,e1,e2⟩:=ke hm0 hm1
   repeat (refine And.intro (by first | lia | decide | exact#[⋯,⋯] | assumption) ?_)
   refine#[v,e1,?_]
   repeat (refine And.intro (by first | lia | decide | exact#[⋯,⋯] | assumption) ?_)
   refine#[by rw[ak,hf];rfl,λx hx=>?_];rcases AW.mp hx with h | h
   ·exact hm x h
   ·rw[AY.mp h];exact aa e2
  ·rintro σ H' ⟨rfl,found,number,v5,rfl,hf,hm⟩
   rfl'
   exact q found ⋯ hm
def YV:Sp:=λvs H Q _=>∃(ls:List Nat) (c m:Int),vs=[.int c,.str (tx ls),.int m]/\uB c/\1<=ls.length/\ls.length<=26/\0<=m/\m<=100/\∀(o n:List Nat) (p:rX),(o.length:Int)<=m->(n.length:Int)<=m->(∀x ∈ o,x ∈ ls)->(∀x ∈ n,x ∈ ls)->H p=AN->Q (.ref p) (upd H p (.tup [.str (tx o),.str (tx n)]))
theorem Ki{ls:List Nat}{c m:Int}(h0:uB c)(h1:1<=ls.length)(h2:ls.length<=26)(h3:0<=m)(h4:m<=100)(h:∀(o n:List Nat) (p:rX),(o.length:Int)<=m->(n.length:Int)<=m->(∀x ∈ o,x ∈ ls)->(∀x ∈ n,x ∈ ls)->H p=AN->Q (.ref p) (upd H p (.tup [.str (tx o),.str (tx n)]))):YV [.int c,.str (tx ls),.int m] H Q E:=#[ls,c,m,rfl,h0,h1,h2,h3,h4,h]
theorem zaK:zk ["_law_cell_here","_law_letters_here","_law_most"] ["_law_cell_here","_law_letters_here","_law_most"] (zh Qk):=by nofun
theorem zbo(B:Bt mg)(F:Fun K "_law_pair" "_law_pair" Qk f fd)(nz:Df P w K mg base CX0 1 "_law_word" ["_law_number","_law_letters_here","_law_most"] [] Zs)(ij:Df P w K mg base CX0 1 "_law_mixed" ["_law_cell_here","_law_turn"] [] wU):zQ P w K mg base CX0 2 f fd ["_law_cell_here","_law_letters_here","_law_most"] YV:=by
 exists F.ok zaK
 ·obtain⟨ls,c,m,rfl,hc,h1,h2,h3,h4,q⟩:=h;refine#[_,(zf (zl (zR (za (cl0 nz hr .nil rfl (za (cl0 ij hr .nil rfl (za (pv 0) (za zg zd))) (za (pv 1) (za (pv 2) zd)))) (za (cl0 nz hr .nil rfl (za (cl0 ij hr .nil rfl (za (pv 0) (za zg zd))) (za (pv 1) (za (pv 2) zd)))) zd))))),?_];have s16:=zO
  rfl'
  exact xO hc ∅ ∅ λz hz=>qp hz h1 h2 h3 h4 λo ho mo=>xO hc ∅ ∅ λz hz=>qp hz h1 h2 h3 h4 λn hn mn=>#[⋯,λp hp=>q o n p ho hn mo mn hp]
structure zf3(K:rW):Prop where
 ii:aL K (.type "int") (.type "int")=AM AO
 ib:aL K (.type "int") (.type "bool")=AM AQ
def vT:Sp:=λvs H Q _=>∃i:Int,vs=[.int i]/\Q (.bl AO) H
theorem jm{i:Int}(h:Q (.bl AO) H):vT [.int i] H Q E:=#[i,rfl,h]
theorem KC:zk ["_law_found"] ["_law_found"] (zh Xi):=by nofun
theorem Jz(B:Bt mg)(T:zf3 K)(F:Fun K "_law_whole" "_law_whole" Xi f fd):zQ P w K mg base CX0 1 f fd ["_law_found"] vT:=by
 exists F.ok KC
 ·obtain⟨i,rfl,q⟩:=h;refine#[_,(zf (zl (YA (yu rfl B.isi (pv 0) rfl B.int PySem.Pv.boot_int) (Z1 (zax (yu rfl B.isi (pv 0) rfl B.bool PySem.Pv.boot_bool)))))),?_]
  rfl'
  exact#[_,.inl (.int _),AO,T.ii,zeX #[_,.inl (.int _),AQ,T.ib,q]]
structure TLs(K:rW):Prop where
 ll:aL K (.type "list") (.type "list")=AM AO
 tt:aL K (.type "tuple") (.type "tuple")=AM AO
 bb:aL K (.type "bool") (.type "bool")=AM AO
def ZO(K:rW):Sp:=λvs H Q _=>∃(t:rX) (ss:List Stp),vs=[.ref t]/\Is K H (.lst (ss.map dSt)) (.ref t)/\Q (.bl AO) H
theorem pP:zk ["_law_found","_law_step"] ["_law_found"] (zh YR):=by nofun
theorem J8(B:Bt mg)(T:TLs K)(F:Fun K "_law_steps" "_law_steps" YR f fd)(nR:Df P w K mg base CX0 1 "_law_whole" ["_law_found"] [] vT):zQ P w K mg base CX0 2 f fd ["_law_found"] (ZO K):=by
 exists F.ok pP
 ·obtain⟨t,ss,rfl,hT,q⟩:=h
  refine#[_,(zi (zK (zW (yC (yu rfl B.isi (pv 0) rfl B.list PySem.Pv.boot_list) (λ_=>rfl)))
    (zf (zl yE))
    zr)
   (zi (zN PassesOwn.never rfl (yd (pv 0)) (zu (i:=1) pP.nd rfl (.inl rfl))
    (zi (zK (PW.pt (uo (zW (yC (yu rfl B.isi (pv 1) rfl B.tuple PySem.Pv.boot_tuple) (λ_=>rfl))) (uo (zy vJ (zC B.len (pv 1)) zg (zA _)) (wB (zW (yC (yu rfl B.isi (zo ix_tup (pv 1) zg) rfl B.bool PySem.Pv.boot_bool) (λ_=>rfl)))))))
     (zf (zl yE))
     zr)
    (zf (zK (PW.pt (uo (zW (yC (cl0 nR hr .nil rfl (za (zo ix_tup (pv 1) zg) zd)) (λ_=>rfl))) (wB (zW (yC (cl0 nR hr .nil rfl (za (zo ix_tup (pv 1) zg) zd)) (λ_=>rfl))))))
     (zf (zl yE))
     zr))))
   (zf (zl yE)))),?_]
  have s16:=zO
  erw[Is]at hT
  obtain⟨_,ts,e,hTs,hJ⟩:=hT;cases e;refine zj (λσ H'=>H'=H/\σ=[AM (.ref t),AN]) ?_ ?_
  ·rfl'
   exact#[_,.inr (.inr (.inl #[_,_,rfl,rfl,hTs])),AO,T.ll,Zy trivial]
  rintro σ H1 ⟨rfl,rfl⟩:_;right;refine zj (λσ H'=>H'=H1/\∃v1,σ=[AM (.ref t),v1]) ?_ ?_
  ·rfl'
   refine#[#[_,hTs],ForL.by (xs:=ts) (λi σ H'=>H'=H1/\∃v1,σ=[AM (.ref t),v1]) #[rfl,_,rfl] (λi σ H' _ h=>by rw[h.1];exact hTs) ?_ λσ H' h=>h];refine nm4 ?_;rintro i x σ H' hx ⟨rfl,v1,rfl⟩:_;obtain⟨u,pu,hui,rfl,hqu⟩:=qz hJ hx;right
   erw[yn,aR,aQ]
   refine zj (λσ H''=>H''=H'/\σ=[AM (.ref t),AM (.ref pu)]) ?_ ?_
   ·rfl'
    exact#[_,.inr (.inr (.inr #[_,_,rfl,rfl,hqu])),AO,T.tt,Zy #[_,.inr #[_,hqu,rfl],yo (λh=>absurd rfl h) λ_=>#[_,hqu,_,rfl,_,.inl (.bl _),AO,T.bb,Zy trivial]]]
   rintro σ G ⟨rfl,rfl⟩:_;right
   rfl'
   exact#[_,hqu,_,rfl,jm #[AO,rfl,Zy #[_,hqu,_,rfl,jm #[AO,rfl,Zy rfl]]]]
  rintro σ H2 ⟨rfl,v1,rfl⟩:_;right
  rfl'
  exact q
theorem zfb{X:Cx}{k j:Nat}{C:rX}{ps:List sk}{sp:Sp}{e:sr}{es:List sr}{t:TA}{pos p:tm}{x:sk}(hx:XE X E)(D:DMk X.prog X.w X.K X.mg X.base (CXx X.prog X.w) k C ps sp)(hr:Room j X.A)(hg:Gl X x)(hm:X.mg x=AM (.ref C))(ha:PA X (e::es) t)(hdb:(x ==("__debug__" : sk))=AQ:=by decide)(he:rT (e::es) X.env=(AQ,eval e X.env)::rT es X.env:=by rfl)
  (hpl:(sB pos (rT es X.env)).any (·.1)=AQ:=by rfl) (hj:k+1<=j:=by decide):PE X (.Call (.Name x p) (e::es) [] pos) (VP C sp [] E t):=by
 obtain⟨f,fd,M,F,hb⟩:=D.ex;exact U5 M F (hr.mono hj) hg hm hb .nil (XJ hx) ha hdb he hpl
def X9(K:rW)(CO CR CW:rX):Sp:=λvs H Q _=>∃(z:Int) (l:List Nat) (D:rX) (ws:List Int),vs=[.int z,.str (tx l),.ref D]/\0<=z/\z<3/\qG l=AO/\H D=AM (.lst (ws.map V.int))/\ws.length=l.length/\(∀n ∈ ws,1<=n/\n<=1000000)/\∀(o:rX) (H':Hp),Same H H'->OrdAt CO CR CW H' o z.toNat l ws->Q (.ref o) H'
theorem J7:zk ["_law_kind","_law_letters_here","_law_weights"] ["_law_kind","_law_letters_here","_law_weights"] (zh XA):=by nofun
theorem Jl{f CO CR CW:rX}(B:Bt mg)(T:TWS P w K mg base CO CR CW)(F:Fun K "_law_order" "_law_order" XA f fd) : zQ P w K mg base CX0 6 f fd ["_law_kind","_law_letters_here","_law_weights"] (X9 K CO CR CW):=by
 exists F.ok J7
 ·obtain⟨z,l,D,ws,rfl,z0,z3,hg,hD,hwl,hwb,q⟩:=h
  refine#[_,(zB (zK (zy wu (pv 0) zg (zA _))
    (zf (zl (mkC T.mR hr rfl T.gR (za (pv 1) zd))))
    zr)
   (zB (zK (zy wu (pv 0) zg (zA _))
    (zf (zl (zfb xe0 T.mW hr rfl T.gW (za (pv 1) (za (xp yS rfl B.list PySem.Pv.boot_list (za (pv 2) zd)) zd)))))
    zr)
   (zf (zl (mkC T.mO hr rfl T.gO (za (pv 1) zd)))))),?_]
  have s16:=zO;ac_rfl;refine yo (λh1=>?_) λh1=>yo (λh2=>?_) λh2=>?_
  ·intro x dx hx hdx hne;have sd:=zc (o:=.own x) hdx;refine#[x,CR,dx,l,rfl,hg,T.cR,T.lR,ze,rfl,q x _ (λb o' e=>?_) #[dx,.inr (.inl #[by rw[h1];rfl,ze])]];rw[zm (zF e hx),zm (zF e hx)];exact sd _ _ e
  ·refine#[_,.inl (SqL.of hD),λE1 hE=>?_];have se:=zc (o:=.lst (ws.map V.int)) hE;intro x dx hx hdx hne;have sd:=zc (o:=.own x) hdx
   have k1:∀b o',(upd H E1 (.lst (ws.map V.int))) b=AM o'->(upd (upd (upd H E1 (.lst (ws.map V.int))) dx (.own x)) x (.ins CW dx [])) b=AM o':=λb o' e=>by
    rw[zm (zF e hx)];exact sd _ _ e
   exact#[x,dx,E1,l,ws,rfl,hg,SqL.of (k1 _ _ ze),hwl,hwb,ze,λw H' hw hwx kp ht hx'=>#[rfl,q x _ (λb o' e=>kp b o' (zF (se _ _ e) hx) (k1 b o' (se _ _ e))) #[dx,.inr (.inr #[⋯,hwl,w,hx',ht])]]]
  ·intro x dx hx hdx hne;have sd:=zc (o:=.own x) hdx;refine#[x,CO,dx,l,rfl,hg,T.cO,T.lO,ze,rfl,q x _ (λb o' e=>?_) #[dx,.inl #[⋯,ze]]];rw[zm (zF e hx),zm (zF e hx)];exact sd _ _ e
theorem ThinL.pairs{l:List Nat}{zs bs:List Ent}(h:ThinL k l ns zs)(hp:zb bs=zb zs)(hE:∀e ∈ bs,EB l e):ThinL k l ns bs:=by
 have key:∀(i:Nat) (a:Ent),bs[i]? = AM a->∃z,zs[i]? = AM z/\z.1=a.1/\z.2.1=a.2.1:=λi a ha=>by
  have h1:(zb bs)[i]? = AM (a.1,a.2.1):=by unfold zb;rw[am,ha];rfl
  rw[hp]at h1;unfold zb at h1;rw[am]at h1;obtain⟨z,hz,e⟩:=AZ.mp h1;exact#[z,hz,(Prod.ext_iff.mp e).1,(Prod.ext_iff.mp e).2]
 refine#[#[hE,λe he=>?_],λi j a b ha hb hij=>?_,λi j a b ha hb hij=>?_,λi j a b ha hb=>?_]
 ·obtain⟨i,hi⟩:=Bf.mp he;obtain⟨z,hz,e1,e2⟩:=key i e hi;rw[<- e1,<- e2];exact h.rl.lt z (aa hz)
 all_goals
  obtain⟨x,hx,e1,e2⟩:=key i a ha;obtain⟨y,hy,f1,f2⟩:=key j b hb;rw[<- f1]
 ·rw[<- e1];exact h.up i j x y hx hy hij
 ·rw[<- e1];exact h.no1 i j x y hx hy hij
 ·rw[<- e2];exact h.no2 i j x y hx hy
abbrev zfY(mg:sk->Option rY):Prop:=mg "any" = AN
structure TNT(K:rW)(mg:sk->Option rY)(C:rX):Prop where
 xi:XI K C
 g:mg "NotTurned" = AM (.ref C)
 na:NoAttr K C "number"
theorem uu:zk ["self","number"] ["self","number"] (zh zV):=by nofun
theorem uN{f C:rX}(T:TNT K mg C)(F:Fun K "__init__" "NotTurned.__init__" zV f fd):zQ P w K mg base CX0 1 f fd ["self","number"] (uq C "number"):=by
 exists F.ok uu
 ·obtain⟨x,v,rfl,hx,q⟩:=h;refine#[_,(zf (VD (pv 0) (pv 1) rfl)),?_]
  erw[zb4]
  rfl'
  exact#[C,hx,T.xi.toXC,T.na,q]
structure DNT(P:sj)(w:so)(K:rW)(mg:sk->Option rY)(base:su)(C:rX):Prop extends TNT K mg C where
 ini:∃f fd,af K (.ref C) "__init__" = AM (AM (.ref f))/\aS K (.ref f)=AO/\zQ P w K mg base CX0 1 f fd ["self","number"] (uq C "number")/\Binds K fd ["self","number"] []
structure zdp(K:rW)(mg:sk->Option rY)(CH:rX):Prop where
 cl:Cls K CH
 g:mg "System" = AM (.ref CH)
 no:NoAttr K CH "order"
 nr:NoAttr K CH "rules"
noncomputable def wJ(k:Nat)(l:List Nat)(ns:List Int):List zv->Nat->Option Nat
 | [],_=>AN
 | r::rs,i=>if zM k l ns r.2 r.1=AO then wJ k l ns rs (i+1)else AM i
theorem X6{l:List Nat}:∀{ps:List zv} {j i:Nat} {r:zv},(∀(m:Nat) (p:zv),m<i->ps[m]? = AM p->zM k l ns p.2 p.1=AO)->ps[i]? = AM r->zM k l ns r.2 r.1=AQ->wJ k l ns ps j=AM (j+i)
 | [],_,_,_,_,h,_=>by simp at h
 | p::ps,j,0,r,_,h,hl=>by
  cases h;rw[wJ,hl,if_neg aw];rfl
 | p::ps,j,i+1,r,hb,h,hl=>by
  rw[wJ,if_pos (hb 0 p (Nat.succ_pos _) rfl),X6 (i:=i) (λm q hm e=>hb (m+1) q ⋯ e) h hl];congr 1;lia
theorem uF{l:List Nat}:∀{ps:List zv} {j:Nat},(∀(m:Nat) (p:zv),ps[m]? = AM p->zM k l ns p.2 p.1=AO)->wJ k l ns ps j=AN
 | [],_,_=>rfl
 | p::ps,j,hb=>by
  rw[wJ,if_pos (hb 0 p rfl)];exact uF λm q e=>hb (m+1) q e
def InL(l:List Nat)(ps:List zv):Prop:=∀p ∈ ps,p.1.length<=1000/\p.2.length<=1000/\(∀c ∈ p.1,c ∈ l)/\∀c ∈ p.2,c ∈ l
def qx(K:rW)(CO CR CW CT CH:rX):Sp:=λvs H Q E=>∃(x dx o a:rX) (k:Nat) (l:List Nat) (ns:List Int) (ps:List zv) (xs:List V),vs=[.ref x,.ref o,.ref a]/\H x=AM (.ins CH dx [])/\OrdAt CO CR CW H o k l ns/\OG l ns k/\H a=AM (.lst xs)/\Iss K H (ps.map dR) xs/\InL l ps /\
 (∀i,wJ k l ns ps 0=AM i->∀H1,Same H H1->∀d H',zes H1 d "number" (.int (i:Nat)) H'->E (.ref CT) (AM d) H') /\
 (wJ k l ns ps 0=AN->∀(q:rX) (H':Hp),(∀b o',b≠x->H b=AM o'->H' b=AM o')->H' x=AM (.ins CH dx [("order",.ref o),("rules",.ref q)])->H' q=AM (.lst xs)->H q=AN->Q .non H')
theorem lg:zk ["self","order","rules","number","rule"] ["self","order","rules"] (zh x0):=by nofun
theorem jJ{f CO CR CW CT CH:rX}(B:Bt mg)(T:DNT P w K mg base CT)(TS:zdp K mg CH)(DBk:DB P w K mg base CO CR CW)(F:Fun K "__init__" "System.__init__" x0 f fd) : zQ P w K mg base (CXx P w) 5 f fd ["self","order","rules"] (qx K CO CR CW CT CH):=by
 obtain⟨fi,fdi,hi,hfn,Fi,Bi⟩:=T.ini
 exists Fun.okX F lg,0
 ·obtain⟨x,dx,o,a,k,l,ns,ps,xs,rfl,hx0,ho,hG,hA,hI,hP,q1,q2⟩:=h
  refine#[_,(zi (zN PassesOwn.leaving rfl (ve rfl B.enum (za (pv 2) zd)) (uQ (n:=2) rfl (z8 (zu (i:=3) lg.nd rfl (.inl rfl)) (z8 (zu (i:=4) lg.nd rfl (.inl rfl)) wy)))
    (zf (zK (zW (yC (zcs DBk hr (pv 1) (za (zo ix_tup (pv 4) zg) (za (zo ix_tup (pv 4) zg) zd))) (λ_=>rfl)))
     (zf (Yl hx rfl T.xi.toXC hi hfn Fi (hr.mono ∅) Bi rfl T.g (za (pv 3) zd)))
     zr)))
   (zi (j8 (pv 0) (pv 1) rfl)
   (zf (j8 (pv 0) (xp yS rfl B.list PySem.Pv.boot_list (za (pv 2) zd)) rfl)))),?_]
  have s16:=zO;refine zj (λσ H'=>Same H H'/\wJ k l ns ps 0=AN/\∃v3 v4,σ=[AM (.ref x),AM (.ref o),AM (.ref a),v3,v4]) ?_ ?_
  ·ac_rfl;refine#[#[_,SqL.of hA],ForEL.by (xs:=xs) (λi σ H'=>Same H H'/\(∀(j:Nat) (p:zv),j<i->ps[j]? = AM p->zM k l ns p.2 p.1=AO)/\∃v3 v4,σ=[AM (.ref x),AM (.ref o),AM (.ref a),v3,v4]) #[Same.refl _,λj p h=>absurd h (bQ j),_,_,rfl] ?_ ?_ ?_]
   ·rintro i σ H' _ ⟨hs,_⟩;exact SqL.of (hs _ _ hA)
   ·rintro i y σ H' p hy ⟨hs,hb,v3,v4,rfl⟩ hpn;obtain⟨r,pr,hri,rfl,hqr⟩:=hI.getR hy;have hm:=hP r (aa hri);have s2:=hs.trans (zc (o:=.tup [.int (i:Nat),.ref pr]) hpn);have ho2:=ho.same s2;have hq2:=zt s2 hqr;obtain⟨C,dy,fs,hf,hoC,hn,_⟩:=ho2.fam;have hn1:fs.lookup ("before" : sk)=AN:=hn _ ∅ ∅;ac_rfl;refine#[_,SqT.of ze,rfl,_,_,rfl,_,_,rfl,rfl,C,hf,dy,fs,hoC,hn1,_,rfl,_,hq2,_,rfl,_,rfl,_,hq2,_,rfl,o,k,l,ns,r.2,r.1,rfl,ho2,hG,hm.2.1,hm.1,hm.2.2.2,hm.2.2.1,λH3 s3=>?_];have s16:=zO;refine#[_,rfl,yo (λe=>#[⋯,UL (q1 i (by have:=X6 (j:=0) hb hri e;simpa using this) H3 (s2.trans s3))]) λe=>#[s2.trans s3,λj p' hj hp'=>?_]];by_cases hj':j<i
    ·exact hb j p' hj' hp'
    ·have:j=i:=⋯;rw[this,hri]at hp';cases hp';simpa using e
   ·rintro σ H' ⟨hs,hb,v3,v4,rfl⟩;have hxl:=hI.len;rw[ac]at hxl;exact#[hs,uF λm p e=>hb m p (by have:=(AU.mp e).1;lia) e,v3,v4,rfl]
  rintro σ H1 ⟨s1,hf,v3,v4,rfl⟩:_;right;refine zj (λσ H'=>H'=upd H1 x (.ins CH dx [("order",.ref o)])/\σ=[AM (.ref x),AM (.ref o),AM (.ref a),v3,v4]) ?_ ?_
  ·ac_rfl;exact#[_,_,_,s1 _ _ hx0,TS.cl,TS.no,∅,rfl]
  rintro σ H2 ⟨rfl,rfl⟩:_;right;ac_rfl;have hax:a≠x:=λe=>by rw[e,hx0]at hA;cases hA
  refine#[xs,.inl (SqL.of (by rw[zm hax];exact s1 _ _ hA)),λq hq=>?_];have hqx:q≠x:=λe=>by rw[e,ze]at hq;cases hq
  rw[zm hqx]at hq
  have hqH:H q=AN:=by
   cases e:H q with
   | none=>rfl
   | some o'=>rw[s1 _ _ e]at hq;cases hq
  refine#[CH,dx,_,by rw[zm hqx.symm,ze],TS.cl,TS.nr,by show 1<1000;decide,q2 hf q _ (λb o' hb e=>?_) ze (by rw[zm hqx,ze]) hqH];rw[zm hb,zm (λz=>by rw[z,hqH]at e;cases e),zm hb];exact s1 _ _ e
def Ja(K:rW)(CH:rX)(H:Hp)(y o q:rX)(ps:List zv):Prop:=∃dx xs,H y=AM (.ins CH dx [("order",.ref o),("rules",.ref q)])/\H q=AM (.lst xs)/\Iss K H (ps.map dR) xs
noncomputable def xS(l m:List Nat)(k:Nat):Bool:=decide ((l.drop k).take m.length=m.take (l.length - k))
noncomputable def lf(rs:List zv)(i:Nat):List Nat:=(rs.getD i ([],[])).1
theorem vV{i:Nat}{r:zv}(h:rs[i]? = AM r):lf rs i=r.1:=by unfold lf;rw[ah,h];rfl
noncomputable def YM(rs:List zv)(i j n:Nat):List N3:=((aH n).filter λk=>(decide (i≠j) || decide (k≠0)) && xS (lf rs i) (lf rs j) k).map λk=>(i,j,k)
noncomputable def ovI(rs:List zv)(i m:Nat):List N3:=(aH m).flatMap λj=>YM rs i j (lf rs i).length
noncomputable def ovA(rs:List zv)(m:Nat):List N3:=(aH m).flatMap λi=>ovI rs i rs.length
theorem jD(rs:List zv)(i j n:Nat):YM rs i j (n+1)=YM rs i j n ++ (if ((decide (i≠j) || decide (n≠0)) && xS (lf rs i) (lf rs j) n)=AO then [(i,j,n)]else []):=by
 unfold YM;rw[bR,cN,ax];congr 1
 erw[eM,dg]
 split <;> rfl
theorem qy(rs:List zv)(i m:Nat):ovI rs i (m+1)=ovI rs i m ++ YM rs i m (lf rs i).length:=by
 unfold ovI;rw[bR,da];simp
theorem Zj(rs:List zv)(m:Nat):ovA rs (m+1)=ovA rs m ++ ovI rs m rs.length:=by
 unfold ovA;rw[bR,da];simp
theorem qw(rs:List zv)(i j n:Nat):(YM rs i j n).length<=n:=by
 unfold YM;rw[ac];have:=cU (λk=>(decide (i≠j) || decide (k≠0)) && xS (lf rs i) (lf rs j) k) (aH n);rw[cj]at this;exact this
theorem zdD(h:Vy rs)(i:Nat):(lf rs i).length<=100:=by
 cases e:rs[i]? with
 | none=>unfold lf;rw[ah,e];exact aE _
 | some r=>rw[vV e];exact (h.2 r (aa e)).1
theorem YQ(h:Vy rs)(i m:Nat):(ovI rs i m).length<=m * 100:=by
 induction m with
 | zero=>exact aE _
 | succ m ih =>
  rw[qy,ak];have h1:=qw rs i m (lf rs i).length;have h2:=zdD h i;lia
theorem VJ(h:Vy rs)(m:Nat):(ovA rs m).length<=m * 3000:=by
 induction m with
 | zero=>exact aE _
 | succ m ih =>
  rw[Zj,ak];have h1:=YQ h m rs.length;have h2:=h.1;lia
def ZD:Sp:=λvs H Q _=>∃(l m:List Nat) (k:Nat),vs=[.str (tx l),.str (tx m),.int (k:Nat)]/\l.length<=1000/\m.length<=1000/\k<=l.length/\Q (.bl (xS l m k)) H
theorem Yg{l m:List Nat}(h1:l.length<=1000)(h2:m.length<=1000)(h3:k<=l.length)(h:Q (.bl (xS l m k)) H):ZD [.str (tx l),.str (tx m),.int (k:Nat)] H Q E:=#[l,m,k,rfl,h1,h2,h3,h]
theorem Jn:zk ["one","other","place"] ["one","other","place"] (zh YN):=by nofun
theorem JN(B:Bt mg)(F:Fun K "agree" "agree" YN f fd) : zQ P w K mg base CX0 1 f fd ["one","other","place"] ZD:=by
 exists F.ok Jn
 ·obtain⟨l,m,k,rfl,hl,hm,hk,q⟩:=h;refine#[_,(zf (zl (yN wu (yH u8 (pv 0) (yx (pv 2)) (yx (zG yY (pv 2) (zC B.len (pv 1))))) (yH u8 (pv 1) vL (yx (zG j1 (zC B.len (pv 0)) (pv 2)))) (zA _)))),?_];have s16:=zO
  rfl'
  refine#[⋯,⋯,⋯,⋯,?_];rw[zan _ ⋯ ⋯,X1 _ ⋯];have e1:((k:Int)+(m.length:Int) - (k:Int)).toNat=m.length:=⋯;have e2:((l.length:Int) - (k:Int)).toNat=l.length - k:=⋯;rw[e1,e2];exact q
def vG(K:rW):Sp:=λvs H Q _=>∃(a:rX) (rs:List zv),vs=[.ref a]/\Is K H (.lst (rs.map dR)) (.ref a)/\Vy rs/\∀D H',H D=AN->Same H H'->LsA K H' D ((ovA rs rs.length).map d3)->Q (.ref D) H'
theorem Yf{a:rX}(h1:Is K H (.lst (rs.map dR)) (.ref a))(h2:Vy rs)(h:∀D H',H D=AN->Same H H'->LsA K H' D ((ovA rs rs.length).map d3)->Q (.ref D) H'):vG K [.ref a] H Q E:=#[a,rs,rfl,h1,h2,h]
theorem gA:zk ["rules","found","i","one","j","other","place"] ["rules"] (zh uH):=by nofun
theorem Xx(B:Bt mg)(F:Fun K "overlaps" "overlaps" uH f fd)(rG:Df P w K mg base CX0 1 "agree" ["one","other","place"] [] ZD):zQ P w K mg base CX0 2 f fd ["rules"] (vG K):=by
 exists F.ok gA
 ·obtain⟨a,rs,rfl,hR,ok,q⟩:=h
  refine#[_,(zB (zD 1 gA.nd (wo zd))
   (zB (zN PassesOwn.never rfl (ve rfl B.enum (za (pv 0) zd)) (uQ (n:=2) rfl (z8 (zu (i:=2) gA.nd rfl (.inl rfl)) (z8 (zu (i:=3) gA.nd rfl (.inl rfl)) wy)))
    (zf (zN PassesOwn.never rfl (ve rfl B.enum (za (pv 0) zd)) (uQ (n:=2) rfl (z8 (zu (i:=4) gA.nd rfl (.inl rfl)) (z8 (zu (i:=5) gA.nd rfl (.inl rfl)) wy)))
     (zf (zN PassesOwn.never rfl (Z0 rfl B.range (za (vj (zy wu (pv 2) (pv 4) (zA _)) zg zg) (za (zC B.len (zo ix_tup (pv 3) zg)) zd))) (zu (i:=6) gA.nd rfl (.inl rfl))
      (zf (zK (yC (cl0 rG hr .nil rfl (za (zo ix_tup (pv 3) zg) (za (zo ix_tup (pv 5) zg) (za (pv 6) zd)))) (λ_=>rfl))
       (zf (xh (vP bg bw bx yP (pv 1) (za (zR (za (pv 2) (za (pv 4) (za (pv 6) zd)))) zd))))
       zr)))))))
   (zf (zl (pv 1))))),?_]
  have s16:=zO
  rfl'
  erw[Is]at hR
  obtain⟨_,xs,e,hX,hI⟩:=hR;cases e;refine#[⋯,λD hD=>#[#[_,(zc hD).seq hX],ForEL.by (xs:=xs) (λi σ H'=>∃v2 v3 v4 v5 v6,σ=[AM (.ref a),AM (.ref D),v2,v3,v4,v5,v6]/\Same H H'/\LsA K H' D ((ovA rs i).map d3)) #[AN,AN,AN,AN,AN,rfl,zc hD,LsA.nil] ?_ ?_ ?_]]
  ·rintro i σ H' hi ⟨v2,v3,v4,v5,v6,rfl,hs,_⟩;exact hs.seq hX
  ·rintro i x σ H' p hx ⟨v2,v3,v4,v5,v6,rfl,hs,hL⟩ hp;obtain⟨r,pr,hri,rfl,hqr⟩:=hI.getR hx;have er:=vV hri;have hr1:=(ok.2 r (aa hri)).1
   rfl'
   refine#[_,SqT.of ze,rfl,_,_,rfl,_,_,rfl,rfl,#[_,((hs.trans (zc hp)).seq hX)],ForEL.by (xs:=xs) (λj σ H''=>∃v4 v5 v6,σ=[AM (.ref a),AM (.ref D),AM (.int (i:Nat)),AM (.ref pr),v4,v5,v6]/\Same H H''/\LsA K H'' D ((ovA rs i ++ ovI rs i j).map d3)) #[v4,v5,v6,rfl,hs.trans (zc hp),by rw[show ovI rs i 0=[]from rfl,aW];exact hL.same (zc hp)] ?_ ?_ ?_]
   ·rintro j σ H2 hj ⟨v4,v5,v6,rfl,hs2,_⟩;exact hs2.seq hX
   ·rintro j y σ H2 p2 hy ⟨v4,v5,v6,rfl,hs2,hL2⟩ hp2;obtain⟨r2,pr2,hri2,rfl,hqr2⟩:=hI.getR hy;have er2:=vV hri2;have hr2:=(ok.2 r2 (aa hri2)).1;have hs3:=hs2.trans (zc (o:=.tup [.int (j:Nat),.ref pr2]) hp2);have hq1:=zt hs3 hqr;have el:(tx r.1).length=r.1.length:=z6 _
    rfl'
    refine#[_,SqT.of ze,rfl,_,_,rfl,_,_,rfl,rfl,rfl,yo (λh=>?_) λh=>?_]
    ·have hij:i=j:=by injection h with h;lia
     have z0:YM rs i j (1+0)=[]:=by
      subst hij;rw[show 1+0=0+1 from rfl,jD];simp [YM]
     have zn:YM rs i j (1+((r.1.length:Int) - 1).toNat)=YM rs i j r.1.length:=by
      by_cases h0:r.1.length=0
      ·rw[h0];exact z0
      ·rw[show 1+((r.1.length:Int) - 1).toNat=r.1.length by lia]
     refine#[_,hq1,_,rfl,_,#[⋯,rfl],∅,∅,⋯,⋯,ForR.by (λt σ H3=>∃v6,σ=[AM (.ref a),AM (.ref D),AM (.int (i:Nat)),AM (.ref pr),AM (.int (j:Nat)),AM (.ref pr2),v6]/\Same H H3/\LsA K H3 D ((ovA rs i ++ ovI rs i j ++ YM rs i j (1+t)).map d3)) #[v6,rfl,hs3,(by rw[z0,aW];exact hL2.same (zc hp2))] ?_ ?_]
     ·refine nm3 ?_;rintro n σ H3 hn ⟨v6,rfl,hs4,hL4⟩:_;have hn':1+n<r.1.length:=⋯;have en:((1:Int)+(n:Int))=((1+n:Nat):Int):=⋯;right;dsimp only;rw[en];obtain⟨ys,hY,hJ⟩:=hL4;have hlen:=hJ.len;have l1:=VJ ok i;have l2:=YQ ok i j;have l3:=qw rs i j (1+n);have i1:=(AU.mp hri).1;have i2:=(AU.mp hri2).1;have i3:=ok.1
      erw[ac,ak]at hlen
      have es:=jD rs i j (1+n);have etest:(decide (i≠j) || decide (1+n≠0))=AO:=by rw[show decide (1+n≠0)=AO from decide_eq_true ⋯,dC]
      rw[etest,fv,er,er2]at es
      rfl'
      refine#[_,zt hs4 hqr,_,rfl,_,zt hs4 hqr2,_,rfl,Yg ⋯ ⋯ ⋯ #[_,rfl,yo (λhb=>#[.inl #[_,SqL.of hY],⋯,λt ht=>#[_,zc ht _ _ hY,⋯,zI (hs4.trans (zc ht)) hD,?_]]) λhb=>#[hs4,ys,hY,?_]]]
      ·rw[hb,if_pos rfl]at es;rw[show 1+(n+1)=1+n+1 by lia,es,<- aO,ax];exact LsA.pushT hY hJ ht zcN (WB _) (by erw[zZ,xA,and_self])
      ·have hb':xS r.1 r2.1 (1+n)=AQ:=by simpa using hb
       rw[hb',if_neg aw,aW]at es;rw[show 1+(n+1)=1+n+1 by lia,es];exact hJ
     ·rintro σ H3 ⟨v6,rfl,hs4,hL4⟩;refine#[#[_,_,_,rfl],hs4,?_];rw[qy,er,<- aO];rw[el,zn]at hL4;exact hL4
    ·have hij:i≠j:=λz=>h (by rw[z]);refine#[_,hq1,_,rfl,_,#[⋯,rfl],∅,∅,⋯,⋯,ForR.by (λt σ H3=>∃v6,σ=[AM (.ref a),AM (.ref D),AM (.int (i:Nat)),AM (.ref pr),AM (.int (j:Nat)),AM (.ref pr2),v6]/\Same H H3/\LsA K H3 D ((ovA rs i ++ ovI rs i j ++ YM rs i j (0+t)).map d3)) #[v6,rfl,hs3,(by rw[show YM rs i j (0+0)=[]from rfl,aW];exact hL2.same (zc hp2))] ?_ ?_]
     ·refine nm3 ?_;rintro n σ H3 hn ⟨v6,rfl,hs4,hL4⟩:_;have hn':0+n<r.1.length:=⋯;have en:((0:Int)+(n:Int))=((0+n:Nat):Int):=⋯;right;dsimp only;rw[en];obtain⟨ys,hY,hJ⟩:=hL4;have hlen:=hJ.len;have l1:=VJ ok i;have l2:=YQ ok i j;have l3:=qw rs i j (0+n);have i1:=(AU.mp hri).1;have i2:=(AU.mp hri2).1;have i3:=ok.1
      erw[ac,ak]at hlen
      have es:=jD rs i j (0+n);have etest:(decide (i≠j) || decide (0+n≠0))=AO:=by rw[show decide (i≠j)=AO from decide_eq_true hij,Bool.true_or]
      rw[etest,fv,er,er2]at es
      rfl'
      refine#[_,zt hs4 hqr,_,rfl,_,zt hs4 hqr2,_,rfl,Yg ⋯ ⋯ ⋯ #[_,rfl,yo (λhb=>#[.inl #[_,SqL.of hY],⋯,λt ht=>#[_,zc ht _ _ hY,⋯,zI (hs4.trans (zc ht)) hD,?_]]) λhb=>#[hs4,ys,hY,?_]]]
      ·rw[hb,if_pos rfl]at es;rw[show 0+(n+1)=0+n+1 by lia,es,<- aO,ax];exact LsA.pushT hY hJ ht zcN (WB _) (by erw[zZ,xA,and_self])
      ·have hb':xS r.1 r2.1 (0+n)=AQ:=by simpa using hb
       rw[hb',if_neg aw,aW]at es;rw[show 0+(n+1)=0+n+1 by lia,es];exact hJ
     ·rintro σ H3 ⟨v6,rfl,hs4,hL4⟩;refine#[#[_,_,_,rfl],hs4,?_];rw[qy,er,<- aO];rw[el,show 0+((r.1.length:Int) - 0).toNat=r.1.length by lia]at hL4;exact hL4
   ·rintro σ H2 ⟨v4,v5,v6,rfl,hs2,hL2⟩;have e:=hI.len;rw[ac]at e;rw[e,<- Zj]at hL2;exact#[#[_,_,_,_,_,rfl],hs2,hL2]
  ·rintro σ H' ⟨v2,v3,v4,v5,v6,rfl,hs,hL⟩;have e:=hI.len;rw[ac]at e;rw[e]at hL
   rfl'
   exact q D H' hD hs hL
noncomputable def yq(l m:List Nat)(k:Nat):List Nat:=l ++ m.drop (l.length - k)
theorem vX(l m:List Nat)(k:Nat)(hk:k<=l.length):(yq l m k).length=max l.length (k+m.length):=by
 unfold yq;rw[ak,bn];lia
theorem kB(l m:List Nat)(k:Nat):zx (yq l m k) 0 l=AO:=by
  unfold zx yq;refine decide_eq_true #[∅,by rw[ak];lia,?_];rw[show (0:Int).toNat=0 from rfl,dW,bh (al _),aP]
theorem qQ{l m:List Nat}(hk:k<=l.length)(h:xS l m k=AO):zx (yq l m k) (k:Nat) m=AO:=by
 unfold xS at h;rw[decide_eq_true_eq]at h;have hl:=vX l m k hk;unfold zx;refine decide_eq_true #[⋯,⋯,?_];rw[show ((k:Nat):Int).toNat=k from rfl];unfold yq;rw[cp hk];by_cases hm:m.length<=l.length - k
 ·rw[bh (by rw[bn];lia),h,aX hm]
 ·rw[aX (by rw[bn];lia)]at h;rw[h,bW,aP]
theorem JX{i j n:Nat}{t:N3}(h:t ∈ YM rs i j n):t.1=i/\t.2.1=j/\t.2.2<n/\xS (lf rs i) (lf rs j) t.2.2=AO:=by
 unfold YM at h;obtain⟨k,hk,rfl⟩:=AV.mp h;rw[List.mem_filter,fg,bE]at hk;exact#[rfl,rfl,hk.1,hk.2.2]
theorem ja{t:N3}(h:t ∈ ovA rs rs.length):t.1<rs.length/\t.2.1<rs.length/\t.2.2<(lf rs t.1).length/\xS (lf rs t.1) (lf rs t.2.1) t.2.2=AO:=by
 unfold ovA ovI at h;obtain⟨i,hi,h⟩:=Br.mp h;obtain⟨j,hj,h⟩:=Br.mp h;obtain⟨e1,e2,e3,e4⟩:=JX h;rw[e1,e2];exact#[Ba.mp hi,Ba.mp hj,e3,e4]
def k7(K:rW):Sp:=λvs H Q _=>∃(a t:rX) (rs:List zv) (i j k:Nat) (r r2:zv),vs=[.ref a,.ref t]/\Is K H (.lst (rs.map dR)) (.ref a)/\SqT K H t [.int (i:Nat),.int (j:Nat),.int (k:Nat)]/\Vy rs/\rs[i]? = AM r/\rs[j]? = AM r2/\k<=r.1.length/\xS r.1 r2.1 k=AO /\
 ∀p H',H p=AN->Same H H'->H' p=AM (.tup [.str (tx (yq r.1 r2.1 k)),.str (tx (y0 (yq r.1 r2.1 k) 0 r.1 r.2)),.str (tx (y0 (yq r.1 r2.1 k) (k:Nat) r2.1 r2.2))])->Q (.ref p) H'
theorem WF{a t:rX}{i j k:Nat}{r r2:zv}(h1:Is K H (.lst (rs.map dR)) (.ref a))(h2:SqT K H t [.int (i:Nat),.int (j:Nat),.int (k:Nat)])(h3:Vy rs)(h4:rs[i]? = AM r)(h5:rs[j]? = AM r2)(h6:k<=r.1.length)(h7:xS r.1 r2.1 k=AO)
 (h:∀p H',H p=AN->Same H H'->H' p=AM (.tup [.str (tx (yq r.1 r2.1 k)),.str (tx (y0 (yq r.1 r2.1 k) 0 r.1 r.2)),.str (tx (y0 (yq r.1 r2.1 k) (k:Nat) r2.1 r2.2))])->Q (.ref p) H'):k7 K [.ref a,.ref t] H Q E:=#[a,t,rs,i,j,k,r,r2,rfl,h1,h2,h3,h4,h5,h6,h7,h]
theorem Um{CU:rX}{l o n:List Nat}{k:Int}(h1:l.length<=10000)(h2:o.length<=10000)(h3:n.length<=10000)(hs:zx l k o=AO)(q:Q (.str (tx (y0 l k o n))) H):Wb CU [.str (tx l),.int k,.str (tx o),.str (tx n)] H Q E:=#[l,o,n,k,rfl,h1,h2,h3,λ_=>q,λh=>by rw[hs]at h;cases h]
theorem mQ:zk ["rules","overlap","one","other","place","word"] ["rules","overlap"] (zh UP):=by nofun
theorem zaY{f CU:rX}(B:Bt mg)(F:Fun K "peak" "peak" UP f fd)(pN:Df P w K mg base (CXx P w) 3 "put" ["word","place","old","new"] [] (Wb CU)):zQ P w K mg base CX0 4 f fd ["rules","overlap"] (k7 K):=by
 exists F.ok mQ
 ·obtain⟨a,t,rs,i,j,k,r,r2,rfl,hR,ht,ok,hr1,hr2,hk,hag,q⟩:=h
  refine#[_,(zi (zD 2 mQ.nd (zo ix_list (pv 0) (zo ix_tup (pv 1) zg)))
   (zi (zD 3 mQ.nd (zo ix_list (pv 0) (zo ix_tup (pv 1) zg)))
   (zi (zD 4 mQ.nd (zo ix_tup (pv 1) zg))
   (zi (zD 5 mQ.nd (zG yL (zo ix_tup (pv 2) zg) (yH KW (zo ix_tup (pv 3) zg) (yx (zG j1 (zC B.len (zo ix_tup (pv 2) zg)) (pv 4))) vL)))
   (zf (zl (zR (za (pv 5) (za (clP xe0 pN hr .nil rfl (za (pv 5) (za zg (za (zo ix_tup (pv 2) zg) (za (zo ix_tup (pv 2) zg) zd))))) (za (clP xe0 pN hr .nil rfl (za (pv 5) (za (pv 4) (za (zo ix_tup (pv 3) zg) (za (zo ix_tup (pv 3) zg) zd))))) zd)))))))))),?_]
  have s16:=zO
  erw[Is]at hR
  obtain⟨_,xs,e,hX,hI⟩:=hR;cases e;obtain⟨p1,a1,q1⟩:=zeJ hI hr1;obtain⟨p2,a2,q2⟩:=zeJ hI hr2;have b1:=ok.2 r (aa hr1);have b2:=ok.2 r2 (aa hr2);refine zj (λσ H'=>H'=H/\σ=[AM (.ref a),AM (.ref t),AM (.ref p1),AN,AN,AN]) ?_ ?_
  ·rfl'
   exact#[_,ht,_,rfl,_,rfl,_,hX,a1]
  rintro σ H1 ⟨rfl,rfl⟩:_;right;refine zj (λσ H'=>H'=H1/\σ=[AM (.ref a),AM (.ref t),AM (.ref p1),AM (.ref p2),AN,AN]) ?_ ?_
  ·rfl'
   exact#[_,ht,_,rfl,_,rfl,_,hX,a2]
  rintro σ H2 ⟨rfl,rfl⟩:_;right;refine zj (λσ H'=>H'=H2/\σ=[AM (.ref a),AM (.ref t),AM (.ref p1),AM (.ref p2),AM (.int (k:Nat)),AN]) ?_ ?_
  ·rfl'
   exact#[_,ht,rfl]
  rintro σ H3 ⟨rfl,rfl⟩:_;right;refine zj (λσ H'=>H'=H3/\σ=[AM (.ref a),AM (.ref t),AM (.ref p1),AM (.ref p2),AM (.int (k:Nat)),AM (.str (tx (yq r.1 r2.1 k)))]) ?_ ?_
  ·rfl'
   refine#[_,q1,_,rfl,_,q2,_,rfl,_,q1,_,rfl,_,#[by rw[z6];lia,rfl],#[by rw[z6];lia,_,rfl,_,rfl,?_,rfl,?_]]
   ·erw[z6,Xs]
    have:=uK r2.1 (AM ((r.1.length:Int) - (k:Int))) AN;lia
   ·rw[z6,Xs,ju,k9 _ ⋯,show ((r.1.length:Int) - (k:Int)).toNat=r.1.length - k by lia];rfl
  rintro σ H4 ⟨rfl,rfl⟩:_;have hw:=vX r.1 r2.1 k hk;right
  rfl'
  exact#[_,q1,_,rfl,_,q1,_,rfl,Um ⋯ ⋯ ⋯ (kB _ _ _) #[_,q2,_,rfl,_,q2,_,rfl,Um ⋯ ⋯ ⋯ (qQ hk hag) #[⋯,λp hp=>q p _ hp (zc hp) ze]]]
def FmOk(ps:List zv)(most:Int)(m:sk->Option V):Prop:=∀k v,m k=AM v->∃(w:List Nat) (J:Nat),k=tx w/\v=.str (tx (wAt ps w J))/\Vf ps w J/\zJ (wAt ps w J) ps=AN/\(J:Int)<=most
theorem FmOk.get{most:Int}{m:sk->Option V}(h:FmOk ps most m){w:List Nat}{v:V}(e:m (tx w)=AM v){J:Nat}(hl:Vf ps w J)(hf:zJ (wAt ps w J) ps=AN):v=.str (tx (wAt ps w J)):=by
 obtain⟨w',J',e1,e2,e3,e4,_⟩:=h _ _ e;have e5:=uT e1;subst e5;rw[e2,Jg e3 e4 hl hf]
theorem FmOk.put{most:Int}{m:sk->Option V}(h:FmOk ps most m){w:List Nat}{J:Nat}(hl:Vf ps w J)(hf:zJ (wAt ps w J) ps=AN)(hJ:(J:Int)<=most):FmOk ps most (λx=>if x=tx w then AM (.str (tx (wAt ps w J)))else m x):=λk v e=>by
 by_cases hk:k=tx w
 ·erw[hk,if_true]at e
  cases e;exact#[w,J,hk,rfl,hl,hf,hJ]
 ·erw[hk,if_false]at e
  exact h k v e
def Xd(P:sj)(w:so)(K:rW)(CF:rX):Sp:=λvs H Q E=>∃(a F:rX) (l:List Nat) (ps:List zv) (m:Int) (J n:Nat) (mp:sk->Option V),vs=[.ref a,.str (tx l),.int m,.ref F]/\LsA K H a (ps.map dR)/\NeL ps/\ps.length<=100/\(∀p ∈ ps,p.1.length<=1000/\p.2.length<=1000)/\Rd ps l J/\H F=AM (jH P w F mp n)/\FmOk ps m mp/\n<=10000 /\
 ((zJ (wAt ps l J) ps=AN/\(J:Int)<=m/\∀(mp':sk->Option V) (n':Nat) (H':Hp),SamT F H H'->H' F=AM (jH P w F mp' n')->FmOk ps m mp'->n'<=n+1->Q (.str (tx (wAt ps l J))) H') \/
  (zJ (wAt ps l J) ps≠AN/\(J:Int)=m/\∀H',Same H H'->E (.ref CF) AN H'))
theorem W1:zk ["rules","word","most","forms"] ["rules","word","most","forms"] (zh qN):=by nofun
theorem Vu{f CF:rX}{iJ:tT}(B:Bt mg)(F:Fun K "form_of" "form_of" qN f fd)(mP:Df P w K mg base (CXx P w) 4 "gone" ["rules","word","most"] [] (xK K CF))(DD_gone:Df P w K mg base (CXx P w) 4 "gone" ["rules","word","most"] [.int 4000 iJ] (xK K CF)):zQ P w K mg base (CXx P w) 5 f fd ["rules","word","most","forms"] (Xd P w K CF):=by
 exists Fun.okX F W1,0
 ·obtain⟨a,F0,l,ps,m,J,n,mp,rfl,hA,hN,hpl,hP,hR,hF,hM,hn,hq⟩:=h
  refine#[_,(zi (zK (zy Jm (pv 1) (pv 3) (by with_unfolding_all rfl))
    (zf (UR (zo ix_tup (clP hx mP hr .nil rfl (za (pv 0) (za (pv 1) (za (pv 2) zd)))) zg) (zat (pv 3) (pv 1) Kw (by intro _;rfl))))
    zr)
   (zf (zl (zo zbG (pv 3) (pv 1))))),?_]
  have s16:=zO;have s16:=zO;refine zj (λσ H'=>SamT F0 H H'/\zJ (wAt ps l J) ps=AN/\(J:Int)<=m/\(∃(mp':sk->Option V) (n':Nat),H' F0=AM (jH P w F0 mp' n')/\FmOk ps m mp'/\n'<=n+1/\mp' (tx l)=AM (.str (tx (wAt ps l J))))/\σ=[AM (.ref a),AM (.str (tx l)),AM (.int m),AM (.ref F0)]) ?_ ?_
  ·rfl'
   refine#[F0,mp,n,tx l,rfl,rfl,hF,_,rfl,yo (λhnone=>#[a,l,ps,m,J,rfl,hA,hN,hpl,hP,hR,?_]) λhsome=>?_]
   ·rcases hq with ⟨hf,hJ,_⟩ | h
    ·refine .inl #[hf,hJ,λp S H' s' hp _ _=>#[p,rfl,_,SqT.of hp,_,rfl,?_]]
     erw[zfd]
     rfl'
     exact#[F0,mp,n,tx l,rfl,rfl,s' _ _ hF,⋯,λb o hb e=>by rw[zm hb];exact s' _ _ e,hf,hJ,_,_,ze,hM.put hR.live hf hJ,al _,if_pos rfl]
    ·exact .inr h
   ·cases hv:mp (tx l)with
    | none=>rw[hv]at hsome;exact absurd rfl hsome
    | some v =>
     obtain⟨w',J',e1,e2,e3,e4,e5⟩:=hM _ _ hv;have e6:=uT e1;subst e6;rcases hq with ⟨hf,hJ,_⟩ | ⟨hf,hJ,_⟩
     ·exact#[λb o _ e=>e,hf,hJ,mp,n,hF,hM,⋯,by rw[hM.get hv hR.live hf]at hv;exact hv]
     ·exfalso;rcases cG J' J with h | h
      ·exact hR.live J' h e4
      ·have:J'=J:=⋯;subst this;exact hf e4
  rintro σ H1 ⟨s1,hf,hJ,⟨mp',n',h1,h2,h3,h4⟩,rfl⟩:_;right
  rfl'
  refine#[F0,mp',n',tx l,_,rfl,rfl,h1,h4,?_];rcases hq with ⟨_,_,q⟩ | ⟨h,_⟩
  ·exact q mp' n' H1 s1 h1 h2 h3
  ·exact absurd hf h
noncomputable def pkA(ps:List zv)(t:N3):List Nat:=y0 (yq (lf ps t.1) (lf ps t.2.1) t.2.2) 0 (lf ps t.1) (ps.getD t.1 ([],[])).2
noncomputable def pkB(ps:List zv)(t:N3):List Nat:=y0 (yq (lf ps t.1) (lf ps t.2.1) t.2.2) (t.2.2:Nat) (lf ps t.2.1) (ps.getD t.2.1 ([],[])).2
inductive zcr(ps:List zv)(m:Int)(l:List Nat):Option Nat->Prop where
 | yes {J:Nat} (h:Rd ps l J) (h1:zJ (wAt ps l J) ps=AN) (h2:(J:Int)<=m):zcr ps m l (AM J)
 | no {J:Nat} (h:Rd ps l J) (h1:zJ (wAt ps l J) ps≠AN) (h2:(J:Int)=m):zcr ps m l AN
def kP(P:sj)(w:so)(K:rW)(CF:rX):Sp:=λvs H Q E=>∃(a t F:rX) (ps:List zv) (tr:N3) (m:Int) (n:Nat) (mp:sk->Option V) (g1 g2:Option Nat),vs=[.ref a,.ref t,.int m,.ref F]/\LsA K H a (ps.map dR)/\NeL ps/\Vy ps/\SqT K H t [.int (tr.1:Nat),.int (tr.2.1:Nat),.int (tr.2.2:Nat)]/\tr ∈ ovA ps ps.length/\H F=AM (jH P w F mp n)/\FmOk ps m mp/\n<=9000/\zcr ps m (pkA ps tr) g1/\zcr ps m (pkB ps tr) g2 /\
 (∀(J1 J2:Nat) (mp':sk->Option V) (n':Nat) (H':Hp),g1=AM J1->g2=AM J2->SamT F H H'->H' F=AM (jH P w F mp' n')->FmOk ps m mp'->n'<=n+2->Q (.bl (decide (wAt ps (pkA ps tr) J1=wAt ps (pkB ps tr) J2))) H') /\
 ((g1=AN\/g2=AN)->∀H',SamT F H H'->E (.ref CF) AN H')
theorem Ww{P:sj}{w:so}{CF a F:rX}{l:List Nat}{m:Int}{mp:sk->Option V}{g:Option Nat}(hA:LsA K H a (ps.map dR))(hN:NeL ps)(hok:Vy ps)(hF:H F=AM (jH P w F mp n))(hM:FmOk ps m mp)(hn:n<=10000)(hg:zcr ps m l g)
  (h1:∀(J:Nat) (mp':sk->Option V) (n':Nat) (H':Hp),g=AM J->SamT F H H'->H' F=AM (jH P w F mp' n')->FmOk ps m mp'->n'<=n+1->Q (.str (tx (wAt ps l J))) H') (h2:g=AN->∀H',Same H H'->E (.ref CF) AN H'):Xd P w K CF [.ref a,.str (tx l),.int m,.ref F] H Q E:=by
 have hP:∀p ∈ ps,p.1.length<=1000/\p.2.length<=1000:=λp hp=>by have:=hok.2 p hp;lia
 have hl:ps.length<=100:=by have:=hok.1;lia
 cases hg with
 | yes h e1 e2=>exact#[a,F,l,ps,m,_,n,mp,rfl,hA,hN,hl,hP,h,hF,hM,hn,.inl #[e1,e2,λmp' n' H' a1 a2 a3 a4=>h1 _ mp' n' H' rfl a1 a2 a3 a4]]
 | no h e1 e2=>exact#[a,F,l,ps,m,_,n,mp,rfl,hA,hN,hl,hP,h,hF,hM,hn,.inr #[e1,e2,h2 rfl]]
theorem qI{F t:rX}{H H':Hp}{P:sj}{w:so}{mp:sk->Option V}{xs:List V}(s:SamT F H H')(hF:H F=AM (jH P w F mp n))(h:SqT K H t xs):SqT K H' t xs:=by
 rcases h with (h | ⟨o,h⟩) | h
 ·exact .inl (.inl (s _ _ (λz=>by rw[z,hF]at h;cases h) h))
 ·exact .inl (.inr #[o,s _ _ (λz=>by rw[z,hF]at h;cases h) h])
 ·exact .inr h
theorem XM{F a:rX}{H H':Hp}{P:sj}{w:so}{mp:sk->Option V}(s:SamT F H H')(hF:H F=AM (jH P w F mp n))(h:LsA K H a (ps.map dR)):LsA K H' a (ps.map dR):=by
 obtain⟨xs,h1,h2⟩:=h;refine#[xs,s _ _ (λz=>by rw[z,hF]at h1;cases h1) h1,?_]
 have key:∀(qs:List zv) (vs:List V),Iss K H (qs.map dR) vs->Iss K H' (qs.map dR) vs:=by
  intro qs
  induction qs with
  | nil=>intro vs h;erw[aI,Iss]at h ⊢;exact h
  | cons q qs ih =>
   intro vs h
   erw[ao,Iss]at h ⊢
   obtain⟨v,r,e,h3,h4⟩:=h;obtain⟨p,rfl,h5⟩:=zdW h3;exact#[_,r,e,zaP (qI s hF h5),ih r h4]
 exact key ps xs h2
theorem mH:zk ["rules","overlap","most","forms","sides","one","other"] ["rules","overlap","most","forms"] (zh Zm):=by nofun
theorem VW{f CF:rX}(B:Bt mg)(F:Fun K "is_met" "is_met" Zm f fd)(pQ:Df P w K mg base CX0 4 "peak" ["rules","overlap"] [] (k7 K))(pC:Df P w K mg base (CXx P w) 5 "form_of" ["rules","word","most","forms"] [] (Xd P w K CF)):zQ P w K mg base (CXx P w) 6 f fd ["rules","overlap","most","forms"] (kP P w K CF):=by
 exists Fun.okX F mH,0
 ·obtain⟨a,t,F0,ps,tr,m,n,mp,g1,g2,rfl,hA,hN,hok,ht,htr,hF,hM,hn,hg1,hg2,q1,q2⟩:=h
  refine#[_,(zi (zD 4 mH.nd (cl0 pQ hr .nil rfl (za (pv 0) (za (pv 1) zd))))
   (zi (zD 5 mH.nd (clP hx pC hr .nil rfl (za (pv 0) (za (zo ix_tup (pv 4) zg) (za (pv 2) (za (pv 3) zd))))))
   (zi (zD 6 mH.nd (clP hx pC hr .nil rfl (za (pv 0) (za (zo ix_tup (pv 4) zg) (za (pv 2) (za (pv 3) zd))))))
   (zf (zl (yN wu (pv 5) (pv 6) (zA _))))))),?_]
  have s16:=zO;have s16:=zO;obtain⟨i1,i2,i3,i4⟩:=ja htr;obtain⟨r,hr⟩:∃r,ps[tr.1]? = AM r:=#[_,ag i1];obtain⟨r2,hr2⟩:∃r,ps[tr.2.1]? = AM r:=#[_,ag i2];have l1:=vV hr;have l2:=vV hr2;have d1:ps.getD tr.1 ([],[])=r:=by rw[ah,hr];rfl
  have d2:ps.getD tr.2.1 ([],[])=r2:=by rw[ah,hr2];rfl
  have eA:pkA ps tr=y0 (yq r.1 r2.1 tr.2.2) 0 r.1 r.2:=by unfold pkA;rw[l1,l2,d1]
  have eB:pkB ps tr=y0 (yq r.1 r2.1 tr.2.2) (tr.2.2:Nat) r2.1 r2.2:=by unfold pkB;rw[l1,l2,d2]
  rw[l1]at i3;rw[l1,l2]at i4;refine zj (λσ H'=>Same H H'/\∃p:rX,(∃x,H' p=AM (.tup [x,.str (tx (pkA ps tr)),.str (tx (pkB ps tr))]))/\σ=[AM (.ref a),AM (.ref t),AM (.int m),AM (.ref F0),AM (.ref p),AN,AN]) ?_ ?_
  ·rfl'
   exact WF hA.is ht hok hr hr2 ⋯ i4 λp H' _ s' hp=>#[s',p,#[_,by rw[eA,eB];exact hp],rfl]
  rintro σ H1 ⟨s1,p,⟨x,hp⟩,rfl⟩:_;have hF1:=s1 _ _ hF;right;refine zj (λσ H'=>SamT F0 H1 H'/\∃(J1:Nat),g1=AM J1/\(∃mp' n',H' F0=AM (jH P w F0 mp' n')/\FmOk ps m mp'/\n'<=n+1)/\σ=[AM (.ref a),AM (.ref t),AM (.int m),AM (.ref F0),AM (.ref p),AM (.str (tx (wAt ps (pkA ps tr) J1))),AN]) ?_ ?_
  ·rfl'
   refine#[_,SqT.of hp,_,rfl,Ww (hA.same s1) hN hok hF1 hM ⋯ hg1 (λJ mp' n' H' e a1 a2 a3 a4=>?_) λe H' s'=>q2 (.inl e) H' (SamT.of (s1.trans s'))];exact#[a1,J,e,#[mp',n',a2,a3,a4],rfl]
  rintro σ H2 ⟨s2,J1,e1,⟨mp1,n1,hF2,hM2,hn2⟩,rfl⟩:_;have s12:SamT F0 H H2:=(SamT.of s1).trans s2;have hpF:p≠F0:=λz=>by rw[z,hF1]at hp;cases hp
  right;refine zj (λσ H'=>SamT F0 H2 H'/\∃(J2:Nat),g2=AM J2/\(∃mp' n',H' F0=AM (jH P w F0 mp' n')/\FmOk ps m mp'/\n'<=n+2)/\σ=[AM (.ref a),AM (.ref t),AM (.int m),AM (.ref F0),AM (.ref p),AM (.str (tx (wAt ps (pkA ps tr) J1))),AM (.str (tx (wAt ps (pkB ps tr) J2)))]) ?_ ?_
  ·rfl'
   exact#[_,SqT.of (s2 _ _ hpF hp),_,rfl,Ww (XM s2 hF1 (hA.same s1)) hN hok hF2 hM2 ⋯ hg2 (λJ mp' n' H' e a1 a2 a3 a4=>#[a1,J,e,#[mp',n',a2,a3,⋯],rfl]) λe H' s'=>q2 (.inr e) H' (s12.trans (SamT.of s'))]
  rintro σ H3 ⟨s3,J2,e2,⟨mp2,n2,hF3,hM3,hn3⟩,rfl⟩:_;right
  rfl'
  exact q1 J1 J2 mp2 n2 H3 e1 e2 (s12.trans s3) hF3 hM3 hn3
def Zb(K:rW)(CH:rX):Sp:=λvs H Q _=>∃(y o q:rX) (ps:List zv),vs=[.ref y]/\Ja K CH H y o q ps/\∀(r:rX) (H':Hp),Same H H'->LsA K H' r (ps.map dR)->H r=AN->Q (.ref r) H'
theorem vp:zk ["self"] ["self"] (zh yw):=by nofun
theorem vq{f CH:rX}(B:Bt mg)(TS:zdp K mg CH)(F:Fun K "rules_told" "System.rules_told" yw f fd) : zQ P w K mg base CX0 1 f fd ["self"] (Zb K CH):=by
 exists F.ok vp
 ·obtain⟨y,o,q,ps,rfl,hy,k⟩:=h;refine#[_,(zf (zl (xp yS rfl B.list PySem.Pv.boot_list (za (ui (pv 0) rfl) zd)))),?_];have s16:=zO
  rfl'
  obtain⟨dx,xs,h1,h2,h3⟩:=hy;exact#[_,_,_,h1,TS.cl,TS.nr,_,rfl,_,rfl,_,.inl (SqL.of h2),λr hr'=>k r _ (zc hr') #[xs,ze,Iss.same (zc hr') _ _ h3] hr']
noncomputable def goJ(ps:List zv)(m:Nat)(v:List Nat):Option Nat:=(aH (m+1)).find? λj=>(zJ (wAt ps v j) ps).isNone
theorem JR{m:Nat}{v:List Nat}{i:Nat}(e:goJ ps m v=AM i):i<=m/\Vf ps v i/\zJ (wAt ps v i) ps=AN:=by
 unfold goJ at e;have h1:=dF e;have h2:zJ (wAt ps v i) ps=AN:=Bj.mp h1;have hm:=Ba.mp (eh e);refine#[⋯,λn hn hno=>?_,h2];obtain⟨_,as,bs,e2,h3⟩:=List.find?_eq_some_iff_append.mp e
 have hlen:as.length=i:=by
  have:=congrArg (λl=>l[as.length]?) e2
  erw[be (al _),dH,cK]at this
  obtain⟨h7,h8⟩:=AU.mp this;rw[fG]at h8;exact h8
 have h9:(aH (m+1))[n]? = as[n]?:=by rw[e2,br ⋯]
 have h10:n<(aH (m+1)).length:=by rw[cj];lia
 rw[ag h10,fG]at h9;have:=h3 n (aa h9.symm);rw[hno]at this;cases this
theorem JI{m:Nat}{v:List Nat}(e:goJ ps m v=AN):∀j,j<=m->zJ (wAt ps v j) ps≠AN:=λj hj hno=>by
 unfold goJ at e;have:=Bm.mp e j (Ba.mpr ⋯);rw[hno]at this;exact this rfl
theorem Qw{m:Nat}{v:List Nat}(hl:∀j,j<=m->(wAt ps v j).length<=10000)(hm:m<=10000):zcr ps (m:Int) v (goJ ps m v):=by
 cases e:goJ ps m v with
 | some i =>
  obtain⟨h1,h2,h3⟩:=JR e;exact .yes #[h2,λj hj=>hl j ⋯,⋯] h3 ⋯
 | none =>
  have h:=JI e;exact .no (J:=m) #[λi hi=>h i ⋯,λj hj=>hl j hj,hm] (h m (al _)) rfl
noncomputable def zeZ(ps:List zv)(m:Nat)(v:List Nat):List Nat:=wAt ps v ((goJ ps m v).getD 0)
noncomputable def K0(ps:List zv)(m:Nat)(t:N3):Bool:=decide (zeZ ps m (pkA ps t)=zeZ ps m (pkB ps t))
def OkG(ps:List zv)(m:Nat)(t:N3):Prop:=(goJ ps m (pkA ps t)).isSome=AO/\(goJ ps m (pkB ps t)).isSome=AO
def zfM(ps:List zv)(m:Nat):Prop:=m<=10000/\∀t ∈ ovA ps ps.length,(∀j,j<=m->(wAt ps (pkA ps t) j).length<=10000)/\∀j,j<=m->(wAt ps (pkB ps t) j).length<=10000
theorem za2{t:N3}{m J1 J2:Nat}(e1:goJ ps m (pkA ps t)=AM J1)(e2:goJ ps m (pkB ps t)=AM J2):decide (wAt ps (pkA ps t) J1=wAt ps (pkB ps t) J2)=K0 ps m t:=by
 unfold K0 zeZ;rw[e1,e2];rfl
theorem zdV{m:Nat}{t:N3}(h:goJ ps m (pkA ps t)=AN\/goJ ps m (pkB ps t)=AN):¬ OkG ps m t:=λho=>by
 obtain⟨h1,h2⟩:=ho;rcases h with h | h
 ·rw[h]at h1;cases h1
 ·rw[h]at h2;cases h2
theorem FmOk.nil{m:Int}:FmOk ps m λ_=>AN:=λk v e=>by cases e
theorem Yh{F:rX}{H H':Hp}{P:sj}{w:so}{mp:sk->Option V}(s:SamT F H H')(hF:H F=AM (jH P w F mp n)):∀{ts:List N3} {vs:List V},Iss K H (ts.map d3) vs->Iss K H' (ts.map d3) vs
 | [],vs,h=>by erw[aI,Iss]at h ⊢;exact h
 | t::ts,vs,h=>by
  erw[ao,Iss]at h ⊢
  obtain⟨v,r,e,h3,h4⟩:=h;refine#[v,r,e,?_,Yh s hF h4]
  erw[d3,Is]at h3 ⊢
  obtain⟨a,xs,e1,e2,e3⟩:=h3;refine#[a,xs,e1,qI s hF e2,?_]
  erw[Iss,Is]at e3 ⊢
  exact e3
noncomputable def unG(ps:List zv)(m:Nat):List N3:=(ovA ps ps.length).filter λt=>!K0 ps m t
def uh(K:rW)(CH CF:rX):Sp:=λvs H Q E=>∃(y o q:rX) (ps:List zv) (m:Nat),vs=[.ref y,.int (m:Nat)]/\Ja K CH H y o q ps/\NeL ps/\Vy ps/\(ovA ps ps.length).length<=4000/\zfM ps m /\
 ((∀t ∈ ovA ps ps.length,OkG ps m t)->∀D H',Same H H'->H D=AN->LsA K H' D ((unG ps m).map d3)->Q (.ref D) H')/\(∀t ∈ ovA ps ps.length,¬ OkG ps m t->∀H',Same H H'->E (.ref CF) AN H')
theorem om:zk ["system","most","rules","forms"] ["system","most"] (zh xI):=by nofun
theorem Jw{f CF CH:rX}{dV:rY}(B:Bt mg)(TS:zdp K mg CH)(F:FunD K "unmet" "unmet" xI dV f fd)(rf:Df P w K mg base CX0 2 "overlaps" ["rules"] [] (vG K))(rB:Df P w K mg base (CXx P w) 6 "is_met" ["rules","overlap","most","forms"] [] (kP P w K CF))(M_system_rules_told:DM P w K mg base CX0 1 CH "rules_told" ["self"] (Zb K CH)):zQ P w K mg base (CXx P w) 7 f fd ["system","most"] (uh K CH CF):=by
 exists FunD.okX F om,0
 ·obtain⟨y,o,q,ps,m,rfl,hy,hN,hok,hlen,hE,k1,k2⟩:=h
  refine#[_,(zi (kh (i:=2) om.nd rfl (Or.inr rfl) (me0 M_system_rules_told TS.cl hr (pv 0)))
   (zi (kh (i:=3) om.nd rfl (Or.inr rfl) zbq)
   (zf (zl (Yu (EX:=E) (own:=["overlap"]) (caps:=["rules","most","forms"]) (ix:=[2,1,3]) (tt:=(zcp (tBl (qb (kP P w K CF) [] E (zL (yj 1) (zL (yj 0) (zL (yj 2) (zL (yj 3) xR)))))))) (te:=(yj 0)) rfl (zS (sc:=zh xI) rfl (by symm) (by symm) (by symm) rfl (by symm) (by symm) rfl) #[rfl,rfl] hx (yd (cl0 rf hr .nil rfl (za (pv 2) zd))) (λ_ _ _ _ _ _=>zu (i:=0) (show List.Nodup [_,_,_,_] by decide) rfl (.inl rfl)) (λ_ _ _ _ _ _ _ hx'=>(VS (zW (yC (clP hx' rB hr .nil rfl (za (pv 1) (za (pv 0) (za (pv 2) (za (pv 3) zd))))) (λ_=>rfl))))) (λ_ _ _ _ _ _ _ _=>(pv 0))))))),?_]
  have s16:=zO;have s16:=zO;obtain⟨dx,xs0,h1,h2,h3⟩:=id hy;refine zj (λσ H'=>Same H H'/\∃r:rX,LsA K H' r (ps.map dR)/\σ=[AM (.ref y),AM (.int (m:Nat)),AM (.ref r),AN]) ?_ ?_
  ·rfl'
   exact#[_,_,h1,rfl,y,o,q,ps,rfl,hy,λr H1 s1 hA hr'=>#[s1,r,hA,rfl]]
  rintro σ H1 ⟨s1,r,hA,rfl⟩:_;right;refine zj (λσ H'=>Same H H'/\LsA K H' r (ps.map dR)/\∃F:rX,H F=AN/\H' F=AM (jH P w F (λ_=>AN) 0)/\σ=[AM (.ref y),AM (.int (m:Nat)),AM (.ref r),AM (.ref F)]) ?_ ?_
  ·rfl'
   erw[zdQ]
   intro F hF;have s2:=zc (o:=jH P w F (λ_=>AN) 0) hF
   rfl'
   exact#[s1.trans s2,hA.same s2,F,s1.free hF,ze,rfl]
  rintro σ H2 ⟨s2,hA2,F,hF0,hF,rfl⟩:_;right
  rfl'
  refine Yf hA2.is hok λO H3 hO s3 hL=>#[O,rfl,?_,λD hD=>?_]
  ·obtain⟨xs,hX,_⟩:=hL;exact#[_,SqL.of hX]
  obtain⟨xs,hX,hI⟩:=hL;have hxl:=hI.len;rw[ac]at hxl;have hF3:=s3 _ _ hF;have s03:=s2.trans s3;have hDF:D≠F:=λz=>by rw[z,hF3]at hD;cases hD
  have hOF:O≠F:=λz=>by rw[z,hF3]at hX;cases hX
  have back:∀{G:Hp},SamT F H3 G->Same H G:=λ{G} sT b o' e=>sT b o' (λz=>by rw[z,hF0]at e;cases e) (s03 b o' e);refine CompL.by (xs:=xs) (λi AT H'=>SamT F H3 H'/\H' D=AM (.lst AT)/\(∃(mp:sk->Option V) (n:Nat),H' F=AM (jH P w F mp n)/\FmOk ps (m:Nat) mp/\n<=2 * i)/\Iss K H3 ((((ovA ps ps.length).take i).filter λt=>!K0 ps m t).map d3) AT/\∀t ∈ (ovA ps ps.length).take i,OkG ps m t) #[SamT.of (zc hD),ze,#[_,0,by rw[zm (λz=>hDF z.symm)];exact hF3,FmOk.nil,⋯],by erw[bO,dg,aI,Iss],λt ht=>by simp at ht] (λi AT H' _ h=>SqL.of (h.1 _ _ hOF hX)) ?_ ?_
  ·refine nm4 ?_;rintro i x AT H' hx ⟨sT,hH,⟨mp,n,hFm,hM,hn⟩,hI',hle⟩:_;have hil:=(AU.mp hx).1;obtain⟨t,p,ht,rfl,hp⟩:=hI.get3 hx;have htm:=aa ht;have hE':=hE.2 t htm
   have hal:AT.length<=i:=by
    have:=hI'.len;rw[ac]at this;have h5:=cU (λt=>!K0 ps m t) ((ovA ps ps.length).take i);rw[aJ]at h5;lia
   right
   erw[zcp,tBl]
   rfl'
   refine#[xN,r,p,F,ps,t,(m:Nat),n,mp,_,_,rfl,XM sT hF3 (hA2.same s3),hN,hok,qI sT hF3 hp,htm,hFm,hM,⋯,Qw hE'.1 hE.1,Qw hE'.2 hE.1,λJ1 J2 mp' n' H5 e1 e2 s5 hF5 hM5 hn5=>?_,λh H5 s5=>k2 t htm (zdV h) H5 (back (sT.trans s5))]
   have hle':∀t' ∈ (ovA ps ps.length).take (i+1),OkG ps m t':=λt' ht'=>by
    rw[z7 ht]at ht';rcases AW.mp ht' with h | h
    ·exact hle t' h
    ·rw[AY.mp h];exact#[by rw[e1];rfl,by rw[e2];rfl]
   rw[za2 e1 e2]
   have hcase:∀b,K0 ps m t=b->(!b)=AO->Iss K H3 ((((ovA ps ps.length).take (i+1)).filter λt=>!K0 ps m t).map d3) (AT ++ [.ref p]):=λb hb hb'=>by
    rw[z7 ht,cN,ax];refine Iss.append hI' ?_;rw[eM,hb,if_pos hb']
    erw[dg,ao,aI,Iss]
    refine#[_,[],rfl,?_,rfl]
    erw[d3,Is,Iss]
    exact#[p,_,rfl,hp,_,_,rfl,rfl,_,_,rfl,rfl,_,_,rfl,rfl,rfl]
   refine#[_,rfl,?_]
   cases hb:K0 ps m t with
   | false =>
    rw[if_pos rfl];refine#[s5 _ _ hDF hH,⋯,CNx.mk hil #[λb o' hbF e=>?_,ze,#[mp',n',by rw[zm (λz=>hDF z.symm)];exact hF5,hM5,⋯],hcase _ hb rfl,hle']];rw[zm (λz=>by rw[z,hD]at e;cases e)];exact s5 b o' hbF (sT b o' hbF e)
   | true =>
    rw[if_neg ∅];refine CNx.mk hil #[sT.trans s5,s5 _ _ hDF hH,#[mp',n',hF5,hM5,⋯],?_,hle'];rw[z7 ht,cN,eM,hb]
    erw[fu,bA,if_false,dg,aW]
    exact hI'
  ·rintro AT H' ⟨sT,hH,_,hI',hle⟩;rw[hxl,aP]at hI' hle;exact k1 hle D H' (back sT) (s03.free hD) #[AT,hH,Yh sT hF3 hI']
theorem ze5{p:rX}{a b:V}{i j:Nat}{σ:L2.St}{R:L2.St->Hp->Prop}(h:SqT K H p [a,b])(k:R ((σ.set i (AM a)).set j (AM b)) H):zbl K 2 (jK (yn i) (jK (yn j) zaH)) (.ref p) σ H R:=by
 erw[zbl,jK,yn,zaH]
 first
 | exact⟨_,_,rfl,h,rfl,_,_,rfl,_,_,rfl,rfl,k⟩
 | exact⟨_,_,rfl,.inr h,rfl,_,_,rfl,_,_,rfl,rfl,k⟩
theorem EnsA.app{fs:List Ent}{us:List V}(hf:EnsA K H fs us):∀{es:List Ent} {vs:List V},EnsA K H es vs->EnsA K H (es ++ fs) (vs ++ us)
 | [],vs,h=>by
  erw[EnsA]at h
  subst h;exact hf
 | e::es,vs,h=>by
  erw[EnsA]at h
  obtain⟨x,r,rfl,hx,hr⟩:=h
  erw[bo,EnsA]
  exact#[x,r ++ us,rfl,hx,hf.app hr]
abbrev MkS(P:sj)(w:so)(K:rW)(mg:sk->Option rY)(base:su)(CO CR CW CT CH:rX):Prop:=DMk P w K mg base (CXx P w) 5 CH ["self","order","rules"] (qx K CO CR CW CT CH)
theorem zaJ{Q:rX->Hp->Prop}{CO CR CW CT CH o a:rX}{l:List Nat}(ho:OrdAt CO CR CW H o k l ns)(hG:OG l ns k)(hA:LsA K H a (ps.map dR))(hin:InL l ps)(hf:wJ k l ns ps 0=AN)(q:∀(y qa:rX) (H':Hp),Same H H'->Ja K CH H' y o qa ps->Q y H'):∀x dx,H x=AN->H dx=AN->dx≠x->qx K CO CR CW CT CH [.ref x,.ref o,.ref a] (upd (upd H dx (.own x)) x (.ins CH dx [])) (λv H'=>v=.non/\Q x H') E0:=by
 intro x dx hx hdx hne;obtain⟨xs,hX,hI⟩:=hA;have sd:=zc (o:=.own x) hdx
 have k1:Same H (upd (upd H dx (.own x)) x (.ins CH dx [])):=λb' o' e=>by
  rw[zm (zF e hx)];exact sd _ _ e
 refine#[x,dx,o,a,k,l,ns,ps,xs,rfl,ze,ho.same k1,hG,k1 _ _ hX,Iss.same k1 _ _ hI,hin,(λi e=>by rw[hf]at e;cases e),λ_ q1 H'' kp hx' hq' hqn=>#[rfl,?_]];have k3:Same H H'':=λb' o' e=>kp b' o' (λz=>by rw[z,hx]at e;cases e) (k1 _ _ e);exact q x q1 H'' k3 #[dx,xs,hx',hq',Iss.same k3 _ _ hI]
theorem BG.inL{l:List Nat}(h:BG k l ns bs):InL l (zb bs):=λp hp=>by
 obtain⟨e,he,rfl⟩:=AV.mp hp;have b:=h.e e he;exact#[aM b.a ∅,aM b.b ∅,b.ma,b.mb]
theorem BG.fault{l:List Nat}(h:BG k l ns bs):wJ k l ns (zb bs) 0=AN:=uF λm p e=>by
 obtain⟨e',he,rfl⟩:=AV.mp (aa e);exact h.lt e' he
def WT(K:rW)(CO CR CW CH:rX):Sp:=λvs H Q _=>∃(o a:rX) (k:Nat) (l:List Nat) (ns:List Int) (bs:List Ent),vs=[.ref o,.ref a]/\OrdAt CO CR CW H o k l ns/\OG l ns k/\EnsL K H a bs/\BG k l ns bs/\∀(y qa:rX) (H':Hp),Same H H'->Ja K CH H' y o qa (zb bs)->Q (.ref y) H'
theorem Z4:zk ["order","entries"] ["order","entries"] (zh vF):=by nofun
theorem Yq{f CO CR CW CT CH:rX}(B:Bt mg)(TS:zdp K mg CH)(MS:MkS P w K mg base CO CR CW CT CH)(F:Fun K "system_by" "system_by" vF f fd)(gk:Df P w K mg base CX0 1 "pairs_of" ["entries"] [] (wn K)):zQ P w K mg base CX0 7 f fd ["order","entries"] (WT K CO CR CW CH):=by
 exists F.ok Z4
 ·obtain⟨o,a,k,l,ns,bs,rfl,ho,hG,hA,hB,q⟩:=h;refine#[_,(zf (zl (zfb xe0 MS hr rfl TS.g (za (pv 0) (za (cl0 gk hr .nil rfl (za (pv 1) zd)) zd))))),?_];have s16:=zO;ac_rfl;refine xW hA.is (by have:=hB.n;lia) λD H' _ s' hL=>?_;exact zaJ (ho.same s') hG hL hB.inL hB.fault λy qa H'' s'' hy=>q y qa H'' (s'.trans s'') hy
noncomputable def fE(i:Nat)(p:zv):Ent:=(p.1,p.2,[((i:Int),(0:Int),AO)])
noncomputable def fEs(rs:List zv):Nat->List Ent
 | 0=>[]
 | n+1=>fEs rs n ++ ((rs[n]?).map (fE n)).toList
theorem Jp{p:zv}(h:rs[n]? = AM p):fEs rs (n+1)=fEs rs n ++ [fE n p]:=by
 show fEs rs n ++ ((rs[n]?).map (fE n)).toList=_;rw[h];rfl
theorem Ql(rs:List zv):∀n,(fEs rs n).length<=n
 | 0=>al _
 | n+1=>by
  have:=Ql rs n;show (fEs rs n ++ ((rs[n]?).map (fE n)).toList).length<=_;rw[ak]
  cases rs[n]? with
  | none=>simp;lia
  | some p=>simp;lia
theorem Zg:∀{n:Nat} {e:Ent},e ∈ fEs rs n->∃i p,i<n/\rs[i]? = AM p/\e=fE i p
 | 0,e,h=>(nomatch h)
 | n+1,e,h=>by
  have h':e ∈ fEs rs n ++ ((rs[n]?).map (fE n)).toList:=h;rcases AW.mp h' with h | h
  ·obtain⟨i,p,hi,hp,he⟩:=Zg h;exact#[i,p,⋯,hp,he]
  ·cases hn:rs[n]? with
   | none=>rw[hn]at h;simp at h
   | some p =>
    rw[hn]at h;exact#[n,p,⋯,hn,by simpa using h]
def X2(K:rW):Sp:=λvs H Q _=>∃(a:rX) (rs:List zv),vs=[.ref a]/\LsA K H a (rs.map dR)/\rs.length<=20/\∀(D:rX) (H':Hp),Same H H'->H D=AN->EnsM K H' D (fEs rs rs.length)->Q (.ref D) H'
theorem qi:zk ["pacts"] ["pacts"] (zh yB):=by nofun
theorem qh(B:Bt mg)(F:Fun K "first_entries" "first_entries" yB f fd) : zQ P w K mg base CX0 1 f fd ["pacts"] (X2 K):=by
 exists F.ok qi
 ·obtain⟨a,rs,rfl,hA,hrl,q⟩:=h;refine#[_,(zf (zl (xP (g:=zbl K 2 (jK (yn 0) (jK (yn 1) zaH))) (own:=["number","pact"]) (caps:=[]) (ix:=[]) (tt:=vm) (te:=(Q8 (zL (tOp (jn K) (yj 1) (tC (.int 0))) (zL (tOp (jn K) (yj 1) (tC (.int 1))) (zL (zdm (zL (Q8 (zL (yj 0) (zL (tC (.int 0)) (zL (tC (.bl AO)) xR)))) xR)) xR))))) rfl (zS (sc:=zh yB) rfl (by symm) (by symm) (by symm) rfl (by symm) (by symm) rfl) (ve rfl B.enum (za (pv 0) zd)) (λ_ _ _ _ _ _=>uQ (n:=2) rfl (z8 (zu (i:=0) (show List.Nodup [_,_] by decide) rfl (.inl rfl)) (z8 (zu (i:=1) (show List.Nodup [_,_] by decide) rfl (.inl rfl)) wy))) (λ_ _ _ _ _ _=>yM) (λ_ _ _ _ _ _=>(zR (za (zo ix_tup (pv 1) zg) (za (zo ix_tup (pv 1) zg) (za (wo (za (zR (za (pv 0) (za zg (za yE zd)))) zd)) zd)))))))),?_];have s16:=zO;have s16:=zO;obtain⟨xs,hX,hI⟩:=id hA;have hxl:=hI.len;rw[ac]at hxl;ac_rfl;rw[zcJ];ac_rfl;refine#[#[_,SqL.of hX],λD hD=>CompEL.by (xs:=xs) (λi AT H'=>Same H H'/\H' D=AM (.lst AT)/\AT.length<=i/\EnsA K (jS D H') (fEs rs i) AT) #[zc hD,ze,al _,rfl] (λi AT H' _ h=>SqL.of (h.1 _ _ hX)) ?_ ?_]
  ·rintro i x AT H' p hx ⟨hs,hH,hal,hEn⟩ hp;have hil:=(AU.mp hx).1;obtain⟨r,pr,hri,rfl,hqr⟩:=hI.getR hx;have u1:=zc (o:=HO.tup [.int (i:Nat),.ref pr]) hp;have hq:=zt (hs.trans u1) hqr;refine ze5 (SqT.of ze) ?_
   erw[vm]
   rfl'
   refine#[K6,_,hq,_,rfl,_,hq,_,rfl,⋯,λp1 hp1=>#[⋯,λp2 hp2=>#[⋯,λp3 hp3=>?_]]];have u2:=zc (o:=HO.tup [.int (i:Nat),.int 0,.bl AO]) hp1;have u3:=zc (o:=HO.lst [.ref p1]) hp2;have u4:=zc (o:=HO.tup [.str (tx r.1),.str (tx r.2),.ref p2]) hp3;have u:=u1.trans (u2.trans (u3.trans u4));have hD4:=u _ _ hH;have hp2D:p2≠D:=λz=>by rw[z,u2 _ _ (u1 _ _ hH)]at hp2;cases hp2
   refine#[hD4,⋯,CNx.mk hil #[zI (hs.trans u) hD,ze,by rw[ak];erw[aG,cA];lia,?_]];rw[Jp hri];refine (hEn.same ((wP u).trans xw)).snoc (EnA.same ?_ xw);refine EnA.new (e:=fE i r) hD4 ze #[_,u4 _ _ ze,?_] hp2D;show Iss K _ [dSt ((i:Int),(0:Int),AO)] _;exact zbi (WO (SqT.of (u4 _ _ (u3 _ _ ze))))
  ·rintro AT H' ⟨hs,hH,hal,hEn⟩;rw[hxl]at hEn;exact q D H' hs hD #[AT,hH,hEn.same wC]
noncomputable def km(es:List Ent):Bool:=decide (12<es.length) || es.any λe=>decide (10<max e.1.length e.2.1.length)
structure TMc(mg:sk->Option rY):Prop where
 u:∃t,mg "MOST_USES_completing" = AM (.int 40 t)
 e:∃t,mg "MOST_ENTRIES" = AM (.int 12 t)
 d:∃t,mg "MOST_SIDE_completing" = AM (.int 10 t)
 p:∃t,mg "MOST_PEAKS" = AM (.int 8 t)
def YK(K:rW):Sp:=λvs H Q _=>∃(a:rX) (es:List Ent),vs=[.ref a]/\EnsL K H a es/\es.length<64/\(∀e ∈ es,e.1.length<=10000/\e.2.1.length<=10000)/\∀H',Same H H'->Q (.bl (km es)) H'
theorem ZZ:zk ["entries"] ["entries"] (zh wl):=by nofun
theorem ZX(B:Bt mg)(hany:zfY mg)(TM:TMc mg)(F:Fun K "is_beyond" "is_beyond" wl f fd) : zQ P w K mg base CX0 1 f fd ["entries"] (YK K):=by
 obtain⟨⟨t9,g9⟩,⟨t8,g8⟩⟩:=And.intro TM.e TM.d
 exists F.ok ZZ
 ·obtain⟨a,es,rfl,hA,hl,hE,q⟩:=h
  refine#[_,(zi (zK (zy US (zC B.len (pv 0)) (yk (v:=.int 12) rfl g9 #[t9,rfl]) (zA _))
    (zf (zl yE))
    zr)
   (zf (zl (xx (zeo rfl) rfl hany PyProof.Rows.boot_any (za (xP (own:=["entry"]) (caps:=[]) (ix:=[]) (tt:=vm) (te:=(tOp zd1 (tCB KG (zL (tCB (Vc K) (zL (tOp (jn K) (yj 0) (tC (.int 0))) xR)) (zL (tCB (Vc K) (zL (tOp (jn K) (yj 0) (tC (.int 1))) xR)) xR))) (tC (.int 10)))) rfl (zS (sc:=zh wl) rfl (by symm) (by symm) (by symm) rfl (by symm) (by symm) rfl) (yd (pv 0)) (λ_ _ _ _ _ _=>zu (i:=0) (show List.Nodup [_] by decide) rfl (.inl rfl)) (λ_ _ _ _ _ _=>yM) (λ_ _ _ _ _ _=>(yN US (xx (Q6 rfl) rfl B.max qu (za (zC B.len (zo ix_tup (pv 0) zg)) (za (zC B.len (zo ix_tup (pv 0) zg)) zd))) (yk (v:=.int 10) rfl g8 #[t8,rfl]) (zA _)))) zd))))),?_]
  have s16:=zO;have s16:=zO;obtain⟨xs,hX,hEn⟩:=id hA;have hxl:=hEn.len;refine zj (λσ H'=>H'=H/\¬ 12<es.length/\σ=[AM (.ref a)]) ?_ ?_
  ·ac_rfl;refine#[_,.inl #[_,hX,rfl],yo (λh=>?_) λh=>by lia]
   have e:km es=AO:=by
    unfold km;rw[decide_eq_true ⋯,Bool.true_or]
   rw[<- e];exact q H (Same.refl _)
  rintro σ H1 ⟨rfl,h12,rfl⟩:_;right;ac_rfl;refine#[#[_,hX],λD hD=>CompL.by (xs:=xs) (λi AT H'=>Same H1 H'/\H' D=AM (.lst AT)/\AT=((es.take i).map λe=>decide (10<max e.1.length e.2.1.length)).map V.bl) #[zc hD,ze,rfl] (λi AT H' _ h=>h.1.seq hX) ?_ ?_]
  ·refine nm4 ?_;rintro i x AT H' hx ⟨hs,hH,rfl⟩:_;have hil:=(AU.mp hx).1;obtain⟨e,p,s,he,rfl,hp,_⟩:=hEn.get hx;have hq:=zt hs hp;have hb:=hE e (aa he);right
   erw[vm]
   rfl'
   refine#[xN,_,hq,_,rfl,_,#[by rw[z6];lia,rfl],_,hq,_,rfl,_,#[by rw[z6];lia,rfl],hH,by rw[ac,ac,aJ];lia,CNx.mk hil #[zI hs hD,ze,?_]];rw[z7 he,ax,ax,z6,z6];congr 1;show [V.bl _]=[V.bl _];congr 2;refine decide_eq_decide.mpr ?_;split <;> lia
  ·rintro AT H' ⟨hs,hH,rfl⟩;rw[hxl,aP]at hH;refine#[D,_,rfl,SqL.of hH,?_]
   have e:(es.map λe=>decide (10<max e.1.length e.2.1.length)).any id=km es:=by
    unfold km;rw[decide_eq_false h12,Bool.false_or,List.any_map];rfl
   rw[e];exact q H' hs
theorem Xw(h:km es=AQ):es.length<=12/\∀e ∈ es,e.1.length<=10/\e.2.1.length<=10:=by
 unfold km at h;rw[Bool.or_eq_false_iff]at h;refine#[by have:=of_decide_eq_false h.1;lia,λe he=>?_];have:=List.any_eq_false.mp h.2 e he;have h2:¬ 10<max e.1.length e.2.1.length:=λz=>this (decide_eq_true z);lia
def zad(K:rW)(CO CR CW T:rX):Sp:=λvs H Q _=>∃(o a:rX) (k:Nat) (l:List Nat) (ns:List Int) (es:List Ent),vs=[.ref o,.ref a]/\OrdAt CO CR CW H o k l ns/\OG l ns k/\EnsL K H a es/\es.length<64/\(∀e ∈ es,EB l e)/\TabOk H T lp lq /\
 (∀(bs:List Ent) (D:rX) (H':Hp),uR k l ns 20 es (AM bs)->BG k l ns bs->km bs=AQ->SamT T H H'->TabOk H' T lp lq->EnsM K H' D bs->Q (.ref D) H')/\((uR k l ns 20 es AN\/∃bs,uR k l ns 20 es (AM bs)/\km bs=AO)->∀H',SamT T H H'->TabOk H' T lp lq->Q .non H')
structure ze6(K:rW)(CF:rX):Prop where
 s:cY K (.ref CF) (.ref CF)=AM AO
theorem lV:zk ["order","entries","slim"] ["order","entries"] (zh yT):=by nofun
theorem uL{f CO CR CW TB CF:rX}(B:Bt mg)(TFx:zb7 K mg CF)(TSb:ze6 K CF)(F:Fun K "thinned_within" "thinned_within" yT f fd)(rp:Df P w K mg base (CXx P w) 7 "thinned" ["order","entries"] [] (VX K CO CR CW TB CF))(pZ:Df P w K mg base CX0 1 "is_beyond" ["entries"] [] (YK K)):zQ P w K mg base CX0 8 f fd ["order","entries"] (zad K CO CR CW TB):=by
 exists F.ok lV
 ·obtain⟨o,a,k,l,ns,es,rfl,ho,hG,hA,hz,hE,hTab,q1,q2⟩:=h
  refine#[_,(zi (Jj (i:=2) (th:=(zar (tC .non))) lV.nd rfl (.inl rfl) (.inl rfl) #[rfl,rfl] (clX rp hr .nil rfl (za (pv 0) (za (pv 1) zd))) rfl TFx.g TFx.xi.ok (λe=>(zf (zl yf))))
   (zf (zl (vj (yC (cl0 pZ hr .nil rfl (za (pv 2) zd)) (λ_=>rfl)) yf (pv 2))))),?_]
  have s16:=zO;have s16:=zO;refine zj (λσ H'=>SamT TB H H'/\TabOk H' TB lp lq/\∃(bs:List Ent) (D:rX),uR k l ns 20 es (AM bs)/\BG k l ns bs/\EnsM K H' D bs/\σ=[AM (.ref o),AM (.ref a),AM (.ref D)]) ?_ ?_
  ·erw[K1]
   ac_rfl;exact#[o,a,k,l,ns,es,rfl,ho,hG,hA,hz,hE,hTab,λbs D H' h1 h2 h3 h4 h5=>#[h3,h4,bs,h1,h2,D,h5,rfl],λh H' h3 h4=>#[CF,rfl,TSb.s,λx hx=>q2 (.inl h) _ (h3.trans (SamT.of (zc hx))) (h4.same (zc hx))]]
  rintro σ H1 ⟨s1,hT1,bs,D,hTh,hB,hM,rfl⟩:_;right;ac_rfl;exact#[D,bs,rfl,hM.l,hB.n,λe he=>#[aM (hB.e e he).a ∅,aM (hB.e e he).b ∅],λH' s'=>#[_,rfl,yo (λh=>q2 (.inr #[bs,hTh,h]) H' (s1.trans (SamT.of s')) (hT1.same s')) λh=>q1 bs D H' hTh hB (by simpa using h) (s1.trans (SamT.of s')) (hT1.same s') (hM.same s')]]
theorem qk(w:List Nat)(k:Int)(o n:List Nat):(y0 w k o n).length<=w.length+n.length:=by
 unfold y0;rw[ak,ak,aJ,bn];lia
theorem BG.ok{l:List Nat}(h:BG k l ns bs)(hl:bs.length<=30):Vy (zb bs):=by
 refine#[by unfold zb;rw[ac];exact hl,λr hr=>?_];obtain⟨e,he,rfl⟩:=AV.mp hr;exact#[aM (h.e e he).a ∅,aM (h.e e he).b ∅]
theorem zdc(hok:∀r ∈ ps,r.1.length<=60/\r.2.length<=60){t:N3}(ht:t ∈ ovA ps ps.length):(pkA ps t).length<=180/\(pkB ps t).length<=180:=by
 obtain⟨i1,i2,i3,i4⟩:=ja ht;obtain⟨r,hr⟩:∃r,ps[t.1]? = AM r:=#[_,ag i1];obtain⟨r2,hr2⟩:∃r,ps[t.2.1]? = AM r:=#[_,ag i2];have l1:=vV hr;have l2:=vV hr2;have d1:ps.getD t.1 ([],[])=r:=by rw[ah,hr];rfl
 have d2:ps.getD t.2.1 ([],[])=r2:=by rw[ah,hr2];rfl
 rw[l1]at i3;have b1:=hok r (aa hr);have b2:=hok r2 (aa hr2);have hp:=vX r.1 r2.1 t.2.2 ⋯;have p1:=qk (yq r.1 r2.1 t.2.2) 0 r.1 r.2;have p2:=qk (yq r.1 r2.1 t.2.2) (t.2.2:Nat) r2.1 r2.2;unfold pkA pkB;rw[l1,l2,d1,d2];lia
theorem zdP(hN:NeL ps)(hok:∀r ∈ ps,r.1.length<=60/\r.2.length<=60):zfM ps 40:=by
 refine#[∅,λt ht=>?_];obtain⟨h1,h2⟩:=zdc hok ht
 have key:∀(v:List Nat),v.length<=180->∀j,j<=40->(wAt ps v j).length<=10000:=λv hv j hj=>by
  have:=qS (l:=v) hN (λp hp=>(hok p hp).2) j;have h3:j * 60<=40 * 60:=e7 hj (al _);lia
 exact#[key _ h1,key _ h2]
def zaC(K:rW)(CO CR CW:rX):Sp:=λvs H Q _=>∃(o a:rX) (k:Nat) (l:List Nat) (ns:List Int) (bs:List Ent),vs=[.ref o,.ref a]/\OrdAt CO CR CW H o k l ns/\OG l ns k/\EnsL K H a bs/\BG k l ns bs/\bs.length<=30/\(ovA (zb bs) (zb bs).length).length<=4000 /\
 ((∀t ∈ ovA (zb bs) (zb bs).length,OkG (zb bs) 40 t)->∀D H',Same H H'->LsA K H' D ((unG (zb bs) 40).map d3)->Q (.ref D) H')/\(∀t ∈ ovA (zb bs) (zb bs).length,¬ OkG (zb bs) 40 t->∀H',Same H H'->Q .non H')
theorem qF:zk ["order","entries"] ["order","entries"] (zh xF):=by nofun
theorem qV{f CO CR CW CF CH:rX}{mU:tT}(B:Bt mg)(TFx:zb7 K mg CF)(TSb:ze6 K CF)(TM:TMc mg)(F:Fun K "unmet_within" "unmet_within" xF f fd)(rH:Df P w K mg base (CXx P w) 7 "unmet" ["system","most"] [] (uh K CH CF))(DD_unmet:Df P w K mg base (CXx P w) 7 "unmet" ["system","most"] [.int 4000 mU] (uh K CH CF))(ra:Df P w K mg base CX0 7 "system_by" ["order","entries"] [] (WT K CO CR CW CH)):zQ P w K mg base CX0 9 f fd ["order","entries"] (zaC K CO CR CW):=by
 obtain⟨t9,g9⟩:=TM.u
 exists F.ok qF
 ·obtain⟨o,a,k,l,ns,bs,rfl,ho,hG,hA,hB,hbl,hol,q1,q2⟩:=h;refine#[_,(zf (X4 (th:=(zar (tC .non))) #[rfl,rfl] (clX rH hr .nil rfl (za (cl0 ra hr .nil rfl (za (pv 0) (za (pv 1) zd))) (za (yk (v:=.int 40) rfl g9 #[t9,rfl]) zd))) rfl TFx.g TFx.xi.ok (λe=>(zf (zl yf))))),?_];have s16:=zO;have s16:=zO
  erw[VV]
  ac_rfl
  have hsd:∀r ∈ zb bs,r.1.length<=60/\r.2.length<=60:=λr hr=>by
   obtain⟨e,he,rfl⟩:=AV.mp hr;exact#[(hB.e e he).a,(hB.e e he).b]
  exact#[o,a,k,l,ns,bs,rfl,ho,hG,hA,hB,λy qa H' s' hy=>#[y,o,qa,zb bs,40,rfl,hy,hB.ne hG,hB.ok hbl,hol,zdP (hB.ne hG) hsd,λh D H'' s'' _ hL=>q1 h D H'' (s'.trans s'') hL,λt ht h H'' s''=>#[CF,rfl,TSb.s,λx hx=>q2 t ht h _ (s'.trans (s''.trans (zc hx)))]]]
noncomputable def jM(es:List Ent)(t:N3):Ent:=(pkA (zb es) t,pkB (zb es) t,byL es [((t.1:Int),(0:Int),AQ),((t.2.1:Int),(t.2.2:Int),AO)])
def Ze(K:rW):Sp:=λvs H Q _=>∃(a t:rX) (es:List Ent) (tr:N3),vs=[.ref a,.ref t]/\EnsL K H a es/\SqT K H t [.int (tr.1:Nat),.int (tr.2.1:Nat),.int (tr.2.2:Nat)]/\tr ∈ ovA (zb es) (zb es).length/\Vy (zb es)/\(∀e ∈ es,e.2.2.length<=600)/\∀(p s:rX) (H':Hp),Same H H'->H' p=AM (.tup [.str (tx (jM es tr).1),.str (tx (jM es tr).2.1),.ref s])->LsA K H' s ((jM es tr).2.2.map dSt)->H s=AN->Q (.ref p) H'
theorem mM:zk ["entries","overlap","sides","steps"] ["entries","overlap"] (zh uE):=by nofun
theorem Xf(B:Bt mg)(F:Fun K "entry_of" "entry_of" uE f fd)(pQ:Df P w K mg base CX0 4 "peak" ["rules","overlap"] [] (k7 K))(ig:Df P w K mg base CX0 2 "by_pacts" ["entries","steps"] [] (UB K))(gk:Df P w K mg base CX0 1 "pairs_of" ["entries"] [] (wn K)):zQ P w K mg base CX0 5 f fd ["entries","overlap"] (Ze K):=by
 exists F.ok mM
 ·obtain⟨a,t,es,tr,rfl,hA,ht,htr,hok,hst,q⟩:=h
  refine#[_,(zi (zD 2 mM.nd (cl0 pQ hr .nil rfl (za (cl0 gk hr .nil rfl (za (pv 0) zd)) (za (pv 1) zd))))
   (zi (zD 3 mM.nd (cl0 ig hr .nil rfl (za (pv 0) (za (wo (za (zR (za (zo ix_tup (pv 1) zg) (za zg (za yE zd)))) (za (zR (za (zo ix_tup (pv 1) zg) (za (zo ix_tup (pv 1) zg) (za yE zd)))) zd))) zd))))
   (zf (zl (zR (za (zo ix_tup (pv 2) zg) (za (zo ix_tup (pv 2) zg) (za (pv 3) zd)))))))),?_]
  have s16:=zO;have s16:=zO;have hlp:(zb es).length=es.length:=by unfold zb;rw[ac]
  obtain⟨i1,i2,i3,i4⟩:=ja htr;obtain⟨r,hr1⟩:∃r,(zb es)[tr.1]? = AM r:=#[_,ag i1];obtain⟨r2,hr2⟩:∃r,(zb es)[tr.2.1]? = AM r:=#[_,ag i2];have l1:=vV hr1;have l2:=vV hr2;have d1:(zb es).getD tr.1 ([],[])=r:=by rw[ah,hr1];rfl
  have d2:(zb es).getD tr.2.1 ([],[])=r2:=by rw[ah,hr2];rfl
  have eA:pkA (zb es) tr=y0 (yq r.1 r2.1 tr.2.2) 0 r.1 r.2:=by unfold pkA;rw[l1,l2,d1]
  have eB:pkB (zb es) tr=y0 (yq r.1 r2.1 tr.2.2) (tr.2.2:Nat) r2.1 r2.2:=by unfold pkB;rw[l1,l2,d2]
  rw[l1]at i3;rw[l1,l2]at i4;refine zj (λσ H'=>Same H H'/\∃p:rX,(∃x,H' p=AM (.tup [x,.str (tx (pkA (zb es) tr)),.str (tx (pkB (zb es) tr))]))/\σ=[AM (.ref a),AM (.ref t),AM (.ref p),AN]) ?_ ?_
  ·rfl'
   refine xW hA.is (by have:=hok.1;lia) λD H1 _ s1 hL=>?_;exact WF hL.is (zt s1 ht) hok hr1 hr2 ⋯ i4 λp H' _ s' hp=>#[s1.trans s',p,#[_,by rw[eA,eB];exact hp],rfl]
  rintro σ H1 ⟨s1,p,⟨x,hp⟩,rfl⟩:_;right;refine zj (λσ H'=>Same H1 H'/\∃S:rX,H S=AN/\LsA K H' S ((jM es tr).2.2.map dSt)/\σ=[AM (.ref a),AM (.ref t),AM (.ref p),AM (.ref S)]) ?_ ?_
  ·have ht1:=zt s1 ht
   rfl'
   refine#[_,ht1,_,rfl,⋯,λp1 hp1=>?_];have u1:=zc (o:=HO.tup [.int (tr.1:Nat),.int 0,.bl AQ]) hp1;refine#[_,zt u1 ht1,_,rfl,_,zt u1 ht1,_,rfl,⋯,λp2 hp2=>#[⋯,λp3 hp3=>?_]];have u2:=zc (o:=HO.tup [.int (tr.2.1:Nat),.int (tr.2.2:Nat),.bl AO]) hp2;have u3:=zc (o:=HO.lst [.ref p1,.ref p2]) hp3;have u:=u1.trans (u2.trans u3);refine Wa (us:=[((tr.1:Int),(0:Int),AQ),((tr.2.1:Int),(tr.2.2:Int),AO)]) (hA.same (s1.trans u)).is (LsA.is #[_,ze,?_]) (by simp) hst (λv hv=>?_) λD H' hDn s' hL=>#[u.trans s',D,(s1.trans u).free hDn,hL,rfl]
   ·erw[ao,aI,Iss]
    exact#[_,_,rfl,WO (SqT.of (u3 _ _ (u2 _ _ ze))),_,_,rfl,WO (SqT.of (u3 _ _ ze)),rfl]
   ·erw[d6,List.not_mem_nil,or_false]at hv
    rcases hv with rfl | rfl
    ·exact#[by simp,by show (tr.1:Int)<_;lia]
    ·exact#[by simp,by show (tr.2.1:Int)<_;lia]
  rintro σ H2 ⟨s2,S,hSn,hS,rfl⟩:_;right
  rfl'
  exact#[_,SqT.of (s2 _ _ hp),_,rfl,_,SqT.of (s2 _ _ hp),_,rfl,⋯,λp' hp'=>q p' S _ (s1.trans (s2.trans (zc hp'))) ze (hS.same (zc hp')) hSn]
theorem Kh{l:List Nat}(h:¬ jI e):¬ jI (yh k l ns e):=by
 unfold yh;split
 ·exact h
 ·unfold jI at h ⊢;rw[yO];show ¬ (240<e.2.2.length\/60<e.2.1.length\/60<e.1.length);lia
theorem Vh{l:List Nat}{bs es:List Ent}{r:Option (List Ent)}(h:xn k l ns bs es r):(∀e ∈ bs,¬ jI e)->∀fs,r=AM fs->∀e ∈ fs,¬ jI e:=by
 induction h with
 | nil bs=>exact λh fs e=>by cases e;exact h
 | same _ _ _ _ ih=>exact ih
 | new _ _ _ h4 _ ih =>
  intro h;refine ih λe he=>?_;rcases AW.mp he with he | he
  ·exact h e he
  ·rw[AY.mp he];exact Kh h4
 | far _ _ _ _=>exact λ_ fs e=>by cases e
 | stuck _=>exact λ_ fs e=>by cases e
theorem jv{k n:Nat}{l:List Nat}{r:Option (List Ent)}(h:uR k l ns n es r):∀fs,r=AM fs->∀e ∈ fs,¬ jI e:=by
 induction h with
 | out es=>exact λfs e=>by cases e
 | bad _ _=>exact λfs e=>by cases e
 | done _ h2 _=>exact λfs e=>by cases e;exact Vh h2 (λe he=>(nomatch he)) _ rfl
 | more _ _ _ _ ih=>exact ih
theorem Uy{M:Nat}(h:∀e ∈ es,e.2.2.length<=M)(u:Stp):(Vb es u).length<=M:=by
 have hg:(es.getD u.1.toNat ([],[],[])).2.2.length<=M:=by
  rw[ah]
  cases e:es[u.1.toNat]? with
  | none=>exact aE _
  | some x=>exact h x (aa e)
 unfold Vb;rw[XX];split
 ·exact hg
 ·rw[yO];exact hg
inductive Cpl(k:Nat)(l:List Nat)(ns:List Int):Nat->List Ent->List Ent->Bool->List Ent->Prop where
 | out (kept fresh:List Ent):Cpl k l ns 0 kept fresh AQ kept
 | slim {n:Nat} {kept fresh:List Ent} (h:uR k l ns 20 fresh AN\/∃bs,uR k l ns 20 fresh (AM bs)/\km bs=AO):Cpl k l ns (n+1) kept fresh AQ kept
 | far {n:Nat} {kept fresh bs:List Ent} {t:N3} (h:uR k l ns 20 fresh (AM bs)) (hb:km bs=AQ) (ht:t ∈ ovA (zb bs) (zb bs).length) (ho:¬ OkG (zb bs) 40 t):Cpl k l ns (n+1) kept fresh AQ bs
 | whole {n:Nat} {kept fresh bs:List Ent} (h:uR k l ns 20 fresh (AM bs)) (hb:km bs=AQ) (ho:∀t ∈ ovA (zb bs) (zb bs).length,OkG (zb bs) 40 t) (hu:unG (zb bs) 40=[]):Cpl k l ns (n+1) kept fresh AO bs
 | more {n:Nat} {kept fresh bs es:List Ent} {w:Bool} (h:uR k l ns 20 fresh (AM bs)) (hb:km bs=AQ) (ho:∀t ∈ ovA (zb bs) (zb bs).length,OkG (zb bs) 40 t) (hu:unG (zb bs) 40≠[]) (r:Cpl k l ns n bs (bs ++ ((unG (zb bs) 40).take 8).map (jM bs)) w es):Cpl k l ns (n+1) kept fresh w es
theorem zdf(hl:ps.length<=12)(h:∀r ∈ ps,r.1.length<=10):(ovA ps ps.length).length<=4000:=by
 have lfl:∀i,(lf ps i).length<=10:=λi=>by
  cases e:ps[i]? with
  | none=>unfold lf;rw[ah,e];exact aE _
  | some r=>rw[vV e];exact h r (aa e)
 have oI:∀i m,(ovI ps i m).length<=m * 10:=λi m=>by
  induction m with
  | zero=>exact aE _
  | succ m ih =>
   rw[qy,ak];have h1:=qw ps i m (lf ps i).length;have h2:=lfl i;lia
 have oA:∀m,(ovA ps m).length<=m * 120:=λm=>by
  induction m with
  | zero=>exact aE _
  | succ m ih =>
   rw[Zj,ak];have h1:=oI m ps.length;lia
 have:=oA ps.length;lia
theorem zeK{l:List Nat}(hin:∀r ∈ ps,(∀c ∈ r.1,c ∈ l)/\∀c ∈ r.2,c ∈ l)(h10:∀r ∈ ps,r.1.length<=10/\r.2.length<=10){t:N3}(ht:t ∈ ovA ps ps.length):((pkA ps t).length<=60/\∀c ∈ pkA ps t,c ∈ l)/\(pkB ps t).length<=60/\∀c ∈ pkB ps t,c ∈ l:=by
 obtain⟨i1,i2,i3,i4⟩:=ja ht;obtain⟨r,hr⟩:∃r,ps[t.1]? = AM r:=#[_,ag i1];obtain⟨r2,hr2⟩:∃r,ps[t.2.1]? = AM r:=#[_,ag i2];have l1:=vV hr;have l2:=vV hr2;have d1:ps.getD t.1 ([],[])=r:=by rw[ah,hr];rfl
 have d2:ps.getD t.2.1 ([],[])=r2:=by rw[ah,hr2];rfl
 rw[l1]at i3;have b1:=h10 r (aa hr);have b2:=h10 r2 (aa hr2);have n1:=hin r (aa hr);have n2:=hin r2 (aa hr2);have hp:=vX r.1 r2.1 t.2.2 ⋯;have p1:=qk (yq r.1 r2.1 t.2.2) 0 r.1 r.2;have p2:=qk (yq r.1 r2.1 t.2.2) (t.2.2:Nat) r2.1 r2.2
 have hw:∀c ∈ yq r.1 r2.1 t.2.2,c ∈ l:=λc hc=>by
  unfold yq at hc;rcases AW.mp hc with h | h
  ·exact n1.1 c h
  ·exact n2.1 c (cD h)
 have put:∀(k:Int) (o n:List Nat),(∀c ∈ n,c ∈ l)->∀c ∈ y0 (yq r.1 r2.1 t.2.2) k o n,c ∈ l:=λk o n hn c hc=>by
  unfold y0 at hc;rcases AW.mp hc with hc | hc
  ·rcases AW.mp hc with hc | hc
   ·exact hw c (bi hc)
   ·exact hn c hc
  ·exact hw c (cD hc)
 unfold pkA pkB;rw[l1,l2,d1,d2];exact#[#[⋯,put _ _ _ n1.2],⋯,put _ _ _ n2.2]
theorem U9{l:List Nat}(hB:BG k l ns bs)(hb:km bs=AQ)(hs:∀e ∈ bs,e.2.2.length<=240){t:N3}(ht:t ∈ ovA (zb bs) (zb bs).length):EB l (jM bs t):=by
 obtain⟨b1,b2⟩:=Xw hb
 obtain⟨h1,h2⟩:=zeK (l:=l) (ps:=zb bs) (λr hr=>by
  obtain⟨e,he,rfl⟩:=AV.mp hr
  exact#[(hB.e e he).ma,(hB.e e he).mb]) (λr hr=>by
  obtain⟨e,he,rfl⟩:=AV.mp hr
  exact b2 e he) ht
 refine#[h1.1,h2.1,?_,h1.2,h2.2];show (byL bs [((t.1:Int),(0:Int),AQ),((t.2.1:Int),(t.2.2:Int),AO)]).length<=600;unfold byL;rw[List.flatMap_cons,List.flatMap_cons,List.flatMap_nil,aW,ak];have o1:=Uy hs ((t.1:Int),(0:Int),AQ);have o2:=Uy hs ((t.2.1:Int),(t.2.2:Int),AO);lia
theorem EnsM.samT{T:rX}{H H':Hp}{ps:Array rY}{a:rX}(h:EnsM K H a es)(s:SamT T H H')(hT:H T=AM (.tbl ps)):EnsM K H' a es:=by
 obtain⟨xs,h1,h2⟩:=h;exact#[xs,s.at hT h1 (λ_ z=>by cases z),EnsA.samT s hT h2]
def zfp(K:rW)(T:rX)(H:Hp)(k:Nat)(l:List Nat)(ns:List Int)(rs:List zv)(m n:Nat)(H':Hp)(Dk Df:rX):Prop:=∃kept fresh:List Ent,SamT T H H'/\TabOk H' T lp lq/\EnsM K H' Dk kept/\EnsL K H' Df fresh/\fresh.length<64/\(∀e ∈ fresh,EB l e)/\BG k l ns kept/\∀w es,Cpl k l ns n kept fresh w es->Cpl k l ns m [] (fEs rs rs.length) w es
def zau(K:rW)(CO CR CW T:rX):Sp:=λvs H Q _=>∃(o a:rX) (k:Nat) (l:List Nat) (ns:List Int) (rs:List zv) (m:Nat),vs=[.ref o,.ref a,.int (m:Nat)]/\OrdAt CO CR CW H o k l ns/\OG l ns k/\LsA K H a (rs.map dR)/\rs.length<=20/\InL l rs/\(∀r ∈ rs,r.1.length<=60/\r.2.length<=60)/\m<=1000/\TabOk H T lp lq/\∀(w:Bool) (es:List Ent) (p D:rX) (H':Hp),Cpl k l ns (m+1) [] (fEs rs rs.length) w es->BG k l ns es->SamT T H H'->TabOk H' T lp lq->H' p=AM (.tup [.bl w,.ref D])->EnsM K H' D es->Q (.ref p) H'
theorem gm:zk ["order","pacts","rounds","kept","fresh","turn","slim","lacking"] ["order","pacts","rounds"] (zh wa):=by nofun
theorem ZU{f CO CR CW TB:rX}(B:Bt mg)(TM:TMc mg)(F:Fun K "completed" "completed" wa f fd)(oP:Df P w K mg base CX0 1 "first_entries" ["pacts"] [] (X2 K))(oo:Df P w K mg base CX0 8 "thinned_within" ["order","entries"] [] (zad K CO CR CW TB))(ph:Df P w K mg base CX0 9 "unmet_within" ["order","entries"] [] (zaC K CO CR CW))(rg:Df P w K mg base CX0 5 "entry_of" ["entries","overlap"] [] (Ze K)):zQ P w K mg base CX0 10 f fd ["order","pacts","rounds"] (zau K CO CR CW TB):=by
 obtain⟨t9,g9⟩:=TM.p
 exists F.ok gm
 ·obtain⟨o,a,k,l,ns,rs,m,rfl,ho,hG,hA,hrl,hin,h60,hm,hTab,q⟩:=h
  refine#[_,(zi (kh (i:=3) gm.nd rfl (Or.inr rfl) (wo zd))
   (zi (zD 4 gm.nd (cl0 oP hr .nil rfl (za (pv 1) zd)))
   (zi (zN PassesOwn.never rfl (zX rfl B.range (za (zG yY (pv 2) zg) zd)) (zu (i:=5) gm.nd rfl (.inl rfl))
    (zi (zD 6 gm.nd (cl0 oo hr .nil rfl (za (pv 0) (za (pv 4) zd))))
    (zi (zK (zy op_isN' (pv 6) yf (zA _))
     (zf (zl (zR (za yE (za (pv 3) zd)))))
     zr)
    (zi (kh (i:=3) gm.nd rfl (Or.inr rfl) (pv 6))
    (zi (zD 7 gm.nd (cl0 ph hr .nil rfl (za (pv 0) (za (pv 3) zd))))
    (zi (zK (zy op_isN' (pv 7) yf (zA _))
     (zf (zl (zR (za yE (za (pv 3) zd)))))
     zr)
    (zi (zK (zy wu (zC B.len (pv 7)) zg (zA _))
     (zf (zl (zR (za yE (za (pv 3) zd)))))
     zr)
    (zf (zD 4 gm.nd (zG xg (pv 3) (xP (own:=["overlap"]) (caps:=["kept"]) (ix:=[3]) (tt:=vm) (te:=(qb (Ze K) [] E0 (zL (yj 1) (zL (yj 0) xR)))) rfl (zS (sc:=zh wa) rfl (by symm) (by symm) (by symm) rfl (by symm) (by symm) rfl) (yd (yH Xh (pv 7) vL (yx (yk (v:=.int 8) rfl g9 #[t9,rfl])))) (λ_ _ _ _ _ _=>zu (i:=0) (show List.Nodup [_,_] by decide) rfl (.inl rfl)) (λ_ _ _ _ _ _=>yM) (λ_ _ _ _ _ _=>(cl0 rg hr .nil rfl (za (pv 1) (za (pv 0) zd)))))))))))))))
   (zf (zl (zR (za yE (za (pv 3) zd)))))))),?_]
  have s16:=zO;have s16:=zO;have hTt:=hTab;obtain⟨tp,htp,_⟩:=hTt;refine zj (λσ H'=>Same H H'/\∃Dk:rX,H' Dk=AM (.lst [])/\σ=[AM (.ref o),AM (.ref a),AM (.int (m:Nat)),AM (.ref Dk),AN,AN,AN,AN]) ?_ ?_
  ·ac_rfl;exact#[⋯,λp hp=>#[zc hp,ze]]
  rintro σ H1 ⟨s1,Dk0,hDk0,rfl⟩:_
  have hE0:∀e ∈ fEs rs rs.length,EB l e:=λe he=>by
   obtain⟨i,p,hi,hp,rfl⟩:=Zg he;have h1:=h60 p (aa hp);have h2:=hin p (aa hp);exact#[h1.1,h1.2,by show ([((i:Int),(0:Int),AO)]:List Stp).length<=600;simp,h2.2.2.1,h2.2.2.2]
  right;refine zj (λσ H'=>∃Df:rX,zfp K TB H k l ns rs (m+1) (m+1) H' Dk0 Df/\σ=[AM (.ref o),AM (.ref a),AM (.int (m:Nat)),AM (.ref Dk0),AM (.ref Df),AN,AN,AN]) ?_ ?_
  ·ac_rfl;exact#[a,rs,rfl,hA.same s1,hrl,λDf H' s' _ hM=>#[Df,#[[],fEs rs rs.length,SamT.of (s1.trans s'),hTab.same (s1.trans s'),#[[],s' _ _ hDk0,rfl],hM.l,by have:=Ql rs rs.length;lia,hE0,#[by simp,λe he=>(nomatch he),λe he=>(nomatch he)],λw es h=>h],rfl]]
  rintro σ H2 ⟨Df0,hC0,rfl⟩:_;right;refine zj (λσ H'=>∃(Dk Df:rX) (v5 v6 v7:Option V),zfp K TB H k l ns rs (m+1) 0 H' Dk Df/\σ=[AM (.ref o),AM (.ref a),AM (.int (m:Nat)),AM (.ref Dk),AM (.ref Df),v5,v6,v7]) ?_ ?_
  ·ac_rfl;refine#[⋯,⋯,ForR.by (λi σ H'=>∃(Dk Df:rX) (v5 v6 v7:Option V),zfp K TB H k l ns rs (m+1) (m+1 - i) H' Dk Df/\σ=[AM (.ref o),AM (.ref a),AM (.int (m:Nat)),AM (.ref Dk),AM (.ref Df),v5,v6,v7]) #[Dk0,Df0,AN,AN,AN,hC0,rfl] ?_ ?_]
   ·refine nm3 ?_;rintro i σ H' hi ⟨Dk,Df,v5,v6,v7,⟨kept,fresh,sT,hT,hK,hF,hfl,hfE,hB,hcp⟩,rfl⟩:_;have hi':i<m+1:=⋯;have en:m+1 - i=(m+1 - (i+1))+1:=⋯;rw[en]at hcp;have hTt:=hT;obtain⟨tq,htq,_⟩:=hTt;have ho':=ho.samT sT htp;right
    erw[yn,aR,aQ]
    refine zj (λσ' G=>SamT TB H' G/\TabOk G TB lp lq/\(((uR k l ns 20 fresh AN\/∃bs,uR k l ns 20 fresh (AM bs)/\km bs=AO)/\σ'=[AM (.ref o),AM (.ref a),AM (.int (m:Nat)),AM (.ref Dk),AM (.ref Df),AM (.int (0+(i:Int))),AM (.non),v7])\/∃(bs:List Ent) (D:rX),uR k l ns 20 fresh (AM bs)/\BG k l ns bs/\km bs=AQ/\EnsM K G D bs/\σ'=[AM (.ref o),AM (.ref a),AM (.int (m:Nat)),AM (.ref Dk),AM (.ref Df),AM (.int (0+(i:Int))),AM (.ref D),v7])) ?_ ?_
    ·ac_rfl;exact#[o,Df,k,l,ns,fresh,rfl,ho',hG,hF,hfl,hfE,hT,λbs D G h1 h2 h3 h4 h5 h6=>#[h4,h5,.inr #[bs,h1,h2,h3,D,h6,rfl]],λh G h4 h5=>#[h4,h5,.inl #[h,rfl]]]
    rintro σ' G1 ⟨g1,hT1,hcase⟩:_;have hK1:=hK.samT g1 htq;right;refine zj (λσ' G=>Same G1 G/\∃(bs:List Ent) (D:rX),uR k l ns 20 fresh (AM bs)/\BG k l ns bs/\km bs=AQ/\EnsM K G D bs/\σ'=[AM (.ref o),AM (.ref a),AM (.int (m:Nat)),AM (.ref Dk),AM (.ref Df),AM (.int (0+(i:Int))),AM (.ref D),v7]) ?_ ?_
    ·rcases hcase with ⟨hno,rfl⟩ | ⟨bs,D,h1,h2,h3,h4,rfl⟩
     ·ac_rfl;exact#[⋯,λp hp=>q AQ kept p Dk _ (hcp _ _ (.slim hno)) hB (sT.trans (g1.trans (SamT.of (zc hp)))) (hT1.same (zc hp)) ze (hK1.same (zc hp))]
     ·ac_rfl;exact#[Same.refl _,bs,h1,h2,h3,h4]
    rintro σ' G2 ⟨s2,bs,D,hTh,hBb,hbey,hD,rfl⟩:_;right;refine zj (λσ' G=>G=G2/\σ'=[AM (.ref o),AM (.ref a),AM (.int (m:Nat)),AM (.ref D),AM (.ref Df),AM (.int (0+(i:Int))),AM (.ref D),v7]) ?_ ?_
    ·ac_rfl
    rintro σ' G3 ⟨rfl,rfl⟩:_;have sT3:SamT TB H G3:=sT.trans (g1.trans (SamT.of s2));have hT3:=hT1.same s2;have ho3:=ho.samT sT3 htp;obtain⟨b12,b10⟩:=Xw hbey;have hpl:(zb bs).length=bs.length:=by unfold zb;rw[ac]
    have hol:=zdf (ps:=zb bs) ⋯ λr hr=>by
     obtain⟨e,he,rfl⟩:=AV.mp hr;exact (b10 e he).1
    have hnear:∀e ∈ bs,e.2.2.length<=240:=λe he=>by
     have:=jv hTh bs rfl e he;unfold jI at this;lia
    right;refine zj (λσ' G=>Same G3 G/\(((∃t ∈ ovA (zb bs) (zb bs).length,¬ OkG (zb bs) 40 t)/\σ'=[AM (.ref o),AM (.ref a),AM (.int (m:Nat)),AM (.ref D),AM (.ref Df),AM (.int (0+(i:Int))),AM (.ref D),AM (.non)])\/∃L:rX,(∀t ∈ ovA (zb bs) (zb bs).length,OkG (zb bs) 40 t)/\LsA K G L ((unG (zb bs) 40).map d3)/\σ'=[AM (.ref o),AM (.ref a),AM (.int (m:Nat)),AM (.ref D),AM (.ref Df),AM (.int (0+(i:Int))),AM (.ref D),AM (.ref L)])) ?_ ?_
    ·ac_rfl;exact#[o,D,k,l,ns,bs,rfl,ho3,hG,hD.l,hBb,⋯,hol,λh L G s' hL=>#[s',.inr #[h,L,hL,rfl]],λt ht h G s'=>#[s',.inl #[#[t,ht,h],rfl]]]
    rintro σ' G4 ⟨s4,hcase⟩:_;right;refine zj (λσ' G=>Same G3 G/\∃L:rX,(∀t ∈ ovA (zb bs) (zb bs).length,OkG (zb bs) 40 t)/\LsA K G L ((unG (zb bs) 40).map d3)/\σ'=[AM (.ref o),AM (.ref a),AM (.int (m:Nat)),AM (.ref D),AM (.ref Df),AM (.int (0+(i:Int))),AM (.ref D),AM (.ref L)]) ?_ ?_
    ·rcases hcase with ⟨⟨t,ht,hno⟩,rfl⟩ | ⟨L,h1,h2,rfl⟩
     ·ac_rfl;exact#[⋯,λp hp=>q AQ bs p D _ (hcp _ _ (.far hTh hbey ht hno)) hBb (sT3.trans (SamT.of (s4.trans (zc hp)))) (hT3.same (s4.trans (zc hp))) ze (hD.same (s4.trans (zc hp)))]
     ·ac_rfl;exact#[s4,h1,h2]
    rintro σ' G5 ⟨s5,L,hok,hL,rfl⟩:_;right;refine zj (λσ' G=>G=G5/\unG (zb bs) 40≠[]/\σ'=[AM (.ref o),AM (.ref a),AM (.int (m:Nat)),AM (.ref D),AM (.ref Df),AM (.int (0+(i:Int))),AM (.ref D),AM (.ref L)]) ?_ ?_
    ·ac_rfl;obtain⟨xs,hX,hI⟩:=id hL;have hxl:=hI.len;rw[ac]at hxl;refine#[_,.inl #[_,SqL.of hX,rfl],yo (λh=>#[⋯,λp hp=>q AO bs p D _ (hcp _ _ (.whole hTh hbey hok (List.length_eq_zero_iff.mp ⋯))) hBb (sT3.trans (SamT.of (s5.trans (zc hp)))) (hT3.same (s5.trans (zc hp))) ze (hD.same (s5.trans (zc hp)))]) λh z=>h ?_];rw[z]at hxl;show ((xs.length:Nat):Int)=0;rw[hxl];rfl
    rintro σ' G6 ⟨rfl,hne,rfl⟩:_;right;ac_rfl;obtain⟨xs,hX,hI⟩:=id hL;have hxl:=hI.len;rw[ac]at hxl;have hct:K9 xs AN (AM 8)=xs.take 8:=X1 xs (k:=8) ∅;refine#[_,SqL.of hX,λp hp=>?_];rw[hct];have u1:=zc (o:=HO.lst (xs.take 8)) hp;have hS7:(upd G6 p (.lst (xs.take 8))) p=AM (.lst (xs.take 8)):=ze;have hX7:=Iss.same u1 _ _ hI;have hD7:=hD.same (s5.trans u1);refine#[#[_,SqL.of hS7],λE1 hE1=>?_];generalize upd G6 p (.lst (xs.take 8))=G7 at *;refine CompL.by (xs:=xs.take 8) (λj AT H'=>Same G7 H'/\H' E1=AM (.lst AT)/\AT.length<=j/\EnsA K (jS E1 H') (((unG (zb bs) 40).take j).map (jM bs)) AT) #[zc hE1,ze,al _,rfl] (λj AT H' _ h=>SqL.of (h.1 _ _ hS7)) ?_ ?_
    ·refine nm4 ?_;rintro j x AT H' hx ⟨hs,hH,hal,hEn⟩:_;have hjl:=(AU.mp hx).1;have hj8:j<8:=by rw[aJ]at hjl;lia
     rw[cb hj8]at hx;obtain⟨t,pt,ht,rfl,hpt⟩:=hX7.get3 hx;have htm:=(Bb.mp (aa ht)).1;right
     erw[vm]
     rfl'
     refine#[xN,D,pt,bs,t,rfl,(hD7.same hs).l,zt hs hpt,htm,hBb.ok ⋯,λe he=>(hBb.e e he).s,λp' s' H5 h1 h2 h3 h4=>?_];have hH5:=h1 _ _ hH;have hsE:s'≠E1:=λz=>by rw[z,hH]at h4;cases h4
     refine#[hH5,⋯,CNx.mk hjl #[zI (hs.trans h1) hE1,ze,by rw[ak];erw[aG,cA];lia,?_]];rw[z7 ht,ax];exact (hEn.same ((wP h1).trans xw)).snoc ((EnA.new (e:=jM bs t) hH5 h2 h3 hsE).same xw)
    ·rintro AT H' ⟨hs,hH,hal,hEn⟩
     have hEn':EnsA K H' (((unG (zb bs) 40).take 8).map (jM bs)) AT:=by
      have h1:=hEn.same wC;rw[aJ,hxl]at h1
      have e:(unG (zb bs) 40).take (min 8 (unG (zb bs) 40).length)=(unG (zb bs) 40).take 8:=by
       rw[<- fh,aP]
      rw[e]at h1;exact h1
     have hal8:AT.length<=8:=by rw[aJ]at hal;lia
     obtain⟨xk,hxk,hek⟩:=hD7.same hs;have hkl:=hek.len;refine#[E1,rfl,xk,hxk,AT,hH,⋯,λp2 hp2=>#[D,p2,#[bs,_,sT3.trans (SamT.of (s5.trans (u1.trans (hs.trans (zc hp2))))),hT3.same (s5.trans (u1.trans (hs.trans (zc hp2)))),#[xk,zc hp2 _ _ hxk,hek.same (zc hp2)],#[xk ++ AT,SqL.of ze,(hEn'.same (zc hp2)).app (hek.same (zc hp2))],?_,λe he=>?_,hBb,λw es h=>hcp w es (.more hTh hbey hok hne h)],rfl,rfl]]
     ·rw[ak,ac,aJ];lia
     ·rcases AW.mp he with he | he
      ·exact hBb.e e he
      ·obtain⟨t,ht,rfl⟩:=AV.mp he;exact U9 hBb hbey hnear (Bb.mp (bi ht)).1
   ·rintro σ H' ⟨Dk,Df,v5,v6,v7,hC,rfl⟩;rw[show ((m:Int)+1).toNat=m+1 by lia,dH]at hC;exact#[Dk,Df,hC,_,_,_,rfl]
  rintro σ H3 ⟨Dk,Df,v5,v6,v7,⟨kept,fresh,sT,hT,hK,hF,hfl,hfE,hB,hcp⟩,rfl⟩:_;right;ac_rfl;exact#[⋯,λp hp=>q AQ kept p Dk _ (hcp _ _ (.out kept fresh)) hB (sT.trans (SamT.of (zc hp))) (hT.same (zc hp)) ze (hK.same (zc hp))]
theorem ZG{w:List Nat}{i:Nat}{q:Int}{f:Bool}{r:zv}(hr:ps[i]? = AM r)(h:zx w q (sdl r f).1=AO):yQ ps w ((i:Int),q,f)=AM (y0 w q (sdl r f).1 (sdl r f).2):=by
 have hi:=(AU.mp hr).1
 have e:ps.getD ((i:Int),q,f).1.toNat ([],[])=r:=by
  show ps.getD ((i:Int)).toNat ([],[])=r;rw[aN,ah,hr];rfl
 rw[xv (show 0<=((i:Int),q,f).1/\((i:Int),q,f).1<ps.length by constructor <;> simp <;> lia),e,if_pos h]
theorem Kv(h:e ∈ fEs rs n):EOk rs e:=by
 obtain⟨i,p,hi,hp,rfl⟩:=Zg h;show yv rs p.1 [((i:Int),(0:Int),AO)]=AM p.2
 have hs:zx p.1 0 (sdl p AO).1=AO:=by
  show zx p.1 0 p.1=AO;refine decide_eq_true #[⋯,⋯,?_];show (p.1.drop 0).take p.1.length=p.1;rw[dW,aP]
 erw[yv,ZG hp hs,cu]
 show AM (y0 p.1 0 p.1 p.2)=AM p.2;congr 1;unfold y0;show p.1.take 0 ++ p.2 ++ p.1.drop (0+p.1.length)=p.2;rw[bO,bI,aY ⋯,aW]
theorem zbj(hb:∀e ∈ bs,EOk rs e){t:N3}(ht:t ∈ ovA (zb bs) (zb bs).length):EOk rs (jM bs t):=by
 obtain⟨i1,i2,i3,i4⟩:=ja ht;obtain⟨r,hr⟩:∃r,(zb bs)[t.1]? = AM r:=#[_,ag i1];obtain⟨r2,hr2⟩:∃r,(zb bs)[t.2.1]? = AM r:=#[_,ag i2];have l1:=vV hr;have l2:=vV hr2;have d1:(zb bs).getD t.1 ([],[])=r:=by rw[ah,hr];rfl
 have d2:(zb bs).getD t.2.1 ([],[])=r2:=by rw[ah,hr2];rfl
 rw[l1]at i3;rw[l1,l2]at i4;have eA:pkA (zb bs) t=y0 (yq r.1 r2.1 t.2.2) 0 r.1 r.2:=by unfold pkA;rw[l1,l2,d1]
 have eB:pkB (zb bs) t=y0 (yq r.1 r2.1 t.2.2) (t.2.2:Nat) r2.1 r2.2:=by unfold pkB;rw[l1,l2,d2]
 refine qX hb ?_;show yv (zb bs) (pkA (zb bs) t) [((t.1:Int),(0:Int),AQ),((t.2.1:Int),(t.2.2:Int),AO)]=AM (pkB (zb bs) t);obtain⟨b1,b2⟩:=X7 r.2 (kB r.1 r2.1 t.2.2);rw[eA,eB];have h1:=ZG (f:=AQ) (q:=0) hr (w:=y0 (yq r.1 r2.1 t.2.2) 0 r.1 r.2) b1;have h2:=ZG (f:=AO) (q:=(t.2.2:Int)) hr2 (w:=yq r.1 r2.1 t.2.2) (qQ ⋯ i4)
 have h1':yQ (zb bs) (y0 (yq r.1 r2.1 t.2.2) 0 r.1 r.2) ((t.1:Int),(0:Int),AQ)=AM (yq r.1 r2.1 t.2.2):=by
  rw[h1];congr 1
 have h2':yQ (zb bs) (yq r.1 r2.1 t.2.2) ((t.2.1:Int),(t.2.2:Int),AO)=AM (y0 (yq r.1 r2.1 t.2.2) (t.2.2:Nat) r2.1 r2.2):=h2
 erw[yv,h1',h2',cu]
theorem UH{l:List Nat}{es bs zs:List Ent}(h:uR k l ns 20 es (AM bs))(hb:km bs=AQ)(hz:ThinL k l ns zs)(hp:zb bs=zb zs):BG k l ns bs:=by
 obtain⟨b1,_⟩:=Xw hb
 have key:∀e ∈ bs,∃z ∈ zs,z.1=e.1/\z.2.1=e.2.1:=λe he=>by
  have:(e.1,e.2.1) ∈ zb zs:=by rw[<- hp];exact AV.mpr #[e,he,rfl]
  obtain⟨z,hz,e2⟩:=AV.mp this;injection e2 with h1 h2;exact#[z,hz,h1,h2]
 refine#[⋯,λe he=>?_,λe he=>?_]
 ·obtain⟨z,hzm,h1,h2⟩:=key e he;have hE:=hz.rl.e z hzm;have hn:=jv h bs rfl e he;unfold jI at hn;exact#[⋯,⋯,⋯,by rw[<- h1];exact hE.ma,by rw[<- h2];exact hE.mb]
 ·obtain⟨z,hzm,h1,h2⟩:=key e he;rw[<- h1,<- h2];exact hz.rl.lt z hzm
def Gd(rs:List zv)(k:Nat)(l:List Nat)(ns:List Int)(es:List Ent):Prop:=(∀e ∈ es,EOk rs e)/\(es=[]\/(ThinL k l ns es/\km es=AQ/\BG k l ns es))
theorem Xv{rs:List zv}{l:List Nat}(G:OG l ns k){es bs:List Ent}(h:uR k l ns 20 es (AM bs))(hb:km bs=AQ)(he:∀e ∈ es,EB l e)(ho:∀e ∈ es,EOk rs e):Gd rs k l ns bs:=by
 obtain⟨h1,zs,hz,hp⟩:=WA (rs:=rs) G h bs rfl he ho;have hB:=UH h hb hz hp;exact#[h1,.inr #[hz.pairs hp hB.e,hb,hB]]
theorem zdR{rs:List zv}{k n:Nat}{l:List Nat}(G:OG l ns k){kept fresh es:List Ent}{w:Bool}(h:Cpl k l ns n kept fresh w es):(∀e ∈ fresh,EB l e)->(∀e ∈ fresh,EOk rs e)->Gd rs k l ns kept->Gd rs k l ns es:=by
 induction h with
 | out kept fresh=>exact λ_ _ h=>h
 | slim _=>exact λ_ _ h=>h
 | far h hb _ _=>exact λhe ho _=>Xv G h hb he ho
 | whole h hb _ _=>exact λhe ho _=>Xv G h hb he ho
 | @more n kept fresh bs es w h hb ho' hu r ih =>
  intro he ho _;have hg:=Xv (rs:=rs) G h hb he ho
  have hB:BG k l ns bs:=by
   obtain⟨h1,zs,hz,hp⟩:=WA (rs:=rs) G h bs rfl he ho;exact UH h hb hz hp
  have hnear:∀e ∈ bs,e.2.2.length<=240:=λe hm=>by
   have:=jv h bs rfl e hm;unfold jI at this;lia
  refine ih (λe hm=>?_) (λe hm=>?_) hg
  ·rcases AW.mp hm with hm | hm
   ·exact hB.e e hm
   ·obtain⟨t,ht,rfl⟩:=AV.mp hm;exact U9 hB hb hnear (Bb.mp (bi ht)).1
  ·rcases AW.mp hm with hm | hm
   ·exact hg.1 e hm
   ·obtain⟨t,ht,rfl⟩:=AV.mp hm;exact zbj hg.1 (Bb.mp (bi ht)).1
theorem Kz{w o:List Nat}{q:Nat}(h:zx w (q:Int) o=AO):w.take q ++ o ++ w.drop (q+o.length)=w:=by
 unfold zx at h;obtain⟨_,_,e⟩:=of_decide_eq_true h;rw[aN]at e
 calc w.take q ++ o ++ w.drop (q+o.length)=w.take q ++ ((w.drop q).take o.length ++ (w.drop q).drop o.length):=by rw[e,dX,aO]
  _=w.take q ++ w.drop q:=by rw[bW]
  _=w:=bW q w
def Rw(ps:List zv)(u v:List Nat):Prop:=∃p,p ∈ ps/\∃a b,u=a ++ p.1 ++ b/\v=a ++ p.2 ++ b
theorem Rw.ctx{u v:List Nat}(h:Rw ps u v)(c d:List Nat):Rw ps (c ++ u ++ d) (c ++ v ++ d):=by
 obtain⟨p,hp,a,b,rfl,rfl⟩:=h;exact#[p,hp,c ++ a,b ++ d,by erw[aO],by erw[aO]]
theorem Uz{w:List Nat}{p:zv}{q:Nat}(h:zx w (q:Int) p.1=AO):w=w.take q ++ p.1 ++ w.drop (q+p.1.length)/\y0 w (q:Int) p.1 p.2=w.take q ++ p.2 ++ w.drop (q+p.1.length):=by
 refine#[(Kz h).symm,?_];unfold y0;rw[aN]
section
variable{k:Nat}{l:List Nat}{ws:List Int}{ps:List zv}
noncomputable def mu(k:Nat)(l:List Nat)(ws:List Int)(Ws:List (List Nat))(v:List Nat):Nat:=Ws.countP λy=>zM k l ws y v
end
inductive EqR(ps:List zv):List Nat->List Nat->Prop where
 | refl (u:List Nat):EqR ps u u
 | symm {u v:List Nat} (h:EqR ps u v):EqR ps v u
 | trans {u v w:List Nat} (h:EqR ps u v) (h2:EqR ps v w):EqR ps u w
 | one {u v:List Nat} (h:Rw ps u v):EqR ps u v
theorem Ke(ps:List zv):JE (EqR ps):=#[.refl,.symm,.trans,λ{u v} a b h=>by
 induction h with
 | refl u=>exact .refl _
 | symm _ ih=>exact .symm ih
 | trans _ _ i1 i2=>exact .trans i1 i2
 | one h=>exact .one (h.ctx a b)]
theorem zch{p:zv}(h:p ∈ ps):EqR ps p.1 p.2:=.one #[p,h,[],[],by simp,by simp]
theorem zcc{R:List Nat->List Nat->Prop}(hR:JE R)(hp:∀p ∈ ps,R p.1 p.2){u v:List Nat}(h:EqR ps u v):R u v:=by
 induction h with
 | refl u=>exact hR.refl _
 | symm _ ih=>exact hR.symm ih
 | trans _ _ i1 i2=>exact hR.trans i1 i2
 | one h =>
  obtain⟨p,hm,a,b,rfl,rfl⟩:=h;exact hR.ctx a b (hp p hm)
theorem zaT{R:List Nat->List Nat->Prop}(hR:JE R)(hp:∀p ∈ rs,R p.1 p.2){u v:List Nat}{s:Stp}(h:yQ rs u s=AM v):R u v:=by
 by_cases hb:0<=s.1/\s.1<rs.length
 ·rw[xv hb]at h
  have hm:rs.getD s.1.toNat ([],[]) ∈ rs:=by
   rw[ah,ag ⋯];exact List.getElem_mem _
  generalize rs.getD s.1.toNat ([],[])=r at *;by_cases hs:zx u s.2.1 (sdl r s.2.2).1=AO
  ·rw[if_pos hs]at h;have h0:0<=s.2.1:=(of_decide_eq_true hs).1;obtain⟨q,hq⟩:∃q:Nat,s.2.1=(q:Int):=#[s.2.1.toNat,⋯];rw[hq]at h hs;obtain⟨e1,e2⟩:=Uz (p:=sdl r s.2.2) hs;rw[e2]at h;cases h
   conv=>arg 1;rw[e1]
   refine hR.ctx _ _ ?_;unfold sdl;split
   ·exact hp r hm
   ·exact hR.symm (hp r hm)
  ·rw[if_neg hs]at h;cases h
 ·rw[wY hb]at h;cases h
theorem zae{R:List Nat->List Nat->Prop}(hR:JE R)(hp:∀p ∈ rs,R p.1 p.2):∀{ss:List Stp} {u v:List Nat},yv rs u ss=AM v->R u v
 | [],u,v,h=>by cases h;exact hR.refl _
 | s::ss,u,v,h=>by
  obtain⟨w1,h1,h2⟩:=vQ h;exact hR.trans (zaT hR hp h1) (zae hR hp h2)
section
variable{k:Nat}{l:List Nat}{ws:List Int}{ps:List zv}
end
section
variable{k:Nat}{l:List Nat}{ws:List Int}{es fs:List Ent}
end
def WL(K:rW):List V->Hp->VK->Prop:=λxs H Q=>∃p ys,xs=[.ref p]/\(SqL K H p ys\/SqT K H p ys)/\∀l,H l=AN->Q (.ref l) (upd H l (.lst ys))
structure TabAt(H:Hp)(t:rX)(rs:List rX)(tab:List (List Int)):Prop where
 top:H t=AM (.lst (rs.map V.ref))
 len:rs.length=tab.length
 row:∀(i:Nat) (r:rX) (x:List Int),rs[i]? = AM r->tab[i]? = AM x->H r=AM (.lst (x.map V.int))
theorem TabAt.same{H H':Hp}{t:rX}{rs:List rX}{tab:List (List Int)}(h:TabAt H t rs tab)(e:Same H H'):TabAt H' t rs tab:=#[e _ _ h.top,h.len,λi r x h1 h2=>e _ _ (h.row i r x h1 h2)]
noncomputable abbrev ZR(x:List Int):L3.D:=.lst (x.map L3.D.int)
theorem Qb:∀{rs:List rX} {tab:List (List Int)},rs.length=tab.length->(∀(i:Nat) (r:rX) (x:List Int),rs[i]? = AM r->tab[i]? = AM x->H r=AM (.lst (x.map V.int)))->Iss K H (tab.map ZR) (rs.map V.ref)
 | [],[],_,_=>by erw[aI,Iss]
 | r::rs,x::tab,hl,h=>by
  erw[ao,Iss]
  refine#[_,_,rfl,?_,Qb (by simpa using hl) λi r' x' h1 h2=>h (i+1) r' x' h1 h2]
  erw[ZR,Is]
  exact#[r,_,rfl,SqL.of (h 0 r x rfl rfl),Iss.ints x]
theorem TabAt.is{t:rX}{rs:List rX}{tab:List (List Int)}(h:TabAt H t rs tab):Is K H (.lst (tab.map ZR)) (.ref t):=by
 erw[Is]
 exact#[t,_,rfl,SqL.of h.top,Qb h.len h.row]
theorem zbY(tab:List (List Int)):uP (tab.map ZR)<=1:=XB λd h=>by
 obtain⟨r,_,rfl⟩:=AV.mp h
 erw[ZR,dpD,ZA]
 lia
structure yG(l:List Nat)(tab:List (List Int)):Prop where
 lo:1<=tab.length
 hi:tab.length<=8
 wd:∀x ∈ tab,x.length=l.length
 rm:∀x ∈ tab,∀n ∈ x,0<=n/\n<(tab.length:Int)
theorem TabAt.get{t:rX}{rs:List rX}{tab:List (List Int)}(h:TabAt H t rs tab){i:Int}(h0:0<=i)(h1:i<(tab.length:Int)):∃r x,atI (rs.map V.ref) i=AM (.ref r)/\tab[i.toNat]? = AM x/\H r=AM (.lst (x.map V.int)):=by
 have hl:=h.len;obtain⟨v,e1,e2⟩:=ke (xs:=rs.map V.ref) h0 (by rw[ac];lia);rw[am]at e2;obtain⟨r,hr,rfl⟩:=AZ.mp e2;have hx:tab[i.toNat]? = AM (tab[i.toNat]'⋯):=ag ⋯;exact#[r,_,e1,hx,h.row _ _ _ hr hx]
theorem Ve{t:rX}{rs:List rX}{tab:List (List Int)}{σ:L2.St}{D:rX}{g:TG}(hg:g=yn 0)(h:TabAt H t rs tab)(hb:tab.length<=1000)(hD:H D=AN)(q:∀(rs':List rX) (H':Hp),Same H H'->TabAt H' D rs' tab->(∀r ∈ D::rs',H r=AN)->D ∉ rs'->Q (.ref D) H') :
  CompL K t g vm (tCB (WL K) (zL (yj 0) xR)) 1 [] σ H Q D:=by
 have s16:=zO;have hl:=h.len;subst hg;refine CompL.by (xs:=rs.map V.ref) (λi AT H'=>∃rs':List rX,AT=rs'.map V.ref/\rs'.length=i/\Same H H'/\H' D=AM (.lst AT)/\(∀r ∈ rs',H r=AN/\r≠D)/\∀(j:Nat) (r:rX) (x:List Int),rs'[j]? = AM r->tab[j]? = AM x->H' r=AM (.lst (x.map V.int))) #[[],rfl,rfl,zc hD,ze,λr h=>(nomatch h),λj r x h=>by simp at h] (λi AT H' _ h'=>by obtain⟨_,_,_,hs,_⟩:=h';exact SqL.of (hs _ _ h.top)) ?_ ?_
 ·refine nm4 ?_;rintro i v AT H' hv ⟨rs',rfl,hi,hs,hH,hf,hr⟩:_;rw[am]at hv;obtain⟨r,hr0,rfl⟩:=AZ.mp hv;have hil:=(AU.mp hr0).1;have hx:tab[i]? = AM (tab[i]'⋯):=ag ⋯;right;generalize tab[i]'⋯=x at hx;have hrow:=hs _ _ (h.row i r x hr0 hx)
  erw[vm]
  rfl'
  erw[WL]
  rfl'
  refine#[xN,_,.inl (SqL.of hrow),λp hp=>#[zc hp _ _ hH,by rw[ac];lia,CNx.mk (by rw[ac];lia) #[rs' ++ [p],by rw[ax];rfl,by rw[ak,hi];rfl,zI (hs.trans (zc hp)) hD,ze,?_,?_]]]
  ·intro r' hr';rcases AW.mp hr' with h' | h'
   ·exact hf r' h'
   ·rw[AY.mp h'];refine#[?_,λe=>by rw[e]at hp;rw[hp]at hH;cases hH]
    cases e:H p with
    | none=>rfl
    | some o=>have:=hs _ _ e;rw[hp]at this;cases this
  ·intro j r' x' h1 h2;by_cases hj:j<i
   ·rw[br ⋯]at h1;have hm:=hf r' (aa h1);rw[zm hm.2];exact zc hp _ _ (hr j r' x' h1 h2)
   ·rw[be ⋯]at h1
    have hj0:j=i:=by
     have:=(AU.mp h1).1;simp at this;lia
    subst hj0;rw[hi,dH]at h1;cases h1;rw[hx]at h2;cases h2;rw[zm (λe=>by rw[e]at hp;rw[hp]at hH;cases hH)];exact ze
 ·rintro AT H' ⟨rs',rfl,hi,hs,hH,hf,hr⟩;rw[ac]at hi
  exact q rs' H' hs #[hH,⋯,hr] (λr hr'=>by
   rcases AX.mp hr' with rfl | h'
   ·exact hD
   ·exact (hf r h').1) λh'=>(hf D h').2 rfl
theorem U7{t:rX}{rs:List rX}{tab:List (List Int)}{σ:L2.St}{D:rX}{g:TG}(hg:g=yn 0)(h:TabAt H t rs tab)(hb:tab.length<=1000)(hD:H D=AN)(q:∀(rs':List rX) (H':Hp),Same H H'->TabAt H' D rs' tab->(∀r ∈ D::rs',H r=AN)->Q (.ref D) H') :
  CompL K t g vm (tCB (WL K) (zL (yj 0) xR)) 1 [] σ H Q D :=
 Ve hg h hb hD λrs' H' s' t' f' _=>q rs' H' s' t' f'
structure zdr(K:rW)(mg:sk->Option rY)(C:rX):Prop where
 xi:XI K C
 ini:af K (.ref C) "__init__" = AM (AM (.builtin "ValueError.__init__"))
 g:mg "NoWorld" = AM (.ref C)
 most:∃t,mg "MOST_ROOMS" = AM (.int 8 t)
def qP:Sp:=λvs H Q _=>∃(l:List Nat) (a:rX) (rs:List rX) (tab:List (List Int)),vs=[.str (tx l),.ref a]/\l.length<=6/\TabAt H a rs tab/\yG l tab/\∀(t:rX) (rs':List rX) (H':Hp),Same H H'->TabAt H' t rs' tab->(∀r ∈ t::rs',H r=AN)->Q (.ref t) H'
theorem mN:zk ["letters","table","row","room"] ["letters","table"] (zh wX):=by nofun
theorem Y0{f CQ:rX}(B:Bt mg)(TNw:zdr K mg CQ)(F:Fun K "table_of" "table_of" wX f fd) : zQ P w K mg base (CXx P w) 1 f fd ["letters","table"] qP:=by
 obtain⟨t6,g6⟩:=TNw.most
 exists Fun.okX F mN,0
 ·obtain⟨l,a,rs,tab,rfl,hl6,hT,hG,q⟩:=h
  refine#[_,(zi (zK (zW (vU xy xy zg (zC B.len (pv 1)) (yk (v:=.int 8) rfl g6 #[t6,rfl])))
    (zf (zY hx rfl TNw.xi.toXC TNw.ini rfl TNw.g (za zU zd)))
    zr)
   (zi (zN PassesOwn.leaving rfl (yd (pv 1)) (zu (i:=2) mN.nd rfl (.inl rfl))
    (zB (zK (zy vJ (zC B.len (pv 2)) (zC B.len (pv 0)) (zA _))
     (zf (zY hx rfl TNw.xi.toXC TNw.ini rfl TNw.g (za zU zd)))
     zr)
    (zf (zN PassesOwn.leaving rfl (yd (pv 2)) (zu (i:=3) mN.nd rfl (.inl rfl))
     (zf (zK (zW (vU xy WV zg (pv 3) (zC B.len (pv 1))))
      (zf (zY hx rfl TNw.xi.toXC TNw.ini rfl TNw.g (za zU zd)))
      zr))))))
   (zf (zl (xP (own:=["row"]) (caps:=[]) (ix:=[]) (tt:=vm) (te:=(tCB (WL K) (zL (yj 0) xR))) rfl (zS (sc:=zh wX) rfl (by symm) (by symm) (by symm) rfl (by symm) (by symm) rfl) (yd (pv 1)) (λ_ _ _ _ _ _=>zu (i:=0) (show List.Nodup [_] by decide) rfl (.inl rfl)) (λ_ _ _ _ _ _=>yM) (λ_ _ _ _ _ _=>(xp yS rfl B.list PySem.Pv.boot_list (za (pv 0) zd)))))))),?_]
  have s16:=zO;have hlen:=hT.len;have hlo:=hG.lo;have hhi:=hG.hi;refine zj (λσ H'=>H'=H/\σ=[AM (.str (tx l)),AM (.ref a),AN,AN]) ?_ ?_
  ·ac_rfl;exact#[_,.inl #[_,SqL.of hT.top,rfl],yo (λ_=>yo (λh=>absurd (by rw[ac];lia) h) λ_=>trivial) λh=>absurd (by rw[ac];lia) h]
  rintro σ H1 ⟨rfl,rfl⟩:_;right;refine zj (λσ H'=>H'=H1/\∃v2 v3,σ=[AM (.str (tx l)),AM (.ref a),v2,v3]) ?_ ?_
  ·ac_rfl;refine#[#[_,SqL.of hT.top],ForL.by (xs:=rs.map V.ref) (λi σ H'=>H'=H1/\∃v2 v3,σ=[AM (.str (tx l)),AM (.ref a),v2,v3]) #[rfl,AN,AN,rfl] (λi σ H' _ h=>by rw[h.1];exact SqL.of hT.top) ?_ λσ H' h=>h];refine nm4 ?_;rintro i y σ H' hy ⟨rfl,v2,v3,rfl⟩:_;rw[am]at hy;obtain⟨r,hr,rfl⟩:=AZ.mp hy;have hil:=(AU.mp hr).1;have hx:tab[i]? = AM (tab[i]'⋯):=ag ⋯;right;generalize tab[i]'⋯=x at hx;have hrow:=hT.row i r x hr hx;have hmx:=aa hx;have hw:=hG.wd x hmx;ac_rfl;refine#[_,.inl #[_,SqL.of hrow,rfl],⋯,yo (λh=>absurd (by rw[ac];lia) h) λ_=>#[#[_,SqL.of hrow],ForL.by (xs:=x.map V.int) (λi σ H''=>H''=H'/\∃v2 v3,σ=[AM (.str (tx l)),AM (.ref a),v2,v3]) #[rfl,_,_,rfl] (λi σ H'' _ h=>by rw[h.1];exact SqL.of hrow) ?_ λσ H' h=>h]];refine nm4 ?_;rintro j y σ H'' hy ⟨rfl,v2,v3,rfl⟩:_;rw[am]at hy;obtain⟨n,hn,rfl⟩:=AZ.mp hy;obtain⟨n1,n2⟩:=hG.rm x hmx n (aa hn);right;ac_rfl;exact yo (λ_=>#[_,.inl #[_,SqL.of hT.top,rfl],yo (λh=>absurd (by rw[ac];lia) h) λ_=>trivial]) λh=>absurd n1 h
  rintro σ H2 ⟨rfl,v2,v3,rfl⟩:_;right;ac_rfl;exact#[#[_,SqL.of hT.top],λD hD=>U7 rfl hT ⋯ hD λrs' H' s' t' f'=>q D rs' H' s' t' f']
structure zai(K:rW)(mg:sk->Option rY)(CV:rX):Prop where
 cl:Cls K CV
 g:mg "World" = AM (.ref CV)
 nl:NoAttr K CV "letters"
 nt:NoAttr K CV "table"
def WorAt(CV:rX)(H:Hp)(o:rX)(l:List Nat)(t:rX)(rs:List rX)(tab:List (List Int)):Prop:=∃dx,H o=AM (.ins CV dx [("letters",.str (tx l)),("table",.ref t)])/\TabAt H t rs tab
theorem WorAt.same{CV:rX}{H H':Hp}{o t:rX}{l:List Nat}{rs:List rX}{tab:List (List Int)}(h:WorAt CV H o l t rs tab)(e:Same H H'):WorAt CV H' o l t rs tab:=by
 obtain⟨dx,h1,h2⟩:=h;exact#[dx,e _ _ h1,h2.same e]
theorem TabAt.updI{p C dx t:rX}{fs gs:List (sk × V)}{rs:List rX}{tab:List (List Int)}(hp:H p=AM (.ins C dx fs))(h:TabAt H t rs tab):TabAt (upd H p (.ins C dx gs)) t rs tab:=by
 refine#[?_,h.len,λi r x h1 h2=>?_]
 ·rw[zm (λe=>by have:=h.top;rw[e,hp]at this;cases this)];exact h.top
 ·have h3:=h.row i r x h1 h2;rw[zm (λe=>by rw[e,hp]at h3;cases h3)];exact h3
def uf(CV:rX):Sp:=λvs H Q _=>∃(x dx a:rX) (l:List Nat) (rs:List rX) (tab:List (List Int)),vs=[.ref x,.str (tx l),.ref a]/\qG l=AO/\TabAt H a rs tab/\yG l tab/\H x=AM (.ins CV dx []) /\
 ∀(t:rX) (rs':List rX) (H':Hp),(∀b o,b≠x->H b=AM o->H' b=AM o)->(∀r ∈ t::rs',H r=AN)->WorAt CV H' x l t rs' tab->Q .non H'
theorem Za:zk ["self","letters","table"] ["self","letters","table"] (zh wK):=by nofun
theorem kH{f C CV:rX}(B:Bt mg)(CLw:zai K mg CV)(F:Fun K "__init__" "World.__init__" wK f fd)(lY:Df P w K mg base (CXx P w) 2 "letters_of" ["text"] [] (wb C))(rh:Df P w K mg base (CXx P w) 1 "table_of" ["letters","table"] [] qP):zQ P w K mg base (CXx P w) 4 f fd ["self","letters","table"] (uf CV):=by
 exists Fun.okX F Za,0
 ·obtain⟨x,dx,a,l,rs,tab,rfl,hg,hT,hG,hX,q⟩:=h
  refine#[_,(zi (j8 (pv 0) (clP hx lY hr .nil rfl (za (pv 1) zd)) rfl)
   (zf (j8 (pv 0) (clP hx rh hr .nil rfl (za (pv 1) (za (pv 2) zd))) rfl))),?_]
  have s16:=zO;have hg':=of_decide_eq_true hg;refine zj (λσ H'=>H'=upd H x (.ins CV dx [("letters",.str (tx l))])/\σ=[AM (.ref x),AM (.str (tx l)),AM (.ref a)]) ?_ ?_
  ·ac_rfl;exact#[l,rfl,⋯,λ_=>#[_,_,_,hX,CLw.cl,CLw.nl,∅,rfl],λe=>by rw[hg]at e;cases e]
  rintro σ H1 ⟨rfl,rfl⟩:_;right;ac_rfl;refine#[l,a,rs,tab,rfl,⋯,hT.updI hX,hG,λt rs' H' s' t' f'=>?_];have hX2:=s' _ _ (ze (H:=H) (a:=x) (o:=.ins CV dx [("letters",.str (tx l))]))
  have fr:∀r ∈ t::rs',H r=AN/\r≠x:=λr hr'=>by
   have h1:=f' r hr';have h2:r≠x:=λe=>by rw[e,ze]at h1;cases h1
   rw[zm h2]at h1;exact#[h1,h2]
  exact#[_,_,_,hX2,CLw.cl,CLw.nt,by show 1<1000;decide,q t rs' _ (λb o hb e=>by rw[zm hb];exact s' _ _ (by rw[zm hb];exact e)) (λr hr'=>(fr r hr').1) #[dx,ze,t'.updI hX2]]
theorem QG{CV a:rX}{l:List Nat}{rs:List rX}{tab:List (List Int)}{R:rX->Hp->Prop}(hg:qG l=AO)(hT:TabAt H a rs tab)(hG:yG l tab)(q:∀(x t:rX) (rs':List rX) (H':Hp),Same H H'->H x=AN->(∀r ∈ t::rs',H r=AN)->WorAt CV H' x l t rs' tab->R x H') :
  ∀x dx,H x=AN->H dx=AN->dx≠x->uf CV [.ref x,.str (tx l),.ref a] (upd (upd H dx (.own x)) x (.ins CV dx [])) (λv H2=>v=.non/\R x H2) E:=by
 intro x dx hx hdx hne;have sd:=zc (o:=.own x) hdx;have hx1:(upd H dx (.own x)) x=AN:=by rw[zm hne.symm];exact hx
 have sx:=sd.trans (zc (o:=.ins CV dx []) hx1);refine#[x,dx,a,l,rs,tab,rfl,hg,hT.same sx,hG,ze,λt rs' H' k f hc=>#[rfl,q x t rs' H' (λb o e=>k b o (zF e hx) (sx b o e)) hx (λr hr=>?_) hc]]
 cases e:H r with
 | none=>rfl
 | some o=>have:=sx _ _ e;rw[f r hr]at this;cases this
def qm(CV:rX):Sp:=λvs H Q _=>∃(o t:rX) (l:List Nat) (rs:List rX) (tab:List (List Int)),vs=[.ref o]/\WorAt CV H o l t rs tab/\Q (.int (tab.length:Nat)) H
theorem jL:zk ["self"] ["self"] (zh xY):=by nofun
theorem jW{f CV:rX}(B:Bt mg)(CLw:zai K mg CV)(F:Fun K "rooms" "World.rooms" xY f fd) : zQ P w K mg base CX0 1 f fd ["self"] (qm CV):=by
 exists F.ok jL
 ·obtain⟨o,t,l,rs,tab,rfl,hW,q⟩:=h;refine#[_,(zf (zl (zC B.len (ui (pv 0) rfl)))),?_];have s16:=zO
  rfl'
  obtain⟨dx,ho,hT⟩:=hW;exact#[_,_,_,ho,CLw.cl,CLw.nt,_,rfl,_,.inl #[_,SqL.of hT.top,rfl],by rw[ac,hT.len];exact q]
theorem U0{CV o t:rX}{l:List Nat}{rs:List rX}{tab:List (List Int)}(h:WorAt CV H o l t rs tab)(q:Q (.int (tab.length:Nat)) H):qm CV [.ref o] H Q E:=#[o,t,l,rs,tab,rfl,h,q]
noncomputable def qf(l:List Nat)(tab:List (List Int))(r:Int)(c:Nat):Int:=(tab.getD r.toNat []).getD (l.idxOf c) 0
noncomputable def xt(l:List Nat)(tab:List (List Int))(r:Int)(w:List Nat):Int:=w.foldl (qf l tab) r
theorem Jr{l:List Nat}{tab:List (List Int)}(hG:yG l tab){r:Int}(h0:0<=r)(h1:r<(tab.length:Int)){c:Nat}(hc:c ∈ l):0<=qf l tab r c/\qf l tab r c<(tab.length:Int):=by
 have hx:tab[r.toNat]? = AM (tab[r.toNat]'⋯):=ag ⋯;generalize tab[r.toNat]'⋯=x at hx;have hm:=aa hx;have hi:=bq hc;rw[<- hG.wd x hm]at hi;have hn:x[l.idxOf c]? = AM x[l.idxOf c]:=ag hi;unfold qf;rw[ah (l:=tab),hx,cH,ah,hn,cH];exact hG.rm x hm _ (aa hn)
theorem Xn{l:List Nat}{tab:List (List Int)}(hG:yG l tab):∀{w:List Nat} {r:Int},0<=r->r<(tab.length:Int)->(∀c ∈ w,c ∈ l)->0<=xt l tab r w/\xt l tab r w<(tab.length:Int)
 | [],r,h0,h1,_=>#[h0,h1]
 | c::w,r,h0,h1,hw=>by
  obtain⟨a,b⟩:=Jr hG h0 h1 (hw c (by simp));exact Xn hG (w:=w) a b λx hx=>hw x (by simp [hx])
theorem Yy{l:List Nat}{tab:List (List Int)}{r:Int}{w:List Nat}{i c:Nat}(h:w[i]? = AM c):xt l tab r (w.take (i+1))=qf l tab (xt l tab r (w.take i)) c:=by
 unfold xt;rw[z7 h,List.foldl_append];rfl
theorem zaz{l:List Nat}{tab:List (List Int)}(hG:yG l tab){r:Int}{x:List Int}(hx:tab[r.toNat]? = AM x){c:Nat}(hc:c ∈ l):atI (x.map V.int) ((l.idxOf c:Nat):Int)=AM (.int (qf l tab r c)):=by
 have hm:=aa hx;have hi:=bq hc;rw[<- hG.wd x hm]at hi;have hn:x[l.idxOf c]? = AM x[l.idxOf c]:=ag hi;refine wf ?_;unfold qf;rw[am,hn,ah (l:=tab),hx,cH,ah,hn];rfl
def qM(CV:rX):Sp:=λvs H Q _=>∃(o t:rX) (l:List Nat) (rs:List rX) (tab:List (List Int)) (r:Int) (w:List Nat),vs=[.ref o,.int r,.str (tx w)]/\WorAt CV H o l t rs tab/\yG l tab/\0<=r/\r<(tab.length:Int)/\(∀c ∈ w,c ∈ l)/\Q (.int (xt l tab r w)) H
theorem md:zk ["self","room","word","letter"] ["self","room","word"] (zh vH):=by nofun
theorem Yp{f CV:rX}(B:Bt mg)(CLw:zai K mg CV)(F:Fun K "led" "World.led" vH f fd) : zQ P w K mg base CX0 1 f fd ["self","room","word"] (qM CV):=by
 exists F.ok md
 ·obtain⟨o,t,l,rs,tab,r,w,rfl,hW,hG,h0,h1,hw,q⟩:=h
  refine#[_,(zB (zN PassesOwn.never rfl (WM (pv 2)) (zu (i:=3) md.nd rfl (.inl rfl))
    (zf (zD 1 md.nd (zo ix_list (zo ix_list (ui (pv 0) rfl) (pv 1)) (vP bT eX eY V5 (ui (pv 0) rfl) (za (pv 3) zd))))))
   (zf (zl (pv 1)))),?_]
  have s16:=zO
  rfl'
  obtain⟨dx,ho,hT⟩:=hW;refine ForS.by (λi σ H'=>H'=H/\∃v3,σ=[AM (.ref o),AM (.int (xt l tab r (w.take i))),AM (.str (tx w)),v3]) #[rfl,AN,rfl] ?_ ?_
  ·refine nm4 ?_;rintro i c σ H' hc ⟨rfl,v3,rfl⟩:_;have hcl:=hw c (aa hc);obtain⟨a,b⟩:=Xn hG (w:=w.take i) h0 h1 λx hx=>hw x (bi hx);obtain⟨r',x,e1,e2,e3⟩:=hT.get a b;right;ac_rfl;exact#[_,_,_,ho,CLw.cl,CLw.nt,_,rfl,_,rfl,_,SqL.of hT.top,_,e1,_,_,_,ho,CLw.cl,CLw.nl,_,rfl,trivial,_,rfl,_,UT hcl,_,rfl,_,SqL.of e3,by rw[Yy hc];exact zaz hG e2 hcl]
  ·rintro σ H' ⟨rfl,v3,rfl⟩
   rfl'
   rw[aP];exact q
theorem qo{CV o t:rX}{l:List Nat}{rs:List rX}{tab:List (List Int)}{r:Int}{w:List Nat}(h:WorAt CV H o l t rs tab)(hG:yG l tab)(h0:0<=r)(h1:r<(tab.length:Int))(hw:∀c ∈ w,c ∈ l)(q:Q (.int (xt l tab r w)) H):qM CV [.ref o,.int r,.str (tx w)] H Q E:=#[o,t,l,rs,tab,r,w,rfl,h,hG,h0,h1,hw,q]
noncomputable def yW(l:List Nat)(tab:List (List Int))(u v:List Nat):Option Nat:=(aH tab.length).find? λr=>decide (xt l tab (r:Int) u≠xt l tab (r:Int) v)
noncomputable def vO:Option Nat->V
 | none=>.non
 | some r=>.int (r:Nat)
theorem YG{l:List Nat}{tab:List (List Int)}{u v:List Nat}{r:Nat}(h1:r<tab.length)(h2:xt l tab (r:Int) u≠xt l tab (r:Int) v)(h3:∀j:Nat,j<r->xt l tab (j:Int) u=xt l tab (j:Int) v):yW l tab u v=AM r:=by
 unfold yW;rw[List.find?_eq_some_iff_getElem];refine#[by simpa using h2,r,by simpa using h1,by simp,λj hj=>?_];simpa using h3 j hj
theorem YF{l:List Nat}{tab:List (List Int)}{u v:List Nat}(h:∀j:Nat,j<tab.length->xt l tab (j:Int) u=xt l tab (j:Int) v):yW l tab u v=AN:=by
 unfold yW;rw[dZ];intro j hj;simpa using h j (by simpa using hj)
def vf(CV:rX):Sp:=λvs H Q _=>∃(o t:rX) (l:List Nat) (rs:List rX) (tab:List (List Int)) (u v:List Nat),vs=[.ref o,.str (tx u),.str (tx v)]/\WorAt CV H o l t rs tab/\yG l tab/\(∀c ∈ u,c ∈ l)/\(∀c ∈ v,c ∈ l)/\Q (vO (yW l tab u v)) H
theorem Xa{CV o t:rX}{l:List Nat}{rs:List rX}{tab:List (List Int)}{u v:List Nat}(h:WorAt CV H o l t rs tab)(hG:yG l tab)(hu:∀c ∈ u,c ∈ l)(hv:∀c ∈ v,c ∈ l)(q:Q (vO (yW l tab u v)) H):vf CV [.ref o,.str (tx u),.str (tx v)] H Q E:=#[o,t,l,rs,tab,u,v,rfl,h,hG,hu,hv,q]
theorem mI:zk ["self","one","other","room"] ["self","one","other"] (zh xE):=by nofun
theorem qD{f CV:rX}(B:Bt mg)(CL:zai K mg CV)(F:Fun K "parted" "World.parted" xE f fd)(M_world_rooms:DM P w K mg base CX0 1 CV "rooms" ["self"] (qm CV))(M_world_led:DM P w K mg base CX0 1 CV "led" ["self","room","word"] (qM CV)):zQ P w K mg base CX0 2 f fd ["self","one","other"] (vf CV):=by
 exists F.ok mI
 ·obtain⟨o,t,l,rs,tab,u,v,rfl,hW,hG,hu,hv,q⟩:=h
  refine#[_,(zB (zN PassesOwn.never rfl (zX rfl B.range (za (me0 M_world_rooms CL.cl hr (pv 0)) zd)) (zu (i:=3) mI.nd rfl (.inl rfl))
    (zf (zK (zy vJ (me1 M_world_led CL.cl hr (pv 0) (za (pv 3) (za (pv 1) zd))) (me1 M_world_led CL.cl hr (pv 0) (za (pv 3) (za (pv 2) zd))) (zA _))
     (zf (zl (pv 3)))
     zr)))
   (zf (zl yf))),?_]
  have s16:=zO
  rfl'
  obtain⟨dx,ho,hT⟩:=id hW;have hhi:=hG.hi;refine#[_,_,ho,rfl,U0 hW ?_];refine#[_,rfl,⋯,⋯,ForR.by (λi σ H'=>H'=H/\(∀j:Nat,j<i->xt l tab (j:Int) u=xt l tab (j:Int) v)/\∃v3,σ=[AM (.ref o),AM (.str (tx u)),AM (.str (tx v)),v3]) #[rfl,λj h=>absurd h (bQ j),AN,rfl] ?_ ?_]
  ·refine nm3 ?_;rintro i σ H' hi ⟨rfl,hb,v3,rfl⟩:_;have hi':i<tab.length:=⋯;have e0:(0:Int)+(i:Int)=(i:Int):=⋯;right;ac_rfl;refine#[_,_,ho,rfl,qo hW hG ⋯ ⋯ hu #[_,_,ho,rfl,qo hW hG ⋯ ⋯ hv ?_]];rw[e0];ac_rfl;refine yo (λh=>?_) λh j hj=>?_
   ·rw[YG hi' h hb]at q;exact q
   ·by_cases hj':j<i
    ·exact hb j hj'
    ·have:j=i:=⋯;rw[this];exact Decidable.not_not.mp h
  ·rintro σ H' ⟨rfl,hb,v3,rfl⟩;ac_rfl;rw[YF λj hj=>hb j ⋯]at q;exact q
noncomputable def xj(l:List Nat)(tab:List (List Int)):List zv->Nat->Option (Nat × Nat)
 | [],_=>AN
 | p::ps,i=>match yW l tab p.1 p.2 with
  | some r=>AM (i,r)
  | none=>xj l tab ps (i+1)
theorem kg{l:List Nat}{tab:List (List Int)}:∀{ps:List zv} {i k:Nat} {p:zv},ps[i]? = AM p->(∀(j:Nat) (q:zv),j<i->ps[j]? = AM q->yW l tab q.1 q.2=AN)->∀r,yW l tab p.1 p.2=AM r->xj l tab ps k=AM (k+i,r)
 | q::ps,0,k,p,h,_,r,hr=>by
  cases h
  erw[xj,hr,Nat.add_zero]
 | q::ps,i+1,k,p,h,hb,r,hr=>by
  have h0:=hb 0 q ⋯ rfl
  erw[xj,h0]
  rw[kg (ps:=ps) (i:=i) (k:=k+1) h (λj q' hj e=>hb (j+1) q' ⋯ e) r hr];congr 2;lia
theorem kz{l:List Nat}{tab:List (List Int)}:∀{ps:List zv} {k:Nat},(∀(j:Nat) (q:zv),ps[j]? = AM q->yW l tab q.1 q.2=AN)->xj l tab ps k=AN
 | [],_,_=>rfl
 | q::ps,k,hb=>by
  erw[xj,hb 0 q rfl]
  exact kz λj q' e=>hb (j+1) q' e
def uI(K:rW)(CV:rX):Sp:=λvs H Q _=>∃(o t a:rX) (l:List Nat) (rs:List rX) (tab:List (List Int)) (ps:List zv),vs=[.ref o,.ref a]/\LsA K H a (ps.map dR)/\WorAt CV H o l t rs tab/\yG l tab/\(∀p ∈ ps,(∀c ∈ p.1,c ∈ l)/\∀c ∈ p.2,c ∈ l) /\
 (xj l tab ps 0=AN->∀H',Same H H'->Q .non H')/\∀i r,xj l tab ps 0=AM (i,r)->∀p H',Same H H'->H' p=AM (.tup [.int (i:Nat),.int (r:Nat)])->Q (.ref p) H'
theorem gY:zk ["self","pacts","number","pact","room"] ["self","pacts"] (zh xD):=by nofun
theorem jg{f CV:rX}(B:Bt mg)(CL:zai K mg CV)(F:Fun K "broken" "World.broken" xD f fd)(M_world_parted:DM P w K mg base CX0 2 CV "parted" ["self","one","other"] (vf CV)):zQ P w K mg base CX0 3 f fd ["self","pacts"] (uI K CV):=by
 exists F.ok gY
 ·obtain⟨o,t,a,l,rs,tab,ps,rfl,hA,hW,hG,hp,q1,q2⟩:=h
  refine#[_,(zB (zN PassesOwn.never rfl (ve rfl B.enum (za (pv 1) zd)) (uQ (n:=2) rfl (z8 (zu (i:=2) gY.nd rfl (.inl rfl)) (z8 (zu (i:=3) gY.nd rfl (.inl rfl)) wy)))
    (zB (zD 4 gY.nd (me1 M_world_parted CL.cl hr (pv 0) (za (zo ix_tup (pv 3) zg) (za (zo ix_tup (pv 3) zg) zd))))
    (zf (zK (zy op_notN' (pv 4) yf (zA _))
     (zf (zl (zR (za (pv 2) (za (pv 4) zd)))))
     zr))))
   (zf (zl yf))),?_]
  have s16:=zO
  rfl'
  obtain⟨xs,hX,hI⟩:=id hA;have hXL:=hI.len;rw[ac]at hXL;refine#[#[_,SqL.of hX],ForEL.by (xs:=xs) (λi σ H'=>Same H H'/\(∀(j:Nat) (p:zv),j<i->ps[j]? = AM p->yW l tab p.1 p.2=AN)/\∃v2 v3 v4,σ=[AM (.ref o),AM (.ref a),v2,v3,v4]) #[Same.refl _,λj p h=>absurd h (bQ j),_,_,_,rfl] ?_ ?_ ?_]
  ·rintro i σ H' _ ⟨hs,_⟩;exact SqL.of (hs _ _ hX)
  ·rintro i x σ H' p hx ⟨hs,hb,v2,v3,v4,rfl⟩ hpn;obtain⟨r,pr,hri,rfl,hqr⟩:=hI.getR hx;have hm:=hp r (aa hri);have s2:=hs.trans (zc (o:=.tup [.int (i:Nat),.ref pr]) hpn);have hW2:=hW.same s2;obtain⟨dx,ho,_⟩:=id hW2;have hq2:=zt s2 hqr;ac_rfl;refine#[_,SqT.of ze,rfl,_,_,rfl,_,_,rfl,rfl,_,_,ho,rfl,_,rfl,_,hq2,_,rfl,_,rfl,_,hq2,_,rfl,Xa hW2 hG hm.1 hm.2 ?_]
   cases e:yW l tab r.1 r.2 with
   | none =>
    erw[vO]
    ac_rfl;refine#[s2,λj p' hj hp'=>?_];by_cases hj':j<i
    ·exact hb j p' hj' hp'
    ·have:j=i:=⋯;rw[this,hri]at hp';cases hp';exact e
   | some z =>
    erw[vO]
    ac_rfl;have hbr:=kg (k:=0) hri hb z e;rw[eG]at hbr;exact#[⋯,λp3 hp3=>q2 i z hbr p3 _ (s2.trans (zc hp3)) ze]
  ·rintro σ H' ⟨hs,hb,v2,v3,v4,rfl⟩;ac_rfl;exact q1 (kz λj p' e=>hb j p' (by have:=(AU.mp e).1;lia) e) H' hs
structure Kf(K:rW)(mg:sk->Option rY)(CM:rX):Prop where
 xi:XI K CM
 ini:af K (.ref CM) "__init__" = AM (AM (.builtin "ValueError.__init__"))
 g:mg "TooMany" = AM (.ref CM)
 most:∃t,mg "MOST_TABLES" = AM (.int 1000 t)
theorem zfk{n k:Nat}(h1:n<=8)(h2:k<=6):n * k<=48:=e7 h1 h2
def qA:Sp:=λvs H Q _=>∃(l:List Nat) (n:Nat),vs=[.str (tx l),.int (n:Nat)]/\l.length<=6/\n<=8/\Q (.int ((n ^ (n * l.length):Nat):Int)) H
theorem Yn{l:List Nat}(h1:l.length<=6)(h2:n<=8)(q:Q (.int ((n ^ (n * l.length):Nat):Int)) H):qA [.str (tx l),.int (n:Nat)] H Q E:=#[l,n,rfl,h1,h2,q]
theorem JL(n i:Nat):((n ^ i:Nat):Int) * (n:Int)=((n ^ (i+1):Nat):Int):=by rw[dI,dJ]
theorem ik:zk ["letters","rooms","count","cell"] ["letters","rooms"] (zh xZ):=by nofun
theorem jR(B:Bt mg)(F:Fun K "table_count" "table_count" xZ f fd) : zQ P w K mg base CX0 1 f fd ["letters","rooms"] qA:=by
 exists F.ok ik
 ·obtain⟨l,n,rfl,h1,h2,q⟩:=h
  refine#[_,(zB (zD 2 ik.nd zg)
   (zB (zN PassesOwn.never rfl (zX rfl B.range (za (zG Zu (pv 1) (zC B.len (pv 0))) zd)) (zu (i:=3) ik.nd rfl (.inl rfl))
    (zf (zD 2 ik.nd (zG Zu (pv 2) (pv 1)))))
   (zf (zl (pv 2))))),?_]
  have s16:=zO
  rfl'
  have hm:=zfk h2 h1;have em:((n:Int) * (l.length:Int))=((n * l.length:Nat):Int):=by rw[dJ]
  refine#[⋯,.inl #[⋯,⋯],?_];rw[em];refine#[⋯,⋯,ForR.by (λi σ H'=>H'=H/\∃v3,σ=[AM (.str (tx l)),AM (.int (n:Nat)),AM (.int ((n ^ i:Nat):Int)),v3]) #[rfl,_,rfl] ?_ ?_]
  ·refine nm3 ?_;rintro i σ H' hi ⟨rfl,v3,rfl⟩:_;right
   rfl'
   exact#[.inr #[⋯,⋯],JL n i]
  ·rintro σ H' ⟨rfl,v3,rfl⟩
   rfl'
   rw[aN];exact q
def ud:Sp:=λvs H Q _=>∃(l:List Nat) (n:Nat),vs=[.str (tx l),.int (n:Nat)]/\l.length<=6/\n<=8/\Q (.bl (decide (n ^ (n * l.length)<=1000))) H
theorem j0{l:List Nat}(h1:l.length<=6)(h2:n<=8)(q:Q (.bl (decide (n ^ (n * l.length)<=1000))) H):ud [.str (tx l),.int (n:Nat)] H Q E:=#[l,n,rfl,h1,h2,q]
theorem Ky(a:Nat):decide ((a:Int)<=1000)=decide (a<=1000):=by
 by_cases h:a<=1000
 ·rw[decide_eq_true h,decide_eq_true ⋯]
 ·rw[decide_eq_false h,decide_eq_false ⋯]
theorem qg:zk ["letters","rooms"] ["letters","rooms"] (zh xo):=by nofun
theorem qc{f CM:rX}(B:Bt mg)(TM:Kf K mg CM)(F:Fun K "tables_within" "tables_within" xo f fd)(lB:Df P w K mg base CX0 1 "table_count" ["letters","rooms"] [] qA):zQ P w K mg base CX0 2 f fd ["letters","rooms"] ud:=by
 obtain⟨t9,g9⟩:=TM.most
 exists F.ok qg
 ·obtain⟨l,n,rfl,h1,h2,q⟩:=h;refine#[_,(zf (zl (yN xy (cl0 lB hr .nil rfl (za (pv 0) (za (pv 1) zd))) (yk (v:=.int 1000) rfl g9 #[t9,rfl]) (zA _)))),?_];have s16:=zO
  rfl'
  refine Yn h1 h2 ?_
  rfl'
  rw[Ky];exact q
noncomputable def uD(n N i:Nat):Int:=((N / n ^ i % n:Nat):Int)
noncomputable def UY(n k N r:Nat):List Int:=(aH k).map λj=>uD n N (n * k - 1 - (r * k+j))
noncomputable def vx(n k N:Nat):List (List Int):=(aH n).map λr=>UY n k N r
theorem zcm{n N i:Nat}(h:1<=n):0<=uD n N i/\uD n N i<(n:Int):=by
 have:=Nat.mod_lt (N / n ^ i) (show 0<n by lia);unfold uD;lia
theorem qK(n k N:Nat):(vx n k N).length=n:=by simp [vx]
theorem kZ{l:List Nat}(N:Nat)(h1:1<=n)(h8:n<=8):yG l (vx n l.length N):=by
 refine#[by rw[qK];exact h1,by rw[qK];exact h8,λx hx=>?_,λx hx z hz=>?_]
 ·obtain⟨r,_,rfl⟩:=AV.mp hx;simp [UY]
 ·obtain⟨r,_,rfl⟩:=AV.mp hx;obtain⟨j,_,rfl⟩:=AV.mp hz;rw[qK];exact zcm h1
theorem zaO{n k N r:Nat}(hr:r<n):((((aH (n * k)).map (uD n N)).reverse).drop (r * k)).take k=UY n k N r:=by
 have hb:r * k+k<=n * k:=by
  have:=cE k (show r+1<=n by lia);rw[dq,du]at this;exact this
 apply ee;intro j;by_cases hj:j<k
 ·rw[cb hj,fH,bu (by simp;lia),am,cJ (by simp;lia),UY,am,cJ hj];simp
 ·rw[bv (by simp [aJ];lia),bv (by simp [UY];lia)]
theorem QN(n N i:Nat):N / n ^ i / n=N / n ^ (i+1):=by rw[eZ,dI]
def vD:Sp:=λvs H Q _=>∃(l:List Nat) (n N:Nat),vs=[.str (tx l),.int (n:Nat),.int (N:Nat)]/\1<=l.length/\l.length<=6/\1<=n/\n<=8/\∀(t:rX) (rs:List rX) (H':Hp),Same H H'->TabAt H' t rs (vx n l.length N)->(∀r ∈ t::rs,H r=AN)->Q (.ref t) H'
theorem Yv{l:List Nat}{n N:Nat}(h1:1<=l.length)(h2:l.length<=6)(h3:1<=n)(h4:n<=8)(q:∀(t:rX) (rs:List rX) (H':Hp),Same H H'->TabAt H' t rs (vx n l.length N)->(∀r ∈ t::rs,H r=AN)->Q (.ref t) H'):vD [.str (tx l),.int (n:Nat),.int (N:Nat)] H Q E:=#[l,n,N,rfl,h1,h2,h3,h4,q]
theorem zcg{n k:Nat}(h1:1<=n)(h2:1<=k):(Builtin.Range.rangeSize 0 ((n * k:Nat):Int) (k:Int)).toNat=n:=by
 have hp:0<n * k:=Nat.mul_pos h1 h2;unfold Builtin.Range.rangeSize;rw[if_pos ⋯,if_pos ⋯];have e:(((n * k:Nat):Int) - 0 - 1)=((n * k - 1:Nat):Int):=⋯
 have e2:(n * k - 1) / k=n - 1:=by
  obtain⟨m,rfl⟩:∃m,n=m+1:=#[n - 1,⋯];rw[dq,du,show m * k+k - 1=(k - 1)+m * k by lia,Nat.add_mul_div_right _ _ ⋯,Nat.div_eq_of_lt ⋯];lia
 rw[e,<- Int.natCast_ediv,e2];lia
theorem QX{c:rX}{l:List Nat}{n N:Nat}{σ:L2.St}{D:rX}{g:TG}{ix:List Nat}{te:TE}(hg:g=yn 0)(hte:te=tSl (zdj K) (yj 1) (YC (yj 0)) (YC (tOp Zt (yj 0) (tCB (Vc K) (zL (yj 2) xR)))))(hi:vt σ 1 ix=[AN,AM (.ref c),AM (.str (tx l))])
  (hc:H c=AM (.lst ((((aH (n * l.length)).map (uD n N)).reverse).map V.int))) (h1:1<=l.length) (h2:l.length<=6) (h3:1<=n) (h4:n<=8) (hD:H D=AN)
  (q:∀(rs:List rX) (H':Hp),Same H H'->TabAt H' D rs (vx n l.length N)->(∀r ∈ D::rs,H r=AN)->Q (.ref D) H'):CompK 0 (l.length:Nat) n g vm te 1 ix σ H Q D:=by
 have s16:=zO;have hmm:=zfk h4 h2;subst hg hte;refine CompK.by (λi AT H'=>∃rs:List rX,AT=rs.map V.ref/\rs.length=i/\Same H H'/\H' D=AM (.lst AT)/\(∀r ∈ rs,H r=AN/\r≠D)/\∀(j:Nat) (r:rX),rs[j]? = AM r->H' r=AM (.lst ((UY n l.length N j).map V.int))) #[[],rfl,rfl,zc hD,ze,λr h=>(nomatch h),λj r h=>by simp at h] ?_ ?_
 ·refine nm3 ?_;rintro i AT H' hin ⟨rs,rfl,hrl,hs,hH,hf,hr⟩:_;have hc':=hs _ _ hc;have ei:(0:Int)+(i:Int) * (l.length:Int)=((i * l.length:Nat):Int):=by rw[Int.zero_add,dJ]
  right;dsimp only;rw[ei];have hil:i * l.length<=48:=aM (cE _ (by lia:i<=n)) hmm
  erw[vm,yn,hi]
  rfl'
  refine#[xN,⋯,_,SqL.of hc',λp hp=>?_];rw[YH _ ⋯ ⋯];have e1:(((i * l.length:Nat):Int)).toNat=i * l.length:=aN _;have e2:(((i * l.length:Nat):Int)+(l.length:Int) - ((i * l.length:Nat):Int)).toNat=l.length:=⋯;rw[e1,e2,zaO hin];have hpD:p≠D:=λe=>by rw[e]at hp;rw[hp]at hH;cases hH
  refine#[zc hp _ _ hH,by rw[ac];lia,CNx.mk hin #[rs ++ [p],by rw[ax];rfl,by rw[ak,hrl];rfl,zI (hs.trans (zc hp)) hD,ze,λr' hr'=>?_,λj r' h1=>?_]]
  ·rcases AW.mp hr' with h' | h'
   ·exact hf r' h'
   ·rw[AY.mp h'];refine#[?_,hpD]
    cases e:H p with
    | none=>rfl
    | some o=>have:=hs _ _ e;rw[hp]at this;cases this
  ·by_cases hj:j<i
   ·rw[br ⋯]at h1;rw[zm (hf r' (aa h1)).2];exact zc hp _ _ (hr j r' h1)
   ·rw[be ⋯]at h1
    have hj0:j=i:=by
     have:=(AU.mp h1).1;simp at this;lia
    subst hj0;rw[hrl,dH]at h1;cases h1;rw[zm hpD];exact ze
 ·rintro AT H' ⟨rs,rfl,hrl,hs,hH,hf,hr⟩
  refine q rs H' hs #[hH,by rw[qK,hrl],λi r x h1 h2=>?_] λr hr'=>by
   rcases AX.mp hr' with rfl | h'
   ·exact hD
   ·exact (hf r h').1
  rw[hr i r h1];unfold vx at h2;rw[am]at h2;obtain⟨z,hz,rfl⟩:=AZ.mp h2;have:=(AU.mp hz).2;simp at this;rw[this]
theorem lA:zk ["letters","rooms","number","cells","cell"] ["letters","rooms","number"] (zh vh):=by nofun
theorem YO(B:Bt mg)(F:Fun K "table_at" "table_at" vh f fd) : zQ P w K mg base CX0 1 f fd ["letters","rooms","number"] vD:=by
 exists F.ok lA
 ·obtain⟨l,n,N,rfl,h1,h2,h3,h4,q⟩:=h
  refine#[_,(zi (kh (i:=3) lA.nd rfl (Or.inr rfl) (wo zd))
   (zi (zN PassesOwn.never rfl (zX rfl B.range (za (zG Zu (pv 1) (zC B.len (pv 0))) zd)) (zu (i:=4) lA.nd rfl (.inl rfl))
    (zB (xh (vP bg bw bx yP (pv 3) (za (zG yZ (pv 2) (pv 1)) zd)))
    (zf (zD 2 lA.nd (zG ww (pv 2) (pv 1))))))
   (zi (xh (zdt bg PySem.F.slot_list_reverse PySem.F.type_list_reverse Vp (pv 3)))
   (zf (zl (xP (own:=["start"]) (caps:=["cells","letters"]) (ix:=[3,0]) (tt:=vm) (te:=(tSl (zdj K) (yj 1) (YC (yj 0)) (YC (tOp Zt (yj 0) (tCB (Vc K) (zL (yj 2) xR)))))) rfl (zS (sc:=zh vh) rfl (by symm) (by symm) (by symm) rfl (by symm) (by symm) rfl) (U1 rfl B.range (za zg (za (zC B.len (pv 3)) (za (zC B.len (pv 0)) zd)))) (λ_ _ _ _ _ _=>zu (i:=0) (show List.Nodup [_,_,_] by decide) rfl (.inl rfl)) (λ_ _ _ _ _ _=>yM) (λ_ _ _ _ _ _=>(yH KW (pv 1) (yx (pv 0)) (yx (zG xg (pv 0) (zC B.len (pv 2)))))))))))),?_]
  have s16:=zO;have hm:=zfk h4 h2;have em:((n:Int) * (l.length:Int))=((n * l.length:Nat):Int):=by rw[dJ]
  refine zj (λσ H'=>∃c,H c=AN/\Same H H'/\H' c=AM (.lst [])/\σ=[AM (.str (tx l)),AM (.int (n:Nat)),AM (.int (N:Nat)),AM (.ref c),AN]) ?_ ?_
  ·rfl'
   exact#[⋯,λc hc=>#[c,hc,zc hc,ze,rfl]]
  rintro σ H1 ⟨c,hcn,s1,hc,rfl⟩:_;right;refine zj (λσ H'=>∃v2 v4,Same H H'/\H' c=AM (.lst (((aH (n * l.length)).map (uD n N)).map V.int))/\σ=[AM (.str (tx l)),AM (.int (n:Nat)),v2,AM (.ref c),v4]) ?_ ?_
  ·rfl'
   refine#[⋯,.inl #[⋯,⋯],?_];rw[em];refine#[⋯,⋯,ForR.by (λi σ H'=>∃v4,Same H H'/\H' c=AM (.lst (((aH i).map (uD n N)).map V.int))/\σ=[AM (.str (tx l)),AM (.int (n:Nat)),AM (.int ((N / n ^ i:Nat):Int)),AM (.ref c),v4]) #[_,s1,hc,by rw[Nat.pow_zero,Nat.div_one]] ?_ ?_]
   ·refine nm3 ?_;rintro i σ H' hi ⟨v4,hs,hc',rfl⟩:_;rw[aN]at hi;right
    rfl'
    refine#[.inl #[_,SqL.of hc'],⋯,_,hc',by erw[ac,cj];lia,#[⋯,⋯],?_];refine#[zI hs hcn,?_,?_]
    ·rw[ze,bR,ax,ax,<- Int.natCast_emod];rfl
    ·rw[<- Int.natCast_ediv,QN]
   ·rintro σ H' ⟨v4,hs,hc',rfl⟩;rw[aN]at hc';exact#[hs,hc',_,_,rfl]
  rintro σ H2 ⟨v2,v4,s2,hc2,rfl⟩:_;right;refine zj (λσ H'=>Same H H'/\H' c=AM (.lst ((((aH (n * l.length)).map (uD n N)).reverse).map V.int))/\σ=[AM (.str (tx l)),AM (.int (n:Nat)),v2,AM (.ref c),v4]) ?_ ?_
  ·rfl'
   erw[XQ]
   rfl'
   refine#[.inl #[_,SqL.of hc2],_,hc2,zI s2 hcn,?_];rw[ze,eL]
  rintro σ H3 ⟨s3,hc3,rfl⟩:_;right
  erw[zar,zdg]
  rfl'
  refine#[_,.inl #[_,SqL.of hc3,rfl],⋯,∅,∅,⋯,by erw[ac,cI,cj];lia,⋯,⋯,λD hD=>?_]
  have en:(Builtin.Range.rangeSize 0 (((List.map V.int ((List.map (uD n N) (aH (n * l.length))).reverse)).length:Nat):Int) (l.length:Nat)).toNat=n:=by
   rw[ac,cI,ac,cj];exact zcg h3 h1
  rw[en]
  exact QX rfl rfl rfl hc3 h1 h2 h3 h4 hD λrs H' s' hT hf=>q D rs H' (s3.trans s') hT λr hr'=>by
   cases e:H r with
   | none=>rfl
   | some o=>have:=s3 _ _ e;rw[hf r hr']at this;cases this
noncomputable def xq(l:List Nat)(tab:List (List Int))(ps:List zv)(u v:List Nat):Bool:=decide (xt l tab 0 u≠xt l tab 0 v) && (xj l tab ps 0).isNone
abbrev zcn(l:List Nat)(u:List Nat):Prop:=∀c ∈ u,c ∈ l
abbrev InP(l:List Nat)(ps:List zv):Prop:=∀p ∈ ps,(∀c ∈ p.1,c ∈ l)/\∀c ∈ p.2,c ∈ l
def Zk(K:rW)(CV:rX):Sp:=λvs H Q _=>∃(o t a:rX) (l:List Nat) (rs:List rX) (tab:List (List Int)) (ps:List zv) (u v:List Nat),vs=[.ref o,.ref a,.str (tx u),.str (tx v)]/\LsA K H a (ps.map dR)/\WorAt CV H o l t rs tab/\yG l tab/\InP l ps/\zcn l u/\zcn l v/\∀H',Same H H'->Q (.bl (xq l tab ps u v)) H'
theorem UA{CV o t a:rX}{l:List Nat}{rs:List rX}{tab:List (List Int)}{u v:List Nat}(h1:LsA K H a (ps.map dR))(h2:WorAt CV H o l t rs tab)(h3:yG l tab)(h4:InP l ps)(h5:zcn l u)(h6:zcn l v)(q:∀H',Same H H'->Q (.bl (xq l tab ps u v)) H'):Zk K CV [.ref o,.ref a,.str (tx u),.str (tx v)] H Q E:=#[o,t,a,l,rs,tab,ps,u,v,rfl,h1,h2,h3,h4,h5,h6,q]
theorem jT:zk ["world","pacts","one","other"] ["world","pacts","one","other"] (zh wg):=by nofun
theorem jV{f CV:rX}(B:Bt mg)(CL:zai K mg CV)(F:Fun K "tells_apart" "tells_apart" wg f fd)(M_world_led:DM P w K mg base CX0 1 CV "led" ["self","room","word"] (qM CV))(M_world_broken:DM P w K mg base CX0 3 CV "broken" ["self","pacts"] (uI K CV)):zQ P w K mg base CX0 4 f fd ["world","pacts","one","other"] (Zk K CV):=by
 exists F.ok jT
 ·obtain⟨o,t,a,l,rs,tab,ps,u,v,rfl,hA,hW,hG,hp,hu,hv,q⟩:=h
  refine#[_,(zB (zK (zy wu (me1 M_world_led CL.cl hr (pv 0) (za zg (za (pv 2) zd))) (me1 M_world_led CL.cl hr (pv 0) (za zg (za (pv 3) zd))) (zA _))
    (zf (zl yE))
    zr)
   (zf (zl (yN op_isN' (me1 M_world_broken CL.cl hr (pv 0) (za (pv 1) zd)) yf (zA _))))),?_]
  have s16:=zO
  rfl'
  obtain⟨dx,ho,hT⟩:=id hW;have hlo:=hG.lo;refine#[_,_,ho,rfl,qo hW hG ⋯ ⋯ hu #[_,_,ho,rfl,qo hW hG ⋯ ⋯ hv ?_]]
  rfl'
  refine yo (λh=>?_) λh=>?_
  ·have e:xq l tab ps u v=AQ:=by
    unfold xq;rw[decide_eq_false (λg=>g h)];rfl
   rw[e]at q;exact q _ (Same.refl _)
  ·have e:xq l tab ps u v=(xj l tab ps 0).isNone:=by
    unfold xq;rw[decide_eq_true h,fv]
   rw[e]at q;refine#[_,_,ho,rfl,o,t,a,l,rs,tab,ps,rfl,hA,hW,hG,hp,λhb H' s'=>?_,λi r hb p H' s' hp'=>?_]
   ·rw[hb]at q;exact q H' s'
   ·rw[hb]at q;exact q H' s'
def Ear(l:List Nat)(ps:List zv)(u v:List Nat)(n N:Nat):Prop:=∀n' N':Nat,1<=n'->N'<n' ^ (n' * l.length)->(n'<n\/n'=n/\N'<N)->xq l (vx n' l.length N') ps u v=AQ
theorem Jb{l:List Nat}{u v:List Nat}:Ear l ps u v 1 0:=λn' N' h1 _ h=>by lia
theorem Jt{l:List Nat}{u v:List Nat}{n N:Nat}(h:Ear l ps u v n N)(hf:xq l (vx n l.length N) ps u v=AQ):Ear l ps u v n (N+1):=λn' N' h1 h2 h3=>by
 rcases h3 with h3 | ⟨rfl,h3⟩
 ·exact h n' N' h1 h2 (.inl h3)
 ·by_cases e:N'=N
  ·rw[e];exact hf
  ·exact h n' N' h1 h2 (.inr #[rfl,⋯])
theorem zbu{l:List Nat}{u v:List Nat}(h:Ear l ps u v n (n ^ (n * l.length))):Ear l ps u v (n+1) 0:=λn' N' h1 h2 h3=>by
 rcases cG n' n with h4 | h4
 ·exact h n' N' h1 h2 (.inl h4)
 ·have e:n'=n:=⋯;subst e;exact h n' N' h1 h2 (.inr #[rfl,h2])
theorem JF{n m k:Nat}(h1:1<=n)(h:n<=m):n ^ (n * k)<=m ^ (m * k):=aM (Nat.pow_le_pow_left h _) (Nat.pow_le_pow_right ⋯ (cE k h))
def X8(K:rW)(CM:rX):Sp:=λvs H Q E=>∃(a:rX) (l:List Nat) (ps:List zv) (u v:List Nat) (m:Nat),vs=[.str (tx l),.ref a,.str (tx u),.str (tx v),.int (m:Nat)]/\qG l=AO/\LsA K H a (ps.map dR)/\InP l ps/\zcn l u/\zcn l v/\m<=8/\(1000<m ^ (m * l.length)->E (.ref CM) AN H) /\
 (m ^ (m * l.length)<=1000->Ear l ps u v (m+1) 0->∀H',Same H H'->Q .non H') /\
 (m ^ (m * l.length)<=1000->∀n N:Nat,1<=n->n<=m->N<n ^ (n * l.length)->xq l (vx n l.length N) ps u v=AO->Ear l ps u v n N->∀(t:rX) (rs:List rX) (H':Hp),Same H H'->TabAt H' t rs (vx n l.length N)->(∀r ∈ t::rs,H r=AN)->Q (.ref t) H')
theorem il:zk ["letters","pacts","one","other","most","rooms","number","table"] ["letters","pacts","one","other","most"] (zh wc):=by nofun
theorem jZ{f CM CV:rX}(B:Bt mg)(TM:Kf K mg CM)(CL:zai K mg CV)(F:Fun K "world_apart" "world_apart" wc f fd)(iK:Df P w K mg base CX0 2 "tables_within" ["letters","rooms"] [] ud)(lB:Df P w K mg base CX0 1 "table_count" ["letters","rooms"] [] qA)(rj:Df P w K mg base CX0 1 "table_at" ["letters","rooms","number"] [] vD)(pD:Df P w K mg base CX0 4 "tells_apart" ["world","pacts","one","other"] [] (Zk K CV))(M_world_init:DMk P w K mg base (CXx P w) 4 CV ["self","letters","table"] (uf CV)):zQ P w K mg base (CXx P w) 6 f fd ["letters","pacts","one","other","most"] (X8 K CM):=by
 exists Fun.okX F il,0
 ·obtain⟨a,l,ps,u,v,m,rfl,hg,hA,hp,hu,hv,m8,q1,q2,q3⟩:=h
  refine#[_,(zi (zK (zW (yC (cl0 iK hr .nil rfl (za (pv 0) (za (pv 4) zd))) (λ_=>rfl)))
    (zf (zY hx rfl TM.xi.toXC TM.ini rfl TM.g (za zU zd)))
    zr)
   (zi (zN PassesOwn.leaving rfl (Z0 rfl B.range (za zg (za (zG xg (pv 4) zg) zd))) (zu (i:=5) il.nd rfl (.inl rfl))
    (zf (zN PassesOwn.leaving rfl (zX rfl B.range (za (cl0 lB hr .nil rfl (za (pv 0) (za (pv 5) zd))) zd)) (zu (i:=6) il.nd rfl (.inl rfl))
     (zi (zD 7 il.nd (cl0 rj hr .nil rfl (za (pv 0) (za (pv 5) (za (pv 6) zd)))))
     (zf (zK (yC (cl0 pD hr .nil rfl (za (zfb hx M_world_init hr rfl CL.g (za (pv 0) (za (pv 7) zd))) (za (pv 1) (za (pv 2) (za (pv 3) zd))))) (λ_=>rfl))
      (zf (zl (pv 7)))
      zr))))))
   (zf (zl yf)))),?_]
  have s16:=zO;obtain⟨l1,l6,_,_⟩:=of_decide_eq_true hg;refine zj (λσ H'=>H'=H/\m ^ (m * l.length)<=1000/\σ=[AM (.str (tx l)),AM (.ref a),AM (.str (tx u)),AM (.str (tx v)),AM (.int (m:Nat)),AN,AN,AN]) ?_ ?_
  ·rfl'
   refine j0 ⋯ m8 #[_,rfl,?_];by_cases hw:m ^ (m * l.length)<=1000
   ·rw[decide_eq_true hw]
    rfl'
    exact hw
   ·rw[decide_eq_false hw]
    rfl'
    exact#[⋯,q1 ⋯]
  rintro σ H1 ⟨rfl,hw,rfl⟩:_;right;refine zj (λσ H'=>Same H1 H'/\Ear l ps u v (m+1) 0/\∃v5 v6 v7,σ=[AM (.str (tx l)),AM (.ref a),AM (.str (tx u)),AM (.str (tx v)),AM (.int (m:Nat)),v5,v6,v7]) ?_ ?_
  ·rfl'
   refine#[⋯,⋯,⋯,⋯,ForR.by (λi σ H'=>Same H1 H'/\Ear l ps u v (i+1) 0/\∃v5 v6 v7,σ=[AM (.str (tx l)),AM (.ref a),AM (.str (tx u)),AM (.str (tx v)),AM (.int (m:Nat)),v5,v6,v7]) #[Same.refl _,Jb,_,_,_,rfl] ?_ ?_]
   ·refine nm3 ?_;rintro i σ H' hi ⟨hs,hE,v5,v6,v7,rfl⟩:_;have him:i+1<=m:=⋯;have e0:(1:Int)+(i:Int)=((i+1:Nat):Int):=⋯;have hpw:=JF (k:=l.length) ⋯ him;right;dsimp only;rw[e0]
    rfl'
    refine Yn ⋯ ⋯ ?_;refine#[_,rfl,⋯,⋯,ForR.by (λj σ H'=>Same H1 H'/\Ear l ps u v (i+1) j/\∃v6 v7,σ=[AM (.str (tx l)),AM (.ref a),AM (.str (tx u)),AM (.str (tx v)),AM (.int (m:Nat)),AM (.int ((i+1:Nat):Int)),v6,v7]) #[hs,hE,_,_,rfl] ?_ ?_]
    ·refine nm3 ?_;rintro j σ H'' hj ⟨hs2,hE2,v6,v7,rfl⟩:_;rw[aN]at hj;have e1:(0:Int)+(j:Int)=(j:Int):=⋯;right;dsimp only;rw[e1]
     erw[yn,aR,aQ]
     refine zj (λσ G=>∃(t:rX) (rs:List rX),Same H1 G/\TabAt G t rs (vx (i+1) l.length j)/\(∀r ∈ t::rs,H1 r=AN)/\σ=[AM (.str (tx l)),AM (.ref a),AM (.str (tx u)),AM (.str (tx v)),AM (.int (m:Nat)),AM (.int ((i+1:Nat):Int)),AM (.int (j:Int)),AM (.ref t)]) ?_ ?_
     ·rfl'
      exact Yv l1 ⋯ ⋯ ⋯ λt rs G sG hT hf=>#[hs2.trans sG,t,rs,hT,(λr hr=>by
       cases e:H1 r with
       | none=>rfl
       | some o=>have:=hs2 _ _ e;rw[hf r hr]at this;cases this),rfl]
     rintro σ G ⟨t,rs,sG,hT,hf,rfl⟩:_;have hG:=kZ (l:=l) j (show 1<=i+1 by lia) ⋯;right
     rfl'
     refine QG hg hT hG λx t' rs' H' s' _ _ hW=>UA ((hA.same sG).same s') hW hG hp hu hv λH'' s''=>#[_,rfl,?_];have sA:=sG.trans (s'.trans s'')
     cases hfit:xq l (vx (i+1) l.length j) ps u v with
     | true =>
      rfl'
      exact q3 hw (i+1) j ⋯ him hj hfit hE2 t rs H'' sA (hT.same (s'.trans s'')) hf
     | false =>
      rfl'
      exact#[sA,Jt hE2 hfit]
    ·rintro σ H'' ⟨hs2,hE2,v6,v7,rfl⟩;rw[aN]at hE2;exact#[hs2,zbu hE2,_,_,_,rfl]
   ·rintro σ H' ⟨hs,hE,v5,v6,v7,rfl⟩;exact#[hs,by rw[show (((m:Nat):Int)+1 - 1).toNat=m by lia]at hE;exact hE,_,_,_,rfl]
  rintro σ H2 ⟨s2,hE,v5,v6,v7,rfl⟩:_;right
  rfl'
  exact q2 hw hE H2 s2
structure TMj(mg:sk->Option rY):Prop where
 u:∃t,mg "MOST_USES_judging" = AM (.int 40 t)
 s:∃t,mg "MOST_STEPS_judging" = AM (.int 2000 t)
def zcy(K:rW):Sp:=λvs H Q _=>∃(a:rX) (k:Nat) (l:List Nat) (ns:List Int) (bs:List Ent) (w:List Nat),vs=[.ref a,.str (tx w)]/\OG l ns k/\EnsL K H a bs/\BG k l ns bs/\w.length<=60 /\
 (∀(i:Nat) (p S:rX) (H':Hp),zE (zb bs) w i->Same H H'->H' p=AM (.tup [.ref S,.str (tx (wAt (zb bs) w i))])->LsA K H' S ((stS (sAt (zb bs) w i)).map dSt)->Q (.ref p) H')/\((∀i,¬ zE (zb bs) w i)->∀H',Same H H'->Q .non H')
theorem jP:zk ["entries","word"] ["entries","word"] (zh xX):=by nofun
theorem jQ{f CF:rX}{iJ:tT}(B:Bt mg)(TFx:zb7 K mg CF)(TSb:ze6 K CF)(TM:TMj mg)(F:Fun K "gone_within" "gone_within" xX f fd)(mP:Df P w K mg base (CXx P w) 4 "gone" ["rules","word","most"] [] (xK K CF))(DD_gone:Df P w K mg base (CXx P w) 4 "gone" ["rules","word","most"] [.int 4000 iJ] (xK K CF))(gk:Df P w K mg base CX0 1 "pairs_of" ["entries"] [] (wn K)):zQ P w K mg base CX0 5 f fd ["entries","word"] (zcy K):=by
 obtain⟨t9,g9⟩:=TM.u
 exists F.ok jP
 ·obtain⟨a,k,l,ns,bs,w,rfl,hG,hA,hB,hw,q1,q2⟩:=h;refine#[_,(zf (X4 (th:=(zar (tC .non))) #[rfl,rfl] (clX mP hr .nil rfl (za (cl0 gk hr .nil rfl (za (pv 0) zd)) (za (pv 1) (za (yk (v:=.int 40) rfl g9 #[t9,rfl]) zd)))) rfl TFx.g TFx.xi.ok (λe=>(zf (zl yf))))),?_];have s16:=zO;have s16:=zO;have hpl:=vY bs;have hbl:=hB.n
  erw[VV]
  ac_rfl;exact xW hA.is ⋯ λD H1 _ s1 hL=>uM hL (hB.ne hG) ⋯ hB.le hw (λi p S H' hi s' hp hS _=>q1 i p S H' hi (s1.trans s') hp (by rw[U8]at hS;exact hS)) λhno H' s'=>#[CF,rfl,TSb.s,λx hx=>q2 hno _ ((s1.trans s').trans (zc hx))]
def GwV(K:rW)(ps:List zv)(w:List Nat)(H:Hp)(v:V):Prop:=(v=.non/\∀i,¬ zE ps w i)\/∃(i:Nat) (p S:rX),v=.ref p/\zE ps w i/\H p=AM (.tup [.ref S,.str (tx (wAt ps w i))])/\LsA K H S ((stS (sAt ps w i)).map dSt)
theorem GwV.same{w:List Nat}{H H':Hp}{v:V}(h:GwV K ps w H v)(s:Same H H'):GwV K ps w H' v:=by
 rcases h with h | ⟨i,p,S,h1,h2,h3,h4⟩
 ·exact .inl h
 ·exact .inr #[i,p,S,h1,h2,s _ _ h3,h4.same s]
noncomputable abbrev kW(bs:List Ent)(u v:List Nat)(i j:Nat):List Stp:=byL bs (stS (sAt (zb bs) u i) ++ yF (stS (sAt (zb bs) v j)))
def NoR(bs:List Ent)(b:Bool)(u v:List Nat):Prop:=(∀i,¬ zE (zb bs) u i)\/(∀j,¬ zE (zb bs) v j)\/∃i j,zE (zb bs) u i/\zE (zb bs) v j/\((wAt (zb bs) u i≠wAt (zb bs) v j/\b=AQ)\/(wAt (zb bs) u i=wAt (zb bs) v j/\2000<(kW bs u v i j).length))
def zag(K:rW):Sp:=λvs H Q _=>∃(a:rX) (k:Nat) (l:List Nat) (ns:List Int) (bs:List Ent) (b:Bool) (u v:List Nat),vs=[.bl b,.ref a,.str (tx u),.str (tx v)]/\OG l ns k/\EnsL K H a bs/\BG k l ns bs/\u.length<=60/\v.length<=60/\(NoR bs b u v->∀H',Same H H'->Q .non H') /\
 (∀(i j:Nat) (p:rX) (H':Hp),b=AO->zE (zb bs) u i->zE (zb bs) v j->wAt (zb bs) u i≠wAt (zb bs) v j->Same H H'->H' p=AM (.tup [.str "forms",.ref a,.str (tx (wAt (zb bs) u i)),.str (tx (wAt (zb bs) v j))])->Q (.ref p) H') /\
 ∀(i j:Nat) (p S:rX) (H':Hp),zE (zb bs) u i->zE (zb bs) v j->wAt (zb bs) u i=wAt (zb bs) v j->Same H H'->H' p=AM (.tup [.str "alike",.ref S])->LsA K H' S ((kW bs u v i j).map dSt)->(kW bs u v i j).length<=2000->Q (.ref p) H'
theorem gw:zk ["whole","kept","one","other","ahead","behind","steps"] ["whole","kept","one","other"] (zh yJ):=by nofun
theorem uc(B:Bt mg)(TM:TMj mg)(F:Fun K "judged_by_roads" "judged_by_roads" yJ f fd)(nh:Df P w K mg base CX0 5 "gone_within" ["entries","word"] [] (zcy K))(ig:Df P w K mg base CX0 2 "by_pacts" ["entries","steps"] [] (UB K))(lZ:Df P w K mg base CX0 1 "back" ["steps"] [] (ux K)):zQ P w K mg base CX0 6 f fd ["whole","kept","one","other"] (zag K):=by
 obtain⟨t9,g9⟩:=TM.s
 exists F.ok gw
 ·obtain⟨a,k,l,ns,bs,b,u,v,rfl,hG,hA,hB,hu,hv,q1,q3,q2⟩:=h
  refine#[_,(zi (zD 4 gw.nd (cl0 nh hr .nil rfl (za (pv 1) (za (pv 2) zd))))
   (zi (zD 5 gw.nd (cl0 nh hr .nil rfl (za (pv 1) (za (pv 3) zd))))
   (zi (zK (PW.pt (uo (zy op_isN' (pv 4) yf (zA _)) (wB (zy op_isN' (pv 5) yf (zA _)))))
    (zf (zl yf))
    zr)
   (zi (zK (zy vJ (zo ix_tup (pv 4) zg) (zo ix_tup (pv 5) zg) (zA _))
    (zf (zl (vj (yC (pv 0) (λ_=>rfl)) (zR (za zU (za (pv 1) (za (zo ix_tup (pv 4) zg) (za (zo ix_tup (pv 5) zg) zd))))) yf)))
    zr)
   (zi (zD 6 gw.nd (cl0 ig hr .nil rfl (za (pv 1) (za (zG XR (zo ix_tup (pv 4) zg) (cl0 lZ hr .nil rfl (za (zo ix_tup (pv 5) zg) zd))) zd))))
   (zf (zl (vj (zy xy (zC B.len (pv 6)) (yk (v:=.int 2000) rfl g9 #[t9,rfl]) (zA _)) (zR (za zU (za (pv 6) zd))) yf)))))))),?_]
  have s16:=zO;have s16:=zO;have hbl:=hB.n;have hpl:=vY bs;have hst:∀e ∈ bs,e.2.2.length<=600:=λe he=>(hB.e e he).s;refine zj (λσ H'=>Same H H'/\∃v4,GwV K (zb bs) u H' v4/\σ=[AM (.bl b),AM (.ref a),AM (.str (tx u)),AM (.str (tx v)),AM (v4),AN,AN]) ?_ ?_
  ·rfl'
   exact#[a,k,l,ns,bs,u,rfl,hG,hA,hB,hu,λi p S H' h1 s' h2 h3=>#[s',.inr #[i,p,S,rfl,h1,h2,h3]],λhno H' s'=>#[s',.inl #[rfl,hno]]]
  rintro σ H1 ⟨s1,v4,hv4,rfl⟩:_;right;refine zj (λσ H'=>Same H1 H'/\∃v5,GwV K (zb bs) v H' v5/\σ=[AM (.bl b),AM (.ref a),AM (.str (tx u)),AM (.str (tx v)),AM (v4),AM (v5),AN]) ?_ ?_
  ·rfl'
   exact#[a,k,l,ns,bs,v,rfl,hG,hA.same s1,hB,hv,λi p S H' h1 s' h2 h3=>#[s',.inr #[i,p,S,rfl,h1,h2,h3]],λhno H' s'=>#[s',.inl #[rfl,hno]]]
  rintro σ H2 ⟨s2,v5,hv5,rfl⟩:_;have s12:=s1.trans s2;have hv4':=hv4.same s2;right;refine zj (λσ H'=>H'=H2/\v4≠.non/\v5≠.non/\σ=[AM (.bl b),AM (.ref a),AM (.str (tx u)),AM (.str (tx v)),AM (v4),AM (v5),AN]) ?_ ?_
  ·rfl'
   refine yo (λh=>?_) λh=>yo (λh'=>?_) λh'=>#[h,h']
   ·rcases hv4' with ⟨_,hno⟩ | ⟨i,p,S,e,_⟩
    ·exact q1 (.inl hno) _ s12
    ·rw[e]at h;cases h
   ·rcases hv5 with ⟨_,hno⟩ | ⟨i,p,S,e,_⟩
    ·exact q1 (.inr (.inl hno)) _ s12
    ·rw[e]at h';cases h'
  rintro σ H3 ⟨rfl,n4,n5,rfl⟩:_;obtain⟨i,p1,S1,rfl,hi,hp1,hS1⟩:=hv4'.resolve_left λz=>n4 z.1;obtain⟨j,p2,S2,rfl,hj,hp2,hS2⟩:=hv5.resolve_left λz=>n5 z.1;right;refine zj (λσ H'=>H'=H3/\wAt (zb bs) u i=wAt (zb bs) v j/\σ=[AM (.bl b),AM (.ref a),AM (.str (tx u)),AM (.str (tx v)),AM (.ref p1),AM (.ref p2),AN]) ?_ ?_
  ·rfl'
   refine#[_,SqT.of hp1,_,rfl,_,SqT.of hp2,_,rfl,rfl,yo (λh=>yo (λhb'=>#[_,SqT.of hp1,_,rfl,_,SqT.of hp2,_,rfl,⋯,λp hp=>q3 i j p _ hb' hi hj (λz=>h (by rw[z])) (s12.trans (zc hp)) ze]) λhb'=>q1 (.inr (.inr #[i,j,hi,hj,.inl #[λz=>h (by rw[z]),by simpa using hb']])) _ s12) λh=>?_];have:=Classical.not_not.mp h;injection this with this;exact uT this
  rintro σ H4 ⟨rfl,he,rfl⟩:_;have him:=hi.most;have hjm:=hj.most;have hl1:(stS (sAt (zb bs) u i)).length=i:=by rw[Zd,qW]
  have hl2:(stS (sAt (zb bs) v j)).length=j:=by rw[Zd,qW]
  right;refine zj (λσ H'=>Same H4 H'/\∃S:rX,LsA K H' S ((kW bs u v i j).map dSt)/\σ=[AM (.bl b),AM (.ref a),AM (.str (tx u)),AM (.str (tx v)),AM (.ref p1),AM (.ref p2),AM (.ref S)]) ?_ ?_
  ·rfl'
   refine#[_,SqT.of hp1,_,rfl,_,SqT.of hp2,_,rfl,qj hS2.is ⋯ λB1 G1 _ t1 hB1=>?_];obtain⟨c1,hc1,ic1⟩:=hS1.same t1;obtain⟨c2,hc2,ic2⟩:=id hB1;have n1:=ic1.len;have n2:=ic2.len;rw[ac]at n1 n2;rw[yO]at n2;refine#[S1,rfl,B1,rfl,c1,hc1,c2,hc2,⋯,λp hp=>?_];have sp:=zc (o:=.lst (c1 ++ c2)) hp;refine Wa (Is.same (s12.trans (t1.trans sp)) _ _ hA.is) (LsA.is #[_,ze,by rw[ax];exact Iss.append (Iss.same sp _ _ ic1) (Iss.same sp _ _ ic2)]) (by rw[ak,yO];lia) hst (λx hx=>?_) λD H' _ s' hL=>#[t1.trans (sp.trans s'),D,hL,rfl];rw[<- hpl];rcases AW.mp hx with h | h
   ·exact Wh hi.live x h
   ·exact UO (Wh hj.live) x h
  rintro σ H5 ⟨s5,S,hS,rfl⟩:_;obtain⟨xs,hX,hI⟩:=id hS;have hxl:=hI.len;rw[ac]at hxl;right
  rfl'
  exact#[_,.inl #[_,SqL.of hX,rfl],yo (λhn=>#[⋯,λp hp=>q2 i j p S _ hi hj he ((s12.trans s5).trans (zc hp)) ze (hS.same (zc hp)) ⋯]) λhn=>q1 (.inr (.inr #[i,j,hi,hj,.inr #[he,⋯]])) _ (s12.trans s5)]
theorem qC{l:List Nat}{tab:List (List Int)}:∀{ps:List zv} {i:Nat},(xj l tab ps i).isNone=AO->∀p ∈ ps,yW l tab p.1 p.2=AN
 | [],_,_,p,hp=>(nomatch hp)
 | q::ps,i,h,p,hp=>by
  cases e:yW l tab q.1 q.2 with
  | none =>
   erw[xj,e]at h
   rcases AX.mp hp with rfl | hp
   ·exact e
   ·exact qC h p hp
  | some r =>
   erw[xj,e]at h
   cases h
theorem Jv{l:List Nat}{tab:List (List Int)}{u v:List Nat}(h:yW l tab u v=AN){r:Int}(h0:0<=r)(h1:r<(tab.length:Int)):xt l tab r u=xt l tab r v:=by
 unfold yW at h;rw[dZ]at h;have:=h r.toNat (Ba.mpr ⋯);rw[show ((r.toNat:Nat):Int)=r by lia]at this;simpa using this
theorem UE{l:List Nat}{tab:List (List Int)}(hG:yG l tab){r:Int}{c:Nat}:0<=qf l tab r c/\qf l tab r c<(tab.length:Int):=by
 have hlo:=hG.lo;unfold qf;rw[ah (l:=tab)]
 cases e:tab[r.toNat]? with
 | none=>simp;lia
 | some x =>
  rw[cH,ah]
  cases e2:x[l.idxOf c]? with
  | none=>simp;lia
  | some n=>exact hG.rm x (aa e) n (aa e2)
theorem VN{l:List Nat}{tab:List (List Int)}(hG:yG l tab):∀{w:List Nat} {r:Int},0<=r->r<(tab.length:Int)->0<=xt l tab r w/\xt l tab r w<(tab.length:Int)
 | [],r,h0,h1=>#[h0,h1]
 | c::w,r,h0,h1=>VN hG (w:=w) (UE hG).1 (UE hG).2
theorem ZL(l:List Nat)(tab:List (List Int))(r:Int)(u v:List Nat):xt l tab r (u ++ v)=xt l tab (xt l tab r u) v:=List.foldl_append
theorem W0{l:List Nat}{tab:List (List Int)}(hG:yG l tab):JE λu v=>∀r:Int,0<=r->r<(tab.length:Int)->xt l tab r u=xt l tab r v :=
 #[λ_ _ _ _=>rfl,λh r a b=>(h r a b).symm,λh g r a b=>(h r a b).trans (g r a b),λ{u v} a b h r h0 h1=>by
  rw[ZL,ZL,ZL,ZL,h _ (VN hG h0 h1).1 (VN hG h0 h1).2]]
theorem Kr{l:List Nat}{tab:List (List Int)}(hG:yG l tab){u v:List Nat}(h:EqR rs u v):xq l tab rs u v=AQ:=by
 cases e:xq l tab rs u v with
 | false=>rfl
 | true =>
  unfold xq at e;rw[bE]at e;have hlo:=hG.lo;have:=zcc (W0 hG) (λp hp r h0 h1=>Jv (qC e.2 p hp) h0 h1) h 0 ⋯ ⋯;exact absurd this (of_decide_eq_true e.1)
theorem QY(hE:∀e ∈ bs,EOk rs e){u v:List Nat}{i j:Nat}(hi:zE (zb bs) u i)(hj:zE (zb bs) v j)(he:wAt (zb bs) u i=wAt (zb bs) v j):yv rs u (kW bs u v i j)=AM v:=by
 refine qX hE ?_;rw[vg,ur hi.live,he];exact wS (ur hj.live)
theorem zdL{l:List Nat}(h:∀p ∈ rs,p.1.length<=60/\p.2.length<=60/\(∀c ∈ p.1,c ∈ l)/\∀c ∈ p.2,c ∈ l):∀e ∈ fEs rs rs.length,EB l e:=λe he=>by
 obtain⟨i,p,hi,hp,rfl⟩:=Zg he;obtain⟨g1,g2,g3,g4⟩:=h p (aa hp);exact#[g1,g2,by show ([((i:Int),(0:Int),AO)]:List Stp).length<=600;simp,g3,g4]
def zaq(K:rW):Sp:=λvs H Q _=>∃(a:rX) (l:List Nat) (ps:List zv) (u v:List Nat) (m:Nat),vs=[.str (tx l),.ref a,.str (tx u),.str (tx v),.int (m:Nat)]/\qG l=AO/\LsA K H a (ps.map dR)/\InP l ps/\(∀c ∈ u,c ∈ l)/\(∀c ∈ v,c ∈ l)/\m<=8/\m ^ (m * l.length)<=1000/\(Ear l ps u v (m+1) 0->∀(p:rX) (H':Hp),Same H H'->H' p=AM (.tup [.str "open"])->Q (.ref p) H') /\
 ∀(n N:Nat) (p t:rX) (rs:List rX) (H':Hp),1<=n->n<=m->N<n ^ (n * l.length)->xq l (vx n l.length N) ps u v=AO->Ear l ps u v n N->Same H H'->H' p=AM (.tup [.str "world",.ref t])->TabAt H' t rs (vx n l.length N)->Q (.ref p) H'
def JwV(l:List Nat)(ps:List zv)(u v:List Nat)(m:Nat)(H:Hp)(x:V):Prop:=(x=.non/\Ear l ps u v (m+1) 0)\/∃(n N:Nat) (t:rX) (rs:List rX),x=.ref t/\1<=n/\n<=m/\N<n ^ (n * l.length)/\xq l (vx n l.length N) ps u v=AO/\Ear l ps u v n N/\TabAt H t rs (vx n l.length N)
theorem lb:zk ["letters","pacts","one","other","most","table"] ["letters","pacts","one","other","most"] (zh yD):=by nofun
theorem vM{f CM:rX}(B:Bt mg)(F:Fun K "judged_by_worlds" "judged_by_worlds" yD f fd)(pE:Df P w K mg base (CXx P w) 6 "world_apart" ["letters","pacts","one","other","most"] [] (X8 K CM)):zQ P w K mg base CX0 7 f fd ["letters","pacts","one","other","most"] (zaq K):=by
 exists F.ok lb
 ·obtain⟨a,l,ps,u,v,m,rfl,hg,hA,hp,hu,hv,m8,hm,q1,q2⟩:=h
  refine#[_,(zi (zD 5 lb.nd (clP xe0 pE hr .nil rfl (za (pv 0) (za (pv 1) (za (pv 2) (za (pv 3) (za (pv 4) zd)))))))
   (zf (zl (vj (zy op_isN' (pv 5) yf (zA _)) (zR (za zU zd)) (zR (za zU (za (pv 5) zd))))))),?_]
  have s16:=zO;have s16:=zO;refine zj (λσ H'=>Same H H'/\∃x,JwV l ps u v m H' x/\σ=[AM (.str (tx l)),AM (.ref a),AM (.str (tx u)),AM (.str (tx v)),AM (.int (m:Nat)),AM (x)]) ?_ ?_
  ·rfl'
   exact#[a,l,ps,u,v,m,rfl,hg,hA,hp,hu,hv,m8,λh=>by lia,λ_ h H' s'=>#[s',.inl #[rfl,h]],λ_ n N h1 h2 h3 h4 h5 t rs H' s' h6 _=>#[s',.inr #[n,N,t,rs,rfl,h1,h2,h3,h4,h5,h6]]]
  rintro σ H1 ⟨s1,x,hx,rfl⟩:_;right;rcases hx with ⟨rfl,hE⟩ | ⟨n,N,t,rs,rfl,h1,h2,h3,h4,h5,h6⟩
  ·rfl'
   exact#[⋯,λp hp=>q1 hE p _ (s1.trans (zc hp)) ze]
  ·rfl'
   exact#[⋯,λp hp=>q2 n N p t rs _ h1 h2 h3 h4 h5 (s1.trans (zc hp)) ze (h6.same (zc hp))]
inductive JOut(K:rW)(H:Hp)(k:Nat)(l:List Nat)(ns:List Int)(rs:List zv)(u v:List Nat)(r m:Nat)(p:rX):Prop where
 | alike (w:Bool) (es:List Ent) (i j:Nat) (S:rX) (hc:Cpl k l ns (r+1) [] (fEs rs rs.length) w es) (hb:BG k l ns es) (hi:zE (zb es) u i) (hj:zE (zb es) v j) (he:wAt (zb es) u i=wAt (zb es) v j) (hl:(kW es u v i j).length<=2000) (hp:H p=AM (.tup [.str "alike",.ref S])) (hS:LsA K H S ((kW es u v i j).map dSt))
 | forms (es:List Ent) (i j:Nat) (D:rX) (hc:Cpl k l ns (r+1) [] (fEs rs rs.length) AO es) (hb:BG k l ns es) (hi:zE (zb es) u i) (hj:zE (zb es) v j) (hn:wAt (zb es) u i≠wAt (zb es) v j) (hp:H p=AM (.tup [.str "forms",.ref D,.str (tx (wAt (zb es) u i)),.str (tx (wAt (zb es) v j))])) (hD:EnsM K H D es)
 | world (w:Bool) (es:List Ent) (n N:Nat) (t:rX) (ts:List rX) (hc:Cpl k l ns (r+1) [] (fEs rs rs.length) w es) (hb:BG k l ns es) (hno:NoR es w u v) (h1:1<=n) (h2:n<=m) (h3:N<n ^ (n * l.length)) (h4:xq l (vx n l.length N) rs u v=AO) (h5:Ear l rs u v n N) (hp:H p=AM (.tup [.str "world",.ref t])) (ht:TabAt H t ts (vx n l.length N))
 | open_ (w:Bool) (es:List Ent) (hc:Cpl k l ns (r+1) [] (fEs rs rs.length) w es) (hb:BG k l ns es) (hno:NoR es w u v) (h5:Ear l rs u v (m+1) 0) (hp:H p=AM (.tup [.str "open"]))
def zcW(K:rW)(CO CR CW TB:rX):Sp:=λvs H Q _=>∃(o a:rX) (k:Nat) (l:List Nat) (ns:List Int) (rs:List zv) (u v:List Nat) (r m:Nat),vs=[.ref o,.ref a,.str (tx u),.str (tx v),.int (r:Nat),.int (m:Nat)]/\OrdAt CO CR CW H o k l ns/\OG l ns k/\LsA K H a (rs.map dR)/\rs.length<=20/\(∀p ∈ rs,p.1.length<=60/\p.2.length<=60/\(∀c ∈ p.1,c ∈ l)/\∀c ∈ p.2,c ∈ l)/\u.length<=60/\v.length<=60/\(∀c ∈ u,c ∈ l)/\(∀c ∈ v,c ∈ l)/\r<=1000/\m<=8/\m ^ (m * l.length)<=1000/\TabOk H TB lp lq /\
 ∀(p:rX) (H':Hp),SamT TB H H'->TabOk H' TB lp lq->JOut K H' k l ns rs u v r m p->Q (.ref p) H'
def JrV(K:rW)(H:Hp)(es:List Ent)(w:Bool)(u v:List Nat)(D:rX)(x:V):Prop:=(x=.non/\NoR es w u v)\/∃p:rX,x=.ref p/\((∃i j,w=AO/\zE (zb es) u i/\zE (zb es) v j/\wAt (zb es) u i≠wAt (zb es) v j/\H p=AM (.tup [.str "forms",.ref D,.str (tx (wAt (zb es) u i)),.str (tx (wAt (zb es) v j))]))\/∃i j S,zE (zb es) u i/\zE (zb es) v j/\wAt (zb es) u i=wAt (zb es) v j/\(kW es u v i j).length<=2000/\H p=AM (.tup [.str "alike",.ref S])/\LsA K H S ((kW es u v i j).map dSt))
theorem nA:zk ["order","pacts","one","other","rounds","most","outcome","answer"] ["order","pacts","one","other","rounds","most"] (zh kJ):=by nofun
theorem Qe{f CO CR CW TB CM:rX}(B:Bt mg)(TO:TOrd K mg CO CR CW)(TM:Kf K mg CM)(F:Fun K "judged" "judged" kJ f fd)(rb:Df P w K mg base CX0 10 "completed" ["order","pacts","rounds"] [] (zau K CO CR CW TB))(nW:Df P w K mg base CX0 6 "judged_by_roads" ["whole","kept","one","other"] [] (zag K))(iK:Df P w K mg base CX0 2 "tables_within" ["letters","rooms"] [] ud)(nB:Df P w K mg base CX0 7 "judged_by_worlds" ["letters","pacts","one","other","most"] [] (zaq K)):zQ P w K mg base (CXx P w) 11 f fd ["order","pacts","one","other","rounds","most"] (zcW K CO CR CW TB):=by
 exists Fun.okX F nA,0
 ·obtain⟨o,a,k,l,ns,rs,u,v,r,m,rfl,ho,hG,hA,hrl,hrs,hul,hvl,hu,hv,hr',hm8,hm,hTab,q⟩:=h
  refine#[_,(zi (zK (zW (yC (cl0 iK hr .nil rfl (za (ui (pv 0) rfl) (za (pv 5) zd))) (λ_=>rfl)))
    (zf (zY hx rfl TM.xi.toXC TM.ini rfl TM.g (za zU zd)))
    zr)
   (zi (zD 6 nA.nd (cl0 rb hr .nil rfl (za (pv 0) (za (pv 1) (za (pv 4) zd)))))
   (zi (zD 7 nA.nd (cl0 nW hr .nil rfl (za (zo ix_tup (pv 6) zg) (za (zo ix_tup (pv 6) zg) (za (pv 2) (za (pv 3) zd))))))
   (zi (zK (zy op_isN' (pv 7) yf (zA _))
    (zf (zl (cl0 nB hr .nil rfl (za (ui (pv 0) rfl) (za (pv 1) (za (pv 2) (za (pv 3) (za (pv 5) zd))))))))
    zr)
   (zf (zl (pv 7))))))),?_]
  have s16:=zO;have s16:=zO;obtain⟨l1,l6,lsm,lnd⟩:=of_decide_eq_true hG.g;obtain⟨C,dy,fs,hf,ho1,_,hlk⟩:=ho.fam
  have hC:Cls K C/\NoAttr K C "letters":=by
   rcases hf with rfl | rfl | rfl
   ·exact#[TO.cO,TO.lO]
   ·exact#[TO.cR,TO.lR]
   ·exact#[TO.cW,TO.lW]
  refine zj (λσ H'=>H'=H/\σ=[AM (.ref o),AM (.ref a),AM (.str (tx u)),AM (.str (tx v)),AM (.int (r:Nat)),AM (.int (m:Nat)),AN,AN]) ?_ ?_
  ·rfl'
   refine#[_,_,_,ho1,hC.1,hC.2,_,hlk,j0 l6 hm8 ?_];rw[decide_eq_true hm];exact#[AO,rfl,Zy rfl]
  rintro σ H1 ⟨rfl,rfl⟩:_;right;refine zj (λσ H'=>SamT TB H1 H'/\TabOk H' TB lp lq/\∃(w:Bool) (es:List Ent) (p D:rX),Cpl k l ns (r+1) [] (fEs rs rs.length) w es/\BG k l ns es/\H' p=AM (.tup [.bl w,.ref D])/\EnsM K H' D es/\σ=[AM (.ref o),AM (.ref a),AM (.str (tx u)),AM (.str (tx v)),AM (.int (r:Nat)),AM (.int (m:Nat)),AM (.ref p),AN]) ?_ ?_
  ·rfl'
   exact#[o,a,k,l,ns,rs,r,rfl,ho,hG,hA,hrl,λp hp=>#[by have:=hrs p hp;lia,by have:=hrs p hp;lia,(hrs p hp).2.2],λp hp=>#[(hrs p hp).1,(hrs p hp).2.1],hr',hTab,λw es p D H' h1 h2 h3 h3' h4 h5=>#[h3,h3',w,es,h1,h2,p,D,h4,h5,rfl]]
  rintro σ H2 ⟨s2,hT2,w,es,p,D,hCp,hB,hp,hD,rfl⟩:_;obtain⟨tbl,htb,_⟩:=id hTab;right;refine zj (λσ H'=>Same H2 H'/\∃v7,JrV K H' es w u v D v7/\σ=[AM (.ref o),AM (.ref a),AM (.str (tx u)),AM (.str (tx v)),AM (.int (r:Nat)),AM (.int (m:Nat)),AM (.ref p),AM (v7)]) ?_ ?_
  ·rfl'
   exact#[_,SqT.of hp,_,rfl,_,SqT.of hp,_,rfl,D,k,l,ns,es,w,u,v,rfl,hG,hD.l,hB,hul,hvl,λhno H' s'=>#[s',.inl #[rfl,hno]],λi j p H' hw hi hj hn s' h1=>#[s',.inr #[p,rfl,.inl #[i,j,hw,hi,hj,hn,h1]]],λi j p S H' hi hj hij s' h1 h2 h3=>#[s',.inr #[p,rfl,.inr #[i,j,S,hi,hj,hij,h3,h1,h2]]]]
  rintro σ H3 ⟨s3,v7,hv7,rfl⟩:_;have sT:=s2.trans (SamT.of s3);have hT3:=hT2.same s3;have hA3:=hA.samT sT htb;right;rcases hv7 with ⟨rfl,hno⟩ | ⟨p',rfl,hv7⟩
  ·refine ZW (λ_ _=>False) ?_ λ_ _ h=>h.elim
   rfl'
   exact#[_,_,_,sT.at htb ho1 (λ_ z=>by cases z),hC.1,hC.2,_,hlk,a,l,rs,u,v,m,rfl,hG.g,hA3,λp hp=>(hrs p hp).2.2,hu,hv,hm8,hm,λhE p H' s' h=>q p H' (sT.trans (SamT.of s')) (hT3.same s') (.open_ w es hCp hB hno hE h),λn N p t ts H' h1 h2 h3 h4 h5 s' h6 h7=>q p H' (sT.trans (SamT.of s')) (hT3.same s') (.world w es n N t ts hCp hB hno h1 h2 h3 h4 h5 h6 h7)]
  ·refine zj (λσ H'=>H'=H3/\σ=[AM (.ref o),AM (.ref a),AM (.str (tx u)),AM (.str (tx v)),AM (.int (r:Nat)),AM (.int (m:Nat)),AM (.ref p),AM (.ref p')]) ?_ ?_
   ·rfl'
   rintro σ H4 ⟨rfl,rfl⟩:_;right
   rfl'
   refine q p' _ sT hT3 ?_;rcases hv7 with ⟨i,j,rfl,hi,hj,hn,h1⟩ | ⟨i,j,S,hi,hj,he,hl,h1,h2⟩
   ·exact .forms es i j D hCp hB hi hj hn h1 (hD.same s3)
   ·exact .alike w es i j S hCp hB hi hj he hl h1 h2
structure KXs(K:rW):Prop where
 ss:aL K (.type "str") (.type "str")=AM AO
def QI(K:rW):Sp:=λvs H Q _=>∃(a:rX) (es:List Ent),vs=[.ref a]/\Is K H (.lst (es.map dE)) (.ref a)/\Q (.bl AO) H
theorem oQ:zk ["_law_found","_law_entry"] ["_law_found"] (zh qR):=by nofun
theorem Vd(B:Bt mg)(T:TLs K)(TX:KXs K)(F:Fun K "_law_entries" "_law_entries" qR f fd)(pi:Df P w K mg base CX0 2 "_law_steps" ["_law_found"] [] (ZO K)):zQ P w K mg base CX0 3 f fd ["_law_found"] (QI K):=by
 exists F.ok oQ
 ·obtain⟨a,es,rfl,hA,q⟩:=h
  refine#[_,(zi (zK (zW (yC (yu rfl B.isi (pv 0) rfl B.list PySem.Pv.boot_list) (λ_=>rfl)))
    (zf (zl yE))
    zr)
   (zi (zN PassesOwn.never rfl (yd (pv 0)) (zu (i:=1) oQ.nd rfl (.inl rfl))
    (zi (zK (PW.pt (uo (zW (yC (yu rfl B.isi (pv 1) rfl B.tuple PySem.Pv.boot_tuple) (λ_=>rfl))) (uo (zy vJ (zC B.len (pv 1)) zg (zA _)) (wB (zW (yC (cl0 pi hr .nil rfl (za (zo ix_tup (pv 1) zg) zd)) (λ_=>rfl)))))))
     (zf (zl yE))
     zr)
    (zf (zK (PW.pt (uo (zW (yC (yu rfl B.isi (zo ix_tup (pv 1) zg) rfl B.str PySem.Pv.boot_str) (λ_=>rfl))) (wB (zW (yC (yu rfl B.isi (zo ix_tup (pv 1) zg) rfl B.str PySem.Pv.boot_str) (λ_=>rfl))))))
     (zf (zl yE))
     zr))))
   (zf (zl yE)))),?_]
  have s16:=zO
  erw[Is]at hA
  obtain⟨_,xs,e,hX,hI⟩:=hA;cases e;refine zj (λσ H'=>H'=H/\σ=[AM (.ref a),AN]) ?_ ?_
  ·rfl'
   exact#[_,.inr (.inr (.inl #[_,_,rfl,rfl,hX])),AO,T.ll,Zy trivial]
  rintro σ H1 ⟨rfl,rfl⟩:_;right;refine zj (λσ H'=>H'=H1/\∃v1,σ=[AM (.ref a),v1]) ?_ ?_
  ·rfl'
   refine#[#[_,hX],ForL.by (xs:=xs) (λi σ H'=>H'=H1/\∃v1,σ=[AM (.ref a),v1]) #[rfl,_,rfl] (λi σ H' _ h=>by rw[h.1];exact hX) ?_ λσ H' h=>h];refine nm4 ?_;rintro i x σ H' hx ⟨rfl,v1,rfl⟩:_;obtain⟨e,pe,se,hei,rfl,hqe,hse⟩:=WK hI hx;right
   erw[yn,aR,aQ]
   refine zj (λσ H''=>H''=H'/\σ=[AM (.ref a),AM (.ref pe)]) ?_ ?_
   ·rfl'
    exact#[_,.inr (.inr (.inr #[_,_,rfl,rfl,hqe])),AO,T.tt,Zy #[_,.inr #[_,hqe,rfl],yo (λh=>absurd rfl h) λ_=>#[_,hqe,_,rfl,se,e.2.2,rfl,hse,AO,rfl,Zy rfl]]]
   rintro σ G ⟨rfl,rfl⟩:_;right
   rfl'
   exact#[_,hqe,_,rfl,_,.inl (.str _),AO,TX.ss,Zy #[_,hqe,_,rfl,_,.inl (.str _),AO,TX.ss,Zy trivial]]
  rintro σ H2 ⟨rfl,v1,rfl⟩:_;right
  rfl'
  exact q
def Uk(K:rW):Sp:=λvs H Q _=>∃(t:rX) (rs:List rX) (tab:List (List Int)) (l:List Nat),vs=[.ref t,.int (l.length:Nat)]/\TabAt H t rs tab/\yG l tab/\l.length<=6/\∀H',Same H H'->Q (.bl AO) H'
theorem zba{t:rX}{rs:List rX}{tab:List (List Int)}{l:List Nat}(h1:TabAt H t rs tab)(h2:yG l tab)(h3:l.length<=6)(q:∀H',Same H H'->Q (.bl AO) H'):Uk K [.ref t,.int (l.length:Nat)] H Q E:=#[t,rs,tab,l,rfl,h1,h2,h3,q]
theorem oj:zk ["_law_table","_law_many","_law_row"] ["_law_table","_law_many"] (zh wZ):=by nofun
theorem Y4(B:Bt mg)(T:TLs K)(F:Fun K "_law_table_ok" "_law_table_ok" wZ f fd)(nR:Df P w K mg base CX0 1 "_law_whole" ["_law_found"] [] vT):zQ P w K mg base CX0 2 f fd ["_law_table","_law_many"] (Uk K):=by
 exists F.ok oj
 ·obtain⟨t,rs,tab,l,rfl,hT,hG,l6,q⟩:=h
  refine#[_,(zi (zK (PW.pt (uo (zW (yC (yu rfl B.isi (pv 0) rfl B.list PySem.Pv.boot_list) (λ_=>rfl))) (wB (zy JS (zC B.len (pv 0)) zg (zA _)))))
    (zf (zl yE))
    zr)
   (zi (zN PassesOwn.never rfl (yd (pv 0)) (zu (i:=2) oj.nd rfl (.inl rfl))
    (zi (zK (PW.pt (uo (zW (yC (yu rfl B.isi (pv 2) rfl B.list PySem.Pv.boot_list) (λ_=>rfl))) (wB (zy vJ (zC B.len (pv 2)) (pv 1) (zA _)))))
     (zf (zl yE))
     zr)
    (zf (zK (zW (yC (xx (zfe rfl) rfl B.all PyProof.Rows.boot_all (za (xP (own:=["_law_room"]) (caps:=["_law_table"]) (ix:=[0]) (tt:=vm) (te:=(VH (qb vT [] E0 (zL (yj 0) xR)) (kq zeb zd9 (tC (.int 0)) (yj 0) (tCB (Vc K) (zL (yj 1) xR))))) rfl (zS (sc:=zh wZ) rfl (by symm) (by symm) (by symm) rfl (by symm) (by symm) rfl) (yd (pv 2)) (λ_ _ _ _ _ _=>zu (i:=0) (show List.Nodup [_,_] by decide) rfl (.inl rfl)) (λ_ _ _ _ _ _=>yM) (λ_ _ _ _ _ _=>(YA (cl0 nR hr .nil rfl (za (pv 0) zd)) (Z1 (Wl xy WV zg (pv 0) (zC B.len (pv 1))))))) zd)) (λ_=>rfl)))
     (zf (zl yE))
     zr))))
   (zf (zl yE)))),?_]
  have s16:=zO;have s16:=zO;have hlo:=hG.lo;have hhi:=hG.hi;have hln:=hT.len;refine zj (λσ H'=>H'=H/\σ=[AM (.ref t),AM (.int (l.length:Nat)),AN]) ?_ ?_
  ·rfl'
   exact#[_,.inr (.inr (.inl #[_,_,rfl,rfl,SqL.of hT.top])),AO,T.ll,Zy #[_,.inl #[_,SqL.of hT.top,rfl],yo (λh=>by rw[ac]at h;lia) λ_=>trivial]]
  rintro σ H1 ⟨rfl,rfl⟩:_;right;refine zj (λσ H'=>Same H1 H'/\∃v2,σ=[AM (.ref t),AM (.int (l.length:Nat)),v2]) ?_ ?_
  ·rfl'
   refine#[#[_,SqL.of hT.top],ForL.by (xs:=rs.map V.ref) (λi σ H'=>Same H1 H'/\∃v2,σ=[AM (.ref t),AM (.int (l.length:Nat)),v2]) #[Same.refl _,_,rfl] (λi σ H' _ h=>SqL.of (h.1 _ _ hT.top)) ?_ λσ H' h=>h];refine nm4 ?_;rintro i x σ H' hx ⟨hs,v2,rfl⟩:_;rw[am]at hx;obtain⟨r,hr,rfl⟩:=AZ.mp hx;have hil:=(AU.mp hr).1;have hy:tab[i]? = AM (tab[i]'⋯):=ag ⋯;right;generalize tab[i]'⋯=y at hy;have hym:=aa hy;have hR:=hs _ _ (hT.row i r y hr hy)
   erw[yn,aR,aQ]
   refine zj (λσ G=>G=H'/\σ=[AM (.ref t),AM (.int (l.length:Nat)),AM (.ref r)]) ?_ ?_
   ·rfl'
    exact#[_,.inr (.inr (.inl #[_,_,rfl,rfl,SqL.of hR])),AO,T.ll,Zy #[_,.inl #[_,SqL.of hR,rfl],yo (λh=>absurd (by rw[ac,hG.wd y hym]) h) λ_=>trivial]]
   rintro σ H2 ⟨rfl,rfl⟩:_;right
   rfl'
   refine#[#[_,SqL.of hR],λD hD=>CompL.by (xs:=y.map V.int) (λi AT G=>Same H2 G/\G D=AM (.lst AT)/\AT=aU i (V.bl AO)) #[zc hD,ze,rfl] (λi AT G _ h=>SqL.of (h.1 _ _ hR)) ?_ ?_]
   ·refine nm4 ?_;rintro n x AT G hx ⟨hs2,hH,rfl⟩:_;rw[am]at hx;obtain⟨z,hz,rfl⟩:=AZ.mp hx;have hzl:=(AU.mp hz).1;have hzb:=hG.rm y hym z (aa hz);have hyl:=hG.wd y hym;right
    erw[vm]
    rfl'
    have ht2:=hs2 _ _ (hs _ _ hT.top);refine#[xN,jm #[AO,rfl,zeX (yo (λ_=>#[_,.inl #[_,SqL.of ht2,rfl],hH,by rw[bV];lia,CNx.mk (by rw[ac];exact hzl) #[zI hs2 hD,ze,?_]]) λh=>absurd hzb.1 h)]];rw[ac,decide_eq_true ⋯,List.replicate_succ']
   ·rintro AT G ⟨hs2,hH,rfl⟩;refine#[D,aU y.length AO,rfl,?_,?_]
    ·rw[List.map_replicate,ac]at *;exact SqL.of hH
    ·have e:(aU y.length AO).all id=AO:=by simp
     rw[e];exact#[AO,rfl,Zy (hs.trans hs2)]
  rintro σ H2 ⟨s2,v2,rfl⟩:_;right
  rfl'
  exact q _ s2
structure TAn(K:rW):Prop where
 tt:aL K (.type "tuple") (.type "tuple")=AM AO
 ss:aL K (.type "str") (.type "str")=AM AO
inductive zfq(K:rW)(H:Hp)(l:List Nat)(p:rX):Prop where
 | open_ (h:H p=AM (.tup [.str "open"]))
 | alike (S:rX) (ss:List Stp) (h:H p=AM (.tup [.str "alike",.ref S])) (hS:LsA K H S (ss.map dSt))
 | forms (D:rX) (es:List Ent) (f g:List Nat) (h:H p=AM (.tup [.str "forms",.ref D,.str (tx f),.str (tx g)])) (hD:EnsM K H D es)
 | world (t:rX) (ts:List rX) (tab:List (List Int)) (h:H p=AM (.tup [.str "world",.ref t])) (ht:TabAt H t ts tab) (hG:yG l tab)
theorem JOut.ans{l:List Nat}{u v:List Nat}{r m:Nat}{p:rX}(h:JOut K H k l ns rs u v r m p)(hm:m<=8):zfq K H l p:=by
 cases h with
 | alike w es i j S hc hb hi hj he hl hp hS=>exact .alike S _ hp hS
 | forms es i j D hc hb hi hj hn hp hD=>exact .forms D es _ _ hp hD
 | world w es n N t ts hc hb hno h1 h2 h3 h4 h5 hp ht=>exact .world t ts _ hp ht (kZ N h1 ⋯)
 | open_ w es hc hb hno h5 hp=>exact .open_ hp
def V1(K:rW):Sp:=λvs H Q _=>∃(p:rX) (l:List Nat),vs=[.ref p,.int (l.length:Nat)]/\l.length<=6/\zfq K H l p/\∀H',Same H H'->Q (.bl AO) H'
theorem Ur:zk ["_law_found","_law_many"] ["_law_found","_law_many"] (zh kE):=by nofun
theorem QL(B:Bt mg)(T:TAn K)(F:Fun K "_law_answer" "_law_answer" kE f fd)(pi:Df P w K mg base CX0 2 "_law_steps" ["_law_found"] [] (ZO K))(rn:Df P w K mg base CX0 2 "_law_table_ok" ["_law_table","_law_many"] [] (Uk K))(rq:Df P w K mg base CX0 3 "_law_entries" ["_law_found"] [] (QI K)):zQ P w K mg base CX0 4 f fd ["_law_found","_law_many"] (V1 K):=by
 exists F.ok Ur
 ·obtain⟨p,l,rfl,l6,hA,q⟩:=h
  refine#[_,(zi (zK (PW.pt (uo (zW (yC (yu rfl B.isi (pv 0) rfl B.tuple PySem.Pv.boot_tuple) (λ_=>rfl))) (uo (zy WV (zC B.len (pv 0)) zg (zA _)) (wB (zW (yC (yu rfl B.isi (zo ix_tup (pv 0) zg) rfl B.str PySem.Pv.boot_str) (λ_=>rfl)))))))
    (zf (zl yE))
    zr)
   (zi (zK (zy wu (zo ix_tup (pv 0) zg) zU (zA _))
    (zf (zl (YA (yN wu (zC B.len (pv 0)) zg (zA _)) (Z1 (cl0 pi hr .nil rfl (za (zo ix_tup (pv 0) zg) zd))))))
    zr)
   (zi (zK (zy wu (zo ix_tup (pv 0) zg) zU (zA _))
    (zi (zK (PW.pt (uo (zy vJ (zC B.len (pv 0)) zg (zA _)) (wB (zW (yC (cl0 rq hr .nil rfl (za (zo ix_tup (pv 0) zg) zd)) (λ_=>rfl))))))
     (zf (zl yE))
     zr)
    (zf (zl (YA (yu rfl B.isi (zo ix_tup (pv 0) zg) rfl B.str PySem.Pv.boot_str) (Z1 (yu rfl B.isi (zo ix_tup (pv 0) zg) rfl B.str PySem.Pv.boot_str))))))
    zr)
   (zi (zK (zy wu (zo ix_tup (pv 0) zg) zU (zA _))
    (zf (zl (YA (yN wu (zC B.len (pv 0)) zg (zA _)) (Z1 (cl0 rn hr .nil rfl (za (zo ix_tup (pv 0) zg) (za (pv 1) zd)))))))
    zr)
   (zf (zl (yN (KQ (kO hr)) (pv 0) (zR (za zU zd)) (zA _)))))))),?_]
  have s16:=zO;have s16:=zO;refine zj (λσ H'=>H'=H/\σ=[AM (.ref p),AM (.int (l.length:Nat))]) ?_ ?_
  ·rfl'
   have key:∀(a:sk) (xs:List V),H p=AM (.tup (.str a::xs))->∃x,TyX K H (.ref p) x/\∃x_1,aL K x (.type "tuple")=AM x_1/\if x_1=AQ then Q (.bl AQ) H else ∃x,((∃xs,SqL K H p xs/\x=xs.length)\/∃xs,SqT K H p xs/\x=xs.length)/\if (x:Int)<1 then Q (.bl AQ) H else ∃xs,SqT K H p xs/\∃v,atI xs 0=AM v/\∃x,TyX K H v x/\∃x_2,aL K x (.type "str")=AM x_2/\if x_2=AQ then Q (.bl AQ) H else True:=λa xs h =>
    #[_,.inr (.inr (.inr #[_,_,rfl,rfl,SqT.of h])),AO,T.tt,Zy #[_,.inr #[_,SqT.of h,rfl],yo (λz=>by rw[aG]at z;lia) λ_=>#[_,SqT.of h,.str a,wf (j:=0) rfl,_,.inl (.str _),AO,T.ss,Zy trivial]]]
   cases hA with
   | open_ h=>exact key _ _ h
   | alike S ss h hS=>exact key _ _ h
   | forms D es f g h hD=>exact key _ _ h
   | world t ts tab h ht hG=>exact key _ _ h
  rintro σ H1 ⟨rfl,rfl⟩:_;have skip:∀{a b:sk} {xs:List V} {A:Prop} {B:Prop},H1 p=AM (.tup (.str a::xs))->a≠b->B->∃xs,SqT K H1 p xs/\∃v,atI xs 0=AM v/\VB v (.str b)=AO/\if v=.str b then A else B:=λ{a b xs A B} h hne hB=>#[_,SqT.of h,.str a,wf (j:=0) rfl,rfl,yo (λz=>absurd (V.str.inj z) hne) λ_=>hB];right
  cases hA with
  | alike S ss h hS =>
   refine ZW (λ_ _=>False) ?_ λ_ _ h=>h.elim
   rfl'
   exact#[_,SqT.of h,_,rfl,rfl,yo (λ_=>#[_,.inr #[_,SqT.of h,rfl],yo (λ_=>#[_,SqT.of h,_,rfl,S,ss,rfl,hS.is,q _ (Same.refl _)]) λz=>absurd rfl z]) λz=>absurd rfl z]
  | forms D es f g h hD =>
   refine zj (λσ H'=>H'=H1/\σ=[AM (.ref p),AM (.int (l.length:Nat))]) ?_ ?_
   ·rfl'
    exact skip h ∅ trivial
   rintro σ H2 ⟨rfl,rfl⟩:_;right;refine ZW (λ_ _=>False) ?_ λ_ _ h=>h.elim
   rfl'
   refine#[_,SqT.of h,_,rfl,rfl,yo (λ_=>?_) λz=>absurd rfl z];refine zj (λσ H'=>H'=H2/\σ=[AM (.ref p),AM (.int (l.length:Nat))]) ?_ ?_
   ·rfl'
    exact#[_,.inr #[_,SqT.of h,rfl],yo (λz=>absurd rfl z) λ_=>#[_,SqT.of h,_,rfl,D,es,rfl,hD.l.is,AO,rfl,Zy rfl]]
   rintro σ H3 ⟨rfl,rfl⟩:_;right
   rfl'
   exact#[_,SqT.of h,_,rfl,_,.inl (.str _),AO,T.ss,zeX #[_,SqT.of h,_,rfl,_,.inl (.str _),AO,T.ss,q _ (Same.refl _)]]
  | world t ts tab h ht hG =>
   refine zj (λσ H'=>H'=H1/\σ=[AM (.ref p),AM (.int (l.length:Nat))]) ?_ ?_
   ·rfl'
    exact skip h ∅ trivial
   rintro σ H2 ⟨rfl,rfl⟩:_;right;refine zj (λσ H'=>H'=H2/\σ=[AM (.ref p),AM (.int (l.length:Nat))]) ?_ ?_
   ·rfl'
    exact skip h ∅ trivial
   rintro σ H3 ⟨rfl,rfl⟩:_;right;refine ZW (λ_ _=>False) ?_ λ_ _ h=>h.elim
   rfl'
   exact#[_,SqT.of h,_,rfl,rfl,yo (λ_=>#[_,.inr #[_,SqT.of h,rfl],yo (λ_=>#[_,SqT.of h,_,rfl,zba ht hG l6 q]) λz=>absurd rfl z]) λz=>absurd rfl z]
  | open_ h =>
   refine zj (λσ H'=>H'=H1/\σ=[AM (.ref p),AM (.int (l.length:Nat))]) ?_ ?_
   ·rfl'
    exact skip h ∅ trivial
   rintro σ H2 ⟨rfl,rfl⟩:_;right;refine zj (λσ H'=>H'=H2/\σ=[AM (.ref p),AM (.int (l.length:Nat))]) ?_ ?_
   ·rfl'
    exact skip h ∅ trivial
   rintro σ H3 ⟨rfl,rfl⟩:_;right;refine zj (λσ H'=>H'=H3/\σ=[AM (.ref p),AM (.int (l.length:Nat))]) ?_ ?_
   ·rfl'
    exact skip h ∅ trivial
   rintro σ H4 ⟨rfl,rfl⟩:_;right
   rfl'
   refine#[⋯,λp1 hp1=>U2 (l:=[.str "open"]) (m:=[.str "open"]) (.inr #[?_,?_]) ∅ ?_]
   ·erw[Is,Iss]
    exact#[_,_,rfl,SqT.of (zc hp1 _ _ h),_,_,rfl,rfl,rfl]
   ·erw[Is,Iss]
    exact#[_,_,rfl,SqT.of ze,_,_,rfl,rfl,rfl]
   ·rw[ub];exact q _ (zc hp1)
def jx:Sp:=λvs H Q _=>∃(t:rX) (rs:List rX) (tab:List (List Int)) (l:List Nat) (r:Int) (w:List Nat),vs=[.ref t,.str (tx l),.int r,.str (tx w)]/\TabAt H t rs tab/\yG l tab/\0<=r/\r<(tab.length:Int)/\(∀c ∈ w,c ∈ l)/\Q (.int (xt l tab r w)) H
theorem w8{t:rX}{l:List Nat}{rs:List rX}{tab:List (List Int)}{r:Int}{w:List Nat}(h:TabAt H t rs tab)(hG:yG l tab)(h0:0<=r)(h1:r<(tab.length:Int))(hw:∀c ∈ w,c ∈ l)(q:Q (.int (xt l tab r w)) H):jx [.ref t,.str (tx l),.int r,.str (tx w)] H Q E:=#[t,rs,tab,l,r,w,rfl,h,hG,h0,h1,hw,q]
theorem pR:zk ["_law_table","_law_letters_here","_law_room","_law_word_here","_law_sign"] ["_law_table","_law_letters_here","_law_room","_law_word_here"] (zh zb5):=by nofun
theorem zcF(B:Bt mg)(F:Fun K "_law_led" "_law_led" zb5 f fd) : zQ P w K mg base CX0 1 f fd ["_law_table","_law_letters_here","_law_room","_law_word_here"] jx:=by
 exists F.ok pR
 ·obtain⟨t,rs,tab,l,r,w,rfl,hT,hG,h0,h1,hw,q⟩:=h
  refine#[_,(zB (zN PassesOwn.never rfl (WM (pv 3)) (zu (i:=4) pR.nd rfl (.inl rfl))
    (zf (zD 2 pR.nd (zo ix_list (zo ix_list (pv 0) (pv 2)) (vP bT fj fk zc1 (pv 1) (za (pv 4) zd))))))
   (zf (zl (pv 2)))),?_]
  have s16:=zO
  rfl'
  refine ForS.by (λi σ H'=>H'=H/\∃v4,σ=[AM (.ref t),AM (.str (tx l)),AM (.int (xt l tab r (w.take i))),AM (.str (tx w)),v4]) #[rfl,AN,rfl] ?_ ?_
  ·refine nm4 ?_;rintro i c σ H' hc ⟨rfl,v4,rfl⟩:_;have hcl:=hw c (aa hc);obtain⟨a,b⟩:=Xn hG (w:=w.take i) h0 h1 λx hx=>hw x (bi hx);obtain⟨r',x,e1,e2,e3⟩:=hT.get a b;right
   rfl'
   refine#[_,SqL.of hT.top,_,e1,_,rfl,_,SqL.of e3,?_];rw[UT hcl,Yy hc];exact zaz hG e2 hcl
  ·rintro σ H' ⟨rfl,v4,rfl⟩
   rfl'
   rw[aP];exact q
noncomputable def j5(l:List Nat)(tab:List (List Int))(ps:List zv):Bool:=ps.all λp=>(yW l tab p.1 p.2).isNone
theorem holdsB_iff{l:List Nat}{tab:List (List Int)}:j5 l tab ps=AO ↔ ∀p ∈ ps,yW l tab p.1 p.2=AN:=by
 unfold j5;rw[List.all_eq_true];exact#[λh p hp=>Bj.mp (h p hp),λh p hp=>Bj.mpr (h p hp)]
def vS(K:rW):Sp:=λvs H Q _=>∃(t a:rX) (rs:List rX) (tab:List (List Int)) (l:List Nat) (ps:List zv),vs=[.ref t,.str (tx l),.ref a]/\TabAt H t rs tab/\yG l tab/\LsA K H a (ps.map dR)/\InP l ps/\Q (.bl (j5 l tab ps)) H
theorem ka{t a:rX}{rs:List rX}{tab:List (List Int)}{l:List Nat}(h1:TabAt H t rs tab)(h2:yG l tab)(h3:LsA K H a (ps.map dR))(h4:InP l ps)(q:Q (.bl (j5 l tab ps)) H):vS K [.ref t,.str (tx l),.ref a] H Q E:=#[t,a,rs,tab,l,ps,rfl,h1,h2,h3,h4,q]
theorem oq:zk ["_law_table","_law_letters_here","_law_pairs","_law_pair_here","_law_room"] ["_law_table","_law_letters_here","_law_pairs"] (zh YT):=by nofun
theorem JC(B:Bt mg)(F:Fun K "_law_holds" "_law_holds" YT f fd)(mJ:Df P w K mg base CX0 1 "_law_led" ["_law_table","_law_letters_here","_law_room","_law_word_here"] [] jx):zQ P w K mg base CX0 2 f fd ["_law_table","_law_letters_here","_law_pairs"] (vS K):=by
 exists F.ok oq
 ·obtain⟨t,a,rs,tab,l,ps,rfl,hT,hG,hA,hp,q⟩:=h
  refine#[_,(zi (zN PassesOwn.never rfl (yd (pv 2)) (zu (i:=3) oq.nd rfl (.inl rfl))
    (zf (zN PassesOwn.never rfl (zX rfl B.range (za (zC B.len (pv 0)) zd)) (zu (i:=4) oq.nd rfl (.inl rfl))
     (zf (zK (zy vJ (cl0 mJ hr .nil rfl (za (pv 0) (za (pv 1) (za (pv 4) (za (zo ix_tup (pv 3) zg) zd))))) (cl0 mJ hr .nil rfl (za (pv 0) (za (pv 1) (za (pv 4) (za (zo ix_tup (pv 3) zg) zd))))) (zA _))
      (zf (zl yE))
      zr)))))
   (zf (zl yE))),?_]
  have s16:=zO;have s16:=zO;have hl:=hT.len;have hhi:=hG.hi;obtain⟨xs,hX,hI⟩:=id hA;have hxl:=hI.len;rw[ac]at hxl;refine zj (λσ H'=>H'=H/\(∀p ∈ ps,yW l tab p.1 p.2=AN)/\∃v3 v4,σ=[AM (.ref t),AM (.str (tx l)),AM (.ref a),v3,v4]) ?_ ?_
  ·rfl'
   refine#[#[_,SqL.of hX],ForL.by (xs:=xs) (λi σ H'=>H'=H/\(∀j p,j<i->ps[j]? = AM p->yW l tab p.1 p.2=AN)/\∃v3 v4,σ=[AM (.ref t),AM (.str (tx l)),AM (.ref a),v3,v4]) #[rfl,λj p h=>absurd h (bQ j),_,_,rfl] (λi σ H' _ h=>by rw[h.1];exact SqL.of hX) ?_ λσ H' h=>?_]
   ·refine nm4 ?_;rintro i x σ H' hx ⟨rfl,hb,v3,v4,rfl⟩:_;obtain⟨r,pr,hri,rfl,hqr⟩:=hI.getR hx;obtain⟨r1,r2⟩:=hp r (aa hri);right
    erw[yn,aR,aQ]
    rfl'
    refine#[_,.inl #[_,SqL.of hT.top,rfl],by rw[ac];lia,by rw[ac];lia,ForR.by (λn σ H''=>H''=H'/\(∀j:Nat,j<n->xt l tab (j:Int) r.1=xt l tab (j:Int) r.2)/\∃v4,σ=[AM (.ref t),AM (.str (tx l)),AM (.ref a),AM (.ref pr),v4]) #[rfl,λj h=>absurd h (bQ j),_,rfl] ?_ λσ H'' h=>?_]
    ·refine nm3 ?_;rintro n σ H'' hn ⟨rfl,hc,v4,rfl⟩:_;rw[ac]at hn;have hn':n<tab.length:=⋯;have e0:(0:Int)+(n:Int)=(n:Int):=⋯;right
     erw[yn,aR,aQ]
     rfl'
     refine#[_,hqr,_,rfl,w8 hT hG ⋯ ⋯ r1 #[_,hqr,_,rfl,w8 hT hG ⋯ ⋯ r2 ?_]];rw[e0]
     rfl'
     refine yo (λh=>?_) λh j hj=>?_
     ·have:j5 l tab ps=AQ:=by
       cases e:j5 l tab ps with
       | false=>rfl
       | true =>
        have:=holdsB_iff.mp e r (aa hri);rw[YG hn' h hc]at this;cases this
      rw[this]at q;exact q
     ·by_cases hj':j<n
      ·exact hc j hj'
      ·have:j=n:=⋯;rw[this];exact Decidable.not_not.mp h
    ·obtain⟨rfl,hc,v4,rfl⟩:=h;rw[ac]at hc;refine#[rfl,λj p hj hpj=>?_,_,_,rfl];by_cases hj':j<i
     ·exact hb j p hj' hpj
     ·have:j=i:=⋯;subst this;rw[hri]at hpj;cases hpj;exact YF λj hj=>hc j ⋯
   ·obtain⟨rfl,hb,v3,v4,rfl⟩:=h;refine#[rfl,λp hp=>?_,v3,v4,rfl];obtain⟨j,hj⟩:=Bf.mp hp;exact hb j p (by have:=(AU.mp hj).1;lia) hj
  rintro σ H1 ⟨rfl,hb,v3,v4,rfl⟩:_;right
  rfl'
  rw[holdsB_iff.mpr hb]at q;exact q
def QM:Sp:=λvs H Q _=>∃(c:Int) (t:rX) (rs:List rX) (tab:List (List Int)) (l:List Nat),vs=[.int c,.ref t,.str (tx l)]/\uB c/\TabAt H t rs tab/\yG l tab/\2<=l.length/\l.length<=6/\(∀a b,l[0]? = AM a->l[1]? = AM b->xt l tab 0 [a]≠xt l tab 0 [b])/\∀(u v:List Nat) (p:rX) (H':Hp),u.length<=5->v.length<=5->(∀c ∈ u,c ∈ l)->(∀c ∈ v,c ∈ l)->xt l tab 0 u≠xt l tab 0 v->Same H H'->H' p=AM (.tup [.str (tx u),.str (tx v)])->Q (.ref p) H'
theorem oR:zk ["_law_cell_here","_law_table","_law_letters_here","_law_turn","_law_one","_law_other"] ["_law_cell_here","_law_table","_law_letters_here"] (zh zbL):=by nofun
theorem zcA(B:Bt mg)(F:Fun K "_law_two" "_law_two" zbL f fd)(nz:Df P w K mg base CX0 1 "_law_word" ["_law_number","_law_letters_here","_law_most"] [] Zs)(ij:Df P w K mg base CX0 1 "_law_mixed" ["_law_cell_here","_law_turn"] [] wU)(mJ:Df P w K mg base CX0 1 "_law_led" ["_law_table","_law_letters_here","_law_room","_law_word_here"] [] jx):zQ P w K mg base CX0 2 f fd ["_law_cell_here","_law_table","_law_letters_here"] QM:=by
 exists F.ok oR
 ·obtain⟨c,t,rs,tab,l,rfl,hc,hT,hG,l2,l6,hne,q⟩:=h
  refine#[_,(zi (zN PassesOwn.never rfl (zX rfl B.range (za zg zd)) (zu (i:=3) oR.nd rfl (.inl rfl))
    (zi (zD 4 oR.nd (cl0 nz hr .nil rfl (za (cl0 ij hr .nil rfl (za (pv 0) (za (zG xg zg (pv 3)) zd))) (za (pv 2) (za zg zd)))))
    (zi (zD 5 oR.nd (cl0 nz hr .nil rfl (za (cl0 ij hr .nil rfl (za (pv 0) (za (zG xg zg (pv 3)) zd))) (za (pv 2) (za zg zd)))))
    (zf (zK (zy vJ (cl0 mJ hr .nil rfl (za (pv 1) (za (pv 2) (za zg (za (pv 4) zd))))) (cl0 mJ hr .nil rfl (za (pv 1) (za (pv 2) (za zg (za (pv 5) zd))))) (zA _))
     (zf (zl (zR (za (pv 4) (za (pv 5) zd)))))
     zr)))))
   (zf (zl (zR (za (zo ZY (pv 2) zg) (za (zo ZY (pv 2) zg) zd)))))),?_]
  have s16:=zO;have s16:=zO;have hlo:=hG.lo;refine zj (λσ H'=>H'=H/\∃v3 v4 v5,σ=[AM (.int c),AM (.ref t),AM (.str (tx l)),v3,v4,v5]) ?_ ?_
  ·rfl'
   refine#[∅,∅,ForR.by (λi σ H'=>H'=H/\∃v3 v4 v5,σ=[AM (.int c),AM (.ref t),AM (.str (tx l)),v3,v4,v5]) #[rfl,_,_,_,rfl] ?_ λσ H' h=>h];refine nm3 ?_;rintro i σ H' hi ⟨rfl,v3,v4,v5,rfl⟩:_;have hi6:i<6:=hi;right
   erw[yn,aR,aQ]
   refine zj (λσ G=>G=H'/\∃u:List Nat,u.length<=5/\(∀c ∈ u,c ∈ l)/\σ=[AM (.int c),AM (.ref t),AM (.str (tx l)),AM (.int (0+(i:Int))),AM (.str (tx u)),v5]) ?_ ?_
   ·rfl'
    exact xO hc ⋯ ⋯ λz hz=>qp hz ⋯ ⋯ ∅ ∅ λw hw1 hw2=>#[rfl,w,⋯,hw2,rfl]
   rintro σ H1 ⟨rfl,u,hu1,hu2,rfl⟩:_;right;refine zj (λσ G=>G=H1/\∃v:List Nat,v.length<=5/\(∀c ∈ v,c ∈ l)/\σ=[AM (.int c),AM (.ref t),AM (.str (tx l)),AM (.int (0+(i:Int))),AM (.str (tx u)),AM (.str (tx v))]) ?_ ?_
   ·rfl'
    exact xO hc ⋯ ⋯ λz hz=>qp hz ⋯ ⋯ ∅ ∅ λw hw1 hw2=>#[rfl,w,⋯,hw2,rfl]
   rintro σ H2 ⟨rfl,v,hv1,hv2,rfl⟩:_;right
   rfl'
   refine w8 hT hG ⋯ ⋯ hu2 (w8 hT hG ⋯ ⋯ hv2 ?_)
   rfl'
   exact yo (λh=>#[⋯,λp hp=>q u v p _ hu1 hv1 hu2 hv2 h (zc hp) ze]) λh=>trivial
  rintro σ H1 ⟨rfl,v3,v4,v5,rfl⟩:_;have h0:l[0]? = AM (l[0]'⋯):=ag ⋯;have h1:l[1]? = AM (l[1]'⋯):=ag ⋯;right;generalize l[0]'⋯=a at h0;generalize l[1]'⋯=b at h1
  rfl'
  refine#[⋯,a,wf h0,⋯,b,wf h1,⋯,λp hp=>q [a] [b] p _ (by simp) (by simp) (λx hx=>?_) (λx hx=>?_) (hne a b h0 h1) (zc hp) ze]
  ·rw[AY.mp hx];exact aa h0
  ·rw[AY.mp hx];exact aa h1
def Wx(K:rW):Sp:=λvs H Q _=>∃(c t:rX) (ns:List Int) (rs:List rX) (tab:List (List Int)) (l:List Nat),vs=[.ref c,.ref t,.str (tx l)]/\SqL K H c (ns.map V.int)/\(∀z ∈ ns,uB z)/\TabAt H t rs tab/\yG l tab/\1<=l.length/\l.length<=6/\∀(D:rX) (ps:List zv) (H':Hp),Same H H'->H D=AN->LsA K H' D (ps.map dR)->ps.length<=6->(∀p ∈ ps,p.1.length<=3/\p.2.length<=3/\(∀x ∈ p.1,x ∈ l)/\∀x ∈ p.2,x ∈ l)->(∀p ∈ ps,yW l tab p.1 p.2=AN)->Q (.ref D) H'
def KpI(K:rW)(H:Hp)(c t:rX)(l:List Nat)(tab:List (List Int))(D:rX)(σ:L2.St)(H':Hp):Prop:=∃(ps:List zv) (v4 v5:Option V),Same H H'/\LsA K H' D (ps.map dR)/\ps.length<=6/\(∀p ∈ ps,p.1.length<=3/\p.2.length<=3/\(∀x ∈ p.1,x ∈ l)/\∀x ∈ p.2,x ∈ l)/\(∀p ∈ ps,yW l tab p.1 p.2=AN)/\σ=[AM (.ref c),AM (.ref t),AM (.str (tx l)),AM (.ref D),v4,v5]
theorem nS:zk ["_law_cells","_law_table","_law_letters_here","_law_pacts","_law_cell_here","_law_pair_here"] ["_law_cells","_law_table","_law_letters_here"] (zh V7):=by nofun
theorem zbz(B:Bt mg)(F:Fun K "_law_kept" "_law_kept" V7 f fd)(rN:Df P w K mg base CX0 2 "_law_pair" ["_law_cell_here","_law_letters_here","_law_most"] [] YV)(pj:Df P w K mg base CX0 2 "_law_holds" ["_law_table","_law_letters_here","_law_pairs"] [] (vS K)):zQ P w K mg base CX0 3 f fd ["_law_cells","_law_table","_law_letters_here"] (Wx K):=by
 exists F.ok nS
 ·obtain⟨c,t,ns,rs,tab,l,rfl,hS,hB,hT,hG,l1,l6,q⟩:=h
  refine#[_,(zi (zD 3 nS.nd (wo zd))
   (zi (zN PassesOwn.never rfl (yd (pv 0)) (zu (i:=4) nS.nd rfl (.inl rfl))
    (zi (zD 5 nS.nd (cl0 rN hr .nil rfl (za (pv 4) (za (pv 2) (za zg zd)))))
    (zf (zK (PW.pt (KR (zy WV (zC B.len (pv 3)) zg (zA _)) (VM (yC (cl0 pj hr .nil rfl (za (pv 1) (za (pv 2) (za (wo (za (pv 5) zd)) zd)))) (λ_=>rfl)))))
     (zf (xh (vP bg bw bx yP (pv 3) (za (pv 5) zd))))
     zr))))
   (zf (zl (pv 3))))),?_]
  have s16:=zO;have s16:=zO;refine zj (λσ H'=>∃D:rX,H D=AN/\KpI K H c t l tab D σ H') ?_ ?_
  ·rfl'
   exact#[⋯,λD hD=>#[D,hD,[],_,_,zc hD,LsA.nil,aE _,λp h=>(nomatch h),λp h=>(nomatch h),rfl]]
  rintro σ H1 ⟨D,hD,h0⟩:_;obtain⟨ps0,v40,v50,hs0,_,_,_,_,rfl⟩:=id h0;right;refine zj (KpI K H c t l tab D) ?_ ?_
  ·rfl'
   refine#[#[_,hs0.seq hS],ForL.by (xs:=ns.map V.int) (λi σ H'=>KpI K H c t l tab D σ H') h0 (λi σ H' _ h=>by obtain⟨_,_,_,hs,_⟩:=h;exact hs.seq hS) ?_ λσ H' h=>h];refine nm4 ?_;rintro i x σ H' hx ⟨ps,v4,v5,hs,hL,hn,hb,hh,rfl⟩:_;rw[am]at hx;obtain⟨z,hz,rfl⟩:=AZ.mp hx;have hzb:=hB z (aa hz);right
   erw[yn,aR,aQ]
   refine zj (λσ G=>∃(pr:rX) (u v:List Nat),Same H' G/\G pr=AM (.tup [.str (tx u),.str (tx v)])/\u.length<=3/\v.length<=3/\(∀x ∈ u,x ∈ l)/\(∀x ∈ v,x ∈ l)/\σ=[AM (.ref c),AM (.ref t),AM (.str (tx l)),AM (.ref D),AM (.int z),AM (.ref pr)]) ?_ ?_
   ·rfl'
    exact Ki hzb ⋯ ⋯ ∅ ∅ λo n p ho hn mo mn hp=>#[zc hp,p,o,n,ze,⋯,⋯,mo,mn,rfl]
   rintro σ H2 ⟨pr,u,v,s2,hpr,hu1,hv1,hu2,hv2,rfl⟩:_;have sH:=hs.trans s2;obtain⟨xs,hX,hI⟩:=hL.same s2;have hxl:=hI.len;rw[ac]at hxl;right
   rfl'
   have old:∀G,Same H2 G->KpI K H c t l tab D [AM (.ref c),AM (.ref t),AM (.str (tx l)),AM (.ref D),AM (.int z),AM (.ref pr)] G:=λG g=>#[ps,_,_,sH.trans g,(hL.same s2).same g,hn,hb,hh,rfl];refine#[_,.inl #[_,SqL.of hX,rfl],yo (λh6=>#[⋯,λp hp=>ka ((hT.same sH).same (zc hp)) hG (ps:=[(u,v)]) #[[.ref pr],ze,?_] (λx hx=>?_) #[_,rfl,yo (λhk=>#[.inl #[_,SqL.of (zc hp _ _ hX)],_,zc hp _ _ hX,⋯,?_]) λ_=>old _ (zc hp)]]) λ_=>old _ (Same.refl _)]
   ·erw[ao,aI,Iss]
    exact#[_,_,rfl,zaP (SqT.of (zc hp _ _ hpr)),rfl]
   ·rw[AY.mp hx];exact#[hu2,hv2]
   ·have hk':=holdsB_iff.mp hk (u,v) aB;refine#[ps ++ [(u,v)],_,_,zI (sH.trans (zc hp)) hD,?_,by rw[ak,dz];lia,λx hx=>?_,λx hx=>?_,rfl]
    ·rw[ax];exact LsA.snoc (zc hp _ _ hX) (Iss.same (zc hp) _ _ hI) (WE ps) (QD (u,v)) (zaP (SqT.of (zc hp _ _ hpr)))
    ·rcases AW.mp hx with h | h
     ·exact hb x h
     ·rw[AY.mp h];exact#[hu1,hv1,hu2,hv2]
    ·rcases AW.mp hx with h | h
     ·exact hh x h
     ·rw[AY.mp h];exact hk'
  rintro σ H2 ⟨ps,v4,v5,hs,hL,hn,hb,hh,rfl⟩:_;right
  rfl'
  exact q D ps H2 hs hD hL hn hb hh
theorem TabAt.snoc{t r:rX}{rs:List rX}{tab:List (List Int)}{x:List Int}(h:TabAt H t rs tab)(ht:t ∉ rs)(hr:H r=AM (.lst (x.map V.int)))(hne:r≠t):TabAt (upd H t (.lst (rs.map V.ref ++ [.ref r]))) t (rs ++ [r]) (tab ++ [x]):=by
 have hl:=h.len;refine#[by rw[ze,ax];rfl,by rw[ak,ak,hl];rfl,λi r' x' e1 e2=>?_];by_cases hi:i<rs.length
 ·rw[br hi]at e1;rw[br ⋯]at e2;rw[zm (λe=>ht (by rw[<- e];exact aa e1))];exact h.row i r' x' e1 e2
 ·have hi':i=rs.length:=by
   have:=(AU.mp e1).1;simp at this;lia
  subst hi';rw[be ⋯,dH]at e1;rw[be ⋯,show rs.length - tab.length=0 by lia]at e2;cases e1;cases e2;rw[zm hne];exact hr
theorem Ul{l:List Nat}{tab:List (List Int)}(h1:1<=n)(h8:n<=8)(hl:tab.length=n)(h:∀x ∈ tab,x.length=l.length/\∀z ∈ x,0<=z/\z<(n:Int)):yG l tab:=#[⋯,⋯,λx hx=>(h x hx).1,λx hx z hz=>by rw[hl];exact (h x hx).2 z hz]
def Z2:Sp:=λvs H Q _=>∃(c:Int) (n m:Nat),vs=[.int c,.int (n:Nat),.int (m:Nat)]/\uB c/\2<=n/\n<=8/\2<=m/\m<=6/\∀(t:rX) (rs:List rX) (tab:List (List Int)) (H':Hp),Same H H'->TabAt H' t rs tab->tab.length=n->(∀x ∈ tab,x.length=m/\∀z ∈ x,0<=z/\z<(n:Int))->(∀(x:List Int) (a b:Int),tab[0]? = AM x->x[0]? = AM a->x[1]? = AM b->a≠b)->Q (.ref t) H'
def WbO(H:Hp)(c:Int)(m n:Nat)(t:rX)(i:Nat)(σ:L2.St)(H':Hp):Prop:=∃(rs:List rX) (tab:List (List Int)) (z:Int) (v5 v6 v7:Option V),Same H H'/\TabAt H' t rs tab/\tab.length=i/\(∀x ∈ tab,x.length=m/\∀z ∈ x,0<=z/\z<(n:Int))/\(∀r ∈ rs,H r=AN)/\t ∉ rs/\rs.Nodup/\σ=[AM (.int c),AM (.int (n:Nat)),AM (.int (m:Nat)),AM (.ref t),AM (.int z),v5,v6,v7]
def WbN(H':Hp)(c:Int)(m n:Nat)(t r:rX)(v5:Option V)(j:Nat)(σ:L2.St)(H'':Hp):Prop:=∃(x:List Int) (z:Int) (v7:Option V),Same H' H''/\H'' r=AM (.lst (x.map V.int))/\x.length=j/\(∀z ∈ x,0<=z/\z<(n:Int))/\σ=[AM (.int c),AM (.int (n:Nat)),AM (.int (m:Nat)),AM (.ref t),AM (.int z),v5,AM (.ref r),v7]
theorem iH:zk ["_law_cell_here","_law_rooms","_law_many","_law_table","_law_number","_law_room","_law_row","_law_k"] ["_law_cell_here","_law_rooms","_law_many"] (zh YU):=by nofun
theorem J3(B:Bt mg)(F:Fun K "_law_world" "_law_world" YU f fd)(ij:Df P w K mg base CX0 1 "_law_mixed" ["_law_cell_here","_law_turn"] [] wU):zQ P w K mg base CX0 2 f fd ["_law_cell_here","_law_rooms","_law_many"] Z2:=by
 exists F.ok iH
 ·obtain⟨c,n,m,rfl,hc,n2,n8,m2,m6,q⟩:=h
  refine#[_,(zi (zD 3 iH.nd (wo zd))
   (zi (zD 4 iH.nd (cl0 ij hr .nil rfl (za (pv 0) (za zg zd))))
   (zi (zN PassesOwn.never rfl (zX rfl B.range (za (pv 1) zd)) (zu (i:=5) iH.nd rfl (.inl rfl))
    (zB (zD 6 iH.nd (wo zd))
    (zB (zN PassesOwn.never rfl (zX rfl B.range (za (pv 2) zd)) (zu (i:=7) iH.nd rfl (.inl rfl))
     (zB (xh (vP bg bw bx yP (pv 6) (za (zG yZ (pv 4) (pv 1)) zd)))
     (zf (zD 4 iH.nd (zG ww (pv 4) (pv 1))))))
    (zf (xh (vP bg bw bx yP (pv 3) (za (pv 6) zd)))))))
   (zi (zK (zy wu (zo ix_list (zo ix_list (pv 3) zg) zg) (zo ix_list (zo ix_list (pv 3) zg) zg) (zA _))
    (zf (UR (zG yZ (zG xg (zG xg (zo ix_list (zo ix_list (pv 3) zg) zg) zg) (zG yZ (pv 4) (zG j1 (pv 1) zg))) (pv 1)) (zat (zo ix_list (pv 3) zg) zg Kd (by intro _;rfl))))
    zr)
   (zf (zl (pv 3))))))),?_]
  have s16:=zO;have s16:=zO;refine zj (λσ H'=>∃t:rX,H t=AN/\Same H H'/\H' t=AM (.lst [])/\σ=[AM (.int c),AM (.int (n:Nat)),AM (.int (m:Nat)),AM (.ref t),AN,AN,AN,AN]) ?_ ?_
  ·rfl'
   exact#[⋯,λt ht=>#[t,ht,zc ht,ze,rfl]]
  rintro σ H1 ⟨t,ht,s1,hT1,rfl⟩:_;right;refine zj (λσ H'=>WbO H c m n t 0 σ H') ?_ ?_
  ·rfl'
   exact xO hc ∅ ∅ λz _=>#[[],[],z,_,_,_,s1,#[hT1,rfl,λi r x e=>by simp at e],rfl,λx h=>(nomatch h),λx h=>(nomatch h),λh=>(nomatch h),List.nodup_nil,rfl]
  rintro σ H2 h0:_;obtain⟨rs0,tab0,z0,v50,v60,v70,hs0,hT0,htl0,htab0,hf0,htn0,hnd0,rfl⟩:=id h0;right;refine zj (λσ H'=>WbO H c m n t n σ H') ?_ ?_
  ·rfl'
   refine#[⋯,⋯,?_];rw[show ((n:Nat):Int).toNat=n from rfl];refine ForR.by (λi σ H'=>WbO H c m n t i σ H') h0 ?_ λσ H' h=>h;refine nm3 ?_;rintro i σ H' hi ⟨rs,tab,z,v5,v6,v7,hs,hT,htl,htab,hf,htn,hnd,rfl⟩:_;right
   erw[yn]
   rfl'
   refine#[⋯,λr hr=>#[⋯,⋯,?_]];have hrt:r≠t:=λe=>by rw[e,hT.top]at hr;cases hr
   have hrH:H r=AN:=hs.free hr;have hl:=hT.len
   have hrn:r ∉ rs:=λh=>by
    obtain⟨j,hj⟩:=Bf.mp h;have hjl:=(AU.mp hj).1;rw[hT.row j r _ hj (ag ⋯)]at hr;cases hr
   rw[show ((m:Nat):Int).toNat=m from rfl];refine ForR.by (λj σ H''=>WbN H' c m n t r (AM (.int (0+(i:Int)))) j σ H'') #[[],_,_,zc hr,ze,rfl,λx h=>(nomatch h),rfl] ?_ ?_
   ·refine nm3 ?_;rintro j σ H'' hj ⟨x,z,v7,hs2,hx,hxl,hxb,rfl⟩:_;right
    erw[yn]
    rfl'
    refine#[.inl #[_,SqL.of hx],⋯,_,hx,by rw[ac];lia,#[⋯,⋯],x ++ [z % (n:Int)],z / (n:Int),_,zI hs2 hr,by rw[ze,ax];rfl,by rw[ak,hxl];rfl,λq hq=>?_,rfl];rcases AW.mp hq with h | h
    ·exact hxb q h
    ·rw[AY.mp h];exact#[bz _ ⋯,bB _ ⋯]
   ·rintro σ H'' ⟨x,z,v7,hs2,hx,hxl,hxb,rfl⟩;have hT2:=hT.same hs2
    rfl'
    refine#[.inl #[_,SqL.of hT2.top],_,hT2.top,by rw[ac];lia,rs ++ [r],tab ++ [x],_,_,_,_,zI (hs.trans hs2) ht,hT2.snoc htn hx hrt,by rw[ak,htl];rfl,λy hy=>?_,λy hy=>?_,λhy=>?_,?_,rfl]
    ·rcases AW.mp hy with h | h
     ·exact htab y h
     ·rw[AY.mp h];exact#[hxl,hxb]
    ·rcases AW.mp hy with h | h
     ·exact hf y h
     ·rw[AY.mp h];exact hrH
    ·rcases AW.mp hy with h | h
     ·exact htn h
     ·exact hrt (AY.mp h).symm
    ·rw[List.nodup_append];exact#[hnd,by simp,λa ha b hb=>by rw[AY.mp hb];exact λe=>hrn (e ▸ ha)]
  rintro σ H3 ⟨rs,tab,z,v5,v6,v7,hs,hT,htl,htab,hf,htn,hnd,rfl⟩:_;have hl:=hT.len;obtain⟨x,hx⟩:∃x,tab[0]? = AM x:=#[_,ag ⋯];obtain⟨r,hr⟩:∃r,rs[0]? = AM r:=#[_,ag ⋯];obtain⟨hxl,hxb⟩:=htab x (aa hx);obtain⟨a,ha⟩:∃a,x[0]? = AM a:=#[_,ag ⋯];obtain⟨b,hb⟩:∃b,x[1]? = AM b:=#[_,ag ⋯];have hR:=hT.row 0 r x hr hx;have hra:atI (rs.map V.ref) (0:Int)=AM (.ref r):=wf (j:=0) (by rw[am,hr];rfl);have haa:atI (x.map V.int) (0:Int)=AM (.int a):=wf (j:=0) (by rw[am,ha];rfl);have hba:atI (x.map V.int) (1:Int)=AM (.int b):=wf (j:=1) (by rw[am,hb];rfl);right;refine zj (λσ H'=>∃tab':List (List Int),Same H H'/\TabAt H' t rs tab'/\tab'.length=n/\(∀x ∈ tab',x.length=m/\∀z ∈ x,0<=z/\z<(n:Int))/\(∀(x:List Int) (a b:Int),tab'[0]? = AM x->x[0]? = AM a->x[1]? = AM b->a≠b)/\σ=[AM (.int c),AM (.int (n:Nat)),AM (.int (m:Nat)),AM (.ref t),AM (.int z),v5,v6,v7]) ?_ ?_
  ·rfl'
   refine#[_,SqL.of hT.top,_,hra,r,rfl,_,SqL.of hR,_,haa,_,SqL.of hT.top,_,hra,r,rfl,_,SqL.of hR,_,hba,rfl,yo (λh=>?_) λh=>?_]
   ·refine#[_,SqL.of hT.top,_,hra,r,rfl,_,SqL.of hR,_,haa,⋯,?_];refine#[_,rfl,⋯,?_]
    erw[zfd,zcB]
    rfl'
    have hab:=hxb a (aa ha);have ym:0<=(a+1+z % ((n:Int) - 1)) % (n:Int)/\(a+1+z % ((n:Int) - 1)) % (n:Int)<(n:Int):=#[bz _ ⋯,bB _ ⋯]
    have yne:(a+1+z % ((n:Int) - 1)) % (n:Int)≠a:=by
     have e0:=bz z (b:=(n:Int) - 1) ⋯;have e1:=bB z (b:=(n:Int) - 1) ⋯;generalize z % ((n:Int) - 1)=e at e0 e1;by_cases hlt:a+1+e<(n:Int)
     ·rw[Int.emod_eq_of_lt ⋯ hlt];lia
     ·rw[show a+1+e=(a+1+e - (n:Int))+(n:Int) by lia,Int.add_emod_right,Int.emod_eq_of_lt ⋯ ⋯];lia
    generalize (a+1+z % ((n:Int) - 1)) % (n:Int)=y at ym yne
    have hix:ixN (x.map V.int).length 1=AM 1:=by
     rw[ac];unfold ixN;rw[if_pos ∅,if_pos ⋯];rfl
    have hrm:=aa hr;refine#[_,SqL.of hT.top,_,hra,r,rfl,_,hR,1,hix,zI hs (hf r hrm),tab.set 0 (x.set 1 y),#[?_,by rw[dB];exact hl,λi r' x' e1 e2=>?_],by rw[dB];exact htl,λx' hx'=>?_,λx' a' b' e1 e2 e3=>?_]
    ·rw[zm (λe=>htn (by rw[e];exact hrm))];exact hT.top
    ·by_cases hi:i=0
     ·subst hi;rw[hr]at e1;cases e1;rw[cy ⋯]at e2;cases e2;rw[ze,List.map_set]
     ·rw[cX (λe=>hi e.symm)]at e2;rw[zm (λe=>?_)]
      ·exact hT.row i r' x' e1 e2
      ·subst e;have h1:=(AU.mp e1);have h2:=(AU.mp hr);exact Bq.mp hnd 0 i h2.1 h1.1 ⋯ (by rw[h1.2,h2.2])
    ·rcases et hx' with h' | rfl
     ·exact htab x' h'
     ·refine#[by rw[dB];exact hxl,λw hw=>?_];rcases et hw with h' | rfl
      ·exact hxb w h'
      ·exact ym
    ·rw[cy ⋯]at e1;cases e1;rw[cX ∅,ha]at e2;cases e2;rw[cy ⋯]at e3;cases e3;exact λe=>yne e.symm
   ·refine#[hs,tab,hT,htl,htab,λx' a' b' e1 e2 e3=>?_];rw[hx]at e1;cases e1;rw[ha]at e2;cases e2;rw[hb]at e3;cases e3;exact λe=>h (by rw[e])
  rintro σ H4 ⟨tab',hs4,hT4,htl4,htab4,hne4,rfl⟩:_;right
  rfl'
  exact q t rs tab' H4 hs4 hT4 htl4 htab4 hne4
noncomputable def VA(n m N:Nat):List Int:=(aH m).map λi=>uD n N (m - 1 - i)
theorem Ka(n m N:Nat):(VA n m N).length=m:=by simp [VA]
theorem je(n m N:Nat):VA n (m+1) N=VA n m (N / n) ++ [((N % n:Nat):Int)]:=by
 unfold VA;rw[bR,ax];congr 1
 ·apply cr;intro i hi;have hi':=Ba.mp hi;unfold uD;have e:m+1 - 1 - i=(m - 1 - i)+1:=⋯;rw[e,dI,eD,<- eZ]
 ·simp [uD]
theorem VF(hn:1<=n):∀(m:Nat) (ds:List Int),ds.length=m->(∀d ∈ ds,0<=d/\d<(n:Int))->∃N,N<n ^ m/\VA n m N=ds:=by
 intro m
 induction m with
 | zero =>
  intro ds h _;exact#[0,by simp,by rw[cQ h];rfl]
 | succ m ih =>
  intro ds h hb;have hne:ds≠[]:=λe=>by rw[e]at h;cases h
  obtain⟨N,hN,e⟩:=ih ds.dropLast (by rw[fm];lia) λd hd=>hb d ((List.dropLast_sublist ds).subset hd);obtain⟨d0,d1⟩:=hb (ds.getLast hne) (List.getLast_mem hne);have hd:(ds.getLast hne).toNat<n:=⋯;refine#[N * n+(ds.getLast hne).toNat,?_,?_]
  ·rw[dI]
   have:N * n+n<=n ^ m * n:=by
    have:=cE n (show N+1<=n ^ m by lia);rw[dq,du]at this;exact this
   lia
  ·have e1:(N * n+(ds.getLast hne).toNat) / n=N:=by
    rw[eD,Nat.mul_add_div ⋯,Nat.div_eq_of_lt hd,Nat.add_zero]
   have e2:(N * n+(ds.getLast hne).toNat) % n=(ds.getLast hne).toNat:=by
    rw[eD,Nat.mul_add_mod,Nat.mod_eq_of_lt hd]
   have e3:(((ds.getLast hne).toNat:Nat):Int)=ds.getLast hne:=⋯;rw[je,e1,e2,e3,e];exact List.dropLast_concat_getLast hne
def ltX:List Int->List Int->Prop
 | a::l,b::m=>a<b\/(a=b/\ltX l m)
 | _,_=>False
theorem QZ:∀{a b:List Int} (c d:List Int),ltX a b->ltX (a ++ c) (b ++ d)
 | x::a,y::b,c,d,h=>by
  rcases h with h | ⟨rfl,h⟩
  ·exact .inl h
  ·exact .inr #[rfl,QZ c d h]
theorem Qu:∀(a:List Int) {c d:List Int},ltX c d->ltX (a ++ c) (a ++ d)
 | [],_,_,h=>h
 | x::a,_,_,h=>.inr #[rfl,Qu a h]
theorem U6:∀{a b c d:List Int},a.length=b.length->ltX (a ++ c) (b ++ d)->(a=b/\ltX c d)\/ltX a b
 | [],[],_,_,_,h=>.inl #[rfl,h]
 | x::a,y::b,c,d,hl,h=>by
  rcases h with h | ⟨rfl,h⟩
  ·exact .inr (.inl h)
  ·rcases U6 (by simpa using hl) h with ⟨rfl,g⟩ | g
   ·exact .inl #[rfl,g]
   ·exact .inr (.inr #[rfl,g])
theorem za0(hn:1<=n):∀(m:Nat) {N M:Nat},N<M->M<n ^ m->ltX (VA n m N) (VA n m M):=by
 intro m
 induction m with
 | zero=>intro N M h1 h2;simp at h2;lia
 | succ m ih =>
  intro N M h1 h2;rw[je,je]
  have h3:M / n<n ^ m:=by
   rw[dI]at h2;exact (Nat.div_lt_iff_lt_mul ⋯).mpr h2
  rcases cG (N / n) (M / n)with h | h
  ·exact QZ _ _ (ih h h3)
  ·have e:N / n=M / n:=Nat.le_antisymm (Nat.div_le_div_right (cT h1)) h;rw[e];apply Qu;left;have a:=Nat.div_add_mod N n;have b:=Nat.div_add_mod M n;rw[e]at a;have:N % n<M % n:=⋯;exact Int.ofNat_lt.mpr this
theorem JO{n k N:Nat}{r:Nat}(hr:r<n):((VA n (n * k) N).drop (r * k)).take k=UY n k N r:=by
 have hb:r * k+k<=n * k:=by
  have:=cE k (show r+1<=n by lia);rw[dq,du]at this;exact this
 apply ee;intro j;by_cases hj:j<k
 ·rw[cb hj,fH,VA,am,cJ ⋯,UY,am,cJ hj];rfl
 ·rw[bv (by simp [aJ];lia),bv (by simp [UY];lia)]
theorem Zc(n k N:Nat):(vx n k N).flatten=VA n (n * k) N:=by
 have h:∀j,j<=n->((aH j).map λr=>UY n k N r).flatten=(VA n (n * k) N).take (j * k):=by
  intro j
  induction j with
  | zero=>intro _;simp
  | succ j ih =>
   intro hj;rw[bR,ax,List.flatten_append,ih ⋯,List.map_singleton,eU,<- JO (show j<n by lia),dq,du,List.take_add]
 have:=h n (al _);rw[aX (by rw[Ka];exact al _)]at this;exact this
theorem XU:∀{s t:List (List Int)} {k:Nat},s.length=t.length->(∀x ∈ s,x.length=k)->(∀x ∈ t,x.length=k)->s.flatten=t.flatten->s=t
 | [],[],_,_,_,_,_=>rfl
 | x::s,y::t,k,hl,h1,h2,e=>by
  rw[ci,ci]at e;obtain⟨rfl,e'⟩:=List.append_inj e (by rw[h1 x (by simp),h2 y (by simp)]);rw[XU (by simpa using hl) (λz hz=>h1 z (by simp [hz])) (λz hz=>h2 z (by simp [hz])) e']
theorem kF(n k N:Nat):(vx n k N).length=n:=by simp [vx]
theorem Xu(n k N:Nat):∀x ∈ vx n k N,x.length=k:=λx hx=>by
 obtain⟨r,_,rfl⟩:=AV.mp hx;simp [UY]
theorem JK{n k:Nat}{tab:List (List Int)}(hn:1<=n)(hl:tab.length=n)(hw:∀x ∈ tab,x.length=k)(hb:∀x ∈ tab,∀z ∈ x,0<=z/\z<(n:Int)):∃N,N<n ^ (n * k)/\vx n k N=tab:=by
 have hfl:∀(s:List (List Int)),(∀x ∈ s,x.length=k)->s.flatten.length=s.length * k:=by
  intro s
  induction s with
  | nil=>intro _;simp
  | cons x s ih =>
   intro h;rw[ci,ak,ih (λy hy=>h y (by simp [hy])),h x (by simp),aG,dq,du];lia
 obtain⟨N,hN,e⟩:=VF hn (n * k) tab.flatten (by rw[hfl tab hw,hl]) λd hd=>by
  obtain⟨x,hx,hdx⟩:=List.mem_flatten.mp hd;exact hb x hx d hdx
 exact#[N,hN,XU (by rw[kF,hl]) (Xu n k N) hw (by rw[Zc,e])]
theorem Wi:∀{a b:List Int},ltX a b->v0 (b.map D.int) (a.map D.int)=AQ
 | x::a,y::b,h=>by
  erw[ao,v0,eqD]
  rcases h with h | ⟨rfl,h⟩
  ·have e:(y == x)=AQ:=by
    rw[beq_eq_false_iff_ne];lia
   rw[e];rfl
  ·rw[Wi h,dU]
theorem Ux:∀{a b:List Int},ltX a b->ltI b a=AQ
 | x::a,y::b,h=>by
  erw[ltI]
  rcases h with h | ⟨rfl,h⟩
  ·rw[if_neg ⋯];exact decide_eq_false ⋯
  ·rw[if_pos rfl];exact Ux h
theorem Ys:∀l:List D,wv l l=AQ
 | []=>by erw[wv]
 | d::l=>by
  erw[wv]
  rw[if_pos (vZ d)];exact Ys l
theorem Ut:∀{s t:List (List Int)} {k:Nat},s.length=t.length->(∀x ∈ s,x.length=k)->(∀x ∈ t,x.length=k)->ltX s.flatten t.flatten->wv (t.map ZR) (s.map ZR)=AQ
 | x::s,y::t,k,hl,h1,h2,h=>by
  rw[ci,ci]at h
  erw[ao,wv,ltD,ZR]
  rcases U6 (by rw[h1 x (by simp),h2 y (by simp)]) h with ⟨rfl,g⟩ | g
  ·rw[if_pos (vZ _)];exact Ut (by simpa using hl) (λz hz=>h1 z (by simp [hz])) (λz hz=>h2 z (by simp [hz])) g
  ·rw[if_neg (by erw[eqD];rw[Wi g];exact aw),qH];exact Ux g
theorem zce{n k N M:Nat}(hn:1<=n)(h:N<=M)(hM:M<n ^ (n * k)):wv ((vx n k M).map ZR) ((vx n k N).map ZR)=AQ:=by
 rcases cG N M with h' | h'
 ·refine Ut (by rw[kF,kF]) (Xu n k N) (Xu n k M) ?_;rw[Zc,Zc];exact za0 hn _ h' hM
 ·have e:N=M:=⋯;subst e;exact Ys _
theorem X3:∀(s t:List (List Int)),ql (s.map ZR) (t.map ZR)
 | [],_=>by erw[aI,ql]
 | _::_,[]=>by erw[aI,ao,ql]
 | x::s,y::t=>by
  erw[ao,ql,okD,ZR]
  exact#[v8 x y,X3 s t]
theorem QW{n k n' N' N:Nat}(hn:1<=n)(hN:N<n ^ (n * k))(h:n'<n\/n'=n/\N'<=N):ltD (.tup [.int (n:Int),.lst ((vx n k N).map ZR)]) (.tup [.int (n':Int),.lst ((vx n' k N').map ZR)])=AQ:=by
 erw[ltD,wv]
 by_cases e:eqD (.int (n:Int)) (.int (n':Int))=AO
 ·rw[if_pos e]
  erw[eqD,beq_iff_eq]at e
  have e':n'=n:=⋯;subst e';split
  ·rfl
  ·exact zce hn ⋯ hN
 ·rw[if_neg e]
  erw[eqD,beq_iff_eq]at e
  exact decide_eq_false ⋯
theorem zbO{l:List Nat}{tab:List (List Int)}{u v:List Nat}(h:∀p ∈ ps,yW l tab p.1 p.2=AN)(hne:xt l tab 0 u≠xt l tab 0 v):xq l tab ps u v=AO:=by
 have:∀(ps:List zv) (i:Nat),(∀p ∈ ps,yW l tab p.1 p.2=AN)->xj l tab ps i=AN:=λps=>by
  induction ps with
  | nil=>intro i _;rfl
  | cons p ps ih =>
   intro i h
   erw[xj]
   rw[h p aB];exact ih (i+1) λq hq=>h q (ar _ hq)
 unfold xq;rw[this ps 0 h,decide_eq_true hne];rfl
theorem Qa{l:List Nat}{tab:List (List Int)}{x:List Int}{a:Nat}{i:Nat}(hl:l.Nodup)(h0:tab[0]? = AM x)(ha:l[i]? = AM a)(hx:x.length=l.length):∃z,x[i]? = AM z/\xt l tab 0 [a]=z:=by
 have hi:=(AU.mp ha).1;have hm:=aa ha;have e:l.idxOf a=i:=JM hl (AU.mpr #[bq hm,dj _]) ha;refine#[x[i]'⋯,ag ⋯,?_];show qf l tab 0 a=_;unfold qf;rw[show ((0:Int)).toNat=0 from rfl,ah (l:=tab),h0,cH,e,ah,ag ⋯,cH]
theorem YS{m n:Nat}(h:n=2\/(n=3/\m=2))(hm:m=2\/m=3):m ^ (m * n)<=1000:=by
 rcases h with rfl | ⟨rfl,rfl⟩
 ·rcases hm with rfl | rfl <;> decide
 ·decide
theorem TabAt.samT{T t:rX}{H H':Hp}{rs:List rX}{tab:List (List Int)}{ps:Array rY}(h:TabAt H t rs tab)(s:SamT T H H')(hT:H T=AM (.tbl ps)):TabAt H' t rs tab :=
 #[s.at hT h.top (λ_ z=>by cases z),h.len,λi r x e1 e2=>s.at hT (h.row i r x e1 e2) (λ_ z=>by cases z)]
def Wc(K:rW)(T:rX):Sp:=λvs H Q _=>∃(a:rX) (ns:List Int),vs=[.ref a]/\SqL K H a (ns.map V.int)/\(∀z ∈ ns,uB z)/\H T=AM (.tbl #[])/\∀H',Q (.bl AO) H'
theorem gH:zk ["_law_script","_law_first","_law_rooms","_law_letters_here","_law_table","_law_pacts","_law_one","_law_other","_law_weights","_law_order_here","_law_found"] ["_law_script"] (zh jN):=by nofun
theorem zcP{f CO CR CW TB:rX}(B:Bt mg)(F:Fun K "law" "law" jN f fd)(mS:Df P w K mg base CX0 1 "_law_cell" ["_law_script","_law_k"] [] (ZN K))(rz:Df P w K mg base CX0 2 "_law_letters" ["_law_cell_here","_law_many"] [] uz)(rJ:Df P w K mg base CX0 2 "_law_world" ["_law_cell_here","_law_rooms","_law_many"] [] Z2)(rO:Df P w K mg base CX0 3 "_law_kept" ["_law_cells","_law_table","_law_letters_here"] [] (Wx K))(rP:Df P w K mg base CX0 2 "_law_two" ["_law_cell_here","_law_table","_law_letters_here"] [] QM)(rK:Df P w K mg base CX0 6 "_law_order" ["_law_kind","_law_letters_here","_law_weights"] [] (X9 K CO CR CW))(rD:Df P w K mg base (CXx P w) 11 "judged" ["order","pacts","one","other","rounds","most"] [] (zcW K CO CR CW TB))(mJ:Df P w K mg base CX0 1 "_law_led" ["_law_table","_law_letters_here","_law_room","_law_word_here"] [] jx)(rE:Df P w K mg base CX0 4 "_law_answer" ["_law_found","_law_many"] [] (V1 K))(pj:Df P w K mg base CX0 2 "_law_holds" ["_law_table","_law_letters_here","_law_pairs"] [] (vS K)):zQ P w K mg base CX0 12 f fd ["_law_script"] (Wc K TB):=by
 exists F.ok gH
 ·obtain⟨a,ns,rfl,hS,hB,hT,q⟩:=h
  refine#[_,(zi (zD 1 gH.nd (cl0 mS hr .nil rfl (za (pv 0) (za zg zd))))
   (zi (zD 2 gH.nd zg)
   (zi (zK (zy wu (zG yZ (pv 1) zg) zg (zA _))
    (zf (zD 2 gH.nd zg))
    zr)
   (zi (zD 3 gH.nd (cl0 rz hr .nil rfl (za (pv 1) (za (zG xg zg (xp zcM rfl B.int PySem.Pv.boot_int (za (yN wu (zG yZ (pv 1) zg) zg (zA _)) zd))) zd))))
   (zi (zD 4 gH.nd (cl0 rJ hr .nil rfl (za (cl0 mS hr .nil rfl (za (pv 0) (za zg zd))) (za (pv 2) (za (zC B.len (pv 3)) zd)))))
   (zi (zD 5 gH.nd (cl0 rO hr .nil rfl (za (yH Xh (pv 0) (yx zg) (yx zg)) (za (pv 4) (za (pv 3) zd)))))
   (zi (UR (cl0 rP hr .nil rfl (za (cl0 mS hr .nil rfl (za (pv 0) (za zg zd))) (za (pv 4) (za (pv 3) zd)))) (uQ (n:=2) rfl (z8 (zu (i:=6) gH.nd rfl (.inl rfl)) (z8 (zu (i:=7) gH.nd rfl (.inl rfl)) wy))))
   (zi (UJ (i:=8) gH.nd rfl (.inl rfl) (.inl rfl) (own:=["_law_k"]) (caps:=["_law_script"]) (ix:=[0]) (tt:=vm) (te:=(tOp Zt (tC (.int 1)) (tOp (rI (λ_ j=>0<j) λi j=>.int (i % j)) (qb (ZN K) [] E0 (zL (yj 1) (zL (tOp Zt (tC (.int 3)) (yj 0)) xR))) (tC (.int 3))))) rfl (zS (sc:=zh jN) rfl (by symm) (by symm) (by symm) rfl (by symm) (by symm) rfl) (zX rfl B.range (za (zC B.len (pv 3)) zd)) (λ_ _ _ _ _ _=>zu (i:=0) (show List.Nodup [_,_] by decide) rfl (.inl rfl)) (λ_ _ _ _ _ _=>yM) (λ_ _ _ _ _ _=>(zG xg zg (zG yZ (cl0 mS hr .nil rfl (za (pv 1) (za (zG xg zg (pv 0)) zd))) zg))))
   (zi (zD 9 gH.nd (cl0 rK hr .nil rfl (za (zG yZ (cl0 mS hr .nil rfl (za (pv 0) (za zg zd))) zg) (za (pv 3) (za (pv 8) zd)))))
   (zi (zD 10 gH.nd (clP xe0 rD hr .nil rfl (za (pv 9) (za (xp yS rfl B.list PySem.Pv.boot_list (za (pv 5) zd)) (za (pv 6) (za (pv 7) (za (zG yZ (zG ww (cl0 mS hr .nil rfl (za (pv 0) (za zg zd))) zg) zg) (za (pv 2) zd))))))))
   (zi (zK (PW.pt (uo (zW (yC (cl0 rE hr .nil rfl (za (pv 10) (za (zC B.len (pv 3)) zd))) (λ_=>rfl))) (wB (PW.pt (KR (zy vJ (zo ix_tup (pv 10) zg) zU (zA _)) (VM (zy vJ (zo ix_tup (pv 10) zg) zU (zA _))))))))
    (zf (zl yE))
    zr)
   (zi (zK (zy wu (zo ix_tup (pv 10) zg) zU (zA _))
    (zf (zl (yN vJ (zo ix_tup (pv 10) zg) (zo ix_tup (pv 10) zg) (zA _))))
    zr)
   (zi (zK (PW.pt (uo (zy (zdY (kO hr)) (zR (za (zC B.len (zo ix_tup (pv 10) zg)) (za (zo ix_tup (pv 10) zg) zd))) (zR (za (zC B.len (pv 4)) (za (pv 4) zd))) (zA _)) (wB (zW (yC (cl0 pj hr .nil rfl (za (zo ix_tup (pv 10) zg) (za (pv 3) (za (pv 5) zd)))) (λ_=>rfl))))))
    (zf (zl yE))
    zr)
   (zf (zl (yN vJ (cl0 mJ hr .nil rfl (za (zo ix_tup (pv 10) zg) (za (pv 3) (za zg (za (pv 6) zd))))) (cl0 mJ hr .nil rfl (za (zo ix_tup (pv 10) zg) (za (pv 3) (za zg (za (pv 7) zd))))) (zA _))))))))))))))))),?_]
  have s16:=zO;have s16:=zO;have hTab:TabOk H TB lp lq:=#[#[],hT,trivial,.inl rfl];refine zj (λσ H'=>H'=H/\∃f:Int,uB f/\σ=[AM (.ref a),AM (.int f),AN,AN,AN,AN,AN,AN,AN,AN,AN]) ?_ ?_
  ·rfl'
   exact va hS hB ∅ λc hc=>#[rfl,c,hc,rfl]
  rintro σ H1 ⟨rfl,f,hf,rfl⟩:_;right;refine zj (λσ H'=>H'=H1/\σ=[AM (.ref a),AM (.int f),AM (.int 2),AN,AN,AN,AN,AN,AN,AN,AN]) ?_ ?_
  ·rfl'
  rintro σ H2 ⟨rfl,rfl⟩:_;right;refine zj (λσ H'=>H'=H2/\∃n:Nat,(n=2\/(n=3/\f % 4=3))/\σ=[AM (.ref a),AM (.int f),AM (.int (n:Nat)),AN,AN,AN,AN,AN,AN,AN,AN]) ?_ ?_
  ·rfl'
   exact#[∅,yo (λh=>#[3,.inr #[rfl,h],rfl]) λ_=>#[2,.inl rfl,rfl]]
  rintro σ H3 ⟨rfl,n,hn,rfl⟩:_;right;refine zj (λσ H'=>H'=H3/\∃l:List Nat,qG l=AO/\(l.length=2\/(l.length=3/\n=2))/\σ=[AM (.ref a),AM (.int f),AM (.int (n:Nat)),AM (.str (tx l)),AN,AN,AN,AN,AN,AN,AN]) ?_ ?_
  ·rfl'
   refine#[∅,.inr #[_,rfl,_,rfl,Y6 hf (by split <;> lia) (by split <;> lia) λl hl hnd hs=>?_]];by_cases h1:f % 4=1
   ·rw[if_pos (decide_eq_true h1)]at hl;exact#[rfl,l,decide_eq_true #[⋯,⋯,hs,hnd],.inr #[⋯,⋯],rfl]
   ·rw[if_neg (by rw[decide_eq_true_eq];exact h1)]at hl;exact#[rfl,l,decide_eq_true #[⋯,⋯,hs,hnd],.inl ⋯,rfl]
  rintro σ H4 ⟨rfl,l,hg,hl,rfl⟩:_;obtain⟨l1,l6,lsm,lnd⟩:=of_decide_eq_true hg;have hn2:n=2\/n=3:=hn.elim .inl λh=>.inr h.1;have hTb:=YS (m:=n) (n:=l.length) hl hn2;right;refine zj (λσ H'=>Same H4 H'/\∃(t:rX) (ts:List rX) (tab:List (List Int)),TabAt H' t ts tab/\tab.length=n/\yG l tab/\(∀a b,l[0]? = AM a->l[1]? = AM b->xt l tab 0 [a]≠xt l tab 0 [b])/\σ=[AM (.ref a),AM (.int f),AM (.int (n:Nat)),AM (.str (tx l)),AM (.ref t),AN,AN,AN,AN,AN,AN]) ?_ ?_
  ·rfl'
   refine va hS hB ∅ λc hc=>#[⋯,c,n,l.length,rfl,hc,⋯,⋯,⋯,⋯,λt ts tab H' s' hT' htl hr hne=>#[s',t,ts,tab,hT',htl,Ul ⋯ ⋯ htl hr,λx y hx hy=>?_,rfl]];obtain⟨z,hz⟩:∃z,tab[0]? = AM z:=#[_,ag ⋯];obtain⟨z0,e0,e1⟩:=Qa lnd hz hx (hr z (aa hz)).1;obtain⟨z1,e2,e3⟩:=Qa lnd hz hy (hr z (aa hz)).1;rw[e1,e3];exact hne z z0 z1 hz e0 e2
  rintro σ H5 ⟨s5,t,ts,tab,hT5,htl,hG5,hne,rfl⟩:_;have hS5:=s5.seq hS;right;refine zj (λσ H'=>Same H5 H'/\∃(pa:rX) (rs:List zv),LsA K H' pa (rs.map dR)/\rs.length<=6/\(∀p ∈ rs,p.1.length<=3/\p.2.length<=3/\(∀x ∈ p.1,x ∈ l)/\∀x ∈ p.2,x ∈ l)/\(∀p ∈ rs,yW l tab p.1 p.2=AN)/\σ=[AM (.ref a),AM (.int f),AM (.int (n:Nat)),AM (.str (tx l)),AM (.ref t),AM (.ref pa),AN,AN,AN,AN,AN]) ?_ ?_
  ·rfl'
   refine#[_,hS5,λp hp=>?_];rw[YH ns ∅ ∅];have hcb:∀z ∈ (ns.drop (7:Int).toNat).take ((63:Int) - 7).toNat,uB z:=λz hz=>hB z (cD (bi hz));generalize (ns.drop (7:Int).toNat).take ((63:Int) - 7).toNat=cs at hcb ⊢;have sp:=zc (o:=.lst (cs.map V.int)) hp;exact#[p,t,cs,ts,tab,l,rfl,SqL.of ze,hcb,hT5.same sp,hG5,⋯,⋯,λD ps H' s' _ hL h6 hb hh=>#[sp.trans s',D,ps,hL,h6,hb,hh,rfl]]
  rintro σ H6 ⟨s6,pa,rs,hP,hpn,hPG,hH,rfl⟩:_;have hS6:=s6.seq hS5;have hT6:=hT5.same s6;right;refine zj (λσ H'=>Same H6 H'/\∃u v:List Nat,u.length<=5/\v.length<=5/\(∀c ∈ u,c ∈ l)/\(∀c ∈ v,c ∈ l)/\xt l tab 0 u≠xt l tab 0 v/\σ=[AM (.ref a),AM (.int f),AM (.int (n:Nat)),AM (.str (tx l)),AM (.ref t),AM (.ref pa),AM (.str (tx u)),AM (.str (tx v)),AN,AN,AN]) ?_ ?_
  ·rfl'
   exact va hS6 hB ∅ λc hc=>#[c,t,ts,tab,l,rfl,hc,hT6,hG5,⋯,⋯,hne,λu v p H' hu hv mu mv he s' hp=>#[p,rfl,_,SqT.of hp,rfl,_,_,rfl,_,_,rfl,rfl,s',u,hu,v,hv,mu,mv,he,rfl,rfl]]
  rintro σ H7 ⟨s7,u,v,hul,hvl,hui,hvi,hne2,rfl⟩:_;have hS7:=s7.seq hS6;right;refine zj (λσ H'=>Same H7 H'/\∃(W:rX) (ws:List Int),H' W=AM (.lst (ws.map V.int))/\ws.length=l.length/\(∀n ∈ ws,1<=n/\n<=1000000)/\σ=[AM (.ref a),AM (.int f),AM (.int (n:Nat)),AM (.str (tx l)),AM (.ref t),AM (.ref pa),AM (.str (tx u)),AM (.str (tx v)),AM (.ref W),AN,AN]) ?_ ?_
  ·rfl'
   refine#[⋯,⋯,⋯,λD hD=>CompR.by (λi AT H'=>Same H7 H'/\H' D=AM (.lst AT)/\∃ws:List Int,AT=ws.map V.int/\ws.length=i/\∀n ∈ ws,1<=n/\n<=1000000) #[zc hD,ze,[],rfl,rfl,λn h=>(nomatch h)] ?_ ?_]
   ·refine nm3 ?_;rintro i AT H' hi ⟨hs,hH,ws,rfl,hwl,hwb⟩:_;right
    erw[vm]
    rfl'
    refine#[xN,va (hs.seq hS7) hB ⋯ λc hc=>#[_,rfl,∅,hH,by rw[ac];lia,CNx.mk hi #[zI hs hD,ze,ws ++ [1+c % 3],by rw[ax];rfl,by rw[ak,hwl];rfl,λz hz=>?_]]];rcases AW.mp hz with h | h
    ·exact hwb z h
    ·rw[AY.mp h];lia
   ·rintro AT H' ⟨hs,hH,ws,rfl,hwl,hwb⟩;exact#[hs,D,ws,hH,⋯,hwb,rfl]
  rintro σ H8 ⟨s8,W,ws,hW,hwl,hwb,rfl⟩:_;have hS8:=s8.seq hS7;right;refine zj (λσ H'=>Same H8 H'/\∃(o:rX) (k:Nat),OrdAt CO CR CW H' o k l ws/\OG l ws k/\σ=[AM (.ref a),AM (.int f),AM (.int (n:Nat)),AM (.str (tx l)),AM (.ref t),AM (.ref pa),AM (.str (tx u)),AM (.str (tx v)),AM (.ref W),AM (.ref o),AN]) ?_ ?_
  ·rfl'
   refine va hS8 hB ∅ λc hc=>#[_,rfl,∅,_,l,W,ws,rfl,bz _ ∅,bB _ ∅,hg,hW,hwl,hwb,λo H' s' ho=>#[s',o,_,ho,#[hg,⋯,hwl,hwb],rfl]]
  rintro σ H9 ⟨s9,o,k,ho,hG,rfl⟩:_;have hS9:=s9.seq hS8;have s69:=s7.trans (s8.trans s9);have hP9:=hP.same s69;have hT9:=hT6.same s69;have hTb9:=hTab.same ((s5.trans (s6.trans s7)).trans (s8.trans s9));have hfit:xq l tab rs u v=AO:=zbO hH hne2;obtain⟨N0,hN0,e0⟩:=JK (k:=l.length) (show 1<=n by lia) htl hG5.wd (λx hx z hz=>by rw[<- htl];exact hG5.rm x hx z hz);right;refine zj (λσ H'=>∃fp:rX,LsA K H' pa (rs.map dR)/\TabAt H' t ts tab/\zfq K H' l fp/\((∃(D:rX) (x y:List Nat),H' fp=AM (.tup [.str "forms",.ref D,.str (tx x),.str (tx y)])/\x≠y)\/∃(n' N':Nat) (t':rX) (ts':List rX),1<=n'/\n'<=n/\(n'<n\/n'=n/\N'<=N0)/\xq l (vx n' l.length N') rs u v=AO/\H' fp=AM (.tup [.str "world",.ref t'])/\TabAt H' t' ts' (vx n' l.length N'))/\σ=[AM (.ref a),AM (.int f),AM (.int (n:Nat)),AM (.str (tx l)),AM (.ref t),AM (.ref pa),AM (.str (tx u)),AM (.str (tx v)),AM (.ref W),AM (.ref o),AM (.ref fp)]) ?_ ?_
  ·rfl'
   obtain⟨px,hPx,hPi⟩:=id hP9;refine#[_,.inl (SqL.of hPx),λhd hh=>?_];have sh:=zc (o:=.lst px) hh;refine va (sh.seq hS9) hB ∅ λc hc=>#[_,rfl,#[∅,∅],∅,?_];have c0:=bz (c / 3) (b:=3) ∅;have c1:=bB (c / 3) (b:=3) ∅;have hTk:=hTb9.same sh;obtain⟨tp,htp,_⟩:=id hTk;rw[show c / 3 % 3=((c / 3 % 3).toNat:Int) by lia];refine#[o,hd,k,l,ws,rs,u,v,_,n,rfl,ho.same sh,hG,#[px,ze,Iss.same sh _ _ hPi],⋯,λp hp=>#[by have:=hPG p hp;lia,by have:=hPG p hp;lia,(hPG p hp).2.2],⋯,⋯,hui,hvi,⋯,⋯,hTb,hTk,λp H' sT hTk' hJ=>?_];refine#[(hP9.same sh).samT sT htp,(hT9.same sh).samT sT htp,p,hJ.ans ⋯,?_,rfl]
   cases hJ with
   | alike w es i j S hc hb hi hj he hl hp hS =>
    have hE:=(zdR (rs:=rs) hG hc (zdL λp hp=>#[by have:=hPG p hp;lia,by have:=hPG p hp;lia,(hPG p hp).2.2]) (λe he=>Kv he) #[λe h=>(nomatch h),.inl rfl]).1;rw[Kr hG5 (zae (Ke _) (λp hp=>zch hp) (QY hE hi hj he))]at hfit;cases hfit
   | forms es i j D hc hb hi hj hx hp hD=>exact .inl #[D,_,_,hp,hx]
   | world w es n' N' t' ts' hc hb hno h1 h2 h3 h4 h5 hp ht =>
    refine .inr #[n',h1,h2,N',?_,h4,t',hp,ts',ht];rcases cG n' n with g | g
    ·exact .inl g
    ·have g':n'=n:=⋯;subst g';refine .inr #[rfl,cF λg2=>?_];have:=h5 n' N0 h1 hN0 (.inr #[rfl,g2]);rw[e0,hfit]at this;cases this
   | open_ w es hc hb hno h5 hp =>
    have:=h5 n N0 ⋯ hN0 (.inl ⋯);rw[e0,hfit]at this;cases this
  rintro σ H10 ⟨fp,hP10,hT10,hA,hc,rfl⟩:_;right;refine zj (λσ H'=>Same H10 H'/\σ=[AM (.ref a),AM (.int f),AM (.int (n:Nat)),AM (.str (tx l)),AM (.ref t),AM (.ref pa),AM (.str (tx u)),AM (.str (tx v)),AM (.ref W),AM (.ref o),AM (.ref fp)]) ?_ ?_
  ·rfl'
   refine#[⋯,fp,l,rfl,l6,hA,λH' s'=>#[AO,rfl,Zy ?_]];rcases id hc with ⟨D,x,y,h,hxy⟩ | ⟨n',N',t',ts',h1,h2,h3,h4,h,ht⟩
   ·exact#[_,SqT.of (s' _ _ h),_,rfl,rfl,yo (λz=>absurd rfl z) λ_=>s']
   ·exact#[_,SqT.of (s' _ _ h),_,rfl,rfl,yo (λ_=>#[_,SqT.of (s' _ _ h),_,rfl,rfl,yo (λz=>absurd rfl z) λ_=>s']) λ_=>s']
  rintro σ H11 ⟨s11,rfl⟩:_;right;rcases hc with ⟨D,x,y,h,hxy⟩ | ⟨n',N',t',ts',h1,h2,h3,h4,h,ht⟩
  ·refine ZW (λ_ _=>False) ?_ λ_ _ h=>h.elim
   rfl'
   refine#[_,SqT.of (s11 _ _ h),_,rfl,rfl,yo (λ_=>#[_,SqT.of (s11 _ _ h),_,rfl,_,SqT.of (s11 _ _ h),_,rfl,rfl,?_]) λz=>absurd rfl z];rw[decide_eq_false λe=>hxy (uT (V.str.inj e))];exact q _
  ·refine zj (λσ H'=>H'=H11/\σ=[AM (.ref a),AM (.int f),AM (.int (n:Nat)),AM (.str (tx l)),AM (.ref t),AM (.ref pa),AM (.str (tx u)),AM (.str (tx v)),AM (.ref W),AM (.ref o),AM (.ref fp)]) ?_ ?_
   ·rfl'
    exact#[_,SqT.of (s11 _ _ h),_,rfl,rfl,yo (λz=>absurd z ∅) λ_=>trivial]
   rintro σ H12 ⟨rfl,rfl⟩:_;have hT12:=hT10.same s11;have ht12:=ht.same s11;have hP12:=hP10.same s11;have hG12:=kZ (l:=l) N' h1 (show n'<=8 by lia);right;refine zj (λσ H'=>Same H12 H'/\σ=[AM (.ref a),AM (.int f),AM (.int (n:Nat)),AM (.str (tx l)),AM (.ref t),AM (.ref pa),AM (.str (tx u)),AM (.str (tx v)),AM (.ref W),AM (.ref o),AM (.ref fp)]) ?_ ?_
   ·rfl'
    have h':=s11 _ _ h;have L1:((ts'.map V.ref).length:Int)=(n':Int):=by rw[ac,ht12.len,qK]
    have L2:((ts.map V.ref).length:Int)=(n:Int):=by rw[ac,hT12.len,htl]
    refine#[_,SqT.of h',_,rfl,_,.inl #[_,SqL.of ht12.top,rfl],_,SqT.of h',_,rfl,⋯,λp hp=>#[_,.inl #[_,SqL.of (zc hp _ _ hT12.top),rfl],⋯,λp1 hp1=>?_]];rw[L1,L2]at *
    have i1:Iss K H12 [.int (n':Int),.lst ((vx n' l.length N').map ZR)] [.int (n':Int),.ref t']:=by
     have e:=ht12.is (K:=K)
     erw[Iss]
     exact#[_,_,rfl,by erw[Is],_,_,rfl,e,rfl]
    have i2:Iss K (upd H12 p (.tup [.int (n':Int),.ref t'])) [.int (n:Int),.lst (tab.map ZR)] [.int (n:Int),.ref t]:=by
     have e:=(hT12.same (zc (o:=.tup [.int (n':Int),.ref t']) hp)).is (K:=K)
     erw[Iss]
     exact#[_,_,rfl,by erw[Is],_,_,rfl,e,rfl]
    refine#[_,_,Is.same (zc hp1) _ _ (Is.tup hp i1),Is.tup hp1 i2,?_,?_,?_]
    ·have:=zbY (vx n' l.length N')
     erw[dpD,uP]
     lia
    ·erw[okD,ql]
     exact#[trivial,X3 _ _,trivial]
    ·rw[<- e0,QW ⋯ hN0 h3];have ss:=(zc (o:=.tup [.int (n':Int),.ref t']) hp).trans (zc (o:=.tup [.int (n:Int),.ref t]) hp1);refine#[AQ,rfl,?_];rw[if_neg aw];unfold xq at h4;rw[bE]at h4;refine#[_,SqT.of (ss _ _ h'),_,rfl,ka (ht12.same ss) hG12 (hP12.same ss) (λp hp=>(hPG p hp).2.2) #[AO,?_,Zy ss]];rw[holdsB_iff.mpr (qC h4.2)]
   rintro σ H13 ⟨s13,rfl⟩:_;right
   rfl'
   have h':=s13 _ _ (s11 _ _ h);have ht13:=ht12.same s13;have lo:=hG12.lo;refine#[_,SqT.of h',_,rfl,w8 ht13 hG12 ⋯ ⋯ hui #[_,SqT.of h',_,rfl,w8 ht13 hG12 ⋯ ⋯ hvi #[rfl,?_]]];unfold xq at h4;rw[bE]at h4;rw[decide_eq_false λe=>of_decide_eq_true h4.1 (V.int.inj e)];exact q _
end
def FnE(K:rW)(x q:sk)(st:sv)(f:rX):Prop:=∃fd,Fun K x q st f fd
def FnA(K:rW)(x:sk)(st:sv)(f:rX):Prop:=au K rS x=AM (AM (.ref f))/\FnE K x x st f
theorem FnA.mk{K:rW}{x:sk}{st:sv}{h:su}{mg:sk->Option rY}(q:FnA K x st f)(X:K.In h)(G:h.Ns rS mg):mg x=AM (.ref f)/\aF K (.ref f)=AO/\FnE K x x st f:=by
 obtain⟨a,fd,F⟩:=q;exact#[aC X G a,F.kp,fd,F]
theorem YL{us:List rY}(h:us.length=1):∃a,us=[a]:=List.length_eq_one_iff.mp h
theorem vn{us:List rY}(h:us.length=2):∃a0 a1,us=[a0,a1]:=by
 cases us with
 | nil=>cases h
 | cons a r =>
  obtain⟨a1,rfl⟩:=YL (Nat.succ.inj h);exact#[a,a1,rfl]
theorem j6{us:List rY}(h:us.length=3):∃a0 a1 a2,us=[a0,a1,a2]:=by
 cases us with
 | nil=>cases h
 | cons a r =>
  obtain⟨a1,a2,rfl⟩:=vn (Nat.succ.inj h);exact#[a,a1,a2,rfl]
theorem zap{us:List rY}(h:us.length=4):∃a0 a1 a2 a3,us=[a0,a1,a2,a3]:=by
 cases us with
 | nil=>cases h
 | cons a r =>
  obtain⟨a1,a2,a3,rfl⟩:=j6 (Nat.succ.inj h);exact#[a,a1,a2,a3,rfl]
theorem zet{us:List rY}(h:us.length=5):∃a0 a1 a2 a3 a4,us=[a0,a1,a2,a3,a4]:=by
 cases us with
 | nil=>cases h
 | cons a r =>
  obtain⟨a1,a2,a3,a4,rfl⟩:=zap (Nat.succ.inj h);exact#[a,a1,a2,a3,a4,rfl]
theorem zfv{us:List rY}(h:us.length=6):∃a0 a1 a2 a3 a4 a5,us=[a0,a1,a2,a3,a4,a5]:=by
 cases us with
 | nil=>cases h
 | cons a r =>
  obtain⟨a1,a2,a3,a4,a5,rfl⟩:=zet (Nat.succ.inj h);exact#[a,a1,a2,a3,a4,a5,rfl]
theorem zf9{us:List rY}(h:us.length=7):∃a0 a1 a2 a3 a4 a5 a6,us=[a0,a1,a2,a3,a4,a5,a6]:=by
 cases us with
 | nil=>cases h
 | cons a r =>
  obtain⟨a1,a2,a3,a4,a5,a6,rfl⟩:=zfv (Nat.succ.inj h);exact#[a,a1,a2,a3,a4,a5,a6,rfl]
theorem dfm(P:sj)(w:so){K:rW}{mg:sk->Option rY}(base:su){CX:CXT}{nm:sk}{ps:List sk}{sp:Sp}(h:zQ P w K mg base CX k f fd ps sp)(m:mg nm=AM (.ref f))(p:aF K (.ref f)=AO)(b:Binds K fd ps []):Df P w K mg base CX k nm ps [] sp:=#[_,_,h,m,p,b]
local macro_rules | `(tactic| injections)=>`(tactic| (intro _ _ _ _ _ _ us hl;first | (obtain⟨_,e⟩:=YL hl;subst e;rfl) | (obtain⟨_,_,e⟩:=vn hl;subst e;rfl) | (obtain⟨_,_,_,e⟩:=j6 hl;subst e;rfl) | (obtain⟨_,_,_,_,e⟩:=zap hl;subst e;rfl) | (obtain⟨_,_,_,_,_,e⟩:=zet hl;subst e;rfl) | (obtain⟨_,_,_,_,_,_,e⟩:=zfv hl;subst e;rfl)))
theorem all_mk{l:PySem.W.OpenLaw}{w:so}{K:rW}{h:su}{mg:sk->Option rY}{fa f0 f1 f2 f3 f4 f5 f6 f7 f8 f9 f10 f11 f12 f13 f14 f15 f16 f17 f18 f19 f20 f21 f22 f23 f24 f25 f26 f27 f28 f29 f30 f31 f32 f33 f34 f35 f36 f37 f38 f39 f40 f41 f42 f43 f44 f45 f46 f47 f48 f49 f50 f51 f52 f53 f54 f55 f56 pF gg gn gb fZ fY gd ge gu gf gp gc gq:rX}{cc TB:rX}(X:K.In h)(G:h.Ns rS mg)(hfa:mg "law" = AM (.ref fa))(hlam:∃a o fd,mg "in_order" = AM (.ref a)/\h.get? a=AM o/\o.data=.func fd/\fd.code=.ref cc)(hgT:rS≠TB)
{od6 an6 od12 an12 od30 an30 od56 an56:Option rX}{sl6 sl12 sl30 sl56:Array (Option rY)}{oc6 kV6 dc6 pm6 cd6 ct6 oc12 kV12 dc12 pm12 cd12 ct12 oc30 kV30 dc30 pm30 cd30 ct30 oc56 kV56 dc56 pm56 cd56 ct56:rY}
  {t6 t7:tT}
  {fI:rX}
  {odI anI:Option rX}
  {slI:Array (Option rY)}
  {ocI kVI dcI pmI cdI ctI:rY}
  {t8:tT}
  {fU:rX}
  {odU anU:Option rX}
  {slU:Array (Option rY)}
  {ocU kVU dcU pmU cdU ctU:rY}
  {t9:tT}
  {tmt:tT}
  {tmu tms tmd tmp:tT}
  {tcu tce tcd tcp:tT}
  {tju tjs:tT}
  {gJ:rX}
  {gZ:rX}
  {iD:rX}
  {im:rX}
  {io:rX}
  {gP:rX}
  {gK:rX}
  {gx:rX}
  {lh:rX}
  {gB:rX}
  {lC:rX}
  {li:rX}
  {me:rX}
  {iL:rX}
  {iM:rX}
  {nU:rX}
  {iJ:tT}
  {d1_gone:rY}
  {d2_gone:Option rX}
  {d3_gone:Nat}
  {d4_gone:Array (Option rY)}
  {mV:rX}
  {mU:tT}
  {d1_unmet:rY}
  {d2_unmet:Option rX}
  {d3_unmet:Nat}
  {d4_unmet:Array (Option rY)}
  (a0:FnA K "is_small_letter" yK f0)
  (a1:FnA K "letters_of" wG f1)
  (a2:FnA K "stands_at" vB f2)
  (a3:FnA K "put" zaV f3)
  (a4:FnA K "first_within" xC f4)
  (a5:FnA K "first_from" wA f5)
  (a6:au K rS "gone" = AM (AM (.ref f6))) (l6:K.lookup f6=AM #[oc6,od6,.func (bj "gone" "gone" (yA vw) (yc vw) (zh vw) (.ref nU) kV6 dc6 pm6 an6 cd6 ct6),sl6]) (k6:bN K cd6 "gone" = AO) (p6:aF K (.ref f6)=AO)
  (a7:FnA K "back" Wy f7)
  (a8:FnA K "moved" Zx f8)
  (a9:FnA K "by_pacts" uA f9)
  (a10:FnA K "pairs_of" vk f10)
  (a11:FnA K "as_rule" qL f11)
  (a12:au K rS "in_order" = AM (AM (.ref f12))) (l12:K.lookup f12=AM #[oc12,od12,.func (bj "in_order" "in_order" (yA yz) (yc yz) (zh yz) .none kV12 dc12 pm12 an12 cd12 ct12),sl12]) (k12:bN K cd12 "in_order" = AO) (p12:aF K (.ref f12)=AO)
  (a13:FnA K "brought_down" xH f13)
  (a14:FnA K "refuse_beyond" xf f14)
  (a15:FnA K "built_anew" wx f15)
  (a16:FnA K "thinned" jF f16)
  (a17:FnA K "_law_cell" Q2 f17)
  (a18:FnA K "_law_mixed" Xq f18)
  (a19:FnA K "_law_letters" qB f19)
  (a20:FnA K "_law_word" V6 f20)
  (a21:FnA K "_law_pair" Qk f21)
  (a22:FnA K "_law_whole" Xi f22)
  (a23:FnA K "_law_steps" YR f23)
  (a24:FnA K "_law_order" XA f24)
  (a25:FnA K "agree" YN f25)
  (a26:FnA K "overlaps" uH f26)
  (a27:FnA K "peak" UP f27)
  (a28:FnA K "form_of" qN f28)
  (a29:FnA K "is_met" Zm f29)
  (a30:au K rS "unmet" = AM (AM (.ref f30))) (l30:K.lookup f30=AM #[oc30,od30,.func (bj "unmet" "unmet" (yA xI) (yc xI) (zh xI) (.ref mV) kV30 dc30 pm30 an30 cd30 ct30),sl30]) (k30:bN K cd30 "unmet" = AO) (p30:aF K (.ref f30)=AO)
  (a31:FnA K "system_by" vF f31)
  (a32:FnA K "first_entries" yB f32)
  (a33:FnA K "is_beyond" wl f33)
  (a34:FnA K "thinned_within" yT f34)
  (a35:FnA K "unmet_within" xF f35)
  (a36:FnA K "entry_of" uE f36)
  (a37:FnA K "completed" wa f37)
  (a38:FnA K "table_of" wX f38)
  (a39:FnA K "table_count" xZ f39)
  (a40:FnA K "tables_within" xo f40)
  (a41:FnA K "table_at" vh f41)
  (a42:FnA K "tells_apart" wg f42)
  (a43:FnA K "world_apart" wc f43)
  (a44:FnA K "gone_within" xX f44)
  (a45:FnA K "judged_by_roads" yJ f45)
  (a46:FnA K "judged_by_worlds" yD f46)
  (a47:FnA K "judged" kJ f47)
  (a48:FnA K "_law_entries" qR f48)
  (a49:FnA K "_law_table_ok" wZ f49)
  (a50:FnA K "_law_answer" kE f50)
  (a51:FnA K "_law_led" zb5 f51)
  (a52:FnA K "_law_holds" YT f52)
  (a53:FnA K "_law_two" zbL f53)
  (a54:FnA K "_law_kept" V7 f54)
  (a55:FnA K "_law_world" YU f55)
  (a56:au K rS "law" = AM (AM (.ref f56))) (l56:K.lookup f56=AM #[oc56,od56,.func (bj "law" "law" (yA jN) (yc jN) (zh jN) .none kV56 dc56 pm56 an56 cd56 ct56),sl56]) (k56:bN K cd56 "law" = AO) (p56:aF K (.ref f56)=AO)
  (g_LetterError:au K rS "LetterError" = AM (AM (.ref pF)))
  (g_NoLetters:au K rS "NoLetters" = AM (AM (.ref gg)))
  (g_NoOrder:au K rS "NoOrder" = AM (AM (.ref gn)))
  (g_Order:au K rS "Order" = AM (AM (.ref gb)))
  (g_FromRight:au K rS "FromRight" = AM (AM (.ref fZ)))
  (g_ByWeights:au K rS "ByWeights" = AM (AM (.ref fY)))
  (g_NotTurned:au K rS "NotTurned" = AM (AM (.ref gd)))
  (g_System:au K rS "System" = AM (AM (.ref ge)))
  (g_NoUse:au K rS "NoUse" = AM (AM (.ref gu)))
  (g_TooFar:au K rS "TooFar" = AM (AM (.ref gf)))
  (g_NoWorld:au K rS "NoWorld" = AM (AM (.ref gp)))
  (g_World:au K rS "World" = AM (AM (.ref gc)))
  (g_TooMany:au K rS "TooMany" = AM (AM (.ref gq)))
  (kbb:aL K (.type "bool") (.type "bool")=AM AO)
  (kt:aL K (.type "tuple") (.type "tuple")=AM AO)
  (ki:aL K (.type "int") (.type "int")=AM AO)
  (kb:aL K (.type "int") (.type "bool")=AM AQ)
  (kl:aL K (.type "list") (.type "list")=AM AO)
  (x7:cB K (.builtin "object.__class__") "__get__" = AM (AM (.builtin "getset_descriptor.__get__")))
  (x8:dA K (.builtin "object.__class__")=AM AO)
  (x1:ZP K gg=AO)
  (x2:af K (.ref gg) "__setattr__" = AM (AM (.builtin "object.__setattr__")))
  (x3:af K (.ref gg) "__getattribute__" = AM (AM (.builtin "BaseException.__getattribute__")))
  (x4:af K (.ref gg) "__getattr__" = AM AN)
  (x5:aF K (.ref gg)=AO)
  (x6:af K (.ref gg) "__class__" = AM (AM (.builtin "object.__class__")))
  (x9:bt K gg (.type "object")=AM AO)
  (xi:af K (.ref gg) "__init__" = AM (AM (.builtin "ValueError.__init__")))
  (y1:ZP K gn=AO)
  (y2:af K (.ref gn) "__setattr__" = AM (AM (.builtin "object.__setattr__")))
  (y3:af K (.ref gn) "__getattribute__" = AM (AM (.builtin "BaseException.__getattribute__")))
  (y4:af K (.ref gn) "__getattr__" = AM AN)
  (y5:aF K (.ref gn)=AO)
  (y6:af K (.ref gn) "__class__" = AM (AM (.builtin "object.__class__")))
  (y9:bt K gn (.type "object")=AM AO)
  (yi:af K (.ref gn) "__init__" = AM (AM (.builtin "ValueError.__init__")))
  (most:au K rS "MOST_LETTERS" = AM (AM (.int 6 t6)))
  (mostw:au K rS "MOST_WEIGHT" = AM (AM (.int 1000000 t7)))
  (ot:bK K gb dY=AO)
  (ou:bP K gb=AO)
  (ow:cf K gb=AO)
  (oy:af K (.ref gb) "__setattr__" = AM (AM (.builtin "object.__setattr__")))
  (oz:cz K gb=AO)
  (oB:aF K (.ref gb)=AO)
  (oE:af K (.ref gb) "letters" = AM AN)
  (pS:aL K (.ref gb) (.ref gb)=AM AO)
  (pT:af K (.ref gb) "__class__" = AM (AM (.builtin "object.__class__")))
  (pV:bt K gb (.type "object")=AM AO)
  (mf:bK K fZ dY=AO)
  (mh:bP K fZ=AO)
  (mi:cf K fZ=AO)
  (mj:af K (.ref fZ) "__setattr__" = AM (AM (.builtin "object.__setattr__")))
  (ml:cz K fZ=AO)
  (mm:aF K (.ref fZ)=AO)
  (mq:af K (.ref fZ) "letters" = AM AN)
  (nC:aL K (.ref fZ) (.ref gb)=AM AO)
  (nE:af K (.ref fZ) "__class__" = AM (AM (.builtin "object.__class__")))
  (nF:bt K fZ (.type "object")=AM AO)
  (mr:bK K fY dY=AO)
  (mw:bP K fY=AO)
  (mx:cf K fY=AO)
  (my:af K (.ref fY) "__setattr__" = AM (AM (.builtin "object.__setattr__")))
  (mz:cz K fY=AO)
  (mB:aF K (.ref fY)=AO)
  (mC:af K (.ref fY) "letters" = AM AN)
  (nG:aL K (.ref fY) (.ref gb)=AM AO)
  (nH:af K (.ref fY) "__class__" = AM (AM (.builtin "object.__class__")))
  (nI:bt K fY (.type "object")=AM AO)
  (nw_ByWeights:af K (.ref fY) "weights" = AM AN)
  (sgO:cB K (.ref gb) "__getattribute__" = AM (AM (.builtin "type.__getattribute__")))
  (rdO:fR K gb (.type "type")=AO)
  (win:au K rS "WINDOW" = AM (AM (.int 128 t8)))
  (tt1:ZP K gd=AO)
  (tt2:af K (.ref gd) "__setattr__" = AM (AM (.builtin "object.__setattr__")))
  (tt3:af K (.ref gd) "__getattribute__" = AM (AM (.builtin "BaseException.__getattribute__")))
  (tt4:af K (.ref gd) "__getattr__" = AM AN)
  (tt5:aF K (.ref gd)=AO)
  (tt6:af K (.ref gd) "__class__" = AM (AM (.builtin "object.__class__")))
  (tt9:bt K gd (.type "object")=AM AO)
  (nn:af K (.ref gd) "number" = AM AN)
  (ini:af K (.ref gd) "__init__" = AM (AM (.ref fI)))
  (lI:K.lookup fI=AM #[ocI,odI,.func (bj "__init__" "NotTurned.__init__" (yA zV) (yc zV) (zh zV) .none kVI dcI pmI anI cdI ctI),slI])
  (kI:bN K cdI "NotTurned.__init__" = AO)
  (pI:aF K (.ref fI)=AO)
  (fnI:aS K (.ref fI)=AO)
  (nJ:bK K ge dY=AO)
  (nL:bP K ge=AO)
  (nM:cf K ge=AO)
  (nN:af K (.ref ge) "__setattr__" = AM (AM (.builtin "object.__setattr__")))
  (nO:cz K ge=AO)
  (nP:aF K (.ref ge)=AO)
  (no_System:af K (.ref ge) "order" = AM AN)
  (nr_System:af K (.ref ge) "rules" = AM AN)
  (u1:ZP K gu=AO)
  (u2:af K (.ref gu) "__setattr__" = AM (AM (.builtin "object.__setattr__")))
  (u3:af K (.ref gu) "__getattribute__" = AM (AM (.builtin "BaseException.__getattribute__")))
  (u4:af K (.ref gu) "__getattr__" = AM AN)
  (u5:aF K (.ref gu)=AO)
  (u6:af K (.ref gu) "__class__" = AM (AM (.builtin "object.__class__")))
  (u9:bt K gu (.type "object")=AM AO)
  (ua:af K (.ref gu) "at" = AM AN)
  (iniU:af K (.ref gu) "__init__" = AM (AM (.ref fU)))
  (lU:K.lookup fU=AM #[ocU,odU,.func (bj "__init__" "NoUse.__init__" (yA yy) (yc yy) (zh yy) .none kVU dcU pmU anU cdU ctU),slU])
  (kU:bN K cdU "NoUse.__init__" = AO)
  (pU:aF K (.ref fU)=AO)
  (fnU:aS K (.ref fU)=AO)
  (v1:ZP K gf=AO)
  (v2:af K (.ref gf) "__setattr__" = AM (AM (.builtin "object.__setattr__")))
  (v3:af K (.ref gf) "__getattribute__" = AM (AM (.builtin "BaseException.__getattribute__")))
  (v4:af K (.ref gf) "__getattr__" = AM AN)
  (v5:aF K (.ref gf)=AO)
  (v6:af K (.ref gf) "__class__" = AM (AM (.builtin "object.__class__")))
  (v9:bt K gf (.type "object")=AM AO)
  (vi:af K (.ref gf) "__init__" = AM (AM (.builtin "ValueError.__init__")))
  (sFF:cY K (.ref gf) (.ref gf)=AM AO)
  (nw1:ZP K gp=AO)
  (nw2:af K (.ref gp) "__setattr__" = AM (AM (.builtin "object.__setattr__")))
  (nw3:af K (.ref gp) "__getattribute__" = AM (AM (.builtin "BaseException.__getattribute__")))
  (nw4:af K (.ref gp) "__getattr__" = AM AN)
  (nw5:aF K (.ref gp)=AO)
  (nw6:af K (.ref gp) "__class__" = AM (AM (.builtin "object.__class__")))
  (nw9:bt K gp (.type "object")=AM AO)
  (nwi:af K (.ref gp) "__init__" = AM (AM (.builtin "ValueError.__init__")))
  (mostr:au K rS "MOST_ROOMS" = AM (AM (.int 8 t9)))
  (oF:bK K gc dY=AO)
  (oG:bP K gc=AO)
  (oH:cf K gc=AO)
  (oJ:af K (.ref gc) "__setattr__" = AM (AM (.builtin "object.__setattr__")))
  (oK:cz K gc=AO)
  (oM:aF K (.ref gc)=AO)
  (oN:af K (.ref gc) "letters" = AM AN)
  (nt_World:af K (.ref gc) "table" = AM AN)
  (w1:ZP K gq=AO)
  (w2:af K (.ref gq) "__setattr__" = AM (AM (.builtin "object.__setattr__")))
  (w3:af K (.ref gq) "__getattribute__" = AM (AM (.builtin "BaseException.__getattribute__")))
  (w4:af K (.ref gq) "__getattr__" = AM AN)
  (w5:aF K (.ref gq)=AO)
  (w6:af K (.ref gq) "__class__" = AM (AM (.builtin "object.__class__")))
  (w9:bt K gq (.type "object")=AM AO)
  (wi:af K (.ref gq) "__init__" = AM (AM (.builtin "ValueError.__init__")))
  (mostt:au K rS "MOST_TABLES" = AM (AM (.int 1000 tmt)))
  (ks:aL K (.type "str") (.type "str")=AM AO)
  (nany:au K rS "any" = AM AN)
  (nsorted:au K rS "sorted" = AM AN)
  (mou:au K rS "MOST_USES_thinning" = AM (AM (.int 40 tmu)))
  (mos:au K rS "MOST_STEPS_thinning" = AM (AM (.int 240 tms)))
  (mod_:au K rS "MOST_SIDE_thinning" = AM (AM (.int 60 tmd)))
  (mop:au K rS "MOST_PASSES" = AM (AM (.int 20 tmp)))
  (mcu:au K rS "MOST_USES_completing" = AM (AM (.int 40 tcu)))
  (mce:au K rS "MOST_ENTRIES" = AM (AM (.int 12 tce)))
  (mcd:au K rS "MOST_SIDE_completing" = AM (AM (.int 10 tcd)))
  (mcp:au K rS "MOST_PEAKS" = AM (AM (.int 8 tcp)))
  (mju:au K rS "MOST_USES_judging" = AM (AM (.int 40 tju)))
  (mjs:au K rS "MOST_STEPS_judging" = AM (AM (.int 2000 tjs)))
  (lD:af K (.ref gb) "__init__" = AM (AM (.ref gJ)))
  (lE:FnE K "__init__" "Order.__init__" wF gJ)
  (iE:aS K (.ref gJ)=AO)
  (iN:af K (.ref gb) "weight" = AM (AM (.ref gZ)))
  (iO:FnE K "weight" "Order.weight" xG gZ)
  (ic:aS K (.ref gZ)=AO)
  (lF:af K (.ref gb) "seen" = AM (AM (.ref iD)))
  (lG:FnE K "seen" "Order.seen" wz iD)
  (iF:aS K (.ref iD)=AO)
  (ip:af K (.ref fZ) "seen" = AM (AM (.ref im)))
  (iq:FnE K "seen" "FromRight.seen" yV im)
  (ir:aS K (.ref im)=AO)
  (iu:af K (.ref fY) "__init__" = AM (AM (.ref io)))
  (iw:FnE K "__init__" "ByWeights.__init__" yX io)
  (iz:aS K (.ref io)=AO)
  (gQ:af K (.ref fY) "weight" = AM (AM (.ref gP)))
  (gT:FnE K "weight" "ByWeights.weight" yg gP)
  (gU:aS K (.ref gP)=AO)
  (lH:af K (.ref gb) "rank" = AM (AM (.ref gK)))
  (lJ:FnE K "rank" "Order.rank" xz gK)
  (gL:aS K (.ref gK)=AO)
  (iP:af K (.ref gb) "before" = AM (AM (.ref gx)))
  (iQ:FnE K "before" "Order.before" xL gx)
  (gy:aS K (.ref gx)=AO)
  (lj:af K (.ref ge) "__init__" = AM (AM (.ref lh)))
  (lm:FnE K "__init__" "System.__init__" x0 lh)
  (ln:aS K (.ref lh)=AO)
  (gC:af K (.ref ge) "rules_told" = AM (AM (.ref gB)))
  (gD:FnE K "rules_told" "System.rules_told" yw gB)
  (gE:aS K (.ref gB)=AO)
  (lK:af K (.ref gc) "__init__" = AM (AM (.ref lC)))
  (lL:FnE K "__init__" "World.__init__" wK lC)
  (lM:aS K (.ref lC)=AO)
  (lr:af K (.ref gc) "rooms" = AM (AM (.ref li)))
  (lu:FnE K "rooms" "World.rooms" xY li)
  (lv:aS K (.ref li)=AO)
  (mD:af K (.ref gc) "led" = AM (AM (.ref me)))
  (mE:FnE K "led" "World.led" vH me)
  (mF:aS K (.ref me)=AO)
  (iR:af K (.ref gc) "parted" = AM (AM (.ref iL)))
  (iS:FnE K "parted" "World.parted" xE iL)
  (iT:aS K (.ref iL)=AO)
  (iU:af K (.ref gc) "broken" = AM (AM (.ref iM)))
  (iV:FnE K "broken" "World.broken" xD iM)
  (iW:aS K (.ref iM)=AO)
  (nV:K.lookup nU=AM #[d1_gone,d2_gone,.seq #[.int 4000 iJ] d3_gone,d4_gone])
  (mX:K.lookup mV=AM #[d1_unmet,d2_unmet,.seq #[.int 4000 mU] d3_unmet,d4_unmet])
  (fcO:fS K (.ref gb) (.type "type") "__init__" = AM (.val (.ref gJ)))
  (fiR_init:af K (.ref fZ) "__init__" = AM (AM (.ref gJ)))
  (fiR_weight:af K (.ref fZ) "weight" = AM (AM (.ref gZ)))
  (fiW_seen:af K (.ref fY) "seen" = AM (AM (.ref iD)))
  (fiR_rank:af K (.ref fZ) "rank" = AM (AM (.ref gK)))
  (fiW_rank:af K (.ref fY) "rank" = AM (AM (.ref gK)))
  (fiR_before:af K (.ref fZ) "before" = AM (AM (.ref gx)))
  (fiW_before:af K (.ref fY) "before" = AM (AM (.ref gx)))
  (b0:au K rS "len" = AM AN)
  (b1:au K rS "range" = AM AN)
  (b2:au K rS "isinstance" = AM AN)
  (b3:au K rS "str" = AM AN)
  (b4:au K rS "int" = AM AN)
  (b5:au K rS "tuple" = AM AN)
  (b6:au K rS "list" = AM AN)
  (b7:au K rS "bool" = AM AN)
  (b8:au K rS "enumerate" = AM AN)
  (b9:au K rS "all" = AM AN)
  (b10:au K rS "ValueError" = AM AN)
  (b11:au K rS "max" = AM AN)
  (b12:au K rS "reversed" = AM AN)
  (b13:au K rS "zip" = AM AN)
  (b14:au K rS "sum" = AM AN)
  (b15:au K rS "sorted" = AM AN)
  : ∃fd:sf,(∀(s:rZ) (v:rY),Am s fd #[[v],[]] [("_law_script",v)])/\∀base:su,K.In base->base.Ns rS mg->base.BuiltinsAt mg TB->PySem.W.CodeHd base cc TB->zQ l.prog w K mg base CX0 12 fa fd ["_law_script"] (Wc K TB):=by
 have e:=hfa.symm.trans (aC X G a56);cases e;have B:Bt mg:=#[aK X G b0,aK X G b1,aK X G b2,aK X G b3,aK X G b4,aK X G b5,aK X G b6,aK X G b7,aK X G b8,aK X G b9,aK X G b10,aK X G b11,aK X G b12,aK X G b13,aK X G b14,aK X G b15];obtain⟨M0,p0,_,F0⟩:=a0.mk X G;have B0:=F0.binds (ps:=["sign"]) (by injections);obtain⟨M1,p1,_,F1⟩:=a1.mk X G;have B1:=F1.binds (ps:=["text"]) (by injections);obtain⟨M2,p2,_,F2⟩:=a2.mk X G;have B2:=F2.binds (ps:=["word","place","part"]) (by injections);obtain⟨M3,p3,_,F3⟩:=a3.mk X G;have B3:=F3.binds (ps:=["word","place","old","new"]) (by injections);obtain⟨M4,p4,_,F4⟩:=a4.mk X G;have B4:=F4.binds (ps:=["rules","word","start","end"]) (by injections);obtain⟨M5,p5,_,F5⟩:=a5.mk X G;have B5:=F5.binds (ps:=["rules","word","start"]) (by injections);have F6:FunD K "gone" "gone" vw (.ref nU) f6 (bj "gone" "gone" (yA vw) (yc vw) (zh vw) (.ref nU) kV6 dc6 pm6 an6 cd6 ct6):=⟨#[_,_,_,_,_,_,_,_,_,rfl,l6,k6]⟩;have M6:=aC X G a6;obtain⟨M7,p7,_,F7⟩:=a7.mk X G;have B7:=F7.binds (ps:=["steps"]) (by injections);obtain⟨M8,p8,_,F8⟩:=a8.mk X G;have B8:=F8.binds (ps:=["steps","size"]) (by injections);obtain⟨M9,p9,_,F9⟩:=a9.mk X G;have B9:=F9.binds (ps:=["entries","steps"]) (by injections);obtain⟨M10,p10,_,F10⟩:=a10.mk X G;have B10:=F10.binds (ps:=["entries"]) (by injections);obtain⟨M11,p11,_,F11⟩:=a11.mk X G;have B11:=F11.binds (ps:=["order","entry"]) (by injections);have F12:=fun_mk (st:=yz) l12 k12 p12;have B12:=F12.binds (ps:=["order","entries"]) (by injections);have M12:=aC X G a12;obtain⟨M13,p13,_,F13⟩:=a13.mk X G;have B13:=F13.binds (ps:=["entries","entry"]) (by injections);obtain⟨M14,p14,_,F14⟩:=a14.mk X G;have B14:=F14.binds (ps:=["entry"]) (by injections);obtain⟨M15,p15,_,F15⟩:=a15.mk X G;have B15:=F15.binds (ps:=["order","entries"]) (by injections);obtain⟨M16,p16,_,F16⟩:=a16.mk X G;have B16:=F16.binds (ps:=["order","entries"]) (by injections);obtain⟨M17,p17,_,F17⟩:=a17.mk X G;have B17:=F17.binds (ps:=["_law_script","_law_k"]) (by injections);obtain⟨M18,p18,_,F18⟩:=a18.mk X G;have B18:=F18.binds (ps:=["_law_cell_here","_law_turn"]) (by injections);obtain⟨M19,p19,_,F19⟩:=a19.mk X G;have B19:=F19.binds (ps:=["_law_cell_here","_law_many"]) (by injections);obtain⟨M20,p20,_,F20⟩:=a20.mk X G;have B20:=F20.binds (ps:=["_law_number","_law_letters_here","_law_most"]) (by injections);obtain⟨M21,p21,_,F21⟩:=a21.mk X G;have B21:=F21.binds (ps:=["_law_cell_here","_law_letters_here","_law_most"]) (by injections);obtain⟨M22,p22,_,F22⟩:=a22.mk X G;have B22:=F22.binds (ps:=["_law_found"]) (by injections);obtain⟨M23,p23,_,F23⟩:=a23.mk X G;have B23:=F23.binds (ps:=["_law_found"]) (by injections);obtain⟨M24,p24,_,F24⟩:=a24.mk X G;have B24:=F24.binds (ps:=["_law_kind","_law_letters_here","_law_weights"]) (by injections);obtain⟨M25,p25,_,F25⟩:=a25.mk X G;have B25:=F25.binds (ps:=["one","other","place"]) (by injections);obtain⟨M26,p26,_,F26⟩:=a26.mk X G;have B26:=F26.binds (ps:=["rules"]) (by injections);obtain⟨M27,p27,_,F27⟩:=a27.mk X G;have B27:=F27.binds (ps:=["rules","overlap"]) (by injections);obtain⟨M28,p28,_,F28⟩:=a28.mk X G;have B28:=F28.binds (ps:=["rules","word","most","forms"]) (by injections);obtain⟨M29,p29,_,F29⟩:=a29.mk X G;have B29:=F29.binds (ps:=["rules","overlap","most","forms"]) (by injections);have F30:FunD K "unmet" "unmet" xI (.ref mV) f30 (bj "unmet" "unmet" (yA xI) (yc xI) (zh xI) (.ref mV) kV30 dc30 pm30 an30 cd30 ct30):=⟨#[_,_,_,_,_,_,_,_,_,rfl,l30,k30]⟩;have M30:=aC X G a30;obtain⟨M31,p31,_,F31⟩:=a31.mk X G;have B31:=F31.binds (ps:=["order","entries"]) (by injections);obtain⟨M32,p32,_,F32⟩:=a32.mk X G;have B32:=F32.binds (ps:=["pacts"]) (by injections);obtain⟨M33,p33,_,F33⟩:=a33.mk X G;have B33:=F33.binds (ps:=["entries"]) (by injections);obtain⟨M34,p34,_,F34⟩:=a34.mk X G;have B34:=F34.binds (ps:=["order","entries"]) (by injections);obtain⟨M35,p35,_,F35⟩:=a35.mk X G;have B35:=F35.binds (ps:=["order","entries"]) (by injections);obtain⟨M36,p36,_,F36⟩:=a36.mk X G;have B36:=F36.binds (ps:=["entries","overlap"]) (by injections);obtain⟨M37,p37,_,F37⟩:=a37.mk X G;have B37:=F37.binds (ps:=["order","pacts","rounds"]) (by injections);obtain⟨M38,p38,_,F38⟩:=a38.mk X G;have B38:=F38.binds (ps:=["letters","table"]) (by injections);obtain⟨M39,p39,_,F39⟩:=a39.mk X G;have B39:=F39.binds (ps:=["letters","rooms"]) (by injections);obtain⟨M40,p40,_,F40⟩:=a40.mk X G;have B40:=F40.binds (ps:=["letters","rooms"]) (by injections);obtain⟨M41,p41,_,F41⟩:=a41.mk X G;have B41:=F41.binds (ps:=["letters","rooms","number"]) (by injections);obtain⟨M42,p42,_,F42⟩:=a42.mk X G;have B42:=F42.binds (ps:=["world","pacts","one","other"]) (by injections);obtain⟨M43,p43,_,F43⟩:=a43.mk X G;have B43:=F43.binds (ps:=["letters","pacts","one","other","most"]) (by injections);obtain⟨M44,p44,_,F44⟩:=a44.mk X G;have B44:=F44.binds (ps:=["entries","word"]) (by injections);obtain⟨M45,p45,_,F45⟩:=a45.mk X G;have B45:=F45.binds (ps:=["whole","kept","one","other"]) (by injections);obtain⟨M46,p46,_,F46⟩:=a46.mk X G;have B46:=F46.binds (ps:=["letters","pacts","one","other","most"]) (by injections);obtain⟨M47,p47,_,F47⟩:=a47.mk X G;have B47:=F47.binds (ps:=["order","pacts","one","other","rounds","most"]) (by injections);obtain⟨M48,p48,_,F48⟩:=a48.mk X G;have B48:=F48.binds (ps:=["_law_found"]) (by injections);obtain⟨M49,p49,_,F49⟩:=a49.mk X G;have B49:=F49.binds (ps:=["_law_table","_law_many"]) (by injections);obtain⟨M50,p50,_,F50⟩:=a50.mk X G;have B50:=F50.binds (ps:=["_law_found","_law_many"]) (by injections);obtain⟨M51,p51,_,F51⟩:=a51.mk X G;have B51:=F51.binds (ps:=["_law_table","_law_letters_here","_law_room","_law_word_here"]) (by injections);obtain⟨M52,p52,_,F52⟩:=a52.mk X G;have B52:=F52.binds (ps:=["_law_table","_law_letters_here","_law_pairs"]) (by injections);obtain⟨M53,p53,_,F53⟩:=a53.mk X G;have B53:=F53.binds (ps:=["_law_cell_here","_law_table","_law_letters_here"]) (by injections);obtain⟨M54,p54,_,F54⟩:=a54.mk X G;have B54:=F54.binds (ps:=["_law_cells","_law_table","_law_letters_here"]) (by injections);obtain⟨M55,p55,_,F55⟩:=a55.mk X G;have B55:=F55.binds (ps:=["_law_cell_here","_law_rooms","_law_many"]) (by injections);have F56:=fun_mk (st:=jN) l56 k56 p56;have B56:=F56.binds (ps:=["_law_script"]) (by injections);have M56:=aC X G a56
 have HCC:cd12=.ref cc:=by
  obtain⟨ai,oi,fdi,m1,m2,m3,m4⟩:=hlam;have e1:=m1.symm.trans (aC X G a12);cases e1;have e2:=m2.symm.trans (X _ _ l12);cases e2;cases m3;exact m4
 refine#[bj "law" "law" (yA jN) (yc jN) (zh jN) .none kV56 dc56 pm56 an56 cd56 ct56,λs v=>.of_eq rfl,λbase _ _ HBT HCH=>?_];have XIl:XI K gg:=#[#[x1,x2,x3,x4,x5],x6,x7,x8,x9];have XIo:XI K gn:=#[#[y1,y2,y3,y4,y5],y6,x7,x8,y9];have TL:zfB K mg gg:=#[XIl,xi,aC X G g_NoLetters,t6,aC X G most];have TN:zfK K mg gn:=#[XIo,yi,aC X G g_NoOrder,t7,aC X G mostw];have TO:TOrd K mg gb fZ fY:=#[#[ot,ou,ow,oy],#[mf,mh,mi,mj],#[mr,mw,mx,my],aC X G g_Order,aC X G g_FromRight,aC X G g_ByWeights,oE,mq,mC,nw_ByWeights];have XIt:XI K gd:=#[#[tt1,tt2,tt3,tt4,tt5],tt6,x7,x8,tt9];have TNt:TNT K mg gd:=#[XIt,aC X G g_NotTurned,nn];have FI:=fun_mk (st:=zV) lI kI pI;have BI:=FI.binds (ps:=["self","number"]) (by injections);have TD:DNT l.prog w K mg base gd:=#[TNt,_,_,ini,fnI,uN TNt FI,BI];have TS:zdp K mg ge:=#[#[nJ,nL,nM,nN],aC X G g_System,no_System,nr_System];have TWi:zfA mg:=#[t8,aC X G win];have XIu:XI K gu:=#[#[u1,u2,u3,u4,u5],u6,x7,x8,u9];have TNu:TNU K mg gu:=#[XIu,aC X G g_NoUse,ua];have FU:=fun_mk (st:=yy) lU kU pU;have BU:=FU.binds (ps:=["self","at"]) (by injections);have TUd:DNU l.prog w K mg base gu:=#[TNu,_,_,iniU,fnU,kX TNu FU,BU];have XIf:XI K gf:=#[#[v1,v2,v3,v4,v5],v6,x7,x8,v9];have TF:zb7 K mg gf:=#[XIf,vi,aC X G g_TooFar];have XIq:XI K gp:=#[#[nw1,nw2,nw3,nw4,nw5],nw6,x7,x8,nw9];have TNw:zdr K mg gp:=#[XIq,nwi,aC X G g_NoWorld,t9,aC X G mostr];have CLw:zai K mg gc:=#[#[oF,oG,oH,oJ],aC X G g_World,oN,nt_World];have XIm:XI K gq:=#[#[w1,w2,w3,w4,w5],w6,x7,x8,w9];have TM:Kf K mg gq:=#[XIm,wi,aC X G g_TooMany,tmt,aC X G mostt];have TMk:TMo mg:=#[#[tmu,aC X G mou],#[tms,aC X G mos],#[tmd,aC X G mod_],#[tmp,aC X G mop]];have TMcc:TMc mg:=#[#[tcu,aC X G mcu],#[tce,aC X G mce],#[tcd,aC X G mcd],#[tcp,aC X G mcp]];have TMjj:TMj mg:=#[#[tju,aC X G mju],#[tjs,aC X G mjs]];have D0:=dfm l.prog w base (J5 F0) M0 p0 B0;have D1:=dfm l.prog w base (Zp B TL F1 D0) M1 p1 B1;have D2:=dfm l.prog w base (ZV B F2) M2 p2 B2;have D3:=dfm l.prog w base (zdw B TUd F3 D2) M3 p3 B3;obtain⟨_,gM⟩:=lE;have pG:=gM.kp;have lN:=gM.binds (ps:=["self","letters"]) (by injections);have pH:DMk l.prog w K mg base CX0 3 gb ["self","letters"] (qv K):=#[_,_,#[oz,lD,iE,oB],wm B gM D1,lN];have DI:DOI l.prog w K mg base gb:=#[_,_,#[sgO,rdO,fcO,pG],wm B gM D1,lN];obtain⟨_,ie⟩:=iO;have mK:=ie.kp;have mL:=ie.binds (ps:=["self","word"]) (by injections);have oS:DM l.prog w K mg base CX0 1 gb "weight" ["self","word"] Zo:=#[_,_,#[iN,ic,mK],wQ B ie,mL];obtain⟨_,iG⟩:=lG;have ni:=iG.kp;have nj:=iG.binds (ps:=["self","word"]) (by injections);have pJ:DM l.prog w K mg base CX0 1 gb "seen" ["self","word"] Wn:=#[_,_,#[lF,iF,ni],vW B iG,nj];obtain⟨_,iA⟩:=iq;have nX:=iA.kp;have nY:=iA.binds (ps:=["self","word"]) (by injections);have nZ:DM l.prog w K mg base CX0 1 fZ "seen" ["self","word"] Xm:=#[_,_,#[ip,ir,nX],uG B iA,nY];obtain⟨_,iB⟩:=iw;have rA:=iB.kp;have oa:=iB.binds (ps:=["self","letters","weights"]) (by injections);have og:DMk l.prog w K mg base (CXx l.prog w) 4 fY ["self","letters","weights"] (k8 K fY):=#[_,_,#[mz,iu,iz,mB],uC B TO TN DI iB,oa];obtain⟨_,gX⟩:=gT;have nk:=gX.kp;have nq:=gX.binds (ps:=["self","word"]) (by injections);have nv:DM l.prog w K mg base CX0 1 fY "weight" ["self","word"] (Y3 fY):=#[_,_,#[gQ,gU,nk],vC B TO gX,nq];have TT:TWS l.prog w K mg base gb fZ fY:=#[TO,pH,#[_,_,#[ml,fiR_init,iE,mm],wm B gM D1,lN],og,oS,#[_,_,#[fiR_weight,ic,mK],wQ B ie,mL],nv,pJ,nZ,#[_,_,#[fiW_seen,iF,ni],vW B iG,nj]];obtain⟨_,gN⟩:=lJ;have lP:=gN.kp;have lQ:=gN.binds (ps:=["self","word"]) (by injections);have pK:DM l.prog w K mg base CX0 2 gb "rank" ["self","word"] (qT gb fZ fY):=#[_,_,#[lH,gL,lP],we B TT gN,lQ];have DRk:DR l.prog w K mg base gb fZ fY:=⟨λC h=>by rcases h with e | e | e; (rw[e];exact#[TO.cO,pK]); (rw[e];exact#[TO.cR,#[_,_,#[fiR_rank,gL,lP],we B TT gN,lQ]]); (rw[e];exact#[TO.cW,#[_,_,#[fiW_rank,gL,lP],we B TT gN,lQ]])⟩;obtain⟨_,gz⟩:=iQ;have iX:=gz.kp;have iY:=gz.binds (ps:=["self","one","other"]) (by injections);have oU:DM l.prog w K mg base CX0 3 gb "before" ["self","one","other"] (Qv gb fZ fY):=#[_,_,#[iP,gy,iX],xm B DRk gz,iY];have DBk:DB l.prog w K mg base gb fZ fY:=⟨λC h=>by rcases h with e | e | e; (rw[e];exact#[TO.cO,oU]); (rw[e];exact#[TO.cR,#[_,_,#[fiR_before,gy,iX],xm B DRk gz,iY]]); (rw[e];exact#[TO.cW,#[_,_,#[fiW_before,gy,iX],xm B DRk gz,iY]])⟩;have D4:=dfm l.prog w base (jp B F4) M4 p4 B4;have D5:=dfm l.prog w base (ZH B TWi F5 D4) M5 p5 B5;have O6:=zbf (P:=l.prog) (w:=w) (base:=base) B TF TUd F6 D5 D3;have D6:Df l.prog w K mg base (CXx l.prog w) 4 "gone" ["rules","word","most"] [] (xK K gf):=#[_,_,O6,M6,p6,λs us hK hl=>by obtain⟨_,_,_,rfl⟩:=j6 (us:=us) (by simpa using hl);exact BindsTo.of_defaults rfl (hK _ _ nV) rfl rfl rfl];have D6d:Df l.prog w K mg base (CXx l.prog w) 4 "gone" ["rules","word","most"] [.int 4000 iJ] (xK K gf):=#[_,_,O6,M6,p6,λs us hK hl=>by obtain⟨_,_,rfl⟩:=vn (us:=us) (by simpa using hl);exact BindsTo.of_defaults rfl (hK _ _ nV) rfl rfl rfl];have D7:=dfm l.prog w base (zci B F7) M7 p7 B7;have D8:=dfm l.prog w base (Jx B F8) M8 p8 B8;have D9:=dfm l.prog w base (Y9 B F9 D8 D7) M9 p9 B9;have D10:=dfm l.prog w base (Xr B F10) M10 p10 B10;have D11:=dfm l.prog w base (Vq B DBk F11 D7) M11 p11 B11;have D12:=dfm l.prog w base (Xp B DRk (aK X G nsorted) HCH HBT hgT F12 HCC D11) M12 p12 B12;have D13:=dfm l.prog w base (jB B TMk F13 D10 D6 D6d D9 D7) M13 p13 B13;have D14:=dfm l.prog w base (qe B TF TMk F14) M14 p14 B14;have D15:=dfm l.prog w base (ZI B F15 D13 D14 D11) M15 p15 B15;have D16:=dfm l.prog w base (Vs B TF TMk F16 D12 D15 D10) M16 p16 B16;have D17:=dfm l.prog w base (zcf B F17) M17 p17 B17;have D18:=dfm l.prog w base (Ko B F18) M18 p18 B18;have D19:=dfm l.prog w base (Vm B F19 D18) M19 p19 B19;have D20:=dfm l.prog w base (zbd B F20) M20 p20 B20;have D21:=dfm l.prog w base (zbo B F21 D20 D18) M21 p21 B21;have D22:=dfm l.prog w base (Jz B #[ki,kb] F22) M22 p22 B22;have D23:=dfm l.prog w base (J8 B #[kl,kt,kbb] F23 D22) M23 p23 B23;have D24:=dfm l.prog w base (Jl B TT F24) M24 p24 B24;obtain⟨_,lw⟩:=lm;have rL:=lw.kp;have pq:=lw.binds (ps:=["self","order","rules"]) (by injections);have pw:DMk l.prog w K mg base (CXx l.prog w) 5 ge ["self","order","rules"] (qx K gb fZ fY gd ge):=#[_,_,#[nO,lj,ln,nP],jJ B TD TS DBk lw,pq];have MS:MkS l.prog w K mg base gb fZ fY gd ge:=pw;have D25:=dfm l.prog w base (JN B F25) M25 p25 B25;have D26:=dfm l.prog w base (Xx B F26 D25) M26 p26 B26;have D27:=dfm l.prog w base (zaY B F27 D3) M27 p27 B27;have D28:=dfm l.prog w base (Vu B F28 D6 D6d) M28 p28 B28;have D29:=dfm l.prog w base (VW B F29 D27 D28) M29 p29 B29;obtain⟨_,gF⟩:=gD;have mY:=gF.kp;have mZ:=gF.binds (ps:=["self"]) (by injections);have nc:DM l.prog w K mg base CX0 1 ge "rules_told" ["self"] (Zb K ge):=#[_,_,#[gC,gE,mY],vq B TS gF,mZ];have O30:=Jw (P:=l.prog) (w:=w) (base:=base) B TS F30 D26 D29 nc;have D30:Df l.prog w K mg base (CXx l.prog w) 7 "unmet" ["system","most"] [] (uh K ge gf):=#[_,_,O30,M30,p30,λs us hK hl=>by obtain⟨_,_,rfl⟩:=vn (us:=us) (by simpa using hl);exact BindsTo.of_defaults rfl (hK _ _ mX) rfl rfl rfl];have D30d:Df l.prog w K mg base (CXx l.prog w) 7 "unmet" ["system","most"] [.int 4000 mU] (uh K ge gf):=#[_,_,O30,M30,p30,λs us hK hl=>by obtain⟨_,rfl⟩:=YL (us:=us) (by simpa using hl);exact BindsTo.of_defaults rfl (hK _ _ mX) rfl rfl rfl];have D31:=dfm l.prog w base (Yq B TS MS F31 D10) M31 p31 B31;have D32:=dfm l.prog w base (qh B F32) M32 p32 B32;have D33:=dfm l.prog w base (ZX B (aK X G nany) TMcc F33) M33 p33 B33;have D34:=dfm l.prog w base (uL B TF ⟨sFF⟩ F34 D16 D33) M34 p34 B34;have D35:=dfm l.prog w base (qV B TF ⟨sFF⟩ TMcc F35 D30 D30d D31) M35 p35 B35;have D36:=dfm l.prog w base (Xf B F36 D27 D9 D10) M36 p36 B36;have D37:=dfm l.prog w base (ZU B TMcc F37 D32 D34 D35 D36) M37 p37 B37;have D38:=dfm l.prog w base (Y0 B TNw F38) M38 p38 B38;obtain⟨_,lS⟩:=lL;have rM:=lS.kp;have pL:=lS.binds (ps:=["self","letters","table"]) (by injections);have pM:DMk l.prog w K mg base (CXx l.prog w) 4 gc ["self","letters","table"] (uf gc):=#[_,_,#[oK,lK,lM,oM],kH B CLw lS D1 D38,pL];obtain⟨_,lx⟩:=lu;have pz:=lx.kp;have pA:=lx.binds (ps:=["self"]) (by injections);have pB:DM l.prog w K mg base CX0 1 gc "rooms" ["self"] (qm gc):=#[_,_,#[lr,lv,pz],jW B CLw lx,pA];obtain⟨_,mG⟩:=mE;have pW:=mG.kp;have pX:=mG.binds (ps:=["self","room","word"]) (by injections);have nQ:DM l.prog w K mg base CX0 1 gc "led" ["self","room","word"] (qM gc):=#[_,_,#[mD,mF,pW],Yp B CLw mG,pX];obtain⟨_,iZ⟩:=iS;have oV:=iZ.kp;have oW:=iZ.binds (ps:=["self","one","other"]) (by injections);have oX:DM l.prog w K mg base CX0 2 gc "parted" ["self","one","other"] (vf gc):=#[_,_,#[iR,iT,oV],qD B CLw iZ pB nQ,oW];obtain⟨_,la⟩:=iV;have oY:=la.kp;have oZ:=la.binds (ps:=["self","pacts"]) (by injections);have pb:DM l.prog w K mg base CX0 3 gc "broken" ["self","pacts"] (uI K gc):=#[_,_,#[iU,iW,oY],jg B CLw la oX,oZ];have D39:=dfm l.prog w base (jR B F39) M39 p39 B39;have D40:=dfm l.prog w base (qc B TM F40 D39) M40 p40 B40;have D41:=dfm l.prog w base (YO B F41) M41 p41 B41;have D42:=dfm l.prog w base (jV B CLw F42 nQ pb) M42 p42 B42;have D43:=dfm l.prog w base (jZ B TM CLw F43 D40 D39 D41 D42 pM) M43 p43 B43;have D44:=dfm l.prog w base (jQ B TF ⟨sFF⟩ TMjj F44 D6 D6d D10) M44 p44 B44;have D45:=dfm l.prog w base (uc B TMjj F45 D44 D9 D7) M45 p45 B45;have D46:=dfm l.prog w base (vM B F46 D43) M46 p46 B46;have D47:=dfm l.prog w base (Qe B TO TM F47 D37 D45 D40 D46) M47 p47 B47;have D48:=dfm l.prog w base (Vd B #[kl,kt,kbb] ⟨ks⟩ F48 D23) M48 p48 B48;have D49:=dfm l.prog w base (Y4 B #[kl,kt,kbb] F49 D22) M49 p49 B49;have D50:=dfm l.prog w base (QL B #[kt,ks] F50 D23 D49 D48) M50 p50 B50;have D51:=dfm l.prog w base (zcF B F51) M51 p51 B51;have D52:=dfm l.prog w base (JC B F52 D51) M52 p52 B52;have D53:=dfm l.prog w base (zcA B F53 D20 D18 D51) M53 p53 B53;have D54:=dfm l.prog w base (zbz B F54 D21 D52) M54 p54 B54;have D55:=dfm l.prog w base (J3 B F55 D18) M55 p55 B55;exact zcP B F56 D17 D19 D55 D54 D53 D24 D47 D51 D50 D52
theorem walk{l:PySem.W.OpenLaw}{q:sj}{loose:List sk}{XP:(sk->Option rY)->su->Prop}{YP:so->su->Prop}{d:DefRec}{K:Params->rW}(hn:l.most=AM 63)(hdf:d.params.defaults=[])
  (hY:∀(w:so) (h:su),YP w h->(K w.params).In h) (hj:((PyProof.Rows.recsOf q).find? λr=>r.name ==("in_order" : sk)).isSome=AO) (hno:∀w:so,zb6 (K w.params)=AO)
  (F:∀(w:so) (mg:sk->Option rY) (fa:rX) (h:su) (cc T:rX),(K w.params).In h->h.Ns rS mg->mg d.name=AM (.ref fa)->(∃a o fd,mg "in_order" = AM (.ref a)/\h.get? a=AM o/\o.data=.func fd/\fd.code=.ref cc)->rS≠T ->
   ∃fd:sf,(∀(s:rZ) (u:rY),Am s fd #[[u],[]] [("_law_script",u)])/\∀base:su,(K w.params).In base->base.Ns rS mg->base.BuiltinsAt mg T->PySem.W.CodeHd base cc T->zQ l.prog w (K w.params) mg base CX0 12 fa fd ["_law_script"] (Wc (K w.params) T)) :
  PySem.W.WalkO q loose XP YP l.row.toRowW d [] (λf vs=>fV f vs):=by
 obtain⟨din,hd⟩:=Bg.mp hj;have hnm:din.name="in_order":=by simpa using dF hd
 exact L3.walk_ofT (n:=63) (k:=12) (x:="_law_script") (CX:=λ_=>CX0) (din:=din) (sp:=λw T=>Wc (K w.params) T) hn ∅ hdf #[rfl,∅,∅] (eh hd) hY hno (λw mg fa h cc T a b c e g=>F w mg fa h cc T a b c (by rw[hnm]at e;exact e) g) (λ_ _ a ns T hl hB hT hS=>#[a,ns,rfl,hS,hB,hT,λ_=>rfl]) λ_ _ _ _ _ z=>z
end LL
namespace PySem.W.Fast
def tw5318859296392944057:=Nat
def tw17437610346102385289:=Nat
def tw10529439043857444657:=Nat
def tw10232731107602887445:=Nat
def tw17438618096675438622:=Nat
def tw13185489277389133650:=Nat
def tw2213790623164718549:=Nat
def tw16010985288675344263:=Nat
def tw17310269197889374832:=Nat
def tw14248574521011117747:=Nat
def tw8896419918111417116:=Nat
def tw12028858287185515987:=Nat
def tw4984301392788369147:=Nat
def tw9937123329892202028:=Nat
def tw10650038259251522736:=Nat
def tw8304613129039274490:=Nat
def tw1284986431419890805:=Nat
def tw16866352119415531641:=Nat
def tw10668239740988057407:=Nat
def tw10228559237920936465:=Nat
def tw392840477806406501:=Nat
def tw2084865259725710411:=Nat
def tw16660139786476952952:=Nat
def tw6742212833588388028:=Nat
def tw6267842232460318343:=Nat
def tw12301475561062293022:=Nat
def tw4247111106676101987:=Nat
def tw4750509109814312118:=Nat
def tw16082609734979087118:=Nat
def tw15357382690778903741:=Nat
def tw5522064525718703748:=Nat
def tw3067536392078400092:=Nat
def tw4780203164598205367:=Nat
def tw437703667612870358:=Nat
def tw831548495519670026:=Nat
def tw4088847193763990457:=Nat
def tw8825981616518327942:=Nat
def tw17809971045419203181:=Nat
def tw7176890486132273906:=Nat
def tw10389886653525970056:=Nat
def tw4000749933360200943:=Nat
def tw13224466118032858013:=Nat
def tw2224665670960700822:=Nat
def tw15121010794958156183:=Nat
def tw15758016144552890388:=Nat
def tw6790760042858264619:=Nat
def tw4953909113622870415:=Nat
def tw5115503464866928047:=Nat
def tw11827099835242219860:=Nat
def tw3900505999454874740:=Nat
def tw9420006748733492943:=Nat
def tw13364654469243549761:=Nat
def tw12928756517254822596:=Nat
def tw17998083766887873707:=Nat
def tw16553580546113606306:=Nat
def tw4877966544406262446:=Nat
def tw15427049431788668096:=Nat
def tw16195592317441994162:=Nat
def tw6063165243880354972:=Nat
def tw10982955365163718318:=Nat
def tw8487282924566803810:=Nat
def tw5263706455225520272:=Nat
def tw13905224301256505876:=Nat
def tw8792106610345269433:=Nat
def tw9059763188562205533:=Nat
def tw9458862328436427307:=Nat
def tw9364464049423111548:=Nat
def tw2212144752521693952:=Nat
def tw7714567676582543289:=Nat
def tw17815630911202900747:=Nat
def tw3087934842254225377:=Nat
def tw6399484992326176579:=Nat
def tw11625756829313427654:=Nat
def tw7369657323070490375:=Nat
def tw1776425570312532181:=Nat
def tw40095284883933843:=Nat
def tw15871728389341647365:=Nat
def tw16595450496929801322:=Nat
def tw7064931886526793521:=Nat
def tw8696348768279423882:=Nat
def tw11853699069073943974:=Nat
def tw4949221483782433043:=Nat
def tw8298147767375169051:=Nat
def tw2192608371399721301:=Nat
def tw15039027164655542804:=Nat
def tw3152357675482849718:=Nat
def tw8290881697206288074:=Nat
def tw10104239975560895992:=Nat
def tw17568542744113275357:=Nat
def tw10444924155769551311:=Nat
def tw10504964726638302669:=Nat
def tw1204144518468488682:=Nat
def tw4006042457228645280:=Nat
def tw17425979372593125120:=Nat
def tw50823244262357880:=Nat
def tw13387973644771405548:=Nat
def tw6354622300944176794:=Nat
def tw7657338128636882066:=Nat
def tw13859155933186617691:=Nat
def tw10211532308492023941:=Nat
def tw8771594071115588786:=Nat
def tw9529404040869666662:=Nat
def tw4061311088291670482:=Nat
def tw6440156751098937150:=Nat
def tw9865622909527117713:=Nat
def tw12641969163540302958:=Nat
def tw7319524888692870256:=Nat
def tw5909297689494239303:=Nat
def tw17581590924640200670:=Nat
def tw2211458401420293355:=Nat
def tw8020360577692516703:=Nat
def tw5620156651204869952:=Nat
def tw333927486930540522:=Nat
def tw9983967952140843471:=Nat
def tw14514748106967878526:=Nat
def tw13703480006287894431:=Nat
def tw940018897537310352:=Nat
def tw1067088531079932943:=Nat
def tw13262050713675432505:=Nat
def tw14988322088471552322:=Nat
def tw10774709315644501889:=Nat
def tw5822568950387147899:=Nat
def tw4381419401643614959:=Nat
def tw17520551470833221030:=Nat
def tw2609401846211280419:=Nat
def tw5441672052323264201:=Nat
def tw5259253598892630701:=Nat
def tw8987665614660377528:=Nat
def tw17614651093214596431:=Nat
def tw8531554259510841801:=Nat
def tw1710804748650104361:=Nat
def tw12739292014400091343:=Nat
def tw1416972826835305927:=Nat
def tw16285926262819481694:=Nat
def tw12739787975997720265:=Nat
def tw12229909743177009280:=Nat
def tw4383867460706110135:=Nat
def tw14783168884608410449:=Nat
def tw16959846644201844702:=Nat
def tw2829171643362076469:=Nat
def tw12057679446702816128:=Nat
def tw7805769394519516542:=Nat
def tw16934989117720427594:=Nat
def tw13001861986579634319:=Nat
def tw16047652243141755280:=Nat
def tw3212270852273242699:=Nat
def tw6898615261669914411:=Nat
def tw1432736325442827136:=Nat
def tw13804541827576141115:=Nat
def tw4480201333659645753:=Nat
def tw4268528388930668305:=Nat
def tw9651176345554338568:=Nat
def tw5784740049280125448:=Nat
def tw14730583861681649757:=Nat
def tw999218420735390988:=Nat
def tw15872725290911765591:=Nat
def tw13763928020536872312:=Nat
def tw13345793268539864961:=Nat
def tw16212667053757727497:=Nat
def tw2564642253195092901:=Nat
def tw7694308455028835242:=Nat
def tw12435678498016201446:=Nat
def tw117381626713008706:=Nat
def tw16741272512435357646:=Nat
def tw1135089761335301010:=Nat
def tw13346256427959740890:=Nat
def tw12284239312497290114:=Nat
def tw9543149539506021512:=Nat
def tw15293783710387625197:=Nat
def tw3932055843102092839:=Nat
def tw2159080705164923939:=Nat
def tw8514038529893489602:=Nat
def tw1567281575365221894:=Nat
def tw1276002117138268683:=Nat
def tw11911077390989273530:=Nat
def tw612322772750286499:=Nat
def tw10625749911626491760:=Nat
def tw2860444609770677986:=Nat
def tw4520276196713517273:=Nat
def tw1746849754286497035:=Nat
def tw4960773914606543414:=Nat
def tw8798021984575300886:=Nat
def tw5454502073840366338:=Nat
def tw11491491148334421502:=Nat
def tw14183129284242698126:=Nat
def tw11015230607616241786:=Nat
def tw17898550056086940066:=Nat
def tw14379161502641001287:=Nat
def tw13476414736766543499:=Nat
def tw8146083998949834551:=Nat
def tw5732298885220109544:=Nat
def tw3032955662081748211:=Nat
def tw5726057351336384529:=Nat
def tw2162216915068956791:=Nat
def tw9071652568771395666:=Nat
def tw8432118117003406975:=Nat
def tw6944563196752254056:=Nat
def tw1190504865518874926:=Nat
def tw15987585780562701689:=Nat
def tw6024356947567214255:=Nat
def tw16076404776153025283:=Nat
def tw4365270773178699013:=Nat
def tw12712369812488498063:=Nat
def tw6322246248611274232:=Nat
def tw5000078459400825543:=Nat
def tw10769531061677491447:=Nat
def tw13477116041736407783:=Nat
def tw17094024619275326999:=Nat
def tw5973824042084140039:=Nat
def tw17857655843159624135:=Nat
def tw14172994861737910501:=Nat
def tw16921838529454487454:=Nat
def tw5987769233050851739:=Nat
def tw1115282384417706563:=Nat
def tw14604957062717539870:=Nat
def tw9694949810880825042:=Nat
def tw6494163690448416058:=Nat
def tw17313157263572041646:=Nat
def tw293349786647320276:=Nat
def tw3463368893580536444:=Nat
def tw2866313092105765172:=Nat
def tw5737487172859196112:=Nat
def tw462915794675006782:=Nat
def tw1695800625535740184:=Nat
def tw6921674125312696201:=Nat
def tw1539404990830631831:=Nat
def tw2564158160163573704:=Nat
def tw10089134312121290276:=Nat
def tw10933846583687904977:=Nat
def tw2519639810840107770:=Nat
def tw13984391307071739020:=Nat
def tw3389576472667190319:=Nat
def tw9996413485138000736:=Nat
def tw8964115645892726521:=Nat
def tw1244654396193066862:=Nat
def tw15757894135596283528:=Nat
def tw16792859964727816505:=Nat
def tw16861709588277837453:=Nat
def tw7711816695348993008:=Nat
def tw8387218594692792895:=Nat
def tw10129801427762228007:=Nat
def tw11742545202677977798:=Nat
def tw17108574991342380320:=Nat
def tw10789921444406697111:=Nat
def tw965413327385998577:=Nat
def tw1508064639442367621:=Nat
def tw4888268937416738274:=Nat
def tw7680246782010169181:=Nat
def tw17831731100959078867:=Nat
def tw12913595496131914751:=Nat
def tw9903657538390842040:=Nat
def tw1126869907974246046:=Nat
def tw16879705106983103000:=Nat
def tw13651045317332661374:=Nat
def tw9873064236670717621:=Nat
def tw2117687437740464087:=Nat
def tw5053241481784196563:=Nat
def tw7331789526767865662:=Nat
def tw18376299921788727941:=Nat
def tw17066848037974379802:=Nat
def tw18339519314414143159:=Nat
def tw3605845789304287902:=Nat
def tw12066298223852242733:=Nat
def tw7849204958916815917:=Nat
def tw7314411032638728325:=Nat
def tw3150513385933131510:=Nat
def tw7751747276829425853:=Nat
def tw8428060975262973888:=Nat
def tw9846267628854682691:=Nat
def tw12448525003074356257:=Nat
def tw4471052590063020839:=Nat
def tw17324788421764929097:=Nat
def tw2686995142872596539:=Nat
def tw14311781812201143828:=Nat
def tw975205505673626057:=Nat
def tw8947320108068679550:=Nat
def tw9149681172188798844:=Nat
def tw4805732762685371601:=Nat
def tw17178576190935629971:=Nat
def tw2514104357464199989:=Nat
def tw5994637218913173008:=Nat
def tw11144465914679273161:=Nat
def tw10094348717617868572:=Nat
def tw2735419671334739693:=Nat
def tw1834936639196873272:=Nat
def tw8440881245833588055:=Nat
def tw10057785415630896579:=Nat
def tw10330845913721409142:=Nat
def tw6359308590675403573:=Nat
def tw12994120434630695897:=Nat
def tw394516802046190504:=Nat
def tw1097559475268906242:=Nat
def tw7492510180385840843:=Nat
def tw12903714112670390830:=Nat
def tw3738432289013433016:=Nat
def tw17604420243968087288:=Nat
def tw13278317485997806977:=Nat
def tw17352490813769972064:=Nat
def tw17820925064841357939:=Nat
def tw12165086030830984772:=Nat
def tw5183302669553303434:=Nat
def tw4606168690204715644:=Nat
def tw4537169781625456726:=Nat
def tw7506853751597314890:=Nat
def tw5284181676513432740:=Nat
def tw7075412813100724134:=Nat
def tw596370490175202442:=Nat
def tw9585608575626481409:=Nat
def tw13050992293720844302:=Nat
def tw4257489814299749028:=Nat
def tw13527050080568480997:=Nat
def tw8878225966129974991:=Nat
def tw17132350742211954063:=Nat
def tw15715874493023910304:=Nat
def tw14793960135789079535:=Nat
def tw14374619323900793268:=Nat
def tw4974960047121956018:=Nat
def tw1011917180310734709:=Nat
def tw4191269946521764583:=Nat
def tw11840454587325422379:=Nat
def tw805942492711140048:=Nat
def tw9764802775238874360:=Nat
def tw6795711878871130958:=Nat
def tw15148500140125295381:=Nat
def tw1380979057099727962:=Nat
def tw7081158822803083342:=Nat
def tw8446835360315859902:=Nat
def tw6479079965168807298:=Nat
def tw1607510744812057319:=Nat
def tw17579230219094485274:=Nat
def tw4115178228606310196:=Nat
def tw10815351507650721141:=Nat
def tw144277460181209780:=Nat
def tw17048698219830884519:=Nat
def tw2343655481736021284:=Nat
def tw15402721152634987240:=Nat
def tw4911619312407495910:=Nat
def tw649834119094156819:=Nat
def tw1687086638936432574:=Nat
def tw4719910545109675650:=Nat
def tw10868476523704702152:=Nat
def tw14004974731972221596:=Nat
def tw5105811985082450985:=Nat
def tw10000511453687776364:=Nat
def tw260081129832532906:=Nat
def tw6748834770300124325:=Nat
def tw3249566729541305565:=Nat
def tw5306802074458119676:=Nat
def tw15424747204794916007:=Nat
def tw14236798354059095924:=Nat
def tw12674648197725225314:=Nat
def tw7641027545666337324:=Nat
def tw16626717930217288437:=Nat
def tw6674078952531695153:=Nat
def tw1278896895733004669:=Nat
def tw11968590771299643214:=Nat
def tw10939770174826628214:=Nat
def tw9460298318754801150:=Nat
def tw431976813503406109:=Nat
def tw1621193313860783673:=Nat
def tw4490763945554014508:=Nat
def tw1425078799830360790:=Nat
def tw14408204976295758296:=Nat
def tw15835472918023946510:=Nat
def tw3863858519435457969:=Nat
def tw8999033372958520207:=Nat
def tw6917157082432610238:=Nat
def tw611286375974598169:=Nat
def tw497798461572788134:=Nat
def tw15708340922768452816:=Nat
def tw14055404525636911980:=Nat
def tw18178150462982146777:=Nat
def tw12944441430079067874:=Nat
def tw5059096836156693042:=Nat
def tw12297905609512767013:=Nat
def tw8252798642718380869:=Nat
def tw13855799325185592819:=Nat
def tw6825357109863574210:=Nat
def tw10141842202485961807:=Nat
def tw16671476093814390670:=Nat
def tw16712935462526948890:=Nat
def tw17656941226431383116:=Nat
def tw10817382402669401803:=Nat
def tw3218389733902765028:=Nat
def tw18316817199227275009:=Nat
def tw16927059800420807336:=Nat
def tw5304922386126550261:=Nat
def tw16976255748742619729:=Nat
def tw11021639081215062783:=Nat
def tw4938640206003298432:=Nat
def tw6162543932718081730:=Nat
def tw12786093929566756015:=Nat
def tw170920535413456062:=Nat
def tw5821133585888672969:=Nat
def tw6758011916160057804:=Nat
def tw15492460238116149180:=Nat
def tw6761894355546499314:=Nat
def tw7393517325696513954:=Nat
def tw9431014162154761668:=Nat
def tw17943642980849368552:=Nat
def tw16906864281797469546:=Nat
def tw1002089231821421722:=Nat
def tw1331869892447441780:=Nat
def tw16599507851045296930:=Nat
def tw9982284252702051117:=Nat
def tw8216500941429663802:=Nat
def tw17284680757771913791:=Nat
def tw15590171979964239188:=Nat
def tw10895597993045903675:=Nat
def tw11472598814576596989:=Nat
def tw16501230638139595591:=Nat
def tw15166294333128182011:=Nat
def tw14153402839738955401:=Nat
def tw4668248072406233549:=Nat
def tw4040414999181154199:=Nat
def tw11417923663919922016:=Nat
def tw10434980495949722284:=Nat
end PySem.W.Fast
open PySem PySem.W PyProof.Rows
set_option maxRecDepth 100000 in
set_option maxHeartbeats 0 in
theorem PySem.Challenge.cw_letterlaw_k88_whole_world_first_holds : PySem.Challenge.rw_letterlaw_k88_whole_world_first.Holds := by
 w_on;o_law;k_head; (case hw=>w_witness2)
 k_fill
 refine LL.walk (l:=PySem.Challenge.rw_letterlaw_k88_whole_world_first) rfl rfl (λw h Y=>PySem.W.km_in_of Y) ?hJJ ?hNN ?hFF
 case hJJ=>first | kernel_rfl | rfl | decide +kernel
 case hNN=>intro w;first | kernel_rfl | rfl
 case hFF =>
  intro w mg fa h cc T KX G hmg hlam hgT
  refine' LL.all_mk KX G hmg hlam hgT ?a0 ?a1 ?a2 ?a3 ?a4 ?a5 ?a6 ?l6 ?k6 ?p6 ?a7 ?a8 ?a9 ?a10 ?a11 ?a12 ?l12 ?k12 ?p12 ?a13 ?a14 ?a15 ?a16 ?a17 ?a18 ?a19 ?a20 ?a21 ?a22 ?a23 ?a24 ?a25 ?a26 ?a27 ?a28 ?a29 ?a30 ?l30 ?k30 ?p30 ?a31 ?a32 ?a33 ?a34 ?a35 ?a36 ?a37 ?a38 ?a39 ?a40 ?a41 ?a42 ?a43 ?a44 ?a45 ?a46 ?a47 ?a48 ?a49 ?a50 ?a51 ?a52 ?a53 ?a54 ?a55 ?a56 ?l56 ?k56 ?p56 ?g_LetterError ?g_NoLetters ?g_NoOrder ?g_Order ?g_FromRight ?g_ByWeights ?g_NotTurned ?g_System ?g_NoUse ?g_TooFar ?g_NoWorld ?g_World ?g_TooMany ?kbb ?kt ?ki ?kb ?kl ?x7 ?x8 ?x1 ?x2 ?x3 ?x4 ?x5 ?x6 ?x9 ?xi ?y1 ?y2 ?y3 ?y4 ?y5 ?y6 ?y9 ?yi ?most ?mostw ?ot ?ou ?ow ?oy ?oz ?oB ?oE ?pS ?pT ?pV ?mf ?mh ?mi ?mj ?ml ?mm ?mq ?nC ?nE ?nF ?mr ?mw ?mx ?my ?mz ?mB ?mC ?nG ?nH ?nI ?nw_ByWeights ?sgO ?rdO ?win ?tt1 ?tt2 ?tt3 ?tt4 ?tt5 ?tt6 ?tt9 ?nn ?ini ?lI ?kI ?pI ?fnI ?nJ ?nL ?nM ?nN ?nO ?nP ?no_System ?nr_System ?u1 ?u2 ?u3 ?u4 ?u5 ?u6 ?u9 ?ua ?iniU ?lU ?kU ?pU ?fnU ?v1 ?v2 ?v3 ?v4 ?v5 ?v6 ?v9 ?vi ?sFF ?nw1 ?nw2 ?nw3 ?nw4 ?nw5 ?nw6 ?nw9 ?nwi ?mostr ?oF ?oG ?oH ?oJ ?oK ?oM ?oN ?nt_World ?w1 ?w2 ?w3 ?w4 ?w5 ?w6 ?w9 ?wi ?mostt ?ks ?nany ?nsorted ?mou ?mos ?mod_ ?mop ?mcu ?mce ?mcd ?mcp ?mju ?mjs ?lD ?lE ?iE ?iN ?iO ?ic ?lF ?lG ?iF ?ip ?iq ?ir ?iu ?iw ?iz ?gQ ?gT ?gU ?lH ?lJ ?gL ?iP ?iQ ?gy ?lj ?lm ?ln ?gC ?gD ?gE ?lK ?lL ?lM ?lr ?lu ?lv ?mD ?mE ?mF ?iR ?iS ?iT ?iU ?iV ?iW ?nV ?mX ?fcO ?fiR_init ?fiR_weight ?fiW_seen ?fiR_rank ?fiW_rank ?fiR_before ?fiW_before ?b0 ?b1 ?b2 ?b3 ?b4 ?b5 ?b6 ?b7 ?b8 ?b9 ?b10 ?b11 ?b12 ?b13 ?b14 ?b15
  (case a0|a1|a2|a3|a4|a5=>exact#[by k_is,_,L2.fun_mk (by k_is) (by k_is) (by k_is)])
  case a6|l6|k6|p6=>k_is
  (case a7|a8|a9|a10|a11=>exact#[by k_is,_,L2.fun_mk (by k_is) (by k_is) (by k_is)])
  case a12|l12|k12|p12=>k_is
  (case a13|a14|a15|a16|a17|a18|a19|a20|a21|a22|a23|a24|a25|a26|a27|a28|a29=>exact#[by k_is,_,L2.fun_mk (by k_is) (by k_is) (by k_is)])
  case a30|l30|k30|p30=>k_is
  (case a31|a32|a33|a34|a35|a36|a37|a38|a39|a40|a41|a42|a43|a44|a45|a46|a47|a48|a49|a50|a51|a52|a53|a54|a55=>exact#[by k_is,_,L2.fun_mk (by k_is) (by k_is) (by k_is)])
  case a56|l56|k56|p56|g_LetterError|g_NoLetters|g_NoOrder|g_Order|g_FromRight|g_ByWeights|g_NotTurned|g_System|g_NoUse|g_TooFar|g_NoWorld|g_World|g_TooMany|x7|x8|x2|x3|x4|x5|x6|x9|xi|y2|y3|y4|y5|y6|y9|yi|most|mostw|oy|oB|oE|pT|pV|mj|mm|mq|nE|nF|my|mB|mC|nH|nI|nw_ByWeights|sgO|win|tt2|tt3|tt4|tt5|tt6|tt9|nn|ini|lI|kI|pI|nN|nP|no_System|nr_System|u2|u3|u4|u5|u6|u9|ua|iniU|lU|kU|pU|v2|v3|v4|v5|v6|v9|vi|sFF|nw2|nw3|nw4|nw5|nw6|nw9|nwi|mostr|oJ|oM|oN|nt_World|w2|w3|w4|w5|w6|w9|wi|mostt|nany|nsorted|mou|mos|mod_|mop|mcu|mce|mcd|mcp|mju|mjs|lD|iN|lF|ip|iu|gQ|lH|iP|lj|gC|lK|lr|mD|iR|iU|nV|mX|fcO|fiR_init|fiR_weight|fiW_seen|fiR_rank|fiW_rank|fiR_before|fiW_before|b0|b1|b2|b3|b4|b5|b6|b7|b8|b9|b10|b11|b12|b13|b14|b15=>k_is
  (case lE|iO|lG|iq|iw|gT|lJ|iQ|lm|gD|lL|lu|mE|iS|iV=>exact#[_,L2.fun_mk (by k_is) (by k_is) (by k_is)])
  (case kbb|kt|ki|kb|kl|pS|nC|nG|ks=>first | kernel_rfl | rfl)
  (case x1|y1|tt1|u1|v1|nw1|w1=>first | kernel_rfl | rfl | decide +kernel)
  (case ot|ow|oz|mf|mi|ml|mr|mx|mz|rdO|nJ|nM|nO|oF|oH|oK=>first | kernel_rfl | rfl | k_is | decide +kernel)
  (case ou|mh|mw|fnI|nL|fnU|oG|iE|ic|iF|ir|iz|gU|gL|gy|ln|gE|lM|lv|mF|iT|iW=>first | kernel_rfl | rfl | k_is)
#print axioms PySem.Challenge.cw_letterlaw_k88_whole_world_first_holds
