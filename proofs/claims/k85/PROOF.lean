import PyProof.Rows.All
import Wide.All
import OpenK.AllK
import Wide.FinOn
import PyProof.EqAt
import PyProof.EqKinds
import PyProof.NeKinds
import PyProof.TupleCall
import KE.KRevIter
import PyProof.ZipIter
import PyProof.Rows.SetFrom
import PyProof.StrWalks
import PyProof.DictStraight
import PyProof.StrLawsFrom
import PyProof.Rows.StrNews2
import KE.KMinBuiltin
import PyProof.Rows.CallKwBuiltin
import PyProof.Rows.SortShell
import KE.KSortTup
import KE.KBoundM
import KE.KLam
import Lean
import PySem.Challenge.RW_letterlaw_k85_whole_two_orders_agree
set_option compiler.extract_closed false
local macro_rules | `(tactic| exists $t)=>`(tactic| refine $t (λvs H Q E h=>by repeat (first | (obtain⟨e,_⟩:=h;subst e;rfl) | obtain⟨_,h⟩:=h)) (λ$(Lean.mkIdent `cdv) $(Lean.mkIdent `A) $(Lean.mkIdent `outer) $(Lean.mkIdent `s) $(Lean.mkIdent `H) $(Lean.mkIdent `vs) $(Lean.mkIdent `Q) $(Lean.mkIdent `E) $(Lean.mkIdent `hr) $(Lean.mkIdent `h)=>?_))
local macro_rules | `(tactic| exists $t,0)=>`(tactic| refine $t (λvs H Q E h=>by repeat (first | (obtain⟨e,_⟩:=h;subst e;rfl) | obtain⟨_,h⟩:=h)) (λ$(Lean.mkIdent `cdv) $(Lean.mkIdent `A) $(Lean.mkIdent `outer) $(Lean.mkIdent `s) $(Lean.mkIdent `H) $(Lean.mkIdent `vs) $(Lean.mkIdent `Q) $(Lean.mkIdent `E) $(Lean.mkIdent `hr) $(Lean.mkIdent `hx) $(Lean.mkIdent `h)=>?_))
local macro_rules | `(tactic| rintro $p* : _)=>`(tactic| rintro $(Lean.mkIdent `Gz):ident $(Lean.mkIdent `hGz):ident $p*)
local macro_rules | `(tactic| right)=>`(tactic| subst $(Lean.mkIdent `hGz))
local macro_rules | `($s⁻¹)=>`(($s).heap.objs.size)
local macro_rules | `(⋯)=>`(by lia)
local macro_rules | `(∅)=>`(by decide)
local macro_rules | `(tactic| erw [$[$a:term],*] $[$l:location]?)=>`(tactic| simp only [$[$a:term],*] $[$l:location]?)
local macro_rules | `(())=>`(List Nat)
local macro_rules | `(#[$a,*])=>if a.getElems.size>1 then `(⟨$a,*⟩) else Lean.Macro.throwUnsupported
open List renaming getElem?_eq_some_iff→Be,mem_map→Bf,mem_cons→Bg,mem_append→Bh,mem_singleton→Bj,mem_range→Bl,mem_filter→Bm,mem_reverse→Bn,mem_iff_getElem?→Bo,all_eq_true→Bp,nodup_cons→Bq,mem_flatMap→Br,length_pos_iff→Bu,length_eq_zero_iff→Bw,mem_filterMap→Bx,any_eq_true→By,find?_eq_none→Bz,nodup_iff_count→BA,pairwise_append→BB,pairwise_cons→BC
open Option renaming map_eq_some_iff→Bk,isSome_iff_exists→Bs,bind_eq_some_iff→Bv
local macro_rules | `(tactic| symm)=>`(tactic| decide +kernel)
local macro_rules | `(tactic| nofun)=>`(tactic| exact⟨rfl,rfl,rfl,by decide +kernel,rfl,by decide +kernel,by decide +kernel⟩)
open List renaming getD_eq_getElem?_getD→aa,length_map→ae,mem_of_getElem?→ag,getElem?_eq_getElem→ah,length_append→aj,size_toArray→ak,mem_cons_of_mem→am,getElem?_map→aq,append_assoc→ar,map_cons→au,mem_cons_self→ax,map_append→ay,mem_append_right→aC,length_take→aG,length_cons→aJ,range→aK,map_nil→aL,take_length→aP,take_append_of_le_length→aQ,drop_eq_getElem_cons→aS,append_nil→aT,set_cons_zero→aU,set_cons_succ→aV,replicate→aW,lookup_cons→aX,drop_of_length_le→aY,toArray→bc,getElem?_eq_none→bf,lookup→bg,length_reverse→bh,length_drop→bi,sum_cons→bj,mem_append_left→bn,mem_of_mem_take→bp,take_of_length_le→bq,nil_append→br,getElem?_take_of_lt→bt,cons_append→bv,getElem?_reverse→bx,getElem?_append_right→bA,getElem?_append_left→bB,idxOf_lt_length_of_mem→bE,take_append_drop→bK,drop_append_of_le_length→bL,take_zero→bS,length_nil→bU,length_replicate→cb,mem_of_mem_drop→cu,length_range→cy,replicate_succ→cz,map_congr_left→cA,range_succ→cE,drop_left→cH,getElem?_cons_zero→cI,countP_cons_of_pos→cJ,filter_append→cL,length_filter_le→cP,take_left→cQ,mem_cons→cU,flatMap_append→cY,of_mem_zip→da,forIn_cons→db,filter_nil→dc,contains_cons→df,map_map→dg,zip_cons_cons→dh,getElem?_cons_succ→di,append_cancel_left→dj,countP_cons_of_neg→dk,flatten_cons→dm,range_succ_eq_map→dq,any_cons→dv,length_singleton→dB,find?_some→dJ,eq_nil_of_length_eq_zero→dN,filterMap_cons→dO,getElem?_range→dU,replicate_zero→dW,take_succ_cons→dX,drop_zero→dZ,drop_drop→d4,find?_eq_none→d6,getElem_idxOf→d7,getElem?_drop→d8,ext_getElem?→eh,extract_eq_drop_take→eC,mem_of_find?_eq_some→eD,drop_length→eG,mem_nil_iff→eI,getElem_mem→eJ,map_reverse→eN,filter_cons→eO,not_mem_nil→eQ,getElem?_replicate→eR,pairwise_singleton→eS,filter_cons_of_pos→eU,filter_cons_of_neg→eV,getElem?_set_self→eX,forIn_nil→fj,mem_range→fm,take_take→fo,mem_of_mem_head?→fq,getElem?_set_ne→ft,all_cons→fv,getElem_range→fM,length→fP
open PySem.Heap renaming get?_push_of_some→ac,lt_size→ao,get?_push_size→aB,get?_update_other→aF,size_push→bQ,get?_update_self→ce,size_update→dw
open PySem.W renaming findIn→af,nsIn→av,mg_of→aE,keepIn→aI,mg_none_of→aN,kitOne→aO,isFn→aR,kia_one→be,fnOf→bu,mroIn→bC,emptyDict→bI,plainGet→bM,callWith_K→bN,codeIn→bR,hasDictIn→bT,methodCall_KW→bZ,kla_fn→ci,instObj→cj,plainOver→cw,makesIn→cC,specialIn→cF,looks_findIn→cG,subIn→cT,takesIn→dC,plainGet_of→dQ,lookIn→dY,methodObj→ef,kitx_list→eg,envX→eK,takerIn→eW,cellsFrom_some→eY,callWith_K0→fF,kitx_tuple→fH,set_plain→fN,kitx_dict→fO,handedIn→fR,bind_fn→fV,findObj→fW,readsIn→fX,findCls→fY,kat_nil→gb,kas_ask→gc
open Nat renaming le_refl→al,lt_of_lt_of_le→aw,ne_of_lt→aA,zero_le→aD,le_trans→aM,lt_of_le_of_lt→cf,ne_of_gt→cp,not_lt_zero→cq,le_add_right→cB,min_eq_left→cD,lt_irrefl→cK,le_succ→cM,lt_succ_of_lt→cN,le_of_not_lt→cS,le_of_lt→de,min_eq_right→dz,lt_or_ge→dH,zero_add→dI,mul_le_mul_right→dM,lt_trichotomy→et,lt_succ_self→eE,succ_mul→eF,sub_self→eP,mul_le_mul→fh,min_self→fJ
open Bool renaming false_ne_true→az,false_eq_true→bD,and_eq_true→bX,eq_false_or_eq_true→cr,eq_iff_iff→cZ,not_eq_true'→dn,or_eq_true→dD,or_true→dF,and_false→fg,not_false→fk,and_true→fw,beq_comm→fz,not_true→fA,true_and→fB
open Int renaming toNat_natCast→aH,emod_lt_of_pos→aZ,emod_nonneg→ba,eq_ofNat_of_zero_le→bF,natCast_mul→dL,le_refl→fQ
open PyProof.Rows renaming callWith_type1→bw
open PySem.F renaming plainAttrs_list→bz,plain_max_loop→bH,slot_list_append→bO,type_list_append→bP,plainAttrs_str→bW,entry_max_loop→du,excBase_ValueError→ee,slot_str_count→eZ,type_str_count→e7,slot_str_index→e8,type_str_index→e9
open PySem.Str renaming ofString→bG,empty→d5
open Decidable renaming byContradiction→bJ
open PySem renaming mem_of_lookup→bV,strKind→cX,frameOf→d9,passOn→fL,call→fZ
open Option renaming bind_some→bY,getD_some→dA,join_some→eL,join_none→eM,getD_none→fS
open Array renaming length_toList→dP,getD→fu,toList_append→fG
open PySem renaming wpAny_bind→rZ,wpAny_pure→sf,mainGlobals→si,starEach→sj,sizeLine→sk
open PySem.W renaming Frag→so
open PySem renaming Addr→sq,Value→sr,Shared→su,FuncData→sv,wpAny→sw,Program→sy,Str→sB,World→sC,Around→sE,Expr→sF,Heap→sI,Stmt→sJ,compareOp→sK,keywordEach→sL,wpAny_truthy_bool→sM,backTo→sN,wpAny_field→sP,strIterType→sQ,wpAny_Call_Name_kw→sU,sizeLine_eq→sV,Obj→sX,wpAny_holding→sY,bootBuiltins→sZ,backToKw→tj,wpAny_seqItems→tm,wpAny_loadPart_at→tu,Scope→tw,IsPair→tz,wpAny_passesOwn→tB,wpAny_standAt→tD,wpAny_noRaise→tE,wpAny_setField→tF,Pos→tG,wpAny_setField_rec→tH,wpAny_execs_nil→tI,wpAny_mono→tJ,wpAny_call→tK,wpAny_execs_cons→tL,codeAny_mono→tM,codeAny→tN,wpAny_isSubtype_exc→tO,codeAny_builtin→tP,wpAny_letGo→tQ,Arguments→tR,wpAny_tryCatch→tS,wpAny_pyIter_list→tT,plainObj_wpAny_Assign_Attribute→tU,CmpOp→tV,wpAny_attempt→tW,codeAny_call_builtin→tX,NameKind→tY,Tok→Aa,IsZip→Ac,wpAny_comprehension_free→Ad,wpAny_getItem_str_slice→Ae,wpAny_call_entry→Af,wpAny_rule→Ag,wpAny_pyNext_range_end→Ah,wpAny_pyIter_rangeiter→Ai,wpAny_updateSeq→Ak,Env→Al,wpAny_updateSeq_pair→Am,wpAny_pyIter_revIter→An,wpAny_newFunctionEnv→Ao,wpAny_loadPart→Ap,recursionLimit→Aq,excClassObj→Ar,Result→As,IsRangeIter→Au,BindsTo→Av,wpAny_onRaise→Aw,wpAny_newList→Ax,ExceptHandler→Az,wpAny_pyIter_tuple→AA,wpAny_pyIter_range→AB,wpAny_pyIter_enum→AC,wpAny_newObj_type→AD,wpAny_assign_Name→AE,wpAny_Return_some→AF,wpAny_Assign_Name→AG,Model→AH,GenState→AJ,wpAny_pyIter_zip→AK,wpAny_lookBehind→AL,wpAny_Try_except→AM,isCodeTable→AN,Sem→AO,Keyword→AQ,wpAny_Name→AR,TriplesOk→AT,Paired→AU
open PyProof.Rows renaming seqObj→sS,envOfC→tZ,AllBare→Ab,subscriptTail_builtinR→Aj,subscriptTail→Ay,IntsAre→AI,Subscript_→AS,Call_→AW
open PySem.W renaming KasT→AV
open Option renaming some→AX,none→AY
open Bool renaming true→AZ,false→Ba
open PySem PySem.Spec PyProof.Rows
set_option Elab.async false
set_option linter.all false
set_option maxRecDepth 100000
set_option maxHeartbeats 4000000
namespace L2
noncomputable abbrev Key:=Sum Int sB
noncomputable def zcW:Key->sr->Bool
 | .inl k,v=>Value.isInt k v
 | .inr x,v=>Value.isStrOf x v
noncomputable def zgr(w:sC):Key->Int
 | .inl k=>hashInt k
 | .inr x=>hashStr w x
theorem yh:∀{k:Key} {v:sr},zcW k v=AZ->(∃i t,k=Sum.inl i/\v=Value.int i t)\/(∃x t,k=Sum.inr x/\v=Value.str x t)
 | .inl i,v,h=>by
  obtain⟨t,e⟩:=Value.isInt_shape (k:=i) (v:=v) h;exact .inl #[i,t,rfl,e]
 | .inr x,v,h=>by
  obtain⟨t,e⟩:=Value.isStrOf_shape (x:=x) (v:=v) h;exact .inr #[x,t,rfl,e]
theorem zeq(a b:Int):decide ((Sum.inl a:Key)=Sum.inl b)=(a == b):=by
 by_cases e:a=b
 ·subst e;simp
 ·have h:¬ (Sum.inl a:Key)=Sum.inl b:=λq=>e (Sum.inl.inj q);rw[decide_eq_false h];exact (beq_eq_false_iff_ne.mpr e).symm
theorem zdw(a b:sB):decide ((Sum.inr a:Key)=Sum.inr b)=decide (a=b):=by
 by_cases e:a=b
 ·subst e;simp
 ·have h:¬ (Sum.inr a:Key)=Sum.inr b:=λq=>e (Sum.inr.inj q);rw[decide_eq_false h,decide_eq_false e]
theorem zee(a:Int)(b:sB):decide ((Sum.inl a:Key)=Sum.inr b)=Ba:=decide_eq_false (λq=>nomatch q)
theorem zeb(a:sB)(b:Int):decide ((Sum.inr a:Key)=Sum.inl b)=Ba:=decide_eq_false (λq=>nomatch q)
noncomputable def Xp(prog:sy)(w:sC):PySem.KeyKind prog w Key where
 is:=zcW
 hash:=zgr w
 inj:=λv a b ha hb=>by
  rcases yh ha with ⟨i,t,rfl,rfl⟩ | ⟨x,t,rfl,rfl⟩
  ·rcases yh hb with ⟨j,u,rfl,e⟩ | ⟨y,u,rfl,e⟩
   ·injection e with e1 _;rw[e1]
   ·exact nomatch e
  ·rcases yh hb with ⟨j,u,rfl,e⟩ | ⟨y,u,rfl,e⟩
   ·exact nomatch e
   ·injection e with e1 _;rw[e1]
 byValue:=λk v h=>by
  rcases yh h with ⟨i,t,rfl,rfl⟩ | ⟨x,t,rfl,rfl⟩ <;> rfl
 pyHash:=λhv h=>by
  rcases yh hv with ⟨i,t,rfl,rfl⟩ | ⟨x,t,rfl,rfl⟩
  ·exact wpAny_pyHash_int h
  ·exact wpAny_pyHash_str h
 eqBool:=λhu hv h=>by
  rcases yh hu with ⟨i,t,rfl,rfl⟩ | ⟨x,t,rfl,rfl⟩
  ·rcases yh hv with ⟨j,u,rfl,rfl⟩ | ⟨y,u,rfl,rfl⟩
   ·rw[zeq]at h;exact wpAny_eqBool_int h
   ·rw[zee]at h;exact SeqAt.EqAt.int_str i t y u _ _ _ _ h
  ·rcases yh hv with ⟨j,u,rfl,rfl⟩ | ⟨y,u,rfl,rfl⟩
   ·rw[zeb]at h;exact SeqAt.EqAt.str_int x t j u _ _ _ _ h
   ·rw[zdw]at h;exact wpAny_eqBool_str h
 «strs»:=λk x t v h=>by
  rcases yh h with ⟨i,u,rfl,e⟩ | ⟨y,u,rfl,e⟩
  ·exact nomatch e
  ·injection e with e1 _;subst e1;cases v <;> rfl
inductive V where
 | non | bl (b:Bool) | int (i:Int) | str (x:sB) | byt (b:Array UInt8) | flt (b:UInt64) | ref (a:sq) | ty (n:String)
 deriving DecidableEq
def RelV:V->sr->Prop
 | .non,u=>u=Value.none
 | .bl b,u=>u=Value.bool b
 | .int i,u=>∃t,u=Value.int i t
 | .str x,u=>∃t,u=Value.str x t
 | .byt b,u=>∃t,u=Value.bytes b t
 | .flt b,u=>∃t,u=Value.float b t
 | .ref a,u=>u=Value.ref a
 | .ty n,u=>u=Value.type n
abbrev Vals:List V->List sr->Prop:=AU RelV
theorem Vals.length{xs:List V}{us:List sr}(r:Vals xs us):xs.length=us.length:=Paired.length r
theorem Vals.get:∀{xs:List V} {us:List sr} {i:Nat} {x:V},Vals xs us->xs[i]? = AX x->∃u,us[i]? = AX u/\RelV x u
 | _,_,_,_,.nil,e=>by simp at e
 | _,_,0,_,.cons r _,e=>by simp at e;subst e;exact#[_,rfl,r]
 | _,_,i+1,x,.cons _ t,e=>by
  obtain⟨u,h1,h2⟩:=Vals.get (i:=i) (x:=x) t (by simpa using e);exact#[u,by simpa using h1,h2]
theorem Vals.set{x:V}{u:sr}(r:RelV x u):∀{xs:List V} {us:List sr} (i:Nat),Vals xs us->Vals (xs.set i x) (us.set i u)
 | _,_,_,.nil=>.nil
 | _,_,0,.cons _ t=>.cons r t
 | _,_,i+1,.cons q t=>.cons q (Vals.set r i t)
theorem Vals.append:∀{xs ys:List V} {us ws:List sr},Vals xs us->Vals ys ws->Vals (xs ++ ys) (us ++ ws)
 | _,_,_,_,.nil,s=>s
 | _,_,_,_,.cons r t,s=>.cons r (Vals.append t s)
theorem Vals.take:∀{xs:List V} {us:List sr} (n:Nat),Vals xs us->Vals (xs.take n) (us.take n)
 | _,_,0,_=>.nil
 | _,_,_+1,.nil=>.nil
 | _,_,n+1,.cons r t=>.cons r (Vals.take n t)
theorem Vals.drop:∀{xs:List V} {us:List sr} (n:Nat),Vals xs us->Vals (xs.drop n) (us.drop n)
 | _,_,0,r=>r
 | _,_,_+1,.nil=>.nil
 | _,_,n+1,.cons _ t=>Vals.drop n t
def RelO:Option V->Option sr->Prop
 | some v,AX u=>RelV v u
 | none,AY=>True
 | _,_=>False
def KV{κ:Type}:List (κ × V)->List (κ × sr)->Prop:=AU λ(p:κ × V) (q:κ × sr)=>p.1=q.1/\RelV p.2 q.2
noncomputable def kV:Key->V
 | .inl i=>.int i
 | .inr x=>.str x
inductive HO where
  | lst (xs:List V)
  | tup (xs:List V)
  | dK (kvs:List (Key × V)) | dT (kvs:List (List Key × V))
  | set (S:Int->Bool) (n:Nat)
  | ins (C dx:sq) (fs:List (sB × V))
  | own (x:sq)
  | xd (fs:List (sB × V))
  | met (f x:sq)
  | rng (lo hi:Int)
  | frz (o:sX) (u:HO)
  | tbl (ps:Array sr)
  | ext (φ:sI->Prop)
noncomputable abbrev Hp:=sq->Option HO
noncomputable def upd(H:Hp)(a:sq)(o:HO):Hp:=λb=>if b=a then AX o else H b
theorem zd{H:Hp}{a:sq}{o:HO}:upd H a o a=AX o:=by unfold upd;rw[if_pos rfl]
theorem zm{H:Hp}{a b:sq}{o:HO}(h:b≠a):upd H a o b=H b:=by unfold upd;rw[if_neg h]
theorem zG{H:Hp}{a b:sq}{o:HO}(h:H a=AX o)(h':H b=AY):a≠b:=by
 intro e;subst e;rw[h]at h';cases h'
section
variable(P:sy)(w:sC)
def ObjOk(H:Hp)(h:sI)(a:sq):HO->Prop
 | .lst xs=>xs.length<=sk/\∃(its:List sr) (n:Nat),Vals xs its/\h.get? a=AX { cls:=.type "list",data:=.seq its.toArray n }
 | .tup xs=>xs.length<=sk/\∃its:List sr,Vals xs its/\IsTup h a its.toArray
 | .dK kvs=>kvs.length<=sk/\(a == sysModules)=Ba/\∃vs,KV kvs vs/\h.DictOf (Xp P w) a vs
 | .dT kvs=>kvs.length<=sk/\(a == sysModules)=Ba/\∃xs:List (List Key × sq × sr),
   AU (λ(p:List Key × V) (q:List Key × sq × sr)=>p.1=q.1/\H q.2.1=AX (.tup (p.1.map kV))/\RelV p.2 q.2.2) kvs xs /\
   ∃o es ep,h.get? a=AX o/\o.ExactDict/\o.data=.dict es ep/\es.toList=xs.map (entryOfKey (tupleKind (Xp P w)))/\(xs.map (·.1)).Nodup
 | .set S n=>h.SetOf (intKind P w) a S n
 | .ins C dx fs=>H dx=AX (.own a)/\fs.length<=1000/\dx≠a/\h.get? a=AX (cj C dx) /\
   ∃mA,h.Ns1 dx mA/\(∀f,RelO (fs.lookup f) (mA f))/\PySem.Within mA (fs.map (·.1))
 | .own _=>∃o,h.get? a=AX o
 | .xd fs=>∃mA,h.Ns1 a mA/\∀f,RelO (fs.lookup f) (mA f)
 | .rng lo hi=>∃t u v,h.get? a=AX { cls:=.type "range",data:=.fields (List.toArray [.int lo t,.int hi u,.int 1 v]) }
 | .frz o u=>h.get? a=AX o/\ObjOk H h a u
 | .tbl ps=>h.get? a=AX { cls:=.none,data:=.fields ps }
 | .met f x=>h.get? a=AX (ef (.ref f) (.ref x))
 | .ext φ=>φ h/\(∃o,h.get? a=AX o)/\∀h1 h2:sI,φ h1->(∀o,h1.get? a=AX o->h2.get? a=AX o)->φ h2
def HOk(H:Hp)(h:sI):Prop:=∀a o,H a=AX o->ObjOk P w H h a o
end
section
variable{P:sy}{w:sC}{H H':Hp}{h h':sI}{a:sq}{o:HO}
theorem ObjOk.lt(x:ObjOk P w H h a o):a<h.objs.size:=by
 cases o with
 | lst xs=>obtain⟨_,_,_,_,e⟩:=x;exact ao e
 | tup xs=>obtain⟨_,_,_,p⟩:=x;exact p.lt
 | dK kvs=>obtain⟨_,_,_,_,o,_,_,e,_⟩:=x;exact ao e
 | dT kvs=>obtain⟨_,_,_,_,o,_,_,e,_⟩:=x;exact ao e
 | set S n=>obtain⟨o,_,_,_,e,_⟩:=x;exact ao e
 | ins C dx fs=>obtain⟨_,_,_,e,_⟩:=x;exact ao e
 | own y=>obtain⟨_,e⟩:=x;exact ao e
 | xd fs=>obtain⟨_,⟨_,_,_,e,_⟩,_⟩:=x;exact ao e
 | rng lo hi=>obtain⟨_,_,_,e⟩:=x;exact ao e
 | frz ob u=>obtain⟨e,_⟩:=x;exact ao e
 | tbl ps=>exact ao (show h.get? a=AX _ from x)
 | met f y=>exact ao (show h.get? a=AX _ from x)
 | ext φ=>obtain⟨_,⟨_,e⟩,_⟩:=x;exact ao e
theorem Paired.mapP{α β:Type}{F G:α->β->Prop}:∀{l₁:List α} {l₂:List β},AU F l₁ l₂->(∀a b,F a b->G a b)->AU G l₁ l₂
 | _,_,.nil,_=>.nil
 | _,_,.cons r t,f=>.cons (f _ _ r) (Paired.mapP t f)
theorem ObjOk.stay(x:ObjOk P w H h a o)(k:∀b u,(b=a\/H b=AX (.own a))->h.get? b=AX u->h'.get? b=AX u)
  (ho:∀b,H b=AX (.own a)->H' b=AX (.own a)) (ht:∀b xs,H b=AX (.tup xs)->H' b=AX (.tup xs)):ObjOk P w H' h' a o:=by
 induction o with
 | lst xs=>obtain⟨z,its,n,r,e⟩:=x;exact#[z,its,n,r,k _ _ (.inl rfl) e]
 | tup xs=>obtain⟨z,its,r,ob,e,c⟩:=x;exact#[z,its,r,ob,k _ _ (.inl rfl) e,c]
 | dK kvs=>obtain⟨z,y,vs,r,ob,es,ep,e,c⟩:=x;exact#[z,y,vs,r,ob,es,ep,k _ _ (.inl rfl) e,c]
 | dT kvs =>
  obtain⟨z,y,xs,r,ob,es,ep,e,c⟩:=x;exact#[z,y,xs,Paired.mapP r λp q z=>#[z.1,ht _ _ z.2.1,z.2.2],ob,es,ep,k _ _ (.inl rfl) e,c]
 | set S n=>obtain⟨ob,es,ep,t,e,c⟩:=x;exact#[ob,es,ep,t,k _ _ (.inl rfl) e,c]
 | ins C dx fs =>
  obtain⟨d,z,ne,e,mA,⟨od,es,ep,e2,c⟩,r⟩:=x;exact#[ho _ d,z,ne,k _ _ (.inl rfl) e,mA,#[od,es,ep,k _ _ (.inr d) e2,c],r]
 | own y=>obtain⟨ob,e⟩:=x;exact#[ob,k _ _ (.inl rfl) e]
 | xd fs=>obtain⟨mA,⟨od,es,ep,e,c⟩,r⟩:=x;exact#[mA,#[od,es,ep,k _ _ (.inl rfl) e,c],r]
 | rng lo hi=>obtain⟨t,u,v,e⟩:=x;exact#[t,u,v,k _ _ (.inl rfl) e]
 | frz ob u ih=>obtain⟨e,q⟩:=x;exact#[k _ _ (.inl rfl) e,ih q]
 | tbl ps =>
  have e:h.get? a=AX { cls:=.none,data:=.fields ps }:=x;show h'.get? a=AX { cls:=.none,data:=.fields ps };exact k a _ (.inl rfl) e
 | met f y =>
  have e:h.get? a=AX (ef (.ref f) (.ref y)):=x;show h'.get? a=AX (ef (.ref f) (.ref y));exact k a _ (.inl rfl) e
 | ext φ=>obtain⟨p,⟨o,e⟩,st⟩:=x;exact#[st _ _ p λo q=>k _ _ (.inl rfl) q,#[o,k _ _ (.inl rfl) e],st]
theorem HOk.lt(x:HOk P w H h)(e:H a=AX o):a<h.objs.size:=(x a o e).lt
theorem HOk.fresh(x:HOk P w H h)(e:h.objs.size<=a):H a=AY:=by
 cases q:H a with
 | none=>rfl
 | some u=>exact absurd (aw (x.lt q) e) (cK _)
theorem HOk.kept(x:HOk P w H h)(k:∀b u,h.get? b=AX u->h'.get? b=AX u):HOk P w H h':=λa o e =>
 (x a o e).stay (λb u _ q=>k b u q) (λ_ q=>q) λ_ _ q=>q
theorem HOk.laid(x:HOk P w H h)(k:∀b u,h.get? b=AX u->h'.get? b=AX u)(hp:h.objs.size<=a)(new:ObjOk P w (upd H a o) h' a o):HOk P w (upd H a o) h':=λb u e=>by
 have hn:=x.fresh hp;by_cases hb:b=a
 ·subst hb;rw[zd]at e;cases e;exact new
 ·rw[zm hb]at e;exact (x b u e).stay (λc v _ q=>k c v q) (λc q=>by rw[zm (zG q hn)];exact q) λc xs q=>by rw[zm (zG q hn)];exact q
end
def Rd(H:Hp)(a:sq)(u:HO):Prop:=H a=AX u\/∃o,H a=AX (.frz o u)
theorem Rd.ok{P:sy}{w:sC}{H:Hp}{h:sI}{a:sq}{u:HO}(r:Rd H a u)(x:HOk P w H h):ObjOk P w H h a u:=by
 rcases r with r | ⟨o,r⟩
 ·exact x a u r
 ·obtain⟨_,q⟩:=x a _ r;exact q
def Mut:Option HO->Prop
 | some (.lst _)=>True
 | some (.dK _)=>True
 | some (.dT _)=>True
 | some (.set _ _)=>True
 | some (.ins _ _ _)=>True
 | some (.ext _)=>True
 | _=>False
section
variable{P:sy}{w:sC}{H:Hp}{h h':sI}{x e:sq}{o':HO}
theorem HOk.write(ok:HOk P w H h)(mu:Mut (H x))(he:e=x\/H e=AX (.own x))(k:∀b u,b≠e->h.get? b=AX u->h'.get? b=AX u)(heo:∃u,h'.get? e=AX u)
  (new:ObjOk P w (upd H x o') h' x o'):HOk P w (upd H x o') h':=λb u q=>by
 have nown:∀c y,H c=AX (.own y)->c≠x:=λc y r z=>by subst z;rw[r]at mu;exact mu
 have ntup:∀c xs,H c=AX (.tup xs)->c≠x:=λc xs r z=>by subst z;rw[r]at mu;exact mu
 by_cases hb:b=x
 ·subst hb;rw[zd]at q;cases q;exact new
 ·rw[zm hb]at q;by_cases hbe:b=e
  ·have q':H b=AX (.own x):=by
    rcases he with z | z
    ·exact absurd (hbe.trans z) hb
    ·rw[hbe];exact z
   rw[q]at q';cases q';obtain⟨v,hv⟩:=heo;exact#[v,by rw[hbe];exact hv]
  ·refine (ok b u q).stay (λc v hc r=>k c v ?_ r) (λc r=>by rw[zm (nown c b r)];exact r) λc xs r=>by rw[zm (ntup c xs r)];exact r
   rcases hc with rfl | hc
   ·exact hbe
   ·rintro rfl;rcases he with z | z
    ·exact nown c b hc z
    ·rw[hc]at z;cases z;exact hb rfl
end
structure Un(fs ex:List sq)(H H':Hp)(h h':sI):Prop where
 keep:∀b o,h.get? b=AX o->H b=AY->b ∉ fs->b ∉ ex->h'.get? b=AX o
 slot:∀b o,h.get? b=AX o->H b=AY->b ∈ fs->b ∉ ex->∃sl,h'.get? b=AX { o with slots:=sl }
 free:∀b o,h.get? b=AX o->H b=AY->b ∉ ex->H' b=AY
 there:∀b o,h.get? b=AX o->b ∉ ex->∃o',h'.get? b=AX o'
 tups:∀b xs,H b=AX (.tup xs)->H' b=AX (.tup xs)
 frzs:∀b o u,H b=AX (.frz o u)->H' b=AX (.frz o u)
 tbls:∀b ps,H b=AX (.tbl ps)->∃more,H' b=AX (.tbl (ps ++ more))
section
variable{fs fs' ex ex':List sq}{H H1 H2:Hp}{h h1 h2 h':sI}{a x e:sq}{o:HO}
theorem Un.any(u:Un fs ex H H1 h h1){b:sq}{ob:sX}(q:h.get? b=AX ob)(n:H b=AY)(hx:b ∉ ex):∃sl,h1.get? b=AX { ob with slots:=sl }:=by
 by_cases hb:b ∈ fs
 ·exact u.slot b ob q n hb hx
 ·exact#[ob.slots,u.keep b ob q n hb hx]
theorem Un.kept(k:∀b u,h.get? b=AX u->h'.get? b=AX u):Un fs ex H H h h' :=
 #[λb ob q _ _ _=>k b ob q,λb ob q _ _ _=>#[ob.slots,k b ob q],λ_ _ _ n _=>n,λb ob q _=>#[ob,k b ob q],λ_ _ q=>q,λ_ _ _ q=>q,λ_ ps q=>#[#[],by rw[q];simp]]
theorem Un.refl:Un fs ex H H h h:=Un.kept λ_ _ q=>q
theorem Un.laid(k:∀b u,h.get? b=AX u->h'.get? b=AX u)(hp:h.objs.size<=a)(hn:H a=AY):Un fs ex H (upd H a o) h h' where
 keep:=λb u q _ _ _=>k b u q
 slot:=λb u q _ _ _=>#[u.slots,k b u q]
 free:=λb u q n _=>by rw[zm (aA (aw (ao q) hp))];exact n
 there:=λb u q _=>#[u,k b u q]
 tups:=λb xs q=>by rw[zm (zG q hn)];exact q
 frzs:=λb u xs q=>by rw[zm (zG q hn)];exact q
 tbls:=λb ps q=>#[#[],by rw[zm (zG q hn),q];simp]
theorem Un.write(mu:Mut (H x))(he:e=x\/H e=AX (.own x))(k:∀b u,b≠e->h.get? b=AX u->h'.get? b=AX u)(heo:∃u,h'.get? e=AX u):Un fs ex H (upd H x o) h h':=by
 have hx:∀b,H b=AY->b≠x:=λb n z=>by subst z;rw[n]at mu;exact mu
 have hb:∀b,H b=AY->b≠e:=λb n z=>by
  subst z;rcases he with r | r
  ·exact hx b n r
  ·rw[n]at r;cases r
 have hm:∀b u,H b=AX u->¬ Mut (AX u)->b≠x:=λb u q nm z=>by subst z;rw[q]at mu;exact nm mu
 refine#[λb u q n _ _=>k b u (hb b n) q,λb u q n _ _=>#[u.slots,k b u (hb b n) q],λb u q n _=>by rw[zm (hx b n)];exact n,λb u q _=>?_,
  λb xs q=>by rw[zm (hm b _ q λz=>z)];exact q,λb u xs q=>by rw[zm (hm b _ q λz=>z)];exact q,λb ps q=>#[#[],by rw[zm (hm b _ q λz=>z),q];simp]]
 by_cases hbe:b=e
 ·subst hbe;exact heo
 ·exact#[u,k b u hbe q]
end
noncomputable def trk(h:sI)(H:Hp):List sq:=(aK h.objs.size).filter λa=>(H a).isSome
noncomputable def Ug(h:sI)(H:Hp):sI:=PySem.W.hideAll h (trk h H)
theorem Qn(h:sI)(H:Hp):(Ug h H).objs.size=h.objs.size:=PySem.W.hideAll_size _ _
theorem W9{h:sI}{H:Hp}{b:sq}{o:sX}(e:h.get? b=AX o)(n:H b=AY):(Ug h H).get? b=AX o :=
 PySem.W.hideAll_get _ e λhm=>by
  have q:(H b).isSome=AZ:=(Bm.mp hm).2;rw[n]at q;simp at q
theorem zcj{h:sI}{H:Hp}{b:sq}{o:sX}(e:(Ug h H).get? b=AX o):h.get? b=AX o/\H b=AY:=by
 have e':h.get? b=AX o:=PySem.W.of_hideAll (trk h H) e;refine#[e',?_]
 cases q:H b with
 | none=>rfl
 | some x =>
  have hm:b ∈ trk h H:=Bm.mpr #[Bl.mpr (ao e'),by simp [q]];have z:(Ug h H).get? b=AY:=PySem.W.hideAll_none (trk h H) hm;rw[z]at e;cases e
noncomputable def zcB(g h:sI)(L:sq):List (sq × sX):=(aK h.objs.size).filterMap λa=>if a=L\/(g.get? a).isSome=AZ then AY else (h.get? a).map λo=>(a,o)
noncomputable def rest(g h:sI)(L d:sq):List (sq × sX):=(zcB g h L).filter λp=>decide (p.1≠d)
structure Mod(K:so)(mg:sB->Option sr)(base:sI):Prop where
 kin:K.In base
 glob:base.Ns si mg
 blt:∃mb,base.Ns builtinsNs mb/\∀x:sB,x≠"__name__"->mb x=sZ x
 nolimit:base.NoLimit
structure Cx where
 prog:sy
 w:sC
 K:so
 mg:sB->Option sr
 base:sI
 A:sE
 N:List sB
 s₀:su
 H₀:Hp
 env:Al
 outer:List Al
 stack:List Al
 ex:List sq
 fn:sB->Bool
 calm:Bool
 pn:List (sq × sX)
 xe:sr->su->Prop
noncomputable def frs(l:List Al):List sq:=l.filterMap (·.frame)
noncomputable abbrev Cx.fs(X:Cx):List sq:=frs X.outer
def Vis(sc:tw)(x:sB):Prop:=sc.names.lookup x=AX .local\/sc.names.lookup x=AX .cell\/sc.names.lookup x=AX .free
def Loc(sc:tw)(x:sB):Prop:=sc.names.lookup x=AX .local\/sc.names.lookup x=AX .cell
def zgz(env:Al)(h:sI)(m:sB->Option sr)(x:sB)(u:sr):Prop :=
 (env.kindOf x=AX .local/\m x=AX u)\/((env.kindOf x=AX .cell\/env.kindOf x=AX .free)/\∃c,env.cells.lookup x=AX c/\h.IsCell c (AX u))
structure Cx.Ok(X:Cx):Prop where
 mod:Mod X.K X.mg X.base
 kind:X.env.scope.kind=.function
 glob:X.env.globals=si
 blt:X.env.builtins=builtinsNs
 above:X.s₀.heap.objs.size<=X.env.locals
 inj:∀x y c,X.env.cells.lookup x=AX c->X.env.cells.lookup y=AX c->x=y
 has:∀x,(X.env.kindOf x=AX .cell\/X.env.kindOf x=AX .free)->∃c,X.env.cells.lookup x=AX c
 cab:∀x c,X.fn x=AZ->X.env.cells.lookup x=AX c->X.s₀.heap.objs.size<=c
 hd:X.calm=AZ->X.A.handled=AY
 frames:X.A.frames=AX X.stack
 stk:X.stack=X.outer\/(X.stack=X.env::X.outer/\X.env.frame=AX X.env.locals)
 exf:∀b ∈ X.ex,b≠X.env.locals/\∀x c,X.env.cells.lookup x=AX c->c≠b
 bs:∀b o,X.base.get? b=AX o->X.s₀.heap.get? b=AX o/\X.H₀ b=AY
 bsz:X.base.objs.size<=X.s₀.heap.objs.size
 noex:∀b o,X.base.get? b=AX o->b ∉ X.ex
 exfs:∀b ∈ X.ex,b ∉ X.fs
 funs:X.s₀.heap.FunFrames X.base X.outer
 frf:∀b ∈ X.fs,X.H₀ b=AY
structure Inv(X:Cx)(Bb:List (sq × sX))(σ:List (Option V))(H:Hp)(s:su):Prop where
 ok:X.Ok
 os:s.os=X.s₀.os
 bare:Ab s.gens
 base:Un X.fs X.ex X.H₀ H X.s₀.heap s.heap
 loc:∃m,s.heap.Ns X.env.locals m/\∀(i:Nat) (x:sB) (v:V),X.N[i]? = AX x->σ[i]? = AX (AX v)->Vis X.env.scope x->∃u,RelV v u/\zgz X.env s.heap m x u
 cell:∀x c,X.env.cells.lookup x=AX c->∃v,s.heap.IsCell c v
 free:H X.env.locals=AY
 freeC:∀x c,X.env.cells.lookup x=AX c->H c=AY
 pin:∀p ∈ X.pn ++ Bb,s.heap.get? p.1=AX p.2/\H p.1=AY/\p.1≠X.env.locals/\p.1 ∉ X.fs/\∀v,p.2.data≠.cell v
 hok:HOk X.prog X.w H s.heap
 len:σ.length=X.N.length
section
variable{X:Cx}{Bb:List (sq × sX)}{σ:List (Option V)}{H H':Hp}{s:su}{h':sI}
theorem Cx.Ok.nofr(ok:X.Ok){b:sq}{o:sX}(e:X.base.get? b=AX o):b ∉ X.fs:=λhb=>by
 have:=(ok.funs.mem hb).1;rw[e]at this;cases this
theorem Inv.bs(I:Inv X Bb σ H s):∀b o,X.base.get? b=AX o->s.heap.get? b=AX o/\H b=AY:=λb o e =>
 #[I.base.keep b o (I.ok.bs b o e).1 (I.ok.bs b o e).2 (I.ok.nofr e) (I.ok.noex b o e),I.base.free b o (I.ok.bs b o e).1 (I.ok.bs b o e).2 (I.ok.noex b o e)]
theorem Inv.bk(I:Inv X Bb σ H s):∀b o,X.base.get? b=AX o->s.heap.get? b=AX o:=λb o e=>(I.bs b o e).1
theorem Inv.mod(I:Inv X Bb σ H s):Mod X.K X.mg X.base:=I.ok.mod
theorem Inv.kIn(I:Inv X Bb σ H s):X.K.In s.heap:=I.ok.mod.kin.keeps I.bk
theorem Inv.nolimit(I:Inv X Bb σ H s):s.heap.NoLimit:=I.ok.mod.nolimit.keeps I.bk
theorem Inv.fr(I:Inv X Bb σ H s):∃m,Fr X.base X.env.locals s.heap m :=
 let #[m,hn,_]:=I.loc
 #[m,hn,I.bk,aM I.ok.bsz I.ok.above]
theorem Inv.lt(I:Inv X Bb σ H s):X.env.locals<s⁻¹:=let #[_,hn,_]:=I.loc;hn.lt
theorem Inv.sz(I:Inv X Bb σ H s):X.s₀.heap.objs.size<=s⁻¹:=aM I.ok.above (de I.lt)
theorem Inv.nofs(I:Inv X Bb σ H s){a:sq}(h:s⁻¹<=a):a ∉ X.fs:=λhb=>by
 obtain⟨_,o,ho,_⟩:=I.ok.funs.mem hb;exact absurd (aw (ao ho) (aM I.sz h)) (cK _)
theorem Inv.cne(I:Inv X Bb σ H s):∀x c,X.env.cells.lookup x=AX c->c≠X.env.locals:=λx c e z=>by
 obtain⟨v,o,ho,hd⟩:=I.cell x c e;obtain⟨m,⟨o',es,ep,ho',hd',_⟩,_⟩:=I.loc;rw[z,ho']at ho;cases ho;rw[hd']at hd;cases hd
theorem Inv.funs(I:Inv X Bb σ H s):s.heap.FunFrames X.base X.outer:=by
 have all:∀(l:List Al),(∀b ∈ frs l,b ∈ X.fs)->X.s₀.heap.FunFrames X.base l->s.heap.FunFrames X.base l:=by
  intro l
  induction l with
  | nil=>intro _ _;trivial
  | cons env r ih =>
   intro hs hl;obtain⟨hk,⟨L,o,hf,hn,ho,hd⟩,hr⟩:=hl;have hL:L ∈ X.fs:=hs L (by unfold frs;rw[dO,hf];exact ax);obtain⟨sl,e⟩:=I.base.slot L o ho (I.ok.frf L hL) hL λz=>I.ok.exfs L z hL;exact#[hk,#[L,_,hf,hn,e,hd],ih (λb hb=>hs b (by unfold frs;rw[dO,hf];exact am _ hb)) hr]
 exact all X.outer (λ_ hb=>hb) I.ok.funs
theorem Inv.stack(I:Inv X Bb σ H s):s.heap.FunFrames X.base X.stack:=by
 rcases I.ok.stk with e | ⟨e,hf⟩
 ·rw[e];exact I.funs
 ·rw[e];obtain⟨m,hn,_⟩:=I.loc;refine .cons (by rw[I.ok.kind];decide) hf hn ?_ I.funs;exact Heap.get?_none_of_le (aM I.ok.bsz I.ok.above)
theorem Inv.stkSub(I:Inv X Bb σ H s):∀b ∈ frs X.stack,b ∈ X.env.locals::X.fs:=λb hb=>by
 rcases I.ok.stk with e | ⟨e,hf⟩
 ·rw[e]at hb;exact am _ hb
 ·rw[e]at hb;unfold frs at hb;rw[dO,hf]at hb;exact hb
theorem Inv.stkFree(I:Inv X Bb σ H s):∀b ∈ frs X.stack,H b=AY:=λb hb=>by
 rcases Bg.mp (I.stkSub b hb)with e | hb
 ·rw[e];exact I.free
 ·obtain⟨_,o,ho,_⟩:=I.ok.funs.mem hb;exact I.base.free b o ho (I.ok.frf b hb) λz=>I.ok.exfs b z hb
theorem Inv.step{g':Array AJ}{t':Nat}{d':Drawn}{ch:List sq}(I:Inv X Bb σ H s)
  (hch:∀b ∈ ch,(b ∈ X.ex\/X.s₀.heap.objs.size<=b)/\b≠X.env.locals/\(∀x c,X.env.cells.lookup x=AX c->c≠b)/\∀p ∈ X.pn ++ Bb,p.1≠b)
  (keep:∀b o,b≠X.env.locals->b ∉ X.fs->b ∉ ch->s.heap.get? b=AX o->H b=AY->h'.get? b=AX o)
  (slot:∀b o,b≠X.env.locals->b ∈ X.fs->b ∉ ch->s.heap.get? b=AX o->H b=AY->∃sl,h'.get? b=AX { o with slots:=sl }) (free:∀b o,b ∉ ch->s.heap.get? b=AX o->H b=AY->H' b=AY)
  (there:∀b o,b ∉ ch->s.heap.get? b=AX o->∃o',h'.get? b=AX o')
  (tups:∀b xs,H b=AX (.tup xs)->H' b=AX (.tup xs)) (frzs:∀b o u,H b=AX (.frz o u)->H' b=AX (.frz o u)) (tbls:∀b ps,H b=AX (.tbl ps)->∃more,H' b=AX (.tbl (ps ++ more)))
  (ns:∀m,s.heap.Ns X.env.locals m->h'.Ns X.env.locals m) (hok:HOk X.prog X.w H' h') (hg:Ab g') :
  Inv X Bb σ H' { s with heap:=h',gens:=g',drawn:=d',toks:=t' }:=by
 have neL:∀b o,X.s₀.heap.get? b=AX o->b≠X.env.locals:=λb o e=>aA (aw (ao e) I.ok.above)
 have neC:∀b o,X.s₀.heap.get? b=AX o->b ∉ X.ex->b ∉ ch:=λb o e hx hb=>by
  rcases (hch b hb).1 with z | z
  ·exact hx z
  ·exact absurd (aw (ao e) z) (cK _)
 have cellK:∀x c,X.env.cells.lookup x=AX c->∀v,s.heap.IsCell c v->h'.IsCell c v:=λx c e v ⟨o,ho,hd⟩=>by
  have nch:c ∉ ch:=λz=>(hch c z).2.2.1 x c e rfl;by_cases hc:c ∈ X.fs
  ·obtain⟨sl,q⟩:=slot c o (I.cne x c e) hc nch ho (I.freeC x c e);exact#[_,q,hd]
  ·exact#[o,keep c o (I.cne x c e) hc nch ho (I.freeC x c e),hd]
 refine#[I.ok,I.os,hg,#[λb o e n hb hx=>?_,λb o e n hb hx=>?_,λb o e n hx=>?_,λb o e hx=>?_,λb xs e=>tups b xs (I.base.tups b xs e),λb o xs e=>frzs b o xs (I.base.frzs b o xs e),λb ps e=>?_],?_,λx c e=>?_,?_,λx c e=>?_,λp hp=>?_,hok,I.len]
 ·exact keep b o (neL b o e) hb (neC b o e hx) (I.base.keep b o e n hb hx) (I.base.free b o e n hx)
 ·obtain⟨sl,e1⟩:=I.base.slot b o e n hb hx;obtain⟨sl',e2⟩:=slot b _ (neL b o e) hb (neC b o e hx) e1 (I.base.free b o e n hx);exact#[sl',e2]
 ·obtain⟨o',e1⟩:=I.base.there b o e hx;exact free b o' (neC b o e hx) e1 (I.base.free b o e n hx)
 ·obtain⟨o',e1⟩:=I.base.there b o e hx;exact there b o' (neC b o e hx) e1
 ·obtain⟨m1,e1⟩:=I.base.tbls b ps e;obtain⟨m2,e2⟩:=tbls b _ e1;exact#[m1 ++ m2,by rw[e2,Array.append_assoc]]
 ·obtain⟨m,hn,hl⟩:=I.loc;refine#[m,ns m hn,λi x v e1 e2 e3=>?_];obtain⟨u,r,l⟩:=hl i x v e1 e2 e3;refine#[u,r,?_];rcases l with l | ⟨k,c,e,z⟩
  ·exact .inl l
  ·exact .inr #[k,c,e,cellK x c e _ z]
 ·obtain⟨v,z⟩:=I.cell x c e;exact#[v,cellK x c e v z]
 ·obtain⟨m,⟨o,_,_,ho,_⟩,_⟩:=I.loc;exact free _ o (λz=>(hch _ z).2.1 rfl) ho I.free
 ·obtain⟨v,o,ho,hd⟩:=I.cell x c e;exact free c o (λz=>(hch c z).2.2.1 x c e rfl) ho (I.freeC x c e)
 ·obtain⟨e,n,ne,nf,d⟩:=I.pin p hp;have nch:p.1 ∉ ch:=λz=>(hch p.1 z).2.2.2 p hp rfl;exact#[keep p.1 p.2 ne nf nch e n,free p.1 p.2 nch e n,ne,nf,d]
theorem Inv.un{t':Nat}(I:Inv X Bb σ H s)(u:Un X.fs [] H H' s.heap h')(hok:HOk X.prog X.w H' h'):Inv X Bb σ H' { s with heap:=h',toks:=t' }:=by
 obtain⟨m,⟨o,es,ep,ho,r⟩,_⟩:=id I.loc;obtain⟨sl,hL⟩:=u.any ho I.free (by simp)
 exact I.step (g':=s.gens) (d':=s.drawn) (ch:=[]) (λ_ z=>nomatch z) (λb o _ hb _ e n=>u.keep b o e n hb (by simp)) (λb o _ hb _ e n=>u.slot b o e n hb (by simp)) (λb o _ e n=>u.free b o e n (by simp)) (λb o _ e=>u.there b o e (by simp)) u.tups u.frzs u.tbls (λm' hm=>by
  obtain⟨o',es',ep',ho',r'⟩:=hm;rw[ho]at ho';cases ho'
  exact#[_,es',ep',hL,r']) hok I.bare
theorem Inv.call{g':Array AJ}{t':Nat}{d':Drawn}{ch:List sq}(I:Inv X Bb σ H s)(u:Un (frs X.stack) ch H H' s.heap h')(hok:HOk X.prog X.w H' h')(hg:Ab g')
  (hch:∀b ∈ ch,(b ∈ X.ex\/X.s₀.heap.objs.size<=b)/\b≠X.env.locals/\(∀x c,X.env.cells.lookup x=AX c->c≠b)/\∀p ∈ X.pn ++ Bb,p.1≠b) :
  Inv X Bb σ H' { s with heap:=h',gens:=g',drawn:=d',toks:=t' }:=by
 obtain⟨m,⟨o,es,ep,ho,r⟩,_⟩:=id I.loc;obtain⟨sl,hL⟩:=u.any ho I.free λz=>(hch _ z).2.1 rfl
 exact I.step (ch:=ch) hch (λb o hL hb hc e n=>u.keep b o e n (λz=>(Bg.mp (I.stkSub b z)).elim hL hb) hc) (λb o _ _ hc e n=>u.any e n hc) (λb o hc e n=>u.free b o e n hc) (λb o hc e=>u.there b o e hc) u.tups u.frzs u.tbls (λm' hm=>by
  obtain⟨o',es',ep',ho',r'⟩:=hm;rw[ho]at ho';cases ho'
  exact#[_,es',ep',hL,r']) hok hg
theorem Inv.turned{t':Nat}{it:sq}(I:Inv X Bb σ H s)(k:∀b o,b≠it->s.heap.get? b=AX o->h'.get? b=AX o)(hn:H it=AY)(hL:it≠X.env.locals)
  (h1:it ∈ X.ex\/X.s₀.heap.objs.size<=it) (h2:∀x c,X.env.cells.lookup x=AX c->c≠it) (h3:∀p ∈ X.pn ++ Bb,p.1≠it):Inv X Bb σ H { s with heap:=h',toks:=t' }:=by
 have nit:∀b u,H b=AX u->b≠it:=λb u e z=>by rw[z,hn]at e;cases e
 refine I.step (g':=s.gens) (d':=s.drawn) (ch:=[it]) (λb hb=>?_) (λb o _ _ hc e _=>k b o (λz=>hc (by simp [z])) e) (λb o _ _ hc e _=>#[o.slots,k b o (λz=>hc (by simp [z])) e]) (λ_ _ _ _ n=>n)
  (λb o hc e=>#[o,k b o (λz=>hc (by simp [z])) e]) (λ_ _ e=>e) (λ_ _ _ e=>e) (λb ps e=>#[#[],by rw[e];simp]) (λm hm=>?_) (λb u e=>?_) I.bare
 ·have e:b=it:=by simpa using hb
  subst e;exact#[h1,hL,h2,h3]
 ·obtain⟨o,es,ep,ho,r⟩:=hm;exact#[o,es,ep,k _ o (Ne.symm hL) ho,r]
 ·refine (I.hok b u e).stay (λc v hc q=>k c v ?_ q) (λ_ q=>q) λ_ _ q=>q;rcases hc with z | z
  ·rw[z];exact nit b u e
  ·exact nit c _ z
theorem Inv.tok(I:Inv X Bb σ H s)(t:Nat):Inv X Bb σ H { s with toks:=t }:=I.un (h':=s.heap) (t':=t) Un.refl I.hok
theorem Inv.kept{t':Nat}(I:Inv X Bb σ H s)(k:∀b u,s.heap.get? b=AX u->h'.get? b=AX u):Inv X Bb σ H { s with heap:=h',toks:=t' }:=I.un (Un.kept k) (I.hok.kept k)
theorem Inv.laid{a:sq}{o:HO}{t':Nat}(I:Inv X Bb σ H s)(k:∀b u,s.heap.get? b=AX u->h'.get? b=AX u)(hp:s⁻¹<=a)(new:ObjOk X.prog X.w (upd H a o) h' a o) :
  Inv X Bb σ (upd H a o) { s with heap:=h',toks:=t' }:=I.un (Un.laid k hp (I.hok.fresh hp)) (I.hok.laid k hp new)
theorem Inv.write{x e:sq}{o:HO}{t':Nat}(I:Inv X Bb σ H s)(mu:Mut (H x))(he:e=x\/H e=AX (.own x))(k:∀b u,b≠e->s.heap.get? b=AX u->h'.get? b=AX u)(heo:∃u,h'.get? e=AX u)
  (new:ObjOk X.prog X.w (upd H x o) h' x o):Inv X Bb σ (upd H x o) { s with heap:=h',toks:=t' }:=I.un (Un.write mu he k heo) (I.hok.write mu he k heo new)
theorem Inv.weak{σ':List (Option V)}(I:Inv X Bb σ H s)(hl:σ'.length=σ.length)(w:∀(i:Nat) v,σ'[i]? = AX (AX v)->σ[i]? = AX (AX v)):Inv X Bb σ' H s :=
 #[I.ok,I.os,I.bare,I.base,let #[m,hn,hl']:=I.loc; #[m,hn,λi x v e1 e2 e3=>hl' i x v e1 (w i v e2) e3],I.cell,I.free,I.freeC,I.pin,I.hok,hl.trans I.len]
theorem Inv.pins_of{pins':List (sq × sX)}(I:Inv X Bb σ H s)(h:∀p ∈ pins',s.heap.get? p.1=AX p.2/\H p.1=AY/\p.1≠X.env.locals/\p.1 ∉ X.fs/\∀v,p.2.data≠.cell v):Inv X pins' σ H s :=
 #[I.ok,I.os,I.bare,I.base,I.loc,I.cell,I.free,I.freeC,λp hp=>(Bh.mp hp).elim (λz=>I.pin p (bn _ z)) (h p),I.hok,I.len]
theorem WI{N:List sB}(hN:N.Nodup){i j:Nat}{x:sB}(a:N[i]? = AX x)(b:N[j]? = AX x):i=j:=by
 obtain⟨h1,e1⟩:=Be.mp a;obtain⟨h2,e2⟩:=Be.mp b;exact (List.getElem_inj hN).mp (e1.trans e2.symm)
theorem Yp{M:AH}{A:sE}{E:sr->su->Prop}{i:Nat}{x:sB}{v:V}{u:sr}{Q:Unit->su->Prop}(I:Inv X Bb σ H s)(hN:X.N.Nodup)(hi:X.N[i]? = AX x)(hx:Loc X.env.scope x)(r:RelV v u)
  (h:∀s',Inv X Bb (σ.set i (AX v)) H s'->(∃a,Heap.SameBut a s.heap s'.heap/\(a=X.env.locals\/X.env.cells.lookup x=AX a))->Q Unit.unit s') (hf:X.fn x=AZ\/X.env.scope.names.lookup x=AX .local:=by first | exact .inl rfl | exact .inr rfl | assumption):sw M A (storeName X.env x u) Q E s:=by
 obtain⟨m,hn,hl⟩:=id I.loc;have hcls:(X.env.scope.kind == .class || (X.env.scope.kind == .module && X.env.locals != X.env.globals))=Ba:=by rw[I.ok.kind];rfl
 have hiσ:i<σ.length:=by rw[I.len];exact (Be.mp hi).1
 have cne:=I.cne
 have tracked:∀{a:sq} {h':sI},(∃o,s.heap.get? a=AX o/\H a=AY)->Heap.SameBut a s.heap h'->HOk X.prog X.w H h':=λ{a h'} ha hs b ob e=>by
  obtain⟨_,_,hfree⟩:=ha;refine (I.hok b ob e).stay (λc w' hc q=>(hs.2 c ?_).trans q) (λ_ q=>q) λ_ _ q=>q;rintro rfl;rcases hc with rfl | hc
  ·rw[hfree]at e;cases e
  ·rw[hfree]at hc;cases hc
 rcases hx with hk | hk
 ·refine wpAny_storeName_local hk hn (λh' hn' hs=>?_) hcls;obtain⟨oL,_,_,hoL,_⟩:=id hn;refine h _ #[I.ok,I.os,I.bare,#[λb o e n hb hx=>?_,λb o e n hb hx=>?_,I.base.free,λb o e hx=>?_,I.base.tups,I.base.frzs,I.base.tbls],#[_,hn',λj y v' e1 e2 e3=>?_],λy c e=>?_,I.free,I.freeC,λp hp=>?_,tracked #[oL,hoL,I.free] hs,by simpa using I.len] #[_,hs,.inl rfl]
  ·exact (hs.2 b (aA (aw (ao e) I.ok.above))).trans (I.base.keep b o e n hb hx)
  ·obtain⟨sl,e1⟩:=I.base.slot b o e n hb hx;exact#[sl,(hs.2 b (aA (aw (ao e) I.ok.above))).trans e1]
  ·obtain⟨o',e1⟩:=I.base.there b o e hx;exact#[o',(hs.2 b (aA (aw (ao e) I.ok.above))).trans e1]
  ·by_cases hj:j=i
   ·subst hj;rw[hi]at e1;cases e1;rw[eX hiσ]at e2;cases e2;exact#[u,r,.inl #[hk,by simp]]
   ·rw[ft (Ne.symm hj)]at e2;obtain⟨u',r',q⟩:=hl j y v' e1 e2 e3;refine#[u',r',?_];rcases q with ⟨k,e⟩ | ⟨k,c,e,z⟩
    ·refine .inl #[k,?_];have:y≠x:=λe=>hj (WI hN e1 (e ▸ hi));simp [this,e]
    ·exact .inr #[k,c,e,z.sameBut hs (cne y c e)]
  ·obtain⟨w',z⟩:=I.cell y c e;exact#[w',z.sameBut hs (cne y c e)]
  ·obtain⟨e,n,ne,nf,d⟩:=I.pin p hp;exact#[(hs.2 p.1 ne).trans e,n,ne,nf,d]
 ·have hfn:X.fn x=AZ:=by
   rcases hf with z | z
   ·exact z
   ·rw[z]at hk;cases hk
  obtain⟨c,hc⟩:=I.ok.has x (.inl hk);obtain⟨w',z⟩:=I.cell x c hc;refine wpAny_storeName_cell I.ok.kind hk hc z (λh' hc' hs=>?_);obtain⟨oc,hoc,hocd⟩:=id z;refine h { s with heap:=h' } #[I.ok,I.os,I.bare,#[λb o e n hb hx=>?_,λb o e n hb hx=>?_,I.base.free,λb o e hx=>?_,I.base.tups,I.base.frzs,I.base.tbls],#[m,hn.sameBut hs (Ne.symm (cne x c hc)),λj y v' e1 e2 e3=>?_],λy c' e=>?_,I.free,I.freeC,λp hp=>?_,tracked #[oc,hoc,I.freeC x c hc] hs,by simpa using I.len] #[c,hs,.inr hc]
  ·exact (hs.2 b (aA (aw (ao e) (I.ok.cab x c hfn hc)))).trans (I.base.keep b o e n hb hx)
  ·obtain⟨sl,e1⟩:=I.base.slot b o e n hb hx;exact#[sl,(hs.2 b (aA (aw (ao e) (I.ok.cab x c hfn hc)))).trans e1]
  ·obtain⟨o',e1⟩:=I.base.there b o e hx;exact#[o',(hs.2 b (aA (aw (ao e) (I.ok.cab x c hfn hc)))).trans e1]
  ·by_cases hj:j=i
   ·subst hj;rw[hi]at e1;cases e1;rw[eX hiσ]at e2;cases e2;exact#[u,r,.inr #[.inl hk,c,hc,hc']]
   ·rw[ft (Ne.symm hj)]at e2;obtain⟨u',r',q⟩:=hl j y v' e1 e2 e3;refine#[u',r',?_];rcases q with q | ⟨k,c',e,z'⟩
    ·exact .inl q
    ·refine .inr #[k,c',e,z'.sameBut hs ?_];rintro rfl;exact hj (WI hN e1 (I.ok.inj _ _ _ e hc ▸ hi))
  ·by_cases hcc:c'=c
   ·subst hcc;exact#[_,hc']
   ·obtain⟨w2,z2⟩:=I.cell y c' e;exact#[w2,z2.sameBut hs hcc]
  ·obtain⟨e,n,ne,nf,d⟩:=I.pin p hp;refine#[(hs.2 p.1 ?_).trans e,n,ne,nf,d];intro q;rw[q,hoc]at e;have q':oc=p.2:=Option.some.inj e;exact d w' (by rw[<- q'];exact hocd)
theorem Zh{M:AH}{A:sE}{E:sr->su->Prop}{i:Nat}{x:sB}{v:V}{u:sr}{Q:Unit->su->Prop}(I:Inv X Bb σ H s)(hN:X.N.Nodup)(hi:X.N[i]? = AX x)(hx:Loc X.env.scope x)(r:RelV v u)
  (h:∀s',Inv X Bb (σ.set i (AX v)) H s'->Q Unit.unit s') (hf:X.fn x=AZ\/X.env.scope.names.lookup x=AX .local:=by first | exact .inl rfl | exact .inr rfl | assumption):sw M A (storeName X.env x u) Q E s :=
 Yp I hN hi hx r (λs' I' _=>h s' I') hf
theorem Inv.call'{s':su}{ch:List sq}(I:Inv X Bb σ H s)(ho:s'.os=s.os)(u:Un (frs X.stack) ch H H' s.heap s'.heap)(hok:HOk X.prog X.w H' s'.heap)(hg:Ab s'.gens)
  (hch:∀b ∈ ch,(b ∈ X.ex\/X.s₀.heap.objs.size<=b)/\b≠X.env.locals/\(∀x c,X.env.cells.lookup x=AX c->c≠b)/\∀p ∈ X.pn ++ Bb,p.1≠b):Inv X Bb σ H' s':=by
 obtain⟨h',g',d',t',o'⟩:=s';have e:o'=s.os:=ho;subst e;exact I.call (g':=g') (t':=t') (d':=d') u hok hg hch
end
noncomputable abbrev XK:=sr->Option sq->Hp->Prop
noncomputable abbrev St:=List (Option V)
noncomputable abbrev VK:=V->Hp->Prop
noncomputable abbrev TE:=St->Hp->VK->Prop
noncomputable abbrev TT:=St->Hp->(Bool->Hp->Prop)->Prop
noncomputable abbrev TA:=St->Hp->(List V->Hp->Prop)->Prop
structure vG where
 nx:St->Hp->Prop
 rt:VK
 bk:St->Hp->Prop:=λ_ _=>False
 ct:St->Hp->Prop:=λ_ _=>False
noncomputable abbrev TS:=vG->St->Hp->Prop
def EP(X:Cx)(Bb:List (sq × sX))(σ:St)(Q:VK)(u:sr)(s':su):Prop:=∃v H',Inv X Bb σ H' s'/\RelV v u/\Q v H'
def TP(X:Cx)(Bb:List (sq × sX))(σ:St)(Q:Bool->Hp->Prop)(b:Bool)(s':su):Prop:=∃H',Inv X Bb σ H' s'/\Q b H'
def AP(X:Cx)(Bb:List (sq × sX))(σ:St)(Q:List V->Hp->Prop)(us:List sr)(s':su):Prop:=∃vs H',Inv X Bb σ H' s'/\Vals vs us/\Q vs H'
def SP(X:Cx)(Bb:List (sq × sX))(D:vG)(f:Flow)(s':su):Prop :=
 match f with
 | .next=>∃σ' H',Inv X Bb σ' H' s'/\D.nx σ' H'
 | .brk=>∃σ' H',Inv X Bb σ' H' s'/\D.bk σ' H'
 | .cont=>∃σ' H',Inv X Bb σ' H' s'/\D.ct σ' H'
 | .ret u=>∃v σ' H',Inv X Bb σ' H' s'/\RelV v u/\D.rt v H'
def PE(X:Cx)(e:sF)(t:TE):Prop :=
 ∀(Bb:List (sq × sX)) (s:su) (σ:St) (H:Hp) (Q:VK),Inv X Bb σ H s->t σ H Q->sw (model X.prog X.w) X.A (eval e X.env) (EP X Bb σ Q) X.xe s
def PT(X:Cx)(e:sF)(t:TT):Prop :=
 ∀(Bb:List (sq × sX)) (s:su) (σ:St) (H:Hp) (Q:Bool->Hp->Prop),Inv X Bb σ H s->t σ H Q->sw (model X.prog X.w) X.A (isTrue e X.env (eval e X.env)) (TP X Bb σ Q) X.xe s
def PW(X:Cx)(e:sF)(t:TT):Prop :=
 ∀(whole:AO sr) (Bb:List (sq × sX)) (s:su) (σ:St) (H:Hp) (Q:Bool->Hp->Prop),Inv X Bb σ H s->t σ H Q->sw (model X.prog X.w) X.A (isTrue e X.env whole) (TP X Bb σ Q) X.xe s
theorem PW.pt{X:Cx}{e:sF}{t:TT}(h:PW X e t):PT X e t:=h _
def PA(X:Cx)(es:List sF)(t:TA):Prop :=
 ∀(pos:tG) (Bb:List (sq × sX)) (s:su) (σ:St) (H:Hp) (Q:List V->Hp->Prop),Inv X Bb σ H s->t σ H Q->sw (model X.prog X.w) X.A (spliced (sN pos (sj es X.env))) (AP X Bb σ Q) X.xe s
def PS(X:Cx)(st:sJ)(t:TS):Prop :=
 ∀(Bb:List (sq × sX)) (s:su) (σ:St) (H:Hp) (D:vG),Inv X Bb σ H s->t D σ H->sw (model X.prog X.w) X.A (exec st X.env) (SP X Bb D) X.xe s
def PSs(X:Cx)(st:List sJ)(t:TS):Prop :=
 ∀(Bb:List (sq × sX)) (s:su) (σ:St) (H:Hp) (D:vG),Inv X Bb σ H s->t D σ H->sw (model X.prog X.w) X.A (execs st X.env) (SP X Bb D) X.xe s
theorem thn{α:Type}{t:AO α}{Q Q':α->su->Prop}{M:AH}{A:sE}{E:sr->su->Prop}{s:su}(h:sw M A t Q E s)(hQ:∀a s,Q a s->Q' a s):sw M A t Q' E s:=tJ h hQ λ_ _ x=>x
section
variable{X:Cx}
theorem bin{a b:sF}{ta tb:TE}(ha:PE X a ta)(hb:PE X b tb){Bb:List (sq × sX)}{s:su}{σ:St}{H:Hp}{R:V->V->Hp->Prop}(I:Inv X Bb σ H s)(h:ta σ H λx H1=>tb σ H1 λy H2=>R x y H2)
  {α:Type} {Q:α->su->Prop} {f:sr->sr->AO α}
  (hf:∀v u s2 x y H2,Inv X Bb σ H2 s2->RelV x v->RelV y u->R x y H2->sw (model X.prog X.w) X.A (f v u) Q X.xe s2) :
  sw (model X.prog X.w) X.A (eval a X.env) (λv s₁=>sw (model X.prog X.w) X.A (eval b X.env) (λu s₂=>sw (model X.prog X.w) X.A (f v u) Q X.xe s₂) X.xe s₁) X.xe s:=by
 refine thn (ha Bb s σ H _ I h) λv s1 ⟨x,H1,I1,r1,q1⟩=>?_;refine thn (hb Bb s1 σ H1 _ I1 q1) λu s2 ⟨y,H2,I2,r2,q2⟩=>?_;exact hf v u s2 x y H2 I2 r1 r2 q2
def onSl(σ:St)(i:Nat)(p:V->Prop):Prop:=match σ[i]? with | some (AX v)=>p v | _=>False
theorem onSl.of{σ:St}{i:Nat}{p:V->Prop}(h:onSl σ i p):∃v,σ[i]? = AX (AX v)/\p v:=by
 unfold onSl at h;split at h
 ·exact#[_,by assumption,h]
 ·exact h.elim
def onInt(x:V)(p:Int->Prop):Prop:=match x with | .int k=>p k | _=>False
theorem onInt.of{x:V}{p:Int->Prop}(h:onInt x p):∃k,x=.int k/\p k:=by
 cases x <;> first | exact#[_,rfl,h] | exact h.elim
theorem onInt.to{x:V}{p:Int->Prop}(h:∃k,x=.int k/\p k):onInt x p:=by
 obtain⟨k,rfl,h⟩:=h;exact h
def onStr(x:V)(p:sB->Prop):Prop:=match x with | .str k=>p k | _=>False
theorem onStr.of{x:V}{p:sB->Prop}(h:onStr x p):∃k,x=.str k/\p k:=by
 cases x <;> first | exact#[_,rfl,h] | exact h.elim
theorem onStr.to{x:V}{p:sB->Prop}(h:∃k,x=.str k/\p k):onStr x p:=by
 obtain⟨k,rfl,h⟩:=h;exact h
def onBl(x:V)(p:Bool->Prop):Prop:=match x with | .bl k=>p k | _=>False
theorem onBl.of{x:V}{p:Bool->Prop}(h:onBl x p):∃k,x=.bl k/\p k:=by
 cases x <;> first | exact#[_,rfl,h] | exact h.elim
theorem onBl.to{x:V}{p:Bool->Prop}(h:∃k,x=.bl k/\p k):onBl x p:=by
 obtain⟨k,rfl,h⟩:=h;exact h
def onRef(x:V)(p:sq->Prop):Prop:=match x with | .ref k=>p k | _=>False
theorem onRef.of{x:V}{p:sq->Prop}(h:onRef x p):∃k,x=.ref k/\p k:=by
 cases x <;> first | exact#[_,rfl,h] | exact h.elim
theorem onRef.to{x:V}{p:sq->Prop}(h:∃k,x=.ref k/\p k):onRef x p:=by
 obtain⟨k,rfl,h⟩:=h;exact h
def ym(i:Nat):TE:=λσ H Q=>onSl σ i λv=>Q v H
def tC(v:V):TE:=λ_ H Q=>Q v H
theorem zdB{i:Nat}{x:sB}{pos:tG}(hN:X.N[i]? = AX x)(hv:Vis X.env.scope x)(hd:(x ==("__debug__" : sB))=Ba:=by decide)(hcd:(x ==("__classdict__" : sB))=Ba:=by decide):PE X (.Name x pos) (ym i):=by
 intro Bb s σ H Q I h;obtain⟨v,e,h⟩:=onSl.of h;obtain⟨m,hn,hl⟩:=I.loc;obtain⟨u,r,l⟩:=hl i x v hN e hv;have fin:EP X Bb σ Q u s:=#[v,H,I,r,h];rcases l with ⟨hk,hm⟩ | ⟨hk,c,hc,hcell⟩
 ·exact AR (wpAny_loadName_local I.ok.kind hk hn hm fin) hd
 ·rcases hk with hk | hk
  ·exact AR (wpAny_loadName_cell I.ok.kind hk hc hcell fin) hd
  ·exact AR (wpAny_loadName_free I.ok.kind hk hc hcell fin hcd) hd
theorem zg{i j pos}:PE X (.Constant (.int i) j pos) (tC (.int i)):=λ_ _ _ H _ I h=>wpAny_Constant_int #[.int i,H,I.tok _,#[_,rfl],h]
theorem yM{b j pos}:PE X (.Constant (.bool b) j pos) (tC (.bl b)):=λ_ _ _ H _ I h=>Constant_bool #[.bl b,H,I,rfl,h]
theorem yd{j pos}:PE X (.Constant .none j pos) (tC .non):=λ_ _ _ H _ I h=>Constant_none #[.non,H,I,rfl,h]
theorem zS{x j pos}:PE X (.Constant (.str x) j pos) (tC (.str x)):=λ_ _ _ H _ I h=>Calls.Constant_str #[.str x,H,I.tok _,#[_,rfl],h]
def Gl(X:Cx)(x:sB):Prop:=X.env.kindOf x=AX .globalImplicit
theorem vL{E:sr->su->Prop}{Bb:List (sq × sX)}{s:su}{σ:St}{H:Hp}{x:sB}{u:sr}{pos:tG}{Q:sr->su->Prop}(I:Inv X Bb σ H s)(hg:Gl X x)(hm:X.mg x=AX u)(h:Q u s)
  (hd:(x ==("__debug__" : sB))=Ba:=by decide):sw (model X.prog X.w) X.A (eval (.Name x pos) X.env) Q E s :=
 Calls.Name_function_global I.ok.kind hg (Calls.loadGlobal_global (by rw[I.ok.glob];exact I.mod.glob.keeps I.bk) hm h) hd
theorem wT{E:sr->su->Prop}{Bb:List (sq × sX)}{s:su}{σ:St}{H:Hp}{x:sB}{u:sr}{pos:tG}{Q:sr->su->Prop}(I:Inv X Bb σ H s)(hg:Gl X x)(hm:X.mg x=AY)(hv:sZ x=AX u)(h:Q u s)
  (hn:x≠"__name__":=by decide) (hd:(x ==("__debug__" : sB))=Ba:=by decide):sw (model X.prog X.w) X.A (eval (.Name x pos) X.env) Q E s:=by
 obtain⟨mb,h1,h2⟩:=I.mod.blt;exact Calls.Name_function_global I.ok.kind hg (Calls.loadGlobal_builtin (by rw[I.ok.glob];exact I.mod.glob.keeps I.bk) hm (by rw[I.ok.blt];exact h1.keeps I.bk) ((h2 x hn).trans hv) h) hd
theorem yv{x:sB}{v:V}{u:sr}{pos:tG}(hg:Gl X x)(hm:X.mg x=AX u)(r:RelV v u)(hd:(x ==("__debug__" : sB))=Ba:=by decide):PE X (.Name x pos) (tC v) :=
 λ_ _ _ H _ I h=>vL I hg hm #[v,H,I,r,h] hd
theorem zbE{x:sB}{v:V}{u:sr}{pos:tG}(hg:Gl X x)(hm:X.mg x=AY)(hv:sZ x=AX u)(r:RelV v u)(hn:x≠"__name__":=by decide)(hd:(x ==("__debug__" : sB))=Ba:=by decide):PE X (.Name x pos) (tC v) :=
 λ_ _ _ H _ I h=>wT I hg hm hv #[v,H,I,r,h] hn hd
variable{a b:sF}{ta tb:TE}{pos:tG}
def PC(X:Cx)(op:tV)(a b:sF)(t:TE):Prop :=
 ∀(Bb:List (sq × sX)) (s:su) (σ:St) (H:Hp) (Q:VK),Inv X Bb σ H s->t σ H Q ->
  sw (model X.prog X.w) X.A (eval a X.env) (λv s₁=>sw (model X.prog X.w) X.A (eval b X.env) (λu s₂=>sw (model X.prog X.w) X.A (sK op v u) (EP X Bb σ Q) X.xe s₂) X.xe s₁) X.xe s
theorem KI(b:sF){op:tV}(h:op≠.In)(h2:op≠.NotIn):behindInMarks op b=Ba:=by
 have e1:(op == CmpOp.In)=Ba:=by cases op <;> first | rfl | exact absurd rfl h
 have e2:(op == CmpOp.NotIn)=Ba:=by cases op <;> first | rfl | exact absurd rfl h2
 cases b <;> simp [behindInMarks,e1,e2]
theorem xz{op:tV}{t:TE}(h:PC X op a b t)(h1:behindInMarks op b=Ba:=by first | exact KI _ ∅ ∅ | rfl):PE X (.Compare a [op] [b] pos) t:=λBb s σ H Q I hw=>wpAny_Compare1 (h Bb s σ H Q I hw) h1
variable{tA tB':TT}{rest:List sF}
def zez(t u:TT):TT:=λσ H Q=>t σ H λc H1=>if c=AZ then u σ H1 Q else Q Ba H1
def tOr(t u:TT):TT:=λσ H Q=>t σ H λc H1=>if c=AZ then Q AZ H1 else u σ H1 Q
def zcO(t:TT):TT:=λσ H Q=>t σ H λc H1=>Q (!c) H1
theorem zbH(ha:PT X a tA):PW X (.BoolOp .And [a] pos) tA:=by
 intro wh Bb s σ H Q I h;refine isTrue_and (thn (ha Bb s σ H Q I h) λc s1 e=>?_)
 cases c with
 | true=>exact isTrue_and_nil e
 | false=>exact e
theorem wz(ha:PT X a tA):PW X (.BoolOp .Or [a] pos) tA:=by
 intro wh Bb s σ H Q I h;refine isTrue_or (thn (ha Bb s σ H Q I h) λc s1 e=>?_)
 cases c with
 | false=>exact isTrue_or_nil e
 | true=>exact e
theorem zcV(ha:PT X a tA)(hb:PW X (.BoolOp .And (b::rest) pos) tB'):PW X (.BoolOp .And (a::b::rest) pos) (zez tA tB'):=by
 intro wh Bb s σ H Q I h;refine isTrue_and (thn (ha Bb s σ H _ I h) λc s1 ⟨H1,I1,q1⟩=>?_)
 cases c with
 | true=>exact hb wh Bb s1 σ H1 Q I1 q1
 | false=>exact#[H1,I1,q1]
theorem vx(ha:PT X a tA)(hb:PW X (.BoolOp .Or (b::rest) pos) tB'):PW X (.BoolOp .Or (a::b::rest) pos) (tOr tA tB'):=by
 intro wh Bb s σ H Q I h;refine isTrue_or (thn (ha Bb s σ H _ I h) λc s1 ⟨H1,I1,q1⟩=>?_)
 cases c with
 | true=>exact#[H1,I1,q1]
 | false=>exact hb wh Bb s1 σ H1 Q I1 q1
theorem zU(ha:PT X a tA):PT X (.UnaryOp .Not a pos) (zcO tA):=by
 intro Bb s σ H Q I h;exact isTrue_not (ha Bb s σ H (λc H1=>Q (!c) H1) I h)
def U1(ta tb:TE):TE:=λσ H Q=>ta σ H λx H1=>onBl x λc=>if c=AZ then tb σ H1 Q else Q (.bl Ba) H1
def zeH(ta tb:TE):TE:=λσ H Q=>ta σ H λx H1=>onBl x λc=>if c=AZ then Q (.bl AZ) H1 else tb σ H1 Q
def UQ(ta:TE):TE:=λσ H Q=>ta σ H λx H1=>onBl x λc=>Q (.bl (!c)) H1
theorem jt{op}{t:TE}(h:PE X a t):PE X (.BoolOp op [a] pos) t:=λBb s σ H Q I hw=>BoolOp_one (h Bb s σ H Q I hw)
theorem km(ha:PE X a ta)(hb:PE X (.BoolOp .And (b::rest) pos) tb):PE X (.BoolOp .And (a::b::rest) pos) (U1 ta tb):=by
 intro Bb s σ H Q I h;refine BoolOp_and (thn (ha Bb s σ H _ I h) λv s1 ⟨x,H1,I1,r1,q1⟩=>?_);obtain⟨c,rfl,q1⟩:=onBl.of q1;cases r1;refine sM ?_
 cases c with
 | true=>exact hb Bb s1 σ H1 Q I1 q1
 | false=>exact#[.bl Ba,H1,I1,rfl,q1]
theorem zfU(ha:PE X a ta)(hb:PE X (.BoolOp .Or (b::rest) pos) tb):PE X (.BoolOp .Or (a::b::rest) pos) (zeH ta tb):=by
 intro Bb s σ H Q I h;refine BoolOp_or (thn (ha Bb s σ H _ I h) λv s1 ⟨x,H1,I1,r1,q1⟩=>?_);obtain⟨c,rfl,q1⟩:=onBl.of q1;cases r1;refine sM ?_
 cases c with
 | false=>exact hb Bb s1 σ H1 Q I1 q1
 | true=>exact#[.bl AZ,H1,I1,rfl,q1]
theorem zaR(ha:PE X a ta):PE X (.UnaryOp .Not a pos) (UQ ta):=by
 intro Bb s σ H Q I h;refine UnaryOp_ (thn (ha Bb s σ H _ I h) λv s1 ⟨x,H1,I1,r1,q1⟩=>?_);obtain⟨c,rfl,q1⟩:=onBl.of q1;cases r1;exact not_of (sM #[.bl (!c),H1,I1,rfl,q1])
def tIf(t:TT)(ta tb:TE):TE:=λσ H Q=>t σ H λc H1=>if c=AZ then ta σ H1 Q else tb σ H1 Q
theorem vn{c:sF}(hc:PT X c tA)(ha:PE X a ta)(hb:PE X b tb):PE X (.IfExp c a b pos) (tIf tA ta tb):=by
 intro Bb s σ H Q I h;refine wpAny_IfExp (thn (hc Bb s σ H _ I h) λd s1 ⟨H1,I1,q1⟩=>?_)
 cases d with
 | true=>exact ha Bb s1 σ H1 Q I1 q1
 | false=>exact hb Bb s1 σ H1 Q I1 q1
end
def SqL(K:so)(H:Hp)(a:sq)(xs:List V):Prop :=
 Rd H a (.lst xs) \/
  ∃(o:sX) (its:Array sr) (n:Nat),K.lookup a=AX o/\o.cls=.type "list"/\o.dict=AY/\o.data=.seq its n/\its.size<=sk/\Vals xs its.toList
def SqT(K:so)(H:Hp)(a:sq)(xs:List V):Prop :=
 Rd H a (.tup xs) \/
  ∃(o:sX) (its:Array sr) (n:Nat),K.lookup a=AX o/\o.cls=.type "tuple"/\o.data=.seq its n/\its.size<=sk/\Vals xs its.toList
noncomputable def zgf:sr->Option V
 | .none=>AX .non
 | .bool b=>AX (.bl b)
 | .int i _=>AX (.int i)
 | .str x _=>AX (.str x)
 | .bytes b _=>AX (.byt b)
 | .float b _=>AX (.flt b)
 | .ref a=>AX (.ref a)
 | .type n=>AX (.ty n)
 | _=>AY
theorem RelV.abs{x:V}{u:sr}(r:RelV x u):zgf u=AX x:=by
 cases x with
 | non=>cases r;rfl
 | bl _=>cases r;rfl
 | int _=>obtain⟨t,rfl⟩:=r;rfl
 | str _=>obtain⟨t,rfl⟩:=r;rfl
 | byt _=>obtain⟨t,rfl⟩:=r;rfl
 | flt _=>obtain⟨t,rfl⟩:=r;rfl
 | ref _=>cases r;rfl
 | ty _=>cases r;rfl
theorem RelV.inj{x y:V}{u:sr}(r:RelV x u)(q:RelV y u):x=y:=Option.some.inj (r.abs.symm.trans q.abs)
theorem Vals.inj:∀{xs ys:List V} {us:List sr},Vals xs us->Vals ys us->xs=ys
 | _,_,_,.nil,.nil=>rfl
 | _,_,_,.cons r t,.cons r' t'=>by rw[r.inj r',Vals.inj t t']
section
variable{X:Cx}{Bb:List (sq × sX)}{σ:St}{H:Hp}{s:su}{a:sq}{xs ys:List V}
theorem SqL.of{K:so}(h:H a=AX (.lst xs)):SqL K H a xs:=.inl (.inl h)
theorem SqT.of{K:so}(h:H a=AX (.tup xs)):SqT K H a xs:=.inl (.inl h)
theorem Inv.list(I:Inv X Bb σ H s)(h:SqL X.K H a xs):∃its:List sr,Vals xs its/\PlainL s.heap a its.toArray/\xs.length<=sk:=by
 rcases h with h | ⟨o,its,n,hk,hc,hd,hs,hz,r⟩
 ·obtain⟨z,its,n,r,e⟩:=h.ok I.hok;exact#[its,r,#[_,n,e,rfl,rfl,rfl],z]
 ·refine#[its.toList,r,#[o,n,I.kIn a o hk,hc,hd,by simpa using hs],?_];have e:=r.length
  erw[dP]at e
  lia
theorem Inv.tuple(I:Inv X Bb σ H s)(h:SqT X.K H a xs):∃its:List sr,Vals xs its/\IsTup s.heap a its.toArray/\xs.length<=sk:=by
 rcases h with h | ⟨o,its,n,hk,hc,hs,hz,r⟩
 ·obtain⟨z,its,r,p⟩:=h.ok I.hok;exact#[its,r,p,z]
 ·refine#[its.toList,r,#[o,I.kIn a o hk,hc,n,by simpa using hs],?_];have e:=r.length
  erw[dP]at e
  lia
theorem Inv.list_inj(I:Inv X Bb σ H s)(h:SqL X.K H a xs)(h':SqL X.K H a ys):xs=ys:=by
 obtain⟨its,r,⟨o,n,e,_,_,d⟩,_⟩:=I.list h;obtain⟨its',r',⟨o',n',e',_,_,d'⟩,_⟩:=I.list h';rw[e]at e';cases e';rw[d]at d';injection d' with d1 _;have:its=its':=by simpa using congrArg Array.toList d1
 subst this;exact r.inj r'
theorem Inv.tuple_inj(I:Inv X Bb σ H s)(h:SqT X.K H a xs)(h':SqT X.K H a ys):xs=ys:=by
 obtain⟨its,r,⟨o,e,_,n,d⟩,_⟩:=I.tuple h;obtain⟨its',r',⟨o',e',_,n',d'⟩,_⟩:=I.tuple h';rw[e]at e';cases e';rw[d]at d';injection d' with d1 _;have:its=its':=by simpa using congrArg Array.toList d1
 subst this;exact r.inj r'
end
noncomputable abbrev Cx.wish(X:Cx)(E:sr->su->Prop):Cx:={ X with xe:=E }
noncomputable abbrev Cx.nox(X:Cx):Cx:=X.wish λ_ _=>False
theorem Cx.Ok.wish{X:Cx}(ok:X.Ok)(E:sr->su->Prop):(X.wish E).Ok :=
 #[ok.mod,ok.kind,ok.glob,ok.blt,ok.above,ok.inj,ok.has,ok.cab,ok.hd,ok.frames,ok.stk,ok.exf,ok.bs,ok.bsz,ok.noex,ok.exfs,ok.funs,ok.frf]
theorem Cx.Ok.unwish{X:Cx}{E:sr->su->Prop}(ok:(X.wish E).Ok):X.Ok :=
 #[ok.mod,ok.kind,ok.glob,ok.blt,ok.above,ok.inj,ok.has,ok.cab,ok.hd,ok.frames,ok.stk,ok.exf,ok.bs,ok.bsz,ok.noex,ok.exfs,ok.funs,ok.frf]
section
variable{X:Cx}{Bb:List (sq × sX)}{σ:St}{H:Hp}{s:su}{E:sr->su->Prop}
theorem Inv.wish(I:Inv X Bb σ H s)(E:sr->su->Prop):Inv (X.wish E) Bb σ H s:=#[I.ok.wish E,I.os,I.bare,I.base,I.loc,I.cell,I.free,I.freeC,I.pin,I.hok,I.len]
theorem Inv.unwish(I:Inv (X.wish E) Bb σ H s):Inv X Bb σ H s:=#[I.ok.unwish,I.os,I.bare,I.base,I.loc,I.cell,I.free,I.freeC,I.pin,I.hok,I.len]
theorem SP.unwish{D:vG}{f:Flow}{s':su}(h:SP (X.wish E) Bb D f s'):SP X Bb D f s':=by
 cases f with
 | next=>obtain⟨σ',H',I,q⟩:=h;exact#[σ',H',I.unwish,q]
 | brk=>obtain⟨σ',H',I,q⟩:=h;exact#[σ',H',I.unwish,q]
 | cont=>obtain⟨σ',H',I,q⟩:=h;exact#[σ',H',I.unwish,q]
 | ret u=>obtain⟨v,σ',H',I,r,q⟩:=h;exact#[v,σ',H',I.unwish,r,q]
theorem PSs.nox{st:List sJ}{t:TS}(h:PSs X.nox st t):PSs X st t:=λBb s σ H D I hw =>
 tJ (h Bb s σ H D (I.wish _) hw) (λ_ _ q=>q.unwish) λ_ _ z=>False.elim z
end
section
variable{X:Cx}{st:sJ}{rest:List sJ}{t u:TS}{e:sF}{te:TE}{pos:tG}
def Ko:TS:=λD σ H=>D.nx σ H
def zeK(t u:TS):TS:=λD σ H=>t { D with nx:=u D } σ H
theorem zv:PSs X [] Ko:=λ_ _ σ H _ I h=>tI #[σ,H,I,h]
theorem zI(h1:PS X st t)(h2:PSs X rest u):PSs X (st::rest) (zeK t u):=by
 intro Bb s σ H D I h;refine tL (thn (h1 Bb s σ H { D with nx:=u D } I h) λf s1 q=>?_)
 cases f with
 | next =>
  obtain⟨σ',H',I',q⟩:=q;exact h2 Bb s1 σ' H' D I' q
 | ret v=>exact q
 | brk=>exact q
 | cont=>exact q
theorem zf(h1:PS X st t):PSs X [st] t:=by
 intro Bb s σ H D I h;refine tL (thn (h1 Bb s σ H D I h) λf s1 q=>?_)
 cases f with
 | next=>exact tI q
 | ret v=>exact q
 | brk=>exact q
 | cont=>exact q
theorem Inv.quiet{Bb:List (sq × sX)}{σ:St}{H:Hp}{s:su}(I:Inv X Bb σ H s):interactive X.env=Ba:=by simp [interactive,I.ok.kind]
def Kh(te:TE):TS:=λD σ H=>te σ H λ_ H1=>D.nx σ H1
theorem xL(he:PE X e te)(hs:swapsWith e AY pos.line X.env=pure Ba:=by rfl):PS X (.Expr e pos) (Kh te):=by
 intro Bb s σ H D I h;exact wpAny_Expr_any (thn (he Bb s σ H _ I h) λv s1 ⟨x,H1,I1,r1,q1⟩=>#[σ,H1,I1,q1]) I.quiet hs
def zaD(te:TE):TS:=λD σ H=>te σ H D.rt
theorem zl(he:PE X e te):PS X (.Return (AX e) pos) (zaD te):=by
 intro Bb s σ H D I h;exact AF (thn (he Bb s σ H _ I h) λv s1 ⟨x,H1,I1,r1,q1⟩=>#[x,σ,H1,I1,r1,q1])
def zeI(c:TT)(t u:TS):TS:=λD σ H=>c σ H λb H1=>if b=AZ then t D σ H1 else u D σ H1
theorem zK{c:sF}{a b:List sJ}{tc:TT}(hc:PT X c tc)(ha:PSs X a t)(hb:PSs X b u):PS X (.If c a b pos) (zeI tc t u):=by
 intro Bb s σ H D I h;refine wpAny_If (thn (hc Bb s σ H _ I h) λd s1 ⟨H1,I1,q1⟩=>?_)
 cases d with
 | true=>exact ha Bb s1 σ H1 D I1 q1
 | false=>exact hb Bb s1 σ H1 D I1 q1
end
noncomputable abbrev TG:=V->St->Hp->(St->Hp->Prop)->Prop
noncomputable abbrev TGs:=List V->St->Hp->(St->Hp->Prop)->Prop
def PG(X:Cx)(target:sF)(t:TG):Prop :=
 ∀(Bb:List (sq × sX)) (s:su) (σ:St) (H:Hp) (v:V) (u:sr) (Q:St->Hp->Prop),Inv X Bb σ H s->RelV v u->t v σ H Q ->
  sw (model X.prog X.w) X.A (assign target X.env u) (λ_ s'=>∃σ' H',Inv X Bb σ' H' s'/\Q σ' H') X.xe s
def PGs(X:Cx)(ts:List sF)(t:TGs):Prop :=
 ∀(Bb:List (sq × sX)) (s:su) (σ:St) (H:Hp) (vs:List V) (us:List sr) (Q:St->Hp->Prop),Inv X Bb σ H s->Vals vs us->t vs σ H Q ->
  sw (model X.prog X.w) X.A (assignInOrder ((assignEach ts X.env).map (·.2)) us) (λ_ s'=>∃σ' H',Inv X Bb σ' H' s'/\Q σ' H') X.xe s
noncomputable abbrev zeS:=V->V->V->Hp->(Hp->Prop)->Prop
def zgk(X:Cx)(t:zeS):Prop :=
 ∀(Bb:List (sq × sX)) (s:su) (σ:St) (H:Hp) (o i v:V) (ov iv u:sr) (Q:Hp->Prop),Inv X Bb σ H s->RelV o ov->RelV i iv->RelV v u->t o i v H Q ->
  sw (model X.prog X.w) X.A (setItem ov iv u) (λ_ s'=>∃H',Inv X Bb σ H' s'/\Q H') X.xe s
section
variable{X:Cx}{pos:tG}
def yy(i:Nat):TG:=λv σ H Q=>Q (σ.set i (AX v)) H
theorem zx{i:Nat}{x:sB}(hN:X.N.Nodup)(hi:X.N[i]? = AX x)(hx:Loc X.env.scope x)(hf:X.fn x=AZ\/X.env.scope.names.lookup x=AX .local:=by first | exact .inl rfl | exact .inr rfl | assumption):PG X (.Name x pos) (yy i):=by
 intro Bb s σ H v u Q I r h;exact AE (Zh I hN hi hx r (λs' I'=>#[_,H,I',h]) hf)
def zbb:TGs:=λvs σ H Q=>vs=[]/\Q σ H
def jZ(t:TG)(u:TGs):TGs:=λvs σ H Q=>∃v r,vs=v::r/\t v σ H λσ' H'=>u r σ' H' Q
theorem wG:PGs X [] zbb:=by
 intro Bb s σ H vs us Q I r h;obtain⟨e,h⟩:=h;subst e;cases r;exact assignInOrder_nil #[σ,H,I,h]
theorem yb{e:sF}{es:List sF}{t:TG}{u:TGs}(h1:PG X e t)(h2:PGs X es u)
  (hs:(assignEach (e::es) X.env).map (·.2)=assign e X.env::(assignEach es X.env).map (·.2):=by rfl):PGs X (e::es) (jZ t u):=by
 intro Bb s σ H vs us Q I r h;obtain⟨v,vr,e1,h⟩:=h;subst e1
 cases r with
 | cons r rr =>
  rw[hs];refine assignInOrder_cons (thn (h1 Bb s σ H _ _ _ I r h) λ_ s1 ⟨σ1,H1,I1,q1⟩=>?_);exact h2 Bb s1 σ1 H1 _ _ Q I1 rr q1
def zbg(K:so)(n:Nat)(t:TGs):TG:=λv σ H Q=>∃a xs,v=.ref a/\SqT K H a xs/\xs.length=n/\t xs σ H Q
theorem qd{es:List sF}{k:Nat}{t:TGs}{n:Nat}(hc:X.calm=AZ)(h:PGs X es t)
  (hn:(assignEach es X.env).length=n:=by rfl) (hst:(assignEach es X.env).findIdx? (·.1)=AY:=by rfl):PG X (.Tuple es k pos) (zbg X.K n t):=by
 intro Bb s σ H v u Q I r hw;obtain⟨a,xs,e1,hq,hl,hw⟩:=hw;subst e1;cases r;obtain⟨its,rv,ht,hz⟩:=I.tuple hq;refine assign_Tuple_tuple (I.ok.hd hc) ht (by simp [hn,<- hl,rv.length]) hst λh' hx=>?_;have I1:Inv X Bb σ H { s with heap:=h' }:=I.kept (t':=s.toks) λb o e=>hx b o (aA (ao e)) e;exact h Bb _ σ H xs _ Q I1 (by simpa using rv) hw
def zgd(to ti:TE)(t:zeS):TG:=λv σ H Q=>to σ H λo H1=>ti σ H1 λi H2=>t o i v H2 λH3=>Q σ H3
theorem zew{o i:sF}{to ti:TE}{t:zeS}(ho:PE X o to)(hi:PE X i ti)(hs:zgk X t)
  (ha:∀v,assign (.Subscript o i pos) X.env v=(do
   let ov <- holding [v] (eval o X.env)
   let iv <- holding [v,ov] (eval i X.env)
   standAt pos
   holding [v,ov,iv] (setItem ov iv v)
   release [v,ov,iv] []):=by intro _;rfl):PG X (.Subscript o i pos) (zgd to ti t):=by
 intro Bb s σ H v u Q I r h;rw[ha];refine rZ (sY (thn (ho Bb s σ H _ I h) λov s1 ⟨x,H1,I1,r1,q1⟩=>?_));refine rZ (sY (thn (hi Bb s1 σ H1 _ I1 q1) λiv s2 ⟨y,H2,I2,r2,q2⟩=>?_));refine rZ (tD (rZ (sY (thn (hs Bb s2 σ H2 x y v ov iv u _ I2 r1 r2 r q2) λ_ s3 ⟨H3,I3,q3⟩=>?_))));exact wpAny_release #[σ,H3,I3,q3]
def zcR(te:TE)(g:TG):TS:=λD σ H=>te σ H λx H1=>g x σ H1 D.nx
theorem zdz{tg e:sF}{te:TE}{g:TG}(he:PE X e te)(hg:PG X tg g)(hs:swapsWithSole [tg] e pos.line X.env=pure Ba:=by rfl)(hw:swappedStores [tg] e X.env=pure AY:=by rfl)
  (h1:(assignEach [tg] X.env).map (·.2)=[assign tg X.env]:=by rfl):PS X (.Assign [tg] e pos) (zcR te g):=by
 intro Bb s σ H D I h;refine wpAny_Assign_stores (thn (he Bb s σ H _ I h) λv s1 ⟨x,H1,I1,r1,q1⟩=>?_) hs hw;rw[h1];exact thn (hg Bb s1 σ H1 x v _ I1 r1 q1) λ_ s2 q=>q
theorem qk{i:Nat}{x:sB}{e:sF}{te:TE}{pos':tG}(hN:X.N.Nodup)(hi:X.N[i]? = AX x)(hx:Loc X.env.scope x)(he:PE X e te)(hs:swapsWith e (AX (.Name x pos')) pos.line X.env=pure Ba:=by rfl)(hf:X.fn x=AZ\/X.env.scope.names.lookup x=AX .local:=by first | exact .inl rfl | exact .inr rfl | assumption) :
  PS X (.Assign [.Name x pos'] e pos) (zcR te (yy i)):=by
 intro Bb s σ H D I h;refine AG (thn (he Bb s σ H _ I h) λv s1 ⟨y,H1,I1,r1,q1⟩=>?_) hs;exact Zh I1 hN hi hx r1 (λs2 I2=>#[_,H1,I2,q1]) hf
def Jo(c:TT)(tb:TS):TS:=λD σ H=>∃W:Nat->St->Hp->Prop,(∃m,W m σ H)/\∀m σ H,W m σ H ->
 c σ H λb H1=>if b=AZ then ∃N:St->Hp->Prop,(∀σ' H',N σ' H'->∃m',m'<m/\W m' σ' H')/\tb { D with nx:=N,ct:=N,bk:=D.nx } σ H1 else D.nx σ H1
theorem W4{c:sF}{body:List sJ}{tc:TT}{tb:TS}(hp:PassesOwn (model X.prog X.w) X.A X.env X.xe)(hc:PT X c tc)(hb:PSs X body tb):PS X (.While c body [] pos) (Jo tc tb):=by
 intro Bb s σ H D I h;obtain⟨W,⟨m0,w0⟩,turn⟩:=h;refine wpAny_While (codeAny_whileLoop (λn s'=>∃σ' H',Inv X Bb σ' H' s'/\W n σ' H') ?_ m0 #[σ,H,I,w0]);rintro n s1 ⟨σ1,H1,I1,w1⟩;refine tB hp (thn (hc Bb s1 σ1 H1 _ I1 (turn n σ1 H1 w1)) λb s2 ⟨H2,I2,q2⟩=>?_)
 cases b with
 | true =>
  obtain⟨N,hN,q2⟩:=q2;rw[if_pos rfl];refine tB hp (thn (hb Bb s2 σ1 H2 _ I2 q2) λf s3 q3=>?_)
  cases f with
  | next =>
   obtain⟨σ3,H3,I3,n3⟩:=q3;obtain⟨m',hm,w3⟩:=hN σ3 H3 n3;exact#[m',hm,σ3,H3,I3,w3]
  | cont =>
   obtain⟨σ3,H3,I3,n3⟩:=q3;obtain⟨m',hm,w3⟩:=hN σ3 H3 n3;exact#[m',hm,σ3,H3,I3,w3]
  | brk=>exact q3
  | ret v=>exact q3
 | false =>
  rw[if_neg az];exact tI #[σ1,H2,I2,q2]
end
structure It where
 go:Nat->Hp->Prop
 yld:Nat->Hp->V->Hp->Prop
 stop:Nat->Hp->Prop
def wm(X:Cx)(Bb:List (sq × sX))(H:Hp)(b:sq):Prop :=
 H b=AY/\b≠X.env.locals/\b ∉ X.fs/\(b ∈ X.ex\/X.s₀.heap.objs.size<=b)/\(∀x c,X.env.cells.lookup x=AX c->c≠b)/\∀p ∈ X.pn ++ Bb,p.1≠b
theorem Inv.fpOk{X:Cx}{Bb:List (sq × sX)}{σ:St}{H H':Hp}{s:su}{b:sq}(I:Inv X Bb σ H s)(hb:s⁻¹<=b)(hn:H' b=AY):wm X Bb H' b:=by
 refine#[hn,cp (aw I.lt hb),I.nofs hb,.inr (aM I.sz hb),λx c e z=>?_,λp hp z=>?_]
 ·obtain⟨v,q⟩:=I.cell x c e;exact absurd (aw q.lt (by rw[z];exact hb)) (cK _)
 ·exact absurd (aw (ao (I.pin p hp).1) (by rw[z];exact hb)) (cK _)
structure Jx(P:sy)(w:sC)(K:so)(tg:sF)(J:It)(fp:List sq)(it:sq)(tn:Nat->sI->Prop):Prop where
 mem:it ∈ fp
 obj:∀i h,tn i h->∀b ∈ fp,∃o,h.get? b=AX o/\∀v,o.data≠.cell v
 keep:∀i h h',tn i h->(∀b ∈ fp,∀o,h.get? b=AX o->h'.get? b=AX o)->tn i h'
 item:∀(X:Cx),X.prog=P->X.w=w->X.K=K->X.calm=AZ->∀(i:Nat) (Bb:List (sq × sX)) (s:su) (σ:St) (H:Hp) (E:sr->su->Prop),Inv X Bb σ H s->(∀b ∈ fp,wm X Bb H b)->tn i s.heap->J.go i H ->
  sw (model P w) X.A (pyNext (.ref it)) (λr s1=>∃u,r=AX u /\
   sw (model P w) X.A (letOwnedTupleGo tg (.ref it) u) (λ_ s2=>∃x H',Inv X Bb σ H' s2/\RelV x u/\J.yld i H x H'/\tn (i+1) s2.heap/\∀b ∈ fp,H' b=AY) E s1) E s
 done:∀(X:Cx),X.prog=P->X.w=w->X.K=K->X.calm=AZ->∀(i:Nat) (Bb:List (sq × sX)) (s:su) (σ:St) (H:Hp) (E:sr->su->Prop),Inv X Bb σ H s->(∀b ∈ fp,wm X Bb H b)->tn i s.heap->J.stop i H ->
  sw (model P w) X.A (pyNext (.ref it)) (λr s1=>r=AY/\Inv X Bb σ H s1) E s
 self:∀(A:sE) (i:Nat) (s:su) (Q:sr->su->Prop) (E:sr->su->Prop),tn i s.heap->Q (.ref it) s->sw (model P w) A (pyIter (.ref it)) Q E s
noncomputable abbrev TI:=St->Hp->(It->Hp->Prop)->Prop
def PIE(X:Cx)(Bb:List (sq × sX))(σ:St)(tg:sF)(R:It->Hp->Prop)(itv:sr)(s2:su):Prop :=
 ∃(it:sq) (fp:List sq) (tn:Nat->sI->Prop) (J:It) (H':Hp),itv=.ref it/\Inv X Bb σ H' s2/\Jx X.prog X.w X.K tg J fp it tn/\tn 0 s2.heap/\(∀b ∈ fp,wm X Bb H' b)/\R J H'
def PI(X:Cx)(tg iter:sF)(wi:TI):Prop :=
 ∀(Bb:List (sq × sX)) (s:su) (σ:St) (H:Hp) (R:It->Hp->Prop),Inv X Bb σ H s->wi σ H R ->
  sw (model X.prog X.w) X.A (eval iter X.env) (λv s1=>sw (model X.prog X.w) X.A (pyIter v) (PIE X Bb σ tg R) X.xe s1) X.xe s
theorem Vz{M:AH}{A:sE}{E:sr->su->Prop}{s:su}{tg:sF}{it:sq}{u:sr}{o:sX}{n:String}{vs:Array sr}{Q:Unit->su->Prop}(ho:s.heap.get? it=AX o)(hc:o.cls=.type n)(hd:o.data=.fields vs)
    (hn:["enumerate","zip","dict_itemiterator","dict_reverseitemiterator","odict_iterator","itertools.zip_longest","itertools.pairwise"].contains n=Ba) (hQ:Q Unit.unit s):sw M A (letOwnedTupleGo tg (.ref it) u) Q E s:=by
  unfold letOwnedTupleGo
  cases tg <;> first
    | exact sf hQ
    | (cases u <;> first
        | exact sf hQ
        | (refine rZ (wpAny_load ho ?_)
           rw[hc,hd];show sw M A (if (["enumerate","zip","dict_itemiterator","dict_reverseitemiterator","odict_iterator","itertools.zip_longest","itertools.pairwise"].contains n && vs[0]? == AX (rawInt _))=AZ then _ else _) Q E s;rw[if_neg (by intro h;rw[hn,Bool.false_and]at h;cases h)]
           exact sf hQ))
noncomputable def Itl(K:so)(a:sq):It :=
 #[λi H=>∃xs x,SqL K H a xs/\xs[i]? = AX x,λi H x H'=>H'=H/\∀xs,SqL K H a xs->xs[i]? = AX x,λi H=>∃xs,SqL K H a xs/\xs.length<=i]
noncomputable def Itt(K:so)(a:sq):It :=
 #[λi H=>∃xs x,SqT K H a xs/\xs[i]? = AX x,λi H x H'=>H'=H/\∀xs,SqT K H a xs->xs[i]? = AX x,λi H=>∃xs,SqT K H a xs/\xs.length<=i]
noncomputable def Itr(lo:Int)(n:Nat):It:=#[λi _=>i<n,λi H x H'=>H'=H/\x=.int (lo+i),λi _=>n<=i]
theorem U3{P:sy}{w:sC}{K:so}{tg:sF}(a it:sq):Jx P w K tg (Itl K a) [it] it (λi h=>h.IsListIter it a i) where
 mem:=by simp
 obj:=λi h st b hb=>by
  have e:b=it:=by simpa using hb
  subst e;obtain⟨o,e,c,d⟩:=st;exact#[o,e,λv z=>by rw[d]at z;cases z]
 keep:=λi h h' st k=>st.at λo e=>k it (by simp) o e
 item:=by
  intro X hP hw hK hc i Bb s σ H E I hf st hg;subst hP hw hK;obtain⟨xs,x,hq,hx⟩:=hg;obtain⟨its,rv,p,hz⟩:=I.list hq;obtain⟨u,hu,ru⟩:=rv.get hx;obtain⟨f0,f1,f2,f3,f4,f5⟩:=hf it (by simp);refine wpAny_pyNext_list_item st p.isList (x:=u) (by simpa using hu) λh' st' sb=>?_;have I1:Inv X Bb σ H { s with heap:=h' }:=I.turned (t':=s.toks) (λb o hb e=>(sb.2 b hb).trans e) f0 f1 f3 f4 f5;obtain⟨o,e,c,d⟩:=id st';exact#[u,rfl,Vz (s:={ s with heap:=h' }) e c d ∅ #[x,H,I1,ru,#[rfl,λys hy=>by rw[I.list_inj hy hq];exact hx],st',λb hb=>(hf b hb).1]]
 done:=by
  intro X hP hw hK hc i Bb s σ H E I hf st hg;subst hP hw hK;obtain⟨xs,hq,hx⟩:=hg;obtain⟨its,rv,p,hz⟩:=I.list hq;obtain⟨f0,f1,f2,f3,f4,f5⟩:=hf it (by simp);have hl:=rv.length;exact wpAny_pyNext_list_end (I.ok.hd hc) st p.isList (by simp;lia) λh' eb=>#[rfl,I.turned (t':=s.toks) (λb o hb e=>eb b o hb e) f0 f1 f3 f4 f5]
 self:=λ_ _ _ _ _ st h=>wpAny_pyIter_listiter st h
theorem Vl{P:sy}{w:sC}{K:so}{tg:sF}(a it:sq):Jx P w K tg (Itt K a) [it] it (λi h=>h.IsTupleIter it a i) where
 mem:=by simp
 obj:=λi h st b hb=>by
  have e:b=it:=by simpa using hb
  subst e;obtain⟨o,e,c,d⟩:=st;exact#[o,e,λv z=>by rw[d]at z;cases z]
 keep:=λi h h' st k=>st.at λo e=>k it (by simp) o e
 item:=by
  intro X hP hw hK hc i Bb s σ H E I hf st hg;subst hP hw hK;obtain⟨xs,x,hq,hx⟩:=hg;obtain⟨its,rv,p,hz⟩:=I.tuple hq;obtain⟨u,hu,ru⟩:=rv.get hx;obtain⟨f0,f1,f2,f3,f4,f5⟩:=hf it (by simp);refine wpAny_pyNext_tuple_item st (show s.heap.IsTuple a its.toArray from p) (x:=u) (by simpa using hu) λh' st' sb=>?_;have I1:Inv X Bb σ H { s with heap:=h' }:=I.turned (t':=s.toks) (λb o hb e=>(sb.2 b hb).trans e) f0 f1 f3 f4 f5;obtain⟨o,e,c,d⟩:=id st';exact#[u,rfl,Vz (s:={ s with heap:=h' }) e c d ∅ #[x,H,I1,ru,#[rfl,λys hy=>by rw[I.tuple_inj hy hq];exact hx],st',λb hb=>(hf b hb).1]]
 done:=by
  intro X hP hw hK hc i Bb s σ H E I hf st hg;subst hP hw hK;obtain⟨xs,hq,hx⟩:=hg;obtain⟨its,rv,p,hz⟩:=I.tuple hq;obtain⟨f0,f1,f2,f3,f4,f5⟩:=hf it (by simp);have hl:=rv.length;exact wpAny_pyNext_tuple_end (I.ok.hd hc) st (show s.heap.IsTuple a its.toArray from p) (by simp;lia) λh' eb=>#[rfl,I.turned (t':=s.toks) (λb o hb e=>eb b o hb e) f0 f1 f3 f4 f5]
 self:=λ_ _ _ _ _ st h=>wpAny_pyIter_tupleiter st h
theorem Vg{P:sy}{w:sC}{K:so}{tg:sF}(it:sq)(lo:Int)(n:Nat):Jx P w K tg (Itr lo n) [it] it (λi h=>Au h it (lo+(i:Nat) * 1) ((n:Int) - (i:Nat)) 1) where
 mem:=by simp
 obj:=λi h st b hb=>by
  have e:b=it:=by simpa using hb
  subst e
  exact#[_,st,λv z=>by
   have z':Data.fields _=Data.cell v:=z
   cases z']
 keep:=λi h h' st k=>k it (by simp) _ st
 item:=by
  intro X hP hw hK hc i Bb s σ H E I hf st hg;subst hP hw hK;obtain⟨f0,f1,f2,f3,f4,f5⟩:=hf it (by simp);have W:=Walks.range (prog:=X.prog) (w:=X.w) (I.ok.hd hc) it lo 1 n;refine W.item i s _ _ hg st λv h' tk hv st' kk=>?_;obtain⟨t,rfl⟩:=hv;have I1:Inv X Bb σ H { s with heap:=h',toks:=tk }:=I.turned (λb o hb e=>kk b o (by simpa using hb) e) f0 f1 f3 f4 f5;refine#[_,rfl,Vz (s:={ s with heap:=h',toks:=tk }) (n:="range_iterator") st' rfl rfl ∅ #[.int (lo+i),H,I1,#[t,?_],#[rfl,rfl],st',λb hb=>(hf b hb).1]];rw[Int.mul_one]
 done:=by
  intro X hP hw hK hc i Bb s σ H E I hf st hg;subst hP hw hK;obtain⟨f0,f1,f2,f3,f4,f5⟩:=hf it (by simp);exact Ah (I.ok.hd hc) st (by have:n<=i:=hg;lia) λh' eb=>#[rfl,I.turned (t':=s.toks) (λb o hb e=>eb b o hb e) f0 f1 f3 f4 f5]
 self:=λ_ _ _ _ _ st h=>Ai st h
section
variable{X:Cx}{tg:sF}
def zbj(K:so)(tl:TE):TI:=λσ H R=>tl σ H λx H1=>∃a,x=.ref a/\(∃xs,SqL K H1 a xs)/\R (Itl K a) H1
def zgj(K:so)(tl:TE):TI:=λσ H R=>tl σ H λx H1=>∃a,x=.ref a/\(∃xs,SqT K H1 a xs)/\R (Itt K a) H1
theorem yj{l:sF}{tl:TE}(hl:PE X l tl):PI X tg l (zbj X.K tl):=by
 intro Bb s σ H R I h;refine thn (hl Bb s σ H _ I h) λv s1 ⟨x,H1,I1,r1,q1⟩=>?_;obtain⟨a,e,⟨xs,hq⟩,q⟩:=q1;subst e;cases r1;obtain⟨its,rv,p,hz⟩:=I1.list hq;refine tT p.isList ?_;refine#[s1⁻¹,[s1⁻¹],_,_,H1,rfl,I1.kept (t':=s1.toks) λb o e=>ac _ e,U3 a _,#[_,aB _ rfl,rfl,rfl],λb hb=>?_,q];have e:b=s1⁻¹:=by simpa using hb
 subst e;exact I1.fpOk (al _) (I1.hok.fresh (al _))
theorem zd3{l:sF}{tl:TE}(hl:PE X l tl):PI X tg l (zgj X.K tl):=by
 intro Bb s σ H R I h;refine thn (hl Bb s σ H _ I h) λv s1 ⟨x,H1,I1,r1,q1⟩=>?_;obtain⟨a,e,⟨xs,hq⟩,q⟩:=q1;subst e;cases r1;obtain⟨its,rv,p,hz⟩:=I1.tuple hq;refine AA (show s1.heap.IsTuple a its.toArray from p) ?_;refine#[s1⁻¹,[s1⁻¹],_,_,H1,rfl,I1.kept (t':=s1.toks) λb o e=>ac _ e,Vl a _,#[_,aB _ rfl,rfl,rfl],λb hb=>?_,q];have e:b=s1⁻¹:=by simpa using hb
 subst e;exact I1.fpOk (al _) (I1.hok.fresh (al _))
theorem XW{Bb:List (sq × sX)}{σ:St}{H:Hp}{s:su}{R:It->Hp->Prop}{E:sr->su->Prop}{lo hi:Int}{t u v:Aa}{tk:Nat}(I:Inv X Bb σ H s)(h1:-(2 ^ 62)<=lo)(h2:lo<2 ^ 62)(h3:-(2 ^ 62)<=hi)(h4:hi<2 ^ 62)
  (q:R (Itr lo (hi - lo).toNat) H):sw (model X.prog X.w) X.A (pyIter (.ref s⁻¹)) (PIE X Bb σ tg R) E { s with heap:=s.heap.push { cls:=.type "range",data:=.fields (List.toArray [.int lo t,.int hi u,.int 1 v]) },toks:=tk }:=by
 refine AB (IsRange.new ..) (small_one h1 h2 h3 h4) ?_;have I1:Inv X Bb σ H { s with heap:=s.heap.push { cls:=.type "range",data:=.fields (List.toArray [.int lo t,.int hi u,.int 1 v]) },toks:=tk }:=I.kept λb o e=>ac _ e
 refine#[(s.heap.push { cls:=.type "range",data:=.fields (List.toArray [.int lo t,.int hi u,.int 1 v]) }).objs.size,[(s.heap.push { cls:=.type "range",data:=.fields (List.toArray [.int lo t,.int hi u,.int 1 v]) }).objs.size],_,_,H,rfl,
  I1.kept (t':=tk) λb o e=>ac _ e,Vg _ lo (hi - lo).toNat,?_,λb hb=>?_,q]
 ·have e1:lo+((0:Nat):Int) * 1=lo:=by simp
  have e2:(((hi - lo).toNat:Nat):Int) - ((0:Nat):Int)=Builtin.Range.rangeSize lo hi 1:=by rw[rangeSize_one];split <;> lia
  show Au _ _ (lo+((0:Nat):Int) * 1) ((((hi - lo).toNat:Nat):Int) - ((0:Nat):Int)) 1;rw[e1,e2];exact aB _ rfl
 ·have e:b=(s.heap.push { cls:=.type "range",data:=.fields (List.toArray [.int lo t,.int hi u,.int 1 v]) }).objs.size:=by simpa using hb
  subst e;exact I1.fpOk (al _) (I1.hok.fresh (al _))
def zcz(ta:TA):TI:=λσ H R=>ta σ H λvs H1=>∃j:Int,vs=[.int j]/\-(2 ^ 62)<=j/\j<2 ^ 62/\R (Itr 0 j.toNat) H1
def zdu(ta:TA):TI:=λσ H R=>ta σ H λvs H1=>∃i j:Int,vs=[.int i,.int j]/\(-(2 ^ 62)<=i/\i<2 ^ 62/\-(2 ^ 62)<=j/\j<2 ^ 62)/\R (Itr i (j - i).toNat) H1
theorem yk{a:sF}{ta:TA}{p pos:tG}(hg:Gl X "range")(hm:X.mg "range" = AY)(ha:PA X [a] ta)(hs:sj [a] X.env=[(Ba,eval a X.env)]:=by rfl):PI X tg (.Call (.Name "range" p) [a] [] pos) (zcz ta):=by
 intro Bb s σ H R I h;refine AW (wT I hg hm boot_range (bw (thn (ha pos Bb s σ H _ I h) λus s1 ⟨vs,H1,I1,r1,q1⟩=>?_) hs rfl));obtain⟨j,e,q1,q2,q⟩:=q1;subst e
 cases r1 with
 | cons r rr =>
  cases rr;obtain⟨t,rfl⟩:=r;exact call_range_1 (XW I1 ⋯ ⋯ q1 q2 (by simpa using q))
theorem Yx{a b:sF}{ta:TA}{p pos:tG}(hg:Gl X "range")(hm:X.mg "range" = AY)(ha:PA X [a,b] ta)(hs:sj [a,b] X.env=[(Ba,eval a X.env),(Ba,eval b X.env)]:=by rfl)(hs2:sj [b] X.env=[(Ba,eval b X.env)]:=by rfl) :
  PI X tg (.Call (.Name "range" p) [a,b] [] pos) (zdu ta):=by
 intro Bb s σ H R I h;refine AW (wT I hg hm boot_range (bw (thn (ha pos Bb s σ H _ I h) λus s1 ⟨vs,H1,I1,r1,q1⟩=>?_) (by rw[hs,hs2]) (by rw[hs2];rfl)));obtain⟨i,j,e,⟨q1,q2,q3,q4⟩,q⟩:=q1;subst e
 cases r1 with
 | cons r rr =>
  cases rr with
  | cons r' rr =>
   cases rr;obtain⟨t,rfl⟩:=r;obtain⟨t',rfl⟩:=r';exact call_range_2 (XW I1 q1 q2 q3 q4 q)
def JY(wi:TI)(g:TG)(tb:TS):TS:=λD σ H=>wi σ H λJ H1=>∃W:Nat->Nat->St->Hp->Prop,(∃m,W 0 m σ H1)/\∀i m σ H,W i m σ H ->
 (J.stop i H/\D.nx σ H)\/(J.go i H/\∃N:St->Hp->Prop,(∀σ' H',N σ' H'->∃m',m'<m/\W (i+1) m' σ' H')/\∀x H',J.yld i H x H'->g x σ H' λσ2 H2=>tb { D with nx:=N,ct:=N,bk:=D.nx } σ2 H2)
noncomputable def YJ(fp:List sq)(h:sI):List (sq × sX):=fp.filterMap λb=>(h.get? b).map λo=>(b,o)
theorem vk{fp:List sq}{h:sI}{b:sq}{o:sX}(hb:b ∈ fp)(e:h.get? b=AX o):(b,o) ∈ YJ fp h:=Bx.mpr #[b,hb,by rw[e];rfl]
theorem Js{fp:List sq}{h:sI}{p:sq × sX}(hp:p ∈ YJ fp h):p.1 ∈ fp/\h.get? p.1=AX p.2:=by
 obtain⟨b,hb,e⟩:=Bx.mp hp
 cases q:h.get? b with
 | none=>rw[q]at e;cases e
 | some o =>
  rw[q]at e;have e':(b,o)=p:=Option.some.inj e;subst e';exact#[hb,q]
theorem Inv.pinned{Bb:List (sq × sX)}{σ:St}{H:Hp}{s:su}{fp:List sq}(I:Inv X Bb σ H s)(hf:∀b ∈ fp,wm X Bb H b)(ho:∀b ∈ fp,∃o,s.heap.get? b=AX o/\∀v,o.data≠.cell v):Inv X (Bb ++ YJ fp s.heap) σ H s :=
 I.pins_of λp hp=>(Bh.mp hp).elim (λz=>I.pin p (aC _ z)) λz=>by
  obtain⟨hb,e⟩:=Js z;obtain⟨f0,f1,f2,_⟩:=hf p.1 hb;obtain⟨o,e',d⟩:=ho p.1 hb;rw[e]at e';cases e';exact#[e,f0,f1,f2,d]
theorem Inv.unpinned{Bb pl:List (sq × sX)}{σ:St}{H:Hp}{s:su}(I:Inv X (Bb ++ pl) σ H s):Inv X Bb σ H s:=I.pins_of λp hp=>I.pin p (aC _ (bn _ hp))
theorem zW{iter:sF}{body:List sJ}{wi:TI}{g:TG}{tb:TS}{pos:tG}(hp:PassesOwn (model X.prog X.w) X.A X.env X.xe)(hc:X.calm=AZ)(hi:PI X tg iter wi)(hg:PG X tg g)(hb:PSs X body tb)
  (hs:∀x,foldedSetIterable iter X.env x=pure x:=by intro _;rfl):PS X (.For tg iter body [] pos) (JY wi g tb):=by
 intro Bb s σ H D I h;refine wpAny_For (thn (hi Bb s σ H _ I h) λv s1 h1=>thn h1 λitv s2 h2=>?_) hs;obtain⟨it,fp,tn,J,H2,e,I2,T,st2,f2,W,⟨m0,w0⟩,turn⟩:=h2;subst e;have stat:∀{H':Hp},(∀b ∈ fp,H' b=AY)->∀b ∈ fp,wm X Bb H' b:=λhn b hb=>#[hn b hb,(f2 b hb).2];refine codeAny_forLoop_any (λn s'=>∃i σ' H',Inv X Bb σ' H' s'/\tn i s'.heap/\(∀b ∈ fp,H' b=AY)/\W i n σ' H') ?_ m0 #[0,σ,H2,I2,st2,λb hb=>(f2 b hb).1,w0];rintro n s3 ⟨i,σ3,H3,I3,st3,fr3,w3⟩;rcases turn i n σ3 H3 w3 with ⟨stop,qn⟩ | ⟨go,N,hN,step⟩
 ·refine tB hp (thn (T.done X rfl rfl rfl hc i Bb s3 σ3 H3 X.xe I3 (stat fr3) st3 stop) λr s4 ⟨hr,I4⟩=>?_);subst hr;exact tI #[σ3,H3,I4,qn]
 ·refine tB hp (thn (T.item X rfl rfl rfl hc i Bb s3 σ3 H3 X.xe I3 (stat fr3) st3 go) λr s4 ⟨u,hr,h4⟩=>?_);subst hr;refine tB hp (thn h4 λ_ s5 ⟨x,H5,I5,r5,y5,st5,fr5⟩=>?_);have I5':=I5.pinned (stat fr5) (T.obj _ _ st5);refine tB hp (thn (hg _ s5 σ3 H5 x u _ I5' r5 (step x H5 y5)) λ_ s6 ⟨σ6,H6,I6,q6⟩=>?_);refine tB hp (thn (hb _ s6 σ6 H6 _ I6 q6) λf s7 q7=>?_)
  have again:∀{σ7:St} {H7:Hp},Inv X (Bb ++ YJ fp s5.heap) σ7 H7 s7->N σ7 H7->∃m,m<n/\∃i σ' H',Inv X Bb σ' H' s7/\tn i s7.heap/\(∀b ∈ fp,H' b=AY)/\W i m σ' H':=λ{σ7 H7} I7 n7=>by
   obtain⟨m',hm,w7⟩:=hN σ7 H7 n7;refine#[m',hm,i+1,σ7,H7,I7.unpinned,T.keep _ _ _ st5 λb hb o e=>(I7.pin (b,o) (aC _ (aC _ (vk hb e)))).1,λb hb=>?_,w7];obtain⟨o,e,d⟩:=T.obj _ _ st5 b hb;exact (I7.pin (b,o) (aC _ (aC _ (vk hb e)))).2.1
  cases f with
  | next=>obtain⟨σ7,H7,I7,n7⟩:=q7;exact again I7 n7
  | cont=>obtain⟨σ7,H7,I7,n7⟩:=q7;exact again I7 n7
  | brk=>obtain⟨σ7,H7,I7,q7⟩:=q7;exact#[σ7,H7,I7.unpinned,q7]
  | ret v=>obtain⟨x7,σ7,H7,I7,r7,q7⟩:=q7;exact#[x7,σ7,H7,I7.unpinned,r7,q7]
end
theorem KC{K:so}{a:sq}{xs:List V}{g:TG}{tb:TS}{D:vG}{σ:St}{H:Hp}(Pv:Nat->St->Hp->Prop)(h0:Pv 0 σ H)(hl:∀i σ H,i<=xs.length->Pv i σ H->SqL K H a xs)
  (hs:∀i x σ H,xs[i]? = AX x->Pv i σ H->g x σ H λσ2 H2=>tb { D with nx:=Pv (i+1),ct:=Pv (i+1),bk:=D.nx } σ2 H2) (hd:∀σ H,Pv xs.length σ H->D.nx σ H) :
  ∃W:Nat->Nat->St->Hp->Prop,(∃m,W 0 m σ H)/\∀i m σ H,W i m σ H ->
   ((Itl K a).stop i H/\D.nx σ H)\/((Itl K a).go i H/\∃N:St->Hp->Prop,(∀σ' H',N σ' H'->∃m',m'<m/\W (i+1) m' σ' H')/\∀x H',(Itl K a).yld i H x H'->g x σ H' λσ2 H2=>tb { D with nx:=N,ct:=N,bk:=D.nx } σ2 H2):=by
 refine#[λi m σ H=>m=xs.length - i/\i<=xs.length/\Pv i σ H,#[xs.length,by simp,aD _,h0],?_];rintro i m σ H ⟨rfl,hi,p⟩;have q:=hl i σ H hi p;by_cases hlt:i<xs.length
 ·refine .inr #[#[xs,xs[i],q,by simp [hlt]],Pv (i+1),λσ' H' p'=>#[xs.length - (i+1),⋯,rfl,hlt,p'],λx H' y=>?_];obtain⟨e,y⟩:=y;subst e;exact hs i x σ _ (y xs q) p
 ·have e:i=xs.length:=⋯;subst e;exact .inl #[#[xs,q,al _],hd σ H p]
theorem zcv{K:so}{a:sq}{xs:List V}{g:TG}{tb:TS}{D:vG}{σ:St}{H:Hp}(Pv:Nat->St->Hp->Prop)(h0:Pv 0 σ H)(hl:∀i σ H,i<=xs.length->Pv i σ H->SqT K H a xs)
  (hs:∀i x σ H,xs[i]? = AX x->Pv i σ H->g x σ H λσ2 H2=>tb { D with nx:=Pv (i+1),ct:=Pv (i+1),bk:=D.nx } σ2 H2) (hd:∀σ H,Pv xs.length σ H->D.nx σ H) :
  ∃W:Nat->Nat->St->Hp->Prop,(∃m,W 0 m σ H)/\∀i m σ H,W i m σ H ->
   ((Itt K a).stop i H/\D.nx σ H)\/((Itt K a).go i H/\∃N:St->Hp->Prop,(∀σ' H',N σ' H'->∃m',m'<m/\W (i+1) m' σ' H')/\∀x H',(Itt K a).yld i H x H'->g x σ H' λσ2 H2=>tb { D with nx:=N,ct:=N,bk:=D.nx } σ2 H2):=by
 refine#[λi m σ H=>m=xs.length - i/\i<=xs.length/\Pv i σ H,#[xs.length,by simp,aD _,h0],?_];rintro i m σ H ⟨rfl,hi,p⟩;have q:=hl i σ H hi p;by_cases hlt:i<xs.length
 ·refine .inr #[#[xs,xs[i],q,by simp [hlt]],Pv (i+1),λσ' H' p'=>#[xs.length - (i+1),⋯,rfl,hlt,p'],λx H' y=>?_];obtain⟨e,y⟩:=y;subst e;exact hs i x σ _ (y xs q) p
 ·have e:i=xs.length:=⋯;subst e;exact .inl #[#[xs,q,al _],hd σ H p]
theorem QB{lo:Int}{n:Nat}{g:TG}{tb:TS}{D:vG}{σ:St}{H:Hp}(Pv:Nat->St->Hp->Prop)(h0:Pv 0 σ H)
  (hs:∀i σ H,i<n->Pv i σ H->g (.int (lo+i)) σ H λσ2 H2=>tb { D with nx:=Pv (i+1),ct:=Pv (i+1),bk:=D.nx } σ2 H2) (hd:∀σ H,Pv n σ H->D.nx σ H) :
  ∃W:Nat->Nat->St->Hp->Prop,(∃m,W 0 m σ H)/\∀i m σ H,W i m σ H ->
   ((Itr lo n).stop i H/\D.nx σ H)\/((Itr lo n).go i H/\∃N:St->Hp->Prop,(∀σ' H',N σ' H'->∃m',m'<m/\W (i+1) m' σ' H')/\∀x H',(Itr lo n).yld i H x H'->g x σ H' λσ2 H2=>tb { D with nx:=N,ct:=N,bk:=D.nx } σ2 H2):=by
 refine#[λi m σ H=>m=n - i/\i<=n/\Pv i σ H,#[n,by simp,aD _,h0],?_];rintro i m σ H ⟨rfl,hi,p⟩;by_cases hlt:i<n
 ·refine .inr #[hlt,Pv (i+1),λσ' H' p'=>#[n - (i+1),⋯,rfl,hlt,p'],λx H' y=>?_];obtain⟨e,y⟩:=y;subst e y;exact hs i σ _ hlt p
 ·have e:i=n:=⋯;subst e;exact .inl #[al _,hd σ H p]
noncomputable abbrev R2:=V->V->Hp->VK->Prop
def OpR(X:Cx)(f:sr->sr->AO sr)(r:R2):Prop :=
 ∀(Bb:List (sq × sX)) (s:su) (σ:St) (H:Hp) (x y:V) (v u:sr) (Q:VK),Inv X Bb σ H s->RelV x v->RelV y u->r x y H Q ->
  sw (model X.prog X.w) X.A (f v u) (EP X Bb σ Q) X.xe s
def UnR(X:Cx)(f:sr->AO sr)(r:V->Hp->VK->Prop):Prop :=
 ∀(Bb:List (sq × sX)) (s:su) (σ:St) (H:Hp) (x:V) (v:sr) (Q:VK),Inv X Bb σ H s->RelV x v->r x H Q ->
  sw (model X.prog X.w) X.A (f v) (EP X Bb σ Q) X.xe s
def vQ(X:Cx)(f:sr)(r:List V->Hp->VK->Prop):Prop :=
 ∀(Bb:List (sq × sX)) (s:su) (σ:St) (H:Hp) (xs:List V) (us:List sr) (Q:VK),Inv X Bb σ H s->Vals xs us->r xs H Q ->
  sw (model X.prog X.w) X.A (call f us) (EP X Bb σ Q) X.xe s
def zgy(X:Cx)(r:V->Hp->(Bool->Hp->Prop)->Prop):Prop :=
 ∀(Bb:List (sq × sX)) (s:su) (σ:St) (H:Hp) (x:V) (v:sr) (Q:Bool->Hp->Prop),Inv X Bb σ H s->RelV x v->r x H Q ->
  sw (model X.prog X.w) X.A (truthy v) (TP X Bb σ Q) X.xe s
def tOp(r:R2)(ta tb:TE):TE:=λσ H Q=>ta σ H λx H1=>tb σ H1 λy H2=>r x y H2 Q
def tUn(r:V->Hp->VK->Prop)(ta:TE):TE:=λσ H Q=>ta σ H λx H1=>r x H1 Q
def rI(C:Int->Int->Prop)(g:Int->Int->V):R2:=λx y H Q=>onInt x λi=>onInt y λj=>C i j/\Q (g i j) H
def rI0(g:Int->Int->V):R2:=λx y H Q=>onInt x λi=>onInt y λj=>Q (g i j) H
def rU(g:Int->V):V->Hp->VK->Prop:=λx H Q=>onInt x λi=>Q (g i) H
section
variable{X:Cx}{a b c:sF}{ta tb tc:TE}{pos:tG}
theorem zfG(ha:PE X a ta)(hb:PE X b tb){Bb:List (sq × sX)}{s:su}{σ:St}{H:Hp}{R:V->V->Hp->Prop}(I:Inv X Bb σ H s)
  (h:ta σ H λx H1=>tb σ H1 λy H2=>R x y H2) {Q:sr->su->Prop} {f:sr->sr->AO sr}
  (hf:∀v u s2 x y H2,Inv X Bb σ H2 s2->RelV x v->RelV y u->R x y H2->sw (model X.prog X.w) X.A (f v u) Q X.xe s2) :
  sw (model X.prog X.w) X.A (eval a X.env) (λv s₁=>sw (model X.prog X.w) X.A (eval b X.env) (λu s₂=>sw (model X.prog X.w) X.A (f v u) Q X.xe s₂) X.xe s₁) X.xe s:=by
 refine thn (ha Bb s σ H _ I h) λv s1 ⟨x,H1,I1,r1,q1⟩=>?_;refine thn (hb Bb s1 σ H1 _ I1 q1) λu s2 ⟨y,H2,I2,r2,q2⟩=>?_;exact hf v u s2 x y H2 I2 r1 r2 q2
theorem zB{op:Operator}{r:R2}(ho:OpR X (binaryOp op) r)(ha:PE X a ta)(hb:PE X b tb):PE X (.BinOp a op b pos) (tOp r ta tb):=by
 intro Bb s σ H Q I h;exact wpAny_BinOp (zfG ha hb I h λv u s2 x y H2 I2 rx ry q=>ho Bb s2 σ H2 x y v u Q I2 rx ry q)
theorem zfb{op:UnaryOp}{r:V->Hp->VK->Prop}(ho:UnR X (unaryOp op) r)(ha:PE X a ta):PE X (.UnaryOp op a pos) (tUn r ta):=by
 intro Bb s σ H Q I h;exact UnaryOp_ (thn (ha Bb s σ H _ I h) λv s1 ⟨x,H1,I1,r1,q1⟩=>ho Bb s1 σ H1 x v Q I1 r1 q1)
theorem opI{f:sr->sr->AO sr}{C:Int->Int->Prop}{g:Int->Int->Int}
  (rule:∀(i j:Int) (t u:Aa) (s:su) (Q:sr->su->Prop) (E:sr->su->Prop),C i j->Q (.int (g i j) s.toks) { s with toks:=s.toks+1 }->sw (model X.prog X.w) X.A (f (.int i t) (.int j u)) Q E s) :
  OpR X f (rI C λi j=>.int (g i j)):=by
 intro Bb s σ H x y v u Q I rx ry h;obtain⟨i,rfl,h2⟩:=onInt.of h;obtain⟨j,rfl,hc,q⟩:=onInt.of h2;obtain⟨t,rfl⟩:=rx;obtain⟨t',rfl⟩:=ry;exact rule i j t t' s _ _ hc #[.int (g i j),H,I.tok _,#[_,rfl],q]
theorem zgc{f:sr->sr->AO sr}{g:Int->Int->Int}
  (rule:∀(i j:Int) (t u:Aa) (s:su) (Q:sr->su->Prop) (E:sr->su->Prop),Q (.int (g i j) s.toks) { s with toks:=s.toks+1 }->sw (model X.prog X.w) X.A (f (.int i t) (.int j u)) Q E s) :
  OpR X f (rI0 λi j=>.int (g i j)):=by
 intro Bb s σ H x y v u Q I rx ry h;obtain⟨i,rfl,h2⟩:=onInt.of h;obtain⟨j,rfl,q⟩:=onInt.of h2;obtain⟨t,rfl⟩:=rx;obtain⟨t',rfl⟩:=ry;exact rule i j t t' s _ _ #[.int (g i j),H,I.tok _,#[_,rfl],q]
theorem zeF{f:sr->sr->AO sr}{g:Int->Int->Bool}
  (rule:∀(i j:Int) (t u:Aa) (s:su) (Q:sr->su->Prop) (E:sr->su->Prop),Q (.bool (g i j)) s->sw (model X.prog X.w) X.A (f (.int i t) (.int j u)) Q E s) :
  OpR X f (rI0 λi j=>.bl (g i j)):=by
 intro Bb s σ H x y v u Q I rx ry h;obtain⟨i,rfl,h2⟩:=onInt.of h;obtain⟨j,rfl,q⟩:=onInt.of h2;obtain⟨t,rfl⟩:=rx;obtain⟨t',rfl⟩:=ry;exact rule i j t t' s _ _ #[.bl (g i j),H,I,rfl,q]
def zgo(i j:Int):Prop:=0<j/\j<1073741824
def zfK(i j:Int):Prop:=0<=j/\j<=1000000/\i.natAbs<2 ^ 64
def CMul(i j:Int):Prop:=(-(2 ^ 64)<i/\i<2 ^ 64)\/(-(2 ^ 64)<j/\j<2 ^ 64)
theorem CMul.ok{i j:Int}(h:CMul i j):IntMulOk i j:=by
 rcases h with ⟨h1,h2⟩ | ⟨h1,h2⟩
 ·exact .of_left (intBits_le_64 h1 h2)
 ·exact .of_right (intBits_le_64 h1 h2)
theorem yu:OpR X (binaryOp .Add) (rI0 λi j=>.int (i+j)):=zgc λ_ _ _ _ _ _ _ q=>add_int q
theorem uo:OpR X (binaryOp .Sub) (rI0 λi j=>.int (i - j)):=zgc λ_ _ _ _ _ _ _ q=>sub_int q
theorem jw:OpR X (binaryOp .Mult) (rI CMul λi j=>.int (i * j)):=opI λ_ _ _ _ _ _ _ hc q=>mul_int q hc.ok
theorem xa:OpR X (binaryOp .FloorDiv) (rI zgo λi j=>.int (i / j)):=opI λi j _ _ _ _ _ hc q=>by
 have h1:(0:Int)<j:=hc.1;have h2:j<1073741824:=hc.2;exact floordiv_int ⋯ (by rw[Int.fdiv_eq_ediv_of_nonneg i ⋯];exact q) (.inl (PyProof.noPylong_small ⋯))
theorem yL:OpR X (binaryOp .Mod) (rI (λ_ j=>0<j) λi j=>.int (i % j)):=opI λi j _ _ _ _ _ hc q=>by
 have h1:(0:Int)<j:=hc;exact mod_int' ⋯ (by rw[Int.fmod_eq_emod_of_nonneg i ⋯];exact q)
theorem UD:OpR X (binaryOp .Pow) (rI zfK λi j=>.int (i ^ j.toNat)):=opI λ_ _ _ _ _ _ _ hc q=>pow_int_small hc.1 hc.2.1 hc.2.2 q
theorem unI{f:sr->AO sr}{g:Int->Int}
  (rule:∀(i:Int) (t:Aa) (s:su) (Q:sr->su->Prop) (E:sr->su->Prop),Q (.int (g i) s.toks) { s with toks:=s.toks+1 }->sw (model X.prog X.w) X.A (f (.int i t)) Q E s) :
  UnR X f (rU λi=>.int (g i)):=by
 intro Bb s σ H x v Q I rx h;obtain⟨i,rfl,q⟩:=onInt.of h;obtain⟨t,rfl⟩:=rx;exact rule i t s _ _ #[.int (g i),H,I.tok _,#[_,rfl],q]
theorem zdZ:UnR X (unaryOp .USub) (rU λi=>.int (-i)):=unI λ_ _ _ _ _ q=>neg_int q
end
noncomputable def VS:V->V->Bool
 | .non,.non=>AZ | .non,.int _=>AZ | .int _,.non=>AZ | .non,.bl _=>AZ | .bl _,.non=>AZ | .non,.str _=>AZ | .str _,.non=>AZ
 | .int _,.int _=>AZ | .bl _,.bl _=>AZ | .str _,.str _=>AZ | .byt _,.byt _=>AZ
 | .int _,.str _=>AZ | .str _,.int _=>AZ | .bl _,.str _=>AZ | .str _,.bl _=>AZ
 | _,_=>Ba
def rEq:R2:=λx y H Q=>match x,y with | .int a,.int b=>Q (.bl (decide (a=b))) H | .str a,.str b=>Q (.bl (decide (a=b))) H | x,y=>VS x y=AZ/\Q (.bl (decide (x=y))) H
theorem rEq_is{x y:V}{H:Hp}{Q:VK}:rEq x y H Q=(VS x y=AZ/\Q (.bl (decide (x=y))) H):=by
 unfold rEq;split <;> simp [VS]
def rNe:R2:=λx y H Q=>match x,y with | .int a,.int b=>Q (.bl (!decide (a=b))) H | .str a,.str b=>Q (.bl (!decide (a=b))) H | x,y=>VS x y=AZ/\Q (.bl (!decide (x=y))) H
theorem rNe_is{x y:V}{H:Hp}{Q:VK}:rNe x y H Q=(VS x y=AZ/\Q (.bl (!decide (x=y))) H):=by
 unfold rNe;split <;> simp [VS]
theorem U5{i j:Int}:decide (V.int i=V.int j)=(i == j):=by
 rw[cZ];simp
theorem zay{i j:Bool}:decide (V.bl i=V.bl j)=(i == j):=by
 rw[cZ];simp
theorem Uh{i j:sB}:decide (V.str i=V.str j)=(i == j):=by
 rw[cZ];simp
theorem UY{i j:Array UInt8}:decide (V.byt i=V.byt j)=(i.toList == j.toList):=by
 rw[cZ];cases i;cases j;simp
section
variable{X:Cx}{a b c:sF}{ta tb tc:TE}{pos:tG}
theorem zO{Bb:List (sq × sX)}{σ:St}{H:Hp}{s:su}{Q:VK}{k k':Bool}(I:Inv X Bb σ H s)(q:Q (.bl k) H)(e:k=k'):EP X Bb σ Q (.bool k') s:=by
 subst e;exact#[.bl k,H,I,rfl,q]
theorem vc:OpR X (sK .Eq) rEq:=by
 intro Bb s σ H x y v u Q I rx ry h;obtain⟨hs,q⟩:=rEq_is.mp h
 cases x with
 | non =>
  cases rx
  cases y with
  | non=>cases ry;exact PySem.EqNone.eq_none_none (zO I q (by simp))
  | bl j=>cases ry;exact PySem.EqNone.eq_none_bool (zO I q (by simp))
  | int j=>obtain⟨t',rfl⟩:=ry;exact PySem.EqNone.eq_none_int (zO I q (by simp))
  | str j=>obtain⟨t',rfl⟩:=ry;exact PySem.EqNone.eq_none_str (zO I q (by simp))
  | _=>exact absurd (show Ba=AZ from hs) az
 | bl i =>
  cases rx
  cases y with
  | non=>cases ry;exact PySem.EqNone.eq_bool_none (zO I q (by simp))
  | bl j=>cases ry;exact eq_bool (zO I q zay)
  | str j=>obtain⟨t',rfl⟩:=ry;exact PySem.EqMixed.eq_bool_str (zO I q (by simp))
  | _=>exact absurd (show Ba=AZ from hs) az
 | int i =>
  obtain⟨t,rfl⟩:=rx
  cases y with
  | non=>cases ry;exact PySem.EqNone.eq_int_none (zO I q (by simp))
  | int j=>obtain⟨t',rfl⟩:=ry;exact eq_int (zO I q U5)
  | str j=>obtain⟨t',rfl⟩:=ry;exact PySem.EqMixed.eq_int_str (zO I q (by simp))
  | _=>exact absurd (show Ba=AZ from hs) az
 | str i =>
  obtain⟨t,rfl⟩:=rx
  cases y with
  | non=>cases ry;exact PySem.EqNone.eq_str_none (zO I q (by simp))
  | bl j=>cases ry;exact PySem.EqMixed.eq_str_bool (zO I q (by simp))
  | int j=>obtain⟨t',rfl⟩:=ry;exact PySem.EqMixed.eq_str_int (zO I q (by simp))
  | str j=>obtain⟨t',rfl⟩:=ry;exact eq_str (zO I q Uh)
  | _=>exact absurd (show Ba=AZ from hs) az
 | byt i =>
  obtain⟨t,rfl⟩:=rx
  cases y with
  | byt j=>obtain⟨t',rfl⟩:=ry;exact PySem.W.eq_bytes (zO I q UY)
  | _=>exact absurd (show Ba=AZ from hs) az
 | _=>cases y <;> exact absurd (show Ba=AZ from hs) az
theorem j3:OpR X (sK .NotEq) rNe:=by
 intro Bb s σ H x y v u Q I rx ry h;obtain⟨hs,q⟩:=rNe_is.mp h
 cases x with
 | non =>
  cases rx
  cases y with
  | non=>cases ry;exact PySem.EqNone.ne_none_none (zO I q (by simp))
  | bl j=>cases ry;exact PySem.EqNone.ne_none_bool (zO I q (by simp))
  | int j=>obtain⟨t',rfl⟩:=ry;exact PySem.EqNone.ne_none_int (zO I q (by simp))
  | str j=>obtain⟨t',rfl⟩:=ry;exact PySem.EqNone.ne_none_str (zO I q (by simp))
  | _=>exact absurd (show Ba=AZ from hs) az
 | bl i =>
  cases rx
  cases y with
  | non=>cases ry;exact PySem.EqNone.ne_bool_none (zO I q (by simp))
  | bl j=>cases ry;exact ne_bool (zO I q (congrArg not zay))
  | str j=>obtain⟨t',rfl⟩:=ry;exact PySem.EqMixed.ne_bool_str (zO I q (by simp))
  | _=>exact absurd (show Ba=AZ from hs) az
 | int i =>
  obtain⟨t,rfl⟩:=rx
  cases y with
  | non=>cases ry;exact PySem.EqNone.ne_int_none (zO I q (by simp))
  | int j=>obtain⟨t',rfl⟩:=ry;exact ne_int (zO I q (congrArg not U5))
  | str j=>obtain⟨t',rfl⟩:=ry;exact PySem.EqMixed.ne_int_str (zO I q (by simp))
  | _=>exact absurd (show Ba=AZ from hs) az
 | str i =>
  obtain⟨t,rfl⟩:=rx
  cases y with
  | non=>cases ry;exact PySem.EqNone.ne_str_none (zO I q (by simp))
  | bl j=>cases ry;exact PySem.EqMixed.ne_str_bool (zO I q (by simp))
  | int j=>obtain⟨t',rfl⟩:=ry;exact PySem.EqMixed.ne_str_int (zO I q (by simp))
  | str j=>obtain⟨t',rfl⟩:=ry;exact ne_str (zO I q (congrArg not Uh))
  | _=>exact absurd (show Ba=AZ from hs) az
 | byt i =>
  obtain⟨t,rfl⟩:=rx
  cases y with
  | byt j=>obtain⟨t',rfl⟩:=ry;exact PySem.W.ne_bytes (zO I q (congrArg not UY))
  | _=>exact absurd (show Ba=AZ from hs) az
 | _=>cases y <;> exact absurd (show Ba=AZ from hs) az
theorem Vt:OpR X (sK .Lt) (rI0 λi j=>.bl (decide (i<j))):=zeF λ_ _ _ _ _ _ _ q=>lt_int q
theorem zdX:OpR X (sK .LtE) (rI0 λi j=>.bl (decide (i<=j))):=zeF λ_ _ _ _ _ _ _ q=>le_int q
theorem KQ:OpR X (sK .Gt) (rI0 λi j=>.bl (decide (j<i))):=zeF λ_ _ _ _ _ _ _ q=>gt_int q
theorem zff:OpR X (sK .GtE) (rI0 λi j=>.bl (decide (j<=i))):=zeF λ_ _ _ _ _ _ _ q=>ge_int q
theorem UG:OpR X (sK .Lt) (λx y H Q=>∃i j,x=.str i/\y=.str j/\Q (.bl (decide (i.cps.toList<j.cps.toList))) H):=by
 intro Bb s σ H x y v u Q I rx ry h;obtain⟨i,j,rfl,rfl,q⟩:=h;obtain⟨t,rfl⟩:=rx;obtain⟨t',rfl⟩:=ry;exact lt_str (zO I q rfl)
theorem zdq:OpR X (sK .Is) (λx y H Q=>y=.non/\Q (.bl (decide (x=.non))) H):=by
 intro Bb s σ H x y v u Q I rx ry h;obtain⟨rfl,q⟩:=h;cases ry;refine is_none_gen (zO I q ?_)
 cases x <;> first
  | (cases rx;rfl)
  | (obtain⟨t,rfl⟩:=rx;rfl)
theorem zcI:OpR X (sK .IsNot) (λx y H Q=>y=.non/\Q (.bl (!decide (x=.non))) H):=by
 intro Bb s σ H x y v u Q I rx ry h;obtain⟨rfl,q⟩:=h;cases ry;refine isnot_none_gen (zO I q ?_)
 cases x <;> first
  | (cases rx;rfl)
  | (obtain⟨t,rfl⟩:=rx;rfl)
theorem zC(b:sF){op:tV}(h:op≠.In:=by decide)(h2:op≠.NotIn:=by decide):behindInMarks op b=Ba:=by
 have e1:(op == CmpOp.In)=Ba:=by cases op <;> first | rfl | exact absurd rfl h
 have e2:(op == CmpOp.NotIn)=Ba:=by cases op <;> first | rfl | exact absurd rfl h2
 cases b <;> simp [behindInMarks,e1,e2]
theorem yR{op:tV}{r:R2}(ho:OpR X (sK op) r)(ha:PE X a ta)(hb:PE X b tb)(hm:behindInMarks op b=Ba):PE X (.Compare a [op] [b] pos) (tOp r ta tb):=by
 intro Bb s σ H Q I h;exact wpAny_Compare1 (zfG ha hb I h λv u s2 x y H2 I2 rx ry q=>ho Bb s2 σ H2 x y v u Q I2 rx ry q) hm
def QV(t:TE):TT:=λσ H Q=>t σ H λx H'=>onBl x λk=>Q k H'
theorem zy{op:tV}{r:R2}(ho:OpR X (sK op) r)(ha:PE X a ta)(hb:PE X b tb)(hm:behindInMarks op b=Ba):PT X (.Compare a [op] [b] pos) (QV (tOp r ta tb)):=by
 intro Bb s σ H Q I h
 refine wpAny_isTrue_Compare1 (thn (ha Bb s σ H _ I h) λv s1 ⟨x,H1,I1,r1,q1⟩=>thn (hb Bb s1 σ H1 _ I1 q1) λu s2 ⟨y,H2,I2,r2,q2⟩ =>
  thn (ho Bb s2 σ H2 x y v u _ I2 r1 r2 q2) λc s3 ⟨z,H3,I3,r3,q3⟩=>?_) hm
 obtain⟨k,rfl,q3⟩:=onBl.of q3;cases r3;exact sM #[H3,I3,q3]
def kA(r r':R2)(ta tb tc:TE):TE:=λσ H Q=>ta σ H λx H1=>tb σ H1 λy H2=>r x y H2 λz H3=>onBl z λk =>
 (if k=AZ then tc σ H3 λw' H4=>r' y w' H4 Q else Q (.bl Ba) H3)
theorem WM{op op':tV}{r r':R2}(ho:OpR X (sK op) r)(ho':OpR X (sK op') r')(ha:PE X a ta)(hb:PE X b tb)(hc:PE X c tc)
  (hm:lastMarks [op,op'] [b,c]=Ba:=by with_unfolding_all rfl):PE X (.Compare a [op,op'] [b,c] pos) (kA r r' ta tb tc):=by
 intro Bb s σ H Q I h
 refine Compare_chain (thn (ha Bb s σ H _ I h) λv s1 ⟨x,H1,I1,r1,q1⟩=>chain_link (thn (hb Bb s1 σ H1 _ I1 q1) λu s2 ⟨y,H2,I2,r2,q2⟩ =>
  thn (ho Bb s2 σ H2 x y v u _ I2 r1 r2 q2) λd s3 ⟨z,H3,I3,r3,q3⟩=>?_)) hm
 obtain⟨k,rfl,q3⟩:=onBl.of q3;cases r3;refine sM ?_
 cases k with
 | false=>exact ite_ff #[.bl Ba,H3,I3,rfl,q3]
 | true=>exact ite_tt (chain_last (thn (hc Bb s3 σ H3 _ I3 q3) λw' s4 ⟨z',H4,I4,r4,q4⟩=>ho' Bb s4 σ H4 y z' u w' Q I4 r2 r4 q4))
theorem ud{op op':tV}{r r':R2}(ho:OpR X (sK op) r)(ho':OpR X (sK op') r')(ha:PE X a ta)(hb:PE X b tb)(hc:PE X c tc)
  (hm:lastMarks [op,op'] [b,c]=Ba:=by with_unfolding_all rfl):PT X (.Compare a [op,op'] [b,c] pos) (QV (kA r r' ta tb tc)):=by
 intro Bb s σ H Q I h
 refine isTrue_chain (thn (ha Bb s σ H _ I h) λv s1 ⟨x,H1,I1,r1,q1⟩=>test_link (thn (hb Bb s1 σ H1 _ I1 q1) λu s2 ⟨y,H2,I2,r2,q2⟩ =>
  thn (ho Bb s2 σ H2 x y v u _ I2 r1 r2 q2) λd s3 ⟨z,H3,I3,r3,q3⟩=>?_)) hm
 obtain⟨k,rfl,q3⟩:=onBl.of q3;cases r3;refine sM ?_
 cases k with
 | false =>
  exact ite_ff #[H3,I3,q3]
 | true =>
  refine ite_tt (test_last (thn (hc Bb s3 σ H3 _ I3 q3) λw' s4 ⟨z',H4,I4,r4,q4⟩=>thn (ho' Bb s4 σ H4 y z' u w' _ I4 r2 r4 q4) λd' s5 ⟨z2,H5,I5,r5,q5⟩=>?_));obtain⟨k2,rfl,q5⟩:=onBl.of q5;cases r5;exact sM #[H5,I5,q5]
def zdn(K:so)(x:V)(H:Hp)(k:Bool):Prop :=
 match x with
 | .non=>k=Ba
 | .bl b=>k=b
 | .int i=>k=(i != 0)
 | .str y=>y.length<=sk/\k=((y.length:Int) != 0)
 | .byt y=>y.size<=sk/\k=((y.size:Int) != 0)
 | .ref p=>(∃xs,SqL K H p xs/\k=!xs.isEmpty)\/(∃xs,SqT K H p xs/\k=!xs.isEmpty)\/∃kvs,H p=AX (.dK kvs)/\k=!kvs.isEmpty
 | _=>False
theorem Vj{κ:Type}{kvs:List (κ × V)}{vs:List (κ × sr)}(r:KV kvs vs):(!vs.isEmpty)=!kvs.isEmpty:=by
 cases r <;> rfl
theorem kr{xs:List V}{its:List sr}(r:Vals xs its):(!its.toArray.isEmpty)=!xs.isEmpty:=by
 cases r <;> simp
theorem Yt:(sk:Nat)<2 ^ 63:=by rw[sV];decide
theorem zaq:zgy X (λx H Q=>∃k,zdn X.K x H k/\Q k H):=by
 intro Bb s σ H x v Q I rx h;obtain⟨k,e,q⟩:=h;have hl:=Yt;have hs:sk=16777216:=sV
 cases x with
 | non =>
  cases rx;have e':k=Ba:=e;subst e';exact truthy_none #[H,I,q]
 | bl b =>
  cases rx;have e':k=b:=e;subst e';exact sM #[H,I,q]
 | int i =>
  obtain⟨t,rfl⟩:=rx;have e':k=(i != 0):=e;subst e';exact PySem.P.truthy_int #[H,I,q]
 | str y =>
  obtain⟨t,rfl⟩:=rx;obtain⟨hy,e'⟩:y.length<=sk/\k=((y.length:Int) != 0):=e;subst e';exact PySem.P.truthy_str ⋯ #[H,I.tok _,q]
 | byt y =>
  obtain⟨t,rfl⟩:=rx;obtain⟨hy,e'⟩:y.size<=sk/\k=((y.size:Int) != 0):=e;subst e';exact PySem.W.truthy_bytes ⋯ #[H,I.tok _,q]
 | ref p =>
  cases rx;have e':(∃xs,SqL X.K H p xs/\k=!xs.isEmpty)\/(∃xs,SqT X.K H p xs/\k=!xs.isEmpty)\/∃kvs,H p=AX (.dK kvs)/\k=!kvs.isEmpty:=e;rcases e' with ⟨xs,hx,e'⟩ | ⟨xs,hx,e'⟩ | ⟨kvs,hx,e'⟩
  ·subst e';obtain⟨its,r,pl,hz⟩:=I.list hx;have hlen:=r.length;exact wpAny_truthy_list pl.isList (by erw[ak];lia) #[H,I.tok _,by rw[kr r];exact q]
  ·subst e';obtain⟨its,r,pl,hz⟩:=I.tuple hx;have hlen:=r.length;exact truthy_tuple pl (by erw[ak];lia) #[H,I.tok _,by rw[kr r];exact q]
  ·subst e';obtain⟨hz,hS,vs,r,m⟩:kvs.length<=sk/\(p == sysModules)=Ba/\∃vs,KV kvs vs/\s.heap.DictOf (Xp X.prog X.w) p vs:=I.hok p _ hx;have hlen:kvs.length=vs.length:=Paired.length r;exact wpAny_truthy_dict hS m ⋯ #[H,I.tok _,by rw[Vj r];exact q]
 | _=>exact (show False from e).elim
theorem WD(ha:PE X a ta)(he:∀whole,isTrue a X.env whole=(do let v <- whole;standAt a.pos;holding [v] (truthy v))) :
  PT X a (λσ H Q=>ta σ H λx H'=>∃k,zdn X.K x H' k/\Q k H'):=by
 intro Bb s σ H Q I h;exact isTrue_plain (thn (ha Bb s σ H _ I h) λv s1 ⟨x,H1,I1,r1,q1⟩=>zaq Bb s1 σ H1 x v Q I1 r1 q1) (he _)
theorem yw:OpR X (binaryOp .Add) (λx y H Q=>∃i j,x=.str i/\y=.str j/\i.length+j.length<=sk/\Q (.str (i ++ j)) H):=by
 intro Bb s σ H x y v u Q I rx ry h;obtain⟨i,j,rfl,rfl,hz,q⟩:=h;obtain⟨t,rfl⟩:=rx;obtain⟨t',rfl⟩:=ry;exact add_str (λt' tk=>#[.str (i ++ j),H,I.tok _,#[_,rfl],q]) hz
theorem wB{x:V}{us:List sr}(r:Vals [x] us):∃u,us=[u]/\RelV x u:=by
 cases r with
 | cons r1 r2=>cases r2;exact#[_,rfl,r1]
theorem QF{x y:V}{us:List sr}(r:Vals [x,y] us):∃u w',us=[u,w']/\RelV x u/\RelV y w':=by
 cases r with
 | cons r1 r2 =>
  cases r2 with
  | cons r3 r4=>cases r4;exact#[_,_,rfl,r1,r3]
theorem V2(hc:X.calm=AZ):vQ X (.builtin "max") (λxs H Q=>∃i j,xs=[.int i,.int j]/\Q (.int (if j > i then j else i)) H):=by
 intro Bb s σ H xs us Q I r h;obtain⟨i,j,rfl,q⟩:=h;obtain⟨u,w',rfl,⟨t,rfl⟩,⟨t',rfl⟩⟩:=QF r;refine max_two_ints (I.ok.hd hc) λh' tk k=>#[_,H,I.kept k,?_,q];by_cases hj:j > i
 ·rw[if_pos hj,if_pos hj];exact#[_,rfl]
 ·rw[if_neg hj,if_neg hj];exact#[_,rfl]
theorem Us:vQ X (.type "int") (λxs H Q=>(∃i,xs=[.int i]/\Q (.int i) H)\/∃k,xs=[.bl k]/\Q (.int (if k then 1 else 0)) H):=by
 intro Bb s σ H xs us Q I r h;rcases h with ⟨i,rfl,q⟩ | ⟨k,rfl,q⟩
 ·obtain⟨u,rfl,t,rfl⟩:=wB r;exact call_int_int #[.int i,H,I,#[_,rfl],q]
 ·obtain⟨u,rfl,r1⟩:=wB r;cases r1;exact call_int_bool #[.int (if k then 1 else 0),H,I.tok _,#[_,rfl],q]
def zdf(K:so)(x:V)(H:Hp)(n:Nat):Prop :=
 match x with
 | .str y=>y.length<=sk/\n=y.length
 | .byt y=>y.size<=sk/\n=y.size
 | .ref p=>(∃xs,SqL K H p xs/\n=xs.length)\/∃xs,SqT K H p xs/\n=xs.length
 | _=>False
theorem J5:vQ X (.builtin "len") (λxs H Q=>∃x n,xs=[x]/\zdf X.K x H n/\Q (.int n) H):=by
 intro Bb s σ H xs us Q I r h;obtain⟨x,n,rfl,e,q⟩:=h;obtain⟨u,rfl,rx⟩:=wB r;have hl:=Yt;have hs:sk=16777216:=sV
 cases x with
 | str y =>
  obtain⟨t,rfl⟩:=rx;obtain⟨hy,e'⟩:y.length<=sk/\n=y.length:=e;subst e';exact len_str ⋯ #[.int _,H,I.tok _,#[_,rfl],q]
 | byt y =>
  obtain⟨t,rfl⟩:=rx;obtain⟨hy,e'⟩:y.size<=sk/\n=y.size:=e;subst e';exact PySem.W.len_bytes ⋯ #[.int _,H,I.tok _,#[_,rfl],q]
 | ref p =>
  cases rx;have e':(∃xs,SqL X.K H p xs/\n=xs.length)\/∃xs,SqT X.K H p xs/\n=xs.length:=e;rcases e' with ⟨xs,hx,e'⟩ | ⟨xs,hx,e'⟩
  ·subst e';obtain⟨its,r',pl,hz⟩:=I.list hx;have hlen:=r'.length;exact Calls.call_len_list pl.isList (by erw[ak];lia) #[.int xs.length,H,I.tok _,#[_,by erw[ak];rw[hlen]],q]
  ·subst e';obtain⟨its,r',pl,hz⟩:=I.tuple hx;have hlen:=r'.length;exact len_tuple pl (by erw[ak];lia) #[.int xs.length,H,I.tok _,#[_,by erw[ak];rw[hlen]],q]
 | _=>exact (show False from e).elim
end
structure ObjM(h:sI)(x dx C:sq)(mA:sB->Option sr):Prop where
 obj:h.get? x=AX (cj C dx)
 ns:h.Ns1 dx mA
 ne:dx≠x
theorem Qp{h:sI}{dx:sq}{mA:sB->Option sr}(n:h.Ns1 dx mA):∃od,h.get? dx=AX od/\∀name,dY name od=AX (mA name):=by
 obtain⟨o,es,ep,ho,hd,hk,_,hm⟩:=n;refine#[o,ho,λname=>?_];have e:=hm name;unfold nsFind findBy at e;rw[<- Array.find?_toList]at e;unfold dY;rw[hd];dsimp only;split
 ·rename_i y q;rw[q]at e;exact congrArg AX e
 ·rename_i q;rw[q]at e
  have a:es.toList.any (·.refKey)=Ba:=by
   rw[List.any_eq_false];intro y hy;obtain⟨z,t,hkey⟩:=hk y (Array.mem_toList_iff.mp hy);simp [DictEntry.refKey,hkey]
  have a':¬ es.toList.any (·.refKey)=AZ:=by rw[a];exact az
  rw[if_neg a'];exact congrArg AX e
theorem ObjM.look{h:sI}{x dx C:sq}{mA:sB->Option sr}(I:ObjM h x dx C mA):∃od,PySem.W.InstAt h x (cj C dx) C (AX od)/\∀name,dY name od=AX (mA name) :=
 let #[od,ho,hl]:=Qp I.ns
 #[od,#[I.obj,rfl,rfl,ho],hl]
section
variable{prog:sy}{w:sC}{A:sE}{E:sr->su->Prop}{s:su}{K:so}{x dx C f:sq}{mA:sB->Option sr}{name:sB}{v:sr}
theorem zcg{expr:Bool}{Q:sr->su->Prop}(X:K.In s.heap)(I:ObjM s.heap x dx C mA)(hg:bM K C name=AZ)(hh:bT K C=AZ)
  (ha:af K (.ref C) name=AX AY) (hv:mA name=AX v) (hv':fR v=AZ) (h:Q v { s with toks:=s.toks+1 }) :
  sw (model prog w) A (getAttr (.ref x) name expr) Q E s:=by
 obtain⟨od,J,hl⟩:=I.look;exact PySem.W.get_value X J (dQ hg).1 (PySem.W.findObj_own hh ha rfl (by rw[hl,hv])) hv' h
theorem K9{pl:AO Bool}{Q:sr × List sr->su->Prop}(X:K.In s.heap)(I:ObjM s.heap x dx C mA)(hg:bM K C name=AZ)
  (hf:af K (.ref C) name=AX (AX (.ref f))) (ht:aR K (.ref f)=AZ) (hv:mA name=AY) (h:Q (.ref f,[.ref x]) s) :
  sw (model prog w) A (getMethod (.ref x) name pl) Q E s:=by
 obtain⟨od,J,hl⟩:=I.look;exact PySem.W.method_fn X J (dQ hg).1 (dQ hg).2 hf (beq_iff_eq.mp ht) (by show (dY name od).map (·.isSome)=AX Ba;rw[hl,hv];rfl) h
theorem zby{ns:List sB}{Q:Unit->su->Prop}(X:K.In s.heap)(I:ObjM s.heap x dx C mA)
  (hs:af K (.ref C) "__setattr__" = AX (AX (.builtin "object.__setattr__"))) (hp:cw K C=AZ) (ht:eW K C name=AX AY) (hh:bT K C=AZ)
  (hw:PySem.Within mA ns) (hsz:ns.length<=sk)
  (h:∀h',ObjM h' x dx C (λy=>if y=name then AX v else mA y)->Heap.SameBut dx s.heap h'->Q Unit.unit { s with heap:=h',toks:=s.toks+2 }) :
  sw (model prog w) A (setAttr (.ref x) name v) Q E s:=by
 obtain⟨od,J,hl⟩:=I.look;refine fN X J hs (PySem.W.osa_open (s:={ s with toks:=s.toks+1 }) (r:=AY) X J hp ht λb=>?_);obtain⟨cd,hc,hd'⟩:=PySem.W.any_some hh;have hx:s.heap.get? x=AX #[.ref C,AX dx,.plain,#[]]:=I.obj;refine rZ (sf (rZ (rZ (Ap hx (rZ (PySem.W.Looks.here (s:={ s with toks:=s.toks+1 }) (PySem.W.looks_clsIn X hc) ?_))))));rw[hd'];refine sf (a:=AX dx) (rZ (sf (rZ ?_)));refine wpAny_nsSet1 (s:={ s with toks:=s.toks+1 }) I.ns λh' hn2 hs2=>?_;obtain⟨oD,esD,epD,hoD,hdD,hcD⟩:=hn2.count (PySem.Within.cons name v hw);refine rZ (AL hoD (by rw[hdD];exact pastItsLine_dict (aM hcD (by rw[aJ];lia))) ?_);exact sf (h _ #[(hs2.2 _ (Ne.symm I.ne)).trans I.obj,hn2,I.ne] hs2)
theorem Ka{R:As->su->Prop}{vs:List sr}{kw:List (sB × sr)}(X:K.In s.heap)(hm:cC K C=AZ)
  (hi:af K (.ref C) "__init__" = AX (AX (.ref f))) (hf:PySem.W.typeIn K (.ref f)=AX (.type "function"))
  (h:tN (model prog w) (A.under (.builtin "type.__call__" #[.ref C::vs,kw])) (.call (.ref f) #[.ref (s⁻¹+1)::vs,kw]) (PySem.W.InitBack (s⁻¹+1) R)
   { s with heap:=(s.heap.push bI).push (cj C s⁻¹) }) :
  tN (model prog w) A (.call (.ref C) #[vs,kw]) R s:=by
 obtain⟨hh,g,d,t,os⟩:=s;exact PySem.W.make_core (PySem.W.makes_of X hm) (cG X hi) (λself=>fV X self hf) (.inl rfl) h
end
noncomputable def Z3(f:sB)(v:V):List (sB × V)->List (sB × V)
  | []=>[(f,v)]
  | (g,x)::r=>if g=f then (g,v)::r else (g,x)::Z3 f v r
theorem qR(f g:sB)(v:V):∀fs:List (sB × V),(Z3 f v fs).lookup g=if g=f then AX v else fs.lookup g
  | []=>by
    show bg g [(f,v)]=_;by_cases h:g=f
    . have hb:(g == f)=AZ:=beq_iff_eq.mpr h
      erw[bg,hb,if_pos h]
    . have hb:(g == f)=Ba:=beq_eq_false_iff_ne.mpr h
      erw[bg,hb,if_neg h]
  | (k,x)::r=>by
    have ih:=qR f g v r;rw[show Z3 f v ((k,x)::r)=(if k=f then (k,v)::r else (k,x)::Z3 f v r)from rfl];by_cases hk:k=f
    . rw[if_pos hk]
      by_cases h:g=k
      . have hb:(g == k)=AZ:=beq_iff_eq.mpr h
        erw[bg,hb,if_pos (h.trans hk)]
      . have hb:(g == k)=Ba:=beq_eq_false_iff_ne.mpr h
        erw[bg,hb,if_neg (λe:g=f=>h (e.trans hk.symm))]
    . rw[if_neg hk]
      by_cases h:g=k
      . have hb:(g == k)=AZ:=beq_iff_eq.mpr h
        erw[bg,hb,if_neg (λe:g=f=>hk (h.symm.trans e))]
      . have hb:(g == k)=Ba:=beq_eq_false_iff_ne.mpr h
        erw[bg,hb]
        exact ih
theorem jh(f:sB)(v:V):∀fs:List (sB × V),f ∈ (Z3 f v fs).map (·.1)/\∀g,g ∈ fs.map (·.1)->g ∈ (Z3 f v fs).map (·.1)
  | []=>#[by simp [Z3],λg h=>by simp at h]
  | (k,x)::r=>by
    obtain⟨i1,i2⟩:=jh f v r;rw[show Z3 f v ((k,x)::r)=(if k=f then (k,v)::r else (k,x)::Z3 f v r)from rfl];by_cases hk:k=f
    . rw[if_pos hk]
      subst hk;exact#[by simp,λg h=>by simpa using h]
    . rw[if_neg hk]
      refine#[?_,λg h=>?_]
      . rw[au]
        exact am _ i1
      . rw[au]at h ⊢
        rcases Bg.mp h with e | e
        . exact Bg.mpr (.inl e)
        . exact am _ (i2 g e)
theorem qK(f:sB)(v:V):∀fs:List (sB × V),(Z3 f v fs).length<=fs.length+1
  | []=>by simp [Z3]
  | (k,x)::r=>by
    have ih:=qK f v r;rw[show Z3 f v ((k,x)::r)=(if k=f then (k,v)::r else (k,x)::Z3 f v r)from rfl];by_cases hk:k=f
    . rw[if_pos hk,aJ,aJ];lia
    . rw[if_neg hk,aJ,aJ];lia
theorem RelO.some_of{v:V}{o:Option sr}(r:RelO (AX v) o):∃u,o=AX u/\RelV v u:=by
 cases o with
 | none=>exact (show False from r).elim
 | some u=>exact#[u,rfl,r]
theorem RelO.none_of{o:Option sr}(r:RelO AY o):o=AY:=by
 cases o with
 | none=>rfl
 | some u=>exact (show False from r).elim
theorem UE{v:V}{u:sr}(r:RelV v u):fR u=AZ:=by
 cases v with
 | non=>cases (show u=Value.none from r);rfl
 | bl b=>cases (show u=Value.bool b from r);rfl
 | int i=>obtain⟨t,e⟩:=(show ∃t,u=Value.int i t from r);cases e;rfl
 | str x=>obtain⟨t,e⟩:=(show ∃t,u=Value.str x t from r);cases e;rfl
 | byt b=>obtain⟨t,e⟩:=(show ∃t,u=Value.bytes b t from r);cases e;rfl
 | flt b=>obtain⟨t,e⟩:=(show ∃t,u=Value.float b t from r);cases e;rfl
 | ref a=>cases (show u=Value.ref a from r);rfl
 | ty n=>cases (show u=Value.type n from r);rfl
section
variable{P:sy}{w:sC}{H H':Hp}{h h':sI}{a C dx:sq}{fs fs':List (sB × V)}
theorem kL(hok:HOk P w H h)(e:H a=AX (.ins C dx fs)):∃mA,ObjM h a dx C mA/\(∀f,RelO (fs.lookup f) (mA f))/\PySem.Within mA (fs.map (·.1))/\fs.length<=1000/\H dx=AX (.own a):=by
 obtain⟨d,z,ne,ob,mA,n,r,q⟩:=(show ObjOk P w H h a (.ins C dx fs)from hok a _ e);exact#[mA,#[ob,n,ne],r,q,z,d]
end
structure Cls(K:so)(C:sq):Prop where
 pg:bM K C d5=AZ
 hd:bT K C=AZ
 po:cw K C=AZ
 sa:af K (.ref C) "__setattr__" = AX (AX (.builtin "object.__setattr__"))
theorem Cls.get{K:so}{C:sq}(c:Cls K C)(f:sB):bM K C f=AZ:=c.pg
def NoAttr(K:so)(C:sq)(f:sB):Prop:=af K (.ref C) f=AX AY
theorem NoAttr.taker{K:so}{C:sq}{f:sB}(n:NoAttr K C f):eW K C f=AX AY:=by
 unfold eW;rw[show af K (.ref C) f=AX AY from n];rfl
structure zev(K:so)(C:sq)(m:sB)(f:sq):Prop where
 at_:af K (.ref C) m=AX (AX (.ref f))
 fn:aR K (.ref f)=AZ
 kp:aI K (.ref f)=AZ
section
variable{X:Cx}{Bb:List (sq × sX)}{σ:St}{H:Hp}{s:su}{a C dx:sq}{fs:List (sB × V)}{f:sB}{v:V}{A:sE}{E:sr->su->Prop}
theorem VP{b:Bool}{Q:sr->su->Prop}(I:Inv X Bb σ H s)(e:H a=AX (.ins C dx fs))(c:Cls X.K C)(n:NoAttr X.K C f)(l:fs.lookup f=AX v)
  (h:∀u s',Inv X Bb σ H s'->RelV v u->Q u s'):sw (model X.prog X.w) A (getAttr (.ref a) f b) Q E s:=by
 obtain⟨mA,O,r,_,_,_⟩:=kL I.hok e;obtain⟨u,hu,ru⟩:=RelO.some_of (v:=v) (o:=mA f) (by rw[<- l];exact r f);exact zcg I.kIn O (c.get f) c.hd n hu (UE ru) (h u _ (I.tok _) ru)
theorem xV{m:sB}{g:sq}{pl:AO Bool}{Q:sr × List sr->su->Prop}(I:Inv X Bb σ H s)(e:H a=AX (.ins C dx fs))(c:Cls X.K C)(k:zev X.K C m g)(l:fs.lookup m=AY)
  (h:Q (.ref g,[.ref a]) s):sw (model X.prog X.w) A (getMethod (.ref a) m pl) Q E s:=by
 obtain⟨mA,O,r,_,_,_⟩:=kL I.hok e;have hn:mA m=AY:=RelO.none_of (by rw[<- l];exact r m);exact K9 I.kIn O (c.get m) k.at_ k.fn hn h
theorem Vu{y:V}{u:sr}{Q:Unit->su->Prop}(I:Inv X Bb σ H s)(e:H a=AX (.ins C dx fs))(c:Cls X.K C)(n:NoAttr X.K C f)(hl:fs.length<1000)(ry:RelV y u)
  (h:∀s',Inv X Bb σ (upd H a (.ins C dx (Z3 f y fs))) s'->Q Unit.unit s'):sw (model X.prog X.w) A (setAttr (.ref a) f u) Q E s:=by
 obtain⟨mA,O,r,wi,_,ho⟩:=kL I.hok e;have hz:(fs.map (·.1)).length<=sk:=by rw[ae,sV];lia
 refine zby I.kIn O c.sa c.po n.taker c.hd wi hz λh' O' sb=>h _ ?_;have hd:∃o,h'.get? dx=AX o:=let #[o,_,_,e',_]:=O'.ns; #[o,e'];refine I.write (x:=a) (e:=dx) (by rw[e];exact True.intro) (.inr ho) (λb q hb z=>(sb.2 b hb).trans z) hd ?_;refine#[by rw[zm O.ne];exact ho,?_,O.ne,O'.obj,_,O'.ns,λg=>?_,λg hg=>?_]
 ·have:=qK f y fs;lia
 ·show RelO ((Z3 f y fs).lookup g) (if g=f then AX u else mA g);rw[qR];by_cases q:g=f
  ·rw[if_pos q,if_pos q];exact ry
  ·rw[if_neg q,if_neg q];exact r g
 ·by_cases q:g=f
  ·rw[q];exact (jh f y fs).1
  ·refine (jh f y fs).2 g (wi g λz=>hg ?_);show (if g=f then AX u else mA g)=AY;rw[if_neg q];exact z
theorem Inv.made(I:Inv X Bb σ H s):Inv X Bb σ (upd (upd H s⁻¹ (.own (s⁻¹+1))) (s⁻¹+1) (.ins C s⁻¹ []))
  { s with heap:=(s.heap.push bI).push (cj C s⁻¹) }:=by
 have e1:(s.heap.push bI).get? s⁻¹=AX bI:=aB s.heap rfl
 have e2:((s.heap.push bI).push (cj C s⁻¹)).get? (s⁻¹+1)=AX (cj C s⁻¹):=by
  have:=aB (s.heap.push bI) (o:=cj C s⁻¹) rfl
  rwa [bQ]at this
 have e3:(s.heap.push bI).Ns s⁻¹ (λ_=>AY):=#[bI,#[],_,e1,rfl,(λe he=>absurd he (by simp)),λ_=>rfl];have I1:=I.laid (a:=s⁻¹) (o:=.own (s⁻¹+1)) (h':=s.heap.push bI) (t':=s.toks) (λb u q=>ac _ q) (al _) #[_,e1];refine I1.laid (a:=s⁻¹+1) (o:=.ins C s⁻¹ []) (t':=s.toks) (λb u q=>ac _ q) (Nat.le_of_eq (bQ _ _)) ?_;have ne:s⁻¹≠s⁻¹+1:=aA (eE _);refine#[by rw[zm ne,zd],aD _,ne,e2,λ_=>AY,(Heap.Ns1.of_empty e3).at λo q=>ac _ q,λ_=>True.intro,λy hy=>absurd rfl hy]
theorem zbM{prog:sy}{w:sC}{env:Al}{e:sF}{f:sB}{pos:tG}{s:su}{Q:sr->su->Prop}(hb:attributeBase e f env (eval e env)=eval e env)
  (h:sw (model prog w) A (eval e env) (λo s₁=>sw (model prog w) A (getAttr o f AZ) Q E s₁) E s):sw (model prog w) A (eval (.Attribute e f pos) env) Q E s :=
 Attribute_any_ h (by rw[arm_eval_Attribute,hb])
end
def zcQ(K:so)(ta:TE)(f:sB):TE:=λσ H Q=>ta σ H λx H1=>∃a C dx fs v,x=.ref a/\H1 a=AX (.ins C dx fs)/\Cls K C/\NoAttr K C f/\fs.lookup f=AX v/\Q v H1
def ze6(K:so)(ta tv:TE)(f:sB):TS:=λD σ H=>tv σ H λy H1=>ta σ H1 λx H2=>∃a C dx fs,x=.ref a/\H2 a=AX (.ins C dx fs)/\Cls K C/\NoAttr K C f/\fs.length<1000 /\
 D.nx σ (upd H2 a (.ins C dx (Z3 f y fs)))
section
variable{X:Cx}{o e value:sF}{f:sB}{pos pos' tpos:tG}{ta tv:TE}
theorem vW(he:PE X e ta)(hb:attributeBase e f X.env (eval e X.env)=eval e X.env):PE X (.Attribute e f pos) (zcQ X.K ta f):=by
 intro Bb s σ H Q I h;refine zbM hb (thn (he Bb s σ H _ I h) λu s1 ⟨x,H1,I1,rx,a,C,dx,fs,v,ex,ea,c,n,l,q⟩=>?_);subst ex;obtain rfl:u=Value.ref a:=rx;exact VP I1 ea c n l λu' s2 I2 ru=>#[v,H1,I2,ru,q]
theorem kH(ha:PE X o ta)(hv:PE X value tv)(hs:swapsWith value (AX (.Attribute o f pos')) pos.line X.env=pure Ba):PS X (.Assign [.Attribute o f pos'] value pos) (ze6 X.K ta tv f):=by
 intro Bb s σ H D I h;refine tU (thn (hv Bb s σ H _ I h) λu s1 ⟨y,H1,I1,ry,q⟩=>thn (ha Bb s1 σ H1 _ I1 q) λov s2 ⟨x,H2,I2,rx,a,C,dx,fs,ex,ea,c,n,l,q2⟩=>?_) hs;subst ex;obtain rfl:ov=Value.ref a:=rx;exact Vu I2 ea c n l ry λs3 I3=>#[σ,_,I3,q2]
theorem zbB{pl:AO Bool}{m:sB}{apos:tG}{args:List sF}{Bb:List (sq × sX)}{s:su}{σ:St}{H:Hp}{Q:sr->su->Prop}{te:TE}(he:PE X e te)(I:Inv X Bb σ H s)
    (h:te σ H λx H1=>∃a C dx fs g,x=.ref a/\H1 a=AX (.ins C dx fs)/\Cls X.K C/\zev X.K C m g/\fs.lookup m=AY /\
      ∀s1,Inv X Bb σ H1 s1->sw (model X.prog X.w) X.A (callWith pos (.ref g) [.ref a] (sN pos (sj args X.env)) (tj pos (sL [] X.env))) Q X.xe s1)
    (ht:eval (.Call (.Attribute e m apos) args [] pos) X.env=(do
      let ov <- eval e X.env
      standAt apos.atName
      let (f,first) <- holding [ov] (getMethod ov m pl)
      callWith pos f first (sN pos (sj args X.env)) (tj pos (sL [] X.env)))) :
    sw (model X.prog X.w) X.A (eval (.Call (.Attribute e m apos) args [] pos) X.env) Q X.xe s:=by
  refine bZ (pl:=pl) (thn (he Bb s σ H _ I h) λu s1 ⟨x,H1,I1,rx,a,C,dx,fs,g,ex,ea,c,k,l,q⟩=>?_) ht;subst ex;obtain rfl:u=Value.ref a:=rx;exact xV I1 ea c k l (q s1 I1)
end
section
variable{X:Cx}{Bb:List (sq × sX)}{σ:St}{H:Hp}{s:su}{A:sE}{E:sr->su->Prop}{Q:sr->su->Prop}{c:sr}{b:Bool}
inductive XV(K:so)(H:Hp):V->sr->Prop where
 | non:XV K H .non (.type "NoneType")
 | bl (x:Bool):XV K H (.bl x) (.type "bool")
 | int (i:Int):XV K H (.int i) (.type "int")
 | str (x:sB):XV K H (.str x) (.type "str")
 | flt (x:UInt64):XV K H (.flt x) (.type "float")
 | lst {a:sq} {xs:List V} (e:H a=AX (.lst xs)):XV K H (.ref a) (.type "list")
 | frz {a:sq} {o:sX} {xs:List V} (e:H a=AX (.frz o (.lst xs))):XV K H (.ref a) (.type "list")
 | tup {a:sq} {xs:List V} (e:H a=AX (.tup xs)):XV K H (.ref a) (.type "tuple")
 | dK {a:sq} {kvs:List (Key × V)} (e:H a=AX (.dK kvs)):XV K H (.ref a) (.type "dict")
 | dT {a:sq} {kvs:List (List Key × V)} (e:H a=AX (.dT kvs)):XV K H (.ref a) (.type "dict")
 | ins {a C dx:sq} {fs:List (sB × V)} (e:H a=AX (.ins C dx fs)) (cl:Cls K C) (ha:af K (.ref C) "__class__" = AX (AX (.builtin "object.__class__")))
   (hn:cF K (.builtin "object.__class__") "__get__" = AX (AX (.builtin "getset_descriptor.__get__"))) (htk:dC K (.builtin "object.__class__")=AX AZ)
   (hm:bC K C (.type "object")=AX AZ):XV K H (.ref a) (.ref C)
theorem QJ{x:V}{u t:sr}(I:Inv X Bb σ H s)(rx:RelV x u)(ty:XV X.K H x t)(e:aO X.K t c=AX b)(h:∀tk,Q (.bool b) { s with toks:=tk }) :
  sw (model X.prog X.w) A (call (.builtin "isinstance") [u,c]) Q E s:=by
 cases ty with
 | non=>cases (show u=Value.none from rx);exact be PySem.W.kitx_none I.kIn True.intro e (λz=>nomatch z) h
 | bl y=>cases (show u=Value.bool y from rx);exact be PySem.W.kitx_bool I.kIn True.intro e (λz=>nomatch z) h
 | int i=>obtain⟨t,q⟩:=(show ∃t,u=Value.int i t from rx);cases q;exact be PySem.W.kitx_int I.kIn True.intro e (λz=>nomatch z) h
 | str y=>obtain⟨t,q⟩:=(show ∃t,u=Value.str y t from rx);cases q;exact be PySem.W.kitx_str I.kIn True.intro e (λz=>nomatch z) h
 | flt y=>obtain⟨t,q⟩:=(show ∃t,u=Value.float y t from rx);cases q;exact be PySem.W.kitx_float I.kIn True.intro e (λz=>nomatch z) h
 | @lst a xs ea =>
  cases (show u=Value.ref a from rx);obtain⟨_,_,n,_,h1⟩:=(show ObjOk X.prog X.w H s.heap a (.lst xs)from I.hok a _ ea);exact be eg I.kIn #[_,h1,rfl] e (λz=>nomatch z) h
 | @frz a ob xs ea =>
  cases (show u=Value.ref a from rx);obtain⟨_,_,_,n,_,h1⟩:=(show ObjOk X.prog X.w H s.heap a (.frz ob (.lst xs))from I.hok a _ ea);exact be eg I.kIn #[_,h1,rfl] e (λz=>nomatch z) h
 | @tup a xs ea =>
  cases (show u=Value.ref a from rx);obtain⟨_,_,_,p⟩:=(show ObjOk X.prog X.w H s.heap a (.tup xs)from I.hok a _ ea);obtain⟨o,h1,h2,_⟩:=p;exact be fH I.kIn #[o,h1,h2] e (λz=>nomatch z) h
 | @dK a kvs ea =>
  cases (show u=Value.ref a from rx);obtain⟨_,_,vs,_,p⟩:=(show ObjOk X.prog X.w H s.heap a (.dK kvs)from I.hok a _ ea);obtain⟨o,es,ep,h1,h2,_⟩:=p;exact be fO I.kIn #[o,h1,h2.1] e (λz=>nomatch z) h
 | @dT a kvs ea =>
  cases (show u=Value.ref a from rx);obtain⟨_,_,xs,_,o,es,ep,h1,h2,_⟩:=(show ObjOk X.prog X.w H s.heap a (.dT kvs)from I.hok a _ ea);exact be fO I.kIn #[o,h1,h2.1] e (λz=>nomatch z) h
 | @ins a C dx fs ea cl ha hn htk hm =>
  cases (show u=Value.ref a from rx);obtain⟨mA,O,_⟩:=kL I.hok ea;obtain⟨od,J,_⟩:=O.look;exact be (PySem.W.kitx_own (cl.get _) cl.hd ha hn htk hm) I.kIn J e (λz=>nomatch z) h
end
structure Room(k:Nat)(A:sE):Prop where
 hd:A.handled=AY
 dp:A.depth+3 * k+5<Aq
 un:A.units+16 * k+200<cLine
theorem Room.mono{j k:Nat}{A:sE}(r:Room k A)(h:j<=k):Room j A:=#[r.hd,by have:=r.dp;lia,by have:=r.un;lia]
theorem Room.deeper{k:Nat}{A:sE}(r:Room (k+1) A)(env:Al):Room k (A.deeper env) :=
 #[r.hd,by have:=r.dp;show A.depth+1+3 * k+5<_;lia,by have:=r.un;show A.units+3+16 * k+200<_;lia]
theorem Room.in1{k:Nat}{A:sE}(r:Room (k+1) A):Room k A.in1 :=
 #[r.hd,by have:=r.dp;show A.depth+3 * k+5<_;lia,by have:=r.un;show A.units+1+16 * k+200<_;lia]
theorem VF{A:sE}{C:sq}{us:List sr}{kw:List (sB × sr)}:(A.under (.builtin "type.__call__" #[.ref C::us,kw])).depth=A.depth+1:=by
 first | rfl | simp [Around.under,Code.weight,Code.isCreation,Code.isGuard,Code.isCaller,Code.frames,Code.isFrame,guardIds]
theorem Vx{A:sE}{C:sq}{us:List sr}{kw:List (sB × sr)}:(A.under (.builtin "type.__call__" #[.ref C::us,kw])).units=A.units+1:=by
 first | rfl | simp [Around.under,Code.cUnits,Code.frames,Code.isFrame]
theorem Room.make{k:Nat}{A:sE}(r:Room (k+1) A)(C:sq)(us:List sr)(kw:List (sB × sr)):Room k (A.under (.builtin "type.__call__" #[.ref C::us,kw])) :=
 #[r.hd,by have:=r.dp;rw[VF];lia,by have:=r.un;rw[Vx];lia]
theorem Room.depth{k:Nat}{A:sE}(r:Room k A):A.depth<Aq:=by have:=r.dp;lia
theorem Room.units{k:Nat}{A:sE}(r:Room k A):A.units+64<cLine:=by have:=r.un;lia
def xH:TA:=λ_ H Q=>Q [] H
def zM(ta:TE)(tr:TA):TA:=λσ H Q=>ta σ H λx H1=>tr σ H1 λxs H2=>Q (x::xs) H2
section
variable{X:Cx}{e:sF}{es:List sF}{te:TE}{t:TA}{pos:tG}
theorem zc:PA X [] xH:=λ_ _ _ _ H Q I h=>Calls.spliced_nil #[[],H,I,.nil,h]
theorem za(ha:PE X e te)(hr:PA X es t)(hs:sj (e::es) X.env=(Ba,eval e X.env)::sj es X.env:=by rfl):PA X (e::es) (zM te t):=by
 intro pos Bb s σ H Q I h;rw[hs];show sw _ _ (spliced ((Ba,eval e X.env)::sN pos (sj es X.env))) _ _ s;refine Calls.spliced_cons (thn (ha Bb s σ H _ I h) λu s1 ⟨x,H1,I1,r1,q1⟩=>?_);exact thn (hr pos Bb s1 σ H1 _ I1 q1) λus s2 ⟨xs,H2,I2,r2,q2⟩=>#[x::xs,H2,I2,.cons r1 r2,q2]
def Jy(t:TA):TE:=λσ H Q=>t σ H λxs H1=>xs.length<=sk/\∀p,H1 p=AY->Q (.ref p) (upd H1 p (.tup xs))
def zdE(t:TA):TE:=λσ H Q=>t σ H λxs H1=>xs.length<=sk/\∀p,H1 p=AY->Q (.ref p) (upd H1 p (.lst xs))
theorem zR{x1}(h:PA X es t):PE X (.Tuple es x1 pos) (Jy t):=by
 intro Bb s σ H Q I hq;refine wpAny_Tuple_spliced (thn (h pos Bb s σ H _ I hq) λus s1 ⟨xs,H1,I1,r,z,q⟩=>#[by rw[<- r.length];exact z,?_]);have hf:H1 s1⁻¹=AY:=I1.hok.fresh (al _);refine#[.ref s1⁻¹,upd H1 s1⁻¹ (.tup xs),I1.laid (t':=s1.toks) (λb u e=>ac _ e) (al _) ?_,rfl,q _ hf];exact#[z,us,r,#[_,aB _ rfl,rfl,_,rfl]]
theorem wy(h:PA X es t):PE X (.List es pos) (zdE t):=by
 intro Bb s σ H Q I hq;refine wpAny_List_spliced (thn (h pos Bb s σ H _ I hq) λus s1 ⟨xs,H1,I1,r,z,q⟩=>#[by rw[<- r.length];exact z,?_]);have hf:H1 s1⁻¹=AY:=I1.hok.fresh (al _);refine#[.ref s1⁻¹,upd H1 s1⁻¹ (.lst xs),I1.laid (t':=s1.toks) (λb u e=>ac _ e) (al _) ?_,rfl,q _ hf];exact#[z,us,0,r,aB _ rfl]
end
noncomputable abbrev Sp:=List V->Hp->VK->XK->Prop
noncomputable abbrev CXT:=List Al->Hp->su->XK->sr->su->Prop
structure Env0(P:sy)(w:sC)(K:so)(mg:sB->Option sr)(base:sI)(A:sE)(outer:List Al)(s:su)(H:Hp):Prop where
 frames:A.frames=AX outer
 mod:Mod K mg base
 bs:∀b o,base.get? b=AX o->s.heap.get? b=AX o/\H b=AY
 bsz:base.objs.size<=s⁻¹
 funs:s.heap.FunFrames base outer
 frf:∀b ∈ frs outer,H b=AY
 hok:HOk P w H s.heap
 bare:Ab s.gens
def CE(outer:List Al)(P:sy)(w:sC)(H:Hp)(s:su)(Q:VK)(u:sr)(s':su):Prop :=
 ∃v H',s'.os=s.os/\Ab s'.gens/\Un (frs outer) [] H H' s.heap s'.heap/\HOk P w H' s'.heap/\RelV v u/\Q v H'
def CR(CX:CXT)(outer:List Al)(P:sy)(w:sC)(H:Hp)(s:su)(Q:VK)(E:XK)(r:As)(s':su):Prop :=
 match r with
 | .ok (.ret u)=>CE outer P w H s Q u s'
 | .ok _=>False
 | .error e=>CX outer H s E e s'
structure zQ(P:sy)(w:sC)(K:so)(mg:sB->Option sr)(base:sI)(CX:CXT)(k:Nat)(f:sq)(fd:sv)(ps:List sB)(sp:Sp):Prop where
 len:∀vs H Q E,sp vs H Q E->vs.length=ps.length
 run:∀(A:sE) (outer:List Al) (s:su) (H:Hp) (args:Args) (us:List sr) (vs:List V) (Q:VK) (E:XK),Room k A->Env0 P w K mg base A outer s H->Av s fd args (ps.zip us)->Vals vs us->sp vs H Q E ->
  tN (model P w) A (.call (.ref f) args) (CR CX outer P w H s Q E) s
theorem Env0.make{P:sy}{w:sC}{K:so}{mg:sB->Option sr}{base:sI}{A:sE}{outer:List Al}{s:su}{H:Hp}(e:Env0 P w K mg base A outer s H)(C:sq)(us:List sr)(kw:List (sB × sr)) :
  Env0 P w K mg base (A.under (.builtin "type.__call__" #[.ref C::us,kw])) outer s H:=#[by first | exact e.frames | (simpa [Around.under,Code.envs,Code.isFrame,pushEnvs] using e.frames),e.mod,e.bs,e.bsz,e.funs,e.frf,e.hok,e.bare]
section
variable{X:Cx}{Bb:List (sq × sX)}{σ:St}{H:Hp}{s s':su}
theorem Inv.env0(I:Inv X Bb σ H s):Env0 X.prog X.w X.K X.mg X.base X.A X.stack s H :=
 #[I.ok.frames,I.ok.mod,I.bs,aM I.ok.bsz I.sz,I.stack,I.stkFree,I.hok,I.bare]
theorem Inv.after{Q:VK}{u:sr}(I:Inv X Bb σ H s)(h:CE X.stack X.prog X.w H s Q u s'):EP X Bb σ Q u s':=by
 obtain⟨v,H',os,bare,un,hok,r,q⟩:=h;obtain⟨hh,g,d,t,os'⟩:=s';obtain rfl:os'=s.os:=os;exact#[v,H',I.call (h':=hh) (g':=g) (d':=d) (t':=t) (ch:=[]) un hok bare (λb z=>absurd z (by simp)),r,q]
end
def uR(sp:Sp)(dvs:List V)(E:XK)(t:TA):TE:=λσ H Q=>t σ H λvs H1=>sp (vs ++ dvs) H1 Q E
def kW(C:sq)(m:sB)(sp:Sp)(dvs:List V)(E:XK)(ta:TE)(t:TA):TE:=λσ H Q=>ta σ H λx H1=>∃a dx fs,x=.ref a/\H1 a=AX (.ins C dx fs)/\fs.lookup m=AY /\
 t σ H1 λvs H2=>sp (x::(vs ++ dvs)) H2 Q E
def Jn(C:sq)(sp:Sp)(dvs:List V)(E:XK)(t:TA):TE:=λσ H Q=>t σ H λvs H1=>∀x dx,H1 x=AY->H1 dx=AY->dx≠x ->
 sp (.ref x::(vs ++ dvs)) (upd (upd H1 dx (.own x)) x (.ins C dx [])) (λv H2=>v=.non/\Q (.ref x) H2) E
def Binds(K:so)(fd:sv)(ps:List sB)(ds:List sr):Prop :=
 ∀(s:su) (us:List sr),K.In s.heap->(us ++ ds).length=ps.length->Av s fd #[us,[]] (ps.zip (us ++ ds))
theorem Binds.all{K:so}{fd:sv}{ps:List sB}(h:∀us:List sr,us.length=ps.length->bindArgs fd #[us,[]]=pure (ps.zip us)):Binds K fd ps []:=λs us _ hl=>by
 rw[aT]at hl ⊢;exact .of_eq (h us hl)
def qc(CX:CXT)(X:Cx)(E:XK):Prop:=∀(Bb:List (sq × sX)) (σ:St) (H:Hp) (s:su) (e:sr) (s':su),Inv X Bb σ H s->CX X.stack H s E e s'->X.xe e s'
section
variable{X:Cx}{CX:CXT}{k:Nat}{f C:sq}{fd:sv}{ps:List sB}{sp:Sp}{dvs:List V}{ds:List sr}{E:XK}{x m:sB}{p pos apos:tG}{e o:sF}{es:List sF}{ta:TE}{t:TA}
theorem kn{Bb:List (sq × sX)}{σ:St}{H:Hp}{s:su}{Q:VK}{us:List sr}{vs:List V}(F:zQ X.prog X.w X.K X.mg X.base CX k f fd ps sp)(hr:Room k X.A)(hb:Binds X.K fd ps ds)(hd:Vals dvs ds)(hx:qc CX X E)
  (I:Inv X Bb σ H s) (r:Vals vs us) (h:sp (vs ++ dvs) H Q E):sw (model X.prog X.w) X.A (call (.ref f) us) (EP X Bb σ Q) X.xe s:=by
 have r2:Vals (vs ++ dvs) (us ++ ds):=r.append hd;have hl:(us ++ ds).length=ps.length:=by rw[<- r2.length];exact F.len _ _ _ _ h
 refine tK (tM (F.run X.A X.stack s H #[us,[]] (us ++ ds) (vs ++ dvs) Q E hr I.env0 (hb s us I.kIn hl) r2 h) λr s' hq=>?_)
 cases r with
 | error e=>exact hx Bb σ H s e s' I hq
 | ok fl =>
  cases fl with
  | ret u=>exact I.after hq
  | next=>exact False.elim hq
  | brk=>exact False.elim hq
  | cont=>exact False.elim hq
theorem Ux(F:zQ X.prog X.w X.K X.mg X.base CX k f fd ps sp)(hr:Room k X.A)(hg:Gl X x)(hm:X.mg x=AX (.ref f))(hk:aI X.K (.ref f)=AZ)(hb:Binds X.K fd ps ds)(hd:Vals dvs ds)(hx:qc CX X E)
  (ha:PA X (e::es) t) (hdb:(x ==("__debug__" : sB))=Ba:=by decide) (he:sj (e::es) X.env=(Ba,eval e X.env)::sj es X.env:=by rfl) (hpl:(sN pos (sj es X.env)).any (·.1)=Ba:=by rfl) :
  PE X (.Call (.Name x p) (e::es) [] pos) (uR sp dvs E t):=by
 intro Bb s σ H Q I h;refine sU (vL I hg hm ?_ hdb);refine bN (h₀:=X.base) I.ok.mod.kin hk (thn (ha pos Bb s σ H _ I h) λus s1 ⟨vs,H1,I1,r,q⟩=>#[I1.kIn,?_]) he hpl;exact kn F hr hb hd hx I1 r q
theorem zcC{pl:AO Bool}(he:PE X o ta)(c:Cls X.K C)(hm:zev X.K C m f)(F:zQ X.prog X.w X.K X.mg X.base CX k f fd ps sp)(hr:Room k X.A)(hb:Binds X.K fd ps ds)(hd:Vals dvs ds)(hx:qc CX X E)(ha:PA X (e::es) t)
    (hst:sj (e::es) X.env=(Ba,eval e X.env)::sj es X.env:=by rfl) (hpl:(sN pos (sj es X.env)).any (·.1)=Ba:=by rfl)
    (ht:eval (.Call (.Attribute o m apos) (e::es) [] pos) X.env=(do
      let ov <- eval o X.env
      standAt apos.atName
      let (f,first) <- holding [ov] (getMethod ov m pl)
      callWith pos f first (sN pos (sj (e::es) X.env)) (tj pos (sL [] X.env))):=by rfl) :
    PE X (.Call (.Attribute o m apos) (e::es) [] pos) (kW C m sp dvs E ta t):=by
  intro Bb s σ H Q I h;refine bZ (pl:=pl) (thn (he Bb s σ H _ I h) λu s1 ⟨x,H1,I1,rx,a,dx,fs,ex,ea,l,q⟩=>?_) ht;subst ex;obtain rfl:u=Value.ref a:=rx;refine xV I1 ea c hm l ?_;refine bN (first:=[.ref a]) (h₀:=X.base) I.ok.mod.kin hm.kp (thn (ha pos Bb s1 σ H1 _ I1 q) λus s2 ⟨vs,H2,I2,r,q2⟩=>#[I2.kIn,?_]) hst hpl;exact kn (us:=.ref a::us) (vs:=.ref a::vs) F hr hb hd hx I2 (.cons rfl r) q2
theorem JS{pl:AO Bool}(he:PE X o ta)(c:Cls X.K C)(hm:zev X.K C m f)(F:zQ X.prog X.w X.K X.mg X.base CX k f fd ps sp)(hr:Room k X.A)(hb:Binds X.K fd ps ds)(hd:Vals dvs ds)(hx:qc CX X E)
    (ht:eval (.Call (.Attribute o m apos) [] [] pos) X.env=(do
      let ov <- eval o X.env
      standAt apos.atName
      let (f,first) <- holding [ov] (getMethod ov m pl)
      callWith pos f first (sN pos (sj [] X.env)) (tj pos (sL [] X.env))):=by rfl) :
    PE X (.Call (.Attribute o m apos) [] [] pos) (kW C m sp dvs E ta xH):=by
  intro Bb s σ H Q I h;refine bZ (pl:=pl) (thn (he Bb s σ H _ I h) λu s1 ⟨x,H1,I1,rx,a,dx,fs,ex,ea,l,q⟩=>?_) ht;subst ex;obtain rfl:u=Value.ref a:=rx;refine xV I1 ea c hm l ?_;exact fF (first:=[.ref a]) I1.kIn hm.kp (kn (us:=[.ref a]) (vs:=[.ref a]) F hr hb hd hx I1 (.cons rfl .nil) q)
structure Mk(K:so)(C f:sq):Prop where
 makes:cC K C=AZ
 init:af K (.ref C) "__init__" = AX (AX (.ref f))
 fn:aR K (.ref f)=AZ
 kp:aI K (.ref C)=AZ
theorem JD{Bb:List (sq × sX)}{σ:St}{H:Hp}{s:su}{Q:VK}{us:List sr}{vs:List V}(M:Mk X.K C f)(F:zQ X.prog X.w X.K X.mg X.base CX k f fd ps sp)(hr:Room (k+1) X.A)(hb:Binds X.K fd ps ds)(hd:Vals dvs ds)
  (hx:qc CX X E) (I:Inv X Bb σ H s) (r:Vals vs us)
  (h:∀x dx,H x=AY->H dx=AY->dx≠x->sp (.ref x::(vs ++ dvs)) (upd (upd H dx (.own x)) x (.ins C dx [])) (λv H2=>v=.non/\Q (.ref x) H2) E) :
  sw (model X.prog X.w) X.A (call (.ref C) us) (EP X Bb σ Q) X.xe s:=by
 have hq:=h (s⁻¹+1) s⁻¹ (I.hok.fresh (cM _)) (I.hok.fresh (al _)) (aA (eE _));have I2:=Inv.made (C:=C) I;have r2:Vals (V.ref (s⁻¹+1)::(vs ++ dvs)) (Value.ref (s⁻¹+1)::(us ++ ds)):=.cons rfl (r.append hd)
 have hl:(Value.ref (s⁻¹+1)::us ++ ds).length=ps.length:=by
  have e:=r2.length;rw[F.len _ _ _ _ hq]at e;exact e.symm
 refine tK (Ka (f:=f) I.kIn M.makes M.init (beq_iff_eq.mp M.fn) (tM (F.run _ X.stack _ _ #[Value.ref (s⁻¹+1)::us,[]] (Value.ref (s⁻¹+1)::(us ++ ds)) _ _ E (hr.make C us [])
  (I2.env0.make C us []) (hb _ (Value.ref (s⁻¹+1)::us) I2.kIn hl) r2 hq) λr s' hq'=>?_))
 cases r with
 | error e=>exact hx Bb σ _ _ e s' I2 hq'
 | ok fl =>
  cases fl with
  | ret u =>
   obtain⟨v,H',I3,rv,ev,q3⟩:=I2.after hq';subst ev;exact#[rv,#[V.ref (s⁻¹+1),H',I3,rfl,q3]]
  | next=>exact False.elim hq'
  | brk=>exact False.elim hq'
  | cont=>exact False.elim hq'
theorem UU(M:Mk X.K C f)(F:zQ X.prog X.w X.K X.mg X.base CX k f fd ps sp)(hr:Room (k+1) X.A)(hg:Gl X x)(hm:X.mg x=AX (.ref C))(hb:Binds X.K fd ps ds)(hd:Vals dvs ds)(hx:qc CX X E)
  (ha:PA X (e::es) t) (hdb:(x ==("__debug__" : sB))=Ba:=by decide) (he:sj (e::es) X.env=(Ba,eval e X.env)::sj es X.env:=by rfl) (hpl:(sN pos (sj es X.env)).any (·.1)=Ba:=by rfl) :
  PE X (.Call (.Name x p) (e::es) [] pos) (Jn C sp dvs E t):=by
 intro Bb s σ H Q I h;refine sU (vL I hg hm ?_ hdb);refine bN (h₀:=X.base) I.ok.mod.kin M.kp (thn (ha pos Bb s σ H _ I h) λus s1 ⟨vs,H1,I1,r,q⟩=>#[I1.kIn,?_]) he hpl;exact JD M F hr hb hd hx I1 r q
end
def PK(X:Cx)(kws:List AQ)(t:TA):Prop :=
 ∀(pos:tG) (Bb:List (sq × sX)) (s:su) (σ:St) (H:Hp) (Q:List V->Hp->Prop),Inv X Bb σ H s->t σ H Q->sw (model X.prog X.w) X.A (evalAll ((tj pos (sL kws X.env)).map (·.2))) (AP X Bb σ Q) X.xe s
section
variable{X:Cx}{CX:CXT}{k:Nat}{f C:sq}{fd:sv}{ps ks:List sB}{sp:Sp}{E:XK}{x m:sB}{p pos apos kpos:tG}{e o:sF}{es:List sF}{kws:List AQ}{te ta:TE}{t tk:TA}{nm:Option sB}
theorem zad:PK X [] xH:=λ_ _ _ _ H Q I h=>wpAny_evalAll_nil #[[],H,I,.nil,h]
theorem Qm(ha:PE X e te)(hr:PK X kws t):PK X (#[nm,e,kpos]::kws) (zM te t):=by
 intro pos Bb s σ H Q I h;show sw _ _ (evalAll ((do let v <- eval e X.env;standAt pos;pure v)::(tj pos (sL kws X.env)).map (·.2))) _ _ s;refine wpAny_evalAll_cons (rZ (thn (ha Bb s σ H _ I h) λu s1 ⟨x,H1,I1,r1,q1⟩=>rZ (tD (sf ?_))));exact thn (hr pos Bb s1 σ H1 _ I1 q1) λus s2 ⟨xs,H2,I2,r2,q2⟩=>#[x::xs,H2,I2,.cons r1 r2,q2]
variable{g:List sr->List sr->List sr}{gV:List V->List V->List V}
end
structure zk(N P:List sB)(sc:tw):Prop where
 kind:sc.kind=.function
 co:sc.isCoroutine=Ba
 gen:sc.isGenerator=Ba
 nd:N.Nodup
 pre:N.take P.length=P
 par:∀x ∈ P,sc.names.lookup x=AX .local\/sc.names.lookup x=AX .cell
 nofree:∀y ∈ sc.names,y.2≠.free
theorem Ys{kindOf:sB->Option tY}{x:sB}:∀{binds:List (sB × sr)} {m:sB->Option sr},(∀v,(x,v) ∉ binds)->bindL kindOf binds m x=m x
  | [],_,_=>rfl
  | (n,v)::r,m,h=>by
    unfold bindL;rw[Ys λw hw=>h w (am _ hw)];split
    . have:x≠n:=by rintro rfl;exact h v ax
      simp [this]
    . rfl
theorem Yj{kindOf:sB->Option tY}{x:sB}:∀{binds:List (sB × sr)} {m:sB->Option sr},(∀v,(x,v) ∉ binds)->bindC kindOf binds m x=m x
  | [],_,_=>rfl
  | (n,v)::r,m,h=>by
    unfold bindC;rw[Yj λw hw=>h w (am _ hw)];split
    . rfl
    . have:x≠n:=by rintro rfl;exact h v ax
      simp [this]
theorem Yi{kindOf:sB->Option tY}{x:sB}{v:sr}:∀{P:List sB} {vs:List sr} {i:Nat} {m:sB->Option sr},P.Nodup->P[i]? = AX x->vs[i]? = AX v->kindOf x=AX .local ->
  bindL kindOf (P.zip vs) m x=AX v
 | [],_,_,_,_,h,_,_=>by simp at h
 | _::_,[],_,_,_,_,h,_=>by simp at h
 | p::P,w::vs,0,m,nd,h1,h2,hk=>by
  simp at h1 h2;subst h1;subst h2;show bindL kindOf ((p,w)::P.zip vs) m p=_;unfold bindL;rw[Ys λv hv=>(Bq.mp nd).1 (da hv).1,if_pos hk];simp
 | p::P,w::vs,i+1,m,nd,h1,h2,hk=>by
  show bindL kindOf ((p,w)::P.zip vs) m x=_;unfold bindL;exact Yi (i:=i) (Bq.mp nd).2 (by simpa using h1) (by simpa using h2) hk
theorem YC{kindOf:sB->Option tY}{x:sB}{v:sr}:∀{P:List sB} {vs:List sr} {i:Nat} {m:sB->Option sr},P.Nodup->P[i]? = AX x->vs[i]? = AX v->kindOf x≠AX .local ->
  bindC kindOf (P.zip vs) m x=AX v
 | [],_,_,_,_,h,_,_=>by simp at h
 | _::_,[],_,_,_,_,h,_=>by simp at h
 | p::P,w::vs,0,m,nd,h1,h2,hk=>by
  simp at h1 h2;subst h1;subst h2;show bindC kindOf ((p,w)::P.zip vs) m p=_;unfold bindC;rw[Yj λv hv=>(Bq.mp nd).1 (da hv).1,if_neg hk];simp
 | p::P,w::vs,i+1,m,nd,h1,h2,hk=>by
  show bindC kindOf ((p,w)::P.zip vs) m x=_;unfold bindC;exact YC (i:=i) (Bq.mp nd).2 (by simpa using h1) (by simpa using h2) hk
noncomputable def start(N:List sB)(vs:List V):St:=vs.map AX ++ aW (N.length - vs.length) AY
noncomputable def qz(CX:CXT)(P:sy)(w:sC)(K:so)(mg:sB->Option sr)(base:sI)(N:List sB)(qual:sB)(scope:tw)(f:sq)(cd:sr)(A:sE)(outer:List Al)(s:su)(H:Hp)(E:XK):Cx where
 prog:=P
 w:=w
 K:=K
 mg:=mg
 base:=base
 A:=A.deeper (tZ qual scope s⁻¹ f cd)
 N:=N
 s₀:=s
 H₀:=H
 env:=tZ qual scope s⁻¹ f cd
 outer:=outer
 stack:=tZ qual scope s⁻¹ f cd::outer
 ex:=[]
 calm:=AZ
 fn:=λ_=>AZ
 pn:=[]
 xe:=λe s'=>sw (model P w) (A.deeper (tZ qual scope s⁻¹ f cd)) (leaving (tZ qual scope s⁻¹ f cd) e) (λ_ s''=>CX outer H s E e s'') (λe' s''=>CX outer H s E e' s'') s'
theorem WK{sc:tw}{n:Nat}{x:sB}(h:sc.names.lookup x=AX .cell):∃c,(cellsFrom n sc.names []).lookup x=AX c:=by
 have q:=eY sc.names n [] (.inl h);exact Bs.mp q
theorem U9{CX:CXT}{P:sy}{w:sC}{K:so}{mg:sB->Option sr}{base:sI}{N ps:List sB}{qual:sB}{scope:tw}{f:sq}{cd:sr}{A:sE}{outer:List Al}{s s1:su}{H:Hp}{E:XK}{us:List sr}{vs:List V}
  (S:zk N ps scope) (hd:A.handled=AY) (e0:Env0 P w K mg base A outer s H) (hl:vs.length=ps.length) (r:Vals vs us)
  (x:InCallC s s⁻¹ (bindL (tZ qual scope s⁻¹ f cd).kindOf (ps.zip us) λ_=>AY) (cellsFrom (s⁻¹+1) scope.names []) (bindC (tZ qual scope s⁻¹ f cd).kindOf (ps.zip us) λ_=>AY) s1) :
  Inv (qz CX P w K mg base N qual scope f cd A outer s H E) [] (start N vs) H s1:=by
 have hpl:ps.length<=N.length:=by have:=congrArg fP S.pre;rw[aG]at this;lia
 obtain⟨h1,tk,rfl,hk⟩:=x.done;have noA:∀b:sq,b ∉ (qz CX P w K mg base N qual scope f cd A outer s H E).ex:=λb z=>absurd (show b ∈ ([]:List sq)from z) (by simp)
 refine#[#[e0.mod,S.kind,rfl,rfl,al _,λy z c h1 h2=>?_,λy hy=>?_,λy c _ h=>?_,λ_=>hd,Around.frames_deeper e0.frames,.inr #[rfl,rfl],λb z=>absurd z (noA b),e0.bs,e0.bsz,λb _ _=>noA b,λb z=>absurd z (noA b),e0.funs,e0.frf],
  rfl,e0.bare,Un.kept hk,#[_,x.toInCall.ns,λi y v h1 h2 h3=>?_],λy c h=>#[_,x.cell y c h],e0.hok.fresh (al _),λy c h=>?_,λp hp=>absurd (show p ∈ ([]:List (sq × sX))from hp) (by simp),e0.hok.kept hk,?_]
 ·exact name_of_addr x.apart (bV h1) (bV h2)
 ·have hy:scope.names.lookup y=AX .cell\/scope.names.lookup y=AX .free:=hy;rcases hy with hy | hy
  ·exact WK hy
  ·exact absurd rfl (S.nofree _ (bV hy))
 ·exact de (x.above y c (bV h))
 ·have hi:i<vs.length:=by
   unfold start at h2;by_cases hi:i<vs.length
   ·exact hi
   ·rw[bA (by simpa using hi)]at h2;rw[eR]at h2;split at h2 <;> cases h2
  have ha:vs[i]? = AX v:=by
   unfold start at h2;rw[bB (by simpa using hi),aq]at h2
   cases e:vs[i]? with
   | none=>rw[e]at h2;cases h2
   | some a=>rw[e]at h2;cases h2;rfl
  obtain⟨u,hu,rv⟩:=r.get ha
  have hp:ps[i]? = AX y:=by
   rw[<- S.pre,bt ⋯];exact h1
  have ndP:ps.Nodup:=by rw[<- S.pre];exact S.nd.sublist (List.take_sublist _ _)
  refine#[u,rv,?_];rcases S.par y (ag hp)with k | k
  ·exact .inl #[k,Yi ndP hp hu k]
  ·obtain⟨c,e⟩:=WK (n:=s⁻¹+1) k;refine .inr #[.inl k,c,e,?_];have q:=x.cell y c e;rw[YC ndP hp hu (by show scope.names.lookup y≠_;rw[k];decide)]at q;exact q
 ·exact e0.hok.fresh (de (x.above y c (bV h)))
 ·unfold start;show _=N.length;rw[aj,ae,cb];lia
theorem JE{CX:CXT}{P:sy}{w:sC}{K:so}{mg:sB->Option sr}{base:sI}{k:Nat}{f:sq}{name qual:sB}{params:tR}{body:List sJ}{scope:tw}{dV kV doc pm cdv ct oc:sr}{an od:Option sq}
  {osl:Array (Option sr)} {N ps:List sB} {sp:Sp} (lk:K.lookup f=AX #[oc,od,.func (bu name qual params body scope dV kV doc pm an cdv ct),osl]) (hcd:bR K cdv qual=AZ) (S:zk N ps scope)
  (len:∀vs H Q E,sp vs H Q E->vs.length=ps.length)
  (hbody:∀(A:sE) (outer:List Al) (s:su) (H:Hp) (vs:List V) (Q:VK) (E:XK),Room k (A.deeper (tZ qual scope s⁻¹ f cdv))->sp vs H Q E ->
   ∃t,PSs (qz CX P w K mg base N qual scope f cdv A outer s H E) body t/\t { nx:=λ_ H'=>Q .non H',rt:=Q } (start N vs) H) :
  zQ P w K mg base CX (k+1) f (bu name qual params body scope dV kV doc pm an cdv ct) ps sp:=by
 refine#[len,λA outer s H args us vs Q E hr e0 hb r hsp=>?_];have hl:=len _ _ _ _ hsp;have KX:K.In s.heap:=e0.mod.kin.keeps λb o e=>(e0.bs b o e).1;have lim:s.heap.NoLimit:=e0.mod.nolimit.keeps λb o e=>(e0.bs b o e).1
 have hkind:∀y ∈ ps.zip us,scope.names.lookup y.1=AX .local\/(scope.names.lookup y.1=AX .cell/\((cellsFrom (s⁻¹+1) scope.names []).lookup y.1).isSome=AZ):=λ⟨n,v⟩ hy=>by
  rcases S.par n (da hy).1 with q | q
  ·exact .inl q
  ·exact .inr #[q,eY _ _ _ (.inl q)]
 refine codeAny_call_function hr.depth (KX _ _ lk) rfl S.co S.gen rfl (PySem.W.codeRec_of KX hcd) (hb _ _ _ _ ?_);refine wpAny_newFunctionEnv_cells S.kind hkind λenv he s1 x=>?_;subst he;refine#[lim.keeps x.toInCall.keep,codeAny_func ?_];obtain⟨t,ht,hq⟩:=hbody A outer s H vs Q E (hr.deeper _) hsp;have I:Inv (qz CX P w K mg base N qual scope f cdv A outer s H E) [] (start N vs) H s1:=U9 S hr.hd e0 hl r x;refine tJ (ht [] s1 (start N vs) H _ I hq) (λfl s' hs=>?_) λe s' hs=>hs
 have fin:∀{σ':St} {H':Hp} {v:V} {u:sr},Inv (qz CX P w K mg base N qual scope f cdv A outer s H E) [] σ' H' s'->RelV v u->Q v H'->CE outer P w H s Q u s' :=
  λ{σ' H' v u} J rv q=>#[v,H',J.os,J.bare,J.base,J.hok,rv,q]
 cases fl with
 | ret u =>
  obtain⟨v,σ',H',J,rv,q⟩:=hs;exact fin J rv q
 | next =>
  obtain⟨σ',H',J,q⟩:=hs;exact fin (v:=V.non) (u:=Value.none) J rfl q
 | brk =>
  obtain⟨_,_,_,q⟩:=hs;exact False.elim q
 | cont =>
  obtain⟨_,_,_,q⟩:=hs;exact False.elim q
section
variable{X:Cx}{x:sB}{p pos:tG}{e:sF}{es:List sF}{t:TA}{id T:String}{r:List V->Hp->VK->Prop}
def tCB(r:List V->Hp->VK->Prop)(t:TA):TE:=λσ H Q=>t σ H λvs H1=>r vs H1 Q
theorem xC(hc:vQ X (.builtin id) r)(hg:Gl X x)(hm:X.mg x=AY)(hv:sZ x=AX (.builtin id))(ha:PA X (e::es) t)(hn:x≠"__name__":=by decide)(hdb:(x ==("__debug__" : sB))=Ba:=by decide)
  (he:sj (e::es) X.env=(Ba,eval e X.env)::sj es X.env:=by rfl) (hpl:(sN pos (sj es X.env)).any (·.1)=Ba:=by rfl):PE X (.Call (.Name x p) (e::es) [] pos) (tCB r t):=by
 intro Bb s σ H Q I h;refine sU (wT I hg hm hv ?_ hn hdb);exact PyProof.Rows.callWith_builtin1 (thn (ha pos Bb s σ H _ I h) λus s1 ⟨vs,H1,I1,r1,q1⟩=>hc Bb s1 σ H1 vs us Q I1 r1 q1) he hpl
theorem xn(hc:vQ X (.type T) r)(hg:Gl X x)(hm:X.mg x=AY)(hv:sZ x=AX (.type T))(ha:PA X (e::es) t)(hn:x≠"__name__":=by decide)(hdb:(x ==("__debug__" : sB))=Ba:=by decide)
  (he:sj (e::es) X.env=(Ba,eval e X.env)::sj es X.env:=by rfl) (hpl:(sN pos (sj es X.env)).any (·.1)=Ba:=by rfl):PE X (.Call (.Name x p) (e::es) [] pos) (tCB r t):=by
 intro Bb s σ H Q I h;refine sU (wT I hg hm hv ?_ hn hdb);exact bw (thn (ha pos Bb s σ H _ I h) λus s1 ⟨vs,H1,I1,r1,q1⟩=>hc Bb s1 σ H1 vs us Q I1 r1 q1) he hpl
end
end L2
namespace HT
open PySem PyProof.Rows
section
open PySem.SeqAt
open PySem.AutoSeq1 (wpAny_loadPart')
open PySem.MeetsSeq PySem.MeetsSeq2 PySem.MeetsSeq3
end
section
variable{prog:sy}{w:sC}{A:sE}{E:sr->su->Prop}{s:su}
noncomputable def sIx(n d:Nat):Option Int->Nat
 | none=>d
 | some v=>if v<0 then (v+(n:Int)).toNat else min v.toNat n
theorem sIx_none(n d:Nat):sIx n d AY=d:=rfl
theorem sIx_nat(n d k:Nat):sIx n d (AX (k:Int))=min k n:=by
 show (if (k:Int)<0 then ((k:Int)+(n:Int)).toNat else min (k:Int).toNat n)=min k n;rw[if_neg ⋯,aH]
theorem sIx_le(n d:Nat)(hd:d<=n)(o:Option Int):sIx n d o<=n:=by
 cases o with
 | none=>exact hd
 | some v =>
  show (if v<0 then (v+(n:Int)).toNat else min v.toNat n)<=n;by_cases hv:v<0
  ·rw[if_pos hv];lia
  ·rw[if_neg hv];exact Nat.min_le_right _ _
end
end HT
namespace L2
noncomputable abbrev TO:=St->Hp->(Option Int->Hp->Prop)->Prop
def PO(X:Cx)(e:Option sF)(t:TO):Prop :=
 ∀(Bb:List (sq × sX)) (s:su) (σ:St) (H:Hp) (Q:Option Int->Hp->Prop),Inv X Bb σ H s->t σ H Q ->
  sw (model X.prog X.w) X.A (evalPart e X.env) (λu s'=>∃o H',Inv X Bb σ H' s'/\IsPart u o/\Q o H') X.xe s
def ZD:TO:=λ_ H Q=>Q AY H
def Yg(t:TE):TO:=λσ H Q=>t σ H λx H1=>onInt x λi=>Q (AX i) H1
section
variable{X:Cx}{e:sF}{te:TE}{lo hi:Option sF}{tl th:TO}{pos p2:tG}
theorem xJ:PO X AY ZD:=by
 intro Bb s σ H Q I h;rw[evalPart_none];exact sf #[AY,H,I,.none,h]
theorem zY(h:PE X e te):PO X (AX e) (Yg te):=by
 intro Bb s σ H Q I hw;rw[evalPart_some];refine thn (h Bb s σ H _ I hw) λu s1 ⟨x,H1,I1,r1,q1⟩=>?_;obtain⟨i,rfl,q⟩:=onInt.of q1;obtain⟨t,rfl⟩:=r1;exact#[AX i,H1,I1,.int i t,q]
def SlR(X:Cx)(r:V->Option Int->Option Int->Hp->VK->Prop):Prop :=
 ∀(Bb:List (sq × sX)) (s:su) (σ:St) (H:Hp) (x:V) (v vl vu:sr) (lo hi:Option Int) (sl:sq) (Q:VK),Inv X Bb σ H s->RelV x v->s.heap.IsSliceOf sl vl vu .none->IsPart vl lo->IsPart vu hi->r x lo hi H Q ->
  ∃T id,typeLookup (.type T) "__getitem__" = pure (AX (.builtin id))/\s.TypeIs v T/\sw (model X.prog X.w) X.A (getItem v (.ref sl)) (EP X Bb σ Q) X.xe s
def tSl(r:V->Option Int->Option Int->Hp->VK->Prop)(te:TE)(tl th:TO):TE:=λσ H Q=>te σ H λx H1=>tl σ H1 λl H2=>th σ H2 λu H3=>r x l u H3 Q
theorem ya{r:V->Option Int->Option Int->Hp->VK->Prop}(hr:SlR X r)(he:PE X e te)(hl:PO X lo tl)(hu:PO X hi th):PE X (.Subscript e (.Slice lo hi AY p2) pos) (tSl r te tl th):=by
 intro Bb s σ H Q I h;refine AS (thn (he Bb s σ H _ I h) λv s1 ⟨x,H1,I1,r1,q1⟩=>?_);refine wpAny_Slice (thn (hl Bb s1 σ H1 _ I1 q1) λvl s2 ⟨l,H2,I2,pl,q2⟩=>thn (hu Bb s2 σ H2 _ I2 q2) λvu s3 ⟨u,H3,I3,pu,q3⟩=>?_);rw[evalPart_none];refine sf ?_;have I4:Inv X Bb σ H3 { s3 with heap:=s3.heap.push { cls:=.type "slice",data:=.fields (List.toArray [vl,vu,.none]) } }:=I3.kept (t':=s3.toks) λb ob q=>ac _ q;obtain⟨T,id,hT,ht,hg⟩:=hr Bb { s3 with heap:=s3.heap.push { cls:=.type "slice",data:=.fields (List.toArray [vl,vu,.none]) } } σ H3 x v vl vu l u s3⁻¹ Q I4 r1 (Heap.IsSliceOf.new ..) pl pu q3;show sw (model X.prog X.w) X.A (Ay e (.Slice lo hi AY p2) v (.ref s3⁻¹)) (EP X Bb σ Q) X.xe { s3 with heap:=s3.heap.push { cls:=.type "slice",data:=.fields (List.toArray [vl,vu,.none]) } };exact tail_any (ops:=[.ref s3⁻¹,v]) ht hT hg (by with_unfolding_all rfl)
noncomputable def JH(xs:List V)(lo hi:Option Int):List V:=(xs.drop (HT.sIx xs.length 0 lo)).take (HT.sIx xs.length xs.length hi - HT.sIx xs.length 0 lo)
theorem XA(xs:List V)(lo hi:Option Int):(JH xs lo hi).length<=xs.length:=by
 unfold JH;rw[aG,bi];lia
end
noncomputable def ixN(n:Nat)(i:Int):Option Nat:=if 0<=i then (if i<n then AX i.toNat else AY)else if -(n:Int)<=i then AX (i+n).toNat else AY
noncomputable def atI{α:Type}(xs:List α)(i:Int):Option α:=(ixN xs.length i).bind λj=>xs[j]?
theorem zbp{n:Nat}{i:Int}{j:Nat}(h:ixN n i=AX j):seqIndex? i n=AX j/\j<n/\-(n:Int)<=i/\i<n:=by
 unfold ixN at h;by_cases h0:0<=i
 ·rw[if_pos h0]at h;by_cases h1:i<n
  ·rw[if_pos h1]at h;have e:i.toNat=j:=Option.some.inj h;exact#[by rw[seqIndex_of h0 h1,e],⋯,⋯,h1]
  ·rw[if_neg h1]at h;cases h
 ·rw[if_neg h0]at h;by_cases h1:-(n:Int)<=i
  ·rw[if_pos h1]at h;have e:(i+n).toNat=j:=Option.some.inj h;exact#[by rw[seqIndex_neg ⋯ h1,e],⋯,h1,⋯]
  ·rw[if_neg h1]at h;cases h
theorem Xw{α:Type}{xs:List α}{i:Int}{v:α}(h:atI xs i=AX v):∃j,seqIndex? i xs.length=AX j/\xs[j]? = AX v/\j<xs.length/\-(xs.length:Int)<=i/\i<xs.length:=by
 unfold atI at h
 cases e:ixN xs.length i with
 | none=>rw[e]at h;cases h
 | some j =>
  rw[e]at h;obtain⟨h1,h2,h3,h4⟩:=zbp e;exact#[j,h1,h,h2,h3,h4]
theorem vM{α:Type}{xs:List α}{j:Nat}{v:α}(h:xs[j]? = AX v):atI xs (j:Int)=AX v:=by
 have hj:j<xs.length:=(Be.mp h).1
 have e:ixN xs.length (j:Int)=AX j:=by
  unfold ixN;rw[if_pos ⋯,if_pos ⋯];simp
 unfold atI;rw[e];exact h
def U6(b:sF):Prop:=∀o i,subscripted b Ba o i=operate [o,i] (getItem o i)
def IxR(X:Cx)(r:R2):Prop :=
 ∀(value slice:sF) (Bb:List (sq × sX)) (s:su) (σ:St) (H:Hp) (x y:V) (v u:sr) (Q:VK),Inv X Bb σ H s->RelV x v->RelV y u->r x y H Q ->
  subscripted slice Ba v u=operate [v,u] (getItem v u)->sw (model X.prog X.w) X.A (Ay value slice v u) (EP X Bb σ Q) X.xe s
def MtR(X:Cx)(id:String)(r:V->List V->Hp->VK->Prop):Prop :=
 ∀(Bb:List (sq × sX)) (s:su) (σ:St) (H:Hp) (x:V) (xs:List V) (v:sr) (us:List sr) (Q:VK),Inv X Bb σ H s->RelV x v->Vals xs us->r x xs H Q ->
  sw (model X.prog X.w) X.A (call (.builtin id) (v::us)) (EP X Bb σ Q) X.xe s
section
variable{X:Cx}{a b:sF}{ta tb:TE}{pos:tG}
theorem IxR.or{r r':R2}(h:IxR X r)(h':IxR X r'):IxR X (λx y H Q=>r x y H Q\/r' x y H Q):=by
 intro value slice Bb s σ H x y v u Q I rx ry q hs;rcases q with q | q
 ·exact h value slice Bb s σ H x y v u Q I rx ry q hs
 ·exact h' value slice Bb s σ H x y v u Q I rx ry q hs
theorem zfg{r:R2}(hr:IxR X r)(ha:PE X a ta)(hb:PE X b tb)(hs:U6 b):PE X (.Subscript a b pos) (tOp r ta tb):=by
 intro Bb s σ H Q I h;exact AS (zfG ha hb I h λv u s2 x y H2 I2 rx ry q=>hr a b Bb s2 σ H2 x y v u Q I2 rx ry q (hs _ _))
def zdb(K:so):R2:=λx y H Q=>onRef x λp=>onInt y λi=>∃xs,SqL K H p xs/\∃v,atI xs i=AX v/\Q v H
def jD(K:so):R2:=λx y H Q=>onRef x λp=>onInt y λi=>∃xs,SqT K H p xs/\∃v,atI xs i=AX v/\Q v H
def zbO:R2:=λx y H Q=>onStr x λz=>onInt y λi=>z.length<=sk/\∃c,atI z.cps.toList i=AX c/\Q (.str ⟨#[c]⟩) H
theorem ix_list:IxR X (zdb X.K):=by
 intro value slice Bb s σ H x y v u Q I rx ry h hs;obtain⟨p,rfl,h2⟩:=onRef.of h;obtain⟨i,rfl,xs,hq,z,he,q⟩:=onInt.of h2;cases rx;obtain⟨t,rfl⟩:=ry;obtain⟨its,r,pl,hz⟩:=I.list hq;obtain⟨j,h1,h2,h3,h4,h5⟩:=Xw he;obtain⟨w,ew,rw'⟩:=r.get h2;have hl:=r.length;have hn:=Yt;have fin:EP X Bb σ Q w s:=#[z,H,I,rw',q];by_cases h0:0<=i
 ·have hj:i.toNat=j:=by
   rw[seqIndex_of h0 h5]at h1;exact Option.some.inj h1
  exact item_listR pl.isList h0 ⋯ (by rw[hj];simpa using ew) fin hs
 ·have hj:(i+(its.toArray.size:Int)).toNat=j:=by
   rw[seqIndex_neg ⋯ h4]at h1;rw[ak,<- hl];exact Option.some.inj h1
  exact Aj (x:=w) pl.isList.typeIs slot_list_getitem.lookup
   (wpAny_getItem_list_neg (Q:=λr s'=>r=w/\EP X Bb σ Q r s') pl.isList ⋯ (by rw[ak] <;> lia) ⋯ (by rw[hj];simpa using ew) #[rfl,fin]) hs
theorem ix_tup:IxR X (jD X.K):=by
 intro value slice Bb s σ H x y v u Q I rx ry h hs;obtain⟨p,rfl,h2⟩:=onRef.of h;obtain⟨i,rfl,xs,hq,z,he,q⟩:=onInt.of h2;cases rx;obtain⟨t,rfl⟩:=ry;obtain⟨its,r,pl,hz⟩:=I.tuple hq;obtain⟨j,h1,h2,h3,h4,h5⟩:=Xw he;obtain⟨w,ew,rw'⟩:=r.get h2;have hl:=r.length;have hn:=Yt;have fin:EP X Bb σ Q w s:=#[z,H,I,rw',q]
 exact Aj (x:=w) pl.typeIs slot_tuple_getitem.lookup
  (getItem_tuple (j:=j) (Q:=λr s'=>r=w/\EP X Bb σ Q r s') pl ⋯ ⋯ (by rw[ak,<- hl];exact h1) (by simpa using ew) #[rfl,fin]) hs
theorem QT:IxR X zbO:=by
 intro value slice Bb s σ H x y v u Q I rx ry h hs;obtain⟨z,rfl,h2⟩:=onStr.of h;obtain⟨i,rfl,hz,c,he,q⟩:=onInt.of h2;obtain⟨t,rfl⟩:=rx;obtain⟨t',rfl⟩:=ry;obtain⟨j,h1,h2,h3,h4,h5⟩:=Xw he;have hl:z.cps.toList.length=z.length:=by simp [Str.length]
 rw[hl]at h1 h4 h5;have hn:=Yt
 exact tail_any (typeIs_str s z t) slot_str_getitem.lookup (getItem_str (c:=c) (by
  have e1:decide (i < -(2 ^ 63:Int))=Ba:=decide_eq_false ⋯;have e2:decide (i ≥ 2 ^ 63)=Ba:=decide_eq_false ⋯
  rw[e1,e2,Bool.or_false]) (by rw[h1];simpa using h2) #[.str ⟨#[c]⟩,H,I.tok _,#[_,rfl],q]) hs
def rIx(K:so):R2:=λx y H Q=>match x with | .ref p=>onInt y λi=>(∃xs,SqL K H p xs/\∃v,atI xs i=AX v/\Q v H)\/∃xs,SqT K H p xs/\∃v,atI xs i=AX v/\Q v H | .str z=>zbO (.str z) y H Q | _=>False
theorem rIx.of{K:so}{x y:V}{H:Hp}{Q:VK}(h:rIx K x y H Q):zdb K x y H Q\/jD K x y H Q\/zbO x y H Q:=by
 unfold rIx at h;cases x <;> first | exact .inr (.inr h) | (obtain⟨i,rfl,h⟩:=onInt.of h;exact h.elim .inl λh=>.inr (.inl h)) | exact h.elim
theorem za3:IxR X (rIx X.K):=λa b Bb s σ H x y v u Q I rx ry h hs=>(ix_list.or (ix_tup.or QT)) a b Bb s σ H x y v u Q I rx ry h.of hs
theorem Inv.lst{Bb:List (sq × sX)}{σ:St}{H:Hp}{s:su}{p:sq}{xs:List V}(I:Inv X Bb σ H s)(h:H p=AX (.lst xs)) :
  ∃(its:List sr) (n:Nat),Vals xs its/\s.heap.get? p=AX { cls:=.type "list",data:=.seq its.toArray n }/\xs.length<=sk:=by
 obtain⟨z,its,n,r,e⟩:=I.hok p _ h;exact#[its,n,r,e,z]
theorem Z8(lo hi:Option Int)(n:Nat):(sliceBounds lo hi AY n).1=((HT.sIx n 0 lo:Nat):Int)/\(sliceBounds lo hi AY n).2.1=((HT.sIx n n hi:Nat):Int)/\(sliceBounds lo hi AY n).2.2=1:=by
 refine#[?_,?_,rfl]
 ·cases lo with
  | none=>simp [sliceBounds,HT.sIx]
  | some i =>
   erw[sliceBounds,HT.sIx,fS,show (1:Int) > 0 by decide,if_true]
   by_cases h:i<0
   ·erw[h,if_true] <;> lia
   ·erw[h,if_false] <;> lia
 ·cases hi with
  | none=>simp [sliceBounds,HT.sIx]
  | some i =>
   erw[sliceBounds,HT.sIx,fS,show (1:Int) > 0 by decide,if_true]
   by_cases h:i<0
   ·erw[h,if_true] <;> lia
   ·erw[h,if_false] <;> lia
theorem Zr(its:List sr)(lo hi:Option Int):slicePick its.toArray lo hi AY=((its.drop (HT.sIx its.length 0 lo)).take (HT.sIx its.length its.length hi - HT.sIx its.length 0 lo)).toArray:=by
 obtain⟨h1,h2,h3⟩:=Z8 lo hi its.toArray.size;unfold slicePick;rw[h1,h2,h3]
 erw[sliceRange_one,pick_run,ak] <;> rfl
def zd0(K:so):V->Option Int->Option Int->Hp->VK->Prop:=λx lo hi H Q=>onRef x λa=>∃xs,SqL K H a xs/\∀p,H p=AY->Q (.ref p) (upd H p (.lst (JH xs lo hi)))
theorem Y3:SlR X (zd0 X.K):=by
 intro Bb s σ H x v vl vu lo hi sl Q I rx hs pl pu h;obtain⟨a,rfl,xs,hx,q⟩:=onRef.of h;cases rx;obtain⟨its,r,ht,hz⟩:=I.list hx;have hlen:=r.length;refine#["list",_,slot_list_getitem.lookup,ht.isList.typeIs,?_];refine wpAny_getItem_list_slice ht.isList hs pl pu .none (by simp) ?_ (by rw[ak] <;> lia);rw[Zr,<- hlen];refine#[.ref s⁻¹,_,I.laid (t':=s.toks) (o:=.lst (JH xs lo hi)) (λb ob q=>ac _ q) (al _) ?_,rfl,q _ (I.hok.fresh (al _))];exact#[aM (XA xs lo hi) hz,_,0,(r.drop (HT.sIx xs.length 0 lo)).take (HT.sIx xs.length xs.length hi - HT.sIx xs.length 0 lo),aB _ rfl]
noncomputable def zcU:V->Bool
 | .non=>AZ
 | .bl _=>AZ
 | .int _=>AZ
 | .str _=>AZ
 | _=>Ba
noncomputable def eqV:V->V->Bool
 | .non,.non=>AZ
 | .bl a,.bl b=>a == b
 | .bl a,.int b=>(if a then 1 else 0) == b
 | .int a,.bl b=>a ==(if b then 1 else 0)
 | .int a,.int b=>a == b
 | .str a,.str b=>a == b
 | _,_=>Ba
theorem WC{A:sE}{s:su}{y x:V}{u v:sr}(ry:RelV y u)(rx:RelV x v)(fy:zcU y=AZ)(fx:zcU x=AZ):SeqAt.EqAt A s u v (eqV y x):=by
 cases y with
 | non =>
  cases ry
  cases x with
  | non=>cases rx;exact SeqAt.EqAt.same _
  | bl b=>cases rx;exact SeqAt.EqAt.none_bool b
  | int b=>obtain⟨t,rfl⟩:=rx;exact SeqAt.EqAt.none_int b t
  | str b=>obtain⟨t,rfl⟩:=rx;exact SeqAt.EqAt.none_str b t
  | _=>exact absurd (show Ba=AZ from fx) az
 | bl a =>
  cases ry
  cases x with
  | non=>cases rx;exact SeqAt.EqAt.bool_none a
  | bl b=>cases rx;exact SeqAt.EqAt.bool_bool a b
  | int b=>obtain⟨t,rfl⟩:=rx;exact SeqAt.EqAt.bool_int a b t
  | str b=>obtain⟨t,rfl⟩:=rx;exact SeqAt.EqAt.bool_str a b t
  | _=>exact absurd (show Ba=AZ from fx) az
 | int a =>
  obtain⟨t',rfl⟩:=ry
  cases x with
  | non=>cases rx;exact SeqAt.EqAt.int_none a t'
  | bl b=>cases rx;exact SeqAt.EqAt.int_bool a t' b
  | int b=>obtain⟨t,rfl⟩:=rx;exact SeqAt.EqAt.int_int a t' b t
  | str b=>obtain⟨t,rfl⟩:=rx;exact SeqAt.EqAt.int_str a t' b t
  | _=>exact absurd (show Ba=AZ from fx) az
 | str a =>
  obtain⟨t',rfl⟩:=ry
  cases x with
  | non=>cases rx;exact SeqAt.EqAt.str_none a t'
  | bl b=>cases rx;exact SeqAt.EqAt.str_bool a t' b
  | int b=>obtain⟨t,rfl⟩:=rx;exact SeqAt.EqAt.str_int a t' b t
  | str b=>obtain⟨t,rfl⟩:=rx;exact SeqAt.EqAt.str_str a t' b t
  | _=>exact absurd (show Ba=AZ from fx) az
 | _=>exact absurd (show Ba=AZ from fy) az
theorem yW:vQ X (.type "list") (λxs H Q=>∃p ys,xs=[.ref p]/\(SqL X.K H p ys\/SqT X.K H p ys)/\∀l,H l=AY->Q (.ref l) (upd H l (.lst ys))):=by
 intro Bb s σ H xs us Q I r h;obtain⟨p,ys,rfl,hq,q⟩:=h;obtain⟨u,rfl,rx⟩:=wB r;cases rx
 have fin:∀(its:List sr),Vals ys its->ys.length<=sk->∀(h':sI) (c':Nat),(∀b o',s.heap.get? b=AX o'->h'.get? b=AX o') ->
   h'.get? s⁻¹=AX { cls:=.type "list",dict:=AY,data:=.seq its.toArray c',slots:=#[] }->EP X Bb σ Q (.ref s⁻¹) { s with heap:=h' }:=λits r' hz h' c' kp e =>
  #[.ref s⁻¹,_,I.laid (t':=s.toks) kp (al _) (show ObjOk X.prog X.w _ h' _ (.lst ys)from #[hz,its,c',r',e]),rfl,q _ (I.hok.fresh (al _))]
 rcases hq with hq | hq
 ·obtain⟨its,r',pl,hz⟩:=I.list hq;have hlen:=r'.length;obtain⟨o,ho,hc,n,hd⟩:=pl.isList;exact call_list_seq p (.inl rfl) ho hc hd (λh' c' kp e=>fin its r' hz h' c' kp e) (by erw[ak] <;> lia)
 ·obtain⟨its,r',pl,hz⟩:=I.tuple hq;have hlen:=r'.length;obtain⟨o,ho,hc,n,hd⟩:=pl;exact call_list_seq p (.inr rfl) ho hc hd (λh' c' kp e=>fin its r' hz h' c' kp e) (by erw[ak] <;> lia)
theorem Zz:vQ X (.type "tuple") (λxs H Q=>∃p ys,xs=[.ref p]/\((SqL X.K H p ys/\∀l,H l=AY->Q (.ref l) (upd H l (.tup ys)))\/(SqT X.K H p ys/\Q (.ref p) H))):=by
 intro Bb s σ H xs us Q I r h;obtain⟨p,ys,rfl,h⟩:=h;obtain⟨u,rfl,rx⟩:=wB r;cases rx;rcases h with ⟨hq,q⟩ | ⟨hq,q⟩
 ·obtain⟨its,r',pl,hz⟩:=I.list hq;have hlen:=r'.length;refine call_tuple_list pl.isList (λh' kp=>?_) (by erw[ak] <;> lia);have I1:Inv X Bb σ H { s with heap:=h' }:=I.kept (t':=s.toks) kp
  have I2:Inv X Bb σ (upd H h'.objs.size (.tup ys)) { s with heap:=h'.push { cls:=.type "tuple",data:=.seq its.toArray } } :=
   I1.laid (t':=s.toks) (λb o e=>ac _ e) (al _) (show ObjOk X.prog X.w _ _ _ (.tup ys)from #[hz,its,r',IsTup.new _ _])
  exact#[.ref h'.objs.size,_,I2,rfl,q _ (I1.hok.fresh (al _))]
 ·obtain⟨its,r',pl,hz⟩:=I.tuple hq;exact call_tuple_same pl #[.ref p,H,I,rfl,q]
def tyV(K:so)(T:String)(x:V)(H:Hp):Prop:=match x with
 | .str _=>T="str"
 | .int _=>T="int"
 | .ref p=>(T="list"/\∃xs,SqL K H p xs)\/(T="tuple"/\∃o,K.lookup p=AX o/\o.cls=.type "tuple"/\o.dict=AY) \/
   (T="dict"/\((∃kvs,H p=AX (.dK kvs))\/∃kvs,H p=AX (.dT kvs)))\/(T="set"/\∃S n,H p=AX (.set S n))
 | _=>False
theorem zav{Bb:List (sq × sX)}{σ:St}{H:Hp}{s:su}{T:String}{x:V}{v:sr}(I:Inv X Bb σ H s)(r:RelV x v)(ty:tyV X.K T x H) :
  s.TypeIs v T/\∀a,v=.ref a->∃ob,s.heap.get? a=AX ob/\ob.dict=AY:=by
 cases x with
 | str z =>
  obtain⟨t,rfl⟩:=r;cases (show T="str" from ty);exact#[typeIs_str s z t,λ_ e=>nomatch e]
 | int i =>
  obtain⟨t,rfl⟩:=r;cases (show T="int" from ty);exact#[typeIs_int s i t,λ_ e=>nomatch e]
 | ref p =>
  cases r;rcases ty with ⟨rfl,xs,hq⟩ | ⟨rfl,o,hk,hc,hd⟩ | ⟨rfl,hk⟩ | ⟨rfl,S,n,hk⟩
  ·obtain⟨its,_,pl,_⟩:=I.list hq;refine#[pl.isList.typeIs,λa e=>?_];cases e;obtain⟨o,n,e,c,hd,_⟩:=pl;exact#[o,e,hd]
  ·refine#[#[o,I.kIn p o hk,hc],λa e=>?_];cases e;exact#[o,I.kIn _ o hk,hd]
  ·have z:∃o,s.heap.get? p=AX o/\o.ExactDict:=by
    rcases hk with ⟨kvs,hk⟩ | ⟨kvs,hk⟩
    ·obtain⟨_,_,_,_,o,_,_,e,ex,_⟩:=I.hok p _ hk;exact#[o,e,ex]
    ·obtain⟨_,_,_,_,o,_,_,e,ex,_⟩:=I.hok p _ hk;exact#[o,e,ex]
   obtain⟨o,e,ex⟩:=z;refine#[#[o,e,ex.1],λa e2=>?_];cases e2;exact#[o,e,ex.2.1]
  ·obtain⟨o,_,_,_,e,ex,_⟩:=I.hok p _ hk;refine#[#[o,e,ex.1],λa e2=>?_];cases e2;exact#[o,e,ex.2.1]
 | _=>exact False.elim ty
def zeJ(K:so)(T:String)(r:V->List V->Hp->VK->Prop)(to:TE):TE:=λσ H Q=>to σ H λx H1=>tyV K T x H1/\r x [] H1 Q
def tBM(K:so)(T:String)(r:V->List V->Hp->VK->Prop)(to:TE)(t:TA):TE:=λσ H Q=>to σ H λx H1=>tyV K T x H1/\t σ H1 λxs H2=>r x xs H2 Q
variable{o e:sF}{es:List sF}{to:TE}{t:TA}{name:sB}{apos cpos:tG}{T id:String}{r:V->List V->Hp->VK->Prop}
theorem zeo(pa:PlainAttrs T)(slot:Slot T name id)(hty:typeOf (.builtin id)=pure (.type "method_descriptor"))(hm:MtR X id r)(ho:PE X o to)
  (hbase:attributeBase o name X.env (eval o X.env)=eval o X.env:=by rfl) (hline:(apos.endLine == cpos.line)=AZ:=by rfl):PE X (.Call (.Attribute o name apos) [] [] cpos) (zeJ X.K T r to):=by
 intro Bb s σ H Q I h;refine wpAny_Call_method0_late hbase hline (thn (ho Bb s σ H _ I h) λv s1 ⟨x,H1,I1,r1,ty,q1⟩=>?_);obtain⟨h1,h2⟩:=zav I1 r1 ty;exact#[T,id,pa,slot,hty,h1,h2,Calls.callWith_builtin rfl (PySem.evalArgs_none (hm Bb s1 σ H1 x [] v [] Q I1 r1 .nil q1))]
theorem uM(pa:PlainAttrs T)(slot:Slot T name id)(hty:typeOf (.builtin id)=pure (.type "method_descriptor"))(hm:MtR X id r)(ho:PE X o to)(ha:PA X (e::es) t)
  (hbase:attributeBase o name X.env (eval o X.env)=eval o X.env:=by rfl)
  (hfew:((sN cpos (sj (e::es) X.env)).all (λx=>!x.1) && (tj cpos (sL [] X.env)).all (λx=>x.1.isSome)
   && decide ((e::es).length+([]:List AQ).length+(if ([]:List AQ).isEmpty then 0 else 1)<30))=AZ:=by rfl)
  (hline:(apos.endLine == cpos.line)=AZ:=by rfl) (hs:sj (e::es) X.env=(Ba,eval e X.env)::sj es X.env:=by rfl) (hplain:(sN cpos (sj es X.env)).any (·.1)=Ba:=by rfl) :
  PE X (.Call (.Attribute o name apos) (e::es) [] cpos) (tBM X.K T r to t):=by
 intro Bb s σ H Q I h;refine wpAny_Call_method_late hbase hfew hline rfl (thn (ho Bb s σ H _ I h) λv s1 ⟨x,H1,I1,r1,ty,q1⟩=>?_);obtain⟨h1,h2⟩:=zav I1 r1 ty;refine#[T,id,pa,slot,hty,h1,h2,?_];have hA:=ha cpos Bb s1 σ H1 _ I1 q1;rw[hs]at hA ⊢;refine Calls.callWith_builtin (by show (Ba || (sN cpos (sj es X.env)).any (·.1))=Ba;rw[hplain] <;> rfl) (Calls.evalArgs_plain ?_);exact thn hA λus s2 ⟨vs,H2,I2,r2,q2⟩=>hm Bb s2 σ H2 x vs v us Q I2 r1 r2 q2
/- xs.append(e),list.index on a module's tuple .. are MtR facts of 06m -/
end
def MtM(X:Cx)(id:String)(r:V->List V->Hp->VK->Prop):Prop :=
 ∀(Bb:List (sq × sX)) (s:su) (σ:St) (H:Hp) (x:V) (xs:List V) (v:sr) (us:List sr) (Q:VK),Inv X Bb σ H s->RelV x v->Vals xs us->r x xs H Q ->
  sw (model X.prog X.w) X.A (call (.builtin id) (v::us)) (EP X Bb σ Q) X.xe s
theorem Vals.one:∀{x:V} {us:List sr},Vals [x] us->∃u,us=[u]/\RelV x u
 | _,_,.cons r .nil=>#[_,rfl,r]
theorem Vals.two:∀{x y:V} {us:List sr},Vals [x,y] us->∃u v,us=[u,v]/\RelV x u/\RelV y v
 | _,_,_,.cons r (.cons q .nil)=>#[_,_,rfl,r,q]
theorem Vals.zero:∀{us:List sr},Vals [] us->us=[]
 | _,.nil=>rfl
theorem Vals.dropLast{xs:List V}{us:List sr}(h:Vals xs us):Vals xs.dropLast us.dropLast:=by
 induction h with
 | nil=>exact .nil
 | cons r t ih =>
  cases t with
  | nil=>exact .nil
  | cons q t'=>exact .cons r ih
theorem Vals.eraseIdx:∀{xs:List V} {us:List sr} (i:Nat),Vals xs us->Vals (xs.eraseIdx i) (us.eraseIdx i)
 | _,_,_,.nil=>.nil
 | _,_,0,.cons _ t=>t
 | _,_,i+1,.cons r t=>.cons r (Vals.eraseIdx i t)
theorem Vals.reverse{xs:List V}{us:List sr}(h:Vals xs us):Vals xs.reverse us.reverse:=by
 induction h with
 | nil=>exact .nil
 | cons r t ih=>rw[List.reverse_cons,List.reverse_cons];exact Vals.append ih (.cons r .nil)
theorem VO{α:Type}(l:List α):l.eraseIdx (l.length - 1)=l.dropLast:=by
 induction l with
 | nil=>rfl
 | cons a r ih =>
  cases r with
  | nil=>rfl
  | cons b r =>
   have e:(a::b::r).length - 1=((b::r).length - 1)+1:=by
    have h1:(a::b::r).length=r.length+2:=rfl;have h2:(b::r).length=r.length+1:=rfl;lia
   rw[e,List.eraseIdx_cons_succ,ih]
   all_goals rfl
section
variable{X:Cx}{Bb:List (sq × sX)}{σ:St}{H:Hp}{s:su}{l b:sq}{xs ys zs:List V}
theorem Inv.lset{its its':List sr}{n:Nat}{f:Array sr->Array sr}{t':Nat}(I:Inv X Bb σ H s)(hH:H l=AX (.lst xs))
  (e:s.heap.get? l=AX { cls:=.type "list",data:=.seq its.toArray n }) (hf:f its.toArray=its'.toArray) (hv:Vals ys its') (hz:ys.length<=sk) :
  Inv X Bb σ (upd H l (.lst ys)) { s with heap:=s.heap.update l (Obj.mapSeq f),toks:=t' }:=by
 have q:=PySem.IsL.update e f;rw[hf]at q;refine I.write (x:=l) (e:=l) (by rw[hH];exact trivial) (.inl rfl) (λb' u hb hu=>(aF s.heap (Obj.mapSeq f) (Ne.symm hb)).trans hu) #[_,q] ?_;exact#[hz,its',_,hv,q]
theorem Inv.lnew{its:List sr}{t':Nat}(I:Inv X Bb σ H s)(hv:Vals ys its)(hz:ys.length<=sk) :
  Inv X Bb σ (upd H s⁻¹ (.lst ys)) { s with heap:=s.heap.push { cls:=.type "list",data:=.seq its.toArray },toks:=t' } :=
 I.laid (λ_ _ q=>ac _ q) (al _) #[hz,its,0,hv,aB _ rfl]
theorem Inv.fresh(I:Inv X Bb σ H s):H s⁻¹=AY:=I.hok.fresh (al _)
theorem Inv.lstM(I:Inv X Bb σ H s)(hH:H l=AX (.lst xs)):xs.length<=sk/\∃(its:List sr) (n:Nat),Vals xs its/\xs.length=its.length/\s.heap.get? l=AX { cls:=.type "list",data:=.seq its.toArray n }:=by
 obtain⟨z,its,n,r,e⟩:=I.hok l _ hH;exact#[z,its,n,r,r.length,e]
theorem Kw{n:Nat}(h:n<=sk):Builtin.List.listTooLong n=Ba:=by
 unfold Builtin.List.listTooLong;exact decide_eq_false ⋯
end
section
variable{X:Cx}
def Qh:V->List V->Hp->VK->Prop:=λx vs H Q=>onRef x λl=>match vs with | [y]=>∃xs,H l=AX (.lst xs)/\xs.length<sk/\Q .non (upd H l (.lst (xs ++ [y]))) | _=>False
theorem xq:MtM X "list.append" Qh:=by
 intro Bb s σ H x vs v us Q I rx rv h;obtain⟨l,rfl,h2⟩:=onRef.of h
 obtain⟨y,rfl,xs,hH,hz,q⟩:∃y,vs=[y]/\∃xs,H l=AX (.lst xs)/\xs.length<sk/\Q .non (upd H l (.lst (xs ++ [y]))):=by
  split at h2
  ·exact#[_,rfl,h2]
  ·exact h2.elim
 cases rx;obtain⟨u,rfl,ru⟩:=rv.one;obtain⟨z,its,n,r,hl,e⟩:=I.lstM hH;refine call_meets F.slot_list_append #[_,e,rfl] F.entry_list_append (F.args_list_append_2 _ _) (PySem.list_append l its.toArray n u (by rw[ak];lia)) #[e,?_];refine#[.non,_,I.lset (its':=its ++ [u]) hH e (by simp) (r.append (.cons ru .nil)) ?_,rfl,q];rw[aj,dB];lia
def V9:V->List V->Hp->VK->Prop:=λx vs H Q=>∃l b xs zs,x=.ref l/\vs=[.ref b]/\H l=AX (.lst xs)/\H b=AX (.lst zs)/\xs.length+zs.length<=sk/\Q .non (upd H l (.lst (xs ++ zs)))
theorem Qq:MtM X "list.extend" V9:=by
 intro Bb s σ H x vs v us Q I rx rv h;obtain⟨l,b,xs,zs,rfl,rfl,hH,hB,hz,q⟩:=h;cases rx;obtain⟨u,rfl,ru⟩:=rv.one;cases ru;obtain⟨z,its,n,r,hl,e⟩:=I.lstM hH;obtain⟨z2,its2,n2,r2,hl2,e2⟩:=I.lstM hB;have hsz:its.toArray.size+its2.toArray.size<=sk:=by rw[ak,ak];lia
 have hlong:¬ (!its.toArray.isEmpty && Builtin.List.listTooLong (its.toArray.size+its2.toArray.size))=AZ:=by
  rw[Kw hsz,fg];exact az
 refine call_meets F.slot_list_extend #[_,e,rfl] F.entry_list_extend (F.args_list_extend_2 _ _)
  (AutoSeq1.list_extend_list_list_0 l its.toArray n b its2.toArray n2 hlong (by rw[ak];lia) ⋯) #[e,e2,?_]
 refine#[.non,_,I.lset (its':=its ++ its2) hH e (by simp) (r.append r2) ?_,rfl,q];rw[aj];lia
def zgv:V->List V->Hp->VK->Prop:=λx vs H Q=>∃l xs y,x=.ref l/\vs=[]/\H l=AX (.lst xs)/\xs[xs.length - 1]? = AX y/\Q y (upd H l (.lst xs.dropLast))
theorem zge:MtM X "list.pop" zgv:=by
 intro Bb s σ H x vs v us Q I rx rv h;obtain⟨l,xs,y,rfl,rfl,hH,hy,q⟩:=h;cases rx;have hus:=rv.zero;subst hus;obtain⟨z,its,n,r,hl,e⟩:=I.lstM hH;obtain⟨u,hu,ru⟩:=r.get hy
 have hy':its.toArray[its.toArray.size - 1]? = AX u:=by
  show its.toArray[its.length - 1]? = AX u;rw[<- Array.getElem?_toList,<- hl];exact hu
 refine call_meets F.slot_list_pop #[_,e,rfl] F.entry_list_pop (F.args_list_pop_1 _) (MeetsSeq.list_pop_last l its.toArray n u hy' (by rw[ak];lia)) #[e,?_];refine#[y,_,I.lset (its':=its.dropLast) hH e ?_ r.dropLast ?_,ru,q]
 ·show its.toArray.eraseIdxIfInBounds (its.toArray.size - 1)=its.dropLast.toArray;rw[ak,List.eraseIdxIfInBounds_toArray,VO]
 ·rw[List.length_dropLast];lia
def WZ:V->List V->Hp->VK->Prop:=λx vs H Q=>∃l xs,x=.ref l/\vs=[]/\H l=AX (.lst xs)/\Q .non (upd H l (.lst xs.reverse))
theorem Vm:MtM X "list.reverse" WZ:=by
 intro Bb s σ H x vs v us Q I rx rv h;obtain⟨l,xs,rfl,rfl,hH,q⟩:=h;cases rx;have hus:=rv.zero;subst hus;obtain⟨z,its,n,r,hl,e⟩:=I.lstM hH;refine call_meets F.slot_list_reverse #[_,e,rfl] F.entry_list_reverse (F.args_list_reverse_1 _) (AutoSeq1.list_reverse_list_0 l its.toArray n (by rw[ak];lia)) #[e,?_];refine#[.non,_,I.lset (its':=its.reverse) hH e (by simp) r.reverse ?_,rfl,q];rw[bh];lia
def zcP:R2:=λx y H Q=>onRef x λl=>onRef y λb=>∃xs,H l=AX (.lst xs)/\∃zs,H b=AX (.lst zs)/\xs.length+zs.length<=sk/\∀p,H p=AY->Q (.ref p) (upd H p (.lst (xs ++ zs)))
theorem We:OpR X (binaryOp .Add) zcP:=by
 intro Bb s σ H x y v u Q I rx ry h;obtain⟨l,rfl,h2⟩:=onRef.of h;obtain⟨b,rfl,xs,hH,zs,hB,hz,q⟩:=onRef.of h2;cases rx;cases ry;obtain⟨z,its,n,r,hl,e⟩:=I.lstM hH;obtain⟨z2,its2,n2,r2,hl2,e2⟩:=I.lstM hB;refine PySem.P.add_list e e2 ?_ (by rw[ak,ak];lia);have ea:its.toArray ++ its2.toArray=(its ++ its2).toArray:=by simp
 rw[ea];exact#[.ref _,_,I.lnew (t':=s.toks) (r.append r2) (by rw[aj];lia),rfl,q _ I.fresh]
theorem len_rep{α:Type}(xs:List α)(k:Nat):(aW k xs).flatten.length=k * xs.length:=by
 induction k with
 | zero=>simp
 | succ k ih=>rw[cz,dm,aj,ih,eF,Nat.add_comm]
end
section
variable{prog:sy}{w:sC}{A:sE}{E:sr->su->Prop}{s:su}
end
section
variable{X:Cx}
end
end L2
namespace Att
open PySem PySem.W PySem.Calls PyProof.Rows
theorem qO{P:Params}{h:sI}:∀(ns:List Int) (vs:List sr),WellAll P h vs (ns.map WData.int)->AI vs ns:=by
 intro ns
 induction ns with
 | nil =>
  intro vs w;rw[aL]at w;cases w;exact .nil
 | cons n ns ih =>
  intro vs w;rw[au]at w
  cases w with
  | cons a b =>
   cases a;exact .cons _ _ (ih _ b)
theorem script_of{l:OpenLaw}{n:Nat}(hn:l.most=AX n){P:Params}{h:sI}{args:List WData}{vals:List sr}
  (hpre:l.row.toRowW.claim.pre args=AZ) (hwl:WellAll P h vals args) :
  ∃a vs ns,vals=[Value.ref a]/\args=[WData.list (ns.map WData.int)]/\h.get? a=AX { cls:=.type "list",data:=.seq vs.toArray }/\AI vs ns/\ns.length<=n:=by
 have hsh:WShape.hasAll [] args [.list .int]=AZ:=(pre_splitW hpre).1;have hc:l.pre.holds [] { args:=args }=AZ:=(pre_splitW hpre).2;obtain⟨d,r,rfl,h1,h2⟩:=hasAllW_cons hsh;obtain rfl:=hasAllW_nil h2;obtain⟨xs,rfl,h3⟩:=hasW_list h1;obtain⟨ns,rfl⟩:=items_int h3
 have hlen:ns.length<=n:=by
  unfold OpenLaw.pre at hc
  have h4:(WTm.not (.lt (.lit (.int (n:Int))) (.len (.arg 0)))).holds [] { args:=[.list (ns.map .int)] }=AZ:=by
   have h4:=(holds_andW hc).1;rw[hn]at h4;exact h4
  have h5:=condW_of h4 (w_not (w_lt w_lit (w_len_list (w_arg rfl))));rw[ae]at h5;refine cS λq=>?_;have q':(n:Int)<((ns.length:Nat):Int):=⋯
  first
   | (rw[decide_eq_true q']at h5;exact absurd h5 ∅)
   | (simp at h5;lia)
 cases hwl with
 | cons w1 w2 =>
  cases w2
  cases w1 with
  | list ho hall=>exact#[_,_,ns,rfl,rfl,ho,qO ns _ hall,hlen]
theorem post_true(l:OpenLaw)(args:List WData):l.row.toRowW.claim.post args (.bool AZ) args=AZ :=
 postW_of (r:=l.row.toRowW) (X:=(AZ == AZ))
  (show WShape.has [] (.bool AZ) .bool=AZ by first | rfl | decide | simp [WShape.has,WShape.arms,WShape.armsAll])
  (show (WTm.eq .res (.lit (.bool AZ))).value [] { args:=args,res:=AX (.bool AZ),after:=args }=AX (.bool (AZ == AZ))from w_eq_bool (w_res rfl) w_lit) rfl
section
variable{prog:sy}{w:sC}{A:sE}{E:sr->su->Prop}{s:su}{K:Frag}
noncomputable def zfZ(h:sI)(L d:sq):List (sq × sX):=(aK h.objs.size).filterMap λa=>if a=L\/a=d then AY else (h.get? a).map λo=>(a,o)
end
end Att
namespace L2
theorem Yy:∀{vs:List sr} {ns:List Int},AI vs ns->Vals (ns.map V.int) vs
 | _,_,.nil=>.nil
 | _,_,.cons n t h=>.cons #[t,rfl] (Yy h)
noncomputable def yt(s:sJ)(j:Nat):sJ:=match s with
 | .ClassDef _ _ _ body _ _ _ _ _ _ _=>body.getD j (.Pass #[0,0,0,0])
 | _=>.Pass #[0,0,0,0]
noncomputable def yJ(s:sJ):tR:=match s with
 | .FunctionDef _ a _ _ _ _ _ _ _ _=>a
 | _=>{ posonlyargs:=[],args:=[],vararg:=AY,kwonlyargs:=[],kw_defaults:=[],kwarg:=AY,defaults:=[] }
noncomputable def yg(s:sJ):List sJ:=match s with
 | .FunctionDef _ _ b _ _ _ _ _ _ _=>b
 | _=>[]
noncomputable def zh(s:sJ):tw:=match s with
 | .FunctionDef _ _ _ _ _ _ sc _ _ _=>sc
 | _=>{ kind:=.function,names:=[],isGenerator:=Ba,isCoroutine:=Ba }
abbrev CX0:CXT:=λ_ _ _ _ _ _=>False
noncomputable abbrev E0:XK:=λ_ _ _=>False
theorem XH{X:Cx}:qc CX0 X E0:=λ_ _ _ _ _ _ _ h=>h.elim
structure Fun(K:so)(x qual:sB)(st:sJ)(f:sq)(fd:sv):Prop where
 ex:∃(oc:sr) (od:Option sq) (kV doc pm:sr) (an:Option sq) (cdv ct:sr) (osl:Array (Option sr)),
  fd=bu x qual (yJ st) (yg st) (zh st) .none kV doc pm an cdv ct/\K.lookup f=AX #[oc,od,.func fd,osl]/\bR K cdv qual=AZ
 kp:aI K (.ref f)=AZ
section
variable{P:sy}{w:sC}{K:so}{mg:sB->Option sr}{base:sI}
theorem Fun.ok{x qual:sB}{st:sJ}{f:sq}{fd:sv}{N ps:List sB}{k:Nat}{sp:Sp}(F:Fun K x qual st f fd)(S:zk N ps (zh st))(len:∀vs H Q E,sp vs H Q E->vs.length=ps.length)
  (hbody:∀(cdv:sr) (A:sE) (outer:List Al) (s:su) (H:Hp) (vs:List V) (Q:VK) (E:XK),Room k (A.deeper (tZ qual (zh st) s⁻¹ f cdv))->sp vs H Q E ->
   ∃t,PSs (qz CX0 P w K mg base N qual (zh st) f cdv A outer s H E).nox (yg st) t/\t { nx:=λ_ H'=>Q .non H',rt:=Q } (start N vs) H):zQ P w K mg base CX0 (k+1) f fd ps sp:=by
 obtain⟨oc,od,kV,doc,pm,an,cdv,ct,osl,rfl,lk,hcd⟩:=F.ex;refine JE lk hcd S len λA outer s H vs Q E hr hsp=>?_;obtain⟨t,h,q⟩:=hbody cdv A outer s H vs Q E hr hsp;exact#[t,h.nox,q]
theorem Fun.binds{x qual:sB}{st:sJ}{f:sq}{fd:sv}{ps:List sB}(F:Fun K x qual st f fd)
  (h:∀(kV doc pm:sr) (an:Option sq) (cdv ct:sr) (us:List sr),us.length=ps.length->bindArgs (bu x qual (yJ st) (yg st) (zh st) .none kV doc pm an cdv ct) #[us,[]]=pure (ps.zip us)):Binds K fd ps []:=by
 obtain⟨oc,od,kV,doc,pm,an,cdv,ct,osl,rfl,lk,hcd⟩:=F.ex;exact .all (h kV doc pm an cdv ct)
theorem fun_mk{x qual:sB}{st:sJ}{f:sq}{oc:sr}{od an:Option sq}{osl:Array (Option sr)}{kV doc pm cdv ct:sr}(l:K.lookup f=AX #[oc,od,.func (bu x qual (yJ st) (yg st) (zh st) .none kV doc pm an cdv ct),osl])
  (c:bR K cdv qual=AZ) (k:aI K (.ref f)=AZ):Fun K x qual st f (bu x qual (yJ st) (yg st) (zh st) .none kV doc pm an cdv ct):=#[#[oc,od,kV,doc,pm,an,cdv,ct,osl,rfl,l,c],k]
end
section
variable{X:Cx}
theorem pv(i:Nat){x:sB}{pos:tG}(hN:X.N[i]? = AX x:=by rfl)(hv:Vis X.env.scope x:=by first | exact Or.inl rfl | exact Or.inr (.inl rfl) | exact Or.inr (Or.inr rfl))(hd:(x ==("__debug__" : sB))=Ba:=by decide)
  (hcd:(x ==("__classdict__" : sB))=Ba:=by decide):PE X (.Name x pos) (ym i):=zdB hN hv hd hcd
end
theorem zfL{A B:Prop}(h:A):if AZ=AZ then A else B:=by
 rw[if_pos rfl];exact h
theorem yq{c A B:Prop}[Decidable c](h1:c->A)(h2:¬ c->B):if c then A else B:=by
 by_cases h:c
 ·rw[if_pos h];exact h1 h
 ·rw[if_neg h];exact h2 h
def Same(H H':Hp):Prop:=∀b o,H b=AX o->H' b=AX o
theorem Same.refl(H:Hp):Same H H:=λ_ _ h=>h
theorem Same.trans{H H1 H2:Hp}(a:Same H H1)(b:Same H1 H2):Same H H2:=λc o h=>b c o (a c o h)
theorem Same.free{H H':Hp}(e:Same H H'){l:sq}(h:H' l=Option.none):H l=Option.none:=by
 cases q:H l with
 | none=>rfl
 | some o =>
  rw[e l o q]at h;cases h
theorem Same.seq{K:so}{H H':Hp}{a:sq}{xs:List V}(e:Same H H')(h:SqL K H a xs):SqL K H' a xs:=by
 rcases h with (h | ⟨o,h⟩) | h
 ·exact .inl (.inl (e _ _ h))
 ·exact .inl (.inr #[o,e _ _ h])
 ·exact .inr h
end L2
open L2
namespace L3
noncomputable abbrev St:=L2.St
noncomputable abbrev cs(x:sB):():=x.cps.toList
noncomputable abbrev tx(l:()):sB:=⟨l.toArray⟩
theorem zdj(x:sB):tx (cs x)=x:=by cases x;rfl
theorem XF(l:()):cs (tx l)=l:=rfl
theorem W3(x:sB):x.length=(cs x).length:=by simp [Str.length,cs]
theorem z6(l:()):(tx l).length=l.length:=by simp [Str.length,tx]
theorem YE{x y:sB}(h:cs x=cs y):x=y:=by rw[<- zdj x,<- zdj y,h]
theorem jO{l m:()}(h:tx l=tx m):l=m:=by rw[<- XF l,<- XF m,h]
theorem zeg{l m:()}:tx l=tx m ↔ l=m:=#[jO,λh=>by rw[h]]
theorem wP(l m:()):tx l ++ tx m=tx (l ++ m):=by
 apply YE;show (tx l ++ tx m).cps.toList=l ++ m;rw[Str.cps_append];simp
noncomputable def cut{α:Type}(l:List α)(lo hi:Option Int):List α:=(l.drop (HT.sIx l.length 0 lo)).take (HT.sIx l.length l.length hi - HT.sIx l.length 0 lo)
theorem wN{α:Type}(l:List α)(lo hi:Option Int):(cut l lo hi).length<=l.length:=by
 unfold cut;rw[aG,bi];lia
theorem Qo(a b:Nat):sliceRange (a:Int) (b:Int) 1=(aK (b - a)).map (λk=>a+k):=by
 unfold sliceRange
 have e:(if (1:Int) > 0 then (if (a:Int)<b then ((b:Int) - a+1 - 1) / 1 else 0)else (if (a:Int) > b then ((a:Int) - b - 1 - 1) / (-1)else 0)).toNat=b - a:=by
  rw[if_pos ∅];by_cases h:(a:Int)<b
  ·rw[if_pos h,Int.ediv_one];lia
  ·rw[if_neg h];lia
 show (aK ((if (1:Int) > 0 then (if (a:Int)<b then ((b:Int) - a+1 - 1) / 1 else 0)else (if (a:Int) > b then ((a:Int) - b - 1 - 1) / (-1)else 0)).toNat)).map _=_;rw[e];refine cA λk _=>?_;lia
theorem zbv(lo hi:Option Int)(n:Nat):Builtin.Str.strSliceIndices lo hi 1 n=(aK (HT.sIx n n hi - HT.sIx n 0 lo)).map (λk=>HT.sIx n 0 lo+k):=by
 rw[<- Qo]
 have clip:∀(v:Int) (d:Nat),max 0 (min (if v<0 then v+(n:Int)else v) (n:Int))=((HT.sIx n d (AX v):Nat):Int):=λv d=>by
  show _=(((if v<0 then (v+(n:Int)).toNat else min v.toNat n):Nat):Int);by_cases hv:v<0
  ·erw[if_pos hv];lia
  ·erw[if_neg hv];lia
 have h1:((1:Int) > 0)=True:=by simp
 unfold Builtin.Str.strSliceIndices
 cases lo with
 | none =>
  cases hi with
  | none=>erw[h1,if_true];rfl
  | some j=>erw[h1,if_true,clip j n];rfl
 | some i =>
  cases hi with
  | none=>erw[h1,if_true,clip i 0];rfl
  | some j=>erw[h1,if_true,clip i 0,clip j n]
theorem V3(x:sB)(lo hi:Option Int):Txt.slice x lo hi=tx (cut (cs x) lo hi):=by
 have hn:x.length=x.cps.toList.length:=W3 x;have hj:HT.sIx x.length x.length hi<=x.length:=HT.sIx_le _ _ (al _) hi;have hi0:HT.sIx x.length 0 lo<=x.length:=HT.sIx_le _ _ (aD _) lo;unfold Txt.slice;rw[zbv];split
 ·rename_i h;have h':HT.sIx x.length x.length hi - HT.sIx x.length 0 lo=x.length:=by simpa using h
  apply YE;show x.cps.toList=cut x.cps.toList lo hi;unfold cut;rw[<- hn];by_cases z:x.length=0
  ·have:x.cps.toList=[]:=dN ⋯;rw[this];simp
  ·have e0:HT.sIx x.length 0 lo=0:=⋯;rw[e0]at h' ⊢;rw[h',dZ,hn,aP]
 ·apply YE;have h:=StrLaws.picks x.cps.toList (HT.sIx x.length x.length hi - HT.sIx x.length 0 lo) (HT.sIx x.length 0 lo) ⋯;show (List.filterMap (λk=>x.cps[k]?) _).toArray.toList=cut x.cps.toList lo hi;unfold cut;rw[<- hn];simpa using h
section
variable{X:Cx}
theorem Uc{v:sr}{o:Option Int}(p:IsPart v o):∃l:Option (Int × Aa),v=partValue l/\l.map (·.1)=o:=by
 cases p with
 | none=>exact#[AY,rfl,rfl]
 | int i t=>exact#[AX (i,t),rfl,rfl]
def zes:V->Option Int->Option Int->Hp->VK->Prop:=λx lo hi H Q=>onStr x λz=>z.length<=sk/\Q (.str (tx (cut (cs z) lo hi))) H
theorem wA:SlR X zes:=by
 intro Bb s σ H x v vl vu lo hi sl Q I rx hs pl pu h;obtain⟨z,rfl,hz,q⟩:=onStr.of h;obtain⟨t,rfl⟩:=rx;obtain⟨l,rfl,el⟩:=Uc pl;obtain⟨u,rfl,eu⟩:=Uc pu;refine#["str",_,slot_str_getitem.lookup,typeIs_str s z t,?_];refine Ae (l:=l) (u:=u) (st:=AY) hs rfl ?_;have e:Txt.slice z lo hi=tx (cut (cs z) lo hi):=V3 z lo hi;have hl:(tx (cut (cs z) lo hi)).length<=sk:=by rw[z6];have:=wN (cs z) lo hi;rw[<- W3]at this;lia
 unfold sliceMade slicePicked;rw[el,eu];unfold Txt.slice at e;by_cases hc:((1:Int) == 1 && (Builtin.Str.strSliceIndices lo hi 1 z.length).length == z.length)=AZ
 ·rw[if_pos hc]at e;have hc':(((AY:Option (Int × Aa)).map (·.1)).getD 1 == 1 && (Builtin.Str.strSliceIndices lo hi (((AY:Option (Int × Aa)).map (·.1)).getD 1) z.length).length == z.length)=AZ:=hc;rw[if_pos hc'];exact#[.str (tx (cut (cs z) lo hi)),H,I,#[t,by rw[<- e]],q]
 ·rw[if_neg hc]at e;have hc':¬ (((AY:Option (Int × Aa)).map (·.1)).getD 1 == 1 && (Builtin.Str.strSliceIndices lo hi (((AY:Option (Int × Aa)).map (·.1)).getD 1) z.length).length == z.length)=AZ:=hc;rw[if_neg hc'];show (Str.mk ((Builtin.Str.strSliceIndices lo hi 1 z.length).filterMap (z.cps[·]?)).toArray).length<=sk/\_;rw[e];refine#[hl,?_]
  exact#[.str (tx (cut (cs z) lo hi)),H,I.tok _,#[_,by
   show Value.str (Str.mk ((Builtin.Str.strSliceIndices lo hi 1 z.length).filterMap (z.cps[·]?)).toArray) _=_
   rw[e]],q]
theorem Wf(l:()):∀(k:Nat) (Bd:Array Nat),((aW k l.toArray).foldl (· ++ ·) Bd).toList=Bd.toList ++ (aW k l).flatten
 | 0,Bd=>by simp
 | k+1,Bd=>by
  rw[cz,List.foldl_cons,Wf l k,cz,dm];simp
theorem Vb:OpR X (binaryOp .Mult) (λx y H Q=>∃z n,x=.str z/\y=.int n/\0<=n/\n<=1000/\z.length<=1000/\Q (.str (tx (aW n.toNat (cs z)).flatten)) H):=by
 intro Bb s σ H x y v u Q I rx ry h;obtain⟨z,n,rfl,rfl,h0,h1,hz,q⟩:=h;obtain⟨t,rfl⟩:=rx;obtain⟨t',rfl⟩:=ry;have hs:sk=16777216:=sV;have hmul:z.length * n.toNat<=1000 * 1000:=fh hz ⋯;have fl:((aW n.toNat (cs z)).flatten).length=n.toNat * z.length:=by rw[L2.len_rep,<- W3]
 refine PySem.P.mul_str ?_ (λ_ _=>?_) (λ_ _=>?_) ?_
 ·rw[decide_eq_false ⋯,decide_eq_false ⋯];rfl
 ·have:(1000:Int)<=(2 ^ 63 - 1) / n:=by
   apply Int.le_ediv_of_mul_le ⋯;lia
  lia
 ·unfold Builtin.Str.tooLong;exact decide_eq_false ⋯
 ·by_cases c1:n<1
  ·rw[if_pos c1];have e:n.toNat=0:=⋯;rw[e]at q;exact#[∅,.str (tx []),H,I.tok _,#[_,rfl],q]
  ·rw[if_neg c1];by_cases c2:(n == 1 || z.length == 0)=AZ
   ·rw[if_pos c2]
    have e:tx (aW n.toNat (cs z)).flatten=z:=by
     rw[dD]at c2;rcases c2 with c | c
     ·have:n.toNat=1:=by have:=eq_of_beq c;lia
      rw[this]
      erw[List.replicate_one,List.flatten_singleton]
     ·have c0:z.length=0:=eq_of_beq c;have:cs z=[]:=dN (by rw[<- W3];exact c0);apply YE;rw[this];show (aW n.toNat ([]:())).flatten=[]
      erw[List.flatten_replicate_nil]
    rw[e]at q;exact#[.str z,H,I,#[_,rfl],q]
   ·rw[if_neg c2]
    have e:(⟨(aW n.toNat z.cps).foldl (· ++ ·) #[]⟩:sB)=tx (aW n.toNat (cs z)).flatten:=by
     apply YE;have:=Wf (cs z) n.toNat #[];have e2:(cs z).toArray=z.cps:=by cases z;rfl
     rw[e2]at this;show (List.foldl (· ++ ·) #[] (aW n.toNat z.cps)).toList=(aW n.toNat (cs z)).flatten;rw[this];rfl
    rw[e];refine#[by rw[z6,fl,Nat.mul_comm];lia,.str _,H,I.tok _,#[_,rfl],q]
theorem Qz:OpR X (sK .LtE) (λx y H Q=>∃i j,x=.str i/\y=.str j/\Q (.bl (!(decide (cs j<cs i)))) H):=by
 intro Bb s σ H x y v u Q I rx ry h;obtain⟨i,j,rfl,rfl,q⟩:=h;obtain⟨t,rfl⟩:=rx;obtain⟨t',rfl⟩:=ry;exact PySem.P.le_str #[.bl _,H,I,rfl,q]
theorem op_lt_str':OpR X (sK .Lt) (λx y H Q=>∃i j,x=.str i/\y=.str j/\Q (.bl (decide (cs i<cs j))) H):=UG
theorem JW:MtR X "str.count" (λx xs H Q=>∃z y,x=.str z/\xs=[.str y]/\Q (.int (Txt.count z y)) H):=by
 intro Bb s σ H x xs v us Q I rx rv h;obtain⟨z,y,rfl,rfl,q⟩:=h;obtain⟨t,rfl⟩:=rx;obtain⟨u,rfl,t',rfl⟩:=wB rv;exact PySem.SC.count #[.int _,H,I.tok _,#[_,rfl],q]
end
section
variable{X:Cx}{Bb:List (sq × sX)}{σ:St}{H:Hp}{s:su}{fp:List sq}{h':sI}{t':Nat}
theorem Inv.turns(I:Inv X Bb σ H s)(k:∀b o,b ∉ fp->s.heap.get? b=AX o->h'.get? b=AX o)(hf:∀b ∈ fp,wm X Bb H b):Inv X Bb σ H { s with heap:=h',toks:=t' }:=by
 have nit:∀b u,H b=AX u->b ∉ fp:=λb u e z=>by rw[(hf b z).1]at e;cases e
 refine I.step (g':=s.gens) (d':=s.drawn) (ch:=fp) (λb hb=>?_) (λb o _ _ hc e _=>k b o hc e) (λb o _ _ hc e _=>#[o.slots,k b o hc e]) (λ_ _ _ _ n=>n)
  (λb o hc e=>#[o,k b o hc e]) (λ_ _ e=>e) (λ_ _ _ e=>e) (λb ps e=>#[#[],by rw[e];simp]) (λm hm=>?_) (λb u e=>?_) I.bare
 ·obtain⟨_,a1,_,a3,a4,a5⟩:=hf b hb;exact#[a3,a1,a4,a5]
 ·obtain⟨o,es,ep,ho,r⟩:=hm;exact#[o,es,ep,k _ o (λz=>(hf _ z).2.1 rfl) ho,r]
 ·refine (I.hok b u e).stay (λc v hc q=>k c v ?_ q) (λ_ q=>q) λ_ _ q=>q;rcases hc with z | z
  ·rw[z];exact nit b u e
  ·exact nit c _ z
theorem Inv.track{a:sq}{o:HO}(I:Inv X Bb σ H s)(fa:wm X Bb H a)(new:ObjOk X.prog X.w (upd H a o) s.heap a o):Inv X Bb σ (upd H a o) s:=by
 obtain⟨a0,a1,a2,a3,a4,a5⟩:=fa;have e:s={ s with heap:=s.heap,gens:=s.gens,drawn:=s.drawn,toks:=s.toks }:=rfl;rw[e]
 refine I.step (g':=s.gens) (d':=s.drawn) (ch:=[a]) (λb hb=>?_) (λb o _ _ _ e _=>e) (λb o _ _ _ e _=>#[o.slots,e]) (λb o hc _ n=>?_)
  (λb o _ e=>#[o,e]) (λb xs e=>?_) (λb u xs e=>?_) (λb ps e=>?_) (λm hm=>hm) (λb u e=>?_) I.bare
 ·have eb:b=a:=by simpa using hb
  subst eb;exact#[a3,a1,a4,a5]
 ·rw[zm (by simpa using hc)];exact n
 ·rw[zm (zG e a0)];exact e
 ·rw[zm (zG e a0)];exact e
 ·exact#[#[],by rw[zm (zG e a0),e];simp]
 ·by_cases hb:b=a
  ·subst hb;rw[zd]at e;cases e;exact new
  ·rw[zm hb]at e;exact (I.hok b u e).stay (λc v _ q=>q) (λc q=>by rw[zm (zG q a0)];exact q) λc xs q=>by rw[zm (zG q a0)];exact q
end
noncomputable def Its(x:sB):It:=#[λi _=>i<(cs x).length,λi H v H'=>H'=H/\∃c,(cs x)[i]? = AX c/\v=.str (tx [c]),λi _=>i=(cs x).length]
theorem Ks{P:sy}{w:sC}{K:so}{tg:sF}{ty:String}(hty:["enumerate","zip","dict_itemiterator","dict_reverseitemiterator","odict_iterator","itertools.zip_longest","itertools.pairwise"].contains ty=Ba)(it:sq)(x:sB)(t:Aa)
  (W:∀A:sE,A.handled=AY->Walks P w A it [it] [it] x.cps.size (SignAt x) λi h=>h.IsStrIter it ty x t i)
  (S:∀(A:sE) (i:Nat) (s:su) (Q:sr->su->Prop) (E:sr->su->Prop),s.heap.IsStrIter it ty x t i->Q (.ref it) s->sw (model P w) A (pyIter (.ref it)) Q E s) :
  Jx P w K tg (Its x) [it] it (λi h=>h.IsStrIter it ty x t i) where
 mem:=by simp
 obj:=λi h st b hb=>by
  have e:b=it:=by simpa using hb
  subst e;obtain⟨o,e,c,d⟩:=st;exact#[o,e,λv z=>by rw[d]at z;cases z]
 keep:=λi h h' st k=>let #[o,e,r]:=st; #[o,k it (by simp) o e,r]
 item:=by
  intro X hP hw hK hc i Bb s σ H E I hf st hg;subst hP hw hK;obtain⟨f0,f1,f2,f3,f4,f5⟩:=hf it (by simp);have hg':i<x.cps.size:=by have:i<x.cps.toList.length:=hg;simpa using this
  refine (W X.A (I.ok.hd hc)).item i s _ _ hg' st λv h' tk hv st' kk=>?_;obtain⟨c,u,hcc,rfl⟩:=hv;have I1:Inv X Bb σ H { s with heap:=h',toks:=tk }:=I.turned (λb o hb e=>kk b o (by simpa using hb) e) f0 f1 f3 f4 f5;obtain⟨o,e,cl,d⟩:=id st';refine#[_,rfl,Vz (s:={ s with heap:=h',toks:=tk }) e cl d hty #[.str (tx [c]),H,I1,#[u,rfl],#[rfl,c,?_,rfl],st',λb hb=>(hf b hb).1]];show x.cps.toList[i]? = AX c;simpa using hcc
 done:=by
  intro X hP hw hK hc i Bb s σ H E I hf st hg;subst hP hw hK;obtain⟨f0,f1,f2,f3,f4,f5⟩:=hf it (by simp);have hi:i=x.cps.size:=by have:i=x.cps.toList.length:=hg;simpa using this
  rw[hi]at st;exact (W X.A (I.ok.hd hc)).done s _ _ st λh' tk kk=>#[rfl,I.turned (λb o hb e=>kk b o (by simpa using hb) e) f0 f1 f3 f4 f5]
 self:=λA i s Q E st h=>S A i s Q E st h
section
variable{X:Cx}{tg:sF}
def zfq(tl:TE):TI:=λσ H R=>tl σ H λv H1=>∃x,v=.str x/\R (Its x) H1
theorem Qj{l:sF}{tl:TE}(hl:PE X l tl):PI X tg l (zfq tl):=by
 intro Bb s σ H R I h;refine thn (hl Bb s σ H _ I h) λv s1 ⟨y,H1,I1,r1,q1⟩=>?_;obtain⟨x,e,q⟩:=q1;subst e;obtain⟨t,rfl⟩:=r1
 have fin:∀(ty:String) (hty:["enumerate","zip","dict_itemiterator","dict_reverseitemiterator","odict_iterator","itertools.zip_longest","itertools.pairwise"].contains ty=Ba)
   (W:∀A:sE,A.handled=AY->Walks X.prog X.w A s1⁻¹ [s1⁻¹] [s1⁻¹] x.cps.size (SignAt x) λi h=>h.IsStrIter s1⁻¹ ty x t i)
   (S:∀(A:sE) (i:Nat) (s:su) (Q:sr->su->Prop) (E:sr->su->Prop),s.heap.IsStrIter s1⁻¹ ty x t i->Q (.ref s1⁻¹) s->sw (model X.prog X.w) A (pyIter (.ref s1⁻¹)) Q E s),
   PIE X Bb σ tg R (.ref s1⁻¹) { s1 with heap:=s1.heap.push { cls:=.type ty,data:=.fields (List.toArray [.str x t,.int 0 0]) } }:=λty hty W S=>by
  refine#[s1⁻¹,[s1⁻¹],_,_,H1,rfl,I1.kept (t':=s1.toks) λb o e=>ac _ e,Ks hty _ x t W S,#[_,aB _ rfl,rfl,rfl],λb hb=>?_,q];have e:b=s1⁻¹:=by simpa using hb
  subst e;exact I1.fpOk (al _) (I1.hok.fresh (al _))
 cases ha:x.cps.all (· < 128)
 ·exact wpAny_pyIter_wide ha (fin "str_iterator" ∅ (λA hA=>Walks.strWide hA _ x t) λA i s Q E st h=>wpAny_pyIter_striter_wide st h)
 ·exact wpAny_pyIter_ascii ha (fin "str_ascii_iterator" ∅ (λA hA=>Walks.strAscii hA _ x t) λA i s Q E st h=>wpAny_pyIter_striter_ascii st h)
end
theorem zbu{x:sB}{g:TG}{tb:TS}{D:vG}{σ:St}{H:Hp}(Pv:Nat->St->Hp->Prop)(h0:Pv 0 σ H)
  (hs:∀i c σ H,(cs x)[i]? = AX c->Pv i σ H->g (.str (tx [c])) σ H λσ2 H2=>tb { D with nx:=Pv (i+1),ct:=Pv (i+1),bk:=D.nx } σ2 H2) (hd:∀σ H,Pv (cs x).length σ H->D.nx σ H) :
  ∃W:Nat->Nat->St->Hp->Prop,(∃m,W 0 m σ H)/\∀i m σ H,W i m σ H ->
   ((Its x).stop i H/\D.nx σ H)\/((Its x).go i H/\∃N:St->Hp->Prop,(∀σ' H',N σ' H'->∃m',m'<m/\W (i+1) m' σ' H')/\∀v H',(Its x).yld i H v H'->g v σ H' λσ2 H2=>tb { D with nx:=N,ct:=N,bk:=D.nx } σ2 H2):=by
 refine#[λi m σ H=>m=(cs x).length - i/\i<=(cs x).length/\Pv i σ H,#[(cs x).length,by simp,aD _,h0],?_];rintro i m σ H ⟨rfl,hi,p⟩;by_cases hlt:i<(cs x).length
 ·refine .inr #[hlt,Pv (i+1),λσ' H' p'=>#[(cs x).length - (i+1),⋯,rfl,hlt,p'],λv H' y=>?_];obtain⟨e,c,hc,ev⟩:=y;subst e ev;exact hs i c σ _ hc p
 ·have e:i=(cs x).length:=⋯;subst e;exact .inl #[rfl,hd σ H p]
noncomputable def Ite(x:sB):It:=#[λi _=>i<(cs x).length,λi H v H'=>∃p c,H p=AY/\(cs x)[i]? = AX c/\v=.ref p/\H'=upd H p (.tup [.int (i:Nat),.str (tx [c])]),λi _=>i=(cs x).length]
section
variable{X:Cx}
def zeU(ta:TA):TI:=λσ H R=>ta σ H λvs H1=>∃x,vs=[.str x]/\R (Ite x) H1
end
theorem uV{env:Al}:∀(names:List (sB × tY)) (Bd:List (sB × sq)),
    (∀y,(y,NameKind.free) ∈ names->∃c,env.cells.lookup y=AX c)->(∀y c,Bd.lookup y=AX c->env.cells.lookup y=AX c) ->
    ∃cl,(forIn names Bd λ(x:sB × tY) (cs:List (sB × sq))=>if (x.2 == NameKind.free)=AZ then (do let a <- cellOf env x.1;pure (ForInStep.yield ((x.1,a)::cs)))else pure (ForInStep.yield cs):AO (List (sB × sq)))=pure cl /\
      (∀y c,cl.lookup y=AX c->env.cells.lookup y=AX c)/\(∀y,(y,NameKind.free) ∈ names\/(Bd.lookup y).isSome=AZ->∃c,cl.lookup y=AX c)
  | [],Bd,_,ha=>#[Bd,rfl,ha,λy h=>by
      rcases h with h | h
      . cases h
      . exact Bs.mp h]
  | (n,k)::r,Bd,hn,ha=>by
    by_cases hk:k=NameKind.free
    . subst hk
      obtain⟨c,hc⟩:=hn n (by simp)
      have ha':∀y d,((n,c)::Bd).lookup y=AX d->env.cells.lookup y=AX d:=λy d e=>by
        rw[aX]at e;by_cases hy:(y == n)=AZ
        . rw[hy]at e
          have:y=n:=eq_of_beq hy;subst this;cases e;exact hc
        . have hy':(y == n)=Ba:=by simpa using hy
          rw[hy']at e;exact ha y d e
      obtain⟨cl,e,h1,h2⟩:=uV r ((n,c)::Bd) (λy hy=>hn y (am _ hy)) ha';refine#[cl,?_,h1,λy hy=>h2 y ?_]
      . rw[db]
        have ec:cellOf env n=pure c:=by unfold cellOf;rw[hc]
        erw[beq_self_eq_true,if_true,ec,pure_bind]
        exact e
      . rcases hy with hy | hy
        . rcases Bg.mp hy with q | q
          . cases q
            exact .inr (by simp)
          . exact .inl q
        . refine .inr ?_
          rw[aX];by_cases hyn:(y == n)=AZ
          . rw[hyn];rfl
          . have hy':(y == n)=Ba:=by simpa using hyn
            rw[hy'];exact hy
    . obtain⟨cl,e,h1,h2⟩:=uV r Bd (λy hy=>hn y (am _ hy)) ha
      refine#[cl,?_,h1,λy hy=>h2 y ?_]
      . rw[db]
        have ek:(k == NameKind.free)=Ba:=by simpa using hk
        erw[ek,bD,if_false,pure_bind]
        exact e
      . rcases hy with hy | hy
        . rcases Bg.mp hy with q | q
          . cases q;exact absurd rfl hk
          . exact .inl q
        . exact .inr hy
theorem uk{scope:tw}{env:Al}(hn:∀y,(y,NameKind.free) ∈ scope.names->∃c,env.cells.lookup y=AX c) :
  ∃cl,closureFor scope env=pure cl/\(∀y c,cl.lookup y=AX c->env.cells.lookup y=AX c)/\(∀y,(y,NameKind.free) ∈ scope.names->∃c,cl.lookup y=AX c):=by
 obtain⟨cl,e,h1,h2⟩:=uV scope.names [] hn (λy c h=>by cases h);refine#[cl,?_,h1,λy hy=>h2 y (.inl hy)];unfold closureFor
 erw[bind_pure]
 exact e
noncomputable abbrev V4(ifs:List sF)(env:Al):AO Bool :=
 forIn ifs AZ λc r=>if r=AZ then (do let ok <- isTrue c env (eval c env);pure (ForInStep.yield ok))else pure (ForInStep.yield r)
theorem Ue{prog:sy}{w:sC}{A:sE}{R:As->su->Prop}{s:su}{elt tg iter:sF}{ifs:List sF}{scope:tw}{pos:tG}{it Bd:sr}{env:Al}
  (I:Nat->su->Prop) {EE:sr->su->Prop} (hEE:EE=notedBy (model prog w) A env λe s'=>R (.error e) s')
  (turn:∀n s,I n s->sw (model prog w) A (pyNext it) (λr s1=>match r with
   | none=>R (.ok .next) s1
   | some v=>sw (model prog w) A (letOwnedTupleGo tg it v) (λ_ s2=>sw (model prog w) A (assign tg env v) (λ_ s3 =>
     sw (model prog w) A (V4 ifs env) (λok s4=>if ok=AZ then
      sw (model prog w) A (eval elt env) (λx s5=>sw (model prog w) A (call (.builtin "list.append") [Bd,x]) (λ_ s6=>∃m,m<n/\I m s6) EE s5) EE s4
      else ∃m,m<n/\I m s4) EE s3) EE s2) EE s1) EE s) (n:Nat) (h:I n s) :
  tN (model prog w) A (.compLoop (.ListComp elt [#[tg,iter,ifs,0]] scope pos) 0 it Bd env) R s:=by
 subst hEE;refine codeAny_loop rfl I (λn s hI=>?_) n h;show sw _ A ((compTurn (.ListComp elt [#[tg,iter,ifs,0]] scope pos) 0 it Bd env).onRaise (λx=>do noteFrame x env;theTreesLotGoes x)) _ _ s;refine wpAny_noted ?_;rw[compTurn_list];refine rZ (tD (rZ (thn (turn n s hI) λr s1 h1=>?_)))
 cases r with
 | none=>exact sf h1
 | some v =>
  refine rZ (thn h1 λ_ s2 h2=>rZ (thn h2 λ_ s3 h3=>rZ (thn h3 λok s4 h4=>?_)))
  cases ok with
  | false=>exact sf #[rfl,h4]
  | true=>exact rZ (rZ (thn h4 λx s5 h5=>rZ (thn h5 λ_ s6 h6=>sf (sf #[rfl,h6]))))
noncomputable def yx(X:Cx)(scope:tw)(cl:List (sB × sq))(C:sq)(N:List sB)(Bb:List (sq × sX))(s3:su)(H3:Hp)(fp:List sq)(E:sr->su->Prop):Cx :=
 { X with N:=N,s₀:=s3,H₀:=H3,env:=compEnvC scope cl C X.env,outer:=X.stack,ex:=fp,fn:=λ_=>Ba,pn:=X.pn ++ Bb,xe:=E }
noncomputable def vC(σ:St)(own:Nat)(ix:()):St:=aW own AY ++ ix.map λi=>(σ[i]?).join
structure kj(X:Cx)(scope:tw)(own caps:List sB)(ix:()):Prop where
 kind:scope.kind=.function
 nocell:∀y ∈ scope.names,y.2≠.cell
 names:∀y ∈ scope.names,y.2=.local->scope.names.lookup y.1=AX .local
 free:∀y,(y,NameKind.free) ∈ scope.names->X.env.kindOf y=AX .cell\/X.env.kindOf y=AX .free
 hown:∀y ∈ own,scope.names.lookup y=AX .local
 hcaps:∀y ∈ caps,scope.names.lookup y=AX .free
 hix:ix.map (λi=>X.N[i]?)=caps.map AX
theorem xU{α β:Type}[BEq α][LawfulBEq α]{l:List (α × β)}{a:α}{b:β}(h:l.lookup a=AX b):(a,b) ∈ l:=by
 induction l with
 | nil=>cases h
 | cons p r ih =>
  obtain⟨c,d⟩:=p;rw[aX]at h;by_cases e:(a == c)=AZ
  ·rw[e]at h;cases h;rw[eq_of_beq e];exact ax
  ·have e':(a == c)=Ba:=by simpa using e
   rw[e']at h;exact am _ (ih h)
theorem vF{scope:tw}{env:Al}(hf:env.scope.kind=.function):∀{names:List (sB × tY)} {x:sB} {k:tY},names.lookup x=AX k ->
    (names.map λ(n,k)=>if (k == NameKind.free && env.scope.kind == .function && env.kindOf n == AX .cell)then (n,NameKind.cell)else (n,k)).lookup x=AX (if (k == NameKind.free && env.scope.kind == .function && env.kindOf x == AX .cell)=AZ then .cell else k)
  | [],_,_,h=>by simp at h
  | (n,k')::r,x,k,h=>by
    have ih:=@vF scope env hf r x k;show bg x ((if (k' == NameKind.free && env.scope.kind == .function && env.kindOf n == AX .cell)=AZ then (n,NameKind.cell)else (n,k'))::_)=_;by_cases hx:(x == n)=AZ
    . have hxn:x=n:=eq_of_beq hx
      subst hxn;rw[aX,hx]at h;cases h;by_cases c:(k' == NameKind.free && env.scope.kind == .function && env.kindOf x == AX .cell)=AZ
      . rw[if_pos c,if_pos c,aX,hx]
      . rw[if_neg c,if_neg c,aX,hx]
    . have hx':(x == n)=Ba:=by simpa using hx
      rw[aX,hx']at h;by_cases c:(k' == NameKind.free && env.scope.kind == .function && env.kindOf n == AX .cell)=AZ
      . rw[if_pos c,aX,hx'];exact ih h
      . rw[if_neg c,aX,hx'];exact ih h
theorem qe{scope:tw}{env:Al}:∀{names:List (sB × tY)} {x:sB},names.lookup x=AY ->
    (names.map λ(n,k)=>if (k == NameKind.free && env.scope.kind == .function && env.kindOf n == AX .cell)then (n,NameKind.cell)else (n,k)).lookup x=AY
  | [],_,_=>rfl
  | (n,k')::r,x,h=>by
    have ih:=@qe scope env r x;show bg x ((if (k' == NameKind.free && env.scope.kind == .function && env.kindOf n == AX .cell)=AZ then (n,NameKind.cell)else (n,k'))::_)=_;by_cases hx:(x == n)=AZ
    . rw[aX,hx]at h;cases h
    . have hx':(x == n)=Ba:=by simpa using hx
      rw[aX,hx']at h;by_cases c:(k' == NameKind.free && env.scope.kind == .function && env.kindOf n == AX .cell)=AZ
      . rw[if_pos c,aX,hx'];exact ih h
      . rw[if_neg c,aX,hx'];exact ih h
section
variable{X:Cx}{scope:tw}{own caps:List sB}{ix:()}{cl:List (sB × sq)}{Bb:List (sq × sX)}{σ:St}{H:Hp}{s:su}{fp:List sq}{E:sr->su->Prop}
theorem Vn(S:kj X scope own caps ix)(hcl1:∀y c,cl.lookup y=AX c->X.env.cells.lookup y=AX c)(hcl2:∀y,(y,NameKind.free) ∈ scope.names->∃c,cl.lookup y=AX c)
  (I:Inv X Bb σ H s) (hfp:∀b ∈ fp,wm X Bb H b) (hlt:∀b ∈ fp,b<s⁻¹) {h4:sI} {t4:Nat} (hn:h4.Ns s⁻¹ λ_=>AY) (hk:∀b o,s.heap.get? b=AX o->h4.get? b=AX o) :
  Inv (yx X scope cl s⁻¹ (own ++ caps) Bb s H fp E) [] (vC σ own.length ix) H { s with heap:=h4,toks:=t4 }:=by
 have kf:X.env.scope.kind=.function:=I.ok.kind;have nofp:∀b ∈ fp,b≠s⁻¹:=λb hb=>aA (hlt b hb)
 have cellLt:∀x c,X.env.cells.lookup x=AX c->c<s⁻¹:=λx c e=>by
  obtain⟨v,o,ho,_⟩:=I.cell x c e;exact ao ho
 have kinds:∀y k,scope.names.lookup y=AX k->(relabel scope X.env).names.lookup y=AX (if (k == NameKind.free && X.env.scope.kind == .function && X.env.kindOf y == AX .cell)=AZ then .cell else k):=λy k e=>vF (scope:=scope) kf e
 have back:∀y k,(relabel scope X.env).names.lookup y=AX k->∃k',scope.names.lookup y=AX k'/\k=(if (k' == NameKind.free && X.env.scope.kind == .function && X.env.kindOf y == AX .cell)=AZ then .cell else k'):=λy k e=>by
  cases q:scope.names.lookup y with
  | none =>
   have:=qe (scope:=scope) (env:=X.env) q;have e':(scope.names.map λ(n,k)=>if (k == NameKind.free && X.env.scope.kind == .function && X.env.kindOf n == AX .cell)then (n,NameKind.cell)else (n,k)).lookup y=AX k:=e;rw[this]at e';cases e'
  | some k' =>
   refine#[k',rfl,?_];have:=kinds y k' q;rw[e]at this;exact Option.some.inj this
 have isCell:∀y,scope.names.lookup y=AX .free->(relabel scope X.env).names.lookup y=AX .cell\/(relabel scope X.env).names.lookup y=AX .free:=λy e=>by
  have:=kinds y _ e;rcases S.free y (xU e)with q | q
  ·refine .inl ?_;rw[this,if_pos];rw[q,kf];rfl
  ·refine .inr ?_;rw[this,if_neg];rw[q];simp
 refine#[#[I.ok.mod,?_,I.ok.glob,I.ok.blt,al _,?_,?_,?_,I.ok.hd,I.ok.frames,.inl rfl,?_,I.bs,aM I.ok.bsz I.sz,?_,?_,I.stack,I.stkFree],rfl,I.bare,Un.kept hk,#[_,hn,?_],?_,?_,?_,?_,I.hok.kept hk,?_]
 ·show (relabel scope X.env).kind=.function;exact S.kind
 ·intro x y c h1 h2;exact I.ok.inj x y c (hcl1 x c h1) (hcl1 y c h2)
 ·intro y hy;have hy':(relabel scope X.env).names.lookup y=AX .cell\/(relabel scope X.env).names.lookup y=AX .free:=hy
  have:scope.names.lookup y=AX .free:=by
   rcases hy' with q | q
   ·obtain⟨k',e,ek⟩:=back y _ q;by_cases c:(k' == NameKind.free && X.env.scope.kind == .function && X.env.kindOf y == AX .cell)=AZ
    ·rw[bX,bX]at c;rw[e,eq_of_beq c.1.1]
    ·rw[if_neg c]at ek;exact absurd ek.symm (S.nocell _ (xU e))
   ·obtain⟨k',e,ek⟩:=back y _ q;by_cases c:(k' == NameKind.free && X.env.scope.kind == .function && X.env.kindOf y == AX .cell)=AZ
    ·rw[if_pos c]at ek;cases ek
    ·rw[if_neg c]at ek;rw[e,<- ek]
  exact hcl2 y (xU this)
 ·intro x c h _;exact absurd h (by simp [yx])
 ·intro b hb;refine#[nofp b hb,λx c e=>?_];exact (hfp b hb).2.2.2.2.1 x c (hcl1 x c e)
 ·intro b o e hb;obtain⟨_,_,_,q,_⟩:=hfp b hb;rcases q with q | q
  ·exact I.ok.noex b o e q
  ·exact absurd (aw (ao e) (aM I.ok.bsz q)) (cK _)
 ·intro b hb z;rcases Bg.mp (I.stkSub b z)with e | e
  ·exact (hfp b hb).2.1 e
  ·exact (hfp b hb).2.2.1 e
 ·intro i y v h1 h2 h3
  have hi:own.length<=i:=by
   refine cS λhlt'=>?_;unfold vC at h2;rw[bB (by rw[cb];exact hlt'),eR,if_pos hlt']at h2;cases h2
  have h1':caps[i - own.length]? = AX y:=by
   have:(own ++ caps)[i]? = AX y:=h1;rw[bA hi]at this;exact this
  have h2':(ix.map λi=>(σ[i]?).join)[i - own.length]? = AX (AX v):=by
   unfold vC at h2;rw[bA (by rw[cb];exact hi),cb]at h2;exact h2
  rw[aq]at h2';have hx:=congrArg (λl=>l[i - own.length]?) S.hix
  erw[aq,h1',Option.map_some]at hx
  cases q:ix[i - own.length]? with
  | none=>rw[q]at h2';cases h2'
  | some j =>
   rw[q]at h2' hx;have hj:X.N[j]? = AX y:=Option.some.inj hx;have hv:(σ[j]?).join=AX v:=Option.some.inj h2'
   have hσ:σ[j]? = AX (AX v):=by
    cases r:σ[j]? with
    | none=>rw[r]at hv;cases hv
    | some z=>rw[r]at hv;cases z with
     | none=>cases hv
     | some z=>cases hv;rfl
   have hfree:scope.names.lookup y=AX .free:=S.hcaps y (ag h1');have hkc:=S.free y (xU hfree);obtain⟨m,hm,hl⟩:=I.loc;obtain⟨u,ru,l⟩:=hl j y v hj hσ (.inr hkc);refine#[u,ru,.inr #[isCell y hfree,?_]];rcases l with ⟨k,_⟩ | ⟨_,c,e,z⟩
   ·have:X.env.kindOf y=AX .local:=k;rcases hkc with q' | q' <;> (rw[q']at this;cases this)
   ·obtain⟨c',e'⟩:=hcl2 y (xU hfree);have:=hcl1 y c' e';rw[e]at this;cases this;obtain⟨o,ho,hd⟩:=z;exact#[c,e',o,hk c o ho,hd]
 ·intro x c e;obtain⟨v,o,ho,hd⟩:=I.cell x c (hcl1 x c e);exact#[v,o,hk c o ho,hd]
 ·exact I.hok.fresh (al _)
 ·intro x c e;exact I.freeC x c (hcl1 x c e)
 ·intro p hp
  have hp':p ∈ X.pn ++ Bb:=by
   have:p ∈ (X.pn ++ Bb) ++ []:=hp
   rwa [aT]at this
  obtain⟨e,n,ne,nf,d⟩:=I.pin p hp';refine#[hk _ _ e,n,?_,λz=>?_,d]
  ·exact aA (ao e)
  ·rcases Bg.mp (I.stkSub p.1 z)with q | q
   ·exact ne q
   ·exact nf q
 ·show (vC σ own.length ix).length=(own ++ caps).length;have:=congrArg fP S.hix;rw[ae,ae]at this;unfold vC;rw[aj,cb,ae,aj,this]
end
def xb(σ σ':St):Prop:=σ.length=σ'.length/\∀(i:Nat) v,σ[i]? = AX (AX v)->σ'[i]? = AX (AX v)
def PTs(X:Cx)(ifs:List sF)(t:TT):Prop :=
 ∀(Bb:List (sq × sX)) (s:su) (σ:St) (H:Hp) (Q:Bool->Hp->Prop),Inv X Bb σ H s->t σ H Q->sw (model X.prog X.w) X.A (V4 ifs X.env) (TP X Bb σ Q) X.xe s
def wS:TT:=λ_ H Q=>Q AZ H
theorem yG{X:Cx}:PTs X [] wS:=λ_ _ _ H _ I h=>sf #[H,I,h]
theorem Uz{X:Cx}{c:sF}{t:TT}(h:PT X c t):PTs X [c] t:=λBb s σ H Q I hq=>by
 show sw _ _ (forIn [c] AZ _) _ _ s
 erw[db,fj,if_true]
 exact rZ (rZ (thn (h Bb s σ H Q I hq) λb s' hb=>sf (sf hb)))
def j8(wi:TI)(g:TG)(tt:TT)(te:TE)(own:Nat)(ix:()):TE:=λσ H Q=>wi σ H λJ H1=>∀D,H1 D=AY->∃W:Nat->Nat->List V->Hp->Prop,(∃m,W 0 m [] (upd H1 D (.lst []))) /\
 ∀i m Bd H',W i m Bd H'->(J.stop i H'/\Q (.ref D) H')\/(J.go i H'/\∀x H2,J.yld i H' x H2->g x (vC σ own ix) H2 λσ3 H3=>xb (vC σ own ix) σ3/\tt σ3 H3 λb H4=>if b=AZ then
  te σ3 H4 λv H5=>H5 D=AX (.lst Bd)/\Bd.length<sk/\∃m',m'<m/\W (i+1) m' (Bd ++ [v]) (upd H5 D (.lst (Bd ++ [v])))
  else ∃m',m'<m/\W (i+1) m' Bd H4)
theorem Un.but{fs ex:List sq}{H H':Hp}{h h1 h2:sI}{a:sq}(u:Un fs ex H H' h h1)(sb:Heap.SameBut a h1 h2)(ha:h.get? a=AY):Un fs ex H H' h h2:=by
 have ne:∀b o,h.get? b=AX o->b≠a:=λb o e z=>by subst z;rw[ha]at e;cases e
 refine#[λb o e n hb hx=>(sb.2 b (ne b o e)).trans (u.keep b o e n hb hx),λb o e n hb hx=>?_,u.free,λb o e hx=>?_,u.tups,u.frzs,u.tbls]
 ·obtain⟨sl,q⟩:=u.slot b o e n hb hx;exact#[sl,(sb.2 b (ne b o e)).trans q]
 ·obtain⟨o',q⟩:=u.there b o e hx;exact#[o',(sb.2 b (ne b o e)).trans q]
theorem HOk.but{P:sy}{w:sC}{H:Hp}{h1 h2:sI}{a:sq}(ok:HOk P w H h1)(sb:Heap.SameBut a h1 h2)(ha:H a=AY):HOk P w H h2:=λb ob e=>by
 refine (ok b ob e).stay (λc u hc q=>(sb.2 c ?_).trans q) (λ_ q=>q) λ_ _ q=>q;rintro rfl;rcases hc with rfl | hc
 ·rw[ha]at e;cases e
 ·rw[ha]at hc;cases hc
section
variable{X:Cx}{scope:tw}{own caps:List sB}{ix:()}{elt tg iter:sF}{ifs:List sF}{pos:tG}{wi:TI}{g:TG}{tt:TT}{te:TE}
def Zd(i:Nat)(t:TE):TS:=λD σ H=>t σ H λx H1=>D.nx (σ.set i (AX x)) H1
end
section
variable{X:Cx}{a b:sF}{ta tb:TE}{pos:tG}
def YT:R2:=λx y H Q=>match x with | .int i=>onInt y λj=>Q (.int (i+j)) H | .str i=>onStr y λj=>i.length+j.length<=sk/\Q (.str (i ++ j)) H | .ref l=>zcP (.ref l) y H Q | _=>False
theorem wo:OpR X (binaryOp .Add) YT:=by
 intro Bb s σ H x y v u Q I rx ry h
 cases x with
 | int i=>exact yu Bb s σ H (.int i) y v u Q I rx ry h
 | str i=>exact yw Bb s σ H (.str i) y v u Q I rx ry (by obtain⟨j,rfl,q⟩:=onStr.of h;exact#[i,j,rfl,rfl,q])
 | ref l=>exact We Bb s σ H (.ref l) y v u Q I rx ry h
 | _=>exact h.elim
def Kk:R2:=λx y H Q=>match x with | .int i=>onInt y λj=>CMul i j/\Q (.int (i * j)) H | .str z=>onInt y λn=>0<=n/\n<=1000/\z.length<=1000/\Q (.str (tx (aW n.toNat (cs z)).flatten)) H | _=>False
theorem Zk:OpR X (binaryOp .Mult) Kk:=by
 intro Bb s σ H x y v u Q I rx ry h
 cases x with
 | int i=>exact jw Bb s σ H (.int i) y v u Q I rx ry h
 | str z=>exact Vb Bb s σ H (.str z) y v u Q I rx ry (by obtain⟨n,rfl,q⟩:=onInt.of h;exact#[z,n,rfl,rfl,q])
 | _=>exact h.elim
def zeC:R2:=λx y H Q=>match x with | .int i=>onInt y λj=>Q (.bl (decide (i<j))) H | .str i=>onStr y λj=>Q (.bl (decide (cs i<cs j))) H | _=>False
theorem Q5:OpR X (sK .Lt) zeC:=by
 intro Bb s σ H x y v u Q I rx ry h
 cases x with
 | int i=>exact Vt Bb s σ H (.int i) y v u Q I rx ry h
 | str i=>exact op_lt_str' Bb s σ H (.str i) y v u Q I rx ry (by obtain⟨j,rfl,q⟩:=onStr.of h;exact#[i,j,rfl,rfl,q])
 | _=>exact h.elim
def zeB:R2:=λx y H Q=>match x with | .int i=>onInt y λj=>Q (.bl (decide (i<=j))) H | .str i=>onStr y λj=>Q (.bl (!(decide (cs j<cs i)))) H | _=>False
theorem xy:OpR X (sK .LtE) zeB:=by
 intro Bb s σ H x y v u Q I rx ry h
 cases x with
 | int i=>exact zdX Bb s σ H (.int i) y v u Q I rx ry h
 | str i=>exact Qz Bb s σ H (.str i) y v u Q I rx ry (by obtain⟨j,rfl,q⟩:=onStr.of h;exact#[i,j,rfl,rfl,q])
 | _=>exact h.elim
theorem UX:OpR X (sK .Gt) (λx y H Q=>∃i j,x=.str i/\y=.str j/\Q (.bl (decide (cs j<cs i))) H):=by
 intro Bb s σ H x y v u Q I rx ry h;obtain⟨i,j,rfl,rfl,q⟩:=h;obtain⟨t,rfl⟩:=rx;obtain⟨t',rfl⟩:=ry;exact PySem.P.gt_str #[.bl _,H,I,rfl,q]
def zeA:R2:=λx y H Q=>match x with | .int i=>onInt y λj=>Q (.bl (decide (j<i))) H | .str i=>onStr y λj=>Q (.bl (decide (cs j<cs i))) H | _=>False
theorem Wh:OpR X (sK .Gt) zeA:=by
 intro Bb s σ H x y v u Q I rx ry h
 cases x with
 | int i=>exact KQ Bb s σ H (.int i) y v u Q I rx ry h
 | str i=>exact UX Bb s σ H (.str i) y v u Q I rx ry (by obtain⟨j,rfl,q⟩:=onStr.of h;exact#[i,j,rfl,rfl,q])
 | _=>exact h.elim
def zd2(K:so):V->Option Int->Option Int->Hp->VK->Prop:=λx lo hi H Q=>match x with | .ref a=>zd0 K (.ref a) lo hi H Q | .str z=>zes (.str z) lo hi H Q | _=>False
theorem QA:SlR X (zd2 X.K):=by
 intro Bb s σ H x v vl vu lo hi sl Q I rx hs pl pu h
 cases x with
 | ref a=>exact Y3 Bb s σ H (.ref a) v vl vu lo hi sl Q I rx hs pl pu h
 | str z=>exact wA Bb s σ H (.str z) v vl vu lo hi sl Q I rx hs pl pu h
 | _=>exact h.elim
noncomputable def cV:V->Option sr
 | .ty n=>AX (.type n)
 | .ref a=>AX (.ref a)
 | _=>AY
theorem KT:vQ X (.builtin "isinstance") (λxs H Q=>∃x c u t b,xs=[x,c]/\cV c=AX u/\XV X.K H x t/\aO X.K t u=AX b/\Q (.bl b) H):=by
 intro Bb s σ H xs us Q I r h;obtain⟨x,c,u,t,b,rfl,hc,ty,e,q⟩:=h;obtain⟨v,w',rfl,rx,rc⟩:=QF r
 have:w'=u:=by
  cases c with
  | ty n=>cases hc;exact rc
  | ref a=>cases hc;exact rc
  | _=>cases hc
 subst this;exact QJ I rx ty e λtk=>#[.bl b,H,I.tok tk,rfl,q]
end
noncomputable def Iel(K:so)(a:sq):It:=#[λi H=>∃xs x,SqL K H a xs/\xs[i]? = AX x,λi H v H'=>∃p x,H p=AY/\(∀xs,SqL K H a xs->xs[i]? = AX x)/\v=.ref p/\H'=upd H p (.tup [.int (i:Nat),x]),λi H=>∃xs,SqL K H a xs/\i=xs.length]
theorem VA{P:sy}{w:sC}{K:so}{elts:List sF}{x1:Nat}{tpos:tG}(e it a:sq)(hei:e≠it) :
  Jx P w K (.Tuple elts x1 tpos) (Iel K a) [e,it] e (λi h=>(∃old,IsEnum h e it i old)/\h.IsListIter it a i) where
 mem:=by simp
 obj:=λi h st b hb=>by
  obtain⟨⟨old,he⟩,o,e2,c,d⟩:=st;rcases Bg.mp hb with q | q
  ·subst q;exact#[_,he,λv z=>by have z':Data.fields _=Data.cell v:=z;cases z']
  ·have q':b=it:=by simpa using q
   subst q';exact#[o,e2,λv z=>by rw[d]at z;cases z]
 keep:=λi h h' st k=>by
  obtain⟨⟨old,he⟩,st⟩:=st;exact#[#[old,k e (by simp) _ he],st.at λo q=>k it (by simp) o q]
 item:=by
  intro X hP hw hK hc i Bb s σ H E I hf st hg;subst hP hw hK;obtain⟨⟨old,he⟩,st⟩:=st;obtain⟨xs,x,hq,hx⟩:=hg;obtain⟨its,rv,p,hz⟩:=I.list hq;obtain⟨u,hu,ru⟩:=rv.get hx;have hA:X.A.in1.handled=AY:=I.ok.hd hc;have pl:=p.isList
  have hai:a≠it:=λz=>by
   subst z;obtain⟨o1,q1,c1,_⟩:=st;obtain⟨o2,q2,c2,_⟩:=pl;rw[q1]at q2;cases q2;rw[c1]at c2;exact absurd (Value.type.inj c2) ∅
  have hea:e≠a:=λz=>by
   subst z;obtain⟨o2,q2,c2,_⟩:=pl;rw[he]at q2;cases q2;exact absurd (Value.type.inj c2) ∅
  refine wpAny_pyNext_enum_itemD (Draws.list (A:=X.A.in1) hA it a hai its.toArray) he #[st,pl] (by rw[ak];exact (Be.mp hu).1) hei (by simp [hei,hea]) λv h' tk hv ho st' hT hsz kk=>?_
  have ev:v=u:=by
   have hv':its.toArray[i]? = AX v:=hv;rw[List.getElem?_toArray,hu]at hv';exact (Option.some.inj hv').symm
  subst ev;refine#[_,rfl,wpAny_letOwnedTupleGo_enum ho λh2 he2 sb=>?_];have elt:e<s⁻¹:=ao he;have ilt:it<s⁻¹:=by obtain⟨o,q,_⟩:=st;exact ao q
  have I1:Inv X Bb σ H { s with heap:=h2,toks:=tk+1 }:=Inv.turns (fp:=[e,it]) I (λb o hb q=>by
   have hb':b≠e/\b≠it:=by simpa using hb
   exact (sb.2 b hb'.1).trans (kk b o hb'.1 hb'.2 q)) hf
  have hp:H s⁻¹=AY:=I.hok.fresh (al _);have hT2:h2.get? s⁻¹=AX { cls:=.type "tuple",data:=.seq (List.toArray [.int (i:Nat) tk,v]) }:=(sb.2 _ (cp elt)).trans hT
  have I2:Inv X Bb σ (upd H s⁻¹ (.tup [.int (i:Nat),x])) { s with heap:=h2,toks:=tk+1 } :=
   Inv.track I1 (I.fpOk (al _) hp) #[by show 2<=sk;decide,[.int (i:Nat) tk,v],.cons #[_,rfl] (.cons ru .nil),#[_,hT2,rfl,_,rfl]]
  refine#[.ref s⁻¹,_,I2,rfl,#[s⁻¹,x,hp,λys hy=>by rw[I.list_inj hy hq];exact hx,rfl,rfl],#[#[_,by simpa using he2],?_],λb hb=>?_]
  ·exact st'.1.at λo q=>(sb.2 it (Ne.symm hei)).trans q
  ·rw[zm]
   ·exact (hf b hb).1
   ·rcases Bg.mp hb with q | q
    ·rw[q];exact aA elt
    ·have q':b=it:=by simpa using q
     rw[q'];exact aA ilt
 done:=by
  intro X hP hw hK hc i Bb s σ H E I hf st hg;subst hP hw hK;obtain⟨⟨old,he⟩,st⟩:=st;obtain⟨xs,hq,hi⟩:=hg;obtain⟨its,rv,p,hz⟩:=I.list hq;have pl:=p.isList
  have hai:a≠it:=λz=>by
   subst z;obtain⟨o1,q1,c1,_⟩:=st;obtain⟨o2,q2,c2,_⟩:=pl;rw[q1]at q2;cases q2;rw[c1]at c2;exact absurd (Value.type.inj c2) ∅
  have hA:X.A.in1.handled=AY:=I.ok.hd hc;have hi':i=its.toArray.size:=by rw[ak,<- rv.length];exact hi
  subst hi';refine wpAny_pyNext_enum_endD (Draws.list (A:=X.A.in1) hA it a hai its.toArray) he #[st,pl] λh' hx=>#[rfl,?_];exact Inv.turns (fp:=[e,it]) (t':=s.toks) I (λb o hb q=>hx b o (λz=>hb (by simp [z])) q) hf
 self:=λA i s Q E st h=>by
  obtain⟨⟨old,he⟩,_⟩:=st;exact AC he h
section
variable{X:Cx}
def QY(K:so)(ta:TA):TI:=λσ H R=>ta σ H λvs H1=>∃a,vs=[.ref a]/\(∃xs,SqL K H1 a xs)/\R (Iel K a) H1
theorem wg{a:sF}{ta:TA}{p pos tpos:tG}{elts:List sF}{x1:Nat}(hg:Gl X "enumerate")(hm:X.mg "enumerate" = AY)(ha:PA X [a] ta)(hs:sj [a] X.env=[(Ba,eval a X.env)]:=by rfl) :
  PI X (.Tuple elts x1 tpos) (.Call (.Name "enumerate" p) [a] [] pos) (QY X.K ta):=by
 intro Bb s σ H R I h;refine AW (wT I hg hm PyProof.Rows.boot_enumerate (bw (thn (ha pos Bb s σ H _ I h) λus s1 ⟨vs,H1,I1,r1,q1⟩=>?_) hs rfl));obtain⟨l,e,⟨xs,hq⟩,q⟩:=q1;subst e;obtain⟨u,rfl,ru⟩:=wB r1;cases ru;obtain⟨its,rv,pl,hz⟩:=I1.list hq;refine call_enumerate_list pl.isList λh' he hit hsz kk=>?_;have I2:Inv X Bb σ H1 { s1 with heap:=h' }:=I1.kept (t':=s1.toks) kk;refine AC (s:={ s1 with heap:=h' }) (i:=0) he ?_;refine#[s1⁻¹+1,[s1⁻¹+1,s1⁻¹],_,_,H1,rfl,I2,VA _ _ l (Nat.succ_ne_self _),#[#[_,he],hit],λb hb=>?_,q]
 have hb':s1⁻¹<=b:=by
  rcases Bg.mp hb with e | e
  ·rw[e];exact cM _
  ·have:b=s1⁻¹:=by simpa using e
   rw[this];exact al _
 exact I1.fpOk hb' (I1.hok.fresh hb')
end
def ForEL(K:so)(a:sq)(g:TG)(tb:TS)(D:vG)(σ:St)(H:Hp):Prop:=∃W:Nat->Nat->St->Hp->Prop,(∃m,W 0 m σ H)/\∀i m σ H,W i m σ H ->
 ((Iel K a).stop i H/\D.nx σ H)\/((Iel K a).go i H/\∃N:St->Hp->Prop,(∀σ' H',N σ' H'->∃m',m'<m/\W (i+1) m' σ' H')/\∀x H',(Iel K a).yld i H x H'->g x σ H' λσ2 H2=>tb { D with nx:=N,ct:=N,bk:=D.nx } σ2 H2)
theorem zda{K:so}{ta:TA}{g:TG}{tb:TS}{D:vG}{σ:St}{H:Hp}:JY (QY K ta) g tb D σ H=ta σ H λvs H1=>∃a,vs=[.ref a]/\(∃xs,SqL K H1 a xs)/\ForEL K a g tb D σ H1:=rfl
theorem ForEL.by{K:so}{a:sq}{xs:List V}{g:TG}{tb:TS}{D:vG}{σ:St}{H:Hp}(Pv:Nat->St->Hp->Prop)(h0:Pv 0 σ H)(hl:∀i σ H,i<=xs.length->Pv i σ H->SqL K H a xs)
  (hs:∀i x σ H p,xs[i]? = AX x->Pv i σ H->H p=AY->g (.ref p) σ (upd H p (.tup [.int (i:Nat),x])) λσ2 H2=>tb { D with nx:=Pv (i+1),ct:=Pv (i+1),bk:=D.nx } σ2 H2) (hd:∀σ H,Pv xs.length σ H->D.nx σ H):ForEL K a g tb D σ H:=by
 refine#[λi m σ H=>m=xs.length - i/\i<=xs.length/\Pv i σ H,#[xs.length,by simp,aD _,h0],?_];rintro i m σ H ⟨rfl,hi,p⟩;have q:=hl i σ H hi p;by_cases hlt:i<xs.length
 ·refine .inr #[#[xs,xs[i],q,by simp [hlt]],Pv (i+1),λσ' H' p'=>#[xs.length - (i+1),⋯,rfl,hlt,p'],λv H' y=>?_];obtain⟨p',x,hp,hx,ev,eH⟩:=y;subst ev eH;exact hs i x σ H p' (hx xs q) p hp
 ·have e:i=xs.length:=⋯;subst e;exact .inl #[#[xs,q,rfl],hd σ H p]
def ForT(K:so)(a:sq)(g:TG)(tb:TS)(D:vG)(σ:St)(H:Hp):Prop:=∃W:Nat->Nat->St->Hp->Prop,(∃m,W 0 m σ H)/\∀i m σ H,W i m σ H ->
 ((Itt K a).stop i H/\D.nx σ H)\/((Itt K a).go i H/\∃N:St->Hp->Prop,(∀σ' H',N σ' H'->∃m',m'<m/\W (i+1) m' σ' H')/\∀x H',(Itt K a).yld i H x H'->g x σ H' λσ2 H2=>tb { D with nx:=N,ct:=N,bk:=D.nx } σ2 H2)
theorem zf5{K:so}{tl:TE}{g:TG}{tb:TS}{D:vG}{σ:St}{H:Hp}:JY (zgj K tl) g tb D σ H=tl σ H λx H1=>∃a,x=.ref a/\(∃xs,SqT K H1 a xs)/\ForT K a g tb D σ H1:=rfl
theorem ForT.by{K:so}{a:sq}{xs:List V}{g:TG}{tb:TS}{D:vG}{σ:St}{H:Hp}(Pv:Nat->St->Hp->Prop)(h0:Pv 0 σ H)(hl:∀i σ H,i<=xs.length->Pv i σ H->SqT K H a xs)
  (hs:∀i x σ H,xs[i]? = AX x->Pv i σ H->g x σ H λσ2 H2=>tb { D with nx:=Pv (i+1),ct:=Pv (i+1),bk:=D.nx } σ2 H2) (hd:∀σ H,Pv xs.length σ H->D.nx σ H):ForT K a g tb D σ H:=zcv Pv h0 hl hs hd
def zfT(K:so)(x:V)(H:Hp)(p:Bool->Prop):Prop:=match x with | .bl b=>p b | x=>∃k,zdn K x H k/\p k
def tTr(K:so)(ta:TE):TT:=λσ H Q=>ta σ H λx H'=>zfT K x H' λk=>Q k H'
theorem zba{K:so}{ta:TE}{σ:L2.St}{H:Hp}{Q:Bool->Hp->Prop}:tTr K ta σ H Q=ta σ H λx H'=>zfT K x H' λk=>Q k H':=rfl
def tBl(ta:TE):TT:=λσ H Q=>ta σ H λx H'=>onBl x λk=>Q k H'
theorem zbd{ta:TE}{σ:L2.St}{H:Hp}{Q:Bool->Hp->Prop}:tBl ta σ H Q=ta σ H λx H'=>onBl x λk=>Q k H':=rfl
section
variable{X:Cx}{a:sF}{ta:TE}
theorem yE(ha:PE X a ta)(he:∀whole,isTrue a X.env whole=(do let v <- whole;standAt a.pos;holding [v] (truthy v))):PT X a (tBl ta):=by
 intro Bb s σ H Q I h;refine isTrue_plain (thn (ha Bb s σ H _ I h) λv s1 ⟨x,H1,I1,r1,q1⟩=>?_) (he _);obtain⟨k,rfl,q1⟩:=onBl.of q1;exact zaq Bb s1 σ H1 (.bl k) v Q I1 r1 #[k,rfl,q1]
end
noncomputable def Irv(K:so)(a:sq)(n:Nat):It:=#[λi H=>∃xs,SqL K H a xs/\xs.length=n/\i<n,λi H v H'=>H'=H/\∀xs,SqL K H a xs->xs.length=n->xs[n - 1 - i]? = AX v,λi H=>i=n]
theorem J9{P:sy}{w:sC}{K:so}{tg:sF}(a it:sq)(n:Nat):Jx P w K tg (Irv K a n) [it] it (λi h=>i<=n/\h.IsRevIter it a ((n:Int) - 1 - (i:Int))) where
 mem:=by simp
 obj:=λi h st b hb=>by
  have e:b=it:=by simpa using hb
  subst e;obtain⟨_,o,e,c,d⟩:=st;exact#[o,e,λv z=>by rw[d]at z;cases z]
 keep:=λi h h' st k=>#[st.1,st.2.at λo e=>k it (by simp) o e]
 item:=by
  intro X hP hw hK hc i Bb s σ H E I hf st hg;subst hP hw hK;obtain⟨xs,hq,hn,hi⟩:=hg;obtain⟨its,rv,p,hz⟩:=I.list hq;obtain⟨f0,f1,f2,f3,f4,f5⟩:=hf it (by simp);have hx:xs[n - 1 - i]? = AX (xs[n - 1 - i]'⋯):=ah ⋯;generalize xs[n - 1 - i]'⋯=x at hx;obtain⟨u,hu,ru⟩:=rv.get hx;have st2:=st.2;have e:(n:Int) - 1 - (i:Int)=((n - 1 - i:Nat):Int):=⋯;rw[e]at st2;refine wpAny_pyNext_rev_item st2 p.isList (x:=u) (by simpa using hu) λh' st' sb=>?_;have I1:Inv X Bb σ H { s with heap:=h' }:=I.turned (t':=s.toks) (λb o hb e=>(sb.2 b hb).trans e) f0 f1 f3 f4 f5;have e2:((n - 1 - i:Nat):Int) - 1=(n:Int) - 1 - ((i+1:Nat):Int):=⋯;rw[e2]at st';obtain⟨o,e,c,d⟩:=id st';exact#[u,rfl,Vz (s:={ s with heap:=h' }) e c d ∅ #[x,H,I1,ru,#[rfl,λys hy _=>by rw[I.list_inj hy hq];exact hx],#[hi,st'],λb hb=>(hf b hb).1]]
 done:=by
  intro X hP hw hK hc i Bb s σ H E I hf st hg;subst hP hw hK;obtain⟨f0,f1,f2,f3,f4,f5⟩:=hf it (by simp);have hi:i=n:=hg;have st2:=st.2;rw[hi,show (n:Int) - 1 - (n:Int)=-1 by lia]at st2;exact wpAny_pyNext_rev_end (I.ok.hd hc) st2 λh' eb=>#[rfl,I.turned (t':=s.toks) (λb o hb e=>eb b o hb e) f0 f1 f3 f4 f5]
 self:=λ_ _ _ _ _ st h=>An st.2 h
theorem Kz:sZ "reversed" = AX (.type "reversed"):=PyProof.Rows.boot_reversed
section
variable{X:Cx}{tg:sF}
def zf3(K:so)(ta:TA):TI:=λσ H R=>ta σ H λvs H1=>∃a xs,vs=[.ref a]/\SqL K H1 a xs/\R (Irv K a xs.length) H1
theorem zea{a:sF}{ta:TA}{p pos:tG}(hg:Gl X "reversed")(hm:X.mg "reversed" = AY)(ha:PA X [a] ta)(hs:sj [a] X.env=[(Ba,eval a X.env)]:=by rfl) :
  PI X tg (.Call (.Name "reversed" p) [a] [] pos) (zf3 X.K ta):=by
 intro Bb s σ H R I h;refine AW (wT I hg hm Kz (bw (thn (ha pos Bb s σ H _ I h) λus s1 ⟨vs,H1,I1,r1,q1⟩=>?_) hs rfl));obtain⟨l,xs,e,hq,q⟩:=q1;subst e;obtain⟨u,rfl,ru⟩:=wB r1;cases ru;obtain⟨its,rv,pl,hz⟩:=I1.list hq;have hn:its.toArray.size=xs.length:=by rw[ak,<- rv.length]
 refine call_reversed_list pl.isList ?_
 have hit:(s1.heap.push (revObj l ((its.toArray.size:Int) - 1))).IsRevIter s1⁻¹ l ((xs.length:Int) - 1 - ((0:Nat):Int)):=by
  refine#[_,aB _ rfl,rfl,?_];rw[hn,show (xs.length:Int) - 1 - ((0:Nat):Int)=(xs.length:Int) - 1 by lia];rfl
 refine An (s:={ s1 with heap:=s1.heap.push (revObj l ((its.toArray.size:Int) - 1)) }) hit ?_;refine#[s1⁻¹,[s1⁻¹],_,_,H1,rfl,I1.kept (t':=s1.toks) λb o e=>ac _ e,J9 l _ xs.length,#[aD _,hit],λb hb=>?_,q];have e:b=s1⁻¹:=by simpa using hb
 subst e;exact I1.fpOk (al _) (I1.hok.fresh (al _))
end
section
variable{prog:sy}{w:sC}{A:sE}{E:sr->su->Prop}{s:su}
end
section
variable{X:Cx}
def zfC(K:so)(ta:TA):TE:=λσ H Q=>ta σ H λvs H1=>∃a xs,vs=[.ref a]/\SqL K H1 a xs/\∀l,H1 l=AY->Q (.ref l) (upd H1 l (.lst xs.reverse))
theorem QR{K:so}{ta:TA}{σ:L2.St}{H:Hp}{Q:VK}:zfC K ta σ H Q=ta σ H λvs H1=>∃a xs,vs=[.ref a]/\SqL K H1 a xs/\∀l,H1 l=AY->Q (.ref l) (upd H1 l (.lst xs.reverse)):=rfl
end
noncomputable def Izp(K:so)(a b:sq):It:=#[λi H=>∃xs ys x y,SqL K H a xs/\SqL K H b ys/\xs[i]? = AX x/\ys[i]? = AX y,λi H v H'=>∃p x y,H p=AY/\(∀xs,SqL K H a xs->xs[i]? = AX x)/\(∀ys,SqL K H b ys->ys[i]? = AX y)/\v=.ref p/\H'=upd H p (.tup [x,y]),λi H=>∃xs ys,SqL K H a xs/\SqL K H b ys/\(xs.length=i\/ys.length=i)/\i<=xs.length/\i<=ys.length]
theorem wI{h:sI}{a b:sq}{o1 o2:sX}{t u:String}(h1:h.get? a=AX o1)(c1:o1.cls=.type t)(h2:h.get? b=AX o2)(c2:o2.cls=.type u)(hne:t≠u):a≠b:=λz=>by
 rw[z,h2]at h1;cases h1;rw[c2]at c1;exact hne (Value.type.inj c1).symm
structure zaI(z TI TO i1 i2:sq):Prop where
 TIz:TI≠z
 TOz:TO≠z
 i1z:i1≠z
 i2z:i2≠z
 TITO:TI≠TO
 TIi1:TI≠i1
 TIi2:TI≠i2
 TOi1:TO≠i1
 TOi2:TO≠i2
 i12:i1≠i2
def ZipAt(z TI TO i1 i2 l1 l2:sq)(i:Nat)(h:sI):Prop:=Ac h z TI TO .none/\tz h TI (.ref i1) (.ref i2)/\(∃a b,tz h TO a b)/\h.IsListIter i1 l1 i/\h.IsListIter i2 l2 i
theorem ZipAt.apart{z TI TO i1 i2 l1 l2:sq}{i:Nat}{h:sI}{xs ys:Array sr}(D:zaI z TI TO i1 i2)(st:ZipAt z TI TO i1 i2 l1 l2 i h)(h1:h.IsList l1 xs)(h2:h.IsList l2 ys):ZipApart z TI TO i1 i2 l1 l2:=by
 obtain⟨hz,hTI,⟨a,b,hTO⟩,⟨o1,e1,c1,_⟩,⟨o2,e2,c2,_⟩⟩:=st;obtain⟨p1,q1,k1,_⟩:=h1;obtain⟨p2,q2,k2,_⟩:=h2;exact#[D.TIz,D.TOz,D.i1z,D.i2z,D.TITO,D.TIi1,D.TIi2,D.TOi1,D.TOi2,D.i12,wI q1 k1 hz rfl ∅,wI q1 k1 hTO rfl ∅,wI q1 k1 e1 c1 ∅,wI q1 k1 e2 c2 ∅,wI q2 k2 hz rfl ∅,wI q2 k2 hTO rfl ∅,wI q2 k2 e1 c1 ∅,wI q2 k2 e2 c2 ∅]
section
variable{X:Cx}
def zgt(K:so)(ta:TA):TI:=λσ H R=>ta σ H λvs H1=>∃a b,vs=[.ref a,.ref b]/\(∃xs,SqL K H1 a xs)/\(∃ys,SqL K H1 b ys)/\R (Izp K a b) H1
end
def zgD(K:so)(a b:sq)(g:TG)(tb:TS)(D:vG)(σ:L2.St)(H:Hp):Prop:=∃W:Nat->Nat->L2.St->Hp->Prop,(∃m,W 0 m σ H)/\∀i m σ H,W i m σ H ->
 ((Izp K a b).stop i H/\D.nx σ H)\/((Izp K a b).go i H/\∃N:L2.St->Hp->Prop,(∀σ' H',N σ' H'->∃m',m'<m/\W (i+1) m' σ' H')/\∀x H',(Izp K a b).yld i H x H'->g x σ H' λσ2 H2=>tb { D with nx:=N,ct:=N,bk:=D.nx } σ2 H2)
theorem zf7{K:so}{ta:TA}{g:TG}{tb:TS}{D:vG}{σ:L2.St}{H:Hp}:JY (zgt K ta) g tb D σ H=ta σ H λvs H1=>∃a b,vs=[.ref a,.ref b]/\(∃xs,SqL K H1 a xs)/\(∃ys,SqL K H1 b ys)/\zgD K a b g tb D σ H1:=rfl
noncomputable abbrev xob(C:sq)(dx:Option sq)(t:sq)(tb:sr):sX:={ cls:=.ref C,dict:=dx,data:=.fields (List.toArray [.ref t,tb,.none,.none,.bool Ba,.none]) }
noncomputable abbrev xog(C:sq)(dx:Option sq)(t:sq)(tb c:sr)(k:Bool):sX:={ cls:=.ref C,dict:=dx,data:=.fields (List.toArray [.ref t,tb,c,.none,.bool k,.none]) }
def zcc(h:sI)(x:sq)(tb:sr):Prop:=tb=.none\/∃T oT ts,tb=.ref T/\T≠x/\h.get? T=AX oT/\oT.data=.fields ts/\3<ts.size
section
variable{M:AH}{A:sE}{E:sr->su->Prop}{s:su}{base:sI}{env env0:Al}{outer:List Al}{L x t C:sq}{dx:Option sq}{cx:sr}{kx:Bool}
theorem Z6(h:env.frame=env0.frame):d9 env=d9 env0:=by unfold d9;rw[h]
theorem Zw{tb head:sr}{hadNext:Bool}{Q:Unit->su->Prop}(hfr:A.frames=AX (env0::outer))(hl:s.heap.FunFrames base (env0::outer))(hf:env0.frame=AX L)(he:env.frame=AX L)
  (hx:s.heap.get? x=AX (xog C dx t tb cx kx))
  (h:∀h' oT ts,h'.get? x=AX (xog C dx t (.ref s⁻¹) cx kx)->s⁻¹≠x->h'.get? s⁻¹=AX oT->oT.data=.fields ts->3<ts.size ->
   (∀b o,b≠x->b ∉ frs (env0::outer)->s.heap.get? b=AX o->h'.get? b=AX o)->(∀b o,b≠x->s.heap.get? b=AX o->∃sl,h'.get? b=AX { o with slots:=sl })->Q Unit.unit { s with heap:=h' }) :
  sw M A (do let a <- d9 env;let pl <- entryPlaceOf L hadNext;let b <- EntryCells.newEntry head a .none (rawInt L) .none pl;setField (.ref x) 1 b) Q E s:=by
 have hxf:x ∉ frs (env0::outer):=λhm=>by
  obtain⟨_,o,ho,hnf⟩:=hl.mem hm;rw[hx]at ho;cases ho;exact hnf _ rfl
 rw[Z6 (he.trans hf.symm)];refine rZ (wpAny_frameOf_fun hfr hl hf λh1 hs1=>rZ (wpAny_entryPlaceOf λpl hpl=>?_));unfold EntryCells.newEntry newFields;refine rZ (AD ?_ (hpl.sizeOk5 _ _ _ _ _));have hz:h1.objs.size=s⁻¹:=hs1.1;have hx1:h1.get? x=AX (xog C dx t tb cx kx):=(hs1.2.1 x hxf).trans hx;generalize ho:({ cls:=.type "traceback",dict:=AY,data:=.fields ([head,.ref L,.none,rawInt L,.none] ++ (if pl.isEmpty then aW 6 Value.none else pl)).toArray }:sX)=ob;have hx2:(h1.push ob).get? x=AX (xog C dx t tb cx kx):=ac _ hx1;refine tF hx2 rfl (by show 1<6;decide) ?_;have hne:h1.objs.size≠x:=cp (ao hx1)
 have hx3:((h1.push ob).update x (Obj.mapFields (·.setIfInBounds 1 (Value.ref h1.objs.size)))).get? x=AX (xog C dx t (.ref h1.objs.size) cx kx) :=
  ce (Obj.mapFields (·.setIfInBounds 1 (Value.ref h1.objs.size))) hx2 rfl
 have hT:((h1.push ob).update x (Obj.mapFields (·.setIfInBounds 1 (Value.ref h1.objs.size)))).get? h1.objs.size=AX ob :=
  (aF _ _ (Ne.symm hne)).trans (aB h1 (by rw[<- ho];rfl))
 rw[hz]at hx3 hT hne
 have kp:∀b o,b≠x->h1.get? b=AX o->((h1.push ob).update x (Obj.mapFields (·.setIfInBounds 1 (Value.ref h1.objs.size)))).get? b=AX o:=λb o hb e =>
  (aF _ _ (Ne.symm hb)).trans (ac _ e)
 rw[hz]at kp ⊢;refine h _ ob _ hx3 hne hT (by rw[<- ho]) (by erw[ak,aj,aJ,bU] <;> lia) (λb o hb hbf e=>kp b o hb ((hs1.2.1 b hbf).trans e)) λb o hb e=>?_;obtain⟨sl,q⟩:=hs1.2.2 b o e;exact#[sl,kp b _ hb q]
theorem ZC{tb:sr}{Q:Unit->su->Prop}(hfr:A.frames=AX (env0::outer))(hl:s.heap.FunFrames base (env0::outer))(hf:env0.frame=AX L)(he:env.frame=AX L)
  (hx:s.heap.get? x=AX (xog C dx t tb cx kx)) (htb:zcc s.heap x tb)
  (h:∀h' T oT ts,h'.get? x=AX (xog C dx t (.ref T) cx kx)->T≠x->(tb=.ref T\/s⁻¹<=T)->h'.get? T=AX oT->oT.data=.fields ts->3<ts.size ->
   (∀b o,b≠x->tb≠.ref b->b ∉ frs (env0::outer)->s.heap.get? b=AX o->h'.get? b=AX o)->(∀b o,b≠x->tb≠.ref b->s.heap.get? b=AX o->∃sl,h'.get? b=AX { o with slots:=sl })->Q Unit.unit { s with heap:=h' }) :
  sw M A (noteFrame (.ref x) env) (λ_ s1=>sw M A (setFlight (.ref x) AY) Q E s1) E s:=by
 have land:∀(h1:sI) (T:sq) (oT:sX) (ts:Array sr),h1.get? x=AX (xog C dx t (.ref T) cx kx)->T≠x->(tb=.ref T\/s⁻¹<=T)->h1.get? T=AX oT->oT.data=.fields ts->3<ts.size ->
   (∀b o,b≠x->tb≠.ref b->b ∉ frs (env0::outer)->s.heap.get? b=AX o->h1.get? b=AX o)->(∀b o,b≠x->tb≠.ref b->s.heap.get? b=AX o->∃sl,h1.get? b=AX { o with slots:=sl }) ->
   sw M A (setFlight (.ref x) AY) Q E { s with heap:=h1 }:=λh1 T oT ts e1 nT oldT e2 d2 z2 k1 k2=>by
  unfold setFlight;refine rZ (sP (s:={ s with heap:=h1 }) e1 rfl (x:=.ref T) rfl ?_);rw[if_pos (show (Value.ref T != Value.none)=AZ from by simp)];refine tF (s:={ s with heap:=h1 }) e2 d2 z2 ?_;have d3:=Obj.data_mapFields d2 (·.setIfInBounds 3 ((AY:Option sq).elim Value.none λf=>rawInt f))
  have nb:∀b,b≠x->tb≠.ref b->(∃o,s.heap.get? b=AX o)->b≠T:=λb hb hbt ⟨o,eo⟩ z=>by
   subst z;rcases oldT with q | q
   ·exact hbt q
   ·exact absurd (ao eo) (Nat.not_lt.mpr q)
  refine h _ T _ _ ((aF _ _ nT).trans e1) nT oldT (ce _ e2 (Obj.isFreed_of_fields d3)) d3 (by simpa using z2) (λb o hb hbt hbf e=>?_) λb o hb hbt e=>?_
  ·exact (aF _ _ (Ne.symm (nb b hb hbt #[o,e]))).trans (k1 b o hb hbt hbf e)
  ·obtain⟨sl,q⟩:=k2 b o hb hbt e;exact#[sl,(aF _ _ (Ne.symm (nb b hb hbt #[o,e]))).trans q]
 unfold noteFrame
 erw[he]
 refine rZ (sP hx rfl (x:=tb) rfl ?_);rcases htb with rfl | ⟨T,oT,ts,rfl,nT,e2,d2,z2⟩
 ·rw[if_neg ∅];refine Zw hfr hl hf he hx λh' oT ts e1 ne e2 d2 z2 k1 k2=>land h' _ oT ts e1 ne (.inr (al _)) e2 d2 z2 (λb o hb _ hbf e=>k1 b o hb hbf e) λb o hb _ e=>k2 b o hb e
 ·rw[if_pos (show (Value.ref T != Value.none)=AZ from by simp)];obtain⟨y,hy⟩:∃y,ts[3]? = AX y:=#[ts[3],by simp [z2]];refine rZ (sP e2 d2 (x:=y) hy ?_);by_cases c:(y == rawInt L)=AZ
  ·rw[if_pos c];exact sf (land s.heap T oT ts hx nT (.inl rfl) e2 d2 z2 (λb o _ _ _ e=>e) λb o _ _ e=>#[o.slots,e])
  ·rw[if_neg c];refine rZ (tF e2 d2 z2 ?_);have oth:∀b,b≠T->(s.heap.update T (Obj.mapFields (·.setIfInBounds 3 Value.none))).get? b=s.heap.get? b:=λb hb=>aF _ _ (Ne.symm hb);have hl1:(s.heap.update T (Obj.mapFields (·.setIfInBounds 3 Value.none))).FunFrames base (env0::outer):=hl.of_keeps λb o hb hnf=>#[o,(oth b λq=>by rw[q,e2]at hb;cases hb;exact hnf ts d2).trans hb,rfl];have hsz:(s.heap.update T (Obj.mapFields (·.setIfInBounds 3 Value.none))).objs.size=s⁻¹:=dw ..;refine Zw (s:={ s with heap:=s.heap.update T (Obj.mapFields (·.setIfInBounds 3 Value.none)) }) hfr hl1 hf he ((oth x (Ne.symm nT)).trans hx) λh' oT' ts' e1 ne e2' d2' z2' k1 k2=>?_;refine land h' _ oT' ts' e1 ne (.inr (by rw[hsz];exact al _)) e2' d2' z2' (λb o hb hbt hbf e=>k1 b o hb hbf ((oth b λq=>hbt (by rw[q])).trans e)) λb o hb hbt e=>k2 b o hb ((oth b λq=>hbt (by rw[q])).trans e)
theorem zcD{tb:sr}{Q:Unit->su->Prop}(hfr:A.frames=AX (env0::outer))(hl:s.heap.FunFrames base (env0::outer))(hf:env0.frame=AX L)(he:env.frame=AX L)
  (hx:s.heap.get? x=AX (xog C dx t tb cx kx)) (htb:zcc s.heap x tb)
  (h:∀h' T oT ts,h'.get? x=AX (xog C dx t (.ref T) cx kx)->T≠x->(tb=.ref T\/s⁻¹<=T)->h'.get? T=AX oT->oT.data=.fields ts->3<ts.size ->
   (∀b o,b≠x->tb≠.ref b->b ∉ frs (env0::outer)->s.heap.get? b=AX o->h'.get? b=AX o)->(∀b o,b≠x->tb≠.ref b->s.heap.get? b=AX o->∃sl,h'.get? b=AX { o with slots:=sl })->Q Unit.unit { s with heap:=h' }) :
  sw M A (leaving env (.ref x)) Q E s:=rZ (ZC hfr hl hf he hx htb h)
end
def CXx(P:sy)(w:sC):CXT:=λouter H s E e s'=>∃(x C t:sq) (dx:Option sq) (tb:sr) (H':Hp),e=.ref x/\s'.os=s.os/\Ab s'.gens/\Un (frs outer) [] H H' s.heap s'.heap/\HOk P w H' s'.heap /\
 s'.heap.get? x=AX (xob C dx t tb)/\zcc s'.heap x tb/\H' x=AY/\s⁻¹<=x/\(∀T,tb=.ref T->H' T=AY/\s⁻¹<=T)/\E (.ref C) dx H'
def zer(X:Cx)(E:XK)(e:sr)(s:su):Prop:=∃(Bb:List (sq × sX)) (σ:St) (H:Hp) (x C t:sq) (dx:Option sq) (tb:sr),e=.ref x/\Inv X Bb σ H s /\
 s.heap.get? x=AX (xob C dx t tb)/\zcc s.heap x tb/\wm X Bb H x/\(∀T,tb=.ref T->wm X Bb H T)/\E (.ref C) dx H
def XE(X:Cx)(E:XK):Prop:=∀e s,zer X E e s->X.xe e s
theorem WW{X:Cx}{E:XK}(hx:XE X E):qc (CXx X.prog X.w) X E:=by
 intro Bb σ H s e s' I h;obtain⟨x,C,t,dx,tb,H',rfl,os,bare,un,hok,ob,tr,hn,hsz,hT,q⟩:=h;have I':Inv X Bb σ H' s':=I.call' os un hok bare λb z=>absurd z (by simp);exact hx _ _ #[Bb,σ,H',x,C,t,dx,tb,rfl,I',ob,tr,I.fpOk hsz hn,λT e=>I.fpOk (hT T e).2 (hT T e).1,q]
theorem zdc{P:sy}{w:sC}{K:so}{mg:sB->Option sr}{base:sI}{N:List sB}{qual:sB}{scope:tw}{f:sq}{cd:sr}{A:sE}{outer:List Al}{s:su}{H:Hp}{E:XK} :
  XE (qz (CXx P w) P w K mg base N qual scope f cd A outer s H E) E:=by
 intro e s1 h;obtain⟨Bb,σ,H1,x,C,t,dx,tb,rfl,I,ob,tr,fx,fT,q⟩:=h;show sw _ _ (leaving _ (.ref x)) _ _ s1;have ff:=I.stack;refine zcD (A:=(qz (CXx P w) P w K mg base N qual scope f cd A outer s H E).A) (env0:=tZ qual scope s⁻¹ f cd) (outer:=outer) I.ok.frames ff rfl rfl ob tr λh' T oT ts e1 nT oldT e2 d2 z2 k1 k2=>?_;have szs:s⁻¹<=s1⁻¹:=I.sz
 have hxs:s⁻¹<=x:=by
  rcases fx.2.2.2.1 with z | z
  ·exact absurd z (by simp [qz])
  ·exact z
 have hTs:s⁻¹<=T/\H1 T=AY:=by
  rcases oldT with z | z
  ·obtain⟨a0,_,_,a3,_⟩:=fT T z;rcases a3 with y | y
   ·exact absurd y (by simp [qz])
   ·exact#[y,a0]
  ·exact#[aM szs z,I.hok.fresh z]
 have tbs:∀b,tb=.ref b->s⁻¹<=b/\H1 b=AY:=λb hb=>by
  obtain⟨a0,_,_,a3,_⟩:=fT b hb;rcases a3 with y | y
  ·exact absurd y (by simp [qz])
  ·exact#[y,a0]
 have old:∀b o,s.heap.get? b=AX o->b≠x/\tb≠.ref b:=λb o e=>by
  have hb:=ao e;refine#[aA (aw hb hxs),λz=>?_];exact absurd (aw hb (tbs b z).1) (cK _)
 have un:Un (frs outer) [] H H1 s.heap h':=by
  have B:=I.base;refine#[λb o e n hb _=>?_,λb o e n hb _=>?_,λb o e n _=>B.free b o e n (by simp [qz]),λb o e _=>?_,B.tups,B.frzs,B.tbls]
  ·have e1:=B.keep b o e n hb (by simp [qz]);refine k1 b o (old b o e).1 (old b o e).2 (λz=>?_) e1;have z':=I.stkSub b z;rcases Bg.mp z' with q | q
   ·exact absurd q (aA (aw (ao e) I.ok.above))
   ·exact hb q
  ·obtain⟨sl,e1⟩:=B.slot b o e n hb (by simp [qz]);obtain⟨sl',e2⟩:=k2 b _ (old b o e).1 (old b o e).2 e1;exact#[sl',e2]
  ·obtain⟨o',e1⟩:=B.there b o e (by simp [qz]);obtain⟨sl',e2⟩:=k2 b _ (old b o e).1 (old b o e).2 e1;exact#[_,e2]
 have hok:HOk P w H1 h':=λb u e=>by
  refine (I.hok b u e).stay (λc v hc q=>k1 c v ?_ ?_ ?_ q) (λ_ q=>q) λ_ _ q=>q
  ·rintro rfl;rcases hc with rfl | hc
   ·rw[fx.1]at e;cases e
   ·rw[fx.1]at hc;cases hc
  ·intro z;have:=(tbs c z).2;rcases hc with rfl | hc
   ·rw[this]at e;cases e
   ·rw[this]at hc;cases hc
  ·intro z;have:=I.stkFree c z;rcases hc with rfl | hc
   ·rw[this]at e;cases e
   ·rw[this]at hc;cases hc
 exact#[x,C,t,dx,.ref T,H1,rfl,I.os,I.bare,un,hok,e1,.inr #[T,oT,ts,rfl,nT,e2,d2,z2],fx.1,hxs,λT' z=>by cases z;exact#[hTs.2,hTs.1],q]
theorem Fun.okX{P:sy}{w:sC}{K:so}{mg:sB->Option sr}{base:sI}{x qual:sB}{st:sJ}{f:sq}{fd:sv}{N ps:List sB}{k:Nat}{sp:Sp}(F:Fun K x qual st f fd)(S:zk N ps (zh st))(len:∀vs H Q E,sp vs H Q E->vs.length=ps.length)
  (hbody:∀(cdv:sr) (A:sE) (outer:List Al) (s:su) (H:Hp) (vs:List V) (Q:VK) (E:XK),Room k (A.deeper (tZ qual (zh st) s⁻¹ f cdv))->XE (qz (CXx P w) P w K mg base N qual (zh st) f cdv A outer s H E) E->sp vs H Q E ->
   ∃t,PSs (qz (CXx P w) P w K mg base N qual (zh st) f cdv A outer s H E) (yg st) t/\t { nx:=λ_ H'=>Q .non H',rt:=Q } (start N vs) H):zQ P w K mg base (CXx P w) (k+1) f fd ps sp:=by
 obtain⟨oc,od,kV,doc,pm,an,cdv,ct,osl,rfl,lk,hcd⟩:=F.ex;exact JE lk hcd S len λA outer s H vs Q E hr hsp=>hbody cdv A outer s H vs Q E hr zdc hsp
def zdy(X:Cx)(E:XK)(e:sr)(s:su):Prop:=∃(cx:sr) (kx:Bool) (Bb:List (sq × sX)) (σ:St) (H:Hp) (x C t:sq) (dx:Option sq) (tb:sr),e=.ref x/\Inv X Bb σ H s /\
 s.heap.get? x=AX (xog C dx t tb cx kx)/\zcc s.heap x tb/\wm X Bb H x/\(∀T,tb=.ref T->wm X Bb H T)/\E (.ref C) dx H
def XEg(X:Cx)(E:XK):Prop:=∀e s,zdy X E e s->X.xe e s
structure RoomH(k:Nat)(A:sE):Prop where
 dp:A.depth+3 * k+5<Aq
 un:A.units+16 * k+200<cLine
theorem RoomH.mark{k:Nat}{A:sE}(r:RoomH k A)(e:Option sr):RoomH k (A.mark e):=#[r.dp,r.un]
noncomputable def cxH(P:sy)(w:sC)(K:so)(mg:sB->Option sr)(base:sI)(N:List sB)(qual:sB)(scope:tw)(f:sq)(cd:sr)(A:sE)(outer:List Al)(s:su)(H:Hp):Cx :=
 { qz CX0 P w K mg base N qual scope f cd A outer s H E0 with calm:=Ba,xe:=λ_ _=>False }
section
variable{X:Cx}{k:Nat}{f:sq}{fd:sv}{ps:List sB}{sp:Sp}{x:sB}{p pos:tG}{e:sF}{es:List sF}{t:TA}
end
noncomputable abbrev bmV:List sr:=[.type "ValueError",.type "Exception",.type "BaseException",.type "object"]
noncomputable def Z2(K:so)(C:sq):Bool:=match K.lookup C with
 | some ⟨.type "type",_,.cls cd,sl⟩=>(match cd.mro,sl.toList with
  | .ref C'::bm,[_,_,_,_,AX (.builtin n),_]=>C' == C && (n == "ValueError.__new__" && (!cd.hasDel && (cd.hasDict && PySem.W.tailIn K bmV bm)))
  | _,_=>Ba)
 | _=>Ba
theorem uf{K:so}{C:sq}(q:Z2 K C=AZ):∃bm N nm qn bs sn sub ab col dd k0 k1 k2 k3 k5,K.lookup C=AX (Ar nm qn C N bs bm AZ sn sub ab col dd k0 k1 k2 k3 k5 "ValueError.__new__")/\∀h:sI,K.In h->OwnTail h bmV bm:=by
 unfold Z2 at q;split at q
 ·rename_i dd cd sl ho;split at q
  ·rename_i C' bm k0 k1 k2 k3 n k5 hm hs
   erw[bX,beq_iff_eq,dn]at q
   obtain⟨rfl,rfl,hdel,hdct,ht⟩:=q;obtain⟨nm,bs,mro,ns,qn,hd,sn,sub,ab,col,del⟩:=cd;dsimp only at hm hdel hdct;subst hm hdel hdct
   have hsl:sl=(List.toArray [k0,k1,k2,k3,AX (.builtin "ValueError.__new__"),k5]):=by
    obtain⟨l⟩:=sl;simp only at hs;rw[hs]
   subst hsl;exact#[bm,ns,nm,qn,bs,sn,sub,ab,col,dd,k0,k1,k2,k3,k5,ho,λh X=>PySem.W.tail_of_in X ht]
  ·cases q
 ·cases q
structure XC(K:so)(C:sq):Prop where
 ok:Z2 K C=AZ
 sa:af K (.ref C) "__setattr__" = AX (AX (.builtin "object.__setattr__"))
 ga:af K (.ref C) "__getattribute__" = AX (AX (.builtin "BaseException.__getattribute__"))
 gt:af K (.ref C) "__getattr__" = AX AY
 kp:aI K (.ref C)=AZ
section
variable{prog:sy}{w:sC}{A:sE}{R:As->su->Prop}{h:sI}{g:Array AJ}{d:Drawn}{t:Nat}{os:OsState}{K:so}{C:sq}
theorem XU{init:sr}{rest:List sr}(X:K.In h)(q:Z2 K C=AZ)(hi:af K (.ref C) "__init__" = AX (AX init))
  (hb:∀self,PySem.W.Looks (model prog w) h (bindSpecial init self) (init,[self])) (hrest:rest.length<=sk)
  (hq:tN (model prog w) (A.under (.builtin "type.__call__" #[.ref C::rest,[]])) (.call init #[.ref (h.objs.size+1)::rest,[]]) (PySem.W.InitBack (h.objs.size+1) R) #[(h.push { cls:=.type "tuple",data:=.seq rest.toArray }).push (xob C AY h.objs.size .none),g,d,t,os]) :
  tN (model prog w) A (.call (.ref C) #[rest,[]]) R #[h,g,d,t,os]:=by
 obtain⟨bm,N,nm,qn,bs,sn,sub,ab,col,dd,k0,k1,k2,k3,k5,lk,tl⟩:=uf q;have hC:=X _ _ lk;have T:=tl h X;have F:=ee;have f1:=tc_lookup;have f2:=tc_bind (.ref C);have hT:(#[h,g,d,t,os]:su).TypeIs (.ref C) "type":=#[_,hC,rfl];refine codeAny_of_tree ?_;show sw _ _ (callAny (.ref C) _) _ _ _
 repeat (any_goals (first | assumption | with_reducible refine tu hC ?_ | wp_step))
 refine#[rfl,?_];refine codeAny_call_builtin_at (Code.quiet_builtin _ (by symm)) entry_typeCall (wpAny_check_type_call_sub hC ?_)
 repeat (first | with_reducible refine tu hC ?_ | with_reducible refine wpAny_madeBy_exc hC ?_ | wp_step)
 refine codeAny_call_builtin_code (Code.quiet_builtin _ F.quiet) (wpAny_check_new_subT F T hC ?_);refine codeAny_exc_new_subT F T hC ?_ hrest;show sw _ _ _ _ _ _;have k:∀b o,h.get? b=AX o->((h.push { cls:=.type "tuple",data:=.seq rest.toArray }).push (xob C AY h.objs.size .none)).get? b=AX o:=λb o e=>ac _ (ac _ e);have hC1:=k _ _ hC;have hget:((h.push { cls:=.type "tuple",data:=.seq rest.toArray }).push (xob C AY h.objs.size .none)).get? (h.objs.size+1)=AX (xob C AY h.objs.size .none):=by heap_get
 have hcC:(Value.ref C::bm).contains (.ref C)=AZ:=by simp
 unfold isInstance
 repeat (first | with_reducible refine tu hget ?_ | wp_step)
 refine tO (C:=C) hC1 ?_;rw[hcC]
 repeat wp_step
 show sw _ _ (typeLookup (.ref C) _) _ _ _;refine ((cG X hi).keeps k).at ?_;refine sY (rZ (((hb _).keeps k).at ?_));refine rZ (tK (tM hq λr s' z=>?_));rcases r with e | (v | _ | _ | _) <;> first | exact z | exact z.elim | skip;obtain⟨rfl,z⟩:=z;exact sf (sf z)
end
noncomputable def XN(x C:sq)(dx:Option sq):HO:=.ext λh=>∃t,h.get? x=AX (xob C dx t .none)
noncomputable def XT(x C:sq)(dx:Option sq):HO:=.ext λh=>∃t tb c k,h.get? x=AX (xog C dx t tb c k)
noncomputable def XP(x C:sq)(dx:Option sq):HO:=.ext λh=>∃t tb,h.get? x=AX (xob C dx t tb)
theorem zcX{P:sy}{w:sC}{H:Hp}{h:sI}{x C t:sq}{dx:Option sq}(e:h.get? x=AX (xob C dx t .none)):ObjOk P w H h x (XN x C dx) :=
 #[#[t,e],#[_,e],λh1 h2 ⟨t,q⟩ k=>#[t,k _ q]]
theorem zdT{P:sy}{w:sC}{H:Hp}{h:sI}{x C t:sq}{dx:Option sq}{tb c:sr}{k:Bool}(e:h.get? x=AX (xog C dx t tb c k)):ObjOk P w H h x (XT x C dx) :=
 #[#[t,tb,c,k,e],#[_,e],λh1 h2 ⟨t,tb,c,k',q⟩ k=>#[t,tb,c,k',k _ q]]
theorem zc9{P:sy}{w:sC}{H:Hp}{h:sI}{x C:sq}{dx:Option sq}(o:ObjOk P w H h x (XN x C dx)):∃t,h.get? x=AX (xob C dx t .none):=o.1
theorem zeQ{P:sy}{w:sC}{H:Hp}{h:sI}{x C:sq}{dx:Option sq}(o:ObjOk P w H h x (XT x C dx)):∃t tb c k,h.get? x=AX (xog C dx t tb c k):=o.1
section
variable{nm q:sB}{C N:sq}{bs bm:List sr}{hdct:Bool}{sn:List sB}{sub:List sr}{ab:Bool}{col:Option Bool}{dd:Option sq}{k0 k1 k2 k3 k5:Option sr}{newId:String}{h:sI}{M:AH}
theorem Yv(hC:h.get? C=AX (Ar nm q C N bs bm hdct sn sub ab col dd k0 k1 k2 k3 k5 newId))(base:sr):PySem.W.Looks M h (isSubtype (.ref C) base) ((Value.ref C::bm).contains base):=λA Q E s k z=>by
 obtain⟨hp,g,d,t,os⟩:=s;exact tO (k _ _ hC) z
theorem Jc(hC:h.get? C=AX (Ar nm q C N bs bm hdct sn sub ab col dd k0 k1 k2 k3 k5 newId)):PySem.W.Looks M h (mroOf (.ref C)) (.ref C::bm):=λA Q E s k z=>by
 obtain⟨hp,g,d,t,os⟩:=s;exact wpAny_mroOf_exc (k _ _ hC) z
theorem QG(hC:h.get? C=AX (Ar nm q C N bs bm hdct sn sub ab col dd k0 k1 k2 k3 k5 newId)):PySem.W.Looks M h (classData C) { name:=nm,bases:=bs,mro:=.ref C::bm,ns:=N,qualname:=q,hasDict:=hdct,slotNames:=sn,subclasses:=sub,abstract:=ab,collection:=col,hasDel:=Ba }:=λA Q E s k z=>by
 unfold classData;exact rZ (wpAny_load (k _ _ hC) (sf z))
theorem XQ{bmB bm:List sr}(T:OwnTail h bmB bm)(self:sr)(hp:refuseLoop self "__setattr__" bmB=pure Unit.unit):refuseLoop self "__setattr__" bm=pure Unit.unit:=by
 induction T with
 | base=>exact hp
 | own _ _ _ _ ih=>rw[refuseLoop_ref];exact ih
end
section
variable{X:Cx}{Bb:List (sq × sX)}{σ:St}{H:Hp}{s:su}{A:sE}{E:sr->su->Prop}{x C:sq}{f:sB}{y:V}{u:sr}
theorem zcx{Q:Unit->su->Prop}(I:Inv X Bb σ H s)(e:H x=AX (XN x C AY))(xc:XC X.K C)(n:NoAttr X.K C f)(ry:RelV y u)
  (h:∀s' dx,H dx=AY->Inv X Bb σ (upd (upd H dx (.xd [(f,y)])) x (XN x C (AX dx))) s'->Q Unit.unit s'):sw (model X.prog X.w) A (setAttr (.ref x) f u) Q E s:=by
 obtain⟨t,ob⟩:=zc9 (I.hok x _ e);obtain⟨bm,N,nm,qn,bs,sn,sub,ab,col,dd,k0,k1,k2,k3,k5,lk,tl⟩:=uf xc.ok;have hC:=I.kIn _ _ lk;have T:=tl _ I.kIn;have SF:=PySem.F.store_ValueError;have J:PySem.W.InstAt s.heap x (xob C AY t .none) C AY:=#[ob,rfl,rfl,trivial];have hob:(Value.ref C::bm).contains (.type "object")=AZ:=by rw[df,T.hasType (show bmV.contains (.type "object")=AZ by symm),dF]
 have isO:PySem.W.Looks (model X.prog X.w) s.heap (isInstance (.ref x) (.type "object")) AZ:=J.type.andThen (by have:=Yv (M:=model X.prog X.w) hC (.type "object");rw[hob]at this;exact this);refine fN I.kIn J xc.sa ?_;refine tX SF.slot.plain SF.entry (@PySem.W.check_slot (model X.prog X.w) _ _ { s with toks:=s.toks+1 } "object.__setattr__" "object" "__setattr__" (.ref x) [.str f s.toks,u] [] _ SF.kind SF.split isO (SF.args _ _ _) ?_);rw[PySem.W.osa_eq,refuse_eq];refine rZ (rZ (J.type.here (s:={ s with toks:=s.toks+1 }) (rZ ((Jc hC).here (s:={ s with toks:=s.toks+1 }) ?_))));rw[refuseLoop_ref,XQ T _ (SF.passes _)];refine sf (rZ (J.type.here (s:={ s with toks:=s.toks+1 }) (rZ ((cG I.kIn n).here (s:={ s with toks:=s.toks+1 }) (rZ (sf ?_))))));show sw _ _ (Builtin.ObjectAttr.storeInOwnDict (.ref x) (.ref C) (.str f s.toks) f u Ba) _ _ _;have hx1:(s.heap.push { cls:=.type "dict",data:=.dict #[] }).get? x=AX (xob C AY t .none):=ac _ ob;have hxs:x≠s⁻¹:=aA (ao ob);refine rZ (sf (rZ (rZ (Ap ob (rZ ((QG hC).here (s:={ s with toks:=s.toks+1 }) ?_))))));rw[if_neg (by simp)];show sw _ _ (if (!AZ || !typeHasDict (.ref C))=AZ then _ else _) _ _ _;rw[if_neg (by simp [typeHasDict])]
 have hgd:((s.heap.push { cls:=.type "dict",data:=.dict #[] }).update x λo=>{ cls:=o.cls,dict:=AX s⁻¹,data:=o.data,slots:=o.slots }).get? s⁻¹=AX { cls:=.type "dict",data:=.dict #[] } :=
  (aF _ _ hxs).trans (Heap.get?_push_at rfl rfl)
 have hgx:((s.heap.push { cls:=.type "dict",data:=.dict #[] }).update x λo=>{ cls:=o.cls,dict:=AX s⁻¹,data:=o.data,slots:=o.slots }).get? x=AX (xob C (AX s⁻¹) t .none) :=
  ce _ hx1 rfl
 have hnd:((s.heap.push { cls:=.type "dict",data:=.dict #[] }).update x λo=>{ cls:=o.cls,dict:=AX s⁻¹,data:=o.data,slots:=o.slots }).Ns s⁻¹ (λ_=>AY) :=
  #[_,#[],_,hgd,rfl,λe he=>absurd he (by simp),λ_=>rfl]
 refine rZ (wpAny_alloc' (rZ (wpAny_update' hx1 (sf ?_))));show sw _ _ (Builtin.ObjectAttr.storeInDict s⁻¹ (.str f s.toks) f u) _ _ _;unfold Builtin.ObjectAttr.storeInDict Builtin.ObjectAttr.newKeyGuard;refine rZ (sf (rZ (wpAny_nsSet1 (Heap.Ns1.of_empty hnd) λh' hn' hs=>?_)));obtain⟨oD,esD,epD,hoD,hdD,hcD⟩:=hn'.count (Within.cons f u Within.nil);refine rZ (AL hoD (by rw[hdD];exact pastItsLine_dict (aM hcD (by rw[aJ,bU,sV];lia))) ?_);refine sf ?_;have hx2:h'.get? x=AX (xob C (AX s⁻¹) t .none):=(hs.2 x hxs).trans hgx;have hfr:H s⁻¹=AY:=I.hok.fresh (al _);have hxe:x≠s⁻¹:=hxs;refine h _ s⁻¹ hfr ?_
 have k0:∀b o,b≠x->s.heap.get? b=AX o->h'.get? b=AX o:=λb o hb q =>
  (hs.2 b (aA (ao q))).trans ((aF _ _ (Ne.symm hb)).trans (ac _ q))
 have I1:Inv X Bb σ (upd H x (XN x C (AX s⁻¹))) { s with heap:=h',toks:=s.toks+1+1 } :=
  I.write (x:=x) (e:=x) (by rw[e];exact True.intro) (.inl rfl) k0 ⟨_,hx2⟩ (zcX hx2)
 have hd2:ObjOk X.prog X.w (upd (upd H x (XN x C (AX s⁻¹))) s⁻¹ (.xd [(f,y)])) h' s⁻¹ (.xd [(f,y)]):=by
  refine#[_,hn',λg=>?_];show RelO (bg g [(f,y)]) (if g=f then AX u else AY);by_cases q:g=f
  ·subst q;rw[if_pos rfl];simp [bg,RelO,ry]
  ·rw[if_neg q];have q':(g == f)=Ba:=by simpa using q
   simp [bg,q',RelO]
 have fd:wm X Bb (upd H x (XN x C (AX s⁻¹))) s⁻¹:=I.fpOk (al _) (by rw[zm (Ne.symm hxe)];exact hfr);have I2:=Inv.track I1 fd hd2
 have eH:upd (upd H x (XN x C (AX s⁻¹))) s⁻¹ (.xd [(f,y)])=upd (upd H s⁻¹ (.xd [(f,y)])) x (XN x C (AX s⁻¹)):=by
  funext b;unfold upd;by_cases b1:b=s⁻¹
  ·subst b1;rw[if_pos rfl,if_neg (Ne.symm hxe),if_pos rfl]
  ·by_cases b2:b=x
   ·subst b2;rw[if_neg b1,if_pos rfl,if_pos rfl]
   ·rw[if_neg b1,if_neg b2,if_neg b2,if_neg b1]
 rw[eH]at I2;exact I2
end
def zcp(K:so)(ta tv:TE)(f:sB):TS:=λD σ H=>tv σ H λy H1=>ta σ H1 λo H2=>∃x C,o=.ref x/\H2 x=AX (XN x C AY)/\XC K C/\NoAttr K C f/\∀dx,H2 dx=AY->D.nx σ (upd (upd H2 dx (.xd [(f,y)])) x (XN x C (AX dx)))
section
variable{X:Cx}{o value:sF}{f:sB}{pos pos':tG}{ta tv:TE}
theorem Jl(ha:PE X o ta)(hv:PE X value tv)(hs:swapsWith value (AX (.Attribute o f pos')) pos.line X.env=pure Ba):PS X (.Assign [.Attribute o f pos'] value pos) (zcp X.K ta tv f):=by
 intro Bb s σ H D I h;refine tU (thn (hv Bb s σ H _ I h) λu s1 ⟨y,H1,I1,ry,q⟩=>thn (ha Bb s1 σ H1 _ I1 q) λov s2 ⟨x',H2,I2,rx,x,C,ex,e,xc,n,q2⟩=>?_) hs;subst ex;obtain rfl:ov=Value.ref x:=rx;exact zcx I2 e xc n ry λs3 dx hdx I3=>#[σ,_,I3,q2 dx hdx]
end
section
variable{M:AH}{A:sE}{E:sr->su->Prop}{s:su}{env:Al}
theorem Qd{K:so}{x:AO sr}{Q:Flow->su->Prop}(hh:A.handled=AY)
  (h:sw M A x (λv s1=>∃e C t dx,v=.ref e/\K.In s1.heap/\Z2 K C=AZ/\s1.heap.get? e=AX (xob C dx t .none)/\E (.ref e) s1) E s):sw M A (raiseStmt env (AX x) AY) Q E s:=by
 unfold raiseStmt;refine rZ (thn h λv s1 h1=>?_);obtain⟨e,C,t,dx,rfl,X,hC,he,hE⟩:=h1;obtain⟨bm,N,nm,qn,bs,sn,sub,ab,col,dd,k0,k1,k2,k3,k5,lk,tl⟩:=uf hC;have hCo:=X _ _ lk;have T:=tl _ X;have hcB:(Value.ref C::bm).contains (.type "BaseException")=AZ:=by rw[df,T.hasType (show bmV.contains (.type "BaseException")=AZ by symm),dF]
 obtain⟨hp,g,d,tk,os⟩:=s1
 repeat (first | with_reducible refine tu he ?_ | with_reducible refine tu hCo ?_ | (with_reducible refine tO hCo ?_;rw[hcB]) | wp_step)
 exact wpAny_raiseNew_none hh hE
theorem UN{K:so}{e:sF}{pos:tG}{Q:Flow->su->Prop}(hh:A.handled=AY)
  (h:sw M A (eval e env) (λv s1=>∃a C t dx,v=.ref a/\K.In s1.heap/\Z2 K C=AZ/\s1.heap.get? a=AX (xob C dx t .none)/\E (.ref a) s1) E s):sw M A (exec (.Raise (AX e) AY pos) env) Q E s:=by
 rw[arm_exec_Raise]
 first
  | exact rZ (tD (Qd hh (rZ (thn h λv s1 h1=>rZ (tD (sf h1))))))
  | (erw[evalOpt,Option.map];exact rZ (tD (Qd hh (rZ (thn h λv s1 h1=>rZ (tD (sf h1)))))))
end
noncomputable def del(H:Hp)(x:sq):Hp:=λb=>if b=x then AY else H b
theorem V1{H:Hp}{x b:sq}(h:b≠x):del H x b=H b:=if_neg h
theorem Wc{H:Hp}{x:sq}:del H x x=AY:=if_pos rfl
section
variable{X:Cx}{Bb:List (sq × sX)}{σ:St}{H:Hp}{s:su}
theorem Inv.untrack{x:sq}{φ:sI->Prop}(I:Inv X Bb σ H s)(e:H x=AX (.ext φ))(hs:X.s₀.heap.objs.size<=x):Inv X Bb σ (del H x) s:=by
 have nx:∀b u,H b=AX u->(∀ψ,u≠.ext ψ)->b≠x:=λb u q nu z=>by subst z;rw[e]at q;cases q;exact nu _ rfl
 have hn:∀b,b≠x->del H x b=H b:=λb hb=>V1 hb;have es:s={ s with heap:=s.heap,gens:=s.gens,drawn:=s.drawn,toks:=s.toks }:=rfl;rw[es]
 refine I.step (g':=s.gens) (d':=s.drawn) (ch:=[x]) (λb hb=>?_) (λb o _ _ _ q _=>q) (λb o _ _ _ q _=>#[o.slots,q]) (λb o hc _ n=>?_)
  (λb o _ q=>#[o,q]) (λb xs q=>?_) (λb u xs q=>?_) (λb ps q=>?_) (λm hm=>hm) (λb u q=>?_) I.bare
 ·have eb:b=x:=by simpa using hb
  subst eb;refine#[.inr hs,λz=>?_,λy c q z=>?_,λp hp z=>?_]
  ·rw[z,I.free]at e;cases e
  ·have:=I.freeC y c q;rw[z,e]at this;cases this
  ·have:=(I.pin p hp).2.1;rw[z,e]at this;cases this
 ·rw[hn b (by simpa using hc)];exact n
 ·rw[hn b (nx b _ q λ_ z=>by cases z)];exact q
 ·rw[hn b (nx b _ q λ_ z=>by cases z)];exact q
 ·exact#[#[],by rw[hn b (nx b _ q λ_ z=>by cases z),q];simp]
 ·by_cases hb:b=x
  ·subst hb;rw[Wc]at q;cases q
  ·rw[hn b hb]at q;exact (I.hok b u q).stay (λc v _ z=>z) (λc z=>by rw[hn c (nx c _ z λ_ y=>by cases y)];exact z) λc xs z=>by rw[hn c (nx c _ z λ_ y=>by cases y)];exact z
theorem VC{C:sq}{us:List sr}{E:sr->su->Prop}{Q:sr->su->Prop}(I:Inv X Bb σ H s)(xc:Z2 X.K C=AZ)(hi:af X.K (.ref C) "__init__" = AX (AX (.builtin "ValueError.__init__")))(hl:us.length<=sk)
  (h:∀s' x t,s⁻¹<=x->Inv X Bb σ H s'->s'.heap.get? x=AX (xob C AY t .none)->Q (.ref x) s'):sw (model X.prog X.w) X.A (call (.ref C) us) Q E s:=by
 have F:=ee;obtain⟨bm,N,nm,qn,bs,sn,sub,ab,col,dd,k0,k1,k2,k3,k5,lk,tl⟩:=uf xc;have hC:=I.kIn _ _ lk;have T:=tl _ I.kIn;obtain⟨hp,g,d,t,os⟩:=s;have k:∀b o,hp.get? b=AX o->((hp.push { cls:=.type "tuple",data:=.seq us.toArray }).push (xob C AY hp.objs.size .none)).get? b=AX o:=λb o e=>ac _ (ac _ e);refine tK (XU I.kIn xc hi (λself=>PySem.W.Looks.of_pure (F.init.bind self)) hl ?_);have hget:((hp.push { cls:=.type "tuple",data:=.seq us.toArray }).push (xob C AY hp.objs.size .none)).get? (hp.objs.size+1)=AX (xob C AY hp.objs.size .none):=by heap_get
 refine tX F.init.plain F.initEntry (wpAny_check_init_subT F (T.keeps k) (k _ _ hC) hget rfl ?_)
 wp_walk
 refine#[rfl,h _ (hp.objs.size+1) ((hp.push { cls:=.type "tuple",data:=.seq us.toArray }).push (xob C AY hp.objs.size .none)).objs.size (cM _) (I.kept (t':=t) λb o e=>?_) ?_]
 ·exact (aF _ _ (cp (cN (ao e)))).trans (ac _ (k b o e))
 ·exact ce (Obj.mapFields λx=>x.setIfInBounds 0 (Value.ref ((hp.push { cls:=.type "tuple",data:=.seq us.toArray }).push (xob C AY hp.objs.size .none)).objs.size)) (ac _ hget) rfl
def Xf(E:XK)(C:sq)(t:TA):TS:=λ_ σ H=>t σ H λvs H1=>vs.length<=sk/\E (.ref C) AY H1
theorem z7{E:XK}{C:sq}{cn:sB}{np cpos pos:tG}{e:sF}{es:List sF}{t:TA}(hx:XE X E)(hc:X.calm=AZ)(xc:XC X.K C)(hi:af X.K (.ref C) "__init__" = AX (AX (.builtin "ValueError.__init__")))(hg:Gl X cn)(hm:X.mg cn=AX (.ref C))(ha:PA X (e::es) t)
  (hdb:(cn ==("__debug__" : sB))=Ba:=by decide) (he:sj (e::es) X.env=(Ba,eval e X.env)::sj es X.env:=by rfl) (hpl:(sN cpos (sj es X.env)).any (·.1)=Ba:=by rfl) :
  PS X (.Raise (AX (.Call (.Name cn np) (e::es) [] cpos)) AY pos) (Xf E C t):=by
 intro Bb s σ H D I h;refine UN (K:=X.K) (I.ok.hd hc) (sU (vL I hg hm ?_ hdb));refine bN (h₀:=X.base) I.ok.mod.kin xc.kp (thn (ha cpos Bb s σ H _ I h) λus s1 ⟨vs,H1,I1,r,z,q⟩=>#[I1.kIn,?_]) he hpl;refine VC (us:=[] ++ us) I1 xc.ok hi (by show us.length<=sk;rw[<- r.length];exact z) λs2 x t hz I2 ob=>#[x,C,t,AY,rfl,I2.kIn,xc.ok,ob,?_];exact hx _ _ #[Bb,σ,H1,x,C,t,AY,.none,rfl,I2,ob,.inl rfl,I1.fpOk hz (I1.hok.fresh hz),λT z=>(by cases z),q]
theorem UA{A:sE}{C:sq}{us:List sr}{k:Nat}(r:Room (k+1) A):Room k (A.under (.builtin "type.__call__" #[.ref C::us,[]])):=r.make C us []
def Xo(E:XK)(C:sq)(sp:Sp)(t:TA):TS:=λ_ σ H=>t σ H λvs H1=>vs.length<=sk/\∀x,H1 x=AY->sp (.ref x::vs) (upd H1 x (XN x C AY)) (λv H2=>v=.non/\∃dx,H2 x=AX (XN x C dx)/\E (.ref C) dx (del H2 x)) E0
theorem Yz{E:XK}{C f:sq}{fd:sv}{k:Nat}{ps:List sB}{sp:Sp}{cn:sB}{np cpos pos:tG}{e:sF}{es:List sF}{t:TA}(hx:XE X E)(hc:X.calm=AZ)(xc:XC X.K C)(hi:af X.K (.ref C) "__init__" = AX (AX (.ref f)))(hfn:aR X.K (.ref f)=AZ)
  (F:zQ X.prog X.w X.K X.mg X.base CX0 k f fd ps sp) (hr:Room (k+1) X.A) (hb:Binds X.K fd ps []) (hg:Gl X cn) (hm:X.mg cn=AX (.ref C)) (ha:PA X (e::es) t)
  (hdb:(cn ==("__debug__" : sB))=Ba:=by decide) (he:sj (e::es) X.env=(Ba,eval e X.env)::sj es X.env:=by rfl) (hpl:(sN cpos (sj es X.env)).any (·.1)=Ba:=by rfl) :
  PS X (.Raise (AX (.Call (.Name cn np) (e::es) [] cpos)) AY pos) (Xo E C sp t):=by
 intro Bb s σ H D I h;refine UN (K:=X.K) (I.ok.hd hc) (sU (vL I hg hm ?_ hdb));refine bN (h₀:=X.base) I.ok.mod.kin xc.kp (thn (ha cpos Bb s σ H _ I h) λus s1 ⟨vs,H1,I1,r,z,q⟩=>#[I1.kIn,?_]) he hpl;have hl:us.length<=sk:=by rw[<- r.length];exact z
 have ob:((s1.heap.push { cls:=.type "tuple",data:=.seq us.toArray }).push (xob C AY s1⁻¹ .none)).get? (s1⁻¹+1)=AX (xob C AY s1⁻¹ .none):=by heap_get
 have hfr:H1 (s1⁻¹+1)=AY:=I1.hok.fresh (cM _)
 have I2:Inv X Bb σ (upd H1 (s1⁻¹+1) (XN (s1⁻¹+1) C AY)) { s1 with heap:=(s1.heap.push { cls:=.type "tuple",data:=.seq us.toArray }).push (xob C AY s1⁻¹ .none) } :=
  I1.laid (t':=s1.toks) (λb o e=>ac _ (ac _ e)) (cM _) (zcX ob)
 have q1:=q _ hfr;have r2:Vals (V.ref (s1⁻¹+1)::vs) (Value.ref (s1⁻¹+1)::us):=.cons rfl r
 have hlen:(Value.ref (s1⁻¹+1)::us ++ ([]:List sr)).length=ps.length:=by
  rw[aT,<- r2.length];exact F.len _ _ _ _ q1
 have hb2:=hb { s1 with heap:=(s1.heap.push { cls:=.type "tuple",data:=.seq us.toArray }).push (xob C AY s1⁻¹ .none) } (Value.ref (s1⁻¹+1)::us) I2.kIn hlen;rw[aT]at hb2;have run:=F.run _ X.stack _ _ #[Value.ref (s1⁻¹+1)::us,[]] (Value.ref (s1⁻¹+1)::us) _ _ E0 (UA (C:=C) (us:=us) hr) (I2.env0.make C us []) hb2 r2 q1;have sz0:X.s₀.heap.objs.size<=s1⁻¹+1:=aM I1.sz (cM _);show sw (model X.prog X.w) X.A (call (.ref C) us) _ X.xe s1;refine tK ?_;refine XU (h:=s1.heap) (g:=s1.gens) (d:=s1.drawn) (t:=s1.toks) (os:=s1.os) (rest:=us) I1.kIn xc.ok hi (λself=>fV I1.kIn self (beq_iff_eq.mp hfn)) hl (tM run λr s' hq=>?_)
 cases r with
 | error e=>exact False.elim hq
 | ok fl =>
  cases fl with
  | ret u =>
   obtain⟨v,H',I3,rv,ev,dx,hx3,q3⟩:=I2.after hq;subst ev;refine#[rv,?_];obtain⟨t,ob3⟩:=zc9 (I3.hok _ _ hx3);have I4:=Inv.untrack I3 hx3 sz0;refine#[_,C,t,dx,rfl,I3.kIn,xc.ok,ob3,hx _ _ #[Bb,σ,_,_,C,t,dx,.none,rfl,I4,ob3,.inl rfl,?_,λT z=>(by cases z),q3]];exact I1.fpOk (cM _) Wc
  | next=>exact False.elim hq
  | brk=>exact False.elim hq
  | cont=>exact False.elim hq
end
def zbK(X:Cx)(Bb:List (sq × sX))(σ:St)(E:XK)(e:sr)(s:su):Prop:=∃(cx:sr) (kx:Bool) (H:Hp) (x C t:sq) (dx:Option sq) (tb:sr),e=.ref x/\Inv X Bb σ H s /\
 s.heap.get? x=AX (xog C dx t tb cx kx)/\zcc s.heap x tb/\wm X Bb H x/\(∀T,tb=.ref T->wm X Bb H T)/\E (.ref C) dx H
noncomputable abbrev TX:=St->Hp->VK->XK->Prop
def PEX(X:Cx)(e:sF)(t:TX):Prop :=
 ∀(Bb:List (sq × sX)) (s:su) (σ:St) (H:Hp) (Q:VK) (E:XK),Inv X Bb σ H s->t σ H Q E->sw (model X.prog X.w) X.A (eval e X.env) (EP X Bb σ Q) (zbK X Bb σ E) s
section
variable{X:Cx}
variable{k:Nat}{f:sq}{fd:sv}{ps:List sB}{sp:Sp}{dvs:List V}{ds:List sr}{x:sB}{p pos:tG}{e:sF}{es:List sF}{t:TA}
theorem Kq(F:zQ X.prog X.w X.K X.mg X.base (CXx X.prog X.w) k f fd ps sp)(hr:Room k X.A)(hg:Gl X x)(hm:X.mg x=AX (.ref f))(hk:aI X.K (.ref f)=AZ)(hb:Binds X.K fd ps ds)(hd:Vals dvs ds)
  (ha:PA X.nox (e::es) t) (hdb:(x ==("__debug__" : sB))=Ba:=by decide) (he:sj (e::es) X.env=(Ba,eval e X.env)::sj es X.env:=by rfl) (hpl:(sN pos (sj es X.env)).any (·.1)=Ba:=by rfl) :
  PEX X (.Call (.Name x p) (e::es) [] pos) (λσ H Q E=>t σ H λvs H1=>sp (vs ++ dvs) H1 Q E):=by
 intro Bb s σ H Q E I h;refine sU (vL I hg hm ?_ hdb);refine bN (h₀:=X.base) I.ok.mod.kin hk (tE (thn (ha pos Bb s σ H _ (I.wish _) h) λus s1 ⟨vs,H1,I1,r,q⟩=>#[I1.kIn,?_])) he hpl;have I1':Inv X Bb σ H1 s1:=I1.unwish;have r2:Vals (vs ++ dvs) (us ++ ds):=r.append hd;have hl:(us ++ ds).length=ps.length:=by rw[<- r2.length];exact F.len _ _ _ _ q
 refine tK (tM (F.run X.A X.stack s1 H1 #[us,[]] (us ++ ds) (vs ++ dvs) Q E hr I1'.env0 (hb s1 us I1'.kIn hl) r2 q) λr s' hq=>?_)
 cases r with
 | error e =>
  obtain⟨x,C,t,dx,tb,H',rfl,os,bare,un,hok,ob,tr,hn,hsz,hT,q⟩:=hq;exact#[.none,Ba,H',x,C,t,dx,tb,rfl,I1'.call' os un hok bare (λb z=>absurd z (by simp)),ob,tr,I1'.fpOk hsz hn,λT e=>I1'.fpOk (hT T e).2 (hT T e).1,q]
 | ok fl =>
  cases fl with
  | ret u=>exact I1'.after hq
  | next=>exact False.elim hq
  | brk=>exact False.elim hq
  | cont=>exact False.elim hq
end
noncomputable abbrev Cx.suite(X:Cx)(e:sr):Cx:={ X with A:=X.A.mark (AX e),calm:=Ba,xe:=λ_ _=>False }
theorem Inv.suite{X:Cx}{Bb:List (sq × sX)}{σ:St}{H:Hp}{s:su}(I:Inv X Bb σ H s)(e:sr):Inv (Cx.suite X e) Bb σ H s :=
 #[#[I.ok.mod,I.ok.kind,I.ok.glob,I.ok.blt,I.ok.above,I.ok.inj,I.ok.has,I.ok.cab,λz=>absurd z (by simp [Cx.suite]),I.ok.frames,I.ok.stk,I.ok.exf,I.ok.bs,I.ok.bsz,I.ok.noex,I.ok.exfs,I.ok.funs,I.ok.frf],
  I.os,I.bare,I.base,I.loc,I.cell,I.free,I.freeC,I.pin,I.hok,I.len]
theorem Inv.unsuite{X:Cx}{Bb:List (sq × sX)}{σ σ':St}{H H':Hp}{s s':su}{e:sr}(J:Inv X Bb σ' H' s')(I:Inv (Cx.suite X e) Bb σ H s):Inv X Bb σ H s :=
 #[J.ok,I.os,I.bare,I.base,I.loc,I.cell,I.free,I.freeC,I.pin,I.hok,I.len]
section
variable{X:Cx}{Bb:List (sq × sX)}{σ:St}{H:Hp}{s:su}
end
theorem zdl{M:AH}{A:sE}{E:sr->su->Prop}{K:so}{s:su}{x C D t:sq}{dx:Option sq}{tb cx:sr}{kx:Bool}{b:Bool}{Q:Bool->su->Prop}(X:K.In s.heap)(hD:Z2 K D=AZ)(he:s.heap.get? x=AX (xog C dx t tb cx kx))
  (hs:cT K (.ref C) (.ref D)=AX b) (h:Q b s):sw M A (excMatches (.ref x) (.ref D)) Q E s:=by
 obtain⟨bm,N,nm,qn,bs,sn,sub,ab,col,dd,k0,k1,k2,k3,k5,lk,tl⟩:=uf hD;have hDo:=X _ _ lk;have T:=tl _ X;have hcB:(Value.ref D::bm).contains (.type "BaseException")=AZ:=by rw[df,T.hasType (show bmV.contains (.type "BaseException")=AZ by symm),dF]
 have L:=PySem.W.looks_subIn (M:=M) X hs;have f:=tc_notTuple;obtain⟨hp,g,d,tk,os⟩:=s;unfold excMatches
 repeat (first | with_reducible refine tu he ?_ | with_reducible refine tu hDo ?_ | (with_reducible refine tO hDo ?_;rw[hcB]) | (with_reducible refine PySem.W.Looks.at L ?_) | wp_step)
 cases b with
 | false=>exact sf (sf (sf h))
 | true=>exact sf (sf (sf h))
section
variable{X:Cx}
noncomputable def tbL:sr->List sq
 | .ref b=>[b]
 | _=>[]
end
section
variable{prog:sy}{w:sC}{A:sE}{E:sr->su->Prop}{s:su}{K:so}{x C:sq}{ox:sX}{od:Option sX}{name:sB}{tk:Aa}
theorem zdG{fill expr:Bool}{Q:sr->su->Prop}(X:K.In s.heap)(xc:XC K C)(J:PySem.W.InstAt s.heap x ox C od)
  (h:sw (model prog w) A.in1 (Builtin.«object.__getattribute__» #[[.ref x,.str name tk],[]]) (λfin s'=>match fin with | .done (.ret v)=>sw (model prog w) A (handedOut v) Q E s' | _=>False) (λ_ _=>False) s) :
  sw (model prog w) A (getAttrBy (.ref x) (.str name tk) fill expr) Q E s:=by
 obtain⟨bm,N,nm,qn,bs,sn,sub,ab,col,dd,k0,k1,k2,k3,k5,lk,tl⟩:=uf xc.ok;have hC:=X _ _ lk;have T:=tl _ X;have FB:=PySem.F.attrBase_ValueError;have L0:=J.type (M:=model prog w);have L1:=cG (M:=model prog w) X xc.ga;have L2:=cG (M:=model prog w) X xc.gt;have hcB:(Value.ref C::bm).contains (.type "BaseException")=AZ:=by rw[df,T.hasType (show bmV.contains (.type "BaseException")=AZ by symm),dF]
 have isB:PySem.W.Looks (model prog w) s.heap (isInstance (.ref x) (.type "BaseException")) AZ:=L0.andThen (by have:=Yv (M:=model prog w) hC (.type "BaseException");rw[hcB]at this;exact this);have f3:=FB.ga.bind (.ref x);have hx0:(expr && onTheHeap (Value.builtin "BaseException.__getattribute__"))=Ba:=by cases expr <;> rfl
 have hx2:(Value.builtin "BaseException.__getattribute__" == Value.builtin "object.__getattribute__")=Ba:=by symm
 have hx1:(onTheHeap (Value.ref C) && Value.builtin "BaseException.__getattribute__" == Value.builtin "object.__getattribute__")=Ba:=by rw[hx2];rfl
 unfold getAttrBy;refine sY (rZ (L0.here (rZ (L1.here ?_))));show sw _ _ (if (onTheHeap (Value.ref C) && Value.builtin "BaseException.__getattribute__" == Value.builtin "object.__getattribute__")=AZ then _ else _) _ _ _;rw[hx1,if_neg az];unfold getAttrByItsOwn hookBefore;rw[if_pos (by rfl)];refine rZ (L2.here (rZ (tW (sY ?_))));unfold callGetattribute;rw[hx0,if_neg az];unfold boundAndCalled;rw[f3];refine rZ (sf ?_);show sw (model prog w) A (call (.builtin "BaseException.__getattribute__") [.ref x,.str name tk]) _ _ s;refine tK (tX FB.ga.plain PySem.F.entry_bexc_ga (@PySem.W.check_slot (model prog w) _ _ s "BaseException.__getattribute__" "BaseException" "__getattribute__" (.ref x) [.str name tk] [] _ (by symm) (by symm) isB (PySem.F.args_bexc_ga _ _) ?_));refine tJ h (λfin s' z=>?_) λ_ _ z=>z.elim;rcases fin with (_ | _ | _ | v) | _ <;> first | exact z | exact z.elim
theorem zaH{Q:Option sr->su->Prop}(X:K.In s.heap)(xc:XC K C)(J:PySem.W.InstAt s.heap x ox C od)(ha:af K (.ref C) "__class__" = AX (AX (.builtin "object.__class__")))
  (hn:cF K (.builtin "object.__class__") "__get__" = AX (AX (.builtin "getset_descriptor.__get__"))) (htk:dC K (.builtin "object.__class__")=AX AZ) (hm:bC K C (.type "object")=AX AZ)
  (h:Q (AX (.ref C)) { s with toks:=s.toks+1 }):sw (model prog w) A (getAttr? (.ref x) "__class__") Q E s:=by
 have hf:fW K C od "__class__" = AX (.bind (.builtin "getset_descriptor.__get__") (.builtin "object.__class__")):=by
  obtain⟨bm,N,nm,qn,bs,sn,sub,ab,col,dd,k0,k1,k2,k3,k5,lk,tl⟩:=uf xc.ok;have hcl:(PySem.W.clsIn K C).isSome=AZ:=by unfold PySem.W.clsIn;rw[lk];rfl
  obtain⟨cd,hc⟩:=Bs.mp hcl;unfold fW;rw[hc,bY,ha,bY];simp [hn,htk]
 unfold getAttr? getAttrBy?;refine rZ (wpAny_mkText (rZ (tW (zdG (s:={ s with toks:=s.toks+1 }) X xc J ?_))));have L0:=J.type (M:=model prog w);have L1:=PySem.W.looks_find (M:=model prog w) X J hf;unfold Builtin.«object.__getattribute__»;refine rZ (sf (rZ (sf (rZ (L0.here (s:={ s with toks:=s.toks+1 }) (rZ (L1.here (s:={ s with toks:=s.toks+1 }) ?_)))))));show sw _ _ (holding [.builtin "object.__class__"] (call (.builtin "getset_descriptor.__get__") [.builtin "object.__class__",.ref x,.ref C]) >>= ret) _ _ _;refine rZ (sY (tK (PySem.W.class_get (s:={ s with toks:=s.toks+1 }) X J hm ?_)));refine sf ?_;show sw _ _ (handedOut (.ref C)) _ _ _;rw[PySem.W.handedOut_of rfl];exact sf (sf h)
end
structure XI(K:so)(C:sq):Prop extends XC K C where
 ca:af K (.ref C) "__class__" = AX (AX (.builtin "object.__class__"))
 cg:cF K (.builtin "object.__class__") "__get__" = AX (AX (.builtin "getset_descriptor.__get__"))
 ct:dC K (.builtin "object.__class__")=AX AZ
 mo:bC K C (.type "object")=AX AZ
theorem zdD{h:sI}{x C t:sq}{tb c:sr}{k:Bool}(ob:h.get? x=AX (xog C AY t tb c k)):PySem.W.InstAt h x (xog C AY t tb c k) C AY:=#[ob,rfl,rfl,trivial]
theorem ze7{K:so}{x C:sq}{dx:Option sq}(xi:XI K C):PySem.W.KitX K (.ref x) (.ref C) (λh=>(∃t tb c k,h.get? x=AX (xog C dx t tb c k))/\∀d,dx=AX d->∃o,h.get? d=AX o) where
 ty:=λM h X ⟨⟨t,tb,c,k',ob⟩,_⟩=>(PySem.W.Looks.ld ob).andThen .now
 it:=λM h X _=>by
  obtain⟨bm,N,nm,qn,bs,sn,sub,ab,col,dd,k0,k1,k2,k3,k5,lk,tl⟩:=uf xi.ok;intro A' Q' E' s' k q;unfold isType loadHead;exact rZ (Ap (k _ _ (X _ _ lk)) (sf q))
 ne:=λh tp dd its n sl X htp=>by
  obtain⟨bm,N,nm,qn,bs,sn,sub,ab,col,dd,k0,k1,k2,k3,k5,lk,tl⟩:=uf xi.ok;refine Bool.eq_false_iff.mpr λq=>?_;have e:C=tp:=Value.ref.inj (beq_iff_eq.mp q);subst e;have z:=congrArg (λo:Option sX=>o.map λo=>match o.data with | .cls _=>AZ | _=>Ba) ((X _ _ lk).symm.trans htp);exact absurd (show AZ=Ba from Option.some.inj z) ∅
 ca:=λ{prog w A E Q s} X ⟨⟨t,tb,c,k',ob⟩,hd⟩ k=>by
  cases dx with
  | none=>exact zaH X xi.toXC (zdD ob) xi.ca xi.cg xi.ct xi.mo k
  | some d =>
   obtain⟨o,e⟩:=hd d rfl;exact zaH (od:=AX o) X xi.toXC #[ob,rfl,rfl,e] xi.ca xi.cg xi.ct xi.mo k
section
variable{X:Cx}
def XAt(H:Hp)(x C:sq)(dx:Option sq)(fs:List (sB × V)):Prop:=H x=AX (XT x C dx)/\((dx=AY/\fs=[])\/∃d,dx=AX d/\H d=AX (.xd fs))
theorem Qt:vQ X (.builtin "isinstance") (λxs H Q=>∃x C dx fs c u b,xs=[.ref x,c]/\cV c=AX u/\XAt H x C dx fs/\XI X.K C/\aO X.K (.ref C) u=AX b/\Q (.bl b) H):=by
 intro Bb s σ H xs us Q I r h;obtain⟨x,C,dx,fs,c,u,b,rfl,hc,⟨hx,hd⟩,xi,e,q⟩:=h;obtain⟨v,w',rfl,rx,rc⟩:=QF r;cases rx
 have:w'=u:=by
  cases c with
  | ty n=>cases hc;exact rc
  | ref a=>cases hc;exact rc
  | _=>cases hc
 subst this;refine be (ze7 (dx:=dx) xi) I.kIn #[zeQ (I.hok _ _ hx),λd z=>?_] e (λz=>nomatch z) λtk=>#[.bl b,H,I.tok tk,rfl,q];rcases hd with ⟨z',_⟩ | ⟨d',z',hd'⟩
 ·rw[z']at z;cases z
 ·rw[z']at z;cases z;obtain⟨mA,⟨o,es,ep,ho,_⟩,_⟩:=I.hok _ _ hd';exact#[o,ho]
end
structure Df(P:sy)(w:sC)(K:so)(mg:sB->Option sr)(base:sI)(CX:CXT)(k:Nat)(nm:sB)(ps:List sB)(ds:List sr)(sp:Sp):Prop where
 ex:∃f fd,zQ P w K mg base CX k f fd ps sp/\mg nm=AX (.ref f)/\aI K (.ref f)=AZ/\Binds K fd ps ds
structure Bt(mg:sB->Option sr):Prop where
 len:mg "len" = AY
 range:mg "range" = AY
 isi:mg "isinstance" = AY
 str:mg "str" = AY
 int:mg "int" = AY
 tuple:mg "tuple" = AY
 list:mg "list" = AY
 bool:mg "bool" = AY
 enum:mg "enumerate" = AY
 all:mg "all" = AY
 verr:mg "ValueError" = AY
 max:mg "max" = AY
 rev:mg "reversed" = AY
 zip:mg "zip" = AY
 sum:mg "sum" = AY
 sorted:mg "sorted" = AY
section
variable{X:Cx}{CX:CXT}{k:Nat}{ps:List sB}{sp:Sp}{ds:List sr}{dvs:List V}{E:XK}{x:sB}{p pos:tG}{e:sF}{es:List sF}{t:TA}
theorem cl0{j:Nat}(D:Df X.prog X.w X.K X.mg X.base CX0 k x ps ds sp)(hr:Room j X.A)(hd:Vals dvs ds)(hg:Gl X x)(ha:PA X (e::es) t)(hdb:(x ==("__debug__" : sB))=Ba:=by decide)(he:sj (e::es) X.env=(Ba,eval e X.env)::sj es X.env:=by rfl)
  (hpl:(sN pos (sj es X.env)).any (·.1)=Ba:=by rfl) (hj:k<=j:=by decide):PE X (.Call (.Name x p) (e::es) [] pos) (uR sp dvs E0 t):=by
 obtain⟨f,fd,F,hm,hk,hb⟩:=D.ex;exact Ux F (hr.mono hj) hg hm hk hb hd XH ha hdb he hpl
theorem clX{j:Nat}(D:Df X.prog X.w X.K X.mg X.base (CXx X.prog X.w) k x ps ds sp)(hr:Room j X.A)(hd:Vals dvs ds)(hg:Gl X x)(ha:PA X.nox (e::es) t)(hdb:(x ==("__debug__" : sB))=Ba:=by decide)(he:sj (e::es) X.env=(Ba,eval e X.env)::sj es X.env:=by rfl)
  (hpl:(sN pos (sj es X.env)).any (·.1)=Ba:=by rfl) (hj:k<=j:=by decide):PEX X (.Call (.Name x p) (e::es) [] pos) (λσ H Q E=>t σ H λvs H1=>sp (vs ++ dvs) H1 Q E):=by
 obtain⟨f,fd,F,hm,hk,hb⟩:=D.ex;exact Kq F (hr.mono hj) hg hm hk hb hd ha hdb he hpl
theorem clP{j:Nat}(hx:XE X E)(D:Df X.prog X.w X.K X.mg X.base (CXx X.prog X.w) k x ps ds sp)(hr:Room j X.A)(hd:Vals dvs ds)(hg:Gl X x)(ha:PA X (e::es) t)(hdb:(x ==("__debug__" : sB))=Ba:=by decide)(he:sj (e::es) X.env=(Ba,eval e X.env)::sj es X.env:=by rfl)
  (hpl:(sN pos (sj es X.env)).any (·.1)=Ba:=by rfl) (hj:k<=j:=by decide):PE X (.Call (.Name x p) (e::es) [] pos) (uR sp dvs E t):=by
 obtain⟨f,fd,F,hm,hk,hb⟩:=D.ex;exact Ux F (hr.mono hj) hg hm hk hb hd (WW hx) ha hdb he hpl
end
def TyX(K:so)(H:Hp)(x:V)(t:sr):Prop:=XV K H x t\/(∃a C dx fs,x=.ref a/\t=.ref C/\XAt H a C dx fs/\XI K C)\/(∃a xs,x=.ref a/\t=.type "list"/\SqL K H a xs)\/∃a xs,x=.ref a/\t=.type "tuple"/\SqT K H a xs
def zeL(K:so):List V->Hp->VK->Prop:=λxs H Q=>∃x c u t b,xs=[x,c]/\cV c=AX u/\TyX K H x t/\aO K t u=AX b/\Q (.bl b) H
theorem ze1{X:Cx}:vQ X (.builtin "isinstance") (zeL X.K):=by
 intro Bb s σ H xs us Q I r h;obtain⟨x,c,u,t,b,rfl,hc,ty,e,q⟩:=h;rcases ty with ty | ⟨a,C,dx,fs,rfl,rfl,ha,xi⟩ | ⟨a,ys,rfl,rfl,hq⟩ | ⟨a,ys,rfl,rfl,hq⟩
 ·exact KT Bb s σ H _ us Q I r #[x,c,u,t,b,rfl,hc,ty,e,q]
 ·exact Qt Bb s σ H _ us Q I r #[a,C,dx,fs,c,u,b,rfl,hc,ha,xi,e,q]
 all_goals
  obtain⟨v,w',rfl,rx,rc⟩:=QF r
  have:w'=u:=by
   cases c with
   | ty n=>cases hc;exact rc
   | ref a=>cases hc;exact rc
   | _=>cases hc
  subst this;cases rx
 ·obtain⟨its,_,p,_⟩:=I.list hq;obtain⟨o,h1,h2,_⟩:=p.isList;exact be eg I.kIn #[o,h1,h2] e (λz=>nomatch z) λtk=>#[.bl b,H,I.tok tk,rfl,q]
 ·obtain⟨its,_,p,_⟩:=I.tuple hq;obtain⟨o,h1,h2,_⟩:=p;exact be fH I.kIn #[o,h1,h2] e (λz=>nomatch z) λtk=>#[.bl b,H,I.tok tk,rfl,q]
theorem yB{X:Cx}{e:sF}{te:TE}{c:sB}{n:String}{p q pos:tG}(h1:Gl X "isinstance")(h2:X.mg "isinstance" = AY)(he:PE X e te)(hg:Gl X c)(hm:X.mg c=AY)(hv:sZ c=AX (.type n))(hn:c≠"__name__":=by decide)(hd:(c ==("__debug__" : sB))=Ba:=by decide)
  (hs1:sj [e,.Name c q] X.env=(Ba,eval e X.env)::sj [.Name c q] X.env:=by rfl) (hs3:sj [.Name c q] X.env=(Ba,eval (.Name c q) X.env)::sj [] X.env:=by rfl) (hs2:(sN pos (sj [.Name c q] X.env)).any (·.1)=Ba:=by rfl):PE X (.Call (.Name "isinstance" p) [e,.Name c q] [] pos) (tCB (zeL X.K) (zM te (zM (tC (.ty n)) xH))) :=
 xC ze1 h1 h2 boot_isinstance (za he (za (zbE hg hm hv rfl hn hd) zc hs3) hs1) (he:=hs1) (hpl:=hs2)
theorem zat{a:sq}:cV (.ref a)=AX (.ref a):=rfl
theorem zdH{n:String}:cV (.ty n)=AX (.type n):=rfl
theorem zfF{P w K mg base N q sc f cd A o s H}:(cxH P w K mg base N q sc f cd A o s H).K=K:=rfl
def WN:V->List V->Hp->VK->Prop:=λx xs H Q=>∃z y,x=.str z/\xs=[.str y]/\Q (.int (Txt.count z y)) H
theorem QP{X:Cx}:MtR X "str.count" WN:=JW
theorem Xg(l:())(c:Nat):Txt.count (tx l) (tx [c])=(l.count c:Int):=by
 have h:∀l:(),cnt c l=(l.count c:Int):=λl=>by
  induction l with
  | nil=>rfl
  | cons n r ih =>
   rw[cnt_cons,ih,List.count_cons];by_cases e:n=c
   ·subst e;simp;lia
   ·have:(n == c)=Ba:=by simpa using e
    simp [e,this]
 exact (PyProof.Rows.count_is (tx l) c).trans (h l)
theorem lt1{a b:Nat}:([a]:()) < [b] ↔ a<b:=by rw[List.cons_lt_cons_iff];exact#[λh=>h.elim id λ⟨_,q⟩=>absurd q (List.not_lt_nil _),.inl]
theorem U7{l:()}{k v:Nat}(h:l[k]? = AX v):(v::(l.take k ++ l.drop (k+1))).Perm l:=by
 obtain⟨hk,e⟩:=Be.mp h
 have e2:l.take k ++ (v::l.drop (k+1))=l:=by
  rw[<- e,<- aS hk,bK]
 exact (List.perm_middle.symm.trans (by rw[e2]))
def WA(K:so):List V->Hp->VK->Prop:=λxs H Q=>match xs with
 | [.str z]=>z.length<=sk/\Q (.int z.length) H
 | [.ref a]=>∃n:Nat,((∃xs,SqL K H a xs/\n=xs.length)\/∃xs,SqT K H a xs/\n=xs.length)/\Q (.int n) H
 | xs=>∃x n,xs=[x]/\zdf K x H n/\Q (.int n) H
theorem rLen_is{K:so}{xs:List V}{H:Hp}{Q:VK}:WA K xs H Q=∃x n,xs=[x]/\zdf K x H n/\Q (.int n) H:=by
 unfold WA;split
 ·exact propext #[λh=>#[_,_,rfl,#[h.1,rfl],h.2],λ⟨_,_,e,h,q⟩=>by cases e;obtain⟨h,rfl⟩:=h;exact#[h,q]]
 ·exact propext #[λ⟨n,h,q⟩=>#[_,n,rfl,h,q],λ⟨_,n,e,h,q⟩=>by cases e;exact#[n,h,q]]
 ·rfl
theorem zfQ{X:Cx}:vQ X (.builtin "len") (WA X.K):=λBb s σ H xs us Q I r h=>J5 Bb s σ H xs us Q I r (rLen_is.mp h)
def ForR(lo:Int)(n:Nat)(g:TG)(tb:TS)(D:vG)(σ:St)(H:Hp):Prop:=∃W:Nat->Nat->St->Hp->Prop,(∃m,W 0 m σ H)/\∀i m σ H,W i m σ H ->
 ((Itr lo n).stop i H/\D.nx σ H)\/((Itr lo n).go i H/\∃N:St->Hp->Prop,(∀σ' H',N σ' H'->∃m',m'<m/\W (i+1) m' σ' H')/\∀x H',(Itr lo n).yld i H x H'->g x σ H' λσ2 H2=>tb { D with nx:=N,ct:=N,bk:=D.nx } σ2 H2)
theorem zd5{ta:TA}{g:TG}{tb:TS}{D:vG}{σ:St}{H:Hp}:JY (zcz ta) g tb D σ H=ta σ H λvs H1=>∃j:Int,vs=[.int j]/\-(2 ^ 62)<=j/\j<2 ^ 62/\ForR 0 j.toNat g tb D σ H1:=rfl
theorem zdV{ta:TA}{g:TG}{tb:TS}{D:vG}{σ:St}{H:Hp}:JY (zdu ta) g tb D σ H=ta σ H λvs H1=>∃i j:Int,vs=[.int i,.int j]/\(-(2 ^ 62)<=i/\i<2 ^ 62/\-(2 ^ 62)<=j/\j<2 ^ 62)/\ForR i (j - i).toNat g tb D σ H1:=rfl
theorem ForR.by{lo:Int}{n:Nat}{g:TG}{tb:TS}{D:vG}{σ:St}{H:Hp}(Pv:Nat->St->Hp->Prop)(h0:Pv 0 σ H)
  (hs:∀i σ H,i<n->Pv i σ H->g (.int (lo+i)) σ H λσ2 H2=>tb { D with nx:=Pv (i+1),ct:=Pv (i+1),bk:=D.nx } σ2 H2) (hd:∀σ H,Pv n σ H->D.nx σ H):ForR lo n g tb D σ H:=QB Pv h0 hs hd
def ForL(K:so)(a:sq)(g:TG)(tb:TS)(D:vG)(σ:St)(H:Hp):Prop:=∃W:Nat->Nat->St->Hp->Prop,(∃m,W 0 m σ H)/\∀i m σ H,W i m σ H ->
 ((Itl K a).stop i H/\D.nx σ H)\/((Itl K a).go i H/\∃N:St->Hp->Prop,(∀σ' H',N σ' H'->∃m',m'<m/\W (i+1) m' σ' H')/\∀x H',(Itl K a).yld i H x H'->g x σ H' λσ2 H2=>tb { D with nx:=N,ct:=N,bk:=D.nx } σ2 H2)
theorem zgm{K:so}{tl:TE}{g:TG}{tb:TS}{D:vG}{σ:St}{H:Hp}:JY (zbj K tl) g tb D σ H=tl σ H λx H1=>∃a,x=.ref a/\(∃xs,SqL K H1 a xs)/\ForL K a g tb D σ H1:=rfl
def ForS(x:sB)(g:TG)(tb:TS)(D:vG)(σ:St)(H:Hp):Prop:=∃W:Nat->Nat->St->Hp->Prop,(∃m,W 0 m σ H)/\∀i m σ H,W i m σ H ->
 ((Its x).stop i H/\D.nx σ H)\/((Its x).go i H/\∃N:St->Hp->Prop,(∀σ' H',N σ' H'->∃m',m'<m/\W (i+1) m' σ' H')/\∀v H',(Its x).yld i H v H'->g v σ H' λσ2 H2=>tb { D with nx:=N,ct:=N,bk:=D.nx } σ2 H2)
theorem zf1{tl:TE}{g:TG}{tb:TS}{D:vG}{σ:St}{H:Hp}:JY (zfq tl) g tb D σ H=tl σ H λv H1=>∃x,v=.str x/\ForS x g tb D σ H1:=rfl
theorem ForS.by{l:()}{g:TG}{tb:TS}{D:vG}{σ:St}{H:Hp}(Pv:Nat->St->Hp->Prop)(h0:Pv 0 σ H)
  (hs:∀i c σ H,l[i]? = AX c->Pv i σ H->g (.str (tx [c])) σ H λσ2 H2=>tb { D with nx:=Pv (i+1),ct:=Pv (i+1),bk:=D.nx } σ2 H2) (hd:∀σ H,Pv l.length σ H->D.nx σ H):ForS (tx l) g tb D σ H:=zbu Pv h0 hs hd
def zgw(x:sB)(g:TG)(tb:TS)(D:vG)(σ:St)(H:Hp):Prop:=∃W:Nat->Nat->St->Hp->Prop,(∃m,W 0 m σ H)/\∀i m σ H,W i m σ H ->
 ((Ite x).stop i H/\D.nx σ H)\/((Ite x).go i H/\∃N:St->Hp->Prop,(∀σ' H',N σ' H'->∃m',m'<m/\W (i+1) m' σ' H')/\∀v H',(Ite x).yld i H v H'->g v σ H' λσ2 H2=>tb { D with nx:=N,ct:=N,bk:=D.nx } σ2 H2)
theorem zfY{ta:TA}{g:TG}{tb:TS}{D:vG}{σ:St}{H:Hp}:JY (zeU ta) g tb D σ H=ta σ H λvs H1=>∃x,vs=[.str x]/\zgw x g tb D σ H1:=rfl
theorem Ya{α:Type}(l:List α){k:Int}(h:0<=k):cut l AY (AX k)=l.take k.toNat:=by
 obtain⟨n,rfl⟩:=bF h;unfold cut;rw[HT.sIx_none,HT.sIx_nat,dZ,Nat.sub_zero];by_cases q:n<=l.length
 ·rw[cD q];rfl
 ·rw[dz ⋯,aP,bq (by simp;lia)]
theorem qH{α:Type}(l:List α){k:Int}(h:0<=k):cut l (AX k) AY=l.drop k.toNat:=by
 obtain⟨n,rfl⟩:=bF h;unfold cut;rw[HT.sIx_none,HT.sIx_nat];by_cases q:n<=l.length
 ·rw[cD q];rw[bq (by rw[bi] <;> lia)];rfl
 ·rw[dz ⋯,eG,aY (by simp;lia)];simp
theorem qf{α:Type}{xs:List α}{i:Int}(h0:0<=i)(h1:i<xs.length):∃v,atI xs i=AX v/\xs[i.toNat]? = AX v:=by
 obtain⟨n,rfl⟩:=bF h0;have hn:n<xs.length:=⋯;exact#[xs[n],vM (ah hn),ah hn]
noncomputable def alpha:():=[97,98,99,100,101,102,103,104,105,106,107,108,109,110,111,112,113,114,115,116,117,118,119,120,121,122]
theorem Ji:(("abcdefghijklmnopqrstuvwxyz" : sB))=tx alpha:=by symm
theorem zP:(sk:Nat)=16777216:=sV
theorem cxK{CX P w K mg base N q sc f cd A o s H E}:(qz CX P w K mg base N q sc f cd A o s H E).K=K:=rfl
theorem cxP{CX P w K mg base N q sc f cd A o s H E}:(qz CX P w K mg base N q sc f cd A o s H E).prog=P:=rfl
theorem cxW{CX P w K mg base N q sc f cd A o s H E}:(qz CX P w K mg base N q sc f cd A o s H E).w=w:=rfl
theorem zd6{a b:Int}:VS (.int a) (.int b)=AZ:=rfl
theorem zdm{a b:sB}:VS (.str a) (.str b)=AZ:=rfl
theorem zc5{a b:Bool}:VS (.bl a) (.bl b)=AZ:=rfl
theorem zdW{b:sB}:VS .non (.str b)=AZ:=rfl
theorem zd8{b:sB}:VS (.str b) .non=AZ:=rfl
theorem ze{H:Hp}{p:sq}{o:HO}(h:H p=AY):Same H (upd H p o):=λb u e=>by
 rw[zm (zG e h)];exact e
theorem zX{α:Type}{l:List α}{i:Nat}{c:α}(h:l[i]? = AX c):l.take (i+1)=l.take i ++ [c]:=by
 rw[List.take_add_one,h];rfl
structure FunD(K:so)(x qual:sB)(st:sJ)(dV:sr)(f:sq)(fd:sv):Prop where
 ex:∃(oc:sr) (od:Option sq) (kV doc pm:sr) (an:Option sq) (cdv ct:sr) (osl:Array (Option sr)),
  fd=bu x qual (yJ st) (yg st) (zh st) dV kV doc pm an cdv ct/\K.lookup f=AX #[oc,od,.func fd,osl]/\bR K cdv qual=AZ
theorem FunD.okX{P:sy}{w:sC}{K:so}{mg:sB->Option sr}{base:sI}{x qual:sB}{st:sJ}{dV:sr}{f:sq}{fd:sv}{N ps:List sB}{k:Nat}{sp:Sp}(F:FunD K x qual st dV f fd)(S:zk N ps (zh st))(len:∀vs H Q E,sp vs H Q E->vs.length=ps.length)
  (hbody:∀(cdv:sr) (A:sE) (outer:List Al) (s:su) (H:Hp) (vs:List V) (Q:VK) (E:XK),Room k (A.deeper (tZ qual (zh st) s⁻¹ f cdv))->XE (qz (CXx P w) P w K mg base N qual (zh st) f cdv A outer s H E) E->sp vs H Q E ->
   ∃t,PSs (qz (CXx P w) P w K mg base N qual (zh st) f cdv A outer s H E) (yg st) t/\t { nx:=λ_ H'=>Q .non H',rt:=Q } (start N vs) H):zQ P w K mg base (CXx P w) (k+1) f fd ps sp:=by
 obtain⟨oc,od,kV,doc,pm,an,cdv,ct,osl,rfl,lk,hcd⟩:=F.ex;exact JE lk hcd S len λA outer s H vs Q E hr hsp=>hbody cdv A outer s H vs Q E hr zdc hsp
def ub(C:sq)(f:sB):Sp:=λvs H Q _=>∃x v,vs=[.ref x,v]/\H x=AX (XN x C AY)/\∀dx,H dx=AY->Q .non (upd (upd H dx (.xd [(f,v)])) x (XN x C (AX dx)))
def zfc(H:Hp)(d:sq)(f:sB)(v:V)(H':Hp):Prop:=H d=AY/\Same H H'/\H' d=AX (.xd [(f,v)])
theorem Ui{E:XK}{C:sq}{f:sB}{v:V}{H:Hp}(h:∀d H',zfc H d f v H'->E (.ref C) (AX d) H'):∀x,H x=AY->ub C f [.ref x,v] (upd H x (XN x C AY)) (λu H2=>u=.non/\∃dx,H2 x=AX (XN x C dx)/\E (.ref C) dx (del H2 x)) E0:=by
 intro x hx;refine#[x,v,rfl,zd,λdx hd=>#[rfl,AX dx,zd,h dx _ #[?_,?_,?_]]]
 ·by_cases e:dx=x
  ·rw[e];exact hx
  ·rw[zm e]at hd;exact hd
 ·have hne:dx≠x:=λe=>by rw[e,zd]at hd;cases hd
  rw[zm hne]at hd;intro b o q;have b1:b≠x:=zG q hx;have b2:b≠dx:=zG q hd;rw[V1 b1,zm b1,zm b2,zm b1];exact q
 ·have hne:dx≠x:=λe=>by rw[e,zd]at hd;cases hd
  rw[V1 hne,zm hne,zd]
section
variable{X:Cx}
def zgi:R2:=λx y H Q=>match y with | .non=>Q (.bl (decide (x=.non))) H | _=>False
theorem op_isN':OpR X (sK .Is) zgi:=λBb s σ H x y v u Q I rx ry h=>by
 cases y with
 | non=>exact zdq Bb s σ H x .non v u Q I rx ry #[rfl,h]
 | _=>exact h.elim
def zed:R2:=λx y H Q=>match y with | .non=>Q (.bl (!decide (x=.non))) H | _=>False
theorem op_notN':OpR X (sK .IsNot) zed:=λBb s σ H x y v u Q I rx ry h=>by
 cases y with
 | non=>exact zcI Bb s σ H x .non v u Q I rx ry #[rfl,h]
 | _=>exact h.elim
def K6:List V->Hp->VK->Prop:=λxs H Q=>match xs with | [.int i,.int j]=>Q (.int (if j > i then j else i)) H | _=>False
theorem UR(hc:X.calm=AZ):vQ X (.builtin "max") K6:=λBb s σ H xs us Q I r h=>by
 unfold K6 at h;split at h
 ·exact V2 hc Bb s σ H _ us Q I r #[_,_,rfl,h]
 ·exact h.elim
def rGe:R2:=λx y H Q=>onInt x λi=>onInt y λj=>Q (.bl (decide (j<=i))) H
theorem op_ge':OpR X (sK .GtE) rGe:=zff
end
theorem qD:sZ "max" = AX (.builtin "max"):=by symm
def zbe(ls l:())(m:Int)(k:Nat):Prop:=∃c,l[k]? = AX c/\(m<=k\/c ∉ ls)
def FB(ls l:())(m:Int)(k:Nat):Prop:=zbe ls l m k/\∀j<k,¬ zbe ls l m j
def NB(ls l:())(m:Int):Prop:=∀j,¬ zbe ls l m j
theorem FB.nb{ls l:()}{m:Int}{k:Nat}(h:FB ls l m k)(n:NB ls l m):False:=n k h.1
inductive D where
 | non | bl (b:Bool) | int (i:Int) | str (x:sB) | lst (l:List D) | tup (l:List D)
mutual
def Is(K:so)(H:Hp):D->V->Prop
 | .non,v=>v=.non
 | .bl b,v=>v=.bl b
 | .int i,v=>v=.int i
 | .str x,v=>v=.str x
 | .lst l,v=>∃a xs,v=.ref a/\SqL K H a xs/\Iss K H l xs
 | .tup l,v=>∃a xs,v=.ref a/\SqT K H a xs/\Iss K H l xs
def Iss(K:so)(H:Hp):List D->List V->Prop
 | [],vs=>vs=[]
 | d::l,vs=>∃v r,vs=v::r/\Is K H d v/\Iss K H l r
end
mutual
noncomputable def eqD:D->D->Bool
 | .non,.non=>AZ
 | .bl a,.bl b=>a == b
 | .bl a,.int b=>(if a then 1 else 0) == b
 | .int a,.bl b=>a ==(if b then 1 else 0)
 | .int a,.int b=>a == b
 | .str a,.str b=>a == b
 | .lst l,.lst m=>uC l m
 | .tup l,.tup m=>uC l m
 | _,_=>Ba
noncomputable def uC:List D->List D->Bool
 | [],[]=>AZ
 | d::l,e::m=>eqD d e && uC l m
 | _,_=>Ba
end
mutual
noncomputable def dpD:D->Nat
 | .lst l=>uA l+1
 | .tup l=>uA l+1
 | _=>0
noncomputable def uA:List D->Nat
 | []=>0
 | d::l=>max (dpD d) (uA l)
end
theorem JJ:∀{l:List D} {j:Nat} {d:D},l[j]? = AX d->dpD d<=uA l
 | d::l,0,_,h=>by
  cases h
  erw[uA]
  lia
 | d::l,j+1,e,h=>by
  have:=JJ (l:=l) (j:=j) (d:=e) h
  erw[uA]
  lia
mutual
theorem k8:∀d:D,eqD d d=AZ
 | .non=>rfl
 | .bl b=>by simp [eqD]
 | .int i=>by simp [eqD]
 | .str x=>by simp [eqD]
 | .lst l=>by erw[eqD];exact vY l
 | .tup l=>by erw[eqD];exact vY l
theorem vY:∀l:List D,uC l l=AZ
 | []=>rfl
 | d::l=>by erw[uC,k8 d,vY l,Bool.and_self]
end
theorem Iss.len{K:so}{H:Hp}:∀{l:List D} {vs:List V},Iss K H l vs->vs.length=l.length
 | [],vs,h=>by erw[Iss]at h;rw[h];rfl
 | d::l,vs,h=>by
  erw[Iss]at h
  obtain⟨v,r,rfl,_,h2⟩:=h
  erw[aJ,Iss.len h2]
theorem Iss.at{K:so}{H:Hp}:∀{l:List D} {vs:List V} {j:Nat} {d:D},Iss K H l vs->l[j]? = AX d->∃v,vs[j]? = AX v/\Is K H d v
 | d::l,vs,0,_,h,q=>by
  cases q
  erw[Iss]at h
  obtain⟨v,r,rfl,h1,_⟩:=h;exact#[v,rfl,h1]
 | d::l,vs,j+1,e,h,q=>by
  erw[Iss]at h
  obtain⟨v,r,rfl,_,h2⟩:=h;exact Iss.at (j:=j) h2 q
theorem Iss.append{K:so}{H:Hp}:∀{l m:List D} {vs us:List V},Iss K H l vs->Iss K H m us->Iss K H (l ++ m) (vs ++ us)
 | [],m,vs,us,h,g=>by erw[Iss]at h;rw[h];exact g
 | d::l,m,vs,us,h,g=>by
  erw[Iss]at h
  obtain⟨v,r,rfl,h1,h2⟩:=h
  erw[bv,Iss]
  exact#[v,r ++ us,rfl,h1,Iss.append h2 g]
theorem Iss.ints{K:so}{H:Hp}:∀(l:List Int),Iss K H (l.map D.int) (l.map V.int)
 | []=>by erw[aL,Iss]
 | i::l=>by
  erw[au,Iss,Is]
  exact#[_,_,rfl,rfl,Iss.ints l]
theorem zq{K:so}{H H':Hp}{a:sq}{xs:List V}(e:Same H H')(h:SqT K H a xs):SqT K H' a xs:=by
 rcases h with (h | ⟨o,h⟩) | h
 ·exact .inl (.inl (e _ _ h))
 ·exact .inl (.inr #[o,e _ _ h])
 ·exact .inr h
mutual
theorem Is.same{K:so}{H H':Hp}(e:Same H H'):∀(d:D) (v:V),Is K H d v->Is K H' d v
 | .non,v,h=>by erw[Is]at h ⊢;exact h
 | .bl b,v,h=>by erw[Is]at h ⊢;exact h
 | .int b,v,h=>by erw[Is]at h ⊢;exact h
 | .str b,v,h=>by erw[Is]at h ⊢;exact h
 | .lst l,v,h=>by
  erw[Is]at h ⊢
  obtain⟨a,xs,e1,e2,e3⟩:=h;exact#[a,xs,e1,e.seq e2,Iss.same e l xs e3]
 | .tup l,v,h=>by
  erw[Is]at h ⊢
  obtain⟨a,xs,e1,e2,e3⟩:=h;exact#[a,xs,e1,zq e e2,Iss.same e l xs e3]
theorem Iss.same{K:so}{H H':Hp}(e:Same H H'):∀(l:List D) (vs:List V),Iss K H l vs->Iss K H' l vs
 | [],vs,h=>by erw[Iss]at h ⊢;exact h
 | d::l,vs,h=>by
  erw[Iss]at h ⊢
  obtain⟨v,r,e1,e2,e3⟩:=h;exact#[v,r,e1,Is.same e d v e2,Iss.same e l r e3]
end
theorem vS:∀(l m:List D),uC l m=((aK (min l.length m.length)).all (λj=>eqD (l.getD j .non) (m.getD j .non)) && l.length == m.length)
 | [],[]=>rfl
 | [],e::m=>by simp [uC]
 | d::l,[]=>by simp [uC]
 | d::l,e::m=>by
  erw[uC,vS l m,aJ]
  have h1:min (l.length+1) (m.length+1)=min l.length m.length+1:=⋯;rw[h1,dq,fv,List.all_map]
  have h2:(l.length+1 == m.length+1)=(l.length == m.length):=by
   rw[cZ,beq_iff_eq,beq_iff_eq];lia
  rw[h2]
  erw[List.getD_cons_zero,Bool.and_assoc]
  rfl
section
variable{X:Cx}{Bb:List (sq × sX)}{σ:St}{H:Hp}{s:su}
theorem Ye{a:sq}{xs ys:List V}(I:Inv X Bb σ H s)(h:SqL X.K H a xs)(g:SqT X.K H a ys):False:=by
 obtain⟨its,r,⟨o,n,e,c,_,d⟩,_⟩:=I.list h;obtain⟨its',r',⟨o',e',c',n',d'⟩,_⟩:=I.tuple g;rw[e]at e';cases e';rw[c]at c';exact absurd (Value.type.inj c') ∅
mutual
theorem WQ(I:Inv X Bb σ H s):∀(d e:D) (v:V),Is X.K H d v->Is X.K H e v->d=e
 | .lst l,.lst m,v,h,g=>by
  erw[Is]at h g
  obtain⟨a,xs,rfl,h1,h2⟩:=h;obtain⟨b,ys,e,g1,g2⟩:=g;cases e;have:=I.list_inj h1 g1;subst this;rw[Xq I l m xs h2 g2]
 | .tup l,.tup m,v,h,g=>by
  erw[Is]at h g
  obtain⟨a,xs,rfl,h1,h2⟩:=h;obtain⟨b,ys,e,g1,g2⟩:=g;cases e;have:=I.tuple_inj h1 g1;subst this;rw[Xq I l m xs h2 g2]
 | .lst l,.tup m,v,h,g=>by
  erw[Is]at h g
  obtain⟨a,xs,rfl,h1,h2⟩:=h;obtain⟨b,ys,e,g1,g2⟩:=g;cases e;exact (Ye I h1 g1).elim
 | .tup l,.lst m,v,h,g=>by
  erw[Is]at h g
  obtain⟨a,xs,rfl,h1,h2⟩:=h;obtain⟨b,ys,e,g1,g2⟩:=g;cases e;exact (Ye I g1 h1).elim
 | .lst l,.non,v,h,g=>by erw[Is]at h g;obtain⟨a,xs,rfl,_⟩:=h;cases g
 | .lst l,.bl _,v,h,g=>by erw[Is]at h g;obtain⟨a,xs,rfl,_⟩:=h;cases g
 | .lst l,.int _,v,h,g=>by erw[Is]at h g;obtain⟨a,xs,rfl,_⟩:=h;cases g
 | .lst l,.str _,v,h,g=>by erw[Is]at h g;obtain⟨a,xs,rfl,_⟩:=h;cases g
 | .tup l,.non,v,h,g=>by erw[Is]at h g;obtain⟨a,xs,rfl,_⟩:=h;cases g
 | .tup l,.bl _,v,h,g=>by erw[Is]at h g;obtain⟨a,xs,rfl,_⟩:=h;cases g
 | .tup l,.int _,v,h,g=>by erw[Is]at h g;obtain⟨a,xs,rfl,_⟩:=h;cases g
 | .tup l,.str _,v,h,g=>by erw[Is]at h g;obtain⟨a,xs,rfl,_⟩:=h;cases g
 | .non,e,v,h,g=>by
  erw[Is]at h
  subst h;cases e <;> erw[Is]at g
  all_goals first | rfl | (obtain⟨a,xs,q,_⟩:=g;cases q) | cases g
 | .bl _,e,v,h,g=>by
  erw[Is]at h
  subst h;cases e <;> erw[Is]at g
  all_goals first | (cases g;rfl) | (obtain⟨a,xs,q,_⟩:=g;cases q) | cases g
 | .int _,e,v,h,g=>by
  erw[Is]at h
  subst h;cases e <;> erw[Is]at g
  all_goals first | (cases g;rfl) | (obtain⟨a,xs,q,_⟩:=g;cases q) | cases g
 | .str _,e,v,h,g=>by
  erw[Is]at h
  subst h;cases e <;> erw[Is]at g
  all_goals first | (cases g;rfl) | (obtain⟨a,xs,q,_⟩:=g;cases q) | cases g
theorem Xq(I:Inv X Bb σ H s):∀(l m:List D) (vs:List V),Iss X.K H l vs->Iss X.K H m vs->l=m
 | [],[],_,_,_=>rfl
 | [],e::m,vs,h,g=>by
  erw[Iss]at h g
  subst h;obtain⟨_,_,q,_⟩:=g;cases q
 | d::l,[],vs,h,g=>by
  erw[Iss]at h g
  subst g;obtain⟨_,_,q,_⟩:=h;cases q
 | d::l,e::m,vs,h,g=>by
  erw[Iss]at h g
  obtain⟨v,r,rfl,h1,h2⟩:=h;obtain⟨v',r',q,g1,g2⟩:=g;cases q;rw[WQ I d e v h1 g1,Xq I l m r h2 g2]
end
theorem xQ:∀{xs:List V} {us:List sr} {j:Nat} {x:V},Vals xs us->xs[j]? = AX x->∃u,us[j]? = AX u/\RelV x u
 | _,_,0,_,.cons r t,h=>by cases h;exact#[_,rfl,r]
 | _,_,j+1,_,.cons r t,h=>xQ (j:=j) t h
theorem vh{l m:List D}{xs ys:List V}{its its':List sr}{A:sE}{n:Nat}(hl:Iss X.K H l xs)(hm:Iss X.K H m ys)(r:Vals xs its)(r':Vals ys its')(hn:uA l<n)
  (ih:∀(d e:D) (x y:V) (u v:sr),dpD d<n->Is X.K H d x->Is X.K H e y->RelV x u->RelV y v->SeqAt.EqAt A s u v (eqD d e)) :
  ∀j (h1:j<its.toArray.size) (h2:j<its'.toArray.size),SeqAt.EqAt A s its.toArray[j] its'.toArray[j] (eqD (l.getD j .non) (m.getD j .non)):=by
 intro j h1 h2;rw[ak]at h1 h2;have e1:=hl.len;have e2:=hm.len;have e3:=r.length;have e4:=r'.length;have g1:l[j]? = AX l[j]:=ah ⋯;have g2:m[j]? = AX m[j]:=ah ⋯;generalize l[j]=d at g1;generalize m[j]=e at g2;obtain⟨x,hx,ix⟩:=hl.at g1;obtain⟨y,hy,iy⟩:=hm.at g2;obtain⟨u,hu,ru⟩:=xQ r hx;obtain⟨v,hv,rv⟩:=xQ r' hy
 have q1:its.toArray[j]=u:=by
  have:=(Be.mp hu).2;simpa using this
 have q2:its'.toArray[j]=v:=by
  have:=(Be.mp hv).2;simpa using this
 rw[q1,q2,aa,aa,g1,g2];exact ih d e x y u v (cf (JJ g1) hn) ix iy ru rv
theorem jo(I:Inv X Bb σ H s):∀(n:Nat) (A:sE) (d e:D) (x y:V) (u v:sr),A.units+n<cLine->dpD d<n->Is X.K H d x->Is X.K H e y->RelV x u->RelV y v->SeqAt.EqAt A s u v (eqD d e):=by
 intro n
 induction n with
 | zero=>intro A d e x y u v _ h;exact absurd h (cq _)
 | succ n ih =>
  intro A d e x y u v hu hd hx hy rx ry;have hu1:A.units<cLine:=⋯;have huA:A.in1.units+n<cLine:=by show A.units+1+n<cLine;lia
  cases d with
  | lst l =>
   erw[Is]at hx
   obtain⟨a,xs,rfl,h1,h2⟩:=hx;cases rx;obtain⟨its,r,p,_⟩:=I.list h1
   cases e with
   | non=>erw[Is]at hy;subst hy;cases ry;exact SeqAt.EqAt.list_none p.isList hu1
   | bl b=>erw[Is]at hy;subst hy;cases ry;exact SeqAt.EqAt.list_bool b p.isList hu1
   | int b=>erw[Is]at hy;subst hy;obtain⟨t,rfl⟩:=ry;exact SeqAt.EqAt.list_int b t p.isList hu1
   | str b=>erw[Is]at hy;subst hy;obtain⟨t,rfl⟩:=ry;exact SeqAt.EqAt.list_str b t p.isList hu1
   | tup m =>
    erw[Is]at hy
    obtain⟨b,ys,rfl,g1,g2⟩:=hy;cases ry;obtain⟨its',r',p',_⟩:=I.tuple g1;exact SeqAt.EqAt.list_tuple p.isList p' hu1
   | lst m =>
    have hy':=hy
    erw[Is]at hy
    obtain⟨b,ys,rfl,g1,g2⟩:=hy;cases ry;obtain⟨its',r',p',_⟩:=I.list g1
    erw[dpD]at hd
    by_cases hab:a=b
    ·subst hab;have:=WQ I (.lst l) (.lst m) (.ref a) (by erw[Is];exact#[a,xs,rfl,h1,h2]) hy';rw[this,k8];exact SeqAt.EqAt.same _
    ·refine .of_refs hab ?_
     erw[eqD]
     have L1:=h2.len;have L2:=g2.len;have L3:=r.length;have L4:=r'.length;by_cases hl:l.length=m.length
     ·have:=SeqAt.RcAt.lists (A:=A) p.isList p'.isList (by erw[ak];lia) hu1 (vh h2 g2 r r' (n:=n) ⋯ λd e x y u v q1 q2 q3 q4 q5=>ih A.in1 d e x y u v huA q1 q2 q3 q4 q5);rw[vS,hl,fJ,beq_self_eq_true,fw];have e1:its.toArray.size=m.length:=by erw[ak];lia
      rw[e1]at this;exact this
     ·rw[vS,beq_eq_false_iff_ne.mpr hl,fg];exact SeqAt.RcAt.lists_lengths p.isList p'.isList (by rw[bne_iff_ne];erw[ak];lia) hu1
  | tup l =>
   erw[Is]at hx
   obtain⟨a,xs,rfl,h1,h2⟩:=hx;cases rx;obtain⟨its,r,p,_⟩:=I.tuple h1
   cases e with
   | non=>erw[Is]at hy;subst hy;cases ry;exact SeqAt.EqAt.tuple_none p hu1
   | bl b=>erw[Is]at hy;subst hy;cases ry;exact SeqAt.EqAt.tuple_bool b p hu1
   | int b=>erw[Is]at hy;subst hy;obtain⟨t,rfl⟩:=ry;exact SeqAt.EqAt.tuple_int b t p hu1
   | str b=>erw[Is]at hy;subst hy;obtain⟨t,rfl⟩:=ry;exact SeqAt.EqAt.tuple_str b t p hu1
   | lst m =>
    erw[Is]at hy
    obtain⟨b,ys,rfl,g1,g2⟩:=hy;cases ry;obtain⟨its',r',p',_⟩:=I.list g1;exact SeqAt.EqAt.tuple_list p p'.isList hu1
   | tup m =>
    have hy':=hy
    erw[Is]at hy
    obtain⟨b,ys,rfl,g1,g2⟩:=hy;cases ry;obtain⟨its',r',p',_⟩:=I.tuple g1
    erw[dpD]at hd
    by_cases hab:a=b
    ·subst hab;have:=WQ I (.tup l) (.tup m) (.ref a) (by erw[Is];exact#[a,xs,rfl,h1,h2]) hy';rw[this,k8];exact SeqAt.EqAt.same _
    ·refine .of_refs hab ?_
     erw[eqD]
     have L1:=h2.len;have L2:=g2.len;have L3:=r.length;have L4:=r'.length;have:=SeqAt.RcAt.tuples (A:=A) p p' hu1 (vh h2 g2 r r' (n:=n) ⋯ λd e x y u v q1 q2 q3 q4 q5=>ih A.in1 d e x y u v huA q1 q2 q3 q4 q5);rw[vS]
     erw[ak]at this
     rw[<- L1,<- L2,L3,L4];exact this
  | non =>
   erw[Is]at hx
   subst hx
   cases e with
   | lst m =>
    erw[Is]at hy
    obtain⟨b,ys,rfl,g1,g2⟩:=hy;cases rx;cases ry;obtain⟨its',r',p',_⟩:=I.list g1;exact SeqAt.EqAt.none_list p'.isList hu1
   | tup m =>
    erw[Is]at hy
    obtain⟨b,ys,rfl,g1,g2⟩:=hy;cases rx;cases ry;obtain⟨its',r',p',_⟩:=I.tuple g1;exact SeqAt.EqAt.none_tuple p' hu1
   | _=>erw[Is]at hy;subst hy;exact WC rx ry rfl rfl
  | bl c =>
   erw[Is]at hx
   subst hx
   cases e with
   | lst m =>
    erw[Is]at hy
    obtain⟨b,ys,rfl,g1,g2⟩:=hy;cases rx;cases ry;obtain⟨its',r',p',_⟩:=I.list g1;exact SeqAt.EqAt.bool_list _ p'.isList hu1
   | tup m =>
    erw[Is]at hy
    obtain⟨b,ys,rfl,g1,g2⟩:=hy;cases rx;cases ry;obtain⟨its',r',p',_⟩:=I.tuple g1;exact SeqAt.EqAt.bool_tuple _ p' hu1
   | _=>erw[Is]at hy;subst hy;exact WC rx ry rfl rfl
  | int c =>
   erw[Is]at hx
   subst hx
   cases e with
   | lst m =>
    erw[Is]at hy
    obtain⟨b,ys,rfl,g1,g2⟩:=hy;obtain⟨t,rfl⟩:=rx;cases ry;obtain⟨its',r',p',_⟩:=I.list g1;exact SeqAt.EqAt.int_list _ _ p'.isList hu1
   | tup m =>
    erw[Is]at hy
    obtain⟨b,ys,rfl,g1,g2⟩:=hy;obtain⟨t,rfl⟩:=rx;cases ry;obtain⟨its',r',p',_⟩:=I.tuple g1;exact SeqAt.EqAt.int_tuple _ _ p' hu1
   | _=>erw[Is]at hy;subst hy;exact WC rx ry rfl rfl
  | str c =>
   erw[Is]at hx
   subst hx
   cases e with
   | lst m =>
    erw[Is]at hy
    obtain⟨b,ys,rfl,g1,g2⟩:=hy;obtain⟨t,rfl⟩:=rx;cases ry;obtain⟨its',r',p',_⟩:=I.list g1;exact SeqAt.EqAt.str_list _ _ p'.isList hu1
   | tup m =>
    erw[Is]at hy
    obtain⟨b,ys,rfl,g1,g2⟩:=hy;obtain⟨t,rfl⟩:=rx;cases ry;obtain⟨its',r',p',_⟩:=I.tuple g1;exact SeqAt.EqAt.str_tuple _ _ p' hu1
   | _=>erw[Is]at hy;subst hy;exact WC rx ry rfl rfl
def zgn(K:so):R2:=λx y H Q=>∃l m,((Is K H (.lst l) x/\Is K H (.lst m) y)\/(Is K H (.tup l) x/\Is K H (.tup m) y))/\uA l<50/\Q (.bl (uC l m)) H
theorem zaG(hu:X.A.units+100<cLine):OpR X (sK .Eq) (zgn X.K):=by
 intro Bb s σ H x y v u Q I rx ry h;obtain⟨l,m,hh,hd,q⟩:=h;have hu1:X.A.units<cLine:=⋯;have huA:X.A.in1.units+50<cLine:=by show X.A.units+1+50<cLine;lia
 rcases hh with ⟨hx,hy⟩ | ⟨hx,hy⟩
 ·erw[Is]at hx hy
  obtain⟨a,xs,rfl,h1,h2⟩:=hx;obtain⟨b,ys,rfl,g1,g2⟩:=hy;cases rx;cases ry;obtain⟨its,r,p,_⟩:=I.list h1;obtain⟨its',r',p',_⟩:=I.list g1;have L1:=h2.len;have L2:=g2.len;have L3:=r.length;have L4:=r'.length;by_cases hl:l.length=m.length
  ·have:=SeqAt.RcAt.lists (A:=X.A) p.isList p'.isList (by erw[ak];lia) hu1 (vh h2 g2 r r' (n:=50) hd λd e x y u v q1 q2 q3 q4 q5=>jo I 50 X.A.in1 d e x y u v huA q1 q2 q3 q4 q5);have e1:its.toArray.size=m.length:=by erw[ak];lia
   rw[e1]at this;rw[vS,hl,fJ,beq_self_eq_true,fw]at q;exact this X.prog X.w X.xe _ #[.bl _,H,I,rfl,q]
  ·rw[vS,beq_eq_false_iff_ne.mpr hl,fg]at q;exact SeqAt.RcAt.lists_lengths p.isList p'.isList (by rw[bne_iff_ne];erw[ak];lia) hu1 X.prog X.w X.xe _ #[.bl _,H,I,rfl,q]
 ·erw[Is]at hx hy
  obtain⟨a,xs,rfl,h1,h2⟩:=hx;obtain⟨b,ys,rfl,g1,g2⟩:=hy;cases rx;cases ry;obtain⟨its,r,p,_⟩:=I.tuple h1;obtain⟨its',r',p',_⟩:=I.tuple g1;have L1:=h2.len;have L2:=g2.len;have L3:=r.length;have L4:=r'.length;have:=SeqAt.RcAt.tuples (A:=X.A) p p' hu1 (vh h2 g2 r r' (n:=50) hd λd e x y u v q1 q2 q3 q4 q5=>jo I 50 X.A.in1 d e x y u v huA q1 q2 q3 q4 q5)
  erw[ak]at this
  rw[vS,<- L1,<- L2,L3,L4]at q;exact this X.prog X.w X.xe _ #[.bl _,H,I,rfl,q]
end
theorem Ym(l m:List Int):uC (l.map D.int) (m.map D.int)=decide (l=m):=by
 induction l generalizing m with
 | nil=>cases m <;> simp [uC]
 | cons a l ih =>
  cases m with
  | nil=>simp [uC]
  | cons b m =>
   erw[au,uC,eqD,ih m]
   by_cases h1:a=b
   ·subst h1;by_cases h2:l=m
    ·simp [h2]
    ·simp [h2]
   ·simp [h1]
theorem Xb(l:List Int):uA (l.map D.int)=0:=by
 induction l with
 | nil=>rfl
 | cons a l ih=>erw[au,uA,dpD,ih];rfl
abbrev CNx(n i:Nat)(Pv:Nat->List V->Hp->Prop)(Bd:List V)(H:Hp):Prop:=∃m',m'<n - i/\(m'=n - (i+1)/\i+1<=n/\Pv (i+1) Bd H)
theorem CNx.mk{n i:Nat}{Pv:Nat->List V->Hp->Prop}{Bd:List V}{H:Hp}(hi:i<n)(h:Pv (i+1) Bd H):CNx n i Pv Bd H:=#[n - (i+1),⋯,rfl,hi,h]
def XM(J:It)(g:TG)(tt:TT)(te:TE)(own:Nat)(ix:())(σ:St)(H1:Hp)(Q:VK)(D:sq):Prop:=∃W:Nat->Nat->List V->Hp->Prop,(∃m,W 0 m [] (upd H1 D (.lst []))) /\
 ∀i m Bd H',W i m Bd H'->(J.stop i H'/\Q (.ref D) H')\/(J.go i H'/\∀x H2,J.yld i H' x H2->g x (vC σ own ix) H2 λσ3 H3=>xb (vC σ own ix) σ3/\tt σ3 H3 λb H4=>if b=AZ then
  te σ3 H4 λv H5=>H5 D=AX (.lst Bd)/\Bd.length<sk/\∃m',m'<m/\W (i+1) m' (Bd ++ [v]) (upd H5 D (.lst (Bd ++ [v])))
  else ∃m',m'<m/\W (i+1) m' Bd H4)
def CompR(lo:Int)(n:Nat)(g:TG)(tt:TT)(te:TE)(own:Nat)(ix:())(σ:St)(H1:Hp)(Q:VK)(D:sq):Prop:=XM (Itr lo n) g tt te own ix σ H1 Q D
def CompL(K:so)(a:sq)(g:TG)(tt:TT)(te:TE)(own:Nat)(ix:())(σ:St)(H1:Hp)(Q:VK)(D:sq):Prop:=XM (Itl K a) g tt te own ix σ H1 Q D
def CompS(x:sB)(g:TG)(tt:TT)(te:TE)(own:Nat)(ix:())(σ:St)(H1:Hp)(Q:VK)(D:sq):Prop:=XM (Its x) g tt te own ix σ H1 Q D
theorem zan{ta:TA}{g:TG}{tt:TT}{te:TE}{own:Nat}{ix:()}{σ:St}{H:Hp}{Q:VK}:j8 (zcz ta) g tt te own ix σ H Q=ta σ H λvs H1=>∃j:Int,vs=[.int j]/\-(2 ^ 62)<=j/\j<2 ^ 62/\∀D,H1 D=AY->CompR 0 j.toNat g tt te own ix σ H1 Q D:=rfl
theorem zdx{K:so}{tl:TE}{g:TG}{tt:TT}{te:TE}{own:Nat}{ix:()}{σ:St}{H:Hp}{Q:VK}:j8 (zbj K tl) g tt te own ix σ H Q=tl σ H λx H1=>∃a,x=.ref a/\(∃xs,SqL K H1 a xs)/\∀D,H1 D=AY->CompL K a g tt te own ix σ H1 Q D:=rfl
theorem zdC{tl:TE}{g:TG}{tt:TT}{te:TE}{own:Nat}{ix:()}{σ:St}{H:Hp}{Q:VK}:j8 (zfq tl) g tt te own ix σ H Q=tl σ H λv H1=>∃x,v=.str x/\∀D,H1 D=AY->CompS x g tt te own ix σ H1 Q D:=rfl
section
variable{g:TG}{tt:TT}{te:TE}{own:Nat}{ix:()}{σ:St}{H1:Hp}{Q:VK}{D:sq}
theorem CompR.by{lo:Int}{n:Nat}(Pv:Nat->List V->Hp->Prop)(h0:Pv 0 [] (upd H1 D (.lst [])))
  (hs:∀i Bd H',i<n->Pv i Bd H'->g (.int (lo+i)) (vC σ own ix) H' λσ3 H3=>xb (vC σ own ix) σ3/\tt σ3 H3 λb H4=>if b=AZ then
   te σ3 H4 λv H5=>H5 D=AX (.lst Bd)/\Bd.length<sk/\CNx n i Pv (Bd ++ [v]) (upd H5 D (.lst (Bd ++ [v])))else CNx n i Pv Bd H4)
  (hd:∀Bd H',Pv n Bd H'->Q (.ref D) H'):CompR lo n g tt te own ix σ H1 Q D:=by
 refine#[λi m Bd H=>m=n - i/\i<=n/\Pv i Bd H,#[n,by simp,aD _,h0],?_];rintro i m Bd H' ⟨rfl,hi,p⟩;by_cases hlt:i<n
 ·refine .inr #[hlt,λx H2 y=>?_];obtain⟨e,y⟩:=y;subst e y;exact hs i Bd _ hlt p
 ·have e:i=n:=⋯;subst e;exact .inl #[al _,hd Bd H' p]
theorem CompL.by{K:so}{a:sq}{xs:List V}(Pv:Nat->List V->Hp->Prop)(h0:Pv 0 [] (upd H1 D (.lst [])))(hl:∀i Bd H',i<=xs.length->Pv i Bd H'->SqL K H' a xs)
  (hs:∀i x Bd H',xs[i]? = AX x->Pv i Bd H'->g x (vC σ own ix) H' λσ3 H3=>xb (vC σ own ix) σ3/\tt σ3 H3 λb H4=>if b=AZ then
   te σ3 H4 λv H5=>H5 D=AX (.lst Bd)/\Bd.length<sk/\CNx xs.length i Pv (Bd ++ [v]) (upd H5 D (.lst (Bd ++ [v])))else CNx xs.length i Pv Bd H4)
  (hd:∀Bd H',Pv xs.length Bd H'->Q (.ref D) H'):CompL K a g tt te own ix σ H1 Q D:=by
 refine#[λi m Bd H=>m=xs.length - i/\i<=xs.length/\Pv i Bd H,#[xs.length,by simp,aD _,h0],?_];rintro i m Bd H' ⟨rfl,hi,p⟩;have q:=hl i Bd H' hi p;by_cases hlt:i<xs.length
 ·refine .inr #[#[xs,xs[i],q,by simp [hlt]],λx H2 y=>?_];obtain⟨e,y⟩:=y;subst e;exact hs i x Bd _ (y xs q) p
 ·have e:i=xs.length:=⋯;subst e;exact .inl #[#[xs,q,al _],hd Bd H' p]
theorem CompS.by{l:()}(Pv:Nat->List V->Hp->Prop)(h0:Pv 0 [] (upd H1 D (.lst [])))
  (hs:∀i c Bd H',l[i]? = AX c->Pv i Bd H'->g (.str (tx [c])) (vC σ own ix) H' λσ3 H3=>xb (vC σ own ix) σ3/\tt σ3 H3 λb H4=>if b=AZ then
   te σ3 H4 λv H5=>H5 D=AX (.lst Bd)/\Bd.length<sk/\CNx l.length i Pv (Bd ++ [v]) (upd H5 D (.lst (Bd ++ [v])))else CNx l.length i Pv Bd H4)
  (hd:∀Bd H',Pv l.length Bd H'->Q (.ref D) H'):CompS (tx l) g tt te own ix σ H1 Q D:=by
 refine#[λi m Bd H=>m=l.length - i/\i<=l.length/\Pv i Bd H,#[l.length,by simp,aD _,h0],?_];rintro i m Bd H' ⟨rfl,hi,p⟩;by_cases hlt:i<l.length
 ·refine .inr #[hlt,λv H2 y=>?_];obtain⟨e,c,hc,ev⟩:=y;subst e ev;exact hs i c Bd _ hc p
 ·have e:i=l.length:=⋯;subst e;exact .inl #[rfl,hd Bd H' p]
end
theorem xx{x:V}{r:St}:xb (AY::r) (AX x::r):=#[rfl,λi v h=>by
 cases i with
 | zero=>cases h
 | succ i=>exact h]
theorem zN{X:Cx}{scope sc:tw}{own caps:List sB}{ix:()}(h1:scope.kind=.function)(h2:scope.names.all (λy=>y.2 != .cell)=AZ)(h3:scope.names.all (λy=>y.2 != .local || scope.names.lookup y.1 == AX .local)=AZ)
  (h4:scope.names.all (λy=>y.2 != .free || sc.names.lookup y.1 == AX .cell)=AZ) (hsc:X.env.scope=sc) (h5:own.all (λy=>scope.names.lookup y == AX .local)=AZ) (h6:caps.all (λy=>scope.names.lookup y == AX .free)=AZ) (h7:ix.map (λi=>X.N[i]?)=caps.map AX):kj X scope own caps ix:=by
 refine#[h1,λy hy=>?_,λy hy e=>?_,λy hy=>?_,λy hy=>?_,λy hy=>?_,h7]
 ·have:=Bp.mp h2 y hy;simpa using this
 ·have:=Bp.mp h3 y hy;rw[e]at this;simpa using this
 ·have:=Bp.mp h4 _ hy;have:=by simpa using this
  refine .inl ?_;show X.env.scope.names.lookup y=AX .cell;rw[hsc];exact this
 ·have:=Bp.mp h5 y hy;simpa using this
 ·have:=Bp.mp h6 y hy;simpa using this
theorem ZL{α:Type}(l:List α){a b:Int}(h0:0<=a)(h1:a<=b)(h2:b<=l.length):cut l (AX a) (AX b)=(l.drop a.toNat).take (b - a).toNat:=by
 obtain⟨m,rfl⟩:=bF h0;obtain⟨n,rfl⟩:=bF (by lia:0<=b);unfold cut;rw[HT.sIx_nat,HT.sIx_nat,cD ⋯,cD ⋯];have:((n:Int) - (m:Int)).toNat=n - m:=⋯;rw[this];rfl
theorem uS{k:Nat}{A:sE}(r:Room k A):A.units+100<cLine:=by have:=r.un;lia
theorem V7{K:so}{x y:V}{H:Hp}{Q:VK}{l m:List D}(h:(Is K H (.lst l) x/\Is K H (.lst m) y)\/(Is K H (.tup l) x/\Is K H (.tup m) y))(hd:uA l<50)(q:Q (.bl (uC l m)) H):zgn K x y H Q:=#[l,m,h,hd,q]
def zfk(t u:TS):TS:=λD σ H=>∃R:St->Hp->Prop,t { D with nx:=R } σ H/\∀σ' H',R σ' H'->u D σ' H'
theorem zi{X:Cx}{st:sJ}{rest:List sJ}{t u:TS}(h1:PS X st t)(h2:PSs X rest u):PSs X (st::rest) (zfk t u):=by
 intro Bb s σ H D I h;obtain⟨R,h,hr⟩:=h;refine tL (thn (h1 Bb s σ H { D with nx:=R } I h) λf s1 q=>?_)
 cases f with
 | next =>
  obtain⟨σ',H',I',q⟩:=q;exact h2 Bb s1 σ' H' D I' (hr _ _ q)
 | ret v=>exact q
 | brk=>exact q
 | cont=>exact q
theorem WG{t u:TS}{D:vG}{σ:St}{H:Hp}(R:St->Hp->Prop)(h:t { D with nx:=R } σ H)(hr:∀σ' H',R σ' H'->u D σ' H'):zfk t u D σ H:=#[R,h,hr]
theorem zj{t u:TS}{D:vG}{σ:St}{H:Hp}(R:St->Hp->Prop)(h:t { D with nx:=R } σ H)(hr:∀G:St->Hp->Prop,G=u D->∀σ' H',R σ' H'->G σ' H'):zfk t u D σ H:=#[R,h,hr _ rfl]
theorem nm4{α β γ δ:Type}{P R:α->β->γ->δ->Prop}{B:α->β->γ->δ->Prop}(h:∀G:α->β->γ->δ->Prop,G=B->∀a b c d,P a b c d->R a b c d->G a b c d):∀a b c d,P a b c d->R a b c d->B a b c d:=h _ rfl
theorem nm3{α β γ:Type}{P R:α->β->γ->Prop}{B:α->β->γ->Prop}(h:∀G:α->β->γ->Prop,G=B->∀a b c,P a b c->R a b c->G a b c):∀a b c,P a b c->R a b c->B a b c:=h _ rfl
theorem zJ{H H':Hp}{a:sq}{o:HO}(h:Same H H')(e:H a=AY):Same H (upd H' a o):=λb u q=>by
 rw[zm (zG q e)];exact h b u q
theorem ForL.by{K:so}{a:sq}{xs:List V}{g:TG}{tb:TS}{D:vG}{σ:St}{H:Hp}(Pv:Nat->St->Hp->Prop)(h0:Pv 0 σ H)(hl:∀i σ H,i<=xs.length->Pv i σ H->SqL K H a xs)
  (hs:∀i x σ H,xs[i]? = AX x->Pv i σ H->g x σ H λσ2 H2=>tb { D with nx:=Pv (i+1),ct:=Pv (i+1),bk:=D.nx } σ2 H2) (hd:∀σ H,Pv xs.length σ H->D.nx σ H):ForL K a g tb D σ H:=KC Pv h0 hl hs hd
theorem ZB{A B:Prop}(h:B):if AZ=Ba then A else B:=by rw[if_neg ∅];exact h
def CompV(K:so)(a:sq)(n:Nat)(g:TG)(tt:TT)(te:TE)(own:Nat)(ix:())(σ:L2.St)(H1:Hp)(Q:VK)(D:sq):Prop:=XM (Irv K a n) g tt te own ix σ H1 Q D
theorem zds{K:so}{ta:TA}{g:TG}{tt:TT}{te:TE}{own:Nat}{ix:()}{σ:L2.St}{H:Hp}{Q:VK}:j8 (zf3 K ta) g tt te own ix σ H Q=ta σ H λvs H1=>∃a xs,vs=[.ref a]/\SqL K H1 a xs/\∀D,H1 D=AY->CompV K a xs.length g tt te own ix σ H1 Q D:=rfl
theorem CompV.by{K:so}{a:sq}{xs:List V}{g:TG}{tt:TT}{te:TE}{own:Nat}{ix:()}{σ:L2.St}{H1:Hp}{Q:VK}{D:sq}(Pv:Nat->List V->Hp->Prop)(h0:Pv 0 [] (upd H1 D (.lst [])))(hl:∀i Bd H',i<=xs.length->Pv i Bd H'->SqL K H' a xs)
  (hs:∀i x Bd H',xs.reverse[i]? = AX x->Pv i Bd H'->g x (vC σ own ix) H' λσ3 H3=>xb (vC σ own ix) σ3/\tt σ3 H3 λb H4=>if b=AZ then
   te σ3 H4 λv H5=>H5 D=AX (.lst Bd)/\Bd.length<sk/\CNx xs.length i Pv (Bd ++ [v]) (upd H5 D (.lst (Bd ++ [v])))else CNx xs.length i Pv Bd H4)
  (hd:∀Bd H',Pv xs.length Bd H'->Q (.ref D) H'):CompV K a xs.length g tt te own ix σ H1 Q D:=by
 refine#[λi m Bd H=>m=xs.length - i/\i<=xs.length/\Pv i Bd H,#[xs.length,by simp,aD _,h0],?_];rintro i m Bd H' ⟨rfl,hi,p⟩;have q:=hl i Bd H' hi p;by_cases hlt:i<xs.length
 ·refine .inr #[#[xs,q,rfl,hlt],λx H2 y=>?_];obtain⟨e,y⟩:=y;subst e;refine hs i x Bd _ ?_ p;rw[bx hlt];exact y xs q rfl
 ·have e:i=xs.length:=⋯;subst e;exact .inl #[rfl,hd Bd H' p]
theorem zfD{v:V}{σ:L2.St}{H:Hp}{Q:VK}:ym 0 (AX v::σ) H Q=Q v H:=rfl
theorem zeZ{a0:Option V}{v:V}{σ:L2.St}{H:Hp}{Q:VK}:ym 1 (a0::AX v::σ) H Q=Q v H:=rfl
theorem zfl{a0 a1:Option V}{v:V}{σ:L2.St}{H:Hp}{Q:VK}:ym 2 (a0::a1::AX v::σ) H Q=Q v H:=rfl
theorem zeV{a0 a1 a2:Option V}{v:V}{σ:L2.St}{H:Hp}{Q:VK}:ym 3 (a0::a1::a2::AX v::σ) H Q=Q v H:=rfl
theorem zfH{a0 a1 a2 a3:Option V}{v:V}{σ:L2.St}{H:Hp}{Q:VK}:ym 4 (a0::a1::a2::a3::AX v::σ) H Q=Q v H:=rfl
theorem zfV{a0 a1 a2 a3 a4:Option V}{v:V}{σ:L2.St}{H:Hp}{Q:VK}:ym 5 (a0::a1::a2::a3::a4::AX v::σ) H Q=Q v H:=rfl
theorem zfz{a0 a1 a2 a3 a4 a5:Option V}{v:V}{σ:L2.St}{H:Hp}{Q:VK}:ym 6 (a0::a1::a2::a3::a4::a5::AX v::σ) H Q=Q v H:=rfl
theorem zfp{a0 a1 a2 a3 a4 a5 a6:Option V}{v:V}{σ:L2.St}{H:Hp}{Q:VK}:ym 7 (a0::a1::a2::a3::a4::a5::a6::AX v::σ) H Q=Q v H:=rfl
theorem zeY{a0 a1 a2 a3 a4 a5 a6 a7:Option V}{v:V}{σ:L2.St}{H:Hp}{Q:VK}:ym 8 (a0::a1::a2::a3::a4::a5::a6::a7::AX v::σ) H Q=Q v H:=rfl
theorem zeT{a0 a1 a2 a3 a4 a5 a6 a7 a8:Option V}{v:V}{σ:L2.St}{H:Hp}{Q:VK}:ym 9 (a0::a1::a2::a3::a4::a5::a6::a7::a8::AX v::σ) H Q=Q v H:=rfl
theorem zdv{b:Bool}{p:Bool->Prop}:(∃k,V.bl b=V.bl k/\p k)=p b:=propext #[λ⟨_,h,q⟩=>by cases h;exact q,λq=>#[_,rfl,q]]
theorem za0{b:Int}{p:Int->Prop}:(∃k,V.int b=V.int k/\p k)=p b:=propext #[λ⟨_,h,q⟩=>by cases h;exact q,λq=>#[_,rfl,q]]
theorem zaL{b:sB}{p:sB->Prop}:(∃k,V.str b=V.str k/\p k)=p b:=propext #[λ⟨_,h,q⟩=>by cases h;exact q,λq=>#[_,rfl,q]]
theorem zaV{b:sq}{p:sq->Prop}:(∃k,V.ref b=V.ref k/\p k)=p b:=propext #[λ⟨_,h,q⟩=>by cases h;exact q,λq=>#[_,rfl,q]]
theorem zeO{i:Int}{p:Int->Prop}:onInt (.int i) p=p i:=rfl
theorem ze5{i:sB}{p:sB->Prop}:onStr (.str i) p=p i:=rfl
theorem ze9{i:Bool}{p:Bool->Prop}:onBl (.bl i) p=p i:=rfl
theorem zfu{i:sq}{p:sq->Prop}:onRef (.ref i) p=p i:=rfl
theorem zfn{K:so}{b:Bool}{H:Hp}{p:Bool->Prop}:zfT K (.bl b) H p=p b:=rfl
theorem zae{x:V}{p:Int->Prop}:onInt x p=∃k,x=.int k/\p k:=propext #[onInt.of,onInt.to]
theorem zam{x:V}{p:sB->Prop}:onStr x p=∃k,x=.str k/\p k:=propext #[onStr.of,onStr.to]
theorem zaQ{x:V}{p:Bool->Prop}:onBl x p=∃k,x=.bl k/\p k:=propext #[onBl.of,onBl.to]
theorem zaB{x:V}{p:sq->Prop}:onRef x p=∃k,x=.ref k/\p k:=propext #[onRef.of,onRef.to]
theorem Qc{i:Nat}{σ:L2.St}{H:Hp}{Q:VK}:ym i σ H Q=∃v,σ[i]? = AX (AX v)/\Q v H:=propext #[onSl.of,λ⟨v,h,q⟩=>by erw[ym,onSl,h];exact q]
theorem zcb{a b:Int}{H:Hp}{Q:VK}:rEq (.int a) (.int b) H Q=Q (.bl (decide (a=b))) H:=rfl
theorem zb5{a b:sB}{H:Hp}{Q:VK}:rEq (.str a) (.str b) H Q=Q (.bl (decide (a=b))) H:=rfl
theorem zco{a b:Int}{H:Hp}{Q:VK}:rNe (.int a) (.int b) H Q=Q (.bl (!decide (a=b))) H:=rfl
theorem zcr{a b:sB}{H:Hp}{Q:VK}:rNe (.str a) (.str b) H Q=Q (.bl (!decide (a=b))) H:=rfl
theorem zbY{a:Int}{y:V}{H:Hp}{Q:VK}:YT (.int a) y H Q=onInt y λj=>Q (.int (a+j)) H:=rfl
theorem zbl{a:sB}{y:V}{H:Hp}{Q:VK}:YT (.str a) y H Q=onStr y λj=>a.length+j.length<=sk/\Q (.str (a ++ j)) H:=rfl
theorem zce{a:sq}{y:V}{H:Hp}{Q:VK}:YT (.ref a) y H Q=zcP (.ref a) y H Q:=rfl
theorem zcn{a:Int}{y:V}{H:Hp}{Q:VK}:Kk (.int a) y H Q=onInt y λj=>CMul a j/\Q (.int (a * j)) H:=rfl
theorem zbT{z:sB}{y:V}{H:Hp}{Q:VK}:Kk (.str z) y H Q=onInt y λn=>0<=n/\n<=1000/\z.length<=1000/\Q (.str (tx (aW n.toNat (cs z)).flatten)) H:=rfl
theorem zfJ{a:Int}{y:V}{H:Hp}{Q:VK}:zeC (.int a) y H Q=onInt y λj=>Q (.bl (decide (a<j))) H:=rfl
theorem zeX{a:sB}{y:V}{H:Hp}{Q:VK}:zeC (.str a) y H Q=onStr y λj=>Q (.bl (decide (cs a<cs j))) H:=rfl
theorem zfx{a:Int}{y:V}{H:Hp}{Q:VK}:zeB (.int a) y H Q=onInt y λj=>Q (.bl (decide (a<=j))) H:=rfl
theorem zfO{a:sB}{y:V}{H:Hp}{Q:VK}:zeB (.str a) y H Q=onStr y λj=>Q (.bl (!(decide (cs j<cs a)))) H:=rfl
theorem zeP{a:Int}{y:V}{H:Hp}{Q:VK}:zeA (.int a) y H Q=onInt y λj=>Q (.bl (decide (j<a))) H:=rfl
theorem zfj{a:sB}{y:V}{H:Hp}{Q:VK}:zeA (.str a) y H Q=onStr y λj=>Q (.bl (decide (cs j<cs a))) H:=rfl
theorem zfo{K:so}{a:sq}{y:V}{H:Hp}{Q:VK}:rIx K (.ref a) y H Q=onInt y λi=>(∃xs,SqL K H a xs/\∃v,atI xs i=AX v/\Q v H)\/∃xs,SqT K H a xs/\∃v,atI xs i=AX v/\Q v H:=rfl
theorem zeR{K:so}{z:sB}{y:V}{H:Hp}{Q:VK}:rIx K (.str z) y H Q=zbO (.str z) y H Q:=rfl
theorem zbZ{K:so}{z:sB}{lo hi:Option Int}{H:Hp}{Q:VK}:zd2 K (.str z) lo hi H Q=(z.length<=sk/\Q (.str (tx (cut (cs z) lo hi))) H):=rfl
theorem zcG{K:so}{a:sq}{lo hi:Option Int}{H:Hp}{Q:VK}:zd2 K (.ref a) lo hi H Q=(∃xs,SqL K H a xs/\∀p,H p=AY->Q (.ref p) (upd H p (.lst (JH xs lo hi)))):=rfl
theorem za7{K:so}{z:sB}{H:Hp}{Q:VK}:WA K [.str z] H Q=(z.length<=sk/\Q (.int z.length) H):=rfl
theorem zbx{K:so}{a:sq}{H:Hp}{Q:VK}:WA K [.ref a] H Q=(∃n:Nat,((∃xs,SqL K H a xs/\n=xs.length)\/∃xs,SqT K H a xs/\n=xs.length)/\Q (.int n) H):=rfl
theorem zcd{x:V}{H:Hp}{Q:VK}:zgi x .non H Q=Q (.bl (decide (x=.non))) H:=rfl
theorem zbs{x:V}{H:Hp}{Q:VK}:zed x .non H Q=Q (.bl (!decide (x=.non))) H:=rfl
theorem zbQ{i j:Int}{H:Hp}{Q:VK}:K6 [.int i,.int j] H Q=Q (.int (if j > i then j else i)) H:=rfl
theorem zbV{a:sq}{y:V}{H:Hp}{Q:VK}:Qh (.ref a) [y] H Q=(∃xs,H a=AX (.lst xs)/\xs.length<sk/\Q .non (upd H a (.lst (xs ++ [y])))):=rfl
theorem zgh{K:so}{z:sB}{H:Hp}{p:Prop}:(tyV K "str" (.str z) H/\p)=p:=propext #[λh=>h.2,λh=>#[rfl,h]]
section
variable{X:Cx}{a b e:sF}{ta tb te:TE}{pos p:tG}
theorem zD(i:Nat){x:sB}{pos':tG}(hN:X.N.Nodup)(he:PE X e te)(hi:X.N[i]? = AX x:=by rfl)(hx:Loc X.env.scope x:=by exact .inl rfl)(hs:swapsWith e (AX (.Name x pos')) pos.line X.env=pure Ba:=by rfl)(hf:X.fn x=AZ\/X.env.scope.names.lookup x=AX .local:=by first | exact .inl rfl | exact .inr rfl | assumption) :
  PS X (.Assign [.Name x pos'] e pos) (zcR te (yy i)):=qk hN hi hx he hs hf
theorem zo{r:R2}(hr:IxR X r)(ha:PE X a ta)(hb:PE X b tb)(hs:U6 b:=by exact λ_ _=>rfl):PE X (.Subscript a b pos) (tOp r ta tb):=zfg hr ha hb hs
theorem zA(hm:X.mg "len" = AY)(he:PE X e te)(hg:Gl X "len":=by rfl)(h1:sj [e] X.env=(Ba,eval e X.env)::sj [] X.env:=by rfl)(h2:(sN pos (sj [] X.env)).any (·.1)=Ba:=by rfl):PE X (.Call (.Name "len" p) [e] [] pos) (tCB (WA X.K) (zM te xH)) :=
 xC zfQ hg hm PySem.boot_len (za he zc h1) (he:=h1) (hpl:=h2)
end
section
variable{X:Cx}
theorem Jq:∀{ys:List sB} {its:List sr},Vals (ys.map V.str) its->∃l:List (sB × Aa),its=strValues l/\l.map (·.1)=ys
 | [],_,.nil=>#[[],rfl,rfl]
 | y::ys,_,.cons r t=>by
  obtain⟨tk,rfl⟩:=r;obtain⟨l,e1,e2⟩:=Jq t;exact#[(y,tk)::l,by rw[e1];rfl,by rw[au,e2]]
def zfs(K:so):V->List V->Hp->VK->Prop:=λx xs H Q=>∃z p ys,x=.str z/\xs=[.ref p]/\SqL K H p (ys.map V.str)/\JoinOk z ys=AZ/\Q (.str (Txt.join z ys)) H
theorem zc1:MtR X "str.join" (zfs X.K):=by
 intro Bb s σ H x xs v us Q I rx rv h;obtain⟨z,p,ys,rfl,rfl,hS,hok,q⟩:=h;obtain⟨t,rfl⟩:=rx;obtain⟨u,rfl,ru⟩:=wB rv;cases ru;obtain⟨its,r,pl,_⟩:=I.list hS;obtain⟨l,rfl,e⟩:=Jq r;exact PySem.SC.join pl.isList e hok λt' k=>#[.str _,H,I.tok _,#[_,rfl],q]
theorem Zo:∀{bs:List Bool} {its:List sr} {i:Nat} {v:sr},Vals (bs.map V.bl) its->its[i]? = AX v->v=.bool (bs.getD i Ba)
 | [],_,_,_,.nil,h=>by cases h
 | b::bs,_,0,v,.cons r t,h=>by
  cases r;cases h;rfl
 | b::bs,_,i+1,v,.cons r t,h=>Zo (bs:=bs) (i:=i) t h
theorem U8(bs:List Bool):(aK bs.length).all (λi=>bs.getD i Ba)=bs.all id:=by
 induction bs with
 | nil=>rfl
 | cons b bs ih =>
  rw[aJ,dq,fv,List.all_map,fv,<- ih];rfl
def zgs(K:so):List V->Hp->VK->Prop:=λxs H Q=>∃(p:sq) (bs:List Bool),xs=[.ref p]/\SqL K H p (bs.map V.bl)/\Q (.bl (bs.all id)) H
theorem zeN(hc:X.calm=AZ):vQ X (.builtin "all") (zgs X.K):=by
 intro Bb s σ H xs us Q I r h;obtain⟨p,bs,rfl,hS,q⟩:=h;obtain⟨u,rfl,ru⟩:=wB r;cases ru;obtain⟨its,rv,pl,hz⟩:=I.list hS
 have hlen:its.length=bs.length:=by
  have:=rv.length;rw[ae]at this;exact this.symm
 have hh:X.A.in1.handled=AY:=I.ok.hd hc
 have hne:p≠s⁻¹:=by
  obtain⟨o,n,e,_⟩:=pl;exact aA (ao e)
 obtain⟨f0,f1,f2,f3,f4,f5⟩:=I.fpOk (H':=H) (al _) (I.hok.fresh (al _));have I1:=I.kept (t':=s.toks) (h':=s.heap.push { cls:=.type "list_iterator",data:=.fields (List.toArray [.ref p,.int 0 0]) }) λb o e=>ac _ e;refine call_all_walk (tT pl.isList ?_);refine#[s⁻¹,_,_,_,_,_,λi=>bs.getD i Ba,rfl,Walks.list hh s⁻¹ p hne its.toArray,#[#[_,aB _ rfl,rfl,rfl],?_],?_,?_]
 ·obtain⟨o,n,e,c,d,dt⟩:=pl;exact#[o,ac _ e,c,n,dt]
 ·intro i v s' Q' E' hv hq;have:=Zo rv (i:=i) (v:=v) (by simpa using hv);rw[this];exact sM hq
 ·intro h' tk hk
  have e:(aK its.toArray.size).all (λi=>bs.getD i Ba)=bs.all id:=by
   rw[ak,hlen,U8]
  rw[e];refine#[.bl _,H,?_,rfl,q];exact I1.turned (t':=tk) (it:=s⁻¹) (λb o hb q=>hk b o (by simpa using hb) q) f0 f1 f3 f4 f5
end
section
variable{M:AH}{A:sE}{E:sr->su->Prop}{s:su}{base:sI}{env env0:Al}{outer:List Al}{L x t C:sq}{dx:Option sq}
theorem zd9{tb:sr}{Q:Unit->su->Prop}(hfr:A.frames=AX (env0::outer))(hl:s.heap.FunFrames base (env0::outer))(hf:env0.frame=AX L)(he:env.frame=AX L)
  (hx:s.heap.get? x=AX (xob C dx t tb)) (htb:zcc s.heap x tb)
  (h:∀h' T oT ts,h'.get? x=AX (xob C dx t (.ref T))->T≠x->(tb=.ref T\/s⁻¹<=T)->h'.get? T=AX oT->oT.data=.fields ts->3<ts.size ->
   (∀b o,b≠x->tb≠.ref b->b ∉ frs (env0::outer)->s.heap.get? b=AX o->h'.get? b=AX o)->(∀b o,b≠x->tb≠.ref b->s.heap.get? b=AX o->∃sl,h'.get? b=AX { o with slots:=sl })->Q Unit.unit { s with heap:=h' }) :
  sw M A (noteFrame (.ref x) env) Q E s:=by
 have land:∀(h1:sI) (T:sq) (oT:sX) (ts:Array sr),h1.get? x=AX (xob C dx t (.ref T))->T≠x->(tb=.ref T\/s⁻¹<=T)->h1.get? T=AX oT->oT.data=.fields ts->3<ts.size ->
   (∀b o,b≠x->tb≠.ref b->b ∉ frs (env0::outer)->s.heap.get? b=AX o->h1.get? b=AX o)->(∀b o,b≠x->tb≠.ref b->s.heap.get? b=AX o->∃sl,h1.get? b=AX { o with slots:=sl }) ->
   Q Unit.unit { s with heap:=h1 }:=λh1 T oT ts e1 nT oldT e2 d2 z2 k1 k2=>h h1 T oT ts e1 nT oldT e2 d2 z2 k1 k2
 unfold noteFrame
 erw[he]
 refine rZ (sP hx rfl (x:=tb) rfl ?_);rcases htb with rfl | ⟨T,oT,ts,rfl,nT,e2,d2,z2⟩
 ·rw[if_neg ∅];refine Zw hfr hl hf he hx λh' oT ts e1 ne e2 d2 z2 k1 k2=>land h' _ oT ts e1 ne (.inr (al _)) e2 d2 z2 (λb o hb _ hbf e=>k1 b o hb hbf e) λb o hb _ e=>k2 b o hb e
 ·rw[if_pos (show (Value.ref T != Value.none)=AZ from by simp)];obtain⟨y,hy⟩:∃y,ts[3]? = AX y:=#[ts[3],by simp [z2]];refine rZ (sP e2 d2 (x:=y) hy ?_);by_cases c:(y == rawInt L)=AZ
  ·rw[if_pos c];exact sf (land s.heap T oT ts hx nT (.inl rfl) e2 d2 z2 (λb o _ _ _ e=>e) λb o _ _ e=>#[o.slots,e])
  ·rw[if_neg c];refine rZ (tF e2 d2 z2 ?_);have oth:∀b,b≠T->(s.heap.update T (Obj.mapFields (·.setIfInBounds 3 Value.none))).get? b=s.heap.get? b:=λb hb=>aF _ _ (Ne.symm hb);have hl1:(s.heap.update T (Obj.mapFields (·.setIfInBounds 3 Value.none))).FunFrames base (env0::outer):=hl.of_keeps λb o hb hnf=>#[o,(oth b λq=>by rw[q,e2]at hb;cases hb;exact hnf ts d2).trans hb,rfl];have hsz:(s.heap.update T (Obj.mapFields (·.setIfInBounds 3 Value.none))).objs.size=s⁻¹:=dw ..;refine Zw (s:={ s with heap:=s.heap.update T (Obj.mapFields (·.setIfInBounds 3 Value.none)) }) hfr hl1 hf he ((oth x (Ne.symm nT)).trans hx) λh' oT' ts' e1 ne e2' d2' z2' k1 k2=>?_;refine land h' _ oT' ts' e1 ne (.inr (by rw[hsz];exact al _)) e2' d2' z2' (λb o hb hbt hbf e=>k1 b o hb hbf ((oth b λq=>hbt (by rw[q])).trans e)) λb o hb hbt e=>k2 b o hb ((oth b λq=>hbt (by rw[q])).trans e)
end
section
variable{X:Cx}{Bb:List (sq × sX)}{σ:St}{H1:Hp}{s1:su}
theorem Inv.noted{h':sI}{x T:sq}{tb:sr}(I1:Inv X Bb σ H1 s1)(hst:X.stack=X.env::X.outer)(fx:wm X Bb H1 x)(fT:∀T,tb=.ref T->wm X Bb H1 T)(fT':wm X Bb H1 T)
  (k1:∀b o,b≠x->tb≠.ref b->b ∉ frs (X.env::X.outer)->s1.heap.get? b=AX o->h'.get? b=AX o) (k2:∀b o,b≠x->tb≠.ref b->s1.heap.get? b=AX o->∃sl,h'.get? b=AX { o with slots:=sl }):Inv X Bb σ H1 { s1 with heap:=h' }:=by
 have tbs:∀b,tb=.ref b->H1 b=AY:=λb hb=>(fT b hb).1
 have nch:∀b o,s1.heap.get? b=AX o->b ∉ (x::T::tbL tb)->b≠x/\tb≠.ref b:=λb o _ hb=>by
  refine#[λz=>hb (by simp [z]),λz=>hb ?_];rw[z];simp [tbL]
 have un:Un (frs X.stack) (x::T::tbL tb) H1 H1 s1.heap h':=by
  rw[hst];refine#[λb o e n hb hc=>?_,λb o e n hb hc=>?_,λb o e n _=>n,λb o e hc=>?_,λb xs e=>e,λb o u e=>e,λb ps e=>#[#[],by rw[e];simp]]
  ·obtain⟨a1,a2⟩:=nch b o e hc;exact k1 b o a1 a2 hb e
  ·obtain⟨a1,a2⟩:=nch b o e hc;exact k2 b o a1 a2 e
  ·obtain⟨a1,a2⟩:=nch b o e hc;obtain⟨sl,q⟩:=k2 b o a1 a2 e;exact#[_,q]
 have hok:HOk X.prog X.w H1 h':=λb u e=>by
  refine (I1.hok b u e).stay (λc v hc q=>k1 c v ?_ ?_ ?_ q) (λ_ q=>q) λ_ _ q=>q
  ·rintro rfl;rcases hc with rfl | hc
   ·rw[fx.1]at e;cases e
   ·rw[fx.1]at hc;cases hc
  ·intro z;have:=tbs c z;rcases hc with rfl | hc
   ·rw[this]at e;cases e
   ·rw[this]at hc;cases hc
  ·intro z;rw[<- hst]at z;have:=I1.stkFree c z;rcases hc with rfl | hc
   ·rw[this]at e;cases e
   ·rw[this]at hc;cases hc
 exact I1.call' (s':={ s1 with heap:=h' }) rfl un hok I1.bare λb hb=>by
  have fb:wm X Bb H1 b:=by
   rcases Bg.mp hb with z | z
   ·rw[z];exact fx
   ·rcases Bg.mp z with z | z
    ·rw[z];exact fT'
    ·cases tb with
     | ref b' =>
      have:b=b':=by simpa [tbL] using z
      rw[this];exact fT b' rfl
     | _=>simp [tbL]at z
  obtain⟨_,a1,_,a3,a4,a5⟩:=fb;exact#[a3,a1,a4,a5]
end
section
variable{X:Cx}{scope:tw}{own caps:List sB}{ix:()}{cl:List (sB × sq)}
theorem Qg{N:List sB}{EX:XK}{Bb:List (sq × sX)}{σ:St}{H3:Hp}{s3:su}{fp:List sq}{xe:sr->su->Prop}{e:sr}{s1:su}{RE:sr->su->Prop}(hst:X.stack=X.env::X.outer/\X.env.frame=AX X.env.locals)(hxe:XE X EX)
  (hc1:∀y c,cl.lookup y=AX c->X.env.cells.lookup y=AX c) (I3:Inv X Bb σ H3 s3) (f3:∀b ∈ fp,wm X Bb H3 b) (fl:zer (yx X scope cl s3⁻¹ N Bb s3 H3 fp xe) EX e s1)
  (hRE:∀m s' x,s'.heap.Ns s3⁻¹ m->(∀h',Heap.SameBut s3⁻¹ s'.heap h'->∀cenv:Al,cenv.locals=s3⁻¹->sw (model X.prog X.w) X.A (fL "comprehension.variables-let-go" x cenv:AO sr) (λ_ _=>False) X.xe { s' with heap:=h' })->RE x s') :
  notedBy (model X.prog X.w) X.A (compEnvC scope cl s3⁻¹ X.env) RE e s1:=by
 obtain⟨pins',σ',H1,x,C,t,dx,tb,rfl,I1,ob,tr,fx,fT,q⟩:=fl
 have IX:Inv X Bb σ H1 s1:=I3.call' (s':=s1) I1.os I1.base I1.hok I1.bare λb hb=>by
  obtain⟨_,a1,a2,a3,a4,a5⟩:=f3 b hb;exact#[a3,a1,a4,a5]
 have up:∀b,wm (yx X scope cl s3⁻¹ N Bb s3 H3 fp xe) pins' H1 b->wm X Bb H1 b:=λb hb=>by
  obtain⟨a0,a1,a2,a3,a4,a5⟩:=hb;rcases a3 with a3 | a3
  ·exact#[a0,(f3 b a3).2]
  ·exact I3.fpOk a3 a0
 have fx':=up x fx;have fT':∀T,tb=.ref T->wm X Bb H1 T:=λT h=>up T (fT T h);have fr:X.A.frames=AX (X.env::X.outer):=by rw[<- hst.1];exact IX.ok.frames
 have ff:s1.heap.FunFrames X.base (X.env::X.outer):=by rw[<- hst.1];exact IX.stack
 obtain⟨m,hm,_⟩:=I1.loc;have fC:wm X Bb H1 s3⁻¹:=I3.fpOk (al _) I1.free;refine zd9 fr ff hst.2 hst.2 ob tr λh' T oT ts e1 nT oldT e2 d2 z2 k1 k2=>?_
 have fT2:wm X Bb H1 T:=by
  rcases oldT with z | z
  ·exact fT' T z
  ·exact IX.fpOk z (IX.hok.fresh z)
 have I2:Inv X Bb σ H1 { s1 with heap:=h' }:=Inv.noted IX hst.1 fx' fT' fT2 k1 k2;have hCx:s3⁻¹≠x:=λz=>fx.2.1 z.symm;have hCtb:tb≠.ref s3⁻¹:=λz=>(fT _ z).2.1 rfl;obtain⟨oC,es,ep,hoC,rC⟩:=hm
 have hCT:T≠s3⁻¹:=by
  rcases oldT with z | z
  ·exact (fT T z).2.1
  ·exact cp (aw (ao hoC) z)
 have hCf:s3⁻¹ ∉ frs (X.env::X.outer):=λz=>by
  rw[<- hst.1]at z;rcases Bg.mp (IX.stkSub _ z)with y | y
  ·exact fC.2.1 y
  ·exact fC.2.2.1 y
 refine hRE m _ _ #[oC,es,ep,k1 _ _ hCx hCtb hCf hoC,rC] λh2 sb cenv hcenv=>?_;have I3':Inv X Bb σ H1 { s1 with heap:=h2 }:=I2.turned (t':=s1.toks) (λb o hb e=>(sb.2 b hb).trans e) fC.1 fC.2.1 fC.2.2.2.1 fC.2.2.2.2.1 fC.2.2.2.2.2;have ob2:h2.get? x=AX (xob C dx t (.ref T)):=(sb.2 x (Ne.symm hCx)).trans e1;have oT2:h2.get? T=AX oT:=(sb.2 T hCT).trans e2;unfold fL;refine rZ (sP (s:={ s1 with heap:=h2 }) ob2 rfl (x:=.ref T) rfl ?_);rw[if_neg (show ¬ (Value.ref T == Value.none)=AZ from by simp)];unfold setFlight;refine rZ (rZ (sP (s:={ s1 with heap:=h2 }) ob2 rfl (x:=.ref T) rfl ?_));rw[if_pos (show (Value.ref T != Value.none)=AZ from by simp)];refine tF (s:={ s1 with heap:=h2 }) oT2 d2 z2 (wpAny_throw (hxe _ _ ?_));have d3:=Obj.data_mapFields d2 (·.setIfInBounds 3 (cenv.frame.elim Value.none λf=>rawInt f))
 have I4:Inv X Bb σ H1 { s1 with heap:=h2.update T (Obj.mapFields (·.setIfInBounds 3 (cenv.frame.elim Value.none λf=>rawInt f))) } :=
  I3'.turned (t':=s1.toks) (λb o hb e=>(aF _ _ (Ne.symm hb)).trans e) fT2.1 fT2.2.1 fT2.2.2.2.1 fT2.2.2.2.2.1 fT2.2.2.2.2.2
 exact#[Bb,σ,H1,x,C,t,dx,.ref T,rfl,I4,(aF _ _ nT).trans ob2,.inr #[T,_,_,rfl,nT,ce _ oT2 (Obj.isFreed_of_fields d3),d3,by simpa using z2],fx',λT' z=>by cases z;exact fT2,q]
end
section
variable{X:Cx}{scope:tw}{own caps:List sB}{ix:()}{elt tg iter:sF}{ifs:List sF}{pos:tG}{wi:TI}{g:TG}{tt:TT}{te:TE}
end
open PySem.AutoSeq1 (wpAny_loadPart')
open MeetsSeq MeetsSeq2 MeetsSeq3 SeqRoads2 SeqAt
def jc(op:tV)(A:sE)(s:su)(y x:sr)(b:Bool):Prop :=
 ∀(prog:sy) (w:sC) (E:sr->su->Prop) (Q:sr->su->Prop),Q (.bool b) s->sw (model prog w) A (richCompare op y x) Q E s
noncomputable abbrev LtAt:=jc .Lt
noncomputable def zec:tV->Nat->Nat->Bool
 | .Gt,m,n=>decide (n<m)
 | _,m,n=>decide (m<n)
noncomputable def zgl:tV->Int
 | .Gt=>4
 | _=>0
def LG(op:tV):Prop:=op=.Lt\/op=.Gt
def ug(op:tV)(e t r:Nat->Bool)(m n:Nat):Prop:=∀i,i<=m->i<=n->r i=if i<m/\i<n then (if e i=AZ then r (i+1)else t i)else zec op m n
noncomputable abbrev zfh:=ug .Lt
variable{op:tV}
theorem Jr(ho:LG op)(l b:sq)(items Bc:Array sr)(n n2:Nat)(dd dd2:Option sq)(sl sl2:Array (Option sr))(e t r:Nat->Bool)(hr:ug op e t r items.size Bc.size)(k:Nat) :
  ∀i:Nat,i<=items.size->i<=Bc.size->items.size - i=k->Meets (Builtin.«list.__eq__.loop» #[[.ref l,.ref b,rawInt i,rawInt (zgl op)],[]])
   (λA R s=>s.heap.get? l=AX { cls:=.type "list",dict:=dd,data:=.seq items n,slots:=sl }/\s.heap.get? b=AX { cls:=.type "list",dict:=dd2,data:=.seq Bc n2,slots:=sl2 } /\
    (∀j (h1:j<items.size) (h2:j<Bc.size),EqAt A.in1 s items[j] Bc[j] (e j))/\(∀j (h1:j<items.size) (h2:j<Bc.size),e j=Ba->jc op A.in1 s items[j] Bc[j] (t j)) /\
    R (.ok (.ret (.bool (r i)))) s):=by
 rcases ho with rfl | rfl <;> erw[zgl] <;> erw[ug,zec]at hr
 all_goals
  induction k with
  | zero =>
   intro i b1 b2 hk prog w A R s h;obtain⟨hp,g,d,tk,os⟩:=s;obtain⟨hl,hb,he,ht,h⟩:=h;have hri:=hr i b1 b2;rw[if_neg ⋯]at hri;rw[hri]at h
   wp_walk using wpAny_loadPart' hl,wpAny_loadPart' hb
   have hi1:items[((i:Nat):Int).toNat]? = AY:=by simp;lia
   rw[hi1]
   wp_walk using wpAny_loadPart' hl,wpAny_loadPart' hb
   exact h
  | succ k ih =>
   intro i b1 b2 hk prog w A R s h;obtain⟨hp,g,d,tk,os⟩:=s;obtain⟨hl,hb,he,ht,h⟩:=h;have hlt:i<items.size:=⋯;have hi1:items[((i:Nat):Int).toNat]? = AX items[i]:=by simp [hlt]
   have hc:((i:Int)+1)=((i+1:Nat):Int):=by push_cast;rfl
   have hri:=hr i b1 b2;by_cases hlt2:i<Bc.size
   ·rw[if_pos #[hlt,hlt2]]at hri;rw[hri]at h;have hi2:Bc[((i:Nat):Int).toNat]? = AX Bc[i]:=by simp [hlt2]
    wp_walk using wpAny_loadPart' hl,wpAny_loadPart' hb
    rw[hi1,hi2];refine rZ (he i hlt hlt2 prog w _ _ ?_)
    cases hb':e i with
    | true =>
     rw[hb',if_pos rfl]at h
     wp_walk
     rw[hc]
     exact#[plainId_quiet plain_eq_loop _,tP entry_eq_loop (by
      rw[Around.under_plainId plain_eq_loop _]
      exact ih (i+1) ⋯ ⋯ ⋯ prog w A R _ #[hl,hb,he,ht,h])]
    | false =>
     rw[hb',if_neg az]at h
     wp_walk using wpAny_loadPart' hl,wpAny_loadPart' hb
     rw[hi1,hi2];refine rZ (ht i hlt hlt2 hb' prog w _ _ ?_)
     wp_walk
     exact h
   ·rw[if_neg ⋯]at hri;rw[hri]at h;have hi2:Bc[((i:Nat):Int).toNat]? = AY:=by simp;lia
    wp_walk using wpAny_loadPart' hl,wpAny_loadPart' hb
    rw[hi1,hi2]
    wp_walk using wpAny_loadPart' hl,wpAny_loadPart' hb
    exact h
theorem YM(ho:LG op)(l b:sq)(items Bc:Array sr)(n n2:Nat)(dd dd2:Option sq)(sl sl2:Array (Option sr))(e t r:Nat->Bool)(hr:ug op e t r items.size Bc.size) :
  Meets ((match op with | .Gt=>Builtin.«list.__gt__» | _=>Builtin.«list.__lt__») ⟨[.ref l,.ref b],[]⟩)
   (λA R s=>s.heap.get? l=AX { cls:=.type "list",dict:=dd,data:=.seq items n,slots:=sl }/\s.heap.get? b=AX { cls:=.type "list",dict:=dd2,data:=.seq Bc n2,slots:=sl2 } /\
    (∀j (h1:j<items.size) (h2:j<Bc.size),EqAt A.in1 s items[j] Bc[j] (e j))/\(∀j (h1:j<items.size) (h2:j<Bc.size),e j=Ba->jc op A.in1 s items[j] Bc[j] (t j)) /\
    R (.ok (.ret (.bool (r 0)))) s):=by
 rcases id ho with rfl | rfl
 all_goals
  intro prog w A R s h;obtain⟨hp,g,d,tk,os⟩:=s;obtain⟨hl,hb,he,ht,h⟩:=h;have f3:=AutoSeq1.sub_list_list
  wp_walk using wpAny_loadPart' hl,wpAny_loadPart' hb
  exact#[plainId_quiet plain_eq_loop _,tP entry_eq_loop (by
   rw[Around.under_plainId plain_eq_loop _]
   exact Jr ho l b items Bc n n2 dd dd2 sl sl2 e t r hr _ 0 (aD _) (aD _) rfl prog w A R _ #[hl,hb,he,ht,h])]
theorem ku(ho:LG op)(l b:sq)(items Bc:Array sr)(n n2:Nat)(dd dd2:Option sq)(sl sl2:Array (Option sr))(e t r:Nat->Bool)(hr:ug op e t r items.size Bc.size) :
  Meets ((match op with | .Gt=>Builtin.«tuple.__gt__» | _=>Builtin.«tuple.__lt__») ⟨[.ref l,.ref b],[]⟩)
   (λA R s=>s.heap.get? l=AX { cls:=.type "tuple",dict:=dd,data:=.seq items n,slots:=sl }/\s.heap.get? b=AX { cls:=.type "tuple",dict:=dd2,data:=.seq Bc n2,slots:=sl2 } /\
    (∀j (h1:j<items.size) (h2:j<Bc.size),EqAt A.in1 s items[j] Bc[j] (e j))/\(∀j (h1:j<items.size) (h2:j<Bc.size),e j=Ba->jc op A.in1 s items[j] Bc[j] (t j)) /\
    R (.ok (.ret (.bool (r 0)))) s):=by
 rcases ho with rfl | rfl <;> erw[ug,zec]at hr
 all_goals
  refine .of_wp λprog w A R s h=>?_;obtain⟨hp,g,d,tk,os⟩:=s;obtain⟨hl,hb,he,ht,h⟩:=h;have f2:=AutoSeq1.sub_tuple_tuple;have hZ:(items.toList.zip Bc.toList).length=min items.size Bc.size:=by simp
  wp_walk using wpAny_loadPart' hl,wpAny_loadPart' hb,wpAny_forIn_list _ (λrest b s'=>b.1=AY/\s'=#[hp,g,d,tk,os]/\∃i,i<=min items.size Bc.size/\rest=(items.toList.zip Bc.toList).drop i /\
   R (.ok (.ret (.bool (r i)))) #[hp,g,d,tk,os]) _
  case turn =>
   rintro⟨y,x⟩ rest b s' ⟨hb',rfl,i,hi,hz,hR⟩
   have hlt:i<(items.toList.zip Bc.toList).length:=by
    rcases dH i (items.toList.zip Bc.toList).length with h' | h'
    ·exact h'
    ·rw[aY h']at hz;cases hz
   have hm:i<min items.size Bc.size:=hZ ▸ hlt;have h1:i<items.size:=aw hm (Nat.min_le_left _ _);have h2:i<Bc.size:=aw hm (Nat.min_le_right _ _);rw[aS hlt]at hz;injection hz with hyx hrest;have hy:y=items[i]:=by have:=congrArg Prod.fst hyx;simpa using this
   have hx:x=Bc[i]:=by have:=congrArg Prod.snd hyx;simpa using this
   subst hy hx;have hri:=hr i ⋯ ⋯;rw[if_pos #[h1,h2]]at hri;rw[hri]at hR;refine rZ (he i h1 h2 prog w _ _ ?_)
   cases hy:e i with
   | true =>
    rw[hy,if_pos rfl]at hR
    wp_walk
    exact#[rfl,rfl,i+1,⋯,hrest,hR]
   | false =>
    rw[hy,if_neg az]at hR
    erw[fk,if_true]
    refine rZ (Ag ?_);refine rZ (ht i h1 h2 hy prog w _ _ ?_)
    wp_walk
    exact#[_,rfl,hR]
  case fin =>
   rintro⟨b1,b2⟩ s' ⟨hb',rfl,i,hi,hz,hR⟩;simp only at hb';subst hb'
   have hge:min items.size Bc.size<=i:=by
    rcases dH i (items.toList.zip Bc.toList).length with h' | h'
    ·rw[aS h']at hz;cases hz
    ·exact hZ ▸ h'
   have hri:=hr i ⋯ ⋯;rw[if_neg ⋯]at hri;rw[hri]at hR
   wp_walk
   exact#[_,rfl,hR]
  case h =>
   exact#[rfl,rfl,0,aD _,rfl,h]
theorem LtAt.lists(ho:LG op){A:sE}{s:su}{l b:sq}{items Bc:Array sr}{e t r:Nat->Bool}(hl:s.heap.IsList l items)(hb:s.heap.IsList b Bc)(hr:ug op e t r items.size Bc.size)(hu:A.units<cLine)
  (he:∀j (h1:j<items.size) (h2:j<Bc.size),EqAt A.in1 s items[j] Bc[j] (e j)) (ht:∀j (h1:j<items.size) (h2:j<Bc.size),e j=Ba->jc op A.in1 s items[j] Bc[j] (t j)):jc op A s (.ref l) (.ref b) (r 0):=λprog w E Q h=>by
 obtain⟨⟨cls,dd,data,sl⟩,h1,hc,n,hd⟩:=id hl;obtain⟨⟨cls2,dd2,data2,sl2⟩,h2,hc2,n2,hd2⟩:=id hb;simp only at hc hd hc2 hd2;subst hc hd hc2 hd2;have z:Value.bool (r 0)≠Value.notImplemented/\Q (.bool (r 0)) s:=#[(λx=>nomatch x),h];rcases id ho with rfl | rfl
 ·exact richCompare_meets_room #[_,h1,rfl] #[_,h2,rfl] F.slot_list_lt F.entry_list_lt (F.args_list_lt_2 _ _) (YM ho l b items Bc n n2 dd dd2 sl sl2 e t r hr) #[h1,h2,he,ht,z] hu
 ·exact richCompare_meets_room #[_,h1,rfl] #[_,h2,rfl] F.slot_list_gt F.entry_list_gt (F.args_list_gt_2 _ _) (YM ho l b items Bc n n2 dd dd2 sl sl2 e t r hr) #[h1,h2,he,ht,z] hu
theorem LtAt.tuples(ho:LG op){A:sE}{s:su}{l b:sq}{items Bc:Array sr}{e t r:Nat->Bool}(hl:s.heap.IsTuple l items)(hb:s.heap.IsTuple b Bc)(hr:ug op e t r items.size Bc.size)(hu:A.units<cLine)
  (he:∀j (h1:j<items.size) (h2:j<Bc.size),EqAt A.in1 s items[j] Bc[j] (e j)) (ht:∀j (h1:j<items.size) (h2:j<Bc.size),e j=Ba->jc op A.in1 s items[j] Bc[j] (t j)):jc op A s (.ref l) (.ref b) (r 0):=λprog w E Q h=>by
 obtain⟨⟨cls,dd,data,sl⟩,h1,hc,n,hd⟩:=id hl;obtain⟨⟨cls2,dd2,data2,sl2⟩,h2,hc2,n2,hd2⟩:=id hb;simp only at hc hd hc2 hd2;subst hc hd hc2 hd2;have z:Value.bool (r 0)≠Value.notImplemented/\Q (.bool (r 0)) s:=#[(λx=>nomatch x),h];rcases id ho with rfl | rfl
 ·exact richCompare_meets_room #[_,h1,rfl] #[_,h2,rfl] F.slot_tuple_lt F.entry_tuple_lt (F.args_tuple_lt_2 _ _) (ku ho l b items Bc n n2 dd dd2 sl sl2 e t r hr) #[h1,h2,he,ht,z] hu
 ·exact richCompare_meets_room #[_,h1,rfl] #[_,h2,rfl] F.slot_tuple_gt F.entry_tuple_gt (F.args_tuple_gt_2 _ _) (ku ho l b items Bc n n2 dd dd2 sl sl2 e t r hr) #[h1,h2,he,ht,z] hu
mutual
def okD:D->D->Prop
 | .int _,.int _=>True
 | .lst l,.lst m=>kR l m
 | .tup l,.tup m=>kR l m
 | _,_=>False
def kR:List D->List D->Prop
 | d::l,e::m=>okD d e/\kR l m
 | _,_=>True
end
mutual
noncomputable def ltD:D->D->Bool
 | .int a,.int b=>decide (a<b)
 | .lst l,.lst m=>uw l m
 | .tup l,.tup m=>uw l m
 | _,_=>Ba
noncomputable def uw:List D->List D->Bool
 | d::l,e::m=>if eqD d e=AZ then uw l m else ltD d e
 | [],_::_=>AZ
 | _,[]=>Ba
end
theorem Qr(l m:List D):zfh (λj=>eqD (l.getD j .non) (m.getD j .non)) (λj=>ltD (l.getD j .non) (m.getD j .non)) (λi=>uw (l.drop i) (m.drop i)) l.length m.length:=by
 intro i b1 b2
 erw[zec]
 by_cases h:i<l.length/\i<m.length
 ·rw[if_pos h,aS h.1,aS h.2,uw];rw[aa,aa,ah h.1,ah h.2];rfl
 ·rw[if_neg h];by_cases h1:i<l.length
  ·have h2:¬ i<m.length:=λz=>h #[h1,z];rw[aS h1,aY (cS h2),uw]
   ·simp;lia
   all_goals simp
  ·rw[aY (cS h1)];by_cases h2:i<m.length
   ·rw[aS h2,uw];simp;lia
   ·rw[aY (cS h2),uw]
    ·simp;lia
    all_goals simp
mutual
theorem Wd:∀d e:D,eqD d e=eqD e d
 | .lst l,e=>by cases e <;> erw[eqD];exact jG l _
 | .tup l,e=>by cases e <;> erw[eqD];exact jG l _
 | .int _,e=>by cases e <;> erw[eqD] <;> exact fz
 | .str _,e=>by cases e <;> erw[eqD] <;> exact fz
 | .bl _,e=>by cases e <;> erw[eqD] <;> exact fz
 | .non,e=>by cases e <;> erw[eqD]
theorem jG:∀l m:List D,uC l m=uC m l
 | [],[]=>rfl
 | [],_::_=>by erw[uC]
 | _::_,[]=>by erw[uC]
 | d::l,e::m=>by erw[uC,Wd d e,jG l m]
end
noncomputable def cm:tV->D->D->Bool
 | .Gt,d,e=>ltD e d
 | _,d,e=>ltD d e
noncomputable def cms:tV->List D->List D->Bool
 | .Gt,d,e=>uw e d
 | _,d,e=>uw d e
theorem QE{op:tV}(ho:LG op)(l m:List D):ug op (λj=>eqD (l.getD j .non) (m.getD j .non)) (λj=>cm op (l.getD j .non) (m.getD j .non)) (λi=>cms op (l.drop i) (m.drop i)) l.length m.length:=by
 rcases ho with rfl | rfl
 ·exact Qr l m
 ·intro i b1 b2;have h:=Qr m l i b2 b1
  erw[zec,cm,cms]at h ⊢
  rw[h,Wd (m.getD i .non)];by_cases q:i<l.length/\i<m.length
  ·rw[if_pos q,if_pos q.symm]
  ·rw[if_neg q,if_neg λz=>q z.symm]
theorem zdk:∀{l m:List D} {j:Nat} {d e:D},kR l m->l[j]? = AX d->m[j]? = AX e->okD d e
 | d::l,e::m,0,_,_,h,q1,q2=>by
  cases q1;cases q2
  erw[kR]at h
  exact h.1
 | d::l,e::m,j+1,_,_,h,q1,q2=>by
  erw[kR]at h
  exact zdk (j:=j) h.2 q1 q2
section
variable{X:Cx}{Bb:List (sq × sX)}{σ:St}{H:Hp}{s:su}
theorem Ww{op:tV}{l m:List D}{xs ys:List V}{its its':List sr}{A:sE}{n:Nat}(hl:Iss X.K H l xs)(hm:Iss X.K H m ys)(r:Vals xs its)(r':Vals ys its')(hn:uA l<n)(ok:kR l m)
  (ih:∀(d e:D) (x y:V) (u v:sr),dpD d<n->okD d e->Is X.K H d x->Is X.K H e y->RelV x u->RelV y v->jc op A s u v (cm op d e)) :
  ∀j (h1:j<its.toArray.size) (h2:j<its'.toArray.size),jc op A s its.toArray[j] its'.toArray[j] (cm op (l.getD j .non) (m.getD j .non)):=by
 intro j h1 h2;rw[ak]at h1 h2;have e1:=hl.len;have e2:=hm.len;have e3:=r.length;have e4:=r'.length;have g1:l[j]? = AX l[j]:=ah ⋯;have g2:m[j]? = AX m[j]:=ah ⋯;generalize l[j]=d at g1;generalize m[j]=e at g2;obtain⟨x,hx,ix⟩:=hl.at g1;obtain⟨y,hy,iy⟩:=hm.at g2;obtain⟨u,hu,ru⟩:=xQ r hx;obtain⟨v,hv,rv⟩:=xQ r' hy
 have q1:its.toArray[j]=u:=by
  have:=(Be.mp hu).2;simpa using this
 have q2:its'.toArray[j]=v:=by
  have:=(Be.mp hv).2;simpa using this
 rw[q1,q2,aa,aa,g1,g2];exact ih d e x y u v (cf (JJ g1) hn) (zdk ok g1 g2) ix iy ru rv
theorem zb2{op:tV}(ho:LG op)(I:Inv X Bb σ H s):∀(n:Nat) (A:sE) (d e:D) (x y:V) (u v:sr),A.units+n<cLine->dpD d<n->okD d e->Is X.K H d x->Is X.K H e y->RelV x u->RelV y v->jc op A s u v (cm op d e):=by
 intro n
 induction n with
 | zero=>intro A d e x y u v _ h;exact absurd h (cq _)
 | succ n ih =>
  intro A d e x y u v hu hd ok hx hy rx ry;have hu1:A.units<cLine:=⋯;have huA:A.in1.units+n<cLine:=by show A.units+1+n<cLine;lia
  cases d with
  | int a =>
   cases e with
   | int b =>
    erw[Is]at hx hy
    subst hx hy;obtain⟨t,rfl⟩:=rx;obtain⟨t',rfl⟩:=ry;rcases ho with rfl | rfl
    ·exact λprog w E Q h=>lt_int h
    ·exact λprog w E Q h=>gt_int h
   | _=>erw[okD]at ok
  | lst l =>
   cases e with
   | lst m =>
    erw[Is]at hx hy
    obtain⟨a,xs,rfl,h1,h2⟩:=hx;obtain⟨b,ys,rfl,g1,g2⟩:=hy;cases rx;cases ry;obtain⟨its,r,p,_⟩:=I.list h1;obtain⟨its',r',p',_⟩:=I.list g1
    erw[dpD]at hd
    erw[okD]at ok
    have L1:=h2.len;have L2:=g2.len;have L3:=r.length;have L4:=r'.length;have st:=QE ho l m;rw[show l.length=its.toArray.size by erw[ak];lia,show m.length=its'.toArray.size by erw[ak];lia]at st
    have r0:=LtAt.lists ho (A:=A) p.isList p'.isList st hu1 (vh h2 g2 r r' (n:=n) ⋯ λd e x y u v q1 q2 q3 q4 q5=>jo I n A.in1 d e x y u v huA q1 q2 q3 q4 q5)
     (λj h1 h2 _=>Ww (n:=n) (A:=A.in1) ‹_› g2 r r' ⋯ ok (λd e x y u v q1 q2 q3 q4 q5 q6=>ih A.in1 d e x y u v huA q1 q2 q3 q4 q5 q6) j h1 h2)
    rcases id ho with rfl | rfl <;> exact r0
   | _=>erw[okD]at ok
  | tup l =>
   cases e with
   | tup m =>
    erw[Is]at hx hy
    obtain⟨a,xs,rfl,h1,h2⟩:=hx;obtain⟨b,ys,rfl,g1,g2⟩:=hy;cases rx;cases ry;obtain⟨its,r,p,_⟩:=I.tuple h1;obtain⟨its',r',p',_⟩:=I.tuple g1
    erw[dpD]at hd
    erw[okD]at ok
    have L1:=h2.len;have L2:=g2.len;have L3:=r.length;have L4:=r'.length;have st:=QE ho l m;rw[show l.length=its.toArray.size by erw[ak];lia,show m.length=its'.toArray.size by erw[ak];lia]at st
    have r0:=LtAt.tuples ho (A:=A) p p' st hu1 (vh h2 g2 r r' (n:=n) ⋯ λd e x y u v q1 q2 q3 q4 q5=>jo I n A.in1 d e x y u v huA q1 q2 q3 q4 q5)
     (λj h1 h2 _=>Ww (n:=n) (A:=A.in1) ‹_› g2 r r' ⋯ ok (λd e x y u v q1 q2 q3 q4 q5 q6=>ih A.in1 d e x y u v huA q1 q2 q3 q4 q5 q6) j h1 h2)
    rcases id ho with rfl | rfl <;> exact r0
   | _=>erw[okD]at ok
  | non=>cases e <;> erw[okD]at ok
  | bl _=>cases e <;> erw[okD]at ok
  | str _=>cases e <;> erw[okD]at ok
theorem zac(I:Inv X Bb σ H s):∀(n:Nat) (A:sE) (d e:D) (x y:V) (u v:sr),A.units+n<cLine->dpD d<n->okD d e->Is X.K H d x->Is X.K H e y->RelV x u->RelV y v->LtAt A s u v (ltD d e):=zb2 (.inl rfl) I
def zfW(K:so):R2:=λx y H Q=>∃d e,Is K H d x/\Is K H e y/\dpD d<50/\okD d e/\Q (.bl (ltD d e)) H
theorem zdI(hu:X.A.units+100<cLine):OpR X (sK .Lt) (zfW X.K):=by
 intro Bb s σ H x y v u Q I rx ry h;obtain⟨d,e,hx,hy,hd,ok,q⟩:=h;exact zac I 50 X.A d e x y v u ⋯ hd ok hx hy rx ry X.prog X.w X.xe _ #[.bl _,H,I,rfl,q]
end
theorem zbF{K:so}{x y:V}{H:Hp}{Q:VK}{d e:D}(h1:Is K H d x)(h2:Is K H e y)(h3:dpD d<50)(h4:okD d e)(q:Q (.bl (ltD d e)) H):zfW K x y H Q:=#[d,e,h1,h2,h3,h4,q]
noncomputable def ltI:List Int->List Int->Bool
 | a::l,b::m=>if a=b then ltI l m else decide (a<b)
 | [],_::_=>AZ
 | _,[]=>Ba
theorem jd:∀(l m:List Int),kR (l.map D.int) (m.map D.int)
 | [],_=>by erw[aL,kR]
 | _::_,[]=>by erw[aL,au,kR]
 | a::l,b::m=>by erw[au,kR,okD,true_and];exact jd l m
theorem YB:∀(l m:List Int),uw (l.map D.int) (m.map D.int)=ltI l m
 | [],[]=>by erw[aL,uw,ltI]
 | [],_::_=>by erw[aL,au,uw,ltI]
 | _::_,[]=>by erw[aL,au,uw,ltI]
 | a::l,b::m=>by
  erw[au,uw,ltI,eqD,ltD,YB l m,beq_iff_eq]
mutual
def xf:D->Prop
 | .lst _=>False
 | .tup l=>zV l
 | _=>True
def zV:List D->Prop
 | []=>True
 | d::l=>xf d/\zV l
end
theorem kP{K:so}{H:Hp}{a p:sq}{xs ys zs:List V}(hp:H p=AX (.lst ys))(h:SqT K H a xs):SqT K (upd H p (.lst zs)) a xs:=by
 rcases h with (h | ⟨o,h⟩) | h
 ·refine .inl (.inl ?_);rw[zm (λe=>by rw[e,hp]at h;cases h)];exact h
 ·refine .inl (.inr #[o,?_]);rw[zm (λe=>by rw[e,hp]at h;cases h)];exact h
 ·exact .inr h
mutual
theorem Is.updL{K:so}{H:Hp}{p:sq}{ys zs:List V}(hp:H p=AX (.lst ys)):∀(d:D) (v:V),xf d->Is K H d v->Is K (upd H p (.lst zs)) d v
 | .non,v,_,h=>by erw[Is]at h ⊢;exact h
 | .bl b,v,_,h=>by erw[Is]at h ⊢;exact h
 | .int b,v,_,h=>by erw[Is]at h ⊢;exact h
 | .str b,v,_,h=>by erw[Is]at h ⊢;exact h
 | .lst l,v,f,h=>by erw[xf]at f
 | .tup l,v,f,h=>by
  erw[Is]at h ⊢
  erw[xf]at f
  obtain⟨a,xs,e1,e2,e3⟩:=h;exact#[a,xs,e1,kP hp e2,Iss.updL hp l xs f e3]
theorem Iss.updL{K:so}{H:Hp}{p:sq}{ys zs:List V}(hp:H p=AX (.lst ys)):∀(l:List D) (vs:List V),zV l->Iss K H l vs->Iss K (upd H p (.lst zs)) l vs
 | [],vs,_,h=>by erw[Iss]at h ⊢;exact h
 | d::l,vs,f,h=>by
  erw[Iss]at h ⊢
  erw[zV]at f
  obtain⟨v,r,e1,e2,e3⟩:=h;exact#[v,r,e1,Is.updL hp d v f.1 e2,Iss.updL hp l r f.2 e3]
end
theorem wK:∀{l:List D},(∀d ∈ l,xf d)->zV l
 | [],_=>by erw[zV]
 | d::l,h=>by erw[zV];exact#[h d (by simp),wK λe he=>h e (by simp [he])]
theorem Q4{n:Nat}:∀{l:List D},(∀d ∈ l,dpD d<=n)->uA l<=n
 | [],_=>by erw[uA];lia
 | d::l,h=>by
  have h1:=h d (by simp);have h2:=Q4 (n:=n) (l:=l) λe he=>h e (by simp [he])
  erw[uA]
  lia
def LsA(K:so)(H:Hp)(a:sq)(ds:List D):Prop:=∃xs,H a=AX (.lst xs)/\Iss K H ds xs
theorem LsA.same{K:so}{H H':Hp}{a:sq}{ds:List D}(h:LsA K H a ds)(e:Same H H'):LsA K H' a ds:=let #[xs,h1,h2]:=h; #[xs,e _ _ h1,Iss.same e _ _ h2]
theorem LsA.is{K:so}{H:Hp}{a:sq}{ds:List D}(h:LsA K H a ds):Is K H (.lst ds) (.ref a):=by
 obtain⟨xs,h1,h2⟩:=h
 erw[Is]
 exact#[a,xs,rfl,SqL.of h1,h2]
theorem LsA.nil{K:so}{H:Hp}{a:sq}:LsA K (upd H a (.lst [])) a []:=#[[],zd,by erw[Iss]]
theorem LsA.snoc{K:so}{H:Hp}{a:sq}{ds:List D}{d:D}{xs:List V}{v:V}(h1:H a=AX (.lst xs))(h2:Iss K H ds xs)(f:zV ds)(fd:xf d)(hv:Is K H d v):LsA K (upd H a (.lst (xs ++ [v]))) a (ds ++ [d]) :=
 #[_,zd,Iss.append (Iss.updL h1 _ _ f h2) (by erw[Iss];exact#[v,[],rfl,Is.updL h1 _ _ fd hv,rfl])]
theorem Is.tup{K:so}{H:Hp}{p:sq}{vs:List V}{ds:List D}(hp:H p=AY)(h:Iss K H ds vs):Is K (upd H p (.tup vs)) (.tup ds) (.ref p):=by
 erw[Is]
 exact#[p,vs,rfl,SqT.of zd,Iss.same (ze hp) _ _ h]
noncomputable abbrev dS(l:()):D:=.str (tx l)
noncomputable abbrev zp:=() × ()
noncomputable def dR(r:zp):D:=.tup [dS r.1,dS r.2]
theorem zc7{K:so}{H:Hp}{r:zp}{v:V}(h:Is K H (dR r) v):∃p,v=.ref p/\SqT K H p [.str (tx r.1),.str (tx r.2)]:=by
 erw[dR,Is,Iss]at h
 obtain⟨a,xs,e,hs,v1,r1,rfl,rfl,v2,r2,rfl,rfl,rfl⟩:=h;exact#[a,e,hs]
theorem zfm{K:so}{H:Hp}{p:sq}{l m:()}(h:SqT K H p [.str (tx l),.str (tx m)]):Is K H (dR (l,m)) (.ref p):=by
 erw[dR,Is,Iss]
 exact#[p,_,rfl,h,_,_,rfl,rfl,_,_,rfl,rfl,rfl]
theorem zbr(r:zp):xf (dR r):=by erw[dR,xf,zV,and_self]
theorem zfI(r:zp):dpD (dR r)<=1:=by erw[dR,dpD,uA];lia
theorem Wm(rs:List zp):zV (rs.map dR):=wK λd h=>by obtain⟨r,_,rfl⟩:=Bf.mp h;exact zbr r
theorem zdi(rs:List zp):uA (rs.map dR)<=1:=Q4 λd h=>by obtain⟨r,_,rfl⟩:=Bf.mp h;exact zfI r
noncomputable abbrev N3:=Nat × Nat × Nat
noncomputable def d3(t:N3):D:=.tup [.int (t.1:Nat),.int (t.2.1:Nat),.int (t.2.2:Nat)]
theorem zfE{K:so}{H:Hp}{t:N3}{v:V}(h:Is K H (d3 t) v):∃p,v=.ref p/\SqT K H p [.int (t.1:Nat),.int (t.2.1:Nat),.int (t.2.2:Nat)]:=by
 erw[d3,Is,Iss]at h
 obtain⟨a,xs,e,hs,v1,r1,rfl,rfl,v2,r2,rfl,rfl,v3,r3,rfl,rfl,rfl⟩:=h;exact#[a,e,hs]
theorem zdS{K:so}{H:Hp}{i j k:Nat}:Iss K H [.int (i:Nat),.int (j:Nat),.int (k:Nat)] [.int (i:Nat),.int (j:Nat),.int (k:Nat)]:=by
 erw[Iss,Is]
 exact#[_,_,rfl,rfl,_,_,rfl,rfl,_,_,rfl,rfl,rfl]
theorem zbo(t:N3):xf (d3 t):=by erw[d3,xf,zV,and_self]
theorem WB(rs:List N3):zV (rs.map d3):=wK λd h=>by obtain⟨r,_,rfl⟩:=Bf.mp h;exact zbo r
theorem Iss.get{K:so}{H:Hp}{l:List D}{vs:List V}{j:Nat}{v:V}(h:Iss K H l vs)(q:vs[j]? = AX v):∃d,l[j]? = AX d/\Is K H d v:=by
 have hj:=(Be.mp q).1;have hl:=h.len;have g1:l[j]? = AX l[j]:=ah ⋯;obtain⟨x,hx,ix⟩:=h.at g1;rw[q]at hx;cases hx;exact#[_,g1,ix]
theorem Iss.getR{K:so}{H:Hp}{rs:List zp}{vs:List V}{j:Nat}{v:V}(h:Iss K H (rs.map dR) vs)(q:vs[j]? = AX v):∃r p,rs[j]? = AX r/\v=.ref p/\SqT K H p [.str (tx r.1),.str (tx r.2)]:=by
 obtain⟨d,e,i⟩:=h.get q;rw[aq]at e;obtain⟨r,hr,rfl⟩:=Bk.mp e;obtain⟨p,e1,e2⟩:=zc7 i;exact#[r,p,hr,e1,e2]
theorem Iss.get3{K:so}{H:Hp}{rs:List N3}{vs:List V}{j:Nat}{v:V}(h:Iss K H (rs.map d3) vs)(q:vs[j]? = AX v):∃r p,rs[j]? = AX r/\v=.ref p/\SqT K H p [.int (r.1:Nat),.int (r.2.1:Nat),.int (r.2.2:Nat)]:=by
 obtain⟨d,e,i⟩:=h.get q;rw[aq]at e;obtain⟨r,hr,rfl⟩:=Bk.mp e;obtain⟨p,e1,e2⟩:=zfE i;exact#[r,p,hr,e1,e2]
theorem zao{α:Type}(l:List α){a b:Int}(h0:0<=a)(h1:a<=b):cut l (AX a) (AX b)=(l.drop a.toNat).take (b - a).toNat:=by
 by_cases h2:b<=l.length
 ·exact ZL l h0 h1 h2
 ·obtain⟨m,rfl⟩:=bF h0;obtain⟨n,rfl⟩:=bF (by lia:0<=b);unfold cut;rw[HT.sIx_nat,HT.sIx_nat,dz (by lia:l.length<=n)];have e:(((n:Nat):Int) - ((m:Nat):Int)).toNat=n - m:=⋯;have e2:((m:Nat):Int).toNat=m:=rfl;rw[e,e2,bq (l:=l.drop m) (by rw[bi];lia)];by_cases hm:m<=l.length
  ·rw[cD hm,bq (by rw[bi];lia)]
  ·rw[dz ⋯,aY (al _),aY ⋯,List.take_nil]
theorem Yu(ns:List Int){a b:Int}(h0:0<=a)(h1:a<=b):JH (ns.map V.int) (AX a) (AX b)=((ns.drop a.toNat).take (b - a).toNat).map V.int:=by
 have e:JH (ns.map V.int) (AX a) (AX b)=cut (ns.map V.int) (AX a) (AX b):=rfl;rw[e,zao _ h0 h1,List.map_take,List.map_drop]
open Classical in
noncomputable def eqAtV (K:so) (H:Hp) (d:D) (u:sr):Bool:=decide (∃x e,zgf u=AX x/\Is K H e x/\eqD e d=AZ)
section
variable{X:Cx}{Bb:List (sq × sX)}{σ:L2.St}{H:Hp}{s:su}
open Classical in
theorem ZY(I:Inv X Bb σ H s){d e:D}{x:V}{u:sr}(r:RelV x u)(h:Is X.K H e x):eqAtV X.K H d u=eqD e d:=by
 unfold eqAtV
 cases hb:eqD e d with
 | true=>exact decide_eq_true #[x,e,r.abs,h,hb]
 | false =>
  refine decide_eq_false ?_;rintro⟨y,e',hy,hi,hq⟩;rw[r.abs]at hy;cases hy;rw[WQ I e' e x hi h,hb]at hq;cases hq
theorem je(I:Inv X Bb σ H s){d:D}:∀{l:List D} {xs:List V} {us:List sr},Iss X.K H l xs->Vals xs us->us.any (eqAtV X.K H d)=l.any λe=>eqD e d
 | [],xs,us,h,r=>by
  erw[Iss]at h
  subst h;cases r;rfl
 | e::l,xs,us,h,r=>by
  erw[Iss]at h
  obtain⟨v,vs,rfl,h1,h2⟩:=h
  cases r with
  | cons r1 r2=>rw[dv,dv,ZY I r1 h1,je I h2 r2]
theorem ZK:∀{xs:List V} {us:List sr} {l:List D} {u:sr},Vals xs us->Iss X.K H l xs->u ∈ us->∃x e,RelV x u/\Is X.K H e x/\e ∈ l
 | _,_,_,_,.nil,_,h=>nomatch h
 | _,_,[],u,.cons r t,hi,h=>by
  erw[Iss]at hi
  cases hi
 | _,_,e::l,u,.cons r t,hi,h=>by
  erw[Iss]at hi
  obtain⟨v,vs,q,h1,h2⟩:=hi;cases q;rcases Bg.mp h with rfl | h
  ·exact#[_,e,r,h1,ax ..]
  ·obtain⟨x,e',a,b,c⟩:=ZK t h2 h;exact#[x,e',a,b,am _ c]
theorem zaj{l:List D}{e:D}(h:e ∈ l):dpD e<=uA l:=by
 obtain⟨j,hj⟩:=List.getElem?_of_mem h;exact JJ hj
def zeG(K:so)(neg:Bool):R2:=λx y H Q=>∃p l d,y=.ref p/\Is K H (.lst l) y/\Is K H d x/\uA l<50/\Q (.bl (if neg then !(l.any λe=>eqD e d)else l.any λe=>eqD e d)) H
theorem zf9(hu:X.A.units+100<cLine):OpR X (sK .In) (zeG X.K Ba):=by
 intro Bb s σ H x y v u Q I rx ry h;obtain⟨p,l,d,rfl,hl,hd,hp,q⟩:=h;cases ry
 erw[Is]at hl
 obtain⟨_,xs,e,hq,hi⟩:=hl;cases e;obtain⟨its,r,pl,hz⟩:=I.list hq;have huA:X.A.in1.units+50<cLine:=by show X.A.units+1+50<cLine;lia
 refine SeqAt.in_listAt (eqAtV X.K H d) pl.isList (λw hw=>?_) #[.bl _,H,I,rfl,?_]
 ·obtain⟨z,e,rz,iz,me⟩:=ZK r hi (by simpa using hw);rw[ZY I rz iz];exact jo I 50 X.A.in1 e d z x w v huA (cf (zaj me) hp) iz hd rz rx
 ·rw[show its.toArray.any (eqAtV X.K H d)=its.any (eqAtV X.K H d) by simp,je I hi r];exact q
theorem XJ(hu:X.A.units+100<cLine):OpR X (sK .NotIn) (zeG X.K AZ):=by
 intro Bb s σ H x y v u Q I rx ry h;obtain⟨p,l,d,rfl,hl,hd,hp,q⟩:=h;cases ry
 erw[Is]at hl
 obtain⟨_,xs,e,hq,hi⟩:=hl;cases e;obtain⟨its,r,pl,hz⟩:=I.list hq;have huA:X.A.in1.units+50<cLine:=by show X.A.units+1+50<cLine;lia
 refine SeqAt.notIn_listAt (eqAtV X.K H d) pl.isList (λw hw=>?_) #[.bl _,H,I,rfl,?_]
 ·obtain⟨z,e,rz,iz,me⟩:=ZK r hi (by simpa using hw);rw[ZY I rz iz];exact jo I 50 X.A.in1 e d z x w v huA (cf (zaj me) hp) iz hd rz rx
 ·rw[show its.toArray.any (eqAtV X.K H d)=its.any (eqAtV X.K H d) by simp,je I hi r];exact q
end
theorem JQ{K:so}{x:V}{p:sq}{H:Hp}{Q:VK}{l:List D}{d:D}(h1:Is K H (.lst l) (.ref p))(h2:Is K H d x)(h3:uA l<50)(q:Q (.bl (!(l.any λe=>eqD e d))) H):zeG K AZ x (.ref p) H Q:=#[p,l,d,rfl,h1,h2,h3,q]
structure DM(P:sy)(w:sC)(K:so)(mg:sB->Option sr)(base:sI)(CX:CXT)(k:Nat)(C:sq)(m:sB)(ps:List sB)(sp:Sp):Prop where
 ex:∃f fd,zev K C m f/\zQ P w K mg base CX k f fd ps sp/\Binds K fd ps []
structure DMk(P:sy)(w:sC)(K:so)(mg:sB->Option sr)(base:sI)(CX:CXT)(k:Nat)(C:sq)(ps:List sB)(sp:Sp):Prop where
 ex:∃f fd,Mk K C f/\zQ P w K mg base CX k f fd ps sp/\Binds K fd ps []
section
variable{X:Cx}{k j:Nat}{C:sq}{m:sB}{ps:List sB}{sp:Sp}{o e:sF}{es:List sF}{ta:TE}{t:TA}{apos pos p:tG}{x:sB}{E:XK}
theorem me0(D:DM X.prog X.w X.K X.mg X.base CX0 k C m ps sp)(c:Cls X.K C)(hr:Room j X.A)(he:PE X o ta){pl:AO Bool}(ht:eval (.Call (.Attribute o m apos) [] [] pos) X.env=(do
      let ov <- eval o X.env
      standAt apos.atName
      let (f,first) <- holding [ov] (getMethod ov m pl)
      callWith pos f first (sN pos (sj [] X.env)) (tj pos (sL [] X.env))):=by rfl) (hj:k<=j:=by decide):PE X (.Call (.Attribute o m apos) [] [] pos) (kW C m sp [] E0 ta xH):=by
  obtain⟨f,fd,hm,F,hb⟩:=D.ex;exact JS he c hm F (hr.mono hj) hb .nil XH ht
theorem me1(D:DM X.prog X.w X.K X.mg X.base CX0 k C m ps sp)(c:Cls X.K C)(hr:Room j X.A)(he:PE X o ta)(ha:PA X (e::es) t){pl:AO Bool}
    (hst:sj (e::es) X.env=(Ba,eval e X.env)::sj es X.env:=by rfl) (hpl:(sN pos (sj es X.env)).any (·.1)=Ba:=by rfl)
    (ht:eval (.Call (.Attribute o m apos) (e::es) [] pos) X.env=(do
      let ov <- eval o X.env
      standAt apos.atName
      let (f,first) <- holding [ov] (getMethod ov m pl)
      callWith pos f first (sN pos (sj (e::es) X.env)) (tj pos (sL [] X.env))):=by rfl) (hj:k<=j:=by decide):PE X (.Call (.Attribute o m apos) (e::es) [] pos) (kW C m sp [] E0 ta t):=by
  obtain⟨f,fd,hm,F,hb⟩:=D.ex;exact zcC he c hm F (hr.mono hj) hb .nil XH ha hst hpl ht
theorem mkC(D:DMk X.prog X.w X.K X.mg X.base CX0 k C ps sp)(hr:Room j X.A)(hg:Gl X x)(hm:X.mg x=AX (.ref C))(ha:PA X (e::es) t)(hdb:(x ==("__debug__" : sB))=Ba:=by decide)(he:sj (e::es) X.env=(Ba,eval e X.env)::sj es X.env:=by rfl)
  (hpl:(sN pos (sj es X.env)).any (·.1)=Ba:=by rfl) (hj:k+1<=j:=by decide):PE X (.Call (.Name x p) (e::es) [] pos) (Jn C sp [] E0 t):=by
 obtain⟨f,fd,M,F,hb⟩:=D.ex;exact UU M F (hr.mono hj) hg hm hb .nil XH ha hdb he hpl
end
section
variable{X:Cx}
end
section
variable{X:Cx}{k j:Nat}{C:sq}{m:sB}{ps:List sB}{sp:Sp}{o e:sF}{es:List sF}{ta:TE}{t:TA}{apos pos p:tG}
end
def zu(Fam:sq->Prop)(m:sB)(sp:sq->Sp)(dvs:List V)(E:XK)(ta:TE)(t:TA):TE:=λσ H Q=>ta σ H λx H1=>∃C a dx fs,Fam C/\x=.ref a/\H1 a=AX (.ins C dx fs)/\fs.lookup m=AY /\
 t σ H1 λvs H2=>sp C (x::(vs ++ dvs)) H2 Q E
structure DMF(P:sy)(w:sC)(K:so)(mg:sB->Option sr)(base:sI)(CX:CXT)(k:Nat)(Fam:sq->Prop)(m:sB)(ps:List sB)(sp:sq->Sp):Prop where
 ex:∀C,Fam C->Cls K C/\DM P w K mg base CX k C m ps (sp C)
section
variable{X:Cx}{k j:Nat}{Fam:sq->Prop}{m:sB}{ps:List sB}{sp:sq->Sp}{o e:sF}{es:List sF}{ta:TE}{t:TA}{apos pos p:tG}{x:sB}{E:XK}
theorem zgE(D:DMF X.prog X.w X.K X.mg X.base CX0 k Fam m ps sp)(hr:Room j X.A)(he:PE X o ta){pl:AO Bool}(ht:eval (.Call (.Attribute o m apos) [] [] pos) X.env=(do
      let ov <- eval o X.env
      standAt apos.atName
      let (f,first) <- holding [ov] (getMethod ov m pl)
      callWith pos f first (sN pos (sj [] X.env)) (tj pos (sL [] X.env))):=by rfl) (hj:k<=j:=by decide):PE X (.Call (.Attribute o m apos) [] [] pos) (zu Fam m sp [] E0 ta xH):=by
  intro Bb s σ H Q I h;refine bZ (pl:=pl) (thn (he Bb s σ H _ I h) λu s1 ⟨x,H1,I1,rx,C,a,dx,fs,fam,ex,ea,l,q⟩=>?_) ht;subst ex;obtain rfl:u=Value.ref a:=rx;obtain⟨c,⟨f,fd,hm,F,hb⟩⟩:=D.ex C fam;refine xV I1 ea c hm l ?_;exact fF (first:=[.ref a]) I1.kIn hm.kp (kn (us:=[.ref a]) (vs:=[.ref a]) F (hr.mono hj) hb .nil XH I1 (.cons rfl .nil) q)
theorem zcS(D:DMF X.prog X.w X.K X.mg X.base CX0 k Fam m ps sp)(hr:Room j X.A)(he:PE X o ta)(ha:PA X (e::es) t){pl:AO Bool}
    (hst:sj (e::es) X.env=(Ba,eval e X.env)::sj es X.env:=by rfl) (hpl:(sN pos (sj es X.env)).any (·.1)=Ba:=by rfl)
    (ht:eval (.Call (.Attribute o m apos) (e::es) [] pos) X.env=(do
      let ov <- eval o X.env
      standAt apos.atName
      let (f,first) <- holding [ov] (getMethod ov m pl)
      callWith pos f first (sN pos (sj (e::es) X.env)) (tj pos (sL [] X.env))):=by rfl) (hj:k<=j:=by decide):PE X (.Call (.Attribute o m apos) (e::es) [] pos) (zu Fam m sp [] E0 ta t):=by
  intro Bb s σ H Q I h;refine bZ (pl:=pl) (thn (he Bb s σ H _ I h) λu s1 ⟨x,H1,I1,rx,C,a,dx,fs,fam,ex,ea,l,q⟩=>?_) ht;subst ex;obtain rfl:u=Value.ref a:=rx;obtain⟨c,⟨f,fd,hm,F,hb⟩⟩:=D.ex C fam;refine xV I1 ea c hm l ?_;refine bN (first:=[.ref a]) (h₀:=X.base) I.ok.mod.kin hm.kp (thn (ha pos Bb s1 σ H1 _ I1 q) λus s2 ⟨vs,H2,I2,r,q2⟩=>#[I2.kIn,?_]) hst hpl;exact kn (us:=.ref a::us) (vs:=.ref a::vs) F (hr.mono hj) hb .nil XH I2 (.cons rfl r) q2
end
section
variable{X:Cx}
theorem Wg:∀{ns:List Int} {its:List sr},Vals (ns.map V.int) its->AI its ns
 | [],_,.nil=>.nil
 | n::ns,_,.cons r t=>by
  obtain⟨tk,rfl⟩:=r;exact .cons n tk (Wg t)
def ye(K:so):List V->Hp->VK->Prop:=λxs H Q=>∃(p:sq) (ns:List Int),xs=[.ref p]/\SqL K H p (ns.map V.int)/\Q (.int ns.sum) H
theorem zeW(hc:X.calm=AZ):vQ X (.builtin "sum") (ye X.K):=by
 intro Bb s σ H xs us Q I r h;obtain⟨p,ns,rfl,hS,q⟩:=h;obtain⟨u,rfl,ru⟩:=wB r;cases ru;obtain⟨its,rv,pl,hz⟩:=I.list hS;have hh:X.A.handled=AY:=I.ok.hd hc;have ia:=Wg rv;obtain⟨ps,e⟩:=ia.allInts.items
 have en:ps.toList.map (·.1)=ns:=by
  rw[<- nums_intItems,<- e];exact ia.numsOf
 refine sum_intListG hh (by rw[<- e];exact pl.isList) λh' tk t' hk=>?_;rw[preSum_eq,bq (by simp),en];exact#[.int ns.sum,H,I.kept hk,#[_,rfl],q]
end
theorem VL(l:()):((Builtin.Str.strSliceIndices AY AY (-1) (tx l).length).filterMap ((tx l).cps[·]?))=l.reverse:=by
 rw[z6,picked_rev];have e:(tx l).cps=l.toArray:=rfl;rw[e];apply eh;intro i
 have h:((aK l.length).map λk=>l.length - 1 - k).filterMap (l.toArray[·]?)=(aK l.length).map λk=>l.getD (l.length - 1 - k) 0:=by
  rw[filterMap_get,dg]
  ·refine cA λk _=>?_;show l.toArray.getD (l.length - 1 - k) 0=_;simp [fu,List.getD];split <;> simp_all
  ·intro i hi;obtain⟨k,hk,rfl⟩:=Bf.mp hi;have:=Bl.mp hk;show _<l.toArray.size;rw[ak];lia
 rw[h];by_cases hi:i<l.length
 ·rw[bx hi,aq,dU hi];show AX (l.getD (l.length - 1 - i) 0)=_;rw[aa,ah ⋯];rfl
 ·rw[bf (by simp;lia),bf (by simp;lia)]
def yf(te ts:TE):TE:=λσ H Q=>te σ H λx H1=>ts σ H1 λy H2=>y=.int (-1)/\∃l:(),x=.str (tx l)/\l.length<=sk/\Q (.str (tx l.reverse)) H2
section
variable{X:Cx}{e st:sF}{te ts:TE}{pos p2:tG}
theorem zbJ(he:PE X e te)(hs:PE X st ts):PE X (.Subscript e (.Slice AY AY (AX st) p2) pos) (yf te ts):=by
 intro Bb s σ H Q I h;refine AS (thn (he Bb s σ H _ I h) λv s1 ⟨x,H1,I1,r1,q1⟩=>?_);refine wpAny_Slice ?_;rw[evalPart_none];refine sf (sf ?_);rw[evalPart_some];refine thn (hs Bb s1 σ H1 _ I1 q1) λu s2 ⟨y,H2,I2,r2,ey,l,ex,hl,q2⟩=>?_;subst ey ex;obtain⟨t,rfl⟩:=r1;obtain⟨tk,rfl⟩:=r2;have I4:Inv X Bb σ H2 { s2 with heap:=s2.heap.push { cls:=.type "slice",data:=.fields (List.toArray [.none,.none,.int (-1) tk]) } }:=I2.kept (t':=s2.toks) λb ob q=>ac _ q;show sw (model X.prog X.w) X.A (Ay e (.Slice AY AY (AX st) p2) (.str (tx l) t) (.ref s2⁻¹)) (EP X Bb σ Q) X.xe { s2 with heap:=s2.heap.push { cls:=.type "slice",data:=.fields (List.toArray [.none,.none,.int (-1) tk]) } };refine tail_any (ops:=[.ref s2⁻¹,.str (tx l) t]) (typeIs_str _ (tx l) t) slot_str_getitem.lookup ?_ (by with_unfolding_all rfl);refine Ae (l:=AY) (u:=AY) (st:=AX (-1,tk)) (Heap.IsSliceOf.new ..) rfl ?_;unfold sliceMade slicePicked
 have hc':¬ (((AX ((-1:Int),tk)).map (·.1)).getD 1 == 1 && (Builtin.Str.strSliceIndices ((AY:Option (Int × Aa)).map (·.1)) ((AY:Option (Int × Aa)).map (·.1)) (((AX ((-1:Int),tk)).map (·.1)).getD 1) (tx l).length).length ==(tx l).length)=AZ:=by
  have:(((AX ((-1:Int),tk)).map (·.1)).getD 1 == 1)=Ba:=rfl;rw[this];simp
 rw[if_neg hc']
 have e:Str.mk ((Builtin.Str.strSliceIndices AY AY (-1) (tx l).length).filterMap ((tx l).cps[·]?)).toArray=tx l.reverse:=by
  rw[VL]
 show (Str.mk ((Builtin.Str.strSliceIndices AY AY (-1) (tx l).length).filterMap ((tx l).cps[·]?)).toArray).length<=sk/\_;rw[e];refine#[by rw[z6,bh];exact hl,?_]
 exact#[.str (tx l.reverse),H2,I4.tok _,#[_,by
  show Value.str (Str.mk ((Builtin.Str.strSliceIndices AY AY (-1) (tx l).length).filterMap ((tx l).cps[·]?)).toArray) _=_
  rw[e]],q2]
end
structure zgq(K:so)(C:sq)(m:sB)(f:sq):Prop where
 sg:cF K (.ref C) "__getattribute__" = AX (AX (.builtin "type.__getattribute__"))
 rd:fX K C (.type "type")=AZ
 fc:fY K (.ref C) (.type "type") m=AX (.val (.ref f))
 kp:aI K (.ref f)=AZ
structure DC(P:sy)(w:sC)(K:so)(mg:sB->Option sr)(base:sI)(CX:CXT)(k:Nat)(C:sq)(m:sB)(ps:List sB)(sp:Sp):Prop where
 ex:∃f fd,zgq K C m f/\zQ P w K mg base CX k f fd ps sp/\Binds K fd ps []
section
variable{X:Cx}{k j:Nat}{C:sq}{m x:sB}{ps:List sB}{sp:Sp}{e:sF}{es:List sF}{t:TA}{apos pos p:tG}
theorem zcJ(D:DC X.prog X.w X.K X.mg X.base CX0 k C m ps sp)(hr:Room j X.A)(hg:Gl X x)(hm:X.mg x=AX (.ref C))(ha:PA X (e::es) t){pl:AO Bool}(hdb:(x ==("__debug__" : sB))=Ba:=by decide)
    (hst:sj (e::es) X.env=(Ba,eval e X.env)::sj es X.env:=by rfl) (hpl:(sN pos (sj es X.env)).any (·.1)=Ba:=by rfl)
    (ht:eval (.Call (.Attribute (.Name x p) m apos) (e::es) [] pos) X.env=(do
      let ov <- eval (.Name x p) X.env
      standAt apos.atName
      let (f,first) <- holding [ov] (getMethod ov m pl)
      callWith pos f first (sN pos (sj (e::es) X.env)) (tj pos (sL [] X.env))):=by rfl) (hj:k<=j:=by decide):PE X (.Call (.Attribute (.Name x p) m apos) (e::es) [] pos) (uR sp [] E0 t):=by
  obtain⟨f,fd,cm,F,hb⟩:=D.ex;have hn:PE X (.Name x p) (tC (.ref C)):=yv hg hm rfl hdb;intro Bb s σ H Q I h;refine bZ (pl:=pl) (thn (hn Bb s σ H (λy H1=>y=.ref C/\H1=H) I #[rfl,rfl]) λu s1 ⟨y,H1,I1,ry,ey,eH⟩=>?_) ht;subst ey eH;obtain rfl:u=Value.ref C:=ry;refine PySem.W.method_cls I1.kIn cm.sg (PySem.W.cls_value I1.kIn cm.rd cm.fc rfl ?_);refine bN (first:=[]) (h₀:=X.base) I.ok.mod.kin cm.kp (thn (ha pos Bb _ σ H1 _ (I1.tok _) h) λus s2 ⟨vs,H2,I2,r,q2⟩=>#[I2.kIn,?_]) hst hpl;exact kn (us:=us) (vs:=vs) F (hr.mono hj) hb .nil XH I2 r q2
def zw:V->List V->Hp->VK->Prop:=λx xs H Q=>∃(z y:sB) (i:Nat),x=.str z/\xs=[.str y]/\PySem.Txt.find z y=(i:Int)/\Q (.int (i:Nat)) H
theorem Jm:MtR X "str.index" zw:=by
 intro Bb s σ H x xs v us Q I rx rv h;obtain⟨z,y,i,rfl,rfl,hf,q⟩:=h;obtain⟨t,rfl⟩:=rx;obtain⟨u,rfl,t',rfl⟩:=wB rv;unfold PySem.Txt.find at hf
 cases ho:Builtin.Str.occurrences z y 0 z.length 1 with
 | nil=>rw[ho]at hf;dsimp only at hf;lia
 | cons a r =>
  rw[ho]at hf;have:a=i:=by dsimp only at hf;lia
  subst this;exact PySem.SC.index ho #[.int _,H,I.tok _,#[_,rfl],q]
end
section
variable{prog:sy}{w:sC}{A:sE}{E:sr->su->Prop}{s:su}
theorem vj{h h':sI}{a:sq}{ty:String}{x:sB}{t:Aa}{i:Nat}(y:h.IsStrIter a ty x t i)(e:∀o,h.get? a=AX o->h'.get? a=AX o):h'.IsStrIter a ty x t i:=let #[o,ho,r]:=y; #[o,e o ho,r]
theorem uj{h h':sI}{a t:sq}{i:Nat}(y:h.IsTupleIter a t i)(e:∀o,h.get? a=AX o->h'.get? a=AX o):h'.IsTupleIter a t i:=let #[o,ho,r]:=y; #[o,e o ho,r]
theorem zaA{h h':sI}{a:sq}{xs:Array sr}(y:h.IsTuple a xs)(e:∀o,h.get? a=AX o->h'.get? a=AX o):h'.IsTuple a xs:=let #[o,ho,r]:=y; #[o,e o ho,r]
theorem sit(x:sB):sQ x="str_ascii_iterator"\/sQ x="str_iterator":=by
 unfold sQ;split
 ·exact .inl rfl
 ·exact .inr rfl
theorem jy{it:sq}{x:sB}{t:Aa}{i c:Nat}{Q:sr->su->Prop}(hit:s.heap.IsStrIter it (sQ x) x t i)(hx:x.cps[i]? = AX c)
  (hQ:∀h',h'.IsStrIter it (sQ x) x t (i+1)->Heap.SameBut it s.heap h'->Q (.str ⟨#[c]⟩ s.toks) { s with heap:=h',toks:=s.toks+1 }) :
  sw (model prog w) A (Builtin.SmallTypes.nextOf (.ref it)) Q E s:=by
 rcases sit x with e | e
 ·rw[e]at hit hQ;exact wpAny_nextOf_ascii_item hit hx hQ
 ·rw[e]at hit hQ;exact wpAny_nextOf_wide_item hit hx hQ
theorem j7{it:sq}{x:sB}{t:Aa}{i:Nat}{Q:sr->su->Prop}(hh:A.handled=AY)(hit:s.heap.IsStrIter it (sQ x) x t i)(hx:x.cps[i]? = AY)
  (hE:∀h' e,Heap.ExtBut it s.heap h'->(∃o,h'.get? e=AX o/\o.cls=.type "StopIteration")->E (.ref e) { s with heap:=h' }) :
  sw (model prog w) A (Builtin.SmallTypes.nextOf (.ref it)) Q E s:=by
 rcases sit x with e | e
 ·rw[e]at hit;exact wpAny_nextOf_ascii_end hh hit hx hE
 ·rw[e]at hit;exact wpAny_nextOf_wide_end hh hit hx hE
theorem jH{it t:sq}{i:Nat}{items:Array sr}{x:sr}{Q:sr->su->Prop}(hit:s.heap.IsTupleIter it t i)(ht:s.heap.IsTuple t items)(hx:items[i]? = AX x)
  (hQ:∀h',h'.IsTupleIter it t (i+1)->Heap.SameBut it s.heap h'->Q x { s with heap:=h' }) :
  sw (model prog w) A (Builtin.SmallTypes.nextOf (.ref it)) Q E s:=by
 obtain⟨o,ho,hc,hd⟩:=id hit;obtain⟨ol,hol,_,nl,hdl⟩:=ht;unfold Builtin.SmallTypes.nextOf
 refine rZ (wpAny_callSpecial?_slot (name:=bG "__next__") hit.typeIs F.slot_tuple_iterator_next
  (Af F.slot_tuple_iterator_next hit.typeIs F.entry_tuple_iterator_next ?_ (F.args_tuple_iterator_next_1 _)))
 show sw _ _ (field (.ref it) 0 >>= _) _ _ s;refine rZ (sP ho hd (x:=.ref t) rfl ?_);show sw _ _ (if (Value.ref t == Value.none)=AZ then _ else _) _ _ s;rw[if_neg (show ¬ ((Value.ref t == Value.none)=AZ)from az)];show sw _ _ (field (.ref it) 1 >>= _) _ _ s;refine rZ (sP ho hd (x:=.int i 0) rfl ?_);show sw _ _ (seqItems? (.ref t) >>= _) _ _ s;refine rZ (tm hol hdl ?_)
 erw[aH,hx]
 refine rZ (tF ho hd (by simp) (sf #[x,rfl,sf (hQ _ ?_ (Heap.SameBut.update ..))]))
 exact#[_,ce _ ho (Obj.isFreed_of_fields (Obj.data_mapFields hd _)),(Obj.cls_mapFields ..).trans hc,by
  rw[Obj.data_mapFields hd];simp [rawInt]]
structure zc0(z TI TO i1 i2 l2:sq):Prop extends zaI z TI TO i1 i2 where
 l2z:l2≠z
 l2TO:l2≠TO
 l2i1:l2≠i1
 l2i2:l2≠i2
theorem Kf{z TI TO i1 i2 l2:sq}{k c:Nat}{X:sB}{tx:Aa}{ys:Array sr}{y a b:sr}{Q:sr->su->Prop}(D:zc0 z TI TO i1 i2 l2)
  (hz:Ac s.heap z TI TO .none) (hTI:tz s.heap TI (.ref i1) (.ref i2)) (hTO:tz s.heap TO a b)
  (h1:s.heap.IsStrIter i1 (sQ X) X tx k) (h2:s.heap.IsTupleIter i2 l2 k) (hl2:s.heap.IsTuple l2 ys) (hx:X.cps[k]? = AX c) (hy:ys[k]? = AX y)
  (hQ:∀h' t',Ac h' z TI TO (rawInt s⁻¹)->tz h' TO (.str ⟨#[c]⟩ t') y->h'.IsStrIter i1 (sQ X) X tx (k+1)->h'.IsTupleIter i2 l2 (k+1)->tz h' s⁻¹ (.str ⟨#[c]⟩ t') y->h'.objs.size=s⁻¹+1 ->
   (∀c o,c≠z->c≠TO->c≠i1->c≠i2->s.heap.get? c=AX o->h'.get? c=AX o)->Q (.ref s⁻¹) { s with heap:=h',toks:=s.toks+1 }) :
  sw (model prog w) A (Builtin.«zip.__next__» #[[.ref z],[]]) (λfin s'=>∃v,fin=.done (.ret v)/\Q v s') E s:=by
 show sw _ _ (field (.ref z) 2 >>= _) _ _ _;refine rZ (sP hz rfl (x:=.bool Ba) rfl ?_);show sw _ _ (field (.ref z) 3 >>= _) _ _ _;refine rZ (sP hz rfl (x:=.ref TI) rfl ?_);refine rZ (tm hTI rfl ?_);show sw _ _ (Builtin.SmallTypes.ownedTupleIsFree (.ref z) >>= _) _ _ _;refine rZ ?_;unfold Builtin.SmallTypes.ownedTupleIsFree;refine rZ (sP hz rfl (x:=.none) rfl (sf ?_))
 erw[if_true]
 refine rZ (Ag ?_);refine rZ (sP hz rfl (x:=.ref TO) rfl ?_);refine rZ (tH hz (by simp) λh₁ hz₁ hs₁=>?_)
 replace hz₁:Ac h₁ z TI TO .ellipsis:=hz₁
 refine rZ ?_
 erw[List.zipIdx_cons,List.zipIdx_nil,db,fj]
 refine rZ (rZ (Aw ?_));show sw _ _ (Builtin.SmallTypes.nextOf (.ref i1) >>= _) _ _ _;refine rZ (jy (s:={ s with heap:=h₁ }) (vj h1 λo e=>hs₁.extBut _ _ D.i1z e) hx λh₂ h1₂ hs₂=>sf ?_);have hTO₂:tz h₂ TO a b:=hs₂.extBut _ _ D.TOi1 (hs₁.extBut _ _ D.TOz hTO);refine rZ (tm hTO₂ rfl ?_);refine rZ (Am hTO₂ λh₃ hTO₃ hs₃=>?_)
 replace hTO₃:tz h₃ TO (.str ⟨#[c]⟩ s.toks) b:=hTO₃
 refine rZ (tQ (sf ?_));refine rZ (rZ (Aw ?_));show sw _ _ (Builtin.SmallTypes.nextOf (.ref i2) >>= _) _ _ _;have up3:∀d o,d≠z->d≠i1->d≠TO->s.heap.get? d=AX o->h₃.get? d=AX o:=λd o d1 d2 d3 e=>hs₃.extBut _ _ d3 (hs₂.extBut _ _ d2 (hs₁.extBut _ _ d1 e));refine rZ (jH (uj h2 λo e=>up3 _ o D.i2z D.i12.symm D.TOi2.symm e) (zaA hl2 λo e=>up3 _ o D.l2z D.l2i1 D.l2TO e) hy λh₄ h2₄ hs₄=>sf ?_);have hTO₄:tz h₄ TO (.str ⟨#[c]⟩ s.toks) b:=hs₄.extBut _ _ D.TOi2 hTO₃;refine rZ (tm hTO₄ rfl ?_);refine rZ (Am hTO₄ λh₅ hTO₅ hs₅=>?_)
 replace hTO₅:tz h₅ TO (.str ⟨#[c]⟩ s.toks) y:=hTO₅
 refine rZ (tQ (sf (sf ?_)));refine rZ (tm hTO₅ rfl ?_);refine rZ (wpAny_newTuple ?_);have hsz:h₅.objs.size=s⁻¹:=by rw[hs₅.1,hs₄.1,hs₃.1,hs₂.1,hs₁.1]
 have hz₅:Ac h₅ z TI TO .ellipsis:=hs₅.extBut _ _ D.TOz.symm (hs₄.extBut _ _ D.i2z.symm (hs₃.extBut _ _ D.TOz.symm (hs₂.extBut _ _ D.i1z.symm hz₁)))
 have hk₅:∀c o,c≠z->c≠TO->c≠i1->c≠i2->s.heap.get? c=AX o->h₅.get? c=AX o:=λc o c1 c2 c3 c4 e =>
  hs₅.extBut _ _ c2 (hs₄.extBut _ _ c4 (up3 _ _ c1 c3 c2 e))
 have h1₅:h₅.IsStrIter i1 (sQ X) X tx (k+1):=vj h1₂ λo e=>hs₅.extBut _ _ D.TOi1.symm (hs₄.extBut _ _ D.i12 (hs₃.extBut _ _ D.TOi1.symm e));have h2₅:h₅.IsTupleIter i2 l2 (k+1):=uj h2₄ λo e=>hs₅.extBut _ _ D.TOi2.symm e;have hzlt:z<h₅.objs.size:=ao hz₅;show sw _ _ (Builtin.SmallTypes.ownedTupleHandOut (.ref z) (.ref h₅.objs.size) >>= _) _ _ _;refine rZ ?_;unfold Builtin.SmallTypes.ownedTupleHandOut;have hz₆:Ac (h₅.push { cls:=.type "tuple",data:=.seq (List.toArray [.str ⟨#[c]⟩ s.toks,y]) }) z TI TO .ellipsis:=ac _ hz₅;refine rZ (tH hz₆ (by simp) λh₇ hz₇ hs₇=>?_)
 replace hz₇:Ac h₇ z TI TO (rawInt h₅.objs.size):=hz₇
 refine tH hz₇ (by simp) λh₈ hz₈ hs₈=>?_
 replace hz₈:Ac h₈ z TI TO (rawInt h₅.objs.size):=hz₈
 have up:∀c o,c≠z->h₅.get? c=AX o->h₈.get? c=AX o:=λc o c1 e=>hs₈.extBut _ _ c1 (hs₇.extBut _ _ c1 (ac _ e));have hT₈:tz h₈ h₅.objs.size (.str ⟨#[c]⟩ s.toks) y:=hs₈.extBut _ _ (cp hzlt) (hs₇.extBut _ _ (cp hzlt) (aB _ rfl));have hz8:h₈.objs.size=h₅.objs.size+1:=by rw[hs₈.1,hs₇.1,bQ]
 rw[hsz]at hz₈ hT₈ hz8;refine sf #[_,rfl,?_];show Q (.ref h₅.objs.size) _;rw[hsz];exact hQ h₈ s.toks hz₈ (up _ _ D.TOz hTO₅) (vj h1₅ λo e=>up _ o D.i1z e) (uj h2₅ λo e=>up _ o D.i2z e) hT₈ hz8 λc o c1 c2 c3 c4 e=>up c o c1 (hk₅ c o c1 c2 c3 c4 e)
theorem zci{z TI TO i1 i2 l2:sq}{k:Nat}{X:sB}{tx:Aa}{a b:sr}{Q:Fin->su->Prop}(hh:A.handled=AY)(D:zc0 z TI TO i1 i2 l2)
  (hz:Ac s.heap z TI TO .none) (hTI:tz s.heap TI (.ref i1) (.ref i2)) (hTO:tz s.heap TO a b)
  (h1:s.heap.IsStrIter i1 (sQ X) X tx k) (hx:X.cps[k]? = AY)
  (hE:∀h' e,(∀c o,c≠z->c≠TO->c≠i1->c≠i2->s.heap.get? c=AX o->h'.get? c=AX o)->(∃o,h'.get? e=AX o/\o.cls=.type "StopIteration")->E (.ref e) { s with heap:=h' }) :
  sw (model prog w) A (Builtin.«zip.__next__» #[[.ref z],[]]) Q E s:=by
 show sw _ _ (field (.ref z) 2 >>= _) _ _ _;refine rZ (sP hz rfl (x:=.bool Ba) rfl ?_);show sw _ _ (field (.ref z) 3 >>= _) _ _ _;refine rZ (sP hz rfl (x:=.ref TI) rfl ?_);refine rZ (tm hTI rfl ?_);show sw _ _ (Builtin.SmallTypes.ownedTupleIsFree (.ref z) >>= _) _ _ _;refine rZ ?_;unfold Builtin.SmallTypes.ownedTupleIsFree;refine rZ (sP hz rfl (x:=.none) rfl (sf ?_))
 erw[if_true]
 refine rZ (Ag ?_);refine rZ (sP hz rfl (x:=.ref TO) rfl ?_);refine rZ (tH hz (by simp) λh₁ hz₁ hs₁=>?_)
 replace hz₁:Ac h₁ z TI TO .ellipsis:=hz₁
 refine rZ ?_
 erw[List.zipIdx_cons,List.zipIdx_nil,db,fj]
 refine rZ (rZ (Aw ?_));show sw _ _ (Builtin.SmallTypes.nextOf (.ref i1) >>= _) _ _ _;refine rZ (j7 (s:={ s with heap:=h₁ }) hh (vj h1 λo e=>hs₁.extBut _ _ D.i1z e) hx λh₂ e hs₂ he=>?_);obtain⟨oe,hoe,hce⟩:=he;have hz₂:Ac h₂ z TI TO .ellipsis:=hs₂ _ _ D.i1z.symm hz₁;have hez:e≠z:=λx=>by subst x;rw[hz₂]at hoe;cases hoe;simp at hce
 refine tH hz₂ (by simp) λh₃ _ hs₃=>hE h₃ e (λc o c1 _ c3 _ x=>hs₃.extBut _ _ c1 (hs₂ _ _ c3 (hs₁.extBut _ _ c1 x))) #[oe,hs₃.extBut _ _ hez hoe,hce]
theorem qS{z TI TO i1 i2 l2:sq}{k c:Nat}{X:sB}{tx:Aa}{ys:Array sr}{y a b:sr}{Q:Option sr->su->Prop}(D:zc0 z TI TO i1 i2 l2)
  (hz:Ac s.heap z TI TO .none) (hTI:tz s.heap TI (.ref i1) (.ref i2)) (hTO:tz s.heap TO a b)
  (h1:s.heap.IsStrIter i1 (sQ X) X tx k) (h2:s.heap.IsTupleIter i2 l2 k) (hl2:s.heap.IsTuple l2 ys) (hx:X.cps[k]? = AX c) (hy:ys[k]? = AX y)
  (hQ:∀h' t',Ac h' z TI TO (rawInt s⁻¹)->tz h' TO (.str ⟨#[c]⟩ t') y->h'.IsStrIter i1 (sQ X) X tx (k+1)->h'.IsTupleIter i2 l2 (k+1)->tz h' s⁻¹ (.str ⟨#[c]⟩ t') y->h'.objs.size=s⁻¹+1 ->
   (∀c o,c≠z->c≠TO->c≠i1->c≠i2->s.heap.get? c=AX o->h'.get? c=AX o)->Q (AX (.ref s⁻¹)) { s with heap:=h',toks:=s.toks+1 }) :
  sw (model prog w) A (pyNext (.ref z)) Q E s:=by
 have hT:s.TypeIs (.ref z) "zip":=#[_,hz,rfl];unfold pyNext
 exact rZ (tW (wpAny_callSpecial?_slot (name:=bG "__next__") hT F.slot_zip_next
  (Af F.slot_zip_next hT F.entry_zip_next
   (Kf D hz hTI hTO h1 h2 hl2 hx hy λh' t' a1 a2 a3 a4 a5 a6 a7=>sf (hQ h' t' a1 a2 a3 a4 a5 a6 a7)) (F.args_zip_next_1 _))))
theorem jU{z TI TO i1 i2 l2:sq}{k:Nat}{X:sB}{tx:Aa}{a b:sr}{Q:Option sr->su->Prop}(hh:A.handled=AY)(D:zc0 z TI TO i1 i2 l2)
  (hz:Ac s.heap z TI TO .none) (hTI:tz s.heap TI (.ref i1) (.ref i2)) (hTO:tz s.heap TO a b)
  (h1:s.heap.IsStrIter i1 (sQ X) X tx k) (hx:X.cps[k]? = AY)
  (hQ:∀h',(∀c o,c≠z->c≠TO->c≠i1->c≠i2->s.heap.get? c=AX o->h'.get? c=AX o)->Q AY { s with heap:=h' }):sw (model prog w) A (pyNext (.ref z)) Q E s:=by
 have hT:s.TypeIs (.ref z) "zip":=#[_,hz,rfl];unfold pyNext
 refine rZ (tW (wpAny_callSpecial?_slot (name:=bG "__next__") hT F.slot_zip_next
  (Af F.slot_zip_next hT F.entry_zip_next (zci hh D hz hTI hTO h1 hx λh' e hk he=>?_) (F.args_zip_next_1 _))))
 obtain⟨o,ho,hc⟩:=he;refine rZ (wpAny_isInstance (T:="StopIteration") (b:=AZ) #[o,ho,hc] isSubtype_stop ?_);exact sf (hQ _ hk)
end
noncomputable abbrev zex(h:sI)(x:sB)(t:Aa):sI:=h.push { cls:=.type (sQ x),data:=.fields (List.toArray [.str x t,.int 0 0]) }
noncomputable abbrev zeD(h:sI)(x:sB)(t:Aa)(l2:sq):sI:=(zex h x t).push { cls:=.type "tuple_iterator",data:=.fields (List.toArray [.ref l2,.int 0 0]) }
noncomputable abbrev zey(h:sI)(x:sB)(t:Aa)(l2:sq):sI:=(zeD h x t l2).push { cls:=.type "tuple",data:=.seq (List.toArray [.ref h.objs.size,.ref (zex h x t).objs.size]) }
noncomputable abbrev zeE(h:sI)(x:sB)(t:Aa)(l2:sq):sI:=(zey h x t l2).push { cls:=.type "tuple",data:=.seq (List.toArray [.none,.none]) }
noncomputable abbrev zbX(h:sI)(x:sB)(t:Aa)(l2:sq):sI:=(zeE h x t l2).push { cls:=.type "zip",data:=.fields (List.toArray [.none,.bool Ba,.bool Ba,.ref (zeD h x t l2).objs.size,.ref (zey h x t l2).objs.size]) }
theorem ZM(x:sB)(t:Aa)(l2:sq)(ys:Array sr) :
  Meets (Builtin.«zip.__new__» #[[.type "zip",.str x t,.ref l2],[]]) (λ_ R s=>s.heap.IsTuple l2 ys /\
   R (.ok (.ret (.ref (zeE s.heap x t l2).objs.size))) { s with heap:=zbX s.heap x t l2 }) :=
 .of_wp λprog w A R s h=>by
  obtain⟨hp,g,d,tk,os⟩:=s;obtain⟨hl2,h⟩:=h;have hsub:=sub_zip;have hL2:Heap.IsTuple (Shared.heap #[hp.push { cls:=.type (sQ x),data:=.fields (List.toArray [.str x t,.int 0 0]) },g,d,tk,os]) l2 ys:=zaA hl2 λo e=>ac _ e
  wp_walk using wpAny_pyIter_strU (s:=#[hp,g,d,tk,os]) (x:=x) (t:=t),AA hL2
  exact#[_,rfl,h]
section
variable{prog:sy}{w:sC}{A:sE}{E:sr->su->Prop}{s:su}
theorem KO{x:sB}{t:Aa}{l2:sq}{ys:Array sr}{Q:sr->su->Prop}(hl2:s.heap.IsTuple l2 ys)
  (h:∀h',Ac h' (s⁻¹+4) (s⁻¹+2) (s⁻¹+3) .none->tz h' (s⁻¹+2) (.ref s⁻¹) (.ref (s⁻¹+1)) ->
   tz h' (s⁻¹+3) .none .none->h'.IsStrIter s⁻¹ (sQ x) x t 0->h'.IsTupleIter (s⁻¹+1) l2 0->h'.objs.size=s⁻¹+5 ->
   (∀c o,s.heap.get? c=AX o->h'.get? c=AX o)->Q (.ref (s⁻¹+4)) { s with heap:=h' }) :
  sw (model prog w) A (call (.type "zip") [.str x t,.ref l2]) Q E s:=by
 refine callType_new F.called_zip ∅ (F.typeCall_zip_2 _ _) (F.newCall_zip_2 _ _) (λobj=>F.args_object_init_3 obj _ _) F.entry_zip_new
  (ZM x t l2 ys) #[hl2,?_]
 have z1:(zex s.heap x t).objs.size=s⁻¹+1:=bQ ..;have z2:(zeD s.heap x t l2).objs.size=s⁻¹+2:=by rw[bQ,z1]
 have z3:(zey s.heap x t l2).objs.size=s⁻¹+3:=by rw[bQ,z2]
 have z4:(zeE s.heap x t l2).objs.size=s⁻¹+4:=by rw[bQ,z3]
 have z5:(zbX s.heap x t l2).objs.size=s⁻¹+5:=by rw[bQ,z4]
 have g5:(zbX s.heap x t l2).get? (zeE s.heap x t l2).objs.size=AX _:=aB _ rfl;have g4:(zbX s.heap x t l2).get? (zey s.heap x t l2).objs.size=AX _:=ac _ (aB _ rfl);have g3:(zbX s.heap x t l2).get? (zeD s.heap x t l2).objs.size=AX _:=ac _ (ac _ (aB _ rfl));have g2:(zbX s.heap x t l2).get? (zex s.heap x t).objs.size=AX _:=ac _ (ac _ (ac _ (aB _ rfl)));have g1:(zbX s.heap x t l2).get? s⁻¹=AX _:=ac _ (ac _ (ac _ (ac _ (aB _ rfl))));show _/\_;rw[z2,z3,z4]at g5;rw[z1,z2]at g3;rw[z3]at g4;rw[z1]at g2;rw[z4]
 exact#[#[_,g5,rfl],h _ g5 g3 g4 #[_,g1,rfl,rfl] #[_,g2,rfl,rfl] z5 λc o x =>
  ac _ (ac _ (ac _ (ac _ (ac _ x))))]
end
noncomputable def Izs(K:so)(l:())(b:sq):It:=#[λi H=>∃ys y,SqT K H b ys/\i<l.length/\ys[i]? = AX y,λi H v H'=>∃p c y,H p=AY/\l[i]? = AX c/\(∀ys,SqT K H b ys->ys[i]? = AX y)/\v=.ref p/\H'=upd H p (.tup [.str (tx [c]),y]),λi H=>i=l.length]
def ZSt(z TI TO i1 i2:sq)(X:sB)(t:Aa)(l2:sq)(i:Nat)(h:sI):Prop:=Ac h z TI TO .none/\tz h TI (.ref i1) (.ref i2)/\(∃a b,tz h TO a b)/\h.IsStrIter i1 (sQ X) X t i/\h.IsTupleIter i2 l2 i
theorem KJ{P:sy}{w:sC}{K:so}{elts:List sF}{x1:Nat}{tpos:tG}(z TI TO i1 i2 l2:sq)(l:())(t:Aa)(D:zc0 z TI TO i1 i2 l2) :
  Jx P w K (.Tuple elts x1 tpos) (Izs K l l2) [z,TI,TO,i1,i2] z (λi h=>ZSt z TI TO i1 i2 (tx l) t l2 i h) where
 mem:=by simp
 obj:=λi h st b hb=>by
  obtain⟨hz,hTI,⟨a,c,hTO⟩,⟨o1,e1,c1,d1⟩,⟨o2,e2,c2,d2⟩⟩:=st
  erw[cU,eI,or_false]at hb
  rcases hb with rfl | rfl | rfl | rfl | rfl
  ·exact#[_,hz,λv q=>by have q':Data.fields _=Data.cell v:=q;cases q']
  ·exact#[_,hTI,λv q=>by have q':Data.seq _ _=Data.cell v:=q;cases q']
  ·exact#[_,hTO,λv q=>by have q':Data.seq _ _=Data.cell v:=q;cases q']
  ·exact#[o1,e1,λv q=>by rw[d1]at q;cases q]
  ·exact#[o2,e2,λv q=>by rw[d2]at q;cases q]
 keep:=λi h h' st k=>by
  obtain⟨hz,hTI,⟨a,c,hTO⟩,h1,h2⟩:=st;exact#[k z (by simp) _ hz,k TI (by simp) _ hTI,#[a,c,k TO (by simp) _ hTO],vj h1 λo e=>k i1 (by simp) o e,uj h2 λo e=>k i2 (by simp) o e]
 item:=by
  intro X hP hw hK hc i Bb s σ H E I hf st hg;subst hP hw hK;obtain⟨ys,y,hqy,hi,hy⟩:=hg;obtain⟨its2,rv2,p2,_⟩:=I.tuple hqy;obtain⟨u2,hu2,ru2⟩:=rv2.get hy;obtain⟨hz,hTI,⟨a,b,hTO⟩,h1,h2⟩:=st;have hl2:s.heap.IsTuple l2 its2.toArray:=p2
  have hx:(tx l).cps[i]? = AX l[i]:=by
   show l.toArray[i]? = _;simp [hi]
  refine qS D hz hTI hTO h1 h2 hl2 hx (y:=u2) (by simpa using hu2) λh' t' a1 a2 a3 a4 a5 a6 hk=>?_;refine#[_,rfl,wpAny_letOwnedTupleGo_zip (s:={ s with heap:=h',toks:=s.toks+1 }) a1 λh2' hz2 sb=>?_];have zlt:z<s⁻¹:=ao hz;have TIlt:TI<s⁻¹:=ao hTI;have TOlt:TO<s⁻¹:=ao hTO;have i1lt:i1<s⁻¹:=by obtain⟨o,e,_⟩:=h1;exact ao e
  have i2lt:i2<s⁻¹:=by obtain⟨o,e,_⟩:=h2;exact ao e
  have I1:Inv X Bb σ H { s with heap:=h2',toks:=s.toks+1 }:=Inv.turns (fp:=[z,TI,TO,i1,i2]) I (λb o hb q=>by
   have hb':b≠z/\b≠TI/\b≠TO/\b≠i1/\b≠i2:=by simpa using hb
   exact (sb.2 b hb'.1).trans (hk b o hb'.1 hb'.2.2.1 hb'.2.2.2.1 hb'.2.2.2.2 q)) hf
  have hp:H s⁻¹=AY:=I.hok.fresh (al _);have hT2:h2'.get? s⁻¹=AX { cls:=.type "tuple",data:=.seq (List.toArray [.str ⟨#[l[i]]⟩ t',u2]) }:=(sb.2 _ (cp zlt)).trans a5;have ru1:RelV (.str (tx [l[i]])) (.str ⟨#[l[i]]⟩ t'):=#[t',rfl]
  have I2:Inv X Bb σ (upd H s⁻¹ (.tup [.str (tx [l[i]]),y])) { s with heap:=h2',toks:=s.toks+1 } :=
   Inv.track I1 (I.fpOk (al _) hp) #[by show 2<=sk;decide,[.str ⟨#[l[i]]⟩ t',u2],.cons ru1 (.cons ru2 .nil),#[_,hT2,rfl,_,rfl]]
  refine#[.ref s⁻¹,_,I2,rfl,#[s⁻¹,l[i],y,hp,by simp [hi],λzs hz'=>by rw[I.tuple_inj hz' hqy];exact hy,rfl,rfl],#[hz2,(sb.2 _ D.TIz).trans (hk _ _ D.TIz D.TITO D.TIi1 D.TIi2 hTI),#[_,_,(sb.2 _ D.TOz).trans a2],vj a3 λo e=>(sb.2 _ D.i1z).trans e,uj a4 λo e=>(sb.2 _ D.i2z).trans e],λb hb=>?_];rw[zm]
  ·exact (hf b hb).1
  ·erw[cU,eI,or_false]at hb
   rcases hb with rfl | rfl | rfl | rfl | rfl <;> exact aA (by assumption)
 done:=by
  intro X hP hw hK hc i Bb s σ H E I hf st hg;subst hP hw hK;have hi:i=l.length:=hg;obtain⟨hz,hTI,⟨a,b,hTO⟩,h1,h2⟩:=st;refine jU (I.ok.hd hc) D hz hTI hTO h1 ?_ λh' hk=>#[rfl,?_]
  ·show l.toArray[i]? = AY;simp [hi]
  ·exact Inv.turns (fp:=[z,TI,TO,i1,i2]) (t':=s.toks) I (λb o hb q=>by
    have hb':b≠z/\b≠TI/\b≠TO/\b≠i1/\b≠i2:=by simpa using hb
    exact hk b o hb'.1 hb'.2.2.1 hb'.2.2.2.1 hb'.2.2.2.2 q) hf
 self:=λA i s Q E st h=>AK st.1 h
section
variable{X:Cx}
def iZs(K:so)(ta:TA):TI:=λσ H R=>ta σ H λvs H1=>∃l b,vs=[.str (tx l),.ref b]/\(∃ys,SqT K H1 b ys)/\R (Izs K l b) H1
theorem zdP{a b:sF}{ta:TA}{p pos tpos:tG}{elts:List sF}{x1:Nat}(hg:Gl X "zip")(hm:X.mg "zip" = AY)(ha:PA X [a,b] ta)(hs:sj [a,b] X.env=(Ba,eval a X.env)::sj [b] X.env:=by rfl)
  (hpl:(sN pos (sj [b] X.env)).any (·.1)=Ba:=by rfl):PI X (.Tuple elts x1 tpos) (.Call (.Name "zip" p) [a,b] [] pos) (iZs X.K ta):=by
 intro Bb s σ H R I h;refine AW (wT I hg hm PyProof.Rows.boot_zip (bw (thn (ha pos Bb s σ H _ I h) λus s1 ⟨vs,H1,I1,r1,q1⟩=>?_) hs hpl));obtain⟨l,l2,e,⟨ys,hqy⟩,q⟩:=q1;subst e;obtain⟨u1,u2,rfl,ru1,ru2⟩:=QF r1;obtain⟨t,rfl⟩:=ru1;cases ru2;obtain⟨its2,rv2,p2,_⟩:=I1.tuple hqy;have hl2:s1.heap.IsTuple l2 its2.toArray:=p2;have l2lt:l2<s1⁻¹:=by obtain⟨o,e,_⟩:=hl2;exact ao e
 have ne:∀a b:Nat,a≠b->s1⁻¹+a≠s1⁻¹+b:=λa b h e=>h (Nat.add_left_cancel e);have nl:∀a:Nat,l2≠s1⁻¹+a:=λa=>aA (aw l2lt (cB _ _));refine KO hl2 λh' hz hTI hTO h1 h2 hsz kk=>?_;have I2:Inv X Bb σ H1 { s1 with heap:=h' }:=I1.kept (t':=s1.toks) kk;refine AK (s:={ s1 with heap:=h' }) hz ?_;refine#[s1⁻¹+4,[s1⁻¹+4,s1⁻¹+2,s1⁻¹+3,s1⁻¹,s1⁻¹+1],_,_,H1,rfl,I2,KJ (s1⁻¹+4) (s1⁻¹+2) (s1⁻¹+3) s1⁻¹ (s1⁻¹+1) l2 l t #[#[ne 2 4 ∅,ne 3 4 ∅,ne 0 4 ∅,ne 1 4 ∅,ne 2 3 ∅,ne 2 0 ∅,ne 2 1 ∅,ne 3 0 ∅,ne 3 1 ∅,ne 0 1 ∅],nl 4,nl 3,nl 0,nl 1],#[hz,hTI,#[_,_,hTO],h1,h2],λb hb=>?_,q]
 have hb':s1⁻¹<=b:=by
  erw[cU,eI,or_false]at hb
  rcases hb with e | e | e | e | e
  ·rw[e];exact cB _ _
  ·rw[e];exact cB _ _
  ·rw[e];exact cB _ _
  ·rw[e];exact al _
  ·rw[e];exact cB _ _
 exact I1.fpOk hb' (I1.hok.fresh hb')
end
def CompZ(K:so)(l:())(b:sq)(g:TG)(tt:TT)(te:TE)(own:Nat)(ix:())(σ:L2.St)(H1:Hp)(Q:VK)(D:sq):Prop:=XM (Izs K l b) g tt te own ix σ H1 Q D
theorem zH{K:so}{ta:TA}{g:TG}{tt:TT}{te:TE}{own:Nat}{ix:()}{σ:L2.St}{H:Hp}{Q:VK}:j8 (iZs K ta) g tt te own ix σ H Q=ta σ H λvs H1=>∃l b,vs=[.str (tx l),.ref b]/\(∃ys,SqT K H1 b ys)/\∀D,H1 D=AY->CompZ K l b g tt te own ix σ H1 Q D:=rfl
section
variable{g:TG}{tt:TT}{te:TE}{own:Nat}{ix:()}{σ:L2.St}{H1:Hp}{Q:VK}{D:sq}
theorem CompZ.by{K:so}{l:()}{b:sq}{ys:List V}(Pv:Nat->List V->Hp->Prop)(hlen:l.length=ys.length)(h0:Pv 0 [] (upd H1 D (.lst [])))(hl:∀i Bd H',i<=l.length->Pv i Bd H'->SqT K H' b ys)
  (hs:∀i c y Bd H' p,l[i]? = AX c->ys[i]? = AX y->Pv i Bd H'->H' p=AY->g (.ref p) (vC σ own ix) (upd H' p (.tup [.str (tx [c]),y])) λσ3 H3=>xb (vC σ own ix) σ3/\tt σ3 H3 λb H4=>if b=AZ then
   te σ3 H4 λv H5=>H5 D=AX (.lst Bd)/\Bd.length<sk/\CNx l.length i Pv (Bd ++ [v]) (upd H5 D (.lst (Bd ++ [v])))else CNx l.length i Pv Bd H4)
  (hd:∀Bd H',Pv l.length Bd H'->Q (.ref D) H'):CompZ K l b g tt te own ix σ H1 Q D:=by
 refine#[λi m Bd H=>m=l.length - i/\i<=l.length/\Pv i Bd H,#[l.length,by simp,aD _,h0],?_];rintro i m Bd H' ⟨rfl,hi,p⟩;have q:=hl i Bd H' hi p;by_cases hlt:i<l.length
 ·refine .inr #[#[ys,ys[i],q,hlt,by simp [<- hlen,hlt]],λx H2 y=>?_];obtain⟨p',c,y,hp,hc,hy,ev,eH⟩:=y;subst ev eH;exact hs i c y Bd H' p' hc (hy ys q) p hp
 ·have e:i=l.length:=⋯;subst e;exact .inl #[rfl,hd Bd H' p]
end
section
variable{X:Cx}{k1 k2 k3 j:Nat}{C1 C2 C3:sq}{m:sB}{ps:List sB}{s1 s2 s3:Sp}{o e:sF}{es:List sF}{ta:TE}{t:TA}{apos pos p:tG}{E:XK}
def yc(t1 t2:TE):TE:=λσ H Q=>t1 σ H Q\/t2 σ H Q
theorem zaS{t1 t2:TE}(h1:PE X e t1)(h2:PE X e t2):PE X e (yc t1 t2):=by
 intro Bb s σ H Q I h;rcases h with h | h
 ·exact h1 Bb s σ H Q I h
 ·exact h2 Bb s σ H Q I h
theorem zef(D1:DM X.prog X.w X.K X.mg X.base CX0 k1 C1 m ps s1)(D2:DM X.prog X.w X.K X.mg X.base CX0 k2 C2 m ps s2)(D3:DM X.prog X.w X.K X.mg X.base CX0 k3 C3 m ps s3)(c1:Cls X.K C1)(c2:Cls X.K C2)(c3:Cls X.K C3)(hr:Room j X.A)(he:PE X o ta)(ha:PA X (e::es) t){pl:AO Bool}
    (hst:sj (e::es) X.env=(Ba,eval e X.env)::sj es X.env:=by rfl) (hpl:(sN pos (sj es X.env)).any (·.1)=Ba:=by rfl)
    (ht:eval (.Call (.Attribute o m apos) (e::es) [] pos) X.env=(do
      let ov <- eval o X.env
      standAt apos.atName
      let (f,first) <- holding [ov] (getMethod ov m pl)
      callWith pos f first (sN pos (sj (e::es) X.env)) (tj pos (sL [] X.env))):=by rfl) (h1:k1<=j:=by decide) (h2:k2<=j:=by decide) (h3:k3<=j:=by decide) :
    PE X (.Call (.Attribute o m apos) (e::es) [] pos) (yc (kW C1 m s1 [] E0 ta t) (yc (kW C2 m s2 [] E0 ta t) (kW C3 m s3 [] E0 ta t))) :=
  zaS (me1 (pl:=pl) D1 c1 hr he ha hst hpl ht h1) (zaS (me1 (pl:=pl) D2 c2 hr he ha hst hpl ht h2) (me1 (pl:=pl) D3 c3 hr he ha hst hpl ht h3))
end
section
variable{X:Cx}
end
open PySem PySem.Spec PyProof.Rows L2 PySem.W PySem.Calls
def uD(n:Int):Prop:=Builtin.Int.intBits n<=1048576
theorem zaz:∀(ns:List Int),WData.weightAll (ns.map WData.int)<=1048576->∀n ∈ ns,uD n
 | [],_,n,h=>nomatch h
 | m::ns,hw,n,h=>by
  rw[au,WData.weightAll]at hw;rcases Bg.mp h with rfl | h
  ·have e:WData.weight (.int n)=Builtin.Int.intBits n:=by
    rw[WData.weight];rfl
   unfold uD;lia
  ·exact zaz ns ⋯ n h
section
variable{X:Cx}
theorem JO{i j:Int}(hi:uD i)(hj:uD j):IntMulOk i j:=by
 unfold IntMulOk Builtin.Int.intTooBig;unfold uD at hi hj;have:(bitsLine:Nat)=134217728:=rfl;simp;intro _ _;lia
theorem J0:OpR X (binaryOp .Mult) (rI (λi j=>uD i/\uD j) λi j=>.int (i * j)):=opI λ_ _ _ _ _ _ _ hc q=>mul_int q (JO hc.1 hc.2)
end
theorem Yf{l:OpenLaw}{n:Nat}{q:sy}{loose:List sB}{XP:(sB->Option sr)->sI->Prop}{YP:sC->sI->Prop}{d:DefRec}
  (hn:l.most=AX n) (hdf:d.params.defaults=[])
  (call:∀(w:sC) (s₀ s₁:su) (mg mb:sB->Option sr) (fa:sq) (o:sX) (pm cd doc:sr) (a:sq) (vs:List sr) (ns:List Int),
   Ground q loose [] XP w s₀ mg mb s₁.heap->YP w s₁.heap ->
   s₁.heap.get? fa=AX o->o.data=.func (docDef d.name d.params d.body d.scope pm cd doc)->s₁.heap.CodeRec cd d.name->mg d.name=AX (.ref fa) ->
   s₁.heap.get? a=AX { cls:=.type "list",data:=.seq vs.toArray }->AI vs ns->ns.length<=n->(∀z ∈ ns,uD z)->s₁.gens=#[] ->
   tN (model l.prog w) callerA (.call (.ref fa) #[[.ref a],[]]) (λr s'=>r=.ok (.ret (.bool AZ))/\OldK s₁.heap s'.heap/\s'.os=s₁.os/\Ab s'.gens) s₁) :
  WalkO q loose XP YP l.row.toRowW d [] (λf vs=>fZ f vs):=by
 intro w s₀ s₁ mg mb G Y fa o pm cd doc dV kV ho hd hcd hD hmg hg args vals as hpre hlay hrd hwl hlo;obtain rfl:dV=.none:=Dflts.none hD hdf;obtain rfl:kV=.none:=Dflts.noKw hD;obtain⟨a,vs,ns,rfl,rfl,hobj,hints,hlen⟩:=Att.script_of hn hpre hwl
 have hb:∀z ∈ ns,uD z:=by
  refine zaz ns ?_
  have h1:WData.layable (WData.list (ns.map WData.int))=AZ:=by
   have:=hlay;unfold WData.layableAll at this;simpa using this
  unfold WData.layable at h1
  erw[bX,decide_eq_true_eq]at h1
  have h2:=h1.2;rw[WData.weight]at h2;exact h2
 refine enter_call (tM (call w s₀ s₁ mg mb fa o pm cd doc a vs ns G Y ho (fd_plain hd) hcd hmg hobj hints hlen hb hg) λr s' hq=>?_);obtain⟨rfl,h2,h3,h4⟩:=hq;exact#[.inl #[.bool AZ,.bool AZ,[],rfl,λ_=>rfl,.bool AZ,Att.post_true l _,λ_=>#[List.Pairwise.nil,λ_ hm=>(nomatch hm)]],h2,h3,h4]
section
variable{X:Cx}{k j:Nat}{C:sq}{x f':sB}{ps:List sB}{sp:Sp}{e:sF}{es:List sF}{t:TA}{te:TX}{pos p:tG}
end
section
variable{X:Cx}{k j:Nat}{C:sq}{m x:sB}{ps:List sB}{sp:Sp}{e:sF}{es:List sF}{t:TA}{apos pos p:tG}{E:XK}
end
section
variable{prog:sy}{w:sC}{A:sE}{E:sr->su->Prop}{s:su}{env:Al}
end
theorem XEg.xe{X:Cx}{E:XK}(h:XEg X E):XE X E:=λe s ⟨Bb,σ,H,x,C,t,dx,tb,q⟩=>h e s #[.none,Ba,Bb,σ,H,x,C,t,dx,tb,q]
section
variable{X:Cx}{k:Nat}{ps:List sB}{sp:Sp}{ds:List sr}{dvs:List V}{E:XK}{x:sB}{p pos:tG}{e:sF}{es:List sF}{t:TA}
end
section
variable{X:Cx}{o e:sF}{to:TE}{te:TX}{name:sB}{apos cpos:tG}{T id:String}{r:V->List V->Hp->VK->Prop}
end
section
variable{X:Cx}
end
section
variable{X:Cx}{k j:Nat}{C:sq}{ps:List sB}{sp:Sp}{e:sF}{es:List sF}{t:TA}{pos p:tG}{x:sB}
end
theorem Xy(x y:sB)(i j:Int)(t u v v':Aa):Gives (Builtin.«str.find» #[[.str x t,.str y u,.int i v,.int j v'],[]]) (.int (match Builtin.Str.occurrences x y (fromIndex x.length i) (min (fromIndex x.length j) x.length) 1 with | k::_=>(k:Int) | []=>-1)):=by
 show Gives (match Builtin.Str.occurrences x y (fromIndex x.length i) (min (fromIndex x.length j) x.length) 1 with | k::_=>retInt k | []=>(do rule "str.find.not-found";retInt (-1))) _
 cases Builtin.Str.occurrences x y (fromIndex x.length i) (min (fromIndex x.length j) x.length) 1 with
 | nil=>exact .rule (.of_eq rfl)
 | cons k _=>exact .of_eq rfl
theorem Xu(x y:sB)(lo hi:Nat) :
  (Builtin.Str.occurrences x y lo hi 1=[]/\∀i,lo<=i->¬ StrLaws.At x y hi i) \/
  ∃i r,Builtin.Str.occurrences x y lo hi 1=i::r/\lo<=i/\StrLaws.At x y hi i/\∀k,lo<=k->k<i->¬ StrLaws.At x y hi k:=by
 rw[StrLaws.occ_eq];rcases StrLaws.occ_first x y hi 1 (al 1) (List.range' lo (hi+1 - lo)) lo (λi hm=>(List.mem_range'_1.mp hm).1)with ⟨e,no⟩ | ⟨pre,a,post,e,e0,at_a,no⟩
 ·exact .inl #[by rw[e],λi h1 h2=>no i (by have:=h2.1;rw[List.mem_range'_1];lia) h2]
 ·have sp:=StrLaws.range'_split_from e;generalize (forIn (List.range' lo (hi+1 - lo)) ((#[]:Array Nat),lo) (StrLaws.occBody x y hi 1)).run.fst=z at e0 ⊢;obtain⟨zs⟩:=z
  cases zs with
  | nil=>simp at e0
  | cons b r =>
   have:b=a:=by simpa using e0
   subst this;exact .inr #[b,r,rfl,sp.1,at_a,λk h1 h2=>no k (sp.2 k h1 h2)]
theorem ze2(l p:())(hi i:Nat):StrLaws.At (tx l) (tx p) hi i ↔ i+p.length<=hi/\(l.drop i).take p.length=p:=by
 unfold StrLaws.At Builtin.Str.subAt;rw[z6,beq_iff_eq]
 have e1:((tx l).cps.extract i (i+p.length)).toList=(l.drop i).take p.length:=by
  show (l.toArray.extract i (i+p.length)).toList=_;simp [eC]
 have e2:((tx l).cps.extract i (i+p.length)=(tx p).cps) ↔ (l.drop i).take p.length=p:=by
  constructor
  ·intro h;rw[<- e1,h]
  ·intro h;apply Array.toList_inj.mp;rw[e1,h]
 rw[e2]
def zax:V->List V->Hp->VK->Prop:=λx xs H Q=>∃(l p:()) (lo hi:Int),x=.str (tx l)/\xs=[.str (tx p),.int lo,.int hi]/\0<=lo/\0<=hi/\∀r:Int,((r=-1/\∀q:Nat,lo<=q->(q:Int)+p.length<=hi->q+p.length<=l.length->(l.drop q).take p.length≠p)\/∃k:Nat,r=k/\lo<=k/\(k:Int)+p.length<=hi/\k+p.length<=l.length/\(l.drop k).take p.length=p/\∀q:Nat,lo<=q->q<k->(l.drop q).take p.length≠p)->Q (.int r) H
theorem zcH{X:Cx}:MtR X "str.find" zax:=by
 intro Bb s σ H x xs v us Q I rx rv h;obtain⟨l,p,lo,hi,rfl,rfl,h0,h1,q⟩:=h;obtain⟨t,rfl⟩:=rx
 cases rv with
 | cons r1 r2 =>
  cases r2 with
  | cons r2 r3 =>
   obtain⟨w3,rfl,t3,rfl⟩:=wB r3;obtain⟨t1,rfl⟩:=r1;obtain⟨t2,rfl⟩:=r2;have f0:fromIndex (tx l).length lo=lo.toNat:=by unfold fromIndex;rw[if_neg ⋯];lia
   have f1:fromIndex (tx l).length hi=hi.toNat:=by unfold fromIndex;rw[if_neg ⋯];lia
   refine call_gives F.slot_str_find (typeIs_str _ _ _) F.entry_str_find (F.args_str_find_4 _ _ _ _) (Xy _ _ lo hi t t1 t2 t3) ?_;refine#[.int _,H,I.tok _,#[_,rfl],q _ ?_];rw[f0,f1];have hm:∀k:Nat,k+p.length<=min hi.toNat (tx l).length ↔ (k:Int)+p.length<=hi/\k+p.length<=l.length:=λk=>by rw[z6];lia
   rcases Xu (tx l) (tx p) lo.toNat (min hi.toNat (tx l).length)with ⟨e,no⟩ | ⟨i,r,e,hl,ha,no⟩
   ·rw[e];exact .inl #[rfl,λk k1 k2 k3 k4=>no k ⋯ ((ze2 l p _ k).mpr #[(hm k).mpr #[k2,k3],k4])]
   ·rw[e];obtain⟨a1,a2⟩:=(ze2 l p _ i).mp ha;obtain⟨b1,b2⟩:=(hm i).mp a1;exact .inr #[i,rfl,⋯,b1,b2,a2,λk k1 k2 k4=>no k ⋯ k2 ((ze2 l p _ k).mpr #[(hm k).mpr #[⋯,⋯],k4])]
end L3
set_option linter.unusedVariables false
namespace L3
section
variable{X:Cx}
end
section
variable{prog:sy}{w:sC}{A:sE}{R:As->su->Prop}{I l S:sq}
theorem QX(hh:A.handled=AY)(hlI:l≠I)(hSI:S≠I)(hSl:S≠l)(xs:Array sr)(val:Nat->Int)(hv:∀i v,xs[i]? = AX v->∃t,v=Value.int (val i) t)(d:sr) :
  ∀(k j:Nat) (z:Int) (t:Aa) (s:su) (c:Nat),xs.size - j=k->j<=xs.size->(∀i,i<j->val i<=z)->s.heap.IsListIter I l j->s.heap.IsList l xs->s.heap.get? S=AX (sS "list" (List.toArray [.int z t,.int z t]) c) ->
   (∀z' t' h' tk,(∀i,i<xs.size->val i<=z')->(∀b o,b≠I->b≠S->s.heap.get? b=AX o->h'.get? b=AX o)->R (.ok (.ret (.int z' t'))) { s with heap:=h',toks:=tk }) ->
   tN (model prog w) A (.builtin "max.loop" #[[.ref I,.none,.ref S],[(bG "default",d)]]) R s:=by
 have nm:(toString "max" ++ toString ".loop" : String)="max.loop":=∅;have W:=Walks.list (prog:=prog) (w:=w) (A:=A.in1) hh I l hlI xs;intro k
 induction k with
 | zero =>
  intro j z t s c hk hj hz hit hl hS hR;have e:j=xs.size:=⋯;refine tP (b:=Builtin.«max.loop») du ?_;rw[Around.under_plainId (id:="max.loop") bH _];show sw _ A.in1 (seqItems? (Value.ref S) >>= _) _ _ s;refine rZ (tm (items:=(List.toArray [.int z t,.int z t])) hS rfl ?_);show sw _ A.in1 (tryCatch (pyNext (Value.ref I)) _ >>= _) _ _ s;refine rZ (tS (W.done s _ _ #[e ▸ hit,hl] λh' tk kp=>?_));have hS':=kp S _ (by simpa using hSI) hS;show sw _ A.in1 (updateSeq S (λ_=>(#[]:Array sr)) >>= _) _ _ _;refine rZ (Ak hS' rfl (rZ (tQ (sf ?_))));exact hR z t _ tk (λi hi=>hz i ⋯) λb o hb hb' q=>(aF _ _ (Ne.symm hb')).trans (kp b o (by simpa using hb) q)
 | succ k ih =>
  intro j z t s c hk hj hz hit hl hS hR;refine tP (b:=Builtin.«max.loop») du ?_;rw[Around.under_plainId (id:="max.loop") bH _];show sw _ A.in1 (seqItems? (Value.ref S) >>= _) _ _ s;refine rZ (tm (items:=(List.toArray [.int z t,.int z t])) hS rfl ?_);show sw _ A.in1 (tryCatch (pyNext (Value.ref I)) _ >>= _) _ _ s;refine rZ (tS (W.item j s _ _ ⋯ #[hit,hl] λv h' tk hP st kp=>?_));obtain⟨t2,rfl⟩:=hv j v hP;have hS':=kp S _ (by simpa using hSI) hS;show sw _ A.in1 (tryCatch (holding [Value.int (val j) t2,Value.int (val j) t2] (richCompare .Gt (.int (val j) t2) (.int z t) >>= _)) _ >>= _) _ _ _;refine rZ (tS (sY (rZ (CmpOf.ints_gt (prog:=prog) (w:=w) (A:=A.in1) (P:=λi v=>∃t,v=Value.int (if i=0 then val j else z) t) (λi=>if i=0 then val j else z) (λi v h=>h) 0 1 _ _ _ _ _ #[t2,rfl] #[t,rfl] ?_))));refine rZ (sY (sM (rZ (tQ (sf ?_)))));by_cases g:val j > z
  ·erw[if_true,Nat.one_ne_zero,if_false,g,decide_true]
   refine rZ (Ak hS' rfl (rZ (tQ ?_)));rw[nm];refine sf #[plainId_quiet bH _,ih (j+1) (val j) t2 _ _ ⋯ ⋯ (λi hi=>?_) (W.frame _ _ _ st λb hb o q=>?_).1 (W.frame _ _ _ st λb hb o q=>?_).2 (get?_update_seq hS' _) λz' t' h'' tk'' a1 a2=>hR z' t' h'' tk'' a1 λb o hb hb' q=>a2 b o hb hb' ((aF _ _ (Ne.symm hb')).trans (kp b o (by simpa using hb) q))]
   ·by_cases e:i=j
    ·rw[e];exact fQ _
    ·have:=hz i ⋯;lia
   all_goals
    refine (aF _ _ (λe:S=b=>?_)).trans q;subst e;rcases Bg.mp hb with e | e
    ·exact hSI e
    ·exact hSl (Bj.mp e)
  ·erw[if_true,Nat.one_ne_zero,if_false,g,decide_false,bD]
   refine rZ (tQ ?_);rw[nm];refine sf #[plainId_quiet bH _,ih (j+1) z t _ _ ⋯ ⋯ (λi hi=>?_) st.1 st.2 hS' λz' t' h'' tk'' a1 a2=>hR z' t' h'' tk'' a1 λb o hb hb' q=>a2 b o hb hb' (kp b o (by simpa using hb) q)];by_cases e:i=j
   ·rw[e];lia
   ·exact hz i ⋯
theorem QM(a v:sr):argsOk "max" #[[a],[(bG "default",v)]]:=by unfold argsOk;kernel_rfl
theorem UB{E:sr->su->Prop}{s:su}{Q:sr->su->Prop}(hh:A.handled=AY)(xs:Array sr)(val:Nat->Int)(hv:∀i v,xs[i]? = AX v->∃t,v=Value.int (val i) t)(hl:s.heap.IsList l xs)(d:sr)
  (h:∀v h' tk,(xs.size=0->v=d)->(0<xs.size->∃z t,v=Value.int z t/\∀i,i<xs.size->val i<=z)->(∀b o,s.heap.get? b=AX o->h'.get? b=AX o)->Q v { s with heap:=h',toks:=tk }) :
  sw (model prog w) A (call (.builtin "max") [.ref l] [(bG "default",d)]) Q E s:=by
 have nm:(toString "max" ++ toString ".loop" : String)="max.loop":=∅;have hlt:l<s⁻¹:=by obtain⟨_,e,_⟩:=hl;exact ao e
 refine kmb_tree PySem.F.kind_max PySem.F.plain_max PySem.F.entry_max (QM _ _) ?_;show sw _ A.in1 (Builtin.Builtins.bindParams "max" ["key","default"] 0 #[[],[(bG "default",d)]] >>= _) _ _ s;refine rZ (wpAny_of_eq (show Builtin.Builtins.bindParams "max" ["key","default"] 0 #[[],[(bG "default",d)]]=pure [AY,AX d]from rfl) (rZ (sf ?_)));refine rZ (tT hl (rZ (Ax ?_ (aD _))));rw[nm];refine sf #[plainId_quiet bH _,?_];have gI:(s.heap.push { cls:=.type "list_iterator",data:=.fields (List.toArray [.ref l,.int 0 0]) }).IsListIter s⁻¹ l 0:=#[_,aB _ rfl,rfl,rfl];have gl:=hl.push { cls:=.type "list_iterator",data:=.fields (List.toArray [.ref l,.int 0 0]) };have kp0:∀b o,s.heap.get? b=AX o->(s.heap.push { cls:=.type "list_iterator",data:=.fields (List.toArray [.ref l,.int 0 0]) }).get? b=AX o:=λb o q=>ac _ q;have hsz:(s.heap.push { cls:=.type "list_iterator",data:=.fields (List.toArray [.ref l,.int 0 0]) }).objs.size=s⁻¹+1:=bQ _ _;have hold:∀b o,s.heap.get? b=AX o->b<s⁻¹:=λb o q=>ao q;have hlI:l≠s⁻¹:=aA hlt;generalize s.heap.push { cls:=.type "list_iterator",data:=.fields (List.toArray [.ref l,.int 0 0]) }=h1 at *;generalize hIe:s⁻¹=I at *;have W:=Walks.list (prog:=prog) (w:=w) (A:=A.in1) hh I l hlI xs;have gS:(h1.push { cls:=.type "list",data:=.seq ([]:List sr).toArray }).get? h1.objs.size=AX (sS "list" #[] 0):=aB _ rfl;have st0:=W.frame 0 _ (h1.push { cls:=.type "list",data:=.seq ([]:List sr).toArray }) #[gI,gl] λb _ o q=>ac _ q;have kp1:∀b o,s.heap.get? b=AX o->(h1.push { cls:=.type "list",data:=.seq ([]:List sr).toArray }).get? b=AX o:=λb o q=>ac _ (kp0 b o q);have hSI:h1.objs.size≠I:=by rw[hsz];exact Nat.succ_ne_self I
 have hSl:h1.objs.size≠l:=by rw[hsz];exact cp (cN hlt)
 have hSb:∀b o,s.heap.get? b=AX o->b≠I/\b≠h1.objs.size:=λb o q=>#[aA (hold b o q),by rw[hsz];exact aA (cN (hold b o q))];generalize h1.push { cls:=.type "list",data:=.seq ([]:List sr).toArray }=h2 at *;generalize h1.objs.size=S at *;refine tP (b:=Builtin.«max.loop») du ?_;rw[Around.under_plainId (id:="max.loop") bH _];show sw _ A.in1 (seqItems? (Value.ref S) >>= _) _ _ _;refine rZ (tm (items:=#[]) gS rfl ?_);show sw _ A.in1 (tryCatch (pyNext (Value.ref I)) _ >>= _) _ _ _;by_cases hz:xs.size=0
 ·refine rZ (tS (W.done _ _ _ (by rw[hz];exact st0) λh' tk kp=>?_));show sw _ A.in1 (rule _ >>= λ_=>_) _ _ _;refine rZ (Ag (sf ?_));exact h d h' tk (λ_=>rfl) (λq=>absurd q ⋯) λb o q=>kp b o (by simpa using (hSb b o q).1) (kp1 b o q)
 ·refine rZ (tS (W.item 0 _ _ _ ⋯ st0 λv h' tk hP st kp=>?_));obtain⟨t,rfl⟩:=hv 0 v hP;have hS':=kp S _ (by simpa using hSI) gS;show sw _ A.in1 (updateSeq S (λ_=>(List.toArray [Value.int (val 0) t,Value.int (val 0) t])) >>= _) _ _ _;refine rZ (Ak hS' rfl ?_);rw[nm]
  have st':=W.frame _ _ (h'.update S (Obj.mapSeq λ_=>(List.toArray [Value.int (val 0) t,Value.int (val 0) t]))) st λb hb o q=>by
   refine (aF _ _ (λe:S=b=>?_)).trans q;subst e;rcases Bg.mp hb with e | e
   ·exact hSI e
   ·exact hSl (Bj.mp e)
  refine sf #[plainId_quiet bH _,QX hh hlI hSI hSl xs val hv d _ 1 (val 0) t _ _ rfl ⋯ (λi hi=>?_) st'.1 st'.2 (get?_update_seq hS' _) λz' t' h'' tk'' a1 a2=>?_]
  ·have:i=0:=⋯;rw[this];exact fQ _
  ·exact h _ h'' tk'' (λq=>absurd q hz) (λ_=>#[z',t',rfl,a1]) λb o q=>a2 b o (hSb b o q).1 (hSb b o q).2 ((aF _ _ (Ne.symm (hSb b o q).2)).trans (kp b o (by simpa using (hSb b o q).1) (kp1 b o q)))
end
section
variable{X:Cx}{id:String}{x:sB}{e:sF}{es:List sF}{kws:List AQ}{ks:List sB}{p pos:tG}{t tk:TA}
def zaf(X:Cx)(id:String)(ks:List sB)(r:List V->List V->Hp->VK->Prop):Prop :=
 ∀(Bb:List (sq × sX)) (s:su) (σ:L2.St) (H:Hp) (vs zs:List V) (us ws:List sr) (Q:VK),Inv X Bb σ H s->Vals vs us->Vals zs ws->r vs zs H Q->sw (model X.prog X.w) X.A (call (.builtin id) us (ks.zip ws)) (EP X Bb σ Q) X.xe s
def zgb(r:List V->List V->Hp->VK->Prop)(t tk:TA):TE:=λσ H Q=>t σ H λvs H1=>tk σ H1 λzs H2=>r vs zs H2 Q
theorem Q7{r:List V->List V->Hp->VK->Prop}(hc:zaf X id ks r)(hg:Gl X x)(hm:X.mg x=AY)(hv:sZ x=AX (.builtin id))(ha:PA X (e::es) t)(hk:PK X kws tk)(hks:(tj pos (sL kws X.env)).filterMap (·.1)=ks:=by rfl)(hn:x≠"__name__":=by decide)(hdb:(x ==("__debug__" : sB))=Ba:=by decide)
  (he:sN pos (sj (e::es) X.env)=(Ba,eval e X.env)::sN pos (sj es X.env):=by rfl) (hpl:(sN pos (sj (e::es) X.env)).any (·.1)=Ba:=by rfl)
  (hall:(tj pos (sL kws X.env)).all (·.1.isSome)=AZ:=by rfl) (hkw:(tj pos (sL kws X.env)).any (·.1.isNone)=Ba:=by rfl):PE X (.Call (.Name x p) (e::es) kws pos) (zgb r t tk):=by
 intro Bb s σ H Q I h;refine sU (wT I hg hm hv ?_ hn hdb);refine callWith_kw (thn (ha pos Bb s σ H _ I h) λus s1 ⟨vs,H1,I1,r1,q1⟩=>thn (hk pos Bb s1 σ H1 _ I1 q1) λws s2 ⟨zs,H2,I2,r2,q2⟩=>?_) he hpl hall hkw;rw[hks];exact hc Bb s2 σ H2 vs zs us ws Q I2 r1 r2 q2
def zfA(K:so):List V->List V->Hp->VK->Prop:=λvs zs H Q=>∃(a:sq) (ns:List Int) (d:Int),vs=[.ref a]/\zs=[.int d]/\SqL K H a (ns.map V.int)/\∀z:Int,(ns=[]->z=d)->(∀n ∈ ns,n<=z)->Q (.int z) H
theorem zdF(hc:X.calm=AZ):zaf X "max" [bG "default"] (zfA X.K):=by
 intro Bb s σ H vs zs us ws Q I r1 r2 h;obtain⟨a,ns,d,rfl,rfl,hS,q⟩:=h;obtain⟨u,rfl,ru⟩:=wB r1;cases ru;obtain⟨w',rfl,td,rfl⟩:=wB r2;obtain⟨its,rv,pl,hz⟩:=I.list hS;have hlen:=rv.length;rw[ae]at hlen
 have hat:∀(i:Nat) (v:sr),its.toArray[i]? = AX v->∃t,v=Value.int (ns.getD i 0) t:=λi v hi=>by
  have hi':its[i]? = AX v:=by simpa using hi
  have hil:=(Be.mp hi').1;obtain⟨u,hu,t,rfl⟩:=xQ rv (j:=i) (x:=.int (ns.getD i 0)) (by rw[aq,aa,ah ⋯];rfl);rw[hi']at hu;cases hu;exact#[t,rfl]
 refine UB (I.ok.hd hc) its.toArray (λi=>ns.getD i 0) hat pl.isList (.int d td) λv h' tk h0 h1 kp=>?_;by_cases hn:ns=[]
 ·have:=h0 (by rw[ak,<- hlen,hn];rfl);subst this;exact#[.int d,H,I.kept kp,#[_,rfl],q d (λ_=>rfl) (λn hm=>by rw[hn]at hm;cases hm)]
 ·obtain⟨z,t,rfl,hzz⟩:=h1 (by rw[ak,<- hlen];exact Bu.mpr hn);refine#[.int z,H,I.kept kp,#[_,rfl],q z (λe=>absurd e hn) λn hm=>?_];obtain⟨i,hi,rfl⟩:=List.getElem_of_mem hm;have:=hzz i (by rw[ak,<- hlen];exact hi);rw[aa,ah hi]at this;exact this
end
section
variable{prog:sy}{w:sC}{A:sE}{R:As->su->Prop}{I l S:sq}
end
section
variable{X:Cx}
end
section
variable{prog:sy}{w:sC}{A:sE}{R:As->su->Prop}{I S:sq}{fp wr:List sq}{P:Nat->sr->Prop}{St:Nat->sI->Prop}
end
section
variable{X:Cx}
end
section
variable{X:Cx}{k j:Nat}{C:sq}{m:sB}{ps:List sB}{sp:Sp}{o e:sF}{es:List sF}{ta:TE}{t:TA}{apos pos p:tG}{x:sB}{E:XK}
end
def zfe(y l:())(e:Nat):Prop:=e+y.length<=l.length/\(l.drop e).take y.length=y
noncomputable instance (y l:()) (e:Nat):Decidable (zfe y l e):=by unfold zfe;infer_instance
noncomputable def zgu(y l:()):Option (() × ()):=((aK (l.length+1)).find? λe=>decide (zfe y l e)).map λe=>(l.take e,l.drop (e+y.length))
section
variable{X:Cx}
theorem kC{cn:sB}{np hpos:tG}{b0:sJ}{suite:List sJ}{hs:List Az}{D:sq}{th:TS}(hg:Gl X cn)(hm:X.mg cn=AX (.ref D))(hdb:(cn ==("__debug__" : sB))=Ba)(xc:Z2 X.K D=AZ)(hsu:∀e,PSs (Cx.suite X e) (b0::suite) th)
  {Bb:List (sq × sX)} {s:su} {σ:St} {H:Hp} {Dd:vG} {x C T:sq} {dx:Option sq} (I:Inv X Bb σ H s) (hob:∃t cx kx,s.heap.get? x=AX (xog C dx t (.ref T) cx kx)) (hoT:∃oT ts,s.heap.get? T=AX oT/\oT.data=.fields ts/\3<ts.size) (fT:wm X Bb H T)
  (hb:cT X.K (.ref C) (.ref D)=AX AZ) (q:th Dd σ H):sw (model X.prog X.w) X.A (handleBy (.ref x) X.env (.ExceptHandler (AX (.Name cn np)) AY (b0::suite) hpos::hs)) (SP X Bb Dd) X.xe s:=by
 obtain⟨t,cx,kx,ob⟩:=hob;obtain⟨oT,ts,eT,dT,zT⟩:=hoT;have I':=Inv.suite I (.ref x);refine wpAny_handleBy_cons (codeAny_handlers_test (vL (X:=Cx.suite X (.ref x)) I' hg hm (zdl I.kIn xc ob hb ?_) hdb)) (by intro q;cases q);refine codeAny_handlers_suite ?_;unfold setFlight;refine rZ (sP ob rfl (x:=.ref T) rfl ?_);rw[if_pos (show (Value.ref T != Value.none)=AZ from by simp)];refine tF eT dT zT ?_;obtain⟨f0,f1,f2,f3,f4,f5⟩:=fT
 have I2:Inv X Bb σ H { s with heap:=s.heap.update T (Obj.mapFields (·.setIfInBounds 3 ((AY:Option sq).elim Value.none λf=>rawInt f))) } :=
  I.turned (t':=s.toks) (λb o hb e=>(aF _ _ (Ne.symm hb)).trans e) f0 f1 f3 f4 f5
 refine tE (thn (hsu _ Bb _ σ H _ (Inv.suite I2 (.ref x)) q) λfl s4 q4=>?_)
 cases fl with
 | next =>
  obtain⟨σ4,H4,I4,n4⟩:=q4;exact#[_,_,Inv.unsuite I I4,n4]
 | brk =>
  obtain⟨σ4,H4,I4,n4⟩:=q4;exact#[_,_,Inv.unsuite I I4,n4]
 | cont =>
  obtain⟨σ4,H4,I4,n4⟩:=q4;exact#[_,_,Inv.unsuite I I4,n4]
 | ret v =>
  obtain⟨y,σ4,H4,I4,r4,n4⟩:=q4;exact#[y,_,_,Inv.unsuite I I4,r4,n4]
def zag(K:so)(i:Nat)(D:sq)(te:TX)(th:TS):TS:=λDd σ H=>te σ H (λv H1=>Dd.nx (σ.set i (AX v)) H1) λcls dx H1=>∃C,cls=.ref C/\cT K (.ref C) (.ref D)=AX AZ/\∀x,H1 x=AY->th Dd σ (upd H1 x (XT x C dx))
theorem KU{i:Nat}{y:sB}{yp apos pos np hpos:tG}{e:sF}{te:TX}{cn:sB}{b0:sJ}{suite:List sJ}{hs:List Az}{D:sq}{th:TS}
  (hN:X.N.Nodup) (hy:X.N[i]? = AX y) (hly:Loc X.env.scope y) (hf:X.fn y=AZ\/X.env.scope.names.lookup y=AX .local) (hst:X.stack=X.env::X.outer/\X.env.frame=AX X.env.locals) (he:PEX X e te) (hg:Gl X cn) (hm:X.mg cn=AX (.ref D)) (xc:Z2 X.K D=AZ) (hsu:∀e,PSs (Cx.suite X e) (b0::suite) th) (hdb:(cn ==("__debug__" : sB))=Ba:=by decide) (hsw:swapsWith e (AX (.Name y yp)) apos.line X.env=pure Ba:=by rfl) :
  PS X (.Try [.Assign [.Name y yp] e apos] (.ExceptHandler (AX (.Name cn np)) AY (b0::suite) hpos::hs) [] [] pos) (zag X.K i D te th):=by
 intro Bb s σ H D I hq;refine AM (tL (AG (tJ (he Bb s σ H _ _ I hq) (λv s1 ⟨z,H1,I1,r1,q1⟩=>?_) λe s1 fl=>?_) hsw))
 ·exact Zh I1 hN hy hly r1 (λs2 I2=>tI (tI #[_,H1,I2,q1])) hf
 ·obtain⟨cx,kx,H1,x,C,t,dx,tb,rfl,I1,ob,tr,fx,fT,C',ec,hsb,q1⟩:=fl;cases ec;have fr:X.A.frames=AX (X.env::X.outer):=by rw[<- hst.1];exact I1.ok.frames
  have ff:s1.heap.FunFrames X.base (X.env::X.outer):=by rw[<- hst.1];exact I1.stack
  refine ZC fr ff hst.2 hst.2 ob tr λh' T oT ts e1 nT oldT e2 d2 z2 k1 k2=>?_
  have fT':wm X Bb H1 T:=by
   rcases oldT with z | z
   ·exact fT T z
   ·exact I1.fpOk z (I1.hok.fresh z)
  have tbs:∀b,tb=.ref b->H1 b=AY:=λb hb=>(fT b hb).1
  have nch:∀b o,s1.heap.get? b=AX o->b ∉ (x::T::tbL tb)->b≠x/\tb≠.ref b:=λb o _ hb=>by
   refine#[λz=>hb (by simp [z]),λz=>hb ?_];rw[z];simp [tbL]
  have un:Un (frs X.stack) (x::T::tbL tb) H1 H1 s1.heap h':=by
   rw[hst.1];refine#[λb o e n hb hc=>?_,λb o e n hb hc=>?_,λb o e n _=>n,λb o e hc=>?_,λb xs e=>e,λb o u e=>e,λb ps e=>#[#[],by rw[e];simp]]
   ·obtain⟨a1,a2⟩:=nch b o e hc;exact k1 b o a1 a2 hb e
   ·obtain⟨a1,a2⟩:=nch b o e hc;exact k2 b o a1 a2 e
   ·obtain⟨a1,a2⟩:=nch b o e hc;obtain⟨sl,q⟩:=k2 b o a1 a2 e;exact#[_,q]
  have hok:HOk X.prog X.w H1 h':=λb u e=>by
   refine (I1.hok b u e).stay (λc v hc q=>k1 c v ?_ ?_ ?_ q) (λ_ q=>q) λ_ _ q=>q
   ·rintro rfl;rcases hc with rfl | hc
    ·rw[fx.1]at e;cases e
    ·rw[fx.1]at hc;cases hc
   ·intro z;have:=tbs c z;rcases hc with rfl | hc
    ·rw[this]at e;cases e
    ·rw[this]at hc;cases hc
   ·intro z;rw[<- hst.1]at z;have:=I1.stkFree c z;rcases hc with rfl | hc
    ·rw[this]at e;cases e
    ·rw[this]at hc;cases hc
  have I2:Inv X Bb σ H1 { s1 with heap:=h' }:=I1.call' (s':={ s1 with heap:=h' }) rfl un hok I1.bare λb hb=>by
   have fb:wm X Bb H1 b:=by
    rcases Bg.mp hb with z | z
    ·rw[z];exact fx
    ·rcases Bg.mp z with z | z
     ·rw[z];exact fT'
     ·cases tb with
      | ref b' =>
       have:b=b':=by simpa [tbL] using z
       rw[this];exact fT b' rfl
      | _=>simp [tbL]at z
   obtain⟨_,a1,_,a3,a4,a5⟩:=fb;exact#[a3,a1,a4,a5]
  have I3:Inv X Bb σ (upd H1 x (XT x C dx)) { s1 with heap:=h' }:=Inv.track I2 fx (zdT e1);exact kC hg hm hdb xc hsu I3 #[t,_,_,e1] #[oT,ts,e2,d2,z2] #[by rw[zm nT];exact fT'.1,fT'.2] hsb (q1 x fx.1)
def Q8(K:so)(D:sq)(te:TX)(th:TS):TS:=λDd σ H=>te σ H (λz H1=>Dd.rt z H1) λcls dx H1=>∃C,cls=.ref C/\cT K (.ref C) (.ref D)=AX AZ/\∀x,H1 x=AY->th Dd σ (upd H1 x (XT x C dx))
theorem WS{apos pos np hpos:tG}{e:sF}{te:TX}{cn:sB}{b0:sJ}{suite:List sJ}{hs:List Az}{D:sq}{th:TS}
  (hst:X.stack=X.env::X.outer/\X.env.frame=AX X.env.locals) (he:PEX X e te) (hg:Gl X cn) (hm:X.mg cn=AX (.ref D)) (xc:Z2 X.K D=AZ) (hsu:∀e,PSs (Cx.suite X e) (b0::suite) th) (hdb:(cn ==("__debug__" : sB))=Ba:=by decide) :
  PS X (.Try [.Return (AX e) apos] (.ExceptHandler (AX (.Name cn np)) AY (b0::suite) hpos::hs) [] [] pos) (Q8 X.K D te th):=by
 intro Bb s σ H D I hq;refine AM (tL (AF (tJ (he Bb s σ H _ _ I hq) (λv s1 ⟨z,H1,I1,r1,q1⟩=>?_) λe s1 fl=>?_)))
 ·exact#[z,σ,H1,I1,r1,q1]
 ·obtain⟨cx,kx,H1,x,C,t,dx,tb,rfl,I1,ob,tr,fx,fT,C',ec,hsb,q1⟩:=fl;cases ec;have fr:X.A.frames=AX (X.env::X.outer):=by rw[<- hst.1];exact I1.ok.frames
  have ff:s1.heap.FunFrames X.base (X.env::X.outer):=by rw[<- hst.1];exact I1.stack
  refine ZC fr ff hst.2 hst.2 ob tr λh' T oT ts e1 nT oldT e2 d2 z2 k1 k2=>?_
  have fT':wm X Bb H1 T:=by
   rcases oldT with z | z
   ·exact fT T z
   ·exact I1.fpOk z (I1.hok.fresh z)
  have tbs:∀b,tb=.ref b->H1 b=AY:=λb hb=>(fT b hb).1
  have nch:∀b o,s1.heap.get? b=AX o->b ∉ (x::T::tbL tb)->b≠x/\tb≠.ref b:=λb o _ hb=>by
   refine#[λz=>hb (by simp [z]),λz=>hb ?_];rw[z];simp [tbL]
  have un:Un (frs X.stack) (x::T::tbL tb) H1 H1 s1.heap h':=by
   rw[hst.1];refine#[λb o e n hb hc=>?_,λb o e n hb hc=>?_,λb o e n _=>n,λb o e hc=>?_,λb xs e=>e,λb o u e=>e,λb ps e=>#[#[],by rw[e];simp]]
   ·obtain⟨a1,a2⟩:=nch b o e hc;exact k1 b o a1 a2 hb e
   ·obtain⟨a1,a2⟩:=nch b o e hc;exact k2 b o a1 a2 e
   ·obtain⟨a1,a2⟩:=nch b o e hc;obtain⟨sl,q⟩:=k2 b o a1 a2 e;exact#[_,q]
  have hok:HOk X.prog X.w H1 h':=λb u e=>by
   refine (I1.hok b u e).stay (λc v hc q=>k1 c v ?_ ?_ ?_ q) (λ_ q=>q) λ_ _ q=>q
   ·rintro rfl;rcases hc with rfl | hc
    ·rw[fx.1]at e;cases e
    ·rw[fx.1]at hc;cases hc
   ·intro z;have:=tbs c z;rcases hc with rfl | hc
    ·rw[this]at e;cases e
    ·rw[this]at hc;cases hc
   ·intro z;rw[<- hst.1]at z;have:=I1.stkFree c z;rcases hc with rfl | hc
    ·rw[this]at e;cases e
    ·rw[this]at hc;cases hc
  have I2:Inv X Bb σ H1 { s1 with heap:=h' }:=I1.call' (s':={ s1 with heap:=h' }) rfl un hok I1.bare λb hb=>by
   have fb:wm X Bb H1 b:=by
    rcases Bg.mp hb with z | z
    ·rw[z];exact fx
    ·rcases Bg.mp z with z | z
     ·rw[z];exact fT'
     ·cases tb with
      | ref b' =>
       have:b=b':=by simpa [tbL] using z
       rw[this];exact fT b' rfl
      | _=>simp [tbL]at z
   obtain⟨_,a1,_,a3,a4,a5⟩:=fb;exact#[a3,a1,a4,a5]
  have I3:Inv X Bb σ (upd H1 x (XT x C dx)) { s1 with heap:=h' }:=Inv.track I2 fx (zdT e1);exact kC hg hm hdb xc hsu I3 #[t,_,_,e1] #[oT,ts,e2,d2,z2] #[by rw[zm nT];exact fT'.1,fT'.2] hsb (q1 x fx.1)
theorem UF(bs:List Bool):(aK bs.length).any (λi=>bs.getD i Ba)=bs.any id:=by
 induction bs with
 | nil=>rfl
 | cons b bs ih =>
  rw[aJ,dq,dv,List.any_map,dv,<- ih];rfl
def zgp(K:so):List V->Hp->VK->Prop:=λxs H Q=>∃(p:sq) (bs:List Bool),xs=[.ref p]/\SqL K H p (bs.map V.bl)/\Q (.bl (bs.any id)) H
theorem zfd(hc:X.calm=AZ):vQ X (.builtin "any") (zgp X.K):=by
 intro Bb s σ H xs us Q I r h;obtain⟨p,bs,rfl,hS,q⟩:=h;obtain⟨u,rfl,ru⟩:=wB r;cases ru;obtain⟨its,rv,pl,hz⟩:=I.list hS
 have hlen:its.length=bs.length:=by
  have:=rv.length;rw[ae]at this;exact this.symm
 have hh:X.A.in1.handled=AY:=I.ok.hd hc
 have hne:p≠s⁻¹:=by
  obtain⟨o,n,e,_⟩:=pl;exact aA (ao e)
 obtain⟨f0,f1,f2,f3,f4,f5⟩:=I.fpOk (H':=H) (al _) (I.hok.fresh (al _));have I1:=I.kept (t':=s.toks) (h':=s.heap.push { cls:=.type "list_iterator",data:=.fields (List.toArray [.ref p,.int 0 0]) }) λb o e=>ac _ e;refine call_any_walk (tT pl.isList ?_);refine#[s⁻¹,_,_,_,_,_,λi=>bs.getD i Ba,rfl,Walks.list hh s⁻¹ p hne its.toArray,#[#[_,aB _ rfl,rfl,rfl],?_],?_,?_]
 ·obtain⟨o,n,e,c,d,dt⟩:=pl;exact#[o,ac _ e,c,n,dt]
 ·intro i v s' Q' E' hv hq;have:=Zo rv (i:=i) (v:=v) (by simpa using hv);rw[this];exact sM hq
 ·intro h' tk hk
  have e:(aK its.toArray.size).any (λi=>bs.getD i Ba)=bs.any id:=by
   rw[ak,hlen,UF]
  rw[e];refine#[.bl _,H,?_,rfl,q];exact I1.turned (t':=tk) (it:=s⁻¹) (λb o hb q=>hk b o (by simpa using hb) q) f0 f1 f3 f4 f5
end
def CompEL(K:so)(a:sq)(g:TG)(tt:TT)(te:TE)(own:Nat)(ix:())(σ:L2.St)(H1:Hp)(Q:VK)(D:sq):Prop:=XM (Iel K a) g tt te own ix σ H1 Q D
theorem zeu{K:so}{ta:TA}{g:TG}{tt:TT}{te:TE}{own:Nat}{ix:()}{σ:L2.St}{H:Hp}{Q:VK}:j8 (QY K ta) g tt te own ix σ H Q=ta σ H λvs H1=>∃a,vs=[.ref a]/\(∃xs,SqL K H1 a xs)/\∀D,H1 D=AY->CompEL K a g tt te own ix σ H1 Q D:=rfl
section
variable{g:TG}{tt:TT}{te:TE}{own:Nat}{ix:()}{σ:L2.St}{H1:Hp}{Q:VK}{D:sq}
theorem CompEL.by{K:so}{a:sq}{xs:List V}(Pv:Nat->List V->Hp->Prop)(h0:Pv 0 [] (upd H1 D (.lst [])))(hl:∀i Bd H',i<=xs.length->Pv i Bd H'->SqL K H' a xs)
  (hs:∀i x Bd H' p,xs[i]? = AX x->Pv i Bd H'->H' p=AY->g (.ref p) (vC σ own ix) (upd H' p (.tup [.int (i:Nat),x])) λσ3 H3=>xb (vC σ own ix) σ3/\tt σ3 H3 λb H4=>if b=AZ then
   te σ3 H4 λv H5=>H5 D=AX (.lst Bd)/\Bd.length<sk/\CNx xs.length i Pv (Bd ++ [v]) (upd H5 D (.lst (Bd ++ [v])))else CNx xs.length i Pv Bd H4)
  (hd:∀Bd H',Pv xs.length Bd H'->Q (.ref D) H'):CompEL K a g tt te own ix σ H1 Q D:=by
 refine#[λi m Bd H=>m=xs.length - i/\i<=xs.length/\Pv i Bd H,#[xs.length,by simp,aD _,h0],?_];rintro i m Bd H' ⟨rfl,hi,p⟩;have q:=hl i Bd H' hi p;by_cases hlt:i<xs.length
 ·refine .inr #[#[xs,xs[i],q,by simp [hlt]],λv H2 y=>?_];obtain⟨p',x,hp,hx,ev,eH⟩:=y;subst ev eH;exact hs i x Bd H' p' (hx xs q) p hp
 ·have e:i=xs.length:=⋯;subst e;exact .inl #[#[xs,q,rfl],hd Bd H' p]
end
section
variable{X:Cx}
end
open PySem PySem.W PyProof.Rows
noncomputable def JA(lt:Nat->Nat->Bool){α:Type}:AV α->α
 | .ret a=>a
 | .ask i j k=>JA lt (k (lt i j))
def Kok(lt:Nat->Nat->Bool)(n:Nat){α:Type}:AV α->(α->Prop)->Prop
 | .ret a,Q=>Q a
 | .ask i j k,Q=>i<n/\j<n/\Kok lt n (k (lt i j)) Q
section
variable{lt:Nat->Nat->Bool}{n:Nat}{α β:Type}
theorem Kok.mono{Q Q':α->Prop}(hq:∀a,Q a->Q' a):∀(t:AV α),Kok lt n t Q->Kok lt n t Q'
 | .ret a,h=>hq a h
 | .ask _ _ k,h=>#[h.1,h.2.1,Kok.mono hq (k _) h.2.2]
theorem Kok.bind{f:α->AV β}{Q:β->Prop}:∀(t:AV α),Kok lt n t (λa=>Kok lt n (f a) Q)->Kok lt n (t.bind f) Q
 | .ret _,h=>h
 | .ask _ _ k,h=>#[h.1,h.2.1,Kok.bind (k _) h.2.2]
theorem Kok.run{Q:α->Prop}:∀(t:AV α),Kok lt n t Q->Q (JA lt t)
 | .ret _,h=>h
 | .ask _ _ k,h=>Kok.run (k _) h.2.2
theorem Kok.same{Q:α->Prop}:∀(t:AV α),Kok lt n t Q->Kok lt n t (λa=>a=JA lt t)
 | .ret _,h=>rfl
 | .ask _ _ k,h=>#[h.1,h.2.1,Kok.same (k _) h.2.2]
theorem Kok.wp{cmp:Nat->Nat->(Bool->su->Prop)->su->Prop}{I:su->Prop}(hc:∀i j C s,i<n->j<n->I s->(∀s',I s'->C (lt i j) s')->cmp i j C s){Q:α->Prop}{R:α->su->Prop}
  (hR:∀a s,Q a->I s->R a s):∀(t:AV α) (s:su),I s->Kok lt n t Q->t.kasWp cmp R s
 | .ret a,s,hI,h=>hR a s h hI
 | .ask i j k,s,hI,h=>hc i j _ s h.1 h.2.1 hI λs' hI'=>Kok.wp hc hR (k _) s' hI' h.2.2
end
structure Wk(lt:Nat->Nat->Bool):Prop where
 asym:∀a b,lt a b=AZ->lt b a=Ba
 ntr:∀a b c,lt b a=Ba->lt c b=Ba->lt c a=Ba
section
variable{lt:Nat->Nat->Bool}{n:Nat}
abbrev Lq(lt:Nat->Nat->Bool)(a b:Nat):Prop:=lt b a=Ba
theorem Wk.refl(W:Wk lt)(a:Nat):Lq lt a a:=by
 cases h:lt a a with
 | false=>exact h
 | true=>exact absurd h (by rw[W.asym a a h];decide)
noncomputable abbrev pg(p:Array Nat)(i:Nat):Nat:=p.getD i 0
theorem VM(p:Array Nat)(i:Nat):pg p i=(p[i]?).getD 0:=by simp [pg,Array.getD_eq_getD_getElem?]
def Up(lt:Nat->Nat->Bool)(p:Array Nat)(m:Nat):Prop:=∀i j,i<j->j<m->Lq lt (pg p i) (pg p j)
def Dn(lt:Nat->Nat->Bool)(p:Array Nat)(m:Nat):Prop:=∀i j,i<j->j<m->Lq lt (pg p j) (pg p i)
def Rg(n:Nat)(p:Array Nat):Prop:=p.toList.Perm (aK n)
theorem Rg.size{p:Array Nat}(h:Rg n p):p.size=n:=by have:=h.length_eq;simpa using this
theorem Rg.bd{p:Array Nat}(h:Rg n p){i:Nat}(hi:i<n):pg p i<n:=by
 have hs:=h.size;have hi':i<p.size:=⋯;have e:pg p i=p[i]:=by simp [pg,fu,hi']
 rw[e];have hm:p[i] ∈ p.toList:=Array.mem_toList_iff.mpr (Array.getElem_mem hi');exact Bl.mp (h.mem_iff.mp hm)
theorem vE{p:Array Nat}{i j:Nat}(hj:j<=p.size)(k:Nat):pg (kas_rev p i j) k=if i<=k/\k<j then pg p (i+j - 1 - k)else pg p k:=by
 rw[VM,kas_rev,getElem?_mirror_all hj];split <;> rw[VM]
theorem Rg.rev{p:Array Nat}(h:Rg n p)(i j:Nat):Rg n (kas_rev p i j):=(Array.perm_iff_toList_perm.mp (mirror_perm p i j _)).trans h
theorem Rg.bub{p:Array Nat}(h:Rg n p)(i j:Nat):Rg n (bubble p i j):=(Array.perm_iff_toList_perm.mp (bubble_perm p i j)).trans h
theorem QK(W:Wk lt){p:Array Nat}(hp:Rg n p):∀(f k:Nat),1<=k->k+f<=n->Up lt p k->Kok lt n (kas_asc p f k) (λm=>k<=m/\m<=k+f/\Up lt p m/\(m=k+f\/lt (pg p m) (pg p (m - 1))=AZ))
 | 0,k,h1,h2,hu=>#[⋯,⋯,hu,Or.inl ⋯]
 | f+1,k,h1,h2,hu=>by
  refine#[hp.bd ⋯,hp.bd ⋯,?_];rcases cr (lt (pg p k) (pg p (k - 1)))with hc | hc
  ·show Kok lt n (if lt (pg p k) (pg p (k - 1))=AZ then .ret k else _) _;rw[if_pos hc];exact#[⋯,⋯,hu,Or.inr hc]
  ·show Kok lt n (if lt (pg p k) (pg p (k - 1))=AZ then .ret k else _) _;rw[if_neg (by rw[hc];decide)];refine (QK W hp f (k+1) ⋯ ⋯ λi j hij hj=>?_).mono (λm hm=>#[⋯,⋯,hm.2.2.1,?_]) _
   ·by_cases e:j=k
    ·subst e;by_cases e2:i=j - 1
     ·subst e2;exact hc
     ·exact W.ntr _ _ _ (hu i (j - 1) ⋯ ⋯) hc
    ·exact hu i j hij ⋯
   ·rcases hm.2.2.2 with h | h
    ·exact Or.inl ⋯
    ·exact Or.inr h
def Ev(lt:Nat->Nat->Bool)(p:Array Nat)(a b:Nat):Prop:=∀i j,a<=i->i<b->a<=j->j<b->Lq lt (pg p i) (pg p j)
theorem zak{p:Array Nat}{m q:Nat}(hm:m<=p.size)(hq:q+1<=m)(hd:Dn lt p m)(he:Ev lt p (m - (q+1)) m):Dn lt (kas_rev p (m - (q+1)) m) m:=by
 intro i j hij hj;rw[vE hm,vE hm];by_cases h1:m - (q+1)<=i
 ·rw[if_pos (show m - (q+1)<=i/\i<m by lia),if_pos (show m - (q+1)<=j/\j<m by lia)];exact he _ _ ⋯ ⋯ ⋯ ⋯
 ·rw[if_neg (show ¬ (m - (q+1)<=i/\i<m) by lia)];split
  ·exact hd _ _ ⋯ ⋯
  ·exact hd _ _ ⋯ ⋯
theorem ZS(W:Wk lt):∀(f:Nat) (p:Array Nat) (k q:Nat),Rg n p->1<=k->k+f<=n->q+1<=k->Dn lt p k->Ev lt p (k - (q+1)) k ->
  Kok lt n (kas_desc f p k q) (λr=>Rg n r.1/\k<=r.2.1/\r.2.1<=k+f/\r.2.2+1<=r.2.1/\Dn lt r.1 r.2.1/\Ev lt r.1 (r.2.1 - (r.2.2+1)) r.2.1)
 | 0,p,k,q,hp,h1,h2,hq,hd,he=>#[hp,al _,cB _ _,hq,hd,he]
 | f+1,p,k,q,hp,h1,h2,hq,hd,he=>by
  have hps:=hp.size;refine#[hp.bd ⋯,hp.bd ⋯,?_]
  have one:∀(p:Array Nat),Ev lt p (k+1 - (0+1)) (k+1):=λp i j a b c d=>by
   have:i=j:=⋯;subst this;exact W.refl _
  rcases cr (lt (pg p k) (pg p (k - 1)))with hc | hc
  ·show Kok lt n (if lt (pg p k) (pg p (k - 1))=AZ then _ else _) _;rw[if_pos hc];have hle:Lq lt (pg p k) (pg p (k - 1)):=W.asym _ _ hc;split
   ·rename_i hq0;refine (ZS W f _ (k+1) 0 (hp.rev _ _) ⋯ ⋯ ⋯ (λi j hij hj=>?_) (one _)).mono (λr hr=>#[hr.1,⋯,⋯,hr.2.2.2]) _;by_cases e:j=k
    ·subst e;rw[vE ⋯,vE ⋯,if_neg ⋯];split
     ·exact W.ntr _ _ _ hle (he _ _ ⋯ ⋯ ⋯ ⋯)
     ·exact W.ntr _ _ _ hle (hd _ _ ⋯ ⋯)
    ·exact zak ⋯ hq hd he i j hij ⋯
   ·refine (ZS W f _ (k+1) 0 hp ⋯ ⋯ ⋯ (λi j hij hj=>?_) (one _)).mono (λr hr=>#[hr.1,⋯,⋯,hr.2.2.2]) _;by_cases e:j=k
    ·subst e;by_cases e2:i=j - 1
     ·subst e2;exact hle
     ·exact W.ntr _ _ _ hle (hd i (j - 1) ⋯ ⋯)
    ·exact hd i j hij ⋯
  ·show Kok lt n (if lt (pg p k) (pg p (k - 1))=AZ then _ else _) _;rw[if_neg (by rw[hc];decide)];refine#[hp.bd ⋯,hp.bd ⋯,?_];rcases cr (lt (pg p (k - 1)) (pg p k))with hd2 | hd2
   ·show Kok lt n (if lt (pg p (k - 1)) (pg p k)=AZ then _ else _) _;rw[if_pos hd2];exact#[hp,al _,cB _ _,hq,hd,he]
   ·show Kok lt n (if lt (pg p (k - 1)) (pg p k)=AZ then _ else _) _;rw[if_neg (by rw[hd2];decide)];refine (ZS W f _ (k+1) (q+1) hp ⋯ ⋯ ⋯ (λi j hij hj=>?_) (λi j a b c d=>?_)).mono (λr hr=>#[hr.1,⋯,⋯,hr.2.2.2]) _
    ·by_cases e:j=k
     ·subst e;by_cases e2:i=j - 1
      ·subst e2;exact hd2
      ·exact W.ntr _ _ _ hd2 (hd i (j - 1) ⋯ ⋯)
     ·exact hd i j hij ⋯
    ·have b1:∀i,k+1 - (q+1+1)<=i->i<k->Lq lt (pg p i) (pg p (k - 1))/\Lq lt (pg p (k - 1)) (pg p i):=λi a b=>#[he _ _ ⋯ ⋯ ⋯ ⋯,he _ _ ⋯ ⋯ ⋯ ⋯];by_cases e:j=k
     ·subst e;by_cases e3:i=j
      ·subst e3;exact W.refl _
      ·exact W.ntr _ _ _ (b1 i ⋯ ⋯).1 hc
     ·by_cases e3:i=k
      ·subst e3;exact W.ntr _ _ _ hd2 (b1 j ⋯ ⋯).2
      ·exact he _ _ ⋯ ⋯ ⋯ ⋯
theorem X2(W:Wk lt){p:Array Nat}{m:Nat}(hp:Rg n p)(h1:1<=m)(hm:m<=n)(hd:Dn lt p m):Kok lt n (kas_tail3 m n p) (λr=>Rg n r.2/\1<=r.1/\r.1<=n/\Up lt r.2 r.1):=by
 have hps:=hp.size;unfold kas_tail3;refine Kok.bind _ ((QK W (hp.rev 0 m) (n - m) m h1 ⋯ λi j hij hj=>?_).mono (λk hk=>#[hp.rev 0 m,by show 1<=k;lia,by show k<=n;lia,hk.2.2.1]) _);rw[vE ⋯,vE ⋯,if_pos ⋯,if_pos ⋯];exact hd _ _ ⋯ ⋯
theorem qX(W:Wk lt){p:Array Nat}{m:Nat}(hp:Rg n p)(h1:1<=m)(hm:m+1<=n)(hd:Dn lt p (m+1)):Kok lt n (kas_descPart m n p) (λr=>Rg n r.2/\1<=r.1/\r.1<=n/\Up lt r.2 r.1):=by
 unfold kas_descPart;refine Kok.bind _ ((ZS W (n - (m+1)) p (m+1) 0 hp ⋯ ⋯ ⋯ hd λi j a b c d=>?_).mono (λr hr=>?_) _)
 ·have:i=j:=⋯;subst this;exact W.refl _
 ·obtain⟨r1,r2,r3,r4,r5,r6⟩:=hr;have hs:=r1.size
  (try dsimp only)
  split
  ·exact X2 W (r1.rev _ _) ⋯ ⋯ (zak ⋯ r4 r5 r6)
  ·exact X2 W r1 ⋯ ⋯ r5
theorem J4(W:Wk lt){p:Array Nat}(hp:Rg n p)(hn:1<=n):Kok lt n (kas_count n p) (λr=>Rg n r.2/\1<=r.1/\r.1<=n/\Up lt r.2 r.1):=by
 have hps:=hp.size;unfold kas_count;refine Kok.bind _ ((QK W hp (n - 1) 1 (al _) ⋯ λi j hij hj=>by lia).mono (λm hm=>?_) _);obtain⟨m1,m2,mu,ms⟩:=hm;by_cases e:(m == n)=AZ
 ·rw[if_pos e];exact#[hp,by show 1<=m;lia,by show m<=n;lia,mu]
 ·rw[if_neg e];have hne:m≠n:=λh=>e (by rw[h];exact beq_self_eq_true _)
  have hlt:lt (pg p m) (pg p (m - 1))=AZ:=by
   rcases ms with h | h
   ·lia
   ·exact h
  have hle:Lq lt (pg p m) (pg p (m - 1)):=W.asym _ _ hlt;by_cases h1:m > 1
  ·rw[if_pos h1];refine#[hp.bd ⋯,hp.bd ⋯,?_];rcases cr (lt (pg p 0) (pg p (m - 1)))with hc | hc
   ·show Kok lt n (if lt (pg p 0) (pg p (m - 1))=AZ then _ else _) _;rw[if_pos hc];exact#[hp,by show 1<=m;lia,by show m<=n;lia,mu]
   ·show Kok lt n (if lt (pg p 0) (pg p (m - 1))=AZ then _ else _) _;rw[if_neg (by rw[hc];decide)]
    have u0:∀i,i<m->Lq lt (pg p 0) (pg p i):=λi hi=>by
     by_cases h:i=0
     ·subst h;exact W.refl _
     ·exact mu 0 i ⋯ hi
    have ul:∀i,i<m->Lq lt (pg p i) (pg p (m - 1)):=λi hi=>by
     by_cases h:i=m - 1
     ·subst h;exact W.refl _
     ·exact mu i (m - 1) ⋯ ⋯
    have ev:∀i j,i<m->j<m->Lq lt (pg p i) (pg p j):=λi j hi hj=>W.ntr _ _ _ (ul i hi) (W.ntr _ _ _ hc (u0 j hj));refine qX W (hp.rev 0 m) ⋯ ⋯ λi j hij hj=>?_;by_cases h:j=m
    ·subst h;rw[vE ⋯,vE ⋯,if_neg ⋯,if_pos ⋯];exact W.ntr _ _ _ hle (ev _ _ ⋯ ⋯)
    ·rw[vE ⋯,vE ⋯,if_pos ⋯,if_pos ⋯];exact ev _ _ ⋯ ⋯
  ·rw[if_neg h1];refine qX W hp ⋯ ⋯ λi j hij hj=>?_;have h0:i=m - 1:=⋯;have h1:j=m:=⋯;subst h0 h1;exact hle
theorem ZQ(W:Wk lt){p:Array Nat}(hp:Rg n p){k:Nat}(hk:k<n)(hu:Up lt p k):∀(f l r:Nat),l<=r->r<=k->r - l<=f->(∀i,i<l->Lq lt (pg p i) (pg p k))->(∀i,r<=i->i<k->Lq lt (pg p k) (pg p i)) ->
  Kok lt n (kas_place p k f l r) (λm=>m<=k/\(∀i,i<m->Lq lt (pg p i) (pg p k))/\(∀i,m<=i->i<k->Lq lt (pg p k) (pg p i)))
 | 0,l,r,hl,hr,hf,h1,h2=>by
  have:l=r:=⋯;subst this;exact#[hr,h1,h2]
 | f+1,l,r,hl,hr,hf,h1,h2=>by
  unfold kas_place;by_cases e:l ≥ r
  ·rw[if_pos e];have:l=r:=⋯;subst this;exact#[hr,h1,h2]
  ·rw[if_neg e];refine#[hp.bd hk,hp.bd ⋯,?_];rcases cr (lt (pg p k) (pg p ((l+r) / 2)))with hc | hc
   ·show Kok lt n (if lt (pg p k) (pg p ((l+r) / 2))=AZ then _ else _) _;rw[if_pos hc];refine ZQ W hp hk hu f l ((l+r) / 2) ⋯ ⋯ ⋯ h1 λi hi hik=>?_;by_cases e2:i=(l+r) / 2
    ·subst e2;exact W.asym _ _ hc
    ·exact W.ntr _ _ _ (W.asym _ _ hc) (hu _ _ ⋯ hik)
   ·show Kok lt n (if lt (pg p k) (pg p ((l+r) / 2))=AZ then _ else _) _;rw[if_neg (by rw[hc];decide)];refine ZQ W hp hk hu f ((l+r) / 2+1) r ⋯ hr ⋯ (λi hi=>?_) h2;by_cases e2:i=(l+r) / 2
    ·subst e2;exact hc
    ·exact W.ntr _ _ _ (hu i ((l+r) / 2) ⋯ ⋯) hc
theorem zaM{p:Array Nat}{k l:Nat}(hk:k<p.size)(hl:l<=k)(i:Nat):pg (bubble p k (k - l)) i=if i=l then pg p k else if l<i/\i<=k then pg p (i - 1)else pg p i:=by
 have e:k - (k - l)=l:=⋯;rw[VM,getElem?_bubble hk (k - l) ⋯,e];by_cases h:i=l
 ·rw[if_pos h,if_pos h];exact (VM p k).symm
 ·rw[if_neg h,if_neg h];by_cases h':l<i/\i<=k
  ·rw[if_pos h',if_pos h'];exact (VM p (i - 1)).symm
  ·rw[if_neg h',if_neg h'];exact (VM p i).symm
theorem zaT(W:Wk lt):∀(f:Nat) (p:Array Nat) (k:Nat),Rg n p->k+f=n->Up lt p k->Kok lt n (kas_bin f p k) (λp'=>Rg n p'/\Up lt p' n)
 | 0,p,k,hp,hk,hu=>by
  have:k=n:=⋯;subst this;exact#[hp,hu]
 | f+1,p,k,hp,hk,hu=>by
  have hps:=hp.size;refine Kok.bind _ ((ZQ W hp ⋯ hu k 0 k ⋯ ⋯ ⋯ (λi hi=>by lia) (λi h1 h2=>by lia)).mono (λl hl=>?_) _);obtain⟨l1,l2,l3⟩:=hl;refine zaT W f _ (k+1) (hp.bub _ _) ⋯ λi j hij hj=>?_;rw[zaM ⋯ l1,zaM ⋯ l1];by_cases h1:i=l
  ·rw[if_pos h1,if_neg ⋯,if_pos ⋯];exact l3 _ ⋯ ⋯
  ·rw[if_neg h1];by_cases h2:j=l
   ·rw[if_pos h2,if_neg ⋯];exact l2 _ ⋯
   ·rw[if_neg h2];by_cases h3:l<i/\i<=k
    ·rw[if_pos h3,if_pos ⋯];exact hu _ _ ⋯ ⋯
    ·rw[if_neg h3];by_cases h4:l<j/\j<=k
     ·rw[if_pos h4];by_cases h5:i=j - 1
      ·lia
      ·exact hu _ _ ⋯ ⋯
     ·rw[if_neg h4];exact hu _ _ ⋯ ⋯
theorem Xj(W:Wk lt)(hn:1<=n):Kok lt n (kas_sort n) (λp=>Rg n p/\Up lt p n):=by
 unfold kas_sort;refine Kok.bind _ ((J4 W (p:=bc (aK n)) (by unfold Rg;exact List.Perm.refl _) hn).mono (λr hr=>?_) _);obtain⟨r1,r2,r3,r4⟩:=hr
 (try dsimp only)
 split
 ·have:max r.1 1=r.1:=⋯;rw[this];exact zaT W _ _ _ r1 ⋯ r4
 ·have:r.1=n:=⋯;rw[this]at r4;exact#[r1,r4]
end
noncomputable def srt{α:Type}(lt:α->α->Bool)(d:α)(xs:List α):List α :=
 if xs.length<2 then xs else (JA (λi j=>lt (xs.getD i d) (xs.getD j d)) (kas_sort xs.length)).toList.map λi=>xs.getD i d
structure WkO{α:Type}(lt:α->α->Bool):Prop where
 asym:∀a b,lt a b=AZ->lt b a=Ba
 ntr:∀a b c,lt b a=Ba->lt c b=Ba->lt c a=Ba
theorem KA{α:Type}{lt:α->α->Bool}(W:WkO lt)(d:α)(xs:List α):(srt lt d xs).Perm xs/\(srt lt d xs).Pairwise λa b=>lt b a=Ba:=by
 unfold srt;split
 ·rename_i h;refine#[List.Perm.refl _,?_]
  match xs,h with
  | [],_=>exact List.Pairwise.nil
  | [a],_=>exact eS _ _
  | _::_::_,h=>exact absurd h (by simp)
 ·rename_i h;have W':Wk (λi j=>lt (xs.getD i d) (xs.getD j d)):=#[λa b=>W.asym _ _,λa b c=>W.ntr _ _ _];obtain⟨h1,h2⟩:=Kok.run _ (Xj (n:=xs.length) W' ⋯);generalize JA (λi j=>lt (xs.getD i d) (xs.getD j d)) (kas_sort xs.length)=p at h1 h2
  have e:(aK xs.length).map (λi=>xs.getD i d)=xs:=by
   refine List.ext_getElem (by simp) λi a b=>?_;have hb:i<xs.length:=by simpa using b
   simp [hb]
  refine#[(h1.map (λi=>xs.getD i d)).trans (by rw[e]),?_];rw[List.pairwise_map,List.pairwise_iff_getElem];intro i j hi hj hij;have hs:=h1.size;have hi':i<p.size:=by simpa using hi
  have hj':j<p.size:=by simpa using hj
  have q:=h2 i j hij ⋯;have ei:pg p i=p.toList[i]:=by simp [pg,fu,hi']
  have ej:pg p j=p.toList[j]:=by simp [pg,fu,hj']
  rw[ei,ej]at q;exact q
theorem Uw{lt lt':Nat->Nat->Bool}{n:Nat}{α:Type}{Q:α->Prop}(h:∀i j,i<n->j<n->lt i j=lt' i j):∀t:AV α,Kok lt n t Q->JA lt t=JA lt' t
 | .ret _,_=>rfl
 | .ask i j k,q=>by
  show JA lt (k (lt i j))=JA lt' (k (lt' i j));rw[<- h i j q.1 q.2.1];exact Uw h _ q.2.2
theorem zaw{α:Type}{lt lt':α->α->Bool}(W:WkO lt){d d':α}{xs:List α}(h:∀a ∈ xs,∀b ∈ xs,lt a b=lt' a b):srt lt d xs=srt lt' d' xs:=by
 have g:∀i,i<xs.length->∃a ∈ xs,xs.getD i d=a/\xs.getD i d'=a:=λi hi=>#[xs[i],eJ hi,by rw[aa,ah hi];rfl,by rw[aa,ah hi];rfl];unfold srt;split
 ·rfl
 ·rename_i hl;have W':Wk (λi j=>lt (xs.getD i d) (xs.getD j d)):=#[λa b=>W.asym _ _,λa b c=>W.ntr _ _ _];have ok:=Xj (n:=xs.length) W' ⋯
  have e:=Uw (lt':=λi j=>lt' (xs.getD i d') (xs.getD j d')) (λi j hi hj=>by
   obtain⟨a,ha,a1,a2⟩:=g i hi;obtain⟨b,hb,b1,b2⟩:=g j hj;show lt (xs.getD i d) (xs.getD j d)=lt' (xs.getD i d') (xs.getD j d');rw[a1,a2,b1,b2]
   exact h a ha b hb) _ ok
  rw[<- e];obtain⟨h1,_⟩:=Kok.run _ ok;refine cA λi hi=>?_;obtain⟨a,_,a1,a2⟩:=g i (Bl.mp (h1.mem_iff.mp hi));rw[a1,a2]
theorem UH{α β:Type}{lt:β->β->Bool}(f:α->β)(d:α)(xs:List α):srt lt (f d) (xs.map f)=(srt (λa b=>lt (f a) (f b)) d xs).map f:=by
 have e:∀i,(xs.map f).getD i (f d)=f (xs.getD i d):=λi=>by
  rw[aa,aa,aq];cases xs[i]? <;> rfl
 unfold srt;rw[ae];split
 ·rfl
 ·erw[e,dg]
  rfl
end L3
namespace L3
structure KeyFam(α:Type) where
 dec:α->List D
 lt:α->α->Bool
 fst:Bool
 d0:α
structure KeyFam.Ok{α:Type}(F:KeyFam α):Prop where
 w:WkO F.lt
 eq:∀a b,uw (F.dec a) (F.dec b)=F.lt a b
 ok:∀a b,kR (F.dec a) (F.dec b)
 dp:∀a,uA (F.dec a)<40
 sh:∀a,∃d r,F.dec a=d::r/\((F.fst=AZ/\∃n,d=.int n)\/(F.fst=Ba/\∃l,d=.tup l))
section
variable{X:Cx}{Bb:List (sq × sX)}{σ:L2.St}{H:Hp}{s:su}
theorem Inv.repin{b:sq}{o o':sX}{h':sI}(I:Inv X (Bb ++ [(b,o)]) σ H s)(hs:X.s₀.heap.objs.size<=b)(hn:∀p ∈ X.pn ++ Bb,p.1≠b)(sb:Heap.SameBut b s.heap h')(ho:h'.get? b=AX o')(hd:∀v,o'.data≠.cell v) :
  Inv X (Bb ++ [(b,o')]) σ H { s with heap:=h' }:=by
 have I1:Inv X Bb σ H s:=I.unpinned;obtain⟨p1,p2,p3,p4,p5⟩:=I.pin (b,o) (aC _ (aC _ (Bj.mpr rfl)))
 have I2:Inv X Bb σ H { s with heap:=h' }:=Inv.turns I1 (fp:=[b]) (t':=s.toks) (λb' u hb e=>(sb.2 b' (by simpa using hb)).trans e) λb' hb=>by
  have e:b'=b:=by simpa using hb
  subst e;refine#[p2,p3,p4,.inr hs,λx c e z=>?_,hn];obtain⟨v,o1,ho1,hd1⟩:=I.cell x c e;subst z;rw[p1]at ho1;cases ho1;exact p5 v hd1
 exact I2.pins_of λp hp=>by
  rcases Bh.mp hp with z | z
  ·exact I2.pin p (aC _ z)
  ·have e:p=(b,o'):=by simpa using z
   subst e;exact#[ho,p2,p3,p4,hd]
theorem Inv.newpin{b:sq}{o:sX}(I:Inv X Bb σ H s)(hf:wm X Bb H b)(ho:s.heap.get? b=AX o)(hd:∀v,o.data≠.cell v):Inv X (Bb ++ [(b,o)]) σ H s :=
 I.pins_of λp hp=>by
  rcases Bh.mp hp with z | z
  ·exact I.pin p (aC _ z)
  ·have e:p=(b,o):=by simpa using z
   subst e;exact#[ho,hf.1,hf.2.1,hf.2.2.1,hd]
theorem zej(I:Inv X Bb σ H s){A:sE}{b:Bool}{Q:Bool->su->Prop}(hu:A.units+50<cLine):∀(l m:List D) (xs ys:List V) (its its':List sr) (i:Nat),Iss X.K H l xs->Iss X.K H m ys->Vals xs its->Vals ys its'->kR l m->uA l<40 ->
  (b=AZ->i=0->(∃n r,l=.int n::r)/\∃n r,m=.int n::r)->Q (uw l m) s->PySem.W.KatLex X.prog X.w A b (decide (its.length<its'.length)) Q (its.zip its') i s
 | [],m,xs,ys,its,its',i,h1,h2,r1,r2,ok,hd,hb,q=>by
  erw[Iss]at h1
  subst h1;cases r1
  have e:uw [] m=decide (([]:List sr).length<its'.length):=by
   have e1:=h2.len;have e2:=r2.length;have e3:m.length=its'.length:=⋯;rw[<- e3]
   cases m with
   | nil=>simp [uw]
   | cons _ _=>simp [uw]
  rw[e]at q;rw[List.zip_nil_left];exact gb q
 | d::l,[],xs,ys,its,its',i,h1,h2,r1,r2,ok,hd,hb,q=>by
  erw[Iss]at h2
  subst h2;cases r2
  erw[uw]at q
  rw[List.zip_nil_right];exact gb (by simpa using q)
 | d::l,e::m,xs,ys,its,its',i,h1,h2,r1,r2,ok,hd,hb,q=>by
  erw[Iss]at h1 h2
  obtain⟨x,xr,rfl,hx,hxr⟩:=h1;obtain⟨y,yr,rfl,hy,hyr⟩:=h2
  cases r1 with | cons rx rxr =>
  cases r2 with | cons ry ryr =>
  erw[kR]at ok
  erw[uA]at hd
  rename_i u us v vs;rw[dh];refine PySem.W.kat_cons (jo I 45 A d e x y u v ⋯ ⋯ hx hy rx ry X.prog X.w _ _ ?_)
  cases he:eqD d e with
  | true =>
   refine PySem.W.kat_yes ?_;have:=zej I (b:=b) hu l m xr yr us vs (i+1) hxr hyr rxr ryr ok.2 ⋯ (λ_ z=>absurd z ⋯) (by simpa only[uw,he,if_true] using q);simpa using this
  | false =>
   refine PySem.W.kat_no ?_;have q':Q (ltD d e) s:=by simpa only[uw,he,bD,if_false] using q
   by_cases hbi:(b && i == 0)=AZ
   ·rw[hbi]
    erw[bX,beq_iff_eq]at hbi
    obtain⟨⟨n,r,e1⟩,n',r',e2⟩:=hb hbi.1 hbi.2;cases e1;cases e2
    erw[Is]at hx hy
    subst hx hy;obtain⟨t,rfl⟩:=rx;obtain⟨t',rfl⟩:=ry
    erw[ltD]at q'
    exact oneLt_int q'
   ·rw[show (b && i == 0)=Ba by simpa using hbi];exact PySem.W.kat_one _ _ (zac I 45 A d e x y u v ⋯ ⋯ ok.1 hx hy rx ry X.prog X.w _ _ q')
theorem za5(I:Inv X Bb σ H s){A:sE}{b:Bool}{Q:Bool->su->Prop}{E:sr->su->Prop}(hu:A.units+50<cLine){l m:List D}{x y:V}{u v:sr}(hx:Is X.K H (.tup l) x)(hy:Is X.K H (.tup m) y)(rx:RelV x u)(ry:RelV y v)
  (ok:kR l m) (hd:uA l<40) (hb:b=AZ->(∃n r,l=.int n::r)/\∃n r,m=.int n::r) (q:Q (uw l m) s):sw (model X.prog X.w) A (keyLt' (tuples' b) u v) Q E s:=by
 erw[Is]at hx hy
 obtain⟨a,xs,rfl,h1,h2⟩:=hx;obtain⟨c,ys,rfl,g1,g2⟩:=hy;cases rx;cases ry;obtain⟨its,r,⟨o,ho,hoc,n,hod⟩,_⟩:=I.tuple h1;obtain⟨its',r',⟨o',ho',hoc',n',hod'⟩,_⟩:=I.tuple g1;refine PySem.W.kat_lt ho hod ho' hod' ?_;have:=zej I (A:=A) (b:=b) (Q:=Q) hu l m xs ys its its' 0 h2 g2 r r' ok hd (λz _=>hb z) q;simpa using this
theorem zaY{α:Type}{F:KeyFam α}(FO:F.Ok)(I:Inv X Bb σ H s){M:AH}:∀(rs:List α) (Bd:List V) (ks:List sr),Iss X.K H (rs.map λa=>.tup (F.dec a)) Bd->Vals Bd ks ->
  ∃fs,PySem.W.KatTups s.heap ks fs/\fs.length=rs.length/\∀v ∈ fs,PySem.W.Looks M s.heap (typeOf v) (.type (if F.fst=AZ then "int" else "tuple"))
 | [],Bd,ks,h,r=>by
  erw[aL,Iss]at h
  subst h;cases r;exact#[[],PySem.W.KatTups.nil,rfl,λv hv=>by cases hv]
 | a::rs,Bd,ks,h,r=>by
  erw[au,Iss]at h
  obtain⟨x,xr,rfl,hx,hxr⟩:=h
  cases r with | cons rx rxr =>
  rename_i u us;obtain⟨fs,t1,t2,t3⟩:=zaY FO I (M:=M) rs xr us hxr rxr
  erw[Is]at hx
  obtain⟨c,xs,rfl,h1,h2⟩:=hx;cases rx;obtain⟨its,ri,⟨o,ho,hoc,n,hod⟩,_⟩:=I.tuple h1;obtain⟨d,dr,ed,hsh⟩:=FO.sh a;rw[ed]at h2
  erw[Iss]at h2
  obtain⟨y,yr,rfl,hy,_⟩:=h2
  cases ri with | cons ry rir =>
  rename_i v vs;refine#[v::fs,PySem.W.KatTups.cons ho hoc hod (by simp) t1,by simp [t2],λz hz=>?_];rcases Bg.mp hz with e | hz
  ·subst e;rcases hsh with ⟨hf,n',rfl⟩ | ⟨hf,l,rfl⟩
   ·rw[if_pos hf]
    erw[Is]at hy
    subst hy;obtain⟨t,rfl⟩:=ry;exact PySem.W.Looks.of_pure rfl
   ·rw[if_neg (by rw[hf];decide)]
    erw[Is]at hy
    obtain⟨c',xs',rfl,g1,_⟩:=hy;cases ry;obtain⟨its',ri',⟨o',ho',hoc',n',hod'⟩,_⟩:=I.tuple g1;rw[<- hoc'];exact (PySem.W.Looks.ld ho').andThen .now
  ·exact t3 z hz
end
def Ve{α:Type}(K:so)(F:KeyFam α)(xs:List V)(Q:VK):List V->Hp->Prop:=λBd H'=>∃rs:List α,Iss K H' (rs.map λa=>.tup (F.dec a)) Bd /\
 ∀ys:List (α × V),ys=srt (λp q=>F.lt p.1 q.1) (F.d0,.non) (rs.zip xs)->∀D,H' D=AY->Q (.ref D) (upd H' D (.lst (ys.map (·.2))))
section
variable{X:Cx}{Bb:List (sq × sX)}{σ:L2.St}{H:Hp}{s:su}
theorem Inv.fp_of_pin{b:sq}{o:sX}(I:Inv X (Bb ++ [(b,o)]) σ H s)(hs:X.s₀.heap.objs.size<=b)(hn:∀p ∈ X.pn ++ Bb,p.1≠b):wm X Bb H b:=by
 obtain⟨p1,p2,p3,p4,p5⟩:=I.pin (b,o) (aC _ (aC _ (Bj.mpr rfl)));refine#[p2,p3,p4,.inr hs,λx c e z=>?_,hn];obtain⟨v,o1,ho1,hd1⟩:=I.cell x c e;subst z;rw[p1]at ho1;cases ho1;exact p5 v hd1
theorem Inv.at_pin{b:sq}{o:sX}(I:Inv X (Bb ++ [(b,o)]) σ H s):s.heap.get? b=AX o:=(I.pin (b,o) (aC _ (aC _ (Bj.mpr rfl)))).1
theorem xX{c:String}{xs:Array sr}{n:Nat}:∀v,(sS c xs n).data≠.cell v:=λv z=>by cases z
theorem zaZ{D kS:sq}{e e1:Nat}{st:SortSt}{ks out:List sr}{A:sE}{E:sr->su->Prop}{P:PySem.Fin->su->Prop}(I:Inv X ((Bb ++ [(D,sS "list" #[] e1)]) ++ [(kS,sS "list" (bc ks) e)]) σ H s)
  (hD:X.s₀.heap.objs.size<=D) (hK:X.s₀.heap.objs.size<=kS) (nD:∀p ∈ X.pn ++ Bb,p.1≠D) (nK:∀p ∈ X.pn ++ (Bb ++ [(D,sS "list" #[] e1)]),p.1≠kS) (hkz:ks.length<64)
  (hout:(arrOf st).map (·.2)=bc out) (hoz:out.length<64) (hf:failedOf st=AY) (h:∀s' c,Inv X (Bb ++ [(D,sS "list" (bc out) c)]) σ H s'->P (.done (.ret .none)) s') :
  sw (model X.prog X.w) A (ksk_tail D Ba e1 (.ref kS) st) P E s:=by
 have pk:=Inv.at_pin I;have s1:=Heap.SameBut.update s.heap kS (Obj.mapSeq λ_=>(#[]:Array sr));obtain⟨ck,hck⟩:∃ck,(s.heap.update kS (Obj.mapSeq λ_=>(#[]:Array sr))).get? kS=AX (sS "list" #[] ck):=#[_,get?_update_seq pk λ_=>#[]];have I2:=(Inv.repin I hK nK s1 hck xX).unpinned;have pd:=Inv.at_pin I2;have s2:=Heap.SameBut.update (s.heap.update kS (Obj.mapSeq λ_=>(#[]:Array sr))) D (Obj.mapSeq λ_=>bc out);obtain⟨c2,hc2⟩:∃c2,((s.heap.update kS (Obj.mapSeq λ_=>(#[]:Array sr))).update D (Obj.mapSeq λ_=>bc out)).get? D=AX (sS "list" (bc out) c2):=#[_,get?_update_seq pd λ_=>bc out];have I3:=Inv.repin I2 hD nD s2 hc2 xX;unfold ksk_tail
 (try dsimp only)
 rw[hout];refine rZ (listUpdate_at pk rfl ?_ (by rw[ak,sV];lia) (aD _));refine rZ (tQ ?_);refine rZ (seqEpoch_at pd rfl ?_);refine rZ (listUpdate_at pd rfl ?_ (aD _) (by erw[bD,if_false];rw[ak,sV];lia));rw[hf]
 erw[bne_self_eq_false,bD,if_false]
 exact sf (h _ c2 I3)
theorem zfR{α:Type}{F:KeyFam α}(FO:F.Ok){D kS:sq}{e e1:Nat}{ks its:List sr}{Bd xs:List V}{rs:List α}{A:sE}{E:sr->su->Prop}{P:PySem.Fin->su->Prop}(hu:A.units+50<cLine)
  (I:Inv X ((Bb ++ [(D,sS "list" #[] e1)]) ++ [(kS,sS "list" (bc ks) e)]) σ H s)
  (hD:X.s₀.heap.objs.size<=D) (hK:X.s₀.heap.objs.size<=kS) (nD:∀p ∈ X.pn ++ Bb,p.1≠D) (nK:∀p ∈ X.pn ++ (Bb ++ [(D,sS "list" #[] e1)]),p.1≠kS)
  (rk:Vals Bd ks) (rv:Vals xs its) (hl:ks.length=its.length) (hz:its.length<64) (hR:Iss X.K H (rs.map λa=>.tup (F.dec a)) Bd)
  (h:∀s' (ys:List (α × V)) (out:List sr) c,ys=srt (λp q=>F.lt p.1 q.1) (F.d0,.non) (rs.zip xs)->Vals (ys.map (·.2)) out->out.length<64->Inv X (Bb ++ [(D,sS "list" (bc out) c)]) σ H s'->P (.done (.ret .none)) s') :
  sw (model X.prog X.w) A (ksk_end D Ba its.toArray e1 (.ref kS) (bc ks)) P E s:=by
 have L1:=hR.len;have L2:=rk.length;have L3:=rv.length;rw[ae]at L1;have lz:(rs.zip xs).length=its.length:=by rw[List.length_zip];lia
 unfold ksk_end
 erw[bD,if_false]
 by_cases h2:its.toArray.size<2
 ·rw[if_pos h2,if_pos h2];refine rZ (sf ?_);rw[StateT.run_pure];refine rZ (sf ?_)
  (try dsimp only)
  refine zaZ (out:=its) I hD hK nD nK ⋯ ?_ hz rfl λs' c I'=>h s' (rs.zip xs) its c ?_ ?_ hz I'
  ·show ((bc ks).zip its.toArray).map (·.2)=_;apply Array.toList_inj.mp;rw[Array.toList_map,ksk_zip];exact List.map_snd_zip (by simp;lia)
  ·rw[ak]at h2;unfold srt;rw[if_pos ⋯]
  ·rw[List.map_snd_zip ⋯];exact rv
 ·rw[if_neg h2,if_neg h2];rw[ak]at h2;obtain⟨fs,t1,t2,t3⟩:=zaY FO I (M:=model X.prog X.w) rs Bd ks hR rk;refine rZ (PySem.W.kat_kind t1 ⋯ t3 (by simp) ?_)
  have hfst:((Value.type (if F.fst=AZ then "int" else "tuple"):sr) != Value.type "tuple")=F.fst:=by
   cases hF:F.fst with
   | true=>rfl
   | false=>rfl
  rw[hfst];have W:Wk (λi j=>F.lt (rs.getD i F.d0) (rs.getD j F.d0)):=#[λa b=>FO.w.asym _ _,λa b c=>FO.w.ntr _ _ _];have ok:=Xj (n:=its.length) W ⋯
  have lt_eq:(λi j=>F.lt (rs.getD i F.d0) (rs.getD j F.d0))=(λi j=>(λ(p q:α × V)=>F.lt p.1 q.1) ((rs.zip xs).getD i (F.d0,.non)) ((rs.zip xs).getD j (F.d0,.non))):=by
   have one:∀i,((rs.zip xs).getD i (F.d0,V.non)).1=rs.getD i F.d0:=λi=>by
    by_cases hi:i<its.length
    ·have a1:i<rs.length:=⋯;have a2:i<xs.length:=⋯;rw[aa,aa,ah ⋯,ah a1];simp
    ·rw[aa,aa,bf ⋯,bf ⋯];rfl
   funext i j
   erw[one]
  have wp:=Kok.wp (n:=its.length) (cmp:=gc X.prog X.w A (tuples' F.fst) ks) (I:=λs'=>Inv X ((Bb ++ [(D,sS "list" #[] e1)]) ++ [(kS,sS "list" (bc ks) e)]) σ H s')
   (R:=λp s'=>p=JA (λi j=>F.lt (rs.getD i F.d0) (rs.getD j F.d0)) (PySem.W.kas_sort its.length)/\Inv X ((Bb ++ [(D,sS "list" #[] e1)]) ++ [(kS,sS "list" (bc ks) e)]) σ H s')
   (λi j C s' hi hj I' hC=>?_) (λp s' hp I'=>#[hp,I']) _ s I (Kok.same _ ok)
  ·have run:=PySem.W.kat_run (E:=E) (vs:=its) (ks:=ks) (Q:=λst' s'=>∃p:Array Nat,p.size=its.length/\arrOf st'=p.map (PySem.W.kas_item (ks.toArray.zip its.toArray))/\failedOf st'=AY/\_) hl ⋯ hz (λp' st' s' a1 a2 a3 a4=>#[p',a1,a2,a3,a4]) wp;refine rZ (tJ run ?_ λ_ _ e=>e);rintro⟨⟨⟩,st'⟩ s' ⟨p,hp,har,hf,hpk,I'⟩
   (try dsimp only)
   have hout:=PySem.W.kat_snds (ks:=ks) (vs:=its) hl har;have hR1:Rg its.length p:=by rw[hpk];exact (Kok.run _ ok).1
   have g1:(p.toList.map λi=>(rs.zip xs).getD i (F.d0,.non))=srt (λp q=>F.lt p.1 q.1) (F.d0,.non) (rs.zip xs):=by
    unfold srt;rw[if_neg ⋯,lz,<- lt_eq,<- hpk]
   have olen:(p.toList.map λi=>its.getD i Value.none).length=its.length:=by rw[ae,dP,hp]
   refine zaZ (out:=p.toList.map λi=>its.getD i Value.none) I' hD hK nD nK ⋯ hout ⋯ hf λs2 c I2=>h s2 _ _ c g1 ?_ ⋯ I2;rw[dg]
   have all:∀(js:()),(∀j ∈ js,j<its.length)->Vals (js.map ((λx:α × V=>x.2) ∘ λi=>(rs.zip xs).getD i (F.d0,.non))) (js.map λi=>its.getD i Value.none):=by
    intro js
    induction js with
    | nil=>intro _;exact .nil
    | cons j js ih =>
     intro hj;refine .cons ?_ (ih λi hi=>hj i (am _ hi));have hjl:=hj j ax;have a1:j<xs.length:=⋯;obtain⟨u,hu1,ru⟩:=xQ rv (j:=j) (x:=xs[j]) (ah a1)
     have e1:((rs.zip xs).getD j (F.d0,V.non)).2=xs[j]:=by
      rw[aa,ah ⋯];simp
     have e2:its.getD j Value.none=u:=by rw[aa,hu1];rfl
     show RelV ((rs.zip xs).getD j (F.d0,V.non)).2 (its.getD j Value.none);rw[e1,e2];exact ru
   exact all p.toList λj hj=>Bl.mp (hR1.mem_iff.mp hj)
  ·have a1:i<rs.length:=⋯;have a2:j<rs.length:=⋯;have gi:(rs.map λa=>_root_.L3.D.tup (F.dec a))[i]? = AX (.tup (F.dec rs[i])):=by rw[aq,ah a1];rfl
   have gj:(rs.map λa=>_root_.L3.D.tup (F.dec a))[j]? = AX (.tup (F.dec rs[j])):=by rw[aq,ah a2];rfl
   obtain⟨x,hx,ix⟩:=hR.at gi;obtain⟨y,hy,iy⟩:=hR.at gj;obtain⟨u,hu1,ru⟩:=xQ rk hx;obtain⟨v,hv1,rv1⟩:=xQ rk hy;have e1:ks.getD i Value.none=u:=by rw[aa,hu1];rfl
   have e2:ks.getD j Value.none=v:=by rw[aa,hv1];rfl
   have e3:rs.getD i F.d0=rs[i]:=by rw[aa,ah a1];rfl
   have e4:rs.getD j F.d0=rs[j]:=by rw[aa,ah a2];rfl
   unfold gc;rw[e1,e2];refine za5 I' hu ix iy ru rv1 (FO.ok _ _) (FO.dp _) (λhb=>?_) ?_
   ·obtain⟨d,r,ed,hd⟩:=FO.sh rs[i];obtain⟨d',r',ed',hd'⟩:=FO.sh rs[j];rcases hd with ⟨_,n,rfl⟩ | ⟨z,_⟩
    ·rcases hd' with ⟨_,n',rfl⟩ | ⟨z,_⟩
     ·exact#[#[n,r,ed],n',r',ed']
     ·rw[hb]at z;cases z
    ·rw[hb]at z;cases z
   ·rw[FO.eq,<- e3,<- e4];exact hC s' I'
end
def qh(kc:V->Hp->VK->Prop):List V->List V->Hp->(List V->Hp->Prop)->Prop
 | [],Bd,H,Q=>Q Bd H
 | x::xs,Bd,H,Q=>kc x H (λk H'=>qh kc xs (Bd ++ [k]) H' Q)
section
variable{X:Cx}{Bb:List (sq × sX)}{σ:L2.St}{H:Hp}{s:su}
theorem zbC{α:Type}{F:KeyFam α}(FO:F.Ok){k:Nat}{q:sq}{kc:V->Hp->VK->Prop}(hr:Room (k+2) X.A)
  (hkc:∀(pins':List (sq × sX)) (s:su) (H:Hp) (x:V) (u:sr) (Q:VK),Inv X pins' σ H s->RelV x u->kc x H Q->sw (model X.prog X.w) X.A.in1.in1 (call (.ref q) [u]) (EP X pins' σ Q) (λ_ _=>False) s)
  {D kS:sq} {e1:Nat} {its:List sr} {xs:List V} {E:sr->su->Prop} {P:PySem.Fin->su->Prop} {Q:VK}
  (I:Inv X ((Bb ++ [(D,sS "list" #[] e1)]) ++ [(kS,sS "list" #[] 0)]) σ H s)
  (hD:X.s₀.heap.objs.size<=D) (hK:X.s₀.heap.objs.size<=kS) (nD:∀p ∈ X.pn ++ Bb,p.1≠D) (nK:∀p ∈ X.pn ++ (Bb ++ [(D,sS "list" #[] e1)]),p.1≠kS)
  (rv:Vals xs its) (hz:its.length<64)
  (ht:qh kc xs [] H (Ve X.K F xs Q))
  (hP:∀s',EP X Bb σ Q (.ref D) s'->P (.done (.ret .none)) s') :
  sw (model X.prog X.w) X.A.in1.in1 (ksk_rest D (.ref q) Ba its.toArray e1 (.ref kS)) P E s:=by
 unfold ksk_rest;refine rZ (Ag ?_);rw[List.forIn_toArray]
 refine rZ (ksk_fold (λj s'=>∃Bd ks e H',Inv X ((Bb ++ [(D,sS "list" #[] e1)]) ++ [(kS,sS "list" (bc ks) e)]) σ H' s'/\Vals Bd ks/\ks.length=j/\qh kc (xs.drop j) Bd H' (Ve X.K F xs Q))
  its 0 s #[[],[],0,H,I,.nil,rfl,ht] (λj x s1 hx hJ=>?_) λs1 hJ=>?_)
 ·obtain⟨Bd,ks,e,H1,I1,rk,hkl,tk⟩:=hJ;rw[dI]at hkl tk;have hjl:j<its.length:=(Be.mp hx).1;have L3:=rv.length;obtain⟨u,hu,ru⟩:=xQ rv (j:=j) (x:=xs[j]) (ah ⋯);rw[hx]at hu;cases hu;rw[aS ⋯]at tk;refine rZ (tW (tJ (hkc _ _ _ _ _ _ I1 ru tk) (λkv s2 hk=>?_) λ_ _ z=>z.elim));obtain⟨v,H2,I2,rv2,tk2⟩:=hk;have pk:=Inv.at_pin I2;have sb:=Heap.SameBut.update s2.heap kS (Obj.mapSeq (·.push kv));have ea:(bc ks).push kv=bc (ks ++ [kv]):=by simp
  obtain⟨c2,hc2⟩:∃c2,(s2.heap.update kS (Obj.mapSeq (·.push kv))).get? kS=AX (sS "list" (bc (ks ++ [kv])) c2):=#[_,by rw[<- ea];exact get?_update_seq pk (·.push kv)];have I3:=Inv.repin I2 hK nK sb hc2 xX
  (try dsimp only)
  refine rZ (listUpdate_at pk rfl ?_ (by rw[ak,sV];lia) (by rw[Array.size_push,ak,sV];lia));refine sf #[rfl,Bd ++ [v],ks ++ [kv],c2,H2,I3,rk.append (.cons rv2 .nil),by rw[aj,dB,hkl];lia,?_];rw[dI];exact tk2
 ·obtain⟨Bd,ks,e,H1,I1,rk,hkl,tk⟩:=hJ;rw[dI]at hkl tk;have L3:=rv.length;rw[<- L3,eG]at tk;obtain⟨rs,hR,hq⟩:=tk
  (try dsimp only)
  refine rZ (listItems_at (Inv.at_pin I1) rfl ?_);refine zfR FO (by have:=hr.in1.in1.un;lia) I1 hD hK nD nK rk rv hkl hz hR λs' ys out c p1 p3 p4 I'=>hP s' ?_;have fp:=Inv.fp_of_pin I' hD nD;refine#[.ref D,_,Inv.track I'.unpinned (a:=D) (o:=.lst (ys.map (·.2))) fp #[?_,out,c,p3,Inv.at_pin I'],rfl,hq ys p1 D fp.1];rw[p3.length,sV];lia
theorem Ja{α:Type}{F:KeyFam α}(FO:F.Ok){k:Nat}{q l:sq}{xs:List V}{kc:V->Hp->VK->Prop}{Q:VK}(hr:Room (k+2) X.A)
  (hkc:∀(pins':List (sq × sX)) (s:su) (H:Hp) (x:V) (u:sr) (Q:VK),Inv X pins' σ H s->RelV x u->kc x H Q->sw (model X.prog X.w) X.A.in1.in1 (call (.ref q) [u]) (EP X pins' σ Q) (λ_ _=>False) s)
  (I:Inv X Bb σ H s) (hS:SqL X.K H l xs) (hz:xs.length<64) (ht:qh kc xs [] H (Ve X.K F xs Q)) :
  sw (model X.prog X.w) X.A (call (.builtin "sorted") [.ref l] [(bG "key",.ref q)]) (EP X Bb σ Q) X.xe s:=by
 obtain⟨its,rv,pl,_⟩:=I.list hS;have hlen:=rv.length;refine call_function_entry_kw kind_sorted plain_sorted entry_sorted (ksk_s1 _ _) ?_;unfold Builtin.«sorted»;refine rZ (m:=checkCount "sorted" 1 1 _) (sf ?_);refine rZ (collect_list pl.isList ?_ (by rw[sV];lia));refine rZ (Ax ?_ (by rw[sV];lia));generalize hh1:((s.heap.push (sS "list" #[] 0)).update s⁻¹ (Obj.mapSeq (· ++ its.toArray)))=h1;have sz1:h1.objs.size=s⁻¹+1:=by rw[<- hh1,dw,size_push']
 have kp1:∀b o,s.heap.get? b=AX o->h1.get? b=AX o:=λb o e=>by
  have hlt:b<s⁻¹:=ao e;rw[<- hh1,Heap.get?_update_ne _ _ _ _ (aA hlt),Heap.get?_push_ne _ _ _ (aA hlt)];exact e
 have hoL:(h1.push (sS "list" its.toArray 0)).get? h1.objs.size=AX (sS "list" its.toArray 0):=aB _ rfl;show sw _ _ _ _ _ { s with heap:=h1.push (sS "list" its.toArray 0) };refine rZ (sY (wpAny_call_entry_kw slot_list_sort #[_,hoL,rfl] entry_list_sort ?body (ksk_l1 _ _)));show sw _ _ (Builtin.«list.sort» #[[.ref h1.objs.size],[(bG "key",.ref q)]]) _ _ _;rw[ksk_t1];generalize hh2:h1.push (sS "list" its.toArray 0)=h2 at hoL;have sz2:h2.objs.size=h1.objs.size+1:=by rw[<- hh2,size_push']
 have kp2:∀b o,s.heap.get? b=AX o->h2.get? b=AX o:=λb o e=>by rw[<- hh2];exact ac _ (kp1 b o e)
 generalize hDD:h1.objs.size=D at hoL;obtain⟨e1,ho1⟩:∃e1,(h2.update D (Obj.mapSeq λ_=>(#[]:Array sr))).get? D=AX (sS "list" #[] e1):=#[_,get?_update_seq hoL λ_=>#[]];have hDs:s⁻¹<=D:=by rw[<- hDD,sz1];exact cM _
 have sb:=Heap.SameBut.update h2 D (Obj.mapSeq λ_=>(#[]:Array sr));unfold ksk_tree;refine rZ (listItems_at hoL rfl ?_);refine rZ (listUpdate_at hoL rfl ?_ (by rw[ak,sV];lia) (aD _));refine rZ (seqEpoch_at ho1 rfl ?_);refine rZ (wpAny_newTuple ?_ (by show its.length<=_;rw[sV];lia));refine rZ (Ax ?_ (aD _));refine sY ?_;generalize hh3:(h2.update D (Obj.mapSeq λ_=>(#[]:Array sr))).push (sS "tuple" its.toArray 0)=h3;have sz3:h3.objs.size=s⁻¹+3:=by rw[<- hh3,size_push',dw,sz2,sz1]
 have hoK:(h3.push (sS "list" #[] 0)).get? h3.objs.size=AX (sS "list" #[] 0):=aB _ rfl;have hoD:(h3.push (sS "list" #[] 0)).get? D=AX (sS "list" #[] e1):=ac _ (by rw[<- hh3];exact ac _ ho1)
 have kp3:∀b o,s.heap.get? b=AX o->(h3.push (sS "list" #[] 0)).get? b=AX o:=λb o e=>by
  have hlt:b<s⁻¹:=ao e;refine ac _ ?_;rw[<- hh3];exact ac _ ((sb.2 b (aA (aw hlt hDs))).trans (kp2 b o e))
 have I1:Inv X Bb σ H { s with heap:=h3.push (sS "list" #[] 0) }:=I.kept (t':=s.toks) kp3;have fD:wm X Bb H D:=I.fpOk ⋯ (I.hok.fresh ⋯);have fK:wm X Bb H h3.objs.size:=I.fpOk ⋯ (I.hok.fresh ⋯);have I2:=Inv.newpin I1 fD hoD xX
 have nK:∀p ∈ X.pn ++ (Bb ++ [(D,sS "list" #[] e1)]),p.1≠h3.objs.size:=λp hp=>by
  rcases Bh.mp hp with z | z
  ·exact fK.2.2.2.2.2 p (bn _ z)
  ·rcases Bh.mp z with z | z
   ·exact fK.2.2.2.2.2 p (aC _ z)
   ·have e:p=(D,sS "list" #[] e1):=by simpa using z
    subst e;show D≠_;lia
 have I3:=Inv.newpin I2 (b:=h3.objs.size) #[fK.1,fK.2.1,fK.2.2.1,fK.2.2.2.1,fK.2.2.2.2.1,nK] hoK xX;have hsz:=I.sz;have hK0:X.s₀.heap.objs.size<=h3.objs.size:=⋯;exact zbC FO hr hkc I3 ⋯ hK0 fD.2.2.2.2.2 nK rv ⋯ ht λs' hE=>#[_,rfl,sf #[_,rfl,hE]]
end
noncomputable def QD(X:Cx)(N:List sB)(s:su)(H:Hp)(qual:sB)(scope:tw)(f:sq)(cd:sr)(cl:List (sB × sq)):Cx where
 prog:=X.prog
 w:=X.w
 K:=X.K
 mg:=X.mg
 base:=X.base
 A:=X.A.in1.in1.deeper (eK qual scope s⁻¹ f cd cl)
 N:=N
 s₀:=s
 H₀:=H
 env:=eK qual scope s⁻¹ f cd cl
 outer:=X.stack
 stack:=eK qual scope s⁻¹ f cd cl::X.stack
 ex:=[]
 calm:=AZ
 fn:=λ_=>Ba
 pn:=[]
 xe:=λ_ _=>False
structure zcF(p y:sB)(scope:tw):Prop where
 kind:scope.kind=.function
 co:scope.isCoroutine=Ba
 gen:scope.isGenerator=Ba
 nocell:∀z ∈ scope.names,z.2≠.cell
 par:scope.names.lookup p=AX .local
 fre:scope.names.lookup y=AX .free
 one:∀q ∈ scope.names,q.2=.free->q.1=y
 ne:p≠y
section
variable{X:Cx}{Bb:List (sq × sX)}{σ:L2.St}{H:Hp}{s:su}{p y name qual:sB}{scope:tw}{params:tR}{body:sF}{f c' c:sq}{pm ctv cv:sr}{k iy:Nat}{vy x:V}{u:sr}{Q:VK}{t:TE}
theorem zcu(S:zcF p y scope)(hd:X.A.in1.in1.handled=AY)(I:Inv X Bb σ H s)(hy:X.N[iy]? = AX y)(hσ:σ[iy]? = AX (AX vy))(hvis:X.env.scope.names.lookup y=AX .cell)(hc:X.env.cells.lookup y=AX c)(rx:RelV x u){h₁:sI}{tk:Nat}
  (hns:h₁.Ns s⁻¹ (λz=>[(p,u)].reverse.lookup z)) (hk₁:∀b o,s.heap.get? b=AX o->h₁.get? b=AX o) :
  Inv (QD X [p,y] s H qual scope f cv [(y,c)]) [] [AX x,AX vy] H { s with heap:=h₁,toks:=tk }:=by
 obtain⟨m,hn,hl⟩:=I.loc;obtain⟨uy,ry,lk⟩:=hl iy y vy hy hσ (.inr (.inl hvis))
 have hcell:s.heap.IsCell c (AX uy):=by
  rcases lk with ⟨z,_⟩ | ⟨_,c2,e2,z⟩
  ·have z':X.env.scope.names.lookup y=AX .local:=z;rw[hvis]at z';cases z'
  ·rw[hc]at e2;cases e2;exact z
 have hcell':h₁.IsCell c (AX uy):=by
  obtain⟨o,e,d⟩:=hcell;exact#[o,hk₁ _ _ e,d]
 have e0:=I.env0;have noA:∀b:sq,b ∉ (QD X [p,y] s H qual scope f cv [(y,c)]).ex:=λb z=>absurd (show b ∈ ([]:List sq)from z) (by simp)
 have lkc:∀z d,bg z [(y,c)]=AX d->z=y/\d=c:=λz d h=>by
  rw[aX]at h;by_cases hz:(z == y)=AZ
  ·rw[hz]at h;cases h;exact#[by simpa using hz,rfl]
  ·rw[show (z == y)=Ba by simpa using hz]at h;cases h
 have lky:bg y [(y,c)]=AX c:=by rw[aX];simp
 refine#[#[e0.mod,S.kind,rfl,rfl,al _,λz z' d h1 h2=>?_,λz hz=>?_,λz d h _=>?_,λ_=>hd,Around.frames_deeper e0.frames,.inr #[rfl,rfl],λb z=>absurd z (noA b),e0.bs,e0.bsz,λb _ _=>noA b,λb z=>absurd z (noA b),e0.funs,e0.frf],
  rfl,e0.bare,Un.kept hk₁,#[_,hns,λi z v h1 h2 h3=>?_],λz d h=>?_,e0.hok.fresh (al _),λz d h=>?_,λq hq=>absurd (show q ∈ ([]:List (sq × sX))from hq) (by simp),e0.hok.kept hk₁,rfl]
 ·rw[(lkc _ _ h1).1,(lkc _ _ h2).1]
 ·have hz':scope.names.lookup z=AX .cell\/scope.names.lookup z=AX .free:=hz;rcases hz' with hz' | hz'
  ·exact absurd rfl (S.nocell _ (bV hz'))
  ·rw[show z=y from S.one _ (bV hz') rfl];exact#[c,lky]
 ·exact absurd (show (Ba:Bool)=AZ from h) ∅
 ·match i,h1,h2 with
  | 0,h1,h2 =>
   cases h1;cases h2;refine#[u,rx,.inl #[S.par,?_]];show bg p [(p,u)].reverse=AX u;simp [bg]
  | 1,h1,h2 =>
   cases h1;cases h2;exact#[uy,ry,.inr #[.inr S.fre,c,lky,hcell']]
  | i+2,h1,h2=>simp at h2
 ·obtain⟨_,rfl⟩:=lkc z d h;exact#[_,hcell']
 ·obtain⟨_,rfl⟩:=lkc z d h;exact I.freeC y _ hc
theorem Kl(S:zcF p y scope)(hr:Room (k+3) X.A)(hbind:bindArgs (ci name qual params body scope [(y,c)] pm cv ctv) #[[u],[]]=pure [(p,u)])(I:Inv X Bb σ H s)
  (ho:s.heap.get? f=AX { cls:=.type "function",data:=.func (ci name qual params body scope [(y,c)] pm cv ctv) }) (hcd:s.heap.CodeRec cv qual) (hy:X.N[iy]? = AX y) (hσ:σ[iy]? = AX (AX vy)) (hvis:X.env.scope.names.lookup y=AX .cell) (hc:X.env.cells.lookup y=AX c)
  (rx:RelV x u) (hb:PE (QD X [p,y] s H qual scope f cv [(y,c)]) body t) (h:t [AX x,AX vy] H Q) :
  sw (model X.prog X.w) X.A.in1.in1 (call (.ref f) [u]) (EP X Bb σ Q) (λ_ _=>False) s:=by
 have hr2:Room (k+1) X.A.in1.in1:=hr.in1.in1;refine tK (PySem.W.kla_callFunE hr2.depth ho rfl S.co S.gen rfl hcd ?_);rw[hbind];refine sf (Ao S.nocell (λz hz=>?_) (λh₁ hns hsb=>?_) S.kind)
 ·have e:z=(p,u):=by simpa using hz
  subst e;exact S.par
 have hk₁:∀b o,s.heap.get? b=AX o->h₁.get? b=AX o:=λb o e=>hsb.extBut b o (aA (ao e)) (ac _ e);refine#[I.nolimit.keeps hk₁,?_];have I1:=zcu (qual:=qual) (f:=f) (cv:=cv) (tk:=s.toks+1) S hr2.hd I hy hσ hvis hc rx hns hk₁;show tN _ _ (.expr body (eK qual scope s⁻¹ f cv [(y,c)])) _ _;refine PySem.W.kla_codeExpr (tJ (hb [] _ _ H Q I1 h) (λv s' hv=>?_) λ_ _ z=>False.elim z);obtain⟨w',H',J,rw',q⟩:=hv;exact I.after #[w',H',J.os,J.bare,J.base,J.hok,rw',q]
end
noncomputable def cdE(c':sq)(q:sB):HO:=.ext λh=>h.CodeRec (.ref c') q
noncomputable def fnE(f:sq)(o:sX):HO:=.ext λh=>h.get? f=AX o
def TabOk(H:Hp)(P:sq)(pos:tG)(q:sB):Prop :=
 ∃ps:Array sr,H P=AX (.tbl ps)/\AT ps.toList/\(codeAmong pos ps.toList=AY\/∃c',codeAmong pos ps.toList=AX (.ref c')/\H c'=AX (cdE c' q))
def SamT(P:sq)(H H':Hp):Prop:=∀b o,b≠P->H b=AX o->H' b=AX o
def LamAt(H:Hp)(f:sq)(name qual:sB)(params:tR)(body:sF)(scope:tw)(cl:List (sB × sq)):Prop :=
 ∃(c':sq) (pm ctv:sr),H c'=AX (cdE c' qual)/\H f=AX (fnE f { cls:=.type "function",data:=.func (ci name qual params body scope cl pm (.ref c') ctv) })
theorem zdr{P:sy}{w:sC}{H:Hp}{h:sI}{c':sq}{q:sB}(x:h.CodeRec (.ref c') q):ObjOk P w H h c' (cdE c' q):=by
 refine#[x,?_,λh1 h2 a k=>?_]
 ·obtain⟨c,o,vs,t,e,g,_⟩:=x;cases e;exact#[o,g]
 ·obtain⟨c,o,vs,t,e,g,r⟩:=a;cases e;exact#[_,o,vs,t,rfl,k o g,r]
theorem zaP{P:sy}{w:sC}{H:Hp}{h:sI}{f:sq}{o:sX}(x:h.get? f=AX o):ObjOk P w H h f (fnE f o) :=
 #[x,#[o,x],λh1 h2 a k=>k o a]
section
variable{X:Cx}{Bb:List (sq × sX)}{σ:L2.St}{H:Hp}{s:su}
theorem Inv.grow{P c' f:sq}{ps more:Array sr}{o:sX}{q:sB}{h':sI}{tk:Nat}(I:Inv X Bb σ H s)(hP:H P=AX (.tbl ps))(hk:∀b u,b≠P->s.heap.get? b=AX u->h'.get? b=AX u)(hP':h'.get? P=AX { cls:=.none,data:=.fields (ps ++ more) })
  (hc:s⁻¹<=c') (hf:s⁻¹<=f) (hcf:c'≠f) (hcr:h'.CodeRec (.ref c') q) (hfo:h'.get? f=AX o) :
  Inv X Bb σ (upd (upd (upd H P (.tbl (ps ++ more))) c' (cdE c' q)) f (fnE f o)) { s with heap:=h',toks:=tk }:=by
 have Pl:P<s⁻¹:=I.hok.lt hP;have hPc:P≠c':=aA (aw Pl hc);have hPf:P≠f:=aA (aw Pl hf)
 have old:∀b,b<s⁻¹->b≠P->(upd (upd (upd H P (.tbl (ps ++ more))) c' (cdE c' q)) f (fnE f o)) b=H b:=λb hb hbP=>by
  rw[zm (aA (aw hb hf)),zm (aA (aw hb hc)),zm hbP]
 have atP:(upd (upd (upd H P (.tbl (ps ++ more))) c' (cdE c' q)) f (fnE f o)) P=AX (.tbl (ps ++ more)):=by
  rw[zm hPf,zm hPc,zd]
 have neP:∀b,H b=AY->b≠P:=λb e z=>by rw[z,hP]at e;cases e
 refine I.un #[λb u e n _ _=>hk b u (neP b n) e,λb u e n _ _=>#[u.slots,hk b u (neP b n) e],λb u e n _=>?_,λb u e _=>?_,λb xs e=>?_,λb ob u e=>?_,λb qs e=>?_] λb u e=>?_
 ·rw[old b (ao e) (neP b n)];exact n
 ·by_cases hb:b=P
  ·subst hb;exact#[_,hP']
  ·exact#[u,hk b u hb e]
 ·rw[old b (I.hok.lt e) (λz=>by rw[z,hP]at e;cases e)];exact e
 ·rw[old b (I.hok.lt e) (λz=>by rw[z,hP]at e;cases e)];exact e
 ·by_cases hb:b=P
  ·subst hb;rw[hP]at e;cases e;exact#[more,atP]
  ·rw[old b (I.hok.lt e) hb];exact#[#[],by rw[e];simp]
 ·by_cases hbf:b=f
  ·subst hbf;rw[zd]at e;cases e;exact zaP hfo
  ·rw[zm hbf]at e;by_cases hbc:b=c'
   ·subst hbc;rw[zd]at e;cases e;exact zdr hcr
   ·rw[zm hbc]at e;by_cases hbP:b=P
    ·subst hbP;rw[zd]at e;cases e;exact hP'
    ·rw[zm hbP]at e;refine (I.hok b u e).stay (λd v hd g=>hk d v ?_ g) (λd g=>?_) λd xs g=>?_
     ·rcases hd with z | z
      ·rw[z];exact hbP
      ·intro z';rw[z',hP]at z;cases z
     ·rw[old d (I.hok.lt g) (λz=>by rw[z,hP]at g;cases g)];exact g
     ·rw[old d (I.hok.lt g) (λz=>by rw[z,hP]at g;cases g)];exact g
end
theorem qj{a b:Int}{v:sr}:∀(l:List sr),AT l->AT (l ++ [rawInt a,rawInt b,v])
 | [],_=>trivial
 | .int _ _::.int _ _::_::rest,h=>qj rest h
theorem YN{h h':sI}{mg:sB->Option sr}{T:sq}(x:h.BuiltinsAt mg T)(k:∀b o,h.get? b=AX o->h'.get? b=AX o):h'.BuiltinsAt mg T:=by
 obtain⟨bm,o,b1,b2,b3,b4,b5,b6⟩:=x;exact#[bm,o,b1,b2,b3,b4,k _ _ b5,b6]
section
variable{X:Cx}{Bb:List (sq × sX)}{σ:L2.St}{H:Hp}{s:su}{cc P c:sq}{y:sB}{params:tR}{body:sF}{scope:tw}{pos:tG}{Q:VK}
theorem Kt(hcode:X.env.code=.ref cc)(hC:PySem.W.CodeHd X.base cc P)(hB:X.base.BuiltinsAt X.mg P)(hgP:si≠P)(hcl:closureFor scope X.env=pure [(y,c)])(hdef:defaultsOf params X.env=([],[]))(I:Inv X Bb σ H s)
  (hT:TabOk H P pos (X.env.qual ++ "<lambda>"))
  (h:∀f H',H f=AY->LamAt H' f "<lambda>" (X.env.qual ++ "<lambda>") params body scope [(y,c)]->TabOk H' P pos (X.env.qual ++ "<lambda>")->SamT P H H'->Q (.ref f) H') :
  sw (model X.prog X.w) X.A (eval (.Lambda params body scope pos) X.env) (EP X Bb σ Q) X.xe s:=by
 refine PySem.W.kla_eval hdef ?_;obtain⟨ps,hP,ht,hh⟩:=hT;have hPo:s.heap.get? P=AX (PySem.W.tabObj ps):=I.hok _ _ hP;have hg:=I.mod.glob.keeps I.bk;have Pl:P<s⁻¹:=I.hok.lt hP;rcases hh with hn | ⟨c',hit,hc'⟩
 ·refine PySem.W.kla_makeFunction (mg:=X.mg) hcl I.ok.glob hg hcode (hC.keeps I.bk) hPo ht hn hgP (YN hB I.bk) λc' ctv h' tk hx hge hlt hrec htb=>?_;have hsz:s⁻¹<=h'.objs.size:=de (cf hge hlt)
  have I1:=Inv.grow (P:=P) (c':=c') (f:=h'.objs.size) (more:=(List.toArray [rawInt pos.line,rawInt pos.col,.ref c'])) (tk:=tk) (o:={ cls:=.type "function",data:=.func (ci "<lambda>" (X.env.qual ++ "<lambda>") params body scope [(y,c)] ((X.mg "__name__").getD .none) (.ref c') ctv) }) I hP
   (λb u hb e=>ac _ (hx b u hb e)) (ac _ htb) hge hsz (aA hlt) (hrec.push _) (aB _ rfl)
  have hPc:P≠c':=aA (aw Pl hge);have hPf:P≠h'.objs.size:=aA (aw Pl hsz)
  have atc:(upd (upd (upd H P (.tbl (ps ++ (List.toArray [rawInt pos.line,rawInt pos.col,.ref c'])))) c' (cdE c' (X.env.qual ++ "<lambda>"))) h'.objs.size (fnE h'.objs.size { cls:=.type "function",data:=.func (ci "<lambda>" (X.env.qual ++ "<lambda>") params body scope [(y,c)] ((X.mg "__name__").getD .none) (.ref c') ctv) })) c'=AX (cdE c' (X.env.qual ++ "<lambda>")):=by
   rw[zm (aA hlt),zd]
  refine#[.ref h'.objs.size,_,I1,rfl,h _ _ (I.hok.fresh hsz) #[c',_,ctv,atc,zd] #[ps ++ (List.toArray [rawInt pos.line,rawInt pos.col,.ref c']),?_,?_,.inr #[c',?_,atc]] λb o hb e=>?_]
  ·rw[zm hPf,zm hPc,zd]
  ·rw[fG];exact qj _ ht
  ·rw[fG];exact codeAmong_snoc _ ht hn
  ·have hl:=I.hok.lt e;rw[zm (aA (aw hl hsz)),zm (aA (aw hl hge)),zm hb];exact e
 ·refine PySem.W.kla_makeFunctionHit (mg:=X.mg) hcl I.ok.glob hg hcode (hC.keeps I.bk) hPo ht hit (YN hB I.bk) λctv h' tk hk hsz=>?_;have hfr:H h'.objs.size=AY:=I.hok.fresh hsz
  have I1:=I.laid (a:=h'.objs.size) (t':=tk) (h':=h'.push { cls:=.type "function",data:=.func (ci "<lambda>" (X.env.qual ++ "<lambda>") params body scope [(y,c)] ((X.mg "__name__").getD .none) (.ref c') ctv) })
   (o:=fnE h'.objs.size { cls:=.type "function",data:=.func (ci "<lambda>" (X.env.qual ++ "<lambda>") params body scope [(y,c)] ((X.mg "__name__").getD .none) (.ref c') ctv) })
   (λb u e=>ac _ (hk b u e)) hsz (zaP (aB _ rfl))
  have sm:=ze (o:=fnE h'.objs.size { cls:=.type "function",data:=.func (ci "<lambda>" (X.env.qual ++ "<lambda>") params body scope [(y,c)] ((X.mg "__name__").getD .none) (.ref c') ctv) }) hfr;exact#[.ref h'.objs.size,_,I1,rfl,h _ _ hfr #[c',_,ctv,sm _ _ hc',zd] #[ps,sm _ _ hP,ht,.inr #[c',hit,sm _ _ hc']] λb o _ e=>sm _ _ e]
end
def zfP(R:V->Hp->Prop):List V->Hp->Prop
 | [v],H=>R v H
 | _,_=>False
theorem Jb{R:V->Hp->Prop}:∀{vs:List V} {H:Hp},zfP R vs H->∃v,vs=[v]/\R v H
 | [v],_,h=>#[v,rfl,h]
def zf8(P:sq)(pos:tG)(q:sB)(LA:Hp->sq->Prop):TE:=λσ H Q=>TabOk H P pos q/\∀f H',H f=AY->LA H' f->TabOk H' P pos q->SamT P H H'->Q (.ref f) H'
def zaJ{α:Type}(K:so)(F:KeyFam α)(P:sq)(pos:tG)(q:sB)(LA:Hp->sq->Prop)(iy:Nat)(te tb:TE):TE:=λσ H Q=>te σ H λv H1=>TabOk H1 P pos q /\
 ∀f H2,H1 f=AY->LA H2 f->TabOk H2 P pos q->SamT P H1 H2->∃l xs vy,v=.ref l/\SqL K H2 l xs/\xs.length<64/\σ[iy]? = AX (AX vy)/\qh (λx H Q=>LA H f/\tb [AX x,AX vy] H Q) xs [] H2 (Ve K F xs Q)
section
variable{X:Cx}{cc P c:sq}{x p y:sB}{params:tR}{body e:sF}{scope:tw}{lpos kpos pos pp:tG}{k iy:Nat}{te tb:TE}
theorem zdU(hcode:X.env.code=.ref cc)(hC:PySem.W.CodeHd X.base cc P)(hB:X.base.BuiltinsAt X.mg P)(hgP:si≠P)(hcl:closureFor scope X.env=pure [(y,c)])(hdef:defaultsOf params X.env=([],[])) :
  PE X (.Lambda params body scope lpos) (zf8 P lpos (X.env.qual ++ "<lambda>") λH f=>LamAt H f "<lambda>" (X.env.qual ++ "<lambda>") params body scope [(y,c)]):=by
 intro Bb s σ H Q I h;exact Kt hcode hC hB hgP hcl hdef I h.1 h.2
theorem JI{α:Type}{F:KeyFam α}(FO:F.Ok)(S:zcF p y scope)(hr:Room (k+3) X.A)(hg:Gl X x)(hm:X.mg x=AY)(hv:sZ x=AX (.builtin "sorted"))(ha:PA X [e] (zM te xH))
  (hcode:X.env.code=.ref cc) (hC:PySem.W.CodeHd X.base cc P) (hB:X.base.BuiltinsAt X.mg P) (hgP:si≠P) (hcl:closureFor scope X.env=pure [(y,c)]) (hdef:defaultsOf params X.env=([],[]))
  (hbind:∀(cv pm ctv u:sr),bindArgs (ci "<lambda>" (X.env.qual ++ "<lambda>") params body scope [(y,c)] pm cv ctv) #[[u],[]]=pure [(p,u)]) (hy:X.N[iy]? = AX y) (hvis:X.env.scope.names.lookup y=AX .cell) (hc:X.env.cells.lookup y=AX c)
  (hb:∀(s:su) (H:Hp) (f:sq) (cv:sr),Room k (QD X [p,y] s H (X.env.qual ++ "<lambda>") scope f cv [(y,c)]).A->PE (QD X [p,y] s H (X.env.qual ++ "<lambda>") scope f cv [(y,c)]) body tb)
  (hn:x≠"__name__":=by decide) (hdb:(x ==("__debug__" : sB))=Ba:=by decide)
  (hks:(tj pos (sL [#[AX "key",.Lambda params body scope lpos,kpos]] X.env)).filterMap (·.1)=[bG "key"]:=by rfl)
  (hst:sN pos (sj [e] X.env)=(Ba,eval e X.env)::sN pos (sj [] X.env):=by rfl) (hpl:(sN pos (sj [e] X.env)).any (·.1)=Ba:=by rfl)
  (hall:(tj pos (sL [#[AX "key",.Lambda params body scope lpos,kpos]] X.env)).all (·.1.isSome)=AZ:=by rfl) (hkw:(tj pos (sL [#[AX "key",.Lambda params body scope lpos,kpos]] X.env)).any (·.1.isNone)=Ba:=by rfl) :
  PE X (.Call (.Name x pp) [e] [#[AX "key",.Lambda params body scope lpos,kpos]] pos) (zaJ X.K F P lpos (X.env.qual ++ "<lambda>") (λH f=>LamAt H f "<lambda>" (X.env.qual ++ "<lambda>") params body scope [(y,c)]) iy te tb):=by
 intro Bb s σ H Q I h;have hlam:PE X (.Lambda params body scope lpos) (zf8 P lpos (X.env.qual ++ "<lambda>") λH f=>LamAt H f "<lambda>" (X.env.qual ++ "<lambda>") params body scope [(y,c)]):=zdU hcode hC hB hgP hcl hdef;refine sU (wT I hg hm hv ?_ hn hdb)
 have h':(zM te xH) σ H (zfP λv H1=>TabOk H1 P lpos (X.env.qual ++ "<lambda>")/\∀f H2,H1 f=AY->LamAt H2 f "<lambda>" (X.env.qual ++ "<lambda>") params body scope [(y,c)]->TabOk H2 P lpos (X.env.qual ++ "<lambda>")->SamT P H1 H2 ->
   ∃l xs vy,v=.ref l/\SqL X.K H2 l xs/\xs.length<64/\σ[iy]? = AX (AX vy)/\qh (λx H Q=>LamAt H f "<lambda>" (X.env.qual ++ "<lambda>") params body scope [(y,c)]/\tb [AX x,AX vy] H Q) xs [] H2 (Ve X.K F xs Q)):=h
 refine callWith_kw (thn (ha pos Bb s σ H _ I h') λus s1 ⟨vs,H1,I1,r1,q1⟩=>?_) hst hpl hall hkw;obtain⟨v,rfl,hT,q1⟩:=Jb q1;obtain⟨u,rfl,ru⟩:=wB r1
 refine thn ((Qm hlam zad:PK X [#[AX "key",.Lambda params body scope lpos,kpos]] _) pos Bb s1 σ H1 (zfP λkv H2=>∃f,kv=.ref f/\LamAt H2 f "<lambda>" (X.env.qual ++ "<lambda>") params body scope [(y,c)] /\
   ∃l xs vy,v=.ref l/\SqL X.K H2 l xs/\xs.length<64/\σ[iy]? = AX (AX vy)/\qh (λx H Q=>LamAt H f "<lambda>" (X.env.qual ++ "<lambda>") params body scope [(y,c)]/\tb [AX x,AX vy] H Q) xs [] H2 (Ve X.K F xs Q)) I1 #[hT,λf H2 a1 a2 a3 a4=>#[f,rfl,a2,q1 f H2 a1 a2 a3 a4]]) λws s2 ⟨zs,H2,I2,r2,q2⟩=>?_
 obtain⟨kv,rfl,f,rfl,hLA,l,xs,vy,rfl,hS,hz,hσ,hk⟩:=Jb q2;obtain⟨w',rfl,rw'⟩:=wB r2;cases rw';cases ru;rw[hks];show sw _ _ (call (.builtin "sorted") [.ref l] [(bG "key",.ref f)]) _ _ _;refine Ja FO (k:=k+1) hr (λpins' s3 H3 x3 u3 Q3 I3 r3 h3=>?_) I2 hS hz hk;obtain⟨⟨c',pm,ctv,e1,e2⟩,h4⟩:=h3;have hcd:s3.heap.CodeRec (.ref c') (X.env.qual ++ "<lambda>"):=(I3.hok _ _ e1).1;have ho:=(I3.hok _ _ e2).1;exact Kl (k:=k) S hr (hbind _ _ _ _) I3 ho hcd hy hσ hvis hc r3 (hb s3 H3 f (.ref c') (hr.in1.in1.deeper _)) h4
end
section
variable{K:so}
theorem SamT.of{T:sq}{H H':Hp}(s:Same H H'):SamT T H H':=λb o _ e=>s b o e
theorem SamT.trans{T:sq}{H H' H'':Hp}(s:SamT T H H')(s':SamT T H' H''):SamT T H H'':=λb o n e=>s' b o n (s b o n e)
theorem SamT.at{T b:sq}{H H':Hp}{ps:Array sr}{o:HO}(s:SamT T H H')(hT:H T=AX (.tbl ps))(e:H b=AX o)(ho:∀qs,o≠.tbl qs):H' b=AX o:=s b o (λz=>by rw[z,hT]at e;cases e;exact ho _ rfl) e
theorem SamT.free{T b:sq}{H H':Hp}{o:HO}(s:SamT T H H')(hT:H' T=AX o)(h:H' b=AY):H b=AY:=by
 cases e:H b with
 | none=>rfl
 | some u =>
  by_cases hb:b=T
  ·rw[hb,hT]at h;cases h
  ·rw[s b u hb e]at h;cases h
theorem SamT.seqL{T a:sq}{H H':Hp}{ps:Array sr}{xs:List V}(s:SamT T H H')(hT:H T=AX (.tbl ps))(h:SqL K H a xs):SqL K H' a xs:=by
 rcases h with (h | ⟨o,h⟩) | h
 ·exact .inl (.inl (s.at hT h λ_ z=>by cases z))
 ·exact .inl (.inr #[o,s.at hT h λ_ z=>by cases z])
 ·exact .inr h
theorem SamT.seqT{T a:sq}{H H':Hp}{ps:Array sr}{xs:List V}(s:SamT T H H')(hT:H T=AX (.tbl ps))(h:SqT K H a xs):SqT K H' a xs:=by
 rcases h with (h | ⟨o,h⟩) | h
 ·exact .inl (.inl (s.at hT h λ_ z=>by cases z))
 ·exact .inl (.inr #[o,s.at hT h λ_ z=>by cases z])
 ·exact .inr h
mutual
theorem Is.samT{T:sq}{H H':Hp}{ps:Array sr}(s:SamT T H H')(hT:H T=AX (.tbl ps)):∀(d:D) (v:V),Is K H d v->Is K H' d v
 | .non,v,h=>by erw[Is]at h ⊢;exact h
 | .bl b,v,h=>by erw[Is]at h ⊢;exact h
 | .int b,v,h=>by erw[Is]at h ⊢;exact h
 | .str b,v,h=>by erw[Is]at h ⊢;exact h
 | .lst l,v,h=>by
  erw[Is]at h ⊢
  obtain⟨a,xs,e1,e2,e3⟩:=h;exact#[a,xs,e1,s.seqL hT e2,Iss.samT s hT l xs e3]
 | .tup l,v,h=>by
  erw[Is]at h ⊢
  obtain⟨a,xs,e1,e2,e3⟩:=h;exact#[a,xs,e1,s.seqT hT e2,Iss.samT s hT l xs e3]
theorem Iss.samT{T:sq}{H H':Hp}{ps:Array sr}(s:SamT T H H')(hT:H T=AX (.tbl ps)):∀(l:List D) (vs:List V),Iss K H l vs->Iss K H' l vs
 | [],vs,h=>by erw[Iss]at h ⊢;exact h
 | d::l,vs,h=>by
  erw[Iss]at h ⊢
  obtain⟨v,r,e1,e2,e3⟩:=h;exact#[v,r,e1,Is.samT s hT d v e2,Iss.samT s hT l r e3]
end
theorem LsA.samT{T a:sq}{H H':Hp}{ps:Array sr}{ds:List D}(h:LsA K H a ds)(s:SamT T H H')(hT:H T=AX (.tbl ps)):LsA K H' a ds:=by
 obtain⟨xs,h1,h2⟩:=h;exact#[xs,s.at hT h1 (λ_ z=>by cases z),Iss.samT s hT _ _ h2]
theorem TabOk.same{H H':Hp}{T:sq}{pos:tG}{q:sB}(h:TabOk H T pos q)(s:Same H H'):TabOk H' T pos q:=by
 obtain⟨ps,h1,h2,h3⟩:=h;refine#[ps,s _ _ h1,h2,?_];rcases h3 with h3 | ⟨c',h4,h5⟩
 ·exact .inl h3
 ·exact .inr #[c',h4,s _ _ h5]
theorem LamAt.same{H H':Hp}{f:sq}{name qual:sB}{params:tR}{body:sF}{scope:tw}{cl:List (sB × sq)}(h:LamAt H f name qual params body scope cl)(s:Same H H'):LamAt H' f name qual params body scope cl:=by
 obtain⟨c',pm,ctv,h1,h2⟩:=h;exact#[c',pm,ctv,s _ _ h1,s _ _ h2]
end
section
variable{P:sy}{w:sC}{K:so}{mg mb:sB->Option sr}{CX:CXT}{k:Nat}{fa a T cc:sq}{fd:sv}{x:sB}{sp:Sp}{s₁:su}{vs:List sr}{ns:List Int}{ps:Array sr}
theorem Yb(KX:K.In s₁.heap)(hKT:K.lookup T=AY)(hT:s₁.heap.get? T=AX { cls:=.none,data:=.fields ps })(hTc:AN s₁.heap T)(hns:s₁.heap.Ns si mg)(hb:s₁.heap.Ns builtinsNs mb)(hbb:∀x:sB,x≠"__name__"->mb x=sZ x)(hlim:s₁.heap.NoLimit)(hg:s₁.gens=#[])
  (ha:s₁.heap.get? a=AX { cls:=.type "list",data:=.seq vs.toArray }) (hr:Room k callerA)
  (hbm:s₁.heap.BuiltinsAt mg T) (hcd:PySem.W.CodeHd s₁.heap cc T) (F:∀base:sI,K.In base->base.Ns si mg->base.BuiltinsAt mg T->PySem.W.CodeHd base cc T->zQ P w K mg base CX k fa fd [x] sp) (hbind:∀(s:su) (u:sr),Av s fd #[[u],[]] [(x,u)])
  (hCX:∀H e s',CX [] H s₁ (λ_ _ _=>False) e s'->False) (H:Hp) (h1:H T=AX (.tbl ps)) (h2:∀b u,H b=AX u->b=T\/(b=a/\K.lookup a=AY/\u=.frz { cls:=.type "list",data:=.seq vs.toArray } (.lst (ns.map V.int))))
  (hok:HOk P w H s₁.heap) (hsp:sp [.ref a] H (λv _=>v=.bl AZ) λ_ _ _=>False) :
  tN (model P w) callerA (.call (.ref fa) #[[.ref a],[]]) (λr s'=>r=.ok (.ret (.bool AZ))/\OldK s₁.heap s'.heap/\s'.os=s₁.os/\Ab s'.gens) s₁:=by
 have stay:∀b o,s₁.heap.get? b=AX o->(b≠T)->(b≠a)->(Ug s₁.heap H).get? b=AX o:=λb o e n1 n2=>W9 e (by
  cases q:H b with
  | none=>rfl
  | some u =>
   rcases h2 b u q with z | z
   ·exact absurd z n1
   ·exact absurd z.1 n2)
 have nsStay:∀(b:sq) (m:sB->Option sr),s₁.heap.Ns b m->(Ug s₁.heap H).Ns b m:=λb m hN=>by
  obtain⟨o,es,ep,e,d,rest⟩:=hN;refine#[o,es,ep,stay b o e (λz=>?_) (λz=>?_),d,rest]
  ·rw[z,hT]at e;cases e;cases d
  ·rw[z,ha]at e;cases e;cases d
 have kStay:K.In (Ug s₁.heap H):=λb o e=>by
  have g:=KX b o e;refine W9 g ?_
  cases q:H b with
  | none=>rfl
  | some u =>
   rcases h2 b u q with z | z
   ·rw[z,hKT]at e;cases e
   ·rw[z.1,z.2.1]at e;cases e
 have bStay:(Ug s₁.heap H).BuiltinsAt mg T:=by
  obtain⟨bm,o,b1,b2,b3,b4,b5,b6,b7,b8⟩:=hbm;refine#[bm,o,b1,b2,b3,b4,stay bm o b5 b4 (λz=>?_),b6,b7,b8];rw[z,ha]at b5;cases b5;simp at b6
 have cStay:PySem.W.CodeHd (Ug s₁.heap H) cc T:=by
  obtain⟨o,vs',file,tf,flags,tg,inF,text,tt,c1,c2,c3,c4,c5,c6,c7,c8,c9,c10⟩:=hcd;refine#[o,vs',file,tf,flags,tg,inF,text,tt,stay cc o c1 c10 (λz=>?_),c2,c3,c4,c5,c6,c7,c8,c9,c10];rw[z,ha]at c1;cases c1;simp at c2
 obtain⟨mc,l1,l2⟩:=hlim;have M0:Mod K mg (Ug s₁.heap H):={ kin:=kStay,glob:=nsStay _ _ hns,blt:=#[mb,nsStay _ _ hb,hbb],nolimit:=#[mc,nsStay _ _ l1,l2] };have E0:Env0 P w K mg (Ug s₁.heap H) callerA [] s₁ H:={ frames:=rfl,mod:=M0,bs:=λb o e=>zcj e,bsz:=Nat.le_of_eq (Qn _ _),funs:=trivial,frf:=λb z=>(nomatch (show b ∈ ([]:List sq)from z)),hok:=hok,bare:=.of_eq hg };refine tM ((F _ kStay (nsStay _ _ hns) bStay cStay).run callerA [] s₁ H #[[.ref a],[]] [.ref a] [.ref a] (λv _=>v=.bl AZ) (λ_ _ _=>False) hr E0 (hbind s₁ (.ref a)) (.cons rfl .nil) hsp) λr s' hq=>?_;rcases r with e | fl
 ·exact (hCX H e s' hq).elim
 rcases fl with _ | _ | _ | u
 all_goals first | exact False.elim hq | skip
 obtain⟨v,H',e1,e2,un,hok',rv,ev⟩:=hq;have ev':v=V.bl AZ:=ev;subst ev';have eu:u=Value.bool AZ:=rv;subst eu;obtain⟨more,hT2⟩:=un.tbls T ps h1;have hT3:s'.heap.get? T=AX { cls:=.none,data:=.fields (ps ++ more) }:=hok' T _ hT2
 have each:∀b o,s₁.heap.get? b=AX o->b≠T->s'.heap.get? b=AX o:=λb o e n=>by
  cases q:H b with
  | none=>exact un.keep b o e q (λz=>(nomatch (show b ∈ ([]:List sq)from z))) (λz=>(nomatch z))
  | some ob =>
   rcases h2 b ob q with z | ⟨z,_,zz⟩
   ·exact absurd z n
   ·subst zz;have g:=(hok' b _ (un.frzs b _ _ q)).1;rw[z,ha]at e;cases e;exact g
 refine#[rfl,#[λb o e=>?_,λb o e=>?_],e1,e2]
 ·by_cases hbT:b=T
  ·subst hbT;rw[hT]at e;cases e;exact .inr (.inl #[hTc,rfl,ps,more,rfl,hT3])
  ·exact .inl (each b o e hbT)
 ·by_cases hbT:b=T
  ·subst hbT;exact#[_,hT3]
  ·exact#[o,each b o e hbT]
theorem QZ(KX:K.In s₁.heap)(hKT:K.lookup T=AY)(hT:s₁.heap.get? T=AX { cls:=.none,data:=.fields ps })(hTc:AN s₁.heap T)(hns:s₁.heap.Ns si mg)(hb:s₁.heap.Ns builtinsNs mb)(hbb:∀x:sB,x≠"__name__"->mb x=sZ x)(hlim:s₁.heap.NoLimit)(hg:s₁.gens=#[])
  (ha:s₁.heap.get? a=AX { cls:=.type "list",data:=.seq vs.toArray }) (hi:AI vs ns) (hl:ns.length<=sk) (hr:Room k callerA)
  (hbm:s₁.heap.BuiltinsAt mg T) (hcd:PySem.W.CodeHd s₁.heap cc T) (F:∀base:sI,K.In base->base.Ns si mg->base.BuiltinsAt mg T->PySem.W.CodeHd base cc T->zQ P w K mg base CX k fa fd [x] sp) (hbind:∀(s:su) (u:sr),Av s fd #[[u],[]] [(x,u)])
  (hCX:∀H e s',CX [] H s₁ (λ_ _ _=>False) e s'->False) (hsp:∀H:Hp,H T=AX (.tbl ps)->SqL K H a (ns.map V.int)->sp [.ref a] H (λv _=>v=.bl AZ) λ_ _ _=>False) :
  tN (model P w) callerA (.call (.ref fa) #[[.ref a],[]]) (λr s'=>r=.ok (.ret (.bool AZ))/\OldK s₁.heap s'.heap/\s'.os=s₁.os/\Ab s'.gens) s₁:=by
 have rv:=Yy hi;have hlv:=hi.length
 have hTa:a≠T:=λz=>by
  rw[z,hT]at ha;cases ha
 rcases hk:K.lookup a with _ | o
 ·refine Yb (ns:=ns) KX hKT hT hTc hns hb hbb hlim hg ha hr hbm hcd F hbind hCX (upd (upd (λ_=>AY) T (.tbl ps)) a (.frz { cls:=.type "list",data:=.seq vs.toArray } (.lst (ns.map V.int)))) ?_ (λb u e=>?_) (λb u e=>?_) ?_
  ·rw[zm (Ne.symm hTa),zd]
  ·by_cases hba:b=a
   ·subst hba;rw[zd]at e;cases e;exact .inr #[rfl,hk,rfl]
   ·rw[zm hba]at e;by_cases hbT:b=T
    ·exact .inl hbT
    ·rw[zm hbT]at e;cases e
  ·by_cases hba:b=a
   ·subst hba;rw[zd]at e;cases e;exact#[ha,by rw[ae];exact hl,vs,_,rv,ha]
   ·rw[zm hba]at e;by_cases hbT:b=T
    ·subst hbT;rw[zd]at e;cases e;exact hT
    ·rw[zm hbT]at e;cases e
  ·exact hsp _ (by rw[zm (Ne.symm hTa),zd]) (.inl (.inr #[_,zd]))
 ·have e:=KX a o hk;rw[ha]at e;cases e;refine Yb (ns:=ns) KX hKT hT hTc hns hb hbb hlim hg ha hr hbm hcd F hbind hCX (upd (λ_=>AY) T (.tbl ps)) zd (λb u e=>?_) (λb u e=>?_) (hsp _ zd (.inr #[_,vs.toArray,_,hk,rfl,rfl,rfl,by rw[ak,hlv];exact hl,by simpa using rv]))
  ·by_cases hbT:b=T
   ·exact .inl hbT
   ·rw[zm hbT]at e;cases e
  ·by_cases hbT:b=T
   ·subst hbT;rw[zd]at e;cases e;exact hT
   ·rw[zm hbT]at e;cases e
end
noncomputable def zb6(K:so):Bool:=K.all λp=>match p.2 with
 | ⟨.none,_,.fields _,_⟩=>Ba
 | _=>AZ
theorem X4{T:sq}{o:sX}:∀{K:so},K.lookup T=AX o->(T,o) ∈ K
 | [],h=>by cases h
 | p::K,h=>by
  rw[aX]at h;by_cases hp:T=p.1
  ·rw[show (T == p.1)=AZ by simpa using hp]at h;cases h;rw[hp];exact ax
  ·rw[show (T == p.1)=Ba by simpa using hp]at h;exact am _ (X4 h)
theorem KZ{K:so}{T:sq}{ps:Array sr}{h:sI}(e:zb6 K=AZ)(X:K.In h)(hT:h.get? T=AX { cls:=.none,data:=.fields ps }):K.lookup T=AY:=by
 cases q:K.lookup T with
 | none=>rfl
 | some o =>
  have g:=X _ _ q;rw[hT]at g;cases g;have:=Bp.mp e _ (X4 q);simp at this
theorem walk_ofT{l:PySem.W.OpenLaw}{n k:Nat}{q:sy}{loose:List sB}{XP:(sB->Option sr)->sI->Prop}{YP:sC->sI->Prop}{d din:DefRec}{K:Params->so}{CX:sC->CXT}{sp:sC->sq->Sp}{x:sB}
  (hn:l.most=AX n) (hn2:n<=sk) (hdf:d.params.defaults=[]) (hr:Room k callerA) (hdin:din ∈ recsOf q)
  (hY:∀(w:sC) (h:sI),YP w h->(K w.params).In h) (hno:∀w:sC,zb6 (K w.params)=AZ)
  (F:∀(w:sC) (mg:sB->Option sr) (fa:sq) (h:sI) (cc T:sq),(K w.params).In h->h.Ns si mg->mg d.name=AX (.ref fa)->(∃a o fd,mg din.name=AX (.ref a)/\h.get? a=AX o/\o.data=.func fd/\fd.code=.ref cc)->si≠T ->
   ∃fd:sv,(∀(s:su) (u:sr),Av s fd #[[u],[]] [(x,u)]) /\
    ∀base:sI,(K w.params).In base->base.Ns si mg->base.BuiltinsAt mg T->PySem.W.CodeHd base cc T->zQ l.prog w (K w.params) mg base (CX w) k fa fd [x] (sp w T))
  (hsp:∀(w:sC) (H:Hp) (a:sq) (ns:List Int) (T:sq),ns.length<=n->(∀z ∈ ns,uD z)->H T=AX (.tbl #[])->SqL (K w.params) H a (ns.map V.int)->sp w T [.ref a] H (λv _=>v=.bl AZ) λ_ _ _=>False)
  (hCX:∀(w:sC) (H:Hp) (s:su) (e:sr) (s':su),CX w [] H s (λ_ _ _=>False) e s'->False) :
  PySem.W.WalkO q loose XP YP l.row.toRowW d [] (λf vs=>fZ f vs):=by
 refine Yf hn hdf λw s₀ s₁ mg mb fa o pm cd doc a vs ns G Y ho hd hcd hmg hobj hints hlen hb' hg=>?_;have X0:=hY w _ Y;obtain⟨ai,oi,fdi,cc,T,m1,m2,m3,m4,m5,m6⟩:=G.T.tab din hdin;have hcd':PySem.W.CodeHd s₁.heap cc T:=PySem.W.CodeHd.of m5 m6;have hTo:s₁.heap.get? T=AX { cls:=.none,data:=.fields #[] }:=m6.2;have hTc:AN s₁.heap T:=m6.isCodeTable
 have hgT:si≠T:=λz=>by
  obtain⟨o,es,ep,e,hd',_⟩:=G.T.g;rw[z,hTo]at e;cases e;cases hd'
 have hbm:s₁.heap.BuiltinsAt mg T:=by
  obtain⟨bm,ob,b1,b2,b3,b4,b5,b6⟩:=G.T.bmain;refine#[bm,ob,b1,b2,λz=>?_,λz=>?_,b3,b4,b5,b6]
  ·obtain⟨o,es,ep,e,hd',_⟩:=G.T.g;rw[z,e]at b3;cases b3;rw[hd']at b6;cases b6
  ·rw[z,hTo]at b3;cases b3;cases b4
 obtain⟨fd,hbd,hF⟩:=F w mg fa _ cc T X0 G.T.g hmg #[ai,oi,fdi,m1,m2,m3,m4] hgT;exact QZ (T:=T) (ps:=#[]) X0 (KZ (hno w) X0 hTo) hTo hTc G.T.g G.T.b G.T.builtins G.T.nolimit hg hobj hints (aM hlen hn2) hr hbm hcd' hF hbd (λH e s'=>hCX w H s₁ e s') λH h1 h2=>hsp w H a ns T hlen hb' h1 h2
theorem zcl{P:sy}{w:sC}{K:so}{mg:sB->Option sr}{base:sI}{x qual:sB}{st:sJ}{f cc:sq}{fd:sv}{N ps:List sB}{k:Nat}{sp:Sp}(F:Fun K x qual st f fd)(hcc:fd.code=.ref cc)(S:zk N ps (zh st))(len:∀vs H Q E,sp vs H Q E->vs.length=ps.length)
  (hbody:∀(A:sE) (outer:List Al) (s:su) (H:Hp) (vs:List V) (Q:VK) (E:XK),Room k (A.deeper (tZ qual (zh st) s⁻¹ f (.ref cc)))->sp vs H Q E ->
   ∃t,PSs (qz CX0 P w K mg base N qual (zh st) f (.ref cc) A outer s H E).nox (yg st) t/\t { nx:=λ_ H'=>Q .non H',rt:=Q } (start N vs) H):zQ P w K mg base CX0 (k+1) f fd ps sp:=by
 obtain⟨oc,od,kV,doc,pm,an,cdv,ct,osl,rfl,lk,hcd⟩:=F.ex;have e:cdv=.ref cc:=hcc;subst e;refine JE lk hcd S len λA outer s H vs Q E hr hsp=>?_;obtain⟨t,h,q⟩:=hbody A outer s H vs Q E hr hsp;exact#[t,h.nox,q]
end L3
namespace L3
section
variable{X:Cx}{Bb:List (sq × sX)}{σ:L2.St}{H:Hp}{s:su}{cc P c:sq}{y:sB}{params:tR}{body:sF}{scope:tw}{pos:tG}{Q:VK}
end
section
variable{X:Cx}{cc P c:sq}{x p y:sB}{params:tR}{body e:sF}{scope:tw}{lpos kpos pos pp:tG}{k iy:Nat}{te tb:TE}
end
section
variable{P:sy}{w:sC}{K:so}{mg mb:sB->Option sr}{CX:CXT}{k:Nat}{fa a T cc T' cc':sq}{fd:sv}{x:sB}{sp:Sp}{s₁:su}{vs:List sr}{ns:List Int}
end
end L3
namespace PySem
namespace F
end F
section
variable{prog:sy}{w:sC}{A:sE}{E:sr->su->Prop}{s:su}
def Heap.IsRevS(h:sI)(a:sq)(x:sB)(t:Aa)(i:Int):Prop:=∃o,h.get? a=AX o/\o.cls=.type "reversed"/\o.data=.fields (List.toArray [.str x t,rawInt i])
theorem Heap.IsRevS.typeIs{a:sq}{x:sB}{t:Aa}{i:Int}(z:s.heap.IsRevS a x t i):s.TypeIs (.ref a) "reversed":=let #[o,ho,hc,_]:=z; #[o,ho,hc]
theorem Heap.IsRevS.at{h h':sI}{a:sq}{x:sB}{t:Aa}{i:Int}(z:h.IsRevS a x t i)(e:∀o,h.get? a=AX o->h'.get? a=AX o):h'.IsRevS a x t i:=let #[o,ho,r]:=z; #[o,e _ ho,r]
end
end PySem
namespace L3
section
variable{X:Cx}{o a:sF}{to:TE}{ta:TA}{apos cpos p pos2:tG}
end
end L3
namespace L2
noncomputable def Itk(lo k:Int)(n:Nat):It:=#[λi _=>i<n,λi H x H'=>H'=H/\x=.int (lo+i * k),λi _=>n<=i]
theorem YZ{P:sy}{w:sC}{K:so}{tg:sF}(it:sq)(lo k:Int)(n:Nat):Jx P w K tg (Itk lo k n) [it] it (λi h=>Au h it (lo+(i:Nat) * k) ((n:Int) - (i:Nat)) k) where
 mem:=by simp
 obj:=λi h st b hb=>by
  have e:b=it:=by simpa using hb
  subst e
  exact#[_,st,λv z=>by
   have z':Data.fields _=Data.cell v:=z
   cases z']
 keep:=λi h h' st k=>k it (by simp) _ st
 item:=by
  intro X hP hw hK hc i Bb s σ H E I hf st hg;subst hP hw hK;obtain⟨f0,f1,f2,f3,f4,f5⟩:=hf it (by simp);have W:=Walks.range (prog:=X.prog) (w:=X.w) (I.ok.hd hc) it lo k n;refine W.item i s _ _ hg st λv h' tk hv st' kk=>?_;obtain⟨t,rfl⟩:=hv;have I1:Inv X Bb σ H { s with heap:=h',toks:=tk }:=I.turned (λb o hb e=>kk b o (by simpa using hb) e) f0 f1 f3 f4 f5;exact#[_,rfl,Vz (s:={ s with heap:=h',toks:=tk }) (n:="range_iterator") st' rfl rfl ∅ #[.int (lo+i * k),H,I1,#[t,rfl],#[rfl,rfl],st',λb hb=>(hf b hb).1]]
 done:=by
  intro X hP hw hK hc i Bb s σ H E I hf st hg;subst hP hw hK;obtain⟨f0,f1,f2,f3,f4,f5⟩:=hf it (by simp);exact Ah (I.ok.hd hc) st (by have:n<=i:=hg;lia) λh' eb=>#[rfl,I.turned (t':=s.toks) (λb o hb e=>eb b o hb e) f0 f1 f3 f4 f5]
 self:=λ_ _ _ _ _ st h=>Ai st h
section
variable{X:Cx}{tg:sF}
theorem zai{i j k:Int}(h1:0<=i)(h2:i<=2 ^ 30)(h3:0<=j)(h4:j<=2 ^ 30)(h5:0<k)(h6:k<2 ^ 30):0<=Builtin.Range.rangeSize i j k/\Builtin.Range.rangeSize i j k<2 ^ 30+1:=by
 unfold Builtin.Range.rangeSize;rw[if_pos h5];split
 ·have a:=Int.ediv_nonneg (a:=j - i - 1) (b:=k) ⋯ ⋯;have b:=Int.ediv_le_self (a:=j - i - 1) k ⋯;lia
 ·lia
theorem zbm{i j k:Int}(h1:0<=i)(h2:i<=2 ^ 30)(h3:0<=j)(h4:j<=2 ^ 30)(h5:0<k)(h6:k<2 ^ 30):Builtin.Range.small i j k=AZ:=by
 obtain⟨a,b⟩:=zai h1 h2 h3 h4 h5 h6;unfold Builtin.Range.small
 erw[Builtin.Range.rangeFitsLong,bX,dD,decide_eq_true_eq,beq_iff_eq,h5,gt_iff_lt,if_true]
 lia
theorem Uf{Bb:List (sq × sX)}{σ:St}{H:Hp}{s:su}{R:It->Hp->Prop}{E:sr->su->Prop}{lo hi k:Int}{t u v:Aa}{tk:Nat}(I:Inv X Bb σ H s)(h1:0<=lo)(h2:lo<=2 ^ 30)(h3:0<=hi)(h4:hi<=2 ^ 30)(h5:0<k)(h6:k<2 ^ 30)
  (q:R (Itk lo k (Builtin.Range.rangeSize lo hi k).toNat) H):sw (model X.prog X.w) X.A (pyIter (.ref s⁻¹)) (PIE X Bb σ tg R) E { s with heap:=s.heap.push { cls:=.type "range",data:=.fields (List.toArray [.int lo t,.int hi u,.int k v]) },toks:=tk }:=by
 refine AB (IsRange.new ..) (zbm h1 h2 h3 h4 h5 h6) ?_;have I1:Inv X Bb σ H { s with heap:=s.heap.push { cls:=.type "range",data:=.fields (List.toArray [.int lo t,.int hi u,.int k v]) },toks:=tk }:=I.kept λb o e=>ac _ e
 refine#[(s.heap.push { cls:=.type "range",data:=.fields (List.toArray [.int lo t,.int hi u,.int k v]) }).objs.size,[(s.heap.push { cls:=.type "range",data:=.fields (List.toArray [.int lo t,.int hi u,.int k v]) }).objs.size],_,_,H,rfl,
  I1.kept (t':=tk) λb o e=>ac _ e,YZ _ lo k (Builtin.Range.rangeSize lo hi k).toNat,?_,λb hb=>?_,q]
 ·have e1:lo+((0:Nat):Int) * k=lo:=by simp
  have e2:(((Builtin.Range.rangeSize lo hi k).toNat:Nat):Int) - ((0:Nat):Int)=Builtin.Range.rangeSize lo hi k:=by have:=(zai h1 h2 h3 h4 h5 h6).1;lia
  show Au _ _ (lo+((0:Nat):Int) * k) ((((Builtin.Range.rangeSize lo hi k).toNat:Nat):Int) - ((0:Nat):Int)) k;rw[e1,e2];exact aB _ rfl
 ·have e:b=(s.heap.push { cls:=.type "range",data:=.fields (List.toArray [.int lo t,.int hi u,.int k v]) }).objs.size:=by simpa using hb
  subst e;exact I1.fpOk (al _) (I1.hok.fresh (al _))
def zet(ta:TA):TI:=λσ H R=>ta σ H λvs H1=>∃i j k:Int,vs=[.int i,.int j,.int k]/\(0<=i/\i<=2 ^ 30/\0<=j/\j<=2 ^ 30/\0<k/\k<2 ^ 30)/\R (Itk i k (Builtin.Range.rangeSize i j k).toNat) H1
theorem Uo{a b c:sF}{ta:TA}{p pos:tG}(hg:Gl X "range")(hm:X.mg "range" = AY)(ha:PA X [a,b,c] ta)(hs:sj [a,b,c] X.env=[(Ba,eval a X.env),(Ba,eval b X.env),(Ba,eval c X.env)]:=by rfl)(hs2:sj [b,c] X.env=[(Ba,eval b X.env),(Ba,eval c X.env)]:=by rfl) :
  PI X tg (.Call (.Name "range" p) [a,b,c] [] pos) (zet ta):=by
 intro Bb s σ H R I h;refine AW (wT I hg hm boot_range (bw (thn (ha pos Bb s σ H _ I h) λus s1 ⟨vs,H1,I1,r1,q1⟩=>?_) (by rw[hs,hs2]) (by rw[hs2];rfl)));obtain⟨i,j,k,e,⟨q1,q2,q3,q4,q5,q6⟩,q⟩:=q1;subst e
 cases r1 with
 | cons r rr =>
  cases rr with
  | cons r' rr =>
   cases rr with
   | cons r'' rr =>
    cases rr;obtain⟨t,rfl⟩:=r;obtain⟨t',rfl⟩:=r';obtain⟨t'',rfl⟩:=r'';exact call_range_3 ⋯ (Uf I1 q1 q2 q3 q4 q5 q6 q) (Or.inl (PyProof.noPylong_small ⋯))
end
end L2
namespace L3
open PySem L2
def CompK(lo k:Int)(n:Nat)(g:TG)(tt:TT)(te:TE)(own:Nat)(ix:())(σ:L2.St)(H1:Hp)(Q:VK)(D:sq):Prop:=XM (Itk lo k n) g tt te own ix σ H1 Q D
theorem zd4{ta:TA}{g:TG}{tt:TT}{te:TE}{own:Nat}{ix:()}{σ:L2.St}{H:Hp}{Q:VK}:j8 (zet ta) g tt te own ix σ H Q=ta σ H λvs H1=>∃i j k:Int,vs=[.int i,.int j,.int k]/\(0<=i/\i<=2 ^ 30/\0<=j/\j<=2 ^ 30/\0<k/\k<2 ^ 30)/\∀D,H1 D=AY->CompK i k (Builtin.Range.rangeSize i j k).toNat g tt te own ix σ H1 Q D:=rfl
section
variable{g:TG}{tt:TT}{te:TE}{own:Nat}{ix:()}{σ:L2.St}{H1:Hp}{Q:VK}{D:sq}
theorem CompK.by{lo k:Int}{n:Nat}(Pv:Nat->List V->Hp->Prop)(h0:Pv 0 [] (upd H1 D (.lst [])))
  (hs:∀i Bd H',i<n->Pv i Bd H'->g (.int (lo+i * k)) (vC σ own ix) H' λσ3 H3=>xb (vC σ own ix) σ3/\tt σ3 H3 λb H4=>if b=AZ then
   te σ3 H4 λv H5=>H5 D=AX (.lst Bd)/\Bd.length<sk/\CNx n i Pv (Bd ++ [v]) (upd H5 D (.lst (Bd ++ [v])))else CNx n i Pv Bd H4)
  (hd:∀Bd H',Pv n Bd H'->Q (.ref D) H'):CompK lo k n g tt te own ix σ H1 Q D:=by
 refine#[λi m Bd H=>m=n - i/\i<=n/\Pv i Bd H,#[n,by simp,aD _,h0],?_];rintro i m Bd H' ⟨rfl,hi,p⟩;by_cases hlt:i<n
 ·refine .inr #[hlt,λx H2 y=>?_];obtain⟨e,y⟩:=y;subst e y;exact hs i Bd _ hlt p
 ·have e:i=n:=⋯;subst e;exact .inl #[al _,hd Bd H' p]
end
end L3
namespace L3
open PySem.AutoSeq1 (wpAny_loadPart')
open MeetsSeq MeetsSeq2 MeetsSeq3 SeqRoads2 SeqAt
section
variable{X:Cx}{Bb:List (sq × sX)}{σ:St}{H:Hp}{s:su}
end
end L3
namespace L3
section
variable{prog:sy}{w:sC}{A:sE}{R:As->su->Prop}{I:sq}{fp wr:List sq}{G:Array AJ->Array AJ->Prop}{n:Nat}{P:Nat->sr->Prop}{St:Nat->su->Prop}
end
section
variable{prog:sy}{w:sC}{A:sE}{E:sr->su->Prop}{s:su}
end
section
variable{X:Cx}
end
section
variable{g:TG}{tt:TT}{te:TE}{own:Nat}{ix:()}{σ:L2.St}{H1:Hp}{Q:VK}{D:sq}
end
theorem W5{α:Type}[DecidableEq α](k:α)(v:sr)(x:α):∀kvs:List (α × sr),(kvs.map λkv=>if kv.1=k then (kv.1,v)else kv).find? (λkv=>kv.1=x)=(kvs.find? λkv=>kv.1=x).map λkv=>if kv.1=k then (kv.1,v)else kv
 | []=>rfl
 | p::kvs=>by
  have e:(if p.1=k then (p.1,v)else p).1=p.1:=by split <;> rfl
  rw[au,List.find?_cons,List.find?_cons,W5 k v x kvs]
  erw[e]
  by_cases h:p.1=x
  ·simp [h]
  ·simp [h]
theorem Vf{α:Type}[DecidableEq α](kvs:List (α × sr))(k:α)(v:sr)(x:α):valueAt (stored kvs k v) x=if x=k then AX v else valueAt kvs x:=by
 unfold stored valueAt;split
 ·rename_i h;rw[W5];by_cases e:x=k
  ·subst e;rw[if_pos rfl];obtain⟨p,hp,hk⟩:=By.mp h
   cases hf:kvs.find? λkv=>kv.1=x with
   | none =>
    have:=Bz.mp hf p hp;exact absurd hk this
   | some q =>
    have hq:=dJ hf;have hq':q.1=x:=by simpa using hq
    simp [hq']
  ·rw[if_neg e]
   cases hf:kvs.find? λkv=>kv.1=x with
   | none=>rfl
   | some q =>
    have hq:=dJ hf;have hq':q.1=x:=by simpa using hq
    have:¬ q.1=k:=λz=>e (hq'.symm.trans z);simp [this]
 ·rename_i h;rw[List.find?_append];by_cases e:x=k
  ·subst e;rw[if_pos rfl]
   have:kvs.find? (λkv=>kv.1=x)=AY:=by
    rw[d6];intro p hp hk;exact h (By.mpr #[p,hp,hk])
   rw[this];simp
  ·have e':¬ k=x:=λz=>e z.symm;rw[if_neg e];simp [e']
section
variable{X:Cx}{pos:tG}
end
noncomputable def jP(P:sy)(w:sC)(a:sq)(m:sB->Option V)(n:Nat):HO:=.ext λh=>(a == sysModules)=Ba/\∃kvs:List (sB × sr),h.DictOf (cX P w) a kvs/\kvs.length<=n/\∀k,RelO (m k) (valueAt kvs k)
theorem Jd{P:sy}{w:sC}{H:Hp}{h:sI}{a:sq}{m:sB->Option V}{n:Nat}{kvs:List (sB × sr)}(hs:(a == sysModules)=Ba)(d:h.DictOf (cX P w) a kvs)(hl:kvs.length<=n)(r:∀k,RelO (m k) (valueAt kvs k)):ObjOk P w H h a (jP P w a m n) :=
 #[#[hs,kvs,d,hl,r],(let #[o,es,ep,ho,_]:=d; #[o,ho]),λh1 h2 ⟨hs,kvs,⟨o,es,ep,ho,rest⟩,z⟩ k=>#[hs,kvs,#[o,es,ep,k _ ho,rest],z]]
section
variable{X:Cx}{pos:tG}
theorem Inv.beyond{Bb:List (sq × sX)}{σ:L2.St}{H:Hp}{s:su}(I:Inv X Bb σ H s):(s⁻¹ == sysModules)=Ba:=by
 obtain⟨o,es,ep,e,_⟩:=I.ok.mod.glob;have h1:=ao e;have h2:=I.ok.bsz;have h3:=I.sz;have h4:1<=si:=∅;have h5:1<s⁻¹:=aw (cf h4 h1) (aM h2 h3);rw[beq_eq_false_iff_ne];intro z;exact cp h5 z
def zdR(P:sy)(w:sC):TE:=λ_ H Q=>∀p,H p=AY->Q (.ref p) (upd H p (jP P w p (λ_=>AY) 0))
theorem za9:PE X (.Dict [] [] pos) (zdR X.prog X.w):=λBb s σ H Q I h =>
 wpAny_Dict_empty #[.ref s⁻¹,_,I.laid (a:=s⁻¹) (t':=s.toks) (λ_ _ q=>ac _ q) (al _) (Jd (m:=λ_=>AY) (Inv.beyond I) (Heap.DictOf.new s.heap) (al _) λ_=>trivial),rfl,h _ (I.hok.fresh (al _))]
theorem Inv.tdic{Bb:List (sq × sX)}{σ:L2.St}{H:Hp}{s:su}{a:sq}{m:sB->Option V}{n:Nat}(I:Inv X Bb σ H s)(h:H a=AX (jP X.prog X.w a m n)):(a == sysModules)=Ba/\∃kvs:List (sB × sr),s.heap.DictOf (cX X.prog X.w) a kvs/\kvs.length<=n/\∀k,RelO (m k) (valueAt kvs k):=(I.hok _ _ h).1
def zft(P:sy)(w:sC):R2:=λx y H Q=>∃a m n k v,x=.ref a/\y=.str k/\H a=AX (jP P w a m n)/\m k=AX v/\Q v H
theorem za4:IxR X (zft X.prog X.w):=by
 intro value slice Bb s σ H x y v u Q I rx ry h hs;obtain⟨a,m,n,k,z,rfl,rfl,ha,hk,q⟩:=h;cases rx;obtain⟨t,rfl⟩:=ry;obtain⟨_,kvs,dd,hl,r⟩:=Inv.tdic I ha;obtain⟨w',hw,rw'⟩:=RelO.some_of (v:=z) (o:=valueAt kvs k) (by rw[<- hk];exact r k);exact tail_any dd.typeIs slot_dict_getitem.lookup (wpAny_getItem_of (knd:=cX X.prog X.w) (strKind_is _ _ _ _) dd.mapOf hw #[z,H,I.tok _,rw',q]) hs
def zei(P:sy)(w:sC):V->V->V->Hp->(Hp->Prop)->Prop:=λo i v H Q=>∃a m n k,o=.ref a/\i=.str k/\H a=AX (jP P w a m n)/\n<=100000/\Q (upd H a (jP P w a (λx=>if x=k then AX v else m x) (n+1)))
theorem JU:zgk X (zei X.prog X.w):=by
 intro Bb s σ H o i v ov iv u Q I ro ri rv h;obtain⟨a,m,n,k,rfl,rfl,ha,hn,q⟩:=h;cases ro;obtain⟨t,rfl⟩:=ri;obtain⟨hsm,kvs,dd,hl,r⟩:=Inv.tdic I ha;have s16:=zP;refine wpAny_setItem_pairs (knd:=cX X.prog X.w) (hsz:=by lia) (strKind_is _ _ _ _) dd λh' dd' hs=>#[_,?_,q];have he:∃q,h'.get? a=AX q:=let #[q,_,_,hq,_]:=dd'; #[q,hq];refine I.write (x:=a) (e:=a) (by rw[ha];exact True.intro) (.inl rfl) (λb q hb z=>(hs.2 b hb).trans z) he (Jd hsm dd' (aM (stored_length_le _ _ _) ⋯) λx=>?_);rw[Vf];by_cases e:x=k
 ·rw[if_pos e,if_pos e];exact rv
 ·rw[if_neg e,if_neg e];exact r x
def zc8(P:sy)(w:sC):R2:=λx y H Q=>∃a m n k,x=.str k/\y=.ref a/\H a=AX (jP P w a m n)/\Q (.bl (m k).isNone) H
theorem JF:OpR X (sK .NotIn) (zc8 X.prog X.w):=by
 intro Bb s σ H x y v u Q I rx ry h;obtain⟨a,m,n,k,rfl,rfl,ha,q⟩:=h;obtain⟨t,rfl⟩:=rx;cases ry;obtain⟨hsm,kvs,dd,hl,r⟩:=Inv.tdic I ha;refine wpAny_notIn_of (knd:=cX X.prog X.w) (strKind_is _ _ _ _) hsm dd.mapOf ?_
 have e:(!(valueAt kvs k).isSome)=(m k).isNone:=by
  have:=r k
  cases hm:m k with
  | none =>
   cases hv:valueAt kvs k with
   | none=>rfl
   | some z=>rw[hm,hv]at this;exact this.elim
  | some z0 =>
   cases hv:valueAt kvs k with
   | none=>rw[hm,hv]at this;exact this.elim
   | some z=>rfl
 rw[e];exact#[.bl _,H,I.tok _,rfl,q]
end
section
variable{X:Cx}{scope:tw}{own caps:List sB}{ix:()}{elt tg iter:sF}{ifs:List sF}{pos:tG}{wi:TI}{g:TG}{tt:TT}{te:TE}
theorem qb{EX:XK}(hc:X.calm=AZ)(S:kj X scope own caps ix)
  (hg:∀cl C Bb s3 H3 fp,PG (yx X scope cl C (own ++ caps) Bb s3 H3 fp λ_ _=>False) tg g)
  (ht:∀cl C Bb s3 H3 fp xe,XE (yx X scope cl C (own ++ caps) Bb s3 H3 fp xe) EX->PTs (yx X scope cl C (own ++ caps) Bb s3 H3 fp xe) ifs tt)
  (hst:X.stack=X.env::X.outer/\X.env.frame=AX X.env.locals) (hxe:XE X EX) (he:∀cl C Bb s3 H3 fp xe,XE (yx X scope cl C (own ++ caps) Bb s3 H3 fp xe) EX->PE (yx X scope cl C (own ++ caps) Bb s3 H3 fp xe) elt te)
  {cl:List (sB × sq)} (hc1:∀y c,cl.lookup y=AX c->X.env.cells.lookup y=AX c) (hc2:∀y,(y,NameKind.free) ∈ scope.names->∃c,cl.lookup y=AX c)
  {Bb:List (sq × sX)} {σ:St} {H2:Hp} {s2:su} {Q:VK} {it:sq} {fp:List sq} {tn:Nat->sI->Prop} {J:It} (I2:Inv X Bb σ H2 s2) (T:Jx X.prog X.w X.K tg J fp it tn) (st2:tn 0 s2.heap) (f2:∀b ∈ fp,wm X Bb H2 b)
  (q:∀D,H2 D=AY->∃W:Nat->Nat->List V->Hp->Prop,(∃m,W 0 m [] (upd H2 D (.lst []))) /\
   ∀i m Bd H',W i m Bd H'->(J.stop i H'/\Q (.ref D) H')\/(J.go i H'/\∀x H2,J.yld i H' x H2->g x (vC σ own.length ix) H2 λσ3 H3=>xb (vC σ own.length ix) σ3/\tt σ3 H3 λb H4=>if b=AZ then
    te σ3 H4 λv H5=>H5 D=AX (.lst Bd)/\Bd.length<sk/\∃m',m'<m/\W (i+1) m' (Bd ++ [v]) (upd H5 D (.lst (Bd ++ [v])))
    else ∃m',m'<m/\W (i+1) m' Bd H4))
  {RR:sr->sq->As->su->Prop} {E:sr->su->Prop}
  (hRR:∀D C m s' H',H2 D=AY->s'.heap.Ns C m->wm X Bb H' C->Inv X Bb σ H' s'->Q (.ref D) H'->RR (.ref D) C (.ok .next) s')
  (hRE:∀D C m s' x,s'.heap.Ns C m->(∀h',Heap.SameBut C s'.heap h'->∀cenv:Al,cenv.locals=C->sw (model X.prog X.w) X.A (fL "comprehension.variables-let-go" x cenv:AO sr) (λ_ _=>False) X.xe { s' with heap:=h' })->RR (.ref D) C (.error x) s') :
  sw (model X.prog X.w) X.A (newList []) (λBd s3=>sw (model X.prog X.w) X.A (newFunctionEnv scope X.env.globals cl [] X.env.qual AY .none (AX X.env)) (λcenv s4 =>
   tN (model X.prog X.w) X.A (.compStart (.ListComp elt [#[tg,iter,ifs,0]] scope pos) 0 (.ref it) Bd { cenv with scope:=relabel scope X.env }) (RR Bd cenv.locals) s4) E s3) E s2:=by
 have hD:H2 s2⁻¹=AY:=I2.hok.fresh (al _);obtain⟨W,⟨m0,w0⟩,turn⟩:=q _ hD;refine AD (Ao S.nocell (by intro y hy;simp at hy) (λh1 hns1 hsb1=>?_) S.kind);dsimp only at hns1 hsb1 ⊢
 have I3:Inv X Bb σ (upd H2 s2⁻¹ (.lst [])) { s2 with heap:=s2.heap.push { cls:=.type "list",dict:=AY,data:=.seq ([]:List sr).toArray } } :=
  I2.lnew (its:=[]) (t':=s2.toks) .nil (aD _)
 generalize hs3:({ s2 with heap:=s2.heap.push { cls:=.type "list",dict:=AY,data:=.seq ([]:List sr).toArray } }:su)=s3 at I3;have e3:s2.heap.push { cls:=.type "list",dict:=AY,data:=.seq ([]:List sr).toArray }=s3.heap:=by rw[<- hs3]
 rw[e3]at hns1 hsb1 ⊢;have k1:∀b o,s3.heap.get? b=AX o->h1.get? b=AX o:=λb o e=>(hsb1.2 b (aA (ao e))).trans (ac _ e);have k23:∀b o,s2.heap.get? b=AX o->s3.heap.get? b=AX o:=λb o e=>by rw[<- e3];exact ac _ e
 have hz:s3⁻¹=s2⁻¹+1:=by rw[<- e3,bQ]
 have fpObj:∀b ∈ fp,∃o,s2.heap.get? b=AX o:=λb hb=>let #[o,e,_]:=T.obj 0 _ st2 b hb; #[o,e];have fplt:∀b ∈ fp,b<s2⁻¹:=λb hb=>let #[o,e]:=fpObj b hb;ao e;have f3:∀b ∈ fp,wm X Bb (upd H2 s2⁻¹ (.lst [])) b:=λb hb=>#[by rw[zm (aA (fplt b hb))];exact (f2 b hb).1,(f2 b hb).2]
 have I4:Inv (yx X scope cl s3⁻¹ (own ++ caps) Bb s3 (upd H2 s2⁻¹ (.lst [])) fp λ_ _=>False) [] (vC σ own.length ix) (upd H2 s2⁻¹ (.lst [])) { s3 with heap:=h1,toks:=s3.toks+([]:List (sB × sr)).length } :=
  Vn S hc1 hc2 I3 f3 (λb hb=>by rw[hz];exact cN (fplt b hb)) hns1 k1
 have st4:tn 0 h1:=T.keep 0 _ _ st2 λb hb o e=>k1 b o (k23 b o e);generalize hs4:({ s3 with heap:=h1,toks:=s3.toks+([]:List (sB × sr)).length }:su)=s4 at I4;have es4:({ s2 with heap:=h1,toks:=s2.toks+([]:List (sB × sr)).length }:su)=s4:=by rw[<- hs4,<- hs3]
 have e4:h1=s4.heap:=by rw[<- hs4]
 have loop:tN (model X.prog X.w) X.A (.compLoop (.ListComp elt [#[tg,iter,ifs,0]] scope pos) 0 (.ref it) (.ref s2⁻¹) (compEnvC scope cl s3⁻¹ X.env)) (RR (.ref s2⁻¹) s3⁻¹) s4:=by
  let X':=yx X scope cl s3⁻¹ (own ++ caps) Bb s3 (upd H2 s2⁻¹ (.lst [])) fp λ_ _=>False
  have fp':∀{H':Hp},(∀b ∈ fp,H' b=AY)->∀b ∈ fp,wm X' [] H' b:=λ{H'} hn b hb=>by
   obtain⟨_,a1,a2,a3,a4,a5⟩:=f3 b hb;refine#[hn b hb,aA (show b<s3⁻¹ from by rw[hz];exact cN (fplt b hb)),λz=>?_,.inl hb,λx c e=>a4 x c (hc1 x c e),λp hp=>?_]
   ·rcases Bg.mp (I3.stkSub b z)with e | e
    ·exact a1 e
    ·exact a2 e
   ·have:p ∈ (X.pn ++ Bb) ++ []:=hp;rw[aT]at this;exact a5 p this
  refine Ue (λn s'=>∃i Bd H',Inv X' [] (vC σ own.length ix) H' s'/\tn i s'.heap/\(∀b ∈ fp,H' b=AY)/\W i n Bd H') rfl ?_ m0 #[0,[],_,I4,by rw[<- e4];exact st4,λb hb=>(f3 b hb).1,w0];rintro n s5 ⟨i,Bd,H5,I5,st5,fr5,w5⟩;refine tE ?_;rcases turn i n Bd H5 w5 with ⟨stop,qn⟩ | ⟨go,step⟩
  ·refine thn (T.done X' rfl rfl rfl hc i [] s5 _ H5 _ I5 (fp' fr5) st5 stop) λr s6 ⟨hr,I6⟩=>?_;subst hr;obtain⟨m,hm,_⟩:=I6.loc;refine hRR _ _ m s6 H5 hD hm (I3.fpOk (al _) I6.free) (I3.call' (s':=s6) I6.os I6.base I6.hok I6.bare λb hb=>?_) qn;obtain⟨_,a1,a2,a3,a4,a5⟩:=f3 b hb;exact#[a3,a1,a4,a5]
  ·refine thn (T.item X' rfl rfl rfl hc i [] s5 _ H5 (λ_ _=>False) I5 (fp' fr5) st5 go) λr s6 ⟨u,hr,h6⟩=>?_;subst hr;refine tE (thn h6 λ_ s7 ⟨x,H7,I7,r7,y7,st7,fr7⟩=>?_);have I7':=I7.pinned (fp' fr7) (T.obj _ _ st7);refine tE (thn (hg _ _ _ _ _ _ _ s7 _ H7 x u _ I7' r7 (step x H7 y7)) λ_ s8 ⟨σ8,H8,I8,ks,q8⟩=>?_);refine thn (ht cl _ Bb s3 (upd H2 s2⁻¹ (.lst [])) fp _ (λe s hfl=>Qg (RE:=λe s'=>RR (.ref s2⁻¹) s3⁻¹ (.error e) s') hst hxe hc1 I3 f3 hfl λm s' x a b=>hRE _ _ m s' x a b) _ s8 σ8 H8 _ (I8.wish _) q8) λb s9 ⟨H9,I9',q9⟩=>?_;have I9:=Inv.unwish (X:=X') I9'
   have back:∀{s':su} {H':Hp} {acc':List V} {m':Nat},Inv X' ([] ++ YJ fp s7.heap) σ8 H' s'->m'<n->W (i+1) m' acc' H'->∃m,m<n/\∃i Bd H',Inv X' [] (vC σ own.length ix) H' s'/\tn i s'.heap/\(∀b ∈ fp,H' b=AY)/\W i m Bd H':=λ{s' H' acc' m'} J' hm w'=>by
    refine#[m',hm,i+1,acc',H',(J'.unpinned).weak ks.1 ks.2,T.keep _ _ _ st7 λb hb o e=>(J'.pin (b,o) (aC _ (aC _ (vk hb e)))).1,λb hb=>?_,w'];obtain⟨o,e,d⟩:=T.obj _ _ st7 b hb;exact (J'.pin (b,o) (aC _ (aC _ (vk hb e)))).2.1
   cases b with
   | false =>
    rw[if_neg az]at q9 ⊢;obtain⟨m',hm,w'⟩:=q9;exact back I9 hm w'
   | true =>
    rw[if_pos rfl]at q9 ⊢;refine thn (he cl _ Bb s3 (upd H2 s2⁻¹ (.lst [])) fp _ (λe s hfl=>Qg (RE:=λe s'=>RR (.ref s2⁻¹) s3⁻¹ (.error e) s') hst hxe hc1 I3 f3 hfl λm s' x a b=>hRE _ _ m s' x a b) _ s9 σ8 H9 _ (I9.wish _) q9) λv s10 ⟨y,H10,I10',r10,hD10,hsz,m',hm,w'⟩=>?_;have I10:=Inv.unwish (X:=X') I10';refine tE ?_;have:=xq (X:=X') _ s10 σ8 H10 (.ref s2⁻¹) [y] (.ref s2⁻¹) [v] (λ_ H'=>H'=upd H10 s2⁻¹ (.lst (Bd ++ [y]))) I10 rfl (.cons r10 .nil) #[Bd,hD10,hsz,rfl];refine thn this λ_ s11 ⟨_,H11,I11,_,eH⟩=>?_;subst eH;exact back I11 hm w'
 have goal:tN (model X.prog X.w) X.A (.compStart (.ListComp elt [#[tg,iter,ifs,0]] scope pos) 0 (.ref it) (.ref s2⁻¹) (compEnvC scope cl s3⁻¹ X.env)) (RR (.ref s2⁻¹) s3⁻¹) s4 :=
  codeAny_compStart_list loop (T.self _ 0 s4 _ _ (by rw[<- e4];exact st4) loop)
 rw[<- es4]at goal;exact goal
theorem Yr{EX:XK}(hc:X.calm=AZ)(S:kj X scope own caps ix)(hst:X.stack=X.env::X.outer/\X.env.frame=AX X.env.locals)(hxe:XE X EX)(hi:PI X tg iter wi)
  (hg:∀cl C Bb s3 H3 fp,PG (yx X scope cl C (own ++ caps) Bb s3 H3 fp λ_ _=>False) tg g)
  (ht:∀cl C Bb s3 H3 fp xe,XE (yx X scope cl C (own ++ caps) Bb s3 H3 fp xe) EX->PTs (yx X scope cl C (own ++ caps) Bb s3 H3 fp xe) ifs tt)
  (he:∀cl C Bb s3 H3 fp xe,XE (yx X scope cl C (own ++ caps) Bb s3 H3 fp xe) EX->PE (yx X scope cl C (own ++ caps) Bb s3 H3 fp xe) elt te)
  (hs:∀x,foldedSetIterable iter X.env x=pure x:=by intro _;rfl) :
  PE X (.ListComp elt [#[tg,iter,ifs,0]] scope pos) (j8 wi g tt te own.length ix):=by
 intro Bb s σ H Q I h;obtain⟨cl,hclos,hc1,hc2⟩:=uk (scope:=scope) (env:=X.env) λy hy=>I.ok.has y (S.free y hy);rw[eval_ListComp];refine Ad (use:=AY) rfl hs hclos S.kind S.names (thn (hi Bb s σ H _ I h) λv s1 h1=>thn h1 λitv s2 h2=>?_);obtain⟨it,fp,tn,J,H2,e,I2,T,st2,f2,q⟩:=h2;subst e;refine qb (RR:=λBd C=>compPost (model X.prog X.w) X.A X.xe AY (EP X Bb σ Q) Bd C) hc S hg ht hst hxe he hc1 hc2 I2 T st2 f2 q ?_ ?_
 ·intro D C m s' H' _ hn fc I' qn;obtain⟨a0,a1,a2,a3,a4,a5⟩:=fc;exact#[m,hn,λh' sb=>#[.ref D,H',I'.turned (t':=s'.toks) (λb o hb e=>(sb.2 b hb).trans e) a0 a1 a3 a4 a5,rfl,qn]]
 ·intro D C m s' x hn hp;exact#[m,hn,hp]
theorem xeN:XE X E0:=λe s h=>by
 obtain⟨_,_,_,_,_,_,_,_,_,_,_,_,_,_,h⟩:=h;exact h.elim
theorem zem{e:sF}{t:TE}(h:PE (X.wish λ_ _=>False) e t):PE X e t:=λBb s σ H Q I hq=>tE (thn (h Bb s σ H Q (I.wish _) hq) λv s' ⟨x,H',I',r,q⟩=>#[x,H',I'.unwish,r,q])
theorem za1{t:TT}(h:PTs (X.wish λ_ _=>False) ifs t):PTs X ifs t:=λBb s σ H Q I hq=>tE (thn (h Bb s σ H Q (I.wish _) hq) λv s' ⟨H',I',q⟩=>#[H',I'.unwish,q])
theorem xz(hc:X.calm=AZ)(S:kj X scope own caps ix)(hi:PI X tg iter wi)
  (hg:∀cl C Bb s3 H3 fp,PG (yx X scope cl C (own ++ caps) Bb s3 H3 fp λ_ _=>False) tg g)
  (ht:∀cl C Bb s3 H3 fp,PTs (yx X scope cl C (own ++ caps) Bb s3 H3 fp λ_ _=>False) ifs tt)
  (he:∀cl C Bb s3 H3 fp,PE (yx X scope cl C (own ++ caps) Bb s3 H3 fp λ_ _=>False) elt te)
  (hst:X.stack=X.env::X.outer/\X.env.frame=AX X.env.locals:=by exact#[rfl,rfl]) (hs:∀x,foldedSetIterable iter X.env x=pure x:=by intro _;rfl) :
  PE X (.ListComp elt [#[tg,iter,ifs,0]] scope pos) (j8 wi g tt te own.length ix) :=
 Yr hc S hst xeN hi hg (λa b c d e f _ _=>za1 (ht a b c d e f)) (λa b c d e f _ _=>zem (he a b c d e f)) hs
theorem V5{i:Nat}{y:sB}{py spos:tG}(hN:X.N.Nodup)(hy:X.N[i]? = AX y)(hly:Loc X.env.scope y)(hf:X.fn y=AZ\/X.env.scope.names.lookup y=AX .local)(hc:X.calm=AZ)(S:kj X scope own caps ix)(hi:PI X tg iter wi)
  (hg:∀cl C Bb s3 H3 fp,PG (yx X scope cl C (own ++ caps) Bb s3 H3 fp λ_ _=>False) tg g)
  (ht:∀cl C Bb s3 H3 fp,PTs (yx X scope cl C (own ++ caps) Bb s3 H3 fp λ_ _=>False) ifs tt)
  (he:∀cl C Bb s3 H3 fp,PE (yx X scope cl C (own ++ caps) Bb s3 H3 fp λ_ _=>False) elt te)
  (hst:X.stack=X.env::X.outer/\X.env.frame=AX X.env.locals:=by exact#[rfl,rfl])
  (hsw:swapsWith (.ListComp elt [#[tg,iter,ifs,0]] scope pos) (AX (.Name y py)) spos.line X.env=pure AZ:=by rfl)
  (hs:∀x,foldedSetIterable iter X.env x=pure x:=by intro _;rfl) :
  PS X (.Assign [.Name y py] (.ListComp elt [#[tg,iter,ifs,0]] scope pos) spos) (Zd i (j8 wi g tt te own.length ix)):=by
 intro Bb s σ H D I h;obtain⟨cl,hclos,hc1,hc2⟩:=uk (scope:=scope) (env:=X.env) λy hy=>I.ok.has y (S.free y hy);rw[exec_Assign_Name_used _ _ _ _ hsw];refine rZ (tD (rZ ?_));show sw _ X.A (do let _ <- comprehension (.ListComp elt [#[tg,iter,ifs,0]] scope pos) scope X.env _ (newList []) Ba (eval iter X.env) (AX (assign (.Name y py) X.env))) _ _ s;refine rZ (thn (Ad (use:=AX (assign (.Name y py) X.env)) (Q:=λ_ s'=>SP X Bb D .next s') rfl hs hclos S.kind S.names (thn (hi Bb s σ H _ I h) λv s1 h1=>thn h1 λitv s2 h2=>?_)) λ_ s' hq=>sf (sf hq));obtain⟨it,fp,tn,J,H2,e,I2,T,st2,f2,q⟩:=h2;subst e;refine qb (Q:=λx H1=>D.nx (σ.set i (AX x)) H1) (RR:=λBd C=>compPost (model X.prog X.w) X.A X.xe (AX (assign (.Name y py) X.env)) (λ_ s'=>SP X Bb D .next s') Bd C) hc S hg (λa b c d e f _ _=>za1 (ht a b c d e f)) hst xeN (λa b c d e f _ _=>zem (he a b c d e f)) hc1 hc2 I2 T st2 f2 q ?_ λD C m s' x hn hp=>#[m,hn,hp];intro D' C m s' H1 hD' hn fc I1 nx;obtain⟨a0,a1,a2,a3,a4,a5⟩:=fc;show sw _ X.A (assign (.Name y py) X.env (.ref D')) _ _ s';refine AE (Yp I1 hN hy hly (v:=.ref D') rfl (λs'' I2' ⟨a,sb,ha⟩=>?_) hf)
 have hCa:C≠a:=by
  rcases ha with e | e
  ·rw[e];exact a1
  ·exact λz=>a4 _ _ e z.symm
 refine#[m,hn.sameBut sb hCa,λh' sb'=>#[_,H1,I2'.turned (t':=s''.toks) (λb o hb e=>(sb'.2 b hb).trans e) a0 a1 a3 a4 a5,nx]]
end
section
variable{X:Cx}{scope:tw}{own caps:List sB}{ix:()}{cl:List (sB × sq)}{Bb:List (sq × sX)}{σ:St}{H:Hp}{s:su}{fp:List sq}{E:sr->su->Prop}
end
section
variable{X:Cx}{scope:tw}{own caps:List sB}{ix:()}{elt tg iter:sF}{ifs:List sF}{pos:tG}{wi:TI}{g:TG}{tt:TT}{te:TE}
end
section
variable{X:Cx}
end
section
variable{X:Cx}{Bb:List (sq × sX)}{σ:L2.St}{H:Hp}{s:su}
end
end L3
namespace LL
open PySem L2 L3
noncomputable def top(i:Nat):sJ:=PySem.Challenge.pw_letterlaw_k85_whole_two_orders_agree.main.body.getD i (.Pass #[0,0,0,0])
noncomputable abbrev yD:sJ:=yt (top 5) 0
noncomputable abbrev zZ:sJ:=yt (top 6) 0
noncomputable abbrev yS:sJ:=top 12
noncomputable abbrev wU:sJ:=top 13
noncomputable abbrev vP:sJ:=top 14
noncomputable abbrev zbD:sJ:=top 15
noncomputable abbrev W7:sJ:=top 17
noncomputable abbrev Zv:sJ:=top 18
noncomputable abbrev xO:sJ:=top 21
noncomputable abbrev wV:sJ:=top 22
noncomputable abbrev vD:sJ:=top 23
noncomputable abbrev wf:sJ:=yt (top 24) 0
noncomputable abbrev yA:sJ:=yt (top 24) 1
noncomputable abbrev Xt:sJ:=top 26
noncomputable abbrev u7:sJ:=top 27
noncomputable abbrev Qx:sJ:=top 28
noncomputable abbrev jE:sJ:=top 29
noncomputable abbrev Zc:sJ:=top 30
noncomputable abbrev xF:sJ:=top 31
noncomputable abbrev uZ:sJ:=top 37
noncomputable abbrev vf:sJ:=top 38
noncomputable abbrev vI:sJ:=top 39
noncomputable abbrev jA:sJ:=top 40
noncomputable abbrev yC:sJ:=top 41
noncomputable abbrev xK:sJ:=top 42
noncomputable abbrev xu:sJ:=top 43
noncomputable abbrev va:sJ:=top 44
noncomputable abbrev qM:sJ:=top 45
noncomputable abbrev yH:sJ:=top 51
noncomputable abbrev wb:sJ:=top 52
noncomputable abbrev yZ:sJ:=top 53
noncomputable abbrev xN:sJ:=top 54
noncomputable abbrev uB:sJ:=top 55
noncomputable abbrev wk:sJ:=top 56
noncomputable abbrev vo:sJ:=top 59
noncomputable abbrev ve:sJ:=yt (top 60) 0
noncomputable abbrev wu:sJ:=yt (top 60) 1
noncomputable abbrev vN:sJ:=yt (top 60) 3
noncomputable abbrev xP:sJ:=yt (top 60) 5
noncomputable abbrev xI:sJ:=yt (top 60) 6
noncomputable abbrev wa:sJ:=top 63
noncomputable abbrev xm:sJ:=top 64
noncomputable abbrev vq:sJ:=top 65
noncomputable abbrev xY:sJ:=top 66
noncomputable abbrev wl:sJ:=top 67
noncomputable abbrev wv:sJ:=top 71
noncomputable abbrev yP:sJ:=top 72
noncomputable abbrev yI:sJ:=top 73
noncomputable abbrev Zp:sJ:=top 74
noncomputable abbrev wQ:sJ:=yt (top 77) 0
noncomputable abbrev xE:sJ:=yt (top 77) 1
noncomputable abbrev wD:sJ:=yt (top 77) 2
noncomputable abbrev xw:sJ:=yt (top 77) 3
noncomputable abbrev xD:sJ:=yt (top 77) 4
noncomputable abbrev y0:sJ:=yt (top 78) 0
noncomputable abbrev y8:sJ:=yt (top 79) 0
noncomputable abbrev yn:sJ:=yt (top 79) 1
noncomputable abbrev V0:sJ:=top 81
noncomputable abbrev YW:sJ:=top 82
noncomputable abbrev qP:sJ:=top 83
noncomputable abbrev V8:sJ:=top 85
noncomputable abbrev QW:sJ:=top 86
noncomputable abbrev YX:sJ:=top 87
noncomputable abbrev Xa:sJ:=top 88
noncomputable abbrev VV:sJ:=top 89
noncomputable abbrev UJ:sJ:=top 90
noncomputable abbrev Y4:sJ:=top 91
noncomputable abbrev zb9:sJ:=top 92
noncomputable abbrev XO:sJ:=top 93
noncomputable abbrev jg:sJ:=top 94
noncomputable abbrev vt:sJ:=top 95
noncomputable abbrev Za:sJ:=top 96
noncomputable abbrev ZT:sJ:=top 97
noncomputable abbrev jX:sJ:=top 98
section
variable{P:sy}{w:sC}{K:so}{mg:sB->Option sr}{base:sI}
seal L2.PE L2.PS L2.PA L2.PT L2.PSs L2.PI L2.PG L2.PW L2.PGs
local macro_rules | `($a<<<$b)=>`(Df $(Lean.mkIdent `P) $(Lean.mkIdent `w) $(Lean.mkIdent `K) $(Lean.mkIdent `mg) $(Lean.mkIdent `base) CX0 $a $b)
local macro_rules | `($a>>>$b)=>`(Df $(Lean.mkIdent `P) $(Lean.mkIdent `w) $(Lean.mkIdent `K) $(Lean.mkIdent `mg) $(Lean.mkIdent `base) (CXx $(Lean.mkIdent `P) $(Lean.mkIdent `w)) $a $b)
local macro_rules | `($a&&&$b)=>`(zQ $(Lean.mkIdent `P) $(Lean.mkIdent `w) $(Lean.mkIdent `K) $(Lean.mkIdent `mg) $(Lean.mkIdent `base) CX0 $a $(Lean.mkIdent `f) $(Lean.mkIdent `fd) $b)
local macro_rules | `($a|||$b)=>`(zQ $(Lean.mkIdent `P) $(Lean.mkIdent `w) $(Lean.mkIdent `K) $(Lean.mkIdent `mg) $(Lean.mkIdent `base) (CXx $(Lean.mkIdent `P) $(Lean.mkIdent `w)) $a $(Lean.mkIdent `f) $(Lean.mkIdent `fd) $b)
local macro_rules | `(!!$a)=>`(AX (.ref $a))
local macro_rules | `(~~~$a)=>`(AX (.str (tx $a)))
local macro_rules | `(-~~~$a)=>`(AX (.int (($a):Nat)))
local macro_rules | `(~~~!$a)=>`(AX (.int $a))
local macro_rules | `($a^^^$b)=>`(Fun $(Lean.mkIdent `K) $a $a $b $(Lean.mkIdent `f) $(Lean.mkIdent `fd))
noncomputable abbrev sQz(n:Nat)(a:List PySem.Str)(s:PySem.Stmt):=zk a (a.take n) (zh s)
local macro_rules | `(tactic| rfl')=>do
 let A0←("zfD zeZ zfl zeV zfH zfV zfz zfp zeY zeT zeO ze5 ze9 zfu zfn zcb zb5 zco zcr zbY zbl zce zcn zbT zfJ zeX zfx zfO zeP zfj zfo zeR zbZ zcG za7 zbx zcd zbs zbQ zbV".splitOn " ").toArray.mapM fun s=>`(Lean.Parser.Tactic.simpLemma| ↓$(Lean.mkIdent s.toName):ident)
 let A1←("zeK Ko zaD zeI QV tOp tUn tC uR zM xH tCB zcR yy Kh zcO zez tOr U1 zeH UQ kA tIf rI rI0 rU rGe zdb jD zbO zcP zd0 zes tSl ZD Yg Jy zdE tBM zeJ zba zbd L2.start zfF cxK cxP cxW au aL aJ bU cz dW Nat.reduceAdd Nat.reduceSub cI di aU aV br bv vC eL eM".splitOn " ").toArray.mapM fun s=>`(Lean.Parser.Tactic.simpLemma| $(Lean.mkIdent s.toName):ident)
 let A2←("zdv za0 zaL zaV zgh zfD zeZ zfl zeV zfH zfV zfz zfp zeY zeT zeO ze5 ze9 zfu zfn zcb zb5 zco zcr zbY zbl zce zcn zbT zfJ zeX zfx zfO zeP zfj zfo zeR zbZ zcG za7 zbx zcd zbs zbQ zbV".splitOn " ").toArray.mapM fun s=>`(Lean.Parser.Tactic.simpLemma| ↓$(Lean.mkIdent s.toName):ident)
 let A3←("zeK vC eL eM rU Zd zan zdx zdC Ko zaD zeI QV tOp tUn Qc tC uR zM xH tCB zcR yy Kh zcO zez tOr U1 zeH UQ kA tIf rI rI0 rEq_is rNe_is zdb jD zbO zd0 zes zcP tSl ZD Yg rGe decide_false decide_true Prod.mk.injEq rLen_is zdf zeL WN Xg tyV tBM zeJ if_true if_false bD decide_eq_true_eq decide_eq_false_iff_not dn fA fk lt1 Jy zdE zbg jZ zbb Xf Xo zdn zd6 zdm zc5 zdW zd8 Value.ref.injEq L2.start zd5 zdV zgm zf1 zfY zda zf5 zba zbd zf7 QR zds zcQ ze6 kW Jn Z3 wP XF z6 zfF zat zdH cxK cxP cxW au aL aJ bU cz dW Nat.reduceAdd Nat.reduceSub and_assoc zeg exists_eq exists_eq' exists_eq_left' exists_eq_left exists_eq_right exists_eq_right' exists_and_left exists_and_right V.int.injEq V.ref.injEq V.str.injEq V.bl.injEq V.ty.injEq reduceCtorEq false_and and_false true_and and_true or_false false_or exists_false exists_const cI di Option.some.injEq aU aV List.cons.injEq aT br bv zae zam zaQ zaB".splitOn " ").toArray.mapM fun s=>`(Lean.Parser.Tactic.simpLemma| $(Lean.mkIdent s.toName):ident)
 `(tactic| first | (dsimp only[$A0,*,$A1,*];try simp only[$A2,*,$A3,*]) | simp only[$A2,*,$A3,*])
local macro_rules | `(tactic| ac_rfl)=>do
 let A0←("yc zu zH yf ye zw".splitOn " ").toArray.mapM fun s=>`(Lean.Parser.Tactic.simpLemma| $(Lean.mkIdent s.toName):ident)
 `(tactic| repeat (first | rfl' | simp only[$A0,*]))
theorem xe0{X:Cx}:XE X E0:=λe s h=>by
 obtain⟨_,_,_,_,_,_,_,_,_,_,_,_,_,_,h⟩:=h;exact h.elim
def small(l:()):Prop:=∀c ∈ l,97<=c/\c<=122
noncomputable instance (l:()):Decidable (small l):=by unfold small;infer_instance
noncomputable def uU(l:()):Bool:=decide (1<=l.length/\l.length<=6/\small l/\l.Nodup)
def Zm:Sp:=λvs H Q _=>∃c:Nat,vs=[.str (tx [c])]/\Q (.bl (decide (97<=c/\c<=122))) H
theorem Kg:sQz 1 ["sign"] yS:=by nofun
theorem J7{f:sq}{fd:sv}(F:("is_small_letter"^^^yS)):(1&&&["sign"]) Zm:=by
 exists F.ok Kg
 ·obtain⟨c,rfl,q⟩:=h;refine#[_,(zf (zl (WM xy xy zS (pv 0) zS))),?_];have ea:cs (("a" : sB))=[97]:=rfl;have ez:cs (("z" : sB))=[122]:=rfl
  rfl'
  erw[ea,ez,XF,lt1]
  refine yq (λh=>?_) λh=>?_
  ·have e:decide (97<=c/\c<=122)=!decide (122<c):=by
    by_cases h2:122<c
    ·rw[decide_eq_true h2,decide_eq_false ⋯];rfl
    ·rw[decide_eq_false h2,decide_eq_true ⋯];rfl
   rw[e]at q;exact q
  ·rw[decide_eq_false ⋯]at q;exact q
structure zgg(K:so)(mg:sB->Option sr)(C:sq):Prop where
 xi:XI K C
 ini:af K (.ref C) "__init__" = AX (AX (.builtin "ValueError.__init__"))
 g:mg "NoLetters" = AX (.ref C)
 most:∃t,mg "MOST_LETTERS" = AX (.int 6 t)
def wj(C:sq):Sp:=λvs H Q E=>∃l:(),vs=[.str (tx l)]/\l.length<=1000/\(uU l=AZ->Q (.str (tx l)) H)/\(uU l=Ba->E (.ref C) AY H)
theorem nz:sQz 1 ["text","sign"] wU:=by nofun
theorem kT{f C:sq}{fd:sv}(B:Bt mg)(T:zgg K mg C)(F:("letters_of"^^^wU))(Ds:(1<<<"is_small_letter") ["sign"] [] Zm):(2|||["text"]) (wj C):=by
 exists Fun.okX F nz,0
 ·obtain⟨l,rfl,hl,q1,q2⟩:=h;obtain⟨t6,g6⟩:=T.most
  refine#[_,(zI (zK (zU (ud xy xy zg (zA B.len (pv 0)) (yv (v:=.int 6) rfl g6 #[t6,rfl])))
    (zf (z7 hx rfl T.xi.toXC T.ini rfl T.g (za zS zc)))
    zv)
   (zI (zW PassesOwn.leaving rfl (Qj (pv 0)) (zx (i:=1) nz.nd rfl (.inl rfl))
    (zI (zK (zU (WD (cl0 Ds hr .nil rfl (za (pv 1) zc)) (λ_=>rfl)))
     (zf (z7 hx rfl T.xi.toXC T.ini rfl T.g (za zS zc)))
     zv)
    (zf (zK (zy Wh (uM bW eZ e7 QP (pv 0) (za (pv 1) zc)) zg (zC _))
     (zf (z7 hx rfl T.xi.toXC T.ini rfl T.g (za zS zc)))
     zv))))
   (zf (zl (pv 0))))),?_]
  have s16:=zP
  rfl'
  have bad:(¬ (1<=l.length/\l.length<=6/\small l/\l.Nodup))->∀H':Hp,H'=H->E (.ref C) AY H':=λh H' e=>by
   rw[e];exact q2 (decide_eq_false h)
  refine#[⋯,yq (λc=>yq (λc2=>#[⋯,bad (λh=>by have:=h.2.1;lia) H rfl]) (λc2=>?_)) (λc=>#[⋯,bad (λh=>by have:=h.1;lia) H rfl])];refine ForS.by (λi σ H'=>H'=H/\∃v,σ=[~~~l,v]/\small (l.take i)/\∀c ∈ l.take i,l.count c<=1) #[rfl,AY,rfl,λc h=>absurd h (by simp),λc h=>absurd h (by simp)] ?_ ?_
  ·refine nm4 ?_;rintro i c σ H' hg ⟨eH,v,rfl,hs,hn⟩:_;have hc:=ag hg;right
   rfl'
   erw[Zm]
   rfl'
   refine yq (λh=>#[⋯,bad (λz=>by have:=z.2.2.1 c hc;lia) _ eH]) (λh=>yq (λh2=>#[⋯,bad (λz=>?_) _ eH]) (λh2=>#[eH,?_,?_]))
   ·have:=BA.mp z.2.2.2 c;lia
   ·rw[zX hg];intro x hx;rcases Bh.mp hx with q | q
    ·exact hs x q
    ·have:x=c:=by simpa using q
     subst this;lia
   ·rw[zX hg];intro x hx;rcases Bh.mp hx with q | q
    ·exact hn x q
    ·have:x=c:=by simpa using q
     subst this;lia
  ·rintro σ H' ⟨eH,v,rfl,hs,hn⟩;rw[aP]at hs hn
   rfl'
   rw[eH];refine q1 (decide_eq_true #[⋯,⋯,hs,BA.mpr λc=>?_]);by_cases hc:c ∈ l
   ·exact hn c hc
   ·rw[List.count_eq_zero.mpr hc];lia
noncomputable def zr(l:())(k:Int)(p:()):Bool:=decide (0<=k/\k+p.length<=l.length/\(l.drop k.toNat).take p.length=p)
def wH:Sp:=λvs H Q _=>∃(l p:()) (k:Int),vs=[.str (tx l),.int k,.str (tx p)]/\l.length<=10000/\p.length<=10000/\Q (.bl (zr l k p)) H
theorem Zj{l p:()}{k:Int}{H:Hp}{Q:VK}{E:XK}(h1:l.length<=10000)(h2:p.length<=10000)(h:Q (.bl (zr l k p)) H):wH [.str (tx l),.int k,.str (tx p)] H Q E:=#[l,p,k,rfl,h1,h2,h]
theorem YH:sQz 3 ["word","place","part"] vP:=by nofun
theorem Yc{f:sq}{fd:sv}(B:Bt mg)(F:("stands_at"^^^vP)):(1&&&["word","place","part"]) wH:=by
 exists F.ok YH
 ·obtain⟨l,p,k,rfl,hl,hp,q⟩:=h
  refine#[_,(zI (zK (zU (ud xy xy zg (pv 1) (zB uo (zA B.len (pv 0)) (zA B.len (pv 2)))))
    (zf (zl yM))
    zv)
   (zf (zl (yR vc (ya wA (pv 0) (zY (pv 1)) (zY (zB yu (pv 1) (zA B.len (pv 2))))) (pv 2) (zC _))))),?_]
  have s16:=zP
  rfl'
  have no:¬ (0<=k/\k+p.length<=l.length/\(l.drop k.toNat).take p.length=p)->Q (.bl Ba) H:=λh=>by
   have e:zr l k p=Ba:=decide_eq_false h;rw[e]at q;exact q
  refine yq (λh0=>#[⋯,⋯,yq (λh1=>no λh=>absurd h.2.1 ⋯) λh1=>#[⋯,⋯,?_]]) λh0=>no λh=>h0 h.1;rw[ZL _ h0 ⋯ ⋯];have e:(k+(p.length:Int) - k).toNat=p.length:=⋯;rw[e]
  have e2:zr l k p=decide ((l.drop k.toNat).take p.length=p):=by
   unfold zr;exact decide_eq_decide.mpr #[λh=>h.2.2,λh=>#[h0,⋯,h]]
  rw[<- e2];exact q
noncomputable def yF(l:())(k:Int)(o n:()):():=l.take k.toNat ++ n ++ l.drop (k.toNat+o.length)
theorem yU{l o:()}{k:Int}(h:zr l k o=AZ):l.take k.toNat ++ o ++ l.drop (k.toNat+o.length)=l/\(l.take k.toNat).length=k.toNat/\0<=k/\k+o.length<=l.length:=by
 unfold zr at h;rw[decide_eq_true_eq]at h;obtain⟨h0,h1,h2⟩:=h;refine#[?_,by rw[aG];lia,h0,h1]
 have e:l.drop k.toNat=o ++ l.drop (k.toNat+o.length):=by
  have:=bK o.length (l.drop k.toNat);rw[h2,d4]at this;exact this.symm
 rw[ar,<- e,bK]
theorem X7{l o:()}{k:Int}(n:())(h:zr l k o=AZ):zr (yF l k o n) k n=AZ/\yF (yF l k o n) k n o=l:=by
 obtain⟨e,hl,h0,h1⟩:=yU h
 have e1:(yF l k o n).take k.toNat=l.take k.toNat:=by
  unfold yF;rw[ar,aQ ⋯,bq ⋯]
 have e2:(yF l k o n).drop k.toNat=n ++ l.drop (k.toNat+o.length):=by
  unfold yF;rw[ar,bL ⋯,aY ⋯,br]
 have e3:(yF l k o n).length=l.length - o.length+n.length:=by
  unfold yF
  erw[aj,bi,hl]
  lia
 refine#[?_,?_]
 ·unfold zr;refine decide_eq_true #[h0,⋯,?_];rw[e2,aQ ⋯,bq ⋯]
 ·show (yF l k o n).take k.toNat ++ o ++ (yF l k o n).drop (k.toNat+n.length)=l;rw[e1,<- d4,e2,bL ⋯,aY ⋯,br];exact e
theorem zcs{l o n:()}{k:Int}(h0:0<=k):cut l AY (AX k) ++ n ++ cut l (AX (k + ↑o.length)) AY=yF l k o n:=by
 rw[Ya _ h0,qH _ ⋯];have:(k+(o.length:Int)).toNat=k.toNat+o.length:=⋯;rw[this];rfl
structure TNU(K:so)(mg:sB->Option sr)(C:sq):Prop where
 xi:XI K C
 g:mg "NoUse" = AX (.ref C)
 na:NoAttr K C "at"
theorem kM:sQz 2 ["self","at"] yD:=by nofun
theorem ZH{f C:sq}{fd:sv}(T:TNU K mg C)(F:Fun K "__init__" "NoUse.__init__" yD f fd):(1&&&["self","at"]) (ub C "at"):=by
 exists F.ok kM
 ·obtain⟨x,v,rfl,hx,q⟩:=h;refine#[_,(zf (Jl (pv 0) (pv 1) rfl)),?_]
  erw[zcp]
  rfl'
  exact#[C,hx,T.xi.toXC,T.na,q]
structure DNU(P:sy)(w:sC)(K:so)(mg:sB->Option sr)(base:sI)(C:sq):Prop extends TNU K mg C where
 ini:∃f fd,af K (.ref C) "__init__" = AX (AX (.ref f))/\aR K (.ref f)=AZ/\(1&&&["self","at"]) (ub C "at")/\Binds K fd ["self","at"] []
def Wr(C:sq):Sp:=λvs H Q E=>∃(l o n:()) (k:Int),vs=[.str (tx l),.int k,.str (tx o),.str (tx n)]/\l.length<=10000/\o.length<=10000/\n.length<=10000/\(zr l k o=AZ->Q (.str (tx (yF l k o n))) H)/\(zr l k o=Ba->∀d H',zfc H d "at" (.int 0) H'->E (.ref C) (AX d) H')
theorem zd7:sQz 4 ["word","place","old","new"] zbD:=by nofun
theorem zdY{f C:sq}{fd:sv}(B:Bt mg)(T:DNU P w K mg base C)(F:("put"^^^zbD))(rh:(1<<<"stands_at") ["word","place","part"] [] wH):(3|||["word","place","old","new"]) (Wr C):=by
 obtain⟨fi,fdi,hi,hfn,Fi,Bi⟩:=T.ini
 exists Fun.okX F zd7,0
 ·obtain⟨l,o,n,k,rfl,hl,ho,hn,q1,q2⟩:=h
  refine#[_,(zI (zK (zU (WD (cl0 rh hr .nil rfl (za (pv 0) (za (pv 1) (za (pv 2) zc)))) (λ_=>rfl)))
    (zf (Yz hx rfl T.xi.toXC hi hfn Fi hr Bi rfl T.g (za zg zc)))
    zv)
   (zf (zl (zB yw (zB yw (ya wA (pv 0) xJ (zY (pv 1))) (pv 3)) (ya wA (pv 0) (zY (zB yu (pv 1) (zA B.len (pv 2)))) xJ))))),?_]
  have s16:=zP
  rfl'
  refine Zj hl ho ?_
  rfl'
  refine yq (λhb=>#[⋯,Ui (q2 hb)]) λhb=>?_;have hb':zr l k o=AZ:=by simpa using hb
  obtain⟨_,_,h0,h1⟩:=yU hb';have c1:=wN l AY (AX k);have c2:=wN l (AX (k + ↑o.length)) AY;refine#[⋯,⋯,⋯,⋯,?_,?_]
  ·erw[aj]
   lia
  ·have e:cut l AY (AX k) ++ n ++ cut l (AX (k + ↑o.length)) AY=yF l k o n:=by
    rw[Ya _ h0,qH _ ⋯];have:(k+(o.length:Int)).toNat=k.toNat+o.length:=⋯;rw[this];rfl
   rw[e];exact q1 hb'
structure TOrd(K:so)(mg:sB->Option sr)(CO CR CW:sq):Prop where
 cO:Cls K CO
 cR:Cls K CR
 cW:Cls K CW
 gO:mg "Order" = AX (.ref CO)
 gR:mg "FromRight" = AX (.ref CR)
 gW:mg "ByWeights" = AX (.ref CW)
 lO:NoAttr K CO "letters"
 lR:NoAttr K CR "letters"
 lW:NoAttr K CW "letters"
 wW:NoAttr K CW "weights"
def OrdAt(CO CR CW:sq)(H:Hp)(o:sq)(k:Nat)(l:())(ns:List Int):Prop:=∃dx,(k=0/\H o=AX (.ins CO dx [("letters",.str (tx l))]))\/(k=1/\H o=AX (.ins CR dx [("letters",.str (tx l))])) \/
 (k=2/\ns.length=l.length/\∃w,H o=AX (.ins CW dx [("letters",.str (tx l)),("weights",.ref w)])/\H w=AX (.tup (ns.map V.int)))
theorem OrdAt.same{CO CR CW:sq}{H H':Hp}{o:sq}{k:Nat}{l:()}{ns:List Int}(h:OrdAt CO CR CW H o k l ns)(e:Same H H'):OrdAt CO CR CW H' o k l ns:=by
 obtain⟨dx,⟨h1,h2⟩ | ⟨h1,h2⟩ | ⟨h1,h2,w,h3,h4⟩⟩:=h
 ·exact#[dx,.inl #[h1,e _ _ h2]]
 ·exact#[dx,.inr (.inl #[h1,e _ _ h2])]
 ·exact#[dx,.inr (.inr #[h1,h2,w,e _ _ h3,e _ _ h4])]
noncomputable def VT(l:())(ns:List Int)(w:()):Int:=((l.zip ns).map λp=>(w.count p.1:Int) * p.2).sum
noncomputable def zt(k:Nat)(l:())(ns:List Int)(w:()):Int:=if k=2 then VT l ns w else (w.length:Int)
noncomputable def xl(k:Nat)(w:()):():=if k=1 then w.reverse else w
def qC(K:so):Sp:=λvs H Q _=>∃(x C dx:sq) (l:()),vs=[.ref x,.str (tx l)]/\uU l=AZ/\Cls K C/\NoAttr K C "letters"/\H x=AX (.ins C dx [])/\Q .non (upd H x (.ins C dx [("letters",.str (tx l))]))
theorem k9:sQz 2 ["self","letters"] wQ:=by nofun
theorem wc{f:sq}{fd:sv}(B:Bt mg)(F:Fun K "__init__" "Order.__init__" wQ f fd)(mm:(2>>>"letters_of") ["text"] [] (wj C)):(3&&&["self","letters"]) (qC K):=by
 exists F.ok k9
 ·obtain⟨x,C,dx,l,rfl,hg,hC,hN,hx,q⟩:=h;refine#[_,(zf (kH (pv 0) (clP xe0 mm hr .nil rfl (za (pv 1) zc)) rfl)),?_];have s16:=zP
  rfl'
  exact#[l,rfl,by have:=of_decide_eq_true hg;lia,λ_=>#[_,_,_,hx,hC,hN,∅,q],λe=>by rw[hg]at e;cases e]
def kN:Sp:=λvs H Q _=>∃(o:sq) (w:()),vs=[.ref o,.str (tx w)]/\w.length<=1000/\Q (.int (w.length:Nat)) H
theorem jm:sQz 2 ["self","word"] xE:=by nofun
theorem wL{f:sq}{fd:sv}(B:Bt mg)(F:Fun K "weight" "Order.weight" xE f fd) :(1&&&["self","word"]) kN:=by
 exists F.ok jm
 ·obtain⟨o,w,rfl,hw,q⟩:=h;refine#[_,(zf (zl (zA B.len (pv 1)))),?_];have s16:=zP
  rfl'
  exact#[⋯,q]
def WE:Sp:=λvs H Q _=>∃(o:sq) (w:()),vs=[.ref o,.str (tx w)]/\Q (.str (tx w)) H
theorem kY:sQz 2 ["self","word"] wD:=by nofun
theorem uz{f:sq}{fd:sv}(B:Bt mg)(F:Fun K "seen" "Order.seen" wD f fd) :(1&&&["self","word"]) WE:=by
 exists F.ok kY
 ·obtain⟨o,w,rfl,q⟩:=h;refine#[_,(zf (zl (pv 1))),?_];have s16:=zP
  rfl'
  exact q
def XD:Sp:=λvs H Q _=>∃(o:sq) (w:()),vs=[.ref o,.str (tx w)]/\w.length<=1000/\Q (.str (tx w.reverse)) H
theorem uO:sQz 2 ["self","word"] y0:=by nofun
theorem uT{f:sq}{fd:sv}(B:Bt mg)(F:Fun K "seen" "FromRight.seen" y0 f fd) :(1&&&["self","word"]) XD:=by
 exists F.ok uO
 ·obtain⟨o,w,rfl,hw,q⟩:=h;refine#[_,(zf (zl (zbJ (pv 1) (zfb zdZ zg)))),?_];have s16:=zP;ac_rfl;exact#[⋯,q]
structure zfX(K:so)(mg:sB->Option sr)(C:sq):Prop where
 xi:XI K C
 ini:af K (.ref C) "__init__" = AX (AX (.builtin "ValueError.__init__"))
 g:mg "NoOrder" = AX (.ref C)
 most:∃t,mg "MOST_WEIGHT" = AX (.int 1000000 t)
abbrev DOI(P:sy)(w:sC)(K:so)(mg:sB->Option sr)(base:sI)(CO:sq):Prop:=DC P w K mg base CX0 3 CO "__init__" ["self","letters"] (qC K)
def ZP(K:so)(CW:sq):Sp:=λvs H Q _=>∃(x dx a:sq) (l:()) (ns:List Int),vs=[.ref x,.str (tx l),.ref a]/\uU l=AZ/\SqL K H a (ns.map V.int)/\ns.length=l.length/\(∀n ∈ ns,1<=n/\n<=1000000)/\H x=AX (.ins CW dx []) /\
 ∀w H',H w=AY->w≠x->(∀b o,b≠x->H b=AX o->H' b=AX o)->H' w=AX (.tup (ns.map V.int))->H' x=AX (.ins CW dx [("letters",.str (tx l)),("weights",.ref w)])->Q .non H'
theorem mi:sQz 3 ["self","letters","weights","weight"] y8:=by nofun
theorem uF{f CO CR CW CN:sq}{fd:sv}(B:Bt mg)(T:TOrd K mg CO CR CW)(TN:zfX K mg CN)(DI:DOI P w K mg base CO)(F:Fun K "__init__" "ByWeights.__init__" y8 f fd) :(4|||["self","letters","weights"]) (ZP K CW):=by
 obtain⟨t6,g6⟩:=TN.most
 exists Fun.okX F mi,0
 ·obtain⟨x,dx,a,l,ns,rfl,hg,hS,hl,hb,hX,q⟩:=h
  refine#[_,(zi (xL (zcJ DI hr rfl T.gO (za (pv 0) (za (pv 1) zc))))
   (zi (zK (zy j3 (zA B.len (pv 2)) (zA B.len (pv 1)) (zC _))
    (zf (z7 hx rfl TN.xi.toXC TN.ini rfl TN.g (za zS zc)))
    zv)
   (zi (zW PassesOwn.leaving rfl (yj (pv 2)) (zx (i:=3) mi.nd rfl (.inl rfl))
    (zf (zK (zU (ud xy xy zg (pv 3) (yv (v:=.int 1000000) rfl g6 #[t6,rfl])))
     (zf (z7 hx rfl TN.xi.toXC TN.ini rfl TN.g (za zS zc)))
     zv)))
   (zf (kH (pv 0) (xn Zz rfl B.tuple PySem.Pv.boot_tuple (za (pv 2) zc)) rfl))))),?_]
  have s16:=zP;have hbx:∀b o,b≠x->H b=AX o->upd H x (.ins CW dx [("letters",.str (tx l))]) b=AX o:=λb o hb e=>by rw[zm hb];exact e
  have hS1:SqL K (upd H x (.ins CW dx [("letters",.str (tx l))])) a (ns.map V.int):=by
   rcases hS with (h | ⟨o,h⟩) | h
   ·exact .inl (.inl (hbx _ _ (λe=>by rw[e,hX]at h;cases h) h))
   ·exact .inl (.inr #[o,hbx _ _ (λe=>by rw[e,hX]at h;cases h) h])
   ·exact .inr h
  refine zj (λσ H'=>H'=upd H x (.ins CW dx [("letters",.str (tx l))])/\σ=[!!x,~~~l,!!a,AY]) ?_ ?_
  ·ac_rfl;exact#[x,CW,dx,l,rfl,hg,T.cW,T.lW,hX,rfl]
  rintro σ H1 ⟨rfl,rfl⟩:_;right;refine zj (λσ H'=>H'=upd H x (.ins CW dx [("letters",.str (tx l))])/\σ=[!!x,~~~l,!!a,AY]) ?_ ?_
  ·have hl6:l.length<=6:=by have:=of_decide_eq_true hg;lia
   ac_rfl;refine#[ns.length,.inl #[_,hS1,by rw[ae]],⋯,yq (λh=>absurd ⋯ h) λ_=>trivial]
  rintro σ H1 ⟨rfl,rfl⟩:_;right;refine zj (λσ H'=>H'=upd H x (.ins CW dx [("letters",.str (tx l))])/\∃v3,σ=[!!x,~~~l,!!a,v3]) ?_ ?_
  ·ac_rfl;refine#[#[_,hS1],ForL.by (xs:=ns.map V.int) (λi σ H'=>H'=upd H x (.ins CW dx [("letters",.str (tx l))])/\∃v3,σ=[!!x,~~~l,!!a,v3]) #[rfl,AY,rfl] (λi σ H' _ h=>by rw[h.1];exact hS1) ?_ λσ H' h=>h];refine nm4 ?_;rintro i y σ H' hy ⟨rfl,v3,rfl⟩:_;rw[aq]at hy;obtain⟨n,hn,rfl⟩:=Bk.mp hy;obtain⟨n1,n2⟩:=hb n (ag hn);right;ac_rfl;exact yq (λ_=>yq (λh=>absurd n2 h) λ_=>trivial) λh=>absurd n1 h
  rintro σ H1 ⟨rfl,v3,rfl⟩:_;right;ac_rfl;refine#[_,.inl #[hS1,λw hw=>?_]];have hwx:w≠x:=λe=>by rw[e,zd]at hw;cases hw
  have hwH:H w=AY:=by rw[zm hwx]at hw;exact hw
  have hX2:=ze (o:=.tup (ns.map V.int)) hw _ _ (zd (H:=H) (a:=x) (o:=.ins CW dx [("letters",.str (tx l))]));refine#[_,_,_,hX2,T.cW,T.wW,by show 1<1000;decide,q w _ hwH hwx (λb o hb' e=>?_) ?_ zd]
  ·rw[zm hb'];exact ze hw _ _ (hbx b o hb' e)
  ·rw[zm hwx];exact zd
theorem zaW{x y:V}{r:L2.St}:xb (AY::AY::r) (AX x::AX y::r):=#[rfl,λi v h=>by
 cases i with
 | zero=>cases h
 | succ i =>
  cases i with
  | zero=>cases h
  | succ i=>exact h]
def Y7(CW:sq):Sp:=λvs H Q _=>∃(o dx t:sq) (w l:()) (ns:List Int),vs=[.ref o,.str (tx w)]/\w.length<=1000/\l.length<=6/\ns.length=l.length/\(∀n ∈ ns,1<=n/\n<=1000000)/\H o=AX (.ins CW dx [("letters",.str (tx l)),("weights",.ref t)])/\H t=AX (.tup (ns.map V.int))/\∀H',Same H H'->Q (.int (VT l ns w)) H'
theorem vH:sQz 2 ["self","word"] yn:=by nofun
theorem vJ{f CO CR CW:sq}{fd:sv}(B:Bt mg)(T:TOrd K mg CO CR CW)(F:Fun K "weight" "ByWeights.weight" yn f fd) :(1&&&["self","word"]) (Y7 CW):=by
 exists F.ok vH
 ·obtain⟨o,dx,t,w,l,ns,rfl,hw,hl,hn,hb,ho,ht,q⟩:=h;refine#[_,(zf (zl (xC (zeW rfl) rfl B.sum PyProof.Rows.boot_sum (za (xz (g:=zbg K 2 (jZ (yy 0) (jZ (yy 1) zbb))) (own:=["letter","weight"]) (caps:=["word"]) (ix:=[1]) (tt:=wS) (te:=(tOp Kk (tBM K "str" WN (ym 2) (zM (ym 0) xH)) (ym 1))) rfl (zN (sc:=zh yn) rfl (by symm) (by symm) (by symm) rfl (by symm) (by symm) rfl) (zdP rfl B.zip (za (vW (pv 0) rfl) (za (vW (pv 0) rfl) zc))) (λ_ _ _ _ _ _=>qd (n:=2) rfl (yb (zx (i:=0) (show List.Nodup [_,_,_] by decide) rfl (.inl rfl)) (yb (zx (i:=1) (show List.Nodup [_,_,_] by decide) rfl (.inl rfl)) wG))) (λ_ _ _ _ _ _=>yG) (λ_ _ _ _ _ _=>(zB Zk (uM bW eZ e7 QP (pv 2) (za (pv 0) zc)) (pv 1)))) zc)))),?_];have s16:=zP;ac_rfl;refine#[_,_,_,ho,T.cW,T.lW,_,rfl,_,_,_,ho,T.cW,T.wW,_,rfl,l,rfl,t,rfl,#[_,SqT.of ht],λD hD=>CompZ.by (ys:=ns.map V.int) (λi Bd H'=>Same H H'/\H' D=AX (.lst Bd)/\Bd=((((l.zip ns).map λp=>(w.count p.1:Int) * p.2).take i).map V.int)) (by rw[ae];lia) #[ze hD,zd,rfl] (λi Bd H' _ h=>SqT.of (h.1 _ _ ht)) ?_ ?_]
  ·rintro i c y Bd H' p hc hy ⟨hs,hH,rfl⟩ hp;have hi:=(Be.mp hc).1;rw[aq]at hy;obtain⟨n,hn',rfl⟩:=Bk.mp hy
   have hz:((l.zip ns).map λp=>(w.count p.1:Int) * p.2)[i]? = AX ((w.count c:Int) * n):=by
    rw[aq,(List.getElem?_zip_eq_some (z:=(c,n))).mpr #[hc,hn']];rfl
   obtain⟨n1,n2⟩:=hb n (ag hn');have hcl:w.count c<=w.length:=List.count_le_length;have hcn:(w.count c:Int) * n=(w.count c:Int) * n:=rfl
   erw[wS]
   ac_rfl;refine#[_,SqT.of zd,rfl,_,_,rfl,_,_,rfl,rfl,zaW,_,rfl,_,rfl,?_,ze hp _ _ hH,by rw[ae,aG];lia,?_]
   ·exact .inr #[⋯,⋯]
   ·rw[Xg];refine CNx.mk hi #[zJ (hs.trans (ze hp)) hD,zd,?_];rw[zX hz,ay];rfl
  ·rintro Bd H' ⟨hs,hH,rfl⟩;have e:l.length=((l.zip ns).map λp=>(w.count p.1:Int) * p.2).length:=by rw[ae,List.length_zip];lia
   refine#[D,rfl,_,SqL.of hH,?_];rw[e,aP];exact q _ hs
theorem zeM(l:())(c e:Nat):StrLaws.At (tx l) (tx [c]) (tx l).length e ↔ l[e]? = AX c:=by
 unfold StrLaws.At Builtin.Str.subAt;rw[z6,z6];have h1:[c].length=1:=rfl;rw[h1,beq_iff_eq]
 have e1:((tx l).cps.extract e (e+1)).toList=(l.drop e).take 1:=by
  show (l.toArray.extract e (e+1)).toList=_;simp [eC]
 have e2:((tx l).cps.extract e (e+1)=(tx [c]).cps) ↔ (l.drop e).take 1=[c]:=by
  constructor
  ·intro h;rw[<- e1,h]
  ·intro h;apply Array.toList_inj.mp;rw[e1,h]
 constructor
 ·rintro⟨h2,h3⟩;have:=e2.mp h3;rw[aS ⋯,dX,bS]at this;rw[ah ⋯];injection this with h _;rw[h]
 ·intro h;obtain⟨he,hx⟩:=Be.mp h;refine#[⋯,e2.mpr ?_];rw[aS he,dX,bS,hx]
theorem zaE{l:()}{c:Nat}(h:c ∈ l):Txt.find (tx l) (tx [c])=((l.idxOf c:Nat):Int):=by
 have hlt:=bE h;have hg:l[l.idxOf c]? = AX c:=by rw[ah hlt,d7]
 rcases PyProof.Rows.find_whole (tx l) (tx [c])with ⟨h1,h2⟩ | ⟨e,h1,h2,h3⟩
 ·exact absurd ((zeM l c _).mpr hg) (h2 _)
 ·have he:=(zeM l c e).mp h2
  have:e=l.idxOf c:=by
   rcases et e (l.idxOf c)with q | q | q
   ·have:=List.not_of_lt_findIdx (p:=(· == c)) q;obtain⟨h4,h5⟩:=Be.mp he;simp [h5]at this
   ·exact q
   ·exact absurd ((zeM l c _).mpr hg) (h3 _ q)
  rw[h1,this]
abbrev MkO(P:sy)(w:sC)(K:so)(mg:sB->Option sr)(base:sI)(C:sq):Prop:=DMk P w K mg base CX0 3 C ["self","letters"] (qC K)
abbrev MkW(P:sy)(w:sC)(K:so)(mg:sB->Option sr)(base:sI)(C:sq):Prop:=DMk P w K mg base (CXx P w) 4 C ["self","letters","weights"] (ZP K C)
abbrev MW(P:sy)(w:sC)(K:so)(mg:sB->Option sr)(base:sI)(C:sq)(m:sB)(sp:Sp):Prop:=DM P w K mg base CX0 1 C m ["self","word"] sp
structure TWS(P:sy)(w:sC)(K:so)(mg:sB->Option sr)(base:sI)(CO CR CW:sq):Prop extends TOrd K mg CO CR CW where
 mO:MkO P w K mg base CO
 mR:MkO P w K mg base CR
 mW:MkW P w K mg base CW
 wO:MW P w K mg base CO "weight" kN
 wR:MW P w K mg base CR "weight" kN
 wW':MW P w K mg base CW "weight" (Y7 CW)
 sO:MW P w K mg base CO "seen" WE
 sR:MW P w K mg base CR "seen" XD
 sW:MW P w K mg base CW "seen" WE
structure OG(l:())(ns:List Int)(k:Nat):Prop where
 g:uU l=AZ
 k3:k<3
 nl:ns.length=l.length
 nb:∀n ∈ ns,1<=n/\n<=1000000
noncomputable def jR(l:())(w:()):List Int:=w.map λc=>((l.idxOf c:Nat):Int)
noncomputable def jN(k:Nat)(l:())(w:()):List Int:=jR l (xl k w)
def zde(CO CR CW:sq):sq->Prop:=λC=>C=CO\/C=CR\/C=CW
theorem OrdAt.fam{CO CR CW:sq}{H:Hp}{o:sq}{k:Nat}{l:()}{ns:List Int}(h:OrdAt CO CR CW H o k l ns):∃C dx fs,zde CO CR CW C/\H o=AX (.ins C dx fs)/\(∀m:sB,m≠"letters"->m≠"weights"->fs.lookup m=AY)/\fs.lookup ("letters" : sB)=AX (V.str (tx l)):=by
 have e1:∀m:sB,m≠"letters"->(m ==("letters" : sB))=Ba:=λm hm=>by simpa using hm
 have e2:∀m:sB,m≠"weights"->(m ==("weights" : sB))=Ba:=λm hm=>by simpa using hm
 obtain⟨dx,⟨h1,h2⟩ | ⟨h1,h2⟩ | ⟨h1,h2,w,h3,h4⟩⟩:=h
 ·exact#[_,_,_,.inl rfl,h2,λm hm _=>by simp [bg,e1 m hm],rfl]
 ·exact#[_,_,_,.inr (.inl rfl),h2,λm hm _=>by simp [bg,e1 m hm],rfl]
 ·exact#[_,_,_,.inr (.inr rfl),h3,λm hm hm2=>by simp [bg,e1 m hm,e2 m hm2],rfl]
def jC(CO CR CW:sq):Sp:=λvs H Q _=>∃(o:sq) (k:Nat) (l:()) (ns:List Int) (w:()),vs=[.ref o,.str (tx w)]/\OrdAt CO CR CW H o k l ns/\OG l ns k/\w.length<=1000/\(∀c ∈ w,c ∈ l)/\∀(p q:sq) (H':Hp),Same H H'->H' p=AX (.tup [.int (zt k l ns w),.ref q])->H' q=AX (.lst ((jN k l w).map V.int))->Q (.ref p) H'
theorem KM{H:Hp}{CO CR CW o D:sq}{k:Nat}{l:()}{ns:List Int}{v:()}{a1:Option V}{Q:VK}(T:TOrd K mg CO CR CW)(ho:OrdAt CO CR CW H o k l ns)(hl:v.length<=1000)(hm:∀c ∈ v,c ∈ l)(hD:H D=AY)(q:∀H',Same H H'->H' D=AX (.lst ((jR l v).map V.int))->Q (.ref D) H') :
  CompS (tx v) (yy 0) wS (tBM K "str" zw (zcQ K (ym 1) "letters") (zM (ym 0) xH)) 1 [0] [!!o,a1] H Q D:=by
 have s16:=zP;refine CompS.by (λi Bd H'=>Same H H'/\H' D=AX (.lst Bd)/\Bd=(jR l (v.take i)).map V.int) #[ze hD,zd,rfl] ?_ ?_
 ·refine nm4 ?_;rintro i c Bd H' hc ⟨hs,hH,rfl⟩:_;have hci:=(Be.mp hc).1;have hcl:=hm c (ag hc);obtain⟨C,dx,fs,hf,ho',_,hlk⟩:=(ho.same hs).fam
  have hC:Cls K C/\NoAttr K C "letters":=by
   rcases hf with rfl | rfl | rfl
   ·exact#[T.cO,T.lO]
   ·exact#[T.cR,T.lR]
   ·exact#[T.cW,T.lW]
  right
  erw[wS]
  ac_rfl;refine#[xx,_,_,_,ho',hC.1,hC.2,_,hlk,trivial,_,rfl,_,zaE hcl,hH,by rw[ae];unfold jR;rw[ae,aG];lia,CNx.mk hci #[zJ hs hD,zd,?_]];unfold jR;rw[zX hc,ay,ay];rfl
 ·rintro Bd H' ⟨hs,hH,rfl⟩;rw[aP]at hH;exact q H' hs hH
theorem ZR:sQz 2 ["self","word"] xw:=by nofun
theorem ww{f CO CR CW:sq}{fd:sv}(B:Bt mg)(T:TWS P w K mg base CO CR CW)(F:Fun K "rank" "Order.rank" xw f fd) :(2&&&["self","word"]) (jC CO CR CW):=by
 exists F.ok ZR
 ·obtain⟨o,k,l,ns,w,rfl,ho,hG,hw,hm,q⟩:=h;refine#[_,(zf (zl (zR (za (zef T.wO T.wR T.wW' T.cO T.cR T.cW hr (pv 0) (za (pv 1) zc)) (za (xz (own:=["letter"]) (caps:=["self"]) (ix:=[0]) (tt:=wS) (te:=(tBM K "str" zw (zcQ K (ym 1) "letters") (zM (ym 0) xH))) rfl (zN (sc:=zh xw) rfl (by symm) (by symm) (by symm) rfl (by symm) (by symm) rfl) (Qj (zef T.sO T.sR T.sW T.cO T.cR T.cW hr (pv 0) (za (pv 1) zc))) (λ_ _ _ _ _ _=>zx (i:=0) (show List.Nodup [_,_] by decide) rfl (.inl rfl)) (λ_ _ _ _ _ _=>yG) (λ_ _ _ _ _ _=>(uM bW e8 e9 Jm (vW (pv 1) rfl) (za (pv 0) zc)))) zc))))),?_];have s16:=zP
  have hsl:(xl k w).length<=1000:=by
   unfold xl;split
   ·rw[bh];exact hw
   ·exact hw
  have hsm:∀c ∈ xl k w,c ∈ l:=λc hc=>by
   unfold xl at hc;split at hc
   ·exact hm c (Bn.mp hc)
   ·exact hm c hc
  have l6:l.length<=6:=(of_decide_eq_true hG.g).2.1;have fin:∀H1,Same H H1->∀D,H1 D=AY->CompS (tx (xl k w)) (yy 0) wS (tBM K "str" zw (zcQ K (ym 1) "letters") (zM (ym 0) xH)) 1 [0] [!!o,~~~w] H1 (λx5 H1=>2<=sk/\∀p,H1 p=AY->Q (.ref p) (upd H1 p (.tup [.int (zt k l ns w),x5]))) D:=λH1 s1 D hD=>KM T.toTOrd (ho.same s1) hsl hsm hD λH' s' hH=>#[⋯,λp hp=>q p D _ (s1.trans (s'.trans (ze hp))) zd (ze hp _ _ hH)];ac_rfl;obtain⟨dx',⟨h1,h2⟩ | ⟨h1,h2⟩ | ⟨h1,h2,t',h3,h4⟩⟩:=id ho
  ·have e1:zt k l ns w=(w.length:Int):=by unfold zt;rw[if_neg ⋯]
   have e2:xl k w=w:=by unfold xl;rw[if_neg ⋯]
   rw[e1,e2]at fin;exact .inl #[_,_,h2,rfl,o,w,rfl,hw,.inl #[_,_,h2,rfl,o,w,rfl,_,rfl,fin H (Same.refl _)]]
  ·have e1:zt k l ns w=(w.length:Int):=by unfold zt;rw[if_neg ⋯]
   have e2:xl k w=w.reverse:=by unfold xl;rw[if_pos h1]
   rw[e1,e2]at fin;exact .inr (.inl #[_,_,h2,rfl,o,w,rfl,hw,.inr (.inl #[_,_,h2,rfl,o,w,rfl,hw,_,rfl,fin H (Same.refl _)])])
  ·have e1:zt k l ns w=VT l ns w:=by unfold zt;rw[if_pos h1]
   have e2:xl k w=w:=by unfold xl;rw[if_neg ⋯]
   rw[e1,e2]at fin;exact .inr (.inr #[_,_,h3,rfl,o,dx',t',w,l,ns,rfl,hw,l6,hG.nl,hG.nb,h3,h4,λH' s'=>.inr (.inr #[_,_,s' _ _ h3,rfl,o,w,rfl,_,rfl,fin H' s'])])
noncomputable def zL(k:Nat)(l:())(ns:List Int)(u v:()):Bool:=if zt k l ns u=zt k l ns v then ltI (jN k l u) (jN k l v)else decide (zt k l ns u<zt k l ns v)
abbrev DR(P:sy)(w:sC)(K:so)(mg:sB->Option sr)(base:sI)(CO CR CW:sq):Prop:=DMF P w K mg base CX0 2 (zde CO CR CW) "rank" ["self","word"] (λ_=>jC CO CR CW)
theorem ZF{H:Hp}{p q:sq}{z:Int}{ns:List Int}(hp:H p=AX (.tup [.int z,.ref q]))(hq:H q=AX (.lst (ns.map V.int))):Is K H (.tup [.int z,.lst (ns.map L3.D.int)]) (.ref p):=by
 erw[Is,Iss]
 exact#[p,_,rfl,SqT.of hp,_,_,rfl,rfl,_,_,rfl,#[q,_,rfl,SqL.of hq,Iss.ints ns],rfl]
theorem xg:∀x:List Int,ltI x x=Ba
 | []=>rfl
 | a::x=>by
  rw[ltI,if_pos rfl];exact xg x
theorem Jj(a b:Int)(x y:List Int):ltD (.tup [.int a,.lst (x.map L3.D.int)]) (.tup [.int b,.lst (y.map L3.D.int)])=if a=b then ltI x y else decide (a<b):=by
 erw[ltD,uw,eqD,Ym,YB]
 by_cases h:a=b
 ·subst h;by_cases h2:x=y
  ·subst h2;simp [xg]
  ·simp [h2]
 ·simp [h]
def Q2(CO CR CW:sq):Sp:=λvs H Q _=>∃(o:sq) (k:Nat) (l:()) (ns:List Int) (u v:()),vs=[.ref o,.str (tx u),.str (tx v)]/\OrdAt CO CR CW H o k l ns/\OG l ns k/\u.length<=1000/\v.length<=1000/\(∀c ∈ u,c ∈ l)/\(∀c ∈ v,c ∈ l)/\∀H':Hp,Same H H'->Q (.bl (zL k l ns u v)) H'
theorem jK:sQz 3 ["self","one","other"] xD:=by nofun
theorem xp{f CO CR CW:sq}{fd:sv}(B:Bt mg)(DRk:DR P w K mg base CO CR CW)(F:Fun K "before" "Order.before" xD f fd) :(3&&&["self","one","other"]) (Q2 CO CR CW):=by
 exists F.ok jK
 ·obtain⟨o,k,l,ns,u,v,rfl,ho,hG,hu,hv,hmu,hmv,q⟩:=h;refine#[_,(zf (zl (yR (zdI (uS hr)) (zcS DRk hr (pv 0) (za (pv 1) zc)) (zcS DRk hr (pv 0) (za (pv 2) zc)) (zC _)))),?_];have s16:=zP;ac_rfl;obtain⟨C,dx,fs,hf,ho1,hn,_⟩:=ho.fam;have h1:fs.lookup ("rank" : sB)=AY:=hn _ ∅ ∅;refine#[C,hf,dx,fs,ho1,h1,o,k,l,ns,u,rfl,ho,hG,hu,hmu,λp x H1 s1 hp hx=>#[C,hf,dx,fs,s1 _ _ ho1,h1,o,k,l,ns,v,rfl,ho.same s1,hG,hv,hmv,λp' x' H2 s2 hp' hx'=>?_]];refine zbF (ZF (s2 _ _ hp) (s2 _ _ hx)) (ZF hp' hx') (by erw[dpD,uA,Xb];decide) (by erw[okD,kR];exact#[trivial,jd _ _,trivial]) ?_;rw[Jj];exact q H2 (s1.trans s2)
abbrev DB(P:sy)(w:sC)(K:so)(mg:sB->Option sr)(base:sI)(CO CR CW:sq):Prop:=DMF P w K mg base CX0 3 (zde CO CR CW) "before" ["self","one","other"] (λ_=>Q2 CO CR CW)
noncomputable def zas(k:Int)(ls:())(ns:List Int)(w:()):Int:=(w.map λc=>if k=2 then ns.getD (ls.idxOf c) 0 else 1).sum
theorem Ki{k:Int}{ls:()}{ns:List Int}{w:()}(h:k≠2):zas k ls ns w=(w.length:Int):=by
 unfold zas
 induction w with
 | nil=>rfl
 | cons c w ih =>
  rw[au,bj,ih,if_neg h,aJ];lia
theorem jF{ls:()}{ns:List Int}(f g:Nat->Int):((ls.zip ns).map λp=>(f p.1+g p.1) * p.2).sum=((ls.zip ns).map λp=>f p.1 * p.2).sum+((ls.zip ns).map λp=>g p.1 * p.2).sum:=by
 induction ls.zip ns with
 | nil=>rfl
 | cons p r ih =>
  rw[au,au,au,bj,bj,bj,ih,Int.add_mul];lia
theorem Ju:∀{ls:()} {ns:List Int} {c:Nat},ls.Nodup->ns.length=ls.length->c ∈ ls->((ls.zip ns).map λp=>(if p.1=c then (1:Int)else 0) * p.2).sum=ns.getD (ls.idxOf c) 0
 | [],ns,c,_,_,hc=>(nomatch hc)
 | d::ls,[],c,_,hl,_=>by cases hl
 | d::ls,n::ns,c,hn,hl,hc=>by
  rw[dh,au,bj];have hnd:=Bq.mp hn;by_cases h:d=c
  ·subst h
   have h0:∀(l:()) (m:List Int),d ∉ l->((l.zip m).map λp=>(if p.1=d then (1:Int)else 0) * p.2).sum=0:=by
    intro l
    induction l with
    | nil=>intro m _;rfl
    | cons x l ih =>
     intro m hx
     cases m with
     | nil=>rfl
     | cons y m =>
      rw[dh,au,bj,ih m (λq=>hx (am _ q)),if_neg (show ¬ x=d from λe=>hx (by rw[e];exact ax))];lia
   rw[h0 ls ns hnd.1,if_pos rfl,List.idxOf_cons_self];simp
  ·have hc':c ∈ ls:=by
    rcases Bg.mp hc with e | e
    ·exact absurd e.symm h
    ·exact e
   rw[Ju hnd.2 (by simpa using hl) hc',if_neg h,List.idxOf_cons,show (d == c)=Ba by simpa using h];simp
theorem Wo{ls:()}{ns:List Int}(hn:ls.Nodup)(hl:ns.length=ls.length):∀{w:()},(∀x ∈ w,x ∈ ls)->zas 2 ls ns w=VT ls ns w
 | [],_=>by
  have h0:∀r:List (Nat × Int),(r.map λp=>((([]:()).count p.1:Nat):Int) * p.2).sum=0:=by
   intro r
   induction r with
   | nil=>rfl
   | cons p r ih=>rw[au,bj,ih];simp
  exact (h0 _).symm
 | c::w,h=>by
  have ih:=Wo hn hl (w:=w) λx hx=>h x (am _ hx)
  have e1:zas 2 ls ns (c::w)=ns.getD (ls.idxOf c) 0+zas 2 ls ns w:=by
   unfold zas;rw[au,bj,if_pos rfl]
  rw[e1,ih,<- Ju hn hl (h c ax)];unfold VT;rw[<- jF (λx=>if x=c then 1 else 0) (λx=>(w.count x:Int))];refine congrArg List.sum (cA λp _=>?_);rw[List.count_cons];by_cases e:c=p.1
  ·rw[if_pos e.symm,if_pos (by simpa using e)];simp [Int.add_comm]
  ·rw[if_neg (λz=>e z.symm),if_neg (by simpa using e)];simp
noncomputable def wt(k:Nat)(ns:List Int)(i:Int):Int:=if k=2 then ns.getD i.toNat 0 else 1
theorem xT{g:Int->Int}:∀{x:List Int},(∀i ∈ x,0<g i)->0<=(x.map g).sum
 | [],_=>by simp
 | a::x,h=>by
  have h1:=h a ax;have h2:=xT (x:=x) λi hi=>h i (am _ hi);rw[au,bj];lia
theorem wY:∀{x y:List Int},x≠y->ltI x y=!ltI y x
 | [],[],h=>absurd rfl h
 | [],_::_,_=>rfl
 | _::_,[],_=>rfl
 | a::x,b::y,h=>by
  rw[ltI,ltI];by_cases e:a=b
  ·rw[if_pos e,if_pos e.symm];exact wY λq=>h (by rw[e,q])
  ·rw[if_neg e,if_neg λq=>e q.symm];by_cases c:a<b
   ·rw[decide_eq_true c,decide_eq_false ⋯];rfl
   ·rw[decide_eq_false c,decide_eq_true ⋯];rfl
theorem jr:∀{x y z:List Int},ltI x y=AZ->ltI y z=AZ->ltI x z=AZ
 | [],[],_,h,_=>by cases h
 | [],_::_,[],_,h=>by cases h
 | [],_::_,_::_,_,_=>rfl
 | _::_,[],_,h,_=>by cases h
 | _::_,_::_,[],_,h=>by cases h
 | a::x,b::y,c::z,h1,h2=>by
  rw[ltI]at h1 h2 ⊢;by_cases e:a=b
  ·subst e;rw[if_pos rfl]at h1;by_cases f:a=c
   ·rw[if_pos f]at h2 ⊢;exact jr h1 h2
   ·rw[if_neg f]at h2 ⊢;exact h2
  ·rw[if_neg e]at h1;have h1':=of_decide_eq_true h1;by_cases f:b=c
   ·subst f;rw[if_neg e];exact h1
   ·rw[if_neg f]at h2;have h2':=of_decide_eq_true h2;rw[if_neg ⋯];exact decide_eq_true ⋯
theorem Xx:∀(c x y:List Int),ltI (c ++ x) (c ++ y)=ltI x y
 | [],_,_=>rfl
 | a::c,x,y=>by
  rw[bv,bv,ltI,if_pos rfl];exact Xx c x y
theorem Wj{g:Int->Int}{c:List Int}:∀{x y:List Int},(∀i ∈ x,0<g i)->(∀i ∈ y,0<g i)->(x.map g).sum=(y.map g).sum->ltI (x ++ c) (y ++ c)=ltI x y
 | [],[],_,_,_=>xg c
 | [],b::y,_,hy,h=>by
  have h1:=hy b ax;have h2:=xT (x:=y) λi hi=>hy i (am _ hi);rw[au,bj,aL,List.sum_nil]at h;lia
 | a::x,[],hx,_,h=>by
  have h1:=hx a ax;have h2:=xT (x:=x) λi hi=>hx i (am _ hi);rw[au,bj,aL,List.sum_nil]at h;lia
 | a::x,b::y,hx,hy,h=>by
  rw[bv,bv,ltI,ltI];by_cases e:a=b
  ·rw[if_pos e,if_pos e];rw[au,bj,au,bj,e]at h;exact Wj (λi hi=>hx i (am _ hi)) (λi hi=>hy i (am _ hi)) ⋯
  ·rw[if_neg e,if_neg e]
section
variable{k:Nat}{l:()}{ns:List Int}{t u v:()}
theorem JC(a b:()):VT l ns (a ++ b)=VT l ns a+VT l ns b:=by
 unfold VT;rw[<- jF (λx=>(a.count x:Int)) (λx=>(b.count x:Int))];refine congrArg List.sum (cA λp _=>?_);rw[List.count_append];simp
theorem yT(a b:()):zt k l ns (a ++ b)=zt k l ns a+zt k l ns b:=by
 unfold zt;by_cases h:k=2
 ·rw[if_pos h,if_pos h,if_pos h,JC]
 ·rw[if_neg h,if_neg h,if_neg h,aj];lia
theorem xh(G:OG l ns k):∀{w:()},(∀c ∈ w,c ∈ l)->zt k l ns w=((jR l w).map (wt k ns)).sum:=by
 intro w hm;have hn:l.Nodup:=(of_decide_eq_true G.g).2.2.2
 have e:((jR l w).map (wt k ns)).sum=zas (k:Int) l ns w:=by
  unfold jR zas;rw[dg];refine congrArg List.sum (cA λc _=>?_);show wt k ns _=_;unfold wt;by_cases h:k=2
  ·rw[if_pos h,if_pos ⋯,aH]
  ·rw[if_neg h,if_neg ⋯]
 rw[e];unfold zt;by_cases h:k=2
 ·rw[if_pos h,h];exact (Wo hn G.nl hm).symm
 ·rw[if_neg h,Ki ⋯]
theorem Yl(G:OG l ns k)(hm:∀c ∈ u,c ∈ l):∀i ∈ jR l u,0<wt k ns i:=by
 intro i hi;obtain⟨c,hc,rfl⟩:=Bf.mp hi;have hlt:=bE (hm c hc);have hl:=G.nl;unfold wt;split
 ·rw[aH,aa,ah ⋯];have:=(G.nb _ (eJ (l:=ns) (n:=l.idxOf c) ⋯)).1;show 0<ns[l.idxOf c];lia
 ·decide
theorem wx(G:OG l ns k)(hm:∀c ∈ u,c ∈ l):0<=zt k l ns u:=by
 rw[xh G hm];exact xT (Yl G hm)
theorem uN(G:OG l ns k)(hm:∀c ∈ u,c ∈ l)(h:u≠[]):0<zt k l ns u:=by
 cases u with
 | nil=>exact absurd rfl h
 | cons a u =>
  have h1:=Yl G hm (l.idxOf a:Nat) (Bf.mpr #[a,ax,rfl]);have h2:0<=((jR l u).map (wt k ns)).sum:=xT (Yl (u:=u) G λc hc=>hm c (am _ hc));rw[xh G hm];show 0<((((l.idxOf a:Nat):Int)::jR l u).map (wt k ns)).sum;rw[au,bj];lia
theorem ZX:∀{u v:()},(∀c ∈ u,c ∈ l)->(∀c ∈ v,c ∈ l)->jR l u=jR l v->u=v
 | [],[],_,_,_=>rfl
 | [],_::_,_,_,h=>by cases h
 | _::_,[],_,_,h=>by cases h
 | a::u,b::v,hu,hv,h=>by
  unfold jR at h;rw[au,au]at h;injection h with h1 h2;have h3:l.idxOf a=l.idxOf b:=⋯;have ha:=d7 (bE (hu a ax));have hb:=d7 (bE (hv b ax))
  have:a=b:=by
   rw[<- ha,<- hb]
   erw[h3]
  rw[this,ZX (λc hc=>hu c (am _ hc)) (λc hc=>hv c (am _ hc)) h2]
theorem yX:zL k l ns u u=Ba:=by
 unfold zL;rw[if_pos rfl,xg]
theorem X1(hu:∀c ∈ u,c ∈ l)(hv:∀c ∈ v,c ∈ l)(h:jN k l u=jN k l v):u=v:=by
 unfold jN xl at h;by_cases e:k=1
 ·rw[if_pos e,if_pos e]at h;exact List.reverse_inj.mp (ZX (λc hc=>hu c (Bn.mp hc)) (λc hc=>hv c (Bn.mp hc)) h)
 ·rw[if_neg e,if_neg e]at h;exact ZX hu hv h
theorem jl(hu:∀c ∈ u,c ∈ l)(hv:∀c ∈ v,c ∈ l)(h:u≠v):zL k l ns u v=!zL k l ns v u:=by
 unfold zL;by_cases e:zt k l ns u=zt k l ns v
 ·rw[if_pos e,if_pos e.symm];exact wY λq=>h (X1 hu hv q)
 ·rw[if_neg e,if_neg λq=>e q.symm];by_cases c:zt k l ns u<zt k l ns v
  ·rw[decide_eq_true c,decide_eq_false ⋯];rfl
  ·rw[decide_eq_false c,decide_eq_true ⋯];rfl
theorem wn(h1:zL k l ns t u=AZ)(h2:zL k l ns u v=AZ):zL k l ns t v=AZ:=by
 unfold zL at h1 h2 ⊢;generalize zt k l ns t=a at *;generalize zt k l ns u=b at *;generalize zt k l ns v=c at *;by_cases e:a=b
 ·subst e;rw[if_pos rfl]at h1;by_cases f:a=c
  ·rw[if_pos f]at h2 ⊢;exact jr h1 h2
  ·rw[if_neg f]at h2 ⊢;exact h2
 ·rw[if_neg e]at h1;have h1':=of_decide_eq_true h1;by_cases f:b=c
  ·subst f;rw[if_neg e];exact h1
  ·rw[if_neg f]at h2;have h2':=of_decide_eq_true h2;rw[if_neg ⋯];exact decide_eq_true ⋯
theorem X3(a b:()):jR l (a ++ b)=jR l a ++ jR l b:=ay
theorem Z5(G:OG l ns k)(hu:∀c ∈ u,c ∈ l)(hv:∀c ∈ v,c ∈ l)(e:zt k l ns u=zt k l ns v)(c:List Int):ltI (jR l u ++ c) (jR l v ++ c)=ltI (jR l u) (jR l v):=by
 rw[xh G hu,xh G hv]at e;exact Wj (Yl G hu) (Yl G hv) e
theorem kq(G:OG l ns k)(hu:∀c ∈ u,c ∈ l):zt k l ns u.reverse=zt k l ns u:=by
 rw[xh G hu,xh G λc hc=>hu c (Bn.mp hc)];unfold jR;rw[eN,eN,List.sum_reverse]
theorem ue(G:OG l ns k)(ht:∀c ∈ t,c ∈ l)(hu:∀c ∈ u,c ∈ l)(hv:∀c ∈ v,c ∈ l):zL k l ns (t ++ u) (t ++ v)=zL k l ns u v/\zL k l ns (u ++ t) (v ++ t)=zL k l ns u v:=by
 have hur:∀c ∈ u.reverse,c ∈ l:=λc hc=>hu c (Bn.mp hc);have hvr:∀c ∈ v.reverse,c ∈ l:=λc hc=>hv c (Bn.mp hc);unfold zL;rw[yT,yT,yT,yT];by_cases e:zt k l ns u=zt k l ns v
 ·rw[if_pos ⋯,if_pos e,if_pos ⋯];unfold jN xl;by_cases f:k=1
  ·erw[if_pos f,List.reverse_append,X3]
   exact#[Z5 G hur hvr (by rw[kq G hu,kq G hv,e]) _,Xx _ _ _]
  ·erw[if_neg f,X3]
   exact#[Xx _ _ _,Z5 G hu hv e _]
 ·rw[if_neg ⋯,if_neg e,if_neg ⋯];exact#[by congr 1;exact propext ⋯,by congr 1;exact propext ⋯]
theorem Kx(G:OG l ns k)(ht:∀c ∈ t,c ∈ l)(hu:∀c ∈ u,c ∈ l)(hv:∀c ∈ v,c ∈ l)(h:t ++ u ++ v≠u):zL k l ns u (t ++ u ++ v)=AZ/\zL k l ns (t ++ u ++ v) u=Ba:=by
 have h0:0<zt k l ns t+zt k l ns v:=by
  have h1:=wx G ht;have h2:=wx G hv;by_cases e:t=[]
  ·by_cases f:v=[]
   ·subst e f;simp at h
   ·have:=uN G hv f;lia
  ·have:=uN G ht e;lia
 unfold zL;rw[yT,yT,if_neg ⋯,if_neg ⋯];exact#[decide_eq_true ⋯,decide_eq_false ⋯]
end
theorem Yo:∀x y:List Int,ltI x y=AZ->ltI y x=Ba
 | [],[],h=>by cases h
 | [],_::_,_=>rfl
 | _::_,[],h=>by cases h
 | a::x,b::y,h=>by
  rw[ltI]at h ⊢;by_cases e:a=b
  ·rw[if_pos e]at h;rw[if_pos e.symm];exact Yo x y h
  ·rw[if_neg e]at h;rw[if_neg (λq=>e q.symm)];have:=of_decide_eq_true h;exact decide_eq_false ⋯
theorem XR{k:Nat}{l:()}{ns:List Int}{u v:()}(h:zL k l ns u v=AZ):zL k l ns v u=Ba:=by
 unfold zL at h ⊢;by_cases e:zt k l ns u=zt k l ns v
 ·rw[if_pos e]at h;rw[if_pos e.symm];exact Yo _ _ h
 ·rw[if_neg e]at h;rw[if_neg (λq=>e q.symm)];have:=of_decide_eq_true h;exact decide_eq_false ⋯
noncomputable def stJ(l:())(ps:List zp)(q j:Nat):Bool:=((ps[j]?).map λp=>zr l (q:Int) p.1).getD Ba
theorem jq{l:()}{ps:List zp}{q j:Nat}{p:zp}(h:ps[j]? = AX p):stJ l ps q j=zr l (q:Int) p.1:=by
 unfold stJ;rw[h];rfl
theorem wF{l:()}{ps:List zp}{q j:Nat}(h:stJ l ps q j=AZ):j<ps.length/\∃p,ps[j]? = AX p/\zr l (q:Int) p.1=AZ:=by
 unfold stJ at h
 cases e:ps[j]? with
 | none=>rw[e]at h;cases h
 | some p =>
  rw[e]at h;exact#[(Be.mp e).1,p,rfl,h]
noncomputable def jz(l:())(ps:List zp)(q i:Nat):List (Nat × Nat):=((aK i).filter (stJ l ps q)).map λj=>(j,q)
noncomputable def xv(l:())(ps:List zp)(k:Nat):List (Nat × Nat):=(aK k).flatMap λq=>jz l ps q ps.length
theorem VB(l:())(ps:List zp)(q i:Nat):jz l ps q (i+1)=jz l ps q i ++ (if stJ l ps q i=AZ then [(i,q)]else []):=by
 unfold jz;rw[cE,cL,ay];congr 1;by_cases h:stJ l ps q i=AZ
 ·rw[if_pos h,eU h];rfl
 ·rw[if_neg h,eV h];rfl
theorem kE(l:())(ps:List zp)(k:Nat):xv l ps (k+1)=xv l ps k ++ jz l ps k ps.length:=by
 unfold xv;rw[cE,cY];simp
theorem Jg(l:())(ps:List zp)(q i:Nat):(jz l ps q i).length<=i:=by
 unfold jz;rw[ae];have:=cP (stJ l ps q) (aK i);rw[cy]at this;exact this
theorem Uj(l:())(ps:List zp):∀k,(xv l ps k).length<=k * ps.length
 | 0=>by simp [xv]
 | k+1=>by
  rw[kE,aj,eF];have:=Uj l ps k;have:=Jg l ps k ps.length;lia
theorem usesN_mem{l:()}{ps:List zp}{q i:Nat}{u:Nat × Nat}:u ∈ jz l ps q i ↔ u.2=q/\u.1<i/\stJ l ps q u.1=AZ:=by
 unfold jz;rw[List.mem_map];constructor
 ·rintro⟨j,hj,rfl⟩;rw[List.mem_filter,fm]at hj;exact#[rfl,hj.1,hj.2]
 ·rintro⟨h1,h2,h3⟩;exact#[u.1,Bm.mpr #[Bl.mpr h2,h3],by rw[<- h1]]
theorem usesK_mem{l:()}{ps:List zp}{k:Nat}{u:Nat × Nat}:u ∈ xv l ps k ↔ u.2<k/\stJ l ps u.2 u.1=AZ:=by
 unfold xv;rw[List.mem_flatMap];constructor
 ·rintro⟨q,hq,hu⟩;obtain⟨h1,h2,h3⟩:=usesN_mem.mp hu;rw[fm]at hq;rw[h1];exact#[hq,h3]
 ·rintro⟨h1,h2⟩;exact#[u.2,Bl.mpr h1,usesN_mem.mpr #[rfl,(wF h2).1,h2]]
def uLt(a b:Nat × Nat):Prop:=a.2<b.2\/(a.2=b.2/\a.1<b.1)
theorem qg(l:())(ps:List zp)(q:Nat):∀i,(jz l ps q i).Pairwise uLt
 | 0=>by simp [jz]
 | i+1=>by
  rw[VB];refine BB.mpr #[qg l ps q i,?_,λa ha b hb=>?_]
  ·split
   ·exact eS _ _
   ·exact List.Pairwise.nil
  ·obtain⟨h1,h2,_⟩:=usesN_mem.mp ha;split at hb
   ·rw[Bj.mp hb];exact .inr #[h1,h2]
   ·cases hb
theorem vb(l:())(ps:List zp):∀k,(xv l ps k).Pairwise uLt
 | 0=>by simp [xv]
 | k+1=>by
  rw[kE];refine BB.mpr #[vb l ps k,qg l ps k _,λa ha b hb=>?_];have h1:=(usesK_mem.mp ha).1;have h2:=(usesN_mem.mp hb).1;exact .inl ⋯
def FirstN(l:())(ps:List zp)(lo hi n:Nat)(r:Option (Nat × Nat)):Prop :=
 (r=AY/\∀j q,j<n->lo<=q->q<hi->stJ l ps q j=Ba) \/
 ∃n0 q0,r=AX (n0,q0)/\n0<n/\lo<=q0/\q0<hi/\stJ l ps q0 n0=AZ/\∀j q,j<n->lo<=q->stJ l ps q j=AZ->q0<q\/(q0=q/\n0<=j)
theorem FirstN.uniq{l:()}{ps:List zp}{lo hi n:Nat}{r r':Option (Nat × Nat)}(h:FirstN l ps lo hi n r)(h':FirstN l ps lo hi n r'):r=r':=by
 rcases h with ⟨rfl,h⟩ | ⟨n0,q0,rfl,a1,a2,a3,a4,a5⟩
 ·rcases h' with ⟨rfl,_⟩ | ⟨n0,q0,rfl,a1,a2,a3,a4,a5⟩
  ·rfl
  ·rw[h n0 q0 a1 a2 a3]at a4;cases a4
 ·rcases h' with ⟨rfl,h⟩ | ⟨n1,q1,rfl,b1,b2,b3,b4,b5⟩
  ·rw[h n0 q0 a1 a2 a3]at a4;cases a4
  ·have x1:=a5 n1 q1 b1 b2 b4;have x2:=b5 n0 q0 a1 a2 a4;have e1:q0=q1:=⋯;have e2:n0=n1:=⋯;rw[e1,e2]
theorem Vr{l:()}{ps:List zp}{r:Option (Nat × Nat)}(h:FirstN l ps 0 l.length ps.length r):r=(xv l ps l.length).head?:=by
 have hs:=vb l ps l.length;refine h.uniq ?_
 cases e:xv l ps l.length with
 | nil =>
  refine .inl #[rfl,λj q _ _ hq=>?_]
  cases hb:stJ l ps q j with
  | false=>rfl
  | true =>
   have:(j,q) ∈ xv l ps l.length:=usesK_mem.mpr #[hq,hb];rw[e]at this;cases this
 | cons u us =>
  rw[e]at hs;have hu:u ∈ xv l ps l.length:=by rw[e];exact ax
  obtain⟨h1,h2⟩:=usesK_mem.mp hu;refine .inr #[u.1,u.2,rfl,(wF h2).1,aD _,h1,h2,λj q hj _ hb=>?_];by_cases hq:q<l.length
  ·have:(j,q) ∈ xv l ps l.length:=usesK_mem.mpr #[hq,hb];rw[e]at this;rcases Bg.mp this with e2 | e2
   ·rw[<- e2];exact .inr #[rfl,al _]
   ·rcases (BC.mp hs).1 _ e2 with h | ⟨h,h'⟩
    ·exact .inl h
    ·exact .inr #[h,de h']
  ·exact .inl ⋯
theorem uu{l p:()}{q:Nat}(hp:p≠[])(h:zr l (q:Int) p=AZ):q<l.length:=by
 obtain⟨h0,h1,_⟩:=of_decide_eq_true h;have:0<p.length:=Bu.mpr hp;lia
theorem FirstN.keep{l:()}{ps:List zp}{lo hi n:Nat}{r:Option (Nat × Nat)}{p:zp}(h:FirstN l ps lo hi n r)(hp:ps[n]? = AX p)(hn:∀q:Nat,lo<=q->q<(r.map Prod.snd).getD hi->zr l (q:Int) p.1=Ba):FirstN l ps lo hi (n+1) r:=by
 rcases h with ⟨rfl,h⟩ | ⟨n0,q0,rfl,a1,a2,a3,a4,a5⟩
 ·refine .inl #[rfl,λj q hj h1 h2=>?_];by_cases e:j<n
  ·exact h j q e h1 h2
  ·have:j=n:=⋯;subst this;rw[jq hp];exact hn q h1 h2
 ·refine .inr #[n0,q0,rfl,⋯,a2,a3,a4,λj q hj h1 h2=>?_];by_cases e:j<n
  ·exact a5 j q e h1 h2
  ·have:j=n:=⋯;subst this;rw[jq hp]at h2;by_cases hq:q<q0
   ·rw[hn q h1 hq]at h2;cases h2
   ·lia
theorem FirstN.take{l:()}{ps:List zp}{lo hi n k:Nat}{r:Option (Nat × Nat)}{p:zp}(h:FirstN l ps lo hi n r)(hp:ps[n]? = AX p)(h1:lo<=k)(h2:k<(r.map Prod.snd).getD hi)(h3:zr l (k:Int) p.1=AZ)(hn:∀q:Nat,lo<=q->q<k->zr l (q:Int) p.1=Ba):FirstN l ps lo hi (n+1) (AX (n,k)):=by
 have hk:k<hi/\∀j q,j<n->lo<=q->stJ l ps q j=AZ->k<q:=by
  rcases h with ⟨rfl,h⟩ | ⟨n0,q0,rfl,a1,a2,a3,a4,a5⟩
  ·refine#[h2,λj q hj hl hb=>?_];by_cases hq:q<hi
   ·rw[h j q hj hl hq]at hb;cases hb
   ·have h2':k<hi:=h2;lia
  ·have h2':k<q0:=h2;refine#[⋯,λj q hj hl hb=>?_];have:=a5 j q hj hl hb;lia
 refine .inr #[n,k,rfl,⋯,h1,hk.1,by rw[jq hp];exact h3,λj q hj hl hb=>?_];by_cases e:j<n
 ·exact .inl (hk.2 j q e hl hb)
 ·have:j=n:=⋯;subst this;rw[jq hp]at hb;by_cases hq:q<k
  ·rw[hn q hl hq]at hb;cases hb
  ·lia
theorem FirstN.window{l:()}{ps:List zp}{lo mid hi n:Nat}{r:Option (Nat × Nat)}(h0:FirstN l ps lo mid n AY)(hm:lo<=mid)(h:FirstN l ps mid hi n r):FirstN l ps lo hi n r:=by
 have h0':∀j q,j<n->lo<=q->q<mid->stJ l ps q j=Ba:=by
  rcases h0 with ⟨_,h⟩ | ⟨_,_,h,_⟩
  ·exact h
  ·cases h
 rcases h with ⟨rfl,h⟩ | ⟨n0,q0,rfl,a1,a2,a3,a4,a5⟩
 ·refine .inl #[rfl,λj q hj h1 h2=>?_];by_cases e:q<mid
  ·exact h0' j q hj h1 e
  ·exact h j q hj ⋯ h2
 ·refine .inr #[n0,q0,rfl,a1,⋯,a3,a4,λj q hj h1 h2=>?_];by_cases e:q<mid
  ·rw[h0' j q hj h1 e]at h2;cases h2
  ·exact a5 j q hj ⋯ h2
def NeL(ps:List zp):Prop:=∀p ∈ ps,p.1≠[]
theorem FirstN.toEnd{l:()}{ps:List zp}{lo hi n:Nat}{r:Option (Nat × Nat)}(hN:NeL ps)(h:FirstN l ps lo hi n r)(hl:r=AY->l.length<=hi):FirstN l ps lo l.length n r:=by
 have hlt:∀j q,stJ l ps q j=AZ->q<l.length:=λj q hb=>by
  obtain⟨_,p,hp,hs⟩:=wF hb;exact uu (hN p (ag hp)) hs
 rcases h with ⟨rfl,h⟩ | ⟨n0,q0,rfl,a1,a2,a3,a4,a5⟩
 ·exact .inl #[rfl,λj q hj h1 h2=>h j q hj h1 (by have:=hl rfl;lia)]
 ·exact .inr #[n0,q0,rfl,a1,a2,hlt _ _ a4,a4,a5]
noncomputable def zF(l:())(ps:List zp):Option (Nat × Nat):=(xv l ps l.length).head?
theorem Wb{l:()}{ps:List zp}{r:Option (Nat × Nat)}(h:FirstN l ps 0 l.length ps.length r):r=zF l ps:=Vr h
theorem W8(l:())(ps:List zp)(hN:NeL ps):FirstN l ps 0 l.length ps.length (zF l ps):=by
 have hs:=vb l ps l.length;unfold zF
 cases e:xv l ps l.length with
 | nil =>
  refine .inl #[rfl,λj q _ _ hq=>?_]
  cases hb:stJ l ps q j with
  | false=>rfl
  | true =>
   have:(j,q) ∈ xv l ps l.length:=usesK_mem.mpr #[hq,hb];rw[e]at this;cases this
 | cons u us =>
  rw[e]at hs;have hu:u ∈ xv l ps l.length:=by rw[e];exact ax
  obtain⟨h1,h2⟩:=usesK_mem.mp hu;refine .inr #[u.1,u.2,rfl,(wF h2).1,aD _,h1,h2,λj q hj _ hb=>?_]
  have hq:q<l.length:=by
   obtain⟨_,p,hp,hs⟩:=wF hb;exact uu (hN p (ag hp)) hs
  have:(j,q) ∈ xv l ps l.length:=usesK_mem.mpr #[hq,hb];rw[e]at this;rcases Bg.mp this with e2 | e2
  ·rw[<- e2];exact .inr #[rfl,al _]
  ·rcases (BC.mp hs).1 _ e2 with h | ⟨h,h'⟩
   ·exact .inl h
   ·exact .inr #[h,de h']
noncomputable def X9(ps:List zp)(n:Nat):zp:=ps.getD n ([],[])
theorem xj{ps:List zp}{n:Nat}{p:zp}(h:ps[n]? = AX p):X9 ps n=p:=by
 unfold X9;rw[aa,h];rfl
noncomputable def YV(l:())(ps:List zp)(u:Nat × Nat):():=yF l (u.2:Int) (X9 ps u.1).1 (X9 ps u.1).2
noncomputable def Wv(ps:List zp)(l:()):():=((zF l ps).map (YV l ps)).getD l
noncomputable def wAt(ps:List zp)(l:()):Nat->()
 | 0=>l
 | j+1=>Wv ps (wAt ps l j)
noncomputable def sAt(ps:List zp)(l:())(j:Nat):List (Nat × Nat):=(aK j).map λi=>(zF (wAt ps l i) ps).getD (0,0)
theorem WF(ps:List zp)(l:())(j:Nat):sAt ps l (j+1)=sAt ps l j ++ [(zF (wAt ps l j) ps).getD (0,0)]:=by
 unfold sAt;rw[cE,ay];rfl
theorem jB(ps:List zp)(l:())(j:Nat):(sAt ps l j).length=j:=by
 unfold sAt;rw[ae,cy]
theorem xZ{ps:List zp}{l:()}{j:Nat}{u:Nat × Nat}(h:zF (wAt ps l j) ps=AX u):wAt ps l (j+1)=YV (wAt ps l j) ps u:=by
 show Wv ps (wAt ps l j)=_;unfold Wv;rw[h];rfl
def Vp(ps:List zp)(l:())(j:Nat):Prop:=∀i,i<j->zF (wAt ps l i) ps≠AY
theorem J6{ps:List zp}{l:()}{i j:Nat}(h1:Vp ps l i)(h2:zF (wAt ps l i) ps=AY)(h3:Vp ps l j)(h4:zF (wAt ps l j) ps=AY):i=j:=by
 rcases et i j with h | h | h
 ·exact absurd h2 (h3 i h)
 ·exact h
 ·exact absurd h4 (h1 j h)
theorem VD{l:()}{ps:List zp}{n q M lo:Nat}(h:FirstN l ps 0 l.length ps.length (AX (n,q)))(hN:NeL ps)(hM:∀p ∈ ps,p.1.length<=M)(hlo:lo=0\/lo+M<=q+1):FirstN (YV l ps (n,q)) ps 0 lo ps.length AY:=by
 refine .inl #[rfl,λj x hj _ hx=>?_];rcases h with ⟨h,_⟩ | ⟨n0,q0,e,a1,a2,a3,a4,a5⟩
 ·cases h
 ·injection e with e;injection e with e1 e2;subst e1 e2
  cases hb:stJ (YV l ps (n,q)) ps x j with
  | false=>rfl
  | true =>
   obtain⟨_,p,hp,hs⟩:=wF hb;have hpm:=hM p (ag hp);have hpn:=Bu.mpr (hN p (ag hp));have hxq:x+p.1.length<=q:=⋯;obtain⟨s0,s1,s2⟩:=of_decide_eq_true hs;rw[aH]at s2;obtain⟨_,p2,hp2,hs2⟩:=wF a4;obtain⟨t0,t1,t2⟩:=of_decide_eq_true hs2
   have e4:(YV l ps (n,q)).take q=l.take q:=by
    unfold YV yF;rw[aH,ar,aQ (by rw[aG];lia),fo,fJ]
   have e5:∀z:(),((z.take q).drop x).take p.1.length=(z.drop x).take p.1.length:=λz=>by
    rw[List.drop_take,fo];congr 1;lia
   have s3:(l.drop x).take p.1.length=p.1:=by rw[<- e5,<- e4,e5,s2]
   have:stJ l ps x j=AZ:=by
    rw[jq hp];exact decide_eq_true #[⋯,⋯,by rw[aH];exact s3]
   have:=a5 j x hj (aD _) this;lia
theorem FirstN.lower{l:()}{ps:List zp}{lo hi n:Nat}(h:FirstN l ps 0 hi n AY)(hl:lo<=hi):FirstN l ps 0 lo n AY:=by
 rcases h with ⟨_,h⟩ | ⟨_,_,h,_⟩
 ·exact .inl #[rfl,λj q hj h1 h2=>h j q hj h1 ⋯]
 ·cases h
theorem JB{l:()}{ps:List zp}{n q m:Nat}(h:FirstN l ps 0 l.length ps.length (AX (n,q)))(hm:∀p ∈ ps,p.2.length<=m):(YV l ps (n,q)).length<=l.length+m:=by
 rcases h with ⟨h,_⟩ | ⟨n0,q0,e,a1,a2,a3,a4,a5⟩
 ·cases h
 ·injection e with e;injection e with e1 e2;subst e1 e2;obtain⟨_,p,hp,hs⟩:=wF a4;have:=hm p (ag hp);have er:=xj hp;unfold YV yF
  erw[aj,aG,bi,er]
  lia
theorem qL{ps:List zp}{l:()}{m:Nat}(hN:NeL ps)(hm:∀p ∈ ps,p.2.length<=m):∀j,(wAt ps l j).length<=l.length+j * m
 | 0=>by simp [wAt]
 | j+1=>by
  have ih:=qL (l:=l) hN hm j;have hf:=W8 (wAt ps l j) ps hN;rw[eF]
  cases e:zF (wAt ps l j) ps with
  | none =>
   show (Wv ps (wAt ps l j)).length<=_;unfold Wv;rw[e];show (wAt ps l j).length<=_;lia
  | some u =>
   rw[xZ e];rw[e]at hf;obtain⟨a,b⟩:=u;have:=JB hf hm;lia
def UseAt(H:Hp)(r:Option (Nat × Nat))(v:V):Prop:=(r=AY/\v=.non)\/∃(n q:Nat) (p:sq),r=AX (n,q)/\v=.ref p/\H p=AX (.tup [.int (n:Nat),.int (q:Nat)])
theorem UseAt.same{H H':Hp}{r:Option (Nat × Nat)}{v:V}(h:UseAt H r v)(s:Same H H'):UseAt H' r v:=by
 rcases h with h | ⟨n,q,p,h1,h2,h3⟩
 ·exact .inl h
 ·exact .inr #[n,q,p,h1,h2,s _ _ h3]
theorem Jf{l p:()}{lo hi:Int}{H:Hp}{Q:VK}(h0:0<=lo)(h1:0<=hi)(h:∀r:Int,((r=-1/\∀q:Nat,lo<=q->(q:Int)+p.length<=hi->zr l q p=Ba)\/∃k:Nat,r=k/\lo<=k/\(k:Int)+p.length<=hi/\zr l k p=AZ/\∀q:Nat,lo<=q->q<k->zr l q p=Ba)->Q (.int r) H):zax (.str (tx l)) [.str (tx p),.int lo,.int hi] H Q:=by
 refine#[l,p,lo,hi,rfl,rfl,h0,h1,λr hr=>h r ?_]
 have no:∀q:Nat,((l.drop q).take p.length≠p\/¬ q+p.length<=l.length)->zr l q p=Ba:=λq hq=>decide_eq_false λ⟨_,b,c⟩=>by
  rcases hq with hq | hq
  ·exact hq c
  ·lia
 rcases hr with ⟨rfl,hn⟩ | ⟨k,rfl,k1,k2,k3,k4,hn⟩
 ·refine .inl #[rfl,λq q1 q2=>no q ?_];by_cases e:q+p.length<=l.length
  ·exact .inl (hn q q1 q2 e)
  ·exact .inr e
 ·exact .inr #[k,rfl,k1,k2,decide_eq_true #[⋯,⋯,k4],λq q1 q2=>no q (.inl (hn q q1 q2))]
def uG(K:so):Sp:=λvs H Q _=>∃(a:sq) (l:()) (ps:List zp) (st en:Nat),vs=[.ref a,.str (tx l),.int (st:Nat),.int (en:Nat)]/\LsA K H a (ps.map dR)/\NeL ps/\(∀p ∈ ps,p.1.length<=1000)/\∀(r:Option (Nat × Nat)) (v:V) (H':Hp),Same H H'->UseAt H' r v->FirstN l ps st en ps.length r->Q v H'
theorem XG{a:sq}{l:()}{ps:List zp}{st en:Nat}{s e:Int}{H:Hp}{Q:VK}{E:XK}(hs:s=(st:Nat))(he:e=(en:Nat))(hA:LsA K H a (ps.map dR))(hN:NeL ps)(hP:∀p ∈ ps,p.1.length<=1000)(q:∀(r:Option (Nat × Nat)) (v:V) (H':Hp),Same H H'->UseAt H' r v->FirstN l ps st en ps.length r->Q v H'):uG K [.ref a,.str (tx l),.int s,.int e] H Q E:=by
 subst hs he;exact#[a,l,ps,st,en,rfl,hA,hN,hP,q]
theorem gp:sQz 4 ["rules","word","start","end","found","number","rule","place"] xO:=by nofun
theorem qT{f:sq}{fd:sv}(B:Bt mg)(F:("first_within"^^^xO)) :(1&&&["rules","word","start","end"]) (uG K):=by
 exists F.ok gp
 ·obtain⟨a,l,ps,st,en,rfl,hA,hN,hP,q⟩:=h
  refine#[_,(zi (zD 4 gp.nd yd)
   (zi (zW PassesOwn.never rfl (wg rfl B.enum (za (pv 0) zc)) (qd (n:=2) rfl (yb (zx (i:=5) gp.nd rfl (.inl rfl)) (yb (zx (i:=6) gp.nd rfl (.inl rfl)) wG)))
    (zI (zD 7 gp.nd (uM bW PySem.F.slot_str_find PySem.F.type_str_find zcH (pv 1) (za (zo ix_tup (pv 6) zg) (za (pv 2) (za (zB yu (zB uo (pv 3) zg) (zA B.len (zo ix_tup (pv 6) zg))) zc)))))
    (zf (zK (zy op_ge' (pv 7) zg (zC _))
     (zI (zD 4 gp.nd (zR (za (pv 5) (za (pv 7) zc))))
     (zf (zD 3 gp.nd (pv 7))))
     zv))))
   (zf (zl (pv 4))))),?_]
  have s16:=zP;obtain⟨xs,hX,hI⟩:=id hA;have hxl:=hI.len;rw[ae]at hxl;have s16:=zP;refine zj (λσ H'=>H'=H/\σ=[!!a,~~~l,-~~~st,-~~~en,AX (.non),AY,AY,AY]) ?_ ?_
  ·rfl'
  rintro σ H1 ⟨rfl,rfl⟩:_;right;refine zj (λσ H'=>Same H1 H'/\∃(r:Option (Nat × Nat)) (v:V) (v3 v5 v6 v7:Option V),UseAt H' r v/\FirstN l ps st en ps.length r/\σ=[!!a,~~~l,-~~~st,v3,AX (v),v5,v6,v7]) ?_ ?_
  ·rfl'
   refine#[#[_,SqL.of hX],ForEL.by (xs:=xs) (λi σ H'=>Same H1 H'/\∃(r:Option (Nat × Nat)) (v:V) (v5 v6 v7:Option V),UseAt H' r v/\FirstN l ps st en i r/\σ=[!!a,~~~l,-~~~st,AX (.int (((r.map Prod.snd).getD en:Nat):Int)),AX (v),v5,v6,v7]) #[Same.refl _,AY,.non,AY,AY,AY,.inl #[rfl,rfl],.inl #[rfl,λj q h=>absurd h (cq j)],rfl] (λi σ H' _ h=>SqL.of (h.1 _ _ hX)) ?_ ?_]
   ·rintro i y σ H' p hy ⟨hs,r,v,v5,v6,v7,hu,hF,rfl⟩ hpn;obtain⟨rl,pr,hri,rfl,hqr⟩:=hI.getR hy;have hm:=ag hri;have hne:=Bu.mpr (hN rl hm);have hrl:=hP rl hm;have s2:=hs.trans (ze (o:=.tup [.int (i:Nat),.ref pr]) hpn);have hq2:=zq s2 hqr;have hu2:=hu.same (ze (o:=.tup [.int (i:Nat),.ref pr]) hpn)
    rfl'
    refine#[_,SqT.of zd,rfl,_,_,rfl,_,_,rfl,rfl,_,rfl,_,hq2,_,rfl,_,rfl,_,hq2,_,rfl,_,#[by rw[z6];lia,rfl],Jf ⋯ (by rw[z6];lia) λz hz=>#[z,rfl,?_]];rw[z6]at hz;rcases hz with ⟨rfl,hn⟩ | ⟨k,rfl,k1,k2,k3,hn⟩
    ·rw[if_neg ∅];exact#[s2,r,v,hu2,hF.keep hri λq q1 q2=>hn q ⋯ ⋯,rfl,rfl]
    ·rw[if_pos ⋯];refine#[⋯,λp2 hp2=>#[s2.trans (ze hp2),AX (i,k),.ref p2,.inr #[i,k,p2,rfl,rfl,zd],hF.take hri ⋯ ⋯ k3 λq q1 q2=>hn q ⋯ q2,rfl,rfl]]
   ·rintro σ H' ⟨hs,r,v,v5,v6,v7,hu,hF,rfl⟩;rw[hxl]at hF;exact#[hs,r,v,hu,hF,_,_,_,_,rfl]
  rintro σ H2 ⟨s2,r,v,v3,v5,v6,v7,hu,hF,rfl⟩:_;right
  rfl'
  exact q r v H2 s2 hu hF
structure zf4(mg:sB->Option sr):Prop where
 g:∃t,mg "WINDOW" = AX (.int 128 t)
def Z0(K:so):Sp:=λvs H Q _=>∃(a:sq) (l:()) (ps:List zp) (st:Nat),vs=[.ref a,.str (tx l),.int (st:Nat)]/\LsA K H a (ps.map dR)/\NeL ps/\(∀p ∈ ps,p.1.length<=1000)/\l.length<=100000/\∀(r:Option (Nat × Nat)) (v:V) (H':Hp),Same H H'->UseAt H' r v->FirstN l ps st l.length ps.length r->Q v H'
theorem Yd{a:sq}{l:()}{ps:List zp}{st:Nat}{s:Int}{H:Hp}{Q:VK}{E:XK}(hs:s=(st:Nat))(hA:LsA K H a (ps.map dR))(hN:NeL ps)(hP:∀p ∈ ps,p.1.length<=1000)(hl:l.length<=100000)(q:∀(r:Option (Nat × Nat)) (v:V) (H':Hp),Same H H'->UseAt H' r v->FirstN l ps st l.length ps.length r->Q v H'):Z0 K [.ref a,.str (tx l),.int s] H Q E:=by
 subst hs;exact#[a,l,ps,st,rfl,hA,hN,hP,hl,q]
theorem gM:sQz 3 ["rules","word","start","size","found"] wV:=by nofun
theorem ZA{f:sq}{fd:sv}(B:Bt mg)(T:zf4 mg)(F:("first_from"^^^wV))(pA:(1<<<"first_within") ["rules","word","start","end"] [] (uG K)):(2&&&["rules","word","start"]) (Z0 K):=by
 obtain⟨t8,g8⟩:=T.g
 exists F.ok gM
 ·obtain⟨a,l,ps,st,rfl,hA,hN,hP,hl,q⟩:=h
  refine#[_,(zi (zD 3 gM.nd (yv (v:=.int 128) rfl g8 #[t8,rfl]))
   (zi (W4 PassesOwn.never (zy Vt (pv 2) (zA B.len (pv 1)) (zC _))
    (zI (zD 4 gM.nd (cl0 pA hr .nil rfl (za (pv 0) (za (pv 1) (za (pv 2) (za (zB yu (pv 2) (pv 3)) zc))))))
    (zI (zK (zy op_notN' (pv 4) yd (zC _))
     (zf (zl (pv 4)))
     zv)
    (zI (zD 2 gM.nd (zB yu (pv 2) (pv 3)))
    (zf (zD 3 gM.nd (zB jw (pv 3) zg)))))))
   (zf (zl yd)))),?_]
  have s16:=zP;have s16:=zP;refine zj (λσ H'=>H'=H/\σ=[!!a,~~~l,-~~~st,~~~!128,AY]) ?_ ?_
  ·rfl'
  rintro σ H1 ⟨rfl,rfl⟩:_;right;refine zj (λσ H'=>Same H1 H'/\FirstN l ps st l.length ps.length AY) ?_ ?_
  ·unfold Jo;refine#[λm σ H'=>∃(s z:Nat) (v4:Option V),m=l.length - s/\st<=s/\1<=z/\Same H1 H'/\FirstN l ps st s ps.length AY/\σ=[!!a,~~~l,-~~~s,-~~~z,v4],#[_,st,128,AY,rfl,al _,∅,Same.refl _,.inl #[rfl,λj q _ h1 h2=>by lia],rfl],?_];rintro m σ H' ⟨s,z,v4,rfl,hs,hz,sm,hF,rfl⟩
   rfl'
   refine#[⋯,yq (λhlt=>?_) λhge=>#[sm,hF.toEnd hN λ_=>by lia]];refine#[λσ' H''=>∃v4:Option V,Same H1 H''/\FirstN l ps st (s+z) ps.length AY/\σ'=[!!a,~~~l,AX (.int ((s+z:Nat):Int)),AX (.int ((z * 2:Nat):Int)),v4],λσ' H'' ⟨v4,a1,a2,a3⟩=>#[l.length - (s+z),⋯,s+z,rfl,⋯,z * 2,⋯,a1,a2,v4,a3],?_];refine XG (en:=s+z) rfl ⋯ (hA.same sm) hN hP λr v H2 s2 hu hF2=>?_;rcases hu with ⟨rfl,rfl⟩ | ⟨n,qq,p,rfl,rfl,hp⟩
   ·rw[if_neg (λh=>h rfl)];exact#[.inr #[∅,∅],AX .non,sm.trans s2,hF.window hs hF2,by push_cast;rfl]
   ·rw[if_pos (by intro h;cases h)];exact q _ _ H2 (sm.trans s2) (.inr #[n,qq,p,rfl,rfl,hp]) ((hF.window hs hF2).toEnd hN (λe=>by cases e))
  rintro σ H2 ⟨s2,hF⟩:_;right
  rfl'
  exact q AY .non H2 s2 (.inl #[rfl,rfl]) hF
theorem LsA.pushT{H:Hp}{D p:sq}{ds es:List L3.D}{xs vs:List V}(h1:H D=AX (.lst xs))(h2:Iss K H ds xs)(hp:H p=AY)(hv:Iss K H es vs)(f:zV ds)(fe:zV es):LsA K (upd (upd H p (.tup vs)) D (.lst (xs ++ [.ref p]))) D (ds ++ [.tup es]):=by
 have e:(upd H p (.tup vs)) D=AX (.lst xs):=ze hp _ _ h1;exact LsA.snoc e (Iss.same (ze hp) _ _ h2) f (by erw[xf];exact fe) (Is.tup hp hv)
structure zbP(K:so)(mg:sB->Option sr)(C:sq):Prop where
 xi:XI K C
 ini:af K (.ref C) "__init__" = AX (AX (.builtin "ValueError.__init__"))
 g:mg "TooFar" = AX (.ref C)
noncomputable def dG(u:Nat × Nat):L3.D:=.tup [.int (u.1:Nat),.int (u.2:Nat),.bl AZ]
theorem zb4(u:Nat × Nat):xf (dG u):=by erw[dG,xf,zV,and_self]
theorem zab(us:List (Nat × Nat)):zV (us.map dG):=wK λd h=>by obtain⟨r,_,rfl⟩:=Bf.mp h;exact zb4 r
theorem zfi{H:Hp}{n q:Nat}:Iss K H [.int (n:Nat),.int (q:Nat),.bl AZ] [.int (n:Nat),.int (q:Nat),.bl AZ]:=by
 erw[Iss,Is]
 exact#[_,_,rfl,rfl,_,_,rfl,rfl,_,_,rfl,rfl,rfl]
structure Rd(ps:List zp)(l:())(J:Nat):Prop where
 live:Vp ps l J
 len:∀j,j<=J->(wAt ps l j).length<=10000
 most:J<=10000
def xM(K:so)(CF:sq):Sp:=λvs H Q E=>∃(a:sq) (l:()) (ps:List zp) (m:Int) (J:Nat),vs=[.ref a,.str (tx l),.int m]/\LsA K H a (ps.map dR)/\NeL ps/\ps.length<=100/\(∀p ∈ ps,p.1.length<=1000/\p.2.length<=1000)/\Rd ps l J /\
 ((zF (wAt ps l J) ps=AY/\(J:Int)<=m/\∀(p S:sq) (H':Hp),Same H H'->H' p=AX (.tup [.ref S,.str (tx (wAt ps l J))])->LsA K H' S ((sAt ps l J).map dG)->H S=AY->Q (.ref p) H') \/
  (zF (wAt ps l J) ps≠AY/\(J:Int)=m/\∀H',Same H H'->E (.ref CF) AY H'))
theorem VW{a:sq}{ps:List zp}{σ:L2.St}{H:Hp}{Q:VK}{D:sq}(hA:LsA K H a (ps.map dR))(hP:∀p ∈ ps,p.1.length<=1000)(hpl:ps.length<=100)(hD:H D=AY)(q:∀H',Same H H'->H' D=AX (.lst ((ps.map λp=>(p.1.length:Int)).map V.int))->Q (.ref D) H') :
  CompL K a (yy 0) wS (tCB (WA K) (zM (tOp (jD K) (ym 0) (tC (.int 0))) xH)) 1 [] σ H Q D:=by
 have s16:=zP;obtain⟨xs,hX,hI⟩:=hA;have hxl:=hI.len;rw[ae]at hxl;refine CompL.by (xs:=xs) (λi Bd H'=>Same H H'/\H' D=AX (.lst Bd)/\Bd=((ps.take i).map λp=>(p.1.length:Int)).map V.int) #[ze hD,zd,rfl] (λi Bd H' _ h=>SqL.of (h.1 _ _ hX)) ?_ ?_
 ·refine nm4 ?_;rintro i x Bd H' hx ⟨hs,hH,rfl⟩:_;have hil:=(Be.mp hx).1;obtain⟨r,pr,hri,rfl,hqr⟩:=hI.getR hx;have hm:=hP r (ag hri);right
  erw[wS]
  rfl'
  refine#[xx,_,zq hs hqr,_,rfl,_,#[by rw[z6];lia,rfl],hH,by rw[ae,ae,aG];lia,CNx.mk hil #[zJ hs hD,zd,?_]];rw[zX hri,ay,ay,z6];rfl
 ·rintro Bd H' ⟨hs,hH,rfl⟩;rw[hxl,aP]at hH;exact q H' hs hH
theorem zfB{H:Hp}{rs:List zp}{xs:List V}{i:Nat}{r:zp}(hI:Iss K H (rs.map dR) xs)(hi:rs[i]? = AX r):∃p,atI xs (i:Int)=AX (.ref p)/\SqT K H p [.str (tx r.1),.str (tx r.2)]:=by
 have hl:=hI.len;rw[ae]at hl;have hil:=(Be.mp hi).1;obtain⟨v,a1,b1⟩:=qf (xs:=xs) (i:=(i:Int)) ⋯ ⋯;obtain⟨r',p,h1,rfl,h3⟩:=hI.getR (j:=i) b1;rw[hi]at h1;cases h1;exact#[p,a1,h3]
theorem iN:sQz 3 ["rules","word","most","longest","steps","use","number","place"] vD:=by nofun
theorem zbG{f CU CF:sq}{fd:sv}{dV:sr}(B:Bt mg)(T:zbP K mg CF)(TU:DNU P w K mg base CU)(F:FunD K "gone" "gone" vD dV f fd)(nH:(2<<<"first_from") ["rules","word","start"] [] (Z0 K))(pV:(3>>>"put") ["word","place","old","new"] [] (Wr CU)):(4|||["rules","word","most"]) (xM K CF):=by
 exists FunD.okX F iN,0
 ·obtain⟨a,l,ps,m,J,rfl,hA,hN,hpl,hP,hR,hq⟩:=h
  refine#[_,(zi (zD 3 iN.nd (Q7 (zdF rfl) rfl B.max qD (za (xz (own:=["rule"]) (caps:=[]) (ix:=[]) (tt:=wS) (te:=(tCB (WA K) (zM (tOp (jD K) (ym 0) (tC (.int 0))) xH))) rfl (zN (sc:=zh vD) rfl (by symm) (by symm) (by symm) rfl (by symm) (by symm) rfl) (yj (pv 0)) (λ_ _ _ _ _ _=>zx (i:=0) (show List.Nodup [_] by decide) rfl (.inl rfl)) (λ_ _ _ _ _ _=>yG) (λ_ _ _ _ _ _=>(zA B.len (zo ix_tup (pv 0) zg)))) zc) (Qm zg zad)))
   (zi (zD 4 iN.nd (wy zc))
   (zi (zD 5 iN.nd (cl0 nH hr .nil rfl (za (pv 0) (za (pv 1) (za zg zc)))))
   (zi (W4 PassesOwn.leaving (zy op_notN' (pv 5) yd (zC _))
    (zi (zK (zy op_ge' (zA B.len (pv 4)) (pv 2) (zC _))
     (zf (z7 hx rfl T.xi.toXC T.ini rfl T.g (za zS zc)))
     zv)
    (zi (zD 6 iN.nd (zo ix_tup (pv 5) zg))
    (zi (zD 7 iN.nd (zo ix_tup (pv 5) zg))
    (zi (zD 1 iN.nd (clP hx pV hr .nil rfl (za (pv 1) (za (pv 7) (za (zo ix_tup (zo ix_list (pv 0) (pv 6)) zg) (za (zo ix_tup (zo ix_list (pv 0) (pv 6)) zg) zc))))))
    (zi (xL (uM bz bO bP xq (pv 4) (za (zR (za (pv 6) (za (pv 7) (za yM zc)))) zc)))
    (zf (zD 5 iN.nd (cl0 nH hr .nil rfl (za (pv 0) (za (pv 1) (za (xC (UR rfl) rfl B.max qD (za zg (za (zB yu (zB uo (pv 7) (pv 3)) zg) zc))) zc))))))))))))
   (zf (zl (zR (za (pv 4) (za (pv 1) zc))))))))),?_]
  have s16:=zP;have s16:=zP;refine zj (λσ H'=>Same H H'/\∃M:Int,(∀p ∈ ps,(p.1.length:Int)<=M)/\σ=[!!a,~~~l,~~~!m,~~~!M,AY,AY,AY,AY]) ?_ ?_
  ·rfl'
   erw[zgb]
   rfl'
   obtain⟨xs,hX,hI⟩:=id hA;exact#[#[_,SqL.of hX],λD hD=>VW hA (λp hp=>(hP p hp).1) hpl hD λH' s' hH=>#[D,_,0,rfl,rfl,SqL.of hH,λz _ hz=>#[s',z,λp hp=>hz _ (Bf.mpr #[p,hp,rfl]),rfl]]]
  rintro σ H1 ⟨s1,M,hM,rfl⟩:_;right;refine zj (λσ H'=>Same H H'/\∃S:sq,H S=AY/\H' S=AX (.lst [])/\σ=[!!a,~~~l,~~~!m,~~~!M,!!S,AY,AY,AY]) ?_ ?_
  ·rfl'
   exact#[⋯,λp hp=>#[s1.trans (ze hp),p,s1.free hp,zd,rfl]]
  rintro σ H2 ⟨s2,S,hSn,hS,rfl⟩:_;right;refine zj (λσ H'=>Same H H'/\H' S=AX (.lst [])/\∃uv:V,UseAt H' (zF l ps) uv/\σ=[!!a,~~~l,~~~!m,~~~!M,!!S,AX (uv),AY,AY]) ?_ ?_
  ·rfl'
   exact Yd (st:=0) rfl (hA.same s2) hN (λp hp=>(hP p hp).1) (by have:=hR.len 0 (aD _);exact aM this ∅) λr v H' s' hu hF=>#[s2.trans s',s' _ _ hS,(by rw[Wb hF]at hu;exact hu)]
  rintro σ H3 ⟨s3,hS3,uv,hu,rfl⟩:_;right;refine zj (λσ H'=>Same H H'/\zF (wAt ps l J) ps=AY/\LsA K H' S ((sAt ps l J).map dG)/\∃v5 v6 v7,σ=[!!a,AX (.str (tx (wAt ps l J))),~~~!m,~~~!M,!!S,v5,v6,v7]) ?_ ?_
  ·unfold Jo;refine#[λk σ H'=>∃(j:Nat) (uv:V) (v6 v7:Option V),k=J - j/\j<=J/\Same H H'/\LsA K H' S ((sAt ps l j).map dG)/\UseAt H' (zF (wAt ps l j) ps) uv/\σ=[!!a,AX (.str (tx (wAt ps l j))),~~~!m,~~~!M,!!S,AX (uv),v6,v7],#[_,0,uv,AY,AY,rfl,aD _,s3,#[[],hS3,by erw[sAt,List.range_zero,aL,Iss]],hu,rfl],?_];rintro k σ H' ⟨j,uv,v6,v7,rfl,hj,hs,hL,hu,rfl⟩;have hlj:=hR.len j hj;have hRm:=hR.most;obtain⟨xs,hX,hI⟩:=id hA
   rfl'
   refine yq (λhne=>?_) λhne=>?_
   ·rcases hu with ⟨_,h⟩ | ⟨n,q0,p,hf,rfl,hp⟩
    ·exact absurd h hne
    have hF:=W8 (wAt ps l j) ps hN;rw[hf]at hF
    have hjJ:j<J\/(j=J/\(J:Int)=m/\∀H',Same H H'->E (.ref CF) AY H'):=by
     by_cases e:j=J
     ·subst e;rcases hq with ⟨h,_⟩ | ⟨_,h1,h2⟩
      ·rw[hf]at h;cases h
      ·exact .inr #[rfl,h1,h2]
     ·exact .inl ⋯
    have hJm:(J:Int)<=m:=by
     rcases hq with ⟨_,h,_⟩ | ⟨_,h,_⟩ <;> lia
    obtain⟨rl,hrl,hst⟩:∃rl,ps[n]? = AX rl/\zr (wAt ps l j) (q0:Int) rl.1=AZ:=by
     rcases hF with ⟨h,_⟩ | ⟨n0,q1,e,_,_,_,a4,_⟩
     ·cases h
     ·cases e;exact (wF a4).2
    have hlp:=hP rl (ag hrl);have hw:=xZ hf;obtain⟨pr,hai,hqr⟩:=zfB hI hrl;refine#[λσ' H''=>∃(uv:V) (v6 v7:Option V),j<J/\Same H H''/\LsA K H'' S ((sAt ps l (j+1)).map dG)/\UseAt H'' (zF (wAt ps l (j+1)) ps) uv/\σ'=[!!a,AX (.str (tx (wAt ps l (j+1)))),~~~!m,~~~!M,!!S,AX (uv),v6,v7],λσ' H'' ⟨uv,v6,v7,a0,a1,a2,a3,a4⟩=>#[J - (j+1),⋯,j+1,rfl,⋯,a1,a2,uv,a3,v6,v7,a4],?_];obtain⟨ys,hY,hJ2⟩:=id hL;have hyl:=hJ2.len;rw[ae,jB]at hyl;refine zj (λσ' H''=>H''=H'/\j<J/\σ'=[!!a,AX (.str (tx (wAt ps l j))),~~~!m,~~~!M,!!S,!!p,v6,v7]) ?_ ?_
    ·rfl'
     refine#[_,.inl #[_,SqL.of hY,rfl],yq (λhge=>?_) λhge=>?_]
     ·rcases hjJ with h | ⟨_,_,h⟩
      ·lia
      ·exact#[⋯,h _ hs]
     ·rcases hjJ with h | ⟨e,h,_⟩
      ·exact h
      ·lia
    rintro σ' G1 ⟨rfl,hlt,rfl⟩:_;right;refine zj (λσ' H''=>H''=G1/\σ'=[!!a,AX (.str (tx (wAt ps l j))),~~~!m,~~~!M,!!S,!!p,-~~~n,v7]) ?_ ?_
    ·rfl'
     exact#[_,SqT.of hp,rfl]
    rintro σ' G2 ⟨rfl,rfl⟩:_;right;refine zj (λσ' H''=>H''=G2/\σ'=[!!a,AX (.str (tx (wAt ps l j))),~~~!m,~~~!M,!!S,!!p,-~~~n,-~~~q0]) ?_ ?_
    ·rfl'
     exact#[_,SqT.of hp,rfl]
    rintro σ' G3 ⟨rfl,rfl⟩:_;right;refine zj (λσ' H''=>H''=G3/\σ'=[!!a,AX (.str (tx (wAt ps l (j+1)))),~~~!m,~~~!M,!!S,!!p,-~~~n,-~~~q0]) ?_ ?_
    ·rfl'
     have hq2:=zq hs hqr;exact#[_,SqL.of (hs _ _ hX),_,hai,_,rfl,_,hq2,_,rfl,_,SqL.of (hs _ _ hX),_,hai,_,rfl,_,hq2,_,rfl,wAt ps l j,rl.1,rl.2,(q0:Nat),rfl,hlj,by have:=hlp.1;lia,by have:=hlp.2;lia,λ_=>#[rfl,by rw[hw];unfold YV;rw[xj hrl]],λh=>by rw[hst]at h;cases h]
    rintro σ' G4 ⟨rfl,rfl⟩:_;right;refine zj (λσ' H''=>Same H H''/\LsA K H'' S ((sAt ps l (j+1)).map dG)/\σ'=[!!a,AX (.str (tx (wAt ps l (j+1)))),~~~!m,~~~!M,!!S,!!p,-~~~n,-~~~q0]) ?_ ?_
    ·rfl'
     refine#[.inl #[_,SqL.of hY],⋯,λt ht=>#[_,ze ht _ _ hY,⋯,zJ (hs.trans (ze ht)) hSn,?_]];rw[WF,hf,ay];exact LsA.pushT hY hJ2 ht zfi (zab _) (by erw[zV,xf,and_self])
    rintro σ' G5 ⟨s5,hL5,rfl⟩:_;have hl1:=hR.len (j+1) hlt;have hM0:=hM rl (ag hrl);right
    rfl'
    refine Yd (st:=(if (q0:Int) - M+1 > 0 then (q0:Int) - M+1 else 0).toNat) (by split <;> lia) (hA.same s5) hN (λp hp=>(hP p hp).1) (aM hl1 ∅) λr v H' s' hu hF2=>#[hlt,s5.trans s',hL5.same s',?_];have hb:=VD (M:=M.toNat) (lo:=(if (q0:Int) - M+1 > 0 then (q0:Int) - M+1 else 0).toNat) hF hN (λp hp=>by have:=hM p hp;lia) (by split <;> lia);rw[<- hw]at hb;rw[Wb (hb.window (aD _) hF2)]at hu;exact hu
   ·have hv:uv=.non:=Decidable.not_not.mp hne
    have hf:zF (wAt ps l j) ps=AY:=by
     rcases hu with ⟨h,_⟩ | ⟨_,_,_,_,h,_⟩
     ·exact h
     ·rw[hv]at h;cases h
    have e:j=J:=by
     rcases dH j J with h | h
     ·exact absurd hf (hR.live j h)
     ·lia
    subst e;exact#[hs,hf,hL,rfl]
  rintro σ H4 ⟨s4,hF,hL,v5,v6,v7,rfl⟩:_;right
  rfl'
  rcases hq with ⟨_,_,hq⟩ | ⟨h,_⟩
  ·exact#[⋯,λp hp=>hq p S _ (s4.trans (ze hp)) zd (hL.same (ze hp)) hSn]
  ·exact absurd hF h
noncomputable abbrev Stp:=Int × Int × Bool
noncomputable def dSt(t:Stp):D:=.tup [.int t.1,.int t.2.1,.bl t.2.2]
noncomputable def sdl(r:zp)(f:Bool):zp:=if f=AZ then r else (r.2,r.1)
noncomputable def yl(ps:List zp)(w:())(t:Stp):Option (()) :=
 if 0<=t.1/\t.1<ps.length then (if zr w t.2.1 (sdl (ps.getD t.1.toNat ([],[])) t.2.2).1=AZ then AX (yF w t.2.1 (sdl (ps.getD t.1.toNat ([],[])) t.2.2).1 (sdl (ps.getD t.1.toNat ([],[])) t.2.2).2)else AY)else AY
theorem KP{H:Hp}{D p:sq}{ds es:List L3.D}{xs vs:List V}(h1:H D=AX (.lst xs))(h2:Iss K H ds xs)(hp:H p=AY)(hv:Iss K H es vs)(f:zV ds)(fe:zV es):LsA K (upd (upd H p (.tup vs)) D (.lst (xs ++ [.ref p]))) D (ds ++ [.tup es]):=by
 have e:(upd H p (.tup vs)) D=AX (.lst xs):=ze hp _ _ h1;exact LsA.snoc e (Iss.same (ze hp) _ _ h2) f (by erw[xf];exact fe) (Is.tup hp hv)
theorem zeh{H:Hp}{l m:()}:Iss K H [dS l,dS m] [.str (tx l),.str (tx m)]:=by
 erw[Iss,Is]
 exact#[_,_,rfl,rfl,_,_,rfl,rfl,rfl]
def ju(rs:List zp):Prop:=rs.length<=30/\∀r ∈ rs,r.1.length<=100/\r.2.length<=100
theorem zal{H:Hp}{t:Stp}{v:V}(h:Is K H (dSt t) v):∃p,v=.ref p/\SqT K H p [.int t.1,.int t.2.1,.bl t.2.2]:=by
 erw[dSt,Is,Iss]at h
 obtain⟨a,xs,e,hs,v1,r1,rfl,rfl,v2,r2,rfl,rfl,v3,r3,rfl,rfl,rfl⟩:=h;exact#[a,e,hs]
theorem kG{H:Hp}{p:sq}{t:Stp}(h:SqT K H p [.int t.1,.int t.2.1,.bl t.2.2]):Is K H (dSt t) (.ref p):=by
 erw[dSt,Is,Iss]
 exact#[p,_,rfl,h,_,_,rfl,rfl,_,_,rfl,rfl,_,_,rfl,rfl,rfl]
theorem zaO{H:Hp}{i j:Int}{b:Bool}:Iss K H [.int i,.int j,.bl b] [.int i,.int j,.bl b]:=by
 erw[Iss,Is]
 exact#[_,_,rfl,rfl,_,_,rfl,rfl,_,_,rfl,rfl,rfl]
theorem xW(rs:List Stp):zV (rs.map dSt):=wK λd h=>by obtain⟨r,_,rfl⟩:=Bf.mp h;erw[dSt,xf,zV,and_self]
theorem vg{H:Hp}{rs:List Stp}{vs:List V}{j:Nat}{v:V}(h:Iss K H (rs.map dSt) vs)(q:vs[j]? = AX v):∃r p,rs[j]? = AX r/\v=.ref p/\SqT K H p [.int r.1,.int r.2.1,.bl r.2.2]:=by
 obtain⟨d,e,i⟩:=h.get q;rw[aq]at e;obtain⟨r,hr,rfl⟩:=Bk.mp e;obtain⟨p,e1,e2⟩:=zal i;exact#[r,p,hr,e1,e2]
theorem zc3{H:Hp}{rs:List zp}{xs:List V}{i:Int}(hI:Iss K H (rs.map dR) xs)(h0:0<=i)(hi:i<rs.length):∃p,atI xs i=AX (.ref p)/\rs[i.toNat]? = AX (rs.getD i.toNat ([],[]))/\SqT K H p [.str (tx (rs.getD i.toNat ([],[])).1),.str (tx (rs.getD i.toNat ([],[])).2)]:=by
 have hl:=hI.len;rw[ae]at hl;obtain⟨v,a1,b1⟩:=qf (xs:=xs) (i:=i) h0 ⋯;obtain⟨r,p,h1,rfl,h3⟩:=hI.getR b1;have e:rs.getD i.toNat ([],[])=r:=by rw[aa,h1];rfl
 rw[e];exact#[p,a1,h1,h3]
theorem Y0{rs:List zp}(h:ju rs)(i:Nat):(rs.getD i ([],[])).1.length<=100/\(rs.getD i ([],[])).2.length<=100:=by
 rw[aa]
 cases e:rs[i]? with
 | none=>exact#[aD _,aD _]
 | some r=>exact h.2 r (ag e)
theorem yQ{ps:List zp}{w:()}{t:Stp}(h:¬ (0<=t.1/\t.1<ps.length)):yl ps w t=AY:=if_neg h
theorem yz{ps:List zp}{w:()}{t:Stp}(h:0<=t.1/\t.1<ps.length):yl ps w t=if zr w t.2.1 (sdl (ps.getD t.1.toNat ([],[])) t.2.2).1=AZ then AX (yF w t.2.1 (sdl (ps.getD t.1.toNat ([],[])) t.2.2).1 (sdl (ps.getD t.1.toNat ([],[])) t.2.2).2)else AY:=if_pos h
def Ch(rs:List zp)(ws:List (()))(ss:List Stp):Prop:=ws.length=ss.length+1/\∀i s,ss[i]? = AX s->∃w w',ws[i]? = AX w/\ws[i+1]? = AX w'/\yl rs w s=AX w'
noncomputable def bk(s:Stp):Stp:=(s.1,s.2.1,!s.2.2)
noncomputable def yK(ss:List Stp):List Stp:=ss.reverse.map bk
noncomputable def mvL(ss:List Stp)(z:Int):List Stp:=ss.map λs=>(s.1,s.2.1+z,s.2.2)
theorem zbz(r:zp)(f:Bool):sdl r (!f)=((sdl r f).2,(sdl r f).1):=by cases f <;> rfl
theorem ky{rs:List zp}{w w':()}{s:Stp}(h:yl rs w s=AX w'):yl rs w' (bk s)=AX w:=by
 by_cases hb:0<=s.1/\s.1<rs.length
 ·rw[yz hb]at h;have hb':0<=(bk s).1/\(bk s).1<rs.length:=hb;rw[yz hb']
  erw[bk,zbz]
  generalize sdl (rs.getD s.1.toNat ([],[])) s.2.2=r at *;by_cases hs:zr w s.2.1 r.1=AZ
  ·rw[if_pos hs]at h;cases h;obtain⟨e1,e2⟩:=X7 r.2 hs;rw[if_pos e1,e2]
  ·rw[if_neg hs]at h;cases h
 ·rw[yQ hb]at h;cases h
theorem Ch.back{rs:List zp}{ws:List (())}{ss:List Stp}(h:Ch rs ws ss):Ch rs ws.reverse (yK ss):=by
 obtain⟨hl,hs⟩:=h;refine#[by simp [yK,hl],λi s hi=>?_];have hil:i<ss.length:=by have:=(Be.mp hi).1;simpa [yK] using this
 unfold yK at hi;rw[aq,bx hil]at hi;obtain⟨s0,h0,rfl⟩:=Bk.mp hi;obtain⟨w,w',e1,e2,e3⟩:=hs _ _ h0;refine#[w',w,?_,?_,ky e3]
 ·rw[bx ⋯,<- e2];congr 1;lia
 ·rw[bx ⋯,<- e1];congr 1;lia
theorem Wz{a w b:()}{k:Nat}(h:k<=w.length):(a ++ w ++ b).drop (a.length+k)=w.drop k ++ b:=by
 rw[ar,<- d4,cH,bL h]
theorem Zs{a w b o:()}{k:Int}(h:zr w k o=AZ):zr (a ++ w ++ b) (k+(a.length:Int)) o=AZ:=by
 obtain⟨_,_,h0,h1⟩:=yU h;unfold zr at h ⊢;rw[decide_eq_true_eq]at h ⊢;obtain⟨_,_,h2⟩:=h;refine#[⋯,by erw[aj];lia,?_];rw[show (k+(a.length:Int)).toNat=a.length+k.toNat by lia,Wz ⋯,aQ (by rw[bi];lia),h2]
theorem VH{a w b o n:()}{k:Int}(h:zr w k o=AZ):yF (a ++ w ++ b) (k+(a.length:Int)) o n=a ++ yF w k o n ++ b:=by
 obtain⟨_,_,h0,h1⟩:=yU h;unfold yF;rw[show (k+(a.length:Int)).toNat=a.length+k.toNat by lia]
 have e1:(a ++ w ++ b).take (a.length+k.toNat)=a ++ w.take k.toNat:=by
  rw[ar,List.take_length_add_append,aQ ⋯]
 have e2:(a ++ w ++ b).drop (a.length+k.toNat+o.length)=w.drop (k.toNat+o.length) ++ b:=by
  rw[Nat.add_assoc];exact Wz ⋯
 rw[e1,e2];simp [ar]
theorem qi{rs:List zp}{w w':()}{s:Stp}(a b:())(h:yl rs w s=AX w'):yl rs (a ++ w ++ b) (s.1,s.2.1+(a.length:Int),s.2.2)=AX (a ++ w' ++ b):=by
 by_cases hb:0<=s.1/\s.1<rs.length
 ·rw[yz hb]at h;rw[yz (by exact hb)];simp only;generalize sdl (rs.getD s.1.toNat ([],[])) s.2.2=r at *;by_cases hs:zr w s.2.1 r.1=AZ
  ·rw[if_pos hs]at h;cases h;rw[if_pos (Zs hs),VH hs]
  ·rw[if_neg hs]at h;cases h
 ·rw[yQ hb]at h;cases h
theorem Ch.within{rs:List zp}{ws:List (())}{ss:List Stp}(a b:())(h:Ch rs ws ss):Ch rs (ws.map λw=>a ++ w ++ b) (mvL ss (a.length:Int)):=by
 obtain⟨hl,hs⟩:=h;refine#[by simp [mvL,hl],λi s hi=>?_];unfold mvL at hi;rw[aq]at hi;obtain⟨s0,h0,rfl⟩:=Bk.mp hi;obtain⟨w,w',e1,e2,e3⟩:=hs _ _ h0;exact#[a ++ w ++ b,a ++ w' ++ b,by rw[aq,e1];rfl,by rw[aq,e2];rfl,qi a b e3]
def Fit(rs:List zp)(w:())(m:Int)(s:Stp):Prop:=∃w',yl rs w s=AX w'/\(w'.length:Int)<=m
theorem WY{w o n:()}{k:Int}(h:zr w k o=AZ):(yF w k o n).length+o.length=w.length+n.length:=by
 obtain⟨e,hl,h0,h1⟩:=yU h;unfold yF
 erw[aj,bi,hl]
 lia
theorem qw{H:Hp}{D p:sq}{ds es:List L3.D}{xs vs:List V}(h1:H D=AX (.lst xs))(h2:Iss K H ds xs)(hp:H p=AY)(hv:Iss K H es vs)(f:zV ds)(fe:zV es):Iss K (upd (upd H p (.tup vs)) D (.lst (xs ++ [.ref p]))) (ds ++ [.tup es]) (xs ++ [.ref p]):=by
 obtain⟨ys,hy1,hy2⟩:=KP h1 h2 hp hv f fe;rw[zd]at hy1;cases hy1;exact hy2
def uQ(K:so):Sp:=λvs H Q _=>∃(t:sq) (ss:List Stp),vs=[.ref t]/\Is K H (.lst (ss.map dSt)) (.ref t)/\ss.length<=1000/\∀(D:sq) (H':Hp),H D=AY->Same H H'->LsA K H' D ((yK ss).map dSt)->Q (.ref D) H'
theorem qF{t:sq}{ss:List Stp}{H:Hp}{Q:VK}{E:XK}(h1:Is K H (.lst (ss.map dSt)) (.ref t))(h2:ss.length<=1000)(h:∀(D:sq) (H':Hp),H D=AY->Same H H'->LsA K H' D ((yK ss).map dSt)->Q (.ref D) H'):uQ K [.ref t] H Q E:=#[t,ss,rfl,h1,h2,h]
theorem zbh{ss:List Stp}{i:Nat}{s:Stp}(h:ss.reverse[i]? = AX s):(yK ss).take (i+1)=(yK ss).take i ++ [bk s]:=zX (by unfold yK;rw[aq,h];rfl)
theorem za6:sQz 1 ["steps"] W7:=by nofun
theorem zcm{f:sq}{fd:sv}(B:Bt mg)(F:("back"^^^W7)) :(1&&&["steps"]) (uQ K):=by
 exists F.ok za6
 ·obtain⟨t,ss,rfl,hT,hsl,q⟩:=h;refine#[_,(zf (zl (xz (own:=["step"]) (caps:=[]) (ix:=[]) (tt:=wS) (te:=(Jy (zM (tOp (jD K) (ym 0) (tC (.int 0))) (zM (tOp (jD K) (ym 0) (tC (.int 1))) (zM (UQ (tOp (jD K) (ym 0) (tC (.int 2)))) xH))))) rfl (zN (sc:=zh W7) rfl (by symm) (by symm) (by symm) rfl (by symm) (by symm) rfl) (zea rfl B.rev (za (pv 0) zc)) (λ_ _ _ _ _ _=>zx (i:=0) (show List.Nodup [_] by decide) rfl (.inl rfl)) (λ_ _ _ _ _ _=>yG) (λ_ _ _ _ _ _=>(zR (za (zo ix_tup (pv 0) zg) (za (zo ix_tup (pv 0) zg) (za (zaR (zo ix_tup (pv 0) zg)) zc)))))))),?_];have s16:=zP
  rfl'
  erw[Is]at hT
  obtain⟨_,ts,e,hTs,hJ⟩:=hT;cases e;have htl:=hJ.len;rw[ae]at htl;have hbl:(yK ss).length=ss.length:=by simp [yK]
  refine#[ts,hTs,λD hD=>CompV.by (xs:=ts) (λi Bd H'=>Same H H'/\H' D=AX (.lst Bd)/\Iss K H' (((yK ss).take i).map dSt) Bd) #[ze hD,zd,by erw[bS,aL,Iss]] (λi Bd H' _ h=>h.1.seq hTs) ?_ ?_]
  ·refine nm4 ?_;rintro i x Bd H' hx ⟨hs,hH,hA⟩:_;have hi:i<ts.length:=by have:=(Be.mp hx).1;simpa using this
   rw[bx hi]at hx;obtain⟨s,ps,hsi,rfl,hqs⟩:=vg hJ hx;have hsr:ss.reverse[i]? = AX s:=by rw[bx ⋯,<- hsi,htl]
   have hal:=hA.len;rw[ae,aG]at hal;right
   erw[wS]
   rfl'
   refine#[xx,_,zq hs hqs,_,rfl,_,zq hs hqs,_,rfl,_,zq hs hqs,_,rfl,_,rfl,⋯,λp hp=>#[ze hp _ _ hH,⋯,CNx.mk hi #[zJ (hs.trans (ze hp)) hD,zd,?_]]];rw[zbh hsr,ay];exact qw hH hA hp zaO (xW _) (by erw[zV,xf,and_self])
  ·rintro Bd H' ⟨hs,hH,hA⟩;rw[htl,<- hbl,aP]at hA;exact q D H' hD hs #[Bd,hH,hA]
def ZZ(K:so):Sp:=λvs H Q _=>∃(t:sq) (ss:List Stp) (z:Int),vs=[.ref t,.int z]/\Is K H (.lst (ss.map dSt)) (.ref t)/\ss.length<=1000/\∀(D:sq) (H':Hp),H D=AY->Same H H'->LsA K H' D ((mvL ss z).map dSt)->Q (.ref D) H'
theorem Yh{t:sq}{ss:List Stp}{z:Int}{H:Hp}{Q:VK}{E:XK}(h1:Is K H (.lst (ss.map dSt)) (.ref t))(h2:ss.length<=1000)(h:∀(D:sq) (H':Hp),H D=AY->Same H H'->LsA K H' D ((mvL ss z).map dSt)->Q (.ref D) H'):ZZ K [.ref t,.int z] H Q E:=#[t,ss,z,rfl,h1,h2,h]
theorem KR:sQz 2 ["steps","size"] Zv:=by nofun
theorem KL{f:sq}{fd:sv}(B:Bt mg)(F:("moved"^^^Zv)) :(1&&&["steps","size"]) (ZZ K):=by
 exists F.ok KR
 ·obtain⟨t,ss,z,rfl,hT,hsl,q⟩:=h;refine#[_,(zf (zl (xz (own:=["step"]) (caps:=["size"]) (ix:=[1]) (tt:=wS) (te:=(Jy (zM (tOp (jD K) (ym 0) (tC (.int 0))) (zM (tOp YT (tOp (jD K) (ym 0) (tC (.int 1))) (ym 1)) (zM (tOp (jD K) (ym 0) (tC (.int 2))) xH))))) rfl (zN (sc:=zh Zv) rfl (by symm) (by symm) (by symm) rfl (by symm) (by symm) rfl) (yj (pv 0)) (λ_ _ _ _ _ _=>zx (i:=0) (show List.Nodup [_,_] by decide) rfl (.inl rfl)) (λ_ _ _ _ _ _=>yG) (λ_ _ _ _ _ _=>(zR (za (zo ix_tup (pv 0) zg) (za (zB wo (zo ix_tup (pv 0) zg) (pv 1)) (za (zo ix_tup (pv 0) zg) zc)))))))),?_];have s16:=zP
  rfl'
  erw[Is]at hT
  obtain⟨_,ts,e,hTs,hJ⟩:=hT;cases e;have htl:=hJ.len;rw[ae]at htl;have hbl:(mvL ss z).length=ss.length:=by simp [mvL]
  refine#[#[ts,hTs],λD hD=>CompL.by (xs:=ts) (λi Bd H'=>Same H H'/\H' D=AX (.lst Bd)/\Iss K H' (((mvL ss z).take i).map dSt) Bd) #[ze hD,zd,by erw[bS,aL,Iss]] (λi Bd H' _ h=>h.1.seq hTs) ?_ ?_]
  ·refine nm4 ?_;rintro i x Bd H' hx ⟨hs,hH,hA⟩:_;have hi:=(Be.mp hx).1;obtain⟨s,ps,hsi,rfl,hqs⟩:=vg hJ hx;have hm:(mvL ss z)[i]? = AX (s.1,s.2.1+z,s.2.2):=by unfold mvL;rw[aq,hsi];rfl
   have hal:=hA.len;rw[ae,aG]at hal;right
   erw[wS]
   rfl'
   refine#[xx,_,zq hs hqs,_,rfl,_,zq hs hqs,_,rfl,_,zq hs hqs,_,rfl,⋯,λp hp=>#[ze hp _ _ hH,⋯,CNx.mk hi #[zJ (hs.trans (ze hp)) hD,zd,?_]]];rw[zX hm,ay];exact qw hH hA hp zaO (xW _) (by erw[zV,xf,and_self])
  ·rintro Bd H' ⟨hs,hH,hA⟩;rw[htl,<- hbl,aP]at hA;exact q D H' hD hs #[Bd,hH,hA]
noncomputable abbrev Ent:=() × () × List Stp
variable{E:XK}{H:Hp}{Q:VK}{bs:List Ent}{e:Ent}{es:List Ent}{f:sq}{fd:sv}{k:Nat}{n:Nat}{ns:List Int}{ps:List zp}{rs:List zp}{ss:List Stp}
noncomputable def dE(e:Ent):L3.D:=.tup [dS e.1,dS e.2.1,.lst (e.2.2.map dSt)]
noncomputable def VR(es:List Ent)(u:Stp):List Stp:=mvL (if u.2.2=AZ then (es.getD u.1.toNat ([],[],[])).2.2 else yK (es.getD u.1.toNat ([],[],[])).2.2) u.2.1
noncomputable def byL(es:List Ent)(us:List Stp):List Stp:=us.flatMap (VR es)
theorem zdp{v:V}(h:Is K H (dE e) v):∃p s,v=.ref p/\SqT K H p [.str (tx e.1),.str (tx e.2.1),.ref s]/\Is K H (.lst (e.2.2.map dSt)) (.ref s):=by
 erw[dE,Is,Iss]at h
 obtain⟨a,xs,e0,hs,v1,r1,rfl,rfl,v2,r2,rfl,rfl,v3,r3,rfl,⟨s,zs,rfl,h1,h2⟩,rfl⟩:=h;refine#[a,s,e0,hs,?_]
 erw[Is]
 exact#[s,zs,rfl,h1,h2]
theorem zgB{xs:List V}{i:Int}(hI:Iss K H (es.map dE) xs)(h0:0<=i)(hi:i<es.length):∃p s,atI xs i=AX (.ref p)/\es[i.toNat]? = AX (es.getD i.toNat ([],[],[]))/\SqT K H p [.str (tx (es.getD i.toNat ([],[],[])).1),.str (tx (es.getD i.toNat ([],[],[])).2.1),.ref s]/\Is K H (.lst ((es.getD i.toNat ([],[],[])).2.2.map dSt)) (.ref s):=by
 have hl:=hI.len;rw[ae]at hl;obtain⟨v,a1,b1⟩:=qf (xs:=xs) (i:=i) h0 ⋯;obtain⟨d,e,ix⟩:=hI.get b1;rw[aq]at e;obtain⟨r,hr,rfl⟩:=Bk.mp e;have e:es.getD i.toNat ([],[],[])=r:=by rw[aa,hr];rfl
 rw[e];obtain⟨p,s,rfl,h2,h3⟩:=zdp ix;exact#[p,s,a1,hr,h2,h3]
theorem X6(ss:List Stp)(z:Int):(mvL ss z).length=ss.length:=by simp [mvL]
theorem yV(ss:List Stp):(yK ss).length=ss.length:=by simp [yK]
def Ud(K:so):Sp:=λvs H Q _=>∃(a t:sq) (es:List Ent) (us:List Stp),vs=[.ref a,.ref t]/\Is K H (.lst (es.map dE)) (.ref a)/\Is K H (.lst (us.map dSt)) (.ref t)/\us.length<=100/\(∀e ∈ es,e.2.2.length<=600)/\(∀u ∈ us,0<=u.1/\u.1<es.length)/\∀(D:sq) (H':Hp),H D=AY->Same H H'->LsA K H' D ((byL es us).map dSt)->Q (.ref D) H'
theorem lH:sQz 2 ["entries","steps","chain","step","own"] uZ:=by nofun
theorem Xh(B:Bt mg)(F:("by_pacts"^^^uZ))(rO:(1<<<"moved") ["steps","size"] [] (ZZ K))(mq:(1<<<"back") ["steps"] [] (uQ K)):(2&&&["entries","steps"]) (Ud K):=by
 exists F.ok lH
 ·obtain⟨a,t,es,us,rfl,hE,hU,hul,hel,hub,q⟩:=h
  refine#[_,(zi (zD 2 lH.nd (wy zc))
   (zi (zW PassesOwn.never rfl (yj (pv 1)) (zx (i:=3) lH.nd rfl (.inl rfl))
    (zi (zD 4 lH.nd (zo ix_tup (zo ix_list (pv 0) (zo ix_tup (pv 3) zg)) zg))
    (zf (xL (uM bz PySem.F.slot_list_extend PySem.F.type_list_extend Qq (pv 2) (za (cl0 rO hr .nil rfl (za (vn (yE (zo ix_tup (pv 3) zg) (λ_=>rfl)) (pv 4) (cl0 mq hr .nil rfl (za (pv 4) zc))) (za (zo ix_tup (pv 3) zg) zc))) zc))))))
   (zf (zl (pv 2))))),?_]
  have s16:=zP;have hE':=hE;have hU':=hU
  erw[Is]at hE' hU'
  obtain⟨_,xs,e,hX,hI⟩:=hE';cases e;obtain⟨_,ts,e,hTs,hJ⟩:=hU';cases e;have htl:=hJ.len;rw[ae]at htl;refine zj (λσ H'=>∃D,H D=AY/\Same H H'/\H' D=AX (.lst [])/\σ=[!!a,!!t,!!D,AY,AY]) ?_ ?_
  ·rfl'
   exact#[⋯,λp hp=>#[p,hp,ze hp,zd,rfl]]
  rintro σ H1 ⟨D,hD,s1,hD1,rfl⟩:_;right;refine zj (λσ H'=>Same H H'/\LsA K H' D ((byL es us).map dSt)/\∃v3 v4,σ=[!!a,!!t,!!D,v3,v4]) ?_ ?_
  ·rfl'
   refine#[#[_,s1.seq hTs],ForL.by (xs:=ts) (λi σ H'=>Same H H'/\LsA K H' D ((byL es (us.take i)).map dSt)/\(byL es (us.take i)).length<=i * 600/\∃v3 v4,σ=[!!a,!!t,!!D,v3,v4]) #[s1,#[[],hD1,by erw[bS,byL,List.flatMap_nil,aL,Iss]],by simp [byL],_,_,rfl] (λi σ H' _ h=>h.1.seq hTs) ?_ ?_]
   ·refine nm4 ?_;rintro i x σ H' hx ⟨hs,hL,hl,v3,v4,rfl⟩:_;obtain⟨u,pu,hui,rfl,hqu⟩:=vg hJ hx;have hil:=(Be.mp hui).1;obtain⟨u0,u1⟩:=hub u (ag hui);obtain⟨pe,se,g1,g2,g3,g4⟩:=zgB hI u0 u1;have hle:=hel _ (ag g2)
    have hby:byL es (us.take (i+1))=byL es (us.take i) ++ VR es u:=by
     unfold byL;rw[zX hui,cY];simp
    right
    erw[yy,aV,aU]
    refine zj (λσ H''=>H''=H'/\σ=[!!a,!!t,!!D,!!pu,!!se]) ?_ ?_
    ·rfl'
     exact#[_,zq hs hqu,_,rfl,_,rfl,_,hs.seq hX,_,g1,_,rfl,_,zq hs g3,rfl]
    rintro σ G ⟨rfl,rfl⟩:_;obtain⟨zs,hZ,hZI⟩:=id hL;have hzl:=hZI.len;rw[ae]at hzl;have hse:=Is.same hs _ _ g4
    have fin:∀(ws:List Stp) (M:sq) (G2:Hp),VR es u=ws->ws.length<=600->Same G G2->LsA K G2 M (ws.map dSt)->V9 (V.ref D) [V.ref M] G2 λx H1=>Same H H1/\LsA K H1 D ((byL es (us.take (i+1))).map dSt)/\(byL es (us.take (i+1))).length<=(i+1) * 600:=λws M G2 ew hwl sg hM=>by
     obtain⟨ys,hY,hYI⟩:=hM;have hyl:=hYI.len;rw[ae]at hyl;have hZ2:=sg _ _ hZ;refine#[D,M,zs,ys,rfl,rfl,hZ2,hY,⋯,zJ (hs.trans sg) hD,#[_,zd,?_],?_]
     ·rw[hby,ew,ay];exact Iss.append (Iss.updL hZ2 _ _ (xW _) (Iss.same sg _ _ hZI)) (Iss.updL hZ2 _ _ (xW _) hYI)
     ·rw[hby,ew,aj];lia
    right
    rfl'
    refine#[.inl #[_,SqL.of hZ],_,zq hs hqu,_,rfl,_,rfl,yq (λhf=>#[_,zq hs hqu,_,rfl,Yh hse ⋯ λM G2 _ sg hM=>fin _ M G2 (by unfold VR;rw[if_pos hf]) (by rw[X6];lia) sg hM]) λhf=>qF hse ⋯ λM0 G1 _ sg0 hM0=>#[_,zq (hs.trans sg0) hqu,_,rfl,Yh hM0.is (by rw[yV];lia) λM G2 _ sg hM=>fin _ M G2 (by unfold VR;rw[if_neg hf]) (by rw[X6,yV];lia) (sg0.trans sg) hM]]
   ·rintro σ H' ⟨hs,hL,hl,v3,v4,rfl⟩;rw[htl,aP]at hL;exact#[hs,hL,_,_,rfl]
  rintro σ H2 ⟨s2,hL2,v3,v4,rfl⟩:_;right
  rfl'
  exact q D H2 hD s2 hL2
noncomputable def z9(rs:List zp):()->List Stp->Option (())
 | w,[]=>AX w
 | w,s::ss=>(yl rs w s).bind λw'=>z9 rs w' ss
theorem xA(rs:List zp):∀(ss ts:List Stp) (w:()),z9 rs w (ss ++ ts)=(z9 rs w ss).bind λw'=>z9 rs w' ts
 | [],ts,w=>rfl
 | s::ss,ts,w=>by
  erw[bv,z9]
  cases yl rs w s with
  | none=>rfl
  | some w1=>exact xA rs ss ts w1
theorem uq{s:Stp}{w w':()}(h:z9 rs w (s::ss)=AX w'):∃w1,yl rs w s=AX w1/\z9 rs w1 ss=AX w':=by
 erw[z9]at h
 obtain⟨w1,h1,h2⟩:=Bv.mp h;exact#[w1,h1,h2]
theorem jv{s:Stp}{w w1 w2:()}(h:z9 rs w ss=AX w1)(h2:yl rs w1 s=AX w2):z9 rs w (ss ++ [s])=AX w2:=by
 rw[xA,h]
 erw[z9,bY]
 rw[h2];rfl
theorem U0(s:Stp)(ss:List Stp):yK (s::ss)=yK ss ++ [bk s]:=by simp [yK]
theorem wE:∀{ss:List Stp} {w w':()},z9 rs w ss=AX w'->z9 rs w' (yK ss)=AX w
 | [],w,w',h=>by cases h;rfl
 | s::ss,w,w',h=>by
  obtain⟨w1,h1,h2⟩:=uq h;rw[U0];exact jv (wE h2) (ky h1)
theorem qN(a b:()):∀{ss:List Stp} {w w':()},z9 rs w ss=AX w'->z9 rs (a ++ w ++ b) (mvL ss (a.length:Int))=AX (a ++ w' ++ b)
 | [],w,w',h=>by cases h;rfl
 | s::ss,w,w',h=>by
  obtain⟨w1,h1,h2⟩:=uq h;have e:mvL (s::ss) (a.length:Int)=(s.1,s.2.1+(a.length:Int),s.2.2)::mvL ss (a.length:Int):=rfl;rw[e]
  erw[z9]
  rw[qi a b h1];exact qN a b h2
def EOk(rs:List zp)(e:Ent):Prop:=z9 rs e.1 e.2.2=AX e.2.1
noncomputable def zb(es:List Ent):List zp:=es.map λe=>(e.1,e.2.1)
theorem JX(hE:∀e ∈ es,EOk rs e){u:Stp}{w w':()}(h:yl (zb es) w u=AX w'):z9 rs w (VR es u)=AX w':=by
 have hb:0<=u.1/\u.1<(zb es).length:=bJ λhb=>by rw[yQ hb]at h;cases h
 rw[yz hb]at h;have hl:(zb es).length=es.length:=by unfold zb;rw[ae]
 rw[hl]at hb
 have hg:es[u.1.toNat]? = AX (es.getD u.1.toNat ([],[],[])):=by
  rw[aa,ah ⋯];rfl
 have hp:(zb es).getD u.1.toNat ([],[])=((es.getD u.1.toNat ([],[],[])).1,(es.getD u.1.toNat ([],[],[])).2.1):=by
  unfold zb;rw[aa,aq,hg];rfl
 rw[hp]at h;have he:=hE _ (ag hg);unfold VR;generalize es.getD u.1.toNat ([],[],[])=e at *
 have key:∀(o n:()) (ss:List Stp),sdl (e.1,e.2.1) u.2.2=(o,n)->z9 rs o ss=AX n->z9 rs w (mvL ss u.2.1)=AX w':=λo n ss hs hw=>by
  rw[hs]at h;by_cases hst:zr w u.2.1 o=AZ
  ·rw[if_pos hst]at h;cases h;obtain⟨e1,e2,h0,h1⟩:=yU hst;have:=qN (w.take u.2.1.toNat) (w.drop (u.2.1.toNat+o.length)) hw;rw[e1,e2,show ((u.2.1.toNat:Nat):Int)=u.2.1 by lia]at this;exact this
  ·rw[if_neg hst]at h;cases h
 cases hf:u.2.2 with
 | true =>
  rw[if_pos rfl];exact key e.1 e.2.1 e.2.2 (by rw[hf];rfl) he
 | false =>
  rw[if_neg ∅];exact key e.2.1 e.1 (yK e.2.2) (by rw[hf];rfl) (wE he)
theorem jL(hE:∀e ∈ es,EOk rs e):∀{us:List Stp} {w w':()},z9 (zb es) w us=AX w'->z9 rs w (byL es us)=AX w'
 | [],w,w',h=>by cases h;rfl
 | u::us,w,w',h=>by
  obtain⟨w1,h1,h2⟩:=uq h;have e:byL es (u::us)=VR es u ++ byL es us:=by simp [byL]
  rw[e,xA,JX hE h1];exact jL hE h2
theorem UI(ok:ju rs){w w':()}{s:Stp}(h:yl rs w s=AX w'):w'.length<=w.length+100:=by
 have hb:0<=s.1/\s.1<rs.length:=bJ λhb=>by rw[yQ hb]at h;cases h
 rw[yz hb]at h;have g:=Y0 ok s.1.toNat;generalize rs.getD s.1.toNat ([],[])=r at *;by_cases hs:zr w s.2.1 (sdl r s.2.2).1=AZ
 ·rw[if_pos hs]at h;cases h;have:=WY (n:=(sdl r s.2.2).2) hs
  have h2:(sdl r s.2.2).2.length<=100:=by
   cases s.2.2
   ·exact g.1
   ·exact g.2
  lia
 ·rw[if_neg hs]at h;cases h
noncomputable def ka(D:sq)(H:Hp):Hp:=λb=>if b=D then AY else H b
theorem wX{D b:sq}(h:b≠D):ka D H b=H b:=by unfold ka;rw[if_neg h]
theorem jM{D:sq}:ka D H D=AY:=by unfold ka;rw[if_pos rfl]
theorem wZ{D:sq}:Same (ka D H) H:=λb o e=>by
 by_cases hb:b=D
 ·rw[hb,jM]at e;cases e
 ·rw[wX hb]at e;exact e
theorem Jh{D:sq}{H H':Hp}(hD:H D=AY)(s:Same H H'):Same H (ka D H'):=λb o e=>by
 have hb:b≠D:=λz=>by rw[z,hD]at e;cases e
 rw[wX hb];exact s _ _ e
theorem wM{D:sq}{H H':Hp}(s:Same H H'):Same (ka D H) (ka D H'):=λb o e=>by
 by_cases hb:b=D
 ·rw[hb,jM]at e;cases e
 ·rw[wX hb]at e ⊢;exact s _ _ e
theorem xB{D:sq}{o:HO}:Same (ka D H) (ka D (upd H D o)):=λb o' e=>by
 by_cases hb:b=D
 ·rw[hb,jM]at e;cases e
 ·rw[wX hb]at e ⊢;rw[zm hb];exact e
theorem Q1{D a:sq}{xs ys:List V}(hD:H D=AX (.lst ys))(h:SqT K H a xs):SqT K (ka D H) a xs:=by
 rcases h with (h | ⟨o,h⟩) | h
 ·exact .inl (.inl (by rw[wX (λe=>by rw[e,hD]at h;cases h)];exact h))
 ·exact .inl (.inr #[o,by rw[wX (λe=>by rw[e,hD]at h;cases h)];exact h])
 ·exact .inr h
theorem WU{D:sq}{ys:List V}(hD:H D=AX (.lst ys)):∀(ss:List Stp) (vs:List V),Iss K H (ss.map dSt) vs->Iss K (ka D H) (ss.map dSt) vs
 | [],vs,h=>by erw[aL,Iss]at h ⊢;exact h
 | s::ss,vs,h=>by
  erw[au,Iss]at h ⊢
  obtain⟨v,r,rfl,h1,h2⟩:=h;obtain⟨p,rfl,h3⟩:=zal h1;exact#[_,r,rfl,kG (Q1 hD h3),WU hD ss r h2]
theorem ze4{p s:sq}(h1:SqT K H p [.str (tx e.1),.str (tx e.2.1),.ref s])(h2:Is K H (.lst (e.2.2.map dSt)) (.ref s)):Is K H (dE e) (.ref p):=by
 erw[dE,Is,Iss]
 erw[Is]at h2
 exact#[p,_,rfl,h1,_,_,rfl,rfl,_,_,rfl,rfl,_,_,rfl,h2,rfl]
theorem WH{vs:List V}{j:Nat}{v:V}(h:Iss K H (es.map dE) vs)(q:vs[j]? = AX v):∃e p s,es[j]? = AX e/\v=.ref p/\SqT K H p [.str (tx e.1),.str (tx e.2.1),.ref s]/\Is K H (.lst (e.2.2.map dSt)) (.ref s):=by
 obtain⟨d,e,i⟩:=h.get q;rw[aq]at e;obtain⟨r,hr,rfl⟩:=Bk.mp e;obtain⟨p,s,e1,e2,e3⟩:=zdp i;exact#[r,p,s,hr,e1,e2,e3]
theorem zb0{d:L3.D}{v:V}(h:Is K H d v):Iss K H [d] [v]:=by
 erw[Iss]
 exact#[v,[],rfl,h,rfl]
def EnA(K:so)(H:Hp)(e:Ent)(v:V):Prop:=∃p s,v=.ref p/\SqT K H p [.str (tx e.1),.str (tx e.2.1),.ref s]/\LsA K H s (e.2.2.map dSt)
def EnsA(K:so)(H:Hp):List Ent->List V->Prop
 | [],vs=>vs=[]
 | e::es,vs=>∃v r,vs=v::r/\EnA K H e v/\EnsA K H es r
def EnsL(K:so)(H:Hp)(a:sq)(es:List Ent):Prop:=∃xs,SqL K H a xs/\EnsA K H es xs
def EnsM(K:so)(H:Hp)(a:sq)(es:List Ent):Prop:=∃xs,H a=AX (.lst xs)/\EnsA K H es xs
theorem EnA.is{v:V}(h:EnA K H e v):Is K H (dE e) v:=by
 obtain⟨p,s,rfl,h1,h2⟩:=h;exact ze4 h1 h2.is
theorem EnA.same{H H':Hp}{v:V}(h:EnA K H e v)(q:Same H H'):EnA K H' e v:=by
 obtain⟨p,s,e0,h1,h2⟩:=h;exact#[p,s,e0,zq q h1,h2.same q]
theorem EnsA.iss:∀{es:List Ent} {vs:List V},EnsA K H es vs->Iss K H (es.map dE) vs
 | [],vs,h=>by erw[EnsA]at h;erw[aL,Iss];exact h
 | e::es,vs,h=>by
  erw[EnsA]at h
  obtain⟨v,r,rfl,h1,h2⟩:=h
  erw[au,Iss]
  exact#[v,r,rfl,h1.is,h2.iss]
theorem EnsA.len{vs:List V}(h:EnsA K H es vs):vs.length=es.length:=by
 have:=h.iss.len;rw[ae]at this;exact this
theorem EnsA.same{H H':Hp}(q:Same H H'):∀{es:List Ent} {vs:List V},EnsA K H es vs->EnsA K H' es vs
 | [],vs,h=>by erw[EnsA]at h ⊢;exact h
 | e::es,vs,h=>by
  erw[EnsA]at h ⊢
  obtain⟨v,r,e0,h1,h2⟩:=h;exact#[v,r,e0,h1.same q,h2.same q]
theorem EnsA.snoc{v:V}(hv:EnA K H e v):∀{es:List Ent} {vs:List V},EnsA K H es vs->EnsA K H (es ++ [e]) (vs ++ [v])
 | [],vs,h=>by
  erw[EnsA]at h
  subst h
  erw[br,EnsA]
  exact#[v,[],rfl,hv,rfl]
 | e'::es,vs,h=>by
  erw[EnsA]at h
  obtain⟨x,r,rfl,hx,hr⟩:=h
  erw[bv,EnsA]
  exact#[x,r ++ [v],rfl,hx,hr.snoc hv]
theorem EnsA.get:∀{es:List Ent} {vs:List V} {j:Nat} {v:V},EnsA K H es vs->vs[j]? = AX v->∃e p s,es[j]? = AX e/\v=.ref p/\SqT K H p [.str (tx e.1),.str (tx e.2.1),.ref s]/\LsA K H s (e.2.2.map dSt)
 | [],vs,j,v,h,q=>by
  erw[EnsA]at h
  subst h;simp at q
 | e::es,vs,0,v,h,q=>by
  erw[EnsA]at h
  obtain⟨x,r,rfl,⟨p,s,rfl,h1,h2⟩,_⟩:=h;cases q;exact#[e,p,s,rfl,rfl,h1,h2]
 | e::es,vs,j+1,v,h,q=>by
  erw[EnsA]at h
  obtain⟨x,r,rfl,_,hr⟩:=h;exact hr.get (j:=j) (by simpa using q)
theorem EnsL.is{a:sq}(h:EnsL K H a es):Is K H (.lst (es.map dE)) (.ref a):=by
 obtain⟨xs,h1,h2⟩:=h
 erw[Is]
 exact#[a,xs,rfl,h1,h2.iss]
theorem EnsL.same{H H':Hp}{a:sq}(h:EnsL K H a es)(q:Same H H'):EnsL K H' a es:=by
 obtain⟨xs,h1,h2⟩:=h;exact#[xs,q.seq h1,h2.same q]
theorem EnsM.l{a:sq}(h:EnsM K H a es):EnsL K H a es:=by
 obtain⟨xs,h1,h2⟩:=h;exact#[xs,SqL.of h1,h2]
theorem EnsM.same{H H':Hp}{a:sq}(h:EnsM K H a es)(q:Same H H'):EnsM K H' a es:=by
 obtain⟨xs,h1,h2⟩:=h;exact#[xs,q _ _ h1,h2.same q]
theorem EnA.new{D p s:sq}{ys:List V}(hD:H D=AX (.lst ys))(hp:H p=AX (.tup [.str (tx e.1),.str (tx e.2.1),.ref s]))(hs:LsA K H s (e.2.2.map dSt))(hsD:s≠D):EnA K (ka D H) e (.ref p):=by
 obtain⟨zs,hz,hi⟩:=hs;have hpD:p≠D:=λz=>by rw[z,hD]at hp;cases hp
 exact#[p,s,rfl,SqT.of (by rw[wX hpD];exact hp),zs,by rw[wX hsD];exact hz,WU hD _ _ hi]
theorem um(es:List Ent):(zb es).length=es.length:=by unfold zb;rw[ae]
def x0(K:so):Sp:=λvs H Q _=>∃(a:sq) (es:List Ent),vs=[.ref a]/\Is K H (.lst (es.map dE)) (.ref a)/\es.length<=1000/\∀(D:sq) (H':Hp),H D=AY->Same H H'->LsA K H' D ((zb es).map dR)->Q (.ref D) H'
theorem xS{a:sq}(h1:Is K H (.lst (es.map dE)) (.ref a))(h2:es.length<=1000)(h:∀(D:sq) (H':Hp),H D=AY->Same H H'->LsA K H' D ((zb es).map dR)->Q (.ref D) H'):x0 K [.ref a] H Q E:=#[a,es,rfl,h1,h2,h]
theorem Xr:sQz 1 ["entries"] vf:=by nofun
theorem Xv(B:Bt mg)(F:("pairs_of"^^^vf)) :(1&&&["entries"]) (x0 K):=by
 exists F.ok Xr
 ·obtain⟨a,es,rfl,hA,hl,q⟩:=h;refine#[_,(zf (zl (xz (own:=["entry"]) (caps:=[]) (ix:=[]) (tt:=wS) (te:=(Jy (zM (tOp (jD K) (ym 0) (tC (.int 0))) (zM (tOp (jD K) (ym 0) (tC (.int 1))) xH)))) rfl (zN (sc:=zh vf) rfl (by symm) (by symm) (by symm) rfl (by symm) (by symm) rfl) (yj (pv 0)) (λ_ _ _ _ _ _=>zx (i:=0) (show List.Nodup [_] by decide) rfl (.inl rfl)) (λ_ _ _ _ _ _=>yG) (λ_ _ _ _ _ _=>(zR (za (zo ix_tup (pv 0) zg) (za (zo ix_tup (pv 0) zg) zc))))))),?_];have s16:=zP
  rfl'
  erw[Is]at hA
  obtain⟨_,xs,e,hX,hI⟩:=hA;cases e;have hxl:=hI.len;rw[ae]at hxl;have hpl:=um es;refine#[#[xs,hX],λD hD=>CompL.by (xs:=xs) (λi Bd H'=>Same H H'/\H' D=AX (.lst Bd)/\Iss K H' (((zb es).take i).map dR) Bd) #[ze hD,zd,by erw[bS,aL,Iss]] (λi Bd H' _ h=>h.1.seq hX) ?_ ?_]
  ·refine nm4 ?_;rintro i x Bd H' hx ⟨hs,hH,hA⟩:_;have hi:=(Be.mp hx).1;obtain⟨e,pe,se,hei,rfl,hqe,_⟩:=WH hI hx;have hm:(zb es)[i]? = AX (e.1,e.2.1):=by unfold zb;rw[aq,hei];rfl
   have hal:=hA.len;rw[ae,aG]at hal;right
   erw[wS]
   rfl'
   refine#[xx,_,zq hs hqe,_,rfl,_,zq hs hqe,_,rfl,⋯,λp hp=>#[ze hp _ _ hH,⋯,CNx.mk hi #[zJ (hs.trans (ze hp)) hD,zd,?_]]];rw[zX hm,ay];exact qw hH hA hp zeh (Wm _) (by erw[zV,xf,and_self])
  ·rintro Bd H' ⟨hs,hH,hA⟩;rw[hxl,<- hpl,aP]at hA;exact q D H' hD hs #[Bd,hH,hA]
noncomputable def yo(k:Nat)(l:())(ns:List Int)(e:Ent):Ent:=if zL k l ns e.2.1 e.1=AZ then e else (e.2.1,e.1,yK e.2.2)
structure EB(l:())(e:Ent):Prop where
 a:e.1.length<=60
 b:e.2.1.length<=60
 s:e.2.2.length<=600
 ma:∀c ∈ e.1,c ∈ l
 mb:∀c ∈ e.2.1,c ∈ l
theorem EB.rule{l:()}(h:EB l e):EB l (yo k l ns e):=by
 unfold yo;split
 ·exact h
 ·exact#[h.b,h.a,by rw[yV];exact h.s,h.mb,h.ma]
def w8(K:so)(CO CR CW:sq):Sp:=λvs H Q _=>∃(o p s:sq) (k:Nat) (l:()) (ns:List Int) (e:Ent),vs=[.ref o,.ref p]/\OrdAt CO CR CW H o k l ns/\OG l ns k/\SqT K H p [.str (tx e.1),.str (tx e.2.1),.ref s]/\Is K H (.lst (e.2.2.map dSt)) (.ref s)/\EB l e /\
 (yo k l ns e=e->∀H',Same H H'->Q (.ref p) H') /\
 (∀(p' s':sq) (H':Hp),Same H H'->H s'=AY->H' p'=AX (.tup [.str (tx (yo k l ns e).1),.str (tx (yo k l ns e).2.1),.ref s'])->LsA K H' s' ((yo k l ns e).2.2.map dSt)->Q (.ref p') H')
theorem kh{CO CR CW o p s:sq}{l:()}(h1:OrdAt CO CR CW H o k l ns)(h2:OG l ns k)(h3:SqT K H p [.str (tx e.1),.str (tx e.2.1),.ref s])(h4:Is K H (.lst (e.2.2.map dSt)) (.ref s))(h5:EB l e)
  (h6:yo k l ns e=e->∀H',Same H H'->Q (.ref p) H') (h7:∀(p' s':sq) (H':Hp),Same H H'->H s'=AY->H' p'=AX (.tup [.str (tx (yo k l ns e).1),.str (tx (yo k l ns e).2.1),.ref s'])->LsA K H' s' ((yo k l ns e).2.2.map dSt)->Q (.ref p') H'):w8 K CO CR CW [.ref o,.ref p] H Q E :=
 #[o,p,s,k,l,ns,e,rfl,h1,h2,h3,h4,h5,h6,h7]
theorem VG:sQz 2 ["order","entry"] jA:=by nofun
theorem Vh{f CO CR CW:sq}(B:Bt mg)(DBk:DB P w K mg base CO CR CW)(F:("as_rule"^^^jA))(mq:(1<<<"back") ["steps"] [] (uQ K)):(4&&&["order","entry"]) (w8 K CO CR CW):=by
 exists F.ok VG
 ·obtain⟨o,p,s,k,l,ns,e,rfl,ho,hG,hp,hs,hE,q1,q2⟩:=h
  refine#[_,(zI (zK (yE (zcS DBk hr (pv 0) (za (zo ix_tup (pv 1) zg) (za (zo ix_tup (pv 1) zg) zc))) (λ_=>rfl))
    (zf (zl (pv 1)))
    zv)
   (zf (zl (zR (za (zo ix_tup (pv 1) zg) (za (zo ix_tup (pv 1) zg) (za (cl0 mq hr .nil rfl (za (zo ix_tup (pv 1) zg) zc)) zc))))))),?_]
  have s16:=zP;ac_rfl;obtain⟨C,dx,fs,hf,ho1,hn,_⟩:=ho.fam;have h1:fs.lookup ("before" : sB)=AY:=hn _ ∅ ∅;refine#[C,hf,dx,fs,ho1,h1,_,hp,_,rfl,_,hp,_,rfl,o,k,l,ns,e.2.1,e.1,rfl,ho,hG,by have:=hE.b;lia,by have:=hE.a;lia,hE.mb,hE.ma,λH1 s1=>#[_,rfl,yq (λh=>?_) λh=>?_]]
  ·exact q1 (by unfold yo;rw[if_pos h]) H1 s1
  ·have er:yo k l ns e=(e.2.1,e.1,yK e.2.2):=by unfold yo;rw[if_neg h]
   rw[er]at q2;have hp1:=zq s1 hp;refine#[_,hp1,_,rfl,_,hp1,_,rfl,_,hp1,_,rfl,qF (Is.same s1 _ _ hs) (by have:=hE.s;lia) λD H2 hD s2 hL=>#[⋯,λt ht=>?_]];exact q2 t D _ (s1.trans (s2.trans (ze ht))) (s1.free hD) zd (hL.same (ze ht))
theorem Xn{l:()}{w:()}(hb:∀n ∈ ns,1<=n/\n<=1000000):0<=VT l ns w:=by
 unfold VT
 have key:∀xs:List Int,(∀x ∈ xs,0<=x)->0<=xs.sum:=by
  intro xs
  induction xs with
  | nil=>intro _;simp
  | cons x xs ih =>
   intro h;rw[bj];have h1:=h x ax;have h2:=ih λy hy=>h y (am _ hy);lia
 refine key _ λx hx=>?_;obtain⟨p,hp,rfl⟩:=Bf.mp hx;have h1:=(hb p.2 (da (show (p.1,p.2) ∈ l.zip ns from hp)).2).1;exact Int.mul_nonneg ⋯ ⋯
theorem Q6{l:()}{u v:()}(hb:∀n ∈ ns,1<=n/\n<=1000000)(h:zL k l ns u v=AZ):v≠[]:=by
 intro e;subst e
 have h0:zt k l ns []=0:=by
  unfold zt;split
  ·unfold VT
   have z:∀xs:List (Nat × Int),(xs.map λp=>(([]:()).count p.1:Int) * p.2).sum=0:=by
    intro xs
    induction xs with
    | nil=>rfl
    | cons x xs ih=>rw[au,bj,ih];simp
   exact z _
  ·rfl
 have h1:0<=zt k l ns u:=by
  unfold zt;split
  ·exact Xn hb
  ·lia
 have h2:jN k l []=[]:=by
  unfold jN xl;split <;> rfl
 unfold zL at h;rw[h0,h2]at h;split at h
 ·cases hr:jN k l u with
  | nil=>rw[hr]at h;cases h
  | cons a r=>rw[hr]at h;cases h
 ·have:=of_decide_eq_true h;lia
theorem jJ{k:Nat}{l:()}{ns:List Int}(hE:EB l e)(hne:e.1≠e.2.1):zL k l ns (yo k l ns e).2.1 (yo k l ns e).1=AZ:=by
 unfold yo;by_cases h:zL k l ns e.2.1 e.1=AZ
 ·rw[if_pos h];exact h
 ·rw[if_neg h];have:=jl (k:=k) (ns:=ns) hE.ma hE.mb hne;show zL k l ns e.1 e.2.1=AZ;rw[this];simpa using h
noncomputable def qy(k:Nat)(l:())(ns:List Int)(es:List Ent):List Ent:=(es.filter λe=>!decide (e.1=e.2.1)).map (yo k l ns)
theorem zcw(k:Nat)(l:())(ns:List Int)(es fs:List Ent):qy k l ns (es ++ fs)=qy k l ns es ++ qy k l ns fs:=by
 unfold qy;rw[cL,ay]
theorem YY(k:Nat)(l:())(ns:List Int)(es:List Ent):(qy k l ns es).length<=es.length:=by
 unfold qy;rw[ae];exact cP _ _
noncomputable def ZW(k:Nat)(l:())(ns:List Int)(a b:Ent):Bool:=if a.1=b.1 then zL k l ns a.2.1 b.2.1 else zL k l ns a.1 b.1
structure Lined(k:Nat)(l:())(ns:List Int)(es zs:List Ent):Prop where
 perm:zs.Perm (qy k l ns es)
 srt:zs.Pairwise λa b=>ZW k l ns b a=Ba
 is:zs=L3.srt (ZW k l ns) ([],[],[]) (qy k l ns es)
structure zE(ps:List zp)(w:())(i:Nat):Prop where
 live:Vp ps w i
 end_:zF (wAt ps w i) ps=AY
 most:i<=40
theorem zb1(ps:List zp)(w:()):(∃i,zE ps w i)\/(Vp ps w 40/\zF (wAt ps w 40) ps≠AY):=by
 have key:∀n,n<=41->(∃i,zE ps w i)\/Vp ps w n:=by
  intro n
  induction n with
  | zero=>intro _;exact .inr λi h=>absurd h (cq i)
  | succ n ih =>
   intro hn;rcases ih ⋯ with h | h
   ·exact .inl h
   ·cases e:zF (wAt ps w n) ps with
    | none=>exact .inl #[n,h,e,⋯]
    | some u =>
     refine .inr λi hi=>?_;by_cases hin:i=n
     ·rw[hin,e];intro z;cases z
     ·exact h i ⋯
 rcases key 41 (al _)with h | h
 ·exact .inl h
 ·exact .inr #[λi hi=>h i ⋯,h 40 ∅]
noncomputable def stS(us:List (Nat × Nat)):List Stp:=us.map λu=>((u.1:Int),(u.2:Int),AZ)
noncomputable def yN(bs:List Ent)(e:Ent)(i j:Nat):Ent:=(wAt (zb bs) e.1 i,wAt (zb bs) e.2.1 j,byL bs (yK (stS (sAt (zb bs) e.1 i))) ++ e.2.2 ++ byL bs (stS (sAt (zb bs) e.2.1 j)))
def jQ(e:Ent):Prop:=240<e.2.2.length\/60<e.1.length\/60<e.2.1.length
inductive xt(k:Nat)(l:())(ns:List Int):List Ent->List Ent->Option (List Ent)->Prop where
 | nil (bs:List Ent):xt k l ns bs [] (AX bs)
 | same {bs es:List Ent} {e:Ent} {i j:Nat} {r:Option (List Ent)} (h1:zE (zb bs) e.1 i) (h2:zE (zb bs) e.2.1 j) (h3:wAt (zb bs) e.1 i=wAt (zb bs) e.2.1 j) (h4:xt k l ns bs es r):xt k l ns bs (e::es) r
 | new {bs es:List Ent} {e:Ent} {i j:Nat} {r:Option (List Ent)} (h1:zE (zb bs) e.1 i) (h2:zE (zb bs) e.2.1 j) (h3:wAt (zb bs) e.1 i≠wAt (zb bs) e.2.1 j) (h4:¬ jQ (yN bs e i j)) (h5:xt k l ns (bs ++ [yo k l ns (yN bs e i j)]) es r):xt k l ns bs (e::es) r
 | far {bs es:List Ent} {e:Ent} {i j:Nat} (h1:zE (zb bs) e.1 i) (h2:zE (zb bs) e.2.1 j) (h3:wAt (zb bs) e.1 i≠wAt (zb bs) e.2.1 j) (h4:jQ (yN bs e i j)):xt k l ns bs (e::es) AY
 | stuck {bs es:List Ent} {e:Ent} (h:(∀i,¬ zE (zb bs) e.1 i)\/(∀j,¬ zE (zb bs) e.2.1 j)):xt k l ns bs (e::es) AY
inductive uE(k:Nat)(l:())(ns:List Int):Nat->List Ent->Option (List Ent)->Prop where
 | out (es:List Ent):uE k l ns 0 es AY
 | bad {n:Nat} {es zs:List Ent} (h1:Lined k l ns es zs) (h2:xt k l ns [] zs AY):uE k l ns (n+1) es AY
 | done {n:Nat} {es zs bs:List Ent} (h1:Lined k l ns es zs) (h2:xt k l ns [] zs (AX bs)) (h3:zb bs=zb zs):uE k l ns (n+1) es (AX bs)
 | more {n:Nat} {es zs bs:List Ent} {r:Option (List Ent)} (h1:Lined k l ns es zs) (h2:xt k l ns [] zs (AX bs)) (h3:zb bs≠zb zs) (h4:uE k l ns n bs r):uE k l ns (n+1) es r
theorem yY{w:()}{u:Nat × Nat}(h:zF w ps=AX u):∃p,ps[u.1]? = AX p/\zr w (u.2:Int) p.1=AZ:=by
 have hm:u ∈ xv w ps w.length:=fq (by unfold zF at h;rw[h];rfl);exact (wF (usesK_mem.mp hm).2).2
theorem uW{l w:()}(hw:∀c ∈ w,c ∈ l)(hp:∀p ∈ ps,∀c ∈ p.2,c ∈ l):∀j,∀c ∈ wAt ps w j,c ∈ l
 | 0=>hw
 | j+1=>by
  have ih:=uW hw hp j
  cases e:zF (wAt ps w j) ps with
  | none =>
   show ∀c ∈ Wv ps (wAt ps w j),c ∈ l;unfold Wv;rw[e];exact ih
  | some u =>
   obtain⟨p,h1,h2⟩:=yY e;rw[xZ e];unfold YV yF;rw[xj h1];intro c hc;rcases Bh.mp hc with hc | hc
   ·rcases Bh.mp hc with hc | hc
    ·exact ih c (bp hc)
    ·exact hp p (ag h1) c hc
   ·exact ih c (cu hc)
structure Vc(R:()->()->Prop):Prop where
 refl:∀u,R u u
 symm:∀{u v},R u v->R v u
 trans:∀{u v w},R u v->R v w->R u w
 ctx:∀{u v} (a b:()),R u v->R (a ++ u ++ b) (a ++ v ++ b)
def vT(R:()->()->Prop)(es:List Ent):Prop:=∀e ∈ es,R e.1 e.2.1
theorem zcA{R:()->()->Prop}(hR:Vc R)(hk:∀p ∈ ps,R p.1 p.2)(w:()):∀j,R w (wAt ps w j)
 | 0=>hR.refl w
 | j+1=>by
  have ih:=zcA hR hk w j
  cases e:zF (wAt ps w j) ps with
  | none =>
   show R w (Wv ps (wAt ps w j));unfold Wv;rw[e];exact ih
  | some u =>
   obtain⟨p,h1,h2⟩:=yY e;rw[xZ e];refine hR.trans ih ?_;obtain⟨e1,_⟩:=yU h2;unfold YV yF;rw[xj h1];have:=hR.ctx ((wAt ps w j).take ((u.2:Int)).toNat) ((wAt ps w j).drop (((u.2:Int)).toNat+p.1.length)) (hk p (ag h1));rw[e1]at this;exact this
theorem jn{R:()->()->Prop}(h:vT R bs):∀p ∈ zb bs,R p.1 p.2:=λp hp=>by
 unfold zb at hp;obtain⟨e,he,rfl⟩:=Bf.mp hp;exact h e he
theorem vp{R:()->()->Prop}(hR:Vc R){l:()}:R (yo k l ns e).1 (yo k l ns e).2.1 ↔ R e.1 e.2.1:=by
 unfold yo;split
 ·exact Iff.rfl
 ·exact#[hR.symm,hR.symm]
theorem Ur{R:()->()->Prop}(hR:Vc R){i j:Nat}(h:vT R bs):R (wAt (zb bs) e.1 i) (wAt (zb bs) e.2.1 j) ↔ R e.1 e.2.1:=by
 have h1:=zcA hR (jn h) e.1 i;have h2:=zcA hR (jn h) e.2.1 j;exact#[λx=>hR.trans h1 (hR.trans x (hR.symm h2)),λx=>hR.trans (hR.symm h1) (hR.trans x h2)]
theorem Qv{R:()->()->Prop}(hR:Vc R){l:()}{bs es:List Ent}{r:Option (List Ent)}(h:xt k l ns bs es r):∀fs,r=AX fs->(vT R fs ↔ vT R bs/\vT R es):=by
 induction h with
 | nil bs =>
  intro fs e;cases e;exact#[λh=>#[h,λe he=>(nomatch he)],λh=>h.1]
 | @same bs es e i j r h1 h2 h3 h4 ih =>
  intro fs er;rw[ih fs er];refine#[λ⟨a,b⟩=>#[a,λx hx=>?_],λ⟨a,b⟩=>#[a,λx hx=>b x (am _ hx)]];rcases Bg.mp hx with rfl | hx
  ·refine (Ur hR a (i:=i) (j:=j)).mp ?_;rw[h3];exact hR.refl _
  ·exact b x hx
 | @new bs es e i j r h1 h2 h3 h4 h5 ih =>
  intro fs er;rw[ih fs er];constructor
  ·rintro⟨a,b⟩;have a':vT R bs:=λx hx=>a x (bn _ hx);refine#[a',λx hx=>?_];rcases Bg.mp hx with rfl | hx
   ·have:=a _ (aC bs (Bj.mpr rfl));exact (Ur hR a' (i:=i) (j:=j)).mp ((vp hR).mp this)
   ·exact b x hx
  ·rintro⟨a,b⟩;refine#[λx hx=>?_,λx hx=>b x (am _ hx)];rcases Bh.mp hx with hx | hx
   ·exact a x hx
   ·rw[Bj.mp hx];exact (vp hR).mpr ((Ur hR a (i:=i) (j:=j)).mpr (b e ax))
 | far=>intro fs e;cases e
 | stuck=>intro fs e;cases e
theorem U4{R:()->()->Prop}(hR:Vc R){l:()}{es zs:List Ent}(h:Lined k l ns es zs):vT R zs ↔ vT R es:=by
 have h1:vT R zs ↔ vT R (qy k l ns es):=#[λa x hx=>a x (h.perm.mem_iff.mpr hx),λa x hx=>a x (h.perm.mem_iff.mp hx)];rw[h1];unfold qy;constructor
 ·intro a x hx;by_cases e:x.1=x.2.1
  ·rw[e];exact hR.refl _
  ·exact (vp hR).mp (a _ (Bf.mpr #[x,Bm.mpr #[hx,by simpa using e],rfl]))
 ·intro a x hx;obtain⟨y,hy,rfl⟩:=Bf.mp hx;exact (vp hR).mpr (a y ((Bm.mp hy).1))
theorem zaX{R:()->()->Prop}(hR:Vc R){k n:Nat}{l:()}{r:Option (List Ent)}(h:uE k l ns n es r):∀fs,r=AX fs->(vT R fs ↔ vT R es):=by
 have nilk:vT R []:=λe he=>(nomatch he)
 induction h with
 | out=>intro fs e;cases e
 | bad=>intro fs e;cases e
 | done h1 h2 h3 =>
  intro fs e;rw[Qv hR h2 fs e,U4 hR h1];exact#[λh=>h.2,λh=>#[nilk,h]]
 | more h1 h2 h3 h4 ih =>
  intro fs e;rw[ih fs e,Qv hR h2 _ rfl,U4 hR h1];exact#[λh=>h.2,λh=>#[nilk,h]]
def Within(p w:()):Prop:=∃a b:(),w=a ++ p ++ b
theorem Qe{w p:()}(h:Within p w):∃q:Nat,zr w (q:Int) p=AZ:=by
 obtain⟨a,b,rfl⟩:=h;refine#[a.length,?_];unfold zr;refine decide_eq_true #[⋯,by erw[aj];lia,?_];rw[aH,ar,cH,cQ]
theorem QS{w:()}(hN:NeL ps)(h:zF w ps=AY):∀p ∈ ps,¬ Within p.1 w:=λp hp hw=>by
 obtain⟨q,hq⟩:=Qe hw;obtain⟨j,hj⟩:=Bo.mp hp;have hlt:=uu (hN p hp) hq;have hs:stJ w ps q j=AZ:=by rw[jq hj];exact hq
 have:(j,q) ∈ xv w ps w.length:=usesK_mem.mpr #[hlt,hs];unfold zF at h;rw[List.head?_eq_none_iff]at h;rw[h]at this;cases this
structure RL(k:Nat)(l:())(ns:List Int)(bs:List Ent):Prop where
 e:∀e ∈ bs,EB l e
 lt:∀e ∈ bs,zL k l ns e.2.1 e.1=AZ
theorem JT{l:()}{w:()}{u:Nat × Nat}(G:OG l ns k)(hp:∀p ∈ ps,zL k l ns p.2 p.1=AZ/\(∀c ∈ p.1,c ∈ l)/\∀c ∈ p.2,c ∈ l)(hw:∀c ∈ w,c ∈ l)(h:zF w ps=AX u):zL k l ns (YV w ps u) w=AZ:=by
 obtain⟨p,h1,h2⟩:=yY h;obtain⟨e1,_⟩:=yU h2;obtain⟨p1,p2,p3⟩:=hp p (ag h1);unfold YV yF;rw[xj h1];have ha:∀c ∈ w.take ((u.2:Int)).toNat,c ∈ l:=λc hc=>hw c (bp hc);have hb:∀c ∈ w.drop (((u.2:Int)).toNat+p.1.length),c ∈ l:=λc hc=>hw c (cu hc);generalize w.take ((u.2:Int)).toNat=a at *;generalize w.drop (((u.2:Int)).toNat+p.1.length)=b at *;rw[<- e1];have ap:∀x:(),(∀c ∈ x,c ∈ l)->∀c ∈ a ++ x,c ∈ l:=λx hx c hc=>(Bh.mp hc).elim (ha c) (hx c);rw[(ue G hb (ap p.2 p3) (ap p.1 p2)).2,(ue G ha p3 p2).1];exact p1
theorem zaF{l:()}{w:()}(G:OG l ns k)(hp:∀p ∈ ps,zL k l ns p.2 p.1=AZ/\(∀c ∈ p.1,c ∈ l)/\∀c ∈ p.2,c ∈ l)(hw:∀c ∈ w,c ∈ l):∀j,wAt ps w j=w\/zL k l ns (wAt ps w j) w=AZ
 | 0=>.inl rfl
 | j+1=>by
  have ih:=zaF G hp hw j;have hm:=uW hw (λp hp'=>(hp p hp').2.2) j
  cases e:zF (wAt ps w j) ps with
  | none =>
   show Wv ps (wAt ps w j)=w\/zL k l ns (Wv ps (wAt ps w j)) w=AZ;unfold Wv;rw[e];exact ih
  | some u =>
   rw[xZ e];have h:=JT G hp hm e;rcases ih with h' | h'
   ·rw[h']at h ⊢;exact .inr h
   ·exact .inr (wn h h')
theorem RL.pairs{l:()}(h:RL k l ns bs):∀p ∈ zb bs,zL k l ns p.2 p.1=AZ/\(∀c ∈ p.1,c ∈ l)/\∀c ∈ p.2,c ∈ l:=λp hp=>by
 unfold zb at hp;obtain⟨e,he,rfl⟩:=Bf.mp hp;exact#[h.lt e he,(h.e e he).ma,(h.e e he).mb]
theorem RL.ne{l:()}(h:RL k l ns bs)(G:OG l ns k):NeL (zb bs):=λp hp=>Q6 G.nb (h.pairs p hp).1
theorem RL.snoc{l:()}{d:Ent}(h:RL k l ns bs)(hd:EB l d)(hne:d.1≠d.2.1):RL k l ns (bs ++ [yo k l ns d]):=by
 refine#[λe he=>?_,λe he=>?_]
 ·rcases Bh.mp he with he | he
  ·exact h.e e he
  ·rw[Bj.mp he];exact hd.rule
 ·rcases Bh.mp he with he | he
  ·exact h.lt e he
  ·rw[Bj.mp he];exact jJ hd hne
theorem zbi{l:()}{i j:Nat}(hB:RL k l ns bs)(hE:EB l e)(hF:¬ jQ (yN bs e i j)):EB l (yN bs e i j):=by
 unfold jQ at hF;exact#[⋯,⋯,⋯,uW hE.ma (λp hp=>(hB.pairs p hp).2.2) i,uW hE.mb (λp hp=>(hB.pairs p hp).2.2) j]
theorem VJ{l:()}{i j:Nat}(G:OG l ns k)(hB:RL k l ns bs)(hE:EB l e)(hlt:zL k l ns e.2.1 e.1=AZ)(h1:zE (zb bs) e.1 i)(h2:zE (zb bs) e.2.1 j)
  (hp1:(yo k l ns (yN bs e i j)).1=e.1) (hp2:(yo k l ns (yN bs e i j)).2.1=e.2.1):zF e.1 (zb bs)=AY/\zF e.2.1 (zb bs)=AY:=by
 unfold yo at hp1 hp2;by_cases h:zL k l ns (yN bs e i j).2.1 (yN bs e i j).1=AZ
 ·rw[if_pos h]at hp1 hp2;have a1:wAt (zb bs) e.1 i=e.1:=hp1;have a2:wAt (zb bs) e.2.1 j=e.2.1:=hp2;have b1:=h1.end_;have b2:=h2.end_;rw[a1]at b1;rw[a2]at b2;exact#[b1,b2]
 ·rw[if_neg h]at hp1 hp2;have a1:wAt (zb bs) e.2.1 j=e.1:=hp1;rcases zaF G hB.pairs hE.mb j with h' | h'
  ·rw[a1]at h';rw[h',yX]at hlt;cases hlt
  ·rw[a1]at h';rw[XR h']at hlt;cases hlt
theorem kD{l:()}(G:OG l ns k){bs es:List Ent}{r:Option (List Ent)}(h:xt k l ns bs es r):∀fs,r=AX fs->RL k l ns bs->RL k l ns es->∃gs,fs=bs ++ gs/\gs.length<=es.length/\RL k l ns fs /\
  (zb gs=zb es->∀i e,es[i]? = AX e->zF e.1 (zb (bs ++ gs.take i))=AY/\zF e.2.1 (zb (bs ++ gs.take i))=AY):=by
 induction h with
 | nil bs =>
  intro fs er hb he;cases er;exact#[[],by simp,al _,hb,λ_ i e h=>by simp at h]
 | @same bs es e i j r h1 h2 h3 h4 ih =>
  intro fs er hb he;obtain⟨gs,g1,g2,g3,g4⟩:=ih fs er hb #[λx hx=>he.e x (am _ hx),λx hx=>he.lt x (am _ hx)];refine#[gs,g1,by rw[aJ];lia,g3,λhp=>?_];have:=congrArg fP hp;unfold zb at this;rw[ae,ae,aJ]at this;lia
 | @new bs es e i j r h1 h2 h3 h4 h5 ih =>
  intro fs er hb he;have hEe:=he.e e ax;have hd:=zbi hb hEe h4;obtain⟨gs,g1,g2,g3,g4⟩:=ih fs er (hb.snoc hd h3) #[λx hx=>he.e x (am _ hx),λx hx=>he.lt x (am _ hx)];refine#[yo k l ns (yN bs e i j)::gs,by rw[g1,ar];rfl,by rw[aJ,aJ];lia,g3,λhp n x hx=>?_];unfold zb at hp;rw[au,au]at hp;injection hp with hp1 hp2;have hp1a:=(Prod.ext_iff.mp hp1).1;have hp1b:=(Prod.ext_iff.mp hp1).2
  cases n with
  | zero =>
   have e0:e=x:=by simpa using hx
   subst e0;rw[bS,aT];exact VJ G hb hEe (he.lt _ ax) h1 h2 hp1a hp1b
  | succ n =>
   have:=g4 hp2 n x (by simpa using hx);rw[ar]at this;rw[dX];exact this
 | far=>intro fs e;cases e
 | stuck=>intro fs e;cases e
theorem u8{l:()}(G:OG l ns k){p w:()}(hw:∀c ∈ w,c ∈ l)(h:Within p w):p=w\/zL k l ns p w=AZ:=by
 obtain⟨a,b,rfl⟩:=h;by_cases e:a ++ p ++ b=p
 ·exact .inl e.symm
 ·refine .inr (Kx G (λc hc=>hw c ?_) (λc hc=>hw c ?_) (λc hc=>hw c ?_) e).1
  ·exact bn _ (bn _ hc)
  ·exact bn _ (aC _ hc)
  ·exact aC _ hc
structure ThinL(k:Nat)(l:())(ns:List Int)(zs:List Ent):Prop where
 rl:RL k l ns zs
 up:∀(i j:Nat) (a b:Ent),zs[i]? = AX a->zs[j]? = AX b->i<j->zL k l ns a.1 b.1=AZ
 no1:∀(i j:Nat) (a b:Ent),zs[i]? = AX a->zs[j]? = AX b->i≠j->¬ Within b.1 a.1
 no2:∀(i j:Nat) (a b:Ent),zs[i]? = AX a->zs[j]? = AX b->¬ Within b.1 a.2.1
theorem zb3{k:Nat}{l:()}{ns:List Int}(G:OG l ns k){zs bs:List Ent}(hz:RL k l ns zs)(hs:zs.Pairwise λa b=>ZW k l ns b a=Ba)(h:xt k l ns [] zs (AX bs))(hp:zb bs=zb zs):ThinL k l ns zs:=by
 obtain⟨gs,g1,g2,g3,g4⟩:=kD G h bs rfl #[λe he=>(nomatch he),λe he=>(nomatch he)] hz;rw[br]at g1;subst g1;have irr:=g4 hp
 erw[br]at irr
 have early:∀(i j:Nat) (a b:Ent),zs[i]? = AX a->zs[j]? = AX b->j<i->¬ Within b.1 a.1/\¬ Within b.1 a.2.1:=λi j a b ha hb hj=>by
  have hm:(b.1,b.2.1) ∈ zb (bs.take i):=by
   have e1:zb (bs.take i)=(zb zs).take i:=by
    rw[<- hp];unfold zb;rw[List.map_take]
   rw[e1];refine Bo.mpr #[j,?_];rw[bt hj];unfold zb;rw[aq,hb];rfl
  have hN:NeL (zb (bs.take i)):=λp hp'=>by
   refine (g3.ne G) p ?_;unfold zb at hp' ⊢;obtain⟨x,hx,rfl⟩:=Bf.mp hp';exact Bf.mpr #[x,bp hx,rfl]
  obtain⟨f1,f2⟩:=irr i a ha;exact#[QS hN f1 _ hm,QS hN f2 _ hm]
 have later:∀(i j:Nat) (a b:Ent),zs[i]? = AX a->zs[j]? = AX b->i<j->zL k l ns b.1 a.1=Ba:=λi j a b ha hb hij=>by
  have hi:=(Be.mp ha);have hj:=(Be.mp hb);have:=List.pairwise_iff_getElem.mp hs i j hi.1 hj.1 hij;rw[hi.2,hj.2]at this;unfold ZW at this;by_cases e:b.1=a.1
  ·rw[e,yX]
  ·rw[if_neg e]at this;exact this
 have memz:∀{i:Nat} {a:Ent},zs[i]? = AX a->EB l a/\zL k l ns a.2.1 a.1=AZ:=λ{i a} ha=>#[hz.e _ (ag ha),hz.lt _ (ag ha)]
 have up:∀(i j:Nat) (a b:Ent),zs[i]? = AX a->zs[j]? = AX b->i<j->zL k l ns a.1 b.1=AZ:=λi j a b ha hb hij=>by
  have hne:a.1≠b.1:=λe=>(early j i b a hb ha hij).1 #[[],[],by rw[e];simp];have t:=jl (k:=k) (ns:=ns) (memz ha).1.ma (memz hb).1.ma hne;rw[later i j a b ha hb hij]at t;simpa using t
 refine#[hz,up,λi j a b ha hb hij=>?_,λi j a b ha hb hw=>?_]
 ·rcases Nat.lt_or_gt_of_ne hij with h1 | h1
  ·intro hw;rcases u8 G (memz ha).1.ma hw with e | e
   ·have:=up i j a b ha hb h1;rw[e,yX]at this;cases this
   ·rw[later i j a b ha hb h1]at e;cases e
  ·exact (early i j a b ha hb h1).1
 ·have hle:zL k l ns b.1 a.1=AZ:=by
   rcases u8 G (memz ha).1.mb hw with e | e
   ·rw[e];exact (memz ha).2
   ·exact wn e (memz ha).2
  rcases et i j with h1 | h1 | h1
  ·rw[later i j a b ha hb h1]at hle;cases hle
  ·subst h1;rw[ha]at hb;cases hb;rw[yX]at hle;cases hle
  ·exact (early i j a b ha hb h1).2 hw
theorem vV{w:()}:∀{i:Nat},Vp ps w i->z9 ps w (stS (sAt ps w i))=AX (wAt ps w i)
 | 0,_=>rfl
 | i+1,h=>by
  have ih:=vV (i:=i) λj hj=>h j ⋯;have hne:=h i ⋯
  cases e:zF (wAt ps w i) ps with
  | none=>exact absurd e hne
  | some u =>
   rw[WF,xZ e,e];unfold stS at ih ⊢;rw[ay];refine jv ih ?_;obtain⟨p,h1,h2⟩:=yY e;have hl:=(Be.mp h1).1;show yl ps (wAt ps w i) ((u.1:Int),(u.2:Int),AZ)=_;rw[yz (by show (0:Int)<=(u.1:Int)/\(u.1:Int)<ps.length;lia)];have e2:ps.getD ((u.1:Int)).toNat ([],[])=p:=by rw[aH,aa,h1];rfl
   show (if zr (wAt ps w i) (u.2:Int) (sdl (ps.getD ((u.1:Int)).toNat ([],[])) AZ).1=AZ then _ else AY)=_;rw[e2,if_pos (show zr (wAt ps w i) (u.2:Int) (sdl p AZ).1=AZ from h2)];unfold YV;rw[xj h1];rfl
theorem QL{l:()}(h:EOk rs e):EOk rs (yo k l ns e):=by
 unfold yo;split
 ·exact h
 ·exact wE h
theorem zbq{i j:Nat}(hb:∀e ∈ bs,EOk rs e)(he:EOk rs e)(h1:zE (zb bs) e.1 i)(h2:zE (zb bs) e.2.1 j):EOk rs (yN bs e i j):=by
 have w1:=jL hb (wE (vV h1.live));have w2:=jL hb (vV h2.live);have he':z9 rs e.1 e.2.2=AX e.2.1:=he;show z9 rs (wAt (zb bs) e.1 i) (byL bs (yK (stS (sAt (zb bs) e.1 i))) ++ e.2.2 ++ byL bs (stS (sAt (zb bs) e.2.1 j)))=AX (wAt (zb bs) e.2.1 j);rw[xA,xA,w1,bY,he',bY];exact w2
theorem W6{l:()}{bs es:List Ent}{r:Option (List Ent)}(h:xt k l ns bs es r):∀fs,r=AX fs->(∀e ∈ bs,EOk rs e)->(∀e ∈ es,EOk rs e)->∀e ∈ fs,EOk rs e:=by
 induction h with
 | nil bs=>intro fs er hb _;cases er;exact hb
 | @same bs es e i j r h1 h2 h3 h4 ih=>intro fs er hb he;exact ih fs er hb λx hx=>he x (am _ hx)
 | @new bs es e i j r h1 h2 h3 h4 h5 ih =>
  intro fs er hb he;refine ih fs er (λx hx=>?_) λx hx=>he x (am _ hx);rcases Bh.mp hx with hx | hx
  ·exact hb x hx
  ·rw[Bj.mp hx];exact QL (zbq hb (he e ax) h1 h2)
 | far=>intro fs e;cases e
 | stuck=>intro fs e;cases e
theorem Wi{l:()}{es zs:List Ent}(h:Lined k l ns es zs)(he:∀e ∈ es,EOk rs e):∀e ∈ zs,EOk rs e:=λe hz=>by
 have hm:=h.perm.mem_iff.mp hz;unfold qy at hm;obtain⟨y,hy,rfl⟩:=Bf.mp hm;exact QL (he y (Bm.mp hy).1)
theorem XZ{l:()}{es zs:List Ent}(h:Lined k l ns es zs)(he:∀e ∈ es,EB l e):RL k l ns zs:=by
 have key:∀e ∈ zs,∃y,EB l y/\y.1≠y.2.1/\e=yo k l ns y:=λe hz=>by
  have hm:=h.perm.mem_iff.mp hz;unfold qy at hm;obtain⟨y,hy,rfl⟩:=Bf.mp hm;obtain⟨h1,h2⟩:=Bm.mp hy;exact#[y,he y h1,by simpa using h2,rfl]
 refine#[λe hz=>?_,λe hz=>?_]
 ·obtain⟨y,h1,_,rfl⟩:=key e hz;exact h1.rule
 ·obtain⟨y,h1,h2,rfl⟩:=key e hz;exact jJ h1 h2
theorem JM{l:()}(G:OG l ns k){zs bs:List Ent}(hz:RL k l ns zs)(h:xt k l ns [] zs (AX bs)):RL k l ns bs:=by
 obtain⟨gs,g1,g2,g3,g4⟩:=kD G h bs rfl #[λe he=>(nomatch he),λe he=>(nomatch he)] hz;exact g3
theorem Wp{k n:Nat}{l:()}(G:OG l ns k){r:Option (List Ent)}(h:uE k l ns n es r):∀fs,r=AX fs->(∀e ∈ es,EB l e)->(∀e ∈ es,EOk rs e)->(∀e ∈ fs,EOk rs e)/\∃zs,ThinL k l ns zs/\zb fs=zb zs:=by
 induction h with
 | out=>intro fs e;cases e
 | bad=>intro fs e;cases e
 | @done n es zs bs h1 h2 h3 =>
  intro fs er he ho;cases er;have hz:=XZ h1 he;exact#[W6 h2 bs rfl (λe h=>(nomatch h)) (Wi h1 ho),zs,zb3 G hz h1.srt h2 h3,h3]
 | @more n es zs bs r h1 h2 h3 h4 ih =>
  intro fs er he ho;have hz:=XZ h1 he;exact ih fs er (JM G hz h2).e (W6 h2 bs rfl (λe h=>(nomatch h)) (Wi h1 ho))
noncomputable def rankF:KeyFam (Int × List Int):=#[λr=>[.int r.1,.lst (r.2.map L3.D.int)],λa b=>if a.1=b.1 then ltI a.2 b.2 else decide (a.1<b.1),AZ,(0,[])]
theorem Kp{x y:List Int}(h:ltI x y=AZ):ltI y x=Ba:=by
 by_cases e:x=y
 ·subst e;rw[xg]at h;cases h
 ·have:=wY e;rw[h]at this;simpa using this.symm
theorem zbS{x y z:List Int}(h1:ltI y x=Ba)(h2:ltI z y=Ba):ltI z x=Ba:=by
 cases h:ltI z x with
 | false=>rfl
 | true =>
  by_cases e:y=x
  ·subst e;rw[h2]at h;cases h
  ·have h3:=wY e;rw[h1]at h3;have h4:ltI x y=AZ:=by simpa using h3.symm
   rw[jr h h4]at h2;cases h2
theorem rankF_ok:rankF.Ok where
 w:=#[λa b h=>by
   erw[rankF]at h ⊢
   by_cases e:a.1=b.1
   ·rw[if_pos e]at h;rw[if_pos e.symm];exact Kp h
   ·rw[if_neg e]at h;rw[if_neg (λz=>e z.symm)];have:=of_decide_eq_true h;exact decide_eq_false ⋯,
  λa b c h1 h2=>by
   erw[rankF]at h1 h2 ⊢
   by_cases e:b.1=a.1
   ·rw[if_pos e]at h1;rw[e]at h2;by_cases f:c.1=a.1
    ·rw[if_pos f]at h2 ⊢;exact zbS h1 h2
    ·rw[if_neg f]at h2 ⊢;exact h2
   ·rw[if_neg e]at h1;have h1':=of_decide_eq_false h1;by_cases f:c.1=b.1
    ·rw[if_neg ⋯];exact decide_eq_false ⋯
    ·rw[if_neg f]at h2;have h2':=of_decide_eq_false h2;rw[if_neg ⋯]
     exact decide_eq_false ⋯]
 eq:=λa b=>by
  have:=Jj a.1 b.1 a.2 b.2
  erw[ltD]at this
  exact this
 ok:=λa b=>by erw[rankF,kR,okD];exact#[trivial,jd _ _,trivial]
 dp:=λa=>by erw[rankF,dpD,uA,Xb];decide
 sh:=λa=>#[_,_,rfl,.inl #[rfl,_,rfl]]
noncomputable def zcT(k:Nat)(l:())(ns:List Int)(w:()):Int × List Int:=(zt k l ns w,jN k l w)
theorem X5{d:L3.D}{v:V}:∀{ds:List L3.D} {vs:List V},Iss K H ds vs->Is K H d v->Iss K H (ds ++ [d]) (vs ++ [v])
 | [],vs,h,hv=>by
  erw[Iss]at h
  subst h
  erw[br,Iss]
  exact#[v,[],rfl,hv,rfl]
 | e::ds,vs,h,hv=>by
  erw[Iss]at h
  obtain⟨x,r,rfl,hx,hr⟩:=h
  erw[bv,Iss]
  exact#[x,r ++ [v],rfl,hx,X5 hr hv]
theorem OrdAt.samT{T CO CR CW:sq}{H H':Hp}{ps:Array sr}{o:sq}{l:()}(h:OrdAt CO CR CW H o k l ns)(s:SamT T H H')(hT:H T=AX (.tbl ps)):OrdAt CO CR CW H' o k l ns:=by
 obtain⟨dx,⟨h1,h2⟩ | ⟨h1,h2⟩ | ⟨h1,h2,w,h3,h4⟩⟩:=h
 ·exact#[dx,.inl #[h1,s.at hT h2 λ_ z=>by cases z]]
 ·exact#[dx,.inr (.inl #[h1,s.at hT h2 λ_ z=>by cases z])]
 ·exact#[dx,.inr (.inr #[h1,h2,w,s.at hT h3 (λ_ z=>by cases z),s.at hT h4 λ_ z=>by cases z])]
theorem EnsA.samT{T:sq}{H H':Hp}{ps:Array sr}(s:SamT T H H')(hT:H T=AX (.tbl ps)):∀{es:List Ent} {vs:List V},EnsA K H es vs->EnsA K H' es vs
 | [],vs,h=>by erw[EnsA]at h ⊢;exact h
 | e::es,vs,h=>by
  erw[EnsA]at h ⊢
  obtain⟨v,r,e0,⟨p,s',e1,h1,h2⟩,h3⟩:=h;exact#[v,r,e0,#[p,s',e1,s.seqT hT h1,h2.samT s hT],EnsA.samT s hT h3]
theorem Y8{a b:Int × List Int}(h:a≠b):rankF.lt a b=!rankF.lt b a:=by
 erw[rankF]
 by_cases e:a.1=b.1
 ·rw[if_pos e,if_pos e.symm];exact wY λq=>h (Prod.ext e q)
 ·rw[if_neg e,if_neg λq=>e q.symm];by_cases c:a.1<b.1
  ·rw[decide_eq_true c,decide_eq_false ⋯];rfl
  ·rw[decide_eq_false c,decide_eq_true ⋯];rfl
theorem Uu(a b:Int × List Int):eqD (.tup (rankF.dec a)) (.tup (rankF.dec b))=decide (a=b):=by
 obtain⟨a1,a2⟩:=a;obtain⟨b1,b2⟩:=b
 erw[rankF,eqD,uC,Ym]
 by_cases h:a1=b1
 ·by_cases h2:a2=b2
  ·simp [h,h2]
  ·simp [h,h2]
 ·simp [h]
theorem Wt(a b:Int × List Int):ltD (.tup (rankF.dec a)) (.tup (rankF.dec b))=rankF.lt a b:=by
 erw[ltD]
 exact rankF_ok.eq a b
theorem Z9(a:Int × List Int):rankF.lt a a=Ba:=by
 erw[rankF]
 rw[if_pos trivial];exact xg _
noncomputable def pairF:KeyFam ((Int × List Int) × (Int × List Int)):=#[λr=>[.tup (rankF.dec r.1),.tup (rankF.dec r.2)],λa b=>if a.1=b.1 then rankF.lt a.2 b.2 else rankF.lt a.1 b.1,Ba,((0,[]),(0,[]))]
theorem qJ(a b:(Int × List Int) × (Int × List Int)):pairF.lt a b=if a.1=b.1 then rankF.lt a.2 b.2 else rankF.lt a.1 b.1:=rfl
theorem pairF_ok:pairF.Ok where
 w:=#[λa b h=>by
   rw[qJ]at h ⊢;by_cases e:a.1=b.1
   ·rw[if_pos e]at h;rw[if_pos e.symm];exact rankF_ok.w.asym _ _ h
   ·rw[if_neg e]at h;rw[if_neg λq=>e q.symm];exact rankF_ok.w.asym _ _ h,
  λa b c h1 h2=>by
   rw[qJ]at h1 h2 ⊢;by_cases e:b.1=a.1
   ·rw[if_pos e]at h1;rw[e]at h2;by_cases f:c.1=a.1
    ·rw[if_pos f]at h2 ⊢;exact rankF_ok.w.ntr _ _ _ h1 h2
    ·rw[if_neg f]at h2 ⊢;exact h2
   ·rw[if_neg e]at h1;by_cases g:c.1=b.1
    ·rw[g,if_neg e];exact h1
    ·rw[if_neg g]at h2;by_cases f:c.1=a.1
     ·rw[f]at h2;have:=Y8 (a:=b.1) (b:=a.1) e;rw[h1,h2]at this;cases this
     ·rw[if_neg f]
      exact rankF_ok.w.ntr _ _ _ h1 h2]
 eq:=λa b=>by
  show uw [.tup (rankF.dec a.1),.tup (rankF.dec a.2)] [.tup (rankF.dec b.1),.tup (rankF.dec b.2)]=_;rw[qJ,uw,Uu,uw,Uu,Wt,Wt,uw];by_cases e:a.1=b.1
  ·rw[if_pos (decide_eq_true e),if_pos e];by_cases f:a.2=b.2
   ·rw[if_pos (decide_eq_true f),f,Z9]
   ·rw[if_neg (by simpa using f)]
  ·rw[if_neg (by simpa using e),if_neg e]
 ok:=λa b=>by
  show kR [.tup (rankF.dec a.1),.tup (rankF.dec a.2)] [.tup (rankF.dec b.1),.tup (rankF.dec b.2)]
  erw[kR,okD]
  exact#[rankF_ok.ok _ _,rankF_ok.ok _ _,trivial]
 dp:=λa=>by erw[pairF,rankF,dpD,uA,Xb];decide
 sh:=λa=>#[_,_,rfl,.inr #[rfl,_,rfl]]
noncomputable def rkE(k:Nat)(l:())(ns:List Int)(e:Ent):(Int × List Int) × (Int × List Int):=(zcT k l ns e.1,zcT k l ns e.2.1)
theorem zdt{l:()}{u v:()}(hu:∀c ∈ u,c ∈ l)(hv:∀c ∈ v,c ∈ l):zcT k l ns u=zcT k l ns v ↔ u=v :=
 #[λh=>X1 hu hv (Prod.ext_iff.mp h).2,λh=>by rw[h]]
theorem QC{l:()}{a b:Ent}(ha:EB l a)(hb:EB l b):pairF.lt (rkE k l ns a) (rkE k l ns b)=ZW k l ns a b:=by
 rw[qJ];unfold ZW;have h:(rkE k l ns a).1=(rkE k l ns b).1 ↔ a.1=b.1:=zdt ha.ma hb.ma;by_cases e:a.1=b.1
 ·rw[if_pos (h.mpr e),if_pos e];rfl
 ·rw[if_neg λq=>e (h.mp q),if_neg e];rfl
theorem UW:∀{es:List Ent} {vs:List V},EnsA K H es vs->∀t ∈ es.zip vs,EnA K H t.1 t.2
 | [],_,_,t,ht=>by simp at ht
 | e::es,vs,h,t,ht=>by
  erw[EnsA]at h
  obtain⟨v,r,rfl,h1,h2⟩:=h;rw[dh]at ht;rcases Bg.mp ht with rfl | ht
  ·exact h1
  ·exact UW h2 t ht
theorem zaN:∀{ts:List (Ent × V)},(∀t ∈ ts,EnA K H t.1 t.2)->EnsA K H (ts.map (·.1)) (ts.map (·.2))
 | [],_=>by erw[aL,EnsA]
 | t::ts,h=>by
  erw[au,EnsA]
  exact#[_,_,rfl,h t ax,zaN λu hu=>h u (am _ hu)]
theorem Xi{l:()}{vs:List V}{ys:List (((Int × List Int) × (Int × List Int)) × V)}{d:((Int × List Int) × (Int × List Int)) × V}(hI:EnsA K H es vs)(hE:∀e ∈ es,EB l e)(h1:ys=srt (λp q=>pairF.lt p.1 q.1) d ((es.map (rkE k l ns)).zip vs)) :
  ∃zs:List Ent,zs.Perm es/\zs.Pairwise (λa b=>ZW k l ns b a=Ba)/\zs=srt (ZW k l ns) ([],[],[]) es/\EnsA K H zs (ys.map (·.2)):=by
 have hl:=hI.len
 have e0:(es.map (rkE k l ns)).zip vs=(es.zip vs).map λt=>(rkE k l ns t.1,t.2):=by
  rw[List.zip_map_left];rfl
 have W0:WkO λ(p q:((Int × List Int) × (Int × List Int)) × V)=>pairF.lt p.1 q.1:=#[λa b=>pairF_ok.w.asym _ _,λa b c=>pairF_ok.w.ntr _ _ _];have W1:WkO λ(p q:Ent × V)=>pairF.lt (rkE k l ns p.1) (rkE k l ns q.1):=#[λa b=>pairF_ok.w.asym _ _,λa b c=>pairF_ok.w.ntr _ _ _];have W2:WkO λ(p q:Ent)=>pairF.lt (rkE k l ns p) (rkE k l ns q):=#[λa b=>pairF_ok.w.asym _ _,λa b c=>pairF_ok.w.ntr _ _ _];rw[e0,zaw W0 (d':=(λt:Ent × V=>(rkE k l ns t.1,t.2)) (([],[],[]),.non)) (λ_ _ _ _=>rfl)]at h1
 replace h1:=h1.trans (UH (lt:=λ(p q:((Int × List Int) × (Int × List Int)) × V)=>pairF.lt p.1 q.1) (λt:Ent × V=>(rkE k l ns t.1,t.2)) (([],[],[]),.non) (es.zip vs))
 obtain⟨p,h2⟩:=KA W1 (([],[],[]),.non) (es.zip vs)
 have e2:(srt (λ(p q:Ent × V)=>pairF.lt (rkE k l ns p.1) (rkE k l ns q.1)) (([],[],[]),.non) (es.zip vs)).map (·.1)=srt (ZW k l ns) ([],[],[]) es:=by
  rw[<- zaw W2 (d:=([],[],[])) λa ha b hb=>QC (hE a ha) (hE b hb)];have:=UH (lt:=λ(p q:Ent)=>pairF.lt (rkE k l ns p) (rkE k l ns q)) (λt:Ent × V=>t.1) (([],[],[]),.non) (es.zip vs);rw[List.map_fst_zip ⋯]at this;exact this.symm
 generalize srt (λ(p q:Ent × V)=>pairF.lt (rkE k l ns p.1) (rkE k l ns q.1)) (([],[],[]),.non) (es.zip vs)=ts at h1 h2 p e2;have hm:∀t ∈ ts,t.1 ∈ es:=λt ht=>(da (show (t.1,t.2) ∈ es.zip vs from p.mem_iff.mp ht)).1;refine#[ts.map (·.1),?_,?_,e2,?_]
 ·have:=p.map (·.1);rw[List.map_fst_zip ⋯]at this;exact this
 ·rw[List.pairwise_map];refine h2.imp_of_mem λ{a b} ha hb h=>?_;rw[<- QC (hE _ (hm _ hb)) (hE _ (hm _ ha))];exact h
 ·rw[h1,dg];exact zaN λt ht=>UW hI t (p.mem_iff.mp ht)
def tbE(K:so)(CO CR CW:sq):TE:=Jy (zM (zu (zde CO CR CW) "rank" (λ_=>jC CO CR CW) [] E0 (ym 1) (zM (tOp (jD K) (ym 0) (tC (.int 0))) xH)) (zM (zu (zde CO CR CW) "rank" (λ_=>jC CO CR CW) [] E0 (ym 1) (zM (tOp (jD K) (ym 0) (tC (.int 1))) xH)) xH))
theorem zd1{CO CR CW o p s:sq}{l:()}(hG:OG l ns k)(ho:OrdAt CO CR CW H o k l ns)(hE:EB l e)(hp:SqT K H p [.str (tx e.1),.str (tx e.2.1),.ref s])(q:∀(t:sq) (H':Hp),Same H H'->Is K H' (.tup (pairF.dec (rkE k l ns e))) (.ref t)->Q (.ref t) H'):tbE K CO CR CW [!!p,!!o] H Q:=by
 have s16:=zP;obtain⟨C,dx,fs,hf,ho1,hn,_⟩:=ho.fam;have h1:fs.lookup ("rank" : sB)=AY:=hn _ ∅ ∅;unfold tbE;ac_rfl;refine#[C,hf,dx,fs,ho1,h1,_,hp,_,rfl,o,k,l,ns,e.1,rfl,ho,hG,by have:=hE.a;lia,hE.ma,λp1 q1 H1 s1 hp1 hq1=>#[C,hf,dx,fs,s1 _ _ ho1,h1,_,zq s1 hp,_,rfl,o,k,l,ns,e.2.1,rfl,ho.same s1,hG,by have:=hE.b;lia,hE.mb,λp2 q2 H2 s2 hp2 hq2=>#[⋯,λt ht=>?_]]];refine q t _ (s1.trans (s2.trans (ze (o:=.tup [.ref p1,.ref p2]) ht))) ?_;show Is K _ (.tup [.tup (rankF.dec (zcT k l ns e.1)),.tup (rankF.dec (zcT k l ns e.2.1))]) (.ref t);refine Is.tup ht ?_
 erw[Iss]
 exact#[_,_,rfl,ZF (s2 _ _ hp1) (s2 _ _ hq1),_,_,rfl,ZF hp2 hq2,rfl]
theorem zaK{CO CR CW o:sq}{l:()}{LA:Hp->Prop}{Qf:List V->Hp->Prop}(hG:OG l ns k)(hLA:∀H H',LA H->Same H H'->LA H'):∀(es:List Ent) (vs Bd:List V) (rs:List ((Int × List Int) × (Int × List Int))) (H:Hp),LA H->OrdAt CO CR CW H o k l ns->(∀e ∈ es,EB l e)->EnsA K H es vs ->
  Iss K H (rs.map λa=>.tup (pairF.dec a)) Bd->(∀acc' H',Same H H'->Iss K H' ((rs ++ es.map (rkE k l ns)).map λa=>.tup (pairF.dec a)) acc'->Qf acc' H')->qh (λx H Q=>LA H/\tbE K CO CR CW [AX x,!!o] H Q) vs Bd H Qf
 | [],vs,Bd,rs,H,hL,ho,hw,hV,hI,h=>by
  erw[EnsA]at hV
  subst hV;exact h Bd H (Same.refl _) (by simpa using hI)
 | e::es,vs,Bd,rs,H,hL,ho,hw,hV,hI,h=>by
  have s16:=zP
  erw[EnsA]at hV
  obtain⟨v,r,rfl,⟨p,s,rfl,hp,_⟩,hV⟩:=hV;refine#[hL,zd1 hG ho (hw e ax) hp λt H' s3 hIs=>?_];refine zaK hG hLA es r (Bd ++ [.ref t]) (rs ++ [rkE k l ns e]) _ (hLA _ _ hL s3) (ho.same s3) (λx hx=>hw x (am _ hx)) (hV.same s3) ?_ λacc' H' s' hI'=>h acc' H' (s3.trans s') (by simpa using hI');rw[ay];exact X5 (Iss.same s3 _ _ hI) hIs
noncomputable def zc2:sF->tG
 | .Lambda _ _ _ p=>p
 | _=>default
noncomputable def zgx:List sJ->tG
 | _::.Return (AX (.Call _ _ (k::_) _)) _::_=>zc2 k.value
 | _=>default
noncomputable def lp:tG:=zgx (yg yC)
noncomputable def lq:sB:="in_order.<locals>.<lambda>"
def ZE(K:so)(CO CR CW T:sq):Sp:=λvs H Q _=>∃(o a:sq) (k:Nat) (l:()) (ns:List Int) (es:List Ent),vs=[.ref o,.ref a]/\OrdAt CO CR CW H o k l ns/\OG l ns k/\EnsL K H a es/\es.length<64/\(∀e ∈ es,EB l e)/\TabOk H T lp lq /\
 ∀(D:sq) (zs:List Ent) (H':Hp),SamT T H H'->TabOk H' T lp lq->H D=AY->Lined k l ns es zs->EnsM K H' D zs->Q (.ref D) H'
theorem UK{CO CR CW T o a:sq}{l:()}(h1:OrdAt CO CR CW H o k l ns)(h2:OG l ns k)(h3:EnsL K H a es)(h4:es.length<64)(h5:∀e ∈ es,EB l e)(h6:TabOk H T lp lq)
  (h:∀(D:sq) (zs:List Ent) (H':Hp),SamT T H H'->TabOk H' T lp lq->H D=AY->Lined k l ns es zs->EnsM K H' D zs->Q (.ref D) H'):ZE K CO CR CW T [.ref o,.ref a] H Q E:=#[o,a,k,l,ns,es,rfl,h1,h2,h3,h4,h5,h6,h]
abbrev zbc(mg:sB->Option sr):Prop:=mg "sorted" = AY
theorem oz:sQz 2 ["order","entries","unlike"] yC:=by nofun
theorem Xe{f CO CR CW CC TB:sq}(B:Bt mg)(DRk:DR P w K mg base CO CR CW)(hsorted:zbc mg)(hCd:PySem.W.CodeHd base CC TB)(hBt:base.BuiltinsAt mg TB)(hgT:si≠TB)(F:("in_order"^^^yC))(HC:fd.code=.ref CC)(nI:(4<<<"as_rule") ["order","entry"] [] (w8 K CO CR CW)):(6&&&["order","entries"]) (ZE K CO CR CW TB):=by
 refine zcl F HC oz (λvs H Q E h=>?_) (λA outer s H vs Q E hr h=>?_)
 ·obtain⟨o,a,k,l,ns,es,rfl,_⟩:=h;rfl
 ·obtain⟨o,a,k,l,ns,es,rfl,ho,hG,hA,hz,hE,hTab,q⟩:=h
  refine#[_,(zi (V5 (i:=2) oz.nd rfl (.inl rfl) (.inl rfl) (own:=["entry"]) (caps:=["order"]) (ix:=[0]) (tt:=(tBl (tOp rNe (tOp (jD K) (ym 0) (tC (.int 0))) (tOp (jD K) (ym 0) (tC (.int 1)))))) (te:=(uR (w8 K CO CR CW) [] E0 (zM (ym 1) (zM (ym 0) xH)))) rfl (zN (sc:=zh yC) rfl (by symm) (by symm) (by symm) rfl (by symm) (by symm) rfl) (yj (pv 1)) (λ_ _ _ _ _ _=>zx (i:=0) (show List.Nodup [_,_] by decide) rfl (.inl rfl)) (λ_ _ _ _ _ _=>(Uz (zy j3 (zo ix_tup (pv 0) zg) (zo ix_tup (pv 0) zg) (zC _)))) (λ_ _ _ _ _ _=>(cl0 nI hr .nil rfl (za (pv 1) (za (pv 0) zc)))))
   (zf (zl (JI (k:=2) (p:="entry") (y:="order") (iy:=0) (c:=s⁻¹+1) (tb:=tbE K CO CR CW) pairF_ok #[rfl,rfl,rfl,∅,rfl,rfl,∅,∅] (hr.mono ∅) rfl hsorted PyProof.Rows.boot_sorted (za (pv 2) zc) rfl hCd hBt hgT rfl rfl (by intro _ _ _ _;exact rfl) rfl rfl rfl (λs H f cv hr'=>zR (za (zcS DRk hr' (pv 1) (za (zo ix_tup (pv 0) zg) zc)) (za (zcS DRk hr' (pv 1) (za (zo ix_tup (pv 0) zg) zc)) zc))))))),?_]
  have s16:=zP;obtain⟨xs,hX,hI⟩:=id hA;have hxl:=hI.len
  have hEr:∀e ∈ qy k l ns es,EB l e:=λe he=>by
   unfold qy at he;obtain⟨y,hy,rfl⟩:=Bf.mp he;exact (hE y (Bm.mp hy).1).rule
  have hrl:=YY k l ns es;refine zj (λσ H'=>Same H H'/\∃(D0:sq) (Bd:List V),H D0=AY/\H' D0=AX (.lst Bd)/\EnsA K (ka D0 H') (qy k l ns es) Bd/\σ=[!!o,!!a,!!D0]) ?_ ?_
  ·ac_rfl;refine#[#[xs,hX],λD hD=>CompL.by (xs:=xs) (λi Bd H'=>Same H H'/\H' D=AX (.lst Bd)/\EnsA K (ka D H') (qy k l ns (es.take i)) Bd) #[ze hD,zd,by erw[bS,qy,dc,aL,EnsA]] (λi Bd H' _ h=>h.1.seq hX) ?_ ?_]
   ·refine nm4 ?_;rintro i x Bd H' hx ⟨hs,hH,hA⟩:_;have hi:=(Be.mp hx).1;obtain⟨e,pe,se,hei,rfl,hqe,hse⟩:=hI.get hx;have hEe:=hE e (ag hei);have hal:=hA.len;have hal2:=YY k l ns (es.take i);rw[aG]at hal2;have hq1:=zq hs hqe
    have hraw:qy k l ns (es.take (i+1))=qy k l ns (es.take i) ++ if e.1=e.2.1 then []else [yo k l ns e]:=by
     rw[zX hei,zcw];congr 1;unfold qy;by_cases hne:e.1=e.2.1
     ·rw[if_pos hne,eV (by simp [hne])];rfl
     ·rw[if_neg hne,eU (by simp [hne])];rfl
    right;ac_rfl;refine#[xx,_,hq1,_,rfl,_,hq1,_,rfl,rfl,yq (λhne=>?_) λheq=>?_]
    ·have hne':¬ e.1=e.2.1:=λz=>hne (by rw[z]);rw[if_neg hne']at hraw
     have fin:∀(v:V) (H2:Hp),Same H' H2->EnA K (ka D H2) (yo k l ns e) v->H2 D=AX (.lst Bd)/\Bd.length<sk/\CNx xs.length i (λi Bd H'=>Same H H'/\H' D=AX (.lst Bd)/\EnsA K (ka D H') (qy k l ns (es.take i)) Bd) (Bd ++ [v]) (upd H2 D (.lst (Bd ++ [v]))):=λv H2 s2 hv=>by
      refine#[s2 _ _ hH,⋯,CNx.mk hi #[zJ (hs.trans s2) hD,zd,?_]];rw[hraw];exact (hA.same ((wM s2).trans xB)).snoc (hv.same xB)
     refine kh (ho.same hs) hG hq1 (hse.same hs).is hEe (λer H2 s2=>fin _ _ s2 ?_) λp' s' H2 s2 hsn hp' hL=>fin _ _ s2 ?_
     ·rw[er];exact EnA.same #[pe,se,rfl,hqe,hse] (Jh hD (hs.trans s2))
     ·exact EnA.new (s2 _ _ hH) hp' hL (λz=>by rw[z,hH]at hsn;cases hsn)
    ·have heq':e.1=e.2.1:=by
      have:=Classical.not_not.mp heq;injection this with this;exact jO this
     rw[if_pos heq',aT]at hraw;exact CNx.mk hi #[hs,hH,by rw[hraw];exact hA]
   ·rintro Bd H' ⟨hs,hH,hA⟩;rw[hxl,aP]at hA;exact#[hs,D,hD,Bd,hH,hA,rfl]
  rintro σ H1 ⟨s1,D0,Bd,hD0,hH1,hI1,rfl⟩:_;have hal:=hI1.len;have hT1:=hTab.same s1;obtain⟨ps1,hps1,_⟩:=id hT1;right;ac_rfl;unfold zaJ;refine#[hT1,λf H2 hf hLA hT2 sT=>?_];obtain⟨ps2,hps2,_⟩:=id hT2;have hI2:=EnsA.samT sT hps1 (hI1.same wZ);refine#[D0,Bd,.ref o,rfl,SqL.of (sT.at hps1 hH1 λ_ z=>by cases z),⋯,rfl,?_];refine zaK hG (λA A' h1 h2=>LamAt.same h1 h2) (qy k l ns es) Bd [] [] H2 hLA ((ho.same s1).samT sT hps1) hEr hI2 (by erw[aL,Iss]) λacc' H3 s3 hI3=>#[(qy k l ns es).map (rkE k l ns),by simpa using hI3,λys p1 D hD=>?_];obtain⟨zs,z1,z2,z4,z3⟩:=Xi (hI2.same s3) hEr p1;have sD:=ze (o:=.lst (ys.map (·.2))) hD;refine q D zs _ ((SamT.of s1).trans (sT.trans (SamT.of (s3.trans sD)))) (hT2.same (s3.trans sD)) ?_ #[z1,z2,z4] #[_,zd,z3.same sD];exact ((SamT.of s1).trans (sT.trans (SamT.of s3))).free (s3 _ _ hps2) hD
structure TMo(mg:sB->Option sr):Prop where
 u:∃t,mg "MOST_USES_thinning" = AX (.int 40 t)
 s:∃t,mg "MOST_STEPS_thinning" = AX (.int 240 t)
 d:∃t,mg "MOST_SIDE_thinning" = AX (.int 60 t)
 p:∃t,mg "MOST_PASSES" = AX (.int 20 t)
structure BG(k:Nat)(l:())(ns:List Int)(bs:List Ent):Prop where
 n:bs.length<64
 e:∀e ∈ bs,EB l e
 lt:∀e ∈ bs,zL k l ns e.2.1 e.1=AZ
theorem BG.ne{l:()}(h:BG k l ns bs)(G:OG l ns k):NeL (zb bs):=λp hp=>by
 unfold zb at hp;obtain⟨e,he,rfl⟩:=Bf.mp hp;exact Q6 G.nb (h.lt e he)
theorem BG.le{l:()}(h:BG k l ns bs):∀p ∈ zb bs,p.1.length<=60/\p.2.length<=60:=λp hp=>by
 unfold zb at hp;obtain⟨e,he,rfl⟩:=Bf.mp hp;exact#[(h.e e he).a,(h.e e he).b]
theorem BG.mem{l:()}(h:BG k l ns bs):∀p ∈ zb bs,∀c ∈ p.2,c ∈ l:=λp hp=>by
 unfold zb at hp;obtain⟨e,he,rfl⟩:=Bf.mp hp;exact (h.e e he).mb
theorem uI{CF a:sq}{w:()}(hA:LsA K H a (ps.map dR))(hN:NeL ps)(hpl:ps.length<=100)(hP:∀p ∈ ps,p.1.length<=60/\p.2.length<=60)(hw:w.length<=60)
  (h1:∀(i:Nat) (p S:sq) (H':Hp),zE ps w i->Same H H'->H' p=AX (.tup [.ref S,.str (tx (wAt ps w i))])->LsA K H' S ((sAt ps w i).map dG)->H S=AY->Q (.ref p) H') (h2:(∀i,¬ zE ps w i)->∀H',Same H H'->E (.ref CF) AY H'):xM K CF [.ref a,.str (tx w),.int 40] H Q E:=by
 have hP':∀p ∈ ps,p.1.length<=1000/\p.2.length<=1000:=λp hp=>by
  have:=hP p hp;lia
 have len:∀j,j<=40->(wAt ps w j).length<=10000:=λj hj=>by
  have:=qL (l:=w) (m:=60) hN (λp hp=>(hP p hp).2) j;lia
 rcases zb1 ps w with ⟨i,hi⟩ | ⟨hL,hf⟩
 ·have hm:=hi.most;exact#[a,w,ps,40,i,rfl,hA,hN,hpl,hP',#[hi.live,λj hj=>len j ⋯,⋯],.inl #[hi.end_,⋯,λp S H' s' hp hL hS=>h1 i p S H' hi s' hp hL hS]]
 ·refine#[a,w,ps,40,40,rfl,hA,hN,hpl,hP',#[hL,λj hj=>len j hj,∅],.inr #[hf,rfl,h2 λi hi=>?_]];have hm:=hi.most;by_cases e:i=40
  ·subst e;exact hf hi.end_
  ·exact hL i ⋯ hi.end_
theorem Q0(us:List (Nat × Nat)):us.map dG=(stS us).map dSt:=by
 unfold stS;rw[dg];rfl
theorem Zf(us:List (Nat × Nat)):(stS us).length=us.length:=by unfold stS;rw[ae]
theorem zdd{w:()}{i:Nat}(h:Vp ps w i):∀u ∈ sAt ps w i,u.1<ps.length:=λu hu=>by
 unfold sAt at hu;obtain⟨j,hj,rfl⟩:=Bf.mp hu
 cases e:zF (wAt ps w j) ps with
 | none=>exact absurd e (h j (Bl.mp hj))
 | some v =>
  obtain⟨p,h1,_⟩:=yY e;exact (Be.mp h1).1
theorem Wy{w:()}{i:Nat}(h:Vp ps w i):∀u ∈ stS (sAt ps w i),0<=u.1/\u.1<ps.length:=λu hu=>by
 unfold stS at hu;obtain⟨v,hv,rfl⟩:=Bf.mp hu;have:=zdd h v hv;show 0<=(v.1:Int)/\(v.1:Int)<ps.length;lia
theorem UT{n:Int}(h:∀u ∈ ss,0<=u.1/\u.1<n):∀u ∈ yK ss,0<=u.1/\u.1<n:=λu hu=>by
 unfold yK at hu;obtain⟨v,hv,rfl⟩:=Bf.mp hu;exact h v (Bn.mp hv)
theorem zek(h:∀e ∈ es,e.2.2.length<=600)(u:Stp):(VR es u).length<=600:=by
 have hg:(es.getD u.1.toNat ([],[],[])).2.2.length<=600:=by
  rw[aa]
  cases e:es[u.1.toNat]? with
  | none=>exact aD _
  | some r=>exact h r (ag e)
 unfold VR;rw[X6];split
 ·exact hg
 ·rw[yV];exact hg
theorem zck(h:∀e ∈ es,e.2.2.length<=600):∀us:List Stp,(byL es us).length<=us.length * 600
 | []=>by simp [byL]
 | u::us=>by
  have e:byL es (u::us)=VR es u ++ byL es us:=by simp [byL]
  have h1:=zek h u;have h2:=zck h us;rw[e,aj,aJ,eF];lia
def Xc(K:so)(CF:sq):Sp:=λvs H Q E=>∃(a p s:sq) (k:Nat) (l:()) (ns:List Int) (bs:List Ent) (e:Ent),vs=[.ref a,.ref p]/\OG l ns k/\Is K H (.lst (bs.map dE)) (.ref a)/\BG k l ns bs/\SqT K H p [.str (tx e.1),.str (tx e.2.1),.ref s]/\LsA K H s (e.2.2.map dSt)/\EB l e /\
 (∀i j H',zE (zb bs) e.1 i->zE (zb bs) e.2.1 j->wAt (zb bs) e.1 i=wAt (zb bs) e.2.1 j->Same H H'->Q .non H') /\
 (∀i j p' s' H',zE (zb bs) e.1 i->zE (zb bs) e.2.1 j->wAt (zb bs) e.1 i≠wAt (zb bs) e.2.1 j->Same H H'->H s'=AY->H' p'=AX (.tup [.str (tx (yN bs e i j).1),.str (tx (yN bs e i j).2.1),.ref s'])->LsA K H' s' ((yN bs e i j).2.2.map dSt)->Q (.ref p') H') /\
 ((∀i,¬ zE (zb bs) e.1 i)\/(∀j,¬ zE (zb bs) e.2.1 j)->∀H',Same H H'->E (.ref CF) AY H')
theorem Wn{a t:sq}{us:List Stp}(h1:Is K H (.lst (es.map dE)) (.ref a))(h2:Is K H (.lst (us.map dSt)) (.ref t))(h3:us.length<=100)(h4:∀e ∈ es,e.2.2.length<=600)(h5:∀u ∈ us,0<=u.1/\u.1<es.length)(h:∀(D:sq) (H':Hp),H D=AY->Same H H'->LsA K H' D ((byL es us).map dSt)->Q (.ref D) H'):Ud K [.ref a,.ref t] H Q E:=#[a,t,es,us,rfl,h1,h2,h3,h4,h5,h]
theorem gz:sQz 2 ["entries","entry","rules","one","other","steps"] xK:=by nofun
theorem ji{f CF:sq}{iO:Aa}(B:Bt mg)(TM:TMo mg)(F:("brought_down"^^^xK))(gq:(1<<<"pairs_of") ["entries"] [] (x0 K))(nc:(4>>>"gone") ["rules","word","most"] [] (xM K CF))(DD_gone:(4>>>"gone") ["rules","word","most"] [.int 4000 iO] (xM K CF))(im:(2<<<"by_pacts") ["entries","steps"] [] (Ud K))(mq:(1<<<"back") ["steps"] [] (uQ K)):(5|||["entries","entry"]) (Xc K CF):=by
 obtain⟨t9,g9⟩:=TM.u
 exists Fun.okX F gz,0
 ·obtain⟨a,p,s,k,l,ns,bs,e,rfl,hG,hA,hB,hp,hs,hE,q1,q2,q3⟩:=h
  refine#[_,(zi (zD 2 gz.nd (cl0 gq hr .nil rfl (za (pv 0) zc)))
   (zi (zD 3 gz.nd (clP hx nc hr .nil rfl (za (pv 2) (za (zo ix_tup (pv 1) zg) (za (yv (v:=.int 40) rfl g9 #[t9,rfl]) zc)))))
   (zi (zD 4 gz.nd (clP hx nc hr .nil rfl (za (pv 2) (za (zo ix_tup (pv 1) zg) (za (yv (v:=.int 40) rfl g9 #[t9,rfl]) zc)))))
   (zi (zK (zy vc (zo ix_tup (pv 3) zg) (zo ix_tup (pv 4) zg) (zC _))
    (zf (zl yd))
    zv)
   (zi (zD 5 gz.nd (zB We (zB We (cl0 im hr .nil rfl (za (pv 0) (za (cl0 mq hr .nil rfl (za (zo ix_tup (pv 3) zg) zc)) zc))) (zo ix_tup (pv 1) zg)) (cl0 im hr .nil rfl (za (pv 0) (za (zo ix_tup (pv 4) zg) zc)))))
   (zf (zl (zR (za (zo ix_tup (pv 3) zg) (za (zo ix_tup (pv 4) zg) (za (pv 5) zc))))))))))),?_]
  have s16:=zP;have hbl:=hB.n;have hN:=hB.ne hG;have hpl:=um bs;have hst:∀e ∈ bs,e.2.2.length<=600:=λe he=>(hB.e e he).s;have hst3:∀e ∈ bs,e.2.2.length<=600:=λe he=>by have:=hst e he;lia
  refine zj (λσ H'=>Same H H'/\∃R:sq,LsA K H' R ((zb bs).map dR)/\σ=[!!a,!!p,!!R,AY,AY,AY]) ?_ ?_
  ·ac_rfl;exact xS hA ⋯ λD H' _ s' hL=>#[s',D,hL,rfl]
  rintro σ H1 ⟨s1,R,hR,rfl⟩:_;right;refine zj (λσ H'=>Same H1 H'/\∃(i:Nat),zE (zb bs) e.1 i/\∃p1:sq,(∃S1:sq,H' p1=AX (.tup [.ref S1,.str (tx (wAt (zb bs) e.1 i))])/\LsA K H' S1 ((sAt (zb bs) e.1 i).map dG))/\σ=[!!a,!!p,!!R,!!p1,AY,AY]) ?_ ?_
  ·ac_rfl;refine#[_,zq s1 hp,_,rfl,uI hR hN ⋯ hB.le hE.a (λi p1 S1 H' hi s' hp1 hL _=>#[s',i,hi,p1,#[S1,hp1,hL],rfl]) λhno H' s'=>q3 (.inl hno) H' (s1.trans s')]
  rintro σ H2 ⟨s2,i,hi,p1,⟨S1,hp1,hS1⟩,rfl⟩:_;have s12:=s1.trans s2;right;refine zj (λσ H'=>Same H2 H'/\∃(j:Nat),zE (zb bs) e.2.1 j/\∃p2:sq,(∃S2:sq,H' p2=AX (.tup [.ref S2,.str (tx (wAt (zb bs) e.2.1 j))])/\LsA K H' S2 ((sAt (zb bs) e.2.1 j).map dG))/\σ=[!!a,!!p,!!R,!!p1,!!p2,AY]) ?_ ?_
  ·ac_rfl;refine#[_,zq s12 hp,_,rfl,uI (hR.same s2) hN ⋯ hB.le hE.b (λj p2 S2 H' hj s' hp2 hL _=>#[s',j,hj,p2,#[S2,hp2,hL],rfl]) λhno H' s'=>q3 (.inr hno) H' (s12.trans s')]
  rintro σ H3 ⟨s3,j,hj,p2,⟨S2,hp2,hS2⟩,rfl⟩:_;have s13:=s12.trans s3;have hp1':=s3 _ _ hp1;have hS1':=hS1.same s3;right;refine zj (λσ H'=>H'=H3/\wAt (zb bs) e.1 i≠wAt (zb bs) e.2.1 j/\σ=[!!a,!!p,!!R,!!p1,!!p2,AY]) ?_ ?_
  ·ac_rfl;refine#[_,SqT.of hp1',_,rfl,_,SqT.of hp2,_,rfl,rfl,yq (λh=>?_) λh=>?_]
   ·exact q1 i j H3 hi hj (jO (by injection h)) s13
   ·exact λz=>h (by rw[z])
  rintro σ H4 ⟨rfl,hne,rfl⟩:_;have him:=hi.most;have hjm:=hj.most;have hl1:(stS (sAt (zb bs) e.1 i)).length=i:=by rw[Zf,jB]
  have hl2:(stS (sAt (zb bs) e.2.1 j)).length=j:=by rw[Zf,jB]
  rw[Q0]at hS1' hS2;have hA4:=Is.same s13 _ _ hA;have hb1:=zck hst (yK (stS (sAt (zb bs) e.1 i)));have hb2:=zck hst (stS (sAt (zb bs) e.2.1 j));rw[yV,hl1]at hb1;rw[hl2]at hb2;have hes:=hE.s;right;refine zj (λσ H'=>Same H4 H'/\∃S:sq,H4 S=AY/\LsA K H' S ((yN bs e i j).2.2.map dSt)/\σ=[!!a,!!p,!!R,!!p1,!!p2,!!S]) ?_ ?_
  ·ac_rfl;refine#[_,SqT.of hp1',_,rfl,qF hS1'.is ⋯ λB1 G1 _ t1 hB1=>Wn (Is.same t1 _ _ hA4) hB1.is (by rw[yV];lia) hst3 (by rw[<- hpl];exact UT (Wy hi.live)) λC1 G2 hC1n t2 hC1=>?_];have t12:=t1.trans t2;obtain⟨c1,hc1,ic1⟩:=id hC1;obtain⟨es0,hs0,is0⟩:=hs.same (s13.trans t12);have lc1:=ic1.len;have ls0:=is0.len;rw[ae]at lc1 ls0;refine#[_,zq (s13.trans t12) hp,_,rfl,C1,rfl,s,rfl,c1,hc1,es0,hs0,⋯,λM hM=>?_];have t3:=ze (o:=.lst (c1 ++ es0)) hM;have t13:=t12.trans t3;refine#[_,SqT.of (t13 _ _ hp2),_,rfl,Wn (Is.same t13 _ _ hA4) (hS2.same t13).is ⋯ hst3 (by rw[<- hpl];exact Wy hj.live) λC2 G3 hC2n t4 hC2=>?_];obtain⟨c2,hc2,ic2⟩:=id hC2;have lc2:=ic2.len;rw[ae]at lc2;refine#[C2,rfl,c1 ++ es0,t4 _ _ zd,c2,hc2,by rw[aj];lia,λS hS=>?_];have t5:=ze (o:=.lst (c1 ++ es0 ++ c2)) hS;refine#[t13.trans (t4.trans t5),S,(t13.trans t4).free hS,#[_,zd,?_],rfl];show Iss K _ ((byL bs (yK (stS (sAt (zb bs) e.1 i))) ++ e.2.2 ++ byL bs (stS (sAt (zb bs) e.2.1 j))).map dSt) _;rw[ay,ay];exact Iss.append (Iss.append (Iss.same (t3.trans (t4.trans t5)) _ _ ic1) (Iss.same (t3.trans (t4.trans t5)) _ _ is0)) (Iss.same t5 _ _ ic2)
  rintro σ H5 ⟨s5,S,hSn,hS,rfl⟩:_;right;ac_rfl;refine#[_,SqT.of (s5 _ _ hp1'),_,rfl,_,SqT.of (s5 _ _ hp2),_,rfl,⋯,λt ht=>?_];have st:=ze (o:=.tup [.str (tx (wAt (zb bs) e.1 i)),.str (tx (wAt (zb bs) e.2.1 j)),.ref S]) ht;exact q2 i j t S _ hi hj hne (s13.trans (s5.trans st)) (s13.free hSn) zd (hS.same st)
def jx(K:so)(CF:sq):Sp:=λvs H Q E=>∃(p s:sq) (e:Ent),vs=[.ref p]/\SqT K H p [.str (tx e.1),.str (tx e.2.1),.ref s]/\Is K H (.lst (e.2.2.map dSt)) (.ref s)/\e.1.length<=10000/\e.2.1.length<=10000/\(¬ jQ e->Q .non H)/\(jQ e->E (.ref CF) AY H)
theorem VN{CF p s:sq}(h1:SqT K H p [.str (tx e.1),.str (tx e.2.1),.ref s])(h2:Is K H (.lst (e.2.2.map dSt)) (.ref s))(h3:e.1.length<=10000)(h4:e.2.1.length<=10000)(h5:¬ jQ e->Q .non H)(h6:jQ e->E (.ref CF) AY H):jx K CF [.ref p] H Q E:=#[p,s,e,rfl,h1,h2,h3,h4,h5,h6]
theorem ql:sQz 1 ["entry"] xu:=by nofun
theorem qo{f CF:sq}(B:Bt mg)(T:zbP K mg CF)(TM:TMo mg)(F:("refuse_beyond"^^^xu)) :(1|||["entry"]) (jx K CF):=by
 obtain⟨⟨t9,g9⟩,⟨t8,g8⟩⟩:=And.intro TM.s TM.d
 exists Fun.okX F ql,0
 ·obtain⟨p,s,e,rfl,hp,hs,ha,hb,q1,q2⟩:=h
  refine#[_,(zi (zK (zy KQ (zA B.len (zo ix_tup (pv 0) zg)) (yv (v:=.int 240) rfl g9 #[t9,rfl]) (zC _))
    (zf (z7 hx rfl T.xi.toXC T.ini rfl T.g (za zS zc)))
    zv)
   (zf (zK (zy KQ (xC (UR rfl) rfl B.max qD (za (zA B.len (zo ix_tup (pv 0) zg)) (za (zA B.len (zo ix_tup (pv 0) zg)) zc))) (yv (v:=.int 60) rfl g8 #[t8,rfl]) (zC _))
    (zf (z7 hx rfl T.xi.toXC T.ini rfl T.g (za zS zc)))
    zv))),?_]
  have s16:=zP
  erw[Is]at hs
  obtain⟨_,zs,e0,hZ,hI⟩:=hs;cases e0;have hzl:=hI.len;rw[ae]at hzl;refine zj (λσ H'=>H'=H/\e.2.2.length<=240/\σ=[!!p]) ?_ ?_
  ·ac_rfl;refine#[_,hp,_,rfl,_,.inl #[_,hZ,rfl],yq (λh=>#[⋯,q2 (.inl ⋯)]) λh=>by lia]
  rintro σ H1 ⟨rfl,h1,rfl⟩:_;right;ac_rfl;refine#[_,hp,_,rfl,_,#[by rw[z6];lia,rfl],_,hp,_,rfl,_,#[by rw[z6];lia,rfl],?_];rw[z6,z6];refine yq (λh=>#[⋯,q2 ?_]) λh=>q1 ?_
  ·unfold jQ;split at h <;> lia
  ·unfold jQ;split at h <;> lia
theorem KY{l:()}{i j:Nat}(hB:BG k l ns bs)(hE:EB l e)(hF:¬ jQ (yN bs e i j)):EB l (yN bs e i j):=by
 unfold jQ at hF;exact#[⋯,⋯,⋯,uW hE.ma hB.mem i,uW hE.mb hB.mem j]
theorem BG.snoc{l:()}{d:Ent}(h:BG k l ns bs)(hn:bs.length+1<64)(hd:EB l d)(hne:d.1≠d.2.1):BG k l ns (bs ++ [yo k l ns d]):=by
 refine#[by rw[aj];exact hn,λe he=>?_,λe he=>?_]
 ·rcases Bh.mp he with he | he
  ·exact h.e e he
  ·rw[Bj.mp he];exact hd.rule
 ·rcases Bh.mp he with he | he
  ·exact h.lt e he
  ·rw[Bj.mp he];exact jJ hd hne
theorem JN{CF a p s:sq}{l:()}(h1:OG l ns k)(h2:Is K H (.lst (bs.map dE)) (.ref a))(h3:BG k l ns bs)(h4:SqT K H p [.str (tx e.1),.str (tx e.2.1),.ref s])(h5:LsA K H s (e.2.2.map dSt))(h6:EB l e)
  (q1:∀i j H',zE (zb bs) e.1 i->zE (zb bs) e.2.1 j->wAt (zb bs) e.1 i=wAt (zb bs) e.2.1 j->Same H H'->Q .non H')
  (q2:∀i j p' s' H',zE (zb bs) e.1 i->zE (zb bs) e.2.1 j->wAt (zb bs) e.1 i≠wAt (zb bs) e.2.1 j->Same H H'->H s'=AY->H' p'=AX (.tup [.str (tx (yN bs e i j).1),.str (tx (yN bs e i j).2.1),.ref s'])->LsA K H' s' ((yN bs e i j).2.2.map dSt)->Q (.ref p') H')
  (q3:(∀i,¬ zE (zb bs) e.1 i)\/(∀j,¬ zE (zb bs) e.2.1 j)->∀H',Same H H'->E (.ref CF) AY H'):Xc K CF [.ref a,.ref p] H Q E:=#[a,p,s,k,l,ns,bs,e,rfl,h1,h2,h3,h4,h5,h6,q1,q2,q3]
theorem Ky{l:()}{i j:Nat}(hB:BG k l ns bs)(hG:OG l ns k)(hE:EB l e)(hi:i<=40)(hj:j<=40):(yN bs e i j).1.length<=10000/\(yN bs e i j).2.1.length<=10000:=by
 have h1:=qL (l:=e.1) (m:=60) (hB.ne hG) (λp hp=>(hB.le p hp).2) i;have h2:=qL (l:=e.2.1) (m:=60) (hB.ne hG) (λp hp=>(hB.le p hp).2) j;have h3:=hE.a;have h4:=hE.b;show (wAt (zb bs) e.1 i).length<=10000/\(wAt (zb bs) e.2.1 j).length<=10000;lia
def ZU(K:so)(CO CR CW CF:sq):Sp:=λvs H Q E=>∃(o a:sq) (k:Nat) (l:()) (ns:List Int) (zs:List Ent),vs=[.ref o,.ref a]/\OrdAt CO CR CW H o k l ns/\OG l ns k/\EnsL K H a zs/\zs.length<64/\(∀e ∈ zs,EB l e) /\
 (∀(bs:List Ent) (D:sq) (H':Hp),xt k l ns [] zs (AX bs)->BG k l ns bs->Same H H'->H D=AY->EnsM K H' D bs->Q (.ref D) H')/\(xt k l ns [] zs AY->∀H',Same H H'->E (.ref CF) AY H')
theorem QH{CO CR CW CF o a:sq}{l:()}{zs:List Ent}(h1:OrdAt CO CR CW H o k l ns)(h2:OG l ns k)(h3:EnsL K H a zs)(h4:zs.length<64)(h5:∀e ∈ zs,EB l e)
  (q1:∀(bs:List Ent) (D:sq) (H':Hp),xt k l ns [] zs (AX bs)->BG k l ns bs->Same H H'->H D=AY->EnsM K H' D bs->Q (.ref D) H') (q2:xt k l ns [] zs AY->∀H',Same H H'->E (.ref CF) AY H'):ZU K CO CR CW CF [.ref o,.ref a] H Q E:=#[o,a,k,l,ns,zs,rfl,h1,h2,h3,h4,h5,q1,q2]
def zfS(K:so)(H1 H':Hp)(bs:List Ent)(e:Ent)(v:V):Prop:=∃i j,zE (zb bs) e.1 i/\zE (zb bs) e.2.1 j/\((wAt (zb bs) e.1 i=wAt (zb bs) e.2.1 j/\v=.non) \/
 (wAt (zb bs) e.1 i≠wAt (zb bs) e.2.1 j/\∃p s:sq,v=.ref p/\H1 s=AY/\H' p=AX (.tup [.str (tx (yN bs e i j).1),.str (tx (yN bs e i j).2.1),.ref s])/\LsA K H' s ((yN bs e i j).2.2.map dSt)))
def ze8(K:so)(H:Hp)(D:sq)(k:Nat)(l:())(ns:List Int)(zs:List Ent)(i:Nat)(H':Hp):Prop:=∃(bs:List Ent) (Bd:List V),Same H H'/\H' D=AX (.lst Bd)/\EnsA K (ka D H') bs Bd/\BG k l ns bs/\bs.length<=i/\∀r,xt k l ns bs (zs.drop i) r->xt k l ns [] zs r
theorem iI:sQz 2 ["order","entries","built","entry","lower"] va:=by nofun
theorem Zl{f CO CR CW CF:sq}(B:Bt mg)(F:("built_anew"^^^va))(pB:(5>>>"brought_down") ["entries","entry"] [] (Xc K CF))(oX:(1>>>"refuse_beyond") ["entry"] [] (jx K CF))(nI:(4<<<"as_rule") ["order","entry"] [] (w8 K CO CR CW)):(6|||["order","entries"]) (ZU K CO CR CW CF):=by
 exists Fun.okX F iI,0
 ·obtain⟨o,a,k,l,ns,zs,rfl,ho,hG,hA,hz,hE,q1,q2⟩:=h
  refine#[_,(zi (zD 2 iI.nd (wy zc))
   (zi (zW PassesOwn.leaving rfl (yj (pv 1)) (zx (i:=3) iI.nd rfl (.inl rfl))
    (zi (zD 4 iI.nd (clP hx pB hr .nil rfl (za (pv 2) (za (pv 3) zc))))
    (zf (zK (zy op_notN' (pv 4) yd (zC _))
     (zi (xL (clP hx oX hr .nil rfl (za (pv 4) zc)))
     (zf (xL (uM bz bO bP xq (pv 2) (za (cl0 nI hr .nil rfl (za (pv 0) (za (pv 4) zc))) zc)))))
     zv))))
   (zf (zl (pv 2))))),?_]
  have s16:=zP;obtain⟨xs,hX,hI⟩:=id hA;have hxl:=hI.len;refine zj (λσ H'=>Same H H'/\∃D:sq,H D=AY/\H' D=AX (.lst [])/\σ=[!!o,!!a,!!D,AY,AY]) ?_ ?_
  ·ac_rfl;exact#[⋯,λp hp=>#[ze hp,p,hp,zd,rfl]]
  rintro σ H0 ⟨s0,D,hD,hD0,rfl⟩:_;right;refine zj (λσ H'=>ze8 K H D k l ns zs zs.length H'/\∃(v3 v4:Option V),σ=[!!o,!!a,!!D,v3,v4]) ?_ ?_
  ·ac_rfl;refine#[#[_,s0.seq hX],ForL.by (xs:=xs) (λi σ H'=>ze8 K H D k l ns zs i H'/\∃(v3 v4:Option V),σ=[!!o,!!a,!!D,v3,v4]) #[#[[],[],s0,hD0,by erw[EnsA],#[∅,λe he=>(nomatch he),λe he=>(nomatch he)],al _,λr h=>h],AY,AY,rfl] (λi σ H' _ ⟨⟨_,_,h,_⟩,_⟩=>h.seq hX) ?_ ?_]
   ·refine nm4 ?_;rintro i x σ H1 hx ⟨⟨bs,Bd,s1,hH1,hI1,hB,hbi,hr⟩,v3,v4,rfl⟩:_;have hix:=(Be.mp hx).1;obtain⟨e,pe,se,hei,rfl,hqe,hse⟩:=hI.get hx;have hEe:=hE e (ag hei)
    have hdrop:zs.drop i=e::zs.drop (i+1):=by
     obtain⟨h1,h2⟩:=Be.mp hei;rw[aS h1,h2]
    rw[hdrop]at hr;have hal:=hI1.len;have hbn:=hB.n
    have hIs:Is K H1 (.lst (bs.map dE)) (.ref D):=by
     erw[Is]
     exact#[D,Bd,rfl,SqL.of hH1,(hI1.same wZ).iss]
    right
    erw[yy,aV,aU]
    refine zj (λσ H'=>Same H1 H'/\∃v:V,zfS K H1 H' bs e v/\σ=[!!o,!!a,!!D,!!pe,AX (v)]) ?_ ?_
    ·ac_rfl;exact JN hG hIs hB (zq s1 hqe) (hse.same s1) hEe (λi' j' H' a1 a2 a3 s'=>#[s',i',j',a1,a2,.inl #[a3,rfl]]) (λi' j' p' s' H' a1 a2 a3 t' a4 a5 a6=>#[t',i',j',a1,a2,.inr #[a3,p',s',rfl,a4,a5,a6]]) λh H' s'=>q2 (hr _ (.stuck h)) H' (s1.trans s')
    rintro σ H2 ⟨s2,v,⟨i',j',hi',hj',hc⟩,rfl⟩:_;right;rcases hc with ⟨hw,rfl⟩ | ⟨hw,p',s',rfl,hsn,hp',hL'⟩
    ·ac_rfl;exact#[bs,Bd,s1.trans s2,s2 _ _ hH1,hI1.same (wM s2),hB,⋯,λr h=>hr r (.same hi' hj' hw h)]
    ·ac_rfl
     try rw[if_pos not_false]
     have hdl:=Ky hB hG hEe hi'.most hj'.most;refine zj (λσ H'=>H'=H2/\¬ jQ (yN bs e i' j')/\σ=[!!o,!!a,!!D,!!pe,!!p']) ?_ ?_
     ·ac_rfl;exact VN (SqT.of hp') hL'.is hdl.1 hdl.2 (λh=>#[rfl,h]) λh=>q2 (hr _ (.far hi' hj' hw h)) H2 (s1.trans s2)
     rintro σ H3 ⟨rfl,hF,rfl⟩:_;have hEd:=KY hB hEe hF;have hH3:=s2 _ _ hH1
     have fin:∀(v:V) (H4:Hp),Same H3 H4->EnA K (ka D H4) (yo k l ns (yN bs e i' j')) v->ze8 K H D k l ns zs (i+1) (upd H4 D (.lst (Bd ++ [v]))):=λv H4 s4 hv=>by
      refine#[bs ++ [yo k l ns (yN bs e i' j')],Bd ++ [v],zJ (s1.trans (s2.trans s4)) hD,zd,?_,hB.snoc ⋯ hEd hw,by rw[aj];show bs.length+1<=i+1;lia,λr h=>hr r (.new hi' hj' hw hF h)];exact (hI1.same ((wM (s2.trans s4)).trans xB)).snoc (hv.same xB)
     right;ac_rfl;refine#[.inl #[_,SqL.of hH3],kh (ho.same (s1.trans s2)) hG (SqT.of hp') hL'.is hEd (λer H4 s4=>#[Bd,s4 _ _ hH3,⋯,fin _ _ s4 ?_]) λp2 t2 H4 s4 htn hp2 hL2=>#[Bd,s4 _ _ hH3,⋯,fin _ _ s4 ?_]]
     ·rw[er];exact EnA.new (s4 _ _ hH3) (s4 _ _ hp') (hL'.same s4) (λz=>by rw[z,hH1]at hsn;cases hsn)
     ·exact EnA.new (s4 _ _ hH3) hp2 hL2 (λz=>by rw[z,hH3]at htn;cases htn)
   ·rintro σ H' ⟨h,v3,v4,rfl⟩;rw[hxl]at h;exact#[h,_,_,rfl]
  rintro σ H2 ⟨⟨bs,Bd,s2,hH2,hI2,hB,hbi,hr⟩,v3,v4,rfl⟩:_;rw[eG]at hr;right;ac_rfl;exact q1 bs D H2 (hr _ (.nil bs)) hB s2 hD #[Bd,hH2,hI2.same wZ]
theorem Kb(rs ss:List zp):uC (rs.map dR) (ss.map dR)=decide (rs=ss):=by
 induction rs generalizing ss with
 | nil=>cases ss with
  | nil=>simp [uC]
  | cons s ss=>simp [uC]
 | cons r rs ih=>cases ss with
  | nil=>simp [uC]
  | cons s ss =>
   rw[au,au,uC,ih]
   have h:eqD (dR r) (dR s)=decide (r=s):=by
    obtain⟨a,b⟩:=r;obtain⟨c,d⟩:=s
    have e1:∀x y:(),eqD (dS x) (dS y)=decide (x=y):=λx y=>by
     have:eqD (dS x) (dS y)=decide (tx x=tx y):=by erw[dS,eqD];rfl
     rw[this];exact decide_eq_decide.mpr #[jO,λh=>by rw[h]]
    erw[dR,eqD,uC,e1]
    by_cases h1:a=c <;> by_cases h2:b=d <;> simp [h1,h2]
   rw[h];by_cases h1:r=s <;> by_cases h2:rs=ss <;> simp [h1,h2]
theorem Lined.eb{l:()}{es zs:List Ent}(h:Lined k l ns es zs)(hE:∀e ∈ es,EB l e):∀e ∈ zs,EB l e:=λe he=>by
 have hm:=h.perm.mem_iff.mp he;unfold qy at hm;obtain⟨y,hy,rfl⟩:=Bf.mp hm;exact (hE y (Bm.mp hy).1).rule
theorem Lined.len{l:()}{es zs:List Ent}(h:Lined k l ns es zs):zs.length<=es.length:=by
 rw[h.perm.length_eq];exact YY k l ns es
def Jk(K:so)(CO CR CW T CF:sq):Sp:=λvs H Q E=>∃(o a:sq) (k:Nat) (l:()) (ns:List Int) (es:List Ent),vs=[.ref o,.ref a]/\OrdAt CO CR CW H o k l ns/\OG l ns k/\EnsL K H a es/\es.length<64/\(∀e ∈ es,EB l e)/\TabOk H T lp lq /\
 (∀(bs:List Ent) (D:sq) (H':Hp),uE k l ns 20 es (AX bs)->BG k l ns bs->SamT T H H'->TabOk H' T lp lq->EnsM K H' D bs->Q (.ref D) H')/\(uE k l ns 20 es AY->∀H',SamT T H H'->TabOk H' T lp lq->E (.ref CF) AY H')
def zga(K:so)(T:sq)(H:Hp)(k:Nat)(l:())(ns:List Int)(es:List Ent)(n:Nat)(H':Hp)(b:sq):Prop:=∃fs:List Ent,SamT T H H'/\TabOk H' T lp lq/\(∀r,uE k l ns n fs r->uE k l ns 20 es r)/\EnsL K H' b fs/\fs.length<64/\∀e ∈ fs,EB l e
theorem ml:sQz 2 ["order","entries","turn","lined_up"] qM:=by nofun
theorem Vy{f CO CR CW TB CF:sq}(B:Bt mg)(T:zbP K mg CF)(TM:TMo mg)(F:("thinned"^^^qM))(rA:(6<<<"in_order") ["order","entries"] [] (ZE K CO CR CW TB))(pW:(6>>>"built_anew") ["order","entries"] [] (ZU K CO CR CW CF))(gq:(1<<<"pairs_of") ["entries"] [] (x0 K)):(7|||["order","entries"]) (Jk K CO CR CW TB CF):=by
 obtain⟨t9,g9⟩:=TM.p
 exists Fun.okX F ml,0
 ·obtain⟨o,a,k,l,ns,es,rfl,ho,hG,hA,hz,hE,hTab,q1,q2⟩:=h
  refine#[_,(zi (zW PassesOwn.leaving rfl (yk rfl B.range (za (yv (v:=.int 20) rfl g9 #[t9,rfl]) zc)) (zx (i:=2) ml.nd rfl (.inl rfl))
    (zi (zD 3 ml.nd (cl0 rA hr .nil rfl (za (pv 0) (za (pv 1) zc))))
    (zi (zD 1 ml.nd (clP hx pW hr .nil rfl (za (pv 0) (za (pv 3) zc))))
    (zf (zK (zy (zaG (uS hr)) (cl0 gq hr .nil rfl (za (pv 1) zc)) (cl0 gq hr .nil rfl (za (pv 3) zc)) (zC _))
     (zf (zl (pv 1)))
     zv)))))
   (zf (z7 hx rfl T.xi.toXC T.ini rfl T.g (za zS zc)))),?_]
  have s16:=zP;obtain⟨ps0,hps0,_⟩:=id hTab;refine zj (λσ H'=>∃b:sq,zga K TB H k l ns es 0 H' b) ?_ ?_
  ·ac_rfl;refine#[⋯,⋯,ForR.by (λi σ H'=>∃(b:sq) (v2 v3:Option V),zga K TB H k l ns es (20 - i) H' b/\σ=[!!o,!!b,v2,v3]) #[a,AY,AY,#[es,SamT.of (Same.refl _),hTab,λr h=>h,hA,hz,hE],rfl] ?_ ?_]
   ·refine nm3 ?_;rintro i σ H1 hi ⟨b,v2,v3,⟨fs,s1,hT1,hr,hF,hfl,hFE⟩,rfl⟩:_;have ho1:=ho.samT s1 hps0;have hi20:i<20:=hi;obtain⟨n,hn⟩:∃n,20 - i=n+1:=#[20 - i - 1,⋯];rw[hn]at hr;right
    erw[yy,aV,aU]
    refine zj (λσ H'=>SamT TB H1 H'/\TabOk H' TB lp lq/\∃(z:sq),(∃zs:List Ent,Lined k l ns fs zs/\EnsM K H' z zs)/\∃v2,σ=[!!o,!!b,v2,!!z]) ?_ ?_
    ·ac_rfl;exact UK ho1 hG hF hfl hFE hT1 λD zs H' s' hT' _ hLn hM=>#[s',hT',D,#[zs,hLn,hM],rfl]
    rintro σ H2 ⟨s2,hT2,z,⟨zs,hLn,hZ⟩,v2,rfl⟩:_;have s12:=s1.trans s2;have ho2:=ho.samT s12 hps0;have hzE:=hLn.eb hFE;have hzl:=hLn.len;right;refine zj (λσ H'=>Same H2 H'/\∃(c:sq),(∃bs:List Ent,xt k l ns [] zs (AX bs)/\BG k l ns bs/\EnsM K H' c bs)/\σ=[!!o,!!c,v2,!!z]) ?_ ?_
    ·ac_rfl;exact QH ho2 hG hZ.l ⋯ hzE (λbs D H' hb hB s' _ hM=>#[s',D,#[bs,hb,hB,hM],rfl]) λhb H' s'=>q2 (hr _ (.bad hLn hb)) H' (s12.trans (SamT.of s')) (hT2.same s')
    rintro σ H3 ⟨s3,c,⟨bs,hb,hB,hM⟩,rfl⟩:_;have hbn:=hB.n;right;ac_rfl;refine xS hM.l.is ⋯ λP1 H4 _ s4 hP1=>xS ((hZ.same s3).same s4).l.is ⋯ λP2 H5 _ s5 hP2=>V7 (.inl #[(hP1.same s5).is,hP2.is]) (cf (zdi _) ∅) ?_;rw[Kb];have s45:=s4.trans s5;have s15:=s12.trans (SamT.of (s3.trans s45));have hT5:=hT2.same (s3.trans s45);refine#[_,rfl,yq (λh=>?_) λh=>?_]
    ·exact q1 bs c H5 (hr _ (.done hLn hb (of_decide_eq_true h))) hB s15 hT5 (hM.same s45)
    ·have e:20 - (i+1)=n:=⋯;rw[e];exact#[bs,s15,hT5,λr h'=>hr r (.more hLn hb (λz=>h (decide_eq_true z)) h'),(hM.same s45).l,hbn,hB.e]
   ·rintro σ H' ⟨b,v2,v3,h,rfl⟩;exact#[b,h]
  rintro σ H2 ⟨b,fs,s2,hT2,hr,_⟩:_;right;ac_rfl;exact#[⋯,q2 (hr _ (.out fs)) H2 s2 hT2]
def ZJ(K:so):Sp:=λvs H Q _=>∃(a:sq) (ns:List Int) (k:Int),vs=[.ref a,.int k]/\SqL K H a (ns.map V.int)/\(∀z ∈ ns,uD z)/\0<=k/\∀c:Int,uD c->Q (.int c) H
theorem wq{a:sq}{k:Int}(hS:SqL K H a (ns.map V.int))(hB:∀z ∈ ns,uD z)(hk:0<=k)(h:∀c:Int,uD c->Q (.int c) H):ZJ K [.ref a,.int k] H Q E:=#[a,ns,k,rfl,hS,hB,hk,h]
theorem zbL:sQz 2 ["_law_script","_law_k"] V0:=by nofun
theorem zbw(B:Bt mg)(F:("_law_cell"^^^V0)) :(1&&&["_law_script","_law_k"]) (ZJ K):=by
 exists F.ok zbL
 ·obtain⟨a,ns,k,rfl,hS,hB,hk,q⟩:=h
  refine#[_,(zI (zK (zy Vt (pv 1) (zA B.len (pv 0)) (zC _))
    (zf (zl (zo za3 (pv 0) (pv 1))))
    zv)
   (zf (zl zg))),?_]
  have s16:=zP
  rfl'
  refine#[_,.inl #[_,hS,rfl],yq (λc=>?_) (λc=>q 0 (by unfold uD;decide))];obtain⟨v,h1,h2⟩:=qf hk c;rw[aq]at h2;obtain⟨z,hz,rfl⟩:=Bk.mp h2;exact .inl #[_,hS,_,h1,q z (hB z (ag hz))]
def we:Sp:=λvs H Q _=>∃(c t:Int),vs=[.int c,.int t]/\uD c/\0<=t/\t<=100/\∀z:Int,0<=z->Q (.int z) H
theorem xo{c t:Int}(hc:uD c)(h0:0<=t)(h1:t<=100)(q:∀z:Int,0<=z->Q (.int z) H):we [.int c,.int t] H Q E:=#[c,t,rfl,hc,h0,h1,q]
theorem ni:sQz 2 ["_law_cell_here","_law_turn","_law_step","_law_number"] YW:=by nofun
theorem K1(B:Bt mg)(F:("_law_mixed"^^^YW)) :(1&&&["_law_cell_here","_law_turn"]) we:=by
 exists F.ok ni
 ·obtain⟨c,t,rfl,hc,h0,h1,q⟩:=h
  refine#[_,(zi (zK (zy op_ge' (pv 0) (zB UD zg zg) (zC _))
    (zi (zW PassesOwn.never rfl (yk rfl B.range (za (zB yu zg (zB yL (pv 1) zg)) zc)) (zx (i:=2) ni.nd rfl (.inl rfl))
     (zf (zD 0 ni.nd (zB xa (pv 0) (zB UD zg zg)))))
    (zf (zl (zB yL (pv 0) (zB UD zg zg)))))
    zv)
   (zi (zD 3 ni.nd (zB yu (zB jw (zB J0 (pv 0) (pv 0)) zg) (zB jw (zB jw (pv 0) zg) (zB yu (pv 1) zg))))
   (zf (zl (zB xa (zB yL (zB jw (zB yL (zB yu (pv 3) (zB jw (pv 1) zg)) zg) zg) zg) zg))))),?_]
  have s16:=zP;have c6:zfK 10 6:=#[∅,∅,∅];have c12:zfK 10 12:=#[∅,∅,∅];have p6:(0:Int)<10 ^ Int.toNat 6/\(10:Int) ^ Int.toNat 6<1073741824:=∅;refine zj (λσ H'=>H'=H/\σ=[~~~!c,~~~!t,AY,AY]) ?_ ?_
  ·rfl'
   refine#[c12,yq (λ_=>?_) (λ_=>trivial)];refine zj (λσ H'=>H'=H/\∃(z:Int) (v:Option V),σ=[~~~!z,~~~!t,v,AY]) ?_ ?_
   ·rfl'
    have e1:=ba t (b:=9) ∅;have e2:=aZ t (b:=9) ∅;refine#[∅,⋯,⋯,ForR.by (λi σ H'=>H'=H/\∃(z:Int) (v:Option V),σ=[~~~!z,~~~!t,v,AY]) #[rfl,_,_,rfl] ?_ λσ H' h=>h];refine nm3 ?_;rintro i σ H' hi ⟨rfl,z,v,rfl⟩:_;right
    rfl'
    exact#[c6,p6.1,p6.2]
   rintro σ H1 ⟨rfl,z,v,rfl⟩:_;right
   rfl'
   exact#[c6,p6.1,q _ (ba _ (by have:=p6.1;lia))]
  rintro σ H1 ⟨rfl,rfl⟩:_;right;refine zj (λσ H'=>H'=H1/\∃z:Int,σ=[~~~!c,~~~!t,AY,~~~!z]) ?_ ?_
  ·rfl'
   exact#[hc,hc,.inr #[∅,∅],.inr #[∅,∅],.inr #[⋯,⋯]]
  rintro σ H2 ⟨rfl,z,rfl⟩:_;right
  rfl'
  exact#[.inr #[∅,∅],∅,.inr #[∅,∅],∅,#[∅,∅],q _ (Int.ediv_nonneg (ba _ ∅) ∅)]
def uL:Sp:=λvs H Q _=>∃c m:Int,vs=[.int c,.int m]/\uD c/\0<=m/\m<=26/\∀l:(),(l.length:Int)=m->l.Nodup->small l->Q (.str (tx l)) H
theorem Xk{c m:Int}(h:uD c)(h0:0<=m)(h1:m<=26)(q:∀l:(),(l.length:Int)=m->l.Nodup->small l->Q (.str (tx l)) H):uL [.int c,.int m] H Q E:=#[c,m,rfl,h,h0,h1,q]
def zf6(c m:Int)(i:Nat)(σ:L2.St):Prop:=∃(left found:()) (number:Int) (v5 v6:Option V),found.length=i/\(found ++ left).Perm alpha/\σ=[~~~!c,~~~!m,~~~left,~~~!number,~~~found,v5,v6]
theorem gx:sQz 2 ["_law_cell_here","_law_many","_law_left","_law_number","_law_letters_here","_law_k","_law_at"] qP:=by nofun
theorem VE(B:Bt mg)(F:("_law_letters"^^^qP))(gF:(1<<<"_law_mixed") ["_law_cell_here","_law_turn"] [] we):(2&&&["_law_cell_here","_law_many"]) uL:=by
 exists F.ok gx
 ·obtain⟨c,m,rfl,hc,h0,h1,q⟩:=h
  refine#[_,(zi (zD 2 gx.nd zS)
   (zi (zD 3 gx.nd (cl0 gF hr .nil rfl (za (pv 0) (za zg zc))))
   (zi (zD 4 gx.nd zS)
   (zi (zW PassesOwn.never rfl (yk rfl B.range (za (pv 1) zc)) (zx (i:=5) gx.nd rfl (.inl rfl))
    (zi (zD 6 gx.nd (zB yL (pv 3) (zA B.len (pv 2))))
    (zi (zD 3 gx.nd (zB xa (pv 3) (zA B.len (pv 2))))
    (zi (zD 4 gx.nd (zB yw (pv 4) (zo QT (pv 2) (pv 6))))
    (zf (zD 2 gx.nd (zB yw (ya wA (pv 2) xJ (zY (pv 6))) (ya wA (pv 2) (zY (zB yu (pv 6) zg)) xJ))))))))
   (zf (zl (pv 4))))))),?_]
  have s16:=zP;have ha:alpha.length=26:=rfl;refine zj (λσ H'=>H'=H/\σ=[~~~!c,~~~!m,~~~alpha,AY,AY,AY,AY]) ?_ ?_
  ·rfl'
   exact Ji
  rintro σ H1 ⟨rfl,rfl⟩:_;right;refine zj (λσ H'=>H'=H1/\∃z:Int,σ=[~~~!c,~~~!m,~~~alpha,~~~!z,AY,AY,AY]) ?_ ?_
  ·rfl'
   exact xo hc ∅ ∅ λz _=>#[rfl,z,rfl]
  rintro σ H2 ⟨rfl,z,rfl⟩:_;right;refine zj (λσ H'=>H'=H2/\σ=[~~~!c,~~~!m,~~~alpha,~~~!z,AX (.str (tx [])),AY,AY]) ?_ ?_
  ·rfl'
   rfl
  rintro σ H3 ⟨rfl,rfl⟩:_;right;refine zj (λσ H'=>H'=H3/\zf6 c m m.toNat σ) ?_ ?_
  ·rfl'
   refine#[⋯,⋯,ForR.by (λi σ H'=>H'=H3/\zf6 c m i σ) #[rfl,alpha,[],z,AY,AY,rfl,.refl _,rfl] ?_ λσ H' h=>h];refine nm3 ?_;rintro i σ H' hi ⟨rfl,left,found,number,v5,v6,hf,hp,rfl⟩:_;have hpl:=hp.length_eq;rw[aj]at hpl;have hl:left.length+i=26:=⋯;have hm0:=ba number (b:=(left.length:Int)) ⋯;have hm1:=aZ number (b:=(left.length:Int)) ⋯;right;generalize hz:number % (left.length:Int)=at_ at hm0 hm1;obtain⟨v,e1,e2⟩:=qf hm0 hm1
   erw[yy,aV,aU]
   refine zj (λσ H''=>H''=H'/\∃v5,σ=[~~~!c,~~~!m,~~~left,~~~!number,~~~found,v5,~~~!at_]) ?_ ?_
   ·rfl'
    exact#[⋯,⋯,hz]
   rintro σ G1 ⟨rfl,v5',rfl⟩:_;right;refine zj (λσ H''=>H''=G1/\∃n v5,σ=[~~~!c,~~~!m,~~~left,~~~!n,~~~found,v5,~~~!at_]) ?_ ?_
   ·rfl'
    exact#[⋯,#[⋯,⋯]]
   rintro σ G2 ⟨rfl,n,v5',rfl⟩:_;right;refine zj (λσ H''=>H''=G2/\∃v5,σ=[~~~!c,~~~!m,~~~left,~~~!n,AX (.str (tx (found ++ [v]))),v5,~~~!at_]) ?_ ?_
   ·rfl'
    exact#[⋯,v,e1,⋯,rfl]
   rintro σ G3 ⟨rfl,v5',rfl⟩:_;have hc1:=wN left AY (AX at_);have hc2:=wN left (AX (at_+1)) AY;right
   rfl'
   refine#[⋯,⋯,⋯,_,_,_,_,_,by rw[aj,hf];rfl,?_,rfl];rw[Ya _ hm0,qH _ ⋯,ar];have e3:(at_+1).toNat=at_.toNat+1:=⋯;rw[e3];exact ((U7 e2).append_left found).trans hp
  rintro σ H4 ⟨rfl,left,found,number,v5,v6,hf,hp,rfl⟩:_;right
  rfl'
  have hnd:(found ++ left).Nodup:=hp.nodup_iff.mpr ∅;refine q found ⋯ (List.nodup_append.mp hnd).1 λc hc=>?_;have h:c ∈ alpha:=hp.mem_iff.mp (bn _ hc);exact (by decide:∀c ∈ alpha,97<=c/\c<=122) c h
def ZV:Sp:=λvs H Q _=>∃(ls:()) (c m:Int),vs=[.int c,.str (tx ls),.int m]/\0<=c/\1<=ls.length/\ls.length<=26/\0<=m/\m<=100/\∀l:(),(l.length:Int)<=m->(∀x ∈ l,x ∈ ls)->Q (.str (tx l)) H
theorem qv{ls:()}{c m:Int}(h0:0<=c)(h1:1<=ls.length)(h2:ls.length<=26)(h3:0<=m)(h4:m<=100)(h:∀l:(),(l.length:Int)<=m->(∀x ∈ l,x ∈ ls)->Q (.str (tx l)) H):ZV [.int c,.str (tx ls),.int m] H Q E :=
 #[ls,c,m,rfl,h0,h1,h2,h3,h4,h]
theorem lr:sQz 3 ["_law_number","_law_letters_here","_law_most","_law_size","_law_word_here","_law_k"] V8:=by nofun
theorem zca(B:Bt mg)(F:("_law_word"^^^V8)) :(1&&&["_law_number","_law_letters_here","_law_most"]) ZV:=by
 exists F.ok lr
 ·obtain⟨ls,c,m,rfl,h0,h1,h2,h3,h4,q⟩:=h
  refine#[_,(zI (zD 3 lr.nd (zB yL (pv 0) (zB yu (pv 2) zg)))
   (zI (zD 0 lr.nd (zB xa (pv 0) (zB yu (pv 2) zg)))
   (zI (zD 4 lr.nd zS)
   (zI (zW PassesOwn.never rfl (yk rfl B.range (za (pv 3) zc)) (zx (i:=5) lr.nd rfl (.inl rfl))
    (zI (zD 4 lr.nd (zB yw (pv 4) (zo QT (pv 1) (zB yL (pv 0) (zA B.len (pv 1))))))
    (zf (zD 0 lr.nd (zB xa (pv 0) (zA B.len (pv 1)))))))
   (zf (zl (pv 4))))))),?_]
  have s16:=zP
  rfl'
  have m0:=ba c (b:=m+1) ⋯;have m1:=aZ c (b:=m+1) ⋯
  refine#[⋯,#[⋯,⋯],⋯,⋯,ForR.by (λi σ H'=>H'=H/\∃(found:()) (number:Int) (v5:Option V),σ=[~~~!number,~~~ls,~~~!m,AX (.int (c % (m+1))),~~~found,v5]/\found.length=i/\∀x ∈ found,x ∈ ls)
   #[rfl,[],_,AY,rfl,rfl,λx h=>(nomatch h)] ?_ ?_]
  ·rintro i σ H' hi ⟨rfl,found,number,v5,rfl,hf,hm⟩
   rfl'
   have hm0:=ba number (b:=(ls.length:Int)) ⋯;have hm1:=aZ number (b:=(ls.length:Int)) ⋯;obtain⟨v,e1,e2⟩:=qf hm0 hm1
   repeat (refine And.intro (by first | lia | decide | exact#[⋯,⋯] | assumption) ?_)
   refine#[v,e1,?_]
   repeat (refine And.intro (by first | lia | decide | exact#[⋯,⋯] | assumption) ?_)
   refine#[by rw[aj,hf];rfl,λx hx=>?_];rcases Bh.mp hx with h | h
   ·exact hm x h
   ·rw[Bj.mp h];exact ag e2
  ·rintro σ H' ⟨rfl,found,number,v5,rfl,hf,hm⟩
   rfl'
   exact q found ⋯ hm
def Zt:Sp:=λvs H Q _=>∃(ls:()) (c m:Int),vs=[.int c,.str (tx ls),.int m]/\uD c/\1<=ls.length/\ls.length<=26/\0<=m/\m<=100/\∀(o n:()) (p:sq),(o.length:Int)<=m->(n.length:Int)<=m->(∀x ∈ o,x ∈ ls)->(∀x ∈ n,x ∈ ls)->H p=AY->Q (.ref p) (upd H p (.tup [.str (tx o),.str (tx n)]))
theorem Kv{ls:()}{c m:Int}(h0:uD c)(h1:1<=ls.length)(h2:ls.length<=26)(h3:0<=m)(h4:m<=100)(h:∀(o n:()) (p:sq),(o.length:Int)<=m->(n.length:Int)<=m->(∀x ∈ o,x ∈ ls)->(∀x ∈ n,x ∈ ls)->H p=AY->Q (.ref p) (upd H p (.tup [.str (tx o),.str (tx n)]))):Zt [.int c,.str (tx ls),.int m] H Q E:=#[ls,c,m,rfl,h0,h1,h2,h3,h4,h]
theorem zcf:sQz 3 ["_law_cell_here","_law_letters_here","_law_most"] QW:=by nofun
theorem zcE(B:Bt mg)(F:("_law_pair"^^^QW))(nJ:(1<<<"_law_word") ["_law_number","_law_letters_here","_law_most"] [] ZV)(gF:(1<<<"_law_mixed") ["_law_cell_here","_law_turn"] [] we):(2&&&["_law_cell_here","_law_letters_here","_law_most"]) Zt:=by
 exists F.ok zcf
 ·obtain⟨ls,c,m,rfl,hc,h1,h2,h3,h4,q⟩:=h;refine#[_,(zf (zl (zR (za (cl0 nJ hr .nil rfl (za (cl0 gF hr .nil rfl (za (pv 0) (za zg zc))) (za (pv 1) (za (pv 2) zc)))) (za (cl0 nJ hr .nil rfl (za (cl0 gF hr .nil rfl (za (pv 0) (za zg zc))) (za (pv 1) (za (pv 2) zc)))) zc))))),?_];have s16:=zP
  rfl'
  exact xo hc ∅ ∅ λz hz=>qv hz h1 h2 h3 h4 λo ho mo=>xo hc ∅ ∅ λz hz=>qv hz h1 h2 h3 h4 λn hn mn=>#[⋯,λp hp=>q o n p ho hn mo mn hp]
structure zgC(K:so):Prop where
 ii:aO K (.type "int") (.type "int")=AX AZ
 ib:aO K (.type "int") (.type "bool")=AX Ba
def ut:Sp:=λvs H Q _=>∃i:Int,vs=[.int i]/\Q (.bl AZ) H
theorem qV{i:Int}(h:Q (.bl AZ) H):ut [.int i] H Q E:=#[i,rfl,h]
theorem JZ:sQz 1 ["_law_found"] YX:=by nofun
theorem KD(B:Bt mg)(T:zgC K)(F:("_law_whole"^^^YX)):(1&&&["_law_found"]) ut:=by
 exists F.ok JZ
 ·obtain⟨i,rfl,q⟩:=h;refine#[_,(zf (zl (km (yB rfl B.isi (pv 0) rfl B.int PySem.Pv.boot_int) (jt (zaR (yB rfl B.isi (pv 0) rfl B.bool PySem.Pv.boot_bool)))))),?_]
  rfl'
  exact#[_,.inl (.int _),AZ,T.ii,zfL #[_,.inl (.int _),Ba,T.ib,q]]
structure TLs(K:so):Prop where
 ll:aO K (.type "list") (.type "list")=AX AZ
 tt:aO K (.type "tuple") (.type "tuple")=AX AZ
 bb:aO K (.type "bool") (.type "bool")=AX AZ
def Ze(K:so):Sp:=λvs H Q _=>∃(t:sq) (ss:List Stp),vs=[.ref t]/\Is K H (.lst (ss.map dSt)) (.ref t)/\Q (.bl AZ) H
theorem pX:sQz 1 ["_law_found","_law_step"] Xa:=by nofun
theorem KH(B:Bt mg)(T:TLs K)(F:("_law_steps"^^^Xa))(oh:(1<<<"_law_whole") ["_law_found"] [] ut):(2&&&["_law_found"]) (Ze K):=by
 exists F.ok pX
 ·obtain⟨t,ss,rfl,hT,q⟩:=h
  refine#[_,(zi (zK (zU (yE (yB rfl B.isi (pv 0) rfl B.list PySem.Pv.boot_list) (λ_=>rfl)))
    (zf (zl yM))
    zv)
   (zi (zW PassesOwn.never rfl (yj (pv 0)) (zx (i:=1) pX.nd rfl (.inl rfl))
    (zi (zK (PW.pt (vx (zU (yE (yB rfl B.isi (pv 1) rfl B.tuple PySem.Pv.boot_tuple) (λ_=>rfl))) (vx (zy j3 (zA B.len (pv 1)) zg (zC _)) (wz (zU (yE (yB rfl B.isi (zo ix_tup (pv 1) zg) rfl B.bool PySem.Pv.boot_bool) (λ_=>rfl)))))))
     (zf (zl yM))
     zv)
    (zf (zK (PW.pt (vx (zU (yE (cl0 oh hr .nil rfl (za (zo ix_tup (pv 1) zg) zc)) (λ_=>rfl))) (wz (zU (yE (cl0 oh hr .nil rfl (za (zo ix_tup (pv 1) zg) zc)) (λ_=>rfl))))))
     (zf (zl yM))
     zv))))
   (zf (zl yM)))),?_]
  have s16:=zP
  erw[Is]at hT
  obtain⟨_,ts,e,hTs,hJ⟩:=hT;cases e;refine zj (λσ H'=>H'=H/\σ=[!!t,AY]) ?_ ?_
  ·rfl'
   exact#[_,.inr (.inr (.inl #[_,_,rfl,rfl,hTs])),AZ,T.ll,ZB trivial]
  rintro σ H1 ⟨rfl,rfl⟩:_;right;refine zj (λσ H'=>H'=H1/\∃v1,σ=[!!t,v1]) ?_ ?_
  ·rfl'
   refine#[#[_,hTs],ForL.by (xs:=ts) (λi σ H'=>H'=H1/\∃v1,σ=[!!t,v1]) #[rfl,_,rfl] (λi σ H' _ h=>by rw[h.1];exact hTs) ?_ λσ H' h=>h];refine nm4 ?_;rintro i x σ H' hx ⟨rfl,v1,rfl⟩:_;obtain⟨u,pu,hui,rfl,hqu⟩:=vg hJ hx;right
   erw[yy,aV,aU]
   refine zj (λσ H''=>H''=H'/\σ=[!!t,!!pu]) ?_ ?_
   ·rfl'
    exact#[_,.inr (.inr (.inr #[_,_,rfl,rfl,hqu])),AZ,T.tt,ZB #[_,.inr #[_,hqu,rfl],yq (λh=>absurd rfl h) λ_=>#[_,hqu,_,rfl,_,.inl (.bl _),AZ,T.bb,ZB trivial]]]
   rintro σ G ⟨rfl,rfl⟩:_;right
   rfl'
   exact#[_,hqu,_,rfl,qV #[AZ,rfl,ZB #[_,hqu,_,rfl,qV #[AZ,rfl,ZB rfl]]]]
  rintro σ H2 ⟨rfl,v1,rfl⟩:_;right
  rfl'
  exact q
def uh(K:so):Sp:=λvs H Q _=>∃(a t:sq) (rs:List zp) (w w':()) (s:Stp),vs=[.ref a,.str (tx w),.ref t]/\Is K H (.lst (rs.map dR)) (.ref a)/\ju rs/\w.length<=300000/\SqT K H t [.int s.1,.int s.2.1,.bl s.2.2]/\yl rs w s=AX w'/\Q (.str (tx w')) H
theorem jb{a t:sq}{w w':()}{s:Stp}(h1:Is K H (.lst (rs.map dR)) (.ref a))(h2:ju rs)(h3:w.length<=300000)(h4:SqT K H t [.int s.1,.int s.2.1,.bl s.2.2])(h5:yl rs w s=AX w')(q:Q (.str (tx w')) H):uh K [.ref a,.str (tx w),.ref t] H Q E:=#[a,t,rs,w,w',s,rfl,h1,h2,h3,h4,h5,q]
theorem ng:sQz 3 ["_law_pacts","_law_word_here","_law_step","_law_old","_law_new"] VV:=by nofun
theorem zcq(B:Bt mg)(F:("_law_used"^^^VV)) :(1&&&["_law_pacts","_law_word_here","_law_step"]) (uh K):=by
 refine F.ok ng (λvs H Q E h=>?_) (λcdv A outer s H vs Q E hr h=>?_)
 ·obtain⟨a,t,rs,w,w',s,rfl,_⟩:=h;rfl
 ·obtain⟨a,t,rs,w,w',s,rfl,hR,ok,hw,ht,ha,q⟩:=h
  refine#[_,(zi (zD 3 ng.nd (zo ix_tup (zo ix_list (pv 0) (zo ix_tup (pv 2) zg)) zg))
   (zi (zD 4 ng.nd (zo ix_tup (zo ix_list (pv 0) (zo ix_tup (pv 2) zg)) zg))
   (zi (zK (zU (yE (zo ix_tup (pv 2) zg) (λ_=>rfl)))
    (zI (zD 3 ng.nd (zo ix_tup (zo ix_list (pv 0) (zo ix_tup (pv 2) zg)) zg))
    (zf (zD 4 ng.nd (zo ix_tup (zo ix_list (pv 0) (zo ix_tup (pv 2) zg)) zg))))
    zv)
   (zf (zl (zB yw (zB yw (ya wA (pv 1) xJ (zY (zo ix_tup (pv 2) zg))) (pv 4)) (ya wA (pv 1) (zY (zB yu (zo ix_tup (pv 2) zg) (zA B.len (pv 3)))) xJ))))))),?_]
  have s16:=zP
  erw[Is]at hR
  obtain⟨_,xs,e,hX,hI⟩:=hR;cases e;have hb:0<=s.1/\s.1<rs.length:=bJ λhb=>by rw[yQ hb]at ha;cases ha
  obtain⟨p,a1,_,hp⟩:=zc3 hI hb.1 hb.2;have gl:=Y0 ok s.1.toNat;rw[yz hb]at ha;generalize rs.getD s.1.toNat ([],[])=r at *;refine zj (λσ H'=>H'=H/\σ=[!!a,~~~w,!!t,AX (.str (tx r.1)),AY]) ?_ ?_
  ·rfl'
   exact#[_,ht,_,rfl,_,rfl,_,hX,_,a1,_,rfl,_,hp,rfl]
  rintro σ H1 ⟨rfl,rfl⟩:_;right;refine zj (λσ H'=>H'=H1/\σ=[!!a,~~~w,!!t,AX (.str (tx r.1)),AX (.str (tx r.2))]) ?_ ?_
  ·rfl'
   exact#[_,ht,_,rfl,_,rfl,_,hX,_,a1,_,rfl,_,hp,rfl]
  rintro σ H2 ⟨rfl,rfl⟩:_;right;refine zj (λσ H'=>H'=H2/\σ=[!!a,~~~w,!!t,AX (.str (tx (sdl r s.2.2).1)),AX (.str (tx (sdl r s.2.2).2))]) ?_ ?_
  ·rfl'
   refine#[_,ht,_,rfl,_,rfl,yq (λh=>#[_,ht,_,rfl,_,rfl,_,hX,_,a1,_,rfl,_,hp,_,rfl,_,ht,_,rfl,_,rfl,_,hX,_,a1,_,rfl,_,hp,_,rfl,?_]) λh=>?_]
   ·rw[h];exact#[rfl,rfl]
   ·rw[Bool.not_eq_false]at h;rw[h];exact#[rfl,rfl]
  rintro σ H3 ⟨rfl,rfl⟩:_
  have hol:(sdl r s.2.2).1.length<=100:=by
   cases s.2.2
   ·exact gl.2
   ·exact gl.1
  have hnl:(sdl r s.2.2).2.length<=100:=by
   cases s.2.2
   ·exact gl.1
   ·exact gl.2
  right;generalize sdl r s.2.2=on at *;have hst:zr w s.2.1 on.1=AZ:=bJ λhst=>by rw[if_neg hst]at ha;cases ha
  rw[if_pos hst]at ha;obtain⟨_,_,h0,h1⟩:=yU hst;have c1:=wN w AY (AX s.2.1);have c2:=wN w (AX (s.2.1 + ↑on.1.length)) AY
  rfl'
  refine#[_,ht,_,rfl,_,rfl,⋯,⋯,_,ht,_,rfl,⋯,_,rfl,⋯,?_,?_]
  ·rw[aj];lia
  ·rw[zcs h0];cases ha;exact q
theorem Vk{w o:()}(h:(n:Int)+o.length<=w.length):zr w (n:Int) o=decide (cut w (AX (n:Int)) (AX ((n:Int)+(o.length:Int)))=o):=by
 unfold zr;rw[ZL _ ⋯ ⋯ ⋯];have e:((n:Int)+(o.length:Int) - (n:Int)).toNat=o.length:=⋯;rw[e];exact decide_eq_decide.mpr #[λh=>h.2.2,λh'=>#[⋯,⋯,h']]
theorem kP{a p:sq}{xs:List V}{ys zs:List V}(hp:H p=AX (.lst ys))(h:SqT K H a xs):SqT K (upd H p (.lst zs)) a xs:=by
 rcases h with (h | ⟨o,h⟩) | h
 ·exact .inl (.inl (by rw[zm (λe=>by rw[e,hp]at h;cases h)];exact h))
 ·exact .inl (.inr #[o,by rw[zm (λe=>by rw[e,hp]at h;cases h)];exact h])
 ·exact .inr h
def XB(K:so):Sp:=λvs H Q _=>∃(a:sq) (rs:List zp) (w:()) (m:Int),vs=[.ref a,.str (tx w),.int m]/\Is K H (.lst (rs.map dR)) (.ref a)/\ju rs/\w.length<=900/\∀(D:sq) (H':Hp) (us:List Stp),H D=AY->Same H H'->LsA K H' D (us.map dSt)->us.length<=300000->(∀s ∈ us,Fit rs w m s)->Q (.ref D) H'
theorem Kc{a:sq}{w:()}{m:Int}(h1:Is K H (.lst (rs.map dR)) (.ref a))(h2:ju rs)(h3:w.length<=900)(h:∀(D:sq) (H':Hp) (us:List Stp),H D=AY->Same H H'->LsA K H' D (us.map dSt)->us.length<=300000->(∀s ∈ us,Fit rs w m s)->Q (.ref D) H'):XB K [.ref a,.str (tx w),.int m] H Q E:=#[a,rs,w,m,rfl,h1,h2,h3,h]
theorem io:sQz 3 ["_law_pacts","_law_word_here","_law_most","_law_found","_law_number","_law_pact","_law_forth","_law_old","_law_place","_law_step"] UJ:=by nofun
theorem zbN(B:Bt mg)(F:("_law_uses"^^^UJ))(nL:(1<<<"_law_used") ["_law_pacts","_law_word_here","_law_step"] [] (uh K)):(2&&&["_law_pacts","_law_word_here","_law_most"]) (XB K):=by
 exists F.ok io
 ·obtain⟨a,rs,w,m,rfl,hR,ok,hw,q⟩:=h
  refine#[_,(zi (zD 3 io.nd (wy zc))
   (zi (zW PassesOwn.never rfl (wg rfl B.enum (za (pv 0) zc)) (qd (n:=2) rfl (yb (zx (i:=4) io.nd rfl (.inl rfl)) (yb (zx (i:=5) io.nd rfl (.inl rfl)) wG)))
    (zf (zW PassesOwn.never rfl (zd3 (zR (za yM (za yM zc)))) (zx (i:=6) io.nd rfl (.inl rfl))
     (zi (zD 7 io.nd (zo ix_tup (pv 5) zg))
     (zi (zK (zU (yE (pv 6) (λ_=>rfl)))
      (zf (zD 7 io.nd (zo ix_tup (pv 5) zg)))
      zv)
     (zf (zW PassesOwn.never rfl (yk rfl B.range (za (zB yu (zB uo (zA B.len (pv 1)) (zA B.len (pv 7))) zg) zc)) (zx (i:=8) io.nd rfl (.inl rfl))
      (zi (zD 9 io.nd (zR (za (pv 4) (za (pv 8) (za (pv 6) zc)))))
      (zf (zK (PW.pt (zcV (zy vc (ya wA (pv 1) (zY (pv 8)) (zY (zB yu (pv 8) (zA B.len (pv 7))))) (pv 7) (zC _)) (zbH (zy zdX (zA B.len (cl0 nL hr .nil rfl (za (pv 0) (za (pv 1) (za (pv 9) zc))))) (pv 2) (zC _)))))
       (zf (xL (uM bz bO bP xq (pv 3) (za (pv 9) zc))))
       zv))))))))))
   (zf (zl (pv 3))))),?_]
  have s16:=zP;have hR':=hR
  erw[Is]at hR'
  obtain⟨_,xs,e,hX,hI⟩:=hR';cases e;have hxl:=hI.len;rw[ae]at hxl;have okl:=ok.1;refine zj (λσ H'=>∃D:sq,H D=AY/\Same H H'/\LsA K H' D []/\σ=[!!a,~~~w,~~~!m,!!D,AY,AY,AY,AY,AY,AY]) ?_ ?_
  ·rfl'
   exact#[⋯,λD hD=>#[D,hD,ze hD,LsA.nil,rfl]]
  rintro σ H1 ⟨D,hD,s1,hL1,rfl⟩:_;right;refine zj (λσ H'=>∃us:List Stp,Same H H'/\LsA K H' D (us.map dSt)/\us.length<=300000/\(∀s ∈ us,Fit rs w m s)/\∃v4 v5 v6 v7 v8 v9,σ=[!!a,~~~w,~~~!m,!!D,v4,v5,v6,v7,v8,v9]) ?_ ?_
  ·rfl'
   refine#[#[_,s1.seq hX],ForEL.by (xs:=xs) (λi σ H'=>∃us:List Stp,Same H H'/\LsA K H' D (us.map dSt)/\us.length<=i * 2002/\(∀s ∈ us,Fit rs w m s)/\∃v4 v5 v6 v7 v8 v9,σ=[!!a,~~~w,~~~!m,!!D,v4,v5,v6,v7,v8,v9]) #[[],s1,hL1,aD _,λs h=>(nomatch h),_,_,_,_,_,_,rfl] ?_ ?_ ?_]
   ·rintro i σ H' _ ⟨us,hs,_⟩;exact hs.seq hX
   ·rintro i x σ H' p hx ⟨us,hs,hL,hl,hf,v4,v5,v6,v7,v8,v9,rfl⟩ hp;obtain⟨r,pr,hri,rfl,hqr⟩:=hI.getR hx;have hi:=(Be.mp hri).1;have b:=ok.2 r (ag hri);have er:rs.getD i ([],[])=r:=by rw[aa,hri];rfl
    rfl'
    refine#[_,SqT.of zd,rfl,_,_,rfl,_,_,rfl,rfl,?_];refine#[⋯,λp2 hp2=>?_];have hs3:Same H' (upd (upd H' p (.tup [.int (i:Nat),.ref pr])) p2 (.tup [.bl AZ,.bl Ba])):=(ze hp).trans (ze hp2);have hp3:(upd (upd H' p (.tup [.int (i:Nat),.ref pr])) p2 (.tup [.bl AZ,.bl Ba])) p2=AX (.tup [.bl AZ,.bl Ba]):=zd;generalize upd (upd H' p (.tup [.int (i:Nat),.ref pr])) p2 (.tup [.bl AZ,.bl Ba])=H3 at *
    have hD3:p2≠D:=λe=>by
     obtain⟨ys,hY,_⟩:=hL.same hs3;rw[e,hY]at hp3;cases hp3
    refine#[#[_,SqT.of hp3],ForT.by (xs:=[.bl AZ,.bl Ba]) (λj σ H4=>H4 p2=AX (.tup [.bl AZ,.bl Ba])/\Same H H4/\∃us:List Stp,LsA K H4 D (us.map dSt)/\us.length<=i * 2002+j * 1001/\(∀s ∈ us,Fit rs w m s)/\∃v6 v7 v8 v9,σ=[!!a,~~~w,~~~!m,!!D,-~~~i,!!pr,v6,v7,v8,v9]) #[hp3,hs.trans hs3,us,hL.same hs3,⋯,hf,_,_,_,_,rfl] (λj σ H4 _ h=>SqT.of h.1) ?_ ?_]
    ·refine nm4 ?_;rintro j y σ H4 hy ⟨hp4,hs4,us,hL4,hl4,hf4,v6,v7,v8,v9,rfl⟩:_
     obtain⟨f,rfl⟩:∃f:Bool,y=.bl f:=by
      match j,hy with
      | 0,hy=>exact#[_,(Option.some.inj hy).symm]
      | 1,hy=>exact#[_,(Option.some.inj hy).symm]
      | j+2,hy=>simp at hy
     right
     rfl'
     refine zj (λσ H'=>H'=H4/\σ=[!!a,~~~w,~~~!m,!!D,-~~~i,!!pr,AX (.bl f),AX (.str (tx r.1)),v8,v9]) ?_ ?_
     ·rfl'
      exact#[_,zq hs4 hqr,rfl]
     rintro σ H5 ⟨rfl,rfl⟩:_;right;refine zj (λσ H'=>H'=H5/\σ=[!!a,~~~w,~~~!m,!!D,-~~~i,!!pr,AX (.bl f),AX (.str (tx (sdl r f).1)),v8,v9]) ?_ ?_
     ·rfl'
      refine yq (λh=>#[_,zq hs4 hqr,?_]) λh=>?_
      ·rw[h];rfl
      ·rw[Bool.not_eq_false]at h;rw[h];rfl
     rintro σ H6 ⟨rfl,rfl⟩:_
     have bo:(sdl r f).1.length<=100/\(sdl r f).2.length<=100:=by
      unfold sdl;split
      ·exact b
      ·exact#[b.2,b.1]
     have aft:∀n:Nat,(n:Int)+(sdl r f).1.length<=w.length->cut w (AX (n:Int)) (AX ((n:Int)+((sdl r f).1.length:Int)))=(sdl r f).1->∃w',yl rs w (((i:Nat):Int),((n:Nat):Int),f)=AX w'/\w'.length<=1000:=λn hn hc=>by
      have hst:zr w (n:Int) (sdl r f).1=AZ:=by
       rw[Vk hn];exact decide_eq_true hc
      refine#[yF w (n:Int) (sdl r f).1 (sdl r f).2,?_,?_]
      ·rw[yz (by show (0:Int)<=(i:Int)/\(i:Int)<rs.length;lia)];simp only;rw[show ((i:Nat):Int).toNat=i from rfl,er,if_pos hst]
      ·have:=WY (n:=(sdl r f).2) hst;lia
     right;generalize sdl r f=o at *
     rfl'
     refine#[⋯,⋯,⋯,⋯,ForR.by (λn σ H4=>H4 p2=AX (.tup [.bl AZ,.bl Ba])/\Same H H4/\∃us:List Stp,LsA K H4 D (us.map dSt)/\us.length<=i * 2002+j * 1001+n/\(∀s ∈ us,Fit rs w m s)/\∃v8 v9,σ=[!!a,~~~w,~~~!m,!!D,-~~~i,!!pr,AX (.bl f),AX (.str (tx o.1)),v8,v9]) #[hp4,hs4,us,hL4,hl4,hf4,_,_,rfl] ?_ ?_]
     ·refine nm3 ?_;rintro n σ H7 hn ⟨hp7,hs7,us,hL7,hl7,hf7,v8,v9,rfl⟩:_;right;dsimp only;rw[show (0:Int)+(n:Int)=(n:Int) by lia];obtain⟨ys,hY,hJ⟩:=hL7;have hyl:=hJ.len;rw[ae]at hyl;have hj2:j<2:=(Be.mp hy).1
      erw[yy,aV,aU]
      refine zj (λσ H''=>∃t:sq,Same H7 H''/\H'' t=AX (.tup [.int (i:Nat),.int (n:Nat),.bl f])/\σ=[!!a,~~~w,~~~!m,!!D,-~~~i,!!pr,AX (.bl f),AX (.str (tx o.1)),-~~~n,!!t]) ?_ ?_
      ·rfl'
       exact#[⋯,λt ht=>#[ze ht,zd]]
      rintro σ H8 ⟨t,s8,ht8,rfl⟩:_;have hY8:=s8 _ _ hY;have hJ8:=Iss.same s8 _ _ hJ;right
      rfl'
      refine#[⋯,⋯,yq (λhc=>?_) λ_=>#[s8 _ _ hp7,hs7.trans s8,us,#[ys,hY8,hJ8],⋯,hf7]];obtain⟨w',ha,hwl⟩:=aft n ⋯ hc;refine jb (s:=(((i:Nat):Int),((n:Nat):Int),f)) (Is.same (hs7.trans s8) _ _ hR) ok ⋯ (SqT.of ht8) ha ?_
      rfl'
      refine#[⋯,yq (λhm=>#[.inl #[_,SqL.of hY8],ys,hY8,⋯,?_,zJ (hs7.trans s8) hD,us ++ [(((i:Nat):Int),((n:Nat):Int),f)],?_,by rw[aj];erw[aJ,bU];lia,λs hs'=>?_]) λ_=>#[s8 _ _ hp7,hs7.trans s8,us,#[ys,hY8,hJ8],⋯,hf7]]
      ·rw[zm hD3];exact s8 _ _ hp7
      ·rw[ay];exact LsA.snoc hY8 hJ8 (xW _) (by erw[dSt,xf,zV,and_self]) (kG (SqT.of ht8))
      ·rcases Bh.mp hs' with h | h
       ·exact hf7 s h
       ·rw[Bj.mp h];exact#[w',ha,hm]
     ·rintro σ H7 ⟨hp7,hs7,us,hL7,hl7,hf7,v8,v9,rfl⟩;exact#[hp7,hs7,us,hL7,⋯,hf7,_,_,_,_,rfl]
    ·rintro σ H4 ⟨_,hs4,us,hL4,hl4,hf4,v6,v7,v8,v9,rfl⟩;exact#[hs4,us,hL4,by erw[aJ,bU]at hl4;lia,hf4,_,_,_,_,_,_,rfl]
   ·rintro σ H' ⟨us,hs,hL,hl,hf,v4,v5,v6,v7,v8,v9,rfl⟩;exact#[hs,us,hL,⋯,hf,_,_,_,_,_,_,rfl]
  rintro σ H2 ⟨us,s2,hL,hl,hf,v4,v5,v6,v7,v8,v9,rfl⟩:_;right
  rfl'
  exact q D H2 us hD s2 hL hl hf
def kJ(K:so):Sp:=λvs H Q _=>∃(a c:sq) (rs:List zp) (w:()) (ns:List Int) (m:Int),vs=[.ref a,.str (tx w),.ref c,.int m]/\Is K H (.lst (rs.map dR)) (.ref a)/\ju rs/\w.length<=60/\m<=60/\SqL K H c (ns.map V.int)/\(∀z ∈ ns,uD z)/\ns.length<=63 /\
 ∀(D:sq) (H':Hp) (ss:List Stp) (w':()),H D=AY->Same H H'->LsA K H' D (ss.map dSt)->z9 rs w ss=AX w'->w'.length<=60->ss.length<=ns.length->(∀s ∈ ss,0<=s.1/\s.1<rs.length)->Q (.ref D) H'
theorem QU{a c:sq}{w:()}{m:Int}(h1:Is K H (.lst (rs.map dR)) (.ref a))(h2:ju rs)(h3:w.length<=60)(h4:m<=60)(h5:SqL K H c (ns.map V.int))(h5':∀z ∈ ns,uD z)(h6:ns.length<=63)
 (h:∀(D:sq) (H':Hp) (ss:List Stp) (w':()),H D=AY->Same H H'->LsA K H' D (ss.map dSt)->z9 rs w ss=AX w'->w'.length<=60->ss.length<=ns.length->(∀s ∈ ss,0<=s.1/\s.1<rs.length)->Q (.ref D) H'):kJ K [.ref a,.str (tx w),.ref c,.int m] H Q E:=#[a,c,rs,w,ns,m,rfl,h1,h2,h3,h4,h5,h5',h6,h]
theorem YQ{w w':()}{s:Stp}(h:yl rs w s=AX w'):0<=s.1/\s.1<rs.length:=bJ λhb=>by rw[yQ hb]at h;cases h
theorem lu:sQz 4 ["_law_pacts","_law_word_here","_law_cells","_law_most","_law_steps_here","_law_cell_here","_law_some","_law_step"] Y4:=by nofun
theorem J8(B:Bt mg)(F:("_law_chain"^^^Y4))(rW:(2<<<"_law_uses") ["_law_pacts","_law_word_here","_law_most"] [] (XB K))(nL:(1<<<"_law_used") ["_law_pacts","_law_word_here","_law_step"] [] (uh K))(gF:(1<<<"_law_mixed") ["_law_cell_here","_law_turn"] [] we):(3&&&["_law_pacts","_law_word_here","_law_cells","_law_most"]) (kJ K):=by
 exists F.ok lu
 ·obtain⟨a,c,rs,w,ns,m,rfl,hR,ok,hw,hm,hS,hB,hn,q⟩:=h
  refine#[_,(zi (zD 4 lu.nd (wy zc))
   (zi (zW PassesOwn.never rfl (yj (pv 2)) (zx (i:=5) lu.nd rfl (.inl rfl))
    (zi (zD 6 lu.nd (cl0 rW hr .nil rfl (za (pv 0) (za (pv 1) (za (pv 3) zc)))))
    (zf (zK (zy Wh (zA B.len (pv 6)) zg (zC _))
     (zi (zD 7 lu.nd (zo ix_list (pv 6) (zB yL (cl0 gF hr .nil rfl (za (pv 5) (za zg zc))) (zA B.len (pv 6)))))
     (zi (xL (uM bz bO bP xq (pv 4) (za (pv 7) zc)))
     (zf (zD 1 lu.nd (cl0 nL hr .nil rfl (za (pv 0) (za (pv 1) (za (pv 7) zc))))))))
     zv))))
   (zf (zl (pv 4))))),?_]
  have s16:=zP;refine zj (λσ H'=>∃D:sq,H D=AY/\Same H H'/\LsA K H' D []/\σ=[!!a,~~~w,!!c,~~~!m,!!D,AY,AY,AY]) ?_ ?_
  ·rfl'
   exact#[⋯,λD hD=>#[D,hD,ze hD,LsA.nil,rfl]]
  rintro σ H1 ⟨D,hD,s1,hL1,rfl⟩:_;right;refine zj (λσ H'=>∃(ss:List Stp) (w2:()),Same H H'/\LsA K H' D (ss.map dSt)/\z9 rs w ss=AX w2/\w2.length<=60/\ss.length<=ns.length/\(∀s ∈ ss,0<=s.1/\s.1<rs.length)/\∃v5 v6 v7,σ=[!!a,~~~w2,!!c,~~~!m,!!D,v5,v6,v7]) ?_ ?_
  ·rfl'
   refine#[#[_,s1.seq hS],ForL.by (xs:=ns.map V.int) (λi σ H'=>∃(ss:List Stp) (w2:()),Same H H'/\LsA K H' D (ss.map dSt)/\z9 rs w ss=AX w2/\w2.length<=60/\ss.length<=i/\(∀s ∈ ss,0<=s.1/\s.1<rs.length)/\∃v5 v6 v7,σ=[!!a,~~~w2,!!c,~~~!m,!!D,v5,v6,v7]) #[[],w,s1,hL1,rfl,hw,al _,λs h=>(nomatch h),_,_,_,rfl] (λi σ H' _ h=>by obtain⟨ss,w2,hs,_⟩:=h;exact hs.seq hS) ?_ ?_]
   ·refine nm4 ?_;rintro i x σ H3 hx ⟨ss,w2,s3,hL3,hwk,hw2,hsl,hnum,v5,v6,v7,rfl⟩:_;have hi:=(Be.mp hx).1;rw[ae]at hi;rw[aq]at hx;obtain⟨z,hz,rfl⟩:=Bk.mp hx;have hzB:=hB z (ag hz);right
    erw[yy,aV,aU]
    refine zj (λσ H'=>∃(U:sq) (us:List Stp),Same H3 H'/\LsA K H' U (us.map dSt)/\us.length<=300000/\(∀s ∈ us,Fit rs w2 m s)/\σ=[!!a,~~~w2,!!c,~~~!m,!!D,~~~!z,!!U,v7]) ?_ ?_
    ·rfl'
     exact Kc (Is.same s3 _ _ hR) ok ⋯ λU H' us _ s' hU hul hf=>#[s',U,us,hU,hul,hf,rfl]
    rintro σ H4 ⟨U,us,s4,hU,hul,hf,rfl⟩:_;obtain⟨ys,hY,hJ⟩:=hU;right
    rfl'
    refine#[_,.inl #[_,SqL.of hY,rfl],yq (λhpos=>?_) λ_=>?_]
    ·refine zj (λσ H'=>∃(st:Stp) (pst:sq) (w3:()),H'=H4/\SqT K H4 pst [.int st.1,.int st.2.1,.bl st.2.2]/\yl rs w2 st=AX w3/\w3.length<=60/\σ=[!!a,~~~w2,!!c,~~~!m,!!D,~~~!z,!!U,!!pst]) ?_ ?_
     ·rfl'
      refine xo hzB ∅ ∅ λy hy=>#[_,.inl #[_,SqL.of hY,rfl],?_];have m0:=ba y (b:=(ys.length:Int)) ⋯;have m1:=aZ y (b:=(ys.length:Int)) ⋯;obtain⟨v,a1,b1⟩:=qf (xs:=ys) m0 m1;obtain⟨st,pst,hst,rfl,hqs⟩:=vg hJ b1;obtain⟨w3,haf,hw3⟩:=hf st (ag hst);exact#[_,rfl,⋯,_,SqL.of hY,_,a1,rfl,st,pst,hqs,w3,haf,⋯,rfl]
     rintro σ H5 ⟨st,pst,w3,rfl,hqs,haf,hw3,rfl⟩:_;obtain⟨xs3,hX3,hI3⟩:=hL3.same s4;have hil:=hI3.len;rw[ae]at hil;right;refine zj (λσ H'=>Same H H'/\LsA K H' D ((ss ++ [st]).map dSt)/\SqT K H' pst [.int st.1,.int st.2.1,.bl st.2.2]/\σ=[!!a,~~~w2,!!c,~~~!m,!!D,~~~!z,!!U,!!pst]) ?_ ?_
     ·rfl'
      refine#[.inl #[_,SqL.of hX3],xs3,hX3,⋯,zJ (s3.trans s4) hD,?_,kP hX3 hqs];rw[ay];exact LsA.snoc hX3 hI3 (xW _) (by erw[dSt,xf,zV,and_self]) (kG hqs)
     rintro σ H6 ⟨s6,hL6,hq6,rfl⟩:_;right
     rfl'
     refine jb (Is.same s6 _ _ hR) ok ⋯ hq6 haf ?_;refine#[s6,ss ++ [st],hL6,w3,jv hwk haf,hw3,by rw[aj];exact Nat.succ_le_succ hsl,λs hs=>?_,rfl];rcases Bh.mp hs with h | h
     ·exact hnum s h
     ·rw[Bj.mp h];exact YQ haf
    ·exact#[s3.trans s4,ss,hL3.same s4,w2,hwk,hw2,⋯,hnum,rfl]
   ·rintro σ H' ⟨ss,w2,hs,hL,hwk,hw2,hsl,hnum,v5,v6,v7,rfl⟩;rw[ae]at hsl;exact#[hs,ss,hL,w2,hwk,hw2,hsl,hnum,_,_,_,rfl]
  rintro σ H2 ⟨ss,w2,hs,hL,hwk,hw2,hsl,hnum,v5,v6,v7,rfl⟩:_;right
  rfl'
  exact q D H2 ss w2 hD hs hL hwk hw2 hsl hnum
def Q9(K:so):Sp:=λvs H Q _=>∃(a t:sq) (rs:List zp) (w w':()) (ss:List Stp),vs=[.ref a,.str (tx w),.ref t]/\Is K H (.lst (rs.map dR)) (.ref a)/\ju rs/\w.length<=60/\Is K H (.lst (ss.map dSt)) (.ref t)/\ss.length<=2000/\z9 rs w ss=AX w'/\Q (.str (tx w')) H
theorem zb7{a t:sq}{w w':()}(h1:Is K H (.lst (rs.map dR)) (.ref a))(h2:ju rs)(h3:w.length<=60)(h4:Is K H (.lst (ss.map dSt)) (.ref t))(h5:ss.length<=2000)(h6:z9 rs w ss=AX w')(q:Q (.str (tx w')) H):Q9 K [.ref a,.str (tx w),.ref t] H Q E:=#[a,t,rs,w,w',ss,rfl,h1,h2,h3,h4,h5,h6,q]
theorem Ql{w w':()}(h:z9 rs w ss=AX w'){i:Nat}{s:Stp}(hs:ss[i]? = AX s){w1:()}(h1:z9 rs w (ss.take i)=AX w1):∃w2,yl rs w1 s=AX w2/\z9 rs w (ss.take (i+1))=AX w2:=by
 have e:ss=ss.take (i+1) ++ ss.drop (i+1):=(bK _ _).symm;rw[e,xA]at h;obtain⟨w2,h2,_⟩:=Bv.mp h;refine#[w2,?_,h2];rw[zX hs,xA,h1]at h2
 erw[z9,bY]at h2
 obtain⟨w3,h3,h4⟩:=Bv.mp h2;cases h4;exact h3
theorem oY:sQz 3 ["_law_pacts","_law_word_here","_law_steps_here","_law_step","_law_old"] zb9:=by nofun
theorem zdg(B:Bt mg)(F:("_law_end"^^^zb9))(nL:(1<<<"_law_used") ["_law_pacts","_law_word_here","_law_step"] [] (uh K)):(2&&&["_law_pacts","_law_word_here","_law_steps_here"]) (Q9 K):=by
 refine F.ok oY (λvs H Q E h=>?_) (λcdv A outer s H vs Q E hr h=>?_)
 ·obtain⟨a,t,rs,w,w',ss,rfl,_⟩:=h;rfl
 ·obtain⟨a,t,rs,w,w',ss,rfl,hR,ok,hw,hT,hsl,hwk,q⟩:=h
  refine#[_,(zi (zW PassesOwn.never rfl (yj (pv 2)) (zx (i:=3) oY.nd rfl (.inl rfl))
    (zi (zK (PW.pt (vx (zy Vt (zo ix_tup (pv 3) zg) zg (zC _)) (vx (zy op_ge' (zo ix_tup (pv 3) zg) (zA B.len (pv 0)) (zC _)) (wz (zy Vt (zo ix_tup (pv 3) zg) zg (zC _))))))
     (zf (zl yd))
     zv)
    (zi (zD 4 oY.nd (zo ix_tup (zo ix_list (pv 0) (zo ix_tup (pv 3) zg)) (zB uo zg (xn Us rfl B.int PySem.Pv.boot_int (za (zo ix_tup (pv 3) zg) zc)))))
    (zi (zK (PW.pt (vx (zy KQ (zB yu (zo ix_tup (pv 3) zg) (zA B.len (pv 4))) (zA B.len (pv 1)) (zC _)) (wz (zy j3 (ya wA (pv 1) (zY (zo ix_tup (pv 3) zg)) (zY (zB yu (zo ix_tup (pv 3) zg) (zA B.len (pv 4))))) (pv 4) (zC _)))))
     (zf (zl yd))
     zv)
    (zf (zD 1 oY.nd (cl0 nL hr .nil rfl (za (pv 0) (za (pv 1) (za (pv 3) zc))))))))))
   (zf (zl (pv 1)))),?_]
  have s16:=zP;have hR':=hR;have hT':=hT
  erw[Is]at hR' hT'
  obtain⟨_,xs,e,hX,hI⟩:=hR';cases e;obtain⟨_,ts,e,hTs,hJ⟩:=hT';cases e;have htl:=hJ.len;rw[ae]at htl;refine zj (λσ H'=>H'=H/\∃v3 v4,σ=[!!a,~~~w',!!t,v3,v4]) ?_ ?_
  ·rfl'
   refine#[#[_,hTs],ForL.by (xs:=ts) (λi σ H'=>H'=H/\∃w1 v3 v4,z9 rs w (ss.take i)=AX w1/\w1.length<=60+i * 100/\σ=[!!a,~~~w1,!!t,v3,v4]) #[rfl,w,_,_,rfl,⋯,rfl] (λi σ H' _ h=>by rw[h.1];exact hTs) ?_ ?_]
   ·refine nm4 ?_;rintro i x σ H' hx ⟨rfl,w1,v3,v4,hw1,hl1,rfl⟩:_;obtain⟨s,ps,hsi,rfl,hqs⟩:=vg hJ hx;have hil:=(Be.mp hsi).1;obtain⟨w2,haf,hw2⟩:=Ql hwk hsi hw1;have hl2:=UI ok haf;have hb:=YQ haf;obtain⟨p,a1,_,hp⟩:=zc3 hI hb.1 hb.2;have gl:=Y0 ok s.1.toNat;have ha:=haf;rw[yz hb]at ha;right;generalize rs.getD s.1.toNat ([],[])=r at *;have hst:zr w1 s.2.1 (sdl r s.2.2).1=AZ:=bJ λhst=>by rw[if_neg hst]at ha;cases ha
    obtain⟨_,_,h0,h1⟩:=yU hst
    erw[yy,aV,aU]
    refine zj (λσ H''=>H''=H'/\σ=[!!a,~~~w1,!!t,!!ps,v4]) ?_ ?_
    ·rfl'
     exact#[_,hqs,_,rfl,_,rfl,yq (λh=>absurd hb.1 ⋯) λ_=>#[_,hqs,_,rfl,_,.inl #[_,hX,rfl],_,rfl,yq (λh=>absurd hb.2 (by have:=hI.len;rw[ae]at this;lia)) λ_=>#[_,hqs,_,rfl,_,rfl,yq (λh=>absurd h0 ⋯) λ_=>trivial]]]
    rintro σ G ⟨rfl,rfl⟩:_;right;refine zj (λσ H''=>H''=G/\σ=[!!a,~~~w1,!!t,!!ps,AX (.str (tx (sdl r s.2.2).1))]) ?_ ?_
    ·rfl'
     refine#[_,hqs,_,rfl,_,rfl,_,hX,_,a1,_,hqs,_,rfl,.inr #[_,rfl,_,rfl,_,hp,?_]];cases s.2.2 <;> rfl
    rintro σ G1 ⟨rfl,rfl⟩:_;right;refine zj (λσ H''=>H''=G1/\σ=[!!a,~~~w1,!!t,!!ps,AX (.str (tx (sdl r s.2.2).1))]) ?_ ?_
    ·rfl'
     have hol:(sdl r s.2.2).1.length<=100:=by
      cases s.2.2
      ·exact gl.2
      ·exact gl.1
     refine#[_,hqs,_,rfl,⋯,_,rfl,⋯,yq (λh=>absurd h1 ⋯) λ_=>#[_,hqs,_,rfl,_,rfl,_,hqs,_,rfl,⋯,_,rfl,⋯,yq (λh=>absurd ?_ h) λ_=>trivial]];have hst':=hst;unfold zr at hst';rw[decide_eq_true_eq]at hst';rw[ZL _ h0 ⋯ ⋯];have e:(s.2.1+((sdl r s.2.2).1.length:Int) - s.2.1).toNat=(sdl r s.2.2).1.length:=⋯;rw[e];exact hst'.2.2
    rintro σ G2 ⟨rfl,rfl⟩:_;right
    rfl'
    refine jb hR ok ⋯ hqs haf #[rfl,w2,hw2,⋯,rfl]
   ·rintro σ H' ⟨rfl,w1,v3,v4,hw1,hl1,rfl⟩;rw[htl,aP,hwk]at hw1;cases hw1;exact#[rfl,_,_,rfl]
  rintro σ H2 ⟨rfl,v3,v4,rfl⟩:_;right
  rfl'
  exact q
theorem zfN{X:Cx}{k j:Nat}{C:sq}{ps:List sB}{sp:Sp}{e:sF}{es:List sF}{t:TA}{pos p:tG}{x:sB}(hx:XE X E)(D:DMk X.prog X.w X.K X.mg X.base (CXx X.prog X.w) k C ps sp)(hr:Room j X.A)(hg:Gl X x)(hm:X.mg x=AX (.ref C))(ha:PA X (e::es) t)(hdb:(x ==("__debug__" : sB))=Ba:=by decide)(he:sj (e::es) X.env=(Ba,eval e X.env)::sj es X.env:=by rfl)
  (hpl:(sN pos (sj es X.env)).any (·.1)=Ba:=by rfl) (hj:k+1<=j:=by decide):PE X (.Call (.Name x p) (e::es) [] pos) (Jn C sp [] E t):=by
 obtain⟨f,fd,M,F,hb⟩:=D.ex;exact UU M F (hr.mono hj) hg hm hb .nil (WW hx) ha hdb he hpl
def Wu(K:so)(CO CR CW:sq):Sp:=λvs H Q _=>∃(z:Int) (l:()) (D:sq) (ws:List Int),vs=[.int z,.str (tx l),.ref D]/\0<=z/\z<3/\uU l=AZ/\H D=AX (.lst (ws.map V.int))/\ws.length=l.length/\(∀n ∈ ws,1<=n/\n<=1000000)/\∀(o:sq) (H':Hp),Same H H'->OrdAt CO CR CW H' o z.toNat l ws->Q (.ref o) H'
theorem KN:sQz 3 ["_law_kind","_law_letters_here","_law_weights"] XO:=by nofun
theorem Kr{f CO CR CW:sq}(B:Bt mg)(T:TWS P w K mg base CO CR CW)(F:("_law_order"^^^XO)) :(6&&&["_law_kind","_law_letters_here","_law_weights"]) (Wu K CO CR CW):=by
 exists F.ok KN
 ·obtain⟨z,l,D,ws,rfl,z0,z3,hg,hD,hwl,hwb,q⟩:=h
  refine#[_,(zI (zK (zy vc (pv 0) zg (zC _))
    (zf (zl (mkC T.mR hr rfl T.gR (za (pv 1) zc))))
    zv)
   (zI (zK (zy vc (pv 0) zg (zC _))
    (zf (zl (zfN xe0 T.mW hr rfl T.gW (za (pv 1) (za (xn yW rfl B.list PySem.Pv.boot_list (za (pv 2) zc)) zc)))))
    zv)
   (zf (zl (mkC T.mO hr rfl T.gO (za (pv 1) zc)))))),?_]
  have s16:=zP;ac_rfl;refine yq (λh1=>?_) λh1=>yq (λh2=>?_) λh2=>?_
  ·intro x dx hx hdx hne;have sd:=ze (o:=.own x) hdx;refine#[x,CR,dx,l,rfl,hg,T.cR,T.lR,zd,rfl,q x _ (λb o' e=>?_) #[dx,.inr (.inl #[by rw[h1];rfl,zd])]];rw[zm (zG e hx),zm (zG e hx)];exact sd _ _ e
  ·refine#[_,.inl (SqL.of hD),λE1 hE=>?_];have se:=ze (o:=.lst (ws.map V.int)) hE;intro x dx hx hdx hne;have sd:=ze (o:=.own x) hdx
   have k1:∀b o',(upd H E1 (.lst (ws.map V.int))) b=AX o'->(upd (upd (upd H E1 (.lst (ws.map V.int))) dx (.own x)) x (.ins CW dx [])) b=AX o':=λb o' e=>by
    rw[zm (zG e hx)];exact sd _ _ e
   exact#[x,dx,E1,l,ws,rfl,hg,SqL.of (k1 _ _ zd),hwl,hwb,zd,λw H' hw hwx kp ht hx'=>#[rfl,q x _ (λb o' e=>kp b o' (zG (se _ _ e) hx) (k1 b o' (se _ _ e))) #[dx,.inr (.inr #[⋯,hwl,w,hx',ht])]]]
  ·intro x dx hx hdx hne;have sd:=ze (o:=.own x) hdx;refine#[x,CO,dx,l,rfl,hg,T.cO,T.lO,zd,rfl,q x _ (λb o' e=>?_) #[dx,.inl #[⋯,zd]]];rw[zm (zG e hx),zm (zG e hx)];exact sd _ _ e
theorem Ub:∀ws:List (()),Str.join (tx []) (ws.map tx)=tx ws.flatten
 | []=>rfl
 | [w]=>by
  show tx w=_;simp
 | w::v::r=>by
  have ih:=Ub (v::r);show tx w ++ tx [] ++ Str.join (tx []) ((v::r).map tx)=_;rw[ih,wP,wP];simp
theorem JG{ws:List (())}(h:ws.flatten.length<=100000):JoinOk (tx []) (ws.map tx)=AZ:=by
 have s16:=zP
 have hf:∀(l:List (())) (n:Nat),(l.map tx).foldl (λa y=>a+y.length+0) n=n+l.flatten.length:=λl=>by
  induction l with
  | nil=>intro n;rfl
  | cons c r ih =>
   intro n;rw[au,List.foldl_cons,ih,z6,dm,aj];lia
 have e:JoinOk (tx []) (ws.map tx)=!PySem.Builtin.Str.tooLong ((ws.map tx).foldl (λa y=>a+y.length+0) 0):=by
  unfold JoinOk;rw[List.foldl_toArray];rfl
 rw[e,hf];unfold PySem.Builtin.Str.tooLong;rw[dn,decide_eq_false_iff_not];lia
theorem ThinL.pairs{l:()}{zs bs:List Ent}(h:ThinL k l ns zs)(hp:zb bs=zb zs)(hE:∀e ∈ bs,EB l e):ThinL k l ns bs:=by
 have key:∀(i:Nat) (a:Ent),bs[i]? = AX a->∃z,zs[i]? = AX z/\z.1=a.1/\z.2.1=a.2.1:=λi a ha=>by
  have h1:(zb bs)[i]? = AX (a.1,a.2.1):=by unfold zb;rw[aq,ha];rfl
  rw[hp]at h1;unfold zb at h1;rw[aq]at h1;obtain⟨z,hz,e⟩:=Bk.mp h1;exact#[z,hz,(Prod.ext_iff.mp e).1,(Prod.ext_iff.mp e).2]
 refine#[#[hE,λe he=>?_],λi j a b ha hb hij=>?_,λi j a b ha hb hij=>?_,λi j a b ha hb=>?_]
 ·obtain⟨i,hi⟩:=Bo.mp he;obtain⟨z,hz,e1,e2⟩:=key i e hi;rw[<- e1,<- e2];exact h.rl.lt z (ag hz)
 all_goals
  obtain⟨x,hx,e1,e2⟩:=key i a ha;obtain⟨y,hy,f1,f2⟩:=key j b hb;rw[<- f1]
 ·rw[<- e1];exact h.up i j x y hx hy hij
 ·rw[<- e1];exact h.no1 i j x y hx hy hij
 ·rw[<- e2];exact h.no2 i j x y hx hy
abbrev zgA(mg:sB->Option sr):Prop:=mg "any" = AY
structure TNT(K:so)(mg:sB->Option sr)(C:sq):Prop where
 xi:XI K C
 g:mg "NotTurned" = AX (.ref C)
 na:NoAttr K C "number"
theorem uH:sQz 2 ["self","number"] zZ:=by nofun
theorem uJ{f C:sq}(T:TNT K mg C)(F:Fun K "__init__" "NotTurned.__init__" zZ f fd):(1&&&["self","number"]) (ub C "number"):=by
 exists F.ok uH
 ·obtain⟨x,v,rfl,hx,q⟩:=h;refine#[_,(zf (Jl (pv 0) (pv 1) rfl)),?_]
  erw[zcp]
  rfl'
  exact#[C,hx,T.xi.toXC,T.na,q]
structure DNT(P:sy)(w:sC)(K:so)(mg:sB->Option sr)(base:sI)(C:sq):Prop extends TNT K mg C where
 ini:∃f fd,af K (.ref C) "__init__" = AX (AX (.ref f))/\aR K (.ref f)=AZ/\(1&&&["self","number"]) (ub C "number")/\Binds K fd ["self","number"] []
structure zdL(K:so)(mg:sB->Option sr)(CH:sq):Prop where
 cl:Cls K CH
 g:mg "System" = AX (.ref CH)
 no:NoAttr K CH "order"
 nr:NoAttr K CH "rules"
noncomputable def wJ(k:Nat)(l:())(ns:List Int):List zp->Nat->Option Nat
 | [],_=>AY
 | r::rs,i=>if zL k l ns r.2 r.1=AZ then wJ k l ns rs (i+1)else AX i
theorem Wl{l:()}:∀{ps:List zp} {j i:Nat} {r:zp},(∀(m:Nat) (p:zp),m<i->ps[m]? = AX p->zL k l ns p.2 p.1=AZ)->ps[i]? = AX r->zL k l ns r.2 r.1=Ba->wJ k l ns ps j=AX (j+i)
 | [],_,_,_,_,h,_=>by simp at h
 | p::ps,j,0,r,_,h,hl=>by
  cases h;rw[wJ,hl,if_neg az];rfl
 | p::ps,j,i+1,r,hb,h,hl=>by
  rw[wJ,if_pos (hb 0 p (Nat.succ_pos _) rfl),Wl (i:=i) (λm q hm e=>hb (m+1) q ⋯ e) h hl];congr 1;lia
theorem uY{l:()}:∀{ps:List zp} {j:Nat},(∀(m:Nat) (p:zp),ps[m]? = AX p->zL k l ns p.2 p.1=AZ)->wJ k l ns ps j=AY
 | [],_,_=>rfl
 | p::ps,j,hb=>by
  rw[wJ,if_pos (hb 0 p rfl)];exact uY λm q e=>hb (m+1) q e
def InL(l:())(ps:List zp):Prop:=∀p ∈ ps,p.1.length<=1000/\p.2.length<=1000/\(∀c ∈ p.1,c ∈ l)/\∀c ∈ p.2,c ∈ l
def qI(K:so)(CO CR CW CT CH:sq):Sp:=λvs H Q E=>∃(x dx o a:sq) (k:Nat) (l:()) (ns:List Int) (ps:List zp) (xs:List V),vs=[.ref x,.ref o,.ref a]/\H x=AX (.ins CH dx [])/\OrdAt CO CR CW H o k l ns/\OG l ns k/\H a=AX (.lst xs)/\Iss K H (ps.map dR) xs/\InL l ps /\
 (∀i,wJ k l ns ps 0=AX i->∀H1,Same H H1->∀d H',zfc H1 d "number" (.int (i:Nat)) H'->E (.ref CT) (AX d) H') /\
 (wJ k l ns ps 0=AY->∀(q:sq) (H':Hp),(∀b o',b≠x->H b=AX o'->H' b=AX o')->H' x=AX (.ins CH dx [("order",.ref o),("rules",.ref q)])->H' q=AX (.lst xs)->H q=AY->Q .non H')
theorem lv:sQz 3 ["self","order","rules","number","rule"] wf:=by nofun
theorem jV{f CO CR CW CT CH:sq}(B:Bt mg)(T:DNT P w K mg base CT)(TS:zdL K mg CH)(DBk:DB P w K mg base CO CR CW)(F:Fun K "__init__" "System.__init__" wf f fd) :(5|||["self","order","rules"]) (qI K CO CR CW CT CH):=by
 obtain⟨fi,fdi,hi,hfn,Fi,Bi⟩:=T.ini
 exists Fun.okX F lv,0
 ·obtain⟨x,dx,o,a,k,l,ns,ps,xs,rfl,hx0,ho,hG,hA,hI,hP,q1,q2⟩:=h
  refine#[_,(zi (zW PassesOwn.leaving rfl (wg rfl B.enum (za (pv 2) zc)) (qd (n:=2) rfl (yb (zx (i:=3) lv.nd rfl (.inl rfl)) (yb (zx (i:=4) lv.nd rfl (.inl rfl)) wG)))
    (zf (zK (zU (yE (zcS DBk hr (pv 1) (za (zo ix_tup (pv 4) zg) (za (zo ix_tup (pv 4) zg) zc))) (λ_=>rfl)))
     (zf (Yz hx rfl T.xi.toXC hi hfn Fi (hr.mono ∅) Bi rfl T.g (za (pv 3) zc)))
     zv)))
   (zi (kH (pv 0) (pv 1) rfl)
   (zf (kH (pv 0) (xn yW rfl B.list PySem.Pv.boot_list (za (pv 2) zc)) rfl)))),?_]
  have s16:=zP;refine zj (λσ H'=>Same H H'/\wJ k l ns ps 0=AY/\∃v3 v4,σ=[!!x,!!o,!!a,v3,v4]) ?_ ?_
  ·ac_rfl;refine#[#[_,SqL.of hA],ForEL.by (xs:=xs) (λi σ H'=>Same H H'/\(∀(j:Nat) (p:zp),j<i->ps[j]? = AX p->zL k l ns p.2 p.1=AZ)/\∃v3 v4,σ=[!!x,!!o,!!a,v3,v4]) #[Same.refl _,λj p h=>absurd h (cq j),_,_,rfl] ?_ ?_ ?_]
   ·rintro i σ H' _ ⟨hs,_⟩;exact SqL.of (hs _ _ hA)
   ·rintro i y σ H' p hy ⟨hs,hb,v3,v4,rfl⟩ hpn;obtain⟨r,pr,hri,rfl,hqr⟩:=hI.getR hy;have hm:=hP r (ag hri);have s2:=hs.trans (ze (o:=.tup [.int (i:Nat),.ref pr]) hpn);have ho2:=ho.same s2;have hq2:=zq s2 hqr;obtain⟨C,dy,fs,hf,hoC,hn,_⟩:=ho2.fam;have hn1:fs.lookup ("before" : sB)=AY:=hn _ ∅ ∅;ac_rfl;refine#[_,SqT.of zd,rfl,_,_,rfl,_,_,rfl,rfl,C,hf,dy,fs,hoC,hn1,_,rfl,_,hq2,_,rfl,_,rfl,_,hq2,_,rfl,o,k,l,ns,r.2,r.1,rfl,ho2,hG,hm.2.1,hm.1,hm.2.2.2,hm.2.2.1,λH3 s3=>?_];have s16:=zP;refine#[_,rfl,yq (λe=>#[⋯,Ui (q1 i (by have:=Wl (j:=0) hb hri e;simpa using this) H3 (s2.trans s3))]) λe=>#[s2.trans s3,λj p' hj hp'=>?_]];by_cases hj':j<i
    ·exact hb j p' hj' hp'
    ·have:j=i:=⋯;rw[this,hri]at hp';cases hp';simpa using e
   ·rintro σ H' ⟨hs,hb,v3,v4,rfl⟩;have hxl:=hI.len;rw[ae]at hxl;exact#[hs,uY λm p e=>hb m p (by have:=(Be.mp e).1;lia) e,v3,v4,rfl]
  rintro σ H1 ⟨s1,hf,v3,v4,rfl⟩:_;right;refine zj (λσ H'=>H'=upd H1 x (.ins CH dx [("order",.ref o)])/\σ=[!!x,!!o,!!a,v3,v4]) ?_ ?_
  ·ac_rfl;exact#[_,_,_,s1 _ _ hx0,TS.cl,TS.no,∅,rfl]
  rintro σ H2 ⟨rfl,rfl⟩:_;right;ac_rfl;have hax:a≠x:=λe=>by rw[e,hx0]at hA;cases hA
  refine#[xs,.inl (SqL.of (by rw[zm hax];exact s1 _ _ hA)),λq hq=>?_];have hqx:q≠x:=λe=>by rw[e,zd]at hq;cases hq
  rw[zm hqx]at hq
  have hqH:H q=AY:=by
   cases e:H q with
   | none=>rfl
   | some o'=>rw[s1 _ _ e]at hq;cases hq
  refine#[CH,dx,_,by rw[zm hqx.symm,zd],TS.cl,TS.nr,by show 1<1000;decide,q2 hf q _ (λb o' hb e=>?_) zd (by rw[zm hqx,zd]) hqH];rw[zm hb,zm (λz=>by rw[z,hqH]at e;cases e),zm hb];exact s1 _ _ e
def KW(K:so)(CH:sq)(H:Hp)(y o q:sq)(ps:List zp):Prop:=∃dx xs,H y=AX (.ins CH dx [("order",.ref o),("rules",.ref q)])/\H q=AX (.lst xs)/\Iss K H (ps.map dR) xs
noncomputable def yO(l m:())(k:Nat):Bool:=decide ((l.drop k).take m.length=m.take (l.length - k))
noncomputable def lf(rs:List zp)(i:Nat):():=(rs.getD i ([],[])).1
theorem wC{i:Nat}{r:zp}(h:rs[i]? = AX r):lf rs i=r.1:=by unfold lf;rw[aa,h];rfl
noncomputable def YK(rs:List zp)(i j n:Nat):List N3:=((aK n).filter λk=>(decide (i≠j) || decide (k≠0)) && yO (lf rs i) (lf rs j) k).map λk=>(i,j,k)
noncomputable def ovI(rs:List zp)(i m:Nat):List N3:=(aK m).flatMap λj=>YK rs i j (lf rs i).length
noncomputable def ovA(rs:List zp)(m:Nat):List N3:=(aK m).flatMap λi=>ovI rs i rs.length
theorem jI(rs:List zp)(i j n:Nat):YK rs i j (n+1)=YK rs i j n ++ (if ((decide (i≠j) || decide (n≠0)) && yO (lf rs i) (lf rs j) n)=AZ then [(i,j,n)]else []):=by
 unfold YK;rw[cE,cL,ay];congr 1
 erw[eO,dc]
 split <;> rfl
theorem qx(rs:List zp)(i m:Nat):ovI rs i (m+1)=ovI rs i m ++ YK rs i m (lf rs i).length:=by
 unfold ovI;rw[cE,cY];simp
theorem ZO(rs:List zp)(m:Nat):ovA rs (m+1)=ovA rs m ++ ovI rs m rs.length:=by
 unfold ovA;rw[cE,cY];simp
theorem qG(rs:List zp)(i j n:Nat):(YK rs i j n).length<=n:=by
 unfold YK;rw[ae];have:=cP (λk=>(decide (i≠j) || decide (k≠0)) && yO (lf rs i) (lf rs j) k) (aK n);rw[cy]at this;exact this
theorem zep(h:ju rs)(i:Nat):(lf rs i).length<=100:=by
 cases e:rs[i]? with
 | none=>unfold lf;rw[aa,e];exact aD _
 | some r=>rw[wC e];exact (h.2 r (ag e)).1
theorem XS(h:ju rs)(i m:Nat):(ovI rs i m).length<=m * 100:=by
 induction m with
 | zero=>exact aD _
 | succ m ih =>
  rw[qx,aj];have h1:=qG rs i m (lf rs i).length;have h2:=zep h i;lia
theorem UV(h:ju rs)(m:Nat):(ovA rs m).length<=m * 3000:=by
 induction m with
 | zero=>exact aD _
 | succ m ih =>
  rw[ZO,aj];have h1:=XS h m rs.length;have h2:=h.1;lia
theorem Vs(l m:())(k:Nat):yO l m k=AZ ↔ ∀j,j<m.length->k+j<l.length->l[k+j]? = m[j]?:=by
 unfold yO;rw[decide_eq_true_eq];constructor
 ·intro h j hj hk;have h1:((l.drop k).take m.length)[j]? =(m.take (l.length - k))[j]?:=by rw[h]
  rw[bt hj,d8,bt ⋯]at h1;exact h1
 ·intro h;refine eh λj=>?_;by_cases hj:j<m.length
  ·rw[bt hj,d8];by_cases hk:k+j<l.length
   ·rw[bt ⋯];exact h j hj hk
   ·rw[bf ⋯,bf (by rw[aG];lia)]
  ·rw[bf (by rw[aG];lia),bf (by rw[aG];lia)]
def kZ:Sp:=λvs H Q _=>∃(l m:()) (k:Nat),vs=[.str (tx l),.str (tx m),.int (k:Nat)]/\l.length<=1000/\m.length<=1000/\k<=l.length/\Q (.bl (yO l m k)) H
theorem YG{l m:()}(h1:l.length<=1000)(h2:m.length<=1000)(h3:k<=l.length)(h:Q (.bl (yO l m k)) H):kZ [.str (tx l),.str (tx m),.int (k:Nat)] H Q E:=#[l,m,k,rfl,h1,h2,h3,h]
theorem J3:sQz 3 ["one","other","place"] Xt:=by nofun
theorem Ke(B:Bt mg)(F:("agree"^^^Xt)) :(1&&&["one","other","place"]) kZ:=by
 exists F.ok J3
 ·obtain⟨l,m,k,rfl,hl,hm,hk,q⟩:=h;refine#[_,(zf (zl (yR vc (ya wA (pv 0) (zY (pv 2)) (zY (zB yu (pv 2) (zA B.len (pv 1))))) (ya wA (pv 1) xJ (zY (zB uo (zA B.len (pv 0)) (pv 2)))) (zC _)))),?_];have s16:=zP
  rfl'
  refine#[⋯,⋯,⋯,⋯,?_];rw[zao _ ⋯ ⋯,Ya _ ⋯];have e1:((k:Int)+(m.length:Int) - (k:Int)).toNat=m.length:=⋯;have e2:((l.length:Int) - (k:Int)).toNat=l.length - k:=⋯;rw[e1,e2];exact q
def vK(K:so):Sp:=λvs H Q _=>∃(a:sq) (rs:List zp),vs=[.ref a]/\Is K H (.lst (rs.map dR)) (.ref a)/\ju rs/\∀D H',H D=AY->Same H H'->LsA K H' D ((ovA rs rs.length).map d3)->Q (.ref D) H'
theorem Z7{a:sq}(h1:Is K H (.lst (rs.map dR)) (.ref a))(h2:ju rs)(h:∀D H',H D=AY->Same H H'->LsA K H' D ((ovA rs rs.length).map d3)->Q (.ref D) H'):vK K [.ref a] H Q E:=#[a,rs,rfl,h1,h2,h]
theorem gE:sQz 1 ["rules","found","i","one","j","other","place"] u7:=by nofun
theorem Xl(B:Bt mg)(F:("overlaps"^^^u7))(rP:(1<<<"agree") ["one","other","place"] [] kZ):(2&&&["rules"]) (vK K):=by
 exists F.ok gE
 ·obtain⟨a,rs,rfl,hR,ok,q⟩:=h
  refine#[_,(zI (zD 1 gE.nd (wy zc))
   (zI (zW PassesOwn.never rfl (wg rfl B.enum (za (pv 0) zc)) (qd (n:=2) rfl (yb (zx (i:=2) gE.nd rfl (.inl rfl)) (yb (zx (i:=3) gE.nd rfl (.inl rfl)) wG)))
    (zf (zW PassesOwn.never rfl (wg rfl B.enum (za (pv 0) zc)) (qd (n:=2) rfl (yb (zx (i:=4) gE.nd rfl (.inl rfl)) (yb (zx (i:=5) gE.nd rfl (.inl rfl)) wG)))
     (zf (zW PassesOwn.never rfl (Yx rfl B.range (za (vn (zy vc (pv 2) (pv 4) (zC _)) zg zg) (za (zA B.len (zo ix_tup (pv 3) zg)) zc))) (zx (i:=6) gE.nd rfl (.inl rfl))
      (zf (zK (yE (cl0 rP hr .nil rfl (za (zo ix_tup (pv 3) zg) (za (zo ix_tup (pv 5) zg) (za (pv 6) zc)))) (λ_=>rfl))
       (zf (xL (uM bz bO bP xq (pv 1) (za (zR (za (pv 2) (za (pv 4) (za (pv 6) zc)))) zc))))
       zv)))))))
   (zf (zl (pv 1))))),?_]
  have s16:=zP
  rfl'
  erw[Is]at hR
  obtain⟨_,xs,e,hX,hI⟩:=hR;cases e;refine#[⋯,λD hD=>#[#[_,(ze hD).seq hX],ForEL.by (xs:=xs) (λi σ H'=>∃v2 v3 v4 v5 v6,σ=[!!a,!!D,v2,v3,v4,v5,v6]/\Same H H'/\LsA K H' D ((ovA rs i).map d3)) #[AY,AY,AY,AY,AY,rfl,ze hD,LsA.nil] ?_ ?_ ?_]]
  ·rintro i σ H' hi ⟨v2,v3,v4,v5,v6,rfl,hs,_⟩;exact hs.seq hX
  ·rintro i x σ H' p hx ⟨v2,v3,v4,v5,v6,rfl,hs,hL⟩ hp;obtain⟨r,pr,hri,rfl,hqr⟩:=hI.getR hx;have er:=wC hri;have hr1:=(ok.2 r (ag hri)).1
   rfl'
   refine#[_,SqT.of zd,rfl,_,_,rfl,_,_,rfl,rfl,#[_,((hs.trans (ze hp)).seq hX)],ForEL.by (xs:=xs) (λj σ H''=>∃v4 v5 v6,σ=[!!a,!!D,-~~~i,!!pr,v4,v5,v6]/\Same H H''/\LsA K H'' D ((ovA rs i ++ ovI rs i j).map d3)) #[v4,v5,v6,rfl,hs.trans (ze hp),by rw[show ovI rs i 0=[]from rfl,aT];exact hL.same (ze hp)] ?_ ?_ ?_]
   ·rintro j σ H2 hj ⟨v4,v5,v6,rfl,hs2,_⟩;exact hs2.seq hX
   ·rintro j y σ H2 p2 hy ⟨v4,v5,v6,rfl,hs2,hL2⟩ hp2;obtain⟨r2,pr2,hri2,rfl,hqr2⟩:=hI.getR hy;have er2:=wC hri2;have hr2:=(ok.2 r2 (ag hri2)).1;have hs3:=hs2.trans (ze (o:=.tup [.int (j:Nat),.ref pr2]) hp2);have hq1:=zq hs3 hqr;have el:(tx r.1).length=r.1.length:=z6 _
    rfl'
    refine#[_,SqT.of zd,rfl,_,_,rfl,_,_,rfl,rfl,rfl,yq (λh=>?_) λh=>?_]
    ·have hij:i=j:=by injection h with h;lia
     have z0:YK rs i j (1+0)=[]:=by
      subst hij;rw[show 1+0=0+1 from rfl,jI];simp [YK]
     have zn:YK rs i j (1+((r.1.length:Int) - 1).toNat)=YK rs i j r.1.length:=by
      by_cases h0:r.1.length=0
      ·rw[h0];exact z0
      ·rw[show 1+((r.1.length:Int) - 1).toNat=r.1.length by lia]
     refine#[_,hq1,_,rfl,_,#[⋯,rfl],∅,∅,⋯,⋯,ForR.by (λt σ H3=>∃v6,σ=[!!a,!!D,-~~~i,!!pr,-~~~j,!!pr2,v6]/\Same H H3/\LsA K H3 D ((ovA rs i ++ ovI rs i j ++ YK rs i j (1+t)).map d3)) #[v6,rfl,hs3,(by rw[z0,aT];exact hL2.same (ze hp2))] ?_ ?_]
     ·refine nm3 ?_;rintro n σ H3 hn ⟨v6,rfl,hs4,hL4⟩:_;have hn':1+n<r.1.length:=⋯;have en:((1:Int)+(n:Int))=((1+n:Nat):Int):=⋯;right;dsimp only;rw[en];obtain⟨ys,hY,hJ⟩:=hL4;have hlen:=hJ.len;have l1:=UV ok i;have l2:=XS ok i j;have l3:=qG rs i j (1+n);have i1:=(Be.mp hri).1;have i2:=(Be.mp hri2).1;have i3:=ok.1
      erw[ae,aj]at hlen
      have es:=jI rs i j (1+n);have etest:(decide (i≠j) || decide (1+n≠0))=AZ:=by rw[show decide (1+n≠0)=AZ from decide_eq_true ⋯,dF]
      rw[etest,fB,er,er2]at es
      rfl'
      refine#[_,zq hs4 hqr,_,rfl,_,zq hs4 hqr2,_,rfl,YG ⋯ ⋯ ⋯ #[_,rfl,yq (λhb=>#[.inl #[_,SqL.of hY],⋯,λt ht=>#[_,ze ht _ _ hY,⋯,zJ (hs4.trans (ze ht)) hD,?_]]) λhb=>#[hs4,ys,hY,?_]]]
      ·rw[hb,if_pos rfl]at es;rw[show 1+(n+1)=1+n+1 by lia,es,<- ar,ay];exact LsA.pushT hY hJ ht zdS (WB _) (by erw[zV,xf,and_self])
      ·have hb':yO r.1 r2.1 (1+n)=Ba:=by simpa using hb
       rw[hb',if_neg az,aT]at es;rw[show 1+(n+1)=1+n+1 by lia,es];exact hJ
     ·rintro σ H3 ⟨v6,rfl,hs4,hL4⟩;refine#[#[_,_,_,rfl],hs4,?_];rw[qx,er,<- ar];rw[el,zn]at hL4;exact hL4
    ·have hij:i≠j:=λz=>h (by rw[z]);refine#[_,hq1,_,rfl,_,#[⋯,rfl],∅,∅,⋯,⋯,ForR.by (λt σ H3=>∃v6,σ=[!!a,!!D,-~~~i,!!pr,-~~~j,!!pr2,v6]/\Same H H3/\LsA K H3 D ((ovA rs i ++ ovI rs i j ++ YK rs i j (0+t)).map d3)) #[v6,rfl,hs3,(by rw[show YK rs i j (0+0)=[]from rfl,aT];exact hL2.same (ze hp2))] ?_ ?_]
     ·refine nm3 ?_;rintro n σ H3 hn ⟨v6,rfl,hs4,hL4⟩:_;have hn':0+n<r.1.length:=⋯;have en:((0:Int)+(n:Int))=((0+n:Nat):Int):=⋯;right;dsimp only;rw[en];obtain⟨ys,hY,hJ⟩:=hL4;have hlen:=hJ.len;have l1:=UV ok i;have l2:=XS ok i j;have l3:=qG rs i j (0+n);have i1:=(Be.mp hri).1;have i2:=(Be.mp hri2).1;have i3:=ok.1
      erw[ae,aj]at hlen
      have es:=jI rs i j (0+n);have etest:(decide (i≠j) || decide (0+n≠0))=AZ:=by rw[show decide (i≠j)=AZ from decide_eq_true hij,Bool.true_or]
      rw[etest,fB,er,er2]at es
      rfl'
      refine#[_,zq hs4 hqr,_,rfl,_,zq hs4 hqr2,_,rfl,YG ⋯ ⋯ ⋯ #[_,rfl,yq (λhb=>#[.inl #[_,SqL.of hY],⋯,λt ht=>#[_,ze ht _ _ hY,⋯,zJ (hs4.trans (ze ht)) hD,?_]]) λhb=>#[hs4,ys,hY,?_]]]
      ·rw[hb,if_pos rfl]at es;rw[show 0+(n+1)=0+n+1 by lia,es,<- ar,ay];exact LsA.pushT hY hJ ht zdS (WB _) (by erw[zV,xf,and_self])
      ·have hb':yO r.1 r2.1 (0+n)=Ba:=by simpa using hb
       rw[hb',if_neg az,aT]at es;rw[show 0+(n+1)=0+n+1 by lia,es];exact hJ
     ·rintro σ H3 ⟨v6,rfl,hs4,hL4⟩;refine#[#[_,_,_,rfl],hs4,?_];rw[qx,er,<- ar];rw[el,show 0+((r.1.length:Int) - 0).toNat=r.1.length by lia]at hL4;exact hL4
   ·rintro σ H2 ⟨v4,v5,v6,rfl,hs2,hL2⟩;have e:=hI.len;rw[ae]at e;rw[e,<- ZO]at hL2;exact#[#[_,_,_,_,_,rfl],hs2,hL2]
  ·rintro σ H' ⟨v2,v3,v4,v5,v6,rfl,hs,hL⟩;have e:=hI.len;rw[ae]at e;rw[e]at hL
   rfl'
   exact q D H' hD hs hL
noncomputable def z8(l m:())(k:Nat):():=l ++ m.drop (l.length - k)
theorem vd(l m:())(k:Nat)(hk:k<=l.length):(z8 l m k).length=max l.length (k+m.length):=by
 unfold z8;rw[aj,bi];lia
theorem kB(l m:())(k:Nat):zr (z8 l m k) 0 l=AZ:=by
  unfold zr z8;refine decide_eq_true #[∅,by rw[aj];lia,?_];rw[show (0:Int).toNat=0 from rfl,dZ,aQ (al _),aP]
theorem ja{l m:()}(hk:k<=l.length)(h:yO l m k=AZ):zr (z8 l m k) (k:Nat) m=AZ:=by
 unfold yO at h;rw[decide_eq_true_eq]at h;have hl:=vd l m k hk;unfold zr;refine decide_eq_true #[⋯,⋯,?_];rw[show ((k:Nat):Int).toNat=k from rfl];unfold z8;rw[bL hk];by_cases hm:m.length<=l.length - k
 ·rw[aQ (by rw[bi];lia),h,bq hm]
 ·rw[bq (by rw[bi];lia)]at h;rw[h,bK,aP]
theorem K3{i j n:Nat}{t:N3}(h:t ∈ YK rs i j n):t.1=i/\t.2.1=j/\t.2.2<n/\yO (lf rs i) (lf rs j) t.2.2=AZ:=by
 unfold YK at h;obtain⟨k,hk,rfl⟩:=Bf.mp h;rw[List.mem_filter,fm,bX]at hk;exact#[rfl,rfl,hk.1,hk.2.2]
theorem uP{t:N3}(h:t ∈ ovA rs rs.length):t.1<rs.length/\t.2.1<rs.length/\t.2.2<(lf rs t.1).length/\yO (lf rs t.1) (lf rs t.2.1) t.2.2=AZ:=by
 unfold ovA ovI at h;obtain⟨i,hi,h⟩:=Br.mp h;obtain⟨j,hj,h⟩:=Br.mp h;obtain⟨e1,e2,e3,e4⟩:=K3 h;rw[e1,e2];exact#[Bl.mp hi,Bl.mp hj,e3,e4]
def Zg(K:so):Sp:=λvs H Q _=>∃(a t:sq) (rs:List zp) (i j k:Nat) (r r2:zp),vs=[.ref a,.ref t]/\Is K H (.lst (rs.map dR)) (.ref a)/\SqT K H t [.int (i:Nat),.int (j:Nat),.int (k:Nat)]/\ju rs/\rs[i]? = AX r/\rs[j]? = AX r2/\k<=r.1.length/\yO r.1 r2.1 k=AZ /\
 ∀p H',H p=AY->Same H H'->H' p=AX (.tup [.str (tx (z8 r.1 r2.1 k)),.str (tx (yF (z8 r.1 r2.1 k) 0 r.1 r.2)),.str (tx (yF (z8 r.1 r2.1 k) (k:Nat) r2.1 r2.2))])->Q (.ref p) H'
theorem WJ{a t:sq}{i j k:Nat}{r r2:zp}(h1:Is K H (.lst (rs.map dR)) (.ref a))(h2:SqT K H t [.int (i:Nat),.int (j:Nat),.int (k:Nat)])(h3:ju rs)(h4:rs[i]? = AX r)(h5:rs[j]? = AX r2)(h6:k<=r.1.length)(h7:yO r.1 r2.1 k=AZ)
 (h:∀p H',H p=AY->Same H H'->H' p=AX (.tup [.str (tx (z8 r.1 r2.1 k)),.str (tx (yF (z8 r.1 r2.1 k) 0 r.1 r.2)),.str (tx (yF (z8 r.1 r2.1 k) (k:Nat) r2.1 r2.2))])->Q (.ref p) H'):Zg K [.ref a,.ref t] H Q E:=#[a,t,rs,i,j,k,r,r2,rfl,h1,h2,h3,h4,h5,h6,h7,h]
theorem Um{CU:sq}{l o n:()}{k:Int}(h1:l.length<=10000)(h2:o.length<=10000)(h3:n.length<=10000)(hs:zr l k o=AZ)(q:Q (.str (tx (yF l k o n))) H):Wr CU [.str (tx l),.int k,.str (tx o),.str (tx n)] H Q E:=#[l,o,n,k,rfl,h1,h2,h3,λ_=>q,λh=>by rw[hs]at h;cases h]
theorem nh:sQz 2 ["rules","overlap","one","other","place","word"] Qx:=by nofun
theorem zbf{f CU:sq}(B:Bt mg)(F:("peak"^^^Qx))(pV:(3>>>"put") ["word","place","old","new"] [] (Wr CU)):(4&&&["rules","overlap"]) (Zg K):=by
 exists F.ok nh
 ·obtain⟨a,t,rs,i,j,k,r,r2,rfl,hR,ht,ok,hr1,hr2,hk,hag,q⟩:=h
  refine#[_,(zi (zD 2 nh.nd (zo ix_list (pv 0) (zo ix_tup (pv 1) zg)))
   (zi (zD 3 nh.nd (zo ix_list (pv 0) (zo ix_tup (pv 1) zg)))
   (zi (zD 4 nh.nd (zo ix_tup (pv 1) zg))
   (zi (zD 5 nh.nd (zB yw (zo ix_tup (pv 2) zg) (ya QA (zo ix_tup (pv 3) zg) (zY (zB uo (zA B.len (zo ix_tup (pv 2) zg)) (pv 4))) xJ)))
   (zf (zl (zR (za (pv 5) (za (clP xe0 pV hr .nil rfl (za (pv 5) (za zg (za (zo ix_tup (pv 2) zg) (za (zo ix_tup (pv 2) zg) zc))))) (za (clP xe0 pV hr .nil rfl (za (pv 5) (za (pv 4) (za (zo ix_tup (pv 3) zg) (za (zo ix_tup (pv 3) zg) zc))))) zc)))))))))),?_]
  have s16:=zP
  erw[Is]at hR
  obtain⟨_,xs,e,hX,hI⟩:=hR;cases e;obtain⟨p1,a1,q1⟩:=zfB hI hr1;obtain⟨p2,a2,q2⟩:=zfB hI hr2;have b1:=ok.2 r (ag hr1);have b2:=ok.2 r2 (ag hr2);refine zj (λσ H'=>H'=H/\σ=[!!a,!!t,!!p1,AY,AY,AY]) ?_ ?_
  ·rfl'
   exact#[_,ht,_,rfl,_,rfl,_,hX,a1]
  rintro σ H1 ⟨rfl,rfl⟩:_;right;refine zj (λσ H'=>H'=H1/\σ=[!!a,!!t,!!p1,!!p2,AY,AY]) ?_ ?_
  ·rfl'
   exact#[_,ht,_,rfl,_,rfl,_,hX,a2]
  rintro σ H2 ⟨rfl,rfl⟩:_;right;refine zj (λσ H'=>H'=H2/\σ=[!!a,!!t,!!p1,!!p2,-~~~k,AY]) ?_ ?_
  ·rfl'
   exact#[_,ht,rfl]
  rintro σ H3 ⟨rfl,rfl⟩:_;right;refine zj (λσ H'=>H'=H3/\σ=[!!a,!!t,!!p1,!!p2,-~~~k,AX (.str (tx (z8 r.1 r2.1 k)))]) ?_ ?_
  ·rfl'
   refine#[_,q1,_,rfl,_,q2,_,rfl,_,q1,_,rfl,_,#[by rw[z6];lia,rfl],#[by rw[z6];lia,_,rfl,_,rfl,?_,rfl,?_]]
   ·erw[z6,XF]
    have:=wN r2.1 (AX ((r.1.length:Int) - (k:Int))) AY;lia
   ·rw[z6,XF,wP,qH _ ⋯,show ((r.1.length:Int) - (k:Int)).toNat=r.1.length - k by lia];rfl
  rintro σ H4 ⟨rfl,rfl⟩:_;have hw:=vd r.1 r2.1 k hk;right
  rfl'
  exact#[_,q1,_,rfl,_,q1,_,rfl,Um ⋯ ⋯ ⋯ (kB _ _ _) #[_,q2,_,rfl,_,q2,_,rfl,Um ⋯ ⋯ ⋯ (ja hk hag) #[⋯,λp hp=>q p _ hp (ze hp) zd]]]
def FmOk(ps:List zp)(most:Int)(m:sB->Option V):Prop:=∀k v,m k=AX v->∃(w:()) (J:Nat),k=tx w/\v=.str (tx (wAt ps w J))/\Vp ps w J/\zF (wAt ps w J) ps=AY/\(J:Int)<=most
theorem FmOk.get{most:Int}{m:sB->Option V}(h:FmOk ps most m){w:()}{v:V}(e:m (tx w)=AX v){J:Nat}(hl:Vp ps w J)(hf:zF (wAt ps w J) ps=AY):v=.str (tx (wAt ps w J)):=by
 obtain⟨w',J',e1,e2,e3,e4,_⟩:=h _ _ e;have e5:=jO e1;subst e5;rw[e2,J6 e3 e4 hl hf]
theorem FmOk.put{most:Int}{m:sB->Option V}(h:FmOk ps most m){w:()}{J:Nat}(hl:Vp ps w J)(hf:zF (wAt ps w J) ps=AY)(hJ:(J:Int)<=most):FmOk ps most (λx=>if x=tx w then AX (.str (tx (wAt ps w J)))else m x):=λk v e=>by
 by_cases hk:k=tx w
 ·erw[hk,if_true]at e
  cases e;exact#[w,J,hk,rfl,hl,hf,hJ]
 ·erw[hk,if_false]at e
  exact h k v e
def Y5(P:sy)(w:sC)(K:so)(CF:sq):Sp:=λvs H Q E=>∃(a F:sq) (l:()) (ps:List zp) (m:Int) (J n:Nat) (mp:sB->Option V),vs=[.ref a,.str (tx l),.int m,.ref F]/\LsA K H a (ps.map dR)/\NeL ps/\ps.length<=100/\(∀p ∈ ps,p.1.length<=1000/\p.2.length<=1000)/\Rd ps l J/\H F=AX (jP P w F mp n)/\FmOk ps m mp/\n<=10000 /\
 ((zF (wAt ps l J) ps=AY/\(J:Int)<=m/\∀(mp':sB->Option V) (n':Nat) (H':Hp),SamT F H H'->H' F=AX (jP P w F mp' n')->FmOk ps m mp'->n'<=n+1->Q (.str (tx (wAt ps l J))) H') \/
  (zF (wAt ps l J) ps≠AY/\(J:Int)=m/\∀H',Same H H'->E (.ref CF) AY H'))
theorem Vi:sQz 4 ["rules","word","most","forms"] jE:=by nofun
theorem VI{f CF:sq}{iO:Aa}(B:Bt mg)(F:("form_of"^^^jE))(nc:(4>>>"gone") ["rules","word","most"] [] (xM K CF))(DD_gone:(4>>>"gone") ["rules","word","most"] [.int 4000 iO] (xM K CF)):(5|||["rules","word","most","forms"]) (Y5 P w K CF):=by
 exists Fun.okX F Vi,0
 ·obtain⟨a,F0,l,ps,m,J,n,mp,rfl,hA,hN,hpl,hP,hR,hF,hM,hn,hq⟩:=h
  refine#[_,(zi (zK (zy JF (pv 1) (pv 3) (by with_unfolding_all rfl))
    (zf (zdz (zo ix_tup (clP hx nc hr .nil rfl (za (pv 0) (za (pv 1) (za (pv 2) zc)))) zg) (zew (pv 3) (pv 1) JU (by intro _;rfl))))
    zv)
   (zf (zl (zo za4 (pv 3) (pv 1))))),?_]
  have s16:=zP;have s16:=zP;refine zj (λσ H'=>SamT F0 H H'/\zF (wAt ps l J) ps=AY/\(J:Int)<=m/\(∃(mp':sB->Option V) (n':Nat),H' F0=AX (jP P w F0 mp' n')/\FmOk ps m mp'/\n'<=n+1/\mp' (tx l)=AX (.str (tx (wAt ps l J))))/\σ=[!!a,~~~l,~~~!m,!!F0]) ?_ ?_
  ·rfl'
   refine#[F0,mp,n,tx l,rfl,rfl,hF,_,rfl,yq (λhnone=>#[a,l,ps,m,J,rfl,hA,hN,hpl,hP,hR,?_]) λhsome=>?_]
   ·rcases hq with ⟨hf,hJ,_⟩ | h
    ·refine .inl #[hf,hJ,λp S H' s' hp _ _=>#[p,rfl,_,SqT.of hp,_,rfl,?_]]
     erw[zgd]
     rfl'
     exact#[F0,mp,n,tx l,rfl,rfl,s' _ _ hF,⋯,λb o hb e=>by rw[zm hb];exact s' _ _ e,hf,hJ,_,_,zd,hM.put hR.live hf hJ,al _,if_pos rfl]
    ·exact .inr h
   ·cases hv:mp (tx l)with
    | none=>rw[hv]at hsome;exact absurd rfl hsome
    | some v =>
     obtain⟨w',J',e1,e2,e3,e4,e5⟩:=hM _ _ hv;have e6:=jO e1;subst e6;rcases hq with ⟨hf,hJ,_⟩ | ⟨hf,hJ,_⟩
     ·exact#[λb o _ e=>e,hf,hJ,mp,n,hF,hM,⋯,by rw[hM.get hv hR.live hf]at hv;exact hv]
     ·exfalso;rcases dH J' J with h | h
      ·exact hR.live J' h e4
      ·have:J'=J:=⋯;subst this;exact hf e4
  rintro σ H1 ⟨s1,hf,hJ,⟨mp',n',h1,h2,h3,h4⟩,rfl⟩:_;right
  rfl'
  refine#[F0,mp',n',tx l,_,rfl,rfl,h1,h4,?_];rcases hq with ⟨_,_,q⟩ | ⟨h,_⟩
  ·exact q mp' n' H1 s1 h1 h2 h3
  ·exact absurd hf h
noncomputable def pkA(ps:List zp)(t:N3):():=yF (z8 (lf ps t.1) (lf ps t.2.1) t.2.2) 0 (lf ps t.1) (ps.getD t.1 ([],[])).2
noncomputable def pkB(ps:List zp)(t:N3):():=yF (z8 (lf ps t.1) (lf ps t.2.1) t.2.2) (t.2.2:Nat) (lf ps t.2.1) (ps.getD t.2.1 ([],[])).2
inductive zcN(ps:List zp)(m:Int)(l:()):Option Nat->Prop where
 | yes {J:Nat} (h:Rd ps l J) (h1:zF (wAt ps l J) ps=AY) (h2:(J:Int)<=m):zcN ps m l (AX J)
 | no {J:Nat} (h:Rd ps l J) (h1:zF (wAt ps l J) ps≠AY) (h2:(J:Int)=m):zcN ps m l AY
def Z1(P:sy)(w:sC)(K:so)(CF:sq):Sp:=λvs H Q E=>∃(a t F:sq) (ps:List zp) (tr:N3) (m:Int) (n:Nat) (mp:sB->Option V) (g1 g2:Option Nat),vs=[.ref a,.ref t,.int m,.ref F]/\LsA K H a (ps.map dR)/\NeL ps/\ju ps/\SqT K H t [.int (tr.1:Nat),.int (tr.2.1:Nat),.int (tr.2.2:Nat)]/\tr ∈ ovA ps ps.length/\H F=AX (jP P w F mp n)/\FmOk ps m mp/\n<=9000/\zcN ps m (pkA ps tr) g1/\zcN ps m (pkB ps tr) g2 /\
 (∀(J1 J2:Nat) (mp':sB->Option V) (n':Nat) (H':Hp),g1=AX J1->g2=AX J2->SamT F H H'->H' F=AX (jP P w F mp' n')->FmOk ps m mp'->n'<=n+2->Q (.bl (decide (wAt ps (pkA ps tr) J1=wAt ps (pkB ps tr) J2))) H') /\
 ((g1=AY\/g2=AY)->∀H',SamT F H H'->E (.ref CF) AY H')
theorem WP{P:sy}{w:sC}{CF a F:sq}{l:()}{m:Int}{mp:sB->Option V}{g:Option Nat}(hA:LsA K H a (ps.map dR))(hN:NeL ps)(hok:ju ps)(hF:H F=AX (jP P w F mp n))(hM:FmOk ps m mp)(hn:n<=10000)(hg:zcN ps m l g)
  (h1:∀(J:Nat) (mp':sB->Option V) (n':Nat) (H':Hp),g=AX J->SamT F H H'->H' F=AX (jP P w F mp' n')->FmOk ps m mp'->n'<=n+1->Q (.str (tx (wAt ps l J))) H') (h2:g=AY->∀H',Same H H'->E (.ref CF) AY H'):Y5 P w K CF [.ref a,.str (tx l),.int m,.ref F] H Q E:=by
 have hP:∀p ∈ ps,p.1.length<=1000/\p.2.length<=1000:=λp hp=>by have:=hok.2 p hp;lia
 have hl:ps.length<=100:=by have:=hok.1;lia
 cases hg with
 | yes h e1 e2=>exact#[a,F,l,ps,m,_,n,mp,rfl,hA,hN,hl,hP,h,hF,hM,hn,.inl #[e1,e2,λmp' n' H' a1 a2 a3 a4=>h1 _ mp' n' H' rfl a1 a2 a3 a4]]
 | no h e1 e2=>exact#[a,F,l,ps,m,_,n,mp,rfl,hA,hN,hl,hP,h,hF,hM,hn,.inr #[e1,e2,h2 rfl]]
theorem jj{F t:sq}{H H':Hp}{P:sy}{w:sC}{mp:sB->Option V}{xs:List V}(s:SamT F H H')(hF:H F=AX (jP P w F mp n))(h:SqT K H t xs):SqT K H' t xs:=by
 rcases h with (h | ⟨o,h⟩) | h
 ·exact .inl (.inl (s _ _ (λz=>by rw[z,hF]at h;cases h) h))
 ·exact .inl (.inr #[o,s _ _ (λz=>by rw[z,hF]at h;cases h) h])
 ·exact .inr h
theorem WL{F a:sq}{H H':Hp}{P:sy}{w:sC}{mp:sB->Option V}(s:SamT F H H')(hF:H F=AX (jP P w F mp n))(h:LsA K H a (ps.map dR)):LsA K H' a (ps.map dR):=by
 obtain⟨xs,h1,h2⟩:=h;refine#[xs,s _ _ (λz=>by rw[z,hF]at h1;cases h1) h1,?_]
 have key:∀(qs:List zp) (vs:List V),Iss K H (qs.map dR) vs->Iss K H' (qs.map dR) vs:=by
  intro qs
  induction qs with
  | nil=>intro vs h;erw[aL,Iss]at h ⊢;exact h
  | cons q qs ih =>
   intro vs h
   erw[au,Iss]at h ⊢
   obtain⟨v,r,e,h3,h4⟩:=h;obtain⟨p,rfl,h5⟩:=zc7 h3;exact#[_,r,e,zfm (jj s hF h5),ih r h4]
 exact key ps xs h2
theorem mT:sQz 4 ["rules","overlap","most","forms","sides","one","other"] Zc:=by nofun
theorem Uy{f CF:sq}(B:Bt mg)(F:("is_met"^^^Zc))(pY:(4<<<"peak") ["rules","overlap"] [] (Zg K))(pK:(5>>>"form_of") ["rules","word","most","forms"] [] (Y5 P w K CF)):(6|||["rules","overlap","most","forms"]) (Z1 P w K CF):=by
 exists Fun.okX F mT,0
 ·obtain⟨a,t,F0,ps,tr,m,n,mp,g1,g2,rfl,hA,hN,hok,ht,htr,hF,hM,hn,hg1,hg2,q1,q2⟩:=h
  refine#[_,(zi (zD 4 mT.nd (cl0 pY hr .nil rfl (za (pv 0) (za (pv 1) zc))))
   (zi (zD 5 mT.nd (clP hx pK hr .nil rfl (za (pv 0) (za (zo ix_tup (pv 4) zg) (za (pv 2) (za (pv 3) zc))))))
   (zi (zD 6 mT.nd (clP hx pK hr .nil rfl (za (pv 0) (za (zo ix_tup (pv 4) zg) (za (pv 2) (za (pv 3) zc))))))
   (zf (zl (yR vc (pv 5) (pv 6) (zC _))))))),?_]
  have s16:=zP;have s16:=zP;obtain⟨i1,i2,i3,i4⟩:=uP htr;obtain⟨r,hr⟩:∃r,ps[tr.1]? = AX r:=#[_,ah i1];obtain⟨r2,hr2⟩:∃r,ps[tr.2.1]? = AX r:=#[_,ah i2];have l1:=wC hr;have l2:=wC hr2;have d1:ps.getD tr.1 ([],[])=r:=by rw[aa,hr];rfl
  have d2:ps.getD tr.2.1 ([],[])=r2:=by rw[aa,hr2];rfl
  have eA:pkA ps tr=yF (z8 r.1 r2.1 tr.2.2) 0 r.1 r.2:=by unfold pkA;rw[l1,l2,d1]
  have eB:pkB ps tr=yF (z8 r.1 r2.1 tr.2.2) (tr.2.2:Nat) r2.1 r2.2:=by unfold pkB;rw[l1,l2,d2]
  rw[l1]at i3;rw[l1,l2]at i4;refine zj (λσ H'=>Same H H'/\∃p:sq,(∃x,H' p=AX (.tup [x,.str (tx (pkA ps tr)),.str (tx (pkB ps tr))]))/\σ=[!!a,!!t,~~~!m,!!F0,!!p,AY,AY]) ?_ ?_
  ·rfl'
   exact WJ hA.is ht hok hr hr2 ⋯ i4 λp H' _ s' hp=>#[s',p,#[_,by rw[eA,eB];exact hp],rfl]
  rintro σ H1 ⟨s1,p,⟨x,hp⟩,rfl⟩:_;have hF1:=s1 _ _ hF;right;refine zj (λσ H'=>SamT F0 H1 H'/\∃(J1:Nat),g1=AX J1/\(∃mp' n',H' F0=AX (jP P w F0 mp' n')/\FmOk ps m mp'/\n'<=n+1)/\σ=[!!a,!!t,~~~!m,!!F0,!!p,AX (.str (tx (wAt ps (pkA ps tr) J1))),AY]) ?_ ?_
  ·rfl'
   refine#[_,SqT.of hp,_,rfl,WP (hA.same s1) hN hok hF1 hM ⋯ hg1 (λJ mp' n' H' e a1 a2 a3 a4=>?_) λe H' s'=>q2 (.inl e) H' (SamT.of (s1.trans s'))];exact#[a1,J,e,#[mp',n',a2,a3,a4],rfl]
  rintro σ H2 ⟨s2,J1,e1,⟨mp1,n1,hF2,hM2,hn2⟩,rfl⟩:_;have s12:SamT F0 H H2:=(SamT.of s1).trans s2;have hpF:p≠F0:=λz=>by rw[z,hF1]at hp;cases hp
  right;refine zj (λσ H'=>SamT F0 H2 H'/\∃(J2:Nat),g2=AX J2/\(∃mp' n',H' F0=AX (jP P w F0 mp' n')/\FmOk ps m mp'/\n'<=n+2)/\σ=[!!a,!!t,~~~!m,!!F0,!!p,AX (.str (tx (wAt ps (pkA ps tr) J1))),AX (.str (tx (wAt ps (pkB ps tr) J2)))]) ?_ ?_
  ·rfl'
   exact#[_,SqT.of (s2 _ _ hpF hp),_,rfl,WP (WL s2 hF1 (hA.same s1)) hN hok hF2 hM2 ⋯ hg2 (λJ mp' n' H' e a1 a2 a3 a4=>#[a1,J,e,#[mp',n',a2,a3,⋯],rfl]) λe H' s'=>q2 (.inr e) H' (s12.trans (SamT.of s'))]
  rintro σ H3 ⟨s3,J2,e2,⟨mp2,n2,hF3,hM3,hn3⟩,rfl⟩:_;right
  rfl'
  exact q1 J1 J2 mp2 n2 H3 e1 e2 (s12.trans s3) hF3 hM3 hn3
def Zx(K:so)(CH:sq):Sp:=λvs H Q _=>∃(y o q:sq) (ps:List zp),vs=[.ref y]/\KW K CH H y o q ps/\∀(r:sq) (H':Hp),Same H H'->LsA K H' r (ps.map dR)->H r=AY->Q (.ref r) H'
theorem vv:sQz 1 ["self"] yA:=by nofun
theorem vz{f CH:sq}(B:Bt mg)(TS:zdL K mg CH)(F:Fun K "rules_told" "System.rules_told" yA f fd) :(1&&&["self"]) (Zx K CH):=by
 exists F.ok vv
 ·obtain⟨y,o,q,ps,rfl,hy,k⟩:=h;refine#[_,(zf (zl (xn yW rfl B.list PySem.Pv.boot_list (za (vW (pv 0) rfl) zc)))),?_];have s16:=zP
  rfl'
  obtain⟨dx,xs,h1,h2,h3⟩:=hy;exact#[_,_,_,h1,TS.cl,TS.nr,_,rfl,_,rfl,_,.inl (SqL.of h2),λr hr'=>k r _ (ze hr') #[xs,zd,Iss.same (ze hr') _ _ h3] hr']
noncomputable def goJ(ps:List zp)(m:Nat)(v:()):Option Nat:=(aK (m+1)).find? λj=>(zF (wAt ps v j) ps).isNone
theorem Ku{m:Nat}{v:()}{i:Nat}(e:goJ ps m v=AX i):i<=m/\Vp ps v i/\zF (wAt ps v i) ps=AY:=by
 unfold goJ at e;have h1:=dJ e;have h2:zF (wAt ps v i) ps=AY:=Option.isNone_iff_eq_none.mp h1;have hm:=Bl.mp (eD e);refine#[⋯,λn hn hno=>?_,h2];obtain⟨_,as,bs,e2,h3⟩:=List.find?_eq_some_iff_append.mp e
 have hlen:as.length=i:=by
  have:=congrArg (λl=>l[as.length]?) e2
  erw[bA (al _),eP,cI]at this
  obtain⟨h7,h8⟩:=Be.mp this;rw[fM]at h8;exact h8
 have h9:(aK (m+1))[n]? = as[n]?:=by rw[e2,bB ⋯]
 have h10:n<(aK (m+1)).length:=by rw[cy];lia
 rw[ah h10,fM]at h9;have:=h3 n (ag h9.symm);rw[hno]at this;cases this
theorem KS{m:Nat}{v:()}(e:goJ ps m v=AY):∀j,j<=m->zF (wAt ps v j) ps≠AY:=λj hj hno=>by
 unfold goJ at e;have:=Bz.mp e j (Bl.mpr ⋯);rw[hno]at this;exact this rfl
theorem Jp{m:Nat}{v:()}(hl:∀j,j<=m->(wAt ps v j).length<=10000)(hm:m<=10000):zcN ps (m:Int) v (goJ ps m v):=by
 cases e:goJ ps m v with
 | some i =>
  obtain⟨h1,h2,h3⟩:=Ku e;exact .yes #[h2,λj hj=>hl j ⋯,⋯] h3 ⋯
 | none =>
  have h:=KS e;exact .no (J:=m) #[λi hi=>h i ⋯,λj hj=>hl j hj,hm] (h m (al _)) rfl
noncomputable def zcL(ps:List zp)(m:Nat)(v:()):():=wAt ps v ((goJ ps m v).getD 0)
noncomputable def Jz(ps:List zp)(m:Nat)(t:N3):Bool:=decide (zcL ps m (pkA ps t)=zcL ps m (pkB ps t))
def OkG(ps:List zp)(m:Nat)(t:N3):Prop:=(goJ ps m (pkA ps t)).isSome=AZ/\(goJ ps m (pkB ps t)).isSome=AZ
def zf2(ps:List zp)(m:Nat):Prop:=m<=10000/\∀t ∈ ovA ps ps.length,(∀j,j<=m->(wAt ps (pkA ps t) j).length<=10000)/\∀j,j<=m->(wAt ps (pkB ps t) j).length<=10000
theorem zbk{t:N3}{m J1 J2:Nat}(e1:goJ ps m (pkA ps t)=AX J1)(e2:goJ ps m (pkB ps t)=AX J2):decide (wAt ps (pkA ps t) J1=wAt ps (pkB ps t) J2)=Jz ps m t:=by
 unfold Jz zcL;rw[e1,e2];rfl
theorem zdo{m:Nat}{t:N3}(h:goJ ps m (pkA ps t)=AY\/goJ ps m (pkB ps t)=AY):¬ OkG ps m t:=λho=>by
 obtain⟨h1,h2⟩:=ho;rcases h with h | h
 ·rw[h]at h1;cases h1
 ·rw[h]at h2;cases h2
theorem FmOk.nil{m:Int}:FmOk ps m λ_=>AY:=λk v e=>by cases e
theorem YL{F:sq}{H H':Hp}{P:sy}{w:sC}{mp:sB->Option V}(s:SamT F H H')(hF:H F=AX (jP P w F mp n)):∀{ts:List N3} {vs:List V},Iss K H (ts.map d3) vs->Iss K H' (ts.map d3) vs
 | [],vs,h=>by erw[aL,Iss]at h ⊢;exact h
 | t::ts,vs,h=>by
  erw[au,Iss]at h ⊢
  obtain⟨v,r,e,h3,h4⟩:=h;refine#[v,r,e,?_,YL s hF h4]
  erw[d3,Is]at h3 ⊢
  obtain⟨a,xs,e1,e2,e3⟩:=h3;refine#[a,xs,e1,jj s hF e2,?_]
  erw[Iss,Is]at e3 ⊢
  exact e3
noncomputable def unG(ps:List zp)(m:Nat):List N3:=(ovA ps ps.length).filter λt=>!Jz ps m t
def vX(K:so)(CH CF:sq):Sp:=λvs H Q E=>∃(y o q:sq) (ps:List zp) (m:Nat),vs=[.ref y,.int (m:Nat)]/\KW K CH H y o q ps/\NeL ps/\ju ps/\(ovA ps ps.length).length<=4000/\zf2 ps m /\
 ((∀t ∈ ovA ps ps.length,OkG ps m t)->∀D H',Same H H'->H D=AY->LsA K H' D ((unG ps m).map d3)->Q (.ref D) H')/\(∀t ∈ ovA ps ps.length,¬ OkG ps m t->∀H',Same H H'->E (.ref CF) AY H')
theorem oE:sQz 2 ["system","most","rules","forms"] xF:=by nofun
theorem K4{f CF CH:sq}{dV:sr}(B:Bt mg)(TS:zdL K mg CH)(F:FunD K "unmet" "unmet" xF dV f fd)(rB:(2<<<"overlaps") ["rules"] [] (vK K))(rM:(6>>>"is_met") ["rules","overlap","most","forms"] [] (Z1 P w K CF))(M_system_rules_told:DM P w K mg base CX0 1 CH "rules_told" ["self"] (Zx K CH)):(7|||["system","most"]) (vX K CH CF):=by
 exists FunD.okX F oE,0
 ·obtain⟨y,o,q,ps,m,rfl,hy,hN,hok,hlen,hE,k1,k2⟩:=h
  refine#[_,(zi (qk (i:=2) oE.nd rfl (Or.inr rfl) (me0 M_system_rules_told TS.cl hr (pv 0)))
   (zi (qk (i:=3) oE.nd rfl (Or.inr rfl) za9)
   (zf (zl (Yr (EX:=E) (own:=["overlap"]) (caps:=["rules","most","forms"]) (ix:=[2,1,3]) (tt:=(zcO (tBl (uR (Z1 P w K CF) [] E (zM (ym 1) (zM (ym 0) (zM (ym 2) (zM (ym 3) xH)))))))) (te:=(ym 0)) rfl (zN (sc:=zh xF) rfl (by symm) (by symm) (by symm) rfl (by symm) (by symm) rfl) #[rfl,rfl] hx (yj (cl0 rB hr .nil rfl (za (pv 2) zc))) (λ_ _ _ _ _ _=>zx (i:=0) (show List.Nodup [_,_,_,_] by decide) rfl (.inl rfl)) (λ_ _ _ _ _ _ _ hx'=>(Uz (zU (yE (clP hx' rM hr .nil rfl (za (pv 1) (za (pv 0) (za (pv 2) (za (pv 3) zc))))) (λ_=>rfl))))) (λ_ _ _ _ _ _ _ _=>(pv 0))))))),?_]
  have s16:=zP;have s16:=zP;obtain⟨dx,xs0,h1,h2,h3⟩:=id hy;refine zj (λσ H'=>Same H H'/\∃r:sq,LsA K H' r (ps.map dR)/\σ=[!!y,-~~~m,!!r,AY]) ?_ ?_
  ·rfl'
   exact#[_,_,h1,rfl,y,o,q,ps,rfl,hy,λr H1 s1 hA hr'=>#[s1,r,hA,rfl]]
  rintro σ H1 ⟨s1,r,hA,rfl⟩:_;right;refine zj (λσ H'=>Same H H'/\LsA K H' r (ps.map dR)/\∃F:sq,H F=AY/\H' F=AX (jP P w F (λ_=>AY) 0)/\σ=[!!y,-~~~m,!!r,!!F]) ?_ ?_
  ·rfl'
   erw[zdR]
   intro F hF;have s2:=ze (o:=jP P w F (λ_=>AY) 0) hF
   rfl'
   exact#[s1.trans s2,hA.same s2,F,s1.free hF,zd,rfl]
  rintro σ H2 ⟨s2,hA2,F,hF0,hF,rfl⟩:_;right
  rfl'
  refine Z7 hA2.is hok λO H3 hO s3 hL=>#[O,rfl,?_,λD hD=>?_]
  ·obtain⟨xs,hX,_⟩:=hL;exact#[_,SqL.of hX]
  obtain⟨xs,hX,hI⟩:=hL;have hxl:=hI.len;rw[ae]at hxl;have hF3:=s3 _ _ hF;have s03:=s2.trans s3;have hDF:D≠F:=λz=>by rw[z,hF3]at hD;cases hD
  have hOF:O≠F:=λz=>by rw[z,hF3]at hX;cases hX
  have back:∀{G:Hp},SamT F H3 G->Same H G:=λ{G} sT b o' e=>sT b o' (λz=>by rw[z,hF0]at e;cases e) (s03 b o' e);refine CompL.by (xs:=xs) (λi Bd H'=>SamT F H3 H'/\H' D=AX (.lst Bd)/\(∃(mp:sB->Option V) (n:Nat),H' F=AX (jP P w F mp n)/\FmOk ps (m:Nat) mp/\n<=2 * i)/\Iss K H3 ((((ovA ps ps.length).take i).filter λt=>!Jz ps m t).map d3) Bd/\∀t ∈ (ovA ps ps.length).take i,OkG ps m t) #[SamT.of (ze hD),zd,#[_,0,by rw[zm (λz=>hDF z.symm)];exact hF3,FmOk.nil,⋯],by erw[bS,dc,aL,Iss],λt ht=>by simp at ht] (λi Bd H' _ h=>SqL.of (h.1 _ _ hOF hX)) ?_ ?_
  ·refine nm4 ?_;rintro i x Bd H' hx ⟨sT,hH,⟨mp,n,hFm,hM,hn⟩,hI',hle⟩:_;have hil:=(Be.mp hx).1;obtain⟨t,p,ht,rfl,hp⟩:=hI.get3 hx;have htm:=ag ht;have hE':=hE.2 t htm
   have hal:Bd.length<=i:=by
    have:=hI'.len;rw[ae]at this;have h5:=cP (λt=>!Jz ps m t) ((ovA ps ps.length).take i);rw[aG]at h5;lia
   right
   erw[zcO,tBl]
   rfl'
   refine#[xx,r,p,F,ps,t,(m:Nat),n,mp,_,_,rfl,WL sT hF3 (hA2.same s3),hN,hok,jj sT hF3 hp,htm,hFm,hM,⋯,Jp hE'.1 hE.1,Jp hE'.2 hE.1,λJ1 J2 mp' n' H5 e1 e2 s5 hF5 hM5 hn5=>?_,λh H5 s5=>k2 t htm (zdo h) H5 (back (sT.trans s5))]
   have hle':∀t' ∈ (ovA ps ps.length).take (i+1),OkG ps m t':=λt' ht'=>by
    rw[zX ht]at ht';rcases Bh.mp ht' with h | h
    ·exact hle t' h
    ·rw[Bj.mp h];exact#[by rw[e1];rfl,by rw[e2];rfl]
   rw[zbk e1 e2]
   have hcase:∀b,Jz ps m t=b->(!b)=AZ->Iss K H3 ((((ovA ps ps.length).take (i+1)).filter λt=>!Jz ps m t).map d3) (Bd ++ [.ref p]):=λb hb hb'=>by
    rw[zX ht,cL,ay];refine Iss.append hI' ?_;rw[eO,hb,if_pos hb']
    erw[dc,au,aL,Iss]
    refine#[_,[],rfl,?_,rfl]
    erw[d3,Is,Iss]
    exact#[p,_,rfl,hp,_,_,rfl,rfl,_,_,rfl,rfl,_,_,rfl,rfl,rfl]
   refine#[_,rfl,?_]
   cases hb:Jz ps m t with
   | false =>
    rw[if_pos rfl];refine#[s5 _ _ hDF hH,⋯,CNx.mk hil #[λb o' hbF e=>?_,zd,#[mp',n',by rw[zm (λz=>hDF z.symm)];exact hF5,hM5,⋯],hcase _ hb rfl,hle']];rw[zm (λz=>by rw[z,hD]at e;cases e)];exact s5 b o' hbF (sT b o' hbF e)
   | true =>
    rw[if_neg ∅];refine CNx.mk hil #[sT.trans s5,s5 _ _ hDF hH,#[mp',n',hF5,hM5,⋯],?_,hle'];rw[zX ht,cL,eO,hb]
    erw[fA,bD,if_false,dc,aT]
    exact hI'
  ·rintro Bd H' ⟨sT,hH,_,hI',hle⟩;rw[hxl,aP]at hI' hle;exact k1 hle D H' (back sT) (s03.free hD) #[Bd,hH,YL sT hF3 hI']
theorem zfw{p:sq}{a b:V}{i j:Nat}{σ:L2.St}{R:L2.St->Hp->Prop}(h:SqT K H p [a,b])(k:R ((σ.set i (AX a)).set j (AX b)) H):zbg K 2 (jZ (yy i) (jZ (yy j) zbb)) (.ref p) σ H R:=by
 erw[zbg,jZ,yy,zbb]
 first
 | exact⟨_,_,rfl,h,rfl,_,_,rfl,_,_,rfl,rfl,k⟩
 | exact⟨_,_,rfl,.inr h,rfl,_,_,rfl,_,_,rfl,rfl,k⟩
theorem EnsA.app{fs:List Ent}{us:List V}(hf:EnsA K H fs us):∀{es:List Ent} {vs:List V},EnsA K H es vs->EnsA K H (es ++ fs) (vs ++ us)
 | [],vs,h=>by
  erw[EnsA]at h
  subst h;exact hf
 | e::es,vs,h=>by
  erw[EnsA]at h
  obtain⟨x,r,rfl,hx,hr⟩:=h
  erw[bv,EnsA]
  exact#[x,r ++ us,rfl,hx,hf.app hr]
abbrev MkS(P:sy)(w:sC)(K:so)(mg:sB->Option sr)(base:sI)(CO CR CW CT CH:sq):Prop:=DMk P w K mg base (CXx P w) 5 CH ["self","order","rules"] (qI K CO CR CW CT CH)
theorem zcy{Q:sq->Hp->Prop}{CO CR CW CT CH o a:sq}{l:()}(ho:OrdAt CO CR CW H o k l ns)(hG:OG l ns k)(hA:LsA K H a (ps.map dR))(hin:InL l ps)(hf:wJ k l ns ps 0=AY)(q:∀(y qa:sq) (H':Hp),Same H H'->KW K CH H' y o qa ps->Q y H'):∀x dx,H x=AY->H dx=AY->dx≠x->qI K CO CR CW CT CH [.ref x,.ref o,.ref a] (upd (upd H dx (.own x)) x (.ins CH dx [])) (λv H'=>v=.non/\Q x H') E0:=by
 intro x dx hx hdx hne;obtain⟨xs,hX,hI⟩:=hA;have sd:=ze (o:=.own x) hdx
 have k1:Same H (upd (upd H dx (.own x)) x (.ins CH dx [])):=λb' o' e=>by
  rw[zm (zG e hx)];exact sd _ _ e
 refine#[x,dx,o,a,k,l,ns,ps,xs,rfl,zd,ho.same k1,hG,k1 _ _ hX,Iss.same k1 _ _ hI,hin,(λi e=>by rw[hf]at e;cases e),λ_ q1 H'' kp hx' hq' hqn=>#[rfl,?_]];have k3:Same H H'':=λb' o' e=>kp b' o' (λz=>by rw[z,hx]at e;cases e) (k1 _ _ e);exact q x q1 H'' k3 #[dx,xs,hx',hq',Iss.same k3 _ _ hI]
theorem BG.inL{l:()}(h:BG k l ns bs):InL l (zb bs):=λp hp=>by
 obtain⟨e,he,rfl⟩:=Bf.mp hp;have b:=h.e e he;exact#[aM b.a ∅,aM b.b ∅,b.ma,b.mb]
theorem BG.fault{l:()}(h:BG k l ns bs):wJ k l ns (zb bs) 0=AY:=uY λm p e=>by
 obtain⟨e',he,rfl⟩:=Bf.mp (ag e);exact h.lt e' he
def Va(K:so)(CO CR CW CH:sq):Sp:=λvs H Q _=>∃(o a:sq) (k:Nat) (l:()) (ns:List Int) (bs:List Ent),vs=[.ref o,.ref a]/\OrdAt CO CR CW H o k l ns/\OG l ns k/\EnsL K H a bs/\BG k l ns bs/\∀(y qa:sq) (H':Hp),Same H H'->KW K CH H' y o qa (zb bs)->Q (.ref y) H'
theorem Z4:sQz 2 ["order","entries"] vI:=by nofun
theorem Yn{f CO CR CW CT CH:sq}(B:Bt mg)(TS:zdL K mg CH)(MS:MkS P w K mg base CO CR CW CT CH)(F:("system_by"^^^vI))(gq:(1<<<"pairs_of") ["entries"] [] (x0 K)):(7&&&["order","entries"]) (Va K CO CR CW CH):=by
 exists F.ok Z4
 ·obtain⟨o,a,k,l,ns,bs,rfl,ho,hG,hA,hB,q⟩:=h;refine#[_,(zf (zl (zfN xe0 MS hr rfl TS.g (za (pv 0) (za (cl0 gq hr .nil rfl (za (pv 1) zc)) zc))))),?_];have s16:=zP;ac_rfl;refine xS hA.is (by have:=hB.n;lia) λD H' _ s' hL=>?_;exact zcy (ho.same s') hG hL hB.inL hB.fault λy qa H'' s'' hy=>q y qa H'' (s'.trans s'') hy
noncomputable def fE(i:Nat)(p:zp):Ent:=(p.1,p.2,[((i:Int),(0:Int),AZ)])
noncomputable def fEs(rs:List zp):Nat->List Ent
 | 0=>[]
 | n+1=>fEs rs n ++ ((rs[n]?).map (fE n)).toList
theorem KF{p:zp}(h:rs[n]? = AX p):fEs rs (n+1)=fEs rs n ++ [fE n p]:=by
 show fEs rs n ++ ((rs[n]?).map (fE n)).toList=_;rw[h];rfl
theorem UO(rs:List zp):∀n,(fEs rs n).length<=n
 | 0=>al _
 | n+1=>by
  have:=UO rs n;show (fEs rs n ++ ((rs[n]?).map (fE n)).toList).length<=_;rw[aj]
  cases rs[n]? with
  | none=>simp;lia
  | some p=>simp;lia
theorem ZN:∀{n:Nat} {e:Ent},e ∈ fEs rs n->∃i p,i<n/\rs[i]? = AX p/\e=fE i p
 | 0,e,h=>(nomatch h)
 | n+1,e,h=>by
  have h':e ∈ fEs rs n ++ ((rs[n]?).map (fE n)).toList:=h;rcases Bh.mp h' with h | h
  ·obtain⟨i,p,hi,hp,he⟩:=ZN h;exact#[i,p,⋯,hp,he]
  ·cases hn:rs[n]? with
   | none=>rw[hn]at h;simp at h
   | some p =>
    rw[hn]at h;exact#[n,p,⋯,hn,by simpa using h]
def WV(K:so):Sp:=λvs H Q _=>∃(a:sq) (rs:List zp),vs=[.ref a]/\LsA K H a (rs.map dR)/\rs.length<=20/\∀(D:sq) (H':Hp),Same H H'->H D=AY->EnsM K H' D (fEs rs rs.length)->Q (.ref D) H'
theorem qr:sQz 1 ["pacts"] yH:=by nofun
theorem qm(B:Bt mg)(F:("first_entries"^^^yH)) :(1&&&["pacts"]) (WV K):=by
 exists F.ok qr
 ·obtain⟨a,rs,rfl,hA,hrl,q⟩:=h;refine#[_,(zf (zl (xz (g:=zbg K 2 (jZ (yy 0) (jZ (yy 1) zbb))) (own:=["number","pact"]) (caps:=[]) (ix:=[]) (tt:=wS) (te:=(Jy (zM (tOp (jD K) (ym 1) (tC (.int 0))) (zM (tOp (jD K) (ym 1) (tC (.int 1))) (zM (zdE (zM (Jy (zM (ym 0) (zM (tC (.int 0)) (zM (tC (.bl AZ)) xH)))) xH)) xH))))) rfl (zN (sc:=zh yH) rfl (by symm) (by symm) (by symm) rfl (by symm) (by symm) rfl) (wg rfl B.enum (za (pv 0) zc)) (λ_ _ _ _ _ _=>qd (n:=2) rfl (yb (zx (i:=0) (show List.Nodup [_,_] by decide) rfl (.inl rfl)) (yb (zx (i:=1) (show List.Nodup [_,_] by decide) rfl (.inl rfl)) wG))) (λ_ _ _ _ _ _=>yG) (λ_ _ _ _ _ _=>(zR (za (zo ix_tup (pv 1) zg) (za (zo ix_tup (pv 1) zg) (za (wy (za (zR (za (pv 0) (za zg (za yM zc)))) zc)) zc)))))))),?_];have s16:=zP;have s16:=zP;obtain⟨xs,hX,hI⟩:=id hA;have hxl:=hI.len;rw[ae]at hxl;ac_rfl;rw[zeu];ac_rfl;refine#[#[_,SqL.of hX],λD hD=>CompEL.by (xs:=xs) (λi Bd H'=>Same H H'/\H' D=AX (.lst Bd)/\Bd.length<=i/\EnsA K (ka D H') (fEs rs i) Bd) #[ze hD,zd,al _,rfl] (λi Bd H' _ h=>SqL.of (h.1 _ _ hX)) ?_ ?_]
  ·rintro i x Bd H' p hx ⟨hs,hH,hal,hEn⟩ hp;have hil:=(Be.mp hx).1;obtain⟨r,pr,hri,rfl,hqr⟩:=hI.getR hx;have u1:=ze (o:=HO.tup [.int (i:Nat),.ref pr]) hp;have hq:=zq (hs.trans u1) hqr;refine zfw (SqT.of zd) ?_
   erw[wS]
   rfl'
   refine#[zaW,_,hq,_,rfl,_,hq,_,rfl,⋯,λp1 hp1=>#[⋯,λp2 hp2=>#[⋯,λp3 hp3=>?_]]];have u2:=ze (o:=HO.tup [.int (i:Nat),.int 0,.bl AZ]) hp1;have u3:=ze (o:=HO.lst [.ref p1]) hp2;have u4:=ze (o:=HO.tup [.str (tx r.1),.str (tx r.2),.ref p2]) hp3;have u:=u1.trans (u2.trans (u3.trans u4));have hD4:=u _ _ hH;have hp2D:p2≠D:=λz=>by rw[z,u2 _ _ (u1 _ _ hH)]at hp2;cases hp2
   refine#[hD4,⋯,CNx.mk hil #[zJ (hs.trans u) hD,zd,by rw[aj];erw[aJ,bU];lia,?_]];rw[KF hri];refine (hEn.same ((wM u).trans xB)).snoc (EnA.same ?_ xB);refine EnA.new (e:=fE i r) hD4 zd #[_,u4 _ _ zd,?_] hp2D;show Iss K _ [dSt ((i:Int),(0:Int),AZ)] _;exact zb0 (kG (SqT.of (u4 _ _ (u3 _ _ zd))))
  ·rintro Bd H' ⟨hs,hH,hal,hEn⟩;rw[hxl]at hEn;exact q D H' hs hD #[Bd,hH,hEn.same wZ]
noncomputable def ko(es:List Ent):Bool:=decide (12<es.length) || es.any λe=>decide (10<max e.1.length e.2.1.length)
structure TMc(mg:sB->Option sr):Prop where
 u:∃t,mg "MOST_USES_completing" = AX (.int 40 t)
 e:∃t,mg "MOST_ENTRIES" = AX (.int 12 t)
 d:∃t,mg "MOST_SIDE_completing" = AX (.int 10 t)
 p:∃t,mg "MOST_PEAKS" = AX (.int 8 t)
def YO(K:so):Sp:=λvs H Q _=>∃(a:sq) (es:List Ent),vs=[.ref a]/\EnsL K H a es/\es.length<64/\(∀e ∈ es,e.1.length<=10000/\e.2.1.length<=10000)/\∀H',Same H H'->Q (.bl (ko es)) H'
theorem YI:sQz 1 ["entries"] wb:=by nofun
theorem YR(B:Bt mg)(hany:zgA mg)(TM:TMc mg)(F:("is_beyond"^^^wb)) :(1&&&["entries"]) (YO K):=by
 obtain⟨⟨t9,g9⟩,⟨t8,g8⟩⟩:=And.intro TM.e TM.d
 exists F.ok YI
 ·obtain⟨a,es,rfl,hA,hl,hE,q⟩:=h
  refine#[_,(zi (zK (zy Wh (zA B.len (pv 0)) (yv (v:=.int 12) rfl g9 #[t9,rfl]) (zC _))
    (zf (zl yM))
    zv)
   (zf (zl (xC (zfd rfl) rfl hany PyProof.Rows.boot_any (za (xz (own:=["entry"]) (caps:=[]) (ix:=[]) (tt:=wS) (te:=(tOp zeA (tCB K6 (zM (tCB (WA K) (zM (tOp (jD K) (ym 0) (tC (.int 0))) xH)) (zM (tCB (WA K) (zM (tOp (jD K) (ym 0) (tC (.int 1))) xH)) xH))) (tC (.int 10)))) rfl (zN (sc:=zh wb) rfl (by symm) (by symm) (by symm) rfl (by symm) (by symm) rfl) (yj (pv 0)) (λ_ _ _ _ _ _=>zx (i:=0) (show List.Nodup [_] by decide) rfl (.inl rfl)) (λ_ _ _ _ _ _=>yG) (λ_ _ _ _ _ _=>(yR Wh (xC (UR rfl) rfl B.max qD (za (zA B.len (zo ix_tup (pv 0) zg)) (za (zA B.len (zo ix_tup (pv 0) zg)) zc))) (yv (v:=.int 10) rfl g8 #[t8,rfl]) (zC _)))) zc))))),?_]
  have s16:=zP;have s16:=zP;obtain⟨xs,hX,hEn⟩:=id hA;have hxl:=hEn.len;refine zj (λσ H'=>H'=H/\¬ 12<es.length/\σ=[!!a]) ?_ ?_
  ·ac_rfl;refine#[_,.inl #[_,hX,rfl],yq (λh=>?_) λh=>by lia]
   have e:ko es=AZ:=by
    unfold ko;rw[decide_eq_true ⋯,Bool.true_or]
   rw[<- e];exact q H (Same.refl _)
  rintro σ H1 ⟨rfl,h12,rfl⟩:_;right;ac_rfl;refine#[#[_,hX],λD hD=>CompL.by (xs:=xs) (λi Bd H'=>Same H1 H'/\H' D=AX (.lst Bd)/\Bd=((es.take i).map λe=>decide (10<max e.1.length e.2.1.length)).map V.bl) #[ze hD,zd,rfl] (λi Bd H' _ h=>h.1.seq hX) ?_ ?_]
  ·refine nm4 ?_;rintro i x Bd H' hx ⟨hs,hH,rfl⟩:_;have hil:=(Be.mp hx).1;obtain⟨e,p,s,he,rfl,hp,_⟩:=hEn.get hx;have hq:=zq hs hp;have hb:=hE e (ag he);right
   erw[wS]
   rfl'
   refine#[xx,_,hq,_,rfl,_,#[by rw[z6];lia,rfl],_,hq,_,rfl,_,#[by rw[z6];lia,rfl],hH,by rw[ae,ae,aG];lia,CNx.mk hil #[zJ hs hD,zd,?_]];rw[zX he,ay,ay,z6,z6];congr 1;show [V.bl _]=[V.bl _];congr 2;refine decide_eq_decide.mpr ?_;split <;> lia
  ·rintro Bd H' ⟨hs,hH,rfl⟩;rw[hxl,aP]at hH;refine#[D,_,rfl,SqL.of hH,?_]
   have e:(es.map λe=>decide (10<max e.1.length e.2.1.length)).any id=ko es:=by
    unfold ko;rw[decide_eq_false h12,Bool.false_or,List.any_map];rfl
   rw[e];exact q H' hs
theorem Y2(h:ko es=Ba):es.length<=12/\∀e ∈ es,e.1.length<=10/\e.2.1.length<=10:=by
 unfold ko at h;rw[Bool.or_eq_false_iff]at h;refine#[by have:=of_decide_eq_false h.1;lia,λe he=>?_];have:=List.any_eq_false.mp h.2 e he;have h2:¬ 10<max e.1.length e.2.1.length:=λz=>this (decide_eq_true z);lia
def za2(K:so)(CO CR CW T:sq):Sp:=λvs H Q _=>∃(o a:sq) (k:Nat) (l:()) (ns:List Int) (es:List Ent),vs=[.ref o,.ref a]/\OrdAt CO CR CW H o k l ns/\OG l ns k/\EnsL K H a es/\es.length<64/\(∀e ∈ es,EB l e)/\TabOk H T lp lq /\
 (∀(bs:List Ent) (D:sq) (H':Hp),uE k l ns 20 es (AX bs)->BG k l ns bs->ko bs=Ba->SamT T H H'->TabOk H' T lp lq->EnsM K H' D bs->Q (.ref D) H')/\((uE k l ns 20 es AY\/∃bs,uE k l ns 20 es (AX bs)/\ko bs=AZ)->∀H',SamT T H H'->TabOk H' T lp lq->Q .non H')
structure zfM(K:so)(CF:sq):Prop where
 s:cT K (.ref CF) (.ref CF)=AX AZ
theorem mj:sQz 2 ["order","entries","slim"] yZ:=by nofun
theorem uK{f CO CR CW TB CF:sq}(B:Bt mg)(TFx:zbP K mg CF)(TSb:zfM K CF)(F:("thinned_within"^^^yZ))(rH:(7>>>"thinned") ["order","entries"] [] (Jk K CO CR CW TB CF))(rj:(1<<<"is_beyond") ["entries"] [] (YO K)):(8&&&["order","entries"]) (za2 K CO CR CW TB):=by
 exists F.ok mj
 ·obtain⟨o,a,k,l,ns,es,rfl,ho,hG,hA,hz,hE,hTab,q1,q2⟩:=h
  refine#[_,(zi (KU (i:=2) (th:=(zaD (tC .non))) mj.nd rfl (.inl rfl) (.inl rfl) #[rfl,rfl] (clX rH hr .nil rfl (za (pv 0) (za (pv 1) zc))) rfl TFx.g TFx.xi.ok (λe=>(zf (zl yd))))
   (zf (zl (vn (yE (cl0 rj hr .nil rfl (za (pv 2) zc)) (λ_=>rfl)) yd (pv 2))))),?_]
  have s16:=zP;have s16:=zP;refine zj (λσ H'=>SamT TB H H'/\TabOk H' TB lp lq/\∃(bs:List Ent) (D:sq),uE k l ns 20 es (AX bs)/\BG k l ns bs/\EnsM K H' D bs/\σ=[!!o,!!a,!!D]) ?_ ?_
  ·erw[zag]
   ac_rfl;exact#[o,a,k,l,ns,es,rfl,ho,hG,hA,hz,hE,hTab,λbs D H' h1 h2 h3 h4 h5=>#[h3,h4,bs,h1,h2,D,h5,rfl],λh H' h3 h4=>#[CF,rfl,TSb.s,λx hx=>q2 (.inl h) _ (h3.trans (SamT.of (ze hx))) (h4.same (ze hx))]]
  rintro σ H1 ⟨s1,hT1,bs,D,hTh,hB,hM,rfl⟩:_;right;ac_rfl;exact#[D,bs,rfl,hM.l,hB.n,λe he=>#[aM (hB.e e he).a ∅,aM (hB.e e he).b ∅],λH' s'=>#[_,rfl,yq (λh=>q2 (.inr #[bs,hTh,h]) H' (s1.trans (SamT.of s')) (hT1.same s')) λh=>q1 bs D H' hTh hB (by simpa using h) (s1.trans (SamT.of s')) (hT1.same s') (hM.same s')]]
theorem qE(w:())(k:Int)(o n:()):(yF w k o n).length<=w.length+n.length:=by
 unfold yF;rw[aj,aj,aG,bi];lia
theorem BG.ok{l:()}(h:BG k l ns bs)(hl:bs.length<=30):ju (zb bs):=by
 refine#[by unfold zb;rw[ae];exact hl,λr hr=>?_];obtain⟨e,he,rfl⟩:=Bf.mp hr;exact#[aM (h.e e he).a ∅,aM (h.e e he).b ∅]
theorem zdQ(hok:∀r ∈ ps,r.1.length<=60/\r.2.length<=60){t:N3}(ht:t ∈ ovA ps ps.length):(pkA ps t).length<=180/\(pkB ps t).length<=180:=by
 obtain⟨i1,i2,i3,i4⟩:=uP ht;obtain⟨r,hr⟩:∃r,ps[t.1]? = AX r:=#[_,ah i1];obtain⟨r2,hr2⟩:∃r,ps[t.2.1]? = AX r:=#[_,ah i2];have l1:=wC hr;have l2:=wC hr2;have d1:ps.getD t.1 ([],[])=r:=by rw[aa,hr];rfl
 have d2:ps.getD t.2.1 ([],[])=r2:=by rw[aa,hr2];rfl
 rw[l1]at i3;have b1:=hok r (ag hr);have b2:=hok r2 (ag hr2);have hp:=vd r.1 r2.1 t.2.2 ⋯;have p1:=qE (z8 r.1 r2.1 t.2.2) 0 r.1 r.2;have p2:=qE (z8 r.1 r2.1 t.2.2) (t.2.2:Nat) r2.1 r2.2;unfold pkA pkB;rw[l1,l2,d1,d2];lia
theorem zcY(hN:NeL ps)(hok:∀r ∈ ps,r.1.length<=60/\r.2.length<=60):zf2 ps 40:=by
 refine#[∅,λt ht=>?_];obtain⟨h1,h2⟩:=zdQ hok ht
 have key:∀(v:()),v.length<=180->∀j,j<=40->(wAt ps v j).length<=10000:=λv hv j hj=>by
  have:=qL (l:=v) hN (λp hp=>(hok p hp).2) j;have h3:j * 60<=40 * 60:=fh hj (al _);lia
 exact#[key _ h1,key _ h2]
def zah(K:so)(CO CR CW:sq):Sp:=λvs H Q _=>∃(o a:sq) (k:Nat) (l:()) (ns:List Int) (bs:List Ent),vs=[.ref o,.ref a]/\OrdAt CO CR CW H o k l ns/\OG l ns k/\EnsL K H a bs/\BG k l ns bs/\bs.length<=30/\(ovA (zb bs) (zb bs).length).length<=4000 /\
 ((∀t ∈ ovA (zb bs) (zb bs).length,OkG (zb bs) 40 t)->∀D H',Same H H'->LsA K H' D ((unG (zb bs) 40).map d3)->Q (.ref D) H')/\(∀t ∈ ovA (zb bs) (zb bs).length,¬ OkG (zb bs) 40 t->∀H',Same H H'->Q .non H')
theorem qZ:sQz 2 ["order","entries"] xN:=by nofun
theorem jp{f CO CR CW CF CH:sq}{nj:Aa}(B:Bt mg)(TFx:zbP K mg CF)(TSb:zfM K CF)(TM:TMc mg)(F:("unmet_within"^^^xN))(rQ:(7>>>"unmet") ["system","most"] [] (vX K CH CF))(DD_unmet:(7>>>"unmet") ["system","most"] [.int 4000 nj] (vX K CH CF))(rn:(7<<<"system_by") ["order","entries"] [] (Va K CO CR CW CH)):(9&&&["order","entries"]) (zah K CO CR CW):=by
 obtain⟨t9,g9⟩:=TM.u
 exists F.ok qZ
 ·obtain⟨o,a,k,l,ns,bs,rfl,ho,hG,hA,hB,hbl,hol,q1,q2⟩:=h;refine#[_,(zf (WS (th:=(zaD (tC .non))) #[rfl,rfl] (clX rQ hr .nil rfl (za (cl0 rn hr .nil rfl (za (pv 0) (za (pv 1) zc))) (za (yv (v:=.int 40) rfl g9 #[t9,rfl]) zc))) rfl TFx.g TFx.xi.ok (λe=>(zf (zl yd))))),?_];have s16:=zP;have s16:=zP
  erw[Q8]
  ac_rfl
  have hsd:∀r ∈ zb bs,r.1.length<=60/\r.2.length<=60:=λr hr=>by
   obtain⟨e,he,rfl⟩:=Bf.mp hr;exact#[(hB.e e he).a,(hB.e e he).b]
  exact#[o,a,k,l,ns,bs,rfl,ho,hG,hA,hB,λy qa H' s' hy=>#[y,o,qa,zb bs,40,rfl,hy,hB.ne hG,hB.ok hbl,hol,zcY (hB.ne hG) hsd,λh D H'' s'' _ hL=>q1 h D H'' (s'.trans s'') hL,λt ht h H'' s''=>#[CF,rfl,TSb.s,λx hx=>q2 t ht h _ (s'.trans (s''.trans (ze hx)))]]]
noncomputable def jW(es:List Ent)(t:N3):Ent:=(pkA (zb es) t,pkB (zb es) t,byL es [((t.1:Int),(0:Int),Ba),((t.2.1:Int),(t.2.2:Int),AZ)])
def Zb(K:so):Sp:=λvs H Q _=>∃(a t:sq) (es:List Ent) (tr:N3),vs=[.ref a,.ref t]/\EnsL K H a es/\SqT K H t [.int (tr.1:Nat),.int (tr.2.1:Nat),.int (tr.2.2:Nat)]/\tr ∈ ovA (zb es) (zb es).length/\ju (zb es)/\(∀e ∈ es,e.2.2.length<=600)/\∀(p s:sq) (H':Hp),Same H H'->H' p=AX (.tup [.str (tx (jW es tr).1),.str (tx (jW es tr).2.1),.ref s])->LsA K H' s ((jW es tr).2.2.map dSt)->H s=AY->Q (.ref p) H'
theorem mY:sQz 2 ["entries","overlap","sides","steps"] uB:=by nofun
theorem Xm(B:Bt mg)(F:("entry_of"^^^uB))(pY:(4<<<"peak") ["rules","overlap"] [] (Zg K))(im:(2<<<"by_pacts") ["entries","steps"] [] (Ud K))(gq:(1<<<"pairs_of") ["entries"] [] (x0 K)):(5&&&["entries","overlap"]) (Zb K):=by
 exists F.ok mY
 ·obtain⟨a,t,es,tr,rfl,hA,ht,htr,hok,hst,q⟩:=h
  refine#[_,(zi (zD 2 mY.nd (cl0 pY hr .nil rfl (za (cl0 gq hr .nil rfl (za (pv 0) zc)) (za (pv 1) zc))))
   (zi (zD 3 mY.nd (cl0 im hr .nil rfl (za (pv 0) (za (wy (za (zR (za (zo ix_tup (pv 1) zg) (za zg (za yM zc)))) (za (zR (za (zo ix_tup (pv 1) zg) (za (zo ix_tup (pv 1) zg) (za yM zc)))) zc))) zc))))
   (zf (zl (zR (za (zo ix_tup (pv 2) zg) (za (zo ix_tup (pv 2) zg) (za (pv 3) zc)))))))),?_]
  have s16:=zP;have s16:=zP;have hlp:(zb es).length=es.length:=by unfold zb;rw[ae]
  obtain⟨i1,i2,i3,i4⟩:=uP htr;obtain⟨r,hr1⟩:∃r,(zb es)[tr.1]? = AX r:=#[_,ah i1];obtain⟨r2,hr2⟩:∃r,(zb es)[tr.2.1]? = AX r:=#[_,ah i2];have l1:=wC hr1;have l2:=wC hr2;have d1:(zb es).getD tr.1 ([],[])=r:=by rw[aa,hr1];rfl
  have d2:(zb es).getD tr.2.1 ([],[])=r2:=by rw[aa,hr2];rfl
  have eA:pkA (zb es) tr=yF (z8 r.1 r2.1 tr.2.2) 0 r.1 r.2:=by unfold pkA;rw[l1,l2,d1]
  have eB:pkB (zb es) tr=yF (z8 r.1 r2.1 tr.2.2) (tr.2.2:Nat) r2.1 r2.2:=by unfold pkB;rw[l1,l2,d2]
  rw[l1]at i3;rw[l1,l2]at i4;refine zj (λσ H'=>Same H H'/\∃p:sq,(∃x,H' p=AX (.tup [x,.str (tx (pkA (zb es) tr)),.str (tx (pkB (zb es) tr))]))/\σ=[!!a,!!t,!!p,AY]) ?_ ?_
  ·rfl'
   refine xS hA.is (by have:=hok.1;lia) λD H1 _ s1 hL=>?_;exact WJ hL.is (zq s1 ht) hok hr1 hr2 ⋯ i4 λp H' _ s' hp=>#[s1.trans s',p,#[_,by rw[eA,eB];exact hp],rfl]
  rintro σ H1 ⟨s1,p,⟨x,hp⟩,rfl⟩:_;right;refine zj (λσ H'=>Same H1 H'/\∃S:sq,H S=AY/\LsA K H' S ((jW es tr).2.2.map dSt)/\σ=[!!a,!!t,!!p,!!S]) ?_ ?_
  ·have ht1:=zq s1 ht
   rfl'
   refine#[_,ht1,_,rfl,⋯,λp1 hp1=>?_];have u1:=ze (o:=HO.tup [.int (tr.1:Nat),.int 0,.bl Ba]) hp1;refine#[_,zq u1 ht1,_,rfl,_,zq u1 ht1,_,rfl,⋯,λp2 hp2=>#[⋯,λp3 hp3=>?_]];have u2:=ze (o:=HO.tup [.int (tr.2.1:Nat),.int (tr.2.2:Nat),.bl AZ]) hp2;have u3:=ze (o:=HO.lst [.ref p1,.ref p2]) hp3;have u:=u1.trans (u2.trans u3);refine Wn (us:=[((tr.1:Int),(0:Int),Ba),((tr.2.1:Int),(tr.2.2:Int),AZ)]) (hA.same (s1.trans u)).is (LsA.is #[_,zd,?_]) (by simp) hst (λv hv=>?_) λD H' hDn s' hL=>#[u.trans s',D,(s1.trans u).free hDn,hL,rfl]
   ·erw[au,aL,Iss]
    exact#[_,_,rfl,kG (SqT.of (u3 _ _ (u2 _ _ zd))),_,_,rfl,kG (SqT.of (u3 _ _ zd)),rfl]
   ·erw[cU,eQ,or_false]at hv
    rcases hv with rfl | rfl
    ·exact#[by simp,by show (tr.1:Int)<_;lia]
    ·exact#[by simp,by show (tr.2.1:Int)<_;lia]
  rintro σ H2 ⟨s2,S,hSn,hS,rfl⟩:_;right
  rfl'
  exact#[_,SqT.of (s2 _ _ hp),_,rfl,_,SqT.of (s2 _ _ hp),_,rfl,⋯,λp' hp'=>q p' S _ (s1.trans (s2.trans (ze hp'))) zd (hS.same (ze hp')) hSn]
theorem K5{l:()}(h:¬ jQ e):¬ jQ (yo k l ns e):=by
 unfold yo;split
 ·exact h
 ·unfold jQ at h ⊢;rw[yV];show ¬ (240<e.2.2.length\/60<e.2.1.length\/60<e.1.length);lia
theorem Vo{l:()}{bs es:List Ent}{r:Option (List Ent)}(h:xt k l ns bs es r):(∀e ∈ bs,¬ jQ e)->∀fs,r=AX fs->∀e ∈ fs,¬ jQ e:=by
 induction h with
 | nil bs=>exact λh fs e=>by cases e;exact h
 | same _ _ _ _ ih=>exact ih
 | new _ _ _ h4 _ ih =>
  intro h;refine ih λe he=>?_;rcases Bh.mp he with he | he
  ·exact h e he
  ·rw[Bj.mp he];exact K5 h4
 | far _ _ _ _=>exact λ_ fs e=>by cases e
 | stuck _=>exact λ_ fs e=>by cases e
theorem jk{k n:Nat}{l:()}{r:Option (List Ent)}(h:uE k l ns n es r):∀fs,r=AX fs->∀e ∈ fs,¬ jQ e:=by
 induction h with
 | out es=>exact λfs e=>by cases e
 | bad _ _=>exact λfs e=>by cases e
 | done _ h2 _=>exact λfs e=>by cases e;exact Vo h2 (λe he=>(nomatch he)) _ rfl
 | more _ _ _ _ ih=>exact ih
theorem Qw{M:Nat}(h:∀e ∈ es,e.2.2.length<=M)(u:Stp):(VR es u).length<=M:=by
 have hg:(es.getD u.1.toNat ([],[],[])).2.2.length<=M:=by
  rw[aa]
  cases e:es[u.1.toNat]? with
  | none=>exact aD _
  | some x=>exact h x (ag e)
 unfold VR;rw[X6];split
 ·exact hg
 ·rw[yV];exact hg
inductive Cpl(k:Nat)(l:())(ns:List Int):Nat->List Ent->List Ent->Bool->List Ent->Prop where
 | out (kept fresh:List Ent):Cpl k l ns 0 kept fresh Ba kept
 | slim {n:Nat} {kept fresh:List Ent} (h:uE k l ns 20 fresh AY\/∃bs,uE k l ns 20 fresh (AX bs)/\ko bs=AZ):Cpl k l ns (n+1) kept fresh Ba kept
 | far {n:Nat} {kept fresh bs:List Ent} {t:N3} (h:uE k l ns 20 fresh (AX bs)) (hb:ko bs=Ba) (ht:t ∈ ovA (zb bs) (zb bs).length) (ho:¬ OkG (zb bs) 40 t):Cpl k l ns (n+1) kept fresh Ba bs
 | whole {n:Nat} {kept fresh bs:List Ent} (h:uE k l ns 20 fresh (AX bs)) (hb:ko bs=Ba) (ho:∀t ∈ ovA (zb bs) (zb bs).length,OkG (zb bs) 40 t) (hu:unG (zb bs) 40=[]):Cpl k l ns (n+1) kept fresh AZ bs
 | more {n:Nat} {kept fresh bs es:List Ent} {w:Bool} (h:uE k l ns 20 fresh (AX bs)) (hb:ko bs=Ba) (ho:∀t ∈ ovA (zb bs) (zb bs).length,OkG (zb bs) 40 t) (hu:unG (zb bs) 40≠[]) (r:Cpl k l ns n bs (bs ++ ((unG (zb bs) 40).take 8).map (jW bs)) w es):Cpl k l ns (n+1) kept fresh w es
theorem zdJ(hl:ps.length<=12)(h:∀r ∈ ps,r.1.length<=10):(ovA ps ps.length).length<=4000:=by
 have lfl:∀i,(lf ps i).length<=10:=λi=>by
  cases e:ps[i]? with
  | none=>unfold lf;rw[aa,e];exact aD _
  | some r=>rw[wC e];exact h r (ag e)
 have oI:∀i m,(ovI ps i m).length<=m * 10:=λi m=>by
  induction m with
  | zero=>exact aD _
  | succ m ih =>
   rw[qx,aj];have h1:=qG ps i m (lf ps i).length;have h2:=lfl i;lia
 have oA:∀m,(ovA ps m).length<=m * 120:=λm=>by
  induction m with
  | zero=>exact aD _
  | succ m ih =>
   rw[ZO,aj];have h1:=oI m ps.length;lia
 have:=oA ps.length;lia
theorem zfr{l:()}(hin:∀r ∈ ps,(∀c ∈ r.1,c ∈ l)/\∀c ∈ r.2,c ∈ l)(h10:∀r ∈ ps,r.1.length<=10/\r.2.length<=10){t:N3}(ht:t ∈ ovA ps ps.length):((pkA ps t).length<=60/\∀c ∈ pkA ps t,c ∈ l)/\(pkB ps t).length<=60/\∀c ∈ pkB ps t,c ∈ l:=by
 obtain⟨i1,i2,i3,i4⟩:=uP ht;obtain⟨r,hr⟩:∃r,ps[t.1]? = AX r:=#[_,ah i1];obtain⟨r2,hr2⟩:∃r,ps[t.2.1]? = AX r:=#[_,ah i2];have l1:=wC hr;have l2:=wC hr2;have d1:ps.getD t.1 ([],[])=r:=by rw[aa,hr];rfl
 have d2:ps.getD t.2.1 ([],[])=r2:=by rw[aa,hr2];rfl
 rw[l1]at i3;have b1:=h10 r (ag hr);have b2:=h10 r2 (ag hr2);have n1:=hin r (ag hr);have n2:=hin r2 (ag hr2);have hp:=vd r.1 r2.1 t.2.2 ⋯;have p1:=qE (z8 r.1 r2.1 t.2.2) 0 r.1 r.2;have p2:=qE (z8 r.1 r2.1 t.2.2) (t.2.2:Nat) r2.1 r2.2
 have hw:∀c ∈ z8 r.1 r2.1 t.2.2,c ∈ l:=λc hc=>by
  unfold z8 at hc;rcases Bh.mp hc with h | h
  ·exact n1.1 c h
  ·exact n2.1 c (cu h)
 have put:∀(k:Int) (o n:()),(∀c ∈ n,c ∈ l)->∀c ∈ yF (z8 r.1 r2.1 t.2.2) k o n,c ∈ l:=λk o n hn c hc=>by
  unfold yF at hc;rcases Bh.mp hc with hc | hc
  ·rcases Bh.mp hc with hc | hc
   ·exact hw c (bp hc)
   ·exact hn c hc
  ·exact hw c (cu hc)
 unfold pkA pkB;rw[l1,l2,d1,d2];exact#[#[⋯,put _ _ _ n1.2],⋯,put _ _ _ n2.2]
theorem UM{l:()}(hB:BG k l ns bs)(hb:ko bs=Ba)(hs:∀e ∈ bs,e.2.2.length<=240){t:N3}(ht:t ∈ ovA (zb bs) (zb bs).length):EB l (jW bs t):=by
 obtain⟨b1,b2⟩:=Y2 hb
 obtain⟨h1,h2⟩:=zfr (l:=l) (ps:=zb bs) (λr hr=>by
  obtain⟨e,he,rfl⟩:=Bf.mp hr
  exact#[(hB.e e he).ma,(hB.e e he).mb]) (λr hr=>by
  obtain⟨e,he,rfl⟩:=Bf.mp hr
  exact b2 e he) ht
 refine#[h1.1,h2.1,?_,h1.2,h2.2];show (byL bs [((t.1:Int),(0:Int),Ba),((t.2.1:Int),(t.2.2:Int),AZ)]).length<=600;unfold byL;rw[List.flatMap_cons,List.flatMap_cons,List.flatMap_nil,aT,aj];have o1:=Qw hs ((t.1:Int),(0:Int),Ba);have o2:=Qw hs ((t.2.1:Int),(t.2.2:Int),AZ);lia
theorem EnsM.samT{T:sq}{H H':Hp}{ps:Array sr}{a:sq}(h:EnsM K H a es)(s:SamT T H H')(hT:H T=AX (.tbl ps)):EnsM K H' a es:=by
 obtain⟨xs,h1,h2⟩:=h;exact#[xs,s.at hT h1 (λ_ z=>by cases z),EnsA.samT s hT h2]
def zfv(K:so)(T:sq)(H:Hp)(k:Nat)(l:())(ns:List Int)(rs:List zp)(m n:Nat)(H':Hp)(Dk Df:sq):Prop:=∃kept fresh:List Ent,SamT T H H'/\TabOk H' T lp lq/\EnsM K H' Dk kept/\EnsL K H' Df fresh/\fresh.length<64/\(∀e ∈ fresh,EB l e)/\BG k l ns kept/\∀w es,Cpl k l ns n kept fresh w es->Cpl k l ns m [] (fEs rs rs.length) w es
def zap(K:so)(CO CR CW T:sq):Sp:=λvs H Q _=>∃(o a:sq) (k:Nat) (l:()) (ns:List Int) (rs:List zp) (m:Nat),vs=[.ref o,.ref a,.int (m:Nat)]/\OrdAt CO CR CW H o k l ns/\OG l ns k/\LsA K H a (rs.map dR)/\rs.length<=20/\InL l rs/\(∀r ∈ rs,r.1.length<=60/\r.2.length<=60)/\m<=1000/\TabOk H T lp lq/\∀(w:Bool) (es:List Ent) (p D:sq) (H':Hp),Cpl k l ns (m+1) [] (fEs rs rs.length) w es->BG k l ns es->SamT T H H'->TabOk H' T lp lq->H' p=AX (.tup [.bl w,.ref D])->EnsM K H' D es->Q (.ref p) H'
theorem gr:sQz 3 ["order","pacts","rounds","kept","fresh","turn","slim","lacking"] wk:=by nofun
theorem YF{f CO CR CW TB:sq}(B:Bt mg)(TM:TMc mg)(F:("completed"^^^wk))(oZ:(1<<<"first_entries") ["pacts"] [] (WV K))(oF:(8<<<"thinned_within") ["order","entries"] [] (za2 K CO CR CW TB))(pC:(9<<<"unmet_within") ["order","entries"] [] (zah K CO CR CW))(rD:(5<<<"entry_of") ["entries","overlap"] [] (Zb K)):(10&&&["order","pacts","rounds"]) (zap K CO CR CW TB):=by
 obtain⟨t9,g9⟩:=TM.p
 exists F.ok gr
 ·obtain⟨o,a,k,l,ns,rs,m,rfl,ho,hG,hA,hrl,hin,h60,hm,hTab,q⟩:=h
  refine#[_,(zi (qk (i:=3) gr.nd rfl (Or.inr rfl) (wy zc))
   (zi (zD 4 gr.nd (cl0 oZ hr .nil rfl (za (pv 1) zc)))
   (zi (zW PassesOwn.never rfl (yk rfl B.range (za (zB yu (pv 2) zg) zc)) (zx (i:=5) gr.nd rfl (.inl rfl))
    (zi (zD 6 gr.nd (cl0 oF hr .nil rfl (za (pv 0) (za (pv 4) zc))))
    (zi (zK (zy op_isN' (pv 6) yd (zC _))
     (zf (zl (zR (za yM (za (pv 3) zc)))))
     zv)
    (zi (qk (i:=3) gr.nd rfl (Or.inr rfl) (pv 6))
    (zi (zD 7 gr.nd (cl0 pC hr .nil rfl (za (pv 0) (za (pv 3) zc))))
    (zi (zK (zy op_isN' (pv 7) yd (zC _))
     (zf (zl (zR (za yM (za (pv 3) zc)))))
     zv)
    (zi (zK (zy vc (zA B.len (pv 7)) zg (zC _))
     (zf (zl (zR (za yM (za (pv 3) zc)))))
     zv)
    (zf (zD 4 gr.nd (zB wo (pv 3) (xz (own:=["overlap"]) (caps:=["kept"]) (ix:=[3]) (tt:=wS) (te:=(uR (Zb K) [] E0 (zM (ym 1) (zM (ym 0) xH)))) rfl (zN (sc:=zh wk) rfl (by symm) (by symm) (by symm) rfl (by symm) (by symm) rfl) (yj (ya Y3 (pv 7) xJ (zY (yv (v:=.int 8) rfl g9 #[t9,rfl])))) (λ_ _ _ _ _ _=>zx (i:=0) (show List.Nodup [_,_] by decide) rfl (.inl rfl)) (λ_ _ _ _ _ _=>yG) (λ_ _ _ _ _ _=>(cl0 rD hr .nil rfl (za (pv 1) (za (pv 0) zc)))))))))))))))
   (zf (zl (zR (za yM (za (pv 3) zc)))))))),?_]
  have s16:=zP;have s16:=zP;have hTt:=hTab;obtain⟨tp,htp,_⟩:=hTt;refine zj (λσ H'=>Same H H'/\∃Dk:sq,H' Dk=AX (.lst [])/\σ=[!!o,!!a,-~~~m,!!Dk,AY,AY,AY,AY]) ?_ ?_
  ·ac_rfl;exact#[⋯,λp hp=>#[ze hp,zd]]
  rintro σ H1 ⟨s1,Dk0,hDk0,rfl⟩:_
  have hE0:∀e ∈ fEs rs rs.length,EB l e:=λe he=>by
   obtain⟨i,p,hi,hp,rfl⟩:=ZN he;have h1:=h60 p (ag hp);have h2:=hin p (ag hp);exact#[h1.1,h1.2,by show ([((i:Int),(0:Int),AZ)]:List Stp).length<=600;simp,h2.2.2.1,h2.2.2.2]
  right;refine zj (λσ H'=>∃Df:sq,zfv K TB H k l ns rs (m+1) (m+1) H' Dk0 Df/\σ=[!!o,!!a,-~~~m,!!Dk0,!!Df,AY,AY,AY]) ?_ ?_
  ·ac_rfl;exact#[a,rs,rfl,hA.same s1,hrl,λDf H' s' _ hM=>#[Df,#[[],fEs rs rs.length,SamT.of (s1.trans s'),hTab.same (s1.trans s'),#[[],s' _ _ hDk0,rfl],hM.l,by have:=UO rs rs.length;lia,hE0,#[by simp,λe he=>(nomatch he),λe he=>(nomatch he)],λw es h=>h],rfl]]
  rintro σ H2 ⟨Df0,hC0,rfl⟩:_;right;refine zj (λσ H'=>∃(Dk Df:sq) (v5 v6 v7:Option V),zfv K TB H k l ns rs (m+1) 0 H' Dk Df/\σ=[!!o,!!a,-~~~m,!!Dk,!!Df,v5,v6,v7]) ?_ ?_
  ·ac_rfl;refine#[⋯,⋯,ForR.by (λi σ H'=>∃(Dk Df:sq) (v5 v6 v7:Option V),zfv K TB H k l ns rs (m+1) (m+1 - i) H' Dk Df/\σ=[!!o,!!a,-~~~m,!!Dk,!!Df,v5,v6,v7]) #[Dk0,Df0,AY,AY,AY,hC0,rfl] ?_ ?_]
   ·refine nm3 ?_;rintro i σ H' hi ⟨Dk,Df,v5,v6,v7,⟨kept,fresh,sT,hT,hK,hF,hfl,hfE,hB,hcp⟩,rfl⟩:_;have hi':i<m+1:=⋯;have en:m+1 - i=(m+1 - (i+1))+1:=⋯;rw[en]at hcp;have hTt:=hT;obtain⟨tq,htq,_⟩:=hTt;have ho':=ho.samT sT htp;right
    erw[yy,aV,aU]
    refine zj (λσ' G=>SamT TB H' G/\TabOk G TB lp lq/\(((uE k l ns 20 fresh AY\/∃bs,uE k l ns 20 fresh (AX bs)/\ko bs=AZ)/\σ'=[!!o,!!a,-~~~m,!!Dk,!!Df,AX (.int (0+(i:Int))),AX (.non),v7])\/∃(bs:List Ent) (D:sq),uE k l ns 20 fresh (AX bs)/\BG k l ns bs/\ko bs=Ba/\EnsM K G D bs/\σ'=[!!o,!!a,-~~~m,!!Dk,!!Df,AX (.int (0+(i:Int))),!!D,v7])) ?_ ?_
    ·ac_rfl;exact#[o,Df,k,l,ns,fresh,rfl,ho',hG,hF,hfl,hfE,hT,λbs D G h1 h2 h3 h4 h5 h6=>#[h4,h5,.inr #[bs,h1,h2,h3,D,h6,rfl]],λh G h4 h5=>#[h4,h5,.inl #[h,rfl]]]
    rintro σ' G1 ⟨g1,hT1,hcase⟩:_;have hK1:=hK.samT g1 htq;right;refine zj (λσ' G=>Same G1 G/\∃(bs:List Ent) (D:sq),uE k l ns 20 fresh (AX bs)/\BG k l ns bs/\ko bs=Ba/\EnsM K G D bs/\σ'=[!!o,!!a,-~~~m,!!Dk,!!Df,AX (.int (0+(i:Int))),!!D,v7]) ?_ ?_
    ·rcases hcase with ⟨hno,rfl⟩ | ⟨bs,D,h1,h2,h3,h4,rfl⟩
     ·ac_rfl;exact#[⋯,λp hp=>q Ba kept p Dk _ (hcp _ _ (.slim hno)) hB (sT.trans (g1.trans (SamT.of (ze hp)))) (hT1.same (ze hp)) zd (hK1.same (ze hp))]
     ·ac_rfl;exact#[Same.refl _,bs,h1,h2,h3,h4]
    rintro σ' G2 ⟨s2,bs,D,hTh,hBb,hbey,hD,rfl⟩:_;right;refine zj (λσ' G=>G=G2/\σ'=[!!o,!!a,-~~~m,!!D,!!Df,AX (.int (0+(i:Int))),!!D,v7]) ?_ ?_
    ·ac_rfl
    rintro σ' G3 ⟨rfl,rfl⟩:_;have sT3:SamT TB H G3:=sT.trans (g1.trans (SamT.of s2));have hT3:=hT1.same s2;have ho3:=ho.samT sT3 htp;obtain⟨b12,b10⟩:=Y2 hbey;have hpl:(zb bs).length=bs.length:=by unfold zb;rw[ae]
    have hol:=zdJ (ps:=zb bs) ⋯ λr hr=>by
     obtain⟨e,he,rfl⟩:=Bf.mp hr;exact (b10 e he).1
    have hnear:∀e ∈ bs,e.2.2.length<=240:=λe he=>by
     have:=jk hTh bs rfl e he;unfold jQ at this;lia
    right;refine zj (λσ' G=>Same G3 G/\(((∃t ∈ ovA (zb bs) (zb bs).length,¬ OkG (zb bs) 40 t)/\σ'=[!!o,!!a,-~~~m,!!D,!!Df,AX (.int (0+(i:Int))),!!D,AX (.non)])\/∃L:sq,(∀t ∈ ovA (zb bs) (zb bs).length,OkG (zb bs) 40 t)/\LsA K G L ((unG (zb bs) 40).map d3)/\σ'=[!!o,!!a,-~~~m,!!D,!!Df,AX (.int (0+(i:Int))),!!D,!!L])) ?_ ?_
    ·ac_rfl;exact#[o,D,k,l,ns,bs,rfl,ho3,hG,hD.l,hBb,⋯,hol,λh L G s' hL=>#[s',.inr #[h,L,hL,rfl]],λt ht h G s'=>#[s',.inl #[#[t,ht,h],rfl]]]
    rintro σ' G4 ⟨s4,hcase⟩:_;right;refine zj (λσ' G=>Same G3 G/\∃L:sq,(∀t ∈ ovA (zb bs) (zb bs).length,OkG (zb bs) 40 t)/\LsA K G L ((unG (zb bs) 40).map d3)/\σ'=[!!o,!!a,-~~~m,!!D,!!Df,AX (.int (0+(i:Int))),!!D,!!L]) ?_ ?_
    ·rcases hcase with ⟨⟨t,ht,hno⟩,rfl⟩ | ⟨L,h1,h2,rfl⟩
     ·ac_rfl;exact#[⋯,λp hp=>q Ba bs p D _ (hcp _ _ (.far hTh hbey ht hno)) hBb (sT3.trans (SamT.of (s4.trans (ze hp)))) (hT3.same (s4.trans (ze hp))) zd (hD.same (s4.trans (ze hp)))]
     ·ac_rfl;exact#[s4,h1,h2]
    rintro σ' G5 ⟨s5,L,hok,hL,rfl⟩:_;right;refine zj (λσ' G=>G=G5/\unG (zb bs) 40≠[]/\σ'=[!!o,!!a,-~~~m,!!D,!!Df,AX (.int (0+(i:Int))),!!D,!!L]) ?_ ?_
    ·ac_rfl;obtain⟨xs,hX,hI⟩:=id hL;have hxl:=hI.len;rw[ae]at hxl;refine#[_,.inl #[_,SqL.of hX,rfl],yq (λh=>#[⋯,λp hp=>q AZ bs p D _ (hcp _ _ (.whole hTh hbey hok (Bw.mp ⋯))) hBb (sT3.trans (SamT.of (s5.trans (ze hp)))) (hT3.same (s5.trans (ze hp))) zd (hD.same (s5.trans (ze hp)))]) λh z=>h ?_];rw[z]at hxl;show ((xs.length:Nat):Int)=0;rw[hxl];rfl
    rintro σ' G6 ⟨rfl,hne,rfl⟩:_;right;ac_rfl;obtain⟨xs,hX,hI⟩:=id hL;have hxl:=hI.len;rw[ae]at hxl;have hct:JH xs AY (AX 8)=xs.take 8:=Ya xs (k:=8) ∅;refine#[_,SqL.of hX,λp hp=>?_];rw[hct];have u1:=ze (o:=HO.lst (xs.take 8)) hp;have hS7:(upd G6 p (.lst (xs.take 8))) p=AX (.lst (xs.take 8)):=zd;have hX7:=Iss.same u1 _ _ hI;have hD7:=hD.same (s5.trans u1);refine#[#[_,SqL.of hS7],λE1 hE1=>?_];generalize upd G6 p (.lst (xs.take 8))=G7 at *;refine CompL.by (xs:=xs.take 8) (λj Bd H'=>Same G7 H'/\H' E1=AX (.lst Bd)/\Bd.length<=j/\EnsA K (ka E1 H') (((unG (zb bs) 40).take j).map (jW bs)) Bd) #[ze hE1,zd,al _,rfl] (λj Bd H' _ h=>SqL.of (h.1 _ _ hS7)) ?_ ?_
    ·refine nm4 ?_;rintro j x Bd H' hx ⟨hs,hH,hal,hEn⟩:_;have hjl:=(Be.mp hx).1;have hj8:j<8:=by rw[aG]at hjl;lia
     rw[bt hj8]at hx;obtain⟨t,pt,ht,rfl,hpt⟩:=hX7.get3 hx;have htm:=(Bm.mp (ag ht)).1;right
     erw[wS]
     rfl'
     refine#[xx,D,pt,bs,t,rfl,(hD7.same hs).l,zq hs hpt,htm,hBb.ok ⋯,λe he=>(hBb.e e he).s,λp' s' H5 h1 h2 h3 h4=>?_];have hH5:=h1 _ _ hH;have hsE:s'≠E1:=λz=>by rw[z,hH]at h4;cases h4
     refine#[hH5,⋯,CNx.mk hjl #[zJ (hs.trans h1) hE1,zd,by rw[aj];erw[aJ,bU];lia,?_]];rw[zX ht,ay];exact (hEn.same ((wM h1).trans xB)).snoc ((EnA.new (e:=jW bs t) hH5 h2 h3 hsE).same xB)
    ·rintro Bd H' ⟨hs,hH,hal,hEn⟩
     have hEn':EnsA K H' (((unG (zb bs) 40).take 8).map (jW bs)) Bd:=by
      have h1:=hEn.same wZ;rw[aG,hxl]at h1
      have e:(unG (zb bs) 40).take (min 8 (unG (zb bs) 40).length)=(unG (zb bs) 40).take 8:=by
       rw[<- fo,aP]
      rw[e]at h1;exact h1
     have hal8:Bd.length<=8:=by rw[aG]at hal;lia
     obtain⟨xk,hxk,hek⟩:=hD7.same hs;have hkl:=hek.len;refine#[E1,rfl,xk,hxk,Bd,hH,⋯,λp2 hp2=>#[D,p2,#[bs,_,sT3.trans (SamT.of (s5.trans (u1.trans (hs.trans (ze hp2))))),hT3.same (s5.trans (u1.trans (hs.trans (ze hp2)))),#[xk,ze hp2 _ _ hxk,hek.same (ze hp2)],#[xk ++ Bd,SqL.of zd,(hEn'.same (ze hp2)).app (hek.same (ze hp2))],?_,λe he=>?_,hBb,λw es h=>hcp w es (.more hTh hbey hok hne h)],rfl,rfl]]
     ·rw[aj,ae,aG];lia
     ·rcases Bh.mp he with he | he
      ·exact hBb.e e he
      ·obtain⟨t,ht,rfl⟩:=Bf.mp he;exact UM hBb hbey hnear (Bm.mp (bp ht)).1
   ·rintro σ H' ⟨Dk,Df,v5,v6,v7,hC,rfl⟩;rw[show ((m:Int)+1).toNat=m+1 by lia,eP]at hC;exact#[Dk,Df,hC,_,_,_,rfl]
  rintro σ H3 ⟨Dk,Df,v5,v6,v7,⟨kept,fresh,sT,hT,hK,hF,hfl,hfE,hB,hcp⟩,rfl⟩:_;right;ac_rfl;exact#[⋯,λp hp=>q Ba kept p Dk _ (hcp _ _ (.out kept fresh)) hB (sT.trans (SamT.of (ze hp))) (hT.same (ze hp)) zd (hK.same (ze hp))]
theorem kX{w:()}{i:Nat}{q:Int}{f:Bool}{r:zp}(hr:ps[i]? = AX r)(h:zr w q (sdl r f).1=AZ):yl ps w ((i:Int),q,f)=AX (yF w q (sdl r f).1 (sdl r f).2):=by
 have hi:=(Be.mp hr).1
 have e:ps.getD ((i:Int),q,f).1.toNat ([],[])=r:=by
  show ps.getD ((i:Int)).toNat ([],[])=r;rw[aH,aa,hr];rfl
 rw[yz (show 0<=((i:Int),q,f).1/\((i:Int),q,f).1<ps.length by constructor <;> simp <;> lia),e,if_pos h]
theorem K7(h:e ∈ fEs rs n):EOk rs e:=by
 obtain⟨i,p,hi,hp,rfl⟩:=ZN h;show z9 rs p.1 [((i:Int),(0:Int),AZ)]=AX p.2
 have hs:zr p.1 0 (sdl p AZ).1=AZ:=by
  show zr p.1 0 p.1=AZ;refine decide_eq_true #[⋯,⋯,?_];show (p.1.drop 0).take p.1.length=p.1;rw[dZ,aP]
 erw[z9,kX hp hs,bY]
 show AX (yF p.1 0 p.1 p.2)=AX p.2;congr 1;unfold yF;show p.1.take 0 ++ p.2 ++ p.1.drop (0+p.1.length)=p.2;rw[bS,br,aY ⋯,aT]
theorem zbt(hb:∀e ∈ bs,EOk rs e){t:N3}(ht:t ∈ ovA (zb bs) (zb bs).length):EOk rs (jW bs t):=by
 obtain⟨i1,i2,i3,i4⟩:=uP ht;obtain⟨r,hr⟩:∃r,(zb bs)[t.1]? = AX r:=#[_,ah i1];obtain⟨r2,hr2⟩:∃r,(zb bs)[t.2.1]? = AX r:=#[_,ah i2];have l1:=wC hr;have l2:=wC hr2;have d1:(zb bs).getD t.1 ([],[])=r:=by rw[aa,hr];rfl
 have d2:(zb bs).getD t.2.1 ([],[])=r2:=by rw[aa,hr2];rfl
 rw[l1]at i3;rw[l1,l2]at i4;have eA:pkA (zb bs) t=yF (z8 r.1 r2.1 t.2.2) 0 r.1 r.2:=by unfold pkA;rw[l1,l2,d1]
 have eB:pkB (zb bs) t=yF (z8 r.1 r2.1 t.2.2) (t.2.2:Nat) r2.1 r2.2:=by unfold pkB;rw[l1,l2,d2]
 refine jL hb ?_;show z9 (zb bs) (pkA (zb bs) t) [((t.1:Int),(0:Int),Ba),((t.2.1:Int),(t.2.2:Int),AZ)]=AX (pkB (zb bs) t);obtain⟨b1,b2⟩:=X7 r.2 (kB r.1 r2.1 t.2.2);rw[eA,eB];have h1:=kX (f:=Ba) (q:=0) hr (w:=yF (z8 r.1 r2.1 t.2.2) 0 r.1 r.2) b1;have h2:=kX (f:=AZ) (q:=(t.2.2:Int)) hr2 (w:=z8 r.1 r2.1 t.2.2) (ja ⋯ i4)
 have h1':yl (zb bs) (yF (z8 r.1 r2.1 t.2.2) 0 r.1 r.2) ((t.1:Int),(0:Int),Ba)=AX (z8 r.1 r2.1 t.2.2):=by
  rw[h1];congr 1
 have h2':yl (zb bs) (z8 r.1 r2.1 t.2.2) ((t.2.1:Int),(t.2.2:Int),AZ)=AX (yF (z8 r.1 r2.1 t.2.2) (t.2.2:Nat) r2.1 r2.2):=h2
 erw[z9,h1',h2',bY]
theorem QO{l:()}{es bs zs:List Ent}(h:uE k l ns 20 es (AX bs))(hb:ko bs=Ba)(hz:ThinL k l ns zs)(hp:zb bs=zb zs):BG k l ns bs:=by
 obtain⟨b1,_⟩:=Y2 hb
 have key:∀e ∈ bs,∃z ∈ zs,z.1=e.1/\z.2.1=e.2.1:=λe he=>by
  have:(e.1,e.2.1) ∈ zb zs:=by rw[<- hp];exact Bf.mpr #[e,he,rfl]
  obtain⟨z,hz,e2⟩:=Bf.mp this;injection e2 with h1 h2;exact#[z,hz,h1,h2]
 refine#[⋯,λe he=>?_,λe he=>?_]
 ·obtain⟨z,hzm,h1,h2⟩:=key e he;have hE:=hz.rl.e z hzm;have hn:=jk h bs rfl e he;unfold jQ at hn;exact#[⋯,⋯,⋯,by rw[<- h1];exact hE.ma,by rw[<- h2];exact hE.mb]
 ·obtain⟨z,hzm,h1,h2⟩:=key e he;rw[<- h1,<- h2];exact hz.rl.lt z hzm
def Gd(rs:List zp)(k:Nat)(l:())(ns:List Int)(es:List Ent):Prop:=(∀e ∈ es,EOk rs e)/\(es=[]\/(ThinL k l ns es/\ko es=Ba/\BG k l ns es))
theorem Xs{rs:List zp}{l:()}(G:OG l ns k){es bs:List Ent}(h:uE k l ns 20 es (AX bs))(hb:ko bs=Ba)(he:∀e ∈ es,EB l e)(ho:∀e ∈ es,EOk rs e):Gd rs k l ns bs:=by
 obtain⟨h1,zs,hz,hp⟩:=Wp (rs:=rs) G h bs rfl he ho;have hB:=QO h hb hz hp;exact#[h1,.inr #[hz.pairs hp hB.e,hb,hB]]
theorem zcZ{rs:List zp}{k n:Nat}{l:()}(G:OG l ns k){kept fresh es:List Ent}{w:Bool}(h:Cpl k l ns n kept fresh w es):(∀e ∈ fresh,EB l e)->(∀e ∈ fresh,EOk rs e)->Gd rs k l ns kept->Gd rs k l ns es:=by
 induction h with
 | out kept fresh=>exact λ_ _ h=>h
 | slim _=>exact λ_ _ h=>h
 | far h hb _ _=>exact λhe ho _=>Xs G h hb he ho
 | whole h hb _ _=>exact λhe ho _=>Xs G h hb he ho
 | @more n kept fresh bs es w h hb ho' hu r ih =>
  intro he ho _;have hg:=Xs (rs:=rs) G h hb he ho
  have hB:BG k l ns bs:=by
   obtain⟨h1,zs,hz,hp⟩:=Wp (rs:=rs) G h bs rfl he ho;exact QO h hb hz hp
  have hnear:∀e ∈ bs,e.2.2.length<=240:=λe hm=>by
   have:=jk h bs rfl e hm;unfold jQ at this;lia
  refine ih (λe hm=>?_) (λe hm=>?_) hg
  ·rcases Bh.mp hm with hm | hm
   ·exact hB.e e hm
   ·obtain⟨t,ht,rfl⟩:=Bf.mp hm;exact UM hB hb hnear (Bm.mp (bp ht)).1
  ·rcases Bh.mp hm with hm | hm
   ·exact hg.1 e hm
   ·obtain⟨t,ht,rfl⟩:=Bf.mp hm;exact zbt hg.1 (Bm.mp (bp ht)).1
theorem WO{w o:()}{q:Nat}(h:zr w (q:Int) o=AZ):w.take q ++ o ++ w.drop (q+o.length)=w:=by
 unfold zr at h;obtain⟨_,_,e⟩:=of_decide_eq_true h;rw[aH]at e
 calc w.take q ++ o ++ w.drop (q+o.length)=w.take q ++ ((w.drop q).take o.length ++ (w.drop q).drop o.length):=by rw[e,d4,ar]
  _=w.take q ++ w.drop q:=by rw[bK]
  _=w:=bK q w
theorem K2{w:()}{u:Nat × Nat}(h:zF w ps=AX u):∃p,ps[u.1]? = AX p/\zr w (u.2:Int) p.1=AZ:=by
 unfold zF at h;have hm:u ∈ xv w ps w.length:=fq h;obtain⟨_,h2⟩:=usesK_mem.mp hm;obtain⟨_,p,hp,hs⟩:=wF h2;exact#[p,hp,hs]
theorem K0{l:()}{u v:()}(h:zL k l ns u v=AZ):zt k l ns u<=zt k l ns v:=by
 unfold zL at h;by_cases e:zt k l ns u=zt k l ns v
 ·lia
 ·rw[if_neg e]at h;have:=of_decide_eq_true h;lia
theorem JP{l:()}{w:()}{p:zp}{q:Nat}(G:OG l ns k)(hp:zL k l ns p.2 p.1=AZ/\(∀c ∈ p.1,c ∈ l)/\∀c ∈ p.2,c ∈ l)(hw:∀c ∈ w,c ∈ l)(h2:zr w (q:Int) p.1=AZ):zL k l ns (yF w (q:Int) p.1 p.2) w=AZ/\∀c ∈ yF w (q:Int) p.1 p.2,c ∈ l:=by
 have e1:=WO h2;obtain⟨p1,p2,p3⟩:=hp;unfold yF;rw[aH];have ha:∀c ∈ w.take q,c ∈ l:=λc hc=>hw c (bp hc);have hb:∀c ∈ w.drop (q+p.1.length),c ∈ l:=λc hc=>hw c (cu hc);generalize w.take q=a at *;generalize w.drop (q+p.1.length)=b at *;rw[<- e1];have ap:∀x:(),(∀c ∈ x,c ∈ l)->∀c ∈ a ++ x,c ∈ l:=λx hx c hc=>(Bh.mp hc).elim (ha c) (hx c);refine#[?_,λc hc=>(Bh.mp hc).elim (ap p.2 p3 c) (hb c)];rw[(ue G hb (ap p.2 p3) (ap p.1 p2)).2,(ue G ha p3 p2).1];exact p1
theorem KB{t:N3}(ht:t ∈ ovA ps ps.length):∃r r2,ps[t.1]? = AX r/\ps[t.2.1]? = AX r2/\t.2.2<r.1.length/\yO r.1 r2.1 t.2.2=AZ/\pkA ps t=yF (z8 r.1 r2.1 t.2.2) 0 r.1 r.2/\pkB ps t=yF (z8 r.1 r2.1 t.2.2) (t.2.2:Nat) r2.1 r2.2:=by
 obtain⟨i1,i2,i3,i4⟩:=uP ht;obtain⟨r,hr⟩:∃r,ps[t.1]? = AX r:=#[_,ah i1];obtain⟨r2,hr2⟩:∃r,ps[t.2.1]? = AX r:=#[_,ah i2];have l1:=wC hr;have l2:=wC hr2;have d1:ps.getD t.1 ([],[])=r:=by rw[aa,hr];rfl
 have d2:ps.getD t.2.1 ([],[])=r2:=by rw[aa,hr2];rfl
 rw[l1]at i3;rw[l1,l2]at i4;exact#[r,r2,hr,hr2,i3,i4,by unfold pkA;rw[l1,l2,d1],by unfold pkB;rw[l1,l2,d2]]
theorem Wx{v:()}{J:Nat}(h:zF (wAt ps v J) ps=AY):∀d,wAt ps v (J+d)=wAt ps v J
 | 0=>rfl
 | d+1=>by
  show Wv ps (wAt ps v (J+d))=_;rw[Wx h d];unfold Wv;rw[h];rfl
def Rw(ps:List zp)(u v:()):Prop:=∃p,p ∈ ps/\∃a b,u=a ++ p.1 ++ b/\v=a ++ p.2 ++ b
inductive Rws(ps:List zp):()->()->Prop where
 | nil {u:()}:Rws ps u u
 | cons {u v w:()} (h:Rw ps u v) (h2:Rws ps v w):Rws ps u w
theorem Rws.trans{u v w:()}(h:Rws ps u v)(h2:Rws ps v w):Rws ps u w:=by
 induction h with
 | nil=>exact h2
 | cons s _ ih=>exact .cons s (ih h2)
theorem Rws.one{u v:()}(h:Rw ps u v):Rws ps u v:=.cons h .nil
theorem Rw.ctx{u v:()}(h:Rw ps u v)(c d:()):Rw ps (c ++ u ++ d) (c ++ v ++ d):=by
 obtain⟨p,hp,a,b,rfl,rfl⟩:=h;exact#[p,hp,c ++ a,b ++ d,by erw[ar],by erw[ar]]
theorem Rws.ctx{u v:()}(h:Rws ps u v)(c d:()):Rws ps (c ++ u ++ d) (c ++ v ++ d):=by
 induction h with
 | nil=>exact .nil
 | cons s _ ih=>exact .cons (s.ctx c d) ih
theorem uc{w:()}{p:zp}{q:Nat}(h:zr w (q:Int) p.1=AZ):w=w.take q ++ p.1 ++ w.drop (q+p.1.length)/\yF w (q:Int) p.1 p.2=w.take q ++ p.2 ++ w.drop (q+p.1.length):=by
 refine#[(WO h).symm,?_];unfold yF;rw[aH]
theorem zbR{w:()}{p:zp}{q:Nat}(hp:p ∈ ps)(h:zr w (q:Int) p.1=AZ):Rw ps w (yF w (q:Int) p.1 p.2) :=
 #[p,hp,_,_,(uc h).1,(uc h).2]
theorem Jt{w:()}{u:Nat × Nat}(h:zF w ps=AX u):Rw ps w (YV w ps u):=by
 obtain⟨p,h1,h2⟩:=K2 h;unfold YV;rw[xj h1];exact zbR (ag h1) h2
theorem qQ{ps:List zp}{w:()}:∀j,Rws ps w (wAt ps w j)
 | 0=>.nil
 | j+1=>by
  have ih:=qQ (ps:=ps) (w:=w) j
  cases e:zF (wAt ps w j) ps with
  | none =>
   have:=Wx e 1;rw[this];exact ih
  | some u =>
   rw[xZ e];exact ih.trans (.one (Jt e))
theorem XY{a o b:()}:zr (a ++ o ++ b) (a.length:Int) o=AZ:=by
 refine decide_eq_true #[⋯,by erw[aj];lia,?_];rw[aH,ar,cH,cQ]
theorem za8{u v:()}(hN:NeL ps)(h:Rw ps u v):zF u ps≠AY:=λe=>by
 obtain⟨p,hp,a,b,rfl,_⟩:=h;obtain⟨j,hj⟩:=Bo.mp hp;have hm:(j,a.length) ∈ xv (a ++ p.1 ++ b) ps (a ++ p.1 ++ b).length:=usesK_mem.mpr #[uu (hN p hp) XY,by rw[jq hj];exact XY];unfold zF at e;rw[List.head?_eq_none_iff.mp e]at hm;cases hm
theorem zc6{i j k:Nat}(hi:i<ps.length)(hj:j<ps.length)(hk:k<(lf ps i).length)(hne:i≠j\/k≠0)(ha:yO (lf ps i) (lf ps j) k=AZ):((i,j,k):N3) ∈ ovA ps ps.length:=by
 unfold ovA ovI YK;refine Br.mpr #[i,Bl.mpr hi,Br.mpr #[j,Bl.mpr hj,Bf.mpr #[k,Bm.mpr #[Bl.mpr hk,?_],rfl]]];rw[ha,fw,dD,decide_eq_true_iff,decide_eq_true_iff];exact hne
theorem Yk(hmet:∀t ∈ ovA ps ps.length,∃f,Rws ps (pkA ps t) f/\Rws ps (pkB ps t) f){p p':zp}(hp:p ∈ ps)(hp':p' ∈ ps){a b a' b':()}(e:a ++ p.1 ++ b=a' ++ p'.1 ++ b')(hle:a.length<=a'.length):∃t,Rws ps (a ++ p.2 ++ b) t/\Rws ps (a' ++ p'.2 ++ b') t:=by
 obtain⟨m,rfl⟩:∃m,a'=a ++ m:=by
  have h1:a=(a' ++ p'.1 ++ b').take a.length:=by rw[<- e,ar,cQ]
  rw[ar,aQ hle]at h1;exact#[a'.drop a.length,by conv=>rhs;rw[h1];simp [cD hle]]
 have e1:p.1 ++ b=m ++ p'.1 ++ b':=by
  erw[ar]at e
  have:=dj e;rw[this,ar]
 by_cases hk:p.1.length<=m.length
 ·obtain⟨m',rfl⟩:∃m',m=p.1 ++ m':=by
   have h1:p.1=(m ++ p'.1 ++ b').take p.1.length:=by rw[<- e1,cQ]
   rw[ar,aQ hk]at h1;exact#[m.drop p.1.length,by conv=>rhs;rw[h1];simp [cD hk]]
  have e2:b=m' ++ p'.1 ++ b':=by
   erw[ar]at e1
   have:=dj e1;rw[this,ar]
  refine#[a ++ p.2 ++ (m' ++ p'.2 ++ b'),.one #[p',hp',a ++ p.2 ++ m',b',by rw[e2];erw[ar],by erw[ar]],.one #[p,hp,a,m' ++ p'.2 ++ b',by erw[ar],rfl]]
 ·have hk':m.length<p.1.length:=Nat.lt_of_not_le hk;by_cases hsame:p=p'/\m=[]
  ·obtain⟨rfl,rfl⟩:=hsame;rw[br]at e1;have:b=b':=dj e1;rw[this,aT];exact#[_,.nil,.nil]
  ·obtain⟨i,hi⟩:=Bo.mp hp;obtain⟨j,hj⟩:=Bo.mp hp';have li:=wC hi;have lj:=wC hj
   have hne:i≠j\/m.length≠0:=by
    by_cases hij:i=j
    ·refine .inr λh0=>hsame #[?_,Bw.mp h0];rw[hij,hj]at hi;exact (Option.some.inj hi).symm
    ·exact .inl hij
   have hag:yO p.1 p'.1 m.length=AZ:=(Vs _ _ _).mpr λn hn hkn=>by
    have h1:(p.1 ++ b)[m.length+n]? =(m ++ (p'.1 ++ b'))[m.length+n]?:=by rw[e1,ar]
    rw[bB hkn,bA ⋯,Nat.add_sub_cancel_left,bB hn]at h1;exact h1
   have hov:((i,j,m.length):N3) ∈ ovA ps ps.length:=zc6 (Be.mp hi).1 (Be.mp hj).1 (by rw[li];exact hk') hne (by rw[li,lj];exact hag);obtain⟨f,f1,f2⟩:=hmet _ hov;obtain⟨r,r2,hr,hr2,_,_,eA,eB⟩:=KB hov
   have er:r=p:=by
    have h:ps[i]? = AX r:=hr;rw[hi]at h;exact (Option.some.inj h).symm
   have er2:r2=p':=by
    have h:ps[j]? = AX r2:=hr2;rw[hj]at h;exact (Option.some.inj h).symm
   subst er er2
   have eb:b=r2.1.drop (r.1.length - m.length) ++ b'.drop (r.1.length - m.length - r2.1.length):=by
    have h1:(r.1 ++ b).drop r.1.length=(m ++ (r2.1 ++ b')).drop r.1.length:=by rw[e1,ar]
    rw[cH,List.drop_append,aY ⋯,br,List.drop_append]at h1;exact h1
   generalize hc:b'.drop (r.1.length - m.length - r2.1.length)=c at eb
   have hpw:z8 r.1 r2.1 m.length ++ c=m ++ r2.1 ++ b':=by
    unfold z8;rw[ar,<- eb,e1]
   have hpl:=vd r.1 r2.1 m.length ⋯
   have hA:pkA ps (i,j,m.length)=r.2 ++ r2.1.drop (r.1.length - m.length):=by
    rw[eA];unfold yF z8;show [] ++ r.2 ++ List.drop (0+r.1.length) _=_;rw[dI,cH,br]
   have hB:pkB ps (i,j,m.length) ++ c=m ++ r2.2 ++ b':=by
    rw[eB];unfold yF;rw[aH]
    have t1:(z8 r.1 r2.1 m.length).take m.length=m:=by
     have:=congrArg (List.take m.length) hpw;rw[aQ ⋯,ar,cQ]at this;exact this
    have t2:(z8 r.1 r2.1 m.length).drop (m.length+r2.1.length) ++ c=b':=by
     have:=congrArg (List.drop (m.length+r2.1.length)) hpw;rw[bL ⋯,show m.length+r2.1.length=(m ++ r2.1).length by rw[aj],cH]at this;rw[aj]at this;exact this
    show (z8 r.1 r2.1 m.length).take m.length ++ r2.2 ++ (z8 r.1 r2.1 m.length).drop (m.length+r2.1.length) ++ c=_;rw[t1,ar,t2]
   refine#[a ++ f ++ c,?_,?_]
   ·have:=f1.ctx a c;rw[hA]at this;rw[eb]
    erw[ar]at this ⊢
    exact this
   ·have:=f2.ctx a c;rw[ar a,hB]at this
    erw[ar]at this ⊢
    exact this
theorem Vq(hmet:∀t ∈ ovA ps ps.length,∃f,Rws ps (pkA ps t) f/\Rws ps (pkB ps t) f){u v1 v2:()}(h1:Rw ps u v1)(h2:Rw ps u v2):∃t,Rws ps v1 t/\Rws ps v2 t:=by
 obtain⟨p,hp,a,b,e1,rfl⟩:=h1;obtain⟨p',hp',a',b',e2,rfl⟩:=h2;rcases Nat.le_total a.length a'.length with h | h
 ·exact Yk hmet hp hp' (e1.symm.trans e2) h
 ·obtain⟨t,t1,t2⟩:=Yk hmet hp' hp (e2.symm.trans e1) h;exact#[t,t2,t1]
section
variable{k:Nat}{l:()}{ws:List Int}{ps:List zp}
def Below(k:Nat)(l:())(ws:List Int)(w v:()):Prop:=(∀c ∈ v,c ∈ l)/\(v=w\/zL k l ws v w=AZ)
theorem Zu(G:OG l ws k)(hp:∀p ∈ ps,zL k l ws p.2 p.1=AZ/\(∀c ∈ p.1,c ∈ l)/\∀c ∈ p.2,c ∈ l){u v:()}(hu:∀c ∈ u,c ∈ l)(h:Rw ps u v):zL k l ws v u=AZ/\∀c ∈ v,c ∈ l:=by
 obtain⟨p,hpm,a,b,rfl,rfl⟩:=h;have:=JP (q:=a.length) G (hp p hpm) hu XY;rw[(uc XY).2]at this;rw[ar a,cQ,show a.length+p.1.length=(a ++ p.1).length by rw[aj],<- ar,cH]at this;exact this
theorem Below.step(G:OG l ws k)(hp:∀p ∈ ps,zL k l ws p.2 p.1=AZ/\(∀c ∈ p.1,c ∈ l)/\∀c ∈ p.2,c ∈ l){w u v:()}(hu:Below k l ws w u)(h:Rw ps u v):Below k l ws w v:=by
 obtain⟨h1,h2⟩:=Zu G hp hu.1 h;refine#[h2,.inr ?_];rcases hu.2 with rfl | h3
 ·exact h1
 ·exact wn h1 h3
noncomputable def mu(k:Nat)(l:())(ws:List Int)(Ws:List (()))(v:()):Nat:=Ws.countP λy=>zL k l ws y v
theorem YS{α:Type}{p q:α->Bool}:∀{xs:List α} {x:α},(∀z ∈ xs,p z=AZ->q z=AZ)->x ∈ xs->q x=AZ->p x=Ba->xs.countP p<xs.countP q
 | y::xs,x,h,hx,hq,hp=>by
  have mono:xs.countP p<=xs.countP q:=List.countP_mono_left λz hz=>h z (am _ hz);rcases Bg.mp hx with rfl | hx
  ·rw[cJ hq,dk (by rw[hp];decide)];lia
  ·have ih:=YS (λz hz=>h z (am _ hz)) hx hq hp;by_cases hy:p y=AZ
   ·rw[cJ hy,cJ (h y ax hy)];lia
   ·rw[dk hy];by_cases hy2:q y=AZ
    ·rw[cJ hy2];lia
    ·rw[dk hy2];exact ih
theorem zdN{Ws:List (())}{x y:()}(hx:x ∈ Ws)(h:zL k l ws x y=AZ):mu k l ws Ws x<mu k l ws Ws y :=
 YS (λz _ hz=>wn hz h) hx h yX
end
inductive EqR(ps:List zp):()->()->Prop where
 | refl (u:()):EqR ps u u
 | symm {u v:()} (h:EqR ps u v):EqR ps v u
 | trans {u v w:()} (h:EqR ps u v) (h2:EqR ps v w):EqR ps u w
 | one {u v:()} (h:Rw ps u v):EqR ps u v
theorem kQ(ps:List zp):Vc (EqR ps):=#[.refl,.symm,.trans,λ{u v} a b h=>by
 induction h with
 | refl u=>exact .refl _
 | symm _ ih=>exact .symm ih
 | trans _ _ i1 i2=>exact .trans i1 i2
 | one h=>exact .one (h.ctx a b)]
theorem QI{p:zp}(h:p ∈ ps):EqR ps p.1 p.2:=.one #[p,h,[],[],by simp,by simp]
theorem Jv{R:()->()->Prop}(hR:Vc R)(hp:∀p ∈ ps,R p.1 p.2){u v:()}(h:EqR ps u v):R u v:=by
 induction h with
 | refl u=>exact hR.refl _
 | symm _ ih=>exact hR.symm ih
 | trans _ _ i1 i2=>exact hR.trans i1 i2
 | one h =>
  obtain⟨p,hm,a,b,rfl,rfl⟩:=h;exact hR.ctx a b (hp p hm)
theorem zbI{R:()->()->Prop}(hR:Vc R)(hp:∀p ∈ rs,R p.1 p.2){u v:()}{s:Stp}(h:yl rs u s=AX v):R u v:=by
 by_cases hb:0<=s.1/\s.1<rs.length
 ·rw[yz hb]at h
  have hm:rs.getD s.1.toNat ([],[]) ∈ rs:=by
   rw[aa,ah ⋯];exact eJ _
  generalize rs.getD s.1.toNat ([],[])=r at *;by_cases hs:zr u s.2.1 (sdl r s.2.2).1=AZ
  ·rw[if_pos hs]at h;have h0:0<=s.2.1:=(of_decide_eq_true hs).1;obtain⟨q,hq⟩:∃q:Nat,s.2.1=(q:Int):=#[s.2.1.toNat,⋯];rw[hq]at h hs;obtain⟨e1,e2⟩:=uc (p:=sdl r s.2.2) hs;rw[e2]at h;cases h
   conv=>arg 1;rw[e1]
   refine hR.ctx _ _ ?_;unfold sdl;split
   ·exact hp r hm
   ·exact hR.symm (hp r hm)
  ·rw[if_neg hs]at h;cases h
 ·rw[yQ hb]at h;cases h
theorem Qk{R:()->()->Prop}(hR:Vc R)(hp:∀p ∈ rs,R p.1 p.2):∀{ss:List Stp} {u v:()},z9 rs u ss=AX v->R u v
 | [],u,v,h=>by cases h;exact hR.refl _
 | s::ss,u,v,h=>by
  obtain⟨w1,h1,h2⟩:=uq h;exact hR.trans (zbI hR hp h1) (Qk hR hp h2)
section
variable{k:Nat}{l:()}{ws:List Int}{ps:List zp}
def Dwn(k:Nat)(l:())(ws:List Int)(ps:List zp):Prop:=∀p ∈ ps,zL k l ws p.2 p.1=AZ/\(∀c ∈ p.1,c ∈ l)/\∀c ∈ p.2,c ∈ l
theorem zfy(hp:Dwn k l ws ps){u v:()}(h:Rw ps u v):(∀c ∈ u,c ∈ l) ↔ ∀c ∈ v,c ∈ l:=by
 obtain⟨p,hm,a,b,rfl,rfl⟩:=h;obtain⟨_,h1,h2⟩:=hp p hm
 erw[List.mem_append]
 exact#[λh c hc=>hc.elim (λhc=>hc.elim (λhc=>h c (.inl (.inl hc))) (h2 c)) (λhc=>h c (.inr hc)),λh c hc=>hc.elim (λhc=>hc.elim (λhc=>h c (.inl (.inl hc))) (h1 c)) (λhc=>h c (.inr hc))]
theorem U2(hp:Dwn k l ws ps){u v:()}(h:EqR ps u v):(∀c ∈ u,c ∈ l) ↔ ∀c ∈ v,c ∈ l:=by
 induction h with
 | refl u=>exact .rfl
 | symm _ ih=>exact ih.symm
 | trans _ _ i1 i2=>exact i1.trans i2
 | one h=>exact zfy hp h
noncomputable def ze3(l:()):Nat->List (())
 | 0=>[[]]
 | n+1=>[]::(ze3 l n).flatMap λw=>l.map (·::w)
theorem WR:∀(n:Nat) (v:()),v.length<=n->(∀c ∈ v,c ∈ l)->v ∈ ze3 l n
 | 0,v,h,_=>by rw[Bw.mp (Nat.le_zero.mp h)];exact ax
 | n+1,[],_,_=>ax
 | n+1,c::v,h,hm=>am _ (Br.mpr #[v,WR n v (Nat.le_of_succ_le_succ h) λx hx=>hm x (am _ hx),Bf.mpr #[c,hm c ax,rfl]])
theorem zaC(G:OG l ws k):∀{v:()},(∀c ∈ v,c ∈ l)->(v.length:Int)<=zt k l ws v
 | [],_=>wx G λc hc=>(nomatch hc)
 | c::v,hm=>by
  have h1:=zaC G (v:=v) λx hx=>hm x (am _ hx);have h2:=uN (u:=[c]) G (λx hx=>hm x (by rw[Bj.mp hx];exact ax)) (by simp);have h3:=yT (k:=k) (l:=l) (ns:=ws) [c] v;rw[show c::v=[c] ++ v from rfl,h3,aj]
  erw[dB]
  lia
theorem US(G:OG l ws k)(w:()):∃Ws:List (()),∀v,Below k l ws w v->v ∈ Ws:=by
 refine#[ze3 l (zt k l ws w).toNat,λv hv=>WR _ v ?_ hv.1];have h1:=zaC G hv.1
 have h2:zt k l ws v<=zt k l ws w:=by
  rcases hv.2 with rfl | h
  ·exact fQ _
  ·exact K0 h
 lia
theorem Y6(G:OG l ws k)(hp:Dwn k l ws ps)(hmet:∀t ∈ ovA ps ps.length,∃f,Rws ps (pkA ps t) f/\Rws ps (pkB ps t) f){w:()}{Ws:List (())}(hin:∀v,Below k l ws w v->v ∈ Ws):∀(n:Nat) (x:()),mu k l ws Ws x<n->Below k l ws w x->∀v1 v2,Rws ps x v1->Rws ps x v2->∃t,Rws ps v1 t/\Rws ps v2 t
 | 0,x,h,_=>absurd h (cq _)
 | n+1,x,hn,hx=>λv1 v2 h1 h2=>by
  cases h1 with
  | nil=>exact#[v2,h2,.nil]
  | @cons _ y1 _ s1 r1 =>
   cases h2 with
   | nil=>exact#[v1,.nil,.cons s1 r1]
   | @cons _ y2 _ s2 r2 =>
    have b1:=hx.step G hp s1;have b2:=hx.step G hp s2;have m1:=zdN (Ws:=Ws) (hin _ b1) (Zu G hp hx.1 s1).1;have m2:=zdN (Ws:=Ws) (hin _ b2) (Zu G hp hx.1 s2).1;obtain⟨s,j1,j2⟩:=Vq hmet s1 s2;obtain⟨t1,a1,a2⟩:=Y6 G hp hmet hin n y1 ⋯ b1 v1 s r1 j1;obtain⟨t,c1,c2⟩:=Y6 G hp hmet hin n y2 ⋯ b2 t1 v2 (j2.trans a2) r2;exact#[t,a1.trans c1,c2]
def Met(ps:List zp):Prop:=∀t ∈ ovA ps ps.length,∃f,Rws ps (pkA ps t) f/\Rws ps (pkB ps t) f
theorem zbA(G:OG l ws k)(hp:Dwn k l ws ps)(hmet:Met ps){x v1 v2:()}(hx:∀c ∈ x,c ∈ l)(h1:Rws ps x v1)(h2:Rws ps x v2):∃t,Rws ps v1 t/\Rws ps v2 t:=by
 obtain⟨Ws,hin⟩:=US G x;exact Y6 G hp hmet hin _ x (eE _) #[hx,.inl rfl] v1 v2 h1 h2
theorem zdK(G:OG l ws k)(hp:Dwn k l ws ps)(hmet:Met ps){u v:()}(h:EqR ps u v):(∀c ∈ u,c ∈ l)->∃t,Rws ps u t/\Rws ps v t:=by
 induction h with
 | refl u=>exact λ_=>#[u,.nil,.nil]
 | symm h ih =>
  intro hu;obtain⟨t,h1,h2⟩:=ih ((U2 hp h).mpr hu);exact#[t,h2,h1]
 | trans h _ i1 i2 =>
  intro hu;have hv:=(U2 hp h).mp hu;obtain⟨t1,a1,a2⟩:=i1 hu;obtain⟨t2,b1,b2⟩:=i2 hv;obtain⟨t,c1,c2⟩:=zbA G hp hmet hv a2 b1;exact#[t,a1.trans c1,b2.trans c2]
 | one h=>exact λ_=>#[_,.one h,.nil]
end
section
variable{k:Nat}{l:()}{ws:List Int}{es fs:List Ent}
end
theorem zdA(h:unG ps 40=[]):Met ps:=λt ht=>by
 have hm:Jz ps 40 t=AZ:=by
  cases e:Jz ps 40 t with
  | true=>rfl
  | false =>
   have:t ∈ unG ps 40:=Bm.mpr #[ht,by rw[e];rfl];rw[h]at this;cases this
 have e:zcL ps 40 (pkA ps t)=zcL ps 40 (pkB ps t):=of_decide_eq_true hm;refine#[zcL ps 40 (pkA ps t),qQ _,?_];rw[e];exact qQ _
theorem zb8{k n:Nat}{l:()}{kept fresh es:List Ent}{w:Bool}(h:Cpl k l ns n kept fresh w es):w=AZ->Met (zb es):=by
 induction h with
 | out kept fresh=>exact λe=>by cases e
 | slim _=>exact λe=>by cases e
 | far _ _ _ _=>exact λe=>by cases e
 | whole _ _ _ hu=>exact λ_=>zdA hu
 | more _ _ _ _ _ ih=>exact ih
theorem Qy{R:()->()->Prop}(hR:Vc R){k n:Nat}{l:()}{kept fresh es:List Ent}{w:Bool}(h:Cpl k l ns n kept fresh w es):w=AZ->vT R es->vT R fresh:=by
 induction h with
 | out kept fresh=>exact λe=>by cases e
 | slim _=>exact λe=>by cases e
 | far _ _ _ _=>exact λe=>by cases e
 | whole h _ _ _=>exact λ_ hk=>(zaX hR h _ rfl).mp hk
 | more h _ _ _ _ ih=>exact λe hk=>(zaX hR h _ rfl).mp λx hx=>ih e hk x (bn _ hx)
theorem Ut{i:Nat}{p:zp}(h:rs[i]? = AX p):∀{n:Nat},i<n->fE i p ∈ fEs rs n
 | n+1,hi=>by
  show _ ∈ fEs rs n ++ ((rs[n]?).map (fE n)).toList;rcases Nat.lt_succ_iff_lt_or_eq.mp hi with hi | rfl
  ·exact bn _ (Ut h hi)
  ·rw[h];exact aC _ ax
def WT(K:so):List V->Hp->VK->Prop:=λxs H Q=>∃p ys,xs=[.ref p]/\(SqL K H p ys\/SqT K H p ys)/\∀l,H l=AY->Q (.ref l) (upd H l (.lst ys))
structure TabAt(H:Hp)(t:sq)(rs:List sq)(tab:List (List Int)):Prop where
 top:H t=AX (.lst (rs.map V.ref))
 len:rs.length=tab.length
 row:∀(i:Nat) (r:sq) (x:List Int),rs[i]? = AX r->tab[i]? = AX x->H r=AX (.lst (x.map V.int))
theorem TabAt.same{H H':Hp}{t:sq}{rs:List sq}{tab:List (List Int)}(h:TabAt H t rs tab)(e:Same H H'):TabAt H' t rs tab:=#[e _ _ h.top,h.len,λi r x h1 h2=>e _ _ (h.row i r x h1 h2)]
structure xG(l:())(tab:List (List Int)):Prop where
 lo:1<=tab.length
 hi:tab.length<=8
 wd:∀x ∈ tab,x.length=l.length
 rm:∀x ∈ tab,∀n ∈ x,0<=n/\n<(tab.length:Int)
theorem TabAt.get{t:sq}{rs:List sq}{tab:List (List Int)}(h:TabAt H t rs tab){i:Int}(h0:0<=i)(h1:i<(tab.length:Int)):∃r x,atI (rs.map V.ref) i=AX (.ref r)/\tab[i.toNat]? = AX x/\H r=AX (.lst (x.map V.int)):=by
 have hl:=h.len;obtain⟨v,e1,e2⟩:=qf (xs:=rs.map V.ref) h0 (by rw[ae];lia);rw[aq]at e2;obtain⟨r,hr,rfl⟩:=Bk.mp e2;have hx:tab[i.toNat]? = AX (tab[i.toNat]'⋯):=ah ⋯;exact#[r,_,e1,hx,h.row _ _ _ hr hx]
theorem Vw{t:sq}{rs:List sq}{tab:List (List Int)}{σ:L2.St}{D:sq}{g:TG}(hg:g=yy 0)(h:TabAt H t rs tab)(hb:tab.length<=1000)(hD:H D=AY)(q:∀(rs':List sq) (H':Hp),Same H H'->TabAt H' D rs' tab->(∀r ∈ D::rs',H r=AY)->D ∉ rs'->Q (.ref D) H') :
  CompL K t g wS (tCB (WT K) (zM (ym 0) xH)) 1 [] σ H Q D:=by
 have s16:=zP;have hl:=h.len;subst hg;refine CompL.by (xs:=rs.map V.ref) (λi Bd H'=>∃rs':List sq,Bd=rs'.map V.ref/\rs'.length=i/\Same H H'/\H' D=AX (.lst Bd)/\(∀r ∈ rs',H r=AY/\r≠D)/\∀(j:Nat) (r:sq) (x:List Int),rs'[j]? = AX r->tab[j]? = AX x->H' r=AX (.lst (x.map V.int))) #[[],rfl,rfl,ze hD,zd,λr h=>(nomatch h),λj r x h=>by simp at h] (λi Bd H' _ h'=>by obtain⟨_,_,_,hs,_⟩:=h';exact SqL.of (hs _ _ h.top)) ?_ ?_
 ·refine nm4 ?_;rintro i v Bd H' hv ⟨rs',rfl,hi,hs,hH,hf,hr⟩:_;rw[aq]at hv;obtain⟨r,hr0,rfl⟩:=Bk.mp hv;have hil:=(Be.mp hr0).1;have hx:tab[i]? = AX (tab[i]'⋯):=ah ⋯;right;generalize tab[i]'⋯=x at hx;have hrow:=hs _ _ (h.row i r x hr0 hx)
  erw[wS]
  rfl'
  erw[WT]
  rfl'
  refine#[xx,_,.inl (SqL.of hrow),λp hp=>#[ze hp _ _ hH,by rw[ae];lia,CNx.mk (by rw[ae];lia) #[rs' ++ [p],by rw[ay];rfl,by rw[aj,hi];rfl,zJ (hs.trans (ze hp)) hD,zd,?_,?_]]]
  ·intro r' hr';rcases Bh.mp hr' with h' | h'
   ·exact hf r' h'
   ·rw[Bj.mp h'];refine#[?_,λe=>by rw[e]at hp;rw[hp]at hH;cases hH]
    cases e:H p with
    | none=>rfl
    | some o=>have:=hs _ _ e;rw[hp]at this;cases this
  ·intro j r' x' h1 h2;by_cases hj:j<i
   ·rw[bB ⋯]at h1;have hm:=hf r' (ag h1);rw[zm hm.2];exact ze hp _ _ (hr j r' x' h1 h2)
   ·rw[bA ⋯]at h1
    have hj0:j=i:=by
     have:=(Be.mp h1).1;simp at this;lia
    subst hj0;rw[hi,eP]at h1;cases h1;rw[hx]at h2;cases h2;rw[zm (λe=>by rw[e]at hp;rw[hp]at hH;cases hH)];exact zd
 ·rintro Bd H' ⟨rs',rfl,hi,hs,hH,hf,hr⟩;rw[ae]at hi
  exact q rs' H' hs #[hH,⋯,hr] (λr hr'=>by
   rcases Bg.mp hr' with rfl | h'
   ·exact hD
   ·exact (hf r h').1) λh'=>(hf D h').2 rfl
theorem UZ{t:sq}{rs:List sq}{tab:List (List Int)}{σ:L2.St}{D:sq}{g:TG}(hg:g=yy 0)(h:TabAt H t rs tab)(hb:tab.length<=1000)(hD:H D=AY)(q:∀(rs':List sq) (H':Hp),Same H H'->TabAt H' D rs' tab->(∀r ∈ D::rs',H r=AY)->Q (.ref D) H') :
  CompL K t g wS (tCB (WT K) (zM (ym 0) xH)) 1 [] σ H Q D :=
 Vw hg h hb hD λrs' H' s' t' f' _=>q rs' H' s' t' f'
structure zc4(K:so)(mg:sB->Option sr)(C:sq):Prop where
 xi:XI K C
 ini:af K (.ref C) "__init__" = AX (AX (.builtin "ValueError.__init__"))
 g:mg "NoWorld" = AX (.ref C)
 most:∃t,mg "MOST_ROOMS" = AX (.int 8 t)
def qY:Sp:=λvs H Q _=>∃(l:()) (a:sq) (rs:List sq) (tab:List (List Int)),vs=[.str (tx l),.ref a]/\l.length<=6/\TabAt H a rs tab/\xG l tab/\∀(t:sq) (rs':List sq) (H':Hp),Same H H'->TabAt H' t rs' tab->(∀r ∈ t::rs',H r=AY)->Q (.ref t) H'
theorem mZ:sQz 2 ["letters","table","row","room"] vo:=by nofun
theorem Xz{f CQ:sq}(B:Bt mg)(TNw:zc4 K mg CQ)(F:("table_of"^^^vo)) :(1|||["letters","table"]) qY:=by
 obtain⟨t6,g6⟩:=TNw.most
 exists Fun.okX F mZ,0
 ·obtain⟨l,a,rs,tab,rfl,hl6,hT,hG,q⟩:=h
  refine#[_,(zi (zK (zU (ud xy xy zg (zA B.len (pv 1)) (yv (v:=.int 8) rfl g6 #[t6,rfl])))
    (zf (z7 hx rfl TNw.xi.toXC TNw.ini rfl TNw.g (za zS zc)))
    zv)
   (zi (zW PassesOwn.leaving rfl (yj (pv 1)) (zx (i:=2) mZ.nd rfl (.inl rfl))
    (zI (zK (zy j3 (zA B.len (pv 2)) (zA B.len (pv 0)) (zC _))
     (zf (z7 hx rfl TNw.xi.toXC TNw.ini rfl TNw.g (za zS zc)))
     zv)
    (zf (zW PassesOwn.leaving rfl (yj (pv 2)) (zx (i:=3) mZ.nd rfl (.inl rfl))
     (zf (zK (zU (ud xy Q5 zg (pv 3) (zA B.len (pv 1))))
      (zf (z7 hx rfl TNw.xi.toXC TNw.ini rfl TNw.g (za zS zc)))
      zv))))))
   (zf (zl (xz (own:=["row"]) (caps:=[]) (ix:=[]) (tt:=wS) (te:=(tCB (WT K) (zM (ym 0) xH))) rfl (zN (sc:=zh vo) rfl (by symm) (by symm) (by symm) rfl (by symm) (by symm) rfl) (yj (pv 1)) (λ_ _ _ _ _ _=>zx (i:=0) (show List.Nodup [_] by decide) rfl (.inl rfl)) (λ_ _ _ _ _ _=>yG) (λ_ _ _ _ _ _=>(xn yW rfl B.list PySem.Pv.boot_list (za (pv 0) zc)))))))),?_]
  have s16:=zP;have hlen:=hT.len;have hlo:=hG.lo;have hhi:=hG.hi;refine zj (λσ H'=>H'=H/\σ=[~~~l,!!a,AY,AY]) ?_ ?_
  ·ac_rfl;exact#[_,.inl #[_,SqL.of hT.top,rfl],yq (λ_=>yq (λh=>absurd (by rw[ae];lia) h) λ_=>trivial) λh=>absurd (by rw[ae];lia) h]
  rintro σ H1 ⟨rfl,rfl⟩:_;right;refine zj (λσ H'=>H'=H1/\∃v2 v3,σ=[~~~l,!!a,v2,v3]) ?_ ?_
  ·ac_rfl;refine#[#[_,SqL.of hT.top],ForL.by (xs:=rs.map V.ref) (λi σ H'=>H'=H1/\∃v2 v3,σ=[~~~l,!!a,v2,v3]) #[rfl,AY,AY,rfl] (λi σ H' _ h=>by rw[h.1];exact SqL.of hT.top) ?_ λσ H' h=>h];refine nm4 ?_;rintro i y σ H' hy ⟨rfl,v2,v3,rfl⟩:_;rw[aq]at hy;obtain⟨r,hr,rfl⟩:=Bk.mp hy;have hil:=(Be.mp hr).1;have hx:tab[i]? = AX (tab[i]'⋯):=ah ⋯;right;generalize tab[i]'⋯=x at hx;have hrow:=hT.row i r x hr hx;have hmx:=ag hx;have hw:=hG.wd x hmx;ac_rfl;refine#[_,.inl #[_,SqL.of hrow,rfl],⋯,yq (λh=>absurd (by rw[ae];lia) h) λ_=>#[#[_,SqL.of hrow],ForL.by (xs:=x.map V.int) (λi σ H''=>H''=H'/\∃v2 v3,σ=[~~~l,!!a,v2,v3]) #[rfl,_,_,rfl] (λi σ H'' _ h=>by rw[h.1];exact SqL.of hrow) ?_ λσ H' h=>h]];refine nm4 ?_;rintro j y σ H'' hy ⟨rfl,v2,v3,rfl⟩:_;rw[aq]at hy;obtain⟨n,hn,rfl⟩:=Bk.mp hy;obtain⟨n1,n2⟩:=hG.rm x hmx n (ag hn);right;ac_rfl;exact yq (λ_=>#[_,.inl #[_,SqL.of hT.top,rfl],yq (λh=>absurd (by rw[ae];lia) h) λ_=>trivial]) λh=>absurd n1 h
  rintro σ H2 ⟨rfl,v2,v3,rfl⟩:_;right;ac_rfl;exact#[#[_,SqL.of hT.top],λD hD=>UZ rfl hT ⋯ hD λrs' H' s' t' f'=>q D rs' H' s' t' f']
structure zau(K:so)(mg:sB->Option sr)(CV:sq):Prop where
 cl:Cls K CV
 g:mg "World" = AX (.ref CV)
 nl:NoAttr K CV "letters"
 nt:NoAttr K CV "table"
def WorAt(CV:sq)(H:Hp)(o:sq)(l:())(t:sq)(rs:List sq)(tab:List (List Int)):Prop:=∃dx,H o=AX (.ins CV dx [("letters",.str (tx l)),("table",.ref t)])/\TabAt H t rs tab
theorem WorAt.same{CV:sq}{H H':Hp}{o t:sq}{l:()}{rs:List sq}{tab:List (List Int)}(h:WorAt CV H o l t rs tab)(e:Same H H'):WorAt CV H' o l t rs tab:=by
 obtain⟨dx,h1,h2⟩:=h;exact#[dx,e _ _ h1,h2.same e]
theorem TabAt.updI{p C dx t:sq}{fs gs:List (sB × V)}{rs:List sq}{tab:List (List Int)}(hp:H p=AX (.ins C dx fs))(h:TabAt H t rs tab):TabAt (upd H p (.ins C dx gs)) t rs tab:=by
 refine#[?_,h.len,λi r x h1 h2=>?_]
 ·rw[zm (λe=>by have:=h.top;rw[e,hp]at this;cases this)];exact h.top
 ·have h3:=h.row i r x h1 h2;rw[zm (λe=>by rw[e,hp]at h3;cases h3)];exact h3
def vZ(CV:sq):Sp:=λvs H Q _=>∃(x dx a:sq) (l:()) (rs:List sq) (tab:List (List Int)),vs=[.ref x,.str (tx l),.ref a]/\uU l=AZ/\TabAt H a rs tab/\xG l tab/\H x=AX (.ins CV dx []) /\
 ∀(t:sq) (rs':List sq) (H':Hp),(∀b o,b≠x->H b=AX o->H' b=AX o)->(∀r ∈ t::rs',H r=AY)->WorAt CV H' x l t rs' tab->Q .non H'
theorem kK:sQz 3 ["self","letters","table"] ve:=by nofun
theorem kO{f C CV:sq}(B:Bt mg)(CLw:zau K mg CV)(F:Fun K "__init__" "World.__init__" ve f fd)(mm:(2>>>"letters_of") ["text"] [] (wj C))(rE:(1>>>"table_of") ["letters","table"] [] qY):(4|||["self","letters","table"]) (vZ CV):=by
 exists Fun.okX F kK,0
 ·obtain⟨x,dx,a,l,rs,tab,rfl,hg,hT,hG,hX,q⟩:=h
  refine#[_,(zi (kH (pv 0) (clP hx mm hr .nil rfl (za (pv 1) zc)) rfl)
   (zf (kH (pv 0) (clP hx rE hr .nil rfl (za (pv 1) (za (pv 2) zc))) rfl))),?_]
  have s16:=zP;have hg':=of_decide_eq_true hg;refine zj (λσ H'=>H'=upd H x (.ins CV dx [("letters",.str (tx l))])/\σ=[!!x,~~~l,!!a]) ?_ ?_
  ·ac_rfl;exact#[l,rfl,⋯,λ_=>#[_,_,_,hX,CLw.cl,CLw.nl,∅,rfl],λe=>by rw[hg]at e;cases e]
  rintro σ H1 ⟨rfl,rfl⟩:_;right;ac_rfl;refine#[l,a,rs,tab,rfl,⋯,hT.updI hX,hG,λt rs' H' s' t' f'=>?_];have hX2:=s' _ _ (zd (H:=H) (a:=x) (o:=.ins CV dx [("letters",.str (tx l))]))
  have fr:∀r ∈ t::rs',H r=AY/\r≠x:=λr hr'=>by
   have h1:=f' r hr';have h2:r≠x:=λe=>by rw[e,zd]at h1;cases h1
   rw[zm h2]at h1;exact#[h1,h2]
  exact#[_,_,_,hX2,CLw.cl,CLw.nt,by show 1<1000;decide,q t rs' _ (λb o hb e=>by rw[zm hb];exact s' _ _ (by rw[zm hb];exact e)) (λr hr'=>(fr r hr').1) #[dx,zd,t'.updI hX2]]
theorem Qa{CV a:sq}{l:()}{rs:List sq}{tab:List (List Int)}{R:sq->Hp->Prop}(hg:uU l=AZ)(hT:TabAt H a rs tab)(hG:xG l tab)(q:∀(x t:sq) (rs':List sq) (H':Hp),Same H H'->H x=AY->(∀r ∈ t::rs',H r=AY)->WorAt CV H' x l t rs' tab->R x H') :
  ∀x dx,H x=AY->H dx=AY->dx≠x->vZ CV [.ref x,.str (tx l),.ref a] (upd (upd H dx (.own x)) x (.ins CV dx [])) (λv H2=>v=.non/\R x H2) E:=by
 intro x dx hx hdx hne;have sd:=ze (o:=.own x) hdx;have hx1:(upd H dx (.own x)) x=AY:=by rw[zm hne.symm];exact hx
 have sx:=sd.trans (ze (o:=.ins CV dx []) hx1);refine#[x,dx,a,l,rs,tab,rfl,hg,hT.same sx,hG,zd,λt rs' H' k f hc=>#[rfl,q x t rs' H' (λb o e=>k b o (zG e hx) (sx b o e)) hx (λr hr=>?_) hc]]
 cases e:H r with
 | none=>rfl
 | some o=>have:=sx _ _ e;rw[f r hr]at this;cases this
def qu(CV:sq):Sp:=λvs H Q _=>∃(o t:sq) (l:()) (rs:List sq) (tab:List (List Int)),vs=[.ref o]/\WorAt CV H o l t rs tab/\Q (.int (tab.length:Nat)) H
theorem jT:sQz 1 ["self"] wu:=by nofun
theorem kd{f CV:sq}(B:Bt mg)(CLw:zau K mg CV)(F:Fun K "rooms" "World.rooms" wu f fd) :(1&&&["self"]) (qu CV):=by
 exists F.ok jT
 ·obtain⟨o,t,l,rs,tab,rfl,hW,q⟩:=h;refine#[_,(zf (zl (zA B.len (vW (pv 0) rfl)))),?_];have s16:=zP
  rfl'
  obtain⟨dx,ho,hT⟩:=hW;exact#[_,_,_,ho,CLw.cl,CLw.nt,_,rfl,_,.inl #[_,SqL.of hT.top,rfl],by rw[ae,hT.len];exact q]
theorem Qb{CV o t:sq}{l:()}{rs:List sq}{tab:List (List Int)}(h:WorAt CV H o l t rs tab)(q:Q (.int (tab.length:Nat)) H):qu CV [.ref o] H Q E:=#[o,t,l,rs,tab,rfl,h,q]
noncomputable def j0(l:())(tab:List (List Int))(r:Int)(c:Nat):Int:=(tab.getD r.toNat []).getD (l.idxOf c) 0
noncomputable def ux(l:())(tab:List (List Int))(r:Int)(w:()):Int:=w.foldl (j0 l tab) r
theorem KG{l:()}{tab:List (List Int)}(hG:xG l tab){r:Int}(h0:0<=r)(h1:r<(tab.length:Int)){c:Nat}(hc:c ∈ l):0<=j0 l tab r c/\j0 l tab r c<(tab.length:Int):=by
 have hx:tab[r.toNat]? = AX (tab[r.toNat]'⋯):=ah ⋯;generalize tab[r.toNat]'⋯=x at hx;have hm:=ag hx;have hi:=bE hc;rw[<- hG.wd x hm]at hi;have hn:x[l.idxOf c]? = AX x[l.idxOf c]:=ah hi;unfold j0;rw[aa (l:=tab),hx,dA,aa,hn,dA];exact hG.rm x hm _ (ag hn)
theorem VY{l:()}{tab:List (List Int)}(hG:xG l tab):∀{w:()} {r:Int},0<=r->r<(tab.length:Int)->(∀c ∈ w,c ∈ l)->0<=ux l tab r w/\ux l tab r w<(tab.length:Int)
 | [],r,h0,h1,_=>#[h0,h1]
 | c::w,r,h0,h1,hw=>by
  obtain⟨a,b⟩:=KG hG h0 h1 (hw c (by simp));exact VY hG (w:=w) a b λx hx=>hw x (by simp [hx])
theorem Je{l:()}{tab:List (List Int)}{r:Int}{w:()}{i c:Nat}(h:w[i]? = AX c):ux l tab r (w.take (i+1))=j0 l tab (ux l tab r (w.take i)) c:=by
 unfold ux;rw[zX h,List.foldl_append];rfl
theorem zdO{l:()}{tab:List (List Int)}(hG:xG l tab){r:Int}{x:List Int}(hx:tab[r.toNat]? = AX x){c:Nat}(hc:c ∈ l):atI (x.map V.int) ((l.idxOf c:Nat):Int)=AX (.int (j0 l tab r c)):=by
 have hm:=ag hx;have hi:=bE hc;rw[<- hG.wd x hm]at hi;have hn:x[l.idxOf c]? = AX x[l.idxOf c]:=ah hi;refine vM ?_;unfold j0;rw[aq,hn,aa (l:=tab),hx,dA,aa,hn];rfl
def qW(CV:sq):Sp:=λvs H Q _=>∃(o t:sq) (l:()) (rs:List sq) (tab:List (List Int)) (r:Int) (w:()),vs=[.ref o,.int r,.str (tx w)]/\WorAt CV H o l t rs tab/\xG l tab/\0<=r/\r<(tab.length:Int)/\(∀c ∈ w,c ∈ l)/\Q (.int (ux l tab r w)) H
theorem mr:sQz 3 ["self","room","word","letter"] vN:=by nofun
theorem Yw{f CV:sq}(B:Bt mg)(CLw:zau K mg CV)(F:Fun K "led" "World.led" vN f fd) :(1&&&["self","room","word"]) (qW CV):=by
 exists F.ok mr
 ·obtain⟨o,t,l,rs,tab,r,w,rfl,hW,hG,h0,h1,hw,q⟩:=h
  refine#[_,(zI (zW PassesOwn.never rfl (Qj (pv 2)) (zx (i:=3) mr.nd rfl (.inl rfl))
    (zf (zD 1 mr.nd (zo ix_list (zo ix_list (vW (pv 0) rfl) (pv 1)) (uM bW e8 e9 Jm (vW (pv 0) rfl) (za (pv 3) zc))))))
   (zf (zl (pv 1)))),?_]
  have s16:=zP
  rfl'
  obtain⟨dx,ho,hT⟩:=hW;refine ForS.by (λi σ H'=>H'=H/\∃v3,σ=[!!o,AX (.int (ux l tab r (w.take i))),~~~w,v3]) #[rfl,AY,rfl] ?_ ?_
  ·refine nm4 ?_;rintro i c σ H' hc ⟨rfl,v3,rfl⟩:_;have hcl:=hw c (ag hc);obtain⟨a,b⟩:=VY hG (w:=w.take i) h0 h1 λx hx=>hw x (bp hx);obtain⟨r',x,e1,e2,e3⟩:=hT.get a b;right;ac_rfl;exact#[_,_,_,ho,CLw.cl,CLw.nt,_,rfl,_,rfl,_,SqL.of hT.top,_,e1,_,_,_,ho,CLw.cl,CLw.nl,_,rfl,trivial,_,rfl,_,zaE hcl,_,rfl,_,SqL.of e3,by rw[Je hc];exact zdO hG e2 hcl]
  ·rintro σ H' ⟨rfl,v3,rfl⟩
   rfl'
   rw[aP];exact q
theorem qA{CV o t:sq}{l:()}{rs:List sq}{tab:List (List Int)}{r:Int}{w:()}(h:WorAt CV H o l t rs tab)(hG:xG l tab)(h0:0<=r)(h1:r<(tab.length:Int))(hw:∀c ∈ w,c ∈ l)(q:Q (.int (ux l tab r w)) H):qW CV [.ref o,.int r,.str (tx w)] H Q E:=#[o,t,l,rs,tab,r,w,rfl,h,hG,h0,h1,hw,q]
noncomputable def vA(l:())(tab:List (List Int))(u v:()):Option Nat:=(aK tab.length).find? λr=>decide (ux l tab (r:Int) u≠ux l tab (r:Int) v)
noncomputable def vO:Option Nat->V
 | none=>.non
 | some r=>.int (r:Nat)
theorem V6{l:()}{tab:List (List Int)}{u v:()}{r:Nat}(h1:r<tab.length)(h2:ux l tab (r:Int) u≠ux l tab (r:Int) v)(h3:∀j:Nat,j<r->ux l tab (j:Int) u=ux l tab (j:Int) v):vA l tab u v=AX r:=by
 unfold vA;rw[List.find?_eq_some_iff_getElem];refine#[by simpa using h2,r,by simpa using h1,by simp,λj hj=>?_];simpa using h3 j hj
theorem QQ{l:()}{tab:List (List Int)}{u v:()}(h:∀j:Nat,j<tab.length->ux l tab (j:Int) u=ux l tab (j:Int) v):vA l tab u v=AY:=by
 unfold vA;rw[d6];intro j hj;simpa using h j (by simpa using hj)
def vm(CV:sq):Sp:=λvs H Q _=>∃(o t:sq) (l:()) (rs:List sq) (tab:List (List Int)) (u v:()),vs=[.ref o,.str (tx u),.str (tx v)]/\WorAt CV H o l t rs tab/\xG l tab/\(∀c ∈ u,c ∈ l)/\(∀c ∈ v,c ∈ l)/\Q (vO (vA l tab u v)) H
theorem Y9{CV o t:sq}{l:()}{rs:List sq}{tab:List (List Int)}{u v:()}(h:WorAt CV H o l t rs tab)(hG:xG l tab)(hu:∀c ∈ u,c ∈ l)(hv:∀c ∈ v,c ∈ l)(q:Q (vO (vA l tab u v)) H):vm CV [.ref o,.str (tx u),.str (tx v)] H Q E:=#[o,t,l,rs,tab,u,v,rfl,h,hG,hu,hv,q]
theorem mU:sQz 3 ["self","one","other","room"] xI:=by nofun
theorem jf{f CV:sq}(B:Bt mg)(CL:zau K mg CV)(F:Fun K "parted" "World.parted" xI f fd)(M_world_rooms:DM P w K mg base CX0 1 CV "rooms" ["self"] (qu CV))(M_world_led:DM P w K mg base CX0 1 CV "led" ["self","room","word"] (qW CV)):(2&&&["self","one","other"]) (vm CV):=by
 exists F.ok mU
 ·obtain⟨o,t,l,rs,tab,u,v,rfl,hW,hG,hu,hv,q⟩:=h
  refine#[_,(zI (zW PassesOwn.never rfl (yk rfl B.range (za (me0 M_world_rooms CL.cl hr (pv 0)) zc)) (zx (i:=3) mU.nd rfl (.inl rfl))
    (zf (zK (zy j3 (me1 M_world_led CL.cl hr (pv 0) (za (pv 3) (za (pv 1) zc))) (me1 M_world_led CL.cl hr (pv 0) (za (pv 3) (za (pv 2) zc))) (zC _))
     (zf (zl (pv 3)))
     zv)))
   (zf (zl yd))),?_]
  have s16:=zP
  rfl'
  obtain⟨dx,ho,hT⟩:=id hW;have hhi:=hG.hi;refine#[_,_,ho,rfl,Qb hW ?_];refine#[_,rfl,⋯,⋯,ForR.by (λi σ H'=>H'=H/\(∀j:Nat,j<i->ux l tab (j:Int) u=ux l tab (j:Int) v)/\∃v3,σ=[!!o,~~~u,~~~v,v3]) #[rfl,λj h=>absurd h (cq j),AY,rfl] ?_ ?_]
  ·refine nm3 ?_;rintro i σ H' hi ⟨rfl,hb,v3,rfl⟩:_;have hi':i<tab.length:=⋯;have e0:(0:Int)+(i:Int)=(i:Int):=⋯;right;ac_rfl;refine#[_,_,ho,rfl,qA hW hG ⋯ ⋯ hu #[_,_,ho,rfl,qA hW hG ⋯ ⋯ hv ?_]];rw[e0];ac_rfl;refine yq (λh=>?_) λh j hj=>?_
   ·rw[V6 hi' h hb]at q;exact q
   ·by_cases hj':j<i
    ·exact hb j hj'
    ·have:j=i:=⋯;rw[this];exact Decidable.not_not.mp h
  ·rintro σ H' ⟨rfl,hb,v3,rfl⟩;ac_rfl;rw[QQ λj hj=>hb j ⋯]at q;exact q
noncomputable def xR(l:())(tab:List (List Int)):List zp->Nat->Option (Nat × Nat)
 | [],_=>AY
 | p::ps,i=>match vA l tab p.1 p.2 with
  | some r=>AX (i,r)
  | none=>xR l tab ps (i+1)
theorem kF{l:()}{tab:List (List Int)}:∀{ps:List zp} {i k:Nat} {p:zp},ps[i]? = AX p->(∀(j:Nat) (q:zp),j<i->ps[j]? = AX q->vA l tab q.1 q.2=AY)->∀r,vA l tab p.1 p.2=AX r->xR l tab ps k=AX (k+i,r)
 | q::ps,0,k,p,h,_,r,hr=>by
  cases h
  erw[xR,hr,Nat.add_zero]
 | q::ps,i+1,k,p,h,hb,r,hr=>by
  have h0:=hb 0 q ⋯ rfl
  erw[xR,h0]
  rw[kF (ps:=ps) (i:=i) (k:=k+1) h (λj q' hj e=>hb (j+1) q' ⋯ e) r hr];congr 2;lia
theorem kg{l:()}{tab:List (List Int)}:∀{ps:List zp} {k:Nat},(∀(j:Nat) (q:zp),ps[j]? = AX q->vA l tab q.1 q.2=AY)->xR l tab ps k=AY
 | [],_,_=>rfl
 | q::ps,k,hb=>by
  erw[xR,hb 0 q rfl]
  exact kg λj q' e=>hb (j+1) q' e
def uX(K:so)(CV:sq):Sp:=λvs H Q _=>∃(o t a:sq) (l:()) (rs:List sq) (tab:List (List Int)) (ps:List zp),vs=[.ref o,.ref a]/\LsA K H a (ps.map dR)/\WorAt CV H o l t rs tab/\xG l tab/\(∀p ∈ ps,(∀c ∈ p.1,c ∈ l)/\∀c ∈ p.2,c ∈ l) /\
 (xR l tab ps 0=AY->∀H',Same H H'->Q .non H')/\∀i r,xR l tab ps 0=AX (i,r)->∀p H',Same H H'->H' p=AX (.tup [.int (i:Nat),.int (r:Nat)])->Q (.ref p) H'
theorem ig:sQz 2 ["self","pacts","number","pact","room"] xP:=by nofun
theorem qU{f CV:sq}(B:Bt mg)(CL:zau K mg CV)(F:Fun K "broken" "World.broken" xP f fd)(M_world_parted:DM P w K mg base CX0 2 CV "parted" ["self","one","other"] (vm CV)):(3&&&["self","pacts"]) (uX K CV):=by
 exists F.ok ig
 ·obtain⟨o,t,a,l,rs,tab,ps,rfl,hA,hW,hG,hp,q1,q2⟩:=h
  refine#[_,(zI (zW PassesOwn.never rfl (wg rfl B.enum (za (pv 1) zc)) (qd (n:=2) rfl (yb (zx (i:=2) ig.nd rfl (.inl rfl)) (yb (zx (i:=3) ig.nd rfl (.inl rfl)) wG)))
    (zI (zD 4 ig.nd (me1 M_world_parted CL.cl hr (pv 0) (za (zo ix_tup (pv 3) zg) (za (zo ix_tup (pv 3) zg) zc))))
    (zf (zK (zy op_notN' (pv 4) yd (zC _))
     (zf (zl (zR (za (pv 2) (za (pv 4) zc)))))
     zv))))
   (zf (zl yd))),?_]
  have s16:=zP
  rfl'
  obtain⟨xs,hX,hI⟩:=id hA;have hXL:=hI.len;rw[ae]at hXL;refine#[#[_,SqL.of hX],ForEL.by (xs:=xs) (λi σ H'=>Same H H'/\(∀(j:Nat) (p:zp),j<i->ps[j]? = AX p->vA l tab p.1 p.2=AY)/\∃v2 v3 v4,σ=[!!o,!!a,v2,v3,v4]) #[Same.refl _,λj p h=>absurd h (cq j),_,_,_,rfl] ?_ ?_ ?_]
  ·rintro i σ H' _ ⟨hs,_⟩;exact SqL.of (hs _ _ hX)
  ·rintro i x σ H' p hx ⟨hs,hb,v2,v3,v4,rfl⟩ hpn;obtain⟨r,pr,hri,rfl,hqr⟩:=hI.getR hx;have hm:=hp r (ag hri);have s2:=hs.trans (ze (o:=.tup [.int (i:Nat),.ref pr]) hpn);have hW2:=hW.same s2;obtain⟨dx,ho,_⟩:=id hW2;have hq2:=zq s2 hqr;ac_rfl;refine#[_,SqT.of zd,rfl,_,_,rfl,_,_,rfl,rfl,_,_,ho,rfl,_,rfl,_,hq2,_,rfl,_,rfl,_,hq2,_,rfl,Y9 hW2 hG hm.1 hm.2 ?_]
   cases e:vA l tab r.1 r.2 with
   | none =>
    erw[vO]
    ac_rfl;refine#[s2,λj p' hj hp'=>?_];by_cases hj':j<i
    ·exact hb j p' hj' hp'
    ·have:j=i:=⋯;rw[this,hri]at hp';cases hp';exact e
   | some z =>
    erw[vO]
    ac_rfl;have hbr:=kF (k:=0) hri hb z e;rw[dI]at hbr;exact#[⋯,λp3 hp3=>q2 i z hbr p3 _ (s2.trans (ze hp3)) zd]
  ·rintro σ H' ⟨hs,hb,v2,v3,v4,rfl⟩;ac_rfl;exact q1 (kg λj p' e=>hb j p' (by have:=(Be.mp e).1;lia) e) H' hs
structure JV(K:so)(mg:sB->Option sr)(CM:sq):Prop where
 xi:XI K CM
 ini:af K (.ref CM) "__init__" = AX (AX (.builtin "ValueError.__init__"))
 g:mg "TooMany" = AX (.ref CM)
 most:∃t,mg "MOST_TABLES" = AX (.int 1000 t)
theorem zfa{n k:Nat}(h1:n<=8)(h2:k<=6):n * k<=48:=fh h1 h2
def qB:Sp:=λvs H Q _=>∃(l:()) (n:Nat),vs=[.str (tx l),.int (n:Nat)]/\l.length<=6/\n<=8/\Q (.int ((n ^ (n * l.length):Nat):Int)) H
theorem Yq{l:()}(h1:l.length<=6)(h2:n<=8)(q:Q (.int ((n ^ (n * l.length):Nat):Int)) H):qB [.str (tx l),.int (n:Nat)] H Q E:=#[l,n,rfl,h1,h2,q]
theorem JK(n i:Nat):((n ^ i:Nat):Int) * (n:Int)=((n ^ (i+1):Nat):Int):=by rw[Nat.pow_succ,dL]
theorem ip:sQz 2 ["letters","rooms","count","cell"] wa:=by nofun
theorem j4(B:Bt mg)(F:("table_count"^^^wa)) :(1&&&["letters","rooms"]) qB:=by
 exists F.ok ip
 ·obtain⟨l,n,rfl,h1,h2,q⟩:=h
  refine#[_,(zI (zD 2 ip.nd zg)
   (zI (zW PassesOwn.never rfl (yk rfl B.range (za (zB Zk (pv 1) (zA B.len (pv 0))) zc)) (zx (i:=3) ip.nd rfl (.inl rfl))
    (zf (zD 2 ip.nd (zB Zk (pv 2) (pv 1)))))
   (zf (zl (pv 2))))),?_]
  have s16:=zP
  rfl'
  have hm:=zfa h2 h1;have em:((n:Int) * (l.length:Int))=((n * l.length:Nat):Int):=by rw[dL]
  refine#[⋯,.inl #[⋯,⋯],?_];rw[em];refine#[⋯,⋯,ForR.by (λi σ H'=>H'=H/\∃v3,σ=[~~~l,-~~~n,AX (.int ((n ^ i:Nat):Int)),v3]) #[rfl,_,rfl] ?_ ?_]
  ·refine nm3 ?_;rintro i σ H' hi ⟨rfl,v3,rfl⟩:_;right
   rfl'
   exact#[.inr #[⋯,⋯],JK n i]
  ·rintro σ H' ⟨rfl,v3,rfl⟩
   rfl'
   rw[aH];exact q
def ui:Sp:=λvs H Q _=>∃(l:()) (n:Nat),vs=[.str (tx l),.int (n:Nat)]/\l.length<=6/\n<=8/\Q (.bl (decide (n ^ (n * l.length)<=1000))) H
theorem kz{l:()}(h1:l.length<=6)(h2:n<=8)(q:Q (.bl (decide (n ^ (n * l.length)<=1000))) H):ui [.str (tx l),.int (n:Nat)] H Q E:=#[l,n,rfl,h1,h2,q]
theorem K8(a:Nat):decide ((a:Int)<=1000)=decide (a<=1000):=by
 by_cases h:a<=1000
 ·rw[decide_eq_true h,decide_eq_true ⋯]
 ·rw[decide_eq_false h,decide_eq_false ⋯]
theorem qp:sQz 2 ["letters","rooms"] xm:=by nofun
theorem qt{f CM:sq}(B:Bt mg)(TM:JV K mg CM)(F:("tables_within"^^^xm))(lK:(1<<<"table_count") ["letters","rooms"] [] qB):(2&&&["letters","rooms"]) ui:=by
 obtain⟨t9,g9⟩:=TM.most
 exists F.ok qp
 ·obtain⟨l,n,rfl,h1,h2,q⟩:=h;refine#[_,(zf (zl (yR xy (cl0 lK hr .nil rfl (za (pv 0) (za (pv 1) zc))) (yv (v:=.int 1000) rfl g9 #[t9,rfl]) (zC _)))),?_];have s16:=zP
  rfl'
  refine Yq h1 h2 ?_
  rfl'
  rw[K8];exact q
noncomputable def j5(n N i:Nat):Int:=((N / n ^ i % n:Nat):Int)
noncomputable def zcM(n k N r:Nat):List Int:=(aK k).map λj=>j5 n N (n * k - 1 - (r * k+j))
noncomputable def k7(n k N:Nat):List (List Int):=(aK n).map λr=>zcM n k N r
theorem zbn{n N i:Nat}(h:1<=n):0<=j5 n N i/\j5 n N i<(n:Int):=by
 have:=Nat.mod_lt (N / n ^ i) (show 0<n by lia);unfold j5;lia
theorem Zi(n k N:Nat):(k7 n k N).length=n:=by simp [k7]
theorem ZG{l:()}(N:Nat)(h1:1<=n)(h8:n<=8):xG l (k7 n l.length N):=by
 refine#[by rw[Zi];exact h1,by rw[Zi];exact h8,λx hx=>?_,λx hx z hz=>?_]
 ·obtain⟨r,_,rfl⟩:=Bf.mp hx;simp [zcM]
 ·obtain⟨r,_,rfl⟩:=Bf.mp hx;obtain⟨j,_,rfl⟩:=Bf.mp hz;rw[Zi];exact zbn h1
theorem zbU{n k N r:Nat}(hr:r<n):((((aK (n * k)).map (j5 n N)).reverse).drop (r * k)).take k=zcM n k N r:=by
 have hb:r * k+k<=n * k:=by
  have:=dM k (show r+1<=n by lia);rw[Nat.add_mul,Nat.one_mul]at this;exact this
 apply eh;intro j;by_cases hj:j<k
 ·rw[bt hj,d8,bx (by simp;lia),aq,dU (by simp;lia),zcM,aq,dU hj];simp
 ·rw[bf (by simp [aG];lia),bf (by simp [zcM];lia)]
theorem UL(n N i:Nat):N / n ^ i / n=N / n ^ (i+1):=by rw[Nat.div_div_eq_div_mul,Nat.pow_succ]
def vR:Sp:=λvs H Q _=>∃(l:()) (n N:Nat),vs=[.str (tx l),.int (n:Nat),.int (N:Nat)]/\1<=l.length/\l.length<=6/\1<=n/\n<=8/\∀(t:sq) (rs:List sq) (H':Hp),Same H H'->TabAt H' t rs (k7 n l.length N)->(∀r ∈ t::rs,H r=AY)->Q (.ref t) H'
theorem YA{l:()}{n N:Nat}(h1:1<=l.length)(h2:l.length<=6)(h3:1<=n)(h4:n<=8)(q:∀(t:sq) (rs:List sq) (H':Hp),Same H H'->TabAt H' t rs (k7 n l.length N)->(∀r ∈ t::rs,H r=AY)->Q (.ref t) H'):vR [.str (tx l),.int (n:Nat),.int (N:Nat)] H Q E:=#[l,n,N,rfl,h1,h2,h3,h4,q]
theorem zbW{n k:Nat}(h1:1<=n)(h2:1<=k):(Builtin.Range.rangeSize 0 ((n * k:Nat):Int) (k:Int)).toNat=n:=by
 have hp:0<n * k:=Nat.mul_pos h1 h2;unfold Builtin.Range.rangeSize;rw[if_pos ⋯,if_pos ⋯];have e:(((n * k:Nat):Int) - 0 - 1)=((n * k - 1:Nat):Int):=⋯
 have e2:(n * k - 1) / k=n - 1:=by
  obtain⟨m,rfl⟩:∃m,n=m+1:=#[n - 1,⋯];rw[Nat.add_mul,Nat.one_mul,show m * k+k - 1=(k - 1)+m * k by lia,Nat.add_mul_div_right _ _ ⋯,Nat.div_eq_of_lt ⋯];lia
 rw[e,<- Int.natCast_ediv,e2];lia
theorem VX{c:sq}{l:()}{n N:Nat}{σ:L2.St}{D:sq}{g:TG}{ix:()}{te:TE}(hg:g=yy 0)(hte:te=tSl (zd2 K) (ym 1) (Yg (ym 0)) (Yg (tOp YT (ym 0) (tCB (WA K) (zM (ym 2) xH)))))(hi:vC σ 1 ix=[AY,!!c,~~~l])
  (hc:H c=AX (.lst ((((aK (n * l.length)).map (j5 n N)).reverse).map V.int))) (h1:1<=l.length) (h2:l.length<=6) (h3:1<=n) (h4:n<=8) (hD:H D=AY)
  (q:∀(rs:List sq) (H':Hp),Same H H'->TabAt H' D rs (k7 n l.length N)->(∀r ∈ D::rs,H r=AY)->Q (.ref D) H'):CompK 0 (l.length:Nat) n g wS te 1 ix σ H Q D:=by
 have s16:=zP;have hmm:=zfa h4 h2;subst hg hte;refine CompK.by (λi Bd H'=>∃rs:List sq,Bd=rs.map V.ref/\rs.length=i/\Same H H'/\H' D=AX (.lst Bd)/\(∀r ∈ rs,H r=AY/\r≠D)/\∀(j:Nat) (r:sq),rs[j]? = AX r->H' r=AX (.lst ((zcM n l.length N j).map V.int))) #[[],rfl,rfl,ze hD,zd,λr h=>(nomatch h),λj r h=>by simp at h] ?_ ?_
 ·refine nm3 ?_;rintro i Bd H' hin ⟨rs,rfl,hrl,hs,hH,hf,hr⟩:_;have hc':=hs _ _ hc;have ei:(0:Int)+(i:Int) * (l.length:Int)=((i * l.length:Nat):Int):=by rw[Int.zero_add,dL]
  right;dsimp only;rw[ei];have hil:i * l.length<=48:=aM (dM _ (by lia:i<=n)) hmm
  erw[wS,yy,hi]
  rfl'
  refine#[xx,⋯,_,SqL.of hc',λp hp=>?_];rw[Yu _ ⋯ ⋯];have e1:(((i * l.length:Nat):Int)).toNat=i * l.length:=aH _;have e2:(((i * l.length:Nat):Int)+(l.length:Int) - ((i * l.length:Nat):Int)).toNat=l.length:=⋯;rw[e1,e2,zbU hin];have hpD:p≠D:=λe=>by rw[e]at hp;rw[hp]at hH;cases hH
  refine#[ze hp _ _ hH,by rw[ae];lia,CNx.mk hin #[rs ++ [p],by rw[ay];rfl,by rw[aj,hrl];rfl,zJ (hs.trans (ze hp)) hD,zd,λr' hr'=>?_,λj r' h1=>?_]]
  ·rcases Bh.mp hr' with h' | h'
   ·exact hf r' h'
   ·rw[Bj.mp h'];refine#[?_,hpD]
    cases e:H p with
    | none=>rfl
    | some o=>have:=hs _ _ e;rw[hp]at this;cases this
  ·by_cases hj:j<i
   ·rw[bB ⋯]at h1;rw[zm (hf r' (ag h1)).2];exact ze hp _ _ (hr j r' h1)
   ·rw[bA ⋯]at h1
    have hj0:j=i:=by
     have:=(Be.mp h1).1;simp at this;lia
    subst hj0;rw[hrl,eP]at h1;cases h1;rw[zm hpD];exact zd
 ·rintro Bd H' ⟨rs,rfl,hrl,hs,hH,hf,hr⟩
  refine q rs H' hs #[hH,by rw[Zi,hrl],λi r x h1 h2=>?_] λr hr'=>by
   rcases Bg.mp hr' with rfl | h'
   ·exact hD
   ·exact (hf r h').1
  rw[hr i r h1];unfold k7 at h2;rw[aq]at h2;obtain⟨z,hz,rfl⟩:=Bk.mp h2;have:=(Be.mp hz).2;simp at this;rw[this]
theorem lJ:sQz 3 ["letters","rooms","number","cells","cell"] vq:=by nofun
theorem Xd(B:Bt mg)(F:("table_at"^^^vq)) :(1&&&["letters","rooms","number"]) vR:=by
 exists F.ok lJ
 ·obtain⟨l,n,N,rfl,h1,h2,h3,h4,q⟩:=h
  refine#[_,(zi (qk (i:=3) lJ.nd rfl (Or.inr rfl) (wy zc))
   (zi (zW PassesOwn.never rfl (yk rfl B.range (za (zB Zk (pv 1) (zA B.len (pv 0))) zc)) (zx (i:=4) lJ.nd rfl (.inl rfl))
    (zI (xL (uM bz bO bP xq (pv 3) (za (zB yL (pv 2) (pv 1)) zc)))
    (zf (zD 2 lJ.nd (zB xa (pv 2) (pv 1))))))
   (zi (xL (zeo bz PySem.F.slot_list_reverse PySem.F.type_list_reverse Vm (pv 3)))
   (zf (zl (xz (own:=["start"]) (caps:=["cells","letters"]) (ix:=[3,0]) (tt:=wS) (te:=(tSl (zd2 K) (ym 1) (Yg (ym 0)) (Yg (tOp YT (ym 0) (tCB (WA K) (zM (ym 2) xH)))))) rfl (zN (sc:=zh vq) rfl (by symm) (by symm) (by symm) rfl (by symm) (by symm) rfl) (Uo rfl B.range (za zg (za (zA B.len (pv 3)) (za (zA B.len (pv 0)) zc)))) (λ_ _ _ _ _ _=>zx (i:=0) (show List.Nodup [_,_,_] by decide) rfl (.inl rfl)) (λ_ _ _ _ _ _=>yG) (λ_ _ _ _ _ _=>(ya QA (pv 1) (zY (pv 0)) (zY (zB wo (pv 0) (zA B.len (pv 2)))))))))))),?_]
  have s16:=zP;have hm:=zfa h4 h2;have em:((n:Int) * (l.length:Int))=((n * l.length:Nat):Int):=by rw[dL]
  refine zj (λσ H'=>∃c,H c=AY/\Same H H'/\H' c=AX (.lst [])/\σ=[~~~l,-~~~n,-~~~N,!!c,AY]) ?_ ?_
  ·rfl'
   exact#[⋯,λc hc=>#[c,hc,ze hc,zd,rfl]]
  rintro σ H1 ⟨c,hcn,s1,hc,rfl⟩:_;right;refine zj (λσ H'=>∃v2 v4,Same H H'/\H' c=AX (.lst (((aK (n * l.length)).map (j5 n N)).map V.int))/\σ=[~~~l,-~~~n,v2,!!c,v4]) ?_ ?_
  ·rfl'
   refine#[⋯,.inl #[⋯,⋯],?_];rw[em];refine#[⋯,⋯,ForR.by (λi σ H'=>∃v4,Same H H'/\H' c=AX (.lst (((aK i).map (j5 n N)).map V.int))/\σ=[~~~l,-~~~n,AX (.int ((N / n ^ i:Nat):Int)),!!c,v4]) #[_,s1,hc,by rw[Nat.pow_zero,Nat.div_one]] ?_ ?_]
   ·refine nm3 ?_;rintro i σ H' hi ⟨v4,hs,hc',rfl⟩:_;rw[aH]at hi;right
    rfl'
    refine#[.inl #[_,SqL.of hc'],⋯,_,hc',by erw[ae,cy];lia,#[⋯,⋯],?_];refine#[zJ hs hcn,?_,?_]
    ·rw[zd,cE,ay,ay,<- Int.natCast_emod];rfl
    ·rw[<- Int.natCast_ediv,UL]
   ·rintro σ H' ⟨v4,hs,hc',rfl⟩;rw[aH]at hc';exact#[hs,hc',_,_,rfl]
  rintro σ H2 ⟨v2,v4,s2,hc2,rfl⟩:_;right;refine zj (λσ H'=>Same H H'/\H' c=AX (.lst ((((aK (n * l.length)).map (j5 n N)).reverse).map V.int))/\σ=[~~~l,-~~~n,v2,!!c,v4]) ?_ ?_
  ·rfl'
   erw[WZ]
   rfl'
   refine#[.inl #[_,SqL.of hc2],_,hc2,zJ s2 hcn,?_];rw[zd,eN]
  rintro σ H3 ⟨s3,hc3,rfl⟩:_;right
  erw[zaD,zd4]
  rfl'
  refine#[_,.inl #[_,SqL.of hc3,rfl],⋯,∅,∅,⋯,by erw[ae,bh,cy];lia,⋯,⋯,λD hD=>?_]
  have en:(Builtin.Range.rangeSize 0 (((List.map V.int ((List.map (j5 n N) (aK (n * l.length))).reverse)).length:Nat):Int) (l.length:Nat)).toNat=n:=by
   rw[ae,bh,ae,cy];exact zbW h3 h1
  rw[en]
  exact VX rfl rfl rfl hc3 h1 h2 h3 h4 hD λrs H' s' hT hf=>q D rs H' (s3.trans s') hT λr hr'=>by
   cases e:H r with
   | none=>rfl
   | some o=>have:=s3 _ _ e;rw[hf r hr']at this;cases this
noncomputable def vB(l:())(tab:List (List Int))(ps:List zp)(u v:()):Bool:=decide (ux l tab 0 u≠ux l tab 0 v) && (xR l tab ps 0).isNone
abbrev zcK(l:())(u:()):Prop:=∀c ∈ u,c ∈ l
abbrev InP(l:())(ps:List zp):Prop:=∀p ∈ ps,(∀c ∈ p.1,c ∈ l)/\∀c ∈ p.2,c ∈ l
def Zy(K:so)(CV:sq):Sp:=λvs H Q _=>∃(o t a:sq) (l:()) (rs:List sq) (tab:List (List Int)) (ps:List zp) (u v:()),vs=[.ref o,.ref a,.str (tx u),.str (tx v)]/\LsA K H a (ps.map dR)/\WorAt CV H o l t rs tab/\xG l tab/\InP l ps/\zcK l u/\zcK l v/\∀H',Same H H'->Q (.bl (vB l tab ps u v)) H'
theorem Ua{CV o t a:sq}{l:()}{rs:List sq}{tab:List (List Int)}{u v:()}(h1:LsA K H a (ps.map dR))(h2:WorAt CV H o l t rs tab)(h3:xG l tab)(h4:InP l ps)(h5:zcK l u)(h6:zcK l v)(q:∀H',Same H H'->Q (.bl (vB l tab ps u v)) H'):Zy K CV [.ref o,.ref a,.str (tx u),.str (tx v)] H Q E:=#[o,t,a,l,rs,tab,ps,u,v,rfl,h1,h2,h3,h4,h5,h6,q]
theorem jY:sQz 4 ["world","pacts","one","other"] xY:=by nofun
theorem j6{f CV:sq}(B:Bt mg)(CL:zau K mg CV)(F:("tells_apart"^^^xY))(M_world_led:DM P w K mg base CX0 1 CV "led" ["self","room","word"] (qW CV))(M_world_broken:DM P w K mg base CX0 3 CV "broken" ["self","pacts"] (uX K CV)):(4&&&["world","pacts","one","other"]) (Zy K CV):=by
 exists F.ok jY
 ·obtain⟨o,t,a,l,rs,tab,ps,u,v,rfl,hA,hW,hG,hp,hu,hv,q⟩:=h
  refine#[_,(zI (zK (zy vc (me1 M_world_led CL.cl hr (pv 0) (za zg (za (pv 2) zc))) (me1 M_world_led CL.cl hr (pv 0) (za zg (za (pv 3) zc))) (zC _))
    (zf (zl yM))
    zv)
   (zf (zl (yR op_isN' (me1 M_world_broken CL.cl hr (pv 0) (za (pv 1) zc)) yd (zC _))))),?_]
  have s16:=zP
  rfl'
  obtain⟨dx,ho,hT⟩:=id hW;have hlo:=hG.lo;refine#[_,_,ho,rfl,qA hW hG ⋯ ⋯ hu #[_,_,ho,rfl,qA hW hG ⋯ ⋯ hv ?_]]
  rfl'
  refine yq (λh=>?_) λh=>?_
  ·have e:vB l tab ps u v=Ba:=by
    unfold vB;rw[decide_eq_false (λg=>g h)];rfl
   rw[e]at q;exact q _ (Same.refl _)
  ·have e:vB l tab ps u v=(xR l tab ps 0).isNone:=by
    unfold vB;rw[decide_eq_true h,fB]
   rw[e]at q;refine#[_,_,ho,rfl,o,t,a,l,rs,tab,ps,rfl,hA,hW,hG,hp,λhb H' s'=>?_,λi r hb p H' s' hp'=>?_]
   ·rw[hb]at q;exact q H' s'
   ·rw[hb]at q;exact q H' s'
def Ear(l:())(ps:List zp)(u v:())(n N:Nat):Prop:=∀n' N':Nat,1<=n'->N'<n' ^ (n' * l.length)->(n'<n\/n'=n/\N'<N)->vB l (k7 n' l.length N') ps u v=Ba
theorem JR{l:()}{u v:()}:Ear l ps u v 1 0:=λn' N' h1 _ h=>by lia
theorem Kj{l:()}{u v:()}{n N:Nat}(h:Ear l ps u v n N)(hf:vB l (k7 n l.length N) ps u v=Ba):Ear l ps u v n (N+1):=λn' N' h1 h2 h3=>by
 rcases h3 with h3 | ⟨rfl,h3⟩
 ·exact h n' N' h1 h2 (.inl h3)
 ·by_cases e:N'=N
  ·rw[e];exact hf
  ·exact h n' N' h1 h2 (.inr #[rfl,⋯])
theorem zct{l:()}{u v:()}(h:Ear l ps u v n (n ^ (n * l.length))):Ear l ps u v (n+1) 0:=λn' N' h1 h2 h3=>by
 rcases dH n' n with h4 | h4
 ·exact h n' N' h1 h2 (.inl h4)
 ·have e:n'=n:=⋯;subst e;exact h n' N' h1 h2 (.inr #[rfl,h2])
theorem JL{n m k:Nat}(h1:1<=n)(h:n<=m):n ^ (n * k)<=m ^ (m * k):=aM (Nat.pow_le_pow_left h _) (Nat.pow_le_pow_right ⋯ (dM k h))
def XX(K:so)(CM:sq):Sp:=λvs H Q E=>∃(a:sq) (l:()) (ps:List zp) (u v:()) (m:Nat),vs=[.str (tx l),.ref a,.str (tx u),.str (tx v),.int (m:Nat)]/\uU l=AZ/\LsA K H a (ps.map dR)/\InP l ps/\zcK l u/\zcK l v/\m<=8/\(1000<m ^ (m * l.length)->E (.ref CM) AY H) /\
 (m ^ (m * l.length)<=1000->Ear l ps u v (m+1) 0->∀H',Same H H'->Q .non H') /\
 (m ^ (m * l.length)<=1000->∀n N:Nat,1<=n->n<=m->N<n ^ (n * l.length)->vB l (k7 n l.length N) ps u v=AZ->Ear l ps u v n N->∀(t:sq) (rs:List sq) (H':Hp),Same H H'->TabAt H' t rs (k7 n l.length N)->(∀r ∈ t::rs,H r=AY)->Q (.ref t) H')
theorem iq:sQz 5 ["letters","pacts","one","other","most","rooms","number","table"] wl:=by nofun
theorem ke{f CM CV:sq}(B:Bt mg)(TM:JV K mg CM)(CL:zau K mg CV)(F:("world_apart"^^^wl))(iP:(2<<<"tables_within") ["letters","rooms"] [] ui)(lK:(1<<<"table_count") ["letters","rooms"] [] qB)(rF:(1<<<"table_at") ["letters","rooms","number"] [] vR)(pL:(4<<<"tells_apart") ["world","pacts","one","other"] [] (Zy K CV))(M_world_init:DMk P w K mg base (CXx P w) 4 CV ["self","letters","table"] (vZ CV)):(6|||["letters","pacts","one","other","most"]) (XX K CM):=by
 exists Fun.okX F iq,0
 ·obtain⟨a,l,ps,u,v,m,rfl,hg,hA,hp,hu,hv,m8,q1,q2,q3⟩:=h
  refine#[_,(zi (zK (zU (yE (cl0 iP hr .nil rfl (za (pv 0) (za (pv 4) zc))) (λ_=>rfl)))
    (zf (z7 hx rfl TM.xi.toXC TM.ini rfl TM.g (za zS zc)))
    zv)
   (zi (zW PassesOwn.leaving rfl (Yx rfl B.range (za zg (za (zB wo (pv 4) zg) zc))) (zx (i:=5) iq.nd rfl (.inl rfl))
    (zf (zW PassesOwn.leaving rfl (yk rfl B.range (za (cl0 lK hr .nil rfl (za (pv 0) (za (pv 5) zc))) zc)) (zx (i:=6) iq.nd rfl (.inl rfl))
     (zi (zD 7 iq.nd (cl0 rF hr .nil rfl (za (pv 0) (za (pv 5) (za (pv 6) zc)))))
     (zf (zK (yE (cl0 pL hr .nil rfl (za (zfN hx M_world_init hr rfl CL.g (za (pv 0) (za (pv 7) zc))) (za (pv 1) (za (pv 2) (za (pv 3) zc))))) (λ_=>rfl))
      (zf (zl (pv 7)))
      zv))))))
   (zf (zl yd)))),?_]
  have s16:=zP;obtain⟨l1,l6,_,_⟩:=of_decide_eq_true hg;refine zj (λσ H'=>H'=H/\m ^ (m * l.length)<=1000/\σ=[~~~l,!!a,~~~u,~~~v,-~~~m,AY,AY,AY]) ?_ ?_
  ·rfl'
   refine kz ⋯ m8 #[_,rfl,?_];by_cases hw:m ^ (m * l.length)<=1000
   ·rw[decide_eq_true hw]
    rfl'
    exact hw
   ·rw[decide_eq_false hw]
    rfl'
    exact#[⋯,q1 ⋯]
  rintro σ H1 ⟨rfl,hw,rfl⟩:_;right;refine zj (λσ H'=>Same H1 H'/\Ear l ps u v (m+1) 0/\∃v5 v6 v7,σ=[~~~l,!!a,~~~u,~~~v,-~~~m,v5,v6,v7]) ?_ ?_
  ·rfl'
   refine#[⋯,⋯,⋯,⋯,ForR.by (λi σ H'=>Same H1 H'/\Ear l ps u v (i+1) 0/\∃v5 v6 v7,σ=[~~~l,!!a,~~~u,~~~v,-~~~m,v5,v6,v7]) #[Same.refl _,JR,_,_,_,rfl] ?_ ?_]
   ·refine nm3 ?_;rintro i σ H' hi ⟨hs,hE,v5,v6,v7,rfl⟩:_;have him:i+1<=m:=⋯;have e0:(1:Int)+(i:Int)=((i+1:Nat):Int):=⋯;have hpw:=JL (k:=l.length) ⋯ him;right;dsimp only;rw[e0]
    rfl'
    refine Yq ⋯ ⋯ ?_;refine#[_,rfl,⋯,⋯,ForR.by (λj σ H'=>Same H1 H'/\Ear l ps u v (i+1) j/\∃v6 v7,σ=[~~~l,!!a,~~~u,~~~v,-~~~m,AX (.int ((i+1:Nat):Int)),v6,v7]) #[hs,hE,_,_,rfl] ?_ ?_]
    ·refine nm3 ?_;rintro j σ H'' hj ⟨hs2,hE2,v6,v7,rfl⟩:_;rw[aH]at hj;have e1:(0:Int)+(j:Int)=(j:Int):=⋯;right;dsimp only;rw[e1]
     erw[yy,aV,aU]
     refine zj (λσ G=>∃(t:sq) (rs:List sq),Same H1 G/\TabAt G t rs (k7 (i+1) l.length j)/\(∀r ∈ t::rs,H1 r=AY)/\σ=[~~~l,!!a,~~~u,~~~v,-~~~m,AX (.int ((i+1:Nat):Int)),AX (.int (j:Int)),!!t]) ?_ ?_
     ·rfl'
      exact YA l1 ⋯ ⋯ ⋯ λt rs G sG hT hf=>#[hs2.trans sG,t,rs,hT,(λr hr=>by
       cases e:H1 r with
       | none=>rfl
       | some o=>have:=hs2 _ _ e;rw[hf r hr]at this;cases this),rfl]
     rintro σ G ⟨t,rs,sG,hT,hf,rfl⟩:_;have hG:=ZG (l:=l) j (show 1<=i+1 by lia) ⋯;right
     rfl'
     refine Qa hg hT hG λx t' rs' H' s' _ _ hW=>Ua ((hA.same sG).same s') hW hG hp hu hv λH'' s''=>#[_,rfl,?_];have sA:=sG.trans (s'.trans s'')
     cases hfit:vB l (k7 (i+1) l.length j) ps u v with
     | true =>
      rfl'
      exact q3 hw (i+1) j ⋯ him hj hfit hE2 t rs H'' sA (hT.same (s'.trans s'')) hf
     | false =>
      rfl'
      exact#[sA,Kj hE2 hfit]
    ·rintro σ H'' ⟨hs2,hE2,v6,v7,rfl⟩;rw[aH]at hE2;exact#[hs2,zct hE2,_,_,_,rfl]
   ·rintro σ H' ⟨hs,hE,v5,v6,v7,rfl⟩;exact#[hs,by rw[show (((m:Nat):Int)+1 - 1).toNat=m by lia]at hE;exact hE,_,_,_,rfl]
  rintro σ H2 ⟨s2,hE,v5,v6,v7,rfl⟩:_;right
  rfl'
  exact q2 hw hE H2 s2
structure TMj(mg:sB->Option sr):Prop where
 u:∃t,mg "MOST_USES_judging" = AX (.int 40 t)
 s:∃t,mg "MOST_STEPS_judging" = AX (.int 2000 t)
def zen(K:so):Sp:=λvs H Q _=>∃(a:sq) (k:Nat) (l:()) (ns:List Int) (bs:List Ent) (w:()),vs=[.ref a,.str (tx w)]/\OG l ns k/\EnsL K H a bs/\BG k l ns bs/\w.length<=60 /\
 (∀(i:Nat) (p S:sq) (H':Hp),zE (zb bs) w i->Same H H'->H' p=AX (.tup [.ref S,.str (tx (wAt (zb bs) w i))])->LsA K H' S ((stS (sAt (zb bs) w i)).map dSt)->Q (.ref p) H')/\((∀i,¬ zE (zb bs) w i)->∀H',Same H H'->Q .non H')
theorem jS:sQz 2 ["entries","word"] wv:=by nofun
theorem j9{f CF:sq}{iO:Aa}(B:Bt mg)(TFx:zbP K mg CF)(TSb:zfM K CF)(TM:TMj mg)(F:("gone_within"^^^wv))(nc:(4>>>"gone") ["rules","word","most"] [] (xM K CF))(DD_gone:(4>>>"gone") ["rules","word","most"] [.int 4000 iO] (xM K CF))(gq:(1<<<"pairs_of") ["entries"] [] (x0 K)):(5&&&["entries","word"]) (zen K):=by
 obtain⟨t9,g9⟩:=TM.u
 exists F.ok jS
 ·obtain⟨a,k,l,ns,bs,w,rfl,hG,hA,hB,hw,q1,q2⟩:=h;refine#[_,(zf (WS (th:=(zaD (tC .non))) #[rfl,rfl] (clX nc hr .nil rfl (za (cl0 gq hr .nil rfl (za (pv 0) zc)) (za (pv 1) (za (yv (v:=.int 40) rfl g9 #[t9,rfl]) zc)))) rfl TFx.g TFx.xi.ok (λe=>(zf (zl yd))))),?_];have s16:=zP;have s16:=zP;have hpl:=um bs;have hbl:=hB.n
  erw[Q8]
  ac_rfl;exact xS hA.is ⋯ λD H1 _ s1 hL=>uI hL (hB.ne hG) ⋯ hB.le hw (λi p S H' hi s' hp hS _=>q1 i p S H' hi (s1.trans s') hp (by rw[Q0]at hS;exact hS)) λhno H' s'=>#[CF,rfl,TSb.s,λx hx=>q2 hno _ ((s1.trans s').trans (ze hx))]
def GwV(K:so)(ps:List zp)(w:())(H:Hp)(v:V):Prop:=(v=.non/\∀i,¬ zE ps w i)\/∃(i:Nat) (p S:sq),v=.ref p/\zE ps w i/\H p=AX (.tup [.ref S,.str (tx (wAt ps w i))])/\LsA K H S ((stS (sAt ps w i)).map dSt)
theorem GwV.same{w:()}{H H':Hp}{v:V}(h:GwV K ps w H v)(s:Same H H'):GwV K ps w H' v:=by
 rcases h with h | ⟨i,p,S,h1,h2,h3,h4⟩
 ·exact .inl h
 ·exact .inr #[i,p,S,h1,h2,s _ _ h3,h4.same s]
noncomputable abbrev ZI(bs:List Ent)(u v:())(i j:Nat):List Stp:=byL bs (stS (sAt (zb bs) u i) ++ yK (stS (sAt (zb bs) v j)))
def NoR(bs:List Ent)(b:Bool)(u v:()):Prop:=(∀i,¬ zE (zb bs) u i)\/(∀j,¬ zE (zb bs) v j)\/∃i j,zE (zb bs) u i/\zE (zb bs) v j/\((wAt (zb bs) u i≠wAt (zb bs) v j/\b=Ba)\/(wAt (zb bs) u i=wAt (zb bs) v j/\2000<(ZI bs u v i j).length))
def zar(K:so):Sp:=λvs H Q _=>∃(a:sq) (k:Nat) (l:()) (ns:List Int) (bs:List Ent) (b:Bool) (u v:()),vs=[.bl b,.ref a,.str (tx u),.str (tx v)]/\OG l ns k/\EnsL K H a bs/\BG k l ns bs/\u.length<=60/\v.length<=60/\(NoR bs b u v->∀H',Same H H'->Q .non H') /\
 (∀(i j:Nat) (p:sq) (H':Hp),b=AZ->zE (zb bs) u i->zE (zb bs) v j->wAt (zb bs) u i≠wAt (zb bs) v j->Same H H'->H' p=AX (.tup [.str "forms",.ref a,.str (tx (wAt (zb bs) u i)),.str (tx (wAt (zb bs) v j))])->Q (.ref p) H') /\
 ∀(i j:Nat) (p S:sq) (H':Hp),zE (zb bs) u i->zE (zb bs) v j->wAt (zb bs) u i=wAt (zb bs) v j->Same H H'->H' p=AX (.tup [.str "alike",.ref S])->LsA K H' S ((ZI bs u v i j).map dSt)->(ZI bs u v i j).length<=2000->Q (.ref p) H'
theorem gA:sQz 4 ["whole","kept","one","other","ahead","behind","steps"] yP:=by nofun
theorem ur(B:Bt mg)(TM:TMj mg)(F:("judged_by_roads"^^^yP))(nA:(5<<<"gone_within") ["entries","word"] [] (zen K))(im:(2<<<"by_pacts") ["entries","steps"] [] (Ud K))(mq:(1<<<"back") ["steps"] [] (uQ K)):(6&&&["whole","kept","one","other"]) (zar K):=by
 obtain⟨t9,g9⟩:=TM.s
 exists F.ok gA
 ·obtain⟨a,k,l,ns,bs,b,u,v,rfl,hG,hA,hB,hu,hv,q1,q3,q2⟩:=h
  refine#[_,(zi (zD 4 gA.nd (cl0 nA hr .nil rfl (za (pv 1) (za (pv 2) zc))))
   (zi (zD 5 gA.nd (cl0 nA hr .nil rfl (za (pv 1) (za (pv 3) zc))))
   (zi (zK (PW.pt (vx (zy op_isN' (pv 4) yd (zC _)) (wz (zy op_isN' (pv 5) yd (zC _)))))
    (zf (zl yd))
    zv)
   (zi (zK (zy j3 (zo ix_tup (pv 4) zg) (zo ix_tup (pv 5) zg) (zC _))
    (zf (zl (vn (yE (pv 0) (λ_=>rfl)) (zR (za zS (za (pv 1) (za (zo ix_tup (pv 4) zg) (za (zo ix_tup (pv 5) zg) zc))))) yd)))
    zv)
   (zi (zD 6 gA.nd (cl0 im hr .nil rfl (za (pv 1) (za (zB We (zo ix_tup (pv 4) zg) (cl0 mq hr .nil rfl (za (zo ix_tup (pv 5) zg) zc))) zc))))
   (zf (zl (vn (zy xy (zA B.len (pv 6)) (yv (v:=.int 2000) rfl g9 #[t9,rfl]) (zC _)) (zR (za zS (za (pv 6) zc))) yd)))))))),?_]
  have s16:=zP;have s16:=zP;have hbl:=hB.n;have hpl:=um bs;have hst:∀e ∈ bs,e.2.2.length<=600:=λe he=>(hB.e e he).s;refine zj (λσ H'=>Same H H'/\∃v4,GwV K (zb bs) u H' v4/\σ=[AX (.bl b),!!a,~~~u,~~~v,AX (v4),AY,AY]) ?_ ?_
  ·rfl'
   exact#[a,k,l,ns,bs,u,rfl,hG,hA,hB,hu,λi p S H' h1 s' h2 h3=>#[s',.inr #[i,p,S,rfl,h1,h2,h3]],λhno H' s'=>#[s',.inl #[rfl,hno]]]
  rintro σ H1 ⟨s1,v4,hv4,rfl⟩:_;right;refine zj (λσ H'=>Same H1 H'/\∃v5,GwV K (zb bs) v H' v5/\σ=[AX (.bl b),!!a,~~~u,~~~v,AX (v4),AX (v5),AY]) ?_ ?_
  ·rfl'
   exact#[a,k,l,ns,bs,v,rfl,hG,hA.same s1,hB,hv,λi p S H' h1 s' h2 h3=>#[s',.inr #[i,p,S,rfl,h1,h2,h3]],λhno H' s'=>#[s',.inl #[rfl,hno]]]
  rintro σ H2 ⟨s2,v5,hv5,rfl⟩:_;have s12:=s1.trans s2;have hv4':=hv4.same s2;right;refine zj (λσ H'=>H'=H2/\v4≠.non/\v5≠.non/\σ=[AX (.bl b),!!a,~~~u,~~~v,AX (v4),AX (v5),AY]) ?_ ?_
  ·rfl'
   refine yq (λh=>?_) λh=>yq (λh'=>?_) λh'=>#[h,h']
   ·rcases hv4' with ⟨_,hno⟩ | ⟨i,p,S,e,_⟩
    ·exact q1 (.inl hno) _ s12
    ·rw[e]at h;cases h
   ·rcases hv5 with ⟨_,hno⟩ | ⟨i,p,S,e,_⟩
    ·exact q1 (.inr (.inl hno)) _ s12
    ·rw[e]at h';cases h'
  rintro σ H3 ⟨rfl,n4,n5,rfl⟩:_;obtain⟨i,p1,S1,rfl,hi,hp1,hS1⟩:=hv4'.resolve_left λz=>n4 z.1;obtain⟨j,p2,S2,rfl,hj,hp2,hS2⟩:=hv5.resolve_left λz=>n5 z.1;right;refine zj (λσ H'=>H'=H3/\wAt (zb bs) u i=wAt (zb bs) v j/\σ=[AX (.bl b),!!a,~~~u,~~~v,!!p1,!!p2,AY]) ?_ ?_
  ·rfl'
   refine#[_,SqT.of hp1,_,rfl,_,SqT.of hp2,_,rfl,rfl,yq (λh=>yq (λhb'=>#[_,SqT.of hp1,_,rfl,_,SqT.of hp2,_,rfl,⋯,λp hp=>q3 i j p _ hb' hi hj (λz=>h (by rw[z])) (s12.trans (ze hp)) zd]) λhb'=>q1 (.inr (.inr #[i,j,hi,hj,.inl #[λz=>h (by rw[z]),by simpa using hb']])) _ s12) λh=>?_];have:=Classical.not_not.mp h;injection this with this;exact jO this
  rintro σ H4 ⟨rfl,he,rfl⟩:_;have him:=hi.most;have hjm:=hj.most;have hl1:(stS (sAt (zb bs) u i)).length=i:=by rw[Zf,jB]
  have hl2:(stS (sAt (zb bs) v j)).length=j:=by rw[Zf,jB]
  right;refine zj (λσ H'=>Same H4 H'/\∃S:sq,LsA K H' S ((ZI bs u v i j).map dSt)/\σ=[AX (.bl b),!!a,~~~u,~~~v,!!p1,!!p2,!!S]) ?_ ?_
  ·rfl'
   refine#[_,SqT.of hp1,_,rfl,_,SqT.of hp2,_,rfl,qF hS2.is ⋯ λB1 G1 _ t1 hB1=>?_];obtain⟨c1,hc1,ic1⟩:=hS1.same t1;obtain⟨c2,hc2,ic2⟩:=id hB1;have n1:=ic1.len;have n2:=ic2.len;rw[ae]at n1 n2;rw[yV]at n2;refine#[S1,rfl,B1,rfl,c1,hc1,c2,hc2,⋯,λp hp=>?_];have sp:=ze (o:=.lst (c1 ++ c2)) hp;refine Wn (Is.same (s12.trans (t1.trans sp)) _ _ hA.is) (LsA.is #[_,zd,by rw[ay];exact Iss.append (Iss.same sp _ _ ic1) (Iss.same sp _ _ ic2)]) (by rw[aj,yV];lia) hst (λx hx=>?_) λD H' _ s' hL=>#[t1.trans (sp.trans s'),D,hL,rfl];rw[<- hpl];rcases Bh.mp hx with h | h
   ·exact Wy hi.live x h
   ·exact UT (Wy hj.live) x h
  rintro σ H5 ⟨s5,S,hS,rfl⟩:_;obtain⟨xs,hX,hI⟩:=id hS;have hxl:=hI.len;rw[ae]at hxl;right
  rfl'
  exact#[_,.inl #[_,SqL.of hX,rfl],yq (λhn=>#[⋯,λp hp=>q2 i j p S _ hi hj he ((s12.trans s5).trans (ze hp)) zd (hS.same (ze hp)) ⋯]) λhn=>q1 (.inr (.inr #[i,j,hi,hj,.inr #[he,⋯]])) _ (s12.trans s5)]
theorem YD{l:()}{tab:List (List Int)}:∀{ps:List zp} {i:Nat},(xR l tab ps i).isNone=AZ->∀p ∈ ps,vA l tab p.1 p.2=AY
 | [],_,_,p,hp=>(nomatch hp)
 | q::ps,i,h,p,hp=>by
  cases e:vA l tab q.1 q.2 with
  | none =>
   erw[xR,e]at h
   rcases Bg.mp hp with rfl | hp
   ·exact e
   ·exact YD h p hp
  | some r =>
   erw[xR,e]at h
   cases h
theorem Kn{l:()}{tab:List (List Int)}{u v:()}(h:vA l tab u v=AY){r:Int}(h0:0<=r)(h1:r<(tab.length:Int)):ux l tab r u=ux l tab r v:=by
 unfold vA at h;rw[d6]at h;have:=h r.toNat (Bl.mpr ⋯);rw[show ((r.toNat:Nat):Int)=r by lia]at this;simpa using this
theorem QN{l:()}{tab:List (List Int)}(hG:xG l tab){r:Int}{c:Nat}:0<=j0 l tab r c/\j0 l tab r c<(tab.length:Int):=by
 have hlo:=hG.lo;unfold j0;rw[aa (l:=tab)]
 cases e:tab[r.toNat]? with
 | none=>simp;lia
 | some x =>
  rw[dA,aa]
  cases e2:x[l.idxOf c]? with
  | none=>simp;lia
  | some n=>exact hG.rm x (ag e) n (ag e2)
theorem VU{l:()}{tab:List (List Int)}(hG:xG l tab):∀{w:()} {r:Int},0<=r->r<(tab.length:Int)->0<=ux l tab r w/\ux l tab r w<(tab.length:Int)
 | [],r,h0,h1=>#[h0,h1]
 | c::w,r,h0,h1=>VU hG (w:=w) (QN hG).1 (QN hG).2
theorem Zq(l:())(tab:List (List Int))(r:Int)(u v:()):ux l tab r (u ++ v)=ux l tab (ux l tab r u) v:=List.foldl_append
theorem Vd{l:()}{tab:List (List Int)}(hG:xG l tab):Vc λu v=>∀r:Int,0<=r->r<(tab.length:Int)->ux l tab r u=ux l tab r v :=
 #[λ_ _ _ _=>rfl,λh r a b=>(h r a b).symm,λh g r a b=>(h r a b).trans (g r a b),λ{u v} a b h r h0 h1=>by
  rw[Zq,Zq,Zq,Zq,h _ (VU hG h0 h1).1 (VU hG h0 h1).2]]
theorem Km{l:()}{tab:List (List Int)}(hG:xG l tab){u v:()}(h:EqR rs u v):vB l tab rs u v=Ba:=by
 cases e:vB l tab rs u v with
 | false=>rfl
 | true =>
  unfold vB at e;rw[bX]at e;have hlo:=hG.lo;have:=Jv (Vd hG) (λp hp r h0 h1=>Kn (YD e.2 p hp) h0 h1) h 0 ⋯ ⋯;exact absurd this (of_decide_eq_true e.1)
theorem BG.dwn{l:()}(h:BG k l ns bs):Dwn k l ns (zb bs):=λp hp=>by
 unfold zb at hp;obtain⟨e,he,rfl⟩:=Bf.mp hp;exact#[h.lt e he,(h.e e he).ma,(h.e e he).mb]
theorem Wq{u t:()}(hN:NeL ps)(h:zF u ps=AY)(hr:Rws ps u t):t=u:=by
 cases hr with
 | nil=>rfl
 | cons s _=>exact absurd h (za8 hN s)
theorem Qi{u v:()}(h:Rws ps u v):EqR ps u v:=by
 induction h with
 | nil=>exact .refl _
 | cons s _ ih=>exact .trans (.one s) ih
theorem Qs{l:()}(G:OG l ns k)(hB:BG k l ns bs)(hm:Met (zb bs)){u v:()}(hu:∀c ∈ u,c ∈ l)(h:EqR (zb bs) u v){i j:Nat}(hi:zE (zb bs) u i)(hj:zE (zb bs) v j):wAt (zb bs) u i=wAt (zb bs) v j:=by
 have e1:=Qi (qQ (ps:=zb bs) (w:=u) i);have e2:=Qi (qQ (ps:=zb bs) (w:=v) j);have hw:∀c ∈ wAt (zb bs) u i,c ∈ l:=(U2 hB.dwn e1).mp hu;obtain⟨t,t1,t2⟩:=zdK G hB.dwn hm (.trans (.symm e1) (.trans h e2)) hw;rw[<- Wq (hB.ne G) hi.end_ t1,<- Wq (hB.ne G) hj.end_ t2]
theorem Uv(hE:∀e ∈ bs,EOk rs e){u v:()}{i j:Nat}(hi:zE (zb bs) u i)(hj:zE (zb bs) v j)(he:wAt (zb bs) u i=wAt (zb bs) v j):z9 rs u (ZI bs u v i j)=AX v:=by
 refine jL hE ?_;rw[xA,vV hi.live,he];exact wE (vV hj.live)
theorem zdM{l:()}(h:∀p ∈ rs,p.1.length<=60/\p.2.length<=60/\(∀c ∈ p.1,c ∈ l)/\∀c ∈ p.2,c ∈ l):∀e ∈ fEs rs rs.length,EB l e:=λe he=>by
 obtain⟨i,p,hi,hp,rfl⟩:=ZN he;obtain⟨g1,g2,g3,g4⟩:=h p (ag hp);exact#[g1,g2,by show ([((i:Int),(0:Int),AZ)]:List Stp).length<=600;simp,g3,g4]
theorem VZ{k n:Nat}{l:()}{k1 es:List Ent}(h:Cpl k l ns n k1 (fEs rs rs.length) AZ es){u v:()}(hu:EqR rs u v):EqR (zb es) u v:=by
 refine Jv (kQ _) (λp hp=>?_) hu;obtain⟨i,hi⟩:=Bo.mp hp;exact Qy (kQ _) h rfl (λe he=>QI (p:=(e.1,e.2.1)) (Bf.mpr #[e,he,rfl])) (fE i p) (Ut hi (Be.mp hi).1)
def zaU(K:so):Sp:=λvs H Q _=>∃(a:sq) (l:()) (ps:List zp) (u v:()) (m:Nat),vs=[.str (tx l),.ref a,.str (tx u),.str (tx v),.int (m:Nat)]/\uU l=AZ/\LsA K H a (ps.map dR)/\InP l ps/\(∀c ∈ u,c ∈ l)/\(∀c ∈ v,c ∈ l)/\m<=8/\m ^ (m * l.length)<=1000/\(Ear l ps u v (m+1) 0->∀(p:sq) (H':Hp),Same H H'->H' p=AX (.tup [.str "open"])->Q (.ref p) H') /\
 ∀(n N:Nat) (p t:sq) (rs:List sq) (H':Hp),1<=n->n<=m->N<n ^ (n * l.length)->vB l (k7 n l.length N) ps u v=AZ->Ear l ps u v n N->Same H H'->H' p=AX (.tup [.str "world",.ref t])->TabAt H' t rs (k7 n l.length N)->Q (.ref p) H'
def JwV(l:())(ps:List zp)(u v:())(m:Nat)(H:Hp)(x:V):Prop:=(x=.non/\Ear l ps u v (m+1) 0)\/∃(n N:Nat) (t:sq) (rs:List sq),x=.ref t/\1<=n/\n<=m/\N<n ^ (n * l.length)/\vB l (k7 n l.length N) ps u v=AZ/\Ear l ps u v n N/\TabAt H t rs (k7 n l.length N)
theorem ln:sQz 5 ["letters","pacts","one","other","most","table"] yI:=by nofun
theorem vU{f CM:sq}(B:Bt mg)(F:("judged_by_worlds"^^^yI))(pM:(6>>>"world_apart") ["letters","pacts","one","other","most"] [] (XX K CM)):(7&&&["letters","pacts","one","other","most"]) (zaU K):=by
 exists F.ok ln
 ·obtain⟨a,l,ps,u,v,m,rfl,hg,hA,hp,hu,hv,m8,hm,q1,q2⟩:=h
  refine#[_,(zi (zD 5 ln.nd (clP xe0 pM hr .nil rfl (za (pv 0) (za (pv 1) (za (pv 2) (za (pv 3) (za (pv 4) zc)))))))
   (zf (zl (vn (zy op_isN' (pv 5) yd (zC _)) (zR (za zS zc)) (zR (za zS (za (pv 5) zc))))))),?_]
  have s16:=zP;have s16:=zP;refine zj (λσ H'=>Same H H'/\∃x,JwV l ps u v m H' x/\σ=[~~~l,!!a,~~~u,~~~v,-~~~m,AX (x)]) ?_ ?_
  ·rfl'
   exact#[a,l,ps,u,v,m,rfl,hg,hA,hp,hu,hv,m8,λh=>by lia,λ_ h H' s'=>#[s',.inl #[rfl,h]],λ_ n N h1 h2 h3 h4 h5 t rs H' s' h6 _=>#[s',.inr #[n,N,t,rs,rfl,h1,h2,h3,h4,h5,h6]]]
  rintro σ H1 ⟨s1,x,hx,rfl⟩:_;right;rcases hx with ⟨rfl,hE⟩ | ⟨n,N,t,rs,rfl,h1,h2,h3,h4,h5,h6⟩
  ·rfl'
   exact#[⋯,λp hp=>q1 hE p _ (s1.trans (ze hp)) zd]
  ·rfl'
   exact#[⋯,λp hp=>q2 n N p t rs _ h1 h2 h3 h4 h5 (s1.trans (ze hp)) zd (h6.same (ze hp))]
inductive JOut(K:so)(H:Hp)(k:Nat)(l:())(ns:List Int)(rs:List zp)(u v:())(r m:Nat)(p:sq):Prop where
 | alike (w:Bool) (es:List Ent) (i j:Nat) (S:sq) (hc:Cpl k l ns (r+1) [] (fEs rs rs.length) w es) (hb:BG k l ns es) (hi:zE (zb es) u i) (hj:zE (zb es) v j) (he:wAt (zb es) u i=wAt (zb es) v j) (hl:(ZI es u v i j).length<=2000) (hp:H p=AX (.tup [.str "alike",.ref S])) (hS:LsA K H S ((ZI es u v i j).map dSt))
 | forms (es:List Ent) (i j:Nat) (D:sq) (hc:Cpl k l ns (r+1) [] (fEs rs rs.length) AZ es) (hb:BG k l ns es) (hi:zE (zb es) u i) (hj:zE (zb es) v j) (hn:wAt (zb es) u i≠wAt (zb es) v j) (hp:H p=AX (.tup [.str "forms",.ref D,.str (tx (wAt (zb es) u i)),.str (tx (wAt (zb es) v j))])) (hD:EnsM K H D es)
 | world (w:Bool) (es:List Ent) (n N:Nat) (t:sq) (ts:List sq) (hc:Cpl k l ns (r+1) [] (fEs rs rs.length) w es) (hb:BG k l ns es) (hno:NoR es w u v) (h1:1<=n) (h2:n<=m) (h3:N<n ^ (n * l.length)) (h4:vB l (k7 n l.length N) rs u v=AZ) (h5:Ear l rs u v n N) (hp:H p=AX (.tup [.str "world",.ref t])) (ht:TabAt H t ts (k7 n l.length N))
 | open_ (w:Bool) (es:List Ent) (hc:Cpl k l ns (r+1) [] (fEs rs rs.length) w es) (hb:BG k l ns es) (hno:NoR es w u v) (h5:Ear l rs u v (m+1) 0) (hp:H p=AX (.tup [.str "open"]))
def zdh(K:so)(CO CR CW TB:sq):Sp:=λvs H Q _=>∃(o a:sq) (k:Nat) (l:()) (ns:List Int) (rs:List zp) (u v:()) (r m:Nat),vs=[.ref o,.ref a,.str (tx u),.str (tx v),.int (r:Nat),.int (m:Nat)]/\OrdAt CO CR CW H o k l ns/\OG l ns k/\LsA K H a (rs.map dR)/\rs.length<=20/\(∀p ∈ rs,p.1.length<=60/\p.2.length<=60/\(∀c ∈ p.1,c ∈ l)/\∀c ∈ p.2,c ∈ l)/\u.length<=60/\v.length<=60/\(∀c ∈ u,c ∈ l)/\(∀c ∈ v,c ∈ l)/\r<=1000/\m<=8/\m ^ (m * l.length)<=1000/\TabOk H TB lp lq /\
 ∀(p:sq) (H':Hp),SamT TB H H'->TabOk H' TB lp lq->JOut K H' k l ns rs u v r m p->Q (.ref p) H'
def JrV(K:so)(H:Hp)(es:List Ent)(w:Bool)(u v:())(D:sq)(x:V):Prop:=(x=.non/\NoR es w u v)\/∃p:sq,x=.ref p/\((∃i j,w=AZ/\zE (zb es) u i/\zE (zb es) v j/\wAt (zb es) u i≠wAt (zb es) v j/\H p=AX (.tup [.str "forms",.ref D,.str (tx (wAt (zb es) u i)),.str (tx (wAt (zb es) v j))]))\/∃i j S,zE (zb es) u i/\zE (zb es) v j/\wAt (zb es) u i=wAt (zb es) v j/\(ZI es u v i j).length<=2000/\H p=AX (.tup [.str "alike",.ref S])/\LsA K H S ((ZI es u v i j).map dSt))
theorem nM:sQz 6 ["order","pacts","one","other","rounds","most","outcome","answer"] Zp:=by nofun
theorem Qu{f CO CR CW TB CM:sq}(B:Bt mg)(TO:TOrd K mg CO CR CW)(TM:JV K mg CM)(F:("judged"^^^Zp))(rp:(10<<<"completed") ["order","pacts","rounds"] [] (zap K CO CR CW TB))(oo:(6<<<"judged_by_roads") ["whole","kept","one","other"] [] (zar K))(iP:(2<<<"tables_within") ["letters","rooms"] [] ui)(nN:(7<<<"judged_by_worlds") ["letters","pacts","one","other","most"] [] (zaU K)):(11|||["order","pacts","one","other","rounds","most"]) (zdh K CO CR CW TB):=by
 exists Fun.okX F nM,0
 ·obtain⟨o,a,k,l,ns,rs,u,v,r,m,rfl,ho,hG,hA,hrl,hrs,hul,hvl,hu,hv,hr',hm8,hm,hTab,q⟩:=h
  refine#[_,(zi (zK (zU (yE (cl0 iP hr .nil rfl (za (vW (pv 0) rfl) (za (pv 5) zc))) (λ_=>rfl)))
    (zf (z7 hx rfl TM.xi.toXC TM.ini rfl TM.g (za zS zc)))
    zv)
   (zi (zD 6 nM.nd (cl0 rp hr .nil rfl (za (pv 0) (za (pv 1) (za (pv 4) zc)))))
   (zi (zD 7 nM.nd (cl0 oo hr .nil rfl (za (zo ix_tup (pv 6) zg) (za (zo ix_tup (pv 6) zg) (za (pv 2) (za (pv 3) zc))))))
   (zi (zK (zy op_isN' (pv 7) yd (zC _))
    (zf (zl (cl0 nN hr .nil rfl (za (vW (pv 0) rfl) (za (pv 1) (za (pv 2) (za (pv 3) (za (pv 5) zc))))))))
    zv)
   (zf (zl (pv 7))))))),?_]
  have s16:=zP;have s16:=zP;obtain⟨l1,l6,lsm,lnd⟩:=of_decide_eq_true hG.g;obtain⟨C,dy,fs,hf,ho1,_,hlk⟩:=ho.fam
  have hC:Cls K C/\NoAttr K C "letters":=by
   rcases hf with rfl | rfl | rfl
   ·exact#[TO.cO,TO.lO]
   ·exact#[TO.cR,TO.lR]
   ·exact#[TO.cW,TO.lW]
  refine zj (λσ H'=>H'=H/\σ=[!!o,!!a,~~~u,~~~v,-~~~r,-~~~m,AY,AY]) ?_ ?_
  ·rfl'
   refine#[_,_,_,ho1,hC.1,hC.2,_,hlk,kz l6 hm8 ?_];rw[decide_eq_true hm];exact#[AZ,rfl,ZB rfl]
  rintro σ H1 ⟨rfl,rfl⟩:_;right;refine zj (λσ H'=>SamT TB H1 H'/\TabOk H' TB lp lq/\∃(w:Bool) (es:List Ent) (p D:sq),Cpl k l ns (r+1) [] (fEs rs rs.length) w es/\BG k l ns es/\H' p=AX (.tup [.bl w,.ref D])/\EnsM K H' D es/\σ=[!!o,!!a,~~~u,~~~v,-~~~r,-~~~m,!!p,AY]) ?_ ?_
  ·rfl'
   exact#[o,a,k,l,ns,rs,r,rfl,ho,hG,hA,hrl,λp hp=>#[by have:=hrs p hp;lia,by have:=hrs p hp;lia,(hrs p hp).2.2],λp hp=>#[(hrs p hp).1,(hrs p hp).2.1],hr',hTab,λw es p D H' h1 h2 h3 h3' h4 h5=>#[h3,h3',w,es,h1,h2,p,D,h4,h5,rfl]]
  rintro σ H2 ⟨s2,hT2,w,es,p,D,hCp,hB,hp,hD,rfl⟩:_;obtain⟨tbl,htb,_⟩:=id hTab;right;refine zj (λσ H'=>Same H2 H'/\∃v7,JrV K H' es w u v D v7/\σ=[!!o,!!a,~~~u,~~~v,-~~~r,-~~~m,!!p,AX (v7)]) ?_ ?_
  ·rfl'
   exact#[_,SqT.of hp,_,rfl,_,SqT.of hp,_,rfl,D,k,l,ns,es,w,u,v,rfl,hG,hD.l,hB,hul,hvl,λhno H' s'=>#[s',.inl #[rfl,hno]],λi j p H' hw hi hj hn s' h1=>#[s',.inr #[p,rfl,.inl #[i,j,hw,hi,hj,hn,h1]]],λi j p S H' hi hj hij s' h1 h2 h3=>#[s',.inr #[p,rfl,.inr #[i,j,S,hi,hj,hij,h3,h1,h2]]]]
  rintro σ H3 ⟨s3,v7,hv7,rfl⟩:_;have sT:=s2.trans (SamT.of s3);have hT3:=hT2.same s3;have hA3:=hA.samT sT htb;right;rcases hv7 with ⟨rfl,hno⟩ | ⟨p',rfl,hv7⟩
  ·refine WG (λ_ _=>False) ?_ λ_ _ h=>h.elim
   rfl'
   exact#[_,_,_,sT.at htb ho1 (λ_ z=>by cases z),hC.1,hC.2,_,hlk,a,l,rs,u,v,m,rfl,hG.g,hA3,λp hp=>(hrs p hp).2.2,hu,hv,hm8,hm,λhE p H' s' h=>q p H' (sT.trans (SamT.of s')) (hT3.same s') (.open_ w es hCp hB hno hE h),λn N p t ts H' h1 h2 h3 h4 h5 s' h6 h7=>q p H' (sT.trans (SamT.of s')) (hT3.same s') (.world w es n N t ts hCp hB hno h1 h2 h3 h4 h5 h6 h7)]
  ·refine zj (λσ H'=>H'=H3/\σ=[!!o,!!a,~~~u,~~~v,-~~~r,-~~~m,!!p,!!p']) ?_ ?_
   ·rfl'
   rintro σ H4 ⟨rfl,rfl⟩:_;right
   rfl'
   refine q p' _ sT hT3 ?_;rcases hv7 with ⟨i,j,rfl,hi,hj,hn,h1⟩ | ⟨i,j,S,hi,hj,he,hl,h1,h2⟩
   ·exact .forms es i j D hCp hB hi hj hn h1 (hD.same s3)
   ·exact .alike w es i j S hCp hB hi hj he hl h1 h2
structure KXs(K:so):Prop where
 ss:aO K (.type "str") (.type "str")=AX AZ
def UC(K:so):Sp:=λvs H Q _=>∃(a:sq) (es:List Ent),vs=[.ref a]/\Is K H (.lst (es.map dE)) (.ref a)/\Q (.bl AZ) H
theorem pb:sQz 1 ["_law_found","_law_entry"] jg:=by nofun
theorem VQ(B:Bt mg)(T:TLs K)(TX:KXs K)(F:("_law_entries"^^^jg))(pD:(2<<<"_law_steps") ["_law_found"] [] (Ze K)):(3&&&["_law_found"]) (UC K):=by
 exists F.ok pb
 ·obtain⟨a,es,rfl,hA,q⟩:=h
  refine#[_,(zi (zK (zU (yE (yB rfl B.isi (pv 0) rfl B.list PySem.Pv.boot_list) (λ_=>rfl)))
    (zf (zl yM))
    zv)
   (zi (zW PassesOwn.never rfl (yj (pv 0)) (zx (i:=1) pb.nd rfl (.inl rfl))
    (zi (zK (PW.pt (vx (zU (yE (yB rfl B.isi (pv 1) rfl B.tuple PySem.Pv.boot_tuple) (λ_=>rfl))) (vx (zy j3 (zA B.len (pv 1)) zg (zC _)) (wz (zU (yE (cl0 pD hr .nil rfl (za (zo ix_tup (pv 1) zg) zc)) (λ_=>rfl)))))))
     (zf (zl yM))
     zv)
    (zf (zK (PW.pt (vx (zU (yE (yB rfl B.isi (zo ix_tup (pv 1) zg) rfl B.str PySem.Pv.boot_str) (λ_=>rfl))) (wz (zU (yE (yB rfl B.isi (zo ix_tup (pv 1) zg) rfl B.str PySem.Pv.boot_str) (λ_=>rfl))))))
     (zf (zl yM))
     zv))))
   (zf (zl yM)))),?_]
  have s16:=zP
  erw[Is]at hA
  obtain⟨_,xs,e,hX,hI⟩:=hA;cases e;refine zj (λσ H'=>H'=H/\σ=[!!a,AY]) ?_ ?_
  ·rfl'
   exact#[_,.inr (.inr (.inl #[_,_,rfl,rfl,hX])),AZ,T.ll,ZB trivial]
  rintro σ H1 ⟨rfl,rfl⟩:_;right;refine zj (λσ H'=>H'=H1/\∃v1,σ=[!!a,v1]) ?_ ?_
  ·rfl'
   refine#[#[_,hX],ForL.by (xs:=xs) (λi σ H'=>H'=H1/\∃v1,σ=[!!a,v1]) #[rfl,_,rfl] (λi σ H' _ h=>by rw[h.1];exact hX) ?_ λσ H' h=>h];refine nm4 ?_;rintro i x σ H' hx ⟨rfl,v1,rfl⟩:_;obtain⟨e,pe,se,hei,rfl,hqe,hse⟩:=WH hI hx;right
   erw[yy,aV,aU]
   refine zj (λσ H''=>H''=H'/\σ=[!!a,!!pe]) ?_ ?_
   ·rfl'
    exact#[_,.inr (.inr (.inr #[_,_,rfl,rfl,hqe])),AZ,T.tt,ZB #[_,.inr #[_,hqe,rfl],yq (λh=>absurd rfl h) λ_=>#[_,hqe,_,rfl,se,e.2.2,rfl,hse,AZ,rfl,ZB rfl]]]
   rintro σ G ⟨rfl,rfl⟩:_;right
   rfl'
   exact#[_,hqe,_,rfl,_,.inl (.str _),AZ,TX.ss,ZB #[_,hqe,_,rfl,_,.inl (.str _),AZ,TX.ss,ZB trivial]]
  rintro σ H2 ⟨rfl,v1,rfl⟩:_;right
  rfl'
  exact q
def Uq(K:so):Sp:=λvs H Q _=>∃(t:sq) (rs:List sq) (tab:List (List Int)) (l:()),vs=[.ref t,.int (l.length:Nat)]/\TabAt H t rs tab/\xG l tab/\l.length<=6/\∀H',Same H H'->Q (.bl AZ) H'
theorem zch{t:sq}{rs:List sq}{tab:List (List Int)}{l:()}(h1:TabAt H t rs tab)(h2:xG l tab)(h3:l.length<=6)(q:∀H',Same H H'->Q (.bl AZ) H'):Uq K [.ref t,.int (l.length:Nat)] H Q E:=#[t,rs,tab,l,rfl,h1,h2,h3,q]
theorem oB:sQz 2 ["_law_table","_law_many","_law_row"] vt:=by nofun
theorem Y1(B:Bt mg)(T:TLs K)(F:("_law_table_ok"^^^vt))(oh:(1<<<"_law_whole") ["_law_found"] [] ut):(2&&&["_law_table","_law_many"]) (Uq K):=by
 exists F.ok oB
 ·obtain⟨t,rs,tab,l,rfl,hT,hG,l6,q⟩:=h
  refine#[_,(zi (zK (PW.pt (vx (zU (yE (yB rfl B.isi (pv 0) rfl B.list PySem.Pv.boot_list) (λ_=>rfl))) (wz (zy Vt (zA B.len (pv 0)) zg (zC _)))))
    (zf (zl yM))
    zv)
   (zi (zW PassesOwn.never rfl (yj (pv 0)) (zx (i:=2) oB.nd rfl (.inl rfl))
    (zi (zK (PW.pt (vx (zU (yE (yB rfl B.isi (pv 2) rfl B.list PySem.Pv.boot_list) (λ_=>rfl))) (wz (zy j3 (zA B.len (pv 2)) (pv 1) (zC _)))))
     (zf (zl yM))
     zv)
    (zf (zK (zU (yE (xC (zeN rfl) rfl B.all PyProof.Rows.boot_all (za (xz (own:=["_law_room"]) (caps:=["_law_table"]) (ix:=[0]) (tt:=wS) (te:=(U1 (uR ut [] E0 (zM (ym 0) xH)) (kA zeB zeC (tC (.int 0)) (ym 0) (tCB (WA K) (zM (ym 1) xH))))) rfl (zN (sc:=zh vt) rfl (by symm) (by symm) (by symm) rfl (by symm) (by symm) rfl) (yj (pv 2)) (λ_ _ _ _ _ _=>zx (i:=0) (show List.Nodup [_,_] by decide) rfl (.inl rfl)) (λ_ _ _ _ _ _=>yG) (λ_ _ _ _ _ _=>(km (cl0 oh hr .nil rfl (za (pv 0) zc)) (jt (WM xy Q5 zg (pv 0) (zA B.len (pv 1))))))) zc)) (λ_=>rfl)))
     (zf (zl yM))
     zv))))
   (zf (zl yM)))),?_]
  have s16:=zP;have s16:=zP;have hlo:=hG.lo;have hhi:=hG.hi;have hln:=hT.len;refine zj (λσ H'=>H'=H/\σ=[!!t,AX (.int (l.length:Nat)),AY]) ?_ ?_
  ·rfl'
   exact#[_,.inr (.inr (.inl #[_,_,rfl,rfl,SqL.of hT.top])),AZ,T.ll,ZB #[_,.inl #[_,SqL.of hT.top,rfl],yq (λh=>by rw[ae]at h;lia) λ_=>trivial]]
  rintro σ H1 ⟨rfl,rfl⟩:_;right;refine zj (λσ H'=>Same H1 H'/\∃v2,σ=[!!t,AX (.int (l.length:Nat)),v2]) ?_ ?_
  ·rfl'
   refine#[#[_,SqL.of hT.top],ForL.by (xs:=rs.map V.ref) (λi σ H'=>Same H1 H'/\∃v2,σ=[!!t,AX (.int (l.length:Nat)),v2]) #[Same.refl _,_,rfl] (λi σ H' _ h=>SqL.of (h.1 _ _ hT.top)) ?_ λσ H' h=>h];refine nm4 ?_;rintro i x σ H' hx ⟨hs,v2,rfl⟩:_;rw[aq]at hx;obtain⟨r,hr,rfl⟩:=Bk.mp hx;have hil:=(Be.mp hr).1;have hy:tab[i]? = AX (tab[i]'⋯):=ah ⋯;right;generalize tab[i]'⋯=y at hy;have hym:=ag hy;have hR:=hs _ _ (hT.row i r y hr hy)
   erw[yy,aV,aU]
   refine zj (λσ G=>G=H'/\σ=[!!t,AX (.int (l.length:Nat)),!!r]) ?_ ?_
   ·rfl'
    exact#[_,.inr (.inr (.inl #[_,_,rfl,rfl,SqL.of hR])),AZ,T.ll,ZB #[_,.inl #[_,SqL.of hR,rfl],yq (λh=>absurd (by rw[ae,hG.wd y hym]) h) λ_=>trivial]]
   rintro σ H2 ⟨rfl,rfl⟩:_;right
   rfl'
   refine#[#[_,SqL.of hR],λD hD=>CompL.by (xs:=y.map V.int) (λi Bd G=>Same H2 G/\G D=AX (.lst Bd)/\Bd=aW i (V.bl AZ)) #[ze hD,zd,rfl] (λi Bd G _ h=>SqL.of (h.1 _ _ hR)) ?_ ?_]
   ·refine nm4 ?_;rintro n x Bd G hx ⟨hs2,hH,rfl⟩:_;rw[aq]at hx;obtain⟨z,hz,rfl⟩:=Bk.mp hx;have hzl:=(Be.mp hz).1;have hzb:=hG.rm y hym z (ag hz);have hyl:=hG.wd y hym;right
    erw[wS]
    rfl'
    have ht2:=hs2 _ _ (hs _ _ hT.top);refine#[xx,qV #[AZ,rfl,zfL (yq (λ_=>#[_,.inl #[_,SqL.of ht2,rfl],hH,by rw[cb];lia,CNx.mk (by rw[ae];exact hzl) #[zJ hs2 hD,zd,?_]]) λh=>absurd hzb.1 h)]];rw[ae,decide_eq_true ⋯,List.replicate_succ']
   ·rintro Bd G ⟨hs2,hH,rfl⟩;refine#[D,aW y.length AZ,rfl,?_,?_]
    ·rw[List.map_replicate,ae]at *;exact SqL.of hH
    ·have e:(aW y.length AZ).all id=AZ:=by simp
     rw[e];exact#[AZ,rfl,ZB (hs.trans hs2)]
  rintro σ H2 ⟨s2,v2,rfl⟩:_;right
  rfl'
  exact q _ s2
structure TAn(K:so):Prop where
 tt:aO K (.type "tuple") (.type "tuple")=AX AZ
 ss:aO K (.type "str") (.type "str")=AX AZ
inductive AnsJ(K:so)(H:Hp)(l:())(p:sq):Prop where
 | open_ (h:H p=AX (.tup [.str "open"]))
 | alike (S:sq) (ss:List Stp) (h:H p=AX (.tup [.str "alike",.ref S])) (hS:LsA K H S (ss.map dSt))
 | forms (D:sq) (es:List Ent) (f g:()) (h:H p=AX (.tup [.str "forms",.ref D,.str (tx f),.str (tx g)])) (hD:EnsM K H D es)
 | world (t:sq) (ts:List sq) (tab:List (List Int)) (h:H p=AX (.tup [.str "world",.ref t])) (ht:TabAt H t ts tab) (hG:xG l tab)
theorem JOut.ans{l:()}{u v:()}{r m:Nat}{p:sq}(h:JOut K H k l ns rs u v r m p)(hm:m<=8):AnsJ K H l p:=by
 cases h with
 | alike w es i j S hc hb hi hj he hl hp hS=>exact .alike S _ hp hS
 | forms es i j D hc hb hi hj hn hp hD=>exact .forms D es _ _ hp hD
 | world w es n N t ts hc hb hno h1 h2 h3 h4 h5 hp ht=>exact .world t ts _ hp ht (ZG N h1 ⋯)
 | open_ w es hc hb hno h5 hp=>exact .open_ hp
def Uk(K:so):Sp:=λvs H Q _=>∃(p:sq) (l:()),vs=[.ref p,.int (l.length:Nat)]/\l.length<=6/\AnsJ K H l p/\∀H',Same H H'->Q (.bl AZ) H'
theorem UP:sQz 2 ["_law_found","_law_many"] Za:=by nofun
theorem Jw(B:Bt mg)(T:TAn K)(F:("_law_answer"^^^Za))(pD:(2<<<"_law_steps") ["_law_found"] [] (Ze K))(rG:(2<<<"_law_table_ok") ["_law_table","_law_many"] [] (Uq K))(rJ:(3<<<"_law_entries") ["_law_found"] [] (UC K)):(4&&&["_law_found","_law_many"]) (Uk K):=by
 exists F.ok UP
 ·obtain⟨p,l,rfl,l6,hA,q⟩:=h
  refine#[_,(zi (zK (PW.pt (vx (zU (yE (yB rfl B.isi (pv 0) rfl B.tuple PySem.Pv.boot_tuple) (λ_=>rfl))) (vx (zy Q5 (zA B.len (pv 0)) zg (zC _)) (wz (zU (yE (yB rfl B.isi (zo ix_tup (pv 0) zg) rfl B.str PySem.Pv.boot_str) (λ_=>rfl)))))))
    (zf (zl yM))
    zv)
   (zi (zK (zy vc (zo ix_tup (pv 0) zg) zS (zC _))
    (zf (zl (km (yR vc (zA B.len (pv 0)) zg (zC _)) (jt (cl0 pD hr .nil rfl (za (zo ix_tup (pv 0) zg) zc))))))
    zv)
   (zi (zK (zy vc (zo ix_tup (pv 0) zg) zS (zC _))
    (zi (zK (PW.pt (vx (zy j3 (zA B.len (pv 0)) zg (zC _)) (wz (zU (yE (cl0 rJ hr .nil rfl (za (zo ix_tup (pv 0) zg) zc)) (λ_=>rfl))))))
     (zf (zl yM))
     zv)
    (zf (zl (km (yB rfl B.isi (zo ix_tup (pv 0) zg) rfl B.str PySem.Pv.boot_str) (jt (yB rfl B.isi (zo ix_tup (pv 0) zg) rfl B.str PySem.Pv.boot_str))))))
    zv)
   (zi (zK (zy vc (zo ix_tup (pv 0) zg) zS (zC _))
    (zf (zl (km (yR vc (zA B.len (pv 0)) zg (zC _)) (jt (cl0 rG hr .nil rfl (za (zo ix_tup (pv 0) zg) (za (pv 1) zc)))))))
    zv)
   (zf (zl (yR (zaG (uS hr)) (pv 0) (zR (za zS zc)) (zC _)))))))),?_]
  have s16:=zP;have s16:=zP;refine zj (λσ H'=>H'=H/\σ=[!!p,AX (.int (l.length:Nat))]) ?_ ?_
  ·rfl'
   have key:∀(a:sB) (xs:List V),H p=AX (.tup (.str a::xs))->∃x,TyX K H (.ref p) x/\∃x_1,aO K x (.type "tuple")=AX x_1/\if x_1=Ba then Q (.bl Ba) H else ∃x,((∃xs,SqL K H p xs/\x=xs.length)\/∃xs,SqT K H p xs/\x=xs.length)/\if (x:Int)<1 then Q (.bl Ba) H else ∃xs,SqT K H p xs/\∃v,atI xs 0=AX v/\∃x,TyX K H v x/\∃x_2,aO K x (.type "str")=AX x_2/\if x_2=Ba then Q (.bl Ba) H else True:=λa xs h =>
    #[_,.inr (.inr (.inr #[_,_,rfl,rfl,SqT.of h])),AZ,T.tt,ZB #[_,.inr #[_,SqT.of h,rfl],yq (λz=>by rw[aJ]at z;lia) λ_=>#[_,SqT.of h,.str a,vM (j:=0) rfl,_,.inl (.str _),AZ,T.ss,ZB trivial]]]
   cases hA with
   | open_ h=>exact key _ _ h
   | alike S ss h hS=>exact key _ _ h
   | forms D es f g h hD=>exact key _ _ h
   | world t ts tab h ht hG=>exact key _ _ h
  rintro σ H1 ⟨rfl,rfl⟩:_;have skip:∀{a b:sB} {xs:List V} {A:Prop} {B:Prop},H1 p=AX (.tup (.str a::xs))->a≠b->B->∃xs,SqT K H1 p xs/\∃v,atI xs 0=AX v/\VS v (.str b)=AZ/\if v=.str b then A else B:=λ{a b xs A B} h hne hB=>#[_,SqT.of h,.str a,vM (j:=0) rfl,rfl,yq (λz=>absurd (V.str.inj z) hne) λ_=>hB];right
  cases hA with
  | alike S ss h hS =>
   refine WG (λ_ _=>False) ?_ λ_ _ h=>h.elim
   rfl'
   exact#[_,SqT.of h,_,rfl,rfl,yq (λ_=>#[_,.inr #[_,SqT.of h,rfl],yq (λ_=>#[_,SqT.of h,_,rfl,S,ss,rfl,hS.is,q _ (Same.refl _)]) λz=>absurd rfl z]) λz=>absurd rfl z]
  | forms D es f g h hD =>
   refine zj (λσ H'=>H'=H1/\σ=[!!p,AX (.int (l.length:Nat))]) ?_ ?_
   ·rfl'
    exact skip h ∅ trivial
   rintro σ H2 ⟨rfl,rfl⟩:_;right;refine WG (λ_ _=>False) ?_ λ_ _ h=>h.elim
   rfl'
   refine#[_,SqT.of h,_,rfl,rfl,yq (λ_=>?_) λz=>absurd rfl z];refine zj (λσ H'=>H'=H2/\σ=[!!p,AX (.int (l.length:Nat))]) ?_ ?_
   ·rfl'
    exact#[_,.inr #[_,SqT.of h,rfl],yq (λz=>absurd rfl z) λ_=>#[_,SqT.of h,_,rfl,D,es,rfl,hD.l.is,AZ,rfl,ZB rfl]]
   rintro σ H3 ⟨rfl,rfl⟩:_;right
   rfl'
   exact#[_,SqT.of h,_,rfl,_,.inl (.str _),AZ,T.ss,zfL #[_,SqT.of h,_,rfl,_,.inl (.str _),AZ,T.ss,q _ (Same.refl _)]]
  | world t ts tab h ht hG =>
   refine zj (λσ H'=>H'=H1/\σ=[!!p,AX (.int (l.length:Nat))]) ?_ ?_
   ·rfl'
    exact skip h ∅ trivial
   rintro σ H2 ⟨rfl,rfl⟩:_;right;refine zj (λσ H'=>H'=H2/\σ=[!!p,AX (.int (l.length:Nat))]) ?_ ?_
   ·rfl'
    exact skip h ∅ trivial
   rintro σ H3 ⟨rfl,rfl⟩:_;right;refine WG (λ_ _=>False) ?_ λ_ _ h=>h.elim
   rfl'
   exact#[_,SqT.of h,_,rfl,rfl,yq (λ_=>#[_,.inr #[_,SqT.of h,rfl],yq (λ_=>#[_,SqT.of h,_,rfl,zch ht hG l6 q]) λz=>absurd rfl z]) λz=>absurd rfl z]
  | open_ h =>
   refine zj (λσ H'=>H'=H1/\σ=[!!p,AX (.int (l.length:Nat))]) ?_ ?_
   ·rfl'
    exact skip h ∅ trivial
   rintro σ H2 ⟨rfl,rfl⟩:_;right;refine zj (λσ H'=>H'=H2/\σ=[!!p,AX (.int (l.length:Nat))]) ?_ ?_
   ·rfl'
    exact skip h ∅ trivial
   rintro σ H3 ⟨rfl,rfl⟩:_;right;refine zj (λσ H'=>H'=H3/\σ=[!!p,AX (.int (l.length:Nat))]) ?_ ?_
   ·rfl'
    exact skip h ∅ trivial
   rintro σ H4 ⟨rfl,rfl⟩:_;right
   rfl'
   refine#[⋯,λp1 hp1=>V7 (l:=[.str "open"]) (m:=[.str "open"]) (.inr #[?_,?_]) ∅ ?_]
   ·erw[Is,Iss]
    exact#[_,_,rfl,SqT.of (ze hp1 _ _ h),_,_,rfl,rfl,rfl]
   ·erw[Is,Iss]
    exact#[_,_,rfl,SqT.of zd,_,_,rfl,rfl,rfl]
   ·rw[vY];exact q _ (ze hp1)
theorem Vv{m n:Nat}(h:n<=3)(h1:1<=m)(h2:m<=2):m ^ (m * n)<=1000:=by
 have:m=1\/m=2:=⋯;rcases this with rfl | rfl
 ·simp
 ·have:n=0\/n=1\/n=2\/n=3:=⋯;rcases this with rfl | rfl | rfl | rfl <;> decide
def X8(K:so)(CO CR CW TB:sq):Sp:=λvs H Q _=>∃(c:Int) (a w:sq) (rs:List zp) (u v l:()),vs=[.int c,.ref a,.ref w,.str (tx l)]/\uD c/\LsA K H a (rs.map dR)/\rs.length<=20/\SqT K H w [.str (tx u),.str (tx v)]/\uU l=AZ/\(l.length=2\/l.length=3)/\(∀p ∈ rs,p.1.length<=60/\p.2.length<=60/\(∀c ∈ p.1,c ∈ l)/\∀c ∈ p.2,c ∈ l)/\u.length<=60/\v.length<=60/\(∀c ∈ u,c ∈ l)/\(∀c ∈ v,c ∈ l)/\TabOk H TB lp lq /\
 ∀(p:sq) (H':Hp) (k:Nat) (l':()) (ns:List Int) (r m:Nat),SamT TB H H'->TabOk H' TB lp lq->l'.length=l.length->(∀c,c ∈ l' ↔ c ∈ l)->OG l' ns k->m<=8->JOut K H' k l' ns rs u v r m p->Q (.ref p) H'
theorem mv:sQz 4 ["_law_cell_here","_law_pacts","_law_words","_law_letters_here","_law_number","_law_weights","_law_order_here"] ZT:=by nofun
theorem Kd{f CO CR CW TB:sq}(B:Bt mg)(F:("_law_asked"^^^ZT))(gF:(1<<<"_law_mixed") ["_law_cell_here","_law_turn"] [] we)(rR:(6<<<"_law_order") ["_law_kind","_law_letters_here","_law_weights"] [] (Wu K CO CR CW))(rN:(11>>>"judged") ["order","pacts","one","other","rounds","most"] [] (zdh K CO CR CW TB)):(12&&&["_law_cell_here","_law_pacts","_law_words","_law_letters_here"]) (X8 K CO CR CW TB):=by
 exists F.ok mv
 ·obtain⟨c,a,w,rs,u,v,l,rfl,hc,hA,hrl,hw,hg,hl,hrs,hul,hvl,hui,hvi,hTab,q⟩:=h
  refine#[_,(zi (zK (zy vc (zB yL (zB xa (pv 0) zg) zg) zg (zC _))
    (zf (qk (i:=3) mv.nd rfl (Or.inr rfl) (uM bW PySem.F.slot_str_join PySem.F.type_str_join zc1 zS (za (xz (own:=["_law_k"]) (caps:=["_law_letters_here"]) (ix:=[3]) (tt:=wS) (te:=(tOp (rIx K) (ym 1) (tOp (rI0 λi j=>.int (i - j)) (tOp (rI0 λi j=>.int (i - j)) (tCB (WA K) (zM (ym 1) xH)) (tC (.int 1))) (ym 0)))) rfl (zN (sc:=zh ZT) rfl (by symm) (by symm) (by symm) rfl (by symm) (by symm) rfl) (yk rfl B.range (za (zA B.len (pv 3)) zc)) (λ_ _ _ _ _ _=>zx (i:=0) (show List.Nodup [_,_] by decide) rfl (.inl rfl)) (λ_ _ _ _ _ _=>yG) (λ_ _ _ _ _ _=>(zo za3 (pv 1) (zB uo (zB uo (zA B.len (pv 1)) zg) (pv 0))))) zc))))
    zv)
   (zi (zD 4 mv.nd (cl0 gF hr .nil rfl (za (pv 0) (za zg zc))))
   (zi (zD 5 mv.nd (ya QA (wy (za (zB wo zg (zB yL (pv 4) zg)) (za (zB wo zg (zB yL (zB xa (pv 4) zg) zg)) (za (zB wo zg (zB yL (zB xa (pv 4) zg) zg)) zc)))) xJ (zY (zA B.len (pv 3)))))
   (zi (zD 6 mv.nd (cl0 rR hr .nil rfl (za (zB yL (pv 0) zg) (za (pv 3) (za (pv 5) zc)))))
   (zf (zl (clP xe0 rN hr .nil rfl (za (pv 6) (za (xn yW rfl B.list PySem.Pv.boot_list (za (pv 1) zc)) (za (zo ix_tup (pv 2) zg) (za (zo ix_tup (pv 2) zg) (za (zB yL (zB xa (pv 0) zg) zg) (za (zB wo zg (zB yL (zB xa (pv 0) zg) zg)) zc))))))))))))),?_]
  have s16:=zP;have s16:=zP;obtain⟨l1,l6,lsm,lnd⟩:=of_decide_eq_true hg;refine zj (λσ H'=>Same H H'/\∃l':(),uU l'=AZ/\l'.length=l.length/\(∀c,c ∈ l' ↔ c ∈ l)/\σ=[~~~!c,!!a,!!w,~~~l',AY,AY,AY]) ?_ ?_
  ·rfl'
   refine#[#[∅,∅],∅,yq (λhk=>#[⋯,⋯,⋯,λD hD=>CompR.by (λi Bd H'=>Same H H'/\H' D=AX (.lst Bd)/\Bd=(((l.reverse.take i).map λc=>[c]).map tx).map V.str) #[ze hD,zd,rfl] ?_ ?_]) λhk=>#[Same.refl _,l,hg,rfl,λc=>.rfl,rfl]]
   ·refine nm3 ?_;rintro i Bd H' hi ⟨hs,hH,rfl⟩:_;rw[aH]at hi
    have hr:l.reverse[i]? = AX (l[l.length - 1 - i]'⋯):=by
     rw[bx hi,ah ⋯]
    have ha:atI l ((l.length:Int) - 1 - (0+(i:Int)))=AX (l[l.length - 1 - i]'⋯):=by
     rw[show (l.length:Int) - 1 - (0+(i:Int))=((l.length - 1 - i:Nat):Int) by lia];exact vM (ah ⋯)
    right
    erw[wS]
    rfl'
    refine#[xx,⋯,⋯,_,ha,hH,by erw[ae,aG,bh];lia,CNx.mk (by rw[aH];exact hi) #[zJ hs hD,zd,?_]];rw[zX hr,ay,ay,ay];rfl
   ·rintro Bd H' ⟨hs,hH,rfl⟩;rw[aH,<- bh,aP]at hH
    have hfl:(l.reverse.map λc=>[c]).flatten=l.reverse:=by
     induction l.reverse with
     | nil=>rfl
     | cons a r ih=>rw[au,dm,ih];rfl
    refine#[tx [],D,(l.reverse.map λc=>[c]).map tx,rfl,rfl,SqL.of hH,JG (by rw[hfl,bh];lia),?_];have e:Txt.join (tx []) ((l.reverse.map λc=>[c]).map tx)=Str.join (tx []) ((l.reverse.map λc=>[c]).map tx):=StrLaws.glued_eq_join _ _;rw[e,Ub,hfl];exact#[hs,l.reverse,decide_eq_true #[by rw[bh];lia,by rw[bh];lia,λc hc=>lsm c (Bn.mp hc),(List.reverse_perm l).nodup_iff.mpr lnd],bh,λc=>List.mem_reverse,rfl]
  rintro σ H1 ⟨s1,l',hg',hl',hm',rfl⟩:_;right;refine zj (λσ H'=>H'=H1/\∃z:Int,σ=[~~~!c,!!a,!!w,~~~l',~~~!z,AY,AY]) ?_ ?_
  ·rfl'
   exact xo hc ∅ ∅ λz _=>#[rfl,z,rfl]
  rintro σ H2 ⟨rfl,z,rfl⟩:_;right;refine zj (λσ H'=>Same H2 H'/\∃(W:sq) (ws:List Int),H' W=AX (.lst (ws.map V.int))/\ws.length=l'.length/\(∀n ∈ ws,1<=n/\n<=1000000)/\σ=[~~~!c,!!a,!!w,~~~l',~~~!z,!!W,AY]) ?_ ?_
  ·rfl'
   refine#[∅,#[∅,∅],∅,#[∅,∅],∅,⋯,λp hp=>#[⋯,_,SqL.of zd,λp1 hp1=>?_]];have b1:=ba z (b:=3) ∅;have b2:=aZ z (b:=3) ∅;have b3:=ba (z / 3) (b:=3) ∅;have b4:=aZ (z / 3) (b:=3) ∅;have b5:=ba (z / 9) (b:=3) ∅;have b6:=aZ (z / 9) (b:=3) ∅;generalize z % 3=x1 at b1 b2 hp hp1 ⊢;generalize z / 3 % 3=x2 at b3 b4 hp hp1 ⊢;generalize z / 9 % 3=x3 at b5 b6 hp hp1 ⊢
   obtain⟨ws,e1,e2,e3⟩:∃ws:List Int,JH [V.int (1+x1),V.int (1+x2),V.int (1+x3)] AY (AX (l'.length:Int))=ws.map V.int/\ws.length=l'.length/\∀n ∈ ws,1<=n/\n<=1000000:=by
    have:l'.length=2\/l'.length=3:=⋯;rcases this with e | e <;> rw[e]
    ·exact#[[1+x1,1+x2],rfl,rfl,λn hn=>by erw[cU,eQ,or_false]at hn;lia]
    ·exact#[[1+x1,1+x2,1+x3],rfl,rfl,λn hn=>by erw[cU,eQ,or_false]at hn;lia]
   rw[e1];exact#[(ze hp).trans (ze hp1),p1,ws,zd,e2,e3,rfl]
  rintro σ H3 ⟨s3,W,ws,hW,hwl,hwb,rfl⟩:_;right;refine zj (λσ H'=>Same H3 H'/\∃(o:sq) (k:Nat),OrdAt CO CR CW H' o k l' ws/\OG l' ws k/\σ=[~~~!c,!!a,!!w,~~~l',~~~!z,!!W,!!o]) ?_ ?_
  ·rfl'
   exact#[∅,_,l',W,ws,rfl,ba _ ∅,aZ _ ∅,hg',hW,hwl,hwb,λo H' s' ho=>#[s',o,_,ho,#[hg',⋯,hwl,hwb],rfl]]
  rintro σ H4 ⟨s4,o,k,ho,hG,rfl⟩:_;have sH:=s1.trans (s3.trans s4);have hA4:=hA.same sH;have hw4:=zq sH hw;right
  rfl'
  obtain⟨px,hPx,hPi⟩:=id hA4;refine#[_,.inl (SqL.of hPx),λhd hh=>?_];have sh:=ze (o:=.lst px) hh;have hw5:=zq sh hw4;have hTk:=(hTab.same sH).same sh;have c0:=ba (c / 6) (b:=4) ∅;have c1:=aZ (c / 6) (b:=4) ∅;have c2:=ba (c / 24) (b:=2) ∅;have c3:=aZ (c / 24) (b:=2) ∅;refine#[_,hw5,_,rfl,_,hw5,_,rfl,#[∅,∅],∅,#[∅,∅],∅,?_];rw[show c / 6 % 4=((c / 6 % 4).toNat:Int) by lia,show 1+c / 24 % 2=((1+c / 24 % 2).toNat:Int) by lia];exact#[o,hd,k,l',ws,rs,u,v,_,_,rfl,ho.same sh,hG,#[px,zd,Iss.same sh _ _ hPi],hrl,λp hp=>#[(hrs p hp).1,(hrs p hp).2.1,λx hx=>(hm' x).mpr ((hrs p hp).2.2.1 x hx),λx hx=>(hm' x).mpr ((hrs p hp).2.2.2 x hx)],hul,hvl,λx hx=>(hm' x).mpr (hui x hx),λx hx=>(hm' x).mpr (hvi x hx),⋯,⋯,Vv ⋯ ⋯ ⋯,hTk,λp H' sT hT' hJ=>q p H' k l' ws _ _ ((SamT.of (sH.trans sh)).trans sT) hT' hl' hm' hG ⋯ hJ]
theorem TabAt.samT{T t:sq}{H H':Hp}{rs:List sq}{tab:List (List Int)}{ps:Array sr}(h:TabAt H t rs tab)(s:SamT T H H')(hT:H T=AX (.tbl ps)):TabAt H' t rs tab :=
 #[s.at hT h.top (λ_ z=>by cases z),h.len,λi r x e1 e2=>s.at hT (h.row i r x e1 e2) (λ_ z=>by cases z)]
theorem AnsJ.samT{T p:sq}{H H':Hp}{l:()}{ps:Array sr}(h:AnsJ K H l p)(s:SamT T H H')(hT:H T=AX (.tbl ps)):AnsJ K H' l p:=by
 cases h with
 | open_ h=>exact .open_ (s.at hT h (λ_ z=>by cases z))
 | alike S ss h hS=>exact .alike S ss (s.at hT h (λ_ z=>by cases z)) (hS.samT s hT)
 | forms D es f g h hD=>exact .forms D es f g (s.at hT h (λ_ z=>by cases z)) (hD.samT s hT)
 | world t ts tab h ht hG=>exact .world t ts tab (s.at hT h (λ_ z=>by cases z)) (ht.samT s hT) hG
theorem AnsJ.same{p:sq}{H H':Hp}{l:()}(h:AnsJ K H l p)(s:Same H H'):AnsJ K H' l p:=by
 cases h with
 | open_ h=>exact .open_ (s _ _ h)
 | alike S ss h hS=>exact .alike S ss (s _ _ h) (hS.same s)
 | forms D es f g h hD=>exact .forms D es f g (s _ _ h) (hD.same s)
 | world t ts tab h ht hG=>exact .world t ts tab (s _ _ h) (ht.same s) hG
theorem AnsJ.len{p:sq}{l l':()}(h:AnsJ K H l p)(e:l.length=l'.length):AnsJ K H l' p:=by
 cases h with
 | open_ h=>exact .open_ h
 | alike S ss h hS=>exact .alike S ss h hS
 | forms D es f g h hD=>exact .forms D es f g h hD
 | world t ts tab h ht hG=>exact .world t ts tab h ht #[hG.lo,hG.hi,λx hx=>(hG.wd x hx).trans e,hG.rm]
def KdS(rs:List zp)(u v:())(s:sB):Prop:=(s="alike"/\EqR rs u v)\/s="open"\/((s="forms"\/s="world")/\¬ EqR rs u v)
theorem JOut.kind{l:()}{rs:List zp}{u v:()}{r m:Nat}{p:sq}(h:JOut K H k l ns rs u v r m p)(hG:OG l ns k)(hrs:∀p ∈ rs,p.1.length<=60/\p.2.length<=60/\(∀c ∈ p.1,c ∈ l)/\∀c ∈ p.2,c ∈ l)(hu:∀c ∈ u,c ∈ l)(hm:m<=8):∃(s:sB) (xs:List V),H p=AX (.tup (.str s::xs))/\KdS rs u v s:=by
 cases h with
 | alike w es i j S hc hb hi hj he hl hp hS =>
  have hE:=(zcZ (rs:=rs) hG hc (zdM hrs) (λe he=>K7 he) #[λe h=>(nomatch h),.inl rfl]).1;exact#[_,_,hp,.inl #[rfl,Qk (kQ _) (λp hp=>QI hp) (Uv hE hi hj he)]]
 | forms es i j D hc hb hi hj hn hp hD=>exact#[_,_,hp,.inr (.inr #[.inl rfl,λe=>hn (Qs hG hb (zb8 hc rfl) hu (VZ hc e) hi hj)])]
 | world w es n N t ts hc hb hno h1 h2 h3 h4 h5 hp ht=>exact#[_,_,hp,.inr (.inr #[.inr rfl,λe=>by rw[Km (ZG N h1 ⋯) e]at h4;cases h4])]
 | open_ w es hc hb hno h5 hp=>exact#[_,_,hp,.inr (.inl rfl)]
structure PG5(l:())(rs:List zp):Prop where
 n:rs.length<=6
 s:∀r ∈ rs,r.1.length<=3/\r.2.length<=3/\(∀x ∈ r.1,x ∈ l)/\∀x ∈ r.2,x ∈ l
theorem PG5.ok{l:()}(h:PG5 l rs):ju rs:=#[by have:=h.n;lia,λr hr=>by have:=h.s r hr;lia]
theorem Ul(l:()):Vc λu v:()=>(∀c ∈ u,c ∈ l) ↔ ∀c ∈ v,c ∈ l :=
 #[λ_=>.rfl,.symm,.trans,λ{u v} a b h=>by
  erw[List.mem_append]
  exact#[λg c hc=>hc.elim (λhc=>hc.elim (λhc=>g c (.inl (.inl hc))) (h.mp (λc hc=>g c (.inl (.inr hc))) c)) (λhc=>g c (.inr hc)),λg c hc=>hc.elim (λhc=>hc.elim (λhc=>g c (.inl (.inl hc))) (h.mpr (λc hc=>g c (.inl (.inr hc))) c)) (λhc=>g c (.inr hc))]]
def AnK(K:so)(H:Hp)(l:())(rs:List zp)(u v:())(p:sq)(s:sB):Prop:=AnsJ K H l p/\(∃xs:List V,H p=AX (.tup (.str s::xs)))/\KdS rs u v s
theorem AnK.same{H H':Hp}{l:()}{u v:()}{p:sq}{s:sB}(h:AnK K H l rs u v p s)(q:Same H H'):AnK K H' l rs u v p s:=by
 obtain⟨h1,⟨xs,h2⟩,h3⟩:=h;exact#[h1.same q,#[xs,q _ _ h2],h3]
theorem AnK.samT{T:sq}{H H':Hp}{l:()}{u v:()}{p:sq}{s:sB}{ps:Array sr}(h:AnK K H l rs u v p s)(q:SamT T H H')(hT:H T=AX (.tbl ps)):AnK K H' l rs u v p s:=by
 obtain⟨h1,⟨xs,h2⟩,h3⟩:=h;exact#[h1.samT q hT,#[xs,q.at hT h2 (λ_ z=>by cases z)],h3]
theorem WX{l l':()}{u v:()}{r m:Nat}{p:sq}(h:JOut K H k l' ns rs u v r m p)(hG:OG l' ns k)(hl:l'.length=l.length)(hm':∀c,c ∈ l' ↔ c ∈ l)(hrs:∀p ∈ rs,p.1.length<=60/\p.2.length<=60/\(∀c ∈ p.1,c ∈ l)/\∀c ∈ p.2,c ∈ l)(hu:∀c ∈ u,c ∈ l)(hm:m<=8):∃s,AnK K H l rs u v p s:=by
 obtain⟨s,xs,h1,h2⟩:=h.kind hG (λp hp=>#[(hrs p hp).1,(hrs p hp).2.1,λc hc=>(hm' c).mpr ((hrs p hp).2.2.1 c hc),λc hc=>(hm' c).mpr ((hrs p hp).2.2.2 c hc)]) (λc hc=>(hm' c).mpr (hu c hc)) hm;exact#[s,(h.ans hm).len hl,#[xs,h1],h2]
def Wa(K:so)(T:sq):Sp:=λvs H Q _=>∃(a:sq) (ns:List Int),vs=[.ref a]/\SqL K H a (ns.map V.int)/\(∀z ∈ ns,uD z)/\H T=AX (.tbl #[])/\∀H',Q (.bl AZ) H'
theorem iH:sQz 1 ["_law_script","_law_count","_law_letters_here","_law_pacts","_law_one","_law_other","_law_first","_law_second","_law_kinds"] jX:=by nofun
theorem zel{f CO CR CW TB:sq}(B:Bt mg)(F:("law"^^^jX))(mw:(1<<<"_law_cell") ["_law_script","_law_k"] [] (ZJ K))(rK:(2<<<"_law_letters") ["_law_cell_here","_law_many"] [] uL)(nJ:(1<<<"_law_word") ["_law_number","_law_letters_here","_law_most"] [] ZV)(rq:(12<<<"_law_asked") ["_law_cell_here","_law_pacts","_law_words","_law_letters_here"] [] (X8 K CO CR CW TB))(rX:(2<<<"_law_pair") ["_law_cell_here","_law_letters_here","_law_most"] [] Zt)(gF:(1<<<"_law_mixed") ["_law_cell_here","_law_turn"] [] we)(rY:(2<<<"_law_end") ["_law_pacts","_law_word_here","_law_steps_here"] [] (Q9 K))(rS:(3<<<"_law_chain") ["_law_pacts","_law_word_here","_law_cells","_law_most"] [] (kJ K))(pZ:(4<<<"_law_answer") ["_law_found","_law_many"] [] (Uk K)):(13&&&["_law_script"]) (Wa K TB):=by
 exists F.ok iH
 ·obtain⟨a,ns,rfl,hS,hB,hT,q⟩:=h
  refine#[_,(zi (zD 1 iH.nd (cl0 mw hr .nil rfl (za (pv 0) (za zg zc))))
   (zi (qk (i:=2) iH.nd rfl (Or.inr rfl) (cl0 rK hr .nil rfl (za (pv 1) (za (zB yu zg (zB yL (pv 1) zg)) zc))))
   (zi (V5 (i:=3) iH.nd rfl (.inl rfl) (.inl rfl) (own:=["_law_k"]) (caps:=["_law_script","_law_letters_here"]) (ix:=[0,2]) (tt:=wS) (te:=(uR Zt [] E0 (zM (uR (ZJ K) [] E0 (zM (ym 1) (zM (tOp YT (tC (.int 3)) (ym 0)) xH))) (zM (ym 2) (zM (tC (.int 3)) xH))))) rfl (zN (sc:=zh jX) rfl (by symm) (by symm) (by symm) rfl (by symm) (by symm) rfl) (yk rfl B.range (za (zB yu zg (zB yL (zB xa (pv 1) zg) zg)) zc)) (λ_ _ _ _ _ _=>zx (i:=0) (show List.Nodup [_,_,_] by decide) rfl (.inl rfl)) (λ_ _ _ _ _ _=>yG) (λ_ _ _ _ _ _=>(cl0 rX hr .nil rfl (za (cl0 mw hr .nil rfl (za (pv 1) (za (zB wo zg (pv 0)) zc))) (za (pv 2) (za zg zc))))))
   (zi (zD 4 iH.nd (cl0 nJ hr .nil rfl (za (cl0 gF hr .nil rfl (za (cl0 mw hr .nil rfl (za (pv 0) (za zg zc))) (za zg zc))) (za (pv 2) (za zg zc)))))
   (zi (zD 5 iH.nd (cl0 nJ hr .nil rfl (za (cl0 gF hr .nil rfl (za (cl0 mw hr .nil rfl (za (pv 0) (za zg zc))) (za zg zc))) (za (pv 2) (za zg zc)))))
   (zi (zK (zy vc (zB yL (cl0 mw hr .nil rfl (za (pv 0) (za zg zc))) zg) zg (zC _))
    (zf (zD 5 iH.nd (cl0 rY hr .nil rfl (za (pv 3) (za (pv 4) (za (cl0 rS hr .nil rfl (za (pv 3) (za (pv 4) (za (ya Y3 (pv 0) (zY zg) (zY zg)) (za zg zc))))) zc))))))
    zv)
   (zi (zD 6 iH.nd (cl0 rq hr .nil rfl (za (cl0 mw hr .nil rfl (za (pv 0) (za zg zc))) (za (pv 3) (za (zR (za (pv 4) (za (pv 5) zc))) (za (pv 2) zc))))))
   (zi (zD 7 iH.nd (cl0 rq hr .nil rfl (za (cl0 mw hr .nil rfl (za (pv 0) (za zg zc))) (za (pv 3) (za (zR (za (pv 4) (za (pv 5) zc))) (za (pv 2) zc))))))
   (zi (zK (PW.pt (vx (zU (yE (cl0 pZ hr .nil rfl (za (pv 6) (za (zA B.len (pv 2)) zc))) (λ_=>rfl))) (wz (zU (yE (cl0 pZ hr .nil rfl (za (pv 7) (za (zA B.len (pv 2)) zc))) (λ_=>rfl))))))
    (zf (zl yM))
    zv)
   (zi (zD 8 iH.nd (wy (za (zo ix_tup (pv 6) zg) (za (zo ix_tup (pv 7) zg) zc))))
   (zf (zl (zfU (yR (XJ (uS hr)) zS (pv 8) (by with_unfolding_all rfl)) (jt (km (yR (XJ (uS hr)) zS (pv 8) (by with_unfolding_all rfl)) (jt (yR (XJ (uS hr)) zS (pv 8) (by with_unfolding_all rfl)))))))))))))))))),?_]
  have s16:=zP;have s16:=zP;have hTab:TabOk H TB lp lq:=#[#[],hT,trivial,.inl rfl];refine zj (λσ H'=>H'=H/\∃n:Int,uD n/\σ=[!!a,~~~!n,AY,AY,AY,AY,AY,AY,AY]) ?_ ?_
  ·rfl'
   exact wq hS hB ∅ λc hc=>#[rfl,c,hc,rfl]
  rintro σ H0 ⟨rfl,n,hn,rfl⟩:_;right;refine zj (λσ H'=>H'=H0/\∃l:(),uU l=AZ/\(l.length=2\/l.length=3)/\σ=[!!a,~~~!n,~~~l,AY,AY,AY,AY,AY,AY]) ?_ ?_
  ·rfl'
   have e0:=ba n (b:=2) ∅;have e1:=aZ n (b:=2) ∅;exact#[∅,Xk hn ⋯ ⋯ λl hl hnd hs=>#[rfl,l,decide_eq_true #[⋯,⋯,hs,hnd],⋯,rfl]]
  rintro σ H1 ⟨rfl,l,hg,hl,rfl⟩:_;obtain⟨l1,l6,lsm,lnd⟩:=of_decide_eq_true hg;right;refine zj (λσ H'=>Same H1 H'/\∃pa:sq,(∃rs,LsA K H' pa (rs.map dR)/\PG5 l rs)/\σ=[!!a,~~~!n,~~~l,!!pa,AY,AY,AY,AY,AY]) ?_ ?_
  ·rfl'
   have e0:=ba (n / 2) (b:=3) ∅;have e1:=aZ (n / 2) (b:=3) ∅;refine#[#[∅,∅],∅,⋯,⋯,λD hD=>CompR.by (λi Bd H'=>Same H1 H'/\H' D=AX (.lst Bd)/\∃rs:List zp,Iss K H' (rs.map dR) Bd/\rs.length=i/\∀r ∈ rs,r.1.length<=3/\r.2.length<=3/\(∀x ∈ r.1,x ∈ l)/\∀x ∈ r.2,x ∈ l) #[ze hD,zd,[],by erw[aL,Iss],rfl,λr h=>(nomatch h)] ?_ ?_]
   ·refine nm3 ?_;rintro i Bd H' hi ⟨hs,hH,rs,hI,hrl,hrb⟩:_;have hal:=hI.len;rw[ae]at hal;have hi4:i<5:=⋯;right
    erw[wS]
    rfl'
    refine#[xx,wq (hs.seq hS) hB ⋯ λc3 hc3=>Kv hc3 ⋯ ⋯ ∅ ∅ λo n p ho hn mo mn hp=>#[ze hp _ _ hH,⋯,CNx.mk hi #[zJ (hs.trans (ze hp)) hD,zd,rs ++ [(o,n)],?_,by rw[aj,hrl];rfl,λr hr'=>?_]]]
    ·rw[ay];exact qw hH hI hp zeh (Wm rs) (by erw[zV,xf,and_self])
    ·rcases Bh.mp hr' with h | h
     ·exact hrb r h
     ·rw[Bj.mp h];exact#[by show o.length<=3;lia,by show n.length<=3;lia,mo,mn]
   ·rintro Bd H' ⟨hs,hH,rs,hI,hrl,hrb⟩;exact#[hs,D,#[rs,#[Bd,hH,hI],⋯,hrb],rfl]
  rintro σ H2 ⟨s2,pa,⟨rs,hP,hPG⟩,rfl⟩:_;have hpn:=hPG.n;have hS2:=s2.seq hS;right;refine zj (λσ H'=>H'=H2/\∃w:(),w.length<=5/\(∀c ∈ w,c ∈ l)/\σ=[!!a,~~~!n,~~~l,!!pa,~~~w,AY,AY,AY,AY]) ?_ ?_
  ·rfl'
   exact wq hS2 hB ∅ λc hc=>xo hc ∅ ∅ λz hz=>qv hz ⋯ ⋯ ∅ ∅ λw hw1 hw2=>#[rfl,w,⋯,hw2,rfl]
  rintro σ H3 ⟨rfl,u,hul,hui,rfl⟩:_;right;refine zj (λσ H'=>H'=H3/\∃w:(),w.length<=5/\(∀c ∈ w,c ∈ l)/\σ=[!!a,~~~!n,~~~l,!!pa,~~~u,~~~w,AY,AY,AY]) ?_ ?_
  ·rfl'
   exact wq hS2 hB ∅ λc hc=>xo hc ∅ ∅ λz hz=>qv hz ⋯ ⋯ ∅ ∅ λw hw1 hw2=>#[rfl,w,⋯,hw2,rfl]
  rintro σ H4 ⟨rfl,v0,hvl0,hvi0,rfl⟩:_;right;refine zj (λσ H'=>Same H4 H'/\∃w:(),w.length<=60/\(∀c ∈ w,c ∈ l)/\σ=[!!a,~~~!n,~~~l,!!pa,~~~u,~~~w,AY,AY,AY]) ?_ ?_
  ·rfl'
   refine wq hS2 hB ∅ λc hc=>#[_,rfl,∅,yq (λ_=>?_) λ_=>#[Same.refl _,v0,⋯,hvi0,rfl]];refine#[_,hS2,λp hp=>?_];rw[Yu ns ∅ ∅];have hcb:∀z ∈ (ns.drop (9:Int).toNat).take ((24:Int) - 9).toNat,uD z:=λz hz=>hB z (cu (bp hz));have hcl:((ns.drop (9:Int).toNat).take ((24:Int) - 9).toNat).length<=56:=by rw[aG];exact aM (Nat.min_le_left _ _) ∅
   generalize (ns.drop (9:Int).toNat).take ((24:Int) - 9).toNat=cs at hcb hcl ⊢;have sp:=ze (o:=.lst (cs.map V.int)) hp;exact QU (hP.same sp).is hPG.ok ⋯ ∅ (SqL.of zd) hcb ⋯ λT H6 ss w' hT s6 hL6 hwk hw' hsl _=>zb7 (hP.same (sp.trans s6)).is hPG.ok ⋯ hL6.is ⋯ hwk #[sp.trans s6,w',hw',(Qk (Ul l) (λp hp=>#[λ_=>(hPG.s p hp).2.2.2,λ_=>(hPG.s p hp).2.2.1]) hwk).mp hui,rfl]
  rintro σ H5 ⟨s5,v,hvl,hvi,rfl⟩:_;have hS5:=s5.seq hS2;have hP5:=hP.same s5;have hT5:=hTab.same (s2.trans s5);have hrs:∀p ∈ rs,p.1.length<=60/\p.2.length<=60/\(∀c ∈ p.1,c ∈ l)/\∀c ∈ p.2,c ∈ l:=λp hp=>#[by have:=hPG.s p hp;lia,by have:=hPG.s p hp;lia,(hPG.s p hp).2.2];right;refine zj (λσ H'=>SamT TB H5 H'/\TabOk H' TB lp lq/\∃(p:sq) (s:sB),AnK K H' l rs u v p s/\σ=[!!a,~~~!n,~~~l,!!pa,~~~u,~~~v,!!p,AY,AY]) ?_ ?_
  ·rfl'
   refine wq hS5 hB ∅ λc hc=>#[⋯,λp hp=>?_];have sp:=ze (o:=.tup [.str (tx u),.str (tx v)]) hp;exact#[c,pa,p,rs,u,v,l,rfl,hc,hP5.same sp,⋯,SqT.of zd,hg,hl,hrs,⋯,hvl,hui,hvi,hT5.same sp,λp' H' k l' ws r m sT hT' hl' hm' hG hm hJ=>#[(SamT.of sp).trans sT,hT',p',WX hJ hG hl' hm' hrs hui hm,rfl]]
  rintro σ H6 ⟨s6,hT6,p1,k1,hk1,rfl⟩:_;obtain⟨tp5,htp5,_⟩:=id hT5;have hP6:=hP5.samT s6 htp5;have hS6:SqL K H6 a (ns.map V.int):=s6.seqL htp5 hS5;right;refine zj (λσ H'=>∃(p:sq) (s:sB),AnK K H' l rs u v p s/\AnK K H' l rs u v p1 k1/\σ=[!!a,~~~!n,~~~l,!!pa,~~~u,~~~v,!!p1,!!p,AY]) ?_ ?_
  ·rfl'
   refine wq hS6 hB ∅ λc hc=>#[⋯,λp hp=>?_];have sp:=ze (o:=.tup [.str (tx u),.str (tx v)]) hp;have hT7:=hT6.same sp;obtain⟨tp7,htp7,_⟩:=id hT7;exact#[c,pa,p,rs,u,v,l,rfl,hc,hP6.same sp,⋯,SqT.of zd,hg,hl,hrs,⋯,hvl,hui,hvi,hT7,λp' H' k l' ws r m sT hT' hl' hm' hG hm hJ=>#[p',let #[s,g]:=WX hJ hG hl' hm' hrs hui hm; #[s,g],(hk1.same sp).samT sT htp7,rfl]]
  rintro σ H7 ⟨p2,k2,hk2,hk1,rfl⟩:_;obtain⟨a2,⟨x2,h2⟩,d2⟩:=id hk2;obtain⟨a1,⟨x1,h1⟩,d1⟩:=id hk1;right;refine zj (λσ H'=>Same H7 H'/\σ=[!!a,~~~!n,~~~l,!!pa,~~~u,~~~v,!!p1,!!p2,AY]) ?_ ?_
  ·rfl'
   exact#[⋯,p1,l,rfl,l6,a1,λH' s'=>#[AZ,rfl,ZB #[⋯,p2,l,rfl,l6,a2.same s',λH'' s''=>#[AZ,rfl,ZB (s'.trans s'')]]]]
  rintro σ H8 ⟨s8,rfl⟩:_;right;refine zj (λσ H'=>∃D:sq,H' D=AX (.lst [.str k1,.str k2])/\σ=[!!a,~~~!n,~~~l,!!pa,~~~u,~~~v,!!p1,!!p2,!!D]) ?_ ?_
  ·rfl'
   exact#[_,SqT.of (s8 _ _ h1),_,vM (j:=0) rfl,_,SqT.of (s8 _ _ h2),_,vM (j:=0) rfl,⋯,λp hp=>zd]
  rintro σ H9 ⟨D,hD,rfl⟩:_;right
  rfl'
  have hI:Is K H9 (.lst [.str k1,.str k2]) (.ref D):=by
   erw[Is,Iss]
   exact#[_,_,rfl,SqL.of hD,_,_,rfl,rfl,_,_,rfl,rfl,rfl]
  have hn:∀(t:sB) (Q':VK),Q' (.bl (!(k1 == t || k2 == t))) H9->zeG K AZ (.str t) (.ref D) H9 Q':=λt Q' h=>by
   refine JQ (d:=.str t) hI (by erw[Is]) (by erw[uA,dpD];decide) ?_
   erw[dv,List.any_nil,eqD,Bool.or_false]
   exact h
  have key:(k1 == "alike" || k2 == "alike")=AZ->(k1 == "forms" || k2 == "forms")=Ba/\(k1 == "world" || k2 == "world")=Ba:=λh=>by
   have hE:EqR rs u v:=by
    rw[dD,beq_iff_eq,beq_iff_eq]at h;rcases h with h | h
    ·subst h;rcases d1 with ⟨_,d⟩ | d | ⟨d | d,_⟩
     ·exact d
     all_goals exact absurd d ∅
    ·subst h;rcases d2 with ⟨_,d⟩ | d | ⟨d | d,_⟩
     ·exact d
     all_goals exact absurd d ∅
   have no:∀k,KdS rs u v k->(k == "forms")=Ba/\(k == "world")=Ba:=λk d=>by
    rcases d with ⟨rfl,_⟩ | rfl | ⟨_,d⟩
    ·decide
    ·decide
    ·exact absurd hE d
   rw[(no k1 d1).1,(no k2 d2).1,(no k1 d1).2,(no k2 d2).2];exact#[rfl,rfl]
  refine hn _ _ #[_,rfl,?_]
  cases e:(k1 == "alike" || k2 == "alike")with
  | false=>exact yq (λ_=>q _) λz=>absurd rfl z
  | true =>
   obtain⟨f1,f2⟩:=key e;refine yq (λz=>by cases z) λ_=>hn _ _ #[_,rfl,?_];rw[f1];refine yq (λ_=>hn _ _ ?_) λz=>absurd rfl z;rw[f2];exact q _
end
def FnE(K:so)(x q:sB)(st:sJ)(f:sq):Prop:=∃fd,Fun K x q st f fd
def FnA(K:so)(x:sB)(st:sJ)(f:sq):Prop:=av K si x=AX (AX (.ref f))/\FnE K x x st f
theorem FnA.mk{K:so}{x:sB}{st:sJ}{h:sI}{mg:sB->Option sr}(q:FnA K x st f)(X:K.In h)(G:h.Ns si mg):mg x=AX (.ref f)/\aI K (.ref f)=AZ/\FnE K x x st f:=by
 obtain⟨a,fd,F⟩:=q;exact#[aE X G a,F.kp,fd,F]
theorem YU{us:List sr}(h:us.length=1):∃a,us=[a]:=List.length_eq_one_iff.mp h
theorem vw{us:List sr}(h:us.length=2):∃a0 a1,us=[a0,a1]:=by
 cases us with
 | nil=>cases h
 | cons a r =>
  obtain⟨a1,rfl⟩:=YU (Nat.succ.inj h);exact#[a,a1,rfl]
theorem Zn{us:List sr}(h:us.length=3):∃a0 a1 a2,us=[a0,a1,a2]:=by
 cases us with
 | nil=>cases h
 | cons a r =>
  obtain⟨a1,a2,rfl⟩:=vw (Nat.succ.inj h);exact#[a,a1,a2,rfl]
theorem zaa{us:List sr}(h:us.length=4):∃a0 a1 a2 a3,us=[a0,a1,a2,a3]:=by
 cases us with
 | nil=>cases h
 | cons a r =>
  obtain⟨a1,a2,a3,rfl⟩:=Zn (Nat.succ.inj h);exact#[a,a1,a2,a3,rfl]
theorem ze0{us:List sr}(h:us.length=5):∃a0 a1 a2 a3 a4,us=[a0,a1,a2,a3,a4]:=by
 cases us with
 | nil=>cases h
 | cons a r =>
  obtain⟨a1,a2,a3,a4,rfl⟩:=zaa (Nat.succ.inj h);exact#[a,a1,a2,a3,a4,rfl]
theorem zf0{us:List sr}(h:us.length=6):∃a0 a1 a2 a3 a4 a5,us=[a0,a1,a2,a3,a4,a5]:=by
 cases us with
 | nil=>cases h
 | cons a r =>
  obtain⟨a1,a2,a3,a4,a5,rfl⟩:=ze0 (Nat.succ.inj h);exact#[a,a1,a2,a3,a4,a5,rfl]
theorem zgF{us:List sr}(h:us.length=7):∃a0 a1 a2 a3 a4 a5 a6,us=[a0,a1,a2,a3,a4,a5,a6]:=by
 cases us with
 | nil=>cases h
 | cons a r =>
  obtain⟨a1,a2,a3,a4,a5,a6,rfl⟩:=zf0 (Nat.succ.inj h);exact#[a,a1,a2,a3,a4,a5,a6,rfl]
theorem dfm(P:sy)(w:sC){K:so}{mg:sB->Option sr}(base:sI){CX:CXT}{nm:sB}{ps:List sB}{sp:Sp}(h:zQ P w K mg base CX k f fd ps sp)(m:mg nm=AX (.ref f))(p:aI K (.ref f)=AZ)(b:Binds K fd ps []):Df P w K mg base CX k nm ps [] sp:=#[_,_,h,m,p,b]
local macro_rules | `(tactic| injections)=>`(tactic| (intro _ _ _ _ _ _ us hl;first | (obtain⟨_,e⟩:=YU hl;subst e;rfl) | (obtain⟨_,_,e⟩:=vw hl;subst e;rfl) | (obtain⟨_,_,_,e⟩:=Zn hl;subst e;rfl) | (obtain⟨_,_,_,_,e⟩:=zaa hl;subst e;rfl) | (obtain⟨_,_,_,_,_,e⟩:=ze0 hl;subst e;rfl) | (obtain⟨_,_,_,_,_,_,e⟩:=zf0 hl;subst e;rfl)))
local macro_rules | `(nofun)=>`(by injections)
theorem all_mk{l:PySem.W.OpenLaw}{w:sC}{K:so}{h:sI}{mg:sB->Option sr}{fa f0 f1 f2 f3 f4 f5 f6 f7 f8 f9 f10 f11 f12 f13 f14 f15 f16 f17 f18 f19 f20 f21 f22 f23 f24 f25 f26 f27 f28 f29 f30 f31 f32 f33 f34 f35 f36 f37 f38 f39 f40 f41 f42 f43 f44 f45 f46 f47 f48 f49 f50 f51 f52 f53 f54 f55 f56 pN gn gu gf ge gd gh gk gy gm gv gg gw:sq}{cc TB:sq}(X:K.In h)(G:h.Ns si mg)(hfa:mg "law" = AX (.ref fa))(hlam:∃a o fd,mg "in_order" = AX (.ref a)/\h.get? a=AX o/\o.data=.func fd/\fd.code=.ref cc)(hgT:si≠TB)
{od6 an6 od12 an12 od34 an34 od56 an56:Option sq}{sl6 sl12 sl34 sl56:Array (Option sr)}{oc6 kV6 dc6 pm6 cd6 ct6 oc12 kV12 dc12 pm12 cd12 ct12 oc34 kV34 dc34 pm34 cd34 ct34 oc56 kV56 dc56 pm56 cd56 ct56:sr}
  {t6 t7:Aa}
  {fI:sq}
  {odI anI:Option sq}
  {slI:Array (Option sr)}
  {ocI kVI dcI pmI cdI ctI:sr}
  {t8:Aa}
  {fU:sq}
  {odU anU:Option sq}
  {slU:Array (Option sr)}
  {ocU kVU dcU pmU cdU ctU:sr}
  {t9:Aa}
  {tmt:Aa}
  {tmu tms tmd tmp:Aa}
  {tcu tce tcd tcp:Aa}
  {tju tjs:Aa}
  {gN:sq}
  {ij:sq}
  {iJ:sq}
  {ir:sq}
  {iu:sq}
  {gX:sq}
  {gP:sq}
  {gB:sq}
  {lw:sq}
  {gG:sq}
  {lL:sq}
  {lx:sq}
  {mx:sq}
  {iQ:sq}
  {iR:sq}
  {oj:sq}
  {iO:Aa}
  {d1_gone:sr}
  {d2_gone:Option sq}
  {d3_gone:Nat}
  {d4_gone:Array (Option sr)}
  {nk:sq}
  {nj:Aa}
  {d1_unmet:sr}
  {d2_unmet:Option sq}
  {d3_unmet:Nat}
  {d4_unmet:Array (Option sr)}
  (a0:FnA K "is_small_letter" yS f0)
  (a1:FnA K "letters_of" wU f1)
  (a2:FnA K "stands_at" vP f2)
  (a3:FnA K "put" zbD f3)
  (a4:FnA K "first_within" xO f4)
  (a5:FnA K "first_from" wV f5)
  (a6:av K si "gone" = AX (AX (.ref f6))) (l6:K.lookup f6=AX #[oc6,od6,.func (bu "gone" "gone" (yJ vD) (yg vD) (zh vD) (.ref oj) kV6 dc6 pm6 an6 cd6 ct6),sl6]) (k6:bR K cd6 "gone" = AZ) (p6:aI K (.ref f6)=AZ)
  (a7:FnA K "back" W7 f7)
  (a8:FnA K "moved" Zv f8)
  (a9:FnA K "by_pacts" uZ f9)
  (a10:FnA K "pairs_of" vf f10)
  (a11:FnA K "as_rule" jA f11)
  (a12:av K si "in_order" = AX (AX (.ref f12))) (l12:K.lookup f12=AX #[oc12,od12,.func (bu "in_order" "in_order" (yJ yC) (yg yC) (zh yC) .none kV12 dc12 pm12 an12 cd12 ct12),sl12]) (k12:bR K cd12 "in_order" = AZ) (p12:aI K (.ref f12)=AZ)
  (a13:FnA K "brought_down" xK f13)
  (a14:FnA K "refuse_beyond" xu f14)
  (a15:FnA K "built_anew" va f15)
  (a16:FnA K "thinned" qM f16)
  (a17:FnA K "_law_cell" V0 f17)
  (a18:FnA K "_law_mixed" YW f18)
  (a19:FnA K "_law_letters" qP f19)
  (a20:FnA K "_law_word" V8 f20)
  (a21:FnA K "_law_pair" QW f21)
  (a22:FnA K "_law_whole" YX f22)
  (a23:FnA K "_law_steps" Xa f23)
  (a24:FnA K "_law_used" VV f24)
  (a25:FnA K "_law_uses" UJ f25)
  (a26:FnA K "_law_chain" Y4 f26)
  (a27:FnA K "_law_end" zb9 f27)
  (a28:FnA K "_law_order" XO f28)
  (a29:FnA K "agree" Xt f29)
  (a30:FnA K "overlaps" u7 f30)
  (a31:FnA K "peak" Qx f31)
  (a32:FnA K "form_of" jE f32)
  (a33:FnA K "is_met" Zc f33)
  (a34:av K si "unmet" = AX (AX (.ref f34))) (l34:K.lookup f34=AX #[oc34,od34,.func (bu "unmet" "unmet" (yJ xF) (yg xF) (zh xF) (.ref nk) kV34 dc34 pm34 an34 cd34 ct34),sl34]) (k34:bR K cd34 "unmet" = AZ) (p34:aI K (.ref f34)=AZ)
  (a35:FnA K "system_by" vI f35)
  (a36:FnA K "first_entries" yH f36)
  (a37:FnA K "is_beyond" wb f37)
  (a38:FnA K "thinned_within" yZ f38)
  (a39:FnA K "unmet_within" xN f39)
  (a40:FnA K "entry_of" uB f40)
  (a41:FnA K "completed" wk f41)
  (a42:FnA K "table_of" vo f42)
  (a43:FnA K "table_count" wa f43)
  (a44:FnA K "tables_within" xm f44)
  (a45:FnA K "table_at" vq f45)
  (a46:FnA K "tells_apart" xY f46)
  (a47:FnA K "world_apart" wl f47)
  (a48:FnA K "gone_within" wv f48)
  (a49:FnA K "judged_by_roads" yP f49)
  (a50:FnA K "judged_by_worlds" yI f50)
  (a51:FnA K "judged" Zp f51)
  (a52:FnA K "_law_entries" jg f52)
  (a53:FnA K "_law_table_ok" vt f53)
  (a54:FnA K "_law_answer" Za f54)
  (a55:FnA K "_law_asked" ZT f55)
  (a56:av K si "law" = AX (AX (.ref f56))) (l56:K.lookup f56=AX #[oc56,od56,.func (bu "law" "law" (yJ jX) (yg jX) (zh jX) .none kV56 dc56 pm56 an56 cd56 ct56),sl56]) (k56:bR K cd56 "law" = AZ) (p56:aI K (.ref f56)=AZ)
  (g_LetterError:av K si "LetterError" = AX (AX (.ref pN)))
  (g_NoLetters:av K si "NoLetters" = AX (AX (.ref gn)))
  (g_NoOrder:av K si "NoOrder" = AX (AX (.ref gu)))
  (g_Order:av K si "Order" = AX (AX (.ref gf)))
  (g_FromRight:av K si "FromRight" = AX (AX (.ref ge)))
  (g_ByWeights:av K si "ByWeights" = AX (AX (.ref gd)))
  (g_NotTurned:av K si "NotTurned" = AX (AX (.ref gh)))
  (g_System:av K si "System" = AX (AX (.ref gk)))
  (g_NoUse:av K si "NoUse" = AX (AX (.ref gy)))
  (g_TooFar:av K si "TooFar" = AX (AX (.ref gm)))
  (g_NoWorld:av K si "NoWorld" = AX (AX (.ref gv)))
  (g_World:av K si "World" = AX (AX (.ref gg)))
  (g_TooMany:av K si "TooMany" = AX (AX (.ref gw)))
  (kbb:aO K (.type "bool") (.type "bool")=AX AZ)
  (kt:aO K (.type "tuple") (.type "tuple")=AX AZ)
  (ki:aO K (.type "int") (.type "int")=AX AZ)
  (kb:aO K (.type "int") (.type "bool")=AX Ba)
  (kl:aO K (.type "list") (.type "list")=AX AZ)
  (XIl:XI K gn)
  (xi:af K (.ref gn) "__init__" = AX (AX (.builtin "ValueError.__init__")))
  (XIo:XI K gu)
  (yi:af K (.ref gu) "__init__" = AX (AX (.builtin "ValueError.__init__")))
  (most:av K si "MOST_LETTERS" = AX (AX (.int 6 t6)))
  (mostw:av K si "MOST_WEIGHT" = AX (AX (.int 1000000 t7)))
  (oG:bM K gf d5=AZ)
  (oH:bT K gf=AZ)
  (oJ:cw K gf=AZ)
  (oK:af K (.ref gf) "__setattr__" = AX (AX (.builtin "object.__setattr__")))
  (oM:cC K gf=AZ)
  (oN:aI K (.ref gf)=AZ)
  (oO:af K (.ref gf) "letters" = AX AY)
  (ra:aO K (.ref gf) (.ref gf)=AX AZ)
  (rb:af K (.ref gf) "__class__" = AX (AX (.builtin "object.__class__")))
  (re:bC K gf (.type "object")=AX AZ)
  (my:bM K ge d5=AZ)
  (mz:bT K ge=AZ)
  (mB:cw K ge=AZ)
  (mC:af K (.ref ge) "__setattr__" = AX (AX (.builtin "object.__setattr__")))
  (mD:cC K ge=AZ)
  (mE:aI K (.ref ge)=AZ)
  (mF:af K (.ref ge) "letters" = AX AY)
  (nO:aO K (.ref ge) (.ref gf)=AX AZ)
  (nP:af K (.ref ge) "__class__" = AX (AX (.builtin "object.__class__")))
  (nQ:bC K ge (.type "object")=AX AZ)
  (mG:bM K gd d5=AZ)
  (mH:bT K gd=AZ)
  (mI:cw K gd=AZ)
  (mJ:af K (.ref gd) "__setattr__" = AX (AX (.builtin "object.__setattr__")))
  (mK:cC K gd=AZ)
  (mL:aI K (.ref gd)=AZ)
  (mM:af K (.ref gd) "letters" = AX AY)
  (nR:aO K (.ref gd) (.ref gf)=AX AZ)
  (nS:af K (.ref gd) "__class__" = AX (AX (.builtin "object.__class__")))
  (nU:bC K gd (.type "object")=AX AZ)
  (nw_ByWeights:af K (.ref gd) "weights" = AX AY)
  (sgO:cF K (.ref gf) "__getattribute__" = AX (AX (.builtin "type.__getattribute__")))
  (rdO:fX K gf (.type "type")=AZ)
  (win:av K si "WINDOW" = AX (AX (.int 128 t8)))
  (XIt:XI K gh)
  (nn:af K (.ref gh) "number" = AX AY)
  (ini:af K (.ref gh) "__init__" = AX (AX (.ref fI)))
  (lI:K.lookup fI=AX #[ocI,odI,.func (bu "__init__" "NotTurned.__init__" (yJ zZ) (yg zZ) (zh zZ) .none kVI dcI pmI anI cdI ctI),slI])
  (kI:bR K cdI "NotTurned.__init__" = AZ)
  (pI:aI K (.ref fI)=AZ)
  (fnI:aR K (.ref fI)=AZ)
  (nV:bM K gk d5=AZ)
  (nW:bT K gk=AZ)
  (nX:cw K gk=AZ)
  (nY:af K (.ref gk) "__setattr__" = AX (AX (.builtin "object.__setattr__")))
  (nZ:cC K gk=AZ)
  (oa:aI K (.ref gk)=AZ)
  (no_System:af K (.ref gk) "order" = AX AY)
  (nr_System:af K (.ref gk) "rules" = AX AY)
  (XIu:XI K gy)
  (ua:af K (.ref gy) "at" = AX AY)
  (iniU:af K (.ref gy) "__init__" = AX (AX (.ref fU)))
  (lU:K.lookup fU=AX #[ocU,odU,.func (bu "__init__" "NoUse.__init__" (yJ yD) (yg yD) (zh yD) .none kVU dcU pmU anU cdU ctU),slU])
  (kU:bR K cdU "NoUse.__init__" = AZ)
  (pU:aI K (.ref fU)=AZ)
  (fnU:aR K (.ref fU)=AZ)
  (XIf:XI K gm)
  (vi:af K (.ref gm) "__init__" = AX (AX (.builtin "ValueError.__init__")))
  (sFF:cT K (.ref gm) (.ref gm)=AX AZ)
  (XIq:XI K gv)
  (nwi:af K (.ref gv) "__init__" = AX (AX (.builtin "ValueError.__init__")))
  (mostr:av K si "MOST_ROOMS" = AX (AX (.int 8 t9)))
  (oP:bM K gg d5=AZ)
  (oQ:bT K gg=AZ)
  (oR:cw K gg=AZ)
  (oS:af K (.ref gg) "__setattr__" = AX (AX (.builtin "object.__setattr__")))
  (oU:cC K gg=AZ)
  (oV:aI K (.ref gg)=AZ)
  (oW:af K (.ref gg) "letters" = AX AY)
  (nt_World:af K (.ref gg) "table" = AX AY)
  (XIm:XI K gw)
  (wi:af K (.ref gw) "__init__" = AX (AX (.builtin "ValueError.__init__")))
  (mostt:av K si "MOST_TABLES" = AX (AX (.int 1000 tmt)))
  (ks:aO K (.type "str") (.type "str")=AX AZ)
  (nany:av K si "any" = AX AY)
  (nsorted:av K si "sorted" = AX AY)
  (mou:av K si "MOST_USES_thinning" = AX (AX (.int 40 tmu)))
  (mos:av K si "MOST_STEPS_thinning" = AX (AX (.int 240 tms)))
  (mod_:av K si "MOST_SIDE_thinning" = AX (AX (.int 60 tmd)))
  (mop:av K si "MOST_PASSES" = AX (AX (.int 20 tmp)))
  (mcu:av K si "MOST_USES_completing" = AX (AX (.int 40 tcu)))
  (mce:av K si "MOST_ENTRIES" = AX (AX (.int 12 tce)))
  (mcd:av K si "MOST_SIDE_completing" = AX (AX (.int 10 tcd)))
  (mcp:av K si "MOST_PEAKS" = AX (AX (.int 8 tcp)))
  (mju:av K si "MOST_USES_judging" = AX (AX (.int 40 tju)))
  (mjs:av K si "MOST_STEPS_judging" = AX (AX (.int 2000 tjs)))
  (lM:af K (.ref gf) "__init__" = AX (AX (.ref gN)))
  (lN:FnE K "__init__" "Order.__init__" wQ gN)
  (iK:aR K (.ref gN)=AZ)
  (iS:af K (.ref gf) "weight" = AX (AX (.ref ij)))
  (iT:FnE K "weight" "Order.weight" xE ij)
  (ik:aR K (.ref ij)=AZ)
  (lP:af K (.ref gf) "seen" = AX (AX (.ref iJ)))
  (lQ:FnE K "seen" "Order.seen" wD iJ)
  (iL:aR K (.ref iJ)=AZ)
  (iw:af K (.ref ge) "seen" = AX (AX (.ref ir)))
  (iA:FnE K "seen" "FromRight.seen" y0 ir)
  (iB:aR K (.ref ir)=AZ)
  (iC:af K (.ref gd) "__init__" = AX (AX (.ref iu)))
  (iD:FnE K "__init__" "ByWeights.__init__" y8 iu)
  (iE:aR K (.ref iu)=AZ)
  (gY:af K (.ref gd) "weight" = AX (AX (.ref gX)))
  (gZ:FnE K "weight" "ByWeights.weight" yn gX)
  (ic:aR K (.ref gX)=AZ)
  (lS:af K (.ref gf) "rank" = AX (AX (.ref gP)))
  (lT:FnE K "rank" "Order.rank" xw gP)
  (gQ:aR K (.ref gP)=AZ)
  (iU:af K (.ref gf) "before" = AX (AX (.ref gB)))
  (iV:FnE K "before" "Order.before" xD gB)
  (gC:aR K (.ref gB)=AZ)
  (ly:af K (.ref gk) "__init__" = AX (AX (.ref lw)))
  (lA:FnE K "__init__" "System.__init__" wf lw)
  (lB:aR K (.ref lw)=AZ)
  (gH:af K (.ref gk) "rules_told" = AX (AX (.ref gG)))
  (gJ:FnE K "rules_told" "System.rules_told" yA gG)
  (gK:aR K (.ref gG)=AZ)
  (lV:af K (.ref gg) "__init__" = AX (AX (.ref lL)))
  (lX:FnE K "__init__" "World.__init__" ve lL)
  (lY:aR K (.ref lL)=AZ)
  (lC:af K (.ref gg) "rooms" = AX (AX (.ref lx)))
  (lD:FnE K "rooms" "World.rooms" wu lx)
  (lE:aR K (.ref lx)=AZ)
  (mN:af K (.ref gg) "led" = AX (AX (.ref mx)))
  (mP:FnE K "led" "World.led" vN mx)
  (mQ:aR K (.ref mx)=AZ)
  (iW:af K (.ref gg) "parted" = AX (AX (.ref iQ)))
  (iX:FnE K "parted" "World.parted" xI iQ)
  (iY:aR K (.ref iQ)=AZ)
  (iZ:af K (.ref gg) "broken" = AX (AX (.ref iR)))
  (la:FnE K "broken" "World.broken" xP iR)
  (lb:aR K (.ref iR)=AZ)
  (om:K.lookup oj=AX #[d1_gone,d2_gone,.seq #[.int 4000 iO] d3_gone,d4_gone])
  (nq:K.lookup nk=AX #[d1_unmet,d2_unmet,.seq #[.int 4000 nj] d3_unmet,d4_unmet])
  (fcO:fY K (.ref gf) (.type "type") "__init__" = AX (.val (.ref gN)))
  (fiR_init:af K (.ref ge) "__init__" = AX (AX (.ref gN)))
  (fiR_weight:af K (.ref ge) "weight" = AX (AX (.ref ij)))
  (fiW_seen:af K (.ref gd) "seen" = AX (AX (.ref iJ)))
  (fiR_rank:af K (.ref ge) "rank" = AX (AX (.ref gP)))
  (fiW_rank:af K (.ref gd) "rank" = AX (AX (.ref gP)))
  (fiR_before:af K (.ref ge) "before" = AX (AX (.ref gB)))
  (fiW_before:af K (.ref gd) "before" = AX (AX (.ref gB)))
  (b0:av K si "len" = AX AY)
  (b1:av K si "range" = AX AY)
  (b2:av K si "isinstance" = AX AY)
  (b3:av K si "str" = AX AY)
  (b4:av K si "int" = AX AY)
  (b5:av K si "tuple" = AX AY)
  (b6:av K si "list" = AX AY)
  (b7:av K si "bool" = AX AY)
  (b8:av K si "enumerate" = AX AY)
  (b9:av K si "all" = AX AY)
  (b10:av K si "ValueError" = AX AY)
  (b11:av K si "max" = AX AY)
  (b12:av K si "reversed" = AX AY)
  (b13:av K si "zip" = AX AY)
  (b14:av K si "sum" = AX AY)
  (b15:av K si "sorted" = AX AY)
  : ∃fd:sv,(∀(s:su) (v:sr),Av s fd #[[v],[]] [("_law_script",v)])/\∀base:sI,K.In base->base.Ns si mg->base.BuiltinsAt mg TB->PySem.W.CodeHd base cc TB->zQ l.prog w K mg base CX0 13 fa fd ["_law_script"] (Wa K TB):=by
 have e:=hfa.symm.trans (aE X G a56);cases e;have B:Bt mg:=#[aN X G b0,aN X G b1,aN X G b2,aN X G b3,aN X G b4,aN X G b5,aN X G b6,aN X G b7,aN X G b8,aN X G b9,aN X G b10,aN X G b11,aN X G b12,aN X G b13,aN X G b14,aN X G b15];obtain⟨M0,p0,_,F0⟩:=a0.mk X G;obtain⟨M1,p1,_,F1⟩:=a1.mk X G;have B1:=F1.binds (ps:=["text"]) nofun;obtain⟨M2,p2,_,F2⟩:=a2.mk X G;obtain⟨M3,p3,_,F3⟩:=a3.mk X G;obtain⟨M4,p4,_,F4⟩:=a4.mk X G;obtain⟨M5,p5,_,F5⟩:=a5.mk X G;have F6:FunD K "gone" "gone" vD (.ref oj) f6 (bu "gone" "gone" (yJ vD) (yg vD) (zh vD) (.ref oj) kV6 dc6 pm6 an6 cd6 ct6):=⟨#[_,_,_,_,_,_,_,_,_,rfl,l6,k6]⟩;have M6:=aE X G a6;obtain⟨M7,p7,_,F7⟩:=a7.mk X G;obtain⟨M8,p8,_,F8⟩:=a8.mk X G;obtain⟨M9,p9,_,F9⟩:=a9.mk X G;obtain⟨M10,p10,_,F10⟩:=a10.mk X G;obtain⟨M11,p11,_,F11⟩:=a11.mk X G;have F12:=fun_mk (st:=yC) l12 k12 p12;have M12:=aE X G a12;obtain⟨M13,p13,_,F13⟩:=a13.mk X G;obtain⟨M14,p14,_,F14⟩:=a14.mk X G;obtain⟨M15,p15,_,F15⟩:=a15.mk X G;obtain⟨M16,p16,_,F16⟩:=a16.mk X G;obtain⟨M17,p17,_,F17⟩:=a17.mk X G;obtain⟨M18,p18,_,F18⟩:=a18.mk X G;obtain⟨M19,p19,_,F19⟩:=a19.mk X G;obtain⟨M20,p20,_,F20⟩:=a20.mk X G;obtain⟨M21,p21,_,F21⟩:=a21.mk X G;obtain⟨M22,p22,_,F22⟩:=a22.mk X G;obtain⟨M23,p23,_,F23⟩:=a23.mk X G;obtain⟨M24,p24,_,F24⟩:=a24.mk X G;obtain⟨M25,p25,_,F25⟩:=a25.mk X G;obtain⟨M26,p26,_,F26⟩:=a26.mk X G;obtain⟨M27,p27,_,F27⟩:=a27.mk X G;obtain⟨M28,p28,_,F28⟩:=a28.mk X G;obtain⟨M29,p29,_,F29⟩:=a29.mk X G;obtain⟨M30,p30,_,F30⟩:=a30.mk X G;obtain⟨M31,p31,_,F31⟩:=a31.mk X G;obtain⟨M32,p32,_,F32⟩:=a32.mk X G;obtain⟨M33,p33,_,F33⟩:=a33.mk X G;have F34:FunD K "unmet" "unmet" xF (.ref nk) f34 (bu "unmet" "unmet" (yJ xF) (yg xF) (zh xF) (.ref nk) kV34 dc34 pm34 an34 cd34 ct34):=⟨#[_,_,_,_,_,_,_,_,_,rfl,l34,k34]⟩;have M34:=aE X G a34;obtain⟨M35,p35,_,F35⟩:=a35.mk X G;obtain⟨M36,p36,_,F36⟩:=a36.mk X G;obtain⟨M37,p37,_,F37⟩:=a37.mk X G;obtain⟨M38,p38,_,F38⟩:=a38.mk X G;obtain⟨M39,p39,_,F39⟩:=a39.mk X G;obtain⟨M40,p40,_,F40⟩:=a40.mk X G;obtain⟨M41,p41,_,F41⟩:=a41.mk X G;obtain⟨M42,p42,_,F42⟩:=a42.mk X G;obtain⟨M43,p43,_,F43⟩:=a43.mk X G;obtain⟨M44,p44,_,F44⟩:=a44.mk X G;obtain⟨M45,p45,_,F45⟩:=a45.mk X G;obtain⟨M46,p46,_,F46⟩:=a46.mk X G;obtain⟨M47,p47,_,F47⟩:=a47.mk X G;obtain⟨M48,p48,_,F48⟩:=a48.mk X G;obtain⟨M49,p49,_,F49⟩:=a49.mk X G;obtain⟨M50,p50,_,F50⟩:=a50.mk X G;obtain⟨M51,p51,_,F51⟩:=a51.mk X G;obtain⟨M52,p52,_,F52⟩:=a52.mk X G;obtain⟨M53,p53,_,F53⟩:=a53.mk X G;obtain⟨M54,p54,_,F54⟩:=a54.mk X G;obtain⟨M55,p55,_,F55⟩:=a55.mk X G;have F56:=fun_mk (st:=jX) l56 k56 p56;have B56:=F56.binds (ps:=["_law_script"]) nofun;have M56:=aE X G a56
 have HCC:cd12=.ref cc:=by
  obtain⟨ai,oi,fdi,m1,m2,m3,m4⟩:=hlam;have e1:=m1.symm.trans (aE X G a12);cases e1;have e2:=m2.symm.trans (X _ _ l12);cases e2;cases m3;exact m4
 refine#[bu "law" "law" (yJ jX) (yg jX) (zh jX) .none kV56 dc56 pm56 an56 cd56 ct56,λs v=>.of_eq rfl,λbase _ _ HBT HCH=>?_];have TL:zgg K mg gn:=#[XIl,xi,aE X G g_NoLetters,t6,aE X G most];have TN:zfX K mg gu:=#[XIo,yi,aE X G g_NoOrder,t7,aE X G mostw];have TO:TOrd K mg gf ge gd:=#[#[oG,oH,oJ,oK],#[my,mz,mB,mC],#[mG,mH,mI,mJ],aE X G g_Order,aE X G g_FromRight,aE X G g_ByWeights,oO,mF,mM,nw_ByWeights];have TNt:TNT K mg gh:=#[XIt,aE X G g_NotTurned,nn];have FI:=fun_mk (st:=zZ) lI kI pI;have BI:=FI.binds (ps:=["self","number"]) nofun;have TD:DNT l.prog w K mg base gh:=#[TNt,_,_,ini,fnI,uJ TNt FI,BI];have TS:zdL K mg gk:=#[#[nV,nW,nX,nY],aE X G g_System,no_System,nr_System];have TWi:zf4 mg:=#[t8,aE X G win];have TNu:TNU K mg gy:=#[XIu,aE X G g_NoUse,ua];have FU:=fun_mk (st:=yD) lU kU pU;have BU:=FU.binds (ps:=["self","at"]) nofun;have TUd:DNU l.prog w K mg base gy:=#[TNu,_,_,iniU,fnU,ZH TNu FU,BU];have TF:zbP K mg gm:=#[XIf,vi,aE X G g_TooFar];have TNw:zc4 K mg gv:=#[XIq,nwi,aE X G g_NoWorld,t9,aE X G mostr];have CLw:zau K mg gg:=#[#[oP,oQ,oR,oS],aE X G g_World,oW,nt_World];have TM:JV K mg gw:=#[XIm,wi,aE X G g_TooMany,tmt,aE X G mostt];have TMk:TMo mg:=#[#[tmu,aE X G mou],#[tms,aE X G mos],#[tmd,aE X G mod_],#[tmp,aE X G mop]];have TMcc:TMc mg:=#[#[tcu,aE X G mcu],#[tce,aE X G mce],#[tcd,aE X G mcd],#[tcp,aE X G mcp]];have TMjj:TMj mg:=#[#[tju,aE X G mju],#[tjs,aE X G mjs]];have D0:=dfm l.prog w base (J7 F0) M0 p0 (F0.binds nofun);have D1:=dfm l.prog w base (kT B TL F1 D0) M1 p1 B1;have D2:=dfm l.prog w base (Yc B F2) M2 p2 (F2.binds nofun);have D3:=dfm l.prog w base (zdY B TUd F3 D2) M3 p3 (F3.binds nofun);obtain⟨_,gT⟩:=lN;have pO:=gT.kp;have lZ:=gT.binds (ps:=["self","letters"]) nofun;have pP:DMk l.prog w K mg base CX0 3 gf ["self","letters"] (qC K):=#[_,_,#[oM,lM,iK,oN],wc B gT D1,lZ];have DI:DOI l.prog w K mg base gf:=#[_,_,#[sgO,rdO,fcO,pO],wc B gT D1,lZ];obtain⟨_,il⟩:=iT;have mV:=il.kp;have mX:=il.binds (ps:=["self","word"]) nofun;have pc:DM l.prog w K mg base CX0 1 gf "weight" ["self","word"] kN:=#[_,_,#[iS,ik,mV],wL B il,mX];obtain⟨_,iM⟩:=lQ;have nB:=iM.kp;have nC:=iM.binds (ps:=["self","word"]) nofun;have pQ:DM l.prog w K mg base CX0 1 gf "seen" ["self","word"] WE:=#[_,_,#[lP,iL,nB],uz B iM,nC];obtain⟨_,iF⟩:=iA;have oq:=iF.kp;have ot:=iF.binds (ps:=["self","word"]) nofun;have ou:DM l.prog w K mg base CX0 1 ge "seen" ["self","word"] XD:=#[_,_,#[iw,iB,oq],uT B iF,ot];obtain⟨_,iG⟩:=iD;have rL:=iG.kp;have ow:=iG.binds (ps:=["self","letters","weights"]) nofun;have oy:DMk l.prog w K mg base (CXx l.prog w) 4 gd ["self","letters","weights"] (ZP K gd):=#[_,_,#[mK,iC,iE,mL],uF B TO TN DI iG,ow];obtain⟨_,ie⟩:=gZ;have nE:=ie.kp;have nF:=ie.binds (ps:=["self","word"]) nofun;have nG:DM l.prog w K mg base CX0 1 gd "weight" ["self","word"] (Y7 gd):=#[_,_,#[gY,ic,nE],vJ B TO ie,nF];have TT:TWS l.prog w K mg base gf ge gd:=#[TO,pP,#[_,_,#[mD,fiR_init,iK,mE],wc B gT D1,lZ],oy,pc,#[_,_,#[fiR_weight,ik,mV],wL B il,mX],nG,pQ,ou,#[_,_,#[fiW_seen,iL,nB],uz B iM,nC]];obtain⟨_,gU⟩:=lT;have md:=gU.kp;have mf:=gU.binds (ps:=["self","word"]) nofun;have pR:DM l.prog w K mg base CX0 2 gf "rank" ["self","word"] (jC gf ge gd):=#[_,_,#[lS,gQ,md],ww B TT gU,mf];have DRk:DR l.prog w K mg base gf ge gd:=⟨λC h=>by rcases h with e | e | e; (rw[e];exact#[TO.cO,pR]); (rw[e];exact#[TO.cR,#[_,_,#[fiR_rank,gQ,md],ww B TT gU,mf]]); (rw[e];exact#[TO.cW,#[_,_,#[fiW_rank,gQ,md],ww B TT gU,mf]])⟩;obtain⟨_,gD⟩:=iV;have lc:=gD.kp;have lg:=gD.binds (ps:=["self","one","other"]) nofun;have pf:DM l.prog w K mg base CX0 3 gf "before" ["self","one","other"] (Q2 gf ge gd):=#[_,_,#[iU,gC,lc],xp B DRk gD,lg];have DBk:DB l.prog w K mg base gf ge gd:=⟨λC h=>by rcases h with e | e | e; (rw[e];exact#[TO.cO,pf]); (rw[e];exact#[TO.cR,#[_,_,#[fiR_before,gC,lc],xp B DRk gD,lg]]); (rw[e];exact#[TO.cW,#[_,_,#[fiW_before,gC,lc],xp B DRk gD,lg]])⟩;have D4:=dfm l.prog w base (qT B F4) M4 p4 (F4.binds nofun);have D5:=dfm l.prog w base (ZA B TWi F5 D4) M5 p5 (F5.binds nofun);have O6:=zbG (P:=l.prog) (w:=w) (base:=base) B TF TUd F6 D5 D3;have D6:Df l.prog w K mg base (CXx l.prog w) 4 "gone" ["rules","word","most"] [] (xM K gm):=#[_,_,O6,M6,p6,λs us hK hl=>by obtain⟨_,_,_,rfl⟩:=Zn (us:=us) (by simpa using hl);exact BindsTo.of_defaults rfl (hK _ _ om) rfl rfl rfl];have D6d:Df l.prog w K mg base (CXx l.prog w) 4 "gone" ["rules","word","most"] [.int 4000 iO] (xM K gm):=#[_,_,O6,M6,p6,λs us hK hl=>by obtain⟨_,_,rfl⟩:=vw (us:=us) (by simpa using hl);exact BindsTo.of_defaults rfl (hK _ _ om) rfl rfl rfl];have D7:=dfm l.prog w base (zcm B F7) M7 p7 (F7.binds nofun);have D8:=dfm l.prog w base (KL B F8) M8 p8 (F8.binds nofun);have D9:=dfm l.prog w base (Xh B F9 D8 D7) M9 p9 (F9.binds nofun);have D10:=dfm l.prog w base (Xv B F10) M10 p10 (F10.binds nofun);have D11:=dfm l.prog w base (Vh B DBk F11 D7) M11 p11 (F11.binds nofun);have D12:=dfm l.prog w base (Xe B DRk (aN X G nsorted) HCH HBT hgT F12 HCC D11) M12 p12 (F12.binds nofun);have D13:=dfm l.prog w base (ji B TMk F13 D10 D6 D6d D9 D7) M13 p13 (F13.binds nofun);have D14:=dfm l.prog w base (qo B TF TMk F14) M14 p14 (F14.binds nofun);have D15:=dfm l.prog w base (Zl B F15 D13 D14 D11) M15 p15 (F15.binds nofun);have D16:=dfm l.prog w base (Vy B TF TMk F16 D12 D15 D10) M16 p16 (F16.binds nofun);have D17:=dfm l.prog w base (zbw B F17) M17 p17 (F17.binds nofun);have D18:=dfm l.prog w base (K1 B F18) M18 p18 (F18.binds nofun);have D19:=dfm l.prog w base (VE B F19 D18) M19 p19 (F19.binds nofun);have D20:=dfm l.prog w base (zca B F20) M20 p20 (F20.binds nofun);have D21:=dfm l.prog w base (zcE B F21 D20 D18) M21 p21 (F21.binds nofun);have D22:=dfm l.prog w base (KD B #[ki,kb] F22) M22 p22 (F22.binds nofun);have D23:=dfm l.prog w base (KH B #[kl,kt,kbb] F23 D22) M23 p23 (F23.binds nofun);have D24:=dfm l.prog w base (zcq B F24) M24 p24 (F24.binds nofun);have D25:=dfm l.prog w base (zbN B F25 D24) M25 p25 (F25.binds nofun);have D26:=dfm l.prog w base (J8 B F26 D25 D24 D18) M26 p26 (F26.binds nofun);have D27:=dfm l.prog w base (zdg B F27 D24) M27 p27 (F27.binds nofun);have D28:=dfm l.prog w base (Kr B TT F28) M28 p28 (F28.binds nofun);obtain⟨_,lF⟩:=lA;have rT:=lF.kp;have pE:=lF.binds (ps:=["self","order","rules"]) nofun;have pF:DMk l.prog w K mg base (CXx l.prog w) 5 gk ["self","order","rules"] (qI K gf ge gd gh gk):=#[_,_,#[nZ,ly,lB,oa],jV B TD TS DBk lF,pE];have MS:MkS l.prog w K mg base gf ge gd gh gk:=pF;have D29:=dfm l.prog w base (Ke B F29) M29 p29 (F29.binds nofun);have D30:=dfm l.prog w base (Xl B F30 D29) M30 p30 (F30.binds nofun);have D31:=dfm l.prog w base (zbf B F31 D3) M31 p31 (F31.binds nofun);have D32:=dfm l.prog w base (VI B F32 D6 D6d) M32 p32 (F32.binds nofun);have D33:=dfm l.prog w base (Uy B F33 D31 D32) M33 p33 (F33.binds nofun);obtain⟨_,gL⟩:=gJ;have nv:=gL.kp;have nw:=gL.binds (ps:=["self"]) nofun;have ny:DM l.prog w K mg base CX0 1 gk "rules_told" ["self"] (Zx K gk):=#[_,_,#[gH,gK,nv],vz B TS gL,nw];have O34:=K4 (P:=l.prog) (w:=w) (base:=base) B TS F34 D30 D33 ny;have D34:Df l.prog w K mg base (CXx l.prog w) 7 "unmet" ["system","most"] [] (vX K gk gm):=#[_,_,O34,M34,p34,λs us hK hl=>by obtain⟨_,_,rfl⟩:=vw (us:=us) (by simpa using hl);exact BindsTo.of_defaults rfl (hK _ _ nq) rfl rfl rfl];have D34d:Df l.prog w K mg base (CXx l.prog w) 7 "unmet" ["system","most"] [.int 4000 nj] (vX K gk gm):=#[_,_,O34,M34,p34,λs us hK hl=>by obtain⟨_,rfl⟩:=YU (us:=us) (by simpa using hl);exact BindsTo.of_defaults rfl (hK _ _ nq) rfl rfl rfl];have D35:=dfm l.prog w base (Yn B TS MS F35 D10) M35 p35 (F35.binds nofun);have D36:=dfm l.prog w base (qm B F36) M36 p36 (F36.binds nofun);have D37:=dfm l.prog w base (YR B (aN X G nany) TMcc F37) M37 p37 (F37.binds nofun);have D38:=dfm l.prog w base (uK B TF ⟨sFF⟩ F38 D16 D37) M38 p38 (F38.binds nofun);have D39:=dfm l.prog w base (jp B TF ⟨sFF⟩ TMcc F39 D34 D34d D35) M39 p39 (F39.binds nofun);have D40:=dfm l.prog w base (Xm B F40 D31 D9 D10) M40 p40 (F40.binds nofun);have D41:=dfm l.prog w base (YF B TMcc F41 D36 D38 D39 D40) M41 p41 (F41.binds nofun);have D42:=dfm l.prog w base (Xz B TNw F42) M42 p42 (F42.binds nofun);obtain⟨_,mh⟩:=lX;have rV:=mh.kp;have pS:=mh.binds (ps:=["self","letters","table"]) nofun;have pT:DMk l.prog w K mg base (CXx l.prog w) 4 gg ["self","letters","table"] (vZ gg):=#[_,_,#[oU,lV,lY,oV],kO B CLw mh D1 D42,pS];obtain⟨_,lG⟩:=lD;have pG:=lG.kp;have pH:=lG.binds (ps:=["self"]) nofun;have pJ:DM l.prog w K mg base CX0 1 gg "rooms" ["self"] (qu gg):=#[_,_,#[lC,lE,pG],kd B CLw lG,pH];obtain⟨_,mS⟩:=mP;have rf:=mS.kp;have rg:=mS.binds (ps:=["self","room","word"]) nofun;have og:DM l.prog w K mg base CX0 1 gg "led" ["self","room","word"] (qW gg):=#[_,_,#[mN,mQ,rf],Yw B CLw mS,rg];obtain⟨_,lh⟩:=iX;have ph:=lh.kp;have pi:=lh.binds (ps:=["self","one","other"]) nofun;have pj:DM l.prog w K mg base CX0 2 gg "parted" ["self","one","other"] (vm gg):=#[_,_,#[iW,iY,ph],jf B CLw lh pJ og,pi];obtain⟨_,lm⟩:=la;have pq:=lm.kp;have pw:=lm.binds (ps:=["self","pacts"]) nofun;have pz:DM l.prog w K mg base CX0 3 gg "broken" ["self","pacts"] (uX K gg):=#[_,_,#[iZ,lb,pq],qU B CLw lm pj,pw];have D43:=dfm l.prog w base (j4 B F43) M43 p43 (F43.binds nofun);have D44:=dfm l.prog w base (qt B TM F44 D43) M44 p44 (F44.binds nofun);have D45:=dfm l.prog w base (Xd B F45) M45 p45 (F45.binds nofun);have D46:=dfm l.prog w base (j6 B CLw F46 og pz) M46 p46 (F46.binds nofun);have D47:=dfm l.prog w base (ke B TM CLw F47 D44 D43 D45 D46 pT) M47 p47 (F47.binds nofun);have D48:=dfm l.prog w base (j9 B TF ⟨sFF⟩ TMjj F48 D6 D6d D10) M48 p48 (F48.binds nofun);have D49:=dfm l.prog w base (ur B TMjj F49 D48 D9 D7) M49 p49 (F49.binds nofun);have D50:=dfm l.prog w base (vU B F50 D47) M50 p50 (F50.binds nofun);have D51:=dfm l.prog w base (Qu B TO TM F51 D41 D49 D44 D50) M51 p51 (F51.binds nofun);have D52:=dfm l.prog w base (VQ B #[kl,kt,kbb] ⟨ks⟩ F52 D23) M52 p52 (F52.binds nofun);have D53:=dfm l.prog w base (Y1 B #[kl,kt,kbb] F53 D22) M53 p53 (F53.binds nofun);have D54:=dfm l.prog w base (Jw B #[kt,ks] F54 D23 D53 D52) M54 p54 (F54.binds nofun);have D55:=dfm l.prog w base (Kd B F55 D18 D28 D51) M55 p55 (F55.binds nofun);exact zel B F56 D17 D19 D20 D55 D21 D18 D27 D26 D54
theorem walk{l:PySem.W.OpenLaw}{q:sy}{loose:List sB}{XP:(sB->Option sr)->sI->Prop}{YP:sC->sI->Prop}{d:DefRec}{K:Params->so}(hn:l.most=AX 63)(hdf:d.params.defaults=[])
  (hY:∀(w:sC) (h:sI),YP w h->(K w.params).In h) (hj:((PyProof.Rows.recsOf q).find? λr=>r.name ==("in_order" : sB)).isSome=AZ) (hno:∀w:sC,zb6 (K w.params)=AZ)
  (F:∀(w:sC) (mg:sB->Option sr) (fa:sq) (h:sI) (cc T:sq),(K w.params).In h->h.Ns si mg->mg d.name=AX (.ref fa)->(∃a o fd,mg "in_order" = AX (.ref a)/\h.get? a=AX o/\o.data=.func fd/\fd.code=.ref cc)->si≠T ->
   ∃fd:sv,(∀(s:su) (u:sr),Av s fd #[[u],[]] [("_law_script",u)])/\∀base:sI,(K w.params).In base->base.Ns si mg->base.BuiltinsAt mg T->PySem.W.CodeHd base cc T->zQ l.prog w (K w.params) mg base CX0 13 fa fd ["_law_script"] (Wa (K w.params) T)) :
  PySem.W.WalkO q loose XP YP l.row.toRowW d [] (λf vs=>fZ f vs):=by
 obtain⟨din,hd⟩:=Bs.mp hj;have hnm:din.name="in_order":=by simpa using dJ hd
 exact L3.walk_ofT (n:=63) (k:=13) (x:="_law_script") (CX:=λ_=>CX0) (din:=din) (sp:=λw T=>Wa (K w.params) T) hn ∅ hdf #[rfl,∅,∅] (eD hd) hY hno (λw mg fa h cc T a b c e g=>F w mg fa h cc T a b c (by rw[hnm]at e;exact e) g) (λ_ _ a ns T hl hB hT hS=>#[a,ns,rfl,hS,hB,hT,λ_=>rfl]) λ_ _ _ _ _ z=>z
end LL
namespace PySem.W.Fast
def tw15484204676797257326:=Nat
def tw9396476440226149745:=Nat
def tw9444922894592042250:=Nat
def tw8399953869566720742:=Nat
def tw15790316985507821737:=Nat
def tw15213208257189926429:=Nat
def tw237924429880851018:=Nat
def tw6960454047870060008:=Nat
def tw15798965519589053519:=Nat
def tw14201238109575157751:=Nat
def tw16573813220899461652:=Nat
def tw16724890856056960756:=Nat
def tw9248128300881727260:=Nat
def tw16471519806984063627:=Nat
def tw12744653461260648975:=Nat
def tw1439465205104271557:=Nat
def tw5974349234329064362:=Nat
def tw4378221308276322030:=Nat
def tw277651149898800352:=Nat
def tw10421655360720675846:=Nat
def tw15174511094561326938:=Nat
def tw2559969760846349420:=Nat
def tw12387189007700411031:=Nat
def tw15477991414645278043:=Nat
def tw13286964759834003176:=Nat
def tw10192714803308484265:=Nat
def tw10474943883220736227:=Nat
def tw6975678448474346500:=Nat
def tw1521920327160770561:=Nat
def tw1590667835098158169:=Nat
def tw8352509499077922994:=Nat
def tw12216238768977809339:=Nat
def tw13336885941559113185:=Nat
def tw7705387527476529070:=Nat
def tw2805234188706547601:=Nat
def tw16315840396126233919:=Nat
def tw16012391830347817059:=Nat
def tw5941292058815304098:=Nat
def tw6390529406785828477:=Nat
def tw15718877709056385255:=Nat
def tw17927495653805837776:=Nat
def tw16857283690581343698:=Nat
def tw7921281118155881560:=Nat
def tw3600195796034385697:=Nat
def tw7969859531355095672:=Nat
def tw2894967141878731955:=Nat
def tw12896513815163390092:=Nat
def tw15323541122965966101:=Nat
def tw7262754656172487246:=Nat
def tw17550892489377834288:=Nat
def tw4022931332810912016:=Nat
def tw15508043982443865273:=Nat
def tw3544495035602212789:=Nat
def tw5141181778562040691:=Nat
def tw2591194000744304624:=Nat
def tw14958975814075122229:=Nat
def tw5779254577554031779:=Nat
def tw13883696974575097868:=Nat
def tw16481367883209970029:=Nat
def tw1235990897891172537:=Nat
def tw406155991666736991:=Nat
def tw3366955948756073405:=Nat
def tw16261136018450078594:=Nat
def tw2388341835408247163:=Nat
def tw7740919158825810572:=Nat
def tw14400596097649084975:=Nat
def tw6264563543178477235:=Nat
def tw18233126295564855982:=Nat
def tw12855694656923339859:=Nat
def tw17158139005027504658:=Nat
def tw13148816535046497435:=Nat
def tw1928380638250530634:=Nat
def tw2633033884002919453:=Nat
def tw7745749548651726252:=Nat
def tw14716466373819760854:=Nat
def tw14473414543471591460:=Nat
def tw10605261382348882257:=Nat
def tw2809431594732380776:=Nat
def tw6633161227570746932:=Nat
def tw10048108527291286124:=Nat
def tw3426700783530559674:=Nat
def tw2722121297063621350:=Nat
def tw10505669944881344774:=Nat
def tw15608695861644584085:=Nat
def tw18365827507764392884:=Nat
def tw6345971970543850448:=Nat
def tw3878957616479587324:=Nat
def tw17230837747034411722:=Nat
def tw5687154174776075955:=Nat
def tw8507201086359824618:=Nat
def tw5495186163750158871:=Nat
def tw11778753033461982098:=Nat
def tw17607331090521485890:=Nat
def tw552503777824729215:=Nat
def tw4013529502997795103:=Nat
def tw13169682059976171671:=Nat
def tw6180026751298735217:=Nat
def tw13468642540352843211:=Nat
def tw5953277310237356069:=Nat
def tw5540392666177896669:=Nat
def tw5000692810582936764:=Nat
def tw3076840912243817018:=Nat
def tw15437456487703038141:=Nat
def tw12048519318171008685:=Nat
def tw18299392442328041373:=Nat
def tw3550686984769658249:=Nat
def tw5088306207024076422:=Nat
def tw7029483338128623849:=Nat
def tw5623402746755397199:=Nat
def tw10137412583528411613:=Nat
def tw8703943292591271253:=Nat
def tw10217899563602485481:=Nat
def tw448926437904617420:=Nat
def tw4369344593926153920:=Nat
def tw16176647276767549663:=Nat
def tw17389268952952974389:=Nat
def tw16253488241118767433:=Nat
def tw6062248880216889472:=Nat
def tw15236999650589530159:=Nat
def tw11217359027970503345:=Nat
def tw630893872712947376:=Nat
def tw8357388821987879214:=Nat
def tw1939328896281770701:=Nat
def tw16036093531070058806:=Nat
def tw10082105852510791068:=Nat
def tw18252390495242199489:=Nat
def tw11188515347722026097:=Nat
def tw8037383143087483204:=Nat
def tw498491110972915198:=Nat
def tw18435946365311072610:=Nat
def tw6931956407449403479:=Nat
def tw8287041992930315632:=Nat
def tw9998082134274298622:=Nat
def tw6864024636374811294:=Nat
def tw3802703442066393384:=Nat
def tw13377976854614709744:=Nat
def tw11119340045011151784:=Nat
def tw4056429735135005801:=Nat
def tw4519336656017022462:=Nat
def tw6031462927260514207:=Nat
def tw6813617452420404568:=Nat
def tw12393101954442078918:=Nat
def tw2861206753813812420:=Nat
def tw9600324658595079408:=Nat
def tw9525228357547081887:=Nat
def tw14970968834637849417:=Nat
def tw630581817060212693:=Nat
def tw3377579945370005040:=Nat
def tw10157826399549223215:=Nat
def tw16934015005942668684:=Nat
def tw11268302199427676319:=Nat
def tw11009812437431312604:=Nat
def tw5244542187400569606:=Nat
def tw5051729664171329582:=Nat
def tw3602893158064685671:=Nat
def tw421015948747628391:=Nat
def tw9645452170289767698:=Nat
def tw13027698210446020523:=Nat
def tw9437790585112596408:=Nat
def tw2547894397186947382:=Nat
def tw7452799226664424087:=Nat
def tw6637190937110452670:=Nat
def tw8283525644107664154:=Nat
def tw7712196980336823413:=Nat
def tw1258769711286865357:=Nat
def tw1781241436749740953:=Nat
def tw7414371596611876056:=Nat
def tw17100533723739707621:=Nat
def tw2883424866884789389:=Nat
def tw12754889112742017255:=Nat
def tw4478369107965378338:=Nat
def tw7383037534706298696:=Nat
def tw10875889365996961604:=Nat
def tw13935693697512682573:=Nat
def tw13645333376062770193:=Nat
def tw10873538066447467180:=Nat
def tw4098932894412638977:=Nat
def tw12386301690594860293:=Nat
def tw6705953952420497231:=Nat
def tw15589626278861661485:=Nat
def tw4979440949299835534:=Nat
def tw15236450652388140972:=Nat
def tw16925592665706372809:=Nat
def tw8023364403471021697:=Nat
def tw2434901934397322145:=Nat
def tw14977958788939940109:=Nat
def tw1712524762059449305:=Nat
def tw17876941988168642117:=Nat
def tw3156694633664868973:=Nat
def tw774348056779162911:=Nat
def tw10921949550491201064:=Nat
def tw11011195716389696044:=Nat
def tw9524788486460988153:=Nat
def tw14835719670188514439:=Nat
def tw13961448195437938644:=Nat
def tw10195797786408634886:=Nat
def tw1571175381804506008:=Nat
def tw14070588520955128093:=Nat
def tw7759631674330986912:=Nat
def tw1300890718844573959:=Nat
def tw14384130698539371065:=Nat
def tw5346553064162191854:=Nat
def tw4073345510596477968:=Nat
def tw88251014405650874:=Nat
def tw7688314723408261220:=Nat
def tw4638702964518082352:=Nat
def tw11494588982634594839:=Nat
def tw2904786318383040168:=Nat
def tw7298744491038350104:=Nat
def tw10962816947453884040:=Nat
def tw1592039313802506744:=Nat
def tw1265600663438895464:=Nat
def tw7313319207876169640:=Nat
def tw733729526496153897:=Nat
def tw9408058222423462362:=Nat
def tw15577218180445549692:=Nat
def tw6207910033986397302:=Nat
def tw2922006178478612137:=Nat
def tw12061600634856471197:=Nat
def tw13521755454287430021:=Nat
def tw15788645113692980153:=Nat
def tw3359534512917778331:=Nat
def tw5732935988250035699:=Nat
def tw13342612436634176403:=Nat
def tw1988790593939937263:=Nat
def tw13915481708064045961:=Nat
def tw3963871283906376439:=Nat
def tw11651371613354475838:=Nat
def tw16432175932137467000:=Nat
def tw12220782609983019431:=Nat
def tw16844084245608121285:=Nat
def tw10300399728735591747:=Nat
def tw2550291531355732806:=Nat
def tw4913226216201438251:=Nat
def tw14318359407385328272:=Nat
def tw14287180497157075135:=Nat
def tw13250024497040277614:=Nat
def tw13556405180005894137:=Nat
def tw2451117430315502311:=Nat
def tw5796884039632036398:=Nat
def tw1662108468154115458:=Nat
def tw9294310485749013199:=Nat
def tw14037737917371405896:=Nat
def tw14479493053358861137:=Nat
def tw11214811809147899360:=Nat
def tw12441314311600134008:=Nat
def tw16571001901260156671:=Nat
def tw12069385511426392358:=Nat
def tw1367584573334476346:=Nat
def tw2138762600715835949:=Nat
def tw1845774978613390866:=Nat
def tw7381201638748166381:=Nat
def tw1624615764140134953:=Nat
def tw10849841757996365143:=Nat
def tw12588456899754961952:=Nat
def tw7916374721906018807:=Nat
def tw128053859154110537:=Nat
def tw16924349849827427690:=Nat
def tw1815607634385750072:=Nat
def tw7532864410830986996:=Nat
def tw5882449568143412617:=Nat
def tw4142738016819680314:=Nat
def tw15701465265309046313:=Nat
def tw908715464267319522:=Nat
def tw10817253360853678050:=Nat
def tw14814437922822605370:=Nat
def tw16437132992866700737:=Nat
def tw18313706160277068978:=Nat
def tw1371509388369445983:=Nat
def tw8115662532774813476:=Nat
def tw433983285465448598:=Nat
def tw8114193908135695944:=Nat
def tw15721367025281999486:=Nat
def tw3296354949177865692:=Nat
def tw16413537665003152051:=Nat
def tw12992480363312308990:=Nat
def tw8384666097510870345:=Nat
def tw15673226916445777563:=Nat
def tw290178213456425286:=Nat
def tw9324316569982618676:=Nat
def tw7768476336775058666:=Nat
def tw12100210955947933182:=Nat
def tw12956695705976733986:=Nat
def tw8935468851768555222:=Nat
def tw13730565079332151089:=Nat
def tw7740980979504656855:=Nat
def tw6289902050739057336:=Nat
def tw18047603562757773732:=Nat
def tw6732221769263260225:=Nat
def tw11935900183506306282:=Nat
def tw16206353938268514190:=Nat
def tw3623261000719670727:=Nat
def tw15113963716292942605:=Nat
def tw8345831682464459065:=Nat
def tw7383849700952803820:=Nat
def tw11838693995950234967:=Nat
def tw4848080727601778455:=Nat
def tw2286770578131572534:=Nat
def tw10742343898418998975:=Nat
def tw16624914988592618787:=Nat
def tw13112410419660482132:=Nat
def tw9421056865745082517:=Nat
def tw2373324815186349979:=Nat
def tw2493124811512941665:=Nat
def tw1373426518022016213:=Nat
def tw4503179117548662467:=Nat
def tw406526021992730225:=Nat
def tw17182864793662649237:=Nat
def tw4403633191145620918:=Nat
def tw14833735482472621251:=Nat
def tw2450052116671322969:=Nat
def tw6611815616328189402:=Nat
def tw11988980844920410096:=Nat
def tw7259185722669773104:=Nat
def tw2033694533689896575:=Nat
def tw8235135430729647824:=Nat
def tw9244215210296059667:=Nat
def tw2111162472457396413:=Nat
def tw7973675685063913096:=Nat
def tw4383940586842966186:=Nat
def tw413257535044813196:=Nat
def tw3839097182717239279:=Nat
def tw15320067683409579799:=Nat
def tw17737646913199402009:=Nat
def tw397374938869794058:=Nat
def tw1382670790709154405:=Nat
def tw10024939729239387929:=Nat
def tw15176285631352581385:=Nat
def tw3951488975257487888:=Nat
def tw4632586872351554443:=Nat
def tw15090643019095433637:=Nat
def tw5204634651739169171:=Nat
def tw17238832196275704339:=Nat
def tw13490984790243522218:=Nat
def tw14023842934634580547:=Nat
def tw15027927478758111432:=Nat
def tw11388042720587969653:=Nat
def tw10194707164876368137:=Nat
def tw9164760715386321201:=Nat
def tw5612183400212700852:=Nat
def tw7249561191633653627:=Nat
def tw14843055684340279561:=Nat
def tw13431762826984985767:=Nat
def tw10681398180281250207:=Nat
def tw4025018965784369034:=Nat
def tw9789785227478311070:=Nat
def tw5793949762608959002:=Nat
def tw14158249551285031058:=Nat
def tw856793914304622219:=Nat
def tw17063254303502617261:=Nat
def tw298790607207289435:=Nat
def tw15592602998898383187:=Nat
def tw3947662158989837965:=Nat
def tw18007147880522628912:=Nat
def tw8517013500485399850:=Nat
def tw2275526326597138457:=Nat
def tw11557448184198750194:=Nat
def tw4269304162004088806:=Nat
def tw10434294604478664411:=Nat
def tw17699930030760223058:=Nat
def tw6938973608592150217:=Nat
def tw471953319447091265:=Nat
def tw15522369136062264622:=Nat
def tw14919239365396051382:=Nat
def tw13792358428723180001:=Nat
def tw15300751294339808823:=Nat
def tw10204532883920022630:=Nat
def tw10875510430862813785:=Nat
def tw14148892826953790087:=Nat
def tw12869916157701082446:=Nat
def tw8255202062364757617:=Nat
def tw12498946750140509515:=Nat
def tw8530365100373750255:=Nat
def tw721260688937471118:=Nat
def tw507768188699153213:=Nat
def tw1268511127192253741:=Nat
def tw4055367194097082234:=Nat
def tw17737037239477417114:=Nat
def tw11474018398051630804:=Nat
def tw3457501105070586189:=Nat
def tw17165503603116409324:=Nat
def tw7627003880832936560:=Nat
def tw14989986753335903397:=Nat
def tw15074305686416069593:=Nat
def tw2601998980619496043:=Nat
def tw15203662736623983491:=Nat
def tw17376290002802851254:=Nat
def tw7242074606601140010:=Nat
def tw10917270377105696:=Nat
def tw13752187797821421255:=Nat
def tw10481316266744665030:=Nat
def tw13527431878283931551:=Nat
def tw7876786320866030925:=Nat
def tw6985129037935936016:=Nat
def tw2075093459856942320:=Nat
def tw10961601060922348542:=Nat
def tw6985114812335356660:=Nat
def tw8458725277824935659:=Nat
def tw16328302117573197158:=Nat
def tw10083839317494464621:=Nat
def tw7655886060421000317:=Nat
def tw11307702271817078663:=Nat
def tw1632151570323967395:=Nat
def tw6117907036014769701:=Nat
def tw14582433291291324085:=Nat
def tw16521662995282165075:=Nat
def tw11265557693763694805:=Nat
def tw12229079512206388450:=Nat
def tw1498543753612641925:=Nat
def tw6431017555723974112:=Nat
def tw4020212122560243571:=Nat
def tw10727732208122590428:=Nat
def tw15520573885584288114:=Nat
def tw1451364455188010536:=Nat
def tw13733838156775475484:=Nat
def tw14725066008553074242:=Nat
def tw9241015459698673784:=Nat
def tw16906527714150842942:=Nat
end PySem.W.Fast
open PySem PySem.W PyProof.Rows
set_option maxRecDepth 100000 in
set_option maxHeartbeats 0 in
theorem PySem.Challenge.cw_letterlaw_k85_whole_two_orders_agree_holds : PySem.Challenge.rw_letterlaw_k85_whole_two_orders_agree.Holds := by
 w_on;o_law;k_head; (case hw=>w_witness2)
 k_fill
 refine LL.walk (l:=PySem.Challenge.rw_letterlaw_k85_whole_two_orders_agree) rfl rfl (λw h Y=>PySem.W.km_in_of Y) ?hJJ ?hNN ?hFF
 case hJJ=>first | kernel_rfl | rfl | decide +kernel
 case hNN=>intro w;first | kernel_rfl | rfl
 case hFF =>
  intro w mg fa h cc T KX G hmg hlam hgT
  refine' LL.all_mk KX G hmg hlam hgT ?a0 ?a1 ?a2 ?a3 ?a4 ?a5 ?a6 ?l6 ?k6 ?p6 ?a7 ?a8 ?a9 ?a10 ?a11 ?a12 ?l12 ?k12 ?p12 ?a13 ?a14 ?a15 ?a16 ?a17 ?a18 ?a19 ?a20 ?a21 ?a22 ?a23 ?a24 ?a25 ?a26 ?a27 ?a28 ?a29 ?a30 ?a31 ?a32 ?a33 ?a34 ?l34 ?k34 ?p34 ?a35 ?a36 ?a37 ?a38 ?a39 ?a40 ?a41 ?a42 ?a43 ?a44 ?a45 ?a46 ?a47 ?a48 ?a49 ?a50 ?a51 ?a52 ?a53 ?a54 ?a55 ?a56 ?l56 ?k56 ?p56 ?g_LetterError ?g_NoLetters ?g_NoOrder ?g_Order ?g_FromRight ?g_ByWeights ?g_NotTurned ?g_System ?g_NoUse ?g_TooFar ?g_NoWorld ?g_World ?g_TooMany ?kbb ?kt ?ki ?kb ?kl ?XIl ?xi ?XIo ?yi ?most ?mostw ?oG ?oH ?oJ ?oK ?oM ?oN ?oO ?ra ?rb ?re ?my ?mz ?mB ?mC ?mD ?mE ?mF ?nO ?nP ?nQ ?mG ?mH ?mI ?mJ ?mK ?mL ?mM ?nR ?nS ?nU ?nw_ByWeights ?sgO ?rdO ?win ?XIt ?nn ?ini ?lI ?kI ?pI ?fnI ?nV ?nW ?nX ?nY ?nZ ?oa ?no_System ?nr_System ?XIu ?ua ?iniU ?lU ?kU ?pU ?fnU ?XIf ?vi ?sFF ?XIq ?nwi ?mostr ?oP ?oQ ?oR ?oS ?oU ?oV ?oW ?nt_World ?XIm ?wi ?mostt ?ks ?nany ?nsorted ?mou ?mos ?mod_ ?mop ?mcu ?mce ?mcd ?mcp ?mju ?mjs ?lM ?lN ?iK ?iS ?iT ?ik ?lP ?lQ ?iL ?iw ?iA ?iB ?iC ?iD ?iE ?gY ?gZ ?ic ?lS ?lT ?gQ ?iU ?iV ?gC ?ly ?lA ?lB ?gH ?gJ ?gK ?lV ?lX ?lY ?lC ?lD ?lE ?mN ?mP ?mQ ?iW ?iX ?iY ?iZ ?la ?lb ?om ?nq ?fcO ?fiR_init ?fiR_weight ?fiW_seen ?fiR_rank ?fiW_rank ?fiR_before ?fiW_before ?b0 ?b1 ?b2 ?b3 ?b4 ?b5 ?b6 ?b7 ?b8 ?b9 ?b10 ?b11 ?b12 ?b13 ?b14 ?b15
  (case a0|a1|a2|a3|a4|a5=>exact#[by k_is,_,L2.fun_mk (by k_is) (by k_is) (by k_is)])
  case a6|l6|k6|p6=>k_is
  (case a7|a8|a9|a10|a11=>exact#[by k_is,_,L2.fun_mk (by k_is) (by k_is) (by k_is)])
  case a12|l12|k12|p12=>k_is
  (case a13|a14|a15|a16|a17|a18|a19|a20|a21|a22|a23|a24|a25|a26|a27|a28|a29|a30|a31|a32|a33=>exact#[by k_is,_,L2.fun_mk (by k_is) (by k_is) (by k_is)])
  case a34|l34|k34|p34=>k_is
  (case a35|a36|a37|a38|a39|a40|a41|a42|a43|a44|a45|a46|a47|a48|a49|a50|a51|a52|a53|a54|a55=>exact#[by k_is,_,L2.fun_mk (by k_is) (by k_is) (by k_is)])
  case a56|l56|k56|p56|g_LetterError|g_NoLetters|g_NoOrder|g_Order|g_FromRight|g_ByWeights|g_NotTurned|g_System|g_NoUse|g_TooFar|g_NoWorld|g_World|g_TooMany|xi|yi|most|mostw|oK|oN|oO|rb|re|mC|mE|mF|nP|nQ|mJ|mL|mM|nS|nU|nw_ByWeights|sgO|win|nn|ini|lI|kI|pI|nY|oa|no_System|nr_System|ua|iniU|lU|kU|pU|vi|sFF|nwi|mostr|oS|oV|oW|nt_World|wi|mostt|nany|nsorted|mou|mos|mod_|mop|mcu|mce|mcd|mcp|mju|mjs|lM|iS|lP|iw|iC|gY|lS|iU|ly|gH|lV|lC|mN|iW|iZ=>k_is
  (case XIl|XIo|XIt|XIu|XIf|XIq|XIm=>exact#[#[by first | kernel_rfl | rfl | k_is | decide +kernel,by k_is,by k_is,by k_is,by k_is],by k_is,by k_is,by k_is,by k_is])
  case om|nq|fcO|fiR_init|fiR_weight|fiW_seen|fiR_rank|fiW_rank|fiR_before|fiW_before|b0|b1|b2|b3|b4|b5|b6|b7|b8|b9|b10|b11|b12|b13|b14|b15=>k_is
  (case lN|iT|lQ|iA|iD|gZ|lT|iV|lA|gJ|lX|lD|mP|iX|la=>exact#[_,L2.fun_mk (by k_is) (by k_is) (by k_is)])
  (case kbb|kt|ki|kb|kl|ra|nO|nR|ks=>first | kernel_rfl | rfl)
  (case oG|oJ|oM|my|mB|mD|mG|mI|mK|rdO|nV|nX|nZ|oP|oR|oU=>first | kernel_rfl | rfl | k_is | decide +kernel)
  (case oH|mz|mH|fnI|nW|fnU|oQ|iK|ik|iL|iB|iE|ic|gQ|gC|lB|gK|lY|lE|mQ|iY|lb=>first | kernel_rfl | rfl | k_is)
#print axioms PySem.Challenge.cw_letterlaw_k85_whole_two_orders_agree_holds
