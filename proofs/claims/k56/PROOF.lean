import PyProof.Rows.All
import Wide.All
import OpenK.AllK
import Wide.FinOn
import PyProof.EqAt
import PyProof.EqKinds
import PyProof.NeKinds
import PyProof.TupleCall
import KE.KRevIter
import PyProof.ZipIter
import PyProof.Rows.SetFrom
import PyProof.StrWalks
import PyProof.DictStraight
import PyProof.StrLawsFrom
import PyProof.Rows.StrNews2
import KE.KMinBuiltin
import PyProof.Rows.CallKwBuiltin
import PyProof.Rows.SortShell
import KE.KSortTup
import KE.KBoundM
import KE.KLam
import Lean
import PySem.Challenge.RW_letterlaw_k56_whole_overlaps_meet
set_option compiler.extract_closed false
open List renaming getElem?_eq_some_iff→sQ,mem_map→sS,mem_cons→sU,mem_append→sV,mem_singleton→sX,mem_filter→sY,mem_range→sZ,mem_reverse→tm,mem_iff_getElem?→tu,all_eq_true→tw,nodup_cons→tz,mem_flatMap→tB,length_pos_iff→tE,length_eq_zero_iff→tF,mem_filterMap→tH,any_eq_true→tI,find?_eq_none→tJ,nodup_iff_count→tK,pairwise_append→tL,pairwise_cons→tM
open Option renaming map_eq_some_iff→tj,isSome_iff_exists→tD
open Bool renaming eq_false_iff→tG
open Nat renaming lt_succ_iff_lt_or_eq→tN
local macro_rules | `(tactic| symm)=>do `(tactic| decide +kernel)
local macro_rules | `(tactic| nofun)=>do `(tactic| exact⟨rfl,rfl,rfl,by decide +kernel,rfl,by decide +kernel,by decide +kernel⟩)
open PySem.Heap renaming get?_push_of_some→aa,lt_size→aq,get?_push_size→aD,get?_update_other→aE,size_push→bq,get?_update_self→cb,size_update→dH
open List renaming mem_of_getElem?→ac,length_map→ae,getD_eq_getElem?_getD→af,getElem?_eq_getElem→aj,length_append→ak,size_toArray→al,mem_cons_of_mem→ao,append_assoc→ar,map_cons→au,map_append→ay,length_take→az,mem_append_right→aA,mem_cons_self→aB,getElem?_map→aG,take_length→aK,length_cons→aN,map_nil→aP,length_drop→aR,take_append_of_le_length→aS,append_nil→aT,replicate→aU,drop_eq_getElem_cons→aV,range→aW,lookup_cons→aX,drop_of_length_le→aY,take_append_drop→aZ,take_of_length_le→ba,toArray→be,getElem?_reverse→bg,lookup→bh,sum_cons→bi,mem_append_left→bj,mem_of_mem_take→bn,getElem?_take_of_lt→bo,take_zero→br,set_cons_zero→bu,set_cons_succ→bv,drop_append_of_le_length→bA,getElem?_eq_none→bC,nil_append→bD,idxOf_lt_length_of_mem→bG,cons_append→bJ,getElem?_append_right→bK,getElem?_append_left→bP,length_replicate→bQ,length_singleton→bR,mem_of_mem_drop→bW,length_reverse→cr,drop_left→cy,take_left→cD,map_congr_left→cF,countP_cons_of_pos→cH,length_nil→cK,range_succ→cM,filter_append→cN,drop_drop→cQ,length_filter_le→cS,replicate_succ→db,take_succ_cons→dc,flatMap_append→de,of_mem_zip→dg,forIn_cons→dh,filter_nil→di,contains_cons→dk,zip_cons_cons→dm,append_cancel_left→du,countP_cons_of_neg→dv,flatten_cons→dw,length_range→dz,getElem?_set_self→dA,range_succ_eq_map→dB,mem_cons→dF,drop_length→dI,getElem?_set_ne→dJ,map_map→dN,find?_some→dP,eq_nil_of_length_eq_zero→dQ,filterMap_cons→dU,drop_zero→d4,getElem_idxOf→d6,extract_eq_drop_take→em,mem_of_find?_eq_some→et,mem_nil_iff→eG,not_mem_nil→eJ,filter_cons→eK,getElem?_replicate→eL,pairwise_singleton→eM,getElem?_cons_zero→eN,filter_cons_of_pos→eO,filter_cons_of_neg→eP,length→eV,forIn_nil→eY,mem_range→e7,take_take→e8,mem_of_mem_head?→e9,replicate_succ'→fm,all_cons→fo,getElem?_drop→fB,getElem_range→fG
open PySem.W renaming findIn→ah,nsIn→aF,mg_none_of→aL,mg_of→aM,keepIn→aO,kitOne→aQ,isFn→bc,kia_one→bf,fnOf→bp,hasDictIn→bB,emptyDict→bO,callWith_K→bT,mroIn→bU,codeIn→bV,plainGet→bY,methodCall_KW→bZ,kla_fn→ce,instObj→cf,subIn→cq,plainOver→cA,specialIn→cB,looks_findIn→cC,makesIn→cJ,takesIn→dL,plainGet_of→dX,lookIn→dY,methodObj→ee,kitx_list→ef,handedIn→eC,envX→eI,takerIn→eQ,findObj→eS,cellsFrom_some→eU,handedOut_of→fj,findObj_own→fq,callWith_K0→ft,kitx_tuple→fv,looks_find→fw,set_plain→fH,kitx_dict→fJ,bind_fn→fM,readsIn→fN,findCls→fO,kat_nil→fQ,kas_ask→fR
open Nat renaming le_refl→am,lt_of_lt_of_le→av,ne_of_lt→aw,zero_le→aI,le_trans→aJ,ne_of_gt→bS,min_eq_left→ci,lt_succ_of_lt→cp,le_add_right→cw,not_lt_zero→cz,lt_irrefl→cI,lt_of_le_of_lt→cL,le_succ→cP,lt_succ_self→cX,le_of_not_lt→cY,min_eq_right→cZ,le_of_lt→dj,zero_add→dO,lt_trichotomy→eh,succ_mul→eD,min_self→eE,lt_or_ge→eF,lt_trans→fA,sub_self→fF
open PySem renaming boot_len→ax,mem_of_lookup→bX,strKind→da,frameOf→d7,passOn→fz,call→fP
open Bool renaming false_ne_true→aC,false_eq_true→bF,eq_false_or_eq_true→cj,and_eq_true→cE,eq_iff_iff→df,or_true→dM,and_false→dZ,and_true→d9,not_eq_true'→eg
open Int renaming toNat_natCast→aH,emod_nonneg→bw,emod_lt_of_pos→bx,natCast_nonneg→bH,eq_ofNat_of_zero_le→bI,le_refl→d5
open PySem.F renaming plainAttrs_str→bz,plain_max_loop→bM,plain_min_loop→bN,plainAttrs_list→cG,slot_str_find→cT,type_str_find→cU,slot_list_append→dn,type_list_append→dq,entry_max_loop→dC,entry_min_loop→dD,excBase_ValueError→d8,slot_str_count→eW,type_str_count→eX
open PyProof.Rows renaming callWith_type1→bE,boot_sum→eZ,boot_any→fg,boot_min→fh
open PySem.Str renaming ofString→bL,empty→eR
open Option renaming bind_some→cu,getD_none→fL
open Array renaming length_toList→dW,getD→fk,toList_append→fu
open PySem renaming wpAny_bind→oG,wpAny_pure→oH,mainGlobals→oJ,starEach→oK,sizeLine→oM
open PySem.W renaming Frag→oN
open PySem renaming Addr→oO,Value→oP,Shared→oQ,wpAny→oR,FuncData→oS,Program→oU,Str→oV,World→oW,Around→oX,Expr→oY,Heap→oZ,Stmt→pb,compareOp→pc,wpAny_field→pf,keywordEach→ph,wpAny_truthy_bool→pi,backTo→pq,strIterType→pw,wpAny_seqItems→pz,wpAny_Call_Name_kw→pA,sizeLine_eq→pB,wpAny_noRaise→pC,wpAny_holding→pD,Obj→pE,bootBuiltins→pF,backToKw→pG,wpAny_tryCatch→pH,wpAny_loadPart_at→pJ,wpAny_execs_nil→pK,codeAny_builtin→pL,codeAny→pM,wpAny_letGo→pN,ExceptHandler→pO,wpAny_setField→pP,Scope→pQ,IsPair→pR,wpAny_passesOwn→pS,wpAny_standAt→pT,wpAny_execs_cons→pV,Pos→pW,wpAny_setField_rec→pX,wpAny_mono→pY,wpAny_updateSeq→pZ,wpAny_newObj_type→ra,wpAny_call→rb,codeAny_mono→re,wpAny_isSubtype_exc→rf,wpAny_comprehension_free→rg,wpAny_pyIter_list→rh,plainObj_wpAny_Assign_Attribute→rj,wpAny_attempt→rm,wpAny_newFunctionEnv→rn,codeAny_call_builtin→rp,NameKind→rq,Arguments→rB,wpAny_pyIter_tuple→rD,IsZip→rE,Tok→rF,wpAny_getItem_str_slice→rG,wpAny_call_entry→rH,wpAny_Try_except→rJ,wpAny_rule→rK,codeAny_compStart_list→rM,Result→rN,codeAny_handlers_test→rO,Env→rP,wpAny_updateSeq_pair→rQ,wpAny_pyIter_revIter→rR,wpAny_loadPart→rS,recursionLimit→rT,excClassObj→rV,BindsTo→rW,wpAny_handleBy_cons→rX,wpAny_onRaise→rY,wpAny_newList→rZ,Model→sj,wpAny_pyIter_enum→sk,wpAny_assign_Name→so,wpAny_Return_some→sq,wpAny_Assign_Name→sr,GenState→sv,wpAny_pyIter_zip→sw,wpAny_lookBehind→sx,isCodeTable→sA,Sem→sB,Keyword→sC,wpAny_Name→sE,TriplesOk→sG,Paired→sH
open PyProof.Rows renaming seqObj→pj,envOfC→rz,AllBare→rA,subscriptTail_builtinR→rL,subscriptTail→si,IntsAre→su,Subscript_→sF
open Option renaming some→sI,none→sJ
open Bool renaming true→sK,false→sL
open PySem PySem.Spec PyProof.Rows
set_option Elab.async false
set_option linter.all false
set_option maxRecDepth 100000
set_option maxHeartbeats 4000000
namespace L2
noncomputable abbrev Key:=Sum Int oV
noncomputable def za7:Key->oP->Bool
 | .inl k,v=>Value.isInt k v
 | .inr x,v=>Value.isStrOf x v
noncomputable def zdF(w:oW):Key->Int
 | .inl k=>hashInt k
 | .inr x=>hashStr w x
theorem yb:∀{k:Key} {v:oP},za7 k v=sK->(∃i t,k=Sum.inl i/\v=Value.int i t)\/(∃x t,k=Sum.inr x/\v=Value.str x t)
 | .inl i,v,h=>by
  obtain⟨t,e⟩:=Value.isInt_shape (k:=i) (v:=v) h
  exact .inl ⟨i,t,rfl,e⟩
 | .inr x,v,h=>by
  obtain⟨t,e⟩:=Value.isStrOf_shape (x:=x) (v:=v) h
  exact .inr ⟨x,t,rfl,e⟩
theorem za6(a b:Int):decide ((Sum.inl a:Key)=Sum.inl b)=(a == b):=by
 by_cases e:a=b
 ·subst e;simp
 ·have h:¬ (Sum.inl a:Key)=Sum.inl b:=λq=>e (Sum.inl.inj q)
  rw[decide_eq_false h]
  exact (beq_eq_false_iff_ne.mpr e).symm
theorem zal(a b:oV):decide ((Sum.inr a:Key)=Sum.inr b)=decide (a=b):=by
 by_cases e:a=b
 ·subst e;simp
 ·have h:¬ (Sum.inr a:Key)=Sum.inr b:=λq=>e (Sum.inr.inj q)
  rw[decide_eq_false h,decide_eq_false e]
theorem zaS(a:Int)(b:oV):decide ((Sum.inl a:Key)=Sum.inr b)=sL:=decide_eq_false (λq=>nomatch q)
theorem zaN(a:oV)(b:Int):decide ((Sum.inr a:Key)=Sum.inl b)=sL:=decide_eq_false (λq=>nomatch q)
noncomputable def Yt(prog:oU)(w:oW):PySem.KeyKind prog w Key where
 is:=za7
 hash:=zdF w
 inj:=λv a b ha hb=>by
  rcases yb ha with ⟨i,t,rfl,rfl⟩ | ⟨x,t,rfl,rfl⟩
  ·rcases yb hb with ⟨j,u,rfl,e⟩ | ⟨y,u,rfl,e⟩
   ·injection e with e1 _;rw[e1]
   ·exact nomatch e
  ·rcases yb hb with ⟨j,u,rfl,e⟩ | ⟨y,u,rfl,e⟩
   ·exact nomatch e
   ·injection e with e1 _;rw[e1]
 byValue:=λk v h=>by
  rcases yb h with ⟨i,t,rfl,rfl⟩ | ⟨x,t,rfl,rfl⟩ <;> rfl
 pyHash:=λhv h=>by
  rcases yb hv with ⟨i,t,rfl,rfl⟩ | ⟨x,t,rfl,rfl⟩
  ·exact wpAny_pyHash_int h
  ·exact wpAny_pyHash_str h
 eqBool:=λhu hv h=>by
  rcases yb hu with ⟨i,t,rfl,rfl⟩ | ⟨x,t,rfl,rfl⟩
  ·rcases yb hv with ⟨j,u,rfl,rfl⟩ | ⟨y,u,rfl,rfl⟩
   ·rw[za6] at h;exact wpAny_eqBool_int h
   ·rw[zaS] at h;exact SeqAt.EqAt.int_str i t y u _ _ _ _ h
  ·rcases yb hv with ⟨j,u,rfl,rfl⟩ | ⟨y,u,rfl,rfl⟩
   ·rw[zaN] at h;exact SeqAt.EqAt.str_int x t j u _ _ _ _ h
   ·rw[zal] at h;exact wpAny_eqBool_str h
 «strs»:=λk x t v h=>by
  rcases yb h with ⟨i,u,rfl,e⟩ | ⟨y,u,rfl,e⟩
  ·exact nomatch e
  ·injection e with e1 _
   subst e1
   cases v <;> rfl
end L2
namespace L2
inductive V where
 | non | bl (b:Bool) | int (i:Int) | str (x:oV) | byt (b:Array UInt8) | flt (b:UInt64) | ref (a:oO) | ty (n:String)
 deriving DecidableEq
def RelV:V->oP->Prop
 | .non,u=>u=Value.none
 | .bl b,u=>u=Value.bool b
 | .int i,u=>∃t,u=Value.int i t
 | .str x,u=>∃t,u=Value.str x t
 | .byt b,u=>∃t,u=Value.bytes b t
 | .flt b,u=>∃t,u=Value.float b t
 | .ref a,u=>u=Value.ref a
 | .ty n,u=>u=Value.type n
abbrev Vals:List V->List oP->Prop:=sH RelV
theorem Vals.length{xs:List V}{us:List oP}(r:Vals xs us):xs.length=us.length:=Paired.length r
theorem Vals.get:∀{xs:List V} {us:List oP} {i:Nat} {x:V},Vals xs us->xs[i]? = sI x->∃u,us[i]? = sI u/\RelV x u
 | _,_,_,_,.nil,e=>by simp at e
 | _,_,0,_,.cons r _,e=>by simp at e;subst e;exact⟨_,rfl,r⟩
 | _,_,i+1,x,.cons _ t,e=>by
  obtain⟨u,h1,h2⟩:=Vals.get (i:=i) (x:=x) t (by simpa using e)
  exact⟨u,by simpa using h1,h2⟩
theorem Vals.set{x:V}{u:oP}(r:RelV x u):∀{xs:List V} {us:List oP} (i:Nat),Vals xs us->Vals (xs.set i x) (us.set i u)
 | _,_,_,.nil=>.nil
 | _,_,0,.cons _ t=>.cons r t
 | _,_,i+1,.cons q t=>.cons q (Vals.set r i t)
theorem Vals.append:∀{xs ys:List V} {us ws:List oP},Vals xs us->Vals ys ws->Vals (xs ++ ys) (us ++ ws)
 | _,_,_,_,.nil,s=>s
 | _,_,_,_,.cons r t,s=>.cons r (Vals.append t s)
theorem Vals.take:∀{xs:List V} {us:List oP} (n:Nat),Vals xs us->Vals (xs.take n) (us.take n)
 | _,_,0,_=>.nil
 | _,_,_+1,.nil=>.nil
 | _,_,n+1,.cons r t=>.cons r (Vals.take n t)
theorem Vals.drop:∀{xs:List V} {us:List oP} (n:Nat),Vals xs us->Vals (xs.drop n) (us.drop n)
 | _,_,0,r=>r
 | _,_,_+1,.nil=>.nil
 | _,_,n+1,.cons _ t=>Vals.drop n t
def RelO:Option V->Option oP->Prop
 | some v,sI u=>RelV v u
 | none,sJ=>True
 | _,_=>False
def KV{κ:Type}:List (κ × V)->List (κ × oP)->Prop:=sH λ(p:κ × V) (q:κ × oP)=>p.1=q.1/\RelV p.2 q.2
noncomputable def kV:Key->V
 | .inl i=>.int i
 | .inr x=>.str x
inductive HO where
  | lst (xs:List V)
  | tup (xs:List V)
  | dK (kvs:List (Key × V)) | dT (kvs:List (List Key × V))
  | set (S:Int->Bool) (n:Nat)
  | ins (C dx:oO) (fs:List (oV × V))
  | own (x:oO)
  | xd (fs:List (oV × V))
  | met (f x:oO)
  | rng (lo hi:Int)
  | frz (o:pE) (u:HO)
  | tbl (ps:Array oP)
  | ext (φ:oZ->Prop)
noncomputable abbrev Hp:=oO->Option HO
noncomputable def upd(H:Hp)(a:oO)(o:HO):Hp:=λb=>if b=a then sI o else H b
theorem zc{H:Hp}{a:oO}{o:HO}:upd H a o a=sI o:=by unfold upd;rw[if_pos rfl]
theorem zo{H:Hp}{a b:oO}{o:HO}(h:b≠a):upd H a o b=H b:=by unfold upd;rw[if_neg h]
theorem zF{H:Hp}{a b:oO}{o:HO}(h:H a=sI o)(h':H b=sJ):a≠b:=by
 intro e;subst e;rw[h] at h';cases h'
section
variable(P:oU)(w:oW)
def ObjOk(H:Hp)(h:oZ)(a:oO):HO->Prop
 | .lst xs=>xs.length<=oM/\∃(its:List oP) (n:Nat),Vals xs its/\h.get? a=sI { cls:=.type "list",data:=.seq its.toArray n }
 | .tup xs=>xs.length<=oM/\∃its:List oP,Vals xs its/\IsTup h a its.toArray
 | .dK kvs=>kvs.length<=oM/\(a == sysModules)=sL/\∃vs,KV kvs vs/\h.DictOf (Yt P w) a vs
 | .dT kvs=>kvs.length<=oM/\(a == sysModules)=sL/\∃xs:List (List Key × oO × oP),
   sH (λ(p:List Key × V) (q:List Key × oO × oP)=>p.1=q.1/\H q.2.1=sI (.tup (p.1.map kV))/\RelV p.2 q.2.2) kvs xs /\
   ∃o es ep,h.get? a=sI o/\o.ExactDict/\o.data=.dict es ep/\es.toList=xs.map (entryOfKey (tupleKind (Yt P w)))/\(xs.map (·.1)).Nodup
 | .set S n=>h.SetOf (intKind P w) a S n
 | .ins C dx fs=>H dx=sI (.own a)/\fs.length<=1000/\dx≠a/\h.get? a=sI (cf C dx) /\
   ∃mA,h.Ns1 dx mA/\(∀f,RelO (fs.lookup f) (mA f))/\PySem.Within mA (fs.map (·.1))
 | .own _=>∃o,h.get? a=sI o
 | .xd fs=>∃mA,h.Ns1 a mA/\∀f,RelO (fs.lookup f) (mA f)
 | .rng lo hi=>∃t u v,h.get? a=sI { cls:=.type "range",data:=.fields #[.int lo t,.int hi u,.int 1 v] }
 | .frz o u=>h.get? a=sI o/\ObjOk H h a u
 | .tbl ps=>h.get? a=sI { cls:=.none,data:=.fields ps }
 | .met f x=>h.get? a=sI (ee (.ref f) (.ref x))
 | .ext φ=>φ h/\(∃o,h.get? a=sI o)/\∀h1 h2:oZ,φ h1->(∀o,h1.get? a=sI o->h2.get? a=sI o)->φ h2
def HOk(H:Hp)(h:oZ):Prop:=∀a o,H a=sI o->ObjOk P w H h a o
end
section
variable{P:oU}{w:oW}{H H':Hp}{h h':oZ}{a:oO}{o:HO}
theorem ObjOk.lt(x:ObjOk P w H h a o):a<h.objs.size:=by
 cases o with
 | lst xs=>obtain⟨_,_,_,_,e⟩:=x;exact aq e
 | tup xs=>obtain⟨_,_,_,p⟩:=x;exact p.lt
 | dK kvs=>obtain⟨_,_,_,_,o,_,_,e,_⟩:=x;exact aq e
 | dT kvs=>obtain⟨_,_,_,_,o,_,_,e,_⟩:=x;exact aq e
 | set S n=>obtain⟨o,_,_,_,e,_⟩:=x;exact aq e
 | ins C dx fs=>obtain⟨_,_,_,e,_⟩:=x;exact aq e
 | own y=>obtain⟨_,e⟩:=x;exact aq e
 | xd fs=>obtain⟨_,⟨_,_,_,e,_⟩,_⟩:=x;exact aq e
 | rng lo hi=>obtain⟨_,_,_,e⟩:=x;exact aq e
 | frz ob u=>obtain⟨e,_⟩:=x;exact aq e
 | tbl ps=>exact aq (show h.get? a=sI _ from x)
 | met f y=>exact aq (show h.get? a=sI _ from x)
 | ext φ=>obtain⟨_,⟨_,e⟩,_⟩:=x;exact aq e
theorem Paired.mapP{α β:Type}{F G:α->β->Prop}:∀{l₁:List α} {l₂:List β},sH F l₁ l₂->(∀a b,F a b->G a b)->sH G l₁ l₂
 | _,_,.nil,_=>.nil
 | _,_,.cons r t,f=>.cons (f _ _ r) (Paired.mapP t f)
theorem ObjOk.stay(x:ObjOk P w H h a o)(k:∀b u,(b=a\/H b=sI (.own a))->h.get? b=sI u->h'.get? b=sI u)
  (ho:∀b,H b=sI (.own a)->H' b=sI (.own a)) (ht:∀b xs,H b=sI (.tup xs)->H' b=sI (.tup xs)):ObjOk P w H' h' a o:=by
 induction o with
 | lst xs=>obtain⟨z,its,n,r,e⟩:=x;exact⟨z,its,n,r,k _ _ (.inl rfl) e⟩
 | tup xs=>obtain⟨z,its,r,ob,e,c⟩:=x;exact⟨z,its,r,ob,k _ _ (.inl rfl) e,c⟩
 | dK kvs=>obtain⟨z,y,vs,r,ob,es,ep,e,c⟩:=x;exact⟨z,y,vs,r,ob,es,ep,k _ _ (.inl rfl) e,c⟩
 | dT kvs =>
  obtain⟨z,y,xs,r,ob,es,ep,e,c⟩:=x
  exact⟨z,y,xs,Paired.mapP r λp q z=>⟨z.1,ht _ _ z.2.1,z.2.2⟩,ob,es,ep,k _ _ (.inl rfl) e,c⟩
 | set S n=>obtain⟨ob,es,ep,t,e,c⟩:=x;exact⟨ob,es,ep,t,k _ _ (.inl rfl) e,c⟩
 | ins C dx fs =>
  obtain⟨d,z,ne,e,mA,⟨od,es,ep,e2,c⟩,r⟩:=x
  exact⟨ho _ d,z,ne,k _ _ (.inl rfl) e,mA,⟨od,es,ep,k _ _ (.inr d) e2,c⟩,r⟩
 | own y=>obtain⟨ob,e⟩:=x;exact⟨ob,k _ _ (.inl rfl) e⟩
 | xd fs=>obtain⟨mA,⟨od,es,ep,e,c⟩,r⟩:=x;exact⟨mA,⟨od,es,ep,k _ _ (.inl rfl) e,c⟩,r⟩
 | rng lo hi=>obtain⟨t,u,v,e⟩:=x;exact⟨t,u,v,k _ _ (.inl rfl) e⟩
 | frz ob u ih=>obtain⟨e,q⟩:=x;exact⟨k _ _ (.inl rfl) e,ih q⟩
 | tbl ps =>
  have e:h.get? a=sI { cls:=.none,data:=.fields ps }:=x
  show h'.get? a=sI { cls:=.none,data:=.fields ps }
  exact k a _ (.inl rfl) e
 | met f y =>
  have e:h.get? a=sI (ee (.ref f) (.ref y)):=x
  show h'.get? a=sI (ee (.ref f) (.ref y))
  exact k a _ (.inl rfl) e
 | ext φ=>obtain⟨p,⟨o,e⟩,st⟩:=x;exact⟨st _ _ p λo q=>k _ _ (.inl rfl) q,⟨o,k _ _ (.inl rfl) e⟩,st⟩
theorem HOk.lt(x:HOk P w H h)(e:H a=sI o):a<h.objs.size:=(x a o e).lt
theorem HOk.fresh(x:HOk P w H h)(e:h.objs.size<=a):H a=sJ:=by
 cases q:H a with
 | none=>rfl
 | some u=>exact absurd (av (x.lt q) e) (cI _)
theorem HOk.kept(x:HOk P w H h)(k:∀b u,h.get? b=sI u->h'.get? b=sI u):HOk P w H h':=λa o e =>
 (x a o e).stay (λb u _ q=>k b u q) (λ_ q=>q) λ_ _ q=>q
theorem HOk.laid(x:HOk P w H h)(k:∀b u,h.get? b=sI u->h'.get? b=sI u)(hp:h.objs.size<=a)(new:ObjOk P w (upd H a o) h' a o):HOk P w (upd H a o) h':=λb u e=>by
 have hn:=x.fresh hp
 by_cases hb:b=a
 ·subst hb;rw[zc] at e;cases e;exact new
 ·rw[zo hb] at e
  exact (x b u e).stay (λc v _ q=>k c v q) (λc q=>by rw[zo (zF q hn)];exact q) λc xs q=>by rw[zo (zF q hn)];exact q
end
def Rd(H:Hp)(a:oO)(u:HO):Prop:=H a=sI u\/∃o,H a=sI (.frz o u)
theorem Rd.ok{P:oU}{w:oW}{H:Hp}{h:oZ}{a:oO}{u:HO}(r:Rd H a u)(x:HOk P w H h):ObjOk P w H h a u:=by
 rcases r with r | ⟨o,r⟩
 ·exact x a u r
 ·obtain⟨_,q⟩:=x a _ r
  exact q
def Mut:Option HO->Prop
 | some (.lst _)=>True
 | some (.dK _)=>True
 | some (.dT _)=>True
 | some (.set _ _)=>True
 | some (.ins _ _ _)=>True
 | some (.ext _)=>True
 | _=>False
section
variable{P:oU}{w:oW}{H:Hp}{h h':oZ}{x e:oO}{o':HO}
theorem HOk.write(ok:HOk P w H h)(mu:Mut (H x))(he:e=x\/H e=sI (.own x))(k:∀b u,b≠e->h.get? b=sI u->h'.get? b=sI u)(heo:∃u,h'.get? e=sI u)
  (new:ObjOk P w (upd H x o') h' x o'):HOk P w (upd H x o') h':=λb u q=>by
 have nown:∀c y,H c=sI (.own y)->c≠x:=λc y r z=>by subst z;rw[r] at mu;exact mu
 have ntup:∀c xs,H c=sI (.tup xs)->c≠x:=λc xs r z=>by subst z;rw[r] at mu;exact mu
 by_cases hb:b=x
 ·subst hb;rw[zc] at q;cases q;exact new
 ·rw[zo hb] at q
  by_cases hbe:b=e
  ·have q':H b=sI (.own x):=by
    rcases he with z | z
    ·exact absurd (hbe.trans z) hb
    ·rw[hbe];exact z
   rw[q] at q';cases q'
   obtain⟨v,hv⟩:=heo
   exact⟨v,by rw[hbe];exact hv⟩
  ·refine (ok b u q).stay (λc v hc r=>k c v ?_ r) (λc r=>by rw[zo (nown c b r)];exact r) λc xs r=>by rw[zo (ntup c xs r)];exact r
   rcases hc with rfl | hc
   ·exact hbe
   ·rintro rfl
    rcases he with z | z
    ·exact nown c b hc z
    ·rw[hc] at z;cases z;exact hb rfl
end
structure Un(fs ex:List oO)(H H':Hp)(h h':oZ):Prop where
 keep:∀b o,h.get? b=sI o->H b=sJ->b ∉ fs->b ∉ ex->h'.get? b=sI o
 slot:∀b o,h.get? b=sI o->H b=sJ->b ∈ fs->b ∉ ex->∃sl,h'.get? b=sI { o with slots:=sl }
 free:∀b o,h.get? b=sI o->H b=sJ->b ∉ ex->H' b=sJ
 there:∀b o,h.get? b=sI o->b ∉ ex->∃o',h'.get? b=sI o'
 tups:∀b xs,H b=sI (.tup xs)->H' b=sI (.tup xs)
 frzs:∀b o u,H b=sI (.frz o u)->H' b=sI (.frz o u)
 tbls:∀b ps,H b=sI (.tbl ps)->∃more,H' b=sI (.tbl (ps ++ more))
section
variable{fs fs' ex ex':List oO}{H H1 H2:Hp}{h h1 h2 h':oZ}{a x e:oO}{o:HO}
theorem Un.any(u:Un fs ex H H1 h h1){b:oO}{ob:pE}(q:h.get? b=sI ob)(n:H b=sJ)(hx:b ∉ ex):∃sl,h1.get? b=sI { ob with slots:=sl }:=by
 by_cases hb:b ∈ fs
 ·exact u.slot b ob q n hb hx
 ·exact⟨ob.slots,u.keep b ob q n hb hx⟩
theorem Un.kept(k:∀b u,h.get? b=sI u->h'.get? b=sI u):Un fs ex H H h h' :=
 ⟨λb ob q _ _ _=>k b ob q,λb ob q _ _ _=>⟨ob.slots,k b ob q⟩,λ_ _ _ n _=>n,λb ob q _=>⟨ob,k b ob q⟩,λ_ _ q=>q,λ_ _ _ q=>q,λ_ ps q=>⟨#[],by rw[q];simp⟩⟩
theorem Un.refl:Un fs ex H H h h:=Un.kept λ_ _ q=>q
theorem Un.laid(k:∀b u,h.get? b=sI u->h'.get? b=sI u)(hp:h.objs.size<=a)(hn:H a=sJ):Un fs ex H (upd H a o) h h' where
 keep:=λb u q _ _ _=>k b u q
 slot:=λb u q _ _ _=>⟨u.slots,k b u q⟩
 free:=λb u q n _=>by rw[zo (aw (av (aq q) hp))];exact n
 there:=λb u q _=>⟨u,k b u q⟩
 tups:=λb xs q=>by rw[zo (zF q hn)];exact q
 frzs:=λb u xs q=>by rw[zo (zF q hn)];exact q
 tbls:=λb ps q=>⟨#[],by rw[zo (zF q hn),q];simp⟩
theorem Un.write(mu:Mut (H x))(he:e=x\/H e=sI (.own x))(k:∀b u,b≠e->h.get? b=sI u->h'.get? b=sI u)(heo:∃u,h'.get? e=sI u):Un fs ex H (upd H x o) h h':=by
 have hx:∀b,H b=sJ->b≠x:=λb n z=>by subst z;rw[n] at mu;exact mu
 have hb:∀b,H b=sJ->b≠e:=λb n z=>by
  subst z
  rcases he with r | r
  ·exact hx b n r
  ·rw[n] at r;cases r
 have hm:∀b u,H b=sI u->¬ Mut (sI u)->b≠x:=λb u q nm z=>by subst z;rw[q] at mu;exact nm mu
 refine⟨λb u q n _ _=>k b u (hb b n) q,λb u q n _ _=>⟨u.slots,k b u (hb b n) q⟩,λb u q n _=>by rw[zo (hx b n)];exact n,λb u q _=>?_,
  λb xs q=>by rw[zo (hm b _ q λz=>z)];exact q,λb u xs q=>by rw[zo (hm b _ q λz=>z)];exact q,λb ps q=>⟨#[],by rw[zo (hm b _ q λz=>z),q];simp⟩⟩
 by_cases hbe:b=e
 ·subst hbe;exact heo
 ·exact⟨u,k b u hbe q⟩
end
noncomputable def trk(h:oZ)(H:Hp):List oO:=(aW h.objs.size).filter λa=>(H a).isSome
noncomputable def W6(h:oZ)(H:Hp):oZ:=PySem.W.hideAll h (trk h H)
theorem Vf(h:oZ)(H:Hp):(W6 h H).objs.size=h.objs.size:=PySem.W.hideAll_size _ _
theorem Y9{h:oZ}{H:Hp}{b:oO}{o:pE}(e:h.get? b=sI o)(n:H b=sJ):(W6 h H).get? b=sI o :=
 PySem.W.hideAll_get _ e λhm=>by
  have q:(H b).isSome=sK:=(sY.mp hm).2
  rw[n] at q;simp at q
theorem Jz{h:oZ}{H:Hp}{b:oO}{o:pE}(e:(W6 h H).get? b=sI o):h.get? b=sI o/\H b=sJ:=by
 have e':h.get? b=sI o:=PySem.W.of_hideAll (trk h H) e
 refine⟨e',?_⟩
 cases q:H b with
 | none=>rfl
 | some x =>
  have hm:b ∈ trk h H:=sY.mpr ⟨sZ.mpr (aq e'),by simp [q]⟩
  have z:(W6 h H).get? b=sJ:=PySem.W.hideAll_none (trk h H) hm
  rw[z] at e;cases e
noncomputable def J6(g h:oZ)(L:oO):List (oO × pE):=(aW h.objs.size).filterMap λa=>if a=L\/(g.get? a).isSome=sK then sJ else (h.get? a).map λo=>(a,o)
noncomputable def rest(g h:oZ)(L d:oO):List (oO × pE):=(J6 g h L).filter λp=>decide (p.1≠d)
end L2
namespace L2
structure Mod(K:oN)(mg:oV->Option oP)(base:oZ):Prop where
 kin:K.In base
 glob:base.Ns oJ mg
 blt:∃mb,base.Ns builtinsNs mb/\∀x:oV,x≠"__name__"->mb x=pF x
 nolimit:base.NoLimit
structure Cx where
 prog:oU
 w:oW
 K:oN
 mg:oV->Option oP
 base:oZ
 A:oX
 N:List oV
 s₀:oQ
 H₀:Hp
 env:rP
 outer:List rP
 stack:List rP
 ex:List oO
 fn:oV->Bool
 calm:Bool
 pn:List (oO × pE)
 xe:oP->oQ->Prop
noncomputable def frs(l:List rP):List oO:=l.filterMap (·.frame)
noncomputable abbrev Cx.fs(X:Cx):List oO:=frs X.outer
def Vis(sc:pQ)(x:oV):Prop:=sc.names.lookup x=sI .local\/sc.names.lookup x=sI .cell\/sc.names.lookup x=sI .free
def Loc(sc:pQ)(x:oV):Prop:=sc.names.lookup x=sI .local\/sc.names.lookup x=sI .cell
def zdh(env:rP)(h:oZ)(m:oV->Option oP)(x:oV)(u:oP):Prop :=
 (env.kindOf x=sI .local/\m x=sI u)\/((env.kindOf x=sI .cell\/env.kindOf x=sI .free)/\∃c,env.cells.lookup x=sI c/\h.IsCell c (sI u))
structure Cx.Ok(X:Cx):Prop where
 mod:Mod X.K X.mg X.base
 kind:X.env.scope.kind=.function
 glob:X.env.globals=oJ
 blt:X.env.builtins=builtinsNs
 above:X.s₀.heap.objs.size<=X.env.locals
 inj:∀x y c,X.env.cells.lookup x=sI c->X.env.cells.lookup y=sI c->x=y
 has:∀x,(X.env.kindOf x=sI .cell\/X.env.kindOf x=sI .free)->∃c,X.env.cells.lookup x=sI c
 cab:∀x c,X.fn x=sK->X.env.cells.lookup x=sI c->X.s₀.heap.objs.size<=c
 hd:X.calm=sK->X.A.handled=sJ
 frames:X.A.frames=sI X.stack
 stk:X.stack=X.outer\/(X.stack=X.env::X.outer/\X.env.frame=sI X.env.locals)
 exf:∀b ∈ X.ex,b≠X.env.locals/\∀x c,X.env.cells.lookup x=sI c->c≠b
 bs:∀b o,X.base.get? b=sI o->X.s₀.heap.get? b=sI o/\X.H₀ b=sJ
 bsz:X.base.objs.size<=X.s₀.heap.objs.size
 noex:∀b o,X.base.get? b=sI o->b ∉ X.ex
 exfs:∀b ∈ X.ex,b ∉ X.fs
 funs:X.s₀.heap.FunFrames X.base X.outer
 frf:∀b ∈ X.fs,X.H₀ b=sJ
structure Inv(X:Cx)(sM:List (oO × pE))(σ:List (Option V))(H:Hp)(s:oQ):Prop where
 ok:X.Ok
 os:s.os=X.s₀.os
 bare:rA s.gens
 base:Un X.fs X.ex X.H₀ H X.s₀.heap s.heap
 loc:∃m,s.heap.Ns X.env.locals m/\∀(i:Nat) (x:oV) (v:V),X.N[i]? = sI x->σ[i]? = sI (sI v)->Vis X.env.scope x->∃u,RelV v u/\zdh X.env s.heap m x u
 cell:∀x c,X.env.cells.lookup x=sI c->∃v,s.heap.IsCell c v
 free:H X.env.locals=sJ
 freeC:∀x c,X.env.cells.lookup x=sI c->H c=sJ
 pin:∀p ∈ X.pn ++ sM,s.heap.get? p.1=sI p.2/\H p.1=sJ/\p.1≠X.env.locals/\p.1 ∉ X.fs/\∀v,p.2.data≠.cell v
 hok:HOk X.prog X.w H s.heap
 len:σ.length=X.N.length
section
variable{X:Cx}{sM:List (oO × pE)}{σ:List (Option V)}{H H':Hp}{s:oQ}{h':oZ}
theorem Cx.Ok.nofr(ok:X.Ok){b:oO}{o:pE}(e:X.base.get? b=sI o):b ∉ X.fs:=λhb=>by
 have:=(ok.funs.mem hb).1
 rw[e] at this;cases this
theorem Inv.bs(I:Inv X sM σ H s):∀b o,X.base.get? b=sI o->s.heap.get? b=sI o/\H b=sJ:=λb o e =>
 ⟨I.base.keep b o (I.ok.bs b o e).1 (I.ok.bs b o e).2 (I.ok.nofr e) (I.ok.noex b o e),I.base.free b o (I.ok.bs b o e).1 (I.ok.bs b o e).2 (I.ok.noex b o e)⟩
theorem Inv.bk(I:Inv X sM σ H s):∀b o,X.base.get? b=sI o->s.heap.get? b=sI o:=λb o e=>(I.bs b o e).1
theorem Inv.mod(I:Inv X sM σ H s):Mod X.K X.mg X.base:=I.ok.mod
theorem Inv.kIn(I:Inv X sM σ H s):X.K.In s.heap:=I.ok.mod.kin.keeps I.bk
theorem Inv.nolimit(I:Inv X sM σ H s):s.heap.NoLimit:=I.ok.mod.nolimit.keeps I.bk
theorem Inv.fr(I:Inv X sM σ H s):∃m,Fr X.base X.env.locals s.heap m :=
 let ⟨m,hn,_⟩:=I.loc
 ⟨m,hn,I.bk,aJ I.ok.bsz I.ok.above⟩
theorem Inv.lt(I:Inv X sM σ H s):X.env.locals<s.heap.objs.size:=let ⟨_,hn,_⟩:=I.loc;hn.lt
theorem Inv.sz(I:Inv X sM σ H s):X.s₀.heap.objs.size<=s.heap.objs.size:=aJ I.ok.above (dj I.lt)
theorem Inv.nofs(I:Inv X sM σ H s){a:oO}(h:s.heap.objs.size<=a):a ∉ X.fs:=λhb=>by
 obtain⟨_,o,ho,_⟩:=I.ok.funs.mem hb
 exact absurd (av (aq ho) (aJ I.sz h)) (cI _)
theorem Inv.cne(I:Inv X sM σ H s):∀x c,X.env.cells.lookup x=sI c->c≠X.env.locals:=λx c e z=>by
 obtain⟨v,o,ho,hd⟩:=I.cell x c e
 obtain⟨m,⟨o',es,ep,ho',hd',_⟩,_⟩:=I.loc
 rw[z,ho'] at ho;cases ho;rw[hd'] at hd;cases hd
theorem Inv.funs(I:Inv X sM σ H s):s.heap.FunFrames X.base X.outer:=by
 have all:∀(l:List rP),(∀b ∈ frs l,b ∈ X.fs)->X.s₀.heap.FunFrames X.base l->s.heap.FunFrames X.base l:=by
  intro l
  induction l with
  | nil=>intro _ _;trivial
  | cons env r ih =>
   intro hs hl
   obtain⟨hk,⟨L,o,hf,hn,ho,hd⟩,hr⟩:=hl
   have hL:L ∈ X.fs:=hs L (by unfold frs;rw[dU,hf];exact aB)
   obtain⟨sl,e⟩:=I.base.slot L o ho (I.ok.frf L hL) hL λz=>I.ok.exfs L z hL
   exact⟨hk,⟨L,_,hf,hn,e,hd⟩,ih (λb hb=>hs b (by unfold frs;rw[dU,hf];exact ao _ hb)) hr⟩
 exact all X.outer (λ_ hb=>hb) I.ok.funs
theorem Inv.stack(I:Inv X sM σ H s):s.heap.FunFrames X.base X.stack:=by
 rcases I.ok.stk with e | ⟨e,hf⟩
 ·rw[e];exact I.funs
 ·rw[e]
  obtain⟨m,hn,_⟩:=I.loc
  refine .cons (by rw[I.ok.kind];decide) hf hn ?_ I.funs
  exact Heap.get?_none_of_le (aJ I.ok.bsz I.ok.above)
theorem Inv.stkSub(I:Inv X sM σ H s):∀b ∈ frs X.stack,b ∈ X.env.locals::X.fs:=λb hb=>by
 rcases I.ok.stk with e | ⟨e,hf⟩
 ·rw[e] at hb;exact ao _ hb
 ·rw[e] at hb
  unfold frs at hb
  rw[dU,hf] at hb
  exact hb
theorem Inv.stkFree(I:Inv X sM σ H s):∀b ∈ frs X.stack,H b=sJ:=λb hb=>by
 rcases sU.mp (I.stkSub b hb) with e | hb
 ·rw[e];exact I.free
 ·obtain⟨_,o,ho,_⟩:=I.ok.funs.mem hb
  exact I.base.free b o ho (I.ok.frf b hb) λz=>I.ok.exfs b z hb
theorem Inv.step{g':Array sv}{t':Nat}{d':Drawn}{ch:List oO}(I:Inv X sM σ H s)
  (hch:∀b ∈ ch,(b ∈ X.ex\/X.s₀.heap.objs.size<=b)/\b≠X.env.locals/\(∀x c,X.env.cells.lookup x=sI c->c≠b)/\∀p ∈ X.pn ++ sM,p.1≠b)
  (keep:∀b o,b≠X.env.locals->b ∉ X.fs->b ∉ ch->s.heap.get? b=sI o->H b=sJ->h'.get? b=sI o)
  (slot:∀b o,b≠X.env.locals->b ∈ X.fs->b ∉ ch->s.heap.get? b=sI o->H b=sJ->∃sl,h'.get? b=sI { o with slots:=sl }) (free:∀b o,b ∉ ch->s.heap.get? b=sI o->H b=sJ->H' b=sJ)
  (there:∀b o,b ∉ ch->s.heap.get? b=sI o->∃o',h'.get? b=sI o')
  (tups:∀b xs,H b=sI (.tup xs)->H' b=sI (.tup xs)) (frzs:∀b o u,H b=sI (.frz o u)->H' b=sI (.frz o u)) (tbls:∀b ps,H b=sI (.tbl ps)->∃more,H' b=sI (.tbl (ps ++ more)))
  (ns:∀m,s.heap.Ns X.env.locals m->h'.Ns X.env.locals m) (hok:HOk X.prog X.w H' h') (hg:rA g') :
  Inv X sM σ H' { s with heap:=h',gens:=g',drawn:=d',toks:=t' }:=by
 have neL:∀b o,X.s₀.heap.get? b=sI o->b≠X.env.locals:=λb o e=>aw (av (aq e) I.ok.above)
 have neC:∀b o,X.s₀.heap.get? b=sI o->b ∉ X.ex->b ∉ ch:=λb o e hx hb=>by
  rcases (hch b hb).1 with z | z
  ·exact hx z
  ·exact absurd (av (aq e) z) (cI _)
 have cellK:∀x c,X.env.cells.lookup x=sI c->∀v,s.heap.IsCell c v->h'.IsCell c v:=λx c e v ⟨o,ho,hd⟩=>by
  have nch:c ∉ ch:=λz=>(hch c z).2.2.1 x c e rfl
  by_cases hc:c ∈ X.fs
  ·obtain⟨sl,q⟩:=slot c o (I.cne x c e) hc nch ho (I.freeC x c e)
   exact⟨_,q,hd⟩
  ·exact⟨o,keep c o (I.cne x c e) hc nch ho (I.freeC x c e),hd⟩
 refine⟨I.ok,I.os,hg,⟨λb o e n hb hx=>?_,λb o e n hb hx=>?_,λb o e n hx=>?_,λb o e hx=>?_,λb xs e=>tups b xs (I.base.tups b xs e),λb o xs e=>frzs b o xs (I.base.frzs b o xs e),λb ps e=>?_⟩,?_,λx c e=>?_,?_,λx c e=>?_,λp hp=>?_,hok,I.len⟩
 ·exact keep b o (neL b o e) hb (neC b o e hx) (I.base.keep b o e n hb hx) (I.base.free b o e n hx)
 ·obtain⟨sl,e1⟩:=I.base.slot b o e n hb hx
  obtain⟨sl',e2⟩:=slot b _ (neL b o e) hb (neC b o e hx) e1 (I.base.free b o e n hx)
  exact⟨sl',e2⟩
 ·obtain⟨o',e1⟩:=I.base.there b o e hx
  exact free b o' (neC b o e hx) e1 (I.base.free b o e n hx)
 ·obtain⟨o',e1⟩:=I.base.there b o e hx
  exact there b o' (neC b o e hx) e1
 ·obtain⟨m1,e1⟩:=I.base.tbls b ps e
  obtain⟨m2,e2⟩:=tbls b _ e1
  exact⟨m1 ++ m2,by rw[e2,Array.append_assoc]⟩
 ·obtain⟨m,hn,hl⟩:=I.loc
  refine⟨m,ns m hn,λi x v e1 e2 e3=>?_⟩
  obtain⟨u,r,l⟩:=hl i x v e1 e2 e3
  refine⟨u,r,?_⟩
  rcases l with l | ⟨k,c,e,z⟩
  ·exact .inl l
  ·exact .inr ⟨k,c,e,cellK x c e _ z⟩
 ·obtain⟨v,z⟩:=I.cell x c e
  exact⟨v,cellK x c e v z⟩
 ·obtain⟨m,⟨o,_,_,ho,_⟩,_⟩:=I.loc
  exact free _ o (λz=>(hch _ z).2.1 rfl) ho I.free
 ·obtain⟨v,o,ho,hd⟩:=I.cell x c e
  exact free c o (λz=>(hch c z).2.2.1 x c e rfl) ho (I.freeC x c e)
 ·obtain⟨e,n,ne,nf,d⟩:=I.pin p hp
  have nch:p.1 ∉ ch:=λz=>(hch p.1 z).2.2.2 p hp rfl
  exact⟨keep p.1 p.2 ne nf nch e n,free p.1 p.2 nch e n,ne,nf,d⟩
theorem Inv.un{t':Nat}(I:Inv X sM σ H s)(u:Un X.fs [] H H' s.heap h')(hok:HOk X.prog X.w H' h'):Inv X sM σ H' { s with heap:=h',toks:=t' }:=by
 obtain⟨m,⟨o,es,ep,ho,r⟩,_⟩:=id I.loc
 obtain⟨sl,hL⟩:=u.any ho I.free (by simp)
 exact I.step (g':=s.gens) (d':=s.drawn) (ch:=[]) (λ_ z=>nomatch z) (λb o _ hb _ e n=>u.keep b o e n hb (by simp)) (λb o _ hb _ e n=>u.slot b o e n hb (by simp)) (λb o _ e n=>u.free b o e n (by simp)) (λb o _ e=>u.there b o e (by simp)) u.tups u.frzs u.tbls (λm' hm=>by
  obtain⟨o',es',ep',ho',r'⟩:=hm
  rw[ho] at ho';cases ho'
  exact⟨_,es',ep',hL,r'⟩) hok I.bare
theorem Inv.call{g':Array sv}{t':Nat}{d':Drawn}{ch:List oO}(I:Inv X sM σ H s)(u:Un (frs X.stack) ch H H' s.heap h')(hok:HOk X.prog X.w H' h')(hg:rA g')
  (hch:∀b ∈ ch,(b ∈ X.ex\/X.s₀.heap.objs.size<=b)/\b≠X.env.locals/\(∀x c,X.env.cells.lookup x=sI c->c≠b)/\∀p ∈ X.pn ++ sM,p.1≠b) :
  Inv X sM σ H' { s with heap:=h',gens:=g',drawn:=d',toks:=t' }:=by
 obtain⟨m,⟨o,es,ep,ho,r⟩,_⟩:=id I.loc
 obtain⟨sl,hL⟩:=u.any ho I.free λz=>(hch _ z).2.1 rfl
 exact I.step (ch:=ch) hch (λb o hL hb hc e n=>u.keep b o e n (λz=>(sU.mp (I.stkSub b z)).elim hL hb) hc) (λb o _ _ hc e n=>u.any e n hc) (λb o hc e n=>u.free b o e n hc) (λb o hc e=>u.there b o e hc) u.tups u.frzs u.tbls (λm' hm=>by
  obtain⟨o',es',ep',ho',r'⟩:=hm
  rw[ho] at ho';cases ho'
  exact⟨_,es',ep',hL,r'⟩) hok hg
theorem Inv.turned{t':Nat}{it:oO}(I:Inv X sM σ H s)(k:∀b o,b≠it->s.heap.get? b=sI o->h'.get? b=sI o)(hn:H it=sJ)(hL:it≠X.env.locals)
  (h1:it ∈ X.ex\/X.s₀.heap.objs.size<=it) (h2:∀x c,X.env.cells.lookup x=sI c->c≠it) (h3:∀p ∈ X.pn ++ sM,p.1≠it):Inv X sM σ H { s with heap:=h',toks:=t' }:=by
 have nit:∀b u,H b=sI u->b≠it:=λb u e z=>by rw[z,hn] at e;cases e
 refine I.step (g':=s.gens) (d':=s.drawn) (ch:=[it]) (λb hb=>?_) (λb o _ _ hc e _=>k b o (λz=>hc (by simp [z])) e) (λb o _ _ hc e _=>⟨o.slots,k b o (λz=>hc (by simp [z])) e⟩) (λ_ _ _ _ n=>n)
  (λb o hc e=>⟨o,k b o (λz=>hc (by simp [z])) e⟩) (λ_ _ e=>e) (λ_ _ _ e=>e) (λb ps e=>⟨#[],by rw[e];simp⟩) (λm hm=>?_) (λb u e=>?_) I.bare
 ·have e:b=it:=by simpa using hb
  subst e
  exact⟨h1,hL,h2,h3⟩
 ·obtain⟨o,es,ep,ho,r⟩:=hm
  exact⟨o,es,ep,k _ o (Ne.symm hL) ho,r⟩
 ·refine (I.hok b u e).stay (λc v hc q=>k c v ?_ q) (λ_ q=>q) λ_ _ q=>q
  rcases hc with z | z
  ·rw[z];exact nit b u e
  ·exact nit c _ z
theorem Inv.tok(I:Inv X sM σ H s)(t:Nat):Inv X sM σ H { s with toks:=t }:=I.un (h':=s.heap) (t':=t) Un.refl I.hok
theorem Inv.kept{t':Nat}(I:Inv X sM σ H s)(k:∀b u,s.heap.get? b=sI u->h'.get? b=sI u):Inv X sM σ H { s with heap:=h',toks:=t' }:=I.un (Un.kept k) (I.hok.kept k)
theorem Inv.laid{a:oO}{o:HO}{t':Nat}(I:Inv X sM σ H s)(k:∀b u,s.heap.get? b=sI u->h'.get? b=sI u)(hp:s.heap.objs.size<=a)(new:ObjOk X.prog X.w (upd H a o) h' a o) :
  Inv X sM σ (upd H a o) { s with heap:=h',toks:=t' }:=I.un (Un.laid k hp (I.hok.fresh hp)) (I.hok.laid k hp new)
theorem Inv.write{x e:oO}{o:HO}{t':Nat}(I:Inv X sM σ H s)(mu:Mut (H x))(he:e=x\/H e=sI (.own x))(k:∀b u,b≠e->s.heap.get? b=sI u->h'.get? b=sI u)(heo:∃u,h'.get? e=sI u)
  (new:ObjOk X.prog X.w (upd H x o) h' x o):Inv X sM σ (upd H x o) { s with heap:=h',toks:=t' }:=I.un (Un.write mu he k heo) (I.hok.write mu he k heo new)
theorem Inv.weak{σ':List (Option V)}(I:Inv X sM σ H s)(hl:σ'.length=σ.length)(w:∀(i:Nat) v,σ'[i]? = sI (sI v)->σ[i]? = sI (sI v)):Inv X sM σ' H s :=
 ⟨I.ok,I.os,I.bare,I.base,let ⟨m,hn,hl'⟩:=I.loc; ⟨m,hn,λi x v e1 e2 e3=>hl' i x v e1 (w i v e2) e3⟩,I.cell,I.free,I.freeC,I.pin,I.hok,hl.trans I.len⟩
theorem Inv.pins_of{pins':List (oO × pE)}(I:Inv X sM σ H s)(h:∀p ∈ pins',s.heap.get? p.1=sI p.2/\H p.1=sJ/\p.1≠X.env.locals/\p.1 ∉ X.fs/\∀v,p.2.data≠.cell v):Inv X pins' σ H s :=
 ⟨I.ok,I.os,I.bare,I.base,I.loc,I.cell,I.free,I.freeC,λp hp=>(sV.mp hp).elim (λz=>I.pin p (bj _ z)) (h p),I.hok,I.len⟩
theorem jV{N:List oV}(hN:N.Nodup){i j:Nat}{x:oV}(a:N[i]? = sI x)(b:N[j]? = sI x):i=j:=by
 obtain⟨h1,e1⟩:=sQ.mp a
 obtain⟨h2,e2⟩:=sQ.mp b
 exact (List.getElem_inj hN).mp (e1.trans e2.symm)
theorem Zi{M:sj}{A:oX}{E:oP->oQ->Prop}{i:Nat}{x:oV}{v:V}{u:oP}{Q:Unit->oQ->Prop}(I:Inv X sM σ H s)(hN:X.N.Nodup)(hi:X.N[i]? = sI x)(hx:Loc X.env.scope x)(r:RelV v u)
  (h:∀s',Inv X sM (σ.set i (sI v)) H s'->(∃a,Heap.SameBut a s.heap s'.heap/\(a=X.env.locals\/X.env.cells.lookup x=sI a))->Q () s') (hf:X.fn x=sK\/X.env.scope.names.lookup x=sI .local:=by first | exact .inl rfl | exact .inr rfl | assumption):oR M A (storeName X.env x u) Q E s:=by
 obtain⟨m,hn,hl⟩:=id I.loc
 have hcls:(X.env.scope.kind == .class || (X.env.scope.kind == .module && X.env.locals != X.env.globals))=sL:=by rw[I.ok.kind];rfl
 have hiσ:i<σ.length:=by rw[I.len];exact (sQ.mp hi).1
 have cne:=I.cne
 have tracked:∀{a:oO} {h':oZ},(∃o,s.heap.get? a=sI o/\H a=sJ)->Heap.SameBut a s.heap h'->HOk X.prog X.w H h':=λ{a h'} ha hs b ob e=>by
  obtain⟨_,_,hfree⟩:=ha
  refine (I.hok b ob e).stay (λc w' hc q=>(hs.2 c ?_).trans q) (λ_ q=>q) λ_ _ q=>q
  rintro rfl
  rcases hc with rfl | hc
  ·rw[hfree] at e;cases e
  ·rw[hfree] at hc;cases hc
 rcases hx with hk | hk
 ·refine wpAny_storeName_local hk hn (λh' hn' hs=>?_) hcls
  obtain⟨oL,_,_,hoL,_⟩:=id hn
  refine h _ ⟨I.ok,I.os,I.bare,⟨λb o e n hb hx=>?_,λb o e n hb hx=>?_,I.base.free,λb o e hx=>?_,I.base.tups,I.base.frzs,I.base.tbls⟩,⟨_,hn',λj y v' e1 e2 e3=>?_⟩,λy c e=>?_,I.free,I.freeC,λp hp=>?_,tracked ⟨oL,hoL,I.free⟩ hs,by simpa using I.len⟩ ⟨_,hs,.inl rfl⟩
  ·exact (hs.2 b (aw (av (aq e) I.ok.above))).trans (I.base.keep b o e n hb hx)
  ·obtain⟨sl,e1⟩:=I.base.slot b o e n hb hx
   exact⟨sl,(hs.2 b (aw (av (aq e) I.ok.above))).trans e1⟩
  ·obtain⟨o',e1⟩:=I.base.there b o e hx
   exact⟨o',(hs.2 b (aw (av (aq e) I.ok.above))).trans e1⟩
  ·by_cases hj:j=i
   ·subst hj
    rw[hi] at e1;cases e1
    rw[dA hiσ] at e2
    cases e2
    exact⟨u,r,.inl ⟨hk,by simp⟩⟩
   ·rw[dJ (Ne.symm hj)] at e2
    obtain⟨u',r',q⟩:=hl j y v' e1 e2 e3
    refine⟨u',r',?_⟩
    rcases q with ⟨k,e⟩ | ⟨k,c,e,z⟩
    ·refine .inl ⟨k,?_⟩
     have:y≠x:=λe=>hj (jV hN e1 (e ▸ hi))
     simp [this,e]
    ·exact .inr ⟨k,c,e,z.sameBut hs (cne y c e)⟩
  ·obtain⟨w',z⟩:=I.cell y c e
   exact⟨w',z.sameBut hs (cne y c e)⟩
  ·obtain⟨e,n,ne,nf,d⟩:=I.pin p hp
   exact⟨(hs.2 p.1 ne).trans e,n,ne,nf,d⟩
 ·have hfn:X.fn x=sK:=by
   rcases hf with z | z
   ·exact z
   ·rw[z] at hk;cases hk
  obtain⟨c,hc⟩:=I.ok.has x (.inl hk)
  obtain⟨w',z⟩:=I.cell x c hc
  refine wpAny_storeName_cell I.ok.kind hk hc z (λh' hc' hs=>?_)
  obtain⟨oc,hoc,hocd⟩:=id z
  refine h { s with heap:=h' } ⟨I.ok,I.os,I.bare,⟨λb o e n hb hx=>?_,λb o e n hb hx=>?_,I.base.free,λb o e hx=>?_,I.base.tups,I.base.frzs,I.base.tbls⟩,⟨m,hn.sameBut hs (Ne.symm (cne x c hc)),λj y v' e1 e2 e3=>?_⟩,λy c' e=>?_,I.free,I.freeC,λp hp=>?_,tracked ⟨oc,hoc,I.freeC x c hc⟩ hs,by simpa using I.len⟩ ⟨c,hs,.inr hc⟩
  ·exact (hs.2 b (aw (av (aq e) (I.ok.cab x c hfn hc)))).trans (I.base.keep b o e n hb hx)
  ·obtain⟨sl,e1⟩:=I.base.slot b o e n hb hx
   exact⟨sl,(hs.2 b (aw (av (aq e) (I.ok.cab x c hfn hc)))).trans e1⟩
  ·obtain⟨o',e1⟩:=I.base.there b o e hx
   exact⟨o',(hs.2 b (aw (av (aq e) (I.ok.cab x c hfn hc)))).trans e1⟩
  ·by_cases hj:j=i
   ·subst hj
    rw[hi] at e1;cases e1
    rw[dA hiσ] at e2
    cases e2
    exact⟨u,r,.inr ⟨.inl hk,c,hc,hc'⟩⟩
   ·rw[dJ (Ne.symm hj)] at e2
    obtain⟨u',r',q⟩:=hl j y v' e1 e2 e3
    refine⟨u',r',?_⟩
    rcases q with q | ⟨k,c',e,z'⟩
    ·exact .inl q
    ·refine .inr ⟨k,c',e,z'.sameBut hs ?_⟩
     rintro rfl
     exact hj (jV hN e1 (I.ok.inj _ _ _ e hc ▸ hi))
  ·by_cases hcc:c'=c
   ·subst hcc;exact⟨_,hc'⟩
   ·obtain⟨w2,z2⟩:=I.cell y c' e
    exact⟨w2,z2.sameBut hs hcc⟩
  ·obtain⟨e,n,ne,nf,d⟩:=I.pin p hp
   refine⟨(hs.2 p.1 ?_).trans e,n,ne,nf,d⟩
   intro q
   rw[q,hoc] at e
   have q':oc=p.2:=Option.some.inj e
   exact d w' (by rw[<- q'];exact hocd)
theorem uW{M:sj}{A:oX}{E:oP->oQ->Prop}{i:Nat}{x:oV}{v:V}{u:oP}{Q:Unit->oQ->Prop}(I:Inv X sM σ H s)(hN:X.N.Nodup)(hi:X.N[i]? = sI x)(hx:Loc X.env.scope x)(r:RelV v u)
  (h:∀s',Inv X sM (σ.set i (sI v)) H s'->Q () s') (hf:X.fn x=sK\/X.env.scope.names.lookup x=sI .local:=by first | exact .inl rfl | exact .inr rfl | assumption):oR M A (storeName X.env x u) Q E s :=
 Zi I hN hi hx r (λs' I' _=>h s' I') hf
theorem Inv.call'{s':oQ}{ch:List oO}(I:Inv X sM σ H s)(ho:s'.os=s.os)(u:Un (frs X.stack) ch H H' s.heap s'.heap)(hok:HOk X.prog X.w H' s'.heap)(hg:rA s'.gens)
  (hch:∀b ∈ ch,(b ∈ X.ex\/X.s₀.heap.objs.size<=b)/\b≠X.env.locals/\(∀x c,X.env.cells.lookup x=sI c->c≠b)/\∀p ∈ X.pn ++ sM,p.1≠b):Inv X sM σ H' s':=by
 obtain⟨h',g',d',t',o'⟩:=s'
 have e:o'=s.os:=ho
 subst e
 exact I.call (g':=g') (t':=t') (d':=d') u hok hg hch
end
noncomputable abbrev XK:=oP->Option oO->Hp->Prop
noncomputable abbrev St:=List (Option V)
noncomputable abbrev VK:=V->Hp->Prop
noncomputable abbrev TE:=St->Hp->VK->Prop
noncomputable abbrev TT:=St->Hp->(Bool->Hp->Prop)->Prop
noncomputable abbrev TA:=St->Hp->(List V->Hp->Prop)->Prop
structure vg where
 nx:St->Hp->Prop
 rt:VK
 bk:St->Hp->Prop:=λ_ _=>False
 ct:St->Hp->Prop:=λ_ _=>False
noncomputable abbrev TS:=vg->St->Hp->Prop
def EP(X:Cx)(sM:List (oO × pE))(σ:St)(Q:VK)(u:oP)(s':oQ):Prop:=∃v H',Inv X sM σ H' s'/\RelV v u/\Q v H'
def TP(X:Cx)(sM:List (oO × pE))(σ:St)(Q:Bool->Hp->Prop)(b:Bool)(s':oQ):Prop:=∃H',Inv X sM σ H' s'/\Q b H'
def AP(X:Cx)(sM:List (oO × pE))(σ:St)(Q:List V->Hp->Prop)(us:List oP)(s':oQ):Prop:=∃vs H',Inv X sM σ H' s'/\Vals vs us/\Q vs H'
def SP(X:Cx)(sM:List (oO × pE))(D:vg)(f:Flow)(s':oQ):Prop :=
 match f with
 | .next=>∃σ' H',Inv X sM σ' H' s'/\D.nx σ' H'
 | .brk=>∃σ' H',Inv X sM σ' H' s'/\D.bk σ' H'
 | .cont=>∃σ' H',Inv X sM σ' H' s'/\D.ct σ' H'
 | .ret u=>∃v σ' H',Inv X sM σ' H' s'/\RelV v u/\D.rt v H'
def PE(X:Cx)(e:oY)(t:TE):Prop :=
 ∀(sM:List (oO × pE)) (s:oQ) (σ:St) (H:Hp) (Q:VK),Inv X sM σ H s->t σ H Q->oR (model X.prog X.w) X.A (eval e X.env) (EP X sM σ Q) X.xe s
def PT(X:Cx)(e:oY)(t:TT):Prop :=
 ∀(sM:List (oO × pE)) (s:oQ) (σ:St) (H:Hp) (Q:Bool->Hp->Prop),Inv X sM σ H s->t σ H Q->oR (model X.prog X.w) X.A (isTrue e X.env (eval e X.env)) (TP X sM σ Q) X.xe s
def PW(X:Cx)(e:oY)(t:TT):Prop :=
 ∀(whole:sB oP) (sM:List (oO × pE)) (s:oQ) (σ:St) (H:Hp) (Q:Bool->Hp->Prop),Inv X sM σ H s->t σ H Q->oR (model X.prog X.w) X.A (isTrue e X.env whole) (TP X sM σ Q) X.xe s
theorem PW.pt{X:Cx}{e:oY}{t:TT}(h:PW X e t):PT X e t:=h _
def PA(X:Cx)(es:List oY)(t:TA):Prop :=
 ∀(pos:pW) (sM:List (oO × pE)) (s:oQ) (σ:St) (H:Hp) (Q:List V->Hp->Prop),Inv X sM σ H s->t σ H Q->oR (model X.prog X.w) X.A (spliced (pq pos (oK es X.env))) (AP X sM σ Q) X.xe s
def PS(X:Cx)(st:pb)(t:TS):Prop :=
 ∀(sM:List (oO × pE)) (s:oQ) (σ:St) (H:Hp) (D:vg),Inv X sM σ H s->t D σ H->oR (model X.prog X.w) X.A (exec st X.env) (SP X sM D) X.xe s
def PSs(X:Cx)(st:List pb)(t:TS):Prop :=
 ∀(sM:List (oO × pE)) (s:oQ) (σ:St) (H:Hp) (D:vg),Inv X sM σ H s->t D σ H->oR (model X.prog X.w) X.A (execs st X.env) (SP X sM D) X.xe s
theorem thn{α:Type}{t:sB α}{Q Q':α->oQ->Prop}{M:sj}{A:oX}{E:oP->oQ->Prop}{s:oQ}(h:oR M A t Q E s)(hQ:∀a s,Q a s->Q' a s):oR M A t Q' E s:=pY h hQ λ_ _ x=>x
end L2
namespace L2
section
variable{X:Cx}
theorem bin{a b:oY}{ta tb:TE}(ha:PE X a ta)(hb:PE X b tb){sM:List (oO × pE)}{s:oQ}{σ:St}{H:Hp}{R:V->V->Hp->Prop}(I:Inv X sM σ H s)(h:ta σ H λx H1=>tb σ H1 λy H2=>R x y H2)
  {α:Type} {Q:α->oQ->Prop} {f:oP->oP->sB α}
  (hf:∀v u s2 x y H2,Inv X sM σ H2 s2->RelV x v->RelV y u->R x y H2->oR (model X.prog X.w) X.A (f v u) Q X.xe s2) :
  oR (model X.prog X.w) X.A (eval a X.env) (λv s₁=>oR (model X.prog X.w) X.A (eval b X.env) (λu s₂=>oR (model X.prog X.w) X.A (f v u) Q X.xe s₂) X.xe s₁) X.xe s:=by
 refine thn (ha sM s σ H _ I h) λv s1 ⟨x,H1,I1,r1,q1⟩=>?_
 refine thn (hb sM s1 σ H1 _ I1 q1) λu s2 ⟨y,H2,I2,r2,q2⟩=>?_
 exact hf v u s2 x y H2 I2 r1 r2 q2
def yo(i:Nat):TE:=λσ H Q=>∃v,σ[i]? = sI (sI v)/\Q v H
def tC(v:V):TE:=λ_ H Q=>Q v H
theorem zae{i:Nat}{x:oV}{pos:pW}(hN:X.N[i]? = sI x)(hv:Vis X.env.scope x)(hd:(x == ("__debug__" : oV))=sL:=by decide)(hcd:(x == ("__classdict__" : oV))=sL:=by decide):PE X (.Name x pos) (yo i):=by
 intro sM s σ H Q I h
 obtain⟨v,e,h⟩:=h
 obtain⟨m,hn,hl⟩:=I.loc
 obtain⟨u,r,l⟩:=hl i x v hN e hv
 have fin:EP X sM σ Q u s:=⟨v,H,I,r,h⟩
 rcases l with ⟨hk,hm⟩ | ⟨hk,c,hc,hcell⟩
 ·exact sE (wpAny_loadName_local I.ok.kind hk hn hm fin) hd
 ·rcases hk with hk | hk
  ·exact sE (wpAny_loadName_cell I.ok.kind hk hc hcell fin) hd
  ·exact sE (wpAny_loadName_free I.ok.kind hk hc hcell fin hcd) hd
theorem zf{i j pos}:PE X (.Constant (.int i) j pos) (tC (.int i)):=λ_ _ _ H _ I h=>wpAny_Constant_int ⟨.int i,H,I.tok _,⟨_,rfl⟩,h⟩
theorem yw{b j pos}:PE X (.Constant (.bool b) j pos) (tC (.bl b)):=λ_ _ _ H _ I h=>Constant_bool ⟨.bl b,H,I,rfl,h⟩
theorem wn{j pos}:PE X (.Constant .none j pos) (tC .non):=λ_ _ _ H _ I h=>Constant_none ⟨.non,H,I,rfl,h⟩
theorem xf{x j pos}:PE X (.Constant (.str x) j pos) (tC (.str x)):=λ_ _ _ H _ I h=>Calls.Constant_str ⟨.str x,H,I.tok _,⟨_,rfl⟩,h⟩
def Gl(X:Cx)(x:oV):Prop:=X.env.kindOf x=sI .globalImplicit
theorem wD{E:oP->oQ->Prop}{sM:List (oO × pE)}{s:oQ}{σ:St}{H:Hp}{x:oV}{u:oP}{pos:pW}{Q:oP->oQ->Prop}(I:Inv X sM σ H s)(hg:Gl X x)(hm:X.mg x=sI u)(h:Q u s)
  (hd:(x == ("__debug__" : oV))=sL:=by decide):oR (model X.prog X.w) X.A (eval (.Name x pos) X.env) Q E s :=
 Calls.Name_function_global I.ok.kind hg (Calls.loadGlobal_global (by rw[I.ok.glob];exact I.mod.glob.keeps I.bk) hm h) hd
theorem vc{E:oP->oQ->Prop}{sM:List (oO × pE)}{s:oQ}{σ:St}{H:Hp}{x:oV}{u:oP}{pos:pW}{Q:oP->oQ->Prop}(I:Inv X sM σ H s)(hg:Gl X x)(hm:X.mg x=sJ)(hv:pF x=sI u)(h:Q u s)
  (hn:x≠"__name__":=by decide) (hd:(x == ("__debug__" : oV))=sL:=by decide):oR (model X.prog X.w) X.A (eval (.Name x pos) X.env) Q E s:=by
 obtain⟨mb,h1,h2⟩:=I.mod.blt
 exact Calls.Name_function_global I.ok.kind hg (Calls.loadGlobal_builtin (by rw[I.ok.glob];exact I.mod.glob.keeps I.bk) hm (by rw[I.ok.blt];exact h1.keeps I.bk) ((h2 x hn).trans hv) h) hd
theorem yK{x:oV}{v:V}{u:oP}{pos:pW}(hg:Gl X x)(hm:X.mg x=sI u)(r:RelV v u)(hd:(x == ("__debug__" : oV))=sL:=by decide):PE X (.Name x pos) (tC v) :=
 λ_ _ _ H _ I h=>wD I hg hm ⟨v,H,I,r,h⟩ hd
theorem Kr{x:oV}{v:V}{u:oP}{pos:pW}(hg:Gl X x)(hm:X.mg x=sJ)(hv:pF x=sI u)(r:RelV v u)(hn:x≠"__name__":=by decide)(hd:(x == ("__debug__" : oV))=sL:=by decide):PE X (.Name x pos) (tC v) :=
 λ_ _ _ H _ I h=>vc I hg hm hv ⟨v,H,I,r,h⟩ hn hd
variable{a b:oY}{ta tb:TE}{pos:pW}
variable{tA tB':TT}{rest:List oY}
def zcP(t u:TT):TT:=λσ H Q=>t σ H λc H1=>if c=sK then u σ H1 Q else Q sL H1
def tOr(t u:TT):TT:=λσ H Q=>t σ H λc H1=>if c=sK then Q sK H1 else u σ H1 Q
def zbI(t:TT):TT:=λσ H Q=>t σ H λc H1=>Q (!c) H1
theorem JS(ha:PT X a tA):PW X (.BoolOp .And [a] pos) tA:=by
 intro wh sM s σ H Q I h
 refine isTrue_and (thn (ha sM s σ H Q I h) λc s1 e=>?_)
 cases c with
 | true=>exact isTrue_and_nil e
 | false=>exact e
theorem uo(ha:PT X a tA):PW X (.BoolOp .Or [a] pos) tA:=by
 intro wh sM s σ H Q I h
 refine isTrue_or (thn (ha sM s σ H Q I h) λc s1 e=>?_)
 cases c with
 | false=>exact isTrue_or_nil e
 | true=>exact e
theorem zaO(ha:PT X a tA)(hb:PW X (.BoolOp .And (b::rest) pos) tB'):PW X (.BoolOp .And (a::b::rest) pos) (zcP tA tB'):=by
 intro wh sM s σ H Q I h
 refine isTrue_and (thn (ha sM s σ H _ I h) λc s1 ⟨H1,I1,q1⟩=>?_)
 cases c with
 | true=>exact hb wh sM s1 σ H1 Q I1 q1
 | false=>exact⟨H1,I1,q1⟩
theorem qS(ha:PT X a tA)(hb:PW X (.BoolOp .Or (b::rest) pos) tB'):PW X (.BoolOp .Or (a::b::rest) pos) (tOr tA tB'):=by
 intro wh sM s σ H Q I h
 refine isTrue_or (thn (ha sM s σ H _ I h) λc s1 ⟨H1,I1,q1⟩=>?_)
 cases c with
 | true=>exact⟨H1,I1,q1⟩
 | false=>exact hb wh sM s1 σ H1 Q I1 q1
theorem yd(ha:PT X a tA):PT X (.UnaryOp .Not a pos) (zbI tA):=by
 intro sM s σ H Q I h
 exact isTrue_not (ha sM s σ H (λc H1=>Q (!c) H1) I h)
def zbg(ta tb:TE):TE:=λσ H Q=>ta σ H λx H1=>∃c,x=.bl c/\if c=sK then tb σ H1 Q else Q (.bl sL) H1
def zdE(ta tb:TE):TE:=λσ H Q=>ta σ H λx H1=>∃c,x=.bl c/\if c=sK then Q (.bl sK) H1 else tb σ H1 Q
def Qi(ta:TE):TE:=λσ H Q=>ta σ H λx H1=>∃c,x=.bl c/\Q (.bl (!c)) H1
theorem zah{op}{t:TE}(h:PE X a t):PE X (.BoolOp op [a] pos) t:=λsM s σ H Q I hw=>BoolOp_one (h sM s σ H Q I hw)
theorem zat(ha:PE X a ta)(hb:PE X (.BoolOp .And (b::rest) pos) tb):PE X (.BoolOp .And (a::b::rest) pos) (zbg ta tb):=by
 intro sM s σ H Q I h
 refine BoolOp_and (thn (ha sM s σ H _ I h) λv s1 ⟨x,H1,I1,r1,q1⟩=>?_)
 obtain⟨c,rfl,q1⟩:=q1
 cases r1
 refine pi ?_
 cases c with
 | true=>exact hb sM s1 σ H1 Q I1 q1
 | false=>exact⟨.bl sL,H1,I1,rfl,q1⟩
theorem VT(ha:PE X a ta):PE X (.UnaryOp .Not a pos) (Qi ta):=by
 intro sM s σ H Q I h
 refine UnaryOp_ (thn (ha sM s σ H _ I h) λv s1 ⟨x,H1,I1,r1,q1⟩=>?_)
 obtain⟨c,rfl,q1⟩:=q1
 cases r1
 exact not_of (pi ⟨.bl (!c),H1,I1,rfl,q1⟩)
def tIf(t:TT)(ta tb:TE):TE:=λσ H Q=>t σ H λc H1=>if c=sK then ta σ H1 Q else tb σ H1 Q
theorem kg{c:oY}(hc:PT X c tA)(ha:PE X a ta)(hb:PE X b tb):PE X (.IfExp c a b pos) (tIf tA ta tb):=by
 intro sM s σ H Q I h
 refine wpAny_IfExp (thn (hc sM s σ H _ I h) λd s1 ⟨H1,I1,q1⟩=>?_)
 cases d with
 | true=>exact ha sM s1 σ H1 Q I1 q1
 | false=>exact hb sM s1 σ H1 Q I1 q1
end
end L2
namespace L2
def SqL(K:oN)(H:Hp)(a:oO)(xs:List V):Prop :=
 Rd H a (.lst xs) \/
  ∃(o:pE) (its:Array oP) (n:Nat),K.lookup a=sI o/\o.cls=.type "list"/\o.dict=sJ/\o.data=.seq its n/\its.size<=oM/\Vals xs its.toList
def SqT(K:oN)(H:Hp)(a:oO)(xs:List V):Prop :=
 Rd H a (.tup xs) \/
  ∃(o:pE) (its:Array oP) (n:Nat),K.lookup a=sI o/\o.cls=.type "tuple"/\o.data=.seq its n/\its.size<=oM/\Vals xs its.toList
noncomputable def zdo:oP->Option V
 | .none=>sI .non
 | .bool b=>sI (.bl b)
 | .int i _=>sI (.int i)
 | .str x _=>sI (.str x)
 | .bytes b _=>sI (.byt b)
 | .float b _=>sI (.flt b)
 | .ref a=>sI (.ref a)
 | .type n=>sI (.ty n)
 | _=>sJ
theorem RelV.abs{x:V}{u:oP}(r:RelV x u):zdo u=sI x:=by
 cases x with
 | non=>cases r;rfl
 | bl _=>cases r;rfl
 | int _=>obtain⟨t,rfl⟩:=r;rfl
 | str _=>obtain⟨t,rfl⟩:=r;rfl
 | byt _=>obtain⟨t,rfl⟩:=r;rfl
 | flt _=>obtain⟨t,rfl⟩:=r;rfl
 | ref _=>cases r;rfl
 | ty _=>cases r;rfl
theorem RelV.inj{x y:V}{u:oP}(r:RelV x u)(q:RelV y u):x=y:=Option.some.inj (r.abs.symm.trans q.abs)
theorem Vals.inj:∀{xs ys:List V} {us:List oP},Vals xs us->Vals ys us->xs=ys
 | _,_,_,.nil,.nil=>rfl
 | _,_,_,.cons r t,.cons r' t'=>by rw[r.inj r',Vals.inj t t']
section
variable{X:Cx}{sM:List (oO × pE)}{σ:St}{H:Hp}{s:oQ}{a:oO}{xs ys:List V}
theorem SqL.of{K:oN}(h:H a=sI (.lst xs)):SqL K H a xs:=.inl (.inl h)
theorem SqT.of{K:oN}(h:H a=sI (.tup xs)):SqT K H a xs:=.inl (.inl h)
theorem Inv.list(I:Inv X sM σ H s)(h:SqL X.K H a xs):∃its:List oP,Vals xs its/\PlainL s.heap a its.toArray/\xs.length<=oM:=by
 rcases h with h | ⟨o,its,n,hk,hc,hd,hs,hz,r⟩
 ·obtain⟨z,its,n,r,e⟩:=h.ok I.hok
  exact⟨its,r,⟨_,n,e,rfl,rfl,rfl⟩,z⟩
 ·refine⟨its.toList,r,⟨o,n,I.kIn a o hk,hc,hd,by simpa using hs⟩,?_⟩
  have e:=r.length
  simp only[dW] at e
  lia
theorem Inv.tuple(I:Inv X sM σ H s)(h:SqT X.K H a xs):∃its:List oP,Vals xs its/\IsTup s.heap a its.toArray/\xs.length<=oM:=by
 rcases h with h | ⟨o,its,n,hk,hc,hs,hz,r⟩
 ·obtain⟨z,its,r,p⟩:=h.ok I.hok
  exact⟨its,r,p,z⟩
 ·refine⟨its.toList,r,⟨o,I.kIn a o hk,hc,n,by simpa using hs⟩,?_⟩
  have e:=r.length
  simp only[dW] at e
  lia
theorem Inv.list_inj(I:Inv X sM σ H s)(h:SqL X.K H a xs)(h':SqL X.K H a ys):xs=ys:=by
 obtain⟨its,r,⟨o,n,e,_,_,d⟩,_⟩:=I.list h
 obtain⟨its',r',⟨o',n',e',_,_,d'⟩,_⟩:=I.list h'
 rw[e] at e';cases e'
 rw[d] at d'
 injection d' with d1 _
 have:its=its':=by simpa using congrArg Array.toList d1
 subst this
 exact r.inj r'
theorem Inv.tuple_inj(I:Inv X sM σ H s)(h:SqT X.K H a xs)(h':SqT X.K H a ys):xs=ys:=by
 obtain⟨its,r,⟨o,e,_,n,d⟩,_⟩:=I.tuple h
 obtain⟨its',r',⟨o',e',_,n',d'⟩,_⟩:=I.tuple h'
 rw[e] at e';cases e'
 rw[d] at d'
 injection d' with d1 _
 have:its=its':=by simpa using congrArg Array.toList d1
 subst this
 exact r.inj r'
end
noncomputable abbrev Cx.wish(X:Cx)(E:oP->oQ->Prop):Cx:={ X with xe:=E }
noncomputable abbrev Cx.nox(X:Cx):Cx:=X.wish λ_ _=>False
theorem Cx.Ok.wish{X:Cx}(ok:X.Ok)(E:oP->oQ->Prop):(X.wish E).Ok :=
 ⟨ok.mod,ok.kind,ok.glob,ok.blt,ok.above,ok.inj,ok.has,ok.cab,ok.hd,ok.frames,ok.stk,ok.exf,ok.bs,ok.bsz,ok.noex,ok.exfs,ok.funs,ok.frf⟩
theorem Cx.Ok.unwish{X:Cx}{E:oP->oQ->Prop}(ok:(X.wish E).Ok):X.Ok :=
 ⟨ok.mod,ok.kind,ok.glob,ok.blt,ok.above,ok.inj,ok.has,ok.cab,ok.hd,ok.frames,ok.stk,ok.exf,ok.bs,ok.bsz,ok.noex,ok.exfs,ok.funs,ok.frf⟩
section
variable{X:Cx}{sM:List (oO × pE)}{σ:St}{H:Hp}{s:oQ}{E:oP->oQ->Prop}
theorem Inv.wish(I:Inv X sM σ H s)(E:oP->oQ->Prop):Inv (X.wish E) sM σ H s:=⟨I.ok.wish E,I.os,I.bare,I.base,I.loc,I.cell,I.free,I.freeC,I.pin,I.hok,I.len⟩
theorem Inv.unwish(I:Inv (X.wish E) sM σ H s):Inv X sM σ H s:=⟨I.ok.unwish,I.os,I.bare,I.base,I.loc,I.cell,I.free,I.freeC,I.pin,I.hok,I.len⟩
theorem SP.unwish{D:vg}{f:Flow}{s':oQ}(h:SP (X.wish E) sM D f s'):SP X sM D f s':=by
 cases f with
 | next=>obtain⟨σ',H',I,q⟩:=h;exact⟨σ',H',I.unwish,q⟩
 | brk=>obtain⟨σ',H',I,q⟩:=h;exact⟨σ',H',I.unwish,q⟩
 | cont=>obtain⟨σ',H',I,q⟩:=h;exact⟨σ',H',I.unwish,q⟩
 | ret u=>obtain⟨v,σ',H',I,r,q⟩:=h;exact⟨v,σ',H',I.unwish,r,q⟩
theorem PSs.nox{st:List pb}{t:TS}(h:PSs X.nox st t):PSs X st t:=λsM s σ H D I hw =>
 pY (h sM s σ H D (I.wish _) hw) (λ_ _ q=>q.unwish) λ_ _ z=>False.elim z
end
section
variable{X:Cx}{st:pb}{rest:List pb}{t u:TS}{e:oY}{te:TE}{pos:pW}
def za4:TS:=λD σ H=>D.nx σ H
def zc0(t u:TS):TS:=λD σ H=>t { D with nx:=u D } σ H
theorem zA:PSs X [] za4:=λ_ _ σ H _ I h=>pK ⟨σ,H,I,h⟩
theorem zM(h1:PS X st t)(h2:PSs X rest u):PSs X (st::rest) (zc0 t u):=by
 intro sM s σ H D I h
 refine pV (thn (h1 sM s σ H { D with nx:=u D } I h) λf s1 q=>?_)
 cases f with
 | next =>
  obtain⟨σ',H',I',q⟩:=q
  exact h2 sM s1 σ' H' D I' q
 | ret v=>exact q
 | brk=>exact q
 | cont=>exact q
theorem zg(h1:PS X st t):PSs X [st] t:=by
 intro sM s σ H D I h
 refine pV (thn (h1 sM s σ H D I h) λf s1 q=>?_)
 cases f with
 | next=>exact pK q
 | ret v=>exact q
 | brk=>exact q
 | cont=>exact q
def za0:TS:=λD σ H=>D.bk σ H
def zcg:TS:=λD σ H=>D.ct σ H
theorem Inv.quiet{sM:List (oO × pE)}{σ:St}{H:Hp}{s:oQ}(I:Inv X sM σ H s):interactive X.env=sL:=by simp [interactive,I.ok.kind]
def zbd(te:TE):TS:=λD σ H=>te σ H λ_ H1=>D.nx σ H1
theorem vW(he:PE X e te)(hs:swapsWith e sJ pos.line X.env=pure sL:=by rfl):PS X (.Expr e pos) (zbd te):=by
 intro sM s σ H D I h
 exact wpAny_Expr_any (thn (he sM s σ H _ I h) λv s1 ⟨x,H1,I1,r1,q1⟩=>⟨σ,H1,I1,q1⟩) I.quiet hs
def zbH(te:TE):TS:=λD σ H=>te σ H D.rt
theorem zt(he:PE X e te):PS X (.Return (sI e) pos) (zbH te):=by
 intro sM s σ H D I h
 exact sq (thn (he sM s σ H _ I h) λv s1 ⟨x,H1,I1,r1,q1⟩=>⟨x,σ,H1,I1,r1,q1⟩)
def zcv:TS:=λD _ H=>D.rt .non H
def zcZ(c:TT)(t u:TS):TS:=λD σ H=>c σ H λb H1=>if b=sK then t D σ H1 else u D σ H1
theorem zR{c:oY}{a b:List pb}{tc:TT}(hc:PT X c tc)(ha:PSs X a t)(hb:PSs X b u):PS X (.If c a b pos) (zcZ tc t u):=by
 intro sM s σ H D I h
 refine wpAny_If (thn (hc sM s σ H _ I h) λd s1 ⟨H1,I1,q1⟩=>?_)
 cases d with
 | true=>exact ha sM s1 σ H1 D I1 q1
 | false=>exact hb sM s1 σ H1 D I1 q1
end
noncomputable abbrev TG:=V->St->Hp->(St->Hp->Prop)->Prop
noncomputable abbrev TGs:=List V->St->Hp->(St->Hp->Prop)->Prop
def PG(X:Cx)(target:oY)(t:TG):Prop :=
 ∀(sM:List (oO × pE)) (s:oQ) (σ:St) (H:Hp) (v:V) (u:oP) (Q:St->Hp->Prop),Inv X sM σ H s->RelV v u->t v σ H Q ->
  oR (model X.prog X.w) X.A (assign target X.env u) (λ_ s'=>∃σ' H',Inv X sM σ' H' s'/\Q σ' H') X.xe s
def PGs(X:Cx)(ts:List oY)(t:TGs):Prop :=
 ∀(sM:List (oO × pE)) (s:oQ) (σ:St) (H:Hp) (vs:List V) (us:List oP) (Q:St->Hp->Prop),Inv X sM σ H s->Vals vs us->t vs σ H Q ->
  oR (model X.prog X.w) X.A (assignInOrder ((assignEach ts X.env).map (·.2)) us) (λ_ s'=>∃σ' H',Inv X sM σ' H' s'/\Q σ' H') X.xe s
noncomputable abbrev zbN:=V->V->V->Hp->(Hp->Prop)->Prop
def zcW(X:Cx)(t:zbN):Prop :=
 ∀(sM:List (oO × pE)) (s:oQ) (σ:St) (H:Hp) (o i v:V) (ov iv u:oP) (Q:Hp->Prop),Inv X sM σ H s->RelV o ov->RelV i iv->RelV v u->t o i v H Q ->
  oR (model X.prog X.w) X.A (setItem ov iv u) (λ_ s'=>∃H',Inv X sM σ H' s'/\Q H') X.xe s
section
variable{X:Cx}{pos:pW}
def xg(i:Nat):TG:=λv σ H Q=>Q (σ.set i (sI v)) H
theorem zy{i:Nat}{x:oV}(hN:X.N.Nodup)(hi:X.N[i]? = sI x)(hx:Loc X.env.scope x)(hf:X.fn x=sK\/X.env.scope.names.lookup x=sI .local:=by first | exact .inl rfl | exact .inr rfl | assumption):PG X (.Name x pos) (xg i):=by
 intro sM s σ H v u Q I r h
 exact so (uW I hN hi hx r (λs' I'=>⟨_,H,I',h⟩) hf)
def K6:TGs:=λvs σ H Q=>vs=[]/\Q σ H
def kA(t:TG)(u:TGs):TGs:=λvs σ H Q=>∃v r,vs=v::r/\t v σ H λσ' H'=>u r σ' H' Q
theorem xJ:PGs X [] K6:=by
 intro sM s σ H vs us Q I r h
 obtain⟨e,h⟩:=h
 subst e
 cases r
 exact assignInOrder_nil ⟨σ,H,I,h⟩
theorem zN{e:oY}{es:List oY}{t:TG}{u:TGs}(h1:PG X e t)(h2:PGs X es u)
  (hs:(assignEach (e::es) X.env).map (·.2)=assign e X.env::(assignEach es X.env).map (·.2):=by rfl):PGs X (e::es) (kA t u):=by
 intro sM s σ H vs us Q I r h
 obtain⟨v,vr,e1,h⟩:=h
 subst e1
 cases r with
 | cons r rr =>
  rw[hs]
  refine assignInOrder_cons (thn (h1 sM s σ H _ _ _ I r h) λ_ s1 ⟨σ1,H1,I1,q1⟩=>?_)
  exact h2 sM s1 σ1 H1 _ _ Q I1 rr q1
def K9(K:oN)(n:Nat)(t:TGs):TG:=λv σ H Q=>∃a xs,v=.ref a/\SqT K H a xs/\xs.length=n/\t xs σ H Q
theorem vd{es:List oY}{k:Nat}{t:TGs}{n:Nat}(hc:X.calm=sK)(h:PGs X es t)
  (hn:(assignEach es X.env).length=n:=by rfl) (hst:(assignEach es X.env).findIdx? (·.1)=sJ:=by rfl):PG X (.Tuple es k pos) (K9 X.K n t):=by
 intro sM s σ H v u Q I r hw
 obtain⟨a,xs,e1,hq,hl,hw⟩:=hw
 subst e1
 cases r
 obtain⟨its,rv,ht,hz⟩:=I.tuple hq
 refine assign_Tuple_tuple (I.ok.hd hc) ht (by simp [hn,<- hl,rv.length]) hst λh' hx=>?_
 have I1:Inv X sM σ H { s with heap:=h' }:=I.kept (t':=s.toks) λb o e=>hx b o (aw (aq e)) e
 exact h sM _ σ H xs _ Q I1 (by simpa using rv) hw
def zcN(to ti:TE)(t:zbN):TG:=λv σ H Q=>to σ H λo H1=>ti σ H1 λi H2=>t o i v H2 λH3=>Q σ H3
theorem zbw{o i:oY}{to ti:TE}{t:zbN}(ho:PE X o to)(hi:PE X i ti)(hs:zcW X t)
  (ha:∀v,assign (.Subscript o i pos) X.env v=(do
   let ov <- holding [v] (eval o X.env)
   let iv <- holding [v,ov] (eval i X.env)
   standAt pos
   holding [v,ov,iv] (setItem ov iv v)
   release [v,ov,iv] []):=by intro _;rfl):PG X (.Subscript o i pos) (zcN to ti t):=by
 intro sM s σ H v u Q I r h
 rw[ha]
 refine oG (pD (thn (ho sM s σ H _ I h) λov s1 ⟨x,H1,I1,r1,q1⟩=>?_))
 refine oG (pD (thn (hi sM s1 σ H1 _ I1 q1) λiv s2 ⟨y,H2,I2,r2,q2⟩=>?_))
 refine oG (pT (oG (pD (thn (hs sM s2 σ H2 x y v ov iv u _ I2 r1 r2 r q2) λ_ s3 ⟨H3,I3,q3⟩=>?_))))
 exact wpAny_release ⟨σ,H3,I3,q3⟩
def zbA(te:TE)(g:TG):TS:=λD σ H=>te σ H λx H1=>g x σ H1 D.nx
theorem Q2{tg e:oY}{te:TE}{g:TG}(he:PE X e te)(hg:PG X tg g)(hs:swapsWithSole [tg] e pos.line X.env=pure sL:=by rfl)(hw:swappedStores [tg] e X.env=pure sJ:=by rfl)
  (h1:(assignEach [tg] X.env).map (·.2)=[assign tg X.env]:=by rfl):PS X (.Assign [tg] e pos) (zbA te g):=by
 intro sM s σ H D I h
 refine wpAny_Assign_stores (thn (he sM s σ H _ I h) λv s1 ⟨x,H1,I1,r1,q1⟩=>?_) hs hw
 rw[h1]
 exact thn (hg sM s1 σ H1 x v _ I1 r1 q1) λ_ s2 q=>q
theorem zq{i:Nat}{x:oV}{e:oY}{te:TE}{pos':pW}(hN:X.N.Nodup)(hi:X.N[i]? = sI x)(hx:Loc X.env.scope x)(he:PE X e te)(hs:swapsWith e (sI (.Name x pos')) pos.line X.env=pure sL:=by rfl)(hf:X.fn x=sK\/X.env.scope.names.lookup x=sI .local:=by first | exact .inl rfl | exact .inr rfl | assumption) :
  PS X (.Assign [.Name x pos'] e pos) (zbA te (xg i)):=by
 intro sM s σ H D I h
 refine sr (thn (he sM s σ H _ I h) λv s1 ⟨y,H1,I1,r1,q1⟩=>?_) hs
 exact uW I1 hN hi hx r1 (λs2 I2=>⟨_,H1,I2,q1⟩) hf
def zdH(i j:Nat)(ta:TA):TS:=λD σ H=>ta σ H λvs H1=>∃v w,vs=[v,w]/\D.nx ((σ.set i (sI v)).set j (sI w)) H1
end
section
variable{X:Cx}{pos:pW}
def Xb(c:TT)(tb:TS):TS:=λD σ H=>∃W:Nat->St->Hp->Prop,(∃m,W m σ H)/\∀m σ H,W m σ H ->
 c σ H λb H1=>if b=sK then ∃N:St->Hp->Prop,(∀σ' H',N σ' H'->∃m',m'<m/\W m' σ' H')/\tb { D with nx:=N,ct:=N,bk:=D.nx } σ H1 else D.nx σ H1
theorem ku{c:oY}{body:List pb}{tc:TT}{tb:TS}(hp:PassesOwn (model X.prog X.w) X.A X.env X.xe)(hc:PT X c tc)(hb:PSs X body tb):PS X (.While c body [] pos) (Xb tc tb):=by
 intro sM s σ H D I h
 obtain⟨W,⟨m0,w0⟩,turn⟩:=h
 refine wpAny_While (codeAny_whileLoop (λn s'=>∃σ' H',Inv X sM σ' H' s'/\W n σ' H') ?_ m0 ⟨σ,H,I,w0⟩)
 rintro n s1 ⟨σ1,H1,I1,w1⟩
 refine pS hp (thn (hc sM s1 σ1 H1 _ I1 (turn n σ1 H1 w1)) λb s2 ⟨H2,I2,q2⟩=>?_)
 cases b with
 | true =>
  obtain⟨N,hN,q2⟩:=q2
  rw[if_pos rfl]
  refine pS hp (thn (hb sM s2 σ1 H2 _ I2 q2) λf s3 q3=>?_)
  cases f with
  | next =>
   obtain⟨σ3,H3,I3,n3⟩:=q3
   obtain⟨m',hm,w3⟩:=hN σ3 H3 n3
   exact⟨m',hm,σ3,H3,I3,w3⟩
  | cont =>
   obtain⟨σ3,H3,I3,n3⟩:=q3
   obtain⟨m',hm,w3⟩:=hN σ3 H3 n3
   exact⟨m',hm,σ3,H3,I3,w3⟩
  | brk=>exact q3
  | ret v=>exact q3
 | false =>
  rw[if_neg aC]
  exact pK ⟨σ1,H2,I2,q2⟩
end
structure It where
 go:Nat->Hp->Prop
 yld:Nat->Hp->V->Hp->Prop
 stop:Nat->Hp->Prop
def xp(X:Cx)(sM:List (oO × pE))(H:Hp)(b:oO):Prop :=
 H b=sJ/\b≠X.env.locals/\b ∉ X.fs/\(b ∈ X.ex\/X.s₀.heap.objs.size<=b)/\(∀x c,X.env.cells.lookup x=sI c->c≠b)/\∀p ∈ X.pn ++ sM,p.1≠b
theorem Inv.fpOk{X:Cx}{sM:List (oO × pE)}{σ:St}{H H':Hp}{s:oQ}{b:oO}(I:Inv X sM σ H s)(hb:s.heap.objs.size<=b)(hn:H' b=sJ):xp X sM H' b:=by
 refine⟨hn,bS (av I.lt hb),I.nofs hb,.inr (aJ I.sz hb),λx c e z=>?_,λp hp z=>?_⟩
 ·obtain⟨v,q⟩:=I.cell x c e
  exact absurd (av q.lt (by rw[z];exact hb)) (cI _)
 ·exact absurd (av (aq (I.pin p hp).1) (by rw[z];exact hb)) (cI _)
structure Us(P:oU)(w:oW)(K:oN)(tg:oY)(J:It)(fp:List oO)(it:oO)(tn:Nat->oZ->Prop):Prop where
 mem:it ∈ fp
 obj:∀i h,tn i h->∀b ∈ fp,∃o,h.get? b=sI o/\∀v,o.data≠.cell v
 keep:∀i h h',tn i h->(∀b ∈ fp,∀o,h.get? b=sI o->h'.get? b=sI o)->tn i h'
 item:∀(X:Cx),X.prog=P->X.w=w->X.K=K->X.calm=sK->∀(i:Nat) (sM:List (oO × pE)) (s:oQ) (σ:St) (H:Hp) (E:oP->oQ->Prop),Inv X sM σ H s->(∀b ∈ fp,xp X sM H b)->tn i s.heap->J.go i H ->
  oR (model P w) X.A (pyNext (.ref it)) (λr s1=>∃u,r=sI u /\
   oR (model P w) X.A (letOwnedTupleGo tg (.ref it) u) (λ_ s2=>∃x H',Inv X sM σ H' s2/\RelV x u/\J.yld i H x H'/\tn (i+1) s2.heap/\∀b ∈ fp,H' b=sJ) E s1) E s
 done:∀(X:Cx),X.prog=P->X.w=w->X.K=K->X.calm=sK->∀(i:Nat) (sM:List (oO × pE)) (s:oQ) (σ:St) (H:Hp) (E:oP->oQ->Prop),Inv X sM σ H s->(∀b ∈ fp,xp X sM H b)->tn i s.heap->J.stop i H ->
  oR (model P w) X.A (pyNext (.ref it)) (λr s1=>r=sJ/\Inv X sM σ H s1) E s
 self:∀(A:oX) (i:Nat) (s:oQ) (Q:oP->oQ->Prop) (E:oP->oQ->Prop),tn i s.heap->Q (.ref it) s->oR (model P w) A (pyIter (.ref it)) Q E s
noncomputable abbrev TI:=St->Hp->(It->Hp->Prop)->Prop
def PIE(X:Cx)(sM:List (oO × pE))(σ:St)(tg:oY)(R:It->Hp->Prop)(itv:oP)(s2:oQ):Prop :=
 ∃(it:oO) (fp:List oO) (tn:Nat->oZ->Prop) (J:It) (H':Hp),itv=.ref it/\Inv X sM σ H' s2/\Us X.prog X.w X.K tg J fp it tn/\tn 0 s2.heap/\(∀b ∈ fp,xp X sM H' b)/\R J H'
def PI(X:Cx)(tg iter:oY)(wi:TI):Prop :=
 ∀(sM:List (oO × pE)) (s:oQ) (σ:St) (H:Hp) (R:It->Hp->Prop),Inv X sM σ H s->wi σ H R ->
  oR (model X.prog X.w) X.A (eval iter X.env) (λv s1=>oR (model X.prog X.w) X.A (pyIter v) (PIE X sM σ tg R) X.xe s1) X.xe s
theorem V4{M:sj}{A:oX}{E:oP->oQ->Prop}{s:oQ}{tg:oY}{it:oO}{u:oP}{o:pE}{n:String}{vs:Array oP}{Q:Unit->oQ->Prop}(ho:s.heap.get? it=sI o)(hc:o.cls=.type n)(hd:o.data=.fields vs)
    (hn:["enumerate","zip","dict_itemiterator","dict_reverseitemiterator","odict_iterator","itertools.zip_longest","itertools.pairwise"].contains n=sL) (hQ:Q () s):oR M A (letOwnedTupleGo tg (.ref it) u) Q E s:=by
  unfold letOwnedTupleGo
  cases tg <;> first
    | exact oH hQ
    | (cases u <;> first
        | exact oH hQ
        | (refine oG (wpAny_load ho ?_)
           rw[hc,hd]
           show oR M A (if (["enumerate","zip","dict_itemiterator","dict_reverseitemiterator","odict_iterator","itertools.zip_longest","itertools.pairwise"].contains n && vs[0]? == sI (rawInt _))=sK then _ else _) Q E s
           rw[if_neg (by intro h;rw[hn,Bool.false_and] at h;cases h)]
           exact oH hQ))
noncomputable def Itl(K:oN)(a:oO):It :=
 ⟨λi H=>∃xs x,SqL K H a xs/\xs[i]? = sI x,λi H x H'=>H'=H/\∀xs,SqL K H a xs->xs[i]? = sI x,λi H=>∃xs,SqL K H a xs/\xs.length<=i⟩
noncomputable def Itt(K:oN)(a:oO):It :=
 ⟨λi H=>∃xs x,SqT K H a xs/\xs[i]? = sI x,λi H x H'=>H'=H/\∀xs,SqT K H a xs->xs[i]? = sI x,λi H=>∃xs,SqT K H a xs/\xs.length<=i⟩
noncomputable def Itr(lo:Int)(n:Nat):It:=⟨λi _=>i<n,λi H x H'=>H'=H/\x=.int (lo+i),λi _=>n<=i⟩
theorem WZ{P:oU}{w:oW}{K:oN}{tg:oY}(a it:oO):Us P w K tg (Itl K a) [it] it (λi h=>h.IsListIter it a i) where
 mem:=by simp
 obj:=λi h st b hb=>by
  have e:b=it:=by simpa using hb
  subst e
  obtain⟨o,e,c,d⟩:=st
  exact⟨o,e,λv z=>by rw[d] at z;cases z⟩
 keep:=λi h h' st k=>st.at λo e=>k it (by simp) o e
 item:=by
  intro X hP hw hK hc i sM s σ H E I hf st hg
  subst hP hw hK
  obtain⟨xs,x,hq,hx⟩:=hg
  obtain⟨its,rv,p,hz⟩:=I.list hq
  obtain⟨u,hu,ru⟩:=rv.get hx
  obtain⟨f0,f1,f2,f3,f4,f5⟩:=hf it (by simp)
  refine wpAny_pyNext_list_item st p.isList (x:=u) (by simpa using hu) λh' st' sb=>?_
  have I1:Inv X sM σ H { s with heap:=h' }:=I.turned (t':=s.toks) (λb o hb e=>(sb.2 b hb).trans e) f0 f1 f3 f4 f5
  obtain⟨o,e,c,d⟩:=id st'
  exact⟨u,rfl,V4 (s:={ s with heap:=h' }) e c d (by decide) ⟨x,H,I1,ru,⟨rfl,λys hy=>by rw[I.list_inj hy hq];exact hx⟩,st',λb hb=>(hf b hb).1⟩⟩
 done:=by
  intro X hP hw hK hc i sM s σ H E I hf st hg
  subst hP hw hK
  obtain⟨xs,hq,hx⟩:=hg
  obtain⟨its,rv,p,hz⟩:=I.list hq
  obtain⟨f0,f1,f2,f3,f4,f5⟩:=hf it (by simp)
  have hl:=rv.length
  exact wpAny_pyNext_list_end (I.ok.hd hc) st p.isList (by simp;lia) λh' eb=>⟨rfl,I.turned (t':=s.toks) (λb o hb e=>eb b o hb e) f0 f1 f3 f4 f5⟩
 self:=λ_ _ _ _ _ st h=>wpAny_pyIter_listiter st h
theorem XJ{P:oU}{w:oW}{K:oN}{tg:oY}(a it:oO):Us P w K tg (Itt K a) [it] it (λi h=>h.IsTupleIter it a i) where
 mem:=by simp
 obj:=λi h st b hb=>by
  have e:b=it:=by simpa using hb
  subst e
  obtain⟨o,e,c,d⟩:=st
  exact⟨o,e,λv z=>by rw[d] at z;cases z⟩
 keep:=λi h h' st k=>st.at λo e=>k it (by simp) o e
 item:=by
  intro X hP hw hK hc i sM s σ H E I hf st hg
  subst hP hw hK
  obtain⟨xs,x,hq,hx⟩:=hg
  obtain⟨its,rv,p,hz⟩:=I.tuple hq
  obtain⟨u,hu,ru⟩:=rv.get hx
  obtain⟨f0,f1,f2,f3,f4,f5⟩:=hf it (by simp)
  refine wpAny_pyNext_tuple_item st (show s.heap.IsTuple a its.toArray from p) (x:=u) (by simpa using hu) λh' st' sb=>?_
  have I1:Inv X sM σ H { s with heap:=h' }:=I.turned (t':=s.toks) (λb o hb e=>(sb.2 b hb).trans e) f0 f1 f3 f4 f5
  obtain⟨o,e,c,d⟩:=id st'
  exact⟨u,rfl,V4 (s:={ s with heap:=h' }) e c d (by decide) ⟨x,H,I1,ru,⟨rfl,λys hy=>by rw[I.tuple_inj hy hq];exact hx⟩,st',λb hb=>(hf b hb).1⟩⟩
 done:=by
  intro X hP hw hK hc i sM s σ H E I hf st hg
  subst hP hw hK
  obtain⟨xs,hq,hx⟩:=hg
  obtain⟨its,rv,p,hz⟩:=I.tuple hq
  obtain⟨f0,f1,f2,f3,f4,f5⟩:=hf it (by simp)
  have hl:=rv.length
  exact wpAny_pyNext_tuple_end (I.ok.hd hc) st (show s.heap.IsTuple a its.toArray from p) (by simp;lia) λh' eb=>⟨rfl,I.turned (t':=s.toks) (λb o hb e=>eb b o hb e) f0 f1 f3 f4 f5⟩
 self:=λ_ _ _ _ _ st h=>wpAny_pyIter_tupleiter st h
theorem XM{P:oU}{w:oW}{K:oN}{tg:oY}(it:oO)(lo:Int)(n:Nat):Us P w K tg (Itr lo n) [it] it (λi h=>IsRangeIter h it (lo+(i:Nat) * 1) ((n:Int) - (i:Nat)) 1) where
 mem:=by simp
 obj:=λi h st b hb=>by
  have e:b=it:=by simpa using hb
  subst e
  exact⟨_,st,λv z=>by
   have z':Data.fields _=Data.cell v:=z
   cases z'⟩
 keep:=λi h h' st k=>k it (by simp) _ st
 item:=by
  intro X hP hw hK hc i sM s σ H E I hf st hg
  subst hP hw hK
  obtain⟨f0,f1,f2,f3,f4,f5⟩:=hf it (by simp)
  have W:=Walks.range (prog:=X.prog) (w:=X.w) (I.ok.hd hc) it lo 1 n
  refine W.item i s _ _ hg st λv h' tk hv st' kk=>?_
  obtain⟨t,rfl⟩:=hv
  have I1:Inv X sM σ H { s with heap:=h',toks:=tk }:=I.turned (λb o hb e=>kk b o (by simpa using hb) e) f0 f1 f3 f4 f5
  refine⟨_,rfl,V4 (s:={ s with heap:=h',toks:=tk }) (n:="range_iterator") st' rfl rfl (by decide) ⟨.int (lo+i),H,I1,⟨t,?_⟩,⟨rfl,rfl⟩,st',λb hb=>(hf b hb).1⟩⟩
  rw[Int.mul_one]
 done:=by
  intro X hP hw hK hc i sM s σ H E I hf st hg
  subst hP hw hK
  obtain⟨f0,f1,f2,f3,f4,f5⟩:=hf it (by simp)
  exact wpAny_pyNext_range_end (I.ok.hd hc) st (by have:n<=i:=hg;lia) λh' eb=>⟨rfl,I.turned (t':=s.toks) (λb o hb e=>eb b o hb e) f0 f1 f3 f4 f5⟩
 self:=λ_ _ _ _ _ st h=>wpAny_pyIter_rangeiter st h
end L2
namespace L2
section
variable{X:Cx}{tg:oY}
def KA(K:oN)(tl:TE):TI:=λσ H R=>tl σ H λx H1=>∃a,x=.ref a/\(∃xs,SqL K H1 a xs)/\R (Itl K a) H1
def zb1(K:oN)(tl:TE):TI:=λσ H R=>tl σ H λx H1=>∃a,x=.ref a/\(∃xs,SqT K H1 a xs)/\R (Itt K a) H1
theorem yt{l:oY}{tl:TE}(hl:PE X l tl):PI X tg l (KA X.K tl):=by
 intro sM s σ H R I h
 refine thn (hl sM s σ H _ I h) λv s1 ⟨x,H1,I1,r1,q1⟩=>?_
 obtain⟨a,e,⟨xs,hq⟩,q⟩:=q1
 subst e
 cases r1
 obtain⟨its,rv,p,hz⟩:=I1.list hq
 refine rh p.isList ?_
 refine⟨s1.heap.objs.size,[s1.heap.objs.size],_,_,H1,rfl,I1.kept (t':=s1.toks) λb o e=>aa _ e,WZ a _,⟨_,aD _ rfl,rfl,rfl⟩,λb hb=>?_,q⟩
 have e:b=s1.heap.objs.size:=by simpa using hb
 subst e
 exact I1.fpOk (am _) (I1.hok.fresh (am _))
theorem zaA{l:oY}{tl:TE}(hl:PE X l tl):PI X tg l (zb1 X.K tl):=by
 intro sM s σ H R I h
 refine thn (hl sM s σ H _ I h) λv s1 ⟨x,H1,I1,r1,q1⟩=>?_
 obtain⟨a,e,⟨xs,hq⟩,q⟩:=q1
 subst e
 cases r1
 obtain⟨its,rv,p,hz⟩:=I1.tuple hq
 refine rD (show s1.heap.IsTuple a its.toArray from p) ?_
 refine⟨s1.heap.objs.size,[s1.heap.objs.size],_,_,H1,rfl,I1.kept (t':=s1.toks) λb o e=>aa _ e,XJ a _,⟨_,aD _ rfl,rfl,rfl⟩,λb hb=>?_,q⟩
 have e:b=s1.heap.objs.size:=by simpa using hb
 subst e
 exact I1.fpOk (am _) (I1.hok.fresh (am _))
theorem YU{sM:List (oO × pE)}{σ:St}{H:Hp}{s:oQ}{R:It->Hp->Prop}{E:oP->oQ->Prop}{lo hi:Int}{t u v:rF}{tk:Nat}(I:Inv X sM σ H s)(h1:-(2 ^ 62)<=lo)(h2:lo<2 ^ 62)(h3:-(2 ^ 62)<=hi)(h4:hi<2 ^ 62)
  (q:R (Itr lo (hi - lo).toNat) H):oR (model X.prog X.w) X.A (pyIter (.ref s.heap.objs.size)) (PIE X sM σ tg R) E { s with heap:=s.heap.push { cls:=.type "range",data:=.fields #[.int lo t,.int hi u,.int 1 v] },toks:=tk }:=by
 refine wpAny_pyIter_range (IsRange.new ..) (small_one h1 h2 h3 h4) ?_
 have I1:Inv X sM σ H { s with heap:=s.heap.push { cls:=.type "range",data:=.fields #[.int lo t,.int hi u,.int 1 v] },toks:=tk }:=I.kept λb o e=>aa _ e
 refine⟨(s.heap.push { cls:=.type "range",data:=.fields #[.int lo t,.int hi u,.int 1 v] }).objs.size,[(s.heap.push { cls:=.type "range",data:=.fields #[.int lo t,.int hi u,.int 1 v] }).objs.size],_,_,H,rfl,
  I1.kept (t':=tk) λb o e=>aa _ e,XM _ lo (hi - lo).toNat,?_,λb hb=>?_,q⟩
 ·have e1:lo+((0:Nat):Int) * 1=lo:=by simp
  have e2:(((hi - lo).toNat:Nat):Int) - ((0:Nat):Int)=Builtin.Range.rangeSize lo hi 1:=by rw[rangeSize_one];split <;> lia
  show IsRangeIter _ _ (lo+((0:Nat):Int) * 1) ((((hi - lo).toNat:Nat):Int) - ((0:Nat):Int)) 1
  rw[e1,e2]
  exact aD _ rfl
 ·have e:b=(s.heap.push { cls:=.type "range",data:=.fields #[.int lo t,.int hi u,.int 1 v] }).objs.size:=by simpa using hb
  subst e
  exact I1.fpOk (am _) (I1.hok.fresh (am _))
def K1(ta:TA):TI:=λσ H R=>ta σ H λvs H1=>∃j:Int,vs=[.int j]/\-(2 ^ 62)<=j/\j<2 ^ 62/\R (Itr 0 j.toNat) H1
def zaW(ta:TA):TI:=λσ H R=>ta σ H λvs H1=>∃i j:Int,vs=[.int i,.int j]/\(-(2 ^ 62)<=i/\i<2 ^ 62/\-(2 ^ 62)<=j/\j<2 ^ 62)/\R (Itr i (j - i).toNat) H1
theorem yR{a:oY}{ta:TA}{p pos:pW}(hg:Gl X "range")(hm:X.mg "range" = sJ)(ha:PA X [a] ta)(hs:oK [a] X.env=[(sL,eval a X.env)]:=by rfl):PI X tg (.Call (.Name "range" p) [a] [] pos) (K1 ta):=by
 intro sM s σ H R I h
 refine Call_ (vc I hg hm boot_range (bE (thn (ha pos sM s σ H _ I h) λus s1 ⟨vs,H1,I1,r1,q1⟩=>?_) hs rfl))
 obtain⟨j,e,q1,q2,q⟩:=q1
 subst e
 cases r1 with
 | cons r rr =>
  cases rr
  obtain⟨t,rfl⟩:=r
  exact call_range_1 (YU I1 (by lia) (by lia) q1 q2 (by simpa using q))
theorem Vw{a b:oY}{ta:TA}{p pos:pW}(hg:Gl X "range")(hm:X.mg "range" = sJ)(ha:PA X [a,b] ta)(hs:oK [a,b] X.env=[(sL,eval a X.env),(sL,eval b X.env)]:=by rfl)(hs2:oK [b] X.env=[(sL,eval b X.env)]:=by rfl) :
  PI X tg (.Call (.Name "range" p) [a,b] [] pos) (zaW ta):=by
 intro sM s σ H R I h
 refine Call_ (vc I hg hm boot_range (bE (thn (ha pos sM s σ H _ I h) λus s1 ⟨vs,H1,I1,r1,q1⟩=>?_) (by rw[hs,hs2]) (by rw[hs2];rfl)))
 obtain⟨i,j,e,⟨q1,q2,q3,q4⟩,q⟩:=q1
 subst e
 cases r1 with
 | cons r rr =>
  cases rr with
  | cons r' rr =>
   cases rr
   obtain⟨t,rfl⟩:=r
   obtain⟨t',rfl⟩:=r'
   exact call_range_2 (YU I1 q1 q2 q3 q4 q)
def Qt(wi:TI)(g:TG)(tb:TS):TS:=λD σ H=>wi σ H λJ H1=>∃W:Nat->Nat->St->Hp->Prop,(∃m,W 0 m σ H1)/\∀i m σ H,W i m σ H ->
 (J.stop i H/\D.nx σ H)\/(J.go i H/\∃N:St->Hp->Prop,(∀σ' H',N σ' H'->∃m',m'<m/\W (i+1) m' σ' H')/\∀x H',J.yld i H x H'->g x σ H' λσ2 H2=>tb { D with nx:=N,ct:=N,bk:=D.nx } σ2 H2)
noncomputable def jx(fp:List oO)(h:oZ):List (oO × pE):=fp.filterMap λb=>(h.get? b).map λo=>(b,o)
theorem xb{fp:List oO}{h:oZ}{b:oO}{o:pE}(hb:b ∈ fp)(e:h.get? b=sI o):(b,o) ∈ jx fp h:=tH.mpr ⟨b,hb,by rw[e];rfl⟩
theorem Wp{fp:List oO}{h:oZ}{p:oO × pE}(hp:p ∈ jx fp h):p.1 ∈ fp/\h.get? p.1=sI p.2:=by
 obtain⟨b,hb,e⟩:=tH.mp hp
 cases q:h.get? b with
 | none=>rw[q] at e;cases e
 | some o =>
  rw[q] at e
  have e':(b,o)=p:=Option.some.inj e
  subst e'
  exact⟨hb,q⟩
theorem Inv.pinned{sM:List (oO × pE)}{σ:St}{H:Hp}{s:oQ}{fp:List oO}(I:Inv X sM σ H s)(hf:∀b ∈ fp,xp X sM H b)(ho:∀b ∈ fp,∃o,s.heap.get? b=sI o/\∀v,o.data≠.cell v):Inv X (sM ++ jx fp s.heap) σ H s :=
 I.pins_of λp hp=>(sV.mp hp).elim (λz=>I.pin p (aA _ z)) λz=>by
  obtain⟨hb,e⟩:=Wp z
  obtain⟨f0,f1,f2,_⟩:=hf p.1 hb
  obtain⟨o,e',d⟩:=ho p.1 hb
  rw[e] at e';cases e'
  exact⟨e,f0,f1,f2,d⟩
theorem Inv.unpinned{sM pl:List (oO × pE)}{σ:St}{H:Hp}{s:oQ}(I:Inv X (sM ++ pl) σ H s):Inv X sM σ H s:=I.pins_of λp hp=>I.pin p (aA _ (bj _ hp))
theorem yq{iter:oY}{body:List pb}{wi:TI}{g:TG}{tb:TS}{pos:pW}(hp:PassesOwn (model X.prog X.w) X.A X.env X.xe)(hc:X.calm=sK)(hi:PI X tg iter wi)(hg:PG X tg g)(hb:PSs X body tb)
  (hs:∀x,foldedSetIterable iter X.env x=pure x:=by intro _;rfl):PS X (.For tg iter body [] pos) (Qt wi g tb):=by
 intro sM s σ H D I h
 refine wpAny_For (thn (hi sM s σ H _ I h) λv s1 h1=>thn h1 λitv s2 h2=>?_) hs
 obtain⟨it,fp,tn,J,H2,e,I2,T,st2,f2,W,⟨m0,w0⟩,turn⟩:=h2
 subst e
 have stat:∀{H':Hp},(∀b ∈ fp,H' b=sJ)->∀b ∈ fp,xp X sM H' b:=λhn b hb=>⟨hn b hb,(f2 b hb).2⟩
 refine codeAny_forLoop_any (λn s'=>∃i σ' H',Inv X sM σ' H' s'/\tn i s'.heap/\(∀b ∈ fp,H' b=sJ)/\W i n σ' H') ?_ m0 ⟨0,σ,H2,I2,st2,λb hb=>(f2 b hb).1,w0⟩
 rintro n s3 ⟨i,σ3,H3,I3,st3,fr3,w3⟩
 rcases turn i n σ3 H3 w3 with ⟨stop,qn⟩ | ⟨go,N,hN,step⟩
 ·refine pS hp (thn (T.done X rfl rfl rfl hc i sM s3 σ3 H3 X.xe I3 (stat fr3) st3 stop) λr s4 ⟨hr,I4⟩=>?_)
  subst hr
  exact pK ⟨σ3,H3,I4,qn⟩
 ·refine pS hp (thn (T.item X rfl rfl rfl hc i sM s3 σ3 H3 X.xe I3 (stat fr3) st3 go) λr s4 ⟨u,hr,h4⟩=>?_)
  subst hr
  refine pS hp (thn h4 λ_ s5 ⟨x,H5,I5,r5,y5,st5,fr5⟩=>?_)
  have I5':=I5.pinned (stat fr5) (T.obj _ _ st5)
  refine pS hp (thn (hg _ s5 σ3 H5 x u _ I5' r5 (step x H5 y5)) λ_ s6 ⟨σ6,H6,I6,q6⟩=>?_)
  refine pS hp (thn (hb _ s6 σ6 H6 _ I6 q6) λf s7 q7=>?_)
  have again:∀{σ7:St} {H7:Hp},Inv X (sM ++ jx fp s5.heap) σ7 H7 s7->N σ7 H7->∃m,m<n/\∃i σ' H',Inv X sM σ' H' s7/\tn i s7.heap/\(∀b ∈ fp,H' b=sJ)/\W i m σ' H':=λ{σ7 H7} I7 n7=>by
   obtain⟨m',hm,w7⟩:=hN σ7 H7 n7
   refine⟨m',hm,i+1,σ7,H7,I7.unpinned,T.keep _ _ _ st5 λb hb o e=>(I7.pin (b,o) (aA _ (aA _ (xb hb e)))).1,λb hb=>?_,w7⟩
   obtain⟨o,e,d⟩:=T.obj _ _ st5 b hb
   exact (I7.pin (b,o) (aA _ (aA _ (xb hb e)))).2.1
  cases f with
  | next=>obtain⟨σ7,H7,I7,n7⟩:=q7;exact again I7 n7
  | cont=>obtain⟨σ7,H7,I7,n7⟩:=q7;exact again I7 n7
  | brk=>obtain⟨σ7,H7,I7,q7⟩:=q7;exact⟨σ7,H7,I7.unpinned,q7⟩
  | ret v=>obtain⟨x7,σ7,H7,I7,r7,q7⟩:=q7;exact⟨x7,σ7,H7,I7.unpinned,r7,q7⟩
end
theorem Qd{K:oN}{a:oO}{xs:List V}{g:TG}{tb:TS}{D:vg}{σ:St}{H:Hp}(Pv:Nat->St->Hp->Prop)(h0:Pv 0 σ H)(hl:∀i σ H,i<=xs.length->Pv i σ H->SqL K H a xs)
  (hs:∀i x σ H,xs[i]? = sI x->Pv i σ H->g x σ H λσ2 H2=>tb { D with nx:=Pv (i+1),ct:=Pv (i+1),bk:=D.nx } σ2 H2) (hd:∀σ H,Pv xs.length σ H->D.nx σ H) :
  ∃W:Nat->Nat->St->Hp->Prop,(∃m,W 0 m σ H)/\∀i m σ H,W i m σ H ->
   ((Itl K a).stop i H/\D.nx σ H)\/((Itl K a).go i H/\∃N:St->Hp->Prop,(∀σ' H',N σ' H'->∃m',m'<m/\W (i+1) m' σ' H')/\∀x H',(Itl K a).yld i H x H'->g x σ H' λσ2 H2=>tb { D with nx:=N,ct:=N,bk:=D.nx } σ2 H2):=by
 refine⟨λi m σ H=>m=xs.length - i/\i<=xs.length/\Pv i σ H,⟨xs.length,by simp,aI _,h0⟩,?_⟩
 rintro i m σ H ⟨rfl,hi,p⟩
 have q:=hl i σ H hi p
 by_cases hlt:i<xs.length
 ·refine .inr ⟨⟨xs,xs[i],q,by simp [hlt]⟩,Pv (i+1),λσ' H' p'=>⟨xs.length - (i+1),by lia,rfl,hlt,p'⟩,λx H' y=>?_⟩
  obtain⟨e,y⟩:=y
  subst e
  exact hs i x σ _ (y xs q) p
 ·have e:i=xs.length:=by lia
  subst e
  exact .inl ⟨⟨xs,q,am _⟩,hd σ H p⟩
theorem Wd{lo:Int}{n:Nat}{g:TG}{tb:TS}{D:vg}{σ:St}{H:Hp}(Pv:Nat->St->Hp->Prop)(h0:Pv 0 σ H)
  (hs:∀i σ H,i<n->Pv i σ H->g (.int (lo+i)) σ H λσ2 H2=>tb { D with nx:=Pv (i+1),ct:=Pv (i+1),bk:=D.nx } σ2 H2) (hd:∀σ H,Pv n σ H->D.nx σ H) :
  ∃W:Nat->Nat->St->Hp->Prop,(∃m,W 0 m σ H)/\∀i m σ H,W i m σ H ->
   ((Itr lo n).stop i H/\D.nx σ H)\/((Itr lo n).go i H/\∃N:St->Hp->Prop,(∀σ' H',N σ' H'->∃m',m'<m/\W (i+1) m' σ' H')/\∀x H',(Itr lo n).yld i H x H'->g x σ H' λσ2 H2=>tb { D with nx:=N,ct:=N,bk:=D.nx } σ2 H2):=by
 refine⟨λi m σ H=>m=n - i/\i<=n/\Pv i σ H,⟨n,by simp,aI _,h0⟩,?_⟩
 rintro i m σ H ⟨rfl,hi,p⟩
 by_cases hlt:i<n
 ·refine .inr ⟨hlt,Pv (i+1),λσ' H' p'=>⟨n - (i+1),by lia,rfl,hlt,p'⟩,λx H' y=>?_⟩
  obtain⟨e,y⟩:=y
  subst e y
  exact hs i σ _ hlt p
 ·have e:i=n:=by lia
  subst e
  exact .inl ⟨am _,hd σ H p⟩
end L2
namespace L2
noncomputable abbrev R2:=V->V->Hp->VK->Prop
def OpR(X:Cx)(f:oP->oP->sB oP)(r:R2):Prop :=
 ∀(sM:List (oO × pE)) (s:oQ) (σ:St) (H:Hp) (x y:V) (v u:oP) (Q:VK),Inv X sM σ H s->RelV x v->RelV y u->r x y H Q ->
  oR (model X.prog X.w) X.A (f v u) (EP X sM σ Q) X.xe s
def UnR(X:Cx)(f:oP->sB oP)(r:V->Hp->VK->Prop):Prop :=
 ∀(sM:List (oO × pE)) (s:oQ) (σ:St) (H:Hp) (x:V) (v:oP) (Q:VK),Inv X sM σ H s->RelV x v->r x H Q ->
  oR (model X.prog X.w) X.A (f v) (EP X sM σ Q) X.xe s
def wL(X:Cx)(f:oP)(r:List V->Hp->VK->Prop):Prop :=
 ∀(sM:List (oO × pE)) (s:oQ) (σ:St) (H:Hp) (xs:List V) (us:List oP) (Q:VK),Inv X sM σ H s->Vals xs us->r xs H Q ->
  oR (model X.prog X.w) X.A (call f us) (EP X sM σ Q) X.xe s
def zdD(X:Cx)(r:V->Hp->(Bool->Hp->Prop)->Prop):Prop :=
 ∀(sM:List (oO × pE)) (s:oQ) (σ:St) (H:Hp) (x:V) (v:oP) (Q:Bool->Hp->Prop),Inv X sM σ H s->RelV x v->r x H Q ->
  oR (model X.prog X.w) X.A (truthy v) (TP X sM σ Q) X.xe s
def tOp(r:R2)(ta tb:TE):TE:=λσ H Q=>ta σ H λx H1=>tb σ H1 λy H2=>r x y H2 Q
def tUn(r:V->Hp->VK->Prop)(ta:TE):TE:=λσ H Q=>ta σ H λx H1=>r x H1 Q
def rI(C:Int->Int->Prop)(g:Int->Int->V):R2:=λx y H Q=>∃i j,x=.int i/\y=.int j/\C i j/\Q (g i j) H
def rI0(g:Int->Int->V):R2:=λx y H Q=>∃i j,x=.int i/\y=.int j/\Q (g i j) H
def rU(g:Int->V):V->Hp->VK->Prop:=λx H Q=>∃i,x=.int i/\Q (g i) H
section
variable{X:Cx}{a b c:oY}{ta tb tc:TE}{pos:pW}
theorem zco(ha:PE X a ta)(hb:PE X b tb){sM:List (oO × pE)}{s:oQ}{σ:St}{H:Hp}{R:V->V->Hp->Prop}(I:Inv X sM σ H s)
  (h:ta σ H λx H1=>tb σ H1 λy H2=>R x y H2) {Q:oP->oQ->Prop} {f:oP->oP->sB oP}
  (hf:∀v u s2 x y H2,Inv X sM σ H2 s2->RelV x v->RelV y u->R x y H2->oR (model X.prog X.w) X.A (f v u) Q X.xe s2) :
  oR (model X.prog X.w) X.A (eval a X.env) (λv s₁=>oR (model X.prog X.w) X.A (eval b X.env) (λu s₂=>oR (model X.prog X.w) X.A (f v u) Q X.xe s₂) X.xe s₁) X.xe s:=by
 refine thn (ha sM s σ H _ I h) λv s1 ⟨x,H1,I1,r1,q1⟩=>?_
 refine thn (hb sM s1 σ H1 _ I1 q1) λu s2 ⟨y,H2,I2,r2,q2⟩=>?_
 exact hf v u s2 x y H2 I2 r1 r2 q2
theorem zB{op:Operator}{r:R2}(ho:OpR X (binaryOp op) r)(ha:PE X a ta)(hb:PE X b tb):PE X (.BinOp a op b pos) (tOp r ta tb):=by
 intro sM s σ H Q I h
 exact wpAny_BinOp (zco ha hb I h λv u s2 x y H2 I2 rx ry q=>ho sM s2 σ H2 x y v u Q I2 rx ry q)
theorem zcH{op:UnaryOp}{r:V->Hp->VK->Prop}(ho:UnR X (unaryOp op) r)(ha:PE X a ta):PE X (.UnaryOp op a pos) (tUn r ta):=by
 intro sM s σ H Q I h
 exact UnaryOp_ (thn (ha sM s σ H _ I h) λv s1 ⟨x,H1,I1,r1,q1⟩=>ho sM s1 σ H1 x v Q I1 r1 q1)
theorem opI{f:oP->oP->sB oP}{C:Int->Int->Prop}{g:Int->Int->Int}
  (rule:∀(i j:Int) (t u:rF) (s:oQ) (Q:oP->oQ->Prop) (E:oP->oQ->Prop),C i j->Q (.int (g i j) s.toks) { s with toks:=s.toks+1 }->oR (model X.prog X.w) X.A (f (.int i t) (.int j u)) Q E s) :
  OpR X f (rI C λi j=>.int (g i j)):=by
 intro sM s σ H x y v u Q I rx ry h
 obtain⟨i,j,rfl,rfl,hc,q⟩:=h
 obtain⟨t,rfl⟩:=rx
 obtain⟨t',rfl⟩:=ry
 exact rule i j t t' s _ _ hc ⟨.int (g i j),H,I.tok _,⟨_,rfl⟩,q⟩
theorem zc4{f:oP->oP->sB oP}{g:Int->Int->Int}
  (rule:∀(i j:Int) (t u:rF) (s:oQ) (Q:oP->oQ->Prop) (E:oP->oQ->Prop),Q (.int (g i j) s.toks) { s with toks:=s.toks+1 }->oR (model X.prog X.w) X.A (f (.int i t) (.int j u)) Q E s) :
  OpR X f (rI0 λi j=>.int (g i j)):=by
 intro sM s σ H x y v u Q I rx ry h
 obtain⟨i,j,rfl,rfl,q⟩:=h
 obtain⟨t,rfl⟩:=rx
 obtain⟨t',rfl⟩:=ry
 exact rule i j t t' s _ _ ⟨.int (g i j),H,I.tok _,⟨_,rfl⟩,q⟩
theorem zbF{f:oP->oP->sB oP}{g:Int->Int->Bool}
  (rule:∀(i j:Int) (t u:rF) (s:oQ) (Q:oP->oQ->Prop) (E:oP->oQ->Prop),Q (.bool (g i j)) s->oR (model X.prog X.w) X.A (f (.int i t) (.int j u)) Q E s) :
  OpR X f (rI0 λi j=>.bl (g i j)):=by
 intro sM s σ H x y v u Q I rx ry h
 obtain⟨i,j,rfl,rfl,q⟩:=h
 obtain⟨t,rfl⟩:=rx
 obtain⟨t',rfl⟩:=ry
 exact rule i j t t' s _ _ ⟨.bl (g i j),H,I,rfl,q⟩
def zdd(i j:Int):Prop:=0<j/\j<1073741824
def zb4(i j:Int):Prop:=0<=j/\j<=1000000/\i.natAbs<2 ^ 64
def CMul(i j:Int):Prop:=(-(2 ^ 64)<i/\i<2 ^ 64)\/(-(2 ^ 64)<j/\j<2 ^ 64)
theorem CMul.ok{i j:Int}(h:CMul i j):IntMulOk i j:=by
 rcases h with ⟨h1,h2⟩ | ⟨h1,h2⟩
 ·exact .of_left (intBits_le_64 h1 h2)
 ·exact .of_right (intBits_le_64 h1 h2)
theorem op_add:OpR X (binaryOp .Add) (rI0 λi j=>.int (i+j)):=zc4 λ_ _ _ _ _ _ _ q=>add_int q
theorem uA:OpR X (binaryOp .Sub) (rI0 λi j=>.int (i - j)):=zc4 λ_ _ _ _ _ _ _ q=>sub_int q
theorem op_mul:OpR X (binaryOp .Mult) (rI CMul λi j=>.int (i * j)):=opI λ_ _ _ _ _ _ _ hc q=>mul_int q hc.ok
theorem wl:OpR X (binaryOp .FloorDiv) (rI zdd λi j=>.int (i / j)):=opI λi j _ _ _ _ _ hc q=>by
 have h1:(0:Int)<j:=hc.1
 have h2:j<1073741824:=hc.2
 exact floordiv_int (by lia) (by rw[Int.fdiv_eq_ediv_of_nonneg i (by lia)];exact q) (.inl (PyProof.noPylong_small (by lia)))
theorem xh:OpR X (binaryOp .Mod) (rI (λ_ j=>0<j) λi j=>.int (i % j)):=opI λi j _ _ _ _ _ hc q=>by
 have h1:(0:Int)<j:=hc
 exact mod_int' (by lia) (by rw[Int.fmod_eq_emod_of_nonneg i (by lia)];exact q)
theorem Vm:OpR X (binaryOp .Pow) (rI zb4 λi j=>.int (i ^ j.toNat)):=opI λ_ _ _ _ _ _ _ hc q=>pow_int_small hc.1 hc.2.1 hc.2.2 q
theorem unI{f:oP->sB oP}{g:Int->Int}
  (rule:∀(i:Int) (t:rF) (s:oQ) (Q:oP->oQ->Prop) (E:oP->oQ->Prop),Q (.int (g i) s.toks) { s with toks:=s.toks+1 }->oR (model X.prog X.w) X.A (f (.int i t)) Q E s) :
  UnR X f (rU λi=>.int (g i)):=by
 intro sM s σ H x v Q I rx h
 obtain⟨i,rfl,q⟩:=h
 obtain⟨t,rfl⟩:=rx
 exact rule i t s _ _ ⟨.int (g i),H,I.tok _,⟨_,rfl⟩,q⟩
theorem za5:UnR X (unaryOp .USub) (rU λi=>.int (-i)):=unI λ_ _ _ _ _ q=>neg_int q
end
noncomputable def Ku:V->V->Bool
 | .non,.non=>sK | .non,.int _=>sK | .int _,.non=>sK | .non,.bl _=>sK | .bl _,.non=>sK | .non,.str _=>sK | .str _,.non=>sK
 | .int _,.int _=>sK | .bl _,.bl _=>sK | .str _,.str _=>sK | .byt _,.byt _=>sK
 | .int _,.str _=>sK | .str _,.int _=>sK | .bl _,.str _=>sK | .str _,.bl _=>sK
 | _,_=>sL
def rEq:R2:=λx y H Q=>Ku x y=sK/\Q (.bl (decide (x=y))) H
def rNe:R2:=λx y H Q=>Ku x y=sK/\Q (.bl (!decide (x=y))) H
theorem WT{i j:Int}:decide (V.int i=V.int j)=(i == j):=by
 rw[df]
 simp
theorem Q0{i j:Bool}:decide (V.bl i=V.bl j)=(i == j):=by
 rw[df]
 simp
theorem Wm{i j:oV}:decide (V.str i=V.str j)=(i == j):=by
 rw[df]
 simp
theorem Uj{i j:Array UInt8}:decide (V.byt i=V.byt j)=(i.toList == j.toList):=by
 rw[df]
 cases i
 cases j
 simp
section
variable{X:Cx}{a b c:oY}{ta tb tc:TE}{pos:pW}
theorem zP{sM:List (oO × pE)}{σ:St}{H:Hp}{s:oQ}{Q:VK}{k k':Bool}(I:Inv X sM σ H s)(q:Q (.bl k) H)(e:k=k'):EP X sM σ Q (.bool k') s:=by
 subst e
 exact⟨.bl k,H,I,rfl,q⟩
theorem uG:OpR X (pc .Eq) rEq:=by
 intro sM s σ H x y v u Q I rx ry h
 obtain⟨hs,q⟩:=h
 cases x with
 | non =>
  cases rx
  cases y with
  | non=>cases ry;exact PySem.EqNone.eq_none_none (zP I q (by simp))
  | bl j=>cases ry;exact PySem.EqNone.eq_none_bool (zP I q (by simp))
  | int j=>obtain⟨t',rfl⟩:=ry;exact PySem.EqNone.eq_none_int (zP I q (by simp))
  | str j=>obtain⟨t',rfl⟩:=ry;exact PySem.EqNone.eq_none_str (zP I q (by simp))
  | _=>exact absurd (show sL=sK from hs) aC
 | bl i =>
  cases rx
  cases y with
  | non=>cases ry;exact PySem.EqNone.eq_bool_none (zP I q (by simp))
  | bl j=>cases ry;exact eq_bool (zP I q Q0)
  | str j=>obtain⟨t',rfl⟩:=ry;exact PySem.EqMixed.eq_bool_str (zP I q (by simp))
  | _=>exact absurd (show sL=sK from hs) aC
 | int i =>
  obtain⟨t,rfl⟩:=rx
  cases y with
  | non=>cases ry;exact PySem.EqNone.eq_int_none (zP I q (by simp))
  | int j=>obtain⟨t',rfl⟩:=ry;exact eq_int (zP I q WT)
  | str j=>obtain⟨t',rfl⟩:=ry;exact PySem.EqMixed.eq_int_str (zP I q (by simp))
  | _=>exact absurd (show sL=sK from hs) aC
 | str i =>
  obtain⟨t,rfl⟩:=rx
  cases y with
  | non=>cases ry;exact PySem.EqNone.eq_str_none (zP I q (by simp))
  | bl j=>cases ry;exact PySem.EqMixed.eq_str_bool (zP I q (by simp))
  | int j=>obtain⟨t',rfl⟩:=ry;exact PySem.EqMixed.eq_str_int (zP I q (by simp))
  | str j=>obtain⟨t',rfl⟩:=ry;exact eq_str (zP I q Wm)
  | _=>exact absurd (show sL=sK from hs) aC
 | byt i =>
  obtain⟨t,rfl⟩:=rx
  cases y with
  | byt j=>obtain⟨t',rfl⟩:=ry;exact PySem.W.eq_bytes (zP I q Uj)
  | _=>exact absurd (show sL=sK from hs) aC
 | _=>cases y <;> exact absurd (show sL=sK from hs) aC
theorem kM:OpR X (pc .NotEq) rNe:=by
 intro sM s σ H x y v u Q I rx ry h
 obtain⟨hs,q⟩:=h
 cases x with
 | non =>
  cases rx
  cases y with
  | non=>cases ry;exact PySem.EqNone.ne_none_none (zP I q (by simp))
  | bl j=>cases ry;exact PySem.EqNone.ne_none_bool (zP I q (by simp))
  | int j=>obtain⟨t',rfl⟩:=ry;exact PySem.EqNone.ne_none_int (zP I q (by simp))
  | str j=>obtain⟨t',rfl⟩:=ry;exact PySem.EqNone.ne_none_str (zP I q (by simp))
  | _=>exact absurd (show sL=sK from hs) aC
 | bl i =>
  cases rx
  cases y with
  | non=>cases ry;exact PySem.EqNone.ne_bool_none (zP I q (by simp))
  | bl j=>cases ry;exact ne_bool (zP I q (congrArg not Q0))
  | str j=>obtain⟨t',rfl⟩:=ry;exact PySem.EqMixed.ne_bool_str (zP I q (by simp))
  | _=>exact absurd (show sL=sK from hs) aC
 | int i =>
  obtain⟨t,rfl⟩:=rx
  cases y with
  | non=>cases ry;exact PySem.EqNone.ne_int_none (zP I q (by simp))
  | int j=>obtain⟨t',rfl⟩:=ry;exact ne_int (zP I q (congrArg not WT))
  | str j=>obtain⟨t',rfl⟩:=ry;exact PySem.EqMixed.ne_int_str (zP I q (by simp))
  | _=>exact absurd (show sL=sK from hs) aC
 | str i =>
  obtain⟨t,rfl⟩:=rx
  cases y with
  | non=>cases ry;exact PySem.EqNone.ne_str_none (zP I q (by simp))
  | bl j=>cases ry;exact PySem.EqMixed.ne_str_bool (zP I q (by simp))
  | int j=>obtain⟨t',rfl⟩:=ry;exact PySem.EqMixed.ne_str_int (zP I q (by simp))
  | str j=>obtain⟨t',rfl⟩:=ry;exact ne_str (zP I q (congrArg not Wm))
  | _=>exact absurd (show sL=sK from hs) aC
 | byt i =>
  obtain⟨t,rfl⟩:=rx
  cases y with
  | byt j=>obtain⟨t',rfl⟩:=ry;exact PySem.W.ne_bytes (zP I q (congrArg not Uj))
  | _=>exact absurd (show sL=sK from hs) aC
 | _=>cases y <;> exact absurd (show sL=sK from hs) aC
theorem zaZ:OpR X (pc .Lt) (rI0 λi j=>.bl (decide (i<j))):=zbF λ_ _ _ _ _ _ _ q=>lt_int q
theorem op_le:OpR X (pc .LtE) (rI0 λi j=>.bl (decide (i<=j))):=zbF λ_ _ _ _ _ _ _ q=>le_int q
theorem op_gt:OpR X (pc .Gt) (rI0 λi j=>.bl (decide (j<i))):=zbF λ_ _ _ _ _ _ _ q=>gt_int q
theorem zbU:OpR X (pc .GtE) (rI0 λi j=>.bl (decide (j<=i))):=zbF λ_ _ _ _ _ _ _ q=>ge_int q
theorem zbx:OpR X (pc .Is) (λx y H Q=>y=.non/\Q (.bl (decide (x=.non))) H):=by
 intro sM s σ H x y v u Q I rx ry h
 obtain⟨rfl,q⟩:=h
 cases ry
 refine is_none_gen (zP I q ?_)
 cases x <;> first
  | (cases rx;rfl)
  | (obtain⟨t,rfl⟩:=rx;rfl)
theorem Kk:OpR X (pc .IsNot) (λx y H Q=>y=.non/\Q (.bl (!decide (x=.non))) H):=by
 intro sM s σ H x y v u Q I rx ry h
 obtain⟨rfl,q⟩:=h
 cases ry
 refine isnot_none_gen (zP I q ?_)
 cases x <;> first
  | (cases rx;rfl)
  | (obtain⟨t,rfl⟩:=rx;rfl)
theorem Zh:OpR X (pc .NotIn) (λx y H Q=>∃i j,x=.str i/\y=.str j/\Q (.bl (!(!(Builtin.Str.occurrences j i 0 j.length 1).isEmpty))) H):=by
 intro sM s σ H x y v u Q I rx ry h
 obtain⟨i,j,rfl,rfl,q⟩:=h
 obtain⟨t,rfl⟩:=rx
 obtain⟨t',rfl⟩:=ry
 exact notIn_str (zP I q rfl)
theorem OpR.or{f:oP->oP->sB oP}{r r':R2}(h:OpR X f r)(h':OpR X f r'):OpR X f (λx y H Q=>r x y H Q\/r' x y H Q):=by
 intro sM s σ H x y v u Q I rx ry q
 rcases q with q | q
 ·exact h sM s σ H x y v u Q I rx ry q
 ·exact h' sM s σ H x y v u Q I rx ry q
theorem zI(b:oY){op:CmpOp}(h:op≠.In:=by decide)(h2:op≠.NotIn:=by decide):behindInMarks op b=sL:=by
 have e1:(op == CmpOp.In)=sL:=by cases op <;> first | rfl | exact absurd rfl h
 have e2:(op == CmpOp.NotIn)=sL:=by cases op <;> first | rfl | exact absurd rfl h2
 cases b <;> simp [behindInMarks,e1,e2]
theorem wz{op:CmpOp}{r:R2}(ho:OpR X (pc op) r)(ha:PE X a ta)(hb:PE X b tb)(hm:behindInMarks op b=sL):PE X (.Compare a [op] [b] pos) (tOp r ta tb):=by
 intro sM s σ H Q I h
 exact wpAny_Compare1 (zco ha hb I h λv u s2 x y H2 I2 rx ry q=>ho sM s2 σ H2 x y v u Q I2 rx ry q) hm
def J3(t:TE):TT:=λσ H Q=>t σ H λx H'=>∃k,x=.bl k/\Q k H'
theorem zG{op:CmpOp}{r:R2}(ho:OpR X (pc op) r)(ha:PE X a ta)(hb:PE X b tb)(hm:behindInMarks op b=sL):PT X (.Compare a [op] [b] pos) (J3 (tOp r ta tb)):=by
 intro sM s σ H Q I h
 refine wpAny_isTrue_Compare1 (thn (ha sM s σ H _ I h) λv s1 ⟨x,H1,I1,r1,q1⟩=>thn (hb sM s1 σ H1 _ I1 q1) λu s2 ⟨y,H2,I2,r2,q2⟩ =>
  thn (ho sM s2 σ H2 x y v u _ I2 r1 r2 q2) λc s3 ⟨z,H3,I3,r3,k,e,q3⟩=>?_) hm
 subst e
 cases r3
 exact pi ⟨H3,I3,q3⟩
def Vg(r r':R2)(ta tb tc:TE):TE:=λσ H Q=>ta σ H λx H1=>tb σ H1 λy H2=>r x y H2 λz H3=>∃k,z=.bl k /\
 (if k=sK then tc σ H3 λw' H4=>r' y w' H4 Q else Q (.bl sL) H3)
theorem U9{op op':CmpOp}{r r':R2}(ho:OpR X (pc op) r)(ho':OpR X (pc op') r')(ha:PE X a ta)(hb:PE X b tb)(hc:PE X c tc)
  (hm:lastMarks [op,op'] [b,c]=sL:=by with_unfolding_all rfl):PE X (.Compare a [op,op'] [b,c] pos) (Vg r r' ta tb tc):=by
 intro sM s σ H Q I h
 refine Compare_chain (thn (ha sM s σ H _ I h) λv s1 ⟨x,H1,I1,r1,q1⟩=>chain_link (thn (hb sM s1 σ H1 _ I1 q1) λu s2 ⟨y,H2,I2,r2,q2⟩ =>
  thn (ho sM s2 σ H2 x y v u _ I2 r1 r2 q2) λd s3 ⟨z,H3,I3,r3,k,e,q3⟩=>?_)) hm
 subst e
 cases r3
 refine pi ?_
 cases k with
 | false=>exact ite_ff ⟨.bl sL,H3,I3,rfl,q3⟩
 | true=>exact ite_tt (chain_last (thn (hc sM s3 σ H3 _ I3 q3) λw' s4 ⟨z',H4,I4,r4,q4⟩=>ho' sM s4 σ H4 y z' u w' Q I4 r2 r4 q4))
theorem kj{op op':CmpOp}{r r':R2}(ho:OpR X (pc op) r)(ho':OpR X (pc op') r')(ha:PE X a ta)(hb:PE X b tb)(hc:PE X c tc)
  (hm:lastMarks [op,op'] [b,c]=sL:=by with_unfolding_all rfl):PT X (.Compare a [op,op'] [b,c] pos) (J3 (Vg r r' ta tb tc)):=by
 intro sM s σ H Q I h
 refine isTrue_chain (thn (ha sM s σ H _ I h) λv s1 ⟨x,H1,I1,r1,q1⟩=>test_link (thn (hb sM s1 σ H1 _ I1 q1) λu s2 ⟨y,H2,I2,r2,q2⟩ =>
  thn (ho sM s2 σ H2 x y v u _ I2 r1 r2 q2) λd s3 ⟨z,H3,I3,r3,k,e,q3⟩=>?_)) hm
 subst e
 cases r3
 refine pi ?_
 cases k with
 | false =>
  obtain⟨k',e',q'⟩:=q3
  cases e'
  exact ite_ff ⟨H3,I3,q'⟩
 | true =>
  refine ite_tt (test_last (thn (hc sM s3 σ H3 _ I3 q3) λw' s4 ⟨z',H4,I4,r4,q4⟩=>thn (ho' sM s4 σ H4 y z' u w' _ I4 r2 r4 q4) λd' s5 ⟨z2,H5,I5,r5,k2,e2,q5⟩=>?_))
  subst e2
  cases r5
  exact pi ⟨H5,I5,q5⟩
def zac(K:oN)(x:V)(H:Hp)(k:Bool):Prop :=
 match x with
 | .non=>k=sL
 | .bl b=>k=b
 | .int i=>k=(i != 0)
 | .str y=>y.length<=oM/\k=((y.length:Int) != 0)
 | .byt y=>y.size<=oM/\k=((y.size:Int) != 0)
 | .ref p=>(∃xs,SqL K H p xs/\k=!xs.isEmpty)\/(∃xs,SqT K H p xs/\k=!xs.isEmpty)\/∃kvs,H p=sI (.dK kvs)/\k=!kvs.isEmpty
 | _=>False
theorem XL{κ:Type}{kvs:List (κ × V)}{vs:List (κ × oP)}(r:KV kvs vs):(!vs.isEmpty)=!kvs.isEmpty:=by
 cases r <;> rfl
theorem jD{xs:List V}{its:List oP}(r:Vals xs its):(!its.toArray.isEmpty)=!xs.isEmpty:=by
 cases r <;> simp
theorem ZI:(oM:Nat)<2 ^ 63:=by rw[pB];decide
theorem Jn:zdD X (λx H Q=>∃k,zac X.K x H k/\Q k H):=by
 intro sM s σ H x v Q I rx h
 obtain⟨k,e,q⟩:=h
 have hl:=ZI
 have hs:oM=16777216:=pB
 cases x with
 | non =>
  cases rx
  have e':k=sL:=e
  subst e'
  exact truthy_none ⟨H,I,q⟩
 | bl b =>
  cases rx
  have e':k=b:=e
  subst e'
  exact pi ⟨H,I,q⟩
 | int i =>
  obtain⟨t,rfl⟩:=rx
  have e':k=(i != 0):=e
  subst e'
  exact PySem.P.truthy_int ⟨H,I,q⟩
 | str y =>
  obtain⟨t,rfl⟩:=rx
  obtain⟨hy,e'⟩:y.length<=oM/\k=((y.length:Int) != 0):=e
  subst e'
  exact PySem.P.truthy_str (by lia) ⟨H,I.tok _,q⟩
 | byt y =>
  obtain⟨t,rfl⟩:=rx
  obtain⟨hy,e'⟩:y.size<=oM/\k=((y.size:Int) != 0):=e
  subst e'
  exact PySem.W.truthy_bytes (by lia) ⟨H,I.tok _,q⟩
 | ref p =>
  cases rx
  have e':(∃xs,SqL X.K H p xs/\k=!xs.isEmpty)\/(∃xs,SqT X.K H p xs/\k=!xs.isEmpty)\/∃kvs,H p=sI (.dK kvs)/\k=!kvs.isEmpty:=e
  rcases e' with ⟨xs,hx,e'⟩ | ⟨xs,hx,e'⟩ | ⟨kvs,hx,e'⟩
  ·subst e'
   obtain⟨its,r,pl,hz⟩:=I.list hx
   have hlen:=r.length
   exact wpAny_truthy_list pl.isList (by simp only[al];lia) ⟨H,I.tok _,by rw[jD r];exact q⟩
  ·subst e'
   obtain⟨its,r,pl,hz⟩:=I.tuple hx
   have hlen:=r.length
   exact truthy_tuple pl (by simp only[al];lia) ⟨H,I.tok _,by rw[jD r];exact q⟩
  ·subst e'
   obtain⟨hz,hS,vs,r,m⟩:kvs.length<=oM/\(p == sysModules)=sL/\∃vs,KV kvs vs/\s.heap.DictOf (Yt X.prog X.w) p vs:=I.hok p _ hx
   have hlen:kvs.length=vs.length:=Paired.length r
   exact wpAny_truthy_dict hS m (by lia) ⟨H,I.tok _,by rw[XL r];exact q⟩
 | _=>exact (show False from e).elim
theorem Y2(ha:PE X a ta)(he:∀whole,isTrue a X.env whole=(do let v <- whole;standAt a.pos;holding [v] (truthy v))) :
  PT X a (λσ H Q=>ta σ H λx H'=>∃k,zac X.K x H' k/\Q k H'):=by
 intro sM s σ H Q I h
 exact isTrue_plain (thn (ha sM s σ H _ I h) λv s1 ⟨x,H1,I1,r1,q1⟩=>Jn sM s1 σ H1 x v Q I1 r1 q1) (he _)
theorem op_add_str:OpR X (binaryOp .Add) (λx y H Q=>∃i j,x=.str i/\y=.str j/\i.length+j.length<=oM/\Q (.str (i ++ j)) H):=by
 intro sM s σ H x y v u Q I rx ry h
 obtain⟨i,j,rfl,rfl,hz,q⟩:=h
 obtain⟨t,rfl⟩:=rx
 obtain⟨t',rfl⟩:=ry
 exact add_str (λt' tk=>⟨.str (i ++ j),H,I.tok _,⟨_,rfl⟩,q⟩) hz
theorem wI{x:V}{us:List oP}(r:Vals [x] us):∃u,us=[u]/\RelV x u:=by
 cases r with
 | cons r1 r2=>cases r2;exact⟨_,rfl,r1⟩
theorem ZO{x y:V}{us:List oP}(r:Vals [x,y] us):∃u w',us=[u,w']/\RelV x u/\RelV y w':=by
 cases r with
 | cons r1 r2 =>
  cases r2 with
  | cons r3 r4=>cases r4;exact⟨_,_,rfl,r1,r3⟩
theorem WM(hc:X.calm=sK):wL X (.builtin "max") (λxs H Q=>∃i j,xs=[.int i,.int j]/\Q (.int (if j > i then j else i)) H):=by
 intro sM s σ H xs us Q I r h
 obtain⟨i,j,rfl,q⟩:=h
 obtain⟨u,w',rfl,⟨t,rfl⟩,⟨t',rfl⟩⟩:=ZO r
 refine max_two_ints (I.ok.hd hc) λh' tk k=>⟨_,H,I.kept k,?_,q⟩
 by_cases hj:j > i
 ·rw[if_pos hj,if_pos hj];exact⟨_,rfl⟩
 ·rw[if_neg hj,if_neg hj];exact⟨_,rfl⟩
theorem VD(hc:X.calm=sK):wL X (.builtin "min") (λxs H Q=>∃i j,xs=[.int i,.int j]/\Q (.int (if j<i then j else i)) H):=by
 intro sM s σ H xs us Q I r h
 obtain⟨i,j,rfl,q⟩:=h
 obtain⟨u,w',rfl,⟨t,rfl⟩,⟨t',rfl⟩⟩:=ZO r
 refine min_two_ints (I.ok.hd hc) λh' tk k=>⟨_,H,I.kept k,?_,q⟩
 by_cases hj:j<i
 ·rw[if_pos hj,if_pos hj];exact⟨_,rfl⟩
 ·rw[if_neg hj,if_neg hj];exact⟨_,rfl⟩
def zcm(K:oN)(x:V)(H:Hp)(n:Nat):Prop :=
 match x with
 | .str y=>y.length<=oM/\n=y.length
 | .byt y=>y.size<=oM/\n=y.size
 | .ref p=>(∃xs,SqL K H p xs/\n=xs.length)\/∃xs,SqT K H p xs/\n=xs.length
 | _=>False
theorem U5:wL X (.builtin "len") (λxs H Q=>∃x n,xs=[x]/\zcm X.K x H n/\Q (.int n) H):=by
 intro sM s σ H xs us Q I r h
 obtain⟨x,n,rfl,e,q⟩:=h
 obtain⟨u,rfl,rx⟩:=wI r
 have hl:=ZI
 have hs:oM=16777216:=pB
 cases x with
 | str y =>
  obtain⟨t,rfl⟩:=rx
  obtain⟨hy,e'⟩:y.length<=oM/\n=y.length:=e
  subst e'
  exact len_str (by lia) ⟨.int _,H,I.tok _,⟨_,rfl⟩,q⟩
 | byt y =>
  obtain⟨t,rfl⟩:=rx
  obtain⟨hy,e'⟩:y.size<=oM/\n=y.size:=e
  subst e'
  exact PySem.W.len_bytes (by lia) ⟨.int _,H,I.tok _,⟨_,rfl⟩,q⟩
 | ref p =>
  cases rx
  have e':(∃xs,SqL X.K H p xs/\n=xs.length)\/∃xs,SqT X.K H p xs/\n=xs.length:=e
  rcases e' with ⟨xs,hx,e'⟩ | ⟨xs,hx,e'⟩
  ·subst e'
   obtain⟨its,r',pl,hz⟩:=I.list hx
   have hlen:=r'.length
   exact Calls.call_len_list pl.isList (by simp only[al];lia) ⟨.int xs.length,H,I.tok _,⟨_,by simp only[al];rw[hlen]⟩,q⟩
  ·subst e'
   obtain⟨its,r',pl,hz⟩:=I.tuple hx
   have hlen:=r'.length
   exact len_tuple pl (by simp only[al];lia) ⟨.int xs.length,H,I.tok _,⟨_,by simp only[al];rw[hlen]⟩,q⟩
 | _=>exact (show False from e).elim
end
end L2
namespace L2
structure ObjM(h:oZ)(x dx C:oO)(mA:oV->Option oP):Prop where
 obj:h.get? x=sI (cf C dx)
 ns:h.Ns1 dx mA
 ne:dx≠x
theorem Zn{h:oZ}{dx:oO}{mA:oV->Option oP}(n:h.Ns1 dx mA):∃od,h.get? dx=sI od/\∀name,dY name od=sI (mA name):=by
 obtain⟨o,es,ep,ho,hd,hk,_,hm⟩:=n
 refine⟨o,ho,λname=>?_⟩
 have e:=hm name
 unfold nsFind findBy at e
 rw[<- Array.find?_toList] at e
 unfold dY
 rw[hd]
 dsimp only
 split
 ·rename_i y q
  rw[q] at e
  exact congrArg sI e
 ·rename_i q
  rw[q] at e
  have a:es.toList.any (·.refKey)=sL:=by
   rw[List.any_eq_false]
   intro y hy
   obtain⟨z,t,hkey⟩:=hk y (Array.mem_toList_iff.mp hy)
   simp [DictEntry.refKey,hkey]
  have a':¬ es.toList.any (·.refKey)=sK:=by rw[a];exact aC
  rw[if_neg a']
  exact congrArg sI e
theorem ObjM.look{h:oZ}{x dx C:oO}{mA:oV->Option oP}(I:ObjM h x dx C mA):∃od,PySem.W.InstAt h x (cf C dx) C (sI od)/\∀name,dY name od=sI (mA name) :=
 let ⟨od,ho,hl⟩:=Zn I.ns
 ⟨od,⟨I.obj,rfl,rfl,ho⟩,hl⟩
section
variable{prog:oU}{w:oW}{A:oX}{E:oP->oQ->Prop}{s:oQ}{K:oN}{x dx C f:oO}{mA:oV->Option oP}{name:oV}{v:oP}
theorem Ka{expr:Bool}{Q:oP->oQ->Prop}(X:K.In s.heap)(I:ObjM s.heap x dx C mA)(hg:bY K C name=sK)(hh:bB K C=sK)
  (ha:ah K (.ref C) name=sI sJ) (hv:mA name=sI v) (hv':eC v=sK) (h:Q v { s with toks:=s.toks+1 }) :
  oR (model prog w) A (getAttr (.ref x) name expr) Q E s:=by
 obtain⟨od,J,hl⟩:=I.look
 exact PySem.W.get_value X J (dX hg).1 (fq hh ha rfl (by rw[hl,hv])) hv' h
theorem US{pl:sB Bool}{Q:oP × List oP->oQ->Prop}(X:K.In s.heap)(I:ObjM s.heap x dx C mA)(hg:bY K C name=sK)
  (hf:ah K (.ref C) name=sI (sI (.ref f))) (ht:bc K (.ref f)=sK) (hv:mA name=sJ) (h:Q (.ref f,[.ref x]) s) :
  oR (model prog w) A (getMethod (.ref x) name pl) Q E s:=by
 obtain⟨od,J,hl⟩:=I.look
 exact PySem.W.method_fn X J (dX hg).1 (dX hg).2 hf (beq_iff_eq.mp ht) (by show (dY name od).map (·.isSome)=sI sL;rw[hl,hv];rfl) h
theorem KU{ns:List oV}{Q:Unit->oQ->Prop}(X:K.In s.heap)(I:ObjM s.heap x dx C mA)
  (hs:ah K (.ref C) "__setattr__" = sI (sI (.builtin "object.__setattr__"))) (hp:cA K C=sK) (ht:eQ K C name=sI sJ) (hh:bB K C=sK)
  (hw:PySem.Within mA ns) (hsz:ns.length<=oM)
  (h:∀h',ObjM h' x dx C (λy=>if y=name then sI v else mA y)->Heap.SameBut dx s.heap h'->Q () { s with heap:=h',toks:=s.toks+2 }) :
  oR (model prog w) A (setAttr (.ref x) name v) Q E s:=by
 obtain⟨od,J,hl⟩:=I.look
 refine fH X J hs (PySem.W.osa_open (s:={ s with toks:=s.toks+1 }) (r:=sJ) X J hp ht λb=>?_)
 obtain⟨cd,hc,hd'⟩:=PySem.W.any_some hh
 have hx:s.heap.get? x=sI ⟨.ref C,sI dx,.plain,#[]⟩:=I.obj
 refine oG (oH (oG (oG (rS hx (oG (PySem.W.Looks.here (s:={ s with toks:=s.toks+1 }) (PySem.W.looks_clsIn X hc) ?_))))))
 rw[hd']
 refine oH (a:=sI dx) (oG (oH (oG ?_)))
 refine wpAny_nsSet1 (s:={ s with toks:=s.toks+1 }) I.ns λh' hn2 hs2=>?_
 obtain⟨oD,esD,epD,hoD,hdD,hcD⟩:=hn2.count (PySem.Within.cons name v hw)
 refine oG (sx hoD (by rw[hdD];exact pastItsLine_dict (aJ hcD (by rw[aN];lia))) ?_)
 exact oH (h _ ⟨(hs2.2 _ (Ne.symm I.ne)).trans I.obj,hn2,I.ne⟩ hs2)
theorem Qj{R:rN->oQ->Prop}{vs:List oP}{kw:List (oV × oP)}(X:K.In s.heap)(hm:cJ K C=sK)
  (hi:ah K (.ref C) "__init__" = sI (sI (.ref f))) (hf:PySem.W.typeIn K (.ref f)=sI (.type "function"))
  (h:pM (model prog w) (A.under (.builtin "type.__call__" ⟨.ref C::vs,kw⟩)) (.call (.ref f) ⟨.ref (s.heap.objs.size+1)::vs,kw⟩) (PySem.W.InitBack (s.heap.objs.size+1) R)
   { s with heap:=(s.heap.push bO).push (cf C s.heap.objs.size) }) :
  pM (model prog w) A (.call (.ref C) ⟨vs,kw⟩) R s:=by
 obtain⟨hh,g,d,t,os⟩:=s
 exact PySem.W.make_core (PySem.W.makes_of X hm) (cC X hi) (λself=>fM X self hf) (.inl rfl) h
end
noncomputable def kJ(f:oV)(v:V):List (oV × V)->List (oV × V)
  | []=>[(f,v)]
  | (g,x)::r=>if g=f then (g,v)::r else (g,x)::kJ f v r
theorem qH(f g:oV)(v:V):∀fs:List (oV × V),(kJ f v fs).lookup g=if g=f then sI v else fs.lookup g
  | []=>by
    show bh g [(f,v)]=_
    by_cases h:g=f
    . have hb:(g == f)=sK:=beq_iff_eq.mpr h
      simp only[bh,hb,if_pos h]
    . have hb:(g == f)=sL:=beq_eq_false_iff_ne.mpr h
      simp only[bh,hb,if_neg h]
  | (k,x)::r=>by
    have ih:=qH f g v r
    rw[show kJ f v ((k,x)::r)=(if k=f then (k,v)::r else (k,x)::kJ f v r) from rfl]
    by_cases hk:k=f
    . rw[if_pos hk]
      by_cases h:g=k
      . have hb:(g == k)=sK:=beq_iff_eq.mpr h
        simp only[bh,hb,if_pos (h.trans hk)]
      . have hb:(g == k)=sL:=beq_eq_false_iff_ne.mpr h
        simp only[bh,hb,if_neg (λe:g=f=>h (e.trans hk.symm))]
    . rw[if_neg hk]
      by_cases h:g=k
      . have hb:(g == k)=sK:=beq_iff_eq.mpr h
        simp only[bh,hb,if_neg (λe:g=f=>hk (h.symm.trans e))]
      . have hb:(g == k)=sL:=beq_eq_false_iff_ne.mpr h
        simp only[bh,hb]
        exact ih
theorem qz(f:oV)(v:V):∀fs:List (oV × V),f ∈ (kJ f v fs).map (·.1)/\∀g,g ∈ fs.map (·.1)->g ∈ (kJ f v fs).map (·.1)
  | []=>⟨by simp [kJ],λg h=>by simp at h⟩
  | (k,x)::r=>by
    obtain⟨i1,i2⟩:=qz f v r
    rw[show kJ f v ((k,x)::r)=(if k=f then (k,v)::r else (k,x)::kJ f v r) from rfl]
    by_cases hk:k=f
    . rw[if_pos hk]
      subst hk
      exact⟨by simp,λg h=>by simpa using h⟩
    . rw[if_neg hk]
      refine⟨?_,λg h=>?_⟩
      . rw[au]
        exact ao _ i1
      . rw[au] at h ⊢
        rcases sU.mp h with e | e
        . exact sU.mpr (.inl e)
        . exact ao _ (i2 g e)
theorem qM(f:oV)(v:V):∀fs:List (oV × V),(kJ f v fs).length<=fs.length+1
  | []=>by simp [kJ]
  | (k,x)::r=>by
    have ih:=qM f v r
    rw[show kJ f v ((k,x)::r)=(if k=f then (k,v)::r else (k,x)::kJ f v r) from rfl]
    by_cases hk:k=f
    . rw[if_pos hk,aN,aN];lia
    . rw[if_neg hk,aN,aN];lia
theorem RelO.some_of{v:V}{o:Option oP}(r:RelO (sI v) o):∃u,o=sI u/\RelV v u:=by
 cases o with
 | none=>exact (show False from r).elim
 | some u=>exact⟨u,rfl,r⟩
theorem RelO.none_of{o:Option oP}(r:RelO sJ o):o=sJ:=by
 cases o with
 | none=>rfl
 | some u=>exact (show False from r).elim
theorem kQ{v:V}{u:oP}(r:RelV v u):eC u=sK:=by
 cases v with
 | non=>cases (show u=Value.none from r);rfl
 | bl b=>cases (show u=Value.bool b from r);rfl
 | int i=>obtain⟨t,e⟩:=(show ∃t,u=Value.int i t from r);cases e;rfl
 | str x=>obtain⟨t,e⟩:=(show ∃t,u=Value.str x t from r);cases e;rfl
 | byt b=>obtain⟨t,e⟩:=(show ∃t,u=Value.bytes b t from r);cases e;rfl
 | flt b=>obtain⟨t,e⟩:=(show ∃t,u=Value.float b t from r);cases e;rfl
 | ref a=>cases (show u=Value.ref a from r);rfl
 | ty n=>cases (show u=Value.type n from r);rfl
section
variable{P:oU}{w:oW}{H H':Hp}{h h':oZ}{a C dx:oO}{fs fs':List (oV × V)}
theorem j7(hok:HOk P w H h)(e:H a=sI (.ins C dx fs)):∃mA,ObjM h a dx C mA/\(∀f,RelO (fs.lookup f) (mA f))/\PySem.Within mA (fs.map (·.1))/\fs.length<=1000/\H dx=sI (.own a):=by
 obtain⟨d,z,ne,ob,mA,n,r,q⟩:=(show ObjOk P w H h a (.ins C dx fs) from hok a _ e)
 exact⟨mA,⟨ob,n,ne⟩,r,q,z,d⟩
end
structure Cls(K:oN)(C:oO):Prop where
 pg:bY K C eR=sK
 hd:bB K C=sK
 po:cA K C=sK
 sa:ah K (.ref C) "__setattr__" = sI (sI (.builtin "object.__setattr__"))
theorem Cls.get{K:oN}{C:oO}(c:Cls K C)(f:oV):bY K C f=sK:=c.pg
def NoAttr(K:oN)(C:oO)(f:oV):Prop:=ah K (.ref C) f=sI sJ
theorem NoAttr.taker{K:oN}{C:oO}{f:oV}(n:NoAttr K C f):eQ K C f=sI sJ:=by
 unfold eQ
 rw[show ah K (.ref C) f=sI sJ from n]
 rfl
structure zas(K:oN)(C:oO)(m:oV)(f:oO):Prop where
 at_:ah K (.ref C) m=sI (sI (.ref f))
 fn:bc K (.ref f)=sK
 kp:aO K (.ref f)=sK
section
variable{X:Cx}{sM:List (oO × pE)}{σ:St}{H:Hp}{s:oQ}{a C dx:oO}{fs:List (oV × V)}{f:oV}{v:V}{A:oX}{E:oP->oQ->Prop}
theorem XS{b:Bool}{Q:oP->oQ->Prop}(I:Inv X sM σ H s)(e:H a=sI (.ins C dx fs))(c:Cls X.K C)(n:NoAttr X.K C f)(l:fs.lookup f=sI v)
  (h:∀u s',Inv X sM σ H s'->RelV v u->Q u s'):oR (model X.prog X.w) A (getAttr (.ref a) f b) Q E s:=by
 obtain⟨mA,O,r,_,_,_⟩:=j7 I.hok e
 obtain⟨u,hu,ru⟩:=RelO.some_of (v:=v) (o:=mA f) (by rw[<- l];exact r f)
 exact Ka I.kIn O (c.get f) c.hd n hu (kQ ru) (h u _ (I.tok _) ru)
theorem xP{m:oV}{g:oO}{pl:sB Bool}{Q:oP × List oP->oQ->Prop}(I:Inv X sM σ H s)(e:H a=sI (.ins C dx fs))(c:Cls X.K C)(k:zas X.K C m g)(l:fs.lookup m=sJ)
  (h:Q (.ref g,[.ref a]) s):oR (model X.prog X.w) A (getMethod (.ref a) m pl) Q E s:=by
 obtain⟨mA,O,r,_,_,_⟩:=j7 I.hok e
 have hn:mA m=sJ:=RelO.none_of (by rw[<- l];exact r m)
 exact US I.kIn O (c.get m) k.at_ k.fn hn h
theorem XF{y:V}{u:oP}{Q:Unit->oQ->Prop}(I:Inv X sM σ H s)(e:H a=sI (.ins C dx fs))(c:Cls X.K C)(n:NoAttr X.K C f)(hl:fs.length<1000)(ry:RelV y u)
  (h:∀s',Inv X sM σ (upd H a (.ins C dx (kJ f y fs))) s'->Q () s'):oR (model X.prog X.w) A (setAttr (.ref a) f u) Q E s:=by
 obtain⟨mA,O,r,wi,_,ho⟩:=j7 I.hok e
 have hz:(fs.map (·.1)).length<=oM:=by rw[ae,pB];lia
 refine KU I.kIn O c.sa c.po n.taker c.hd wi hz λh' O' sb=>h _ ?_
 have hd:∃o,h'.get? dx=sI o:=let ⟨o,_,_,e',_⟩:=O'.ns; ⟨o,e'⟩
 refine I.write (x:=a) (e:=dx) (by rw[e];exact True.intro) (.inr ho) (λb q hb z=>(sb.2 b hb).trans z) hd ?_
 refine⟨by rw[zo O.ne];exact ho,?_,O.ne,O'.obj,_,O'.ns,λg=>?_,λg hg=>?_⟩
 ·have:=qM f y fs;lia
 ·show RelO ((kJ f y fs).lookup g) (if g=f then sI u else mA g)
  rw[qH]
  by_cases q:g=f
  ·rw[if_pos q,if_pos q];exact ry
  ·rw[if_neg q,if_neg q];exact r g
 ·by_cases q:g=f
  ·rw[q];exact (qz f y fs).1
  ·refine (qz f y fs).2 g (wi g λz=>hg ?_)
   show (if g=f then sI u else mA g)=sJ
   rw[if_neg q];exact z
theorem Inv.made(I:Inv X sM σ H s):Inv X sM σ (upd (upd H s.heap.objs.size (.own (s.heap.objs.size+1))) (s.heap.objs.size+1) (.ins C s.heap.objs.size []))
  { s with heap:=(s.heap.push bO).push (cf C s.heap.objs.size) }:=by
 have e1:(s.heap.push bO).get? s.heap.objs.size=sI bO:=aD s.heap rfl
 have e2:((s.heap.push bO).push (cf C s.heap.objs.size)).get? (s.heap.objs.size+1)=sI (cf C s.heap.objs.size):=by
  have:=aD (s.heap.push bO) (o:=cf C s.heap.objs.size) rfl
  rwa [bq] at this
 have e3:(s.heap.push bO).Ns s.heap.objs.size (λ_=>sJ):=⟨bO,#[],_,e1,rfl,(λe he=>absurd he (by simp)),λ_=>rfl⟩
 have I1:=I.laid (a:=s.heap.objs.size) (o:=.own (s.heap.objs.size+1)) (h':=s.heap.push bO) (t':=s.toks) (λb u q=>aa _ q) (am _) ⟨_,e1⟩
 refine I1.laid (a:=s.heap.objs.size+1) (o:=.ins C s.heap.objs.size []) (t':=s.toks) (λb u q=>aa _ q) (Nat.le_of_eq (bq _ _)) ?_
 have ne:s.heap.objs.size≠s.heap.objs.size+1:=aw (cX _)
 refine⟨by rw[zo ne,zc],aI _,ne,e2,λ_=>sJ,(Heap.Ns1.of_empty e3).at λo q=>aa _ q,λ_=>True.intro,λy hy=>absurd rfl hy⟩
theorem Wt{prog:oU}{w:oW}{env:rP}{e:oY}{f:oV}{pos:pW}{s:oQ}{Q:oP->oQ->Prop}(hb:attributeBase e f env (eval e env)=eval e env)
  (h:oR (model prog w) A (eval e env) (λo s₁=>oR (model prog w) A (getAttr o f sK) Q E s₁) E s):oR (model prog w) A (eval (.Attribute e f pos) env) Q E s :=
 Attribute_any_ h (by rw[arm_eval_Attribute,hb])
end
def zbu(K:oN)(ta:TE)(f:oV):TE:=λσ H Q=>ta σ H λx H1=>∃a C dx fs v,x=.ref a/\H1 a=sI (.ins C dx fs)/\Cls K C/\NoAttr K C f/\fs.lookup f=sI v/\Q v H1
def zcQ(K:oN)(ta tv:TE)(f:oV):TS:=λD σ H=>tv σ H λy H1=>ta σ H1 λx H2=>∃a C dx fs,x=.ref a/\H2 a=sI (.ins C dx fs)/\Cls K C/\NoAttr K C f/\fs.length<1000 /\
 D.nx σ (upd H2 a (.ins C dx (kJ f y fs)))
section
variable{X:Cx}{o e value:oY}{f:oV}{pos pos' tpos:pW}{ta tv:TE}
theorem YQ(he:PE X e ta)(hb:attributeBase e f X.env (eval e X.env)=eval e X.env):PE X (.Attribute e f pos) (zbu X.K ta f):=by
 intro sM s σ H Q I h
 refine Wt hb (thn (he sM s σ H _ I h) λu s1 ⟨x,H1,I1,rx,a,C,dx,fs,v,ex,ea,c,n,l,q⟩=>?_)
 subst ex
 obtain rfl:u=Value.ref a:=rx
 exact XS I1 ea c n l λu' s2 I2 ru=>⟨v,H1,I2,ru,q⟩
theorem Xk(ha:PE X o ta)(hv:PE X value tv)(hs:swapsWith value (sI (.Attribute o f pos')) pos.line X.env=pure sL):PS X (.Assign [.Attribute o f pos'] value pos) (zcQ X.K ta tv f):=by
 intro sM s σ H D I h
 refine rj (thn (hv sM s σ H _ I h) λu s1 ⟨y,H1,I1,ry,q⟩=>thn (ha sM s1 σ H1 _ I1 q) λov s2 ⟨x,H2,I2,rx,a,C,dx,fs,ex,ea,c,n,l,q2⟩=>?_) hs
 subst ex
 obtain rfl:ov=Value.ref a:=rx
 exact XF I2 ea c n l ry λs3 I3=>⟨σ,_,I3,q2⟩
theorem JC{pl:sB Bool}{m:oV}{apos:pW}{args:List oY}{sM:List (oO × pE)}{s:oQ}{σ:St}{H:Hp}{Q:oP->oQ->Prop}{te:TE}(he:PE X e te)(I:Inv X sM σ H s)
    (h:te σ H λx H1=>∃a C dx fs g,x=.ref a/\H1 a=sI (.ins C dx fs)/\Cls X.K C/\zas X.K C m g/\fs.lookup m=sJ /\
      ∀s1,Inv X sM σ H1 s1->oR (model X.prog X.w) X.A (callWith pos (.ref g) [.ref a] (pq pos (oK args X.env)) (pG pos (ph [] X.env))) Q X.xe s1)
    (ht:eval (.Call (.Attribute e m apos) args [] pos) X.env=(do
      let ov <- eval e X.env
      standAt apos.atName
      let (f,first) <- holding [ov] (getMethod ov m pl)
      callWith pos f first (pq pos (oK args X.env)) (pG pos (ph [] X.env)))) :
    oR (model X.prog X.w) X.A (eval (.Call (.Attribute e m apos) args [] pos) X.env) Q X.xe s:=by
  refine bZ (pl:=pl) (thn (he sM s σ H _ I h) λu s1 ⟨x,H1,I1,rx,a,C,dx,fs,g,ex,ea,c,k,l,q⟩=>?_) ht
  subst ex
  obtain rfl:u=Value.ref a:=rx
  exact xP I1 ea c k l (q s1 I1)
end
section
variable{X:Cx}{sM:List (oO × pE)}{σ:St}{H:Hp}{s:oQ}{A:oX}{E:oP->oQ->Prop}{Q:oP->oQ->Prop}{c:oP}{b:Bool}
inductive YE(K:oN)(H:Hp):V->oP->Prop where
 | non:YE K H .non (.type "NoneType")
 | bl (x:Bool):YE K H (.bl x) (.type "bool")
 | int (i:Int):YE K H (.int i) (.type "int")
 | str (x:oV):YE K H (.str x) (.type "str")
 | flt (x:UInt64):YE K H (.flt x) (.type "float")
 | lst {a:oO} {xs:List V} (e:H a=sI (.lst xs)):YE K H (.ref a) (.type "list")
 | frz {a:oO} {o:pE} {xs:List V} (e:H a=sI (.frz o (.lst xs))):YE K H (.ref a) (.type "list")
 | tup {a:oO} {xs:List V} (e:H a=sI (.tup xs)):YE K H (.ref a) (.type "tuple")
 | dK {a:oO} {kvs:List (Key × V)} (e:H a=sI (.dK kvs)):YE K H (.ref a) (.type "dict")
 | dT {a:oO} {kvs:List (List Key × V)} (e:H a=sI (.dT kvs)):YE K H (.ref a) (.type "dict")
 | ins {a C dx:oO} {fs:List (oV × V)} (e:H a=sI (.ins C dx fs)) (cl:Cls K C) (ha:ah K (.ref C) "__class__" = sI (sI (.builtin "object.__class__")))
   (hn:cB K (.builtin "object.__class__") "__get__" = sI (sI (.builtin "getset_descriptor.__get__"))) (htk:dL K (.builtin "object.__class__")=sI sK)
   (hm:bU K C (.type "object")=sI sK):YE K H (.ref a) (.ref C)
theorem Wf{x:V}{u t:oP}(I:Inv X sM σ H s)(rx:RelV x u)(ty:YE X.K H x t)(e:aQ X.K t c=sI b)(h:∀tk,Q (.bool b) { s with toks:=tk }) :
  oR (model X.prog X.w) A (call (.builtin "isinstance") [u,c]) Q E s:=by
 cases ty with
 | non=>cases (show u=Value.none from rx);exact bf PySem.W.kitx_none I.kIn True.intro e (λz=>nomatch z) h
 | bl y=>cases (show u=Value.bool y from rx);exact bf PySem.W.kitx_bool I.kIn True.intro e (λz=>nomatch z) h
 | int i=>obtain⟨t,q⟩:=(show ∃t,u=Value.int i t from rx);cases q;exact bf PySem.W.kitx_int I.kIn True.intro e (λz=>nomatch z) h
 | str y=>obtain⟨t,q⟩:=(show ∃t,u=Value.str y t from rx);cases q;exact bf PySem.W.kitx_str I.kIn True.intro e (λz=>nomatch z) h
 | flt y=>obtain⟨t,q⟩:=(show ∃t,u=Value.float y t from rx);cases q;exact bf PySem.W.kitx_float I.kIn True.intro e (λz=>nomatch z) h
 | @lst a xs ea =>
  cases (show u=Value.ref a from rx)
  obtain⟨_,_,n,_,h1⟩:=(show ObjOk X.prog X.w H s.heap a (.lst xs) from I.hok a _ ea)
  exact bf ef I.kIn ⟨_,h1,rfl⟩ e (λz=>nomatch z) h
 | @frz a ob xs ea =>
  cases (show u=Value.ref a from rx)
  obtain⟨_,_,_,n,_,h1⟩:=(show ObjOk X.prog X.w H s.heap a (.frz ob (.lst xs)) from I.hok a _ ea)
  exact bf ef I.kIn ⟨_,h1,rfl⟩ e (λz=>nomatch z) h
 | @tup a xs ea =>
  cases (show u=Value.ref a from rx)
  obtain⟨_,_,_,p⟩:=(show ObjOk X.prog X.w H s.heap a (.tup xs) from I.hok a _ ea)
  obtain⟨o,h1,h2,_⟩:=p
  exact bf fv I.kIn ⟨o,h1,h2⟩ e (λz=>nomatch z) h
 | @dK a kvs ea =>
  cases (show u=Value.ref a from rx)
  obtain⟨_,_,vs,_,p⟩:=(show ObjOk X.prog X.w H s.heap a (.dK kvs) from I.hok a _ ea)
  obtain⟨o,es,ep,h1,h2,_⟩:=p
  exact bf fJ I.kIn ⟨o,h1,h2.1⟩ e (λz=>nomatch z) h
 | @dT a kvs ea =>
  cases (show u=Value.ref a from rx)
  obtain⟨_,_,xs,_,o,es,ep,h1,h2,_⟩:=(show ObjOk X.prog X.w H s.heap a (.dT kvs) from I.hok a _ ea)
  exact bf fJ I.kIn ⟨o,h1,h2.1⟩ e (λz=>nomatch z) h
 | @ins a C dx fs ea cl ha hn htk hm =>
  cases (show u=Value.ref a from rx)
  obtain⟨mA,O,_⟩:=j7 I.hok ea
  obtain⟨od,J,_⟩:=O.look
  exact bf (PySem.W.kitx_own (cl.get _) cl.hd ha hn htk hm) I.kIn J e (λz=>nomatch z) h
end
end L2
namespace L2
structure Room(k:Nat)(A:oX):Prop where
 hd:A.handled=sJ
 dp:A.depth+3 * k+5<rT
 un:A.units+16 * k+200<cLine
theorem Room.mono{j k:Nat}{A:oX}(r:Room k A)(h:j<=k):Room j A:=⟨r.hd,by have:=r.dp;lia,by have:=r.un;lia⟩
theorem Room.deeper{k:Nat}{A:oX}(r:Room (k+1) A)(env:rP):Room k (A.deeper env) :=
 ⟨r.hd,by have:=r.dp;show A.depth+1+3 * k+5<_;lia,by have:=r.un;show A.units+3+16 * k+200<_;lia⟩
theorem Room.in1{k:Nat}{A:oX}(r:Room (k+1) A):Room k A.in1 :=
 ⟨r.hd,by have:=r.dp;show A.depth+3 * k+5<_;lia,by have:=r.un;show A.units+1+16 * k+200<_;lia⟩
theorem XH{A:oX}{C:oO}{us:List oP}{kw:List (oV × oP)}:(A.under (.builtin "type.__call__" ⟨.ref C::us,kw⟩)).depth=A.depth+1:=by
 first | rfl | simp [Around.under,Code.weight,Code.isCreation,Code.isGuard,Code.isCaller,Code.frames,Code.isFrame,guardIds]
theorem X5{A:oX}{C:oO}{us:List oP}{kw:List (oV × oP)}:(A.under (.builtin "type.__call__" ⟨.ref C::us,kw⟩)).units=A.units+1:=by
 first | rfl | simp [Around.under,Code.cUnits,Code.frames,Code.isFrame]
theorem Room.make{k:Nat}{A:oX}(r:Room (k+1) A)(C:oO)(us:List oP)(kw:List (oV × oP)):Room k (A.under (.builtin "type.__call__" ⟨.ref C::us,kw⟩)) :=
 ⟨r.hd,by have:=r.dp;rw[XH];lia,by have:=r.un;rw[X5];lia⟩
theorem Room.depth{k:Nat}{A:oX}(r:Room k A):A.depth<rT:=by have:=r.dp;lia
theorem Room.units{k:Nat}{A:oX}(r:Room k A):A.units+64<cLine:=by have:=r.un;lia
def xS:TA:=λ_ H Q=>Q [] H
def zJ(ta:TE)(tr:TA):TA:=λσ H Q=>ta σ H λx H1=>tr σ H1 λxs H2=>Q (x::xs) H2
section
variable{X:Cx}{e:oY}{es:List oY}{te:TE}{t:TA}{pos:pW}
theorem ze:PA X [] xS:=λ_ _ _ _ H Q I h=>Calls.spliced_nil ⟨[],H,I,.nil,h⟩
theorem za(ha:PE X e te)(hr:PA X es t)(hs:oK (e::es) X.env=(sL,eval e X.env)::oK es X.env:=by rfl):PA X (e::es) (zJ te t):=by
 intro pos sM s σ H Q I h
 rw[hs]
 show oR _ _ (spliced ((sL,eval e X.env)::pq pos (oK es X.env))) _ _ s
 refine Calls.spliced_cons (thn (ha sM s σ H _ I h) λu s1 ⟨x,H1,I1,r1,q1⟩=>?_)
 exact thn (hr pos sM s1 σ H1 _ I1 q1) λus s2 ⟨xs,H2,I2,r2,q2⟩=>⟨x::xs,H2,I2,.cons r1 r2,q2⟩
def Ur(t:TA):TE:=λσ H Q=>t σ H λxs H1=>xs.length<=oM/\∀p,H1 p=sJ->Q (.ref p) (upd H1 p (.tup xs))
def zcA(t:TA):TE:=λσ H Q=>t σ H λxs H1=>xs.length<=oM/\∀p,H1 p=sJ->Q (.ref p) (upd H1 p (.lst xs))
theorem zY{x1}(h:PA X es t):PE X (.Tuple es x1 pos) (Ur t):=by
 intro sM s σ H Q I hq
 refine wpAny_Tuple_spliced (thn (h pos sM s σ H _ I hq) λus s1 ⟨xs,H1,I1,r,z,q⟩=>⟨by rw[<- r.length];exact z,?_⟩)
 have hf:H1 s1.heap.objs.size=sJ:=I1.hok.fresh (am _)
 refine⟨.ref s1.heap.objs.size,upd H1 s1.heap.objs.size (.tup xs),I1.laid (t':=s1.toks) (λb u e=>aa _ e) (am _) ?_,rfl,q _ hf⟩
 exact⟨z,us,r,⟨_,aD _ rfl,rfl,_,rfl⟩⟩
theorem vD(h:PA X es t):PE X (.List es pos) (zcA t):=by
 intro sM s σ H Q I hq
 refine wpAny_List_spliced (thn (h pos sM s σ H _ I hq) λus s1 ⟨xs,H1,I1,r,z,q⟩=>⟨by rw[<- r.length];exact z,?_⟩)
 have hf:H1 s1.heap.objs.size=sJ:=I1.hok.fresh (am _)
 refine⟨.ref s1.heap.objs.size,upd H1 s1.heap.objs.size (.lst xs),I1.laid (t':=s1.toks) (λb u e=>aa _ e) (am _) ?_,rfl,q _ hf⟩
 exact⟨z,us,0,r,aD _ rfl⟩
end
noncomputable abbrev Sp:=List V->Hp->VK->XK->Prop
noncomputable abbrev CXT:=List rP->Hp->oQ->XK->oP->oQ->Prop
structure Env0(P:oU)(w:oW)(K:oN)(mg:oV->Option oP)(base:oZ)(A:oX)(outer:List rP)(s:oQ)(H:Hp):Prop where
 frames:A.frames=sI outer
 mod:Mod K mg base
 bs:∀b o,base.get? b=sI o->s.heap.get? b=sI o/\H b=sJ
 bsz:base.objs.size<=s.heap.objs.size
 funs:s.heap.FunFrames base outer
 frf:∀b ∈ frs outer,H b=sJ
 hok:HOk P w H s.heap
 bare:rA s.gens
def CE(outer:List rP)(P:oU)(w:oW)(H:Hp)(s:oQ)(Q:VK)(u:oP)(s':oQ):Prop :=
 ∃v H',s'.os=s.os/\rA s'.gens/\Un (frs outer) [] H H' s.heap s'.heap/\HOk P w H' s'.heap/\RelV v u/\Q v H'
def CR(CX:CXT)(outer:List rP)(P:oU)(w:oW)(H:Hp)(s:oQ)(Q:VK)(E:XK)(r:rN)(s':oQ):Prop :=
 match r with
 | .ok (.ret u)=>CE outer P w H s Q u s'
 | .ok _=>False
 | .error e=>CX outer H s E e s'
structure z8(P:oU)(w:oW)(K:oN)(mg:oV->Option oP)(base:oZ)(CX:CXT)(k:Nat)(f:oO)(fd:oS)(ps:List oV)(sp:Sp):Prop where
 len:∀vs H Q E,sp vs H Q E->vs.length=ps.length
 run:∀(A:oX) (outer:List rP) (s:oQ) (H:Hp) (args:Args) (us:List oP) (vs:List V) (Q:VK) (E:XK),Room k A->Env0 P w K mg base A outer s H->rW s fd args (ps.zip us)->Vals vs us->sp vs H Q E ->
  pM (model P w) A (.call (.ref f) args) (CR CX outer P w H s Q E) s
theorem Env0.make{P:oU}{w:oW}{K:oN}{mg:oV->Option oP}{base:oZ}{A:oX}{outer:List rP}{s:oQ}{H:Hp}(e:Env0 P w K mg base A outer s H)(C:oO)(us:List oP)(kw:List (oV × oP)) :
  Env0 P w K mg base (A.under (.builtin "type.__call__" ⟨.ref C::us,kw⟩)) outer s H:=⟨by first | exact e.frames | (simpa [Around.under,Code.envs,Code.isFrame,pushEnvs] using e.frames),e.mod,e.bs,e.bsz,e.funs,e.frf,e.hok,e.bare⟩
section
variable{X:Cx}{sM:List (oO × pE)}{σ:St}{H:Hp}{s s':oQ}
theorem Inv.env0(I:Inv X sM σ H s):Env0 X.prog X.w X.K X.mg X.base X.A X.stack s H :=
 ⟨I.ok.frames,I.ok.mod,I.bs,aJ I.ok.bsz I.sz,I.stack,I.stkFree,I.hok,I.bare⟩
theorem Inv.after{Q:VK}{u:oP}(I:Inv X sM σ H s)(h:CE X.stack X.prog X.w H s Q u s'):EP X sM σ Q u s':=by
 obtain⟨v,H',os,bare,un,hok,r,q⟩:=h
 obtain⟨hh,g,d,t,os'⟩:=s'
 obtain rfl:os'=s.os:=os
 exact⟨v,H',I.call (h':=hh) (g':=g) (d':=d) (t':=t) (ch:=[]) un hok bare (λb z=>absurd z (by simp)),r,q⟩
end
def vY(sp:Sp)(dvs:List V)(E:XK)(t:TA):TE:=λσ H Q=>t σ H λvs H1=>sp (vs ++ dvs) H1 Q E
def Zj(C:oO)(m:oV)(sp:Sp)(dvs:List V)(E:XK)(ta:TE)(t:TA):TE:=λσ H Q=>ta σ H λx H1=>∃a dx fs,x=.ref a/\H1 a=sI (.ins C dx fs)/\fs.lookup m=sJ /\
 t σ H1 λvs H2=>sp (x::(vs ++ dvs)) H2 Q E
def QL(C:oO)(sp:Sp)(dvs:List V)(E:XK)(t:TA):TE:=λσ H Q=>t σ H λvs H1=>∀x dx,H1 x=sJ->H1 dx=sJ->dx≠x ->
 sp (.ref x::(vs ++ dvs)) (upd (upd H1 dx (.own x)) x (.ins C dx [])) (λv H2=>v=.non/\Q (.ref x) H2) E
def Binds(K:oN)(fd:oS)(ps:List oV)(ds:List oP):Prop :=
 ∀(s:oQ) (us:List oP),K.In s.heap->(us ++ ds).length=ps.length->rW s fd ⟨us,[]⟩ (ps.zip (us ++ ds))
theorem Binds.all{K:oN}{fd:oS}{ps:List oV}(h:∀us:List oP,us.length=ps.length->bindArgs fd ⟨us,[]⟩=pure (ps.zip us)):Binds K fd ps []:=λs us _ hl=>by
 rw[aT] at hl ⊢
 exact .of_eq (h us hl)
def uz(CX:CXT)(X:Cx)(E:XK):Prop:=∀(sM:List (oO × pE)) (σ:St) (H:Hp) (s:oQ) (e:oP) (s':oQ),Inv X sM σ H s->CX X.stack H s E e s'->X.xe e s'
section
variable{X:Cx}{CX:CXT}{k:Nat}{f C:oO}{fd:oS}{ps:List oV}{sp:Sp}{dvs:List V}{ds:List oP}{E:XK}{x m:oV}{p pos apos:pW}{e o:oY}{es:List oY}{ta:TE}{t:TA}
theorem jA{sM:List (oO × pE)}{σ:St}{H:Hp}{s:oQ}{Q:VK}{us:List oP}{vs:List V}(F:z8 X.prog X.w X.K X.mg X.base CX k f fd ps sp)(hr:Room k X.A)(hb:Binds X.K fd ps ds)(hd:Vals dvs ds)(hx:uz CX X E)
  (I:Inv X sM σ H s) (r:Vals vs us) (h:sp (vs ++ dvs) H Q E):oR (model X.prog X.w) X.A (call (.ref f) us) (EP X sM σ Q) X.xe s:=by
 have r2:Vals (vs ++ dvs) (us ++ ds):=r.append hd
 have hl:(us ++ ds).length=ps.length:=by rw[<- r2.length];exact F.len _ _ _ _ h
 refine rb (re (F.run X.A X.stack s H ⟨us,[]⟩ (us ++ ds) (vs ++ dvs) Q E hr I.env0 (hb s us I.kIn hl) r2 h) λr s' hq=>?_)
 cases r with
 | error e=>exact hx sM σ H s e s' I hq
 | ok fl =>
  cases fl with
  | ret u=>exact I.after hq
  | next=>exact False.elim hq
  | brk=>exact False.elim hq
  | cont=>exact False.elim hq
theorem WV(F:z8 X.prog X.w X.K X.mg X.base CX k f fd ps sp)(hr:Room k X.A)(hg:Gl X x)(hm:X.mg x=sI (.ref f))(hk:aO X.K (.ref f)=sK)(hb:Binds X.K fd ps ds)(hd:Vals dvs ds)(hx:uz CX X E)
  (ha:PA X (e::es) t) (hdb:(x == ("__debug__" : oV))=sL:=by decide) (he:oK (e::es) X.env=(sL,eval e X.env)::oK es X.env:=by rfl) (hpl:(pq pos (oK es X.env)).any (·.1)=sL:=by rfl) :
  PE X (.Call (.Name x p) (e::es) [] pos) (vY sp dvs E t):=by
 intro sM s σ H Q I h
 refine pA (wD I hg hm ?_ hdb)
 refine bT (h₀:=X.base) I.ok.mod.kin hk (thn (ha pos sM s σ H _ I h) λus s1 ⟨vs,H1,I1,r,q⟩=>⟨I1.kIn,?_⟩) he hpl
 exact jA F hr hb hd hx I1 r q
theorem Kj{pl:sB Bool}(he:PE X o ta)(c:Cls X.K C)(hm:zas X.K C m f)(F:z8 X.prog X.w X.K X.mg X.base CX k f fd ps sp)(hr:Room k X.A)(hb:Binds X.K fd ps ds)(hd:Vals dvs ds)(hx:uz CX X E)(ha:PA X (e::es) t)
    (hst:oK (e::es) X.env=(sL,eval e X.env)::oK es X.env:=by rfl) (hpl:(pq pos (oK es X.env)).any (·.1)=sL:=by rfl)
    (ht:eval (.Call (.Attribute o m apos) (e::es) [] pos) X.env=(do
      let ov <- eval o X.env
      standAt apos.atName
      let (f,first) <- holding [ov] (getMethod ov m pl)
      callWith pos f first (pq pos (oK (e::es) X.env)) (pG pos (ph [] X.env))):=by rfl) :
    PE X (.Call (.Attribute o m apos) (e::es) [] pos) (Zj C m sp dvs E ta t):=by
  intro sM s σ H Q I h
  refine bZ (pl:=pl) (thn (he sM s σ H _ I h) λu s1 ⟨x,H1,I1,rx,a,dx,fs,ex,ea,l,q⟩=>?_) ht
  subst ex
  obtain rfl:u=Value.ref a:=rx
  refine xP I1 ea c hm l ?_
  refine bT (first:=[.ref a]) (h₀:=X.base) I.ok.mod.kin hm.kp (thn (ha pos sM s1 σ H1 _ I1 q) λus s2 ⟨vs,H2,I2,r,q2⟩=>⟨I2.kIn,?_⟩) hst hpl
  exact jA (us:=.ref a::us) (vs:=.ref a::vs) F hr hb hd hx I2 (.cons rfl r) q2
theorem Ut{pl:sB Bool}(he:PE X o ta)(c:Cls X.K C)(hm:zas X.K C m f)(F:z8 X.prog X.w X.K X.mg X.base CX k f fd ps sp)(hr:Room k X.A)(hb:Binds X.K fd ps ds)(hd:Vals dvs ds)(hx:uz CX X E)
    (ht:eval (.Call (.Attribute o m apos) [] [] pos) X.env=(do
      let ov <- eval o X.env
      standAt apos.atName
      let (f,first) <- holding [ov] (getMethod ov m pl)
      callWith pos f first (pq pos (oK [] X.env)) (pG pos (ph [] X.env))):=by rfl) :
    PE X (.Call (.Attribute o m apos) [] [] pos) (Zj C m sp dvs E ta xS):=by
  intro sM s σ H Q I h
  refine bZ (pl:=pl) (thn (he sM s σ H _ I h) λu s1 ⟨x,H1,I1,rx,a,dx,fs,ex,ea,l,q⟩=>?_) ht
  subst ex
  obtain rfl:u=Value.ref a:=rx
  refine xP I1 ea c hm l ?_
  exact ft (first:=[.ref a]) I1.kIn hm.kp (jA (us:=[.ref a]) (vs:=[.ref a]) F hr hb hd hx I1 (.cons rfl .nil) q)
structure Mk(K:oN)(C f:oO):Prop where
 makes:cJ K C=sK
 init:ah K (.ref C) "__init__" = sI (sI (.ref f))
 fn:bc K (.ref f)=sK
 kp:aO K (.ref C)=sK
theorem QA{sM:List (oO × pE)}{σ:St}{H:Hp}{s:oQ}{Q:VK}{us:List oP}{vs:List V}(M:Mk X.K C f)(F:z8 X.prog X.w X.K X.mg X.base CX k f fd ps sp)(hr:Room (k+1) X.A)(hb:Binds X.K fd ps ds)(hd:Vals dvs ds)
  (hx:uz CX X E) (I:Inv X sM σ H s) (r:Vals vs us)
  (h:∀x dx,H x=sJ->H dx=sJ->dx≠x->sp (.ref x::(vs ++ dvs)) (upd (upd H dx (.own x)) x (.ins C dx [])) (λv H2=>v=.non/\Q (.ref x) H2) E) :
  oR (model X.prog X.w) X.A (call (.ref C) us) (EP X sM σ Q) X.xe s:=by
 have hq:=h (s.heap.objs.size+1) s.heap.objs.size (I.hok.fresh (cP _)) (I.hok.fresh (am _)) (aw (cX _))
 have I2:=Inv.made (C:=C) I
 have r2:Vals (V.ref (s.heap.objs.size+1)::(vs ++ dvs)) (Value.ref (s.heap.objs.size+1)::(us ++ ds)):=.cons rfl (r.append hd)
 have hl:(Value.ref (s.heap.objs.size+1)::us ++ ds).length=ps.length:=by
  have e:=r2.length
  rw[F.len _ _ _ _ hq] at e
  exact e.symm
 refine rb (Qj (f:=f) I.kIn M.makes M.init (beq_iff_eq.mp M.fn) (re (F.run _ X.stack _ _ ⟨Value.ref (s.heap.objs.size+1)::us,[]⟩ (Value.ref (s.heap.objs.size+1)::(us ++ ds)) _ _ E (hr.make C us [])
  (I2.env0.make C us []) (hb _ (Value.ref (s.heap.objs.size+1)::us) I2.kIn hl) r2 hq) λr s' hq'=>?_))
 cases r with
 | error e=>exact hx sM σ _ _ e s' I2 hq'
 | ok fl =>
  cases fl with
  | ret u =>
   obtain⟨v,H',I3,rv,ev,q3⟩:=I2.after hq'
   subst ev
   exact⟨rv,⟨V.ref (s.heap.objs.size+1),H',I3,rfl,q3⟩⟩
  | next=>exact False.elim hq'
  | brk=>exact False.elim hq'
  | cont=>exact False.elim hq'
theorem Wo(M:Mk X.K C f)(F:z8 X.prog X.w X.K X.mg X.base CX k f fd ps sp)(hr:Room (k+1) X.A)(hg:Gl X x)(hm:X.mg x=sI (.ref C))(hb:Binds X.K fd ps ds)(hd:Vals dvs ds)(hx:uz CX X E)
  (ha:PA X (e::es) t) (hdb:(x == ("__debug__" : oV))=sL:=by decide) (he:oK (e::es) X.env=(sL,eval e X.env)::oK es X.env:=by rfl) (hpl:(pq pos (oK es X.env)).any (·.1)=sL:=by rfl) :
  PE X (.Call (.Name x p) (e::es) [] pos) (QL C sp dvs E t):=by
 intro sM s σ H Q I h
 refine pA (wD I hg hm ?_ hdb)
 refine bT (h₀:=X.base) I.ok.mod.kin M.kp (thn (ha pos sM s σ H _ I h) λus s1 ⟨vs,H1,I1,r,q⟩=>⟨I1.kIn,?_⟩) he hpl
 exact QA M F hr hb hd hx I1 r q
end
def PK(X:Cx)(kws:List sC)(t:TA):Prop :=
 ∀(pos:pW) (sM:List (oO × pE)) (s:oQ) (σ:St) (H:Hp) (Q:List V->Hp->Prop),Inv X sM σ H s->t σ H Q->oR (model X.prog X.w) X.A (evalAll ((pG pos (ph kws X.env)).map (·.2))) (AP X sM σ Q) X.xe s
section
variable{X:Cx}{CX:CXT}{k:Nat}{f C:oO}{fd:oS}{ps ks:List oV}{sp:Sp}{E:XK}{x m:oV}{p pos apos kpos:pW}{e o:oY}{es:List oY}{kws:List sC}{te ta:TE}{t tk:TA}{nm:Option oV}
theorem Jq:PK X [] xS:=λ_ _ _ _ H Q I h=>wpAny_evalAll_nil ⟨[],H,I,.nil,h⟩
theorem Wn(ha:PE X e te)(hr:PK X kws t):PK X (⟨nm,e,kpos⟩::kws) (zJ te t):=by
 intro pos sM s σ H Q I h
 show oR _ _ (evalAll ((do let v <- eval e X.env;standAt pos;pure v)::(pG pos (ph kws X.env)).map (·.2))) _ _ s
 refine wpAny_evalAll_cons (oG (thn (ha sM s σ H _ I h) λu s1 ⟨x,H1,I1,r1,q1⟩=>oG (pT (oH ?_))))
 exact thn (hr pos sM s1 σ H1 _ I1 q1) λus s2 ⟨xs,H2,I2,r2,q2⟩=>⟨x::xs,H2,I2,.cons r1 r2,q2⟩
variable{g:List oP->List oP->List oP}{gV:List V->List V->List V}
end
structure zp(N P:List oV)(sc:pQ):Prop where
 kind:sc.kind=.function
 co:sc.isCoroutine=sL
 gen:sc.isGenerator=sL
 nd:N.Nodup
 pre:N.take P.length=P
 par:∀x ∈ P,sc.names.lookup x=sI .local\/sc.names.lookup x=sI .cell
 nofree:∀y ∈ sc.names,y.2≠.free
theorem kW{kindOf:oV->Option rq}{x:oV}:∀{binds:List (oV × oP)} {m:oV->Option oP},(∀v,(x,v) ∉ binds)->bindL kindOf binds m x=m x
  | [],_,_=>rfl
  | (n,v)::r,m,h=>by
    unfold bindL
    rw[kW λw hw=>h w (ao _ hw)]
    split
    . have:x≠n:=by rintro rfl;exact h v aB
      simp [this]
    . rfl
theorem Ze{kindOf:oV->Option rq}{x:oV}:∀{binds:List (oV × oP)} {m:oV->Option oP},(∀v,(x,v) ∉ binds)->bindC kindOf binds m x=m x
  | [],_,_=>rfl
  | (n,v)::r,m,h=>by
    unfold bindC
    rw[Ze λw hw=>h w (ao _ hw)]
    split
    . rfl
    . have:x≠n:=by rintro rfl;exact h v aB
      simp [this]
theorem ZH{kindOf:oV->Option rq}{x:oV}{v:oP}:∀{P:List oV} {vs:List oP} {i:Nat} {m:oV->Option oP},P.Nodup->P[i]? = sI x->vs[i]? = sI v->kindOf x=sI .local ->
  bindL kindOf (P.zip vs) m x=sI v
 | [],_,_,_,_,h,_,_=>by simp at h
 | _::_,[],_,_,_,_,h,_=>by simp at h
 | p::P,w::vs,0,m,nd,h1,h2,hk=>by
  simp at h1 h2;subst h1;subst h2
  show bindL kindOf ((p,w)::P.zip vs) m p=_
  unfold bindL
  rw[kW λv hv=>(tz.mp nd).1 (dg hv).1,if_pos hk]
  simp
 | p::P,w::vs,i+1,m,nd,h1,h2,hk=>by
  show bindL kindOf ((p,w)::P.zip vs) m x=_
  unfold bindL
  exact ZH (i:=i) (tz.mp nd).2 (by simpa using h1) (by simpa using h2) hk
theorem Zk{kindOf:oV->Option rq}{x:oV}{v:oP}:∀{P:List oV} {vs:List oP} {i:Nat} {m:oV->Option oP},P.Nodup->P[i]? = sI x->vs[i]? = sI v->kindOf x≠sI .local ->
  bindC kindOf (P.zip vs) m x=sI v
 | [],_,_,_,_,h,_,_=>by simp at h
 | _::_,[],_,_,_,_,h,_=>by simp at h
 | p::P,w::vs,0,m,nd,h1,h2,hk=>by
  simp at h1 h2;subst h1;subst h2
  show bindC kindOf ((p,w)::P.zip vs) m p=_
  unfold bindC
  rw[Ze λv hv=>(tz.mp nd).1 (dg hv).1,if_neg hk]
  simp
 | p::P,w::vs,i+1,m,nd,h1,h2,hk=>by
  show bindC kindOf ((p,w)::P.zip vs) m x=_
  unfold bindC
  exact Zk (i:=i) (tz.mp nd).2 (by simpa using h1) (by simpa using h2) hk
noncomputable def start(N:List oV)(vs:List V):St:=vs.map sI ++ aU (N.length - vs.length) sJ
noncomputable def uL(CX:CXT)(P:oU)(w:oW)(K:oN)(mg:oV->Option oP)(base:oZ)(N:List oV)(qual:oV)(scope:pQ)(f:oO)(cd:oP)(A:oX)(outer:List rP)(s:oQ)(H:Hp)(E:XK):Cx where
 prog:=P
 w:=w
 K:=K
 mg:=mg
 base:=base
 A:=A.deeper (rz qual scope s.heap.objs.size f cd)
 N:=N
 s₀:=s
 H₀:=H
 env:=rz qual scope s.heap.objs.size f cd
 outer:=outer
 stack:=rz qual scope s.heap.objs.size f cd::outer
 ex:=[]
 calm:=sK
 fn:=λ_=>sK
 pn:=[]
 xe:=λe s'=>oR (model P w) (A.deeper (rz qual scope s.heap.objs.size f cd)) (leaving (rz qual scope s.heap.objs.size f cd) e) (λ_ s''=>CX outer H s E e s'') (λe' s''=>CX outer H s E e' s'') s'
theorem Yz{sc:pQ}{n:Nat}{x:oV}(h:sc.names.lookup x=sI .cell):∃c,(cellsFrom n sc.names []).lookup x=sI c:=by
 have q:=eU sc.names n [] (.inl h)
 exact tD.mp q
theorem WK{CX:CXT}{P:oU}{w:oW}{K:oN}{mg:oV->Option oP}{base:oZ}{N ps:List oV}{qual:oV}{scope:pQ}{f:oO}{cd:oP}{A:oX}{outer:List rP}{s s1:oQ}{H:Hp}{E:XK}{us:List oP}{vs:List V}
  (S:zp N ps scope) (hd:A.handled=sJ) (e0:Env0 P w K mg base A outer s H) (hl:vs.length=ps.length) (r:Vals vs us)
  (x:InCallC s s.heap.objs.size (bindL (rz qual scope s.heap.objs.size f cd).kindOf (ps.zip us) λ_=>sJ) (cellsFrom (s.heap.objs.size+1) scope.names []) (bindC (rz qual scope s.heap.objs.size f cd).kindOf (ps.zip us) λ_=>sJ) s1) :
  Inv (uL CX P w K mg base N qual scope f cd A outer s H E) [] (start N vs) H s1:=by
 have hpl:ps.length<=N.length:=by have:=congrArg eV S.pre;rw[az] at this;lia
 obtain⟨h1,tk,rfl,hk⟩:=x.done
 have noA:∀b:oO,b ∉ (uL CX P w K mg base N qual scope f cd A outer s H E).ex:=λb z=>absurd (show b ∈ ([]:List oO) from z) (by simp)
 refine⟨⟨e0.mod,S.kind,rfl,rfl,am _,λy z c h1 h2=>?_,λy hy=>?_,λy c _ h=>?_,λ_=>hd,Around.frames_deeper e0.frames,.inr ⟨rfl,rfl⟩,λb z=>absurd z (noA b),e0.bs,e0.bsz,λb _ _=>noA b,λb z=>absurd z (noA b),e0.funs,e0.frf⟩,
  rfl,e0.bare,Un.kept hk,⟨_,x.toInCall.ns,λi y v h1 h2 h3=>?_⟩,λy c h=>⟨_,x.cell y c h⟩,e0.hok.fresh (am _),λy c h=>?_,λp hp=>absurd (show p ∈ ([]:List (oO × pE)) from hp) (by simp),e0.hok.kept hk,?_⟩
 ·exact name_of_addr x.apart (bX h1) (bX h2)
 ·have hy:scope.names.lookup y=sI .cell\/scope.names.lookup y=sI .free:=hy
  rcases hy with hy | hy
  ·exact Yz hy
  ·exact absurd rfl (S.nofree _ (bX hy))
 ·exact dj (x.above y c (bX h))
 ·have hi:i<vs.length:=by
   unfold start at h2
   by_cases hi:i<vs.length
   ·exact hi
   ·rw[bK (by simpa using hi)] at h2
    rw[eL] at h2
    split at h2 <;> cases h2
  have ha:vs[i]? = sI v:=by
   unfold start at h2
   rw[bP (by simpa using hi),aG] at h2
   cases e:vs[i]? with
   | none=>rw[e] at h2;cases h2
   | some a=>rw[e] at h2;cases h2;rfl
  obtain⟨u,hu,rv⟩:=r.get ha
  have hp:ps[i]? = sI y:=by
   rw[<- S.pre,bo (by lia)];exact h1
  have ndP:ps.Nodup:=by rw[<- S.pre];exact S.nd.sublist (List.take_sublist _ _)
  refine⟨u,rv,?_⟩
  rcases S.par y (ac hp) with k | k
  ·exact .inl ⟨k,ZH ndP hp hu k⟩
  ·obtain⟨c,e⟩:=Yz (n:=s.heap.objs.size+1) k
   refine .inr ⟨.inl k,c,e,?_⟩
   have q:=x.cell y c e
   rw[Zk ndP hp hu (by show scope.names.lookup y≠_;rw[k];decide)] at q
   exact q
 ·exact e0.hok.fresh (dj (x.above y c (bX h)))
 ·unfold start
  show _=N.length
  rw[ak,ae,bQ]
  lia
theorem QJ{CX:CXT}{P:oU}{w:oW}{K:oN}{mg:oV->Option oP}{base:oZ}{k:Nat}{f:oO}{name qual:oV}{params:rB}{body:List pb}{scope:pQ}{dV kV doc pm cdv ct oc:oP}{an od:Option oO}
  {osl:Array (Option oP)} {N ps:List oV} {sp:Sp} (lk:K.lookup f=sI ⟨oc,od,.func (bp name qual params body scope dV kV doc pm an cdv ct),osl⟩) (hcd:bV K cdv qual=sK) (S:zp N ps scope)
  (len:∀vs H Q E,sp vs H Q E->vs.length=ps.length)
  (hbody:∀(A:oX) (outer:List rP) (s:oQ) (H:Hp) (vs:List V) (Q:VK) (E:XK),Room k (A.deeper (rz qual scope s.heap.objs.size f cdv))->sp vs H Q E ->
   ∃t,PSs (uL CX P w K mg base N qual scope f cdv A outer s H E) body t/\t { nx:=λ_ H'=>Q .non H',rt:=Q } (start N vs) H) :
  z8 P w K mg base CX (k+1) f (bp name qual params body scope dV kV doc pm an cdv ct) ps sp:=by
 refine⟨len,λA outer s H args us vs Q E hr e0 hb r hsp=>?_⟩
 have hl:=len _ _ _ _ hsp
 have KX:K.In s.heap:=e0.mod.kin.keeps λb o e=>(e0.bs b o e).1
 have lim:s.heap.NoLimit:=e0.mod.nolimit.keeps λb o e=>(e0.bs b o e).1
 have hkind:∀y ∈ ps.zip us,scope.names.lookup y.1=sI .local\/(scope.names.lookup y.1=sI .cell/\((cellsFrom (s.heap.objs.size+1) scope.names []).lookup y.1).isSome=sK):=λ⟨n,v⟩ hy=>by
  rcases S.par n (dg hy).1 with q | q
  ·exact .inl q
  ·exact .inr ⟨q,eU _ _ _ (.inl q)⟩
 refine codeAny_call_function hr.depth (KX _ _ lk) rfl S.co S.gen rfl (PySem.W.codeRec_of KX hcd) (hb _ _ _ _ ?_)
 refine wpAny_newFunctionEnv_cells S.kind hkind λenv he s1 x=>?_
 subst he
 refine⟨lim.keeps x.toInCall.keep,codeAny_func ?_⟩
 obtain⟨t,ht,hq⟩:=hbody A outer s H vs Q E (hr.deeper _) hsp
 have I:Inv (uL CX P w K mg base N qual scope f cdv A outer s H E) [] (start N vs) H s1:=WK S hr.hd e0 hl r x
 refine pY (ht [] s1 (start N vs) H _ I hq) (λfl s' hs=>?_) λe s' hs=>hs
 have fin:∀{σ':St} {H':Hp} {v:V} {u:oP},Inv (uL CX P w K mg base N qual scope f cdv A outer s H E) [] σ' H' s'->RelV v u->Q v H'->CE outer P w H s Q u s' :=
  λ{σ' H' v u} J rv q=>⟨v,H',J.os,J.bare,J.base,J.hok,rv,q⟩
 cases fl with
 | ret u =>
  obtain⟨v,σ',H',J,rv,q⟩:=hs
  exact fin J rv q
 | next =>
  obtain⟨σ',H',J,q⟩:=hs
  exact fin (v:=V.non) (u:=Value.none) J rfl q
 | brk =>
  obtain⟨_,_,_,q⟩:=hs
  exact False.elim q
 | cont =>
  obtain⟨_,_,_,q⟩:=hs
  exact False.elim q
end L2
namespace L2
section
variable{X:Cx}{x:oV}{p pos:pW}{e:oY}{es:List oY}{t:TA}{id T:String}{r:List V->Hp->VK->Prop}
def tCB(r:List V->Hp->VK->Prop)(t:TA):TE:=λσ H Q=>t σ H λvs H1=>r vs H1 Q
theorem zm(hc:wL X (.builtin id) r)(hg:Gl X x)(hm:X.mg x=sJ)(hv:pF x=sI (.builtin id))(ha:PA X (e::es) t)(hn:x≠"__name__":=by decide)(hdb:(x == ("__debug__" : oV))=sL:=by decide)
  (he:oK (e::es) X.env=(sL,eval e X.env)::oK es X.env:=by rfl) (hpl:(pq pos (oK es X.env)).any (·.1)=sL:=by rfl):PE X (.Call (.Name x p) (e::es) [] pos) (tCB r t):=by
 intro sM s σ H Q I h
 refine pA (vc I hg hm hv ?_ hn hdb)
 exact PyProof.Rows.callWith_builtin1 (thn (ha pos sM s σ H _ I h) λus s1 ⟨vs,H1,I1,r1,q1⟩=>hc sM s1 σ H1 vs us Q I1 r1 q1) he hpl
theorem xN(hc:wL X (.type T) r)(hg:Gl X x)(hm:X.mg x=sJ)(hv:pF x=sI (.type T))(ha:PA X (e::es) t)(hn:x≠"__name__":=by decide)(hdb:(x == ("__debug__" : oV))=sL:=by decide)
  (he:oK (e::es) X.env=(sL,eval e X.env)::oK es X.env:=by rfl) (hpl:(pq pos (oK es X.env)).any (·.1)=sL:=by rfl):PE X (.Call (.Name x p) (e::es) [] pos) (tCB r t):=by
 intro sM s σ H Q I h
 refine pA (vc I hg hm hv ?_ hn hdb)
 exact bE (thn (ha pos sM s σ H _ I h) λus s1 ⟨vs,H1,I1,r1,q1⟩=>hc sM s1 σ H1 vs us Q I1 r1 q1) he hpl
end
end L2
namespace HT
open PySem PyProof.Rows
section
open PySem.SeqAt
open PySem.AutoSeq1 (wpAny_loadPart')
open PySem.MeetsSeq PySem.MeetsSeq2 PySem.MeetsSeq3
end
section
variable{prog:oU}{w:oW}{A:oX}{E:oP->oQ->Prop}{s:oQ}
noncomputable def sIx(n d:Nat):Option Int->Nat
 | none=>d
 | some v=>if v<0 then (v+(n:Int)).toNat else min v.toNat n
theorem sIx_none(n d:Nat):sIx n d sJ=d:=rfl
theorem sIx_nat(n d k:Nat):sIx n d (sI (k:Int))=min k n:=by
 show (if (k:Int)<0 then ((k:Int)+(n:Int)).toNat else min (k:Int).toNat n)=min k n
 rw[if_neg (by lia),aH]
theorem sIx_le(n d:Nat)(hd:d<=n)(o:Option Int):sIx n d o<=n:=by
 cases o with
 | none=>exact hd
 | some v =>
  show (if v<0 then (v+(n:Int)).toNat else min v.toNat n)<=n
  by_cases hv:v<0
  ·rw[if_pos hv];lia
  ·rw[if_neg hv];exact Nat.min_le_right _ _
end
end HT
namespace L2
noncomputable abbrev TO:=St->Hp->(Option Int->Hp->Prop)->Prop
def PO(X:Cx)(e:Option oY)(t:TO):Prop :=
 ∀(sM:List (oO × pE)) (s:oQ) (σ:St) (H:Hp) (Q:Option Int->Hp->Prop),Inv X sM σ H s->t σ H Q ->
  oR (model X.prog X.w) X.A (evalPart e X.env) (λu s'=>∃o H',Inv X sM σ H' s'/\IsPart u o/\Q o H') X.xe s
def WD:TO:=λ_ H Q=>Q sJ H
def zar(t:TE):TO:=λσ H Q=>t σ H λx H1=>∃i,x=.int i/\Q (sI i) H1
section
variable{X:Cx}{e:oY}{te:TE}{lo hi:Option oY}{tl th:TO}{pos p2:pW}
theorem ym:PO X sJ WD:=by
 intro sM s σ H Q I h
 rw[evalPart_none]
 exact oH ⟨sJ,H,I,.none,h⟩
theorem zV(h:PE X e te):PO X (sI e) (zar te):=by
 intro sM s σ H Q I hw
 rw[evalPart_some]
 refine thn (h sM s σ H _ I hw) λu s1 ⟨x,H1,I1,r1,q1⟩=>?_
 obtain⟨i,rfl,q⟩:=q1
 obtain⟨t,rfl⟩:=r1
 exact⟨sI i,H1,I1,.int i t,q⟩
def SlR(X:Cx)(r:V->Option Int->Option Int->Hp->VK->Prop):Prop :=
 ∀(sM:List (oO × pE)) (s:oQ) (σ:St) (H:Hp) (x:V) (v vl vu:oP) (lo hi:Option Int) (sl:oO) (Q:VK),Inv X sM σ H s->RelV x v->s.heap.IsSliceOf sl vl vu .none->IsPart vl lo->IsPart vu hi->r x lo hi H Q ->
  ∃T id,typeLookup (.type T) "__getitem__" = pure (sI (.builtin id))/\s.TypeIs v T/\oR (model X.prog X.w) X.A (getItem v (.ref sl)) (EP X sM σ Q) X.xe s
theorem SlR.or{r r':V->Option Int->Option Int->Hp->VK->Prop}(h:SlR X r)(h':SlR X r'):SlR X (λx lo hi H Q=>r x lo hi H Q\/r' x lo hi H Q):=by
 intro sM s σ H x v vl vu lo hi sl Q I rx hs pl pu q
 rcases q with q | q
 ·exact h sM s σ H x v vl vu lo hi sl Q I rx hs pl pu q
 ·exact h' sM s σ H x v vl vu lo hi sl Q I rx hs pl pu q
def tSl(r:V->Option Int->Option Int->Hp->VK->Prop)(te:TE)(tl th:TO):TE:=λσ H Q=>te σ H λx H1=>tl σ H1 λl H2=>th σ H2 λu H3=>r x l u H3 Q
theorem zO{r:V->Option Int->Option Int->Hp->VK->Prop}(hr:SlR X r)(he:PE X e te)(hl:PO X lo tl)(hu:PO X hi th):PE X (.Subscript e (.Slice lo hi sJ p2) pos) (tSl r te tl th):=by
 intro sM s σ H Q I h
 refine sF (thn (he sM s σ H _ I h) λv s1 ⟨x,H1,I1,r1,q1⟩=>?_)
 refine wpAny_Slice (thn (hl sM s1 σ H1 _ I1 q1) λvl s2 ⟨l,H2,I2,pl,q2⟩=>thn (hu sM s2 σ H2 _ I2 q2) λvu s3 ⟨u,H3,I3,pu,q3⟩=>?_)
 rw[evalPart_none]
 refine oH ?_
 have I4:Inv X sM σ H3 { s3 with heap:=s3.heap.push { cls:=.type "slice",data:=.fields #[vl,vu,.none] } }:=I3.kept (t':=s3.toks) λb ob q=>aa _ q
 obtain⟨T,id,hT,ht,hg⟩:=hr sM { s3 with heap:=s3.heap.push { cls:=.type "slice",data:=.fields #[vl,vu,.none] } } σ H3 x v vl vu l u s3.heap.objs.size Q I4 r1 (Heap.IsSliceOf.new ..) pl pu q3
 show oR (model X.prog X.w) X.A (si e (.Slice lo hi sJ p2) v (.ref s3.heap.objs.size)) (EP X sM σ Q) X.xe { s3 with heap:=s3.heap.push { cls:=.type "slice",data:=.fields #[vl,vu,.none] } }
 exact tail_any (ops:=[.ref s3.heap.objs.size,v]) ht hT hg (by with_unfolding_all rfl)
noncomputable def QR(xs:List V)(lo hi:Option Int):List V:=(xs.drop (HT.sIx xs.length 0 lo)).take (HT.sIx xs.length xs.length hi - HT.sIx xs.length 0 lo)
theorem ZN(xs:List V)(lo hi:Option Int):(QR xs lo hi).length<=xs.length:=by
 unfold QR
 rw[az,aR]
 lia
end
end L2
namespace L2
noncomputable def ixN(n:Nat)(i:Int):Option Nat:=if 0<=i then (if i<n then sI i.toNat else sJ) else if -(n:Int)<=i then sI (i+n).toNat else sJ
noncomputable def atI{α:Type}(xs:List α)(i:Int):Option α:=(ixN xs.length i).bind λj=>xs[j]?
theorem KI{n:Nat}{i:Int}{j:Nat}(h:ixN n i=sI j):seqIndex? i n=sI j/\j<n/\-(n:Int)<=i/\i<n:=by
 unfold ixN at h
 by_cases h0:0<=i
 ·rw[if_pos h0] at h
  by_cases h1:i<n
  ·rw[if_pos h1] at h
   have e:i.toNat=j:=Option.some.inj h
   exact⟨by rw[seqIndex_of h0 h1,e],by lia,by lia,h1⟩
  ·rw[if_neg h1] at h;cases h
 ·rw[if_neg h0] at h
  by_cases h1:-(n:Int)<=i
  ·rw[if_pos h1] at h
   have e:(i+n).toNat=j:=Option.some.inj h
   exact⟨by rw[seqIndex_neg (by lia) h1,e],by lia,h1,by lia⟩
  ·rw[if_neg h1] at h;cases h
theorem ZY{α:Type}{xs:List α}{i:Int}{v:α}(h:atI xs i=sI v):∃j,seqIndex? i xs.length=sI j/\xs[j]? = sI v/\j<xs.length/\-(xs.length:Int)<=i/\i<xs.length:=by
 unfold atI at h
 cases e:ixN xs.length i with
 | none=>rw[e] at h;cases h
 | some j =>
  rw[e] at h
  obtain⟨h1,h2,h3,h4⟩:=KI e
  exact⟨j,h1,h,h2,h3,h4⟩
theorem vn{α:Type}{xs:List α}{j:Nat}{v:α}(h:xs[j]? = sI v):atI xs (j:Int)=sI v:=by
 have hj:j<xs.length:=(sQ.mp h).1
 have e:ixN xs.length (j:Int)=sI j:=by
  unfold ixN
  rw[if_pos (by lia),if_pos (by lia)];simp
 unfold atI;rw[e];exact h
def JA(b:oY):Prop:=∀o i,subscripted b sL o i=operate [o,i] (getItem o i)
def IxR(X:Cx)(r:R2):Prop :=
 ∀(value slice:oY) (sM:List (oO × pE)) (s:oQ) (σ:St) (H:Hp) (x y:V) (v u:oP) (Q:VK),Inv X sM σ H s->RelV x v->RelV y u->r x y H Q ->
  subscripted slice sL v u=operate [v,u] (getItem v u)->oR (model X.prog X.w) X.A (si value slice v u) (EP X sM σ Q) X.xe s
def MtR(X:Cx)(id:String)(r:V->List V->Hp->VK->Prop):Prop :=
 ∀(sM:List (oO × pE)) (s:oQ) (σ:St) (H:Hp) (x:V) (xs:List V) (v:oP) (us:List oP) (Q:VK),Inv X sM σ H s->RelV x v->Vals xs us->r x xs H Q ->
  oR (model X.prog X.w) X.A (call (.builtin id) (v::us)) (EP X sM σ Q) X.xe s
section
variable{X:Cx}{a b:oY}{ta tb:TE}{pos:pW}
theorem IxR.or{r r':R2}(h:IxR X r)(h':IxR X r'):IxR X (λx y H Q=>r x y H Q\/r' x y H Q):=by
 intro value slice sM s σ H x y v u Q I rx ry q hs
 rcases q with q | q
 ·exact h value slice sM s σ H x y v u Q I rx ry q hs
 ·exact h' value slice sM s σ H x y v u Q I rx ry q hs
theorem zr{r:R2}(hr:IxR X r)(ha:PE X a ta)(hb:PE X b tb)(hs:JA b):PE X (.Subscript a b pos) (tOp r ta tb):=by
 intro sM s σ H Q I h
 exact sF (zco ha hb I h λv u s2 x y H2 I2 rx ry q=>hr a b sM s2 σ H2 x y v u Q I2 rx ry q (hs _ _))
def zbQ(K:oN):R2:=λx y H Q=>∃p xs i v,x=.ref p/\y=.int i/\SqL K H p xs/\atI xs i=sI v/\Q v H
def vN(K:oN):R2:=λx y H Q=>∃p xs i v,x=.ref p/\y=.int i/\SqT K H p xs/\atI xs i=sI v/\Q v H
def zb3:R2:=λx y H Q=>∃z i c,x=.str z/\y=.int i/\z.length<=oM/\atI z.cps.toList i=sI c/\Q (.str ⟨#[c]⟩) H
theorem ix_list:IxR X (zbQ X.K):=by
 intro value slice sM s σ H x y v u Q I rx ry h hs
 obtain⟨p,xs,i,z,rfl,rfl,hq,he,q⟩:=h
 cases rx
 obtain⟨t,rfl⟩:=ry
 obtain⟨its,r,pl,hz⟩:=I.list hq
 obtain⟨j,h1,h2,h3,h4,h5⟩:=ZY he
 obtain⟨w,ew,rw'⟩:=r.get h2
 have hl:=r.length
 have hn:=ZI
 have fin:EP X sM σ Q w s:=⟨z,H,I,rw',q⟩
 by_cases h0:0<=i
 ·have hj:i.toNat=j:=by
   rw[seqIndex_of h0 h5] at h1
   exact Option.some.inj h1
  exact item_listR pl.isList h0 (by lia) (by rw[hj];simpa using ew) fin hs
 ·have hj:(i+(its.toArray.size:Int)).toNat=j:=by
   rw[seqIndex_neg (by lia) h4] at h1
   rw[al,<- hl]
   exact Option.some.inj h1
  exact rL (x:=w) pl.isList.typeIs slot_list_getitem.lookup
   (wpAny_getItem_list_neg (Q:=λr s'=>r=w/\EP X sM σ Q r s') pl.isList (by lia) (by rw[al] <;> lia) (by lia) (by rw[hj];simpa using ew) ⟨rfl,fin⟩) hs
theorem ix_tup:IxR X (vN X.K):=by
 intro value slice sM s σ H x y v u Q I rx ry h hs
 obtain⟨p,xs,i,z,rfl,rfl,hq,he,q⟩:=h
 cases rx
 obtain⟨t,rfl⟩:=ry
 obtain⟨its,r,pl,hz⟩:=I.tuple hq
 obtain⟨j,h1,h2,h3,h4,h5⟩:=ZY he
 obtain⟨w,ew,rw'⟩:=r.get h2
 have hl:=r.length
 have hn:=ZI
 have fin:EP X sM σ Q w s:=⟨z,H,I,rw',q⟩
 exact rL (x:=w) pl.typeIs slot_tuple_getitem.lookup
  (getItem_tuple (j:=j) (Q:=λr s'=>r=w/\EP X sM σ Q r s') pl (by lia) (by lia) (by rw[al,<- hl];exact h1) (by simpa using ew) ⟨rfl,fin⟩) hs
theorem W5:IxR X zb3:=by
 intro value slice sM s σ H x y v u Q I rx ry h hs
 obtain⟨z,i,c,rfl,rfl,hz,he,q⟩:=h
 obtain⟨t,rfl⟩:=rx
 obtain⟨t',rfl⟩:=ry
 obtain⟨j,h1,h2,h3,h4,h5⟩:=ZY he
 have hl:z.cps.toList.length=z.length:=by simp [Str.length]
 rw[hl] at h1 h4 h5
 have hn:=ZI
 exact tail_any (typeIs_str s z t) slot_str_getitem.lookup (getItem_str (c:=c) (by
  have e1:decide (i < -(2 ^ 63:Int))=sL:=decide_eq_false (by lia)
  have e2:decide (i ≥ 2 ^ 63)=sL:=decide_eq_false (by lia)
  rw[e1,e2,Bool.or_false]) (by rw[h1];simpa using h2) ⟨.str ⟨#[c]⟩,H,I.tok _,⟨_,rfl⟩,q⟩) hs
def rIx(K:oN):R2:=λx y H Q=>zbQ K x y H Q\/vN K x y H Q\/zb3 x y H Q
theorem WU:IxR X (rIx X.K):=ix_list.or (ix_tup.or W5)
theorem Inv.lst{sM:List (oO × pE)}{σ:St}{H:Hp}{s:oQ}{p:oO}{xs:List V}(I:Inv X sM σ H s)(h:H p=sI (.lst xs)) :
  ∃(its:List oP) (n:Nat),Vals xs its/\s.heap.get? p=sI { cls:=.type "list",data:=.seq its.toArray n }/\xs.length<=oM:=by
 obtain⟨z,its,n,r,e⟩:=I.hok p _ h
 exact⟨its,n,r,e,z⟩
theorem Zt(lo hi:Option Int)(n:Nat):(sliceBounds lo hi sJ n).1=((HT.sIx n 0 lo:Nat):Int)/\(sliceBounds lo hi sJ n).2.1=((HT.sIx n n hi:Nat):Int)/\(sliceBounds lo hi sJ n).2.2=1:=by
 refine⟨?_,?_,rfl⟩
 ·cases lo with
  | none=>simp [sliceBounds,HT.sIx]
  | some i =>
   simp only[sliceBounds,HT.sIx,fL,show (1:Int) > 0 by decide,if_true]
   by_cases h:i<0
   ·simp only[h,if_true] <;> lia
   ·simp only[h,if_false] <;> lia
 ·cases hi with
  | none=>simp [sliceBounds,HT.sIx]
  | some i =>
   simp only[sliceBounds,HT.sIx,fL,show (1:Int) > 0 by decide,if_true]
   by_cases h:i<0
   ·simp only[h,if_true] <;> lia
   ·simp only[h,if_false] <;> lia
theorem jW(its:List oP)(lo hi:Option Int):slicePick its.toArray lo hi sJ=((its.drop (HT.sIx its.length 0 lo)).take (HT.sIx its.length its.length hi - HT.sIx its.length 0 lo)).toArray:=by
 obtain⟨h1,h2,h3⟩:=Zt lo hi its.toArray.size
 unfold slicePick
 rw[h1,h2,h3]
 simp only[sliceRange_one,pick_run,al] <;> rfl
def zcn(K:oN):V->Option Int->Option Int->Hp->VK->Prop:=λx lo hi H Q=>∃a xs,x=.ref a/\SqL K H a xs/\∀p,H p=sJ->Q (.ref p) (upd H p (.lst (QR xs lo hi)))
theorem sl_list:SlR X (zcn X.K):=by
 intro sM s σ H x v vl vu lo hi sl Q I rx hs pl pu h
 obtain⟨a,xs,rfl,hx,q⟩:=h
 cases rx
 obtain⟨its,r,ht,hz⟩:=I.list hx
 have hlen:=r.length
 refine⟨"list",_,slot_list_getitem.lookup,ht.isList.typeIs,?_⟩
 refine wpAny_getItem_list_slice ht.isList hs pl pu .none (by simp) ?_ (by rw[al] <;> lia)
 rw[jW,<- hlen]
 refine⟨.ref s.heap.objs.size,_,I.laid (t':=s.toks) (o:=.lst (QR xs lo hi)) (λb ob q=>aa _ q) (am _) ?_,rfl,q _ (I.hok.fresh (am _))⟩
 exact⟨aJ (ZN xs lo hi) hz,_,0,(r.drop (HT.sIx xs.length 0 lo)).take (HT.sIx xs.length xs.length hi - HT.sIx xs.length 0 lo),aD _ rfl⟩
noncomputable def zaQ:V->Bool
 | .non=>sK
 | .bl _=>sK
 | .int _=>sK
 | .str _=>sK
 | _=>sL
noncomputable def eqV:V->V->Bool
 | .non,.non=>sK
 | .bl a,.bl b=>a == b
 | .bl a,.int b=>(if a then 1 else 0) == b
 | .int a,.bl b=>a == (if b then 1 else 0)
 | .int a,.int b=>a == b
 | .str a,.str b=>a == b
 | _,_=>sL
theorem YO{A:oX}{s:oQ}{y x:V}{u v:oP}(ry:RelV y u)(rx:RelV x v)(fy:zaQ y=sK)(fx:zaQ x=sK):SeqAt.EqAt A s u v (eqV y x):=by
 cases y with
 | non =>
  cases ry
  cases x with
  | non=>cases rx;exact SeqAt.EqAt.same _
  | bl b=>cases rx;exact SeqAt.EqAt.none_bool b
  | int b=>obtain⟨t,rfl⟩:=rx;exact SeqAt.EqAt.none_int b t
  | str b=>obtain⟨t,rfl⟩:=rx;exact SeqAt.EqAt.none_str b t
  | _=>exact absurd (show sL=sK from fx) aC
 | bl a =>
  cases ry
  cases x with
  | non=>cases rx;exact SeqAt.EqAt.bool_none a
  | bl b=>cases rx;exact SeqAt.EqAt.bool_bool a b
  | int b=>obtain⟨t,rfl⟩:=rx;exact SeqAt.EqAt.bool_int a b t
  | str b=>obtain⟨t,rfl⟩:=rx;exact SeqAt.EqAt.bool_str a b t
  | _=>exact absurd (show sL=sK from fx) aC
 | int a =>
  obtain⟨t',rfl⟩:=ry
  cases x with
  | non=>cases rx;exact SeqAt.EqAt.int_none a t'
  | bl b=>cases rx;exact SeqAt.EqAt.int_bool a t' b
  | int b=>obtain⟨t,rfl⟩:=rx;exact SeqAt.EqAt.int_int a t' b t
  | str b=>obtain⟨t,rfl⟩:=rx;exact SeqAt.EqAt.int_str a t' b t
  | _=>exact absurd (show sL=sK from fx) aC
 | str a =>
  obtain⟨t',rfl⟩:=ry
  cases x with
  | non=>cases rx;exact SeqAt.EqAt.str_none a t'
  | bl b=>cases rx;exact SeqAt.EqAt.str_bool a t' b
  | int b=>obtain⟨t,rfl⟩:=rx;exact SeqAt.EqAt.str_int a t' b t
  | str b=>obtain⟨t,rfl⟩:=rx;exact SeqAt.EqAt.str_str a t' b t
  | _=>exact absurd (show sL=sK from fx) aC
 | _=>exact absurd (show sL=sK from fy) aC
theorem yP:wL X (.type "list") (λxs H Q=>∃p ys,xs=[.ref p]/\(SqL X.K H p ys\/SqT X.K H p ys)/\∀l,H l=sJ->Q (.ref l) (upd H l (.lst ys))):=by
 intro sM s σ H xs us Q I r h
 obtain⟨p,ys,rfl,hq,q⟩:=h
 obtain⟨u,rfl,rx⟩:=wI r
 cases rx
 have fin:∀(its:List oP),Vals ys its->ys.length<=oM->∀(h':oZ) (c':Nat),(∀b o',s.heap.get? b=sI o'->h'.get? b=sI o') ->
   h'.get? s.heap.objs.size=sI { cls:=.type "list",dict:=sJ,data:=.seq its.toArray c',slots:=#[] }->EP X sM σ Q (.ref s.heap.objs.size) { s with heap:=h' }:=λits r' hz h' c' kp e =>
  ⟨.ref s.heap.objs.size,_,I.laid (t':=s.toks) kp (am _) (show ObjOk X.prog X.w _ h' _ (.lst ys) from ⟨hz,its,c',r',e⟩),rfl,q _ (I.hok.fresh (am _))⟩
 rcases hq with hq | hq
 ·obtain⟨its,r',pl,hz⟩:=I.list hq
  have hlen:=r'.length
  obtain⟨o,ho,hc,n,hd⟩:=pl.isList
  exact call_list_seq p (.inl rfl) ho hc hd (λh' c' kp e=>fin its r' hz h' c' kp e) (by simp only[al] <;> lia)
 ·obtain⟨its,r',pl,hz⟩:=I.tuple hq
  have hlen:=r'.length
  obtain⟨o,ho,hc,n,hd⟩:=pl
  exact call_list_seq p (.inr rfl) ho hc hd (λh' c' kp e=>fin its r' hz h' c' kp e) (by simp only[al] <;> lia)
theorem jS:wL X (.type "tuple") (λxs H Q=>∃p ys,xs=[.ref p]/\((SqL X.K H p ys/\∀l,H l=sJ->Q (.ref l) (upd H l (.tup ys)))\/(SqT X.K H p ys/\Q (.ref p) H))):=by
 intro sM s σ H xs us Q I r h
 obtain⟨p,ys,rfl,h⟩:=h
 obtain⟨u,rfl,rx⟩:=wI r
 cases rx
 rcases h with ⟨hq,q⟩ | ⟨hq,q⟩
 ·obtain⟨its,r',pl,hz⟩:=I.list hq
  have hlen:=r'.length
  refine call_tuple_list pl.isList (λh' kp=>?_) (by simp only[al] <;> lia)
  have I1:Inv X sM σ H { s with heap:=h' }:=I.kept (t':=s.toks) kp
  have I2:Inv X sM σ (upd H h'.objs.size (.tup ys)) { s with heap:=h'.push { cls:=.type "tuple",data:=.seq its.toArray } } :=
   I1.laid (t':=s.toks) (λb o e=>aa _ e) (am _) (show ObjOk X.prog X.w _ _ _ (.tup ys) from ⟨hz,its,r',IsTup.new _ _⟩)
  exact⟨.ref h'.objs.size,_,I2,rfl,q _ (I1.hok.fresh (am _))⟩
 ·obtain⟨its,r',pl,hz⟩:=I.tuple hq
  exact call_tuple_same pl ⟨.ref p,H,I,rfl,q⟩
def tyV(K:oN)(T:String)(x:V)(H:Hp):Prop:=match x with
 | .str _=>T="str"
 | .int _=>T="int"
 | .ref p=>(T="list"/\∃xs,SqL K H p xs)\/(T="tuple"/\∃o,K.lookup p=sI o/\o.cls=.type "tuple"/\o.dict=sJ) \/
   (T="dict"/\((∃kvs,H p=sI (.dK kvs))\/∃kvs,H p=sI (.dT kvs)))\/(T="set"/\∃S n,H p=sI (.set S n))
 | _=>False
theorem zbk{sM:List (oO × pE)}{σ:St}{H:Hp}{s:oQ}{T:String}{x:V}{v:oP}(I:Inv X sM σ H s)(r:RelV x v)(ty:tyV X.K T x H) :
  s.TypeIs v T/\∀a,v=.ref a->∃ob,s.heap.get? a=sI ob/\ob.dict=sJ:=by
 cases x with
 | str z =>
  obtain⟨t,rfl⟩:=r
  cases (show T="str" from ty)
  exact⟨typeIs_str s z t,λ_ e=>nomatch e⟩
 | int i =>
  obtain⟨t,rfl⟩:=r
  cases (show T="int" from ty)
  exact⟨typeIs_int s i t,λ_ e=>nomatch e⟩
 | ref p =>
  cases r
  rcases ty with ⟨rfl,xs,hq⟩ | ⟨rfl,o,hk,hc,hd⟩ | ⟨rfl,hk⟩ | ⟨rfl,S,n,hk⟩
  ·obtain⟨its,_,pl,_⟩:=I.list hq
   refine⟨pl.isList.typeIs,λa e=>?_⟩
   cases e
   obtain⟨o,n,e,c,hd,_⟩:=pl
   exact⟨o,e,hd⟩
  ·refine⟨⟨o,I.kIn p o hk,hc⟩,λa e=>?_⟩
   cases e
   exact⟨o,I.kIn _ o hk,hd⟩
  ·have z:∃o,s.heap.get? p=sI o/\o.ExactDict:=by
    rcases hk with ⟨kvs,hk⟩ | ⟨kvs,hk⟩
    ·obtain⟨_,_,_,_,o,_,_,e,ex,_⟩:=I.hok p _ hk
     exact⟨o,e,ex⟩
    ·obtain⟨_,_,_,_,o,_,_,e,ex,_⟩:=I.hok p _ hk
     exact⟨o,e,ex⟩
   obtain⟨o,e,ex⟩:=z
   refine⟨⟨o,e,ex.1⟩,λa e2=>?_⟩
   cases e2
   exact⟨o,e,ex.2.1⟩
  ·obtain⟨o,_,_,_,e,ex,_⟩:=I.hok p _ hk
   refine⟨⟨o,e,ex.1⟩,λa e2=>?_⟩
   cases e2
   exact⟨o,e,ex.2.1⟩
 | _=>exact False.elim ty
def zdk(K:oN)(T:String)(r:V->List V->Hp->VK->Prop)(to:TE):TE:=λσ H Q=>to σ H λx H1=>tyV K T x H1/\r x [] H1 Q
def tBM(K:oN)(T:String)(r:V->List V->Hp->VK->Prop)(to:TE)(t:TA):TE:=λσ H Q=>to σ H λx H1=>tyV K T x H1/\t σ H1 λxs H2=>r x xs H2 Q
variable{o e:oY}{es:List oY}{to:TE}{t:TA}{name:oV}{apos cpos:pW}{T id:String}{r:V->List V->Hp->VK->Prop}
theorem uH(pa:PlainAttrs T)(slot:Slot T name id)(hty:typeOf (.builtin id)=pure (.type "method_descriptor"))(hm:MtR X id r)(ho:PE X o to)(ha:PA X (e::es) t)
  (hbase:attributeBase o name X.env (eval o X.env)=eval o X.env:=by rfl)
  (hfew:((pq cpos (oK (e::es) X.env)).all (λx=>!x.1) && (pG cpos (ph [] X.env)).all (λx=>x.1.isSome)
   && decide ((e::es).length+([]:List sC).length+(if ([]:List sC).isEmpty then 0 else 1)<30))=sK:=by rfl)
  (hline:(apos.endLine == cpos.line)=sK:=by rfl) (hs:oK (e::es) X.env=(sL,eval e X.env)::oK es X.env:=by rfl) (hplain:(pq cpos (oK es X.env)).any (·.1)=sL:=by rfl) :
  PE X (.Call (.Attribute o name apos) (e::es) [] cpos) (tBM X.K T r to t):=by
 intro sM s σ H Q I h
 refine wpAny_Call_method_late hbase hfew hline rfl (thn (ho sM s σ H _ I h) λv s1 ⟨x,H1,I1,r1,ty,q1⟩=>?_)
 obtain⟨h1,h2⟩:=zbk I1 r1 ty
 refine⟨T,id,pa,slot,hty,h1,h2,?_⟩
 have hA:=ha cpos sM s1 σ H1 _ I1 q1
 rw[hs] at hA ⊢
 refine Calls.callWith_builtin (by show (sL || (pq cpos (oK es X.env)).any (·.1))=sL;rw[hplain] <;> rfl) (Calls.evalArgs_plain ?_)
 exact thn hA λus s2 ⟨vs,H2,I2,r2,q2⟩=>hm sM s2 σ H2 x vs v us Q I2 r1 r2 q2
/- xs.append(e),list.index on a module's tuple .. are MtR facts of 06m -/
end
end L2
namespace L2
def MtM(X:Cx)(id:String)(r:V->List V->Hp->VK->Prop):Prop :=
 ∀(sM:List (oO × pE)) (s:oQ) (σ:St) (H:Hp) (x:V) (xs:List V) (v:oP) (us:List oP) (Q:VK),Inv X sM σ H s->RelV x v->Vals xs us->r x xs H Q ->
  oR (model X.prog X.w) X.A (call (.builtin id) (v::us)) (EP X sM σ Q) X.xe s
theorem Vals.one:∀{x:V} {us:List oP},Vals [x] us->∃u,us=[u]/\RelV x u
 | _,_,.cons r .nil=>⟨_,rfl,r⟩
theorem Vals.two:∀{x y:V} {us:List oP},Vals [x,y] us->∃u v,us=[u,v]/\RelV x u/\RelV y v
 | _,_,_,.cons r (.cons q .nil)=>⟨_,_,rfl,r,q⟩
theorem Vals.zero:∀{us:List oP},Vals [] us->us=[]
 | _,.nil=>rfl
theorem Vals.reverse{xs:List V}{us:List oP}(h:Vals xs us):Vals xs.reverse us.reverse:=by
 induction h with
 | nil=>exact .nil
 | cons r t ih=>rw[List.reverse_cons,List.reverse_cons];exact Vals.append ih (.cons r .nil)
section
variable{X:Cx}{sM:List (oO × pE)}{σ:St}{H:Hp}{s:oQ}{l b:oO}{xs ys zs:List V}
theorem Inv.lset{its its':List oP}{n:Nat}{f:Array oP->Array oP}{t':Nat}(I:Inv X sM σ H s)(hH:H l=sI (.lst xs))
  (e:s.heap.get? l=sI { cls:=.type "list",data:=.seq its.toArray n }) (hf:f its.toArray=its'.toArray) (hv:Vals ys its') (hz:ys.length<=oM) :
  Inv X sM σ (upd H l (.lst ys)) { s with heap:=s.heap.update l (Obj.mapSeq f),toks:=t' }:=by
 have q:=PySem.IsL.update e f
 rw[hf] at q
 refine I.write (x:=l) (e:=l) (by rw[hH];exact trivial) (.inl rfl) (λb' u hb hu=>(aE s.heap (Obj.mapSeq f) (Ne.symm hb)).trans hu) ⟨_,q⟩ ?_
 exact⟨hz,its',_,hv,q⟩
theorem Inv.lnew{its:List oP}{t':Nat}(I:Inv X sM σ H s)(hv:Vals ys its)(hz:ys.length<=oM) :
  Inv X sM σ (upd H s.heap.objs.size (.lst ys)) { s with heap:=s.heap.push { cls:=.type "list",data:=.seq its.toArray },toks:=t' } :=
 I.laid (λ_ _ q=>aa _ q) (am _) ⟨hz,its,0,hv,aD _ rfl⟩
theorem Inv.fresh(I:Inv X sM σ H s):H s.heap.objs.size=sJ:=I.hok.fresh (am _)
theorem Inv.lstM(I:Inv X sM σ H s)(hH:H l=sI (.lst xs)):xs.length<=oM/\∃(its:List oP) (n:Nat),Vals xs its/\xs.length=its.length/\s.heap.get? l=sI { cls:=.type "list",data:=.seq its.toArray n }:=by
 obtain⟨z,its,n,r,e⟩:=I.hok l _ hH
 exact⟨z,its,n,r,r.length,e⟩
theorem UZ{n:Nat}(h:n<=oM):Builtin.List.listTooLong n=sL:=by
 unfold Builtin.List.listTooLong
 exact decide_eq_false (by lia)
end
section
variable{X:Cx}
def Vt:V->List V->Hp->VK->Prop:=λx vs H Q=>∃l xs y,x=.ref l/\vs=[y]/\H l=sI (.lst xs)/\xs.length<oM/\Q .non (upd H l (.lst (xs ++ [y])))
theorem wH:MtM X "list.append" Vt:=by
 intro sM s σ H x vs v us Q I rx rv h
 obtain⟨l,xs,y,rfl,rfl,hH,hz,q⟩:=h
 cases rx
 obtain⟨u,rfl,ru⟩:=rv.one
 obtain⟨z,its,n,r,hl,e⟩:=I.lstM hH
 refine call_meets F.slot_list_append ⟨_,e,rfl⟩ F.entry_list_append (F.args_list_append_2 _ _) (PySem.list_append l its.toArray n u (by rw[al];lia)) ⟨e,?_⟩
 refine⟨.non,_,I.lset (its':=its ++ [u]) hH e (by simp) (r.append (.cons ru .nil)) ?_,rfl,q⟩
 rw[ak,bR]
 lia
def VE:V->List V->Hp->VK->Prop:=λx vs H Q=>∃l b xs zs,x=.ref l/\vs=[.ref b]/\H l=sI (.lst xs)/\H b=sI (.lst zs)/\xs.length+zs.length<=oM/\Q .non (upd H l (.lst (xs ++ zs)))
theorem Vp:MtM X "list.extend" VE:=by
 intro sM s σ H x vs v us Q I rx rv h
 obtain⟨l,b,xs,zs,rfl,rfl,hH,hB,hz,q⟩:=h
 cases rx
 obtain⟨u,rfl,ru⟩:=rv.one
 cases ru
 obtain⟨z,its,n,r,hl,e⟩:=I.lstM hH
 obtain⟨z2,its2,n2,r2,hl2,e2⟩:=I.lstM hB
 have hsz:its.toArray.size+its2.toArray.size<=oM:=by rw[al,al];lia
 have hlong:¬ (!its.toArray.isEmpty && Builtin.List.listTooLong (its.toArray.size+its2.toArray.size))=sK:=by
  rw[UZ hsz,dZ]
  exact aC
 refine call_meets F.slot_list_extend ⟨_,e,rfl⟩ F.entry_list_extend (F.args_list_extend_2 _ _)
  (AutoSeq1.list_extend_list_list_0 l its.toArray n b its2.toArray n2 hlong (by rw[al];lia) (by lia)) ⟨e,e2,?_⟩
 refine⟨.non,_,I.lset (its':=its ++ its2) hH e (by simp) (r.append r2) ?_,rfl,q⟩
 rw[ak]
 lia
def zcw:R2:=λx y H Q=>∃l b xs zs,x=.ref l/\y=.ref b/\H l=sI (.lst xs)/\H b=sI (.lst zs)/\xs.length+zs.length<=oM/\∀p,H p=sJ->Q (.ref p) (upd H p (.lst (xs ++ zs)))
theorem Zv:OpR X (binaryOp .Add) zcw:=by
 intro sM s σ H x y v u Q I rx ry h
 obtain⟨l,b,xs,zs,rfl,rfl,hH,hB,hz,q⟩:=h
 cases rx
 cases ry
 obtain⟨z,its,n,r,hl,e⟩:=I.lstM hH
 obtain⟨z2,its2,n2,r2,hl2,e2⟩:=I.lstM hB
 refine PySem.P.add_list e e2 ?_ (by rw[al,al];lia)
 have ea:its.toArray ++ its2.toArray=(its ++ its2).toArray:=by simp
 rw[ea]
 exact⟨.ref _,_,I.lnew (t':=s.toks) (r.append r2) (by rw[ak];lia),rfl,q _ I.fresh⟩
theorem len_rep{α:Type}(xs:List α)(k:Nat):(aU k xs).flatten.length=k * xs.length:=by
 induction k with
 | zero=>simp
 | succ k ih=>rw[db,dw,ak,ih,eD,Nat.add_comm]
end
section
variable{prog:oU}{w:oW}{A:oX}{E:oP->oQ->Prop}{s:oQ}
end
section
variable{X:Cx}
end
end L2
namespace Att
open PySem PySem.W PySem.Calls PyProof.Rows
theorem qh{P:Params}{h:oZ}:∀(ns:List Int) (vs:List oP),WellAll P h vs (ns.map WData.int)->su vs ns:=by
 intro ns
 induction ns with
 | nil =>
  intro vs w
  rw[aP] at w
  cases w
  exact .nil
 | cons n ns ih =>
  intro vs w
  rw[au] at w
  cases w with
  | cons a b =>
   cases a
   exact .cons _ _ (ih _ b)
theorem script_of{l:OpenLaw}{n:Nat}(hn:l.most=sI n){P:Params}{h:oZ}{args:List WData}{vals:List oP}
  (hpre:l.row.toRowW.claim.pre args=sK) (hwl:WellAll P h vals args) :
  ∃a vs ns,vals=[Value.ref a]/\args=[WData.list (ns.map WData.int)]/\h.get? a=sI { cls:=.type "list",data:=.seq vs.toArray }/\su vs ns/\ns.length<=n:=by
 have hsh:WShape.hasAll [] args [.list .int]=sK:=(pre_splitW hpre).1
 have hc:l.pre.holds [] { args:=args }=sK:=(pre_splitW hpre).2
 obtain⟨d,r,rfl,h1,h2⟩:=hasAllW_cons hsh
 obtain rfl:=hasAllW_nil h2
 obtain⟨xs,rfl,h3⟩:=hasW_list h1
 obtain⟨ns,rfl⟩:=items_int h3
 have hlen:ns.length<=n:=by
  unfold OpenLaw.pre at hc
  have h4:(WTm.not (.lt (.lit (.int (n:Int))) (.len (.arg 0)))).holds [] { args:=[.list (ns.map .int)] }=sK:=by
   have h4:=(holds_andW hc).1
   rw[hn] at h4
   exact h4
  have h5:=condW_of h4 (w_not (w_lt w_lit (w_len_list (w_arg rfl))))
  rw[ae] at h5
  refine cY λq=>?_
  have q':(n:Int)<((ns.length:Nat):Int):=by lia
  first
   | (rw[decide_eq_true q'] at h5;exact absurd h5 (by decide))
   | (simp at h5;lia)
 cases hwl with
 | cons w1 w2 =>
  cases w2
  cases w1 with
  | list ho hall=>exact⟨_,_,ns,rfl,rfl,ho,qh ns _ hall,hlen⟩
theorem post_true(l:OpenLaw)(args:List WData):l.row.toRowW.claim.post args (.bool sK) args=sK :=
 postW_of (r:=l.row.toRowW) (X:=(sK == sK))
  (show WShape.has [] (.bool sK) .bool=sK by first | rfl | decide | simp [WShape.has,WShape.arms,WShape.armsAll])
  (show (WTm.eq .res (.lit (.bool sK))).value [] { args:=args,res:=sI (.bool sK),after:=args }=sI (.bool (sK == sK)) from w_eq_bool (w_res rfl) w_lit) rfl
section
variable{prog:oU}{w:oW}{A:oX}{E:oP->oQ->Prop}{s:oQ}{K:Frag}
noncomputable def zc5(h:oZ)(L d:oO):List (oO × pE):=(aW h.objs.size).filterMap λa=>if a=L\/a=d then sJ else (h.get? a).map λo=>(a,o)
end
end Att
namespace L2
theorem Zr:∀{vs:List oP} {ns:List Int},su vs ns->Vals (ns.map V.int) vs
 | _,_,.nil=>.nil
 | _,_,.cons n t h=>.cons ⟨t,rfl⟩ (Zr h)
end L2
namespace L2
end L2
namespace L2
noncomputable def yV(s:pb)(j:Nat):pb:=match s with
 | .ClassDef _ _ _ body _ _ _ _ _ _ _=>body.getD j (.Pass ⟨0,0,0,0⟩)
 | _=>.Pass ⟨0,0,0,0⟩
noncomputable def yB(s:pb):rB:=match s with
 | .FunctionDef _ a _ _ _ _ _ _ _ _=>a
 | _=>{ posonlyargs:=[],args:=[],vararg:=sJ,kwonlyargs:=[],kw_defaults:=[],kwarg:=sJ,defaults:=[] }
noncomputable def z9(s:pb):List pb:=match s with
 | .FunctionDef _ _ b _ _ _ _ _ _ _=>b
 | _=>[]
noncomputable def zh(s:pb):pQ:=match s with
 | .FunctionDef _ _ _ _ _ _ sc _ _ _=>sc
 | _=>{ kind:=.function,names:=[],isGenerator:=sL,isCoroutine:=sL }
abbrev CX0:CXT:=λ_ _ _ _ _ _=>False
noncomputable abbrev E0:XK:=λ_ _ _=>False
theorem Yl{X:Cx}:uz CX0 X E0:=λ_ _ _ _ _ _ _ h=>h.elim
structure Fun(K:oN)(x qual:oV)(st:pb)(f:oO)(fd:oS):Prop where
 ex:∃(oc:oP) (od:Option oO) (kV doc pm:oP) (an:Option oO) (cdv ct:oP) (osl:Array (Option oP)),
  fd=bp x qual (yB st) (z9 st) (zh st) .none kV doc pm an cdv ct/\K.lookup f=sI ⟨oc,od,.func fd,osl⟩/\bV K cdv qual=sK
 kp:aO K (.ref f)=sK
section
variable{P:oU}{w:oW}{K:oN}{mg:oV->Option oP}{base:oZ}
theorem Fun.ok{x qual:oV}{st:pb}{f:oO}{fd:oS}{N ps:List oV}{k:Nat}{sp:Sp}(F:Fun K x qual st f fd)(S:zp N ps (zh st))(len:∀vs H Q E,sp vs H Q E->vs.length=ps.length)
  (hbody:∀(cdv:oP) (A:oX) (outer:List rP) (s:oQ) (H:Hp) (vs:List V) (Q:VK) (E:XK),Room k (A.deeper (rz qual (zh st) s.heap.objs.size f cdv))->sp vs H Q E ->
   ∃t,PSs (uL CX0 P w K mg base N qual (zh st) f cdv A outer s H E).nox (z9 st) t/\t { nx:=λ_ H'=>Q .non H',rt:=Q } (start N vs) H):z8 P w K mg base CX0 (k+1) f fd ps sp:=by
 obtain⟨oc,od,kV,doc,pm,an,cdv,ct,osl,rfl,lk,hcd⟩:=F.ex
 refine QJ lk hcd S len λA outer s H vs Q E hr hsp=>?_
 obtain⟨t,h,q⟩:=hbody cdv A outer s H vs Q E hr hsp
 exact⟨t,h.nox,q⟩
theorem Fun.binds{x qual:oV}{st:pb}{f:oO}{fd:oS}{ps:List oV}(F:Fun K x qual st f fd)
  (h:∀(kV doc pm:oP) (an:Option oO) (cdv ct:oP) (us:List oP),us.length=ps.length->bindArgs (bp x qual (yB st) (z9 st) (zh st) .none kV doc pm an cdv ct) ⟨us,[]⟩=pure (ps.zip us)):Binds K fd ps []:=by
 obtain⟨oc,od,kV,doc,pm,an,cdv,ct,osl,rfl,lk,hcd⟩:=F.ex
 exact .all (h kV doc pm an cdv ct)
theorem fun_mk{x qual:oV}{st:pb}{f:oO}{oc:oP}{od an:Option oO}{osl:Array (Option oP)}{kV doc pm cdv ct:oP}(l:K.lookup f=sI ⟨oc,od,.func (bp x qual (yB st) (z9 st) (zh st) .none kV doc pm an cdv ct),osl⟩)
  (c:bV K cdv qual=sK) (k:aO K (.ref f)=sK):Fun K x qual st f (bp x qual (yB st) (z9 st) (zh st) .none kV doc pm an cdv ct):=⟨⟨oc,od,kV,doc,pm,an,cdv,ct,osl,rfl,l,c⟩,k⟩
end
section
variable{X:Cx}
theorem pv(i:Nat){x:oV}{pos:pW}(hN:X.N[i]? = sI x:=by rfl)(hv:Vis X.env.scope x:=by first | exact Or.inl rfl | exact Or.inr (.inl rfl) | exact Or.inr (Or.inr rfl))(hd:(x == ("__debug__" : oV))=sL:=by decide)
  (hcd:(x == ("__classdict__" : oV))=sL:=by decide):PE X (.Name x pos) (yo i):=zae hN hv hd hcd
end
theorem zcO{A B:Prop}(h:A):if sK=sK then A else B:=by
 rw[if_pos rfl]
 exact h
theorem yT{c A B:Prop}[Decidable c](h1:c->A)(h2:¬ c->B):if c then A else B:=by
 by_cases h:c
 ·rw[if_pos h]
  exact h1 h
 ·rw[if_neg h]
  exact h2 h
def Same(H H':Hp):Prop:=∀b o,H b=sI o->H' b=sI o
theorem Same.refl(H:Hp):Same H H:=λ_ _ h=>h
theorem Same.trans{H H1 H2:Hp}(a:Same H H1)(b:Same H1 H2):Same H H2:=λc o h=>b c o (a c o h)
theorem Same.free{H H':Hp}(e:Same H H'){l:oO}(h:H' l=Option.none):H l=Option.none:=by
 cases q:H l with
 | none=>rfl
 | some o =>
  rw[e l o q] at h
  cases h
theorem Same.seq{K:oN}{H H':Hp}{a:oO}{xs:List V}(e:Same H H')(h:SqL K H a xs):SqL K H' a xs:=by
 rcases h with (h | ⟨o,h⟩) | h
 ·exact .inl (.inl (e _ _ h))
 ·exact .inl (.inr ⟨o,e _ _ h⟩)
 ·exact .inr h
end L2
open L2
namespace L3
noncomputable abbrev St:=L2.St
noncomputable abbrev cs(x:oV):List Nat:=x.cps.toList
noncomputable abbrev tx(l:List Nat):oV:=⟨l.toArray⟩
theorem zaE(x:oV):tx (cs x)=x:=by cases x;rfl
theorem jg(l:List Nat):cs (tx l)=l:=rfl
theorem Xh(x:oV):x.length=(cs x).length:=by simp [Str.length,cs]
theorem zD(l:List Nat):(tx l).length=l.length:=by simp [Str.length,tx]
theorem Zq{x y:oV}(h:cs x=cs y):x=y:=by rw[<- zaE x,<- zaE y,h]
theorem jp{l m:List Nat}(h:tx l=tx m):l=m:=by rw[<- jg l,<- jg m,h]
theorem zbY{l m:List Nat}:tx l=tx m ↔ l=m:=⟨jp,λh=>by rw[h]⟩
theorem yC(l m:List Nat):tx l ++ tx m=tx (l ++ m):=by
 apply Zq
 show (tx l ++ tx m).cps.toList=l ++ m
 rw[Str.cps_append]
 simp
noncomputable def cut{α:Type}(l:List α)(lo hi:Option Int):List α:=(l.drop (HT.sIx l.length 0 lo)).take (HT.sIx l.length l.length hi - HT.sIx l.length 0 lo)
theorem vP{α:Type}(l:List α)(lo hi:Option Int):(cut l lo hi).length<=l.length:=by
 unfold cut
 rw[az,aR]
 lia
theorem Vz(a b:Nat):sliceRange (a:Int) (b:Int) 1=(aW (b - a)).map (λk=>a+k):=by
 unfold sliceRange
 have e:(if (1:Int) > 0 then (if (a:Int)<b then ((b:Int) - a+1 - 1) / 1 else 0) else (if (a:Int) > b then ((a:Int) - b - 1 - 1) / (-1) else 0)).toNat=b - a:=by
  rw[if_pos (by decide)]
  by_cases h:(a:Int)<b
  ·rw[if_pos h,Int.ediv_one];lia
  ·rw[if_neg h];lia
 show (aW ((if (1:Int) > 0 then (if (a:Int)<b then ((b:Int) - a+1 - 1) / 1 else 0) else (if (a:Int) > b then ((a:Int) - b - 1 - 1) / (-1) else 0)).toNat)).map _=_
 rw[e]
 refine cF λk _=>?_
 lia
theorem JM(lo hi:Option Int)(n:Nat):Builtin.Str.strSliceIndices lo hi 1 n=(aW (HT.sIx n n hi - HT.sIx n 0 lo)).map (λk=>HT.sIx n 0 lo+k):=by
 rw[<- Vz]
 have clip:∀(v:Int) (d:Nat),max 0 (min (if v<0 then v+(n:Int) else v) (n:Int))=((HT.sIx n d (sI v):Nat):Int):=λv d=>by
  show _=(((if v<0 then (v+(n:Int)).toNat else min v.toNat n):Nat):Int)
  by_cases hv:v<0
  ·simp only[if_pos hv];lia
  ·simp only[if_neg hv];lia
 have h1:((1:Int) > 0)=True:=by simp
 unfold Builtin.Str.strSliceIndices
 cases lo with
 | none =>
  cases hi with
  | none=>simp only[h1,if_true];rfl
  | some j=>simp only[h1,if_true,clip j n];rfl
 | some i =>
  cases hi with
  | none=>simp only[h1,if_true,clip i 0];rfl
  | some j=>simp only[h1,if_true,clip i 0,clip j n]
theorem WR(x:oV)(lo hi:Option Int):Txt.slice x lo hi=tx (cut (cs x) lo hi):=by
 have hn:x.length=x.cps.toList.length:=Xh x
 have hj:HT.sIx x.length x.length hi<=x.length:=HT.sIx_le _ _ (am _) hi
 have hi0:HT.sIx x.length 0 lo<=x.length:=HT.sIx_le _ _ (aI _) lo
 unfold Txt.slice
 rw[JM]
 split
 ·rename_i h
  have h':HT.sIx x.length x.length hi - HT.sIx x.length 0 lo=x.length:=by simpa using h
  apply Zq
  show x.cps.toList=cut x.cps.toList lo hi
  unfold cut
  rw[<- hn]
  by_cases z:x.length=0
  ·have:x.cps.toList=[]:=dQ (by lia)
   rw[this];simp
  ·have e0:HT.sIx x.length 0 lo=0:=by lia
   rw[e0] at h' ⊢
   rw[h',d4,hn,aK]
 ·apply Zq
  have h:=StrLaws.picks x.cps.toList (HT.sIx x.length x.length hi - HT.sIx x.length 0 lo) (HT.sIx x.length 0 lo) (by lia)
  show (List.filterMap (λk=>x.cps[k]?) _).toArray.toList=cut x.cps.toList lo hi
  unfold cut
  rw[<- hn]
  simpa using h
section
variable{X:Cx}
theorem V0{v:oP}{o:Option Int}(p:IsPart v o):∃l:Option (Int × rF),v=partValue l/\l.map (·.1)=o:=by
 cases p with
 | none=>exact⟨sJ,rfl,rfl⟩
 | int i t=>exact⟨sI (i,t),rfl,rfl⟩
def zb6:V->Option Int->Option Int->Hp->VK->Prop:=λx lo hi H Q=>∃z,x=.str z/\z.length<=oM/\Q (.str (tx (cut (cs z) lo hi))) H
theorem yZ:SlR X zb6:=by
 intro sM s σ H x v vl vu lo hi sl Q I rx hs pl pu h
 obtain⟨z,rfl,hz,q⟩:=h
 obtain⟨t,rfl⟩:=rx
 obtain⟨l,rfl,el⟩:=V0 pl
 obtain⟨u,rfl,eu⟩:=V0 pu
 refine⟨"str",_,slot_str_getitem.lookup,typeIs_str s z t,?_⟩
 refine rG (l:=l) (u:=u) (st:=sJ) hs rfl ?_
 have e:Txt.slice z lo hi=tx (cut (cs z) lo hi):=WR z lo hi
 have hl:(tx (cut (cs z) lo hi)).length<=oM:=by rw[zD];have:=vP (cs z) lo hi;rw[<- Xh] at this;lia
 unfold sliceMade slicePicked
 rw[el,eu]
 unfold Txt.slice at e
 by_cases hc:((1:Int) == 1 && (Builtin.Str.strSliceIndices lo hi 1 z.length).length == z.length)=sK
 ·rw[if_pos hc] at e
  have hc':(((sJ:Option (Int × rF)).map (·.1)).getD 1 == 1 && (Builtin.Str.strSliceIndices lo hi (((sJ:Option (Int × rF)).map (·.1)).getD 1) z.length).length == z.length)=sK:=hc
  rw[if_pos hc']
  exact⟨.str (tx (cut (cs z) lo hi)),H,I,⟨t,by rw[<- e]⟩,q⟩
 ·rw[if_neg hc] at e
  have hc':¬ (((sJ:Option (Int × rF)).map (·.1)).getD 1 == 1 && (Builtin.Str.strSliceIndices lo hi (((sJ:Option (Int × rF)).map (·.1)).getD 1) z.length).length == z.length)=sK:=hc
  rw[if_neg hc']
  show (Str.mk ((Builtin.Str.strSliceIndices lo hi 1 z.length).filterMap (z.cps[·]?)).toArray).length<=oM/\_
  rw[e]
  refine⟨hl,?_⟩
  exact⟨.str (tx (cut (cs z) lo hi)),H,I.tok _,⟨_,by
   show Value.str (Str.mk ((Builtin.Str.strSliceIndices lo hi 1 z.length).filterMap (z.cps[·]?)).toArray) _=_
   rw[e]⟩,q⟩
theorem Y6(l:List Nat):∀(k:Nat) (sP:Array Nat),((aU k l.toArray).foldl (· ++ ·) sP).toList=sP.toList ++ (aU k l).flatten
 | 0,sP=>by simp
 | k+1,sP=>by
  rw[db,List.foldl_cons,Y6 l k,db,dw]
  simp
theorem Xt:OpR X (binaryOp .Mult) (λx y H Q=>∃z n,x=.str z/\y=.int n/\0<=n/\n<=1000/\z.length<=1000/\Q (.str (tx (aU n.toNat (cs z)).flatten)) H):=by
 intro sM s σ H x y v u Q I rx ry h
 obtain⟨z,n,rfl,rfl,h0,h1,hz,q⟩:=h
 obtain⟨t,rfl⟩:=rx
 obtain⟨t',rfl⟩:=ry
 have hs:oM=16777216:=pB
 have hmul:z.length * n.toNat<=1000 * 1000:=Nat.mul_le_mul hz (by lia)
 have fl:((aU n.toNat (cs z)).flatten).length=n.toNat * z.length:=by rw[L2.len_rep,<- Xh]
 refine PySem.P.mul_str ?_ (λ_ _=>?_) (λ_ _=>?_) ?_
 ·rw[decide_eq_false (by lia),decide_eq_false (by lia)];rfl
 ·have:(1000:Int)<=(2 ^ 63 - 1) / n:=by
   apply Int.le_ediv_of_mul_le (by lia)
   lia
  lia
 ·unfold Builtin.Str.tooLong
  exact decide_eq_false (by lia)
 ·by_cases c1:n<1
  ·rw[if_pos c1]
   have e:n.toNat=0:=by lia
   rw[e] at q
   exact⟨by decide,.str (tx []),H,I.tok _,⟨_,rfl⟩,q⟩
  ·rw[if_neg c1]
   by_cases c2:(n == 1 || z.length == 0)=sK
   ·rw[if_pos c2]
    have e:tx (aU n.toNat (cs z)).flatten=z:=by
     rw[Bool.or_eq_true] at c2
     rcases c2 with c | c
     ·have:n.toNat=1:=by have:=eq_of_beq c;lia
      rw[this]
      simp only[List.replicate_one,List.flatten_singleton]
     ·have c0:z.length=0:=eq_of_beq c
      have:cs z=[]:=dQ (by rw[<- Xh];exact c0)
      apply Zq
      rw[this]
      show (aU n.toNat ([]:List Nat)).flatten=[]
      simp only[List.flatten_replicate_nil]
    rw[e] at q
    exact⟨.str z,H,I,⟨_,rfl⟩,q⟩
   ·rw[if_neg c2]
    have e:(⟨(aU n.toNat z.cps).foldl (· ++ ·) #[]⟩:oV)=tx (aU n.toNat (cs z)).flatten:=by
     apply Zq
     have:=Y6 (cs z) n.toNat #[]
     have e2:(cs z).toArray=z.cps:=by cases z;rfl
     rw[e2] at this
     show (List.foldl (· ++ ·) #[] (aU n.toNat z.cps)).toList=(aU n.toNat (cs z)).flatten
     rw[this]
     rfl
    rw[e]
    refine⟨by rw[zD,fl,Nat.mul_comm];lia,.str _,H,I.tok _,⟨_,rfl⟩,q⟩
theorem W3:OpR X (pc .LtE) (λx y H Q=>∃i j,x=.str i/\y=.str j/\Q (.bl (!(decide (cs j<cs i)))) H):=by
 intro sM s σ H x y v u Q I rx ry h
 obtain⟨i,j,rfl,rfl,q⟩:=h
 obtain⟨t,rfl⟩:=rx
 obtain⟨t',rfl⟩:=ry
 exact PySem.P.le_str ⟨.bl _,H,I,rfl,q⟩
theorem zaU(x:oV)(c:Nat):(!(Builtin.Str.occurrences x (tx [c]) 0 x.length 1).isEmpty)=decide (c ∈ cs x):=StrLaws.found_one x c
theorem UV:MtR X "str.count" (λx xs H Q=>∃z y,x=.str z/\xs=[.str y]/\Q (.int (Txt.count z y)) H):=by
 intro sM s σ H x xs v us Q I rx rv h
 obtain⟨z,y,rfl,rfl,q⟩:=h
 obtain⟨t,rfl⟩:=rx
 obtain⟨u,rfl,t',rfl⟩:=wI rv
 exact PySem.SC.count ⟨.int _,H,I.tok _,⟨_,rfl⟩,q⟩
theorem VJ:MtR X "str.find" (λx xs H Q=>∃z y,x=.str z/\xs=[.str y]/\Q (.int (Txt.find z y)) H):=by
 intro sM s σ H x xs v us Q I rx rv h
 obtain⟨z,y,rfl,rfl,q⟩:=h
 obtain⟨t,rfl⟩:=rx
 obtain⟨u,rfl,t',rfl⟩:=wI rv
 exact PySem.SC.find ⟨.int _,H,I.tok _,⟨_,rfl⟩,q⟩
end
end L3
namespace L3
section
variable{X:Cx}{sM:List (oO × pE)}{σ:St}{H:Hp}{s:oQ}{fp:List oO}{h':oZ}{t':Nat}
theorem Inv.turns(I:Inv X sM σ H s)(k:∀b o,b ∉ fp->s.heap.get? b=sI o->h'.get? b=sI o)(hf:∀b ∈ fp,xp X sM H b):Inv X sM σ H { s with heap:=h',toks:=t' }:=by
 have nit:∀b u,H b=sI u->b ∉ fp:=λb u e z=>by rw[(hf b z).1] at e;cases e
 refine I.step (g':=s.gens) (d':=s.drawn) (ch:=fp) (λb hb=>?_) (λb o _ _ hc e _=>k b o hc e) (λb o _ _ hc e _=>⟨o.slots,k b o hc e⟩) (λ_ _ _ _ n=>n)
  (λb o hc e=>⟨o,k b o hc e⟩) (λ_ _ e=>e) (λ_ _ _ e=>e) (λb ps e=>⟨#[],by rw[e];simp⟩) (λm hm=>?_) (λb u e=>?_) I.bare
 ·obtain⟨_,a1,_,a3,a4,a5⟩:=hf b hb
  exact⟨a3,a1,a4,a5⟩
 ·obtain⟨o,es,ep,ho,r⟩:=hm
  exact⟨o,es,ep,k _ o (λz=>(hf _ z).2.1 rfl) ho,r⟩
 ·refine (I.hok b u e).stay (λc v hc q=>k c v ?_ q) (λ_ q=>q) λ_ _ q=>q
  rcases hc with z | z
  ·rw[z];exact nit b u e
  ·exact nit c _ z
theorem Inv.track{a:oO}{o:HO}(I:Inv X sM σ H s)(fa:xp X sM H a)(new:ObjOk X.prog X.w (upd H a o) s.heap a o):Inv X sM σ (upd H a o) s:=by
 obtain⟨a0,a1,a2,a3,a4,a5⟩:=fa
 have e:s={ s with heap:=s.heap,gens:=s.gens,drawn:=s.drawn,toks:=s.toks }:=rfl
 rw[e]
 refine I.step (g':=s.gens) (d':=s.drawn) (ch:=[a]) (λb hb=>?_) (λb o _ _ _ e _=>e) (λb o _ _ _ e _=>⟨o.slots,e⟩) (λb o hc _ n=>?_)
  (λb o _ e=>⟨o,e⟩) (λb xs e=>?_) (λb u xs e=>?_) (λb ps e=>?_) (λm hm=>hm) (λb u e=>?_) I.bare
 ·have eb:b=a:=by simpa using hb
  subst eb
  exact⟨a3,a1,a4,a5⟩
 ·rw[zo (by simpa using hc)];exact n
 ·rw[zo (zF e a0)];exact e
 ·rw[zo (zF e a0)];exact e
 ·exact⟨#[],by rw[zo (zF e a0),e];simp⟩
 ·by_cases hb:b=a
  ·subst hb;rw[zc] at e;cases e;exact new
  ·rw[zo hb] at e
   exact (I.hok b u e).stay (λc v _ q=>q) (λc q=>by rw[zo (zF q a0)];exact q) λc xs q=>by rw[zo (zF q a0)];exact q
end
noncomputable def Its(x:oV):It:=⟨λi _=>i<(cs x).length,λi H v H'=>H'=H/\∃c,(cs x)[i]? = sI c/\v=.str (tx [c]),λi _=>i=(cs x).length⟩
theorem Uy{P:oU}{w:oW}{K:oN}{tg:oY}{ty:String}(hty:["enumerate","zip","dict_itemiterator","dict_reverseitemiterator","odict_iterator","itertools.zip_longest","itertools.pairwise"].contains ty=sL)(it:oO)(x:oV)(t:rF)
  (W:∀A:oX,A.handled=sJ->Walks P w A it [it] [it] x.cps.size (SignAt x) λi h=>h.IsStrIter it ty x t i)
  (S:∀(A:oX) (i:Nat) (s:oQ) (Q:oP->oQ->Prop) (E:oP->oQ->Prop),s.heap.IsStrIter it ty x t i->Q (.ref it) s->oR (model P w) A (pyIter (.ref it)) Q E s) :
  Us P w K tg (Its x) [it] it (λi h=>h.IsStrIter it ty x t i) where
 mem:=by simp
 obj:=λi h st b hb=>by
  have e:b=it:=by simpa using hb
  subst e
  obtain⟨o,e,c,d⟩:=st
  exact⟨o,e,λv z=>by rw[d] at z;cases z⟩
 keep:=λi h h' st k=>let ⟨o,e,r⟩:=st; ⟨o,k it (by simp) o e,r⟩
 item:=by
  intro X hP hw hK hc i sM s σ H E I hf st hg
  subst hP hw hK
  obtain⟨f0,f1,f2,f3,f4,f5⟩:=hf it (by simp)
  have hg':i<x.cps.size:=by have:i<x.cps.toList.length:=hg;simpa using this
  refine (W X.A (I.ok.hd hc)).item i s _ _ hg' st λv h' tk hv st' kk=>?_
  obtain⟨c,u,hcc,rfl⟩:=hv
  have I1:Inv X sM σ H { s with heap:=h',toks:=tk }:=I.turned (λb o hb e=>kk b o (by simpa using hb) e) f0 f1 f3 f4 f5
  obtain⟨o,e,cl,d⟩:=id st'
  refine⟨_,rfl,V4 (s:={ s with heap:=h',toks:=tk }) e cl d hty ⟨.str (tx [c]),H,I1,⟨u,rfl⟩,⟨rfl,c,?_,rfl⟩,st',λb hb=>(hf b hb).1⟩⟩
  show x.cps.toList[i]? = sI c
  simpa using hcc
 done:=by
  intro X hP hw hK hc i sM s σ H E I hf st hg
  subst hP hw hK
  obtain⟨f0,f1,f2,f3,f4,f5⟩:=hf it (by simp)
  have hi:i=x.cps.size:=by have:i=x.cps.toList.length:=hg;simpa using this
  rw[hi] at st
  exact (W X.A (I.ok.hd hc)).done s _ _ st λh' tk kk=>⟨rfl,I.turned (λb o hb e=>kk b o (by simpa using hb) e) f0 f1 f3 f4 f5⟩
 self:=λA i s Q E st h=>S A i s Q E st h
section
variable{X:Cx}{tg:oY}
def zcu(tl:TE):TI:=λσ H R=>tl σ H λv H1=>∃x,v=.str x/\R (Its x) H1
theorem kN{l:oY}{tl:TE}(hl:PE X l tl):PI X tg l (zcu tl):=by
 intro sM s σ H R I h
 refine thn (hl sM s σ H _ I h) λv s1 ⟨y,H1,I1,r1,q1⟩=>?_
 obtain⟨x,e,q⟩:=q1
 subst e
 obtain⟨t,rfl⟩:=r1
 have fin:∀(ty:String) (hty:["enumerate","zip","dict_itemiterator","dict_reverseitemiterator","odict_iterator","itertools.zip_longest","itertools.pairwise"].contains ty=sL)
   (W:∀A:oX,A.handled=sJ->Walks X.prog X.w A s1.heap.objs.size [s1.heap.objs.size] [s1.heap.objs.size] x.cps.size (SignAt x) λi h=>h.IsStrIter s1.heap.objs.size ty x t i)
   (S:∀(A:oX) (i:Nat) (s:oQ) (Q:oP->oQ->Prop) (E:oP->oQ->Prop),s.heap.IsStrIter s1.heap.objs.size ty x t i->Q (.ref s1.heap.objs.size) s->oR (model X.prog X.w) A (pyIter (.ref s1.heap.objs.size)) Q E s),
   PIE X sM σ tg R (.ref s1.heap.objs.size) { s1 with heap:=s1.heap.push { cls:=.type ty,data:=.fields #[.str x t,.int 0 0] } }:=λty hty W S=>by
  refine⟨s1.heap.objs.size,[s1.heap.objs.size],_,_,H1,rfl,I1.kept (t':=s1.toks) λb o e=>aa _ e,Uy hty _ x t W S,⟨_,aD _ rfl,rfl,rfl⟩,λb hb=>?_,q⟩
  have e:b=s1.heap.objs.size:=by simpa using hb
  subst e
  exact I1.fpOk (am _) (I1.hok.fresh (am _))
 cases ha:x.cps.all (· < 128)
 ·exact wpAny_pyIter_wide ha (fin "str_iterator" (by decide) (λA hA=>Walks.strWide hA _ x t) λA i s Q E st h=>wpAny_pyIter_striter_wide st h)
 ·exact wpAny_pyIter_ascii ha (fin "str_ascii_iterator" (by decide) (λA hA=>Walks.strAscii hA _ x t) λA i s Q E st h=>wpAny_pyIter_striter_ascii st h)
end
theorem J9{x:oV}{g:TG}{tb:TS}{D:vg}{σ:St}{H:Hp}(Pv:Nat->St->Hp->Prop)(h0:Pv 0 σ H)
  (hs:∀i c σ H,(cs x)[i]? = sI c->Pv i σ H->g (.str (tx [c])) σ H λσ2 H2=>tb { D with nx:=Pv (i+1),ct:=Pv (i+1),bk:=D.nx } σ2 H2) (hd:∀σ H,Pv (cs x).length σ H->D.nx σ H) :
  ∃W:Nat->Nat->St->Hp->Prop,(∃m,W 0 m σ H)/\∀i m σ H,W i m σ H ->
   ((Its x).stop i H/\D.nx σ H)\/((Its x).go i H/\∃N:St->Hp->Prop,(∀σ' H',N σ' H'->∃m',m'<m/\W (i+1) m' σ' H')/\∀v H',(Its x).yld i H v H'->g v σ H' λσ2 H2=>tb { D with nx:=N,ct:=N,bk:=D.nx } σ2 H2):=by
 refine⟨λi m σ H=>m=(cs x).length - i/\i<=(cs x).length/\Pv i σ H,⟨(cs x).length,by simp,aI _,h0⟩,?_⟩
 rintro i m σ H ⟨rfl,hi,p⟩
 by_cases hlt:i<(cs x).length
 ·refine .inr ⟨hlt,Pv (i+1),λσ' H' p'=>⟨(cs x).length - (i+1),by lia,rfl,hlt,p'⟩,λv H' y=>?_⟩
  obtain⟨e,c,hc,ev⟩:=y
  subst e ev
  exact hs i c σ _ hc p
 ·have e:i=(cs x).length:=by lia
  subst e
  exact .inl ⟨rfl,hd σ H p⟩
noncomputable def Ite(x:oV):It:=⟨λi _=>i<(cs x).length,λi H v H'=>∃p c,H p=sJ/\(cs x)[i]? = sI c/\v=.ref p/\H'=upd H p (.tup [.int (i:Nat),.str (tx [c])]),λi _=>i=(cs x).length⟩
section
variable{X:Cx}
def zck(ta:TA):TI:=λσ H R=>ta σ H λvs H1=>∃x,vs=[.str x]/\R (Ite x) H1
end
end L3
namespace L3
theorem uh{env:rP}:∀(names:List (oV × rq)) (sP:List (oV × oO)),
    (∀y,(y,NameKind.free) ∈ names->∃c,env.cells.lookup y=sI c)->(∀y c,sP.lookup y=sI c->env.cells.lookup y=sI c) ->
    ∃cl,(forIn names sP λ(x:oV × rq) (cs:List (oV × oO))=>if (x.2 == NameKind.free)=sK then (do let a <- cellOf env x.1;pure (ForInStep.yield ((x.1,a)::cs))) else pure (ForInStep.yield cs):sB (List (oV × oO)))=pure cl /\
      (∀y c,cl.lookup y=sI c->env.cells.lookup y=sI c)/\(∀y,(y,NameKind.free) ∈ names\/(sP.lookup y).isSome=sK->∃c,cl.lookup y=sI c)
  | [],sP,_,ha=>⟨sP,rfl,ha,λy h=>by
      rcases h with h | h
      . cases h
      . exact tD.mp h⟩
  | (n,k)::r,sP,hn,ha=>by
    by_cases hk:k=NameKind.free
    . subst hk
      obtain⟨c,hc⟩:=hn n (by simp)
      have ha':∀y d,((n,c)::sP).lookup y=sI d->env.cells.lookup y=sI d:=λy d e=>by
        rw[aX] at e
        by_cases hy:(y == n)=sK
        . rw[hy] at e
          have:y=n:=eq_of_beq hy
          subst this
          cases e
          exact hc
        . have hy':(y == n)=sL:=by simpa using hy
          rw[hy'] at e
          exact ha y d e
      obtain⟨cl,e,h1,h2⟩:=uh r ((n,c)::sP) (λy hy=>hn y (ao _ hy)) ha'
      refine⟨cl,?_,h1,λy hy=>h2 y ?_⟩
      . rw[dh]
        have ec:cellOf env n=pure c:=by unfold cellOf;rw[hc]
        simp only[beq_self_eq_true,if_true,ec,pure_bind]
        exact e
      . rcases hy with hy | hy
        . rcases sU.mp hy with q | q
          . cases q
            exact .inr (by simp)
          . exact .inl q
        . refine .inr ?_
          rw[aX]
          by_cases hyn:(y == n)=sK
          . rw[hyn];rfl
          . have hy':(y == n)=sL:=by simpa using hyn
            rw[hy'];exact hy
    . obtain⟨cl,e,h1,h2⟩:=uh r sP (λy hy=>hn y (ao _ hy)) ha
      refine⟨cl,?_,h1,λy hy=>h2 y ?_⟩
      . rw[dh]
        have ek:(k == NameKind.free)=sL:=by simpa using hk
        simp only[ek,bF,if_false,pure_bind]
        exact e
      . rcases hy with hy | hy
        . rcases sU.mp hy with q | q
          . cases q;exact absurd rfl hk
          . exact .inl q
        . exact .inr hy
theorem wc{scope:pQ}{env:rP}(hn:∀y,(y,NameKind.free) ∈ scope.names->∃c,env.cells.lookup y=sI c) :
  ∃cl,closureFor scope env=pure cl/\(∀y c,cl.lookup y=sI c->env.cells.lookup y=sI c)/\(∀y,(y,NameKind.free) ∈ scope.names->∃c,cl.lookup y=sI c):=by
 obtain⟨cl,e,h1,h2⟩:=uh scope.names [] hn (λy c h=>by cases h)
 refine⟨cl,?_,h1,λy hy=>h2 y (.inl hy)⟩
 unfold closureFor
 simp only[bind_pure]
 exact e
noncomputable abbrev Vn(ifs:List oY)(env:rP):sB Bool :=
 forIn ifs sK λc r=>if r=sK then (do let ok <- isTrue c env (eval c env);pure (ForInStep.yield ok)) else pure (ForInStep.yield r)
theorem ZC{prog:oU}{w:oW}{A:oX}{R:rN->oQ->Prop}{s:oQ}{elt tg iter:oY}{ifs:List oY}{scope:pQ}{pos:pW}{it sP:oP}{env:rP}
  (I:Nat->oQ->Prop) {EE:oP->oQ->Prop} (hEE:EE=notedBy (model prog w) A env λe s'=>R (.error e) s')
  (turn:∀n s,I n s->oR (model prog w) A (pyNext it) (λr s1=>match r with
   | none=>R (.ok .next) s1
   | some v=>oR (model prog w) A (letOwnedTupleGo tg it v) (λ_ s2=>oR (model prog w) A (assign tg env v) (λ_ s3 =>
     oR (model prog w) A (Vn ifs env) (λok s4=>if ok=sK then
      oR (model prog w) A (eval elt env) (λx s5=>oR (model prog w) A (call (.builtin "list.append") [sP,x]) (λ_ s6=>∃m,m<n/\I m s6) EE s5) EE s4
      else ∃m,m<n/\I m s4) EE s3) EE s2) EE s1) EE s) (n:Nat) (h:I n s) :
  pM (model prog w) A (.compLoop (.ListComp elt [⟨tg,iter,ifs,0⟩] scope pos) 0 it sP env) R s:=by
 subst hEE
 refine codeAny_loop rfl I (λn s hI=>?_) n h
 show oR _ A ((compTurn (.ListComp elt [⟨tg,iter,ifs,0⟩] scope pos) 0 it sP env).onRaise (λx=>do noteFrame x env;theTreesLotGoes x)) _ _ s
 refine wpAny_noted ?_
 rw[compTurn_list]
 refine oG (pT (oG (thn (turn n s hI) λr s1 h1=>?_)))
 cases r with
 | none=>exact oH h1
 | some v =>
  refine oG (thn h1 λ_ s2 h2=>oG (thn h2 λ_ s3 h3=>oG (thn h3 λok s4 h4=>?_)))
  cases ok with
  | false=>exact oH ⟨rfl,h4⟩
  | true=>exact oG (oG (thn h4 λx s5 h5=>oG (thn h5 λ_ s6 h6=>oH (oH ⟨rfl,h6⟩))))
noncomputable def z7(X:Cx)(scope:pQ)(cl:List (oV × oO))(C:oO)(N:List oV)(sM:List (oO × pE))(s3:oQ)(H3:Hp)(fp:List oO)(E:oP->oQ->Prop):Cx :=
 { X with N:=N,s₀:=s3,H₀:=H3,env:=compEnvC scope cl C X.env,outer:=X.stack,ex:=fp,fn:=λ_=>sL,pn:=X.pn ++ sM,xe:=E }
noncomputable def wX(σ:St)(own:Nat)(ix:List Nat):St:=aU own sJ ++ ix.map λi=>(σ[i]?).join
structure qw(X:Cx)(scope:pQ)(own caps:List oV)(ix:List Nat):Prop where
 kind:scope.kind=.function
 nocell:∀y ∈ scope.names,y.2≠.cell
 names:∀y ∈ scope.names,y.2=.local->scope.names.lookup y.1=sI .local
 free:∀y,(y,NameKind.free) ∈ scope.names->X.env.kindOf y=sI .cell
 hown:∀y ∈ own,scope.names.lookup y=sI .local
 hcaps:∀y ∈ caps,scope.names.lookup y=sI .free
 hix:ix.map (λi=>X.N[i]?)=caps.map sI
theorem xM{α β:Type}[BEq α][LawfulBEq α]{l:List (α × β)}{a:α}{b:β}(h:l.lookup a=sI b):(a,b) ∈ l:=by
 induction l with
 | nil=>cases h
 | cons p r ih =>
  obtain⟨c,d⟩:=p
  rw[aX] at h
  by_cases e:(a == c)=sK
  ·rw[e] at h
   cases h
   rw[eq_of_beq e]
   exact aB
  ·have e':(a == c)=sL:=by simpa using e
   rw[e'] at h
   exact ao _ (ih h)
theorem va{scope:pQ}{env:rP}(hf:env.scope.kind=.function):∀{names:List (oV × rq)} {x:oV} {k:rq},names.lookup x=sI k ->
    (names.map λ(n,k)=>if (k == NameKind.free && env.scope.kind == .function && env.kindOf n == sI .cell) then (n,NameKind.cell) else (n,k)).lookup x=sI (if (k == NameKind.free && env.scope.kind == .function && env.kindOf x == sI .cell)=sK then .cell else k)
  | [],_,_,h=>by simp at h
  | (n,k')::r,x,k,h=>by
    have ih:=@va scope env hf r x k
    show bh x ((if (k' == NameKind.free && env.scope.kind == .function && env.kindOf n == sI .cell)=sK then (n,NameKind.cell) else (n,k'))::_)=_
    by_cases hx:(x == n)=sK
    . have hxn:x=n:=eq_of_beq hx
      subst hxn
      rw[aX,hx] at h
      cases h
      by_cases c:(k' == NameKind.free && env.scope.kind == .function && env.kindOf x == sI .cell)=sK
      . rw[if_pos c,if_pos c,aX,hx]
      . rw[if_neg c,if_neg c,aX,hx]
    . have hx':(x == n)=sL:=by simpa using hx
      rw[aX,hx'] at h
      by_cases c:(k' == NameKind.free && env.scope.kind == .function && env.kindOf n == sI .cell)=sK
      . rw[if_pos c,aX,hx'];exact ih h
      . rw[if_neg c,aX,hx'];exact ih h
theorem uw{scope:pQ}{env:rP}:∀{names:List (oV × rq)} {x:oV},names.lookup x=sJ ->
    (names.map λ(n,k)=>if (k == NameKind.free && env.scope.kind == .function && env.kindOf n == sI .cell) then (n,NameKind.cell) else (n,k)).lookup x=sJ
  | [],_,_=>rfl
  | (n,k')::r,x,h=>by
    have ih:=@uw scope env r x
    show bh x ((if (k' == NameKind.free && env.scope.kind == .function && env.kindOf n == sI .cell)=sK then (n,NameKind.cell) else (n,k'))::_)=_
    by_cases hx:(x == n)=sK
    . rw[aX,hx] at h;cases h
    . have hx':(x == n)=sL:=by simpa using hx
      rw[aX,hx'] at h
      by_cases c:(k' == NameKind.free && env.scope.kind == .function && env.kindOf n == sI .cell)=sK
      . rw[if_pos c,aX,hx'];exact ih h
      . rw[if_neg c,aX,hx'];exact ih h
section
variable{X:Cx}{scope:pQ}{own caps:List oV}{ix:List Nat}{cl:List (oV × oO)}{sM:List (oO × pE)}{σ:St}{H:Hp}{s:oQ}{fp:List oO}{E:oP->oQ->Prop}
theorem jq(S:qw X scope own caps ix)(hcl1:∀y c,cl.lookup y=sI c->X.env.cells.lookup y=sI c)(hcl2:∀y,(y,NameKind.free) ∈ scope.names->∃c,cl.lookup y=sI c)
  (I:Inv X sM σ H s) (hfp:∀b ∈ fp,xp X sM H b) (hlt:∀b ∈ fp,b<s.heap.objs.size) {h4:oZ} {t4:Nat} (hn:h4.Ns s.heap.objs.size λ_=>sJ) (hk:∀b o,s.heap.get? b=sI o->h4.get? b=sI o) :
  Inv (z7 X scope cl s.heap.objs.size (own ++ caps) sM s H fp E) [] (wX σ own.length ix) H { s with heap:=h4,toks:=t4 }:=by
 have kf:X.env.scope.kind=.function:=I.ok.kind
 have nofp:∀b ∈ fp,b≠s.heap.objs.size:=λb hb=>aw (hlt b hb)
 have cellLt:∀x c,X.env.cells.lookup x=sI c->c<s.heap.objs.size:=λx c e=>by
  obtain⟨v,o,ho,_⟩:=I.cell x c e
  exact aq ho
 have kinds:∀y k,scope.names.lookup y=sI k->(relabel scope X.env).names.lookup y=sI (if (k == NameKind.free && X.env.scope.kind == .function && X.env.kindOf y == sI .cell)=sK then .cell else k):=λy k e=>va (scope:=scope) kf e
 have back:∀y k,(relabel scope X.env).names.lookup y=sI k->∃k',scope.names.lookup y=sI k'/\k=(if (k' == NameKind.free && X.env.scope.kind == .function && X.env.kindOf y == sI .cell)=sK then .cell else k'):=λy k e=>by
  cases q:scope.names.lookup y with
  | none =>
   have:=uw (scope:=scope) (env:=X.env) q
   have e':(scope.names.map λ(n,k)=>if (k == NameKind.free && X.env.scope.kind == .function && X.env.kindOf n == sI .cell) then (n,NameKind.cell) else (n,k)).lookup y=sI k:=e
   rw[this] at e';cases e'
  | some k' =>
   refine⟨k',rfl,?_⟩
   have:=kinds y k' q
   rw[e] at this
   exact Option.some.inj this
 have isCell:∀y,scope.names.lookup y=sI .free->(relabel scope X.env).names.lookup y=sI .cell:=λy e=>by
  have:=kinds y _ e
  rw[this,if_pos]
  rw[S.free y (xM e),kf]
  rfl
 refine⟨⟨I.ok.mod,?_,I.ok.glob,I.ok.blt,am _,?_,?_,?_,I.ok.hd,I.ok.frames,.inl rfl,?_,I.bs,aJ I.ok.bsz I.sz,?_,?_,I.stack,I.stkFree⟩,rfl,I.bare,Un.kept hk,⟨_,hn,?_⟩,?_,?_,?_,?_,I.hok.kept hk,?_⟩
 ·show (relabel scope X.env).kind=.function
  exact S.kind
 ·intro x y c h1 h2
  exact I.ok.inj x y c (hcl1 x c h1) (hcl1 y c h2)
 ·intro y hy
  have hy':(relabel scope X.env).names.lookup y=sI .cell\/(relabel scope X.env).names.lookup y=sI .free:=hy
  have:scope.names.lookup y=sI .free:=by
   rcases hy' with q | q
   ·obtain⟨k',e,ek⟩:=back y _ q
    by_cases c:(k' == NameKind.free && X.env.scope.kind == .function && X.env.kindOf y == sI .cell)=sK
    ·rw[cE,cE] at c
     rw[e,eq_of_beq c.1.1]
    ·rw[if_neg c] at ek
     exact absurd ek.symm (S.nocell _ (xM e))
   ·obtain⟨k',e,ek⟩:=back y _ q
    by_cases c:(k' == NameKind.free && X.env.scope.kind == .function && X.env.kindOf y == sI .cell)=sK
    ·rw[if_pos c] at ek;cases ek
    ·rw[if_neg c] at ek
     rw[e,<- ek]
  exact hcl2 y (xM this)
 ·intro x c h _
  exact absurd h (by simp [z7])
 ·intro b hb
  refine⟨nofp b hb,λx c e=>?_⟩
  exact (hfp b hb).2.2.2.2.1 x c (hcl1 x c e)
 ·intro b o e hb
  obtain⟨_,_,_,q,_⟩:=hfp b hb
  rcases q with q | q
  ·exact I.ok.noex b o e q
  ·exact absurd (av (aq e) (aJ I.ok.bsz q)) (cI _)
 ·intro b hb z
  rcases sU.mp (I.stkSub b z) with e | e
  ·exact (hfp b hb).2.1 e
  ·exact (hfp b hb).2.2.1 e
 ·intro i y v h1 h2 h3
  have hi:own.length<=i:=by
   refine cY λhlt'=>?_
   unfold wX at h2
   rw[bP (by rw[bQ];exact hlt'),eL,if_pos hlt'] at h2
   cases h2
  have h1':caps[i - own.length]? = sI y:=by
   have:(own ++ caps)[i]? = sI y:=h1
   rw[bK hi] at this
   exact this
  have h2':(ix.map λi=>(σ[i]?).join)[i - own.length]? = sI (sI v):=by
   unfold wX at h2
   rw[bK (by rw[bQ];exact hi),bQ] at h2
   exact h2
  rw[aG] at h2'
  have hx:=congrArg (λl=>l[i - own.length]?) S.hix
  simp only[aG,h1',Option.map_some] at hx
  cases q:ix[i - own.length]? with
  | none=>rw[q] at h2';cases h2'
  | some j =>
   rw[q] at h2' hx
   have hj:X.N[j]? = sI y:=Option.some.inj hx
   have hv:(σ[j]?).join=sI v:=Option.some.inj h2'
   have hσ:σ[j]? = sI (sI v):=by
    cases r:σ[j]? with
    | none=>rw[r] at hv;cases hv
    | some z=>rw[r] at hv;cases z with
     | none=>cases hv
     | some z=>cases hv;rfl
   have hfree:scope.names.lookup y=sI .free:=S.hcaps y (ac h1')
   have hkc:=S.free y (xM hfree)
   obtain⟨m,hm,hl⟩:=I.loc
   obtain⟨u,ru,l⟩:=hl j y v hj hσ (.inr (.inl hkc))
   refine⟨u,ru,.inr ⟨.inl (isCell y hfree),?_⟩⟩
   rcases l with ⟨k,_⟩ | ⟨_,c,e,z⟩
   ·have:X.env.kindOf y=sI .local:=k
    rw[hkc] at this;cases this
   ·obtain⟨c',e'⟩:=hcl2 y (xM hfree)
    have:=hcl1 y c' e'
    rw[e] at this
    cases this
    obtain⟨o,ho,hd⟩:=z
    exact⟨c,e',o,hk c o ho,hd⟩
 ·intro x c e
  obtain⟨v,o,ho,hd⟩:=I.cell x c (hcl1 x c e)
  exact⟨v,o,hk c o ho,hd⟩
 ·exact I.hok.fresh (am _)
 ·intro x c e
  exact I.freeC x c (hcl1 x c e)
 ·intro p hp
  have hp':p ∈ X.pn ++ sM:=by
   have:p ∈ (X.pn ++ sM) ++ []:=hp
   rwa [aT] at this
  obtain⟨e,n,ne,nf,d⟩:=I.pin p hp'
  refine⟨hk _ _ e,n,?_,λz=>?_,d⟩
  ·exact aw (aq e)
  ·rcases sU.mp (I.stkSub p.1 z) with q | q
   ·exact ne q
   ·exact nf q
 ·show (wX σ own.length ix).length=(own ++ caps).length
  have:=congrArg eV S.hix
  rw[ae,ae] at this
  unfold wX
  rw[ak,bQ,ae,ak,this]
end
end L3
namespace L3
def yN(σ σ':St):Prop:=σ.length=σ'.length/\∀(i:Nat) v,σ[i]? = sI (sI v)->σ'[i]? = sI (sI v)
def PTs(X:Cx)(ifs:List oY)(t:TT):Prop :=
 ∀(sM:List (oO × pE)) (s:oQ) (σ:St) (H:Hp) (Q:Bool->Hp->Prop),Inv X sM σ H s->t σ H Q->oR (model X.prog X.w) X.A (Vn ifs X.env) (TP X sM σ Q) X.xe s
def xL:TT:=λ_ H Q=>Q sK H
theorem yg{X:Cx}:PTs X [] xL:=λ_ _ _ H _ I h=>oH ⟨H,I,h⟩
theorem W9{X:Cx}{c:oY}{t:TT}(h:PT X c t):PTs X [c] t:=λsM s σ H Q I hq=>by
 show oR _ _ (forIn [c] sK _) _ _ s
 simp only[dh,eY,if_true]
 exact oG (oG (thn (h sM s σ H Q I hq) λb s' hb=>oH (oH hb)))
def jm(wi:TI)(g:TG)(tt:TT)(te:TE)(own:Nat)(ix:List Nat):TE:=λσ H Q=>wi σ H λJ H1=>∀D,H1 D=sJ->∃W:Nat->Nat->List V->Hp->Prop,(∃m,W 0 m [] (upd H1 D (.lst []))) /\
 ∀i m sP H',W i m sP H'->(J.stop i H'/\Q (.ref D) H')\/(J.go i H'/\∀x H2,J.yld i H' x H2->g x (wX σ own ix) H2 λσ3 H3=>yN (wX σ own ix) σ3/\tt σ3 H3 λb H4=>if b=sK then
  te σ3 H4 λv H5=>H5 D=sI (.lst sP)/\sP.length<oM/\∃m',m'<m/\W (i+1) m' (sP ++ [v]) (upd H5 D (.lst (sP ++ [v])))
  else ∃m',m'<m/\W (i+1) m' sP H4)
theorem HOk.but{P:oU}{w:oW}{H:Hp}{h1 h2:oZ}{a:oO}(ok:HOk P w H h1)(sb:Heap.SameBut a h1 h2)(ha:H a=sJ):HOk P w H h2:=λb ob e=>by
 refine (ok b ob e).stay (λc u hc q=>(sb.2 c ?_).trans q) (λ_ q=>q) λ_ _ q=>q
 rintro rfl
 rcases hc with rfl | hc
 ·rw[ha] at e;cases e
 ·rw[ha] at hc;cases hc
section
variable{X:Cx}{scope:pQ}{own caps:List oV}{ix:List Nat}{elt tg iter:oY}{ifs:List oY}{pos:pW}{wi:TI}{g:TG}{tt:TT}{te:TE}
theorem jE(hc:X.calm=sK)(S:qw X scope own caps ix)
  (hg:∀cl C sM s3 H3 fp,PG (z7 X scope cl C (own ++ caps) sM s3 H3 fp λ_ _=>False) tg g)
  (ht:∀cl C sM s3 H3 fp,PTs (z7 X scope cl C (own ++ caps) sM s3 H3 fp λ_ _=>False) ifs tt)
  (he:∀cl C sM s3 H3 fp,PE (z7 X scope cl C (own ++ caps) sM s3 H3 fp λ_ _=>False) elt te)
  {cl:List (oV × oO)} (hc1:∀y c,cl.lookup y=sI c->X.env.cells.lookup y=sI c) (hc2:∀y,(y,NameKind.free) ∈ scope.names->∃c,cl.lookup y=sI c)
  {sM:List (oO × pE)} {σ:St} {H2:Hp} {s2:oQ} {Q:VK} {it:oO} {fp:List oO} {tn:Nat->oZ->Prop} {J:It} (I2:Inv X sM σ H2 s2) (T:Us X.prog X.w X.K tg J fp it tn) (st2:tn 0 s2.heap) (f2:∀b ∈ fp,xp X sM H2 b)
  (q:∀D,H2 D=sJ->∃W:Nat->Nat->List V->Hp->Prop,(∃m,W 0 m [] (upd H2 D (.lst []))) /\
   ∀i m sP H',W i m sP H'->(J.stop i H'/\Q (.ref D) H')\/(J.go i H'/\∀x H2,J.yld i H' x H2->g x (wX σ own.length ix) H2 λσ3 H3=>yN (wX σ own.length ix) σ3/\tt σ3 H3 λb H4=>if b=sK then
    te σ3 H4 λv H5=>H5 D=sI (.lst sP)/\sP.length<oM/\∃m',m'<m/\W (i+1) m' (sP ++ [v]) (upd H5 D (.lst (sP ++ [v])))
    else ∃m',m'<m/\W (i+1) m' sP H4))
  {RR:oP->oO->rN->oQ->Prop} {E:oP->oQ->Prop}
  (hRR:∀D C m s' H',H2 D=sJ->s'.heap.Ns C m->xp X sM H' C->Inv X sM σ H' s'->Q (.ref D) H'->RR (.ref D) C (.ok .next) s') :
  oR (model X.prog X.w) X.A (newList []) (λsP s3=>oR (model X.prog X.w) X.A (newFunctionEnv scope X.env.globals cl [] X.env.qual sJ .none (sI X.env)) (λcenv s4 =>
   pM (model X.prog X.w) X.A (.compStart (.ListComp elt [⟨tg,iter,ifs,0⟩] scope pos) 0 (.ref it) sP { cenv with scope:=relabel scope X.env }) (RR sP cenv.locals) s4) E s3) E s2:=by
 have hD:H2 s2.heap.objs.size=sJ:=I2.hok.fresh (am _)
 obtain⟨W,⟨m0,w0⟩,turn⟩:=q _ hD
 refine ra (rn S.nocell (by intro y hy;simp at hy) (λh1 hns1 hsb1=>?_) S.kind)
 dsimp only at hns1 hsb1 ⊢
 have I3:Inv X sM σ (upd H2 s2.heap.objs.size (.lst [])) { s2 with heap:=s2.heap.push { cls:=.type "list",dict:=sJ,data:=.seq ([]:List oP).toArray } } :=
  I2.lnew (its:=[]) (t':=s2.toks) .nil (aI _)
 generalize hs3:({ s2 with heap:=s2.heap.push { cls:=.type "list",dict:=sJ,data:=.seq ([]:List oP).toArray } }:oQ)=s3 at I3
 have e3:s2.heap.push { cls:=.type "list",dict:=sJ,data:=.seq ([]:List oP).toArray }=s3.heap:=by rw[<- hs3]
 rw[e3] at hns1 hsb1 ⊢
 have k1:∀b o,s3.heap.get? b=sI o->h1.get? b=sI o:=λb o e=>(hsb1.2 b (aw (aq e))).trans (aa _ e)
 have k23:∀b o,s2.heap.get? b=sI o->s3.heap.get? b=sI o:=λb o e=>by rw[<- e3];exact aa _ e
 have hz:s3.heap.objs.size=s2.heap.objs.size+1:=by rw[<- e3,bq]
 have fpObj:∀b ∈ fp,∃o,s2.heap.get? b=sI o:=λb hb=>let ⟨o,e,_⟩:=T.obj 0 _ st2 b hb; ⟨o,e⟩
 have fplt:∀b ∈ fp,b<s2.heap.objs.size:=λb hb=>let ⟨o,e⟩:=fpObj b hb;aq e
 have f3:∀b ∈ fp,xp X sM (upd H2 s2.heap.objs.size (.lst [])) b:=λb hb=>⟨by rw[zo (aw (fplt b hb))];exact (f2 b hb).1,(f2 b hb).2⟩
 have I4:Inv (z7 X scope cl s3.heap.objs.size (own ++ caps) sM s3 (upd H2 s2.heap.objs.size (.lst [])) fp λ_ _=>False) [] (wX σ own.length ix) (upd H2 s2.heap.objs.size (.lst [])) { s3 with heap:=h1,toks:=s3.toks+([]:List (oV × oP)).length } :=
  jq S hc1 hc2 I3 f3 (λb hb=>by rw[hz];exact cp (fplt b hb)) hns1 k1
 have st4:tn 0 h1:=T.keep 0 _ _ st2 λb hb o e=>k1 b o (k23 b o e)
 generalize hs4:({ s3 with heap:=h1,toks:=s3.toks+([]:List (oV × oP)).length }:oQ)=s4 at I4
 have es4:({ s2 with heap:=h1,toks:=s2.toks+([]:List (oV × oP)).length }:oQ)=s4:=by rw[<- hs4,<- hs3]
 have e4:h1=s4.heap:=by rw[<- hs4]
 have loop:pM (model X.prog X.w) X.A (.compLoop (.ListComp elt [⟨tg,iter,ifs,0⟩] scope pos) 0 (.ref it) (.ref s2.heap.objs.size) (compEnvC scope cl s3.heap.objs.size X.env)) (RR (.ref s2.heap.objs.size) s3.heap.objs.size) s4:=by
  let X':=z7 X scope cl s3.heap.objs.size (own ++ caps) sM s3 (upd H2 s2.heap.objs.size (.lst [])) fp λ_ _=>False
  have fp':∀{H':Hp},(∀b ∈ fp,H' b=sJ)->∀b ∈ fp,xp X' [] H' b:=λ{H'} hn b hb=>by
   obtain⟨_,a1,a2,a3,a4,a5⟩:=f3 b hb
   refine⟨hn b hb,aw (show b<s3.heap.objs.size from by rw[hz];exact cp (fplt b hb)),λz=>?_,.inl hb,λx c e=>a4 x c (hc1 x c e),λp hp=>?_⟩
   ·rcases sU.mp (I3.stkSub b z) with e | e
    ·exact a1 e
    ·exact a2 e
   ·have:p ∈ (X.pn ++ sM) ++ []:=hp
    rw[aT] at this
    exact a5 p this
  refine ZC (λn s'=>∃i sP H',Inv X' [] (wX σ own.length ix) H' s'/\tn i s'.heap/\(∀b ∈ fp,H' b=sJ)/\W i n sP H') rfl ?_ m0 ⟨0,[],_,I4,by rw[<- e4];exact st4,λb hb=>(f3 b hb).1,w0⟩
  rintro n s5 ⟨i,sP,H5,I5,st5,fr5,w5⟩
  refine pC ?_
  rcases turn i n sP H5 w5 with ⟨stop,qn⟩ | ⟨go,step⟩
  ·refine thn (T.done X' rfl rfl rfl hc i [] s5 _ H5 _ I5 (fp' fr5) st5 stop) λr s6 ⟨hr,I6⟩=>?_
   subst hr
   obtain⟨m,hm,_⟩:=I6.loc
   refine hRR _ _ m s6 H5 hD hm (I3.fpOk (am _) I6.free) (I3.call' (s':=s6) I6.os I6.base I6.hok I6.bare λb hb=>?_) qn
   obtain⟨_,a1,a2,a3,a4,a5⟩:=f3 b hb
   exact⟨a3,a1,a4,a5⟩
  ·refine thn (T.item X' rfl rfl rfl hc i [] s5 _ H5 (λ_ _=>False) I5 (fp' fr5) st5 go) λr s6 ⟨u,hr,h6⟩=>?_
   subst hr
   refine pC (thn h6 λ_ s7 ⟨x,H7,I7,r7,y7,st7,fr7⟩=>?_)
   have I7':=I7.pinned (fp' fr7) (T.obj _ _ st7)
   refine pC (thn (hg _ _ _ _ _ _ _ s7 _ H7 x u _ I7' r7 (step x H7 y7)) λ_ s8 ⟨σ8,H8,I8,ks,q8⟩=>?_)
   refine pC (thn (ht _ _ _ _ _ _ _ s8 σ8 H8 _ I8 q8) λb s9 ⟨H9,I9,q9⟩=>?_)
   have back:∀{s':oQ} {H':Hp} {acc':List V} {m':Nat},Inv X' ([] ++ jx fp s7.heap) σ8 H' s'->m'<n->W (i+1) m' acc' H'->∃m,m<n/\∃i sP H',Inv X' [] (wX σ own.length ix) H' s'/\tn i s'.heap/\(∀b ∈ fp,H' b=sJ)/\W i m sP H':=λ{s' H' acc' m'} J' hm w'=>by
    refine⟨m',hm,i+1,acc',H',(J'.unpinned).weak ks.1 ks.2,T.keep _ _ _ st7 λb hb o e=>(J'.pin (b,o) (aA _ (aA _ (xb hb e)))).1,λb hb=>?_,w'⟩
    obtain⟨o,e,d⟩:=T.obj _ _ st7 b hb
    exact (J'.pin (b,o) (aA _ (aA _ (xb hb e)))).2.1
   cases b with
   | false =>
    rw[if_neg aC] at q9 ⊢
    obtain⟨m',hm,w'⟩:=q9
    exact back I9 hm w'
   | true =>
    rw[if_pos rfl] at q9 ⊢
    refine pC (thn (he _ _ _ _ _ _ _ s9 σ8 H9 _ I9 q9) λv s10 ⟨y,H10,I10,r10,hD10,hsz,m',hm,w'⟩=>?_)
    refine pC ?_
    have:=wH (X:=X') _ s10 σ8 H10 (.ref s2.heap.objs.size) [y] (.ref s2.heap.objs.size) [v] (λ_ H'=>H'=upd H10 s2.heap.objs.size (.lst (sP ++ [y]))) I10 rfl (.cons r10 .nil) ⟨_,sP,y,rfl,rfl,hD10,hsz,rfl⟩
    refine thn this λ_ s11 ⟨_,H11,I11,_,eH⟩=>?_
    subst eH
    exact back I11 hm w'
 have goal:pM (model X.prog X.w) X.A (.compStart (.ListComp elt [⟨tg,iter,ifs,0⟩] scope pos) 0 (.ref it) (.ref s2.heap.objs.size) (compEnvC scope cl s3.heap.objs.size X.env)) (RR (.ref s2.heap.objs.size) s3.heap.objs.size) s4 :=
  rM loop (T.self _ 0 s4 _ _ (by rw[<- e4];exact st4) loop)
 rw[<- es4] at goal
 exact goal
theorem yu(hc:X.calm=sK)(S:qw X scope own caps ix)(hi:PI X tg iter wi)
  (hg:∀cl C sM s3 H3 fp,PG (z7 X scope cl C (own ++ caps) sM s3 H3 fp λ_ _=>False) tg g)
  (ht:∀cl C sM s3 H3 fp,PTs (z7 X scope cl C (own ++ caps) sM s3 H3 fp λ_ _=>False) ifs tt)
  (he:∀cl C sM s3 H3 fp,PE (z7 X scope cl C (own ++ caps) sM s3 H3 fp λ_ _=>False) elt te)
  (hs:∀x,foldedSetIterable iter X.env x=pure x:=by intro _;rfl) :
  PE X (.ListComp elt [⟨tg,iter,ifs,0⟩] scope pos) (jm wi g tt te own.length ix):=by
 intro sM s σ H Q I h
 obtain⟨cl,hclos,hc1,hc2⟩:=wc (scope:=scope) (env:=X.env) λy hy=>I.ok.has y (.inl (S.free y hy))
 rw[eval_ListComp]
 refine rg (use:=sJ) rfl hs hclos S.kind S.names (thn (hi sM s σ H _ I h) λv s1 h1=>thn h1 λitv s2 h2=>?_)
 obtain⟨it,fp,tn,J,H2,e,I2,T,st2,f2,q⟩:=h2
 subst e
 refine jE (RR:=λsP C=>compPost (model X.prog X.w) X.A X.xe sJ (EP X sM σ Q) sP C) hc S hg ht he hc1 hc2 I2 T st2 f2 q ?_
 intro D C m s' H' _ hn fc I' qn
 obtain⟨a0,a1,a2,a3,a4,a5⟩:=fc
 exact⟨m,hn,λh' sb=>⟨.ref D,H',I'.turned (t':=s'.toks) (λb o hb e=>(sb.2 b hb).trans e) a0 a1 a3 a4 a5,rfl,qn⟩⟩
def j5(i:Nat)(t:TE):TS:=λD σ H=>t σ H λx H1=>D.nx (σ.set i (sI x)) H1
theorem wf{i:Nat}{y:oV}{py spos:pW}(hN:X.N.Nodup)(hy:X.N[i]? = sI y)(hly:Loc X.env.scope y)(hf:X.fn y=sK\/X.env.scope.names.lookup y=sI .local)(hc:X.calm=sK)(S:qw X scope own caps ix)(hi:PI X tg iter wi)
  (hg:∀cl C sM s3 H3 fp,PG (z7 X scope cl C (own ++ caps) sM s3 H3 fp λ_ _=>False) tg g)
  (ht:∀cl C sM s3 H3 fp,PTs (z7 X scope cl C (own ++ caps) sM s3 H3 fp λ_ _=>False) ifs tt)
  (he:∀cl C sM s3 H3 fp,PE (z7 X scope cl C (own ++ caps) sM s3 H3 fp λ_ _=>False) elt te)
  (hsw:swapsWith (.ListComp elt [⟨tg,iter,ifs,0⟩] scope pos) (sI (.Name y py)) spos.line X.env=pure sK:=by rfl)
  (hs:∀x,foldedSetIterable iter X.env x=pure x:=by intro _;rfl) :
  PS X (.Assign [.Name y py] (.ListComp elt [⟨tg,iter,ifs,0⟩] scope pos) spos) (j5 i (jm wi g tt te own.length ix)):=by
 intro sM s σ H D I h
 obtain⟨cl,hclos,hc1,hc2⟩:=wc (scope:=scope) (env:=X.env) λy hy=>I.ok.has y (.inl (S.free y hy))
 rw[exec_Assign_Name_used _ _ _ _ hsw]
 refine oG (pT (oG ?_))
 show oR _ X.A (do let _ <- comprehension (.ListComp elt [⟨tg,iter,ifs,0⟩] scope pos) scope X.env _ (newList []) sL (eval iter X.env) (sI (assign (.Name y py) X.env))) _ _ s
 refine oG (thn (rg (use:=sI (assign (.Name y py) X.env)) (Q:=λ_ s'=>SP X sM D .next s') rfl hs hclos S.kind S.names (thn (hi sM s σ H _ I h) λv s1 h1=>thn h1 λitv s2 h2=>?_)) λ_ s' hq=>oH (oH hq))
 obtain⟨it,fp,tn,J,H2,e,I2,T,st2,f2,q⟩:=h2
 subst e
 refine jE (Q:=λx H1=>D.nx (σ.set i (sI x)) H1) (RR:=λsP C=>compPost (model X.prog X.w) X.A X.xe (sI (assign (.Name y py) X.env)) (λ_ s'=>SP X sM D .next s') sP C) hc S hg ht he hc1 hc2 I2 T st2 f2 q ?_
 intro D' C m s' H1 hD' hn fc I1 nx
 obtain⟨a0,a1,a2,a3,a4,a5⟩:=fc
 show oR _ X.A (assign (.Name y py) X.env (.ref D')) _ _ s'
 refine so (Zi I1 hN hy hly (v:=.ref D') rfl (λs'' I2' ⟨a,sb,ha⟩=>?_) hf)
 have hCa:C≠a:=by
  rcases ha with e | e
  ·rw[e];exact a1
  ·exact λz=>a4 _ _ e z.symm
 refine⟨m,hn.sameBut sb hCa,λh' sb'=>⟨_,H1,I2'.turned (t':=s''.toks) (λb o hb e=>(sb'.2 b hb).trans e) a0 a1 a3 a4 a5,nx⟩⟩
end
end L3
namespace L3
section
variable{X:Cx}{a b:oY}{ta tb:TE}{pos:pW}
def UW:R2:=λx y H Q=>(∃i j,x=.int i/\y=.int j/\Q (.int (i+j)) H)\/(∃i j,x=.str i/\y=.str j/\i.length+j.length<=oM/\Q (.str (i ++ j)) H)\/zcw x y H Q
theorem Yk:OpR X (binaryOp .Add) UW:=op_add.or (op_add_str.or Zv)
def JV:R2:=λx y H Q=>(∃i j,x=.int i/\y=.int j/\CMul i j/\Q (.int (i * j)) H)\/∃z n,x=.str z/\y=.int n/\0<=n/\n<=1000/\z.length<=1000/\Q (.str (tx (aU n.toNat (cs z)).flatten)) H
theorem J0:OpR X (binaryOp .Mult) JV:=op_mul.or Xt
def zdj:R2:=λx y H Q=>(∃i j,x=.int i/\y=.int j/\Q (.bl (decide (i<j))) H)\/∃i j,x=.str i/\y=.str j/\Q (.bl (decide (cs i<cs j))) H
def zc7:R2:=λx y H Q=>(∃i j,x=.int i/\y=.int j/\Q (.bl (decide (i<=j))) H)\/∃i j,x=.str i/\y=.str j/\Q (.bl (!(decide (cs j<cs i)))) H
theorem uq:OpR X (pc .LtE) zc7:=op_le.or W3
theorem VZ:OpR X (pc .Gt) (λx y H Q=>∃i j,x=.str i/\y=.str j/\Q (.bl (decide (cs j<cs i))) H):=by
 intro sM s σ H x y v u Q I rx ry h
 obtain⟨i,j,rfl,rfl,q⟩:=h
 obtain⟨t,rfl⟩:=rx
 obtain⟨t',rfl⟩:=ry
 exact PySem.P.gt_str ⟨.bl _,H,I,rfl,q⟩
def zb9:R2:=λx y H Q=>(∃i j,x=.int i/\y=.int j/\Q (.bl (decide (j<i))) H)\/∃i j,x=.str i/\y=.str j/\Q (.bl (decide (cs j<cs i))) H
theorem WF:OpR X (pc .Gt) zb9:=op_gt.or VZ
def zcJ(K:oN):V->Option Int->Option Int->Hp->VK->Prop:=λx lo hi H Q=>zcn K x lo hi H Q\/zb6 x lo hi H Q
theorem zaH:SlR X (zcJ X.K):=sl_list.or yZ
noncomputable def cV:V->Option oP
 | .ty n=>sI (.type n)
 | .ref a=>sI (.ref a)
 | _=>sJ
theorem UP:wL X (.builtin "isinstance") (λxs H Q=>∃x c u t b,xs=[x,c]/\cV c=sI u/\YE X.K H x t/\aQ X.K t u=sI b/\Q (.bl b) H):=by
 intro sM s σ H xs us Q I r h
 obtain⟨x,c,u,t,b,rfl,hc,ty,e,q⟩:=h
 obtain⟨v,w',rfl,rx,rc⟩:=ZO r
 have:w'=u:=by
  cases c with
  | ty n=>cases hc;exact rc
  | ref a=>cases hc;exact rc
  | _=>cases hc
 subst this
 exact Wf I rx ty e λtk=>⟨.bl b,H,I.tok tk,rfl,q⟩
end
end L3
namespace L3
noncomputable def Iel(K:oN)(a:oO):It:=⟨λi H=>∃xs x,SqL K H a xs/\xs[i]? = sI x,λi H v H'=>∃p x,H p=sJ/\(∀xs,SqL K H a xs->xs[i]? = sI x)/\v=.ref p/\H'=upd H p (.tup [.int (i:Nat),x]),λi H=>∃xs,SqL K H a xs/\i=xs.length⟩
theorem XX{P:oU}{w:oW}{K:oN}{elts:List oY}{x1:Nat}{tpos:pW}(e it a:oO)(hei:e≠it) :
  Us P w K (.Tuple elts x1 tpos) (Iel K a) [e,it] e (λi h=>(∃old,IsEnum h e it i old)/\h.IsListIter it a i) where
 mem:=by simp
 obj:=λi h st b hb=>by
  obtain⟨⟨old,he⟩,o,e2,c,d⟩:=st
  rcases sU.mp hb with q | q
  ·subst q
   exact⟨_,he,λv z=>by have z':Data.fields _=Data.cell v:=z;cases z'⟩
  ·have q':b=it:=by simpa using q
   subst q'
   exact⟨o,e2,λv z=>by rw[d] at z;cases z⟩
 keep:=λi h h' st k=>by
  obtain⟨⟨old,he⟩,st⟩:=st
  exact⟨⟨old,k e (by simp) _ he⟩,st.at λo q=>k it (by simp) o q⟩
 item:=by
  intro X hP hw hK hc i sM s σ H E I hf st hg
  subst hP hw hK
  obtain⟨⟨old,he⟩,st⟩:=st
  obtain⟨xs,x,hq,hx⟩:=hg
  obtain⟨its,rv,p,hz⟩:=I.list hq
  obtain⟨u,hu,ru⟩:=rv.get hx
  have hA:X.A.in1.handled=sJ:=I.ok.hd hc
  have pl:=p.isList
  have hai:a≠it:=λz=>by
   subst z
   obtain⟨o1,q1,c1,_⟩:=st
   obtain⟨o2,q2,c2,_⟩:=pl
   rw[q1] at q2;cases q2
   rw[c1] at c2
   exact absurd (Value.type.inj c2) (by decide)
  have hea:e≠a:=λz=>by
   subst z
   obtain⟨o2,q2,c2,_⟩:=pl
   rw[he] at q2;cases q2
   exact absurd (Value.type.inj c2) (by decide)
  refine wpAny_pyNext_enum_itemD (Draws.list (A:=X.A.in1) hA it a hai its.toArray) he ⟨st,pl⟩ (by rw[al];exact (sQ.mp hu).1) hei (by simp [hei,hea]) λv h' tk hv ho st' hT hsz kk=>?_
  have ev:v=u:=by
   have hv':its.toArray[i]? = sI v:=hv
   rw[List.getElem?_toArray,hu] at hv'
   exact (Option.some.inj hv').symm
  subst ev
  refine⟨_,rfl,wpAny_letOwnedTupleGo_enum ho λh2 he2 sb=>?_⟩
  have elt:e<s.heap.objs.size:=aq he
  have ilt:it<s.heap.objs.size:=by obtain⟨o,q,_⟩:=st;exact aq q
  have I1:Inv X sM σ H { s with heap:=h2,toks:=tk+1 }:=Inv.turns (fp:=[e,it]) I (λb o hb q=>by
   have hb':b≠e/\b≠it:=by simpa using hb
   exact (sb.2 b hb'.1).trans (kk b o hb'.1 hb'.2 q)) hf
  have hp:H s.heap.objs.size=sJ:=I.hok.fresh (am _)
  have hT2:h2.get? s.heap.objs.size=sI { cls:=.type "tuple",data:=.seq #[.int (i:Nat) tk,v] }:=(sb.2 _ (bS elt)).trans hT
  have I2:Inv X sM σ (upd H s.heap.objs.size (.tup [.int (i:Nat),x])) { s with heap:=h2,toks:=tk+1 } :=
   Inv.track I1 (I.fpOk (am _) hp) ⟨by show 2<=oM;decide,[.int (i:Nat) tk,v],.cons ⟨_,rfl⟩ (.cons ru .nil),⟨_,hT2,rfl,_,rfl⟩⟩
  refine⟨.ref s.heap.objs.size,_,I2,rfl,⟨s.heap.objs.size,x,hp,λys hy=>by rw[I.list_inj hy hq];exact hx,rfl,rfl⟩,⟨⟨_,by simpa using he2⟩,?_⟩,λb hb=>?_⟩
  ·exact st'.1.at λo q=>(sb.2 it (Ne.symm hei)).trans q
  ·rw[zo]
   ·exact (hf b hb).1
   ·rcases sU.mp hb with q | q
    ·rw[q];exact aw elt
    ·have q':b=it:=by simpa using q
     rw[q'];exact aw ilt
 done:=by
  intro X hP hw hK hc i sM s σ H E I hf st hg
  subst hP hw hK
  obtain⟨⟨old,he⟩,st⟩:=st
  obtain⟨xs,hq,hi⟩:=hg
  obtain⟨its,rv,p,hz⟩:=I.list hq
  have pl:=p.isList
  have hai:a≠it:=λz=>by
   subst z
   obtain⟨o1,q1,c1,_⟩:=st
   obtain⟨o2,q2,c2,_⟩:=pl
   rw[q1] at q2;cases q2
   rw[c1] at c2
   exact absurd (Value.type.inj c2) (by decide)
  have hA:X.A.in1.handled=sJ:=I.ok.hd hc
  have hi':i=its.toArray.size:=by rw[al,<- rv.length];exact hi
  subst hi'
  refine wpAny_pyNext_enum_endD (Draws.list (A:=X.A.in1) hA it a hai its.toArray) he ⟨st,pl⟩ λh' hx=>⟨rfl,?_⟩
  exact Inv.turns (fp:=[e,it]) (t':=s.toks) I (λb o hb q=>hx b o (λz=>hb (by simp [z])) q) hf
 self:=λA i s Q E st h=>by
  obtain⟨⟨old,he⟩,_⟩:=st
  exact sk he h
section
variable{X:Cx}
def VL(K:oN)(ta:TA):TI:=λσ H R=>ta σ H λvs H1=>∃a,vs=[.ref a]/\(∃xs,SqL K H1 a xs)/\R (Iel K a) H1
theorem xA{a:oY}{ta:TA}{p pos tpos:pW}{elts:List oY}{x1:Nat}(hg:Gl X "enumerate")(hm:X.mg "enumerate" = sJ)(ha:PA X [a] ta)(hs:oK [a] X.env=[(sL,eval a X.env)]:=by rfl) :
  PI X (.Tuple elts x1 tpos) (.Call (.Name "enumerate" p) [a] [] pos) (VL X.K ta):=by
 intro sM s σ H R I h
 refine Call_ (vc I hg hm PyProof.Rows.boot_enumerate (bE (thn (ha pos sM s σ H _ I h) λus s1 ⟨vs,H1,I1,r1,q1⟩=>?_) hs rfl))
 obtain⟨l,e,⟨xs,hq⟩,q⟩:=q1
 subst e
 obtain⟨u,rfl,ru⟩:=wI r1
 cases ru
 obtain⟨its,rv,pl,hz⟩:=I1.list hq
 refine call_enumerate_list pl.isList λh' he hit hsz kk=>?_
 have I2:Inv X sM σ H1 { s1 with heap:=h' }:=I1.kept (t':=s1.toks) kk
 refine sk (s:={ s1 with heap:=h' }) (i:=0) he ?_
 refine⟨s1.heap.objs.size+1,[s1.heap.objs.size+1,s1.heap.objs.size],_,_,H1,rfl,I2,XX _ _ l (Nat.succ_ne_self _),⟨⟨_,he⟩,hit⟩,λb hb=>?_,q⟩
 have hb':s1.heap.objs.size<=b:=by
  rcases sU.mp hb with e | e
  ·rw[e];exact cP _
  ·have:b=s1.heap.objs.size:=by simpa using e
   rw[this];exact am _
 exact I1.fpOk hb' (I1.hok.fresh hb')
end
def ForEL(K:oN)(a:oO)(g:TG)(tb:TS)(D:vg)(σ:St)(H:Hp):Prop:=∃W:Nat->Nat->St->Hp->Prop,(∃m,W 0 m σ H)/\∀i m σ H,W i m σ H ->
 ((Iel K a).stop i H/\D.nx σ H)\/((Iel K a).go i H/\∃N:St->Hp->Prop,(∀σ' H',N σ' H'->∃m',m'<m/\W (i+1) m' σ' H')/\∀x H',(Iel K a).yld i H x H'->g x σ H' λσ2 H2=>tb { D with nx:=N,ct:=N,bk:=D.nx } σ2 H2)
theorem zcy{K:oN}{ta:TA}{g:TG}{tb:TS}{D:vg}{σ:St}{H:Hp}:Qt (VL K ta) g tb D σ H=ta σ H λvs H1=>∃a,vs=[.ref a]/\(∃xs,SqL K H1 a xs)/\ForEL K a g tb D σ H1:=rfl
theorem ForEL.by{K:oN}{a:oO}{xs:List V}{g:TG}{tb:TS}{D:vg}{σ:St}{H:Hp}(Pv:Nat->St->Hp->Prop)(h0:Pv 0 σ H)(hl:∀i σ H,i<=xs.length->Pv i σ H->SqL K H a xs)
  (hs:∀i x σ H p,xs[i]? = sI x->Pv i σ H->H p=sJ->g (.ref p) σ (upd H p (.tup [.int (i:Nat),x])) λσ2 H2=>tb { D with nx:=Pv (i+1),ct:=Pv (i+1),bk:=D.nx } σ2 H2) (hd:∀σ H,Pv xs.length σ H->D.nx σ H):ForEL K a g tb D σ H:=by
 refine⟨λi m σ H=>m=xs.length - i/\i<=xs.length/\Pv i σ H,⟨xs.length,by simp,aI _,h0⟩,?_⟩
 rintro i m σ H ⟨rfl,hi,p⟩
 have q:=hl i σ H hi p
 by_cases hlt:i<xs.length
 ·refine .inr ⟨⟨xs,xs[i],q,by simp [hlt]⟩,Pv (i+1),λσ' H' p'=>⟨xs.length - (i+1),by lia,rfl,hlt,p'⟩,λv H' y=>?_⟩
  obtain⟨p',x,hp,hx,ev,eH⟩:=y
  subst ev eH
  exact hs i x σ H p' (hx xs q) p hp
 ·have e:i=xs.length:=by lia
  subst e
  exact .inl ⟨⟨xs,q,rfl⟩,hd σ H p⟩
def zdg(K:oN)(a:oO)(g:TG)(tb:TS)(D:vg)(σ:St)(H:Hp):Prop:=∃W:Nat->Nat->St->Hp->Prop,(∃m,W 0 m σ H)/\∀i m σ H,W i m σ H ->
 ((Itt K a).stop i H/\D.nx σ H)\/((Itt K a).go i H/\∃N:St->Hp->Prop,(∀σ' H',N σ' H'->∃m',m'<m/\W (i+1) m' σ' H')/\∀x H',(Itt K a).yld i H x H'->g x σ H' λσ2 H2=>tb { D with nx:=N,ct:=N,bk:=D.nx } σ2 H2)
theorem zdB{K:oN}{tl:TE}{g:TG}{tb:TS}{D:vg}{σ:St}{H:Hp}:Qt (zb1 K tl) g tb D σ H=tl σ H λx H1=>∃a,x=.ref a/\(∃xs,SqT K H1 a xs)/\zdg K a g tb D σ H1:=rfl
def tTr(K:oN)(ta:TE):TT:=λσ H Q=>ta σ H λx H'=>∃k,zac K x H' k/\Q k H'
theorem zbO{K:oN}{ta:TE}{σ:L2.St}{H:Hp}{Q:Bool->Hp->Prop}:tTr K ta σ H Q=ta σ H λx H'=>∃k,zac K x H' k/\Q k H':=rfl
def tBl(ta:TE):TT:=λσ H Q=>ta σ H λx H'=>∃k,x=.bl k/\Q k H'
theorem zbM{ta:TE}{σ:L2.St}{H:Hp}{Q:Bool->Hp->Prop}:tBl ta σ H Q=ta σ H λx H'=>∃k,x=.bl k/\Q k H':=rfl
section
variable{X:Cx}{a:oY}{ta:TE}
theorem yL(ha:PE X a ta)(he:∀whole,isTrue a X.env whole=(do let v <- whole;standAt a.pos;holding [v] (truthy v))):PT X a (tBl ta):=by
 intro sM s σ H Q I h
 refine isTrue_plain (thn (ha sM s σ H _ I h) λv s1 ⟨x,H1,I1,r1,k,e,q1⟩=>?_) (he _)
 subst e
 exact Jn sM s1 σ H1 (.bl k) v Q I1 r1 ⟨k,rfl,q1⟩
end
end L3
namespace L3
noncomputable def Irv(K:oN)(a:oO)(n:Nat):It:=⟨λi H=>∃xs,SqL K H a xs/\xs.length=n/\i<n,λi H v H'=>H'=H/\∀xs,SqL K H a xs->xs.length=n->xs[n - 1 - i]? = sI v,λi H=>i=n⟩
theorem U2{P:oU}{w:oW}{K:oN}{tg:oY}(a it:oO)(n:Nat):Us P w K tg (Irv K a n) [it] it (λi h=>i<=n/\h.IsRevIter it a ((n:Int) - 1 - (i:Int))) where
 mem:=by simp
 obj:=λi h st b hb=>by
  have e:b=it:=by simpa using hb
  subst e
  obtain⟨_,o,e,c,d⟩:=st
  exact⟨o,e,λv z=>by rw[d] at z;cases z⟩
 keep:=λi h h' st k=>⟨st.1,st.2.at λo e=>k it (by simp) o e⟩
 item:=by
  intro X hP hw hK hc i sM s σ H E I hf st hg
  subst hP hw hK
  obtain⟨xs,hq,hn,hi⟩:=hg
  obtain⟨its,rv,p,hz⟩:=I.list hq
  obtain⟨f0,f1,f2,f3,f4,f5⟩:=hf it (by simp)
  have hx:xs[n - 1 - i]? = sI (xs[n - 1 - i]'(by lia)):=aj (by lia)
  generalize xs[n - 1 - i]'(by lia)=x at hx
  obtain⟨u,hu,ru⟩:=rv.get hx
  have st2:=st.2
  have e:(n:Int) - 1 - (i:Int)=((n - 1 - i:Nat):Int):=by lia
  rw[e] at st2
  refine wpAny_pyNext_rev_item st2 p.isList (x:=u) (by simpa using hu) λh' st' sb=>?_
  have I1:Inv X sM σ H { s with heap:=h' }:=I.turned (t':=s.toks) (λb o hb e=>(sb.2 b hb).trans e) f0 f1 f3 f4 f5
  have e2:((n - 1 - i:Nat):Int) - 1=(n:Int) - 1 - ((i+1:Nat):Int):=by lia
  rw[e2] at st'
  obtain⟨o,e,c,d⟩:=id st'
  exact⟨u,rfl,V4 (s:={ s with heap:=h' }) e c d (by decide) ⟨x,H,I1,ru,⟨rfl,λys hy _=>by rw[I.list_inj hy hq];exact hx⟩,⟨hi,st'⟩,λb hb=>(hf b hb).1⟩⟩
 done:=by
  intro X hP hw hK hc i sM s σ H E I hf st hg
  subst hP hw hK
  obtain⟨f0,f1,f2,f3,f4,f5⟩:=hf it (by simp)
  have hi:i=n:=hg
  have st2:=st.2
  rw[hi,show (n:Int) - 1 - (n:Int)=-1 by lia] at st2
  exact wpAny_pyNext_rev_end (I.ok.hd hc) st2 λh' eb=>⟨rfl,I.turned (t':=s.toks) (λb o hb e=>eb b o hb e) f0 f1 f3 f4 f5⟩
 self:=λ_ _ _ _ _ st h=>rR st.2 h
theorem UT:pF "reversed" = sI (.type "reversed"):=PyProof.Rows.boot_reversed
section
variable{X:Cx}{tg:oY}
def zc6(K:oN)(ta:TA):TI:=λσ H R=>ta σ H λvs H1=>∃a xs,vs=[.ref a]/\SqL K H1 a xs/\R (Irv K a xs.length) H1
theorem Ja{a:oY}{ta:TA}{p pos:pW}(hg:Gl X "reversed")(hm:X.mg "reversed" = sJ)(ha:PA X [a] ta)(hs:oK [a] X.env=[(sL,eval a X.env)]:=by rfl) :
  PI X tg (.Call (.Name "reversed" p) [a] [] pos) (zc6 X.K ta):=by
 intro sM s σ H R I h
 refine Call_ (vc I hg hm UT (bE (thn (ha pos sM s σ H _ I h) λus s1 ⟨vs,H1,I1,r1,q1⟩=>?_) hs rfl))
 obtain⟨l,xs,e,hq,q⟩:=q1
 subst e
 obtain⟨u,rfl,ru⟩:=wI r1
 cases ru
 obtain⟨its,rv,pl,hz⟩:=I1.list hq
 have hn:its.toArray.size=xs.length:=by rw[al,<- rv.length]
 refine call_reversed_list pl.isList ?_
 have hit:(s1.heap.push (revObj l ((its.toArray.size:Int) - 1))).IsRevIter s1.heap.objs.size l ((xs.length:Int) - 1 - ((0:Nat):Int)):=by
  refine⟨_,aD _ rfl,rfl,?_⟩
  rw[hn,show (xs.length:Int) - 1 - ((0:Nat):Int)=(xs.length:Int) - 1 by lia]
  rfl
 refine rR (s:={ s1 with heap:=s1.heap.push (revObj l ((its.toArray.size:Int) - 1)) }) hit ?_
 refine⟨s1.heap.objs.size,[s1.heap.objs.size],_,_,H1,rfl,I1.kept (t':=s1.toks) λb o e=>aa _ e,U2 l _ xs.length,⟨aI _,hit⟩,λb hb=>?_,q⟩
 have e:b=s1.heap.objs.size:=by simpa using hb
 subst e
 exact I1.fpOk (am _) (I1.hok.fresh (am _))
end
section
variable{prog:oU}{w:oW}{A:oX}{E:oP->oQ->Prop}{s:oQ}
end
section
variable{X:Cx}
def zcD(K:oN)(ta:TA):TE:=λσ H Q=>ta σ H λvs H1=>∃a xs,vs=[.ref a]/\SqL K H1 a xs/\∀l,H1 l=sJ->Q (.ref l) (upd H1 l (.lst xs.reverse))
theorem Km{K:oN}{ta:TA}{σ:L2.St}{H:Hp}{Q:VK}:zcD K ta σ H Q=ta σ H λvs H1=>∃a xs,vs=[.ref a]/\SqL K H1 a xs/\∀l,H1 l=sJ->Q (.ref l) (upd H1 l (.lst xs.reverse)):=rfl
end
noncomputable def Izp(K:oN)(a b:oO):It:=⟨λi H=>∃xs ys x y,SqL K H a xs/\SqL K H b ys/\xs[i]? = sI x/\ys[i]? = sI y,λi H v H'=>∃p x y,H p=sJ/\(∀xs,SqL K H a xs->xs[i]? = sI x)/\(∀ys,SqL K H b ys->ys[i]? = sI y)/\v=.ref p/\H'=upd H p (.tup [x,y]),λi H=>∃xs ys,SqL K H a xs/\SqL K H b ys/\(xs.length=i\/ys.length=i)/\i<=xs.length/\i<=ys.length⟩
theorem wJ{h:oZ}{a b:oO}{o1 o2:pE}{t u:String}(h1:h.get? a=sI o1)(c1:o1.cls=.type t)(h2:h.get? b=sI o2)(c2:o2.cls=.type u)(hne:t≠u):a≠b:=λz=>by
 rw[z,h2] at h1
 cases h1
 rw[c2] at c1
 exact hne (Value.type.inj c1).symm
structure Q1(z TI TO i1 i2:oO):Prop where
 TIz:TI≠z
 TOz:TO≠z
 i1z:i1≠z
 i2z:i2≠z
 TITO:TI≠TO
 TIi1:TI≠i1
 TIi2:TI≠i2
 TOi1:TO≠i1
 TOi2:TO≠i2
 i12:i1≠i2
def ZipAt(z TI TO i1 i2 l1 l2:oO)(i:Nat)(h:oZ):Prop:=rE h z TI TO .none/\pR h TI (.ref i1) (.ref i2)/\(∃a b,pR h TO a b)/\h.IsListIter i1 l1 i/\h.IsListIter i2 l2 i
theorem ZipAt.apart{z TI TO i1 i2 l1 l2:oO}{i:Nat}{h:oZ}{xs ys:Array oP}(D:Q1 z TI TO i1 i2)(st:ZipAt z TI TO i1 i2 l1 l2 i h)(h1:h.IsList l1 xs)(h2:h.IsList l2 ys):ZipApart z TI TO i1 i2 l1 l2:=by
 obtain⟨hz,hTI,⟨a,b,hTO⟩,⟨o1,e1,c1,_⟩,⟨o2,e2,c2,_⟩⟩:=st
 obtain⟨p1,q1,k1,_⟩:=h1
 obtain⟨p2,q2,k2,_⟩:=h2
 exact⟨D.TIz,D.TOz,D.i1z,D.i2z,D.TITO,D.TIi1,D.TIi2,D.TOi1,D.TOi2,D.i12,wJ q1 k1 hz rfl (by decide),wJ q1 k1 hTO rfl (by decide),wJ q1 k1 e1 c1 (by decide),wJ q1 k1 e2 c2 (by decide),wJ q2 k2 hz rfl (by decide),wJ q2 k2 hTO rfl (by decide),wJ q2 k2 e1 c1 (by decide),wJ q2 k2 e2 c2 (by decide)⟩
section
variable{X:Cx}
def zdG(K:oN)(ta:TA):TI:=λσ H R=>ta σ H λvs H1=>∃a b,vs=[.ref a,.ref b]/\(∃xs,SqL K H1 a xs)/\(∃ys,SqL K H1 b ys)/\R (Izp K a b) H1
end
def zdc(K:oN)(a b:oO)(g:TG)(tb:TS)(D:vg)(σ:L2.St)(H:Hp):Prop:=∃W:Nat->Nat->L2.St->Hp->Prop,(∃m,W 0 m σ H)/\∀i m σ H,W i m σ H ->
 ((Izp K a b).stop i H/\D.nx σ H)\/((Izp K a b).go i H/\∃N:L2.St->Hp->Prop,(∀σ' H',N σ' H'->∃m',m'<m/\W (i+1) m' σ' H')/\∀x H',(Izp K a b).yld i H x H'->g x σ H' λσ2 H2=>tb { D with nx:=N,ct:=N,bk:=D.nx } σ2 H2)
theorem zde{K:oN}{ta:TA}{g:TG}{tb:TS}{D:vg}{σ:L2.St}{H:Hp}:Qt (zdG K ta) g tb D σ H=ta σ H λvs H1=>∃a b,vs=[.ref a,.ref b]/\(∃xs,SqL K H1 a xs)/\(∃ys,SqL K H1 b ys)/\zdc K a b g tb D σ H1:=rfl
end L3
namespace L3
noncomputable abbrev xob(C:oO)(dx:Option oO)(t:oO)(tb:oP):pE:={ cls:=.ref C,dict:=dx,data:=.fields #[.ref t,tb,.none,.none,.bool sL,.none] }
noncomputable abbrev xog(C:oO)(dx:Option oO)(t:oO)(tb c:oP)(k:Bool):pE:={ cls:=.ref C,dict:=dx,data:=.fields #[.ref t,tb,c,.none,.bool k,.none] }
def Jx(h:oZ)(x:oO)(tb:oP):Prop:=tb=.none\/∃T oT ts,tb=.ref T/\T≠x/\h.get? T=sI oT/\oT.data=.fields ts/\3<ts.size
section
variable{M:sj}{A:oX}{E:oP->oQ->Prop}{s:oQ}{base:oZ}{env env0:rP}{outer:List rP}{L x t C:oO}{dx:Option oO}{cx:oP}{kx:Bool}
theorem k9(h:env.frame=env0.frame):d7 env=d7 env0:=by unfold d7;rw[h]
theorem jF{tb head:oP}{hadNext:Bool}{Q:Unit->oQ->Prop}(hfr:A.frames=sI (env0::outer))(hl:s.heap.FunFrames base (env0::outer))(hf:env0.frame=sI L)(he:env.frame=sI L)
  (hx:s.heap.get? x=sI (xog C dx t tb cx kx))
  (h:∀h' oT ts,h'.get? x=sI (xog C dx t (.ref s.heap.objs.size) cx kx)->s.heap.objs.size≠x->h'.get? s.heap.objs.size=sI oT->oT.data=.fields ts->3<ts.size ->
   (∀b o,b≠x->b ∉ frs (env0::outer)->s.heap.get? b=sI o->h'.get? b=sI o)->(∀b o,b≠x->s.heap.get? b=sI o->∃sl,h'.get? b=sI { o with slots:=sl })->Q () { s with heap:=h' }) :
  oR M A (do let a <- d7 env;let pl <- entryPlaceOf L hadNext;let b <- EntryCells.newEntry head a .none (rawInt L) .none pl;setField (.ref x) 1 b) Q E s:=by
 have hxf:x ∉ frs (env0::outer):=λhm=>by
  obtain⟨_,o,ho,hnf⟩:=hl.mem hm
  rw[hx] at ho
  cases ho
  exact hnf _ rfl
 rw[k9 (he.trans hf.symm)]
 refine oG (wpAny_frameOf_fun hfr hl hf λh1 hs1=>oG (wpAny_entryPlaceOf λpl hpl=>?_))
 unfold EntryCells.newEntry newFields
 refine oG (ra ?_ (hpl.sizeOk5 _ _ _ _ _))
 have hz:h1.objs.size=s.heap.objs.size:=hs1.1
 have hx1:h1.get? x=sI (xog C dx t tb cx kx):=(hs1.2.1 x hxf).trans hx
 generalize ho:({ cls:=.type "traceback",dict:=sJ,data:=.fields ([head,.ref L,.none,rawInt L,.none] ++ (if pl.isEmpty then aU 6 Value.none else pl)).toArray }:pE)=ob
 have hx2:(h1.push ob).get? x=sI (xog C dx t tb cx kx):=aa _ hx1
 refine pP hx2 rfl (by show 1<6;decide) ?_
 have hne:h1.objs.size≠x:=bS (aq hx1)
 have hx3:((h1.push ob).update x (Obj.mapFields (·.setIfInBounds 1 (Value.ref h1.objs.size)))).get? x=sI (xog C dx t (.ref h1.objs.size) cx kx) :=
  cb (Obj.mapFields (·.setIfInBounds 1 (Value.ref h1.objs.size))) hx2 rfl
 have hT:((h1.push ob).update x (Obj.mapFields (·.setIfInBounds 1 (Value.ref h1.objs.size)))).get? h1.objs.size=sI ob :=
  (aE _ _ (Ne.symm hne)).trans (aD h1 (by rw[<- ho];rfl))
 rw[hz] at hx3 hT hne
 have kp:∀b o,b≠x->h1.get? b=sI o->((h1.push ob).update x (Obj.mapFields (·.setIfInBounds 1 (Value.ref h1.objs.size)))).get? b=sI o:=λb o hb e =>
  (aE _ _ (Ne.symm hb)).trans (aa _ e)
 rw[hz] at kp ⊢
 refine h _ ob _ hx3 hne hT (by rw[<- ho]) (by simp only[al,ak,aN,cK] <;> lia) (λb o hb hbf e=>kp b o hb ((hs1.2.1 b hbf).trans e)) λb o hb e=>?_
 obtain⟨sl,q⟩:=hs1.2.2 b o e
 exact⟨sl,kp b _ hb q⟩
theorem uK{tb:oP}{Q:Unit->oQ->Prop}(hfr:A.frames=sI (env0::outer))(hl:s.heap.FunFrames base (env0::outer))(hf:env0.frame=sI L)(he:env.frame=sI L)
  (hx:s.heap.get? x=sI (xog C dx t tb cx kx)) (htb:Jx s.heap x tb)
  (h:∀h' T oT ts,h'.get? x=sI (xog C dx t (.ref T) cx kx)->T≠x->(tb=.ref T\/s.heap.objs.size<=T)->h'.get? T=sI oT->oT.data=.fields ts->3<ts.size ->
   (∀b o,b≠x->tb≠.ref b->b ∉ frs (env0::outer)->s.heap.get? b=sI o->h'.get? b=sI o)->(∀b o,b≠x->tb≠.ref b->s.heap.get? b=sI o->∃sl,h'.get? b=sI { o with slots:=sl })->Q () { s with heap:=h' }) :
  oR M A (noteFrame (.ref x) env) (λ_ s1=>oR M A (setFlight (.ref x) sJ) Q E s1) E s:=by
 have land:∀(h1:oZ) (T:oO) (oT:pE) (ts:Array oP),h1.get? x=sI (xog C dx t (.ref T) cx kx)->T≠x->(tb=.ref T\/s.heap.objs.size<=T)->h1.get? T=sI oT->oT.data=.fields ts->3<ts.size ->
   (∀b o,b≠x->tb≠.ref b->b ∉ frs (env0::outer)->s.heap.get? b=sI o->h1.get? b=sI o)->(∀b o,b≠x->tb≠.ref b->s.heap.get? b=sI o->∃sl,h1.get? b=sI { o with slots:=sl }) ->
   oR M A (setFlight (.ref x) sJ) Q E { s with heap:=h1 }:=λh1 T oT ts e1 nT oldT e2 d2 z2 k1 k2=>by
  unfold setFlight
  refine oG (pf (s:={ s with heap:=h1 }) e1 rfl (x:=.ref T) rfl ?_)
  rw[if_pos (show (Value.ref T != Value.none)=sK from by simp)]
  refine pP (s:={ s with heap:=h1 }) e2 d2 z2 ?_
  have d3:=Obj.data_mapFields d2 (·.setIfInBounds 3 ((sJ:Option oO).elim Value.none λf=>rawInt f))
  have nb:∀b,b≠x->tb≠.ref b->(∃o,s.heap.get? b=sI o)->b≠T:=λb hb hbt ⟨o,eo⟩ z=>by
   subst z
   rcases oldT with q | q
   ·exact hbt q
   ·exact absurd (aq eo) (Nat.not_lt.mpr q)
  refine h _ T _ _ ((aE _ _ nT).trans e1) nT oldT (cb _ e2 (Obj.isFreed_of_fields d3)) d3 (by simpa using z2) (λb o hb hbt hbf e=>?_) λb o hb hbt e=>?_
  ·exact (aE _ _ (Ne.symm (nb b hb hbt ⟨o,e⟩))).trans (k1 b o hb hbt hbf e)
  ·obtain⟨sl,q⟩:=k2 b o hb hbt e
   exact⟨sl,(aE _ _ (Ne.symm (nb b hb hbt ⟨o,e⟩))).trans q⟩
 unfold noteFrame
 simp only[he]
 refine oG (pf hx rfl (x:=tb) rfl ?_)
 rcases htb with rfl | ⟨T,oT,ts,rfl,nT,e2,d2,z2⟩
 ·rw[if_neg (by decide)]
  refine jF hfr hl hf he hx λh' oT ts e1 ne e2 d2 z2 k1 k2=>land h' _ oT ts e1 ne (.inr (am _)) e2 d2 z2 (λb o hb _ hbf e=>k1 b o hb hbf e) λb o hb _ e=>k2 b o hb e
 ·rw[if_pos (show (Value.ref T != Value.none)=sK from by simp)]
  obtain⟨y,hy⟩:∃y,ts[3]? = sI y:=⟨ts[3],by simp [z2]⟩
  refine oG (pf e2 d2 (x:=y) hy ?_)
  by_cases c:(y == rawInt L)=sK
  ·rw[if_pos c]
   exact oH (land s.heap T oT ts hx nT (.inl rfl) e2 d2 z2 (λb o _ _ _ e=>e) λb o _ _ e=>⟨o.slots,e⟩)
  ·rw[if_neg c]
   refine oG (pP e2 d2 z2 ?_)
   have oth:∀b,b≠T->(s.heap.update T (Obj.mapFields (·.setIfInBounds 3 Value.none))).get? b=s.heap.get? b:=λb hb=>aE _ _ (Ne.symm hb)
   have hl1:(s.heap.update T (Obj.mapFields (·.setIfInBounds 3 Value.none))).FunFrames base (env0::outer):=hl.of_keeps λb o hb hnf=>⟨o,(oth b λq=>by rw[q,e2] at hb;cases hb;exact hnf ts d2).trans hb,rfl⟩
   have hsz:(s.heap.update T (Obj.mapFields (·.setIfInBounds 3 Value.none))).objs.size=s.heap.objs.size:=dH ..
   refine jF (s:={ s with heap:=s.heap.update T (Obj.mapFields (·.setIfInBounds 3 Value.none)) }) hfr hl1 hf he ((oth x (Ne.symm nT)).trans hx) λh' oT' ts' e1 ne e2' d2' z2' k1 k2=>?_
   refine land h' _ oT' ts' e1 ne (.inr (by rw[hsz];exact am _)) e2' d2' z2' (λb o hb hbt hbf e=>k1 b o hb hbf ((oth b λq=>hbt (by rw[q])).trans e)) λb o hb hbt e=>k2 b o hb ((oth b λq=>hbt (by rw[q])).trans e)
theorem KC{tb:oP}{Q:Unit->oQ->Prop}(hfr:A.frames=sI (env0::outer))(hl:s.heap.FunFrames base (env0::outer))(hf:env0.frame=sI L)(he:env.frame=sI L)
  (hx:s.heap.get? x=sI (xog C dx t tb cx kx)) (htb:Jx s.heap x tb)
  (h:∀h' T oT ts,h'.get? x=sI (xog C dx t (.ref T) cx kx)->T≠x->(tb=.ref T\/s.heap.objs.size<=T)->h'.get? T=sI oT->oT.data=.fields ts->3<ts.size ->
   (∀b o,b≠x->tb≠.ref b->b ∉ frs (env0::outer)->s.heap.get? b=sI o->h'.get? b=sI o)->(∀b o,b≠x->tb≠.ref b->s.heap.get? b=sI o->∃sl,h'.get? b=sI { o with slots:=sl })->Q () { s with heap:=h' }) :
  oR M A (leaving env (.ref x)) Q E s:=oG (uK hfr hl hf he hx htb h)
end
def CXx(P:oU)(w:oW):CXT:=λouter H s E e s'=>∃(x C t:oO) (dx:Option oO) (tb:oP) (H':Hp),e=.ref x/\s'.os=s.os/\rA s'.gens/\Un (frs outer) [] H H' s.heap s'.heap/\HOk P w H' s'.heap /\
 s'.heap.get? x=sI (xob C dx t tb)/\Jx s'.heap x tb/\H' x=sJ/\s.heap.objs.size<=x/\(∀T,tb=.ref T->H' T=sJ/\s.heap.objs.size<=T)/\E (.ref C) dx H'
def zaB(X:Cx)(E:XK)(e:oP)(s:oQ):Prop:=∃(sM:List (oO × pE)) (σ:St) (H:Hp) (x C t:oO) (dx:Option oO) (tb:oP),e=.ref x/\Inv X sM σ H s /\
 s.heap.get? x=sI (xob C dx t tb)/\Jx s.heap x tb/\xp X sM H x/\(∀T,tb=.ref T->xp X sM H T)/\E (.ref C) dx H
def XE(X:Cx)(E:XK):Prop:=∀e s,zaB X E e s->X.xe e s
theorem Xl{X:Cx}{E:XK}(hx:XE X E):uz (CXx X.prog X.w) X E:=by
 intro sM σ H s e s' I h
 obtain⟨x,C,t,dx,tb,H',rfl,os,bare,un,hok,ob,tr,hn,hsz,hT,q⟩:=h
 have I':Inv X sM σ H' s':=I.call' os un hok bare λb z=>absurd z (by simp)
 exact hx _ _ ⟨sM,σ,H',x,C,t,dx,tb,rfl,I',ob,tr,I.fpOk hsz hn,λT e=>I.fpOk (hT T e).2 (hT T e).1,q⟩
theorem zan{P:oU}{w:oW}{K:oN}{mg:oV->Option oP}{base:oZ}{N:List oV}{qual:oV}{scope:pQ}{f:oO}{cd:oP}{A:oX}{outer:List rP}{s:oQ}{H:Hp}{E:XK} :
  XE (uL (CXx P w) P w K mg base N qual scope f cd A outer s H E) E:=by
 intro e s1 h
 obtain⟨sM,σ,H1,x,C,t,dx,tb,rfl,I,ob,tr,fx,fT,q⟩:=h
 show oR _ _ (leaving _ (.ref x)) _ _ s1
 have ff:=I.stack
 refine KC (A:=(uL (CXx P w) P w K mg base N qual scope f cd A outer s H E).A) (env0:=rz qual scope s.heap.objs.size f cd) (outer:=outer) I.ok.frames ff rfl rfl ob tr λh' T oT ts e1 nT oldT e2 d2 z2 k1 k2=>?_
 have szs:s.heap.objs.size<=s1.heap.objs.size:=I.sz
 have hxs:s.heap.objs.size<=x:=by
  rcases fx.2.2.2.1 with z | z
  ·exact absurd z (by simp [uL])
  ·exact z
 have hTs:s.heap.objs.size<=T/\H1 T=sJ:=by
  rcases oldT with z | z
  ·obtain⟨a0,_,_,a3,_⟩:=fT T z
   rcases a3 with y | y
   ·exact absurd y (by simp [uL])
   ·exact⟨y,a0⟩
  ·exact⟨aJ szs z,I.hok.fresh z⟩
 have tbs:∀b,tb=.ref b->s.heap.objs.size<=b/\H1 b=sJ:=λb hb=>by
  obtain⟨a0,_,_,a3,_⟩:=fT b hb
  rcases a3 with y | y
  ·exact absurd y (by simp [uL])
  ·exact⟨y,a0⟩
 have old:∀b o,s.heap.get? b=sI o->b≠x/\tb≠.ref b:=λb o e=>by
  have hb:=aq e
  refine⟨aw (av hb hxs),λz=>?_⟩
  exact absurd (av hb (tbs b z).1) (cI _)
 have un:Un (frs outer) [] H H1 s.heap h':=by
  have B:=I.base
  refine⟨λb o e n hb _=>?_,λb o e n hb _=>?_,λb o e n _=>B.free b o e n (by simp [uL]),λb o e _=>?_,B.tups,B.frzs,B.tbls⟩
  ·have e1:=B.keep b o e n hb (by simp [uL])
   refine k1 b o (old b o e).1 (old b o e).2 (λz=>?_) e1
   have z':=I.stkSub b z
   rcases sU.mp z' with q | q
   ·exact absurd q (aw (av (aq e) I.ok.above))
   ·exact hb q
  ·obtain⟨sl,e1⟩:=B.slot b o e n hb (by simp [uL])
   obtain⟨sl',e2⟩:=k2 b _ (old b o e).1 (old b o e).2 e1
   exact⟨sl',e2⟩
  ·obtain⟨o',e1⟩:=B.there b o e (by simp [uL])
   obtain⟨sl',e2⟩:=k2 b _ (old b o e).1 (old b o e).2 e1
   exact⟨_,e2⟩
 have hok:HOk P w H1 h':=λb u e=>by
  refine (I.hok b u e).stay (λc v hc q=>k1 c v ?_ ?_ ?_ q) (λ_ q=>q) λ_ _ q=>q
  ·rintro rfl
   rcases hc with rfl | hc
   ·rw[fx.1] at e;cases e
   ·rw[fx.1] at hc;cases hc
  ·intro z
   have:=(tbs c z).2
   rcases hc with rfl | hc
   ·rw[this] at e;cases e
   ·rw[this] at hc;cases hc
  ·intro z
   have:=I.stkFree c z
   rcases hc with rfl | hc
   ·rw[this] at e;cases e
   ·rw[this] at hc;cases hc
 exact⟨x,C,t,dx,.ref T,H1,rfl,I.os,I.bare,un,hok,e1,.inr ⟨T,oT,ts,rfl,nT,e2,d2,z2⟩,fx.1,hxs,λT' z=>by cases z;exact⟨hTs.2,hTs.1⟩,q⟩
theorem Fun.okX{P:oU}{w:oW}{K:oN}{mg:oV->Option oP}{base:oZ}{x qual:oV}{st:pb}{f:oO}{fd:oS}{N ps:List oV}{k:Nat}{sp:Sp}(F:Fun K x qual st f fd)(S:zp N ps (zh st))(len:∀vs H Q E,sp vs H Q E->vs.length=ps.length)
  (hbody:∀(cdv:oP) (A:oX) (outer:List rP) (s:oQ) (H:Hp) (vs:List V) (Q:VK) (E:XK),Room k (A.deeper (rz qual (zh st) s.heap.objs.size f cdv))->XE (uL (CXx P w) P w K mg base N qual (zh st) f cdv A outer s H E) E->sp vs H Q E ->
   ∃t,PSs (uL (CXx P w) P w K mg base N qual (zh st) f cdv A outer s H E) (z9 st) t/\t { nx:=λ_ H'=>Q .non H',rt:=Q } (start N vs) H):z8 P w K mg base (CXx P w) (k+1) f fd ps sp:=by
 obtain⟨oc,od,kV,doc,pm,an,cdv,ct,osl,rfl,lk,hcd⟩:=F.ex
 exact QJ lk hcd S len λA outer s H vs Q E hr hsp=>hbody cdv A outer s H vs Q E hr zan hsp
def za2(X:Cx)(E:XK)(e:oP)(s:oQ):Prop:=∃(cx:oP) (kx:Bool) (sM:List (oO × pE)) (σ:St) (H:Hp) (x C t:oO) (dx:Option oO) (tb:oP),e=.ref x/\Inv X sM σ H s /\
 s.heap.get? x=sI (xog C dx t tb cx kx)/\Jx s.heap x tb/\xp X sM H x/\(∀T,tb=.ref T->xp X sM H T)/\E (.ref C) dx H
def XEg(X:Cx)(E:XK):Prop:=∀e s,za2 X E e s->X.xe e s
end L3
namespace L3
structure RoomH(k:Nat)(A:oX):Prop where
 dp:A.depth+3 * k+5<rT
 un:A.units+16 * k+200<cLine
theorem RoomH.mark{k:Nat}{A:oX}(r:RoomH k A)(e:Option oP):RoomH k (A.mark e):=⟨r.dp,r.un⟩
noncomputable def cxH(P:oU)(w:oW)(K:oN)(mg:oV->Option oP)(base:oZ)(N:List oV)(qual:oV)(scope:pQ)(f:oO)(cd:oP)(A:oX)(outer:List rP)(s:oQ)(H:Hp):Cx :=
 { uL CX0 P w K mg base N qual scope f cd A outer s H E0 with calm:=sL,xe:=λ_ _=>False }
section
variable{X:Cx}{k:Nat}{f:oO}{fd:oS}{ps:List oV}{sp:Sp}{x:oV}{p pos:pW}{e:oY}{es:List oY}{t:TA}
end
end L3
namespace L3
noncomputable abbrev bmV:List oP:=[.type "ValueError",.type "Exception",.type "BaseException",.type "object"]
noncomputable def kG(K:oN)(C:oO):Bool:=match K.lookup C with
 | some ⟨.type "type",_,.cls cd,sl⟩=>(match cd.mro,sl.toList with
  | .ref C'::bm,[_,_,_,_,sI (.builtin n),_]=>C' == C && (n == "ValueError.__new__" && (!cd.hasDel && (cd.hasDict && PySem.W.tailIn K bmV bm)))
  | _,_=>sL)
 | _=>sL
theorem vC{K:oN}{C:oO}(q:kG K C=sK):∃bm N nm qn bs sn sub ab col dd k0 k1 k2 k3 k5,K.lookup C=sI (rV nm qn C N bs bm sK sn sub ab col dd k0 k1 k2 k3 k5 "ValueError.__new__")/\∀h:oZ,K.In h->OwnTail h bmV bm:=by
 unfold kG at q
 split at q
 ·rename_i dd cd sl ho
  split at q
  ·rename_i C' bm k0 k1 k2 k3 n k5 hm hs
   simp only[cE,beq_iff_eq,eg] at q
   obtain⟨rfl,rfl,hdel,hdct,ht⟩:=q
   obtain⟨nm,bs,mro,ns,qn,hd,sn,sub,ab,col,del⟩:=cd
   dsimp only at hm hdel hdct
   subst hm hdel hdct
   have hsl:sl=#[k0,k1,k2,k3,sI (.builtin "ValueError.__new__"),k5]:=by
    obtain⟨l⟩:=sl
    simp only at hs
    rw[hs]
   subst hsl
   exact⟨bm,ns,nm,qn,bs,sn,sub,ab,col,dd,k0,k1,k2,k3,k5,ho,λh X=>PySem.W.tail_of_in X ht⟩
  ·cases q
 ·cases q
structure XC(K:oN)(C:oO):Prop where
 ok:kG K C=sK
 sa:ah K (.ref C) "__setattr__" = sI (sI (.builtin "object.__setattr__"))
 ga:ah K (.ref C) "__getattribute__" = sI (sI (.builtin "BaseException.__getattribute__"))
 gt:ah K (.ref C) "__getattr__" = sI sJ
 kp:aO K (.ref C)=sK
section
variable{prog:oU}{w:oW}{A:oX}{R:rN->oQ->Prop}{h:oZ}{g:Array sv}{d:Drawn}{t:Nat}{os:OsState}{K:oN}{C:oO}
theorem YC{init:oP}{rest:List oP}(X:K.In h)(q:kG K C=sK)(hi:ah K (.ref C) "__init__" = sI (sI init))
  (hb:∀self,PySem.W.Looks (model prog w) h (bindSpecial init self) (init,[self])) (hrest:rest.length<=oM)
  (hq:pM (model prog w) (A.under (.builtin "type.__call__" ⟨.ref C::rest,[]⟩)) (.call init ⟨.ref (h.objs.size+1)::rest,[]⟩) (PySem.W.InitBack (h.objs.size+1) R) ⟨(h.push { cls:=.type "tuple",data:=.seq rest.toArray }).push (xob C sJ h.objs.size .none),g,d,t,os⟩) :
  pM (model prog w) A (.call (.ref C) ⟨rest,[]⟩) R ⟨h,g,d,t,os⟩:=by
 obtain⟨bm,N,nm,qn,bs,sn,sub,ab,col,dd,k0,k1,k2,k3,k5,lk,tl⟩:=vC q
 have hC:=X _ _ lk
 have T:=tl h X
 have F:=d8
 have f1:=tc_lookup
 have f2:=tc_bind (.ref C)
 have hT:(⟨h,g,d,t,os⟩:oQ).TypeIs (.ref C) "type":=⟨_,hC,rfl⟩
 refine codeAny_of_tree ?_
 show oR _ _ (callAny (.ref C) _) _ _ _
 repeat (any_goals (first | assumption | with_reducible refine pJ hC ?_ | wp_step))
 refine⟨rfl,?_⟩
 refine codeAny_call_builtin_at (Code.quiet_builtin _ (by symm)) entry_typeCall (wpAny_check_type_call_sub hC ?_)
 repeat (first | with_reducible refine pJ hC ?_ | with_reducible refine wpAny_madeBy_exc hC ?_ | wp_step)
 refine codeAny_call_builtin_code (Code.quiet_builtin _ F.quiet) (wpAny_check_new_subT F T hC ?_)
 refine codeAny_exc_new_subT F T hC ?_ hrest
 show oR _ _ _ _ _ _
 have k:∀b o,h.get? b=sI o->((h.push { cls:=.type "tuple",data:=.seq rest.toArray }).push (xob C sJ h.objs.size .none)).get? b=sI o:=λb o e=>aa _ (aa _ e)
 have hC1:=k _ _ hC
 have hget:((h.push { cls:=.type "tuple",data:=.seq rest.toArray }).push (xob C sJ h.objs.size .none)).get? (h.objs.size+1)=sI (xob C sJ h.objs.size .none):=by heap_get
 have hcC:(Value.ref C::bm).contains (.ref C)=sK:=by simp
 unfold isInstance
 repeat (first | with_reducible refine pJ hget ?_ | wp_step)
 refine rf (C:=C) hC1 ?_
 rw[hcC]
 repeat wp_step
 show oR _ _ (typeLookup (.ref C) _) _ _ _
 refine ((cC X hi).keeps k).at ?_
 refine pD (oG (((hb _).keeps k).at ?_))
 refine oG (rb (re hq λr s' z=>?_))
 rcases r with e | (v | _ | _ | _) <;> first | exact z | exact z.elim | skip
 obtain⟨rfl,z⟩:=z
 exact oH (oH z)
end
end L3
namespace L3
noncomputable def XN(x C:oO)(dx:Option oO):HO:=.ext λh=>∃t,h.get? x=sI (xob C dx t .none)
noncomputable def XT(x C:oO)(dx:Option oO):HO:=.ext λh=>∃t tb c k,h.get? x=sI (xog C dx t tb c k)
noncomputable def XP(x C:oO)(dx:Option oO):HO:=.ext λh=>∃t tb,h.get? x=sI (xob C dx t tb)
theorem zaj{P:oU}{w:oW}{H:Hp}{h:oZ}{x C t:oO}{dx:Option oO}(e:h.get? x=sI (xob C dx t .none)):ObjOk P w H h x (XN x C dx) :=
 ⟨⟨t,e⟩,⟨_,e⟩,λh1 h2 ⟨t,q⟩ k=>⟨t,k _ q⟩⟩
theorem JK{P:oU}{w:oW}{H:Hp}{h:oZ}{x C t:oO}{dx:Option oO}{tb c:oP}{k:Bool}(e:h.get? x=sI (xog C dx t tb c k)):ObjOk P w H h x (XT x C dx) :=
 ⟨⟨t,tb,c,k,e⟩,⟨_,e⟩,λh1 h2 ⟨t,tb,c,k',q⟩ k=>⟨t,tb,c,k',k _ q⟩⟩
theorem zbh{P:oU}{w:oW}{H:Hp}{h:oZ}{x C:oO}{dx:Option oO}(o:ObjOk P w H h x (XN x C dx)):∃t,h.get? x=sI (xob C dx t .none):=o.1
theorem zap{P:oU}{w:oW}{H:Hp}{h:oZ}{x C:oO}{dx:Option oO}(o:ObjOk P w H h x (XT x C dx)):∃t tb c k,h.get? x=sI (xog C dx t tb c k):=o.1
section
variable{nm q:oV}{C N:oO}{bs bm:List oP}{hdct:Bool}{sn:List oV}{sub:List oP}{ab:Bool}{col:Option Bool}{dd:Option oO}{k0 k1 k2 k3 k5:Option oP}{newId:String}{h:oZ}{M:sj}
theorem ZB(hC:h.get? C=sI (rV nm q C N bs bm hdct sn sub ab col dd k0 k1 k2 k3 k5 newId))(base:oP):PySem.W.Looks M h (isSubtype (.ref C) base) ((Value.ref C::bm).contains base):=λA Q E s k z=>by
 obtain⟨hp,g,d,t,os⟩:=s
 exact rf (k _ _ hC) z
theorem VG(hC:h.get? C=sI (rV nm q C N bs bm hdct sn sub ab col dd k0 k1 k2 k3 k5 newId)):PySem.W.Looks M h (mroOf (.ref C)) (.ref C::bm):=λA Q E s k z=>by
 obtain⟨hp,g,d,t,os⟩:=s
 exact wpAny_mroOf_exc (k _ _ hC) z
theorem Vl(hC:h.get? C=sI (rV nm q C N bs bm hdct sn sub ab col dd k0 k1 k2 k3 k5 newId)):PySem.W.Looks M h (classData C) { name:=nm,bases:=bs,mro:=.ref C::bm,ns:=N,qualname:=q,hasDict:=hdct,slotNames:=sn,subclasses:=sub,abstract:=ab,collection:=col,hasDel:=sL }:=λA Q E s k z=>by
 unfold classData
 exact oG (wpAny_load (k _ _ hC) (oH z))
theorem Yf{bmB bm:List oP}(T:OwnTail h bmB bm)(self:oP)(hp:refuseLoop self "__setattr__" bmB=pure ()):refuseLoop self "__setattr__" bm=pure ():=by
 induction T with
 | base=>exact hp
 | own _ _ _ _ ih=>rw[refuseLoop_ref];exact ih
end
section
variable{X:Cx}{sM:List (oO × pE)}{σ:St}{H:Hp}{s:oQ}{A:oX}{E:oP->oQ->Prop}{x C:oO}{f:oV}{y:V}{u:oP}
theorem KB{Q:Unit->oQ->Prop}(I:Inv X sM σ H s)(e:H x=sI (XN x C sJ))(xc:XC X.K C)(n:NoAttr X.K C f)(ry:RelV y u)
  (h:∀s' dx,H dx=sJ->Inv X sM σ (upd (upd H dx (.xd [(f,y)])) x (XN x C (sI dx))) s'->Q () s'):oR (model X.prog X.w) A (setAttr (.ref x) f u) Q E s:=by
 obtain⟨t,ob⟩:=zbh (I.hok x _ e)
 obtain⟨bm,N,nm,qn,bs,sn,sub,ab,col,dd,k0,k1,k2,k3,k5,lk,tl⟩:=vC xc.ok
 have hC:=I.kIn _ _ lk
 have T:=tl _ I.kIn
 have SF:=PySem.F.store_ValueError
 have J:PySem.W.InstAt s.heap x (xob C sJ t .none) C sJ:=⟨ob,rfl,rfl,trivial⟩
 have hob:(Value.ref C::bm).contains (.type "object")=sK:=by rw[dk,T.hasType (show bmV.contains (.type "object")=sK by symm),dM]
 have isO:PySem.W.Looks (model X.prog X.w) s.heap (isInstance (.ref x) (.type "object")) sK:=J.type.andThen (by have:=ZB (M:=model X.prog X.w) hC (.type "object");rw[hob] at this;exact this)
 refine fH I.kIn J xc.sa ?_
 refine rp SF.slot.plain SF.entry (@PySem.W.check_slot (model X.prog X.w) _ _ { s with toks:=s.toks+1 } "object.__setattr__" "object" "__setattr__" (.ref x) [.str f s.toks,u] [] _ SF.kind SF.split isO (SF.args _ _ _) ?_)
 rw[PySem.W.osa_eq,refuse_eq]
 refine oG (oG (J.type.here (s:={ s with toks:=s.toks+1 }) (oG ((VG hC).here (s:={ s with toks:=s.toks+1 }) ?_))))
 rw[refuseLoop_ref,Yf T _ (SF.passes _)]
 refine oH (oG (J.type.here (s:={ s with toks:=s.toks+1 }) (oG ((cC I.kIn n).here (s:={ s with toks:=s.toks+1 }) (oG (oH ?_))))))
 show oR _ _ (Builtin.ObjectAttr.storeInOwnDict (.ref x) (.ref C) (.str f s.toks) f u sL) _ _ _
 have hx1:(s.heap.push { cls:=.type "dict",data:=.dict #[] }).get? x=sI (xob C sJ t .none):=aa _ ob
 have hxs:x≠s.heap.objs.size:=aw (aq ob)
 refine oG (oH (oG (oG (rS ob (oG ((Vl hC).here (s:={ s with toks:=s.toks+1 }) ?_))))))
 rw[if_neg (by simp)]
 show oR _ _ (if (!sK || !typeHasDict (.ref C))=sK then _ else _) _ _ _
 rw[if_neg (by simp [typeHasDict])]
 have hgd:((s.heap.push { cls:=.type "dict",data:=.dict #[] }).update x λo=>{ cls:=o.cls,dict:=sI s.heap.objs.size,data:=o.data,slots:=o.slots }).get? s.heap.objs.size=sI { cls:=.type "dict",data:=.dict #[] } :=
  (aE _ _ hxs).trans (Heap.get?_push_at rfl rfl)
 have hgx:((s.heap.push { cls:=.type "dict",data:=.dict #[] }).update x λo=>{ cls:=o.cls,dict:=sI s.heap.objs.size,data:=o.data,slots:=o.slots }).get? x=sI (xob C (sI s.heap.objs.size) t .none) :=
  cb _ hx1 rfl
 have hnd:((s.heap.push { cls:=.type "dict",data:=.dict #[] }).update x λo=>{ cls:=o.cls,dict:=sI s.heap.objs.size,data:=o.data,slots:=o.slots }).Ns s.heap.objs.size (λ_=>sJ) :=
  ⟨_,#[],_,hgd,rfl,λe he=>absurd he (by simp),λ_=>rfl⟩
 refine oG (wpAny_alloc' (oG (wpAny_update' hx1 (oH ?_))))
 show oR _ _ (Builtin.ObjectAttr.storeInDict s.heap.objs.size (.str f s.toks) f u) _ _ _
 unfold Builtin.ObjectAttr.storeInDict Builtin.ObjectAttr.newKeyGuard
 refine oG (oH (oG (wpAny_nsSet1 (Heap.Ns1.of_empty hnd) λh' hn' hs=>?_)))
 obtain⟨oD,esD,epD,hoD,hdD,hcD⟩:=hn'.count (Within.cons f u Within.nil)
 refine oG (sx hoD (by rw[hdD];exact pastItsLine_dict (aJ hcD (by rw[aN,cK,pB];lia))) ?_)
 refine oH ?_
 have hx2:h'.get? x=sI (xob C (sI s.heap.objs.size) t .none):=(hs.2 x hxs).trans hgx
 have hfr:H s.heap.objs.size=sJ:=I.hok.fresh (am _)
 have hxe:x≠s.heap.objs.size:=hxs
 refine h _ s.heap.objs.size hfr ?_
 have k0:∀b o,b≠x->s.heap.get? b=sI o->h'.get? b=sI o:=λb o hb q =>
  (hs.2 b (aw (aq q))).trans ((aE _ _ (Ne.symm hb)).trans (aa _ q))
 have I1:Inv X sM σ (upd H x (XN x C (sI s.heap.objs.size))) { s with heap:=h',toks:=s.toks+1+1 } :=
  I.write (x:=x) (e:=x) (by rw[e];exact True.intro) (.inl rfl) k0 ⟨_,hx2⟩ (zaj hx2)
 have hd2:ObjOk X.prog X.w (upd (upd H x (XN x C (sI s.heap.objs.size))) s.heap.objs.size (.xd [(f,y)])) h' s.heap.objs.size (.xd [(f,y)]):=by
  refine⟨_,hn',λg=>?_⟩
  show RelO (bh g [(f,y)]) (if g=f then sI u else sJ)
  by_cases q:g=f
  ·subst q
   rw[if_pos rfl]
   simp [bh,RelO,ry]
  ·rw[if_neg q]
   have q':(g == f)=sL:=by simpa using q
   simp [bh,q',RelO]
 have fd:xp X sM (upd H x (XN x C (sI s.heap.objs.size))) s.heap.objs.size:=I.fpOk (am _) (by rw[zo (Ne.symm hxe)];exact hfr)
 have I2:=Inv.track I1 fd hd2
 have eH:upd (upd H x (XN x C (sI s.heap.objs.size))) s.heap.objs.size (.xd [(f,y)])=upd (upd H s.heap.objs.size (.xd [(f,y)])) x (XN x C (sI s.heap.objs.size)):=by
  funext b
  unfold upd
  by_cases b1:b=s.heap.objs.size
  ·subst b1
   rw[if_pos rfl,if_neg (Ne.symm hxe),if_pos rfl]
  ·by_cases b2:b=x
   ·subst b2
    rw[if_neg b1,if_pos rfl,if_pos rfl]
   ·rw[if_neg b1,if_neg b2,if_neg b2,if_neg b1]
 rw[eH] at I2
 exact I2
end
end L3
namespace L3
def JO(K:oN)(ta tv:TE)(f:oV):TS:=λD σ H=>tv σ H λy H1=>ta σ H1 λo H2=>∃x C,o=.ref x/\H2 x=sI (XN x C sJ)/\XC K C/\NoAttr K C f/\∀dx,H2 dx=sJ->D.nx σ (upd (upd H2 dx (.xd [(f,y)])) x (XN x C (sI dx)))
section
variable{X:Cx}{o value:oY}{f:oV}{pos pos':pW}{ta tv:TE}
theorem VX(ha:PE X o ta)(hv:PE X value tv)(hs:swapsWith value (sI (.Attribute o f pos')) pos.line X.env=pure sL):PS X (.Assign [.Attribute o f pos'] value pos) (JO X.K ta tv f):=by
 intro sM s σ H D I h
 refine rj (thn (hv sM s σ H _ I h) λu s1 ⟨y,H1,I1,ry,q⟩=>thn (ha sM s1 σ H1 _ I1 q) λov s2 ⟨x',H2,I2,rx,x,C,ex,e,xc,n,q2⟩=>?_) hs
 subst ex
 obtain rfl:ov=Value.ref x:=rx
 exact KB I2 e xc n ry λs3 dx hdx I3=>⟨σ,_,I3,q2 dx hdx⟩
end
section
variable{M:sj}{A:oX}{E:oP->oQ->Prop}{s:oQ}{env:rP}
theorem Vv{K:oN}{x:sB oP}{Q:Flow->oQ->Prop}(hh:A.handled=sJ)
  (h:oR M A x (λv s1=>∃e C t dx,v=.ref e/\K.In s1.heap/\kG K C=sK/\s1.heap.get? e=sI (xob C dx t .none)/\E (.ref e) s1) E s):oR M A (raiseStmt env (sI x) sJ) Q E s:=by
 unfold raiseStmt
 refine oG (thn h λv s1 h1=>?_)
 obtain⟨e,C,t,dx,rfl,X,hC,he,hE⟩:=h1
 obtain⟨bm,N,nm,qn,bs,sn,sub,ab,col,dd,k0,k1,k2,k3,k5,lk,tl⟩:=vC hC
 have hCo:=X _ _ lk
 have T:=tl _ X
 have hcB:(Value.ref C::bm).contains (.type "BaseException")=sK:=by rw[dk,T.hasType (show bmV.contains (.type "BaseException")=sK by symm),dM]
 obtain⟨hp,g,d,tk,os⟩:=s1
 repeat (first | with_reducible refine pJ he ?_ | with_reducible refine pJ hCo ?_ | (with_reducible refine rf hCo ?_;rw[hcB]) | wp_step)
 exact wpAny_raiseNew_none hh hE
theorem VH{K:oN}{e:oY}{pos:pW}{Q:Flow->oQ->Prop}(hh:A.handled=sJ)
  (h:oR M A (eval e env) (λv s1=>∃a C t dx,v=.ref a/\K.In s1.heap/\kG K C=sK/\s1.heap.get? a=sI (xob C dx t .none)/\E (.ref a) s1) E s):oR M A (exec (.Raise (sI e) sJ pos) env) Q E s:=by
 rw[arm_exec_Raise]
 first
  | exact oG (pT (Vv hh (oG (thn h λv s1 h1=>oG (pT (oH h1))))))
  | (simp only[evalOpt,Option.map];exact oG (pT (Vv hh (oG (thn h λv s1 h1=>oG (pT (oH h1)))))))
end
noncomputable def del(H:Hp)(x:oO):Hp:=λb=>if b=x then sJ else H b
theorem Vc{H:Hp}{x b:oO}(h:b≠x):del H x b=H b:=if_neg h
theorem Y5{H:Hp}{x:oO}:del H x x=sJ:=if_pos rfl
section
variable{X:Cx}{sM:List (oO × pE)}{σ:St}{H:Hp}{s:oQ}
theorem Inv.untrack{x:oO}{φ:oZ->Prop}(I:Inv X sM σ H s)(e:H x=sI (.ext φ))(hs:X.s₀.heap.objs.size<=x):Inv X sM σ (del H x) s:=by
 have nx:∀b u,H b=sI u->(∀ψ,u≠.ext ψ)->b≠x:=λb u q nu z=>by subst z;rw[e] at q;cases q;exact nu _ rfl
 have hn:∀b,b≠x->del H x b=H b:=λb hb=>Vc hb
 have es:s={ s with heap:=s.heap,gens:=s.gens,drawn:=s.drawn,toks:=s.toks }:=rfl
 rw[es]
 refine I.step (g':=s.gens) (d':=s.drawn) (ch:=[x]) (λb hb=>?_) (λb o _ _ _ q _=>q) (λb o _ _ _ q _=>⟨o.slots,q⟩) (λb o hc _ n=>?_)
  (λb o _ q=>⟨o,q⟩) (λb xs q=>?_) (λb u xs q=>?_) (λb ps q=>?_) (λm hm=>hm) (λb u q=>?_) I.bare
 ·have eb:b=x:=by simpa using hb
  subst eb
  refine⟨.inr hs,λz=>?_,λy c q z=>?_,λp hp z=>?_⟩
  ·rw[z,I.free] at e;cases e
  ·have:=I.freeC y c q;rw[z,e] at this;cases this
  ·have:=(I.pin p hp).2.1;rw[z,e] at this;cases this
 ·rw[hn b (by simpa using hc)];exact n
 ·rw[hn b (nx b _ q λ_ z=>by cases z)];exact q
 ·rw[hn b (nx b _ q λ_ z=>by cases z)];exact q
 ·exact⟨#[],by rw[hn b (nx b _ q λ_ z=>by cases z),q];simp⟩
 ·by_cases hb:b=x
  ·subst hb
   rw[Y5] at q
   cases q
  ·rw[hn b hb] at q
   exact (I.hok b u q).stay (λc v _ z=>z) (λc z=>by rw[hn c (nx c _ z λ_ y=>by cases y)];exact z) λc xs z=>by rw[hn c (nx c _ z λ_ y=>by cases y)];exact z
theorem Xx{C:oO}{us:List oP}{E:oP->oQ->Prop}{Q:oP->oQ->Prop}(I:Inv X sM σ H s)(xc:kG X.K C=sK)(hi:ah X.K (.ref C) "__init__" = sI (sI (.builtin "ValueError.__init__")))(hl:us.length<=oM)
  (h:∀s' x t,s.heap.objs.size<=x->Inv X sM σ H s'->s'.heap.get? x=sI (xob C sJ t .none)->Q (.ref x) s'):oR (model X.prog X.w) X.A (call (.ref C) us) Q E s:=by
 have F:=d8
 obtain⟨bm,N,nm,qn,bs,sn,sub,ab,col,dd,k0,k1,k2,k3,k5,lk,tl⟩:=vC xc
 have hC:=I.kIn _ _ lk
 have T:=tl _ I.kIn
 obtain⟨hp,g,d,t,os⟩:=s
 have k:∀b o,hp.get? b=sI o->((hp.push { cls:=.type "tuple",data:=.seq us.toArray }).push (xob C sJ hp.objs.size .none)).get? b=sI o:=λb o e=>aa _ (aa _ e)
 refine rb (YC I.kIn xc hi (λself=>PySem.W.Looks.of_pure (F.init.bind self)) hl ?_)
 have hget:((hp.push { cls:=.type "tuple",data:=.seq us.toArray }).push (xob C sJ hp.objs.size .none)).get? (hp.objs.size+1)=sI (xob C sJ hp.objs.size .none):=by heap_get
 refine rp F.init.plain F.initEntry (wpAny_check_init_subT F (T.keeps k) (k _ _ hC) hget rfl ?_)
 wp_walk
 refine⟨rfl,h _ (hp.objs.size+1) ((hp.push { cls:=.type "tuple",data:=.seq us.toArray }).push (xob C sJ hp.objs.size .none)).objs.size (cP _) (I.kept (t':=t) λb o e=>?_) ?_⟩
 ·exact (aE _ _ (bS (cp (aq e)))).trans (aa _ (k b o e))
 ·exact cb (Obj.mapFields λx=>x.setIfInBounds 0 (Value.ref ((hp.push { cls:=.type "tuple",data:=.seq us.toArray }).push (xob C sJ hp.objs.size .none)).objs.size)) (aa _ hget) rfl
def W2(E:XK)(C:oO)(t:TA):TS:=λ_ σ H=>t σ H λvs H1=>vs.length<=oM/\E (.ref C) sJ H1
theorem yG{E:XK}{C:oO}{cn:oV}{np cpos pos:pW}{e:oY}{es:List oY}{t:TA}(hx:XE X E)(hc:X.calm=sK)(xc:XC X.K C)(hi:ah X.K (.ref C) "__init__" = sI (sI (.builtin "ValueError.__init__")))(hg:Gl X cn)(hm:X.mg cn=sI (.ref C))(ha:PA X (e::es) t)
  (hdb:(cn == ("__debug__" : oV))=sL:=by decide) (he:oK (e::es) X.env=(sL,eval e X.env)::oK es X.env:=by rfl) (hpl:(pq cpos (oK es X.env)).any (·.1)=sL:=by rfl) :
  PS X (.Raise (sI (.Call (.Name cn np) (e::es) [] cpos)) sJ pos) (W2 E C t):=by
 intro sM s σ H D I h
 refine VH (K:=X.K) (I.ok.hd hc) (pA (wD I hg hm ?_ hdb))
 refine bT (h₀:=X.base) I.ok.mod.kin xc.kp (thn (ha cpos sM s σ H _ I h) λus s1 ⟨vs,H1,I1,r,z,q⟩=>⟨I1.kIn,?_⟩) he hpl
 refine Xx (us:=[] ++ us) I1 xc.ok hi (by show us.length<=oM;rw[<- r.length];exact z) λs2 x t hz I2 ob=>⟨x,C,t,sJ,rfl,I2.kIn,xc.ok,ob,?_⟩
 exact hx _ _ ⟨sM,σ,H1,x,C,t,sJ,.none,rfl,I2,ob,.inl rfl,I1.fpOk hz (I1.hok.fresh hz),λT z=>(by cases z),q⟩
theorem Wu{A:oX}{C:oO}{us:List oP}{k:Nat}(r:Room (k+1) A):Room k (A.under (.builtin "type.__call__" ⟨.ref C::us,[]⟩)):=r.make C us []
def WA(E:XK)(C:oO)(sp:Sp)(t:TA):TS:=λ_ σ H=>t σ H λvs H1=>vs.length<=oM/\∀x,H1 x=sJ->sp (.ref x::vs) (upd H1 x (XN x C sJ)) (λv H2=>v=.non/\∃dx,H2 x=sI (XN x C dx)/\E (.ref C) dx (del H2 x)) E0
theorem kT{E:XK}{C f:oO}{fd:oS}{k:Nat}{ps:List oV}{sp:Sp}{cn:oV}{np cpos pos:pW}{e:oY}{es:List oY}{t:TA}(hx:XE X E)(hc:X.calm=sK)(xc:XC X.K C)(hi:ah X.K (.ref C) "__init__" = sI (sI (.ref f)))(hfn:bc X.K (.ref f)=sK)
  (F:z8 X.prog X.w X.K X.mg X.base CX0 k f fd ps sp) (hr:Room (k+1) X.A) (hb:Binds X.K fd ps []) (hg:Gl X cn) (hm:X.mg cn=sI (.ref C)) (ha:PA X (e::es) t)
  (hdb:(cn == ("__debug__" : oV))=sL:=by decide) (he:oK (e::es) X.env=(sL,eval e X.env)::oK es X.env:=by rfl) (hpl:(pq cpos (oK es X.env)).any (·.1)=sL:=by rfl) :
  PS X (.Raise (sI (.Call (.Name cn np) (e::es) [] cpos)) sJ pos) (WA E C sp t):=by
 intro sM s σ H D I h
 refine VH (K:=X.K) (I.ok.hd hc) (pA (wD I hg hm ?_ hdb))
 refine bT (h₀:=X.base) I.ok.mod.kin xc.kp (thn (ha cpos sM s σ H _ I h) λus s1 ⟨vs,H1,I1,r,z,q⟩=>⟨I1.kIn,?_⟩) he hpl
 have hl:us.length<=oM:=by rw[<- r.length];exact z
 have ob:((s1.heap.push { cls:=.type "tuple",data:=.seq us.toArray }).push (xob C sJ s1.heap.objs.size .none)).get? (s1.heap.objs.size+1)=sI (xob C sJ s1.heap.objs.size .none):=by heap_get
 have hfr:H1 (s1.heap.objs.size+1)=sJ:=I1.hok.fresh (cP _)
 have I2:Inv X sM σ (upd H1 (s1.heap.objs.size+1) (XN (s1.heap.objs.size+1) C sJ)) { s1 with heap:=(s1.heap.push { cls:=.type "tuple",data:=.seq us.toArray }).push (xob C sJ s1.heap.objs.size .none) } :=
  I1.laid (t':=s1.toks) (λb o e=>aa _ (aa _ e)) (cP _) (zaj ob)
 have q1:=q _ hfr
 have r2:Vals (V.ref (s1.heap.objs.size+1)::vs) (Value.ref (s1.heap.objs.size+1)::us):=.cons rfl r
 have hlen:(Value.ref (s1.heap.objs.size+1)::us ++ ([]:List oP)).length=ps.length:=by
  rw[aT,<- r2.length]
  exact F.len _ _ _ _ q1
 have hb2:=hb { s1 with heap:=(s1.heap.push { cls:=.type "tuple",data:=.seq us.toArray }).push (xob C sJ s1.heap.objs.size .none) } (Value.ref (s1.heap.objs.size+1)::us) I2.kIn hlen
 rw[aT] at hb2
 have run:=F.run _ X.stack _ _ ⟨Value.ref (s1.heap.objs.size+1)::us,[]⟩ (Value.ref (s1.heap.objs.size+1)::us) _ _ E0 (Wu (C:=C) (us:=us) hr) (I2.env0.make C us []) hb2 r2 q1
 have sz0:X.s₀.heap.objs.size<=s1.heap.objs.size+1:=aJ I1.sz (cP _)
 show oR (model X.prog X.w) X.A (call (.ref C) us) _ X.xe s1
 refine rb ?_
 refine YC (h:=s1.heap) (g:=s1.gens) (d:=s1.drawn) (t:=s1.toks) (os:=s1.os) (rest:=us) I1.kIn xc.ok hi (λself=>fM I1.kIn self (beq_iff_eq.mp hfn)) hl (re run λr s' hq=>?_)
 cases r with
 | error e=>exact False.elim hq
 | ok fl =>
  cases fl with
  | ret u =>
   obtain⟨v,H',I3,rv,ev,dx,hx3,q3⟩:=I2.after hq
   subst ev
   refine⟨rv,?_⟩
   obtain⟨t,ob3⟩:=zbh (I3.hok _ _ hx3)
   have I4:=Inv.untrack I3 hx3 sz0
   refine⟨_,C,t,dx,rfl,I3.kIn,xc.ok,ob3,hx _ _ ⟨sM,σ,_,_,C,t,dx,.none,rfl,I4,ob3,.inl rfl,?_,λT z=>(by cases z),q3⟩⟩
   exact I1.fpOk (cP _) Y5
  | next=>exact False.elim hq
  | brk=>exact False.elim hq
  | cont=>exact False.elim hq
end
end L3
namespace L3
def J5(X:Cx)(sM:List (oO × pE))(σ:St)(E:XK)(e:oP)(s:oQ):Prop:=∃(cx:oP) (kx:Bool) (H:Hp) (x C t:oO) (dx:Option oO) (tb:oP),e=.ref x/\Inv X sM σ H s /\
 s.heap.get? x=sI (xog C dx t tb cx kx)/\Jx s.heap x tb/\xp X sM H x/\(∀T,tb=.ref T->xp X sM H T)/\E (.ref C) dx H
noncomputable abbrev TX:=St->Hp->VK->XK->Prop
def PEX(X:Cx)(e:oY)(t:TX):Prop :=
 ∀(sM:List (oO × pE)) (s:oQ) (σ:St) (H:Hp) (Q:VK) (E:XK),Inv X sM σ H s->t σ H Q E->oR (model X.prog X.w) X.A (eval e X.env) (EP X sM σ Q) (J5 X sM σ E) s
section
variable{X:Cx}
variable{k:Nat}{f:oO}{fd:oS}{ps:List oV}{sp:Sp}{dvs:List V}{ds:List oP}{x:oV}{p pos:pW}{e:oY}{es:List oY}{t:TA}
theorem QG(F:z8 X.prog X.w X.K X.mg X.base (CXx X.prog X.w) k f fd ps sp)(hr:Room k X.A)(hg:Gl X x)(hm:X.mg x=sI (.ref f))(hk:aO X.K (.ref f)=sK)(hb:Binds X.K fd ps ds)(hd:Vals dvs ds)
  (ha:PA X.nox (e::es) t) (hdb:(x == ("__debug__" : oV))=sL:=by decide) (he:oK (e::es) X.env=(sL,eval e X.env)::oK es X.env:=by rfl) (hpl:(pq pos (oK es X.env)).any (·.1)=sL:=by rfl) :
  PEX X (.Call (.Name x p) (e::es) [] pos) (λσ H Q E=>t σ H λvs H1=>sp (vs ++ dvs) H1 Q E):=by
 intro sM s σ H Q E I h
 refine pA (wD I hg hm ?_ hdb)
 refine bT (h₀:=X.base) I.ok.mod.kin hk (pC (thn (ha pos sM s σ H _ (I.wish _) h) λus s1 ⟨vs,H1,I1,r,q⟩=>⟨I1.kIn,?_⟩)) he hpl
 have I1':Inv X sM σ H1 s1:=I1.unwish
 have r2:Vals (vs ++ dvs) (us ++ ds):=r.append hd
 have hl:(us ++ ds).length=ps.length:=by rw[<- r2.length];exact F.len _ _ _ _ q
 refine rb (re (F.run X.A X.stack s1 H1 ⟨us,[]⟩ (us ++ ds) (vs ++ dvs) Q E hr I1'.env0 (hb s1 us I1'.kIn hl) r2 q) λr s' hq=>?_)
 cases r with
 | error e =>
  obtain⟨x,C,t,dx,tb,H',rfl,os,bare,un,hok,ob,tr,hn,hsz,hT,q⟩:=hq
  exact⟨.none,sL,H',x,C,t,dx,tb,rfl,I1'.call' os un hok bare (λb z=>absurd z (by simp)),ob,tr,I1'.fpOk hsz hn,λT e=>I1'.fpOk (hT T e).2 (hT T e).1,q⟩
 | ok fl =>
  cases fl with
  | ret u=>exact I1'.after hq
  | next=>exact False.elim hq
  | brk=>exact False.elim hq
  | cont=>exact False.elim hq
end
noncomputable abbrev Cx.suite(X:Cx)(e:oP):Cx:={ X with A:=X.A.mark (sI e),calm:=sL,xe:=λ_ _=>False }
theorem Inv.suite{X:Cx}{sM:List (oO × pE)}{σ:St}{H:Hp}{s:oQ}(I:Inv X sM σ H s)(e:oP):Inv (Cx.suite X e) sM σ H s :=
 ⟨⟨I.ok.mod,I.ok.kind,I.ok.glob,I.ok.blt,I.ok.above,I.ok.inj,I.ok.has,I.ok.cab,λz=>absurd z (by simp [Cx.suite]),I.ok.frames,I.ok.stk,I.ok.exf,I.ok.bs,I.ok.bsz,I.ok.noex,I.ok.exfs,I.ok.funs,I.ok.frf⟩,
  I.os,I.bare,I.base,I.loc,I.cell,I.free,I.freeC,I.pin,I.hok,I.len⟩
theorem Inv.unsuite{X:Cx}{sM:List (oO × pE)}{σ σ':St}{H H':Hp}{s s':oQ}{e:oP}(J:Inv X sM σ' H' s')(I:Inv (Cx.suite X e) sM σ H s):Inv X sM σ H s :=
 ⟨J.ok,I.os,I.bare,I.base,I.loc,I.cell,I.free,I.freeC,I.pin,I.hok,I.len⟩
structure Hd where
 D:oO
 i:Nat
 ts:TS
def tHs(K:oN)(C:oO)(dx:Option oO)(x:oO)(Dd:vg)(σ:St)(H:Hp):List Hd->Prop
 | []=>False
 | h::r=>∃b,cq K (.ref C) (.ref h.D)=sI b/\if b=sK then h.ts { Dd with nx:=λσ' H'=>Dd.nx (σ'.set h.i sJ) H',bk:=λσ' H'=>Dd.bk (σ'.set h.i sJ) H',ct:=λσ' H'=>Dd.ct (σ'.set h.i sJ) H' } (σ.set h.i (sI (.ref x))) H else tHs K C dx x Dd σ H r
section
variable{X:Cx}{sM:List (oO × pE)}{σ:St}{H:Hp}{s:oQ}
theorem vA{M:sj}{A:oX}{E:oP->oQ->Prop}{i:Nat}{n:oV}{pos:pW}{Q:Unit->oQ->Prop}(I:Inv X sM σ H s)(hN:X.N.Nodup)(hi:X.N[i]? = sI n)(hk:X.env.scope.names.lookup n=sI .local)
  (h:∀s',Inv X sM (σ.set i sJ) H s'->Q () s'):oR M A (do bindName X.env n .none;unbindBehindTheSuite X.env n pos) Q E s:=by
 obtain⟨m,hn,hl⟩:=id I.loc
 have hcls:(X.env.scope.kind == .class || (X.env.scope.kind == .module && X.env.locals != X.env.globals))=sL:=by rw[I.ok.kind];rfl
 have hiσ:i<σ.length:=by rw[I.len];exact (sQ.mp hi).1
 have cne:=I.cne
 refine wpAny_nameGoes_keeps hk hn hcls λh' v hn' hs=>?_
 obtain⟨oL,_,_,hoL,_⟩:=id hn
 refine h _ ⟨I.ok,I.os,I.bare,⟨λb o e n hb hx=>?_,λb o e n hb hx=>?_,I.base.free,λb o e hx=>?_,I.base.tups,I.base.frzs,I.base.tbls⟩,⟨_,hn',λj y v' e1 e2 e3=>?_⟩,λy c e=>?_,I.free,I.freeC,λp hp=>?_,?_,by simpa using I.len⟩
 ·exact (hs.2 b (aw (av (aq e) I.ok.above))).trans (I.base.keep b o e n hb hx)
 ·obtain⟨sl,e1⟩:=I.base.slot b o e n hb hx
  exact⟨sl,(hs.2 b (aw (av (aq e) I.ok.above))).trans e1⟩
 ·obtain⟨o',e1⟩:=I.base.there b o e hx
  exact⟨o',(hs.2 b (aw (av (aq e) I.ok.above))).trans e1⟩
 ·by_cases hj:j=i
  ·subst hj
   rw[dA hiσ] at e2
   cases e2
  ·rw[dJ (Ne.symm hj)] at e2
   obtain⟨u',r',q⟩:=hl j y v' e1 e2 e3
   refine⟨u',r',?_⟩
   rcases q with ⟨k,e⟩ | ⟨k,c,e,z⟩
   ·refine .inl ⟨k,?_⟩
    have:y≠n:=λe=>hj (jV hN e1 (e ▸ hi))
    simp [this,e]
   ·exact .inr ⟨k,c,e,z.sameBut hs (cne y c e)⟩
 ·obtain⟨w',z⟩:=I.cell y c e
  exact⟨w',z.sameBut hs (cne y c e)⟩
 ·obtain⟨e,n,ne,nf,d⟩:=I.pin p hp
  exact⟨(hs.2 p.1 ne).trans e,n,ne,nf,d⟩
 ·exact HOk.but I.hok hs I.free
end
theorem Jj{M:sj}{A:oX}{E:oP->oQ->Prop}{K:oN}{s:oQ}{x C D t:oO}{dx:Option oO}{tb cx:oP}{kx:Bool}{b:Bool}{Q:Bool->oQ->Prop}(X:K.In s.heap)(hD:kG K D=sK)(he:s.heap.get? x=sI (xog C dx t tb cx kx))
  (hs:cq K (.ref C) (.ref D)=sI b) (h:Q b s):oR M A (excMatches (.ref x) (.ref D)) Q E s:=by
 obtain⟨bm,N,nm,qn,bs,sn,sub,ab,col,dd,k0,k1,k2,k3,k5,lk,tl⟩:=vC hD
 have hDo:=X _ _ lk
 have T:=tl _ X
 have hcB:(Value.ref D::bm).contains (.type "BaseException")=sK:=by rw[dk,T.hasType (show bmV.contains (.type "BaseException")=sK by symm),dM]
 have L:=PySem.W.looks_subIn (M:=M) X hs
 have f:=tc_notTuple
 obtain⟨hp,g,d,tk,os⟩:=s
 unfold excMatches
 repeat (first | with_reducible refine pJ he ?_ | with_reducible refine pJ hDo ?_ | (with_reducible refine rf hDo ?_;rw[hcB]) | (with_reducible refine PySem.W.Looks.at L ?_) | wp_step)
 cases b with
 | false=>exact oH (oH (oH h))
 | true=>exact oH (oH (oH h))
structure zdy(X:Cx)(h:pO)(d:Hd):Prop where
 ex:∃(cn n:oV) (np pos:pW) (b0:pb) (suite:List pb),h=.ExceptHandler (sI (.Name cn np)) (sI n) (b0::suite) pos/\Gl X cn/\X.mg cn=sI (.ref d.D)/\X.N[d.i]? = sI n/\X.env.scope.names.lookup n=sI .local/\(cn == ("__debug__" : oV))=sL /\
  (∀e,PSs (Cx.suite X e) (b0::suite) d.ts)
 xc:kG X.K d.D=sK
inductive ZW(X:Cx):List pO->List Hd->Prop
 | nil {hs}:ZW X hs []
 | cons {h d hs ds}:zdy X h d->ZW X hs ds->ZW X (h::hs) (d::ds)
section
variable{X:Cx}
theorem Zx(hN:X.N.Nodup):∀{hs:List pO} {ds:List Hd},ZW X hs ds->∀{sM:List (oO × pE)} {s:oQ} {σ:St} {H:Hp} {Dd:vg} {x C T:oO} {dx:Option oO},Inv X sM σ H s->H x=sI (XT x C dx) ->
  (∃t cx kx,s.heap.get? x=sI (xog C dx t (.ref T) cx kx))->(∃oT ts,s.heap.get? T=sI oT/\oT.data=.fields ts/\3<ts.size)->xp X sM H T->tHs X.K C dx x Dd σ H ds ->
  oR (model X.prog X.w) X.A (handleBy (.ref x) X.env hs) (SP X sM Dd) X.xe s
 | _,_,.nil,_,_,_,_,_,_,_,_,_,_,_,_,_,_,h=>h.elim
 | _,_,.cons h1 h2,sM,s,σ,H,Dd,x,C,T,dx,I,hx,⟨t,cx,kx,ob⟩,⟨oT,ts,eT,dT,zT⟩,fT,h=>by
  obtain⟨⟨cn,n,np,pos,b0,suite,rfl,hg,hm,hi,hk,hdb,hsu⟩,xc⟩:=h1
  obtain⟨b,hb,q⟩:=h
  have I':=Inv.suite I (.ref x)
  refine rX (rO (wD (X:=Cx.suite X (.ref x)) I' hg hm (Jj I.kIn xc ob hb ?_) hdb)) (by intro q;cases q)
  cases b with
  | false =>
   rw[if_neg aC] at q
   exact Zx hN h2 I hx ⟨t,cx,kx,ob⟩ ⟨oT,ts,eT,dT,zT⟩ fT q
  | true =>
   rw[if_pos rfl] at q
   refine codeAny_handlers_suite_as ?_
   unfold setFlight
   refine oG (pf ob rfl (x:=.ref T) rfl ?_)
   rw[if_pos (show (Value.ref T != Value.none)=sK from by simp)]
   refine pP eT dT zT ?_
   obtain⟨f0,f1,f2,f3,f4,f5⟩:=fT
   have I2:Inv X sM σ H { s with heap:=s.heap.update T (Obj.mapFields (·.setIfInBounds 3 ((sJ:Option oO).elim Value.none λf=>rawInt f))) } :=
    I.turned (t':=s.toks) (λb o hb e=>(aE _ _ (Ne.symm hb)).trans e) f0 f1 f3 f4 f5
   refine uW (X:=Cx.suite X (.ref x)) (v:=.ref x) (Inv.suite I2 (.ref x)) hN hi (.inl hk) rfl (λs3 I3=>?_) (.inr hk)
   refine pC (thn (hsu _ sM s3 _ H _ I3 q) λfl s4 q4=>?_)
   cases fl with
   | next =>
    obtain⟨σ4,H4,I4,n4⟩:=q4
    exact vA (Inv.unsuite I I4) hN hi hk λs5 I5=>⟨_,_,I5,n4⟩
   | brk =>
    obtain⟨σ4,H4,I4,n4⟩:=q4
    exact vA (Inv.unsuite I I4) hN hi hk λs5 I5=>⟨_,_,I5,n4⟩
   | cont =>
    obtain⟨σ4,H4,I4,n4⟩:=q4
    exact vA (Inv.unsuite I I4) hN hi hk λs5 I5=>⟨_,_,I5,n4⟩
   | ret v =>
    obtain⟨y,σ4,H4,I4,r4,n4⟩:=q4
    exact vA (Inv.unsuite I I4) hN hi hk λs5 I5=>⟨y,_,_,I5,r4,n4⟩
noncomputable def tbL:oP->List oO
 | .ref b=>[b]
 | _=>[]
def zdv(K:oN)(i:Nat)(te:TX)(hds:List Hd):TS:=λD σ H=>te σ H (λv H1=>D.nx (σ.set i (sI v)) H1) λcls dx H1=>∃C,cls=.ref C/\∀x,H1 x=sJ->tHs K C dx x D σ (upd H1 x (XT x C dx)) hds
end
end L3
namespace L3
section
variable{prog:oU}{w:oW}{A:oX}{E:oP->oQ->Prop}{s:oQ}{K:oN}{x C:oO}{ox:pE}{od:Option pE}{name:oV}{tk:rF}
theorem QO{fill expr:Bool}{Q:oP->oQ->Prop}(X:K.In s.heap)(xc:XC K C)(J:PySem.W.InstAt s.heap x ox C od)
  (h:oR (model prog w) A.in1 (Builtin.«object.__getattribute__» ⟨[.ref x,.str name tk],[]⟩) (λfin s'=>match fin with | .done (.ret v)=>oR (model prog w) A (handedOut v) Q E s' | _=>False) (λ_ _=>False) s) :
  oR (model prog w) A (getAttrBy (.ref x) (.str name tk) fill expr) Q E s:=by
 obtain⟨bm,N,nm,qn,bs,sn,sub,ab,col,dd,k0,k1,k2,k3,k5,lk,tl⟩:=vC xc.ok
 have hC:=X _ _ lk
 have T:=tl _ X
 have FB:=PySem.F.attrBase_ValueError
 have L0:=J.type (M:=model prog w)
 have L1:=cC (M:=model prog w) X xc.ga
 have L2:=cC (M:=model prog w) X xc.gt
 have hcB:(Value.ref C::bm).contains (.type "BaseException")=sK:=by rw[dk,T.hasType (show bmV.contains (.type "BaseException")=sK by symm),dM]
 have isB:PySem.W.Looks (model prog w) s.heap (isInstance (.ref x) (.type "BaseException")) sK:=L0.andThen (by have:=ZB (M:=model prog w) hC (.type "BaseException");rw[hcB] at this;exact this)
 have f3:=FB.ga.bind (.ref x)
 have hx0:(expr && onTheHeap (Value.builtin "BaseException.__getattribute__"))=sL:=by cases expr <;> rfl
 have hx2:(Value.builtin "BaseException.__getattribute__" == Value.builtin "object.__getattribute__")=sL:=by symm
 have hx1:(onTheHeap (Value.ref C) && Value.builtin "BaseException.__getattribute__" == Value.builtin "object.__getattribute__")=sL:=by rw[hx2];rfl
 unfold getAttrBy
 refine pD (oG (L0.here (oG (L1.here ?_))))
 show oR _ _ (if (onTheHeap (Value.ref C) && Value.builtin "BaseException.__getattribute__" == Value.builtin "object.__getattribute__")=sK then _ else _) _ _ _
 rw[hx1,if_neg aC]
 unfold getAttrByItsOwn hookBefore
 rw[if_pos (by rfl)]
 refine oG (L2.here (oG (rm (pD ?_))))
 unfold callGetattribute
 rw[hx0,if_neg aC]
 unfold boundAndCalled
 rw[f3]
 refine oG (oH ?_)
 show oR (model prog w) A (call (.builtin "BaseException.__getattribute__") [.ref x,.str name tk]) _ _ s
 refine rb (rp FB.ga.plain PySem.F.entry_bexc_ga (@PySem.W.check_slot (model prog w) _ _ s "BaseException.__getattribute__" "BaseException" "__getattribute__" (.ref x) [.str name tk] [] _ (by symm) (by symm) isB (PySem.F.args_bexc_ga _ _) ?_))
 refine pY h (λfin s' z=>?_) λ_ _ z=>z.elim
 rcases fin with (_ | _ | _ | v) | _ <;> first | exact z | exact z.elim
theorem zdq{expr:Bool}{v:oP}{Q:oP->oQ->Prop}(X:K.In s.heap)(xc:XC K C)(J:PySem.W.InstAt s.heap x ox C od)(hf:eS K C od name=sI (.value v))(hv:eC v=sK)
  (h:Q v { s with toks:=s.toks+1 }):oR (model prog w) A (getAttr (.ref x) name expr) Q E s:=by
 unfold getAttr
 refine oG (wpAny_mkText (QO (s:={ s with toks:=s.toks+1 }) X xc J ?_))
 have L0:=J.type (M:=model prog w)
 have L1:=fw (M:=model prog w) X J hf
 unfold Builtin.«object.__getattribute__»
 refine oG (oH (oG (oH (oG (L0.here (s:={ s with toks:=s.toks+1 }) (oG (L1.here (s:={ s with toks:=s.toks+1 }) ?_)))))))
 refine oH ?_
 show oR _ _ (handedOut v) _ _ _
 rw[fj hv]
 exact oH h
theorem QX{Q:Option oP->oQ->Prop}(X:K.In s.heap)(xc:XC K C)(J:PySem.W.InstAt s.heap x ox C od)(ha:ah K (.ref C) "__class__" = sI (sI (.builtin "object.__class__")))
  (hn:cB K (.builtin "object.__class__") "__get__" = sI (sI (.builtin "getset_descriptor.__get__"))) (htk:dL K (.builtin "object.__class__")=sI sK) (hm:bU K C (.type "object")=sI sK)
  (h:Q (sI (.ref C)) { s with toks:=s.toks+1 }):oR (model prog w) A (getAttr? (.ref x) "__class__") Q E s:=by
 have hf:eS K C od "__class__" = sI (.bind (.builtin "getset_descriptor.__get__") (.builtin "object.__class__")):=by
  obtain⟨bm,N,nm,qn,bs,sn,sub,ab,col,dd,k0,k1,k2,k3,k5,lk,tl⟩:=vC xc.ok
  have hcl:(PySem.W.clsIn K C).isSome=sK:=by unfold PySem.W.clsIn;rw[lk];rfl
  obtain⟨cd,hc⟩:=tD.mp hcl
  unfold eS
  rw[hc,cu,ha,cu]
  simp [hn,htk]
 unfold getAttr? getAttrBy?
 refine oG (wpAny_mkText (oG (rm (QO (s:={ s with toks:=s.toks+1 }) X xc J ?_))))
 have L0:=J.type (M:=model prog w)
 have L1:=fw (M:=model prog w) X J hf
 unfold Builtin.«object.__getattribute__»
 refine oG (oH (oG (oH (oG (L0.here (s:={ s with toks:=s.toks+1 }) (oG (L1.here (s:={ s with toks:=s.toks+1 }) ?_)))))))
 show oR _ _ (holding [.builtin "object.__class__"] (call (.builtin "getset_descriptor.__get__") [.builtin "object.__class__",.ref x,.ref C]) >>= ret) _ _ _
 refine oG (pD (rb (PySem.W.class_get (s:={ s with toks:=s.toks+1 }) X J hm ?_)))
 refine oH ?_
 show oR _ _ (handedOut (.ref C)) _ _ _
 rw[fj rfl]
 exact oH (oH h)
end
structure XI(K:oN)(C:oO):Prop extends XC K C where
 ca:ah K (.ref C) "__class__" = sI (sI (.builtin "object.__class__"))
 cg:cB K (.builtin "object.__class__") "__get__" = sI (sI (.builtin "getset_descriptor.__get__"))
 ct:dL K (.builtin "object.__class__")=sI sK
 mo:bU K C (.type "object")=sI sK
theorem zai{h:oZ}{x C t:oO}{tb c:oP}{k:Bool}(ob:h.get? x=sI (xog C sJ t tb c k)):PySem.W.InstAt h x (xog C sJ t tb c k) C sJ:=⟨ob,rfl,rfl,trivial⟩
theorem zcz{K:oN}{x C:oO}{dx:Option oO}(xi:XI K C):PySem.W.KitX K (.ref x) (.ref C) (λh=>(∃t tb c k,h.get? x=sI (xog C dx t tb c k))/\∀d,dx=sI d->∃o,h.get? d=sI o) where
 ty:=λM h X ⟨⟨t,tb,c,k',ob⟩,_⟩=>(PySem.W.Looks.ld ob).andThen .now
 it:=λM h X _=>by
  obtain⟨bm,N,nm,qn,bs,sn,sub,ab,col,dd,k0,k1,k2,k3,k5,lk,tl⟩:=vC xi.ok
  intro A' Q' E' s' k q
  unfold isType loadHead
  exact oG (rS (k _ _ (X _ _ lk)) (oH q))
 ne:=λh tp dd its n sl X htp=>by
  obtain⟨bm,N,nm,qn,bs,sn,sub,ab,col,dd,k0,k1,k2,k3,k5,lk,tl⟩:=vC xi.ok
  refine tG.mpr λq=>?_
  have e:C=tp:=Value.ref.inj (beq_iff_eq.mp q)
  subst e
  have z:=congrArg (λo:Option pE=>o.map λo=>match o.data with | .cls _=>sK | _=>sL) ((X _ _ lk).symm.trans htp)
  exact absurd (show sK=sL from Option.some.inj z) (by decide)
 ca:=λ{prog w A E Q s} X ⟨⟨t,tb,c,k',ob⟩,hd⟩ k=>by
  cases dx with
  | none=>exact QX X xi.toXC (zai ob) xi.ca xi.cg xi.ct xi.mo k
  | some d =>
   obtain⟨o,e⟩:=hd d rfl
   exact QX (od:=sI o) X xi.toXC ⟨ob,rfl,rfl,e⟩ xi.ca xi.cg xi.ct xi.mo k
section
variable{X:Cx}
def XAt(H:Hp)(x C:oO)(dx:Option oO)(fs:List (oV × V)):Prop:=H x=sI (XT x C dx)/\((dx=sJ/\fs=[])\/∃d,dx=sI d/\H d=sI (.xd fs))
theorem Vq:wL X (.builtin "isinstance") (λxs H Q=>∃x C dx fs c u b,xs=[.ref x,c]/\cV c=sI u/\XAt H x C dx fs/\XI X.K C/\aQ X.K (.ref C) u=sI b/\Q (.bl b) H):=by
 intro sM s σ H xs us Q I r h
 obtain⟨x,C,dx,fs,c,u,b,rfl,hc,⟨hx,hd⟩,xi,e,q⟩:=h
 obtain⟨v,w',rfl,rx,rc⟩:=ZO r
 cases rx
 have:w'=u:=by
  cases c with
  | ty n=>cases hc;exact rc
  | ref a=>cases hc;exact rc
  | _=>cases hc
 subst this
 refine bf (zcz (dx:=dx) xi) I.kIn ⟨zap (I.hok _ _ hx),λd z=>?_⟩ e (λz=>nomatch z) λtk=>⟨.bl b,H,I.tok tk,rfl,q⟩
 rcases hd with ⟨z',_⟩ | ⟨d',z',hd'⟩
 ·rw[z'] at z;cases z
 ·rw[z'] at z;cases z
  obtain⟨mA,⟨o,es,ep,ho,_⟩,_⟩:=I.hok _ _ hd'
  exact⟨o,ho⟩
def K0(K:oN)(ta:TE)(f:oV):TE:=λσ H Q=>ta σ H λy H1=>∃x C dx fs v,y=.ref x/\XAt H1 x C dx fs/\XC K C/\bB K C=sK/\NoAttr K C f/\fs.lookup f=sI v/\Q v H1
theorem Kp{e:oY}{f:oV}{pos:pW}{ta:TE}(he:PE X e ta)(hb:attributeBase e f X.env (eval e X.env)=eval e X.env):PE X (.Attribute e f pos) (K0 X.K ta f):=by
 intro sM s σ H Q I h
 refine Wt hb (thn (he sM s σ H _ I h) λu s1 ⟨y,H1,I1,ry,x,C,dx,fs,v,ey,⟨hx,hd⟩,xc,hh,n,l,q⟩=>?_)
 subst ey
 obtain rfl:u=Value.ref x:=ry
 obtain⟨t,tb,c,k,ob⟩:=zap (I1.hok _ _ hx)
 rcases hd with ⟨_,z⟩ | ⟨d,rfl,hd⟩
 ·rw[z] at l;cases l
 ·obtain⟨mA,hN,rl⟩:=I1.hok _ _ hd
  obtain⟨uv,hu,ru⟩:=RelO.some_of (v:=v) (o:=mA f) (by rw[<- l];exact rl f)
  obtain⟨od,ho,hlk⟩:=Zn hN
  have J:PySem.W.InstAt s1.heap x (xog C (sI d) t tb c k) C (sI od):=⟨ob,rfl,rfl,ho⟩
  refine zdq I1.kIn xc J (fq hh n rfl (by rw[hlk,hu])) (kQ ru) ⟨v,H1,I1.tok _,ru,q⟩
end
end L3
namespace L3
structure Df(P:oU)(w:oW)(K:oN)(mg:oV->Option oP)(base:oZ)(CX:CXT)(k:Nat)(nm:oV)(ps:List oV)(ds:List oP)(sp:Sp):Prop where
 ex:∃f fd,z8 P w K mg base CX k f fd ps sp/\mg nm=sI (.ref f)/\aO K (.ref f)=sK/\Binds K fd ps ds
structure Bt(mg:oV->Option oP):Prop where
 len:mg "len" = sJ
 range:mg "range" = sJ
 isi:mg "isinstance" = sJ
 str:mg "str" = sJ
 int:mg "int" = sJ
 tuple:mg "tuple" = sJ
 list:mg "list" = sJ
 bool:mg "bool" = sJ
 enum:mg "enumerate" = sJ
 all:mg "all" = sJ
 verr:mg "ValueError" = sJ
 max:mg "max" = sJ
 rev:mg "reversed" = sJ
 zip:mg "zip" = sJ
 sum:mg "sum" = sJ
 sorted:mg "sorted" = sJ
section
variable{X:Cx}{CX:CXT}{k:Nat}{ps:List oV}{sp:Sp}{ds:List oP}{dvs:List V}{E:XK}{x:oV}{p pos:pW}{e:oY}{es:List oY}{t:TA}
theorem cl0{j:Nat}(D:Df X.prog X.w X.K X.mg X.base CX0 k x ps ds sp)(hr:Room j X.A)(hd:Vals dvs ds)(hg:Gl X x)(ha:PA X (e::es) t)(hdb:(x == ("__debug__" : oV))=sL:=by decide)(he:oK (e::es) X.env=(sL,eval e X.env)::oK es X.env:=by rfl)
  (hpl:(pq pos (oK es X.env)).any (·.1)=sL:=by rfl) (hj:k<=j:=by decide):PE X (.Call (.Name x p) (e::es) [] pos) (vY sp dvs E0 t):=by
 obtain⟨f,fd,F,hm,hk,hb⟩:=D.ex
 exact WV F (hr.mono hj) hg hm hk hb hd Yl ha hdb he hpl
theorem clX{j:Nat}(D:Df X.prog X.w X.K X.mg X.base (CXx X.prog X.w) k x ps ds sp)(hr:Room j X.A)(hd:Vals dvs ds)(hg:Gl X x)(ha:PA X.nox (e::es) t)(hdb:(x == ("__debug__" : oV))=sL:=by decide)(he:oK (e::es) X.env=(sL,eval e X.env)::oK es X.env:=by rfl)
  (hpl:(pq pos (oK es X.env)).any (·.1)=sL:=by rfl) (hj:k<=j:=by decide):PEX X (.Call (.Name x p) (e::es) [] pos) (λσ H Q E=>t σ H λvs H1=>sp (vs ++ dvs) H1 Q E):=by
 obtain⟨f,fd,F,hm,hk,hb⟩:=D.ex
 exact QG F (hr.mono hj) hg hm hk hb hd ha hdb he hpl
theorem clP{j:Nat}(hx:XE X E)(D:Df X.prog X.w X.K X.mg X.base (CXx X.prog X.w) k x ps ds sp)(hr:Room j X.A)(hd:Vals dvs ds)(hg:Gl X x)(ha:PA X (e::es) t)(hdb:(x == ("__debug__" : oV))=sL:=by decide)(he:oK (e::es) X.env=(sL,eval e X.env)::oK es X.env:=by rfl)
  (hpl:(pq pos (oK es X.env)).any (·.1)=sL:=by rfl) (hj:k<=j:=by decide):PE X (.Call (.Name x p) (e::es) [] pos) (vY sp dvs E t):=by
 obtain⟨f,fd,F,hm,hk,hb⟩:=D.ex
 exact WV F (hr.mono hj) hg hm hk hb hd (Xl hx) ha hdb he hpl
end
theorem Ks{X:Cx}{cn n:oV}{np pos:pW}{b0:pb}{suite:List pb}{hs:List pO}{ds:List Hd}{D:oO}{ts:TS}(i:Nat)(hsu:∀e,PSs (Cx.suite X e) (b0::suite) ts)(hg:Gl X cn)(hm:X.mg cn=sI (.ref D))(hi:X.N[i]? = sI n)(hk:X.env.scope.names.lookup n=sI .local)(xc:kG X.K D=sK)(r:ZW X hs ds)
  (hdb:(cn == ("__debug__" : oV))=sL:=by decide):ZW X (.ExceptHandler (sI (.Name cn np)) (sI n) (b0::suite) pos::hs) (⟨D,i,ts⟩::ds) :=
 .cons ⟨⟨cn,n,np,pos,b0,suite,rfl,hg,hm,hi,hk,hdb,hsu⟩,xc⟩ r
def TyX(K:oN)(H:Hp)(x:V)(t:oP):Prop:=YE K H x t\/(∃a C dx fs,x=.ref a/\t=.ref C/\XAt H a C dx fs/\XI K C)\/(∃a xs,x=.ref a/\t=.type "list"/\SqL K H a xs)\/∃a xs,x=.ref a/\t=.type "tuple"/\SqT K H a xs
def zb0(K:oN):List V->Hp->VK->Prop:=λxs H Q=>∃x c u t b,xs=[x,c]/\cV c=sI u/\TyX K H x t/\aQ K t u=sI b/\Q (.bl b) H
theorem zch{X:Cx}:wL X (.builtin "isinstance") (zb0 X.K):=by
 intro sM s σ H xs us Q I r h
 obtain⟨x,c,u,t,b,rfl,hc,ty,e,q⟩:=h
 rcases ty with ty | ⟨a,C,dx,fs,rfl,rfl,ha,xi⟩ | ⟨a,ys,rfl,rfl,hq⟩ | ⟨a,ys,rfl,rfl,hq⟩
 ·exact UP sM s σ H _ us Q I r ⟨x,c,u,t,b,rfl,hc,ty,e,q⟩
 ·exact Vq sM s σ H _ us Q I r ⟨a,C,dx,fs,c,u,b,rfl,hc,ha,xi,e,q⟩
 all_goals
  obtain⟨v,w',rfl,rx,rc⟩:=ZO r
  have:w'=u:=by
   cases c with
   | ty n=>cases hc;exact rc
   | ref a=>cases hc;exact rc
   | _=>cases hc
  subst this
  cases rx
 ·obtain⟨its,_,p,_⟩:=I.list hq
  obtain⟨o,h1,h2,_⟩:=p.isList
  exact bf ef I.kIn ⟨o,h1,h2⟩ e (λz=>nomatch z) λtk=>⟨.bl b,H,I.tok tk,rfl,q⟩
 ·obtain⟨its,_,p,_⟩:=I.tuple hq
  obtain⟨o,h1,h2,_⟩:=p
  exact bf fv I.kIn ⟨o,h1,h2⟩ e (λz=>nomatch z) λtk=>⟨.bl b,H,I.tok tk,rfl,q⟩
theorem yO{X:Cx}{e:oY}{te:TE}{c:oV}{n:String}{p q pos:pW}(h1:Gl X "isinstance")(h2:X.mg "isinstance" = sJ)(he:PE X e te)(hg:Gl X c)(hm:X.mg c=sJ)(hv:pF c=sI (.type n))(hn:c≠"__name__":=by decide)(hd:(c == ("__debug__" : oV))=sL:=by decide)
  (hs1:oK [e,.Name c q] X.env=(sL,eval e X.env)::oK [.Name c q] X.env:=by rfl) (hs3:oK [.Name c q] X.env=(sL,eval (.Name c q) X.env)::oK [] X.env:=by rfl) (hs2:(pq pos (oK [.Name c q] X.env)).any (·.1)=sL:=by rfl):PE X (.Call (.Name "isinstance" p) [e,.Name c q] [] pos) (tCB (zb0 X.K) (zJ te (zJ (tC (.ty n)) xS))) :=
 zm zch h1 h2 boot_isinstance (za he (za (Kr hg hm hv rfl hn hd) ze hs3) hs1) (he:=hs1) (hpl:=hs2)
theorem zbf{a:oO}:cV (.ref a)=sI (.ref a):=rfl
theorem zbX{n:String}:cV (.ty n)=sI (.type n):=rfl
theorem zdm{P w K mg base N q sc f cd A o s H}:(cxH P w K mg base N q sc f cd A o s H).K=K:=rfl
def Ua:V->List V->Hp->VK->Prop:=λx xs H Q=>∃z y,x=.str z/\xs=[.str y]/\Q (.int (Txt.count z y)) H
theorem Wy{X:Cx}:MtR X "str.count" Ua:=UV
def Qz:V->List V->Hp->VK->Prop:=λx xs H Q=>∃z y,x=.str z/\xs=[.str y]/\Q (.int (Txt.find z y)) H
theorem QU{X:Cx}:MtR X "str.find" Qz:=VJ
theorem Wh(l:List Nat)(c:Nat):Txt.count (tx l) (tx [c])=(l.count c:Int):=by
 have h:∀l:List Nat,cnt c l=(l.count c:Int):=λl=>by
  induction l with
  | nil=>rfl
  | cons n r ih =>
   rw[cnt_cons,ih,List.count_cons]
   by_cases e:n=c
   ·subst e;simp;lia
   ·have:(n == c)=sL:=by simpa using e
    simp [e,this]
 exact (PyProof.Rows.count_is (tx l) c).trans (h l)
theorem lt1{a b:Nat}:([a]:List Nat) < [b] ↔ a<b:=by rw[List.cons_lt_cons_iff];exact⟨λh=>h.elim id λ⟨_,q⟩=>absurd q (List.not_lt_nil _),.inl⟩
theorem WI{l:List Nat}{k v:Nat}(h:l[k]? = sI v):(v::(l.take k ++ l.drop (k+1))).Perm l:=by
 obtain⟨hk,e⟩:=sQ.mp h
 have e2:l.take k ++ (v::l.drop (k+1))=l:=by
  rw[<- e,<- aV hk,aZ]
 exact (List.perm_middle.symm.trans (by rw[e2]))
def JR(K:oN):List V->Hp->VK->Prop:=λxs H Q=>∃x n,xs=[x]/\zcm K x H n/\Q (.int n) H
theorem zZ{X:Cx}:wL X (.builtin "len") (JR X.K):=U5
def ForR(lo:Int)(n:Nat)(g:TG)(tb:TS)(D:vg)(σ:St)(H:Hp):Prop:=∃W:Nat->Nat->St->Hp->Prop,(∃m,W 0 m σ H)/\∀i m σ H,W i m σ H ->
 ((Itr lo n).stop i H/\D.nx σ H)\/((Itr lo n).go i H/\∃N:St->Hp->Prop,(∀σ' H',N σ' H'->∃m',m'<m/\W (i+1) m' σ' H')/\∀x H',(Itr lo n).yld i H x H'->g x σ H' λσ2 H2=>tb { D with nx:=N,ct:=N,bk:=D.nx } σ2 H2)
theorem zcb{ta:TA}{g:TG}{tb:TS}{D:vg}{σ:St}{H:Hp}:Qt (K1 ta) g tb D σ H=ta σ H λvs H1=>∃j:Int,vs=[.int j]/\-(2 ^ 62)<=j/\j<2 ^ 62/\ForR 0 j.toNat g tb D σ H1:=rfl
theorem zcd{ta:TA}{g:TG}{tb:TS}{D:vg}{σ:St}{H:Hp}:Qt (zaW ta) g tb D σ H=ta σ H λvs H1=>∃i j:Int,vs=[.int i,.int j]/\(-(2 ^ 62)<=i/\i<2 ^ 62/\-(2 ^ 62)<=j/\j<2 ^ 62)/\ForR i (j - i).toNat g tb D σ H1:=rfl
theorem ForR.by{lo:Int}{n:Nat}{g:TG}{tb:TS}{D:vg}{σ:St}{H:Hp}(Pv:Nat->St->Hp->Prop)(h0:Pv 0 σ H)
  (hs:∀i σ H,i<n->Pv i σ H->g (.int (lo+i)) σ H λσ2 H2=>tb { D with nx:=Pv (i+1),ct:=Pv (i+1),bk:=D.nx } σ2 H2) (hd:∀σ H,Pv n σ H->D.nx σ H):ForR lo n g tb D σ H:=Wd Pv h0 hs hd
def ForL(K:oN)(a:oO)(g:TG)(tb:TS)(D:vg)(σ:St)(H:Hp):Prop:=∃W:Nat->Nat->St->Hp->Prop,(∃m,W 0 m σ H)/\∀i m σ H,W i m σ H ->
 ((Itl K a).stop i H/\D.nx σ H)\/((Itl K a).go i H/\∃N:St->Hp->Prop,(∀σ' H',N σ' H'->∃m',m'<m/\W (i+1) m' σ' H')/\∀x H',(Itl K a).yld i H x H'->g x σ H' λσ2 H2=>tb { D with nx:=N,ct:=N,bk:=D.nx } σ2 H2)
theorem zdp{K:oN}{tl:TE}{g:TG}{tb:TS}{D:vg}{σ:St}{H:Hp}:Qt (KA K tl) g tb D σ H=tl σ H λx H1=>∃a,x=.ref a/\(∃xs,SqL K H1 a xs)/\ForL K a g tb D σ H1:=rfl
def ForS(x:oV)(g:TG)(tb:TS)(D:vg)(σ:St)(H:Hp):Prop:=∃W:Nat->Nat->St->Hp->Prop,(∃m,W 0 m σ H)/\∀i m σ H,W i m σ H ->
 ((Its x).stop i H/\D.nx σ H)\/((Its x).go i H/\∃N:St->Hp->Prop,(∀σ' H',N σ' H'->∃m',m'<m/\W (i+1) m' σ' H')/\∀v H',(Its x).yld i H v H'->g v σ H' λσ2 H2=>tb { D with nx:=N,ct:=N,bk:=D.nx } σ2 H2)
theorem zds{tl:TE}{g:TG}{tb:TS}{D:vg}{σ:St}{H:Hp}:Qt (zcu tl) g tb D σ H=tl σ H λv H1=>∃x,v=.str x/\ForS x g tb D σ H1:=rfl
theorem ForS.by{l:List Nat}{g:TG}{tb:TS}{D:vg}{σ:St}{H:Hp}(Pv:Nat->St->Hp->Prop)(h0:Pv 0 σ H)
  (hs:∀i c σ H,l[i]? = sI c->Pv i σ H->g (.str (tx [c])) σ H λσ2 H2=>tb { D with nx:=Pv (i+1),ct:=Pv (i+1),bk:=D.nx } σ2 H2) (hd:∀σ H,Pv l.length σ H->D.nx σ H):ForS (tx l) g tb D σ H:=J9 Pv h0 hs hd
def zdr(x:oV)(g:TG)(tb:TS)(D:vg)(σ:St)(H:Hp):Prop:=∃W:Nat->Nat->St->Hp->Prop,(∃m,W 0 m σ H)/\∀i m σ H,W i m σ H ->
 ((Ite x).stop i H/\D.nx σ H)\/((Ite x).go i H/\∃N:St->Hp->Prop,(∀σ' H',N σ' H'->∃m',m'<m/\W (i+1) m' σ' H')/\∀v H',(Ite x).yld i H v H'->g v σ H' λσ2 H2=>tb { D with nx:=N,ct:=N,bk:=D.nx } σ2 H2)
theorem zdn{ta:TA}{g:TG}{tb:TS}{D:vg}{σ:St}{H:Hp}:Qt (zck ta) g tb D σ H=ta σ H λvs H1=>∃x,vs=[.str x]/\zdr x g tb D σ H1:=rfl
theorem uk{α:Type}(l:List α){k:Int}(h:0<=k):cut l sJ (sI k)=l.take k.toNat:=by
 obtain⟨n,rfl⟩:=bI h
 unfold cut
 rw[HT.sIx_none,HT.sIx_nat,d4,Nat.sub_zero]
 by_cases q:n<=l.length
 ·rw[ci q];rfl
 ·rw[cZ (by lia),aK,ba (by simp;lia)]
theorem xx{α:Type}(l:List α){k:Int}(h:0<=k):cut l (sI k) sJ=l.drop k.toNat:=by
 obtain⟨n,rfl⟩:=bI h
 unfold cut
 rw[HT.sIx_none,HT.sIx_nat]
 by_cases q:n<=l.length
 ·rw[ci q]
  rw[ba (by rw[aR] <;> lia)]
  rfl
 ·rw[cZ (by lia),dI,aY (by simp;lia)]
  simp
theorem ZF{α:Type}{xs:List α}{i:Int}(h0:0<=i)(h1:i<xs.length):∃v,atI xs i=sI v/\xs[i.toNat]? = sI v:=by
 obtain⟨n,rfl⟩:=bI h0
 have hn:n<xs.length:=by lia
 exact⟨xs[n],vn (aj hn),aj hn⟩
noncomputable def alpha:List Nat:=[97,98,99,100,101,102,103,104,105,106,107,108,109,110,111,112,113,114,115,116,117,118,119,120,121,122]
theorem VF:(("abcdefghijklmnopqrstuvwxyz" : oV))=tx alpha:=by symm
theorem ya:(oM:Nat)=16777216:=pB
theorem cxK{CX P w K mg base N q sc f cd A o s H E}:(uL CX P w K mg base N q sc f cd A o s H E).K=K:=rfl
theorem cxP{CX P w K mg base N q sc f cd A o s H E}:(uL CX P w K mg base N q sc f cd A o s H E).prog=P:=rfl
theorem cxW{CX P w K mg base N q sc f cd A o s H E}:(uL CX P w K mg base N q sc f cd A o s H E).w=w:=rfl
theorem zbR{a b:Int}:Ku (.int a) (.int b)=sK:=rfl
theorem zbW{a b:oV}:Ku (.str a) (.str b)=sK:=rfl
theorem zcG{a b:Bool}:Ku (.bl a) (.bl b)=sK:=rfl
theorem zcB{b:oV}:Ku .non (.str b)=sK:=rfl
theorem zb5{b:oV}:Ku (.str b) .non=sK:=rfl
theorem zd{H:Hp}{p:oO}{o:HO}(h:H p=sJ):Same H (upd H p o):=λb u e=>by
 rw[zo (zF e h)]
 exact e
theorem zQ{α:Type}{l:List α}{i:Nat}{c:α}(h:l[i]? = sI c):l.take (i+1)=l.take i ++ [c]:=by
 rw[List.take_add_one,h];rfl
end L3
namespace L3
structure FunD(K:oN)(x qual:oV)(st:pb)(dV:oP)(f:oO)(fd:oS):Prop where
 ex:∃(oc:oP) (od:Option oO) (kV doc pm:oP) (an:Option oO) (cdv ct:oP) (osl:Array (Option oP)),
  fd=bp x qual (yB st) (z9 st) (zh st) dV kV doc pm an cdv ct/\K.lookup f=sI ⟨oc,od,.func fd,osl⟩/\bV K cdv qual=sK
theorem FunD.okX{P:oU}{w:oW}{K:oN}{mg:oV->Option oP}{base:oZ}{x qual:oV}{st:pb}{dV:oP}{f:oO}{fd:oS}{N ps:List oV}{k:Nat}{sp:Sp}(F:FunD K x qual st dV f fd)(S:zp N ps (zh st))(len:∀vs H Q E,sp vs H Q E->vs.length=ps.length)
  (hbody:∀(cdv:oP) (A:oX) (outer:List rP) (s:oQ) (H:Hp) (vs:List V) (Q:VK) (E:XK),Room k (A.deeper (rz qual (zh st) s.heap.objs.size f cdv))->XE (uL (CXx P w) P w K mg base N qual (zh st) f cdv A outer s H E) E->sp vs H Q E ->
   ∃t,PSs (uL (CXx P w) P w K mg base N qual (zh st) f cdv A outer s H E) (z9 st) t/\t { nx:=λ_ H'=>Q .non H',rt:=Q } (start N vs) H):z8 P w K mg base (CXx P w) (k+1) f fd ps sp:=by
 obtain⟨oc,od,kV,doc,pm,an,cdv,ct,osl,rfl,lk,hcd⟩:=F.ex
 exact QJ lk hcd S len λA outer s H vs Q E hr hsp=>hbody cdv A outer s H vs Q E hr zan hsp
def vz(C:oO)(f:oV):Sp:=λvs H Q _=>∃x v,vs=[.ref x,v]/\H x=sI (XN x C sJ)/\∀dx,H dx=sJ->Q .non (upd (upd H dx (.xd [(f,v)])) x (XN x C (sI dx)))
def zaX(H:Hp)(d:oO)(f:oV)(v:V)(H':Hp):Prop:=H d=sJ/\Same H H'/\H' d=sI (.xd [(f,v)])
theorem Ul{E:XK}{C:oO}{f:oV}{v:V}{H:Hp}(h:∀d H',zaX H d f v H'->E (.ref C) (sI d) H'):∀x,H x=sJ->vz C f [.ref x,v] (upd H x (XN x C sJ)) (λu H2=>u=.non/\∃dx,H2 x=sI (XN x C dx)/\E (.ref C) dx (del H2 x)) E0:=by
 intro x hx
 refine⟨x,v,rfl,zc,λdx hd=>⟨rfl,sI dx,zc,h dx _ ⟨?_,?_,?_⟩⟩⟩
 ·by_cases e:dx=x
  ·rw[e];exact hx
  ·rw[zo e] at hd;exact hd
 ·have hne:dx≠x:=λe=>by rw[e,zc] at hd;cases hd
  rw[zo hne] at hd
  intro b o q
  have b1:b≠x:=zF q hx
  have b2:b≠dx:=zF q hd
  rw[Vc b1,zo b1,zo b2,zo b1]
  exact q
 ·have hne:dx≠x:=λe=>by rw[e,zc] at hd;cases hd
  rw[Vc hne,zo hne,zc]
section
variable{X:Cx}
def zcE:R2:=λx y H Q=>∃c l,x=.str (tx [c])/\y=.str (tx l)/\Q (.bl (!decide (c ∈ l))) H
theorem zbp:OpR X (pc .NotIn) zcE:=by
 intro sM s σ H x y v u Q I rx ry h
 obtain⟨c,l,rfl,rfl,q⟩:=h
 refine Zh sM s σ H _ _ v u Q I rx ry ⟨_,_,rfl,rfl,?_⟩
 rw[zaU]
 exact q
def zdt:R2:=λx y H Q=>∃c l,x=.str (tx [c])/\y=.str (tx l)/\Q (.bl (decide (c ∈ l))) H
def zcK:R2:=λx y H Q=>y=.non/\Q (.bl (decide (x=.non))) H
theorem op_isN':OpR X (pc .Is) zcK:=zbx
def zaY:R2:=λx y H Q=>y=.non/\Q (.bl (!decide (x=.non))) H
theorem op_notN':OpR X (pc .IsNot) zaY:=Kk
def Kx:List V->Hp->VK->Prop:=λxs H Q=>∃i j,xs=[.int i,.int j]/\Q (.int (if j > i then j else i)) H
theorem V1(hc:X.calm=sK):wL X (.builtin "max") Kx:=WM hc
def rGe:R2:=λx y H Q=>∃i j,x=.int i/\y=.int j/\Q (.bl (decide (j<=i))) H
theorem op_ge':OpR X (pc .GtE) rGe:=zbU
def zdb(K:oN)(ta:TE):TT:=λσ H Q=>ta σ H λx H'=>∃k,zac K x H' k/\Q k H'
end
theorem uY:pF "max" = sI (.builtin "max"):=by symm
def Kc(ls l:List Nat)(m:Int)(k:Nat):Prop:=∃c,l[k]? = sI c/\(m<=k\/c ∉ ls)
def FB(ls l:List Nat)(m:Int)(k:Nat):Prop:=Kc ls l m k/\∀j<k,¬ Kc ls l m j
def NB(ls l:List Nat)(m:Int):Prop:=∀j,¬ Kc ls l m j
theorem FB.nb{ls l:List Nat}{m:Int}{k:Nat}(h:FB ls l m k)(n:NB ls l m):False:=n k h.1
end L3
namespace L3
inductive D where
 | non | bl (b:Bool) | int (i:Int) | str (x:oV) | lst (l:List D) | tup (l:List D)
mutual
def Is(K:oN)(H:Hp):D->V->Prop
 | .non,v=>v=.non
 | .bl b,v=>v=.bl b
 | .int i,v=>v=.int i
 | .str x,v=>v=.str x
 | .lst l,v=>∃a xs,v=.ref a/\SqL K H a xs/\Iss K H l xs
 | .tup l,v=>∃a xs,v=.ref a/\SqT K H a xs/\Iss K H l xs
def Iss(K:oN)(H:Hp):List D->List V->Prop
 | [],vs=>vs=[]
 | d::l,vs=>∃v r,vs=v::r/\Is K H d v/\Iss K H l r
end
mutual
noncomputable def eqD:D->D->Bool
 | .non,.non=>sK
 | .bl a,.bl b=>a == b
 | .bl a,.int b=>(if a then 1 else 0) == b
 | .int a,.bl b=>a == (if b then 1 else 0)
 | .int a,.int b=>a == b
 | .str a,.str b=>a == b
 | .lst l,.lst m=>uZ l m
 | .tup l,.tup m=>uZ l m
 | _,_=>sL
noncomputable def uZ:List D->List D->Bool
 | [],[]=>sK
 | d::l,e::m=>eqD d e && uZ l m
 | _,_=>sL
end
mutual
noncomputable def dpD:D->Nat
 | .lst l=>vM l+1
 | .tup l=>vM l+1
 | _=>0
noncomputable def vM:List D->Nat
 | []=>0
 | d::l=>max (dpD d) (vM l)
end
theorem JE:∀{l:List D} {j:Nat} {d:D},l[j]? = sI d->dpD d<=vM l
 | d::l,0,_,h=>by
  cases h
  simp only[vM]
  lia
 | d::l,j+1,e,h=>by
  have:=JE (l:=l) (j:=j) (d:=e) h
  simp only[vM]
  lia
mutual
theorem jO:∀d:D,eqD d d=sK
 | .non=>rfl
 | .bl b=>by simp [eqD]
 | .int i=>by simp [eqD]
 | .str x=>by simp [eqD]
 | .lst l=>by simp only[eqD];exact vB l
 | .tup l=>by simp only[eqD];exact vB l
theorem vB:∀l:List D,uZ l l=sK
 | []=>rfl
 | d::l=>by simp only[uZ,jO d,vB l,Bool.and_self]
end
theorem Iss.len{K:oN}{H:Hp}:∀{l:List D} {vs:List V},Iss K H l vs->vs.length=l.length
 | [],vs,h=>by simp only[Iss] at h;rw[h];rfl
 | d::l,vs,h=>by
  simp only[Iss] at h
  obtain⟨v,r,rfl,_,h2⟩:=h
  simp only[aN,Iss.len h2]
theorem Iss.at{K:oN}{H:Hp}:∀{l:List D} {vs:List V} {j:Nat} {d:D},Iss K H l vs->l[j]? = sI d->∃v,vs[j]? = sI v/\Is K H d v
 | d::l,vs,0,_,h,q=>by
  cases q
  simp only[Iss] at h
  obtain⟨v,r,rfl,h1,_⟩:=h
  exact⟨v,rfl,h1⟩
 | d::l,vs,j+1,e,h,q=>by
  simp only[Iss] at h
  obtain⟨v,r,rfl,_,h2⟩:=h
  exact Iss.at (j:=j) h2 q
theorem Iss.append{K:oN}{H:Hp}:∀{l m:List D} {vs us:List V},Iss K H l vs->Iss K H m us->Iss K H (l ++ m) (vs ++ us)
 | [],m,vs,us,h,g=>by simp only[Iss] at h;rw[h];exact g
 | d::l,m,vs,us,h,g=>by
  simp only[Iss] at h
  obtain⟨v,r,rfl,h1,h2⟩:=h
  simp only[bJ,Iss]
  exact⟨v,r ++ us,rfl,h1,Iss.append h2 g⟩
theorem Iss.ints{K:oN}{H:Hp}:∀(l:List Int),Iss K H (l.map D.int) (l.map V.int)
 | []=>by simp only[aP,Iss]
 | i::l=>by
  simp only[au,Iss,Is]
  exact⟨_,_,rfl,rfl,Iss.ints l⟩
theorem zj{K:oN}{H H':Hp}{a:oO}{xs:List V}(e:Same H H')(h:SqT K H a xs):SqT K H' a xs:=by
 rcases h with (h | ⟨o,h⟩) | h
 ·exact .inl (.inl (e _ _ h))
 ·exact .inl (.inr ⟨o,e _ _ h⟩)
 ·exact .inr h
mutual
theorem Is.same{K:oN}{H H':Hp}(e:Same H H'):∀(d:D) (v:V),Is K H d v->Is K H' d v
 | .non,v,h=>by simp only[Is] at h ⊢;exact h
 | .bl b,v,h=>by simp only[Is] at h ⊢;exact h
 | .int b,v,h=>by simp only[Is] at h ⊢;exact h
 | .str b,v,h=>by simp only[Is] at h ⊢;exact h
 | .lst l,v,h=>by
  simp only[Is] at h ⊢
  obtain⟨a,xs,e1,e2,e3⟩:=h
  exact⟨a,xs,e1,e.seq e2,Iss.same e l xs e3⟩
 | .tup l,v,h=>by
  simp only[Is] at h ⊢
  obtain⟨a,xs,e1,e2,e3⟩:=h
  exact⟨a,xs,e1,zj e e2,Iss.same e l xs e3⟩
theorem Iss.same{K:oN}{H H':Hp}(e:Same H H'):∀(l:List D) (vs:List V),Iss K H l vs->Iss K H' l vs
 | [],vs,h=>by simp only[Iss] at h ⊢;exact h
 | d::l,vs,h=>by
  simp only[Iss] at h ⊢
  obtain⟨v,r,e1,e2,e3⟩:=h
  exact⟨v,r,e1,Is.same e d v e2,Iss.same e l r e3⟩
end
theorem xH:∀(l m:List D),uZ l m=((aW (min l.length m.length)).all (λj=>eqD (l.getD j .non) (m.getD j .non)) && l.length == m.length)
 | [],[]=>rfl
 | [],e::m=>by simp [uZ]
 | d::l,[]=>by simp [uZ]
 | d::l,e::m=>by
  simp only[uZ,xH l m,aN]
  have h1:min (l.length+1) (m.length+1)=min l.length m.length+1:=by lia
  rw[h1,dB,fo,List.all_map]
  have h2:(l.length+1 == m.length+1)=(l.length == m.length):=by
   rw[df,beq_iff_eq,beq_iff_eq];lia
  rw[h2]
  simp only[List.getD_cons_zero,Bool.and_assoc]
  rfl
section
variable{X:Cx}{sM:List (oO × pE)}{σ:St}{H:Hp}{s:oQ}
theorem ZE{a:oO}{xs ys:List V}(I:Inv X sM σ H s)(h:SqL X.K H a xs)(g:SqT X.K H a ys):False:=by
 obtain⟨its,r,⟨o,n,e,c,_,d⟩,_⟩:=I.list h
 obtain⟨its',r',⟨o',e',c',n',d'⟩,_⟩:=I.tuple g
 rw[e] at e'
 cases e'
 rw[c] at c'
 exact absurd (Value.type.inj c') (by decide)
mutual
theorem VW(I:Inv X sM σ H s):∀(d e:D) (v:V),Is X.K H d v->Is X.K H e v->d=e
 | .lst l,.lst m,v,h,g=>by
  simp only[Is] at h g
  obtain⟨a,xs,rfl,h1,h2⟩:=h
  obtain⟨b,ys,e,g1,g2⟩:=g
  cases e
  have:=I.list_inj h1 g1
  subst this
  rw[Yb I l m xs h2 g2]
 | .tup l,.tup m,v,h,g=>by
  simp only[Is] at h g
  obtain⟨a,xs,rfl,h1,h2⟩:=h
  obtain⟨b,ys,e,g1,g2⟩:=g
  cases e
  have:=I.tuple_inj h1 g1
  subst this
  rw[Yb I l m xs h2 g2]
 | .lst l,.tup m,v,h,g=>by
  simp only[Is] at h g
  obtain⟨a,xs,rfl,h1,h2⟩:=h
  obtain⟨b,ys,e,g1,g2⟩:=g
  cases e
  exact (ZE I h1 g1).elim
 | .tup l,.lst m,v,h,g=>by
  simp only[Is] at h g
  obtain⟨a,xs,rfl,h1,h2⟩:=h
  obtain⟨b,ys,e,g1,g2⟩:=g
  cases e
  exact (ZE I g1 h1).elim
 | .lst l,.non,v,h,g=>by simp only[Is] at h g;obtain⟨a,xs,rfl,_⟩:=h;cases g
 | .lst l,.bl _,v,h,g=>by simp only[Is] at h g;obtain⟨a,xs,rfl,_⟩:=h;cases g
 | .lst l,.int _,v,h,g=>by simp only[Is] at h g;obtain⟨a,xs,rfl,_⟩:=h;cases g
 | .lst l,.str _,v,h,g=>by simp only[Is] at h g;obtain⟨a,xs,rfl,_⟩:=h;cases g
 | .tup l,.non,v,h,g=>by simp only[Is] at h g;obtain⟨a,xs,rfl,_⟩:=h;cases g
 | .tup l,.bl _,v,h,g=>by simp only[Is] at h g;obtain⟨a,xs,rfl,_⟩:=h;cases g
 | .tup l,.int _,v,h,g=>by simp only[Is] at h g;obtain⟨a,xs,rfl,_⟩:=h;cases g
 | .tup l,.str _,v,h,g=>by simp only[Is] at h g;obtain⟨a,xs,rfl,_⟩:=h;cases g
 | .non,e,v,h,g=>by
  simp only[Is] at h
  subst h
  cases e <;> simp only[Is] at g
  all_goals first | rfl | (obtain⟨a,xs,q,_⟩:=g;cases q) | cases g
 | .bl _,e,v,h,g=>by
  simp only[Is] at h
  subst h
  cases e <;> simp only[Is] at g
  all_goals first | (cases g;rfl) | (obtain⟨a,xs,q,_⟩:=g;cases q) | cases g
 | .int _,e,v,h,g=>by
  simp only[Is] at h
  subst h
  cases e <;> simp only[Is] at g
  all_goals first | (cases g;rfl) | (obtain⟨a,xs,q,_⟩:=g;cases q) | cases g
 | .str _,e,v,h,g=>by
  simp only[Is] at h
  subst h
  cases e <;> simp only[Is] at g
  all_goals first | (cases g;rfl) | (obtain⟨a,xs,q,_⟩:=g;cases q) | cases g
theorem Yb(I:Inv X sM σ H s):∀(l m:List D) (vs:List V),Iss X.K H l vs->Iss X.K H m vs->l=m
 | [],[],_,_,_=>rfl
 | [],e::m,vs,h,g=>by
  simp only[Iss] at h g
  subst h
  obtain⟨_,_,q,_⟩:=g
  cases q
 | d::l,[],vs,h,g=>by
  simp only[Iss] at h g
  subst g
  obtain⟨_,_,q,_⟩:=h
  cases q
 | d::l,e::m,vs,h,g=>by
  simp only[Iss] at h g
  obtain⟨v,r,rfl,h1,h2⟩:=h
  obtain⟨v',r',q,g1,g2⟩:=g
  cases q
  rw[VW I d e v h1 g1,Yb I l m r h2 g2]
end
theorem xI:∀{xs:List V} {us:List oP} {j:Nat} {x:V},Vals xs us->xs[j]? = sI x->∃u,us[j]? = sI u/\RelV x u
 | _,_,0,_,.cons r t,h=>by cases h;exact⟨_,rfl,r⟩
 | _,_,j+1,_,.cons r t,h=>xI (j:=j) t h
theorem xy{l m:List D}{xs ys:List V}{its its':List oP}{A:oX}{n:Nat}(hl:Iss X.K H l xs)(hm:Iss X.K H m ys)(r:Vals xs its)(r':Vals ys its')(hn:vM l<n)
  (ih:∀(d e:D) (x y:V) (u v:oP),dpD d<n->Is X.K H d x->Is X.K H e y->RelV x u->RelV y v->SeqAt.EqAt A s u v (eqD d e)) :
  ∀j (h1:j<its.toArray.size) (h2:j<its'.toArray.size),SeqAt.EqAt A s its.toArray[j] its'.toArray[j] (eqD (l.getD j .non) (m.getD j .non)):=by
 intro j h1 h2
 rw[al] at h1 h2
 have e1:=hl.len
 have e2:=hm.len
 have e3:=r.length
 have e4:=r'.length
 have g1:l[j]? = sI l[j]:=aj (by lia)
 have g2:m[j]? = sI m[j]:=aj (by lia)
 generalize l[j]=d at g1
 generalize m[j]=e at g2
 obtain⟨x,hx,ix⟩:=hl.at g1
 obtain⟨y,hy,iy⟩:=hm.at g2
 obtain⟨u,hu,ru⟩:=xI r hx
 obtain⟨v,hv,rv⟩:=xI r' hy
 have q1:its.toArray[j]=u:=by
  have:=(sQ.mp hu).2
  simpa using this
 have q2:its'.toArray[j]=v:=by
  have:=(sQ.mp hv).2
  simpa using this
 rw[q1,q2,af,af,g1,g2]
 exact ih d e x y u v (cL (JE g1) hn) ix iy ru rv
theorem qk(I:Inv X sM σ H s):∀(n:Nat) (A:oX) (d e:D) (x y:V) (u v:oP),A.units+n<cLine->dpD d<n->Is X.K H d x->Is X.K H e y->RelV x u->RelV y v->SeqAt.EqAt A s u v (eqD d e):=by
 intro n
 induction n with
 | zero=>intro A d e x y u v _ h;exact absurd h (cz _)
 | succ n ih =>
  intro A d e x y u v hu hd hx hy rx ry
  have hu1:A.units<cLine:=by lia
  have huA:A.in1.units+n<cLine:=by show A.units+1+n<cLine;lia
  cases d with
  | lst l =>
   simp only[Is] at hx
   obtain⟨a,xs,rfl,h1,h2⟩:=hx
   cases rx
   obtain⟨its,r,p,_⟩:=I.list h1
   cases e with
   | non=>simp only[Is] at hy;subst hy;cases ry;exact SeqAt.EqAt.list_none p.isList hu1
   | bl b=>simp only[Is] at hy;subst hy;cases ry;exact SeqAt.EqAt.list_bool b p.isList hu1
   | int b=>simp only[Is] at hy;subst hy;obtain⟨t,rfl⟩:=ry;exact SeqAt.EqAt.list_int b t p.isList hu1
   | str b=>simp only[Is] at hy;subst hy;obtain⟨t,rfl⟩:=ry;exact SeqAt.EqAt.list_str b t p.isList hu1
   | tup m =>
    simp only[Is] at hy
    obtain⟨b,ys,rfl,g1,g2⟩:=hy
    cases ry
    obtain⟨its',r',p',_⟩:=I.tuple g1
    exact SeqAt.EqAt.list_tuple p.isList p' hu1
   | lst m =>
    have hy':=hy
    simp only[Is] at hy
    obtain⟨b,ys,rfl,g1,g2⟩:=hy
    cases ry
    obtain⟨its',r',p',_⟩:=I.list g1
    simp only[dpD] at hd
    by_cases hab:a=b
    ·subst hab
     have:=VW I (.lst l) (.lst m) (.ref a) (by simp only[Is];exact⟨a,xs,rfl,h1,h2⟩) hy'
     rw[this,jO]
     exact SeqAt.EqAt.same _
    ·refine .of_refs hab ?_
     simp only[eqD]
     have L1:=h2.len
     have L2:=g2.len
     have L3:=r.length
     have L4:=r'.length
     by_cases hl:l.length=m.length
     ·have:=SeqAt.RcAt.lists (A:=A) p.isList p'.isList (by simp only[al];lia) hu1 (xy h2 g2 r r' (n:=n) (by lia) λd e x y u v q1 q2 q3 q4 q5=>ih A.in1 d e x y u v huA q1 q2 q3 q4 q5)
      rw[xH,hl,eE,beq_self_eq_true,d9]
      have e1:its.toArray.size=m.length:=by simp only[al];lia
      rw[e1] at this
      exact this
     ·rw[xH,beq_eq_false_iff_ne.mpr hl,dZ]
      exact SeqAt.RcAt.lists_lengths p.isList p'.isList (by rw[bne_iff_ne];simp only[al];lia) hu1
  | tup l =>
   simp only[Is] at hx
   obtain⟨a,xs,rfl,h1,h2⟩:=hx
   cases rx
   obtain⟨its,r,p,_⟩:=I.tuple h1
   cases e with
   | non=>simp only[Is] at hy;subst hy;cases ry;exact SeqAt.EqAt.tuple_none p hu1
   | bl b=>simp only[Is] at hy;subst hy;cases ry;exact SeqAt.EqAt.tuple_bool b p hu1
   | int b=>simp only[Is] at hy;subst hy;obtain⟨t,rfl⟩:=ry;exact SeqAt.EqAt.tuple_int b t p hu1
   | str b=>simp only[Is] at hy;subst hy;obtain⟨t,rfl⟩:=ry;exact SeqAt.EqAt.tuple_str b t p hu1
   | lst m =>
    simp only[Is] at hy
    obtain⟨b,ys,rfl,g1,g2⟩:=hy
    cases ry
    obtain⟨its',r',p',_⟩:=I.list g1
    exact SeqAt.EqAt.tuple_list p p'.isList hu1
   | tup m =>
    have hy':=hy
    simp only[Is] at hy
    obtain⟨b,ys,rfl,g1,g2⟩:=hy
    cases ry
    obtain⟨its',r',p',_⟩:=I.tuple g1
    simp only[dpD] at hd
    by_cases hab:a=b
    ·subst hab
     have:=VW I (.tup l) (.tup m) (.ref a) (by simp only[Is];exact⟨a,xs,rfl,h1,h2⟩) hy'
     rw[this,jO]
     exact SeqAt.EqAt.same _
    ·refine .of_refs hab ?_
     simp only[eqD]
     have L1:=h2.len
     have L2:=g2.len
     have L3:=r.length
     have L4:=r'.length
     have:=SeqAt.RcAt.tuples (A:=A) p p' hu1 (xy h2 g2 r r' (n:=n) (by lia) λd e x y u v q1 q2 q3 q4 q5=>ih A.in1 d e x y u v huA q1 q2 q3 q4 q5)
     rw[xH]
     simp only[al] at this
     rw[<- L1,<- L2,L3,L4]
     exact this
  | non =>
   simp only[Is] at hx
   subst hx
   cases e with
   | lst m =>
    simp only[Is] at hy
    obtain⟨b,ys,rfl,g1,g2⟩:=hy
    cases rx;cases ry
    obtain⟨its',r',p',_⟩:=I.list g1
    exact SeqAt.EqAt.none_list p'.isList hu1
   | tup m =>
    simp only[Is] at hy
    obtain⟨b,ys,rfl,g1,g2⟩:=hy
    cases rx;cases ry
    obtain⟨its',r',p',_⟩:=I.tuple g1
    exact SeqAt.EqAt.none_tuple p' hu1
   | _=>simp only[Is] at hy;subst hy;exact YO rx ry rfl rfl
  | bl c =>
   simp only[Is] at hx
   subst hx
   cases e with
   | lst m =>
    simp only[Is] at hy
    obtain⟨b,ys,rfl,g1,g2⟩:=hy
    cases rx;cases ry
    obtain⟨its',r',p',_⟩:=I.list g1
    exact SeqAt.EqAt.bool_list _ p'.isList hu1
   | tup m =>
    simp only[Is] at hy
    obtain⟨b,ys,rfl,g1,g2⟩:=hy
    cases rx;cases ry
    obtain⟨its',r',p',_⟩:=I.tuple g1
    exact SeqAt.EqAt.bool_tuple _ p' hu1
   | _=>simp only[Is] at hy;subst hy;exact YO rx ry rfl rfl
  | int c =>
   simp only[Is] at hx
   subst hx
   cases e with
   | lst m =>
    simp only[Is] at hy
    obtain⟨b,ys,rfl,g1,g2⟩:=hy
    obtain⟨t,rfl⟩:=rx;cases ry
    obtain⟨its',r',p',_⟩:=I.list g1
    exact SeqAt.EqAt.int_list _ _ p'.isList hu1
   | tup m =>
    simp only[Is] at hy
    obtain⟨b,ys,rfl,g1,g2⟩:=hy
    obtain⟨t,rfl⟩:=rx;cases ry
    obtain⟨its',r',p',_⟩:=I.tuple g1
    exact SeqAt.EqAt.int_tuple _ _ p' hu1
   | _=>simp only[Is] at hy;subst hy;exact YO rx ry rfl rfl
  | str c =>
   simp only[Is] at hx
   subst hx
   cases e with
   | lst m =>
    simp only[Is] at hy
    obtain⟨b,ys,rfl,g1,g2⟩:=hy
    obtain⟨t,rfl⟩:=rx;cases ry
    obtain⟨its',r',p',_⟩:=I.list g1
    exact SeqAt.EqAt.str_list _ _ p'.isList hu1
   | tup m =>
    simp only[Is] at hy
    obtain⟨b,ys,rfl,g1,g2⟩:=hy
    obtain⟨t,rfl⟩:=rx;cases ry
    obtain⟨its',r',p',_⟩:=I.tuple g1
    exact SeqAt.EqAt.str_tuple _ _ p' hu1
   | _=>simp only[Is] at hy;subst hy;exact YO rx ry rfl rfl
def zcR(K:oN):R2:=λx y H Q=>∃l m,((Is K H (.lst l) x/\Is K H (.lst m) y)\/(Is K H (.tup l) x/\Is K H (.tup m) y))/\vM l<50/\Q (.bl (uZ l m)) H
def zc2(K:oN):R2:=λx y H Q=>∃l m,((Is K H (.lst l) x/\Is K H (.lst m) y)\/(Is K H (.tup l) x/\Is K H (.tup m) y))/\vM l<50/\Q (.bl (!uZ l m)) H
theorem zaq(hu:X.A.units+100<cLine):OpR X (pc .Eq) (zcR X.K):=by
 intro sM s σ H x y v u Q I rx ry h
 obtain⟨l,m,hh,hd,q⟩:=h
 have hu1:X.A.units<cLine:=by lia
 have huA:X.A.in1.units+50<cLine:=by show X.A.units+1+50<cLine;lia
 rcases hh with ⟨hx,hy⟩ | ⟨hx,hy⟩
 ·simp only[Is] at hx hy
  obtain⟨a,xs,rfl,h1,h2⟩:=hx
  obtain⟨b,ys,rfl,g1,g2⟩:=hy
  cases rx;cases ry
  obtain⟨its,r,p,_⟩:=I.list h1
  obtain⟨its',r',p',_⟩:=I.list g1
  have L1:=h2.len
  have L2:=g2.len
  have L3:=r.length
  have L4:=r'.length
  by_cases hl:l.length=m.length
  ·have:=SeqAt.RcAt.lists (A:=X.A) p.isList p'.isList (by simp only[al];lia) hu1 (xy h2 g2 r r' (n:=50) hd λd e x y u v q1 q2 q3 q4 q5=>qk I 50 X.A.in1 d e x y u v huA q1 q2 q3 q4 q5)
   have e1:its.toArray.size=m.length:=by simp only[al];lia
   rw[e1] at this
   rw[xH,hl,eE,beq_self_eq_true,d9] at q
   exact this X.prog X.w X.xe _ ⟨.bl _,H,I,rfl,q⟩
  ·rw[xH,beq_eq_false_iff_ne.mpr hl,dZ] at q
   exact SeqAt.RcAt.lists_lengths p.isList p'.isList (by rw[bne_iff_ne];simp only[al];lia) hu1 X.prog X.w X.xe _ ⟨.bl _,H,I,rfl,q⟩
 ·simp only[Is] at hx hy
  obtain⟨a,xs,rfl,h1,h2⟩:=hx
  obtain⟨b,ys,rfl,g1,g2⟩:=hy
  cases rx;cases ry
  obtain⟨its,r,p,_⟩:=I.tuple h1
  obtain⟨its',r',p',_⟩:=I.tuple g1
  have L1:=h2.len
  have L2:=g2.len
  have L3:=r.length
  have L4:=r'.length
  have:=SeqAt.RcAt.tuples (A:=X.A) p p' hu1 (xy h2 g2 r r' (n:=50) hd λd e x y u v q1 q2 q3 q4 q5=>qk I 50 X.A.in1 d e x y u v huA q1 q2 q3 q4 q5)
  simp only[al] at this
  rw[xH,<- L1,<- L2,L3,L4] at q
  exact this X.prog X.w X.xe _ ⟨.bl _,H,I,rfl,q⟩
theorem za9(hu:X.A.units+100<cLine):OpR X (pc .NotEq) (zc2 X.K):=by
 intro sM s σ H x y v u Q I rx ry h
 obtain⟨l,m,hh,hd,q⟩:=h
 have hu1:X.A.units<cLine:=by lia
 have huA:X.A.in1.units+50<cLine:=by show X.A.units+1+50<cLine;lia
 rcases hh with ⟨hx,hy⟩ | ⟨hx,hy⟩
 ·simp only[Is] at hx hy
  obtain⟨a,xs,rfl,h1,h2⟩:=hx
  obtain⟨b,ys,rfl,g1,g2⟩:=hy
  cases rx;cases ry
  obtain⟨its,r,p,_⟩:=I.list h1
  obtain⟨its',r',p',_⟩:=I.list g1
  have L1:=h2.len
  have L2:=g2.len
  have L3:=r.length
  have L4:=r'.length
  by_cases hl:l.length=m.length
  ·have:=SeqAt.RcNeAt.lists (A:=X.A) p.isList p'.isList (by simp only[al];lia) hu1 (xy h2 g2 r r' (n:=50) hd λd e x y u v q1 q2 q3 q4 q5=>qk I 50 X.A.in1 d e x y u v huA q1 q2 q3 q4 q5)
   have e1:its.toArray.size=m.length:=by simp only[al];lia
   rw[e1] at this
   rw[xH,hl,eE,beq_self_eq_true,d9] at q
   exact this X.prog X.w X.xe _ ⟨.bl _,H,I,rfl,q⟩
  ·rw[xH,beq_eq_false_iff_ne.mpr hl,dZ] at q
   exact SeqAt.RcNeAt.lists_lengths p.isList p'.isList (by rw[bne_iff_ne];simp only[al];lia) hu1 X.prog X.w X.xe _ ⟨.bl _,H,I,rfl,q⟩
 ·simp only[Is] at hx hy
  obtain⟨a,xs,rfl,h1,h2⟩:=hx
  obtain⟨b,ys,rfl,g1,g2⟩:=hy
  cases rx;cases ry
  obtain⟨its,r,p,_⟩:=I.tuple h1
  obtain⟨its',r',p',_⟩:=I.tuple g1
  have L1:=h2.len
  have L2:=g2.len
  have L3:=r.length
  have L4:=r'.length
  have:=SeqAt.RcNeAt.tuples (A:=X.A) p p' hu1 (xy h2 g2 r r' (n:=50) hd λd e x y u v q1 q2 q3 q4 q5=>qk I 50 X.A.in1 d e x y u v huA q1 q2 q3 q4 q5)
  simp only[al] at this
  rw[xH,<- L1,<- L2,L3,L4] at q
  exact this X.prog X.w X.xe _ ⟨.bl _,H,I,rfl,q⟩
end
theorem kH(l m:List Int):uZ (l.map D.int) (m.map D.int)=decide (l=m):=by
 induction l generalizing m with
 | nil=>cases m <;> simp [uZ]
 | cons a l ih =>
  cases m with
  | nil=>simp [uZ]
  | cons b m =>
   simp only[au,uZ,eqD,ih m]
   by_cases h1:a=b
   ·subst h1
    by_cases h2:l=m
    ·simp [h2]
    ·simp [h2]
   ·simp [h1]
theorem kd(l:List Int):vM (l.map D.int)=0:=by
 induction l with
 | nil=>rfl
 | cons a l ih=>simp only[au,vM,dpD,ih];rfl
abbrev CNx(n i:Nat)(Pv:Nat->List V->Hp->Prop)(sP:List V)(H:Hp):Prop:=∃m',m'<n - i/\(m'=n - (i+1)/\i+1<=n/\Pv (i+1) sP H)
theorem CNx.mk{n i:Nat}{Pv:Nat->List V->Hp->Prop}{sP:List V}{H:Hp}(hi:i<n)(h:Pv (i+1) sP H):CNx n i Pv sP H:=⟨n - (i+1),by lia,rfl,hi,h⟩
def Ys(J:It)(g:TG)(tt:TT)(te:TE)(own:Nat)(ix:List Nat)(σ:St)(H1:Hp)(Q:VK)(D:oO):Prop:=∃W:Nat->Nat->List V->Hp->Prop,(∃m,W 0 m [] (upd H1 D (.lst []))) /\
 ∀i m sP H',W i m sP H'->(J.stop i H'/\Q (.ref D) H')\/(J.go i H'/\∀x H2,J.yld i H' x H2->g x (wX σ own ix) H2 λσ3 H3=>yN (wX σ own ix) σ3/\tt σ3 H3 λb H4=>if b=sK then
  te σ3 H4 λv H5=>H5 D=sI (.lst sP)/\sP.length<oM/\∃m',m'<m/\W (i+1) m' (sP ++ [v]) (upd H5 D (.lst (sP ++ [v])))
  else ∃m',m'<m/\W (i+1) m' sP H4)
def CompR(lo:Int)(n:Nat)(g:TG)(tt:TT)(te:TE)(own:Nat)(ix:List Nat)(σ:St)(H1:Hp)(Q:VK)(D:oO):Prop:=Ys (Itr lo n) g tt te own ix σ H1 Q D
def CompL(K:oN)(a:oO)(g:TG)(tt:TT)(te:TE)(own:Nat)(ix:List Nat)(σ:St)(H1:Hp)(Q:VK)(D:oO):Prop:=Ys (Itl K a) g tt te own ix σ H1 Q D
def CompS(x:oV)(g:TG)(tt:TT)(te:TE)(own:Nat)(ix:List Nat)(σ:St)(H1:Hp)(Q:VK)(D:oO):Prop:=Ys (Its x) g tt te own ix σ H1 Q D
theorem zbq{ta:TA}{g:TG}{tt:TT}{te:TE}{own:Nat}{ix:List Nat}{σ:St}{H:Hp}{Q:VK}:jm (K1 ta) g tt te own ix σ H Q=ta σ H λvs H1=>∃j:Int,vs=[.int j]/\-(2 ^ 62)<=j/\j<2 ^ 62/\∀D,H1 D=sJ->CompR 0 j.toNat g tt te own ix σ H1 Q D:=rfl
theorem zcp{K:oN}{tl:TE}{g:TG}{tt:TT}{te:TE}{own:Nat}{ix:List Nat}{σ:St}{H:Hp}{Q:VK}:jm (KA K tl) g tt te own ix σ H Q=tl σ H λx H1=>∃a,x=.ref a/\(∃xs,SqL K H1 a xs)/\∀D,H1 D=sJ->CompL K a g tt te own ix σ H1 Q D:=rfl
theorem zbS{tl:TE}{g:TG}{tt:TT}{te:TE}{own:Nat}{ix:List Nat}{σ:St}{H:Hp}{Q:VK}:jm (zcu tl) g tt te own ix σ H Q=tl σ H λv H1=>∃x,v=.str x/\∀D,H1 D=sJ->CompS x g tt te own ix σ H1 Q D:=rfl
section
variable{g:TG}{tt:TT}{te:TE}{own:Nat}{ix:List Nat}{σ:St}{H1:Hp}{Q:VK}{D:oO}
theorem CompR.by{lo:Int}{n:Nat}(Pv:Nat->List V->Hp->Prop)(h0:Pv 0 [] (upd H1 D (.lst [])))
  (hs:∀i sP H',i<n->Pv i sP H'->g (.int (lo+i)) (wX σ own ix) H' λσ3 H3=>yN (wX σ own ix) σ3/\tt σ3 H3 λb H4=>if b=sK then
   te σ3 H4 λv H5=>H5 D=sI (.lst sP)/\sP.length<oM/\CNx n i Pv (sP ++ [v]) (upd H5 D (.lst (sP ++ [v]))) else CNx n i Pv sP H4)
  (hd:∀sP H',Pv n sP H'->Q (.ref D) H'):CompR lo n g tt te own ix σ H1 Q D:=by
 refine⟨λi m sP H=>m=n - i/\i<=n/\Pv i sP H,⟨n,by simp,aI _,h0⟩,?_⟩
 rintro i m sP H' ⟨rfl,hi,p⟩
 by_cases hlt:i<n
 ·refine .inr ⟨hlt,λx H2 y=>?_⟩
  obtain⟨e,y⟩:=y
  subst e y
  exact hs i sP _ hlt p
 ·have e:i=n:=by lia
  subst e
  exact .inl ⟨am _,hd sP H' p⟩
theorem CompL.by{K:oN}{a:oO}{xs:List V}(Pv:Nat->List V->Hp->Prop)(h0:Pv 0 [] (upd H1 D (.lst [])))(hl:∀i sP H',i<=xs.length->Pv i sP H'->SqL K H' a xs)
  (hs:∀i x sP H',xs[i]? = sI x->Pv i sP H'->g x (wX σ own ix) H' λσ3 H3=>yN (wX σ own ix) σ3/\tt σ3 H3 λb H4=>if b=sK then
   te σ3 H4 λv H5=>H5 D=sI (.lst sP)/\sP.length<oM/\CNx xs.length i Pv (sP ++ [v]) (upd H5 D (.lst (sP ++ [v]))) else CNx xs.length i Pv sP H4)
  (hd:∀sP H',Pv xs.length sP H'->Q (.ref D) H'):CompL K a g tt te own ix σ H1 Q D:=by
 refine⟨λi m sP H=>m=xs.length - i/\i<=xs.length/\Pv i sP H,⟨xs.length,by simp,aI _,h0⟩,?_⟩
 rintro i m sP H' ⟨rfl,hi,p⟩
 have q:=hl i sP H' hi p
 by_cases hlt:i<xs.length
 ·refine .inr ⟨⟨xs,xs[i],q,by simp [hlt]⟩,λx H2 y=>?_⟩
  obtain⟨e,y⟩:=y
  subst e
  exact hs i x sP _ (y xs q) p
 ·have e:i=xs.length:=by lia
  subst e
  exact .inl ⟨⟨xs,q,am _⟩,hd sP H' p⟩
theorem CompS.by{l:List Nat}(Pv:Nat->List V->Hp->Prop)(h0:Pv 0 [] (upd H1 D (.lst [])))
  (hs:∀i c sP H',l[i]? = sI c->Pv i sP H'->g (.str (tx [c])) (wX σ own ix) H' λσ3 H3=>yN (wX σ own ix) σ3/\tt σ3 H3 λb H4=>if b=sK then
   te σ3 H4 λv H5=>H5 D=sI (.lst sP)/\sP.length<oM/\CNx l.length i Pv (sP ++ [v]) (upd H5 D (.lst (sP ++ [v]))) else CNx l.length i Pv sP H4)
  (hd:∀sP H',Pv l.length sP H'->Q (.ref D) H'):CompS (tx l) g tt te own ix σ H1 Q D:=by
 refine⟨λi m sP H=>m=l.length - i/\i<=l.length/\Pv i sP H,⟨l.length,by simp,aI _,h0⟩,?_⟩
 rintro i m sP H' ⟨rfl,hi,p⟩
 by_cases hlt:i<l.length
 ·refine .inr ⟨hlt,λv H2 y=>?_⟩
  obtain⟨e,c,hc,ev⟩:=y
  subst e ev
  exact hs i c sP _ hc p
 ·have e:i=l.length:=by lia
  subst e
  exact .inl ⟨rfl,hd sP H' p⟩
end
theorem yF{x:V}{r:St}:yN (sJ::r) (sI x::r):=⟨rfl,λi v h=>by
 cases i with
 | zero=>cases h
 | succ i=>exact h⟩
theorem zL{X:Cx}{scope sc:pQ}{own caps:List oV}{ix:List Nat}(h1:scope.kind=.function)(h2:scope.names.all (λy=>y.2 != .cell)=sK)(h3:scope.names.all (λy=>y.2 != .local || scope.names.lookup y.1 == sI .local)=sK)
  (h4:scope.names.all (λy=>y.2 != .free || sc.names.lookup y.1 == sI .cell)=sK) (hsc:X.env.scope=sc) (h5:own.all (λy=>scope.names.lookup y == sI .local)=sK) (h6:caps.all (λy=>scope.names.lookup y == sI .free)=sK) (h7:ix.map (λi=>X.N[i]?)=caps.map sI):qw X scope own caps ix:=by
 refine⟨h1,λy hy=>?_,λy hy e=>?_,λy hy=>?_,λy hy=>?_,λy hy=>?_,h7⟩
 ·have:=tw.mp h2 y hy
  simpa using this
 ·have:=tw.mp h3 y hy
  rw[e] at this
  simpa using this
 ·have:=tw.mp h4 _ hy
  have:=by simpa using this
  show X.env.scope.names.lookup y=sI .cell
  rw[hsc]
  exact this
 ·have:=tw.mp h5 y hy
  simpa using this
 ·have:=tw.mp h6 y hy
  simpa using this
theorem VI{α:Type}(l:List α){a b:Int}(h0:0<=a)(h1:a<=b)(h2:b<=l.length):cut l (sI a) (sI b)=(l.drop a.toNat).take (b - a).toNat:=by
 obtain⟨m,rfl⟩:=bI h0
 obtain⟨n,rfl⟩:=bI (by lia:0<=b)
 unfold cut
 rw[HT.sIx_nat,HT.sIx_nat,ci (by lia),ci (by lia)]
 have:((n:Int) - (m:Int)).toNat=n - m:=by lia
 rw[this]
 rfl
theorem qE{k:Nat}{A:oX}(r:Room k A):A.units+100<cLine:=by have:=r.un;lia
end L3
namespace L3
theorem Kz{K:oN}{x y:V}{H:Hp}{Q:VK}{l m:List D}(h:(Is K H (.lst l) x/\Is K H (.lst m) y)\/(Is K H (.tup l) x/\Is K H (.tup m) y))(hd:vM l<50)(q:Q (.bl (uZ l m)) H):zcR K x y H Q:=⟨l,m,h,hd,q⟩
theorem JQ{K:oN}{x y:V}{H:Hp}{Q:VK}{l m:List D}(h:(Is K H (.lst l) x/\Is K H (.lst m) y)\/(Is K H (.tup l) x/\Is K H (.tup m) y))(hd:vM l<50)(q:Q (.bl (!uZ l m)) H):zc2 K x y H Q:=⟨l,m,h,hd,q⟩
def zcT(t u:TS):TS:=λD σ H=>∃R:St->Hp->Prop,t { D with nx:=R } σ H/\∀σ' H',R σ' H'->u D σ' H'
theorem zi{X:Cx}{st:pb}{rest:List pb}{t u:TS}(h1:PS X st t)(h2:PSs X rest u):PSs X (st::rest) (zcT t u):=by
 intro sM s σ H D I h
 obtain⟨R,h,hr⟩:=h
 refine pV (thn (h1 sM s σ H { D with nx:=R } I h) λf s1 q=>?_)
 cases f with
 | next =>
  obtain⟨σ',H',I',q⟩:=q
  exact h2 sM s1 σ' H' D I' (hr _ _ q)
 | ret v=>exact q
 | brk=>exact q
 | cont=>exact q
theorem zk{t u:TS}{D:vg}{σ:St}{H:Hp}(R:St->Hp->Prop)(h:t { D with nx:=R } σ H)(hr:∀σ' H',R σ' H'->u D σ' H'):zcT t u D σ H:=⟨R,h,hr⟩
theorem zE{H H':Hp}{a:oO}{o:HO}(h:Same H H')(e:H a=sJ):Same H (upd H' a o):=λb u q=>by
 rw[zo (zF q e)]
 exact h b u q
theorem ForL.by{K:oN}{a:oO}{xs:List V}{g:TG}{tb:TS}{D:vg}{σ:St}{H:Hp}(Pv:Nat->St->Hp->Prop)(h0:Pv 0 σ H)(hl:∀i σ H,i<=xs.length->Pv i σ H->SqL K H a xs)
  (hs:∀i x σ H,xs[i]? = sI x->Pv i σ H->g x σ H λσ2 H2=>tb { D with nx:=Pv (i+1),ct:=Pv (i+1),bk:=D.nx } σ2 H2) (hd:∀σ H,Pv xs.length σ H->D.nx σ H):ForL K a g tb D σ H:=Qd Pv h0 hl hs hd
theorem Uq{A B:Prop}(h:B):if sK=sL then A else B:=by rw[if_neg (by decide)];exact h
def CompV(K:oN)(a:oO)(n:Nat)(g:TG)(tt:TT)(te:TE)(own:Nat)(ix:List Nat)(σ:L2.St)(H1:Hp)(Q:VK)(D:oO):Prop:=Ys (Irv K a n) g tt te own ix σ H1 Q D
theorem zcs{K:oN}{ta:TA}{g:TG}{tt:TT}{te:TE}{own:Nat}{ix:List Nat}{σ:L2.St}{H:Hp}{Q:VK}:jm (zc6 K ta) g tt te own ix σ H Q=ta σ H λvs H1=>∃a xs,vs=[.ref a]/\SqL K H1 a xs/\∀D,H1 D=sJ->CompV K a xs.length g tt te own ix σ H1 Q D:=rfl
theorem CompV.by{K:oN}{a:oO}{xs:List V}{g:TG}{tt:TT}{te:TE}{own:Nat}{ix:List Nat}{σ:L2.St}{H1:Hp}{Q:VK}{D:oO}(Pv:Nat->List V->Hp->Prop)(h0:Pv 0 [] (upd H1 D (.lst [])))(hl:∀i sP H',i<=xs.length->Pv i sP H'->SqL K H' a xs)
  (hs:∀i x sP H',xs.reverse[i]? = sI x->Pv i sP H'->g x (wX σ own ix) H' λσ3 H3=>yN (wX σ own ix) σ3/\tt σ3 H3 λb H4=>if b=sK then
   te σ3 H4 λv H5=>H5 D=sI (.lst sP)/\sP.length<oM/\CNx xs.length i Pv (sP ++ [v]) (upd H5 D (.lst (sP ++ [v]))) else CNx xs.length i Pv sP H4)
  (hd:∀sP H',Pv xs.length sP H'->Q (.ref D) H'):CompV K a xs.length g tt te own ix σ H1 Q D:=by
 refine⟨λi m sP H=>m=xs.length - i/\i<=xs.length/\Pv i sP H,⟨xs.length,by simp,aI _,h0⟩,?_⟩
 rintro i m sP H' ⟨rfl,hi,p⟩
 have q:=hl i sP H' hi p
 by_cases hlt:i<xs.length
 ·refine .inr ⟨⟨xs,q,rfl,hlt⟩,λx H2 y=>?_⟩
  obtain⟨e,y⟩:=y
  subst e
  refine hs i x sP _ ?_ p
  rw[bg hlt]
  exact y xs q rfl
 ·have e:i=xs.length:=by lia
  subst e
  exact .inl ⟨rfl,hd sP H' p⟩
end L3
namespace L3
section
variable{X:Cx}
theorem Ui:∀{ys:List oV} {its:List oP},Vals (ys.map V.str) its->∃l:List (oV × rF),its=strValues l/\l.map (·.1)=ys
 | [],_,.nil=>⟨[],rfl,rfl⟩
 | y::ys,_,.cons r t=>by
  obtain⟨tk,rfl⟩:=r
  obtain⟨l,e1,e2⟩:=Ui t
  exact⟨(y,tk)::l,by rw[e1];rfl,by rw[au,e2]⟩
def zcF(K:oN):V->List V->Hp->VK->Prop:=λx xs H Q=>∃z p ys,x=.str z/\xs=[.ref p]/\SqL K H p (ys.map V.str)/\JoinOk z ys=sK/\Q (.str (Txt.join z ys)) H
theorem zbe:MtR X "str.join" (zcF X.K):=by
 intro sM s σ H x xs v us Q I rx rv h
 obtain⟨z,p,ys,rfl,rfl,hS,hok,q⟩:=h
 obtain⟨t,rfl⟩:=rx
 obtain⟨u,rfl,ru⟩:=wI rv
 cases ru
 obtain⟨its,r,pl,_⟩:=I.list hS
 obtain⟨l,rfl,e⟩:=Ui r
 exact PySem.SC.join pl.isList e hok λt' k=>⟨.str _,H,I.tok _,⟨_,rfl⟩,q⟩
theorem ko:∀{bs:List Bool} {its:List oP} {i:Nat} {v:oP},Vals (bs.map V.bl) its->its[i]? = sI v->v=.bool (bs.getD i sL)
 | [],_,_,_,.nil,h=>by cases h
 | b::bs,_,0,v,.cons r t,h=>by
  cases r
  cases h
  rfl
 | b::bs,_,i+1,v,.cons r t,h=>ko (bs:=bs) (i:=i) t h
theorem WP(bs:List Bool):(aW bs.length).all (λi=>bs.getD i sL)=bs.all id:=by
 induction bs with
 | nil=>rfl
 | cons b bs ih =>
  rw[aN,dB,fo,List.all_map,fo,<- ih]
  rfl
def zdx(K:oN):List V->Hp->VK->Prop:=λxs H Q=>∃(p:oO) (bs:List Bool),xs=[.ref p]/\SqL K H p (bs.map V.bl)/\Q (.bl (bs.all id)) H
theorem zca(hc:X.calm=sK):wL X (.builtin "all") (zdx X.K):=by
 intro sM s σ H xs us Q I r h
 obtain⟨p,bs,rfl,hS,q⟩:=h
 obtain⟨u,rfl,ru⟩:=wI r
 cases ru
 obtain⟨its,rv,pl,hz⟩:=I.list hS
 have hlen:its.length=bs.length:=by
  have:=rv.length
  rw[ae] at this
  exact this.symm
 have hh:X.A.in1.handled=sJ:=I.ok.hd hc
 have hne:p≠s.heap.objs.size:=by
  obtain⟨o,n,e,_⟩:=pl
  exact aw (aq e)
 obtain⟨f0,f1,f2,f3,f4,f5⟩:=I.fpOk (H':=H) (am _) (I.hok.fresh (am _))
 have I1:=I.kept (t':=s.toks) (h':=s.heap.push { cls:=.type "list_iterator",data:=.fields #[.ref p,.int 0 0] }) λb o e=>aa _ e
 refine call_all_walk (rh pl.isList ?_)
 refine⟨s.heap.objs.size,_,_,_,_,_,λi=>bs.getD i sL,rfl,Walks.list hh s.heap.objs.size p hne its.toArray,⟨⟨_,aD _ rfl,rfl,rfl⟩,?_⟩,?_,?_⟩
 ·obtain⟨o,n,e,c,d,dt⟩:=pl
  exact⟨o,aa _ e,c,n,dt⟩
 ·intro i v s' Q' E' hv hq
  have:=ko rv (i:=i) (v:=v) (by simpa using hv)
  rw[this]
  exact pi hq
 ·intro h' tk hk
  have e:(aW its.toArray.size).all (λi=>bs.getD i sL)=bs.all id:=by
   rw[al,hlen,WP]
  rw[e]
  refine⟨.bl _,H,?_,rfl,q⟩
  exact I1.turned (t':=tk) (it:=s.heap.objs.size) (λb o hb q=>hk b o (by simpa using hb) q) f0 f1 f3 f4 f5
end
end L3
namespace L3
section
variable{M:sj}{A:oX}{E:oP->oQ->Prop}{s:oQ}{base:oZ}{env env0:rP}{outer:List rP}{L x t C:oO}{dx:Option oO}
theorem zao{tb:oP}{Q:Unit->oQ->Prop}(hfr:A.frames=sI (env0::outer))(hl:s.heap.FunFrames base (env0::outer))(hf:env0.frame=sI L)(he:env.frame=sI L)
  (hx:s.heap.get? x=sI (xob C dx t tb)) (htb:Jx s.heap x tb)
  (h:∀h' T oT ts,h'.get? x=sI (xob C dx t (.ref T))->T≠x->(tb=.ref T\/s.heap.objs.size<=T)->h'.get? T=sI oT->oT.data=.fields ts->3<ts.size ->
   (∀b o,b≠x->tb≠.ref b->b ∉ frs (env0::outer)->s.heap.get? b=sI o->h'.get? b=sI o)->(∀b o,b≠x->tb≠.ref b->s.heap.get? b=sI o->∃sl,h'.get? b=sI { o with slots:=sl })->Q () { s with heap:=h' }) :
  oR M A (noteFrame (.ref x) env) Q E s:=by
 have land:∀(h1:oZ) (T:oO) (oT:pE) (ts:Array oP),h1.get? x=sI (xob C dx t (.ref T))->T≠x->(tb=.ref T\/s.heap.objs.size<=T)->h1.get? T=sI oT->oT.data=.fields ts->3<ts.size ->
   (∀b o,b≠x->tb≠.ref b->b ∉ frs (env0::outer)->s.heap.get? b=sI o->h1.get? b=sI o)->(∀b o,b≠x->tb≠.ref b->s.heap.get? b=sI o->∃sl,h1.get? b=sI { o with slots:=sl }) ->
   Q () { s with heap:=h1 }:=λh1 T oT ts e1 nT oldT e2 d2 z2 k1 k2=>h h1 T oT ts e1 nT oldT e2 d2 z2 k1 k2
 unfold noteFrame
 simp only[he]
 refine oG (pf hx rfl (x:=tb) rfl ?_)
 rcases htb with rfl | ⟨T,oT,ts,rfl,nT,e2,d2,z2⟩
 ·rw[if_neg (by decide)]
  refine jF hfr hl hf he hx λh' oT ts e1 ne e2 d2 z2 k1 k2=>land h' _ oT ts e1 ne (.inr (am _)) e2 d2 z2 (λb o hb _ hbf e=>k1 b o hb hbf e) λb o hb _ e=>k2 b o hb e
 ·rw[if_pos (show (Value.ref T != Value.none)=sK from by simp)]
  obtain⟨y,hy⟩:∃y,ts[3]? = sI y:=⟨ts[3],by simp [z2]⟩
  refine oG (pf e2 d2 (x:=y) hy ?_)
  by_cases c:(y == rawInt L)=sK
  ·rw[if_pos c]
   exact oH (land s.heap T oT ts hx nT (.inl rfl) e2 d2 z2 (λb o _ _ _ e=>e) λb o _ _ e=>⟨o.slots,e⟩)
  ·rw[if_neg c]
   refine oG (pP e2 d2 z2 ?_)
   have oth:∀b,b≠T->(s.heap.update T (Obj.mapFields (·.setIfInBounds 3 Value.none))).get? b=s.heap.get? b:=λb hb=>aE _ _ (Ne.symm hb)
   have hl1:(s.heap.update T (Obj.mapFields (·.setIfInBounds 3 Value.none))).FunFrames base (env0::outer):=hl.of_keeps λb o hb hnf=>⟨o,(oth b λq=>by rw[q,e2] at hb;cases hb;exact hnf ts d2).trans hb,rfl⟩
   have hsz:(s.heap.update T (Obj.mapFields (·.setIfInBounds 3 Value.none))).objs.size=s.heap.objs.size:=dH ..
   refine jF (s:={ s with heap:=s.heap.update T (Obj.mapFields (·.setIfInBounds 3 Value.none)) }) hfr hl1 hf he ((oth x (Ne.symm nT)).trans hx) λh' oT' ts' e1 ne e2' d2' z2' k1 k2=>?_
   refine land h' _ oT' ts' e1 ne (.inr (by rw[hsz];exact am _)) e2' d2' z2' (λb o hb hbt hbf e=>k1 b o hb hbf ((oth b λq=>hbt (by rw[q])).trans e)) λb o hb hbt e=>k2 b o hb ((oth b λq=>hbt (by rw[q])).trans e)
end
section
variable{X:Cx}{sM:List (oO × pE)}{σ:St}{H1:Hp}{s1:oQ}
theorem Inv.noted{h':oZ}{x T:oO}{tb:oP}(I1:Inv X sM σ H1 s1)(hst:X.stack=X.env::X.outer)(fx:xp X sM H1 x)(fT:∀T,tb=.ref T->xp X sM H1 T)(fT':xp X sM H1 T)
  (k1:∀b o,b≠x->tb≠.ref b->b ∉ frs (X.env::X.outer)->s1.heap.get? b=sI o->h'.get? b=sI o) (k2:∀b o,b≠x->tb≠.ref b->s1.heap.get? b=sI o->∃sl,h'.get? b=sI { o with slots:=sl }):Inv X sM σ H1 { s1 with heap:=h' }:=by
 have tbs:∀b,tb=.ref b->H1 b=sJ:=λb hb=>(fT b hb).1
 have nch:∀b o,s1.heap.get? b=sI o->b ∉ (x::T::tbL tb)->b≠x/\tb≠.ref b:=λb o _ hb=>by
  refine⟨λz=>hb (by simp [z]),λz=>hb ?_⟩
  rw[z]
  simp [tbL]
 have un:Un (frs X.stack) (x::T::tbL tb) H1 H1 s1.heap h':=by
  rw[hst]
  refine⟨λb o e n hb hc=>?_,λb o e n hb hc=>?_,λb o e n _=>n,λb o e hc=>?_,λb xs e=>e,λb o u e=>e,λb ps e=>⟨#[],by rw[e];simp⟩⟩
  ·obtain⟨a1,a2⟩:=nch b o e hc
   exact k1 b o a1 a2 hb e
  ·obtain⟨a1,a2⟩:=nch b o e hc
   exact k2 b o a1 a2 e
  ·obtain⟨a1,a2⟩:=nch b o e hc
   obtain⟨sl,q⟩:=k2 b o a1 a2 e
   exact⟨_,q⟩
 have hok:HOk X.prog X.w H1 h':=λb u e=>by
  refine (I1.hok b u e).stay (λc v hc q=>k1 c v ?_ ?_ ?_ q) (λ_ q=>q) λ_ _ q=>q
  ·rintro rfl
   rcases hc with rfl | hc
   ·rw[fx.1] at e;cases e
   ·rw[fx.1] at hc;cases hc
  ·intro z
   have:=tbs c z
   rcases hc with rfl | hc
   ·rw[this] at e;cases e
   ·rw[this] at hc;cases hc
  ·intro z
   rw[<- hst] at z
   have:=I1.stkFree c z
   rcases hc with rfl | hc
   ·rw[this] at e;cases e
   ·rw[this] at hc;cases hc
 exact I1.call' (s':={ s1 with heap:=h' }) rfl un hok I1.bare λb hb=>by
  have fb:xp X sM H1 b:=by
   rcases sU.mp hb with z | z
   ·rw[z];exact fx
   ·rcases sU.mp z with z | z
    ·rw[z];exact fT'
    ·cases tb with
     | ref b' =>
      have:b=b':=by simpa [tbL] using z
      rw[this];exact fT b' rfl
     | _=>simp [tbL] at z
  obtain⟨_,a1,_,a3,a4,a5⟩:=fb
  exact⟨a3,a1,a4,a5⟩
end
section
variable{X:Cx}{scope:pQ}{own caps:List oV}{ix:List Nat}{cl:List (oV × oO)}
theorem WH{N:List oV}{EX:XK}{sM:List (oO × pE)}{σ:St}{H3:Hp}{s3:oQ}{fp:List oO}{xe:oP->oQ->Prop}{e:oP}{s1:oQ}{RE:oP->oQ->Prop}(hst:X.stack=X.env::X.outer/\X.env.frame=sI X.env.locals)(hxe:XE X EX)
  (hc1:∀y c,cl.lookup y=sI c->X.env.cells.lookup y=sI c) (I3:Inv X sM σ H3 s3) (f3:∀b ∈ fp,xp X sM H3 b) (fl:zaB (z7 X scope cl s3.heap.objs.size N sM s3 H3 fp xe) EX e s1)
  (hRE:∀m s' x,s'.heap.Ns s3.heap.objs.size m->(∀h',Heap.SameBut s3.heap.objs.size s'.heap h'->∀cenv:rP,cenv.locals=s3.heap.objs.size->oR (model X.prog X.w) X.A (fz "comprehension.variables-let-go" x cenv:sB oP) (λ_ _=>False) X.xe { s' with heap:=h' })->RE x s') :
  notedBy (model X.prog X.w) X.A (compEnvC scope cl s3.heap.objs.size X.env) RE e s1:=by
 obtain⟨pins',σ',H1,x,C,t,dx,tb,rfl,I1,ob,tr,fx,fT,q⟩:=fl
 have IX:Inv X sM σ H1 s1:=I3.call' (s':=s1) I1.os I1.base I1.hok I1.bare λb hb=>by
  obtain⟨_,a1,a2,a3,a4,a5⟩:=f3 b hb
  exact⟨a3,a1,a4,a5⟩
 have up:∀b,xp (z7 X scope cl s3.heap.objs.size N sM s3 H3 fp xe) pins' H1 b->xp X sM H1 b:=λb hb=>by
  obtain⟨a0,a1,a2,a3,a4,a5⟩:=hb
  rcases a3 with a3 | a3
  ·exact⟨a0,(f3 b a3).2⟩
  ·exact I3.fpOk a3 a0
 have fx':=up x fx
 have fT':∀T,tb=.ref T->xp X sM H1 T:=λT h=>up T (fT T h)
 have fr:X.A.frames=sI (X.env::X.outer):=by rw[<- hst.1];exact IX.ok.frames
 have ff:s1.heap.FunFrames X.base (X.env::X.outer):=by rw[<- hst.1];exact IX.stack
 obtain⟨m,hm,_⟩:=I1.loc
 have fC:xp X sM H1 s3.heap.objs.size:=I3.fpOk (am _) I1.free
 refine zao fr ff hst.2 hst.2 ob tr λh' T oT ts e1 nT oldT e2 d2 z2 k1 k2=>?_
 have fT2:xp X sM H1 T:=by
  rcases oldT with z | z
  ·exact fT' T z
  ·exact IX.fpOk z (IX.hok.fresh z)
 have I2:Inv X sM σ H1 { s1 with heap:=h' }:=Inv.noted IX hst.1 fx' fT' fT2 k1 k2
 have hCx:s3.heap.objs.size≠x:=λz=>fx.2.1 z.symm
 have hCtb:tb≠.ref s3.heap.objs.size:=λz=>(fT _ z).2.1 rfl
 obtain⟨oC,es,ep,hoC,rC⟩:=hm
 have hCT:T≠s3.heap.objs.size:=by
  rcases oldT with z | z
  ·exact (fT T z).2.1
  ·exact bS (av (aq hoC) z)
 have hCf:s3.heap.objs.size ∉ frs (X.env::X.outer):=λz=>by
  rw[<- hst.1] at z
  rcases sU.mp (IX.stkSub _ z) with y | y
  ·exact fC.2.1 y
  ·exact fC.2.2.1 y
 refine hRE m _ _ ⟨oC,es,ep,k1 _ _ hCx hCtb hCf hoC,rC⟩ λh2 sb cenv hcenv=>?_
 have I3':Inv X sM σ H1 { s1 with heap:=h2 }:=I2.turned (t':=s1.toks) (λb o hb e=>(sb.2 b hb).trans e) fC.1 fC.2.1 fC.2.2.2.1 fC.2.2.2.2.1 fC.2.2.2.2.2
 have ob2:h2.get? x=sI (xob C dx t (.ref T)):=(sb.2 x (Ne.symm hCx)).trans e1
 have oT2:h2.get? T=sI oT:=(sb.2 T hCT).trans e2
 unfold fz
 refine oG (pf (s:={ s1 with heap:=h2 }) ob2 rfl (x:=.ref T) rfl ?_)
 rw[if_neg (show ¬ (Value.ref T == Value.none)=sK from by simp)]
 unfold setFlight
 refine oG (oG (pf (s:={ s1 with heap:=h2 }) ob2 rfl (x:=.ref T) rfl ?_))
 rw[if_pos (show (Value.ref T != Value.none)=sK from by simp)]
 refine pP (s:={ s1 with heap:=h2 }) oT2 d2 z2 (wpAny_throw (hxe _ _ ?_))
 have d3:=Obj.data_mapFields d2 (·.setIfInBounds 3 (cenv.frame.elim Value.none λf=>rawInt f))
 have I4:Inv X sM σ H1 { s1 with heap:=h2.update T (Obj.mapFields (·.setIfInBounds 3 (cenv.frame.elim Value.none λf=>rawInt f))) } :=
  I3'.turned (t':=s1.toks) (λb o hb e=>(aE _ _ (Ne.symm hb)).trans e) fT2.1 fT2.2.1 fT2.2.2.2.1 fT2.2.2.2.2.1 fT2.2.2.2.2.2
 exact⟨sM,σ,H1,x,C,t,dx,.ref T,rfl,I4,(aE _ _ nT).trans ob2,.inr ⟨T,_,_,rfl,nT,cb _ oT2 (Obj.isFreed_of_fields d3),d3,by simpa using z2⟩,fx',λT' z=>by cases z;exact fT2,q⟩
end
section
variable{X:Cx}{scope:pQ}{own caps:List oV}{ix:List Nat}{elt tg iter:oY}{ifs:List oY}{pos:pW}{wi:TI}{g:TG}{tt:TT}{te:TE}
end
end L3
namespace L3
open PySem.AutoSeq1 (wpAny_loadPart')
open MeetsSeq MeetsSeq2 MeetsSeq3 SeqRoads2 SeqAt
def LtAt(A:oX)(s:oQ)(y x:oP)(b:Bool):Prop :=
 ∀(prog:oU) (w:oW) (E:oP->oQ->Prop) (Q:oP->oQ->Prop),Q (.bool b) s->oR (model prog w) A (richCompare .Lt y x) Q E s
def X8(e t r:Nat->Bool)(m n:Nat):Prop:=∀i,i<=m->i<=n->r i=if i<m/\i<n then (if e i=sK then r (i+1) else t i) else decide (m<n)
theorem Wr(l b:oO)(items sN:Array oP)(n n2:Nat)(dd dd2:Option oO)(sl sl2:Array (Option oP))(e t r:Nat->Bool)(hr:X8 e t r items.size sN.size)(k:Nat) :
  ∀i:Nat,i<=items.size->i<=sN.size->items.size - i=k->Meets (Builtin.«list.__eq__.loop» ⟨[.ref l,.ref b,rawInt i,rawInt 0],[]⟩)
   (λA R s=>s.heap.get? l=sI { cls:=.type "list",dict:=dd,data:=.seq items n,slots:=sl }/\s.heap.get? b=sI { cls:=.type "list",dict:=dd2,data:=.seq sN n2,slots:=sl2 } /\
    (∀j (h1:j<items.size) (h2:j<sN.size),EqAt A.in1 s items[j] sN[j] (e j))/\(∀j (h1:j<items.size) (h2:j<sN.size),e j=sL->LtAt A.in1 s items[j] sN[j] (t j)) /\
    R (.ok (.ret (.bool (r i)))) s):=by
 induction k with
 | zero =>
  intro i b1 b2 hk prog w A R s h
  obtain⟨hp,g,d,tk,os⟩:=s;obtain⟨hl,hb,he,ht,h⟩:=h
  have hri:=hr i b1 b2
  rw[if_neg (by lia)] at hri
  rw[hri] at h
  wp_walk using wpAny_loadPart' hl,wpAny_loadPart' hb
  have hi1:items[((i:Nat):Int).toNat]? = sJ:=by simp;lia
  rw[hi1]
  wp_walk using wpAny_loadPart' hl,wpAny_loadPart' hb
  exact h
 | succ k ih =>
  intro i b1 b2 hk prog w A R s h
  obtain⟨hp,g,d,tk,os⟩:=s;obtain⟨hl,hb,he,ht,h⟩:=h
  have hlt:i<items.size:=by lia
  have hi1:items[((i:Nat):Int).toNat]? = sI items[i]:=by simp [hlt]
  have hc:((i:Int)+1)=((i+1:Nat):Int):=by push_cast;rfl
  have hri:=hr i b1 b2
  by_cases hlt2:i<sN.size
  ·rw[if_pos ⟨hlt,hlt2⟩] at hri
   rw[hri] at h
   have hi2:sN[((i:Nat):Int).toNat]? = sI sN[i]:=by simp [hlt2]
   wp_walk using wpAny_loadPart' hl,wpAny_loadPart' hb
   rw[hi1,hi2]
   refine oG (he i hlt hlt2 prog w _ _ ?_)
   cases hb':e i with
   | true =>
    rw[hb',if_pos rfl] at h
    wp_walk
    rw[hc]
    exact⟨plainId_quiet plain_eq_loop _,pL entry_eq_loop (by
     rw[Around.under_plainId plain_eq_loop _]
     exact ih (i+1) (by lia) (by lia) (by lia) prog w A R _ ⟨hl,hb,he,ht,h⟩)⟩
   | false =>
    rw[hb',if_neg aC] at h
    wp_walk using wpAny_loadPart' hl,wpAny_loadPart' hb
    rw[hi1,hi2]
    refine oG (ht i hlt hlt2 hb' prog w _ _ ?_)
    wp_walk
    exact h
  ·rw[if_neg (by lia)] at hri
   rw[hri] at h
   have hi2:sN[((i:Nat):Int).toNat]? = sJ:=by simp;lia
   wp_walk using wpAny_loadPart' hl,wpAny_loadPart' hb
   rw[hi1,hi2]
   wp_walk using wpAny_loadPart' hl,wpAny_loadPart' hb
   exact h
theorem VP(l b:oO)(items sN:Array oP)(n n2:Nat)(dd dd2:Option oO)(sl sl2:Array (Option oP))(e t r:Nat->Bool)(hr:X8 e t r items.size sN.size) :
  Meets (Builtin.«list.__lt__» ⟨[.ref l,.ref b],[]⟩)
   (λA R s=>s.heap.get? l=sI { cls:=.type "list",dict:=dd,data:=.seq items n,slots:=sl }/\s.heap.get? b=sI { cls:=.type "list",dict:=dd2,data:=.seq sN n2,slots:=sl2 } /\
    (∀j (h1:j<items.size) (h2:j<sN.size),EqAt A.in1 s items[j] sN[j] (e j))/\(∀j (h1:j<items.size) (h2:j<sN.size),e j=sL->LtAt A.in1 s items[j] sN[j] (t j)) /\
    R (.ok (.ret (.bool (r 0)))) s):=by
 intro prog w A R s h
 obtain⟨hp,g,d,tk,os⟩:=s;obtain⟨hl,hb,he,ht,h⟩:=h
 have f3:=AutoSeq1.sub_list_list
 wp_walk using wpAny_loadPart' hl,wpAny_loadPart' hb
 exact⟨plainId_quiet plain_eq_loop _,pL entry_eq_loop (by
  rw[Around.under_plainId plain_eq_loop _]
  exact Wr l b items sN n n2 dd dd2 sl sl2 e t r hr _ 0 (aI _) (aI _) rfl prog w A R _ ⟨hl,hb,he,ht,h⟩)⟩
theorem XQ(l b:oO)(items sN:Array oP)(n n2:Nat)(dd dd2:Option oO)(sl sl2:Array (Option oP))(e t r:Nat->Bool)(hr:X8 e t r items.size sN.size) :
  Meets (Builtin.«tuple.__lt__» ⟨[.ref l,.ref b],[]⟩)
   (λA R s=>s.heap.get? l=sI { cls:=.type "tuple",dict:=dd,data:=.seq items n,slots:=sl }/\s.heap.get? b=sI { cls:=.type "tuple",dict:=dd2,data:=.seq sN n2,slots:=sl2 } /\
    (∀j (h1:j<items.size) (h2:j<sN.size),EqAt A.in1 s items[j] sN[j] (e j))/\(∀j (h1:j<items.size) (h2:j<sN.size),e j=sL->LtAt A.in1 s items[j] sN[j] (t j)) /\
    R (.ok (.ret (.bool (r 0)))) s) :=
 .of_wp λprog w A R s h=>by
  obtain⟨hp,g,d,tk,os⟩:=s;obtain⟨hl,hb,he,ht,h⟩:=h
  have f2:=AutoSeq1.sub_tuple_tuple
  have hZ:(items.toList.zip sN.toList).length=min items.size sN.size:=by simp
  wp_walk using wpAny_loadPart' hl,wpAny_loadPart' hb,wpAny_forIn_list _ (λrest b s'=>b.1=sJ/\s'=⟨hp,g,d,tk,os⟩/\∃i,i<=min items.size sN.size/\rest=(items.toList.zip sN.toList).drop i /\
   R (.ok (.ret (.bool (r i)))) ⟨hp,g,d,tk,os⟩) _
  case turn =>
   rintro⟨y,x⟩ rest b s' ⟨hb',rfl,i,hi,hz,hR⟩
   have hlt:i<(items.toList.zip sN.toList).length:=by
    rcases eF i (items.toList.zip sN.toList).length with h' | h'
    ·exact h'
    ·rw[aY h'] at hz;cases hz
   have hm:i<min items.size sN.size:=hZ ▸ hlt
   have h1:i<items.size:=av hm (Nat.min_le_left _ _)
   have h2:i<sN.size:=av hm (Nat.min_le_right _ _)
   rw[aV hlt] at hz
   injection hz with hyx hrest
   have hy:y=items[i]:=by have:=congrArg Prod.fst hyx;simpa using this
   have hx:x=sN[i]:=by have:=congrArg Prod.snd hyx;simpa using this
   subst hy hx
   have hri:=hr i (by lia) (by lia)
   rw[if_pos ⟨h1,h2⟩] at hri
   rw[hri] at hR
   refine oG (he i h1 h2 prog w _ _ ?_)
   cases hy:e i with
   | true =>
    rw[hy,if_pos rfl] at hR
    wp_walk
    exact⟨rfl,rfl,i+1,by lia,hrest,hR⟩
   | false =>
    rw[hy,if_neg aC] at hR
    simp only[Bool.not_false,if_true]
    refine oG (rK ?_)
    refine oG (ht i h1 h2 hy prog w _ _ ?_)
    wp_walk
    exact⟨_,rfl,hR⟩
  case fin =>
   rintro⟨b1,b2⟩ s' ⟨hb',rfl,i,hi,hz,hR⟩
   simp only at hb'
   subst hb'
   have hge:min items.size sN.size<=i:=by
    rcases eF i (items.toList.zip sN.toList).length with h' | h'
    ·rw[aV h'] at hz;cases hz
    ·exact hZ ▸ h'
   have hri:=hr i (by lia) (by lia)
   rw[if_neg (by lia)] at hri
   rw[hri] at hR
   wp_walk
   exact⟨_,rfl,hR⟩
  case h =>
   exact⟨rfl,rfl,0,aI _,rfl,h⟩
theorem LtAt.lists{A:oX}{s:oQ}{l b:oO}{items sN:Array oP}{e t r:Nat->Bool}(hl:s.heap.IsList l items)(hb:s.heap.IsList b sN)(hr:X8 e t r items.size sN.size)(hu:A.units<cLine)
  (he:∀j (h1:j<items.size) (h2:j<sN.size),EqAt A.in1 s items[j] sN[j] (e j)) (ht:∀j (h1:j<items.size) (h2:j<sN.size),e j=sL->LtAt A.in1 s items[j] sN[j] (t j)):LtAt A s (.ref l) (.ref b) (r 0):=λprog w E Q h=>by
 obtain⟨⟨cls,dd,data,sl⟩,ho,hc,n,hd⟩:=id hl
 obtain⟨⟨cls2,dd2,data2,sl2⟩,ho2,hc2,n2,hd2⟩:=id hb
 simp only at hc hd hc2 hd2
 subst hc hd hc2 hd2
 exact richCompare_meets_room (op:=.Lt) ⟨_,ho,rfl⟩ ⟨_,ho2,rfl⟩ F.slot_list_lt F.entry_list_lt (F.args_list_lt_2 _ _) (VP l b items sN n n2 dd dd2 sl sl2 e t r hr)
  ⟨ho,ho2,he,ht,show Value.bool (r 0)≠Value.notImplemented/\Q (.bool (r 0)) s from ⟨(λx=>nomatch x),h⟩⟩ hu
theorem LtAt.tuples{A:oX}{s:oQ}{l b:oO}{items sN:Array oP}{e t r:Nat->Bool}(hl:s.heap.IsTuple l items)(hb:s.heap.IsTuple b sN)(hr:X8 e t r items.size sN.size)(hu:A.units<cLine)
  (he:∀j (h1:j<items.size) (h2:j<sN.size),EqAt A.in1 s items[j] sN[j] (e j)) (ht:∀j (h1:j<items.size) (h2:j<sN.size),e j=sL->LtAt A.in1 s items[j] sN[j] (t j)):LtAt A s (.ref l) (.ref b) (r 0):=λprog w E Q h=>by
 obtain⟨⟨cls,dd,data,sl⟩,ho,hc,n,hd⟩:=id hl
 obtain⟨⟨cls2,dd2,data2,sl2⟩,ho2,hc2,n2,hd2⟩:=id hb
 simp only at hc hd hc2 hd2
 subst hc hd hc2 hd2
 exact richCompare_meets_room (op:=.Lt) ⟨_,ho,rfl⟩ ⟨_,ho2,rfl⟩ F.slot_tuple_lt F.entry_tuple_lt (F.args_tuple_lt_2 _ _) (XQ l b items sN n n2 dd dd2 sl sl2 e t r hr)
  ⟨ho,ho2,he,ht,show Value.bool (r 0)≠Value.notImplemented/\Q (.bool (r 0)) s from ⟨(λx=>nomatch x),h⟩⟩ hu
end L3
namespace L3
mutual
def okD:D->D->Prop
 | .int _,.int _=>True
 | .lst l,.lst m=>jj l m
 | .tup l,.tup m=>jj l m
 | _,_=>False
def jj:List D->List D->Prop
 | d::l,e::m=>okD d e/\jj l m
 | _,_=>True
end
mutual
noncomputable def ltD:D->D->Bool
 | .int a,.int b=>decide (a<b)
 | .lst l,.lst m=>vO l m
 | .tup l,.tup m=>vO l m
 | _,_=>sL
noncomputable def vO:List D->List D->Bool
 | d::l,e::m=>if eqD d e=sK then vO l m else ltD d e
 | [],_::_=>sK
 | _,[]=>sL
end
theorem Ue(l m:List D):X8 (λj=>eqD (l.getD j .non) (m.getD j .non)) (λj=>ltD (l.getD j .non) (m.getD j .non)) (λi=>vO (l.drop i) (m.drop i)) l.length m.length:=by
 intro i b1 b2
 simp only
 by_cases h:i<l.length/\i<m.length
 ·rw[if_pos h,aV h.1,aV h.2,vO]
  rw[af,af,aj h.1,aj h.2]
  rfl
 ·rw[if_neg h]
  by_cases h1:i<l.length
  ·have h2:¬ i<m.length:=λz=>h ⟨h1,z⟩
   rw[aV h1,aY (cY h2),vO]
   ·simp;lia
   all_goals simp
  ·rw[aY (cY h1)]
   by_cases h2:i<m.length
   ·rw[aV h2,vO]
    simp;lia
   ·rw[aY (cY h2),vO]
    ·simp;lia
    all_goals simp
theorem zag:∀{l m:List D} {j:Nat} {d e:D},jj l m->l[j]? = sI d->m[j]? = sI e->okD d e
 | d::l,e::m,0,_,_,h,q1,q2=>by
  cases q1;cases q2
  simp only[jj] at h
  exact h.1
 | d::l,e::m,j+1,_,_,h,q1,q2=>by
  simp only[jj] at h
  exact zag (j:=j) h.2 q1 q2
section
variable{X:Cx}{sM:List (oO × pE)}{σ:St}{H:Hp}{s:oQ}
theorem Y7{l m:List D}{xs ys:List V}{its its':List oP}{A:oX}{n:Nat}(hl:Iss X.K H l xs)(hm:Iss X.K H m ys)(r:Vals xs its)(r':Vals ys its')(hn:vM l<n)(ok:jj l m)
  (ih:∀(d e:D) (x y:V) (u v:oP),dpD d<n->okD d e->Is X.K H d x->Is X.K H e y->RelV x u->RelV y v->LtAt A s u v (ltD d e)) :
  ∀j (h1:j<its.toArray.size) (h2:j<its'.toArray.size),LtAt A s its.toArray[j] its'.toArray[j] (ltD (l.getD j .non) (m.getD j .non)):=by
 intro j h1 h2
 rw[al] at h1 h2
 have e1:=hl.len
 have e2:=hm.len
 have e3:=r.length
 have e4:=r'.length
 have g1:l[j]? = sI l[j]:=aj (by lia)
 have g2:m[j]? = sI m[j]:=aj (by lia)
 generalize l[j]=d at g1
 generalize m[j]=e at g2
 obtain⟨x,hx,ix⟩:=hl.at g1
 obtain⟨y,hy,iy⟩:=hm.at g2
 obtain⟨u,hu,ru⟩:=xI r hx
 obtain⟨v,hv,rv⟩:=xI r' hy
 have q1:its.toArray[j]=u:=by
  have:=(sQ.mp hu).2
  simpa using this
 have q2:its'.toArray[j]=v:=by
  have:=(sQ.mp hv).2
  simpa using this
 rw[q1,q2,af,af,g1,g2]
 exact ih d e x y u v (cL (JE g1) hn) (zag ok g1 g2) ix iy ru rv
theorem W8(I:Inv X sM σ H s):∀(n:Nat) (A:oX) (d e:D) (x y:V) (u v:oP),A.units+n<cLine->dpD d<n->okD d e->Is X.K H d x->Is X.K H e y->RelV x u->RelV y v->LtAt A s u v (ltD d e):=by
 intro n
 induction n with
 | zero=>intro A d e x y u v _ h;exact absurd h (cz _)
 | succ n ih =>
  intro A d e x y u v hu hd ok hx hy rx ry
  have hu1:A.units<cLine:=by lia
  have huA:A.in1.units+n<cLine:=by show A.units+1+n<cLine;lia
  cases d with
  | int a =>
   cases e with
   | int b =>
    simp only[Is] at hx hy
    subst hx hy
    obtain⟨t,rfl⟩:=rx
    obtain⟨t',rfl⟩:=ry
    exact λprog w E Q h=>lt_int h
   | _=>simp only[okD] at ok
  | lst l =>
   cases e with
   | lst m =>
    simp only[Is] at hx hy
    obtain⟨a,xs,rfl,h1,h2⟩:=hx
    obtain⟨b,ys,rfl,g1,g2⟩:=hy
    cases rx;cases ry
    obtain⟨its,r,p,_⟩:=I.list h1
    obtain⟨its',r',p',_⟩:=I.list g1
    simp only[dpD] at hd
    simp only[okD] at ok
    have L1:=h2.len
    have L2:=g2.len
    have L3:=r.length
    have L4:=r'.length
    have st:=Ue l m
    rw[show l.length=its.toArray.size by simp only[al];lia,show m.length=its'.toArray.size by simp only[al];lia] at st
    exact LtAt.lists (A:=A) p.isList p'.isList st hu1 (xy h2 g2 r r' (n:=n) (by lia) λd e x y u v q1 q2 q3 q4 q5=>qk I n A.in1 d e x y u v huA q1 q2 q3 q4 q5)
     (λj h1 h2 _=>Y7 (n:=n) (A:=A.in1) ‹_› g2 r r' (by lia) ok (λd e x y u v q1 q2 q3 q4 q5 q6=>ih A.in1 d e x y u v huA q1 q2 q3 q4 q5 q6) j h1 h2)
   | _=>simp only[okD] at ok
  | tup l =>
   cases e with
   | tup m =>
    simp only[Is] at hx hy
    obtain⟨a,xs,rfl,h1,h2⟩:=hx
    obtain⟨b,ys,rfl,g1,g2⟩:=hy
    cases rx;cases ry
    obtain⟨its,r,p,_⟩:=I.tuple h1
    obtain⟨its',r',p',_⟩:=I.tuple g1
    simp only[dpD] at hd
    simp only[okD] at ok
    have L1:=h2.len
    have L2:=g2.len
    have L3:=r.length
    have L4:=r'.length
    have st:=Ue l m
    rw[show l.length=its.toArray.size by simp only[al];lia,show m.length=its'.toArray.size by simp only[al];lia] at st
    exact LtAt.tuples (A:=A) p p' st hu1 (xy h2 g2 r r' (n:=n) (by lia) λd e x y u v q1 q2 q3 q4 q5=>qk I n A.in1 d e x y u v huA q1 q2 q3 q4 q5)
     (λj h1 h2 _=>Y7 (n:=n) (A:=A.in1) ‹_› g2 r r' (by lia) ok (λd e x y u v q1 q2 q3 q4 q5 q6=>ih A.in1 d e x y u v huA q1 q2 q3 q4 q5 q6) j h1 h2)
   | _=>simp only[okD] at ok
  | non=>cases e <;> simp only[okD] at ok
  | bl _=>cases e <;> simp only[okD] at ok
  | str _=>cases e <;> simp only[okD] at ok
def zbD(K:oN):R2:=λx y H Q=>∃d e,Is K H d x/\Is K H e y/\dpD d<50/\okD d e/\Q (.bl (ltD d e)) H
theorem Jb(hu:X.A.units+100<cLine):OpR X (pc .Lt) (zbD X.K):=by
 intro sM s σ H x y v u Q I rx ry h
 obtain⟨d,e,hx,hy,hd,ok,q⟩:=h
 exact W8 I 50 X.A d e x y v u (by lia) hd ok hx hy rx ry X.prog X.w X.xe _ ⟨.bl _,H,I,rfl,q⟩
end
theorem VS{K:oN}{x y:V}{H:Hp}{Q:VK}{d e:D}(h1:Is K H d x)(h2:Is K H e y)(h3:dpD d<50)(h4:okD d e)(q:Q (.bl (ltD d e)) H):zbD K x y H Q:=⟨d,e,h1,h2,h3,h4,q⟩
noncomputable def ltI:List Int->List Int->Bool
 | a::l,b::m=>if a=b then ltI l m else decide (a<b)
 | [],_::_=>sK
 | _,[]=>sL
theorem vK:∀(l m:List Int),jj (l.map D.int) (m.map D.int)
 | [],_=>by simp only[aP,jj]
 | _::_,[]=>by simp only[aP,au,jj]
 | a::l,b::m=>by simp only[au,jj,okD,true_and];exact vK l m
theorem kP:∀(l m:List Int),vO (l.map D.int) (m.map D.int)=ltI l m
 | [],[]=>by simp only[aP,vO,ltI]
 | [],_::_=>by simp only[aP,au,vO,ltI]
 | _::_,[]=>by simp only[aP,au,vO,ltI]
 | a::l,b::m=>by
  simp only[au,vO,ltI,eqD,ltD,kP l m,beq_iff_eq]
end L3
namespace L3
mutual
def y8:D->Prop
 | .lst _=>False
 | .tup l=>zW l
 | _=>True
def zW:List D->Prop
 | []=>True
 | d::l=>y8 d/\zW l
end
theorem U7{K:oN}{H:Hp}{a p:oO}{xs ys zs:List V}(hp:H p=sI (.lst ys))(h:SqT K H a xs):SqT K (upd H p (.lst zs)) a xs:=by
 rcases h with (h | ⟨o,h⟩) | h
 ·refine .inl (.inl ?_)
  rw[zo (λe=>by rw[e,hp] at h;cases h)]
  exact h
 ·refine .inl (.inr ⟨o,?_⟩)
  rw[zo (λe=>by rw[e,hp] at h;cases h)]
  exact h
 ·exact .inr h
mutual
theorem Is.updL{K:oN}{H:Hp}{p:oO}{ys zs:List V}(hp:H p=sI (.lst ys)):∀(d:D) (v:V),y8 d->Is K H d v->Is K (upd H p (.lst zs)) d v
 | .non,v,_,h=>by simp only[Is] at h ⊢;exact h
 | .bl b,v,_,h=>by simp only[Is] at h ⊢;exact h
 | .int b,v,_,h=>by simp only[Is] at h ⊢;exact h
 | .str b,v,_,h=>by simp only[Is] at h ⊢;exact h
 | .lst l,v,f,h=>by simp only[y8] at f
 | .tup l,v,f,h=>by
  simp only[Is] at h ⊢
  simp only[y8] at f
  obtain⟨a,xs,e1,e2,e3⟩:=h
  exact⟨a,xs,e1,U7 hp e2,Iss.updL hp l xs f e3⟩
theorem Iss.updL{K:oN}{H:Hp}{p:oO}{ys zs:List V}(hp:H p=sI (.lst ys)):∀(l:List D) (vs:List V),zW l->Iss K H l vs->Iss K (upd H p (.lst zs)) l vs
 | [],vs,_,h=>by simp only[Iss] at h ⊢;exact h
 | d::l,vs,f,h=>by
  simp only[Iss] at h ⊢
  simp only[zW] at f
  obtain⟨v,r,e1,e2,e3⟩:=h
  exact⟨v,r,e1,Is.updL hp d v f.1 e2,Iss.updL hp l r f.2 e3⟩
end
theorem wv:∀{l:List D},(∀d ∈ l,y8 d)->zW l
 | [],_=>by simp only[zW]
 | d::l,h=>by simp only[zW];exact⟨h d (by simp),wv λe he=>h e (by simp [he])⟩
theorem VV{n:Nat}:∀{l:List D},(∀d ∈ l,dpD d<=n)->vM l<=n
 | [],_=>by simp only[vM];lia
 | d::l,h=>by
  have h1:=h d (by simp)
  have h2:=VV (n:=n) (l:=l) λe he=>h e (by simp [he])
  simp only[vM]
  lia
def LsA(K:oN)(H:Hp)(a:oO)(ds:List D):Prop:=∃xs,H a=sI (.lst xs)/\Iss K H ds xs
theorem LsA.same{K:oN}{H H':Hp}{a:oO}{ds:List D}(h:LsA K H a ds)(e:Same H H'):LsA K H' a ds:=let ⟨xs,h1,h2⟩:=h; ⟨xs,e _ _ h1,Iss.same e _ _ h2⟩
theorem LsA.is{K:oN}{H:Hp}{a:oO}{ds:List D}(h:LsA K H a ds):Is K H (.lst ds) (.ref a):=by
 obtain⟨xs,h1,h2⟩:=h
 simp only[Is]
 exact⟨a,xs,rfl,SqL.of h1,h2⟩
theorem LsA.nil{K:oN}{H:Hp}{a:oO}:LsA K (upd H a (.lst [])) a []:=⟨[],zc,by simp only[Iss]⟩
theorem LsA.snoc{K:oN}{H:Hp}{a:oO}{ds:List D}{d:D}{xs:List V}{v:V}(h1:H a=sI (.lst xs))(h2:Iss K H ds xs)(f:zW ds)(fd:y8 d)(hv:Is K H d v):LsA K (upd H a (.lst (xs ++ [v]))) a (ds ++ [d]) :=
 ⟨_,zc,Iss.append (Iss.updL h1 _ _ f h2) (by simp only[Iss];exact⟨v,[],rfl,Is.updL h1 _ _ fd hv,rfl⟩)⟩
theorem Is.tup{K:oN}{H:Hp}{p:oO}{vs:List V}{ds:List D}(hp:H p=sJ)(h:Iss K H ds vs):Is K (upd H p (.tup vs)) (.tup ds) (.ref p):=by
 simp only[Is]
 exact⟨p,vs,rfl,SqT.of zc,Iss.same (zd hp) _ _ h⟩
noncomputable abbrev dS(l:List Nat):D:=.str (tx l)
noncomputable abbrev zw:=List Nat × List Nat
noncomputable def dR(r:zw):D:=.tup [dS r.1,dS r.2]
theorem zaV{K:oN}{H:Hp}{r:zw}{v:V}(h:Is K H (dR r) v):∃p,v=.ref p/\SqT K H p [.str (tx r.1),.str (tx r.2)]:=by
 simp only[dR,Is,Iss] at h
 obtain⟨a,xs,e,hs,v1,r1,rfl,rfl,v2,r2,rfl,rfl,rfl⟩:=h
 exact⟨a,e,hs⟩
theorem zbZ{K:oN}{H:Hp}{p:oO}{l m:List Nat}(h:SqT K H p [.str (tx l),.str (tx m)]):Is K H (dR (l,m)) (.ref p):=by
 simp only[dR,Is,Iss]
 exact⟨p,_,rfl,h,_,_,rfl,rfl,_,_,rfl,rfl,rfl⟩
theorem Kd(r:zw):y8 (dR r):=by simp only[dR,y8,zW,and_self]
theorem zbK(r:zw):dpD (dR r)<=1:=by simp only[dR,dpD,vM];lia
theorem j9(rs:List zw):zW (rs.map dR):=wv λd h=>by obtain⟨r,_,rfl⟩:=sS.mp h;exact Kd r
theorem Jp(rs:List zw):vM (rs.map dR)<=1:=VV λd h=>by obtain⟨r,_,rfl⟩:=sS.mp h;exact zbK r
noncomputable abbrev N3:=Nat × Nat × Nat
noncomputable def d3(t:N3):D:=.tup [.int (t.1:Nat),.int (t.2.1:Nat),.int (t.2.2:Nat)]
theorem zcf{K:oN}{H:Hp}{t:N3}{v:V}(h:Is K H (d3 t) v):∃p,v=.ref p/\SqT K H p [.int (t.1:Nat),.int (t.2.1:Nat),.int (t.2.2:Nat)]:=by
 simp only[d3,Is,Iss] at h
 obtain⟨a,xs,e,hs,v1,r1,rfl,rfl,v2,r2,rfl,rfl,v3,r3,rfl,rfl,rfl⟩:=h
 exact⟨a,e,hs⟩
theorem zbs{K:oN}{H:Hp}{i j k:Nat}:Iss K H [.int (i:Nat),.int (j:Nat),.int (k:Nat)] [.int (i:Nat),.int (j:Nat),.int (k:Nat)]:=by
 simp only[Iss,Is]
 exact⟨_,_,rfl,rfl,_,_,rfl,rfl,_,_,rfl,rfl,rfl⟩
theorem KT(t:N3):y8 (d3 t):=by simp only[d3,y8,zW,and_self]
theorem Xa(rs:List N3):zW (rs.map d3):=wv λd h=>by obtain⟨r,_,rfl⟩:=sS.mp h;exact KT r
theorem Iss.get{K:oN}{H:Hp}{l:List D}{vs:List V}{j:Nat}{v:V}(h:Iss K H l vs)(q:vs[j]? = sI v):∃d,l[j]? = sI d/\Is K H d v:=by
 have hj:=(sQ.mp q).1
 have hl:=h.len
 have g1:l[j]? = sI l[j]:=aj (by lia)
 obtain⟨x,hx,ix⟩:=h.at g1
 rw[q] at hx
 cases hx
 exact⟨_,g1,ix⟩
theorem Iss.getR{K:oN}{H:Hp}{rs:List zw}{vs:List V}{j:Nat}{v:V}(h:Iss K H (rs.map dR) vs)(q:vs[j]? = sI v):∃r p,rs[j]? = sI r/\v=.ref p/\SqT K H p [.str (tx r.1),.str (tx r.2)]:=by
 obtain⟨d,e,i⟩:=h.get q
 rw[aG] at e
 obtain⟨r,hr,rfl⟩:=tj.mp e
 obtain⟨p,e1,e2⟩:=zaV i
 exact⟨r,p,hr,e1,e2⟩
theorem Iss.get3{K:oN}{H:Hp}{rs:List N3}{vs:List V}{j:Nat}{v:V}(h:Iss K H (rs.map d3) vs)(q:vs[j]? = sI v):∃r p,rs[j]? = sI r/\v=.ref p/\SqT K H p [.int (r.1:Nat),.int (r.2.1:Nat),.int (r.2.2:Nat)]:=by
 obtain⟨d,e,i⟩:=h.get q
 rw[aG] at e
 obtain⟨r,hr,rfl⟩:=tj.mp e
 obtain⟨p,e1,e2⟩:=zcf i
 exact⟨r,p,hr,e1,e2⟩
theorem Q8{α:Type}(l:List α){a b:Int}(h0:0<=a)(h1:a<=b):cut l (sI a) (sI b)=(l.drop a.toNat).take (b - a).toNat:=by
 by_cases h2:b<=l.length
 ·exact VI l h0 h1 h2
 ·obtain⟨m,rfl⟩:=bI h0
  obtain⟨n,rfl⟩:=bI (by lia:0<=b)
  unfold cut
  rw[HT.sIx_nat,HT.sIx_nat,cZ (by lia:l.length<=n)]
  have e:(((n:Nat):Int) - ((m:Nat):Int)).toNat=n - m:=by lia
  have e2:((m:Nat):Int).toNat=m:=rfl
  rw[e,e2,ba (l:=l.drop m) (by rw[aR];lia)]
  by_cases hm:m<=l.length
  ·rw[ci hm,ba (by rw[aR];lia)]
  ·rw[cZ (by lia),aY (am _),aY (by lia),List.take_nil]
end L3
namespace L3
open Classical in
section
variable{X:Cx}{sM:List (oO × pE)}{σ:L2.St}{H:Hp}{s:oQ}
open Classical in
end
end L3
namespace L3
structure DM(P:oU)(w:oW)(K:oN)(mg:oV->Option oP)(base:oZ)(CX:CXT)(k:Nat)(C:oO)(m:oV)(ps:List oV)(sp:Sp):Prop where
 ex:∃f fd,zas K C m f/\z8 P w K mg base CX k f fd ps sp/\Binds K fd ps []
structure DMk(P:oU)(w:oW)(K:oN)(mg:oV->Option oP)(base:oZ)(CX:CXT)(k:Nat)(C:oO)(ps:List oV)(sp:Sp):Prop where
 ex:∃f fd,Mk K C f/\z8 P w K mg base CX k f fd ps sp/\Binds K fd ps []
section
variable{X:Cx}{k j:Nat}{C:oO}{m:oV}{ps:List oV}{sp:Sp}{o e:oY}{es:List oY}{ta:TE}{t:TA}{apos pos p:pW}{x:oV}{E:XK}
theorem me0(D:DM X.prog X.w X.K X.mg X.base CX0 k C m ps sp)(c:Cls X.K C)(hr:Room j X.A)(he:PE X o ta){pl:sB Bool}(ht:eval (.Call (.Attribute o m apos) [] [] pos) X.env=(do
      let ov <- eval o X.env
      standAt apos.atName
      let (f,first) <- holding [ov] (getMethod ov m pl)
      callWith pos f first (pq pos (oK [] X.env)) (pG pos (ph [] X.env))):=by rfl) (hj:k<=j:=by decide):PE X (.Call (.Attribute o m apos) [] [] pos) (Zj C m sp [] E0 ta xS):=by
  obtain⟨f,fd,hm,F,hb⟩:=D.ex
  exact Ut he c hm F (hr.mono hj) hb .nil Yl ht
theorem me1(D:DM X.prog X.w X.K X.mg X.base CX0 k C m ps sp)(c:Cls X.K C)(hr:Room j X.A)(he:PE X o ta)(ha:PA X (e::es) t){pl:sB Bool}
    (hst:oK (e::es) X.env=(sL,eval e X.env)::oK es X.env:=by rfl) (hpl:(pq pos (oK es X.env)).any (·.1)=sL:=by rfl)
    (ht:eval (.Call (.Attribute o m apos) (e::es) [] pos) X.env=(do
      let ov <- eval o X.env
      standAt apos.atName
      let (f,first) <- holding [ov] (getMethod ov m pl)
      callWith pos f first (pq pos (oK (e::es) X.env)) (pG pos (ph [] X.env))):=by rfl) (hj:k<=j:=by decide):PE X (.Call (.Attribute o m apos) (e::es) [] pos) (Zj C m sp [] E0 ta t):=by
  obtain⟨f,fd,hm,F,hb⟩:=D.ex
  exact Kj he c hm F (hr.mono hj) hb .nil Yl ha hst hpl ht
theorem mkC(D:DMk X.prog X.w X.K X.mg X.base CX0 k C ps sp)(hr:Room j X.A)(hg:Gl X x)(hm:X.mg x=sI (.ref C))(ha:PA X (e::es) t)(hdb:(x == ("__debug__" : oV))=sL:=by decide)(he:oK (e::es) X.env=(sL,eval e X.env)::oK es X.env:=by rfl)
  (hpl:(pq pos (oK es X.env)).any (·.1)=sL:=by rfl) (hj:k+1<=j:=by decide):PE X (.Call (.Name x p) (e::es) [] pos) (QL C sp [] E0 t):=by
 obtain⟨f,fd,M,F,hb⟩:=D.ex
 exact Wo M F (hr.mono hj) hg hm hb .nil Yl ha hdb he hpl
end
end L3
namespace L3
section
variable{X:Cx}
def zbb(K:oN)(te:TX)(hds:List Hd):TS:=λD σ H=>te σ H (λ_ H1=>D.nx σ H1) λcls dx H1=>∃C,cls=.ref C/\∀x,H1 x=sJ->tHs K C dx x D σ (upd H1 x (XT x C dx)) hds
theorem Kb{apos pos:pW}{e:oY}{te:TX}{h:pO}{hs:List pO}{hds:List Hd}(hN:X.N.Nodup)
  (hst:X.stack=X.env::X.outer/\X.env.frame=sI X.env.locals) (he:PEX X e te) (hh:ZW X (h::hs) hds) (hsw:swapsWith e sJ apos.line X.env=pure sL:=by rfl) :
  PS X (.Try [.Expr e apos] (h::hs) [] [] pos) (zbb X.K te hds):=by
 intro sM s σ H D I hq
 refine rJ (pV (wpAny_Expr_any (pY (he sM s σ H _ _ I hq) (λv s1 ⟨z,H1,I1,r1,q1⟩=>?_) λe s1 fl=>?_) I.quiet hsw))
 ·exact pK (pK ⟨_,H1,I1,q1⟩)
 ·obtain⟨cx,kx,H1,x,C,t,dx,tb,rfl,I1,ob,tr,fx,fT,C',ec,q1⟩:=fl
  cases ec
  have fr:X.A.frames=sI (X.env::X.outer):=by rw[<- hst.1];exact I1.ok.frames
  have ff:s1.heap.FunFrames X.base (X.env::X.outer):=by rw[<- hst.1];exact I1.stack
  refine uK fr ff hst.2 hst.2 ob tr λh' T oT ts e1 nT oldT e2 d2 z2 k1 k2=>?_
  have fT':xp X sM H1 T:=by
   rcases oldT with z | z
   ·exact fT T z
   ·exact I1.fpOk z (I1.hok.fresh z)
  have tbs:∀b,tb=.ref b->H1 b=sJ:=λb hb=>(fT b hb).1
  have nch:∀b o,s1.heap.get? b=sI o->b ∉ (x::T::tbL tb)->b≠x/\tb≠.ref b:=λb o _ hb=>by
   refine⟨λz=>hb (by simp [z]),λz=>hb ?_⟩
   rw[z]
   simp [tbL]
  have un:Un (frs X.stack) (x::T::tbL tb) H1 H1 s1.heap h':=by
   rw[hst.1]
   refine⟨λb o e n hb hc=>?_,λb o e n hb hc=>?_,λb o e n _=>n,λb o e hc=>?_,λb xs e=>e,λb o u e=>e,λb ps e=>⟨#[],by rw[e];simp⟩⟩
   ·obtain⟨a1,a2⟩:=nch b o e hc
    exact k1 b o a1 a2 hb e
   ·obtain⟨a1,a2⟩:=nch b o e hc
    exact k2 b o a1 a2 e
   ·obtain⟨a1,a2⟩:=nch b o e hc
    obtain⟨sl,q⟩:=k2 b o a1 a2 e
    exact⟨_,q⟩
  have hok:HOk X.prog X.w H1 h':=λb u e=>by
   refine (I1.hok b u e).stay (λc v hc q=>k1 c v ?_ ?_ ?_ q) (λ_ q=>q) λ_ _ q=>q
   ·rintro rfl
    rcases hc with rfl | hc
    ·rw[fx.1] at e;cases e
    ·rw[fx.1] at hc;cases hc
   ·intro z
    have:=tbs c z
    rcases hc with rfl | hc
    ·rw[this] at e;cases e
    ·rw[this] at hc;cases hc
   ·intro z
    rw[<- hst.1] at z
    have:=I1.stkFree c z
    rcases hc with rfl | hc
    ·rw[this] at e;cases e
    ·rw[this] at hc;cases hc
  have I2:Inv X sM σ H1 { s1 with heap:=h' }:=I1.call' (s':={ s1 with heap:=h' }) rfl un hok I1.bare λb hb=>by
   have fb:xp X sM H1 b:=by
    rcases sU.mp hb with z | z
    ·rw[z];exact fx
    ·rcases sU.mp z with z | z
     ·rw[z];exact fT'
     ·cases tb with
      | ref b' =>
       have:b=b':=by simpa [tbL] using z
       rw[this];exact fT b' rfl
      | _=>simp [tbL] at z
   obtain⟨_,a1,_,a3,a4,a5⟩:=fb
   exact⟨a3,a1,a4,a5⟩
  have I3:Inv X sM σ (upd H1 x (XT x C dx)) { s1 with heap:=h' }:=Inv.track I2 fx (JK e1)
  exact Zx hN hh I3 zc ⟨t,_,_,e1⟩ ⟨oT,ts,e2,d2,z2⟩ ⟨by rw[zo nT];exact fT'.1,fT'.2⟩ (q1 x fx.1)
end
section
variable{X:Cx}{k j:Nat}{C:oO}{m:oV}{ps:List oV}{sp:Sp}{o e:oY}{es:List oY}{ta:TE}{t:TA}{apos pos p:pW}
end
end L3
namespace L3
def zu(Fam:oO->Prop)(m:oV)(sp:oO->Sp)(dvs:List V)(E:XK)(ta:TE)(t:TA):TE:=λσ H Q=>ta σ H λx H1=>∃C a dx fs,Fam C/\x=.ref a/\H1 a=sI (.ins C dx fs)/\fs.lookup m=sJ /\
 t σ H1 λvs H2=>sp C (x::(vs ++ dvs)) H2 Q E
structure DMF(P:oU)(w:oW)(K:oN)(mg:oV->Option oP)(base:oZ)(CX:CXT)(k:Nat)(Fam:oO->Prop)(m:oV)(ps:List oV)(sp:oO->Sp):Prop where
 ex:∀C,Fam C->Cls K C/\DM P w K mg base CX k C m ps (sp C)
section
variable{X:Cx}{k j:Nat}{Fam:oO->Prop}{m:oV}{ps:List oV}{sp:oO->Sp}{o e:oY}{es:List oY}{ta:TE}{t:TA}{apos pos p:pW}{x:oV}{E:XK}
theorem zdJ(D:DMF X.prog X.w X.K X.mg X.base CX0 k Fam m ps sp)(hr:Room j X.A)(he:PE X o ta){pl:sB Bool}(ht:eval (.Call (.Attribute o m apos) [] [] pos) X.env=(do
      let ov <- eval o X.env
      standAt apos.atName
      let (f,first) <- holding [ov] (getMethod ov m pl)
      callWith pos f first (pq pos (oK [] X.env)) (pG pos (ph [] X.env))):=by rfl) (hj:k<=j:=by decide):PE X (.Call (.Attribute o m apos) [] [] pos) (zu Fam m sp [] E0 ta xS):=by
  intro sM s σ H Q I h
  refine bZ (pl:=pl) (thn (he sM s σ H _ I h) λu s1 ⟨x,H1,I1,rx,C,a,dx,fs,fam,ex,ea,l,q⟩=>?_) ht
  subst ex
  obtain rfl:u=Value.ref a:=rx
  obtain⟨c,⟨f,fd,hm,F,hb⟩⟩:=D.ex C fam
  refine xP I1 ea c hm l ?_
  exact ft (first:=[.ref a]) I1.kIn hm.kp (jA (us:=[.ref a]) (vs:=[.ref a]) F (hr.mono hj) hb .nil Yl I1 (.cons rfl .nil) q)
theorem K8(D:DMF X.prog X.w X.K X.mg X.base CX0 k Fam m ps sp)(hr:Room j X.A)(he:PE X o ta)(ha:PA X (e::es) t){pl:sB Bool}
    (hst:oK (e::es) X.env=(sL,eval e X.env)::oK es X.env:=by rfl) (hpl:(pq pos (oK es X.env)).any (·.1)=sL:=by rfl)
    (ht:eval (.Call (.Attribute o m apos) (e::es) [] pos) X.env=(do
      let ov <- eval o X.env
      standAt apos.atName
      let (f,first) <- holding [ov] (getMethod ov m pl)
      callWith pos f first (pq pos (oK (e::es) X.env)) (pG pos (ph [] X.env))):=by rfl) (hj:k<=j:=by decide):PE X (.Call (.Attribute o m apos) (e::es) [] pos) (zu Fam m sp [] E0 ta t):=by
  intro sM s σ H Q I h
  refine bZ (pl:=pl) (thn (he sM s σ H _ I h) λu s1 ⟨x,H1,I1,rx,C,a,dx,fs,fam,ex,ea,l,q⟩=>?_) ht
  subst ex
  obtain rfl:u=Value.ref a:=rx
  obtain⟨c,⟨f,fd,hm,F,hb⟩⟩:=D.ex C fam
  refine xP I1 ea c hm l ?_
  refine bT (first:=[.ref a]) (h₀:=X.base) I.ok.mod.kin hm.kp (thn (ha pos sM s1 σ H1 _ I1 q) λus s2 ⟨vs,H2,I2,r,q2⟩=>⟨I2.kIn,?_⟩) hst hpl
  exact jA (us:=.ref a::us) (vs:=.ref a::vs) F (hr.mono hj) hb .nil Yl I2 (.cons rfl r) q2
end
section
variable{X:Cx}
theorem Yy:∀{ns:List Int} {its:List oP},Vals (ns.map V.int) its->su its ns
 | [],_,.nil=>.nil
 | n::ns,_,.cons r t=>by
  obtain⟨tk,rfl⟩:=r
  exact .cons n tk (Yy t)
def yf(K:oN):List V->Hp->VK->Prop:=λxs H Q=>∃(p:oO) (ns:List Int),xs=[.ref p]/\SqL K H p (ns.map V.int)/\Q (.int ns.sum) H
theorem zaT(hc:X.calm=sK):wL X (.builtin "sum") (yf X.K):=by
 intro sM s σ H xs us Q I r h
 obtain⟨p,ns,rfl,hS,q⟩:=h
 obtain⟨u,rfl,ru⟩:=wI r
 cases ru
 obtain⟨its,rv,pl,hz⟩:=I.list hS
 have hh:X.A.handled=sJ:=I.ok.hd hc
 have ia:=Yy rv
 obtain⟨ps,e⟩:=ia.allInts.items
 have en:ps.toList.map (·.1)=ns:=by
  rw[<- nums_intItems,<- e]
  exact ia.numsOf
 refine sum_intListG hh (by rw[<- e];exact pl.isList) λh' tk t' hk=>?_
 rw[preSum_eq,ba (by simp),en]
 exact⟨.int ns.sum,H,I.kept hk,⟨_,rfl⟩,q⟩
end
end L3
namespace L3
theorem XB(l:List Nat):((Builtin.Str.strSliceIndices sJ sJ (-1) (tx l).length).filterMap ((tx l).cps[·]?))=l.reverse:=by
 rw[zD,picked_rev]
 have e:(tx l).cps=l.toArray:=rfl
 rw[e]
 apply List.ext_getElem?
 intro i
 have h:((aW l.length).map λk=>l.length - 1 - k).filterMap (l.toArray[·]?)=(aW l.length).map λk=>l.getD (l.length - 1 - k) 0:=by
  rw[filterMap_get,dN]
  ·refine cF λk _=>?_
   show l.toArray.getD (l.length - 1 - k) 0=_
   simp [fk,List.getD]
   split <;> simp_all
  ·intro i hi
   obtain⟨k,hk,rfl⟩:=sS.mp hi
   have:=sZ.mp hk
   show _<l.toArray.size
   rw[al]
   lia
 rw[h]
 by_cases hi:i<l.length
 ·rw[bg hi,aG,List.getElem?_range hi]
  show sI (l.getD (l.length - 1 - i) 0)=_
  rw[af,aj (by lia)]
  rfl
 ·rw[bC (by simp;lia),bC (by simp;lia)]
def ye(te ts:TE):TE:=λσ H Q=>te σ H λx H1=>ts σ H1 λy H2=>y=.int (-1)/\∃l:List Nat,x=.str (tx l)/\l.length<=oM/\Q (.str (tx l.reverse)) H2
section
variable{X:Cx}{e st:oY}{te ts:TE}{pos p2:pW}
theorem JW(he:PE X e te)(hs:PE X st ts):PE X (.Subscript e (.Slice sJ sJ (sI st) p2) pos) (ye te ts):=by
 intro sM s σ H Q I h
 refine sF (thn (he sM s σ H _ I h) λv s1 ⟨x,H1,I1,r1,q1⟩=>?_)
 refine wpAny_Slice ?_
 rw[evalPart_none]
 refine oH (oH ?_)
 rw[evalPart_some]
 refine thn (hs sM s1 σ H1 _ I1 q1) λu s2 ⟨y,H2,I2,r2,ey,l,ex,hl,q2⟩=>?_
 subst ey ex
 obtain⟨t,rfl⟩:=r1
 obtain⟨tk,rfl⟩:=r2
 have I4:Inv X sM σ H2 { s2 with heap:=s2.heap.push { cls:=.type "slice",data:=.fields #[.none,.none,.int (-1) tk] } }:=I2.kept (t':=s2.toks) λb ob q=>aa _ q
 show oR (model X.prog X.w) X.A (si e (.Slice sJ sJ (sI st) p2) (.str (tx l) t) (.ref s2.heap.objs.size)) (EP X sM σ Q) X.xe { s2 with heap:=s2.heap.push { cls:=.type "slice",data:=.fields #[.none,.none,.int (-1) tk] } }
 refine tail_any (ops:=[.ref s2.heap.objs.size,.str (tx l) t]) (typeIs_str _ (tx l) t) slot_str_getitem.lookup ?_ (by with_unfolding_all rfl)
 refine rG (l:=sJ) (u:=sJ) (st:=sI (-1,tk)) (Heap.IsSliceOf.new ..) rfl ?_
 unfold sliceMade slicePicked
 have hc':¬ (((sI ((-1:Int),tk)).map (·.1)).getD 1 == 1 && (Builtin.Str.strSliceIndices ((sJ:Option (Int × rF)).map (·.1)) ((sJ:Option (Int × rF)).map (·.1)) (((sI ((-1:Int),tk)).map (·.1)).getD 1) (tx l).length).length == (tx l).length)=sK:=by
  have:(((sI ((-1:Int),tk)).map (·.1)).getD 1 == 1)=sL:=rfl
  rw[this]
  simp
 rw[if_neg hc']
 have e:Str.mk ((Builtin.Str.strSliceIndices sJ sJ (-1) (tx l).length).filterMap ((tx l).cps[·]?)).toArray=tx l.reverse:=by
  rw[XB]
 show (Str.mk ((Builtin.Str.strSliceIndices sJ sJ (-1) (tx l).length).filterMap ((tx l).cps[·]?)).toArray).length<=oM/\_
 rw[e]
 refine⟨by rw[zD,cr];exact hl,?_⟩
 exact⟨.str (tx l.reverse),H2,I4.tok _,⟨_,by
  show Value.str (Str.mk ((Builtin.Str.strSliceIndices sJ sJ (-1) (tx l).length).filterMap ((tx l).cps[·]?)).toArray) _=_
  rw[e]⟩,q2⟩
end
end L3
namespace L3
structure zdz(K:oN)(C:oO)(m:oV)(f:oO):Prop where
 sg:cB K (.ref C) "__getattribute__" = sI (sI (.builtin "type.__getattribute__"))
 rd:fN K C (.type "type")=sK
 fc:fO K (.ref C) (.type "type") m=sI (.val (.ref f))
 kp:aO K (.ref f)=sK
structure DC(P:oU)(w:oW)(K:oN)(mg:oV->Option oP)(base:oZ)(CX:CXT)(k:Nat)(C:oO)(m:oV)(ps:List oV)(sp:Sp):Prop where
 ex:∃f fd,zdz K C m f/\z8 P w K mg base CX k f fd ps sp/\Binds K fd ps []
section
variable{X:Cx}{k j:Nat}{C:oO}{m x:oV}{ps:List oV}{sp:Sp}{e:oY}{es:List oY}{t:TA}{apos pos p:pW}
theorem Kt(D:DC X.prog X.w X.K X.mg X.base CX0 k C m ps sp)(hr:Room j X.A)(hg:Gl X x)(hm:X.mg x=sI (.ref C))(ha:PA X (e::es) t){pl:sB Bool}(hdb:(x == ("__debug__" : oV))=sL:=by decide)
    (hst:oK (e::es) X.env=(sL,eval e X.env)::oK es X.env:=by rfl) (hpl:(pq pos (oK es X.env)).any (·.1)=sL:=by rfl)
    (ht:eval (.Call (.Attribute (.Name x p) m apos) (e::es) [] pos) X.env=(do
      let ov <- eval (.Name x p) X.env
      standAt apos.atName
      let (f,first) <- holding [ov] (getMethod ov m pl)
      callWith pos f first (pq pos (oK (e::es) X.env)) (pG pos (ph [] X.env))):=by rfl) (hj:k<=j:=by decide):PE X (.Call (.Attribute (.Name x p) m apos) (e::es) [] pos) (vY sp [] E0 t):=by
  obtain⟨f,fd,cm,F,hb⟩:=D.ex
  have hn:PE X (.Name x p) (tC (.ref C)):=yK hg hm rfl hdb
  intro sM s σ H Q I h
  refine bZ (pl:=pl) (thn (hn sM s σ H (λy H1=>y=.ref C/\H1=H) I ⟨rfl,rfl⟩) λu s1 ⟨y,H1,I1,ry,ey,eH⟩=>?_) ht
  subst ey eH
  obtain rfl:u=Value.ref C:=ry
  refine PySem.W.method_cls I1.kIn cm.sg (PySem.W.cls_value I1.kIn cm.rd cm.fc rfl ?_)
  refine bT (first:=[]) (h₀:=X.base) I.ok.mod.kin cm.kp (thn (ha pos sM _ σ H1 _ (I1.tok _) h) λus s2 ⟨vs,H2,I2,r,q2⟩=>⟨I2.kIn,?_⟩) hst hpl
  exact jA (us:=us) (vs:=vs) F (hr.mono hj) hb .nil Yl I2 r q2
def zv:V->List V->Hp->VK->Prop:=λx xs H Q=>∃(z y:oV) (i:Nat),x=.str z/\xs=[.str y]/\PySem.Txt.find z y=(i:Int)/\Q (.int (i:Nat)) H
theorem KW:MtR X "str.index" zv:=by
 intro sM s σ H x xs v us Q I rx rv h
 obtain⟨z,y,i,rfl,rfl,hf,q⟩:=h
 obtain⟨t,rfl⟩:=rx
 obtain⟨u,rfl,t',rfl⟩:=wI rv
 unfold PySem.Txt.find at hf
 cases ho:Builtin.Str.occurrences z y 0 z.length 1 with
 | nil=>rw[ho] at hf;dsimp only at hf;lia
 | cons a r =>
  rw[ho] at hf
  have:a=i:=by dsimp only at hf;lia
  subst this
  exact PySem.SC.index ho ⟨.int _,H,I.tok _,⟨_,rfl⟩,q⟩
end
end L3
namespace L3
section
variable{prog:oU}{w:oW}{A:oX}{E:oP->oQ->Prop}{s:oQ}
theorem wU{h h':oZ}{a:oO}{ty:String}{x:oV}{t:rF}{i:Nat}(y:h.IsStrIter a ty x t i)(e:∀o,h.get? a=sI o->h'.get? a=sI o):h'.IsStrIter a ty x t i:=let ⟨o,ho,r⟩:=y; ⟨o,e o ho,r⟩
theorem vF{h h':oZ}{a t:oO}{i:Nat}(y:h.IsTupleIter a t i)(e:∀o,h.get? a=sI o->h'.get? a=sI o):h'.IsTupleIter a t i:=let ⟨o,ho,r⟩:=y; ⟨o,e o ho,r⟩
theorem QT{h h':oZ}{a:oO}{xs:Array oP}(y:h.IsTuple a xs)(e:∀o,h.get? a=sI o->h'.get? a=sI o):h'.IsTuple a xs:=let ⟨o,ho,r⟩:=y; ⟨o,e o ho,r⟩
theorem sit(x:oV):pw x="str_ascii_iterator"\/pw x="str_iterator":=by
 unfold pw
 split
 ·exact .inl rfl
 ·exact .inr rfl
theorem qW{it:oO}{x:oV}{t:rF}{i c:Nat}{Q:oP->oQ->Prop}(hit:s.heap.IsStrIter it (pw x) x t i)(hx:x.cps[i]? = sI c)
  (hQ:∀h',h'.IsStrIter it (pw x) x t (i+1)->Heap.SameBut it s.heap h'->Q (.str ⟨#[c]⟩ s.toks) { s with heap:=h',toks:=s.toks+1 }) :
  oR (model prog w) A (Builtin.SmallTypes.nextOf (.ref it)) Q E s:=by
 rcases sit x with e | e
 ·rw[e] at hit hQ
  exact wpAny_nextOf_ascii_item hit hx hQ
 ·rw[e] at hit hQ
  exact wpAny_nextOf_wide_item hit hx hQ
theorem jf{it:oO}{x:oV}{t:rF}{i:Nat}{Q:oP->oQ->Prop}(hh:A.handled=sJ)(hit:s.heap.IsStrIter it (pw x) x t i)(hx:x.cps[i]? = sJ)
  (hE:∀h' e,Heap.ExtBut it s.heap h'->(∃o,h'.get? e=sI o/\o.cls=.type "StopIteration")->E (.ref e) { s with heap:=h' }) :
  oR (model prog w) A (Builtin.SmallTypes.nextOf (.ref it)) Q E s:=by
 rcases sit x with e | e
 ·rw[e] at hit
  exact wpAny_nextOf_ascii_end hh hit hx hE
 ·rw[e] at hit
  exact wpAny_nextOf_wide_end hh hit hx hE
theorem qr{it t:oO}{i:Nat}{items:Array oP}{x:oP}{Q:oP->oQ->Prop}(hit:s.heap.IsTupleIter it t i)(ht:s.heap.IsTuple t items)(hx:items[i]? = sI x)
  (hQ:∀h',h'.IsTupleIter it t (i+1)->Heap.SameBut it s.heap h'->Q x { s with heap:=h' }) :
  oR (model prog w) A (Builtin.SmallTypes.nextOf (.ref it)) Q E s:=by
 obtain⟨o,ho,hc,hd⟩:=id hit
 obtain⟨ol,hol,_,nl,hdl⟩:=ht
 unfold Builtin.SmallTypes.nextOf
 refine oG (wpAny_callSpecial?_slot (name:=bL "__next__") hit.typeIs F.slot_tuple_iterator_next
  (rH F.slot_tuple_iterator_next hit.typeIs F.entry_tuple_iterator_next ?_ (F.args_tuple_iterator_next_1 _)))
 show oR _ _ (field (.ref it) 0 >>= _) _ _ s
 refine oG (pf ho hd (x:=.ref t) rfl ?_)
 show oR _ _ (if (Value.ref t == Value.none)=sK then _ else _) _ _ s
 rw[if_neg (show ¬ ((Value.ref t == Value.none)=sK) from aC)]
 show oR _ _ (field (.ref it) 1 >>= _) _ _ s
 refine oG (pf ho hd (x:=.int i 0) rfl ?_)
 show oR _ _ (seqItems? (.ref t) >>= _) _ _ s
 refine oG (pz hol hdl ?_)
 simp only[aH,hx]
 refine oG (pP ho hd (by simp) (oH ⟨x,rfl,oH (hQ _ ?_ (Heap.SameBut.update ..))⟩))
 exact⟨_,cb _ ho (Obj.isFreed_of_fields (Obj.data_mapFields hd _)),(Obj.cls_mapFields ..).trans hc,by
  rw[Obj.data_mapFields hd];simp [rawInt]⟩
structure zbr(z TI TO i1 i2 l2:oO):Prop extends Q1 z TI TO i1 i2 where
 l2z:l2≠z
 l2TO:l2≠TO
 l2i1:l2≠i1
 l2i2:l2≠i2
theorem UE{z TI TO i1 i2 l2:oO}{k c:Nat}{X:oV}{tx:rF}{ys:Array oP}{y a b:oP}{Q:oP->oQ->Prop}(D:zbr z TI TO i1 i2 l2)
  (hz:rE s.heap z TI TO .none) (hTI:pR s.heap TI (.ref i1) (.ref i2)) (hTO:pR s.heap TO a b)
  (h1:s.heap.IsStrIter i1 (pw X) X tx k) (h2:s.heap.IsTupleIter i2 l2 k) (hl2:s.heap.IsTuple l2 ys) (hx:X.cps[k]? = sI c) (hy:ys[k]? = sI y)
  (hQ:∀h' t',rE h' z TI TO (rawInt s.heap.objs.size)->pR h' TO (.str ⟨#[c]⟩ t') y->h'.IsStrIter i1 (pw X) X tx (k+1)->h'.IsTupleIter i2 l2 (k+1)->pR h' s.heap.objs.size (.str ⟨#[c]⟩ t') y->h'.objs.size=s.heap.objs.size+1 ->
   (∀c o,c≠z->c≠TO->c≠i1->c≠i2->s.heap.get? c=sI o->h'.get? c=sI o)->Q (.ref s.heap.objs.size) { s with heap:=h',toks:=s.toks+1 }) :
  oR (model prog w) A (Builtin.«zip.__next__» ⟨[.ref z],[]⟩) (λfin s'=>∃v,fin=.done (.ret v)/\Q v s') E s:=by
 show oR _ _ (field (.ref z) 2 >>= _) _ _ _
 refine oG (pf hz rfl (x:=.bool sL) rfl ?_)
 show oR _ _ (field (.ref z) 3 >>= _) _ _ _
 refine oG (pf hz rfl (x:=.ref TI) rfl ?_)
 refine oG (pz hTI rfl ?_)
 show oR _ _ (Builtin.SmallTypes.ownedTupleIsFree (.ref z) >>= _) _ _ _
 refine oG ?_
 unfold Builtin.SmallTypes.ownedTupleIsFree
 refine oG (pf hz rfl (x:=.none) rfl (oH ?_))
 simp only[if_true]
 refine oG (rK ?_)
 refine oG (pf hz rfl (x:=.ref TO) rfl ?_)
 refine oG (pX hz (by simp) λh₁ hz₁ hs₁=>?_)
 replace hz₁:rE h₁ z TI TO .ellipsis:=hz₁
 refine oG ?_
 simp only[List.zipIdx_cons,List.zipIdx_nil,dh,eY]
 refine oG (oG (rY ?_))
 show oR _ _ (Builtin.SmallTypes.nextOf (.ref i1) >>= _) _ _ _
 refine oG (qW (s:={ s with heap:=h₁ }) (wU h1 λo e=>hs₁.extBut _ _ D.i1z e) hx λh₂ h1₂ hs₂=>oH ?_)
 have hTO₂:pR h₂ TO a b:=hs₂.extBut _ _ D.TOi1 (hs₁.extBut _ _ D.TOz hTO)
 refine oG (pz hTO₂ rfl ?_)
 refine oG (rQ hTO₂ λh₃ hTO₃ hs₃=>?_)
 replace hTO₃:pR h₃ TO (.str ⟨#[c]⟩ s.toks) b:=hTO₃
 refine oG (pN (oH ?_))
 refine oG (oG (rY ?_))
 show oR _ _ (Builtin.SmallTypes.nextOf (.ref i2) >>= _) _ _ _
 have up3:∀d o,d≠z->d≠i1->d≠TO->s.heap.get? d=sI o->h₃.get? d=sI o:=λd o d1 d2 d3 e=>hs₃.extBut _ _ d3 (hs₂.extBut _ _ d2 (hs₁.extBut _ _ d1 e))
 refine oG (qr (vF h2 λo e=>up3 _ o D.i2z D.i12.symm D.TOi2.symm e) (QT hl2 λo e=>up3 _ o D.l2z D.l2i1 D.l2TO e) hy λh₄ h2₄ hs₄=>oH ?_)
 have hTO₄:pR h₄ TO (.str ⟨#[c]⟩ s.toks) b:=hs₄.extBut _ _ D.TOi2 hTO₃
 refine oG (pz hTO₄ rfl ?_)
 refine oG (rQ hTO₄ λh₅ hTO₅ hs₅=>?_)
 replace hTO₅:pR h₅ TO (.str ⟨#[c]⟩ s.toks) y:=hTO₅
 refine oG (pN (oH (oH ?_)))
 refine oG (pz hTO₅ rfl ?_)
 refine oG (wpAny_newTuple ?_)
 have hsz:h₅.objs.size=s.heap.objs.size:=by rw[hs₅.1,hs₄.1,hs₃.1,hs₂.1,hs₁.1]
 have hz₅:rE h₅ z TI TO .ellipsis:=hs₅.extBut _ _ D.TOz.symm (hs₄.extBut _ _ D.i2z.symm (hs₃.extBut _ _ D.TOz.symm (hs₂.extBut _ _ D.i1z.symm hz₁)))
 have hk₅:∀c o,c≠z->c≠TO->c≠i1->c≠i2->s.heap.get? c=sI o->h₅.get? c=sI o:=λc o c1 c2 c3 c4 e =>
  hs₅.extBut _ _ c2 (hs₄.extBut _ _ c4 (up3 _ _ c1 c3 c2 e))
 have h1₅:h₅.IsStrIter i1 (pw X) X tx (k+1):=wU h1₂ λo e=>hs₅.extBut _ _ D.TOi1.symm (hs₄.extBut _ _ D.i12 (hs₃.extBut _ _ D.TOi1.symm e))
 have h2₅:h₅.IsTupleIter i2 l2 (k+1):=vF h2₄ λo e=>hs₅.extBut _ _ D.TOi2.symm e
 have hzlt:z<h₅.objs.size:=aq hz₅
 show oR _ _ (Builtin.SmallTypes.ownedTupleHandOut (.ref z) (.ref h₅.objs.size) >>= _) _ _ _
 refine oG ?_
 unfold Builtin.SmallTypes.ownedTupleHandOut
 have hz₆:rE (h₅.push { cls:=.type "tuple",data:=.seq #[.str ⟨#[c]⟩ s.toks,y] }) z TI TO .ellipsis:=aa _ hz₅
 refine oG (pX hz₆ (by simp) λh₇ hz₇ hs₇=>?_)
 replace hz₇:rE h₇ z TI TO (rawInt h₅.objs.size):=hz₇
 refine pX hz₇ (by simp) λh₈ hz₈ hs₈=>?_
 replace hz₈:rE h₈ z TI TO (rawInt h₅.objs.size):=hz₈
 have up:∀c o,c≠z->h₅.get? c=sI o->h₈.get? c=sI o:=λc o c1 e=>hs₈.extBut _ _ c1 (hs₇.extBut _ _ c1 (aa _ e))
 have hT₈:pR h₈ h₅.objs.size (.str ⟨#[c]⟩ s.toks) y:=hs₈.extBut _ _ (bS hzlt) (hs₇.extBut _ _ (bS hzlt) (aD _ rfl))
 have hz8:h₈.objs.size=h₅.objs.size+1:=by rw[hs₈.1,hs₇.1,bq]
 rw[hsz] at hz₈ hT₈ hz8
 refine oH ⟨_,rfl,?_⟩
 show Q (.ref h₅.objs.size) _
 rw[hsz]
 exact hQ h₈ s.toks hz₈ (up _ _ D.TOz hTO₅) (wU h1₅ λo e=>up _ o D.i1z e) (vF h2₅ λo e=>up _ o D.i2z e) hT₈ hz8 λc o c1 c2 c3 c4 e=>up c o c1 (hk₅ c o c1 c2 c3 c4 e)
theorem JI{z TI TO i1 i2 l2:oO}{k:Nat}{X:oV}{tx:rF}{a b:oP}{Q:Fin->oQ->Prop}(hh:A.handled=sJ)(D:zbr z TI TO i1 i2 l2)
  (hz:rE s.heap z TI TO .none) (hTI:pR s.heap TI (.ref i1) (.ref i2)) (hTO:pR s.heap TO a b)
  (h1:s.heap.IsStrIter i1 (pw X) X tx k) (hx:X.cps[k]? = sJ)
  (hE:∀h' e,(∀c o,c≠z->c≠TO->c≠i1->c≠i2->s.heap.get? c=sI o->h'.get? c=sI o)->(∃o,h'.get? e=sI o/\o.cls=.type "StopIteration")->E (.ref e) { s with heap:=h' }) :
  oR (model prog w) A (Builtin.«zip.__next__» ⟨[.ref z],[]⟩) Q E s:=by
 show oR _ _ (field (.ref z) 2 >>= _) _ _ _
 refine oG (pf hz rfl (x:=.bool sL) rfl ?_)
 show oR _ _ (field (.ref z) 3 >>= _) _ _ _
 refine oG (pf hz rfl (x:=.ref TI) rfl ?_)
 refine oG (pz hTI rfl ?_)
 show oR _ _ (Builtin.SmallTypes.ownedTupleIsFree (.ref z) >>= _) _ _ _
 refine oG ?_
 unfold Builtin.SmallTypes.ownedTupleIsFree
 refine oG (pf hz rfl (x:=.none) rfl (oH ?_))
 simp only[if_true]
 refine oG (rK ?_)
 refine oG (pf hz rfl (x:=.ref TO) rfl ?_)
 refine oG (pX hz (by simp) λh₁ hz₁ hs₁=>?_)
 replace hz₁:rE h₁ z TI TO .ellipsis:=hz₁
 refine oG ?_
 simp only[List.zipIdx_cons,List.zipIdx_nil,dh,eY]
 refine oG (oG (rY ?_))
 show oR _ _ (Builtin.SmallTypes.nextOf (.ref i1) >>= _) _ _ _
 refine oG (jf (s:={ s with heap:=h₁ }) hh (wU h1 λo e=>hs₁.extBut _ _ D.i1z e) hx λh₂ e hs₂ he=>?_)
 obtain⟨oe,hoe,hce⟩:=he
 have hz₂:rE h₂ z TI TO .ellipsis:=hs₂ _ _ D.i1z.symm hz₁
 have hez:e≠z:=λx=>by subst x;rw[hz₂] at hoe;cases hoe;simp at hce
 refine pX hz₂ (by simp) λh₃ _ hs₃=>hE h₃ e (λc o c1 _ c3 _ x=>hs₃.extBut _ _ c1 (hs₂ _ _ c3 (hs₁.extBut _ _ c1 x))) ⟨oe,hs₃.extBut _ _ hez hoe,hce⟩
end
end L3
namespace L3
section
variable{prog:oU}{w:oW}{A:oX}{E:oP->oQ->Prop}{s:oQ}
theorem qQ{z TI TO i1 i2 l2:oO}{k c:Nat}{X:oV}{tx:rF}{ys:Array oP}{y a b:oP}{Q:Option oP->oQ->Prop}(D:zbr z TI TO i1 i2 l2)
  (hz:rE s.heap z TI TO .none) (hTI:pR s.heap TI (.ref i1) (.ref i2)) (hTO:pR s.heap TO a b)
  (h1:s.heap.IsStrIter i1 (pw X) X tx k) (h2:s.heap.IsTupleIter i2 l2 k) (hl2:s.heap.IsTuple l2 ys) (hx:X.cps[k]? = sI c) (hy:ys[k]? = sI y)
  (hQ:∀h' t',rE h' z TI TO (rawInt s.heap.objs.size)->pR h' TO (.str ⟨#[c]⟩ t') y->h'.IsStrIter i1 (pw X) X tx (k+1)->h'.IsTupleIter i2 l2 (k+1)->pR h' s.heap.objs.size (.str ⟨#[c]⟩ t') y->h'.objs.size=s.heap.objs.size+1 ->
   (∀c o,c≠z->c≠TO->c≠i1->c≠i2->s.heap.get? c=sI o->h'.get? c=sI o)->Q (sI (.ref s.heap.objs.size)) { s with heap:=h',toks:=s.toks+1 }) :
  oR (model prog w) A (pyNext (.ref z)) Q E s:=by
 have hT:s.TypeIs (.ref z) "zip":=⟨_,hz,rfl⟩
 unfold pyNext
 exact oG (rm (wpAny_callSpecial?_slot (name:=bL "__next__") hT F.slot_zip_next
  (rH F.slot_zip_next hT F.entry_zip_next
   (UE D hz hTI hTO h1 h2 hl2 hx hy λh' t' a1 a2 a3 a4 a5 a6 a7=>oH (hQ h' t' a1 a2 a3 a4 a5 a6 a7)) (F.args_zip_next_1 _))))
theorem ji{z TI TO i1 i2 l2:oO}{k:Nat}{X:oV}{tx:rF}{a b:oP}{Q:Option oP->oQ->Prop}(hh:A.handled=sJ)(D:zbr z TI TO i1 i2 l2)
  (hz:rE s.heap z TI TO .none) (hTI:pR s.heap TI (.ref i1) (.ref i2)) (hTO:pR s.heap TO a b)
  (h1:s.heap.IsStrIter i1 (pw X) X tx k) (hx:X.cps[k]? = sJ)
  (hQ:∀h',(∀c o,c≠z->c≠TO->c≠i1->c≠i2->s.heap.get? c=sI o->h'.get? c=sI o)->Q sJ { s with heap:=h' }):oR (model prog w) A (pyNext (.ref z)) Q E s:=by
 have hT:s.TypeIs (.ref z) "zip":=⟨_,hz,rfl⟩
 unfold pyNext
 refine oG (rm (wpAny_callSpecial?_slot (name:=bL "__next__") hT F.slot_zip_next
  (rH F.slot_zip_next hT F.entry_zip_next (JI hh D hz hTI hTO h1 hx λh' e hk he=>?_) (F.args_zip_next_1 _))))
 obtain⟨o,ho,hc⟩:=he
 refine oG (wpAny_isInstance (T:="StopIteration") (b:=sK) ⟨o,ho,hc⟩ isSubtype_stop ?_)
 exact oH (hQ _ hk)
end
noncomputable abbrev zbJ(h:oZ)(x:oV)(t:rF):oZ:=h.push { cls:=.type (pw x),data:=.fields #[.str x t,.int 0 0] }
noncomputable abbrev zbB(h:oZ)(x:oV)(t:rF)(l2:oO):oZ:=(zbJ h x t).push { cls:=.type "tuple_iterator",data:=.fields #[.ref l2,.int 0 0] }
noncomputable abbrev zbC(h:oZ)(x:oV)(t:rF)(l2:oO):oZ:=(zbB h x t l2).push { cls:=.type "tuple",data:=.seq #[.ref h.objs.size,.ref (zbJ h x t).objs.size] }
noncomputable abbrev zbG(h:oZ)(x:oV)(t:rF)(l2:oO):oZ:=(zbC h x t l2).push { cls:=.type "tuple",data:=.seq #[.none,.none] }
noncomputable abbrev KZ(h:oZ)(x:oV)(t:rF)(l2:oO):oZ:=(zbG h x t l2).push { cls:=.type "zip",data:=.fields #[.none,.bool sL,.bool sL,.ref (zbB h x t l2).objs.size,.ref (zbC h x t l2).objs.size] }
theorem j8(x:oV)(t:rF)(l2:oO)(ys:Array oP) :
  Meets (Builtin.«zip.__new__» ⟨[.type "zip",.str x t,.ref l2],[]⟩) (λ_ R s=>s.heap.IsTuple l2 ys /\
   R (.ok (.ret (.ref (zbG s.heap x t l2).objs.size))) { s with heap:=KZ s.heap x t l2 }) :=
 .of_wp λprog w A R s h=>by
  obtain⟨hp,g,d,tk,os⟩:=s;obtain⟨hl2,h⟩:=h
  have hsub:=sub_zip
  have hL2:Heap.IsTuple (Shared.heap ⟨hp.push { cls:=.type (pw x),data:=.fields #[.str x t,.int 0 0] },g,d,tk,os⟩) l2 ys:=QT hl2 λo e=>aa _ e
  wp_walk using wpAny_pyIter_strU (s:=⟨hp,g,d,tk,os⟩) (x:=x) (t:=t),rD hL2
  exact⟨_,rfl,h⟩
section
variable{prog:oU}{w:oW}{A:oX}{E:oP->oQ->Prop}{s:oQ}
theorem Qs{x:oV}{t:rF}{l2:oO}{ys:Array oP}{Q:oP->oQ->Prop}(hl2:s.heap.IsTuple l2 ys)
  (h:∀h',rE h' (s.heap.objs.size+4) (s.heap.objs.size+2) (s.heap.objs.size+3) .none->pR h' (s.heap.objs.size+2) (.ref s.heap.objs.size) (.ref (s.heap.objs.size+1)) ->
   pR h' (s.heap.objs.size+3) .none .none->h'.IsStrIter s.heap.objs.size (pw x) x t 0->h'.IsTupleIter (s.heap.objs.size+1) l2 0->h'.objs.size=s.heap.objs.size+5 ->
   (∀c o,s.heap.get? c=sI o->h'.get? c=sI o)->Q (.ref (s.heap.objs.size+4)) { s with heap:=h' }) :
  oR (model prog w) A (call (.type "zip") [.str x t,.ref l2]) Q E s:=by
 refine callType_new F.called_zip (by decide) (F.typeCall_zip_2 _ _) (F.newCall_zip_2 _ _) (λobj=>F.args_object_init_3 obj _ _) F.entry_zip_new
  (j8 x t l2 ys) ⟨hl2,?_⟩
 have z1:(zbJ s.heap x t).objs.size=s.heap.objs.size+1:=bq ..
 have z2:(zbB s.heap x t l2).objs.size=s.heap.objs.size+2:=by rw[bq,z1]
 have z3:(zbC s.heap x t l2).objs.size=s.heap.objs.size+3:=by rw[bq,z2]
 have z4:(zbG s.heap x t l2).objs.size=s.heap.objs.size+4:=by rw[bq,z3]
 have z5:(KZ s.heap x t l2).objs.size=s.heap.objs.size+5:=by rw[bq,z4]
 have g5:(KZ s.heap x t l2).get? (zbG s.heap x t l2).objs.size=sI _:=aD _ rfl
 have g4:(KZ s.heap x t l2).get? (zbC s.heap x t l2).objs.size=sI _:=aa _ (aD _ rfl)
 have g3:(KZ s.heap x t l2).get? (zbB s.heap x t l2).objs.size=sI _:=aa _ (aa _ (aD _ rfl))
 have g2:(KZ s.heap x t l2).get? (zbJ s.heap x t).objs.size=sI _:=aa _ (aa _ (aa _ (aD _ rfl)))
 have g1:(KZ s.heap x t l2).get? s.heap.objs.size=sI _:=aa _ (aa _ (aa _ (aa _ (aD _ rfl))))
 show _/\_
 rw[z2,z3,z4] at g5
 rw[z1,z2] at g3
 rw[z3] at g4
 rw[z1] at g2
 rw[z4]
 exact⟨⟨_,g5,rfl⟩,h _ g5 g3 g4 ⟨_,g1,rfl,rfl⟩ ⟨_,g2,rfl,rfl⟩ z5 λc o x =>
  aa _ (aa _ (aa _ (aa _ (aa _ x))))⟩
end
end L3
namespace L3
noncomputable def Izs(K:oN)(l:List Nat)(b:oO):It:=⟨λi H=>∃ys y,SqT K H b ys/\i<l.length/\ys[i]? = sI y,λi H v H'=>∃p c y,H p=sJ/\l[i]? = sI c/\(∀ys,SqT K H b ys->ys[i]? = sI y)/\v=.ref p/\H'=upd H p (.tup [.str (tx [c]),y]),λi H=>i=l.length⟩
def ZSt(z TI TO i1 i2:oO)(X:oV)(t:rF)(l2:oO)(i:Nat)(h:oZ):Prop:=rE h z TI TO .none/\pR h TI (.ref i1) (.ref i2)/\(∃a b,pR h TO a b)/\h.IsStrIter i1 (pw X) X t i/\h.IsTupleIter i2 l2 i
theorem QB{P:oU}{w:oW}{K:oN}{elts:List oY}{x1:Nat}{tpos:pW}(z TI TO i1 i2 l2:oO)(l:List Nat)(t:rF)(D:zbr z TI TO i1 i2 l2) :
  Us P w K (.Tuple elts x1 tpos) (Izs K l l2) [z,TI,TO,i1,i2] z (λi h=>ZSt z TI TO i1 i2 (tx l) t l2 i h) where
 mem:=by simp
 obj:=λi h st b hb=>by
  obtain⟨hz,hTI,⟨a,c,hTO⟩,⟨o1,e1,c1,d1⟩,⟨o2,e2,c2,d2⟩⟩:=st
  simp only[dF,eG,or_false] at hb
  rcases hb with rfl | rfl | rfl | rfl | rfl
  ·exact⟨_,hz,λv q=>by have q':Data.fields _=Data.cell v:=q;cases q'⟩
  ·exact⟨_,hTI,λv q=>by have q':Data.seq _ _=Data.cell v:=q;cases q'⟩
  ·exact⟨_,hTO,λv q=>by have q':Data.seq _ _=Data.cell v:=q;cases q'⟩
  ·exact⟨o1,e1,λv q=>by rw[d1] at q;cases q⟩
  ·exact⟨o2,e2,λv q=>by rw[d2] at q;cases q⟩
 keep:=λi h h' st k=>by
  obtain⟨hz,hTI,⟨a,c,hTO⟩,h1,h2⟩:=st
  exact⟨k z (by simp) _ hz,k TI (by simp) _ hTI,⟨a,c,k TO (by simp) _ hTO⟩,wU h1 λo e=>k i1 (by simp) o e,vF h2 λo e=>k i2 (by simp) o e⟩
 item:=by
  intro X hP hw hK hc i sM s σ H E I hf st hg
  subst hP hw hK
  obtain⟨ys,y,hqy,hi,hy⟩:=hg
  obtain⟨its2,rv2,p2,_⟩:=I.tuple hqy
  obtain⟨u2,hu2,ru2⟩:=rv2.get hy
  obtain⟨hz,hTI,⟨a,b,hTO⟩,h1,h2⟩:=st
  have hl2:s.heap.IsTuple l2 its2.toArray:=p2
  have hx:(tx l).cps[i]? = sI l[i]:=by
   show l.toArray[i]? = _
   simp [hi]
  refine qQ D hz hTI hTO h1 h2 hl2 hx (y:=u2) (by simpa using hu2) λh' t' a1 a2 a3 a4 a5 a6 hk=>?_
  refine⟨_,rfl,wpAny_letOwnedTupleGo_zip (s:={ s with heap:=h',toks:=s.toks+1 }) a1 λh2' hz2 sb=>?_⟩
  have zlt:z<s.heap.objs.size:=aq hz
  have TIlt:TI<s.heap.objs.size:=aq hTI
  have TOlt:TO<s.heap.objs.size:=aq hTO
  have i1lt:i1<s.heap.objs.size:=by obtain⟨o,e,_⟩:=h1;exact aq e
  have i2lt:i2<s.heap.objs.size:=by obtain⟨o,e,_⟩:=h2;exact aq e
  have I1:Inv X sM σ H { s with heap:=h2',toks:=s.toks+1 }:=Inv.turns (fp:=[z,TI,TO,i1,i2]) I (λb o hb q=>by
   have hb':b≠z/\b≠TI/\b≠TO/\b≠i1/\b≠i2:=by simpa using hb
   exact (sb.2 b hb'.1).trans (hk b o hb'.1 hb'.2.2.1 hb'.2.2.2.1 hb'.2.2.2.2 q)) hf
  have hp:H s.heap.objs.size=sJ:=I.hok.fresh (am _)
  have hT2:h2'.get? s.heap.objs.size=sI { cls:=.type "tuple",data:=.seq #[.str ⟨#[l[i]]⟩ t',u2] }:=(sb.2 _ (bS zlt)).trans a5
  have ru1:RelV (.str (tx [l[i]])) (.str ⟨#[l[i]]⟩ t'):=⟨t',rfl⟩
  have I2:Inv X sM σ (upd H s.heap.objs.size (.tup [.str (tx [l[i]]),y])) { s with heap:=h2',toks:=s.toks+1 } :=
   Inv.track I1 (I.fpOk (am _) hp) ⟨by show 2<=oM;decide,[.str ⟨#[l[i]]⟩ t',u2],.cons ru1 (.cons ru2 .nil),⟨_,hT2,rfl,_,rfl⟩⟩
  refine⟨.ref s.heap.objs.size,_,I2,rfl,⟨s.heap.objs.size,l[i],y,hp,by simp [hi],λzs hz'=>by rw[I.tuple_inj hz' hqy];exact hy,rfl,rfl⟩,⟨hz2,(sb.2 _ D.TIz).trans (hk _ _ D.TIz D.TITO D.TIi1 D.TIi2 hTI),⟨_,_,(sb.2 _ D.TOz).trans a2⟩,wU a3 λo e=>(sb.2 _ D.i1z).trans e,vF a4 λo e=>(sb.2 _ D.i2z).trans e⟩,λb hb=>?_⟩
  rw[zo]
  ·exact (hf b hb).1
  ·simp only[dF,eG,or_false] at hb
   rcases hb with rfl | rfl | rfl | rfl | rfl <;> exact aw (by assumption)
 done:=by
  intro X hP hw hK hc i sM s σ H E I hf st hg
  subst hP hw hK
  have hi:i=l.length:=hg
  obtain⟨hz,hTI,⟨a,b,hTO⟩,h1,h2⟩:=st
  refine ji (I.ok.hd hc) D hz hTI hTO h1 ?_ λh' hk=>⟨rfl,?_⟩
  ·show l.toArray[i]? = sJ
   simp [hi]
  ·exact Inv.turns (fp:=[z,TI,TO,i1,i2]) (t':=s.toks) I (λb o hb q=>by
    have hb':b≠z/\b≠TI/\b≠TO/\b≠i1/\b≠i2:=by simpa using hb
    exact hk b o hb'.1 hb'.2.2.1 hb'.2.2.2.1 hb'.2.2.2.2 q) hf
 self:=λA i s Q E st h=>sw st.1 h
section
variable{X:Cx}
def iZs(K:oN)(ta:TA):TI:=λσ H R=>ta σ H λvs H1=>∃l b,vs=[.str (tx l),.ref b]/\(∃ys,SqT K H1 b ys)/\R (Izs K l b) H1
theorem zam{a b:oY}{ta:TA}{p pos tpos:pW}{elts:List oY}{x1:Nat}(hg:Gl X "zip")(hm:X.mg "zip" = sJ)(ha:PA X [a,b] ta)(hs:oK [a,b] X.env=(sL,eval a X.env)::oK [b] X.env:=by rfl)
  (hpl:(pq pos (oK [b] X.env)).any (·.1)=sL:=by rfl):PI X (.Tuple elts x1 tpos) (.Call (.Name "zip" p) [a,b] [] pos) (iZs X.K ta):=by
 intro sM s σ H R I h
 refine Call_ (vc I hg hm PyProof.Rows.boot_zip (bE (thn (ha pos sM s σ H _ I h) λus s1 ⟨vs,H1,I1,r1,q1⟩=>?_) hs hpl))
 obtain⟨l,l2,e,⟨ys,hqy⟩,q⟩:=q1
 subst e
 obtain⟨u1,u2,rfl,ru1,ru2⟩:=ZO r1
 obtain⟨t,rfl⟩:=ru1
 cases ru2
 obtain⟨its2,rv2,p2,_⟩:=I1.tuple hqy
 have hl2:s1.heap.IsTuple l2 its2.toArray:=p2
 have l2lt:l2<s1.heap.objs.size:=by obtain⟨o,e,_⟩:=hl2;exact aq e
 have ne:∀a b:Nat,a≠b->s1.heap.objs.size+a≠s1.heap.objs.size+b:=λa b h e=>h (Nat.add_left_cancel e)
 have nl:∀a:Nat,l2≠s1.heap.objs.size+a:=λa=>aw (av l2lt (cw _ _))
 refine Qs hl2 λh' hz hTI hTO h1 h2 hsz kk=>?_
 have I2:Inv X sM σ H1 { s1 with heap:=h' }:=I1.kept (t':=s1.toks) kk
 refine sw (s:={ s1 with heap:=h' }) hz ?_
 refine⟨s1.heap.objs.size+4,[s1.heap.objs.size+4,s1.heap.objs.size+2,s1.heap.objs.size+3,s1.heap.objs.size,s1.heap.objs.size+1],_,_,H1,rfl,I2,QB (s1.heap.objs.size+4) (s1.heap.objs.size+2) (s1.heap.objs.size+3) s1.heap.objs.size (s1.heap.objs.size+1) l2 l t ⟨⟨ne 2 4 (by decide),ne 3 4 (by decide),ne 0 4 (by decide),ne 1 4 (by decide),ne 2 3 (by decide),ne 2 0 (by decide),ne 2 1 (by decide),ne 3 0 (by decide),ne 3 1 (by decide),ne 0 1 (by decide)⟩,nl 4,nl 3,nl 0,nl 1⟩,⟨hz,hTI,⟨_,_,hTO⟩,h1,h2⟩,λb hb=>?_,q⟩
 have hb':s1.heap.objs.size<=b:=by
  simp only[dF,eG,or_false] at hb
  rcases hb with e | e | e | e | e
  ·rw[e];exact cw _ _
  ·rw[e];exact cw _ _
  ·rw[e];exact cw _ _
  ·rw[e];exact am _
  ·rw[e];exact cw _ _
 exact I1.fpOk hb' (I1.hok.fresh hb')
end
def CompZ(K:oN)(l:List Nat)(b:oO)(g:TG)(tt:TT)(te:TE)(own:Nat)(ix:List Nat)(σ:L2.St)(H1:Hp)(Q:VK)(D:oO):Prop:=Ys (Izs K l b) g tt te own ix σ H1 Q D
theorem zH{K:oN}{ta:TA}{g:TG}{tt:TT}{te:TE}{own:Nat}{ix:List Nat}{σ:L2.St}{H:Hp}{Q:VK}:jm (iZs K ta) g tt te own ix σ H Q=ta σ H λvs H1=>∃l b,vs=[.str (tx l),.ref b]/\(∃ys,SqT K H1 b ys)/\∀D,H1 D=sJ->CompZ K l b g tt te own ix σ H1 Q D:=rfl
section
variable{g:TG}{tt:TT}{te:TE}{own:Nat}{ix:List Nat}{σ:L2.St}{H1:Hp}{Q:VK}{D:oO}
theorem CompZ.by{K:oN}{l:List Nat}{b:oO}{ys:List V}(Pv:Nat->List V->Hp->Prop)(hlen:l.length=ys.length)(h0:Pv 0 [] (upd H1 D (.lst [])))(hl:∀i sP H',i<=l.length->Pv i sP H'->SqT K H' b ys)
  (hs:∀i c y sP H' p,l[i]? = sI c->ys[i]? = sI y->Pv i sP H'->H' p=sJ->g (.ref p) (wX σ own ix) (upd H' p (.tup [.str (tx [c]),y])) λσ3 H3=>yN (wX σ own ix) σ3/\tt σ3 H3 λb H4=>if b=sK then
   te σ3 H4 λv H5=>H5 D=sI (.lst sP)/\sP.length<oM/\CNx l.length i Pv (sP ++ [v]) (upd H5 D (.lst (sP ++ [v]))) else CNx l.length i Pv sP H4)
  (hd:∀sP H',Pv l.length sP H'->Q (.ref D) H'):CompZ K l b g tt te own ix σ H1 Q D:=by
 refine⟨λi m sP H=>m=l.length - i/\i<=l.length/\Pv i sP H,⟨l.length,by simp,aI _,h0⟩,?_⟩
 rintro i m sP H' ⟨rfl,hi,p⟩
 have q:=hl i sP H' hi p
 by_cases hlt:i<l.length
 ·refine .inr ⟨⟨ys,ys[i],q,hlt,by simp [<- hlen,hlt]⟩,λx H2 y=>?_⟩
  obtain⟨p',c,y,hp,hc,hy,ev,eH⟩:=y
  subst ev eH
  exact hs i c y sP H' p' hc (hy ys q) p hp
 ·have e:i=l.length:=by lia
  subst e
  exact .inl ⟨rfl,hd sP H' p⟩
end
end L3
namespace L3
section
variable{X:Cx}{k1 k2 k3 j:Nat}{C1 C2 C3:oO}{m:oV}{ps:List oV}{s1 s2 s3:Sp}{o e:oY}{es:List oY}{ta:TE}{t:TA}{apos pos p:pW}{E:XK}
def yc(t1 t2:TE):TE:=λσ H Q=>t1 σ H Q\/t2 σ H Q
theorem Q7{t1 t2:TE}(h1:PE X e t1)(h2:PE X e t2):PE X e (yc t1 t2):=by
 intro sM s σ H Q I h
 rcases h with h | h
 ·exact h1 sM s σ H Q I h
 ·exact h2 sM s σ H Q I h
theorem zaP(D1:DM X.prog X.w X.K X.mg X.base CX0 k1 C1 m ps s1)(D2:DM X.prog X.w X.K X.mg X.base CX0 k2 C2 m ps s2)(D3:DM X.prog X.w X.K X.mg X.base CX0 k3 C3 m ps s3)(c1:Cls X.K C1)(c2:Cls X.K C2)(c3:Cls X.K C3)(hr:Room j X.A)(he:PE X o ta)(ha:PA X (e::es) t){pl:sB Bool}
    (hst:oK (e::es) X.env=(sL,eval e X.env)::oK es X.env:=by rfl) (hpl:(pq pos (oK es X.env)).any (·.1)=sL:=by rfl)
    (ht:eval (.Call (.Attribute o m apos) (e::es) [] pos) X.env=(do
      let ov <- eval o X.env
      standAt apos.atName
      let (f,first) <- holding [ov] (getMethod ov m pl)
      callWith pos f first (pq pos (oK (e::es) X.env)) (pG pos (ph [] X.env))):=by rfl) (h1:k1<=j:=by decide) (h2:k2<=j:=by decide) (h3:k3<=j:=by decide) :
    PE X (.Call (.Attribute o m apos) (e::es) [] pos) (yc (Zj C1 m s1 [] E0 ta t) (yc (Zj C2 m s2 [] E0 ta t) (Zj C3 m s3 [] E0 ta t))) :=
  Q7 (me1 (pl:=pl) D1 c1 hr he ha hst hpl ht h1) (Q7 (me1 (pl:=pl) D2 c2 hr he ha hst hpl ht h2) (me1 (pl:=pl) D3 c3 hr he ha hst hpl ht h3))
end
end L3
namespace L3
section
variable{X:Cx}
end
end L3
namespace L3
section
variable{X:Cx}
end
end L3
namespace L3
open PySem PySem.Spec PyProof.Rows L2 PySem.W PySem.Calls
def qm(n:Int):Prop:=Builtin.Int.intBits n<=1048576
theorem Q9:∀(ns:List Int),WData.weightAll (ns.map WData.int)<=1048576->∀n ∈ ns,qm n
 | [],_,n,h=>nomatch h
 | m::ns,hw,n,h=>by
  rw[au,WData.weightAll] at hw
  rcases sU.mp h with rfl | h
  ·have e:WData.weight (.int n)=Builtin.Int.intBits n:=by
    rw[WData.weight]
    rfl
   unfold qm
   lia
  ·exact Q9 ns (by lia) n h
section
variable{X:Cx}
theorem UL{i j:Int}(hi:qm i)(hj:qm j):IntMulOk i j:=by
 unfold IntMulOk Builtin.Int.intTooBig
 unfold qm at hi hj
 have:(bitsLine:Nat)=134217728:=rfl
 simp
 intro _ _
 lia
theorem Qh:OpR X (binaryOp .Mult) (rI (λi j=>qm i/\qm j) λi j=>.int (i * j)):=opI λ_ _ _ _ _ _ _ hc q=>mul_int q (UL hc.1 hc.2)
end
theorem Zw{l:OpenLaw}{n:Nat}{q:oU}{loose:List oV}{XP:(oV->Option oP)->oZ->Prop}{YP:oW->oZ->Prop}{d:DefRec}
  (hn:l.most=sI n) (hdf:d.params.defaults=[])
  (call:∀(w:oW) (s₀ s₁:oQ) (mg mb:oV->Option oP) (fa:oO) (o:pE) (pm cd doc:oP) (a:oO) (vs:List oP) (ns:List Int),
   Ground q loose [] XP w s₀ mg mb s₁.heap->YP w s₁.heap ->
   s₁.heap.get? fa=sI o->o.data=.func (docDef d.name d.params d.body d.scope pm cd doc)->s₁.heap.CodeRec cd d.name->mg d.name=sI (.ref fa) ->
   s₁.heap.get? a=sI { cls:=.type "list",data:=.seq vs.toArray }->su vs ns->ns.length<=n->(∀z ∈ ns,qm z)->s₁.gens=#[] ->
   pM (model l.prog w) callerA (.call (.ref fa) ⟨[.ref a],[]⟩) (λr s'=>r=.ok (.ret (.bool sK))/\OldK s₁.heap s'.heap/\s'.os=s₁.os/\rA s'.gens) s₁) :
  WalkO q loose XP YP l.row.toRowW d [] (λf vs=>fP f vs):=by
 intro w s₀ s₁ mg mb G Y fa o pm cd doc dV kV ho hd hcd hD hmg hg args vals as hpre hlay hrd hwl hlo
 obtain rfl:dV=.none:=Dflts.none hD hdf
 obtain rfl:kV=.none:=Dflts.noKw hD
 obtain⟨a,vs,ns,rfl,rfl,hobj,hints,hlen⟩:=Att.script_of hn hpre hwl
 have hb:∀z ∈ ns,qm z:=by
  refine Q9 ns ?_
  have h1:WData.layable (WData.list (ns.map WData.int))=sK:=by
   have:=hlay
   unfold WData.layableAll at this
   simpa using this
  unfold WData.layable at h1
  simp only[cE,decide_eq_true_eq] at h1
  have h2:=h1.2
  rw[WData.weight] at h2
  exact h2
 refine enter_call (re (call w s₀ s₁ mg mb fa o pm cd doc a vs ns G Y ho (fd_plain hd) hcd hmg hobj hints hlen hb hg) λr s' hq=>?_)
 obtain⟨rfl,h2,h3,h4⟩:=hq
 exact⟨.inl ⟨.bool sK,.bool sK,[],rfl,λ_=>rfl,.bool sK,Att.post_true l _,λ_=>⟨List.Pairwise.nil,λ_ hm=>(nomatch hm)⟩⟩,h2,h3,h4⟩
end L3
namespace L3
section
variable{X:Cx}{k j:Nat}{C:oO}{x f':oV}{ps:List oV}{sp:Sp}{e:oY}{es:List oY}{t:TA}{te:TX}{pos p:pW}
end
section
variable{X:Cx}{k j:Nat}{C:oO}{m x:oV}{ps:List oV}{sp:Sp}{e:oY}{es:List oY}{t:TA}{apos pos p:pW}{E:XK}
end
end L3
namespace L3
section
variable{prog:oU}{w:oW}{A:oX}{E:oP->oQ->Prop}{s:oQ}{env:rP}
end
end L3
namespace L3
theorem XEg.xe{X:Cx}{E:XK}(h:XEg X E):XE X E:=λe s ⟨sM,σ,H,x,C,t,dx,tb,q⟩=>h e s ⟨.none,sL,sM,σ,H,x,C,t,dx,tb,q⟩
section
variable{X:Cx}{k:Nat}{ps:List oV}{sp:Sp}{ds:List oP}{dvs:List V}{E:XK}{x:oV}{p pos:pW}{e:oY}{es:List oY}{t:TA}
end
section
variable{X:Cx}{o e:oY}{to:TE}{te:TX}{name:oV}{apos cpos:pW}{T id:String}{r:V->List V->Hp->VK->Prop}
end
section
variable{X:Cx}
end
section
variable{X:Cx}{k j:Nat}{C:oO}{ps:List oV}{sp:Sp}{e:oY}{es:List oY}{t:TA}{pos p:pW}{x:oV}
end
end L3
namespace L3
theorem Ye(x y:oV)(i j:Int)(t u v v':rF):Gives (Builtin.«str.find» ⟨[.str x t,.str y u,.int i v,.int j v'],[]⟩) (.int (match Builtin.Str.occurrences x y (fromIndex x.length i) (min (fromIndex x.length j) x.length) 1 with | k::_=>(k:Int) | []=>-1)):=by
 show Gives (match Builtin.Str.occurrences x y (fromIndex x.length i) (min (fromIndex x.length j) x.length) 1 with | k::_=>retInt k | []=>(do rule "str.find.not-found";retInt (-1))) _
 cases Builtin.Str.occurrences x y (fromIndex x.length i) (min (fromIndex x.length j) x.length) 1 with
 | nil=>exact .rule (.of_eq rfl)
 | cons k _=>exact .of_eq rfl
theorem ZX(x y:oV)(lo hi:Nat) :
  (Builtin.Str.occurrences x y lo hi 1=[]/\∀i,lo<=i->¬ StrLaws.At x y hi i) \/
  ∃i r,Builtin.Str.occurrences x y lo hi 1=i::r/\lo<=i/\StrLaws.At x y hi i/\∀k,lo<=k->k<i->¬ StrLaws.At x y hi k:=by
 rw[StrLaws.occ_eq]
 rcases StrLaws.occ_first x y hi 1 (am 1) (List.range' lo (hi+1 - lo)) lo (λi hm=>(List.mem_range'_1.mp hm).1) with ⟨e,no⟩ | ⟨pre,a,post,e,e0,at_a,no⟩
 ·exact .inl ⟨by rw[e],λi h1 h2=>no i (by have:=h2.1;rw[List.mem_range'_1];lia) h2⟩
 ·have sp:=StrLaws.range'_split_from e
  generalize (forIn (List.range' lo (hi+1 - lo)) ((#[]:Array Nat),lo) (StrLaws.occBody x y hi 1)).run.fst=z at e0 ⊢
  obtain⟨zs⟩:=z
  cases zs with
  | nil=>simp at e0
  | cons b r =>
   have:b=a:=by simpa using e0
   subst this
   exact .inr ⟨b,r,rfl,sp.1,at_a,λk h1 h2=>no k (sp.2 k h1 h2)⟩
theorem zay(l p:List Nat)(hi i:Nat):StrLaws.At (tx l) (tx p) hi i ↔ i+p.length<=hi/\(l.drop i).take p.length=p:=by
 unfold StrLaws.At Builtin.Str.subAt
 rw[zD,beq_iff_eq]
 have e1:((tx l).cps.extract i (i+p.length)).toList=(l.drop i).take p.length:=by
  show (l.toArray.extract i (i+p.length)).toList=_
  simp [em]
 have e2:((tx l).cps.extract i (i+p.length)=(tx p).cps) ↔ (l.drop i).take p.length=p:=by
  constructor
  ·intro h
   rw[<- e1,h]
  ·intro h
   apply Array.toList_inj.mp
   rw[e1,h]
 rw[e2]
def Jd:V->List V->Hp->VK->Prop:=λx xs H Q=>∃(l p:List Nat) (lo hi:Int),x=.str (tx l)/\xs=[.str (tx p),.int lo,.int hi]/\0<=lo/\0<=hi/\∀r:Int,((r=-1/\∀q:Nat,lo<=q->(q:Int)+p.length<=hi->q+p.length<=l.length->(l.drop q).take p.length≠p)\/∃k:Nat,r=k/\lo<=k/\(k:Int)+p.length<=hi/\k+p.length<=l.length/\(l.drop k).take p.length=p/\∀q:Nat,lo<=q->q<k->(l.drop q).take p.length≠p)->Q (.int r) H
theorem Ko{X:Cx}:MtR X "str.find" Jd:=by
 intro sM s σ H x xs v us Q I rx rv h
 obtain⟨l,p,lo,hi,rfl,rfl,h0,h1,q⟩:=h
 obtain⟨t,rfl⟩:=rx
 cases rv with
 | cons r1 r2 =>
  cases r2 with
  | cons r2 r3 =>
   obtain⟨w3,rfl,t3,rfl⟩:=wI r3
   obtain⟨t1,rfl⟩:=r1
   obtain⟨t2,rfl⟩:=r2
   have f0:fromIndex (tx l).length lo=lo.toNat:=by unfold fromIndex;rw[if_neg (by lia)];lia
   have f1:fromIndex (tx l).length hi=hi.toNat:=by unfold fromIndex;rw[if_neg (by lia)];lia
   refine call_gives F.slot_str_find (typeIs_str _ _ _) F.entry_str_find (F.args_str_find_4 _ _ _ _) (Ye _ _ lo hi t t1 t2 t3) ?_
   refine⟨.int _,H,I.tok _,⟨_,rfl⟩,q _ ?_⟩
   rw[f0,f1]
   have hm:∀k:Nat,k+p.length<=min hi.toNat (tx l).length ↔ (k:Int)+p.length<=hi/\k+p.length<=l.length:=λk=>by rw[zD];lia
   rcases ZX (tx l) (tx p) lo.toNat (min hi.toNat (tx l).length) with ⟨e,no⟩ | ⟨i,r,e,hl,ha,no⟩
   ·rw[e]
    exact .inl ⟨rfl,λk k1 k2 k3 k4=>no k (by lia) ((zay l p _ k).mpr ⟨(hm k).mpr ⟨k2,k3⟩,k4⟩)⟩
   ·rw[e]
    obtain⟨a1,a2⟩:=(zay l p _ i).mp ha
    obtain⟨b1,b2⟩:=(hm i).mp a1
    exact .inr ⟨i,rfl,by lia,b1,b2,a2,λk k1 k2 k4=>no k (by lia) k2 ((zay l p _ k).mpr ⟨(hm k).mpr ⟨by lia,by lia⟩,k4⟩)⟩
end L3
set_option linter.unusedVariables false
namespace L3
def zbE(l p:List Nat)(r:Int):Prop:=(r=-1/\∀q:Nat,¬ (q+p.length<=l.length/\(l.drop q).take p.length=p))\/∃q:Nat,r=(q:Int)/\q+p.length<=l.length/\(l.drop q).take p.length=p
def zdA:V->List V->Hp->VK->Prop:=λx xs H Q=>∃l p:List Nat,x=.str (tx l)/\xs=[.str (tx p)]/\∀r:Int,zbE l p r->Q (.int r) H
section
variable{X:Cx}
theorem JJ:MtR X "str.find" zdA:=by
 intro sM s σ H x xs v us Q I rx rv h
 obtain⟨l,p,rfl,rfl,q⟩:=h
 refine VJ sM s σ H _ _ v us Q I rx rv ⟨_,_,rfl,rfl,q _ ?_⟩
 rcases find_whole (tx l) (tx p) with ⟨h1,h2⟩ | ⟨e,h1,h2,_⟩
 ·exact .inl ⟨h1,λq hq=>h2 q ((zay l p _ q).mpr (by rw[zD];exact hq))⟩
 ·refine .inr ⟨e,h1,?_⟩
  have:=(zay l p _ e).mp h2
  rw[zD] at this
  exact this
end
end L3
namespace L3
section
variable{prog:oU}{w:oW}{A:oX}{R:rN->oQ->Prop}{I l S:oO}
theorem Wl(hh:A.handled=sJ)(hlI:l≠I)(hSI:S≠I)(hSl:S≠l)(xs:Array oP)(val:Nat->Int)(hv:∀i v,xs[i]? = sI v->∃t,v=Value.int (val i) t)(d:oP) :
  ∀(k j:Nat) (z:Int) (t:rF) (s:oQ) (c:Nat),xs.size - j=k->j<=xs.size->(∀i,i<j->val i<=z)->s.heap.IsListIter I l j->s.heap.IsList l xs->s.heap.get? S=sI (pj "list" #[.int z t,.int z t] c) ->
   (∀z' t' h' tk,(∀i,i<xs.size->val i<=z')->(∀b o,b≠I->b≠S->s.heap.get? b=sI o->h'.get? b=sI o)->R (.ok (.ret (.int z' t'))) { s with heap:=h',toks:=tk }) ->
   pM (model prog w) A (.builtin "max.loop" ⟨[.ref I,.none,.ref S],[(bL "default",d)]⟩) R s:=by
 have nm:(toString "max" ++ toString ".loop" : String)="max.loop":=by decide
 have W:=Walks.list (prog:=prog) (w:=w) (A:=A.in1) hh I l hlI xs
 intro k
 induction k with
 | zero =>
  intro j z t s c hk hj hz hit hl hS hR
  have e:j=xs.size:=by lia
  refine pL (b:=Builtin.«max.loop») dC ?_
  rw[Around.under_plainId (id:="max.loop") bM _]
  show oR _ A.in1 (seqItems? (Value.ref S) >>= _) _ _ s
  refine oG (pz (items:=#[.int z t,.int z t]) hS rfl ?_)
  show oR _ A.in1 (tryCatch (pyNext (Value.ref I)) _ >>= _) _ _ s
  refine oG (pH (W.done s _ _ ⟨e ▸ hit,hl⟩ λh' tk kp=>?_))
  have hS':=kp S _ (by simpa using hSI) hS
  show oR _ A.in1 (updateSeq S (λ_=>(#[]:Array oP)) >>= _) _ _ _
  refine oG (pZ hS' rfl (oG (pN (oH ?_))))
  exact hR z t _ tk (λi hi=>hz i (by lia)) λb o hb hb' q=>(aE _ _ (Ne.symm hb')).trans (kp b o (by simpa using hb) q)
 | succ k ih =>
  intro j z t s c hk hj hz hit hl hS hR
  refine pL (b:=Builtin.«max.loop») dC ?_
  rw[Around.under_plainId (id:="max.loop") bM _]
  show oR _ A.in1 (seqItems? (Value.ref S) >>= _) _ _ s
  refine oG (pz (items:=#[.int z t,.int z t]) hS rfl ?_)
  show oR _ A.in1 (tryCatch (pyNext (Value.ref I)) _ >>= _) _ _ s
  refine oG (pH (W.item j s _ _ (by lia) ⟨hit,hl⟩ λv h' tk hP st kp=>?_))
  obtain⟨t2,rfl⟩:=hv j v hP
  have hS':=kp S _ (by simpa using hSI) hS
  show oR _ A.in1 (tryCatch (holding [Value.int (val j) t2,Value.int (val j) t2] (richCompare .Gt (.int (val j) t2) (.int z t) >>= _)) _ >>= _) _ _ _
  refine oG (pH (pD (oG (CmpOf.ints_gt (prog:=prog) (w:=w) (A:=A.in1) (P:=λi v=>∃t,v=Value.int (if i=0 then val j else z) t) (λi=>if i=0 then val j else z) (λi v h=>h) 0 1 _ _ _ _ _ ⟨t2,rfl⟩ ⟨t,rfl⟩ ?_))))
  refine oG (pD (pi (oG (pN (oH ?_)))))
  by_cases g:val j > z
  ·simp only[if_true,Nat.one_ne_zero,if_false,g,decide_true]
   refine oG (pZ hS' rfl (oG (pN ?_)))
   rw[nm]
   refine oH ⟨plainId_quiet bM _,ih (j+1) (val j) t2 _ _ (by lia) (by lia) (λi hi=>?_) (W.frame _ _ _ st λb hb o q=>?_).1 (W.frame _ _ _ st λb hb o q=>?_).2 (get?_update_seq hS' _) λz' t' h'' tk'' a1 a2=>hR z' t' h'' tk'' a1 λb o hb hb' q=>a2 b o hb hb' ((aE _ _ (Ne.symm hb')).trans (kp b o (by simpa using hb) q))⟩
   ·by_cases e:i=j
    ·rw[e]
     exact d5 _
    ·have:=hz i (by lia)
     lia
   all_goals
    refine (aE _ _ (λe:S=b=>?_)).trans q
    subst e
    rcases sU.mp hb with e | e
    ·exact hSI e
    ·exact hSl (sX.mp e)
  ·simp only[if_true,Nat.one_ne_zero,if_false,g,decide_false,bF]
   refine oG (pN ?_)
   rw[nm]
   refine oH ⟨plainId_quiet bM _,ih (j+1) z t _ _ (by lia) (by lia) (λi hi=>?_) st.1 st.2 hS' λz' t' h'' tk'' a1 a2=>hR z' t' h'' tk'' a1 λb o hb hb' q=>a2 b o hb hb' (kp b o (by simpa using hb) q)⟩
   by_cases e:i=j
   ·rw[e]
    lia
   ·exact hz i (by lia)
theorem Uf(a v:oP):argsOk "max" ⟨[a],[(bL "default",v)]⟩:=by unfold argsOk;kernel_rfl
theorem WC{E:oP->oQ->Prop}{s:oQ}{Q:oP->oQ->Prop}(hh:A.handled=sJ)(xs:Array oP)(val:Nat->Int)(hv:∀i v,xs[i]? = sI v->∃t,v=Value.int (val i) t)(hl:s.heap.IsList l xs)(d:oP)
  (h:∀v h' tk,(xs.size=0->v=d)->(0<xs.size->∃z t,v=Value.int z t/\∀i,i<xs.size->val i<=z)->(∀b o,s.heap.get? b=sI o->h'.get? b=sI o)->Q v { s with heap:=h',toks:=tk }) :
  oR (model prog w) A (call (.builtin "max") [.ref l] [(bL "default",d)]) Q E s:=by
 have nm:(toString "max" ++ toString ".loop" : String)="max.loop":=by decide
 have hlt:l<s.heap.objs.size:=by obtain⟨_,e,_⟩:=hl;exact aq e
 refine kmb_tree PySem.F.kind_max PySem.F.plain_max PySem.F.entry_max (Uf _ _) ?_
 show oR _ A.in1 (Builtin.Builtins.bindParams "max" ["key","default"] 0 ⟨[],[(bL "default",d)]⟩ >>= _) _ _ s
 refine oG (wpAny_of_eq (show Builtin.Builtins.bindParams "max" ["key","default"] 0 ⟨[],[(bL "default",d)]⟩=pure [sJ,sI d] from rfl) (oG (oH ?_)))
 refine oG (rh hl (oG (rZ ?_ (aI _))))
 rw[nm]
 refine oH ⟨plainId_quiet bM _,?_⟩
 have gI:(s.heap.push { cls:=.type "list_iterator",data:=.fields #[.ref l,.int 0 0] }).IsListIter s.heap.objs.size l 0:=⟨_,aD _ rfl,rfl,rfl⟩
 have gl:=hl.push { cls:=.type "list_iterator",data:=.fields #[.ref l,.int 0 0] }
 have kp0:∀b o,s.heap.get? b=sI o->(s.heap.push { cls:=.type "list_iterator",data:=.fields #[.ref l,.int 0 0] }).get? b=sI o:=λb o q=>aa _ q
 have hsz:(s.heap.push { cls:=.type "list_iterator",data:=.fields #[.ref l,.int 0 0] }).objs.size=s.heap.objs.size+1:=bq _ _
 have hold:∀b o,s.heap.get? b=sI o->b<s.heap.objs.size:=λb o q=>aq q
 have hlI:l≠s.heap.objs.size:=aw hlt
 generalize s.heap.push { cls:=.type "list_iterator",data:=.fields #[.ref l,.int 0 0] }=h1 at *
 generalize hIe:s.heap.objs.size=I at *
 have W:=Walks.list (prog:=prog) (w:=w) (A:=A.in1) hh I l hlI xs
 have gS:(h1.push { cls:=.type "list",data:=.seq ([]:List oP).toArray }).get? h1.objs.size=sI (pj "list" #[] 0):=aD _ rfl
 have st0:=W.frame 0 _ (h1.push { cls:=.type "list",data:=.seq ([]:List oP).toArray }) ⟨gI,gl⟩ λb _ o q=>aa _ q
 have kp1:∀b o,s.heap.get? b=sI o->(h1.push { cls:=.type "list",data:=.seq ([]:List oP).toArray }).get? b=sI o:=λb o q=>aa _ (kp0 b o q)
 have hSI:h1.objs.size≠I:=by rw[hsz];exact Nat.succ_ne_self I
 have hSl:h1.objs.size≠l:=by rw[hsz];exact bS (cp hlt)
 have hSb:∀b o,s.heap.get? b=sI o->b≠I/\b≠h1.objs.size:=λb o q=>⟨aw (hold b o q),by rw[hsz];exact aw (cp (hold b o q))⟩
 generalize h1.push { cls:=.type "list",data:=.seq ([]:List oP).toArray }=h2 at *
 generalize h1.objs.size=S at *
 refine pL (b:=Builtin.«max.loop») dC ?_
 rw[Around.under_plainId (id:="max.loop") bM _]
 show oR _ A.in1 (seqItems? (Value.ref S) >>= _) _ _ _
 refine oG (pz (items:=#[]) gS rfl ?_)
 show oR _ A.in1 (tryCatch (pyNext (Value.ref I)) _ >>= _) _ _ _
 by_cases hz:xs.size=0
 ·refine oG (pH (W.done _ _ _ (by rw[hz];exact st0) λh' tk kp=>?_))
  show oR _ A.in1 (rule _ >>= λ_=>_) _ _ _
  refine oG (rK (oH ?_))
  exact h d h' tk (λ_=>rfl) (λq=>absurd q (by lia)) λb o q=>kp b o (by simpa using (hSb b o q).1) (kp1 b o q)
 ·refine oG (pH (W.item 0 _ _ _ (by lia) st0 λv h' tk hP st kp=>?_))
  obtain⟨t,rfl⟩:=hv 0 v hP
  have hS':=kp S _ (by simpa using hSI) gS
  show oR _ A.in1 (updateSeq S (λ_=>#[Value.int (val 0) t,Value.int (val 0) t]) >>= _) _ _ _
  refine oG (pZ hS' rfl ?_)
  rw[nm]
  have st':=W.frame _ _ (h'.update S (Obj.mapSeq λ_=>#[Value.int (val 0) t,Value.int (val 0) t])) st λb hb o q=>by
   refine (aE _ _ (λe:S=b=>?_)).trans q
   subst e
   rcases sU.mp hb with e | e
   ·exact hSI e
   ·exact hSl (sX.mp e)
  refine oH ⟨plainId_quiet bM _,Wl hh hlI hSI hSl xs val hv d _ 1 (val 0) t _ _ rfl (by lia) (λi hi=>?_) st'.1 st'.2 (get?_update_seq hS' _) λz' t' h'' tk'' a1 a2=>?_⟩
  ·have:i=0:=by lia
   rw[this]
   exact d5 _
  ·exact h _ h'' tk'' (λq=>absurd q hz) (λ_=>⟨z',t',rfl,a1⟩) λb o q=>a2 b o (hSb b o q).1 (hSb b o q).2 ((aE _ _ (Ne.symm (hSb b o q).2)).trans (kp b o (by simpa using (hSb b o q).1) (kp1 b o q)))
end
section
variable{X:Cx}{id:String}{x:oV}{e:oY}{es:List oY}{kws:List sC}{ks:List oV}{p pos:pW}{t tk:TA}
def QY(X:Cx)(id:String)(ks:List oV)(r:List V->List V->Hp->VK->Prop):Prop :=
 ∀(sM:List (oO × pE)) (s:oQ) (σ:L2.St) (H:Hp) (vs zs:List V) (us ws:List oP) (Q:VK),Inv X sM σ H s->Vals vs us->Vals zs ws->r vs zs H Q->oR (model X.prog X.w) X.A (call (.builtin id) us (ks.zip ws)) (EP X sM σ Q) X.xe s
def zcU(r:List V->List V->Hp->VK->Prop)(t tk:TA):TE:=λσ H Q=>t σ H λvs H1=>tk σ H1 λzs H2=>r vs zs H2 Q
theorem VB{r:List V->List V->Hp->VK->Prop}(hc:QY X id ks r)(hg:Gl X x)(hm:X.mg x=sJ)(hv:pF x=sI (.builtin id))(ha:PA X (e::es) t)(hk:PK X kws tk)(hks:(pG pos (ph kws X.env)).filterMap (·.1)=ks:=by rfl)(hn:x≠"__name__":=by decide)(hdb:(x == ("__debug__" : oV))=sL:=by decide)
  (he:pq pos (oK (e::es) X.env)=(sL,eval e X.env)::pq pos (oK es X.env):=by rfl) (hpl:(pq pos (oK (e::es) X.env)).any (·.1)=sL:=by rfl)
  (hall:(pG pos (ph kws X.env)).all (·.1.isSome)=sK:=by rfl) (hkw:(pG pos (ph kws X.env)).any (·.1.isNone)=sL:=by rfl):PE X (.Call (.Name x p) (e::es) kws pos) (zcU r t tk):=by
 intro sM s σ H Q I h
 refine pA (vc I hg hm hv ?_ hn hdb)
 refine callWith_kw (thn (ha pos sM s σ H _ I h) λus s1 ⟨vs,H1,I1,r1,q1⟩=>thn (hk pos sM s1 σ H1 _ I1 q1) λws s2 ⟨zs,H2,I2,r2,q2⟩=>?_) he hpl hall hkw
 rw[hks]
 exact hc sM s2 σ H2 vs zs us ws Q I2 r1 r2 q2
def zcq(K:oN):List V->List V->Hp->VK->Prop:=λvs zs H Q=>∃(a:oO) (ns:List Int) (d:Int),vs=[.ref a]/\zs=[.int d]/\SqL K H a (ns.map V.int)/\∀z:Int,(ns=[]->z=d)->(∀n ∈ ns,n<=z)->Q (.int z) H
theorem za3(hc:X.calm=sK):QY X "max" [bL "default"] (zcq X.K):=by
 intro sM s σ H vs zs us ws Q I r1 r2 h
 obtain⟨a,ns,d,rfl,rfl,hS,q⟩:=h
 obtain⟨u,rfl,ru⟩:=wI r1
 cases ru
 obtain⟨w',rfl,td,rfl⟩:=wI r2
 obtain⟨its,rv,pl,hz⟩:=I.list hS
 have hlen:=rv.length
 rw[ae] at hlen
 have hat:∀(i:Nat) (v:oP),its.toArray[i]? = sI v->∃t,v=Value.int (ns.getD i 0) t:=λi v hi=>by
  have hi':its[i]? = sI v:=by simpa using hi
  have hil:=(sQ.mp hi').1
  obtain⟨u,hu,t,rfl⟩:=xI rv (j:=i) (x:=.int (ns.getD i 0)) (by rw[aG,af,aj (by lia)];rfl)
  rw[hi'] at hu
  cases hu
  exact⟨t,rfl⟩
 refine WC (I.ok.hd hc) its.toArray (λi=>ns.getD i 0) hat pl.isList (.int d td) λv h' tk h0 h1 kp=>?_
 by_cases hn:ns=[]
 ·have:=h0 (by rw[al,<- hlen,hn];rfl)
  subst this
  exact⟨.int d,H,I.kept kp,⟨_,rfl⟩,q d (λ_=>rfl) (λn hm=>by rw[hn] at hm;cases hm)⟩
 ·obtain⟨z,t,rfl,hzz⟩:=h1 (by rw[al,<- hlen];exact tE.mpr hn)
  refine⟨.int z,H,I.kept kp,⟨_,rfl⟩,q z (λe=>absurd e hn) λn hm=>?_⟩
  obtain⟨i,hi,rfl⟩:=List.getElem_of_mem hm
  have:=hzz i (by rw[al,<- hlen];exact hi)
  rw[af,aj hi] at this
  exact this
end
end L3
namespace L3
section
variable{prog:oU}{w:oW}{A:oX}{R:rN->oQ->Prop}{I l S:oO}
end
section
variable{X:Cx}
end
end L3
namespace L3
section
variable{prog:oU}{w:oW}{A:oX}{R:rN->oQ->Prop}{I S:oO}{fp wr:List oO}{P:Nat->oP->Prop}{St:Nat->oZ->Prop}
theorem YN:(toString "min" ++ toString ".loop" : String)="min.loop":=by decide
theorem YH(W:Walks prog w A.in1 I fp wr 2 P St)(hw:S ∉ wr){v:oP}{c:Nat}{s:oQ}(st:St 2 s.heap)(hS:s.heap.get? S=sI (pj "list" #[v,v] c))
  (hR:∀h' tk,(∀b o,b ∉ wr->b≠S->s.heap.get? b=sI o->h'.get? b=sI o)->R (.ok (.ret v)) { s with heap:=h',toks:=tk }):pM (model prog w) A (.builtin "min.loop" ⟨[.ref I,.none,.ref S],[]⟩) R s:=by
 refine pL (b:=Builtin.«min.loop») dD ?_
 rw[Around.under_plainId (id:="min.loop") bN _]
 show oR _ A.in1 (seqItems? (Value.ref S) >>= _) _ _ s
 refine oG (pz (items:=#[v,v]) hS rfl ?_)
 show oR _ A.in1 (tryCatch (pyNext (Value.ref I)) _ >>= _) _ _ s
 refine oG (pH (W.done s _ _ st λh' tk kp=>?_))
 have hS':=kp S _ hw hS
 show oR _ A.in1 (updateSeq S (λ_=>(#[]:Array oP)) >>= _) _ _ _
 refine oG (pZ hS' rfl (oG (pN (oH ?_))))
 exact hR _ tk λb o hb hb' q=>(aE _ _ (Ne.symm hb')).trans (kp b o hb q)
theorem X3(W:Walks prog w A.in1 I fp wr 2 P St)(hf:S ∉ fp){a b:oP}{bt:Bool}{c:Nat}{s:oQ}(hb:∀v,P 1 v->v=b)(st:St 1 s.heap)(hS:s.heap.get? S=sI (pj "list" #[a,a] c))
  (hc:∀h' tk,(∀b o,b ∉ wr->b≠S->s.heap.get? b=sI o->h'.get? b=sI o)->LtAt A.in1 { s with heap:=h',toks:=tk } b a bt)
  (hR:∀h' tk,(∀b o,b ∉ wr->b≠S->s.heap.get? b=sI o->h'.get? b=sI o)->R (.ok (.ret (if bt=sK then b else a))) { s with heap:=h',toks:=tk }):pM (model prog w) A (.builtin "min.loop" ⟨[.ref I,.none,.ref S],[]⟩) R s:=by
 have hw:S ∉ wr:=λh=>hf (W.sub _ h)
 refine pL (b:=Builtin.«min.loop») dD ?_
 rw[Around.under_plainId (id:="min.loop") bN _]
 show oR _ A.in1 (seqItems? (Value.ref S) >>= _) _ _ s
 refine oG (pz (items:=#[a,a]) hS rfl ?_)
 show oR _ A.in1 (tryCatch (pyNext (Value.ref I)) _ >>= _) _ _ s
 refine oG (pH (W.item 1 s _ _ (by decide) st λv h' tk hP st' kp=>?_))
 obtain rfl:=hb v hP
 have hS':=kp S _ hw hS
 show oR _ A.in1 (tryCatch (holding [v,v] (richCompare .Lt v a >>= _)) _ >>= _) _ _ _
 refine oG (pH (pD (oG (hc h' tk (λb o q _ e=>kp b o q e) prog w _ _ ?_))))
 refine oG (pD (pi (oG (pN (oH ?_)))))
 cases bt with
 | true =>
  simp only[if_true]
  refine oG (pZ hS' rfl (oG (pN ?_)))
  rw[YN]
  refine oH ⟨plainId_quiet bN _,YH W hw (W.frame _ _ _ st' λb hbf o e=>?_) (get?_update_seq hS' _) λh'' tk'' k2=>?_⟩
  ·exact (aE _ _ (λz:S=b=>hf (by rw[z];exact hbf))).trans e
  ·exact hR h'' tk'' λb o q1 q2 e=>k2 b o q1 q2 ((aE _ _ (Ne.symm q2)).trans (kp b o q1 e))
 | false =>
  simp only[bF,if_false]
  refine oG (pN ?_)
  rw[YN]
  refine oH ⟨plainId_quiet bN _,YH W hw st' hS' λh'' tk'' k2=>?_⟩
  exact hR h'' tk'' λb o q1 q2 e=>k2 b o q1 q2 (kp b o q1 e)
theorem Va(W:Walks prog w A.in1 I fp wr 2 P St)(hf:S ∉ fp){a b:oP}{bt:Bool}{c:Nat}{s:oQ}(ha:∀v,P 0 v->v=a)(hb:∀v,P 1 v->v=b)(st:St 0 s.heap)(hS:s.heap.get? S=sI (pj "list" #[] c))
  (hc:∀h' tk,(∀b o,b ∉ wr->b≠S->s.heap.get? b=sI o->h'.get? b=sI o)->LtAt A.in1 { s with heap:=h',toks:=tk } b a bt)
  (hR:∀h' tk,(∀b o,b ∉ wr->b≠S->s.heap.get? b=sI o->h'.get? b=sI o)->R (.ok (.ret (if bt=sK then b else a))) { s with heap:=h',toks:=tk }):pM (model prog w) A (.builtin "min.loop" ⟨[.ref I,.none,.ref S],[]⟩) R s:=by
 have hw:S ∉ wr:=λh=>hf (W.sub _ h)
 refine pL (b:=Builtin.«min.loop») dD ?_
 rw[Around.under_plainId (id:="min.loop") bN _]
 show oR _ A.in1 (seqItems? (Value.ref S) >>= _) _ _ s
 refine oG (pz (items:=#[]) hS rfl ?_)
 show oR _ A.in1 (tryCatch (pyNext (Value.ref I)) _ >>= _) _ _ s
 refine oG (pH (W.item 0 s _ _ (by decide) st λv h' tk hP st' kp=>?_))
 obtain rfl:=ha v hP
 have hS':=kp S _ hw hS
 show oR _ A.in1 (updateSeq S (λ_=>#[v,v]) >>= _) _ _ _
 refine oG (pZ hS' rfl ?_)
 rw[YN]
 have k1:∀b o,b ∉ wr->b≠S->s.heap.get? b=sI o->(h'.update S (Obj.mapSeq λ_=>#[v,v])).get? b=sI o:=λb o q1 q2 e=>(aE _ _ (Ne.symm q2)).trans (kp b o q1 e)
 refine oH ⟨plainId_quiet bN _,X3 (a:=v) (bt:=bt) W hf hb (W.frame _ _ _ st' λb hbf o e=>?_) (get?_update_seq hS' _) (λh'' tk'' k2=>?_) λh'' tk'' k2=>?_⟩
 ·exact (aE _ _ (λz:S=b=>hf (by rw[z];exact hbf))).trans e
 ·exact hc h'' tk'' λb o q1 q2 e=>k2 b o q1 q2 (k1 b o q1 q2 e)
 ·exact hR h'' tk'' λb o q1 q2 e=>k2 b o q1 q2 (k1 b o q1 q2 e)
theorem UG{a b:oP}{bt:Bool}{E:oP->oQ->Prop}{s:oQ}{Q:oP->oQ->Prop}(hh:A.handled=sJ)
    (hc:∀h' tk,(∀b o,s.heap.get? b=sI o->h'.get? b=sI o)->LtAt A.in1 { s with heap:=h',toks:=tk } b a bt)
    (h:∀h' tk,(∀b o,s.heap.get? b=sI o->h'.get? b=sI o)->Q (if bt=sK then b else a) { s with heap:=h',toks:=tk }):oR (model prog w) A (call (.builtin "min") [a,b]) Q E s:=by
  refine kmb_tree PySem.F.kind_min PySem.F.plain_min PySem.F.entry_min (PySem.F.args_min2 _ _) ?_
  show oR _ A.in1 (Builtin.Builtins.bindParams "min" ["key","default"] 0 ⟨[],[]⟩ >>= _) _ _ s
  refine oG (wpAny_of_eq (show Builtin.Builtins.bindParams "min" ["key","default"] 0 ⟨[],[]⟩=pure [sJ,sJ] from rfl) ?_)
  show oR _ A.in1 (newTuple [a,b] >>= _) _ _ s
  refine oG (ra ?_)
  have hT:(s.heap.push { cls:=.type "tuple",data:=.seq #[a,b] }).IsTuple s.heap.objs.size #[a,b]:=⟨_,aD _ rfl,rfl,0,rfl⟩
  have hz:(s.heap.push { cls:=.type "tuple",data:=.seq #[a,b] }).objs.size=s.heap.objs.size+1:=bq ..
  have k0:∀b' o,s.heap.get? b'=sI o->(s.heap.push { cls:=.type "tuple",data:=.seq #[a,b] }).get? b'=sI o:=λb' o q=>aa _ q
  have hold:∀b o,s.heap.get? b=sI o->b<s.heap.objs.size:=λb o q=>aq q
  refine oG (rD hT (oG (ra ?_)))
  rw[YN]
  refine oH ⟨plainId_quiet bN _,?_⟩
  generalize s.heap.push { cls:=.type "tuple",data:=.seq #[a,b] }=h1 at *
  generalize hTe:s.heap.objs.size=T at *
  have gI:(h1.push { cls:=.type "tuple_iterator",data:=.fields #[.ref T,.int 0 0] }).IsTupleIter h1.objs.size T 0:=⟨_,aD _ rfl,rfl,rfl⟩
  have gT:=hT.push { cls:=.type "tuple_iterator",data:=.fields #[.ref T,.int 0 0] }
  have k1:∀b' o,s.heap.get? b'=sI o->(h1.push { cls:=.type "tuple_iterator",data:=.fields #[.ref T,.int 0 0] }).get? b'=sI o:=λb' o q=>aa _ (k0 b' o q)
  have hz1:(h1.push { cls:=.type "tuple_iterator",data:=.fields #[.ref T,.int 0 0] }).objs.size=h1.objs.size+1:=bq ..
  generalize h1.push { cls:=.type "tuple_iterator",data:=.fields #[.ref T,.int 0 0] }=h2 at *
  generalize h1.objs.size=I at *
  have a1:Nat.lt T I:=by rw[hz];exact cX _
  have a2:Nat.lt I h2.objs.size:=by rw[hz1];exact cX _
  have W:=Walks.tuple (prog:=prog) (w:=w) (A:=A.in1) hh I T (aw a1) #[a,b]
  refine Va (S:=h2.objs.size) (a:=a) (b:=b) (bt:=bt) W (λq=>?_) (λv q=>?_) (λv q=>?_) (W.frame 0 _ _ ⟨gI,gT⟩ λb _ o q=>aa _ q) (aD _ rfl) (λh' tk kp=>hc h' tk λb o q=>?_) λh' tk kp=>h h' tk λb o q=>?_
  . rcases sU.mp q with e | q
    . exact bS a2 e
    . exact bS (fA a1 a2) (sX.mp q)
  . cases q;rfl
  . cases q;rfl
  all_goals
    have b1:=fA (hold b o q) a1
    exact kp b o (λz=>aw b1 (sX.mp z)) (aw (fA b1 a2)) (aa _ (k1 b o q))
end
section
variable{X:Cx}
def zcI(K:oN):List V->Hp->VK->Prop:=λxs H Q=>∃(p r:oO) (i j k m:Int),xs=[.ref p,.ref r]/\SqT K H p [.int i,.int j]/\SqT K H r [.int k,.int m]/\Q (if k<i\/(k=i/\m<j) then .ref r else .ref p) H
theorem JG(i j k m:Int):ltD (.tup [.int k,.int m]) (.tup [.int i,.int j])=decide (k<i\/(k=i/\m<j)):=by
 simp only[ltD,vO,eqD]
 by_cases h1:k=i
 ·subst h1
  by_cases h2:m=j
  ·subst h2
   simp
  ·simp [h2]
 ·simp [h1]
theorem zbn(hc:X.calm=sK)(hu:X.A.units+100<cLine):wL X (.builtin "min") (zcI X.K):=by
 intro sM s σ H xs us Q I r h
 obtain⟨p,q,i,j,k,m,rfl,hp,hq,hQ⟩:=h
 obtain⟨u,v,rfl,r1,r2⟩:=ZO r
 have d1:Is X.K H (.tup [.int i,.int j]) (.ref p):=by simp only[Is,Iss];exact⟨p,_,rfl,hp,_,_,rfl,rfl,_,_,rfl,rfl,rfl⟩
 have d2:Is X.K H (.tup [.int k,.int m]) (.ref q):=by simp only[Is,Iss];exact⟨q,_,rfl,hq,_,_,rfl,rfl,_,_,rfl,rfl,rfl⟩
 refine UG (bt:=decide (k<i\/(k=i/\m<j))) (I.ok.hd hc) (λh' tk kp=>?_) λh' tk kp=>⟨_,H,I.kept kp,?_,hQ⟩
 ·rw[<- JG]
  exact W8 (I.kept kp) 50 X.A.in1 _ _ _ _ _ _ (by show X.A.units+1+50<cLine;lia) (by simp only[dpD,vM];decide) (by simp only[okD,jj,and_self]) d2 d1 r2 r1
 ·by_cases g:k<i\/(k=i/\m<j)
  ·rw[if_pos g,if_pos (decide_eq_true g)]
   exact r2
  ·rw[if_neg g,if_neg (by simpa using g)]
   exact r1
end
end L3
namespace L3
section
variable{X:Cx}{k j:Nat}{C:oO}{m:oV}{ps:List oV}{sp:Sp}{o e:oY}{es:List oY}{ta:TE}{t:TA}{apos pos p:pW}{x:oV}{E:XK}
end
end L3
namespace L3
end L3
namespace L3
section
variable{X:Cx}
theorem jt{cn:oV}{np hpos:pW}{b0:pb}{suite:List pb}{hs:List pO}{D:oO}{th:TS}(hg:Gl X cn)(hm:X.mg cn=sI (.ref D))(hdb:(cn == ("__debug__" : oV))=sL)(xc:kG X.K D=sK)(hsu:∀e,PSs (Cx.suite X e) (b0::suite) th)
  {sM:List (oO × pE)} {s:oQ} {σ:St} {H:Hp} {Dd:vg} {x C T:oO} {dx:Option oO} (I:Inv X sM σ H s) (hob:∃t cx kx,s.heap.get? x=sI (xog C dx t (.ref T) cx kx)) (hoT:∃oT ts,s.heap.get? T=sI oT/\oT.data=.fields ts/\3<ts.size) (fT:xp X sM H T)
  (hb:cq X.K (.ref C) (.ref D)=sI sK) (q:th Dd σ H):oR (model X.prog X.w) X.A (handleBy (.ref x) X.env (.ExceptHandler (sI (.Name cn np)) sJ (b0::suite) hpos::hs)) (SP X sM Dd) X.xe s:=by
 obtain⟨t,cx,kx,ob⟩:=hob
 obtain⟨oT,ts,eT,dT,zT⟩:=hoT
 have I':=Inv.suite I (.ref x)
 refine rX (rO (wD (X:=Cx.suite X (.ref x)) I' hg hm (Jj I.kIn xc ob hb ?_) hdb)) (by intro q;cases q)
 refine codeAny_handlers_suite ?_
 unfold setFlight
 refine oG (pf ob rfl (x:=.ref T) rfl ?_)
 rw[if_pos (show (Value.ref T != Value.none)=sK from by simp)]
 refine pP eT dT zT ?_
 obtain⟨f0,f1,f2,f3,f4,f5⟩:=fT
 have I2:Inv X sM σ H { s with heap:=s.heap.update T (Obj.mapFields (·.setIfInBounds 3 ((sJ:Option oO).elim Value.none λf=>rawInt f))) } :=
  I.turned (t':=s.toks) (λb o hb e=>(aE _ _ (Ne.symm hb)).trans e) f0 f1 f3 f4 f5
 refine pC (thn (hsu _ sM _ σ H _ (Inv.suite I2 (.ref x)) q) λfl s4 q4=>?_)
 cases fl with
 | next =>
  obtain⟨σ4,H4,I4,n4⟩:=q4
  exact⟨_,_,Inv.unsuite I I4,n4⟩
 | brk =>
  obtain⟨σ4,H4,I4,n4⟩:=q4
  exact⟨_,_,Inv.unsuite I I4,n4⟩
 | cont =>
  obtain⟨σ4,H4,I4,n4⟩:=q4
  exact⟨_,_,Inv.unsuite I I4,n4⟩
 | ret v =>
  obtain⟨y,σ4,H4,I4,r4,n4⟩:=q4
  exact⟨y,_,_,Inv.unsuite I I4,r4,n4⟩
end
end L3
namespace L3
section
variable{X:Cx}
def Jk(K:oN)(i:Nat)(D:oO)(te:TX)(th:TS):TS:=λDd σ H=>te σ H (λv H1=>Dd.nx (σ.set i (sI v)) H1) λcls dx H1=>∃C,cls=.ref C/\cq K (.ref C) (.ref D)=sI sK/\∀x,H1 x=sJ->th Dd σ (upd H1 x (XT x C dx))
theorem Qm{i:Nat}{y:oV}{yp apos pos np hpos:pW}{e:oY}{te:TX}{cn:oV}{b0:pb}{suite:List pb}{hs:List pO}{D:oO}{th:TS}
  (hN:X.N.Nodup) (hy:X.N[i]? = sI y) (hly:Loc X.env.scope y) (hf:X.fn y=sK\/X.env.scope.names.lookup y=sI .local) (hst:X.stack=X.env::X.outer/\X.env.frame=sI X.env.locals) (he:PEX X e te) (hg:Gl X cn) (hm:X.mg cn=sI (.ref D)) (xc:kG X.K D=sK) (hsu:∀e,PSs (Cx.suite X e) (b0::suite) th) (hdb:(cn == ("__debug__" : oV))=sL:=by decide) (hsw:swapsWith e (sI (.Name y yp)) apos.line X.env=pure sL:=by rfl) :
  PS X (.Try [.Assign [.Name y yp] e apos] (.ExceptHandler (sI (.Name cn np)) sJ (b0::suite) hpos::hs) [] [] pos) (Jk X.K i D te th):=by
 intro sM s σ H D I hq
 refine rJ (pV (sr (pY (he sM s σ H _ _ I hq) (λv s1 ⟨z,H1,I1,r1,q1⟩=>?_) λe s1 fl=>?_) hsw))
 ·exact uW I1 hN hy hly r1 (λs2 I2=>pK (pK ⟨_,H1,I2,q1⟩)) hf
 ·obtain⟨cx,kx,H1,x,C,t,dx,tb,rfl,I1,ob,tr,fx,fT,C',ec,hsb,q1⟩:=fl
  cases ec
  have fr:X.A.frames=sI (X.env::X.outer):=by rw[<- hst.1];exact I1.ok.frames
  have ff:s1.heap.FunFrames X.base (X.env::X.outer):=by rw[<- hst.1];exact I1.stack
  refine uK fr ff hst.2 hst.2 ob tr λh' T oT ts e1 nT oldT e2 d2 z2 k1 k2=>?_
  have fT':xp X sM H1 T:=by
   rcases oldT with z | z
   ·exact fT T z
   ·exact I1.fpOk z (I1.hok.fresh z)
  have tbs:∀b,tb=.ref b->H1 b=sJ:=λb hb=>(fT b hb).1
  have nch:∀b o,s1.heap.get? b=sI o->b ∉ (x::T::tbL tb)->b≠x/\tb≠.ref b:=λb o _ hb=>by
   refine⟨λz=>hb (by simp [z]),λz=>hb ?_⟩
   rw[z]
   simp [tbL]
  have un:Un (frs X.stack) (x::T::tbL tb) H1 H1 s1.heap h':=by
   rw[hst.1]
   refine⟨λb o e n hb hc=>?_,λb o e n hb hc=>?_,λb o e n _=>n,λb o e hc=>?_,λb xs e=>e,λb o u e=>e,λb ps e=>⟨#[],by rw[e];simp⟩⟩
   ·obtain⟨a1,a2⟩:=nch b o e hc
    exact k1 b o a1 a2 hb e
   ·obtain⟨a1,a2⟩:=nch b o e hc
    exact k2 b o a1 a2 e
   ·obtain⟨a1,a2⟩:=nch b o e hc
    obtain⟨sl,q⟩:=k2 b o a1 a2 e
    exact⟨_,q⟩
  have hok:HOk X.prog X.w H1 h':=λb u e=>by
   refine (I1.hok b u e).stay (λc v hc q=>k1 c v ?_ ?_ ?_ q) (λ_ q=>q) λ_ _ q=>q
   ·rintro rfl
    rcases hc with rfl | hc
    ·rw[fx.1] at e;cases e
    ·rw[fx.1] at hc;cases hc
   ·intro z
    have:=tbs c z
    rcases hc with rfl | hc
    ·rw[this] at e;cases e
    ·rw[this] at hc;cases hc
   ·intro z
    rw[<- hst.1] at z
    have:=I1.stkFree c z
    rcases hc with rfl | hc
    ·rw[this] at e;cases e
    ·rw[this] at hc;cases hc
  have I2:Inv X sM σ H1 { s1 with heap:=h' }:=I1.call' (s':={ s1 with heap:=h' }) rfl un hok I1.bare λb hb=>by
   have fb:xp X sM H1 b:=by
    rcases sU.mp hb with z | z
    ·rw[z];exact fx
    ·rcases sU.mp z with z | z
     ·rw[z];exact fT'
     ·cases tb with
      | ref b' =>
       have:b=b':=by simpa [tbL] using z
       rw[this];exact fT b' rfl
      | _=>simp [tbL] at z
   obtain⟨_,a1,_,a3,a4,a5⟩:=fb
   exact⟨a3,a1,a4,a5⟩
  have I3:Inv X sM σ (upd H1 x (XT x C dx)) { s1 with heap:=h' }:=Inv.track I2 fx (JK e1)
  exact jt hg hm hdb xc hsu I3 ⟨t,_,_,e1⟩ ⟨oT,ts,e2,d2,z2⟩ ⟨by rw[zo nT];exact fT'.1,fT'.2⟩ hsb (q1 x fx.1)
end
end L3
namespace L3
section
variable{X:Cx}
def Ji(K:oN)(D:oO)(te:TX)(th:TS):TS:=λDd σ H=>te σ H (λz H1=>Dd.rt z H1) λcls dx H1=>∃C,cls=.ref C/\cq K (.ref C) (.ref D)=sI sK/\∀x,H1 x=sJ->th Dd σ (upd H1 x (XT x C dx))
theorem Qa{apos pos np hpos:pW}{e:oY}{te:TX}{cn:oV}{b0:pb}{suite:List pb}{hs:List pO}{D:oO}{th:TS}
  (hst:X.stack=X.env::X.outer/\X.env.frame=sI X.env.locals) (he:PEX X e te) (hg:Gl X cn) (hm:X.mg cn=sI (.ref D)) (xc:kG X.K D=sK) (hsu:∀e,PSs (Cx.suite X e) (b0::suite) th) (hdb:(cn == ("__debug__" : oV))=sL:=by decide) :
  PS X (.Try [.Return (sI e) apos] (.ExceptHandler (sI (.Name cn np)) sJ (b0::suite) hpos::hs) [] [] pos) (Ji X.K D te th):=by
 intro sM s σ H D I hq
 refine rJ (pV (sq (pY (he sM s σ H _ _ I hq) (λv s1 ⟨z,H1,I1,r1,q1⟩=>?_) λe s1 fl=>?_)))
 ·exact⟨z,σ,H1,I1,r1,q1⟩
 ·obtain⟨cx,kx,H1,x,C,t,dx,tb,rfl,I1,ob,tr,fx,fT,C',ec,hsb,q1⟩:=fl
  cases ec
  have fr:X.A.frames=sI (X.env::X.outer):=by rw[<- hst.1];exact I1.ok.frames
  have ff:s1.heap.FunFrames X.base (X.env::X.outer):=by rw[<- hst.1];exact I1.stack
  refine uK fr ff hst.2 hst.2 ob tr λh' T oT ts e1 nT oldT e2 d2 z2 k1 k2=>?_
  have fT':xp X sM H1 T:=by
   rcases oldT with z | z
   ·exact fT T z
   ·exact I1.fpOk z (I1.hok.fresh z)
  have tbs:∀b,tb=.ref b->H1 b=sJ:=λb hb=>(fT b hb).1
  have nch:∀b o,s1.heap.get? b=sI o->b ∉ (x::T::tbL tb)->b≠x/\tb≠.ref b:=λb o _ hb=>by
   refine⟨λz=>hb (by simp [z]),λz=>hb ?_⟩
   rw[z]
   simp [tbL]
  have un:Un (frs X.stack) (x::T::tbL tb) H1 H1 s1.heap h':=by
   rw[hst.1]
   refine⟨λb o e n hb hc=>?_,λb o e n hb hc=>?_,λb o e n _=>n,λb o e hc=>?_,λb xs e=>e,λb o u e=>e,λb ps e=>⟨#[],by rw[e];simp⟩⟩
   ·obtain⟨a1,a2⟩:=nch b o e hc
    exact k1 b o a1 a2 hb e
   ·obtain⟨a1,a2⟩:=nch b o e hc
    exact k2 b o a1 a2 e
   ·obtain⟨a1,a2⟩:=nch b o e hc
    obtain⟨sl,q⟩:=k2 b o a1 a2 e
    exact⟨_,q⟩
  have hok:HOk X.prog X.w H1 h':=λb u e=>by
   refine (I1.hok b u e).stay (λc v hc q=>k1 c v ?_ ?_ ?_ q) (λ_ q=>q) λ_ _ q=>q
   ·rintro rfl
    rcases hc with rfl | hc
    ·rw[fx.1] at e;cases e
    ·rw[fx.1] at hc;cases hc
   ·intro z
    have:=tbs c z
    rcases hc with rfl | hc
    ·rw[this] at e;cases e
    ·rw[this] at hc;cases hc
   ·intro z
    rw[<- hst.1] at z
    have:=I1.stkFree c z
    rcases hc with rfl | hc
    ·rw[this] at e;cases e
    ·rw[this] at hc;cases hc
  have I2:Inv X sM σ H1 { s1 with heap:=h' }:=I1.call' (s':={ s1 with heap:=h' }) rfl un hok I1.bare λb hb=>by
   have fb:xp X sM H1 b:=by
    rcases sU.mp hb with z | z
    ·rw[z];exact fx
    ·rcases sU.mp z with z | z
     ·rw[z];exact fT'
     ·cases tb with
      | ref b' =>
       have:b=b':=by simpa [tbL] using z
       rw[this];exact fT b' rfl
      | _=>simp [tbL] at z
   obtain⟨_,a1,_,a3,a4,a5⟩:=fb
   exact⟨a3,a1,a4,a5⟩
  have I3:Inv X sM σ (upd H1 x (XT x C dx)) { s1 with heap:=h' }:=Inv.track I2 fx (JK e1)
  exact jt hg hm hdb xc hsu I3 ⟨t,_,_,e1⟩ ⟨oT,ts,e2,d2,z2⟩ ⟨by rw[zo nT];exact fT'.1,fT'.2⟩ hsb (q1 x fx.1)
end
end L3
namespace L3
section
variable{X:Cx}
theorem Vr(bs:List Bool):(aW bs.length).any (λi=>bs.getD i sL)=bs.any id:=by
 induction bs with
 | nil=>rfl
 | cons b bs ih =>
  rw[aN,dB,List.any_cons,List.any_map,List.any_cons,<- ih]
  rfl
def zdi(K:oN):List V->Hp->VK->Prop:=λxs H Q=>∃(p:oO) (bs:List Bool),xs=[.ref p]/\SqL K H p (bs.map V.bl)/\Q (.bl (bs.any id)) H
theorem zaJ(hc:X.calm=sK):wL X (.builtin "any") (zdi X.K):=by
 intro sM s σ H xs us Q I r h
 obtain⟨p,bs,rfl,hS,q⟩:=h
 obtain⟨u,rfl,ru⟩:=wI r
 cases ru
 obtain⟨its,rv,pl,hz⟩:=I.list hS
 have hlen:its.length=bs.length:=by
  have:=rv.length
  rw[ae] at this
  exact this.symm
 have hh:X.A.in1.handled=sJ:=I.ok.hd hc
 have hne:p≠s.heap.objs.size:=by
  obtain⟨o,n,e,_⟩:=pl
  exact aw (aq e)
 obtain⟨f0,f1,f2,f3,f4,f5⟩:=I.fpOk (H':=H) (am _) (I.hok.fresh (am _))
 have I1:=I.kept (t':=s.toks) (h':=s.heap.push { cls:=.type "list_iterator",data:=.fields #[.ref p,.int 0 0] }) λb o e=>aa _ e
 refine call_any_walk (rh pl.isList ?_)
 refine⟨s.heap.objs.size,_,_,_,_,_,λi=>bs.getD i sL,rfl,Walks.list hh s.heap.objs.size p hne its.toArray,⟨⟨_,aD _ rfl,rfl,rfl⟩,?_⟩,?_,?_⟩
 ·obtain⟨o,n,e,c,d,dt⟩:=pl
  exact⟨o,aa _ e,c,n,dt⟩
 ·intro i v s' Q' E' hv hq
  have:=ko rv (i:=i) (v:=v) (by simpa using hv)
  rw[this]
  exact pi hq
 ·intro h' tk hk
  have e:(aW its.toArray.size).any (λi=>bs.getD i sL)=bs.any id:=by
   rw[al,hlen,Vr]
  rw[e]
  refine⟨.bl _,H,?_,rfl,q⟩
  exact I1.turned (t':=tk) (it:=s.heap.objs.size) (λb o hb q=>hk b o (by simpa using hb) q) f0 f1 f3 f4 f5
end
end L3
namespace L3
def CompEL(K:oN)(a:oO)(g:TG)(tt:TT)(te:TE)(own:Nat)(ix:List Nat)(σ:L2.St)(H1:Hp)(Q:VK)(D:oO):Prop:=Ys (Iel K a) g tt te own ix σ H1 Q D
theorem zbj{K:oN}{ta:TA}{g:TG}{tt:TT}{te:TE}{own:Nat}{ix:List Nat}{σ:L2.St}{H:Hp}{Q:VK}:jm (VL K ta) g tt te own ix σ H Q=ta σ H λvs H1=>∃a,vs=[.ref a]/\(∃xs,SqL K H1 a xs)/\∀D,H1 D=sJ->CompEL K a g tt te own ix σ H1 Q D:=rfl
section
variable{g:TG}{tt:TT}{te:TE}{own:Nat}{ix:List Nat}{σ:L2.St}{H1:Hp}{Q:VK}{D:oO}
theorem CompEL.by{K:oN}{a:oO}{xs:List V}(Pv:Nat->List V->Hp->Prop)(h0:Pv 0 [] (upd H1 D (.lst [])))(hl:∀i sP H',i<=xs.length->Pv i sP H'->SqL K H' a xs)
  (hs:∀i x sP H' p,xs[i]? = sI x->Pv i sP H'->H' p=sJ->g (.ref p) (wX σ own ix) (upd H' p (.tup [.int (i:Nat),x])) λσ3 H3=>yN (wX σ own ix) σ3/\tt σ3 H3 λb H4=>if b=sK then
   te σ3 H4 λv H5=>H5 D=sI (.lst sP)/\sP.length<oM/\CNx xs.length i Pv (sP ++ [v]) (upd H5 D (.lst (sP ++ [v]))) else CNx xs.length i Pv sP H4)
  (hd:∀sP H',Pv xs.length sP H'->Q (.ref D) H'):CompEL K a g tt te own ix σ H1 Q D:=by
 refine⟨λi m sP H=>m=xs.length - i/\i<=xs.length/\Pv i sP H,⟨xs.length,by simp,aI _,h0⟩,?_⟩
 rintro i m sP H' ⟨rfl,hi,p⟩
 have q:=hl i sP H' hi p
 by_cases hlt:i<xs.length
 ·refine .inr ⟨⟨xs,xs[i],q,by simp [hlt]⟩,λv H2 y=>?_⟩
  obtain⟨p',x,hp,hx,ev,eH⟩:=y
  subst ev eH
  exact hs i x sP H' p' (hx xs q) p hp
 ·have e:i=xs.length:=by lia
  subst e
  exact .inl ⟨⟨xs,q,rfl⟩,hd sP H' p⟩
end
end L3
namespace L3
section
variable{X:Cx}
end
end L3
namespace L3
open PySem PySem.W PyProof.Rows
noncomputable def zbV(lt:Nat->Nat->Bool){α:Type}:KasT α->α
 | .ret a=>a
 | .ask i j k=>zbV lt (k (lt i j))
def Kok(lt:Nat->Nat->Bool)(n:Nat){α:Type}:KasT α->(α->Prop)->Prop
 | .ret a,Q=>Q a
 | .ask i j k,Q=>i<n/\j<n/\Kok lt n (k (lt i j)) Q
section
variable{lt:Nat->Nat->Bool}{n:Nat}{α β:Type}
theorem Kok.mono{Q Q':α->Prop}(hq:∀a,Q a->Q' a):∀(t:KasT α),Kok lt n t Q->Kok lt n t Q'
 | .ret a,h=>hq a h
 | .ask _ _ k,h=>⟨h.1,h.2.1,Kok.mono hq (k _) h.2.2⟩
theorem Kok.bind{f:α->KasT β}{Q:β->Prop}:∀(t:KasT α),Kok lt n t (λa=>Kok lt n (f a) Q)->Kok lt n (t.bind f) Q
 | .ret _,h=>h
 | .ask _ _ k,h=>⟨h.1,h.2.1,Kok.bind (k _) h.2.2⟩
theorem Kok.run{Q:α->Prop}:∀(t:KasT α),Kok lt n t Q->Q (zbV lt t)
 | .ret _,h=>h
 | .ask _ _ k,h=>Kok.run (k _) h.2.2
theorem Kok.wp{cmp:Nat->Nat->(Bool->oQ->Prop)->oQ->Prop}{I:oQ->Prop}(hc:∀i j C s,i<n->j<n->I s->(∀s',I s'->C (lt i j) s')->cmp i j C s){Q:α->Prop}{R:α->oQ->Prop}
  (hR:∀a s,Q a->I s->R a s):∀(t:KasT α) (s:oQ),I s->Kok lt n t Q->t.kasWp cmp R s
 | .ret a,s,hI,h=>hR a s h hI
 | .ask i j k,s,hI,h=>hc i j _ s h.1 h.2.1 hI λs' hI'=>Kok.wp hc hR (k _) s' hI' h.2.2
end
structure Wk(lt:Nat->Nat->Bool):Prop where
 asym:∀a b,lt a b=sK->lt b a=sL
 ntr:∀a b c,lt b a=sL->lt c b=sL->lt c a=sL
section
variable{lt:Nat->Nat->Bool}{n:Nat}
abbrev Lq(lt:Nat->Nat->Bool)(a b:Nat):Prop:=lt b a=sL
theorem Wk.refl(W:Wk lt)(a:Nat):Lq lt a a:=by
 cases h:lt a a with
 | false=>exact h
 | true=>exact absurd h (by rw[W.asym a a h];decide)
noncomputable abbrev pg(p:Array Nat)(i:Nat):Nat:=p.getD i 0
theorem Xy(p:Array Nat)(i:Nat):pg p i=(p[i]?).getD 0:=by simp [pg,Array.getD_eq_getD_getElem?]
def Up(lt:Nat->Nat->Bool)(p:Array Nat)(m:Nat):Prop:=∀i j,i<j->j<m->Lq lt (pg p i) (pg p j)
def Dn(lt:Nat->Nat->Bool)(p:Array Nat)(m:Nat):Prop:=∀i j,i<j->j<m->Lq lt (pg p j) (pg p i)
def Rg(n:Nat)(p:Array Nat):Prop:=p.toList.Perm (aW n)
theorem Rg.size{p:Array Nat}(h:Rg n p):p.size=n:=by have:=h.length_eq;simpa using this
theorem Rg.bd{p:Array Nat}(h:Rg n p){i:Nat}(hi:i<n):pg p i<n:=by
 have hs:=h.size
 have hi':i<p.size:=by lia
 have e:pg p i=p[i]:=by simp [pg,fk,hi']
 rw[e]
 have hm:p[i] ∈ p.toList:=Array.mem_toList_iff.mpr (Array.getElem_mem hi')
 exact sZ.mp (h.mem_iff.mp hm)
theorem ve{p:Array Nat}{i j:Nat}(hj:j<=p.size)(k:Nat):pg (kas_rev p i j) k=if i<=k/\k<j then pg p (i+j - 1 - k) else pg p k:=by
 rw[Xy,kas_rev,getElem?_mirror_all hj]
 split <;> rw[Xy]
theorem Rg.rev{p:Array Nat}(h:Rg n p)(i j:Nat):Rg n (kas_rev p i j):=(Array.perm_iff_toList_perm.mp (mirror_perm p i j _)).trans h
theorem Rg.bub{p:Array Nat}(h:Rg n p)(i j:Nat):Rg n (bubble p i j):=(Array.perm_iff_toList_perm.mp (bubble_perm p i j)).trans h
theorem V3(W:Wk lt){p:Array Nat}(hp:Rg n p):∀(f k:Nat),1<=k->k+f<=n->Up lt p k->Kok lt n (kas_asc p f k) (λm=>k<=m/\m<=k+f/\Up lt p m/\(m=k+f\/lt (pg p m) (pg p (m - 1))=sK))
 | 0,k,h1,h2,hu=>⟨by lia,by lia,hu,Or.inl (by lia)⟩
 | f+1,k,h1,h2,hu=>by
  refine⟨hp.bd (by lia),hp.bd (by lia),?_⟩
  rcases cj (lt (pg p k) (pg p (k - 1))) with hc | hc
  ·show Kok lt n (if lt (pg p k) (pg p (k - 1))=sK then .ret k else _) _
   rw[if_pos hc]
   exact⟨by lia,by lia,hu,Or.inr hc⟩
  ·show Kok lt n (if lt (pg p k) (pg p (k - 1))=sK then .ret k else _) _
   rw[if_neg (by rw[hc];decide)]
   refine (V3 W hp f (k+1) (by lia) (by lia) λi j hij hj=>?_).mono (λm hm=>⟨by lia,by lia,hm.2.2.1,?_⟩) _
   ·by_cases e:j=k
    ·subst e
     by_cases e2:i=j - 1
     ·subst e2;exact hc
     ·exact W.ntr _ _ _ (hu i (j - 1) (by lia) (by lia)) hc
    ·exact hu i j hij (by lia)
   ·rcases hm.2.2.2 with h | h
    ·exact Or.inl (by lia)
    ·exact Or.inr h
def Ev(lt:Nat->Nat->Bool)(p:Array Nat)(a b:Nat):Prop:=∀i j,a<=i->i<b->a<=j->j<b->Lq lt (pg p i) (pg p j)
theorem Je{p:Array Nat}{m q:Nat}(hm:m<=p.size)(hq:q+1<=m)(hd:Dn lt p m)(he:Ev lt p (m - (q+1)) m):Dn lt (kas_rev p (m - (q+1)) m) m:=by
 intro i j hij hj
 rw[ve hm,ve hm]
 by_cases h1:m - (q+1)<=i
 ·rw[if_pos (show m - (q+1)<=i/\i<m by lia),if_pos (show m - (q+1)<=j/\j<m by lia)]
  exact he _ _ (by lia) (by lia) (by lia) (by lia)
 ·rw[if_neg (show ¬ (m - (q+1)<=i/\i<m) by lia)]
  split
  ·exact hd _ _ (by lia) (by lia)
  ·exact hd _ _ (by lia) (by lia)
theorem jT(W:Wk lt):∀(f:Nat) (p:Array Nat) (k q:Nat),Rg n p->1<=k->k+f<=n->q+1<=k->Dn lt p k->Ev lt p (k - (q+1)) k ->
  Kok lt n (kas_desc f p k q) (λr=>Rg n r.1/\k<=r.2.1/\r.2.1<=k+f/\r.2.2+1<=r.2.1/\Dn lt r.1 r.2.1/\Ev lt r.1 (r.2.1 - (r.2.2+1)) r.2.1)
 | 0,p,k,q,hp,h1,h2,hq,hd,he=>⟨hp,am _,cw _ _,hq,hd,he⟩
 | f+1,p,k,q,hp,h1,h2,hq,hd,he=>by
  have hps:=hp.size
  refine⟨hp.bd (by lia),hp.bd (by lia),?_⟩
  have one:∀(p:Array Nat),Ev lt p (k+1 - (0+1)) (k+1):=λp i j a b c d=>by
   have:i=j:=by lia
   subst this
   exact W.refl _
  rcases cj (lt (pg p k) (pg p (k - 1))) with hc | hc
  ·show Kok lt n (if lt (pg p k) (pg p (k - 1))=sK then _ else _) _
   rw[if_pos hc]
   have hle:Lq lt (pg p k) (pg p (k - 1)):=W.asym _ _ hc
   split
   ·rename_i hq0
    refine (jT W f _ (k+1) 0 (hp.rev _ _) (by lia) (by lia) (by lia) (λi j hij hj=>?_) (one _)).mono (λr hr=>⟨hr.1,by lia,by lia,hr.2.2.2⟩) _
    by_cases e:j=k
    ·subst e
     rw[ve (by lia),ve (by lia),if_neg (by lia)]
     split
     ·exact W.ntr _ _ _ hle (he _ _ (by lia) (by lia) (by lia) (by lia))
     ·exact W.ntr _ _ _ hle (hd _ _ (by lia) (by lia))
    ·exact Je (by lia) hq hd he i j hij (by lia)
   ·refine (jT W f _ (k+1) 0 hp (by lia) (by lia) (by lia) (λi j hij hj=>?_) (one _)).mono (λr hr=>⟨hr.1,by lia,by lia,hr.2.2.2⟩) _
    by_cases e:j=k
    ·subst e
     by_cases e2:i=j - 1
     ·subst e2;exact hle
     ·exact W.ntr _ _ _ hle (hd i (j - 1) (by lia) (by lia))
    ·exact hd i j hij (by lia)
  ·show Kok lt n (if lt (pg p k) (pg p (k - 1))=sK then _ else _) _
   rw[if_neg (by rw[hc];decide)]
   refine⟨hp.bd (by lia),hp.bd (by lia),?_⟩
   rcases cj (lt (pg p (k - 1)) (pg p k)) with hd2 | hd2
   ·show Kok lt n (if lt (pg p (k - 1)) (pg p k)=sK then _ else _) _
    rw[if_pos hd2]
    exact⟨hp,am _,cw _ _,hq,hd,he⟩
   ·show Kok lt n (if lt (pg p (k - 1)) (pg p k)=sK then _ else _) _
    rw[if_neg (by rw[hd2];decide)]
    refine (jT W f _ (k+1) (q+1) hp (by lia) (by lia) (by lia) (λi j hij hj=>?_) (λi j a b c d=>?_)).mono (λr hr=>⟨hr.1,by lia,by lia,hr.2.2.2⟩) _
    ·by_cases e:j=k
     ·subst e
      by_cases e2:i=j - 1
      ·subst e2;exact hd2
      ·exact W.ntr _ _ _ hd2 (hd i (j - 1) (by lia) (by lia))
     ·exact hd i j hij (by lia)
    ·have b1:∀i,k+1 - (q+1+1)<=i->i<k->Lq lt (pg p i) (pg p (k - 1))/\Lq lt (pg p (k - 1)) (pg p i):=λi a b=>⟨he _ _ (by lia) (by lia) (by lia) (by lia),he _ _ (by lia) (by lia) (by lia) (by lia)⟩
     by_cases e:j=k
     ·subst e
      by_cases e3:i=j
      ·subst e3;exact W.refl _
      ·exact W.ntr _ _ _ (b1 i (by lia) (by lia)).1 hc
     ·by_cases e3:i=k
      ·subst e3
       exact W.ntr _ _ _ hd2 (b1 j (by lia) (by lia)).2
      ·exact he _ _ (by lia) (by lia) (by lia) (by lia)
theorem Yw(W:Wk lt){p:Array Nat}{m:Nat}(hp:Rg n p)(h1:1<=m)(hm:m<=n)(hd:Dn lt p m):Kok lt n (kas_tail3 m n p) (λr=>Rg n r.2/\1<=r.1/\r.1<=n/\Up lt r.2 r.1):=by
 have hps:=hp.size
 unfold kas_tail3
 refine Kok.bind _ ((V3 W (hp.rev 0 m) (n - m) m h1 (by lia) λi j hij hj=>?_).mono (λk hk=>⟨hp.rev 0 m,by show 1<=k;lia,by show k<=n;lia,hk.2.2.1⟩) _)
 rw[ve (by lia),ve (by lia),if_pos (by lia),if_pos (by lia)]
 exact hd _ _ (by lia) (by lia)
theorem qU(W:Wk lt){p:Array Nat}{m:Nat}(hp:Rg n p)(h1:1<=m)(hm:m+1<=n)(hd:Dn lt p (m+1)):Kok lt n (kas_descPart m n p) (λr=>Rg n r.2/\1<=r.1/\r.1<=n/\Up lt r.2 r.1):=by
 unfold kas_descPart
 refine Kok.bind _ ((jT W (n - (m+1)) p (m+1) 0 hp (by lia) (by lia) (by lia) hd λi j a b c d=>?_).mono (λr hr=>?_) _)
 ·have:i=j:=by lia
  subst this
  exact W.refl _
 ·obtain⟨r1,r2,r3,r4,r5,r6⟩:=hr
  have hs:=r1.size
  (try dsimp only)
  split
  ·exact Yw W (r1.rev _ _) (by lia) (by lia) (Je (by lia) r4 r5 r6)
  ·exact Yw W r1 (by lia) (by lia) r5
theorem Uw(W:Wk lt){p:Array Nat}(hp:Rg n p)(hn:1<=n):Kok lt n (kas_count n p) (λr=>Rg n r.2/\1<=r.1/\r.1<=n/\Up lt r.2 r.1):=by
 have hps:=hp.size
 unfold kas_count
 refine Kok.bind _ ((V3 W hp (n - 1) 1 (am _) (by lia) λi j hij hj=>by lia).mono (λm hm=>?_) _)
 obtain⟨m1,m2,mu,ms⟩:=hm
 by_cases e:(m == n)=sK
 ·rw[if_pos e]
  exact⟨hp,by show 1<=m;lia,by show m<=n;lia,mu⟩
 ·rw[if_neg e]
  have hne:m≠n:=λh=>e (by rw[h];exact beq_self_eq_true _)
  have hlt:lt (pg p m) (pg p (m - 1))=sK:=by
   rcases ms with h | h
   ·lia
   ·exact h
  have hle:Lq lt (pg p m) (pg p (m - 1)):=W.asym _ _ hlt
  by_cases h1:m > 1
  ·rw[if_pos h1]
   refine⟨hp.bd (by lia),hp.bd (by lia),?_⟩
   rcases cj (lt (pg p 0) (pg p (m - 1))) with hc | hc
   ·show Kok lt n (if lt (pg p 0) (pg p (m - 1))=sK then _ else _) _
    rw[if_pos hc]
    exact⟨hp,by show 1<=m;lia,by show m<=n;lia,mu⟩
   ·show Kok lt n (if lt (pg p 0) (pg p (m - 1))=sK then _ else _) _
    rw[if_neg (by rw[hc];decide)]
    have u0:∀i,i<m->Lq lt (pg p 0) (pg p i):=λi hi=>by
     by_cases h:i=0
     ·subst h;exact W.refl _
     ·exact mu 0 i (by lia) hi
    have ul:∀i,i<m->Lq lt (pg p i) (pg p (m - 1)):=λi hi=>by
     by_cases h:i=m - 1
     ·subst h;exact W.refl _
     ·exact mu i (m - 1) (by lia) (by lia)
    have ev:∀i j,i<m->j<m->Lq lt (pg p i) (pg p j):=λi j hi hj=>W.ntr _ _ _ (ul i hi) (W.ntr _ _ _ hc (u0 j hj))
    refine qU W (hp.rev 0 m) (by lia) (by lia) λi j hij hj=>?_
    by_cases h:j=m
    ·subst h
     rw[ve (by lia),ve (by lia),if_neg (by lia),if_pos (by lia)]
     exact W.ntr _ _ _ hle (ev _ _ (by lia) (by lia))
    ·rw[ve (by lia),ve (by lia),if_pos (by lia),if_pos (by lia)]
     exact ev _ _ (by lia) (by lia)
  ·rw[if_neg h1]
   refine qU W hp (by lia) (by lia) λi j hij hj=>?_
   have h0:i=m - 1:=by lia
   have h1:j=m:=by lia
   subst h0 h1
   exact hle
theorem j0(W:Wk lt){p:Array Nat}(hp:Rg n p){k:Nat}(hk:k<n)(hu:Up lt p k):∀(f l r:Nat),l<=r->r<=k->r - l<=f->(∀i,i<l->Lq lt (pg p i) (pg p k))->(∀i,r<=i->i<k->Lq lt (pg p k) (pg p i)) ->
  Kok lt n (kas_place p k f l r) (λm=>m<=k/\(∀i,i<m->Lq lt (pg p i) (pg p k))/\(∀i,m<=i->i<k->Lq lt (pg p k) (pg p i)))
 | 0,l,r,hl,hr,hf,h1,h2=>by
  have:l=r:=by lia
  subst this
  exact⟨hr,h1,h2⟩
 | f+1,l,r,hl,hr,hf,h1,h2=>by
  unfold kas_place
  by_cases e:l ≥ r
  ·rw[if_pos e]
   have:l=r:=by lia
   subst this
   exact⟨hr,h1,h2⟩
  ·rw[if_neg e]
   refine⟨hp.bd hk,hp.bd (by lia),?_⟩
   rcases cj (lt (pg p k) (pg p ((l+r) / 2))) with hc | hc
   ·show Kok lt n (if lt (pg p k) (pg p ((l+r) / 2))=sK then _ else _) _
    rw[if_pos hc]
    refine j0 W hp hk hu f l ((l+r) / 2) (by lia) (by lia) (by lia) h1 λi hi hik=>?_
    by_cases e2:i=(l+r) / 2
    ·subst e2;exact W.asym _ _ hc
    ·exact W.ntr _ _ _ (W.asym _ _ hc) (hu _ _ (by lia) hik)
   ·show Kok lt n (if lt (pg p k) (pg p ((l+r) / 2))=sK then _ else _) _
    rw[if_neg (by rw[hc];decide)]
    refine j0 W hp hk hu f ((l+r) / 2+1) r (by lia) hr (by lia) (λi hi=>?_) h2
    by_cases e2:i=(l+r) / 2
    ·subst e2;exact hc
    ·exact W.ntr _ _ _ (hu i ((l+r) / 2) (by lia) (by lia)) hc
theorem Jf{p:Array Nat}{k l:Nat}(hk:k<p.size)(hl:l<=k)(i:Nat):pg (bubble p k (k - l)) i=if i=l then pg p k else if l<i/\i<=k then pg p (i - 1) else pg p i:=by
 have e:k - (k - l)=l:=by lia
 rw[Xy,getElem?_bubble hk (k - l) (by lia),e]
 by_cases h:i=l
 ·rw[if_pos h,if_pos h];exact (Xy p k).symm
 ·rw[if_neg h,if_neg h]
  by_cases h':l<i/\i<=k
  ·rw[if_pos h',if_pos h'];exact (Xy p (i - 1)).symm
  ·rw[if_neg h',if_neg h'];exact (Xy p i).symm
theorem QS(W:Wk lt):∀(f:Nat) (p:Array Nat) (k:Nat),Rg n p->k+f=n->Up lt p k->Kok lt n (kas_bin f p k) (λp'=>Rg n p'/\Up lt p' n)
 | 0,p,k,hp,hk,hu=>by
  have:k=n:=by lia
  subst this
  exact⟨hp,hu⟩
 | f+1,p,k,hp,hk,hu=>by
  have hps:=hp.size
  refine Kok.bind _ ((j0 W hp (by lia) hu k 0 k (by lia) (by lia) (by lia) (λi hi=>by lia) (λi h1 h2=>by lia)).mono (λl hl=>?_) _)
  obtain⟨l1,l2,l3⟩:=hl
  refine QS W f _ (k+1) (hp.bub _ _) (by lia) λi j hij hj=>?_
  rw[Jf (by lia) l1,Jf (by lia) l1]
  by_cases h1:i=l
  ·rw[if_pos h1,if_neg (by lia),if_pos (by lia)]
   exact l3 _ (by lia) (by lia)
  ·rw[if_neg h1]
   by_cases h2:j=l
   ·rw[if_pos h2,if_neg (by lia)]
    exact l2 _ (by lia)
   ·rw[if_neg h2]
    by_cases h3:l<i/\i<=k
    ·rw[if_pos h3,if_pos (by lia)]
     exact hu _ _ (by lia) (by lia)
    ·rw[if_neg h3]
     by_cases h4:l<j/\j<=k
     ·rw[if_pos h4]
      by_cases h5:i=j - 1
      ·lia
      ·exact hu _ _ (by lia) (by lia)
     ·rw[if_neg h4]
      exact hu _ _ (by lia) (by lia)
theorem JZ(W:Wk lt)(hn:1<=n):Kok lt n (kas_sort n) (λp=>Rg n p/\Up lt p n):=by
 unfold kas_sort
 refine Kok.bind _ ((Uw W (p:=be (aW n)) (by unfold Rg;exact List.Perm.refl _) hn).mono (λr hr=>?_) _)
 obtain⟨r1,r2,r3,r4⟩:=hr
 (try dsimp only)
 split
 ·have:max r.1 1=r.1:=by lia
  rw[this]
  exact QS W _ _ _ r1 (by lia) r4
 ·have:r.1=n:=by lia
  rw[this] at r4
  exact⟨r1,r4⟩
end
noncomputable def srt{α:Type}(lt:α->α->Bool)(d:α)(xs:List α):List α :=
 if xs.length<2 then xs else (zbV (λi j=>lt (xs.getD i d) (xs.getD j d)) (kas_sort xs.length)).toList.map λi=>xs.getD i d
structure WkO{α:Type}(lt:α->α->Bool):Prop where
 asym:∀a b,lt a b=sK->lt b a=sL
 ntr:∀a b c,lt b a=sL->lt c b=sL->lt c a=sL
end L3
namespace L3
structure KeyFam(α:Type) where
 dec:α->List D
 lt:α->α->Bool
 fst:Bool
 d0:α
structure KeyFam.Ok{α:Type}(F:KeyFam α):Prop where
 w:WkO F.lt
 eq:∀a b,vO (F.dec a) (F.dec b)=F.lt a b
 ok:∀a b,jj (F.dec a) (F.dec b)
 dp:∀a,vM (F.dec a)<40
 sh:∀a,∃d r,F.dec a=d::r/\((F.fst=sK/\∃n,d=.int n)\/(F.fst=sL/\∃l,d=.tup l))
section
variable{X:Cx}{sM:List (oO × pE)}{σ:L2.St}{H:Hp}{s:oQ}
theorem Inv.repin{b:oO}{o o':pE}{h':oZ}(I:Inv X (sM ++ [(b,o)]) σ H s)(hs:X.s₀.heap.objs.size<=b)(hn:∀p ∈ X.pn ++ sM,p.1≠b)(sb:Heap.SameBut b s.heap h')(ho:h'.get? b=sI o')(hd:∀v,o'.data≠.cell v) :
  Inv X (sM ++ [(b,o')]) σ H { s with heap:=h' }:=by
 have I1:Inv X sM σ H s:=I.unpinned
 obtain⟨p1,p2,p3,p4,p5⟩:=I.pin (b,o) (aA _ (aA _ (sX.mpr rfl)))
 have I2:Inv X sM σ H { s with heap:=h' }:=Inv.turns I1 (fp:=[b]) (t':=s.toks) (λb' u hb e=>(sb.2 b' (by simpa using hb)).trans e) λb' hb=>by
  have e:b'=b:=by simpa using hb
  subst e
  refine⟨p2,p3,p4,.inr hs,λx c e z=>?_,hn⟩
  obtain⟨v,o1,ho1,hd1⟩:=I.cell x c e
  subst z
  rw[p1] at ho1
  cases ho1
  exact p5 v hd1
 exact I2.pins_of λp hp=>by
  rcases sV.mp hp with z | z
  ·exact I2.pin p (aA _ z)
  ·have e:p=(b,o'):=by simpa using z
   subst e
   exact⟨ho,p2,p3,p4,hd⟩
theorem Inv.newpin{b:oO}{o:pE}(I:Inv X sM σ H s)(hf:xp X sM H b)(ho:s.heap.get? b=sI o)(hd:∀v,o.data≠.cell v):Inv X (sM ++ [(b,o)]) σ H s :=
 I.pins_of λp hp=>by
  rcases sV.mp hp with z | z
  ·exact I.pin p (aA _ z)
  ·have e:p=(b,o):=by simpa using z
   subst e
   exact⟨ho,hf.1,hf.2.1,hf.2.2.1,hd⟩
theorem zaG(I:Inv X sM σ H s){A:oX}{b:Bool}{Q:Bool->oQ->Prop}(hu:A.units+50<cLine):∀(l m:List D) (xs ys:List V) (its its':List oP) (i:Nat),Iss X.K H l xs->Iss X.K H m ys->Vals xs its->Vals ys its'->jj l m->vM l<40 ->
  (b=sK->i=0->(∃n r,l=.int n::r)/\∃n r,m=.int n::r)->Q (vO l m) s->PySem.W.KatLex X.prog X.w A b (decide (its.length<its'.length)) Q (its.zip its') i s
 | [],m,xs,ys,its,its',i,h1,h2,r1,r2,ok,hd,hb,q=>by
  simp only[Iss] at h1
  subst h1
  cases r1
  have e:vO [] m=decide (([]:List oP).length<its'.length):=by
   have e1:=h2.len
   have e2:=r2.length
   have e3:m.length=its'.length:=by lia
   rw[<- e3]
   cases m with
   | nil=>simp [vO]
   | cons _ _=>simp [vO]
  rw[e] at q
  rw[List.zip_nil_left]
  exact fQ q
 | d::l,[],xs,ys,its,its',i,h1,h2,r1,r2,ok,hd,hb,q=>by
  simp only[Iss] at h2
  subst h2
  cases r2
  simp only[vO] at q
  rw[List.zip_nil_right]
  exact fQ (by simpa using q)
 | d::l,e::m,xs,ys,its,its',i,h1,h2,r1,r2,ok,hd,hb,q=>by
  simp only[Iss] at h1 h2
  obtain⟨x,xr,rfl,hx,hxr⟩:=h1
  obtain⟨y,yr,rfl,hy,hyr⟩:=h2
  cases r1 with | cons rx rxr =>
  cases r2 with | cons ry ryr =>
  simp only[jj] at ok
  simp only[vM] at hd
  rename_i u us v vs
  rw[dm]
  refine PySem.W.kat_cons (qk I 45 A d e x y u v (by lia) (by lia) hx hy rx ry X.prog X.w _ _ ?_)
  cases he:eqD d e with
  | true =>
   refine PySem.W.kat_yes ?_
   have:=zaG I (b:=b) hu l m xr yr us vs (i+1) hxr hyr rxr ryr ok.2 (by lia) (λ_ z=>absurd z (by lia)) (by simpa only[vO,he,if_true] using q)
   simpa using this
  | false =>
   refine PySem.W.kat_no ?_
   have q':Q (ltD d e) s:=by simpa only[vO,he,bF,if_false] using q
   by_cases hbi:(b && i == 0)=sK
   ·rw[hbi]
    simp only[cE,beq_iff_eq] at hbi
    obtain⟨⟨n,r,e1⟩,n',r',e2⟩:=hb hbi.1 hbi.2
    cases e1;cases e2
    simp only[Is] at hx hy
    subst hx hy
    obtain⟨t,rfl⟩:=rx
    obtain⟨t',rfl⟩:=ry
    simp only[ltD] at q'
    exact oneLt_int q'
   ·rw[show (b && i == 0)=sL by simpa using hbi]
    exact PySem.W.kat_one _ _ (W8 I 45 A d e x y u v (by lia) (by lia) ok.1 hx hy rx ry X.prog X.w _ _ q')
theorem Ju(I:Inv X sM σ H s){A:oX}{b:Bool}{Q:Bool->oQ->Prop}{E:oP->oQ->Prop}(hu:A.units+50<cLine){l m:List D}{x y:V}{u v:oP}(hx:Is X.K H (.tup l) x)(hy:Is X.K H (.tup m) y)(rx:RelV x u)(ry:RelV y v)
  (ok:jj l m) (hd:vM l<40) (hb:b=sK->(∃n r,l=.int n::r)/\∃n r,m=.int n::r) (q:Q (vO l m) s):oR (model X.prog X.w) A (keyLt' (tuples' b) u v) Q E s:=by
 simp only[Is] at hx hy
 obtain⟨a,xs,rfl,h1,h2⟩:=hx
 obtain⟨c,ys,rfl,g1,g2⟩:=hy
 cases rx;cases ry
 obtain⟨its,r,⟨o,ho,hoc,n,hod⟩,_⟩:=I.tuple h1
 obtain⟨its',r',⟨o',ho',hoc',n',hod'⟩,_⟩:=I.tuple g1
 refine PySem.W.kat_lt ho hod ho' hod' ?_
 have:=zaG I (A:=A) (b:=b) (Q:=Q) hu l m xs ys its its' 0 h2 g2 r r' ok hd (λz _=>hb z) q
 simpa using this
theorem Jh{α:Type}{F:KeyFam α}(FO:F.Ok)(I:Inv X sM σ H s){M:sj}:∀(rs:List α) (sP:List V) (ks:List oP),Iss X.K H (rs.map λa=>.tup (F.dec a)) sP->Vals sP ks ->
  ∃fs,PySem.W.KatTups s.heap ks fs/\fs.length=rs.length/\∀v ∈ fs,PySem.W.Looks M s.heap (typeOf v) (.type (if F.fst=sK then "int" else "tuple"))
 | [],sP,ks,h,r=>by
  simp only[aP,Iss] at h
  subst h
  cases r
  exact⟨[],PySem.W.KatTups.nil,rfl,λv hv=>by cases hv⟩
 | a::rs,sP,ks,h,r=>by
  simp only[au,Iss] at h
  obtain⟨x,xr,rfl,hx,hxr⟩:=h
  cases r with | cons rx rxr =>
  rename_i u us
  obtain⟨fs,t1,t2,t3⟩:=Jh FO I (M:=M) rs xr us hxr rxr
  simp only[Is] at hx
  obtain⟨c,xs,rfl,h1,h2⟩:=hx
  cases rx
  obtain⟨its,ri,⟨o,ho,hoc,n,hod⟩,_⟩:=I.tuple h1
  obtain⟨d,dr,ed,hsh⟩:=FO.sh a
  rw[ed] at h2
  simp only[Iss] at h2
  obtain⟨y,yr,rfl,hy,_⟩:=h2
  cases ri with | cons ry rir =>
  rename_i v vs
  refine⟨v::fs,PySem.W.KatTups.cons ho hoc hod (by simp) t1,by simp [t2],λz hz=>?_⟩
  rcases sU.mp hz with e | hz
  ·subst e
   rcases hsh with ⟨hf,n',rfl⟩ | ⟨hf,l,rfl⟩
   ·rw[if_pos hf]
    simp only[Is] at hy
    subst hy
    obtain⟨t,rfl⟩:=ry
    exact PySem.W.Looks.of_pure rfl
   ·rw[if_neg (by rw[hf];decide)]
    simp only[Is] at hy
    obtain⟨c',xs',rfl,g1,_⟩:=hy
    cases ry
    obtain⟨its',ri',⟨o',ho',hoc',n',hod'⟩,_⟩:=I.tuple g1
    rw[<- hoc']
    exact (PySem.W.Looks.ld ho').andThen .now
  ·exact t3 z hz
end
def XR{α:Type}(K:oN)(F:KeyFam α)(xs:List V)(Q:VK):List V->Hp->Prop:=λsP H'=>∃rs:List α,Iss K H' (rs.map λa=>.tup (F.dec a)) sP /\
 ∀ys:List (α × V),ys.Perm (rs.zip xs)->ys.Pairwise (λp q=>F.lt q.1 p.1=sL)->∀D,H' D=sJ->Q (.ref D) (upd H' D (.lst (ys.map (·.2))))
theorem V6{β:Type}{g:β->β->Bool}{d:β}{zs:List β}{p:Array Nat}(h1:Rg zs.length p)(h2:Up (λi j=>g (zs.getD i d) (zs.getD j d)) p zs.length) :
  (p.toList.map λi=>zs.getD i d).Perm zs/\(p.toList.map λi=>zs.getD i d).Pairwise λa b=>g b a=sL:=by
 have e:(aW zs.length).map (λi=>zs.getD i d)=zs:=by
  refine List.ext_getElem (by simp) λi a b=>?_
  have hb:i<zs.length:=by simpa using b
  simp [hb]
 refine⟨(h1.map (λi=>zs.getD i d)).trans (by rw[e]),?_⟩
 rw[List.pairwise_map,List.pairwise_iff_getElem]
 intro i j hi hj hij
 have hs:=h1.size
 have hi':i<p.size:=by simpa using hi
 have hj':j<p.size:=by simpa using hj
 have q:=h2 i j hij (by lia)
 have ei:pg p i=p.toList[i]:=by simp [pg,fk,hi']
 have ej:pg p j=p.toList[j]:=by simp [pg,fk,hj']
 rw[ei,ej] at q
 exact q
end L3
namespace L3
section
variable{X:Cx}{sM:List (oO × pE)}{σ:L2.St}{H:Hp}{s:oQ}
theorem Inv.fp_of_pin{b:oO}{o:pE}(I:Inv X (sM ++ [(b,o)]) σ H s)(hs:X.s₀.heap.objs.size<=b)(hn:∀p ∈ X.pn ++ sM,p.1≠b):xp X sM H b:=by
 obtain⟨p1,p2,p3,p4,p5⟩:=I.pin (b,o) (aA _ (aA _ (sX.mpr rfl)))
 refine⟨p2,p3,p4,.inr hs,λx c e z=>?_,hn⟩
 obtain⟨v,o1,ho1,hd1⟩:=I.cell x c e
 subst z
 rw[p1] at ho1
 cases ho1
 exact p5 v hd1
theorem Inv.at_pin{b:oO}{o:pE}(I:Inv X (sM ++ [(b,o)]) σ H s):s.heap.get? b=sI o:=(I.pin (b,o) (aA _ (aA _ (sX.mpr rfl)))).1
theorem xR{c:String}{xs:Array oP}{n:Nat}:∀v,(pj c xs n).data≠.cell v:=λv z=>by cases z
theorem Q4{D kS:oO}{e e1:Nat}{st:SortSt}{ks out:List oP}{A:oX}{E:oP->oQ->Prop}{P:PySem.Fin->oQ->Prop}(I:Inv X ((sM ++ [(D,pj "list" #[] e1)]) ++ [(kS,pj "list" (be ks) e)]) σ H s)
  (hD:X.s₀.heap.objs.size<=D) (hK:X.s₀.heap.objs.size<=kS) (nD:∀p ∈ X.pn ++ sM,p.1≠D) (nK:∀p ∈ X.pn ++ (sM ++ [(D,pj "list" #[] e1)]),p.1≠kS) (hkz:ks.length<64)
  (hout:(arrOf st).map (·.2)=be out) (hoz:out.length<64) (hf:failedOf st=sJ) (h:∀s' c,Inv X (sM ++ [(D,pj "list" (be out) c)]) σ H s'->P (.done (.ret .none)) s') :
  oR (model X.prog X.w) A (ksk_tail D sL e1 (.ref kS) st) P E s:=by
 have pk:=Inv.at_pin I
 have s1:=Heap.SameBut.update s.heap kS (Obj.mapSeq λ_=>(#[]:Array oP))
 obtain⟨ck,hck⟩:∃ck,(s.heap.update kS (Obj.mapSeq λ_=>(#[]:Array oP))).get? kS=sI (pj "list" #[] ck):=⟨_,get?_update_seq pk λ_=>#[]⟩
 have I2:=(Inv.repin I hK nK s1 hck xR).unpinned
 have pd:=Inv.at_pin I2
 have s2:=Heap.SameBut.update (s.heap.update kS (Obj.mapSeq λ_=>(#[]:Array oP))) D (Obj.mapSeq λ_=>be out)
 obtain⟨c2,hc2⟩:∃c2,((s.heap.update kS (Obj.mapSeq λ_=>(#[]:Array oP))).update D (Obj.mapSeq λ_=>be out)).get? D=sI (pj "list" (be out) c2):=⟨_,get?_update_seq pd λ_=>be out⟩
 have I3:=Inv.repin I2 hD nD s2 hc2 xR
 unfold ksk_tail
 (try dsimp only)
 rw[hout]
 refine oG (listUpdate_at pk rfl ?_ (by rw[al,pB];lia) (aI _))
 refine oG (pN ?_)
 refine oG (seqEpoch_at pd rfl ?_)
 refine oG (listUpdate_at pd rfl ?_ (aI _) (by simp only[bF,if_false];rw[al,pB];lia))
 rw[hf]
 simp only[bne_self_eq_false,bF,if_false]
 exact oH (h _ c2 I3)
theorem zcc{α:Type}{F:KeyFam α}(FO:F.Ok){D kS:oO}{e e1:Nat}{ks its:List oP}{sP xs:List V}{rs:List α}{A:oX}{E:oP->oQ->Prop}{P:PySem.Fin->oQ->Prop}(hu:A.units+50<cLine)
  (I:Inv X ((sM ++ [(D,pj "list" #[] e1)]) ++ [(kS,pj "list" (be ks) e)]) σ H s)
  (hD:X.s₀.heap.objs.size<=D) (hK:X.s₀.heap.objs.size<=kS) (nD:∀p ∈ X.pn ++ sM,p.1≠D) (nK:∀p ∈ X.pn ++ (sM ++ [(D,pj "list" #[] e1)]),p.1≠kS)
  (rk:Vals sP ks) (rv:Vals xs its) (hl:ks.length=its.length) (hz:its.length<64) (hR:Iss X.K H (rs.map λa=>.tup (F.dec a)) sP)
  (h:∀s' (ys:List (α × V)) (out:List oP) c,ys.Perm (rs.zip xs)->ys.Pairwise (λp q=>F.lt q.1 p.1=sL)->Vals (ys.map (·.2)) out->out.length<64->Inv X (sM ++ [(D,pj "list" (be out) c)]) σ H s'->P (.done (.ret .none)) s') :
  oR (model X.prog X.w) A (ksk_end D sL its.toArray e1 (.ref kS) (be ks)) P E s:=by
 have L1:=hR.len
 have L2:=rk.length
 have L3:=rv.length
 rw[ae] at L1
 have lz:(rs.zip xs).length=its.length:=by rw[List.length_zip];lia
 unfold ksk_end
 simp only[bF,if_false]
 by_cases h2:its.toArray.size<2
 ·rw[if_pos h2,if_pos h2]
  refine oG (oH ?_)
  rw[StateT.run_pure]
  refine oG (oH ?_)
  (try dsimp only)
  refine Q4 (out:=its) I hD hK nD nK (by lia) ?_ hz rfl λs' c I'=>h s' (rs.zip xs) its c (List.Perm.refl _) ?_ ?_ hz I'
  ·show ((be ks).zip its.toArray).map (·.2)=_
   apply Array.toList_inj.mp
   rw[Array.toList_map,ksk_zip]
   exact List.map_snd_zip (by simp;lia)
  ·rw[al] at h2
   match rs.zip xs,lz with
   | [],_=>exact List.Pairwise.nil
   | [a],_=>exact eM _ _
   | _::_::_,lz=>exact absurd lz (by simp only[aN];lia)
  ·rw[List.map_snd_zip (by lia)]
   exact rv
 ·rw[if_neg h2,if_neg h2]
  rw[al] at h2
  obtain⟨fs,t1,t2,t3⟩:=Jh FO I (M:=model X.prog X.w) rs sP ks hR rk
  refine oG (PySem.W.kat_kind t1 (by lia) t3 (by simp) ?_)
  have hfst:((Value.type (if F.fst=sK then "int" else "tuple"):oP) != Value.type "tuple")=F.fst:=by
   cases hF:F.fst with
   | true=>rfl
   | false=>rfl
  rw[hfst]
  have W:Wk (λi j=>F.lt (rs.getD i F.d0) (rs.getD j F.d0)):=⟨λa b=>FO.w.asym _ _,λa b c=>FO.w.ntr _ _ _⟩
  have ok:=JZ (n:=its.length) W (by lia)
  have lt_eq:(λi j=>F.lt (rs.getD i F.d0) (rs.getD j F.d0))=(λi j=>(λ(p q:α × V)=>F.lt p.1 q.1) ((rs.zip xs).getD i (F.d0,.non)) ((rs.zip xs).getD j (F.d0,.non))):=by
   have one:∀i,((rs.zip xs).getD i (F.d0,V.non)).1=rs.getD i F.d0:=λi=>by
    by_cases hi:i<its.length
    ·have a1:i<rs.length:=by lia
     have a2:i<xs.length:=by lia
     rw[af,af,aj (by lia),aj a1]
     simp
    ·rw[af,af,bC (by lia),bC (by lia)]
     rfl
   funext i j
   simp only[one]
  have wp:=Kok.wp (n:=its.length) (cmp:=fR X.prog X.w A (tuples' F.fst) ks) (I:=λs'=>Inv X ((sM ++ [(D,pj "list" #[] e1)]) ++ [(kS,pj "list" (be ks) e)]) σ H s')
   (R:=λp s'=>(Rg its.length p/\Up (λi j=>F.lt (rs.getD i F.d0) (rs.getD j F.d0)) p its.length)/\Inv X ((sM ++ [(D,pj "list" #[] e1)]) ++ [(kS,pj "list" (be ks) e)]) σ H s')
   (λi j C s' hi hj I' hC=>?_) (λp s' hp I'=>⟨hp,I'⟩) _ s I ok
  ·have run:=PySem.W.kat_run (E:=E) (vs:=its) (ks:=ks) (Q:=λst' s'=>∃p:Array Nat,p.size=its.length/\arrOf st'=p.map (PySem.W.kas_item (ks.toArray.zip its.toArray))/\failedOf st'=sJ/\_) hl (by lia) hz (λp' st' s' a1 a2 a3 a4=>⟨p',a1,a2,a3,a4⟩) wp
   refine oG (pY run ?_ λ_ _ e=>e)
   rintro⟨⟨⟩,st'⟩ s' ⟨p,hp,har,hf,⟨hR1,hU⟩,I'⟩
   (try dsimp only)
   have hout:=PySem.W.kat_snds (ks:=ks) (vs:=its) hl har
   have hR2:Rg (rs.zip xs).length p:=by rw[lz];exact hR1
   rw[lt_eq,<- lz] at hU
   obtain⟨g1,g2⟩:=V6 (g:=λ(p q:α × V)=>F.lt p.1 q.1) hR2 hU
   have olen:(p.toList.map λi=>its.getD i Value.none).length=its.length:=by rw[ae,dW,hp]
   refine Q4 (out:=p.toList.map λi=>its.getD i Value.none) I' hD hK nD nK (by lia) hout (by lia) hf λs2 c I2=>h s2 _ _ c g1 g2 ?_ (by lia) I2
   rw[dN]
   have all:∀(js:List Nat),(∀j ∈ js,j<its.length)->Vals (js.map ((λx:α × V=>x.2) ∘ λi=>(rs.zip xs).getD i (F.d0,.non))) (js.map λi=>its.getD i Value.none):=by
    intro js
    induction js with
    | nil=>intro _;exact .nil
    | cons j js ih =>
     intro hj
     refine .cons ?_ (ih λi hi=>hj i (ao _ hi))
     have hjl:=hj j aB
     have a1:j<xs.length:=by lia
     obtain⟨u,hu1,ru⟩:=xI rv (j:=j) (x:=xs[j]) (aj a1)
     have e1:((rs.zip xs).getD j (F.d0,V.non)).2=xs[j]:=by
      rw[af,aj (by lia)]
      simp
     have e2:its.getD j Value.none=u:=by rw[af,hu1];rfl
     show RelV ((rs.zip xs).getD j (F.d0,V.non)).2 (its.getD j Value.none)
     rw[e1,e2]
     exact ru
   exact all p.toList λj hj=>sZ.mp (hR1.mem_iff.mp hj)
  ·have a1:i<rs.length:=by lia
   have a2:j<rs.length:=by lia
   have gi:(rs.map λa=>_root_.L3.D.tup (F.dec a))[i]? = sI (.tup (F.dec rs[i])):=by rw[aG,aj a1];rfl
   have gj:(rs.map λa=>_root_.L3.D.tup (F.dec a))[j]? = sI (.tup (F.dec rs[j])):=by rw[aG,aj a2];rfl
   obtain⟨x,hx,ix⟩:=hR.at gi
   obtain⟨y,hy,iy⟩:=hR.at gj
   obtain⟨u,hu1,ru⟩:=xI rk hx
   obtain⟨v,hv1,rv1⟩:=xI rk hy
   have e1:ks.getD i Value.none=u:=by rw[af,hu1];rfl
   have e2:ks.getD j Value.none=v:=by rw[af,hv1];rfl
   have e3:rs.getD i F.d0=rs[i]:=by rw[af,aj a1];rfl
   have e4:rs.getD j F.d0=rs[j]:=by rw[af,aj a2];rfl
   unfold fR
   rw[e1,e2]
   refine Ju I' hu ix iy ru rv1 (FO.ok _ _) (FO.dp _) (λhb=>?_) ?_
   ·obtain⟨d,r,ed,hd⟩:=FO.sh rs[i]
    obtain⟨d',r',ed',hd'⟩:=FO.sh rs[j]
    rcases hd with ⟨_,n,rfl⟩ | ⟨z,_⟩
    ·rcases hd' with ⟨_,n',rfl⟩ | ⟨z,_⟩
     ·exact⟨⟨n,r,ed⟩,n',r',ed'⟩
     ·rw[hb] at z;cases z
    ·rw[hb] at z;cases z
   ·rw[FO.eq,<- e3,<- e4]
    exact hC s' I'
end
end L3
namespace L3
def um(kc:V->Hp->VK->Prop):List V->List V->Hp->(List V->Hp->Prop)->Prop
 | [],sP,H,Q=>Q sP H
 | x::xs,sP,H,Q=>kc x H (λk H'=>um kc xs (sP ++ [k]) H' Q)
section
variable{X:Cx}{sM:List (oO × pE)}{σ:L2.St}{H:Hp}{s:oQ}
theorem KS{α:Type}{F:KeyFam α}(FO:F.Ok){k:Nat}{q:oO}{kc:V->Hp->VK->Prop}(hr:Room (k+2) X.A)
  (hkc:∀(pins':List (oO × pE)) (s:oQ) (H:Hp) (x:V) (u:oP) (Q:VK),Inv X pins' σ H s->RelV x u->kc x H Q->oR (model X.prog X.w) X.A.in1.in1 (call (.ref q) [u]) (EP X pins' σ Q) (λ_ _=>False) s)
  {D kS:oO} {e1:Nat} {its:List oP} {xs:List V} {E:oP->oQ->Prop} {P:PySem.Fin->oQ->Prop} {Q:VK}
  (I:Inv X ((sM ++ [(D,pj "list" #[] e1)]) ++ [(kS,pj "list" #[] 0)]) σ H s)
  (hD:X.s₀.heap.objs.size<=D) (hK:X.s₀.heap.objs.size<=kS) (nD:∀p ∈ X.pn ++ sM,p.1≠D) (nK:∀p ∈ X.pn ++ (sM ++ [(D,pj "list" #[] e1)]),p.1≠kS)
  (rv:Vals xs its) (hz:its.length<64)
  (ht:um kc xs [] H (XR X.K F xs Q))
  (hP:∀s',EP X sM σ Q (.ref D) s'->P (.done (.ret .none)) s') :
  oR (model X.prog X.w) X.A.in1.in1 (ksk_rest D (.ref q) sL its.toArray e1 (.ref kS)) P E s:=by
 unfold ksk_rest
 refine oG (rK ?_)
 rw[List.forIn_toArray]
 refine oG (ksk_fold (λj s'=>∃sP ks e H',Inv X ((sM ++ [(D,pj "list" #[] e1)]) ++ [(kS,pj "list" (be ks) e)]) σ H' s'/\Vals sP ks/\ks.length=j/\um kc (xs.drop j) sP H' (XR X.K F xs Q))
  its 0 s ⟨[],[],0,H,I,.nil,rfl,ht⟩ (λj x s1 hx hJ=>?_) λs1 hJ=>?_)
 ·obtain⟨sP,ks,e,H1,I1,rk,hkl,tk⟩:=hJ
  rw[dO] at hkl tk
  have hjl:j<its.length:=(sQ.mp hx).1
  have L3:=rv.length
  obtain⟨u,hu,ru⟩:=xI rv (j:=j) (x:=xs[j]) (aj (by lia))
  rw[hx] at hu
  cases hu
  rw[aV (by lia)] at tk
  refine oG (rm (pY (hkc _ _ _ _ _ _ I1 ru tk) (λkv s2 hk=>?_) λ_ _ z=>z.elim))
  obtain⟨v,H2,I2,rv2,tk2⟩:=hk
  have pk:=Inv.at_pin I2
  have sb:=Heap.SameBut.update s2.heap kS (Obj.mapSeq (·.push kv))
  have ea:(be ks).push kv=be (ks ++ [kv]):=by simp
  obtain⟨c2,hc2⟩:∃c2,(s2.heap.update kS (Obj.mapSeq (·.push kv))).get? kS=sI (pj "list" (be (ks ++ [kv])) c2):=⟨_,by rw[<- ea];exact get?_update_seq pk (·.push kv)⟩
  have I3:=Inv.repin I2 hK nK sb hc2 xR
  (try dsimp only)
  refine oG (listUpdate_at pk rfl ?_ (by rw[al,pB];lia) (by rw[Array.size_push,al,pB];lia))
  refine oH ⟨rfl,sP ++ [v],ks ++ [kv],c2,H2,I3,rk.append (.cons rv2 .nil),by rw[ak,bR,hkl];lia,?_⟩
  rw[dO]
  exact tk2
 ·obtain⟨sP,ks,e,H1,I1,rk,hkl,tk⟩:=hJ
  rw[dO] at hkl tk
  have L3:=rv.length
  rw[<- L3,dI] at tk
  obtain⟨rs,hR,hq⟩:=tk
  (try dsimp only)
  refine oG (listItems_at (Inv.at_pin I1) rfl ?_)
  refine zcc FO (by have:=hr.in1.in1.un;lia) I1 hD hK nD nK rk rv hkl hz hR λs' ys out c p1 p2 p3 p4 I'=>hP s' ?_
  have fp:=Inv.fp_of_pin I' hD nD
  refine⟨.ref D,_,Inv.track I'.unpinned (a:=D) (o:=.lst (ys.map (·.2))) fp ⟨?_,out,c,p3,Inv.at_pin I'⟩,rfl,hq ys p1 p2 D fp.1⟩
  rw[p3.length,pB]
  lia
theorem Uk{α:Type}{F:KeyFam α}(FO:F.Ok){k:Nat}{q l:oO}{xs:List V}{kc:V->Hp->VK->Prop}{Q:VK}(hr:Room (k+2) X.A)
  (hkc:∀(pins':List (oO × pE)) (s:oQ) (H:Hp) (x:V) (u:oP) (Q:VK),Inv X pins' σ H s->RelV x u->kc x H Q->oR (model X.prog X.w) X.A.in1.in1 (call (.ref q) [u]) (EP X pins' σ Q) (λ_ _=>False) s)
  (I:Inv X sM σ H s) (hS:SqL X.K H l xs) (hz:xs.length<64) (ht:um kc xs [] H (XR X.K F xs Q)) :
  oR (model X.prog X.w) X.A (call (.builtin "sorted") [.ref l] [(bL "key",.ref q)]) (EP X sM σ Q) X.xe s:=by
 obtain⟨its,rv,pl,_⟩:=I.list hS
 have hlen:=rv.length
 refine call_function_entry_kw kind_sorted plain_sorted entry_sorted (ksk_s1 _ _) ?_
 unfold Builtin.«sorted»
 refine oG (m:=checkCount "sorted" 1 1 _) (oH ?_)
 refine oG (collect_list pl.isList ?_ (by rw[pB];lia))
 refine oG (rZ ?_ (by rw[pB];lia))
 generalize hh1:((s.heap.push (pj "list" #[] 0)).update s.heap.objs.size (Obj.mapSeq (· ++ its.toArray)))=h1
 have sz1:h1.objs.size=s.heap.objs.size+1:=by rw[<- hh1,dH,size_push']
 have kp1:∀b o,s.heap.get? b=sI o->h1.get? b=sI o:=λb o e=>by
  have hlt:b<s.heap.objs.size:=aq e
  rw[<- hh1,Heap.get?_update_ne _ _ _ _ (aw hlt),Heap.get?_push_ne _ _ _ (aw hlt)]
  exact e
 have hoL:(h1.push (pj "list" its.toArray 0)).get? h1.objs.size=sI (pj "list" its.toArray 0):=aD _ rfl
 show oR _ _ _ _ _ { s with heap:=h1.push (pj "list" its.toArray 0) }
 refine oG (pD (wpAny_call_entry_kw slot_list_sort ⟨_,hoL,rfl⟩ entry_list_sort ?body (ksk_l1 _ _)))
 show oR _ _ (Builtin.«list.sort» ⟨[.ref h1.objs.size],[(bL "key",.ref q)]⟩) _ _ _
 rw[ksk_t1]
 generalize hh2:h1.push (pj "list" its.toArray 0)=h2 at hoL
 have sz2:h2.objs.size=h1.objs.size+1:=by rw[<- hh2,size_push']
 have kp2:∀b o,s.heap.get? b=sI o->h2.get? b=sI o:=λb o e=>by rw[<- hh2];exact aa _ (kp1 b o e)
 generalize hDD:h1.objs.size=D at hoL
 obtain⟨e1,ho1⟩:∃e1,(h2.update D (Obj.mapSeq λ_=>(#[]:Array oP))).get? D=sI (pj "list" #[] e1):=⟨_,get?_update_seq hoL λ_=>#[]⟩
 have hDs:s.heap.objs.size<=D:=by rw[<- hDD,sz1];exact cP _
 have sb:=Heap.SameBut.update h2 D (Obj.mapSeq λ_=>(#[]:Array oP))
 unfold ksk_tree
 refine oG (listItems_at hoL rfl ?_)
 refine oG (listUpdate_at hoL rfl ?_ (by rw[al,pB];lia) (aI _))
 refine oG (seqEpoch_at ho1 rfl ?_)
 refine oG (wpAny_newTuple ?_ (by show its.length<=_;rw[pB];lia))
 refine oG (rZ ?_ (aI _))
 refine pD ?_
 generalize hh3:(h2.update D (Obj.mapSeq λ_=>(#[]:Array oP))).push (pj "tuple" its.toArray 0)=h3
 have sz3:h3.objs.size=s.heap.objs.size+3:=by rw[<- hh3,size_push',dH,sz2,sz1]
 have hoK:(h3.push (pj "list" #[] 0)).get? h3.objs.size=sI (pj "list" #[] 0):=aD _ rfl
 have hoD:(h3.push (pj "list" #[] 0)).get? D=sI (pj "list" #[] e1):=aa _ (by rw[<- hh3];exact aa _ ho1)
 have kp3:∀b o,s.heap.get? b=sI o->(h3.push (pj "list" #[] 0)).get? b=sI o:=λb o e=>by
  have hlt:b<s.heap.objs.size:=aq e
  refine aa _ ?_
  rw[<- hh3]
  exact aa _ ((sb.2 b (aw (av hlt hDs))).trans (kp2 b o e))
 have I1:Inv X sM σ H { s with heap:=h3.push (pj "list" #[] 0) }:=I.kept (t':=s.toks) kp3
 have fD:xp X sM H D:=I.fpOk (by lia) (I.hok.fresh (by lia))
 have fK:xp X sM H h3.objs.size:=I.fpOk (by lia) (I.hok.fresh (by lia))
 have I2:=Inv.newpin I1 fD hoD xR
 have nK:∀p ∈ X.pn ++ (sM ++ [(D,pj "list" #[] e1)]),p.1≠h3.objs.size:=λp hp=>by
  rcases sV.mp hp with z | z
  ·exact fK.2.2.2.2.2 p (bj _ z)
  ·rcases sV.mp z with z | z
   ·exact fK.2.2.2.2.2 p (aA _ z)
   ·have e:p=(D,pj "list" #[] e1):=by simpa using z
    subst e
    show D≠_
    lia
 have I3:=Inv.newpin I2 (b:=h3.objs.size) ⟨fK.1,fK.2.1,fK.2.2.1,fK.2.2.2.1,fK.2.2.2.2.1,nK⟩ hoK xR
 have hsz:=I.sz
 have hK0:X.s₀.heap.objs.size<=h3.objs.size:=by lia
 exact KS FO hr hkc I3 (by lia) hK0 fD.2.2.2.2.2 nK rv (by lia) ht λs' hE=>⟨_,rfl,oH ⟨_,rfl,hE⟩⟩
end
end L3
namespace L3
noncomputable def Um(X:Cx)(N:List oV)(s:oQ)(H:Hp)(qual:oV)(scope:pQ)(f:oO)(cd:oP)(cl:List (oV × oO)):Cx where
 prog:=X.prog
 w:=X.w
 K:=X.K
 mg:=X.mg
 base:=X.base
 A:=X.A.in1.in1.deeper (eI qual scope s.heap.objs.size f cd cl)
 N:=N
 s₀:=s
 H₀:=H
 env:=eI qual scope s.heap.objs.size f cd cl
 outer:=X.stack
 stack:=eI qual scope s.heap.objs.size f cd cl::X.stack
 ex:=[]
 calm:=sK
 fn:=λ_=>sL
 pn:=[]
 xe:=λ_ _=>False
structure KL(p y:oV)(scope:pQ):Prop where
 kind:scope.kind=.function
 co:scope.isCoroutine=sL
 gen:scope.isGenerator=sL
 nocell:∀z ∈ scope.names,z.2≠.cell
 par:scope.names.lookup p=sI .local
 fre:scope.names.lookup y=sI .free
 one:∀q ∈ scope.names,q.2=.free->q.1=y
 ne:p≠y
section
variable{X:Cx}{sM:List (oO × pE)}{σ:L2.St}{H:Hp}{s:oQ}{p y name qual:oV}{scope:pQ}{params:rB}{body:oY}{f c' c:oO}{pm ctv cv:oP}{k iy:Nat}{vy x:V}{u:oP}{Q:VK}{t:TE}
theorem JU(S:KL p y scope)(hd:X.A.in1.in1.handled=sJ)(I:Inv X sM σ H s)(hy:X.N[iy]? = sI y)(hσ:σ[iy]? = sI (sI vy))(hvis:X.env.scope.names.lookup y=sI .cell)(hc:X.env.cells.lookup y=sI c)(rx:RelV x u){h₁:oZ}{tk:Nat}
  (hns:h₁.Ns s.heap.objs.size (λz=>[(p,u)].reverse.lookup z)) (hk₁:∀b o,s.heap.get? b=sI o->h₁.get? b=sI o) :
  Inv (Um X [p,y] s H qual scope f cv [(y,c)]) [] [sI x,sI vy] H { s with heap:=h₁,toks:=tk }:=by
 obtain⟨m,hn,hl⟩:=I.loc
 obtain⟨uy,ry,lk⟩:=hl iy y vy hy hσ (.inr (.inl hvis))
 have hcell:s.heap.IsCell c (sI uy):=by
  rcases lk with ⟨z,_⟩ | ⟨_,c2,e2,z⟩
  ·have z':X.env.scope.names.lookup y=sI .local:=z
   rw[hvis] at z'
   cases z'
  ·rw[hc] at e2
   cases e2
   exact z
 have hcell':h₁.IsCell c (sI uy):=by
  obtain⟨o,e,d⟩:=hcell
  exact⟨o,hk₁ _ _ e,d⟩
 have e0:=I.env0
 have noA:∀b:oO,b ∉ (Um X [p,y] s H qual scope f cv [(y,c)]).ex:=λb z=>absurd (show b ∈ ([]:List oO) from z) (by simp)
 have lkc:∀z d,bh z [(y,c)]=sI d->z=y/\d=c:=λz d h=>by
  rw[aX] at h
  by_cases hz:(z == y)=sK
  ·rw[hz] at h
   cases h
   exact⟨by simpa using hz,rfl⟩
  ·rw[show (z == y)=sL by simpa using hz] at h
   cases h
 have lky:bh y [(y,c)]=sI c:=by rw[aX];simp
 refine⟨⟨e0.mod,S.kind,rfl,rfl,am _,λz z' d h1 h2=>?_,λz hz=>?_,λz d h _=>?_,λ_=>hd,Around.frames_deeper e0.frames,.inr ⟨rfl,rfl⟩,λb z=>absurd z (noA b),e0.bs,e0.bsz,λb _ _=>noA b,λb z=>absurd z (noA b),e0.funs,e0.frf⟩,
  rfl,e0.bare,Un.kept hk₁,⟨_,hns,λi z v h1 h2 h3=>?_⟩,λz d h=>?_,e0.hok.fresh (am _),λz d h=>?_,λq hq=>absurd (show q ∈ ([]:List (oO × pE)) from hq) (by simp),e0.hok.kept hk₁,rfl⟩
 ·rw[(lkc _ _ h1).1,(lkc _ _ h2).1]
 ·have hz':scope.names.lookup z=sI .cell\/scope.names.lookup z=sI .free:=hz
  rcases hz' with hz' | hz'
  ·exact absurd rfl (S.nocell _ (bX hz'))
  ·rw[show z=y from S.one _ (bX hz') rfl]
   exact⟨c,lky⟩
 ·exact absurd (show (sL:Bool)=sK from h) (by decide)
 ·match i,h1,h2 with
  | 0,h1,h2 =>
   cases h1
   cases h2
   refine⟨u,rx,.inl ⟨S.par,?_⟩⟩
   show bh p [(p,u)].reverse=sI u
   simp [bh]
  | 1,h1,h2 =>
   cases h1
   cases h2
   exact⟨uy,ry,.inr ⟨.inr S.fre,c,lky,hcell'⟩⟩
  | i+2,h1,h2=>simp at h2
 ·obtain⟨_,rfl⟩:=lkc z d h
  exact⟨_,hcell'⟩
 ·obtain⟨_,rfl⟩:=lkc z d h
  exact I.freeC y _ hc
theorem U4(S:KL p y scope)(hr:Room (k+3) X.A)(hbind:bindArgs (ce name qual params body scope [(y,c)] pm cv ctv) ⟨[u],[]⟩=pure [(p,u)])(I:Inv X sM σ H s)
  (ho:s.heap.get? f=sI { cls:=.type "function",data:=.func (ce name qual params body scope [(y,c)] pm cv ctv) }) (hcd:s.heap.CodeRec cv qual) (hy:X.N[iy]? = sI y) (hσ:σ[iy]? = sI (sI vy)) (hvis:X.env.scope.names.lookup y=sI .cell) (hc:X.env.cells.lookup y=sI c)
  (rx:RelV x u) (hb:PE (Um X [p,y] s H qual scope f cv [(y,c)]) body t) (h:t [sI x,sI vy] H Q) :
  oR (model X.prog X.w) X.A.in1.in1 (call (.ref f) [u]) (EP X sM σ Q) (λ_ _=>False) s:=by
 have hr2:Room (k+1) X.A.in1.in1:=hr.in1.in1
 refine rb (PySem.W.kla_callFunE hr2.depth ho rfl S.co S.gen rfl hcd ?_)
 rw[hbind]
 refine oH (rn S.nocell (λz hz=>?_) (λh₁ hns hsb=>?_) S.kind)
 ·have e:z=(p,u):=by simpa using hz
  subst e
  exact S.par
 have hk₁:∀b o,s.heap.get? b=sI o->h₁.get? b=sI o:=λb o e=>hsb.extBut b o (aw (aq e)) (aa _ e)
 refine⟨I.nolimit.keeps hk₁,?_⟩
 have I1:=JU (qual:=qual) (f:=f) (cv:=cv) (tk:=s.toks+1) S hr2.hd I hy hσ hvis hc rx hns hk₁
 show pM _ _ (.expr body (eI qual scope s.heap.objs.size f cv [(y,c)])) _ _
 refine PySem.W.kla_codeExpr (pY (hb [] _ _ H Q I1 h) (λv s' hv=>?_) λ_ _ z=>False.elim z)
 obtain⟨w',H',J,rw',q⟩:=hv
 exact I.after ⟨w',H',J.os,J.bare,J.base,J.hok,rw',q⟩
end
end L3
namespace L3
noncomputable def cdE(c':oO)(q:oV):HO:=.ext λh=>h.CodeRec (.ref c') q
noncomputable def fnE(f:oO)(o:pE):HO:=.ext λh=>h.get? f=sI o
def TabOk(H:Hp)(P:oO)(pos:pW)(q:oV):Prop :=
 ∃ps:Array oP,H P=sI (.tbl ps)/\sG ps.toList/\(codeAmong pos ps.toList=sJ\/∃c',codeAmong pos ps.toList=sI (.ref c')/\H c'=sI (cdE c' q))
def SamT(P:oO)(H H':Hp):Prop:=∀b o,b≠P->H b=sI o->H' b=sI o
def LamAt(H:Hp)(f:oO)(name qual:oV)(params:rB)(body:oY)(scope:pQ)(cl:List (oV × oO)):Prop :=
 ∃(c':oO) (pm ctv:oP),H c'=sI (cdE c' qual)/\H f=sI (fnE f { cls:=.type "function",data:=.func (ce name qual params body scope cl pm (.ref c') ctv) })
theorem zaw{P:oU}{w:oW}{H:Hp}{h:oZ}{c':oO}{q:oV}(x:h.CodeRec (.ref c') q):ObjOk P w H h c' (cdE c' q):=by
 refine⟨x,?_,λh1 h2 a k=>?_⟩
 ·obtain⟨c,o,vs,t,e,g,_⟩:=x
  cases e
  exact⟨o,g⟩
 ·obtain⟨c,o,vs,t,e,g,r⟩:=a
  cases e
  exact⟨_,o,vs,t,rfl,k o g,r⟩
theorem Q6{P:oU}{w:oW}{H:Hp}{h:oZ}{f:oO}{o:pE}(x:h.get? f=sI o):ObjOk P w H h f (fnE f o) :=
 ⟨x,⟨o,x⟩,λh1 h2 a k=>k o a⟩
section
variable{X:Cx}{sM:List (oO × pE)}{σ:L2.St}{H:Hp}{s:oQ}
theorem Inv.grow{P c' f:oO}{ps more:Array oP}{o:pE}{q:oV}{h':oZ}{tk:Nat}(I:Inv X sM σ H s)(hP:H P=sI (.tbl ps))(hk:∀b u,b≠P->s.heap.get? b=sI u->h'.get? b=sI u)(hP':h'.get? P=sI { cls:=.none,data:=.fields (ps ++ more) })
  (hc:s.heap.objs.size<=c') (hf:s.heap.objs.size<=f) (hcf:c'≠f) (hcr:h'.CodeRec (.ref c') q) (hfo:h'.get? f=sI o) :
  Inv X sM σ (upd (upd (upd H P (.tbl (ps ++ more))) c' (cdE c' q)) f (fnE f o)) { s with heap:=h',toks:=tk }:=by
 have Pl:P<s.heap.objs.size:=I.hok.lt hP
 have hPc:P≠c':=aw (av Pl hc)
 have hPf:P≠f:=aw (av Pl hf)
 have old:∀b,b<s.heap.objs.size->b≠P->(upd (upd (upd H P (.tbl (ps ++ more))) c' (cdE c' q)) f (fnE f o)) b=H b:=λb hb hbP=>by
  rw[zo (aw (av hb hf)),zo (aw (av hb hc)),zo hbP]
 have atP:(upd (upd (upd H P (.tbl (ps ++ more))) c' (cdE c' q)) f (fnE f o)) P=sI (.tbl (ps ++ more)):=by
  rw[zo hPf,zo hPc,zc]
 have neP:∀b,H b=sJ->b≠P:=λb e z=>by rw[z,hP] at e;cases e
 refine I.un ⟨λb u e n _ _=>hk b u (neP b n) e,λb u e n _ _=>⟨u.slots,hk b u (neP b n) e⟩,λb u e n _=>?_,λb u e _=>?_,λb xs e=>?_,λb ob u e=>?_,λb qs e=>?_⟩ λb u e=>?_
 ·rw[old b (aq e) (neP b n)]
  exact n
 ·by_cases hb:b=P
  ·subst hb;exact⟨_,hP'⟩
  ·exact⟨u,hk b u hb e⟩
 ·rw[old b (I.hok.lt e) (λz=>by rw[z,hP] at e;cases e)]
  exact e
 ·rw[old b (I.hok.lt e) (λz=>by rw[z,hP] at e;cases e)]
  exact e
 ·by_cases hb:b=P
  ·subst hb
   rw[hP] at e
   cases e
   exact⟨more,atP⟩
  ·rw[old b (I.hok.lt e) hb]
   exact⟨#[],by rw[e];simp⟩
 ·by_cases hbf:b=f
  ·subst hbf
   rw[zc] at e
   cases e
   exact Q6 hfo
  ·rw[zo hbf] at e
   by_cases hbc:b=c'
   ·subst hbc
    rw[zc] at e
    cases e
    exact zaw hcr
   ·rw[zo hbc] at e
    by_cases hbP:b=P
    ·subst hbP
     rw[zc] at e
     cases e
     exact hP'
    ·rw[zo hbP] at e
     refine (I.hok b u e).stay (λd v hd g=>hk d v ?_ g) (λd g=>?_) λd xs g=>?_
     ·rcases hd with z | z
      ·rw[z];exact hbP
      ·intro z';rw[z',hP] at z;cases z
     ·rw[old d (I.hok.lt g) (λz=>by rw[z,hP] at g;cases g)]
      exact g
     ·rw[old d (I.hok.lt g) (λz=>by rw[z,hP] at g;cases g)]
      exact g
end
end L3
namespace L3
theorem ux{a b:Int}{v:oP}:∀(l:List oP),sG l->sG (l ++ [rawInt a,rawInt b,v])
 | [],_=>trivial
 | .int _ _::.int _ _::_::rest,h=>ux rest h
theorem Zo{h h':oZ}{mg:oV->Option oP}{T:oO}(x:h.BuiltinsAt mg T)(k:∀b o,h.get? b=sI o->h'.get? b=sI o):h'.BuiltinsAt mg T:=by
 obtain⟨bm,o,b1,b2,b3,b4,b5,b6⟩:=x
 exact⟨bm,o,b1,b2,b3,b4,k _ _ b5,b6⟩
section
variable{X:Cx}{sM:List (oO × pE)}{σ:L2.St}{H:Hp}{s:oQ}{cc P c:oO}{y:oV}{params:rB}{body:oY}{scope:pQ}{pos:pW}{Q:VK}
theorem QN(hcode:X.env.code=.ref cc)(hC:PySem.W.CodeHd X.base cc P)(hB:X.base.BuiltinsAt X.mg P)(hgP:oJ≠P)(hcl:closureFor scope X.env=pure [(y,c)])(hdef:defaultsOf params X.env=([],[]))(I:Inv X sM σ H s)
  (hT:TabOk H P pos (X.env.qual ++ "<lambda>"))
  (h:∀f H',H f=sJ->LamAt H' f "<lambda>" (X.env.qual ++ "<lambda>") params body scope [(y,c)]->TabOk H' P pos (X.env.qual ++ "<lambda>")->SamT P H H'->Q (.ref f) H') :
  oR (model X.prog X.w) X.A (eval (.Lambda params body scope pos) X.env) (EP X sM σ Q) X.xe s:=by
 refine PySem.W.kla_eval hdef ?_
 obtain⟨ps,hP,ht,hh⟩:=hT
 have hPo:s.heap.get? P=sI (PySem.W.tabObj ps):=I.hok _ _ hP
 have hg:=I.mod.glob.keeps I.bk
 have Pl:P<s.heap.objs.size:=I.hok.lt hP
 rcases hh with hn | ⟨c',hit,hc'⟩
 ·refine PySem.W.kla_makeFunction (mg:=X.mg) hcl I.ok.glob hg hcode (hC.keeps I.bk) hPo ht hn hgP (Zo hB I.bk) λc' ctv h' tk hx hge hlt hrec htb=>?_
  have hsz:s.heap.objs.size<=h'.objs.size:=dj (cL hge hlt)
  have I1:=Inv.grow (P:=P) (c':=c') (f:=h'.objs.size) (more:=#[rawInt pos.line,rawInt pos.col,.ref c']) (tk:=tk) (o:={ cls:=.type "function",data:=.func (ce "<lambda>" (X.env.qual ++ "<lambda>") params body scope [(y,c)] ((X.mg "__name__").getD .none) (.ref c') ctv) }) I hP
   (λb u hb e=>aa _ (hx b u hb e)) (aa _ htb) hge hsz (aw hlt) (hrec.push _) (aD _ rfl)
  have hPc:P≠c':=aw (av Pl hge)
  have hPf:P≠h'.objs.size:=aw (av Pl hsz)
  have atc:(upd (upd (upd H P (.tbl (ps ++ #[rawInt pos.line,rawInt pos.col,.ref c']))) c' (cdE c' (X.env.qual ++ "<lambda>"))) h'.objs.size (fnE h'.objs.size { cls:=.type "function",data:=.func (ce "<lambda>" (X.env.qual ++ "<lambda>") params body scope [(y,c)] ((X.mg "__name__").getD .none) (.ref c') ctv) })) c'=sI (cdE c' (X.env.qual ++ "<lambda>")):=by
   rw[zo (aw hlt),zc]
  refine⟨.ref h'.objs.size,_,I1,rfl,h _ _ (I.hok.fresh hsz) ⟨c',_,ctv,atc,zc⟩ ⟨ps ++ #[rawInt pos.line,rawInt pos.col,.ref c'],?_,?_,.inr ⟨c',?_,atc⟩⟩ λb o hb e=>?_⟩
  ·rw[zo hPf,zo hPc,zc]
  ·rw[fu]
   exact ux _ ht
  ·rw[fu]
   exact codeAmong_snoc _ ht hn
  ·have hl:=I.hok.lt e
   rw[zo (aw (av hl hsz)),zo (aw (av hl hge)),zo hb]
   exact e
 ·refine PySem.W.kla_makeFunctionHit (mg:=X.mg) hcl I.ok.glob hg hcode (hC.keeps I.bk) hPo ht hit (Zo hB I.bk) λctv h' tk hk hsz=>?_
  have hfr:H h'.objs.size=sJ:=I.hok.fresh hsz
  have I1:=I.laid (a:=h'.objs.size) (t':=tk) (h':=h'.push { cls:=.type "function",data:=.func (ce "<lambda>" (X.env.qual ++ "<lambda>") params body scope [(y,c)] ((X.mg "__name__").getD .none) (.ref c') ctv) })
   (o:=fnE h'.objs.size { cls:=.type "function",data:=.func (ce "<lambda>" (X.env.qual ++ "<lambda>") params body scope [(y,c)] ((X.mg "__name__").getD .none) (.ref c') ctv) })
   (λb u e=>aa _ (hk b u e)) hsz (Q6 (aD _ rfl))
  have sm:=zd (o:=fnE h'.objs.size { cls:=.type "function",data:=.func (ce "<lambda>" (X.env.qual ++ "<lambda>") params body scope [(y,c)] ((X.mg "__name__").getD .none) (.ref c') ctv) }) hfr
  exact⟨.ref h'.objs.size,_,I1,rfl,h _ _ hfr ⟨c',_,ctv,sm _ _ hc',zc⟩ ⟨ps,sm _ _ hP,ht,.inr ⟨c',hit,sm _ _ hc'⟩⟩ λb o _ e=>sm _ _ e⟩
end
end L3
namespace L3
def zce(R:V->Hp->Prop):List V->Hp->Prop
 | [v],H=>R v H
 | _,_=>False
theorem Wq{R:V->Hp->Prop}:∀{vs:List V} {H:Hp},zce R vs H->∃v,vs=[v]/\R v H
 | [v],_,h=>⟨v,rfl,h⟩
def zda(P:oO)(pos:pW)(q:oV)(LA:Hp->oO->Prop):TE:=λσ H Q=>TabOk H P pos q/\∀f H',H f=sJ->LA H' f->TabOk H' P pos q->SamT P H H'->Q (.ref f) H'
def Jm{α:Type}(K:oN)(F:KeyFam α)(P:oO)(pos:pW)(q:oV)(LA:Hp->oO->Prop)(iy:Nat)(te tb:TE):TE:=λσ H Q=>te σ H λv H1=>TabOk H1 P pos q /\
 ∀f H2,H1 f=sJ->LA H2 f->TabOk H2 P pos q->SamT P H1 H2->∃l xs vy,v=.ref l/\SqL K H2 l xs/\xs.length<64/\σ[iy]? = sI (sI vy)/\um (λx H Q=>LA H f/\tb [sI x,sI vy] H Q) xs [] H2 (XR K F xs Q)
section
variable{X:Cx}{cc P c:oO}{x p y:oV}{params:rB}{body e:oY}{scope:pQ}{lpos kpos pos pp:pW}{k iy:Nat}{te tb:TE}
theorem zaD(hcode:X.env.code=.ref cc)(hC:PySem.W.CodeHd X.base cc P)(hB:X.base.BuiltinsAt X.mg P)(hgP:oJ≠P)(hcl:closureFor scope X.env=pure [(y,c)])(hdef:defaultsOf params X.env=([],[])) :
  PE X (.Lambda params body scope lpos) (zda P lpos (X.env.qual ++ "<lambda>") λH f=>LamAt H f "<lambda>" (X.env.qual ++ "<lambda>") params body scope [(y,c)]):=by
 intro sM s σ H Q I h
 exact QN hcode hC hB hgP hcl hdef I h.1 h.2
theorem Ql{α:Type}{F:KeyFam α}(FO:F.Ok)(S:KL p y scope)(hr:Room (k+3) X.A)(hg:Gl X x)(hm:X.mg x=sJ)(hv:pF x=sI (.builtin "sorted"))(ha:PA X [e] (zJ te xS))
  (hcode:X.env.code=.ref cc) (hC:PySem.W.CodeHd X.base cc P) (hB:X.base.BuiltinsAt X.mg P) (hgP:oJ≠P) (hcl:closureFor scope X.env=pure [(y,c)]) (hdef:defaultsOf params X.env=([],[]))
  (hbind:∀(cv pm ctv u:oP),bindArgs (ce "<lambda>" (X.env.qual ++ "<lambda>") params body scope [(y,c)] pm cv ctv) ⟨[u],[]⟩=pure [(p,u)]) (hy:X.N[iy]? = sI y) (hvis:X.env.scope.names.lookup y=sI .cell) (hc:X.env.cells.lookup y=sI c)
  (hb:∀(s:oQ) (H:Hp) (f:oO) (cv:oP),Room k (Um X [p,y] s H (X.env.qual ++ "<lambda>") scope f cv [(y,c)]).A->PE (Um X [p,y] s H (X.env.qual ++ "<lambda>") scope f cv [(y,c)]) body tb)
  (hn:x≠"__name__":=by decide) (hdb:(x == ("__debug__" : oV))=sL:=by decide)
  (hks:(pG pos (ph [⟨sI "key",.Lambda params body scope lpos,kpos⟩] X.env)).filterMap (·.1)=[bL "key"]:=by rfl)
  (hst:pq pos (oK [e] X.env)=(sL,eval e X.env)::pq pos (oK [] X.env):=by rfl) (hpl:(pq pos (oK [e] X.env)).any (·.1)=sL:=by rfl)
  (hall:(pG pos (ph [⟨sI "key",.Lambda params body scope lpos,kpos⟩] X.env)).all (·.1.isSome)=sK:=by rfl) (hkw:(pG pos (ph [⟨sI "key",.Lambda params body scope lpos,kpos⟩] X.env)).any (·.1.isNone)=sL:=by rfl) :
  PE X (.Call (.Name x pp) [e] [⟨sI "key",.Lambda params body scope lpos,kpos⟩] pos) (Jm X.K F P lpos (X.env.qual ++ "<lambda>") (λH f=>LamAt H f "<lambda>" (X.env.qual ++ "<lambda>") params body scope [(y,c)]) iy te tb):=by
 intro sM s σ H Q I h
 have hlam:PE X (.Lambda params body scope lpos) (zda P lpos (X.env.qual ++ "<lambda>") λH f=>LamAt H f "<lambda>" (X.env.qual ++ "<lambda>") params body scope [(y,c)]):=zaD hcode hC hB hgP hcl hdef
 refine pA (vc I hg hm hv ?_ hn hdb)
 have h':(zJ te xS) σ H (zce λv H1=>TabOk H1 P lpos (X.env.qual ++ "<lambda>")/\∀f H2,H1 f=sJ->LamAt H2 f "<lambda>" (X.env.qual ++ "<lambda>") params body scope [(y,c)]->TabOk H2 P lpos (X.env.qual ++ "<lambda>")->SamT P H1 H2 ->
   ∃l xs vy,v=.ref l/\SqL X.K H2 l xs/\xs.length<64/\σ[iy]? = sI (sI vy)/\um (λx H Q=>LamAt H f "<lambda>" (X.env.qual ++ "<lambda>") params body scope [(y,c)]/\tb [sI x,sI vy] H Q) xs [] H2 (XR X.K F xs Q)):=h
 refine callWith_kw (thn (ha pos sM s σ H _ I h') λus s1 ⟨vs,H1,I1,r1,q1⟩=>?_) hst hpl hall hkw
 obtain⟨v,rfl,hT,q1⟩:=Wq q1
 obtain⟨u,rfl,ru⟩:=wI r1
 refine thn ((Wn hlam Jq:PK X [⟨sI "key",.Lambda params body scope lpos,kpos⟩] _) pos sM s1 σ H1 (zce λkv H2=>∃f,kv=.ref f/\LamAt H2 f "<lambda>" (X.env.qual ++ "<lambda>") params body scope [(y,c)] /\
   ∃l xs vy,v=.ref l/\SqL X.K H2 l xs/\xs.length<64/\σ[iy]? = sI (sI vy)/\um (λx H Q=>LamAt H f "<lambda>" (X.env.qual ++ "<lambda>") params body scope [(y,c)]/\tb [sI x,sI vy] H Q) xs [] H2 (XR X.K F xs Q)) I1 ⟨hT,λf H2 a1 a2 a3 a4=>⟨f,rfl,a2,q1 f H2 a1 a2 a3 a4⟩⟩) λws s2 ⟨zs,H2,I2,r2,q2⟩=>?_
 obtain⟨kv,rfl,f,rfl,hLA,l,xs,vy,rfl,hS,hz,hσ,hk⟩:=Wq q2
 obtain⟨w',rfl,rw'⟩:=wI r2
 cases rw'
 cases ru
 rw[hks]
 show oR _ _ (call (.builtin "sorted") [.ref l] [(bL "key",.ref f)]) _ _ _
 refine Uk FO (k:=k+1) hr (λpins' s3 H3 x3 u3 Q3 I3 r3 h3=>?_) I2 hS hz hk
 obtain⟨⟨c',pm,ctv,e1,e2⟩,h4⟩:=h3
 have hcd:s3.heap.CodeRec (.ref c') (X.env.qual ++ "<lambda>"):=(I3.hok _ _ e1).1
 have ho:=(I3.hok _ _ e2).1
 exact U4 (k:=k) S hr (hbind _ _ _ _) I3 ho hcd hy hσ hvis hc r3 (hb s3 H3 f (.ref c') (hr.in1.in1.deeper _)) h4
end
end L3
namespace L3
section
variable{K:oN}
theorem SamT.of{T:oO}{H H':Hp}(s:Same H H'):SamT T H H':=λb o _ e=>s b o e
theorem SamT.trans{T:oO}{H H' H'':Hp}(s:SamT T H H')(s':SamT T H' H''):SamT T H H'':=λb o n e=>s' b o n (s b o n e)
theorem SamT.at{T b:oO}{H H':Hp}{ps:Array oP}{o:HO}(s:SamT T H H')(hT:H T=sI (.tbl ps))(e:H b=sI o)(ho:∀qs,o≠.tbl qs):H' b=sI o:=s b o (λz=>by rw[z,hT] at e;cases e;exact ho _ rfl) e
theorem SamT.free{T b:oO}{H H':Hp}{o:HO}(s:SamT T H H')(hT:H' T=sI o)(h:H' b=sJ):H b=sJ:=by
 cases e:H b with
 | none=>rfl
 | some u =>
  by_cases hb:b=T
  ·rw[hb,hT] at h;cases h
  ·rw[s b u hb e] at h;cases h
theorem SamT.seqL{T a:oO}{H H':Hp}{ps:Array oP}{xs:List V}(s:SamT T H H')(hT:H T=sI (.tbl ps))(h:SqL K H a xs):SqL K H' a xs:=by
 rcases h with (h | ⟨o,h⟩) | h
 ·exact .inl (.inl (s.at hT h λ_ z=>by cases z))
 ·exact .inl (.inr ⟨o,s.at hT h λ_ z=>by cases z⟩)
 ·exact .inr h
theorem SamT.seqT{T a:oO}{H H':Hp}{ps:Array oP}{xs:List V}(s:SamT T H H')(hT:H T=sI (.tbl ps))(h:SqT K H a xs):SqT K H' a xs:=by
 rcases h with (h | ⟨o,h⟩) | h
 ·exact .inl (.inl (s.at hT h λ_ z=>by cases z))
 ·exact .inl (.inr ⟨o,s.at hT h λ_ z=>by cases z⟩)
 ·exact .inr h
mutual
theorem Is.samT{T:oO}{H H':Hp}{ps:Array oP}(s:SamT T H H')(hT:H T=sI (.tbl ps)):∀(d:D) (v:V),Is K H d v->Is K H' d v
 | .non,v,h=>by simp only[Is] at h ⊢;exact h
 | .bl b,v,h=>by simp only[Is] at h ⊢;exact h
 | .int b,v,h=>by simp only[Is] at h ⊢;exact h
 | .str b,v,h=>by simp only[Is] at h ⊢;exact h
 | .lst l,v,h=>by
  simp only[Is] at h ⊢
  obtain⟨a,xs,e1,e2,e3⟩:=h
  exact⟨a,xs,e1,s.seqL hT e2,Iss.samT s hT l xs e3⟩
 | .tup l,v,h=>by
  simp only[Is] at h ⊢
  obtain⟨a,xs,e1,e2,e3⟩:=h
  exact⟨a,xs,e1,s.seqT hT e2,Iss.samT s hT l xs e3⟩
theorem Iss.samT{T:oO}{H H':Hp}{ps:Array oP}(s:SamT T H H')(hT:H T=sI (.tbl ps)):∀(l:List D) (vs:List V),Iss K H l vs->Iss K H' l vs
 | [],vs,h=>by simp only[Iss] at h ⊢;exact h
 | d::l,vs,h=>by
  simp only[Iss] at h ⊢
  obtain⟨v,r,e1,e2,e3⟩:=h
  exact⟨v,r,e1,Is.samT s hT d v e2,Iss.samT s hT l r e3⟩
end
theorem LsA.samT{T a:oO}{H H':Hp}{ps:Array oP}{ds:List D}(h:LsA K H a ds)(s:SamT T H H')(hT:H T=sI (.tbl ps)):LsA K H' a ds:=by
 obtain⟨xs,h1,h2⟩:=h
 exact⟨xs,s.at hT h1 (λ_ z=>by cases z),Iss.samT s hT _ _ h2⟩
theorem TabOk.same{H H':Hp}{T:oO}{pos:pW}{q:oV}(h:TabOk H T pos q)(s:Same H H'):TabOk H' T pos q:=by
 obtain⟨ps,h1,h2,h3⟩:=h
 refine⟨ps,s _ _ h1,h2,?_⟩
 rcases h3 with h3 | ⟨c',h4,h5⟩
 ·exact .inl h3
 ·exact .inr ⟨c',h4,s _ _ h5⟩
theorem LamAt.same{H H':Hp}{f:oO}{name qual:oV}{params:rB}{body:oY}{scope:pQ}{cl:List (oV × oO)}(h:LamAt H f name qual params body scope cl)(s:Same H H'):LamAt H' f name qual params body scope cl:=by
 obtain⟨c',pm,ctv,h1,h2⟩:=h
 exact⟨c',pm,ctv,s _ _ h1,s _ _ h2⟩
end
end L3
namespace L3
section
variable{P:oU}{w:oW}{K:oN}{mg mb:oV->Option oP}{CX:CXT}{k:Nat}{fa a T cc:oO}{fd:oS}{x:oV}{sp:Sp}{s₁:oQ}{vs:List oP}{ns:List Int}{ps:Array oP}
theorem kR(KX:K.In s₁.heap)(hKT:K.lookup T=sJ)(hT:s₁.heap.get? T=sI { cls:=.none,data:=.fields ps })(hTc:sA s₁.heap T)(hns:s₁.heap.Ns oJ mg)(hb:s₁.heap.Ns builtinsNs mb)(hbb:∀x:oV,x≠"__name__"->mb x=pF x)(hlim:s₁.heap.NoLimit)(hg:s₁.gens=#[])
  (ha:s₁.heap.get? a=sI { cls:=.type "list",data:=.seq vs.toArray }) (hr:Room k callerA)
  (hbm:s₁.heap.BuiltinsAt mg T) (hcd:PySem.W.CodeHd s₁.heap cc T) (F:∀base:oZ,K.In base->base.Ns oJ mg->base.BuiltinsAt mg T->PySem.W.CodeHd base cc T->z8 P w K mg base CX k fa fd [x] sp) (hbind:∀(s:oQ) (u:oP),rW s fd ⟨[u],[]⟩ [(x,u)])
  (hCX:∀H e s',CX [] H s₁ (λ_ _ _=>False) e s'->False) (H:Hp) (h1:H T=sI (.tbl ps)) (h2:∀b u,H b=sI u->b=T\/(b=a/\K.lookup a=sJ/\u=.frz { cls:=.type "list",data:=.seq vs.toArray } (.lst (ns.map V.int))))
  (hok:HOk P w H s₁.heap) (hsp:sp [.ref a] H (λv _=>v=.bl sK) λ_ _ _=>False) :
  pM (model P w) callerA (.call (.ref fa) ⟨[.ref a],[]⟩) (λr s'=>r=.ok (.ret (.bool sK))/\OldK s₁.heap s'.heap/\s'.os=s₁.os/\rA s'.gens) s₁:=by
 have stay:∀b o,s₁.heap.get? b=sI o->(b≠T)->(b≠a)->(W6 s₁.heap H).get? b=sI o:=λb o e n1 n2=>Y9 e (by
  cases q:H b with
  | none=>rfl
  | some u =>
   rcases h2 b u q with z | z
   ·exact absurd z n1
   ·exact absurd z.1 n2)
 have nsStay:∀(b:oO) (m:oV->Option oP),s₁.heap.Ns b m->(W6 s₁.heap H).Ns b m:=λb m hN=>by
  obtain⟨o,es,ep,e,d,rest⟩:=hN
  refine⟨o,es,ep,stay b o e (λz=>?_) (λz=>?_),d,rest⟩
  ·rw[z,hT] at e
   cases e
   cases d
  ·rw[z,ha] at e
   cases e
   cases d
 have kStay:K.In (W6 s₁.heap H):=λb o e=>by
  have g:=KX b o e
  refine Y9 g ?_
  cases q:H b with
  | none=>rfl
  | some u =>
   rcases h2 b u q with z | z
   ·rw[z,hKT] at e
    cases e
   ·rw[z.1,z.2.1] at e
    cases e
 have bStay:(W6 s₁.heap H).BuiltinsAt mg T:=by
  obtain⟨bm,o,b1,b2,b3,b4,b5,b6,b7,b8⟩:=hbm
  refine⟨bm,o,b1,b2,b3,b4,stay bm o b5 b4 (λz=>?_),b6,b7,b8⟩
  rw[z,ha] at b5
  cases b5
  simp at b6
 have cStay:PySem.W.CodeHd (W6 s₁.heap H) cc T:=by
  obtain⟨o,vs',file,tf,flags,tg,inF,text,tt,c1,c2,c3,c4,c5,c6,c7,c8,c9,c10⟩:=hcd
  refine⟨o,vs',file,tf,flags,tg,inF,text,tt,stay cc o c1 c10 (λz=>?_),c2,c3,c4,c5,c6,c7,c8,c9,c10⟩
  rw[z,ha] at c1
  cases c1
  simp at c2
 obtain⟨mc,l1,l2⟩:=hlim
 have M0:Mod K mg (W6 s₁.heap H):={ kin:=kStay,glob:=nsStay _ _ hns,blt:=⟨mb,nsStay _ _ hb,hbb⟩,nolimit:=⟨mc,nsStay _ _ l1,l2⟩ }
 have E0:Env0 P w K mg (W6 s₁.heap H) callerA [] s₁ H:={ frames:=rfl,mod:=M0,bs:=λb o e=>Jz e,bsz:=Nat.le_of_eq (Vf _ _),funs:=trivial,frf:=λb z=>(nomatch (show b ∈ ([]:List oO) from z)),hok:=hok,bare:=.of_eq hg }
 refine re ((F _ kStay (nsStay _ _ hns) bStay cStay).run callerA [] s₁ H ⟨[.ref a],[]⟩ [.ref a] [.ref a] (λv _=>v=.bl sK) (λ_ _ _=>False) hr E0 (hbind s₁ (.ref a)) (.cons rfl .nil) hsp) λr s' hq=>?_
 rcases r with e | fl
 ·exact (hCX H e s' hq).elim
 rcases fl with _ | _ | _ | u
 all_goals first | exact False.elim hq | skip
 obtain⟨v,H',e1,e2,un,hok',rv,ev⟩:=hq
 have ev':v=V.bl sK:=ev
 subst ev'
 have eu:u=Value.bool sK:=rv
 subst eu
 obtain⟨more,hT2⟩:=un.tbls T ps h1
 have hT3:s'.heap.get? T=sI { cls:=.none,data:=.fields (ps ++ more) }:=hok' T _ hT2
 have each:∀b o,s₁.heap.get? b=sI o->b≠T->s'.heap.get? b=sI o:=λb o e n=>by
  cases q:H b with
  | none=>exact un.keep b o e q (λz=>(nomatch (show b ∈ ([]:List oO) from z))) (λz=>(nomatch z))
  | some ob =>
   rcases h2 b ob q with z | ⟨z,_,zz⟩
   ·exact absurd z n
   ·subst zz
    have g:=(hok' b _ (un.frzs b _ _ q)).1
    rw[z,ha] at e
    cases e
    exact g
 refine⟨rfl,⟨λb o e=>?_,λb o e=>?_⟩,e1,e2⟩
 ·by_cases hbT:b=T
  ·subst hbT
   rw[hT] at e
   cases e
   exact .inr (.inl ⟨hTc,rfl,ps,more,rfl,hT3⟩)
  ·exact .inl (each b o e hbT)
 ·by_cases hbT:b=T
  ·subst hbT
   exact⟨_,hT3⟩
  ·exact⟨o,each b o e hbT⟩
theorem We(KX:K.In s₁.heap)(hKT:K.lookup T=sJ)(hT:s₁.heap.get? T=sI { cls:=.none,data:=.fields ps })(hTc:sA s₁.heap T)(hns:s₁.heap.Ns oJ mg)(hb:s₁.heap.Ns builtinsNs mb)(hbb:∀x:oV,x≠"__name__"->mb x=pF x)(hlim:s₁.heap.NoLimit)(hg:s₁.gens=#[])
  (ha:s₁.heap.get? a=sI { cls:=.type "list",data:=.seq vs.toArray }) (hi:su vs ns) (hl:ns.length<=oM) (hr:Room k callerA)
  (hbm:s₁.heap.BuiltinsAt mg T) (hcd:PySem.W.CodeHd s₁.heap cc T) (F:∀base:oZ,K.In base->base.Ns oJ mg->base.BuiltinsAt mg T->PySem.W.CodeHd base cc T->z8 P w K mg base CX k fa fd [x] sp) (hbind:∀(s:oQ) (u:oP),rW s fd ⟨[u],[]⟩ [(x,u)])
  (hCX:∀H e s',CX [] H s₁ (λ_ _ _=>False) e s'->False) (hsp:∀H:Hp,H T=sI (.tbl ps)->SqL K H a (ns.map V.int)->sp [.ref a] H (λv _=>v=.bl sK) λ_ _ _=>False) :
  pM (model P w) callerA (.call (.ref fa) ⟨[.ref a],[]⟩) (λr s'=>r=.ok (.ret (.bool sK))/\OldK s₁.heap s'.heap/\s'.os=s₁.os/\rA s'.gens) s₁:=by
 have rv:=Zr hi
 have hlv:=hi.length
 have hTa:a≠T:=λz=>by
  rw[z,hT] at ha
  cases ha
 rcases hk:K.lookup a with _ | o
 ·refine kR (ns:=ns) KX hKT hT hTc hns hb hbb hlim hg ha hr hbm hcd F hbind hCX (upd (upd (λ_=>sJ) T (.tbl ps)) a (.frz { cls:=.type "list",data:=.seq vs.toArray } (.lst (ns.map V.int)))) ?_ (λb u e=>?_) (λb u e=>?_) ?_
  ·rw[zo (Ne.symm hTa),zc]
  ·by_cases hba:b=a
   ·subst hba
    rw[zc] at e
    cases e
    exact .inr ⟨rfl,hk,rfl⟩
   ·rw[zo hba] at e
    by_cases hbT:b=T
    ·exact .inl hbT
    ·rw[zo hbT] at e
     cases e
  ·by_cases hba:b=a
   ·subst hba
    rw[zc] at e
    cases e
    exact⟨ha,by rw[ae];exact hl,vs,_,rv,ha⟩
   ·rw[zo hba] at e
    by_cases hbT:b=T
    ·subst hbT
     rw[zc] at e
     cases e
     exact hT
    ·rw[zo hbT] at e
     cases e
  ·exact hsp _ (by rw[zo (Ne.symm hTa),zc]) (.inl (.inr ⟨_,zc⟩))
 ·have e:=KX a o hk
  rw[ha] at e
  cases e
  refine kR (ns:=ns) KX hKT hT hTc hns hb hbb hlim hg ha hr hbm hcd F hbind hCX (upd (λ_=>sJ) T (.tbl ps)) zc (λb u e=>?_) (λb u e=>?_) (hsp _ zc (.inr ⟨_,vs.toArray,_,hk,rfl,rfl,rfl,by rw[al,hlv];exact hl,by simpa using rv⟩))
  ·by_cases hbT:b=T
   ·exact .inl hbT
   ·rw[zo hbT] at e
    cases e
  ·by_cases hbT:b=T
   ·subst hbT
    rw[zc] at e
    cases e
    exact hT
   ·rw[zo hbT] at e
    cases e
end
noncomputable def Ky(K:oN):Bool:=K.all λp=>match p.2 with
 | ⟨.none,_,.fields _,_⟩=>sL
 | _=>sK
theorem YW{T:oO}{o:pE}:∀{K:oN},K.lookup T=sI o->(T,o) ∈ K
 | [],h=>by cases h
 | p::K,h=>by
  rw[aX] at h
  by_cases hp:T=p.1
  ·rw[show (T == p.1)=sK by simpa using hp] at h
   cases h
   rw[hp]
   exact aB
  ·rw[show (T == p.1)=sL by simpa using hp] at h
   exact ao _ (YW h)
theorem UI{K:oN}{T:oO}{ps:Array oP}{h:oZ}(e:Ky K=sK)(X:K.In h)(hT:h.get? T=sI { cls:=.none,data:=.fields ps }):K.lookup T=sJ:=by
 cases q:K.lookup T with
 | none=>rfl
 | some o =>
  have g:=X _ _ q
  rw[hT] at g
  cases g
  have:=tw.mp e _ (YW q)
  simp at this
theorem walk_ofT{l:PySem.W.OpenLaw}{n k:Nat}{q:oU}{loose:List oV}{XP:(oV->Option oP)->oZ->Prop}{YP:oW->oZ->Prop}{d din:DefRec}{K:Params->oN}{CX:oW->CXT}{sp:oW->oO->Sp}{x:oV}
  (hn:l.most=sI n) (hn2:n<=oM) (hdf:d.params.defaults=[]) (hr:Room k callerA) (hdin:din ∈ recsOf q)
  (hY:∀(w:oW) (h:oZ),YP w h->(K w.params).In h) (hno:∀w:oW,Ky (K w.params)=sK)
  (F:∀(w:oW) (mg:oV->Option oP) (fa:oO) (h:oZ) (cc T:oO),(K w.params).In h->h.Ns oJ mg->mg d.name=sI (.ref fa)->(∃a o fd,mg din.name=sI (.ref a)/\h.get? a=sI o/\o.data=.func fd/\fd.code=.ref cc)->oJ≠T ->
   ∃fd:oS,(∀(s:oQ) (u:oP),rW s fd ⟨[u],[]⟩ [(x,u)]) /\
    ∀base:oZ,(K w.params).In base->base.Ns oJ mg->base.BuiltinsAt mg T->PySem.W.CodeHd base cc T->z8 l.prog w (K w.params) mg base (CX w) k fa fd [x] (sp w T))
  (hsp:∀(w:oW) (H:Hp) (a:oO) (ns:List Int) (T:oO),ns.length<=n->(∀z ∈ ns,qm z)->H T=sI (.tbl #[])->SqL (K w.params) H a (ns.map V.int)->sp w T [.ref a] H (λv _=>v=.bl sK) λ_ _ _=>False)
  (hCX:∀(w:oW) (H:Hp) (s:oQ) (e:oP) (s':oQ),CX w [] H s (λ_ _ _=>False) e s'->False) :
  PySem.W.WalkO q loose XP YP l.row.toRowW d [] (λf vs=>fP f vs):=by
 refine Zw hn hdf λw s₀ s₁ mg mb fa o pm cd doc a vs ns G Y ho hd hcd hmg hobj hints hlen hb' hg=>?_
 have X0:=hY w _ Y
 obtain⟨ai,oi,fdi,cc,T,m1,m2,m3,m4,m5,m6⟩:=G.T.tab din hdin
 have hcd':PySem.W.CodeHd s₁.heap cc T:=PySem.W.CodeHd.of m5 m6
 have hTo:s₁.heap.get? T=sI { cls:=.none,data:=.fields #[] }:=m6.2
 have hTc:sA s₁.heap T:=m6.isCodeTable
 have hgT:oJ≠T:=λz=>by
  obtain⟨o,es,ep,e,hd',_⟩:=G.T.g
  rw[z,hTo] at e
  cases e
  cases hd'
 have hbm:s₁.heap.BuiltinsAt mg T:=by
  obtain⟨bm,ob,b1,b2,b3,b4,b5,b6⟩:=G.T.bmain
  refine⟨bm,ob,b1,b2,λz=>?_,λz=>?_,b3,b4,b5,b6⟩
  ·obtain⟨o,es,ep,e,hd',_⟩:=G.T.g
   rw[z,e] at b3
   cases b3
   rw[hd'] at b6
   cases b6
  ·rw[z,hTo] at b3
   cases b3
   cases b4
 obtain⟨fd,hbd,hF⟩:=F w mg fa _ cc T X0 G.T.g hmg ⟨ai,oi,fdi,m1,m2,m3,m4⟩ hgT
 exact We (T:=T) (ps:=#[]) X0 (UI (hno w) X0 hTo) hTo hTc G.T.g G.T.b G.T.builtins G.T.nolimit hg hobj hints (aJ hlen hn2) hr hbm hcd' hF hbd (λH e s'=>hCX w H s₁ e s') λH h1 h2=>hsp w H a ns T hlen hb' h1 h2
theorem Kn{P:oU}{w:oW}{K:oN}{mg:oV->Option oP}{base:oZ}{x qual:oV}{st:pb}{f cc:oO}{fd:oS}{N ps:List oV}{k:Nat}{sp:Sp}(F:Fun K x qual st f fd)(hcc:fd.code=.ref cc)(S:zp N ps (zh st))(len:∀vs H Q E,sp vs H Q E->vs.length=ps.length)
  (hbody:∀(A:oX) (outer:List rP) (s:oQ) (H:Hp) (vs:List V) (Q:VK) (E:XK),Room k (A.deeper (rz qual (zh st) s.heap.objs.size f (.ref cc)))->sp vs H Q E ->
   ∃t,PSs (uL CX0 P w K mg base N qual (zh st) f (.ref cc) A outer s H E).nox (z9 st) t/\t { nx:=λ_ H'=>Q .non H',rt:=Q } (start N vs) H):z8 P w K mg base CX0 (k+1) f fd ps sp:=by
 obtain⟨oc,od,kV,doc,pm,an,cdv,ct,osl,rfl,lk,hcd⟩:=F.ex
 have e:cdv=.ref cc:=hcc
 subst e
 refine QJ lk hcd S len λA outer s H vs Q E hr hsp=>?_
 obtain⟨t,h,q⟩:=hbody A outer s H vs Q E hr hsp
 exact⟨t,h.nox,q⟩
end L3
namespace PySem
namespace F
end F
section
variable{prog:oU}{w:oW}{A:oX}{E:oP->oQ->Prop}{s:oQ}
def Heap.IsRevS(h:oZ)(a:oO)(x:oV)(t:rF)(i:Int):Prop:=∃o,h.get? a=sI o/\o.cls=.type "reversed"/\o.data=.fields #[.str x t,rawInt i]
theorem Heap.IsRevS.typeIs{a:oO}{x:oV}{t:rF}{i:Int}(z:s.heap.IsRevS a x t i):s.TypeIs (.ref a) "reversed":=let ⟨o,ho,hc,_⟩:=z; ⟨o,ho,hc⟩
theorem Heap.IsRevS.at{h h':oZ}{a:oO}{x:oV}{t:rF}{i:Int}(z:h.IsRevS a x t i)(e:∀o,h.get? a=sI o->h'.get? a=sI o):h'.IsRevS a x t i:=let ⟨o,ho,r⟩:=z; ⟨o,e _ ho,r⟩
end
section
variable{prog:oU}{w:oW}{A:oX}{E:oP->oQ->Prop}{s:oQ}
end
end PySem
namespace L3
section
variable{X:Cx}{o a:oY}{to:TE}{ta:TA}{apos cpos p pos2:pW}
end
end L3
namespace L2
section
variable{X:Cx}{tg:oY}
end
end L2
namespace L3
open PySem L2
section
variable{g:TG}{tt:TT}{te:TE}{own:Nat}{ix:List Nat}{σ:L2.St}{H1:Hp}{Q:VK}{D:oO}
end
end L3
namespace L3
open PySem.AutoSeq1 (wpAny_loadPart')
open MeetsSeq MeetsSeq2 MeetsSeq3 SeqRoads2 SeqAt
section
variable{X:Cx}{sM:List (oO × pE)}{σ:St}{H:Hp}{s:oQ}
end
end L3
namespace L3
section
variable{prog:oU}{w:oW}{A:oX}{R:rN->oQ->Prop}{I:oO}{fp wr:List oO}{G:Array sv->Array sv->Prop}{n:Nat}{P:Nat->oP->Prop}{St:Nat->oQ->Prop}
end
section
variable{prog:oU}{w:oW}{A:oX}{E:oP->oQ->Prop}{s:oQ}
end
end L3
namespace L3
section
variable{X:Cx}
end
end L3
namespace L3
section
variable{g:TG}{tt:TT}{te:TE}{own:Nat}{ix:List Nat}{σ:L2.St}{H1:Hp}{Q:VK}{D:oO}
end
end L3
namespace L3
theorem YF{α:Type}[DecidableEq α](k:α)(v:oP)(x:α):∀kvs:List (α × oP),(kvs.map λkv=>if kv.1=k then (kv.1,v) else kv).find? (λkv=>kv.1=x)=(kvs.find? λkv=>kv.1=x).map λkv=>if kv.1=k then (kv.1,v) else kv
 | []=>rfl
 | p::kvs=>by
  have e:(if p.1=k then (p.1,v) else p).1=p.1:=by split <;> rfl
  rw[au,List.find?_cons,List.find?_cons,YF k v x kvs]
  simp only[e]
  by_cases h:p.1=x
  ·simp [h]
  ·simp [h]
theorem X6{α:Type}[DecidableEq α](kvs:List (α × oP))(k:α)(v:oP)(x:α):valueAt (stored kvs k v) x=if x=k then sI v else valueAt kvs x:=by
 unfold stored valueAt
 split
 ·rename_i h
  rw[YF]
  by_cases e:x=k
  ·subst e
   rw[if_pos rfl]
   obtain⟨p,hp,hk⟩:=tI.mp h
   cases hf:kvs.find? λkv=>kv.1=x with
   | none =>
    have:=tJ.mp hf p hp
    exact absurd hk this
   | some q =>
    have hq:=dP hf
    have hq':q.1=x:=by simpa using hq
    simp [hq']
  ·rw[if_neg e]
   cases hf:kvs.find? λkv=>kv.1=x with
   | none=>rfl
   | some q =>
    have hq:=dP hf
    have hq':q.1=x:=by simpa using hq
    have:¬ q.1=k:=λz=>e (hq'.symm.trans z)
    simp [this]
 ·rename_i h
  rw[List.find?_append]
  by_cases e:x=k
  ·subst e
   rw[if_pos rfl]
   have:kvs.find? (λkv=>kv.1=x)=sJ:=by
    rw[List.find?_eq_none]
    intro p hp hk
    exact h (tI.mpr ⟨p,hp,hk⟩)
   rw[this]
   simp
  ·have e':¬ k=x:=λz=>e z.symm
   rw[if_neg e]
   simp [e']
section
variable{X:Cx}{pos:pW}
end
end L3
namespace L3
noncomputable def jd(P:oU)(w:oW)(a:oO)(m:oV->Option V)(n:Nat):HO:=.ext λh=>(a == sysModules)=sL/\∃kvs:List (oV × oP),h.DictOf (da P w) a kvs/\kvs.length<=n/\∀k,RelO (m k) (valueAt kvs k)
theorem Vy{P:oU}{w:oW}{H:Hp}{h:oZ}{a:oO}{m:oV->Option V}{n:Nat}{kvs:List (oV × oP)}(hs:(a == sysModules)=sL)(d:h.DictOf (da P w) a kvs)(hl:kvs.length<=n)(r:∀k,RelO (m k) (valueAt kvs k)):ObjOk P w H h a (jd P w a m n) :=
 ⟨⟨hs,kvs,d,hl,r⟩,(let ⟨o,es,ep,ho,_⟩:=d; ⟨o,ho⟩),λh1 h2 ⟨hs,kvs,⟨o,es,ep,ho,rest⟩,z⟩ k=>⟨hs,kvs,⟨o,es,ep,k _ ho,rest⟩,z⟩⟩
section
variable{X:Cx}{pos:pW}
theorem Inv.beyond{sM:List (oO × pE)}{σ:L2.St}{H:Hp}{s:oQ}(I:Inv X sM σ H s):(s.heap.objs.size == sysModules)=sL:=by
 obtain⟨o,es,ep,e,_⟩:=I.ok.mod.glob
 have h1:=aq e
 have h2:=I.ok.bsz
 have h3:=I.sz
 have h4:1<=oJ:=by decide
 have h5:1<s.heap.objs.size:=av (cL h4 h1) (aJ h2 h3)
 rw[beq_eq_false_iff_ne]
 intro z
 exact bS h5 z
def zbz(P:oU)(w:oW):TE:=λ_ H Q=>∀p,H p=sJ->Q (.ref p) (upd H p (jd P w p (λ_=>sJ) 0))
theorem JY:PE X (.Dict [] [] pos) (zbz X.prog X.w):=λsM s σ H Q I h =>
 wpAny_Dict_empty ⟨.ref s.heap.objs.size,_,I.laid (a:=s.heap.objs.size) (t':=s.toks) (λ_ _ q=>aa _ q) (am _) (Vy (m:=λ_=>sJ) (Inv.beyond I) (Heap.DictOf.new s.heap) (am _) λ_=>trivial),rfl,h _ (I.hok.fresh (am _))⟩
theorem Inv.tdic{sM:List (oO × pE)}{σ:L2.St}{H:Hp}{s:oQ}{a:oO}{m:oV->Option V}{n:Nat}(I:Inv X sM σ H s)(h:H a=sI (jd X.prog X.w a m n)):(a == sysModules)=sL/\∃kvs:List (oV × oP),s.heap.DictOf (da X.prog X.w) a kvs/\kvs.length<=n/\∀k,RelO (m k) (valueAt kvs k):=(I.hok _ _ h).1
def zbP(P:oU)(w:oW):R2:=λx y H Q=>∃a m n k v,x=.ref a/\y=.str k/\H a=sI (jd P w a m n)/\m k=sI v/\Q v H
theorem Jw:IxR X (zbP X.prog X.w):=by
 intro value slice sM s σ H x y v u Q I rx ry h hs
 obtain⟨a,m,n,k,z,rfl,rfl,ha,hk,q⟩:=h
 cases rx
 obtain⟨t,rfl⟩:=ry
 obtain⟨_,kvs,dd,hl,r⟩:=Inv.tdic I ha
 obtain⟨w',hw,rw'⟩:=RelO.some_of (v:=z) (o:=valueAt kvs k) (by rw[<- hk];exact r k)
 exact tail_any dd.typeIs slot_dict_getitem.lookup (wpAny_getItem_of (knd:=da X.prog X.w) (strKind_is _ _ _ _) dd.mapOf hw ⟨z,H,I.tok _,rw',q⟩) hs
def zbc(P:oU)(w:oW):V->V->V->Hp->(Hp->Prop)->Prop:=λo i v H Q=>∃a m n k,o=.ref a/\i=.str k/\H a=sI (jd P w a m n)/\n<=100000/\Q (upd H a (jd P w a (λx=>if x=k then sI v else m x) (n+1)))
theorem UJ:zcW X (zbc X.prog X.w):=by
 intro sM s σ H o i v ov iv u Q I ro ri rv h
 obtain⟨a,m,n,k,rfl,rfl,ha,hn,q⟩:=h
 cases ro
 obtain⟨t,rfl⟩:=ri
 obtain⟨hsm,kvs,dd,hl,r⟩:=Inv.tdic I ha
 have s16:=ya
 refine wpAny_setItem_pairs (knd:=da X.prog X.w) (hsz:=by lia) (strKind_is _ _ _ _) dd λh' dd' hs=>⟨_,?_,q⟩
 have he:∃q,h'.get? a=sI q:=let ⟨q,_,_,hq,_⟩:=dd'; ⟨q,hq⟩
 refine I.write (x:=a) (e:=a) (by rw[ha];exact True.intro) (.inl rfl) (λb q hb z=>(hs.2 b hb).trans z) he (Vy hsm dd' (aJ (stored_length_le _ _ _) (by lia)) λx=>?_)
 rw[X6]
 by_cases e:x=k
 ·rw[if_pos e,if_pos e]
  exact rv
 ·rw[if_neg e,if_neg e]
  exact r x
def zaI(P:oU)(w:oW):R2:=λx y H Q=>∃a m n k,x=.str k/\y=.ref a/\H a=sI (jd P w a m n)/\Q (.bl (m k).isNone) H
theorem UC:OpR X (pc .NotIn) (zaI X.prog X.w):=by
 intro sM s σ H x y v u Q I rx ry h
 obtain⟨a,m,n,k,rfl,rfl,ha,q⟩:=h
 obtain⟨t,rfl⟩:=rx
 cases ry
 obtain⟨hsm,kvs,dd,hl,r⟩:=Inv.tdic I ha
 refine wpAny_notIn_of (knd:=da X.prog X.w) (strKind_is _ _ _ _) hsm dd.mapOf ?_
 have e:(!(valueAt kvs k).isSome)=(m k).isNone:=by
  have:=r k
  cases hm:m k with
  | none =>
   cases hv:valueAt kvs k with
   | none=>rfl
   | some z=>rw[hm,hv] at this;exact this.elim
  | some z0 =>
   cases hv:valueAt kvs k with
   | none=>rw[hm,hv] at this;exact this.elim
   | some z=>rfl
 rw[e]
 exact⟨.bl _,H,I.tok _,rfl,q⟩
end
end L3
namespace L3
section
variable{X:Cx}{scope:pQ}{own caps:List oV}{ix:List Nat}{elt tg iter:oY}{ifs:List oY}{pos:pW}{wi:TI}{g:TG}{tt:TT}{te:TE}
theorem kK{EX:XK}(hc:X.calm=sK)(S:qw X scope own caps ix)
  (hg:∀cl C sM s3 H3 fp,PG (z7 X scope cl C (own ++ caps) sM s3 H3 fp λ_ _=>False) tg g)
  (ht:∀cl C sM s3 H3 fp xe,XE (z7 X scope cl C (own ++ caps) sM s3 H3 fp xe) EX->PTs (z7 X scope cl C (own ++ caps) sM s3 H3 fp xe) ifs tt)
  (hst:X.stack=X.env::X.outer/\X.env.frame=sI X.env.locals) (hxe:XE X EX) (he:∀cl C sM s3 H3 fp xe,XE (z7 X scope cl C (own ++ caps) sM s3 H3 fp xe) EX->PE (z7 X scope cl C (own ++ caps) sM s3 H3 fp xe) elt te)
  {cl:List (oV × oO)} (hc1:∀y c,cl.lookup y=sI c->X.env.cells.lookup y=sI c) (hc2:∀y,(y,NameKind.free) ∈ scope.names->∃c,cl.lookup y=sI c)
  {sM:List (oO × pE)} {σ:St} {H2:Hp} {s2:oQ} {Q:VK} {it:oO} {fp:List oO} {tn:Nat->oZ->Prop} {J:It} (I2:Inv X sM σ H2 s2) (T:Us X.prog X.w X.K tg J fp it tn) (st2:tn 0 s2.heap) (f2:∀b ∈ fp,xp X sM H2 b)
  (q:∀D,H2 D=sJ->∃W:Nat->Nat->List V->Hp->Prop,(∃m,W 0 m [] (upd H2 D (.lst []))) /\
   ∀i m sP H',W i m sP H'->(J.stop i H'/\Q (.ref D) H')\/(J.go i H'/\∀x H2,J.yld i H' x H2->g x (wX σ own.length ix) H2 λσ3 H3=>yN (wX σ own.length ix) σ3/\tt σ3 H3 λb H4=>if b=sK then
    te σ3 H4 λv H5=>H5 D=sI (.lst sP)/\sP.length<oM/\∃m',m'<m/\W (i+1) m' (sP ++ [v]) (upd H5 D (.lst (sP ++ [v])))
    else ∃m',m'<m/\W (i+1) m' sP H4))
  {RR:oP->oO->rN->oQ->Prop} {E:oP->oQ->Prop}
  (hRR:∀D C m s' H',H2 D=sJ->s'.heap.Ns C m->xp X sM H' C->Inv X sM σ H' s'->Q (.ref D) H'->RR (.ref D) C (.ok .next) s')
  (hRE:∀D C m s' x,s'.heap.Ns C m->(∀h',Heap.SameBut C s'.heap h'->∀cenv:rP,cenv.locals=C->oR (model X.prog X.w) X.A (fz "comprehension.variables-let-go" x cenv:sB oP) (λ_ _=>False) X.xe { s' with heap:=h' })->RR (.ref D) C (.error x) s') :
  oR (model X.prog X.w) X.A (newList []) (λsP s3=>oR (model X.prog X.w) X.A (newFunctionEnv scope X.env.globals cl [] X.env.qual sJ .none (sI X.env)) (λcenv s4 =>
   pM (model X.prog X.w) X.A (.compStart (.ListComp elt [⟨tg,iter,ifs,0⟩] scope pos) 0 (.ref it) sP { cenv with scope:=relabel scope X.env }) (RR sP cenv.locals) s4) E s3) E s2:=by
 have hD:H2 s2.heap.objs.size=sJ:=I2.hok.fresh (am _)
 obtain⟨W,⟨m0,w0⟩,turn⟩:=q _ hD
 refine ra (rn S.nocell (by intro y hy;simp at hy) (λh1 hns1 hsb1=>?_) S.kind)
 dsimp only at hns1 hsb1 ⊢
 have I3:Inv X sM σ (upd H2 s2.heap.objs.size (.lst [])) { s2 with heap:=s2.heap.push { cls:=.type "list",dict:=sJ,data:=.seq ([]:List oP).toArray } } :=
  I2.lnew (its:=[]) (t':=s2.toks) .nil (aI _)
 generalize hs3:({ s2 with heap:=s2.heap.push { cls:=.type "list",dict:=sJ,data:=.seq ([]:List oP).toArray } }:oQ)=s3 at I3
 have e3:s2.heap.push { cls:=.type "list",dict:=sJ,data:=.seq ([]:List oP).toArray }=s3.heap:=by rw[<- hs3]
 rw[e3] at hns1 hsb1 ⊢
 have k1:∀b o,s3.heap.get? b=sI o->h1.get? b=sI o:=λb o e=>(hsb1.2 b (aw (aq e))).trans (aa _ e)
 have k23:∀b o,s2.heap.get? b=sI o->s3.heap.get? b=sI o:=λb o e=>by rw[<- e3];exact aa _ e
 have hz:s3.heap.objs.size=s2.heap.objs.size+1:=by rw[<- e3,bq]
 have fpObj:∀b ∈ fp,∃o,s2.heap.get? b=sI o:=λb hb=>let ⟨o,e,_⟩:=T.obj 0 _ st2 b hb; ⟨o,e⟩
 have fplt:∀b ∈ fp,b<s2.heap.objs.size:=λb hb=>let ⟨o,e⟩:=fpObj b hb;aq e
 have f3:∀b ∈ fp,xp X sM (upd H2 s2.heap.objs.size (.lst [])) b:=λb hb=>⟨by rw[zo (aw (fplt b hb))];exact (f2 b hb).1,(f2 b hb).2⟩
 have I4:Inv (z7 X scope cl s3.heap.objs.size (own ++ caps) sM s3 (upd H2 s2.heap.objs.size (.lst [])) fp λ_ _=>False) [] (wX σ own.length ix) (upd H2 s2.heap.objs.size (.lst [])) { s3 with heap:=h1,toks:=s3.toks+([]:List (oV × oP)).length } :=
  jq S hc1 hc2 I3 f3 (λb hb=>by rw[hz];exact cp (fplt b hb)) hns1 k1
 have st4:tn 0 h1:=T.keep 0 _ _ st2 λb hb o e=>k1 b o (k23 b o e)
 generalize hs4:({ s3 with heap:=h1,toks:=s3.toks+([]:List (oV × oP)).length }:oQ)=s4 at I4
 have es4:({ s2 with heap:=h1,toks:=s2.toks+([]:List (oV × oP)).length }:oQ)=s4:=by rw[<- hs4,<- hs3]
 have e4:h1=s4.heap:=by rw[<- hs4]
 have loop:pM (model X.prog X.w) X.A (.compLoop (.ListComp elt [⟨tg,iter,ifs,0⟩] scope pos) 0 (.ref it) (.ref s2.heap.objs.size) (compEnvC scope cl s3.heap.objs.size X.env)) (RR (.ref s2.heap.objs.size) s3.heap.objs.size) s4:=by
  let X':=z7 X scope cl s3.heap.objs.size (own ++ caps) sM s3 (upd H2 s2.heap.objs.size (.lst [])) fp λ_ _=>False
  have fp':∀{H':Hp},(∀b ∈ fp,H' b=sJ)->∀b ∈ fp,xp X' [] H' b:=λ{H'} hn b hb=>by
   obtain⟨_,a1,a2,a3,a4,a5⟩:=f3 b hb
   refine⟨hn b hb,aw (show b<s3.heap.objs.size from by rw[hz];exact cp (fplt b hb)),λz=>?_,.inl hb,λx c e=>a4 x c (hc1 x c e),λp hp=>?_⟩
   ·rcases sU.mp (I3.stkSub b z) with e | e
    ·exact a1 e
    ·exact a2 e
   ·have:p ∈ (X.pn ++ sM) ++ []:=hp
    rw[aT] at this
    exact a5 p this
  refine ZC (λn s'=>∃i sP H',Inv X' [] (wX σ own.length ix) H' s'/\tn i s'.heap/\(∀b ∈ fp,H' b=sJ)/\W i n sP H') rfl ?_ m0 ⟨0,[],_,I4,by rw[<- e4];exact st4,λb hb=>(f3 b hb).1,w0⟩
  rintro n s5 ⟨i,sP,H5,I5,st5,fr5,w5⟩
  refine pC ?_
  rcases turn i n sP H5 w5 with ⟨stop,qn⟩ | ⟨go,step⟩
  ·refine thn (T.done X' rfl rfl rfl hc i [] s5 _ H5 _ I5 (fp' fr5) st5 stop) λr s6 ⟨hr,I6⟩=>?_
   subst hr
   obtain⟨m,hm,_⟩:=I6.loc
   refine hRR _ _ m s6 H5 hD hm (I3.fpOk (am _) I6.free) (I3.call' (s':=s6) I6.os I6.base I6.hok I6.bare λb hb=>?_) qn
   obtain⟨_,a1,a2,a3,a4,a5⟩:=f3 b hb
   exact⟨a3,a1,a4,a5⟩
  ·refine thn (T.item X' rfl rfl rfl hc i [] s5 _ H5 (λ_ _=>False) I5 (fp' fr5) st5 go) λr s6 ⟨u,hr,h6⟩=>?_
   subst hr
   refine pC (thn h6 λ_ s7 ⟨x,H7,I7,r7,y7,st7,fr7⟩=>?_)
   have I7':=I7.pinned (fp' fr7) (T.obj _ _ st7)
   refine pC (thn (hg _ _ _ _ _ _ _ s7 _ H7 x u _ I7' r7 (step x H7 y7)) λ_ s8 ⟨σ8,H8,I8,ks,q8⟩=>?_)
   refine thn (ht cl _ sM s3 (upd H2 s2.heap.objs.size (.lst [])) fp _ (λe s hfl=>WH (RE:=λe s'=>RR (.ref s2.heap.objs.size) s3.heap.objs.size (.error e) s') hst hxe hc1 I3 f3 hfl λm s' x a b=>hRE _ _ m s' x a b) _ s8 σ8 H8 _ (I8.wish _) q8) λb s9 ⟨H9,I9',q9⟩=>?_
   have I9:=Inv.unwish (X:=X') I9'
   have back:∀{s':oQ} {H':Hp} {acc':List V} {m':Nat},Inv X' ([] ++ jx fp s7.heap) σ8 H' s'->m'<n->W (i+1) m' acc' H'->∃m,m<n/\∃i sP H',Inv X' [] (wX σ own.length ix) H' s'/\tn i s'.heap/\(∀b ∈ fp,H' b=sJ)/\W i m sP H':=λ{s' H' acc' m'} J' hm w'=>by
    refine⟨m',hm,i+1,acc',H',(J'.unpinned).weak ks.1 ks.2,T.keep _ _ _ st7 λb hb o e=>(J'.pin (b,o) (aA _ (aA _ (xb hb e)))).1,λb hb=>?_,w'⟩
    obtain⟨o,e,d⟩:=T.obj _ _ st7 b hb
    exact (J'.pin (b,o) (aA _ (aA _ (xb hb e)))).2.1
   cases b with
   | false =>
    rw[if_neg aC] at q9 ⊢
    obtain⟨m',hm,w'⟩:=q9
    exact back I9 hm w'
   | true =>
    rw[if_pos rfl] at q9 ⊢
    refine thn (he cl _ sM s3 (upd H2 s2.heap.objs.size (.lst [])) fp _ (λe s hfl=>WH (RE:=λe s'=>RR (.ref s2.heap.objs.size) s3.heap.objs.size (.error e) s') hst hxe hc1 I3 f3 hfl λm s' x a b=>hRE _ _ m s' x a b) _ s9 σ8 H9 _ (I9.wish _) q9) λv s10 ⟨y,H10,I10',r10,hD10,hsz,m',hm,w'⟩=>?_
    have I10:=Inv.unwish (X:=X') I10'
    refine pC ?_
    have:=wH (X:=X') _ s10 σ8 H10 (.ref s2.heap.objs.size) [y] (.ref s2.heap.objs.size) [v] (λ_ H'=>H'=upd H10 s2.heap.objs.size (.lst (sP ++ [y]))) I10 rfl (.cons r10 .nil) ⟨_,sP,y,rfl,rfl,hD10,hsz,rfl⟩
    refine thn this λ_ s11 ⟨_,H11,I11,_,eH⟩=>?_
    subst eH
    exact back I11 hm w'
 have goal:pM (model X.prog X.w) X.A (.compStart (.ListComp elt [⟨tg,iter,ifs,0⟩] scope pos) 0 (.ref it) (.ref s2.heap.objs.size) (compEnvC scope cl s3.heap.objs.size X.env)) (RR (.ref s2.heap.objs.size) s3.heap.objs.size) s4 :=
  rM loop (T.self _ 0 s4 _ _ (by rw[<- e4];exact st4) loop)
 rw[<- es4] at goal
 exact goal
theorem W4{EX:XK}(hc:X.calm=sK)(S:qw X scope own caps ix)(hst:X.stack=X.env::X.outer/\X.env.frame=sI X.env.locals)(hxe:XE X EX)(hi:PI X tg iter wi)
  (hg:∀cl C sM s3 H3 fp,PG (z7 X scope cl C (own ++ caps) sM s3 H3 fp λ_ _=>False) tg g)
  (ht:∀cl C sM s3 H3 fp xe,XE (z7 X scope cl C (own ++ caps) sM s3 H3 fp xe) EX->PTs (z7 X scope cl C (own ++ caps) sM s3 H3 fp xe) ifs tt)
  (he:∀cl C sM s3 H3 fp xe,XE (z7 X scope cl C (own ++ caps) sM s3 H3 fp xe) EX->PE (z7 X scope cl C (own ++ caps) sM s3 H3 fp xe) elt te)
  (hs:∀x,foldedSetIterable iter X.env x=pure x:=by intro _;rfl) :
  PE X (.ListComp elt [⟨tg,iter,ifs,0⟩] scope pos) (jm wi g tt te own.length ix):=by
 intro sM s σ H Q I h
 obtain⟨cl,hclos,hc1,hc2⟩:=wc (scope:=scope) (env:=X.env) λy hy=>I.ok.has y (.inl (S.free y hy))
 rw[eval_ListComp]
 refine rg (use:=sJ) rfl hs hclos S.kind S.names (thn (hi sM s σ H _ I h) λv s1 h1=>thn h1 λitv s2 h2=>?_)
 obtain⟨it,fp,tn,J,H2,e,I2,T,st2,f2,q⟩:=h2
 subst e
 refine kK (RR:=λsP C=>compPost (model X.prog X.w) X.A X.xe sJ (EP X sM σ Q) sP C) hc S hg ht hst hxe he hc1 hc2 I2 T st2 f2 q ?_ ?_
 ·intro D C m s' H' _ hn fc I' qn
  obtain⟨a0,a1,a2,a3,a4,a5⟩:=fc
  exact⟨m,hn,λh' sb=>⟨.ref D,H',I'.turned (t':=s'.toks) (λb o hb e=>(sb.2 b hb).trans e) a0 a1 a3 a4 a5,rfl,qn⟩⟩
 ·intro D C m s' x hn hp
  exact⟨m,hn,hp⟩
end
end L3
namespace L3
section
variable{X:Cx}{scope:pQ}{own caps:List oV}{ix:List Nat}{cl:List (oV × oO)}{sM:List (oO × pE)}{σ:St}{H:Hp}{s:oQ}{fp:List oO}{E:oP->oQ->Prop}
end
section
variable{X:Cx}{scope:pQ}{own caps:List oV}{ix:List Nat}{elt tg iter:oY}{ifs:List oY}{pos:pW}{wi:TI}{g:TG}{tt:TT}{te:TE}
end
end L3
namespace L3
section
variable{X:Cx}
end
end L3
namespace LL
open PySem L2 L3
noncomputable def top(i:Nat):pb:=PySem.Challenge.pw_letterlaw_k56_whole_overlaps_meet.main.body.getD i (.Pass ⟨0,0,0,0⟩)
noncomputable abbrev yz:pb:=yV (top 5) 0
noncomputable abbrev zX:pb:=yV (top 6) 0
noncomputable abbrev yM:pb:=top 10
noncomputable abbrev wA:pb:=top 11
noncomputable abbrev vj:pb:=top 12
noncomputable abbrev Jr:pb:=top 13
noncomputable abbrev xK:pb:=top 16
noncomputable abbrev wQ:pb:=top 17
noncomputable abbrev vb:pb:=top 18
noncomputable abbrev xW:pb:=yV (top 19) 0
noncomputable abbrev yv:pb:=yV (top 19) 1
noncomputable abbrev Yg:pb:=top 21
noncomputable abbrev ui:pb:=top 22
noncomputable abbrev W0:pb:=top 23
noncomputable abbrev qt:pb:=top 24
noncomputable abbrev jL:pb:=top 25
noncomputable abbrev xC:pb:=top 26
noncomputable abbrev YK:pb:=top 28
noncomputable abbrev kn:pb:=top 29
noncomputable abbrev ue:pb:=top 35
noncomputable abbrev wS:pb:=top 36
noncomputable abbrev vk:pb:=top 37
noncomputable abbrev jc:pb:=top 38
noncomputable abbrev yA:pb:=top 39
noncomputable abbrev xE:pb:=top 40
noncomputable abbrev xj:pb:=top 41
noncomputable abbrev wC:pb:=top 42
noncomputable abbrev qj:pb:=top 43
noncomputable abbrev yE:pb:=top 49
noncomputable abbrev wg:pb:=top 50
noncomputable abbrev yU:pb:=top 51
noncomputable abbrev xF:pb:=top 52
noncomputable abbrev vU:pb:=top 53
noncomputable abbrev xY:pb:=top 54
noncomputable abbrev wq:pb:=yV (top 57) 0
noncomputable abbrev xB:pb:=yV (top 57) 1
noncomputable abbrev wy:pb:=yV (top 57) 2
noncomputable abbrev xv:pb:=yV (top 57) 3
noncomputable abbrev xG:pb:=yV (top 57) 4
noncomputable abbrev yS:pb:=yV (top 58) 0
noncomputable abbrev yW:pb:=yV (top 59) 0
noncomputable abbrev yj:pb:=yV (top 59) 1
noncomputable abbrev WJ:pb:=top 61
noncomputable abbrev Z1:pb:=top 62
noncomputable abbrev qg:pb:=top 63
noncomputable abbrev WS:pb:=top 64
noncomputable abbrev Ub:pb:=top 65
noncomputable abbrev Vi:pb:=top 66
noncomputable abbrev ZQ:pb:=top 67
noncomputable abbrev Z6:pb:=top 68
noncomputable abbrev Z2:pb:=top 69
noncomputable abbrev jr:pb:=top 70
noncomputable abbrev qO:pb:=top 71
noncomputable abbrev Wg:pb:=top 72
noncomputable abbrev VY:pb:=top 73
noncomputable abbrev WN:pb:=top 74
noncomputable abbrev uQ:pb:=top 75
noncomputable abbrev vp:pb:=top 76
section
variable{P:oU}{w:oW}{K:oN}{mg:oV->Option oP}{base:oZ}
seal L2.PE L2.PS L2.PA L2.PT L2.PSs L2.PI L2.PG L2.PW L2.PGs
local macro_rules | `(tactic| rfl')=>do `(tactic| simp only[$(← ("zc0 Vt zdb wX Option.join_some Option.join_none rU j5 zbq zcp zbS za4 zbH zcZ J3 tOp tUn yo tC vY zJ xS tCB zbA xg zbd zbI zcP tOr zbg zdE Qi Vg tIf rI rI0 UW JV zdj zc7 zb9 rEq rNe rIx zbQ vN zb3 zcJ zcn zb6 zcw tSl WD zar zcE zdt zcK zaY Kx rGe K0 decide_false decide_true Prod.mk.injEq JR zcm zb0 Ua Qz Wh tyV tBM zdk if_true if_false bF decide_eq_true_eq decide_eq_false_iff_not eg Bool.not_true Bool.not_false lt1 Ur zcA K9 kA K6 za0 zcg zcv W2 WA zdv tHs zac zbR zbW zcG zcB zb5 Value.ref.injEq L2.start zcb zcd zdp zds zdn zcy zdB zbO zbM zdH zde Km zcs zbu zcQ Zj QL kJ yC jg zD zdm zbf zbX cxK cxP cxW au aP aN cK db List.replicate_zero Nat.reduceAdd Nat.reduceSub and_assoc zbY exists_eq exists_eq' exists_eq_left' exists_eq_left exists_eq_right exists_eq_right' exists_and_left exists_and_right V.int.injEq V.ref.injEq V.str.injEq V.bl.injEq V.ty.injEq reduceCtorEq false_and and_false true_and and_true or_false false_or exists_false exists_const eN List.getElem?_cons_succ Option.some.injEq bu bv List.cons.injEq aT bD bJ".splitOn " ").toArray.mapM fun s=>`(Lean.Parser.Tactic.simpLemma| $(Lean.mkIdent s.toName):ident)),*])
local macro_rules | `(tactic| ac_rfl)=>do `(tactic| repeat (first | rfl' | simp only[$(← ("yc zu zH ye yf zv".splitOn " ").toArray.mapM fun s=>`(Lean.Parser.Tactic.simpLemma| $(Lean.mkIdent s.toName):ident)),*]))
theorem xe0{X:Cx}:XE X E0:=λe s h=>by
 obtain⟨_,_,_,_,_,_,_,_,_,_,_,_,_,_,h⟩:=h
 exact h.elim
def ZU(l:List Nat):Prop:=∀c ∈ l,97<=c/\c<=122
instance (l:List Nat):Decidable (ZU l):=by unfold ZU;infer_instance
noncomputable def qI(l:List Nat):Bool:=decide (1<=l.length/\l.length<=6/\ZU l/\l.Nodup)
def uN:Sp:=λvs H Q _=>∃c:Nat,vs=[.str (tx [c])]/\Q (.bl (decide (97<=c/\c<=122))) H
theorem Qx:zp ["sign"] ["sign"] (zh yM):=by nofun
theorem UD{f:oO}{fd:oS}(F:Fun K "is_small_letter" "is_small_letter" yM f fd):z8 P w K mg base CX0 1 f fd ["sign"] uN:=by
 refine F.ok Qx (λvs H Q E h=>?_) (λcdv A outer s H vs Q E hr h=>?_)
 ·obtain⟨a,rfl,_⟩:=h
  rfl
 ·obtain⟨c,rfl,q⟩:=h
  refine⟨_,(zg (zt (U9 uq uq xf (pv 0) xf))),?_⟩
  have ea:cs (("a" : oV))=[97]:=rfl
  have ez:cs (("z" : oV))=[122]:=rfl
  rfl'
  simp only[ea,ez,jg,lt1]
  refine yT (λh=>?_) λh=>?_
  ·have e:decide (97<=c/\c<=122)=!decide (122<c):=by
    by_cases h2:122<c
    ·rw[decide_eq_true h2,decide_eq_false (by lia)];rfl
    ·rw[decide_eq_false h2,decide_eq_true (by lia)];rfl
   rw[e] at q
   exact q
  ·rw[decide_eq_false (by lia)] at q
   exact q
structure zcM(K:oN)(mg:oV->Option oP)(C:oO):Prop where
 xi:XI K C
 ini:ah K (.ref C) "__init__" = sI (sI (.builtin "ValueError.__init__"))
 g:mg "NoLetters" = sI (.ref C)
 most:∃t,mg "MOST_LETTERS" = sI (.int 6 t)
def we(C:oO):Sp:=λvs H Q E=>∃l:List Nat,vs=[.str (tx l)]/\l.length<=1000/\(qI l=sK->Q (.str (tx l)) H)/\(qI l=sL->E (.ref C) sJ H)
theorem lV:zp ["text","sign"] ["text"] (zh wA):=by nofun
theorem jH{f C:oO}{fd:oS}(B:Bt mg)(T:zcM K mg C)(F:Fun K "letters_of" "letters_of" wA f fd)(Ds:Df P w K mg base CX0 1 "is_small_letter" ["sign"] [] uN):z8 P w K mg base (CXx P w) 2 f fd ["text"] (we C):=by
 refine Fun.okX F lV (λvs H Q E h=>?_) (λcdv A outer s H vs Q E hr hx h=>?_)
 ·obtain⟨a,rfl,_⟩:=h
  rfl
 ·obtain⟨l,rfl,hl,q1,q2⟩:=h
  obtain⟨t6,g6⟩:=T.most
  refine⟨_,(zM (zR (yd (kj uq uq zf (zm zZ rfl B.len ax (za (pv 0) ze)) (yK (v:=.int 6) rfl g6 ⟨t6,rfl⟩)))
    (zg (yG hx rfl T.xi.toXC T.ini rfl T.g (za xf ze)))
    zA)
   (zM (yq PassesOwn.leaving rfl (kN (pv 0)) (zy (i:=1) lV.nd rfl (.inl rfl))
    (zM (zR (yd (Y2 (cl0 Ds hr .nil rfl (za (pv 1) ze)) (λ_=>rfl)))
     (zg (yG hx rfl T.xi.toXC T.ini rfl T.g (za xf ze)))
     zA)
    (zg (zR (zG WF (uH bz eW eX Wy (pv 0) (za (pv 1) ze)) zf (zI _))
     (zg (yG hx rfl T.xi.toXC T.ini rfl T.g (za xf ze)))
     zA))))
   (zg (zt (pv 0))))),?_⟩
  have s16:=ya
  rfl'
  have bad:(¬ (1<=l.length/\l.length<=6/\ZU l/\l.Nodup))->∀H':Hp,H'=H->E (.ref C) sJ H':=λh H' e=>by
   rw[e]
   exact q2 (decide_eq_false h)
  refine⟨by lia,yT (λc=>yT (λc2=>⟨by lia,bad (λh=>by have:=h.2.1;lia) H rfl⟩) (λc2=>?_)) (λc=>⟨by lia,bad (λh=>by have:=h.1;lia) H rfl⟩)⟩
  refine ForS.by (λi σ H'=>H'=H/\∃v,σ=[sI (.str (tx l)),v]/\ZU (l.take i)/\∀c ∈ l.take i,l.count c<=1) ⟨rfl,sJ,rfl,λc h=>absurd h (by simp),λc h=>absurd h (by simp)⟩ ?_ ?_
  ·rintro i c σ H' hg ⟨eH,v,rfl,hs,hn⟩
   have hc:=ac hg
   rfl'
   simp only[uN]
   rfl'
   refine yT (λh=>⟨by lia,bad (λz=>by have:=z.2.2.1 c hc;lia) _ eH⟩) (λh=>yT (λh2=>⟨by lia,bad (λz=>?_) _ eH⟩) (λh2=>⟨eH,?_,?_⟩))
   ·have:=tK.mp z.2.2.2 c
    lia
   ·rw[zQ hg]
    intro x hx
    rcases sV.mp hx with q | q
    ·exact hs x q
    ·have:x=c:=by simpa using q
     subst this
     lia
   ·rw[zQ hg]
    intro x hx
    rcases sV.mp hx with q | q
    ·exact hn x q
    ·have:x=c:=by simpa using q
     subst this
     lia
  ·rintro σ H' ⟨eH,v,rfl,hs,hn⟩
   rw[aK] at hs hn
   rfl'
   rw[eH]
   refine q1 (decide_eq_true ⟨by lia,by lia,hs,tK.mpr λc=>?_⟩)
   by_cases hc:c ∈ l
   ·exact hn c hc
   ·rw[List.count_eq_zero.mpr hc];lia
noncomputable def zx(l:List Nat)(k:Int)(p:List Nat):Bool:=decide (0<=k/\k+p.length<=l.length/\(l.drop k.toNat).take p.length=p)
def xw:Sp:=λvs H Q _=>∃(l p:List Nat) (k:Int),vs=[.str (tx l),.int k,.str (tx p)]/\l.length<=10000/\p.length<=10000/\Q (.bl (zx l k p)) H
theorem ka{l p:List Nat}{k:Int}{H:Hp}{Q:VK}{E:XK}(h1:l.length<=10000)(h2:p.length<=10000)(h:Q (.bl (zx l k p)) H):xw [.str (tx l),.int k,.str (tx p)] H Q E:=⟨l,p,k,rfl,h1,h2,h⟩
theorem ZL:zp ["word","place","part"] ["word","place","part"] (zh vj):=by nofun
theorem kX{f:oO}{fd:oS}(B:Bt mg)(F:Fun K "stands_at" "stands_at" vj f fd):z8 P w K mg base CX0 1 f fd ["word","place","part"] xw:=by
 refine F.ok ZL (λvs H Q E h=>?_) (λcdv A outer s H vs Q E hr h=>?_)
 ·obtain⟨l,p,k,rfl,_⟩:=h
  rfl
 ·obtain⟨l,p,k,rfl,hl,hp,q⟩:=h
  refine⟨_,(zM (zR (yd (kj uq uq zf (pv 1) (zB uA (zm zZ rfl B.len ax (za (pv 0) ze)) (zm zZ rfl B.len ax (za (pv 2) ze)))))
    (zg (zt yw))
    zA)
   (zg (zt (wz uG (zO yZ (pv 0) (zV (pv 1)) (zV (zB op_add (pv 1) (zm zZ rfl B.len ax (za (pv 2) ze))))) (pv 2) (zI _))))),?_⟩
  have s16:=ya
  rfl'
  have no:¬ (0<=k/\k+p.length<=l.length/\(l.drop k.toNat).take p.length=p)->Q (.bl sL) H:=λh=>by
   have e:zx l k p=sL:=decide_eq_false h
   rw[e] at q
   exact q
  refine yT (λh0=>⟨by lia,by lia,yT (λh1=>no λh=>absurd h.2.1 (by lia)) λh1=>⟨by lia,by lia,?_⟩⟩) λh0=>no λh=>h0 h.1
  rw[VI _ h0 (by lia) (by lia)]
  have e:(k+(p.length:Int) - k).toNat=p.length:=by lia
  rw[e]
  have e2:zx l k p=decide ((l.drop k.toNat).take p.length=p):=by
   unfold zx
   exact decide_eq_decide.mpr ⟨λh=>h.2.2,λh=>⟨h0,by lia,h⟩⟩
  rw[<- e2]
  exact q
noncomputable def yI(l:List Nat)(k:Int)(o n:List Nat):List Nat:=l.take k.toNat ++ n ++ l.drop (k.toNat+o.length)
theorem wj{l o:List Nat}{k:Int}(h:zx l k o=sK):l.take k.toNat ++ o ++ l.drop (k.toNat+o.length)=l/\(l.take k.toNat).length=k.toNat/\0<=k/\k+o.length<=l.length:=by
 unfold zx at h
 rw[decide_eq_true_eq] at h
 obtain⟨h0,h1,h2⟩:=h
 refine⟨?_,by rw[az];lia,h0,h1⟩
 have e:l.drop k.toNat=o ++ l.drop (k.toNat+o.length):=by
  have:=aZ o.length (l.drop k.toNat)
  rw[h2,cQ] at this
  exact this.symm
 rw[ar,<- e,aZ]
theorem YL{l o:List Nat}{k:Int}(n:List Nat)(h:zx l k o=sK):zx (yI l k o n) k n=sK/\yI (yI l k o n) k n o=l:=by
 obtain⟨e,hl,h0,h1⟩:=wj h
 have e1:(yI l k o n).take k.toNat=l.take k.toNat:=by
  unfold yI
  rw[ar,aS (by lia),ba (by lia)]
 have e2:(yI l k o n).drop k.toNat=n ++ l.drop (k.toNat+o.length):=by
  unfold yI
  rw[ar,bA (by lia),aY (by lia),bD]
 have e3:(yI l k o n).length=l.length - o.length+n.length:=by
  unfold yI
  simp only[ak,aR,hl]
  lia
 refine⟨?_,?_⟩
 ·unfold zx
  refine decide_eq_true ⟨h0,by lia,?_⟩
  rw[e2,aS (by lia),ba (by lia)]
 ·show (yI l k o n).take k.toNat ++ o ++ (yI l k o n).drop (k.toNat+n.length)=l
  rw[e1,<- cQ,e2,bA (by lia),aY (by lia),bD]
  exact e
structure TNU(K:oN)(mg:oV->Option oP)(C:oO):Prop where
 xi:XI K C
 g:mg "NoUse" = sI (.ref C)
 na:NoAttr K C "at"
theorem jZ:zp ["self","at"] ["self","at"] (zh yz):=by nofun
theorem jJ{f C:oO}{fd:oS}(T:TNU K mg C)(F:Fun K "__init__" "NoUse.__init__" yz f fd):z8 P w K mg base CX0 1 f fd ["self","at"] (vz C "at"):=by
 refine F.ok jZ (λvs H Q E h=>?_) (λcdv A outer s H vs Q E hr h=>?_)
 ·obtain⟨x,v,rfl,_⟩:=h
  rfl
 ·obtain⟨x,v,rfl,hx,q⟩:=h
  refine⟨_,(zg (VX (pv 0) (pv 1) rfl)),?_⟩
  simp only[JO]
  rfl'
  exact⟨C,hx,T.xi.toXC,T.na,q⟩
structure DNU(P:oU)(w:oW)(K:oN)(mg:oV->Option oP)(base:oZ)(C:oO):Prop extends TNU K mg C where
 ini:∃f fd,ah K (.ref C) "__init__" = sI (sI (.ref f))/\bc K (.ref f)=sK/\z8 P w K mg base CX0 1 f fd ["self","at"] (vz C "at")/\Binds K fd ["self","at"] []
def ZA(C:oO):Sp:=λvs H Q E=>∃(l o n:List Nat) (k:Int),vs=[.str (tx l),.int k,.str (tx o),.str (tx n)]/\l.length<=10000/\o.length<=10000/\n.length<=10000/\(zx l k o=sK->Q (.str (tx (yI l k o n))) H)/\(zx l k o=sL->∀d H',zaX H d "at" (.int 0) H'->E (.ref C) (sI d) H')
theorem zaC:zp ["word","place","old","new"] ["word","place","old","new"] (zh Jr):=by nofun
theorem zak{f C:oO}{fd:oS}(B:Bt mg)(T:DNU P w K mg base C)(F:Fun K "put" "put" Jr f fd)(nP:Df P w K mg base CX0 1 "stands_at" ["word","place","part"] [] xw):z8 P w K mg base (CXx P w) 3 f fd ["word","place","old","new"] (ZA C):=by
 obtain⟨fi,fdi,hi,hfn,Fi,Bi⟩:=T.ini
 refine Fun.okX F zaC (λvs H Q E h=>?_) (λcdv A outer s H vs Q E hr hx h=>?_)
 ·obtain⟨l,o,n,k,rfl,_⟩:=h
  rfl
 ·obtain⟨l,o,n,k,rfl,hl,ho,hn,q1,q2⟩:=h
  refine⟨_,(zM (zR (yd (Y2 (cl0 nP hr .nil rfl (za (pv 0) (za (pv 1) (za (pv 2) ze)))) (λ_=>rfl)))
    (zg (kT hx rfl T.xi.toXC hi hfn Fi hr Bi rfl T.g (za zf ze)))
    zA)
   (zg (zt (zB op_add_str (zB op_add_str (zO yZ (pv 0) ym (zV (pv 1))) (pv 3)) (zO yZ (pv 0) (zV (zB op_add (pv 1) (zm zZ rfl B.len ax (za (pv 2) ze)))) ym))))),?_⟩
  have s16:=ya
  rfl'
  refine ka hl ho ?_
  rfl'
  refine yT (λhb=>⟨by lia,Ul (q2 hb)⟩) λhb=>?_
  have hb':zx l k o=sK:=by simpa using hb
  obtain⟨_,_,h0,h1⟩:=wj hb'
  have c1:=vP l sJ (sI k)
  have c2:=vP l (sI (k + ↑o.length)) sJ
  refine⟨by lia,by lia,by lia,by lia,?_,?_⟩
  ·simp only[ak]
   lia
  ·have e:cut l sJ (sI k) ++ n ++ cut l (sI (k + ↑o.length)) sJ=yI l k o n:=by
    rw[uk _ h0,xx _ (by lia)]
    have:(k+(o.length:Int)).toNat=k.toNat+o.length:=by lia
    rw[this]
    rfl
   rw[e]
   exact q1 hb'
structure TOrd(K:oN)(mg:oV->Option oP)(CO CR CW:oO):Prop where
 cO:Cls K CO
 cR:Cls K CR
 cW:Cls K CW
 gO:mg "Order" = sI (.ref CO)
 gR:mg "FromRight" = sI (.ref CR)
 gW:mg "ByWeights" = sI (.ref CW)
 lO:NoAttr K CO "letters"
 lR:NoAttr K CR "letters"
 lW:NoAttr K CW "letters"
 wW:NoAttr K CW "weights"
def OrdAt(CO CR CW:oO)(H:Hp)(o:oO)(k:Nat)(l:List Nat)(ns:List Int):Prop:=∃dx,(k=0/\H o=sI (.ins CO dx [("letters",.str (tx l))]))\/(k=1/\H o=sI (.ins CR dx [("letters",.str (tx l))])) \/
 (k=2/\ns.length=l.length/\∃w,H o=sI (.ins CW dx [("letters",.str (tx l)),("weights",.ref w)])/\H w=sI (.tup (ns.map V.int)))
theorem OrdAt.same{CO CR CW:oO}{H H':Hp}{o:oO}{k:Nat}{l:List Nat}{ns:List Int}(h:OrdAt CO CR CW H o k l ns)(e:Same H H'):OrdAt CO CR CW H' o k l ns:=by
 obtain⟨dx,⟨h1,h2⟩ | ⟨h1,h2⟩ | ⟨h1,h2,w,h3,h4⟩⟩:=h
 ·exact⟨dx,.inl ⟨h1,e _ _ h2⟩⟩
 ·exact⟨dx,.inr (.inl ⟨h1,e _ _ h2⟩)⟩
 ·exact⟨dx,.inr (.inr ⟨h1,h2,w,e _ _ h3,e _ _ h4⟩)⟩
noncomputable def Wb(l:List Nat)(ns:List Int)(w:List Nat):Int:=((l.zip ns).map λp=>(w.count p.1:Int) * p.2).sum
noncomputable def zl(k:Nat)(l:List Nat)(ns:List Int)(w:List Nat):Int:=if k=2 then Wb l ns w else (w.length:Int)
noncomputable def yh(k:Nat)(w:List Nat):List Nat:=if k=1 then w.reverse else w
def u8(K:oN):Sp:=λvs H Q _=>∃(x C dx:oO) (l:List Nat),vs=[.ref x,.str (tx l)]/\qI l=sK/\Cls K C/\NoAttr K C "letters"/\H x=sI (.ins C dx [])/\Q .non (upd H x (.ins C dx [("letters",.str (tx l))]))
theorem jP:zp ["self","letters"] ["self","letters"] (zh wq):=by nofun
theorem xU{f:oO}{fd:oS}(B:Bt mg)(F:Fun K "__init__" "Order.__init__" wq f fd)(nH:Df P w K mg base (CXx P w) 2 "letters_of" ["text"] [] (we C)):z8 P w K mg base CX0 3 f fd ["self","letters"] (u8 K):=by
 refine F.ok jP (λvs H Q E h=>?_) (λcdv A outer s H vs Q E hr h=>?_)
 ·obtain⟨x,C,dx,l,rfl,_⟩:=h
  rfl
 ·obtain⟨x,C,dx,l,rfl,hg,hC,hN,hx,q⟩:=h
  refine⟨_,(zg (Xk (pv 0) (clP xe0 nH hr .nil rfl (za (pv 1) ze)) rfl)),?_⟩
  have s16:=ya
  rfl'
  exact⟨l,rfl,by have:=of_decide_eq_true hg;lia,λ_=>⟨_,_,_,hx,hC,hN,by decide,q⟩,λe=>by rw[hg] at e;cases e⟩
def jN:Sp:=λvs H Q _=>∃(o:oO) (w:List Nat),vs=[.ref o,.str (tx w)]/\w.length<=1000/\Q (.int (w.length:Nat)) H
theorem qC:zp ["self","word"] ["self","word"] (zh xB):=by nofun
theorem wP{f:oO}{fd:oS}(B:Bt mg)(F:Fun K "weight" "Order.weight" xB f fd) : z8 P w K mg base CX0 1 f fd ["self","word"] jN:=by
 refine F.ok qC (λvs H Q E h=>?_) (λcdv A outer s H vs Q E hr h=>?_)
 ·obtain⟨o,w,rfl,_⟩:=h
  rfl
 ·obtain⟨o,w,rfl,hw,q⟩:=h
  refine⟨_,(zg (zt (zm zZ rfl B.len ax (za (pv 1) ze)))),?_⟩
  have s16:=ya
  rfl'
  exact⟨by lia,q⟩
def Xm:Sp:=λvs H Q _=>∃(o:oO) (w:List Nat),vs=[.ref o,.str (tx w)]/\Q (.str (tx w)) H
theorem j4:zp ["self","word"] ["self","word"] (zh wy):=by nofun
theorem vG{f:oO}{fd:oS}(B:Bt mg)(F:Fun K "seen" "Order.seen" wy f fd) : z8 P w K mg base CX0 1 f fd ["self","word"] Xm:=by
 refine F.ok j4 (λvs H Q E h=>?_) (λcdv A outer s H vs Q E hr h=>?_)
 ·obtain⟨o,w,rfl,_⟩:=h
  rfl
 ·obtain⟨o,w,rfl,q⟩:=h
  refine⟨_,(zg (zt (pv 1))),?_⟩
  have s16:=ya
  rfl'
  exact q
def Yh:Sp:=λvs H Q _=>∃(o:oO) (w:List Nat),vs=[.ref o,.str (tx w)]/\w.length<=1000/\Q (.str (tx w.reverse)) H
theorem uc:zp ["self","word"] ["self","word"] (zh yS):=by nofun
theorem v0{f:oO}{fd:oS}(B:Bt mg)(F:Fun K "seen" "FromRight.seen" yS f fd) : z8 P w K mg base CX0 1 f fd ["self","word"] Yh:=by
 refine F.ok uc (λvs H Q E h=>?_) (λcdv A outer s H vs Q E hr h=>?_)
 ·obtain⟨o,w,rfl,_⟩:=h
  rfl
 ·obtain⟨o,w,rfl,hw,q⟩:=h
  refine⟨_,(zg (zt (JW (pv 1) (zcH za5 zf)))),?_⟩
  have s16:=ya
  ac_rfl
  exact⟨by lia,q⟩
structure zcY(K:oN)(mg:oV->Option oP)(C:oO):Prop where
 xi:XI K C
 ini:ah K (.ref C) "__init__" = sI (sI (.builtin "ValueError.__init__"))
 g:mg "NoOrder" = sI (.ref C)
 most:∃t,mg "MOST_WEIGHT" = sI (.int 1000000 t)
abbrev DOI(P:oU)(w:oW)(K:oN)(mg:oV->Option oP)(base:oZ)(CO:oO):Prop:=DC P w K mg base CX0 3 CO "__init__" ["self","letters"] (u8 K)
def kD(K:oN)(CW:oO):Sp:=λvs H Q _=>∃(x dx a:oO) (l:List Nat) (ns:List Int),vs=[.ref x,.str (tx l),.ref a]/\qI l=sK/\SqL K H a (ns.map V.int)/\ns.length=l.length/\(∀n ∈ ns,1<=n/\n<=1000000)/\H x=sI (.ins CW dx []) /\
 ∀w H',H w=sJ->w≠x->(∀b o,b≠x->H b=sI o->H' b=sI o)->H' w=sI (.tup (ns.map V.int))->H' x=sI (.ins CW dx [("letters",.str (tx l)),("weights",.ref w)])->Q .non H'
theorem iY:zp ["self","letters","weights","weight"] ["self","letters","weights"] (zh yW):=by nofun
theorem vZ{f CO CR CW CN:oO}{fd:oS}(B:Bt mg)(T:TOrd K mg CO CR CW)(TN:zcY K mg CN)(DI:DOI P w K mg base CO)(F:Fun K "__init__" "ByWeights.__init__" yW f fd) : z8 P w K mg base (CXx P w) 4 f fd ["self","letters","weights"] (kD K CW):=by
 obtain⟨t6,g6⟩:=TN.most
 refine Fun.okX F iY (λvs H Q E h=>?_) (λcdv A outer s H vs Q E hr hx h=>?_)
 ·obtain⟨x,dx,a,l,ns,rfl,_⟩:=h
  rfl
 ·obtain⟨x,dx,a,l,ns,rfl,hg,hS,hl,hb,hX,q⟩:=h
  refine⟨_,(zi (vW (Kt DI hr rfl T.gO (za (pv 0) (za (pv 1) ze))))
   (zi (zR (zG kM (zm zZ rfl B.len ax (za (pv 2) ze)) (zm zZ rfl B.len ax (za (pv 1) ze)) (zI _))
    (zg (yG hx rfl TN.xi.toXC TN.ini rfl TN.g (za xf ze)))
    zA)
   (zi (yq PassesOwn.leaving rfl (yt (pv 2)) (zy (i:=3) iY.nd rfl (.inl rfl))
    (zg (zR (yd (kj uq uq zf (pv 3) (yK (v:=.int 1000000) rfl g6 ⟨t6,rfl⟩)))
     (zg (yG hx rfl TN.xi.toXC TN.ini rfl TN.g (za xf ze)))
     zA)))
   (zg (Xk (pv 0) (xN jS rfl B.tuple PySem.Pv.boot_tuple (za (pv 2) ze)) rfl))))),?_⟩
  have s16:=ya
  have hbx:∀b o,b≠x->H b=sI o->upd H x (.ins CW dx [("letters",.str (tx l))]) b=sI o:=λb o hb e=>by rw[zo hb];exact e
  have hS1:SqL K (upd H x (.ins CW dx [("letters",.str (tx l))])) a (ns.map V.int):=by
   rcases hS with (h | ⟨o,h⟩) | h
   ·exact .inl (.inl (hbx _ _ (λe=>by rw[e,hX] at h;cases h) h))
   ·exact .inl (.inr ⟨o,hbx _ _ (λe=>by rw[e,hX] at h;cases h) h⟩)
   ·exact .inr h
  refine zk (λσ H'=>H'=upd H x (.ins CW dx [("letters",.str (tx l))])/\σ=[sI (.ref x),sI (.str (tx l)),sI (.ref a),sJ]) ?_ ?_
  ·ac_rfl
   exact⟨x,CW,dx,l,rfl,hg,T.cW,T.lW,hX,rfl⟩
  rintro σ H1 ⟨rfl,rfl⟩
  refine zk (λσ H'=>H'=upd H x (.ins CW dx [("letters",.str (tx l))])/\σ=[sI (.ref x),sI (.str (tx l)),sI (.ref a),sJ]) ?_ ?_
  ·have hl6:l.length<=6:=by have:=of_decide_eq_true hg;lia
   ac_rfl
   refine⟨ns.length,.inl ⟨_,hS1,by rw[ae]⟩,by lia,yT (λh=>absurd (by lia) h) λ_=>trivial⟩
  rintro σ H1 ⟨rfl,rfl⟩
  refine zk (λσ H'=>H'=upd H x (.ins CW dx [("letters",.str (tx l))])/\∃v3,σ=[sI (.ref x),sI (.str (tx l)),sI (.ref a),v3]) ?_ ?_
  ·ac_rfl
   refine⟨⟨_,hS1⟩,ForL.by (xs:=ns.map V.int) (λi σ H'=>H'=upd H x (.ins CW dx [("letters",.str (tx l))])/\∃v3,σ=[sI (.ref x),sI (.str (tx l)),sI (.ref a),v3]) ⟨rfl,sJ,rfl⟩ (λi σ H' _ h=>by rw[h.1];exact hS1) ?_ λσ H' h=>h⟩
   rintro i y σ H' hy ⟨rfl,v3,rfl⟩
   rw[aG] at hy
   obtain⟨n,hn,rfl⟩:=tj.mp hy
   obtain⟨n1,n2⟩:=hb n (ac hn)
   ac_rfl
   exact yT (λ_=>yT (λh=>absurd n2 h) λ_=>trivial) λh=>absurd n1 h
  rintro σ H1 ⟨rfl,v3,rfl⟩
  ac_rfl
  refine⟨_,.inl ⟨hS1,λw hw=>?_⟩⟩
  have hwx:w≠x:=λe=>by rw[e,zc] at hw;cases hw
  have hwH:H w=sJ:=by rw[zo hwx] at hw;exact hw
  have hX2:=zd (o:=.tup (ns.map V.int)) hw _ _ (zc (H:=H) (a:=x) (o:=.ins CW dx [("letters",.str (tx l))]))
  refine⟨_,_,_,hX2,T.cW,T.wW,by show 1<1000;decide,q w _ hwH hwx (λb o hb' e=>?_) ?_ zc⟩
  ·rw[zo hb']
   exact zd hw _ _ (hbx b o hb' e)
  ·rw[zo hwx]
   exact zc
theorem Q5{x y:V}{r:L2.St}:yN (sJ::sJ::r) (sI x::sI y::r):=⟨rfl,λi v h=>by
 cases i with
 | zero=>cases h
 | succ i =>
  cases i with
  | zero=>cases h
  | succ i=>exact h⟩
def ZZ(CW:oO):Sp:=λvs H Q _=>∃(o dx t:oO) (w l:List Nat) (ns:List Int),vs=[.ref o,.str (tx w)]/\w.length<=1000/\l.length<=6/\ns.length=l.length/\(∀n ∈ ns,1<=n/\n<=1000000)/\H o=sI (.ins CW dx [("letters",.str (tx l)),("weights",.ref t)])/\H t=sI (.tup (ns.map V.int))/\∀H',Same H H'->Q (.int (Wb l ns w)) H'
theorem vh:zp ["self","word"] ["self","word"] (zh yj):=by nofun
theorem vm{f CO CR CW:oO}{fd:oS}(B:Bt mg)(T:TOrd K mg CO CR CW)(F:Fun K "weight" "ByWeights.weight" yj f fd) : z8 P w K mg base CX0 1 f fd ["self","word"] (ZZ CW):=by
 refine F.ok vh (λvs H Q E h=>?_) (λcdv A outer s H vs Q E hr h=>?_)
 ·obtain⟨o,dx,t,w,l,ns,rfl,_⟩:=h
  rfl
 ·obtain⟨o,dx,t,w,l,ns,rfl,hw,hl,hn,hb,ho,ht,q⟩:=h
  refine⟨_,(zg (zt (zm (zaT rfl) rfl B.sum eZ (za (yu (g:=K9 K 2 (kA (xg 0) (kA (xg 1) K6))) (own:=["letter","weight"]) (caps:=["word"]) (ix:=[1]) (tt:=xL) (te:=(tOp JV (tBM K "str" Ua (yo 2) (zJ (yo 0) xS)) (yo 1))) rfl (zL (sc:=zh yj) rfl (by symm) (by symm) (by symm) rfl (by symm) (by symm) rfl) (zam rfl B.zip (za (YQ (pv 0) rfl) (za (YQ (pv 0) rfl) ze))) (λ_ _ _ _ _ _=>vd (n:=2) rfl (zN (zy (i:=0) (show List.Nodup [_,_,_] by decide) rfl (.inl rfl)) (zN (zy (i:=1) (show List.Nodup [_,_,_] by decide) rfl (.inl rfl)) xJ))) (λ_ _ _ _ _ _=>yg) (λ_ _ _ _ _ _=>(zB J0 (uH bz eW eX Wy (pv 2) (za (pv 0) ze)) (pv 1)))) ze)))),?_⟩
  have s16:=ya
  ac_rfl
  refine⟨_,_,_,ho,T.cW,T.lW,_,rfl,_,_,_,ho,T.cW,T.wW,_,rfl,l,rfl,t,rfl,⟨_,SqT.of ht⟩,λD hD=>CompZ.by (ys:=ns.map V.int) (λi sP H'=>Same H H'/\H' D=sI (.lst sP)/\sP=((((l.zip ns).map λp=>(w.count p.1:Int) * p.2).take i).map V.int)) (by rw[ae];lia) ⟨zd hD,zc,rfl⟩ (λi sP H' _ h=>SqT.of (h.1 _ _ ht)) ?_ ?_⟩
  ·rintro i c y sP H' p hc hy ⟨hs,hH,rfl⟩ hp
   have hi:=(sQ.mp hc).1
   rw[aG] at hy
   obtain⟨n,hn',rfl⟩:=tj.mp hy
   have hz:((l.zip ns).map λp=>(w.count p.1:Int) * p.2)[i]? = sI ((w.count c:Int) * n):=by
    rw[aG,(List.getElem?_zip_eq_some (z:=(c,n))).mpr ⟨hc,hn'⟩]
    rfl
   obtain⟨n1,n2⟩:=hb n (ac hn')
   have hcl:w.count c<=w.length:=List.count_le_length
   have hcn:(w.count c:Int) * n=(w.count c:Int) * n:=rfl
   simp only[xL]
   ac_rfl
   refine⟨_,SqT.of zc,rfl,_,_,rfl,_,_,rfl,rfl,Q5,_,rfl,_,rfl,?_,zd hp _ _ hH,by rw[ae,az];lia,?_⟩
   ·exact .inr ⟨by lia,by lia⟩
   ·rw[Wh]
    refine CNx.mk hi ⟨zE (hs.trans (zd hp)) hD,zc,?_⟩
    rw[zQ hz,ay]
    rfl
  ·rintro sP H' ⟨hs,hH,rfl⟩
   have e:l.length=((l.zip ns).map λp=>(w.count p.1:Int) * p.2).length:=by rw[ae,List.length_zip];lia
   refine⟨D,rfl,_,SqL.of hH,?_⟩
   rw[e,aK]
   exact q _ hs
theorem zcx(l:List Nat)(c e:Nat):StrLaws.At (tx l) (tx [c]) (tx l).length e ↔ l[e]? = sI c:=by
 unfold StrLaws.At Builtin.Str.subAt
 rw[zD,zD]
 have h1:[c].length=1:=rfl
 rw[h1,beq_iff_eq]
 have e1:((tx l).cps.extract e (e+1)).toList=(l.drop e).take 1:=by
  show (l.toArray.extract e (e+1)).toList=_
  simp [em]
 have e2:((tx l).cps.extract e (e+1)=(tx [c]).cps) ↔ (l.drop e).take 1=[c]:=by
  constructor
  ·intro h
   rw[<- e1,h]
  ·intro h
   apply Array.toList_inj.mp
   rw[e1,h]
 constructor
 ·rintro⟨h2,h3⟩
  have:=e2.mp h3
  rw[aV (by lia),dc,br] at this
  rw[aj (by lia)]
  injection this with h _
  rw[h]
 ·intro h
  obtain⟨he,hx⟩:=sQ.mp h
  refine⟨by lia,e2.mpr ?_⟩
  rw[aV he,dc,br,hx]
theorem Uc{l:List Nat}{c:Nat}(h:c ∈ l):Txt.find (tx l) (tx [c])=((l.idxOf c:Nat):Int):=by
 have hlt:=bG h
 have hg:l[l.idxOf c]? = sI c:=by rw[aj hlt,d6]
 rcases PyProof.Rows.find_whole (tx l) (tx [c]) with ⟨h1,h2⟩ | ⟨e,h1,h2,h3⟩
 ·exact absurd ((zcx l c _).mpr hg) (h2 _)
 ·have he:=(zcx l c e).mp h2
  have:e=l.idxOf c:=by
   rcases eh e (l.idxOf c) with q | q | q
   ·have:=List.not_of_lt_findIdx (p:=(· == c)) q
    obtain⟨h4,h5⟩:=sQ.mp he
    simp [h5] at this
   ·exact q
   ·exact absurd ((zcx l c _).mpr hg) (h3 _ q)
  rw[h1,this]
abbrev MkO(P:oU)(w:oW)(K:oN)(mg:oV->Option oP)(base:oZ)(C:oO):Prop:=DMk P w K mg base CX0 3 C ["self","letters"] (u8 K)
abbrev MkW(P:oU)(w:oW)(K:oN)(mg:oV->Option oP)(base:oZ)(C:oO):Prop:=DMk P w K mg base (CXx P w) 4 C ["self","letters","weights"] (kD K C)
abbrev MW(P:oU)(w:oW)(K:oN)(mg:oV->Option oP)(base:oZ)(C:oO)(m:oV)(sp:Sp):Prop:=DM P w K mg base CX0 1 C m ["self","word"] sp
structure TWS(P:oU)(w:oW)(K:oN)(mg:oV->Option oP)(base:oZ)(CO CR CW:oO):Prop extends TOrd K mg CO CR CW where
 mO:MkO P w K mg base CO
 mR:MkO P w K mg base CR
 mW:MkW P w K mg base CW
 wO:MW P w K mg base CO "weight" jN
 wR:MW P w K mg base CR "weight" jN
 wW':MW P w K mg base CW "weight" (ZZ CW)
 sO:MW P w K mg base CO "seen" Xm
 sR:MW P w K mg base CR "seen" Yh
 sW:MW P w K mg base CW "seen" Xm
structure OG(l:List Nat)(ns:List Int)(k:Nat):Prop where
 g:qI l=sK
 k3:k<3
 nl:ns.length=l.length
 nb:∀n ∈ ns,1<=n/\n<=1000000
noncomputable def ut(l:List Nat)(w:List Nat):List Int:=w.map λc=>((l.idxOf c:Nat):Int)
noncomputable def xD(k:Nat)(l:List Nat)(w:List Nat):List Int:=ut l (yh k w)
def zaK(CO CR CW:oO):oO->Prop:=λC=>C=CO\/C=CR\/C=CW
theorem OrdAt.fam{CO CR CW:oO}{H:Hp}{o:oO}{k:Nat}{l:List Nat}{ns:List Int}(h:OrdAt CO CR CW H o k l ns):∃C dx fs,zaK CO CR CW C/\H o=sI (.ins C dx fs)/\(∀m:oV,m≠"letters"->m≠"weights"->fs.lookup m=sJ)/\fs.lookup ("letters" : oV)=sI (V.str (tx l)):=by
 have e1:∀m:oV,m≠"letters"->(m == ("letters" : oV))=sL:=λm hm=>by simpa using hm
 have e2:∀m:oV,m≠"weights"->(m == ("weights" : oV))=sL:=λm hm=>by simpa using hm
 obtain⟨dx,⟨h1,h2⟩ | ⟨h1,h2⟩ | ⟨h1,h2,w,h3,h4⟩⟩:=h
 ·exact⟨_,_,_,.inl rfl,h2,λm hm _=>by simp [bh,e1 m hm],rfl⟩
 ·exact⟨_,_,_,.inr (.inl rfl),h2,λm hm _=>by simp [bh,e1 m hm],rfl⟩
 ·exact⟨_,_,_,.inr (.inr rfl),h3,λm hm hm2=>by simp [bh,e1 m hm,e2 m hm2],rfl⟩
def qF(CO CR CW:oO):Sp:=λvs H Q _=>∃(o:oO) (k:Nat) (l:List Nat) (ns:List Int) (w:List Nat),vs=[.ref o,.str (tx w)]/\OrdAt CO CR CW H o k l ns/\OG l ns k/\w.length<=1000/\(∀c ∈ w,c ∈ l)/\∀(p q:oO) (H':Hp),Same H H'->H' p=sI (.tup [.int (zl k l ns w),.ref q])->H' q=sI (.lst ((xD k l w).map V.int))->Q (.ref p) H'
theorem U3{H:Hp}{CO CR CW o D:oO}{k:Nat}{l:List Nat}{ns:List Int}{v:List Nat}{a1:Option V}{Q:VK}(T:TOrd K mg CO CR CW)(ho:OrdAt CO CR CW H o k l ns)(hl:v.length<=1000)(hm:∀c ∈ v,c ∈ l)(hD:H D=sJ)(q:∀H',Same H H'->H' D=sI (.lst ((ut l v).map V.int))->Q (.ref D) H') :
  CompS (tx v) (xg 0) xL (tBM K "str" zv (zbu K (yo 1) "letters") (zJ (yo 0) xS)) 1 [0] [sI (.ref o),a1] H Q D:=by
 have s16:=ya
 refine CompS.by (λi sP H'=>Same H H'/\H' D=sI (.lst sP)/\sP=(ut l (v.take i)).map V.int) ⟨zd hD,zc,rfl⟩ ?_ ?_
 ·rintro i c sP H' hc ⟨hs,hH,rfl⟩
  have hci:=(sQ.mp hc).1
  have hcl:=hm c (ac hc)
  obtain⟨C,dx,fs,hf,ho',_,hlk⟩:=(ho.same hs).fam
  have hC:Cls K C/\NoAttr K C "letters":=by
   rcases hf with rfl | rfl | rfl
   ·exact⟨T.cO,T.lO⟩
   ·exact⟨T.cR,T.lR⟩
   ·exact⟨T.cW,T.lW⟩
  simp only[xL]
  ac_rfl
  refine⟨yF,_,_,_,ho',hC.1,hC.2,_,hlk,trivial,_,rfl,_,Uc hcl,hH,by rw[ae];unfold ut;rw[ae,az];lia,CNx.mk hci ⟨zE hs hD,zc,?_⟩⟩
  unfold ut
  rw[zQ hc,ay,ay]
  rfl
 ·rintro sP H' ⟨hs,hH,rfl⟩
  rw[aK] at hH
  exact q H' hs hH
theorem jR:zp ["self","word"] ["self","word"] (zh xv):=by nofun
theorem wa{f CO CR CW:oO}{fd:oS}(B:Bt mg)(T:TWS P w K mg base CO CR CW)(F:Fun K "rank" "Order.rank" xv f fd) : z8 P w K mg base CX0 2 f fd ["self","word"] (qF CO CR CW):=by
 refine F.ok jR (λvs H Q E h=>?_) (λcdv A outer s H vs Q E hr h=>?_)
 ·obtain⟨o,k,l,ns,w,rfl,_⟩:=h
  rfl
 ·obtain⟨o,k,l,ns,w,rfl,ho,hG,hw,hm,q⟩:=h
  refine⟨_,(zg (zt (zY (za (zaP T.wO T.wR T.wW' T.cO T.cR T.cW hr (pv 0) (za (pv 1) ze)) (za (yu (own:=["letter"]) (caps:=["self"]) (ix:=[0]) (tt:=xL) (te:=(tBM K "str" zv (zbu K (yo 1) "letters") (zJ (yo 0) xS))) rfl (zL (sc:=zh xv) rfl (by symm) (by symm) (by symm) rfl (by symm) (by symm) rfl) (kN (zaP T.sO T.sR T.sW T.cO T.cR T.cW hr (pv 0) (za (pv 1) ze))) (λ_ _ _ _ _ _=>zy (i:=0) (show List.Nodup [_,_] by decide) rfl (.inl rfl)) (λ_ _ _ _ _ _=>yg) (λ_ _ _ _ _ _=>(uH bz PySem.F.slot_str_index PySem.F.type_str_index KW (YQ (pv 1) rfl) (za (pv 0) ze)))) ze))))),?_⟩
  have s16:=ya
  have hsl:(yh k w).length<=1000:=by
   unfold yh
   split
   ·rw[cr]
    exact hw
   ·exact hw
  have hsm:∀c ∈ yh k w,c ∈ l:=λc hc=>by
   unfold yh at hc
   split at hc
   ·exact hm c (tm.mp hc)
   ·exact hm c hc
  have l6:l.length<=6:=(of_decide_eq_true hG.g).2.1
  have fin:∀H1,Same H H1->∀D,H1 D=sJ->CompS (tx (yh k w)) (xg 0) xL (tBM K "str" zv (zbu K (yo 1) "letters") (zJ (yo 0) xS)) 1 [0] [sI (.ref o),sI (.str (tx w))] H1 (λx5 H1=>2<=oM/\∀p,H1 p=sJ->Q (.ref p) (upd H1 p (.tup [.int (zl k l ns w),x5]))) D:=λH1 s1 D hD=>U3 T.toTOrd (ho.same s1) hsl hsm hD λH' s' hH=>⟨by lia,λp hp=>q p D _ (s1.trans (s'.trans (zd hp))) zc (zd hp _ _ hH)⟩
  ac_rfl
  obtain⟨dx',⟨h1,h2⟩ | ⟨h1,h2⟩ | ⟨h1,h2,t',h3,h4⟩⟩:=id ho
  ·have e1:zl k l ns w=(w.length:Int):=by unfold zl;rw[if_neg (by lia)]
   have e2:yh k w=w:=by unfold yh;rw[if_neg (by lia)]
   rw[e1,e2] at fin
   exact .inl ⟨_,_,h2,rfl,o,w,rfl,hw,.inl ⟨_,_,h2,rfl,o,w,rfl,_,rfl,fin H (Same.refl _)⟩⟩
  ·have e1:zl k l ns w=(w.length:Int):=by unfold zl;rw[if_neg (by lia)]
   have e2:yh k w=w.reverse:=by unfold yh;rw[if_pos h1]
   rw[e1,e2] at fin
   exact .inr (.inl ⟨_,_,h2,rfl,o,w,rfl,hw,.inr (.inl ⟨_,_,h2,rfl,o,w,rfl,hw,_,rfl,fin H (Same.refl _)⟩)⟩)
  ·have e1:zl k l ns w=Wb l ns w:=by unfold zl;rw[if_pos h1]
   have e2:yh k w=w:=by unfold yh;rw[if_neg (by lia)]
   rw[e1,e2] at fin
   exact .inr (.inr ⟨_,_,h3,rfl,o,dx',t',w,l,ns,rfl,hw,l6,hG.nl,hG.nb,h3,h4,λH' s'=>.inr (.inr ⟨_,_,s' _ _ h3,rfl,o,w,rfl,_,rfl,fin H' s'⟩)⟩)
noncomputable def zK(k:Nat)(l:List Nat)(ns:List Int)(u v:List Nat):Bool:=if zl k l ns u=zl k l ns v then ltI (xD k l u) (xD k l v) else decide (zl k l ns u<zl k l ns v)
abbrev DR(P:oU)(w:oW)(K:oN)(mg:oV->Option oP)(base:oZ)(CO CR CW:oO):Prop:=DMF P w K mg base CX0 2 (zaK CO CR CW) "rank" ["self","word"] (λ_=>qF CO CR CW)
theorem vR{H:Hp}{p q:oO}{z:Int}{ns:List Int}(hp:H p=sI (.tup [.int z,.ref q]))(hq:H q=sI (.lst (ns.map V.int))):Is K H (.tup [.int z,.lst (ns.map L3.D.int)]) (.ref p):=by
 simp only[Is,Iss]
 exact⟨p,_,rfl,SqT.of hp,_,_,rfl,rfl,_,_,rfl,⟨q,_,rfl,SqL.of hq,Iss.ints ns⟩,rfl⟩
theorem xa:∀x:List Int,ltI x x=sL
 | []=>rfl
 | a::x=>by
  rw[ltI,if_pos rfl]
  exact xa x
theorem Ya(a b:Int)(x y:List Int):ltD (.tup [.int a,.lst (x.map L3.D.int)]) (.tup [.int b,.lst (y.map L3.D.int)])=if a=b then ltI x y else decide (a<b):=by
 simp only[ltD,vO,eqD,kH,kP]
 by_cases h:a=b
 ·subst h
  by_cases h2:x=y
  ·subst h2
   simp [xa]
  ·simp [h2]
 ·simp [h]
def Wj(CO CR CW:oO):Sp:=λvs H Q _=>∃(o:oO) (k:Nat) (l:List Nat) (ns:List Int) (u v:List Nat),vs=[.ref o,.str (tx u),.str (tx v)]/\OrdAt CO CR CW H o k l ns/\OG l ns k/\u.length<=1000/\v.length<=1000/\(∀c ∈ u,c ∈ l)/\(∀c ∈ v,c ∈ l)/\∀H':Hp,Same H H'->Q (.bl (zK k l ns u v)) H'
theorem qB:zp ["self","one","other"] ["self","one","other"] (zh xG):=by nofun
theorem xm{f CO CR CW:oO}{fd:oS}(B:Bt mg)(DRk:DR P w K mg base CO CR CW)(F:Fun K "before" "Order.before" xG f fd) : z8 P w K mg base CX0 3 f fd ["self","one","other"] (Wj CO CR CW):=by
 refine F.ok qB (λvs H Q E h=>?_) (λcdv A outer s H vs Q E hr h=>?_)
 ·obtain⟨o,k,l,ns,u,v,rfl,_⟩:=h
  rfl
 ·obtain⟨o,k,l,ns,u,v,rfl,ho,hG,hu,hv,hmu,hmv,q⟩:=h
  refine⟨_,(zg (zt (wz (Jb (qE hr)) (K8 DRk hr (pv 0) (za (pv 1) ze)) (K8 DRk hr (pv 0) (za (pv 2) ze)) (zI _)))),?_⟩
  have s16:=ya
  ac_rfl
  obtain⟨C,dx,fs,hf,ho1,hn,_⟩:=ho.fam
  have h1:fs.lookup ("rank" : oV)=sJ:=hn _ (by decide) (by decide)
  refine⟨C,hf,dx,fs,ho1,h1,o,k,l,ns,u,rfl,ho,hG,hu,hmu,λp x H1 s1 hp hx=>⟨C,hf,dx,fs,s1 _ _ ho1,h1,o,k,l,ns,v,rfl,ho.same s1,hG,hv,hmv,λp' x' H2 s2 hp' hx'=>?_⟩⟩
  refine VS (vR (s2 _ _ hp) (s2 _ _ hx)) (vR hp' hx') (by simp only[dpD,vM,kd];decide) (by simp only[okD,jj];exact⟨trivial,vK _ _,trivial⟩) ?_
  rw[Ya]
  exact q H2 (s1.trans s2)
abbrev DB(P:oU)(w:oW)(K:oN)(mg:oV->Option oP)(base:oZ)(CO CR CW:oO):Prop:=DMF P w K mg base CX0 3 (zaK CO CR CW) "before" ["self","one","other"] (λ_=>Wj CO CR CW)
noncomputable def U8(k:Int)(ls:List Nat)(ns:List Int)(w:List Nat):Int:=(w.map λc=>if k=2 then ns.getD (ls.idxOf c) 0 else 1).sum
theorem Qo{k:Int}{ls:List Nat}{ns:List Int}{w:List Nat}(h:k≠2):U8 k ls ns w=(w.length:Int):=by
 unfold U8
 induction w with
 | nil=>rfl
 | cons c w ih =>
  rw[au,bi,ih,if_neg h,aN]
  lia
theorem qN{ls:List Nat}{ns:List Int}(f g:Nat->Int):((ls.zip ns).map λp=>(f p.1+g p.1) * p.2).sum=((ls.zip ns).map λp=>f p.1 * p.2).sum+((ls.zip ns).map λp=>g p.1 * p.2).sum:=by
 induction ls.zip ns with
 | nil=>rfl
 | cons p r ih =>
  rw[au,au,au,bi,bi,bi,ih,Int.add_mul]
  lia
theorem Vh:∀{ls:List Nat} {ns:List Int} {c:Nat},ls.Nodup->ns.length=ls.length->c ∈ ls->((ls.zip ns).map λp=>(if p.1=c then (1:Int) else 0) * p.2).sum=ns.getD (ls.idxOf c) 0
 | [],ns,c,_,_,hc=>(nomatch hc)
 | d::ls,[],c,_,hl,_=>by cases hl
 | d::ls,n::ns,c,hn,hl,hc=>by
  rw[dm,au,bi]
  have hnd:=tz.mp hn
  by_cases h:d=c
  ·subst h
   have h0:∀(l:List Nat) (m:List Int),d ∉ l->((l.zip m).map λp=>(if p.1=d then (1:Int) else 0) * p.2).sum=0:=by
    intro l
    induction l with
    | nil=>intro m _;rfl
    | cons x l ih =>
     intro m hx
     cases m with
     | nil=>rfl
     | cons y m =>
      rw[dm,au,bi,ih m (λq=>hx (ao _ q)),if_neg (show ¬ x=d from λe=>hx (by rw[e];exact aB))]
      lia
   rw[h0 ls ns hnd.1,if_pos rfl,List.idxOf_cons_self]
   simp
  ·have hc':c ∈ ls:=by
    rcases sU.mp hc with e | e
    ·exact absurd e.symm h
    ·exact e
   rw[Vh hnd.2 (by simpa using hl) hc',if_neg h,List.idxOf_cons,show (d == c)=sL by simpa using h]
   simp
theorem kh{ls:List Nat}{ns:List Int}(hn:ls.Nodup)(hl:ns.length=ls.length):∀{w:List Nat},(∀x ∈ w,x ∈ ls)->U8 2 ls ns w=Wb ls ns w
 | [],_=>by
  have h0:∀r:List (Nat × Int),(r.map λp=>((([]:List Nat).count p.1:Nat):Int) * p.2).sum=0:=by
   intro r
   induction r with
   | nil=>rfl
   | cons p r ih=>rw[au,bi,ih];simp
  exact (h0 _).symm
 | c::w,h=>by
  have ih:=kh hn hl (w:=w) λx hx=>h x (ao _ hx)
  have e1:U8 2 ls ns (c::w)=ns.getD (ls.idxOf c) 0+U8 2 ls ns w:=by
   unfold U8
   rw[au,bi,if_pos rfl]
  rw[e1,ih,<- Vh hn hl (h c aB)]
  unfold Wb
  rw[<- qN (λx=>if x=c then 1 else 0) (λx=>(w.count x:Int))]
  refine congrArg List.sum (cF λp _=>?_)
  rw[List.count_cons]
  by_cases e:c=p.1
  ·rw[if_pos e.symm,if_pos (by simpa using e)]
   simp [Int.add_comm]
  ·rw[if_neg (λz=>e z.symm),if_neg (by simpa using e)]
   simp
noncomputable def wt(k:Nat)(ns:List Int)(i:Int):Int:=if k=2 then ns.getD i.toNat 0 else 1
theorem xQ{g:Int->Int}:∀{x:List Int},(∀i ∈ x,0<g i)->0<=(x.map g).sum
 | [],_=>by simp
 | a::x,h=>by
  have h1:=h a aB
  have h2:=xQ (x:=x) λi hi=>h i (ao _ hi)
  rw[au,bi]
  lia
theorem wF:∀{x y:List Int},x≠y->ltI x y=!ltI y x
 | [],[],h=>absurd rfl h
 | [],_::_,_=>rfl
 | _::_,[],_=>rfl
 | a::x,b::y,h=>by
  rw[ltI,ltI]
  by_cases e:a=b
  ·rw[if_pos e,if_pos e.symm]
   exact wF λq=>h (by rw[e,q])
  ·rw[if_neg e,if_neg λq=>e q.symm]
   by_cases c:a<b
   ·rw[decide_eq_true c,decide_eq_false (by lia)]
    rfl
   ·rw[decide_eq_false c,decide_eq_true (by lia)]
    rfl
theorem qv:∀{x y z:List Int},ltI x y=sK->ltI y z=sK->ltI x z=sK
 | [],[],_,h,_=>by cases h
 | [],_::_,[],_,h=>by cases h
 | [],_::_,_::_,_,_=>rfl
 | _::_,[],_,h,_=>by cases h
 | _::_,_::_,[],_,h=>by cases h
 | a::x,b::y,c::z,h1,h2=>by
  rw[ltI] at h1 h2 ⊢
  by_cases e:a=b
  ·subst e
   rw[if_pos rfl] at h1
   by_cases f:a=c
   ·rw[if_pos f] at h2 ⊢
    exact qv h1 h2
   ·rw[if_neg f] at h2 ⊢
    exact h2
  ·rw[if_neg e] at h1
   have h1':=of_decide_eq_true h1
   by_cases f:b=c
   ·subst f
    rw[if_neg e]
    exact h1
   ·rw[if_neg f] at h2
    have h2':=of_decide_eq_true h2
    rw[if_neg (by lia)]
    exact decide_eq_true (by lia)
theorem Yj:∀(c x y:List Int),ltI (c ++ x) (c ++ y)=ltI x y
 | [],_,_=>rfl
 | a::c,x,y=>by
  rw[bJ,bJ,ltI,if_pos rfl]
  exact Yj c x y
theorem YG{g:Int->Int}{c:List Int}:∀{x y:List Int},(∀i ∈ x,0<g i)->(∀i ∈ y,0<g i)->(x.map g).sum=(y.map g).sum->ltI (x ++ c) (y ++ c)=ltI x y
 | [],[],_,_,_=>xa c
 | [],b::y,_,hy,h=>by
  have h1:=hy b aB
  have h2:=xQ (x:=y) λi hi=>hy i (ao _ hi)
  rw[au,bi,aP,List.sum_nil] at h
  lia
 | a::x,[],hx,_,h=>by
  have h1:=hx a aB
  have h2:=xQ (x:=x) λi hi=>hx i (ao _ hi)
  rw[au,bi,aP,List.sum_nil] at h
  lia
 | a::x,b::y,hx,hy,h=>by
  rw[bJ,bJ,ltI,ltI]
  by_cases e:a=b
  ·rw[if_pos e,if_pos e]
   rw[au,bi,au,bi,e] at h
   exact YG (λi hi=>hx i (ao _ hi)) (λi hi=>hy i (ao _ hi)) (by lia)
  ·rw[if_neg e,if_neg e]
section
variable{k:Nat}{l:List Nat}{ns:List Int}{t u v:List Nat}
theorem UF(a b:List Nat):Wb l ns (a ++ b)=Wb l ns a+Wb l ns b:=by
 unfold Wb
 rw[<- qN (λx=>(a.count x:Int)) (λx=>(b.count x:Int))]
 refine congrArg List.sum (cF λp _=>?_)
 rw[List.count_append]
 simp
theorem yy(a b:List Nat):zl k l ns (a ++ b)=zl k l ns a+zl k l ns b:=by
 unfold zl
 by_cases h:k=2
 ·rw[if_pos h,if_pos h,if_pos h,UF]
 ·rw[if_neg h,if_neg h,if_neg h,ak]
  lia
theorem yx(G:OG l ns k):∀{w:List Nat},(∀c ∈ w,c ∈ l)->zl k l ns w=((ut l w).map (wt k ns)).sum:=by
 intro w hm
 have hn:l.Nodup:=(of_decide_eq_true G.g).2.2.2
 have e:((ut l w).map (wt k ns)).sum=U8 (k:Int) l ns w:=by
  unfold ut U8
  rw[dN]
  refine congrArg List.sum (cF λc _=>?_)
  show wt k ns _=_
  unfold wt
  by_cases h:k=2
  ·rw[if_pos h,if_pos (by lia),aH]
  ·rw[if_neg h,if_neg (by lia)]
 rw[e]
 unfold zl
 by_cases h:k=2
 ·rw[if_pos h,h]
  exact (kh hn G.nl hm).symm
 ·rw[if_neg h,Qo (by lia)]
theorem Zm(G:OG l ns k)(hm:∀c ∈ u,c ∈ l):∀i ∈ ut l u,0<wt k ns i:=by
 intro i hi
 obtain⟨c,hc,rfl⟩:=sS.mp hi
 have hlt:=bG (hm c hc)
 have hl:=G.nl
 unfold wt
 split
 ·rw[aH,af,aj (by lia)]
  have:=(G.nb _ (List.getElem_mem (l:=ns) (n:=l.idxOf c) (by lia))).1
  show 0<ns[l.idxOf c]
  lia
 ·decide
theorem xZ(G:OG l ns k)(hm:∀c ∈ u,c ∈ l):0<=zl k l ns u:=by
 rw[yx G hm]
 exact xQ (Zm G hm)
theorem ub(G:OG l ns k)(hm:∀c ∈ u,c ∈ l)(h:u≠[]):0<zl k l ns u:=by
 cases u with
 | nil=>exact absurd rfl h
 | cons a u =>
  have h1:=Zm G hm (l.idxOf a:Nat) (sS.mpr ⟨a,aB,rfl⟩)
  have h2:0<=((ut l u).map (wt k ns)).sum:=xQ (Zm (u:=u) G λc hc=>hm c (ao _ hc))
  rw[yx G hm]
  show 0<((((l.idxOf a:Nat):Int)::ut l u).map (wt k ns)).sum
  rw[au,bi]
  lia
theorem kC:∀{u v:List Nat},(∀c ∈ u,c ∈ l)->(∀c ∈ v,c ∈ l)->ut l u=ut l v->u=v
 | [],[],_,_,_=>rfl
 | [],_::_,_,_,h=>by cases h
 | _::_,[],_,_,h=>by cases h
 | a::u,b::v,hu,hv,h=>by
  unfold ut at h
  rw[au,au] at h
  injection h with h1 h2
  have h3:l.idxOf a=l.idxOf b:=by lia
  have ha:=d6 (bG (hu a aB))
  have hb:=d6 (bG (hv b aB))
  have:a=b:=by
   rw[<- ha,<- hb]
   simp only[h3]
  rw[this,kC (λc hc=>hu c (ao _ hc)) (λc hc=>hv c (ao _ hc)) h2]
theorem zU:zK k l ns u u=sL:=by
 unfold zK
 rw[if_pos rfl,xa]
theorem YZ(hu:∀c ∈ u,c ∈ l)(hv:∀c ∈ v,c ∈ l)(h:xD k l u=xD k l v):u=v:=by
 unfold xD yh at h
 by_cases e:k=1
 ·rw[if_pos e,if_pos e] at h
  exact List.reverse_inj.mp (kC (λc hc=>hu c (tm.mp hc)) (λc hc=>hv c (tm.mp hc)) h)
 ·rw[if_neg e,if_neg e] at h
  exact kC hu hv h
theorem ja(hu:∀c ∈ u,c ∈ l)(hv:∀c ∈ v,c ∈ l)(h:u≠v):zK k l ns u v=!zK k l ns v u:=by
 unfold zK
 by_cases e:zl k l ns u=zl k l ns v
 ·rw[if_pos e,if_pos e.symm]
  exact wF λq=>h (YZ hu hv q)
 ·rw[if_neg e,if_neg λq=>e q.symm]
  by_cases c:zl k l ns u<zl k l ns v
  ·rw[decide_eq_true c,decide_eq_false (by lia)]
   rfl
  ·rw[decide_eq_false c,decide_eq_true (by lia)]
   rfl
theorem yn(h1:zK k l ns t u=sK)(h2:zK k l ns u v=sK):zK k l ns t v=sK:=by
 unfold zK at h1 h2 ⊢
 generalize zl k l ns t=a at *
 generalize zl k l ns u=b at *
 generalize zl k l ns v=c at *
 by_cases e:a=b
 ·subst e
  rw[if_pos rfl] at h1
  by_cases f:a=c
  ·rw[if_pos f] at h2 ⊢
   exact qv h1 h2
  ·rw[if_neg f] at h2 ⊢
   exact h2
 ·rw[if_neg e] at h1
  have h1':=of_decide_eq_true h1
  by_cases f:b=c
  ·subst f
   rw[if_neg e]
   exact h1
  ·rw[if_neg f] at h2
   have h2':=of_decide_eq_true h2
   rw[if_neg (by lia)]
   exact decide_eq_true (by lia)
theorem YT(a b:List Nat):ut l (a ++ b)=ut l a ++ ut l b:=ay
theorem kO(G:OG l ns k)(hu:∀c ∈ u,c ∈ l)(hv:∀c ∈ v,c ∈ l)(e:zl k l ns u=zl k l ns v)(c:List Int):ltI (ut l u ++ c) (ut l v ++ c)=ltI (ut l u) (ut l v):=by
 rw[yx G hu,yx G hv] at e
 exact YG (Zm G hu) (Zm G hv) e
theorem jo(G:OG l ns k)(hu:∀c ∈ u,c ∈ l):zl k l ns u.reverse=zl k l ns u:=by
 rw[yx G hu,yx G λc hc=>hu c (tm.mp hc)]
 unfold ut
 rw[List.map_reverse,List.map_reverse,List.sum_reverse]
theorem vq(G:OG l ns k)(ht:∀c ∈ t,c ∈ l)(hu:∀c ∈ u,c ∈ l)(hv:∀c ∈ v,c ∈ l):zK k l ns (t ++ u) (t ++ v)=zK k l ns u v/\zK k l ns (u ++ t) (v ++ t)=zK k l ns u v:=by
 have hur:∀c ∈ u.reverse,c ∈ l:=λc hc=>hu c (tm.mp hc)
 have hvr:∀c ∈ v.reverse,c ∈ l:=λc hc=>hv c (tm.mp hc)
 unfold zK
 rw[yy,yy,yy,yy]
 by_cases e:zl k l ns u=zl k l ns v
 ·rw[if_pos (by lia),if_pos e,if_pos (by lia)]
  unfold xD yh
  by_cases f:k=1
  ·simp only[if_pos f,List.reverse_append,YT]
   exact⟨kO G hur hvr (by rw[jo G hu,jo G hv,e]) _,Yj _ _ _⟩
  ·simp only[if_neg f,YT]
   exact⟨Yj _ _ _,kO G hu hv e _⟩
 ·rw[if_neg (by lia),if_neg e,if_neg (by lia)]
  exact⟨by congr 1;exact propext (by lia),by congr 1;exact propext (by lia)⟩
theorem Xq(G:OG l ns k)(ht:∀c ∈ t,c ∈ l)(hu:∀c ∈ u,c ∈ l)(hv:∀c ∈ v,c ∈ l)(h:t ++ u ++ v≠u):zK k l ns u (t ++ u ++ v)=sK/\zK k l ns (t ++ u ++ v) u=sL:=by
 have h0:0<zl k l ns t+zl k l ns v:=by
  have h1:=xZ G ht
  have h2:=xZ G hv
  by_cases e:t=[]
  ·by_cases f:v=[]
   ·subst e f
    simp at h
   ·have:=ub G hv f
    lia
  ·have:=ub G ht e
   lia
 unfold zK
 rw[yy,yy,if_neg (by lia),if_neg (by lia)]
 exact⟨decide_eq_true (by lia),decide_eq_false (by lia)⟩
end
theorem Zp:∀x y:List Int,ltI x y=sK->ltI y x=sL
 | [],[],h=>by cases h
 | [],_::_,_=>rfl
 | _::_,[],h=>by cases h
 | a::x,b::y,h=>by
  rw[ltI] at h ⊢
  by_cases e:a=b
  ·rw[if_pos e] at h
   rw[if_pos e.symm]
   exact Zp x y h
  ·rw[if_neg e] at h
   rw[if_neg (λq=>e q.symm)]
   have:=of_decide_eq_true h
   exact decide_eq_false (by lia)
theorem Z4{k:Nat}{l:List Nat}{ns:List Int}{u v:List Nat}(h:zK k l ns u v=sK):zK k l ns v u=sL:=by
 unfold zK at h ⊢
 by_cases e:zl k l ns u=zl k l ns v
 ·rw[if_pos e] at h
  rw[if_pos e.symm]
  exact Zp _ _ h
 ·rw[if_neg e] at h
  rw[if_neg (λq=>e q.symm)]
  have:=of_decide_eq_true h
  exact decide_eq_false (by lia)
noncomputable def stJ(l:List Nat)(ps:List zw)(q j:Nat):Bool:=((ps[j]?).map λp=>zx l (q:Int) p.1).getD sL
theorem jn{l:List Nat}{ps:List zw}{q j:Nat}{p:zw}(h:ps[j]? = sI p):stJ l ps q j=zx l (q:Int) p.1:=by
 unfold stJ
 rw[h]
 rfl
theorem wM{l:List Nat}{ps:List zw}{q j:Nat}(h:stJ l ps q j=sK):j<ps.length/\∃p,ps[j]? = sI p/\zx l (q:Int) p.1=sK:=by
 unfold stJ at h
 cases e:ps[j]? with
 | none=>rw[e] at h;cases h
 | some p =>
  rw[e] at h
  exact⟨(sQ.mp e).1,p,rfl,h⟩
noncomputable def qf(l:List Nat)(ps:List zw)(q i:Nat):List (Nat × Nat):=((aW i).filter (stJ l ps q)).map λj=>(j,q)
noncomputable def xt(l:List Nat)(ps:List zw)(k:Nat):List (Nat × Nat):=(aW k).flatMap λq=>qf l ps q ps.length
theorem X9(l:List Nat)(ps:List zw)(q i:Nat):qf l ps q (i+1)=qf l ps q i ++ (if stJ l ps q i=sK then [(i,q)] else []):=by
 unfold qf
 rw[cM,cN,ay]
 congr 1
 by_cases h:stJ l ps q i=sK
 ·rw[if_pos h,eO h]
  rfl
 ·rw[if_neg h,eP h]
  rfl
theorem ju(l:List Nat)(ps:List zw)(k:Nat):xt l ps (k+1)=xt l ps k ++ qf l ps k ps.length:=by
 unfold xt
 rw[cM,de]
 simp
theorem V2(l:List Nat)(ps:List zw)(q i:Nat):(qf l ps q i).length<=i:=by
 unfold qf
 rw[ae]
 have:=cS (stJ l ps q) (aW i)
 rw[dz] at this
 exact this
theorem VA(l:List Nat)(ps:List zw):∀k,(xt l ps k).length<=k * ps.length
 | 0=>by simp [xt]
 | k+1=>by
  rw[ju,ak,eD]
  have:=VA l ps k
  have:=V2 l ps k ps.length
  lia
theorem usesN_mem{l:List Nat}{ps:List zw}{q i:Nat}{u:Nat × Nat}:u ∈ qf l ps q i ↔ u.2=q/\u.1<i/\stJ l ps q u.1=sK:=by
 unfold qf
 rw[List.mem_map]
 constructor
 ·rintro⟨j,hj,rfl⟩
  rw[List.mem_filter,e7] at hj
  exact⟨rfl,hj.1,hj.2⟩
 ·rintro⟨h1,h2,h3⟩
  exact⟨u.1,sY.mpr ⟨sZ.mpr h2,h3⟩,by rw[<- h1]⟩
theorem usesK_mem{l:List Nat}{ps:List zw}{k:Nat}{u:Nat × Nat}:u ∈ xt l ps k ↔ u.2<k/\stJ l ps u.2 u.1=sK:=by
 unfold xt
 rw[List.mem_flatMap]
 constructor
 ·rintro⟨q,hq,hu⟩
  obtain⟨h1,h2,h3⟩:=usesN_mem.mp hu
  rw[e7] at hq
  rw[h1]
  exact⟨hq,h3⟩
 ·rintro⟨h1,h2⟩
  exact⟨u.2,sZ.mpr h1,usesN_mem.mpr ⟨rfl,(wM h2).1,h2⟩⟩
def uLt(a b:Nat × Nat):Prop:=a.2<b.2\/(a.2=b.2/\a.1<b.1)
theorem uu(l:List Nat)(ps:List zw)(q:Nat):∀i,(qf l ps q i).Pairwise uLt
 | 0=>by simp [qf]
 | i+1=>by
  rw[X9]
  refine tL.mpr ⟨uu l ps q i,?_,λa ha b hb=>?_⟩
  ·split
   ·exact eM _ _
   ·exact List.Pairwise.nil
  ·obtain⟨h1,h2,_⟩:=usesN_mem.mp ha
   split at hb
   ·rw[sX.mp hb]
    exact .inr ⟨h1,h2⟩
   ·cases hb
theorem wE(l:List Nat)(ps:List zw):∀k,(xt l ps k).Pairwise uLt
 | 0=>by simp [xt]
 | k+1=>by
  rw[ju]
  refine tL.mpr ⟨wE l ps k,uu l ps k _,λa ha b hb=>?_⟩
  have h1:=(usesK_mem.mp ha).1
  have h2:=(usesN_mem.mp hb).1
  exact .inl (by lia)
def FirstN(l:List Nat)(ps:List zw)(lo hi n:Nat)(r:Option (Nat × Nat)):Prop :=
 (r=sJ/\∀j q,j<n->lo<=q->q<hi->stJ l ps q j=sL) \/
 ∃n0 q0,r=sI (n0,q0)/\n0<n/\lo<=q0/\q0<hi/\stJ l ps q0 n0=sK/\∀j q,j<n->lo<=q->stJ l ps q j=sK->q0<q\/(q0=q/\n0<=j)
theorem FirstN.uniq{l:List Nat}{ps:List zw}{lo hi n:Nat}{r r':Option (Nat × Nat)}(h:FirstN l ps lo hi n r)(h':FirstN l ps lo hi n r'):r=r':=by
 rcases h with ⟨rfl,h⟩ | ⟨n0,q0,rfl,a1,a2,a3,a4,a5⟩
 ·rcases h' with ⟨rfl,_⟩ | ⟨n0,q0,rfl,a1,a2,a3,a4,a5⟩
  ·rfl
  ·rw[h n0 q0 a1 a2 a3] at a4
   cases a4
 ·rcases h' with ⟨rfl,h⟩ | ⟨n1,q1,rfl,b1,b2,b3,b4,b5⟩
  ·rw[h n0 q0 a1 a2 a3] at a4
   cases a4
  ·have x1:=a5 n1 q1 b1 b2 b4
   have x2:=b5 n0 q0 a1 a2 a4
   have e1:q0=q1:=by lia
   have e2:n0=n1:=by lia
   rw[e1,e2]
theorem XU{l:List Nat}{ps:List zw}{r:Option (Nat × Nat)}(h:FirstN l ps 0 l.length ps.length r):r=(xt l ps l.length).head?:=by
 have hs:=wE l ps l.length
 refine h.uniq ?_
 cases e:xt l ps l.length with
 | nil =>
  refine .inl ⟨rfl,λj q _ _ hq=>?_⟩
  cases hb:stJ l ps q j with
  | false=>rfl
  | true =>
   have:(j,q) ∈ xt l ps l.length:=usesK_mem.mpr ⟨hq,hb⟩
   rw[e] at this
   cases this
 | cons u us =>
  rw[e] at hs
  have hu:u ∈ xt l ps l.length:=by rw[e];exact aB
  obtain⟨h1,h2⟩:=usesK_mem.mp hu
  refine .inr ⟨u.1,u.2,rfl,(wM h2).1,aI _,h1,h2,λj q hj _ hb=>?_⟩
  by_cases hq:q<l.length
  ·have:(j,q) ∈ xt l ps l.length:=usesK_mem.mpr ⟨hq,hb⟩
   rw[e] at this
   rcases sU.mp this with e2 | e2
   ·rw[<- e2]
    exact .inr ⟨rfl,am _⟩
   ·rcases (tM.mp hs).1 _ e2 with h | ⟨h,h'⟩
    ·exact .inl h
    ·exact .inr ⟨h,dj h'⟩
  ·exact .inl (by lia)
theorem qP{l p:List Nat}{q:Nat}(hp:p≠[])(h:zx l (q:Int) p=sK):q<l.length:=by
 obtain⟨h0,h1,_⟩:=of_decide_eq_true h
 have:0<p.length:=tE.mpr hp
 lia
theorem FirstN.keep{l:List Nat}{ps:List zw}{lo hi n:Nat}{r:Option (Nat × Nat)}{p:zw}(h:FirstN l ps lo hi n r)(hp:ps[n]? = sI p)(hn:∀q:Nat,lo<=q->q<(r.map Prod.snd).getD hi->zx l (q:Int) p.1=sL):FirstN l ps lo hi (n+1) r:=by
 rcases h with ⟨rfl,h⟩ | ⟨n0,q0,rfl,a1,a2,a3,a4,a5⟩
 ·refine .inl ⟨rfl,λj q hj h1 h2=>?_⟩
  by_cases e:j<n
  ·exact h j q e h1 h2
  ·have:j=n:=by lia
   subst this
   rw[jn hp]
   exact hn q h1 h2
 ·refine .inr ⟨n0,q0,rfl,by lia,a2,a3,a4,λj q hj h1 h2=>?_⟩
  by_cases e:j<n
  ·exact a5 j q e h1 h2
  ·have:j=n:=by lia
   subst this
   rw[jn hp] at h2
   by_cases hq:q<q0
   ·rw[hn q h1 hq] at h2
    cases h2
   ·lia
theorem FirstN.take{l:List Nat}{ps:List zw}{lo hi n k:Nat}{r:Option (Nat × Nat)}{p:zw}(h:FirstN l ps lo hi n r)(hp:ps[n]? = sI p)(h1:lo<=k)(h2:k<(r.map Prod.snd).getD hi)(h3:zx l (k:Int) p.1=sK)(hn:∀q:Nat,lo<=q->q<k->zx l (q:Int) p.1=sL):FirstN l ps lo hi (n+1) (sI (n,k)):=by
 have hk:k<hi/\∀j q,j<n->lo<=q->stJ l ps q j=sK->k<q:=by
  rcases h with ⟨rfl,h⟩ | ⟨n0,q0,rfl,a1,a2,a3,a4,a5⟩
  ·refine⟨h2,λj q hj hl hb=>?_⟩
   by_cases hq:q<hi
   ·rw[h j q hj hl hq] at hb
    cases hb
   ·have h2':k<hi:=h2
    lia
  ·have h2':k<q0:=h2
   refine⟨by lia,λj q hj hl hb=>?_⟩
   have:=a5 j q hj hl hb
   lia
 refine .inr ⟨n,k,rfl,by lia,h1,hk.1,by rw[jn hp];exact h3,λj q hj hl hb=>?_⟩
 by_cases e:j<n
 ·exact .inl (hk.2 j q e hl hb)
 ·have:j=n:=by lia
  subst this
  rw[jn hp] at hb
  by_cases hq:q<k
  ·rw[hn q hl hq] at hb
   cases hb
  ·lia
theorem FirstN.window{l:List Nat}{ps:List zw}{lo mid hi n:Nat}{r:Option (Nat × Nat)}(h0:FirstN l ps lo mid n sJ)(hm:lo<=mid)(h:FirstN l ps mid hi n r):FirstN l ps lo hi n r:=by
 have h0':∀j q,j<n->lo<=q->q<mid->stJ l ps q j=sL:=by
  rcases h0 with ⟨_,h⟩ | ⟨_,_,h,_⟩
  ·exact h
  ·cases h
 rcases h with ⟨rfl,h⟩ | ⟨n0,q0,rfl,a1,a2,a3,a4,a5⟩
 ·refine .inl ⟨rfl,λj q hj h1 h2=>?_⟩
  by_cases e:q<mid
  ·exact h0' j q hj h1 e
  ·exact h j q hj (by lia) h2
 ·refine .inr ⟨n0,q0,rfl,a1,by lia,a3,a4,λj q hj h1 h2=>?_⟩
  by_cases e:q<mid
  ·rw[h0' j q hj h1 e] at h2
   cases h2
  ·exact a5 j q hj (by lia) h2
def NeL(ps:List zw):Prop:=∀p ∈ ps,p.1≠[]
theorem FirstN.toEnd{l:List Nat}{ps:List zw}{lo hi n:Nat}{r:Option (Nat × Nat)}(hN:NeL ps)(h:FirstN l ps lo hi n r)(hl:r=sJ->l.length<=hi):FirstN l ps lo l.length n r:=by
 have hlt:∀j q,stJ l ps q j=sK->q<l.length:=λj q hb=>by
  obtain⟨_,p,hp,hs⟩:=wM hb
  exact qP (hN p (ac hp)) hs
 rcases h with ⟨rfl,h⟩ | ⟨n0,q0,rfl,a1,a2,a3,a4,a5⟩
 ·exact .inl ⟨rfl,λj q hj h1 h2=>h j q hj h1 (by have:=hl rfl;lia)⟩
 ·exact .inr ⟨n0,q0,rfl,a1,a2,hlt _ _ a4,a4,a5⟩
noncomputable def zC(l:List Nat)(ps:List zw):Option (Nat × Nat):=(xt l ps l.length).head?
theorem Xd{l:List Nat}{ps:List zw}{r:Option (Nat × Nat)}(h:FirstN l ps 0 l.length ps.length r):r=zC l ps:=XU h
theorem Y0(l:List Nat)(ps:List zw)(hN:NeL ps):FirstN l ps 0 l.length ps.length (zC l ps):=by
 have hs:=wE l ps l.length
 unfold zC
 cases e:xt l ps l.length with
 | nil =>
  refine .inl ⟨rfl,λj q _ _ hq=>?_⟩
  cases hb:stJ l ps q j with
  | false=>rfl
  | true =>
   have:(j,q) ∈ xt l ps l.length:=usesK_mem.mpr ⟨hq,hb⟩
   rw[e] at this
   cases this
 | cons u us =>
  rw[e] at hs
  have hu:u ∈ xt l ps l.length:=by rw[e];exact aB
  obtain⟨h1,h2⟩:=usesK_mem.mp hu
  refine .inr ⟨u.1,u.2,rfl,(wM h2).1,aI _,h1,h2,λj q hj _ hb=>?_⟩
  have hq:q<l.length:=by
   obtain⟨_,p,hp,hs⟩:=wM hb
   exact qP (hN p (ac hp)) hs
  have:(j,q) ∈ xt l ps l.length:=usesK_mem.mpr ⟨hq,hb⟩
  rw[e] at this
  rcases sU.mp this with e2 | e2
  ·rw[<- e2]
   exact .inr ⟨rfl,am _⟩
  ·rcases (tM.mp hs).1 _ e2 with h | ⟨h,h'⟩
   ·exact .inl h
   ·exact .inr ⟨h,dj h'⟩
noncomputable def Y8(ps:List zw)(n:Nat):zw:=ps.getD n ([],[])
theorem xn{ps:List zw}{n:Nat}{p:zw}(h:ps[n]? = sI p):Y8 ps n=p:=by
 unfold Y8
 rw[af,h]
 rfl
noncomputable def ZM(l:List Nat)(ps:List zw)(u:Nat × Nat):List Nat:=yI l (u.2:Int) (Y8 ps u.1).1 (Y8 ps u.1).2
noncomputable def YV(ps:List zw)(l:List Nat):List Nat:=((zC l ps).map (ZM l ps)).getD l
noncomputable def wAt(ps:List zw)(l:List Nat):Nat->List Nat
 | 0=>l
 | j+1=>YV ps (wAt ps l j)
noncomputable def sAt(ps:List zw)(l:List Nat)(j:Nat):List (Nat × Nat):=(aW j).map λi=>(zC (wAt ps l i) ps).getD (0,0)
theorem YA(ps:List zw)(l:List Nat)(j:Nat):sAt ps l (j+1)=sAt ps l j ++ [(zC (wAt ps l j) ps).getD (0,0)]:=by
 unfold sAt
 rw[cM,ay]
 rfl
theorem ZS(ps:List zw)(l:List Nat)(j:Nat):(sAt ps l j).length=j:=by
 unfold sAt
 rw[ae,dz]
theorem wk{ps:List zw}{l:List Nat}{j:Nat}{u:Nat × Nat}(h:zC (wAt ps l j) ps=sI u):wAt ps l (j+1)=ZM (wAt ps l j) ps u:=by
 show YV ps (wAt ps l j)=_
 unfold YV
 rw[h]
 rfl
def Xv(ps:List zw)(l:List Nat)(j:Nat):Prop:=∀i,i<j->zC (wAt ps l i) ps≠sJ
theorem QM{ps:List zw}{l:List Nat}{i j:Nat}(h1:Xv ps l i)(h2:zC (wAt ps l i) ps=sJ)(h3:Xv ps l j)(h4:zC (wAt ps l j) ps=sJ):i=j:=by
 rcases eh i j with h | h | h
 ·exact absurd h2 (h3 i h)
 ·exact h
 ·exact absurd h4 (h1 j h)
theorem XA{l:List Nat}{ps:List zw}{n q M lo:Nat}(h:FirstN l ps 0 l.length ps.length (sI (n,q)))(hN:NeL ps)(hM:∀p ∈ ps,p.1.length<=M)(hlo:lo=0\/lo+M<=q+1):FirstN (ZM l ps (n,q)) ps 0 lo ps.length sJ:=by
 refine .inl ⟨rfl,λj x hj _ hx=>?_⟩
 rcases h with ⟨h,_⟩ | ⟨n0,q0,e,a1,a2,a3,a4,a5⟩
 ·cases h
 ·injection e with e
  injection e with e1 e2
  subst e1 e2
  cases hb:stJ (ZM l ps (n,q)) ps x j with
  | false=>rfl
  | true =>
   obtain⟨_,p,hp,hs⟩:=wM hb
   have hpm:=hM p (ac hp)
   have hpn:=tE.mpr (hN p (ac hp))
   have hxq:x+p.1.length<=q:=by lia
   obtain⟨s0,s1,s2⟩:=of_decide_eq_true hs
   rw[aH] at s2
   obtain⟨_,p2,hp2,hs2⟩:=wM a4
   obtain⟨t0,t1,t2⟩:=of_decide_eq_true hs2
   have e4:(ZM l ps (n,q)).take q=l.take q:=by
    unfold ZM yI
    rw[aH,ar,aS (by rw[az];lia),e8,eE]
   have e5:∀z:List Nat,((z.take q).drop x).take p.1.length=(z.drop x).take p.1.length:=λz=>by
    rw[List.drop_take,e8]
    congr 1
    lia
   have s3:(l.drop x).take p.1.length=p.1:=by rw[<- e5,<- e4,e5,s2]
   have:stJ l ps x j=sK:=by
    rw[jn hp]
    exact decide_eq_true ⟨by lia,by lia,by rw[aH];exact s3⟩
   have:=a5 j x hj (aI _) this
   lia
theorem FirstN.lower{l:List Nat}{ps:List zw}{lo hi n:Nat}(h:FirstN l ps 0 hi n sJ)(hl:lo<=hi):FirstN l ps 0 lo n sJ:=by
 rcases h with ⟨_,h⟩ | ⟨_,_,h,_⟩
 ·exact .inl ⟨rfl,λj q hj h1 h2=>h j q hj h1 (by lia)⟩
 ·cases h
theorem Qr{l:List Nat}{ps:List zw}{n q m:Nat}(h:FirstN l ps 0 l.length ps.length (sI (n,q)))(hm:∀p ∈ ps,p.2.length<=m):(ZM l ps (n,q)).length<=l.length+m:=by
 rcases h with ⟨h,_⟩ | ⟨n0,q0,e,a1,a2,a3,a4,a5⟩
 ·cases h
 ·injection e with e
  injection e with e1 e2
  subst e1 e2
  obtain⟨_,p,hp,hs⟩:=wM a4
  have:=hm p (ac hp)
  have er:=xn hp
  unfold ZM yI
  simp only[ak,az,aR,er]
  lia
theorem qT{ps:List zw}{l:List Nat}{m:Nat}(hN:NeL ps)(hm:∀p ∈ ps,p.2.length<=m):∀j,(wAt ps l j).length<=l.length+j * m
 | 0=>by simp [wAt]
 | j+1=>by
  have ih:=qT (l:=l) hN hm j
  have hf:=Y0 (wAt ps l j) ps hN
  rw[eD]
  cases e:zC (wAt ps l j) ps with
  | none =>
   show (YV ps (wAt ps l j)).length<=_
   unfold YV
   rw[e]
   show (wAt ps l j).length<=_
   lia
  | some u =>
   rw[wk e]
   rw[e] at hf
   obtain⟨a,b⟩:=u
   have:=Qr hf hm
   lia
def UseAt(H:Hp)(r:Option (Nat × Nat))(v:V):Prop:=(r=sJ/\v=.non)\/∃(n q:Nat) (p:oO),r=sI (n,q)/\v=.ref p/\H p=sI (.tup [.int (n:Nat),.int (q:Nat)])
theorem UseAt.same{H H':Hp}{r:Option (Nat × Nat)}{v:V}(h:UseAt H r v)(s:Same H H'):UseAt H' r v:=by
 rcases h with h | ⟨n,q,p,h1,h2,h3⟩
 ·exact .inl h
 ·exact .inr ⟨n,q,p,h1,h2,s _ _ h3⟩
theorem VM{l p:List Nat}{lo hi:Int}{H:Hp}{Q:VK}(h0:0<=lo)(h1:0<=hi)(h:∀r:Int,((r=-1/\∀q:Nat,lo<=q->(q:Int)+p.length<=hi->zx l q p=sL)\/∃k:Nat,r=k/\lo<=k/\(k:Int)+p.length<=hi/\zx l k p=sK/\∀q:Nat,lo<=q->q<k->zx l q p=sL)->Q (.int r) H):Jd (.str (tx l)) [.str (tx p),.int lo,.int hi] H Q:=by
 refine⟨l,p,lo,hi,rfl,rfl,h0,h1,λr hr=>h r ?_⟩
 have no:∀q:Nat,((l.drop q).take p.length≠p\/¬ q+p.length<=l.length)->zx l q p=sL:=λq hq=>decide_eq_false λ⟨_,b,c⟩=>by
  rcases hq with hq | hq
  ·exact hq c
  ·lia
 rcases hr with ⟨rfl,hn⟩ | ⟨k,rfl,k1,k2,k3,k4,hn⟩
 ·refine .inl ⟨rfl,λq q1 q2=>no q ?_⟩
  by_cases e:q+p.length<=l.length
  ·exact .inl (hn q q1 q2 e)
  ·exact .inr e
 ·exact .inr ⟨k,rfl,k1,k2,decide_eq_true ⟨by lia,by lia,k4⟩,λq q1 q2=>no q (.inl (hn q q1 q2))⟩
def wT(K:oN):Sp:=λvs H Q _=>∃(a:oO) (l:List Nat) (ps:List zw) (st en:Nat),vs=[.ref a,.str (tx l),.int (st:Nat),.int (en:Nat)]/\LsA K H a (ps.map dR)/\NeL ps/\(∀p ∈ ps,p.1.length<=1000)/\∀(r:Option (Nat × Nat)) (v:V) (H':Hp),Same H H'->UseAt H' r v->FirstN l ps st en ps.length r->Q v H'
theorem Z9{a:oO}{l:List Nat}{ps:List zw}{st en:Nat}{s e:Int}{H:Hp}{Q:VK}{E:XK}(hs:s=(st:Nat))(he:e=(en:Nat))(hA:LsA K H a (ps.map dR))(hN:NeL ps)(hP:∀p ∈ ps,p.1.length<=1000)(q:∀(r:Option (Nat × Nat)) (v:V) (H':Hp),Same H H'->UseAt H' r v->FirstN l ps st en ps.length r->Q v H'):wT K [.ref a,.str (tx l),.int s,.int e] H Q E:=by
 subst hs he
 exact⟨a,l,ps,st,en,rfl,hA,hN,hP,q⟩
theorem gc:zp ["rules","word","start","end","found","number","rule","place"] ["rules","word","start","end"] (zh xK):=by nofun
theorem qu{f:oO}{fd:oS}(B:Bt mg)(F:Fun K "first_within" "first_within" xK f fd) : z8 P w K mg base CX0 1 f fd ["rules","word","start","end"] (wT K):=by
 refine F.ok gc (λvs H Q E h=>?_) (λcdv A outer s H vs Q E hr h=>?_)
 ·obtain⟨a,l,ps,st,en,rfl,_⟩:=h
  rfl
 ·obtain⟨a,l,ps,st,en,rfl,hA,hN,hP,q⟩:=h
  refine⟨_,(zi (zq (i:=4) gc.nd rfl (.inl rfl) wn)
   (zi (yq PassesOwn.never rfl (xA rfl B.enum (za (pv 0) ze)) (vd (n:=2) rfl (zN (zy (i:=5) gc.nd rfl (.inl rfl)) (zN (zy (i:=6) gc.nd rfl (.inl rfl)) xJ)))
    (zM (zq (i:=7) gc.nd rfl (.inl rfl) (uH bz cT cU Ko (pv 1) (za (zr ix_tup (pv 6) zf (λ_ _=>rfl)) (za (pv 2) (za (zB op_add (zB uA (pv 3) zf) (zm zZ rfl B.len ax (za (zr ix_tup (pv 6) zf (λ_ _=>rfl)) ze))) ze)))))
    (zg (zR (zG op_ge' (pv 7) zf (zI _))
     (zM (zq (i:=4) gc.nd rfl (.inl rfl) (zY (za (pv 5) (za (pv 7) ze))))
     (zg (zq (i:=3) gc.nd rfl (.inl rfl) (pv 7))))
     zA))))
   (zg (zt (pv 4))))),?_⟩
  have s16:=ya
  obtain⟨xs,hX,hI⟩:=id hA
  have hxl:=hI.len
  rw[ae] at hxl
  have s16:=ya
  refine zk (λσ H'=>H'=H/\σ=[sI (.ref a),sI (.str (tx l)),sI (.int (st:Nat)),sI (.int (en:Nat)),sI (.non),sJ,sJ,sJ]) ?_ ?_
  ·rfl'
  rintro σ H1 ⟨rfl,rfl⟩
  refine zk (λσ H'=>Same H1 H'/\∃(r:Option (Nat × Nat)) (v:V) (v3 v5 v6 v7:Option V),UseAt H' r v/\FirstN l ps st en ps.length r/\σ=[sI (.ref a),sI (.str (tx l)),sI (.int (st:Nat)),v3,sI (v),v5,v6,v7]) ?_ ?_
  ·rfl'
   refine⟨⟨_,SqL.of hX⟩,ForEL.by (xs:=xs) (λi σ H'=>Same H1 H'/\∃(r:Option (Nat × Nat)) (v:V) (v5 v6 v7:Option V),UseAt H' r v/\FirstN l ps st en i r/\σ=[sI (.ref a),sI (.str (tx l)),sI (.int (st:Nat)),sI (.int (((r.map Prod.snd).getD en:Nat):Int)),sI (v),v5,v6,v7]) ⟨Same.refl _,sJ,.non,sJ,sJ,sJ,.inl ⟨rfl,rfl⟩,.inl ⟨rfl,λj q h=>absurd h (cz j)⟩,rfl⟩ (λi σ H' _ h=>SqL.of (h.1 _ _ hX)) ?_ ?_⟩
   ·rintro i y σ H' p hy ⟨hs,r,v,v5,v6,v7,hu,hF,rfl⟩ hpn
    obtain⟨rl,pr,hri,rfl,hqr⟩:=hI.getR hy
    have hm:=ac hri
    have hne:=tE.mpr (hN rl hm)
    have hrl:=hP rl hm
    have s2:=hs.trans (zd (o:=.tup [.int (i:Nat),.ref pr]) hpn)
    have hq2:=zj s2 hqr
    have hu2:=hu.same (zd (o:=.tup [.int (i:Nat),.ref pr]) hpn)
    rfl'
    refine⟨_,SqT.of zc,rfl,_,_,rfl,_,_,rfl,rfl,_,rfl,_,hq2,_,rfl,_,rfl,_,hq2,_,rfl,_,⟨by rw[zD];lia,rfl⟩,VM (by lia) (by rw[zD];lia) λz hz=>⟨z,rfl,?_⟩⟩
    rw[zD] at hz
    rcases hz with ⟨rfl,hn⟩ | ⟨k,rfl,k1,k2,k3,hn⟩
    ·rw[if_neg (by decide)]
     exact⟨s2,r,v,hu2,hF.keep hri λq q1 q2=>hn q (by lia) (by lia),rfl,rfl⟩
    ·rw[if_pos (by lia)]
     refine⟨by lia,λp2 hp2=>⟨s2.trans (zd hp2),sI (i,k),.ref p2,.inr ⟨i,k,p2,rfl,rfl,zc⟩,hF.take hri (by lia) (by lia) k3 λq q1 q2=>hn q (by lia) q2,rfl,rfl⟩⟩
   ·rintro σ H' ⟨hs,r,v,v5,v6,v7,hu,hF,rfl⟩
    rw[hxl] at hF
    exact⟨hs,r,v,hu,hF,_,_,_,_,rfl⟩
  rintro σ H2 ⟨s2,r,v,v3,v5,v6,v7,hu,hF,rfl⟩
  rfl'
  exact q r v H2 s2 hu hF
structure zcS(mg:oV->Option oP):Prop where
 g:∃t,mg "WINDOW" = sI (.int 128 t)
def uX(K:oN):Sp:=λvs H Q _=>∃(a:oO) (l:List Nat) (ps:List zw) (st:Nat),vs=[.ref a,.str (tx l),.int (st:Nat)]/\LsA K H a (ps.map dR)/\NeL ps/\(∀p ∈ ps,p.1.length<=1000)/\l.length<=100000/\∀(r:Option (Nat × Nat)) (v:V) (H':Hp),Same H H'->UseAt H' r v->FirstN l ps st l.length ps.length r->Q v H'
theorem ZD{a:oO}{l:List Nat}{ps:List zw}{st:Nat}{s:Int}{H:Hp}{Q:VK}{E:XK}(hs:s=(st:Nat))(hA:LsA K H a (ps.map dR))(hN:NeL ps)(hP:∀p ∈ ps,p.1.length<=1000)(hl:l.length<=100000)(q:∀(r:Option (Nat × Nat)) (v:V) (H':Hp),Same H H'->UseAt H' r v->FirstN l ps st l.length ps.length r->Q v H'):uX K [.ref a,.str (tx l),.int s] H Q E:=by
 subst hs
 exact⟨a,l,ps,st,rfl,hA,hN,hP,hl,q⟩
theorem gA:zp ["rules","word","start","size","found"] ["rules","word","start"] (zh wQ):=by nofun
theorem j6{f:oO}{fd:oS}(B:Bt mg)(T:zcS mg)(F:Fun K "first_from" "first_from" wQ f fd)(nk:Df P w K mg base CX0 1 "first_within" ["rules","word","start","end"] [] (wT K)):z8 P w K mg base CX0 2 f fd ["rules","word","start"] (uX K):=by
 obtain⟨t8,g8⟩:=T.g
 refine F.ok gA (λvs H Q E h=>?_) (λcdv A outer s H vs Q E hr h=>?_)
 ·obtain⟨a,l,ps,st,rfl,_⟩:=h
  rfl
 ·obtain⟨a,l,ps,st,rfl,hA,hN,hP,hl,q⟩:=h
  refine⟨_,(zi (zq (i:=3) gA.nd rfl (.inl rfl) (yK (v:=.int 128) rfl g8 ⟨t8,rfl⟩))
   (zi (ku PassesOwn.never (zG zaZ (pv 2) (zm zZ rfl B.len ax (za (pv 1) ze)) (zI _))
    (zM (zq (i:=4) gA.nd rfl (.inl rfl) (cl0 nk hr .nil rfl (za (pv 0) (za (pv 1) (za (pv 2) (za (zB op_add (pv 2) (pv 3)) ze))))))
    (zM (zR (zG op_notN' (pv 4) wn (zI _))
     (zg (zt (pv 4)))
     zA)
    (zM (zq (i:=2) gA.nd rfl (.inl rfl) (zB op_add (pv 2) (pv 3)))
    (zg (zq (i:=3) gA.nd rfl (.inl rfl) (zB op_mul (pv 3) zf)))))))
   (zg (zt wn)))),?_⟩
  have s16:=ya
  have s16:=ya
  refine zk (λσ H'=>H'=H/\σ=[sI (.ref a),sI (.str (tx l)),sI (.int (st:Nat)),sI (.int 128),sJ]) ?_ ?_
  ·rfl'
  rintro σ H1 ⟨rfl,rfl⟩
  refine zk (λσ H'=>Same H1 H'/\FirstN l ps st l.length ps.length sJ) ?_ ?_
  ·unfold Xb
   refine⟨λm σ H'=>∃(s z:Nat) (v4:Option V),m=l.length - s/\st<=s/\1<=z/\Same H1 H'/\FirstN l ps st s ps.length sJ/\σ=[sI (.ref a),sI (.str (tx l)),sI (.int (s:Nat)),sI (.int (z:Nat)),v4],⟨_,st,128,sJ,rfl,am _,by decide,Same.refl _,.inl ⟨rfl,λj q _ h1 h2=>by lia⟩,rfl⟩,?_⟩
   rintro m σ H' ⟨s,z,v4,rfl,hs,hz,sm,hF,rfl⟩
   rfl'
   refine⟨by lia,yT (λhlt=>?_) λhge=>⟨sm,hF.toEnd hN λ_=>by lia⟩⟩
   refine⟨λσ' H''=>∃v4:Option V,Same H1 H''/\FirstN l ps st (s+z) ps.length sJ/\σ'=[sI (.ref a),sI (.str (tx l)),sI (.int ((s+z:Nat):Int)),sI (.int ((z * 2:Nat):Int)),v4],λσ' H'' ⟨v4,a1,a2,a3⟩=>⟨l.length - (s+z),by lia,s+z,rfl,by lia,z * 2,by lia,a1,a2,v4,a3⟩,?_⟩
   refine Z9 (en:=s+z) rfl (by lia) (hA.same sm) hN hP λr v H2 s2 hu hF2=>?_
   rcases hu with ⟨rfl,rfl⟩ | ⟨n,qq,p,rfl,rfl,hp⟩
   ·rw[if_neg (λh=>h rfl)]
    exact⟨.inr ⟨by decide,by decide⟩,sI .non,sm.trans s2,hF.window hs hF2,by push_cast;rfl⟩
   ·rw[if_pos (by intro h;cases h)]
    exact q _ _ H2 (sm.trans s2) (.inr ⟨n,qq,p,rfl,rfl,hp⟩) ((hF.window hs hF2).toEnd hN (λe=>by cases e))
  rintro σ H2 ⟨s2,hF⟩
  rfl'
  exact q sJ .non H2 s2 (.inl ⟨rfl,rfl⟩) hF
theorem LsA.pushT{H:Hp}{D p:oO}{ds es:List L3.D}{xs vs:List V}(h1:H D=sI (.lst xs))(h2:Iss K H ds xs)(hp:H p=sJ)(hv:Iss K H es vs)(f:zW ds)(fe:zW es):LsA K (upd (upd H p (.tup vs)) D (.lst (xs ++ [.ref p]))) D (ds ++ [.tup es]):=by
 have e:(upd H p (.tup vs)) D=sI (.lst xs):=zd hp _ _ h1
 exact LsA.snoc e (Iss.same (zd hp) _ _ h2) f (by simp only[y8];exact fe) (Is.tup hp hv)
structure zad(K:oN)(mg:oV->Option oP)(C:oO):Prop where
 xi:XI K C
 ini:ah K (.ref C) "__init__" = sI (sI (.builtin "ValueError.__init__"))
 g:mg "TooFar" = sI (.ref C)
noncomputable def dG(u:Nat × Nat):L3.D:=.tup [.int (u.1:Nat),.int (u.2:Nat),.bl sK]
theorem JX(u:Nat × Nat):y8 (dG u):=by simp only[dG,y8,zW,and_self]
theorem Uz(us:List (Nat × Nat)):zW (us.map dG):=wv λd h=>by obtain⟨r,_,rfl⟩:=sS.mp h;exact JX r
theorem zb8{H:Hp}{n q:Nat}:Iss K H [.int (n:Nat),.int (q:Nat),.bl sK] [.int (n:Nat),.int (q:Nat),.bl sK]:=by
 simp only[Iss,Is]
 exact⟨_,_,rfl,rfl,_,_,rfl,rfl,_,_,rfl,rfl,rfl⟩
structure Rd(ps:List zw)(l:List Nat)(J:Nat):Prop where
 live:Xv ps l J
 len:∀j,j<=J->(wAt ps l j).length<=10000
 most:J<=10000
def wx(K:oN)(CF:oO):Sp:=λvs H Q E=>∃(a:oO) (l:List Nat) (ps:List zw) (m:Int) (J:Nat),vs=[.ref a,.str (tx l),.int m]/\LsA K H a (ps.map dR)/\NeL ps/\ps.length<=100/\(∀p ∈ ps,p.1.length<=1000/\p.2.length<=1000)/\Rd ps l J /\
 ((zC (wAt ps l J) ps=sJ/\(J:Int)<=m/\∀(p S:oO) (H':Hp),Same H H'->H' p=sI (.tup [.ref S,.str (tx (wAt ps l J))])->LsA K H' S ((sAt ps l J).map dG)->H S=sJ->Q (.ref p) H') \/
  (zC (wAt ps l J) ps≠sJ/\(J:Int)=m/\∀H',Same H H'->E (.ref CF) sJ H'))
theorem Wv{a:oO}{ps:List zw}{σ:L2.St}{H:Hp}{Q:VK}{D:oO}(hA:LsA K H a (ps.map dR))(hP:∀p ∈ ps,p.1.length<=1000)(hpl:ps.length<=100)(hD:H D=sJ)(q:∀H',Same H H'->H' D=sI (.lst ((ps.map λp=>(p.1.length:Int)).map V.int))->Q (.ref D) H') :
  CompL K a (xg 0) xL (tCB (JR K) (zJ (tOp (vN K) (yo 0) (tC (.int 0))) xS)) 1 [] σ H Q D:=by
 have s16:=ya
 obtain⟨xs,hX,hI⟩:=hA
 have hxl:=hI.len
 rw[ae] at hxl
 refine CompL.by (xs:=xs) (λi sP H'=>Same H H'/\H' D=sI (.lst sP)/\sP=((ps.take i).map λp=>(p.1.length:Int)).map V.int) ⟨zd hD,zc,rfl⟩ (λi sP H' _ h=>SqL.of (h.1 _ _ hX)) ?_ ?_
 ·rintro i x sP H' hx ⟨hs,hH,rfl⟩
  have hil:=(sQ.mp hx).1
  obtain⟨r,pr,hri,rfl,hqr⟩:=hI.getR hx
  have hm:=hP r (ac hri)
  simp only[xL]
  rfl'
  refine⟨yF,_,zj hs hqr,_,rfl,_,⟨by rw[zD];lia,rfl⟩,hH,by rw[ae,ae,az];lia,CNx.mk hil ⟨zE hs hD,zc,?_⟩⟩
  rw[zQ hri,ay,ay,zD]
  rfl
 ·rintro sP H' ⟨hs,hH,rfl⟩
  rw[hxl,aK] at hH
  exact q H' hs hH
theorem zb2{H:Hp}{rs:List zw}{xs:List V}{i:Nat}{r:zw}(hI:Iss K H (rs.map dR) xs)(hi:rs[i]? = sI r):∃p,atI xs (i:Int)=sI (.ref p)/\SqT K H p [.str (tx r.1),.str (tx r.2)]:=by
 have hl:=hI.len
 rw[ae] at hl
 have hil:=(sQ.mp hi).1
 obtain⟨v,a1,b1⟩:=ZF (xs:=xs) (i:=(i:Int)) (by lia) (by lia)
 obtain⟨r',p,h1,rfl,h3⟩:=hI.getR (j:=i) b1
 rw[hi] at h1
 cases h1
 exact⟨p,a1,h3⟩
theorem iw:zp ["rules","word","most","longest","steps","use","number","place"] ["rules","word","most"] (zh vb):=by nofun
theorem JD{f CU CF:oO}{fd:oS}{dV:oP}(B:Bt mg)(T:zad K mg CF)(TU:DNU P w K mg base CU)(F:FunD K "gone" "gone" vb dV f fd)(mf:Df P w K mg base CX0 2 "first_from" ["rules","word","start"] [] (uX K))(nG:Df P w K mg base (CXx P w) 3 "put" ["word","place","old","new"] [] (ZA CU)):z8 P w K mg base (CXx P w) 4 f fd ["rules","word","most"] (wx K CF):=by
 refine FunD.okX F iw (λvs H Q E h=>?_) (λcdv A outer s H vs Q E hr hx h=>?_)
 ·obtain⟨a,l,ps,m,J,rfl,_⟩:=h
  rfl
 ·obtain⟨a,l,ps,m,J,rfl,hA,hN,hpl,hP,hR,hq⟩:=h
  refine⟨_,(zi (zq (i:=3) iw.nd rfl (.inl rfl) (VB (za3 rfl) rfl B.max uY (za (yu (own:=["rule"]) (caps:=[]) (ix:=[]) (tt:=xL) (te:=(tCB (JR K) (zJ (tOp (vN K) (yo 0) (tC (.int 0))) xS))) rfl (zL (sc:=zh vb) rfl (by symm) (by symm) (by symm) rfl (by symm) (by symm) rfl) (yt (pv 0)) (λ_ _ _ _ _ _=>zy (i:=0) (show List.Nodup [_] by decide) rfl (.inl rfl)) (λ_ _ _ _ _ _=>yg) (λ_ _ _ _ _ _=>(zm zZ rfl B.len ax (za (zr ix_tup (pv 0) zf (λ_ _=>rfl)) ze)))) ze) (Wn zf Jq)))
   (zi (zq (i:=4) iw.nd rfl (.inl rfl) (vD ze))
   (zi (zq (i:=5) iw.nd rfl (.inl rfl) (cl0 mf hr .nil rfl (za (pv 0) (za (pv 1) (za zf ze)))))
   (zi (ku PassesOwn.leaving (zG op_notN' (pv 5) wn (zI _))
    (zi (zR (zG op_ge' (zm zZ rfl B.len ax (za (pv 4) ze)) (pv 2) (zI _))
     (zg (yG hx rfl T.xi.toXC T.ini rfl T.g (za xf ze)))
     zA)
    (zi (zq (i:=6) iw.nd rfl (.inl rfl) (zr ix_tup (pv 5) zf (λ_ _=>rfl)))
    (zi (zq (i:=7) iw.nd rfl (.inl rfl) (zr ix_tup (pv 5) zf (λ_ _=>rfl)))
    (zi (zq (i:=1) iw.nd rfl (.inl rfl) (clP hx nG hr .nil rfl (za (pv 1) (za (pv 7) (za (zr ix_tup (zr ix_list (pv 0) (pv 6) (λ_ _=>rfl)) zf (λ_ _=>rfl)) (za (zr ix_tup (zr ix_list (pv 0) (pv 6) (λ_ _=>rfl)) zf (λ_ _=>rfl)) ze))))))
    (zi (vW (uH cG dn dq wH (pv 4) (za (zY (za (pv 6) (za (pv 7) (za yw ze)))) ze)))
    (zg (zq (i:=5) iw.nd rfl (.inl rfl) (cl0 mf hr .nil rfl (za (pv 0) (za (pv 1) (za (zm (V1 rfl) rfl B.max uY (za zf (za (zB op_add (zB uA (pv 7) (pv 3)) zf) ze))) ze))))))))))))
   (zg (zt (zY (za (pv 4) (za (pv 1) ze))))))))),?_⟩
  have s16:=ya
  have s16:=ya
  refine zk (λσ H'=>Same H H'/\∃M:Int,(∀p ∈ ps,(p.1.length:Int)<=M)/\σ=[sI (.ref a),sI (.str (tx l)),sI (.int m),sI (.int M),sJ,sJ,sJ,sJ]) ?_ ?_
  ·rfl'
   simp only[zcU]
   rfl'
   obtain⟨xs,hX,hI⟩:=id hA
   exact⟨⟨_,SqL.of hX⟩,λD hD=>Wv hA (λp hp=>(hP p hp).1) hpl hD λH' s' hH=>⟨D,_,0,rfl,rfl,SqL.of hH,λz _ hz=>⟨s',z,λp hp=>hz _ (sS.mpr ⟨p,hp,rfl⟩),rfl⟩⟩⟩
  rintro σ H1 ⟨s1,M,hM,rfl⟩
  refine zk (λσ H'=>Same H H'/\∃S:oO,H S=sJ/\H' S=sI (.lst [])/\σ=[sI (.ref a),sI (.str (tx l)),sI (.int m),sI (.int M),sI (.ref S),sJ,sJ,sJ]) ?_ ?_
  ·rfl'
   exact⟨by lia,λp hp=>⟨s1.trans (zd hp),p,s1.free hp,zc,rfl⟩⟩
  rintro σ H2 ⟨s2,S,hSn,hS,rfl⟩
  refine zk (λσ H'=>Same H H'/\H' S=sI (.lst [])/\∃uv:V,UseAt H' (zC l ps) uv/\σ=[sI (.ref a),sI (.str (tx l)),sI (.int m),sI (.int M),sI (.ref S),sI (uv),sJ,sJ]) ?_ ?_
  ·rfl'
   exact ZD (st:=0) rfl (hA.same s2) hN (λp hp=>(hP p hp).1) (by have:=hR.len 0 (aI _);exact aJ this (by decide)) λr v H' s' hu hF=>⟨s2.trans s',s' _ _ hS,(by rw[Xd hF] at hu;exact hu)⟩
  rintro σ H3 ⟨s3,hS3,uv,hu,rfl⟩
  refine zk (λσ H'=>Same H H'/\zC (wAt ps l J) ps=sJ/\LsA K H' S ((sAt ps l J).map dG)/\∃v5 v6 v7,σ=[sI (.ref a),sI (.str (tx (wAt ps l J))),sI (.int m),sI (.int M),sI (.ref S),v5,v6,v7]) ?_ ?_
  ·unfold Xb
   refine⟨λk σ H'=>∃(j:Nat) (uv:V) (v6 v7:Option V),k=J - j/\j<=J/\Same H H'/\LsA K H' S ((sAt ps l j).map dG)/\UseAt H' (zC (wAt ps l j) ps) uv/\σ=[sI (.ref a),sI (.str (tx (wAt ps l j))),sI (.int m),sI (.int M),sI (.ref S),sI (uv),v6,v7],⟨_,0,uv,sJ,sJ,rfl,aI _,s3,⟨[],hS3,by simp only[sAt,List.range_zero,aP,Iss]⟩,hu,rfl⟩,?_⟩
   rintro k σ H' ⟨j,uv,v6,v7,rfl,hj,hs,hL,hu,rfl⟩
   have hlj:=hR.len j hj
   have hRm:=hR.most
   obtain⟨xs,hX,hI⟩:=id hA
   rfl'
   refine yT (λhne=>?_) λhne=>?_
   ·rcases hu with ⟨_,h⟩ | ⟨n,q0,p,hf,rfl,hp⟩
    ·exact absurd h hne
    have hF:=Y0 (wAt ps l j) ps hN
    rw[hf] at hF
    have hjJ:j<J\/(j=J/\(J:Int)=m/\∀H',Same H H'->E (.ref CF) sJ H'):=by
     by_cases e:j=J
     ·subst e
      rcases hq with ⟨h,_⟩ | ⟨_,h1,h2⟩
      ·rw[hf] at h
       cases h
      ·exact .inr ⟨rfl,h1,h2⟩
     ·exact .inl (by lia)
    have hJm:(J:Int)<=m:=by
     rcases hq with ⟨_,h,_⟩ | ⟨_,h,_⟩ <;> lia
    obtain⟨rl,hrl,hst⟩:∃rl,ps[n]? = sI rl/\zx (wAt ps l j) (q0:Int) rl.1=sK:=by
     rcases hF with ⟨h,_⟩ | ⟨n0,q1,e,_,_,_,a4,_⟩
     ·cases h
     ·cases e
      exact (wM a4).2
    have hlp:=hP rl (ac hrl)
    have hw:=wk hf
    obtain⟨pr,hai,hqr⟩:=zb2 hI hrl
    refine⟨λσ' H''=>∃(uv:V) (v6 v7:Option V),j<J/\Same H H''/\LsA K H'' S ((sAt ps l (j+1)).map dG)/\UseAt H'' (zC (wAt ps l (j+1)) ps) uv/\σ'=[sI (.ref a),sI (.str (tx (wAt ps l (j+1)))),sI (.int m),sI (.int M),sI (.ref S),sI (uv),v6,v7],λσ' H'' ⟨uv,v6,v7,a0,a1,a2,a3,a4⟩=>⟨J - (j+1),by lia,j+1,rfl,by lia,a1,a2,uv,a3,v6,v7,a4⟩,?_⟩
    obtain⟨ys,hY,hJ2⟩:=id hL
    have hyl:=hJ2.len
    rw[ae,ZS] at hyl
    refine zk (λσ' H''=>H''=H'/\j<J/\σ'=[sI (.ref a),sI (.str (tx (wAt ps l j))),sI (.int m),sI (.int M),sI (.ref S),sI (.ref p),v6,v7]) ?_ ?_
    ·rfl'
     refine⟨_,.inl ⟨_,SqL.of hY,rfl⟩,yT (λhge=>?_) λhge=>?_⟩
     ·rcases hjJ with h | ⟨_,_,h⟩
      ·lia
      ·exact⟨by lia,h _ hs⟩
     ·rcases hjJ with h | ⟨e,h,_⟩
      ·exact h
      ·lia
    rintro σ' G1 ⟨rfl,hlt,rfl⟩
    refine zk (λσ' H''=>H''=G1/\σ'=[sI (.ref a),sI (.str (tx (wAt ps l j))),sI (.int m),sI (.int M),sI (.ref S),sI (.ref p),sI (.int (n:Nat)),v7]) ?_ ?_
    ·rfl'
     exact⟨_,SqT.of hp,rfl⟩
    rintro σ' G2 ⟨rfl,rfl⟩
    refine zk (λσ' H''=>H''=G2/\σ'=[sI (.ref a),sI (.str (tx (wAt ps l j))),sI (.int m),sI (.int M),sI (.ref S),sI (.ref p),sI (.int (n:Nat)),sI (.int (q0:Nat))]) ?_ ?_
    ·rfl'
     exact⟨_,SqT.of hp,rfl⟩
    rintro σ' G3 ⟨rfl,rfl⟩
    refine zk (λσ' H''=>H''=G3/\σ'=[sI (.ref a),sI (.str (tx (wAt ps l (j+1)))),sI (.int m),sI (.int M),sI (.ref S),sI (.ref p),sI (.int (n:Nat)),sI (.int (q0:Nat))]) ?_ ?_
    ·rfl'
     have hq2:=zj hs hqr
     exact⟨_,SqL.of (hs _ _ hX),_,hai,_,rfl,_,hq2,_,rfl,_,SqL.of (hs _ _ hX),_,hai,_,rfl,_,hq2,_,rfl,wAt ps l j,rl.1,rl.2,(q0:Nat),rfl,hlj,by have:=hlp.1;lia,by have:=hlp.2;lia,λ_=>⟨rfl,by rw[hw];unfold ZM;rw[xn hrl]⟩,λh=>by rw[hst] at h;cases h⟩
    rintro σ' G4 ⟨rfl,rfl⟩
    refine zk (λσ' H''=>Same H H''/\LsA K H'' S ((sAt ps l (j+1)).map dG)/\σ'=[sI (.ref a),sI (.str (tx (wAt ps l (j+1)))),sI (.int m),sI (.int M),sI (.ref S),sI (.ref p),sI (.int (n:Nat)),sI (.int (q0:Nat))]) ?_ ?_
    ·rfl'
     refine⟨.inl ⟨_,SqL.of hY⟩,by lia,λt ht=>⟨_,zd ht _ _ hY,by lia,zE (hs.trans (zd ht)) hSn,?_⟩⟩
     rw[YA,hf,ay]
     exact LsA.pushT hY hJ2 ht zb8 (Uz _) (by simp only[zW,y8,and_self])
    rintro σ' G5 ⟨s5,hL5,rfl⟩
    have hl1:=hR.len (j+1) hlt
    have hM0:=hM rl (ac hrl)
    rfl'
    refine ZD (st:=(if (q0:Int) - M+1 > 0 then (q0:Int) - M+1 else 0).toNat) (by split <;> lia) (hA.same s5) hN (λp hp=>(hP p hp).1) (aJ hl1 (by decide)) λr v H' s' hu hF2=>⟨hlt,s5.trans s',hL5.same s',?_⟩
    have hb:=XA (M:=M.toNat) (lo:=(if (q0:Int) - M+1 > 0 then (q0:Int) - M+1 else 0).toNat) hF hN (λp hp=>by have:=hM p hp;lia) (by split <;> lia)
    rw[<- hw] at hb
    rw[Xd (hb.window (aI _) hF2)] at hu
    exact hu
   ·have hv:uv=.non:=Decidable.not_not.mp hne
    have hf:zC (wAt ps l j) ps=sJ:=by
     rcases hu with ⟨h,_⟩ | ⟨_,_,_,_,h,_⟩
     ·exact h
     ·rw[hv] at h
      cases h
    have e:j=J:=by
     rcases eF j J with h | h
     ·exact absurd hf (hR.live j h)
     ·lia
    subst e
    exact⟨hs,hf,hL,rfl⟩
  rintro σ H4 ⟨s4,hF,hL,v5,v6,v7,rfl⟩
  rfl'
  rcases hq with ⟨_,_,hq⟩ | ⟨h,_⟩
  ·exact⟨by lia,λp hp=>hq p S _ (s4.trans (zd hp)) zc (hL.same (zd hp)) hSn⟩
  ·exact absurd hF h
noncomputable abbrev Stp:=Int × Int × Bool
noncomputable def dSt(t:Stp):D:=.tup [.int t.1,.int t.2.1,.bl t.2.2]
noncomputable def sdl(r:zw)(f:Bool):zw:=if f=sK then r else (r.2,r.1)
noncomputable def yY(ps:List zw)(w:List Nat)(t:Stp):Option (List Nat) :=
 if 0<=t.1/\t.1<ps.length then (if zx w t.2.1 (sdl (ps.getD t.1.toNat ([],[])) t.2.2).1=sK then sI (yI w t.2.1 (sdl (ps.getD t.1.toNat ([],[])) t.2.2).1 (sdl (ps.getD t.1.toNat ([],[])) t.2.2).2) else sJ) else sJ
theorem Qg{H:Hp}{D p:oO}{ds es:List L3.D}{xs vs:List V}(h1:H D=sI (.lst xs))(h2:Iss K H ds xs)(hp:H p=sJ)(hv:Iss K H es vs)(f:zW ds)(fe:zW es):LsA K (upd (upd H p (.tup vs)) D (.lst (xs ++ [.ref p]))) D (ds ++ [.tup es]):=by
 have e:(upd H p (.tup vs)) D=sI (.lst xs):=zd hp _ _ h1
 exact LsA.snoc e (Iss.same (zd hp) _ _ h2) f (by simp only[y8];exact fe) (Is.tup hp hv)
theorem Jy{H:Hp}{l m:List Nat}:Iss K H [dS l,dS m] [.str (tx l),.str (tx m)]:=by
 simp only[Iss,Is]
 exact⟨_,_,rfl,rfl,_,_,rfl,rfl,rfl⟩
def Wa(rs:List zw):Prop:=rs.length<=30/\∀r ∈ rs,r.1.length<=100/\r.2.length<=100
theorem Jg{H:Hp}{t:Stp}{v:V}(h:Is K H (dSt t) v):∃p,v=.ref p/\SqT K H p [.int t.1,.int t.2.1,.bl t.2.2]:=by
 simp only[dSt,Is,Iss] at h
 obtain⟨a,xs,e,hs,v1,r1,rfl,rfl,v2,r2,rfl,rfl,v3,r3,rfl,rfl,rfl⟩:=h
 exact⟨a,e,hs⟩
theorem YI{H:Hp}{p:oO}{t:Stp}(h:SqT K H p [.int t.1,.int t.2.1,.bl t.2.2]):Is K H (dSt t) (.ref p):=by
 simp only[dSt,Is,Iss]
 exact⟨p,_,rfl,h,_,_,rfl,rfl,_,_,rfl,rfl,_,_,rfl,rfl,rfl⟩
theorem V9{H:Hp}{i j:Int}{b:Bool}:Iss K H [.int i,.int j,.bl b] [.int i,.int j,.bl b]:=by
 simp only[Iss,Is]
 exact⟨_,_,rfl,rfl,_,_,rfl,rfl,_,_,rfl,rfl,rfl⟩
theorem wu(rs:List Stp):zW (rs.map dSt):=wv λd h=>by obtain⟨r,_,rfl⟩:=sS.mp h;simp only[dSt,y8,zW,and_self]
theorem vL{H:Hp}{rs:List Stp}{vs:List V}{j:Nat}{v:V}(h:Iss K H (rs.map dSt) vs)(q:vs[j]? = sI v):∃r p,rs[j]? = sI r/\v=.ref p/\SqT K H p [.int r.1,.int r.2.1,.bl r.2.2]:=by
 obtain⟨d,e,i⟩:=h.get q
 rw[aG] at e
 obtain⟨r,hr,rfl⟩:=tj.mp e
 obtain⟨p,e1,e2⟩:=Jg i
 exact⟨r,p,hr,e1,e2⟩
theorem ud{ps:List zw}{w:List Nat}{t:Stp}(h:¬ (0<=t.1/\t.1<ps.length)):yY ps w t=sJ:=if_neg h
theorem xV{ps:List zw}{w:List Nat}{t:Stp}(h:0<=t.1/\t.1<ps.length):yY ps w t=if zx w t.2.1 (sdl (ps.getD t.1.toNat ([],[])) t.2.2).1=sK then sI (yI w t.2.1 (sdl (ps.getD t.1.toNat ([],[])) t.2.2).1 (sdl (ps.getD t.1.toNat ([],[])) t.2.2).2) else sJ:=if_pos h
def Ch(rs:List zw)(ws:List (List Nat))(ss:List Stp):Prop:=ws.length=ss.length+1/\∀i s,ss[i]? = sI s->∃w w',ws[i]? = sI w/\ws[i+1]? = sI w'/\yY rs w s=sI w'
noncomputable def bk(s:Stp):Stp:=(s.1,s.2.1,!s.2.2)
noncomputable def yl(ss:List Stp):List Stp:=ss.reverse.map bk
noncomputable def mvL(ss:List Stp)(z:Int):List Stp:=ss.map λs=>(s.1,s.2.1+z,s.2.2)
theorem KK(r:zw)(f:Bool):sdl r (!f)=((sdl r f).2,(sdl r f).1):=by cases f <;> rfl
theorem jw{rs:List zw}{w w':List Nat}{s:Stp}(h:yY rs w s=sI w'):yY rs w' (bk s)=sI w:=by
 by_cases hb:0<=s.1/\s.1<rs.length
 ·rw[xV hb] at h
  have hb':0<=(bk s).1/\(bk s).1<rs.length:=hb
  rw[xV hb']
  simp only[bk,KK]
  generalize sdl (rs.getD s.1.toNat ([],[])) s.2.2=r at *
  by_cases hs:zx w s.2.1 r.1=sK
  ·rw[if_pos hs] at h
   cases h
   obtain⟨e1,e2⟩:=YL r.2 hs
   rw[if_pos e1,e2]
  ·rw[if_neg hs] at h
   cases h
 ·rw[ud hb] at h
  cases h
theorem Ch.back{rs:List zw}{ws:List (List Nat)}{ss:List Stp}(h:Ch rs ws ss):Ch rs ws.reverse (yl ss):=by
 obtain⟨hl,hs⟩:=h
 refine⟨by simp [yl,hl],λi s hi=>?_⟩
 have hil:i<ss.length:=by have:=(sQ.mp hi).1;simpa [yl] using this
 unfold yl at hi
 rw[aG,bg hil] at hi
 obtain⟨s0,h0,rfl⟩:=tj.mp hi
 obtain⟨w,w',e1,e2,e3⟩:=hs _ _ h0
 refine⟨w',w,?_,?_,jw e3⟩
 ·rw[bg (by lia),<- e2]
  congr 1
  lia
 ·rw[bg (by lia),<- e1]
  congr 1
  lia
theorem Y1{a w b:List Nat}{k:Nat}(h:k<=w.length):(a ++ w ++ b).drop (a.length+k)=w.drop k ++ b:=by
 rw[ar,<- cQ,cy,bA h]
theorem kE{a w b o:List Nat}{k:Int}(h:zx w k o=sK):zx (a ++ w ++ b) (k+(a.length:Int)) o=sK:=by
 obtain⟨_,_,h0,h1⟩:=wj h
 unfold zx at h ⊢
 rw[decide_eq_true_eq] at h ⊢
 obtain⟨_,_,h2⟩:=h
 refine⟨by lia,by simp only[ak];lia,?_⟩
 rw[show (k+(a.length:Int)).toNat=a.length+k.toNat by lia,Y1 (by lia),aS (by rw[aR];lia),h2]
theorem XV{a w b o n:List Nat}{k:Int}(h:zx w k o=sK):yI (a ++ w ++ b) (k+(a.length:Int)) o n=a ++ yI w k o n ++ b:=by
 obtain⟨_,_,h0,h1⟩:=wj h
 unfold yI
 rw[show (k+(a.length:Int)).toNat=a.length+k.toNat by lia]
 have e1:(a ++ w ++ b).take (a.length+k.toNat)=a ++ w.take k.toNat:=by
  rw[ar,List.take_length_add_append,aS (by lia)]
 have e2:(a ++ w ++ b).drop (a.length+k.toNat+o.length)=w.drop (k.toNat+o.length) ++ b:=by
  rw[Nat.add_assoc]
  exact Y1 (by lia)
 rw[e1,e2]
 simp [ar]
theorem uB{rs:List zw}{w w':List Nat}{s:Stp}(a b:List Nat)(h:yY rs w s=sI w'):yY rs (a ++ w ++ b) (s.1,s.2.1+(a.length:Int),s.2.2)=sI (a ++ w' ++ b):=by
 by_cases hb:0<=s.1/\s.1<rs.length
 ·rw[xV hb] at h
  rw[xV (by exact hb)]
  simp only
  generalize sdl (rs.getD s.1.toNat ([],[])) s.2.2=r at *
  by_cases hs:zx w s.2.1 r.1=sK
  ·rw[if_pos hs] at h
   cases h
   rw[if_pos (kE hs),XV hs]
  ·rw[if_neg hs] at h
   cases h
 ·rw[ud hb] at h
  cases h
theorem Ch.within{rs:List zw}{ws:List (List Nat)}{ss:List Stp}(a b:List Nat)(h:Ch rs ws ss):Ch rs (ws.map λw=>a ++ w ++ b) (mvL ss (a.length:Int)):=by
 obtain⟨hl,hs⟩:=h
 refine⟨by simp [mvL,hl],λi s hi=>?_⟩
 unfold mvL at hi
 rw[aG] at hi
 obtain⟨s0,h0,rfl⟩:=tj.mp hi
 obtain⟨w,w',e1,e2,e3⟩:=hs _ _ h0
 exact⟨a ++ w ++ b,a ++ w' ++ b,by rw[aG,e1];rfl,by rw[aG,e2];rfl,uB a b e3⟩
theorem wY{H:Hp}{D p:oO}{ds es:List L3.D}{xs vs:List V}(h1:H D=sI (.lst xs))(h2:Iss K H ds xs)(hp:H p=sJ)(hv:Iss K H es vs)(f:zW ds)(fe:zW es):Iss K (upd (upd H p (.tup vs)) D (.lst (xs ++ [.ref p]))) (ds ++ [.tup es]) (xs ++ [.ref p]):=by
 obtain⟨ys,hy1,hy2⟩:=Qg h1 h2 hp hv f fe
 rw[zc] at hy1
 cases hy1
 exact hy2
def vV(K:oN):Sp:=λvs H Q _=>∃(t:oO) (ss:List Stp),vs=[.ref t]/\Is K H (.lst (ss.map dSt)) (.ref t)/\ss.length<=1000/\∀(D:oO) (H':Hp),H D=sJ->Same H H'->LsA K H' D ((yl ss).map dSt)->Q (.ref D) H'
theorem jU{t:oO}{ss:List Stp}{H:Hp}{Q:VK}{E:XK}(h1:Is K H (.lst (ss.map dSt)) (.ref t))(h2:ss.length<=1000)(h:∀(D:oO) (H':Hp),H D=sJ->Same H H'->LsA K H' D ((yl ss).map dSt)->Q (.ref D) H'):vV K [.ref t] H Q E:=⟨t,ss,rfl,h1,h2,h⟩
theorem WL{ss:List Stp}{i:Nat}{s:Stp}(h:ss.reverse[i]? = sI s):(yl ss).take (i+1)=(yl ss).take i ++ [bk s]:=zQ (by unfold yl;rw[aG,h];rfl)
theorem KM:zp ["steps"] ["steps"] (zh YK):=by nofun
theorem KQ{f:oO}{fd:oS}(B:Bt mg)(F:Fun K "back" "back" YK f fd) : z8 P w K mg base CX0 1 f fd ["steps"] (vV K):=by
 refine F.ok KM (λvs H Q E h=>?_) (λcdv A outer s H vs Q E hr h=>?_)
 ·obtain⟨t,ss,rfl,_⟩:=h
  rfl
 ·obtain⟨t,ss,rfl,hT,hsl,q⟩:=h
  refine⟨_,(zg (zt (yu (own:=["step"]) (caps:=[]) (ix:=[]) (tt:=xL) (te:=(Ur (zJ (tOp (vN K) (yo 0) (tC (.int 0))) (zJ (tOp (vN K) (yo 0) (tC (.int 1))) (zJ (Qi (tOp (vN K) (yo 0) (tC (.int 2)))) xS))))) rfl (zL (sc:=zh YK) rfl (by symm) (by symm) (by symm) rfl (by symm) (by symm) rfl) (Ja rfl B.rev (za (pv 0) ze)) (λ_ _ _ _ _ _=>zy (i:=0) (show List.Nodup [_] by decide) rfl (.inl rfl)) (λ_ _ _ _ _ _=>yg) (λ_ _ _ _ _ _=>(zY (za (zr ix_tup (pv 0) zf (λ_ _=>rfl)) (za (zr ix_tup (pv 0) zf (λ_ _=>rfl)) (za (VT (zr ix_tup (pv 0) zf (λ_ _=>rfl))) ze)))))))),?_⟩
  have s16:=ya
  rfl'
  simp only[Is] at hT
  obtain⟨_,ts,e,hTs,hJ⟩:=hT
  cases e
  have htl:=hJ.len
  rw[ae] at htl
  have hbl:(yl ss).length=ss.length:=by simp [yl]
  refine⟨ts,hTs,λD hD=>CompV.by (xs:=ts) (λi sP H'=>Same H H'/\H' D=sI (.lst sP)/\Iss K H' (((yl ss).take i).map dSt) sP) ⟨zd hD,zc,by simp only[br,aP,Iss]⟩ (λi sP H' _ h=>h.1.seq hTs) ?_ ?_⟩
  ·rintro i x sP H' hx ⟨hs,hH,hA⟩
   have hi:i<ts.length:=by have:=(sQ.mp hx).1;simpa using this
   rw[bg hi] at hx
   obtain⟨s,ps,hsi,rfl,hqs⟩:=vL hJ hx
   have hsr:ss.reverse[i]? = sI s:=by rw[bg (by lia),<- hsi,htl]
   have hal:=hA.len
   rw[ae,az] at hal
   simp only[xL]
   rfl'
   refine⟨yF,_,zj hs hqs,_,rfl,_,zj hs hqs,_,rfl,_,zj hs hqs,_,rfl,_,rfl,by lia,λp hp=>⟨zd hp _ _ hH,by lia,CNx.mk hi ⟨zE (hs.trans (zd hp)) hD,zc,?_⟩⟩⟩
   rw[WL hsr,ay]
   exact wY hH hA hp V9 (wu _) (by simp only[zW,y8,and_self])
  ·rintro sP H' ⟨hs,hH,hA⟩
   rw[htl,<- hbl,aK] at hA
   exact q D H' hD hs ⟨sP,hH,hA⟩
def uM(K:oN):Sp:=λvs H Q _=>∃(t:oO) (ss:List Stp) (z:Int),vs=[.ref t,.int z]/\Is K H (.lst (ss.map dSt)) (.ref t)/\ss.length<=1000/\∀(D:oO) (H':Hp),H D=sJ->Same H H'->LsA K H' D ((mvL ss z).map dSt)->Q (.ref D) H'
theorem Zu{t:oO}{ss:List Stp}{z:Int}{H:Hp}{Q:VK}{E:XK}(h1:Is K H (.lst (ss.map dSt)) (.ref t))(h2:ss.length<=1000)(h:∀(D:oO) (H':Hp),H D=sJ->Same H H'->LsA K H' D ((mvL ss z).map dSt)->Q (.ref D) H'):uM K [.ref t,.int z] H Q E:=⟨t,ss,z,rfl,h1,h2,h⟩
theorem Qy:zp ["steps","size"] ["steps","size"] (zh kn):=by nofun
theorem QH{f:oO}{fd:oS}(B:Bt mg)(F:Fun K "moved" "moved" kn f fd) : z8 P w K mg base CX0 1 f fd ["steps","size"] (uM K):=by
 refine F.ok Qy (λvs H Q E h=>?_) (λcdv A outer s H vs Q E hr h=>?_)
 ·obtain⟨t,ss,z,rfl,_⟩:=h
  rfl
 ·obtain⟨t,ss,z,rfl,hT,hsl,q⟩:=h
  refine⟨_,(zg (zt (yu (own:=["step"]) (caps:=["size"]) (ix:=[1]) (tt:=xL) (te:=(Ur (zJ (tOp (vN K) (yo 0) (tC (.int 0))) (zJ (tOp UW (tOp (vN K) (yo 0) (tC (.int 1))) (yo 1)) (zJ (tOp (vN K) (yo 0) (tC (.int 2))) xS))))) rfl (zL (sc:=zh kn) rfl (by symm) (by symm) (by symm) rfl (by symm) (by symm) rfl) (yt (pv 0)) (λ_ _ _ _ _ _=>zy (i:=0) (show List.Nodup [_,_] by decide) rfl (.inl rfl)) (λ_ _ _ _ _ _=>yg) (λ_ _ _ _ _ _=>(zY (za (zr ix_tup (pv 0) zf (λ_ _=>rfl)) (za (zB Yk (zr ix_tup (pv 0) zf (λ_ _=>rfl)) (pv 1)) (za (zr ix_tup (pv 0) zf (λ_ _=>rfl)) ze)))))))),?_⟩
  have s16:=ya
  rfl'
  simp only[Is] at hT
  obtain⟨_,ts,e,hTs,hJ⟩:=hT
  cases e
  have htl:=hJ.len
  rw[ae] at htl
  have hbl:(mvL ss z).length=ss.length:=by simp [mvL]
  refine⟨⟨ts,hTs⟩,λD hD=>CompL.by (xs:=ts) (λi sP H'=>Same H H'/\H' D=sI (.lst sP)/\Iss K H' (((mvL ss z).take i).map dSt) sP) ⟨zd hD,zc,by simp only[br,aP,Iss]⟩ (λi sP H' _ h=>h.1.seq hTs) ?_ ?_⟩
  ·rintro i x sP H' hx ⟨hs,hH,hA⟩
   have hi:=(sQ.mp hx).1
   obtain⟨s,ps,hsi,rfl,hqs⟩:=vL hJ hx
   have hm:(mvL ss z)[i]? = sI (s.1,s.2.1+z,s.2.2):=by unfold mvL;rw[aG,hsi];rfl
   have hal:=hA.len
   rw[ae,az] at hal
   simp only[xL]
   rfl'
   refine⟨yF,_,zj hs hqs,_,rfl,_,zj hs hqs,_,rfl,_,rfl,_,zj hs hqs,_,rfl,by lia,λp hp=>⟨zd hp _ _ hH,by lia,CNx.mk hi ⟨zE (hs.trans (zd hp)) hD,zc,?_⟩⟩⟩
   rw[zQ hm,ay]
   exact wY hH hA hp V9 (wu _) (by simp only[zW,y8,and_self])
  ·rintro sP H' ⟨hs,hH,hA⟩
   rw[htl,<- hbl,aK] at hA
   exact q D H' hD hs ⟨sP,hH,hA⟩
noncomputable abbrev Ent:=List Nat × List Nat × List Stp
variable{E:XK}{H:Hp}{Q:VK}{a:oO}{bs:List Ent}{e:Ent}{es:List Ent}{f:oO}{fd:oS}{k:Nat}{ns:List Int}{ps:List zw}{rs:List zw}{ss:List Stp}{ws:List Int}
noncomputable def dE(e:Ent):L3.D:=.tup [dS e.1,dS e.2.1,.lst (e.2.2.map dSt)]
noncomputable def X2(es:List Ent)(u:Stp):List Stp:=mvL (if u.2.2=sK then (es.getD u.1.toNat ([],[],[])).2.2 else yl (es.getD u.1.toNat ([],[],[])).2.2) u.2.1
noncomputable def byL(es:List Ent)(us:List Stp):List Stp:=us.flatMap (X2 es)
theorem zby{v:V}(h:Is K H (dE e) v):∃p s,v=.ref p/\SqT K H p [.str (tx e.1),.str (tx e.2.1),.ref s]/\Is K H (.lst (e.2.2.map dSt)) (.ref s):=by
 simp only[dE,Is,Iss] at h
 obtain⟨a,xs,e0,hs,v1,r1,rfl,rfl,v2,r2,rfl,rfl,v3,r3,rfl,⟨s,zs,rfl,h1,h2⟩,rfl⟩:=h
 refine⟨a,s,e0,hs,?_⟩
 simp only[Is]
 exact⟨s,zs,rfl,h1,h2⟩
theorem zdw{xs:List V}{i:Int}(hI:Iss K H (es.map dE) xs)(h0:0<=i)(hi:i<es.length):∃p s,atI xs i=sI (.ref p)/\es[i.toNat]? = sI (es.getD i.toNat ([],[],[]))/\SqT K H p [.str (tx (es.getD i.toNat ([],[],[])).1),.str (tx (es.getD i.toNat ([],[],[])).2.1),.ref s]/\Is K H (.lst ((es.getD i.toNat ([],[],[])).2.2.map dSt)) (.ref s):=by
 have hl:=hI.len
 rw[ae] at hl
 obtain⟨v,a1,b1⟩:=ZF (xs:=xs) (i:=i) h0 (by lia)
 obtain⟨d,e,ix⟩:=hI.get b1
 rw[aG] at e
 obtain⟨r,hr,rfl⟩:=tj.mp e
 have e:es.getD i.toNat ([],[],[])=r:=by rw[af,hr];rfl
 rw[e]
 obtain⟨p,s,rfl,h2,h3⟩:=zby ix
 exact⟨p,s,a1,hr,h2,h3⟩
theorem YR(ss:List Stp)(z:Int):(mvL ss z).length=ss.length:=by simp [mvL]
theorem xu(ss:List Stp):(yl ss).length=ss.length:=by simp [yl]
def Uh(K:oN):Sp:=λvs H Q _=>∃(a t:oO) (es:List Ent) (us:List Stp),vs=[.ref a,.ref t]/\Is K H (.lst (es.map dE)) (.ref a)/\Is K H (.lst (us.map dSt)) (.ref t)/\us.length<=100/\(∀e ∈ es,e.2.2.length<=600)/\(∀u ∈ us,0<=u.1/\u.1<es.length)/\∀(D:oO) (H':Hp),H D=sJ->Same H H'->LsA K H' D ((byL es us).map dSt)->Q (.ref D) H'
theorem iN:zp ["entries","steps","chain","step","own"] ["entries","steps"] (zh ue):=by nofun
theorem Yr(B:Bt mg)(F:Fun K "by_pacts" "by_pacts" ue f fd)(om:Df P w K mg base CX0 1 "moved" ["steps","size"] [] (uM K))(mh:Df P w K mg base CX0 1 "back" ["steps"] [] (vV K)):z8 P w K mg base CX0 2 f fd ["entries","steps"] (Uh K):=by
 refine F.ok iN (λvs H Q E h=>?_) (λcdv A outer s H vs Q E hr h=>?_)
 ·obtain⟨a,t,es,us,rfl,_⟩:=h
  rfl
 ·obtain⟨a,t,es,us,rfl,hE,hU,hul,hel,hub,q⟩:=h
  refine⟨_,(zi (zq (i:=2) iN.nd rfl (.inl rfl) (vD ze))
   (zi (yq PassesOwn.never rfl (yt (pv 1)) (zy (i:=3) iN.nd rfl (.inl rfl))
    (zi (zq (i:=4) iN.nd rfl (.inl rfl) (zr ix_tup (zr ix_list (pv 0) (zr ix_tup (pv 3) zf (λ_ _=>rfl)) (λ_ _=>rfl)) zf (λ_ _=>rfl)))
    (zg (vW (uH cG PySem.F.slot_list_extend PySem.F.type_list_extend Vp (pv 2) (za (cl0 om hr .nil rfl (za (kg (yL (zr ix_tup (pv 3) zf (λ_ _=>rfl)) (λ_=>rfl)) (pv 4) (cl0 mh hr .nil rfl (za (pv 4) ze))) (za (zr ix_tup (pv 3) zf (λ_ _=>rfl)) ze))) ze))))))
   (zg (zt (pv 2))))),?_⟩
  have s16:=ya
  have hE':=hE
  have hU':=hU
  simp only[Is] at hE' hU'
  obtain⟨_,xs,e,hX,hI⟩:=hE'
  cases e
  obtain⟨_,ts,e,hTs,hJ⟩:=hU'
  cases e
  have htl:=hJ.len
  rw[ae] at htl
  refine zk (λσ H'=>∃D,H D=sJ/\Same H H'/\H' D=sI (.lst [])/\σ=[sI (.ref a),sI (.ref t),sI (.ref D),sJ,sJ]) ?_ ?_
  ·rfl'
   exact⟨by lia,λp hp=>⟨p,hp,zd hp,zc,rfl⟩⟩
  rintro σ H1 ⟨D,hD,s1,hD1,rfl⟩
  refine zk (λσ H'=>Same H H'/\LsA K H' D ((byL es us).map dSt)/\∃v3 v4,σ=[sI (.ref a),sI (.ref t),sI (.ref D),v3,v4]) ?_ ?_
  ·rfl'
   refine⟨⟨_,s1.seq hTs⟩,ForL.by (xs:=ts) (λi σ H'=>Same H H'/\LsA K H' D ((byL es (us.take i)).map dSt)/\(byL es (us.take i)).length<=i * 600/\∃v3 v4,σ=[sI (.ref a),sI (.ref t),sI (.ref D),v3,v4]) ⟨s1,⟨[],hD1,by simp only[br,byL,List.flatMap_nil,aP,Iss]⟩,by simp [byL],_,_,rfl⟩ (λi σ H' _ h=>h.1.seq hTs) ?_ ?_⟩
   ·rintro i x σ H' hx ⟨hs,hL,hl,v3,v4,rfl⟩
    obtain⟨u,pu,hui,rfl,hqu⟩:=vL hJ hx
    have hil:=(sQ.mp hui).1
    obtain⟨u0,u1⟩:=hub u (ac hui)
    obtain⟨pe,se,g1,g2,g3,g4⟩:=zdw hI u0 u1
    have hle:=hel _ (ac g2)
    have hby:byL es (us.take (i+1))=byL es (us.take i) ++ X2 es u:=by
     unfold byL
     rw[zQ hui,de]
     simp
    simp only[xg,bv,bu]
    refine zk (λσ H''=>H''=H'/\σ=[sI (.ref a),sI (.ref t),sI (.ref D),sI (.ref pu),sI (.ref se)]) ?_ ?_
    ·rfl'
     exact⟨_,zj hs hqu,_,rfl,_,_,rfl,hs.seq hX,_,g1,_,rfl,_,zj hs g3,rfl⟩
    rintro σ G ⟨rfl,rfl⟩
    obtain⟨zs,hZ,hZI⟩:=id hL
    have hzl:=hZI.len
    rw[ae] at hzl
    have hse:=Is.same hs _ _ g4
    have fin:∀(ws:List Stp) (M:oO) (G2:Hp),X2 es u=ws->ws.length<=600->Same G G2->LsA K G2 M (ws.map dSt)->VE (V.ref D) [V.ref M] G2 λx H1=>Same H H1/\LsA K H1 D ((byL es (us.take (i+1))).map dSt)/\(byL es (us.take (i+1))).length<=(i+1) * 600:=λws M G2 ew hwl sg hM=>by
     obtain⟨ys,hY,hYI⟩:=hM
     have hyl:=hYI.len
     rw[ae] at hyl
     have hZ2:=sg _ _ hZ
     refine⟨D,M,zs,ys,rfl,rfl,hZ2,hY,by lia,zE (hs.trans sg) hD,⟨_,zc,?_⟩,?_⟩
     ·rw[hby,ew,ay]
      exact Iss.append (Iss.updL hZ2 _ _ (wu _) (Iss.same sg _ _ hZI)) (Iss.updL hZ2 _ _ (wu _) hYI)
     ·rw[hby,ew,ak]
      lia
    rfl'
    refine⟨.inl ⟨_,SqL.of hZ⟩,_,zj hs hqu,_,rfl,_,rfl,yT (λhf=>⟨_,zj hs hqu,_,rfl,Zu hse (by lia) λM G2 _ sg hM=>fin _ M G2 (by unfold X2;rw[if_pos hf]) (by rw[YR];lia) sg hM⟩) λhf=>jU hse (by lia) λM0 G1 _ sg0 hM0=>⟨_,zj (hs.trans sg0) hqu,_,rfl,Zu hM0.is (by rw[xu];lia) λM G2 _ sg hM=>fin _ M G2 (by unfold X2;rw[if_neg hf]) (by rw[YR,xu];lia) (sg0.trans sg) hM⟩⟩
   ·rintro σ H' ⟨hs,hL,hl,v3,v4,rfl⟩
    rw[htl,aK] at hL
    exact⟨hs,hL,_,_,rfl⟩
  rintro σ H2 ⟨s2,hL2,v3,v4,rfl⟩
  rfl'
  exact q D H2 hD s2 hL2
noncomputable def yD(rs:List zw):List Nat->List Stp->Option (List Nat)
 | w,[]=>sI w
 | w,s::ss=>(yY rs w s).bind λw'=>yD rs w' ss
theorem vw(rs:List zw):∀(ss ts:List Stp) (w:List Nat),yD rs w (ss ++ ts)=(yD rs w ss).bind λw'=>yD rs w' ts
 | [],ts,w=>rfl
 | s::ss,ts,w=>by
  simp only[bJ,yD]
  cases yY rs w s with
  | none=>rfl
  | some w1=>exact vw rs ss ts w1
theorem qX{s:Stp}{w w':List Nat}(h:yD rs w (s::ss)=sI w'):∃w1,yY rs w s=sI w1/\yD rs w1 ss=sI w':=by
 simp only[yD] at h
 obtain⟨w1,h1,h2⟩:=Option.bind_eq_some_iff.mp h
 exact⟨w1,h1,h2⟩
theorem Zd{s:Stp}{w w1 w2:List Nat}(h:yD rs w ss=sI w1)(h2:yY rs w1 s=sI w2):yD rs w (ss ++ [s])=sI w2:=by
 rw[vw,h]
 simp only[yD,cu]
 rw[h2]
 rfl
theorem Ug(s:Stp)(ss:List Stp):yl (s::ss)=yl ss ++ [bk s]:=by simp [yl]
theorem vv:∀{ss:List Stp} {w w':List Nat},yD rs w ss=sI w'->yD rs w' (yl ss)=sI w
 | [],w,w',h=>by cases h;rfl
 | s::ss,w,w',h=>by
  obtain⟨w1,h1,h2⟩:=qX h
  rw[Ug]
  exact Zd (vv h2) (jw h1)
theorem qR(a b:List Nat):∀{ss:List Stp} {w w':List Nat},yD rs w ss=sI w'->yD rs (a ++ w ++ b) (mvL ss (a.length:Int))=sI (a ++ w' ++ b)
 | [],w,w',h=>by cases h;rfl
 | s::ss,w,w',h=>by
  obtain⟨w1,h1,h2⟩:=qX h
  have e:mvL (s::ss) (a.length:Int)=(s.1,s.2.1+(a.length:Int),s.2.2)::mvL ss (a.length:Int):=rfl
  rw[e]
  simp only[yD]
  rw[uB a b h1]
  exact qR a b h2
def EOk(rs:List zw)(e:Ent):Prop:=yD rs e.1 e.2.2=sI e.2.1
noncomputable def zb(es:List Ent):List zw:=es.map λe=>(e.1,e.2.1)
theorem UN(hE:∀e ∈ es,EOk rs e){u:Stp}{w w':List Nat}(h:yY (zb es) w u=sI w'):yD rs w (X2 es u)=sI w':=by
 have hb:0<=u.1/\u.1<(zb es).length:=Decidable.byContradiction λhb=>by rw[ud hb] at h;cases h
 rw[xV hb] at h
 have hl:(zb es).length=es.length:=by unfold zb;rw[ae]
 rw[hl] at hb
 have hg:es[u.1.toNat]? = sI (es.getD u.1.toNat ([],[],[])):=by
  rw[af,aj (by lia)]
  rfl
 have hp:(zb es).getD u.1.toNat ([],[])=((es.getD u.1.toNat ([],[],[])).1,(es.getD u.1.toNat ([],[],[])).2.1):=by
  unfold zb
  rw[af,aG,hg]
  rfl
 rw[hp] at h
 have he:=hE _ (ac hg)
 unfold X2
 generalize es.getD u.1.toNat ([],[],[])=e at *
 have key:∀(o n:List Nat) (ss:List Stp),sdl (e.1,e.2.1) u.2.2=(o,n)->yD rs o ss=sI n->yD rs w (mvL ss u.2.1)=sI w':=λo n ss hs hw=>by
  rw[hs] at h
  by_cases hst:zx w u.2.1 o=sK
  ·rw[if_pos hst] at h
   cases h
   obtain⟨e1,e2,h0,h1⟩:=wj hst
   have:=qR (w.take u.2.1.toNat) (w.drop (u.2.1.toNat+o.length)) hw
   rw[e1,e2,show ((u.2.1.toNat:Nat):Int)=u.2.1 by lia] at this
   exact this
  ·rw[if_neg hst] at h
   cases h
 cases hf:u.2.2 with
 | true =>
  rw[if_pos rfl]
  exact key e.1 e.2.1 e.2.2 (by rw[hf];rfl) he
 | false =>
  rw[if_neg (by decide)]
  exact key e.2.1 e.1 (yl e.2.2) (by rw[hf];rfl) (vv he)
theorem kz(hE:∀e ∈ es,EOk rs e):∀{us:List Stp} {w w':List Nat},yD (zb es) w us=sI w'->yD rs w (byL es us)=sI w'
 | [],w,w',h=>by cases h;rfl
 | u::us,w,w',h=>by
  obtain⟨w1,h1,h2⟩:=qX h
  have e:byL es (u::us)=X2 es u ++ byL es us:=by simp [byL]
  rw[e,vw,UN hE h1]
  exact kz hE h2
noncomputable def jh(D:oO)(H:Hp):Hp:=λb=>if b=D then sJ else H b
theorem wG{D b:oO}(h:b≠D):jh D H b=H b:=by unfold jh;rw[if_neg h]
theorem qJ{D:oO}:jh D H D=sJ:=by unfold jh;rw[if_pos rfl]
theorem wN{D:oO}:Same (jh D H) H:=λb o e=>by
 by_cases hb:b=D
 ·rw[hb,qJ] at e;cases e
 ·rw[wG hb] at e;exact e
theorem VN{D:oO}{H H':Hp}(hD:H D=sJ)(s:Same H H'):Same H (jh D H'):=λb o e=>by
 have hb:b≠D:=λz=>by rw[z,hD] at e;cases e
 rw[wG hb]
 exact s _ _ e
theorem wB{D:oO}{H H':Hp}(s:Same H H'):Same (jh D H) (jh D H'):=λb o e=>by
 by_cases hb:b=D
 ·rw[hb,qJ] at e;cases e
 ·rw[wG hb] at e ⊢;exact s _ _ e
theorem xz{D:oO}{o:HO}:Same (jh D H) (jh D (upd H D o)):=λb o' e=>by
 by_cases hb:b=D
 ·rw[hb,qJ] at e;cases e
 ·rw[wG hb] at e ⊢;rw[zo hb];exact e
theorem VR{D a:oO}{xs ys:List V}(hD:H D=sI (.lst ys))(h:SqT K H a xs):SqT K (jh D H) a xs:=by
 rcases h with (h | ⟨o,h⟩) | h
 ·exact .inl (.inl (by rw[wG (λe=>by rw[e,hD] at h;cases h)];exact h))
 ·exact .inl (.inr ⟨o,by rw[wG (λe=>by rw[e,hD] at h;cases h)];exact h⟩)
 ·exact .inr h
theorem YJ{D:oO}{ys:List V}(hD:H D=sI (.lst ys)):∀(ss:List Stp) (vs:List V),Iss K H (ss.map dSt) vs->Iss K (jh D H) (ss.map dSt) vs
 | [],vs,h=>by simp only[aP,Iss] at h ⊢;exact h
 | s::ss,vs,h=>by
  simp only[au,Iss] at h ⊢
  obtain⟨v,r,rfl,h1,h2⟩:=h
  obtain⟨p,rfl,h3⟩:=Jg h1
  exact⟨_,r,rfl,YI (VR hD h3),YJ hD ss r h2⟩
theorem zct{p s:oO}(h1:SqT K H p [.str (tx e.1),.str (tx e.2.1),.ref s])(h2:Is K H (.lst (e.2.2.map dSt)) (.ref s)):Is K H (dE e) (.ref p):=by
 simp only[dE,Is,Iss]
 simp only[Is] at h2
 exact⟨p,_,rfl,h1,_,_,rfl,rfl,_,_,rfl,rfl,_,_,rfl,h2,rfl⟩
theorem Xj{vs:List V}{j:Nat}{v:V}(h:Iss K H (es.map dE) vs)(q:vs[j]? = sI v):∃e p s,es[j]? = sI e/\v=.ref p/\SqT K H p [.str (tx e.1),.str (tx e.2.1),.ref s]/\Is K H (.lst (e.2.2.map dSt)) (.ref s):=by
 obtain⟨d,e,i⟩:=h.get q
 rw[aG] at e
 obtain⟨r,hr,rfl⟩:=tj.mp e
 obtain⟨p,s,e1,e2,e3⟩:=zby i
 exact⟨r,p,s,hr,e1,e2,e3⟩
theorem JP{d:L3.D}{v:V}(h:Is K H d v):Iss K H [d] [v]:=by
 simp only[Iss]
 exact⟨v,[],rfl,h,rfl⟩
def EnA(K:oN)(H:Hp)(e:Ent)(v:V):Prop:=∃p s,v=.ref p/\SqT K H p [.str (tx e.1),.str (tx e.2.1),.ref s]/\LsA K H s (e.2.2.map dSt)
def EnsA(K:oN)(H:Hp):List Ent->List V->Prop
 | [],vs=>vs=[]
 | e::es,vs=>∃v r,vs=v::r/\EnA K H e v/\EnsA K H es r
def EnsL(K:oN)(H:Hp)(a:oO)(es:List Ent):Prop:=∃xs,SqL K H a xs/\EnsA K H es xs
def EnsM(K:oN)(H:Hp)(a:oO)(es:List Ent):Prop:=∃xs,H a=sI (.lst xs)/\EnsA K H es xs
theorem EnA.is{v:V}(h:EnA K H e v):Is K H (dE e) v:=by
 obtain⟨p,s,rfl,h1,h2⟩:=h
 exact zct h1 h2.is
theorem EnA.same{H H':Hp}{v:V}(h:EnA K H e v)(q:Same H H'):EnA K H' e v:=by
 obtain⟨p,s,e0,h1,h2⟩:=h
 exact⟨p,s,e0,zj q h1,h2.same q⟩
theorem EnsA.iss:∀{es:List Ent} {vs:List V},EnsA K H es vs->Iss K H (es.map dE) vs
 | [],vs,h=>by simp only[EnsA] at h;simp only[aP,Iss];exact h
 | e::es,vs,h=>by
  simp only[EnsA] at h
  obtain⟨v,r,rfl,h1,h2⟩:=h
  simp only[au,Iss]
  exact⟨v,r,rfl,h1.is,h2.iss⟩
theorem EnsA.len{vs:List V}(h:EnsA K H es vs):vs.length=es.length:=by
 have:=h.iss.len
 rw[ae] at this
 exact this
theorem EnsA.same{H H':Hp}(q:Same H H'):∀{es:List Ent} {vs:List V},EnsA K H es vs->EnsA K H' es vs
 | [],vs,h=>by simp only[EnsA] at h ⊢;exact h
 | e::es,vs,h=>by
  simp only[EnsA] at h ⊢
  obtain⟨v,r,e0,h1,h2⟩:=h
  exact⟨v,r,e0,h1.same q,h2.same q⟩
theorem EnsA.snoc{v:V}(hv:EnA K H e v):∀{es:List Ent} {vs:List V},EnsA K H es vs->EnsA K H (es ++ [e]) (vs ++ [v])
 | [],vs,h=>by
  simp only[EnsA] at h
  subst h
  simp only[bD,EnsA]
  exact⟨v,[],rfl,hv,rfl⟩
 | e'::es,vs,h=>by
  simp only[EnsA] at h
  obtain⟨x,r,rfl,hx,hr⟩:=h
  simp only[bJ,EnsA]
  exact⟨x,r ++ [v],rfl,hx,hr.snoc hv⟩
theorem EnsA.get:∀{es:List Ent} {vs:List V} {j:Nat} {v:V},EnsA K H es vs->vs[j]? = sI v->∃e p s,es[j]? = sI e/\v=.ref p/\SqT K H p [.str (tx e.1),.str (tx e.2.1),.ref s]/\LsA K H s (e.2.2.map dSt)
 | [],vs,j,v,h,q=>by
  simp only[EnsA] at h
  subst h
  simp at q
 | e::es,vs,0,v,h,q=>by
  simp only[EnsA] at h
  obtain⟨x,r,rfl,⟨p,s,rfl,h1,h2⟩,_⟩:=h
  cases q
  exact⟨e,p,s,rfl,rfl,h1,h2⟩
 | e::es,vs,j+1,v,h,q=>by
  simp only[EnsA] at h
  obtain⟨x,r,rfl,_,hr⟩:=h
  exact hr.get (j:=j) (by simpa using q)
theorem EnsL.is(h:EnsL K H a es):Is K H (.lst (es.map dE)) (.ref a):=by
 obtain⟨xs,h1,h2⟩:=h
 simp only[Is]
 exact⟨a,xs,rfl,h1,h2.iss⟩
theorem EnsL.same{H H':Hp}(h:EnsL K H a es)(q:Same H H'):EnsL K H' a es:=by
 obtain⟨xs,h1,h2⟩:=h
 exact⟨xs,q.seq h1,h2.same q⟩
theorem EnsM.l(h:EnsM K H a es):EnsL K H a es:=by
 obtain⟨xs,h1,h2⟩:=h
 exact⟨xs,SqL.of h1,h2⟩
theorem EnsM.same{H H':Hp}(h:EnsM K H a es)(q:Same H H'):EnsM K H' a es:=by
 obtain⟨xs,h1,h2⟩:=h
 exact⟨xs,q _ _ h1,h2.same q⟩
theorem EnA.new{D p s:oO}{ys:List V}(hD:H D=sI (.lst ys))(hp:H p=sI (.tup [.str (tx e.1),.str (tx e.2.1),.ref s]))(hs:LsA K H s (e.2.2.map dSt))(hsD:s≠D):EnA K (jh D H) e (.ref p):=by
 obtain⟨zs,hz,hi⟩:=hs
 have hpD:p≠D:=λz=>by rw[z,hD] at hp;cases hp
 exact⟨p,s,rfl,SqT.of (by rw[wG hpD];exact hp),zs,by rw[wG hsD];exact hz,YJ hD _ _ hi⟩
theorem xl(es:List Ent):(zb es).length=es.length:=by unfold zb;rw[ae]
def xX(K:oN):Sp:=λvs H Q _=>∃(a:oO) (es:List Ent),vs=[.ref a]/\Is K H (.lst (es.map dE)) (.ref a)/\es.length<=1000/\∀(D:oO) (H':Hp),H D=sJ->Same H H'->LsA K H' D ((zb es).map dR)->Q (.ref D) H'
theorem wK(h1:Is K H (.lst (es.map dE)) (.ref a))(h2:es.length<=1000)(h:∀(D:oO) (H':Hp),H D=sJ->Same H H'->LsA K H' D ((zb es).map dR)->Q (.ref D) H'):xX K [.ref a] H Q E:=⟨a,es,rfl,h1,h2,h⟩
theorem Yp:zp ["entries"] ["entries"] (zh wS):=by nofun
theorem Z3(B:Bt mg)(F:Fun K "pairs_of" "pairs_of" wS f fd) : z8 P w K mg base CX0 1 f fd ["entries"] (xX K):=by
 refine F.ok Yp (λvs H Q E h=>?_) (λcdv A outer s H vs Q E hr h=>?_)
 ·obtain⟨a,es,rfl,_⟩:=h
  rfl
 ·obtain⟨a,es,rfl,hA,hl,q⟩:=h
  refine⟨_,(zg (zt (yu (own:=["entry"]) (caps:=[]) (ix:=[]) (tt:=xL) (te:=(Ur (zJ (tOp (vN K) (yo 0) (tC (.int 0))) (zJ (tOp (vN K) (yo 0) (tC (.int 1))) xS)))) rfl (zL (sc:=zh wS) rfl (by symm) (by symm) (by symm) rfl (by symm) (by symm) rfl) (yt (pv 0)) (λ_ _ _ _ _ _=>zy (i:=0) (show List.Nodup [_] by decide) rfl (.inl rfl)) (λ_ _ _ _ _ _=>yg) (λ_ _ _ _ _ _=>(zY (za (zr ix_tup (pv 0) zf (λ_ _=>rfl)) (za (zr ix_tup (pv 0) zf (λ_ _=>rfl)) ze))))))),?_⟩
  have s16:=ya
  rfl'
  simp only[Is] at hA
  obtain⟨_,xs,e,hX,hI⟩:=hA
  cases e
  have hxl:=hI.len
  rw[ae] at hxl
  have hpl:=xl es
  refine⟨⟨xs,hX⟩,λD hD=>CompL.by (xs:=xs) (λi sP H'=>Same H H'/\H' D=sI (.lst sP)/\Iss K H' (((zb es).take i).map dR) sP) ⟨zd hD,zc,by simp only[br,aP,Iss]⟩ (λi sP H' _ h=>h.1.seq hX) ?_ ?_⟩
  ·rintro i x sP H' hx ⟨hs,hH,hA⟩
   have hi:=(sQ.mp hx).1
   obtain⟨e,pe,se,hei,rfl,hqe,_⟩:=Xj hI hx
   have hm:(zb es)[i]? = sI (e.1,e.2.1):=by unfold zb;rw[aG,hei];rfl
   have hal:=hA.len
   rw[ae,az] at hal
   simp only[xL]
   rfl'
   refine⟨yF,_,zj hs hqe,_,rfl,_,zj hs hqe,_,rfl,by lia,λp hp=>⟨zd hp _ _ hH,by lia,CNx.mk hi ⟨zE (hs.trans (zd hp)) hD,zc,?_⟩⟩⟩
   rw[zQ hm,ay]
   exact wY hH hA hp Jy (j9 _) (by simp only[zW,y8,and_self])
  ·rintro sP H' ⟨hs,hH,hA⟩
   rw[hxl,<- hpl,aK] at hA
   exact q D H' hD hs ⟨sP,hH,hA⟩
noncomputable def yk(k:Nat)(l:List Nat)(ns:List Int)(e:Ent):Ent:=if zK k l ns e.2.1 e.1=sK then e else (e.2.1,e.1,yl e.2.2)
structure EB(l:List Nat)(e:Ent):Prop where
 a:e.1.length<=60
 b:e.2.1.length<=60
 s:e.2.2.length<=600
 ma:∀c ∈ e.1,c ∈ l
 mb:∀c ∈ e.2.1,c ∈ l
theorem EB.rule{l:List Nat}(h:EB l e):EB l (yk k l ns e):=by
 unfold yk
 split
 ·exact h
 ·exact⟨h.b,h.a,by rw[xu];exact h.s,h.mb,h.ma⟩
def xO(K:oN)(CO CR CW:oO):Sp:=λvs H Q _=>∃(o p s:oO) (k:Nat) (l:List Nat) (ns:List Int) (e:Ent),vs=[.ref o,.ref p]/\OrdAt CO CR CW H o k l ns/\OG l ns k/\SqT K H p [.str (tx e.1),.str (tx e.2.1),.ref s]/\Is K H (.lst (e.2.2.map dSt)) (.ref s)/\EB l e /\
 (yk k l ns e=e->∀H',Same H H'->Q (.ref p) H') /\
 (∀(p' s':oO) (H':Hp),Same H H'->H s'=sJ->H' p'=sI (.tup [.str (tx (yk k l ns e).1),.str (tx (yk k l ns e).2.1),.ref s'])->LsA K H' s' ((yk k l ns e).2.2.map dSt)->Q (.ref p') H')
theorem jB{CO CR CW o p s:oO}{l:List Nat}(h1:OrdAt CO CR CW H o k l ns)(h2:OG l ns k)(h3:SqT K H p [.str (tx e.1),.str (tx e.2.1),.ref s])(h4:Is K H (.lst (e.2.2.map dSt)) (.ref s))(h5:EB l e)
  (h6:yk k l ns e=e->∀H',Same H H'->Q (.ref p) H') (h7:∀(p' s':oO) (H':Hp),Same H H'->H s'=sJ->H' p'=sI (.tup [.str (tx (yk k l ns e).1),.str (tx (yk k l ns e).2.1),.ref s'])->LsA K H' s' ((yk k l ns e).2.2.map dSt)->Q (.ref p') H'):xO K CO CR CW [.ref o,.ref p] H Q E :=
 ⟨o,p,s,k,l,ns,e,rfl,h1,h2,h3,h4,h5,h6,h7⟩
theorem XY:zp ["order","entry"] ["order","entry"] (zh jc):=by nofun
theorem X4{f CO CR CW:oO}(B:Bt mg)(DBk:DB P w K mg base CO CR CW)(F:Fun K "as_rule" "as_rule" jc f fd)(mh:Df P w K mg base CX0 1 "back" ["steps"] [] (vV K)):z8 P w K mg base CX0 4 f fd ["order","entry"] (xO K CO CR CW):=by
 refine F.ok XY (λvs H Q E h=>?_) (λcdv A outer s H vs Q E hr h=>?_)
 ·obtain⟨o,p,s,k,l,ns,e,rfl,_⟩:=h
  rfl
 ·obtain⟨o,p,s,k,l,ns,e,rfl,ho,hG,hp,hs,hE,q1,q2⟩:=h
  refine⟨_,(zM (zR (yL (K8 DBk hr (pv 0) (za (zr ix_tup (pv 1) zf (λ_ _=>rfl)) (za (zr ix_tup (pv 1) zf (λ_ _=>rfl)) ze))) (λ_=>rfl))
    (zg (zt (pv 1)))
    zA)
   (zg (zt (zY (za (zr ix_tup (pv 1) zf (λ_ _=>rfl)) (za (zr ix_tup (pv 1) zf (λ_ _=>rfl)) (za (cl0 mh hr .nil rfl (za (zr ix_tup (pv 1) zf (λ_ _=>rfl)) ze)) ze))))))),?_⟩
  have s16:=ya
  ac_rfl
  obtain⟨C,dx,fs,hf,ho1,hn,_⟩:=ho.fam
  have h1:fs.lookup ("before" : oV)=sJ:=hn _ (by decide) (by decide)
  refine⟨C,hf,dx,fs,ho1,h1,_,hp,_,rfl,_,hp,_,rfl,o,k,l,ns,e.2.1,e.1,rfl,ho,hG,by have:=hE.b;lia,by have:=hE.a;lia,hE.mb,hE.ma,λH1 s1=>⟨_,rfl,yT (λh=>?_) λh=>?_⟩⟩
  ·exact q1 (by unfold yk;rw[if_pos h]) H1 s1
  ·have er:yk k l ns e=(e.2.1,e.1,yl e.2.2):=by unfold yk;rw[if_neg h]
   rw[er] at q2
   have hp1:=zj s1 hp
   refine⟨_,hp1,_,rfl,_,hp1,_,rfl,_,hp1,_,rfl,jU (Is.same s1 _ _ hs) (by have:=hE.s;lia) λD H2 hD s2 hL=>⟨by lia,λt ht=>?_⟩⟩
   exact q2 t D _ (s1.trans (s2.trans (zd ht))) (s1.free hD) zc (hL.same (zd ht))
theorem ZT{l:List Nat}{w:List Nat}(hb:∀n ∈ ns,1<=n/\n<=1000000):0<=Wb l ns w:=by
 unfold Wb
 have key:∀xs:List Int,(∀x ∈ xs,0<=x)->0<=xs.sum:=by
  intro xs
  induction xs with
  | nil=>intro _;simp
  | cons x xs ih =>
   intro h
   rw[bi]
   have h1:=h x aB
   have h2:=ih λy hy=>h y (ao _ hy)
   lia
 refine key _ λx hx=>?_
 obtain⟨p,hp,rfl⟩:=sS.mp hx
 have h1:=(hb p.2 (dg (show (p.1,p.2) ∈ l.zip ns from hp)).2).1
 exact Int.mul_nonneg (by lia) (by lia)
theorem W1{l:List Nat}{u v:List Nat}(hb:∀n ∈ ns,1<=n/\n<=1000000)(h:zK k l ns u v=sK):v≠[]:=by
 intro e
 subst e
 have h0:zl k l ns []=0:=by
  unfold zl
  split
  ·unfold Wb
   have z:∀xs:List (Nat × Int),(xs.map λp=>(([]:List Nat).count p.1:Int) * p.2).sum=0:=by
    intro xs
    induction xs with
    | nil=>rfl
    | cons x xs ih=>rw[au,bi,ih];simp
   exact z _
  ·rfl
 have h1:0<=zl k l ns u:=by
  unfold zl
  split
  ·exact ZT hb
  ·lia
 have h2:xD k l []=[]:=by
  unfold xD yh
  split <;> rfl
 unfold zK at h
 rw[h0,h2] at h
 split at h
 ·cases hr:xD k l u with
  | nil=>rw[hr] at h;cases h
  | cons a r=>rw[hr] at h;cases h
 ·have:=of_decide_eq_true h
  lia
theorem ql{k:Nat}{l:List Nat}{ns:List Int}(hE:EB l e)(hne:e.1≠e.2.1):zK k l ns (yk k l ns e).2.1 (yk k l ns e).1=sK:=by
 unfold yk
 by_cases h:zK k l ns e.2.1 e.1=sK
 ·rw[if_pos h]
  exact h
 ·rw[if_neg h]
  have:=ja (k:=k) (ns:=ns) hE.ma hE.mb hne
  show zK k l ns e.1 e.2.1=sK
  rw[this]
  simpa using h
noncomputable def qD(k:Nat)(l:List Nat)(ns:List Int)(es:List Ent):List Ent:=(es.filter λe=>!decide (e.1=e.2.1)).map (yk k l ns)
theorem JF(k:Nat)(l:List Nat)(ns:List Int)(es fs:List Ent):qD k l ns (es ++ fs)=qD k l ns es ++ qD k l ns fs:=by
 unfold qD
 rw[cN,ay]
theorem Yc(k:Nat)(l:List Nat)(ns:List Int)(es:List Ent):(qD k l ns es).length<=es.length:=by
 unfold qD
 rw[ae]
 exact cS _ _
noncomputable def XZ(k:Nat)(l:List Nat)(ns:List Int)(a b:Ent):Bool:=if a.1=b.1 then zK k l ns a.2.1 b.2.1 else zK k l ns a.1 b.1
structure Lined(k:Nat)(l:List Nat)(ns:List Int)(es zs:List Ent):Prop where
 perm:zs.Perm (qD k l ns es)
 srt:zs.Pairwise λa b=>XZ k l ns b a=sL
structure zS(ps:List zw)(w:List Nat)(i:Nat):Prop where
 live:Xv ps w i
 end_:zC (wAt ps w i) ps=sJ
 most:i<=40
theorem JN(ps:List zw)(w:List Nat):(∃i,zS ps w i)\/(Xv ps w 40/\zC (wAt ps w 40) ps≠sJ):=by
 have key:∀n,n<=41->(∃i,zS ps w i)\/Xv ps w n:=by
  intro n
  induction n with
  | zero=>intro _;exact .inr λi h=>absurd h (cz i)
  | succ n ih =>
   intro hn
   rcases ih (by lia) with h | h
   ·exact .inl h
   ·cases e:zC (wAt ps w n) ps with
    | none=>exact .inl ⟨n,h,e,by lia⟩
    | some u =>
     refine .inr λi hi=>?_
     by_cases hin:i=n
     ·rw[hin,e]
      intro z
      cases z
     ·exact h i (by lia)
 rcases key 41 (am _) with h | h
 ·exact .inl h
 ·exact .inr ⟨λi hi=>h i (by lia),h 40 (by decide)⟩
noncomputable def stS(us:List (Nat × Nat)):List Stp:=us.map λu=>((u.1:Int),(u.2:Int),sK)
noncomputable def yH(bs:List Ent)(e:Ent)(i j:Nat):Ent:=(wAt (zb bs) e.1 i,wAt (zb bs) e.2.1 j,byL bs (yl (stS (sAt (zb bs) e.1 i))) ++ e.2.2 ++ byL bs (stS (sAt (zb bs) e.2.1 j)))
def je(e:Ent):Prop:=240<e.2.2.length\/60<e.1.length\/60<e.2.1.length
inductive xo(k:Nat)(l:List Nat)(ns:List Int):List Ent->List Ent->Option (List Ent)->Prop where
 | nil (bs:List Ent):xo k l ns bs [] (sI bs)
 | same {bs es:List Ent} {e:Ent} {i j:Nat} {r:Option (List Ent)} (h1:zS (zb bs) e.1 i) (h2:zS (zb bs) e.2.1 j) (h3:wAt (zb bs) e.1 i=wAt (zb bs) e.2.1 j) (h4:xo k l ns bs es r):xo k l ns bs (e::es) r
 | new {bs es:List Ent} {e:Ent} {i j:Nat} {r:Option (List Ent)} (h1:zS (zb bs) e.1 i) (h2:zS (zb bs) e.2.1 j) (h3:wAt (zb bs) e.1 i≠wAt (zb bs) e.2.1 j) (h4:¬ je (yH bs e i j)) (h5:xo k l ns (bs ++ [yk k l ns (yH bs e i j)]) es r):xo k l ns bs (e::es) r
 | far {bs es:List Ent} {e:Ent} {i j:Nat} (h1:zS (zb bs) e.1 i) (h2:zS (zb bs) e.2.1 j) (h3:wAt (zb bs) e.1 i≠wAt (zb bs) e.2.1 j) (h4:je (yH bs e i j)):xo k l ns bs (e::es) sJ
 | stuck {bs es:List Ent} {e:Ent} (h:(∀i,¬ zS (zb bs) e.1 i)\/(∀j,¬ zS (zb bs) e.2.1 j)):xo k l ns bs (e::es) sJ
inductive vS(k:Nat)(l:List Nat)(ns:List Int):Nat->List Ent->Option (List Ent)->Prop where
 | out (es:List Ent):vS k l ns 0 es sJ
 | bad {n:Nat} {es zs:List Ent} (h1:Lined k l ns es zs) (h2:xo k l ns [] zs sJ):vS k l ns (n+1) es sJ
 | done {n:Nat} {es zs bs:List Ent} (h1:Lined k l ns es zs) (h2:xo k l ns [] zs (sI bs)) (h3:zb bs=zb zs):vS k l ns (n+1) es (sI bs)
 | more {n:Nat} {es zs bs:List Ent} {r:Option (List Ent)} (h1:Lined k l ns es zs) (h2:xo k l ns [] zs (sI bs)) (h3:zb bs≠zb zs) (h4:vS k l ns n bs r):vS k l ns (n+1) es r
theorem yQ{w:List Nat}{u:Nat × Nat}(h:zC w ps=sI u):∃p,ps[u.1]? = sI p/\zx w (u.2:Int) p.1=sK:=by
 have hm:u ∈ xt w ps w.length:=e9 (by unfold zC at h;rw[h];rfl)
 exact (wM (usesK_mem.mp hm).2).2
theorem uf{l w:List Nat}(hw:∀c ∈ w,c ∈ l)(hp:∀p ∈ ps,∀c ∈ p.2,c ∈ l):∀j,∀c ∈ wAt ps w j,c ∈ l
 | 0=>hw
 | j+1=>by
  have ih:=uf hw hp j
  cases e:zC (wAt ps w j) ps with
  | none =>
   show ∀c ∈ YV ps (wAt ps w j),c ∈ l
   unfold YV
   rw[e]
   exact ih
  | some u =>
   obtain⟨p,h1,h2⟩:=yQ e
   rw[wk e]
   unfold ZM yI
   rw[xn h1]
   intro c hc
   rcases sV.mp hc with hc | hc
   ·rcases sV.mp hc with hc | hc
    ·exact ih c (bn hc)
    ·exact hp p (ac h1) c hc
   ·exact ih c (bW hc)
structure QZ(R:List Nat->List Nat->Prop):Prop where
 refl:∀u,R u u
 symm:∀{u v},R u v->R v u
 trans:∀{u v w},R u v->R v w->R u w
 ctx:∀{u v} (a b:List Nat),R u v->R (a ++ u ++ b) (a ++ v ++ b)
def vf(R:List Nat->List Nat->Prop)(es:List Ent):Prop:=∀e ∈ es,R e.1 e.2.1
theorem Kq{R:List Nat->List Nat->Prop}(hR:QZ R)(hk:∀p ∈ ps,R p.1 p.2)(w:List Nat):∀j,R w (wAt ps w j)
 | 0=>hR.refl w
 | j+1=>by
  have ih:=Kq hR hk w j
  cases e:zC (wAt ps w j) ps with
  | none =>
   show R w (YV ps (wAt ps w j))
   unfold YV
   rw[e]
   exact ih
  | some u =>
   obtain⟨p,h1,h2⟩:=yQ e
   rw[wk e]
   refine hR.trans ih ?_
   obtain⟨e1,_⟩:=wj h2
   unfold ZM yI
   rw[xn h1]
   have:=hR.ctx ((wAt ps w j).take ((u.2:Int)).toNat) ((wAt ps w j).drop (((u.2:Int)).toNat+p.1.length)) (hk p (ac h1))
   rw[e1] at this
   exact this
theorem qG{R:List Nat->List Nat->Prop}(h:vf R bs):∀p ∈ zb bs,R p.1 p.2:=λp hp=>by
 unfold zb at hp
 obtain⟨e,he,rfl⟩:=sS.mp hp
 exact h e he
theorem w6{R:List Nat->List Nat->Prop}(hR:QZ R){l:List Nat}:R (yk k l ns e).1 (yk k l ns e).2.1 ↔ R e.1 e.2.1:=by
 unfold yk
 split
 ·exact Iff.rfl
 ·exact⟨hR.symm,hR.symm⟩
theorem VC{R:List Nat->List Nat->Prop}(hR:QZ R){i j:Nat}(h:vf R bs):R (wAt (zb bs) e.1 i) (wAt (zb bs) e.2.1 j) ↔ R e.1 e.2.1:=by
 have h1:=Kq hR (qG h) e.1 i
 have h2:=Kq hR (qG h) e.2.1 j
 exact⟨λx=>hR.trans h1 (hR.trans x (hR.symm h2)),λx=>hR.trans (hR.symm h1) (hR.trans x h2)⟩
theorem WW{R:List Nat->List Nat->Prop}(hR:QZ R){l:List Nat}{bs es:List Ent}{r:Option (List Ent)}(h:xo k l ns bs es r):∀fs,r=sI fs->(vf R fs ↔ vf R bs/\vf R es):=by
 induction h with
 | nil bs =>
  intro fs e
  cases e
  exact⟨λh=>⟨h,λe he=>(nomatch he)⟩,λh=>h.1⟩
 | @same bs es e i j r h1 h2 h3 h4 ih =>
  intro fs er
  rw[ih fs er]
  refine⟨λ⟨a,b⟩=>⟨a,λx hx=>?_⟩,λ⟨a,b⟩=>⟨a,λx hx=>b x (ao _ hx)⟩⟩
  rcases sU.mp hx with rfl | hx
  ·refine (VC hR a (i:=i) (j:=j)).mp ?_
   rw[h3]
   exact hR.refl _
  ·exact b x hx
 | @new bs es e i j r h1 h2 h3 h4 h5 ih =>
  intro fs er
  rw[ih fs er]
  constructor
  ·rintro⟨a,b⟩
   have a':vf R bs:=λx hx=>a x (bj _ hx)
   refine⟨a',λx hx=>?_⟩
   rcases sU.mp hx with rfl | hx
   ·have:=a _ (aA bs (sX.mpr rfl))
    exact (VC hR a' (i:=i) (j:=j)).mp ((w6 hR).mp this)
   ·exact b x hx
  ·rintro⟨a,b⟩
   refine⟨λx hx=>?_,λx hx=>b x (ao _ hx)⟩
   rcases sV.mp hx with hx | hx
   ·exact a x hx
   ·rw[sX.mp hx]
    exact (w6 hR).mpr ((VC hR a (i:=i) (j:=j)).mpr (b e aB))
 | far=>intro fs e;cases e
 | stuck=>intro fs e;cases e
theorem Wi{R:List Nat->List Nat->Prop}(hR:QZ R){l:List Nat}{es zs:List Ent}(h:Lined k l ns es zs):vf R zs ↔ vf R es:=by
 have h1:vf R zs ↔ vf R (qD k l ns es):=⟨λa x hx=>a x (h.perm.mem_iff.mpr hx),λa x hx=>a x (h.perm.mem_iff.mp hx)⟩
 rw[h1]
 unfold qD
 constructor
 ·intro a x hx
  by_cases e:x.1=x.2.1
  ·rw[e]
   exact hR.refl _
  ·exact (w6 hR).mp (a _ (sS.mpr ⟨x,sY.mpr ⟨hx,by simpa using e⟩,rfl⟩))
 ·intro a x hx
  obtain⟨y,hy,rfl⟩:=sS.mp hx
  exact (w6 hR).mpr (a y ((sY.mp hy).1))
theorem Jo{R:List Nat->List Nat->Prop}(hR:QZ R){k n:Nat}{l:List Nat}{r:Option (List Ent)}(h:vS k l ns n es r):∀fs,r=sI fs->(vf R fs ↔ vf R es):=by
 have nilk:vf R []:=λe he=>(nomatch he)
 induction h with
 | out=>intro fs e;cases e
 | bad=>intro fs e;cases e
 | done h1 h2 h3 =>
  intro fs e
  rw[WW hR h2 fs e,Wi hR h1]
  exact⟨λh=>h.2,λh=>⟨nilk,h⟩⟩
 | more h1 h2 h3 h4 ih =>
  intro fs e
  rw[ih fs e,WW hR h2 _ rfl,Wi hR h1]
  exact⟨λh=>h.2,λh=>⟨nilk,h⟩⟩
def Within(p w:List Nat):Prop:=∃a b:List Nat,w=a ++ p ++ b
theorem Ud{w p:List Nat}(h:Within p w):∃q:Nat,zx w (q:Int) p=sK:=by
 obtain⟨a,b,rfl⟩:=h
 refine⟨a.length,?_⟩
 unfold zx
 refine decide_eq_true ⟨by lia,by simp only[ak];lia,?_⟩
 rw[aH,ar,cy,cD]
theorem Wx{w:List Nat}(hN:NeL ps)(h:zC w ps=sJ):∀p ∈ ps,¬ Within p.1 w:=λp hp hw=>by
 obtain⟨q,hq⟩:=Ud hw
 obtain⟨j,hj⟩:=tu.mp hp
 have hlt:=qP (hN p hp) hq
 have hs:stJ w ps q j=sK:=by rw[jn hj];exact hq
 have:(j,q) ∈ xt w ps w.length:=usesK_mem.mpr ⟨hlt,hs⟩
 unfold zC at h
 rw[List.head?_eq_none_iff] at h
 rw[h] at this
 cases this
structure RL(k:Nat)(l:List Nat)(ns:List Int)(bs:List Ent):Prop where
 e:∀e ∈ bs,EB l e
 lt:∀e ∈ bs,zK k l ns e.2.1 e.1=sK
theorem UU{l:List Nat}{w:List Nat}{u:Nat × Nat}(G:OG l ns k)(hp:∀p ∈ ps,zK k l ns p.2 p.1=sK/\(∀c ∈ p.1,c ∈ l)/\∀c ∈ p.2,c ∈ l)(hw:∀c ∈ w,c ∈ l)(h:zC w ps=sI u):zK k l ns (ZM w ps u) w=sK:=by
 obtain⟨p,h1,h2⟩:=yQ h
 obtain⟨e1,_⟩:=wj h2
 obtain⟨p1,p2,p3⟩:=hp p (ac h1)
 unfold ZM yI
 rw[xn h1]
 have ha:∀c ∈ w.take ((u.2:Int)).toNat,c ∈ l:=λc hc=>hw c (bn hc)
 have hb:∀c ∈ w.drop (((u.2:Int)).toNat+p.1.length),c ∈ l:=λc hc=>hw c (bW hc)
 generalize w.take ((u.2:Int)).toNat=a at *
 generalize w.drop (((u.2:Int)).toNat+p.1.length)=b at *
 rw[<- e1]
 have ap:∀x:List Nat,(∀c ∈ x,c ∈ l)->∀c ∈ a ++ x,c ∈ l:=λx hx c hc=>(sV.mp hc).elim (ha c) (hx c)
 rw[(vq G hb (ap p.2 p3) (ap p.1 p2)).2,(vq G ha p3 p2).1]
 exact p1
theorem QV{l:List Nat}{w:List Nat}(G:OG l ns k)(hp:∀p ∈ ps,zK k l ns p.2 p.1=sK/\(∀c ∈ p.1,c ∈ l)/\∀c ∈ p.2,c ∈ l)(hw:∀c ∈ w,c ∈ l):∀j,wAt ps w j=w\/zK k l ns (wAt ps w j) w=sK
 | 0=>.inl rfl
 | j+1=>by
  have ih:=QV G hp hw j
  have hm:=uf hw (λp hp'=>(hp p hp').2.2) j
  cases e:zC (wAt ps w j) ps with
  | none =>
   show YV ps (wAt ps w j)=w\/zK k l ns (YV ps (wAt ps w j)) w=sK
   unfold YV
   rw[e]
   exact ih
  | some u =>
   rw[wk e]
   have h:=UU G hp hm e
   rcases ih with h' | h'
   ·rw[h'] at h ⊢
    exact .inr h
   ·exact .inr (yn h h')
theorem RL.pairs{l:List Nat}(h:RL k l ns bs):∀p ∈ zb bs,zK k l ns p.2 p.1=sK/\(∀c ∈ p.1,c ∈ l)/\∀c ∈ p.2,c ∈ l:=λp hp=>by
 unfold zb at hp
 obtain⟨e,he,rfl⟩:=sS.mp hp
 exact⟨h.lt e he,(h.e e he).ma,(h.e e he).mb⟩
theorem RL.ne{l:List Nat}(h:RL k l ns bs)(G:OG l ns k):NeL (zb bs):=λp hp=>W1 G.nb (h.pairs p hp).1
theorem RL.snoc{l:List Nat}{d:Ent}(h:RL k l ns bs)(hd:EB l d)(hne:d.1≠d.2.1):RL k l ns (bs ++ [yk k l ns d]):=by
 refine⟨λe he=>?_,λe he=>?_⟩
 ·rcases sV.mp he with he | he
  ·exact h.e e he
  ·rw[sX.mp he]
   exact hd.rule
 ·rcases sV.mp he with he | he
  ·exact h.lt e he
  ·rw[sX.mp he]
   exact ql hd hne
theorem Ki{l:List Nat}{i j:Nat}(hB:RL k l ns bs)(hE:EB l e)(hF:¬ je (yH bs e i j)):EB l (yH bs e i j):=by
 unfold je at hF
 exact⟨by lia,by lia,by lia,uf hE.ma (λp hp=>(hB.pairs p hp).2.2) i,uf hE.mb (λp hp=>(hB.pairs p hp).2.2) j⟩
theorem X1{l:List Nat}{i j:Nat}(G:OG l ns k)(hB:RL k l ns bs)(hE:EB l e)(hlt:zK k l ns e.2.1 e.1=sK)(h1:zS (zb bs) e.1 i)(h2:zS (zb bs) e.2.1 j)
  (hp1:(yk k l ns (yH bs e i j)).1=e.1) (hp2:(yk k l ns (yH bs e i j)).2.1=e.2.1):zC e.1 (zb bs)=sJ/\zC e.2.1 (zb bs)=sJ:=by
 unfold yk at hp1 hp2
 by_cases h:zK k l ns (yH bs e i j).2.1 (yH bs e i j).1=sK
 ·rw[if_pos h] at hp1 hp2
  have a1:wAt (zb bs) e.1 i=e.1:=hp1
  have a2:wAt (zb bs) e.2.1 j=e.2.1:=hp2
  have b1:=h1.end_
  have b2:=h2.end_
  rw[a1] at b1
  rw[a2] at b2
  exact⟨b1,b2⟩
 ·rw[if_neg h] at hp1 hp2
  have a1:wAt (zb bs) e.2.1 j=e.1:=hp1
  rcases QV G hB.pairs hE.mb j with h' | h'
  ·rw[a1] at h'
   rw[h',zU] at hlt
   cases hlt
  ·rw[a1] at h'
   rw[Z4 h'] at hlt
   cases hlt
theorem jz{l:List Nat}(G:OG l ns k){bs es:List Ent}{r:Option (List Ent)}(h:xo k l ns bs es r):∀fs,r=sI fs->RL k l ns bs->RL k l ns es->∃gs,fs=bs ++ gs/\gs.length<=es.length/\RL k l ns fs /\
  (zb gs=zb es->∀i e,es[i]? = sI e->zC e.1 (zb (bs ++ gs.take i))=sJ/\zC e.2.1 (zb (bs ++ gs.take i))=sJ):=by
 induction h with
 | nil bs =>
  intro fs er hb he
  cases er
  exact⟨[],by simp,am _,hb,λ_ i e h=>by simp at h⟩
 | @same bs es e i j r h1 h2 h3 h4 ih =>
  intro fs er hb he
  obtain⟨gs,g1,g2,g3,g4⟩:=ih fs er hb ⟨λx hx=>he.e x (ao _ hx),λx hx=>he.lt x (ao _ hx)⟩
  refine⟨gs,g1,by rw[aN];lia,g3,λhp=>?_⟩
  have:=congrArg eV hp
  unfold zb at this
  rw[ae,ae,aN] at this
  lia
 | @new bs es e i j r h1 h2 h3 h4 h5 ih =>
  intro fs er hb he
  have hEe:=he.e e aB
  have hd:=Ki hb hEe h4
  obtain⟨gs,g1,g2,g3,g4⟩:=ih fs er (hb.snoc hd h3) ⟨λx hx=>he.e x (ao _ hx),λx hx=>he.lt x (ao _ hx)⟩
  refine⟨yk k l ns (yH bs e i j)::gs,by rw[g1,ar];rfl,by rw[aN,aN];lia,g3,λhp n x hx=>?_⟩
  unfold zb at hp
  rw[au,au] at hp
  injection hp with hp1 hp2
  have hp1a:=(Prod.ext_iff.mp hp1).1
  have hp1b:=(Prod.ext_iff.mp hp1).2
  cases n with
  | zero =>
   have e0:e=x:=by simpa using hx
   subst e0
   rw[br,aT]
   exact X1 G hb hEe (he.lt _ aB) h1 h2 hp1a hp1b
  | succ n =>
   have:=g4 hp2 n x (by simpa using hx)
   rw[ar] at this
   rw[dc]
   exact this
 | far=>intro fs e;cases e
 | stuck=>intro fs e;cases e
theorem ur{l:List Nat}(G:OG l ns k){p w:List Nat}(hw:∀c ∈ w,c ∈ l)(h:Within p w):p=w\/zK k l ns p w=sK:=by
 obtain⟨a,b,rfl⟩:=h
 by_cases e:a ++ p ++ b=p
 ·exact .inl e.symm
 ·refine .inr (Xq G (λc hc=>hw c ?_) (λc hc=>hw c ?_) (λc hc=>hw c ?_) e).1
  ·exact bj _ (bj _ hc)
  ·exact bj _ (aA _ hc)
  ·exact aA _ hc
structure ThinL(k:Nat)(l:List Nat)(ns:List Int)(zs:List Ent):Prop where
 rl:RL k l ns zs
 up:∀(i j:Nat) (a b:Ent),zs[i]? = sI a->zs[j]? = sI b->i<j->zK k l ns a.1 b.1=sK
 no1:∀(i j:Nat) (a b:Ent),zs[i]? = sI a->zs[j]? = sI b->i≠j->¬ Within b.1 a.1
 no2:∀(i j:Nat) (a b:Ent),zs[i]? = sI a->zs[j]? = sI b->¬ Within b.1 a.2.1
theorem Ke{k:Nat}{l:List Nat}{ns:List Int}(G:OG l ns k){zs bs:List Ent}(hz:RL k l ns zs)(hs:zs.Pairwise λa b=>XZ k l ns b a=sL)(h:xo k l ns [] zs (sI bs))(hp:zb bs=zb zs):ThinL k l ns zs:=by
 obtain⟨gs,g1,g2,g3,g4⟩:=jz G h bs rfl ⟨λe he=>(nomatch he),λe he=>(nomatch he)⟩ hz
 rw[bD] at g1
 subst g1
 have irr:=g4 hp
 simp only[bD] at irr
 have early:∀(i j:Nat) (a b:Ent),zs[i]? = sI a->zs[j]? = sI b->j<i->¬ Within b.1 a.1/\¬ Within b.1 a.2.1:=λi j a b ha hb hj=>by
  have hm:(b.1,b.2.1) ∈ zb (bs.take i):=by
   have e1:zb (bs.take i)=(zb zs).take i:=by
    rw[<- hp]
    unfold zb
    rw[List.map_take]
   rw[e1]
   refine tu.mpr ⟨j,?_⟩
   rw[bo hj]
   unfold zb
   rw[aG,hb]
   rfl
  have hN:NeL (zb (bs.take i)):=λp hp'=>by
   refine (g3.ne G) p ?_
   unfold zb at hp' ⊢
   obtain⟨x,hx,rfl⟩:=sS.mp hp'
   exact sS.mpr ⟨x,bn hx,rfl⟩
  obtain⟨f1,f2⟩:=irr i a ha
  exact⟨Wx hN f1 _ hm,Wx hN f2 _ hm⟩
 have later:∀(i j:Nat) (a b:Ent),zs[i]? = sI a->zs[j]? = sI b->i<j->zK k l ns b.1 a.1=sL:=λi j a b ha hb hij=>by
  have hi:=(sQ.mp ha)
  have hj:=(sQ.mp hb)
  have:=List.pairwise_iff_getElem.mp hs i j hi.1 hj.1 hij
  rw[hi.2,hj.2] at this
  unfold XZ at this
  by_cases e:b.1=a.1
  ·rw[e,zU]
  ·rw[if_neg e] at this
   exact this
 have memz:∀{i:Nat} {a:Ent},zs[i]? = sI a->EB l a/\zK k l ns a.2.1 a.1=sK:=λ{i a} ha=>⟨hz.e _ (ac ha),hz.lt _ (ac ha)⟩
 have up:∀(i j:Nat) (a b:Ent),zs[i]? = sI a->zs[j]? = sI b->i<j->zK k l ns a.1 b.1=sK:=λi j a b ha hb hij=>by
  have hne:a.1≠b.1:=λe=>(early j i b a hb ha hij).1 ⟨[],[],by rw[e];simp⟩
  have t:=ja (k:=k) (ns:=ns) (memz ha).1.ma (memz hb).1.ma hne
  rw[later i j a b ha hb hij] at t
  simpa using t
 refine⟨hz,up,λi j a b ha hb hij=>?_,λi j a b ha hb hw=>?_⟩
 ·rcases Nat.lt_or_gt_of_ne hij with h1 | h1
  ·intro hw
   rcases ur G (memz ha).1.ma hw with e | e
   ·have:=up i j a b ha hb h1
    rw[e,zU] at this
    cases this
   ·rw[later i j a b ha hb h1] at e
    cases e
  ·exact (early i j a b ha hb h1).1
 ·have hle:zK k l ns b.1 a.1=sK:=by
   rcases ur G (memz ha).1.mb hw with e | e
   ·rw[e]
    exact (memz ha).2
   ·exact yn e (memz ha).2
  rcases eh i j with h1 | h1 | h1
  ·rw[later i j a b ha hb h1] at hle
   cases hle
  ·subst h1
   rw[ha] at hb
   cases hb
   rw[zU] at hle
   cases hle
  ·exact (early i j a b ha hb h1).2 hw
theorem kq{w:List Nat}:∀{i:Nat},Xv ps w i->yD ps w (stS (sAt ps w i))=sI (wAt ps w i)
 | 0,_=>rfl
 | i+1,h=>by
  have ih:=kq (i:=i) λj hj=>h j (by lia)
  have hne:=h i (by lia)
  cases e:zC (wAt ps w i) ps with
  | none=>exact absurd e hne
  | some u =>
   rw[YA,wk e,e]
   unfold stS at ih ⊢
   rw[ay]
   refine Zd ih ?_
   obtain⟨p,h1,h2⟩:=yQ e
   have hl:=(sQ.mp h1).1
   show yY ps (wAt ps w i) ((u.1:Int),(u.2:Int),sK)=_
   rw[xV (by show (0:Int)<=(u.1:Int)/\(u.1:Int)<ps.length;lia)]
   have e2:ps.getD ((u.1:Int)).toNat ([],[])=p:=by rw[aH,af,h1];rfl
   show (if zx (wAt ps w i) (u.2:Int) (sdl (ps.getD ((u.1:Int)).toNat ([],[])) sK).1=sK then _ else sJ)=_
   rw[e2,if_pos (show zx (wAt ps w i) (u.2:Int) (sdl p sK).1=sK from h2)]
   unfold ZM
   rw[xn h1]
   rfl
theorem WB{l:List Nat}(h:EOk rs e):EOk rs (yk k l ns e):=by
 unfold yk
 split
 ·exact h
 ·exact vv h
theorem Kh{i j:Nat}(hb:∀e ∈ bs,EOk rs e)(he:EOk rs e)(h1:zS (zb bs) e.1 i)(h2:zS (zb bs) e.2.1 j):EOk rs (yH bs e i j):=by
 have w1:=kz hb (vv (kq h1.live))
 have w2:=kz hb (kq h2.live)
 have he':yD rs e.1 e.2.2=sI e.2.1:=he
 show yD rs (wAt (zb bs) e.1 i) (byL bs (yl (stS (sAt (zb bs) e.1 i))) ++ e.2.2 ++ byL bs (stS (sAt (zb bs) e.2.1 j)))=sI (wAt (zb bs) e.2.1 j)
 rw[vw,vw,w1,cu,he',cu]
 exact w2
theorem Xg{l:List Nat}{bs es:List Ent}{r:Option (List Ent)}(h:xo k l ns bs es r):∀fs,r=sI fs->(∀e ∈ bs,EOk rs e)->(∀e ∈ es,EOk rs e)->∀e ∈ fs,EOk rs e:=by
 induction h with
 | nil bs=>intro fs er hb _;cases er;exact hb
 | @same bs es e i j r h1 h2 h3 h4 ih=>intro fs er hb he;exact ih fs er hb λx hx=>he x (ao _ hx)
 | @new bs es e i j r h1 h2 h3 h4 h5 ih =>
  intro fs er hb he
  refine ih fs er (λx hx=>?_) λx hx=>he x (ao _ hx)
  rcases sV.mp hx with hx | hx
  ·exact hb x hx
  ·rw[sX.mp hx]
   exact WB (Kh hb (he e aB) h1 h2)
 | far=>intro fs e;cases e
 | stuck=>intro fs e;cases e
theorem Xi{l:List Nat}{es zs:List Ent}(h:Lined k l ns es zs)(he:∀e ∈ es,EOk rs e):∀e ∈ zs,EOk rs e:=λe hz=>by
 have hm:=h.perm.mem_iff.mp hz
 unfold qD at hm
 obtain⟨y,hy,rfl⟩:=sS.mp hm
 exact WB (he y (sY.mp hy).1)
theorem YB{l:List Nat}{es zs:List Ent}(h:Lined k l ns es zs)(he:∀e ∈ es,EB l e):RL k l ns zs:=by
 have key:∀e ∈ zs,∃y,EB l y/\y.1≠y.2.1/\e=yk k l ns y:=λe hz=>by
  have hm:=h.perm.mem_iff.mp hz
  unfold qD at hm
  obtain⟨y,hy,rfl⟩:=sS.mp hm
  obtain⟨h1,h2⟩:=sY.mp hy
  exact⟨y,he y h1,by simpa using h2,rfl⟩
 refine⟨λe hz=>?_,λe hz=>?_⟩
 ·obtain⟨y,h1,_,rfl⟩:=key e hz
  exact h1.rule
 ·obtain⟨y,h1,h2,rfl⟩:=key e hz
  exact ql h1 h2
theorem QK{l:List Nat}(G:OG l ns k){zs bs:List Ent}(hz:RL k l ns zs)(h:xo k l ns [] zs (sI bs)):RL k l ns bs:=by
 obtain⟨gs,g1,g2,g3,g4⟩:=jz G h bs rfl ⟨λe he=>(nomatch he),λe he=>(nomatch he)⟩ hz
 exact g3
theorem YD{k n:Nat}{l:List Nat}(G:OG l ns k){r:Option (List Ent)}(h:vS k l ns n es r):∀fs,r=sI fs->(∀e ∈ es,EB l e)->(∀e ∈ es,EOk rs e)->(∀e ∈ fs,EOk rs e)/\∃zs,ThinL k l ns zs/\zb fs=zb zs:=by
 induction h with
 | out=>intro fs e;cases e
 | bad=>intro fs e;cases e
 | @done n es zs bs h1 h2 h3 =>
  intro fs er he ho
  cases er
  have hz:=YB h1 he
  exact⟨Xg h2 bs rfl (λe h=>(nomatch h)) (Xi h1 ho),zs,Ke G hz h1.srt h2 h3,h3⟩
 | @more n es zs bs r h1 h2 h3 h4 ih =>
  intro fs er he ho
  have hz:=YB h1 he
  exact ih fs er (QK G hz h2).e (Xg h2 bs rfl (λe h=>(nomatch h)) (Xi h1 ho))
noncomputable def rankF:KeyFam (Int × List Int):=⟨λr=>[.int r.1,.lst (r.2.map L3.D.int)],λa b=>if a.1=b.1 then ltI a.2 b.2 else decide (a.1<b.1),sK,(0,[])⟩
theorem Qe{x y:List Int}(h:ltI x y=sK):ltI y x=sL:=by
 by_cases e:x=y
 ·subst e
  rw[xa] at h
  cases h
 ·have:=wF e
  rw[h] at this
  simpa using this.symm
theorem Kl{x y z:List Int}(h1:ltI y x=sL)(h2:ltI z y=sL):ltI z x=sL:=by
 cases h:ltI z x with
 | false=>rfl
 | true =>
  by_cases e:y=x
  ·subst e
   rw[h2] at h
   cases h
  ·have h3:=wF e
   rw[h1] at h3
   have h4:ltI x y=sK:=by simpa using h3.symm
   rw[qv h h4] at h2
   cases h2
theorem rankF_ok:rankF.Ok where
 w:=⟨λa b h=>by
   simp only[rankF] at h ⊢
   by_cases e:a.1=b.1
   ·rw[if_pos e] at h
    rw[if_pos e.symm]
    exact Qe h
   ·rw[if_neg e] at h
    rw[if_neg (λz=>e z.symm)]
    have:=of_decide_eq_true h
    exact decide_eq_false (by lia),
  λa b c h1 h2=>by
   simp only[rankF] at h1 h2 ⊢
   by_cases e:b.1=a.1
   ·rw[if_pos e] at h1
    rw[e] at h2
    by_cases f:c.1=a.1
    ·rw[if_pos f] at h2 ⊢
     exact Kl h1 h2
    ·rw[if_neg f] at h2 ⊢
     exact h2
   ·rw[if_neg e] at h1
    have h1':=of_decide_eq_false h1
    by_cases f:c.1=b.1
    ·rw[if_neg (by lia)]
     exact decide_eq_false (by lia)
    ·rw[if_neg f] at h2
     have h2':=of_decide_eq_false h2
     rw[if_neg (by lia)]
     exact decide_eq_false (by lia)⟩
 eq:=λa b=>by
  have:=Ya a.1 b.1 a.2 b.2
  simp only[ltD] at this
  exact this
 ok:=λa b=>by simp only[rankF,jj,okD];exact⟨trivial,vK _ _,trivial⟩
 dp:=λa=>by simp only[rankF,dpD,vM,kd];decide
 sh:=λa=>⟨_,_,rfl,.inl ⟨rfl,_,rfl⟩⟩
noncomputable def K5(k:Nat)(l:List Nat)(ns:List Int)(w:List Nat):Int × List Int:=(zl k l ns w,xD k l w)
theorem Xf{d:L3.D}{v:V}:∀{ds:List L3.D} {vs:List V},Iss K H ds vs->Is K H d v->Iss K H (ds ++ [d]) (vs ++ [v])
 | [],vs,h,hv=>by
  simp only[Iss] at h
  subst h
  simp only[bD,Iss]
  exact⟨v,[],rfl,hv,rfl⟩
 | e::ds,vs,h,hv=>by
  simp only[Iss] at h
  obtain⟨x,r,rfl,hx,hr⟩:=h
  simp only[bJ,Iss]
  exact⟨x,r ++ [v],rfl,hx,Xf hr hv⟩
theorem OrdAt.samT{T CO CR CW:oO}{H H':Hp}{ps:Array oP}{o:oO}{l:List Nat}(h:OrdAt CO CR CW H o k l ns)(s:SamT T H H')(hT:H T=sI (.tbl ps)):OrdAt CO CR CW H' o k l ns:=by
 obtain⟨dx,⟨h1,h2⟩ | ⟨h1,h2⟩ | ⟨h1,h2,w,h3,h4⟩⟩:=h
 ·exact⟨dx,.inl ⟨h1,s.at hT h2 λ_ z=>by cases z⟩⟩
 ·exact⟨dx,.inr (.inl ⟨h1,s.at hT h2 λ_ z=>by cases z⟩)⟩
 ·exact⟨dx,.inr (.inr ⟨h1,h2,w,s.at hT h3 (λ_ z=>by cases z),s.at hT h4 λ_ z=>by cases z⟩)⟩
theorem EnsA.samT{T:oO}{H H':Hp}{ps:Array oP}(s:SamT T H H')(hT:H T=sI (.tbl ps)):∀{es:List Ent} {vs:List V},EnsA K H es vs->EnsA K H' es vs
 | [],vs,h=>by simp only[EnsA] at h ⊢;exact h
 | e::es,vs,h=>by
  simp only[EnsA] at h ⊢
  obtain⟨v,r,e0,⟨p,s',e1,h1,h2⟩,h3⟩:=h
  exact⟨v,r,e0,⟨p,s',e1,s.seqT hT h1,h2.samT s hT⟩,EnsA.samT s hT h3⟩
theorem ZP{a b:Int × List Int}(h:a≠b):rankF.lt a b=!rankF.lt b a:=by
 simp only[rankF]
 by_cases e:a.1=b.1
 ·rw[if_pos e,if_pos e.symm]
  exact wF λq=>h (Prod.ext e q)
 ·rw[if_neg e,if_neg λq=>e q.symm]
  by_cases c:a.1<b.1
  ·rw[decide_eq_true c,decide_eq_false (by lia)]
   rfl
  ·rw[decide_eq_false c,decide_eq_true (by lia)]
   rfl
theorem WX(a b:Int × List Int):eqD (.tup (rankF.dec a)) (.tup (rankF.dec b))=decide (a=b):=by
 obtain⟨a1,a2⟩:=a
 obtain⟨b1,b2⟩:=b
 simp only[rankF,eqD,uZ,kH]
 by_cases h:a1=b1
 ·by_cases h2:a2=b2
  ·simp [h,h2]
  ·simp [h,h2]
 ·simp [h]
theorem Xc(a b:Int × List Int):ltD (.tup (rankF.dec a)) (.tup (rankF.dec b))=rankF.lt a b:=by
 simp only[ltD]
 exact rankF_ok.eq a b
theorem kY(a:Int × List Int):rankF.lt a a=sL:=by
 simp only[rankF]
 rw[if_pos trivial]
 exact xa _
noncomputable def pairF:KeyFam ((Int × List Int) × (Int × List Int)):=⟨λr=>[.tup (rankF.dec r.1),.tup (rankF.dec r.2)],λa b=>if a.1=b.1 then rankF.lt a.2 b.2 else rankF.lt a.1 b.1,sL,((0,[]),(0,[]))⟩
theorem qc(a b:(Int × List Int) × (Int × List Int)):pairF.lt a b=if a.1=b.1 then rankF.lt a.2 b.2 else rankF.lt a.1 b.1:=rfl
theorem U1:pairF.Ok where
 w:=⟨λa b h=>by
   rw[qc] at h ⊢
   by_cases e:a.1=b.1
   ·rw[if_pos e] at h
    rw[if_pos e.symm]
    exact rankF_ok.w.asym _ _ h
   ·rw[if_neg e] at h
    rw[if_neg λq=>e q.symm]
    exact rankF_ok.w.asym _ _ h,
  λa b c h1 h2=>by
   rw[qc] at h1 h2 ⊢
   by_cases e:b.1=a.1
   ·rw[if_pos e] at h1
    rw[e] at h2
    by_cases f:c.1=a.1
    ·rw[if_pos f] at h2 ⊢
     exact rankF_ok.w.ntr _ _ _ h1 h2
    ·rw[if_neg f] at h2 ⊢
     exact h2
   ·rw[if_neg e] at h1
    by_cases g:c.1=b.1
    ·rw[g,if_neg e]
     exact h1
    ·rw[if_neg g] at h2
     by_cases f:c.1=a.1
     ·rw[f] at h2
      have:=ZP (a:=b.1) (b:=a.1) e
      rw[h1,h2] at this
      cases this
     ·rw[if_neg f]
      exact rankF_ok.w.ntr _ _ _ h1 h2⟩
 eq:=λa b=>by
  show vO [.tup (rankF.dec a.1),.tup (rankF.dec a.2)] [.tup (rankF.dec b.1),.tup (rankF.dec b.2)]=_
  rw[qc,vO,WX,vO,WX,Xc,Xc,vO]
  by_cases e:a.1=b.1
  ·rw[if_pos (decide_eq_true e),if_pos e]
   by_cases f:a.2=b.2
   ·rw[if_pos (decide_eq_true f),f,kY]
   ·rw[if_neg (by simpa using f)]
  ·rw[if_neg (by simpa using e),if_neg e]
 ok:=λa b=>by
  show jj [.tup (rankF.dec a.1),.tup (rankF.dec a.2)] [.tup (rankF.dec b.1),.tup (rankF.dec b.2)]
  simp only[jj,okD]
  exact⟨rankF_ok.ok _ _,rankF_ok.ok _ _,trivial⟩
 dp:=λa=>by simp only[pairF,rankF,dpD,vM,kd];decide
 sh:=λa=>⟨_,_,rfl,.inr ⟨rfl,_,rfl⟩⟩
noncomputable def rkE(k:Nat)(l:List Nat)(ns:List Int)(e:Ent):(Int × List Int) × (Int × List Int):=(K5 k l ns e.1,K5 k l ns e.2.1)
theorem zax{l:List Nat}{u v:List Nat}(hu:∀c ∈ u,c ∈ l)(hv:∀c ∈ v,c ∈ l):K5 k l ns u=K5 k l ns v ↔ u=v :=
 ⟨λh=>YZ hu hv (Prod.ext_iff.mp h).2,λh=>by rw[h]⟩
theorem K3{l:List Nat}{a b:Ent}(ha:EB l a)(hb:EB l b):pairF.lt (rkE k l ns a) (rkE k l ns b)=XZ k l ns a b:=by
 rw[qc]
 unfold XZ
 have h:(rkE k l ns a).1=(rkE k l ns b).1 ↔ a.1=b.1:=zax ha.ma hb.ma
 by_cases e:a.1=b.1
 ·rw[if_pos (h.mpr e),if_pos e]
  rfl
 ·rw[if_neg λq=>e (h.mp q),if_neg e]
  rfl
theorem Zs{α β:Type}(g:α->β){us ys:List β}(h:us.Perm ys):∀ts:List α,us=ts.map g->∃ts':List α,ts'.Perm ts/\ys=ts'.map g:=by
 induction h with
 | nil =>
  intro ts e
  exact⟨ts,List.Perm.refl _,e⟩
 | @cons x us ys _ ih =>
  intro ts e
  match ts,e with
  | t::ts,e =>
   rw[au] at e
   injection e with e1 e2
   obtain⟨ts',p,rfl⟩:=ih ts e2
   exact⟨t::ts',p.cons t,by rw[e1];rfl⟩
 | swap x y us =>
  intro ts e
  match ts,e with
  | t::t2::ts,e =>
   rw[au,au] at e
   injection e with e1 e2
   injection e2 with e2 e3
   exact⟨t2::t::ts,List.Perm.swap t t2 ts,by rw[e1,e2,e3];rfl⟩
 | trans _ _ ih1 ih2 =>
  intro ts e
  obtain⟨ts',p1,e1⟩:=ih1 ts e
  obtain⟨ts'',p2,e2⟩:=ih2 ts' e1
  exact⟨ts'',p2.trans p1,e2⟩
theorem VU:∀{es:List Ent} {vs:List V},EnsA K H es vs->∀t ∈ es.zip vs,EnA K H t.1 t.2
 | [],_,_,t,ht=>by simp at ht
 | e::es,vs,h,t,ht=>by
  simp only[EnsA] at h
  obtain⟨v,r,rfl,h1,h2⟩:=h
  rw[dm] at ht
  rcases sU.mp ht with rfl | ht
  ·exact h1
  ·exact VU h2 t ht
theorem QP:∀{ts:List (Ent × V)},(∀t ∈ ts,EnA K H t.1 t.2)->EnsA K H (ts.map (·.1)) (ts.map (·.2))
 | [],_=>by simp only[aP,EnsA]
 | t::ts,h=>by
  simp only[au,EnsA]
  exact⟨_,_,rfl,h t aB,QP λu hu=>h u (ao _ hu)⟩
theorem Yv{l:List Nat}{vs:List V}{ys:List (((Int × List Int) × (Int × List Int)) × V)}(hI:EnsA K H es vs)(hE:∀e ∈ es,EB l e)(h1:ys.Perm ((es.map (rkE k l ns)).zip vs))(h2:ys.Pairwise λp q=>pairF.lt q.1 p.1=sL) :
  ∃zs:List Ent,zs.Perm es/\zs.Pairwise (λa b=>XZ k l ns b a=sL)/\EnsA K H zs (ys.map (·.2)):=by
 have hl:=hI.len
 have e0:(es.map (rkE k l ns)).zip vs=(es.zip vs).map λt=>(rkE k l ns t.1,t.2):=by
  rw[List.zip_map_left]
  rfl
 obtain⟨ts,p,rfl⟩:=Zs (λt:Ent × V=>(rkE k l ns t.1,t.2)) h1.symm (es.zip vs) e0
 have hm:∀t ∈ ts,t.1 ∈ es:=λt ht=>(dg (show (t.1,t.2) ∈ es.zip vs from p.mem_iff.mp ht)).1
 refine⟨ts.map (·.1),?_,?_,?_⟩
 ·have:=p.map (·.1)
  rw[List.map_fst_zip (by lia)] at this
  exact this
 ·rw[List.pairwise_map] at h2 ⊢
  refine h2.imp_of_mem λ{a b} ha hb h=>?_
  rw[<- K3 (hE _ (hm _ hb)) (hE _ (hm _ ha))]
  exact h
 ·have e1:(ts.map λt=>(rkE k l ns t.1,t.2)).map (·.2)=ts.map (·.2):=by
   rw[dN]
   rfl
  rw[e1]
  exact QP λt ht=>VU hI t (p.mem_iff.mp ht)
def tbE(K:oN)(CO CR CW:oO):TE:=Ur (zJ (zu (zaK CO CR CW) "rank" (λ_=>qF CO CR CW) [] E0 (yo 1) (zJ (tOp (vN K) (yo 0) (tC (.int 0))) xS)) (zJ (zu (zaK CO CR CW) "rank" (λ_=>qF CO CR CW) [] E0 (yo 1) (zJ (tOp (vN K) (yo 0) (tC (.int 1))) xS)) xS))
theorem zbv{CO CR CW o p s:oO}{l:List Nat}(hG:OG l ns k)(ho:OrdAt CO CR CW H o k l ns)(hE:EB l e)(hp:SqT K H p [.str (tx e.1),.str (tx e.2.1),.ref s])(q:∀(t:oO) (H':Hp),Same H H'->Is K H' (.tup (pairF.dec (rkE k l ns e))) (.ref t)->Q (.ref t) H'):tbE K CO CR CW [sI (.ref p),sI (.ref o)] H Q:=by
 have s16:=ya
 obtain⟨C,dx,fs,hf,ho1,hn,_⟩:=ho.fam
 have h1:fs.lookup ("rank" : oV)=sJ:=hn _ (by decide) (by decide)
 unfold tbE
 ac_rfl
 refine⟨C,hf,dx,fs,ho1,h1,_,hp,_,rfl,o,k,l,ns,e.1,rfl,ho,hG,by have:=hE.a;lia,hE.ma,λp1 q1 H1 s1 hp1 hq1=>⟨C,hf,dx,fs,s1 _ _ ho1,h1,_,zj s1 hp,_,rfl,o,k,l,ns,e.2.1,rfl,ho.same s1,hG,by have:=hE.b;lia,hE.mb,λp2 q2 H2 s2 hp2 hq2=>⟨by lia,λt ht=>?_⟩⟩⟩
 refine q t _ (s1.trans (s2.trans (zd (o:=.tup [.ref p1,.ref p2]) ht))) ?_
 show Is K _ (.tup [.tup (rankF.dec (K5 k l ns e.1)),.tup (rankF.dec (K5 k l ns e.2.1))]) (.ref t)
 refine Is.tup ht ?_
 simp only[Iss]
 exact⟨_,_,rfl,vR (s2 _ _ hp1) (s2 _ _ hq1),_,_,rfl,vR hp2 hq2,rfl⟩
theorem Jl{CO CR CW o:oO}{l:List Nat}{LA:Hp->Prop}{Qf:List V->Hp->Prop}(hG:OG l ns k)(hLA:∀H H',LA H->Same H H'->LA H'):∀(es:List Ent) (vs sP:List V) (rs:List ((Int × List Int) × (Int × List Int))) (H:Hp),LA H->OrdAt CO CR CW H o k l ns->(∀e ∈ es,EB l e)->EnsA K H es vs ->
  Iss K H (rs.map λa=>.tup (pairF.dec a)) sP->(∀acc' H',Same H H'->Iss K H' ((rs ++ es.map (rkE k l ns)).map λa=>.tup (pairF.dec a)) acc'->Qf acc' H')->um (λx H Q=>LA H/\tbE K CO CR CW [sI x,sI (.ref o)] H Q) vs sP H Qf
 | [],vs,sP,rs,H,hL,ho,hw,hV,hI,h=>by
  simp only[EnsA] at hV
  subst hV
  exact h sP H (Same.refl _) (by simpa using hI)
 | e::es,vs,sP,rs,H,hL,ho,hw,hV,hI,h=>by
  have s16:=ya
  simp only[EnsA] at hV
  obtain⟨v,r,rfl,⟨p,s,rfl,hp,_⟩,hV⟩:=hV
  refine⟨hL,zbv hG ho (hw e aB) hp λt H' s3 hIs=>?_⟩
  refine Jl hG hLA es r (sP ++ [.ref t]) (rs ++ [rkE k l ns e]) _ (hLA _ _ hL s3) (ho.same s3) (λx hx=>hw x (ao _ hx)) (hV.same s3) ?_ λacc' H' s' hI'=>h acc' H' (s3.trans s') (by simpa using hI')
  rw[ay]
  exact Xf (Iss.same s3 _ _ hI) hIs
noncomputable def zaz:oY->pW
 | .Lambda _ _ _ p=>p
 | _=>default
noncomputable def zdf:List pb->pW
 | _::.Return (sI (.Call _ _ (k::_) _)) _::_=>zaz k.value
 | _=>default
noncomputable def lp:pW:=zdf (z9 yA)
noncomputable def lq:oV:="in_order.<locals>.<lambda>"
def uI(K:oN)(CO CR CW T:oO):Sp:=λvs H Q _=>∃(o a:oO) (k:Nat) (l:List Nat) (ns:List Int) (es:List Ent),vs=[.ref o,.ref a]/\OrdAt CO CR CW H o k l ns/\OG l ns k/\EnsL K H a es/\es.length<64/\(∀e ∈ es,EB l e)/\TabOk H T lp lq /\
 ∀(D:oO) (zs:List Ent) (H':Hp),SamT T H H'->TabOk H' T lp lq->H D=sJ->Lined k l ns es zs->EnsM K H' D zs->Q (.ref D) H'
theorem Vj{CO CR CW T o a:oO}{l:List Nat}(h1:OrdAt CO CR CW H o k l ns)(h2:OG l ns k)(h3:EnsL K H a es)(h4:es.length<64)(h5:∀e ∈ es,EB l e)(h6:TabOk H T lp lq)
  (h:∀(D:oO) (zs:List Ent) (H':Hp),SamT T H H'->TabOk H' T lp lq->H D=sJ->Lined k l ns es zs->EnsM K H' D zs->Q (.ref D) H'):uI K CO CR CW T [.ref o,.ref a] H Q E:=⟨o,a,k,l,ns,es,rfl,h1,h2,h3,h4,h5,h6,h⟩
abbrev Kf(mg:oV->Option oP):Prop:=mg "sorted" = sJ
theorem mM:zp ["order","entries","unlike"] ["order","entries"] (zh yA):=by nofun
theorem Yu{f CO CR CW CC TB:oO}(B:Bt mg)(DRk:DR P w K mg base CO CR CW)(hsorted:Kf mg)(hCd:PySem.W.CodeHd base CC TB)(hBt:base.BuiltinsAt mg TB)(hgT:oJ≠TB)(F:Fun K "in_order" "in_order" yA f fd)(HC:fd.code=.ref CC)(mi:Df P w K mg base CX0 4 "as_rule" ["order","entry"] [] (xO K CO CR CW)):z8 P w K mg base CX0 6 f fd ["order","entries"] (uI K CO CR CW TB):=by
 refine Kn F HC mM (λvs H Q E h=>?_) (λA outer s H vs Q E hr h=>?_)
 ·obtain⟨o,a,k,l,ns,es,rfl,_⟩:=h
  rfl
 ·obtain⟨o,a,k,l,ns,es,rfl,ho,hG,hA,hz,hE,hTab,q⟩:=h
  refine⟨_,(zi (wf (i:=2) mM.nd rfl (.inl rfl) (.inl rfl) (own:=["entry"]) (caps:=["order"]) (ix:=[0]) (tt:=(tBl (tOp rNe (tOp (vN K) (yo 0) (tC (.int 0))) (tOp (vN K) (yo 0) (tC (.int 1)))))) (te:=(vY (xO K CO CR CW) [] E0 (zJ (yo 1) (zJ (yo 0) xS)))) rfl (zL (sc:=zh yA) rfl (by symm) (by symm) (by symm) rfl (by symm) (by symm) rfl) (yt (pv 1)) (λ_ _ _ _ _ _=>zy (i:=0) (show List.Nodup [_,_] by decide) rfl (.inl rfl)) (λ_ _ _ _ _ _=>(W9 (zG kM (zr ix_tup (pv 0) zf (λ_ _=>rfl)) (zr ix_tup (pv 0) zf (λ_ _=>rfl)) (zI _)))) (λ_ _ _ _ _ _=>(cl0 mi hr .nil rfl (za (pv 1) (za (pv 0) ze)))))
   (zg (zt (Ql (k:=2) (p:="entry") (y:="order") (iy:=0) (c:=s.heap.objs.size+1) (tb:=tbE K CO CR CW) U1 ⟨rfl,rfl,rfl,by decide,rfl,rfl,by decide,by decide⟩ (hr.mono (by decide)) rfl hsorted PyProof.Rows.boot_sorted (za (pv 2) ze) rfl hCd hBt hgT rfl rfl (by intro _ _ _ _;exact rfl) rfl rfl rfl (λs H f cv hr'=>zY (za (K8 DRk hr' (pv 1) (za (zr ix_tup (pv 0) zf (λ_ _=>rfl)) ze)) (za (K8 DRk hr' (pv 1) (za (zr ix_tup (pv 0) zf (λ_ _=>rfl)) ze)) ze))))))),?_⟩
  have s16:=ya
  obtain⟨xs,hX,hI⟩:=id hA
  have hxl:=hI.len
  have hEr:∀e ∈ qD k l ns es,EB l e:=λe he=>by
   unfold qD at he
   obtain⟨y,hy,rfl⟩:=sS.mp he
   exact (hE y (sY.mp hy).1).rule
  have hrl:=Yc k l ns es
  refine zk (λσ H'=>Same H H'/\∃(D0:oO) (sP:List V),H D0=sJ/\H' D0=sI (.lst sP)/\EnsA K (jh D0 H') (qD k l ns es) sP/\σ=[sI (.ref o),sI (.ref a),sI (.ref D0)]) ?_ ?_
  ·ac_rfl
   refine⟨⟨xs,hX⟩,λD hD=>CompL.by (xs:=xs) (λi sP H'=>Same H H'/\H' D=sI (.lst sP)/\EnsA K (jh D H') (qD k l ns (es.take i)) sP) ⟨zd hD,zc,by simp only[br,qD,di,aP,EnsA]⟩ (λi sP H' _ h=>h.1.seq hX) ?_ ?_⟩
   ·rintro i x sP H' hx ⟨hs,hH,hA⟩
    have hi:=(sQ.mp hx).1
    obtain⟨e,pe,se,hei,rfl,hqe,hse⟩:=hI.get hx
    have hEe:=hE e (ac hei)
    have hal:=hA.len
    have hal2:=Yc k l ns (es.take i)
    rw[az] at hal2
    have hq1:=zj hs hqe
    have hraw:qD k l ns (es.take (i+1))=qD k l ns (es.take i) ++ if e.1=e.2.1 then [] else [yk k l ns e]:=by
     rw[zQ hei,JF]
     congr 1
     unfold qD
     by_cases hne:e.1=e.2.1
     ·rw[if_pos hne,eP (by simp [hne])]
      rfl
     ·rw[if_neg hne,eO (by simp [hne])]
      rfl
    ac_rfl
    refine⟨yF,_,hq1,_,rfl,_,hq1,_,rfl,rfl,yT (λhne=>?_) λheq=>?_⟩
    ·have hne':¬ e.1=e.2.1:=λz=>hne (by rw[z])
     rw[if_neg hne'] at hraw
     have fin:∀(v:V) (H2:Hp),Same H' H2->EnA K (jh D H2) (yk k l ns e) v->H2 D=sI (.lst sP)/\sP.length<oM/\CNx xs.length i (λi sP H'=>Same H H'/\H' D=sI (.lst sP)/\EnsA K (jh D H') (qD k l ns (es.take i)) sP) (sP ++ [v]) (upd H2 D (.lst (sP ++ [v]))):=λv H2 s2 hv=>by
      refine⟨s2 _ _ hH,by lia,CNx.mk hi ⟨zE (hs.trans s2) hD,zc,?_⟩⟩
      rw[hraw]
      exact (hA.same ((wB s2).trans xz)).snoc (hv.same xz)
     refine jB (ho.same hs) hG hq1 (hse.same hs).is hEe (λer H2 s2=>fin _ _ s2 ?_) λp' s' H2 s2 hsn hp' hL=>fin _ _ s2 ?_
     ·rw[er]
      exact EnA.same ⟨pe,se,rfl,hqe,hse⟩ (VN hD (hs.trans s2))
     ·exact EnA.new (s2 _ _ hH) hp' hL (λz=>by rw[z,hH] at hsn;cases hsn)
    ·have heq':e.1=e.2.1:=by
      have:=Classical.not_not.mp heq
      injection this with this
      exact jp this
     rw[if_pos heq',aT] at hraw
     exact CNx.mk hi ⟨hs,hH,by rw[hraw];exact hA⟩
   ·rintro sP H' ⟨hs,hH,hA⟩
    rw[hxl,aK] at hA
    exact⟨hs,D,hD,sP,hH,hA,rfl⟩
  rintro σ H1 ⟨s1,D0,sP,hD0,hH1,hI1,rfl⟩
  have hal:=hI1.len
  have hT1:=hTab.same s1
  obtain⟨ps1,hps1,_⟩:=id hT1
  ac_rfl
  unfold Jm
  refine⟨_,rfl,hT1,λf H2 hf hLA hT2 sT=>?_⟩
  obtain⟨ps2,hps2,_⟩:=id hT2
  have hI2:=EnsA.samT sT hps1 (hI1.same wN)
  refine⟨D0,sP,.ref o,rfl,SqL.of (sT.at hps1 hH1 λ_ z=>by cases z),by lia,rfl,?_⟩
  refine Jl hG (λA A' h1 h2=>LamAt.same h1 h2) (qD k l ns es) sP [] [] H2 hLA ((ho.same s1).samT sT hps1) hEr hI2 (by simp only[aP,Iss]) λacc' H3 s3 hI3=>⟨(qD k l ns es).map (rkE k l ns),by simpa using hI3,λys p1 p2 D hD=>?_⟩
  obtain⟨zs,z1,z2,z3⟩:=Yv (hI2.same s3) hEr p1 p2
  have sD:=zd (o:=.lst (ys.map (·.2))) hD
  refine q D zs _ ((SamT.of s1).trans (sT.trans (SamT.of (s3.trans sD)))) (hT2.same (s3.trans sD)) ?_ ⟨z1,z2⟩ ⟨_,zc,z3.same sD⟩
  exact ((SamT.of s1).trans (sT.trans (SamT.of s3))).free (s3 _ _ hps2) hD
structure TMo(mg:oV->Option oP):Prop where
 u:∃t,mg "MOST_USES_thinning" = sI (.int 40 t)
 s:∃t,mg "MOST_STEPS" = sI (.int 240 t)
 d:∃t,mg "MOST_SIDE_thinning" = sI (.int 60 t)
 p:∃t,mg "MOST_PASSES" = sI (.int 20 t)
structure BG(k:Nat)(l:List Nat)(ns:List Int)(bs:List Ent):Prop where
 n:bs.length<64
 e:∀e ∈ bs,EB l e
 lt:∀e ∈ bs,zK k l ns e.2.1 e.1=sK
theorem BG.ne{l:List Nat}(h:BG k l ns bs)(G:OG l ns k):NeL (zb bs):=λp hp=>by
 unfold zb at hp
 obtain⟨e,he,rfl⟩:=sS.mp hp
 exact W1 G.nb (h.lt e he)
theorem BG.le{l:List Nat}(h:BG k l ns bs):∀p ∈ zb bs,p.1.length<=60/\p.2.length<=60:=λp hp=>by
 unfold zb at hp
 obtain⟨e,he,rfl⟩:=sS.mp hp
 exact⟨(h.e e he).a,(h.e e he).b⟩
theorem BG.mem{l:List Nat}(h:BG k l ns bs):∀p ∈ zb bs,∀c ∈ p.2,c ∈ l:=λp hp=>by
 unfold zb at hp
 obtain⟨e,he,rfl⟩:=sS.mp hp
 exact (h.e e he).mb
theorem jv{CF a:oO}{w:List Nat}(hA:LsA K H a (ps.map dR))(hN:NeL ps)(hpl:ps.length<=100)(hP:∀p ∈ ps,p.1.length<=60/\p.2.length<=60)(hw:w.length<=60)
  (h1:∀(i:Nat) (p S:oO) (H':Hp),zS ps w i->Same H H'->H' p=sI (.tup [.ref S,.str (tx (wAt ps w i))])->LsA K H' S ((sAt ps w i).map dG)->H S=sJ->Q (.ref p) H') (h2:(∀i,¬ zS ps w i)->∀H',Same H H'->E (.ref CF) sJ H'):wx K CF [.ref a,.str (tx w),.int 40] H Q E:=by
 have hP':∀p ∈ ps,p.1.length<=1000/\p.2.length<=1000:=λp hp=>by
  have:=hP p hp
  lia
 have len:∀j,j<=40->(wAt ps w j).length<=10000:=λj hj=>by
  have:=qT (l:=w) (m:=60) hN (λp hp=>(hP p hp).2) j
  lia
 rcases JN ps w with ⟨i,hi⟩ | ⟨hL,hf⟩
 ·have hm:=hi.most
  exact⟨a,w,ps,40,i,rfl,hA,hN,hpl,hP',⟨hi.live,λj hj=>len j (by lia),by lia⟩,.inl ⟨hi.end_,by lia,λp S H' s' hp hL hS=>h1 i p S H' hi s' hp hL hS⟩⟩
 ·refine⟨a,w,ps,40,40,rfl,hA,hN,hpl,hP',⟨hL,λj hj=>len j hj,by decide⟩,.inr ⟨hf,rfl,h2 λi hi=>?_⟩⟩
  have hm:=hi.most
  by_cases e:i=40
  ·subst e
   exact hf hi.end_
  ·exact hL i (by lia) hi.end_
theorem KJ(us:List (Nat × Nat)):us.map dG=(stS us).map dSt:=by
 unfold stS
 rw[dN]
 rfl
theorem WE(us:List (Nat × Nat)):(stS us).length=us.length:=by unfold stS;rw[ae]
theorem zbo{w:List Nat}{i:Nat}(h:Xv ps w i):∀u ∈ sAt ps w i,u.1<ps.length:=λu hu=>by
 unfold sAt at hu
 obtain⟨j,hj,rfl⟩:=sS.mp hu
 cases e:zC (wAt ps w j) ps with
 | none=>exact absurd e (h j (sZ.mp hj))
 | some v =>
  obtain⟨p,h1,_⟩:=yQ e
  exact (sQ.mp h1).1
theorem QW{w:List Nat}{i:Nat}(h:Xv ps w i):∀u ∈ stS (sAt ps w i),0<=u.1/\u.1<ps.length:=λu hu=>by
 unfold stS at hu
 obtain⟨v,hv,rfl⟩:=sS.mp hu
 have:=zbo h v hv
 show 0<=(v.1:Int)/\(v.1:Int)<ps.length
 lia
theorem KD{n:Int}(h:∀u ∈ ss,0<=u.1/\u.1<n):∀u ∈ yl ss,0<=u.1/\u.1<n:=λu hu=>by
 unfold yl at hu
 obtain⟨v,hv,rfl⟩:=sS.mp hu
 exact h v (tm.mp hv)
theorem zbm(h:∀e ∈ es,e.2.2.length<=600)(u:Stp):(X2 es u).length<=600:=by
 have hg:(es.getD u.1.toNat ([],[],[])).2.2.length<=600:=by
  rw[af]
  cases e:es[u.1.toNat]? with
  | none=>exact aI _
  | some r=>exact h r (ac e)
 unfold X2
 rw[YR]
 split
 ·exact hg
 ·rw[xu]
  exact hg
theorem KN(h:∀e ∈ es,e.2.2.length<=600):∀us:List Stp,(byL es us).length<=us.length * 600
 | []=>by simp [byL]
 | u::us=>by
  have e:byL es (u::us)=X2 es u ++ byL es us:=by simp [byL]
  have h1:=zbm h u
  have h2:=KN h us
  rw[e,ak,aN,eD]
  lia
def kB(K:oN)(CF:oO):Sp:=λvs H Q E=>∃(a p s:oO) (k:Nat) (l:List Nat) (ns:List Int) (bs:List Ent) (e:Ent),vs=[.ref a,.ref p]/\OG l ns k/\Is K H (.lst (bs.map dE)) (.ref a)/\BG k l ns bs/\SqT K H p [.str (tx e.1),.str (tx e.2.1),.ref s]/\LsA K H s (e.2.2.map dSt)/\EB l e /\
 (∀i j H',zS (zb bs) e.1 i->zS (zb bs) e.2.1 j->wAt (zb bs) e.1 i=wAt (zb bs) e.2.1 j->Same H H'->Q .non H') /\
 (∀i j p' s' H',zS (zb bs) e.1 i->zS (zb bs) e.2.1 j->wAt (zb bs) e.1 i≠wAt (zb bs) e.2.1 j->Same H H'->H s'=sJ->H' p'=sI (.tup [.str (tx (yH bs e i j).1),.str (tx (yH bs e i j).2.1),.ref s'])->LsA K H' s' ((yH bs e i j).2.2.map dSt)->Q (.ref p') H') /\
 ((∀i,¬ zS (zb bs) e.1 i)\/(∀j,¬ zS (zb bs) e.2.1 j)->∀H',Same H H'->E (.ref CF) sJ H')
theorem Vb{a t:oO}{us:List Stp}(h1:Is K H (.lst (es.map dE)) (.ref a))(h2:Is K H (.lst (us.map dSt)) (.ref t))(h3:us.length<=100)(h4:∀e ∈ es,e.2.2.length<=600)(h5:∀u ∈ us,0<=u.1/\u.1<es.length)(h:∀(D:oO) (H':Hp),H D=sJ->Same H H'->LsA K H' D ((byL es us).map dSt)->Q (.ref D) H'):Uh K [.ref a,.ref t] H Q E:=⟨a,t,es,us,rfl,h1,h2,h3,h4,h5,h⟩
theorem gk:zp ["entries","entry","rules","one","other","steps"] ["entries","entry"] (zh xE):=by nofun
theorem qo{f CF:oO}{lc:rF}(B:Bt mg)(TM:TMo mg)(F:Fun K "brought_down" "brought_down" xE f fd)(gm:Df P w K mg base CX0 1 "pairs_of" ["entries"] [] (xX K))(mZ:Df P w K mg base (CXx P w) 4 "gone" ["rules","word","most"] [] (wx K CF))(DD_gone:Df P w K mg base (CXx P w) 4 "gone" ["rules","word","most"] [.int 4000 lc] (wx K CF))(la:Df P w K mg base CX0 2 "by_pacts" ["entries","steps"] [] (Uh K))(mh:Df P w K mg base CX0 1 "back" ["steps"] [] (vV K)):z8 P w K mg base (CXx P w) 5 f fd ["entries","entry"] (kB K CF):=by
 obtain⟨t9,g9⟩:=TM.u
 refine Fun.okX F gk (λvs H Q E h=>?_) (λcdv A outer s H vs Q E hr hx h=>?_)
 ·obtain⟨a,p,s,k,l,ns,bs,e,rfl,_⟩:=h
  rfl
 ·obtain⟨a,p,s,k,l,ns,bs,e,rfl,hG,hA,hB,hp,hs,hE,q1,q2,q3⟩:=h
  refine⟨_,(zi (zq (i:=2) gk.nd rfl (.inl rfl) (cl0 gm hr .nil rfl (za (pv 0) ze)))
   (zi (zq (i:=3) gk.nd rfl (.inl rfl) (clP hx mZ hr .nil rfl (za (pv 2) (za (zr ix_tup (pv 1) zf (λ_ _=>rfl)) (za (yK (v:=.int 40) rfl g9 ⟨t9,rfl⟩) ze)))))
   (zi (zq (i:=4) gk.nd rfl (.inl rfl) (clP hx mZ hr .nil rfl (za (pv 2) (za (zr ix_tup (pv 1) zf (λ_ _=>rfl)) (za (yK (v:=.int 40) rfl g9 ⟨t9,rfl⟩) ze)))))
   (zi (zR (zG uG (zr ix_tup (pv 3) zf (λ_ _=>rfl)) (zr ix_tup (pv 4) zf (λ_ _=>rfl)) (zI _))
    (zg (zt wn))
    zA)
   (zi (zq (i:=5) gk.nd rfl (.inl rfl) (zB Zv (zB Zv (cl0 la hr .nil rfl (za (pv 0) (za (cl0 mh hr .nil rfl (za (zr ix_tup (pv 3) zf (λ_ _=>rfl)) ze)) ze))) (zr ix_tup (pv 1) zf (λ_ _=>rfl))) (cl0 la hr .nil rfl (za (pv 0) (za (zr ix_tup (pv 4) zf (λ_ _=>rfl)) ze)))))
   (zg (zt (zY (za (zr ix_tup (pv 3) zf (λ_ _=>rfl)) (za (zr ix_tup (pv 4) zf (λ_ _=>rfl)) (za (pv 5) ze))))))))))),?_⟩
  have s16:=ya
  have hbl:=hB.n
  have hN:=hB.ne hG
  have hpl:=xl bs
  have hst:∀e ∈ bs,e.2.2.length<=600:=λe he=>(hB.e e he).s
  have hst3:∀e ∈ bs,e.2.2.length<=600:=λe he=>by have:=hst e he;lia
  refine zk (λσ H'=>Same H H'/\∃R:oO,LsA K H' R ((zb bs).map dR)/\σ=[sI (.ref a),sI (.ref p),sI (.ref R),sJ,sJ,sJ]) ?_ ?_
  ·ac_rfl
   exact wK hA (by lia) λD H' _ s' hL=>⟨s',D,hL,rfl⟩
  rintro σ H1 ⟨s1,R,hR,rfl⟩
  refine zk (λσ H'=>Same H1 H'/\∃(i:Nat),zS (zb bs) e.1 i/\∃p1:oO,(∃S1:oO,H' p1=sI (.tup [.ref S1,.str (tx (wAt (zb bs) e.1 i))])/\LsA K H' S1 ((sAt (zb bs) e.1 i).map dG))/\σ=[sI (.ref a),sI (.ref p),sI (.ref R),sI (.ref p1),sJ,sJ]) ?_ ?_
  ·ac_rfl
   refine⟨_,zj s1 hp,_,rfl,jv hR hN (by lia) hB.le hE.a (λi p1 S1 H' hi s' hp1 hL _=>⟨s',i,hi,p1,⟨S1,hp1,hL⟩,rfl⟩) λhno H' s'=>q3 (.inl hno) H' (s1.trans s')⟩
  rintro σ H2 ⟨s2,i,hi,p1,⟨S1,hp1,hS1⟩,rfl⟩
  have s12:=s1.trans s2
  refine zk (λσ H'=>Same H2 H'/\∃(j:Nat),zS (zb bs) e.2.1 j/\∃p2:oO,(∃S2:oO,H' p2=sI (.tup [.ref S2,.str (tx (wAt (zb bs) e.2.1 j))])/\LsA K H' S2 ((sAt (zb bs) e.2.1 j).map dG))/\σ=[sI (.ref a),sI (.ref p),sI (.ref R),sI (.ref p1),sI (.ref p2),sJ]) ?_ ?_
  ·ac_rfl
   refine⟨_,zj s12 hp,_,rfl,jv (hR.same s2) hN (by lia) hB.le hE.b (λj p2 S2 H' hj s' hp2 hL _=>⟨s',j,hj,p2,⟨S2,hp2,hL⟩,rfl⟩) λhno H' s'=>q3 (.inr hno) H' (s12.trans s')⟩
  rintro σ H3 ⟨s3,j,hj,p2,⟨S2,hp2,hS2⟩,rfl⟩
  have s13:=s12.trans s3
  have hp1':=s3 _ _ hp1
  have hS1':=hS1.same s3
  refine zk (λσ H'=>H'=H3/\wAt (zb bs) e.1 i≠wAt (zb bs) e.2.1 j/\σ=[sI (.ref a),sI (.ref p),sI (.ref R),sI (.ref p1),sI (.ref p2),sJ]) ?_ ?_
  ·ac_rfl
   refine⟨_,SqT.of hp1',_,rfl,_,SqT.of hp2,_,rfl,rfl,yT (λh=>?_) λh=>?_⟩
   ·exact q1 i j H3 hi hj (jp (by injection h)) s13
   ·exact λz=>h (by rw[z])
  rintro σ H4 ⟨rfl,hne,rfl⟩
  have him:=hi.most
  have hjm:=hj.most
  have hl1:(stS (sAt (zb bs) e.1 i)).length=i:=by rw[WE,ZS]
  have hl2:(stS (sAt (zb bs) e.2.1 j)).length=j:=by rw[WE,ZS]
  rw[KJ] at hS1' hS2
  have hA4:=Is.same s13 _ _ hA
  have hb1:=KN hst (yl (stS (sAt (zb bs) e.1 i)))
  have hb2:=KN hst (stS (sAt (zb bs) e.2.1 j))
  rw[xu,hl1] at hb1
  rw[hl2] at hb2
  have hes:=hE.s
  refine zk (λσ H'=>Same H4 H'/\∃S:oO,H4 S=sJ/\LsA K H' S ((yH bs e i j).2.2.map dSt)/\σ=[sI (.ref a),sI (.ref p),sI (.ref R),sI (.ref p1),sI (.ref p2),sI (.ref S)]) ?_ ?_
  ·ac_rfl
   refine⟨_,SqT.of hp1',_,rfl,jU hS1'.is (by lia) λB1 G1 _ t1 hB1=>Vb (Is.same t1 _ _ hA4) hB1.is (by rw[xu];lia) hst3 (by rw[<- hpl];exact KD (QW hi.live)) λC1 G2 hC1n t2 hC1=>?_⟩
   have t12:=t1.trans t2
   obtain⟨c1,hc1,ic1⟩:=id hC1
   obtain⟨es0,hs0,is0⟩:=hs.same (s13.trans t12)
   have lc1:=ic1.len
   have ls0:=is0.len
   rw[ae] at lc1 ls0
   refine⟨_,zj (s13.trans t12) hp,_,rfl,C1,rfl,s,rfl,c1,hc1,es0,hs0,by lia,λM hM=>?_⟩
   have t3:=zd (o:=.lst (c1 ++ es0)) hM
   have t13:=t12.trans t3
   refine⟨_,SqT.of (t13 _ _ hp2),_,rfl,Vb (Is.same t13 _ _ hA4) (hS2.same t13).is (by lia) hst3 (by rw[<- hpl];exact QW hj.live) λC2 G3 hC2n t4 hC2=>?_⟩
   obtain⟨c2,hc2,ic2⟩:=id hC2
   have lc2:=ic2.len
   rw[ae] at lc2
   refine⟨C2,rfl,c1 ++ es0,t4 _ _ zc,c2,hc2,by rw[ak];lia,λS hS=>?_⟩
   have t5:=zd (o:=.lst (c1 ++ es0 ++ c2)) hS
   refine⟨t13.trans (t4.trans t5),S,(t13.trans t4).free hS,⟨_,zc,?_⟩,rfl⟩
   show Iss K _ ((byL bs (yl (stS (sAt (zb bs) e.1 i))) ++ e.2.2 ++ byL bs (stS (sAt (zb bs) e.2.1 j))).map dSt) _
   rw[ay,ay]
   exact Iss.append (Iss.append (Iss.same (t3.trans (t4.trans t5)) _ _ ic1) (Iss.same (t3.trans (t4.trans t5)) _ _ is0)) (Iss.same t5 _ _ ic2)
  rintro σ H5 ⟨s5,S,hSn,hS,rfl⟩
  ac_rfl
  refine⟨_,SqT.of (s5 _ _ hp1'),_,rfl,_,SqT.of (s5 _ _ hp2),_,rfl,by lia,λt ht=>?_⟩
  have st:=zd (o:=.tup [.str (tx (wAt (zb bs) e.1 i)),.str (tx (wAt (zb bs) e.2.1 j)),.ref S]) ht
  exact q2 i j t S _ hi hj hne (s13.trans (s5.trans st)) (s13.free hSn) zc (hS.same st)
def vJ(K:oN)(CF:oO):Sp:=λvs H Q E=>∃(p s:oO) (e:Ent),vs=[.ref p]/\SqT K H p [.str (tx e.1),.str (tx e.2.1),.ref s]/\Is K H (.lst (e.2.2.map dSt)) (.ref s)/\e.1.length<=10000/\e.2.1.length<=10000/\(¬ je e->Q .non H)/\(je e->E (.ref CF) sJ H)
theorem XD{CF p s:oO}(h1:SqT K H p [.str (tx e.1),.str (tx e.2.1),.ref s])(h2:Is K H (.lst (e.2.2.map dSt)) (.ref s))(h3:e.1.length<=10000)(h4:e.2.1.length<=10000)(h5:¬ je e->Q .non H)(h6:je e->E (.ref CF) sJ H):vJ K CF [.ref p] H Q E:=⟨p,s,e,rfl,h1,h2,h3,h4,h5,h6⟩
theorem uF:zp ["entry"] ["entry"] (zh xj):=by nofun
theorem uE{f CF:oO}(B:Bt mg)(T:zad K mg CF)(TM:TMo mg)(F:Fun K "refuse_beyond" "refuse_beyond" xj f fd) : z8 P w K mg base (CXx P w) 1 f fd ["entry"] (vJ K CF):=by
 obtain⟨⟨t9,g9⟩,⟨t8,g8⟩⟩:=And.intro TM.s TM.d
 refine Fun.okX F uF (λvs H Q E h=>?_) (λcdv A outer s H vs Q E hr hx h=>?_)
 ·obtain⟨p,s,e,rfl,_⟩:=h
  rfl
 ·obtain⟨p,s,e,rfl,hp,hs,ha,hb,q1,q2⟩:=h
  refine⟨_,(zi (zR (zG op_gt (zm zZ rfl B.len ax (za (zr ix_tup (pv 0) zf (λ_ _=>rfl)) ze)) (yK (v:=.int 240) rfl g9 ⟨t9,rfl⟩) (zI _))
    (zg (yG hx rfl T.xi.toXC T.ini rfl T.g (za xf ze)))
    zA)
   (zg (zR (zG op_gt (zm (V1 rfl) rfl B.max uY (za (zm zZ rfl B.len ax (za (zr ix_tup (pv 0) zf (λ_ _=>rfl)) ze)) (za (zm zZ rfl B.len ax (za (zr ix_tup (pv 0) zf (λ_ _=>rfl)) ze)) ze))) (yK (v:=.int 60) rfl g8 ⟨t8,rfl⟩) (zI _))
    (zg (yG hx rfl T.xi.toXC T.ini rfl T.g (za xf ze)))
    zA))),?_⟩
  have s16:=ya
  simp only[Is] at hs
  obtain⟨_,zs,e0,hZ,hI⟩:=hs
  cases e0
  have hzl:=hI.len
  rw[ae] at hzl
  refine zk (λσ H'=>H'=H/\e.2.2.length<=240/\σ=[sI (.ref p)]) ?_ ?_
  ·ac_rfl
   refine⟨_,hp,_,rfl,_,.inl ⟨_,hZ,rfl⟩,yT (λh=>⟨by lia,q2 (.inl (by lia))⟩) λh=>by lia⟩
  rintro σ H1 ⟨rfl,h1,rfl⟩
  ac_rfl
  refine⟨_,hp,_,rfl,_,⟨by rw[zD];lia,rfl⟩,_,hp,_,rfl,_,⟨by rw[zD];lia,rfl⟩,?_⟩
  rw[zD,zD]
  refine yT (λh=>⟨by lia,q2 ?_⟩) λh=>q1 ?_
  ·unfold je
   split at h <;> lia
  ·unfold je
   split at h <;> lia
theorem UH{l:List Nat}{i j:Nat}(hB:BG k l ns bs)(hE:EB l e)(hF:¬ je (yH bs e i j)):EB l (yH bs e i j):=by
 unfold je at hF
 exact⟨by lia,by lia,by lia,uf hE.ma hB.mem i,uf hE.mb hB.mem j⟩
theorem BG.snoc{l:List Nat}{d:Ent}(h:BG k l ns bs)(hn:bs.length+1<64)(hd:EB l d)(hne:d.1≠d.2.1):BG k l ns (bs ++ [yk k l ns d]):=by
 refine⟨by rw[ak];exact hn,λe he=>?_,λe he=>?_⟩
 ·rcases sV.mp he with he | he
  ·exact h.e e he
  ·rw[sX.mp he]
   exact hd.rule
 ·rcases sV.mp he with he | he
  ·exact h.lt e he
  ·rw[sX.mp he]
   exact ql hd hne
theorem Qq{CF a p s:oO}{l:List Nat}(h1:OG l ns k)(h2:Is K H (.lst (bs.map dE)) (.ref a))(h3:BG k l ns bs)(h4:SqT K H p [.str (tx e.1),.str (tx e.2.1),.ref s])(h5:LsA K H s (e.2.2.map dSt))(h6:EB l e)
  (q1:∀i j H',zS (zb bs) e.1 i->zS (zb bs) e.2.1 j->wAt (zb bs) e.1 i=wAt (zb bs) e.2.1 j->Same H H'->Q .non H')
  (q2:∀i j p' s' H',zS (zb bs) e.1 i->zS (zb bs) e.2.1 j->wAt (zb bs) e.1 i≠wAt (zb bs) e.2.1 j->Same H H'->H s'=sJ->H' p'=sI (.tup [.str (tx (yH bs e i j).1),.str (tx (yH bs e i j).2.1),.ref s'])->LsA K H' s' ((yH bs e i j).2.2.map dSt)->Q (.ref p') H')
  (q3:(∀i,¬ zS (zb bs) e.1 i)\/(∀j,¬ zS (zb bs) e.2.1 j)->∀H',Same H H'->E (.ref CF) sJ H'):kB K CF [.ref a,.ref p] H Q E:=⟨a,p,s,k,l,ns,bs,e,rfl,h1,h2,h3,h4,h5,h6,q1,q2,q3⟩
theorem Qb{l:List Nat}{i j:Nat}(hB:BG k l ns bs)(hG:OG l ns k)(hE:EB l e)(hi:i<=40)(hj:j<=40):(yH bs e i j).1.length<=10000/\(yH bs e i j).2.1.length<=10000:=by
 have h1:=qT (l:=e.1) (m:=60) (hB.ne hG) (λp hp=>(hB.le p hp).2) i
 have h2:=qT (l:=e.2.1) (m:=60) (hB.ne hG) (λp hp=>(hB.le p hp).2) j
 have h3:=hE.a
 have h4:=hE.b
 show (wAt (zb bs) e.1 i).length<=10000/\(wAt (zb bs) e.2.1 j).length<=10000
 lia
def uT(K:oN)(CO CR CW CF:oO):Sp:=λvs H Q E=>∃(o a:oO) (k:Nat) (l:List Nat) (ns:List Int) (zs:List Ent),vs=[.ref o,.ref a]/\OrdAt CO CR CW H o k l ns/\OG l ns k/\EnsL K H a zs/\zs.length<64/\(∀e ∈ zs,EB l e) /\
 (∀(bs:List Ent) (D:oO) (H':Hp),xo k l ns [] zs (sI bs)->BG k l ns bs->Same H H'->H D=sJ->EnsM K H' D bs->Q (.ref D) H')/\(xo k l ns [] zs sJ->∀H',Same H H'->E (.ref CF) sJ H')
theorem WG{CO CR CW CF o a:oO}{l:List Nat}{zs:List Ent}(h1:OrdAt CO CR CW H o k l ns)(h2:OG l ns k)(h3:EnsL K H a zs)(h4:zs.length<64)(h5:∀e ∈ zs,EB l e)
  (q1:∀(bs:List Ent) (D:oO) (H':Hp),xo k l ns [] zs (sI bs)->BG k l ns bs->Same H H'->H D=sJ->EnsM K H' D bs->Q (.ref D) H') (q2:xo k l ns [] zs sJ->∀H',Same H H'->E (.ref CF) sJ H'):uT K CO CR CW CF [.ref o,.ref a] H Q E:=⟨o,a,k,l,ns,zs,rfl,h1,h2,h3,h4,h5,q1,q2⟩
def zcr(K:oN)(H1 H':Hp)(bs:List Ent)(e:Ent)(v:V):Prop:=∃i j,zS (zb bs) e.1 i/\zS (zb bs) e.2.1 j/\((wAt (zb bs) e.1 i=wAt (zb bs) e.2.1 j/\v=.non) \/
 (wAt (zb bs) e.1 i≠wAt (zb bs) e.2.1 j/\∃p s:oO,v=.ref p/\H1 s=sJ/\H' p=sI (.tup [.str (tx (yH bs e i j).1),.str (tx (yH bs e i j).2.1),.ref s])/\LsA K H' s ((yH bs e i j).2.2.map dSt)))
def zcC(K:oN)(H:Hp)(D:oO)(k:Nat)(l:List Nat)(ns:List Int)(zs:List Ent)(i:Nat)(H':Hp):Prop:=∃(bs:List Ent) (sP:List V),Same H H'/\H' D=sI (.lst sP)/\EnsA K (jh D H') bs sP/\BG k l ns bs/\bs.length<=i/\∀r,xo k l ns bs (zs.drop i) r->xo k l ns [] zs r
theorem io:zp ["order","entries","built","entry","lower"] ["order","entries"] (zh wC):=by nofun
theorem jG{f CO CR CW CF:oO}(B:Bt mg)(F:Fun K "built_anew" "built_anew" wC f fd)(nq:Df P w K mg base (CXx P w) 5 "brought_down" ["entries","entry"] [] (kB K CF))(nc:Df P w K mg base (CXx P w) 1 "refuse_beyond" ["entry"] [] (vJ K CF))(mi:Df P w K mg base CX0 4 "as_rule" ["order","entry"] [] (xO K CO CR CW)):z8 P w K mg base (CXx P w) 6 f fd ["order","entries"] (uT K CO CR CW CF):=by
 refine Fun.okX F io (λvs H Q E h=>?_) (λcdv A outer s H vs Q E hr hx h=>?_)
 ·obtain⟨o,a,k,l,ns,zs,rfl,_⟩:=h
  rfl
 ·obtain⟨o,a,k,l,ns,zs,rfl,ho,hG,hA,hz,hE,q1,q2⟩:=h
  refine⟨_,(zi (zq (i:=2) io.nd rfl (.inl rfl) (vD ze))
   (zi (yq PassesOwn.leaving rfl (yt (pv 1)) (zy (i:=3) io.nd rfl (.inl rfl))
    (zi (zq (i:=4) io.nd rfl (.inl rfl) (clP hx nq hr .nil rfl (za (pv 2) (za (pv 3) ze))))
    (zg (zR (zG op_notN' (pv 4) wn (zI _))
     (zi (vW (clP hx nc hr .nil rfl (za (pv 4) ze)))
     (zg (vW (uH cG dn dq wH (pv 2) (za (cl0 mi hr .nil rfl (za (pv 0) (za (pv 4) ze))) ze)))))
     zA))))
   (zg (zt (pv 2))))),?_⟩
  have s16:=ya
  obtain⟨xs,hX,hI⟩:=id hA
  have hxl:=hI.len
  refine zk (λσ H'=>Same H H'/\∃D:oO,H D=sJ/\H' D=sI (.lst [])/\σ=[sI (.ref o),sI (.ref a),sI (.ref D),sJ,sJ]) ?_ ?_
  ·ac_rfl
   exact⟨by lia,λp hp=>⟨zd hp,p,hp,zc,rfl⟩⟩
  rintro σ H0 ⟨s0,D,hD,hD0,rfl⟩
  refine zk (λσ H'=>zcC K H D k l ns zs zs.length H'/\∃(v3 v4:Option V),σ=[sI (.ref o),sI (.ref a),sI (.ref D),v3,v4]) ?_ ?_
  ·ac_rfl
   refine⟨⟨_,s0.seq hX⟩,ForL.by (xs:=xs) (λi σ H'=>zcC K H D k l ns zs i H'/\∃(v3 v4:Option V),σ=[sI (.ref o),sI (.ref a),sI (.ref D),v3,v4]) ⟨⟨[],[],s0,hD0,by simp only[EnsA],⟨by decide,λe he=>(nomatch he),λe he=>(nomatch he)⟩,am _,λr h=>h⟩,sJ,sJ,rfl⟩ (λi σ H' _ ⟨⟨_,_,h,_⟩,_⟩=>h.seq hX) ?_ ?_⟩
   ·rintro i x σ H1 hx ⟨⟨bs,sP,s1,hH1,hI1,hB,hbi,hr⟩,v3,v4,rfl⟩
    have hix:=(sQ.mp hx).1
    obtain⟨e,pe,se,hei,rfl,hqe,hse⟩:=hI.get hx
    have hEe:=hE e (ac hei)
    have hdrop:zs.drop i=e::zs.drop (i+1):=by
     obtain⟨h1,h2⟩:=sQ.mp hei
     rw[aV h1,h2]
    rw[hdrop] at hr
    have hal:=hI1.len
    have hbn:=hB.n
    have hIs:Is K H1 (.lst (bs.map dE)) (.ref D):=by
     simp only[Is]
     exact⟨D,sP,rfl,SqL.of hH1,(hI1.same wN).iss⟩
    simp only[xg,bv,bu]
    refine zk (λσ H'=>Same H1 H'/\∃v:V,zcr K H1 H' bs e v/\σ=[sI (.ref o),sI (.ref a),sI (.ref D),sI (.ref pe),sI (v)]) ?_ ?_
    ·ac_rfl
     exact Qq hG hIs hB (zj s1 hqe) (hse.same s1) hEe (λi' j' H' a1 a2 a3 s'=>⟨s',i',j',a1,a2,.inl ⟨a3,rfl⟩⟩) (λi' j' p' s' H' a1 a2 a3 t' a4 a5 a6=>⟨t',i',j',a1,a2,.inr ⟨a3,p',s',rfl,a4,a5,a6⟩⟩) λh H' s'=>q2 (hr _ (.stuck h)) H' (s1.trans s')
    rintro σ H2 ⟨s2,v,⟨i',j',hi',hj',hc⟩,rfl⟩
    rcases hc with ⟨hw,rfl⟩ | ⟨hw,p',s',rfl,hsn,hp',hL'⟩
    ·ac_rfl
     exact⟨bs,sP,s1.trans s2,s2 _ _ hH1,hI1.same (wB s2),hB,by lia,λr h=>hr r (.same hi' hj' hw h)⟩
    ·ac_rfl
     rw[if_pos not_false]
     have hdl:=Qb hB hG hEe hi'.most hj'.most
     refine zk (λσ H'=>H'=H2/\¬ je (yH bs e i' j')/\σ=[sI (.ref o),sI (.ref a),sI (.ref D),sI (.ref pe),sI (.ref p')]) ?_ ?_
     ·ac_rfl
      exact XD (SqT.of hp') hL'.is hdl.1 hdl.2 (λh=>⟨rfl,h⟩) λh=>q2 (hr _ (.far hi' hj' hw h)) H2 (s1.trans s2)
     rintro σ H3 ⟨rfl,hF,rfl⟩
     have hEd:=UH hB hEe hF
     have hH3:=s2 _ _ hH1
     have fin:∀(v:V) (H4:Hp),Same H3 H4->EnA K (jh D H4) (yk k l ns (yH bs e i' j')) v->zcC K H D k l ns zs (i+1) (upd H4 D (.lst (sP ++ [v]))):=λv H4 s4 hv=>by
      refine⟨bs ++ [yk k l ns (yH bs e i' j')],sP ++ [v],zE (s1.trans (s2.trans s4)) hD,zc,?_,hB.snoc (by lia) hEd hw,by rw[ak];show bs.length+1<=i+1;lia,λr h=>hr r (.new hi' hj' hw hF h)⟩
      exact (hI1.same ((wB (s2.trans s4)).trans xz)).snoc (hv.same xz)
     ac_rfl
     refine⟨.inl ⟨_,SqL.of hH3⟩,jB (ho.same (s1.trans s2)) hG (SqT.of hp') hL'.is hEd (λer H4 s4=>⟨sP,s4 _ _ hH3,by lia,fin _ _ s4 ?_⟩) λp2 t2 H4 s4 htn hp2 hL2=>⟨sP,s4 _ _ hH3,by lia,fin _ _ s4 ?_⟩⟩
     ·rw[er]
      exact EnA.new (s4 _ _ hH3) (s4 _ _ hp') (hL'.same s4) (λz=>by rw[z,hH1] at hsn;cases hsn)
     ·exact EnA.new (s4 _ _ hH3) hp2 hL2 (λz=>by rw[z,hH3] at htn;cases htn)
   ·rintro σ H' ⟨h,v3,v4,rfl⟩
    rw[hxl] at h
    exact⟨h,_,_,rfl⟩
  rintro σ H2 ⟨⟨bs,sP,s2,hH2,hI2,hB,hbi,hr⟩,v3,v4,rfl⟩
  rw[dI] at hr
  ac_rfl
  exact q1 bs D H2 (hr _ (.nil bs)) hB s2 hD ⟨sP,hH2,hI2.same wN⟩
theorem Qk(rs ss:List zw):uZ (rs.map dR) (ss.map dR)=decide (rs=ss):=by
 induction rs generalizing ss with
 | nil=>cases ss with
  | nil=>simp [uZ]
  | cons s ss=>simp [uZ]
 | cons r rs ih=>cases ss with
  | nil=>simp [uZ]
  | cons s ss =>
   rw[au,au,uZ,ih]
   have h:eqD (dR r) (dR s)=decide (r=s):=by
    obtain⟨a,b⟩:=r
    obtain⟨c,d⟩:=s
    have e1:∀x y:List Nat,eqD (dS x) (dS y)=decide (x=y):=λx y=>by
     have:eqD (dS x) (dS y)=decide (tx x=tx y):=by simp only[dS,eqD];rfl
     rw[this]
     exact decide_eq_decide.mpr ⟨jp,λh=>by rw[h]⟩
    simp only[dR,eqD,uZ,e1]
    by_cases h1:a=c <;> by_cases h2:b=d <;> simp [h1,h2]
   rw[h]
   by_cases h1:r=s <;> by_cases h2:rs=ss <;> simp [h1,h2]
theorem Lined.eb{l:List Nat}{es zs:List Ent}(h:Lined k l ns es zs)(hE:∀e ∈ es,EB l e):∀e ∈ zs,EB l e:=λe he=>by
 have hm:=h.perm.mem_iff.mp he
 unfold qD at hm
 obtain⟨y,hy,rfl⟩:=sS.mp hm
 exact (hE y (sY.mp hy).1).rule
theorem Lined.len{l:List Nat}{es zs:List Ent}(h:Lined k l ns es zs):zs.length<=es.length:=by
 rw[h.perm.length_eq]
 exact Yc k l ns es
def ZV(K:oN)(CO CR CW T CF:oO):Sp:=λvs H Q E=>∃(o a:oO) (k:Nat) (l:List Nat) (ns:List Int) (es:List Ent),vs=[.ref o,.ref a]/\OrdAt CO CR CW H o k l ns/\OG l ns k/\EnsL K H a es/\es.length<64/\(∀e ∈ es,EB l e)/\TabOk H T lp lq /\
 (∀(bs:List Ent) (D:oO) (H':Hp),vS k l ns 20 es (sI bs)->BG k l ns bs->SamT T H H'->TabOk H' T lp lq->EnsM K H' D bs->Q (.ref D) H')/\(vS k l ns 20 es sJ->∀H',SamT T H H'->TabOk H' T lp lq->E (.ref CF) sJ H')
def zc1(K:oN)(T:oO)(H:Hp)(k:Nat)(l:List Nat)(ns:List Int)(es:List Ent)(n:Nat)(H':Hp)(b:oO):Prop:=∃fs:List Ent,SamT T H H'/\TabOk H' T lp lq/\(∀r,vS k l ns n fs r->vS k l ns 20 es r)/\EnsL K H' b fs/\fs.length<64/\∀e ∈ fs,EB l e
theorem lb:zp ["order","entries","turn","lined_up"] ["order","entries"] (zh qj):=by nofun
theorem XO{f CO CR CW TB CF:oO}(B:Bt mg)(T:zad K mg CF)(TM:TMo mg)(F:Fun K "thinned" "thinned" qj f fd)(nU:Df P w K mg base CX0 6 "in_order" ["order","entries"] [] (uI K CO CR CW TB))(nI:Df P w K mg base (CXx P w) 6 "built_anew" ["order","entries"] [] (uT K CO CR CW CF))(gm:Df P w K mg base CX0 1 "pairs_of" ["entries"] [] (xX K)):z8 P w K mg base (CXx P w) 7 f fd ["order","entries"] (ZV K CO CR CW TB CF):=by
 obtain⟨t9,g9⟩:=TM.p
 refine Fun.okX F lb (λvs H Q E h=>?_) (λcdv A outer s H vs Q E hr hx h=>?_)
 ·obtain⟨o,a,k,l,ns,es,rfl,_⟩:=h
  rfl
 ·obtain⟨o,a,k,l,ns,es,rfl,ho,hG,hA,hz,hE,hTab,q1,q2⟩:=h
  refine⟨_,(zi (yq PassesOwn.leaving rfl (yR rfl B.range (za (yK (v:=.int 20) rfl g9 ⟨t9,rfl⟩) ze)) (zy (i:=2) lb.nd rfl (.inl rfl))
    (zi (zq (i:=3) lb.nd rfl (.inl rfl) (cl0 nU hr .nil rfl (za (pv 0) (za (pv 1) ze))))
    (zi (zq (i:=1) lb.nd rfl (.inl rfl) (clP hx nI hr .nil rfl (za (pv 0) (za (pv 3) ze))))
    (zg (zR (zG (zaq (qE hr)) (cl0 gm hr .nil rfl (za (pv 1) ze)) (cl0 gm hr .nil rfl (za (pv 3) ze)) (zI _))
     (zg (zt (pv 1)))
     zA)))))
   (zg (yG hx rfl T.xi.toXC T.ini rfl T.g (za xf ze)))),?_⟩
  have s16:=ya
  obtain⟨ps0,hps0,_⟩:=id hTab
  refine zk (λσ H'=>∃b:oO,zc1 K TB H k l ns es 0 H' b) ?_ ?_
  ·ac_rfl
   refine⟨by lia,by lia,ForR.by (λi σ H'=>∃(b:oO) (v2 v3:Option V),zc1 K TB H k l ns es (20 - i) H' b/\σ=[sI (.ref o),sI (.ref b),v2,v3]) ⟨a,sJ,sJ,⟨es,SamT.of (Same.refl _),hTab,λr h=>h,hA,hz,hE⟩,rfl⟩ ?_ ?_⟩
   ·rintro i σ H1 hi ⟨b,v2,v3,⟨fs,s1,hT1,hr,hF,hfl,hFE⟩,rfl⟩
    have ho1:=ho.samT s1 hps0
    have hi20:i<20:=hi
    obtain⟨n,hn⟩:∃n,20 - i=n+1:=⟨20 - i - 1,by lia⟩
    rw[hn] at hr
    simp only[xg,bv,bu]
    refine zk (λσ H'=>SamT TB H1 H'/\TabOk H' TB lp lq/\∃(z:oO),(∃zs:List Ent,Lined k l ns fs zs/\EnsM K H' z zs)/\∃v2,σ=[sI (.ref o),sI (.ref b),v2,sI (.ref z)]) ?_ ?_
    ·ac_rfl
     exact Vj ho1 hG hF hfl hFE hT1 λD zs H' s' hT' _ hLn hM=>⟨s',hT',D,⟨zs,hLn,hM⟩,rfl⟩
    rintro σ H2 ⟨s2,hT2,z,⟨zs,hLn,hZ⟩,v2,rfl⟩
    have s12:=s1.trans s2
    have ho2:=ho.samT s12 hps0
    have hzE:=hLn.eb hFE
    have hzl:=hLn.len
    refine zk (λσ H'=>Same H2 H'/\∃(c:oO),(∃bs:List Ent,xo k l ns [] zs (sI bs)/\BG k l ns bs/\EnsM K H' c bs)/\σ=[sI (.ref o),sI (.ref c),v2,sI (.ref z)]) ?_ ?_
    ·ac_rfl
     exact WG ho2 hG hZ.l (by lia) hzE (λbs D H' hb hB s' _ hM=>⟨s',D,⟨bs,hb,hB,hM⟩,rfl⟩) λhb H' s'=>q2 (hr _ (.bad hLn hb)) H' (s12.trans (SamT.of s')) (hT2.same s')
    rintro σ H3 ⟨s3,c,⟨bs,hb,hB,hM⟩,rfl⟩
    have hbn:=hB.n
    ac_rfl
    refine wK hM.l.is (by lia) λP1 H4 _ s4 hP1=>wK ((hZ.same s3).same s4).l.is (by lia) λP2 H5 _ s5 hP2=>Kz (.inl ⟨(hP1.same s5).is,hP2.is⟩) (cL (Jp _) (by decide)) ?_
    rw[Qk]
    have s45:=s4.trans s5
    have s15:=s12.trans (SamT.of (s3.trans s45))
    have hT5:=hT2.same (s3.trans s45)
    refine⟨_,rfl,yT (λh=>?_) λh=>?_⟩
    ·exact q1 bs c H5 (hr _ (.done hLn hb (of_decide_eq_true h))) hB s15 hT5 (hM.same s45)
    ·have e:20 - (i+1)=n:=by lia
     rw[e]
     exact⟨bs,s15,hT5,λr h'=>hr r (.more hLn hb (λz=>h (decide_eq_true z)) h'),(hM.same s45).l,hbn,hB.e⟩
   ·rintro σ H' ⟨b,v2,v3,h,rfl⟩
    exact⟨b,h⟩
  rintro σ H2 ⟨b,fs,s2,hT2,hr,_⟩
  ac_rfl
  exact⟨by lia,q2 (hr _ (.out fs)) H2 s2 hT2⟩
def qx(K:oN):Sp:=λvs H Q _=>∃(a:oO) (ns:List Int) (k:Int),vs=[.ref a,.int k]/\SqL K H a (ns.map V.int)/\(∀z ∈ ns,qm z)/\0<=k/\∀c:Int,qm c->Q (.int c) H
theorem vo{k:Int}(hS:SqL K H a (ns.map V.int))(hB:∀z ∈ ns,qm z)(hk:0<=k)(h:∀c:Int,qm c->Q (.int c) H):qx K [.ref a,.int k] H Q E:=⟨a,ns,k,rfl,hS,hB,hk,h⟩
theorem J4:zp ["_law_script","_law_k"] ["_law_script","_law_k"] (zh WJ):=by nofun
theorem KO(B:Bt mg)(F:Fun K "_law_cell" "_law_cell" WJ f fd) : z8 P w K mg base CX0 1 f fd ["_law_script","_law_k"] (qx K):=by
 refine F.ok J4 (λvs H Q E h=>?_) (λcdv A outer s H vs Q E hr h=>?_)
 ·obtain⟨a,ns,k,rfl,_⟩:=h
  rfl
 ·obtain⟨a,ns,k,rfl,hS,hB,hk,q⟩:=h
  refine⟨_,(zM (zR (zG zaZ (pv 1) (zm zZ rfl B.len ax (za (pv 0) ze)) (zI _))
    (zg (zt (zr WU (pv 0) (pv 1) (λ_ _=>rfl))))
    zA)
   (zg (zt zf))),?_⟩
  have s16:=ya
  rfl'
  refine⟨_,.inl ⟨_,hS,rfl⟩,yT (λc=>?_) (λc=>q 0 (by unfold qm;decide))⟩
  obtain⟨v,h1,h2⟩:=ZF hk c
  rw[aG] at h2
  obtain⟨z,hz,rfl⟩:=tj.mp h2
  exact .inl ⟨_,hS,_,h1,q z (hB z (ac hz))⟩
def w4:Sp:=λvs H Q _=>∃(c t:Int),vs=[.int c,.int t]/\qm c/\0<=t/\t<=100/\∀z:Int,0<=z->Q (.int z) H
theorem vx{c t:Int}(hc:qm c)(h0:0<=t)(h1:t<=100)(q:∀z:Int,0<=z->Q (.int z) H):w4 [.int c,.int t] H Q E:=⟨c,t,rfl,hc,h0,h1,q⟩
theorem lM:zp ["_law_cell_here","_law_turn","_law_step","_law_number"] ["_law_cell_here","_law_turn"] (zh Z1):=by nofun
theorem Qw(B:Bt mg)(F:Fun K "_law_mixed" "_law_mixed" Z1 f fd) : z8 P w K mg base CX0 1 f fd ["_law_cell_here","_law_turn"] w4:=by
 refine F.ok lM (λvs H Q E h=>?_) (λcdv A outer s H vs Q E hr h=>?_)
 ·obtain⟨c,t,rfl,_⟩:=h
  rfl
 ·obtain⟨c,t,rfl,hc,h0,h1,q⟩:=h
  refine⟨_,(zi (zR (zG op_ge' (pv 0) (zB Vm zf zf) (zI _))
    (zi (yq PassesOwn.never rfl (yR rfl B.range (za (zB op_add zf (zB xh (pv 1) zf)) ze)) (zy (i:=2) lM.nd rfl (.inl rfl))
     (zg (zq (i:=0) lM.nd rfl (.inl rfl) (zB wl (pv 0) (zB Vm zf zf)))))
    (zg (zt (zB xh (pv 0) (zB Vm zf zf)))))
    zA)
   (zi (zq (i:=3) lM.nd rfl (.inl rfl) (zB op_add (zB op_mul (zB Qh (pv 0) (pv 0)) zf) (zB op_mul (zB op_mul (pv 0) zf) (zB op_add (pv 1) zf))))
   (zg (zt (zB wl (zB xh (zB op_mul (zB xh (zB op_add (pv 3) (zB op_mul (pv 1) zf)) zf) zf) zf) zf))))),?_⟩
  have s16:=ya
  have c6:zb4 10 6:=⟨by decide,by decide,by decide⟩
  have c12:zb4 10 12:=⟨by decide,by decide,by decide⟩
  have p6:(0:Int)<10 ^ Int.toNat 6/\(10:Int) ^ Int.toNat 6<1073741824:=by decide
  refine zk (λσ H'=>H'=H/\σ=[sI (.int c),sI (.int t),sJ,sJ]) ?_ ?_
  ·rfl'
   refine⟨c12,yT (λ_=>?_) (λ_=>trivial)⟩
   refine zk (λσ H'=>H'=H/\∃(z:Int) (v:Option V),σ=[sI (.int z),sI (.int t),v,sJ]) ?_ ?_
   ·rfl'
    have e1:=bw t (b:=9) (by decide)
    have e2:=bx t (b:=9) (by decide)
    refine⟨by decide,by lia,by lia,ForR.by (λi σ H'=>H'=H/\∃(z:Int) (v:Option V),σ=[sI (.int z),sI (.int t),v,sJ]) ⟨rfl,_,_,rfl⟩ ?_ λσ H' h=>h⟩
    rintro i σ H' hi ⟨rfl,z,v,rfl⟩
    rfl'
    exact⟨c6,p6.1,p6.2⟩
   rintro σ H1 ⟨rfl,z,v,rfl⟩
   rfl'
   exact⟨c6,p6.1,q _ (bw _ (by have:=p6.1;lia))⟩
  rintro σ H1 ⟨rfl,rfl⟩
  refine zk (λσ H'=>H'=H1/\∃z:Int,σ=[sI (.int c),sI (.int t),sJ,sI (.int z)]) ?_ ?_
  ·rfl'
   exact⟨hc,hc,.inr ⟨by decide,by decide⟩,.inr ⟨by decide,by decide⟩,.inr ⟨by lia,by lia⟩⟩
  rintro σ H2 ⟨rfl,z,rfl⟩
  rfl'
  exact⟨.inr ⟨by decide,by decide⟩,by decide,.inr ⟨by decide,by decide⟩,by decide,⟨by decide,by decide⟩,q _ (Int.ediv_nonneg (bw _ (by decide)) (by decide))⟩
def wV:Sp:=λvs H Q _=>∃c m:Int,vs=[.int c,.int m]/\qm c/\0<=m/\m<=26/\∀l:List Nat,(l.length:Int)=m->l.Nodup->ZU l->Q (.str (tx l)) H
theorem Z8{c m:Int}(h:qm c)(h0:0<=m)(h1:m<=26)(q:∀l:List Nat,(l.length:Int)=m->l.Nodup->ZU l->Q (.str (tx l)) H):wV [.int c,.int m] H Q E:=⟨c,m,rfl,h,h0,h1,q⟩
def zcX(c m:Int)(i:Nat)(σ:L2.St):Prop:=∃(left found:List Nat) (number:Int) (v5 v6:Option V),found.length=i/\(found ++ left).Perm alpha/\σ=[sI (.int c),sI (.int m),sI (.str (tx left)),sI (.int number),sI (.str (tx found)),v5,v6]
theorem gg:zp ["_law_cell_here","_law_many","_law_left","_law_number","_law_letters_here","_law_k","_law_at"] ["_law_cell_here","_law_many"] (zh qg):=by nofun
theorem Xz(B:Bt mg)(F:Fun K "_law_letters" "_law_letters" qg f fd)(lg:Df P w K mg base CX0 1 "_law_mixed" ["_law_cell_here","_law_turn"] [] w4):z8 P w K mg base CX0 2 f fd ["_law_cell_here","_law_many"] wV:=by
 refine F.ok gg (λvs H Q E h=>?_) (λcdv A outer s H vs Q E hr h=>?_)
 ·obtain⟨c,m,rfl,_⟩:=h
  rfl
 ·obtain⟨c,m,rfl,hc,h0,h1,q⟩:=h
  refine⟨_,(zi (zq (i:=2) gg.nd rfl (.inl rfl) xf)
   (zi (zq (i:=3) gg.nd rfl (.inl rfl) (cl0 lg hr .nil rfl (za (pv 0) (za zf ze))))
   (zi (zq (i:=4) gg.nd rfl (.inl rfl) xf)
   (zi (yq PassesOwn.never rfl (yR rfl B.range (za (pv 1) ze)) (zy (i:=5) gg.nd rfl (.inl rfl))
    (zi (zq (i:=6) gg.nd rfl (.inl rfl) (zB xh (pv 3) (zm zZ rfl B.len ax (za (pv 2) ze))))
    (zi (zq (i:=3) gg.nd rfl (.inl rfl) (zB wl (pv 3) (zm zZ rfl B.len ax (za (pv 2) ze))))
    (zi (zq (i:=4) gg.nd rfl (.inl rfl) (zB op_add_str (pv 4) (zr W5 (pv 2) (pv 6) (λ_ _=>rfl))))
    (zg (zq (i:=2) gg.nd rfl (.inl rfl) (zB op_add_str (zO yZ (pv 2) ym (zV (pv 6))) (zO yZ (pv 2) (zV (zB op_add (pv 6) zf)) ym))))))))
   (zg (zt (pv 4))))))),?_⟩
  have s16:=ya
  have ha:alpha.length=26:=rfl
  refine zk (λσ H'=>H'=H/\σ=[sI (.int c),sI (.int m),sI (.str (tx alpha)),sJ,sJ,sJ,sJ]) ?_ ?_
  ·rfl'
   exact VF
  rintro σ H1 ⟨rfl,rfl⟩
  refine zk (λσ H'=>H'=H1/\∃z:Int,σ=[sI (.int c),sI (.int m),sI (.str (tx alpha)),sI (.int z),sJ,sJ,sJ]) ?_ ?_
  ·rfl'
   exact vx hc (by decide) (by decide) λz _=>⟨rfl,z,rfl⟩
  rintro σ H2 ⟨rfl,z,rfl⟩
  refine zk (λσ H'=>H'=H2/\σ=[sI (.int c),sI (.int m),sI (.str (tx alpha)),sI (.int z),sI (.str (tx [])),sJ,sJ]) ?_ ?_
  ·rfl'
   rfl
  rintro σ H3 ⟨rfl,rfl⟩
  refine zk (λσ H'=>H'=H3/\zcX c m m.toNat σ) ?_ ?_
  ·rfl'
   refine⟨by lia,by lia,ForR.by (λi σ H'=>H'=H3/\zcX c m i σ) ⟨rfl,alpha,[],z,sJ,sJ,rfl,.refl _,rfl⟩ ?_ λσ H' h=>h⟩
   rintro i σ H' hi ⟨rfl,left,found,number,v5,v6,hf,hp,rfl⟩
   have hpl:=hp.length_eq
   rw[ak] at hpl
   have hl:left.length+i=26:=by lia
   have hm0:=bw number (b:=(left.length:Int)) (by lia)
   have hm1:=bx number (b:=(left.length:Int)) (by lia)
   generalize hz:number % (left.length:Int)=at_ at hm0 hm1
   obtain⟨v,e1,e2⟩:=ZF hm0 hm1
   simp only[xg,bv,bu]
   refine zk (λσ H''=>H''=H'/\∃v5,σ=[sI (.int c),sI (.int m),sI (.str (tx left)),sI (.int number),sI (.str (tx found)),v5,sI (.int at_)]) ?_ ?_
   ·rfl'
    exact⟨by lia,by lia,hz⟩
   rintro σ G1 ⟨rfl,v5',rfl⟩
   refine zk (λσ H''=>H''=G1/\∃n v5,σ=[sI (.int c),sI (.int m),sI (.str (tx left)),sI (.int n),sI (.str (tx found)),v5,sI (.int at_)]) ?_ ?_
   ·rfl'
    exact⟨by lia,⟨by lia,by lia⟩⟩
   rintro σ G2 ⟨rfl,n,v5',rfl⟩
   refine zk (λσ H''=>H''=G2/\∃v5,σ=[sI (.int c),sI (.int m),sI (.str (tx left)),sI (.int n),sI (.str (tx (found ++ [v]))),v5,sI (.int at_)]) ?_ ?_
   ·rfl'
    exact⟨by lia,v,e1,by lia,rfl⟩
   rintro σ G3 ⟨rfl,v5',rfl⟩
   have hc1:=vP left sJ (sI at_)
   have hc2:=vP left (sI (at_+1)) sJ
   rfl'
   refine⟨by lia,by lia,by lia,_,_,_,_,_,by rw[ak,hf];rfl,?_,rfl⟩
   rw[uk _ hm0,xx _ (by lia),ar]
   have e3:(at_+1).toNat=at_.toNat+1:=by lia
   rw[e3]
   exact ((WI e2).append_left found).trans hp
  rintro σ H4 ⟨rfl,left,found,number,v5,v6,hf,hp,rfl⟩
  rfl'
  have hnd:(found ++ left).Nodup:=hp.nodup_iff.mpr (by decide)
  refine q found (by lia) (List.nodup_append.mp hnd).1 λc hc=>?_
  have h:c ∈ alpha:=hp.mem_iff.mp (bj _ hc)
  exact (by decide:∀c ∈ alpha,97<=c/\c<=122) c h
def jM:Sp:=λvs H Q _=>∃(ls:List Nat) (c m:Int),vs=[.int c,.str (tx ls),.int m]/\0<=c/\1<=ls.length/\ls.length<=26/\0<=m/\m<=100/\∀l:List Nat,(l.length:Int)<=m->(∀x ∈ l,x ∈ ls)->Q (.str (tx l)) H
theorem Yx{ls:List Nat}{c m:Int}(h0:0<=c)(h1:1<=ls.length)(h2:ls.length<=26)(h3:0<=m)(h4:m<=100)(h:∀l:List Nat,(l.length:Int)<=m->(∀x ∈ l,x ∈ ls)->Q (.str (tx l)) H):jM [.int c,.str (tx ls),.int m] H Q E :=
 ⟨ls,c,m,rfl,h0,h1,h2,h3,h4,h⟩
theorem iG:zp ["_law_number","_law_letters_here","_law_most","_law_size","_law_word_here","_law_k"] ["_law_number","_law_letters_here","_law_most"] (zh Ub):=by nofun
theorem JB(B:Bt mg)(F:Fun K "_law_word" "_law_word" Ub f fd) : z8 P w K mg base CX0 1 f fd ["_law_number","_law_letters_here","_law_most"] jM:=by
 refine F.ok iG (λvs H Q E h=>?_) (λcdv A outer s H vs Q E hr h=>?_)
 ·obtain⟨ls,c,m,rfl,_⟩:=h
  rfl
 ·obtain⟨ls,c,m,rfl,h0,h1,h2,h3,h4,q⟩:=h
  refine⟨_,(zM (zq (i:=3) iG.nd rfl (.inl rfl) (zB xh (pv 0) (zB op_add (pv 2) zf)))
   (zM (zq (i:=0) iG.nd rfl (.inl rfl) (zB wl (pv 0) (zB op_add (pv 2) zf)))
   (zM (zq (i:=4) iG.nd rfl (.inl rfl) xf)
   (zM (yq PassesOwn.never rfl (yR rfl B.range (za (pv 3) ze)) (zy (i:=5) iG.nd rfl (.inl rfl))
    (zM (zq (i:=4) iG.nd rfl (.inl rfl) (zB op_add_str (pv 4) (zr W5 (pv 1) (zB xh (pv 0) (zm zZ rfl B.len ax (za (pv 1) ze))) (λ_ _=>rfl))))
    (zg (zq (i:=0) iG.nd rfl (.inl rfl) (zB wl (pv 0) (zm zZ rfl B.len ax (za (pv 1) ze)))))))
   (zg (zt (pv 4))))))),?_⟩
  have s16:=ya
  rfl'
  have m0:=bw c (b:=m+1) (by lia)
  have m1:=bx c (b:=m+1) (by lia)
  refine⟨by lia,⟨by lia,by lia⟩,by lia,by lia,ForR.by (λi σ H'=>H'=H/\∃(found:List Nat) (number:Int) (v5:Option V),σ=[sI (.int number),sI (.str (tx ls)),sI (.int m),sI (.int (c % (m+1))),sI (.str (tx found)),v5]/\found.length=i/\∀x ∈ found,x ∈ ls)
   ⟨rfl,[],_,sJ,rfl,rfl,λx h=>(nomatch h)⟩ ?_ ?_⟩
  ·rintro i σ H' hi ⟨rfl,found,number,v5,rfl,hf,hm⟩
   rfl'
   have hm0:=bw number (b:=(ls.length:Int)) (by lia)
   have hm1:=bx number (b:=(ls.length:Int)) (by lia)
   obtain⟨v,e1,e2⟩:=ZF hm0 hm1
   repeat (refine And.intro (by first | lia | decide | exact⟨by lia,by lia⟩ | assumption) ?_)
   refine⟨v,e1,?_⟩
   repeat (refine And.intro (by first | lia | decide | exact⟨by lia,by lia⟩ | assumption) ?_)
   refine⟨by rw[ak,hf];rfl,λx hx=>?_⟩
   rcases sV.mp hx with h | h
   ·exact hm x h
   ·rw[sX.mp h]
    exact ac e2
  ·rintro σ H' ⟨rfl,found,number,v5,rfl,hf,hm⟩
   rfl'
   exact q found (by lia) hm
def qV:Sp:=λvs H Q _=>∃(ls:List Nat) (c m:Int),vs=[.int c,.str (tx ls),.int m]/\qm c/\1<=ls.length/\ls.length<=26/\0<=m/\m<=100/\∀(o n:List Nat) (p:oO),(o.length:Int)<=m->(n.length:Int)<=m->(∀x ∈ o,x ∈ ls)->(∀x ∈ n,x ∈ ls)->H p=sJ->Q (.ref p) (upd H p (.tup [.str (tx o),.str (tx n)]))
theorem Qn{ls:List Nat}{c m:Int}(h0:qm c)(h1:1<=ls.length)(h2:ls.length<=26)(h3:0<=m)(h4:m<=100)(h:∀(o n:List Nat) (p:oO),(o.length:Int)<=m->(n.length:Int)<=m->(∀x ∈ o,x ∈ ls)->(∀x ∈ n,x ∈ ls)->H p=sJ->Q (.ref p) (upd H p (.tup [.str (tx o),.str (tx n)]))):qV [.int c,.str (tx ls),.int m] H Q E:=⟨ls,c,m,rfl,h0,h1,h2,h3,h4,h⟩
theorem KR:zp ["_law_cell_here","_law_letters_here","_law_most"] ["_law_cell_here","_law_letters_here","_law_most"] (zh Vi):=by nofun
theorem K2(B:Bt mg)(F:Fun K "_law_pair" "_law_pair" Vi f fd)(nX:Df P w K mg base CX0 1 "_law_word" ["_law_number","_law_letters_here","_law_most"] [] jM)(lg:Df P w K mg base CX0 1 "_law_mixed" ["_law_cell_here","_law_turn"] [] w4):z8 P w K mg base CX0 2 f fd ["_law_cell_here","_law_letters_here","_law_most"] qV:=by
 refine F.ok KR (λvs H Q E h=>?_) (λcdv A outer s H vs Q E hr h=>?_)
 ·obtain⟨ls,c,m,rfl,_⟩:=h
  rfl
 ·obtain⟨ls,c,m,rfl,hc,h1,h2,h3,h4,q⟩:=h
  refine⟨_,(zg (zt (zY (za (cl0 nX hr .nil rfl (za (cl0 lg hr .nil rfl (za (pv 0) (za zf ze))) (za (pv 1) (za (pv 2) ze)))) (za (cl0 nX hr .nil rfl (za (cl0 lg hr .nil rfl (za (pv 0) (za zf ze))) (za (pv 1) (za (pv 2) ze)))) ze))))),?_⟩
  have s16:=ya
  rfl'
  exact vx hc (by decide) (by decide) λz hz=>Yx hz h1 h2 h3 h4 λo ho mo=>vx hc (by decide) (by decide) λz hz=>Yx hz h1 h2 h3 h4 λn hn mn=>⟨by lia,λp hp=>q o n p ho hn mo mn hp⟩
structure zdu(K:oN):Prop where
 ii:aQ K (.type "int") (.type "int")=sI sK
 ib:aQ K (.type "int") (.type "bool")=sI sL
def uU:Sp:=λvs H Q _=>∃i:Int,vs=[.int i]/\Q (.bl sK) H
theorem Zf{i:Int}(h:Q (.bl sK) H):uU [.int i] H Q E:=⟨i,rfl,h⟩
theorem Ux:zp ["_law_found"] ["_law_found"] (zh ZQ):=by nofun
theorem U6(B:Bt mg)(T:zdu K)(F:Fun K "_law_whole" "_law_whole" ZQ f fd):z8 P w K mg base CX0 1 f fd ["_law_found"] uU:=by
 refine F.ok Ux (λvs H Q E h=>?_) (λcdv A outer s H vs Q E hr h=>?_)
 ·obtain⟨a,rfl,_⟩:=h
  rfl
 ·obtain⟨i,rfl,q⟩:=h
  refine⟨_,(zg (zt (zat (yO rfl B.isi (pv 0) rfl B.int PySem.Pv.boot_int) (zah (VT (yO rfl B.isi (pv 0) rfl B.bool PySem.Pv.boot_bool)))))),?_⟩
  rfl'
  exact⟨_,.inl (.int _),sK,T.ii,zcO ⟨_,.inl (.int _),sL,T.ib,q⟩⟩
structure TLs(K:oN):Prop where
 ll:aQ K (.type "list") (.type "list")=sI sK
 tt:aQ K (.type "tuple") (.type "tuple")=sI sK
 bb:aQ K (.type "bool") (.type "bool")=sI sK
def jY(K:oN):Sp:=λvs H Q _=>∃(t:oO) (ss:List Stp),vs=[.ref t]/\Is K H (.lst (ss.map dSt)) (.ref t)/\Q (.bl sK) H
theorem nJ:zp ["_law_found","_law_step"] ["_law_found"] (zh Z6):=by nofun
theorem QI(B:Bt mg)(T:TLs K)(F:Fun K "_law_steps" "_law_steps" Z6 f fd)(nS:Df P w K mg base CX0 1 "_law_whole" ["_law_found"] [] uU):z8 P w K mg base CX0 2 f fd ["_law_found"] (jY K):=by
 refine F.ok nJ (λvs H Q E h=>?_) (λcdv A outer s H vs Q E hr h=>?_)
 ·obtain⟨t,ss,rfl,_⟩:=h
  rfl
 ·obtain⟨t,ss,rfl,hT,q⟩:=h
  refine⟨_,(zi (zR (yd (yL (yO rfl B.isi (pv 0) rfl B.list PySem.Pv.boot_list) (λ_=>rfl)))
    (zg (zt yw))
    zA)
   (zi (yq PassesOwn.never rfl (yt (pv 0)) (zy (i:=1) nJ.nd rfl (.inl rfl))
    (zi (zR (PW.pt (qS (yd (yL (yO rfl B.isi (pv 1) rfl B.tuple PySem.Pv.boot_tuple) (λ_=>rfl))) (qS (zG kM (zm zZ rfl B.len ax (za (pv 1) ze)) zf (zI _)) (uo (yd (yL (yO rfl B.isi (zr ix_tup (pv 1) zf (λ_ _=>rfl)) rfl B.bool PySem.Pv.boot_bool) (λ_=>rfl)))))))
     (zg (zt yw))
     zA)
    (zg (zR (PW.pt (qS (yd (yL (cl0 nS hr .nil rfl (za (zr ix_tup (pv 1) zf (λ_ _=>rfl)) ze)) (λ_=>rfl))) (uo (yd (yL (cl0 nS hr .nil rfl (za (zr ix_tup (pv 1) zf (λ_ _=>rfl)) ze)) (λ_=>rfl))))))
     (zg (zt yw))
     zA))))
   (zg (zt yw)))),?_⟩
  have s16:=ya
  simp only[Is] at hT
  obtain⟨_,ts,e,hTs,hJ⟩:=hT
  cases e
  refine zk (λσ H'=>H'=H/\σ=[sI (.ref t),sJ]) ?_ ?_
  ·rfl'
   exact⟨_,.inr (.inr (.inl ⟨_,_,rfl,rfl,hTs⟩)),sK,T.ll,Uq trivial⟩
  rintro σ H1 ⟨rfl,rfl⟩
  refine zk (λσ H'=>H'=H1/\∃v1,σ=[sI (.ref t),v1]) ?_ ?_
  ·rfl'
   refine⟨⟨_,hTs⟩,ForL.by (xs:=ts) (λi σ H'=>H'=H1/\∃v1,σ=[sI (.ref t),v1]) ⟨rfl,_,rfl⟩ (λi σ H' _ h=>by rw[h.1];exact hTs) ?_ λσ H' h=>h⟩
   rintro i x σ H' hx ⟨rfl,v1,rfl⟩
   obtain⟨u,pu,hui,rfl,hqu⟩:=vL hJ hx
   simp only[xg,bv,bu]
   refine zk (λσ H''=>H''=H'/\σ=[sI (.ref t),sI (.ref pu)]) ?_ ?_
   ·rfl'
    exact⟨_,.inr (.inr (.inr ⟨_,_,rfl,rfl,hqu⟩)),sK,T.tt,Uq ⟨_,.inr ⟨_,hqu,rfl⟩,yT (λh=>absurd rfl h) λ_=>⟨_,hqu,_,rfl,_,.inl (.bl _),sK,T.bb,Uq trivial⟩⟩⟩
   rintro σ G ⟨rfl,rfl⟩
   rfl'
   exact⟨_,hqu,_,rfl,Zf ⟨sK,rfl,Uq ⟨_,hqu,_,rfl,Zf ⟨sK,rfl,Uq rfl⟩⟩⟩⟩
  rintro σ H2 ⟨rfl,v1,rfl⟩
  rfl'
  exact q
theorem zc8{X:Cx}{k j:Nat}{C:oO}{ps:List oV}{sp:Sp}{e:oY}{es:List oY}{t:TA}{pos p:pW}{x:oV}(hx:XE X E)(D:DMk X.prog X.w X.K X.mg X.base (CXx X.prog X.w) k C ps sp)(hr:Room j X.A)(hg:Gl X x)(hm:X.mg x=sI (.ref C))(ha:PA X (e::es) t)(hdb:(x == ("__debug__" : oV))=sL:=by decide)(he:oK (e::es) X.env=(sL,eval e X.env)::oK es X.env:=by rfl)
  (hpl:(pq pos (oK es X.env)).any (·.1)=sL:=by rfl) (hj:k+1<=j:=by decide):PE X (.Call (.Name x p) (e::es) [] pos) (QL C sp [] E t):=by
 obtain⟨f,fd,M,F,hb⟩:=D.ex
 exact Wo M F (hr.mono hj) hg hm hb .nil (Xl hx) ha hdb he hpl
def km(K:oN)(CO CR CW:oO):Sp:=λvs H Q _=>∃(z:Int) (l:List Nat) (D:oO) (ws:List Int),vs=[.int z,.str (tx l),.ref D]/\0<=z/\z<3/\qI l=sK/\H D=sI (.lst (ws.map V.int))/\ws.length=l.length/\(∀n ∈ ws,1<=n/\n<=1000000)/\∀(o:oO) (H':Hp),Same H H'->OrdAt CO CR CW H' o z.toNat l ws->Q (.ref o) H'
theorem Uu:zp ["_law_kind","_law_letters_here","_law_weights"] ["_law_kind","_law_letters_here","_law_weights"] (zh Z2):=by nofun
theorem UA{f CO CR CW:oO}(B:Bt mg)(T:TWS P w K mg base CO CR CW)(F:Fun K "_law_order" "_law_order" Z2 f fd) : z8 P w K mg base CX0 6 f fd ["_law_kind","_law_letters_here","_law_weights"] (km K CO CR CW):=by
 refine F.ok Uu (λvs H Q E h=>?_) (λcdv A outer s H vs Q E hr h=>?_)
 ·obtain⟨z,l,D,ws,rfl,_⟩:=h
  rfl
 ·obtain⟨z,l,D,ws,rfl,z0,z3,hg,hD,hwl,hwb,q⟩:=h
  refine⟨_,(zM (zR (zG uG (pv 0) zf (zI _))
    (zg (zt (mkC T.mR hr rfl T.gR (za (pv 1) ze))))
    zA)
   (zM (zR (zG uG (pv 0) zf (zI _))
    (zg (zt (zc8 xe0 T.mW hr rfl T.gW (za (pv 1) (za (xN yP rfl B.list PySem.Pv.boot_list (za (pv 2) ze)) ze)))))
    zA)
   (zg (zt (mkC T.mO hr rfl T.gO (za (pv 1) ze)))))),?_⟩
  have s16:=ya
  ac_rfl
  refine yT (λh1=>?_) λh1=>yT (λh2=>?_) λh2=>?_
  ·intro x dx hx hdx hne
   have sd:=zd (o:=.own x) hdx
   refine⟨x,CR,dx,l,rfl,hg,T.cR,T.lR,zc,rfl,q x _ (λb o' e=>?_) ⟨dx,.inr (.inl ⟨by rw[h1];rfl,zc⟩)⟩⟩
   rw[zo (zF e hx),zo (zF e hx)]
   exact sd _ _ e
  ·refine⟨_,.inl (SqL.of hD),λE1 hE=>?_⟩
   have se:=zd (o:=.lst (ws.map V.int)) hE
   intro x dx hx hdx hne
   have sd:=zd (o:=.own x) hdx
   have k1:∀b o',(upd H E1 (.lst (ws.map V.int))) b=sI o'->(upd (upd (upd H E1 (.lst (ws.map V.int))) dx (.own x)) x (.ins CW dx [])) b=sI o':=λb o' e=>by
    rw[zo (zF e hx)]
    exact sd _ _ e
   exact⟨x,dx,E1,l,ws,rfl,hg,SqL.of (k1 _ _ zc),hwl,hwb,zc,λw H' hw hwx kp ht hx'=>⟨rfl,q x _ (λb o' e=>kp b o' (zF (se _ _ e) hx) (k1 b o' (se _ _ e))) ⟨dx,.inr (.inr ⟨by lia,hwl,w,hx',ht⟩)⟩⟩⟩
  ·intro x dx hx hdx hne
   have sd:=zd (o:=.own x) hdx
   refine⟨x,CO,dx,l,rfl,hg,T.cO,T.lO,zc,rfl,q x _ (λb o' e=>?_) ⟨dx,.inl ⟨by lia,zc⟩⟩⟩
   rw[zo (zF e hx),zo (zF e hx)]
   exact sd _ _ e
def Yo:Sp:=λvs H Q _=>∃(c:Int),vs=[.int c]/\qm c/\∀(k:Int) (l:List Nat) (ws:List Int) (p W:oO) (H':Hp),0<=k->k<3->qI l=sK->ws.length=l.length->(∀n ∈ ws,1<=n/\n<=3)->Same H H'->H' p=sI (.tup [.int k,.str (tx l),.ref W])->H' W=sI (.lst (ws.map V.int))->Q (.ref p) H'
theorem nt:zp ["_law_cell_here","_law_letters_here","_law_number"] ["_law_cell_here"] (zh WS):=by nofun
theorem Jt(B:Bt mg)(F:Fun K "_law_draw" "_law_draw" WS f fd)(nY:Df P w K mg base CX0 2 "_law_letters" ["_law_cell_here","_law_many"] [] wV)(lg:Df P w K mg base CX0 1 "_law_mixed" ["_law_cell_here","_law_turn"] [] w4):z8 P w K mg base CX0 3 f fd ["_law_cell_here"] Yo:=by
 refine F.ok nt (λvs H Q E h=>?_) (λcdv A outer s H vs Q E hr h=>?_)
 ·obtain⟨c,rfl,_⟩:=h
  rfl
 ·obtain⟨c,rfl,hc,q⟩:=h
  refine⟨_,(zi (zq (i:=1) nt.nd rfl (.inl rfl) (cl0 nY hr .nil rfl (za (pv 0) (za (zB op_add zf (zB xh (zB wl (pv 0) zf) zf)) ze))))
   (zi (zq (i:=2) nt.nd rfl (.inl rfl) (cl0 lg hr .nil rfl (za (pv 0) (za zf ze))))
   (zg (zt (zY (za (zB xh (pv 0) zf) (za (pv 1) (za (zO sl_list (vD (za (zB op_add zf (zB xh (pv 2) zf)) (za (zB op_add zf (zB xh (zB wl (pv 2) zf) zf)) (za (zB op_add zf (zB xh (zB wl (pv 2) zf) zf)) ze)))) ym (zV (zm zZ rfl B.len ax (za (pv 1) ze)))) ze)))))))),?_⟩
  have s16:=ya
  have s16:=ya
  refine zk (λσ H'=>H'=H/\∃l:List Nat,l.length<=3/\qI l=sK/\σ=[sI (.int c),sI (.str (tx l)),sJ]) ?_ ?_
  ·rfl'
   have e0:=bw (c / 3) (b:=2) (by decide)
   have e1:=bx (c / 3) (b:=2) (by decide)
   exact⟨⟨by decide,by decide⟩,by decide,Z8 hc (by lia) (by lia) λl h1 h2 h3=>⟨rfl,l,by lia,decide_eq_true ⟨by lia,by lia,h3,h2⟩,rfl⟩⟩
  rintro σ H1 ⟨rfl,l,l3,hg,rfl⟩
  refine zk (λσ H'=>H'=H1/\∃z:Int,σ=[sI (.int c),sI (.str (tx l)),sI (.int z)]) ?_ ?_
  ·rfl'
   exact vx hc (by decide) (by decide) λz _=>⟨rfl,z,rfl⟩
  rintro σ H2 ⟨rfl,z,rfl⟩
  rfl'
  refine⟨by decide,by decide,⟨by decide,by decide⟩,by decide,⟨by decide,by decide⟩,by decide,by lia,λp hp=>⟨by lia,_,SqL.of zc,λp1 hp1=>⟨by lia,λp2 hp2=>?_⟩⟩⟩
  have l1:=(of_decide_eq_true hg).1
  have e:QR [V.int (1+z % 3),V.int (1+z / 3 % 3),V.int (1+z / 9 % 3)] sJ (sI (l.length:Int))=([1+z % 3,1+z / 3 % 3,1+z / 9 % 3].take l.length).map V.int:=by
   rcases (show l.length=1\/l.length=2\/l.length=3 by lia) with h | h | h <;> rw[h] <;> rfl
  refine q (c % 3) l ([1+z % 3,1+z / 3 % 3,1+z / 9 % 3].take l.length) p2 p1 _ (bw _ (by decide)) (bx _ (by decide)) hg ?_ (λn hn=>?_) ((zd hp).trans ((zd hp1).trans (zd hp2))) zc ?_
  ·rw[az]
   show min l.length 3=l.length
   lia
  ·have hn':=bn hn
   have m:∀y:Int,0<=y % 3/\y % 3<3:=λy=>⟨bw _ (by decide),bx _ (by decide)⟩
   have m0:=m z
   have m1:=m (z / 3)
   have m2:=m (z / 9)
   simp only[dF,eJ,or_false] at hn'
   rcases hn' with rfl | rfl | rfl <;> lia
  ·rw[zd hp2 _ _ zc,e]
theorem VQ:∀ws:List (List Nat),Str.join (tx []) (ws.map tx)=tx ws.flatten
 | []=>rfl
 | [w]=>by
  show tx w=_
  simp
 | w::v::r=>by
  have ih:=VQ (v::r)
  show tx w ++ tx [] ++ Str.join (tx []) ((v::r).map tx)=_
  rw[ih,yC,yC]
  simp
theorem UK{ws:List (List Nat)}(h:ws.flatten.length<=100000):JoinOk (tx []) (ws.map tx)=sK:=by
 have s16:=ya
 have hf:∀(l:List (List Nat)) (n:Nat),(l.map tx).foldl (λa y=>a+y.length+0) n=n+l.flatten.length:=λl=>by
  induction l with
  | nil=>intro n;rfl
  | cons c r ih =>
   intro n
   rw[au,List.foldl_cons,ih,zD,dw,ak]
   lia
 have e:JoinOk (tx []) (ws.map tx)=!PySem.Builtin.Str.tooLong ((ws.map tx).foldl (λa y=>a+y.length+0) 0):=by
  unfold JoinOk
  rw[List.foldl_toArray]
  rfl
 rw[e,hf]
 unfold PySem.Builtin.Str.tooLong
 rw[eg,decide_eq_false_iff_not]
 lia
structure KXs(K:oN):Prop where
 ss:aQ K (.type "str") (.type "str")=sI sK
def Yq(K:oN):Sp:=λvs H Q _=>∃(a:oO) (es:List Ent),vs=[.ref a]/\Is K H (.lst (es.map dE)) (.ref a)/\Q (.bl sK) H
theorem ng:zp ["_law_found","_law_entry"] ["_law_found"] (zh qO):=by nofun
theorem X7(B:Bt mg)(T:TLs K)(TX:KXs K)(F:Fun K "_law_entries" "_law_entries" qO f fd)(oo:Df P w K mg base CX0 2 "_law_steps" ["_law_found"] [] (jY K)):z8 P w K mg base CX0 3 f fd ["_law_found"] (Yq K):=by
 refine F.ok ng (λvs H Q E h=>?_) (λcdv A outer s H vs Q E hr h=>?_)
 ·obtain⟨a,es,rfl,_⟩:=h
  rfl
 ·obtain⟨a,es,rfl,hA,q⟩:=h
  refine⟨_,(zi (zR (yd (yL (yO rfl B.isi (pv 0) rfl B.list PySem.Pv.boot_list) (λ_=>rfl)))
    (zg (zt yw))
    zA)
   (zi (yq PassesOwn.never rfl (yt (pv 0)) (zy (i:=1) ng.nd rfl (.inl rfl))
    (zi (zR (PW.pt (qS (yd (yL (yO rfl B.isi (pv 1) rfl B.tuple PySem.Pv.boot_tuple) (λ_=>rfl))) (qS (zG kM (zm zZ rfl B.len ax (za (pv 1) ze)) zf (zI _)) (uo (yd (yL (cl0 oo hr .nil rfl (za (zr ix_tup (pv 1) zf (λ_ _=>rfl)) ze)) (λ_=>rfl)))))))
     (zg (zt yw))
     zA)
    (zg (zR (PW.pt (qS (yd (yL (yO rfl B.isi (zr ix_tup (pv 1) zf (λ_ _=>rfl)) rfl B.str PySem.Pv.boot_str) (λ_=>rfl))) (uo (yd (yL (yO rfl B.isi (zr ix_tup (pv 1) zf (λ_ _=>rfl)) rfl B.str PySem.Pv.boot_str) (λ_=>rfl))))))
     (zg (zt yw))
     zA))))
   (zg (zt yw)))),?_⟩
  have s16:=ya
  simp only[Is] at hA
  obtain⟨_,xs,e,hX,hI⟩:=hA
  cases e
  refine zk (λσ H'=>H'=H/\σ=[sI (.ref a),sJ]) ?_ ?_
  ·rfl'
   exact⟨_,.inr (.inr (.inl ⟨_,_,rfl,rfl,hX⟩)),sK,T.ll,Uq trivial⟩
  rintro σ H1 ⟨rfl,rfl⟩
  refine zk (λσ H'=>H'=H1/\∃v1,σ=[sI (.ref a),v1]) ?_ ?_
  ·rfl'
   refine⟨⟨_,hX⟩,ForL.by (xs:=xs) (λi σ H'=>H'=H1/\∃v1,σ=[sI (.ref a),v1]) ⟨rfl,_,rfl⟩ (λi σ H' _ h=>by rw[h.1];exact hX) ?_ λσ H' h=>h⟩
   rintro i x σ H' hx ⟨rfl,v1,rfl⟩
   obtain⟨e,pe,se,hei,rfl,hqe,hse⟩:=Xj hI hx
   simp only[xg,bv,bu]
   refine zk (λσ H''=>H''=H'/\σ=[sI (.ref a),sI (.ref pe)]) ?_ ?_
   ·rfl'
    exact⟨_,.inr (.inr (.inr ⟨_,_,rfl,rfl,hqe⟩)),sK,T.tt,Uq ⟨_,.inr ⟨_,hqe,rfl⟩,yT (λh=>absurd rfl h) λ_=>⟨_,hqe,_,rfl,se,e.2.2,rfl,hse,sK,rfl,Uq rfl⟩⟩⟩
   rintro σ G ⟨rfl,rfl⟩
   rfl'
   exact⟨_,hqe,_,rfl,_,.inl (.str _),sK,TX.ss,Uq ⟨_,hqe,_,rfl,_,.inl (.str _),sK,TX.ss,Uq trivial⟩⟩
  rintro σ H2 ⟨rfl,v1,rfl⟩
  rfl'
  exact q
def vI:Sp:=λvs H Q _=>∃(k:Int) (l:List Nat) (W:oO) (ws:List Int) (w:List Nat),vs=[.int k,.str (tx l),.ref W,.str (tx w)]/\0<=k/\k<3/\qI l=sK/\H W=sI (.lst (ws.map V.int))/\ws.length=l.length/\(∀n ∈ ws,1<=n/\n<=1000000)/\w.length<=1000/\(∀x ∈ w,x ∈ l)/\∀(p q:oO) (H':Hp),Same H H'->H' p=sI (.tup [.int (zl k.toNat l ws w),.ref q])->H' q=sI (.lst ((xD k.toNat l w).map V.int))->Q (.ref p) H'
theorem k7{k:Int}{l:List Nat}{W:oO}{w:List Nat}(k0:0<=k)(k3:k<3)(hg:qI l=sK)(hD:H W=sI (.lst (ws.map V.int)))(hwl:ws.length=l.length)(hwb:∀n ∈ ws,1<=n/\n<=1000000)(hw:w.length<=1000)(hm:∀x ∈ w,x ∈ l)(q:∀(p q:oO) (H':Hp),Same H H'->H' p=sI (.tup [.int (zl k.toNat l ws w),.ref q])->H' q=sI (.lst ((xD k.toNat l w).map V.int))->Q (.ref p) H'):vI [.int k,.str (tx l),.ref W,.str (tx w)] H Q E:=⟨k,l,W,ws,w,rfl,k0,k3,hg,hD,hwl,hwb,hw,hm,q⟩
theorem lK:zp ["_law_kind","_law_letters_here","_law_weights","_law_word_here","_law_seen","_law_weight"] ["_law_kind","_law_letters_here","_law_weights","_law_word_here"] (zh jr):=by nofun
theorem Js(B:Bt mg)(F:Fun K "_law_rank" "_law_rank" jr f fd) : z8 P w K mg base CX0 1 f fd ["_law_kind","_law_letters_here","_law_weights","_law_word_here"] vI:=by
 refine F.ok lK (λvs H Q E h=>?_) (λcdv A outer s H vs Q E hr h=>?_)
 ·obtain⟨k,l,W,ws,w,rfl,_⟩:=h
  rfl
 ·obtain⟨k,l,W,ws,w,rfl,k0,k3,hg,hW,hwl,hwb,hw,hm,q⟩:=h
  refine⟨_,(zi (zq (i:=4) lK.nd rfl (.inl rfl) (pv 3))
   (zi (zq (i:=5) lK.nd rfl (.inl rfl) (zm zZ rfl B.len ax (za (pv 3) ze)))
   (zi (zR (zG uG (pv 0) zf (zI _))
    (zg (zq (i:=4) lK.nd rfl (.inl rfl) (uH bz PySem.F.slot_str_join PySem.F.type_str_join zbe xf (za (yu (own:=["_law_k"]) (caps:=["_law_word_here"]) (ix:=[3]) (tt:=xL) (te:=(tOp (rIx K) (yo 1) (tOp (rI0 λi j=>.int (i - j)) (tOp (rI0 λi j=>.int (i - j)) (tCB (JR K) (zJ (yo 1) xS)) (tC (.int 1))) (yo 0)))) rfl (zL (sc:=zh jr) rfl (by symm) (by symm) (by symm) rfl (by symm) (by symm) rfl) (yR rfl B.range (za (zm zZ rfl B.len ax (za (pv 3) ze)) ze)) (λ_ _ _ _ _ _=>zy (i:=0) (show List.Nodup [_,_] by decide) rfl (.inl rfl)) (λ_ _ _ _ _ _=>yg) (λ_ _ _ _ _ _=>(zr WU (pv 1) (zB uA (zB uA (zm zZ rfl B.len ax (za (pv 1) ze)) zf) (pv 0)) (λ_ _=>rfl)))) ze))))
    zA)
   (zi (zR (zG uG (pv 0) zf (zI _))
    (zg (zq (i:=5) lK.nd rfl (.inl rfl) (zm (zaT rfl) rfl B.sum eZ (za (yu (own:=["_law_sign"]) (caps:=["_law_weights","_law_letters_here"]) (ix:=[2,1]) (tt:=xL) (te:=(tOp (rIx K) (yo 1) (tBM K "str" Qz (yo 2) (zJ (yo 0) xS)))) rfl (zL (sc:=zh jr) rfl (by symm) (by symm) (by symm) rfl (by symm) (by symm) rfl) (kN (pv 3)) (λ_ _ _ _ _ _=>zy (i:=0) (show List.Nodup [_,_,_] by decide) rfl (.inl rfl)) (λ_ _ _ _ _ _=>yg) (λ_ _ _ _ _ _=>(zr WU (pv 1) (uH bz cT cU QU (pv 2) (za (pv 0) ze)) (λ_ _=>rfl)))) ze))))
    zA)
   (zg (zt (zY (za (pv 5) (za (yu (own:=["_law_sign"]) (caps:=["_law_letters_here"]) (ix:=[1]) (tt:=xL) (te:=(tBM K "str" Qz (yo 1) (zJ (yo 0) xS))) rfl (zL (sc:=zh jr) rfl (by symm) (by symm) (by symm) rfl (by symm) (by symm) rfl) (kN (pv 4)) (λ_ _ _ _ _ _=>zy (i:=0) (show List.Nodup [_,_] by decide) rfl (.inl rfl)) (λ_ _ _ _ _ _=>yg) (λ_ _ _ _ _ _=>(uH bz cT cU QU (pv 1) (za (pv 0) ze)))) ze))))))))),?_⟩
  have s16:=ya
  have s16:=ya
  obtain⟨l1,l6,lsm,lnd⟩:=of_decide_eq_true hg
  refine zk (λσ H'=>H'=H/\σ=[sI (.int k),sI (.str (tx l)),sI (.ref W),sI (.str (tx w)),sI (.str (tx w)),sJ]) ?_ ?_
  ·rfl'
  rintro σ H1 ⟨rfl,rfl⟩
  refine zk (λσ H'=>H'=H1/\σ=[sI (.int k),sI (.str (tx l)),sI (.ref W),sI (.str (tx w)),sI (.str (tx w)),sI (.int (w.length:Nat))]) ?_ ?_
  ·rfl'
   lia
  rintro σ H2 ⟨rfl,rfl⟩
  refine zk (λσ H'=>Same H2 H'/\σ=[sI (.int k),sI (.str (tx l)),sI (.ref W),sI (.str (tx w)),sI (.str (tx (yh k.toNat w))),sI (.int (w.length:Nat))]) ?_ ?_
  ·rfl'
   refine yT (λhk=>⟨by lia,by lia,by lia,λD hD=>CompR.by (λi sP H'=>Same H2 H'/\H' D=sI (.lst sP)/\sP=(((w.reverse.take i).map λc=>[c]).map tx).map V.str) ⟨zd hD,zc,rfl⟩ ?_ ?_⟩) λhk=>?_
   ·rintro i sP H' hi ⟨hs,hH,rfl⟩
    rw[aH] at hi
    have hr:w.reverse[i]? = sI (w[w.length - 1 - i]'(by lia)):=by
     rw[bg hi,aj (by lia)]
    have ha:atI w ((w.length:Int) - 1 - (0+(i:Int)))=sI (w[w.length - 1 - i]'(by lia)):=by
     rw[show (w.length:Int) - 1 - (0+(i:Int))=((w.length - 1 - i:Nat):Int) by lia]
     exact vn (aj (by lia))
    simp only[xL]
    rfl'
    refine⟨yF,by lia,by lia,_,ha,hH,by simp only[ae,az,cr];lia,CNx.mk (by rw[aH];exact hi) ⟨zE hs hD,zc,?_⟩⟩
    rw[zQ hr,ay,ay,ay]
    rfl
   ·rintro sP H' ⟨hs,hH,rfl⟩
    rw[aH,<- cr,aK] at hH
    have hfl:(w.reverse.map λc=>[c]).flatten=w.reverse:=by
     induction w.reverse with
     | nil=>rfl
     | cons a r ih=>rw[au,dw,ih];rfl
    refine⟨tx [],D,(w.reverse.map λc=>[c]).map tx,rfl,rfl,SqL.of hH,UK (by rw[hfl,cr];lia),?_⟩
    have e:Txt.join (tx []) ((w.reverse.map λc=>[c]).map tx)=Str.join (tx []) ((w.reverse.map λc=>[c]).map tx):=StrLaws.glued_eq_join _ _
    rw[e,VQ,hfl]
    refine⟨hs,?_⟩
    rw[hk]
    rfl
   ·refine⟨Same.refl _,?_⟩
    unfold yh
    rw[if_neg (by lia)]
  rintro σ H3 ⟨s3,rfl⟩
  have hW3:=s3 _ _ hW
  refine zk (λσ H'=>Same H3 H'/\σ=[sI (.int k),sI (.str (tx l)),sI (.ref W),sI (.str (tx w)),sI (.str (tx (yh k.toNat w))),sI (.int (zl k.toNat l ws w))]) ?_ ?_
  ·rfl'
   refine yT (λhk=>λD hD=>CompS.by (λi sP H'=>Same H3 H'/\H' D=sI (.lst sP)/\sP=((w.take i).map λc=>ws.getD (l.idxOf c) 0).map V.int) ⟨zd hD,zc,rfl⟩ ?_ ?_) λhk=>?_
   ·rintro i c sP H' hc ⟨hs,hH,rfl⟩
    have hci:=(sQ.mp hc).1
    have hcl:=hm c (ac hc)
    have hlt:=bG hcl
    have ea:atI (ws.map V.int) ((l.idxOf c:Nat):Int)=sI (.int (ws.getD (l.idxOf c) 0)):=by
     refine vn ?_
     rw[aG,af,aj (by lia)]
     rfl
    simp only[xL]
    rfl'
    refine⟨yF,.inl ⟨_,SqL.of (hs _ _ hW3),_,by rw[Uc hcl];exact ea,hH,by simp only[ae,az];lia,CNx.mk hci ⟨zE hs hD,zc,?_⟩⟩⟩
    rw[zQ hc,ay,ay]
    rfl
   ·rintro sP H' ⟨hs,hH,rfl⟩
    rw[aK] at hH
    refine⟨D,_,rfl,SqL.of hH,hs,congrArg V.int ?_⟩
    have e2:=kh (ls:=l) (ns:=ws) lnd hwl (w:=w) hm
    unfold U8 at e2
    unfold zl
    rw[if_pos (by lia),<- e2]
    rfl
   ·refine⟨Same.refl _,?_⟩
    unfold zl
    rw[if_neg (by lia)]
  rintro σ H4 ⟨s4,rfl⟩
  rfl'
  intro D hD
  have hsm:∀c ∈ yh k.toNat w,c ∈ l:=λc hc=>by
   unfold yh at hc
   split at hc
   ·exact hm c (tm.mp hc)
   ·exact hm c hc
  have hsl:(yh k.toNat w).length<=1000:=by
   unfold yh
   split
   ·rw[cr];exact hw
   ·exact hw
  refine CompS.by (λi sP H'=>Same H4 H'/\H' D=sI (.lst sP)/\sP=(ut l ((yh k.toNat w).take i)).map V.int) ⟨zd hD,zc,rfl⟩ ?_ ?_
  ·rintro i c sP H' hc ⟨hs,hH,rfl⟩
   have hci:=(sQ.mp hc).1
   have hcl:=hsm c (ac hc)
   simp only[xL]
   rfl'
   rw[Uc hcl]
   refine⟨yF,hH,by rw[ae];unfold ut;rw[ae,az];lia,CNx.mk hci ⟨zE hs hD,zc,?_⟩⟩
   unfold ut
   rw[zQ hc,ay,ay]
   rfl
  ·rintro sP H' ⟨hs,hH,rfl⟩
   rw[aK] at hH
   exact⟨by lia,λp hp=>q p D _ (s3.trans (s4.trans (hs.trans (zd hp)))) zc (zd hp _ _ hH)⟩
theorem ThinL.pairs{l:List Nat}{zs bs:List Ent}(h:ThinL k l ns zs)(hp:zb bs=zb zs)(hE:∀e ∈ bs,EB l e):ThinL k l ns bs:=by
 have key:∀(i:Nat) (a:Ent),bs[i]? = sI a->∃z,zs[i]? = sI z/\z.1=a.1/\z.2.1=a.2.1:=λi a ha=>by
  have h1:(zb bs)[i]? = sI (a.1,a.2.1):=by unfold zb;rw[aG,ha];rfl
  rw[hp] at h1
  unfold zb at h1
  rw[aG] at h1
  obtain⟨z,hz,e⟩:=tj.mp h1
  exact⟨z,hz,(Prod.ext_iff.mp e).1,(Prod.ext_iff.mp e).2⟩
 refine⟨⟨hE,λe he=>?_⟩,λi j a b ha hb hij=>?_,λi j a b ha hb hij=>?_,λi j a b ha hb=>?_⟩
 ·obtain⟨i,hi⟩:=tu.mp he
  obtain⟨z,hz,e1,e2⟩:=key i e hi
  rw[<- e1,<- e2]
  exact h.rl.lt z (ac hz)
 all_goals
  obtain⟨x,hx,e1,e2⟩:=key i a ha
  obtain⟨y,hy,f1,f2⟩:=key j b hb
  rw[<- f1]
 ·rw[<- e1]
  exact h.up i j x y hx hy hij
 ·rw[<- e1]
  exact h.no1 i j x y hx hy hij
 ·rw[<- e2]
  exact h.no2 i j x y hx hy
theorem QC{l:List Nat}{u v:List Nat}{p p' r r':oO}(hp:H p=sI (.tup [.int (zl k l ws u),.ref p']))(hp':H p'=sI (.lst ((xD k l u).map V.int)))(hr:H r=sI (.tup [.int (zl k l ws v),.ref r']))(hr':H r'=sI (.lst ((xD k l v).map V.int)))(q:Q (.bl (zK k l ws u v)) H):zbD K (.ref p) (.ref r) H Q:=by
 refine VS (vR hp hp') (vR hr hr') (by simp only[dpD,vM,kd];decide) (by simp only[okD,jj];exact⟨trivial,vK _ _,trivial⟩) ?_
 rw[Ya]
 exact q
abbrev zcL(mg:oV->Option oP):Prop:=mg "any" = sJ
def RkAt(H:Hp)(R:oO)(k:Nat)(l:List Nat)(ws:List Int)(u:List Nat):Prop:=∃R':oO,H R=sI (.tup [.int (zl k l ws u),.ref R'])/\H R'=sI (.lst ((xD k l u).map V.int))
theorem RkAt.same{H H':Hp}{R:oO}{l:List Nat}{u:List Nat}(h:RkAt H R k l ws u)(s:Same H H'):RkAt H' R k l ws u:=let ⟨R',a,b⟩:=h; ⟨R',s _ _ a,s _ _ b⟩
theorem RkAt.lt{R R2:oO}{l:List Nat}{u v:List Nat}(h:RkAt H R k l ws u)(h2:RkAt H R2 k l ws v)(q:Q (.bl (zK k l ws u v)) H):zbD K (.ref R) (.ref R2) H Q:=by
 obtain⟨R',a,b⟩:=h
 obtain⟨R2',a2,b2⟩:=h2
 exact QC a b a2 b2 q
structure TNT(K:oN)(mg:oV->Option oP)(C:oO):Prop where
 xi:XI K C
 g:mg "NotTurned" = sI (.ref C)
 na:NoAttr K C "number"
theorem vX:zp ["self","number"] ["self","number"] (zh zX):=by nofun
theorem vT{f C:oO}(T:TNT K mg C)(F:Fun K "__init__" "NotTurned.__init__" zX f fd):z8 P w K mg base CX0 1 f fd ["self","number"] (vz C "number"):=by
 refine F.ok vX (λvs H Q E h=>?_) (λcdv A outer s H vs Q E hr h=>?_)
 ·obtain⟨x,v,rfl,_⟩:=h
  rfl
 ·obtain⟨x,v,rfl,hx,q⟩:=h
  refine⟨_,(zg (VX (pv 0) (pv 1) rfl)),?_⟩
  simp only[JO]
  rfl'
  exact⟨C,hx,T.xi.toXC,T.na,q⟩
structure DNT(P:oU)(w:oW)(K:oN)(mg:oV->Option oP)(base:oZ)(C:oO):Prop extends TNT K mg C where
 ini:∃f fd,ah K (.ref C) "__init__" = sI (sI (.ref f))/\bc K (.ref f)=sK/\z8 P w K mg base CX0 1 f fd ["self","number"] (vz C "number")/\Binds K fd ["self","number"] []
structure K7(K:oN)(mg:oV->Option oP)(CH:oO):Prop where
 cl:Cls K CH
 g:mg "System" = sI (.ref CH)
 no:NoAttr K CH "order"
 nr:NoAttr K CH "rules"
noncomputable def yX(k:Nat)(l:List Nat)(ns:List Int):List zw->Nat->Option Nat
 | [],_=>sJ
 | r::rs,i=>if zK k l ns r.2 r.1=sK then yX k l ns rs (i+1) else sI i
theorem jQ{l:List Nat}:∀{ps:List zw} {j i:Nat} {r:zw},(∀(m:Nat) (p:zw),m<i->ps[m]? = sI p->zK k l ns p.2 p.1=sK)->ps[i]? = sI r->zK k l ns r.2 r.1=sL->yX k l ns ps j=sI (j+i)
 | [],_,_,_,_,h,_=>by simp at h
 | p::ps,j,0,r,_,h,hl=>by
  cases h
  rw[yX,hl,if_neg aC]
  rfl
 | p::ps,j,i+1,r,hb,h,hl=>by
  rw[yX,if_pos (hb 0 p (Nat.succ_pos _) rfl),jQ (i:=i) (λm q hm e=>hb (m+1) q (by lia) e) h hl]
  congr 1
  lia
theorem wZ{l:List Nat}:∀{ps:List zw} {j:Nat},(∀(m:Nat) (p:zw),ps[m]? = sI p->zK k l ns p.2 p.1=sK)->yX k l ns ps j=sJ
 | [],_,_=>rfl
 | p::ps,j,hb=>by
  rw[yX,if_pos (hb 0 p rfl)]
  exact wZ λm q e=>hb (m+1) q e
def InL(l:List Nat)(ps:List zw):Prop:=∀p ∈ ps,p.1.length<=1000/\p.2.length<=1000/\(∀c ∈ p.1,c ∈ l)/\∀c ∈ p.2,c ∈ l
def qb(K:oN)(CO CR CW CT CH:oO):Sp:=λvs H Q E=>∃(x dx o a:oO) (k:Nat) (l:List Nat) (ns:List Int) (ps:List zw) (xs:List V),vs=[.ref x,.ref o,.ref a]/\H x=sI (.ins CH dx [])/\OrdAt CO CR CW H o k l ns/\OG l ns k/\H a=sI (.lst xs)/\Iss K H (ps.map dR) xs/\InL l ps /\
 (∀i,yX k l ns ps 0=sI i->∀H1,Same H H1->∀d H',zaX H1 d "number" (.int (i:Nat)) H'->E (.ref CT) (sI d) H') /\
 (yX k l ns ps 0=sJ->∀(q:oO) (H':Hp),(∀b o',b≠x->H b=sI o'->H' b=sI o')->H' x=sI (.ins CH dx [("order",.ref o),("rules",.ref q)])->H' q=sI (.lst xs)->H q=sJ->Q .non H')
theorem iH:zp ["self","order","rules","number","rule"] ["self","order","rules"] (zh xW):=by nofun
theorem jl{f CO CR CW CT CH:oO}(B:Bt mg)(T:DNT P w K mg base CT)(TS:K7 K mg CH)(DBk:DB P w K mg base CO CR CW)(F:Fun K "__init__" "System.__init__" xW f fd) : z8 P w K mg base (CXx P w) 5 f fd ["self","order","rules"] (qb K CO CR CW CT CH):=by
 obtain⟨fi,fdi,hi,hfn,Fi,Bi⟩:=T.ini
 refine Fun.okX F iH (λvs H Q E h=>?_) (λcdv A outer s H vs Q E hr hx h=>?_)
 ·obtain⟨x,dx,o,a,k,l,ns,ps,xs,rfl,_⟩:=h
  rfl
 ·obtain⟨x,dx,o,a,k,l,ns,ps,xs,rfl,hx0,ho,hG,hA,hI,hP,q1,q2⟩:=h
  refine⟨_,(zi (yq PassesOwn.leaving rfl (xA rfl B.enum (za (pv 2) ze)) (vd (n:=2) rfl (zN (zy (i:=3) iH.nd rfl (.inl rfl)) (zN (zy (i:=4) iH.nd rfl (.inl rfl)) xJ)))
    (zg (zR (yd (yL (K8 DBk hr (pv 1) (za (zr ix_tup (pv 4) zf (λ_ _=>rfl)) (za (zr ix_tup (pv 4) zf (λ_ _=>rfl)) ze))) (λ_=>rfl)))
     (zg (kT hx rfl T.xi.toXC hi hfn Fi (hr.mono (by decide)) Bi rfl T.g (za (pv 3) ze)))
     zA)))
   (zi (Xk (pv 0) (pv 1) rfl)
   (zg (Xk (pv 0) (xN yP rfl B.list PySem.Pv.boot_list (za (pv 2) ze)) rfl)))),?_⟩
  have s16:=ya
  refine zk (λσ H'=>Same H H'/\yX k l ns ps 0=sJ/\∃v3 v4,σ=[sI (.ref x),sI (.ref o),sI (.ref a),v3,v4]) ?_ ?_
  ·ac_rfl
   refine⟨⟨_,SqL.of hA⟩,ForEL.by (xs:=xs) (λi σ H'=>Same H H'/\(∀(j:Nat) (p:zw),j<i->ps[j]? = sI p->zK k l ns p.2 p.1=sK)/\∃v3 v4,σ=[sI (.ref x),sI (.ref o),sI (.ref a),v3,v4]) ⟨Same.refl _,λj p h=>absurd h (cz j),_,_,rfl⟩ ?_ ?_ ?_⟩
   ·rintro i σ H' _ ⟨hs,_⟩
    exact SqL.of (hs _ _ hA)
   ·rintro i y σ H' p hy ⟨hs,hb,v3,v4,rfl⟩ hpn
    obtain⟨r,pr,hri,rfl,hqr⟩:=hI.getR hy
    have hm:=hP r (ac hri)
    have s2:=hs.trans (zd (o:=.tup [.int (i:Nat),.ref pr]) hpn)
    have ho2:=ho.same s2
    have hq2:=zj s2 hqr
    obtain⟨C,dy,fs,hf,hoC,hn,_⟩:=ho2.fam
    have hn1:fs.lookup ("before" : oV)=sJ:=hn _ (by decide) (by decide)
    ac_rfl
    refine⟨_,SqT.of zc,rfl,_,_,rfl,_,_,rfl,rfl,C,hf,dy,fs,hoC,hn1,_,rfl,_,hq2,_,rfl,_,rfl,_,hq2,_,rfl,o,k,l,ns,r.2,r.1,rfl,ho2,hG,hm.2.1,hm.1,hm.2.2.2,hm.2.2.1,λH3 s3=>?_⟩
    have s16:=ya
    refine⟨_,rfl,yT (λe=>⟨by lia,Ul (q1 i (by have:=jQ (j:=0) hb hri e;simpa using this) H3 (s2.trans s3))⟩) λe=>⟨s2.trans s3,λj p' hj hp'=>?_⟩⟩
    by_cases hj':j<i
    ·exact hb j p' hj' hp'
    ·have:j=i:=by lia
     rw[this,hri] at hp'
     cases hp'
     simpa using e
   ·rintro σ H' ⟨hs,hb,v3,v4,rfl⟩
    have hxl:=hI.len
    rw[ae] at hxl
    exact⟨hs,wZ λm p e=>hb m p (by have:=(sQ.mp e).1;lia) e,v3,v4,rfl⟩
  rintro σ H1 ⟨s1,hf,v3,v4,rfl⟩
  refine zk (λσ H'=>H'=upd H1 x (.ins CH dx [("order",.ref o)])/\σ=[sI (.ref x),sI (.ref o),sI (.ref a),v3,v4]) ?_ ?_
  ·ac_rfl
   exact⟨_,_,_,s1 _ _ hx0,TS.cl,TS.no,by decide,rfl⟩
  rintro σ H2 ⟨rfl,rfl⟩
  ac_rfl
  have hax:a≠x:=λe=>by rw[e,hx0] at hA;cases hA
  refine⟨xs,.inl (SqL.of (by rw[zo hax];exact s1 _ _ hA)),λq hq=>?_⟩
  have hqx:q≠x:=λe=>by rw[e,zc] at hq;cases hq
  rw[zo hqx] at hq
  have hqH:H q=sJ:=by
   cases e:H q with
   | none=>rfl
   | some o'=>rw[s1 _ _ e] at hq;cases hq
  refine⟨CH,dx,_,by rw[zo hqx.symm,zc],TS.cl,TS.nr,by show 1<1000;decide,q2 hf q _ (λb o' hb e=>?_) zc (by rw[zo hqx,zc]) hqH⟩
  rw[zo hb,zo (λz=>by rw[z,hqH] at e;cases e),zo hb]
  exact s1 _ _ e
def QD(K:oN)(CH:oO)(H:Hp)(y o q:oO)(ps:List zw):Prop:=∃dx xs,H y=sI (.ins CH dx [("order",.ref o),("rules",.ref q)])/\H q=sI (.lst xs)/\Iss K H (ps.map dR) xs
noncomputable def yJ(l m:List Nat)(k:Nat):Bool:=decide ((l.drop k).take m.length=m.take (l.length - k))
noncomputable def lf(rs:List zw)(i:Nat):List Nat:=(rs.getD i ([],[])).1
theorem wo{i:Nat}{r:zw}(h:rs[i]? = sI r):lf rs i=r.1:=by unfold lf;rw[af,h];rfl
noncomputable def Zz(rs:List zw)(i j n:Nat):List N3:=((aW n).filter λk=>(decide (i≠j) || decide (k≠0)) && yJ (lf rs i) (lf rs j) k).map λk=>(i,j,k)
noncomputable def ovI(rs:List zw)(i m:Nat):List N3:=(aW m).flatMap λj=>Zz rs i j (lf rs i).length
noncomputable def ovA(rs:List zw)(m:Nat):List N3:=(aW m).flatMap λi=>ovI rs i rs.length
theorem qL(rs:List zw)(i j n:Nat):Zz rs i j (n+1)=Zz rs i j n ++ (if ((decide (i≠j) || decide (n≠0)) && yJ (lf rs i) (lf rs j) n)=sK then [(i,j,n)] else []):=by
 unfold Zz
 rw[cM,cN,ay]
 congr 1
 simp only[eK,di]
 split <;> rfl
theorem u7(rs:List zw)(i m:Nat):ovI rs i (m+1)=ovI rs i m ++ Zz rs i m (lf rs i).length:=by
 unfold ovI
 rw[cM,de]
 simp
theorem kr(rs:List zw)(m:Nat):ovA rs (m+1)=ovA rs m ++ ovI rs m rs.length:=by
 unfold ovA
 rw[cM,de]
 simp
theorem uJ(rs:List zw)(i j n:Nat):(Zz rs i j n).length<=n:=by
 unfold Zz
 rw[ae]
 have:=cS (λk=>(decide (i≠j) || decide (k≠0)) && yJ (lf rs i) (lf rs j) k) (aW n)
 rw[dz] at this
 exact this
theorem zba(h:Wa rs)(i:Nat):(lf rs i).length<=100:=by
 cases e:rs[i]? with
 | none=>unfold lf;rw[af,e];exact aI _
 | some r=>rw[wo e];exact (h.2 r (ac e)).1
theorem Ym(h:Wa rs)(i m:Nat):(ovI rs i m).length<=m * 100:=by
 induction m with
 | zero=>exact aI _
 | succ m ih =>
  rw[u7,ak]
  have h1:=uJ rs i m (lf rs i).length
  have h2:=zba h i
  lia
theorem WY(h:Wa rs)(m:Nat):(ovA rs m).length<=m * 3000:=by
 induction m with
 | zero=>exact aI _
 | succ m ih =>
  rw[kr,ak]
  have h1:=Ym h m rs.length
  have h2:=h.1
  lia
theorem Xw(l m:List Nat)(k:Nat):yJ l m k=sK ↔ ∀j,j<m.length->k+j<l.length->l[k+j]? = m[j]?:=by
 unfold yJ
 rw[decide_eq_true_eq]
 constructor
 ·intro h j hj hk
  have h1:((l.drop k).take m.length)[j]? = (m.take (l.length - k))[j]?:=by rw[h]
  rw[bo hj,fB,bo (by lia)] at h1
  exact h1
 ·intro h
  refine List.ext_getElem? λj=>?_
  by_cases hj:j<m.length
  ·rw[bo hj,fB]
   by_cases hk:k+j<l.length
   ·rw[bo (by lia)]
    exact h j hj hk
   ·rw[bC (by lia),bC (by rw[az];lia)]
  ·rw[bC (by rw[az];lia),bC (by rw[az];lia)]
def qd:Sp:=λvs H Q _=>∃(l m:List Nat) (k:Nat),vs=[.str (tx l),.str (tx m),.int (k:Nat)]/\l.length<=1000/\m.length<=1000/\k<=l.length/\Q (.bl (yJ l m k)) H
theorem Zl{l m:List Nat}(h1:l.length<=1000)(h2:m.length<=1000)(h3:k<=l.length)(h:Q (.bl (yJ l m k)) H):qd [.str (tx l),.str (tx m),.int (k:Nat)] H Q E:=⟨l,m,k,rfl,h1,h2,h3,h⟩
theorem QE:zp ["one","other","place"] ["one","other","place"] (zh Yg):=by nofun
theorem Qp(B:Bt mg)(F:Fun K "agree" "agree" Yg f fd) : z8 P w K mg base CX0 1 f fd ["one","other","place"] qd:=by
 refine F.ok QE (λvs H Q E h=>?_) (λcdv A outer s H vs Q E hr h=>?_)
 ·obtain⟨l,m,k,rfl,_⟩:=h
  rfl
 ·obtain⟨l,m,k,rfl,hl,hm,hk,q⟩:=h
  refine⟨_,(zg (zt (wz uG (zO yZ (pv 0) (zV (pv 2)) (zV (zB op_add (pv 2) (zm zZ rfl B.len ax (za (pv 1) ze))))) (zO yZ (pv 1) ym (zV (zB uA (zm zZ rfl B.len ax (za (pv 0) ze)) (pv 2)))) (zI _)))),?_⟩
  have s16:=ya
  rfl'
  refine⟨by lia,by lia,by lia,by lia,?_⟩
  rw[Q8 _ (by lia) (by lia),uk _ (by lia)]
  have e1:((k:Int)+(m.length:Int) - (k:Int)).toNat=m.length:=by lia
  have e2:((l.length:Int) - (k:Int)).toNat=l.length - k:=by lia
  rw[e1,e2]
  exact q
def wb(K:oN):Sp:=λvs H Q _=>∃(a:oO) (rs:List zw),vs=[.ref a]/\Is K H (.lst (rs.map dR)) (.ref a)/\Wa rs/\∀D H',H D=sJ->Same H H'->LsA K H' D ((ovA rs rs.length).map d3)->Q (.ref D) H'
theorem Zy(h1:Is K H (.lst (rs.map dR)) (.ref a))(h2:Wa rs)(h:∀D H',H D=sJ->Same H H'->LsA K H' D ((ovA rs rs.length).map d3)->Q (.ref D) H'):wb K [.ref a] H Q E:=⟨a,rs,rfl,h1,h2,h⟩
theorem gr:zp ["rules","found","i","one","j","other","place"] ["rules"] (zh ui):=by nofun
theorem Z0(B:Bt mg)(F:Fun K "overlaps" "overlaps" ui f fd)(oq:Df P w K mg base CX0 1 "agree" ["one","other","place"] [] qd):z8 P w K mg base CX0 2 f fd ["rules"] (wb K):=by
 refine F.ok gr (λvs H Q E h=>?_) (λcdv A outer s H vs Q E hr h=>?_)
 ·obtain⟨a,rs,rfl,_⟩:=h
  rfl
 ·obtain⟨a,rs,rfl,hR,ok,q⟩:=h
  refine⟨_,(zM (zq (i:=1) gr.nd rfl (.inl rfl) (vD ze))
   (zM (yq PassesOwn.never rfl (xA rfl B.enum (za (pv 0) ze)) (vd (n:=2) rfl (zN (zy (i:=2) gr.nd rfl (.inl rfl)) (zN (zy (i:=3) gr.nd rfl (.inl rfl)) xJ)))
    (zg (yq PassesOwn.never rfl (xA rfl B.enum (za (pv 0) ze)) (vd (n:=2) rfl (zN (zy (i:=4) gr.nd rfl (.inl rfl)) (zN (zy (i:=5) gr.nd rfl (.inl rfl)) xJ)))
     (zg (yq PassesOwn.never rfl (Vw rfl B.range (za (kg (zG uG (pv 2) (pv 4) (zI _)) zf zf) (za (zm zZ rfl B.len ax (za (zr ix_tup (pv 3) zf (λ_ _=>rfl)) ze)) ze))) (zy (i:=6) gr.nd rfl (.inl rfl))
      (zg (zR (yL (cl0 oq hr .nil rfl (za (zr ix_tup (pv 3) zf (λ_ _=>rfl)) (za (zr ix_tup (pv 5) zf (λ_ _=>rfl)) (za (pv 6) ze)))) (λ_=>rfl))
       (zg (vW (uH cG dn dq wH (pv 1) (za (zY (za (pv 2) (za (pv 4) (za (pv 6) ze)))) ze))))
       zA)))))))
   (zg (zt (pv 1))))),?_⟩
  have s16:=ya
  rfl'
  simp only[Is] at hR
  obtain⟨_,xs,e,hX,hI⟩:=hR
  cases e
  refine⟨by lia,λD hD=>⟨⟨_,(zd hD).seq hX⟩,ForEL.by (xs:=xs) (λi σ H'=>∃v2 v3 v4 v5 v6,σ=[sI (.ref a),sI (.ref D),v2,v3,v4,v5,v6]/\Same H H'/\LsA K H' D ((ovA rs i).map d3)) ⟨sJ,sJ,sJ,sJ,sJ,rfl,zd hD,LsA.nil⟩ ?_ ?_ ?_⟩⟩
  ·rintro i σ H' hi ⟨v2,v3,v4,v5,v6,rfl,hs,_⟩
   exact hs.seq hX
  ·rintro i x σ H' p hx ⟨v2,v3,v4,v5,v6,rfl,hs,hL⟩ hp
   obtain⟨r,pr,hri,rfl,hqr⟩:=hI.getR hx
   have er:=wo hri
   have hr1:=(ok.2 r (ac hri)).1
   rfl'
   refine⟨_,SqT.of zc,rfl,_,_,rfl,_,_,rfl,rfl,⟨_,((hs.trans (zd hp)).seq hX)⟩,ForEL.by (xs:=xs) (λj σ H''=>∃v4 v5 v6,σ=[sI (.ref a),sI (.ref D),sI (.int (i:Nat)),sI (.ref pr),v4,v5,v6]/\Same H H''/\LsA K H'' D ((ovA rs i ++ ovI rs i j).map d3)) ⟨v4,v5,v6,rfl,hs.trans (zd hp),by rw[show ovI rs i 0=[] from rfl,aT];exact hL.same (zd hp)⟩ ?_ ?_ ?_⟩
   ·rintro j σ H2 hj ⟨v4,v5,v6,rfl,hs2,_⟩
    exact hs2.seq hX
   ·rintro j y σ H2 p2 hy ⟨v4,v5,v6,rfl,hs2,hL2⟩ hp2
    obtain⟨r2,pr2,hri2,rfl,hqr2⟩:=hI.getR hy
    have er2:=wo hri2
    have hr2:=(ok.2 r2 (ac hri2)).1
    have hs3:=hs2.trans (zd (o:=.tup [.int (j:Nat),.ref pr2]) hp2)
    have hq1:=zj hs3 hqr
    have el:(tx r.1).length=r.1.length:=zD _
    rfl'
    refine⟨_,SqT.of zc,rfl,_,_,rfl,_,_,rfl,rfl,rfl,yT (λh=>?_) λh=>?_⟩
    ·have hij:i=j:=by injection h with h;lia
     have z0:Zz rs i j (1+0)=[]:=by
      subst hij
      rw[show 1+0=0+1 from rfl,qL]
      simp [Zz]
     have zn:Zz rs i j (1+((r.1.length:Int) - 1).toNat)=Zz rs i j r.1.length:=by
      by_cases h0:r.1.length=0
      ·rw[h0]
       exact z0
      ·rw[show 1+((r.1.length:Int) - 1).toNat=r.1.length by lia]
     refine⟨_,hq1,_,rfl,_,⟨by lia,rfl⟩,by decide,by decide,by lia,by lia,ForR.by (λt σ H3=>∃v6,σ=[sI (.ref a),sI (.ref D),sI (.int (i:Nat)),sI (.ref pr),sI (.int (j:Nat)),sI (.ref pr2),v6]/\Same H H3/\LsA K H3 D ((ovA rs i ++ ovI rs i j ++ Zz rs i j (1+t)).map d3)) ⟨v6,rfl,hs3,(by rw[z0,aT];exact hL2.same (zd hp2))⟩ ?_ ?_⟩
     ·rintro n σ H3 hn ⟨v6,rfl,hs4,hL4⟩
      have hn':1+n<r.1.length:=by lia
      have en:((1:Int)+(n:Int))=((1+n:Nat):Int):=by lia
      rw[en]
      obtain⟨ys,hY,hJ⟩:=hL4
      have hlen:=hJ.len
      have l1:=WY ok i
      have l2:=Ym ok i j
      have l3:=uJ rs i j (1+n)
      have i1:=(sQ.mp hri).1
      have i2:=(sQ.mp hri2).1
      have i3:=ok.1
      simp only[ae,ak] at hlen
      have es:=qL rs i j (1+n)
      have etest:(decide (i≠j) || decide (1+n≠0))=sK:=by rw[show decide (1+n≠0)=sK from decide_eq_true (by lia),dM]
      rw[etest,Bool.true_and,er,er2] at es
      rfl'
      refine⟨_,zj hs4 hqr,_,rfl,_,zj hs4 hqr2,_,rfl,Zl (by lia) (by lia) (by lia) ⟨_,rfl,yT (λhb=>⟨.inl ⟨_,SqL.of hY⟩,by lia,λt ht=>⟨_,zd ht _ _ hY,by lia,zE (hs4.trans (zd ht)) hD,?_⟩⟩) λhb=>⟨hs4,ys,hY,?_⟩⟩⟩
      ·rw[hb,if_pos rfl] at es
       rw[show 1+(n+1)=1+n+1 by lia,es,<- ar,ay]
       exact LsA.pushT hY hJ ht zbs (Xa _) (by simp only[zW,y8,and_self])
      ·have hb':yJ r.1 r2.1 (1+n)=sL:=by simpa using hb
       rw[hb',if_neg aC,aT] at es
       rw[show 1+(n+1)=1+n+1 by lia,es]
       exact hJ
     ·rintro σ H3 ⟨v6,rfl,hs4,hL4⟩
      refine⟨⟨_,_,_,rfl⟩,hs4,?_⟩
      rw[u7,er,<- ar]
      rw[el,zn] at hL4
      exact hL4
    ·have hij:i≠j:=λz=>h (by rw[z])
     refine⟨_,hq1,_,rfl,_,⟨by lia,rfl⟩,by decide,by decide,by lia,by lia,ForR.by (λt σ H3=>∃v6,σ=[sI (.ref a),sI (.ref D),sI (.int (i:Nat)),sI (.ref pr),sI (.int (j:Nat)),sI (.ref pr2),v6]/\Same H H3/\LsA K H3 D ((ovA rs i ++ ovI rs i j ++ Zz rs i j (0+t)).map d3)) ⟨v6,rfl,hs3,(by rw[show Zz rs i j (0+0)=[] from rfl,aT];exact hL2.same (zd hp2))⟩ ?_ ?_⟩
     ·rintro n σ H3 hn ⟨v6,rfl,hs4,hL4⟩
      have hn':0+n<r.1.length:=by lia
      have en:((0:Int)+(n:Int))=((0+n:Nat):Int):=by lia
      rw[en]
      obtain⟨ys,hY,hJ⟩:=hL4
      have hlen:=hJ.len
      have l1:=WY ok i
      have l2:=Ym ok i j
      have l3:=uJ rs i j (0+n)
      have i1:=(sQ.mp hri).1
      have i2:=(sQ.mp hri2).1
      have i3:=ok.1
      simp only[ae,ak] at hlen
      have es:=qL rs i j (0+n)
      have etest:(decide (i≠j) || decide (0+n≠0))=sK:=by rw[show decide (i≠j)=sK from decide_eq_true hij,Bool.true_or]
      rw[etest,Bool.true_and,er,er2] at es
      rfl'
      refine⟨_,zj hs4 hqr,_,rfl,_,zj hs4 hqr2,_,rfl,Zl (by lia) (by lia) (by lia) ⟨_,rfl,yT (λhb=>⟨.inl ⟨_,SqL.of hY⟩,by lia,λt ht=>⟨_,zd ht _ _ hY,by lia,zE (hs4.trans (zd ht)) hD,?_⟩⟩) λhb=>⟨hs4,ys,hY,?_⟩⟩⟩
      ·rw[hb,if_pos rfl] at es
       rw[show 0+(n+1)=0+n+1 by lia,es,<- ar,ay]
       exact LsA.pushT hY hJ ht zbs (Xa _) (by simp only[zW,y8,and_self])
      ·have hb':yJ r.1 r2.1 (0+n)=sL:=by simpa using hb
       rw[hb',if_neg aC,aT] at es
       rw[show 0+(n+1)=0+n+1 by lia,es]
       exact hJ
     ·rintro σ H3 ⟨v6,rfl,hs4,hL4⟩
      refine⟨⟨_,_,_,rfl⟩,hs4,?_⟩
      rw[u7,er,<- ar]
      rw[el,show 0+((r.1.length:Int) - 0).toNat=r.1.length by lia] at hL4
      exact hL4
   ·rintro σ H2 ⟨v4,v5,v6,rfl,hs2,hL2⟩
    have e:=hI.len
    rw[ae] at e
    rw[e,<- kr] at hL2
    exact⟨⟨_,_,_,_,_,rfl⟩,hs2,hL2⟩
  ·rintro σ H' ⟨v2,v3,v4,v5,v6,rfl,hs,hL⟩
   have e:=hI.len
   rw[ae] at e
   rw[e] at hL
   rfl'
   exact q D H' hD hs hL
noncomputable def z6(l m:List Nat)(k:Nat):List Nat:=l ++ m.drop (l.length - k)
theorem ww(l m:List Nat)(k:Nat)(hk:k<=l.length):(z6 l m k).length=max l.length (k+m.length):=by
 unfold z6
 rw[ak,aR]
 lia
theorem jy(l m:List Nat)(k:Nat):zx (z6 l m k) 0 l=sK:=by
  unfold zx z6
  refine decide_eq_true ⟨by decide,by rw[ak];lia,?_⟩
  rw[show (0:Int).toNat=0 from rfl,d4,aS (am _),aK]
theorem qA{l m:List Nat}(hk:k<=l.length)(h:yJ l m k=sK):zx (z6 l m k) (k:Nat) m=sK:=by
 unfold yJ at h
 rw[decide_eq_true_eq] at h
 have hl:=ww l m k hk
 unfold zx
 refine decide_eq_true ⟨by lia,by lia,?_⟩
 rw[show ((k:Nat):Int).toNat=k from rfl]
 unfold z6
 rw[bA hk]
 by_cases hm:m.length<=l.length - k
 ·rw[aS (by rw[aR];lia),h,ba hm]
 ·rw[ba (by rw[aR];lia)] at h
  rw[h,aZ,aK]
theorem Qu{i j n:Nat}{t:N3}(h:t ∈ Zz rs i j n):t.1=i/\t.2.1=j/\t.2.2<n/\yJ (lf rs i) (lf rs j) t.2.2=sK:=by
 unfold Zz at h
 obtain⟨k,hk,rfl⟩:=sS.mp h
 rw[List.mem_filter,e7,cE] at hk
 exact⟨rfl,rfl,hk.1,hk.2.2⟩
theorem vQ{t:N3}(h:t ∈ ovA rs rs.length):t.1<rs.length/\t.2.1<rs.length/\t.2.2<(lf rs t.1).length/\yJ (lf rs t.1) (lf rs t.2.1) t.2.2=sK:=by
 unfold ovA ovI at h
 obtain⟨i,hi,h⟩:=tB.mp h
 obtain⟨j,hj,h⟩:=tB.mp h
 obtain⟨e1,e2,e3,e4⟩:=Qu h
 rw[e1,e2]
 exact⟨sZ.mp hi,sZ.mp hj,e3,e4⟩
def qi(K:oN):Sp:=λvs H Q _=>∃(a t:oO) (rs:List zw) (i j k:Nat) (r r2:zw),vs=[.ref a,.ref t]/\Is K H (.lst (rs.map dR)) (.ref a)/\SqT K H t [.int (i:Nat),.int (j:Nat),.int (k:Nat)]/\Wa rs/\rs[i]? = sI r/\rs[j]? = sI r2/\k<=r.1.length/\yJ r.1 r2.1 k=sK /\
 ∀p H',H p=sJ->Same H H'->H' p=sI (.tup [.str (tx (z6 r.1 r2.1 k)),.str (tx (yI (z6 r.1 r2.1 k) 0 r.1 r.2)),.str (tx (yI (z6 r.1 r2.1 k) (k:Nat) r2.1 r2.2))])->Q (.ref p) H'
theorem Xo{a t:oO}{i j k:Nat}{r r2:zw}(h1:Is K H (.lst (rs.map dR)) (.ref a))(h2:SqT K H t [.int (i:Nat),.int (j:Nat),.int (k:Nat)])(h3:Wa rs)(h4:rs[i]? = sI r)(h5:rs[j]? = sI r2)(h6:k<=r.1.length)(h7:yJ r.1 r2.1 k=sK)
 (h:∀p H',H p=sJ->Same H H'->H' p=sI (.tup [.str (tx (z6 r.1 r2.1 k)),.str (tx (yI (z6 r.1 r2.1 k) 0 r.1 r.2)),.str (tx (yI (z6 r.1 r2.1 k) (k:Nat) r2.1 r2.2))])->Q (.ref p) H'):qi K [.ref a,.ref t] H Q E:=⟨a,t,rs,i,j,k,r,r2,rfl,h1,h2,h3,h4,h5,h6,h7,h⟩
theorem Vx{CU:oO}{l o n:List Nat}{k:Int}(h1:l.length<=10000)(h2:o.length<=10000)(h3:n.length<=10000)(hs:zx l k o=sK)(q:Q (.str (tx (yI l k o n))) H):ZA CU [.str (tx l),.int k,.str (tx o),.str (tx n)] H Q E:=⟨l,o,n,k,rfl,h1,h2,h3,λ_=>q,λh=>by rw[hs] at h;cases h⟩
theorem lL:zp ["rules","overlap","one","other","place","word"] ["rules","overlap"] (zh W0):=by nofun
theorem JL{f CU:oO}(B:Bt mg)(F:Fun K "peak" "peak" W0 f fd)(nG:Df P w K mg base (CXx P w) 3 "put" ["word","place","old","new"] [] (ZA CU)):z8 P w K mg base CX0 4 f fd ["rules","overlap"] (qi K):=by
 refine F.ok lL (λvs H Q E h=>?_) (λcdv A outer s H vs Q E hr h=>?_)
 ·obtain⟨a,t,rs,i,j,k,r,r2,rfl,_⟩:=h
  rfl
 ·obtain⟨a,t,rs,i,j,k,r,r2,rfl,hR,ht,ok,hr1,hr2,hk,hag,q⟩:=h
  refine⟨_,(zi (zq (i:=2) lL.nd rfl (.inl rfl) (zr ix_list (pv 0) (zr ix_tup (pv 1) zf (λ_ _=>rfl)) (λ_ _=>rfl)))
   (zi (zq (i:=3) lL.nd rfl (.inl rfl) (zr ix_list (pv 0) (zr ix_tup (pv 1) zf (λ_ _=>rfl)) (λ_ _=>rfl)))
   (zi (zq (i:=4) lL.nd rfl (.inl rfl) (zr ix_tup (pv 1) zf (λ_ _=>rfl)))
   (zi (zq (i:=5) lL.nd rfl (.inl rfl) (zB op_add_str (zr ix_tup (pv 2) zf (λ_ _=>rfl)) (zO zaH (zr ix_tup (pv 3) zf (λ_ _=>rfl)) (zV (zB uA (zm zZ rfl B.len ax (za (zr ix_tup (pv 2) zf (λ_ _=>rfl)) ze)) (pv 4))) ym)))
   (zg (zt (zY (za (pv 5) (za (clP xe0 nG hr .nil rfl (za (pv 5) (za zf (za (zr ix_tup (pv 2) zf (λ_ _=>rfl)) (za (zr ix_tup (pv 2) zf (λ_ _=>rfl)) ze))))) (za (clP xe0 nG hr .nil rfl (za (pv 5) (za (pv 4) (za (zr ix_tup (pv 3) zf (λ_ _=>rfl)) (za (zr ix_tup (pv 3) zf (λ_ _=>rfl)) ze))))) ze)))))))))),?_⟩
  have s16:=ya
  simp only[Is] at hR
  obtain⟨_,xs,e,hX,hI⟩:=hR
  cases e
  obtain⟨p1,a1,q1⟩:=zb2 hI hr1
  obtain⟨p2,a2,q2⟩:=zb2 hI hr2
  have b1:=ok.2 r (ac hr1)
  have b2:=ok.2 r2 (ac hr2)
  refine zk (λσ H'=>H'=H/\σ=[sI (.ref a),sI (.ref t),sI (.ref p1),sJ,sJ,sJ]) ?_ ?_
  ·rfl'
   exact⟨_,ht,_,rfl,_,_,rfl,hX,a1⟩
  rintro σ H1 ⟨rfl,rfl⟩
  refine zk (λσ H'=>H'=H1/\σ=[sI (.ref a),sI (.ref t),sI (.ref p1),sI (.ref p2),sJ,sJ]) ?_ ?_
  ·rfl'
   exact⟨_,ht,_,rfl,_,_,rfl,hX,a2⟩
  rintro σ H2 ⟨rfl,rfl⟩
  refine zk (λσ H'=>H'=H2/\σ=[sI (.ref a),sI (.ref t),sI (.ref p1),sI (.ref p2),sI (.int (k:Nat)),sJ]) ?_ ?_
  ·rfl'
   exact⟨_,ht,rfl⟩
  rintro σ H3 ⟨rfl,rfl⟩
  refine zk (λσ H'=>H'=H3/\σ=[sI (.ref a),sI (.ref t),sI (.ref p1),sI (.ref p2),sI (.int (k:Nat)),sI (.str (tx (z6 r.1 r2.1 k)))]) ?_ ?_
  ·rfl'
   refine⟨_,q1,_,rfl,_,q2,_,rfl,_,q1,_,rfl,_,⟨by rw[zD];lia,rfl⟩,.inr ⟨_,rfl,by rw[zD];lia,_,rfl,?_,?_⟩⟩
   ·rw[zD,jg]
    have:=vP r2.1 (sI ((r.1.length:Int) - (k:Int))) sJ
    lia
   ·rw[zD,jg,yC,xx _ (by lia),show ((r.1.length:Int) - (k:Int)).toNat=r.1.length - k by lia]
    rfl
  rintro σ H4 ⟨rfl,rfl⟩
  have hw:=ww r.1 r2.1 k hk
  rfl'
  exact⟨_,q1,_,rfl,_,q1,_,rfl,Vx (by lia) (by lia) (by lia) (jy _ _ _) ⟨_,q2,_,rfl,_,q2,_,rfl,Vx (by lia) (by lia) (by lia) (qA hk hag) ⟨by lia,λp hp=>q p _ hp (zd hp) zc⟩⟩⟩
def FmOk(ps:List zw)(most:Int)(m:oV->Option V):Prop:=∀k v,m k=sI v->∃(w:List Nat) (J:Nat),k=tx w/\v=.str (tx (wAt ps w J))/\Xv ps w J/\zC (wAt ps w J) ps=sJ/\(J:Int)<=most
theorem FmOk.get{most:Int}{m:oV->Option V}(h:FmOk ps most m){w:List Nat}{v:V}(e:m (tx w)=sI v){J:Nat}(hl:Xv ps w J)(hf:zC (wAt ps w J) ps=sJ):v=.str (tx (wAt ps w J)):=by
 obtain⟨w',J',e1,e2,e3,e4,_⟩:=h _ _ e
 have e5:=jp e1
 subst e5
 rw[e2,QM e3 e4 hl hf]
theorem FmOk.put{most:Int}{m:oV->Option V}(h:FmOk ps most m){w:List Nat}{J:Nat}(hl:Xv ps w J)(hf:zC (wAt ps w J) ps=sJ)(hJ:(J:Int)<=most):FmOk ps most (λx=>if x=tx w then sI (.str (tx (wAt ps w J))) else m x):=λk v e=>by
 by_cases hk:k=tx w
 ·simp only[hk,if_true] at e
  cases e
  exact⟨w,J,hk,rfl,hl,hf,hJ⟩
 ·simp only[hk,if_false] at e
  exact h k v e
def jK(P:oU)(w:oW)(K:oN)(CF:oO):Sp:=λvs H Q E=>∃(a F:oO) (l:List Nat) (ps:List zw) (m:Int) (J n:Nat) (mp:oV->Option V),vs=[.ref a,.str (tx l),.int m,.ref F]/\LsA K H a (ps.map dR)/\NeL ps/\ps.length<=100/\(∀p ∈ ps,p.1.length<=1000/\p.2.length<=1000)/\Rd ps l J/\H F=sI (jd P w F mp n)/\FmOk ps m mp/\n<=10000 /\
 ((zC (wAt ps l J) ps=sJ/\(J:Int)<=m/\∀(mp':oV->Option V) (n':Nat) (H':Hp),SamT F H H'->H' F=sI (jd P w F mp' n')->FmOk ps m mp'->n'<=n+1->Q (.str (tx (wAt ps l J))) H') \/
  (zC (wAt ps l J) ps≠sJ/\(J:Int)=m/\∀H',Same H H'->E (.ref CF) sJ H'))
theorem XW:zp ["rules","word","most","forms"] ["rules","word","most","forms"] (zh qt):=by nofun
theorem Xu{f CF:oO}{lc:rF}(B:Bt mg)(F:Fun K "form_of" "form_of" qt f fd)(mZ:Df P w K mg base (CXx P w) 4 "gone" ["rules","word","most"] [] (wx K CF))(DD_gone:Df P w K mg base (CXx P w) 4 "gone" ["rules","word","most"] [.int 4000 lc] (wx K CF)):z8 P w K mg base (CXx P w) 5 f fd ["rules","word","most","forms"] (jK P w K CF):=by
 refine Fun.okX F XW (λvs H Q E h=>?_) (λcdv A outer s H vs Q E hr hx h=>?_)
 ·obtain⟨a,F0,l,ps,m,J,n,mp,rfl,_⟩:=h
  rfl
 ·obtain⟨a,F0,l,ps,m,J,n,mp,rfl,hA,hN,hpl,hP,hR,hF,hM,hn,hq⟩:=h
  refine⟨_,(zi (zR (zG UC (pv 1) (pv 3) (by with_unfolding_all rfl))
    (zg (Q2 (zr ix_tup (clP hx mZ hr .nil rfl (za (pv 0) (za (pv 1) (za (pv 2) ze)))) zf (λ_ _=>rfl)) (zbw (pv 3) (pv 1) UJ (by intro _;rfl))))
    zA)
   (zg (zt (zr Jw (pv 3) (pv 1) (λ_ _=>rfl))))),?_⟩
  have s16:=ya
  have s16:=ya
  refine zk (λσ H'=>SamT F0 H H'/\zC (wAt ps l J) ps=sJ/\(J:Int)<=m/\(∃(mp':oV->Option V) (n':Nat),H' F0=sI (jd P w F0 mp' n')/\FmOk ps m mp'/\n'<=n+1/\mp' (tx l)=sI (.str (tx (wAt ps l J))))/\σ=[sI (.ref a),sI (.str (tx l)),sI (.int m),sI (.ref F0)]) ?_ ?_
  ·rfl'
   refine⟨F0,mp,n,tx l,rfl,rfl,hF,_,rfl,yT (λhnone=>⟨a,l,ps,m,J,rfl,hA,hN,hpl,hP,hR,?_⟩) λhsome=>?_⟩
   ·rcases hq with ⟨hf,hJ,_⟩ | h
    ·refine .inl ⟨hf,hJ,λp S H' s' hp _ _=>⟨p,rfl,_,SqT.of hp,_,rfl,?_⟩⟩
     simp only[zcN]
     rfl'
     exact⟨F0,mp,n,tx l,rfl,rfl,s' _ _ hF,by lia,λb o hb e=>by rw[zo hb];exact s' _ _ e,hf,hJ,_,_,zc,hM.put hR.live hf hJ,am _,if_pos rfl⟩
    ·exact .inr h
   ·cases hv:mp (tx l) with
    | none=>rw[hv] at hsome;exact absurd rfl hsome
    | some v =>
     obtain⟨w',J',e1,e2,e3,e4,e5⟩:=hM _ _ hv
     have e6:=jp e1
     subst e6
     rcases hq with ⟨hf,hJ,_⟩ | ⟨hf,hJ,_⟩
     ·exact⟨λb o _ e=>e,hf,hJ,mp,n,hF,hM,by lia,by rw[hM.get hv hR.live hf] at hv;exact hv⟩
     ·exfalso
      rcases eF J' J with h | h
      ·exact hR.live J' h e4
      ·have:J'=J:=by lia
       subst this
       exact hf e4
  rintro σ H1 ⟨s1,hf,hJ,⟨mp',n',h1,h2,h3,h4⟩,rfl⟩
  rfl'
  refine⟨F0,mp',n',tx l,_,rfl,rfl,h1,h4,?_⟩
  rcases hq with ⟨_,_,q⟩ | ⟨h,_⟩
  ·exact q mp' n' H1 s1 h1 h2 h3
  ·exact absurd hf h
noncomputable def pkA(ps:List zw)(t:N3):List Nat:=yI (z6 (lf ps t.1) (lf ps t.2.1) t.2.2) 0 (lf ps t.1) (ps.getD t.1 ([],[])).2
noncomputable def pkB(ps:List zw)(t:N3):List Nat:=yI (z6 (lf ps t.1) (lf ps t.2.1) t.2.2) (t.2.2:Nat) (lf ps t.2.1) (ps.getD t.2.1 ([],[])).2
inductive zab(ps:List zw)(m:Int)(l:List Nat):Option Nat->Prop where
 | yes {J:Nat} (h:Rd ps l J) (h1:zC (wAt ps l J) ps=sJ) (h2:(J:Int)<=m):zab ps m l (sI J)
 | no {J:Nat} (h:Rd ps l J) (h1:zC (wAt ps l J) ps≠sJ) (h2:(J:Int)=m):zab ps m l sJ
def uR(P:oU)(w:oW)(K:oN)(CF:oO):Sp:=λvs H Q E=>∃(a t F:oO) (ps:List zw) (tr:N3) (m:Int) (n:Nat) (mp:oV->Option V) (g1 g2:Option Nat),vs=[.ref a,.ref t,.int m,.ref F]/\LsA K H a (ps.map dR)/\NeL ps/\Wa ps/\SqT K H t [.int (tr.1:Nat),.int (tr.2.1:Nat),.int (tr.2.2:Nat)]/\tr ∈ ovA ps ps.length/\H F=sI (jd P w F mp n)/\FmOk ps m mp/\n<=9000/\zab ps m (pkA ps tr) g1/\zab ps m (pkB ps tr) g2 /\
 (∀(J1 J2:Nat) (mp':oV->Option V) (n':Nat) (H':Hp),g1=sI J1->g2=sI J2->SamT F H H'->H' F=sI (jd P w F mp' n')->FmOk ps m mp'->n'<=n+2->Q (.bl (decide (wAt ps (pkA ps tr) J1=wAt ps (pkB ps tr) J2))) H') /\
 ((g1=sJ\/g2=sJ)->∀H',SamT F H H'->E (.ref CF) sJ H')
theorem YX{P:oU}{w:oW}{CF a F:oO}{l:List Nat}{m:Int}{n:Nat}{mp:oV->Option V}{g:Option Nat}(hA:LsA K H a (ps.map dR))(hN:NeL ps)(hok:Wa ps)(hF:H F=sI (jd P w F mp n))(hM:FmOk ps m mp)(hn:n<=10000)(hg:zab ps m l g)
  (h1:∀(J:Nat) (mp':oV->Option V) (n':Nat) (H':Hp),g=sI J->SamT F H H'->H' F=sI (jd P w F mp' n')->FmOk ps m mp'->n'<=n+1->Q (.str (tx (wAt ps l J))) H') (h2:g=sJ->∀H',Same H H'->E (.ref CF) sJ H'):jK P w K CF [.ref a,.str (tx l),.int m,.ref F] H Q E:=by
 have hP:∀p ∈ ps,p.1.length<=1000/\p.2.length<=1000:=λp hp=>by have:=hok.2 p hp;lia
 have hl:ps.length<=100:=by have:=hok.1;lia
 cases hg with
 | yes h e1 e2=>exact⟨a,F,l,ps,m,_,n,mp,rfl,hA,hN,hl,hP,h,hF,hM,hn,.inl ⟨e1,e2,λmp' n' H' a1 a2 a3 a4=>h1 _ mp' n' H' rfl a1 a2 a3 a4⟩⟩
 | no h e1 e2=>exact⟨a,F,l,ps,m,_,n,mp,rfl,hA,hN,hl,hP,h,hF,hM,hn,.inr ⟨e1,e2,h2 rfl⟩⟩
theorem qp{F t:oO}{H H':Hp}{P:oU}{w:oW}{mp:oV->Option V}{n:Nat}{xs:List V}(s:SamT F H H')(hF:H F=sI (jd P w F mp n))(h:SqT K H t xs):SqT K H' t xs:=by
 rcases h with (h | ⟨o,h⟩) | h
 ·exact .inl (.inl (s _ _ (λz=>by rw[z,hF] at h;cases h) h))
 ·exact .inl (.inr ⟨o,s _ _ (λz=>by rw[z,hF] at h;cases h) h⟩)
 ·exact .inr h
theorem Xn{F a:oO}{H H':Hp}{P:oU}{w:oW}{mp:oV->Option V}{n:Nat}(s:SamT F H H')(hF:H F=sI (jd P w F mp n))(h:LsA K H a (ps.map dR)):LsA K H' a (ps.map dR):=by
 obtain⟨xs,h1,h2⟩:=h
 refine⟨xs,s _ _ (λz=>by rw[z,hF] at h1;cases h1) h1,?_⟩
 have key:∀(qs:List zw) (vs:List V),Iss K H (qs.map dR) vs->Iss K H' (qs.map dR) vs:=by
  intro qs
  induction qs with
  | nil=>intro vs h;simp only[aP,Iss] at h ⊢;exact h
  | cons q qs ih =>
   intro vs h
   simp only[au,Iss] at h ⊢
   obtain⟨v,r,e,h3,h4⟩:=h
   obtain⟨p,rfl,h5⟩:=zaV h3
   exact⟨_,r,e,zbZ (qp s hF h5),ih r h4⟩
 exact key ps xs h2
theorem lF:zp ["rules","overlap","most","forms","sides","one","other"] ["rules","overlap","most","forms"] (zh jL):=by nofun
theorem Wz{f CF:oO}(B:Bt mg)(F:Fun K "is_met" "is_met" jL f fd)(nL:Df P w K mg base CX0 4 "peak" ["rules","overlap"] [] (qi K))(nz:Df P w K mg base (CXx P w) 5 "form_of" ["rules","word","most","forms"] [] (jK P w K CF)):z8 P w K mg base (CXx P w) 6 f fd ["rules","overlap","most","forms"] (uR P w K CF):=by
 refine Fun.okX F lF (λvs H Q E h=>?_) (λcdv A outer s H vs Q E hr hx h=>?_)
 ·obtain⟨a,t,F0,ps,tr,m,n,mp,g1,g2,rfl,_⟩:=h
  rfl
 ·obtain⟨a,t,F0,ps,tr,m,n,mp,g1,g2,rfl,hA,hN,hok,ht,htr,hF,hM,hn,hg1,hg2,q1,q2⟩:=h
  refine⟨_,(zi (zq (i:=4) lF.nd rfl (.inl rfl) (cl0 nL hr .nil rfl (za (pv 0) (za (pv 1) ze))))
   (zi (zq (i:=5) lF.nd rfl (.inl rfl) (clP hx nz hr .nil rfl (za (pv 0) (za (zr ix_tup (pv 4) zf (λ_ _=>rfl)) (za (pv 2) (za (pv 3) ze))))))
   (zi (zq (i:=6) lF.nd rfl (.inl rfl) (clP hx nz hr .nil rfl (za (pv 0) (za (zr ix_tup (pv 4) zf (λ_ _=>rfl)) (za (pv 2) (za (pv 3) ze))))))
   (zg (zt (wz uG (pv 5) (pv 6) (zI _))))))),?_⟩
  have s16:=ya
  have s16:=ya
  obtain⟨i1,i2,i3,i4⟩:=vQ htr
  obtain⟨r,hr⟩:∃r,ps[tr.1]? = sI r:=⟨_,aj i1⟩
  obtain⟨r2,hr2⟩:∃r,ps[tr.2.1]? = sI r:=⟨_,aj i2⟩
  have l1:=wo hr
  have l2:=wo hr2
  have d1:ps.getD tr.1 ([],[])=r:=by rw[af,hr];rfl
  have d2:ps.getD tr.2.1 ([],[])=r2:=by rw[af,hr2];rfl
  have eA:pkA ps tr=yI (z6 r.1 r2.1 tr.2.2) 0 r.1 r.2:=by unfold pkA;rw[l1,l2,d1]
  have eB:pkB ps tr=yI (z6 r.1 r2.1 tr.2.2) (tr.2.2:Nat) r2.1 r2.2:=by unfold pkB;rw[l1,l2,d2]
  rw[l1] at i3
  rw[l1,l2] at i4
  refine zk (λσ H'=>Same H H'/\∃p:oO,(∃x,H' p=sI (.tup [x,.str (tx (pkA ps tr)),.str (tx (pkB ps tr))]))/\σ=[sI (.ref a),sI (.ref t),sI (.int m),sI (.ref F0),sI (.ref p),sJ,sJ]) ?_ ?_
  ·rfl'
   exact Xo hA.is ht hok hr hr2 (by lia) i4 λp H' _ s' hp=>⟨s',p,⟨_,by rw[eA,eB];exact hp⟩,rfl⟩
  rintro σ H1 ⟨s1,p,⟨x,hp⟩,rfl⟩
  have hF1:=s1 _ _ hF
  refine zk (λσ H'=>SamT F0 H1 H'/\∃(J1:Nat),g1=sI J1/\(∃mp' n',H' F0=sI (jd P w F0 mp' n')/\FmOk ps m mp'/\n'<=n+1)/\σ=[sI (.ref a),sI (.ref t),sI (.int m),sI (.ref F0),sI (.ref p),sI (.str (tx (wAt ps (pkA ps tr) J1))),sJ]) ?_ ?_
  ·rfl'
   refine⟨_,SqT.of hp,_,rfl,YX (hA.same s1) hN hok hF1 hM (by lia) hg1 (λJ mp' n' H' e a1 a2 a3 a4=>?_) λe H' s'=>q2 (.inl e) H' (SamT.of (s1.trans s'))⟩
   exact⟨a1,J,e,⟨mp',n',a2,a3,a4⟩,rfl⟩
  rintro σ H2 ⟨s2,J1,e1,⟨mp1,n1,hF2,hM2,hn2⟩,rfl⟩
  have s12:SamT F0 H H2:=(SamT.of s1).trans s2
  have hpF:p≠F0:=λz=>by rw[z,hF1] at hp;cases hp
  refine zk (λσ H'=>SamT F0 H2 H'/\∃(J2:Nat),g2=sI J2/\(∃mp' n',H' F0=sI (jd P w F0 mp' n')/\FmOk ps m mp'/\n'<=n+2)/\σ=[sI (.ref a),sI (.ref t),sI (.int m),sI (.ref F0),sI (.ref p),sI (.str (tx (wAt ps (pkA ps tr) J1))),sI (.str (tx (wAt ps (pkB ps tr) J2)))]) ?_ ?_
  ·rfl'
   exact⟨_,SqT.of (s2 _ _ hpF hp),_,rfl,YX (Xn s2 hF1 (hA.same s1)) hN hok hF2 hM2 (by lia) hg2 (λJ mp' n' H' e a1 a2 a3 a4=>⟨a1,J,e,⟨mp',n',a2,a3,by lia⟩,rfl⟩) λe H' s'=>q2 (.inr e) H' (s12.trans (SamT.of s'))⟩
  rintro σ H3 ⟨s3,J2,e2,⟨mp2,n2,hF3,hM3,hn3⟩,rfl⟩
  rfl'
  exact q1 J1 J2 mp2 n2 H3 e1 e2 (s12.trans s3) hF3 hM3 hn3
def uO(K:oN)(CH:oO):Sp:=λvs H Q _=>∃(y o q:oO) (ps:List zw),vs=[.ref y]/\QD K CH H y o q ps/\∀(r:oO) (H':Hp),Same H H'->LsA K H' r (ps.map dR)->H r=sJ->Q (.ref r) H'
theorem w9:zp ["self"] ["self"] (zh yv):=by nofun
theorem w8{f CH:oO}(B:Bt mg)(TS:K7 K mg CH)(F:Fun K "rules_told" "System.rules_told" yv f fd) : z8 P w K mg base CX0 1 f fd ["self"] (uO K CH):=by
 refine F.ok w9 (λvs H Q E h=>?_) (λcdv A outer s H vs Q E hr h=>?_)
 ·obtain⟨y,o,q,ps,rfl,_⟩:=h
  rfl
 ·obtain⟨y,o,q,ps,rfl,hy,k⟩:=h
  refine⟨_,(zg (zt (xN yP rfl B.list PySem.Pv.boot_list (za (YQ (pv 0) rfl) ze)))),?_⟩
  have s16:=ya
  rfl'
  obtain⟨dx,xs,h1,h2,h3⟩:=hy
  exact⟨_,_,_,h1,TS.cl,TS.nr,_,rfl,_,rfl,_,.inl (SqL.of h2),λr hr'=>k r _ (zd hr') ⟨xs,zc,Iss.same (zd hr') _ _ h3⟩ hr'⟩
noncomputable def goJ(ps:List zw)(m:Nat)(v:List Nat):Option Nat:=(aW (m+1)).find? λj=>(zC (wAt ps v j) ps).isNone
theorem UM{m:Nat}{v:List Nat}{i:Nat}(e:goJ ps m v=sI i):i<=m/\Xv ps v i/\zC (wAt ps v i) ps=sJ:=by
 unfold goJ at e
 have h1:=dP e
 have h2:zC (wAt ps v i) ps=sJ:=Option.isNone_iff_eq_none.mp h1
 have hm:=sZ.mp (et e)
 refine⟨by lia,λn hn hno=>?_,h2⟩
 obtain⟨_,as,bs,e2,h3⟩:=List.find?_eq_some_iff_append.mp e
 have hlen:as.length=i:=by
  have:=congrArg (λl=>l[as.length]?) e2
  simp only[bK (am _),fF,eN] at this
  obtain⟨h7,h8⟩:=sQ.mp this
  rw[fG] at h8
  exact h8
 have h9:(aW (m+1))[n]? = as[n]?:=by rw[e2,bP (by lia)]
 have h10:n<(aW (m+1)).length:=by rw[dz];lia
 rw[aj h10,fG] at h9
 have:=h3 n (ac h9.symm)
 rw[hno] at this
 cases this
theorem Uv{m:Nat}{v:List Nat}(e:goJ ps m v=sJ):∀j,j<=m->zC (wAt ps v j) ps≠sJ:=λj hj hno=>by
 unfold goJ at e
 have:=tJ.mp e j (sZ.mpr (by lia))
 rw[hno] at this
 exact this rfl
theorem Vd{m:Nat}{v:List Nat}(hl:∀j,j<=m->(wAt ps v j).length<=10000)(hm:m<=10000):zab ps (m:Int) v (goJ ps m v):=by
 cases e:goJ ps m v with
 | some i =>
  obtain⟨h1,h2,h3⟩:=UM e
  exact .yes ⟨h2,λj hj=>hl j (by lia),by lia⟩ h3 (by lia)
 | none =>
  have h:=Uv e
  exact .no (J:=m) ⟨λi hi=>h i (by lia),λj hj=>hl j hj,hm⟩ (h m (am _)) rfl
noncomputable def zaa(ps:List zw)(m:Nat)(v:List Nat):List Nat:=wAt ps v ((goJ ps m v).getD 0)
noncomputable def Uo(ps:List zw)(m:Nat)(t:N3):Bool:=decide (zaa ps m (pkA ps t)=zaa ps m (pkB ps t))
def OkG(ps:List zw)(m:Nat)(t:N3):Prop:=(goJ ps m (pkA ps t)).isSome=sK/\(goJ ps m (pkB ps t)).isSome=sK
def zc9(ps:List zw)(m:Nat):Prop:=m<=10000/\∀t ∈ ovA ps ps.length,(∀j,j<=m->(wAt ps (pkA ps t) j).length<=10000)/\∀j,j<=m->(wAt ps (pkB ps t) j).length<=10000
theorem KH{t:N3}{m J1 J2:Nat}(e1:goJ ps m (pkA ps t)=sI J1)(e2:goJ ps m (pkB ps t)=sI J2):decide (wAt ps (pkA ps t) J1=wAt ps (pkB ps t) J2)=Uo ps m t:=by
 unfold Uo zaa
 rw[e1,e2]
 rfl
theorem zbl{m:Nat}{t:N3}(h:goJ ps m (pkA ps t)=sJ\/goJ ps m (pkB ps t)=sJ):¬ OkG ps m t:=λho=>by
 obtain⟨h1,h2⟩:=ho
 rcases h with h | h
 ·rw[h] at h1
  cases h1
 ·rw[h] at h2
  cases h2
theorem FmOk.nil{m:Int}:FmOk ps m λ_=>sJ:=λk v e=>by cases e
theorem Zc{F:oO}{H H':Hp}{P:oU}{w:oW}{mp:oV->Option V}{n:Nat}(s:SamT F H H')(hF:H F=sI (jd P w F mp n)):∀{ts:List N3} {vs:List V},Iss K H (ts.map d3) vs->Iss K H' (ts.map d3) vs
 | [],vs,h=>by simp only[aP,Iss] at h ⊢;exact h
 | t::ts,vs,h=>by
  simp only[au,Iss] at h ⊢
  obtain⟨v,r,e,h3,h4⟩:=h
  refine⟨v,r,e,?_,Zc s hF h4⟩
  simp only[d3,Is] at h3 ⊢
  obtain⟨a,xs,e1,e2,e3⟩:=h3
  refine⟨a,xs,e1,qp s hF e2,?_⟩
  simp only[Iss,Is] at e3 ⊢
  exact e3
noncomputable def unG(ps:List zw)(m:Nat):List N3:=(ovA ps ps.length).filter λt=>!Uo ps m t
def vE(K:oN)(CH CF:oO):Sp:=λvs H Q E=>∃(y o q:oO) (ps:List zw) (m:Nat),vs=[.ref y,.int (m:Nat)]/\QD K CH H y o q ps/\NeL ps/\Wa ps/\(ovA ps ps.length).length<=4000/\zc9 ps m /\
 ((∀t ∈ ovA ps ps.length,OkG ps m t)->∀D H',Same H H'->H D=sJ->LsA K H' D ((unG ps m).map d3)->Q (.ref D) H')/\(∀t ∈ ovA ps ps.length,¬ OkG ps m t->∀H',Same H H'->E (.ref CF) sJ H')
theorem mN:zp ["system","most","rules","forms"] ["system","most"] (zh xC):=by nofun
theorem U0{f CF CH:oO}{dV:oP}(B:Bt mg)(TS:K7 K mg CH)(F:FunD K "unmet" "unmet" xC dV f fd)(nV:Df P w K mg base CX0 2 "overlaps" ["rules"] [] (wb K))(oh:Df P w K mg base (CXx P w) 6 "is_met" ["rules","overlap","most","forms"] [] (uR P w K CF))(M_system_rules_told:DM P w K mg base CX0 1 CH "rules_told" ["self"] (uO K CH)):z8 P w K mg base (CXx P w) 7 f fd ["system","most"] (vE K CH CF):=by
 refine FunD.okX F mN (λvs H Q E h=>?_) (λcdv A outer s H vs Q E hr hx h=>?_)
 ·obtain⟨y,o,q,ps,m,rfl,_⟩:=h
  rfl
 ·obtain⟨y,o,q,ps,m,rfl,hy,hN,hok,hlen,hE,k1,k2⟩:=h
  refine⟨_,(zi (zq (i:=2) mN.nd rfl (Or.inr rfl) (me0 M_system_rules_told TS.cl hr (pv 0)))
   (zi (zq (i:=3) mN.nd rfl (Or.inr rfl) JY)
   (zg (zt (W4 (EX:=E) (own:=["overlap"]) (caps:=["rules","most","forms"]) (ix:=[2,1,3]) (tt:=(zbI (tBl (vY (uR P w K CF) [] E (zJ (yo 1) (zJ (yo 0) (zJ (yo 2) (zJ (yo 3) xS)))))))) (te:=(yo 0)) rfl (zL (sc:=zh xC) rfl (by symm) (by symm) (by symm) rfl (by symm) (by symm) rfl) ⟨rfl,rfl⟩ hx (yt (cl0 nV hr .nil rfl (za (pv 2) ze))) (λ_ _ _ _ _ _=>zy (i:=0) (show List.Nodup [_,_,_,_] by decide) rfl (.inl rfl)) (λ_ _ _ _ _ _ _ hx'=>(W9 (yd (yL (clP hx' oh hr .nil rfl (za (pv 1) (za (pv 0) (za (pv 2) (za (pv 3) ze))))) (λ_=>rfl))))) (λ_ _ _ _ _ _ _ _=>(pv 0))))))),?_⟩
  have s16:=ya
  have s16:=ya
  obtain⟨dx,xs0,h1,h2,h3⟩:=id hy
  refine zk (λσ H'=>Same H H'/\∃r:oO,LsA K H' r (ps.map dR)/\σ=[sI (.ref y),sI (.int (m:Nat)),sI (.ref r),sJ]) ?_ ?_
  ·rfl'
   exact⟨_,_,h1,rfl,y,o,q,ps,rfl,hy,λr H1 s1 hA hr'=>⟨s1,r,hA,rfl⟩⟩
  rintro σ H1 ⟨s1,r,hA,rfl⟩
  refine zk (λσ H'=>Same H H'/\LsA K H' r (ps.map dR)/\∃F:oO,H F=sJ/\H' F=sI (jd P w F (λ_=>sJ) 0)/\σ=[sI (.ref y),sI (.int (m:Nat)),sI (.ref r),sI (.ref F)]) ?_ ?_
  ·rfl'
   simp only[zbz]
   intro F hF
   have s2:=zd (o:=jd P w F (λ_=>sJ) 0) hF
   rfl'
   exact⟨s1.trans s2,hA.same s2,F,s1.free hF,zc,rfl⟩
  rintro σ H2 ⟨s2,hA2,F,hF0,hF,rfl⟩
  rfl'
  refine Zy hA2.is hok λO H3 hO s3 hL=>⟨O,rfl,?_,λD hD=>?_⟩
  ·obtain⟨xs,hX,_⟩:=hL
   exact⟨_,SqL.of hX⟩
  obtain⟨xs,hX,hI⟩:=hL
  have hxl:=hI.len
  rw[ae] at hxl
  have hF3:=s3 _ _ hF
  have s03:=s2.trans s3
  have hDF:D≠F:=λz=>by rw[z,hF3] at hD;cases hD
  have hOF:O≠F:=λz=>by rw[z,hF3] at hX;cases hX
  have back:∀{G:Hp},SamT F H3 G->Same H G:=λ{G} sT b o' e=>sT b o' (λz=>by rw[z,hF0] at e;cases e) (s03 b o' e)
  refine CompL.by (xs:=xs) (λi sP H'=>SamT F H3 H'/\H' D=sI (.lst sP)/\(∃(mp:oV->Option V) (n:Nat),H' F=sI (jd P w F mp n)/\FmOk ps (m:Nat) mp/\n<=2 * i)/\Iss K H3 ((((ovA ps ps.length).take i).filter λt=>!Uo ps m t).map d3) sP/\∀t ∈ (ovA ps ps.length).take i,OkG ps m t) ⟨SamT.of (zd hD),zc,⟨_,0,by rw[zo (λz=>hDF z.symm)];exact hF3,FmOk.nil,by lia⟩,by simp only[br,di,aP,Iss],λt ht=>by simp at ht⟩ (λi sP H' _ h=>SqL.of (h.1 _ _ hOF hX)) ?_ ?_
  ·rintro i x sP H' hx ⟨sT,hH,⟨mp,n,hFm,hM,hn⟩,hI',hle⟩
   have hil:=(sQ.mp hx).1
   obtain⟨t,p,ht,rfl,hp⟩:=hI.get3 hx
   have htm:=ac ht
   have hE':=hE.2 t htm
   have hal:sP.length<=i:=by
    have:=hI'.len
    rw[ae] at this
    have h5:=cS (λt=>!Uo ps m t) ((ovA ps ps.length).take i)
    rw[az] at h5
    lia
   simp only[zbI,tBl]
   rfl'
   refine⟨yF,r,p,F,ps,t,(m:Nat),n,mp,_,_,rfl,Xn sT hF3 (hA2.same s3),hN,hok,qp sT hF3 hp,htm,hFm,hM,by lia,Vd hE'.1 hE.1,Vd hE'.2 hE.1,λJ1 J2 mp' n' H5 e1 e2 s5 hF5 hM5 hn5=>?_,λh H5 s5=>k2 t htm (zbl h) H5 (back (sT.trans s5))⟩
   have hle':∀t' ∈ (ovA ps ps.length).take (i+1),OkG ps m t':=λt' ht'=>by
    rw[zQ ht] at ht'
    rcases sV.mp ht' with h | h
    ·exact hle t' h
    ·rw[sX.mp h]
     exact⟨by rw[e1];rfl,by rw[e2];rfl⟩
   rw[KH e1 e2]
   have hcase:∀b,Uo ps m t=b->(!b)=sK->Iss K H3 ((((ovA ps ps.length).take (i+1)).filter λt=>!Uo ps m t).map d3) (sP ++ [.ref p]):=λb hb hb'=>by
    rw[zQ ht,cN,ay]
    refine Iss.append hI' ?_
    rw[eK,hb,if_pos hb']
    simp only[di,au,aP,Iss]
    refine⟨_,[],rfl,?_,rfl⟩
    simp only[d3,Is,Iss]
    exact⟨p,_,rfl,hp,_,_,rfl,rfl,_,_,rfl,rfl,_,_,rfl,rfl,rfl⟩
   refine⟨_,rfl,?_⟩
   cases hb:Uo ps m t with
   | false =>
    rw[if_pos rfl]
    refine⟨s5 _ _ hDF hH,by lia,CNx.mk hil ⟨λb o' hbF e=>?_,zc,⟨mp',n',by rw[zo (λz=>hDF z.symm)];exact hF5,hM5,by lia⟩,hcase _ hb rfl,hle'⟩⟩
    rw[zo (λz=>by rw[z,hD] at e;cases e)]
    exact s5 b o' hbF (sT b o' hbF e)
   | true =>
    rw[if_neg (by decide)]
    refine CNx.mk hil ⟨sT.trans s5,s5 _ _ hDF hH,⟨mp',n',hF5,hM5,by lia⟩,?_,hle'⟩
    rw[zQ ht,cN,eK,hb]
    simp only[Bool.not_true,bF,if_false,di,aT]
    exact hI'
  ·rintro sP H' ⟨sT,hH,_,hI',hle⟩
   rw[hxl,aK] at hI' hle
   exact k1 hle D H' (back sT) (s03.free hD) ⟨sP,hH,Zc sT hF3 hI'⟩
theorem JH{p:oO}{a b:V}{i j:Nat}{σ:L2.St}{R:L2.St->Hp->Prop}(h:SqT K H p [a,b])(k:R ((σ.set i (sI a)).set j (sI b)) H):K9 K 2 (kA (xg i) (kA (xg j) K6)) (.ref p) σ H R:=by
 simp only[K9,kA,xg,K6]
 first
 | exact⟨_,_,rfl,h,rfl,_,_,rfl,_,_,rfl,rfl,k⟩
 | exact⟨_,_,rfl,.inr h,rfl,_,_,rfl,_,_,rfl,rfl,k⟩
theorem EnsA.app{fs:List Ent}{us:List V}(hf:EnsA K H fs us):∀{es:List Ent} {vs:List V},EnsA K H es vs->EnsA K H (es ++ fs) (vs ++ us)
 | [],vs,h=>by
  simp only[EnsA] at h
  subst h
  exact hf
 | e::es,vs,h=>by
  simp only[EnsA] at h
  obtain⟨x,r,rfl,hx,hr⟩:=h
  simp only[bJ,EnsA]
  exact⟨x,r ++ us,rfl,hx,hf.app hr⟩
abbrev MkS(P:oU)(w:oW)(K:oN)(mg:oV->Option oP)(base:oZ)(CO CR CW CT CH:oO):Prop:=DMk P w K mg base (CXx P w) 5 CH ["self","order","rules"] (qb K CO CR CW CT CH)
theorem BG.inL{l:List Nat}(h:BG k l ns bs):InL l (zb bs):=λp hp=>by
 obtain⟨e,he,rfl⟩:=sS.mp hp
 have b:=h.e e he
 exact⟨aJ b.a (by decide),aJ b.b (by decide),b.ma,b.mb⟩
theorem BG.fault{l:List Nat}(h:BG k l ns bs):yX k l ns (zb bs) 0=sJ:=wZ λm p e=>by
 obtain⟨e',he,rfl⟩:=sS.mp (ac e)
 exact h.lt e' he
theorem UX{Q:oO->Hp->Prop}{CO CR CW CT CH o a:oO}{l:List Nat}(ho:OrdAt CO CR CW H o k l ns)(hG:OG l ns k)(hA:LsA K H a (ps.map dR))(hin:InL l ps)(q1:∀i,yX k l ns ps 0=sI i->∀H1,Same H H1->∀d H',zaX H1 d "number" (.int (i:Nat)) H'->E (.ref CT) (sI d) H')(q:yX k l ns ps 0=sJ->∀(y qa:oO) (H':Hp),Same H H'->QD K CH H' y o qa ps->Q y H'):∀x dx,H x=sJ->H dx=sJ->dx≠x->qb K CO CR CW CT CH [.ref x,.ref o,.ref a] (upd (upd H dx (.own x)) x (.ins CH dx [])) (λv H'=>v=.non/\Q x H') E:=by
 intro x dx hx hdx hne
 obtain⟨xs,hX,hI⟩:=hA
 have sd:=zd (o:=.own x) hdx
 have k1:Same H (upd (upd H dx (.own x)) x (.ins CH dx [])):=λb' o' e=>by
  rw[zo (zF e hx)]
  exact sd _ _ e
 refine⟨x,dx,o,a,k,l,ns,ps,xs,rfl,zc,ho.same k1,hG,k1 _ _ hX,Iss.same k1 _ _ hI,hin,λi e H1 s1=>q1 i e H1 (k1.trans s1),λhf q1 H'' kp hx' hq' hqn=>⟨rfl,?_⟩⟩
 have k3:Same H H'':=λb' o' e=>kp b' o' (λz=>by rw[z,hx] at e;cases e) (k1 _ _ e)
 exact q hf x q1 H'' k3 ⟨dx,xs,hx',hq',Iss.same k3 _ _ hI⟩
def uV(K:oN)(CO CR CW CT CH:oO):Sp:=λvs H Q E=>∃(o a:oO) (k:Nat) (l:List Nat) (ns:List Int) (bs:List Ent),vs=[.ref o,.ref a]/\OrdAt CO CR CW H o k l ns/\OG l ns k/\EnsL K H a bs/\bs.length<=1000/\InL l (zb bs) /\
 (∀i,yX k l ns (zb bs) 0=sI i->∀H1,Same H H1->∀d H',zaX H1 d "number" (.int (i:Nat)) H'->E (.ref CT) (sI d) H') /\
 (yX k l ns (zb bs) 0=sJ->∀(y qa:oO) (H':Hp),Same H H'->QD K CH H' y o qa (zb bs)->Q (.ref y) H')
theorem k8:zp ["order","entries"] ["order","entries"] (zh vk):=by nofun
theorem ZK{f CO CR CW CT CH:oO}(B:Bt mg)(TS:K7 K mg CH)(MS:MkS P w K mg base CO CR CW CT CH)(F:Fun K "system_by" "system_by" vk f fd)(gm:Df P w K mg base CX0 1 "pairs_of" ["entries"] [] (xX K)):z8 P w K mg base (CXx P w) 7 f fd ["order","entries"] (uV K CO CR CW CT CH):=by
 refine Fun.okX F k8 (λvs H Q E h=>?_) (λcdv A outer s H vs Q E hr hx h=>?_)
 ·obtain⟨o,a,k,l,ns,bs,rfl,_⟩:=h
  rfl
 ·obtain⟨o,a,k,l,ns,bs,rfl,ho,hG,hA,hb,hB,q1,q⟩:=h
  refine⟨_,(zg (zt (zc8 hx MS hr rfl TS.g (za (pv 0) (za (cl0 gm hr .nil rfl (za (pv 1) ze)) ze))))),?_⟩
  have s16:=ya
  ac_rfl
  refine wK hA.is hb λD H' _ s' hL=>?_
  exact UX (ho.same s') hG hL hB (λi e H1 s1=>q1 i e H1 (s'.trans s1)) λhf y qa H'' s'' hy=>q hf y qa H'' (s'.trans s'') hy
noncomputable def fE(i:Nat)(p:zw):Ent:=(p.1,p.2,[((i:Int),(0:Int),sK)])
noncomputable def fEs(rs:List zw):Nat->List Ent
 | 0=>[]
 | n+1=>fEs rs n ++ ((rs[n]?).map (fE n)).toList
theorem UY{n:Nat}{p:zw}(h:rs[n]? = sI p):fEs rs (n+1)=fEs rs n ++ [fE n p]:=by
 show fEs rs n ++ ((rs[n]?).map (fE n)).toList=_
 rw[h]
 rfl
theorem Ww(rs:List zw):∀n,(fEs rs n).length<=n
 | 0=>am _
 | n+1=>by
  have:=Ww rs n
  show (fEs rs n ++ ((rs[n]?).map (fE n)).toList).length<=_
  rw[ak]
  cases rs[n]? with
  | none=>simp;lia
  | some p=>simp;lia
theorem ke:∀{n:Nat} {e:Ent},e ∈ fEs rs n->∃i p,i<n/\rs[i]? = sI p/\e=fE i p
 | 0,e,h=>(nomatch h)
 | n+1,e,h=>by
  have h':e ∈ fEs rs n ++ ((rs[n]?).map (fE n)).toList:=h
  rcases sV.mp h' with h | h
  ·obtain⟨i,p,hi,hp,he⟩:=ke h
   exact⟨i,p,by lia,hp,he⟩
  ·cases hn:rs[n]? with
   | none=>rw[hn] at h;simp at h
   | some p =>
    rw[hn] at h
    exact⟨n,p,by lia,hn,by simpa using h⟩
def jI(K:oN):Sp:=λvs H Q _=>∃(a:oO) (rs:List zw),vs=[.ref a]/\LsA K H a (rs.map dR)/\rs.length<=20/\∀(D:oO) (H':Hp),Same H H'->H D=sJ->EnsM K H' D (fEs rs rs.length)->Q (.ref D) H'
theorem uC:zp ["pacts"] ["pacts"] (zh yE):=by nofun
theorem uD(B:Bt mg)(F:Fun K "first_entries" "first_entries" yE f fd) : z8 P w K mg base CX0 1 f fd ["pacts"] (jI K):=by
 refine F.ok uC (λvs H Q E h=>?_) (λcdv A outer s H vs Q E hr h=>?_)
 ·obtain⟨a,rs,rfl,_⟩:=h
  rfl
 ·obtain⟨a,rs,rfl,hA,hrl,q⟩:=h
  refine⟨_,(zg (zt (yu (g:=K9 K 2 (kA (xg 0) (kA (xg 1) K6))) (own:=["number","pact"]) (caps:=[]) (ix:=[]) (tt:=xL) (te:=(Ur (zJ (tOp (vN K) (yo 1) (tC (.int 0))) (zJ (tOp (vN K) (yo 1) (tC (.int 1))) (zJ (zcA (zJ (Ur (zJ (yo 0) (zJ (tC (.int 0)) (zJ (tC (.bl sK)) xS)))) xS)) xS))))) rfl (zL (sc:=zh yE) rfl (by symm) (by symm) (by symm) rfl (by symm) (by symm) rfl) (xA rfl B.enum (za (pv 0) ze)) (λ_ _ _ _ _ _=>vd (n:=2) rfl (zN (zy (i:=0) (show List.Nodup [_,_] by decide) rfl (.inl rfl)) (zN (zy (i:=1) (show List.Nodup [_,_] by decide) rfl (.inl rfl)) xJ))) (λ_ _ _ _ _ _=>yg) (λ_ _ _ _ _ _=>(zY (za (zr ix_tup (pv 1) zf (λ_ _=>rfl)) (za (zr ix_tup (pv 1) zf (λ_ _=>rfl)) (za (vD (za (zY (za (pv 0) (za zf (za yw ze)))) ze)) ze)))))))),?_⟩
  have s16:=ya
  have s16:=ya
  obtain⟨xs,hX,hI⟩:=id hA
  have hxl:=hI.len
  rw[ae] at hxl
  ac_rfl
  rw[zbj]
  ac_rfl
  refine⟨⟨_,SqL.of hX⟩,λD hD=>CompEL.by (xs:=xs) (λi sP H'=>Same H H'/\H' D=sI (.lst sP)/\sP.length<=i/\EnsA K (jh D H') (fEs rs i) sP) ⟨zd hD,zc,am _,rfl⟩ (λi sP H' _ h=>SqL.of (h.1 _ _ hX)) ?_ ?_⟩
  ·rintro i x sP H' p hx ⟨hs,hH,hal,hEn⟩ hp
   have hil:=(sQ.mp hx).1
   obtain⟨r,pr,hri,rfl,hqr⟩:=hI.getR hx
   have u1:=zd (o:=HO.tup [.int (i:Nat),.ref pr]) hp
   have hq:=zj (hs.trans u1) hqr
   refine JH (SqT.of zc) ?_
   simp only[xL]
   rfl'
   refine⟨Q5,_,hq,_,rfl,_,hq,_,rfl,by lia,λp1 hp1=>⟨by lia,λp2 hp2=>⟨by lia,λp3 hp3=>?_⟩⟩⟩
   have u2:=zd (o:=HO.tup [.int (i:Nat),.int 0,.bl sK]) hp1
   have u3:=zd (o:=HO.lst [.ref p1]) hp2
   have u4:=zd (o:=HO.tup [.str (tx r.1),.str (tx r.2),.ref p2]) hp3
   have u:=u1.trans (u2.trans (u3.trans u4))
   have hD4:=u _ _ hH
   have hp2D:p2≠D:=λz=>by rw[z,u2 _ _ (u1 _ _ hH)] at hp2;cases hp2
   refine⟨hD4,by lia,CNx.mk hil ⟨zE (hs.trans u) hD,zc,by rw[ak];simp only[aN,cK];lia,?_⟩⟩
   rw[UY hri]
   refine (hEn.same ((wB u).trans xz)).snoc (EnA.same ?_ xz)
   refine EnA.new (e:=fE i r) hD4 zc ⟨_,u4 _ _ zc,?_⟩ hp2D
   show Iss K _ [dSt ((i:Int),(0:Int),sK)] _
   exact JP (YI (SqT.of (u4 _ _ (u3 _ _ zc))))
  ·rintro sP H' ⟨hs,hH,hal,hEn⟩
   rw[hxl] at hEn
   exact q D H' hs hD ⟨sP,hH,hEn.same wN⟩
noncomputable def jC(es:List Ent):Bool:=decide (12<es.length) || es.any λe=>decide (10<max e.1.length e.2.1.length)
structure TMc(mg:oV->Option oP):Prop where
 u:∃t,mg "MOST_USES_completing" = sI (.int 40 t)
 e:∃t,mg "MOST_ENTRIES" = sI (.int 12 t)
 d:∃t,mg "MOST_SIDE_completing" = sI (.int 10 t)
 p:∃t,mg "MOST_PEAKS" = sI (.int 8 t)
def jb(K:oN):Sp:=λvs H Q _=>∃(a:oO) (es:List Ent),vs=[.ref a]/\EnsL K H a es/\es.length<64/\(∀e ∈ es,e.1.length<=10000/\e.2.1.length<=10000)/\∀H',Same H H'->Q (.bl (jC es)) H'
theorem kZ:zp ["entries"] ["entries"] (zh wg):=by nofun
theorem kL(B:Bt mg)(hany:zcL mg)(TM:TMc mg)(F:Fun K "is_beyond" "is_beyond" wg f fd) : z8 P w K mg base CX0 1 f fd ["entries"] (jb K):=by
 obtain⟨⟨t9,g9⟩,⟨t8,g8⟩⟩:=And.intro TM.e TM.d
 refine F.ok kZ (λvs H Q E h=>?_) (λcdv A outer s H vs Q E hr h=>?_)
 ·obtain⟨a,es,rfl,_⟩:=h
  rfl
 ·obtain⟨a,es,rfl,hA,hl,hE,q⟩:=h
  refine⟨_,(zi (zR (zG WF (zm zZ rfl B.len ax (za (pv 0) ze)) (yK (v:=.int 12) rfl g9 ⟨t9,rfl⟩) (zI _))
    (zg (zt yw))
    zA)
   (zg (zt (zm (zaJ rfl) rfl hany fg (za (yu (own:=["entry"]) (caps:=[]) (ix:=[]) (tt:=xL) (te:=(tOp zb9 (tCB Kx (zJ (tCB (JR K) (zJ (tOp (vN K) (yo 0) (tC (.int 0))) xS)) (zJ (tCB (JR K) (zJ (tOp (vN K) (yo 0) (tC (.int 1))) xS)) xS))) (tC (.int 10)))) rfl (zL (sc:=zh wg) rfl (by symm) (by symm) (by symm) rfl (by symm) (by symm) rfl) (yt (pv 0)) (λ_ _ _ _ _ _=>zy (i:=0) (show List.Nodup [_] by decide) rfl (.inl rfl)) (λ_ _ _ _ _ _=>yg) (λ_ _ _ _ _ _=>(wz WF (zm (V1 rfl) rfl B.max uY (za (zm zZ rfl B.len ax (za (zr ix_tup (pv 0) zf (λ_ _=>rfl)) ze)) (za (zm zZ rfl B.len ax (za (zr ix_tup (pv 0) zf (λ_ _=>rfl)) ze)) ze))) (yK (v:=.int 10) rfl g8 ⟨t8,rfl⟩) (zI _)))) ze))))),?_⟩
  have s16:=ya
  have s16:=ya
  obtain⟨xs,hX,hEn⟩:=id hA
  have hxl:=hEn.len
  refine zk (λσ H'=>H'=H/\¬ 12<es.length/\σ=[sI (.ref a)]) ?_ ?_
  ·ac_rfl
   refine⟨_,.inl ⟨_,hX,rfl⟩,yT (λh=>?_) λh=>by lia⟩
   have e:jC es=sK:=by
    unfold jC
    rw[decide_eq_true (by lia),Bool.true_or]
   rw[<- e]
   exact q H (Same.refl _)
  rintro σ H1 ⟨rfl,h12,rfl⟩
  ac_rfl
  refine⟨⟨_,hX⟩,λD hD=>CompL.by (xs:=xs) (λi sP H'=>Same H1 H'/\H' D=sI (.lst sP)/\sP=((es.take i).map λe=>decide (10<max e.1.length e.2.1.length)).map V.bl) ⟨zd hD,zc,rfl⟩ (λi sP H' _ h=>h.1.seq hX) ?_ ?_⟩
  ·rintro i x sP H' hx ⟨hs,hH,rfl⟩
   have hil:=(sQ.mp hx).1
   obtain⟨e,p,s,he,rfl,hp,_⟩:=hEn.get hx
   have hq:=zj hs hp
   have hb:=hE e (ac he)
   simp only[xL]
   rfl'
   refine⟨yF,_,hq,_,rfl,_,⟨by rw[zD];lia,rfl⟩,_,hq,_,rfl,_,⟨by rw[zD];lia,rfl⟩,hH,by rw[ae,ae,az];lia,CNx.mk hil ⟨zE hs hD,zc,?_⟩⟩
   rw[zQ he,ay,ay,zD,zD]
   congr 1
   show [V.bl _]=[V.bl _]
   congr 2
   refine decide_eq_decide.mpr ?_
   split <;> lia
  ·rintro sP H' ⟨hs,hH,rfl⟩
   rw[hxl,aK] at hH
   refine⟨D,_,rfl,SqL.of hH,?_⟩
   have e:(es.map λe=>decide (10<max e.1.length e.2.1.length)).any id=jC es:=by
    unfold jC
    rw[decide_eq_false h12,Bool.false_or,List.any_map]
    rfl
   rw[e]
   exact q H' hs
theorem qK(h:jC es=sL):es.length<=12/\∀e ∈ es,e.1.length<=10/\e.2.1.length<=10:=by
 unfold jC at h
 rw[Bool.or_eq_false_iff] at h
 refine⟨by have:=of_decide_eq_false h.1;lia,λe he=>?_⟩
 have:=List.any_eq_false.mp h.2 e he
 have h2:¬ 10<max e.1.length e.2.1.length:=λz=>this (decide_eq_true z)
 lia
def WQ(K:oN)(CO CR CW T:oO):Sp:=λvs H Q _=>∃(o a:oO) (k:Nat) (l:List Nat) (ns:List Int) (es:List Ent),vs=[.ref o,.ref a]/\OrdAt CO CR CW H o k l ns/\OG l ns k/\EnsL K H a es/\es.length<64/\(∀e ∈ es,EB l e)/\TabOk H T lp lq /\
 (∀(bs:List Ent) (D:oO) (H':Hp),vS k l ns 20 es (sI bs)->BG k l ns bs->jC bs=sL->SamT T H H'->TabOk H' T lp lq->EnsM K H' D bs->Q (.ref D) H')/\((vS k l ns 20 es sJ\/∃bs,vS k l ns 20 es (sI bs)/\jC bs=sK)->∀H',SamT T H H'->TabOk H' T lp lq->Q .non H')
structure zcV(K:oN)(CF:oO):Prop where
 s:cq K (.ref CF) (.ref CF)=sI sK
theorem iZ:zp ["order","entries","slim"] ["order","entries"] (zh yU):=by nofun
theorem ug{f CO CR CW TB CF:oO}(B:Bt mg)(TFx:zad K mg CF)(TSb:zcV K CF)(F:Fun K "thinned_within" "thinned_within" yU f fd)(nZ:Df P w K mg base (CXx P w) 7 "thinned" ["order","entries"] [] (ZV K CO CR CW TB CF))(nQ:Df P w K mg base CX0 1 "is_beyond" ["entries"] [] (jb K)):z8 P w K mg base CX0 8 f fd ["order","entries"] (WQ K CO CR CW TB):=by
 refine F.ok iZ (λvs H Q E h=>?_) (λcdv A outer s H vs Q E hr h=>?_)
 ·obtain⟨o,a,k,l,ns,es,rfl,_⟩:=h
  rfl
 ·obtain⟨o,a,k,l,ns,es,rfl,ho,hG,hA,hz,hE,hTab,q1,q2⟩:=h
  refine⟨_,(zi (Qm (i:=2) (th:=(zbH (tC .non))) iZ.nd rfl (.inl rfl) (.inl rfl) ⟨rfl,rfl⟩ (clX nZ hr .nil rfl (za (pv 0) (za (pv 1) ze))) rfl TFx.g TFx.xi.ok (λe=>(zg (zt wn))))
   (zg (zt (kg (yL (cl0 nQ hr .nil rfl (za (pv 2) ze)) (λ_=>rfl)) wn (pv 2))))),?_⟩
  have s16:=ya
  have s16:=ya
  refine zk (λσ H'=>SamT TB H H'/\TabOk H' TB lp lq/\∃(bs:List Ent) (D:oO),vS k l ns 20 es (sI bs)/\BG k l ns bs/\EnsM K H' D bs/\σ=[sI (.ref o),sI (.ref a),sI (.ref D)]) ?_ ?_
  ·simp only[Jk]
   ac_rfl
   exact⟨o,a,k,l,ns,es,rfl,ho,hG,hA,hz,hE,hTab,λbs D H' h1 h2 h3 h4 h5=>⟨h3,h4,bs,h1,h2,D,h5,rfl⟩,λh H' h3 h4=>⟨CF,rfl,TSb.s,λx hx=>q2 (.inl h) _ (h3.trans (SamT.of (zd hx))) (h4.same (zd hx))⟩⟩
  rintro σ H1 ⟨s1,hT1,bs,D,hTh,hB,hM,rfl⟩
  ac_rfl
  exact⟨D,bs,rfl,hM.l,hB.n,λe he=>⟨aJ (hB.e e he).a (by decide),aJ (hB.e e he).b (by decide)⟩,λH' s'=>⟨_,rfl,yT (λh=>q2 (.inr ⟨bs,hTh,h⟩) H' (s1.trans (SamT.of s')) (hT1.same s')) λh=>q1 bs D H' hTh hB (by simpa using h) (s1.trans (SamT.of s')) (hT1.same s') (hM.same s')⟩⟩
theorem uP(w:List Nat)(k:Int)(o n:List Nat):(yI w k o n).length<=w.length+n.length:=by
 unfold yI
 rw[ak,ak,az,aR]
 lia
theorem BG.ok{l:List Nat}(h:BG k l ns bs)(hl:bs.length<=30):Wa (zb bs):=by
 refine⟨by unfold zb;rw[ae];exact hl,λr hr=>?_⟩
 obtain⟨e,he,rfl⟩:=sS.mp hr
 exact⟨aJ (h.e e he).a (by decide),aJ (h.e e he).b (by decide)⟩
theorem zaL(hok:∀r ∈ ps,r.1.length<=60/\r.2.length<=60){t:N3}(ht:t ∈ ovA ps ps.length):(pkA ps t).length<=180/\(pkB ps t).length<=180:=by
 obtain⟨i1,i2,i3,i4⟩:=vQ ht
 obtain⟨r,hr⟩:∃r,ps[t.1]? = sI r:=⟨_,aj i1⟩
 obtain⟨r2,hr2⟩:∃r,ps[t.2.1]? = sI r:=⟨_,aj i2⟩
 have l1:=wo hr
 have l2:=wo hr2
 have d1:ps.getD t.1 ([],[])=r:=by rw[af,hr];rfl
 have d2:ps.getD t.2.1 ([],[])=r2:=by rw[af,hr2];rfl
 rw[l1] at i3
 have b1:=hok r (ac hr)
 have b2:=hok r2 (ac hr2)
 have hp:=ww r.1 r2.1 t.2.2 (by lia)
 have p1:=uP (z6 r.1 r2.1 t.2.2) 0 r.1 r.2
 have p2:=uP (z6 r.1 r2.1 t.2.2) (t.2.2:Nat) r2.1 r2.2
 unfold pkA pkB
 rw[l1,l2,d1,d2]
 lia
theorem za8(hN:NeL ps)(hok:∀r ∈ ps,r.1.length<=60/\r.2.length<=60):zc9 ps 40:=by
 refine⟨by decide,λt ht=>?_⟩
 obtain⟨h1,h2⟩:=zaL hok ht
 have key:∀(v:List Nat),v.length<=180->∀j,j<=40->(wAt ps v j).length<=10000:=λv hv j hj=>by
  have:=qT (l:=v) hN (λp hp=>(hok p hp).2) j
  have h3:j * 60<=40 * 60:=Nat.mul_le_mul hj (am _)
  lia
 exact⟨key _ h1,key _ h2⟩
def Ve(K:oN)(CO CR CW:oO):Sp:=λvs H Q _=>∃(o a:oO) (k:Nat) (l:List Nat) (ns:List Int) (bs:List Ent),vs=[.ref o,.ref a]/\OrdAt CO CR CW H o k l ns/\OG l ns k/\EnsL K H a bs/\BG k l ns bs/\bs.length<=30/\(ovA (zb bs) (zb bs).length).length<=4000 /\
 ((∀t ∈ ovA (zb bs) (zb bs).length,OkG (zb bs) 40 t)->∀D H',Same H H'->LsA K H' D ((unG (zb bs) 40).map d3)->Q (.ref D) H')/\(∀t ∈ ovA (zb bs) (zb bs).length,¬ OkG (zb bs) 40 t->∀H',Same H H'->Q .non H')
theorem qe:zp ["order","entries"] ["order","entries"] (zh xF):=by nofun
theorem qy{f CO CR CW CF CT CH:oO}{lN:rF}(B:Bt mg)(TFx:zad K mg CF)(TSb:zcV K CF)(TM:TMc mg)(F:Fun K "unmet_within" "unmet_within" xF f fd)(ot:Df P w K mg base (CXx P w) 7 "unmet" ["system","most"] [] (vE K CH CF))(DD_unmet:Df P w K mg base (CXx P w) 7 "unmet" ["system","most"] [.int 4000 lN] (vE K CH CF))(iO:Df P w K mg base (CXx P w) 7 "system_by" ["order","entries"] [] (uV K CO CR CW CT CH)):z8 P w K mg base CX0 9 f fd ["order","entries"] (Ve K CO CR CW):=by
 obtain⟨t9,g9⟩:=TM.u
 refine F.ok qe (λvs H Q E h=>?_) (λcdv A outer s H vs Q E hr h=>?_)
 ·obtain⟨o,a,k,l,ns,bs,rfl,_⟩:=h
  rfl
 ·obtain⟨o,a,k,l,ns,bs,rfl,ho,hG,hA,hB,hbl,hol,q1,q2⟩:=h
  refine⟨_,(zg (Qa (th:=(zbH (tC .non))) ⟨rfl,rfl⟩ (clX ot hr .nil rfl (za (clP xe0 iO hr .nil rfl (za (pv 0) (za (pv 1) ze))) (za (yK (v:=.int 40) rfl g9 ⟨t9,rfl⟩) ze))) rfl TFx.g TFx.xi.ok (λe=>(zg (zt wn))))),?_⟩
  have s16:=ya
  have s16:=ya
  simp only[Ji]
  ac_rfl
  have hsd:∀r ∈ zb bs,r.1.length<=60/\r.2.length<=60:=λr hr=>by
   obtain⟨e,he,rfl⟩:=sS.mp hr
   exact⟨(hB.e e he).a,(hB.e e he).b⟩
  exact⟨o,a,k,l,ns,bs,rfl,ho,hG,hA,by have:=hB.n;lia,hB.inL,λi e=>by (rw[hB.fault] at e;cases e),λ_ y qa H' s' hy=>⟨y,o,qa,zb bs,40,rfl,hy,hB.ne hG,hB.ok hbl,hol,za8 (hB.ne hG) hsd,λh D H'' s'' _ hL=>q1 h D H'' (s'.trans s'') hL,λt ht h H'' s''=>⟨CF,rfl,TSb.s,λx hx=>q2 t ht h _ (s'.trans (s''.trans (zd hx)))⟩⟩⟩
noncomputable def jk(es:List Ent)(t:N3):Ent:=(pkA (zb es) t,pkB (zb es) t,byL es [((t.1:Int),(0:Int),sL),((t.2.1:Int),(t.2.2:Int),sK)])
def uS(K:oN):Sp:=λvs H Q _=>∃(a t:oO) (es:List Ent) (tr:N3),vs=[.ref a,.ref t]/\EnsL K H a es/\SqT K H t [.int (tr.1:Nat),.int (tr.2.1:Nat),.int (tr.2.2:Nat)]/\tr ∈ ovA (zb es) (zb es).length/\Wa (zb es)/\(∀e ∈ es,e.2.2.length<=600)/\∀(p s:oO) (H':Hp),Same H H'->H' p=sI (.tup [.str (tx (jk es tr).1),.str (tx (jk es tr).2.1),.ref s])->LsA K H' s ((jk es tr).2.2.map dSt)->H s=sJ->Q (.ref p) H'
theorem lJ:zp ["entries","overlap","sides","steps"] ["entries","overlap"] (zh vU):=by nofun
theorem Yi(B:Bt mg)(F:Fun K "entry_of" "entry_of" vU f fd)(nL:Df P w K mg base CX0 4 "peak" ["rules","overlap"] [] (qi K))(la:Df P w K mg base CX0 2 "by_pacts" ["entries","steps"] [] (Uh K))(gm:Df P w K mg base CX0 1 "pairs_of" ["entries"] [] (xX K)):z8 P w K mg base CX0 5 f fd ["entries","overlap"] (uS K):=by
 refine F.ok lJ (λvs H Q E h=>?_) (λcdv A outer s H vs Q E hr h=>?_)
 ·obtain⟨a,t,es,tr,rfl,_⟩:=h
  rfl
 ·obtain⟨a,t,es,tr,rfl,hA,ht,htr,hok,hst,q⟩:=h
  refine⟨_,(zi (zq (i:=2) lJ.nd rfl (.inl rfl) (cl0 nL hr .nil rfl (za (cl0 gm hr .nil rfl (za (pv 0) ze)) (za (pv 1) ze))))
   (zi (zq (i:=3) lJ.nd rfl (.inl rfl) (cl0 la hr .nil rfl (za (pv 0) (za (vD (za (zY (za (zr ix_tup (pv 1) zf (λ_ _=>rfl)) (za zf (za yw ze)))) (za (zY (za (zr ix_tup (pv 1) zf (λ_ _=>rfl)) (za (zr ix_tup (pv 1) zf (λ_ _=>rfl)) (za yw ze)))) ze))) ze))))
   (zg (zt (zY (za (zr ix_tup (pv 2) zf (λ_ _=>rfl)) (za (zr ix_tup (pv 2) zf (λ_ _=>rfl)) (za (pv 3) ze)))))))),?_⟩
  have s16:=ya
  have s16:=ya
  have hlp:(zb es).length=es.length:=by unfold zb;rw[ae]
  obtain⟨i1,i2,i3,i4⟩:=vQ htr
  obtain⟨r,hr1⟩:∃r,(zb es)[tr.1]? = sI r:=⟨_,aj i1⟩
  obtain⟨r2,hr2⟩:∃r,(zb es)[tr.2.1]? = sI r:=⟨_,aj i2⟩
  have l1:=wo hr1
  have l2:=wo hr2
  have d1:(zb es).getD tr.1 ([],[])=r:=by rw[af,hr1];rfl
  have d2:(zb es).getD tr.2.1 ([],[])=r2:=by rw[af,hr2];rfl
  have eA:pkA (zb es) tr=yI (z6 r.1 r2.1 tr.2.2) 0 r.1 r.2:=by unfold pkA;rw[l1,l2,d1]
  have eB:pkB (zb es) tr=yI (z6 r.1 r2.1 tr.2.2) (tr.2.2:Nat) r2.1 r2.2:=by unfold pkB;rw[l1,l2,d2]
  rw[l1] at i3
  rw[l1,l2] at i4
  refine zk (λσ H'=>Same H H'/\∃p:oO,(∃x,H' p=sI (.tup [x,.str (tx (pkA (zb es) tr)),.str (tx (pkB (zb es) tr))]))/\σ=[sI (.ref a),sI (.ref t),sI (.ref p),sJ]) ?_ ?_
  ·rfl'
   refine wK hA.is (by have:=hok.1;lia) λD H1 _ s1 hL=>?_
   exact Xo hL.is (zj s1 ht) hok hr1 hr2 (by lia) i4 λp H' _ s' hp=>⟨s1.trans s',p,⟨_,by rw[eA,eB];exact hp⟩,rfl⟩
  rintro σ H1 ⟨s1,p,⟨x,hp⟩,rfl⟩
  refine zk (λσ H'=>Same H1 H'/\∃S:oO,H S=sJ/\LsA K H' S ((jk es tr).2.2.map dSt)/\σ=[sI (.ref a),sI (.ref t),sI (.ref p),sI (.ref S)]) ?_ ?_
  ·have ht1:=zj s1 ht
   rfl'
   refine⟨_,ht1,_,rfl,by lia,λp1 hp1=>?_⟩
   have u1:=zd (o:=HO.tup [.int (tr.1:Nat),.int 0,.bl sL]) hp1
   refine⟨_,zj u1 ht1,_,rfl,_,zj u1 ht1,_,rfl,by lia,λp2 hp2=>⟨by lia,λp3 hp3=>?_⟩⟩
   have u2:=zd (o:=HO.tup [.int (tr.2.1:Nat),.int (tr.2.2:Nat),.bl sK]) hp2
   have u3:=zd (o:=HO.lst [.ref p1,.ref p2]) hp3
   have u:=u1.trans (u2.trans u3)
   refine Vb (us:=[((tr.1:Int),(0:Int),sL),((tr.2.1:Int),(tr.2.2:Int),sK)]) (hA.same (s1.trans u)).is (LsA.is ⟨_,zc,?_⟩) (by simp) hst (λv hv=>?_) λD H' hDn s' hL=>⟨u.trans s',D,(s1.trans u).free hDn,hL,rfl⟩
   ·simp only[au,aP,Iss]
    exact⟨_,_,rfl,YI (SqT.of (u3 _ _ (u2 _ _ zc))),_,_,rfl,YI (SqT.of (u3 _ _ zc)),rfl⟩
   ·simp only[dF,eJ,or_false] at hv
    rcases hv with rfl | rfl
    ·exact⟨by simp,by show (tr.1:Int)<_;lia⟩
    ·exact⟨by simp,by show (tr.2.1:Int)<_;lia⟩
  rintro σ H2 ⟨s2,S,hSn,hS,rfl⟩
  rfl'
  exact⟨_,SqT.of (s2 _ _ hp),_,rfl,_,SqT.of (s2 _ _ hp),_,rfl,by lia,λp' hp'=>q p' S _ (s1.trans (s2.trans (zd hp'))) zc (hS.same (zd hp')) hSn⟩
theorem UB{l:List Nat}(h:¬ je e):¬ je (yk k l ns e):=by
 unfold yk
 split
 ·exact h
 ·unfold je at h ⊢
  rw[xu]
  show ¬ (240<e.2.2.length\/60<e.2.1.length\/60<e.1.length)
  lia
theorem Xs{l:List Nat}{bs es:List Ent}{r:Option (List Ent)}(h:xo k l ns bs es r):(∀e ∈ bs,¬ je e)->∀fs,r=sI fs->∀e ∈ fs,¬ je e:=by
 induction h with
 | nil bs=>exact λh fs e=>by cases e;exact h
 | same _ _ _ _ ih=>exact ih
 | new _ _ _ h4 _ ih =>
  intro h
  refine ih λe he=>?_
  rcases sV.mp he with he | he
  ·exact h e he
  ·rw[sX.mp he]
   exact UB h4
 | far _ _ _ _=>exact λ_ fs e=>by cases e
 | stuck _=>exact λ_ fs e=>by cases e
theorem qZ{k n:Nat}{l:List Nat}{r:Option (List Ent)}(h:vS k l ns n es r):∀fs,r=sI fs->∀e ∈ fs,¬ je e:=by
 induction h with
 | out es=>exact λfs e=>by cases e
 | bad _ _=>exact λfs e=>by cases e
 | done _ h2 _=>exact λfs e=>by cases e;exact Xs h2 (λe he=>(nomatch he)) _ rfl
 | more _ _ _ _ ih=>exact ih
theorem V7{M:Nat}(h:∀e ∈ es,e.2.2.length<=M)(u:Stp):(X2 es u).length<=M:=by
 have hg:(es.getD u.1.toNat ([],[],[])).2.2.length<=M:=by
  rw[af]
  cases e:es[u.1.toNat]? with
  | none=>exact aI _
  | some x=>exact h x (ac e)
 unfold X2
 rw[YR]
 split
 ·exact hg
 ·rw[xu]
  exact hg
inductive Cpl(k:Nat)(l:List Nat)(ns:List Int):Nat->List Ent->List Ent->Bool->List Ent->Prop where
 | out (kept fresh:List Ent):Cpl k l ns 0 kept fresh sL kept
 | slim {n:Nat} {kept fresh:List Ent} (h:vS k l ns 20 fresh sJ\/∃bs,vS k l ns 20 fresh (sI bs)/\jC bs=sK):Cpl k l ns (n+1) kept fresh sL kept
 | far {n:Nat} {kept fresh bs:List Ent} {t:N3} (h:vS k l ns 20 fresh (sI bs)) (hb:jC bs=sL) (ht:t ∈ ovA (zb bs) (zb bs).length) (ho:¬ OkG (zb bs) 40 t):Cpl k l ns (n+1) kept fresh sL bs
 | whole {n:Nat} {kept fresh bs:List Ent} (h:vS k l ns 20 fresh (sI bs)) (hb:jC bs=sL) (ho:∀t ∈ ovA (zb bs) (zb bs).length,OkG (zb bs) 40 t) (hu:unG (zb bs) 40=[]):Cpl k l ns (n+1) kept fresh sK bs
 | more {n:Nat} {kept fresh bs es:List Ent} {w:Bool} (h:vS k l ns 20 fresh (sI bs)) (hb:jC bs=sL) (ho:∀t ∈ ovA (zb bs) (zb bs).length,OkG (zb bs) 40 t) (hu:unG (zb bs) 40≠[]) (r:Cpl k l ns n bs (bs ++ ((unG (zb bs) 40).take 8).map (jk bs)) w es):Cpl k l ns (n+1) kept fresh w es
theorem za1(hl:ps.length<=12)(h:∀r ∈ ps,r.1.length<=10):(ovA ps ps.length).length<=4000:=by
 have lfl:∀i,(lf ps i).length<=10:=λi=>by
  cases e:ps[i]? with
  | none=>unfold lf;rw[af,e];exact aI _
  | some r=>rw[wo e];exact h r (ac e)
 have oI:∀i m,(ovI ps i m).length<=m * 10:=λi m=>by
  induction m with
  | zero=>exact aI _
  | succ m ih =>
   rw[u7,ak]
   have h1:=uJ ps i m (lf ps i).length
   have h2:=lfl i
   lia
 have oA:∀m,(ovA ps m).length<=m * 120:=λm=>by
  induction m with
  | zero=>exact aI _
  | succ m ih =>
   rw[kr,ak]
   have h1:=oI m ps.length
   lia
 have:=oA ps.length
 lia
theorem zci{l:List Nat}(hin:∀r ∈ ps,(∀c ∈ r.1,c ∈ l)/\∀c ∈ r.2,c ∈ l)(h10:∀r ∈ ps,r.1.length<=10/\r.2.length<=10){t:N3}(ht:t ∈ ovA ps ps.length):((pkA ps t).length<=60/\∀c ∈ pkA ps t,c ∈ l)/\(pkB ps t).length<=60/\∀c ∈ pkB ps t,c ∈ l:=by
 obtain⟨i1,i2,i3,i4⟩:=vQ ht
 obtain⟨r,hr⟩:∃r,ps[t.1]? = sI r:=⟨_,aj i1⟩
 obtain⟨r2,hr2⟩:∃r,ps[t.2.1]? = sI r:=⟨_,aj i2⟩
 have l1:=wo hr
 have l2:=wo hr2
 have d1:ps.getD t.1 ([],[])=r:=by rw[af,hr];rfl
 have d2:ps.getD t.2.1 ([],[])=r2:=by rw[af,hr2];rfl
 rw[l1] at i3
 have b1:=h10 r (ac hr)
 have b2:=h10 r2 (ac hr2)
 have n1:=hin r (ac hr)
 have n2:=hin r2 (ac hr2)
 have hp:=ww r.1 r2.1 t.2.2 (by lia)
 have p1:=uP (z6 r.1 r2.1 t.2.2) 0 r.1 r.2
 have p2:=uP (z6 r.1 r2.1 t.2.2) (t.2.2:Nat) r2.1 r2.2
 have hw:∀c ∈ z6 r.1 r2.1 t.2.2,c ∈ l:=λc hc=>by
  unfold z6 at hc
  rcases sV.mp hc with h | h
  ·exact n1.1 c h
  ·exact n2.1 c (bW h)
 have put:∀(k:Int) (o n:List Nat),(∀c ∈ n,c ∈ l)->∀c ∈ yI (z6 r.1 r2.1 t.2.2) k o n,c ∈ l:=λk o n hn c hc=>by
  unfold yI at hc
  rcases sV.mp hc with hc | hc
  ·rcases sV.mp hc with hc | hc
   ·exact hw c (bn hc)
   ·exact hn c hc
  ·exact hw c (bW hc)
 unfold pkA pkB
 rw[l1,l2,d1,d2]
 exact⟨⟨by lia,put _ _ _ n1.2⟩,by lia,put _ _ _ n2.2⟩
theorem Vk{l:List Nat}(hB:BG k l ns bs)(hb:jC bs=sL)(hs:∀e ∈ bs,e.2.2.length<=240){t:N3}(ht:t ∈ ovA (zb bs) (zb bs).length):EB l (jk bs t):=by
 obtain⟨b1,b2⟩:=qK hb
 obtain⟨h1,h2⟩:=zci (l:=l) (ps:=zb bs) (λr hr=>by
  obtain⟨e,he,rfl⟩:=sS.mp hr
  exact⟨(hB.e e he).ma,(hB.e e he).mb⟩) (λr hr=>by
  obtain⟨e,he,rfl⟩:=sS.mp hr
  exact b2 e he) ht
 refine⟨h1.1,h2.1,?_,h1.2,h2.2⟩
 show (byL bs [((t.1:Int),(0:Int),sL),((t.2.1:Int),(t.2.2:Int),sK)]).length<=600
 unfold byL
 rw[List.flatMap_cons,List.flatMap_cons,List.flatMap_nil,aT,ak]
 have o1:=V7 hs ((t.1:Int),(0:Int),sL)
 have o2:=V7 hs ((t.2.1:Int),(t.2.2:Int),sK)
 lia
theorem EnsM.samT{T:oO}{H H':Hp}{ps:Array oP}(h:EnsM K H a es)(s:SamT T H H')(hT:H T=sI (.tbl ps)):EnsM K H' a es:=by
 obtain⟨xs,h1,h2⟩:=h
 exact⟨xs,s.at hT h1 (λ_ z=>by cases z),EnsA.samT s hT h2⟩
def zcl(K:oN)(T:oO)(H:Hp)(k:Nat)(l:List Nat)(ns:List Int)(rs:List zw)(m n:Nat)(H':Hp)(Dk Df:oO):Prop:=∃kept fresh:List Ent,SamT T H H'/\TabOk H' T lp lq/\EnsM K H' Dk kept/\EnsL K H' Df fresh/\fresh.length<64/\(∀e ∈ fresh,EB l e)/\BG k l ns kept/\∀w es,Cpl k l ns n kept fresh w es->Cpl k l ns m [] (fEs rs rs.length) w es
def V5(K:oN)(CO CR CW T:oO):Sp:=λvs H Q _=>∃(o a:oO) (k:Nat) (l:List Nat) (ns:List Int) (rs:List zw) (m:Nat),vs=[.ref o,.ref a,.int (m:Nat)]/\OrdAt CO CR CW H o k l ns/\OG l ns k/\LsA K H a (rs.map dR)/\rs.length<=20/\InL l rs/\(∀r ∈ rs,r.1.length<=60/\r.2.length<=60)/\m<=1000/\TabOk H T lp lq/\∀(w:Bool) (es:List Ent) (p D:oO) (H':Hp),Cpl k l ns (m+1) [] (fEs rs rs.length) w es->BG k l ns es->SamT T H H'->TabOk H' T lp lq->H' p=sI (.tup [.bl w,.ref D])->EnsM K H' D es->Q (.ref p) H'
theorem gd:zp ["order","pacts","rounds","kept","fresh","turn","slim","lacking"] ["order","pacts","rounds"] (zh xY):=by nofun
theorem ZG{f CO CR CW TB:oO}(B:Bt mg)(TM:TMc mg)(F:Fun K "completed" "completed" xY f fd)(nh:Df P w K mg base CX0 1 "first_entries" ["pacts"] [] (jI K))(mP:Df P w K mg base CX0 8 "thinned_within" ["order","entries"] [] (WQ K CO CR CW TB))(nv:Df P w K mg base CX0 9 "unmet_within" ["order","entries"] [] (Ve K CO CR CW))(nW:Df P w K mg base CX0 5 "entry_of" ["entries","overlap"] [] (uS K)):z8 P w K mg base CX0 10 f fd ["order","pacts","rounds"] (V5 K CO CR CW TB):=by
 obtain⟨t9,g9⟩:=TM.p
 refine F.ok gd (λvs H Q E h=>?_) (λcdv A outer s H vs Q E hr h=>?_)
 ·obtain⟨o,a,k,l,ns,rs,m,rfl,_⟩:=h
  rfl
 ·obtain⟨o,a,k,l,ns,rs,m,rfl,ho,hG,hA,hrl,hin,h60,hm,hTab,q⟩:=h
  refine⟨_,(zi (zq (i:=3) gd.nd rfl (Or.inr rfl) (vD ze))
   (zi (zq (i:=4) gd.nd rfl (.inl rfl) (cl0 nh hr .nil rfl (za (pv 1) ze)))
   (zi (yq PassesOwn.never rfl (yR rfl B.range (za (zB op_add (pv 2) zf) ze)) (zy (i:=5) gd.nd rfl (.inl rfl))
    (zi (zq (i:=6) gd.nd rfl (.inl rfl) (cl0 mP hr .nil rfl (za (pv 0) (za (pv 4) ze))))
    (zi (zR (zG op_isN' (pv 6) wn (zI _))
     (zg (zt (zY (za yw (za (pv 3) ze)))))
     zA)
    (zi (zq (i:=3) gd.nd rfl (Or.inr rfl) (pv 6))
    (zi (zq (i:=7) gd.nd rfl (.inl rfl) (cl0 nv hr .nil rfl (za (pv 0) (za (pv 3) ze))))
    (zi (zR (zG op_isN' (pv 7) wn (zI _))
     (zg (zt (zY (za yw (za (pv 3) ze)))))
     zA)
    (zi (zR (zG uG (zm zZ rfl B.len ax (za (pv 7) ze)) zf (zI _))
     (zg (zt (zY (za yw (za (pv 3) ze)))))
     zA)
    (zg (zq (i:=4) gd.nd rfl (.inl rfl) (zB Yk (pv 3) (yu (own:=["overlap"]) (caps:=["kept"]) (ix:=[3]) (tt:=xL) (te:=(vY (uS K) [] E0 (zJ (yo 1) (zJ (yo 0) xS)))) rfl (zL (sc:=zh xY) rfl (by symm) (by symm) (by symm) rfl (by symm) (by symm) rfl) (yt (zO sl_list (pv 7) ym (zV (yK (v:=.int 8) rfl g9 ⟨t9,rfl⟩)))) (λ_ _ _ _ _ _=>zy (i:=0) (show List.Nodup [_,_] by decide) rfl (.inl rfl)) (λ_ _ _ _ _ _=>yg) (λ_ _ _ _ _ _=>(cl0 nW hr .nil rfl (za (pv 1) (za (pv 0) ze)))))))))))))))
   (zg (zt (zY (za yw (za (pv 3) ze)))))))),?_⟩
  have s16:=ya
  have s16:=ya
  have hTt:=hTab
  obtain⟨tp,htp,_⟩:=hTt
  refine zk (λσ H'=>Same H H'/\∃Dk:oO,H' Dk=sI (.lst [])/\σ=[sI (.ref o),sI (.ref a),sI (.int (m:Nat)),sI (.ref Dk),sJ,sJ,sJ,sJ]) ?_ ?_
  ·ac_rfl
   exact⟨by lia,λp hp=>⟨zd hp,zc⟩⟩
  rintro σ H1 ⟨s1,Dk0,hDk0,rfl⟩
  have hE0:∀e ∈ fEs rs rs.length,EB l e:=λe he=>by
   obtain⟨i,p,hi,hp,rfl⟩:=ke he
   have h1:=h60 p (ac hp)
   have h2:=hin p (ac hp)
   exact⟨h1.1,h1.2,by show ([((i:Int),(0:Int),sK)]:List Stp).length<=600;simp,h2.2.2.1,h2.2.2.2⟩
  refine zk (λσ H'=>∃Df:oO,zcl K TB H k l ns rs (m+1) (m+1) H' Dk0 Df/\σ=[sI (.ref o),sI (.ref a),sI (.int (m:Nat)),sI (.ref Dk0),sI (.ref Df),sJ,sJ,sJ]) ?_ ?_
  ·ac_rfl
   exact⟨a,rs,rfl,hA.same s1,hrl,λDf H' s' _ hM=>⟨Df,⟨[],fEs rs rs.length,SamT.of (s1.trans s'),hTab.same (s1.trans s'),⟨[],s' _ _ hDk0,rfl⟩,hM.l,by have:=Ww rs rs.length;lia,hE0,⟨by simp,λe he=>(nomatch he),λe he=>(nomatch he)⟩,λw es h=>h⟩,rfl⟩⟩
  rintro σ H2 ⟨Df0,hC0,rfl⟩
  refine zk (λσ H'=>∃(Dk Df:oO) (v5 v6 v7:Option V),zcl K TB H k l ns rs (m+1) 0 H' Dk Df/\σ=[sI (.ref o),sI (.ref a),sI (.int (m:Nat)),sI (.ref Dk),sI (.ref Df),v5,v6,v7]) ?_ ?_
  ·ac_rfl
   refine⟨by lia,by lia,ForR.by (λi σ H'=>∃(Dk Df:oO) (v5 v6 v7:Option V),zcl K TB H k l ns rs (m+1) (m+1 - i) H' Dk Df/\σ=[sI (.ref o),sI (.ref a),sI (.int (m:Nat)),sI (.ref Dk),sI (.ref Df),v5,v6,v7]) ⟨Dk0,Df0,sJ,sJ,sJ,hC0,rfl⟩ ?_ ?_⟩
   ·rintro i σ H' hi ⟨Dk,Df,v5,v6,v7,⟨kept,fresh,sT,hT,hK,hF,hfl,hfE,hB,hcp⟩,rfl⟩
    have hi':i<m+1:=by lia
    have en:m+1 - i=(m+1 - (i+1))+1:=by lia
    rw[en] at hcp
    have hTt:=hT
    obtain⟨tq,htq,_⟩:=hTt
    have ho':=ho.samT sT htp
    simp only[xg,bv,bu]
    refine zk (λσ' G=>SamT TB H' G/\TabOk G TB lp lq/\(((vS k l ns 20 fresh sJ\/∃bs,vS k l ns 20 fresh (sI bs)/\jC bs=sK)/\σ'=[sI (.ref o),sI (.ref a),sI (.int (m:Nat)),sI (.ref Dk),sI (.ref Df),sI (.int (0+(i:Int))),sI (.non),v7])\/∃(bs:List Ent) (D:oO),vS k l ns 20 fresh (sI bs)/\BG k l ns bs/\jC bs=sL/\EnsM K G D bs/\σ'=[sI (.ref o),sI (.ref a),sI (.int (m:Nat)),sI (.ref Dk),sI (.ref Df),sI (.int (0+(i:Int))),sI (.ref D),v7])) ?_ ?_
    ·ac_rfl
     exact⟨o,Df,k,l,ns,fresh,rfl,ho',hG,hF,hfl,hfE,hT,λbs D G h1 h2 h3 h4 h5 h6=>⟨h4,h5,.inr ⟨bs,h1,h2,h3,D,h6,rfl⟩⟩,λh G h4 h5=>⟨h4,h5,.inl ⟨h,rfl⟩⟩⟩
    rintro σ' G1 ⟨g1,hT1,hcase⟩
    have hK1:=hK.samT g1 htq
    refine zk (λσ' G=>Same G1 G/\∃(bs:List Ent) (D:oO),vS k l ns 20 fresh (sI bs)/\BG k l ns bs/\jC bs=sL/\EnsM K G D bs/\σ'=[sI (.ref o),sI (.ref a),sI (.int (m:Nat)),sI (.ref Dk),sI (.ref Df),sI (.int (0+(i:Int))),sI (.ref D),v7]) ?_ ?_
    ·rcases hcase with ⟨hno,rfl⟩ | ⟨bs,D,h1,h2,h3,h4,rfl⟩
     ·ac_rfl
      exact⟨by lia,λp hp=>q sL kept p Dk _ (hcp _ _ (.slim hno)) hB (sT.trans (g1.trans (SamT.of (zd hp)))) (hT1.same (zd hp)) zc (hK1.same (zd hp))⟩
     ·ac_rfl
      exact⟨Same.refl _,bs,h1,h2,h3,h4⟩
    rintro σ' G2 ⟨s2,bs,D,hTh,hBb,hbey,hD,rfl⟩
    refine zk (λσ' G=>G=G2/\σ'=[sI (.ref o),sI (.ref a),sI (.int (m:Nat)),sI (.ref D),sI (.ref Df),sI (.int (0+(i:Int))),sI (.ref D),v7]) ?_ ?_
    ·ac_rfl
    rintro σ' G3 ⟨rfl,rfl⟩
    have sT3:SamT TB H G3:=sT.trans (g1.trans (SamT.of s2))
    have hT3:=hT1.same s2
    have ho3:=ho.samT sT3 htp
    obtain⟨b12,b10⟩:=qK hbey
    have hpl:(zb bs).length=bs.length:=by unfold zb;rw[ae]
    have hol:=za1 (ps:=zb bs) (by lia) λr hr=>by
     obtain⟨e,he,rfl⟩:=sS.mp hr
     exact (b10 e he).1
    have hnear:∀e ∈ bs,e.2.2.length<=240:=λe he=>by
     have:=qZ hTh bs rfl e he
     unfold je at this
     lia
    refine zk (λσ' G=>Same G3 G/\(((∃t ∈ ovA (zb bs) (zb bs).length,¬ OkG (zb bs) 40 t)/\σ'=[sI (.ref o),sI (.ref a),sI (.int (m:Nat)),sI (.ref D),sI (.ref Df),sI (.int (0+(i:Int))),sI (.ref D),sI (.non)])\/∃L:oO,(∀t ∈ ovA (zb bs) (zb bs).length,OkG (zb bs) 40 t)/\LsA K G L ((unG (zb bs) 40).map d3)/\σ'=[sI (.ref o),sI (.ref a),sI (.int (m:Nat)),sI (.ref D),sI (.ref Df),sI (.int (0+(i:Int))),sI (.ref D),sI (.ref L)])) ?_ ?_
    ·ac_rfl
     exact⟨o,D,k,l,ns,bs,rfl,ho3,hG,hD.l,hBb,by lia,hol,λh L G s' hL=>⟨s',.inr ⟨h,L,hL,rfl⟩⟩,λt ht h G s'=>⟨s',.inl ⟨⟨t,ht,h⟩,rfl⟩⟩⟩
    rintro σ' G4 ⟨s4,hcase⟩
    refine zk (λσ' G=>Same G3 G/\∃L:oO,(∀t ∈ ovA (zb bs) (zb bs).length,OkG (zb bs) 40 t)/\LsA K G L ((unG (zb bs) 40).map d3)/\σ'=[sI (.ref o),sI (.ref a),sI (.int (m:Nat)),sI (.ref D),sI (.ref Df),sI (.int (0+(i:Int))),sI (.ref D),sI (.ref L)]) ?_ ?_
    ·rcases hcase with ⟨⟨t,ht,hno⟩,rfl⟩ | ⟨L,h1,h2,rfl⟩
     ·ac_rfl
      exact⟨by lia,λp hp=>q sL bs p D _ (hcp _ _ (.far hTh hbey ht hno)) hBb (sT3.trans (SamT.of (s4.trans (zd hp)))) (hT3.same (s4.trans (zd hp))) zc (hD.same (s4.trans (zd hp)))⟩
     ·ac_rfl
      exact⟨s4,h1,h2⟩
    rintro σ' G5 ⟨s5,L,hok,hL,rfl⟩
    refine zk (λσ' G=>G=G5/\unG (zb bs) 40≠[]/\σ'=[sI (.ref o),sI (.ref a),sI (.int (m:Nat)),sI (.ref D),sI (.ref Df),sI (.int (0+(i:Int))),sI (.ref D),sI (.ref L)]) ?_ ?_
    ·ac_rfl
     obtain⟨xs,hX,hI⟩:=id hL
     have hxl:=hI.len
     rw[ae] at hxl
     refine⟨_,.inl ⟨_,SqL.of hX,rfl⟩,yT (λh=>⟨by lia,λp hp=>q sK bs p D _ (hcp _ _ (.whole hTh hbey hok (tF.mp (by lia)))) hBb (sT3.trans (SamT.of (s5.trans (zd hp)))) (hT3.same (s5.trans (zd hp))) zc (hD.same (s5.trans (zd hp)))⟩) λh z=>h ?_⟩
     rw[z] at hxl
     show ((xs.length:Nat):Int)=0
     rw[hxl]
     rfl
    rintro σ' G6 ⟨rfl,hne,rfl⟩
    ac_rfl
    obtain⟨xs,hX,hI⟩:=id hL
    have hxl:=hI.len
    rw[ae] at hxl
    have hct:QR xs sJ (sI 8)=xs.take 8:=uk xs (k:=8) (by decide)
    refine⟨_,SqL.of hX,λp hp=>?_⟩
    rw[hct]
    have u1:=zd (o:=HO.lst (xs.take 8)) hp
    have hS7:(upd G6 p (.lst (xs.take 8))) p=sI (.lst (xs.take 8)):=zc
    have hX7:=Iss.same u1 _ _ hI
    have hD7:=hD.same (s5.trans u1)
    refine⟨⟨_,SqL.of hS7⟩,λE1 hE1=>?_⟩
    generalize upd G6 p (.lst (xs.take 8))=G7 at *
    refine CompL.by (xs:=xs.take 8) (λj sP H'=>Same G7 H'/\H' E1=sI (.lst sP)/\sP.length<=j/\EnsA K (jh E1 H') (((unG (zb bs) 40).take j).map (jk bs)) sP) ⟨zd hE1,zc,am _,rfl⟩ (λj sP H' _ h=>SqL.of (h.1 _ _ hS7)) ?_ ?_
    ·rintro j x sP H' hx ⟨hs,hH,hal,hEn⟩
     have hjl:=(sQ.mp hx).1
     have hj8:j<8:=by rw[az] at hjl;lia
     rw[bo hj8] at hx
     obtain⟨t,pt,ht,rfl,hpt⟩:=hX7.get3 hx
     have htm:=(sY.mp (ac ht)).1
     simp only[xL]
     rfl'
     refine⟨yF,D,pt,bs,t,rfl,(hD7.same hs).l,zj hs hpt,htm,hBb.ok (by lia),λe he=>(hBb.e e he).s,λp' s' H5 h1 h2 h3 h4=>?_⟩
     have hH5:=h1 _ _ hH
     have hsE:s'≠E1:=λz=>by rw[z,hH] at h4;cases h4
     refine⟨hH5,by lia,CNx.mk hjl ⟨zE (hs.trans h1) hE1,zc,by rw[ak];simp only[aN,cK];lia,?_⟩⟩
     rw[zQ ht,ay]
     exact (hEn.same ((wB h1).trans xz)).snoc ((EnA.new (e:=jk bs t) hH5 h2 h3 hsE).same xz)
    ·rintro sP H' ⟨hs,hH,hal,hEn⟩
     have hEn':EnsA K H' (((unG (zb bs) 40).take 8).map (jk bs)) sP:=by
      have h1:=hEn.same wN
      rw[az,hxl] at h1
      have e:(unG (zb bs) 40).take (min 8 (unG (zb bs) 40).length)=(unG (zb bs) 40).take 8:=by
       rw[<- e8,aK]
      rw[e] at h1
      exact h1
     have hal8:sP.length<=8:=by rw[az] at hal;lia
     obtain⟨xk,hxk,hek⟩:=hD7.same hs
     have hkl:=hek.len
     refine⟨E1,rfl,xk,hxk,sP,hH,by lia,λp2 hp2=>⟨D,p2,⟨bs,_,sT3.trans (SamT.of (s5.trans (u1.trans (hs.trans (zd hp2))))),hT3.same (s5.trans (u1.trans (hs.trans (zd hp2)))),⟨xk,zd hp2 _ _ hxk,hek.same (zd hp2)⟩,⟨xk ++ sP,SqL.of zc,(hEn'.same (zd hp2)).app (hek.same (zd hp2))⟩,?_,λe he=>?_,hBb,λw es h=>hcp w es (.more hTh hbey hok hne h)⟩,rfl,rfl⟩⟩
     ·rw[ak,ae,az]
      lia
     ·rcases sV.mp he with he | he
      ·exact hBb.e e he
      ·obtain⟨t,ht,rfl⟩:=sS.mp he
       exact Vk hBb hbey hnear (sY.mp (bn ht)).1
   ·rintro σ H' ⟨Dk,Df,v5,v6,v7,hC,rfl⟩
    rw[show ((m:Int)+1).toNat=m+1 by lia,fF] at hC
    exact⟨Dk,Df,hC,_,_,_,rfl⟩
  rintro σ H3 ⟨Dk,Df,v5,v6,v7,⟨kept,fresh,sT,hT,hK,hF,hfl,hfE,hB,hcp⟩,rfl⟩
  ac_rfl
  exact⟨by lia,λp hp=>q sL kept p Dk _ (hcp _ _ (.out kept fresh)) hB (sT.trans (SamT.of (zd hp))) (hT.same (zd hp)) zc (hK.same (zd hp))⟩
theorem j3{w:List Nat}{i:Nat}{q:Int}{f:Bool}{r:zw}(hr:ps[i]? = sI r)(h:zx w q (sdl r f).1=sK):yY ps w ((i:Int),q,f)=sI (yI w q (sdl r f).1 (sdl r f).2):=by
 have hi:=(sQ.mp hr).1
 have e:ps.getD ((i:Int),q,f).1.toNat ([],[])=r:=by
  show ps.getD ((i:Int)).toNat ([],[])=r
  rw[aH,af,hr]
  rfl
 rw[xV (show 0<=((i:Int),q,f).1/\((i:Int),q,f).1<ps.length by constructor <;> simp <;> lia),e,if_pos h]
theorem UR{n:Nat}(h:e ∈ fEs rs n):EOk rs e:=by
 obtain⟨i,p,hi,hp,rfl⟩:=ke h
 show yD rs p.1 [((i:Int),(0:Int),sK)]=sI p.2
 have hs:zx p.1 0 (sdl p sK).1=sK:=by
  show zx p.1 0 p.1=sK
  refine decide_eq_true ⟨by lia,by lia,?_⟩
  show (p.1.drop 0).take p.1.length=p.1
  rw[d4,aK]
 simp only[yD,j3 hp hs,cu]
 show sI (yI p.1 0 p.1 p.2)=sI p.2
 congr 1
 unfold yI
 show p.1.take 0 ++ p.2 ++ p.1.drop (0+p.1.length)=p.2
 rw[br,bD,aY (by lia),aT]
theorem Kg(hb:∀e ∈ bs,EOk rs e){t:N3}(ht:t ∈ ovA (zb bs) (zb bs).length):EOk rs (jk bs t):=by
 obtain⟨i1,i2,i3,i4⟩:=vQ ht
 obtain⟨r,hr⟩:∃r,(zb bs)[t.1]? = sI r:=⟨_,aj i1⟩
 obtain⟨r2,hr2⟩:∃r,(zb bs)[t.2.1]? = sI r:=⟨_,aj i2⟩
 have l1:=wo hr
 have l2:=wo hr2
 have d1:(zb bs).getD t.1 ([],[])=r:=by rw[af,hr];rfl
 have d2:(zb bs).getD t.2.1 ([],[])=r2:=by rw[af,hr2];rfl
 rw[l1] at i3
 rw[l1,l2] at i4
 have eA:pkA (zb bs) t=yI (z6 r.1 r2.1 t.2.2) 0 r.1 r.2:=by unfold pkA;rw[l1,l2,d1]
 have eB:pkB (zb bs) t=yI (z6 r.1 r2.1 t.2.2) (t.2.2:Nat) r2.1 r2.2:=by unfold pkB;rw[l1,l2,d2]
 refine kz hb ?_
 show yD (zb bs) (pkA (zb bs) t) [((t.1:Int),(0:Int),sL),((t.2.1:Int),(t.2.2:Int),sK)]=sI (pkB (zb bs) t)
 obtain⟨b1,b2⟩:=YL r.2 (jy r.1 r2.1 t.2.2)
 rw[eA,eB]
 have h1:=j3 (f:=sL) (q:=0) hr (w:=yI (z6 r.1 r2.1 t.2.2) 0 r.1 r.2) b1
 have h2:=j3 (f:=sK) (q:=(t.2.2:Int)) hr2 (w:=z6 r.1 r2.1 t.2.2) (qA (by lia) i4)
 have h1':yY (zb bs) (yI (z6 r.1 r2.1 t.2.2) 0 r.1 r.2) ((t.1:Int),(0:Int),sL)=sI (z6 r.1 r2.1 t.2.2):=by
  rw[h1]
  congr 1
 have h2':yY (zb bs) (z6 r.1 r2.1 t.2.2) ((t.2.1:Int),(t.2.2:Int),sK)=sI (yI (z6 r.1 r2.1 t.2.2) (t.2.2:Nat) r2.1 r2.2):=h2
 simp only[yD,h1',h2',cu]
theorem V8{l:List Nat}{es bs zs:List Ent}(h:vS k l ns 20 es (sI bs))(hb:jC bs=sL)(hz:ThinL k l ns zs)(hp:zb bs=zb zs):BG k l ns bs:=by
 obtain⟨b1,_⟩:=qK hb
 have key:∀e ∈ bs,∃z ∈ zs,z.1=e.1/\z.2.1=e.2.1:=λe he=>by
  have:(e.1,e.2.1) ∈ zb zs:=by rw[<- hp];exact sS.mpr ⟨e,he,rfl⟩
  obtain⟨z,hz,e2⟩:=sS.mp this
  injection e2 with h1 h2
  exact⟨z,hz,h1,h2⟩
 refine⟨by lia,λe he=>?_,λe he=>?_⟩
 ·obtain⟨z,hzm,h1,h2⟩:=key e he
  have hE:=hz.rl.e z hzm
  have hn:=qZ h bs rfl e he
  unfold je at hn
  exact⟨by lia,by lia,by lia,by rw[<- h1];exact hE.ma,by rw[<- h2];exact hE.mb⟩
 ·obtain⟨z,hzm,h1,h2⟩:=key e he
  rw[<- h1,<- h2]
  exact hz.rl.lt z hzm
def Gd(rs:List zw)(k:Nat)(l:List Nat)(ns:List Int)(es:List Ent):Prop:=(∀e ∈ es,EOk rs e)/\(es=[]\/(ThinL k l ns es/\jC es=sL/\BG k l ns es))
theorem Z5{rs:List zw}{l:List Nat}(G:OG l ns k){es bs:List Ent}(h:vS k l ns 20 es (sI bs))(hb:jC bs=sL)(he:∀e ∈ es,EB l e)(ho:∀e ∈ es,EOk rs e):Gd rs k l ns bs:=by
 obtain⟨h1,zs,hz,hp⟩:=YD (rs:=rs) G h bs rfl he ho
 have hB:=V8 h hb hz hp
 exact⟨h1,.inr ⟨hz.pairs hp hB.e,hb,hB⟩⟩
theorem zaM{rs:List zw}{k n:Nat}{l:List Nat}(G:OG l ns k){kept fresh es:List Ent}{w:Bool}(h:Cpl k l ns n kept fresh w es):(∀e ∈ fresh,EB l e)->(∀e ∈ fresh,EOk rs e)->Gd rs k l ns kept->Gd rs k l ns es:=by
 induction h with
 | out kept fresh=>exact λ_ _ h=>h
 | slim _=>exact λ_ _ h=>h
 | far h hb _ _=>exact λhe ho _=>Z5 G h hb he ho
 | whole h hb _ _=>exact λhe ho _=>Z5 G h hb he ho
 | @more n kept fresh bs es w h hb ho' hu r ih =>
  intro he ho _
  have hg:=Z5 (rs:=rs) G h hb he ho
  have hB:BG k l ns bs:=by
   obtain⟨h1,zs,hz,hp⟩:=YD (rs:=rs) G h bs rfl he ho
   exact V8 h hb hz hp
  have hnear:∀e ∈ bs,e.2.2.length<=240:=λe hm=>by
   have:=qZ h bs rfl e hm
   unfold je at this
   lia
  refine ih (λe hm=>?_) (λe hm=>?_) hg
  ·rcases sV.mp hm with hm | hm
   ·exact hB.e e hm
   ·obtain⟨t,ht,rfl⟩:=sS.mp hm
    exact Vk hB hb hnear (sY.mp (bn ht)).1
  ·rcases sV.mp hm with hm | hm
   ·exact hg.1 e hm
   ·obtain⟨t,ht,rfl⟩:=sS.mp hm
    exact Kg hg.1 (sY.mp (bn ht)).1
structure TTl(K:oN):Prop where
 tt:aQ K (.type "tuple") (.type "tuple")=sI sK
 bb:aQ K (.type "bool") (.type "bool")=sI sK
def jX(K:oN):Sp:=λvs H Q _=>∃(p D:oO) (w:Bool) (es:List Ent),vs=[.ref p]/\H p=sI (.tup [.bl w,.ref D])/\EnsL K H D es/\Q (.bl sK) H
theorem J7:zp ["_law_found"] ["_law_found"] (zh Wg):=by nofun
theorem KF(B:Bt mg)(TT':TTl K)(F:Fun K "_law_told" "_law_told" Wg f fd)(oa:Df P w K mg base CX0 3 "_law_entries" ["_law_found"] [] (Yq K)):z8 P w K mg base CX0 4 f fd ["_law_found"] (jX K):=by
 refine F.ok J7 (λvs H Q E h=>?_) (λcdv A outer s H vs Q E hr h=>?_)
 ·obtain⟨p,D,w,es,rfl,_⟩:=h
  rfl
 ·obtain⟨p,D,w,es,rfl,hp,hE,q⟩:=h
  refine⟨_,(zi (zR (PW.pt (qS (yd (yL (yO rfl B.isi (pv 0) rfl B.tuple PySem.Pv.boot_tuple) (λ_=>rfl))) (qS (zG kM (zm zZ rfl B.len ax (za (pv 0) ze)) zf (zI _)) (uo (yd (yL (yO rfl B.isi (zr ix_tup (pv 0) zf (λ_ _=>rfl)) rfl B.bool PySem.Pv.boot_bool) (λ_=>rfl)))))))
    (zg (zt yw))
    zA)
   (zg (zt (cl0 oa hr .nil rfl (za (zr ix_tup (pv 0) zf (λ_ _=>rfl)) ze))))),?_⟩
  have s16:=ya
  refine zk (λσ H'=>H'=H/\σ=[sI (.ref p)]) ?_ ?_
  ·ac_rfl
   exact⟨_,.inl (.tup hp),sK,TT'.tt,yT (λe=>by cases e) λ_=>⟨_,.inr ⟨_,SqT.of hp,rfl⟩,yT (λe=>absurd rfl e) λ_=>⟨_,SqT.of hp,_,rfl,_,.inl (.bl _),sK,TT'.bb,yT (λe=>by cases e) λ_=>trivial⟩⟩⟩
  rintro σ H1 ⟨rfl,rfl⟩
  ac_rfl
  exact⟨_,SqT.of hp,_,rfl,D,es,rfl,hE.is,q⟩
theorem YS{w o:List Nat}{q:Nat}(h:zx w (q:Int) o=sK):w.take q ++ o ++ w.drop (q+o.length)=w:=by
 unfold zx at h
 obtain⟨_,_,e⟩:=of_decide_eq_true h
 rw[aH] at e
 calc w.take q ++ o ++ w.drop (q+o.length)=w.take q ++ ((w.drop q).take o.length ++ (w.drop q).drop o.length):=by rw[e,cQ,ar]
  _=w.take q ++ w.drop q:=by rw[aZ]
  _=w:=aZ q w
theorem QF{w:List Nat}{u:Nat × Nat}(h:zC w ps=sI u):∃p,ps[u.1]? = sI p/\zx w (u.2:Int) p.1=sK:=by
 unfold zC at h
 have hm:u ∈ xt w ps w.length:=e9 h
 obtain⟨_,h2⟩:=usesK_mem.mp hm
 obtain⟨_,p,hp,hs⟩:=wM h2
 exact⟨p,hp,hs⟩
theorem Xe{l:List Nat}{u v:List Nat}(h:zK k l ns u v=sK):zl k l ns u<=zl k l ns v:=by
 unfold zK at h
 by_cases e:zl k l ns u=zl k l ns v
 ·lia
 ·rw[if_neg e] at h
  have:=of_decide_eq_true h
  lia
theorem Qc{l:List Nat}{w:List Nat}{p:zw}{q:Nat}(G:OG l ns k)(hp:zK k l ns p.2 p.1=sK/\(∀c ∈ p.1,c ∈ l)/\∀c ∈ p.2,c ∈ l)(hw:∀c ∈ w,c ∈ l)(h2:zx w (q:Int) p.1=sK):zK k l ns (yI w (q:Int) p.1 p.2) w=sK/\∀c ∈ yI w (q:Int) p.1 p.2,c ∈ l:=by
 have e1:=YS h2
 obtain⟨p1,p2,p3⟩:=hp
 unfold yI
 rw[aH]
 have ha:∀c ∈ w.take q,c ∈ l:=λc hc=>hw c (bn hc)
 have hb:∀c ∈ w.drop (q+p.1.length),c ∈ l:=λc hc=>hw c (bW hc)
 generalize w.take q=a at *
 generalize w.drop (q+p.1.length)=b at *
 rw[<- e1]
 have ap:∀x:List Nat,(∀c ∈ x,c ∈ l)->∀c ∈ a ++ x,c ∈ l:=λx hx c hc=>(sV.mp hc).elim (ha c) (hx c)
 refine⟨?_,λc hc=>(sV.mp hc).elim (ap p.2 p3 c) (hb c)⟩
 rw[(vq G hb (ap p.2 p3) (ap p.1 p2)).2,(vq G ha p3 p2).1]
 exact p1
theorem UQ{t:N3}(ht:t ∈ ovA ps ps.length):∃r r2,ps[t.1]? = sI r/\ps[t.2.1]? = sI r2/\t.2.2<r.1.length/\yJ r.1 r2.1 t.2.2=sK/\pkA ps t=yI (z6 r.1 r2.1 t.2.2) 0 r.1 r.2/\pkB ps t=yI (z6 r.1 r2.1 t.2.2) (t.2.2:Nat) r2.1 r2.2:=by
 obtain⟨i1,i2,i3,i4⟩:=vQ ht
 obtain⟨r,hr⟩:∃r,ps[t.1]? = sI r:=⟨_,aj i1⟩
 obtain⟨r2,hr2⟩:∃r,ps[t.2.1]? = sI r:=⟨_,aj i2⟩
 have l1:=wo hr
 have l2:=wo hr2
 have d1:ps.getD t.1 ([],[])=r:=by rw[af,hr];rfl
 have d2:ps.getD t.2.1 ([],[])=r2:=by rw[af,hr2];rfl
 rw[l1] at i3
 rw[l1,l2] at i4
 exact⟨r,r2,hr,hr2,i3,i4,by unfold pkA;rw[l1,l2,d1],by unfold pkB;rw[l1,l2,d2]⟩
theorem YY{v:List Nat}{J:Nat}(h:zC (wAt ps v J) ps=sJ):∀d,wAt ps v (J+d)=wAt ps v J
 | 0=>rfl
 | d+1=>by
  show YV ps (wAt ps v (J+d))=_
  rw[YY h d]
  unfold YV
  rw[h]
  rfl
def Rw(ps:List zw)(u v:List Nat):Prop:=∃p,p ∈ ps/\∃a b,u=a ++ p.1 ++ b/\v=a ++ p.2 ++ b
inductive Rws(ps:List zw):List Nat->List Nat->Prop where
 | nil {u:List Nat}:Rws ps u u
 | cons {u v w:List Nat} (h:Rw ps u v) (h2:Rws ps v w):Rws ps u w
theorem Rws.trans{u v w:List Nat}(h:Rws ps u v)(h2:Rws ps v w):Rws ps u w:=by
 induction h with
 | nil=>exact h2
 | cons s _ ih=>exact .cons s (ih h2)
theorem Rws.one{u v:List Nat}(h:Rw ps u v):Rws ps u v:=.cons h .nil
theorem Rw.ctx{u v:List Nat}(h:Rw ps u v)(c d:List Nat):Rw ps (c ++ u ++ d) (c ++ v ++ d):=by
 obtain⟨p,hp,a,b,rfl,rfl⟩:=h
 exact⟨p,hp,c ++ a,b ++ d,by simp only[ar],by simp only[ar]⟩
theorem Rws.ctx{u v:List Nat}(h:Rws ps u v)(c d:List Nat):Rws ps (c ++ u ++ d) (c ++ v ++ d):=by
 induction h with
 | nil=>exact .nil
 | cons s _ ih=>exact .cons (s.ctx c d) ih
theorem qY{w:List Nat}{p:zw}{q:Nat}(h:zx w (q:Int) p.1=sK):w=w.take q ++ p.1 ++ w.drop (q+p.1.length)/\yI w (q:Int) p.1 p.2=w.take q ++ p.2 ++ w.drop (q+p.1.length):=by
 refine⟨(YS h).symm,?_⟩
 unfold yI
 rw[aH]
theorem KP{w:List Nat}{p:zw}{q:Nat}(hp:p ∈ ps)(h:zx w (q:Int) p.1=sK):Rw ps w (yI w (q:Int) p.1 p.2) :=
 ⟨p,hp,_,_,(qY h).1,(qY h).2⟩
theorem Vs{w:List Nat}{u:Nat × Nat}(h:zC w ps=sI u):Rw ps w (ZM w ps u):=by
 obtain⟨p,h1,h2⟩:=QF h
 unfold ZM
 rw[xn h1]
 exact KP (ac h1) h2
theorem Yn{ps:List zw}{w:List Nat}:∀j,Rws ps w (wAt ps w j)
 | 0=>.nil
 | j+1=>by
  have ih:=Yn (ps:=ps) (w:=w) j
  cases e:zC (wAt ps w j) ps with
  | none =>
   have:=YY e 1
   rw[this]
   exact ih
  | some u =>
   rw[wk e]
   exact ih.trans (.one (Vs e))
theorem QQ{a o b:List Nat}:zx (a ++ o ++ b) (a.length:Int) o=sK:=by
 refine decide_eq_true ⟨by lia,by simp only[ak];lia,?_⟩
 rw[aH,ar,cy,cD]
theorem zav{i j k:Nat}(hi:i<ps.length)(hj:j<ps.length)(hk:k<(lf ps i).length)(hne:i≠j\/k≠0)(ha:yJ (lf ps i) (lf ps j) k=sK):((i,j,k):N3) ∈ ovA ps ps.length:=by
 unfold ovA ovI Zz
 refine tB.mpr ⟨i,sZ.mpr hi,tB.mpr ⟨j,sZ.mpr hj,sS.mpr ⟨k,sY.mpr ⟨sZ.mpr hk,?_⟩,rfl⟩⟩⟩
 rw[ha,d9,Bool.or_eq_true,decide_eq_true_iff,decide_eq_true_iff]
 exact hne
theorem ZJ(hmet:∀t ∈ ovA ps ps.length,∃f,Rws ps (pkA ps t) f/\Rws ps (pkB ps t) f){p p':zw}(hp:p ∈ ps)(hp':p' ∈ ps){a b a' b':List Nat}(e:a ++ p.1 ++ b=a' ++ p'.1 ++ b')(hle:a.length<=a'.length):∃t,Rws ps (a ++ p.2 ++ b) t/\Rws ps (a' ++ p'.2 ++ b') t:=by
 obtain⟨m,rfl⟩:∃m,a'=a ++ m:=by
  have h1:a=(a' ++ p'.1 ++ b').take a.length:=by rw[<- e,ar,cD]
  rw[ar,aS hle] at h1
  exact⟨a'.drop a.length,by conv=>rhs;rw[h1];simp [ci hle]⟩
 have e1:p.1 ++ b=m ++ p'.1 ++ b':=by
  simp only[ar] at e
  have:=du e
  rw[this,ar]
 by_cases hk:p.1.length<=m.length
 ·obtain⟨m',rfl⟩:∃m',m=p.1 ++ m':=by
   have h1:p.1=(m ++ p'.1 ++ b').take p.1.length:=by rw[<- e1,cD]
   rw[ar,aS hk] at h1
   exact⟨m.drop p.1.length,by conv=>rhs;rw[h1];simp [ci hk]⟩
  have e2:b=m' ++ p'.1 ++ b':=by
   simp only[ar] at e1
   have:=du e1
   rw[this,ar]
  refine⟨a ++ p.2 ++ (m' ++ p'.2 ++ b'),.one ⟨p',hp',a ++ p.2 ++ m',b',by rw[e2];simp only[ar],by simp only[ar]⟩,.one ⟨p,hp,a,m' ++ p'.2 ++ b',by simp only[ar],rfl⟩⟩
 ·have hk':m.length<p.1.length:=Nat.lt_of_not_le hk
  by_cases hsame:p=p'/\m=[]
  ·obtain⟨rfl,rfl⟩:=hsame
   rw[bD] at e1
   have:b=b':=du e1
   rw[this,aT]
   exact⟨_,.nil,.nil⟩
  ·obtain⟨i,hi⟩:=tu.mp hp
   obtain⟨j,hj⟩:=tu.mp hp'
   have li:=wo hi
   have lj:=wo hj
   have hne:i≠j\/m.length≠0:=by
    by_cases hij:i=j
    ·refine .inr λh0=>hsame ⟨?_,tF.mp h0⟩
     rw[hij,hj] at hi
     exact (Option.some.inj hi).symm
    ·exact .inl hij
   have hag:yJ p.1 p'.1 m.length=sK:=(Xw _ _ _).mpr λn hn hkn=>by
    have h1:(p.1 ++ b)[m.length+n]? = (m ++ (p'.1 ++ b'))[m.length+n]?:=by rw[e1,ar]
    rw[bP hkn,bK (by lia),Nat.add_sub_cancel_left,bP hn] at h1
    exact h1
   have hov:((i,j,m.length):N3) ∈ ovA ps ps.length:=zav (sQ.mp hi).1 (sQ.mp hj).1 (by rw[li];exact hk') hne (by rw[li,lj];exact hag)
   obtain⟨f,f1,f2⟩:=hmet _ hov
   obtain⟨r,r2,hr,hr2,_,_,eA,eB⟩:=UQ hov
   have er:r=p:=by
    have h:ps[i]? = sI r:=hr
    rw[hi] at h
    exact (Option.some.inj h).symm
   have er2:r2=p':=by
    have h:ps[j]? = sI r2:=hr2
    rw[hj] at h
    exact (Option.some.inj h).symm
   subst er er2
   have eb:b=r2.1.drop (r.1.length - m.length) ++ b'.drop (r.1.length - m.length - r2.1.length):=by
    have h1:(r.1 ++ b).drop r.1.length=(m ++ (r2.1 ++ b')).drop r.1.length:=by rw[e1,ar]
    rw[cy,List.drop_append,aY (by lia),bD,List.drop_append] at h1
    exact h1
   generalize hc:b'.drop (r.1.length - m.length - r2.1.length)=c at eb
   have hpw:z6 r.1 r2.1 m.length ++ c=m ++ r2.1 ++ b':=by
    unfold z6
    rw[ar,<- eb,e1]
   have hpl:=ww r.1 r2.1 m.length (by lia)
   have hA:pkA ps (i,j,m.length)=r.2 ++ r2.1.drop (r.1.length - m.length):=by
    rw[eA]
    unfold yI z6
    show [] ++ r.2 ++ List.drop (0+r.1.length) _=_
    rw[dO,cy,bD]
   have hB:pkB ps (i,j,m.length) ++ c=m ++ r2.2 ++ b':=by
    rw[eB]
    unfold yI
    rw[aH]
    have t1:(z6 r.1 r2.1 m.length).take m.length=m:=by
     have:=congrArg (List.take m.length) hpw
     rw[aS (by lia),ar,cD] at this
     exact this
    have t2:(z6 r.1 r2.1 m.length).drop (m.length+r2.1.length) ++ c=b':=by
     have:=congrArg (List.drop (m.length+r2.1.length)) hpw
     rw[bA (by lia),show m.length+r2.1.length=(m ++ r2.1).length by rw[ak],cy] at this
     rw[ak] at this
     exact this
    show (z6 r.1 r2.1 m.length).take m.length ++ r2.2 ++ (z6 r.1 r2.1 m.length).drop (m.length+r2.1.length) ++ c=_
    rw[t1,ar,t2]
   refine⟨a ++ f ++ c,?_,?_⟩
   ·have:=f1.ctx a c
    rw[hA] at this
    rw[eb]
    simp only[ar] at this ⊢
    exact this
   ·have:=f2.ctx a c
    rw[ar a,hB] at this
    simp only[ar] at this ⊢
    exact this
theorem XG(hmet:∀t ∈ ovA ps ps.length,∃f,Rws ps (pkA ps t) f/\Rws ps (pkB ps t) f){u v1 v2:List Nat}(h1:Rw ps u v1)(h2:Rw ps u v2):∃t,Rws ps v1 t/\Rws ps v2 t:=by
 obtain⟨p,hp,a,b,e1,rfl⟩:=h1
 obtain⟨p',hp',a',b',e2,rfl⟩:=h2
 rcases Nat.le_total a.length a'.length with h | h
 ·exact ZJ hmet hp hp' (e1.symm.trans e2) h
 ·obtain⟨t,t1,t2⟩:=ZJ hmet hp' hp (e2.symm.trans e1) h
  exact⟨t,t2,t1⟩
section
variable{k:Nat}{l:List Nat}{ws:List Int}{ps:List zw}
def Below(k:Nat)(l:List Nat)(ws:List Int)(w v:List Nat):Prop:=(∀c ∈ v,c ∈ l)/\(v=w\/zK k l ws v w=sK)
theorem vH(G:OG l ws k)(hp:∀p ∈ ps,zK k l ws p.2 p.1=sK/\(∀c ∈ p.1,c ∈ l)/\∀c ∈ p.2,c ∈ l){u v:List Nat}(hu:∀c ∈ u,c ∈ l)(h:Rw ps u v):zK k l ws v u=sK/\∀c ∈ v,c ∈ l:=by
 obtain⟨p,hpm,a,b,rfl,rfl⟩:=h
 have:=Qc (q:=a.length) G (hp p hpm) hu QQ
 rw[(qY QQ).2] at this
 rw[ar a,cD,show a.length+p.1.length=(a ++ p.1).length by rw[ak],<- ar,cy] at this
 exact this
theorem Below.step(G:OG l ws k)(hp:∀p ∈ ps,zK k l ws p.2 p.1=sK/\(∀c ∈ p.1,c ∈ l)/\∀c ∈ p.2,c ∈ l){w u v:List Nat}(hu:Below k l ws w u)(h:Rw ps u v):Below k l ws w v:=by
 obtain⟨h1,h2⟩:=vH G hp hu.1 h
 refine⟨h2,.inr ?_⟩
 rcases hu.2 with rfl | h3
 ·exact h1
 ·exact yn h1 h3
noncomputable def mu(k:Nat)(l:List Nat)(ws:List Int)(Ws:List (List Nat))(v:List Nat):Nat:=Ws.countP λy=>zK k l ws y v
theorem Za{α:Type}{p q:α->Bool}:∀{xs:List α} {x:α},(∀z ∈ xs,p z=sK->q z=sK)->x ∈ xs->q x=sK->p x=sL->xs.countP p<xs.countP q
 | y::xs,x,h,hx,hq,hp=>by
  have mono:xs.countP p<=xs.countP q:=List.countP_mono_left λz hz=>h z (ao _ hz)
  rcases sU.mp hx with rfl | hx
  ·rw[cH hq,dv (by rw[hp];decide)]
   lia
  ·have ih:=Za (λz hz=>h z (ao _ hz)) hx hq hp
   by_cases hy:p y=sK
   ·rw[cH hy,cH (h y aB hy)]
    lia
   ·rw[dv hy]
    by_cases hy2:q y=sK
    ·rw[cH hy2]
     lia
    ·rw[dv hy2]
     exact ih
theorem Kw{Ws:List (List Nat)}{x y:List Nat}(hx:x ∈ Ws)(h:zK k l ws x y=sK):mu k l ws Ws x<mu k l ws Ws y :=
 Za (λz _ hz=>yn hz h) hx h zU
end
inductive EqR(ps:List zw):List Nat->List Nat->Prop where
 | refl (u:List Nat):EqR ps u u
 | symm {u v:List Nat} (h:EqR ps u v):EqR ps v u
 | trans {u v w:List Nat} (h:EqR ps u v) (h2:EqR ps v w):EqR ps u w
 | one {u v:List Nat} (h:Rw ps u v):EqR ps u v
theorem Qv(ps:List zw):QZ (EqR ps):=⟨.refl,.symm,.trans,λ{u v} a b h=>by
 induction h with
 | refl u=>exact .refl _
 | symm _ ih=>exact .symm ih
 | trans _ _ i1 i2=>exact .trans i1 i2
 | one h=>exact .one (h.ctx a b)⟩
theorem Z7{p:zw}(h:p ∈ ps):EqR ps p.1 p.2:=.one ⟨p,h,[],[],by simp,by simp⟩
section
variable{k:Nat}{l:List Nat}{ws:List Int}{ps:List zw}
def Dwn(k:Nat)(l:List Nat)(ws:List Int)(ps:List zw):Prop:=∀p ∈ ps,zK k l ws p.2 p.1=sK/\(∀c ∈ p.1,c ∈ l)/\∀c ∈ p.2,c ∈ l
theorem zbL(hp:Dwn k l ws ps){u v:List Nat}(h:Rw ps u v):(∀c ∈ u,c ∈ l) ↔ ∀c ∈ v,c ∈ l:=by
 obtain⟨p,hm,a,b,rfl,rfl⟩:=h
 obtain⟨_,h1,h2⟩:=hp p hm
 simp only[List.mem_append]
 exact⟨λh c hc=>hc.elim (λhc=>hc.elim (λhc=>h c (.inl (.inl hc))) (h2 c)) (λhc=>h c (.inr hc)),λh c hc=>hc.elim (λhc=>hc.elim (λhc=>h c (.inl (.inl hc))) (h1 c)) (λhc=>h c (.inr hc))⟩
theorem Y4(hp:Dwn k l ws ps){u v:List Nat}(h:EqR ps u v):(∀c ∈ u,c ∈ l) ↔ ∀c ∈ v,c ∈ l:=by
 induction h with
 | refl u=>exact .rfl
 | symm _ ih=>exact ih.symm
 | trans _ _ i1 i2=>exact i1.trans i2
 | one h=>exact zbL hp h
noncomputable def zb7(l:List Nat):Nat->List (List Nat)
 | 0=>[[]]
 | n+1=>[]::(zb7 l n).flatMap λw=>l.map (·::w)
theorem Y3:∀(n:Nat) (v:List Nat),v.length<=n->(∀c ∈ v,c ∈ l)->v ∈ zb7 l n
 | 0,v,h,_=>by rw[tF.mp (Nat.le_zero.mp h)];exact aB
 | n+1,[],_,_=>aB
 | n+1,c::v,h,hm=>ao _ (tB.mpr ⟨v,Y3 n v (Nat.le_of_succ_le_succ h) λx hx=>hm x (ao _ hx),sS.mpr ⟨c,hm c aB,rfl⟩⟩)
theorem WO(G:OG l ws k):∀{v:List Nat},(∀c ∈ v,c ∈ l)->(v.length:Int)<=zl k l ws v
 | [],_=>xZ G λc hc=>(nomatch hc)
 | c::v,hm=>by
  have h1:=WO G (v:=v) λx hx=>hm x (ao _ hx)
  have h2:=ub (u:=[c]) G (λx hx=>hm x (by rw[sX.mp hx];exact aB)) (by simp)
  have h3:=yy (k:=k) (l:=l) (ns:=ws) [c] v
  rw[show c::v=[c] ++ v from rfl,h3,ak]
  simp only[bR]
  lia
theorem Zg(G:OG l ws k)(w:List Nat):∃Ws:List (List Nat),∀v,Below k l ws w v->v ∈ Ws:=by
 refine⟨zb7 l (zl k l ws w).toNat,λv hv=>Y3 _ v ?_ hv.1⟩
 have h1:=WO G hv.1
 have h2:zl k l ws v<=zl k l ws w:=by
  rcases hv.2 with rfl | h
  ·exact d5 _
  ·exact Xe h
 lia
theorem ZR(G:OG l ws k)(hp:Dwn k l ws ps)(hmet:∀t ∈ ovA ps ps.length,∃f,Rws ps (pkA ps t) f/\Rws ps (pkB ps t) f){w:List Nat}{Ws:List (List Nat)}(hin:∀v,Below k l ws w v->v ∈ Ws):∀(n:Nat) (x:List Nat),mu k l ws Ws x<n->Below k l ws w x->∀v1 v2,Rws ps x v1->Rws ps x v2->∃t,Rws ps v1 t/\Rws ps v2 t
 | 0,x,h,_=>absurd h (cz _)
 | n+1,x,hn,hx=>λv1 v2 h1 h2=>by
  cases h1 with
  | nil=>exact⟨v2,h2,.nil⟩
  | @cons _ y1 _ s1 r1 =>
   cases h2 with
   | nil=>exact⟨v1,.nil,.cons s1 r1⟩
   | @cons _ y2 _ s2 r2 =>
    have b1:=hx.step G hp s1
    have b2:=hx.step G hp s2
    have m1:=Kw (Ws:=Ws) (hin _ b1) (vH G hp hx.1 s1).1
    have m2:=Kw (Ws:=Ws) (hin _ b2) (vH G hp hx.1 s2).1
    obtain⟨s,j1,j2⟩:=XG hmet s1 s2
    obtain⟨t1,a1,a2⟩:=ZR G hp hmet hin n y1 (by lia) b1 v1 s r1 j1
    obtain⟨t,c1,c2⟩:=ZR G hp hmet hin n y2 (by lia) b2 t1 v2 (j2.trans a2) r2
    exact⟨t,a1.trans c1,c2⟩
def Met(ps:List zw):Prop:=∀t ∈ ovA ps ps.length,∃f,Rws ps (pkA ps t) f/\Rws ps (pkB ps t) f
theorem KG(G:OG l ws k)(hp:Dwn k l ws ps)(hmet:Met ps){x v1 v2:List Nat}(hx:∀c ∈ x,c ∈ l)(h1:Rws ps x v1)(h2:Rws ps x v2):∃t,Rws ps v1 t/\Rws ps v2 t:=by
 obtain⟨Ws,hin⟩:=Zg G x
 exact ZR G hp hmet hin _ x (cX _) ⟨hx,.inl rfl⟩ v1 v2 h1 h2
theorem zaR(G:OG l ws k)(hp:Dwn k l ws ps)(hmet:Met ps){u v:List Nat}(h:EqR ps u v):(∀c ∈ u,c ∈ l)->∃t,Rws ps u t/\Rws ps v t:=by
 induction h with
 | refl u=>exact λ_=>⟨u,.nil,.nil⟩
 | symm h ih =>
  intro hu
  obtain⟨t,h1,h2⟩:=ih ((Y4 hp h).mpr hu)
  exact⟨t,h2,h1⟩
 | trans h _ i1 i2 =>
  intro hu
  have hv:=(Y4 hp h).mp hu
  obtain⟨t1,a1,a2⟩:=i1 hu
  obtain⟨t2,b1,b2⟩:=i2 hv
  obtain⟨t,c1,c2⟩:=KG G hp hmet hv a2 b1
  exact⟨t,a1.trans c1,b2.trans c2⟩
 | one h=>exact λ_=>⟨_,.one h,.nil⟩
theorem Xr(G:OG l ws k)(hp:Dwn k l ws ps){u v:List Nat}(h:Rws ps u v):(∀c ∈ u,c ∈ l)->Below k l ws u v:=by
 induction h with
 | nil=>exact λhu=>⟨hu,.inl rfl⟩
 | @cons u v w s _ ih =>
  intro hu
  obtain⟨h1,h2⟩:=vH G hp hu s
  obtain⟨h3,h4⟩:=ih h2
  refine⟨h3,.inr ?_⟩
  rcases h4 with rfl | h4
  ·exact h1
  ·exact yn h4 h1
theorem Zb{u v:List Nat}(h:Rws ps u v)(hn:∀p ∈ ps,¬ Within p.1 u):v=u:=by
 cases h with
 | nil=>rfl
 | cons s _ =>
  obtain⟨p,hm,a,b,e,_⟩:=s
  exact absurd ⟨a,b,e⟩ (hn p hm)
end
section
variable{k:Nat}{l:List Nat}{ws:List Int}{es fs:List Ent}
end
theorem zbi(h:unG ps 40=[]):Met ps:=λt ht=>by
 have hm:Uo ps 40 t=sK:=by
  cases e:Uo ps 40 t with
  | true=>rfl
  | false =>
   have:t ∈ unG ps 40:=sY.mpr ⟨ht,by rw[e];rfl⟩
   rw[h] at this
   cases this
 have e:zaa ps 40 (pkA ps t)=zaa ps 40 (pkB ps t):=of_decide_eq_true hm
 refine⟨zaa ps 40 (pkA ps t),Yn _,?_⟩
 rw[e]
 exact Yn _
theorem J8{k n:Nat}{l:List Nat}{kept fresh es:List Ent}{w:Bool}(h:Cpl k l ns n kept fresh w es):w=sK->Met (zb es):=by
 induction h with
 | out kept fresh=>exact λe=>by cases e
 | slim _=>exact λe=>by cases e
 | far _ _ _ _=>exact λe=>by cases e
 | whole _ _ _ hu=>exact λ_=>zbi hu
 | more _ _ _ _ _ ih=>exact ih
theorem Vo{R:List Nat->List Nat->Prop}(hR:QZ R){k n:Nat}{l:List Nat}{kept fresh es:List Ent}{w:Bool}(h:Cpl k l ns n kept fresh w es):w=sK->vf R es->vf R fresh:=by
 induction h with
 | out kept fresh=>exact λe=>by cases e
 | slim _=>exact λe=>by cases e
 | far _ _ _ _=>exact λe=>by cases e
 | whole h _ _ _=>exact λ_ hk=>(Jo hR h _ rfl).mp hk
 | more h _ _ _ _ ih=>exact λe hk=>(Jo hR h _ rfl).mp λx hx=>ih e hk x (bj _ hx)
theorem Vu{i:Nat}{p:zw}(h:rs[i]? = sI p):∀{n:Nat},i<n->fE i p ∈ fEs rs n
 | n+1,hi=>by
  show _ ∈ fEs rs n ++ ((rs[n]?).map (fE n)).toList
  rcases tN.mp hi with hi | rfl
  ·exact bj _ (Vu h hi)
  ·rw[h]
   exact aA _ aB
theorem Jc{k:Nat}{l:List Nat}(G:OG l ws k)(h3:∀n ∈ ws,n<=3):∀{v:List Nat},(∀c ∈ v,c ∈ l)->zl k l ws v<=3 * (v.length:Int)
 | [],_=>by
  rw[yx (w:=[]) G λc hc=>absurd hc eJ]
  exact d5 _
 | c::v,hm=>by
  have h1:=Jc G h3 (v:=v) λx hx=>hm x (ao _ hx)
  have h4:=yy (k:=k) (l:=l) (ns:=ws) [c] v
  have h2:zl k l ws [c]<=3:=by
   rw[yx G λx hx=>by rw[sX.mp hx];exact hm c aB]
   have hlt:=bG (hm c aB)
   have hl:=G.nl
   show wt k ws ((l.idxOf c:Nat):Int)+0<=3
   unfold wt
   split
   ·rw[aH,af,aj (by lia)]
    have:=h3 _ (List.getElem_mem (l:=ws) (n:=l.idxOf c) (by lia))
    show ws[l.idxOf c]+0<=3
    lia
   ·decide
  rw[show c::v=[c] ++ v from rfl,h4,ak]
  simp only[bR]
  lia
theorem zaF{l:List Nat}(G:OG l ws k)(h3:∀n ∈ ws,n<=3)(hD:Dwn k l ws ps){w v:List Nat}(hw:∀c ∈ w,c ∈ l)(h:Rws ps w v):v.length<=3 * w.length:=by
 obtain⟨v1,v2⟩:=Xr G hD h hw
 have h1:=WO G v1
 have h2:=Jc G h3 hw
 have h4:zl k l ws v<=zl k l ws w:=by
  rcases v2 with e | h
  ·rw[e]
   exact d5 _
  ·exact Xe h
 lia
def AtR(v:List Nat)(ps:List zw)(i:Nat)(x y:Int):Prop:=(x=(v.length:Int)+1/\∀j p,j<i->ps[j]? = sI p->¬ Within p.1 v)\/∃(n j:Nat) (p:zw),x=(n:Int)/\y=(j:Int)/\ps[j]? = sI p/\n+p.1.length<=v.length/\(v.drop n).take p.1.length=p.1
theorem AtR.no{v:List Nat}{i:Nat}{x y z:Int}{r:zw}(h:AtR v ps i x y)(hr:ps[i]? = sI r)(hz:zbE v r.1 z)(h0:¬ 0<=z):AtR v ps (i+1) x y:=by
 rcases h with ⟨h1,h2⟩ | h
 ·refine .inl ⟨h1,λj p hj hp=>?_⟩
  rcases tN.mp hj with hj | rfl
  ·exact h2 j p hj hp
  ·rw[hr] at hp
   cases hp
   rcases hz with ⟨_,hz⟩ | ⟨n,rfl,_⟩
   ·rintro⟨a,c,e⟩
    refine hz a.length ⟨?_,?_⟩
    ·rw[e,ak,ak]
     lia
    ·rw[e,ar,cy,cD]
   ·exact absurd (bH n) h0
 ·exact .inr h
theorem AtR.yes{v:List Nat}{i:Nat}{x y z:Int}{r:zw}(h:AtR v ps i x y)(hr:ps[i]? = sI r)(hz:zbE v r.1 z)(h0:0<=z):if z<x\/(z=x/\(i:Int)<y) then AtR v ps (i+1) z (i:Int) else AtR v ps (i+1) x y:=by
 obtain⟨n,rfl,h1,h2⟩:=hz.resolve_left λh=>by have:=h.1;lia
 split
 ·exact .inr ⟨n,i,r,rfl,rfl,hr,h1,h2⟩
 ·rename_i hn
  rcases h with ⟨rfl,_⟩ | h
  ·exact absurd (.inl (by lia)) hn
  ·exact .inr h
def wm(K:oN):Sp:=λvs H Q _=>∃(a:oO) (k:Nat) (l:List Nat) (ws:List Int) (ps:List zw) (w:List Nat),vs=[.ref a,.str (tx w)]/\LsA K H a (ps.map dR)/\OG l ws k/\(∀n ∈ ws,n<=3)/\Dwn k l ws ps/\(∀p ∈ ps,p.2.length<=60)/\ps.length<=1000/\(∀c ∈ w,c ∈ l)/\w.length<=100/\∀(v:List Nat) (H':Hp),Same H H'->Rws ps w v->(∀p ∈ ps,¬ Within p.1 v)->Q (.str (tx v)) H'
theorem vt{l:List Nat}{w:List Nat}(h1:LsA K H a (ps.map dR))(h2:OG l ws k)(h3:∀n ∈ ws,n<=3)(h4:Dwn k l ws ps)(h5:∀p ∈ ps,p.2.length<=60)(h8:ps.length<=1000)(h6:∀c ∈ w,c ∈ l)(h7:w.length<=100)(h:∀(v:List Nat) (H':Hp),Same H H'->Rws ps w v->(∀p ∈ ps,¬ Within p.1 v)->Q (.str (tx v)) H'):wm K [.ref a,.str (tx w)] H Q E:=⟨a,k,l,ws,ps,w,rfl,h1,h2,h3,h4,h5,h8,h6,h7,h⟩
structure HMn(mg:oV->Option oP):Prop where
 m:mg "min" = sJ
theorem gQ:zp ["_law_rules","_law_word_here","_law_first","_law_number","_law_rule","_law_at","_law_behind"] ["_law_rules","_law_word_here"] (zh VY):=by nofun
theorem K4(B:Bt mg)(HM:HMn mg)(F:Fun K "_law_form" "_law_form" VY f fd) : z8 P w K mg base CX0 1 f fd ["_law_rules","_law_word_here"] (wm K):=by
 refine F.ok gQ (λvs H Q E h=>?_) (λcdv A outer s H vs Q E hr h=>?_)
 ·obtain⟨a,k,l,ws,ps,w,rfl,_⟩:=h
  rfl
 ·obtain⟨a,k,l,ws,ps,w,rfl,hA,hG,h3,hD,h60,hpl,hw,hwl,q⟩:=h
  refine⟨_,(zg (ku PassesOwn.never (yL yw (λ_=>rfl))
    (zi (zq (i:=2) gQ.nd rfl (.inl rfl) (zY (za (zB op_add (zm zZ rfl B.len ax (za (pv 1) ze)) zf) (za zf ze))))
    (zi (yq PassesOwn.never rfl (xA rfl B.enum (za (pv 0) ze)) (vd (n:=2) rfl (zN (zy (i:=3) gQ.nd rfl (.inl rfl)) (zN (zy (i:=4) gQ.nd rfl (.inl rfl)) xJ)))
     (zi (zq (i:=5) gQ.nd rfl (.inl rfl) (uH bz cT cU JJ (pv 1) (za (zr ix_tup (pv 4) zf (λ_ _=>rfl)) ze)))
     (zg (zR (zG op_ge' (pv 5) zf (zI _))
      (zg (zq (i:=2) gQ.nd rfl (.inl rfl) (zm (zbn rfl (qE hr)) rfl HM.m fh (za (pv 2) (za (zY (za (pv 5) (za (pv 3) ze))) ze)))))
      zA))))
    (zi (zR (zG op_gt (zr ix_tup (pv 2) zf (λ_ _=>rfl)) (zm zZ rfl B.len ax (za (pv 1) ze)) (zI _))
     (zg (zt (pv 1)))
     zA)
    (zi (zq (i:=4) gQ.nd rfl (.inl rfl) (zr ix_list (pv 0) (zr ix_tup (pv 2) zf (λ_ _=>rfl)) (λ_ _=>rfl)))
    (zi (zq (i:=6) gQ.nd rfl (.inl rfl) (zO yZ (pv 1) (zV (zB op_add (zr ix_tup (pv 2) zf (λ_ _=>rfl)) (zm zZ rfl B.len ax (za (zr ix_tup (pv 4) zf (λ_ _=>rfl)) ze)))) ym))
    (zg (zq (i:=1) gQ.nd rfl (.inl rfl) (zB op_add_str (zB op_add_str (zO yZ (pv 1) ym (zV (zr ix_tup (pv 2) zf (λ_ _=>rfl)))) (zr ix_tup (pv 4) zf (λ_ _=>rfl))) (pv 6))))))))))),?_⟩
  have s16:=ya
  have s16:=ya
  obtain⟨xs,hX,hI⟩:=id hA
  have hxl:=hI.len
  rw[ae] at hxl
  obtain⟨Ws,hin⟩:=Zg hG w
  unfold Xb
  refine⟨λm σ H'=>Same H H'/\∃(v:List Nat) (v2 v3 v4 v5 v6:Option V),(m=mu k l ws Ws v/\Rws ps w v)/\σ=[sI (.ref a),sI (.str (tx v)),v2,v3,v4,v5,v6],⟨_,Same.refl _,w,sJ,sJ,sJ,sJ,sJ,⟨rfl,.nil⟩,rfl⟩,?_⟩
  rintro m σ H1 ⟨s1,v,v2,v3,v4,v5,v6,⟨rfl,hv⟩,rfl⟩
  obtain⟨hv1,hv2⟩:=Xr hG hD hv hw
  have hvl:=zaF hG h3 hD hw hv
  rfl'
  refine⟨λσ' H''=>Same H H''/\∃(u:List Nat) (v2 v3 v4 v5 v6:Option V),Rw ps v u/\σ'=[sI (.ref a),sI (.str (tx u)),v2,v3,v4,v5,v6],?_,?_⟩
  ·rintro σ' H'' ⟨s2,u,v2,v3,v4,v5,v6,h,rfl⟩
   have b1:=Below.step hG hD ⟨hv1,hv2⟩ h
   have m1:=Kw (Ws:=Ws) (hin _ b1) (vH hG hD hv1 h).1
   exact⟨mu k l ws Ws u,m1,s2,u,rfl,hv.trans (.one h),v2,v3,v4,v5,v6,rfl⟩
  refine zk (λσ H'=>Same H H'/\∃q:oO,H' q=sI (.tup [.int ((v.length:Int)+1),.int 0])/\σ=[sI (.ref a),sI (.str (tx v)),sI (.ref q),v3,v4,v5,v6]) ?_ ?_
  ·rfl'
   exact⟨by lia,by lia,λp hp=>⟨s1.trans (zd hp),zc⟩⟩
  rintro σ H2 ⟨s2,q0,hq0,rfl⟩
  refine zk (λσ H'=>Same H H'/\∃(q0:oO) (x y:Int),H' q0=sI (.tup [.int x,.int y])/\AtR v ps ps.length x y/\∃v3 v4 v5:Option V,σ=[sI (.ref a),sI (.str (tx v)),sI (.ref q0),v3,v4,v5,v6]) ?_ ?_
  ·rfl'
   refine⟨⟨_,SqL.of (s2 _ _ hX)⟩,ForEL.by (xs:=xs) (λi σ H'=>Same H H'/\∃(q0:oO) (x y:Int),H' q0=sI (.tup [.int x,.int y])/\AtR v ps i x y/\∃v3 v4 v5:Option V,σ=[sI (.ref a),sI (.str (tx v)),sI (.ref q0),v3,v4,v5,v6]) ⟨s2,q0,_,_,hq0,.inl ⟨rfl,λj p h=>absurd h (cz _)⟩,v3,v4,v5,rfl⟩ (λi σ H' _ h=>SqL.of (h.1 _ _ hX)) ?_ ?_⟩
   ·rintro i x σ H3 p3 hx ⟨s3,q0,x0,y0,hq0,hat,v3,v4,v5,rfl⟩ hp3
    have hi:=(sQ.mp hx).1
    obtain⟨r,p,hr,rfl,hsq⟩:=hI.getR hx
    have sp3:=zd (o:=.tup [.int (i:Nat),.ref p]) hp3
    have s4:=s3.trans sp3
    have hq4:=sp3 _ _ hq0
    have hsq4:=zj s4 hsq
    rfl'
    refine⟨_,SqT.of zc,rfl,_,_,rfl,_,_,rfl,rfl,?_⟩
    generalize upd H3 p3 (.tup [.int (i:Nat),.ref p])=H4 at s4 hq4 hsq4
    refine zk (λσ H'=>H'=H4/\∃z:Int,zbE v r.1 z/\σ=[sI (.ref a),sI (.str (tx v)),sI (.ref q0),sI (.int (i:Nat)),sI (.ref p),sI (.int z),v6]) ?_ ?_
    ·rfl'
     exact⟨_,hsq4,_,rfl,v,r.1,rfl,rfl,λz hz=>⟨rfl,z,hz,rfl⟩⟩
    rintro σ H5 ⟨rfl,z,hz,rfl⟩
    rfl'
    refine yT (λh0=>⟨by lia,λp5 hp5=>?_⟩) λh0=>⟨s4,q0,x0,y0,hq4,hat.no hr hz h0,rfl⟩
    have sp5:=zd (o:=.tup [.int z,.int (i:Nat)]) hp5
    refine⟨q0,p5,x0,y0,z,(i:Nat),rfl,SqT.of (sp5 _ _ hq4),SqT.of zc,s4.trans sp5,?_⟩
    have hy:=hat.yes hr hz h0
    by_cases g:z<x0\/(z=x0/\(i:Int)<y0)
    ·rw[if_pos g] at hy ⊢
     exact⟨p5,_,_,zc,hy,rfl⟩
    ·rw[if_neg g] at hy ⊢
     exact⟨q0,_,_,sp5 _ _ hq4,hy,rfl⟩
   ·rintro σ H' ⟨s',q0,x,y,h1,h2,v3,v4,v5,rfl⟩
    exact⟨s',q0,x,y,h1,by rw[<- hxl];exact h2,v3,v4,v5,rfl⟩
  rintro σ H3 ⟨s3,q0,x,y,hq0,hat,v3,v4,v5,rfl⟩
  refine zk (λσ H'=>H'=H3/\(∃(n j:Nat) (p:zw),x=(n:Int)/\y=(j:Int)/\ps[j]? = sI p/\n+p.1.length<=v.length/\(v.drop n).take p.1.length=p.1)/\σ=[sI (.ref a),sI (.str (tx v)),sI (.ref q0),v3,v4,v5,v6]) ?_ ?_
  ·rfl'
   refine⟨_,SqT.of hq0,_,rfl,by lia,_,rfl,yT (λhg=>?_) λhg=>?_⟩
   ·rcases hat with ⟨_,h2⟩ | ⟨n,j,p,rfl,_,_,h,_⟩
    ·refine q v H3 s3 hv λp hp=>?_
     obtain⟨j,hj⟩:=tu.mp hp
     exact h2 j p (sQ.mp hj).1 hj
    ·lia
   ·obtain⟨n,j,p,a1,a2,a3,a4,a5⟩:=hat.resolve_left λh=>hg (by have:=h.1;lia)
    exact⟨n,a1,j,a2,p,a3,a4,a5⟩
  rintro σ H4 ⟨rfl,⟨n,j,r,rfl,rfl,hr,hn1,hn2⟩,rfl⟩
  have hrm:=ac hr
  have hrl:=h60 r hrm
  have hsp:v=v.take n ++ r.1 ++ v.drop (n+r.1.length):=by
   conv=>lhs;rw[<- aZ n v,<- aZ r.1.length (v.drop n),hn2,cQ]
   rw[ar]
  obtain⟨x3,hx3,hsq3⟩:∃p3:oO,xs[j]? = sI (.ref p3)/\SqT K H4 p3 [.str (tx r.1),.str (tx r.2)]:=by
   have hj:=(sQ.mp hr).1
   have hx:xs[j]? = sI (xs[j]'(by lia)):=aj (by lia)
   obtain⟨r',p,hr',e,hsq⟩:=hI.getR hx
   rw[hr] at hr'
   cases hr'
   exact⟨p,by rw[hx,e],zj s3 hsq⟩
  refine zk (λσ H'=>H'=H4/\σ=[sI (.ref a),sI (.str (tx v)),sI (.ref q0),v3,sI (.ref x3),v5,v6]) ?_ ?_
  ·rfl'
   exact⟨_,SqT.of hq0,_,rfl,_,_,rfl,SqL.of (s3 _ _ hX),vn hx3⟩
  rintro σ H5 ⟨rfl,rfl⟩
  refine zk (λσ H'=>H'=H5/\σ=[sI (.ref a),sI (.str (tx v)),sI (.ref q0),v3,sI (.ref x3),v5,sI (.str (tx (v.drop (n+r.1.length))))]) ?_ ?_
  ·rfl'
   refine⟨_,SqT.of hq0,_,rfl,_,hsq3,_,rfl,_,⟨by rw[zD];lia,rfl⟩,_,rfl,by lia,?_⟩
   rw[zD,<- Int.natCast_add,xx v (bH _),aH]
  rintro σ H6 ⟨rfl,rfl⟩
  rfl'
  refine⟨_,SqT.of hq0,_,rfl,_,rfl,by lia,_,hsq3,_,rfl,_,rfl,?_,?_,s3,_,⟨r,hrm,_,_,hsp,rfl⟩,?_⟩
  all_goals simp only[zD,yC,uk v (bH _),aH,ak,az,aR]
  ·lia
  ·lia
theorem VO{u v:List Nat}(h:Rws ps u v):EqR ps u v:=by
 induction h with
 | nil=>exact .refl _
 | cons s _ ih=>exact .trans (.one s) ih
theorem YM{l:List Nat}(G:OG l ws k)(hp:Dwn k l ws ps)(hm:Met ps){w u v v':List Nat}(hw:∀c ∈ w,c ∈ l)(he:EqR ps w u)(h1:Rws ps w v)(n1:∀p ∈ ps,¬ Within p.1 v)(h2:Rws ps u v')(n2:∀p ∈ ps,¬ Within p.1 v'):v'=v/\zK k l ws u v=sL:=by
 have hu:=(Y4 hp he).mp hw
 have hv:=(Xr G hp h1 hw).1
 obtain⟨t,r1,r2⟩:=zaR G hp hm (.trans (.symm (VO h1)) (.trans he (VO h2))) hv
 have e:v'=v:=(Zb r2 n2).symm.trans (Zb r1 n1)
 subst e
 refine⟨rfl,tG.mpr λhl=>?_⟩
 rcases (Xr G hp h2 hu).2 with e | e
 ·rw[e,zU] at hl
  cases hl
 ·have:=yn hl e
  rw[zU] at this
  cases this
def zbT:List V->Hp->VK->Prop:=λxs H Q=>∃i j,xs=[.int i,.int j]/\Q (.int (if j<i then j else i)) H
theorem zau{X:Cx}(hc:X.calm=sK):wL X (.builtin "min") zbT:=VD hc
theorem UO{r o:zw}(hr:r ∈ ps)(ho:o ∈ ps){n sz:Nat}(hn:n<r.1.length)(hs:sz=min (r.1.length - n) o.1.length)(h:(r.1.drop n).take sz=o.1.take sz):EqR ps (r.2 ++ o.1.drop sz) ((r.1 ++ o.1.drop sz).take n ++ o.2 ++ (r.1 ++ o.1.drop sz).drop (n+o.1.length)):=by
 have e:r.1 ++ o.1.drop sz=(r.1 ++ o.1.drop sz).take n ++ o.1 ++ (r.1 ++ o.1.drop sz).drop (n+o.1.length):=by
  have e1:((r.1 ++ o.1.drop sz).drop n).take o.1.length=o.1:=by
   rw[bA (by lia)]
   rcases Nat.le_total (r.1.length - n) o.1.length with hle | hle
   ·rw[ci hle] at hs
    rw[ba (by rw[aR];lia)] at h
    rw[h,aZ,aK]
   ·rw[cZ hle] at hs
    subst hs
    rw[dI,aT,h,aK]
  conv=>lhs;rw[<- aZ n (r.1 ++ o.1.drop sz),<- aZ o.1.length ((r.1 ++ o.1.drop sz).drop n),e1,cQ]
  rw[ar]
 refine .trans (.symm (.one ⟨r,hr,[],o.1.drop sz,rfl,rfl⟩)) (.one ⟨o,ho,_,_,?_,rfl⟩)
 exact e
theorem zbt{A B C X Y:Prop}[Decidable A][Decidable B][Decidable C](h1:A->X)(h2:Y):if A then (if B then X else if C then X else Y) else Y:=by
 by_cases a:A <;> by_cases b:B <;> by_cases c:C <;> simp [a,b,c,h1,h2]
def ky(K:oN):Sp:=λvs H Q _=>∃(a:oO) (k:Nat) (l:List Nat) (ws:List Int) (ps:List zw),vs=[.ref a]/\LsA K H a (ps.map dR)/\OG l ws k/\(∀n ∈ ws,n<=3)/\Dwn k l ws ps/\(∀p ∈ ps,p.1.length<=20/\p.2.length<=20)/\ps.length<=1000/\Met ps/\∀H':Hp,Same H H'->Q (.bl sK) H'
theorem gh:zp ["_law_rules","_law_k","_law_rule","_law_n","_law_other","_law_place","_law_size","_law_agree","_law_word_here","_law_left","_law_behind","_law_right"] ["_law_rules"] (zh WN):=by nofun
theorem KY(B:Bt mg)(HM:HMn mg)(F:Fun K "_law_meet" "_law_meet" WN f fd)(mj:Df P w K mg base CX0 1 "_law_form" ["_law_rules","_law_word_here"] [] (wm K)):z8 P w K mg base CX0 2 f fd ["_law_rules"] (ky K):=by
 refine F.ok gh (λvs H Q E h=>?_) (λcdv A outer s H vs Q E hr h=>?_)
 ·obtain⟨a,k,l,ws,ps,rfl,_⟩:=h
  rfl
 ·obtain⟨a,k,l,ws,ps,rfl,hA,hG,h3,hD,hsd,hpl,hmt,q⟩:=h
  refine⟨_,(zi (yq PassesOwn.never rfl (xA rfl B.enum (za (pv 0) ze)) (vd (n:=2) rfl (zN (zy (i:=1) gh.nd rfl (.inl rfl)) (zN (zy (i:=2) gh.nd rfl (.inl rfl)) xJ)))
    (zg (yq PassesOwn.never rfl (xA rfl B.enum (za (pv 0) ze)) (vd (n:=2) rfl (zN (zy (i:=3) gh.nd rfl (.inl rfl)) (zN (zy (i:=4) gh.nd rfl (.inl rfl)) xJ)))
     (zg (yq PassesOwn.never rfl (yR rfl B.range (za (zm zZ rfl B.len ax (za (zr ix_tup (pv 2) zf (λ_ _=>rfl)) ze)) ze)) (zy (i:=5) gh.nd rfl (.inl rfl))
      (zi (zq (i:=6) gh.nd rfl (.inl rfl) (zm (zau rfl) rfl HM.m fh (za (zB uA (zm zZ rfl B.len ax (za (zr ix_tup (pv 2) zf (λ_ _=>rfl)) ze)) (pv 5)) (za (zm zZ rfl B.len ax (za (zr ix_tup (pv 4) zf (λ_ _=>rfl)) ze)) ze))))
      (zi (zq (i:=7) gh.nd rfl (.inl rfl) (wz uG (zO yZ (zr ix_tup (pv 2) zf (λ_ _=>rfl)) (zV (pv 5)) (zV (zB op_add (pv 5) (pv 6)))) (zO yZ (zr ix_tup (pv 4) zf (λ_ _=>rfl)) ym (zV (pv 6))) (zI _)))
      (zg (zR (PW.pt (zaO (yL (pv 7) (λ_=>rfl)) (JS (PW.pt (qS (zG kM (pv 1) (pv 3) (zI _)) (uo (zG op_gt (pv 5) zf (zI _))))))))
       (zi (zq (i:=8) gh.nd rfl (.inl rfl) (zB op_add_str (zr ix_tup (pv 2) zf (λ_ _=>rfl)) (zO yZ (zr ix_tup (pv 4) zf (λ_ _=>rfl)) (zV (pv 6)) ym)))
       (zi (zq (i:=9) gh.nd rfl (.inl rfl) (zB op_add_str (zr ix_tup (pv 2) zf (λ_ _=>rfl)) (zO yZ (zr ix_tup (pv 4) zf (λ_ _=>rfl)) (zV (pv 6)) ym)))
       (zi (zq (i:=10) gh.nd rfl (.inl rfl) (zO yZ (pv 8) (zV (zB op_add (pv 5) (zm zZ rfl B.len ax (za (zr ix_tup (pv 4) zf (λ_ _=>rfl)) ze)))) ym))
       (zi (zq (i:=11) gh.nd rfl (.inl rfl) (zB op_add_str (zB op_add_str (zO yZ (pv 8) ym (zV (pv 5))) (zr ix_tup (pv 4) zf (λ_ _=>rfl))) (pv 10)))
       (zg (zR (zG kM (cl0 mj hr .nil rfl (za (pv 0) (za (pv 9) ze))) (cl0 mj hr .nil rfl (za (pv 0) (za (pv 11) ze))) (zI _))
        (zg (zt yw))
        zA))))))
       zA)))))))))
   (zg (zt yw))),?_⟩
  have s16:=ya
  have s16:=ya
  obtain⟨xs,hX,hI⟩:=id hA
  have hxl:=hI.len
  rw[ae] at hxl
  refine zk (λσ H'=>Same H H') ?_ λσ H' s'=>by
   rfl'
   exact q H' s'
  rfl'
  refine⟨⟨_,SqL.of hX⟩,ForEL.by (xs:=xs) (λi σ H'=>Same H H'/\∃v1 v2 v3 v4 v5 v6 v7 v8 v9 v10 v11:Option V,σ=[sI (.ref a),v1,v2,v3,v4,v5,v6,v7,v8,v9,v10,v11]) ⟨Same.refl _,sJ,sJ,sJ,sJ,sJ,sJ,sJ,sJ,sJ,sJ,sJ,rfl⟩ (λi σ H' _ h=>SqL.of (h.1 _ _ hX)) ?_ λσ H' h=>h.1⟩
  rintro i x σ H1 p1 hx ⟨s1,v1,v2,v3,v4,v5,v6,v7,v8,v9,v10,v11,rfl⟩ hp1
  obtain⟨r,p,hr,rfl,hsq⟩:=hI.getR hx
  have hrm:=ac hr
  obtain⟨r1,r2⟩:=hsd r hrm
  have s2:=s1.trans (zd (o:=.tup [.int (i:Nat),.ref p]) hp1)
  refine JH (SqT.of zc) ?_
  generalize upd H1 p1 (.tup [.int (i:Nat),.ref p])=H2 at s2
  rfl'
  refine⟨⟨_,SqL.of (s2 _ _ hX)⟩,ForEL.by (xs:=xs) (λj σ H'=>Same H H'/\∃v3 v4 v5 v6 v7 v8 v9 v10 v11:Option V,σ=[sI (.ref a),sI (.int (i:Nat)),sI (.ref p),v3,v4,v5,v6,v7,v8,v9,v10,v11]) ⟨s2,v3,v4,v5,v6,v7,v8,v9,v10,v11,rfl⟩ (λi σ H' _ h=>SqL.of (h.1 _ _ hX)) ?_ ?_⟩
  rotate_left
  ·rintro σ H' ⟨s',v3,v4,v5,v6,v7,v8,v9,v10,v11,rfl⟩
   exact⟨s',_,_,_,_,_,_,_,_,_,_,_,rfl⟩
  rintro j x σ H3 p3 hx3 ⟨s3,v3,v4,v5,v6,v7,v8,v9,v10,v11,rfl⟩ hp3
  obtain⟨o,po,ho,rfl,hso⟩:=hI.getR hx3
  have hom:=ac ho
  obtain⟨o1,o2⟩:=hsd o hom
  have s4:=s3.trans (zd (o:=.tup [.int (j:Nat),.ref po]) hp3)
  refine JH (SqT.of zc) ?_
  generalize upd H3 p3 (.tup [.int (j:Nat),.ref po])=H4 at s4
  rfl'
  refine⟨_,zj s4 hsq,_,rfl,_,⟨by rw[zD];lia,rfl⟩,by lia,by rw[zD];lia,?_⟩
  rw[zD]
  refine ForR.by (λn σ H'=>Same H H'/\∃v5 v6 v7 v8 v9 v10 v11:Option V,σ=[sI (.ref a),sI (.int (i:Nat)),sI (.ref p),sI (.int (j:Nat)),sI (.ref po),v5,v6,v7,v8,v9,v10,v11]) ⟨s4,v5,v6,v7,v8,v9,v10,v11,rfl⟩ ?_ ?_
  rotate_left
  ·rintro σ H' ⟨s',v5,v6,v7,v8,v9,v10,v11,rfl⟩
   exact⟨s',_,_,_,_,_,_,_,_,_,rfl⟩
  rintro n σ H5 hn ⟨s5,v5,v6,v7,v8,v9,v10,v11,rfl⟩
  have hn':n<r.1.length:=by lia
  simp only[xg,bv,bu]
  rw[show (0:Int)+(n:Int)=(n:Int) by lia]
  have hsq5:=zj s5 hsq
  have hso5:=zj s5 hso
  refine zk (λσ H'=>H'=H5/\∃sz:Nat,sz=min (r.1.length - n) o.1.length/\σ=[sI (.ref a),sI (.int (i:Nat)),sI (.ref p),sI (.int (j:Nat)),sI (.ref po),sI (.int (n:Nat)),sI (.int (sz:Nat)),v7,v8,v9,v10,v11]) ?_ ?_
  ·rfl'
   refine⟨_,hsq5,_,rfl,_,⟨by rw[zD];lia,rfl⟩,_,hso5,_,rfl,_,⟨by rw[zD];lia,rfl⟩,_,_,rfl,rfl,?_⟩
   rw[zD,zD]
   refine congrArg V.int ?_
   split <;> lia
  rintro σ H6 ⟨rfl,sz,hsz,rfl⟩
  refine zk (λσ H'=>H'=H6/\σ=[sI (.ref a),sI (.int (i:Nat)),sI (.ref p),sI (.int (j:Nat)),sI (.ref po),sI (.int (n:Nat)),sI (.int (sz:Nat)),sI (.bl (decide ((r.1.drop n).take sz=o.1.take sz))),v8,v9,v10,v11]) ?_ ?_
  ·rfl'
   refine⟨_,hsq5,_,rfl,_,rfl,by rw[zD];lia,_,hso5,_,rfl,_,rfl,by rw[zD];lia,?_⟩
   rw[jg,jg,uk _ (bH _),Q8 _ (bH _) (by lia),aH,aH,show ((n:Int)+(sz:Int) - (n:Int)).toNat=sz by lia]
  rintro σ H7 ⟨rfl,rfl⟩
  rfl'
  refine zbt (λhag=>?_) ?_
  rotate_left
  ·exact s5
  have hw:=UO hrm hom hn' hsz hag
  have hsl:(o.1.drop sz).length<=20:=by rw[aR];lia
  refine zk (λσ H'=>H'=H7/\σ=[sI (.ref a),sI (.int (i:Nat)),sI (.ref p),sI (.int (j:Nat)),sI (.ref po),sI (.int (n:Nat)),sI (.int (sz:Nat)),sI (.bl (decide ((r.1.drop n).take sz=o.1.take sz))),sI (.str (tx (r.1 ++ o.1.drop sz))),v9,v10,v11]) ?_ ?_
  ·rfl'
   refine⟨_,hsq5,_,rfl,_,hso5,_,rfl,_,rfl,by rw[zD];lia,_,rfl,?_,?_⟩
   all_goals rw[jg,xx _ (bH _),aH]
   ·rw[zD]
    lia
   ·rw[yC]
  rintro σ H8 ⟨rfl,rfl⟩
  refine zk (λσ H'=>H'=H8/\σ=[sI (.ref a),sI (.int (i:Nat)),sI (.ref p),sI (.int (j:Nat)),sI (.ref po),sI (.int (n:Nat)),sI (.int (sz:Nat)),sI (.bl (decide ((r.1.drop n).take sz=o.1.take sz))),sI (.str (tx (r.1 ++ o.1.drop sz))),sI (.str (tx (r.2 ++ o.1.drop sz))),v10,v11]) ?_ ?_
  ·rfl'
   refine⟨_,hsq5,_,rfl,_,hso5,_,rfl,_,rfl,by rw[zD];lia,_,rfl,?_,?_⟩
   all_goals rw[jg,xx _ (bH _),aH]
   ·rw[zD]
    lia
   ·rw[yC]
  rintro σ H9 ⟨rfl,rfl⟩
  have hwl:(r.1 ++ o.1.drop sz).length<=40:=by rw[ak];lia
  generalize hwd:r.1 ++ o.1.drop sz=wd at hw hwl
  refine zk (λσ H'=>H'=H9/\σ=[sI (.ref a),sI (.int (i:Nat)),sI (.ref p),sI (.int (j:Nat)),sI (.ref po),sI (.int (n:Nat)),sI (.int (sz:Nat)),sI (.bl (decide ((r.1.drop n).take sz=o.1.take sz))),sI (.str (tx wd)),sI (.str (tx (r.2 ++ o.1.drop sz))),sI (.str (tx (wd.drop (n+o.1.length)))),v11]) ?_ ?_
  ·rfl'
   refine⟨_,hso5,_,rfl,_,⟨by rw[zD];lia,rfl⟩,by lia,?_⟩
   rw[zD,<- Int.natCast_add,xx wd (bH _),aH]
  rintro σ H10 ⟨rfl,rfl⟩
  refine zk (λσ H'=>H'=H10/\σ=[sI (.ref a),sI (.int (i:Nat)),sI (.ref p),sI (.int (j:Nat)),sI (.ref po),sI (.int (n:Nat)),sI (.int (sz:Nat)),sI (.bl (decide ((r.1.drop n).take sz=o.1.take sz))),sI (.str (tx wd)),sI (.str (tx (r.2 ++ o.1.drop sz))),sI (.str (tx (wd.drop (n+o.1.length)))),sI (.str (tx (wd.take n ++ o.2 ++ wd.drop (n+o.1.length))))]) ?_ ?_
  ·rfl'
   refine⟨by lia,_,hso5,_,rfl,_,rfl,?_,?_,?_⟩
   all_goals simp only[zD,yC,uk wd (bH _),aH,ak,az,aR]
   ·lia
   ·lia
  rintro σ H11 ⟨rfl,rfl⟩
  rfl'
  have hR:=hA.same s5
  have hli:∀c ∈ r.2 ++ o.1.drop sz,c ∈ l:=λc hc=>(sV.mp hc).elim ((hD r hrm).2.2 c) λh=>(hD o hom).2.1 c (bW h)
  have hri:=(Y4 hD hw).mp hli
  have h20:∀p ∈ ps,p.2.length<=60:=λp hp=>aJ (hsd p hp).2 (by decide)
  refine vt hR hG h3 hD h20 hpl hli (by rw[ak];lia) λv1 H12 s12 a1 a2=>vt (hR.same s12) hG h3 hD h20 hpl hri (by simp only[ak,az,aR];lia) λv2 H13 s13 b1 b2=>?_
  obtain⟨rfl,_⟩:=YM hG hD hmt hli hw a1 a2 b1 b2
  exact⟨rfl,by rw[if_neg (λh=>h rfl)];exact s5.trans (s12.trans s13)⟩
structure zc3(K:oN)(mg:oV->Option oP)(CT:oO):Prop where
 gT:mg "NotTurned" = sI (.ref CT)
 xT:XI K CT
 na:NoAttr K CT "number"
 hd:bB K CT=sK
 sT:cq K (.ref CT) (.ref CT)=sI sK
 kl:aQ K (.type "list") (.type "list")=sI sK
 kb:aQ K (.type "int") (.type "bool")=sI sL
theorem EnsA.cut:∀{es:List Ent} {vs:List V} (n:Nat),EnsA K H es vs->EnsA K H (es.take n) (vs.take n)/\EnsA K H (es.drop n) (vs.drop n)
 | [],vs,n,h=>by
  simp only[EnsA] at h
  subst h
  simp only[List.take_nil,List.drop_nil,EnsA,and_self]
 | e::es,vs,0,h=>⟨by simp only[br,EnsA],h⟩
 | e::es,vs,n+1,h=>by
  simp only[EnsA] at h
  obtain⟨x,r,rfl,hx,hr⟩:=h
  obtain⟨h1,h2⟩:=EnsA.cut n hr
  simp only[dc,List.drop_succ_cons,EnsA]
  exact⟨⟨x,_,rfl,hx,h1⟩,h2⟩
def Yd(K:oN)(CO CR CW:oO):Sp:=λvs H Q _=>∃(o a R:oO) (c:Int) (k:Nat) (l:List Nat) (ns:List Int) (es:List Ent),vs=[.ref o,.ref a,.ref R,.int c]/\OrdAt CO CR CW H o k l ns/\OG l ns k/\EnsM K H a es/\LsA K H R ((zb es).map dR)/\es.length<=12/\InL l (zb es)/\Dwn k l ns (zb es)/\(∀e ∈ es,e.2.2.length<=100000)/\∀H',Same H H'->Q (.bl sK) H'
theorem gu:zp ["_law_order_here","_law_entries_here","_law_rules","_law_cell_here","_law_told_here","_law_number","_law_at","_law_steps_here","_law_wrong","e"] ["_law_order_here","_law_entries_here","_law_rules","_law_cell_here"] (zh uQ):=by nofun
theorem W7{f CO CR CW CT CH:oO}(B:Bt mg)(TA:zc3 K mg CT)(TS:K7 K mg CH)(F:Fun K "_law_system" "_law_system" uQ f fd)(iO:Df P w K mg base (CXx P w) 7 "system_by" ["order","entries"] [] (uV K CO CR CW CT CH))(M_system_rules_told:DM P w K mg base CX0 1 CH "rules_told" ["self"] (uO K CH)):z8 P w K mg base CX0 9 f fd ["_law_order_here","_law_entries_here","_law_rules","_law_cell_here"] (Yd K CO CR CW):=by
 refine F.ok gu (λvs H Q E h=>?_) (λcdv A outer s H vs Q E hr h=>?_)
 ·obtain⟨o,a,R,c,k,l,ns,es,rfl,_⟩:=h
  rfl
 ·obtain⟨o,a,R,c,k,l,ns,es,rfl,ho,hG,hA,hR,he,hin,hD,hst,q⟩:=h
  refine⟨_,(zi (zq (i:=4) gu.nd rfl (.inl rfl) (me0 M_system_rules_told TS.cl hr (clP xe0 iO hr .nil rfl (za (pv 0) (za (xN yP rfl B.list PySem.Pv.boot_list (za (pv 1) ze)) ze)))))
   (zi (zR (PW.pt (qS (yd (yL (yO rfl B.isi (pv 4) rfl B.list PySem.Pv.boot_list) (λ_=>rfl))) (uo (zG (za9 (qE hr)) (pv 4) (pv 2) (zI _)))))
    (zg (zt yw))
    zA)
   (zi (zq (i:=5) gu.nd rfl (.inl rfl) wn)
   (zi (zR (zG op_gt (zm zZ rfl B.len ax (za (pv 2) ze)) zf (zI _))
    (zi (zq (i:=6) gu.nd rfl (.inl rfl) (zB xh (pv 3) (zm zZ rfl B.len ax (za (pv 2) ze))))
    (zi (wf (i:=7) gu.nd rfl (.inl rfl) (.inl rfl) (own:=["_law_step"]) (caps:=[]) (ix:=[]) (tt:=xL) (te:=(Ur (zJ (tOp (vN K) (yo 0) (tC (.int 0))) (zJ (tOp (vN K) (yo 0) (tC (.int 1))) (zJ (Qi (tOp (vN K) (yo 0) (tC (.int 2)))) xS))))) rfl (zL (sc:=zh uQ) rfl (by symm) (by symm) (by symm) rfl (by symm) (by symm) rfl) (Ja rfl B.rev (za (zr ix_tup (zr ix_list (pv 1) (pv 6) (λ_ _=>rfl)) zf (λ_ _=>rfl)) ze)) (λ_ _ _ _ _ _=>zy (i:=0) (show List.Nodup [_] by decide) rfl (.inl rfl)) (λ_ _ _ _ _ _=>yg) (λ_ _ _ _ _ _=>(zY (za (zr ix_tup (pv 0) zf (λ_ _=>rfl)) (za (zr ix_tup (pv 0) zf (λ_ _=>rfl)) (za (VT (zr ix_tup (pv 0) zf (λ_ _=>rfl))) ze))))))
    (zi (zq (i:=8) gu.nd rfl (.inl rfl) (zB Zv (zB Zv (zO sl_list (pv 1) ym (zV (pv 6))) (vD (za (zY (za (zr ix_tup (zr ix_list (pv 2) (pv 6) (λ_ _=>rfl)) zf (λ_ _=>rfl)) (za (zr ix_tup (zr ix_list (pv 2) (pv 6) (λ_ _=>rfl)) zf (λ_ _=>rfl)) (za (pv 7) ze)))) ze))) (zO sl_list (pv 1) (zV (zB op_add (pv 6) zf)) ym)))
    (zi (Kb gu.nd ⟨rfl,rfl⟩ (clX iO hr .nil rfl (za (pv 0) (za (pv 8) ze)))
     (Ks (ts:=(zbA (K0 K (yo 9) "number") (xg 5))) 9 (λe=>(zg (zq (i:=5) gu.nd rfl (.inl rfl) (Kp (pv 9) rfl)))) rfl TA.gT rfl rfl TA.xT.ok .nil))
    (zg (zR (PW.pt (qS (zG kM (pv 5) (pv 6) (zI _)) (uo (yL (yO rfl B.isi (pv 5) rfl B.bool PySem.Pv.boot_bool) (λ_=>rfl)))))
     (zg (zt yw))
     zA))))))
    zA)
   (zg (zt yw)))))),?_⟩
  have s16:=ya
  have s16:=ya
  have hf:yX k l ns (zb es) 0=sJ:=wZ λm p e=>(hD p (ac e)).1
  have hpl:=xl es
  obtain⟨xs,hX,hEn⟩:=id hA
  have hxl:=hEn.len
  refine zk (λσ H'=>Same H H'/\∃r:oO,LsA K H' r ((zb es).map dR)/\σ=[sI (.ref o),sI (.ref a),sI (.ref R),sI (.int c),sI (.ref r),sJ,sJ,sJ,sJ,sJ]) ?_ ?_
  ·ac_rfl
   refine⟨_,.inl (SqL.of hX),λhd hh=>⟨o,hd,k,l,ns,es,rfl,ho.same (zd hh),hG,⟨xs,SqL.of zc,hEn.same (zd hh)⟩,by lia,hin,λi e=>by (rw[hf] at e;cases e),λ_ y qa H' s' hy=>?_⟩⟩
   obtain⟨dx,_,hx',_⟩:=id hy
   exact⟨y,rfl,_,_,hx',rfl,y,o,qa,_,rfl,hy,λr H'' s'' hL _=>⟨(zd hh).trans (s'.trans s''),r,hL,rfl⟩⟩
  rintro σ H1 ⟨s1,r,hr1,rfl⟩
  have hR1:=hR.same s1
  obtain⟨xr,hXr,hIr⟩:=id hR1
  have hrl:=hIr.len
  rw[ae] at hrl
  obtain⟨xq,hXq,_⟩:=id hr1
  refine zk (λσ H'=>H'=H1/\σ=[sI (.ref o),sI (.ref a),sI (.ref R),sI (.int c),sI (.ref r),sJ,sJ,sJ,sJ,sJ]) ?_ ?_
  ·ac_rfl
   refine⟨_,.inr (.inr (.inl ⟨_,_,rfl,rfl,SqL.of hXq⟩)),sK,TA.kl,yT (λe=>by cases e) λ_=>JQ (.inl ⟨hr1.is,hR1.is⟩) (by have:=Jp (zb es);lia) ?_⟩
   rw[vB]
   exact⟨sL,rfl,yT (λe=>by cases e) λ_=>rfl⟩
  rintro σ H1 ⟨rfl,rfl⟩
  refine zk (λσ H'=>H'=H1/\σ=[sI (.ref o),sI (.ref a),sI (.ref R),sI (.int c),sI (.ref r),sI (.non),sJ,sJ,sJ,sJ]) ?_ ?_
  ·rfl'
  rintro σ H1 ⟨rfl,rfl⟩
  refine zk (λσ H'=>Same H H') ?_ λσ H' s'=>by
   rfl'
   exact q H' s'
  ac_rfl
  refine⟨_,.inl ⟨_,SqL.of hXr,rfl⟩,yT (λhpos=>?_) λ_=>s1⟩
  refine zk (λσ H'=>H'=H1/\∃n:Nat,n<es.length/\σ=[sI (.ref o),sI (.ref a),sI (.ref R),sI (.int c),sI (.ref r),sI (.non),sI (.int (n:Nat)),sJ,sJ,sJ]) ?_ ?_
  ·rfl'
   have m0:=bw c (b:=(xr.length:Int)) (by lia)
   have m1:=bx c (b:=(xr.length:Int)) (by lia)
   exact⟨_,.inl ⟨_,SqL.of hXr,rfl⟩,by lia,(c % (xr.length:Int)).toNat,by lia,by rw[Int.toNat_of_nonneg m0]⟩
  rintro σ H2 ⟨rfl,n,hn,rfl⟩
  have hxn:xs[n]? = sI (xs[n]'(by lia)):=aj (by lia)
  obtain⟨e,pe,se,hei,hxe,hqe,hse⟩:=hEn.get hxn
  rw[hxe] at hxn
  have hem:=ac hei
  have hsl:=hst e hem
  refine zk (λσ H'=>Same H2 H'/\∃t:oO,LsA K H' t ((yl e.2.2).map dSt)/\σ=[sI (.ref o),sI (.ref a),sI (.ref R),sI (.int c),sI (.ref r),sI (.non),sI (.int (n:Nat)),sI (.ref t),sJ,sJ]) ?_ ?_
  ·rfl'
   obtain⟨ts,hTs,hJ⟩:=hse.same s1
   have htl:=hJ.len
   rw[ae] at htl
   have hbl:(yl e.2.2).length=e.2.2.length:=by simp [yl]
   refine⟨_,SqL.of (s1 _ _ hX),_,vn hxn,pe,rfl,_,zj s1 hqe,_,rfl,se,rfl,ts,SqL.of hTs,λD hD=>CompV.by (xs:=ts) (λi sP H'=>Same H2 H'/\H' D=sI (.lst sP)/\Iss K H' (((yl e.2.2).take i).map dSt) sP) ⟨zd hD,zc,by simp only[br,aP,Iss]⟩ (λi sP H' _ h=>SqL.of (h.1 _ _ hTs)) ?_ ?_⟩
   ·rintro i x sP H' hx ⟨hs,hH,hA⟩
    have hi:i<ts.length:=by have:=(sQ.mp hx).1;simpa using this
    rw[bg hi] at hx
    obtain⟨st,ps,hsi,rfl,hqs⟩:=vL hJ hx
    have hsr:e.2.2.reverse[i]? = sI st:=by rw[bg (by lia),<- hsi,htl]
    have hal:=hA.len
    rw[ae,az] at hal
    simp only[xL]
    rfl'
    refine⟨yF,_,zj hs hqs,_,rfl,_,zj hs hqs,_,rfl,_,zj hs hqs,_,rfl,_,rfl,by lia,λp hp=>⟨zd hp _ _ hH,by lia,CNx.mk hi ⟨zE (hs.trans (zd hp)) hD,zc,?_⟩⟩⟩
    rw[WL hsr,ay]
    exact wY hH hA hp V9 (wu _) (by simp only[zW,y8,and_self])
   ·rintro sP H' ⟨hs,hH,hA⟩
    rw[htl,<- hbl,aK] at hA
    exact⟨hs,D,⟨sP,hH,hA⟩,rfl⟩
  rintro σ H3 ⟨s3,t,ht,rfl⟩
  have hm:(zb es)[n]? = sI (e.1,e.2.1):=by unfold zb;rw[aG,hei];rfl
  have hxr:xr[n]? = sI (xr[n]'(by lia)):=aj (by lia)
  obtain⟨pr,pp,hpr,hxp,hqp⟩:=hIr.getR hxr
  rw[hm] at hpr
  cases hpr
  rw[hxp] at hxr
  have hct:QR xs sJ (sI (n:Int))=xs.take n:=uk xs (k:=(n:Int)) (by lia)
  have hcd:QR xs (sI ((n:Int)+1)) sJ=xs.drop (n+1):=by
   have:=xx xs (k:=(n:Int)+1) (by lia)
   rw[show ((n:Int)+1).toNat=n+1 by lia] at this
   exact this
  have hX3:=(s1.trans s3) _ _ hX
  have hXr3:=s3 _ _ hXr
  have hqp3:=zj s3 hqp
  have hEn3:=hEn.same (s1.trans s3)
  refine zk (λσ H'=>Same H3 H'/\∃W:oO,EnsL K H' W (es.take n ++ [(e.2.1,e.1,yl e.2.2)] ++ es.drop (n+1))/\σ=[sI (.ref o),sI (.ref a),sI (.ref R),sI (.int c),sI (.ref r),sI (.non),sI (.int (n:Nat)),sI (.ref t),sI (.ref W),sJ]) ?_ ?_
  ·rfl'
   refine⟨_,SqL.of hX3,λp hp=>?_⟩
   rw[hct]
   have sa:=zd (o:=.lst (xs.take n)) hp
   refine⟨_,SqL.of (sa _ _ hXr3),_,vn hxr,pp,rfl,_,zj sa hqp3,_,rfl,_,SqL.of (sa _ _ hXr3),_,vn hxr,pp,rfl,_,zj sa hqp3,_,rfl,by lia,λp3 hp3=>⟨by lia,λp4 hp4=>?_⟩⟩
   have sb:=zd (o:=.tup [.str (tx e.2.1),.str (tx e.1),.ref t]) hp3
   have sc:=zd (o:=.lst [.ref p3]) hp4
   have s34:=sa.trans (sb.trans sc)
   refine⟨_,sc _ _ (sb _ _ zc),_,zc,by rw[az,bR];lia,λp5 hp5=>?_⟩
   have sd:=zd (o:=.lst (xs.take n ++ [.ref p3])) hp5
   refine⟨_,SqL.of ((s34.trans sd) _ _ hX3),λp6 hp6=>?_⟩
   rw[hcd] at *
   have se':=zd (o:=.lst (xs.drop (n+1))) hp6
   refine⟨_,se' _ _ zc,_,zc,by simp only[ak,az,aR,bR];lia,λp7 hp7=>?_⟩
   have sf:=zd (o:=.lst (xs.take n ++ [.ref p3] ++ xs.drop (n+1))) hp7
   have s37:=s34.trans (sd.trans (se'.trans sf))
   refine⟨s37,_,SqL.of zc,?_⟩
   exact EnsA.app (EnsA.cut (n+1) (hEn3.same s37)).2 (EnsA.snoc ⟨p3,t,rfl,SqT.of ((sc.trans (sd.trans (se'.trans sf))) _ _ zc),ht.same s37⟩ (EnsA.cut n (hEn3.same s37)).1)
  rintro σ H4 ⟨s4,W,hW,rfl⟩
  have s14:=s1.trans (s3.trans s4)
  have hpw:zb (es.take n ++ [(e.2.1,e.1,yl e.2.2)] ++ es.drop (n+1))=(zb es).take n ++ [(e.2.1,e.1)] ++ (zb es).drop (n+1):=by
   unfold zb
   rw[ay,ay,List.map_take,List.map_drop]
   rfl
  have hnp:n<(zb es).length:=by lia
  have hfw:yX k l ns (zb (es.take n ++ [(e.2.1,e.1,yl e.2.2)] ++ es.drop (n+1))) 0=sI n:=by
   rw[hpw,ar]
   have hl1:((zb es).take n).length=n:=by rw[az];lia
   have h1:=(hD (e.1,e.2.1) (ac hm)).1
   have:=jQ (k:=k) (l:=l) (ns:=ns) (ps:=(zb es).take n ++ ([(e.2.1,e.1)] ++ (zb es).drop (n+1))) (j:=0) (i:=n) (r:=(e.2.1,e.1)) (λm p hm' hp=>?_) ?_ ?_
   ·rw[this,dO]
   ·rw[bP (by lia),bo hm'] at hp
    exact (hD p (ac hp)).1
   ·rw[bK (by lia),hl1,fF]
    rfl
   ·refine tG.mpr λh2=>?_
    have h3:=yn h1 h2
    rw[zU] at h3
    cases h3
  have hinw:InL l (zb (es.take n ++ [(e.2.1,e.1,yl e.2.2)] ++ es.drop (n+1))):=λp hp=>by
   rw[hpw] at hp
   have:=hin (e.1,e.2.1) (ac hm)
   rcases sV.mp hp with hp | hp
   ·rcases sV.mp hp with hp | hp
    ·exact hin p (bn hp)
    ·rw[sX.mp hp]
     exact⟨this.2.1,this.1,this.2.2.2,this.2.2.1⟩
   ·exact hin p (bW hp)
  refine zk (λσ H'=>Same H4 H'/\∃v9:Option V,σ=[sI (.ref o),sI (.ref a),sI (.ref R),sI (.int c),sI (.ref r),sI (.int (n:Nat)),sI (.int (n:Nat)),sI (.ref t),sI (.ref W),v9]) ?_ ?_
  ·simp only[zbb]
   ac_rfl
   refine⟨o,W,k,l,ns,_,rfl,ho.same s14,hG,hW,by simp only[ak,az,aR,bR];lia,hinw,λi' e' G1 g1 d H' fl=>?_,λe'=>by (rw[hfw] at e';cases e')⟩
   have ei:i'=n:=by
    rw[hfw] at e'
    injection e' with e'
    exact e'.symm
   subst ei
   obtain⟨d0,d1,d2⟩:=fl
   refine⟨CT,rfl,λy hy=>⟨sK,TA.sT,zcO ?_⟩⟩
   have sy:=zd (o:=XT y CT (sI d)) hy
   exact⟨CT,sI d,[("number",.int (i':Nat))],⟨zc,.inr ⟨d,rfl,sy _ _ d2⟩⟩,TA.xT.toXC,TA.hd,TA.na,_,rfl,(g1.trans d1).trans sy,rfl⟩
  rintro σ H5 ⟨s5,v9,rfl⟩
  ac_rfl
  exact yT (λe=>absurd trivial e) λ_=>⟨_,.inl (.int _),sL,TA.kb,yT (λe=>by cases e) λ_=>s14.trans s5⟩
section
variable{g:TG}{tt:TT}{te:TE}{own:Nat}{ix:List Nat}{σ:L2.St}{H1:Hp}{Q:VK}{D:oO}
def CompT(K:oN)(a:oO)(g:TG)(tt:TT)(te:TE)(own:Nat)(ix:List Nat)(σ:L2.St)(H1:Hp)(Q:VK)(D:oO):Prop:=Ys (Itt K a) g tt te own ix σ H1 Q D
theorem zcj{K:oN}{tl:TE}:jm (zb1 K tl) g tt te own ix σ H Q=tl σ H λx H1=>∃a,x=.ref a/\(∃xs,SqT K H1 a xs)/\∀D,H1 D=sJ->CompT K a g tt te own ix σ H1 Q D:=rfl
theorem CompT.by{K:oN}{xs:List V}(Pv:Nat->List V->Hp->Prop)(h0:Pv 0 [] (upd H1 D (.lst [])))(hl:∀i sP H',i<=xs.length->Pv i sP H'->SqT K H' a xs)
  (hs:∀i x sP H',xs[i]? = sI x->Pv i sP H'->g x (wX σ own ix) H' λσ3 H3=>yN (wX σ own ix) σ3/\tt σ3 H3 λb H4=>if b=sK then
   te σ3 H4 λv H5=>H5 D=sI (.lst sP)/\sP.length<oM/\CNx xs.length i Pv (sP ++ [v]) (upd H5 D (.lst (sP ++ [v]))) else CNx xs.length i Pv sP H4)
  (hd:∀sP H',Pv xs.length sP H'->Q (.ref D) H'):CompT K a g tt te own ix σ H1 Q D:=by
 refine⟨λi m sP H=>m=xs.length - i/\i<=xs.length/\Pv i sP H,⟨xs.length,by simp,aI _,h0⟩,?_⟩
 rintro i m sP H' ⟨rfl,hi,p⟩
 have q:=hl i sP H' hi p
 by_cases hlt:i<xs.length
 ·refine .inr ⟨⟨xs,xs[i],q,by simp [hlt]⟩,λx H2 y=>?_⟩
  obtain⟨e,y⟩:=y
  subst e
  exact hs i x sP _ (y xs q) p
 ·have e:i=xs.length:=by lia
  subst e
  exact .inl ⟨⟨xs,q,am _⟩,hd sP H' p⟩
end
structure Drw(H:Hp)(k:Int)(l:List Nat)(ws:List Int)(W:oO):Prop where
 k0:0<=k
 k3:k<3
 g:qI l=sK
 n:ws.length=l.length
 b:∀n ∈ ws,1<=n/\n<=3
 w:H W=sI (.lst (ws.map V.int))
structure PG(l:List Nat)(rs:List zw):Prop where
 n:rs.length<=6
 s:∀r ∈ rs,r.1.length<=3/\r.2.length<=3/\(∀x ∈ r.1,x ∈ l)/\∀x ∈ r.2,x ∈ l
structure Gdp(l:List Nat)(rs:List zw)(p:zw):Prop where
 a:p.1.length<=60
 b:p.2.length<=60
 ma:∀c ∈ p.1,c ∈ l
 mb:∀c ∈ p.2,c ∈ l
 e:EqR rs p.1 p.2
def AG(l:List Nat)(rs rs':List zw):Prop:=(∀p ∈ rs',Gdp l rs p)/\∀p ∈ rs,EqR rs' p.1 p.2
theorem PG.gdp{l:List Nat}(h:PG l rs){p:zw}(hp:p ∈ rs):Gdp l rs p:=by
 obtain⟨h1,h2,h3,h4⟩:=h.s p hp
 exact⟨by lia,by lia,h3,h4,Z7 hp⟩
theorem AG.eb{l:List Nat}{rs rs':List zw}(h:AG l rs rs'):∀e ∈ fEs rs' rs'.length,EB l e:=λe he=>by
 obtain⟨i,p,hi,hp,rfl⟩:=ke he
 have g:=h.1 p (ac hp)
 exact⟨g.a,g.b,by show ([((i:Int),(0:Int),sK)]:List Stp).length<=600;simp,g.ma,g.mb⟩
theorem PG.ag{l:List Nat}(h:PG l rs):AG l rs rs:=⟨λ_ hp=>h.gdp hp,λ_ hp=>Z7 hp⟩
def Tld(K:oN)(H:Hp)(k:Nat)(l:List Nat)(ws:List Int)(rs:List zw)(p:oO)(w:Bool)(D:oO)(es:List Ent):Prop:=H p=sI (.tup [.bl w,.ref D])/\EnsM K H D es/\Gd rs k l ws es/\∃m,Cpl k l ws m [] (fEs rs rs.length) w es
theorem Tld.thin{l:List Nat}{p D:oO}{w:Bool}(h:Tld K H k l ws rs p w D es):ThinL k l ws es/\es.length<=12:=by
 rcases h.2.2.1.2 with rfl | ⟨h,hb,_⟩
 ·exact⟨⟨⟨λe he=>(nomatch he),λe he=>(nomatch he)⟩,λi j a b h=>by simp at h,λi j a b h=>by simp at h,λi j a b h=>by simp at h⟩,aI _⟩
 ·exact⟨h,(qK hb).1⟩
theorem JT{k n:Nat}{l:List Nat}{k1 es:List Ent}(h:Cpl k l ns n k1 (fEs rs rs.length) sK es):∀p ∈ rs,EqR (zb es) p.1 p.2:=λp hp=>by
 obtain⟨i,hi⟩:=tu.mp hp
 exact Vo (Qv _) h rfl (λe he=>Z7 (p:=(e.1,e.2.1)) (sS.mpr ⟨e,he,rfl⟩)) (fE i p) (Vu hi (sQ.mp hi).1)
theorem RkAt.updL{D R:oO}{xs ys:List V}{l:List Nat}{u:List Nat}(h:RkAt H R k l ws u)(hD:H D=sI (.lst xs))(hn:xs≠(xD k l u).map V.int):RkAt (upd H D (.lst ys)) R k l ws u:=by
 obtain⟨R',h1,h2⟩:=h
 refine⟨R',?_,?_⟩
 ·rw[zo λe=>by rw[e,hD] at h1;cases h1]
  exact h1
 ·rw[zo λe=>hn (by rw[e,hD] at h2;cases h2;rfl)]
  exact h2
theorem Jv{k:Nat}{l:List Nat}(G:OG l ws k){u v:List Nat}(hu:∀c ∈ u,c ∈ l)(h:zK k l ws u v=sK):[]≠(xD k l v).map V.int:=λe=>by
 have e2:=congrArg eV e
 have e3:(xD k l v).length=v.length:=by
  unfold xD ut yh
  split <;> simp
 rw[ae,e3] at e2
 have e4:v=[]:=tF.mp e2.symm
 subst e4
 by_cases hn:u=[]
 ·rw[hn,zU] at h
  cases h
 ·have:=(Xq (k:=k) (l:=l) (ns:=ws) (t:=u) (u:=[]) (v:=[]) G hu (λd hd=>(nomatch hd)) (λd hd=>(nomatch hd)) (by simpa using hn)).1
  have:=yn h (by simpa using this)
  rw[zU] at this
  cases this
def Xp(K:oN)(T:oO):Sp:=λvs H Q _=>∃(a:oO) (ns:List Int),vs=[.ref a]/\SqL K H a (ns.map V.int)/\(∀z ∈ ns,qm z)/\H T=sI (.tbl #[])/\∀H',Q (.bl sK) H'
theorem im:zp ["_law_script","_law_kind","_law_letters_here","_law_weights","_law_pacts","_law_order_here","_law_found","_law_rules","_law_rule","_law_sides"] ["_law_script"] (zh vp):=by nofun
theorem zaf{f CO CR CW TB:oO}(B:Bt mg)(hany:zcL mg)(F:Fun K "law" "law" vp f fd)(oy:Df P w K mg base CX0 3 "_law_draw" ["_law_cell_here"] [] Yo)(ou:Df P w K mg base CX0 6 "_law_order" ["_law_kind","_law_letters_here","_law_weights"] [] (km K CO CR CW))(nR:Df P w K mg base CX0 10 "completed" ["order","pacts","rounds"] [] (V5 K CO CR CW TB))(ml:Df P w K mg base CX0 1 "_law_cell" ["_law_script","_law_k"] [] (qx K))(oz:Df P w K mg base CX0 2 "_law_pair" ["_law_cell_here","_law_letters_here","_law_most"] [] qV)(oB:Df P w K mg base CX0 4 "_law_told" ["_law_found"] [] (jX K))(oj:Df P w K mg base CX0 9 "_law_system" ["_law_order_here","_law_entries_here","_law_rules","_law_cell_here"] [] (Yd K CO CR CW))(oE:Df P w K mg base CX0 2 "_law_meet" ["_law_rules"] [] (ky K))(oF:Df P w K mg base CX0 1 "_law_rank" ["_law_kind","_law_letters_here","_law_weights","_law_word_here"] [] vI)(mj:Df P w K mg base CX0 1 "_law_form" ["_law_rules","_law_word_here"] [] (wm K)):z8 P w K mg base CX0 11 f fd ["_law_script"] (Xp K TB):=by
 refine F.ok im (λvs H Q E h=>?_) (λcdv A outer s H vs Q E hr h=>?_)
 ·obtain⟨a,ns,rfl,_⟩:=h
  rfl
 ·obtain⟨a,ns,rfl,hS,hB,hT,q⟩:=h
  refine⟨_,(zi (Q2 (cl0 oy hr .nil rfl (za (cl0 ml hr .nil rfl (za (pv 0) (za zf ze))) ze)) (vd (n:=3) rfl (zN (zy (i:=1) im.nd rfl (Or.inr rfl)) (zN (zy (i:=2) im.nd rfl (Or.inr rfl)) (zN (zy (i:=3) im.nd rfl (Or.inr rfl)) xJ)))))
   (zi (wf (i:=4) im.nd rfl (.inl rfl) (.inl rfl) (own:=["_law_k"]) (caps:=["_law_script","_law_letters_here"]) (ix:=[0,2]) (tt:=xL) (te:=(vY qV [] E0 (zJ (vY (qx K) [] E0 (zJ (yo 1) (zJ (tOp UW (tC (.int 2)) (yo 0)) xS))) (zJ (yo 2) (zJ (tC (.int 3)) xS))))) rfl (zL (sc:=zh vp) rfl (by symm) (by symm) (by symm) rfl (by symm) (by symm) rfl) (yR rfl B.range (za (zB xh (cl0 ml hr .nil rfl (za (pv 0) (za zf ze))) zf) ze)) (λ_ _ _ _ _ _=>zy (i:=0) (show List.Nodup [_,_,_] by decide) rfl (.inl rfl)) (λ_ _ _ _ _ _=>yg) (λ_ _ _ _ _ _=>(cl0 oz hr .nil rfl (za (cl0 ml hr .nil rfl (za (pv 1) (za (zB Yk zf (pv 0)) ze))) (za (pv 2) (za zf ze))))))
   (zi (zq (i:=5) im.nd rfl (.inl rfl) (cl0 ou hr .nil rfl (za (pv 1) (za (pv 2) (za (pv 3) ze)))))
   (zi (zq (i:=6) im.nd rfl (.inl rfl) (cl0 nR hr .nil rfl (za (pv 5) (za (xN yP rfl B.list PySem.Pv.boot_list (za (pv 4) ze)) (za (zB xh (zB wl (cl0 ml hr .nil rfl (za (pv 0) (za zf ze))) zf) zf) ze)))))
   (zi (zR (yd (yL (cl0 oB hr .nil rfl (za (pv 6) ze)) (λ_=>rfl)))
    (zg (zt yw))
    zA)
   (zi (zq (i:=7) im.nd rfl (Or.inr rfl) (yu (own:=["_law_entry"]) (caps:=[]) (ix:=[]) (tt:=xL) (te:=(Ur (zJ (tOp (vN K) (yo 0) (tC (.int 0))) (zJ (tOp (vN K) (yo 0) (tC (.int 1))) xS)))) rfl (zL (sc:=zh vp) rfl (by symm) (by symm) (by symm) rfl (by symm) (by symm) rfl) (yt (zr ix_tup (pv 6) zf (λ_ _=>rfl))) (λ_ _ _ _ _ _=>zy (i:=0) (show List.Nodup [_] by decide) rfl (.inl rfl)) (λ_ _ _ _ _ _=>yg) (λ_ _ _ _ _ _=>(zY (za (zr ix_tup (pv 0) zf (λ_ _=>rfl)) (za (zr ix_tup (pv 0) zf (λ_ _=>rfl)) ze))))))
   (zi (yq PassesOwn.never rfl (yt (pv 7)) (zy (i:=8) im.nd rfl (.inl rfl))
    (zi (zR (yL (zm (zaJ rfl) rfl hany fg (za (yu (own:=["_law_sign"]) (caps:=["_law_letters_here"]) (ix:=[2]) (tt:=xL) (te:=(tOp zcE (yo 0) (yo 1))) rfl (zL (sc:=zh vp) rfl (by symm) (by symm) (by symm) rfl (by symm) (by symm) rfl) (kN (zB op_add_str (zr ix_tup (pv 8) zf (λ_ _=>rfl)) (zr ix_tup (pv 8) zf (λ_ _=>rfl)))) (λ_ _ _ _ _ _=>zy (i:=0) (show List.Nodup [_,_] by decide) rfl (.inl rfl)) (λ_ _ _ _ _ _=>yg) (λ_ _ _ _ _ _=>(wz zbp (pv 0) (pv 1) (by with_unfolding_all rfl)))) ze)) (λ_=>rfl))
     (zg (zt yw))
     zA)
    (zi (wf (i:=9) im.nd rfl (.inl rfl) (.inl rfl) (own:=["_law_side"]) (caps:=["_law_kind","_law_letters_here","_law_weights"]) (ix:=[1,2,3]) (tt:=xL) (te:=(vY vI [] E0 (zJ (yo 1) (zJ (yo 2) (zJ (yo 3) (zJ (yo 0) xS)))))) rfl (zL (sc:=zh vp) rfl (by symm) (by symm) (by symm) rfl (by symm) (by symm) rfl) (zaA (pv 8)) (λ_ _ _ _ _ _=>zy (i:=0) (show List.Nodup [_,_,_,_] by decide) rfl (.inl rfl)) (λ_ _ _ _ _ _=>yg) (λ_ _ _ _ _ _=>(cl0 oF hr .nil rfl (za (pv 1) (za (pv 2) (za (pv 3) (za (pv 0) ze)))))))
    (zg (zR (yd (zG (Jb (qE hr)) (zr ix_list (pv 9) zf (λ_ _=>rfl)) (zr ix_list (pv 9) zf (λ_ _=>rfl)) (zI _)))
     (zg (zt yw))
     zA)))))
   (zi (zR (yd (yL (cl0 oj hr .nil rfl (za (pv 5) (za (zr ix_tup (pv 6) zf (λ_ _=>rfl)) (za (pv 7) (za (cl0 ml hr .nil rfl (za (pv 0) (za zf ze))) ze))))) (λ_=>rfl)))
    (zg (zt yw))
    zA)
   (zi (zR (yd (yL (zr ix_tup (pv 6) zf (λ_ _=>rfl)) (λ_=>rfl)))
    (zg (zt yw))
    zA)
   (zi (zR (yd (yL (cl0 oE hr .nil rfl (za (pv 7) ze)) (λ_=>rfl)))
    (zg (zt yw))
    zA)
   (zg (zt (zm (zca rfl) rfl B.all PyProof.Rows.boot_all (za (yu (own:=["_law_pact"]) (caps:=["_law_rules"]) (ix:=[7]) (tt:=xL) (te:=(tOp rEq (vY (wm K) [] E0 (zJ (yo 1) (zJ (tOp (vN K) (yo 0) (tC (.int 0))) xS))) (vY (wm K) [] E0 (zJ (yo 1) (zJ (tOp (vN K) (yo 0) (tC (.int 1))) xS))))) rfl (zL (sc:=zh vp) rfl (by symm) (by symm) (by symm) rfl (by symm) (by symm) rfl) (yt (pv 4)) (λ_ _ _ _ _ _=>zy (i:=0) (show List.Nodup [_,_] by decide) rfl (.inl rfl)) (λ_ _ _ _ _ _=>yg) (λ_ _ _ _ _ _=>(wz uG (cl0 mj hr .nil rfl (za (pv 1) (za (zr ix_tup (pv 0) zf (λ_ _=>rfl)) ze))) (cl0 mj hr .nil rfl (za (pv 1) (za (zr ix_tup (pv 0) zf (λ_ _=>rfl)) ze))) (zI _)))) ze)))))))))))))),?_⟩
  have s16:=ya
  have s16:=ya
  have hTab:TabOk H TB lp lq:=⟨#[],hT,trivial,.inl rfl⟩
  refine zk (λσ H'=>Same H H'/\∃(k:Int) (l:List Nat) (W:oO),(∃ws,Drw H' k l ws W)/\σ=[sI (.ref a),sI (.int k),sI (.str (tx l)),sI (.ref W),sJ,sJ,sJ,sJ,sJ,sJ]) ?_ ?_
  ·rfl'
   refine vo hS hB (by decide) λc hc=>⟨c,rfl,hc,λk l ws p W H' a1 a2 a3 a4 a5 s' hp hW=>?_⟩
   exact⟨p,rfl,_,SqT.of hp,rfl,_,_,rfl,_,_,rfl,_,_,rfl,rfl,s',k,l,W,⟨ws,a1,a2,a3,a4,a5,hW⟩,rfl,rfl,rfl⟩
  rintro σ H2 ⟨s2,k,l,W,⟨ws,k0,k3,hg,hwl,hw13,hW⟩,rfl⟩
  obtain⟨l1,l6,lsm,lnd⟩:=of_decide_eq_true hg
  have hwb:∀n ∈ ws,1<=n/\n<=1000000:=λn hn=>by have:=hw13 n hn;lia
  have hw3:∀n ∈ ws,n<=3:=λn hn=>(hw13 n hn).2
  have hG:OG l ws k.toNat:=⟨hg,by lia,hwl,hwb⟩
  have hS2:=s2.seq hS
  refine zk (λσ H'=>Same H2 H'/\∃pa:oO,(∃rs,LsA K H' pa (rs.map dR)/\PG l rs)/\σ=[sI (.ref a),sI (.int k),sI (.str (tx l)),sI (.ref W),sI (.ref pa),sJ,sJ,sJ,sJ,sJ]) ?_ ?_
  ·rfl'
   refine vo hS2 hB (by decide) λn _=>?_
   have e0:=bw n (b:=5) (by decide)
   have e1:=bx n (b:=5) (by decide)
   refine⟨n,rfl,by decide,by lia,by lia,λD hD=>CompR.by (λi sP H'=>Same H2 H'/\H' D=sI (.lst sP)/\∃rs:List zw,Iss K H' (rs.map dR) sP/\rs.length=i/\∀r ∈ rs,r.1.length<=3/\r.2.length<=3/\(∀x ∈ r.1,x ∈ l)/\∀x ∈ r.2,x ∈ l) ⟨zd hD,zc,[],by simp only[aP,Iss],rfl,λr h=>(nomatch h)⟩ ?_ ?_⟩
   ·rintro i sP H' hi ⟨hs,hH,rs,hI,hrl,hrb⟩
    have hal:=hI.len
    rw[ae] at hal
    have hi4:i<5:=by lia
    simp only[xL]
    rfl'
    refine⟨yF,vo (hs.seq hS2) hB (by lia) λc3 hc3=>Qn hc3 (by lia) (by lia) (by decide) (by decide) λo n p ho hn mo mn hp=>⟨zd hp _ _ hH,by lia,CNx.mk hi ⟨zE (hs.trans (zd hp)) hD,zc,rs ++ [(o,n)],?_,by rw[ak,hrl];rfl,λr hr'=>?_⟩⟩⟩
    ·rw[ay]
     exact wY hH hI hp Jy (j9 rs) (by simp only[zW,y8,and_self])
    ·rcases sV.mp hr' with h | h
     ·exact hrb r h
     ·rw[sX.mp h]
      exact⟨by show o.length<=3;lia,by show n.length<=3;lia,mo,mn⟩
   ·rintro sP H' ⟨hs,hH,rs,hI,hrl,hrb⟩
    exact⟨hs,D,⟨rs,⟨sP,hH,hI⟩,by lia,hrb⟩,rfl⟩
  rintro σ H3 ⟨s3,pa,⟨rs,hP,hPG⟩,rfl⟩
  refine zk (λσ H'=>Same H3 H'/\∃o:oO,OrdAt CO CR CW H' o k.toNat l ws/\σ=[sI (.ref a),sI (.int k),sI (.str (tx l)),sI (.ref W),sI (.ref pa),sI (.ref o),sJ,sJ,sJ,sJ]) ?_ ?_
  ·rfl'
   exact⟨k,l,W,ws,rfl,k0,k3,hg,s3 _ _ hW,hwl,hwb,λo H' s' ho=>⟨s',o,ho,rfl⟩⟩
  rintro σ H3 ⟨s3',o,ho,rfl⟩
  have hP:=hP.same s3'
  have s3:=s3.trans s3'
  have hTab3:=hTab.same (s2.trans s3)
  obtain⟨tp,htp,_⟩:=id hTab3
  have hS3:=s3.seq hS2
  refine zk (λσ H'=>SamT TB H3 H'/\∃(fp D:oO) (w:Bool) (es:List Ent),Tld K H' k.toNat l ws rs fp w D es/\σ=[sI (.ref a),sI (.int k),sI (.str (tx l)),sI (.ref W),sI (.ref pa),sI (.ref o),sI (.ref fp),sJ,sJ,sJ]) ?_ ?_
  ·ac_rfl
   have hag:=hPG.ag
   have hpn:=hPG.n
   obtain⟨px6,hPx6,hPi6⟩:=id hP
   refine⟨_,.inl (SqL.of hPx6),λhd hh=>vo ((zd hh).seq hS3) hB (by decide) λn _=>?_⟩
   have c0:=bw (n / 5) (b:=4) (by decide)
   have c1:=bx (n / 5) (b:=4) (by decide)
   refine⟨n,rfl,⟨by decide,by decide⟩,by decide,?_⟩
   rw[show n / 5 % 4=((n / 5 % 4).toNat:Int) by lia]
   exact⟨o,hd,k.toNat,l,ws,rs,_,rfl,OrdAt.same ho (zd hh),hG,⟨px6,zc,Iss.same (zd hh) _ _ hPi6⟩,by lia,λp hp=>⟨aJ (hag.1 p hp).a (by decide),aJ (hag.1 p hp).b (by decide),(hag.1 p hp).ma,(hag.1 p hp).mb⟩,λp hp=>⟨(hag.1 p hp).a,(hag.1 p hp).b⟩,by lia,hTab3.same (zd hh),λw es p D H' hC hBG hs hTk hp hM=>⟨(SamT.of (zd hh)).trans hs,p,⟨D,w,es,hp,hM,zaM hG hC hag.eb (λe he=>UR he) ⟨λe he=>(nomatch he),.inl rfl⟩,_,hC⟩,rfl⟩⟩
  rintro σ H4 ⟨s4,fp,D,wh,es,t,rfl⟩
  refine zk (λσ H'=>H'=H4/\σ=[sI (.ref a),sI (.int k),sI (.str (tx l)),sI (.ref W),sI (.ref pa),sI (.ref o),sI (.ref fp),sJ,sJ,sJ]) ?_ ?_
  ·ac_rfl
   exact⟨fp,D,wh,es,rfl,t.1,t.2.1.l,sK,rfl,yT (λe=>by cases e) λ_=>rfl⟩
  rintro σ H5 ⟨rfl,rfl⟩
  refine zk (λσ H'=>Same H5 H'/\∃R:oO,LsA K H' R ((zb es).map dR)/\σ=[sI (.ref a),sI (.int k),sI (.str (tx l)),sI (.ref W),sI (.ref pa),sI (.ref o),sI (.ref fp),sI (.ref R),sJ,sJ]) ?_ ?_
  ·ac_rfl
   obtain⟨xe,hXe,hEn⟩:=id t.2.1
   have hxl:=hEn.len
   have hpl:=xl es
   have hle:=t.thin.2
   refine⟨_,SqT.of t.1,_,rfl,D,rfl,⟨_,SqL.of hXe⟩,λD7 hD=>CompL.by (xs:=xe) (λi sP H'=>Same H5 H'/\H' D7=sI (.lst sP)/\Iss K H' (((zb es).take i).map dR) sP) ⟨zd hD,zc,by simp only[br,aP,Iss]⟩ (λi sP H' _ h=>SqL.of (h.1 _ _ hXe)) ?_ ?_⟩
   ·rintro i x sP H' hx ⟨hs,hH,hA⟩
    have hi:=(sQ.mp hx).1
    obtain⟨e,pe,se,hei,rfl,hqe,_⟩:=hEn.get hx
    have hm:(zb es)[i]? = sI (e.1,e.2.1):=by unfold zb;rw[aG,hei];rfl
    have hal:=hA.len
    rw[ae,az] at hal
    simp only[xL]
    rfl'
    refine⟨yF,_,zj hs hqe,_,rfl,_,zj hs hqe,_,rfl,by lia,λp hp=>⟨zd hp _ _ hH,by lia,CNx.mk hi ⟨zE (hs.trans (zd hp)) hD,zc,?_⟩⟩⟩
    rw[zQ hm,ay]
    exact wY hH hA hp Jy (j9 _) (by simp only[zW,y8,and_self])
   ·rintro sP H' ⟨hs,hH,hA⟩
    rw[hxl,<- hpl,aK] at hA
    exact⟨hs,D7,⟨sP,hH,hA⟩,rfl⟩
  rintro σ H6 ⟨s6,R,hR,rfl⟩
  obtain⟨htt,hel⟩:=t.thin
  have hD:=htt.rl.pairs
  have hb60:∀p ∈ zb es,p.1.length<=60/\p.2.length<=60:=λp hp=>by
   obtain⟨e,he,rfl⟩:=sS.mp hp
   have:=htt.rl.e e he
   exact⟨this.a,this.b⟩
  obtain⟨xr,hXr,hIr⟩:=id hR
  have hrl:=hIr.len
  rw[ae] at hrl
  have hW6:H6 W=sI (.lst (ws.map V.int)):=s6 _ _ (s4.at htp (s3 _ _ hW) (λ_ z=>by cases z))
  refine zk (λσ H'=>Same H6 H'/\∃v9 v10:Option V,σ=[sI (.ref a),sI (.int k),sI (.str (tx l)),sI (.ref W),sI (.ref pa),sI (.ref o),sI (.ref fp),sI (.ref R),v9,v10]) ?_ ?_
  ·rfl'
   refine⟨⟨_,SqL.of hXr⟩,ForL.by (xs:=xr) (λi σ H'=>Same H6 H'/\∃v9 v10:Option V,σ=[sI (.ref a),sI (.int k),sI (.str (tx l)),sI (.ref W),sI (.ref pa),sI (.ref o),sI (.ref fp),sI (.ref R),v9,v10]) ⟨Same.refl _,sJ,sJ,rfl⟩ (λi σ H' _ h=>SqL.of (h.1 _ _ hXr)) ?_ λσ H' h=>h⟩
   rintro i x σ H7 hx ⟨s7,v9,v10,rfl⟩
   obtain⟨r,p,hr,rfl,hsq⟩:=hIr.getR hx
   have hrm:r ∈ zb es:=ac hr
   obtain⟨d1,d2,d3⟩:=hD r hrm
   obtain⟨b1,b2⟩:=hb60 r hrm
   have hq7:=zj s7 hsq
   simp only[xg,bv,bu]
   refine zk (λσ H'=>Same H7 H'/\σ=[sI (.ref a),sI (.int k),sI (.str (tx l)),sI (.ref W),sI (.ref pa),sI (.ref o),sI (.ref fp),sI (.ref R),sI (.ref p),v10]) ?_ ?_
   ·rfl'
    refine⟨_,hq7,_,rfl,_,hq7,_,rfl,_,rfl,_,rfl,by rw[zD,zD];lia,λA2 hA2=>?_⟩
    rw[yC]
    have hmem:∀x ∈ r.1 ++ r.2,x ∈ l:=λx hx=>(sV.mp hx).elim (d2 x) (d3 x)
    have hfl:(r.1 ++ r.2).length<=120:=by rw[ak];lia
    generalize r.1 ++ r.2=fl at hmem hfl ⊢
    refine CompS.by (λi sP H''=>Same H7 H''/\H'' A2=sI (.lst sP)/\sP=(aU i sL).map V.bl) ⟨zd hA2,zc,rfl⟩ ?_ ?_
    ·rintro i c2 sP H'' hc2 ⟨hs2,hH2,rfl⟩
     have hci:=(sQ.mp hc2).1
     have hcl:=hmem c2 (ac hc2)
     simp only[xL]
     rfl'
     refine⟨yF,hH2,by rw[ae,bQ];lia,CNx.mk hci ⟨zE hs2 hA2,zc,?_⟩⟩
     rw[fm,ay]
     simp [hcl]
    ·rintro sP H'' ⟨hs2,hH2,rfl⟩
     refine⟨A2,aU fl.length sL,rfl,SqL.of hH2,sL,by simp,?_⟩
     rw[if_neg (by decide)]
     exact hs2
   rintro σ H8 ⟨s8,rfl⟩
   refine zk (λσ H'=>Same H8 H'/\∃S R1 R2:oO,(H' S=sI (.lst [.ref R1,.ref R2])/\RkAt H' R1 k.toNat l ws r.1/\RkAt H' R2 k.toNat l ws r.2)/\σ=[sI (.ref a),sI (.int k),sI (.str (tx l)),sI (.ref W),sI (.ref pa),sI (.ref o),sI (.ref fp),sI (.ref R),sI (.ref p),sI (.ref S)]) ?_ ?_
   ·simp only[j5]
    rw[zcj]
    rfl'
    have hq8:=zj s8 hq7
    have hW8:H8 W=sI (.lst (ws.map V.int)):=(s7.trans s8) _ _ hW6
    refine⟨⟨_,hq8⟩,λA2 hA2=>CompT.by (xs:=[.str (tx r.1),.str (tx r.2)]) (λi sP H'=>Same H8 H'/\H' A2=sI (.lst sP)/\∃R1 R2:oO,sP=[V.ref R1,V.ref R2].take i/\(1<=i->RkAt H' R1 k.toNat l ws r.1)/\(2<=i->RkAt H' R2 k.toNat l ws r.2)) ⟨zd hA2,zc,0,0,rfl,λh=>by lia,λh=>by lia⟩ (λi sP H' _ h=>zj h.1 hq8) ?_ ?_⟩
    ·rintro i x sP H' hx ⟨hs,hH,R1,R2,rfl,h1,h2⟩
     have hi:=(sQ.mp hx).1
     rcases (show i=0\/i=1 by simp only[aN,cK] at hi;lia) with rfl | rfl
     ·cases hx
      simp only[xL]
      rfl'
      refine⟨yF,k7 k0 k3 hg (hs _ _ hW8) hwl hwb (by lia) d2 λP1 P2 H'' s'' p1 p2=>⟨s'' _ _ hH,by show 0<oM;lia,CNx.mk hi ⟨zE (hs.trans s'') hA2,zc,P1,0,rfl,λ_=>RkAt.updL ⟨P2,p1,p2⟩ (s'' _ _ hH) (Jv hG d3 d1),λh=>by lia⟩⟩⟩
     ·cases hx
      simp only[xL]
      rfl'
      have hr1:=h1 (am _)
      refine⟨yF,k7 k0 k3 hg (hs _ _ hW8) hwl hwb (by lia) d3 λP1 P2 H'' s'' p1 p2=>⟨s'' _ _ hH,by show 1<oM;lia,CNx.mk hi ⟨zE (hs.trans s'') hA2,zc,R1,P1,rfl,λ_=>(hr1.same s'').updL (s'' _ _ hH) (λe=>?_),λ_=>RkAt.updL ⟨P2,p1,p2⟩ (s'' _ _ hH) λe=>?_⟩⟩⟩
      all_goals
       have:=congrArg List.head? e
       rw[List.head?_map] at this
       cases hh:(xD k.toNat l _).head? with
       | none=>rw[hh] at this;cases this
       | some _=>rw[hh] at this;cases this
    ·rintro sP H' ⟨hs,hH,R1,R2,rfl,h1,h2⟩
     exact⟨hs,A2,R1,R2,hH,h1 (by simp),h2 (by simp),rfl⟩
   rintro σ H9 ⟨s9,S,R1,R2,⟨hS9,hR1,hR2⟩,rfl⟩
   rfl'
   refine⟨_,SqL.of hS9,_,rfl,_,SqL.of hS9,_,rfl,RkAt.lt hR2 hR1 ?_⟩
   rw[d1]
   refine⟨sK,rfl,?_⟩
   rw[if_neg (by decide)]
   exact s7.trans (s8.trans s9)
  rintro σ H7 ⟨s7,v9,v10,rfl⟩
  have hS7:=(s6.trans s7).seq (s4.seqL htp hS3)
  have hR7:=hR.same s7
  have t1:=(s6.trans s7) _ _ t.1
  have hM7:=t.2.1.same (s6.trans s7)
  have hP7:=(hP.samT s4 htp).same (s6.trans s7)
  have ho7:=OrdAt.same (ho.samT s4 htp) (s6.trans s7)
  refine zk (λσ H'=>Same H7 H'/\σ=[sI (.ref a),sI (.int k),sI (.str (tx l)),sI (.ref W),sI (.ref pa),sI (.ref o),sI (.ref fp),sI (.ref R),v9,v10]) ?_ ?_
  ·ac_rfl
   exact⟨_,SqT.of t1,_,rfl,vo hS7 hB (by decide) λc _=>⟨o,D,R,c,k.toNat,l,ws,es,rfl,ho7,hG,hM7,hR7,hel,λp hp=>⟨aJ (hb60 p hp).1 (by decide),aJ (hb60 p hp).2 (by decide),(hD p hp).2.1,(hD p hp).2.2⟩,hD,λe he=>aJ (htt.rl.e e he).s (by decide),λH' s'=>⟨sK,rfl,yT (λe=>by cases e) λ_=>s'⟩⟩⟩
  rintro σ H8 ⟨s8,rfl⟩
  have t2:=s8 _ _ t1
  have hR8:=hR7.same s8
  have hP8:=hP7.same s8
  refine zk (λσ H'=>H'=H8/\wh=sK/\σ=[sI (.ref a),sI (.int k),sI (.str (tx l)),sI (.ref W),sI (.ref pa),sI (.ref o),sI (.ref fp),sI (.ref R),v9,v10]) ?_ ?_
  ·rfl'
   exact⟨_,SqT.of t2,_,rfl,_,rfl,yT (λ_=>q _) λh=>by simpa using h⟩
  rintro σ H8 ⟨rfl,rfl,rfl⟩
  obtain⟨m,hC⟩:=t.2.2.2
  have hmet:=J8 hC rfl
  have hkey:=JT hC
  refine zk (λσ H'=>Same H8 H'/\σ=[sI (.ref a),sI (.int k),sI (.str (tx l)),sI (.ref W),sI (.ref pa),sI (.ref o),sI (.ref fp),sI (.ref R),v9,v10]) ?_ ?_
  ·ac_rfl
   have hb20:∀p ∈ zb es,p.1.length<=20/\p.2.length<=20:=λp hp=>by
    obtain⟨e,he,rfl⟩:=sS.mp hp
    rcases t.2.2.1.2 with rfl | ⟨_,hb,_⟩
    ·cases he
    ·have:=(qK hb).2 e he
     exact⟨aJ this.1 (by decide),aJ this.2 (by decide)⟩
   exact⟨R,k.toNat,l,ws,zb es,rfl,hR8,hG,hw3,hD,hb20,by have:=xl es;lia,hmet,λH' s'=>⟨sK,rfl,yT (λe=>by cases e) λ_=>s'⟩⟩
  rintro σ H9 ⟨s9,rfl⟩
  have hR9:=hR8.same s9
  obtain⟨px,hPx,hPi⟩:=hP8.same s9
  have hpl:=hPi.len
  rw[ae] at hpl
  have hpn:=hPG.n
  rfl'
  refine⟨⟨_,SqL.of hPx⟩,λJ hJ=>CompL.by (xs:=px) (λi sP H'=>Same H9 H'/\H' J=sI (.lst sP)/\sP=(aU i sK).map V.bl) ⟨zd hJ,zc,rfl⟩ (λi sP H' _ h=>SqL.of (h.1 _ _ hPx)) ?_ ?_⟩
  ·rintro i x sP H' hx ⟨hs,hH,rfl⟩
   have hi:=(sQ.mp hx).1
   obtain⟨p,pp,hp,rfl,hsq⟩:=hPi.getR hx
   have hpm:=ac hp
   obtain⟨b1,b2,m1,m2⟩:=hPG.s p hpm
   have hq:=zj hs hsq
   simp only[xL]
   rfl'
   refine⟨yF,_,hq,_,rfl,vt (hR9.same hs) hG hw3 hD (λp hp=>(hb60 p hp).2) (by have:=xl es;lia) m1 (by lia) λv1 H12 s12 a1 a2=>⟨_,zj s12 hq,_,rfl,vt (hR9.same (hs.trans s12)) hG hw3 hD (λp hp=>(hb60 p hp).2) (by have:=xl es;lia) m2 (by lia) λv2 H13 s13 c1 c2=>?_⟩⟩
   obtain⟨rfl,_⟩:=YM hG hD hmet m1 (hkey p hpm) a1 a2 c1 c2
   have s13':=s12.trans s13
   refine⟨rfl,s13' _ _ hH,by rw[ae,bQ];lia,CNx.mk hi ⟨zE (hs.trans s13') hJ,zc,?_⟩⟩
   rw[fm,ay]
   simp
  ·rintro sP H' ⟨hs,hH,rfl⟩
   refine⟨J,aU px.length sK,rfl,SqL.of hH,?_⟩
   have e:(aU px.length sK).all id=sK:=by simp
   rw[e]
   exact q _
end
def FnE(K:oN)(x q:oV)(st:pb)(f:oO):Prop:=∃fd,Fun K x q st f fd
def FnA(K:oN)(x:oV)(st:pb)(f:oO):Prop:=aF K oJ x=sI (sI (.ref f))/\FnE K x x st f
theorem FnA.mk{K:oN}{x:oV}{st:pb}{h:oZ}{mg:oV->Option oP}(q:FnA K x st f)(X:K.In h)(G:h.Ns oJ mg):mg x=sI (.ref f)/\aO K (.ref f)=sK/\FnE K x x st f:=by
 obtain⟨a,fd,F⟩:=q
 exact⟨aM X G a,F.kp,fd,F⟩
theorem kF{us:List oP}(h:us.length=1):∃a,us=[a]:=List.length_eq_one_iff.mp h
theorem uj{us:List oP}(h:us.length=2):∃a0 a1,us=[a0,a1]:=by
 cases us with
 | nil=>cases h
 | cons a r =>
  obtain⟨a1,rfl⟩:=kF (Nat.succ.inj h)
  exact⟨a,a1,rfl⟩
theorem Wc{us:List oP}(h:us.length=3):∃a0 a1 a2,us=[a0,a1,a2]:=by
 cases us with
 | nil=>cases h
 | cons a r =>
  obtain⟨a1,a2,rfl⟩:=uj (Nat.succ.inj h)
  exact⟨a,a1,a2,rfl⟩
theorem Kv{us:List oP}(h:us.length=4):∃a0 a1 a2 a3,us=[a0,a1,a2,a3]:=by
 cases us with
 | nil=>cases h
 | cons a r =>
  obtain⟨a1,a2,a3,rfl⟩:=Wc (Nat.succ.inj h)
  exact⟨a,a1,a2,a3,rfl⟩
theorem zdC{us:List oP}(h:us.length=5):∃a0 a1 a2 a3 a4,us=[a0,a1,a2,a3,a4]:=by
 cases us with
 | nil=>cases h
 | cons a r =>
  obtain⟨a1,a2,a3,a4,rfl⟩:=Kv (Nat.succ.inj h)
  exact⟨a,a1,a2,a3,a4,rfl⟩
theorem zdl{us:List oP}(h:us.length=6):∃a0 a1 a2 a3 a4 a5,us=[a0,a1,a2,a3,a4,a5]:=by
 cases us with
 | nil=>cases h
 | cons a r =>
  obtain⟨a1,a2,a3,a4,a5,rfl⟩:=zdC (Nat.succ.inj h)
  exact⟨a,a1,a2,a3,a4,a5,rfl⟩
theorem zdI{us:List oP}(h:us.length=7):∃a0 a1 a2 a3 a4 a5 a6,us=[a0,a1,a2,a3,a4,a5,a6]:=by
 cases us with
 | nil=>cases h
 | cons a r =>
  obtain⟨a1,a2,a3,a4,a5,a6,rfl⟩:=zdl (Nat.succ.inj h)
  exact⟨a,a1,a2,a3,a4,a5,a6,rfl⟩
theorem all_mk{l:PySem.W.OpenLaw}{w:oW}{K:oN}{h:oZ}{mg:oV->Option oP}{fa f0 f1 f2 f3 f4 f5 f6 f7 f8 f9 f10 f11 f12 f13 f14 f15 f16 f17 f18 f19 f20 f21 f22 f23 f24 f25 f26 f27 f28 f29 f30 f31 f32 f33 f34 f35 f36 f37 f38 f39 f40 f41 f42 f43 f44 f45 nA gb ge fW fV fS fX fZ gf fY:oO}{cc TB:oO}(X:K.In h)(G:h.Ns oJ mg)(hfa:mg "law" = sI (.ref fa))(hlam:∃a o fd,mg "in_order" = sI (.ref a)/\h.get? a=sI o/\o.data=.func fd/\fd.code=.ref cc)(hgT:oJ≠TB)
{od6 an6 od12 an12 od33 an33 od45 an45:Option oO}{sl6 sl12 sl33 sl45:Array (Option oP)}{oc6 kV6 dc6 pm6 cd6 ct6 oc12 kV12 dc12 pm12 cd12 ct12 oc33 kV33 dc33 pm33 cd33 ct33 oc45 kV45 dc45 pm45 cd45 ct45:oP}
  {t6 t7:rF}
  {fI:oO}
  {odI anI:Option oO}
  {slI:Array (Option oP)}
  {ocI kVI dcI pmI cdI ctI:oP}
  {t8:rF}
  {fU:oO}
  {odU anU:Option oO}
  {slU:Array (Option oP)}
  {ocU kVU dcU pmU cdU ctU:oP}
  {tmu tms tmd tmp:rF}
  {tcu tce tcd tcp:rF}
  {gB:oO}
  {gM:oO}
  {ip:oO}
  {gU:oO}
  {gX:oO}
  {gG:oO}
  {gC:oO}
  {gn:oO}
  {iI:oO}
  {gv:oO}
  {mF:oO}
  {lc:rF}
  {d1_gone:oP}
  {d2_gone:Option oO}
  {d3_gone:Nat}
  {d4_gone:Array (Option oP)}
  {lP:oO}
  {lN:rF}
  {d1_unmet:oP}
  {d2_unmet:Option oO}
  {d3_unmet:Nat}
  {d4_unmet:Array (Option oP)}
  (a0:FnA K "is_small_letter" yM f0)
  (a1:FnA K "letters_of" wA f1)
  (a2:FnA K "stands_at" vj f2)
  (a3:FnA K "put" Jr f3)
  (a4:FnA K "first_within" xK f4)
  (a5:FnA K "first_from" wQ f5)
  (a6:aF K oJ "gone" = sI (sI (.ref f6))) (l6:K.lookup f6=sI ⟨oc6,od6,.func (bp "gone" "gone" (yB vb) (z9 vb) (zh vb) (.ref mF) kV6 dc6 pm6 an6 cd6 ct6),sl6⟩) (k6:bV K cd6 "gone" = sK) (p6:aO K (.ref f6)=sK)
  (a7:FnA K "back" YK f7)
  (a8:FnA K "moved" kn f8)
  (a9:FnA K "by_pacts" ue f9)
  (a10:FnA K "pairs_of" wS f10)
  (a11:FnA K "as_rule" jc f11)
  (a12:aF K oJ "in_order" = sI (sI (.ref f12))) (l12:K.lookup f12=sI ⟨oc12,od12,.func (bp "in_order" "in_order" (yB yA) (z9 yA) (zh yA) .none kV12 dc12 pm12 an12 cd12 ct12),sl12⟩) (k12:bV K cd12 "in_order" = sK) (p12:aO K (.ref f12)=sK)
  (a13:FnA K "brought_down" xE f13)
  (a14:FnA K "refuse_beyond" xj f14)
  (a15:FnA K "built_anew" wC f15)
  (a16:FnA K "thinned" qj f16)
  (a17:FnA K "_law_cell" WJ f17)
  (a18:FnA K "_law_mixed" Z1 f18)
  (a19:FnA K "_law_letters" qg f19)
  (a20:FnA K "_law_word" Ub f20)
  (a21:FnA K "_law_pair" Vi f21)
  (a22:FnA K "_law_whole" ZQ f22)
  (a23:FnA K "_law_steps" Z6 f23)
  (a24:FnA K "_law_order" Z2 f24)
  (a25:FnA K "_law_draw" WS f25)
  (a26:FnA K "_law_entries" qO f26)
  (a27:FnA K "_law_rank" jr f27)
  (a28:FnA K "agree" Yg f28)
  (a29:FnA K "overlaps" ui f29)
  (a30:FnA K "peak" W0 f30)
  (a31:FnA K "form_of" qt f31)
  (a32:FnA K "is_met" jL f32)
  (a33:aF K oJ "unmet" = sI (sI (.ref f33))) (l33:K.lookup f33=sI ⟨oc33,od33,.func (bp "unmet" "unmet" (yB xC) (z9 xC) (zh xC) (.ref lP) kV33 dc33 pm33 an33 cd33 ct33),sl33⟩) (k33:bV K cd33 "unmet" = sK) (p33:aO K (.ref f33)=sK)
  (a34:FnA K "system_by" vk f34)
  (a35:FnA K "first_entries" yE f35)
  (a36:FnA K "is_beyond" wg f36)
  (a37:FnA K "thinned_within" yU f37)
  (a38:FnA K "unmet_within" xF f38)
  (a39:FnA K "entry_of" vU f39)
  (a40:FnA K "completed" xY f40)
  (a41:FnA K "_law_told" Wg f41)
  (a42:FnA K "_law_form" VY f42)
  (a43:FnA K "_law_meet" WN f43)
  (a44:FnA K "_law_system" uQ f44)
  (a45:aF K oJ "law" = sI (sI (.ref f45))) (l45:K.lookup f45=sI ⟨oc45,od45,.func (bp "law" "law" (yB vp) (z9 vp) (zh vp) .none kV45 dc45 pm45 an45 cd45 ct45),sl45⟩) (k45:bV K cd45 "law" = sK) (p45:aO K (.ref f45)=sK)
  (g_LetterError:aF K oJ "LetterError" = sI (sI (.ref nA)))
  (g_NoLetters:aF K oJ "NoLetters" = sI (sI (.ref gb)))
  (g_NoOrder:aF K oJ "NoOrder" = sI (sI (.ref ge)))
  (g_Order:aF K oJ "Order" = sI (sI (.ref fW)))
  (g_FromRight:aF K oJ "FromRight" = sI (sI (.ref fV)))
  (g_ByWeights:aF K oJ "ByWeights" = sI (sI (.ref fS)))
  (g_NotTurned:aF K oJ "NotTurned" = sI (sI (.ref fX)))
  (g_System:aF K oJ "System" = sI (sI (.ref fZ)))
  (g_NoUse:aF K oJ "NoUse" = sI (sI (.ref gf)))
  (g_TooFar:aF K oJ "TooFar" = sI (sI (.ref fY)))
  (kbb:aQ K (.type "bool") (.type "bool")=sI sK)
  (kt:aQ K (.type "tuple") (.type "tuple")=sI sK)
  (ki:aQ K (.type "int") (.type "int")=sI sK)
  (kb:aQ K (.type "int") (.type "bool")=sI sL)
  (kl:aQ K (.type "list") (.type "list")=sI sK)
  (x7:cB K (.builtin "object.__class__") "__get__" = sI (sI (.builtin "getset_descriptor.__get__")))
  (x8:dL K (.builtin "object.__class__")=sI sK)
  (x1:kG K gb=sK)
  (x2:ah K (.ref gb) "__setattr__" = sI (sI (.builtin "object.__setattr__")))
  (x3:ah K (.ref gb) "__getattribute__" = sI (sI (.builtin "BaseException.__getattribute__")))
  (x4:ah K (.ref gb) "__getattr__" = sI sJ)
  (x5:aO K (.ref gb)=sK)
  (x6:ah K (.ref gb) "__class__" = sI (sI (.builtin "object.__class__")))
  (x9:bU K gb (.type "object")=sI sK)
  (xi:ah K (.ref gb) "__init__" = sI (sI (.builtin "ValueError.__init__")))
  (y1:kG K ge=sK)
  (y2:ah K (.ref ge) "__setattr__" = sI (sI (.builtin "object.__setattr__")))
  (y3:ah K (.ref ge) "__getattribute__" = sI (sI (.builtin "BaseException.__getattribute__")))
  (y4:ah K (.ref ge) "__getattr__" = sI sJ)
  (y5:aO K (.ref ge)=sK)
  (y6:ah K (.ref ge) "__class__" = sI (sI (.builtin "object.__class__")))
  (y9:bU K ge (.type "object")=sI sK)
  (yi:ah K (.ref ge) "__init__" = sI (sI (.builtin "ValueError.__init__")))
  (most:aF K oJ "MOST_LETTERS" = sI (sI (.int 6 t6)))
  (mostw:aF K oJ "MOST_WEIGHT" = sI (sI (.int 1000000 t7)))
  (mQ:bY K fW eR=sK)
  (mS:bB K fW=sK)
  (mT:cA K fW=sK)
  (mU:ah K (.ref fW) "__setattr__" = sI (sI (.builtin "object.__setattr__")))
  (mV:cJ K fW=sK)
  (mX:aO K (.ref fW)=sK)
  (mY:ah K (.ref fW) "letters" = sI sJ)
  (nM:aQ K (.ref fW) (.ref fW)=sI sK)
  (nN:ah K (.ref fW) "__class__" = sI (sI (.builtin "object.__class__")))
  (nO:bU K fW (.type "object")=sI sK)
  (lh:bY K fV eR=sK)
  (lm:bB K fV=sK)
  (ln:cA K fV=sK)
  (lr:ah K (.ref fV) "__setattr__" = sI (sI (.builtin "object.__setattr__")))
  (lu:cJ K fV=sK)
  (lv:aO K (.ref fV)=sK)
  (lw:ah K (.ref fV) "letters" = sI sJ)
  (mm:aQ K (.ref fV) (.ref fW)=sI sK)
  (mq:ah K (.ref fV) "__class__" = sI (sI (.builtin "object.__class__")))
  (mr:bU K fV (.type "object")=sI sK)
  (lx:bY K fS eR=sK)
  (ly:bB K fS=sK)
  (lA:cA K fS=sK)
  (lB:ah K (.ref fS) "__setattr__" = sI (sI (.builtin "object.__setattr__")))
  (lC:cJ K fS=sK)
  (lD:aO K (.ref fS)=sK)
  (lE:ah K (.ref fS) "letters" = sI sJ)
  (mv:aQ K (.ref fS) (.ref fW)=sI sK)
  (mw:ah K (.ref fS) "__class__" = sI (sI (.builtin "object.__class__")))
  (mx:bU K fS (.type "object")=sI sK)
  (nw_ByWeights:ah K (.ref fS) "weights" = sI sJ)
  (sgO:cB K (.ref fW) "__getattribute__" = sI (sI (.builtin "type.__getattribute__")))
  (rdO:fN K fW (.type "type")=sK)
  (win:aF K oJ "WINDOW" = sI (sI (.int 128 t8)))
  (tt1:kG K fX=sK)
  (tt2:ah K (.ref fX) "__setattr__" = sI (sI (.builtin "object.__setattr__")))
  (tt3:ah K (.ref fX) "__getattribute__" = sI (sI (.builtin "BaseException.__getattribute__")))
  (tt4:ah K (.ref fX) "__getattr__" = sI sJ)
  (tt5:aO K (.ref fX)=sK)
  (tt6:ah K (.ref fX) "__class__" = sI (sI (.builtin "object.__class__")))
  (tt9:bU K fX (.type "object")=sI sK)
  (nn:ah K (.ref fX) "number" = sI sJ)
  (ini:ah K (.ref fX) "__init__" = sI (sI (.ref fI)))
  (lI:K.lookup fI=sI ⟨ocI,odI,.func (bp "__init__" "NotTurned.__init__" (yB zX) (z9 zX) (zh zX) .none kVI dcI pmI anI cdI ctI),slI⟩)
  (kI:bV K cdI "NotTurned.__init__" = sK)
  (pI:aO K (.ref fI)=sK)
  (fnI:bc K (.ref fI)=sK)
  (my:bY K fZ eR=sK)
  (mz:bB K fZ=sK)
  (mB:cA K fZ=sK)
  (mC:ah K (.ref fZ) "__setattr__" = sI (sI (.builtin "object.__setattr__")))
  (mD:cJ K fZ=sK)
  (mE:aO K (.ref fZ)=sK)
  (no_System:ah K (.ref fZ) "order" = sI sJ)
  (nr_System:ah K (.ref fZ) "rules" = sI sJ)
  (u1:kG K gf=sK)
  (u2:ah K (.ref gf) "__setattr__" = sI (sI (.builtin "object.__setattr__")))
  (u3:ah K (.ref gf) "__getattribute__" = sI (sI (.builtin "BaseException.__getattribute__")))
  (u4:ah K (.ref gf) "__getattr__" = sI sJ)
  (u5:aO K (.ref gf)=sK)
  (u6:ah K (.ref gf) "__class__" = sI (sI (.builtin "object.__class__")))
  (u9:bU K gf (.type "object")=sI sK)
  (ua:ah K (.ref gf) "at" = sI sJ)
  (iniU:ah K (.ref gf) "__init__" = sI (sI (.ref fU)))
  (lU:K.lookup fU=sI ⟨ocU,odU,.func (bp "__init__" "NoUse.__init__" (yB yz) (z9 yz) (zh yz) .none kVU dcU pmU anU cdU ctU),slU⟩)
  (kU:bV K cdU "NoUse.__init__" = sK)
  (pU:aO K (.ref fU)=sK)
  (fnU:bc K (.ref fU)=sK)
  (v1:kG K fY=sK)
  (v2:ah K (.ref fY) "__setattr__" = sI (sI (.builtin "object.__setattr__")))
  (v3:ah K (.ref fY) "__getattribute__" = sI (sI (.builtin "BaseException.__getattribute__")))
  (v4:ah K (.ref fY) "__getattr__" = sI sJ)
  (v5:aO K (.ref fY)=sK)
  (v6:ah K (.ref fY) "__class__" = sI (sI (.builtin "object.__class__")))
  (v9:bU K fY (.type "object")=sI sK)
  (vi:ah K (.ref fY) "__init__" = sI (sI (.builtin "ValueError.__init__")))
  (sFF:cq K (.ref fY) (.ref fY)=sI sK)
  (ks:aQ K (.type "str") (.type "str")=sI sK)
  (hdT:bB K fX=sK)
  (sTT:cq K (.ref fX) (.ref fX)=sI sK)
  (nmin:aF K oJ "min" = sI sJ)
  (nany:aF K oJ "any" = sI sJ)
  (nsorted:aF K oJ "sorted" = sI sJ)
  (mou:aF K oJ "MOST_USES_thinning" = sI (sI (.int 40 tmu)))
  (mos:aF K oJ "MOST_STEPS" = sI (sI (.int 240 tms)))
  (mod_:aF K oJ "MOST_SIDE_thinning" = sI (sI (.int 60 tmd)))
  (mop:aF K oJ "MOST_PASSES" = sI (sI (.int 20 tmp)))
  (mcu:aF K oJ "MOST_USES_completing" = sI (sI (.int 40 tcu)))
  (mce:aF K oJ "MOST_ENTRIES" = sI (sI (.int 12 tce)))
  (mcd:aF K oJ "MOST_SIDE_completing" = sI (sI (.int 10 tcd)))
  (mcp:aF K oJ "MOST_PEAKS" = sI (sI (.int 8 tcp)))
  (iP:ah K (.ref fW) "__init__" = sI (sI (.ref gB)))
  (iQ:FnE K "__init__" "Order.__init__" wq gB)
  (iq:bc K (.ref gB)=sK)
  (iz:ah K (.ref fW) "weight" = sI (sI (.ref gM)))
  (iA:FnE K "weight" "Order.weight" xB gM)
  (gN:bc K (.ref gM)=sK)
  (iR:ah K (.ref fW) "seen" = sI (sI (.ref ip)))
  (iS:FnE K "seen" "Order.seen" wy ip)
  (ir:bc K (.ref ip)=sK)
  (gY:ah K (.ref fV) "seen" = sI (sI (.ref gU)))
  (gZ:FnE K "seen" "FromRight.seen" yS gU)
  (ic:bc K (.ref gU)=sK)
  (ie:ah K (.ref fS) "__init__" = sI (sI (.ref gX)))
  (ig:FnE K "__init__" "ByWeights.__init__" yW gX)
  (ij:bc K (.ref gX)=sK)
  (gH:ah K (.ref fS) "weight" = sI (sI (.ref gG)))
  (gJ:FnE K "weight" "ByWeights.weight" yj gG)
  (gK:bc K (.ref gG)=sK)
  (iT:ah K (.ref fW) "rank" = sI (sI (.ref gC)))
  (iU:FnE K "rank" "Order.rank" xv gC)
  (gD:bc K (.ref gC)=sK)
  (iB:ah K (.ref fW) "before" = sI (sI (.ref gn)))
  (iC:FnE K "before" "Order.before" xG gn)
  (gp:bc K (.ref gn)=sK)
  (iJ:ah K (.ref fZ) "__init__" = sI (sI (.ref iI)))
  (iK:FnE K "__init__" "System.__init__" xW iI)
  (iL:bc K (.ref iI)=sK)
  (gw:ah K (.ref fZ) "rules_told" = sI (sI (.ref gv)))
  (gx:FnE K "rules_told" "System.rules_told" yv gv)
  (gy:bc K (.ref gv)=sK)
  (mG:K.lookup mF=sI ⟨d1_gone,d2_gone,.seq #[.int 4000 lc] d3_gone,d4_gone⟩)
  (lQ:K.lookup lP=sI ⟨d1_unmet,d2_unmet,.seq #[.int 4000 lN] d3_unmet,d4_unmet⟩)
  (fcO:fO K (.ref fW) (.type "type") "__init__" = sI (.val (.ref gB)))
  (fiR_init:ah K (.ref fV) "__init__" = sI (sI (.ref gB)))
  (fiR_weight:ah K (.ref fV) "weight" = sI (sI (.ref gM)))
  (fiW_seen:ah K (.ref fS) "seen" = sI (sI (.ref ip)))
  (fiR_rank:ah K (.ref fV) "rank" = sI (sI (.ref gC)))
  (fiW_rank:ah K (.ref fS) "rank" = sI (sI (.ref gC)))
  (fiR_before:ah K (.ref fV) "before" = sI (sI (.ref gn)))
  (fiW_before:ah K (.ref fS) "before" = sI (sI (.ref gn)))
  (b0:aF K oJ "len" = sI sJ)
  (b1:aF K oJ "range" = sI sJ)
  (b2:aF K oJ "isinstance" = sI sJ)
  (b3:aF K oJ "str" = sI sJ)
  (b4:aF K oJ "int" = sI sJ)
  (b5:aF K oJ "tuple" = sI sJ)
  (b6:aF K oJ "list" = sI sJ)
  (b7:aF K oJ "bool" = sI sJ)
  (b8:aF K oJ "enumerate" = sI sJ)
  (b9:aF K oJ "all" = sI sJ)
  (b10:aF K oJ "ValueError" = sI sJ)
  (b11:aF K oJ "max" = sI sJ)
  (b12:aF K oJ "reversed" = sI sJ)
  (b13:aF K oJ "zip" = sI sJ)
  (b14:aF K oJ "sum" = sI sJ)
  (b15:aF K oJ "sorted" = sI sJ)
  : ∃fd:oS,(∀(s:oQ) (v:oP),rW s fd ⟨[v],[]⟩ [("_law_script",v)])/\∀base:oZ,K.In base->base.Ns oJ mg->base.BuiltinsAt mg TB->PySem.W.CodeHd base cc TB->z8 l.prog w K mg base CX0 11 fa fd ["_law_script"] (Xp K TB):=by
 have e:=hfa.symm.trans (aM X G a45)
 cases e
 have B:Bt mg:=⟨aL X G b0,aL X G b1,aL X G b2,aL X G b3,aL X G b4,aL X G b5,aL X G b6,aL X G b7,aL X G b8,aL X G b9,aL X G b10,aL X G b11,aL X G b12,aL X G b13,aL X G b14,aL X G b15⟩
 obtain⟨M0,p0,_,F0⟩:=a0.mk X G
 have B0:=F0.binds (ps:=["sign"]) λ_ _ _ _ _ _ us hl=>by obtain⟨_,rfl⟩:=kF hl;rfl
 obtain⟨M1,p1,_,F1⟩:=a1.mk X G
 have B1:=F1.binds (ps:=["text"]) λ_ _ _ _ _ _ us hl=>by obtain⟨_,rfl⟩:=kF hl;rfl
 obtain⟨M2,p2,_,F2⟩:=a2.mk X G
 have B2:=F2.binds (ps:=["word","place","part"]) λ_ _ _ _ _ _ us hl=>by obtain⟨_,_,_,rfl⟩:=Wc hl;rfl
 obtain⟨M3,p3,_,F3⟩:=a3.mk X G
 have B3:=F3.binds (ps:=["word","place","old","new"]) λ_ _ _ _ _ _ us hl=>by obtain⟨_,_,_,_,rfl⟩:=Kv hl;rfl
 obtain⟨M4,p4,_,F4⟩:=a4.mk X G
 have B4:=F4.binds (ps:=["rules","word","start","end"]) λ_ _ _ _ _ _ us hl=>by obtain⟨_,_,_,_,rfl⟩:=Kv hl;rfl
 obtain⟨M5,p5,_,F5⟩:=a5.mk X G
 have B5:=F5.binds (ps:=["rules","word","start"]) λ_ _ _ _ _ _ us hl=>by obtain⟨_,_,_,rfl⟩:=Wc hl;rfl
 have F6:FunD K "gone" "gone" vb (.ref mF) f6 (bp "gone" "gone" (yB vb) (z9 vb) (zh vb) (.ref mF) kV6 dc6 pm6 an6 cd6 ct6):=⟨⟨_,_,_,_,_,_,_,_,_,rfl,l6,k6⟩⟩
 have M6:=aM X G a6
 obtain⟨M7,p7,_,F7⟩:=a7.mk X G
 have B7:=F7.binds (ps:=["steps"]) λ_ _ _ _ _ _ us hl=>by obtain⟨_,rfl⟩:=kF hl;rfl
 obtain⟨M8,p8,_,F8⟩:=a8.mk X G
 have B8:=F8.binds (ps:=["steps","size"]) λ_ _ _ _ _ _ us hl=>by obtain⟨_,_,rfl⟩:=uj hl;rfl
 obtain⟨M9,p9,_,F9⟩:=a9.mk X G
 have B9:=F9.binds (ps:=["entries","steps"]) λ_ _ _ _ _ _ us hl=>by obtain⟨_,_,rfl⟩:=uj hl;rfl
 obtain⟨M10,p10,_,F10⟩:=a10.mk X G
 have B10:=F10.binds (ps:=["entries"]) λ_ _ _ _ _ _ us hl=>by obtain⟨_,rfl⟩:=kF hl;rfl
 obtain⟨M11,p11,_,F11⟩:=a11.mk X G
 have B11:=F11.binds (ps:=["order","entry"]) λ_ _ _ _ _ _ us hl=>by obtain⟨_,_,rfl⟩:=uj hl;rfl
 have F12:=fun_mk (st:=yA) l12 k12 p12
 have B12:=F12.binds (ps:=["order","entries"]) λ_ _ _ _ _ _ us hl=>by obtain⟨_,_,rfl⟩:=uj hl;rfl
 have M12:=aM X G a12
 obtain⟨M13,p13,_,F13⟩:=a13.mk X G
 have B13:=F13.binds (ps:=["entries","entry"]) λ_ _ _ _ _ _ us hl=>by obtain⟨_,_,rfl⟩:=uj hl;rfl
 obtain⟨M14,p14,_,F14⟩:=a14.mk X G
 have B14:=F14.binds (ps:=["entry"]) λ_ _ _ _ _ _ us hl=>by obtain⟨_,rfl⟩:=kF hl;rfl
 obtain⟨M15,p15,_,F15⟩:=a15.mk X G
 have B15:=F15.binds (ps:=["order","entries"]) λ_ _ _ _ _ _ us hl=>by obtain⟨_,_,rfl⟩:=uj hl;rfl
 obtain⟨M16,p16,_,F16⟩:=a16.mk X G
 have B16:=F16.binds (ps:=["order","entries"]) λ_ _ _ _ _ _ us hl=>by obtain⟨_,_,rfl⟩:=uj hl;rfl
 obtain⟨M17,p17,_,F17⟩:=a17.mk X G
 have B17:=F17.binds (ps:=["_law_script","_law_k"]) λ_ _ _ _ _ _ us hl=>by obtain⟨_,_,rfl⟩:=uj hl;rfl
 obtain⟨M18,p18,_,F18⟩:=a18.mk X G
 have B18:=F18.binds (ps:=["_law_cell_here","_law_turn"]) λ_ _ _ _ _ _ us hl=>by obtain⟨_,_,rfl⟩:=uj hl;rfl
 obtain⟨M19,p19,_,F19⟩:=a19.mk X G
 have B19:=F19.binds (ps:=["_law_cell_here","_law_many"]) λ_ _ _ _ _ _ us hl=>by obtain⟨_,_,rfl⟩:=uj hl;rfl
 obtain⟨M20,p20,_,F20⟩:=a20.mk X G
 have B20:=F20.binds (ps:=["_law_number","_law_letters_here","_law_most"]) λ_ _ _ _ _ _ us hl=>by obtain⟨_,_,_,rfl⟩:=Wc hl;rfl
 obtain⟨M21,p21,_,F21⟩:=a21.mk X G
 have B21:=F21.binds (ps:=["_law_cell_here","_law_letters_here","_law_most"]) λ_ _ _ _ _ _ us hl=>by obtain⟨_,_,_,rfl⟩:=Wc hl;rfl
 obtain⟨M22,p22,_,F22⟩:=a22.mk X G
 have B22:=F22.binds (ps:=["_law_found"]) λ_ _ _ _ _ _ us hl=>by obtain⟨_,rfl⟩:=kF hl;rfl
 obtain⟨M23,p23,_,F23⟩:=a23.mk X G
 have B23:=F23.binds (ps:=["_law_found"]) λ_ _ _ _ _ _ us hl=>by obtain⟨_,rfl⟩:=kF hl;rfl
 obtain⟨M24,p24,_,F24⟩:=a24.mk X G
 have B24:=F24.binds (ps:=["_law_kind","_law_letters_here","_law_weights"]) λ_ _ _ _ _ _ us hl=>by obtain⟨_,_,_,rfl⟩:=Wc hl;rfl
 obtain⟨M25,p25,_,F25⟩:=a25.mk X G
 have B25:=F25.binds (ps:=["_law_cell_here"]) λ_ _ _ _ _ _ us hl=>by obtain⟨_,rfl⟩:=kF hl;rfl
 obtain⟨M26,p26,_,F26⟩:=a26.mk X G
 have B26:=F26.binds (ps:=["_law_found"]) λ_ _ _ _ _ _ us hl=>by obtain⟨_,rfl⟩:=kF hl;rfl
 obtain⟨M27,p27,_,F27⟩:=a27.mk X G
 have B27:=F27.binds (ps:=["_law_kind","_law_letters_here","_law_weights","_law_word_here"]) λ_ _ _ _ _ _ us hl=>by obtain⟨_,_,_,_,rfl⟩:=Kv hl;rfl
 obtain⟨M28,p28,_,F28⟩:=a28.mk X G
 have B28:=F28.binds (ps:=["one","other","place"]) λ_ _ _ _ _ _ us hl=>by obtain⟨_,_,_,rfl⟩:=Wc hl;rfl
 obtain⟨M29,p29,_,F29⟩:=a29.mk X G
 have B29:=F29.binds (ps:=["rules"]) λ_ _ _ _ _ _ us hl=>by obtain⟨_,rfl⟩:=kF hl;rfl
 obtain⟨M30,p30,_,F30⟩:=a30.mk X G
 have B30:=F30.binds (ps:=["rules","overlap"]) λ_ _ _ _ _ _ us hl=>by obtain⟨_,_,rfl⟩:=uj hl;rfl
 obtain⟨M31,p31,_,F31⟩:=a31.mk X G
 have B31:=F31.binds (ps:=["rules","word","most","forms"]) λ_ _ _ _ _ _ us hl=>by obtain⟨_,_,_,_,rfl⟩:=Kv hl;rfl
 obtain⟨M32,p32,_,F32⟩:=a32.mk X G
 have B32:=F32.binds (ps:=["rules","overlap","most","forms"]) λ_ _ _ _ _ _ us hl=>by obtain⟨_,_,_,_,rfl⟩:=Kv hl;rfl
 have F33:FunD K "unmet" "unmet" xC (.ref lP) f33 (bp "unmet" "unmet" (yB xC) (z9 xC) (zh xC) (.ref lP) kV33 dc33 pm33 an33 cd33 ct33):=⟨⟨_,_,_,_,_,_,_,_,_,rfl,l33,k33⟩⟩
 have M33:=aM X G a33
 obtain⟨M34,p34,_,F34⟩:=a34.mk X G
 have B34:=F34.binds (ps:=["order","entries"]) λ_ _ _ _ _ _ us hl=>by obtain⟨_,_,rfl⟩:=uj hl;rfl
 obtain⟨M35,p35,_,F35⟩:=a35.mk X G
 have B35:=F35.binds (ps:=["pacts"]) λ_ _ _ _ _ _ us hl=>by obtain⟨_,rfl⟩:=kF hl;rfl
 obtain⟨M36,p36,_,F36⟩:=a36.mk X G
 have B36:=F36.binds (ps:=["entries"]) λ_ _ _ _ _ _ us hl=>by obtain⟨_,rfl⟩:=kF hl;rfl
 obtain⟨M37,p37,_,F37⟩:=a37.mk X G
 have B37:=F37.binds (ps:=["order","entries"]) λ_ _ _ _ _ _ us hl=>by obtain⟨_,_,rfl⟩:=uj hl;rfl
 obtain⟨M38,p38,_,F38⟩:=a38.mk X G
 have B38:=F38.binds (ps:=["order","entries"]) λ_ _ _ _ _ _ us hl=>by obtain⟨_,_,rfl⟩:=uj hl;rfl
 obtain⟨M39,p39,_,F39⟩:=a39.mk X G
 have B39:=F39.binds (ps:=["entries","overlap"]) λ_ _ _ _ _ _ us hl=>by obtain⟨_,_,rfl⟩:=uj hl;rfl
 obtain⟨M40,p40,_,F40⟩:=a40.mk X G
 have B40:=F40.binds (ps:=["order","pacts","rounds"]) λ_ _ _ _ _ _ us hl=>by obtain⟨_,_,_,rfl⟩:=Wc hl;rfl
 obtain⟨M41,p41,_,F41⟩:=a41.mk X G
 have B41:=F41.binds (ps:=["_law_found"]) λ_ _ _ _ _ _ us hl=>by obtain⟨_,rfl⟩:=kF hl;rfl
 obtain⟨M42,p42,_,F42⟩:=a42.mk X G
 have B42:=F42.binds (ps:=["_law_rules","_law_word_here"]) λ_ _ _ _ _ _ us hl=>by obtain⟨_,_,rfl⟩:=uj hl;rfl
 obtain⟨M43,p43,_,F43⟩:=a43.mk X G
 have B43:=F43.binds (ps:=["_law_rules"]) λ_ _ _ _ _ _ us hl=>by obtain⟨_,rfl⟩:=kF hl;rfl
 obtain⟨M44,p44,_,F44⟩:=a44.mk X G
 have B44:=F44.binds (ps:=["_law_order_here","_law_entries_here","_law_rules","_law_cell_here"]) λ_ _ _ _ _ _ us hl=>by obtain⟨_,_,_,_,rfl⟩:=Kv hl;rfl
 have F45:=fun_mk (st:=vp) l45 k45 p45
 have B45:=F45.binds (ps:=["_law_script"]) λ_ _ _ _ _ _ us hl=>by obtain⟨_,rfl⟩:=kF hl;rfl
 have M45:=aM X G a45
 have HCC:cd12=.ref cc:=by
  obtain⟨ai,oi,fdi,m1,m2,m3,m4⟩:=hlam
  have e1:=m1.symm.trans (aM X G a12)
  cases e1
  have e2:=m2.symm.trans (X _ _ l12)
  cases e2
  cases m3
  exact m4
 refine⟨bp "law" "law" (yB vp) (z9 vp) (zh vp) .none kV45 dc45 pm45 an45 cd45 ct45,λs v=>.of_eq rfl,λbase _ _ HBT HCH=>?_⟩
 have XIl:XI K gb:=⟨⟨x1,x2,x3,x4,x5⟩,x6,x7,x8,x9⟩
 have XIo:XI K ge:=⟨⟨y1,y2,y3,y4,y5⟩,y6,x7,x8,y9⟩
 have TL:zcM K mg gb:=⟨XIl,xi,aM X G g_NoLetters,t6,aM X G most⟩
 have TN:zcY K mg ge:=⟨XIo,yi,aM X G g_NoOrder,t7,aM X G mostw⟩
 have TO:TOrd K mg fW fV fS:=⟨⟨mQ,mS,mT,mU⟩,⟨lh,lm,ln,lr⟩,⟨lx,ly,lA,lB⟩,aM X G g_Order,aM X G g_FromRight,aM X G g_ByWeights,mY,lw,lE,nw_ByWeights⟩
 have XIt:XI K fX:=⟨⟨tt1,tt2,tt3,tt4,tt5⟩,tt6,x7,x8,tt9⟩
 have TNt:TNT K mg fX:=⟨XIt,aM X G g_NotTurned,nn⟩
 have FI:=fun_mk (st:=zX) lI kI pI
 have BI:=FI.binds (ps:=["self","number"]) λ_ _ _ _ _ _ us hl=>by obtain⟨_,_,rfl⟩:=uj hl;rfl
 have TD:DNT l.prog w K mg base fX:=⟨TNt,_,_,ini,fnI,vT TNt FI,BI⟩
 have TS:K7 K mg fZ:=⟨⟨my,mz,mB,mC⟩,aM X G g_System,no_System,nr_System⟩
 have TWi:zcS mg:=⟨t8,aM X G win⟩
 have XIu:XI K gf:=⟨⟨u1,u2,u3,u4,u5⟩,u6,x7,x8,u9⟩
 have TNu:TNU K mg gf:=⟨XIu,aM X G g_NoUse,ua⟩
 have FU:=fun_mk (st:=yz) lU kU pU
 have BU:=FU.binds (ps:=["self","at"]) λ_ _ _ _ _ _ us hl=>by obtain⟨_,_,rfl⟩:=uj hl;rfl
 have TUd:DNU l.prog w K mg base gf:=⟨TNu,_,_,iniU,fnU,jJ TNu FU,BU⟩
 have XIf:XI K fY:=⟨⟨v1,v2,v3,v4,v5⟩,v6,x7,x8,v9⟩
 have TF:zad K mg fY:=⟨XIf,vi,aM X G g_TooFar⟩
 have TMk:TMo mg:=⟨⟨tmu,aM X G mou⟩,⟨tms,aM X G mos⟩,⟨tmd,aM X G mod_⟩,⟨tmp,aM X G mop⟩⟩
 have TMcc:TMc mg:=⟨⟨tcu,aM X G mcu⟩,⟨tce,aM X G mce⟩,⟨tcd,aM X G mcd⟩,⟨tcp,aM X G mcp⟩⟩
 have D0:Df l.prog w K mg base CX0 1 "is_small_letter" ["sign"] [] uN:=⟨_,_,UD F0,M0,p0,B0⟩
 have D1:Df l.prog w K mg base (CXx l.prog w) 2 "letters_of" ["text"] [] (we gb):=⟨_,_,jH B TL F1 D0,M1,p1,B1⟩
 have D2:Df l.prog w K mg base CX0 1 "stands_at" ["word","place","part"] [] xw:=⟨_,_,kX B F2,M2,p2,B2⟩
 have D3:Df l.prog w K mg base (CXx l.prog w) 3 "put" ["word","place","old","new"] [] (ZA gf):=⟨_,_,zak B TUd F3 D2,M3,p3,B3⟩
 obtain⟨_,gE⟩:=iQ
 have nB:=gE.kp
 have iV:=gE.binds (ps:=["self","letters"]) λ_ _ _ _ _ _ us hl=>by obtain⟨_,_,rfl⟩:=uj hl;rfl
 have nC:DMk l.prog w K mg base CX0 3 fW ["self","letters"] (u8 K):=⟨_,_,⟨mV,iP,iq,mX⟩,xU B gE D1,iV⟩
 have DI:DOI l.prog w K mg base fW:=⟨_,_,⟨sgO,rdO,fcO,nB⟩,xU B gE D1,iV⟩
 obtain⟨_,gP⟩:=iA
 have lG:=gP.kp
 have lH:=gP.binds (ps:=["self","word"]) λ_ _ _ _ _ _ us hl=>by obtain⟨_,_,rfl⟩:=uj hl;rfl
 have ni:DM l.prog w K mg base CX0 1 fW "weight" ["self","word"] jN:=⟨_,_,⟨iz,gN,lG⟩,wP B gP,lH⟩
 obtain⟨_,iu⟩:=iS
 have lX:=iu.kp
 have lY:=iu.binds (ps:=["self","word"]) λ_ _ _ _ _ _ us hl=>by obtain⟨_,_,rfl⟩:=uj hl;rfl
 have nE:DM l.prog w K mg base CX0 1 fW "seen" ["self","word"] Xm:=⟨_,_,⟨iR,ir,lX⟩,vG B iu,lY⟩
 obtain⟨_,ik⟩:=gZ
 have mH:=ik.kp
 have mI:=ik.binds (ps:=["self","word"]) λ_ _ _ _ _ _ us hl=>by obtain⟨_,_,rfl⟩:=uj hl;rfl
 have mJ:DM l.prog w K mg base CX0 1 fV "seen" ["self","word"] Yh:=⟨_,_,⟨gY,ic,mH⟩,v0 B ik,mI⟩
 obtain⟨_,il⟩:=ig
 have og:=il.kp
 have mK:=il.binds (ps:=["self","letters","weights"]) λ_ _ _ _ _ _ us hl=>by obtain⟨_,_,_,rfl⟩:=Wc hl;rfl
 have mL:DMk l.prog w K mg base (CXx l.prog w) 4 fS ["self","letters","weights"] (kD K fS):=⟨_,_,⟨lC,ie,ij,lD⟩,vZ B TO TN DI il,mK⟩
 obtain⟨_,gL⟩:=gJ
 have lZ:=gL.kp
 have md:=gL.binds (ps:=["self","word"]) λ_ _ _ _ _ _ us hl=>by obtain⟨_,_,rfl⟩:=uj hl;rfl
 have me:DM l.prog w K mg base CX0 1 fS "weight" ["self","word"] (ZZ fS):=⟨_,_,⟨gH,gK,lZ⟩,vm B TO gL,md⟩
 have TT:TWS l.prog w K mg base fW fV fS:=⟨TO,nC,⟨_,_,⟨lu,fiR_init,iq,lv⟩,xU B gE D1,iV⟩,mL,ni,⟨_,_,⟨fiR_weight,gN,lG⟩,wP B gP,lH⟩,me,nE,mJ,⟨_,_,⟨fiW_seen,ir,lX⟩,vG B iu,lY⟩⟩
 obtain⟨_,gF⟩:=iU
 have iW:=gF.kp
 have iX:=gF.binds (ps:=["self","word"]) λ_ _ _ _ _ _ us hl=>by obtain⟨_,_,rfl⟩:=uj hl;rfl
 have nF:DM l.prog w K mg base CX0 2 fW "rank" ["self","word"] (qF fW fV fS):=⟨_,_,⟨iT,gD,iW⟩,wa B TT gF,iX⟩
 have DRk:DR l.prog w K mg base fW fV fS:=⟨λC h=>by rcases h with e | e | e; (rw[e];exact⟨TO.cO,nF⟩); (rw[e];exact⟨TO.cR,⟨_,_,⟨fiR_rank,gD,iW⟩,wa B TT gF,iX⟩⟩); (rw[e];exact⟨TO.cW,⟨_,_,⟨fiW_rank,gD,iW⟩,wa B TT gF,iX⟩⟩)⟩
 obtain⟨_,gq⟩:=iC
 have iD:=gq.kp
 have iE:=gq.binds (ps:=["self","one","other"]) λ_ _ _ _ _ _ us hl=>by obtain⟨_,_,_,rfl⟩:=Wc hl;rfl
 have nj:DM l.prog w K mg base CX0 3 fW "before" ["self","one","other"] (Wj fW fV fS):=⟨_,_,⟨iB,gp,iD⟩,xm B DRk gq,iE⟩
 have DBk:DB l.prog w K mg base fW fV fS:=⟨λC h=>by rcases h with e | e | e; (rw[e];exact⟨TO.cO,nj⟩); (rw[e];exact⟨TO.cR,⟨_,_,⟨fiR_before,gp,iD⟩,xm B DRk gq,iE⟩⟩); (rw[e];exact⟨TO.cW,⟨_,_,⟨fiW_before,gp,iD⟩,xm B DRk gq,iE⟩⟩)⟩
 have D4:Df l.prog w K mg base CX0 1 "first_within" ["rules","word","start","end"] [] (wT K):=⟨_,_,qu B F4,M4,p4,B4⟩
 have D5:Df l.prog w K mg base CX0 2 "first_from" ["rules","word","start"] [] (uX K):=⟨_,_,j6 B TWi F5 D4,M5,p5,B5⟩
 have O6:=JD (P:=l.prog) (w:=w) (base:=base) B TF TUd F6 D5 D3
 have D6:Df l.prog w K mg base (CXx l.prog w) 4 "gone" ["rules","word","most"] [] (wx K fY):=⟨_,_,O6,M6,p6,λs us hK hl=>by obtain⟨_,_,_,rfl⟩:=Wc (us:=us) (by simpa using hl);exact BindsTo.of_defaults rfl (hK _ _ mG) rfl rfl rfl⟩
 have D6d:Df l.prog w K mg base (CXx l.prog w) 4 "gone" ["rules","word","most"] [.int 4000 lc] (wx K fY):=⟨_,_,O6,M6,p6,λs us hK hl=>by obtain⟨_,_,rfl⟩:=uj (us:=us) (by simpa using hl);exact BindsTo.of_defaults rfl (hK _ _ mG) rfl rfl rfl⟩
 have D7:Df l.prog w K mg base CX0 1 "back" ["steps"] [] (vV K):=⟨_,_,KQ B F7,M7,p7,B7⟩
 have D8:Df l.prog w K mg base CX0 1 "moved" ["steps","size"] [] (uM K):=⟨_,_,QH B F8,M8,p8,B8⟩
 have D9:Df l.prog w K mg base CX0 2 "by_pacts" ["entries","steps"] [] (Uh K):=⟨_,_,Yr B F9 D8 D7,M9,p9,B9⟩
 have D10:Df l.prog w K mg base CX0 1 "pairs_of" ["entries"] [] (xX K):=⟨_,_,Z3 B F10,M10,p10,B10⟩
 have D11:Df l.prog w K mg base CX0 4 "as_rule" ["order","entry"] [] (xO K fW fV fS):=⟨_,_,X4 B DBk F11 D7,M11,p11,B11⟩
 have D12:Df l.prog w K mg base CX0 6 "in_order" ["order","entries"] [] (uI K fW fV fS TB):=⟨_,_,Yu B DRk (aL X G nsorted) HCH HBT hgT F12 HCC D11,M12,p12,B12⟩
 have D13:Df l.prog w K mg base (CXx l.prog w) 5 "brought_down" ["entries","entry"] [] (kB K fY):=⟨_,_,qo B TMk F13 D10 D6 D6d D9 D7,M13,p13,B13⟩
 have D14:Df l.prog w K mg base (CXx l.prog w) 1 "refuse_beyond" ["entry"] [] (vJ K fY):=⟨_,_,uE B TF TMk F14,M14,p14,B14⟩
 have D15:Df l.prog w K mg base (CXx l.prog w) 6 "built_anew" ["order","entries"] [] (uT K fW fV fS fY):=⟨_,_,jG B F15 D13 D14 D11,M15,p15,B15⟩
 have D16:Df l.prog w K mg base (CXx l.prog w) 7 "thinned" ["order","entries"] [] (ZV K fW fV fS TB fY):=⟨_,_,XO B TF TMk F16 D12 D15 D10,M16,p16,B16⟩
 have D17:Df l.prog w K mg base CX0 1 "_law_cell" ["_law_script","_law_k"] [] (qx K):=⟨_,_,KO B F17,M17,p17,B17⟩
 have D18:Df l.prog w K mg base CX0 1 "_law_mixed" ["_law_cell_here","_law_turn"] [] w4:=⟨_,_,Qw B F18,M18,p18,B18⟩
 have D19:Df l.prog w K mg base CX0 2 "_law_letters" ["_law_cell_here","_law_many"] [] wV:=⟨_,_,Xz B F19 D18,M19,p19,B19⟩
 have D20:Df l.prog w K mg base CX0 1 "_law_word" ["_law_number","_law_letters_here","_law_most"] [] jM:=⟨_,_,JB B F20,M20,p20,B20⟩
 have D21:Df l.prog w K mg base CX0 2 "_law_pair" ["_law_cell_here","_law_letters_here","_law_most"] [] qV:=⟨_,_,K2 B F21 D20 D18,M21,p21,B21⟩
 have D22:Df l.prog w K mg base CX0 1 "_law_whole" ["_law_found"] [] uU:=⟨_,_,U6 B ⟨ki,kb⟩ F22,M22,p22,B22⟩
 have D23:Df l.prog w K mg base CX0 2 "_law_steps" ["_law_found"] [] (jY K):=⟨_,_,QI B ⟨kl,kt,kbb⟩ F23 D22,M23,p23,B23⟩
 have D24:Df l.prog w K mg base CX0 6 "_law_order" ["_law_kind","_law_letters_here","_law_weights"] [] (km K fW fV fS):=⟨_,_,UA B TT F24,M24,p24,B24⟩
 have D25:Df l.prog w K mg base CX0 3 "_law_draw" ["_law_cell_here"] [] Yo:=⟨_,_,Jt B F25 D19 D18,M25,p25,B25⟩
 have D26:Df l.prog w K mg base CX0 3 "_law_entries" ["_law_found"] [] (Yq K):=⟨_,_,X7 B ⟨kl,kt,kbb⟩ ⟨ks⟩ F26 D23,M26,p26,B26⟩
 have D27:Df l.prog w K mg base CX0 1 "_law_rank" ["_law_kind","_law_letters_here","_law_weights","_law_word_here"] [] vI:=⟨_,_,Js B F27,M27,p27,B27⟩
 obtain⟨_,iM⟩:=iK
 have ow:=iM.kp
 have nw:=iM.binds (ps:=["self","order","rules"]) λ_ _ _ _ _ _ us hl=>by obtain⟨_,_,_,rfl⟩:=Wc hl;rfl
 have ny:DMk l.prog w K mg base (CXx l.prog w) 5 fZ ["self","order","rules"] (qb K fW fV fS fX fZ):=⟨_,_,⟨mD,iJ,iL,mE⟩,jl B TD TS DBk iM,nw⟩
 have MS:MkS l.prog w K mg base fW fV fS fX fZ:=ny
 have D28:Df l.prog w K mg base CX0 1 "agree" ["one","other","place"] [] qd:=⟨_,_,Qp B F28,M28,p28,B28⟩
 have D29:Df l.prog w K mg base CX0 2 "overlaps" ["rules"] [] (wb K):=⟨_,_,Z0 B F29 D28,M29,p29,B29⟩
 have D30:Df l.prog w K mg base CX0 4 "peak" ["rules","overlap"] [] (qi K):=⟨_,_,JL B F30 D3,M30,p30,B30⟩
 have D31:Df l.prog w K mg base (CXx l.prog w) 5 "form_of" ["rules","word","most","forms"] [] (jK l.prog w K fY):=⟨_,_,Xu B F31 D6 D6d,M31,p31,B31⟩
 have D32:Df l.prog w K mg base (CXx l.prog w) 6 "is_met" ["rules","overlap","most","forms"] [] (uR l.prog w K fY):=⟨_,_,Wz B F32 D30 D31,M32,p32,B32⟩
 obtain⟨_,gz⟩:=gx
 have lS:=gz.kp
 have lT:=gz.binds (ps:=["self"]) λ_ _ _ _ _ _ us hl=>by obtain⟨_,rfl⟩:=kF hl;rfl
 have iF:DM l.prog w K mg base CX0 1 fZ "rules_told" ["self"] (uO K fZ):=⟨_,_,⟨gw,gy,lS⟩,w8 B TS gz,lT⟩
 have O33:=U0 (P:=l.prog) (w:=w) (base:=base) B TS F33 D29 D32 iF
 have D33:Df l.prog w K mg base (CXx l.prog w) 7 "unmet" ["system","most"] [] (vE K fZ fY):=⟨_,_,O33,M33,p33,λs us hK hl=>by obtain⟨_,_,rfl⟩:=uj (us:=us) (by simpa using hl);exact BindsTo.of_defaults rfl (hK _ _ lQ) rfl rfl rfl⟩
 have D33d:Df l.prog w K mg base (CXx l.prog w) 7 "unmet" ["system","most"] [.int 4000 lN] (vE K fZ fY):=⟨_,_,O33,M33,p33,λs us hK hl=>by obtain⟨_,rfl⟩:=kF (us:=us) (by simpa using hl);exact BindsTo.of_defaults rfl (hK _ _ lQ) rfl rfl rfl⟩
 have D34:Df l.prog w K mg base (CXx l.prog w) 7 "system_by" ["order","entries"] [] (uV K fW fV fS fX fZ):=⟨_,_,ZK B TS MS F34 D10,M34,p34,B34⟩
 have D35:Df l.prog w K mg base CX0 1 "first_entries" ["pacts"] [] (jI K):=⟨_,_,uD B F35,M35,p35,B35⟩
 have D36:Df l.prog w K mg base CX0 1 "is_beyond" ["entries"] [] (jb K):=⟨_,_,kL B (aL X G nany) TMcc F36,M36,p36,B36⟩
 have D37:Df l.prog w K mg base CX0 8 "thinned_within" ["order","entries"] [] (WQ K fW fV fS TB):=⟨_,_,ug B TF ⟨sFF⟩ F37 D16 D36,M37,p37,B37⟩
 have D38:Df l.prog w K mg base CX0 9 "unmet_within" ["order","entries"] [] (Ve K fW fV fS):=⟨_,_,qy B TF ⟨sFF⟩ TMcc F38 D33 D33d D34,M38,p38,B38⟩
 have D39:Df l.prog w K mg base CX0 5 "entry_of" ["entries","overlap"] [] (uS K):=⟨_,_,Yi B F39 D30 D9 D10,M39,p39,B39⟩
 have D40:Df l.prog w K mg base CX0 10 "completed" ["order","pacts","rounds"] [] (V5 K fW fV fS TB):=⟨_,_,ZG B TMcc F40 D35 D37 D38 D39,M40,p40,B40⟩
 have D41:Df l.prog w K mg base CX0 4 "_law_told" ["_law_found"] [] (jX K):=⟨_,_,KF B ⟨kt,kbb⟩ F41 D26,M41,p41,B41⟩
 have D42:Df l.prog w K mg base CX0 1 "_law_form" ["_law_rules","_law_word_here"] [] (wm K):=⟨_,_,K4 B ⟨(aL X G nmin)⟩ F42,M42,p42,B42⟩
 have D43:Df l.prog w K mg base CX0 2 "_law_meet" ["_law_rules"] [] (ky K):=⟨_,_,KY B ⟨(aL X G nmin)⟩ F43 D42,M43,p43,B43⟩
 have TA:zc3 K mg fX:=⟨aM X G g_NotTurned,XIt,nn,hdT,sTT,kl,kb⟩
 have D44:Df l.prog w K mg base CX0 9 "_law_system" ["_law_order_here","_law_entries_here","_law_rules","_law_cell_here"] [] (Yd K fW fV fS):=⟨_,_,W7 B TA TS F44 D34 iF,M44,p44,B44⟩
 exact zaf B (aL X G nany) F45 D25 D24 D40 D17 D21 D41 D44 D43 D27 D42
theorem walk{l:PySem.W.OpenLaw}{q:oU}{loose:List oV}{XP:(oV->Option oP)->oZ->Prop}{YP:oW->oZ->Prop}{d:DefRec}{K:Params->oN}(hn:l.most=sI 63)(hdf:d.params.defaults=[])
  (hY:∀(w:oW) (h:oZ),YP w h->(K w.params).In h) (hj:((PyProof.Rows.recsOf q).find? λr=>r.name == ("in_order" : oV)).isSome=sK) (hno:∀w:oW,Ky (K w.params)=sK)
  (F:∀(w:oW) (mg:oV->Option oP) (fa:oO) (h:oZ) (cc T:oO),(K w.params).In h->h.Ns oJ mg->mg d.name=sI (.ref fa)->(∃a o fd,mg "in_order" = sI (.ref a)/\h.get? a=sI o/\o.data=.func fd/\fd.code=.ref cc)->oJ≠T ->
   ∃fd:oS,(∀(s:oQ) (u:oP),rW s fd ⟨[u],[]⟩ [("_law_script",u)])/\∀base:oZ,(K w.params).In base->base.Ns oJ mg->base.BuiltinsAt mg T->PySem.W.CodeHd base cc T->z8 l.prog w (K w.params) mg base CX0 11 fa fd ["_law_script"] (Xp (K w.params) T)) :
  PySem.W.WalkO q loose XP YP l.row.toRowW d [] (λf vs=>fP f vs):=by
 obtain⟨din,hd⟩:=tD.mp hj
 have hnm:din.name="in_order":=by simpa using dP hd
 exact L3.walk_ofT (n:=63) (k:=11) (x:="_law_script") (CX:=λ_=>CX0) (din:=din) (sp:=λw T=>Xp (K w.params) T) hn (by decide) hdf ⟨rfl,by decide,by decide⟩ (et hd) hY hno (λw mg fa h cc T a b c e g=>F w mg fa h cc T a b c (by rw[hnm] at e;exact e) g) (λ_ _ a ns T hl hB hT hS=>⟨a,ns,rfl,hS,hB,hT,λ_=>rfl⟩) λ_ _ _ _ _ z=>z
end LL
namespace PySem.W.Fast
def tw12295045665268328744:=Nat
def tw6597967219775010859:=Nat
def tw8144026949261558208:=Nat
def tw6738926185198947172:=Nat
def tw12388175964327223235:=Nat
def tw10283078487865574527:=Nat
def tw12230705692273828262:=Nat
def tw1139059684946799688:=Nat
def tw4623325695833558956:=Nat
def tw6931339112581471053:=Nat
def tw5992898559645716243:=Nat
def tw9344913368545930892:=Nat
def tw7612051714429005570:=Nat
def tw10535710846318482864:=Nat
def tw372908861160522889:=Nat
def tw15051050163815736881:=Nat
def tw5169984602653070063:=Nat
def tw18437555775226735227:=Nat
def tw7126038695174329771:=Nat
def tw129709519725881675:=Nat
def tw6154380908658353507:=Nat
def tw4085748493777923797:=Nat
def tw7356896375742302388:=Nat
def tw16929532088393362008:=Nat
def tw15697658457388901354:=Nat
def tw4266373129249540032:=Nat
def tw12916432589748837536:=Nat
def tw8416031816331543417:=Nat
def tw4284840121560549988:=Nat
def tw16684848515734279796:=Nat
def tw5454053170684701966:=Nat
def tw10266253450097957686:=Nat
def tw4943411163702765169:=Nat
def tw5465010455111628696:=Nat
def tw4334303691351521783:=Nat
def tw5569248369797665799:=Nat
def tw10640392798068284979:=Nat
def tw12311641888001509212:=Nat
def tw896010326729414285:=Nat
def tw9947015899321909993:=Nat
def tw13063036882269085252:=Nat
def tw3516460054738045774:=Nat
def tw1598111956093968778:=Nat
def tw11698813690647756942:=Nat
def tw1382059114749916303:=Nat
def tw12668812433413847793:=Nat
def tw3985317882119201491:=Nat
def tw16375438100067944115:=Nat
def tw13913303059651700155:=Nat
def tw2716765256544239882:=Nat
def tw6301330288820280967:=Nat
def tw12567656808069837773:=Nat
def tw3427194411856518219:=Nat
def tw17881560994633342313:=Nat
def tw14882776274363201816:=Nat
def tw10688238266241156703:=Nat
def tw18159739334443062392:=Nat
def tw5393855500556944618:=Nat
def tw17219708036447376685:=Nat
def tw12212513971450125560:=Nat
def tw16016268503827733280:=Nat
def tw13986034534276309106:=Nat
def tw4762143451120109707:=Nat
def tw4400549550664784588:=Nat
def tw18294768637227594882:=Nat
def tw12314014323824819265:=Nat
def tw11905914063186926965:=Nat
def tw9473946419017654314:=Nat
def tw717613313142132883:=Nat
def tw16390304057330722573:=Nat
def tw12229847672304587745:=Nat
def tw17423584245443376792:=Nat
def tw1090104666428635381:=Nat
def tw4184366025070667872:=Nat
def tw11574941117677915815:=Nat
def tw6023254852558207584:=Nat
def tw6930388634351062215:=Nat
def tw4392890860306835200:=Nat
def tw1267392192116801292:=Nat
def tw6574595509903525809:=Nat
def tw2962578823988673000:=Nat
def tw3512889430048350497:=Nat
def tw6136314568156552208:=Nat
def tw6218111426379596226:=Nat
def tw6320922984815827338:=Nat
def tw11345372178536181432:=Nat
def tw16769049496479060610:=Nat
def tw5241392104278599089:=Nat
def tw4124503386839686344:=Nat
def tw3455780411517070517:=Nat
def tw6218706110424621491:=Nat
def tw2707014422420765763:=Nat
def tw5488673651584752170:=Nat
def tw3660524702580830358:=Nat
def tw12096229834326521230:=Nat
def tw13284648094028997790:=Nat
def tw17228160282758774085:=Nat
def tw10619696055754774350:=Nat
def tw14864932381704999042:=Nat
def tw11267945704087645818:=Nat
def tw16309064330567678199:=Nat
def tw3162008671124795031:=Nat
def tw13719113828753004302:=Nat
def tw5583526406633492428:=Nat
def tw9851368660904034487:=Nat
def tw6328015784578220747:=Nat
def tw11734257967516190527:=Nat
def tw1758219614495324054:=Nat
def tw1950759387549948385:=Nat
def tw5139397746780292434:=Nat
def tw4836380813254222519:=Nat
def tw2702970041403225846:=Nat
def tw1603391007699892727:=Nat
def tw6071754962821326073:=Nat
def tw13546124691952672482:=Nat
def tw4647442844470535943:=Nat
def tw6396300575889763613:=Nat
def tw12264081998568426660:=Nat
def tw2744889609530161449:=Nat
def tw14970409268534460856:=Nat
def tw8532269453887432057:=Nat
def tw17948968237833584762:=Nat
def tw17620023158308188215:=Nat
def tw5997559508975366142:=Nat
def tw7115551793537925165:=Nat
def tw750873553532219079:=Nat
def tw859930958654668293:=Nat
def tw8654132455256721782:=Nat
def tw8661484023192660839:=Nat
def tw16052162575142294438:=Nat
def tw17101673078425226782:=Nat
def tw8364332302784441730:=Nat
def tw1548100281787110400:=Nat
def tw7385273981859783325:=Nat
def tw4275984274310560355:=Nat
def tw6653588540849518939:=Nat
def tw15386600440833446439:=Nat
def tw17888051308490846039:=Nat
def tw3148132861466925433:=Nat
def tw5787811213640093636:=Nat
def tw5956815812191798342:=Nat
def tw13583641053293146964:=Nat
def tw11301038602729184770:=Nat
def tw10838021362755885570:=Nat
def tw7424000634426129516:=Nat
def tw14639133427635231056:=Nat
def tw5109349968778283029:=Nat
def tw11310762552803239284:=Nat
def tw687892910554705630:=Nat
def tw10881650940778209387:=Nat
def tw3986453736201532269:=Nat
def tw9175070608157334278:=Nat
def tw1690228157328653903:=Nat
def tw7142799589917856007:=Nat
def tw14703628581604824881:=Nat
def tw17787616503299017014:=Nat
def tw11142198673592756795:=Nat
def tw2153712303215513647:=Nat
def tw10299963440726968053:=Nat
def tw17473093589451442937:=Nat
def tw5496842190229783718:=Nat
def tw10816937601055346206:=Nat
def tw16887620874157828542:=Nat
def tw6018585588214758421:=Nat
def tw3153588560486011897:=Nat
def tw4841982404695219547:=Nat
def tw17196175079565674277:=Nat
def tw13187500299887469926:=Nat
def tw4965441426331959764:=Nat
def tw17561837192287570268:=Nat
def tw2041758256364972354:=Nat
def tw1800900317151277945:=Nat
def tw3563313414309321659:=Nat
def tw11239707221592491334:=Nat
def tw593144825084557656:=Nat
def tw5189426092682663678:=Nat
def tw6532072846057843131:=Nat
def tw12931234968002652863:=Nat
def tw12532960538517155918:=Nat
def tw17363014622711083292:=Nat
def tw5638199916436667890:=Nat
def tw17729195822605913583:=Nat
def tw12834739140545059638:=Nat
def tw13225034474556460215:=Nat
def tw10956694256676051447:=Nat
def tw1647568259213180465:=Nat
def tw1816186092565434361:=Nat
def tw15660891003274963821:=Nat
def tw2792154142822335557:=Nat
def tw34029161334753:=Nat
def tw6552985246708115698:=Nat
def tw16212526630121082960:=Nat
def tw2511230764636494382:=Nat
def tw15240872964106800533:=Nat
def tw15620482946861755902:=Nat
def tw6149034743127315832:=Nat
def tw17821381307902088158:=Nat
def tw7176651653417529666:=Nat
def tw7351542412600416346:=Nat
def tw2425225885787160557:=Nat
def tw11653045955545783718:=Nat
def tw9853215085323606803:=Nat
def tw10607807797648861715:=Nat
def tw17611213213909571003:=Nat
def tw16103163346982081824:=Nat
def tw7622916291230406275:=Nat
def tw11947243902019858134:=Nat
def tw3643478679642622077:=Nat
def tw13202018646309587609:=Nat
def tw2620523754516730743:=Nat
def tw12981157142986112759:=Nat
def tw5410959170796984474:=Nat
def tw8388898136487318511:=Nat
def tw2043175553588790070:=Nat
def tw7510585565530472611:=Nat
def tw15178103882970591874:=Nat
def tw12663781743207328606:=Nat
def tw16191119788638385385:=Nat
def tw6857360364818155051:=Nat
def tw6630646285020405941:=Nat
def tw5649832666329327181:=Nat
def tw16785178346201304560:=Nat
def tw16023307093460137108:=Nat
def tw7995059968157557791:=Nat
def tw10120749121243889041:=Nat
def tw8103195704629143572:=Nat
def tw9873319585500370211:=Nat
def tw18222406186874053080:=Nat
def tw15892763893031026507:=Nat
def tw9044427721966493718:=Nat
def tw11562789739516869006:=Nat
def tw6746303669511238065:=Nat
def tw8453508581946011711:=Nat
def tw15976483523416743042:=Nat
def tw5468336081712411692:=Nat
def tw8102210287070991243:=Nat
def tw6585461985235335159:=Nat
def tw11063972398243564945:=Nat
def tw2539047763453569517:=Nat
def tw16788142180698502606:=Nat
def tw62846470157327584:=Nat
def tw2423447081012808535:=Nat
def tw14322967637286893062:=Nat
def tw2098889803045481304:=Nat
def tw9482557600712694268:=Nat
def tw8567490781358363340:=Nat
def tw7811292683207606706:=Nat
def tw8988884731061456252:=Nat
def tw5821253289086577425:=Nat
def tw4789547946394555141:=Nat
def tw8299541697643632765:=Nat
def tw15659957399491839779:=Nat
def tw1576335352151218959:=Nat
def tw9197288648568048812:=Nat
def tw12834979033880821886:=Nat
def tw9097833064934923217:=Nat
def tw2625361944065665498:=Nat
def tw17595720329719437104:=Nat
def tw17510532063579709245:=Nat
def tw13747895115326561915:=Nat
def tw17934736637162917530:=Nat
def tw754687087139541022:=Nat
def tw667139470671161954:=Nat
def tw4687430963043199431:=Nat
def tw8235077926621411472:=Nat
def tw4355768134546444014:=Nat
def tw1755960315917231089:=Nat
def tw15344682849243332939:=Nat
def tw5042139810063634968:=Nat
def tw3078818635054285029:=Nat
def tw3520245766298207872:=Nat
def tw15400614586526140295:=Nat
def tw11779442849156698797:=Nat
def tw187213226895566498:=Nat
def tw9754896367661113882:=Nat
def tw17811592884102263974:=Nat
def tw4908282247717788515:=Nat
def tw7302319643401077163:=Nat
def tw9423745215229362985:=Nat
def tw2753398321808862812:=Nat
def tw3833990286802456150:=Nat
def tw12752938895136748359:=Nat
def tw17994057080428918057:=Nat
def tw2050050592206870216:=Nat
def tw8064753548833723492:=Nat
def tw3253970990610210665:=Nat
def tw6184501427170578996:=Nat
def tw13143574703509274357:=Nat
def tw545464020831736838:=Nat
def tw13187278628843198548:=Nat
def tw9793085369726754929:=Nat
def tw9238575785065382427:=Nat
def tw10483879352348331784:=Nat
def tw7048974182377856413:=Nat
def tw20984659825533116:=Nat
def tw11924490199822471915:=Nat
def tw3450223539209484398:=Nat
def tw8632229081905837249:=Nat
def tw10989999424429579152:=Nat
def tw10825536417195638536:=Nat
def tw17922106295128540244:=Nat
def tw3343599799122381270:=Nat
def tw17689882098356305599:=Nat
def tw9172357383048606836:=Nat
def tw6622731079985380946:=Nat
def tw7463842198411332536:=Nat
def tw13177234443600921518:=Nat
def tw12653271105177956296:=Nat
def tw11643960084291593840:=Nat
def tw17115126677248803604:=Nat
def tw9322410325307859888:=Nat
def tw2658124559394353931:=Nat
def tw7488970596798878923:=Nat
def tw3720404598224202384:=Nat
def tw1687865918103477699:=Nat
end PySem.W.Fast
open PySem PySem.W PyProof.Rows
set_option maxRecDepth 100000 in
set_option maxHeartbeats 0 in
theorem PySem.Challenge.cw_letterlaw_k56_whole_overlaps_meet_holds : PySem.Challenge.rw_letterlaw_k56_whole_overlaps_meet.Holds := by
 w_on;o_law;k_head; (case hw=>w_witness2)
 k_fill
 refine LL.walk (l:=PySem.Challenge.rw_letterlaw_k56_whole_overlaps_meet) rfl rfl (λw h Y=>PySem.W.km_in_of Y) ?hJJ ?hNN ?hFF
 case hJJ=>first | kernel_rfl | rfl | decide +kernel
 case hNN=>intro w;first | kernel_rfl | rfl
 case hFF =>
  intro w mg fa h cc T KX G hmg hlam hgT
  refine' LL.all_mk KX G hmg hlam hgT ?a0 ?a1 ?a2 ?a3 ?a4 ?a5 ?a6 ?l6 ?k6 ?p6 ?a7 ?a8 ?a9 ?a10 ?a11 ?a12 ?l12 ?k12 ?p12 ?a13 ?a14 ?a15 ?a16 ?a17 ?a18 ?a19 ?a20 ?a21 ?a22 ?a23 ?a24 ?a25 ?a26 ?a27 ?a28 ?a29 ?a30 ?a31 ?a32 ?a33 ?l33 ?k33 ?p33 ?a34 ?a35 ?a36 ?a37 ?a38 ?a39 ?a40 ?a41 ?a42 ?a43 ?a44 ?a45 ?l45 ?k45 ?p45 ?g_LetterError ?g_NoLetters ?g_NoOrder ?g_Order ?g_FromRight ?g_ByWeights ?g_NotTurned ?g_System ?g_NoUse ?g_TooFar ?kbb ?kt ?ki ?kb ?kl ?x7 ?x8 ?x1 ?x2 ?x3 ?x4 ?x5 ?x6 ?x9 ?xi ?y1 ?y2 ?y3 ?y4 ?y5 ?y6 ?y9 ?yi ?most ?mostw ?mQ ?mS ?mT ?mU ?mV ?mX ?mY ?nM ?nN ?nO ?lh ?lm ?ln ?lr ?lu ?lv ?lw ?mm ?mq ?mr ?lx ?ly ?lA ?lB ?lC ?lD ?lE ?mv ?mw ?mx ?nw_ByWeights ?sgO ?rdO ?win ?tt1 ?tt2 ?tt3 ?tt4 ?tt5 ?tt6 ?tt9 ?nn ?ini ?lI ?kI ?pI ?fnI ?my ?mz ?mB ?mC ?mD ?mE ?no_System ?nr_System ?u1 ?u2 ?u3 ?u4 ?u5 ?u6 ?u9 ?ua ?iniU ?lU ?kU ?pU ?fnU ?v1 ?v2 ?v3 ?v4 ?v5 ?v6 ?v9 ?vi ?sFF ?ks ?hdT ?sTT ?nmin ?nany ?nsorted ?mou ?mos ?mod_ ?mop ?mcu ?mce ?mcd ?mcp ?iP ?iQ ?iq ?iz ?iA ?gN ?iR ?iS ?ir ?gY ?gZ ?ic ?ie ?ig ?ij ?gH ?gJ ?gK ?iT ?iU ?gD ?iB ?iC ?gp ?iJ ?iK ?iL ?gw ?gx ?gy ?mG ?lQ ?fcO ?fiR_init ?fiR_weight ?fiW_seen ?fiR_rank ?fiW_rank ?fiR_before ?fiW_before ?b0 ?b1 ?b2 ?b3 ?b4 ?b5 ?b6 ?b7 ?b8 ?b9 ?b10 ?b11 ?b12 ?b13 ?b14 ?b15
  (case a0=>exact⟨by k_is,_,L2.fun_mk (by k_is) (by k_is) (by k_is)⟩)
  (case a1=>exact⟨by k_is,_,L2.fun_mk (by k_is) (by k_is) (by k_is)⟩)
  (case a2=>exact⟨by k_is,_,L2.fun_mk (by k_is) (by k_is) (by k_is)⟩)
  (case a3=>exact⟨by k_is,_,L2.fun_mk (by k_is) (by k_is) (by k_is)⟩)
  (case a4=>exact⟨by k_is,_,L2.fun_mk (by k_is) (by k_is) (by k_is)⟩)
  (case a5=>exact⟨by k_is,_,L2.fun_mk (by k_is) (by k_is) (by k_is)⟩)
  case a6|l6|k6|p6=>k_is
  (case a7=>exact⟨by k_is,_,L2.fun_mk (by k_is) (by k_is) (by k_is)⟩)
  (case a8=>exact⟨by k_is,_,L2.fun_mk (by k_is) (by k_is) (by k_is)⟩)
  (case a9=>exact⟨by k_is,_,L2.fun_mk (by k_is) (by k_is) (by k_is)⟩)
  (case a10=>exact⟨by k_is,_,L2.fun_mk (by k_is) (by k_is) (by k_is)⟩)
  (case a11=>exact⟨by k_is,_,L2.fun_mk (by k_is) (by k_is) (by k_is)⟩)
  case a12|l12|k12|p12=>k_is
  (case a13=>exact⟨by k_is,_,L2.fun_mk (by k_is) (by k_is) (by k_is)⟩)
  (case a14=>exact⟨by k_is,_,L2.fun_mk (by k_is) (by k_is) (by k_is)⟩)
  (case a15=>exact⟨by k_is,_,L2.fun_mk (by k_is) (by k_is) (by k_is)⟩)
  (case a16=>exact⟨by k_is,_,L2.fun_mk (by k_is) (by k_is) (by k_is)⟩)
  (case a17=>exact⟨by k_is,_,L2.fun_mk (by k_is) (by k_is) (by k_is)⟩)
  (case a18=>exact⟨by k_is,_,L2.fun_mk (by k_is) (by k_is) (by k_is)⟩)
  (case a19=>exact⟨by k_is,_,L2.fun_mk (by k_is) (by k_is) (by k_is)⟩)
  (case a20=>exact⟨by k_is,_,L2.fun_mk (by k_is) (by k_is) (by k_is)⟩)
  (case a21=>exact⟨by k_is,_,L2.fun_mk (by k_is) (by k_is) (by k_is)⟩)
  (case a22=>exact⟨by k_is,_,L2.fun_mk (by k_is) (by k_is) (by k_is)⟩)
  (case a23=>exact⟨by k_is,_,L2.fun_mk (by k_is) (by k_is) (by k_is)⟩)
  (case a24=>exact⟨by k_is,_,L2.fun_mk (by k_is) (by k_is) (by k_is)⟩)
  (case a25=>exact⟨by k_is,_,L2.fun_mk (by k_is) (by k_is) (by k_is)⟩)
  (case a26=>exact⟨by k_is,_,L2.fun_mk (by k_is) (by k_is) (by k_is)⟩)
  (case a27=>exact⟨by k_is,_,L2.fun_mk (by k_is) (by k_is) (by k_is)⟩)
  (case a28=>exact⟨by k_is,_,L2.fun_mk (by k_is) (by k_is) (by k_is)⟩)
  (case a29=>exact⟨by k_is,_,L2.fun_mk (by k_is) (by k_is) (by k_is)⟩)
  (case a30=>exact⟨by k_is,_,L2.fun_mk (by k_is) (by k_is) (by k_is)⟩)
  (case a31=>exact⟨by k_is,_,L2.fun_mk (by k_is) (by k_is) (by k_is)⟩)
  (case a32=>exact⟨by k_is,_,L2.fun_mk (by k_is) (by k_is) (by k_is)⟩)
  case a33|l33|k33|p33=>k_is
  (case a34=>exact⟨by k_is,_,L2.fun_mk (by k_is) (by k_is) (by k_is)⟩)
  (case a35=>exact⟨by k_is,_,L2.fun_mk (by k_is) (by k_is) (by k_is)⟩)
  (case a36=>exact⟨by k_is,_,L2.fun_mk (by k_is) (by k_is) (by k_is)⟩)
  (case a37=>exact⟨by k_is,_,L2.fun_mk (by k_is) (by k_is) (by k_is)⟩)
  (case a38=>exact⟨by k_is,_,L2.fun_mk (by k_is) (by k_is) (by k_is)⟩)
  (case a39=>exact⟨by k_is,_,L2.fun_mk (by k_is) (by k_is) (by k_is)⟩)
  (case a40=>exact⟨by k_is,_,L2.fun_mk (by k_is) (by k_is) (by k_is)⟩)
  (case a41=>exact⟨by k_is,_,L2.fun_mk (by k_is) (by k_is) (by k_is)⟩)
  (case a42=>exact⟨by k_is,_,L2.fun_mk (by k_is) (by k_is) (by k_is)⟩)
  (case a43=>exact⟨by k_is,_,L2.fun_mk (by k_is) (by k_is) (by k_is)⟩)
  (case a44=>exact⟨by k_is,_,L2.fun_mk (by k_is) (by k_is) (by k_is)⟩)
  case a45|l45|k45|p45|g_LetterError|g_NoLetters|g_NoOrder|g_Order|g_FromRight|g_ByWeights|g_NotTurned|g_System|g_NoUse|g_TooFar=>k_is
  (case kbb=>first | kernel_rfl | rfl)
  (case kt=>first | kernel_rfl | rfl)
  (case ki=>first | kernel_rfl | rfl)
  (case kb=>first | kernel_rfl | rfl)
  (case kl=>first | kernel_rfl | rfl)
  case x7|x8=>k_is
  (case x1=>first | kernel_rfl | rfl | decide +kernel)
  case x2|x3|x4|x5|x6|x9|xi=>k_is
  (case y1=>first | kernel_rfl | rfl | decide +kernel)
  case y2|y3|y4|y5|y6|y9|yi|most|mostw=>k_is
  (case mQ=>first | kernel_rfl | rfl | k_is | decide +kernel)
  (case mS=>first | kernel_rfl | rfl | k_is)
  (case mT=>first | kernel_rfl | rfl | k_is | decide +kernel)
  case mU=>k_is
  (case mV=>first | kernel_rfl | rfl | k_is | decide +kernel)
  case mX|mY=>k_is
  (case nM=>first | kernel_rfl | rfl)
  case nN|nO=>k_is
  (case lh=>first | kernel_rfl | rfl | k_is | decide +kernel)
  (case lm=>first | kernel_rfl | rfl | k_is)
  (case ln=>first | kernel_rfl | rfl | k_is | decide +kernel)
  case lr=>k_is
  (case lu=>first | kernel_rfl | rfl | k_is | decide +kernel)
  case lv|lw=>k_is
  (case mm=>first | kernel_rfl | rfl)
  case mq|mr=>k_is
  (case lx=>first | kernel_rfl | rfl | k_is | decide +kernel)
  (case ly=>first | kernel_rfl | rfl | k_is)
  (case lA=>first | kernel_rfl | rfl | k_is | decide +kernel)
  case lB=>k_is
  (case lC=>first | kernel_rfl | rfl | k_is | decide +kernel)
  case lD|lE=>k_is
  (case mv=>first | kernel_rfl | rfl)
  case mw|mx|nw_ByWeights|sgO=>k_is
  (case rdO=>first | kernel_rfl | rfl | k_is | decide +kernel)
  case win=>k_is
  (case tt1=>first | kernel_rfl | rfl | decide +kernel)
  case tt2|tt3|tt4|tt5|tt6|tt9|nn|ini|lI|kI|pI=>k_is
  (case fnI=>first | kernel_rfl | rfl | k_is)
  (case my=>first | kernel_rfl | rfl | k_is | decide +kernel)
  (case mz=>first | kernel_rfl | rfl | k_is)
  (case mB=>first | kernel_rfl | rfl | k_is | decide +kernel)
  case mC=>k_is
  (case mD=>first | kernel_rfl | rfl | k_is | decide +kernel)
  case mE|no_System|nr_System=>k_is
  (case u1=>first | kernel_rfl | rfl | decide +kernel)
  case u2|u3|u4|u5|u6|u9|ua|iniU|lU|kU|pU=>k_is
  (case fnU=>first | kernel_rfl | rfl | k_is)
  (case v1=>first | kernel_rfl | rfl | decide +kernel)
  case v2|v3|v4|v5|v6|v9|vi|sFF=>k_is
  (case ks=>first | kernel_rfl | rfl)
  (case hdT=>first | kernel_rfl | rfl | k_is)
  case sTT|nmin|nany|nsorted|mou|mos|mod_|mop|mcu|mce|mcd|mcp|iP=>k_is
  (case iQ=>exact⟨_,L2.fun_mk (by k_is) (by k_is) (by k_is)⟩)
  (case iq=>first | kernel_rfl | rfl | k_is)
  case iz=>k_is
  (case iA=>exact⟨_,L2.fun_mk (by k_is) (by k_is) (by k_is)⟩)
  (case gN=>first | kernel_rfl | rfl | k_is)
  case iR=>k_is
  (case iS=>exact⟨_,L2.fun_mk (by k_is) (by k_is) (by k_is)⟩)
  (case ir=>first | kernel_rfl | rfl | k_is)
  case gY=>k_is
  (case gZ=>exact⟨_,L2.fun_mk (by k_is) (by k_is) (by k_is)⟩)
  (case ic=>first | kernel_rfl | rfl | k_is)
  case ie=>k_is
  (case ig=>exact⟨_,L2.fun_mk (by k_is) (by k_is) (by k_is)⟩)
  (case ij=>first | kernel_rfl | rfl | k_is)
  case gH=>k_is
  (case gJ=>exact⟨_,L2.fun_mk (by k_is) (by k_is) (by k_is)⟩)
  (case gK=>first | kernel_rfl | rfl | k_is)
  case iT=>k_is
  (case iU=>exact⟨_,L2.fun_mk (by k_is) (by k_is) (by k_is)⟩)
  (case gD=>first | kernel_rfl | rfl | k_is)
  case iB=>k_is
  (case iC=>exact⟨_,L2.fun_mk (by k_is) (by k_is) (by k_is)⟩)
  (case gp=>first | kernel_rfl | rfl | k_is)
  case iJ=>k_is
  (case iK=>exact⟨_,L2.fun_mk (by k_is) (by k_is) (by k_is)⟩)
  (case iL=>first | kernel_rfl | rfl | k_is)
  case gw=>k_is
  (case gx=>exact⟨_,L2.fun_mk (by k_is) (by k_is) (by k_is)⟩)
  (case gy=>first | kernel_rfl | rfl | k_is)
  case mG|lQ|fcO|fiR_init|fiR_weight|fiW_seen|fiR_rank|fiW_rank|fiR_before|fiW_before|b0|b1|b2|b3|b4|b5|b6|b7|b8|b9|b10|b11|b12|b13|b14|b15=>k_is
#print axioms PySem.Challenge.cw_letterlaw_k56_whole_overlaps_meet_holds
